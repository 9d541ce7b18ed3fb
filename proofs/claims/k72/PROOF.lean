import PyProof.Rows.All
import Wide.All
import OpenK.AllK
import Wide.FinOn
import Lean
import PyProof.EqAt
import PyProof.EqKinds
import PyProof.TupleCall
import PyProof.NeData
import PyProof.P3Eq
import PyProof.StrLawsIn
import PyProof.StrLawsJoin
import PyProof.StrBlockL
import PyProof.Rows.StrSplitCount
import PySem.Challenge.RW_beaconvale_k72_all_hearings
set_option Elab.async false
set_option linter.all false
set_option maxRecDepth 100000
set_option maxHeartbeats 4000000
set_option Elab.async false
set_option linter.all false
set_option maxRecDepth 100000
def qb:=@List.getElem?_eq_getElem
def qc:=@List.length_map
def qd:=@PySem.Heap.get?_push_of_some
def qe:=@List.mem_of_getElem?
def qf:=@List.length_append
def qg:=@Nat.le_refl
def qh:=@List.mem_cons
def qi:=@List.getElem?_append_right
def qj:=@List.getElem?_map
def qk:=@List.getElem?_append_left
def qm:=@List.append_assoc
def qo:=@List.size_toArray
def qp:=@List.lookup_cons
def qq:=@PySem.Heap.get?_push_size
def qr:=@PySem.Heap.lt_size
def qu:=@Bool.false_ne_true
def qv:=@List.getElem?_eq_none
def qw:=@List.mem_cons_of_mem
def qA:=@List.map_append
def qB:=@Option.some.inj
def qC:=@Int.le_refl
def qD:=@Nat.lt_of_lt_of_le
def qE:=@List.getD_eq_getElem?_getD
def qF:=@List.not_mem_nil
def qG:=@Bool.and_eq_true
def qH:=@List.mem_iff_getElem
def qI:=@List.mem_append
def qJ:=@List.map_cons
def qK:=@List.length_replicate
def qL:=@Nat.ne_of_lt
def qM:=@List.getElem?_set_ne
def qN:=@List.getElem?_set_self
def qO:=@Nat.zero_le
def qP:=@Nat.lt_or_ge
def qQ:=@List.getElem?_eq_some_iff
def qR:=@List.length_cons
def qS:=@Array.length_toList
def qT:=@List.mem_map
def qU:=@List.pairwise_cons
def qV:=@List.append_nil
def qW:=@List.mem_append_right
def qX:=@List.set_append_right
def qY:=@List.all_eq_true
def qZ:=@List.pairwise_iff_getElem
def Xi:=@Nat.le_trans
def Ww:=@PySem.Heap.size_push
def V5:=@List.mem_filter
def VP:=@List.length_set
def Vu:=@List.length_take
def Rt:=@List.length_eq_zero_iff
def WY:=@List.map_map
def Qx:=@List.getLast?_eq_none_iff
def Wj:=@Nat.lt_irrefl
def Wv:=@Nat.sub_self
def Ti:=@List.mem_filterMap
def Ux:=@List.getElem_map
def Wq:=@Int.mul_one
def Ss:=@List.take_length
def QT:=@List.mem_append_left
def Uy:=@List.all_cons
def Vn:=@Nat.ne_of_gt
def Vq:=@Int.mul_comm
def RN:=@List.length_range
def Qo:=@List.getD_cons_zero
def QF:=@List.getD_cons_succ
def Rj:=@List.length_drop
def Ql:=@List.mem_cons_self
def Pr:=@Array.getElem?_toList
def Pn:=@Nat.le_of_ble_eq_true
def Qc:=@List.filter_append
def U6:=@List.all_map
def Ml:=@Option.isSome_iff_exists
def RP:=@Bool.eq_iff_iff
def Ri:=@Int.emod_nonneg
def TV:=@Int.mul_zero
def K1:=@List.getElem?_replicate
def Qs:=@Nat.le_of_not_lt
def Kz:=@List.head?_eq_getElem?
def G6:=@List.dropLast_concat_getLast
def Nu:=@Int.emod_lt_of_pos
def K4:=@List.getElem?_toArray
def Qy:=@Bool.or_eq_true
def K9:=@List.length_filter_le
def RV:=@List.any_cons
def Pk:=@List.nodup_append
def R6:=@List.cons.inj
def MK:=@List.getLast?_concat
def NZ:=@Nat.le_add_right
def O6:=@List.filter_cons
def Ow:=@List.prefix_refl
def Oa:=@PySem.Heap.get?_push_ne
def Gw:=@List.getElem?_take_of_lt
def O2:=@List.nodup_cons
def KJ:=@Nat.eq_zero_or_pos
def Lr:=@List.lookup_append
def GC:=@Nat.add_sub_cancel_left
def Lg:=@List.prefix_append
def Hi:=@List.filter_cons_of_pos
def J2:=@List.filter_cons_of_neg
def Pa:=@List.any_append
def G3:=@List.take_of_length_le
def Rf:=@Nat.le_succ
def MF:=@Nat.lt_succ_of_lt
def Qj:=@Int.lt_or_le
def Q8:=@Int.le_of_lt
def Ec:=@Int.mul_le_mul_of_nonneg_right
def LQ:=@Nat.lt_succ_self
def Ih:=@List.filterMap_cons
def QM:=@Int.neg_neg
def LR:=@Option.map_some
def Le:=@Array.Perm.refl
def JZ:=@List.getElem?_range
def M4:=@Nat.not_lt_zero
def G5:=@Option.some_ne_none
def Lj:=@PySem.Heap.size_update
def NQ:=@Nat.le_of_lt
def Nh:=@List.map_nil
def IV:=@Bool.false_eq_true
def Jt:=@List.set_cons_zero
def CN:=@List.getLast?_eq_getElem?
def MP:=@Nat.mul_le_mul
def Kp:=@List.flatMap_cons
def PB:=@Int.neg_mul
def OJ:=@Int.mul_neg
def O9:=@Int.sub_mul
def Pg:=@Int.mul_pos
def Ik:=@List.getElem_inj
def qbv:=@List.filter_eq_nil_iff
def Ef:=@Int.le_ediv_iff_mul_le
def Iv:=@List.range_succ
def JQ:=@Bool.decide_and
def Mf:=@Nat.zero_add
namespace L2
open PySem PySem.Spec PyProof.Rows
abbrev Key:=Sum Int Str
def Ox:Key->Value->Bool
 |.inl k,v=>Value.isInt k v
 |.inr x,v=>Value.isStrOf x v
def fK (w:World):Key->Int
 |.inl k=>hashInt k
 |.inr x=>hashStr w x
theorem SJ:∀ {k:Key} {v:Value},Ox k v=true->(∃ i t,k=Sum.inl i/\v=Value.int i t)\/(∃ x t,k=Sum.inr x/\v=Value.str x t)
 |.inl i,v,h=>by
  obtain⟨t,e⟩:=Value.isInt_shape (k:=i) (v:=v) h
  exact .inl ⟨i,t,rfl,e⟩
 |.inr x,v,h=>by
  obtain⟨t,e⟩:=Value.isStrOf_shape (x:=x) (v:=v) h
  exact .inr ⟨x,t,rfl,e⟩
def zo4 (i:Int)(t:Tok):Ox (.inl i) (.int i t)=true:=by simp[Ox,Value.isInt]
def je (x:Str)(t:Tok):Ox (.inr x) (.str x t)=true:=by simp[Ox,Value.isStrOf]
def zv8 (a b:Int):decide ((Sum.inl a:Key)=Sum.inl b)=(a==b):=by
 by_cases e:a=b
 ·subst e;simp
 ·have h:¬ (Sum.inl a:Key)=Sum.inl b:=fun q=>e (Sum.inl.inj q)
  rw[decide_eq_false h]
  exact(beq_eq_false_iff_ne.mpr e).symm
def zv7 (a b:Str):decide ((Sum.inr a:Key)=Sum.inr b)=decide (a=b):=by
 by_cases e:a=b
 ·subst e;simp
 ·have h:¬ (Sum.inr a:Key)=Sum.inr b:=fun q=>e (Sum.inr.inj q)
  rw[decide_eq_false h,decide_eq_false e]
def zuJ (a:Int)(b:Str):decide ((Sum.inl a:Key)=Sum.inr b)=false:=decide_eq_false (fun q=>nomatch q)
def zuV (a:Str)(b:Int):decide ((Sum.inr a:Key)=Sum.inl b)=false:=decide_eq_false (fun q=>nomatch q)
def V9 (prog:Program)(w:World):PySem.KeyKind prog w Key where
  is:=Ox
  hash:=fK w
  inj:=fun v a b ha hb=>by
    rcases SJ ha with⟨i,t,rfl,rfl⟩|⟨x,t,rfl,rfl⟩
    . rcases SJ hb with⟨j,u,rfl,e⟩|⟨y,u,rfl,e⟩
      . injection e with e1 _;rw[e1]
      . exact nomatch e
    . rcases SJ hb with⟨j,u,rfl,e⟩|⟨y,u,rfl,e⟩
      . exact nomatch e
      . injection e with e1 _;rw[e1]
  byValue:=fun k v h=>by
    rcases SJ h with⟨i,t,rfl,rfl⟩|⟨x,t,rfl,rfl⟩<;>rfl
  pyHash:=fun hv h=>by
    rcases SJ hv with⟨i,t,rfl,rfl⟩|⟨x,t,rfl,rfl⟩
    . exact wpAny_pyHash_int h
    . exact wpAny_pyHash_str h
  eqBool:=fun hu hv h=>by
    rcases SJ hu with⟨i,t,rfl,rfl⟩|⟨x,t,rfl,rfl⟩
    . rcases SJ hv with⟨j,u,rfl,rfl⟩|⟨y,u,rfl,rfl⟩
      . rw[zv8]at h;exact wpAny_eqBool_int h
      . rw[zuJ]at h;exact SeqAt.EqAt.int_str i t y u _ _ _ _ h
    . rcases SJ hv with⟨j,u,rfl,rfl⟩|⟨y,u,rfl,rfl⟩
      . rw[zuV]at h;exact SeqAt.EqAt.str_int x t j u _ _ _ _ h
      . rw[zv7]at h;exact wpAny_eqBool_str h
  «strs»:=fun k x t v h=>by
    rcases SJ h with⟨i,u,rfl,e⟩|⟨y,u,rfl,e⟩
    . exact nomatch e
    . injection e with e1 _
      subst e1
      cases v<;>rfl
def zmy (prog:Program)(w:World)(i:Int)(t:Tok):(V9 prog w).is (.inl i) (.int i t)=true:=zo4 i t
def zmh (prog:Program)(w:World)(x:Str)(t:Tok):(V9 prog w).is (.inr x) (.str x t)=true:=je x t
inductive V where
 |non|bl (b:Bool)|int (i:Int)|str (x:Str)|byt (b:Array UInt8)|flt (b:UInt64)|ref (a:Addr)|ty (n:String)
 deriving DecidableEq
def RelV:V->Value->Prop
 |.non,u=>u=Value.none
 |.bl b,u=>u=Value.bool b
 |.int i,u=>∃ t,u=Value.int i t
 |.str x,u=>∃ t,u=Value.str x t
 |.byt b,u=>∃ t,u=Value.bytes b t
 |.flt b,u=>∃ t,u=Value.float b t
 |.ref a,u=>u=Value.ref a
 |.ty n,u=>u=Value.type n
abbrev Vals:List V->List Value->Prop:=Paired RelV
theorem Vals.length {xs:List V}{us:List Value}(r:Vals xs us):xs.length=us.length:=Paired.length r
theorem Vals.get:∀ {xs:List V} {us:List Value} {i:Nat} {x:V},Vals xs us->xs[i]?=some x->∃ u,us[i]?=some u/\RelV x u
 |_,_,_,_,.nil,e=>by simp at e
 |_,_,0,_,.cons r _,e=>by simp at e;subst e;exact⟨_,rfl,r⟩
 |_,_,i+1,x,.cons _ t,e=>by
  obtain⟨u,h1,h2⟩:=Vals.get (i:=i) (x:=x) t (by simpa using e)
  exact⟨u,by simpa using h1,h2⟩
theorem Vals.set {x:V}{u:Value}(r:RelV x u):∀ {xs:List V} {us:List Value} (i:Nat),Vals xs us->Vals (xs.set i x) (us.set i u)
 |_,_,_,.nil=>.nil
 |_,_,0,.cons _ t=>.cons r t
 |_,_,i+1,.cons q t=>.cons q (Vals.set r i t)
theorem Vals.append:∀ {xs ys:List V} {us ws:List Value},Vals xs us->Vals ys ws->Vals (xs++ys) (us++ws)
 |_,_,_,_,.nil,s=>s
 |_,_,_,_,.cons r t,s=>.cons r (Vals.append t s)
theorem Vals.take:∀ {xs:List V} {us:List Value} (n:Nat),Vals xs us->Vals (xs.take n) (us.take n)
 |_,_,0,_=>.nil
 |_,_,_+1,.nil=>.nil
 |_,_,n+1,.cons r t=>.cons r (Vals.take n t)
theorem Vals.drop:∀ {xs:List V} {us:List Value} (n:Nat),Vals xs us->Vals (xs.drop n) (us.drop n)
 |_,_,0,r=>r
 |_,_,_+1,.nil=>.nil
 |_,_,n+1,.cons _ t=>Vals.drop n t
def Vz:Option V->Option Value->Prop
 |some v,some u=>RelV v u
 |none,none=>True
 |_,_=>False
def KV {κ:Type}:List (κ×V)->List (κ×Value)->Prop:=Paired fun (p:κ×V) (q:κ×Value)=>p.1=q.1/\RelV p.2 q.2
def kV:Key->V
 |.inl i=>.int i
 |.inr x=>.str x
inductive HO where
 |lst (xs:List V)
 |tup (xs:List V)
 |dK (Z6:List (Key×V))|dT (Z6:List (List Key×V))
 |set (S:Int->Bool) (n:Nat)
 |ins (C dx:Addr) (fs:List (Str×V))
 |own (x:Addr)
 |xd (fs:List (Str×V))
 |met (f x:Addr)
 |rng (lo hi:Int)
 |frz (o:Obj) (u:HO)
 |tbl (ps:Array Value)
 |ext (φ:Heap->Prop)
abbrev Hp:=Addr->Option HO
def upd (H:Hp)(a:Addr)(o:HO):Hp:=fun b=>if b=a then some o else H b
def X7 {H:Hp}{a:Addr}{o:HO}:upd H a o a=some o:=by unfold upd;rw[if_pos rfl]
def zO {H:Hp}{a b:Addr}{o:HO}(h:b≠a):upd H a o b=H b:=by unfold upd;rw[if_neg h]
def Tf {H:Hp}{a b:Addr}{o u:HO}(h:H a=some o)(h':H b=some u)(d:o≠u):a≠b:=by
 intro e;subst e;rw[h]at h';exact d (qB h')
def SX {H:Hp}{a b:Addr}{o:HO}(h:H a=some o)(h':H b=none):a≠b:=by
 intro e;subst e;rw[h]at h';cases h'
section
variable (P:Program)(w:World)
def Y5 (H:Hp)(h:Heap)(a:Addr):HO->Prop
 | .lst xs=>xs.length<=sizeLine/\∃ (its:List Value) (n:Nat),Vals xs its/\h.get? a=some { cls:=.type "list",data:=.seq its.toArray n }
 |.tup xs=>xs.length<=sizeLine/\∃ its:List Value,Vals xs its/\IsTup h a its.toArray
 |.dK Z6=>Z6.length<=sizeLine/\(a==sysModules)=false/\∃ vs,KV Z6 vs/\h.DictOf (V9 P w) a vs
 |.dT Z6=>Z6.length<=sizeLine/\(a==sysModules)=false/\∃ xs:List (List Key×Addr×Value),
   Paired (fun (p:List Key×V) (q:List Key×Addr×Value)=>p.1=q.1/\H q.2.1=some (.tup (p.1.map kV))/\RelV p.2 q.2.2) Z6 xs /\
   ∃ o es ep,h.get? a=some o/\o.ExactDict/\o.data=.dict es ep/\es.toList=xs.map (entryOfKey (tupleKind (V9 P w)))/\(xs.map (·.1)).Nodup
 |.set S n=>h.SetOf (intKind P w) a S n
 |.ins C dx fs=>H dx=some (.own a)/\fs.length<=1000/\dx≠a/\h.get? a=some (PySem.W.instObj C dx) /\
   ∃ mA,h.Ns1 dx mA/\(∀ f,Vz (fs.lookup f) (mA f))/\PySem.Within mA (fs.map (·.1))
 |.own _=>∃ o,h.get? a=some o
 |.xd fs=>∃ mA,h.Ns1 a mA/\∀ f,Vz (fs.lookup f) (mA f)
 | .rng lo hi=>∃ t u v,h.get? a=some { cls:=.type "range",data:=.fields #[.int lo t,.int hi u,.int 1 v] }
 |.frz o u=>h.get? a=some o/\Y5 H h a u
 |.tbl ps=>h.get? a=some { cls:=.none,data:=.fields ps }
 |.met f x=>h.get? a=some (PySem.W.methodObj (.ref f) (.ref x))
 |.ext φ=>φ h/\(∃ o,h.get? a=some o)/\∀ h1 h2:Heap,φ h1->(∀ o,h1.get? a=some o->h2.get? a=some o)->φ h2
def Zi (H:Hp)(h:Heap):Prop:=∀ a o,H a=some o->Y5 P w H h a o
end
section
variable {P:Program}{w:World}{H H':Hp}{h h':Heap}{a:Addr}{o:HO}
theorem Y5.lt (x:Y5 P w H h a o):a<h.objs.size:=by
 cases o with
 |lst xs=>obtain⟨_,_,_,_,e⟩:=x;exact qr e
 |tup xs=>obtain⟨_,_,_,p⟩:=x;exact p.lt
 |dK Z6=>obtain⟨_,_,_,_,o,_,_,e,_⟩:=x;exact qr e
 |dT Z6=>obtain⟨_,_,_,_,o,_,_,e,_⟩:=x;exact qr e
 |set S n=>obtain⟨o,_,_,_,e,_⟩:=x;exact qr e
 |ins C dx fs=>obtain⟨_,_,_,e,_⟩:=x;exact qr e
 |own y=>obtain⟨_,e⟩:=x;exact qr e
 |xd fs=>obtain⟨_,⟨_,_,_,e,_⟩,_⟩:=x;exact qr e
 |rng lo hi=>obtain⟨_,_,_,e⟩:=x;exact qr e
 |frz ob u=>obtain⟨e,_⟩:=x;exact qr e
 |tbl ps=>exact qr (show h.get? a=some _ from x)
 |met f y=>exact qr (show h.get? a=some _ from x)
 |ext φ=>obtain⟨_,⟨_,e⟩,_⟩:=x;exact qr e
theorem Paired.mapP {α β:Type}{F G:α->β->Prop}:∀ {l₁:List α} {l₂:List β},Paired F l₁ l₂->(∀ a b,F a b->G a b)->Paired G l₁ l₂
 |_,_,.nil,_=>.nil
 |_,_,.cons r t,f=>.cons (f _ _ r) (Paired.mapP t f)
def Paired.imp' {α β:Type}{F G:α->β->Prop}(f:∀ a b,F a b->G a b){l₁:List α}{l₂:List β}(r:Paired F l₁ l₂):Paired G l₁ l₂:=Paired.mapP r f
def Y5.stay (x:Y5 P w H h a o)(k:∀ b u,(b=a\/H b=some (.own a))->h.get? b=some u->h'.get? b=some u)
  (ho:∀ b,H b=some (.own a)->H' b=some (.own a)) (ht:∀ b xs,H b=some (.tup xs)->H' b=some (.tup xs)):Y5 P w H' h' a o:=by
 induction o with
 |lst xs=>obtain⟨z,its,n,r,e⟩:=x;exact⟨z,its,n,r,k _ _ (.inl rfl) e⟩
 |tup xs=>obtain⟨z,its,r,ob,e,c⟩:=x;exact⟨z,its,r,ob,k _ _ (.inl rfl) e,c⟩
 |dK Z6=>obtain⟨z,y,vs,r,ob,es,ep,e,c⟩:=x;exact⟨z,y,vs,r,ob,es,ep,k _ _ (.inl rfl) e,c⟩
 |dT Z6 =>
  obtain⟨z,y,xs,r,ob,es,ep,e,c⟩:=x
  exact⟨z,y,xs,Paired.mapP r fun p q z=>⟨z.1,ht _ _ z.2.1,z.2.2⟩,ob,es,ep,k _ _ (.inl rfl) e,c⟩
 |set S n=>obtain⟨ob,es,ep,t,e,c⟩:=x;exact⟨ob,es,ep,t,k _ _ (.inl rfl) e,c⟩
 |ins C dx fs =>
  obtain⟨d,z,ne,e,mA,⟨od,es,ep,e2,c⟩,r⟩:=x
  exact⟨ho _ d,z,ne,k _ _ (.inl rfl) e,mA,⟨od,es,ep,k _ _ (.inr d) e2,c⟩,r⟩
 |own y=>obtain⟨ob,e⟩:=x;exact⟨ob,k _ _ (.inl rfl) e⟩
 |xd fs=>obtain⟨mA,⟨od,es,ep,e,c⟩,r⟩:=x;exact⟨mA,⟨od,es,ep,k _ _ (.inl rfl) e,c⟩,r⟩
 |rng lo hi=>obtain⟨t,u,v,e⟩:=x;exact⟨t,u,v,k _ _ (.inl rfl) e⟩
 |frz ob u ih=>obtain⟨e,q⟩:=x;exact⟨k _ _ (.inl rfl) e,ih q⟩
 |tbl ps =>
  have e:h.get? a=some { cls:=.none,data:=.fields ps }:=x
  show h'.get? a=some { cls:=.none,data:=.fields ps }
  exact k a _ (.inl rfl) e
 |met f y =>
  have e:h.get? a=some (PySem.W.methodObj (.ref f) (.ref y)):=x
  show h'.get? a=some (PySem.W.methodObj (.ref f) (.ref y))
  exact k a _ (.inl rfl) e
 |ext φ=>obtain⟨p,⟨o,e⟩,st⟩:=x;exact⟨st _ _ p fun o q=>k _ _ (.inl rfl) q,⟨o,k _ _ (.inl rfl) e⟩,st⟩
theorem Zi.lt (x:Zi P w H h)(e:H a=some o):a<h.objs.size:=(x a o e).lt
def Zi.fresh (x:Zi P w H h)(e:h.objs.size<=a):H a=none:=by
 cases q:H a with
 |none=>rfl
 |some u=>exact absurd (qD (x.lt q) e) (Wj _)
def Zi.kept (x:Zi P w H h)(k:∀ b u,h.get? b=some u->h'.get? b=some u):Zi P w H h':=fun a o e =>
 (x a o e).stay (fun b u _ q=>k b u q) (fun _ q=>q) fun _ _ q=>q
def Zi.laid (x:Zi P w H h)(k:∀ b u,h.get? b=some u->h'.get? b=some u)(hp:h.objs.size<=a)(new:Y5 P w (upd H a o) h' a o):Zi P w (upd H a o) h':=fun b u e=>by
 have hn:=x.fresh hp
 by_cases hb:b=a
 ·subst hb;rw[X7]at e;cases e;exact new
 ·rw[zO hb]at e
  exact(x b u e).stay (fun c v _ q=>k c v q) (fun c q=>by rw[zO (SX q hn)];exact q) fun c xs q=>by rw[zO (SX q hn)];exact q
end
def Rd (H:Hp)(a:Addr)(u:HO):Prop:=H a=some u\/∃ o,H a=some (.frz o u)
def Rd.ok {P:Program}{w:World}{H:Hp}{h:Heap}{a:Addr}{u:HO}(r:Rd H a u)(x:Zi P w H h):Y5 P w H h a u:=by
 rcases r with r|⟨o,r⟩
 ·exact x a u r
 ·obtain⟨_,q⟩:=x a _ r
  exact q
def Ks:Option HO->Prop
 |some (.lst _)=>True
 |some (.dK _)=>True
 |some (.dT _)=>True
 |some (.set _ _)=>True
 |some (.ins _ _ _)=>True
 |some (.ext _)=>True
 |_=>False
section
variable {P:Program}{w:World}{H:Hp}{h h':Heap}{x e:Addr}{o':HO}
def Zi.write (ok:Zi P w H h)(mu:Ks (H x))(he:e=x\/H e=some (.own x))(k:∀ b u,b≠e->h.get? b=some u->h'.get? b=some u)(heo:∃ u,h'.get? e=some u)
  (new:Y5 P w (upd H x o') h' x o'):Zi P w (upd H x o') h':=fun b u q=>by
 have nown:∀ c y,H c=some (.own y)->c≠x:=fun c y r z=>by subst z;rw[r]at mu;exact mu
 have ntup:∀ c xs,H c=some (.tup xs)->c≠x:=fun c xs r z=>by subst z;rw[r]at mu;exact mu
 by_cases hb:b=x
 ·subst hb;rw[X7]at q;cases q;exact new
 ·rw[zO hb]at q
  by_cases hbe:b=e
  ·have q':H b=some (.own x):=by
    rcases he with z|z
    ·exact absurd (hbe.trans z) hb
    ·rw[hbe];exact z
   rw[q]at q';cases q'
   obtain⟨v,hv⟩:=heo
   exact⟨v,by rw[hbe];exact hv⟩
  ·refine(ok b u q).stay (fun c v hc r=>k c v ?_ r) (fun c r=>by rw[zO (nown c b r)];exact r) fun c xs r=>by rw[zO (ntup c xs r)];exact r
   rcases hc with rfl|hc
   ·exact hbe
   ·rintro rfl
    rcases he with z|z
    ·exact nown c b hc z
    ·rw[hc]at z;cases z;exact hb rfl
end
structure Un (fs ex:List Addr)(H H':Hp)(h h':Heap):Prop where
 keep:∀ b o,h.get? b=some o->H b=none->b∉fs->b∉ex->h'.get? b=some o
 slot:∀ b o,h.get? b=some o->H b=none->b∈fs->b∉ex->∃ sl,h'.get? b=some { o with slots:=sl }
 free:∀ b o,h.get? b=some o->H b=none->b∉ex->H' b=none
 there:∀ b o,h.get? b=some o->b∉ex->∃ o',h'.get? b=some o'
 tups:∀ b xs,H b=some (.tup xs)->H' b=some (.tup xs)
 frzs:∀ b o u,H b=some (.frz o u)->H' b=some (.frz o u)
 tbls:∀ b ps,H b=some (.tbl ps)->∃ more,H' b=some (.tbl (ps++more))
section
variable {fs fs' ex ex':List Addr}{H H1 H2:Hp}{h h1 h2 h':Heap}{a x e:Addr}{o:HO}
def Un.any (u:Un fs ex H H1 h h1){b:Addr}{ob:Obj}(q:h.get? b=some ob)(n:H b=none)(hx:b∉ex):∃ sl,h1.get? b=some { ob with slots:=sl }:=by
 by_cases hb:b∈fs
 ·exact u.slot b ob q n hb hx
 ·exact⟨ob.slots,u.keep b ob q n hb hx⟩
def Un.kept (k:∀ b u,h.get? b=some u->h'.get? b=some u):Un fs ex H H h h' :=
 ⟨fun b ob q _ _ _=>k b ob q,fun b ob q _ _ _=>⟨ob.slots,k b ob q⟩,fun _ _ _ n _=>n,fun b ob q _=>⟨ob,k b ob q⟩,fun _ _ q=>q,fun _ _ _ q=>q,fun _ ps q=>⟨#[],by rw[q];simp⟩⟩
def Un.refl:Un fs ex H H h h:=Un.kept fun _ _ q=>q
def Un.laid (k:∀ b u,h.get? b=some u->h'.get? b=some u)(hp:h.objs.size<=a)(hn:H a=none):Un fs ex H (upd H a o) h h' where
 keep:=fun b u q _ _ _=>k b u q
 slot:=fun b u q _ _ _=>⟨u.slots,k b u q⟩
 free:=fun b u q n _=>by rw[zO (qL (qD (qr q) hp))];exact n
 there:=fun b u q _=>⟨u,k b u q⟩
 tups:=fun b xs q=>by rw[zO (SX q hn)];exact q
 frzs:=fun b u xs q=>by rw[zO (SX q hn)];exact q
 tbls:=fun b ps q=>⟨#[],by rw[zO (SX q hn),q];simp⟩
def Un.write (mu:Ks (H x))(he:e=x\/H e=some (.own x))(k:∀ b u,b≠e->h.get? b=some u->h'.get? b=some u)(heo:∃ u,h'.get? e=some u):Un fs ex H (upd H x o) h h':=by
 have hx:∀ b,H b=none->b≠x:=fun b n z=>by subst z;rw[n]at mu;exact mu
 have hb:∀ b,H b=none->b≠e:=fun b n z=>by
  subst z
  rcases he with r|r
  ·exact hx b n r
  ·rw[n]at r;cases r
 have hm:∀ b u,H b=some u->¬ Ks (some u)->b≠x:=fun b u q nm z=>by subst z;rw[q]at mu;exact nm mu
 refine⟨fun b u q n _ _=>k b u (hb b n) q,fun b u q n _ _=>⟨u.slots,k b u (hb b n) q⟩,fun b u q n _=>by rw[zO (hx b n)];exact n,fun b u q _=>?_,
  fun b xs q=>by rw[zO (hm b _ q fun z=>z)];exact q,fun b u xs q=>by rw[zO (hm b _ q fun z=>z)];exact q,fun b ps q=>⟨#[],by rw[zO (hm b _ q fun z=>z),q];simp⟩⟩
 by_cases hbe:b=e
 ·subst hbe;exact heo
 ·exact⟨u,k b u hbe q⟩
end
def JT (h:Heap)(H:Hp):List Addr:=(List.range h.objs.size).filter fun a=>(H a).isSome
def SM (h:Heap)(H:Hp):Heap:=PySem.W.hideAll h (JT h H)
def zpu (h:Heap)(H:Hp):(SM h H).objs.size=h.objs.size:=PySem.W.hideAll_size _ _
def zqx {h:Heap}{H:Hp}{b:Addr}{o:Obj}(e:h.get? b=some o)(n:H b=none):(SM h H).get? b=some o :=
 PySem.W.hideAll_get _ e fun hm=>by
  have q:(H b).isSome=true:=(V5.mp hm).2
  rw[n]at q;simp at q
def zsQ {h:Heap}{H:Hp}{b:Addr}{o:Obj}(e:(SM h H).get? b=some o):h.get? b=some o/\H b=none:=by
 have e':h.get? b=some o:=PySem.W.of_hideAll (JT h H) e
 refine⟨e',?_⟩
 cases q:H b with
 |none=>rfl
 |some x =>
  have hm:b∈JT h H:=V5.mpr ⟨List.mem_range.mpr (qr e'),by simp[q]⟩
  have z:(SM h H).get? b=none:=PySem.W.hideAll_none (JT h H) hm
  rw[z]at e;cases e
def lB (g h:Heap)(L:Addr):List (Addr×Obj):=(List.range h.objs.size).filterMap fun a=>if a=L\/(g.get? a).isSome=true then none else(h.get? a).map fun o=>(a,o)
def rest (g h:Heap)(L d:Addr):List (Addr×Obj):=(lB g h L).filter fun p=>decide (p.1≠d)
structure Mod (K:PySem.W.Frag)(mg:Str->Option Value)(base:Heap):Prop where
 kin:K.In base
 glob:base.Ns mainGlobals mg
 blt:∃ mb,base.Ns builtinsNs mb/\∀ x:Str,x≠"__name__"->mb x=bootBuiltins x
 nolimit:base.NoLimit
/-- the context: a def's body (or a comprehension's block) running. base: fixed through the whole law; s₀, H₀: the entry; outer: the frames whose slots others may change (a def's callers); stack: all frames that run;
   ex: iterators that were made ahead of the entry and are walked here (a comprehension's);fn: the names whose cells were made at the entry (a def: all;a comprehension's block: its own);calm: not within an except suite;pn: Z9 that every state bears;xe: what is wanted of an exception that leaves the code -/
structure Cx where
 prog:Program
 w:World
 K:PySem.W.Frag
 mg:Str->Option Value
 base:Heap
 A:Around
 N:List Str
 s₀:Shared
 H₀:Hp
 env:Env
 outer:List Env
 stack:List Env
 ex:List Addr
 fn:Str->Bool
 calm:Bool
 pn:List (Addr×Obj)
 xe:Value->Shared->Prop
def frs (l:List Env):List Addr:=l.filterMap (·.frame)
abbrev Cx.fs (X:Cx):List Addr:=frs X.outer
def Vis (sc:Scope)(x:Str):Prop:=sc.names.lookup x=some .local\/sc.names.lookup x=some .cell\/sc.names.lookup x=some .free
def Loc (sc:Scope)(x:Str):Prop:=sc.names.lookup x=some .local\/sc.names.lookup x=some .cell
def Look (env:Env)(h:Heap)(m:Str->Option Value)(x:Str)(u:Value):Prop :=
 (env.kindOf x=some .local/\m x=some u)\/((env.kindOf x=some .cell\/env.kindOf x=some .free)/\∃ c,env.cells.lookup x=some c/\h.IsCell c (some u))
structure Cx.Ok (X:Cx):Prop where
 mod:Mod X.K X.mg X.base
 kind:X.env.scope.kind=.function
 glob:X.env.globals=mainGlobals
 blt:X.env.builtins=builtinsNs
 above:X.s₀.heap.objs.size<=X.env.locals
 inj:∀ x y c,X.env.cells.lookup x=some c->X.env.cells.lookup y=some c->x=y
 has:∀ x,(X.env.kindOf x=some .cell\/X.env.kindOf x=some .free)->∃ c,X.env.cells.lookup x=some c
 cab:∀ x c,X.fn x=true->X.env.cells.lookup x=some c->X.s₀.heap.objs.size<=c
 hd:X.calm=true->X.A.handled=none
 frames:X.A.frames=some X.stack
 stk:X.stack=X.outer\/(X.stack=X.env::X.outer/\X.env.frame=some X.env.locals)
 exf:∀ b∈X.ex,b≠X.env.locals/\∀ x c,X.env.cells.lookup x=some c->c≠b
 bs:∀ b o,X.base.get? b=some o->X.s₀.heap.get? b=some o/\X.H₀ b=none
 bsz:X.base.objs.size<=X.s₀.heap.objs.size
 noex:∀ b o,X.base.get? b=some o->b∉X.ex
 exfs:∀ b∈X.ex,b∉X.fs
 funs:X.s₀.heap.FunFrames X.base X.outer
 frf:∀ b∈X.fs,X.H₀ b=none
structure Inv (X:Cx)(Z9:List (Addr×Obj))(U:List (Option V))(H:Hp)(s:Shared):Prop where
 ok:X.Ok
 os:s.os=X.s₀.os
 bare:AllBare s.gens
 base:Un X.fs X.ex X.H₀ H X.s₀.heap s.heap
 loc:∃ m,s.heap.Ns X.env.locals m/\∀ (i:Nat) (x:Str) (v:V),X.N[i]?=some x->U[i]?=some (some v)->Vis X.env.scope x->∃ u,RelV v u/\Look X.env s.heap m x u
 cell:∀ x c,X.env.cells.lookup x=some c->∃ v,s.heap.IsCell c v
 free:H X.env.locals=none
 freeC:∀ x c,X.env.cells.lookup x=some c->H c=none
 pin:∀ p∈X.pn++Z9,s.heap.get? p.1=some p.2/\H p.1=none/\p.1≠X.env.locals/\p.1∉X.fs/\∀ v,p.2.data≠.cell v
 hok:Zi X.prog X.w H s.heap
 len:U.length=X.N.length
section
variable {X:Cx}{Z9:List (Addr×Obj)}{U:List (Option V)}{H H':Hp}{s:Shared}{h':Heap}
def Cx.Ok.nofr (ok:X.Ok){b:Addr}{o:Obj}(e:X.base.get? b=some o):b∉X.fs:=fun hb=>by
 have:=(ok.funs.mem hb).1
 rw[e]at this;cases this
theorem Inv.bs (I:Inv X Z9 U H s):∀ b o,X.base.get? b=some o->s.heap.get? b=some o/\H b=none:=fun b o e =>
 ⟨I.base.keep b o (I.ok.bs b o e).1 (I.ok.bs b o e).2 (I.ok.nofr e) (I.ok.noex b o e),I.base.free b o (I.ok.bs b o e).1 (I.ok.bs b o e).2 (I.ok.noex b o e)⟩
def Inv.bk (I:Inv X Z9 U H s):∀ b o,X.base.get? b=some o->s.heap.get? b=some o:=fun b o e=>(I.bs b o e).1
theorem Inv.mod (I:Inv X Z9 U H s):Mod X.K X.mg X.base:=I.ok.mod
def Inv.kIn (I:Inv X Z9 U H s):X.K.In s.heap:=I.ok.mod.kin.keeps I.bk
theorem Inv.lt (I:Inv X Z9 U H s):X.env.locals<s.heap.objs.size:=let ⟨_,hn,_⟩:=I.loc;hn.lt
def Inv.sz (I:Inv X Z9 U H s):X.s₀.heap.objs.size<=s.heap.objs.size:=Xi I.ok.above (NQ I.lt)
def Inv.nofs (I:Inv X Z9 U H s){a:Addr}(h:s.heap.objs.size<=a):a∉X.fs:=fun hb=>by
 obtain⟨_,o,ho,_⟩:=I.ok.funs.mem hb
 exact absurd (qD (qr ho) (Xi I.sz h)) (Wj _)
def Inv.cne (I:Inv X Z9 U H s):∀ x c,X.env.cells.lookup x=some c->c≠X.env.locals:=fun x c e z=>by
 obtain⟨v,o,ho,hd⟩:=I.cell x c e
 obtain⟨m,⟨o',es,ep,ho',hd',_⟩,_⟩:=I.loc
 rw[z,ho']at ho;cases ho;rw[hd']at hd;cases hd
theorem Inv.funs (I:Inv X Z9 U H s):s.heap.FunFrames X.base X.outer:=by
 have all:∀ (l:List Env),(∀ b∈frs l,b∈X.fs)->X.s₀.heap.FunFrames X.base l->s.heap.FunFrames X.base l:=by
  intro l
  induction l with
  |nil=>intro _ _;trivial
  |cons env r ih =>
   intro hs hl
   obtain⟨hk,⟨L,o,hf,hn,ho,hd⟩,hr⟩:=hl
   have hL:L∈X.fs:=hs L (by unfold frs;rw[Ih,hf];exact Ql)
   obtain⟨sl,e⟩:=I.base.slot L o ho (I.ok.frf L hL) hL fun z=>I.ok.exfs L z hL
   exact⟨hk,⟨L,_,hf,hn,e,hd⟩,ih (fun b hb=>hs b (by unfold frs;rw[Ih,hf];exact qw _ hb)) hr⟩
 exact all X.outer (fun _ hb=>hb) I.ok.funs
theorem Inv.stack (I:Inv X Z9 U H s):s.heap.FunFrames X.base X.stack:=by
 rcases I.ok.stk with e|⟨e,hf⟩
 ·rw[e];exact I.funs
 ·rw[e]
  obtain⟨m,hn,_⟩:=I.loc
  refine .cons (by rw[I.ok.kind];decide) hf hn ?_ I.funs
  exact Heap.get?_none_of_le (Xi I.ok.bsz I.ok.above)
def Inv.stkSub (I:Inv X Z9 U H s):∀ b∈frs X.stack,b∈X.env.locals::X.fs:=fun b hb=>by
 rcases I.ok.stk with e|⟨e,hf⟩
 ·rw[e]at hb;exact qw _ hb
 ·rw[e]at hb
  unfold frs at hb
  rw[Ih,hf]at hb
  exact hb
def Inv.stkFree (I:Inv X Z9 U H s):∀ b∈frs X.stack,H b=none:=fun b hb=>by
 rcases qh.mp (I.stkSub b hb)with e|hb
 ·rw[e];exact I.free
 ·obtain⟨_,o,ho,_⟩:=I.ok.funs.mem hb
  exact I.base.free b o ho (I.ok.frf b hb) fun z=>I.ok.exfs b z hb
def Inv.step {g':Array GenState}{t':Nat}{d':Drawn}{ch:List Addr}(I:Inv X Z9 U H s)
  (hch:∀ b∈ch,(b∈X.ex\/X.s₀.heap.objs.size<=b)/\b≠X.env.locals/\(∀ x c,X.env.cells.lookup x=some c->c≠b)/\∀ p∈X.pn++Z9,p.1≠b)
  (keep:∀ b o,b≠X.env.locals->b∉X.fs->b∉ch->s.heap.get? b=some o->H b=none->h'.get? b=some o)
  (slot:∀ b o,b≠X.env.locals->b∈X.fs->b∉ch->s.heap.get? b=some o->H b=none->∃ sl,h'.get? b=some { o with slots:=sl }) (free:∀ b o,b∉ch->s.heap.get? b=some o->H b=none->H' b=none)
  (there:∀ b o,b∉ch->s.heap.get? b=some o->∃ o',h'.get? b=some o')
  (tups:∀ b xs,H b=some (.tup xs)->H' b=some (.tup xs)) (frzs:∀ b o u,H b=some (.frz o u)->H' b=some (.frz o u)) (tbls:∀ b ps,H b=some (.tbl ps)->∃ more,H' b=some (.tbl (ps++more)))
  (ns:∀ m,s.heap.Ns X.env.locals m->h'.Ns X.env.locals m) (hok:Zi X.prog X.w H' h') (hg:AllBare g') :
  Inv X Z9 U H' { s with heap:=h',gens:=g',drawn:=d',toks:=t' }:=by
 have neL:∀ b o,X.s₀.heap.get? b=some o->b≠X.env.locals:=fun b o e=>qL (qD (qr e) I.ok.above)
 have neC:∀ b o,X.s₀.heap.get? b=some o->b∉X.ex->b∉ch:=fun b o e hx hb=>by
  rcases(hch b hb).1 with z|z
  ·exact hx z
  ·exact absurd (qD (qr e) z) (Wj _)
 have cellK:∀ x c,X.env.cells.lookup x=some c->∀ v,s.heap.IsCell c v->h'.IsCell c v:=fun x c e v ⟨o,ho,hd⟩=>by
  have nch:c∉ch:=fun z=>(hch c z).2.2.1 x c e rfl
  by_cases hc:c∈X.fs
  ·obtain⟨sl,q⟩:=slot c o (I.cne x c e) hc nch ho (I.freeC x c e)
   exact⟨_,q,hd⟩
  ·exact⟨o,keep c o (I.cne x c e) hc nch ho (I.freeC x c e),hd⟩
 refine⟨I.ok,I.os,hg,⟨fun b o e n hb hx=>?_,fun b o e n hb hx=>?_,fun b o e n hx=>?_,fun b o e hx=>?_,fun b xs e=>tups b xs (I.base.tups b xs e),fun b o xs e=>frzs b o xs (I.base.frzs b o xs e),fun b ps e=>?_⟩,?_,fun x c e=>?_,?_,fun x c e=>?_,fun p hp=>?_,hok,I.len⟩
 ·exact keep b o (neL b o e) hb (neC b o e hx) (I.base.keep b o e n hb hx) (I.base.free b o e n hx)
 ·obtain⟨sl,e1⟩:=I.base.slot b o e n hb hx
  obtain⟨sl',e2⟩:=slot b _ (neL b o e) hb (neC b o e hx) e1 (I.base.free b o e n hx)
  exact⟨sl',e2⟩
 ·obtain⟨o',e1⟩:=I.base.there b o e hx
  exact free b o' (neC b o e hx) e1 (I.base.free b o e n hx)
 ·obtain⟨o',e1⟩:=I.base.there b o e hx
  exact there b o' (neC b o e hx) e1
 ·obtain⟨m1,e1⟩:=I.base.tbls b ps e
  obtain⟨m2,e2⟩:=tbls b _ e1
  exact⟨m1++m2,by rw[e2,Array.append_assoc]⟩
 ·obtain⟨m,hn,hl⟩:=I.loc
  refine⟨m,ns m hn,fun i x v e1 e2 e3=>?_⟩
  obtain⟨u,r,l⟩:=hl i x v e1 e2 e3
  refine⟨u,r,?_⟩
  rcases l with l|⟨k,c,e,z⟩
  ·exact .inl l
  ·exact .inr ⟨k,c,e,cellK x c e _ z⟩
 ·obtain⟨v,z⟩:=I.cell x c e
  exact⟨v,cellK x c e v z⟩
 ·obtain⟨m,⟨o,_,_,ho,_⟩,_⟩:=I.loc
  exact free _ o (fun z=>(hch _ z).2.1 rfl) ho I.free
 ·obtain⟨v,o,ho,hd⟩:=I.cell x c e
  exact free c o (fun z=>(hch c z).2.2.1 x c e rfl) ho (I.freeC x c e)
 ·obtain⟨e,n,ne,nf,d⟩:=I.pin p hp
  have nch:p.1∉ch:=fun z=>(hch p.1 z).2.2.2 p hp rfl
  exact⟨keep p.1 p.2 ne nf nch e n,free p.1 p.2 nch e n,ne,nf,d⟩
def Inv.un {t':Nat}(I:Inv X Z9 U H s)(u:Un X.fs [] H H' s.heap h')(hok:Zi X.prog X.w H' h'):Inv X Z9 U H' { s with heap:=h',toks:=t' }:=by
 obtain⟨m,⟨o,es,ep,ho,r⟩,_⟩:=id I.loc
 obtain⟨sl,hL⟩:=u.any ho I.free (by simp)
 exact I.step (g':=s.gens) (d':=s.drawn) (ch:=[]) (fun _ z=>nomatch z) (fun b o _ hb _ e n=>u.keep b o e n hb (by simp)) (fun b o _ hb _ e n=>u.slot b o e n hb (by simp)) (fun b o _ e n=>u.free b o e n (by simp)) (fun b o _ e=>u.there b o e (by simp)) u.tups u.frzs u.tbls (fun m' hm=>by
  obtain⟨o',es',ep',ho',r'⟩:=hm
  rw[ho]at ho';cases ho'
  exact⟨_,es',ep',hL,r'⟩) hok I.bare
def Inv.call {g':Array GenState}{t':Nat}{d':Drawn}{ch:List Addr}(I:Inv X Z9 U H s)(u:Un (frs X.stack) ch H H' s.heap h')(hok:Zi X.prog X.w H' h')(hg:AllBare g')
  (hch:∀ b∈ch,(b∈X.ex\/X.s₀.heap.objs.size<=b)/\b≠X.env.locals/\(∀ x c,X.env.cells.lookup x=some c->c≠b)/\∀ p∈X.pn++Z9,p.1≠b) :
  Inv X Z9 U H' { s with heap:=h',gens:=g',drawn:=d',toks:=t' }:=by
 obtain⟨m,⟨o,es,ep,ho,r⟩,_⟩:=id I.loc
 obtain⟨sl,hL⟩:=u.any ho I.free fun z=>(hch _ z).2.1 rfl
 exact I.step (ch:=ch) hch (fun b o hL hb hc e n=>u.keep b o e n (fun z=>(qh.mp (I.stkSub b z)).elim hL hb) hc) (fun b o _ _ hc e n=>u.any e n hc) (fun b o hc e n=>u.free b o e n hc) (fun b o hc e=>u.there b o e hc) u.tups u.frzs u.tbls (fun m' hm=>by
  obtain⟨o',es',ep',ho',r'⟩:=hm
  rw[ho]at ho';cases ho'
  exact⟨_,es',ep',hL,r'⟩) hok hg
def Inv.turned {t':Nat}{it:Addr}(I:Inv X Z9 U H s)(k:∀ b o,b≠it->s.heap.get? b=some o->h'.get? b=some o)(hn:H it=none)(hL:it≠X.env.locals)
  (h1:it∈X.ex\/X.s₀.heap.objs.size<=it) (h2:∀ x c,X.env.cells.lookup x=some c->c≠it) (h3:∀ p∈X.pn++Z9,p.1≠it):Inv X Z9 U H { s with heap:=h',toks:=t' }:=by
 have nit:∀ b u,H b=some u->b≠it:=fun b u e z=>by rw[z,hn]at e;cases e
 refine I.step (g':=s.gens) (d':=s.drawn) (ch:=[it]) (fun b hb=>?_) (fun b o _ _ hc e _=>k b o (fun z=>hc (by simp[z])) e) (fun b o _ _ hc e _=>⟨o.slots,k b o (fun z=>hc (by simp[z])) e⟩) (fun _ _ _ _ n=>n)
  (fun b o hc e=>⟨o,k b o (fun z=>hc (by simp[z])) e⟩) (fun _ _ e=>e) (fun _ _ _ e=>e) (fun b ps e=>⟨#[],by rw[e];simp⟩) (fun m hm=>?_) (fun b u e=>?_) I.bare
 ·have e:b=it:=by simpa using hb
  subst e
  exact⟨h1,hL,h2,h3⟩
 ·obtain⟨o,es,ep,ho,r⟩:=hm
  exact⟨o,es,ep,k _ o (Ne.symm hL) ho,r⟩
 ·refine(I.hok b u e).stay (fun c v hc q=>k c v ?_ q) (fun _ q=>q) fun _ _ q=>q
  rcases hc with z|z
  ·rw[z];exact nit b u e
  ·exact nit c _ z
def Inv.tok (I:Inv X Z9 U H s)(t:Nat):Inv X Z9 U H { s with toks:=t }:=I.un (h':=s.heap) (t':=t) Un.refl I.hok
theorem Inv.kept {t':Nat}(I:Inv X Z9 U H s)(k:∀ b u,s.heap.get? b=some u->h'.get? b=some u):Inv X Z9 U H { s with heap:=h',toks:=t' }:=I.un (Un.kept k) (I.hok.kept k)
theorem Inv.laid {a:Addr}{o:HO}{t':Nat}(I:Inv X Z9 U H s)(k:∀ b u,s.heap.get? b=some u->h'.get? b=some u)(hp:s.heap.objs.size<=a)(new:Y5 X.prog X.w (upd H a o) h' a o) :
  Inv X Z9 U (upd H a o) { s with heap:=h',toks:=t' }:=I.un (Un.laid k hp (I.hok.fresh hp)) (I.hok.laid k hp new)
theorem Inv.write {x e:Addr}{o:HO}{t':Nat}(I:Inv X Z9 U H s)(mu:Ks (H x))(he:e=x\/H e=some (.own x))(k:∀ b u,b≠e->s.heap.get? b=some u->h'.get? b=some u)(heo:∃ u,h'.get? e=some u)
  (new:Y5 X.prog X.w (upd H x o) h' x o):Inv X Z9 U (upd H x o) { s with heap:=h',toks:=t' }:=I.un (Un.write mu he k heo) (I.hok.write mu he k heo new)
def Inv.weak {σ':List (Option V)}(I:Inv X Z9 U H s)(hl:σ'.length=U.length)(w:∀ (i:Nat) v,σ'[i]?=some (some v)->U[i]?=some (some v)):Inv X Z9 σ' H s :=
 ⟨I.ok,I.os,I.bare,I.base,let ⟨m,hn,hl'⟩:=I.loc;⟨m,hn,fun i x v e1 e2 e3=>hl' i x v e1 (w i v e2) e3⟩,I.cell,I.free,I.freeC,I.pin,I.hok,hl.trans I.len⟩
def Inv.pins_of {pins':List (Addr×Obj)}(I:Inv X Z9 U H s)(h:∀ p∈pins',s.heap.get? p.1=some p.2/\H p.1=none/\p.1≠X.env.locals/\p.1∉X.fs/\∀ v,p.2.data≠.cell v):Inv X pins' U H s :=
 ⟨I.ok,I.os,I.bare,I.base,I.loc,I.cell,I.free,I.freeC,fun p hp=>(qI.mp hp).elim (fun z=>I.pin p (QT _ z)) (h p),I.hok,I.len⟩
def DR {N:List Str}(hN:N.Nodup){i j:Nat}{x:Str}(a:N[i]?=some x)(b:N[j]?=some x):i=j:=by
 obtain⟨h1,e1⟩:=qQ.mp a
 obtain⟨h2,e2⟩:=qQ.mp b
 exact(Ik hN).mp (e1.trans e2.symm)
def uz {M:Model}{A:Around}{E:Value->Shared->Prop}{i:Nat}{x:Str}{v:V}{u:Value}{Q:Unit->Shared->Prop}(I:Inv X Z9 U H s)(hN:X.N.Nodup)(hi:X.N[i]?=some x)(hx:Loc X.env.scope x)(r:RelV v u)
  (h:∀ s',Inv X Z9 (U.set i (some v)) H s'->(∃ a,Heap.SameBut a s.heap s'.heap/\(a=X.env.locals\/X.env.cells.lookup x=some a))->Q () s') (hf:X.fn x=true\/X.env.scope.names.lookup x=some .local:=by first|exact .inl rfl|exact .inr rfl|assumption):wpAny M A (storeName X.env x u) Q E s:=by
 obtain⟨m,hn,hl⟩:=id I.loc
 have hcls:(X.env.scope.kind==.class||(X.env.scope.kind==.module&&X.env.locals != X.env.globals))=false:=by rw[I.ok.kind];rfl
 have hiσ:i<U.length:=by rw[I.len];exact(qQ.mp hi).1
 have cne:=I.cne
 have tracked:∀ {a:Addr} {h':Heap},(∃ o,s.heap.get? a=some o/\H a=none)->Heap.SameBut a s.heap h'->Zi X.prog X.w H h':=fun {a h'} ha hs b ob e=>by
  obtain⟨_,_,hfree⟩:=ha
  refine(I.hok b ob e).stay (fun c w' hc q=>(hs.2 c ?_).trans q) (fun _ q=>q) fun _ _ q=>q
  rintro rfl
  rcases hc with rfl|hc
  ·rw[hfree]at e;cases e
  ·rw[hfree]at hc;cases hc
 rcases hx with hk|hk
 ·refine wpAny_storeName_local hk hn (fun h' hn' hs=>?_) hcls
  obtain⟨oL,_,_,hoL,_⟩:=id hn
  refine h _ ⟨I.ok,I.os,I.bare,⟨fun b o e n hb hx=>?_,fun b o e n hb hx=>?_,I.base.free,fun b o e hx=>?_,I.base.tups,I.base.frzs,I.base.tbls⟩,⟨_,hn',fun j y v' e1 e2 e3=>?_⟩,fun y c e=>?_,I.free,I.freeC,fun p hp=>?_,tracked ⟨oL,hoL,I.free⟩ hs,by simpa using I.len⟩ ⟨_,hs,.inl rfl⟩
  ·exact(hs.2 b (qL (qD (qr e) I.ok.above))).trans (I.base.keep b o e n hb hx)
  ·obtain⟨sl,e1⟩:=I.base.slot b o e n hb hx
   exact⟨sl,(hs.2 b (qL (qD (qr e) I.ok.above))).trans e1⟩
  ·obtain⟨o',e1⟩:=I.base.there b o e hx
   exact⟨o',(hs.2 b (qL (qD (qr e) I.ok.above))).trans e1⟩
  ·by_cases hj:j=i
   ·subst hj
    rw[hi]at e1;cases e1
    rw[qN hiσ]at e2
    cases e2
    exact⟨u,r,.inl ⟨hk,by simp⟩⟩
   ·rw[qM (Ne.symm hj)]at e2
    obtain⟨u',r',q⟩:=hl j y v' e1 e2 e3
    refine⟨u',r',?_⟩
    rcases q with⟨k,e⟩|⟨k,c,e,z⟩
    ·refine .inl ⟨k,?_⟩
     have:y≠x:=fun e=>hj (DR hN e1 (e▸hi))
     simp[this,e]
    ·exact .inr ⟨k,c,e,z.sameBut hs (cne y c e)⟩
  ·obtain⟨w',z⟩:=I.cell y c e
   exact⟨w',z.sameBut hs (cne y c e)⟩
  ·obtain⟨e,n,ne,nf,d⟩:=I.pin p hp
   exact⟨(hs.2 p.1 ne).trans e,n,ne,nf,d⟩
 ·have hfn:X.fn x=true:=by
   rcases hf with z|z
   ·exact z
   ·rw[z]at hk;cases hk
  obtain⟨c,hc⟩:=I.ok.has x (.inl hk)
  obtain⟨w',z⟩:=I.cell x c hc
  refine wpAny_storeName_cell I.ok.kind hk hc z (fun h' hc' hs=>?_)
  obtain⟨oc,hoc,hocd⟩:=id z
  refine h { s with heap:=h' } ⟨I.ok,I.os,I.bare,⟨fun b o e n hb hx=>?_,fun b o e n hb hx=>?_,I.base.free,fun b o e hx=>?_,I.base.tups,I.base.frzs,I.base.tbls⟩,⟨m,hn.sameBut hs (Ne.symm (cne x c hc)),fun j y v' e1 e2 e3=>?_⟩,fun y c' e=>?_,I.free,I.freeC,fun p hp=>?_,tracked ⟨oc,hoc,I.freeC x c hc⟩ hs,by simpa using I.len⟩ ⟨c,hs,.inr hc⟩
  ·exact(hs.2 b (qL (qD (qr e) (I.ok.cab x c hfn hc)))).trans (I.base.keep b o e n hb hx)
  ·obtain⟨sl,e1⟩:=I.base.slot b o e n hb hx
   exact⟨sl,(hs.2 b (qL (qD (qr e) (I.ok.cab x c hfn hc)))).trans e1⟩
  ·obtain⟨o',e1⟩:=I.base.there b o e hx
   exact⟨o',(hs.2 b (qL (qD (qr e) (I.ok.cab x c hfn hc)))).trans e1⟩
  ·by_cases hj:j=i
   ·subst hj
    rw[hi]at e1;cases e1
    rw[qN hiσ]at e2
    cases e2
    exact⟨u,r,.inr ⟨.inl hk,c,hc,hc'⟩⟩
   ·rw[qM (Ne.symm hj)]at e2
    obtain⟨u',r',q⟩:=hl j y v' e1 e2 e3
    refine⟨u',r',?_⟩
    rcases q with q|⟨k,c',e,z'⟩
    ·exact .inl q
    ·refine .inr ⟨k,c',e,z'.sameBut hs ?_⟩
     rintro rfl
     exact hj (DR hN e1 (I.ok.inj _ _ _ e hc▸hi))
  ·by_cases hcc:c'=c
   ·subst hcc;exact⟨_,hc'⟩
   ·obtain⟨w2,z2⟩:=I.cell y c' e
    exact⟨w2,z2.sameBut hs hcc⟩
  ·obtain⟨e,n,ne,nf,d⟩:=I.pin p hp
   refine⟨(hs.2 p.1 ?_).trans e,n,ne,nf,d⟩
   intro q
   rw[q,hoc]at e
   have q':oc=p.2:=qB e
   exact d w' (by rw[<- q'];exact hocd)
def Gu {M:Model}{A:Around}{E:Value->Shared->Prop}{i:Nat}{x:Str}{v:V}{u:Value}{Q:Unit->Shared->Prop}(I:Inv X Z9 U H s)(hN:X.N.Nodup)(hi:X.N[i]?=some x)(hx:Loc X.env.scope x)(r:RelV v u)
  (h:∀ s',Inv X Z9 (U.set i (some v)) H s'->Q () s') (hf:X.fn x=true\/X.env.scope.names.lookup x=some .local:=by first|exact .inl rfl|exact .inr rfl|assumption):wpAny M A (storeName X.env x u) Q E s :=
 uz I hN hi hx r (fun s' I' _=>h s' I') hf
def Inv.call' {s':Shared}{ch:List Addr}(I:Inv X Z9 U H s)(ho:s'.os=s.os)(u:Un (frs X.stack) ch H H' s.heap s'.heap)(hok:Zi X.prog X.w H' s'.heap)(hg:AllBare s'.gens)
  (hch:∀ b∈ch,(b∈X.ex\/X.s₀.heap.objs.size<=b)/\b≠X.env.locals/\(∀ x c,X.env.cells.lookup x=some c->c≠b)/\∀ p∈X.pn++Z9,p.1≠b):Inv X Z9 U H' s':=by
 obtain⟨h',g',d',t',o'⟩:=s'
 have e:o'=s.os:=ho
 subst e
 exact I.call (g':=g') (t':=t') (d':=d') u hok hg hch
end
abbrev XK:=Value->Option Addr->Hp->Prop
abbrev St:=List (Option V)
abbrev VK:=V->Hp->Prop
abbrev TE:=St->Hp->VK->Prop
abbrev TT:=St->Hp->(Bool->Hp->Prop)->Prop
abbrev TA:=St->Hp->(List V->Hp->Prop)->Prop
structure Ends where
 nx:St->Hp->Prop
 rt:VK
 bk:St->Hp->Prop:=fun _ _=>False
 ct:St->Hp->Prop:=fun _ _=>False
abbrev TS:=Ends->St->Hp->Prop
def EP (X:Cx)(Z9:List (Addr×Obj))(U:St)(Q:VK)(u:Value)(s':Shared):Prop:=∃ v H',Inv X Z9 U H' s'/\RelV v u/\Q v H'
def TP (X:Cx)(Z9:List (Addr×Obj))(U:St)(Q:Bool->Hp->Prop)(b:Bool)(s':Shared):Prop:=∃ H',Inv X Z9 U H' s'/\Q b H'
def AP (X:Cx)(Z9:List (Addr×Obj))(U:St)(Q:List V->Hp->Prop)(us:List Value)(s':Shared):Prop:=∃ vs H',Inv X Z9 U H' s'/\Vals vs us/\Q vs H'
def SP (X:Cx)(Z9:List (Addr×Obj))(D:Ends)(f:Flow)(s':Shared):Prop :=
 match f with
 |.next=>∃ σ' H',Inv X Z9 σ' H' s'/\D.nx σ' H'
 |.brk=>∃ σ' H',Inv X Z9 σ' H' s'/\D.bk σ' H'
 |.cont=>∃ σ' H',Inv X Z9 σ' H' s'/\D.ct σ' H'
 |.ret u=>∃ v σ' H',Inv X Z9 σ' H' s'/\RelV v u/\D.rt v H'
def PE (X:Cx)(e:Expr)(t:TE):Prop :=
 ∀ (Z9:List (Addr×Obj)) (s:Shared) (U:St) (H:Hp) (Q:VK),Inv X Z9 U H s->t U H Q->wpAny (model X.prog X.w) X.A (eval e X.env) (EP X Z9 U Q) X.xe s
def PT (X:Cx)(e:Expr)(t:TT):Prop :=
 ∀ (Z9:List (Addr×Obj)) (s:Shared) (U:St) (H:Hp) (Q:Bool->Hp->Prop),Inv X Z9 U H s->t U H Q->wpAny (model X.prog X.w) X.A (isTrue e X.env (eval e X.env)) (TP X Z9 U Q) X.xe s
def PW (X:Cx)(e:Expr)(t:TT):Prop :=
 ∀ (whole:Sem Value) (Z9:List (Addr×Obj)) (s:Shared) (U:St) (H:Hp) (Q:Bool->Hp->Prop),Inv X Z9 U H s->t U H Q->wpAny (model X.prog X.w) X.A (isTrue e X.env whole) (TP X Z9 U Q) X.xe s
def PA (X:Cx)(es:List Expr)(t:TA):Prop :=
 ∀ (pos:Pos) (Z9:List (Addr×Obj)) (s:Shared) (U:St) (H:Hp) (Q:List V->Hp->Prop),Inv X Z9 U H s->t U H Q->wpAny (model X.prog X.w) X.A (spliced (backTo pos (starEach es X.env))) (AP X Z9 U Q) X.xe s
def PS (X:Cx)(st:Stmt)(t:TS):Prop :=
 ∀ (Z9:List (Addr×Obj)) (s:Shared) (U:St) (H:Hp) (D:Ends),Inv X Z9 U H s->t D U H->wpAny (model X.prog X.w) X.A (exec st X.env) (SP X Z9 D) X.xe s
def W6 (X:Cx)(st:List Stmt)(t:TS):Prop :=
 ∀ (Z9:List (Addr×Obj)) (s:Shared) (U:St) (H:Hp) (D:Ends),Inv X Z9 U H s->t D U H->wpAny (model X.prog X.w) X.A (execs st X.env) (SP X Z9 D) X.xe s
def Z0 {α:Type}{t:Sem α}{Q Q':α->Shared->Prop}{M:Model}{A:Around}{E:Value->Shared->Prop}{s:Shared}(h:wpAny M A t Q E s)(hQ:∀ a s,Q a s->Q' a s):wpAny M A t Q' E s:=wpAny_mono h hQ fun _ _ x=>x
section
variable {X:Cx}
def Dh (i:Nat):TE:=fun U H Q=>∃ v,U[i]?=some (some v)/\Q v H
def tC (v:V):TE:=fun _ H Q=>Q v H
def yQ {i:Nat}{x:Str}{pos:Pos}(hN:X.N[i]?=some x)(hv:Vis X.env.scope x)(hd:(x==("__debug__":Str))=false:=by decide)(hcd:(x==("__classdict__":Str))=false:=by decide):PE X (.Name x pos) (Dh i):=by
 intro Z9 s U H Q I h
 obtain⟨v,e,h⟩:=h
 obtain⟨m,hn,hl⟩:=I.loc
 obtain⟨u,r,l⟩:=hl i x v hN e hv
 have fin:EP X Z9 U Q u s:=⟨v,H,I,r,h⟩
 rcases l with⟨hk,hm⟩|⟨hk,c,hc,hcell⟩
 ·exact wpAny_Name (wpAny_loadName_local I.ok.kind hk hn hm fin) hd
 ·rcases hk with hk|hk
  ·exact wpAny_Name (wpAny_loadName_cell I.ok.kind hk hc hcell fin) hd
  ·exact wpAny_Name (wpAny_loadName_free I.ok.kind hk hc hcell fin hcd) hd
def Ci {i j pos}:PE X (.Constant (.int i) j pos) (tC (.int i)):=fun _ _ _ H _ I h=>wpAny_Constant_int ⟨.int i,H,I.tok _,⟨_,rfl⟩,h⟩
def zwV {b j pos}:PE X (.Constant (.bool b) j pos) (tC (.bl b)):=fun _ _ _ H _ I h=>Constant_bool ⟨.bl b,H,I,rfl,h⟩
def zuH {j pos}:PE X (.Constant .none j pos) (tC .non):=fun _ _ _ H _ I h=>Constant_none ⟨.non,H,I,rfl,h⟩
def zuR {x j pos}:PE X (.Constant (.str x) j pos) (tC (.str x)):=fun _ _ _ H _ I h=>Calls.Constant_str ⟨.str x,H,I.tok _,⟨_,rfl⟩,h⟩
def Gl (X:Cx)(x:Str):Prop:=X.env.kindOf x=some .globalImplicit
def PX {E:Value->Shared->Prop}{Z9:List (Addr×Obj)}{s:Shared}{U:St}{H:Hp}{x:Str}{u:Value}{pos:Pos}{Q:Value->Shared->Prop}(I:Inv X Z9 U H s)(hg:Gl X x)(hm:X.mg x=some u)(h:Q u s)
  (hd:(x==("__debug__":Str))=false:=by decide):wpAny (model X.prog X.w) X.A (eval (.Name x pos) X.env) Q E s :=
 Calls.Name_function_global I.ok.kind hg (Calls.loadGlobal_global (by rw[I.ok.glob];exact I.mod.glob.keeps I.bk) hm h) hd
def U5 {E:Value->Shared->Prop}{Z9:List (Addr×Obj)}{s:Shared}{U:St}{H:Hp}{x:Str}{u:Value}{pos:Pos}{Q:Value->Shared->Prop}(I:Inv X Z9 U H s)(hg:Gl X x)(hm:X.mg x=none)(hv:bootBuiltins x=some u)(h:Q u s)
  (hn:x≠"__name__":=by decide) (hd:(x==("__debug__":Str))=false:=by decide):wpAny (model X.prog X.w) X.A (eval (.Name x pos) X.env) Q E s:=by
 obtain⟨mb,h1,h2⟩:=I.mod.blt
 exact Calls.Name_function_global I.ok.kind hg (Calls.loadGlobal_builtin (by rw[I.ok.glob];exact I.mod.glob.keeps I.bk) hm (by rw[I.ok.blt];exact h1.keeps I.bk) ((h2 x hn).trans hv) h) hd
def yp {x:Str}{v:V}{u:Value}{pos:Pos}(hg:Gl X x)(hm:X.mg x=some u)(r:RelV v u)(hd:(x==("__debug__":Str))=false:=by decide):PE X (.Name x pos) (tC v) :=
 fun _ _ _ H _ I h=>PX I hg hm ⟨v,H,I,r,h⟩ hd
def zti {x:Str}{v:V}{u:Value}{pos:Pos}(hg:Gl X x)(hm:X.mg x=none)(hv:bootBuiltins x=some u)(r:RelV v u)(hn:x≠"__name__":=by decide)(hd:(x==("__debug__":Str))=false:=by decide):PE X (.Name x pos) (tC v) :=
 fun _ _ _ H _ I h=>U5 I hg hm hv ⟨v,H,I,r,h⟩ hn hd
variable {a b:Expr}{ta tb:TE}{pos:Pos}
def tB (t:TE):TT:=fun U H Q=>t U H fun x H1=>∃ c,x=.bl c/\Q c H1
def zuB {e:Expr}{t:TE}(h:PE X e t)(he:∀ whole,isTrue e X.env whole=(do let v <- whole;standAt e.pos;holding [v] (truthy v)):=by intro _;rfl):PT X e (tB t):=by
 intro Z9 s U H Q I hw
 refine isTrue_plain (Z0 (h Z9 s U H _ I hw) fun v s1 ⟨x,H1,I1,r1,q1⟩=>?_) (he _)
 obtain⟨d,rfl,q⟩:=q1
 cases r1
 exact wpAny_truthy_bool ⟨H1,I1,q⟩
variable {tA tB':TT}{rest:List Expr}
def gQ (t u:TT):TT:=fun U H Q=>t U H fun c H1=>if c=true then u U H1 Q else Q false H1
def tOr (t u:TT):TT:=fun U H Q=>t U H fun c H1=>if c=true then Q true H1 else u U H1 Q
def zze (t:TT):TT:=fun U H Q=>t U H fun c H1=>Q (!c) H1
def zui (ha:PT X a tA):PW X (.BoolOp .And [a] pos) tA:=by
 intro wh Z9 s U H Q I h
 refine isTrue_and (Z0 (ha Z9 s U H Q I h) fun c s1 e=>?_)
 cases c with
 |true=>exact isTrue_and_nil e
 |false=>exact e
def zuI (ha:PT X a tA):PW X (.BoolOp .Or [a] pos) tA:=by
 intro wh Z9 s U H Q I h
 refine isTrue_or (Z0 (ha Z9 s U H Q I h) fun c s1 e=>?_)
 cases c with
 |false=>exact isTrue_or_nil e
 |true=>exact e
def fZ (ha:PT X a tA)(hb:PW X (.BoolOp .And (b::rest) pos) tB'):PW X (.BoolOp .And (a::b::rest) pos) (gQ tA tB'):=by
 intro wh Z9 s U H Q I h
 refine isTrue_and (Z0 (ha Z9 s U H _ I h) fun c s1 ⟨H1,I1,q1⟩=>?_)
 cases c with
 |true=>exact hb wh Z9 s1 U H1 Q I1 q1
 |false=>exact⟨H1,I1,q1⟩
def zxu (ha:PT X a tA)(hb:PW X (.BoolOp .Or (b::rest) pos) tB'):PW X (.BoolOp .Or (a::b::rest) pos) (tOr tA tB'):=by
 intro wh Z9 s U H Q I h
 refine isTrue_or (Z0 (ha Z9 s U H _ I h) fun c s1 ⟨H1,I1,q1⟩=>?_)
 cases c with
 |true=>exact⟨H1,I1,q1⟩
 |false=>exact hb wh Z9 s1 U H1 Q I1 q1
def zux (ha:PT X a tA):PT X (.UnaryOp .Not a pos) (zze tA):=by
 intro Z9 s U H Q I h
 exact isTrue_not (ha Z9 s U H (fun c H1=>Q (!c) H1) I h)
def zx0 (ta tb:TE):TE:=fun U H Q=>ta U H fun x H1=>∃ c,x=.bl c/\if c=true then tb U H1 Q else Q (.bl false) H1
def zyz (ta tb:TE):TE:=fun U H Q=>ta U H fun x H1=>∃ c,x=.bl c/\if c=true then Q (.bl true) H1 else tb U H1 Q
def jB (ta:TE):TE:=fun U H Q=>ta U H fun x H1=>∃ c,x=.bl c/\Q (.bl (!c)) H1
def iZ {op}{t:TE}(h:PE X a t):PE X (.BoolOp op [a] pos) t:=fun Z9 s U H Q I hw=>BoolOp_one (h Z9 s U H Q I hw)
def zww (ha:PE X a ta)(hb:PE X (.BoolOp .And (b::rest) pos) tb):PE X (.BoolOp .And (a::b::rest) pos) (zx0 ta tb):=by
 intro Z9 s U H Q I h
 refine BoolOp_and (Z0 (ha Z9 s U H _ I h) fun v s1 ⟨x,H1,I1,r1,q1⟩=>?_)
 obtain⟨c,rfl,q1⟩:=q1
 cases r1
 refine wpAny_truthy_bool ?_
 cases c with
 |true=>exact hb Z9 s1 U H1 Q I1 q1
 |false=>exact⟨.bl false,H1,I1,rfl,q1⟩
def zyj (ha:PE X a ta)(hb:PE X (.BoolOp .Or (b::rest) pos) tb):PE X (.BoolOp .Or (a::b::rest) pos) (zyz ta tb):=by
 intro Z9 s U H Q I h
 refine BoolOp_or (Z0 (ha Z9 s U H _ I h) fun v s1 ⟨x,H1,I1,r1,q1⟩=>?_)
 obtain⟨c,rfl,q1⟩:=q1
 cases r1
 refine wpAny_truthy_bool ?_
 cases c with
 |false=>exact hb Z9 s1 U H1 Q I1 q1
 |true=>exact⟨.bl true,H1,I1,rfl,q1⟩
def zvz (ha:PE X a ta):PE X (.UnaryOp .Not a pos) (jB ta):=by
 intro Z9 s U H Q I h
 refine UnaryOp_ (Z0 (ha Z9 s U H _ I h) fun v s1 ⟨x,H1,I1,r1,q1⟩=>?_)
 obtain⟨c,rfl,q1⟩:=q1
 cases r1
 exact not_of (wpAny_truthy_bool ⟨.bl (!c),H1,I1,rfl,q1⟩)
def tIf (t:TT)(ta tb:TE):TE:=fun U H Q=>t U H fun c H1=>if c=true then ta U H1 Q else tb U H1 Q
def zrw {c:Expr}(hc:PT X c tA)(ha:PE X a ta)(hb:PE X b tb):PE X (.IfExp c a b pos) (tIf tA ta tb):=by
 intro Z9 s U H Q I h
 refine wpAny_IfExp (Z0 (hc Z9 s U H _ I h) fun d s1 ⟨H1,I1,q1⟩=>?_)
 cases d with
 |true=>exact ha Z9 s1 U H1 Q I1 q1
 |false=>exact hb Z9 s1 U H1 Q I1 q1
end
def Zq (K:PySem.W.Frag)(H:Hp)(a:Addr)(xs:List V):Prop :=
 Rd H a (.lst xs) \/
  ∃ (o:Obj) (its:Array Value) (n:Nat),K.lookup a=some o/\o.cls=.type "list"/\o.dict=none/\o.data=.seq its n/\its.size<=sizeLine/\Vals xs its.toList
def ZL (K:PySem.W.Frag)(H:Hp)(a:Addr)(xs:List V):Prop :=
 Rd H a (.tup xs) \/
  ∃ (o:Obj) (its:Array Value) (n:Nat),K.lookup a=some o/\o.cls=.type "tuple"/\o.data=.seq its n/\its.size<=sizeLine/\Vals xs its.toList
def zyT:Value->Option V
 |.none=>some .non
 |.bool b=>some (.bl b)
 |.int i _=>some (.int i)
 |.str x _=>some (.str x)
 |.bytes b _=>some (.byt b)
 |.float b _=>some (.flt b)
 |.ref a=>some (.ref a)
 |.type n=>some (.ty n)
 |_=>none
def RelV.abs {x:V}{u:Value}(r:RelV x u):zyT u=some x:=by
 cases x with
 |non=>cases r;rfl
 |bl _=>cases r;rfl
 |int _=>obtain⟨t,rfl⟩:=r;rfl
 |str _=>obtain⟨t,rfl⟩:=r;rfl
 |byt _=>obtain⟨t,rfl⟩:=r;rfl
 |flt _=>obtain⟨t,rfl⟩:=r;rfl
 |ref _=>cases r;rfl
 |ty _=>cases r;rfl
def RelV.inj {x y:V}{u:Value}(r:RelV x u)(q:RelV y u):x=y:=qB (r.abs.symm.trans q.abs)
theorem Vals.inj:∀ {xs ys:List V} {us:List Value},Vals xs us->Vals ys us->xs=ys
 |_,_,_,.nil,.nil=>rfl
 |_,_,_,.cons r t,.cons r' t'=>by rw[r.inj r',Vals.inj t t']
section
variable {X:Cx}{Z9:List (Addr×Obj)}{U:St}{H:Hp}{s:Shared}{a:Addr}{xs ys:List V}
def Zq.of {K:PySem.W.Frag}(h:H a=some (.lst xs)):Zq K H a xs:=.inl (.inl h)
def ZL.of {K:PySem.W.Frag}(h:H a=some (.tup xs)):ZL K H a xs:=.inl (.inl h)
def Inv.list (I:Inv X Z9 U H s)(h:Zq X.K H a xs):∃ its:List Value,Vals xs its/\PlainL s.heap a its.toArray/\xs.length<=sizeLine:=by
 rcases h with h|⟨o,its,n,hk,hc,hd,hs,hz,r⟩
 ·obtain⟨z,its,n,r,e⟩:=h.ok I.hok
  exact⟨its,r,⟨_,n,e,rfl,rfl,rfl⟩,z⟩
 ·refine⟨its.toList,r,⟨o,n,I.kIn a o hk,hc,hd,by simpa using hs⟩,?_⟩
  have e:=r.length
  simp only[qS]at e
  lia
def Inv.tuple (I:Inv X Z9 U H s)(h:ZL X.K H a xs):∃ its:List Value,Vals xs its/\IsTup s.heap a its.toArray/\xs.length<=sizeLine:=by
 rcases h with h|⟨o,its,n,hk,hc,hs,hz,r⟩
 ·obtain⟨z,its,r,p⟩:=h.ok I.hok
  exact⟨its,r,p,z⟩
 ·refine⟨its.toList,r,⟨o,I.kIn a o hk,hc,n,by simpa using hs⟩,?_⟩
  have e:=r.length
  simp only[qS]at e
  lia
def Inv.list_inj (I:Inv X Z9 U H s)(h:Zq X.K H a xs)(h':Zq X.K H a ys):xs=ys:=by
 obtain⟨its,r,⟨o,n,e,_,_,d⟩,_⟩:=I.list h
 obtain⟨its',r',⟨o',n',e',_,_,d'⟩,_⟩:=I.list h'
 rw[e]at e';cases e'
 rw[d]at d'
 injection d' with d1 _
 have:its=its':=by simpa using congrArg Array.toList d1
 subst this
 exact r.inj r'
def Inv.tuple_inj (I:Inv X Z9 U H s)(h:ZL X.K H a xs)(h':ZL X.K H a ys):xs=ys:=by
 obtain⟨its,r,⟨o,e,_,n,d⟩,_⟩:=I.tuple h
 obtain⟨its',r',⟨o',e',_,n',d'⟩,_⟩:=I.tuple h'
 rw[e]at e';cases e'
 rw[d]at d'
 injection d' with d1 _
 have:its=its':=by simpa using congrArg Array.toList d1
 subst this
 exact r.inj r'
end
abbrev Cx.wish (X:Cx)(E:Value->Shared->Prop):Cx:={ X with xe:=E }
abbrev Cx.nox (X:Cx):Cx:=X.wish fun _ _=>False
theorem Cx.Ok.wish {X:Cx}(ok:X.Ok)(E:Value->Shared->Prop):(X.wish E).Ok :=
 ⟨ok.mod,ok.kind,ok.glob,ok.blt,ok.above,ok.inj,ok.has,ok.cab,ok.hd,ok.frames,ok.stk,ok.exf,ok.bs,ok.bsz,ok.noex,ok.exfs,ok.funs,ok.frf⟩
def Cx.Ok.unwish {X:Cx}{E:Value->Shared->Prop}(ok:(X.wish E).Ok):X.Ok :=
 ⟨ok.mod,ok.kind,ok.glob,ok.blt,ok.above,ok.inj,ok.has,ok.cab,ok.hd,ok.frames,ok.stk,ok.exf,ok.bs,ok.bsz,ok.noex,ok.exfs,ok.funs,ok.frf⟩
section
variable {X:Cx}{Z9:List (Addr×Obj)}{U:St}{H:Hp}{s:Shared}{E:Value->Shared->Prop}
theorem Inv.wish (I:Inv X Z9 U H s)(E:Value->Shared->Prop):Inv (X.wish E) Z9 U H s:=⟨I.ok.wish E,I.os,I.bare,I.base,I.loc,I.cell,I.free,I.freeC,I.pin,I.hok,I.len⟩
theorem Inv.unwish (I:Inv (X.wish E) Z9 U H s):Inv X Z9 U H s:=⟨I.ok.unwish,I.os,I.bare,I.base,I.loc,I.cell,I.free,I.freeC,I.pin,I.hok,I.len⟩
theorem SP.unwish {D:Ends}{f:Flow}{s':Shared}(h:SP (X.wish E) Z9 D f s'):SP X Z9 D f s':=by
 cases f with
 |next=>obtain⟨σ',H',I,q⟩:=h;exact⟨σ',H',I.unwish,q⟩
 |brk=>obtain⟨σ',H',I,q⟩:=h;exact⟨σ',H',I.unwish,q⟩
 |cont=>obtain⟨σ',H',I,q⟩:=h;exact⟨σ',H',I.unwish,q⟩
 |ret u=>obtain⟨v,σ',H',I,r,q⟩:=h;exact⟨v,σ',H',I.unwish,r,q⟩
theorem W6.nox {st:List Stmt}{t:TS}(h:W6 X.nox st t):W6 X st t:=fun Z9 s U H D I hw =>
 wpAny_mono (h Z9 s U H D (I.wish _) hw) (fun _ _ q=>q.unwish) fun _ _ z=>False.elim z
end
section
variable {X:Cx}{st:Stmt}{rest:List Stmt}{t u:TS}{e:Expr}{te:TE}{pos:Pos}
def zx9:TS:=fun D U H=>D.nx U H
def zy1 (t u:TS):TS:=fun D U H=>t { D with nx:=u D } U H
def ztC:W6 X [] zx9:=fun _ _ U H _ I h=>wpAny_execs_nil ⟨U,H,I,h⟩
def zrR (h1:PS X st t)(h2:W6 X rest u):W6 X (st::rest) (zy1 t u):=by
 intro Z9 s U H D I h
 refine wpAny_execs_cons (Z0 (h1 Z9 s U H { D with nx:=u D } I h) fun f s1 q=>?_)
 cases f with
 |next =>
  obtain⟨σ',H',I',q⟩:=q
  exact h2 Z9 s1 σ' H' D I' q
 |ret v=>exact q
 |brk=>exact q
 |cont=>exact q
def zum (h1:PS X st t):W6 X [st] t:=by
 intro Z9 s U H D I h
 refine wpAny_execs_cons (Z0 (h1 Z9 s U H D I h) fun f s1 q=>?_)
 cases f with
 |next=>exact wpAny_execs_nil q
 |ret v=>exact q
 |brk=>exact q
 |cont=>exact q
def Inv.quiet {Z9:List (Addr×Obj)}{U:St}{H:Hp}{s:Shared}(I:Inv X Z9 U H s):interactive X.env=false:=by simp[interactive,I.ok.kind]
def zwW (te:TE):TS:=fun D U H=>te U H fun _ H1=>D.nx U H1
def zsI (he:PE X e te)(hs:swapsWith e none pos.line X.env=pure false:=by rfl):PS X (.Expr e pos) (zwW te):=by
 intro Z9 s U H D I h
 exact wpAny_Expr_any (Z0 (he Z9 s U H _ I h) fun v s1 ⟨x,H1,I1,r1,q1⟩=>⟨U,H1,I1,q1⟩) I.quiet hs
def zy9 (te:TE):TS:=fun D U H=>te U H D.rt
def zwm (he:PE X e te):PS X (.Return (some e) pos) (zy9 te):=by
 intro Z9 s U H D I h
 exact wpAny_Return_some (Z0 (he Z9 s U H _ I h) fun v s1 ⟨x,H1,I1,r1,q1⟩=>⟨x,U,H1,I1,r1,q1⟩)
def zyY (c:TT)(t u:TS):TS:=fun D U H=>c U H fun b H1=>if b=true then t D U H1 else u D U H1
def zwS {c:Expr}{a b:List Stmt}{tc:TT}(hc:PT X c tc)(ha:W6 X a t)(hb:W6 X b u):PS X (.If c a b pos) (zyY tc t u):=by
 intro Z9 s U H D I h
 refine wpAny_If (Z0 (hc Z9 s U H _ I h) fun d s1 ⟨H1,I1,q1⟩=>?_)
 cases d with
 |true=>exact ha Z9 s1 U H1 D I1 q1
 |false=>exact hb Z9 s1 U H1 D I1 q1
def fM:TS:=fun _ _ _=>False
def zqP:PS X st fM:=fun _ _ _ _ _ _ h=>h.elim
end
abbrev TG:=V->St->Hp->(St->Hp->Prop)->Prop
abbrev Uj:=List V->St->Hp->(St->Hp->Prop)->Prop
def PG (X:Cx)(target:Expr)(t:TG):Prop :=
 ∀ (Z9:List (Addr×Obj)) (s:Shared) (U:St) (H:Hp) (v:V) (u:Value) (Q:St->Hp->Prop),Inv X Z9 U H s->RelV v u->t v U H Q ->
  wpAny (model X.prog X.w) X.A (assign target X.env u) (fun _ s'=>∃ σ' H',Inv X Z9 σ' H' s'/\Q σ' H') X.xe s
def Mp (X:Cx)(ts:List Expr)(t:Uj):Prop :=
 ∀ (Z9:List (Addr×Obj)) (s:Shared) (U:St) (H:Hp) (vs:List V) (us:List Value) (Q:St->Hp->Prop),Inv X Z9 U H s->Vals vs us->t vs U H Q ->
  wpAny (model X.prog X.w) X.A (assignInOrder ((assignEach ts X.env).map (·.2)) us) (fun _ s'=>∃ σ' H',Inv X Z9 σ' H' s'/\Q σ' H') X.xe s
abbrev Ey:=V->V->V->Hp->(Hp->Prop)->Prop
def wN (X:Cx)(t:Ey):Prop :=
 ∀ (Z9:List (Addr×Obj)) (s:Shared) (U:St) (H:Hp) (o i v:V) (ov iv u:Value) (Q:Hp->Prop),Inv X Z9 U H s->RelV o ov->RelV i iv->RelV v u->t o i v H Q ->
  wpAny (model X.prog X.w) X.A (setItem ov iv u) (fun _ s'=>∃ H',Inv X Z9 U H' s'/\Q H') X.xe s
abbrev IW:=V->V->Hp->VK->Prop
def rQ (X:Cx)(op:Operator)(t:IW):Prop :=
 ∀ (Z9:List (Addr×Obj)) (s:Shared) (U:St) (H:Hp) (x y:V) (v u:Value) (Q:VK),Inv X Z9 U H s->RelV x v->RelV y u->t x y H Q ->
  wpAny (model X.prog X.w) X.A (inplaceOp op v u) (EP X Z9 U Q) X.xe s
section
variable {X:Cx}{pos:Pos}
def YW (i:Nat):TG:=fun v U H Q=>Q (U.set i (some v)) H
def Vj {i:Nat}{x:Str}(hN:X.N.Nodup)(hi:X.N[i]?=some x)(hx:Loc X.env.scope x)(hf:X.fn x=true\/X.env.scope.names.lookup x=some .local:=by first|exact .inl rfl|exact .inr rfl|assumption):PG X (.Name x pos) (YW i):=by
 intro Z9 s U H v u Q I r h
 exact wpAny_assign_Name (Gu I hN hi hx r (fun s' I'=>⟨_,H,I',h⟩) hf)
def X3:Uj:=fun vs U H Q=>vs=[]/\Q U H
def Zn (t:TG)(u:Uj):Uj:=fun vs U H Q=>∃ v r,vs=v::r/\t v U H fun σ' H'=>u r σ' H' Q
def Kw:Mp X [] X3:=by
 intro Z9 s U H vs us Q I r h
 obtain⟨e,h⟩:=h
 subst e
 cases r
 exact assignInOrder_nil ⟨U,H,I,h⟩
def Uz {e:Expr}{es:List Expr}{t:TG}{u:Uj}(h1:PG X e t)(h2:Mp X es u)
  (hs:(assignEach (e::es) X.env).map (·.2)=assign e X.env::(assignEach es X.env).map (·.2):=by rfl):Mp X (e::es) (Zn t u):=by
 intro Z9 s U H vs us Q I r h
 obtain⟨v,vr,e1,h⟩:=h
 subst e1
 cases r with
 |cons r rr =>
  rw[hs]
  refine assignInOrder_cons (Z0 (h1 Z9 s U H _ _ _ I r h) fun _ s1 ⟨σ1,H1,I1,q1⟩=>?_)
  exact h2 Z9 s1 σ1 H1 _ _ Q I1 rr q1
def XF (K:PySem.W.Frag)(n:Nat)(t:Uj):TG:=fun v U H Q=>∃ a xs,v=.ref a/\ZL K H a xs/\xs.length=n/\t xs U H Q
def Mw {es:List Expr}{k:Nat}{t:Uj}{n:Nat}(hc:X.calm=true)(h:Mp X es t)
  (hn:(assignEach es X.env).length=n:=by rfl) (hst:(assignEach es X.env).findIdx? (·.1)=none:=by rfl):PG X (.Tuple es k pos) (XF X.K n t):=by
 intro Z9 s U H v u Q I r hw
 obtain⟨a,xs,e1,hq,hl,hw⟩:=hw
 subst e1
 cases r
 obtain⟨its,rv,ht,hz⟩:=I.tuple hq
 refine assign_Tuple_tuple (I.ok.hd hc) ht (by simp[hn,<- hl,rv.length]) hst fun h' hx=>?_
 have I1:Inv X Z9 U H { s with heap:=h' }:=I.kept (t':=s.toks) fun b o e=>hx b o (qL (qr e)) e
 exact h Z9 _ U H xs _ Q I1 (by simpa using rv) hw
def QD (to ti:TE)(t:Ey):TG:=fun v U H Q=>to U H fun o H1=>ti U H1 fun i H2=>t o i v H2 fun H3=>Q U H3
def kW {o i:Expr}{to ti:TE}{t:Ey}(ho:PE X o to)(hi:PE X i ti)(hs:wN X t)
  (ha:∀ v,assign (.Subscript o i pos) X.env v=(do
   let ov <- holding [v] (eval o X.env)
   let iv <- holding [v,ov] (eval i X.env)
   standAt pos
   holding [v,ov,iv] (setItem ov iv v)
   release [v,ov,iv] []):=by intro _;rfl):PG X (.Subscript o i pos) (QD to ti t):=by
 intro Z9 s U H v u Q I r h
 rw[ha]
 refine wpAny_bind (wpAny_holding (Z0 (ho Z9 s U H _ I h) fun ov s1 ⟨x,H1,I1,r1,q1⟩=>?_))
 refine wpAny_bind (wpAny_holding (Z0 (hi Z9 s1 U H1 _ I1 q1) fun iv s2 ⟨y,H2,I2,r2,q2⟩=>?_))
 refine wpAny_bind (wpAny_standAt (wpAny_bind (wpAny_holding (Z0 (hs Z9 s2 U H2 x y v ov iv u _ I2 r1 r2 r q2) fun _ s3 ⟨H3,I3,q3⟩=>?_))))
 exact wpAny_release ⟨U,H3,I3,q3⟩
def Bk (te:TE)(g:TG):TS:=fun D U H=>te U H fun x H1=>g x U H1 D.nx
def jQ {tg e:Expr}{te:TE}{g:TG}(he:PE X e te)(hg:PG X tg g)(hs:swapsWithSole [tg] e pos.line X.env=pure false:=by rfl)(hw:swappedStores [tg] e X.env=pure none:=by rfl)
  (h1:(assignEach [tg] X.env).map (·.2)=[assign tg X.env]:=by rfl):PS X (.Assign [tg] e pos) (Bk te g):=by
 intro Z9 s U H D I h
 refine wpAny_Assign_stores (Z0 (he Z9 s U H _ I h) fun v s1 ⟨x,H1,I1,r1,q1⟩=>?_) hs hw
 rw[h1]
 exact Z0 (hg Z9 s1 U H1 x v _ I1 r1 q1) fun _ s2 q=>q
def fW {i:Nat}{x:Str}{e:Expr}{te:TE}{pos':Pos}(hN:X.N.Nodup)(hi:X.N[i]?=some x)(hx:Loc X.env.scope x)(he:PE X e te)(hs:swapsWith e (some (.Name x pos')) pos.line X.env=pure false:=by rfl)(hf:X.fn x=true\/X.env.scope.names.lookup x=some .local:=by first|exact .inl rfl|exact .inr rfl|assumption) :
  PS X (.Assign [.Name x pos'] e pos) (Bk te (YW i)):=by
 intro Z9 s U H D I h
 refine wpAny_Assign_Name (Z0 (he Z9 s U H _ I h) fun v s1 ⟨y,H1,I1,r1,q1⟩=>?_) hs
 exact Gu I1 hN hi hx r1 (fun s2 I2=>⟨_,H1,I2,q1⟩) hf
def zyt (i:Nat)(te:TE)(ti:IW):TS:=fun D U H=>∃ x,U[i]?=some (some x)/\te U H fun y H1=>ti x y H1 fun z H2=>D.nx (U.set i (some z)) H2
def zuL {i:Nat}{x:Str}{e:Expr}{te:TE}{op:Operator}{ti:IW}{pos':Pos}(hN:X.N.Nodup)(hi:X.N[i]?=some x)(hx:Loc X.env.scope x)(he:PE X e te)(ho:rQ X op ti)(hf:X.fn x=true\/X.env.scope.names.lookup x=some .local:=by first|exact .inl rfl|exact .inr rfl|assumption) :
  PS X (.AugAssign (.Name x pos') op e pos) (zyt i te ti):=by
 intro Z9 s U H D I h
 obtain⟨v,e1,h⟩:=h
 obtain⟨m,hn,hl⟩:=I.loc
 have vis:Vis X.env.scope x:=by rcases hx with k|k;exact .inl k;exact .inr (.inl k)
 obtain⟨u,r,l⟩:=hl i x v hi e1 vis
 refine wpAny_AugAssign_Name ?_
 have go:wpAny (model X.prog X.w) X.A (eval e X.env) (fun w s₂=>wpAny (model X.prog X.w) X.A (inplaceOp op u w) (fun r s₃=>wpAny (model X.prog X.w) X.A (storeName X.env x r) (fun _=>SP X Z9 D .next) X.xe s₃) X.xe s₂) X.xe s:=by
  refine Z0 (he Z9 s U H _ I h) fun w s1 ⟨y,H1,I1,r1,q1⟩=>?_
  refine Z0 (ho Z9 s1 U H1 v y u w _ I1 r r1 q1) fun z s2 ⟨zv,H2,I2,r2,q2⟩=>?_
  exact Gu I2 hN hi hx r2 (fun s3 I3=>⟨_,H2,I3,q2⟩) hf
 rcases l with⟨hk,hm⟩|⟨hk,c,hc,hcell⟩
 ·exact wpAny_loadName_local I.ok.kind hk hn hm go
 ·rcases hk with hk|hk
  ·exact wpAny_loadName_cell I.ok.kind hk hc hcell go
  ·rcases hx with k|k
   ·have:X.env.scope.names.lookup x=some .free:=hk
    rw[k]at this;cases this
   ·have:X.env.scope.names.lookup x=some .free:=hk
    rw[k]at this;cases this
def ipI (f:Int->Int->Int):IW:=fun x y H Q=>∃ i j,x=.int i/\y=.int j/\Q (.int (f i j)) H
def zvA:rQ X .Add (ipI fun i j=>i+j):=by
 intro Z9 s U H x y v u Q I r1 r2 h
 obtain⟨i,j,e1,e2,q⟩:=h
 subst e1;subst e2
 obtain⟨t,rfl⟩:=r1
 obtain⟨t',rfl⟩:=r2
 exact iadd_int ⟨.int _,H,I.tok _,⟨_,rfl⟩,q⟩
end
section
variable {X:Cx}{pos:Pos}
def zvM (c:TT)(tb:TS):TS:=fun D U H=>∃ W:Nat->St->Hp->Prop,(∃ m,W m U H)/\∀ m U H,W m U H ->
 c U H fun b H1=>if b=true then ∃ N:St->Hp->Prop,(∀ σ' H',N σ' H'->∃ m',m'<m/\W m' σ' H')/\tb { D with nx:=N,ct:=N,bk:=D.nx } U H1 else D.nx U H1
def zrX {c:Expr}{body:List Stmt}{tc:TT}{tb:TS}(hp:PassesOwn (model X.prog X.w) X.A X.env X.xe)(hc:PT X c tc)(hb:W6 X body tb):PS X (.While c body [] pos) (zvM tc tb):=by
 intro Z9 s U H D I h
 obtain⟨W,⟨m0,w0⟩,turn⟩:=h
 refine wpAny_While (codeAny_whileLoop (fun n s'=>∃ σ' H',Inv X Z9 σ' H' s'/\W n σ' H') ?_ m0 ⟨U,H,I,w0⟩)
 rintro n s1 ⟨σ1,H1,I1,w1⟩
 refine wpAny_passesOwn hp (Z0 (hc Z9 s1 σ1 H1 _ I1 (turn n σ1 H1 w1)) fun b s2 ⟨H2,I2,q2⟩=>?_)
 cases b with
 |true =>
  obtain⟨N,hN,q2⟩:=q2
  rw[if_pos rfl]
  refine wpAny_passesOwn hp (Z0 (hb Z9 s2 σ1 H2 _ I2 q2) fun f s3 q3=>?_)
  cases f with
  |next =>
   obtain⟨σ3,H3,I3,n3⟩:=q3
   obtain⟨m',hm,w3⟩:=hN σ3 H3 n3
   exact⟨m',hm,σ3,H3,I3,w3⟩
  |cont =>
   obtain⟨σ3,H3,I3,n3⟩:=q3
   obtain⟨m',hm,w3⟩:=hN σ3 H3 n3
   exact⟨m',hm,σ3,H3,I3,w3⟩
  |brk=>exact q3
  |ret v=>exact q3
 |false =>
  rw[if_neg qu]
  exact wpAny_execs_nil ⟨σ1,H2,I2,q2⟩
end
structure It where
 go:Nat->Hp->Prop
 yld:Nat->Hp->V->Hp->Prop
 stop:Nat->Hp->Prop
def U4 (X:Cx)(Z9:List (Addr×Obj))(H:Hp)(b:Addr):Prop :=
 H b=none/\b≠X.env.locals/\b∉X.fs/\(b∈X.ex\/X.s₀.heap.objs.size<=b)/\(∀ x c,X.env.cells.lookup x=some c->c≠b)/\∀ p∈X.pn++Z9,p.1≠b
def Inv.fpOk {X:Cx}{Z9:List (Addr×Obj)}{U:St}{H H':Hp}{s:Shared}{b:Addr}(I:Inv X Z9 U H s)(hb:s.heap.objs.size<=b)(hn:H' b=none):U4 X Z9 H' b:=by
 refine⟨hn,Vn (qD I.lt hb),I.nofs hb,.inr (Xi I.sz hb),fun x c e z=>?_,fun p hp z=>?_⟩
 ·obtain⟨v,q⟩:=I.cell x c e
  exact absurd (qD q.lt (by rw[z];exact hb)) (Wj _)
 ·exact absurd (qD (qr (I.pin p hp).1) (by rw[z];exact hb)) (Wj _)
structure Turn (P:Program)(w:World)(K:PySem.W.Frag)(tg:Expr)(J:It)(fp:List Addr)(it:Addr)(tn:Nat->Heap->Prop):Prop where
 mem:it∈fp
 obj:∀ i h,tn i h->∀ b∈fp,∃ o,h.get? b=some o/\∀ v,o.data≠.cell v
 keep:∀ i h h',tn i h->(∀ b∈fp,∀ o,h.get? b=some o->h'.get? b=some o)->tn i h'
 item:∀ (X:Cx),X.prog=P->X.w=w->X.K=K->X.calm=true->∀ (i:Nat) (Z9:List (Addr×Obj)) (s:Shared) (U:St) (H:Hp) (E:Value->Shared->Prop),Inv X Z9 U H s->(∀ b∈fp,U4 X Z9 H b)->tn i s.heap->J.go i H ->
  wpAny (model P w) X.A (pyNext (.ref it)) (fun r s1=>∃ u,r=some u /\
   wpAny (model P w) X.A (letOwnedTupleGo tg (.ref it) u) (fun _ s2=>∃ x H',Inv X Z9 U H' s2/\RelV x u/\J.yld i H x H'/\tn (i+1) s2.heap/\∀ b∈fp,H' b=none) E s1) E s
 done:∀ (X:Cx),X.prog=P->X.w=w->X.K=K->X.calm=true->∀ (i:Nat) (Z9:List (Addr×Obj)) (s:Shared) (U:St) (H:Hp) (E:Value->Shared->Prop),Inv X Z9 U H s->(∀ b∈fp,U4 X Z9 H b)->tn i s.heap->J.stop i H ->
  wpAny (model P w) X.A (pyNext (.ref it)) (fun r s1=>r=none/\Inv X Z9 U H s1) E s
 self:∀ (A:Around) (i:Nat) (s:Shared) (Q:Value->Shared->Prop) (E:Value->Shared->Prop),tn i s.heap->Q (.ref it) s->wpAny (model P w) A (pyIter (.ref it)) Q E s
abbrev TI:=St->Hp->(It->Hp->Prop)->Prop
def PIE (X:Cx)(Z9:List (Addr×Obj))(U:St)(tg:Expr)(R:It->Hp->Prop)(itv:Value)(s2:Shared):Prop :=
 ∃ (it:Addr) (fp:List Addr) (tn:Nat->Heap->Prop) (J:It) (H':Hp),itv=.ref it/\Inv X Z9 U H' s2/\Turn X.prog X.w X.K tg J fp it tn/\tn 0 s2.heap/\(∀ b∈fp,U4 X Z9 H' b)/\R J H'
def PI (X:Cx)(tg iter:Expr)(wi:TI):Prop :=
 ∀ (Z9:List (Addr×Obj)) (s:Shared) (U:St) (H:Hp) (R:It->Hp->Prop),Inv X Z9 U H s->wi U H R ->
  wpAny (model X.prog X.w) X.A (eval iter X.env) (fun v s1=>wpAny (model X.prog X.w) X.A (pyIter v) (PIE X Z9 U tg R) X.xe s1) X.xe s
def PL {M:Model}{A:Around}{E:Value->Shared->Prop}{s:Shared}{tg:Expr}{it:Addr}{u:Value}{o:Obj}{n:String}{vs:Array Value}{Q:Unit->Shared->Prop}(ho:s.heap.get? it=some o)(hc:o.cls=.type n)(hd:o.data=.fields vs)
    (hn:["enumerate","zip","dict_itemiterator","dict_reverseitemiterator","odict_iterator","itertools.zip_longest","itertools.pairwise"].contains n=false) (hQ:Q () s):wpAny M A (letOwnedTupleGo tg (.ref it) u) Q E s:=by
  unfold letOwnedTupleGo
  cases tg<;>first
    |exact wpAny_pure hQ
    | (cases u <;> first
        |exact wpAny_pure hQ
        | (refine wpAny_bind (wpAny_load ho ?_)
           rw[hc,hd]
           show wpAny M A (if(["enumerate","zip","dict_itemiterator","dict_reverseitemiterator","odict_iterator","itertools.zip_longest","itertools.pairwise"].contains n&&vs[0]?==some (rawInt _))=true then _ else _) Q E s
           rw[if_neg (by intro h;rw[hn,Bool.false_and]at h;cases h)]
           exact wpAny_pure hQ))
def BR (K:PySem.W.Frag)(a:Addr):It :=
 ⟨fun i H=>∃ xs x,Zq K H a xs/\xs[i]?=some x,fun i H x H'=>H'=H/\∀ xs,Zq K H a xs->xs[i]?=some x,fun i H=>∃ xs,Zq K H a xs/\xs.length<=i⟩
def Bp (K:PySem.W.Frag)(a:Addr):It :=
 ⟨fun i H=>∃ xs x,ZL K H a xs/\xs[i]?=some x,fun i H x H'=>H'=H/\∀ xs,ZL K H a xs->xs[i]?=some x,fun i H=>∃ xs,ZL K H a xs/\xs.length<=i⟩
def Qh (lo:Int)(n:Nat):It:=⟨fun i _=>i<n,fun i H x H'=>H'=H/\x=.int (lo+i),fun i _=>n<=i⟩
def zo2 {P:Program}{w:World}{K:PySem.W.Frag}{tg:Expr}(a it:Addr):Turn P w K tg (BR K a) [it] it (fun i h=>h.IsListIter it a i) where
 mem:=by simp
 obj:=fun i h st b hb=>by
  have e:b=it:=by simpa using hb
  subst e
  obtain⟨o,e,c,d⟩:=st
  exact⟨o,e,fun v z=>by rw[d]at z;cases z⟩
 keep:=fun i h h' st k=>st.at fun o e=>k it (by simp) o e
 item:=by
  intro X hP hw hK hc i Z9 s U H E I hf st hg
  subst hP hw hK
  obtain⟨xs,x,hq,hx⟩:=hg
  obtain⟨its,rv,p,hz⟩:=I.list hq
  obtain⟨u,hu,ru⟩:=rv.get hx
  obtain⟨f0,f1,f2,f3,f4,f5⟩:=hf it (by simp)
  refine wpAny_pyNext_list_item st p.isList (x:=u) (by simpa using hu) fun h' st' sb=>?_
  have I1:Inv X Z9 U H { s with heap:=h' }:=I.turned (t':=s.toks) (fun b o hb e=>(sb.2 b hb).trans e) f0 f1 f3 f4 f5
  obtain⟨o,e,c,d⟩:=id st'
  exact⟨u,rfl,PL (s:={ s with heap:=h' }) e c d (by decide) ⟨x,H,I1,ru,⟨rfl,fun ys hy=>by rw[I.list_inj hy hq];exact hx⟩,st',fun b hb=>(hf b hb).1⟩⟩
 done:=by
  intro X hP hw hK hc i Z9 s U H E I hf st hg
  subst hP hw hK
  obtain⟨xs,hq,hx⟩:=hg
  obtain⟨its,rv,p,hz⟩:=I.list hq
  obtain⟨f0,f1,f2,f3,f4,f5⟩:=hf it (by simp)
  have hl:=rv.length
  exact wpAny_pyNext_list_end (I.ok.hd hc) st p.isList (by simp;lia) fun h' eb=>⟨rfl,I.turned (t':=s.toks) (fun b o hb e=>eb b o hb e) f0 f1 f3 f4 f5⟩
 self:=fun _ _ _ _ _ st h=>wpAny_pyIter_listiter st h
def znH {P:Program}{w:World}{K:PySem.W.Frag}{tg:Expr}(a it:Addr):Turn P w K tg (Bp K a) [it] it (fun i h=>h.IsTupleIter it a i) where
 mem:=by simp
 obj:=fun i h st b hb=>by
  have e:b=it:=by simpa using hb
  subst e
  obtain⟨o,e,c,d⟩:=st
  exact⟨o,e,fun v z=>by rw[d]at z;cases z⟩
 keep:=fun i h h' st k=>st.at fun o e=>k it (by simp) o e
 item:=by
  intro X hP hw hK hc i Z9 s U H E I hf st hg
  subst hP hw hK
  obtain⟨xs,x,hq,hx⟩:=hg
  obtain⟨its,rv,p,hz⟩:=I.tuple hq
  obtain⟨u,hu,ru⟩:=rv.get hx
  obtain⟨f0,f1,f2,f3,f4,f5⟩:=hf it (by simp)
  refine wpAny_pyNext_tuple_item st (show s.heap.IsTuple a its.toArray from p) (x:=u) (by simpa using hu) fun h' st' sb=>?_
  have I1:Inv X Z9 U H { s with heap:=h' }:=I.turned (t':=s.toks) (fun b o hb e=>(sb.2 b hb).trans e) f0 f1 f3 f4 f5
  obtain⟨o,e,c,d⟩:=id st'
  exact⟨u,rfl,PL (s:={ s with heap:=h' }) e c d (by decide) ⟨x,H,I1,ru,⟨rfl,fun ys hy=>by rw[I.tuple_inj hy hq];exact hx⟩,st',fun b hb=>(hf b hb).1⟩⟩
 done:=by
  intro X hP hw hK hc i Z9 s U H E I hf st hg
  subst hP hw hK
  obtain⟨xs,hq,hx⟩:=hg
  obtain⟨its,rv,p,hz⟩:=I.tuple hq
  obtain⟨f0,f1,f2,f3,f4,f5⟩:=hf it (by simp)
  have hl:=rv.length
  exact wpAny_pyNext_tuple_end (I.ok.hd hc) st (show s.heap.IsTuple a its.toArray from p) (by simp;lia) fun h' eb=>⟨rfl,I.turned (t':=s.toks) (fun b o hb e=>eb b o hb e) f0 f1 f3 f4 f5⟩
 self:=fun _ _ _ _ _ st h=>wpAny_pyIter_tupleiter st h
def uo {P:Program}{w:World}{K:PySem.W.Frag}{tg:Expr}(it:Addr)(lo:Int)(n:Nat):Turn P w K tg (Qh lo n) [it] it (fun i h=>IsRangeIter h it (lo+(i:Nat)*1) ((n:Int)-(i:Nat)) 1) where
 mem:=by simp
 obj:=fun i h st b hb=>by
  have e:b=it:=by simpa using hb
  subst e
  exact⟨_,st,fun v z=>by
   have z':Data.fields _=Data.cell v:=z
   cases z'⟩
 keep:=fun i h h' st k=>k it (by simp) _ st
 item:=by
  intro X hP hw hK hc i Z9 s U H E I hf st hg
  subst hP hw hK
  obtain⟨f0,f1,f2,f3,f4,f5⟩:=hf it (by simp)
  have W:=Walks.range (prog:=X.prog) (w:=X.w) (I.ok.hd hc) it lo 1 n
  refine W.item i s _ _ hg st fun v h' tk hv st' kk=>?_
  obtain⟨t,rfl⟩:=hv
  have I1:Inv X Z9 U H { s with heap:=h',toks:=tk }:=I.turned (fun b o hb e=>kk b o (by simpa using hb) e) f0 f1 f3 f4 f5
  refine⟨_,rfl,PL (s:={ s with heap:=h',toks:=tk }) (n:="range_iterator") st' rfl rfl (by decide) ⟨.int (lo+i),H,I1,⟨t,?_⟩,⟨rfl,rfl⟩,st',fun b hb=>(hf b hb).1⟩⟩
  rw[Wq]
 done:=by
  intro X hP hw hK hc i Z9 s U H E I hf st hg
  subst hP hw hK
  obtain⟨f0,f1,f2,f3,f4,f5⟩:=hf it (by simp)
  exact wpAny_pyNext_range_end (I.ok.hd hc) st (by have:n<=i:=hg;lia) fun h' eb=>⟨rfl,I.turned (t':=s.toks) (fun b o hb e=>eb b o hb e) f0 f1 f3 f4 f5⟩
 self:=fun _ _ _ _ _ st h=>wpAny_pyIter_rangeiter st h
section
variable {X:Cx}{tg:Expr}
def zrW {Z9:List (Addr×Obj)}{U:St}{H:Hp}{s:Shared}{R:It->Hp->Prop}{E:Value->Shared->Prop}{lo hi:Int}{t u v:Tok}{tk:Nat}(I:Inv X Z9 U H s)(h1:-(2 ^ 62)<=lo)(h2:lo<2 ^ 62)(h3:-(2 ^ 62)<=hi)(h4:hi<2 ^ 62)
    (q:R (Qh lo (hi-lo).toNat) H):wpAny (model X.prog X.w) X.A (pyIter (.ref s.heap.objs.size)) (PIE X Z9 U tg R) E { s with heap:=s.heap.push { cls:=.type "range",data:=.fields #[.int lo t,.int hi u,.int 1 v] },toks:=tk }:=by
  refine wpAny_pyIter_range (IsRange.new ..) (small_one h1 h2 h3 h4) ?_
  have I1:Inv X Z9 U H { s with heap:=s.heap.push { cls:=.type "range",data:=.fields #[.int lo t,.int hi u,.int 1 v] },toks:=tk }:=I.kept fun b o e=>qd _ e
  refine⟨(s.heap.push { cls:=.type "range",data:=.fields #[.int lo t,.int hi u,.int 1 v] }).objs.size,[(s.heap.push { cls:=.type "range",data:=.fields #[.int lo t,.int hi u,.int 1 v] }).objs.size],_,_,H,rfl,
    I1.kept (t':=tk) fun b o e=>qd _ e,uo _ lo (hi-lo).toNat,?_,fun b hb=>?_,q⟩
  . have e1:lo+((0:Nat):Int)*1=lo:=by simp
    have e2:(((hi-lo).toNat:Nat):Int)-((0:Nat):Int)=Builtin.Range.rangeSize lo hi 1:=by rw[rangeSize_one];split<;>lia
    show IsRangeIter _ _ (lo+((0:Nat):Int)*1) ((((hi-lo).toNat:Nat):Int)-((0:Nat):Int)) 1
    rw[e1,e2]
    exact qq _ rfl
  . have e:b=(s.heap.push { cls:=.type "range",data:=.fields #[.int lo t,.int hi u,.int 1 v] }).objs.size:=by simpa using hb
    subst e
    exact I1.fpOk (qg _) (I1.hok.fresh (qg _))
def Oi (ta:TA):TI:=fun U H R=>ta U H fun vs H1=>∃ j:Int,vs=[.int j]/\-(2 ^ 62)<=j/\j<2 ^ 62/\R (Qh 0 j.toNat) H1
def jg {a:Expr}{ta:TA}{p pos:Pos}(hg:Gl X "range")(hm:X.mg "range"=none)(ha:PA X [a] ta)(hs:starEach [a] X.env=[(false,eval a X.env)]:=by rfl):PI X tg (.Call (.Name "range" p) [a] [] pos) (Oi ta):=by
 intro Z9 s U H R I h
 refine Call_ (U5 I hg hm boot_range (PyProof.Rows.callWith_type1 (Z0 (ha pos Z9 s U H _ I h) fun us s1 ⟨vs,H1,I1,r1,q1⟩=>?_) hs rfl))
 obtain⟨j,e,q1,q2,q⟩:=q1
 subst e
 cases r1 with
 |cons r rr =>
  cases rr
  obtain⟨t,rfl⟩:=r
  exact call_range_1 (zrW I1 (by lia) (by lia) q1 q2 (by simpa using q))
def zyE (wi:TI)(g:TG)(tb:TS):TS:=fun D U H=>wi U H fun J H1=>∃ W:Nat->Nat->St->Hp->Prop,(∃ m,W 0 m U H1)/\∀ i m U H,W i m U H ->
 (J.stop i H/\D.nx U H)\/(J.go i H/\∃ N:St->Hp->Prop,(∀ σ' H',N σ' H'->∃ m',m'<m/\W (i+1) m' σ' H')/\∀ x H',J.yld i H x H'->g x U H' fun σ2 H2=>tb { D with nx:=N,ct:=N,bk:=D.nx } σ2 H2)
def MN (fp:List Addr)(h:Heap):List (Addr×Obj):=fp.filterMap fun b=>(h.get? b).map fun o=>(b,o)
def J6 {fp:List Addr}{h:Heap}{b:Addr}{o:Obj}(hb:b∈fp)(e:h.get? b=some o):(b,o)∈MN fp h:=Ti.mpr ⟨b,hb,by rw[e];rfl⟩
def zpZ {fp:List Addr}{h:Heap}{p:Addr×Obj}(hp:p∈MN fp h):p.1∈fp/\h.get? p.1=some p.2:=by
 obtain⟨b,hb,e⟩:=Ti.mp hp
 cases q:h.get? b with
 |none=>rw[q]at e;cases e
 |some o =>
  rw[q]at e
  have e':(b,o)=p:=qB e
  subst e'
  exact⟨hb,q⟩
def Inv.pinned {Z9:List (Addr×Obj)}{U:St}{H:Hp}{s:Shared}{fp:List Addr}(I:Inv X Z9 U H s)(hf:∀ b∈fp,U4 X Z9 H b)(ho:∀ b∈fp,∃ o,s.heap.get? b=some o/\∀ v,o.data≠.cell v):Inv X (Z9++MN fp s.heap) U H s :=
 I.pins_of fun p hp=>(qI.mp hp).elim (fun z=>I.pin p (qW _ z)) fun z=>by
  obtain⟨hb,e⟩:=zpZ z
  obtain⟨f0,f1,f2,_⟩:=hf p.1 hb
  obtain⟨o,e',d⟩:=ho p.1 hb
  rw[e]at e';cases e'
  exact⟨e,f0,f1,f2,d⟩
def Inv.unpinned {Z9 pl:List (Addr×Obj)}{U:St}{H:Hp}{s:Shared}(I:Inv X (Z9++pl) U H s):Inv X Z9 U H s:=I.pins_of fun p hp=>I.pin p (qW _ (QT _ hp))
def zv2 {iter:Expr}{body:List Stmt}{wi:TI}{g:TG}{tb:TS}{pos:Pos}(hp:PassesOwn (model X.prog X.w) X.A X.env X.xe)(hc:X.calm=true)(hi:PI X tg iter wi)(hg:PG X tg g)(hb:W6 X body tb)
  (hs:∀ x,foldedSetIterable iter X.env x=pure x:=by intro _;rfl):PS X (.For tg iter body [] pos) (zyE wi g tb):=by
 intro Z9 s U H D I h
 refine wpAny_For (Z0 (hi Z9 s U H _ I h) fun v s1 h1=>Z0 h1 fun itv s2 h2=>?_) hs
 obtain⟨it,fp,tn,J,H2,e,I2,T,st2,f2,W,⟨m0,w0⟩,turn⟩:=h2
 subst e
 have stat:∀ {H':Hp},(∀ b∈fp,H' b=none)->∀ b∈fp,U4 X Z9 H' b:=fun hn b hb=>⟨hn b hb,(f2 b hb).2⟩
 refine codeAny_forLoop_any (fun n s'=>∃ i σ' H',Inv X Z9 σ' H' s'/\tn i s'.heap/\(∀ b∈fp,H' b=none)/\W i n σ' H') ?_ m0 ⟨0,U,H2,I2,st2,fun b hb=>(f2 b hb).1,w0⟩
 rintro n s3 ⟨i,σ3,H3,I3,st3,fr3,w3⟩
 rcases turn i n σ3 H3 w3 with⟨stop,qn⟩|⟨go,N,hN,step⟩
 ·refine wpAny_passesOwn hp (Z0 (T.done X rfl rfl rfl hc i Z9 s3 σ3 H3 X.xe I3 (stat fr3) st3 stop) fun r s4 ⟨hr,I4⟩=>?_)
  subst hr
  exact wpAny_execs_nil ⟨σ3,H3,I4,qn⟩
 ·refine wpAny_passesOwn hp (Z0 (T.item X rfl rfl rfl hc i Z9 s3 σ3 H3 X.xe I3 (stat fr3) st3 go) fun r s4 ⟨u,hr,h4⟩=>?_)
  subst hr
  refine wpAny_passesOwn hp (Z0 h4 fun _ s5 ⟨x,H5,I5,r5,y5,st5,fr5⟩=>?_)
  have I5':=I5.pinned (stat fr5) (T.obj _ _ st5)
  refine wpAny_passesOwn hp (Z0 (hg _ s5 σ3 H5 x u _ I5' r5 (step x H5 y5)) fun _ s6 ⟨σ6,H6,I6,q6⟩=>?_)
  refine wpAny_passesOwn hp (Z0 (hb _ s6 σ6 H6 _ I6 q6) fun f s7 q7=>?_)
  have again:∀ {σ7:St} {H7:Hp},Inv X (Z9++MN fp s5.heap) σ7 H7 s7->N σ7 H7->∃ m,m<n/\∃ i σ' H',Inv X Z9 σ' H' s7/\tn i s7.heap/\(∀ b∈fp,H' b=none)/\W i m σ' H':=fun {σ7 H7} I7 n7=>by
   obtain⟨m',hm,w7⟩:=hN σ7 H7 n7
   refine⟨m',hm,i+1,σ7,H7,I7.unpinned,T.keep _ _ _ st5 fun b hb o e=>(I7.pin (b,o) (qW _ (qW _ (J6 hb e)))).1,fun b hb=>?_,w7⟩
   obtain⟨o,e,d⟩:=T.obj _ _ st5 b hb
   exact(I7.pin (b,o) (qW _ (qW _ (J6 hb e)))).2.1
  cases f with
  |next=>obtain⟨σ7,H7,I7,n7⟩:=q7;exact again I7 n7
  |cont=>obtain⟨σ7,H7,I7,n7⟩:=q7;exact again I7 n7
  |brk=>obtain⟨σ7,H7,I7,q7⟩:=q7;exact⟨σ7,H7,I7.unpinned,q7⟩
  |ret v=>obtain⟨x7,σ7,H7,I7,r7,q7⟩:=q7;exact⟨x7,σ7,H7,I7.unpinned,r7,q7⟩
end
abbrev R2:=V->V->Hp->VK->Prop
def Zh (X:Cx)(f:Value->Value->Sem Value)(r:R2):Prop :=
 ∀ (Z9:List (Addr×Obj)) (s:Shared) (U:St) (H:Hp) (x y:V) (v u:Value) (Q:VK),Inv X Z9 U H s->RelV x v->RelV y u->r x y H Q ->
  wpAny (model X.prog X.w) X.A (f v u) (EP X Z9 U Q) X.xe s
def Dy (X:Cx)(f:Value->Sem Value)(r:V->Hp->VK->Prop):Prop :=
 ∀ (Z9:List (Addr×Obj)) (s:Shared) (U:St) (H:Hp) (x:V) (v:Value) (Q:VK),Inv X Z9 U H s->RelV x v->r x H Q ->
  wpAny (model X.prog X.w) X.A (f v) (EP X Z9 U Q) X.xe s
def YQ (X:Cx)(f:Value)(r:List V->Hp->VK->Prop):Prop :=
 ∀ (Z9:List (Addr×Obj)) (s:Shared) (U:St) (H:Hp) (xs:List V) (us:List Value) (Q:VK),Inv X Z9 U H s->Vals xs us->r xs H Q ->
  wpAny (model X.prog X.w) X.A (call f us) (EP X Z9 U Q) X.xe s
def Lk (r:R2)(ta tb:TE):TE:=fun U H Q=>ta U H fun x H1=>tb U H1 fun y H2=>r x y H2 Q
def tUn (r:V->Hp->VK->Prop)(ta:TE):TE:=fun U H Q=>ta U H fun x H1=>r x H1 Q
def rI (C:Int->Int->Prop)(g:Int->Int->V):R2:=fun x y H Q=>∃ i j,x=.int i/\y=.int j/\C i j/\Q (g i j) H
def Ro (g:Int->Int->V):R2:=fun x y H Q=>∃ i j,x=.int i/\y=.int j/\Q (g i j) H
def rU (g:Int->V):V->Hp->VK->Prop:=fun x H Q=>∃ i,x=.int i/\Q (g i) H
section
variable {X:Cx}{a b c:Expr}{ta tb tc:TE}{pos:Pos}
def Dg (ha:PE X a ta)(hb:PE X b tb){Z9:List (Addr×Obj)}{s:Shared}{U:St}{H:Hp}{R:V->V->Hp->Prop}(I:Inv X Z9 U H s)
  (h:ta U H fun x H1=>tb U H1 fun y H2=>R x y H2) {Q:Value->Shared->Prop} {f:Value->Value->Sem Value}
  (hf:∀ v u s2 x y H2,Inv X Z9 U H2 s2->RelV x v->RelV y u->R x y H2->wpAny (model X.prog X.w) X.A (f v u) Q X.xe s2) :
  wpAny (model X.prog X.w) X.A (eval a X.env) (fun v s₁=>wpAny (model X.prog X.w) X.A (eval b X.env) (fun u s₂=>wpAny (model X.prog X.w) X.A (f v u) Q X.xe s₂) X.xe s₁) X.xe s:=by
 refine Z0 (ha Z9 s U H _ I h) fun v s1 ⟨x,H1,I1,r1,q1⟩=>?_
 refine Z0 (hb Z9 s1 U H1 _ I1 q1) fun u s2 ⟨y,H2,I2,r2,q2⟩=>?_
 exact hf v u s2 x y H2 I2 r1 r2 q2
def pN {op:Operator}{r:R2}(ho:Zh X (binaryOp op) r)(ha:PE X a ta)(hb:PE X b tb):PE X (.BinOp a op b pos) (Lk r ta tb):=by
 intro Z9 s U H Q I h
 exact wpAny_BinOp (Dg ha hb I h fun v u s2 x y H2 I2 rx ry q=>ho Z9 s2 U H2 x y v u Q I2 rx ry q)
def iT {op:UnaryOp}{r:V->Hp->VK->Prop}(ho:Dy X (unaryOp op) r)(ha:PE X a ta):PE X (.UnaryOp op a pos) (tUn r ta):=by
 intro Z9 s U H Q I h
 exact UnaryOp_ (Z0 (ha Z9 s U H _ I h) fun v s1 ⟨x,H1,I1,r1,q1⟩=>ho Z9 s1 U H1 x v Q I1 r1 q1)
def Ma {f:Value->Value->Sem Value}{C:Int->Int->Prop}{g:Int->Int->Int}
  (rule:∀ (i j:Int) (t u:Tok) (s:Shared) (Q:Value->Shared->Prop) (E:Value->Shared->Prop),C i j->Q (.int (g i j) s.toks) { s with toks:=s.toks+1 }->wpAny (model X.prog X.w) X.A (f (.int i t) (.int j u)) Q E s) :
  Zh X f (rI C fun i j=>.int (g i j)):=by
 intro Z9 s U H x y v u Q I rx ry h
 obtain⟨i,j,rfl,rfl,hc,q⟩:=h
 obtain⟨t,rfl⟩:=rx
 obtain⟨t',rfl⟩:=ry
 exact rule i j t t' s _ _ hc ⟨.int (g i j),H,I.tok _,⟨_,rfl⟩,q⟩
def Aq {f:Value->Value->Sem Value}{g:Int->Int->Int}
  (rule:∀ (i j:Int) (t u:Tok) (s:Shared) (Q:Value->Shared->Prop) (E:Value->Shared->Prop),Q (.int (g i j) s.toks) { s with toks:=s.toks+1 }->wpAny (model X.prog X.w) X.A (f (.int i t) (.int j u)) Q E s) :
  Zh X f (Ro fun i j=>.int (g i j)):=by
 intro Z9 s U H x y v u Q I rx ry h
 obtain⟨i,j,rfl,rfl,q⟩:=h
 obtain⟨t,rfl⟩:=rx
 obtain⟨t',rfl⟩:=ry
 exact rule i j t t' s _ _ ⟨.int (g i j),H,I.tok _,⟨_,rfl⟩,q⟩
def Ck {f:Value->Value->Sem Value}{g:Int->Int->Bool}
  (rule:∀ (i j:Int) (t u:Tok) (s:Shared) (Q:Value->Shared->Prop) (E:Value->Shared->Prop),Q (.bool (g i j)) s->wpAny (model X.prog X.w) X.A (f (.int i t) (.int j u)) Q E s) :
  Zh X f (Ro fun i j=>.bl (g i j)):=by
 intro Z9 s U H x y v u Q I rx ry h
 obtain⟨i,j,rfl,rfl,q⟩:=h
 obtain⟨t,rfl⟩:=rx
 obtain⟨t',rfl⟩:=ry
 exact rule i j t t' s _ _ ⟨.bl (g i j),H,I,rfl,q⟩
def zyD (i j:Int):Prop:=0<=j/\j<=1000000/\i.natAbs<2 ^ 64
def GJ (i j:Int):Prop:=(-(2 ^ 64)<i/\i<2 ^ 64)\/(-(2 ^ 64)<j/\j<2 ^ 64)
def GJ.ok {i j:Int}(h:GJ i j):IntMulOk i j:=by
 rcases h with⟨h1,h2⟩|⟨h1,h2⟩
 ·exact .of_left (intBits_le_64 h1 h2)
 ·exact .of_right (intBits_le_64 h1 h2)
def zvu:Zh X (binaryOp .Add) (Ro fun i j=>.int (i+j)):=Aq fun _ _ _ _ _ _ _ q=>add_int q
def zwn:Zh X (binaryOp .Sub) (Ro fun i j=>.int (i-j)):=Aq fun _ _ _ _ _ _ _ q=>sub_int q
def zs0:Zh X (binaryOp .Mod) (rI (fun _ j=>j≠0) fun i j=>.int (i.fmod j)):=Ma fun _ _ _ _ _ _ _ hc q=>mod_int' hc q
def zvn:Zh X (binaryOp .Pow) (rI zyD fun i j=>.int (i ^ j.toNat)):=Ma fun _ _ _ _ _ _ _ hc q=>pow_int_small hc.1 hc.2.1 hc.2.2 q
def unI {f:Value->Sem Value}{g:Int->Int}
  (rule:∀ (i:Int) (t:Tok) (s:Shared) (Q:Value->Shared->Prop) (E:Value->Shared->Prop),Q (.int (g i) s.toks) { s with toks:=s.toks+1 }->wpAny (model X.prog X.w) X.A (f (.int i t)) Q E s) :
  Dy X f (rU fun i=>.int (g i)):=by
 intro Z9 s U H x v Q I rx h
 obtain⟨i,rfl,q⟩:=h
 obtain⟨t,rfl⟩:=rx
 exact rule i t s _ _ ⟨.int (g i),H,I.tok _,⟨_,rfl⟩,q⟩
def zvO:Dy X (unaryOp .USub) (rU fun i=>.int (-i)):=unI fun _ _ _ _ _ q=>neg_int q
end
section
variable {X:Cx}{a b c:Expr}{ta tb tc:TE}{pos:Pos}
def CW {Z9:List (Addr×Obj)}{U:St}{H:Hp}{s:Shared}{Q:VK}{k k':Bool}(I:Inv X Z9 U H s)(q:Q (.bl k) H)(e:k=k'):EP X Z9 U Q (.bool k') s:=by
 subst e
 exact⟨.bl k,H,I,rfl,q⟩
def zxl:Zh X (compareOp .Lt) (Ro fun i j=>.bl (decide (i<j))):=Ck fun _ _ _ _ _ _ _ q=>lt_int q
def zym:Zh X (compareOp .LtE) (Ro fun i j=>.bl (decide (i<=j))):=Ck fun _ _ _ _ _ _ _ q=>le_int q
def zxZ:Zh X (compareOp .Gt) (Ro fun i j=>.bl (decide (j<i))):=Ck fun _ _ _ _ _ _ _ q=>gt_int q
def zqc:Zh X (compareOp .In) (fun x y H Q=>∃ i j,x=.str i/\y=.str j/\Q (.bl (!(Builtin.Str.occurrences j i 0 j.length 1).isEmpty)) H):=by
 intro Z9 s U H x y v u Q I rx ry h
 obtain⟨i,j,rfl,rfl,q⟩:=h
 obtain⟨t,rfl⟩:=rx
 obtain⟨t',rfl⟩:=ry
 exact in_str (CW I q rfl)
def zto:Zh X (compareOp .IsNot) (fun x y H Q=>y=.non/\Q (.bl (!decide (x=.non))) H):=by
  intro Z9 s U H x y v u Q I rx ry h
  obtain⟨rfl,q⟩:=h
  cases ry
  refine isnot_none_gen (CW I q ?_)
  cases x<;>first
    |(cases rx;rfl)
    |(obtain⟨t,rfl⟩:=rx;rfl)
def zkQ:Zh X (compareOp .NotIn) (fun x y H Q=>∃ i j,x=.str i/\y=.str j/\Q (.bl (!(!(Builtin.Str.occurrences j i 0 j.length 1).isEmpty))) H):=by
 intro Z9 s U H x y v u Q I rx ry h
 obtain⟨i,j,rfl,rfl,q⟩:=h
 obtain⟨t,rfl⟩:=rx
 obtain⟨t',rfl⟩:=ry
 exact notIn_str (CW I q rfl)
def Zh.or {f:Value->Value->Sem Value}{r r':R2}(h:Zh X f r)(h':Zh X f r'):Zh X f (fun x y H Q=>r x y H Q\/r' x y H Q):=by
 intro Z9 s U H x y v u Q I rx ry q
 rcases q with q|q
 ·exact h Z9 s U H x y v u Q I rx ry q
 ·exact h' Z9 s U H x y v u Q I rx ry q
def vf (b:Expr){op:CmpOp}(h:op≠.In:=by decide)(h2:op≠.NotIn:=by decide):behindInMarks op b=false:=by
  have e1:(op==CmpOp.In)=false:=by cases op<;>first|rfl|exact absurd rfl h
  have e2:(op==CmpOp.NotIn)=false:=by cases op<;>first|rfl|exact absurd rfl h2
  cases b<;>simp[behindInMarks,e1,e2]
def oO {op:CmpOp}{r:R2}(ho:Zh X (compareOp op) r)(ha:PE X a ta)(hb:PE X b tb)(hm:behindInMarks op b=false):PE X (.Compare a [op] [b] pos) (Lk r ta tb):=by
 intro Z9 s U H Q I h
 exact wpAny_Compare1 (Dg ha hb I h fun v u s2 x y H2 I2 rx ry q=>ho Z9 s2 U H2 x y v u Q I2 rx ry q) hm
def oY (t:TE):TT:=fun U H Q=>t U H fun x H'=>∃ k,x=.bl k/\Q k H'
def tK {op:CmpOp}{r:R2}(ho:Zh X (compareOp op) r)(ha:PE X a ta)(hb:PE X b tb)(hm:behindInMarks op b=false):PT X (.Compare a [op] [b] pos) (oY (Lk r ta tb)):=by
 intro Z9 s U H Q I h
 refine wpAny_isTrue_Compare1 (Z0 (ha Z9 s U H _ I h) fun v s1 ⟨x,H1,I1,r1,q1⟩=>Z0 (hb Z9 s1 U H1 _ I1 q1) fun u s2 ⟨y,H2,I2,r2,q2⟩ =>
  Z0 (ho Z9 s2 U H2 x y v u _ I2 r1 r2 q2) fun c s3 ⟨z,H3,I3,r3,k,e,q3⟩=>?_) hm
 subst e
 cases r3
 exact wpAny_truthy_bool ⟨H3,I3,q3⟩
def vp (r r':R2)(ta tb tc:TE):TE:=fun U H Q=>ta U H fun x H1=>tb U H1 fun y H2=>r x y H2 fun z H3=>∃ k,z=.bl k /\
 (if k=true then tc U H3 fun w' H4=>r' y w' H4 Q else Q (.bl false) H3)
def zre {op op':CmpOp}{r r':R2}(ho:Zh X (compareOp op) r)(ho':Zh X (compareOp op') r')(ha:PE X a ta)(hb:PE X b tb)(hc:PE X c tc)
  (hm:lastMarks [op,op'] [b,c]=false:=by with_unfolding_all rfl):PT X (.Compare a [op,op'] [b,c] pos) (oY (vp r r' ta tb tc)):=by
 intro Z9 s U H Q I h
 refine isTrue_chain (Z0 (ha Z9 s U H _ I h) fun v s1 ⟨x,H1,I1,r1,q1⟩=>test_link (Z0 (hb Z9 s1 U H1 _ I1 q1) fun u s2 ⟨y,H2,I2,r2,q2⟩ =>
  Z0 (ho Z9 s2 U H2 x y v u _ I2 r1 r2 q2) fun d s3 ⟨z,H3,I3,r3,k,e,q3⟩=>?_)) hm
 subst e
 cases r3
 refine wpAny_truthy_bool ?_
 cases k with
 |false =>
  obtain⟨k',e',q'⟩:=q3
  cases e'
  exact ite_ff ⟨H3,I3,q'⟩
 |true =>
  refine ite_tt (test_last (Z0 (hc Z9 s3 U H3 _ I3 q3) fun w' s4 ⟨z',H4,I4,r4,q4⟩=>Z0 (ho' Z9 s4 U H4 y z' u w' _ I4 r2 r4 q4) fun d' s5 ⟨z2,H5,I5,r5,k2,e2,q5⟩=>?_))
  subst e2
  cases r5
  exact wpAny_truthy_bool ⟨H5,I5,q5⟩
def Oq:(sizeLine:Nat)<2 ^ 63:=by rw[sizeLine_eq];decide
def znM:Zh X (binaryOp .Add) (fun x y H Q=>∃ i j,x=.str i/\y=.str j/\i.length+j.length<=sizeLine/\Q (.str (i++j)) H):=by
 intro Z9 s U H x y v u Q I rx ry h
 obtain⟨i,j,rfl,rfl,hz,q⟩:=h
 obtain⟨t,rfl⟩:=rx
 obtain⟨t',rfl⟩:=ry
 exact add_str (fun t' tk=>⟨.str (i++j),H,I.tok _,⟨_,rfl⟩,q⟩) hz
def vals1 {x:V}{us:List Value}(r:Vals [x] us):∃ u,us=[u]/\RelV x u:=by
 cases r with
 |cons r1 r2=>cases r2;exact⟨_,rfl,r1⟩
def vals2 {x y:V}{us:List Value}(r:Vals [x,y] us):∃ u w',us=[u,w']/\RelV x u/\RelV y w':=by
 cases r with
 |cons r1 r2 =>
  cases r2 with
  |cons r3 r4=>cases r4;exact⟨_,_,rfl,r1,r3⟩
def zr2:YQ X (.builtin "abs") (fun xs H Q=>∃ i,xs=[.int i]/\Q (.int (if i<0 then -i else i)) H):=by
 intro Z9 s U H xs us Q I r h
 obtain⟨i,rfl,q⟩:=h
 obtain⟨u,rfl,t,rfl⟩:=vals1 r
 exact call_abs_int fun u tk=>⟨.int (if i<0 then -i else i),H,I.tok _,⟨_,rfl⟩,q⟩
def jL (hc:X.calm=true):YQ X (.builtin "max") (fun xs H Q=>∃ i j,xs=[.int i,.int j]/\Q (.int (if j > i then j else i)) H):=by
 intro Z9 s U H xs us Q I r h
 obtain⟨i,j,rfl,q⟩:=h
 obtain⟨u,w',rfl,⟨t,rfl⟩,⟨t',rfl⟩⟩:=vals2 r
 refine max_two_ints (I.ok.hd hc) fun h' tk k=>⟨_,H,I.kept k,?_,q⟩
 by_cases hj:j > i
 ·rw[if_pos hj,if_pos hj];exact⟨_,rfl⟩
 ·rw[if_neg hj,if_neg hj];exact⟨_,rfl⟩
def zpB (hc:X.calm=true):YQ X (.builtin "min") (fun xs H Q=>∃ i j,xs=[.int i,.int j]/\Q (.int (if j<i then j else i)) H):=by
 intro Z9 s U H xs us Q I r h
 obtain⟨i,j,rfl,q⟩:=h
 obtain⟨u,w',rfl,⟨t,rfl⟩,⟨t',rfl⟩⟩:=vals2 r
 refine min_two_ints (I.ok.hd hc) fun h' tk k=>⟨_,H,I.kept k,?_,q⟩
 by_cases hj:j<i
 ·rw[if_pos hj,if_pos hj];exact⟨_,rfl⟩
 ·rw[if_neg hj,if_neg hj];exact⟨_,rfl⟩
end
structure N5 (h:Heap)(x dx C:Addr)(mA:Str->Option Value):Prop where
 obj:h.get? x=some (PySem.W.instObj C dx)
 ns:h.Ns1 dx mA
 ne:dx≠x
def zpD {h:Heap}{dx:Addr}{mA:Str->Option Value}(n:h.Ns1 dx mA):∃ od,h.get? dx=some od/\∀ name,PySem.W.lookIn name od=some (mA name):=by
 obtain⟨o,es,ep,ho,hd,hk,_,hm⟩:=n
 refine⟨o,ho,fun name=>?_⟩
 have e:=hm name
 unfold nsFind findBy at e
 rw[<- Array.find?_toList]at e
 unfold PySem.W.lookIn
 rw[hd]
 dsimp only
 split
 ·rename_i y q
  rw[q]at e
  exact congrArg some e
 ·rename_i q
  rw[q]at e
  have a:es.toList.any (·.refKey)=false:=by
   rw[List.any_eq_false]
   intro y hy
   obtain⟨z,t,hkey⟩:=hk y (Array.mem_toList_iff.mp hy)
   simp[DictEntry.refKey,hkey]
  have a':¬ es.toList.any (·.refKey)=true:=by rw[a];exact qu
  rw[if_neg a']
  exact congrArg some e
def N5.look {h:Heap}{x dx C:Addr}{mA:Str->Option Value}(I:N5 h x dx C mA):∃ od,PySem.W.InstAt h x (PySem.W.instObj C dx) C (some od)/\∀ name,PySem.W.lookIn name od=some (mA name) :=
 let ⟨od,ho,hl⟩:=zpD I.ns
 ⟨od,⟨I.obj,rfl,rfl,ho⟩,hl⟩
section
variable {prog:Program}{w:World}{A:Around}{E:Value->Shared->Prop}{s:Shared}{K:PySem.W.Frag}{x dx C f:Addr}{mA:Str->Option Value}{name:Str}{v:Value}
def get_map {expr:Bool}{Q:Value->Shared->Prop}(X:K.In s.heap)(I:N5 s.heap x dx C mA)(hg:PySem.W.plainGet K C name=true)(hh:PySem.W.hasDictIn K C=true)
  (ha:PySem.W.findIn K (.ref C) name=some none) (hv:mA name=some v) (hv':PySem.W.handedIn v=true) (h:Q v { s with toks:=s.toks+1 }) :
  wpAny (model prog w) A (getAttr (.ref x) name expr) Q E s:=by
 obtain⟨od,J,hl⟩:=I.look
 exact PySem.W.get_value X J (PySem.W.plainGet_of hg).1 (PySem.W.findObj_own hh ha rfl (by rw[hl,hv])) hv' h
def jD {ns:List Str}{Q:Unit->Shared->Prop}(X:K.In s.heap)(I:N5 s.heap x dx C mA)
  (hs:PySem.W.findIn K (.ref C) "__setattr__"=some (some (.builtin "object.__setattr__"))) (hp:PySem.W.plainOver K C=true) (ht:PySem.W.takerIn K C name=some none) (hh:PySem.W.hasDictIn K C=true)
  (hw:PySem.Within mA ns) (hsz:ns.length<=sizeLine)
  (h:∀ h',N5 h' x dx C (fun y=>if y=name then some v else mA y)->Heap.SameBut dx s.heap h'->Q () { s with heap:=h',toks:=s.toks+2 }) :
  wpAny (model prog w) A (setAttr (.ref x) name v) Q E s:=by
 obtain⟨od,J,hl⟩:=I.look
 refine PySem.W.set_plain X J hs (PySem.W.osa_open (s:={ s with toks:=s.toks+1 }) (r:=none) X J hp ht fun b=>?_)
 obtain⟨cd,hc,hd'⟩:=PySem.W.any_some hh
 have hx:s.heap.get? x=some ⟨.ref C,some dx,.plain,#[]⟩:=I.obj
 refine wpAny_bind (wpAny_pure (wpAny_bind (wpAny_bind (wpAny_loadPart hx (wpAny_bind (PySem.W.Looks.here (s:={ s with toks:=s.toks+1 }) (PySem.W.looks_clsIn X hc) ?_))))))
 rw[hd']
 refine wpAny_pure (a:=some dx) (wpAny_bind (wpAny_pure (wpAny_bind ?_)))
 refine wpAny_nsSet1 (s:={ s with toks:=s.toks+1 }) I.ns fun h' hn2 hs2=>?_
 obtain⟨oD,esD,epD,hoD,hdD,hcD⟩:=hn2.count (PySem.Within.cons name v hw)
 refine wpAny_bind (wpAny_lookBehind hoD (by rw[hdD];exact pastItsLine_dict (Xi hcD (by rw[qR];lia))) ?_)
 exact wpAny_pure (h _ ⟨(hs2.2 _ (Ne.symm I.ne)).trans I.obj,hn2,I.ne⟩ hs2)
def zqW {R:Result->Shared->Prop}{vs:List Value}{kw:List (Str×Value)}(X:K.In s.heap)(hm:PySem.W.makesIn K C=true)
    (hi:PySem.W.findIn K (.ref C) "__init__"=some (some (.ref f))) (hf:PySem.W.typeIn K (.ref f)=some (.type "function"))
    (h:codeAny (model prog w) (A.under (.builtin "type.__call__" ⟨.ref C::vs,kw⟩)) (.call (.ref f) ⟨.ref (s.heap.objs.size+1)::vs,kw⟩) (PySem.W.InitBack (s.heap.objs.size+1) R)
      { s with heap:=(s.heap.push PySem.W.emptyDict).push (PySem.W.instObj C s.heap.objs.size) }) :
    codeAny (model prog w) A (.call (.ref C) ⟨vs,kw⟩) R s:=by
  obtain⟨hh,g,d,t,os⟩:=s
  exact PySem.W.make_core (PySem.W.makes_of X hm) (PySem.W.looks_findIn X hi) (fun self=>PySem.W.bind_fn X self hf) (.inl rfl) h
end
def Yi (f:Str)(v:V):List (Str×V)->List (Str×V)
 |[]=>[(f,v)]
 |(g,x)::r=>if g=f then(g,v)::r else(g,x)::Yi f v r
theorem u9 (f g:Str)(v:V):∀ fs:List (Str×V),(Yi f v fs).lookup g=if g=f then some v else fs.lookup g
 |[]=>by
  show List.lookup g [(f,v)]=_
  by_cases h:g=f
  ·have hb:(g==f)=true:=beq_iff_eq.mpr h
   simp only[List.lookup,hb,if_pos h]
  ·have hb:(g==f)=false:=beq_eq_false_iff_ne.mpr h
   simp only[List.lookup,hb,if_neg h]
 |(k,x)::r=>by
  have ih:=u9 f g v r
  rw[show Yi f v ((k,x)::r)=(if k=f then(k,v)::r else(k,x)::Yi f v r)from rfl]
  by_cases hk:k=f
  ·rw[if_pos hk]
   by_cases h:g=k
   ·have hb:(g==k)=true:=beq_iff_eq.mpr h
    simp only[List.lookup,hb,if_pos (h.trans hk)]
   ·have hb:(g==k)=false:=beq_eq_false_iff_ne.mpr h
    simp only[List.lookup,hb,if_neg (fun e:g=f=>h (e.trans hk.symm))]
  ·rw[if_neg hk]
   by_cases h:g=k
   ·have hb:(g==k)=true:=beq_iff_eq.mpr h
    simp only[List.lookup,hb,if_neg (fun e:g=f=>hk (h.symm.trans e))]
   ·have hb:(g==k)=false:=beq_eq_false_iff_ne.mpr h
    simp only[List.lookup,hb]
    exact ih
theorem CP (f:Str)(v:V):∀ fs:List (Str×V),f∈(Yi f v fs).map (·.1)/\∀ g,g∈fs.map (·.1)->g∈(Yi f v fs).map (·.1)
 |[]=>⟨by simp[Yi],fun g h=>by simp at h⟩
 |(k,x)::r=>by
  obtain⟨i1,i2⟩:=CP f v r
  rw[show Yi f v ((k,x)::r)=(if k=f then(k,v)::r else(k,x)::Yi f v r)from rfl]
  by_cases hk:k=f
  ·rw[if_pos hk]
   subst hk
   exact⟨by simp,fun g h=>by simpa using h⟩
  ·rw[if_neg hk]
   refine⟨?_,fun g h=>?_⟩
   ·rw[qJ]
    exact qw _ i1
   ·rw[qJ]at h ⊢
    rcases qh.mp h with e|e
    ·exact qh.mpr (.inl e)
    ·exact qw _ (i2 g e)
theorem wJ (f:Str)(v:V):∀ fs:List (Str×V),(Yi f v fs).length<=fs.length+1
 |[]=>by simp[Yi]
 |(k,x)::r=>by
  have ih:=wJ f v r
  rw[show Yi f v ((k,x)::r)=(if k=f then(k,v)::r else(k,x)::Yi f v r)from rfl]
  by_cases hk:k=f
  ·rw[if_pos hk,qR,qR];lia
  ·rw[if_neg hk,qR,qR];lia
def Vz.some_of {v:V}{o:Option Value}(r:Vz (some v) o):∃ u,o=some u/\RelV v u:=by
 cases o with
 |none=>exact(show False from r).elim
 |some u=>exact⟨u,rfl,r⟩
def zpS {v:V}{u:Value}(r:RelV v u):PySem.W.handedIn u=true:=by
 cases v with
 |non=>cases(show u=Value.none from r);rfl
 |bl b=>cases(show u=Value.bool b from r);rfl
 |int i=>obtain⟨t,e⟩:=(show ∃ t,u=Value.int i t from r);cases e;rfl
 |str x=>obtain⟨t,e⟩:=(show ∃ t,u=Value.str x t from r);cases e;rfl
 |byt b=>obtain⟨t,e⟩:=(show ∃ t,u=Value.bytes b t from r);cases e;rfl
 |flt b=>obtain⟨t,e⟩:=(show ∃ t,u=Value.float b t from r);cases e;rfl
 |ref a=>cases(show u=Value.ref a from r);rfl
 |ty n=>cases(show u=Value.type n from r);rfl
section
variable {P:Program}{w:World}{H H':Hp}{h h':Heap}{a C dx:Addr}{fs fs':List (Str×V)}
def Fv (hok:Zi P w H h)(e:H a=some (.ins C dx fs)):∃ mA,N5 h a dx C mA/\(∀ f,Vz (fs.lookup f) (mA f))/\PySem.Within mA (fs.map (·.1))/\fs.length<=1000/\H dx=some (.own a):=by
 obtain⟨d,z,ne,ob,mA,n,r,q⟩:=(show Y5 P w H h a (.ins C dx fs)from hok a _ e)
 exact⟨mA,⟨ob,n,ne⟩,r,q,z,d⟩
end
structure Cls (K:PySem.W.Frag)(C:Addr):Prop where
 pg:PySem.W.plainGet K C Str.empty=true
 hd:PySem.W.hasDictIn K C=true
 po:PySem.W.plainOver K C=true
 sa:PySem.W.findIn K (.ref C) "__setattr__"=some (some (.builtin "object.__setattr__"))
def Cls.get {K:PySem.W.Frag}{C:Addr}(c:Cls K C)(f:Str):PySem.W.plainGet K C f=true:=c.pg
def YJ (K:PySem.W.Frag)(C:Addr)(f:Str):Prop:=PySem.W.findIn K (.ref C) f=some none
def YJ.taker {K:PySem.W.Frag}{C:Addr}{f:Str}(n:YJ K C f):PySem.W.takerIn K C f=some none:=by
 unfold PySem.W.takerIn
 rw[show PySem.W.findIn K (.ref C) f=some none from n]
 rfl
section
variable {X:Cx}{Z9:List (Addr×Obj)}{U:St}{H:Hp}{s:Shared}{a C dx:Addr}{fs:List (Str×V)}{f:Str}{v:V}{A:Around}{E:Value->Shared->Prop}
def zov {b:Bool}{Q:Value->Shared->Prop}(I:Inv X Z9 U H s)(e:H a=some (.ins C dx fs))(c:Cls X.K C)(n:YJ X.K C f)(l:fs.lookup f=some v)
  (h:∀ u s',Inv X Z9 U H s'->RelV v u->Q u s'):wpAny (model X.prog X.w) A (getAttr (.ref a) f b) Q E s:=by
 obtain⟨mA,O,r,_,_,_⟩:=Fv I.hok e
 obtain⟨u,hu,ru⟩:=Vz.some_of (v:=v) (o:=mA f) (by rw[<- l];exact r f)
 exact get_map I.kIn O (c.get f) c.hd n hu (zpS ru) (h u _ (I.tok _) ru)
def znX {y:V}{u:Value}{Q:Unit->Shared->Prop}(I:Inv X Z9 U H s)(e:H a=some (.ins C dx fs))(c:Cls X.K C)(n:YJ X.K C f)(hl:fs.length<1000)(ry:RelV y u)
  (h:∀ s',Inv X Z9 U (upd H a (.ins C dx (Yi f y fs))) s'->Q () s'):wpAny (model X.prog X.w) A (setAttr (.ref a) f u) Q E s:=by
 obtain⟨mA,O,r,wi,_,ho⟩:=Fv I.hok e
 have hz:(fs.map (·.1)).length<=sizeLine:=by rw[qc,sizeLine_eq];lia
 refine jD I.kIn O c.sa c.po n.taker c.hd wi hz fun h' O' sb=>h _ ?_
 have hd:∃ o,h'.get? dx=some o:=let ⟨o,_,_,e',_⟩:=O'.ns;⟨o,e'⟩
 refine I.write (x:=a) (e:=dx) (by rw[e];exact True.intro) (.inr ho) (fun b q hb z=>(sb.2 b hb).trans z) hd ?_
 refine⟨by rw[zO O.ne];exact ho,?_,O.ne,O'.obj,_,O'.ns,fun g=>?_,fun g hg=>?_⟩
 ·have:=wJ f y fs;lia
 ·show Vz ((Yi f y fs).lookup g) (if g=f then some u else mA g)
  rw[u9]
  by_cases q:g=f
  ·rw[if_pos q,if_pos q];exact ry
  ·rw[if_neg q,if_neg q];exact r g
 ·by_cases q:g=f
  ·rw[q];exact(CP f y fs).1
  ·refine(CP f y fs).2 g (wi g fun z=>hg ?_)
   show(if g=f then some u else mA g)=none
   rw[if_neg q];exact z
def Inv.made (I:Inv X Z9 U H s):Inv X Z9 U (upd (upd H s.heap.objs.size (.own (s.heap.objs.size+1))) (s.heap.objs.size+1) (.ins C s.heap.objs.size []))
    { s with heap:=(s.heap.push PySem.W.emptyDict).push (PySem.W.instObj C s.heap.objs.size) }:=by
  have e1:(s.heap.push PySem.W.emptyDict).get? s.heap.objs.size=some PySem.W.emptyDict:=qq s.heap rfl
  have e2:((s.heap.push PySem.W.emptyDict).push (PySem.W.instObj C s.heap.objs.size)).get? (s.heap.objs.size+1)=some (PySem.W.instObj C s.heap.objs.size):=by
    have:=qq (s.heap.push PySem.W.emptyDict) (o:=PySem.W.instObj C s.heap.objs.size) rfl
    rwa[Ww]at this
  have e3:(s.heap.push PySem.W.emptyDict).Ns s.heap.objs.size (fun _=>none):=⟨PySem.W.emptyDict,#[],_,e1,rfl,(fun e he=>absurd he (by simp)),fun _=>rfl⟩
  have I1:=I.laid (a:=s.heap.objs.size) (o:=.own (s.heap.objs.size+1)) (h':=s.heap.push PySem.W.emptyDict) (t':=s.toks) (fun b u q=>qd _ q) (qg _) ⟨_,e1⟩
  refine I1.laid (a:=s.heap.objs.size+1) (o:=.ins C s.heap.objs.size []) (t':=s.toks) (fun b u q=>qd _ q) (Nat.le_of_eq (Ww _ _)) ?_
  have ne:s.heap.objs.size≠s.heap.objs.size+1:=qL (LQ _)
  refine⟨by rw[zO ne,X7],qO _,ne,e2,fun _=>none,(Heap.Ns1.of_empty e3).at fun o q=>qd _ q,fun _=>True.intro,fun y hy=>absurd rfl hy⟩
def gO {prog:Program}{w:World}{env:Env}{e:Expr}{f:Str}{pos:Pos}{s:Shared}{Q:Value->Shared->Prop}(hb:attributeBase e f env (eval e env)=eval e env)
  (h:wpAny (model prog w) A (eval e env) (fun o s₁=>wpAny (model prog w) A (getAttr o f true) Q E s₁) E s):wpAny (model prog w) A (eval (.Attribute e f pos) env) Q E s :=
 Attribute_any_ h (by rw[arm_eval_Attribute,hb])
end
def zyL (K:PySem.W.Frag)(ta:TE)(f:Str):TE:=fun U H Q=>ta U H fun x H1=>∃ a C dx fs v,x=.ref a/\H1 a=some (.ins C dx fs)/\Cls K C/\YJ K C f/\fs.lookup f=some v/\Q v H1
def zyI (K:PySem.W.Frag)(ta tv:TE)(f:Str):TS:=fun D U H=>tv U H fun y H1=>ta U H1 fun x H2=>∃ a C dx fs,x=.ref a/\H2 a=some (.ins C dx fs)/\Cls K C/\YJ K C f/\fs.length<1000 /\
 D.nx U (upd H2 a (.ins C dx (Yi f y fs)))
section
variable {X:Cx}{o e value:Expr}{f:Str}{pos pos' tpos:Pos}{ta tv:TE}
def zuZ (he:PE X e ta)(hb:attributeBase e f X.env (eval e X.env)=eval e X.env):PE X (.Attribute e f pos) (zyL X.K ta f):=by
 intro Z9 s U H Q I h
 refine gO hb (Z0 (he Z9 s U H _ I h) fun u s1 ⟨x,H1,I1,rx,a,C,dx,fs,v,ex,ea,c,n,l,q⟩=>?_)
 subst ex
 obtain rfl:u=Value.ref a:=rx
 exact zov I1 ea c n l fun u' s2 I2 ru=>⟨v,H1,I2,ru,q⟩
def zuW (ha:PE X o ta)(hv:PE X value tv)(hs:swapsWith value (some (.Attribute o f pos')) pos.line X.env=pure false):PS X (.Assign [.Attribute o f pos'] value pos) (zyI X.K ta tv f):=by
 intro Z9 s U H D I h
 refine plainObj_wpAny_Assign_Attribute (Z0 (hv Z9 s U H _ I h) fun u s1 ⟨y,H1,I1,ry,q⟩=>Z0 (ha Z9 s1 U H1 _ I1 q) fun ov s2 ⟨x,H2,I2,rx,a,C,dx,fs,ex,ea,c,n,l,q2⟩=>?_) hs
 subst ex
 obtain rfl:ov=Value.ref a:=rx
 exact znX I2 ea c n l ry fun s3 I3=>⟨U,_,I3,q2⟩
end
section
variable {X:Cx}{Z9:List (Addr×Obj)}{U:St}{H:Hp}{s:Shared}{A:Around}{E:Value->Shared->Prop}{Q:Value->Shared->Prop}{c:Value}{b:Bool}
inductive VG (K:PySem.W.Frag)(H:Hp):V->Value->Prop where
 | non:VG K H .non (.type "NoneType")
 | bl (x:Bool):VG K H (.bl x) (.type "bool")
 | int (i:Int):VG K H (.int i) (.type "int")
 | str (x:Str):VG K H (.str x) (.type "str")
 | flt (x:UInt64):VG K H (.flt x) (.type "float")
 | lst {a:Addr} {xs:List V} (e:H a=some (.lst xs)):VG K H (.ref a) (.type "list")
 | frz {a:Addr} {o:Obj} {xs:List V} (e:H a=some (.frz o (.lst xs))):VG K H (.ref a) (.type "list")
 | tup {a:Addr} {xs:List V} (e:H a=some (.tup xs)):VG K H (.ref a) (.type "tuple")
 | dK {a:Addr} {Z6:List (Key×V)} (e:H a=some (.dK Z6)):VG K H (.ref a) (.type "dict")
 | dT {a:Addr} {Z6:List (List Key×V)} (e:H a=some (.dT Z6)):VG K H (.ref a) (.type "dict")
 | ins {a C dx:Addr} {fs:List (Str×V)} (e:H a=some (.ins C dx fs)) (cl:Cls K C) (ha:PySem.W.findIn K (.ref C) "__class__"=some (some (.builtin "object.__class__")))
   (hn:PySem.W.specialIn K (.builtin "object.__class__") "__get__"=some (some (.builtin "getset_descriptor.__get__"))) (htk:PySem.W.takesIn K (.builtin "object.__class__")=some true)
   (hm:PySem.W.mroIn K C (.type "object")=some true):VG K H (.ref a) (.ref C)
def zpA {x:V}{u t:Value}(I:Inv X Z9 U H s)(rx:RelV x u)(ty:VG X.K H x t)(e:PySem.W.kitOne X.K t c=some b)(h:∀ tk,Q (.bool b) { s with toks:=tk }) :
  wpAny (model X.prog X.w) A (call (.builtin "isinstance") [u,c]) Q E s:=by
 cases ty with
 |non=>cases(show u=Value.none from rx);exact PySem.W.kia_one PySem.W.kitx_none I.kIn True.intro e (fun z=>nomatch z) h
 |bl y=>cases(show u=Value.bool y from rx);exact PySem.W.kia_one PySem.W.kitx_bool I.kIn True.intro e (fun z=>nomatch z) h
 |int i=>obtain⟨t,q⟩:=(show ∃ t,u=Value.int i t from rx);cases q;exact PySem.W.kia_one PySem.W.kitx_int I.kIn True.intro e (fun z=>nomatch z) h
 |str y=>obtain⟨t,q⟩:=(show ∃ t,u=Value.str y t from rx);cases q;exact PySem.W.kia_one PySem.W.kitx_str I.kIn True.intro e (fun z=>nomatch z) h
 |flt y=>obtain⟨t,q⟩:=(show ∃ t,u=Value.float y t from rx);cases q;exact PySem.W.kia_one PySem.W.kitx_float I.kIn True.intro e (fun z=>nomatch z) h
 |@lst a xs ea =>
  cases(show u=Value.ref a from rx)
  obtain⟨_,_,n,_,h1⟩:=(show Y5 X.prog X.w H s.heap a (.lst xs)from I.hok a _ ea)
  exact PySem.W.kia_one PySem.W.kitx_list I.kIn ⟨_,h1,rfl⟩ e (fun z=>nomatch z) h
 |@frz a ob xs ea =>
  cases(show u=Value.ref a from rx)
  obtain⟨_,_,_,n,_,h1⟩:=(show Y5 X.prog X.w H s.heap a (.frz ob (.lst xs))from I.hok a _ ea)
  exact PySem.W.kia_one PySem.W.kitx_list I.kIn ⟨_,h1,rfl⟩ e (fun z=>nomatch z) h
 |@tup a xs ea =>
  cases(show u=Value.ref a from rx)
  obtain⟨_,_,_,p⟩:=(show Y5 X.prog X.w H s.heap a (.tup xs)from I.hok a _ ea)
  obtain⟨o,h1,h2,_⟩:=p
  exact PySem.W.kia_one PySem.W.kitx_tuple I.kIn ⟨o,h1,h2⟩ e (fun z=>nomatch z) h
 |@dK a Z6 ea =>
  cases(show u=Value.ref a from rx)
  obtain⟨_,_,vs,_,p⟩:=(show Y5 X.prog X.w H s.heap a (.dK Z6)from I.hok a _ ea)
  obtain⟨o,es,ep,h1,h2,_⟩:=p
  exact PySem.W.kia_one PySem.W.kitx_dict I.kIn ⟨o,h1,h2.1⟩ e (fun z=>nomatch z) h
 |@dT a Z6 ea =>
  cases(show u=Value.ref a from rx)
  obtain⟨_,_,xs,_,o,es,ep,h1,h2,_⟩:=(show Y5 X.prog X.w H s.heap a (.dT Z6)from I.hok a _ ea)
  exact PySem.W.kia_one PySem.W.kitx_dict I.kIn ⟨o,h1,h2.1⟩ e (fun z=>nomatch z) h
 |@ins a C dx fs ea cl ha hn htk hm =>
  cases(show u=Value.ref a from rx)
  obtain⟨mA,O,_⟩:=Fv I.hok ea
  obtain⟨od,J,_⟩:=O.look
  exact PySem.W.kia_one (PySem.W.kitx_own (cl.get _) cl.hd ha hn htk hm) I.kIn J e (fun z=>nomatch z) h
end
structure Zj (k:Nat)(A:Around):Prop where
 hd:A.handled=none
 dp:A.depth+3*k+5<recursionLimit
 un:A.units+16*k+200<cLine
def Zj.mono {j k:Nat}{A:Around}(r:Zj k A)(h:j<=k):Zj j A:=⟨r.hd,by have:=r.dp;lia,by have:=r.un;lia⟩
theorem Zj.deeper {k:Nat}{A:Around}(r:Zj (k+1) A)(env:Env):Zj k (A.deeper env) :=
 ⟨r.hd,by have:=r.dp;show A.depth+1+3*k+5<_;lia,by have:=r.un;show A.units+3+16*k+200<_;lia⟩
def znJ {A:Around}{C:Addr}{us:List Value}{kw:List (Str×Value)}:(A.under (.builtin "type.__call__" ⟨.ref C::us,kw⟩)).depth=A.depth+1:=by
 first|rfl|simp[Around.under,Code.weight,Code.isCreation,Code.isGuard,Code.isCaller,Code.frames,Code.isFrame,guardIds]
def zou {A:Around}{C:Addr}{us:List Value}{kw:List (Str×Value)}:(A.under (.builtin "type.__call__" ⟨.ref C::us,kw⟩)).units=A.units+1:=by
 first|rfl|simp[Around.under,Code.cUnits,Code.frames,Code.isFrame]
def Zj.make {k:Nat}{A:Around}(r:Zj (k+1) A)(C:Addr)(us:List Value)(kw:List (Str×Value)):Zj k (A.under (.builtin "type.__call__" ⟨.ref C::us,kw⟩)) :=
 ⟨r.hd,by have:=r.dp;rw[znJ];lia,by have:=r.un;rw[zou];lia⟩
theorem Zj.depth {k:Nat}{A:Around}(r:Zj k A):A.depth<recursionLimit:=by have:=r.dp;lia
theorem Zj.units {k:Nat}{A:Around}(r:Zj k A):A.units+64<cLine:=by have:=r.un;lia
def zyA:TA:=fun _ H Q=>Q [] H
def zxV (ta:TE)(tr:TA):TA:=fun U H Q=>ta U H fun x H1=>tr U H1 fun xs H2=>Q (x::xs) H2
section
variable {X:Cx}{e:Expr}{es:List Expr}{te:TE}{t:TA}{pos:Pos}
def zwv:PA X [] zyA:=fun _ _ _ _ H Q I h=>Calls.spliced_nil ⟨[],H,I,.nil,h⟩
def ztG (ha:PE X e te)(hr:PA X es t)(hs:starEach (e::es) X.env=(false,eval e X.env)::starEach es X.env:=by rfl):PA X (e::es) (zxV te t):=by
 intro pos Z9 s U H Q I h
 rw[hs]
 show wpAny _ _ (spliced ((false,eval e X.env)::backTo pos (starEach es X.env))) _ _ s
 refine Calls.spliced_cons (Z0 (ha Z9 s U H _ I h) fun u s1 ⟨x,H1,I1,r1,q1⟩=>?_)
 exact Z0 (hr pos Z9 s1 U H1 _ I1 q1) fun us s2 ⟨xs,H2,I2,r2,q2⟩=>⟨x::xs,H2,I2,.cons r1 r2,q2⟩
def zyJ (t:TA):TE:=fun U H Q=>t U H fun xs H1=>xs.length<=sizeLine/\∀ p,H1 p=none->Q (.ref p) (upd H1 p (.tup xs))
def zyN (t:TA):TE:=fun U H Q=>t U H fun xs H1=>xs.length<=sizeLine/\∀ p,H1 p=none->Q (.ref p) (upd H1 p (.lst xs))
def zv6 {x1}(h:PA X es t):PE X (.Tuple es x1 pos) (zyJ t):=by
 intro Z9 s U H Q I hq
 refine wpAny_Tuple_spliced (Z0 (h pos Z9 s U H _ I hq) fun us s1 ⟨xs,H1,I1,r,z,q⟩=>⟨by rw[<- r.length];exact z,?_⟩)
 have hf:H1 s1.heap.objs.size=none:=I1.hok.fresh (qg _)
 refine⟨.ref s1.heap.objs.size,upd H1 s1.heap.objs.size (.tup xs),I1.laid (t':=s1.toks) (fun b u e=>qd _ e) (qg _) ?_,rfl,q _ hf⟩
 exact⟨z,us,r,⟨_,qq _ rfl,rfl,_,rfl⟩⟩
def zwJ (h:PA X es t):PE X (.List es pos) (zyN t):=by
 intro Z9 s U H Q I hq
 refine wpAny_List_spliced (Z0 (h pos Z9 s U H _ I hq) fun us s1 ⟨xs,H1,I1,r,z,q⟩=>⟨by rw[<- r.length];exact z,?_⟩)
 have hf:H1 s1.heap.objs.size=none:=I1.hok.fresh (qg _)
 refine⟨.ref s1.heap.objs.size,upd H1 s1.heap.objs.size (.lst xs),I1.laid (t':=s1.toks) (fun b u e=>qd _ e) (qg _) ?_,rfl,q _ hf⟩
 exact⟨z,us,0,r,qq _ rfl⟩
end
abbrev Sp:=List V->Hp->VK->XK->Prop
abbrev Vp:=List Env->Hp->Shared->XK->Value->Shared->Prop
structure QV (P:Program)(w:World)(K:PySem.W.Frag)(mg:Str->Option Value)(base:Heap)(A:Around)(outer:List Env)(s:Shared)(H:Hp):Prop where
 frames:A.frames=some outer
 mod:Mod K mg base
 bs:∀ b o,base.get? b=some o->s.heap.get? b=some o/\H b=none
 bsz:base.objs.size<=s.heap.objs.size
 funs:s.heap.FunFrames base outer
 frf:∀ b∈frs outer,H b=none
 hok:Zi P w H s.heap
 bare:AllBare s.gens
def CE (outer:List Env)(P:Program)(w:World)(H:Hp)(s:Shared)(Q:VK)(u:Value)(s':Shared):Prop :=
 ∃ v H',s'.os=s.os/\AllBare s'.gens/\Un (frs outer) [] H H' s.heap s'.heap/\Zi P w H' s'.heap/\RelV v u/\Q v H'
def CR (CX:Vp)(outer:List Env)(P:Program)(w:World)(H:Hp)(s:Shared)(Q:VK)(E:XK)(r:Result)(s':Shared):Prop :=
 match r with
 |.ok (.ret u)=>CE outer P w H s Q u s'
 |.ok _=>False
 |.error e=>CX outer H s E e s'
structure zN (P:Program)(w:World)(K:PySem.W.Frag)(mg:Str->Option Value)(base:Heap)(CX:Vp)(k:Nat)(f:Addr)(fd:FuncData)(ps:List Str)(sp:Sp):Prop where
 len:∀ vs H Q E,sp vs H Q E->vs.length=ps.length
 run:∀ (A:Around) (outer:List Env) (s:Shared) (H:Hp) (args:Args) (us:List Value) (vs:List V) (Q:VK) (E:XK),Zj k A->QV P w K mg base A outer s H->BindsTo s fd args (ps.zip us)->Vals vs us->sp vs H Q E ->
  codeAny (model P w) A (.call (.ref f) args) (CR CX outer P w H s Q E) s
theorem zN.mono {P:Program}{w:World}{K:PySem.W.Frag}{mg:Str->Option Value}{base:Heap}{CX:Vp}{j k:Nat}{f:Addr}{fd:FuncData}{ps:List Str}{sp:Sp}(F:zN P w K mg base CX j f fd ps sp)(h:j<=k) :
  zN P w K mg base CX k f fd ps sp:=⟨F.len,fun A outer s H args us vs Q E hr=>F.run A outer s H args us vs Q E (hr.mono h)⟩
def QV.make {P:Program}{w:World}{K:PySem.W.Frag}{mg:Str->Option Value}{base:Heap}{A:Around}{outer:List Env}{s:Shared}{H:Hp}(e:QV P w K mg base A outer s H)(C:Addr)(us:List Value)(kw:List (Str×Value)) :
  QV P w K mg base (A.under (.builtin "type.__call__" ⟨.ref C::us,kw⟩)) outer s H:=⟨by first | exact e.frames | (simpa [Around.under,Code.envs,Code.isFrame,pushEnvs]using e.frames),e.mod,e.bs,e.bsz,e.funs,e.frf,e.hok,e.bare⟩
section
variable {X:Cx}{Z9:List (Addr×Obj)}{U:St}{H:Hp}{s s':Shared}
def Inv.env0 (I:Inv X Z9 U H s):QV X.prog X.w X.K X.mg X.base X.A X.stack s H :=
 ⟨I.ok.frames,I.ok.mod,I.bs,Xi I.ok.bsz I.sz,I.stack,I.stkFree,I.hok,I.bare⟩
def Inv.after {Q:VK}{u:Value}(I:Inv X Z9 U H s)(h:CE X.stack X.prog X.w H s Q u s'):EP X Z9 U Q u s':=by
 obtain⟨v,H',os,bare,un,hok,r,q⟩:=h
 obtain⟨hh,g,d,t,os'⟩:=s'
 obtain rfl:os'=s.os:=os
 exact⟨v,H',I.call (h':=hh) (g':=g) (d':=d) (t':=t) (ch:=[]) un hok bare (fun b z=>absurd z (by simp)),r,q⟩
end
def Dr (sp:Sp)(dvs:List V)(E:XK)(t:TA):TE:=fun U H Q=>t U H fun vs H1=>sp (vs++dvs) H1 Q E
def Binds (K:PySem.W.Frag)(fd:FuncData)(ps:List Str)(ds:List Value):Prop :=
 ∀ (s:Shared) (us:List Value),K.In s.heap->(us++ds).length=ps.length->BindsTo s fd ⟨us,[]⟩ (ps.zip (us++ds))
def Binds.all {K:PySem.W.Frag}{fd:FuncData}{ps:List Str}(h:∀ us:List Value,us.length=ps.length->bindArgs fd ⟨us,[]⟩=pure (ps.zip us)):Binds K fd ps []:=fun s us _ hl=>by
 rw[qV]at hl ⊢
 exact .of_eq (h us hl)
def Passes (CX:Vp)(X:Cx)(E:XK):Prop:=∀ (Z9:List (Addr×Obj)) (U:St) (H:Hp) (s:Shared) (e:Value) (s':Shared),Inv X Z9 U H s->CX X.stack H s E e s'->X.xe e s'
section
variable {X:Cx}{CX:Vp}{k:Nat}{f C:Addr}{fd:FuncData}{ps:List Str}{sp:Sp}{dvs:List V}{ds:List Value}{E:XK}{x m:Str}{p pos apos:Pos}{e o:Expr}{es:List Expr}{ta:TE}{t:TA}
def gW {Z9:List (Addr×Obj)}{U:St}{H:Hp}{s:Shared}{Q:VK}{us:List Value}{vs:List V}(F:zN X.prog X.w X.K X.mg X.base CX k f fd ps sp)(hr:Zj k X.A)(hb:Binds X.K fd ps ds)(hd:Vals dvs ds)(hx:Passes CX X E)
  (I:Inv X Z9 U H s) (r:Vals vs us) (h:sp (vs++dvs) H Q E):wpAny (model X.prog X.w) X.A (call (.ref f) us) (EP X Z9 U Q) X.xe s:=by
 have r2:Vals (vs++dvs) (us++ds):=r.append hd
 have hl:(us++ds).length=ps.length:=by rw[<- r2.length];exact F.len _ _ _ _ h
 refine wpAny_call (codeAny_mono (F.run X.A X.stack s H ⟨us,[]⟩ (us++ds) (vs++dvs) Q E hr I.env0 (hb s us I.kIn hl) r2 h) fun r s' hq=>?_)
 cases r with
 |error e=>exact hx Z9 U H s e s' I hq
 |ok fl =>
  cases fl with
  |ret u=>exact I.after hq
  |next=>exact False.elim hq
  |brk=>exact False.elim hq
  |cont=>exact False.elim hq
def zup (F:zN X.prog X.w X.K X.mg X.base CX k f fd ps sp)(hr:Zj k X.A)(hg:Gl X x)(hm:X.mg x=some (.ref f))(hk:PySem.W.keepIn X.K (.ref f)=true)(hb:Binds X.K fd ps ds)(hd:Vals dvs ds)(hx:Passes CX X E)
  (ha:PA X (e::es) t) (hdb:(x==("__debug__":Str))=false:=by decide) (he:starEach (e::es) X.env=(false,eval e X.env)::starEach es X.env:=by rfl) (hpl:(backTo pos (starEach es X.env)).any (·.1)=false:=by rfl) :
  PE X (.Call (.Name x p) (e::es) [] pos) (Dr sp dvs E t):=by
 intro Z9 s U H Q I h
 refine wpAny_Call_Name_kw (PX I hg hm ?_ hdb)
 refine PySem.W.callWith_K (h₀:=X.base) I.ok.mod.kin hk (Z0 (ha pos Z9 s U H _ I h) fun us s1 ⟨vs,H1,I1,r,q⟩=>⟨I1.kIn,?_⟩) he hpl
 exact gW F hr hb hd hx I1 r q
structure Mk (K:PySem.W.Frag)(C f:Addr):Prop where
 makes:PySem.W.makesIn K C=true
 init:PySem.W.findIn K (.ref C) "__init__"=some (some (.ref f))
 fn:PySem.W.isFn K (.ref f)=true
 kp:PySem.W.keepIn K (.ref C)=true
def zqz {Z9:List (Addr×Obj)}{U:St}{H:Hp}{s:Shared}{Q:VK}{us:List Value}{vs:List V}(M:Mk X.K C f)(F:zN X.prog X.w X.K X.mg X.base CX k f fd ps sp)(hr:Zj (k+1) X.A)(hb:Binds X.K fd ps ds)(hd:Vals dvs ds)
  (hx:Passes CX X E) (I:Inv X Z9 U H s) (r:Vals vs us)
  (h:∀ x dx,H x=none->H dx=none->dx≠x->sp (.ref x::(vs++dvs)) (upd (upd H dx (.own x)) x (.ins C dx [])) (fun v H2=>v=.non/\Q (.ref x) H2) E) :
  wpAny (model X.prog X.w) X.A (call (.ref C) us) (EP X Z9 U Q) X.xe s:=by
 have hq:=h (s.heap.objs.size+1) s.heap.objs.size (I.hok.fresh (Rf _)) (I.hok.fresh (qg _)) (qL (LQ _))
 have I2:=Inv.made (C:=C) I
 have r2:Vals (V.ref (s.heap.objs.size+1)::(vs++dvs)) (Value.ref (s.heap.objs.size+1)::(us++ds)):=.cons rfl (r.append hd)
 have hl:(Value.ref (s.heap.objs.size+1)::us++ds).length=ps.length:=by
  have e:=r2.length
  rw[F.len _ _ _ _ hq]at e
  exact e.symm
 refine wpAny_call (zqW (f:=f) I.kIn M.makes M.init (beq_iff_eq.mp M.fn) (codeAny_mono (F.run _ X.stack _ _ ⟨Value.ref (s.heap.objs.size+1)::us,[]⟩ (Value.ref (s.heap.objs.size+1)::(us++ds)) _ _ E (hr.make C us [])
  (I2.env0.make C us []) (hb _ (Value.ref (s.heap.objs.size+1)::us) I2.kIn hl) r2 hq) fun r s' hq'=>?_))
 cases r with
 |error e=>exact hx Z9 U _ _ e s' I2 hq'
 |ok fl =>
  cases fl with
  |ret u =>
   obtain⟨v,H',I3,rv,ev,q3⟩:=I2.after hq'
   subst ev
   exact⟨rv,⟨V.ref (s.heap.objs.size+1),H',I3,rfl,q3⟩⟩
  |next=>exact False.elim hq'
  |brk=>exact False.elim hq'
  |cont=>exact False.elim hq'
end
section
variable {X:Cx}{CX:Vp}{k:Nat}{f C:Addr}{fd:FuncData}{ps ks:List Str}{sp:Sp}{E:XK}{x m:Str}{p pos apos kpos:Pos}{e o:Expr}{es:List Expr}{kws:List Keyword}{te ta:TE}{t tk:TA}{nm:Option Str}
variable {g:List Value->List Value->List Value}{gV:List V->List V->List V}
end
structure RJ (N P:List Str)(sc:Scope):Prop where
 kind:sc.kind=.function
 co:sc.isCoroutine=false
 gen:sc.isGenerator=false
 nd:N.Nodup
 pre:N.take P.length=P
 par:∀ x∈P,sc.names.lookup x=some .local\/sc.names.lookup x=some .cell
 nofree:∀ y∈sc.names,y.2≠.free
theorem nQ {kindOf:Str->Option NameKind}{x:Str}:∀ {binds:List (Str×Value)} {m:Str->Option Value},(∀ v,(x,v)∉binds)->bindL kindOf binds m x=m x
 |[],_,_=>rfl
 |(n,v)::r,m,h=>by
  unfold bindL
  rw[nQ fun w hw=>h w (qw _ hw)]
  split
  ·have:x≠n:=by rintro rfl;exact h v Ql
   simp[this]
  ·rfl
theorem lH {kindOf:Str->Option NameKind}{x:Str}:∀ {binds:List (Str×Value)} {m:Str->Option Value},(∀ v,(x,v)∉binds)->bindC kindOf binds m x=m x
 |[],_,_=>rfl
 |(n,v)::r,m,h=>by
  unfold bindC
  rw[lH fun w hw=>h w (qw _ hw)]
  split
  ·rfl
  ·have:x≠n:=by rintro rfl;exact h v Ql
   simp[this]
theorem uX {kindOf:Str->Option NameKind}{x:Str}{v:Value}:∀ {P:List Str} {vs:List Value} {i:Nat} {m:Str->Option Value},P.Nodup->P[i]?=some x->vs[i]?=some v->kindOf x=some .local ->
  bindL kindOf (P.zip vs) m x=some v
 |[],_,_,_,_,h,_,_=>by simp at h
 |_::_,[],_,_,_,_,h,_=>by simp at h
 |p::P,w::vs,0,m,nd,h1,h2,hk=>by
  simp at h1 h2;subst h1;subst h2
  show bindL kindOf ((p,w)::P.zip vs) m p=_
  unfold bindL
  rw[nQ fun v hv=>(O2.mp nd).1 (List.of_mem_zip hv).1,if_pos hk]
  simp
 |p::P,w::vs,i+1,m,nd,h1,h2,hk=>by
  show bindL kindOf ((p,w)::P.zip vs) m x=_
  unfold bindL
  exact uX (i:=i) (O2.mp nd).2 (by simpa using h1) (by simpa using h2) hk
theorem wY {kindOf:Str->Option NameKind}{x:Str}{v:Value}:∀ {P:List Str} {vs:List Value} {i:Nat} {m:Str->Option Value},P.Nodup->P[i]?=some x->vs[i]?=some v->kindOf x≠some .local ->
  bindC kindOf (P.zip vs) m x=some v
 |[],_,_,_,_,h,_,_=>by simp at h
 |_::_,[],_,_,_,_,h,_=>by simp at h
 |p::P,w::vs,0,m,nd,h1,h2,hk=>by
  simp at h1 h2;subst h1;subst h2
  show bindC kindOf ((p,w)::P.zip vs) m p=_
  unfold bindC
  rw[lH fun v hv=>(O2.mp nd).1 (List.of_mem_zip hv).1,if_neg hk]
  simp
 |p::P,w::vs,i+1,m,nd,h1,h2,hk=>by
  show bindC kindOf ((p,w)::P.zip vs) m x=_
  unfold bindC
  exact wY (i:=i) (O2.mp nd).2 (by simpa using h1) (by simpa using h2) hk
def start (N:List Str)(vs:List V):St:=vs.map some++List.replicate (N.length-vs.length) none
def Wn (CX:Vp)(P:Program)(w:World)(K:PySem.W.Frag)(mg:Str->Option Value)(base:Heap)(N:List Str)(qual:Str)(scope:Scope)(f:Addr)(cd:Value)(A:Around)(outer:List Env)(s:Shared)(H:Hp)(E:XK):Cx where
 prog:=P
 w:=w
 K:=K
 mg:=mg
 base:=base
 A:=A.deeper (envOfC qual scope s.heap.objs.size f cd)
 N:=N
 s₀:=s
 H₀:=H
 env:=envOfC qual scope s.heap.objs.size f cd
 outer:=outer
 stack:=envOfC qual scope s.heap.objs.size f cd::outer
 ex:=[]
 calm:=true
 fn:=fun _=>true
 pn:=[]
 xe:=fun e s'=>wpAny (model P w) (A.deeper (envOfC qual scope s.heap.objs.size f cd)) (leaving (envOfC qual scope s.heap.objs.size f cd) e) (fun _ s''=>CX outer H s E e s'') (fun e' s''=>CX outer H s E e' s'') s'
def wj {sc:Scope}{n:Nat}{x:Str}(h:sc.names.lookup x=some .cell):∃ c,(cellsFrom n sc.names []).lookup x=some c:=by
 have q:=PySem.W.cellsFrom_some sc.names n [] (.inl h)
 exact Ml.mp q
def zpR {CX:Vp}{P:Program}{w:World}{K:PySem.W.Frag}{mg:Str->Option Value}{base:Heap}{N ps:List Str}{qual:Str}{scope:Scope}{f:Addr}{cd:Value}{A:Around}{outer:List Env}{s s1:Shared}{H:Hp}{E:XK}{us:List Value}{vs:List V}
    (S:RJ N ps scope) (hd:A.handled=none) (e0:QV P w K mg base A outer s H) (hl:vs.length=ps.length) (r:Vals vs us)
    (x:InCallC s s.heap.objs.size (bindL (envOfC qual scope s.heap.objs.size f cd).kindOf (ps.zip us) fun _=>none) (cellsFrom (s.heap.objs.size+1) scope.names []) (bindC (envOfC qual scope s.heap.objs.size f cd).kindOf (ps.zip us) fun _=>none) s1) :
    Inv (Wn CX P w K mg base N qual scope f cd A outer s H E) [] (start N vs) H s1:=by
  have hpl:ps.length<=N.length:=by have:=congrArg List.length S.pre;rw[Vu]at this;lia
  obtain⟨h1,tk,rfl,hk⟩:=x.done
  have noA:∀ b:Addr,b∉(Wn CX P w K mg base N qual scope f cd A outer s H E).ex:=fun b z=>absurd (show b∈([]:List Addr)from z) (by simp)
  refine⟨⟨e0.mod,S.kind,rfl,rfl,qg _,fun y z c h1 h2=>?_,fun y hy=>?_,fun y c _ h=>?_,fun _=>hd,Around.frames_deeper e0.frames,.inr ⟨rfl,rfl⟩,fun b z=>absurd z (noA b),e0.bs,e0.bsz,fun b _ _=>noA b,fun b z=>absurd z (noA b),e0.funs,e0.frf⟩,
    rfl,e0.bare,Un.kept hk,⟨_,x.toInCall.ns,fun i y v h1 h2 h3=>?_⟩,fun y c h=>⟨_,x.cell y c h⟩,e0.hok.fresh (qg _),fun y c h=>?_,fun p hp=>absurd (show p∈([]:List (Addr×Obj))from hp) (by simp),e0.hok.kept hk,?_⟩
  . exact name_of_addr x.apart (PySem.mem_of_lookup h1) (PySem.mem_of_lookup h2)
  . have hy:scope.names.lookup y=some .cell\/scope.names.lookup y=some .free:=hy
    rcases hy with hy|hy
    . exact wj hy
    . exact absurd rfl (S.nofree _ (PySem.mem_of_lookup hy))
  . exact NQ (x.above y c (PySem.mem_of_lookup h))
  . have hi : i < vs.length := by
      unfold start at h2
      by_cases hi:i<vs.length
      . exact hi
      . rw[qi (by simpa using hi)]at h2
        rw[K1]at h2
        split at h2<;>cases h2
    have ha:vs[i]?=some v:=by
      unfold start at h2
      rw[qk (by simpa using hi),qj]at h2
      cases e:vs[i]? with
      |none=>rw[e]at h2;cases h2
      |some a=>rw[e]at h2;cases h2;rfl
    obtain⟨u,hu,rv⟩:=r.get ha
    have hp:ps[i]?=some y:=by
      rw[<- S.pre,Gw (by lia)];exact h1
    have ndP:ps.Nodup:=by rw[<- S.pre];exact S.nd.sublist (List.take_sublist _ _)
    refine⟨u,rv,?_⟩
    rcases S.par y (qe hp)with k|k
    . exact .inl ⟨k,uX ndP hp hu k⟩
    . obtain⟨c,e⟩:=wj (n:=s.heap.objs.size+1) k
      refine .inr ⟨.inl k,c,e,?_⟩
      have q:=x.cell y c e
      rw[wY ndP hp hu (by show scope.names.lookup y≠_;rw[k];decide)]at q
      exact q
  . exact e0.hok.fresh (NQ (x.above y c (PySem.mem_of_lookup h)))
  . unfold start
    show _=N.length
    rw[qf,qc,qK]
    lia
def oN {CX:Vp}{P:Program}{w:World}{K:PySem.W.Frag}{mg:Str->Option Value}{base:Heap}{k:Nat}{f:Addr}{name qual:Str}{params:Arguments}{body:List Stmt}{scope:Scope}{dV kV doc pm cdv ct oc:Value}{an od:Option Addr}
  {osl:Array (Option Value)} {N ps:List Str} {sp:Sp} (lk:K.lookup f=some ⟨oc,od,.func (PySem.W.fnOf name qual params body scope dV kV doc pm an cdv ct),osl⟩) (hcd:PySem.W.codeIn K cdv qual=true) (S:RJ N ps scope)
  (len:∀ vs H Q E,sp vs H Q E->vs.length=ps.length)
  (hbody:∀ (A:Around) (outer:List Env) (s:Shared) (H:Hp) (vs:List V) (Q:VK) (E:XK),Zj k (A.deeper (envOfC qual scope s.heap.objs.size f cdv))->sp vs H Q E ->
   ∃ t,W6 (Wn CX P w K mg base N qual scope f cdv A outer s H E) body t/\t { nx:=fun _ H'=>Q .non H',rt:=Q } (start N vs) H) :
  zN P w K mg base CX (k+1) f (PySem.W.fnOf name qual params body scope dV kV doc pm an cdv ct) ps sp:=by
 refine⟨len,fun A outer s H args us vs Q E hr e0 hb r hsp=>?_⟩
 have hl:=len _ _ _ _ hsp
 have KX:K.In s.heap:=e0.mod.kin.keeps fun b o e=>(e0.bs b o e).1
 have lim:s.heap.NoLimit:=e0.mod.nolimit.keeps fun b o e=>(e0.bs b o e).1
 have hkind:∀ y∈ps.zip us,scope.names.lookup y.1=some .local\/(scope.names.lookup y.1=some .cell/\((cellsFrom (s.heap.objs.size+1) scope.names []).lookup y.1).isSome=true):=fun⟨n,v⟩ hy=>by
  rcases S.par n (List.of_mem_zip hy).1 with q|q
  ·exact .inl q
  ·exact .inr ⟨q,PySem.W.cellsFrom_some _ _ _ (.inl q)⟩
 refine codeAny_call_function hr.depth (KX _ _ lk) rfl S.co S.gen rfl (PySem.W.codeRec_of KX hcd) (hb _ _ _ _ ?_)
 refine wpAny_newFunctionEnv_cells S.kind hkind fun env he s1 x=>?_
 subst he
 refine⟨lim.keeps x.toInCall.keep,codeAny_func ?_⟩
 obtain⟨t,ht,hq⟩:=hbody A outer s H vs Q E (hr.deeper _) hsp
 have I:Inv (Wn CX P w K mg base N qual scope f cdv A outer s H E) [] (start N vs) H s1:=zpR S hr.hd e0 hl r x
 refine wpAny_mono (ht [] s1 (start N vs) H _ I hq) (fun fl s' hs=>?_) fun e s' hs=>hs
 have fin:∀ {σ':St} {H':Hp} {v:V} {u:Value},Inv (Wn CX P w K mg base N qual scope f cdv A outer s H E) [] σ' H' s'->RelV v u->Q v H'->CE outer P w H s Q u s' :=
  fun {σ' H' v u} J rv q=>⟨v,H',J.os,J.bare,J.base,J.hok,rv,q⟩
 cases fl with
 |ret u =>
  obtain⟨v,σ',H',J,rv,q⟩:=hs
  exact fin J rv q
 |next =>
  obtain⟨σ',H',J,q⟩:=hs
  exact fin (v:=V.non) (u:=Value.none) J rfl q
 |brk =>
  obtain⟨_,_,_,q⟩:=hs
  exact False.elim q
 |cont =>
  obtain⟨_,_,_,q⟩:=hs
  exact False.elim q
section
variable {X:Cx}{x:Str}{p pos:Pos}{e:Expr}{es:List Expr}{t:TA}{id T:String}{r:List V->Hp->VK->Prop}
def yZ (r:List V->Hp->VK->Prop)(t:TA):TE:=fun U H Q=>t U H fun vs H1=>r vs H1 Q
def fO (hc:YQ X (.builtin id) r)(hg:Gl X x)(hm:X.mg x=none)(hv:bootBuiltins x=some (.builtin id))(ha:PA X (e::es) t)(hn:x≠"__name__":=by decide)(hdb:(x==("__debug__":Str))=false:=by decide)
  (he:starEach (e::es) X.env=(false,eval e X.env)::starEach es X.env:=by rfl) (hpl:(backTo pos (starEach es X.env)).any (·.1)=false:=by rfl):PE X (.Call (.Name x p) (e::es) [] pos) (yZ r t):=by
 intro Z9 s U H Q I h
 refine wpAny_Call_Name_kw (U5 I hg hm hv ?_ hn hdb)
 exact PyProof.Rows.callWith_builtin1 (Z0 (ha pos Z9 s U H _ I h) fun us s1 ⟨vs,H1,I1,r1,q1⟩=>hc Z9 s1 U H1 vs us Q I1 r1 q1) he hpl
def ju (hc:YQ X (.type T) r)(hg:Gl X x)(hm:X.mg x=none)(hv:bootBuiltins x=some (.type T))(ha:PA X (e::es) t)(hn:x≠"__name__":=by decide)(hdb:(x==("__debug__":Str))=false:=by decide)
  (he:starEach (e::es) X.env=(false,eval e X.env)::starEach es X.env:=by rfl) (hpl:(backTo pos (starEach es X.env)).any (·.1)=false:=by rfl):PE X (.Call (.Name x p) (e::es) [] pos) (yZ r t):=by
 intro Z9 s U H Q I h
 refine wpAny_Call_Name_kw (U5 I hg hm hv ?_ hn hdb)
 exact PyProof.Rows.callWith_type1 (Z0 (ha pos Z9 s U H _ I h) fun us s1 ⟨vs,H1,I1,r1,q1⟩=>hc Z9 s1 U H1 vs us Q I1 r1 q1) he hpl
end
end L2
namespace HT
open PySem PyProof.Rows
section
open PySem.SeqAt
open PySem.AutoSeq1 (wpAny_loadPart')
open PySem.MeetsSeq PySem.MeetsSeq2 PySem.MeetsSeq3
end
section
variable {prog:Program}{w:World}{A:Around}{E:Value->Shared->Prop}{s:Shared}
def zs7 {t b:Addr}{vs ws:List Value}{Q:Value->Shared->Prop}(ht:IsTup s.heap t vs.toArray)(hb:IsTup s.heap b ws.toArray)(hv:vs≠[])
  (h1:ws=[]->Q (.ref t) s) (h2:ws≠[]->Q (.ref s.heap.objs.size) { s with heap:=s.heap.push { cls:=.type "tuple",data:=.seq (vs++ws).toArray } })
  (hsz:vs.length+ws.length<=sizeLine):wpAny (model prog w) A (binaryOp .Add (.ref t) (.ref b)) Q E s:=by
 obtain⟨⟨cls,dd,data,sl⟩,ho,hc,n,hd⟩:=id ht
 obtain⟨⟨cls2,dd2,data2,sl2⟩,ho2,hc2,n2,hd2⟩:=id hb
 simp only at hc hd hc2 hd2
 subst hc hd hc2 hd2
 have e:vs.toArray++ws.toArray=(vs++ws).toArray:=by simp
 by_cases hw:ws=[]
 ·exact concat_meets ⟨_,ho,rfl⟩ ⟨_,ho2,rfl⟩ noFill_tuple_add seq_tuple_add PySem.F.slot_tuple_add PySem.F.entry_tuple_add (PySem.F.args_tuple_add_2 _ _)
   (tuple_addW1 t b vs.toArray ws.toArray n n2 dd dd2 sl sl2 (by simpa using hv) (by simp[hw])) ⟨ho,ho2,h1 hw⟩
 ·refine concat_meets ⟨_,ho,rfl⟩ ⟨_,ho2,rfl⟩ noFill_tuple_add seq_tuple_add PySem.F.slot_tuple_add PySem.F.entry_tuple_add (PySem.F.args_tuple_add_2 _ _)
   (tuple_addW2 t b vs.toArray ws.toArray n n2 dd dd2 sl sl2 (by simpa using hv) (by simpa using hw) (by rw[qo,qo];exact hsz)) ⟨ho,ho2,?_⟩
  rw[e]
  exact h2 hw
def sIx (n d:Nat):Option Int->Nat
 |none=>d
 |some v=>if v<0 then(v+(n:Int)).toNat else min v.toNat n
def Ia (n d:Nat)(hd:d<=n)(o:Option Int):sIx n d o<=n:=by
 cases o with
 |none=>exact hd
 |some v =>
  show(if v<0 then(v+(n:Int)).toNat else min v.toNat n)<=n
  by_cases hv:v<0
  ·rw[if_pos hv];lia
  ·rw[if_neg hv];exact Nat.min_le_right _ _
def tZ (v:Int)(n d:Nat):(if v<0 then max (v+(n:Int)) 0 else min v (n:Int))=((sIx n d (some v):Nat):Int):=by
 show(if v<0 then max (v+(n:Int)) 0 else min v (n:Int))=(((if v<0 then(v+(n:Int)).toNat else min v.toNat n):Nat):Int)
 by_cases hv:v<0
 ·simp only[if_pos hv];lia
 ·simp only[if_neg hv];lia
def zoh (lo hi:Option Int)(n:Nat):Builtin.Slice.sliceAdjust lo hi 1 (n:Int)=(((sIx n 0 lo:Nat):Int),((sIx n n hi:Nat):Int)):=by
 have h1:¬ ((1:Int)<0):=by lia
 unfold Builtin.Slice.sliceAdjust
 simp only[h1,if_false]
 refine Prod.ext ?_ ?_
 ·cases lo with
  |none=>rfl
  |some v=>exact tZ v n 0
 ·cases hi with
  |none=>rfl
  |some v=>exact tZ v n n
def znv (i j:Nat):Builtin.Slice.slicePlaces (i:Int) (j:Int) 1=j-i:=by
  unfold Builtin.Slice.slicePlaces
  have h1:(1:Int) > 0:=by lia
  simp only[h1,if_true,Int.ediv_one]
  split<;>lia
def rF {v:Value}{o:Option Int}{Q:Option Int->Shared->Prop}(p:IsPart v o)(h:Q o s):wpAny (model prog w) A (Builtin.Slice.slicePartIndex v) Q E s:=by
 cases p with
 |none=>exact slicePart_none h
 |int i t=>exact slicePart_int h
def tU {sl:Addr}{vl vu:Value}{lo hi:Option Int}{n:Nat}{Q:Int×Int×Nat->Shared->Prop}(hs:s.heap.IsSliceOf sl vl vu .none)(pl:IsPart vl lo)(pu:IsPart vu hi)
  (h:Q (((sIx n 0 lo:Nat):Int),1,sIx n n hi-sIx n 0 lo) s):wpAny (model prog w) A (Builtin.Slice.sliceApplied (.ref sl) (pure (n:Int))) Q E s:=by
 obtain⟨os,hos,hcs,hds⟩:=id hs
 unfold Builtin.Slice.sliceApplied Builtin.Slice.sliceFields
 refine wpAny_bind (wpAny_bind (wpAny_field hos hds (x:=vl) rfl (wpAny_bind (wpAny_field hos hds (x:=vu) rfl (wpAny_bind (wpAny_field hos hds (x:=.none) rfl (wpAny_pure ?_)))))))
 refine wpAny_bind (slicePart_none ?_)
 show wpAny _ _ (if((1:Int)==0)=true then _ else _) _ _ s
 rw[if_neg (by decide)]
 refine wpAny_bind (rF pl (wpAny_bind (rF pu (wpAny_bind (wpAny_pure ?_)))))
 show wpAny _ _ (match Builtin.Slice.sliceAdjust lo hi 1 (n:Int)with|(lo,hi)=>pure (lo,(1:Int),Builtin.Slice.slicePlaces lo hi 1)) _ _ s
 rw[zoh lo hi n]
 show wpAny _ _ (pure (((sIx n 0 lo:Nat):Int),(1:Int),Builtin.Slice.slicePlaces ((sIx n 0 lo:Nat):Int) ((sIx n n hi:Nat):Int) 1)) _ _ s
 rw[znv]
 exact wpAny_pure h
def zqL (xs:Array Value)(i k:Nat):((List.range k).filterMap fun (m:Nat)=>xs[((i:Int)+(m:Int)*1).toNat]?).toArray=((xs.toList.drop i).take k).toArray:=by
 have e:(fun (m:Nat)=>xs[((i:Int)+(m:Int)*1).toNat]?)=fun m=>xs[i+m]?:=by
  funext m
  have:((i:Int)+(m:Int)*1).toNat=i+m:=by lia
  rw[this]
 rw[e]
 have:=pick_run xs i k
 rw[List.filterMap_map]at this
 have e2:((fun x=>xs[x]?) ∘ fun x=>i+x)=fun m=>xs[i+m]?:=rfl
 rw[e2]at this
 rw[this]
def zhA {t sl:Addr}{items:Array Value}{vl vu:Value}{lo hi:Option Int}{Q:Value->Shared->Prop}(ht:IsTup s.heap t items)(hs:s.heap.IsSliceOf sl vl vu .none)(pl:IsPart vl lo)(pu:IsPart vu hi)
  (hw:¬ (sIx items.size 0 lo=0/\sIx items.size items.size hi=items.size))
  (h:Q (.ref s.heap.objs.size) { s with heap:=s.heap.push { cls:=.type "tuple",data:=.seq ((items.toList.drop (sIx items.size 0 lo)).take (sIx items.size items.size hi-sIx items.size 0 lo)).toArray } })
  (hsz:items.size<=sizeLine):wpAny (model prog w) A (getItem (.ref t) (.ref sl)) Q E s:=by
 have htake:sizeOk (.seq ((items.toList.drop (sIx items.size 0 lo)).take (sIx items.size items.size hi-sIx items.size 0 lo)).toArray):=by
  show((items.toList.drop (sIx items.size 0 lo)).take (sIx items.size items.size hi-sIx items.size 0 lo)).toArray.size<=sizeLine
  rw[qo,Vu,Rj,qS]
  lia
 have hj:sIx items.size items.size hi<=items.size:=Ia _ _ (qg _) hi
 obtain⟨os,hos,hcs,hds⟩:=id hs
 have hTs:s.TypeIs (.ref sl) "slice":=⟨os,hos,hcs⟩
 unfold getItem
 try with_reducible refine wpAny_holding ?_
 first|refine wpAny_bind (wpAny_pure ?_)|skip
 refine wpAny_bind (wpAny_sequenceKey ht.typeIs (by decide) ?_)
 refine wpAny_bind (wpAny_callSpecial?_slot (name:=Str.ofString "__getitem__") ht.typeIs PyProof.Rows.slot_tuple_getitem
  (wpAny_call_entry PyProof.Rows.slot_tuple_getitem ht.typeIs entry_tuple_getitem ?_ (args_tuple_getitem _ _)))
 show wpAny _ _ (Builtin.Tuple.tupleItemsOf (.ref t) >>= _) _ _ s
 refine wpAny_bind (tupleItemsOf_ ht ?_)
 refine wpAny_bind (wpAny_typeOf hTs ?_)
 rw[if_pos (by decide)]
 refine wpAny_bind (tU hs pl pu ?_)
 have hno:¬ ((((sIx items.size 0 lo:Nat):Int)==0&&(1:Int)==1&&(sIx items.size items.size hi-sIx items.size 0 lo)==items.size)=true):=by
  intro q
  rw[qG,qG]at q
  have q1:((sIx items.size 0 lo:Nat):Int)=0:=eq_of_beq q.1.1
  have q2:sIx items.size items.size hi-sIx items.size 0 lo=items.size:=eq_of_beq q.2
  exact hw ⟨by lia,by lia⟩
 show wpAny _ _ (if(((sIx items.size 0 lo:Nat):Int)==0&&(1:Int)==1&&(sIx items.size items.size hi-sIx items.size 0 lo)==items.size)=true then _ else _) _ _ s
 rw[if_neg hno,zqL]
 first
  |exact wpAny_bind (m:=Builtin.Tuple.tupleExact _) (wpAny_newObj_type (wpAny_pure ⟨_,rfl,wpAny_pure h⟩) htake)
  |exact wpAny_bind (m:=Builtin.Tuple.tupleExact _) (wpAny_newObj_type (wpAny_bind (wpAny_pure (wpAny_pure ⟨_,rfl,wpAny_pure h⟩))) htake)
  |exact wpAny_bind (wpAny_bind (m:=Builtin.Tuple.tupleExact _) (wpAny_newObj_type (wpAny_pure (wpAny_pure ⟨_,rfl,wpAny_pure h⟩)) htake))
  |exact wpAny_bind (wpAny_bind (m:=Builtin.Tuple.tupleExact _) (wpAny_newObj_type (wpAny_pure ⟨_,rfl,wpAny_pure h⟩) htake))
end
end HT
namespace L2
open PySem PySem.Spec PyProof.Rows
abbrev TO:=St->Hp->(Option Int->Hp->Prop)->Prop
def PO (X:Cx)(e:Option Expr)(t:TO):Prop :=
 ∀ (Z9:List (Addr×Obj)) (s:Shared) (U:St) (H:Hp) (Q:Option Int->Hp->Prop),Inv X Z9 U H s->t U H Q ->
  wpAny (model X.prog X.w) X.A (evalPart e X.env) (fun u s'=>∃ o H',Inv X Z9 U H' s'/\IsPart u o/\Q o H') X.xe s
def ztk:TO:=fun _ H Q=>Q none H
def j6 (t:TE):TO:=fun U H Q=>t U H fun x H1=>∃ i,x=.int i/\Q (some i) H1
section
variable {X:Cx}{e:Expr}{te:TE}{lo hi:Option Expr}{tl th:TO}{pos p2:Pos}
def ztR:PO X none ztk:=by
 intro Z9 s U H Q I h
 rw[evalPart_none]
 exact wpAny_pure ⟨none,H,I,.none,h⟩
def ztd (h:PE X e te):PO X (some e) (j6 te):=by
 intro Z9 s U H Q I hw
 rw[evalPart_some]
 refine Z0 (h Z9 s U H _ I hw) fun u s1 ⟨x,H1,I1,r1,q1⟩=>?_
 obtain⟨i,rfl,q⟩:=q1
 obtain⟨t,rfl⟩:=r1
 exact⟨some i,H1,I1,.int i t,q⟩
def Tp (X:Cx)(r:V->Option Int->Option Int->Hp->VK->Prop):Prop :=
 ∀ (Z9:List (Addr×Obj)) (s:Shared) (U:St) (H:Hp) (x:V) (v vl vu:Value) (lo hi:Option Int) (sl:Addr) (Q:VK),Inv X Z9 U H s->RelV x v->s.heap.IsSliceOf sl vl vu .none->IsPart vl lo->IsPart vu hi->r x lo hi H Q ->
  ∃ T id,typeLookup (.type T) "__getitem__"=pure (some (.builtin id))/\s.TypeIs v T/\wpAny (model X.prog X.w) X.A (getItem v (.ref sl)) (EP X Z9 U Q) X.xe s
def Tp.or {r r':V->Option Int->Option Int->Hp->VK->Prop}(h:Tp X r)(h':Tp X r'):Tp X (fun x lo hi H Q=>r x lo hi H Q\/r' x lo hi H Q):=by
 intro Z9 s U H x v vl vu lo hi sl Q I rx hs pl pu q
 rcases q with q|q
 ·exact h Z9 s U H x v vl vu lo hi sl Q I rx hs pl pu q
 ·exact h' Z9 s U H x v vl vu lo hi sl Q I rx hs pl pu q
def tSl (r:V->Option Int->Option Int->Hp->VK->Prop)(te:TE)(tl th:TO):TE:=fun U H Q=>te U H fun x H1=>tl U H1 fun l H2=>th U H2 fun u H3=>r x l u H3 Q
def zrn {r:V->Option Int->Option Int->Hp->VK->Prop}(hr:Tp X r)(he:PE X e te)(hl:PO X lo tl)(hu:PO X hi th):PE X (.Subscript e (.Slice lo hi none p2) pos) (tSl r te tl th):=by
 intro Z9 s U H Q I h
 refine Subscript_ (Z0 (he Z9 s U H _ I h) fun v s1 ⟨x,H1,I1,r1,q1⟩=>?_)
 refine wpAny_Slice (Z0 (hl Z9 s1 U H1 _ I1 q1) fun vl s2 ⟨l,H2,I2,pl,q2⟩=>Z0 (hu Z9 s2 U H2 _ I2 q2) fun vu s3 ⟨u,H3,I3,pu,q3⟩=>?_)
 rw[evalPart_none]
 refine wpAny_pure ?_
 have I4:Inv X Z9 U H3 { s3 with heap:=s3.heap.push { cls:=.type "slice",data:=.fields #[vl,vu,.none] } }:=I3.kept (t':=s3.toks) fun b ob q=>qd _ q
 obtain⟨T,id,hT,ht,hg⟩:=hr Z9 { s3 with heap:=s3.heap.push { cls:=.type "slice",data:=.fields #[vl,vu,.none] } } U H3 x v vl vu l u s3.heap.objs.size Q I4 r1 (Heap.IsSliceOf.new ..) pl pu q3
 show wpAny (model X.prog X.w) X.A (subscriptTail e (.Slice lo hi none p2) v (.ref s3.heap.objs.size)) (EP X Z9 U Q) X.xe { s3 with heap:=s3.heap.push { cls:=.type "slice",data:=.fields #[vl,vu,.none] } }
 exact tail_any (ops:=[.ref s3.heap.objs.size,v]) ht hT hg (by with_unfolding_all rfl)
def SN (xs:List V)(lo hi:Option Int):List V:=(xs.drop (HT.sIx xs.length 0 lo)).take (HT.sIx xs.length xs.length hi-HT.sIx xs.length 0 lo)
def yG (xs:List V)(lo hi:Option Int):(SN xs lo hi).length<=xs.length:=by
 unfold SN
 rw[Vu,Rj]
 lia
def zy2 (K:PySem.W.Frag):V->Option Int->Option Int->Hp->VK->Prop:=fun x lo hi H Q=>∃ a xs,x=.ref a/\ZL K H a xs /\
 ¬ (HT.sIx xs.length 0 lo=0/\HT.sIx xs.length xs.length hi=xs.length)/\∀ p,H p=none->Q (.ref p) (upd H p (.tup (SN xs lo hi)))
def zvK:Tp X (zy2 X.K):=by
 intro Z9 s U H x v vl vu lo hi sl Q I rx hs pl pu h
 obtain⟨a,xs,rfl,hx,hw,q⟩:=h
 cases rx
 obtain⟨its,r,ht,hz⟩:=I.tuple hx
 have hlen:its.toArray.size=xs.length:=by rw[qo];exact r.length.symm
 refine⟨"tuple",_,PyProof.Rows.slot_tuple_getitem.lookup,ht.typeIs,?_⟩
 refine HT.zhA ht hs pl pu (by rw[hlen];exact hw) ?_ (by rw[hlen];exact hz)
 rw[hlen]
 refine⟨.ref s.heap.objs.size,_,I.laid (t':=s.toks) (o:=.tup (SN xs lo hi)) (fun b ob q=>qd _ q) (qg _) ?_,rfl,q _ (I.hok.fresh (qg _))⟩
 exact⟨Xi (yG xs lo hi) hz,_,(r.drop (HT.sIx xs.length 0 lo)).take (HT.sIx xs.length xs.length hi-HT.sIx xs.length 0 lo),IsTup.new _ _⟩
def zxD (K:PySem.W.Frag):R2:=fun x y H Q=>∃ a b xs ys,x=.ref a/\y=.ref b/\ZL K H a xs/\ZL K H b ys/\xs≠[]/\xs.length+ys.length<=sizeLine /\
 (ys=[]->Q (.ref a) H)/\(ys≠[]->∀ p,H p=none->Q (.ref p) (upd H p (.tup (xs++ys))))
def Vals.nil_iff {xs:List V}{us:List Value}(r:Vals xs us):us=[]↔xs=[]:=by
 cases r with
 |nil=>simp
 |cons _ _=>simp
def ztn:Zh X (binaryOp .Add) (zxD X.K):=by
 intro Z9 s U H x y v u Q I rx ry h
 obtain⟨a,b,xs,ys,rfl,rfl,ha,hb,hx,hz,q1,q2⟩:=h
 cases rx
 cases ry
 obtain⟨its,r1,p1,_⟩:=I.tuple ha
 obtain⟨its2,r2,p2,_⟩:=I.tuple hb
 refine HT.zs7 p1 p2 (fun z=>hx (r1.nil_iff.mp z)) (fun z=>⟨.ref a,H,I,rfl,q1 (r2.nil_iff.mp z)⟩) (fun z=>?_) (by rw[<- r1.length,<- r2.length];exact hz)
 refine⟨.ref s.heap.objs.size,_,I.laid (t':=s.toks) (o:=.tup (xs++ys)) (fun b ob q=>qd _ q) (qg _) ?_,rfl,q2 (fun w=>z (r2.nil_iff.mpr w)) _ (I.hok.fresh (qg _))⟩
 exact⟨by rw[qf];exact hz,_,r1.append r2,IsTup.new _ _⟩
end
def Pz (n:Nat)(i:Int):Option Nat:=if 0<=i then(if i<n then some i.toNat else none)else if -(n:Int)<=i then some (i+n).toNat else none
def Qd {α:Type}(xs:List α)(i:Int):Option α:=(Pz xs.length i).bind fun j=>xs[j]?
def wZ {n:Nat}{i:Int}{j:Nat}(h:Pz n i=some j):seqIndex? i n=some j/\j<n/\-(n:Int)<=i/\i<n:=by
 unfold Pz at h
 by_cases h0:0<=i
 ·rw[if_pos h0]at h
  by_cases h1:i<n
  ·rw[if_pos h1]at h
   have e:i.toNat=j:=qB h
   exact⟨by rw[seqIndex_of h0 h1,e],by lia,by lia,h1⟩
  ·rw[if_neg h1]at h;cases h
 ·rw[if_neg h0]at h
  by_cases h1:-(n:Int)<=i
  ·rw[if_pos h1]at h
   have e:(i+n).toNat=j:=qB h
   exact⟨by rw[seqIndex_neg (by lia) h1,e],by lia,h1,by lia⟩
  ·rw[if_neg h1]at h;cases h
def Bv {α:Type}{xs:List α}{i:Int}{v:α}(h:Qd xs i=some v):∃ j,seqIndex? i xs.length=some j/\xs[j]?=some v/\j<xs.length/\-(xs.length:Int)<=i/\i<xs.length:=by
 unfold Qd at h
 cases e:Pz xs.length i with
 |none=>rw[e]at h;cases h
 |some j =>
  rw[e]at h
  obtain⟨h1,h2,h3,h4⟩:=wZ e
  exact⟨j,h1,h,h2,h3,h4⟩
def mZ (b:Expr):Prop:=∀ o i,subscripted b false o i=operate [o,i] (getItem o i)
def Rr (X:Cx)(r:R2):Prop :=
 ∀ (value slice:Expr) (Z9:List (Addr×Obj)) (s:Shared) (U:St) (H:Hp) (x y:V) (v u:Value) (Q:VK),Inv X Z9 U H s->RelV x v->RelV y u->r x y H Q ->
  subscripted slice false v u=operate [v,u] (getItem v u)->wpAny (model X.prog X.w) X.A (subscriptTail value slice v u) (EP X Z9 U Q) X.xe s
def Mr (X:Cx)(id:String)(r:V->List V->Hp->VK->Prop):Prop :=
 ∀ (Z9:List (Addr×Obj)) (s:Shared) (U:St) (H:Hp) (x:V) (xs:List V) (v:Value) (us:List Value) (Q:VK),Inv X Z9 U H s->RelV x v->Vals xs us->r x xs H Q ->
  wpAny (model X.prog X.w) X.A (call (.builtin id) (v::us)) (EP X Z9 U Q) X.xe s
section
variable {X:Cx}{a b:Expr}{ta tb:TE}{pos:Pos}
def Rr.or {r r':R2}(h:Rr X r)(h':Rr X r'):Rr X (fun x y H Q=>r x y H Q\/r' x y H Q):=by
 intro value slice Z9 s U H x y v u Q I rx ry q hs
 rcases q with q|q
 ·exact h value slice Z9 s U H x y v u Q I rx ry q hs
 ·exact h' value slice Z9 s U H x y v u Q I rx ry q hs
def iD {r:R2}(hr:Rr X r)(ha:PE X a ta)(hb:PE X b tb)(hs:mZ b):PE X (.Subscript a b pos) (Lk r ta tb):=by
 intro Z9 s U H Q I h
 exact Subscript_ (Dg ha hb I h fun v u s2 x y H2 I2 rx ry q=>hr a b Z9 s2 U H2 x y v u Q I2 rx ry q (hs _ _))
def jj (K:PySem.W.Frag):R2:=fun x y H Q=>∃ p xs i v,x=.ref p/\y=.int i/\Zq K H p xs/\Qd xs i=some v/\Q v H
def jU (K:PySem.W.Frag):R2:=fun x y H Q=>∃ p xs i v,x=.ref p/\y=.int i/\ZL K H p xs/\Qd xs i=some v/\Q v H
def zyK:R2:=fun x y H Q=>∃ z i c,x=.str z/\y=.int i/\z.length<=sizeLine/\Qd z.cps.toList i=some c/\Q (.str ⟨#[c]⟩) H
def ztt:Rr X (jj X.K):=by
  intro value slice Z9 s U H x y v u Q I rx ry h hs
  obtain⟨p,xs,i,z,rfl,rfl,hq,he,q⟩:=h
  cases rx
  obtain⟨t,rfl⟩:=ry
  obtain⟨its,r,pl,hz⟩:=I.list hq
  obtain⟨j,h1,h2,h3,h4,h5⟩:=Bv he
  obtain⟨w,ew,rw'⟩:=r.get h2
  have hl:=r.length
  have hn:=Oq
  have fin:EP X Z9 U Q w s:=⟨z,H,I,rw',q⟩
  by_cases h0:0<=i
  . have hj : i.toNat = j := by
      rw[seqIndex_of h0 h5]at h1
      exact qB h1
    exact item_listR pl.isList h0 (by lia) (by rw[hj];simpa using ew) fin hs
  . have hj : (i + (its.toArray.size : Int)).toNat = j := by
      rw[seqIndex_neg (by lia) h4]at h1
      rw[qo,<- hl]
      exact qB h1
    exact subscriptTail_builtinR (x:=w) pl.isList.typeIs slot_list_getitem.lookup
      (wpAny_getItem_list_neg (Q:=fun r s'=>r=w/\EP X Z9 U Q r s') pl.isList (by lia) (by rw[qo]<;>lia) (by lia) (by rw[hj];simpa using ew) ⟨rfl,fin⟩) hs
def zu7:Rr X (jU X.K):=by
 intro value slice Z9 s U H x y v u Q I rx ry h hs
 obtain⟨p,xs,i,z,rfl,rfl,hq,he,q⟩:=h
 cases rx
 obtain⟨t,rfl⟩:=ry
 obtain⟨its,r,pl,hz⟩:=I.tuple hq
 obtain⟨j,h1,h2,h3,h4,h5⟩:=Bv he
 obtain⟨w,ew,rw'⟩:=r.get h2
 have hl:=r.length
 have hn:=Oq
 have fin:EP X Z9 U Q w s:=⟨z,H,I,rw',q⟩
 exact subscriptTail_builtinR (x:=w) pl.typeIs slot_tuple_getitem.lookup
  (getItem_tuple (j:=j) (Q:=fun r s'=>r=w/\EP X Z9 U Q r s') pl (by lia) (by lia) (by rw[qo,<- hl];exact h1) (by simpa using ew) ⟨rfl,fin⟩) hs
def zu9:Rr X zyK:=by
 intro value slice Z9 s U H x y v u Q I rx ry h hs
 obtain⟨z,i,c,rfl,rfl,hz,he,q⟩:=h
 obtain⟨t,rfl⟩:=rx
 obtain⟨t',rfl⟩:=ry
 obtain⟨j,h1,h2,h3,h4,h5⟩:=Bv he
 have hl:z.cps.toList.length=z.length:=by simp[Str.length]
 rw[hl]at h1 h4 h5
 have hn:=Oq
 exact tail_any (typeIs_str s z t) slot_str_getitem.lookup (getItem_str (c:=c) (by
  have e1:decide (i < -(2 ^ 63:Int))=false:=decide_eq_false (by lia)
  have e2:decide (i ≥ 2 ^ 63)=false:=decide_eq_false (by lia)
  rw[e1,e2,Bool.or_false]) (by rw[h1];simpa using h2) ⟨.str ⟨#[c]⟩,H,I.tok _,⟨_,rfl⟩,q⟩) hs
def zn0 (its:List Value)(n j:Nat)(u:Value):Obj.mapSeq (·.setIfInBounds j u) { cls:=.type "list",data:=.seq its.toArray n }={ cls:=.type "list",data:=.seq (its.set j u).toArray n }:=by
 simp[Obj.mapSeq]
theorem Inv.lst {Z9:List (Addr×Obj)}{U:St}{H:Hp}{s:Shared}{p:Addr}{xs:List V}(I:Inv X Z9 U H s)(h:H p=some (.lst xs)) :
  ∃ (its:List Value) (n:Nat),Vals xs its/\s.heap.get? p=some { cls:=.type "list",data:=.seq its.toArray n }/\xs.length<=sizeLine:=by
 obtain⟨z,its,n,r,e⟩:=I.hok p _ h
 exact⟨its,n,r,e,z⟩
def Inv.lstUpd {Z9:List (Addr×Obj)}{U:St}{H:Hp}{s:Shared}{p:Addr}{xs ys:List V}{its its':List Value}{n n':Nat}{f:Obj->Obj}(I:Inv X Z9 U H s)(h:H p=some (.lst xs))
    (ho:s.heap.get? p=some { cls:=.type "list",data:=.seq its.toArray n }) (hf:f { cls:=.type "list",data:=.seq its.toArray n }={ cls:=.type "list",data:=.seq its'.toArray n' }) (r:Vals ys its') (hz:ys.length<=sizeLine) (t:Nat) :
    Inv X Z9 U (upd H p (.lst ys)) { s with heap:=s.heap.update p f,toks:=t }:=by
  have e:(s.heap.update p f).get? p=some { cls:=.type "list",data:=.seq its'.toArray n' }:=by
    rw[Heap.get?_update_self f ho (by rw[hf]<;>rfl),hf]
  refine I.write (x:=p) (e:=p) (by rw[h];trivial) (.inl rfl) (fun b u hb q=>(Heap.get?_update_other _ _ (Ne.symm hb)).trans q) ⟨_,e⟩ ?_
  exact⟨hz,its',n',r,e⟩
def zxJ:V->V->V->Hp->(Hp->Prop)->Prop:=fun o i v H Q=>∃ p xs k j,o=.ref p/\i=.int k/\H p=some (.lst xs)/\Pz xs.length k=some j/\Q (upd H p (.lst (xs.set j v)))
def set_list:wN X zxJ:=by
 intro Z9 s U H o i v ov iv u Q I ro ri rv h
 obtain⟨p,xs,k,j,rfl,rfl,hp,hj,q⟩:=h
 cases ro
 obtain⟨t,rfl⟩:=ri
 obtain⟨its,n,r,ho,hz⟩:=I.lst hp
 obtain⟨h1,h2,h3,h4⟩:=wZ hj
 have hl:=r.length
 have hn:=Oq
 have I':Inv X Z9 U (upd H p (.lst (xs.set j v))) { s with heap:=s.heap.update p (Obj.mapSeq (·.setIfInBounds j u)) } :=
  I.lstUpd hp ho (zn0 its n j u) (r.set rv j) (by rw[VP];exact hz) s.toks
 by_cases h0:0<=k
 ·have hk:k.toNat=j:=by
   rw[seqIndex_of h0 h4]at h1
   exact qB h1
  exact PySem.W.ki_setAt ho h0 (by lia) (by rw[qo,<- hl];exact h4) (by rw[hk];exact⟨_,I',q⟩)
 ·have hk:(k+(its.toArray.size:Int)).toNat=j:=by
   rw[seqIndex_neg (by lia) h3]at h1
   rw[qo,<- hl]
   exact qB h1
  exact PySem.W.ki_setBack ho (by lia) (by rw[qo,<- hl];exact h3) (by lia) (by rw[hk];exact⟨_,I',q⟩)
def jJ (lo hi:Option Int)(n:Nat):(sliceBounds lo hi none n).1=((HT.sIx n 0 lo:Nat):Int)/\(sliceBounds lo hi none n).2.1=((HT.sIx n n hi:Nat):Int)/\(sliceBounds lo hi none n).2.2=1:=by
  refine⟨?_,?_,rfl⟩
  . cases lo with
    |none=>simp[sliceBounds,HT.sIx]
    |some i =>
      simp only[sliceBounds,HT.sIx,Option.getD_none,show(1:Int) > 0 by decide,if_true]
      by_cases h:i<0
      . simp only[h,if_true]<;>lia
      . simp only[h,if_false]<;>lia
  . cases hi with
    |none=>simp[sliceBounds,HT.sIx]
    |some i =>
      simp only[sliceBounds,HT.sIx,Option.getD_none,show(1:Int) > 0 by decide,if_true]
      by_cases h:i<0
      . simp only[h,if_true]<;>lia
      . simp only[h,if_false]<;>lia
def zks (its:List Value)(lo hi:Option Int):slicePick its.toArray lo hi none=((its.drop (HT.sIx its.length 0 lo)).take (HT.sIx its.length its.length hi-HT.sIx its.length 0 lo)).toArray:=by
  obtain⟨h1,h2,h3⟩:=jJ lo hi its.toArray.size
  unfold slicePick
  rw[h1,h2,h3]
  simp only[sliceRange_one,pick_run,qo]<;>rfl
def zy0 (K:PySem.W.Frag):V->Option Int->Option Int->Hp->VK->Prop:=fun x lo hi H Q=>∃ a xs,x=.ref a/\Zq K H a xs/\∀ p,H p=none->Q (.ref p) (upd H p (.lst (SN xs lo hi)))
def zsN:Tp X (zy0 X.K):=by
  intro Z9 s U H x v vl vu lo hi sl Q I rx hs pl pu h
  obtain⟨a,xs,rfl,hx,q⟩:=h
  cases rx
  obtain⟨its,r,ht,hz⟩:=I.list hx
  have hlen:=r.length
  refine⟨"list",_,slot_list_getitem.lookup,ht.isList.typeIs,?_⟩
  refine wpAny_getItem_list_slice ht.isList hs pl pu .none (by simp) ?_ (by rw[qo]<;>lia)
  rw[zks,<- hlen]
  refine⟨.ref s.heap.objs.size,_,I.laid (t':=s.toks) (o:=.lst (SN xs lo hi)) (fun b ob q=>qd _ q) (qg _) ?_,rfl,q _ (I.hok.fresh (qg _))⟩
  exact⟨Xi (yG xs lo hi) hz,_,0,(r.drop (HT.sIx xs.length 0 lo)).take (HT.sIx xs.length xs.length hi-HT.sIx xs.length 0 lo),qq _ rfl⟩
def zkY:YQ X (.builtin "len") (fun xs H Q=>∃ p ys,xs=[.ref p]/\(Zq X.K H p ys\/ZL X.K H p ys)/\Q (.int ys.length) H):=by
  intro Z9 s U H xs us Q I r h
  obtain⟨p,ys,rfl,hq,q⟩:=h
  obtain⟨u,rfl,rx⟩:=vals1 r
  cases rx
  have hn:=Oq
  rcases hq with hq|hq
  . obtain⟨its,r',pl,hz⟩:=I.list hq
    have hlen:=r'.length
    exact Calls.call_len_list pl.isList (by simp only[qo]<;>lia) ⟨.int ys.length,H,I.tok _,⟨s.toks+1,by rw[qo,hlen]⟩,q⟩
  . obtain⟨its,r',pl,hz⟩:=I.tuple hq
    have hlen:=r'.length
    exact len_tuple pl (by simp only[qo]<;>lia) ⟨.int ys.length,H,I.tok _,⟨s.toks+1,by rw[qo,hlen]⟩,q⟩
def zlw:YQ X (.builtin "len") (fun xs H Q=>∃ z,xs=[.str z]/\z.length<=sizeLine/\Q (.int z.length) H):=by
 intro Z9 s U H xs us Q I r h
 obtain⟨z,rfl,hz,q⟩:=h
 obtain⟨u,rfl,t,rfl⟩:=vals1 r
 have hn:=Oq
 exact len_str (by lia) ⟨.int z.length,H,I.tok _,⟨_,rfl⟩,q⟩
def YQ.or {f:Value}{r r':List V->Hp->VK->Prop}(h:YQ X f r)(h':YQ X f r'):YQ X f (fun xs H Q=>r xs H Q\/r' xs H Q):=by
 intro Z9 s U H xs us Q I rs q
 rcases q with q|q
 ·exact h Z9 s U H xs us Q I rs q
 ·exact h' Z9 s U H xs us Q I rs q
def zlJ:YQ X (.type "list") (fun xs H Q=>∃ p ys,xs=[.ref p]/\(Zq X.K H p ys\/ZL X.K H p ys)/\∀ l,H l=none->Q (.ref l) (upd H l (.lst ys))):=by
  intro Z9 s U H xs us Q I r h
  obtain⟨p,ys,rfl,hq,q⟩:=h
  obtain⟨u,rfl,rx⟩:=vals1 r
  cases rx
  have fin : ∀ (its : List Value), Vals ys its → ys.length ≤ sizeLine → ∀ (h' : Heap) (c' : Nat), (∀ b o', s.heap.get? b = some o' → h'.get? b = some o') →
      h'.get? s.heap.objs.size=some { cls:=.type "list",dict:=none,data:=.seq its.toArray c',slots:=#[] }->EP X Z9 U Q (.ref s.heap.objs.size) { s with heap:=h' }:=fun its r' hz h' c' kp e =>
    ⟨.ref s.heap.objs.size,_,I.laid (t':=s.toks) kp (qg _) (show Y5 X.prog X.w _ h' _ (.lst ys)from ⟨hz,its,c',r',e⟩),rfl,q _ (I.hok.fresh (qg _))⟩
  rcases hq with hq|hq
  . obtain⟨its,r',pl,hz⟩:=I.list hq
    have hlen:=r'.length
    obtain⟨o,ho,hc,n,hd⟩:=pl.isList
    exact call_list_seq p (.inl rfl) ho hc hd (fun h' c' kp e=>fin its r' hz h' c' kp e) (by simp only[qo]<;>lia)
  . obtain⟨its,r',pl,hz⟩:=I.tuple hq
    have hlen:=r'.length
    obtain⟨o,ho,hc,n,hd⟩:=pl
    exact call_list_seq p (.inr rfl) ho hc hd (fun h' c' kp e=>fin its r' hz h' c' kp e) (by simp only[qo]<;>lia)
def zky:YQ X (.type "tuple") (fun xs H Q=>∃ p ys,xs=[.ref p]/\((Zq X.K H p ys/\∀ l,H l=none->Q (.ref l) (upd H l (.tup ys)))\/(ZL X.K H p ys/\Q (.ref p) H))):=by
  intro Z9 s U H xs us Q I r h
  obtain⟨p,ys,rfl,h⟩:=h
  obtain⟨u,rfl,rx⟩:=vals1 r
  cases rx
  rcases h with⟨hq,q⟩|⟨hq,q⟩
  . obtain⟨its,r',pl,hz⟩:=I.list hq
    have hlen:=r'.length
    refine call_tuple_list pl.isList (fun h' kp=>?_) (by simp only[qo]<;>lia)
    have I1:Inv X Z9 U H { s with heap:=h' }:=I.kept (t':=s.toks) kp
    have I2:Inv X Z9 U (upd H h'.objs.size (.tup ys)) { s with heap:=h'.push { cls:=.type "tuple",data:=.seq its.toArray } } :=
      I1.laid (t':=s.toks) (fun b o e=>qd _ e) (qg _) (show Y5 X.prog X.w _ _ _ (.tup ys)from ⟨hz,its,r',IsTup.new _ _⟩)
    exact⟨.ref h'.objs.size,_,I2,rfl,q _ (I1.hok.fresh (qg _))⟩
  . obtain⟨its,r',pl,hz⟩:=I.tuple hq
    exact call_tuple_same pl ⟨.ref p,H,I,rfl,q⟩
def JX (K:PySem.W.Frag)(T:String)(x:V)(H:Hp):Prop:=match x with
 | .str _=>T="str"
 | .int _=>T="int"
 | .ref p=>(T="list"/\∃ xs,Zq K H p xs)\/(T="tuple"/\∃ o,K.lookup p=some o/\o.cls=.type "tuple"/\o.dict=none) \/
   (T="dict"/\((∃ Z6,H p=some (.dK Z6))\/∃ Z6,H p=some (.dT Z6)))\/(T="set"/\∃ S n,H p=some (.set S n))
 |_=>False
def mY {Z9:List (Addr×Obj)}{U:St}{H:Hp}{s:Shared}{T:String}{x:V}{v:Value}(I:Inv X Z9 U H s)(r:RelV x v)(ty:JX X.K T x H) :
  s.TypeIs v T/\∀ a,v=.ref a->∃ ob,s.heap.get? a=some ob/\ob.dict=none:=by
 cases x with
 |str z =>
  obtain⟨t,rfl⟩:=r
  cases(show T="str" from ty)
  exact⟨typeIs_str s z t,fun _ e=>nomatch e⟩
 |int i =>
  obtain⟨t,rfl⟩:=r
  cases(show T="int" from ty)
  exact⟨typeIs_int s i t,fun _ e=>nomatch e⟩
 |ref p =>
  cases r
  rcases ty with⟨rfl,xs,hq⟩|⟨rfl,o,hk,hc,hd⟩|⟨rfl,hk⟩|⟨rfl,S,n,hk⟩
  ·obtain⟨its,_,pl,_⟩:=I.list hq
   refine⟨pl.isList.typeIs,fun a e=>?_⟩
   cases e
   obtain⟨o,n,e,c,hd,_⟩:=pl
   exact⟨o,e,hd⟩
  ·refine⟨⟨o,I.kIn p o hk,hc⟩,fun a e=>?_⟩
   cases e
   exact⟨o,I.kIn _ o hk,hd⟩
  ·have z:∃ o,s.heap.get? p=some o/\o.ExactDict:=by
    rcases hk with⟨Z6,hk⟩|⟨Z6,hk⟩
    ·obtain⟨_,_,_,_,o,_,_,e,ex,_⟩:=I.hok p _ hk
     exact⟨o,e,ex⟩
    ·obtain⟨_,_,_,_,o,_,_,e,ex,_⟩:=I.hok p _ hk
     exact⟨o,e,ex⟩
   obtain⟨o,e,ex⟩:=z
   refine⟨⟨o,e,ex.1⟩,fun a e2=>?_⟩
   cases e2
   exact⟨o,e,ex.2.1⟩
  ·obtain⟨o,_,_,_,e,ex,_⟩:=I.hok p _ hk
   refine⟨⟨o,e,ex.1⟩,fun a e2=>?_⟩
   cases e2
   exact⟨o,e,ex.2.1⟩
 |_=>exact False.elim ty
def zyy (K:PySem.W.Frag)(T:String)(r:V->List V->Hp->VK->Prop)(to:TE):TE:=fun U H Q=>to U H fun x H1=>JX K T x H1/\r x [] H1 Q
def jM (K:PySem.W.Frag)(T:String)(r:V->List V->Hp->VK->Prop)(to:TE)(t:TA):TE:=fun U H Q=>to U H fun x H1=>JX K T x H1/\t U H1 fun xs H2=>r x xs H2 Q
variable {o e:Expr}{es:List Expr}{to:TE}{t:TA}{name:Str}{apos cpos:Pos}{T id:String}{r:V->List V->Hp->VK->Prop}
def zwA (pa:PlainAttrs T)(slot:Slot T name id)(hty:typeOf (.builtin id)=pure (.type "method_descriptor"))(hm:Mr X id r)(ho:PE X o to)
  (hbase:attributeBase o name X.env (eval o X.env)=eval o X.env:=by rfl) (hline:(apos.endLine==cpos.line)=true:=by rfl):PE X (.Call (.Attribute o name apos) [] [] cpos) (zyy X.K T r to):=by
 intro Z9 s U H Q I h
 refine wpAny_Call_method0_late hbase hline (Z0 (ho Z9 s U H _ I h) fun v s1 ⟨x,H1,I1,r1,ty,q1⟩=>?_)
 obtain⟨h1,h2⟩:=mY I1 r1 ty
 exact⟨T,id,pa,slot,hty,h1,h2,Calls.callWith_builtin rfl (PySem.evalArgs_none (hm Z9 s1 U H1 x [] v [] Q I1 r1 .nil q1))⟩
def iR (pa:PlainAttrs T)(slot:Slot T name id)(hty:typeOf (.builtin id)=pure (.type "method_descriptor"))(hm:Mr X id r)(ho:PE X o to)(ha:PA X (e::es) t)
    (hbase:attributeBase o name X.env (eval o X.env)=eval o X.env:=by rfl)
    (hfew:((backTo cpos (starEach (e::es) X.env)).all (fun x=>!x.1)&&(backToKw cpos (keywordEach [] X.env)).all (fun x=>x.1.isSome)
     &&decide ((e::es).length+([]:List Keyword).length+(if([]:List Keyword).isEmpty then 0 else 1)<30))=true:=by rfl)
    (hline:(apos.endLine==cpos.line)=true:=by rfl) (hs:starEach (e::es) X.env=(false,eval e X.env)::starEach es X.env:=by rfl) (hplain:(backTo cpos (starEach es X.env)).any (·.1)=false:=by rfl) :
    PE X (.Call (.Attribute o name apos) (e::es) [] cpos) (jM X.K T r to t):=by
  intro Z9 s U H Q I h
  refine wpAny_Call_method_late hbase hfew hline rfl (Z0 (ho Z9 s U H _ I h) fun v s1 ⟨x,H1,I1,r1,ty,q1⟩=>?_)
  obtain⟨h1,h2⟩:=mY I1 r1 ty
  refine⟨T,id,pa,slot,hty,h1,h2,?_⟩
  have hA:=ha cpos Z9 s1 U H1 _ I1 q1
  rw[hs]at hA ⊢
  refine Calls.callWith_builtin (by show(false||(backTo cpos (starEach es X.env)).any (·.1))=false;rw[hplain]<;>rfl) (Calls.evalArgs_plain ?_)
  exact Z0 hA fun us s2 ⟨vs,H2,I2,r2,q2⟩=>hm Z9 s2 U H2 x vs v us Q I2 r1 r2 q2
/- xs.append(e),list.index on a module's tuple .. are Mr facts of 06m -/
end
def QZ (X:Cx)(id:String)(r:V->List V->Hp->VK->Prop):Prop :=
 ∀ (Z9:List (Addr×Obj)) (s:Shared) (U:St) (H:Hp) (x:V) (xs:List V) (v:Value) (us:List Value) (Q:VK),Inv X Z9 U H s->RelV x v->Vals xs us->r x xs H Q ->
  wpAny (model X.prog X.w) X.A (call (.builtin id) (v::us)) (EP X Z9 U Q) X.xe s
theorem Vals.one:∀ {x:V} {us:List Value},Vals [x] us->∃ u,us=[u]/\RelV x u
 |_,_,.cons r .nil=>⟨_,rfl,r⟩
theorem Vals.zero:∀ {us:List Value},Vals [] us->us=[]
 |_,.nil=>rfl
theorem Vals.eraseIdx:∀ {xs:List V} {us:List Value} (i:Nat),Vals xs us->Vals (xs.eraseIdx i) (us.eraseIdx i)
 |_,_,_,.nil=>.nil
 |_,_,0,.cons _ t=>t
 |_,_,i+1,.cons r t=>.cons r (Vals.eraseIdx i t)
theorem wk {α:Type}:∀ (l:List α) (i:Nat),(l.eraseIdx i).length<=l.length
 |[],_=>qg _
 |_::_,0=>Rf _
 |_::r,i+1=>Nat.succ_le_succ (wk r i)
section
variable {X:Cx}{Z9:List (Addr×Obj)}{U:St}{H:Hp}{s:Shared}{l b:Addr}{xs ys zs:List V}
def Inv.lset {its its':List Value}{n:Nat}{f:Array Value->Array Value}{t':Nat}(I:Inv X Z9 U H s)(hH:H l=some (.lst xs))
  (e:s.heap.get? l=some { cls:=.type "list",data:=.seq its.toArray n }) (hf:f its.toArray=its'.toArray) (hv:Vals ys its') (hz:ys.length<=sizeLine) :
  Inv X Z9 U (upd H l (.lst ys)) { s with heap:=s.heap.update l (Obj.mapSeq f),toks:=t' }:=by
 have q:=PySem.IsL.update e f
 rw[hf]at q
 refine I.write (x:=l) (e:=l) (by rw[hH];exact trivial) (.inl rfl) (fun b' u hb hu=>(Heap.get?_update_other s.heap (Obj.mapSeq f) (Ne.symm hb)).trans hu) ⟨_,q⟩ ?_
 exact⟨hz,its',_,hv,q⟩
def Inv.lnew {its:List Value}{t':Nat}(I:Inv X Z9 U H s)(hv:Vals ys its)(hz:ys.length<=sizeLine) :
  Inv X Z9 U (upd H s.heap.objs.size (.lst ys)) { s with heap:=s.heap.push { cls:=.type "list",data:=.seq its.toArray },toks:=t' } :=
 I.laid (fun _ _ q=>qd _ q) (qg _) ⟨hz,its,0,hv,qq _ rfl⟩
theorem Inv.fresh (I:Inv X Z9 U H s):H s.heap.objs.size=none:=I.hok.fresh (qg _)
def Inv.lstM (I:Inv X Z9 U H s)(hH:H l=some (.lst xs)):xs.length<=sizeLine/\∃ (its:List Value) (n:Nat),Vals xs its/\xs.length=its.length/\s.heap.get? l=some { cls:=.type "list",data:=.seq its.toArray n }:=by
 obtain⟨z,its,n,r,e⟩:=I.hok l _ hH
 exact⟨z,its,n,r,r.length,e⟩
def mQ {n:Nat}(h:n<=sizeLine):Builtin.List.listTooLong n=false:=by
 unfold Builtin.List.listTooLong
 exact decide_eq_false (by lia)
end
section
variable {X:Cx}
def rW:V->List V->Hp->VK->Prop:=fun x vs H Q=>∃ l xs y,x=.ref l/\vs=[y]/\H l=some (.lst xs)/\xs.length<sizeLine/\Q .non (upd H l (.lst (xs++[y])))
def vH:QZ X "list.append" rW:=by
 intro Z9 s U H x vs v us Q I rx rv h
 obtain⟨l,xs,y,rfl,rfl,hH,hz,q⟩:=h
 cases rx
 obtain⟨u,rfl,ru⟩:=rv.one
 obtain⟨z,its,n,r,hl,e⟩:=I.lstM hH
 refine call_meets F.slot_list_append ⟨_,e,rfl⟩ F.entry_list_append (F.args_list_append_2 _ _) (PySem.list_append l its.toArray n u (by rw[qo];lia)) ⟨e,?_⟩
 refine⟨.non,_,I.lset (its':=its++[u]) hH e (by simp) (r.append (.cons ru .nil)) ?_,rfl,q⟩
 rw[qf,List.length_singleton]
 lia
def Ad:V->List V->Hp->VK->Prop:=fun x vs H Q=>∃ l b xs zs,x=.ref l/\vs=[.ref b]/\H l=some (.lst xs)/\H b=some (.lst zs)/\xs.length+zs.length<=sizeLine/\Q .non (upd H l (.lst (xs++zs)))
def lA:QZ X "list.extend" Ad:=by
 intro Z9 s U H x vs v us Q I rx rv h
 obtain⟨l,b,xs,zs,rfl,rfl,hH,hB,hz,q⟩:=h
 cases rx
 obtain⟨u,rfl,ru⟩:=rv.one
 cases ru
 obtain⟨z,its,n,r,hl,e⟩:=I.lstM hH
 obtain⟨z2,its2,n2,r2,hl2,e2⟩:=I.lstM hB
 have hsz:its.toArray.size+its2.toArray.size<=sizeLine:=by rw[qo,qo];lia
 have hlong:¬ (!its.toArray.isEmpty&&Builtin.List.listTooLong (its.toArray.size+its2.toArray.size))=true:=by
  rw[mQ hsz,Bool.and_false]
  exact qu
 refine call_meets F.slot_list_extend ⟨_,e,rfl⟩ F.entry_list_extend (F.args_list_extend_2 _ _)
  (AutoSeq1.list_extend_list_list_0 l its.toArray n b its2.toArray n2 hlong (by rw[qo];lia) (by lia)) ⟨e,e2,?_⟩
 refine⟨.non,_,I.lset (its':=its++its2) hH e (by simp) (r.append r2) ?_,rfl,q⟩
 rw[qf]
 lia
def zvR:V->List V->Hp->VK->Prop:=fun x vs H Q=>∃ l xs i k y,x=.ref l/\vs=[.int i]/\H l=some (.lst xs)/\-(2 ^ 63)<=i/\i<2 ^ 63/\seqIndex? i xs.length=some k/\xs[k]?=some y/\Q y (upd H l (.lst (xs.eraseIdx k)))
def zqU:QZ X "list.pop" zvR:=by
 intro Z9 s U H x vs v us Q I rx rv h
 obtain⟨l,xs,i,k,y,rfl,rfl,hH,h1,h2,hk,hy,q⟩:=h
 cases rx
 obtain⟨u,rfl,ru⟩:=rv.one
 obtain⟨t,rfl⟩:=ru
 obtain⟨z,its,n,r,hl,e⟩:=I.lstM hH
 obtain⟨w,hw,rw'⟩:=r.get hy
 refine call_meets F.slot_list_pop ⟨_,e,rfl⟩ F.entry_list_pop (F.args_list_pop_2 _ _)
  (MeetsSeq.list_pop_at l its.toArray n i t k w (fitsIndex_both h1 h2) (by rw[qo,<- hl];exact hk) (by rw[<- Pr];exact hw) (by rw[qo];lia)) ⟨e,?_⟩
 refine⟨y,_,I.lset (its':=its.eraseIdx k) hH e ?_ (r.eraseIdx k) ?_,rw',q⟩
 ·show its.toArray.eraseIdxIfInBounds k=(its.eraseIdx k).toArray
  rw[List.eraseIdxIfInBounds_toArray]
 ·have:=wk xs k
  lia
def zvU:V->List V->Hp->VK->Prop:=fun x vs H Q=>∃ l xs,x=.ref l/\vs=[]/\H l=some (.lst xs)/\Q .non (upd H l (.lst []))
def zqN:QZ X "list.clear" zvU:=by
 intro Z9 s U H x vs v us Q I rx rv h
 obtain⟨l,xs,rfl,rfl,hH,q⟩:=h
 cases rx
 have hus:=rv.zero
 subst hus
 obtain⟨z,its,n,r,hl,e⟩:=I.lstM hH
 refine call_meets F.slot_list_clear ⟨_,e,rfl⟩ F.entry_list_clear (F.args_list_clear_1 _) (AutoSeq1.list_clear_list_0 l its.toArray n (by rw[qo];lia)) ⟨e,?_⟩
 exact⟨.non,_,I.lset (its':=[]) (ys:=[]) hH e rfl .nil (qO _),rfl,q⟩
end
section
variable {prog:Program}{w:World}{A:Around}{E:Value->Shared->Prop}{s:Shared}
end
section
variable {X:Cx}
end
end L2
namespace Att
open PySem PySem.W PySem.Calls PyProof.Rows
def zi1 {P:Params}{h:Heap}:∀ (ns:List Int) (vs:List Value),WellAll P h vs (ns.map WData.int)->IntsAre vs ns:=by
 intro ns
 induction ns with
 |nil =>
  intro vs w
  rw[Nh]at w
  cases w
  exact .nil
 |cons n ns ih =>
  intro vs w
  rw[qJ]at w
  cases w with
  |cons a b =>
   cases a
   exact .cons _ _ (ih _ b)
def zp8 {l:OpenLaw}{n:Nat}(hn:l.most=some n){P:Params}{h:Heap}{args:List WData}{vals:List Value}
  (hpre:l.row.toRowW.claim.pre args=true) (hwl:WellAll P h vals args) :
  ∃ a vs ns,vals=[Value.ref a]/\args=[WData.list (ns.map WData.int)]/\h.get? a=some { cls:=.type "list",data:=.seq vs.toArray }/\IntsAre vs ns/\ns.length<=n:=by
 have hsh:WShape.hasAll [] args [.list .int]=true:=(pre_splitW hpre).1
 have hc:l.pre.holds [] { args:=args }=true:=(pre_splitW hpre).2
 obtain⟨d,r,rfl,h1,h2⟩:=hasAllW_cons hsh
 obtain rfl:=hasAllW_nil h2
 obtain⟨xs,rfl,h3⟩:=hasW_list h1
 obtain⟨ns,rfl⟩:=items_int h3
 have hlen:ns.length<=n:=by
  unfold OpenLaw.pre at hc
  have h4:(WTm.not (.lt (.lit (.int (n:Int))) (.len (.arg 0)))).holds [] { args:=[.list (ns.map .int)] }=true:=by
   have h4:=(holds_andW hc).1
   rw[hn]at h4
   exact h4
  have h5:=condW_of h4 (w_not (w_lt w_lit (w_len_list (w_arg rfl))))
  rw[qc]at h5
  refine Qs fun q=>?_
  have q':(n:Int)<((ns.length:Nat):Int):=by lia
  first
   |(rw[decide_eq_true q']at h5;exact absurd h5 (by decide))
   |(simp at h5;lia)
 cases hwl with
 |cons w1 w2 =>
  cases w2
  cases w1 with
  |list ho hall=>exact⟨_,_,ns,rfl,rfl,ho,zi1 ns _ hall,hlen⟩
def zpt (l:OpenLaw)(args:List WData):l.row.toRowW.claim.post args (.bool true) args=true :=
 postW_of (r:=l.row.toRowW) (X:=(true==true))
  (show WShape.has [] (.bool true) .bool=true by first|rfl|decide|simp[WShape.has,WShape.arms,WShape.armsAll])
  (show(WTm.eq .res (.lit (.bool true))).value [] { args:=args,res:=some (.bool true),after:=args }=some (.bool (true==true))from w_eq_bool (w_res rfl) w_lit) rfl
section
variable {prog:Program}{w:World}{A:Around}{E:Value->Shared->Prop}{s:Shared}{K:Frag}
end
end Att
namespace L2
open PySem PySem.Spec PyProof.Rows
theorem u5:∀ {vs:List Value} {ns:List Int},IntsAre vs ns->Vals (ns.map V.int) vs
 |_,_,.nil=>.nil
 |_,_,.cons n t h=>.cons ⟨t,rfl⟩ (u5 h)
def Only (H:Hp):Prop:=∀ b,H b=none\/∃ o xs,H b=some (.frz o (.lst xs))
def zrt {P:Program}{w:World}{K:PySem.W.Frag}{mg mb:Str->Option Value}{CX:Vp}{k:Nat}{fa a:Addr}{fd:FuncData}{x:Str}{sp:Sp}{s₁:Shared}{vs:List Value}{ns:List Int}
  (KX:K.In s₁.heap) (hns:s₁.heap.Ns mainGlobals mg) (hb:s₁.heap.Ns builtinsNs mb) (hbb:∀ x:Str,x≠"__name__"->mb x=bootBuiltins x) (hlim:s₁.heap.NoLimit) (hg:s₁.gens=#[])
  (ha:s₁.heap.get? a=some { cls:=.type "list",data:=.seq vs.toArray }) (hi:IntsAre vs ns) (hl:ns.length<=sizeLine) (hr:Zj k callerA)
  (F:∀ base:Heap,K.In base->base.Ns mainGlobals mg->zN P w K mg base CX k fa fd [x] sp) (hbind:∀ (s:Shared) (u:Value),BindsTo s fd ⟨[u],[]⟩ [(x,u)])
  (hsp:∀ H:Hp,Only H->Zq K H a (ns.map V.int)->sp [.ref a] H (fun v _=>v=.bl true) fun _ _ _=>False)
  (hCX:∀ H e s',CX [] H s₁ (fun _ _ _=>False) e s'->False) :
  codeAny (model P w) callerA (.call (.ref fa) ⟨[.ref a],[]⟩) (fun r s'=>r=.ok (.ret (.bool true))/\OldK s₁.heap s'.heap/\s'.os=s₁.os/\AllBare s'.gens) s₁:=by
 have rv:=u5 hi
 have lenV:=hi.length
 have core:∀ H:Hp,Only H->Zq K H a (ns.map V.int)->Zi P w H s₁.heap->(∀ b,H b≠none->b=a)->(H a≠none->K.lookup a=none) ->
   codeAny (model P w) callerA (.call (.ref fa) ⟨[.ref a],[]⟩) (fun r s'=>r=.ok (.ret (.bool true))/\OldK s₁.heap s'.heap/\s'.os=s₁.os/\AllBare s'.gens) s₁:=by
  intro H hO hS hok hA hK
  have base_of:∀ {b:Addr} {o:Obj},s₁.heap.get? b=some o->H b=none->(SM s₁.heap H).get? b=some o:=fun e n=>zqx e n
  have noA:∀ {b:Addr} {o:Obj} {es:Array DictEntry} {ep:Nat},s₁.heap.get? b=some o->o.data=.dict es ep->H b=none:=fun {b o es ep} e d=>by
   cases q:H b with
   |none=>rfl
   |some u =>
    have e':b=a:=hA b (by rw[q];simp)
    subst e'
    rw[ha]at e;cases e
    have d':Data.seq vs.toArray _=Data.dict es ep:=d
    cases d'
  have nsK:∀ {b:Addr} {m:Str->Option Value},s₁.heap.Ns b m->(SM s₁.heap H).Ns b m:=fun {b m} ⟨o,es,ep,e,d,r⟩=>⟨o,es,ep,base_of e (noA e d),d,r⟩
  have hKb:K.In (SM s₁.heap H):=fun b o e=>base_of (KX b o e) (by
   cases q:H b with
   |none=>rfl
   |some u =>
    have e':b=a:=hA b (by rw[q];simp)
    subst e'
    rw[hK (by rw[q];simp)]at e;cases e)
  have hM:Mod K mg (SM s₁.heap H):=⟨hKb,nsK hns,⟨mb,nsK hb,hbb⟩,let ⟨mc,h1,h2⟩:=hlim;⟨mc,nsK h1,h2⟩⟩
  have e0:QV P w K mg (SM s₁.heap H) callerA [] s₁ H:=⟨rfl,hM,fun b o e=>zsQ e,Nat.le_of_eq (zpu _ _),trivial,fun b hb=>absurd (show b∈([]:List Addr)from hb) (by simp),hok,.of_eq hg⟩
  refine codeAny_mono ((F _ hKb (nsK hns)).run callerA [] s₁ H ⟨[.ref a],[]⟩ [.ref a] [.ref a] _ _ hr e0 (hbind s₁ (.ref a)) (.cons rfl .nil) (hsp H hO hS)) fun r s' h=>?_
  cases r with
  |error e=>exact(hCX H e s' h).elim
  |ok fl =>
   cases fl with
   |next=>exact False.elim h
   |brk=>exact False.elim h
   |cont=>exact False.elim h
   |ret u =>
    obtain⟨v,H',os,bare,un,hok',r',q⟩:=h
    have q':v=.bl true:=q
    subst q'
    obtain rfl:u=Value.bool true:=r'
    refine⟨rfl,OldK.of_keep fun b o e=>?_,os,bare⟩
    cases q:H b with
    |none=>exact un.keep b o e q (by intro z;exact absurd (show b∈([]:List Addr)from z) (by simp)) (by simp)
    |some u =>
     rcases hO b with z|⟨ob,xs,z⟩
     ·rw[q]at z;cases z
     ·have z2:=un.frzs b ob _ z
      obtain⟨e1,_⟩:=hok b _ z
      obtain⟨e2,_⟩:=hok' b _ z2
      rw[e]at e1;cases e1
      exact e2
 cases hk:K.lookup a with
 |some o =>
  have e:=KX a o hk
  rw[ha]at e
  cases e
  refine core (fun _=>none) (fun _=>.inl rfl) (.inr ⟨_,vs.toArray,_,hk,rfl,rfl,rfl,by rw[qo,lenV];exact hl,by simpa using rv⟩) (fun b u z=>by have z':(none:Option HO)=some u:=z;cases z') (fun b z=>absurd rfl z) fun z=>absurd rfl z
 |none =>
  refine core (fun b=>if b=a then some (.frz { cls:=.type "list",data:=.seq vs.toArray } (.lst (ns.map V.int)))else none) (fun b=>?_) (.inl (.inr ⟨{ cls:=.type "list",data:=.seq vs.toArray },if_pos rfl⟩)) (fun b u z=>?_) (fun b z=>?_) fun _=>hk
  ·by_cases hb:b=a
   ·exact .inr ⟨_,_,if_pos hb⟩
   ·exact .inl (if_neg hb)
  ·by_cases hb:b=a
   ·have z':=(if_pos hb).symm.trans z
    cases z'
    subst hb
    exact⟨ha,by rw[qc];exact hl,vs,_,rv,ha⟩
   ·have z':=(if_neg hb).symm.trans z
    cases z'
  ·by_cases hb:b=a
   ·exact hb
   ·exact absurd (if_neg hb) z
def inClass (s:Stmt)(j:Nat):Stmt:=match s with
 |.ClassDef _ _ _ body _ _ _ _ _ _ _=>body.getD j (.Pass ⟨0,0,0,0⟩)
 |_=>.Pass ⟨0,0,0,0⟩
def Vh (s:Stmt):Arguments:=match s with
 |.FunctionDef _ a _ _ _ _ _ _ _ _=>a
 |_=>{ posonlyargs:=[],args:=[],vararg:=none,kwonlyargs:=[],kw_defaults:=[],kwarg:=none,defaults:=[] }
def Xh (s:Stmt):List Stmt:=match s with
 |.FunctionDef _ _ b _ _ _ _ _ _ _=>b
 |_=>[]
def zY (s:Stmt):Scope:=match s with
 |.FunctionDef _ _ _ _ _ _ sc _ _ _=>sc
 |_=>{ kind:=.function,names:=[],isGenerator:=false,isCoroutine:=false }
abbrev ZS:Vp:=fun _ _ _ _ _ _=>False
abbrev E0:XK:=fun _ _ _=>False
def uJ {X:Cx}:Passes ZS X E0:=fun _ _ _ _ _ _ _ h=>h.elim
structure V0 (K:PySem.W.Frag)(x qual:Str)(st:Stmt)(f:Addr)(fd:FuncData):Prop where
 ex:∃ (oc:Value) (od:Option Addr) (kV doc pm:Value) (an:Option Addr) (cdv ct:Value) (osl:Array (Option Value)),
  fd=PySem.W.fnOf x qual (Vh st) (Xh st) (zY st) .none kV doc pm an cdv ct/\K.lookup f=some ⟨oc,od,.func fd,osl⟩/\PySem.W.codeIn K cdv qual=true
 kp:PySem.W.keepIn K (.ref f)=true
section
variable {P:Program}{w:World}{K:PySem.W.Frag}{mg:Str->Option Value}{base:Heap}
def V0.ok {x qual:Str}{st:Stmt}{f:Addr}{fd:FuncData}{N ps:List Str}{k:Nat}{sp:Sp}(F:V0 K x qual st f fd)(S:RJ N ps (zY st))(len:∀ vs H Q E,sp vs H Q E->vs.length=ps.length)
  (hbody:∀ (cdv:Value) (A:Around) (outer:List Env) (s:Shared) (H:Hp) (vs:List V) (Q:VK) (E:XK),Zj k (A.deeper (envOfC qual (zY st) s.heap.objs.size f cdv))->sp vs H Q E ->
   ∃ t,W6 (Wn ZS P w K mg base N qual (zY st) f cdv A outer s H E).nox (Xh st) t/\t { nx:=fun _ H'=>Q .non H',rt:=Q } (start N vs) H):zN P w K mg base ZS (k+1) f fd ps sp:=by
 obtain⟨oc,od,kV,doc,pm,an,cdv,ct,osl,rfl,lk,hcd⟩:=F.ex
 refine oN lk hcd S len fun A outer s H vs Q E hr hsp=>?_
 obtain⟨t,h,q⟩:=hbody cdv A outer s H vs Q E hr hsp
 exact⟨t,h.nox,q⟩
def V0.binds {x qual:Str}{st:Stmt}{f:Addr}{fd:FuncData}{ps:List Str}(F:V0 K x qual st f fd)
  (h:∀ (kV doc pm:Value) (an:Option Addr) (cdv ct:Value) (us:List Value),us.length=ps.length->bindArgs (PySem.W.fnOf x qual (Vh st) (Xh st) (zY st) .none kV doc pm an cdv ct) ⟨us,[]⟩=pure (ps.zip us)):Binds K fd ps []:=by
 obtain⟨oc,od,kV,doc,pm,an,cdv,ct,osl,rfl,lk,hcd⟩:=F.ex
 exact .all (h kV doc pm an cdv ct)
def Gg {x qual:Str}{st:Stmt}{f:Addr}{oc:Value}{od an:Option Addr}{osl:Array (Option Value)}{kV doc pm cdv ct:Value}(l:K.lookup f=some ⟨oc,od,.func (PySem.W.fnOf x qual (Vh st) (Xh st) (zY st) .none kV doc pm an cdv ct),osl⟩)
  (c:PySem.W.codeIn K cdv qual=true) (k:PySem.W.keepIn K (.ref f)=true):V0 K x qual st f (PySem.W.fnOf x qual (Vh st) (Xh st) (zY st) .none kV doc pm an cdv ct):=⟨⟨oc,od,kV,doc,pm,an,cdv,ct,osl,rfl,l,c⟩,k⟩
end
def vD {A:Around}{k:Nat}(hr:Zj k A):A.units+1<cLine:=Nat.lt_of_le_of_lt (Nat.add_le_add_left (by decide:1<=64) _) hr.units
section
variable {X:Cx}
def pv (i:Nat){x:Str}{pos:Pos}(hN:X.N[i]?=some x:=by rfl)(hv:Vis X.env.scope x:=by first | exact Or.inl rfl | exact Or.inr (Or.inl rfl) | exact Or.inr (Or.inr rfl))(hd:(x==("__debug__":Str))=false:=by decide)
  (hcd:(x==("__classdict__":Str))=false:=by decide):PE X (.Name x pos) (Dh i):=yQ hN hv hd hcd
end
section
variable {κ:Type}[DecidableEq κ]
def Xb (Z6:List (κ×V))(k:κ):Option V:=(Z6.find? fun kv=>decide (kv.1=k)).map (·.2)
def putK (Z6:List (κ×V))(k:κ)(v:V):List (κ×V) :=
 if(Z6.any fun kv=>decide (kv.1=k))=true then Z6.map (fun kv=>if kv.1=k then(kv.1,v)else kv)else Z6++[(k,v)]
def Bg {k:κ}:Xb ([]:List (κ×V)) k=none:=rfl
def Ly {p:κ×V}{r:List (κ×V)}{k:κ}(e:p.1=k):Xb (p::r) k=some p.2:=by simp[Xb,List.find?_cons,e]
def K5 {p:κ×V}{r:List (κ×V)}{k:κ}(e:¬ p.1=k):Xb (p::r) k=Xb r k:=by simp[Xb,List.find?_cons,e]
theorem Jd (k:κ):∀ Z6:List (κ×V),(Z6.any fun kv=>decide (kv.1=k))=(Xb Z6 k).isSome
 |[]=>rfl
 |p::r=>by
  rw[RV]
  by_cases e:p.1=k
  ·simp only[Ly e,decide_eq_true e,Bool.true_or,Option.isSome_some]
  ·rw[K5 e,decide_eq_false e,Bool.false_or];exact Jd k r
def sU (Z6:List (κ×V))(k:κ)(v:V):(putK Z6 k v).length<=Z6.length+1:=by
 unfold putK
 split
 ·rw[qc];lia
 ·rw[qf,qR,List.length_nil];lia
def Vz.isSome_eq {o:Option V}{u:Option Value}(r:Vz o u):o.isSome=u.isSome:=by
 cases o with
 |none=>cases u with
  |none=>rfl
  |some _=>exact(show False from r).elim
 |some _=>cases u with
  |none=>exact(show False from r).elim
  |some _=>rfl
def KV.val {Z6:List (κ×V)}{vs:List (κ×Value)}(r:KV Z6 vs)(k:κ):Vz (Xb Z6 k) (valueAt vs k):=by
 unfold KV at r
 induction r with
 |nil=>exact True.intro
 |@cons p q ps qs h t ih =>
  obtain⟨h1,h2⟩:=h
  by_cases e:p.1=k
  ·have e':q.1=k:=h1.symm.trans e
   have b:valueAt (q::qs) k=some q.2:=by simp[valueAt,List.find?_cons,e']
   rw[Ly e,b];exact h2
  ·have e':¬ q.1=k:=fun z=>e (h1.trans z)
   have b:valueAt (q::qs) k=valueAt qs k:=by simp[valueAt,List.find?_cons,e']
   rw[K5 e,b];exact ih
theorem KV.any {Z6:List (κ×V)}{vs:List (κ×Value)}(r:KV Z6 vs)(k:κ):(Z6.any fun kv=>decide (kv.1=k))=vs.any fun kv=>decide (kv.1=k):=by
 unfold KV at r
 induction r with
 |nil=>rfl
 |cons h t ih=>rw[RV,RV,ih,h.1]
def KV.repl {Z6:List (κ×V)}{vs:List (κ×Value)}(r:KV Z6 vs)(k:κ){y:V}{u:Value}(ry:RelV y u) :
  KV (Z6.map fun kv=>if kv.1=k then(kv.1,y)else kv) (vs.map fun kv=>if kv.1=k then(kv.1,u)else kv):=by
 unfold KV at r ⊢
 induction r with
 |nil=>exact .nil
 |@cons p q ps qs h t ih =>
  rw[qJ,qJ]
  refine .cons ?_ ih
  obtain⟨h1,h2⟩:=h
  by_cases e:p.1=k
  ·rw[if_pos e,if_pos (h1.symm.trans e)];exact⟨h1,ry⟩
  ·rw[if_neg e,if_neg (fun z=>e (h1.trans z))];exact⟨h1,h2⟩
def KV.put {Z6:List (κ×V)}{vs:List (κ×Value)}(r:KV Z6 vs)(k:κ){y:V}{u:Value}(ry:RelV y u):KV (putK Z6 k y) (stored vs k u):=by
 unfold putK stored
 rw[r.any k]
 by_cases e:(vs.any fun kv=>decide (kv.1=k))=true
 ·rw[if_pos e,if_pos e];exact r.repl k ry
 ·rw[if_neg e,if_neg e];exact Paired.snoc r ⟨rfl,ry⟩
theorem KV.length {Z6:List (κ×V)}{vs:List (κ×Value)}(r:KV Z6 vs):Z6.length=vs.length:=Paired.length r
end
def El {P:Program}{w:World}{k:Key}{u:Value}(r:RelV (kV k) u):(V9 P w).is k u=true:=by
 cases k with
 |inl i=>obtain⟨t,e⟩:=(show ∃ t,u=Value.int i t from r);subst e;exact zmy P w i t
 |inr x=>obtain⟨t,e⟩:=(show ∃ t,u=Value.str x t from r);subst e;exact zmh P w x t
theorem rM {P:Program}{w:World}:∀ {ks:List Key} {us:List Value},Vals (ks.map kV) us->ItemsAre (V9 P w) ks us
 |[],_,r=>by rw[Nh]at r;cases r;exact .nil
 |k::ks,_,r=>by
  rw[qJ]at r
  cases r with
  |cons h t=>exact .cons (El h) (rM t)
abbrev KT (H:Hp):List (List Key×V)->List (List Key×Addr×Value)->Prop:=Paired fun p q=>p.1=q.1/\H q.2.1=some (.tup (p.1.map kV))/\RelV p.2 q.2.2
def KT.val {H:Hp}{Z6:List (List Key×V)}{xs:List (List Key×Addr×Value)}(r:KT H Z6 xs)(k:List Key):Vz (Xb Z6 k) ((atKey xs k).map (·.2)):=by
 induction r with
 |nil=>exact True.intro
 |@cons p q ps qs h t ih =>
  obtain⟨h1,_,h2⟩:=h
  by_cases e:p.1=k
  ·have e':q.1=k:=h1.symm.trans e
   have b:atKey (q::qs) k=some q.2:=by simp[atKey,List.find?_cons,e']
   rw[Ly e,b];exact h2
  ·have e':¬ q.1=k:=fun z=>e (h1.trans z)
   have b:atKey (q::qs) k=atKey qs k:=by simp[atKey,List.find?_cons,e']
   rw[K5 e,b];exact ih
def KT.repl {H:Hp}{Z6:List (List Key×V)}{xs:List (List Key×Addr×Value)}(r:KT H Z6 xs)(k:List Key){y:V}{u:Value}(ry:RelV y u) :
  KT H (Z6.map fun kv=>if kv.1=k then(kv.1,y)else kv) (xs.map (putAt k u)):=by
 induction r with
 |nil=>exact .nil
 |@cons p q ps qs h t ih =>
  rw[qJ,qJ]
  refine .cons ?_ ih
  obtain⟨h1,h2,h3⟩:=h
  unfold putAt
  by_cases e:p.1=k
  ·rw[if_pos e,if_pos (h1.symm.trans e)];exact⟨h1,h2,ry⟩
  ·rw[if_neg e,if_neg (fun z=>e (h1.trans z))];exact⟨h1,h2,h3⟩
def KT.put {H:Hp}{Z6:List (List Key×V)}{xs:List (List Key×Addr×Value)}(r:KT H Z6 xs)(k:List Key){b:Addr}{y:V}{u:Value}(hb:H b=some (.tup (k.map kV)))(ry:RelV y u) :
  KT H (putK Z6 k y) (storedH xs k b u):=by
 have e:(Z6.any fun kv=>decide (kv.1=k))=(atKey xs k).isSome:=by
  rw[Jd,(r.val k).isSome_eq,Option.isSome_map]
 unfold putK storedH
 rw[e]
 by_cases q:(atKey xs k).isSome=true
 ·rw[if_pos q,if_pos q];exact r.repl k ry
 ·rw[if_neg q,if_neg q];exact Paired.snoc r ⟨rfl,hb,ry⟩
def KT.keeps {H H':Hp}{Z6:List (List Key×V)}{xs:List (List Key×Addr×Value)}(r:KT H Z6 xs)(ht:∀ b ys,H b=some (.tup ys)->H' b=some (.tup ys)):KT H' Z6 xs :=
 Paired.mapP r fun _ _ z=>⟨z.1,ht _ _ z.2.1,z.2.2⟩
section
variable {P:Program}{w:World}{H:Hp}{h:Heap}{a:Addr}
def uZ {u:HO}(ok:Zi P w H h)(e:Rd H a u):Y5 P w H h a u:=e.ok ok
def Ed {Z6:List (Key×V)}(ok:Zi P w H h)(e:Rd H a (.dK Z6)):Z6.length<=sizeLine/\(a==sysModules)=false/\∃ vs,KV Z6 vs/\h.DictOf (V9 P w) a vs :=
 show Y5 P w H h a (.dK Z6)from uZ ok e
def zw2 {Z6:List (Key×V)}(ok:Zi P w H h)(e:H a=some (.dK Z6)):Z6.length<=sizeLine/\(a==sysModules)=false/\∃ vs,KV Z6 vs/\h.DictOf (V9 P w) a vs:=Ed ok (.inl e)
def Fd {ks:List Key}(ok:Zi P w H h)(e:H a=some (.tup (ks.map kV))):(tupleKind (V9 P w)).is h ks a:=by
 obtain⟨_,its,r,o,h1,h2,n,h3⟩:=(show Y5 P w H h a (.tup (ks.map kV))from ok a _ e)
 exact⟨o,its.toArray,n,h1,h2,h3,by simpa using rM r⟩
def Ds {Z6:List (List Key×V)}(ok:Zi P w H h)(e:Rd H a (.dT Z6)):Z6.length<=sizeLine/\(a==sysModules)=false /\
  ∃ xs,KT H Z6 xs/\h.DictOfH (tupleKind (V9 P w)) a xs:=by
 obtain⟨z,y,xs,r,o,es,ep,h1,h2,h3,h4,h5⟩:=(show Y5 P w H h a (.dT Z6)from uZ ok e)
 refine⟨z,y,xs,r,o,es,ep,h1,h2,h3,h4,fun x hx=>?_,h5⟩
 have all:∀ {l:List (List Key×V)} {m:List (List Key×Addr×Value)},KT H l m->∀ x∈m,(tupleKind (V9 P w)).is h x.1 x.2.1:=by
  intro l m q
  induction q with
  |nil=>intro x hx;exact nomatch hx
  |@cons p q ps qs hq t ih =>
   intro x hx
   rcases qh.mp hx with e|hx
   ·subst e
    exact Fd ok (by rw[<- hq.1];exact hq.2.1)
   ·exact ih x hx
 exact all r x hx
def zxo {Z6:List (List Key×V)}(ok:Zi P w H h)(e:H a=some (.dT Z6)):Z6.length<=sizeLine/\(a==sysModules)=false /\
  ∃ xs,KT H Z6 xs/\h.DictOfH (tupleKind (V9 P w)) a xs:=Ds ok (.inl e)
end
def Uq (H:Hp)(a:Addr)(y:V)(r:Option V):Prop :=
 (∃ Z6 k,Rd H a (.dK Z6)/\y=kV k/\r=Xb Z6 k)\/∃ Z6 k b,Rd H a (.dT Z6)/\y=.ref b/\H b=some (.tup (k.map kV))/\r=Xb Z6 k
def R8 (H:Hp)(a:Addr)(y v:V)(H':Hp):Prop :=
 (∃ Z6 k,H a=some (.dK Z6)/\y=kV k/\Z6.length<sizeLine/\H'=upd H a (.dK (putK Z6 k v))) \/
 ∃ Z6 k b,H a=some (.dT Z6)/\y=.ref b/\H b=some (.tup (k.map kV))/\Z6.length<sizeLine/\H'=upd H a (.dT (putK Z6 k v))
theorem Uq.k {H:Hp}{a:Addr}{Z6:List (Key×V)}{k:Key}(e:H a=some (.dK Z6)):Uq H a (kV k) (Xb Z6 k):=.inl ⟨Z6,k,.inl e,rfl,rfl⟩
def Uq.t {H:Hp}{a b:Addr}{Z6:List (List Key×V)}{k:List Key}(e:H a=some (.dT Z6))(eb:H b=some (.tup (k.map kV))):Uq H a (.ref b) (Xb Z6 k):=.inr ⟨Z6,k,b,.inl e,rfl,eb,rfl⟩
theorem R8.k {H:Hp}{a:Addr}{Z6:List (Key×V)}{k:Key}{v:V}(e:H a=some (.dK Z6))(hl:Z6.length<sizeLine):R8 H a (kV k) v (upd H a (.dK (putK Z6 k v))):=.inl ⟨Z6,k,e,rfl,hl,rfl⟩
def R8.t {H:Hp}{a b:Addr}{Z6:List (List Key×V)}{k:List Key}{v:V}(e:H a=some (.dT Z6))(eb:H b=some (.tup (k.map kV)))(hl:Z6.length<sizeLine) :
  R8 H a (.ref b) v (upd H a (.dT (putK Z6 k v))):=.inr ⟨Z6,k,b,e,rfl,eb,hl,rfl⟩
section
variable {X:Cx}{Z9:List (Addr×Obj)}{U:St}{H:Hp}{s:Shared}{a:Addr}{y v:V}{u r:Value}{o:Option V}{A:Around}{E:Value->Shared->Prop}
def Inv.big (I:Inv X Z9 U H s):sysModules<s.heap.objs.size:=by
 have h:mainGlobals<s.heap.objs.size:=(I.mod.glob.keeps I.bk).lt
 exact Nat.lt_trans (by decide) h
def zoD {Q:Value->Shared->Prop}(hu:A.units+1<cLine)(I:Inv X Z9 U H s)(g:Uq H a y (some v))(ry:RelV y u)(h:∀ w' s',Inv X Z9 U H s'->RelV v w'->Q w' s') :
  wpAny (model X.prog X.w) A (getItem (.ref a) u) Q E s:=by
 rcases g with⟨Z6,k,e,ey,l⟩|⟨Z6,k,b,e,ey,eb,l⟩
 ·subst ey
  obtain⟨z,hd,vs,rel,dd⟩:=Ed I.hok e
  obtain⟨w',hw,rw'⟩:=Vz.some_of (v:=v) (o:=valueAt vs k) (by rw[l];exact rel.val k)
  exact wpAny_getItem_of (El ry) dd.mapOf hw (h w' _ (I.tok _) rw')
 ·subst ey
  cases(show u=Value.ref b from ry)
  obtain⟨z,hd,xs,rel,dd⟩:=Ds I.hok e
  obtain⟨w',hw,rw'⟩:=Vz.some_of (v:=v) (o:=(atKey xs k).map (·.2)) (by rw[l];exact rel.val k)
  obtain⟨p,hp,hp2⟩:=Option.map_eq_some_iff.mp hw
  refine wpAny_getItem_heap (tupleKind_room_in1 hu) (Fd I.hok eb) dd hp ?_
  rw[hp2]
  exact h w' _ (I.tok _) rw'
def oA {h':Heap}{t':Nat}{ob:HO}(I:Inv X Z9 U H s)(mu:Ks (H a))(hs:Heap.SameBut a s.heap h')(he:∃ q,h'.get? a=some q)(new:Y5 X.prog X.w (upd H a ob) h' a ob) :
  Inv X Z9 U (upd H a ob) { s with heap:=h',toks:=t' } :=
 I.write (x:=a) (e:=a) mu (.inl rfl) (fun b q hb z=>(hs.2 b hb).trans z) he new
def iw {P:Program}{w:World}{H':Hp}{h':Heap}{Z6:List (Key×V)}{vs:List (Key×Value)}(z:Z6.length<=sizeLine)(hd:(a==sysModules)=false)(rel:KV Z6 vs)(dd:h'.DictOf (V9 P w) a vs) :
  Y5 P w H' h' a (.dK Z6):=⟨z,hd,vs,rel,dd⟩
def zqd {H':Hp}{Q:Unit->Shared->Prop}(hu:A.units+1<cLine)(I:Inv X Z9 U H s)(g:R8 H a y v H')(ry:RelV y u)(rv:RelV v r)(h:∀ s',Inv X Z9 U H' s'->Q () s') :
  wpAny (model X.prog X.w) A (setItem (.ref a) u r) Q E s:=by
 rcases g with⟨Z6,k,e,ey,l,eH⟩|⟨Z6,k,b,e,ey,eb,l,eH⟩
 ·subst ey eH
  obtain⟨z,hd,vs,rel,dd⟩:=zw2 I.hok e
  have hz:vs.length<=sizeLine:=by rw[<- rel.length];exact z
  have hl:(putK Z6 k v).length<=sizeLine:=by have:=sU Z6 k v;lia
  refine wpAny_setItem_pairs (hsz:=hz) (El ry) dd fun h' dd' hs=>h _ ?_
  have he:∃ q,h'.get? a=some q:=let ⟨q,_,_,hq,_⟩:=dd';⟨q,hq⟩
  exact oA I (by rw[e];exact True.intro) hs he (iw hl hd (rel.put k rv) dd')
 ·subst ey eH
  cases(show u=Value.ref b from ry)
  obtain⟨z,hd,xs,rel,dd⟩:=zxo I.hok e
  have hz:xs.length<=sizeLine:=by rw[<- Paired.length rel];exact z
  have hl:(putK Z6 k v).length<=sizeLine:=by have:=sU Z6 k v;lia
  refine wpAny_setItem_heap (hsz:=hz) (tupleKind_room_in1 hu) (Fd I.hok eb) dd fun h' dd' hs=>h _ ?_
  obtain⟨q,es,ep,hq,h2,h3,h4,_,h5⟩:=dd'
  refine oA I (by rw[e];exact True.intro) hs ⟨q,hq⟩ ⟨hl,hd,_,(rel.put k eb rv).keeps fun c ys ec=>?_,q,es,ep,hq,h2,h3,h4,h5⟩
  rw[zO (Tf ec e (fun z=>nomatch z))]
  exact ec
end
section
variable {X:Cx}{Z9:List (Addr×Obj)}{U:St}{H:Hp}{s:Shared}{a:Addr}{Z6:List (Key×V)}{k:Key}{u:Value}{A:Around}{E:Value->Shared->Prop}
end
def Bx (i:Expr):Prop:=∀ ov iv,subscripted i false ov iv=operate [ov,iv] (getItem ov iv)
def fV {prog:Program}{w:World}{A:Around}{E:Value->Shared->Prop}{s:Shared}{env:Env}{value slice:Expr}{pos:Pos}{T id:String}{Q:Value->Shared->Prop}
  (hl:typeLookup (.type T) "__getitem__"=pure (some (.builtin id))) (hs:Bx slice)
  (h:wpAny (model prog w) A (eval value env) (fun o s₁=>wpAny (model prog w) A (eval slice env) (fun i s₂=>s₂.TypeIs o T/\wpAny (model prog w) A (getItem o i) Q E s₂) E s₁) E s) :
  wpAny (model prog w) A (eval (.Subscript value slice pos) env) Q E s:=by
 refine Subscript_ (wpAny_mono h (fun o s₁ h₁=>wpAny_mono h₁ (fun i s₂ h₂=>?_) fun _ _ x=>x) fun _ _ x=>x)
 obtain⟨hT,h₂⟩:=h₂
 unfold subscriptTail
 refine wpAny_bind ?_
 rw[getitemInPython_of_ne hT.not_modules]
 refine wpAny_bind (wpAny_specialOf hT hl ?_)
 have fin:wpAny (model prog w) A (subscripted slice false o i) (fun r s₃=>wpAny (model prog w) A (letTemporaryGo value o r >>= fun _=>pure r) Q E s₃) E s₂:=by
  rw[hs o i]
  exact wpAny_operating (wpAny_mono h₂ (fun r s₃ h₃=>wpAny_bind (wpAny_letTemporaryGo (wpAny_pure h₃))) fun _ _ x=>x)
 first
  |exact wpAny_pure (wpAny_bind fin)
  |exact wpAny_bind (wpAny_pure (wpAny_bind fin))
  |exact wpAny_bind fin
def zmi {X:Cx}{Z9:List (Addr×Obj)}{U:St}{H:Hp}{s:Shared}{a:Addr}{y:V}{o:Option V}(I:Inv X Z9 U H s)(g:Uq H a y o):s.TypeIs (.ref a) "dict":=by
 rcases g with⟨Z6,k,e,_,_⟩|⟨Z6,k,b,e,_,_,_⟩
 ·obtain⟨_,_,vs,_,dd⟩:=Ed I.hok e
  exact dd.typeIs
 ·obtain⟨_,_,xs,_,dd⟩:=Ds I.hok e
  exact dd.typeIs
def zxP (td ty:TE):TE:=fun U H Q=>td U H fun x H1=>ty U H1 fun y H2=>∃ a v,x=.ref a/\Uq H2 a y (some v)/\Q v H2
def iz (td ty tv:TE):TS:=fun D U H=>tv U H fun v H1=>td U H1 fun x H2=>ty U H2 fun y H3=>∃ a H4,x=.ref a/\R8 H3 a y v H4/\D.nx U H4
section
variable {X:Cx}{o i e value:Expr}{pos pos' tpos:Pos}{td ty tv:TE}
def ztW (hu:X.A.units+1<cLine)(ho:PE X o td)(hi:PE X i ty)(hs:Bx i):PE X (.Subscript o i pos) (zxP td ty):=by
 intro Z9 s U H Q I h
 refine fV PySem.F.slot_dict_getitem.lookup hs (Z0 (ho Z9 s U H _ I h) fun u s1 ⟨x,H1,I1,rx,q1⟩=>Z0 (hi Z9 s1 U H1 _ I1 q1) fun iv s2 ⟨y,H2,I2,ry,a,v,ex,g,q2⟩=>?_)
 subst ex
 obtain rfl:u=Value.ref a:=rx
 exact⟨zmi I2 g,zoD hu I2 g ry fun w' s3 I3 rw'=>⟨v,H2,I3,rw',q2⟩⟩
def ztq (hu:X.A.units+1<cLine)(ho:PE X o td)(hi:PE X i ty)(hv:PE X value tv)(hs:swapsWith value (some (.Subscript o i pos')) pos.line X.env=pure false) :
  PS X (.Assign [.Subscript o i pos'] value pos) (iz td ty tv):=by
 intro Z9 s U H D I h
 refine wpAny_Assign_Subscript (Z0 (hv Z9 s U H _ I h) fun r s1 ⟨v,H1,I1,rv,q1⟩=>Z0 (ho Z9 s1 U H1 _ I1 q1) fun u s2 ⟨x,H2,I2,rx,q2⟩=>Z0 (hi Z9 s2 U H2 _ I2 q2) fun iv s3 ⟨y,H3,I3,ry,a,H4,ex,g,q3⟩=>?_) hs
 subst ex
 obtain rfl:u=Value.ref a:=rx
 exact zqd hu I3 g ry rv fun s4 I4=>⟨U,H4,I4,q3⟩
end
def gH {P:Program}{w:World}{H:Hp}(h:Heap)(hb:sysModules<h.objs.size):Y5 P w H (h.push { cls:=.type "dict",data:=.dict #[] }) h.objs.size (.dK []) :=
 ⟨qO _,beq_eq_false_iff_ne.mpr (Ne.symm (qL hb)),[],.nil,Heap.DictOf.new h⟩
def zqO {P:Program}{w:World}{H:Hp}(h:Heap)(hb:sysModules<h.objs.size):Y5 P w H (h.push { cls:=.type "dict",data:=.dict #[] }) h.objs.size (.dT []) :=
 ⟨qO _,beq_eq_false_iff_ne.mpr (Ne.symm (qL hb)),[],.nil,_,#[],0,qq _ rfl,⟨rfl,rfl,rfl⟩,rfl,rfl,List.nodup_nil⟩
def zve:TE:=fun _ H Q=>∀ p,H p=none->Q (.ref p) (upd H p (.dK []))
def zuG:TE:=fun _ H Q=>∀ p,H p=none->Q (.ref p) (upd H p (.dT []))
section
variable {X:Cx}{pos:Pos}
def zri:PE X (.Dict [] [] pos) zve:=fun Z9 s U H Q I h =>
 wpAny_Dict_empty ⟨.ref s.heap.objs.size,_,I.laid (a:=s.heap.objs.size) (o:=.dK []) (t':=s.toks) (fun _ _ q=>qd _ q) (qg _) (gH s.heap I.big),rfl,h _ (I.hok.fresh (qg _))⟩
def fH:PE X (.Dict [] [] pos) zuG:=fun Z9 s U H Q I h =>
 wpAny_Dict_empty ⟨.ref s.heap.objs.size,_,I.laid (a:=s.heap.objs.size) (o:=.dT []) (t':=s.toks) (fun _ _ q=>qd _ q) (qg _) (zqO s.heap I.big),rfl,h _ (I.hok.fresh (qg _))⟩
end
section
variable {X:Cx}{Z9:List (Addr×Obj)}{U:St}{H:Hp}{s:Shared}{a:Addr}{y d:V}{u r:Value}{o:Option V}{A:Around}{E:Value->Shared->Prop}
end
section
variable {X:Cx}{o e f:Expr}{apos cpos:Pos}{td ty tx:TE}
end
section
variable {X:Cx}{Z9:List (Addr×Obj)}{U:St}{H:Hp}{s:Shared}{a:Addr}{Z6:List (Key×V)}{A:Around}{E:Value->Shared->Prop}
end
section
variable {X:Cx}{Z9:List (Addr×Obj)}{U:St}{H:Hp}{s:Shared}{a:Addr}{y:V}{u:Value}{A:Around}{E:Value->Shared->Prop}
end
end L2
namespace My
def Bd (n:Nat)(x:Int):Prop:=x.natAbs<2 ^ n
def Bd.mono {m n:Nat}{x:Int}(h:Bd m x)(hmn:m<=n):Bd n x:=qD h (Nat.pow_le_pow_right (by decide) hmn)
def Bd.add {n:Nat}{x y:Int}(h:Bd n x)(h':Bd n y):Bd (n+1) (x+y):=by
 unfold Bd at *;rw[Nat.pow_succ];lia
def Bd.sub {n:Nat}{x y:Int}(h:Bd n x)(h':Bd n y):Bd (n+1) (x-y):=by
 unfold Bd at *;rw[Nat.pow_succ];lia
def Bd.neg {n:Nat}{x:Int}(h:Bd n x):Bd n (-x):=by unfold Bd at *;lia
def Bd.mul {m n:Nat}{x y:Int}(h:Bd m x)(h':Bd n y):Bd (m+n) (x*y):=by
 unfold Bd at *;rw[Int.natAbs_mul,Nat.pow_add];exact Nat.mul_lt_mul'' h h'
def Bd.of_le {n:Nat}{x y:Int}(h:Bd n y)(h':x.natAbs<=y.natAbs):Bd n x:=Nat.lt_of_le_of_lt h' h
def Bd.dvd {n:Nat}{x y:Int}(h:Bd n y)(h0:y≠0)(d:x ∣ y):Bd n x :=
 h.of_le (Nat.le_of_dvd (by lia) (Int.natAbs_dvd_natAbs.mpr d))
theorem Bd.fdiv {n:Nat}{x y:Int}(h:Bd n x):Bd n (x.fdiv y):=h.of_le (Int.natAbs_fdiv_le_natAbs x y)
def Bd.lit {n:Nat}{x:Int}(h:x.natAbs<2 ^ 200)(hn:200<=n):Bd n x:=Bd.mono (m:=200) h hn
def zrd (a b:Int):Int.gcd b (a.fmod b)=Int.gcd a b:=by
 have e:a.fmod b=a-b*a.fdiv b:=by have:=Int.mul_fdiv_add_fmod a b;lia
 rw[e,Int.gcd_sub_mul_left_right,Int.gcd_comm]
def zmm {a b:Int}(h:b≠0):(a.fmod b).natAbs<b.natAbs:=by
 rcases Int.lt_or_gt_of_ne h with h1|h1
 ·have e:(-(-a)).fmod (-(-b))=-((-a).fmod (-b)):=Int.neg_fmod_neg (-a) (-b)
  rw[QM,QM]at e
  have h2:=Int.fmod_nonneg_of_pos (-a) (b:=-b) (by lia)
  have h3:=Int.fmod_lt_of_pos (-a) (b:=-b) (by lia)
  lia
 ·have:=Int.fmod_nonneg_of_pos a h1
  have:=Int.fmod_lt_of_pos a h1
  lia
def gd (t b:Int):Int:=if b<0 then -((Int.gcd t b:Nat):Int)else((Int.gcd t b:Nat):Int)
def Uh (t b:Int):Int:=t.fdiv (gd t b)
def frB (t b:Int):Int:=b.fdiv (gd t b)
def yJ {t b:Int}(h:b≠0):gd t b≠0:=by
  have:Int.gcd t b≠0:=fun e=>h (Int.gcd_eq_zero_iff.mp e).2
  unfold gd;split<;>lia
def jx (t b:Int):gd t b ∣ t:=by
 unfold gd;split
 ·exact Int.neg_dvd.mpr (Int.gcd_dvd_left ..)
 ·exact Int.gcd_dvd_left ..
def tM (t b:Int):gd t b ∣ b:=by
 unfold gd;split
 ·exact Int.neg_dvd.mpr (Int.gcd_dvd_right ..)
 ·exact Int.gcd_dvd_right ..
def vW (t b:Int):Uh t b*gd t b=t:=Int.fdiv_mul_cancel (jx t b)
def Dc (t b:Int):frB t b*gd t b=b:=Int.fdiv_mul_cancel (tM t b)
def zrk (t b:Int):Uh t b*b=frB t b*t:=by
 have h1:=vW t b
 have h2:=Dc t b
 generalize Uh t b=x at *
 generalize frB t b=y at *
 generalize gd t b=g at *
 subst h1 h2
 rw[Vq y g,<- Int.mul_assoc,Vq (x*g) y]
def zt5 {t b:Int}(h:b≠0):1<=frB t b:=by
  have h2:=Dc t b
  have h3:gd t b≠0:=yJ h
  have h4:0<b->0<gd t b:=by
    intro hb;unfold gd at *;split<;>lia
  have h5:b<0->gd t b<0:=by
    intro hb;unfold gd at *;split<;>lia
  generalize frB t b=y at *
  generalize gd t b=g at *
  rcases Int.lt_or_gt_of_ne h with hb|hb
  . have hg:=h5 hb
    rcases Qj y 1 with hy|hy
    . have:0<=y*g:=Int.mul_nonneg_of_nonpos_of_nonpos (by lia) (by lia)
      lia
    . exact hy
  . have hg:=h4 hb
    rcases Qj y 1 with hy|hy
    . have:y*g<=0:=Int.mul_nonpos_of_nonpos_of_nonneg (by lia) (by lia)
      lia
    . exact hy
def iB {t b:Int}(h:b≠0):Int.gcd (Uh t b) (frB t b)=1:=by
  have h0:0<Int.gcd t b:=Nat.pos_of_ne_zero fun e=>h (Int.gcd_eq_zero_iff.mp e).2
  have h1:=vW t b
  have h2:=Dc t b
  have e:Int.gcd (Uh t b*gd t b) (frB t b*gd t b)=Int.gcd (Uh t b) (frB t b)*(gd t b).natAbs:=Int.gcd_mul_right ..
  rw[h1,h2]at e
  have e2:(gd t b).natAbs=Int.gcd t b:=by unfold gd;split<;>lia
  rw[e2]at e
  exact Nat.eq_of_mul_eq_mul_right h0 (by lia)
def zx6 {n:Nat}{t b:Int}(h:b≠0)(hb:Bd n b):Bd n (gd t b):=hb.dvd h (tM t b)
def kY {n:Nat}{t b:Int}(hb:Bd n b):Bd n (frB t b):=hb.fdiv
def zuz {n:Nat}{t b:Int}(hb:Bd n t):Bd n (Uh t b):=hb.fdiv
open PySem PySem.Spec PyProof.Rows L2
def zx2 (_ j:Int):Prop:=j≠0/\Bd 8000 j
def zyo (_ j:Int):Prop:=j≠0
def p7 {j:Int}(h:Bd 8000 j):j.natAbs.log2<9000:=by
 rcases KJ j.natAbs with e|e
 ·rw[e];decide
 ·have:j.natAbs.log2<8000:=(Nat.log2_lt (Vn e)).mpr h
  lia
def xU {j:Int}(h:Bd 8000 j):Builtin.Int.intBits j<=2 ^ 20:=by
 unfold Builtin.Int.intBits
 split
 ·exact qO _
 ·have:=p7 h
  lia
section
variable {X:Cx}
def zqV:Zh X (binaryOp .FloorDiv) (rI zx2 fun i j=>.int (i.fdiv j)):=Ma fun _ _ _ _ _ _ _ hc q=>floordiv_int hc.1 q (.inl (PyProof.noPylong_of_log2 (p7 hc.2)))
def zs5:Zh X (binaryOp .Mod) (rI zyo fun i j=>.int (i.fmod j)):=zs0
def rB0 (g:Bool->Bool->V):R2:=fun x y H Q=>∃ i j,x=.bl i/\y=.bl j/\Q (g i j) H
def j8 {i j:Int}{a b:Nat}{p1 p2 pos:Pos}(c:Int)(h:i ^ j.toNat=c)(h0:0<=j/\j<=1000000/\i.natAbs<2 ^ 64):PE X (.BinOp (.Constant (.int i) a p1) .Pow (.Constant (.int j) b p2) pos) (tC (.int c)):=by
 intro Z9 s U H Q I q
 have q':Q (.int c) H:=q
 rw[<- h]at q'
 exact pN zvn Ci Ci Z9 s U H Q I ⟨i,j,rfl,rfl,h0,q'⟩
def zy6:List V->Hp->VK->Prop:=fun xs H Q=>∃ i,xs=[.int i]/\Q (.int (i.natAbs:Int)) H
def zpY:YQ X (.builtin "abs") zy6:=fun Z9 s U H xs us Q I r h=>by
  obtain⟨i,e,q⟩:=h
  refine zr2 Z9 s U H xs us Q I r ⟨i,e,?_⟩
  have:(if i<0 then -i else i)=(i.natAbs:Int):=by split<;>lia
  rw[this];exact q
def zyu (K:PySem.W.Frag):List V->Hp->VK->Prop:=fun xs H Q=>∃ p ys,xs=[.ref p]/\(Zq K H p ys\/ZL K H p ys)/\Q (.int ys.length) H
def zqf:YQ X (.builtin "len") (zyu X.K):=zkY
def lu (K:PySem.W.Frag):List V->Hp->VK->Prop:=fun xs H Q=>∃ p ys,xs=[.ref p]/\(Zq K H p ys\/ZL K H p ys)/\∀ l,H l=none->Q (.ref l) (upd H l (.lst ys))
def zol:YQ X (.type "list") (lu X.K):=zlJ
def zyO:List V->Hp->VK->Prop:=fun xs H Q=>∃ i j,xs=[.int i,.int j]/\Q (.int (if j > i then j else i)) H
def zpw (hc:X.calm=true):YQ X (.builtin "max") zyO:=jL hc
def zyM:List V->Hp->VK->Prop:=fun xs H Q=>∃ i j,xs=[.int i,.int j]/\Q (.int (if j<i then j else i)) H
def zo6 (hc:X.calm=true):YQ X (.builtin "min") zyM:=zpB hc
def zx4 {x:Str}{T:String}{pos:Pos}(hg:Gl X x)(hm:X.mg x=none)(hv:bootBuiltins x=some (.type T))(hn:x≠"__name__":=by decide)(hd:(x==("__debug__":Str))=false:=by decide):PE X (.Name x pos) (tC (.ty T)):=zti (v:=.ty T) hg hm hv rfl hn hd
def ig (K:PySem.W.Frag):List V->Hp->VK->Prop:=fun xs H Q=>∃ x c t b,xs=[x,.ty c]/\VG K H x t/\PySem.W.kitOne K t (.type c)=some b/\Q (.bl b) H
def zrP:YQ X (.builtin "isinstance") (ig X.K):=fun Z9 s U H xs us Q I r h=>by
 obtain⟨x,c,t,b,rfl,ty,e,q⟩:=h
 obtain⟨u,w',rfl,ru,rw'⟩:=vals2 r
 cases rw'
 exact zpA I ru ty e fun tk=>⟨.bl b,H,I.tok _,rfl,q⟩
end
section
variable {X:Cx}{K:PySem.W.Frag}
end
structure Got (P:Program)(w:World)(K:PySem.W.Frag)(mg:Str->Option Value)(base:Heap)(k:Nat)(x:Str)(ps:List Str)(sp:Sp):Prop where
 ex:∃ f fd,zN P w K mg base ZS k f fd ps sp/\Binds K fd ps []/\PySem.W.keepIn K (.ref f)=true/\mg x=some (.ref f)
def zvf {X:Cx}{k j:Nat}{x:Str}{ps:List Str}{sp:Sp}{p pos:Pos}{e:Expr}{es:List Expr}{t:TA}(G:Got X.prog X.w X.K X.mg X.base k x ps sp)(hr:Zj j X.A)(hk:k<=j)(hg:Gl X x)
  (ha:PA X (e::es) t) (hdb:(x==("__debug__":Str))=false:=by decide) (he:starEach (e::es) X.env=(false,eval e X.env)::starEach es X.env:=by rfl) (hpl:(backTo pos (starEach es X.env)).any (·.1)=false:=by rfl) :
  PE X (.Call (.Name x p) (e::es) [] pos) (Dr sp [] E0 t):=by
 intro Z9 s U H Q I h
 obtain⟨f,fd,F,b,kp,m⟩:=G.ex
 exact zup (F.mono hk) hr hg m kp b .nil uJ ha hdb he hpl Z9 s U H Q I h
section
variable {nx:L2.St->Hp->Prop}{rt:VK}{bk ct:L2.St->Hp->Prop}{U:L2.St}{H:Hp}{K:PySem.W.Frag}
end
section
variable {U:L2.St}{H:Hp}{K:PySem.W.Frag}
def lg:R2:=fun x y H Q=>y=.non/\Q (.bl (!decide (x=.non))) H
def zvW {X:Cx}:Zh X (compareOp .IsNot) lg:=zto
end
def Um {H:Hp}{p b:Addr}{o u:HO}(hp:H p=none)(h:H b=some u):upd H p o b=some u:=by
 rw[zO (SX h hp)];exact h
theorem zmu {prog:Program}{w:World}{A:Around}{R:Result->Shared->Prop}{s:Shared}{elt target iter:Expr}{ifs:List Expr}{scope:Scope}{pos:Pos}{it acc:Value}{env:Env}(I:Nat->Shared->Prop)
  (turn:∀ n s,I n s->wpAny (model prog w) A (pyNext it) (fun r s₁=>match r with
   |none=>R (.ok .next) s₁
   |some v=>wpAny (model prog w) A (letOwnedTupleGo target it v) (fun _ s₁'=>wpAny (model prog w) A (assign target env v) (fun _ s₂ =>
     wpAny (model prog w) A (forIn ifs true fun c r=>if r=true then do let ok <- isTrue c env (eval c env);pure (ForInStep.yield ok)else pure (ForInStep.yield r)) (fun ok s₃ =>
      if ok=true then wpAny (model prog w) A (eval elt env) (fun x s₄ =>
       wpAny (model prog w) A (call (.builtin "list.append") [acc,x]) (fun _ s₅=>∃ m,m<n/\I m s₅) (fun _ _=>False) s₄) (fun _ _=>False) s₃
      else ∃ m,m<n/\I m s₃) (fun _ _=>False) s₂) (fun _ _=>False) s₁') (fun _ _=>False) s₁) (fun _ _=>False) s)
  (n:Nat) (h:I n s):codeAny (model prog w) A (.compLoop (.ListComp elt [⟨target,iter,ifs,0⟩] scope pos) 0 it acc env) R s:=by
 refine codeAny_loop rfl I (fun n s hI=>?_) n h
 show wpAny _ A ((compTurn (.ListComp elt [⟨target,iter,ifs,0⟩] scope pos) 0 it acc env).onRaise (fun x=>do noteFrame x env;theTreesLotGoes x)) _ _ s
 refine wpAny_noted ?_
 rw[compTurn_list]
 refine wpAny_bind (wpAny_standAt (wpAny_bind (wpAny_mono (turn n s hI) (fun r s₁ h₁=>?_) fun _ _ h'=>h'.elim)))
 cases r with
 |none=>exact wpAny_pure h₁
 |some v =>
  refine wpAny_bind (wpAny_mono h₁ (fun _ s₁' h₁'=>?_) fun _ _ h'=>h'.elim)
  refine wpAny_bind (wpAny_mono h₁' (fun _ s₂ h₂=>wpAny_bind (wpAny_mono h₂ (fun ok s₃ h₃=>?_) fun _ _ h'=>h'.elim)) fun _ _ h'=>h'.elim)
  cases ok with
  |false=>exact wpAny_pure ⟨rfl,h₃⟩
  |true =>
   exact wpAny_bind (wpAny_bind (wpAny_mono h₃ (fun x s₄ h₄=>wpAny_bind (wpAny_mono h₄ (fun _ s₅ h₅=>wpAny_pure (wpAny_pure ⟨rfl,h₅⟩)) fun _ _ h'=>h'.elim)) fun _ _ h'=>h'.elim))
def inner (X:Cx)(sc:Scope)(N:List Str)(cl:List (Str×Addr))(C:Addr)(s₀:Shared)(H₀:Hp)(ex:List Addr):Cx :=
  { X with N:=N,s₀:=s₀,H₀:=H₀,env:=compEnvC sc cl C X.env,outer:=X.stack,ex:=ex,fn:=fun x=>sc.names.lookup x==some .cell,pn:=[] }
def Qi (X:Cx)(ifs:List Expr)(t:TT):Prop :=
 ∀ (Z9:List (Addr×Obj)) (s:Shared) (U:L2.St) (H:Hp) (Q:Bool->Hp->Prop),Inv X Z9 U H s->t U H Q ->
  wpAny (model X.prog X.w) X.A (forIn ifs true fun c r=>if r=true then do let ok <- isTrue c X.env (eval c X.env);pure (ForInStep.yield ok)else pure (ForInStep.yield r)) (TP X Z9 U Q) X.xe s
def zxh:TT:=fun _ H Q=>Q true H
def zvI {X:Cx}:Qi X [] zxh:=fun _ _ _ H _ I h=>wpAny_tests_nil ⟨H,I,h⟩
def zuU {X:Cx}{c:Expr}{t:TT}(h:PT X c t):Qi X [c] t:=fun Z9 s U H Q I q=>wpAny_tests_one (h Z9 s U H Q I q)
def Ru (X:Cx)(sc:Scope):List Str->List Nat->Prop
 |[],[]=>True
 |x::xs,j::js=>X.N[j]?=some x/\sc.names.lookup x=some .free/\X.env.kindOf x=some .cell/\Ru X sc xs js
 |_,_=>False
def Ur (P:Str->Prop):List (Str×NameKind)->Prop
 |[]=>True
 |(n,.free)::r=>P n/\Ur P r
 |_::r=>Ur P r
theorem Ur.of {P:Str->Prop}:∀ {l:List (Str×NameKind)},Ur P l->∀ y∈l,y.2=.free->P y.1
  |(n,k)::r,h,y,hy,e=>by
    rcases qh.mp hy with rfl|hy
    . dsimp only at e;subst e;exact h.1
    . refine Ur.of (l:=r) ?_ y hy e
      cases k<;>first|exact h.2|exact h
def cst (own:List Str)(fv:List Nat)(U:L2.St):L2.St:=List.replicate own.length none++fv.map fun j=>(U[j]?).join
def W0:L2.St->L2.St->Prop
 |[],[]=>True
 |none::r,_::s=>W0 r s
 |some v::r,some w::s=>v=w/\W0 r s
 |_,_=>False
theorem W0.len:∀ {a b:L2.St},W0 a b->b.length=a.length
  |[],[],_=>rfl
  |none::r,_::s,h=>congrArg (· + 1) (W0.len (a:=r) (b:=s) h)
  |some v::r,some w::s,h=>congrArg (· + 1) (W0.len (a:=r) (b:=s) h.2)
theorem W0.get:∀ {a b:L2.St},W0 a b->∀ (i:Nat) (v:V),a[i]?=some (some v)->b[i]?=some (some v)
 |none::r,_::s,h,i,v,e=>by
  cases i with
  |zero=>simp at e
  |succ i=>simpa using W0.get (a:=r) (b:=s) h i v (by simpa using e)
 |some v'::r,some w::s,h,i,v,e=>by
  cases i with
  |zero=>simp at e;subst e;simp[h.1]
  |succ i=>simpa using W0.get (a:=r) (b:=s) h.2 i v (by simpa using e)
def DX (own:List Str)(fv:List Nat)(wi:TI)(g:TG)(tc:TT)(te:TE):TE:=fun U H Q=>wi U H fun J H1=>∀ p,H1 p=none ->
 ∃ W:Nat->Nat->Hp->Prop,(∃ m,W 0 m (upd H1 p (.lst [])))/\∀ i m H2,W i m H2 ->
  (J.stop i H2/\Q (.ref p) H2)\/(J.go i H2/\∀ x H',J.yld i H2 x H'->g x (cst own fv U) H' fun σ2 H3=>W0 (cst own fv U) σ2/\tc σ2 H3 fun b H4 =>
   if b=true then te σ2 H4 fun y H5=>∃ ys,H5 p=some (.lst ys)/\ys.length<sizeLine/\∃ m',m'<m/\W (i+1) m' (upd H5 p (.lst (ys++[y])))
   else ∃ m',m'<m/\W (i+1) m' H4)
def zmx {env:Env}{n:Str}{c:Addr}(h:env.cells.lookup n=some c):cellOf env n=pure c:=by
 unfold cellOf;rw[h]
theorem Eh {env:Env}:∀ (names:List (Str×NameKind)) (cs:List (Str×Addr)),(∀ y∈names,y.2=.free->∃ c,env.cells.lookup y.1=some c)->(∀ x c,cs.lookup x=some c->env.cells.lookup x=some c) ->
    ∃ cl,(forIn names cs fun (x:Str×NameKind) (r:List (Str×Addr))=>if(x.2==NameKind.free)=true then do let a <- cellOf env x.1;pure (ForInStep.yield ((x.1,a)::r))else pure (ForInStep.yield r))=(pure cl:Sem (List (Str×Addr))) /\
      (∀ x c,cl.lookup x=some c->env.cells.lookup x=some c)/\(∀ x,(cs.lookup x).isSome=true->(cl.lookup x).isSome=true)/\∀ y∈names,y.2=.free->(cl.lookup y.1).isSome=true
  |[],cs,_,h2=>⟨cs,rfl,h2,fun _ h=>h,fun _ h=>nomatch h⟩
  |(n,k)::r,cs,h1,h2=>by
    rw[List.forIn_cons]
    by_cases hk:k=.free
    . subst hk
      obtain⟨c,hc⟩:=h1 (n,.free) Ql rfl
      obtain⟨cl,e,a1,a2,a3⟩:=Eh (env:=env) r ((n,c)::cs) (fun y hy=>h1 y (qw _ hy)) (fun x d hx=>by
        rw[qp]at hx
        by_cases hxn:x=n
        . subst hxn;simp at hx;subst hx;exact hc
        . have:(x==n)=false:=by simpa using hxn
          rw[this]at hx;exact h2 x d hx)
      refine⟨cl,?_,a1,fun x hx=>a2 x ?_,fun y hy e'=>?_⟩
      . simp only[beq_self_eq_true,if_true,zmx hc]
        simpa using e
      . rw[qp];split<;>simp_all
      . rcases qh.mp hy with rfl|hy
        . exact a2 _ (by simp[qp])
        . exact a3 y hy e'
    . have hb:(k==NameKind.free)=false:=by simpa using hk
      obtain⟨cl,e,a1,a2,a3⟩:=Eh (env:=env) r cs (fun y hy=>h1 y (qw _ hy)) h2
      refine⟨cl,?_,a1,a2,fun y hy e'=>?_⟩
      . simp only[hb,IV,if_false]
        simpa using e
      . rcases qh.mp hy with rfl|hy
        . exact absurd e' hk
        . exact a3 y hy e'
def yP {env:Env}{sc:Scope}(h:∀ y∈sc.names,y.2=.free->∃ c,env.cells.lookup y.1=some c) :
  ∃ cl,closureFor sc env=pure cl/\(∀ x c,cl.lookup x=some c->env.cells.lookup x=some c)/\∀ y∈sc.names,y.2=.free->(cl.lookup y.1).isSome=true:=by
 obtain⟨cl,e,a1,_,a3⟩:=Eh (env:=env) sc.names [] h (fun x c hx=>by simp at hx)
 refine⟨cl,?_,a1,a3⟩
 unfold closureFor
 have e2:=e
 first
  |exact e2
  |(show(do let cs <- forIn sc.names [] _;pure cs)=_;rw[show(forIn sc.names [] _:Sem (List (Str×Addr)))=pure cl from e2];rfl)
  |simpa using e2
theorem Bj {env:Env}{x:Str}:∀ {names:List (Str×NameKind)},(names.map fun (n,k)=>if(k==NameKind.free&&env.scope.kind==.function&&env.kindOf n==some .cell)then(n,NameKind.cell)else(n,k)).lookup x =
    (names.lookup x).map fun k=>if(k==NameKind.free&&env.scope.kind==.function&&env.kindOf x==some .cell)then NameKind.cell else k
  |[]=>rfl
  |(n,k)::r=>by
    have ih:=Bj (env:=env) (x:=x) (names:=r)
    rw[qJ]
    by_cases hx:x=n
    . subst hx
      dsimp only
      split<;>simp_all [qp]
    . have hb:(x==n)=false:=by simpa using hx
      dsimp only
      split<;>(rw[qp,qp,hb];exact ih)
theorem mem_of_lookup {β:Type}{x:Str}{k:β}:∀ {l:List (Str×β)},l.lookup x=some k->(x,k)∈l
 |(n,b)::r,h=>by
  rw[qp]at h
  by_cases hx:x=n
  ·subst hx;simp at h;subst h;exact Ql
  ·have hb:(x==n)=false:=by simpa using hx
   rw[hb]at h
   exact qw _ (mem_of_lookup h)
theorem Qw:∀ (names:List (Str×NameKind)) (n:Nat) (acc:List (Str×Addr)),cellsFrom n names acc=cellsFrom n names []++acc
 |[],_,_=>rfl
 |(x,k)::r,n,acc=>by
  unfold cellsFrom
  split
  ·rw[Qw r (n+1) ((x,n)::acc),Qw r (n+1) [(x,n)],qm];rfl
  ·exact Qw r n acc
theorem Fo:∀ {names:List (Str×NameKind)} {n:Nat} {x:Str} {c:Addr},(x,c)∈cellsFrom n names []->(x,NameKind.cell)∈names
 |(y,k)::r,n,x,c,h=>by
  unfold cellsFrom at h
  split at h
  ·rename_i hk
   rw[Qw]at h
   rcases qI.mp h with h|h
   ·exact qw _ (Fo h)
   ·have e:(x,c)=(y,n):=by simpa using h
    cases e
    rw[show k=NameKind.cell by simpa using hk];exact Ql
  ·exact qw _ (Fo h)
theorem Ea:∀ {names:List (Str×NameKind)} {n:Nat} {x:Str},(x,NameKind.cell)∈names->((cellsFrom n names []).lookup x).isSome=true
 |(y,k)::r,n,x,h=>by
  unfold cellsFrom
  rcases qh.mp h with e|h
  ·cases e
   rw[if_pos (by rfl),Qw,Lr]
   cases(cellsFrom (n+1) r []).lookup y with
   |some c=>rfl
   |none=>simp
  ·have ih:=Ea (n:=n) h
   have ih':=Ea (n:=n+1) h
   split
   ·rw[Qw,Lr]
    obtain⟨c,hc⟩:=Ml.mp ih'
    rw[hc];rfl
   ·exact ih
def znL {M:Model}{A:Around}{E:Value->Shared->Prop}{s:Shared}{scope:Scope}{globals:Addr}{closure:List (Str×Addr)}{qual:Str}{func:Option Addr}{code:Value}{env:Env}{Q:Env->Shared->Prop}
    (hQ:Q (newEnv scope s.heap.objs.size globals (cellsFrom (s.heap.objs.size+1) scope.names closure) qual func code (some env) builtinsNs) { s with heap:=pushCells (s.heap.push { cls:=.type "dict",data:=.dict #[] }) scope.names }) :
    wpAny M A (newFunctionEnv scope globals closure [] qual func code (some env)) Q E s:=by
  simp only[newFunctionEnv,Option.isSome_some,if_true]
  refine wpAny_bind (wpAny_alloc ?_)
  refine wpAny_bind (wpAny_layCells _ (fun name kind cells=>by cases hkc:kind==NameKind.cell<;>simp[hkc]) _ _ _ _ ?_)
  rw[show({ s with heap:=s.heap.push { cls:=.type "dict",data:=.dict #[] } }:Shared).heap.objs.size=s.heap.objs.size+1 from Ww ..]
  rw[List.forIn_nil]
  exact wpAny_bind (wpAny_pure (wpAny_pure hQ))
section
variable {X:Cx}{sc:Scope}{tg iter elt:Expr}{ifs:List Expr}{own free:List Str}{fv:List Nat}{wi:TI}{g:TG}{tc:TT}{te:TE}{pos:Pos}
theorem wL {U:L2.St}:∀ {free:List Str} {fv:List Nat},Ru X sc free fv->∀ (k:Nat) (x:Str) (v:V),free[k]?=some x->(fv.map fun j=>(U[j]?).join)[k]?=some (some v) ->
  ∃ j:Nat,X.N[j]?=some x/\U[j]?=some (some v)/\sc.names.lookup x=some .free/\X.env.kindOf x=some .cell
 |x'::xs,j::js,h,k,x,v,e1,e2=>by
  cases k with
  |zero =>
   simp at e1 e2
   subst e1
   refine⟨j,h.1,?_,h.2.1,h.2.2.1⟩
   cases q:U[j]? with
   |none=>rw[q]at e2;simp at e2
   |some o=>rw[q]at e2;simp at e2;rw[e2]
  |succ k=>exact wL (free:=xs) (fv:=js) h.2.2.2 k x v (by simpa using e1) (by simpa using e2)
 |[],[],_,k,x,v,e1,_=>by simp at e1
theorem mL:∀ {free:List Str} {fv:List Nat},Ru X sc free fv->fv.length=free.length
  |[],[],_=>rfl
  |_::_,_::_,h=>congrArg (· + 1) (mL h.2.2.2)
def tG {RR:Value->Addr->Result->Shared->Prop}(hcalm:X.calm=true)(hxe:X.xe=fun _ _=>False)(hkind:sc.kind=.function)(hcell:∀ y∈sc.names,y.2=.cell->sc.names.lookup y.1=some .cell)
    (hfr:Ur (fun x=>X.env.kindOf x=some .cell) sc.names) (hfv:Ru X sc free fv)
    (hg:∀ cl C s₀ H₀ ex,PG (inner X sc (own++free) cl C s₀ H₀ ex) tg g) (ht:∀ cl C s₀ H₀ ex,Qi (inner X sc (own++free) cl C s₀ H₀ ex) ifs tc) (he:∀ cl C s₀ H₀ ex,PE (inner X sc (own++free) cl C s₀ H₀ ex) elt te)
    {Z9:List (Addr×Obj)} {s2:Shared} {U:L2.St} {H2:Hp} {it:Addr} {fp:List Addr} {tn:Nat->Heap->Prop} {J:It} {Q:VK} (I2:Inv X Z9 U H2 s2) (T:Turn X.prog X.w X.K tg J fp it tn) (st2:tn 0 s2.heap) (f2:∀ b∈fp,U4 X Z9 H2 b)
    (h:∀ p,H2 p=none->∃ W:Nat->Nat->Hp->Prop,(∃ m,W 0 m (upd H2 p (.lst [])))/\∀ i m H2,W i m H2 ->
      (J.stop i H2/\Q (.ref p) H2)\/(J.go i H2/\∀ x H',J.yld i H2 x H'->g x (cst own fv U) H' fun σ2 H3=>W0 (cst own fv U) σ2/\tc σ2 H3 fun b H4 =>
        if b=true then te σ2 H4 fun y H5=>∃ ys,H5 p=some (.lst ys)/\ys.length<sizeLine/\∃ m',m'<m/\W (i+1) m' (upd H5 p (.lst (ys++[y])))
        else ∃ m',m'<m/\W (i+1) m' H4))
    {cl:List (Str×Addr)} (hcl1:∀ x c,cl.lookup x=some c->X.env.cells.lookup x=some c) (hcl2:∀ y∈sc.names,y.2=.free->(cl.lookup y.1).isSome=true)
    (hRR:∀ (p C:Addr) (m:Str->Option Value) (H':Hp) (s':Shared),s'.heap.Ns C m->Inv X Z9 U H' s'->H' C=none->C≠X.env.locals->X.s₀.heap.objs.size<=C->(∀ x c,X.env.cells.lookup x=some c->c≠C)->(∀ q∈X.pn++Z9,q.1≠C)->Q (.ref p) H' ->
      RR (.ref p) C (.ok .next) s') :
    wpAny (model X.prog X.w) X.A (newList []) (fun acc s3=>wpAny (model X.prog X.w) X.A (newFunctionEnv sc X.env.globals cl [] X.env.qual none .none (some X.env)) (fun cenv s4 =>
      codeAny (model X.prog X.w) X.A (.compStart (.ListComp elt [⟨tg,iter,ifs,0⟩] sc pos) 0 (.ref it) acc { cenv with scope:=relabel sc X.env }) (RR acc cenv.locals) s4) X.xe s3) X.xe s2:=by
  rw[hxe]
  refine wpAny_newObj_type ?_
  have I3:Inv X Z9 U (upd H2 s2.heap.objs.size (.lst [])) { s2 with heap:=s2.heap.push { cls:=.type "list",data:=.seq ([]:List Value).toArray } }:=I2.lnew (t':=s2.toks) .nil (qO _)
  generalize hs3:({ s2 with heap:=s2.heap.push { cls:=.type "list",data:=.seq ([]:List Value).toArray } }:Shared)=s3 at I3 ⊢
  have hp:H2 s2.heap.objs.size=none:=I2.fresh
  obtain⟨W,⟨m0,w0⟩,turn⟩:=h s2.heap.objs.size hp
  generalize hH3:upd H2 s2.heap.objs.size (.lst [])=H3 at I3 w0 ⊢
  have hk3:∀ b o,s2.heap.get? b=some o->s3.heap.get? b=some o:=fun b o e=>by rw[<- hs3];exact qd _ e
  have hz3:s3.heap.objs.size=s2.heap.objs.size+1:=by rw[<- hs3];exact Ww ..
  have st3:tn 0 s3.heap:=T.keep _ _ _ st2 fun b _ o e=>hk3 b o e
  have hfpo:∀ b∈fp,∃ o,s3.heap.get? b=some o:=fun b hb=>let ⟨o,e,_⟩:=T.obj _ _ st3 b hb;⟨o,e⟩
  have hfpn:∀ b∈fp,b≠s2.heap.objs.size:=fun b hb e=>by
    obtain⟨o,e',_⟩:=T.obj _ _ st2 b hb
    have:=qr e'
    rw[e]at this;exact Wj _ this
  have f3:∀ b∈fp,H3 b=none:=fun b hb=>by rw[<- hH3,zO (hfpn b hb)];exact(f2 b hb).1
  refine znL ?_
  have cok:=cellsFrom_ok sc.names (s3.heap.push { cls:=.type "dict",data:=.dict #[] }) (s3.heap.objs.size+1) [] ⟨fun _ _ hm=>(nomatch hm),List.Pairwise.nil⟩ (by rw[Ww];exact qg _)
  rw[Ww]at cok
  have hns1:(pushCells (s3.heap.push { cls:=.type "dict",data:=.dict #[] }) sc.names).Ns s3.heap.objs.size (fun _=>none):=(Heap.Ns.new s3.heap (.type "dict")).keeps (pushCells_keeps _ _)
  have old:∀ b o,s3.heap.get? b=some o->(pushCells (s3.heap.push { cls:=.type "dict",data:=.dict #[] }) sc.names).get? b=some o:=fun b o e=>pushCells_keeps _ _ b o (qd _ e)
  rw[Qw]
  have fmem:∀ {x c},(x,c)∈cellsFrom (s3.heap.objs.size+1) sc.names []->sc.names.lookup x=some .cell:=fun {x c} h=>hcell (x,.cell) (Fo h) rfl
  have fhas:∀ {x},sc.names.lookup x=some .cell->∃ c,(cellsFrom (s3.heap.objs.size+1) sc.names []).lookup x=some c:=fun {x} h=>Ml.mp (Ea (mem_of_lookup h))
  generalize pushCells (s3.heap.push { cls:=.type "dict",data:=.dict #[] }) sc.names=h1 at cok hns1 old ⊢
  generalize cellsFrom (s3.heap.objs.size+1) sc.names []=F at cok fmem fhas ⊢
  have flt:∀ {x c},F.lookup x=some c->s3.heap.objs.size<c:=fun {x c} e=>(cok.empty x c (mem_of_lookup e)).2
  have cl':∀ {x c},(F++cl).lookup x=some c->F.lookup x=some c\/(F.lookup x=none/\cl.lookup x=some c):=fun {x c} e=>by
    rw[Lr]at e
    cases hF:F.lookup x with
    |some c'=>rw[hF]at e;exact .inl e
    |none=>rw[hF]at e;exact .inr ⟨rfl,e⟩
  have hC0:H3 s3.heap.objs.size=none:=I3.fresh
  have hlow:X.s₀.heap.objs.size<=s3.heap.objs.size:=I3.sz
  have hloc:X.env.locals<s3.heap.objs.size:=I3.lt
  have hcells:∀ x c,X.env.cells.lookup x=some c->c<s3.heap.objs.size:=fun x c e=>by
    obtain⟨v,o,ho,_⟩:=I3.cell x c e
    exact qr ho
  have YOk:(inner X sc (own++free) (F++cl) s3.heap.objs.size s3 H3 fp).Ok:={
    mod:=I3.ok.mod
    kind:=by show(relabel sc X.env).kind=.function;exact hkind
    glob:=I3.ok.glob
    blt:=I3.ok.blt
    above:=qg _
    inj:=fun x y c hx hy=>by
      rcases cl' hx with h|⟨_,h⟩<;>rcases cl' hy with h'|⟨_,h'⟩
      . exact name_of_addr cok.apart (mem_of_lookup h) (mem_of_lookup h')
      . exact absurd (Nat.lt_trans (flt h) (hcells y c (hcl1 y c h'))) (Wj _)
      . exact absurd (Nat.lt_trans (flt h') (hcells x c (hcl1 x c h))) (Wj _)
      . exact I3.ok.inj x y c (hcl1 x c h) (hcl1 y c h')
    has:=fun x hx=>by
      show ∃ c,(F++cl).lookup x=some c
      rw[Lr]
      cases hF:F.lookup x with
      |some c=>exact⟨c,rfl⟩
      |none =>
      show ∃ c,cl.lookup x=some c
      have e : (sc.names.lookup x).map (fun k => if(k == NameKind.free && X.env.scope.kind == .function && X.env.kindOf x == some .cell)then NameKind.cell else k) = some .cell ∨
          (sc.names.lookup x).map (fun k=>if(k==NameKind.free&&X.env.scope.kind==.function&&X.env.kindOf x==some .cell)then NameKind.cell else k)=some .free:=by
        have:=@Bj X.env x sc.names
        rcases hx with hx|hx
        . exact .inl (this.symm.trans hx)
        . exact .inr (this.symm.trans hx)
      cases q:sc.names.lookup x with
      |none=>rw[q]at e;simp at e
      |some k =>
        have hm:=mem_of_lookup q
        by_cases hkf:k=.free
        . subst hkf
          exact Ml.mp (hcl2 (x,.free) hm rfl)
        . have hkc : k ≠ .cell := fun ek => by
            subst ek
            obtain⟨c,hc⟩:=fhas q
            rw[hF]at hc;cases hc
          rw[q]at e
          have hb:(k==NameKind.free)=false:=by simpa using hkf
          simp only[LR,hb,Bool.false_and,IV,if_false,Option.some.injEq]at e
          rcases e with e|e
          . exact absurd e hkc
          . exact absurd e hkf
    cab:=fun x c hx hc=>by
      obtain⟨c',hc'⟩:=fhas (show sc.names.lookup x=some .cell from beq_iff_eq.mp hx)
      rcases cl' hc with h|⟨h,_⟩
      . exact NQ (flt h)
      . rw[hc']at h;cases h
    hd:=I3.ok.hd
    frames:=I3.ok.frames
    stk:=.inl rfl
    exf:=fun b hb=>⟨fun e=>by obtain⟨o,e'⟩:=hfpo b hb;have:=qr e';rw[e]at this;exact Wj _ this,fun x c hx=>by
      rcases cl' hx with h|⟨_,h⟩
      . obtain⟨o,e'⟩:=hfpo b hb
        exact Vn (Nat.lt_trans (qr e') (flt h))
      . exact(f2 b hb).2.2.2.2.1 x c (hcl1 x c h)⟩
    bs:=I3.bs
    bsz:=Xi I3.ok.bsz I3.sz
    noex:=fun b o hb hm=>by
      rcases(f2 b hm).2.2.2.1 with hx|hx
      . exact I3.ok.noex b o hb hx
      . exact Wj _ (qD (qD (qr hb) I3.ok.bsz) hx)
    exfs:=fun b hb hm=>by
      rcases qh.mp (I3.stkSub b hm)with e|e
      . exact(f2 b hb).2.1 e
      . exact(f2 b hb).2.2.1 e
    funs:=I3.stack
    frf:=I3.stkFree }
  have hlen0:(cst own fv U).length=(own++free).length:=by
    unfold cst;rw[qf,qf,qK,qc,mL hfv]
  have I4:∀ tk,Inv (inner X sc (own++free) (F++cl) s3.heap.objs.size s3 H3 fp) [] (cst own fv U) H3 { s3 with heap:=h1,toks:=tk }:=fun tk=>{
    ok:=YOk
    os:=rfl
    bare:=I3.bare
    base:=Un.kept old
    loc:=by
      refine⟨_,hns1,fun i x v hN hσ _=>?_⟩
      have hN':(own++free)[i]?=some x:=hN
      have hσ':(List.replicate own.length none++fv.map fun j=>(U[j]?).join)[i]?=some (some v):=hσ
      by_cases hi:i<own.length
      . rw[qk (by rw[qK];exact hi)]at hσ'
        rw[K1]at hσ'
        split at hσ'<;>simp at hσ'
      . rw[qi (by lia)]at hN'
        rw[qi (by rw[qK];lia),qK]at hσ'
        obtain⟨j,hj,hσj,hsx,hkx⟩:=wL hfv _ x v hN' hσ'
        obtain⟨m,_,hall⟩:=I3.loc
        obtain⟨u,ru,lk⟩:=hall j x v hj hσj (.inr (.inl hkx))
        refine⟨u,ru,.inr ⟨?_,?_⟩⟩
        . have:=@Bj X.env x sc.names
          rw[hsx]at this
          have e2:Env.kindOf (inner X sc (own++free) (F++cl) s3.heap.objs.size s3 H3 fp).env x=(sc.names.map fun (n,k)=>if(k==NameKind.free&&X.env.scope.kind==.function&&X.env.kindOf n==some .cell)then(n,NameKind.cell)else(n,k)).lookup x:=rfl
          rw[e2,this]
          simp only[LR]
          split
          . exact .inl rfl
          . exact .inr rfl
        . rcases lk with⟨hl,_⟩|⟨_,c,hc,hcell'⟩
          . rw[hkx]at hl;cases hl
          . obtain⟨c',hc'⟩:=Ml.mp (hcl2 (x,.free) (mem_of_lookup hsx) rfl)
            have:=hcl1 x c' hc'
            rw[hc]at this
            cases this
            refine⟨c,?_,?_⟩
            . show(F++cl).lookup x=some c
              rw[Lr]
              cases hF:F.lookup x with
              |none=>exact hc'
              |some c2=>have:=fmem (mem_of_lookup hF);rw[hsx]at this;cases this
            obtain⟨o,ho,hd⟩:=hcell'
            exact⟨o,old _ _ ho,hd⟩
    cell:=fun x c hx=>by
      rcases cl' hx with h|⟨_,h⟩
      . exact⟨none,(cok.empty x c (mem_of_lookup h)).1⟩
      . obtain⟨v,o,ho,hd⟩:=I3.cell x c (hcl1 x c h)
        exact⟨v,o,old _ _ ho,hd⟩
    free:=hC0
    freeC:=fun x c hx=>by
      rcases cl' hx with h|⟨_,h⟩
      . exact I3.hok.fresh (NQ (flt h))
      . exact I3.freeC x c (hcl1 x c h)
    pin:=fun q hq=>nomatch hq
    hok:=I3.hok.kept old
    len:=hlen0 }
  have back:∀ (m:Str->Option Value) (H':Hp) (s':Shared),s'.heap.Ns s3.heap.objs.size m->Inv (inner X sc (own++free) (F++cl) s3.heap.objs.size s3 H3 fp) [] (cst own fv U) H' s'->Q (.ref s2.heap.objs.size) H'->RR (.ref s2.heap.objs.size) s3.heap.objs.size (.ok .next) s':=fun m H' s' hm IY q=>by
    have u1:Un (frs X.stack) fp H3 H' s3.heap s'.heap:=IY.base
    have IX:Inv X Z9 U H' s':=I3.call' (ch:=fp) (IY.os) u1 IY.hok IY.bare fun b hb=>⟨(f2 b hb).2.2.2.1,(f2 b hb).2.1,(f2 b hb).2.2.2.2.1,(f2 b hb).2.2.2.2.2⟩
    refine hRR _ _ m H' s' hm IX IY.free (Vn hloc) hlow (fun x c hx=>qL (hcells x c hx)) (fun q' hq=>?_) q
    have:=(I3.pin q' hq).1
    exact qL (qr this)
  have stat:∀ {H':Hp},(∀ b∈fp,H' b=none)->∀ b∈fp,U4 (inner X sc (own++free) (F++cl) s3.heap.objs.size s3 H3 fp) [] H' b:=fun hn b hb =>
    ⟨hn b hb,(YOk.exf b hb).1,YOk.exfs b hb,.inl hb,(YOk.exf b hb).2,fun q hq=>nomatch hq⟩
  have hYxe:(inner X sc (own++free) (F++cl) s3.heap.objs.size s3 H3 fp).xe=fun _ _=>False:=hxe
  have loop:∀ tk,codeAny (model X.prog X.w) X.A (.compLoop (.ListComp elt [⟨tg,iter,ifs,0⟩] sc pos) 0 (.ref it) (.ref s2.heap.objs.size) (compEnvC sc (F++cl) s3.heap.objs.size X.env)) (RR (.ref s2.heap.objs.size) s3.heap.objs.size) { s3 with heap:=h1,toks:=tk }:=fun tk=>by
    refine zmu (fun n s'=>∃ i H',Inv (inner X sc (own++free) (F++cl) s3.heap.objs.size s3 H3 fp) [] (cst own fv U) H' s'/\tn i s'.heap/\(∀ b∈fp,H' b=none)/\W i n H') ?_ m0 ⟨0,H3,I4 tk,T.keep _ _ _ st3 (fun b _ o e=>old b o e),f3,w0⟩
    rintro n s5 ⟨i,H5,I5,st5,fr5,w5⟩
    rcases turn i n H5 w5 with⟨stop,q⟩|⟨go,step⟩
    . refine Z0 (T.done (inner X sc (own++free) (F++cl) s3.heap.objs.size s3 H3 fp) rfl rfl rfl hcalm i [] s5 _ H5 _ I5 (stat fr5) st5 stop) fun r s6 ⟨hr,I6⟩=>?_
      subst hr
      obtain⟨m,hm,_⟩:=I6.loc
      exact back m H5 s6 hm I6 q
    . refine Z0 (T.item (inner X sc (own++free) (F++cl) s3.heap.objs.size s3 H3 fp) rfl rfl rfl hcalm i [] s5 _ H5 _ I5 (stat fr5) st5 go) fun r s6 ⟨u,hr,h6⟩=>?_
      subst hr
      refine Z0 h6 fun _ s7 ⟨x,H7,I7,r7,y7,st7,fr7⟩=>?_
      have I7':=I7.pinned (stat fr7) (T.obj _ _ st7)
      have hg':=hg (F++cl) s3.heap.objs.size s3 H3 fp _ s7 _ H7 x u _ I7' r7 (step x H7 y7)
      have ht':=ht (F++cl) s3.heap.objs.size s3 H3 fp
      have he':=he (F++cl) s3.heap.objs.size s3 H3 fp
      have ap:QZ (inner X sc (own++free) (F++cl) s3.heap.objs.size s3 H3 fp) "list.append" rW:=vH
      unfold Qi at ht'
      unfold PE at he'
      unfold QZ at ap
      rw[hYxe]at hg' ht' he' ap
      have again : ∀ {pl : List (Addr × Obj)} {σ8 : L2.St} {H8 : Hp} {s8 : Shared}, pl = MN fp s7.heap → Inv (inner X sc (own ++ free) (F ++ cl) s3.heap.objs.size s3 H3 fp) ([] ++ pl) σ8 H8 s8 → W0 (cst own fv U) σ8 → (∃ m', m' < n ∧ W (i + 1) m' H8) →
          ∃ m,m<n/\∃ i H',Inv (inner X sc (own++free) (F++cl) s3.heap.objs.size s3 H3 fp) [] (cst own fv U) H' s8/\tn i s8.heap/\(∀ b∈fp,H' b=none)/\W i m H':=fun {pl σ8 H8 s8} hpl I8 ag ⟨m',hm,w8⟩=>by
        subst hpl
        refine⟨m',hm,i+1,H8,(I8.unpinned).weak ag.len.symm (fun j v e=>ag.get j v e),T.keep _ _ _ st7 fun b hb o e=>(I8.pin (b,o) (qW _ (qW _ (J6 hb e)))).1,fun b hb=>?_,w8⟩
        obtain⟨o,e,d⟩:=T.obj _ _ st7 b hb
        exact(I8.pin (b,o) (qW _ (qW _ (J6 hb e)))).2.1
      refine Z0 hg' fun _ s8 ⟨σ8,H8,I8,ag,q8⟩=>?_
      refine Z0 (ht' _ s8 σ8 H8 _ I8 q8) fun b s9 ⟨H9,I9,q9⟩=>?_
      cases b with
      |false =>
        rw[if_neg qu]at q9 ⊢
        exact again rfl I9 ag q9
      |true =>
        rw[if_pos rfl]at q9 ⊢
        refine Z0 (he' _ s9 σ8 H9 _ I9 q9) fun y s10 ⟨yv,H10,I10,ry,ys,hy,hlt,q10⟩=>?_
        refine Z0 (ap _ s10 σ8 H10 (.ref s2.heap.objs.size) [yv] (.ref s2.heap.objs.size) [y] (fun v H'=>v=.non/\H'=upd H10 s2.heap.objs.size (.lst (ys++[yv]))) I10 rfl (.cons ry .nil) ⟨_,ys,yv,rfl,rfl,hy,hlt,rfl,rfl⟩) fun z s11 ⟨v11,H11,I11,_,_,e11⟩=>?_
        subst e11
        exact again rfl I11 ag q10
  refine codeAny_compStart_list (loop _) (T.self _ 0 _ _ _ (T.keep _ _ _ st3 fun b _ o e=>old b o e) (loop _))
def zyi (hcalm:X.calm=true)(hxe:X.xe=fun _ _=>False)(hkind:sc.kind=.function)(hcell:∀ y∈sc.names,y.2=.cell->sc.names.lookup y.1=some .cell)(hnames:∀ y∈sc.names,y.2=.local->sc.names.lookup y.1=some .local)
  (hfr:Ur (fun x=>X.env.kindOf x=some .cell) sc.names) (hfv:Ru X sc free fv) (hi:PI X tg iter wi)
  (hg:∀ cl C s₀ H₀ ex,PG (inner X sc (own++free) cl C s₀ H₀ ex) tg g) (ht:∀ cl C s₀ H₀ ex,Qi (inner X sc (own++free) cl C s₀ H₀ ex) ifs tc) (he:∀ cl C s₀ H₀ ex,PE (inner X sc (own++free) cl C s₀ H₀ ex) elt te)
  (hs:∀ x,foldedSetIterable iter X.env x=pure x:=by intro _;rfl):PE X (.ListComp elt [⟨tg,iter,ifs,0⟩] sc pos) (DX own fv wi g tc te):=by
 intro Z9 s U H Q I q
 obtain⟨cl,hclos,hcl1,hcl2⟩:=yP (env:=X.env) (sc:=sc) fun y hy e=>I.ok.has y.1 (.inl (hfr.of y hy e))
 rw[eval_ListComp]
 refine wpAny_comprehension_free (use:=none) rfl hs hclos hkind hnames (Z0 (hi Z9 s U H _ I q) fun v s1 h1=>Z0 h1 fun itv s2 h2=>?_)
 obtain⟨it,fp,tn,J,H2,e,I2,T,st2,f2,q2⟩:=h2
 subst e
 refine tG (RR:=fun acc C=>compPost (model X.prog X.w) X.A X.xe none (EP X Z9 U Q) acc C) hcalm hxe hkind hcell hfr hfv hg ht he I2 T st2 f2 q2 hcl1 hcl2 ?_
 intro p C m H' s' hm I' hC hCl hC0 hCc hCp q'
 exact⟨m,hm,fun h' hs'=>⟨.ref p,H',I'.turned (t':=s'.toks) (fun b o hb e=>hs'.extBut b o hb e) hC hCl (.inr hC0) hCc hCp,rfl,q'⟩⟩
def ztm {i:Nat}{y:Str}{py spos:Pos}(hN:X.N.Nodup)(hy:X.N[i]?=some y)(hyl:X.env.scope.names.lookup y=some .local)(hcalm:X.calm=true)(hxe:X.xe=fun _ _=>False)(hkind:sc.kind=.function)(hcell:∀ y∈sc.names,y.2=.cell->sc.names.lookup y.1=some .cell)(hnames:∀ y∈sc.names,y.2=.local->sc.names.lookup y.1=some .local)
  (hfr:Ur (fun x=>X.env.kindOf x=some .cell) sc.names) (hfv:Ru X sc free fv) (hi:PI X tg iter wi)
  (hg:∀ cl C s₀ H₀ ex,PG (inner X sc (own++free) cl C s₀ H₀ ex) tg g) (ht:∀ cl C s₀ H₀ ex,Qi (inner X sc (own++free) cl C s₀ H₀ ex) ifs tc) (he:∀ cl C s₀ H₀ ex,PE (inner X sc (own++free) cl C s₀ H₀ ex) elt te)
  (hsw:swapsWith (.ListComp elt [⟨tg,iter,ifs,0⟩] sc pos) (some (.Name y py)) spos.line X.env=pure true:=by rfl)
  (hs:∀ x,foldedSetIterable iter X.env x=pure x:=by intro _;rfl):PS X (.Assign [.Name y py] (.ListComp elt [⟨tg,iter,ifs,0⟩] sc pos) spos) (Bk (DX own fv wi g tc te) (YW i)):=by
 intro Z9 s U H D I q
 obtain⟨cl,hclos,hcl1,hcl2⟩:=yP (env:=X.env) (sc:=sc) fun y hy e=>I.ok.has y.1 (.inl (hfr.of y hy e))
 rw[exec_Assign_Name_used _ _ _ _ hsw]
 refine wpAny_bind (wpAny_standAt (wpAny_bind ?_))
 show wpAny _ X.A (do let _ <- comprehension (.ListComp elt [⟨tg,iter,ifs,0⟩] sc pos) sc X.env _ (newList []) false (eval iter X.env) (some (assign (.Name y py) X.env))) _ _ s
 refine wpAny_bind (wpAny_mono (wpAny_comprehension_free (use:=some (assign (.Name y py) X.env)) (Q:=fun _ s'=>SP X Z9 D .next s') rfl hs hclos hkind hnames
  (Z0 (hi Z9 s U H _ I q) fun v s1 h1=>Z0 h1 fun itv s2 h2=>?_)) (fun _ s' hq=>wpAny_pure (wpAny_pure hq)) fun _ _ e=>e)
 obtain⟨it,fp,tn,J,H2,e,I2,T,st2,f2,q2⟩:=h2
 subst e
 refine tG (RR:=fun acc C=>compPost (model X.prog X.w) X.A X.xe (some (assign (.Name y py) X.env)) (fun _ s'=>SP X Z9 D .next s') acc C) (Q:=fun x H1=>YW i x U H1 D.nx) hcalm hxe hkind hcell hfr hfv hg ht he I2 T st2 f2 q2 hcl1 hcl2 ?_
 intro p C m H' s' hm I' hC hCl hC0 hCc hCp q'
 show wpAny _ X.A (assign (.Name y py) X.env (.ref p)) _ _ _
 refine wpAny_assign_Name (uz (v:=.ref p) I' hN hy (.inl hyl) rfl (fun s'' I'' hsb=>?_) (.inr hyl))
 obtain⟨a,hsb,ha⟩:=hsb
 have hCa:C≠a:=by
  rcases ha with rfl|ha
  ·exact hCl
  ·exact fun e=>hCc _ _ ha e.symm
 refine⟨m,hm.sameBut hsb hCa,fun h' hs'=>⟨_,H',I''.turned (t':=s''.toks) (fun b o hb e=>hs'.extBut b o hb e) hC hCl (.inr hC0) hCc hCp,q'⟩⟩
end
section
variable {U:L2.St}{H:Hp}{K:PySem.W.Frag}
end
section
variable {X:Cx}{tg:Expr}
end
mutual
inductive Dt (K:PySem.W.Frag)(H:Hp):V->PyData->Prop
 |non:Dt K H .non .none
 |bl (b:Bool):Dt K H (.bl b) (.bool b)
 |int (i:Int):Dt K H (.int i) (.int i)
 |tup {a:Addr} {xs:List V} {ds:List PyData}:ZL K H a xs->KZ K H xs ds->Dt K H (.ref a) (.tuple ds)
 |lst {a:Addr} {xs:List V} {ds:List PyData}:Zq K H a xs->KZ K H xs ds->Dt K H (.ref a) (.list ds)
inductive KZ (K:PySem.W.Frag)(H:Hp):List V->List PyData->Prop
 |nil:KZ K H [] []
 |cons {x:V} {xs:List V} {d:PyData} {ds:List PyData}:Dt K H x d->KZ K H xs ds->KZ K H (x::xs) (d::ds)
end
section
variable {X:Cx}{Z9:List (Addr×Obj)}{U:L2.St}{H:Hp}{s:Shared}
end
section
variable {X:Cx}{Z9:List (Addr×Obj)}{U:L2.St}{H:Hp}{s:Shared}
def _root_.L2.Inv.turnNew {h':Heap}{ch:List Addr}{a:Addr}{o:HO}{t':Nat}(I:Inv X Z9 U H s)(hf:∀ b∈ch,U4 X Z9 H b)(k:∀ b u,b∉ch->s.heap.get? b=some u->h'.get? b=some u)(ha:s.heap.objs.size<=a)
  (new:Y5 X.prog X.w (upd H a o) h' a o):Inv X Z9 U (upd H a o) { s with heap:=h',toks:=t' }:=by
 have lt:∀ b u,s.heap.get? b=some u->b≠a:=fun b u e z=>by
  have:=qr e
  rw[z]at this;exact Wj _ (qD this ha)
 have ltH:∀ b u,H b=some u->b≠a:=fun b u e z=>by
  have:=I.hok.lt e
  rw[z]at this;exact Wj _ (qD this ha)
 have nch:∀ b u,H b=some u->b∉ch:=fun b u e z=>by rw[(hf b z).1]at e;cases e
 refine I.step (g':=s.gens) (d':=s.drawn) (ch:=ch) (fun b hb=>⟨(hf b hb).2.2.2.1,(hf b hb).2.1,(hf b hb).2.2.2.2.1,(hf b hb).2.2.2.2.2⟩) (fun b u _ _ hc e _=>k b u hc e) (fun b u _ _ hc e _=>⟨u.slots,k b u hc e⟩)
  (fun b u _ e n=>by rw[zO (lt b u e)];exact n) (fun b u hc e=>⟨u,k b u hc e⟩) (fun b xs e=>by rw[zO (ltH b _ e)];exact e) (fun b u v e=>by rw[zO (ltH b _ e)];exact e)
  (fun b ps e=>⟨#[],by rw[zO (ltH b _ e),e];simp⟩) (fun m hm=>?_) (fun b u e=>?_) I.bare
 ·obtain⟨ob,es,ep,ho,r⟩:=hm
  exact⟨ob,es,ep,k _ ob (fun z=>(hf _ z).2.1 rfl) ho,r⟩
 ·by_cases hb:b=a
  ·subst hb
   rw[X7]at e
   cases e
   exact new
  ·rw[zO hb]at e
   refine(I.hok b u e).stay (fun c v hc q=>k c v ?_ q) (fun c q=>by rw[zO (ltH c _ q)];exact q) fun c ys q=>by rw[zO (ltH c _ q)];exact q
   rcases hc with z|z
   ·rw[z];exact nch b u e
   ·exact nch c _ z
def _root_.L2.Inv.turnedL {h':Heap}{ch:List Addr}{t':Nat}(I:Inv X Z9 U H s)(hf:∀ b∈ch,U4 X Z9 H b)(k:∀ b u,b∉ch->s.heap.get? b=some u->h'.get? b=some u):Inv X Z9 U H { s with heap:=h',toks:=t' }:=by
 have nch:∀ b u,H b=some u->b∉ch:=fun b u e z=>by rw[(hf b z).1]at e;cases e
 refine I.step (g':=s.gens) (d':=s.drawn) (ch:=ch) (fun b hb=>⟨(hf b hb).2.2.2.1,(hf b hb).2.1,(hf b hb).2.2.2.2.1,(hf b hb).2.2.2.2.2⟩) (fun b u _ _ hc e _=>k b u hc e) (fun b u _ _ hc e _=>⟨u.slots,k b u hc e⟩)
  (fun b u _ e n=>n) (fun b u hc e=>⟨u,k b u hc e⟩) (fun b xs e=>e) (fun b u v e=>e) (fun b ps e=>⟨#[],by rw[e];simp⟩) (fun m hm=>?_) (fun b u e=>?_) I.bare
 ·obtain⟨ob,es,ep,ho,r⟩:=hm
  exact⟨ob,es,ep,k _ ob (fun z=>(hf _ z).2.1 rfl) ho,r⟩
 ·refine(I.hok b u e).stay (fun c v hc q=>k c v ?_ q) (fun c q=>q) fun c ys q=>q
  rcases hc with z|z
  ·rw[z];exact nch b u e
  ·exact nch c _ z
end
section
variable {X:Cx}
end
def Ite (K:PySem.W.Frag)(l:Addr):It :=
  ⟨fun i H=>∃ xs x,Zq K H l xs/\xs[i]?=some x,
   fun i H v H'=>∃ p,v=.ref p/\H p=none/\∀ xs x,Zq K H l xs->xs[i]?=some x->H'=upd H p (.tup [.int i,x]),
   fun i H=>∃ xs,Zq K H l xs/\xs.length<=i⟩
def gw {P:Program}{w:World}{K:PySem.W.Frag}{es:List Expr}{kk:Nat}{pos:Pos}{e it l:Addr}(hne:e≠it) :
  Turn P w K (.Tuple es kk pos) (Ite K l) [e,it] e (fun i h=>(∃ old,IsEnum h e it i old)/\h.IsListIter it l i) where
 mem:=by simp
 obj:=fun i h st b hb=>by
  obtain⟨⟨old,he⟩,⟨o1,h1,_,h1d⟩⟩:=st
  simp only[qh,qF,or_false]at hb
  rcases hb with rfl|rfl
  ·exact⟨_,he,fun v q=>by cases(show Data.fields _=Data.cell v from q)⟩
  ·exact⟨_,h1,fun v q=>by rw[h1d]at q;cases q⟩
 keep:=fun i h h' st k=>by
  obtain⟨⟨old,he⟩,h1⟩:=st
  exact⟨⟨old,k e (by simp) _ he⟩,h1.at fun o q=>k it (by simp) o q⟩
 item:=by
  intro X hP hw hK hc i Z9 s U H E I hf st hg
  subst hP hw hK
  obtain⟨⟨old,he⟩,h1⟩:=st
  obtain⟨xs,x,hx1,hx⟩:=hg
  obtain⟨its,rx,px,zx⟩:=I.list hx1
  obtain⟨u,hu,ru⟩:=Vals.get rx hx
  refine wpAny_pyNext_enum_item he h1 px.isList (by simpa using hu) hne fun h' a1 a2 a3 a4 hk=>?_
  refine⟨_,rfl,wpAny_letOwnedTupleGo_enum (s:={ s with heap:=h',toks:=s.toks+1 }) a1 fun h'' he'' hs''=>?_⟩
  have lt:∀ {c o},s.heap.get? c=some o->s.heap.objs.size≠c:=fun q=>Vn (qr q)
  have k2:∀ b u,b∉[e,it]->s.heap.get? b=some u->h''.get? b=some u:=fun b u hb q=>by
   simp only[qh,qF,or_false,not_or]at hb
   exact hs''.extBut b u hb.1 (hk b u hb.1 hb.2 q)
  have new:h''.get? s.heap.objs.size=some { cls:=.type "tuple",data:=.seq #[.int i s.toks,u] }:=hs''.extBut _ _ (lt he) a3
  refine⟨.ref s.heap.objs.size,upd H s.heap.objs.size (.tup [.int i,x]),I.turnNew (t':=s.toks+1) hf k2 (qg _) ⟨by show 2<=sizeLine;decide,[.int i s.toks,u],.cons ⟨_,rfl⟩ (.cons ru .nil),_,new,rfl,_,rfl⟩,rfl,⟨_,rfl,I.fresh,?_⟩,?_,fun b hb=>?_⟩
  ·intro xs' x' hx1' hx'
   cases I.list_inj hx1 hx1'
   rw[hx]at hx'
   cases hx'
   rfl
  ·exact⟨⟨_,he''⟩,a2.extBut hs''.extBut (Ne.symm hne)⟩
  ·have:∃ o,s.heap.get? b=some o:=by
    simp only[qh,qF,or_false]at hb
    obtain⟨o1,e1,_⟩:=h1
    rcases hb with rfl|rfl
    ·exact⟨_,he⟩
    ·exact⟨_,e1⟩
   obtain⟨o,q⟩:=this
   rw[zO (lt q).symm]
   exact(hf b hb).1
 done:=by
  intro X hP hw hK hc i Z9 s U H E I hf st hg
  subst hP hw hK
  obtain⟨⟨old,he⟩,h1⟩:=st
  obtain⟨xs,hx1,hl⟩:=hg
  obtain⟨its,rx,px,zx⟩:=I.list hx1
  have n1:=rx.length
  refine wpAny_pyNext_enum_end (I.ok.hd hc) he h1 px.isList (by rw[K4];exact qv (by lia)) fun h' hk=>⟨rfl,I.turnedL (t':=s.toks) hf fun b u hb q=>?_⟩
  simp only[qh,qF,or_false,not_or]at hb
  exact hk b u hb.2 q
 self:=fun _ _ _ _ _ st h=>by
  obtain⟨⟨old,he⟩,_⟩:=st
  exact wpAny_pyIter_enum he h
section
variable {X:Cx}
end
def hT (x1 z1 x2 z2 a b:Int):Int:=z1*(x2-x1)*b+(z2-z1)*(a-x1*b)
def hB (x1 x2 b:Int):Int:=(x2-x1)*b
section
variable {U:L2.St}{H:Hp}
end
structure Ou (P:Program)(w:World)(K:PySem.W.Frag)(mg:Str->Option Value)(base:Heap)(k:Nat)(x:Str)(sp:Sp):Prop where
 ex:∃ (C f:Addr) (fd:FuncData) (ps:List Str) (sp0:Sp),Mk K C f/\zN P w K mg base ZS k f fd ps sp0/\Binds K fd ps []/\mg x=some (.ref C) /\
  ∀ vs H Q,sp vs H Q E0->∀ x dx,H x=none->H dx=none->dx≠x->sp0 (.ref x::vs) (upd (upd H dx (.own x)) x (.ins C dx [])) (fun v H2=>v=.non/\Q (.ref x) H2) E0
def zwQ {X:Cx}{k j:Nat}{x:Str}{sp:Sp}{p pos:Pos}{e:Expr}{es:List Expr}{t:TA}(G:Ou X.prog X.w X.K X.mg X.base k x sp)(hr:Zj j X.A)(hk:k+1<=j)(hg:Gl X x)
  (ha:PA X (e::es) t) (hdb:(x==("__debug__":Str))=false:=by decide) (he:starEach (e::es) X.env=(false,eval e X.env)::starEach es X.env:=by rfl) (hpl:(backTo pos (starEach es X.env)).any (·.1)=false:=by rfl) :
  PE X (.Call (.Name x p) (e::es) [] pos) (Dr sp [] E0 t):=by
 intro Z9 s U H Q I h
 obtain⟨C,f,fd,ps,sp0,M,F,b,hm,imp⟩:=G.ex
 refine wpAny_Call_Name_kw (PX I hg hm ?_ hdb)
 refine PySem.W.callWith_K (h₀:=X.base) I.ok.mod.kin M.kp (Z0 (ha pos Z9 s U H _ I h) fun us s1 ⟨vs,H1,I1,r,q⟩=>⟨I1.kIn,?_⟩) he hpl
 have q':sp (vs++[]) H1 Q E0:=q
 rw[qV]at q'
 exact zqz (dvs:=[]) (ds:=[]) M F (hr.mono hk) b .nil uJ I1 r fun x dx h1 h2 h3=>by rw[qV];exact imp vs H1 Q q' x dx h1 h2 h3
def zty {X:Cx}{x:Str}{n:Int}{pos:Pos}(hg:Gl X x)(hm:∃ t,X.mg x=some (.int n t))(hd:(x==("__debug__":Str))=false:=by decide):PE X (.Name x pos) (tC (.int n)):=by
 obtain⟨t,ht⟩:=hm
 exact yp (v:=.int n) hg ht ⟨t,rfl⟩ hd
section
variable {U:L2.St}{H:Hp}{K:PySem.W.Frag}
end
section
variable {X:Cx}{K:PySem.W.Frag}
def zuA {Z9:List (Addr×Obj)}{U:L2.St}{H:Hp}{s:Shared}{p:Addr}{its:List Value}(_:Inv X Z9 U H s)(pl:PlainL s.heap p its.toArray) :
  p<s.heap.objs.size/\(s.heap.push { cls:=.type "list_iterator",data:=.fields #[.ref p,.int 0 0] }).IsListIter s.heap.objs.size p 0:=by
 obtain⟨o,ho,_⟩:=pl.isList
 exact⟨qr ho,_,qq _ rfl,rfl,rfl⟩
def j4 {H:Hp}{Z9:List (Addr×Obj)}{U:L2.St}{s:Shared}{h':Heap}{tk:Nat}(I:Inv X Z9 U H s){o:Obj}(hk:∀ b u,b∉[s.heap.objs.size]->(s.heap.push o).get? b=some u->h'.get? b=some u) :
  Inv X Z9 U H { s with heap:=h',toks:=tk }:=I.kept (t':=tk) fun d u e=>hk d u (fun hm=>by
   have h1:d=s.heap.objs.size:=by simpa using hm
   have h2:=qr e
   rw[h1]at h2
   exact Wj _ h2) (qd _ e)
def zyx (K:PySem.W.Frag):List V->Hp->VK->Prop:=fun xs H Q=>∃ (p:Addr) (bs:List Bool),xs=[.ref p]/\Zq K H p (bs.map V.bl)/\Q (.bl (bs.all id)) H
def zqI {bs:List Bool}{its:List Value}(rv:Vals (bs.map V.bl) its){i:Nat}{v:Value}(h:its.toArray[i]?=some v):v=.bool (bs.getD i false):=by
 rw[<- Pr]at h
 have hi:i<its.length:=by
  rcases qP i its.length with g|g
  ·exact g
  ·rw[qv (by simpa using g)]at h;cases h
 have hl:=rv.length
 rw[qc]at hl
 have e:(bs.map V.bl)[i]?=some (.bl (bs.getD i false)):=by
  rw[qj,qb (by lia)]
  simp[qE,qb (show i<bs.length by lia)]
 obtain⟨u,hu,ru⟩:=rv.get e
 rw[show its.toArray.toList=its from rfl,hu]at h
 cases h
 exact ru
def all_range (bs:List Bool):(List.range bs.length).all (fun i=>bs.getD i false)=bs.all id:=by
 rw[RP,qY,qY]
 constructor
 ·intro h b hb
  obtain⟨i,hi,rfl⟩:=qH.mp hb
  simpa [qE,qb hi]using h i (List.mem_range.mpr hi)
 ·intro h i hi
  rw[List.mem_range]at hi
  have:=h bs[i] (List.getElem_mem hi)
  simpa [qE,qb hi]using this
def zqk (hK:X.K=K)(hc:X.calm=true):YQ X (.builtin "all") (zyx K):=fun Z9 s U H xs us Q I r h=>by
 subst hK
 obtain⟨p,bs,rfl,hS,q⟩:=h
 obtain⟨u,rfl,ru⟩:=vals1 r
 cases ru
 obtain⟨its,rv,pl,hz⟩:=I.list hS
 obtain⟨lt,st⟩:=zuA I pl
 have hl:=rv.length
 rw[qc]at hl
 have W:=Walks.list (prog:=X.prog) (w:=X.w) (A:=X.A.in1) (I.ok.hd hc) s.heap.objs.size p (qL lt) its.toArray
 refine call_all_walk (wpAny_pyIter_list pl.isList ⟨s.heap.objs.size,[s.heap.objs.size,p],[s.heap.objs.size],_,_,_,fun i=>bs.getD i false,rfl,W,⟨st,pl.isList.push _⟩,?_,?_⟩)
 ·intro i v s' Q' E' hv hq
  rw[zqI rv hv]
  exact wpAny_truthy_bool hq
 ·intro h' tk hk
  rw[qo,<- hl,all_range]
  exact⟨.bl _,H,j4 (s:=s) I hk,rfl,q⟩
def zxB (K:PySem.W.Frag):List V->Hp->VK->Prop:=fun xs H Q=>∃ (p:Addr) (ns:List Int),xs=[.ref p]/\Zq K H p (ns.map V.int)/\0<ns.length/\∀ m:Int,m∈ns->(∀ a∈ns,a<=m)->Q (.int m) H
def jG (K:PySem.W.Frag):List V->Hp->VK->Prop:=fun xs H Q=>∃ (p:Addr) (ns:List Int),xs=[.ref p]/\Zq K H p (ns.map V.int)/\0<ns.length/\∀ m:Int,m∈ns->(∀ a∈ns,m<=a)->Q (.int m) H
theorem Fp:∀ {ns:List Int} {its:List Value},Vals (ns.map V.int) its->∃ xs:Array (Int×Tok),its.toArray=intItems xs/\xs.toList.map (·.1)=ns
 |[],_,h=>by cases h;exact⟨#[],by simp[intItems],rfl⟩
 |n::ns,_,h=>by
  cases h with
  |cons r t =>
   obtain⟨tk,rfl⟩:=r
   obtain⟨xs,e1,e2⟩:=Fp t
   refine⟨#[(n,tk)]++xs,?_,?_⟩
   ·apply Array.toList_inj.mp
    have:=congrArg Array.toList e1
    simp[intItems]at this ⊢
    exact this
   ·simp[e2]
def zpH (hK:X.K=K)(hc:X.calm=true):YQ X (.builtin "max") (zxB K):=fun Z9 s U H xs us Q I r h=>by
 subst hK
 obtain⟨p,ns,rfl,hS,hne,q⟩:=h
 obtain⟨u,rfl,ru⟩:=vals1 r
 cases ru
 obtain⟨its,rv,pl,hz⟩:=I.list hS
 obtain⟨xs,e1,e2⟩:=Fp rv
 have hsz:0<xs.size:=by rw[<- qS,<- qc (f:=(·.1)),e2];exact hne
 refine max_intList (I.ok.hd hc) (e1▸pl.isList) hsz fun v h' tk hv hk=>?_
 obtain⟨t,rfl⟩:=intItems_at hv
 obtain⟨h1,h2⟩:=argBest_gt (numAt xs) (xs.size-1)
 refine⟨.int _,H,I.kept (t':=tk) hk,⟨t,rfl⟩,q _ ?_ fun a ha=>?_⟩
 ·rw[<- e2,numAt_eq];exact getD_mem (by rw[qc,qS];lia)
 ·rw[<- e2]at ha
  obtain⟨j,hj,rfl⟩:=mem_getD ha
  rw[qc,qS]at hj
  rw[<- numAt_eq];exact h2 j (by lia)
def jX (hK:X.K=K)(hc:X.calm=true):YQ X (.builtin "min") (jG K):=fun Z9 s U H xs us Q I r h=>by
 subst hK
 obtain⟨p,ns,rfl,hS,hne,q⟩:=h
 obtain⟨u,rfl,ru⟩:=vals1 r
 cases ru
 obtain⟨its,rv,pl,hz⟩:=I.list hS
 obtain⟨xs,e1,e2⟩:=Fp rv
 have hsz:0<xs.size:=by rw[<- qS,<- qc (f:=(·.1)),e2];exact hne
 refine min_intList (I.ok.hd hc) (e1▸pl.isList) hsz fun v h' tk hv hk=>?_
 obtain⟨t,rfl⟩:=intItems_at hv
 obtain⟨h1,h2⟩:=argBest_lt (numAt xs) (xs.size-1)
 refine⟨.int _,H,I.kept (t':=tk) hk,⟨t,rfl⟩,q _ ?_ fun a ha=>?_⟩
 ·rw[<- e2,numAt_eq];exact getD_mem (by rw[qc,qS];lia)
 ·rw[<- e2]at ha
  obtain⟨j,hj,rfl⟩:=mem_getD ha
  rw[qc,qS]at hj
  rw[<- numAt_eq];exact h2 j (by lia)
def zxr (K:PySem.W.Frag):List V->Hp->VK->Prop:=fun xs H Q=>∃ p ys,xs=[.ref p]/\((Zq K H p ys/\∀ l,H l=none->Q (.ref l) (upd H l (.tup ys)))\/(ZL K H p ys/\Q (.ref p) H))
def zpo (hK:X.K=K):YQ X (.type "tuple") (zxr K):=hK▸zky
end
section
variable {X:Cx}{K:PySem.W.Frag}
def zw1 (K:PySem.W.Frag):R2:=fun x y H Q=>∃ l b xs zs,x=.ref l/\y=.ref b/\Zq K H l xs/\Zq K H b zs/\xs.length+zs.length<=sizeLine/\∀ p,H p=none->Q (.ref p) (upd H p (.lst (xs++zs)))
def zt1 (hK:X.K=K):Zh X (binaryOp .Add) (zw1 K):=by
 subst hK
 intro Z9 s U H x y v u Q I rx ry h
 obtain⟨l,b,xs,zs,rfl,rfl,hH,hB,hz,q⟩:=h
 cases rx
 cases ry
 obtain⟨its,r,pl,_⟩:=I.list hH
 obtain⟨its2,r2,pl2,_⟩:=I.list hB
 obtain⟨⟨cls,dd,data,sl⟩,ho,hc,n,hd⟩:=pl.isList
 obtain⟨⟨cls2,dd2,data2,sl2⟩,ho2,hc2,n2,hd2⟩:=pl2.isList
 simp only at hc hd hc2 hd2
 subst hc hd hc2 hd2
 have e1:=r.length
 have e2:=r2.length
 refine concat_meets ⟨_,ho,rfl⟩ ⟨_,ho2,rfl⟩ noFill_list_add seq_list_add PySem.F.slot_list_add PySem.F.entry_list_add (PySem.F.args_list_add_2 _ _) (list_addW l b its.toArray its2.toArray n n2 dd dd2 sl sl2 (by rw[qo,qo];lia)) ⟨ho,ho2,?_⟩
 have ea:its.toArray++its2.toArray=(its++its2).toArray:=by simp
 rw[ea]
 exact⟨.ref _,_,I.lnew (t':=s.toks) (r.append r2) (by rw[qf];lia),rfl,q _ I.fresh⟩
end
section
variable {U:L2.St}{K:PySem.W.Frag}{own:List Str}{fv:List Nat}{g:TG}{tc:TT}{te:TE}{R:Hp->Prop}{H1:Hp}{p a:Addr}{xs:List V}
end
def Rx (H:Hp)(ps:List Addr)(cs:List (Int×Int)):Prop:=Paired (fun (p:Addr) (c:Int×Int)=>H p=some (.tup [.int c.1,.int c.2])) ps cs
theorem Rx.length {H:Hp}{ps:List Addr}{cs:List (Int×Int)}(h:Rx H ps cs):ps.length=cs.length:=Paired.length h
def Wh {α:Type}{xs:List α}{i:Nat}{x:α}(h:xs[i]?=some x):i<xs.length:=by
 rcases qP i xs.length with g|g
 ·exact g
 ·rw[qv g]at h;cases h
open PySem PySem.W PyProof.Rows
def ZJ {α:Type}(lt:Nat->Nat->Bool):KasT α->α
 |.ret a=>a
 |.ask i j k=>ZJ lt (k (lt i j))
theorem O4 {α β:Type}(lt:Nat->Nat->Bool)(f:α->KasT β):∀ t:KasT α,ZJ lt (t.bind f)=ZJ lt (f (ZJ lt t))
 |.ret _=>rfl
 |.ask i j k=>O4 lt f (k (lt i j))
structure VD (lt:Nat->Nat->Bool):Prop where
 asymm:∀ a b,lt a b=true->lt b a=false
 ntrans:∀ a b c,lt b a=false->lt c b=false->lt c a=false
section
variable {lt:Nat->Nat->Bool}
abbrev ga (p:Array Nat)(i:Nat):Nat:=p.getD i 0
def RK (p:Array Nat)(i:Nat):ga p i=(p[i]?).getD 0:=by simp[ga,Array.getD_eq_getD_getElem?]
def zqh {p:Array Nat}{src d:Nat}(hs:src<p.size)(hd:d<=src)(k:Nat):ga (bubble p src d) k=if k=src-d then ga p src else if src-d<k/\k<=src then ga p (k-1)else ga p k:=by
 rw[RK,getElem?_bubble hs d hd]
 by_cases h1:k=src-d
 ·rw[if_pos h1,if_pos h1,RK]
 ·rw[if_neg h1,if_neg h1]
  by_cases h2:src-d<k/\k<=src
  ·rw[if_pos h2,if_pos h2,RK]
  ·rw[if_neg h2,if_neg h2,RK]
def Uw {p:Array Nat}{i j:Nat}(hj:j<=p.size)(k:Nat):ga (kas_rev p i j) k=if i<=k/\k<j then ga p (i+j-1-k)else ga p k:=by
  unfold kas_rev
  rw[RK,getElem?_mirror_all hj]
  split<;>rw[RK]
def Wy (lt:Nat->Nat->Bool)(p:Array Nat)(n:Nat):Prop:=∀ i j,i<=j->j<n->lt (ga p j) (ga p i)=false
def W4 (lt:Nat->Nat->Bool)(p:Array Nat)(n:Nat):Prop:=∀ i j,i<=j->j<n->lt (ga p i) (ga p j)=false
def Eqs (lt:Nat->Nat->Bool)(p:Array Nat)(a b:Nat):Prop:=∀ i j,a<=i->i<b->a<=j->j<b->lt (ga p i) (ga p j)=false
def Tq (S:VD lt)(a:Nat):lt a a=false:=by
 cases h:lt a a with
 |false=>rfl
 |true=>have:=S.asymm a a h;rw[h]at this;exact this
def Wy.snoc (S:VD lt){p:Array Nat}{n:Nat}(h1:1<=n)(h:Wy lt p n)(hn:lt (ga p n) (ga p (n-1))=false):Wy lt p (n+1):=by
 intro i j hij hj
 rcases qP j n with g|g
 ·exact h i j hij g
 ·have e:j=n:=by lia
  subst e
  rcases qP i j with g'|g'
  ·exact S.ntrans (ga p i) (ga p (j-1)) (ga p j) (h i (j-1) (by lia) (by lia)) hn
  ·have:i=j:=by lia
   subst this
   exact Tq S _
def W4.snoc (S:VD lt){p:Array Nat}{n:Nat}(h1:1<=n)(h:W4 lt p n)(hn:lt (ga p (n-1)) (ga p n)=false):W4 lt p (n+1):=by
 intro i j hij hj
 rcases qP j n with g|g
 ·exact h i j hij g
 ·have e:j=n:=by lia
  subst e
  rcases qP i j with g'|g'
  ·exact S.ntrans (ga p j) (ga p (j-1)) (ga p i) hn (h i (j-1) (by lia) (by lia))
  ·have:i=j:=by lia
   subst this
   exact Tq S _
def W4.rev {p:Array Nat}{n:Nat}(hn:n<=p.size)(h:W4 lt p n):Wy lt (kas_rev p 0 n) n:=by
 intro i j hij hj
 rw[Uw hn,Uw hn,if_pos ⟨by lia,hj⟩,if_pos ⟨by lia,by lia⟩]
 exact h _ _ (by lia) (by lia)
def Wy.rev {p:Array Nat}{n:Nat}(hn:n<=p.size)(h:Wy lt p n):W4 lt (kas_rev p 0 n) n:=by
 intro i j hij hj
 rw[Uw hn,Uw hn,if_pos ⟨by lia,by lia⟩,if_pos ⟨by lia,by lia⟩]
 exact h _ _ (by lia) (by lia)
def W4.turn (S:VD lt){p:Array Nat}{n a:Nat}(hn:n<=p.size)(ha:a<=n)(h:W4 lt p n)(he:Eqs lt p a n):W4 lt (kas_rev p a n) n:=by
 intro i j hij hj
 rw[Uw hn,Uw hn]
 by_cases hi:a<=i
 ·rw[if_pos ⟨hi,by lia⟩,if_pos ⟨by lia,hj⟩]
  exact he _ _ (by lia) (by lia) (by lia) (by lia)
 ·rw[if_neg (by lia)]
  by_cases hj':a<=j
  ·rw[if_pos ⟨hj',hj⟩]
   exact h _ _ (by lia) (by lia)
  ·rw[if_neg (by lia)]
   exact h _ _ hij hj
def QX {p:Array Nat}{i j:Nat}:(kas_rev p i j).size=p.size:=mirror_size _ _ _ _
def Tn {p:Array Nat}{i j:Nat}:(kas_rev p i j).Perm p:=mirror_perm _ _ _ _
theorem Bw (S:VD lt)(p:Array Nat):∀ f n,1<=n->Wy lt p n->Wy lt p (ZJ lt (kas_asc p f n))/\n<=ZJ lt (kas_asc p f n)/\ZJ lt (kas_asc p f n)<=n+f/\(ZJ lt (kas_asc p f n)<n+f->lt (ga p (ZJ lt (kas_asc p f n))) (ga p (ZJ lt (kas_asc p f n)-1))=true)
 |0,n,_,h=>⟨h,qg _,qg _,fun z=>absurd z (Wj _)⟩
 |f+1,n,h1,h=>by
  cases hc:lt (ga p n) (ga p (n-1))with
  |true =>
   have e:ZJ lt (kas_asc p (f+1) n)=n:=by
    show ZJ lt (if lt (ga p n) (ga p (n-1))=true then KasT.ret n else kas_asc p f (n+1))=n
    rw[if_pos hc];rfl
   rw[e]
   exact⟨h,qg _,by lia,fun _=>hc⟩
  |false =>
   have e:ZJ lt (kas_asc p (f+1) n)=ZJ lt (kas_asc p f (n+1)):=by
    show ZJ lt (if lt (ga p n) (ga p (n-1))=true then KasT.ret n else kas_asc p f (n+1))=_
    rw[if_neg (by rw[hc];exact qu)]
   rw[e]
   obtain⟨a1,a2,a3,a4⟩:=Bw S p f (n+1) (by lia) (h.snoc S h1 hc)
   exact⟨a1,by lia,by lia,fun z=>a4 (by lia)⟩
theorem Jp (S:VD lt):∀ f (p:Array Nat) n q,1<=n->n+f<=p.size->q+1<=n->W4 lt p n->Eqs lt p (n-(q+1)) n ->
    let r:=ZJ lt (kas_desc f p n q)
    r.1.size=p.size/\r.1.Perm p/\n<=r.2.1/\r.2.1<=n+f/\r.2.2+1<=r.2.1/\W4 lt r.1 r.2.1/\Eqs lt r.1 (r.2.1-(r.2.2+1)) r.2.1
  |0,p,n,q,h1,hz,hq,h,he=>⟨rfl,Le _,qg _,qg _,hq,h,he⟩
  |f+1,p,n,q,h1,hz,hq,h,he=>by
    have one:∀ p':Array Nat,Eqs lt p' (n+1-(0+1)) (n+1):=fun p' i j a b c d=>by
      have e1:i=n:=by lia
      have e2:j=n:=by lia
      subst e1;subst e2
      exact Tq S _
    cases hc:lt (ga p n) (ga p (n-1))with
    |true =>
      have hn:lt (ga p (n-1)) (ga p n)=false:=S.asymm _ _ hc
      by_cases hq0:q > 0
      . have e : ZJ lt (kas_desc (f + 1) p n q) = ZJ lt (kas_desc f (kas_rev p (n - (q + 1)) n) (n + 1) 0) := by
          show ZJ lt (if lt (ga p n) (ga p (n-1))=true then(if q > 0 then kas_desc f (kas_rev p (n-(q+1)) n) (n+1) 0 else kas_desc f p (n+1) 0)else _)=_
          rw[if_pos hc,if_pos hq0]
        have ht:=h.turn S (a:=n-(q+1)) (by lia) (by lia) he
        have k1:ga (kas_rev p (n-(q+1)) n) n=ga p n:=by rw[Uw (by lia),if_neg (by lia)]
        have k2:ga (kas_rev p (n-(q+1)) n) (n-1)=ga p (n-(q+1)):=by
          rw[Uw (by lia),if_pos ⟨by lia,by lia⟩]
          congr 1;lia
        have hs:=W4.snoc S (p:=kas_rev p (n-(q+1)) n) h1 ht (by
          rw[k1,k2]
          exact S.ntrans (ga p n) (ga p (n-1)) (ga p (n-(q+1))) hn (he _ _ (by lia) (by lia) (by lia) (by lia)))
        have ih:=Jp S f (kas_rev p (n-(q+1)) n) (n+1) 0 (by lia) (by rw[QX];lia) (by lia) hs (one _)
        rw[e]
        obtain⟨a1,a2,a3,a4,a5,a6,a7⟩:=ih
        exact⟨a1.trans QX,a2.trans Tn,by lia,by lia,a5,a6,a7⟩
      . have e : ZJ lt (kas_desc (f + 1) p n q) = ZJ lt (kas_desc f p (n + 1) 0) := by
          show ZJ lt (if lt (ga p n) (ga p (n-1))=true then(if q > 0 then kas_desc f (kas_rev p (n-(q+1)) n) (n+1) 0 else kas_desc f p (n+1) 0)else _)=_
          rw[if_pos hc,if_neg hq0]
        have ih:=Jp S f p (n+1) 0 (by lia) (by lia) (by lia) (h.snoc S h1 hn) (one _)
        rw[e]
        obtain⟨a1,a2,a3,a4,a5,a6,a7⟩:=ih
        exact⟨a1,a2,by lia,by lia,a5,a6,a7⟩
    |false =>
      cases hd:lt (ga p (n-1)) (ga p n)with
      |true =>
        have e:ZJ lt (kas_desc (f+1) p n q)=(p,n,q):=by
          show ZJ lt (if lt (ga p n) (ga p (n-1))=true then _ else KasT.ask (ga p (n-1)) (ga p n) fun d=>if d=true then .ret (p,n,q)else kas_desc f p (n+1) (q+1))=_
          rw[if_neg (by rw[hc];exact qu)]
          show ZJ lt (if lt (ga p (n-1)) (ga p n)=true then _ else _)=_
          rw[if_pos hd];rfl
        rw[e]
        exact⟨rfl,Le _,qg _,by show n<=_;lia,hq,h,he⟩
      |false =>
        have e:ZJ lt (kas_desc (f+1) p n q)=ZJ lt (kas_desc f p (n+1) (q+1)):=by
          show ZJ lt (if lt (ga p n) (ga p (n-1))=true then _ else KasT.ask (ga p (n-1)) (ga p n) fun d=>if d=true then .ret (p,n,q)else kas_desc f p (n+1) (q+1))=_
          rw[if_neg (by rw[hc];exact qu)]
          show ZJ lt (if lt (ga p (n-1)) (ga p n)=true then _ else _)=_
          rw[if_neg (by rw[hd];exact qu)]
        have heq:Eqs lt p (n+1-(q+1+1)) (n+1):=by
          intro i j a b c d
          rcases qP i n with gi|gi<;>rcases qP j n with gj|gj
          . exact he i j (by lia) gi (by lia) gj
          . have:j=n:=by lia
            subst this
            exact S.ntrans (ga p j) (ga p (j-1)) (ga p i) hd (he i (j-1) (by lia) gi (by lia) (by lia))
          . have:i=n:=by lia
            subst this
            exact S.ntrans (ga p j) (ga p (i-1)) (ga p i) (he (i-1) j (by lia) (by lia) (by lia) gj) hc
          . have e1:i=n:=by lia
            have e2:j=n:=by lia
            subst e1;subst e2
            exact Tq S _
        have ih:=Jp S f p (n+1) (q+1) (by lia) (by lia) (by lia) (h.snoc S h1 hd) heq
        rw[e]
        obtain⟨a1,a2,a3,a4,a5,a6,a7⟩:=ih
        exact⟨a1,a2,by lia,by lia,a5,a6,a7⟩
def J8 (lt:Nat->Nat->Bool)(p:Array Nat)(nrem:Nat)(r:Nat×Array Nat):Prop:=r.2.size=p.size/\r.2.Perm p/\1<=r.1/\r.1<=nrem/\Wy lt r.2 r.1
def uY (S:VD lt){p:Array Nat}{n nrem:Nat}(h1:1<=n)(hn:n<=nrem)(hz:nrem<=p.size)(h:W4 lt p n):J8 lt p nrem (ZJ lt (kas_tail3 n nrem p)):=by
 have e:ZJ lt (kas_tail3 n nrem p)=(ZJ lt (kas_asc (kas_rev p 0 n) (nrem-n) n),kas_rev p 0 n):=by
  unfold kas_tail3;rw[O4];rfl
 rw[e]
 obtain⟨a1,a2,a3,_⟩:=Bw S (kas_rev p 0 n) (nrem-n) n h1 (h.rev (by lia))
 exact⟨QX,Tn,by show 1<=ZJ lt _;lia,by show ZJ lt _<=nrem;lia,a1⟩
def Ar (S:VD lt){p:Array Nat}{n nrem:Nat}(h1:1<=n)(hn:n+1<=nrem)(hz:nrem<=p.size)(h:W4 lt p (n+1)):J8 lt p nrem (ZJ lt (kas_descPart n nrem p)):=by
 unfold kas_descPart
 rw[O4]
 have d:=Jp S (nrem-(n+1)) p (n+1) 0 (by lia) (by lia) (by lia) h (fun i j a b c d=>by
  have e1:i=n:=by lia
  have e2:j=n:=by lia
  subst e1;subst e2
  exact Tq S _)
 dsimp only at d
 generalize ZJ lt (kas_desc (nrem-(n+1)) p (n+1) 0)=r at d ⊢
 obtain⟨a1,a2,a3,a4,a5,a6,a7⟩:=d
 by_cases hq:r.2.2 > 0
 ·rw[if_pos hq]
  obtain⟨b1,b2,b3,b4,b5⟩:=uY S (p:=kas_rev r.1 (r.2.1-(r.2.2+1)) r.2.1) (n:=r.2.1) (nrem:=nrem) (by lia) (by lia) (by rw[QX];lia) (a6.turn S (by lia) (by lia) a7)
  exact⟨b1.trans (QX.trans a1),b2.trans (Tn.trans a2),b3,b4,b5⟩
 ·rw[if_neg hq]
  obtain⟨b1,b2,b3,b4,b5⟩:=uY S (p:=r.1) (n:=r.2.1) (nrem:=nrem) (by lia) (by lia) (by lia) a6
  exact⟨b1.trans a1,b2.trans a2,b3,b4,b5⟩
def jP (S:VD lt){p:Array Nat}{nrem:Nat}(h1:1<=nrem)(hz:nrem<=p.size):J8 lt p nrem (ZJ lt (kas_count nrem p)):=by
 unfold kas_count
 rw[O4]
 have h0:Wy lt p 1:=fun i j a b=>by
  have e1:i=0:=by lia
  have e2:j=0:=by lia
  subst e1;subst e2
  exact Tq S _
 obtain⟨a1,a2,a3,a4⟩:=Bw S p (nrem-1) 1 (qg _) h0
 generalize ZJ lt (kas_asc p (nrem-1) 1)=n at a1 a2 a3 a4 ⊢
 by_cases hn:(n==nrem)=true
 ·rw[if_pos hn]
  have:n=nrem:=by simpa using hn
  exact⟨rfl,Le _,a2,by show n<=nrem;lia,a1⟩
 ·rw[if_neg hn]
  have hne:n≠nrem:=by simpa using hn
  have hlt:=a4 (by lia)
  by_cases hn1:n > 1
  ·rw[if_pos hn1]
   show J8 lt p nrem (ZJ lt (if lt (ga p 0) (ga p (n-1))=true then KasT.ret (n,p)else kas_descPart n nrem (kas_rev p 0 n)))
   cases hc:lt (ga p 0) (ga p (n-1))with
   |true=>rw[if_pos rfl];exact⟨rfl,Le _,a2,by show n<=nrem;lia,a1⟩
   |false =>
    rw[if_neg qu]
    have hd:=a1.rev (n:=n) (by lia)
    have hs:=W4.snoc S (p:=kas_rev p 0 n) a2 hd (by
     have k1:ga (kas_rev p 0 n) n=ga p n:=by rw[Uw (by lia),if_neg (by lia)]
     have k2:ga (kas_rev p 0 n) (n-1)=ga p 0:=by rw[Uw (by lia),if_pos ⟨by lia,by lia⟩];congr 1;lia
     rw[k1,k2]
     exact S.ntrans (ga p n) (ga p (n-1)) (ga p 0) (S.asymm _ _ hlt) hc)
    obtain⟨b1,b2,b3,b4,b5⟩:=Ar S (p:=kas_rev p 0 n) (n:=n) (nrem:=nrem) a2 (by lia) (by rw[QX];lia) hs
    exact⟨b1.trans QX,b2.trans Tn,b3,b4,b5⟩
  ·rw[if_neg hn1]
   have e:n=1:=by lia
   subst e
   exact Ar S (qg _) (by lia) hz (W4.snoc S (qg _) (fun i j a b=>by
    have e1:i=0:=by lia
    have e2:j=0:=by lia
    subst e1;subst e2
    exact Tq S _) (S.asymm _ _ hlt))
theorem CK (S:VD lt){p:Array Nat}{k:Nat}(h:Wy lt p k):∀ f l r,l<=r->r<=k->r-l<=f->(∀ i,i<l->lt (ga p k) (ga p i)=false)->(∀ i,r<=i->i<k->lt (ga p k) (ga p i)=true) ->
  let m:=ZJ lt (kas_place p k f l r)
  m<=k/\(∀ i,i<m->lt (ga p k) (ga p i)=false)/\(∀ i,m<=i->i<k->lt (ga p k) (ga p i)=true)
 |0,l,r,h1,h2,h3,hl,hr=>by
  have:l=r:=by lia
  subst this
  exact⟨h2,hl,hr⟩
 |f+1,l,r,h1,h2,h3,hl,hr=>by
  by_cases hlr:l ≥ r
  ·have e:ZJ lt (kas_place p k (f+1) l r)=l:=by
    unfold kas_place;rw[if_pos hlr];rfl
   rw[e]
   have:l=r:=by lia
   subst this
   exact⟨h2,hl,hr⟩
  ·have e:ZJ lt (kas_place p k (f+1) l r)=ZJ lt (if lt (ga p k) (ga p ((l+r)/2))=true then kas_place p k f l ((l+r)/2)else kas_place p k f ((l+r)/2+1) r):=by
    conv=>lhs;unfold kas_place
    rw[if_neg hlr];rfl
   rw[e]
   cases hc:lt (ga p k) (ga p ((l+r)/2))with
   |true =>
    rw[if_pos rfl]
    refine CK S h f l ((l+r)/2) (by lia) (by lia) (by lia) hl fun i hi hik=>?_
    cases hx:lt (ga p k) (ga p i)with
    |true=>rfl
    |false =>
     have:=S.ntrans (ga p ((l+r)/2)) (ga p i) (ga p k) (h _ _ hi hik) hx
     rw[hc]at this;exact this.symm
   |false =>
    rw[if_neg qu]
    refine CK S h f ((l+r)/2+1) r (by lia) h2 (by lia) (fun i hi=>?_) hr
    exact S.ntrans (ga p i) (ga p ((l+r)/2)) (ga p k) (h _ _ (by lia) (by lia)) hc
theorem tW (S:VD lt):∀ f (p:Array Nat) k,k+f<=p.size->Wy lt p k->let r:=ZJ lt (kas_bin f p k);r.size=p.size/\r.Perm p/\Wy lt r (k+f)
 |0,p,k,_,h=>⟨rfl,Le _,h⟩
 |f+1,p,k,hz,h=>by
  have e:ZJ lt (kas_bin (f+1) p k)=ZJ lt (kas_bin f (bubble p k (k-ZJ lt (kas_place p k k 0 k))) (k+1)):=by
   show ZJ lt ((kas_place p k k 0 k).bind fun l=>kas_bin f (bubble p k (k-l)) (k+1))=_
   rw[O4]
  rw[e]
  obtain⟨m1,m2,m3⟩:=CK S h k 0 k (qO _) (qg _) (by lia) (fun i hi=>absurd hi (by lia)) (fun i hi hik=>absurd hi (by lia))
  generalize ZJ lt (kas_place p k k 0 k)=m at m1 m2 m3 ⊢
  have hb:∀ i,ga (bubble p k (k-m)) i=if i=m then ga p k else if m<i/\i<=k then ga p (i-1)else ga p i:=fun i=>by
   rw[zqh (by lia) (by lia),show k-(k-m)=m by lia]
  have hs:Wy lt (bubble p k (k-m)) (k+1):=by
   intro i j hij hj
   rw[hb,hb]
   by_cases hi:i=m
   ·rw[if_pos hi]
    by_cases hjm:j=m
    ·rw[if_pos hjm];exact Tq S _
    ·rw[if_neg hjm,if_pos ⟨by lia,by lia⟩]
     exact S.asymm _ _ (m3 (j-1) (by lia) (by lia))
   ·rw[if_neg hi]
    by_cases hjm:j=m
    ·rw[if_pos hjm,if_neg (by lia)]
     exact m2 i (by lia)
    ·rw[if_neg hjm]
     by_cases hi2:m<i
     ·rw[if_pos (show m<i/\i<=k from ⟨hi2,by lia⟩),if_pos (show m<j/\j<=k from ⟨by lia,by lia⟩)]
      exact h _ _ (by lia) (by lia)
     ·rw[if_neg (show ¬ (m<i/\i<=k) by lia)]
      by_cases hj2:m<j
      ·rw[if_pos (show m<j/\j<=k from ⟨hj2,by lia⟩)]
       exact h _ _ (by lia) (by lia)
      ·rw[if_neg (show ¬ (m<j/\j<=k) by lia)]
       exact h _ _ hij (by lia)
  obtain⟨a1,a2,a3⟩:=tW S f (bubble p k (k-m)) (k+1) (by rw[bubble_size];lia) hs
  exact⟨a1.trans (bubble_size _ _ _),a2.trans (bubble_perm _ _ _),by rw[show k+(f+1)=k+1+f by lia];exact a3⟩
def zuq (S:VD lt){n:Nat}(h1:1<=n):(ZJ lt (kas_sort n)).size=n/\(ZJ lt (kas_sort n)).Perm (List.toArray (List.range n))/\Wy lt (ZJ lt (kas_sort n)) n:=by
 unfold kas_sort
 rw[O4]
 obtain⟨a1,a2,a3,a4,a5⟩:=jP S (p:=List.toArray (List.range n)) (nrem:=n) h1 (by simp)
 generalize ZJ lt (kas_count n (List.toArray (List.range n)))=r at a1 a2 a3 a4 a5 ⊢
 have hsz:(List.toArray (List.range n)).size=n:=by simp
 by_cases hr:r.1<n
 ·rw[if_pos hr]
  have em:max r.1 1=r.1:=by lia
  rw[em]
  obtain⟨b1,b2,b3⟩:=tW S (n-r.1) r.2 r.1 (by lia) a5
  exact⟨b1.trans (a1.trans hsz),b2.trans a2,by rw[show r.1+(n-r.1)=n by lia]at b3;exact b3⟩
 ·rw[if_neg hr]
  have e:r.1=n:=by lia
  rw[e]at a5
  exact⟨a1.trans hsz,a2,a5⟩
def Yd {α:Type}(n:Nat)(post:α->Prop):KasT α->Prop
 |.ret a=>post a
 |.ask i j k=>i<n/\j<n/\∀ b,Yd n post (k b)
theorem Yd.bind {α β:Type}{n:Nat}{post:α->Prop}{post':β->Prop}{f:α->KasT β}(hf:∀ a,post a->Yd n post' (f a)):∀ (t:KasT α),Yd n post t->Yd n post' (t.bind f)
 |.ret a,h=>hf a h
 |.ask i j k,h=>⟨h.1,h.2.1,fun b=>Yd.bind hf (k b) (h.2.2 b)⟩
def Ent (n:Nat)(p:Array Nat):Prop:=∀ x∈p.toList,x<n
theorem Ent.at {n:Nat}{p:Array Nat}(h0:0<n)(h:Ent n p)(i:Nat):ga p i<n:=by
 rw[RK]
 cases e:p[i]? with
 |none=>exact h0
 |some x =>
  rw[<- Pr]at e
  exact h x (qe e)
def Ent.perm {n:Nat}{p r:Array Nat}(hp:r.Perm p)(h:Ent n p):Ent n r:=fun x hx=>h x ((Array.perm_iff_toList_perm.mp hp).mem_iff.mp hx)
theorem Ep {n:Nat}{p:Array Nat}(h0:0<n)(h:Ent n p):∀ f k,Yd n (fun _=>True) (kas_asc p f k)
 |0,_=>trivial
 |f+1,k=>⟨h.at h0 _,h.at h0 _,fun b=>by
  cases b with
  |true=>exact trivial
  |false=>exact Ep h0 h f (k+1)⟩
theorem HX {n:Nat}(h0:0<n):∀ f (p:Array Nat) k q,Ent n p->Yd n (fun r=>Ent n r.1) (kas_desc f p k q)
 |0,p,k,q,h=>h
 |f+1,p,k,q,h=>⟨h.at h0 _,h.at h0 _,fun b=>by
  cases b with
  |true =>
   show Yd n _ (if q > 0 then _ else _)
   by_cases hq:q > 0
   ·rw[if_pos hq];exact HX h0 f _ _ _ (h.perm Tn)
   ·rw[if_neg hq];exact HX h0 f _ _ _ h
  |false=>exact⟨h.at h0 _,h.at h0 _,fun d=>by
    cases d with
    |true=>exact h
    |false=>exact HX h0 f _ _ _ h⟩⟩
def pI {n k m:Nat}{p:Array Nat}(h0:0<n)(h:Ent n p):Yd n (fun r=>Ent n r.2) (kas_tail3 k m p):=by
 refine Yd.bind (post:=fun _=>True) (fun r _=>?_) _ (Ep h0 (h.perm Tn) _ _)
 exact h.perm Tn
def Ai {n k m:Nat}{p:Array Nat}(h0:0<n)(h:Ent n p):Yd n (fun r=>Ent n r.2) (kas_descPart k m p):=by
 refine Yd.bind (post:=fun r=>Ent n r.1) (fun r hr=>?_) _ (HX h0 _ _ _ _ h)
 by_cases hq:r.2.2 > 0
 ·rw[if_pos hq];exact pI h0 (hr.perm Tn)
 ·rw[if_neg hq];exact pI h0 hr
def zqZ {n m:Nat}{p:Array Nat}(h0:0<n)(h:Ent n p):Yd n (fun r=>Ent n r.2) (kas_count m p):=by
 refine Yd.bind (post:=fun _=>True) (fun k _=>?_) _ (Ep h0 h _ _)
 by_cases hk:(k==m)=true
 ·rw[if_pos hk];exact h
 ·rw[if_neg hk]
  by_cases h1:k > 1
  ·rw[if_pos h1]
   refine⟨h.at h0 _,h.at h0 _,fun c=>?_⟩
   cases c with
   |true=>exact h
   |false=>exact Ai h0 (h.perm Tn)
  ·rw[if_neg h1];exact Ai h0 h
theorem CT {n:Nat}{p:Array Nat}{k:Nat}(h0:0<n)(h:Ent n p):∀ f l r,Yd n (fun _=>True) (kas_place p k f l r)
 |0,_,_=>trivial
 |f+1,l,r=>by
  unfold kas_place
  by_cases hl:l ≥ r
  ·rw[if_pos hl];exact trivial
  ·rw[if_neg hl]
   refine⟨h.at h0 _,h.at h0 _,fun c=>?_⟩
   cases c with
   |true=>exact CT h0 h f _ _
   |false=>exact CT h0 h f _ _
theorem pW {n:Nat}(h0:0<n):∀ f (p:Array Nat) k,Ent n p->Yd n (fun r=>Ent n r) (kas_bin f p k)
 |0,p,k,h=>h
 |f+1,p,k,h=>Yd.bind (post:=fun _=>True) (fun l _=>pW h0 f _ _ (h.perm (bubble_perm _ _ _))) _ (CT h0 h _ _ _)
def gb {n:Nat}(h0:0<n):Yd n (fun _=>True) (kas_sort n):=by
 refine Yd.bind (post:=fun r=>Ent n r.2) (fun r hr=>?_) _ (zqZ h0 (p:=List.toArray (List.range n)) (fun x hx=>by simpa using hx))
 by_cases h:r.1<n
 ·rw[if_pos h]
  have hb:=pW h0 (n-max r.1 1) r.2 (max r.1 1) hr
  clear h
  generalize kas_bin (n-max r.1 1) r.2 (max r.1 1)=t at hb
  induction t with
  |ret a=>exact trivial
  |ask i j k ih=>exact⟨hb.1,hb.2.1,fun b=>ih b (hb.2.2 b)⟩
 ·rw[if_neg h];exact trivial
end
open PySem PySem.Spec PySem.W PyProof.Rows L2
def Xl (a b:Int×Int):Bool:=if a.1=b.1 then decide (a.2<b.2)else decide (a.1<b.1)
def tY (cs:List (Int×Int)):VD fun i j=>Xl (cs.getD i (0,0)) (cs.getD j (0,0)) where
  asymm:=fun a b h=>by
    unfold Xl at h ⊢
    generalize cs.getD a (0,0)=A at *
    generalize cs.getD b (0,0)=B at *
    split at h<;>split<;>simp at h ⊢<;>lia
  ntrans:=fun a b c h1 h2=>by
    unfold Xl at h1 h2 ⊢
    generalize cs.getD a (0,0)=A at *
    generalize cs.getD b (0,0)=B at *
    generalize cs.getD c (0,0)=C at *
    split at h1<;>split at h2<;>split<;>simp at h1 h2 ⊢<;>lia
def QB (h:Heap)(v:Value)(c:Int×Int):Prop:=∃ (a:Addr) (o:Obj) (n:Nat) (t u:Tok),v=.ref a/\h.get? a=some o/\o.cls=.type "tuple"/\o.data=.seq #[.int c.1 t,.int c.2 u] n
theorem rB {α:Type}{cmp:Nat->Nat->(Bool->Shared->Prop)->Shared->Prop}{lt:Nat->Nat->Bool}{n:Nat}{s:Shared}(hc:∀ i j C,i<n->j<n->C (lt i j) s->cmp i j C s){post:α->Prop}(Q:α->Shared->Prop) :
  ∀ t:KasT α,Yd n post t->Q (ZJ lt t) s->t.kasWp cmp Q s
 |.ret _,_,q=>q
 |.ask i j k,h,q=>hc i j _ h.1 h.2.1 (rB hc Q (k (lt i j)) (h.2.2 _) q)
section
variable {prog:Program}{w:World}{A:Around}{E:Value->Shared->Prop}{s:Shared}
def zqv {v v':Value}{c d:Int×Int}{Q:Bool->Shared->Prop}(h1:QB s.heap v c)(h2:QB s.heap v' d)(q:Q (Xl c d) s):wpAny (model prog w) A (keyLt' (tuples' true) v v') Q E s:=by
 obtain⟨a,o,n,t,u,rfl,ho,_,hd⟩:=h1
 obtain⟨a',o',n',t',u',rfl,ho',_,hd'⟩:=h2
 refine kat_lt ho hd ho' hd' ?_
 show KatLex prog w A true _ Q [(.int c.1 t,.int d.1 t'),(.int c.2 u,.int d.2 u')] 0 s
 refine kat_cons (wpAny_eqBool_int ?_)
 by_cases e:c.1=d.1
 ·rw[show(c.1==d.1)=true by simpa using e]
  refine kat_yes (kat_cons (wpAny_eqBool_int ?_))
  by_cases e2:c.2=d.2
  ·rw[show(c.2==d.2)=true by simpa using e2]
   refine kat_yes (kat_nil ?_)
   have:Xl c d=false:=by unfold Xl;rw[if_pos e,e2];simp
   rw[this]at q
   exact q
  ·rw[show(c.2==d.2)=false by simpa using e2]
   refine kat_no ?_
   show wpAny (model prog w) A (oneLt' false _ _) Q _ s
   refine kat_one _ _ (lt_int ?_)
   have:Xl c d=decide (c.2<d.2):=by unfold Xl;rw[if_pos e]
   rw[this]at q
   exact q
 ·rw[show(c.1==d.1)=false by simpa using e]
  refine kat_no ?_
  show wpAny (model prog w) A (oneLt' true _ _) Q _ s
  refine oneLt_int ?_
  have:Xl c d=decide (c.1<d.1):=by unfold Xl;rw[if_neg e]
  rw[this]at q
  exact q
theorem vO {h:Heap}:∀ {vs:List Value} {cs:List (Int×Int)},Paired (QB h) vs cs->∃ fs:List Value,KatTups h vs fs/\fs.length=vs.length/\∀ f∈fs,∃ i t,f=.int i t
 |_,_,.nil=>⟨[],trivial,rfl,fun f hf=>absurd hf (by simp)⟩
 |_,_,.cons (a:=v) (b:=c) r t=>by
  obtain⟨fs,k,hl,hf⟩:=vO t
  obtain⟨a,o,n,tk,u,rfl,ho,hc,hd⟩:=r
  refine⟨.int c.1 tk::fs,KatTups.cons ho hc hd rfl k,by simp[hl],fun f hm=>?_⟩
  rcases qh.mp hm with rfl|hm
  ·exact⟨_,_,rfl⟩
  ·exact hf f hm
theorem JB {α β:Type}{F:α->β->Prop}{da:α}{db:β}:∀ {l:List α} {m:List β},Paired F l m->∀ i,i<l.length->F (l.getD i da) (m.getD i db)
 |_,_,.nil,i,h=>absurd h (by simp)
 |_,_,.cons r _,0,_=>r
 |_::_,_::_,.cons _ t,i+1,h=>JB (da:=da) (db:=db) t i (by simpa using h)
def zis {a:Addr}{vs:List Value}{cs:List (Int×Int)}{n:Nat}{P:PySem.Fin->Shared->Prop}(ho:s.heap.get? a=some (seqObj "list" vs.toArray n))(hv:Paired (QB s.heap) vs cs)(h64:vs.length<64)
  (h:∀ p:List Nat,p.Perm (List.range vs.length)->(∀ i j,i<=j->j<vs.length->Xl (cs.getD (p.getD j 0) (0,0)) (cs.getD (p.getD i 0) (0,0))=false) ->
   P (.done (.ret .none)) { s with heap:=sortedHeap s.heap a vs (p.map fun i=>vs.getD i Value.none).toArray }) :
  wpAny (model prog w) A (Builtin.«list.sort» ⟨[.ref a],[]⟩) P E s:=by
 rw[list_sort_plain]
 have ha:a<s.heap.objs.size:=qr ho
 refine wpAny_bind (listItems_at ho rfl ?_)
 refine wpAny_bind (listUpdate_at ho rfl ?_)
 obtain⟨e1,ho1⟩:∃ e1,(s.heap.update a (Obj.mapSeq fun _=>#[])).get? a=some (seqObj "list" #[] e1):=⟨_,get?_update_seq ho (fun _=>#[])⟩
 refine wpAny_bind (seqEpoch_at ho1 rfl ?_)
 refine wpAny_bind (wpAny_newTuple ?_)
 refine wpAny_bind (wpAny_newList ?_)
 refine wpAny_holding ?_
 have ho6:(((s.heap.update a (Obj.mapSeq fun _=>#[])).push (seqObj "tuple" vs.toArray 0)).push (seqObj "list" #[] 0)).get? a=some (seqObj "list" #[] e1):=by
  rw[Oa _ _ _ (by rw[size_push',Lj];exact qL (MF ha)),Oa _ _ _ (by rw[Lj];exact qL ha)]
  exact ho1
 have keep:∀ b u,b≠a->s.heap.get? b=some u->(((s.heap.update a (Obj.mapSeq fun _=>#[])).push (seqObj "tuple" vs.toArray 0)).push (seqObj "list" #[] 0)).get? b=some u:=fun b u hb hu=>by
  have hlt:b<s.heap.objs.size:=qr hu
  rw[Oa _ _ _ (by rw[size_push',Lj];exact qL (MF hlt)),Oa _ _ _ (by rw[Lj];exact qL hlt),Heap.get?_update_ne _ _ _ _ hb]
  exact hu
 have hv6:Paired (QB (((s.heap.update a (Obj.mapSeq fun _=>#[])).push (seqObj "tuple" vs.toArray 0)).push (seqObj "list" #[] 0))) vs cs:=Paired.imp' (fun v c hp=>by
  obtain⟨b,o,m,t,u,rfl,hb,hc,hd⟩:=hp
  refine⟨b,o,m,t,u,rfl,keep b o (fun e=>?_) hb,hc,hd⟩
  subst e
  rw[ho]at hb
  cases hb
  injection hc with hc
  exact absurd hc (by decide)) hv
 show wpAny (model prog w) A _ P E { s with heap:=((s.heap.update a (Obj.mapSeq fun _=>#[])).push (seqObj "tuple" vs.toArray 0)).push (seqObj "list" #[] 0) }
 have hh:sortedHeap s.heap a vs=fun out=>(((s.heap.update a (Obj.mapSeq fun _=>#[])).push (seqObj "tuple" vs.toArray 0)).push (seqObj "list" #[] 0)).update a (Obj.mapSeq fun _=>out):=rfl
 rw[hh]at h
 generalize ((s.heap.update a (Obj.mapSeq fun _=>#[])).push (seqObj "tuple" vs.toArray 0)).push (seqObj "list" #[] 0)=h6 at *
 dsimp only
 have hsz:vs.toArray.size=vs.length:=by simp
 by_cases h2:vs.toArray.size<2
 ·rw[if_pos h2,if_pos h2]
  refine wpAny_bind (wpAny_pure ?_)
  rw[StateT.run_pure]
  refine wpAny_bind (wpAny_pure ?_)
  dsimp only
  refine wpAny_bind (seqEpoch_at ho6 rfl ?_)
  refine wpAny_bind (listUpdate_at ho6 rfl ?_ (hsz2:=by rw[Array.size_map];show(pairsOf vs).size<=_;rw[pairsOf_size,sizeLine_eq];lia))
  simp only[bne_self_eq_false,IV,if_false]
  have q:=h (List.range vs.length) (List.Perm.refl _) (fun i j hij hj=>by
   have e1:i=0:=by lia
   have e2:j=0:=by lia
   subst e1;subst e2
   exact Tq (tY cs) _)
  have eo:(List.map (fun i=>vs.getD i Value.none) (List.range vs.length)).toArray=Array.map (·.2) (vs.toArray.zip vs.toArray):=by
   have hz:vs.length<2:=by lia
   clear q h hv6 hh hv ho h64 hsz h2
   match vs,hz with
   |[],_=>simp
   |[x],_=>simp[Iv]
  rw[eo]at q
  exact wpAny_pure q
 ·rw[if_neg h2,if_neg h2]
  have hn2:2<=vs.length:=by lia
  obtain⟨fs,kt,hfl,hfi⟩:=vO hv6
  refine wpAny_bind (kat_kind (s:={ s with heap:=h6 }) (T:=.type "int") kt (by lia) (fun v hm=>?_) (by rfl) ?_)
  ·obtain⟨i,t,rfl⟩:=hfi v hm
   exact Looks.of_pure rfl
  have cmp:∀ (i j:Nat) (C:Bool->Shared->Prop),i<vs.length->j<vs.length->C (Xl (cs.getD i (0,0)) (cs.getD j (0,0))) { s with heap:=h6 }->kas_ask prog w A (tuples' (Value.type "int" != Value.type "tuple")) vs i j C { s with heap:=h6 }:=fun i j C hi hj hC =>
   zqv (s:={ s with heap:=h6 }) (JB hv6 i hi) (JB hv6 j hj) hC
  refine wpAny_bind (wpAny_mono (kat_run (ks:=vs) (vs:=vs) (Q:=fun st' s'=>∃ p:Array Nat,p=ZJ (fun i j=>Xl (cs.getD i (0,0)) (cs.getD j (0,0))) (kas_sort vs.length)/\s'={ s with heap:=h6 }/\arrOf st'=p.map (kas_item (vs.toArray.zip vs.toArray))/\failedOf st'=none)
   (G:=fun p s'=>p=ZJ (fun i j=>Xl (cs.getD i (0,0)) (cs.getD j (0,0))) (kas_sort vs.length)/\s'={ s with heap:=h6 }) rfl hn2 h64 (fun p' st' s' a1 a2 a3 a4=>⟨p',a4.1,a4.2,a2,a3⟩) (rB cmp _ _ (gb (by lia)) ⟨rfl,rfl⟩)) ?_ fun _ _ e=>e)
  rintro⟨⟨⟩,st'⟩ s' ⟨p,hp,rfl,har,hf⟩
  dsimp only
  obtain⟨z1,z2,z3⟩:=zuq (tY cs) (n:=vs.length) (by lia)
  rw[<- hp]at z1 z2 z3
  have hout:=kat_snds (vs:=vs) (ks:=vs) rfl har
  have hsz2:(List.toArray (p.toList.map fun i=>vs.getD i Value.none)).size=vs.length:=by rw[qo,qc,qS,z1]
  rw[hout]
  refine wpAny_bind (seqEpoch_at ho6 rfl ?_)
  refine wpAny_bind (listUpdate_at ho6 rfl ?_ (hsz2:=by rw[hsz2,sizeLine_eq];lia))
  rw[hf]
  simp only[bne_self_eq_false,IV,if_false]
  refine wpAny_pure (h p.toList ?_ fun i j hij hj=>?_)
  ·have:=Array.perm_iff_toList_perm.mp z2
   simpa using this
  ·have e:∀ k,p.toList.getD k 0=ga p k:=fun k=>by rw[RK,qE,Pr]
   rw[e,e]
   exact z3 i j hij hj
def zk4 {l:Addr}{vs:List Value}{cs:List (Int×Int)}{Q:Value->Shared->Prop}(hl:s.heap.IsList l vs.toArray)(hv:Paired (QB s.heap) vs cs)(h64:vs.length<64)
    (h:∀ p:List Nat,p.Perm (List.range vs.length)->(∀ i j,i<=j->j<vs.length->Xl (cs.getD (p.getD j 0) (0,0)) (cs.getD (p.getD i 0) (0,0))=false) ->
      Q (.ref (s.heap.objs.size+1)) { s with heap:=sortedAll s.heap vs (p.map fun i=>vs.getD i Value.none).toArray }) :
    wpAny (model prog w) A (call (.builtin "sorted") [.ref l]) Q E s:=by
  refine Calls.call_function_entry kind_sorted plain_sorted entry_sorted (args_sorted1 _) ?_
  unfold Builtin.«sorted»
  refine wpAny_bind (m:=checkCount "sorted" 1 1 _) (wpAny_pure ?_)
  refine wpAny_bind (collect_list hl ?_)
  refine wpAny_bind (wpAny_newList ?_)
  have hsz:((s.heap.push (seqObj "list" #[] 0)).update s.heap.objs.size (Obj.mapSeq (·++vs.toArray))).objs.size=s.heap.objs.size+1:=by
    rw[Lj,size_push']
  have hoL:(((s.heap.push (seqObj "list" #[] 0)).update s.heap.objs.size (Obj.mapSeq (·++vs.toArray))).push (seqObj "list" vs.toArray 0)).get? (s.heap.objs.size+1)=some (seqObj "list" vs.toArray 0):=by
    rw[<- hsz];exact qq _ rfl
  have keep:∀ b o,s.heap.get? b=some o->(((s.heap.push (seqObj "list" #[] 0)).update s.heap.objs.size (Obj.mapSeq (·++vs.toArray))).push (seqObj "list" vs.toArray 0)).get? b=some o:=fun b o q=>by
    have hlt:b<s.heap.objs.size:=qr q
    rw[Oa _ _ _ (by rw[hsz];exact qL (MF hlt)),Heap.get?_update_ne _ _ _ _ (qL hlt),Oa _ _ _ (qL hlt)]
    exact q
  show wpAny _ _ _ _ _ { s with heap:=((s.heap.push (seqObj "list" #[] 0)).update s.heap.objs.size (Obj.mapSeq (·++vs.toArray))).push (seqObj "list" vs.toArray 0) }
  rw[hsz]
  refine wpAny_bind (wpAny_holding (wpAny_call_entry slot_list_sort ⟨_,hoL,rfl⟩ entry_list_sort (zis (s:={ s with heap:=((s.heap.push (seqObj "list" #[] 0)).update s.heap.objs.size (Obj.mapSeq (·++vs.toArray))).push (seqObj "list" vs.toArray 0) }) hoL (Paired.imp' (fun v c hp=>by
    obtain⟨b,o,m,t,u,e,hb,hc,hd⟩:=hp
    exact⟨b,o,m,t,u,e,keep b o hb,hc,hd⟩) hv) h64 fun p a1 a2=>⟨_,rfl,?_⟩) (args_list_sort _)))
  exact wpAny_pure ⟨_,rfl,h p a1 a2⟩
end
def zuC (K:PySem.W.Frag):List V->Hp->VK->Prop:=fun xs H Q=>∃ (p:Addr) (ps:List Addr) (cs:List (Int×Int)),xs=[.ref p]/\Zq K H p (ps.map V.ref)/\Rx H ps cs/\cs.length<64 /\
 ∀ (l:Addr) (ps':List Addr) (cs':List (Int×Int)),H l=none->Rx H ps' cs'->cs'.Perm cs->cs'.Pairwise (fun a b=>Xl b a=false)->Q (.ref l) (upd H l (.lst (ps'.map V.ref)))
theorem rZ:∀ {ps:List Addr} {its:List Value},Vals (ps.map V.ref) its->its=ps.map Value.ref
 |[],_,h=>by cases h;rfl
 |p::ps,_,h=>by
  cases h with
  |cons r t =>
   have:=rZ t
   cases r
   rw[this];rfl
theorem wg:∀ ps:List Addr,Vals (ps.map V.ref) (ps.map Value.ref)
 |[]=>.nil
 |_::ps=>.cons rfl (wg ps)
def zjv {α:Type}(l:List α)(d:α){p:List Nat}(h:p.Perm (List.range l.length)):(p.map fun i=>l.getD i d).Perm l:=by
 have:=h.map fun i=>l.getD i d
 refine this.trans ?_
 have e:(List.range l.length).map (fun i=>l.getD i d)=l:=by
  apply List.ext_getElem
  ·simp
  ·intro i h1 h2
   simp[qE,qb h2]
 rw[e]
def zlh {X:Cx}{K:PySem.W.Frag}(hK:X.K=K):YQ X (.builtin "sorted") (zuC K):=fun Z9 s U H xs us Q I r h=>by
 subst hK
 obtain⟨p,ps,cs,rfl,hS,hP,h64,q⟩:=h
 obtain⟨u,rfl,ru⟩:=vals1 r
 cases ru
 obtain⟨its,rv,pl,hz⟩:=I.list hS
 have ei:=rZ rv
 subst ei
 have hlen:=hP.length
 have prv:∀ {ps:List Addr} {cs:List (Int×Int)},Rx H ps cs->Paired (QB s.heap) (ps.map Value.ref) cs:=by
  intro ps cs hP
  induction hP with
  |nil=>exact .nil
  |cons r t ih =>
   refine .cons ?_ ih
   obtain⟨its2,r2,pl2,_⟩:=I.tuple (ZL.of r)
   obtain⟨o,ho,hc,n,hd⟩:=pl2
   cases r2 with|cons x1 r2=>cases r2 with|cons x2 r2 =>
   cases r2
   obtain⟨t1,rfl⟩:=x1
   obtain⟨t2,rfl⟩:=x2
   exact⟨_,o,n,t1,t2,rfl,ho,hc,hd⟩
 refine zk4 pl.isList (prv hP) (by rw[qc];lia) fun pm hpm hso=>?_
 rw[qc]at hpm hso
 have eo:(pm.map fun i=>(ps.map Value.ref).getD i Value.none)=(pm.map fun i=>ps.getD i 0).map Value.ref:=by
  rw[WY]
  apply List.map_congr_left
  intro i hi
  have hi':i<ps.length:=by simpa using hpm.mem_iff.mp hi
  simp[qE,qb hi']
 rw[eo]
 have hPl:(pm.map fun i=>ps.getD i 0).length=ps.length:=by rw[qc,hpm.length_eq,RN]
 obtain⟨e,he⟩:=sortedAll_at s.heap (ps.map Value.ref) ((pm.map fun i=>ps.getD i 0).map Value.ref).toArray
 have hPr:Rx H (pm.map fun i=>ps.getD i 0) (pm.map fun i=>cs.getD i (0,0)):=by
  have hb:∀ i∈pm,i<ps.length:=fun i hi=>by simpa using hpm.mem_iff.mp hi
  clear eo hPl he hpm hso
  induction pm with
  |nil=>exact .nil
  |cons i pm ih=>exact .cons (JB hP i (hb i (by simp))) (ih fun j hj=>hb j (by simp[hj]))
 refine⟨.ref (s.heap.objs.size+1),_,I.laid (t':=s.toks) (a:=s.heap.objs.size+1) (o:=.lst ((pm.map fun i=>ps.getD i 0).map V.ref)) (fun b o q=>sortedAll_old q) (Rf _) ⟨by rw[qc,hPl];have:=hz;rw[qc]at this;exact this,_,e,wg _,he⟩,rfl,q _ _ _ (I.hok.fresh (Rf _)) hPr ?_ ?_⟩
 ·rw[hlen]at hpm
  exact zjv cs (0,0) hpm
 ·rw[List.pairwise_map,qZ]
  intro i j hi hj hij
  have:=hso i j (NQ hij) (by rw[<- RN (n:=ps.length),<- hpm.length_eq];exact hj)
  simpa [qE,qb hi,qb hj]using this
section
variable {K:PySem.W.Frag}{H:Hp}
end
def zvS (K:PySem.W.Frag):R2:=fun x y H Q=>∃ a b xs ys,x=.ref a/\y=.ref b/\ZL K H a xs/\ZL K H b ys/\xs.length+ys.length<=sizeLine/\(xs=[]->Q (.ref b) H)/\(xs≠[]->ys=[]->Q (.ref a) H)/\(xs≠[]->ys≠[]->∀ p,H p=none->Q (.ref p) (upd H p (.tup (xs++ys))))
def zrD {X:Cx}{K:PySem.W.Frag}(hK:X.K=K):Zh X (binaryOp .Add) (zvS K):=by
 subst hK
 intro Z9 s U H x y v u Q I rx ry h
 obtain⟨a,b,xs,ys,rfl,rfl,ha,hb,hz,q0,q1,q2⟩:=h
 by_cases hx:xs=[]
 ·subst hx
  cases rx
  cases ry
  obtain⟨its,r1,p1,_⟩:=I.tuple ha
  obtain⟨its2,r2,p2,_⟩:=I.tuple hb
  cases r1
  obtain⟨⟨cls,dd,data,sl⟩,ho,hc,n,hd⟩:=id p1
  obtain⟨⟨cls2,dd2,data2,sl2⟩,ho2,hc2,n2,hd2⟩:=id p2
  simp only at hc hd hc2 hd2
  subst hc hd hc2 hd2
  exact concat_meets ⟨_,ho,rfl⟩ ⟨_,ho2,rfl⟩ noFill_tuple_add seq_tuple_add PySem.F.slot_tuple_add PySem.F.entry_tuple_add (PySem.F.args_tuple_add_2 _ _)
   (tuple_addW0 a b _ its2.toArray n n2 dd dd2 sl sl2 (by simp)) ⟨ho,ho2,⟨.ref b,H,I,rfl,q0 rfl⟩⟩
 ·exact ztn Z9 s U H _ _ v u Q I rx ry ⟨a,b,xs,ys,rfl,rfl,ha,hb,hx,hz,q1 hx,q2 hx⟩
end My
namespace Dp
open PySem
inductive D where
 |non|bl (b:Bool)|int (i:Int)|str (x:Str)|tup (xs:List D)|ref (n:Nat)|ty (n:String)|rl (xs:List D)|exn (c:Str)
 deriving Inhabited
inductive Cell where
 |lst (xs:List D)|ins (c:Str) (fs:List (Str×D))
 |dk (Z6:List (Str×D))|dt (Z6:List (List (Sum Int Str)×D))
 deriving Inhabited
abbrev Z5:=List Cell
abbrev ZR:=List (Option D)
abbrev DK:=D->Z5->Prop
abbrev DE:=ZR->Z5->DK->Prop
abbrev DT:=ZR->Z5->(Bool->Z5->Prop)->Prop
abbrev DA:=ZR->Z5->(List D->Z5->Prop)->Prop
abbrev DG:=D->ZR->Z5->(ZR->Z5->Prop)->Prop
abbrev Vt:=List D->ZR->Z5->(ZR->Z5->Prop)->Prop
structure Hu where
 nx:ZR->Z5->Prop
 rt:DK
 bk:ZR->Z5->Prop:=fun _ _=>False
 ct:ZR->Z5->Prop:=fun _ _=>False
abbrev DS:=Hu->ZR->Z5->Prop
structure Tr where
 items:List D
 ok:Z5->Prop
abbrev DI:=ZR->Z5->(Tr->Z5->Prop)->Prop
abbrev ZV:=List D->Z5->DK->Prop
def big:Nat:=1000000
def fl:Nat->D->Bool
  |_,.ref _=>false
  |_,.ty _=>false
  |_,.rl _=>false
  |_,.exn _=>false
  |0,.tup _=>false
  |k+1,.tup xs=>xs.all (fl k)
  |_,.non=>true
  |_,.bl _=>true
  |_,.int _=>true
  |_,.str x=>x.cps.all (· < 0x110000)
mutual
def eqv:D->D->Bool
 |.non,.non=>true
 |.bl a,.bl b=>a==b
 |.bl a,.int j=>(if a then 1 else 0)==j
 |.int i,.bl b=>i==(if b then 1 else 0)
 |.int i,.int j=>decide (i=j)
 |.str x,.str y=>x==y
 |.tup xs,.tup ys=>eqvAll xs ys
 |_,_=>false
def eqvAll:List D->List D->Bool
 |[],[]=>true
 |x::xs,y::ys=>eqv x y&&eqvAll xs ys
 |_,_=>false
end
def Lst (S:Z5)(x:D)(xs:List D):Prop:=x=.rl xs\/∃ n,x=.ref n/\S[n]?=some (.lst xs)
def VB (S:Z5)(x:D)(xs:List D):Prop:=x=.tup xs\/Lst S x xs
def Xg (n:Nat)(k:Int):Option Nat:=if 0<=k then(if k<n then some k.toNat else none)else if -(n:Int)<=k then some (k+n).toNat else none
def Y7 (xs:List D)(k:Int):Option D:=(Xg xs.length k).bind fun j=>xs[j]?
def atS (z:Str)(k:Int):Option Nat:=(Xg z.cps.toList.length k).bind fun j=>z.cps.toList[j]?
def W8 (n:Nat)(d:Nat):Option Int->Nat
 |none=>d
 |some k=>if k<0 then(k+n).toNat else min k.toNat n
def cutD {α:Type}(xs:List α)(lo hi:Option Int):List α:=(xs.drop (W8 xs.length 0 lo)).take (W8 xs.length xs.length hi-W8 xs.length 0 lo)
def W2 (i:Nat):DE:=fun Z S Q=>∃ d,Z[i]?=some (some d)/\Q d S
def dC (d:D):DE:=fun _ S Q=>Q d S
abbrev Y6:=D->D->Z5->DK->Prop
def Z7 (r:Y6)(ta tb:DE):DE:=fun Z S Q=>ta Z S fun x S1=>tb Z S1 fun y S2=>r x y S2 Q
def Yp (r:D->Z5->DK->Prop)(ta:DE):DE:=fun Z S Q=>ta Z S fun x S1=>r x S1 Q
def zF:DA:=fun _ S Q=>Q [] S
def zf (ta:DE)(tr:DA):DA:=fun Z S Q=>ta Z S fun x S1=>tr Z S1 fun xs S2=>Q (x::xs) S2
def dTup (t:DA):DE:=fun Z S Q=>t Z S fun xs S1=>xs.length<=big/\Q (.tup xs) S1
def Yz (t:DA):DE:=fun Z S Q=>t Z S fun xs S1=>xs.length<=big/\Q (.ref S1.length) (S1++[.lst xs])
def dCall (f:ZV)(t:DA):DE:=fun Z S Q=>t Z S fun xs S1=>f xs S1 Q
abbrev DB:=List D->Z5->DK->Prop
def dB (r:DB)(t:DA):DE:=fun Z S Q=>t Z S fun xs S1=>r xs S1 Q
def dT (t:DE):DT:=fun Z S Q=>t Z S fun x S1=>∃ b,x=.bl b/\Q b S1
def S9 (t u:DT):DT:=fun Z S Q=>t Z S fun c S1=>if c=true then u Z S1 Q else Q false S1
def TJ (t u:DT):DT:=fun Z S Q=>t Z S fun c S1=>if c=true then Q true S1 else u Z S1 Q
def Wb (t:DT):DT:=fun Z S Q=>t Z S fun c S1=>Q (!c) S1
def Nf (t u:DE):DE:=fun Z S Q=>t Z S fun x S1=>∃ c,x=.bl c/\if c=true then u Z S1 Q else Q (.bl false) S1
def Ca (t u:DE):DE:=fun Z S Q=>t Z S fun x S1=>∃ c,x=.bl c/\if c=true then Q (.bl true) S1 else u Z S1 Q
def Np (t:DE):DE:=fun Z S Q=>t Z S fun x S1=>∃ c,x=.bl c/\Q (.bl (!c)) S1
def RL (c:DT)(ta tb:DE):DE:=fun Z S Q=>c Z S fun b S1=>if b=true then ta Z S1 Q else tb Z S1 Q
def JW (r r':Y6)(ta tb tc:DE):DE:=fun Z S Q=>ta Z S fun x S1=>tb Z S1 fun y S2=>r x y S2 fun z S3=>∃ c,z=.bl c/\if c=true then tc Z S3 fun w S4=>r' y w S4 Q else Q (.bl false) S3
def Qz:Option DE->ZR->Z5->(Option Int->Z5->Prop)->Prop
 |none=>fun _ S Q=>Q none S
 |some t=>fun Z S Q=>t Z S fun x S1=>∃ i,x=.int i/\Q (some i) S1
def Nq (r:D->Option Int->Option Int->Z5->DK->Prop)(ta:DE)(lo hi:Option DE):DE:=fun Z S Q=>ta Z S fun x S1=>Qz lo Z S1 fun l S2=>Qz hi Z S2 fun h S3=>r x l h S3 Q
def Yn (f:Str)(ta:DE):DE:=fun Z S Q=>ta Z S fun x S1=>∃ n c fs d,x=.ref n/\S1[n]?=some (.ins c fs)/\fs.lookup f=some d/\Q d S1
def putD (f:Str)(v:D):List (Str×D)->List (Str×D)
 |[]=>[(f,v)]
 |(g,x)::r=>if g=f then(g,v)::r else(g,x)::putD f v r
def Bt (c:Str)(init:ZV):ZV:=fun ds S Q=>init (.ref S.length::ds) (S++[.ins c []]) fun d S2=>d=.non/\Q (.ref S.length) S2
abbrev DM:=D->List D->Z5->DK->Prop
def dM (r:DM)(ta:DE)(t:DA):DE:=fun Z S Q=>ta Z S fun x S1=>(∃ n ys,x=.ref n/\S1[n]?=some (.lst ys))/\t Z S1 fun xs S2=>r x xs S2 Q
def oI (C:Int->Int->Prop)(g:Int->Int->D):Y6:=fun x y S Q=>∃ i j,x=.int i/\y=.int j/\C i j/\Q (g i j) S
def Ld (g:Int->Int->D):Y6:=fun x y S Q=>∃ i j,x=.int i/\y=.int j/\Q (g i j) S
def oU (g:Int->D):D->Z5->DK->Prop:=fun x S Q=>∃ i,x=.int i/\Q (g i) S
def YM (i j:Int):Prop:=(My.Bd 8000 i/\My.Bd 8000 j)\/i.natAbs<2 ^ 64\/j.natAbs<2 ^ 64
def nJ (_ j:Int):Prop:=j≠0/\My.Bd 8000 j
def zxI (_ j:Int):Prop:=j≠0
def Zz:Y6:=fun x y S Q=>(∃ i j,x=.int i/\y=.int j/\Q (.int (i+j)) S)\/(∃ xs ys,x=.tup xs/\y=.tup ys/\xs.length+ys.length<=big/\Q (.tup (xs++ys)) S) \/
 (∃ xs ys,Lst S x xs/\Lst S y ys/\xs.length+ys.length<=big/\Q (.ref S.length) (S++[.lst (xs++ys)])) \/
 (∃ i j:Str,x=.str i/\y=.str j/\i.length+j.length<=big/\Q (.str (i++j)) S)
def Zo:Y6:=Ld fun i j=>.int (i-j)
def kZ (z:Str)(n:Int):Str:=if n<1 then Str.empty else if(n==1||z.length==0)=true then z else⟨(List.replicate n.toNat z.cps).foldl (·++·) #[]⟩
@[irreducible] def Hg (x:Int):Prop:=x.natAbs<2 ^ 1048576
def Yw:Y6:=fun x y S Q=>oI YM (fun i j=>.int (i*j)) x y S Q\/(∃ (z:Str) (n:Int),x=.str z/\y=.int n/\z.length<=1000/\-1000<=n/\n<=1000/\Q (.str (kZ z n)) S)\/oI (fun i j=>Hg i/\Hg j) (fun i j=>.int (i*j)) x y S Q
def oDiv:Y6:=oI nJ fun i j=>.int (i.fdiv j)
def oMod:Y6:=oI zxI fun i j=>.int (i.fmod j)
def Yo:D->Z5->DK->Prop:=oU fun i=>.int (-i)
def oLt:Y6:=Ld fun i j=>.bl (decide (i<j))
def oLe:Y6:=Ld fun i j=>.bl (decide (i<=j))
def Xm:Y6:=Ld fun i j=>.bl (decide (j<i))
def Sx (S:Z5):List D->List (List D)->Prop
 |[],[]=>True
 |x::xs,z::zs=>Lst S x z/\Sx S xs zs
 |_,_=>False
def Wo (xss:List (List D)):Bool:=xss.all fun zs=>zs.all (fl 20)
def Gk (S:Z5)(x y:D)(b:Bool):Prop:=(fl 20 x=true/\fl 20 y=true/\b=eqv x y)\/(∃ xs ys,Lst S x xs/\Lst S y ys/\xs.all (fl 20)=true/\ys.all (fl 20)=true/\b=eqvAll xs ys) \/
 (∃ xs ys xss yss,Lst S x xs/\Lst S y ys/\Sx S xs xss/\Sx S ys yss/\Wo xss=true/\Wo yss=true/\b=eqvAll (xss.map D.tup) (yss.map D.tup))
def oEq:Y6:=fun x y S Q=>∃ b,Gk S x y b/\Q (.bl b) S
def U9:Y6:=fun x y S Q=>∃ b,Gk S x y b/\Q (.bl (!b)) S
def JD (S:Z5)(x y:D)(b:Bool):Prop:=∃ ys,VB S y ys/\fl 20 x=true/\ys.all (fl 20)=true/\b=ys.any fun z=>eqv z x
def Cy:Y6:=fun x y S Q=>(∃ b,JD S x y b/\Q (.bl b) S)\/(∃ (c:Nat) (z:Str),x=.str ⟨#[c]⟩/\y=.str z/\Q (.bl (decide (c∈z.cps.toList))) S)
def Cq:Y6:=fun x y S Q=>(∃ b,JD S x y b/\Q (.bl (!b)) S)\/(∃ (c:Nat) (z:Str),x=.str ⟨#[c]⟩/\y=.str z/\Q (.bl (!decide (c∈z.cps.toList))) S)
def Kg:D->Bool
 |.non=>true
 |_=>false
def RW:Y6:=fun x y S Q=>(y=.non/\Q (.bl (!Kg x)) S)\/(∃ a b,x=.bl a/\y=.bl b/\Q (.bl (!(a==b))) S)
def ZX:Y6:=fun x y S Q=>(∃ i xs d,y=.int i/\VB S x xs/\Y7 xs i=some d/\Q d S)\/(∃ (z:Str) (i:Int) (c:Nat),x=.str z/\y=.int i/\z.length<=big/\atS z i=some c/\Q (.str ⟨#[c]⟩) S)
def DP (z:Str)(lo hi:Option Int):Str:=⟨(cutD z.cps.toList lo hi).toArray⟩
def QG:D->Option Int->Option Int->Z5->DK->Prop:=fun x lo hi S Q=>(∃ xs,x=.tup xs/\Q (.tup (cutD xs lo hi)) S)\/(∃ xs,Lst S x xs/\Q (.ref S.length) (S++[.lst (cutD xs lo hi)]))\/(∃ z:Str,x=.str z/\z.length<=big/\Q (.str (DP z lo hi)) S)
def Y4:DB:=fun vs S Q=>(∃ x xs,vs=[x]/\VB S x xs/\Q (.int xs.length) S)\/(∃ z:Str,vs=[.str z]/\z.length<=big/\Q (.int z.length) S)
def Gd:DB:=fun vs S Q=>∃ i,vs=[.int i]/\Q (.int (i.natAbs:Int)) S
def V6:DB:=fun vs S Q=>∃ i j,vs=[.int i,.int j]/\Q (.int (max i j)) S
def Ud:DB:=fun vs S Q=>∃ i j,vs=[.int i,.int j]/\Q (.int (min i j)) S
def FW:DB:=fun vs S Q=>∃ x ns,vs=[x]/\Lst S x (List.map D.int ns)/\0<ns.length/\∀ m:Int,m∈ns->(∀ a∈ns,a<=m)->Q (.int m) S
def Ce:DB:=fun vs S Q=>∃ x ns,vs=[x]/\Lst S x (List.map D.int ns)/\0<ns.length/\∀ m:Int,m∈ns->(∀ a∈ns,m<=a)->Q (.int m) S
def R5:DB:=fun vs S Q=>∃ x bs,vs=[x]/\Lst S x (List.map D.bl bs)/\Q (.bl (bs.all id)) S
def Oz:DB:=fun vs S Q=>∃ x xs,vs=[x]/\VB S x xs/\Q (.tup xs) S
def Nk:DB:=fun vs S Q=>∃ x xs,vs=[x]/\VB S x xs/\Q (.ref S.length) (S++[.lst xs])
def Nt (t:String):Bool:=t=="int"||t=="bool"||t=="tuple"||t=="list"||t=="str"
def Cu (S:Z5)(t:String)(d:D):Option Bool:=if(!Nt t)=true then none else match d with
 |.non=>some false
 | .bl _=>some (t=="bool"||t=="int")
 | .int _=>some (t=="int")
 | .str _=>some (t=="str")
 | .tup _=>some (t=="tuple")
 |.ref n=>match S[n]? with
  | some (.lst _)=>some (t=="list")
  |_=>none
 |.ty _=>none
 |.rl _=>none
 |.exn _=>none
def T4:DB:=fun vs S Q=>∃ x t b,vs=[x,.ty t]/\Cu S t x=some b/\Q (.bl b) S
abbrev p2 (c:Int×Int):D:=.tup [.int c.1,.int c.2]
def Q7 (a b:Int×Int):Bool:=decide (a.1<b.1\/(a.1=b.1/\a.2<b.2))
def Aa:DB:=fun vs S Q=>∃ x cs,vs=[x]/\Lst S x (List.map p2 cs)/\cs.length<64/\∀ ss:List (Int×Int),ss.Perm cs->ss.Pairwise (fun a b=>Q7 b a=false)->Q (.ref S.length) (S++[.lst (ss.map p2)])
def nR:DB:=fun vs S Q=>∃ x ns,vs=[x]/\Lst S x (List.map D.int ns)/\ns.length<64/\∀ ss:List Int,ss.Perm ns->ss.Pairwise (fun a b=>a<=b)->Q (.ref S.length) (S++[.lst (ss.map D.int)])
def En:DB:=fun vs S Q=>Aa vs S Q\/nR vs S Q
def UL:DM:=fun x vs S Q=>∃ n xs y,x=.ref n/\vs=[y]/\S[n]?=some (.lst xs)/\xs.length<big/\Q .non (S.set n (.lst (xs++[y])))
def zth:DM:=fun x vs S Q=>∃ n xs m ys,x=.ref n/\vs=[.ref m]/\S[n]?=some (.lst xs)/\S[m]?=some (.lst ys)/\m≠n/\xs.length+ys.length<=big/\Q .non (S.set n (.lst (xs++ys)))
def Br:DM:=fun x vs S Q=>zth x vs S Q\/∃ n xs ys,x=.ref n/\vs=[.tup ys]/\S[n]?=some (.lst xs)/\xs.length+ys.length<=big/\Q .non (S.set n (.lst (xs++ys)))
def FJ:DM:=fun x vs S Q=>∃ n xs y,x=.ref n/\vs=[.int 0]/\S[n]?=some (.lst (y::xs))/\Q y (S.set n (.lst xs))
def Dv:DM:=fun x vs S Q=>∃ n xs y j e,x=.ref n/\vs=[y]/\S[n]?=some (.lst xs)/\xs.all (fl 20)=true/\fl 20 y=true/\xs.length<=big/\xs[j]?=some e/\eqv e y=true/\(∀ (m:Nat) e',m<j->xs[m]?=some e'->eqv e' y=false)/\Q (.int (j:Nat)) S
def Jv:DM:=fun x vs S Q=>∃ n xs,x=.ref n/\vs=[]/\S[n]?=some (.lst xs)/\Q .non (S.set n (.lst []))
def YW (i:Nat):DG:=fun d Z S Q=>Q (Z.set i (some d)) S
def X3:Vt:=fun ds Z S Q=>ds=[]/\Q Z S
def Zn (t:DG)(u:Vt):Vt:=fun ds Z S Q=>∃ d r,ds=d::r/\t d Z S fun ρ' S'=>u r ρ' S' Q
def XF (n:Nat)(t:Vt):DG:=fun d Z S Q=>∃ xs,d=.tup xs/\xs.length=n/\t xs Z S Q
def QD (to ti:DE):DG:=fun d Z S Q=>to Z S fun o S1=>ti Z S1 fun i S2=>∃ n xs k j,o=.ref n/\i=.int k/\S2[n]?=some (.lst xs)/\Xg xs.length k=some j/\Q Z (S2.set n (.lst (xs.set j d)))
def zA (t u:DS):DS:=fun E Z S=>t { E with nx:=u E } Z S
def Zt:DS:=fun E Z S=>E.nx Z S
def zV (t:DE):DS:=fun E Z S=>t Z S E.rt
def Zk (t:DE):DS:=fun E Z S=>t Z S fun _ S1=>E.nx Z S1
def zH (t:DE)(g:DG):DS:=fun E Z S=>t Z S fun x S1=>g x Z S1 E.nx
def ZC (c:DT)(t u:DS):DS:=fun E Z S=>c Z S fun b S1=>if b=true then t E Z S1 else u E Z S1
def sJ (t:DS):DS:=fun E Z S=>∃ J:ZR->Z5->Prop,(∀ Z S,J Z S->E.nx Z S)/\t { E with nx:=J } Z S
def Ve:DS:=fun _ _ _=>False
def TY (c f:Str)(to tv:DE):DS:=fun E Z S=>tv Z S fun y S1=>to Z S1 fun x S2=>∃ n fs,x=.ref n/\S2[n]?=some (.ins c fs)/\fs.length<100/\E.nx Z (S2.set n (.ins c (putD f y fs)))
def Cv (i:Nat)(t:DE):DS:=fun E Z S=>∃ a,Z[i]?=some (some (.int a))/\t Z S fun y S1=>∃ b,y=.int b/\E.nx (Z.set i (some (.int (a+b)))) S1
def Q5 (c:DT)(t:DS):DS:=fun E Z S=>∃ W:Nat->ZR->Z5->Prop,(∃ m,W m Z S)/\∀ m Z S,W m Z S ->
 c Z S fun b S1=>if b=true then ∃ N:ZR->Z5->Prop,(∀ ρ' S',N ρ' S'->∃ m',m'<m/\W m' ρ' S')/\t { E with nx:=N,ct:=N,bk:=E.nx } Z S1 else E.nx Z S1
def Yx (wi:DI)(g:DG)(t:DS):DS:=fun E Z S=>wi Z S fun J S1=>∃ W:Nat->ZR->Z5->Prop,W 0 Z S1/\(∀ i Z S,W i Z S->J.ok S) /\
 (∀ i d Z S,J.items[i]?=some d->W i Z S->g d Z S fun ρ2 S2=>t { E with nx:=W (i+1),ct:=W (i+1),bk:=E.nx } ρ2 S2)/\∀ Z S,W J.items.length Z S->E.nx Z S
def signs (z:Str):List D:=z.cps.toList.map fun c=>.str ⟨#[c]⟩
def PK (x:D)(S1:Z5)(R:Tr->Z5->Prop):Prop:=(∃ xs,x=.tup xs/\R ⟨xs,fun _=>True⟩ S1)\/(∃ xs,Lst S1 x xs/\R ⟨xs,fun S=>Lst S x xs⟩ S1)\/(∃ z:Str,x=.str z/\R ⟨signs z,fun _=>True⟩ S1)
def Ze (t:DE):DI:=fun Z S R=>t Z S fun x S1=>PK x S1 R
def upto (lo:Int)(n:Nat):List D:=(List.range n).map fun k:Nat=>D.int (lo+(k:Int))
def Oi (t:DA):DI:=fun Z S R=>t Z S fun vs S1=>∃ j:Int,vs=[.int j]/\-(2 ^ 62)<=j/\j<2 ^ 62/\R ⟨upto 0 j.toNat,fun _=>True⟩ S1
def Eb (t:DA):DI:=fun Z S R=>t Z S fun vs S1=>∃ i j:Int,vs=[.int i,.int j]/\R ⟨upto i (j-i).toNat,fun _=>True⟩ S1
def steps (lo st:Int)(n:Nat):List D:=(List.range n).map fun k:Nat=>D.int (lo+(k:Int)*st)
def Vy:Nat->List D->List D
 |_,[]=>[]
 |k,x::xs=>.tup [.int (k:Nat),x]::Vy (k+1) xs
def Xo:List D->List D->List D
 |x::xs,y::ys=>.tup [x,y]::Xo xs ys
 |_,_=>[]
def Sg (c:List Str)(z:Str):List Str:=if c.any (·==z)=true then c else c++[z]
def Xd (f:Nat->Str):Nat->List Str
 |0=>[]
 |i+1=>Sg (Xd f i) (f i)
def BK (zs:List Str):Nat:=(Xd (fun i=>zs.getD i Str.empty) zs.length).length
def CJ:DB:=fun vs S Q=>∃ x,∃ zs:List Str,vs=[x]/\Lst S x (zs.map D.str)/\zs.length<=4000/\Q (.int (BK zs)) S
def Dz (R:Tr->Z5->Prop)(vs:List D)(S1:Z5):Prop:=(∃ x xs,vs=[x]/\Lst S1 x xs/\R ⟨Vy 0 xs,fun S=>Lst S x xs⟩ S1)\/(∃ xs,vs=[.tup xs]/\R ⟨Vy 0 xs,fun _=>True⟩ S1)
def Oe (t:DA):DI:=fun Z S R=>t Z S (Dz R)
def CZ (R:Tr->Z5->Prop)(vs:List D)(S1:Z5):Prop:=(∃ x y xs ys,vs=[x,y]/\Lst S1 x xs/\Lst S1 y ys/\R ⟨Xo xs ys,fun S=>Lst S x xs/\Lst S y ys⟩ S1)\/(∃ xs ys,vs=[.tup xs,.tup ys]/\R ⟨Xo xs ys,fun _=>True⟩ S1)
def BL (t:DA):DI:=fun Z S R=>t Z S (CZ R)
def NP (own:Nat)(fv:List Nat)(Z:ZR):ZR:=List.replicate own none++fv.map fun j=>(Z[j]?).join
def Wx:DT:=fun _ S Q=>Q true S
def XS (own:Nat)(fv:List Nat)(wi:DI)(g:DG)(tc:DT)(te:DE):DE:=fun Z S Q=>wi Z S fun J S1=>J.items.length<=big/\∃ W:Nat->List D->Z5->Prop,W 0 [] S1/\(∀ i ys S,W i ys S->J.ok S) /\
 (∀ i d ys S,J.items[i]?=some d->W i ys S->g d (NP own fv Z) S fun ρ2 S2=>tc ρ2 S2 fun b S3=>if b=true then te ρ2 S3 fun y S4=>W (i+1) (ys++[y]) S4 else W (i+1) ys S3) /\
 ∀ ys S,W J.items.length ys S->Q (.ref S.length) (S++[.lst ys])
def kD:Sum Int Str->D
 |.inl i=>.int i
 |.inr x=>.str x
section
variable {κ:Type}[DecidableEq κ]
def dval (Z6:List (κ×D))(k:κ):Option D:=(Z6.find? fun kv=>decide (kv.1=k)).map (·.2)
def dput (Z6:List (κ×D))(k:κ)(v:D):List (κ×D):=if(Z6.any fun kv=>decide (kv.1=k))=true then Z6.map (fun kv=>if kv.1=k then(kv.1,v)else kv)else Z6++[(k,v)]
end
def Vg (S:Z5)(x y:D)(o:Option D):Prop:=(∃ n Z6 z,x=.ref n/\y=.str z/\S[n]?=some (.dk Z6)/\o=dval Z6 z)\/(∃ n Z6 ks,x=.ref n/\y=.tup (ks.map kD)/\S[n]?=some (.dt Z6)/\o=dval Z6 ks)
def Dj:DE:=fun _ S Q=>Q (.ref S.length) (S++[.dk []])
def FP:DE:=fun _ S Q=>Q (.ref S.length) (S++[.dt []])
def QJ (td ti:DE):DE:=fun Z S Q=>td Z S fun x S1=>ti Z S1 fun y S2=>∃ d,Vg S2 x y (some d)/\Q d S2
def Ug (S:Z5)(x y v:D)(Q:Z5->Prop):Prop:=(∃ n Z6 z,x=.ref n/\y=.str z/\S[n]?=some (.dk Z6)/\Z6.length<big/\Q (S.set n (.dk (dput Z6 z v))))\/(∃ n Z6 ks,x=.ref n/\y=.tup (ks.map kD)/\S[n]?=some (.dt Z6)/\Z6.length<big/\Q (S.set n (.dt (dput Z6 ks v))))
def Og (td ti tv:DE):DS:=fun E Z S=>tv Z S fun v S1=>td Z S1 fun x S2=>ti Z S2 fun y S3=>Ug S3 x y v (E.nx Z)
def fc:Cell->Bool
 |.lst xs=>xs.all (fl 20)
 |.ins _ _=>false
 |.dk _=>false
 |.dt _=>false
def Fin (S:Z5)(Q:DK):DK:=fun d S'=>Q d S'\/∃ S1,S1 <+: S'/\S.length<=S1.length/\(fl 20 d=true\/∃ n,d=.ref n/\n<S1.length)/\(∀ (n:Nat) c,S1[n]?=some c->S[n]?=some c\/fc c=true)/\Q d S1
def Rc (n:Nat)(ds:List D):ZR:=ds.map some++List.replicate (n-ds.length) none
def BodyOk (n:Nat)(b:DS)(f:ZV):Prop:=∀ ds S Q,f ds S Q->b ⟨fun _ S'=>Fin S Q .non S',Fin S Q,fun _ _=>False,fun _ _=>False⟩ (Rc n ds) S
abbrev XD:=Str->Z5->Prop
abbrev XR:=ZR->Str->Z5->Prop
abbrev WL:=List D->Z5->DK->XD->Prop
def WT (f:WL)(ex:XR)(t:DA):DE:=fun Z S Q=>t Z S fun xs S1=>f xs S1 Q (ex Z)
def xF:XR:=fun _ _ _=>False
def M6 (ex:XR)(c:Str):DS:=fun _ Z S=>ex Z c S
def RM (tbl:List (Str×Bool))(t:DE):DE:=fun Z S Q=>t Z S fun x S1=>∃ c b,x=.exn c/\tbl.lookup c=some b/\Q (.bl b) S1
def DQ (i:Nat)(ok:List Str)(b:XR->DS)(h:DS):DS:=fun E Z S =>
 b (fun ρ' c S'=>ok.contains c=true/\h { nx:=fun ρ2 S2=>E.nx (ρ2.set i none) S2,rt:=E.rt,bk:=fun _ _=>False,ct:=fun _ _=>False } (ρ'.set i (some (.exn c))) S') E Z S
def T6 (n:Nat)(b:XR->DS)(f:WL):Prop:=∀ ds S Q ex,f ds S Q ex->b (fun _=>ex) ⟨fun _ S'=>Fin S Q .non S',Fin S Q,fun _ _=>False,fun _ _=>False⟩ (Rc n ds) S
def New (Q:DK)(S:Z5)(xs:List D):Prop:=Q (.ref S.length) (S++[.lst xs])
def Put (Q:Z5->Prop)(S:Z5)(n:Nat)(c:Cell):Prop:=Q (S.set n c)
def mK (own:Nat)(fv:List Nat)(g:DG)(tc:DT)(te:DE)(Z:ZR)(Q:DK)(J:Tr)(S:Z5):Prop:=J.items.length<=big/\∃ W:Nat->List D->Z5->Prop,W 0 [] S/\(∀ i ys S,W i ys S->J.ok S) /\
 (∀ i d ys S,J.items[i]?=some d->W i ys S->g d (NP own fv Z) S fun ρ2 S2=>tc ρ2 S2 fun b S3=>if b=true then te ρ2 S3 fun y S4=>W (i+1) (ys++[y]) S4 else W (i+1) ys S3) /\
 ∀ ys S,W J.items.length ys S->New Q S ys
def Bf (d:D)(Z:ZR)(Q:ZR->Z5->Prop)(o i:D)(S2:Z5):Prop:=∃ n xs k j,o=.ref n/\i=.int k/\S2[n]?=some (.lst xs)/\Xg xs.length k=some j/\Q Z (S2.set n (.lst (xs.set j d)))
def Aw (nx:ZR->Z5->Prop)(rt:DK)(g:DG)(t:DS)(Z:ZR)(J:Tr)(S:Z5):Prop:=∃ W:Nat->ZR->Z5->Prop,W 0 Z S/\(∀ i Z S,W i Z S->J.ok S) /\
 (∀ i d Z S,J.items[i]?=some d->W i Z S->g d Z S fun ρ2 S2=>t ⟨W (i+1),rt,nx,W (i+1)⟩ ρ2 S2)/\∀ Z S,W J.items.length Z S->nx Z S
def FQ (W:Nat->ZR->Z5->Prop)(m:Nat)(t:DS)(rt:DK)(nx:ZR->Z5->Prop)(Z:ZR)(S:Z5):Prop:=∃ N:ZR->Z5->Prop,(∀ ρ' S',N ρ' S'->∃ m',m'<m/\W m' ρ' S')/\t ⟨N,rt,nx,N⟩ Z S
def Yr {nx:ZR->Z5->Prop}{rt:DK}{g:DG}{t:DS}{Z:ZR}{xs:List D}{ok:Z5->Prop}{S:Z5}(W:Nat->ZR->Z5->Prop)(h0:W 0 Z S)(hok:∀ i Z S,W i Z S->ok S)
  (step:∀ i d Z S,xs[i]?=some d->W i Z S->g d Z S fun ρ2 S2=>t ⟨W (i+1),rt,nx,W (i+1)⟩ ρ2 S2) (fin:∀ Z S,W xs.length Z S->nx Z S):Aw nx rt g t Z ⟨xs,ok⟩ S:=⟨W,h0,hok,step,fin⟩
def zw4 {S:Z5}{Q:DK}{xs:List D}(h:Q (.ref S.length) (S++[.lst xs])):New Q S xs:=h
def Nb {S T:Z5}{Q:DK}{xs:List D}(h:Q (.ref (S.length+T.length)) (S++(T++[.lst xs]))):New Q (S++T) xs:=by
 unfold New;rw[qf,qm];exact h
section
variable {S:Z5}{Q:DK}{xs:List D}{a b c d e f:Cell}
def zyq (h:Q (.ref (S.length+1)) (S++[a,.lst xs])):New Q (S++[a]) xs:=Nb h
def zx5 (h:Q (.ref (S.length+2)) (S++[a,b,.lst xs])):New Q (S++[a,b]) xs:=Nb h
def zxw (h:Q (.ref (S.length+3)) (S++[a,b,c,.lst xs])):New Q (S++[a,b,c]) xs:=Nb h
def zxC (h:Q (.ref (S.length+4)) (S++[a,b,c,d,.lst xs])):New Q (S++[a,b,c,d]) xs:=Nb h
def zw0 (h:Q (.ref (S.length+5)) (S++[a,b,c,d,e,.lst xs])):New Q (S++[a,b,c,d,e]) xs:=Nb h
end
def Fx {S:Z5}{a:Cell}{T:Z5}{Q:Z5->Prop}{c:Cell}(h:Q (S++c::T)):Put Q (S++a::T) S.length c:=by
 unfold Put;rw[qX _ _ (qg _),Wv];exact h
def zvg {S:Z5}{a:Cell}{G T:Z5}{Q:Z5->Prop}{c:Cell}(h:Q (S++c::(G++T))):Put Q (S++(a::G++T)) S.length c:=Fx h
def G9 {S:Z5}{Q:Z5->Prop}{n:Nat}{c:Cell}(h:Q (S.set n c)):Put Q S n c:=h
def Lq {S T:Z5}{Q:Z5->Prop}{k:Nat}{c:Cell}(h:Q (S++T.set k c)):Put Q (S++T) (S.length+k) c:=by
 unfold Put;rw[qX _ _ (NZ _ _),GC];exact h
section
variable {nx:ZR->Z5->Prop}{rt:DK}{bk ct:ZR->Z5->Prop}{Z:ZR}{S:Z5}
def Fe {t u:DS}(h:t ⟨u ⟨nx,rt,bk,ct⟩,rt,bk,ct⟩ Z S):zA t u ⟨nx,rt,bk,ct⟩ Z S:=h
def Di {t:DS}(J:ZR->Z5->Prop)(h:t ⟨J,rt,bk,ct⟩ Z S)(hJ:∀ Z S,J Z S->nx Z S):sJ t ⟨nx,rt,bk,ct⟩ Z S:=⟨J,hJ,h⟩
def Cr {t:DS}(h:t ⟨nx,rt,bk,ct⟩ Z S):sJ t ⟨nx,rt,bk,ct⟩ Z S:=⟨nx,fun _ _ h=>h,h⟩
def zwC (h:nx Z S):Zt ⟨nx,rt,bk,ct⟩ Z S:=h
def yR {t:DE}(h:t Z S rt):zV t ⟨nx,rt,bk,ct⟩ Z S:=h
def zu8 {t:DE}(h:t Z S fun _ S1=>nx Z S1):Zk t ⟨nx,rt,bk,ct⟩ Z S:=h
def uw {t:DE}{g:DG}(h:t Z S fun x S1=>g x Z S1 nx):zH t g ⟨nx,rt,bk,ct⟩ Z S:=h
def zyG {c:DT}{t u:DS}(h:c Z S fun b S1=>if b=true then t ⟨nx,rt,bk,ct⟩ Z S1 else u ⟨nx,rt,bk,ct⟩ Z S1):ZC c t u ⟨nx,rt,bk,ct⟩ Z S:=h
def iH {c f:Str}{to tv:DE}(h:tv Z S fun y S1=>to Z S1 fun x S2=>∃ n fs,x=.ref n/\S2[n]?=some (.ins c fs)/\fs.length<100/\nx Z (S2.set n (.ins c (putD f y fs)))):TY c f to tv ⟨nx,rt,bk,ct⟩ Z S:=h
def zw6 {i:Nat}{t:DE}{a:Int}(e:Z[i]?=some (some (.int a)))(h:t Z S fun y S1=>∃ b,y=.int b/\nx (Z.set i (some (.int (a+b)))) S1):Cv i t ⟨nx,rt,bk,ct⟩ Z S:=⟨a,e,h⟩
def jz {wi:DI}{g:DG}{t:DS}(h:wi Z S fun J S1=>Aw nx rt g t Z J S1):Yx wi g t ⟨nx,rt,bk,ct⟩ Z S:=h
def Eu {c:DT}{t:DS}(W:Nat->ZR->Z5->Prop)(m:Nat)(h0:W m Z S)(h:∀ m Z S,W m Z S->c Z S fun b S1=>if b=true then FQ W m t rt nx Z S1 else nx Z S1):Q5 c t ⟨nx,rt,bk,ct⟩ Z S:=⟨W,⟨m,h0⟩,h⟩
def zwR {c:DT}{t:DS}(W:Nat->ZR->Z5->Prop)(E:ZR->Z5->Prop)(m:Nat)(h0:W m Z S)(hE:∀ Z S,E Z S->nx Z S)(h:∀ nx':ZR->Z5->Prop,(∀ Z S,E Z S->nx' Z S)->∀ m Z S,W m Z S->c Z S fun b S1=>if b=true then FQ W m t rt nx' Z S1 else nx' Z S1):Q5 c t ⟨nx,rt,bk,ct⟩ Z S:=⟨W,⟨m,h0⟩,h nx hE⟩
def yt {t:DS}{W:Nat->ZR->Z5->Prop}{m:Nat}(h:t ⟨fun ρ' S'=>∃ m',m'<m/\W m' ρ' S',rt,nx,fun ρ' S'=>∃ m',m'<m/\W m' ρ' S'⟩ Z S):FQ W m t rt nx Z S:=⟨_,fun _ _ z=>z,h⟩
def ztB {i:Nat}{d:D}{Q:ZR->Z5->Prop}(h:Q (Z.set i (some d)) S):YW i d Z S Q:=h
def zva {Q:ZR->Z5->Prop}(h:Q Z S):X3 [] Z S Q:=⟨rfl,h⟩
def gJ {t:DG}{u:Vt}{d:D}{r:List D}{Q:ZR->Z5->Prop}(h:t d Z S fun ρ' S'=>u r ρ' S' Q):Zn t u (d::r) Z S Q:=⟨d,r,rfl,h⟩
def fY {n:Nat}{t:Vt}{xs:List D}{Q:ZR->Z5->Prop}(e:xs.length=n)(h:t xs Z S Q):XF n t (.tup xs) Z S Q:=⟨xs,rfl,e,h⟩
def jf {to ti:DE}{d:D}{Q:ZR->Z5->Prop}(h:to Z S fun o S1=>ti Z S1 fun i S2=>Bf d Z Q o i S2):QD to ti d Z S Q:=h
def Qk {i:Nat}{d:D}{Q:DK}(h:Z[i]?=some (some d))(q:Q d S):W2 i Z S Q:=⟨d,h,q⟩
def vP {d:D}{Q:DK}(q:Q d S):dC d Z S Q:=q
def Ja {r:Y6}{ta tb:DE}{Q:DK}(h:ta Z S fun x S1=>tb Z S1 fun y S2=>r x y S2 Q):Z7 r ta tb Z S Q:=h
def zyH {r:D->Z5->DK->Prop}{ta:DE}{Q:DK}(h:ta Z S fun x S1=>r x S1 Q):Yp r ta Z S Q:=h
def zxz {Q:List D->Z5->Prop}(h:Q [] S):zF Z S Q:=h
def Gb {ta:DE}{tr:DA}{Q:List D->Z5->Prop}(h:ta Z S fun x S1=>tr Z S1 fun xs S2=>Q (x::xs) S2):zf ta tr Z S Q:=h
def rC {t:DA}{Q:DK}(h:t Z S fun xs S1=>xs.length<=big/\Q (.tup xs) S1):dTup t Z S Q:=h
def zxN {t:DA}{Q:DK}(h:t Z S fun xs S1=>xs.length<=big/\New Q S1 xs):Yz t Z S Q:=h
def iW {xs:List D}{P:Prop}(h:Nat.ble xs.length big=true)(q:P):xs.length<=big/\P:=⟨Pn h,q⟩
def gP {f:ZV}{t:DA}{Q:DK}(h:t Z S fun xs S1=>f xs S1 Q):dCall f t Z S Q:=h
def r_b {r:DB}{t:DA}{Q:DK}(h:t Z S fun xs S1=>r xs S1 Q):dB r t Z S Q:=h
def jO {r:DM}{ta:DE}{t:DA}{Q:DK}(h:ta Z S fun x S1=>(∃ n ys,x=.ref n/\S1[n]?=some (.lst ys))/\t Z S1 fun xs S2=>r x xs S2 Q):dM r ta t Z S Q:=h
def jd {n:Nat}{ys:List D}{P:Prop}(h:S[n]?=some (.lst ys))(q:P):(∃ m ys,D.ref n=.ref m/\S[m]?=some (.lst ys))/\P:=⟨⟨n,ys,rfl,h⟩,q⟩
def jq {t:DE}{Q:Bool->Z5->Prop}(h:t Z S fun x S1=>∃ b,x=.bl b/\Q b S1):dT t Z S Q:=h
def gZ {c:Bool}{P:Bool->Prop}(h:P c):∃ b,D.bl c=D.bl b/\P b:=⟨c,rfl,h⟩
def zxK {c:Int}{P:Int->Prop}(h:P c):∃ b,D.int c=D.int b/\P b:=⟨c,rfl,h⟩
def zxM {t u:DT}{Q:Bool->Z5->Prop}(h:t Z S fun c S1=>if c=true then u Z S1 Q else Q false S1):S9 t u Z S Q:=h
def zzc {t u:DT}{Q:Bool->Z5->Prop}(h:t Z S fun c S1=>if c=true then Q true S1 else u Z S1 Q):TJ t u Z S Q:=h
def zxA {t:DT}{Q:Bool->Z5->Prop}(h:t Z S fun c S1=>Q (!c) S1):Wb t Z S Q:=h
def iJ {t u:DE}{Q:DK}(h:t Z S fun x S1=>∃ c,x=.bl c/\if c=true then u Z S1 Q else Q (.bl false) S1):Nf t u Z S Q:=h
def zxf {t u:DE}{Q:DK}(h:t Z S fun x S1=>∃ c,x=.bl c/\if c=true then Q (.bl true) S1 else u Z S1 Q):Ca t u Z S Q:=h
def zuS {t:DE}{Q:DK}(h:t Z S fun x S1=>∃ c,x=.bl c/\Q (.bl (!c)) S1):Np t Z S Q:=h
def zw5 {c:DT}{ta tb:DE}{Q:DK}(h:c Z S fun b S1=>if b=true then ta Z S1 Q else tb Z S1 Q):RL c ta tb Z S Q:=h
def zsY {r r':Y6}{ta tb tc:DE}{Q:DK}(h:ta Z S fun x S1=>tb Z S1 fun y S2=>r x y S2 fun z S3=>∃ c,z=.bl c/\if c=true then tc Z S3 fun w S4=>r' y w S4 Q else Q (.bl false) S3):JW r r' ta tb tc Z S Q:=h
def gC {f:Str}{ta:DE}{Q:DK}(h:ta Z S fun x S1=>∃ n c fs d,x=.ref n/\S1[n]?=some (.ins c fs)/\fs.lookup f=some d/\Q d S1):Yn f ta Z S Q:=h
def zyV {r:D->Option Int->Option Int->Z5->DK->Prop}{ta:DE}{lo hi:Option DE}{Q:DK}(h:ta Z S fun x S1=>Qz lo Z S1 fun l S2=>Qz hi Z S2 fun h S3=>r x l h S3 Q):Nq r ta lo hi Z S Q:=h
def zwp {Q:Option Int->Z5->Prop}(h:Q none S):Qz none Z S Q:=h
def zuy {t:DE}{Q:Option Int->Z5->Prop}(h:t Z S fun x S1=>∃ i,x=.int i/\Q (some i) S1):Qz (some t) Z S Q:=h
def zvo {Q:Bool->Z5->Prop}(h:Q true S):Wx Z S Q:=h
end
section
variable {S:Z5}{Q:DK}
def zxe {i j:Int}(q:Q (.int (i+j)) S):Zz (.int i) (.int j) S Q:=.inl ⟨i,j,rfl,rfl,q⟩
def Ei {xs ys:List D}(h:xs.length+ys.length<=big)(q:Q (.tup (xs++ys)) S):Zz (.tup xs) (.tup ys) S Q:=.inr (.inl ⟨xs,ys,rfl,rfl,h,q⟩)
def zwu {x y:D}{xs ys:List D}(hx:Lst S x xs)(hy:Lst S y ys)(h:xs.length+ys.length<=big)(q:New Q S (xs++ys)):Zz x y S Q:=.inr (.inr (.inl ⟨xs,ys,hx,hy,h,q⟩))
def xG {i j:Str}(h:i.length+j.length<=big)(q:Q (.str (i++j)) S):Zz (.str i) (.str j) S Q:=.inr (.inr (.inr ⟨i,j,rfl,rfl,h,q⟩))
def zyb {i j:Int}(q:Q (.int (i-j)) S):Zo (.int i) (.int j) S Q:=⟨i,j,rfl,rfl,q⟩
def zxE {i j:Int}(c:YM i j)(q:Q (.int (i*j)) S):Yw (.int i) (.int j) S Q:=.inl ⟨i,j,rfl,rfl,c,q⟩
def zxS {c:Nat}{z:Str}(q:Q (.bl (decide (c∈z.cps.toList))) S):Cy (.str ⟨#[c]⟩) (.str z) S Q:=.inr ⟨c,z,rfl,rfl,q⟩
def zxk {i j:Int}(c:0<j/\My.Bd 8000 j)(q:Q (.int (i/j)) S):oDiv (.int i) (.int j) S Q:=⟨i,j,rfl,rfl,⟨by lia,c.2⟩,by show Q (.int (i.fdiv j)) S;rw[Int.fdiv_eq_ediv_of_nonneg i (by lia)];exact q⟩
def zw7 {i j:Int}(c:0<j)(q:Q (.int (i%j)) S):oMod (.int i) (.int j) S Q:=⟨i,j,rfl,rfl,(by show j≠0;lia),by show Q (.int (i.fmod j)) S;rw[Int.fmod_eq_emod_of_nonneg i (by lia)];exact q⟩
def mG {i j:Int}(c:nJ i j)(q:Q (.int (i.fdiv j)) S):oDiv (.int i) (.int j) S Q:=⟨i,j,rfl,rfl,c,q⟩
def zvP {i j:Int}(c:j≠0)(q:Q (.int (i.fmod j)) S):oMod (.int i) (.int j) S Q:=⟨i,j,rfl,rfl,c,q⟩
def zxb {i:Int}(q:Q (.int (-i)) S):Yo (.int i) S Q:=⟨i,rfl,q⟩
def zyZ {i j:Int}(q:Q (.bl (decide (i<j))) S):oLt (.int i) (.int j) S Q:=⟨i,j,rfl,rfl,q⟩
def zyF {i j:Int}(q:Q (.bl (decide (i<=j))) S):oLe (.int i) (.int j) S Q:=⟨i,j,rfl,rfl,q⟩
def zzb {i j:Int}(q:Q (.bl (decide (j<i))) S):Xm (.int i) (.int j) S Q:=⟨i,j,rfl,rfl,q⟩
def zxt {i j:Int}(q:Q (.bl (decide (i=j))) S):oEq (.int i) (.int j) S Q:=⟨_,.inl ⟨rfl,rfl,rfl⟩,q⟩
def zxW {i j:Int}(q:Q (.bl (!decide (i=j))) S):U9 (.int i) (.int j) S Q:=⟨_,.inl ⟨rfl,rfl,rfl⟩,q⟩
def zvl (q:Q (.bl false) S):RW .non .non S Q:=.inl ⟨rfl,q⟩
def zvr {i:Int}(q:Q (.bl true) S):RW (.int i) .non S Q:=.inl ⟨rfl,q⟩
def v8 {x:D}(q:Q (.bl (!Kg x)) S):RW x .non S Q:=.inl ⟨rfl,q⟩
def zwT {xs:List D}{i:Int}{d:D}(e:Y7 xs i=some d)(q:Q d S):ZX (.tup xs) (.int i) S Q:=.inl ⟨i,xs,d,rfl,.inl rfl,e,q⟩
def BJ {x:D}{xs:List D}{i:Int}{d:D}(h:Lst S x xs)(e:Y7 xs i=some d)(q:Q d S):ZX x (.int i) S Q:=.inl ⟨i,xs,d,rfl,.inr h,e,q⟩
def zxi {z:Str}{i:Int}{c:Nat}(hz:z.length<=big)(e:atS z i=some c)(q:Q (.str ⟨#[c]⟩) S):ZX (.str z) (.int i) S Q:=.inr ⟨z,i,c,rfl,rfl,hz,e,q⟩
def zu5 {xs:List D}{lo hi:Option Int}(q:Q (.tup (cutD xs lo hi)) S):QG (.tup xs) lo hi S Q:=.inl ⟨xs,rfl,q⟩
def zwg {x:D}{xs:List D}{lo hi:Option Int}(h:Lst S x xs)(q:New Q S (cutD xs lo hi)):QG x lo hi S Q:=.inr (.inl ⟨xs,h,q⟩)
def zv3 {xs:List D}(q:Q (.int xs.length) S):Y4 [.tup xs] S Q:=.inl ⟨_,xs,rfl,.inl rfl,q⟩
def jF {x:D}{xs:List D}(h:Lst S x xs)(q:Q (.int xs.length) S):Y4 [x] S Q:=.inl ⟨_,xs,rfl,.inr h,q⟩
def o7 {z:Str}(hz:z.length<=big)(q:Q (.int z.length) S):Y4 [.str z] S Q:=.inr ⟨z,rfl,hz,q⟩
def zxy {i:Int}(q:Q (.int (i.natAbs:Int)) S):Gd [.int i] S Q:=⟨i,rfl,q⟩
def zvy {i j:Int}(q:Q (.int (max i j)) S):V6 [.int i,.int j] S Q:=⟨i,j,rfl,q⟩
def zwK {i j:Int}(q:Q (.int (min i j)) S):Ud [.int i,.int j] S Q:=⟨i,j,rfl,q⟩
def zvN {x:D}{ns:List Int}(h:Lst S x (ns.map D.int))(h0:0<ns.length)(q:∀ m:Int,m∈ns->(∀ a∈ns,a<=m)->Q (.int m) S):FW [x] S Q:=⟨x,ns,rfl,h,h0,q⟩
def zwB {x:D}{ns:List Int}(h:Lst S x (ns.map D.int))(h0:0<ns.length)(q:∀ m:Int,m∈ns->(∀ a∈ns,m<=a)->Q (.int m) S):Ce [x] S Q:=⟨x,ns,rfl,h,h0,q⟩
def jW {x:D}{bs:List Bool}(h:Lst S x (bs.map D.bl))(q:Q (.bl (bs.all id)) S):R5 [x] S Q:=⟨x,bs,rfl,h,q⟩
def gY {x:D}{xs:List D}(h:Lst S x xs)(q:Q (.tup xs) S):Oz [x] S Q:=⟨_,xs,rfl,.inr h,q⟩
def zue {x:D}{xs:List D}(h:Lst S x xs)(q:New Q S xs):Nk [x] S Q:=⟨_,xs,rfl,.inr h,q⟩
def ztI {x:D}{cs:List (Int×Int)}(h:Lst S x (cs.map p2))(hl:cs.length<64)(q:∀ ss:List (Int×Int),ss.Perm cs->ss.Pairwise (fun a b=>Q7 b a=false)->New Q S (ss.map p2)):En [x] S Q:=.inl ⟨x,cs,rfl,h,hl,q⟩
def yO {n:Nat}{xs:List D}{y:D}(h:S[n]?=some (.lst xs))(hl:xs.length<big)(q:Put (Q .non) S n (.lst (xs++[y]))):UL (.ref n) [y] S Q:=⟨n,xs,y,rfl,rfl,h,hl,q⟩
def fP {n:Nat}{xs ys:List D}(h:S[n]?=some (.lst xs))(hl:xs.length+ys.length<=big)(q:Put (Q .non) S n (.lst (xs++ys))):Br (.ref n) [.tup ys] S Q:=.inr ⟨n,xs,ys,rfl,rfl,h,hl,q⟩
def zvC {n:Nat}{xs:List D}{y:D}(h:S[n]?=some (.lst (y::xs)))(q:Put (Q y) S n (.lst xs)):FJ (.ref n) [.int 0] S Q:=⟨n,xs,y,rfl,rfl,h,q⟩
def zta {n j:Nat}{xs:List D}{y e:D}(h:S[n]?=some (.lst xs))(f:xs.all (fl 20)=true)(g:fl 20 y=true)(hl:xs.length<=big)(hj:xs[j]?=some e)(h1:eqv e y=true)(h2:∀ (m:Nat) e',m<j->xs[m]?=some e'->eqv e' y=false)(q:Q (.int (j:Nat)) S):Dv (.ref n) [y] S Q:=⟨n,xs,y,j,e,rfl,rfl,h,f,g,hl,hj,h1,h2,q⟩
def um {n:Nat}{xs:List D}(h:S[n]?=some (.lst xs))(q:Put (Q .non) S n (.lst [])):Jv (.ref n) [] S Q:=⟨n,xs,rfl,rfl,h,q⟩
def G8 {n:Nat}{xs:List D}{k:Int}{j:Nat}{d:D}{Z:ZR}{Q:ZR->Z5->Prop}(h:S[n]?=some (.lst xs))(e:Xg xs.length k=some j)(q:Put (Q Z) S n (.lst (xs.set j d))):Bf d Z Q (.ref n) (.int k) S:=⟨n,xs,k,j,rfl,rfl,h,e,q⟩
end
section
variable {Z:ZR}{S:Z5}{R:Tr->Z5->Prop}
def zv4 {t:DE}(h:t Z S fun x S1=>PK x S1 R):Ze t Z S R:=h
def zxx {xs:List D}(q:R ⟨xs,fun _=>True⟩ S):PK (.tup xs) S R:=.inl ⟨xs,rfl,q⟩
def zyf {x:D}{xs:List D}(h:Lst S x xs)(q:R ⟨xs,fun S=>Lst S x xs⟩ S):PK x S R:=.inr (.inl ⟨xs,h,q⟩)
def zwO {z:Str}(q:R ⟨signs z,fun _=>True⟩ S):PK (.str z) S R:=.inr (.inr ⟨z,rfl,q⟩)
def zvv {t:DA}(h:t Z S fun vs S1=>∃ j:Int,vs=[.int j]/\-(2 ^ 62)<=j/\j<2 ^ 62/\R ⟨upto 0 j.toNat,fun _=>True⟩ S1):Oi t Z S R:=h
def iC {t:DA}(h:t Z S fun vs S1=>∃ i j:Int,vs=[.int i,.int j]/\R ⟨upto i (j-i).toNat,fun _=>True⟩ S1):Eb t Z S R:=h
def zvb {t:DA}(h:t Z S (Dz R)):Oe t Z S R:=h
def Gy {x:D}{xs:List D}(h:Lst S x xs)(q:R ⟨Vy 0 xs,fun S=>Lst S x xs⟩ S):Dz R [x] S:=.inl ⟨x,xs,rfl,h,q⟩
def zuD {Q:DK}{x:D}{zs:List Str}(hx:Lst S x (zs.map D.str))(hl:zs.length<=4000)(q:Q (.int (BK zs)) S):CJ [x] S Q:=⟨x,zs,rfl,hx,hl,q⟩
def zyr {t:DA}(h:t Z S (CZ R)):BL t Z S R:=h
def zyC {x y:D}{xs ys:List D}(hx:Lst S x xs)(hy:Lst S y ys)(q:R ⟨Xo xs ys,fun S=>Lst S x xs/\Lst S y ys⟩ S):CZ R [x,y] S:=.inl ⟨x,y,xs,ys,rfl,hx,hy,q⟩
def zyU {own:Nat}{fv:List Nat}{wi:DI}{g:DG}{tc:DT}{te:DE}{Q:DK}(h:wi Z S fun J S1=>mK own fv g tc te Z Q J S1):XS own fv wi g tc te Z S Q:=h
end
def Er {A B:Prop}(h:B):if false=true then A else B:=by rw[if_neg qu];exact h
def Es {A B:Prop}(h:A):if true=true then A else B:=by rw[if_pos rfl];exact h
def ZM {c A B:Prop}[Decidable c](h1:c->A)(h2:¬ c->B):if decide c=true then A else B:=by
 by_cases h:c
 ·rw[decide_eq_true h,if_pos rfl];exact h1 h
 ·rw[decide_eq_false h,if_neg qu];exact h2 h
def Pj {c A B:Prop}[Decidable c](h1:¬ c->A)(h2:c->B):if(!decide c)=true then A else B:=by
 by_cases h:c
 ·rw[decide_eq_true h];exact h2 h
 ·rw[decide_eq_false h];exact h1 h
def Wz (S T:Z5)(k:Nat):(S++T)[S.length+k]?=T[k]?:=by
 rw[qi (NZ _ _),GC]
def ztO (S T:Z5):(S++T)[S.length]?=T[0]?:=Wz S T 0
def YC {S T:Z5}{c:Cell}:(S++c::T)[S.length]?=some c:=(Wz S (c::T) 0).trans rfl
def Jj {S T:Z5}{c:Cell}:(S++(T++[c]))[S.length+T.length]?=some c:=by rw[Wz,qi (qg _),Wv];rfl
def ztx (S T:Z5)(k:Nat)(c:Cell):(S++T).set (S.length+k) c=S++T.set k c:=by
 rw[qX _ _ (NZ _ _),GC]
def Wa (S T:Z5)(a c:Cell):(S++a::T).set S.length c=S++c::T:=ztx S (a::T) 0 c
def YF {S T:Z5}{n:Nat}{c:Cell}(h:S[n]?=some c):(S++T)[n]?=some c:=by
 have:n<S.length:=by
  rcases qP n S.length with g|g
  ·exact g
  ·rw[qv g]at h;cases h
 rw[qk this];exact h
def Lst.old {S T:Z5}{x:D}{xs:List D}(h:Lst S x xs):Lst (S++T) x xs:=h.imp id fun⟨n,e,h⟩=>⟨n,e,YF h⟩
def Lst.at {S T:Z5}{k:Nat}{xs:List D}(h:T[k]?=some (.lst xs)):Lst (S++T) (.ref (S.length+k)) xs:=.inr ⟨_,rfl,by rw[Wz];exact h⟩
def Lst.at0 {S T:Z5}{xs:List D}:Lst (S++.lst xs::T) (.ref S.length) xs:=.inr ⟨_,rfl,by rw[ztO];rfl⟩
def Lst.new {S T:Z5}{xs:List D}:Lst (S++(T++[.lst xs])) (.ref (S.length+T.length)) xs:=.inr ⟨_,rfl,Jj⟩
theorem Lst.rl {S:Z5}{xs:List D}:Lst S (.rl xs) xs:=.inl rfl
def Lst.here {S:Z5}{n:Nat}{xs:List D}(h:S[n]?=some (.lst xs)):Lst S (.ref n) xs:=.inr ⟨n,rfl,h⟩
def Yg {S T:Z5}{Q:DK}{d:D}(h:fl 20 d=true)(q:Q d S):Fin S Q d (S++T):=.inr ⟨S,Lg _ _,qg _,.inl h,fun _ _ e=>.inl e,q⟩
def fin_same {S S':Z5}{Q:DK}{d:D}(q:Q d S'):Fin S Q d S':=.inl q
section
variable {S:Z5}{Q:DK}
def zkq {i:Int}(q:Q (.bl true) S):T4 [.int i,.ty "int"] S Q:=⟨_,_,true,rfl,by rfl,q⟩
def zjo {i:Int}(q:Q (.bl false) S):T4 [.int i,.ty "bool"] S Q:=⟨_,_,false,rfl,by rfl,q⟩
def zi4 {xs:List D}(q:Q (.bl true) S):T4 [.tup xs,.ty "tuple"] S Q:=⟨_,_,true,rfl,by rfl,q⟩
def zjE {n:Nat}{xs:List D}(h:S[n]?=some (.lst xs))(q:Q (.bl true) S):T4 [.ref n,.ty "list"] S Q:=⟨_,_,true,rfl,by unfold Cu;rw[if_neg (by decide)];simp only[h];rfl,q⟩
end
def zxv {A B:Prop}(h:B):if(!true)=true then A else B:=Er h
def zwU {A B:Prop}(h:A):if(!false)=true then A else B:=Es h
def Li {S:Z5}{Q:DK}{x:D}{bs:List Bool}{b:Bool}(h:Lst S x (bs.map D.bl))(e:bs.all id=b)(q:Q (.bl b) S):R5 [x] S Q:=jW h (by rw[e];exact q)
def RZ (S:Z5)(items:List D)(p:D->Bool)(f:D->D)(i:Nat)(ys:List D)(S':Z5):Prop:=S'=S/\ys=((items.take i).filter p).map f
def Wm {α:Type}{xs:List α}{i:Nat}{x:α}(h:xs[i]?=some x):xs.take (i+1)=xs.take i++[x]:=by rw[List.take_succ,h];rfl
def V1 {S:Z5}{items:List D}{p:D->Bool}{f:D->D}{i:Nat}{ys:List D}{d y:D}(hd:items[i]?=some d)(hw:RZ S items p f i ys S)(hp:p d=true)(hy:y=f d):RZ S items p f (i+1) (ys++[y]) S :=
 ⟨rfl,by rw[Wm hd,Qc,qA,<- hw.2,Hi hp,hy];rfl⟩
def rH {S:Z5}{items:List D}{p:D->Bool}{f:D->D}{i:Nat}{ys:List D}{d:D}(hd:items[i]?=some d)(hw:RZ S items p f i ys S)(hp:p d=false):RZ S items p f (i+1) ys S :=
 ⟨rfl,by rw[Wm hd,Qc,qA,<- hw.2,J2 (by rw[hp];exact qu)];simp⟩
def V2 {own:Nat}{fv:List Nat}{xs:List D}{ok:Z5->Prop}{g:DG}{tc:DT}{te:DE}{Z:ZR}{S:Z5}{Q:DK}(p:D->Bool)(f:D->D)(hok:ok S)(hbig:xs.length<=big)
  (step:∀ i d ys,xs[i]?=some d->RZ S xs p f i ys S->g d (NP own fv Z) S fun ρ2 S2=>tc ρ2 S2 fun b S3=>if b=true then te ρ2 S3 fun y S4=>RZ S xs p f (i+1) (ys++[y]) S4 else RZ S xs p f (i+1) ys S3)
  (q:New Q S ((xs.filter p).map f)):mK own fv g tc te Z Q ⟨xs,ok⟩ S:=by
 refine⟨hbig,RZ S xs p f,⟨rfl,by simp⟩,fun i ys S' h=>by rw[h.1];exact hok,fun i d ys S' hd h=>?_,fun ys S' h=>?_⟩
 ·obtain⟨rfl,_⟩:=id h
  exact step i d ys hd h
 ·obtain⟨rfl,rfl⟩:=h
  rw[Ss];exact q
def filter_true {α:Type}(xs:List α):xs.filter (fun _=>true)=xs:=List.filter_eq_self.mpr fun _ _=>rfl
def Ub {ds:List D}{i:Nat}{d:D}(h:ds[i]?=some d):Y7 ds (i:Int)=some d:=by
 have hl:i<ds.length:=by
  rcases qP i ds.length with g|g
  ·exact g
  ·rw[qv g]at h;cases h
 unfold Y7 Xg
 rw[if_pos (by lia),if_pos (by lia)]
 simpa using h
def Cg {lo:Int}{n i:Nat}{d:D}(h:(upto lo n)[i]?=some d):i<n/\d=.int (lo+i):=by
 unfold upto at h
 rw[qj]at h
 by_cases hi:i<n
 ·rw[JZ hi]at h
  exact⟨hi,by simpa using h.symm⟩
 ·rw[qv (by simpa using hi)]at h;cases h
def nO (lo:Int)(n:Nat):(upto lo n).length=n:=by unfold upto;simp
def wB {zs:List Int}{k:Int}(h0:0<=k)(h:k<zs.length):∃ z,z∈zs/\Y7 (zs.map D.int) k=some (.int z):=by
 refine⟨zs[k.toNat]'(by lia),List.getElem_mem _,?_⟩
 unfold Y7 Xg
 rw[qc,if_pos h0,if_pos h]
 simp only[Option.bind_some]
 rw[qj,qb (by lia)];rfl
def zvp {zs:List Int}{k:Int}(h0:0<=k)(h:k<zs.length):Xg (zs.map D.int).length k=some k.toNat:=by
 unfold Xg
 rw[qc,if_pos h0,if_pos h]
def zqC {zs:List Int}{i:Nat}{v z:Int}(h:z∈zs.set i v):z∈zs\/z=v:=by
 rcases List.mem_or_eq_of_mem_set h with h|h
 ·exact .inl h
 ·exact .inr h
def Qn {zs:List Int}{i:Nat}{d:D}(h:(zs.map D.int)[i]?=some d):∃ z,zs[i]?=some z/\d=.int z:=by
 rw[qj]at h
 cases e:zs[i]? with
 |none=>rw[e]at h;cases h
 |some p=>rw[e]at h;cases h;exact⟨p,rfl,rfl⟩
def R3 {cs:List (Int×Int)}{i:Nat}{d:D}(h:(cs.map p2)[i]?=some d):∃ c,cs[i]?=some c/\d=p2 c:=by
 rw[qj]at h
 cases e:cs[i]? with
 |none=>rw[e]at h;cases h
 |some p=>rw[e]at h;cases h;exact⟨p,rfl,rfl⟩
def zU {α:Type}{xs:List α}{i:Nat}{x:α}(h:xs[i]?=some x):i<xs.length:=by
 rcases qP i xs.length with g|g
 ·exact g
 ·rw[qv g]at h;cases h
def WD:Option Int->D
 |none=>.non
 |some v=>.int v
theorem Qg:∀ {xs:List D} {k i:Nat} {d:D},(Vy k xs)[i]?=some d->∃ x,xs[i]?=some x/\d=.tup [.int ((k+i:Nat):Int),x]
 |[],k,i,d,h=>by simp[Vy]at h
 |x::xs,k,0,d,h=>⟨x,rfl,by simpa [Vy]using h.symm⟩
 |x::xs,k,i+1,d,h=>by
  obtain⟨y,e1,e2⟩:=Qg (xs:=xs) (k:=k+1) (i:=i) (d:=d) (by simpa [Vy]using h)
  exact⟨y,by simpa using e1,by rw[e2,show k+1+i=k+(i+1) by lia]⟩
theorem Te:∀ (k:Nat) (xs:List D),(Vy k xs).length=xs.length
  |_,[]=>rfl
  |k,x::xs=>congrArg (· + 1) (Te (k+1) xs)
theorem Il:∀ {xs ys:List D} {i:Nat} {d:D},(Xo xs ys)[i]?=some d->∃ x y,xs[i]?=some x/\ys[i]?=some y/\d=.tup [x,y]
 |[],ys,i,d,h=>by simp[Xo]at h
 |x::xs,[],i,d,h=>by simp[Xo]at h
 |x::xs,y::ys,0,d,h=>⟨x,y,rfl,rfl,by simpa [Xo]using h.symm⟩
 |x::xs,y::ys,i+1,d,h=>by
  obtain⟨a,b,e1,e2,e3⟩:=Il (xs:=xs) (ys:=ys) (i:=i) (d:=d) (by simpa [Xo]using h)
  exact⟨a,b,by simpa using e1,by simpa using e2,e3⟩
theorem Ni:∀ (xs ys:List D),(Xo xs ys).length=min xs.length ys.length
 |[],ys=>by simp[Xo]
 |x::xs,[]=>by simp[Xo]
 |x::xs,y::ys=>by
  show(Xo xs ys).length+1=min (xs.length+1) (ys.length+1)
  rw[Ni xs ys];lia
def Oh:ZV:=fun ds S Q=>∃ ns:List Int,ds=[.rl (ns.map D.int)]/\(S=[]/\∀ n∈ns,Hg n)/\ns.length<=63/\∀ S',Q (.bl true) S'
def sI {α β:Type}(f:α->β)(xs:List α)(lo hi:Option Int):cutD (xs.map f) lo hi=(cutD xs lo hi).map f:=by
 unfold cutD
 rw[qc,List.map_take,List.map_drop]
def zt7 {α:Type}(xs:List α)(lo hi:Option Int):(cutD xs lo hi).length<=W8 xs.length xs.length hi-W8 xs.length 0 lo:=by
 unfold cutD
 rw[Vu];lia
section
variable {nx:ZR->Z5->Prop}{rt:DK}{bk ct:ZR->Z5->Prop}{Z:ZR}{S:Z5}
def gK {f:WL}{ex:XR}{t:DA}{Q:DK}(h:t Z S fun xs S1=>f xs S1 Q (ex Z)):WT f ex t Z S Q:=h
def zsG {ex:XR}{c:Str}(h:ex Z c S):M6 ex c ⟨nx,rt,bk,ct⟩ Z S:=h
def fQ {tbl:List (Str×Bool)}{t:DE}{Q:DK}(h:t Z S fun x S1=>∃ c b,x=.exn c/\tbl.lookup c=some b/\Q (.bl b) S1):RM tbl t Z S Q:=h
def zuX {tbl:List (Str×Bool)}{c:Str}{b:Bool}{P:Bool->Prop}(e:tbl.lookup c=some b)(q:P b):∃ c' b',D.exn c=.exn c'/\tbl.lookup c'=some b'/\P b':=⟨c,b,rfl,e,q⟩
def fG {i:Nat}{ok:List Str}{b:XR->DS}{h:DS}(g:b (fun ρ' c S'=>ok.contains c=true/\h ⟨fun ρ2 S2=>nx (ρ2.set i none) S2,rt,fun _ _=>False,fun _ _=>False⟩ (ρ'.set i (some (.exn c))) S') ⟨nx,rt,bk,ct⟩ Z S):DQ i ok b h ⟨nx,rt,bk,ct⟩ Z S:=g
end
def zw3 {S:Z5}{Q:DK}{x y:D}{xs ys:List D}{b:Bool}(hx:Lst S x xs)(hy:Lst S y ys)(fx:xs.all (fl 20)=true)(fy:ys.all (fl 20)=true)(e:eqvAll xs ys=b)(q:Q (.bl b) S):oEq x y S Q:=⟨_,.inr (.inl ⟨xs,ys,hx,hy,fx,fy,rfl⟩),by rw[e];exact q⟩
def ztw {S:Z5}{Q:DK}{x y:Str}{b:Bool}(fx:fl 20 (.str x)=true)(fy:fl 20 (.str y)=true)(e:(x==y)=b)(q:Q (.bl b) S):oEq (.str x) (.str y) S Q:=⟨_,.inl ⟨fx,fy,rfl⟩,by show Q (.bl (x==y)) S;rw[e];exact q⟩
def zsV {S:Z5}{Q:DK}{x y:Str}{b:Bool}(fx:fl 20 (.str x)=true)(fy:fl 20 (.str y)=true)(e:(x==y)=b)(q:Q (.bl (!b)) S):U9 (.str x) (.str y) S Q:=⟨_,.inl ⟨fx,fy,rfl⟩,by show Q (.bl (!(x==y))) S;rw[e];exact q⟩
section
variable {nx:ZR->Z5->Prop}{rt:DK}{bk ct:ZR->Z5->Prop}{Z:ZR}{S:Z5}{Q:DK}{td ti tz tv:DE}
def zuM (h:Q (.ref S.length) (S++[.dk []])):Dj Z S Q:=h
def zuT (h:Q (.ref S.length) (S++[.dt []])):FP Z S Q:=h
def zxc (h:td Z S fun x S1=>ti Z S1 fun y S2=>∃ d,Vg S2 x y (some d)/\Q d S2):QJ td ti Z S Q:=h
def zvJ (h:tv Z S fun v S1=>td Z S1 fun x S2=>ti Z S2 fun y S3=>Ug S3 x y v (nx Z)):Og td ti tv ⟨nx,rt,bk,ct⟩ Z S:=h
def Vg.k {n:Nat}{Z6:List (Str×D)}{z:Str}{o:Option D}(h:S[n]?=some (.dk Z6))(e:dval Z6 z=o):Vg S (.ref n) (.str z) o:=.inl ⟨n,Z6,z,rfl,rfl,h,e.symm⟩
def Vg.t {n:Nat}{Z6:List (List (Sum Int Str)×D)}{ks:List (Sum Int Str)}{o:Option D}(h:S[n]?=some (.dt Z6))(e:dval Z6 ks=o):Vg S (.ref n) (.tup (ks.map kD)) o:=.inr ⟨n,Z6,ks,rfl,rfl,h,e.symm⟩
def Ug.k {n:Nat}{Z6:List (Str×D)}{z:Str}{v:D}{P:Z5->Prop}(h:S[n]?=some (.dk Z6))(hl:Z6.length<big)(q:Put P S n (.dk (dput Z6 z v))):Ug S (.ref n) (.str z) v P:=.inl ⟨n,Z6,z,rfl,rfl,h,hl,q⟩
def Ug.t {n:Nat}{Z6:List (List (Sum Int Str)×D)}{ks:List (Sum Int Str)}{v:D}{P:Z5->Prop}(h:S[n]?=some (.dt Z6))(hl:Z6.length<big)(q:Put P S n (.dt (dput Z6 ks v))):Ug S (.ref n) (.tup (ks.map kD)) v P:=.inr ⟨n,Z6,ks,rfl,rfl,h,hl,q⟩
end
section
variable {κ:Type}[DecidableEq κ]
def vK {k:κ}:dval ([]:List (κ×D)) k=none:=rfl
def Ul {p:κ×D}{Z6:List (κ×D)}{k:κ}:dval (p::Z6) k=if p.1=k then some p.2 else dval Z6 k:=by
 unfold dval
 rw[List.find?_cons]
 by_cases h:p.1=k
 ·rw[if_pos h,decide_eq_true h];rfl
 ·rw[if_neg h,decide_eq_false h]
def Io (Z6:List (κ×D))(k:κ):(Z6.any fun kv=>decide (kv.1=k))=(dval Z6 k).isSome:=by
 induction Z6 with
 |nil=>rfl
 |cons p Z6 ih =>
  rw[RV,Ul,ih]
  by_cases h:p.1=k
  ·rw[if_pos h,decide_eq_true h];rfl
  ·rw[if_neg h,decide_eq_false h];rfl
def zpF (Z6:List (κ×D))(k j:κ)(v:D):dval (Z6++[(k,v)]) j=(dval Z6 j).or (if k=j then some v else none):=by
 induction Z6 with
 |nil=>rw[List.nil_append,Ul,vK];simp
 |cons p Z6 ih =>
  rw[List.cons_append,Ul,Ul,ih]
  by_cases h:p.1=j
  ·rw[if_pos h,if_pos h];rfl
  ·rw[if_neg h,if_neg h]
def BZ (Z6:List (κ×D))(k j:κ)(v:D):dval (dput Z6 k v) j=if k=j then some v else dval Z6 j:=by
  unfold dput
  rw[Io]
  cases e:dval Z6 k with
  |none =>
    rw[show(none:Option D).isSome=false from rfl,if_neg qu,zpF]
    by_cases h:k=j
    . subst h;rw[e,if_pos rfl];rfl
    . rw[if_neg h,if_neg h];cases dval Z6 j<;>rfl
  |some w =>
    rw[show(some w).isSome=true from rfl,if_pos rfl]
    have:∀ Z6:List (κ×D),dval (Z6.map fun kv=>if kv.1=k then(kv.1,v)else kv) j=if k=j then(dval Z6 j).map fun _=>v else dval Z6 j:=fun Z6=>by
      induction Z6 with
      |nil=>simp[vK]
      |cons p Z6 ih =>
        rw[qJ,Ul,Ul,ih]
        by_cases hp:p.1=k
        . rw[if_pos hp]
          by_cases h:k=j
          . rw[if_pos h,if_pos (hp.trans h),if_pos (hp.trans h)];simp[h]
          . have:¬ p.1=j:=fun z=>h (hp.symm.trans z)
            rw[if_neg this,if_neg this,if_neg h]
        . rw[if_neg hp]
          by_cases h:k=j
          . have:¬ p.1=j:=fun z=>hp (z.trans h.symm)
            rw[if_neg this,if_neg this]
          . rw[if_neg h,if_neg h]
    rw[this]
    by_cases h:k=j
    . subst h;rw[if_pos rfl,if_pos rfl,e];rfl
    . rw[if_neg h,if_neg h]
def BX (Z6:List (κ×D))(k:κ)(v:D):(dput Z6 k v).length<=Z6.length+1:=by
 unfold dput
 split
 ·rw[qc];lia
 ·simp
def zoP (Z6:List (κ×D))(k:κ)(v:D):(dput Z6 k v).map (·.1)=if(dval Z6 k).isSome=true then Z6.map (·.1)else Z6.map (·.1)++[k]:=by
  unfold dput
  rw[Io]
  split
  . rw[WY]
    refine List.map_congr_left fun p _=>?_
    show(if p.1=k then(p.1,v)else p).1=p.1
    split<;>rfl
  . rw[qA];rfl
end
def Dl (c:List Str)(z:Str):(Sg c z).length=if c.any (·==z)then c.length else c.length+1:=by
  unfold Sg;split<;>simp
def mD (c:List Str)(z y:Str):(Sg c z).any (·==y)=(c.any (·==y)||decide (y=z)):=by
  unfold Sg
  by_cases h:c.any (·==z)=true
  . rw[if_pos h]
    by_cases e:y=z
    . subst e;rw[h];rfl
    . rw[decide_eq_false e,Bool.or_false]
  . rw[if_neg h,Pa]
    congr 1
    by_cases e:y=z
    . subst e;simp
    . rw[decide_eq_false e]
      have:(z==y)=false:=beq_eq_false_iff_ne.mpr fun q=>e q.symm
      simp[this]
theorem FN (f:Nat->Str):∀ i,(Xd f i).length<=i
  |0=>qg _
  |i+1=>by
    have:=FN f i
    show(Sg (Xd f i) (f i)).length<=i+1
    rw[Dl];split<;>lia
theorem lZ (f:Nat->Str)(y:Str):∀ i,((Xd f i).any (·==y)=true↔∃ j,j<i/\f j=y)
  |0=>⟨fun h=>(by simp[Xd]at h),fun⟨j,hj,_⟩=>(by lia)⟩
  |i+1=>by
    show((Sg (Xd f i) (f i)).any (·==y)=true)↔_
    rw[mD,Qy,lZ f y i,decide_eq_true_eq]
    constructor
    . rintro(⟨j,hj,e⟩|e)
      . exact⟨j,by lia,e⟩
      . exact⟨i,by lia,e.symm⟩
    . rintro⟨j,hj,e⟩
      rcases qP j i with h|h
      . exact .inl ⟨j,h,e⟩
      . have:j=i:=by lia
        subst this;exact .inr e.symm
theorem sZ (f:Nat->Str):∀ i,(∀ a b,a<b->b<i->f a≠f b)->(Xd f i).length=i
 |0,_=>rfl
 |i+1,h=>by
  show(Sg (Xd f i) (f i)).length=i+1
  rw[Dl,sZ f i fun a b x y=>h a b x (by lia)]
  rw[if_neg]
  intro z
  obtain⟨j,hj,e⟩:=(lZ f (f i) i).mp z
  exact h j i hj (by lia) e
def zoo {zs:List Str}(h:zs.Nodup):BK zs=zs.length:=sZ _ _ fun a b hab hb=>by
 show zs.getD a Str.empty≠zs.getD b Str.empty
 rw[qE,qE,qb hb,qb (show a<zs.length by lia)]
 exact qZ.mp h a b (by lia) hb hab
end Dp
namespace Rm
structure Pc where
 lo:Int
 hi:Int
 to:Int
 st:Int
instance:DecidableEq Pc:=fun p q=>if h:p.lo=q.lo/\p.hi=q.hi/\p.to=q.to/\p.st=q.st then isTrue (by cases p;cases q;obtain⟨h1,h2,h3,h4⟩:=h;cases h1;cases h2;cases h3;cases h4;rfl)else isFalse (fun e=>h (by subst e;exact⟨rfl,rfl,rfl,rfl⟩))
def Pc.led (p:Pc)(h:Int):Int:=p.to+p.st*(h-p.lo)
def Pc.fin (p:Pc):Int:=p.led p.hi
def draw (p:Pc)(t:Int):Prop:=if p.lo=p.hi then t=p.to\/t=p.to+1 else t=p.led (p.hi+1)
instance (p:Pc) (t:Int):Decidable (draw p t):=by unfold draw;infer_instance
structure Good (p:Pc):Prop where
 le:p.lo<=p.hi
 st:p.st=0\/p.st=1
 one:p.lo=p.hi->p.st=0
structure Link (p q:Pc):Prop where
 nx:q.lo=p.hi+1
 up:p.fin<=q.to
 nd:¬ draw p q.to
structure ZW (ps:List Pc):Prop where
 good:∀ p∈ps,Good p
 link:∀ (i:Nat) p q,ps[i]?=some p->ps[i+1]?=some q->Link p q
def ZW.nil:ZW []:=⟨(fun _ h=>by simp at h),fun i p q h=>by simp at h⟩
def Ye (p:Pc)(h:Int):Prop:=p.lo<=h/\h<=p.hi
instance (p:Pc) (h:Int):Decidable (Ye p h):=by unfold Ye;infer_instance
def at':List Pc->Int->Option Int
 |[],_=>none
 |p::r,h=>if Ye p h then some (p.led h)else at' r h
def Xz (p:Pc)(r:List Pc)(h:Int):at' (p::r) h=if Ye p h then some (p.led h)else at' r h:=rfl
def pD (a b:List Pc)(h:Int):at' (a++b) h=(at' a h).or (at' b h):=by
 induction a with
 |nil=>simp[at']
 |cons p a ih =>
  rw[List.cons_append,Xz,Xz]
  split
  ·rfl
  ·exact ih
def ZW.init {ps:List Pc}{p:Pc}(h:ZW (ps++[p])):ZW ps/\Good p/\∀ q,ps.getLast?=some q->Link q p:=by
 refine⟨⟨fun q hq=>h.good q (by simp[hq]),fun i a b ha hb=>h.link i a b ?_ ?_⟩,h.good p (by simp),fun q hq=>?_⟩
 ·rw[qk (by
   rcases qP i ps.length with g|g
   ·exact g
   ·rw[qv g]at ha;cases ha)];exact ha
 ·rw[qk (by
   rcases qP (i+1) ps.length with g|g
   ·exact g
   ·rw[qv g]at hb;cases hb)];exact hb
 ·have hne:ps≠[]:=by intro e;rw[e]at hq;simp at hq
  have hl:0<ps.length:=List.length_pos_iff.mpr hne
  refine h.link (ps.length-1) q p ?_ ?_
  ·rw[qk (by lia),<- CN];exact hq
  ·rw[show ps.length-1+1=ps.length by lia,qi (qg _),Wv];rfl
def ZW.snoc {ps:List Pc}{p:Pc}(h:ZW ps)(g:Good p)(l:∀ q,ps.getLast?=some q->Link q p):ZW (ps++[p]):=by
 refine⟨fun q hq=>?_,fun i a b ha hb=>?_⟩
 ·rcases qI.mp hq with hq|hq
  ·exact h.good q hq
  ·have:q=p:=by simpa using hq
   subst this;exact g
 ·rcases qP (i+1) ps.length with hi|hi
  ·rw[qk (by lia)]at ha
   rw[qk hi]at hb
   exact h.link i a b ha hb
  ·rcases qP i ps.length with hj|hj
   ·have e:i+1=ps.length:=by lia
    rw[qk hj]at ha
    rw[e,qi (qg _),Wv]at hb
    have eb:p=b:=by simpa using hb
    subst eb
    exact l a (by rw[CN,show ps.length-1=i by lia];exact ha)
   ·rw[qi (by lia)]at hb
    rw[qv (by simp;lia)]at hb
    cases hb
def ZW.below:∀ {ps:List Pc} {p:Pc},ZW (ps++[p])->∀ q∈ps,q.hi<p.lo:=by
 intro ps
 induction hn:ps.length generalizing ps with
 |zero=>intro p h q hq;have:=Rt.mp hn;subst this;simp at hq
 |succ n ih =>
  intro p h q hq
  have hne:ps≠[]:=by intro e;rw[e]at hn;simp at hn
  have hs:=G6 hne
  obtain⟨h1,hg,hl⟩:=h.init
  have lk:=hl (ps.getLast hne) (List.getLast?_eq_some_getLast hne)
  have gl:=h1.good _ (List.getLast_mem hne)
  have a1:=lk.nx
  rw[<- hs]at hq
  rcases qI.mp hq with hq|hq
  ·have h1':ZW (ps.dropLast++[ps.getLast hne]):=by rw[hs];exact h1
   have:=ih (ps:=ps.dropLast) (by rw[List.length_dropLast,hn];rfl) h1' q hq
   have:=gl.le
   lia
  ·have:q=ps.getLast hne:=by simpa using hq
   rw[this];lia
def Cw {ps:List Pc}{h:Int}(hb:∀ q∈ps,q.hi<h):at' ps h=none:=by
 induction ps with
 |nil=>rfl
 |cons p r ih =>
  rw[Xz,if_neg (by intro z;have:=hb p (by simp);have:=z.2;lia)]
  exact ih fun q hq=>hb q (by simp[hq])
def Ie {ps:List Pc}{p:Pc}(hr:ZW (ps++[p]))(h:Int):at' (ps++[p]) h=if Ye p h then some (p.led h)else at' ps h:=by
 rw[pD]
 by_cases hi:Ye p h
 ·rw[if_pos hi,Cw fun q hq=>by have:=hr.below q hq;have:=hi.1;lia]
  rw[Xz,if_pos hi];rfl
 ·rw[if_neg hi]
  have:at' [p] h=none:=by rw[Xz,if_neg hi];rfl
  rw[this,Option.or_none]
def U8 {p:Pc}(h:p.st=0\/p.st=1)(x:Int):p.led x=if p.st=0 then p.to else p.to+(x-p.lo):=by
  unfold Pc.led
  rcases h with e|e<;>rw[e]<;>simp
structure Qa (ps:List Pc)(lo hi to st:Int)(qs:List Pc):Prop where
 isR:ZW qs
 led:∀ h,at' qs h=if lo<=h/\h<=hi then some (to+st*(h-lo))else at' ps h
 last:lo<=hi->∃ q,qs.getLast?=some q/\q.hi=hi/\q.fin=to+st*(hi-lo)
 none:hi<lo->qs=ps
 len:qs.length<=ps.length+1
 head:∀ p,ps.head?=some p->∃ q,qs.head?=some q/\q.lo=p.lo/\q.to=p.to
 first:ps=[]->lo<=hi->∃ q,qs.head?=some q/\q.lo=lo/\q.to=to
def Wi (ps:List Pc)(lo hi to st:Int):List Pc :=
 match ps.getLast? with
 |none=>if lo<=hi then[⟨lo,hi,to,if lo<hi then st else 0⟩]else[]
 |some p=>if lo<=hi/\draw p to then
   (if(if st=to-p.fin then hi else lo)+1<=hi then ps.dropLast++[⟨p.lo,lo,p.to,to-p.fin⟩]++[⟨lo+1,hi,to+st*(lo+1-lo),if lo+1<hi then st else 0⟩]else ps.dropLast++[⟨p.lo,(if st=to-p.fin then hi else lo),p.to,to-p.fin⟩])
  else if lo<=hi then ps++[⟨lo,hi,to,if lo<hi then st else 0⟩]else ps
def zoA {p:Pc}{t:Int}(g:Good p)(hd:draw p t):(t-p.fin=0\/t-p.fin=1)/\(p.lo<p.hi->t-p.fin=p.st):=by
  unfold draw at hd
  unfold Pc.fin
  rw[U8 g.st]at hd ⊢
  have:=g.le
  have h1:=g.one
  rcases g.st with e|e<;>simp only[e]at hd ⊢<;>split at hd<;>rename_i hh<;>simp at hd ⊢<;>(try simp only[e]at h1)<;>lia
def GK {ps:List Pc}{p:Pc}(h:ps.getLast?=some p):ps=ps.dropLast++[p]:=by
 have hne:ps≠[]:=by intro e;rw[e]at h;simp at h
 rw[List.getLast?_eq_some_getLast hne]at h
 have e:=G6 hne
 cases h
 exact e.symm
def Link.same {q p P:Pc}(h:Link q p)(h1:P.lo=p.lo)(h2:P.to=p.to):Link q P:=⟨by rw[h1];exact h.nx,by rw[h2];exact h.up,by rw[h2];exact h.nd⟩
def Tj {e:Int}(he:e=0\/e=1)(x:Int):e*x=if e=0 then 0 else x:=by
  rcases he with rfl|rfl<;>simp
def zwI {ps:List Pc}{lo hi to st:Int}(hr:ZW ps)(hst:st=0\/st=1)(hp:lo<=hi->∀ p,ps.getLast?=some p->p.hi+1=lo/\p.fin<=to):Qa ps lo hi to st (Wi ps lo hi to st):=by
  by_cases hlh:lo<=hi
  case neg =>
    have e:Wi ps lo hi to st=ps:=by
      unfold Wi
      cases hl:ps.getLast? with
      |none=>rw[Qx]at hl;subst hl;simp only[];rw[if_neg hlh]
      |some p=>simp only[];rw[if_neg (fun z=>hlh z.1),if_neg hlh]
    rw[e]
    exact⟨hr,fun h=>by rw[if_neg (by lia)],fun z=>absurd z hlh,fun _=>rfl,by lia,fun p hp=>⟨p,hp,rfl,rfl⟩,fun _ z=>absurd z hlh⟩
  have hs:st*(hi-lo)=if st=0 then 0 else hi-lo:=Tj hst _
  have newG:Good ⟨lo,hi,to,if lo<hi then st else 0⟩:=⟨hlh,by show(if lo<hi then st else 0)=0\/_=1;split<;>first|exact hst|exact .inl rfl,fun e=>by
    have e':lo=hi:=e
    show(if lo<hi then st else 0)=0
    rw[if_neg (by lia)]⟩
  have newL:∀ h,Ye ⟨lo,hi,to,if lo<hi then st else 0⟩ h->Pc.led ⟨lo,hi,to,if lo<hi then st else 0⟩ h=to+st*(h-lo):=fun h ⟨h1,h2⟩=>by
    have h1':lo<=h:=h1
    have h2':h<=hi:=h2
    show to+(if lo<hi then st else 0)*(h-lo)=_
    by_cases hl:lo<hi
    . rw[if_pos hl]
    . rw[if_neg hl,show h=lo by lia];simp
  have app:(∀ p,ps.getLast?=some p->Link p ⟨lo,hi,to,if lo<hi then st else 0⟩)->Qa ps lo hi to st (ps++[⟨lo,hi,to,if lo<hi then st else 0⟩]):=fun lk=>by
    have hr':=hr.snoc newG lk
    refine⟨hr',fun h=>?_,fun _=>⟨_,MK,rfl,newL hi ⟨hlh,qC _⟩⟩,fun z=>by lia,by simp,fun p hp=>?_,fun e _=>by subst e;exact⟨_,rfl,rfl,rfl⟩⟩
    . rw[Ie hr']
      by_cases hh:lo<=h/\h<=hi
      . rw[if_pos hh,if_pos (show Ye ⟨lo,hi,to,if lo<hi then st else 0⟩ h from hh),newL h hh]
      . rw[if_neg hh,if_neg (show ¬ Ye ⟨lo,hi,to,if lo<hi then st else 0⟩ h from hh)]
    . refine⟨p,?_,rfl,rfl⟩
      cases ps with
      |nil=>simp at hp
      |cons a r=>exact hp
  cases hl:ps.getLast? with
  |none =>
    have e:Wi ps lo hi to st=ps++[⟨lo,hi,to,if lo<hi then st else 0⟩]:=by
      have:ps=[]:=Qx.mp hl
      subst this
      unfold Wi
      simp only[List.getLast?_nil];rw[if_pos hlh];rfl
    rw[e]
    exact app fun p h=>by rw[hl]at h;cases h
  |some p =>
    obtain⟨hn,hu⟩:=hp hlh p hl
    have hps:=GK hl
    have hr2:ZW (ps.dropLast++[p]):=by rw[<- hps];exact hr
    obtain⟨hi0,hg,hlk⟩:=hr2.init
    by_cases hd:draw p to
    case neg =>
      have e:Wi ps lo hi to st=ps++[⟨lo,hi,to,if lo<hi then st else 0⟩]:=by
        unfold Wi
        rw[hl]
        simp only[]
        rw[if_neg (fun z=>hd z.2),if_pos hlh]
      rw[e]
      exact app fun q hq=>by
        rw[hl]at hq;cases hq
        exact⟨hn.symm,hu,hd⟩
    obtain⟨he,hes⟩:=zoA hg hd
    generalize hE:to-p.fin=e at he hes
    have hple:=hg.le
    have drawn:∀ x,lo<=x->(∀ h,Ye p h->Pc.led ⟨p.lo,x,p.to,e⟩ h=p.led h)/\(∀ h,lo<=h->Pc.led ⟨p.lo,x,p.to,e⟩ h=to+e*(h-lo))/\ZW (ps.dropLast++[⟨p.lo,x,p.to,e⟩]):=fun x hx=>by
      refine⟨fun h ⟨h1,h2⟩=>?_,fun h h1=>?_,hi0.snoc ⟨by show p.lo<=x;lia,he,fun z=>by have z':p.lo=x:=z;lia⟩ fun q hq=>(hlk q hq).same rfl rfl⟩
      . show p.to+e*(h-p.lo)=p.to+p.st*(h-p.lo)
        by_cases hq:p.lo<p.hi
        . rw[hes hq]
        . rw[show h=p.lo by lia];simp
      . show p.to+e*(h-p.lo)=to+e*(h-lo)
        rw[Tj he,Tj he]
        unfold Pc.fin at hE
        rw[U8 hg.st]at hE
        by_cases hq:p.lo<p.hi
        . have:=hes hq
          rw[<- this]at hE
          split at hE<;>rename_i z<;>(first|rw[if_pos z,if_pos z]|rw[if_neg z,if_neg z])<;>lia
        . have e1:=hg.one (by lia)
          rw[if_pos e1]at hE
          split<;>lia
    have atd:∀ x h,lo<=x->at' (ps.dropLast++[⟨p.lo,x,p.to,e⟩]) h=if lo<=h/\h<=x then some (to+e*(h-lo))else at' ps h:=fun x h hx=>by
      obtain⟨d1,d2,d3⟩:=drawn x hx
      rw[Ie d3]
      have ea:at' ps h=if Ye p h then some (p.led h)else at' ps.dropLast h:=by
        have:=Ie hr2 h
        rw[<- hps]at this;exact this
      by_cases hh:lo<=h/\h<=x
      . rw[if_pos hh,if_pos (show Ye ⟨p.lo,x,p.to,e⟩ h from ⟨by show p.lo<=h;lia,hh.2⟩),d2 h hh.1]
      . rw[if_neg hh,ea]
        by_cases hp':Ye p h
        . have a1:=hp'.1
          have a2:=hp'.2
          rw[if_pos hp',if_pos (show Ye ⟨p.lo,x,p.to,e⟩ h from ⟨a1,by show h<=x;lia⟩),d1 h hp']
        . rw[if_neg hp', if_neg (show ¬ Ye ⟨p.lo, x, p.to, e⟩ h from fun z => by
            have z1:p.lo<=h:=z.1
            have z2:h<=x:=z.2
            exact hp' ⟨z1,by lia⟩)]
    have hlen:(ps.dropLast).length+1=ps.length:=by
      have:=congrArg List.length hps
      rw[qf]at this
      simpa using this.symm
    have hhead:∀ (x:Int) (r:List Pc) (q:Pc),ps.head?=some q->∃ q',(ps.dropLast++[(⟨p.lo,x,p.to,e⟩:Pc)]++r).head?=some q'/\q'.lo=q.lo/\q'.to=q.to:=fun x r q hq=>by
      rw[hps]at hq
      cases hdl:ps.dropLast with
      |nil =>
        rw[hdl]at hq
        have:p=q:=by simpa using hq
        subst this
        exact⟨_,rfl,rfl,rfl⟩
      |cons a l =>
        rw[hdl]at hq
        have:a=q:=by simpa using hq
        subst this
        exact⟨a,rfl,rfl,rfl⟩
    have hne:ps≠[]:=by intro z;rw[z]at hl;simp at hl
    by_cases hse:st=e
    . have eq : Wi ps lo hi to st = ps.dropLast ++ [⟨p.lo, hi, p.to, e⟩] := by
        unfold Wi
        rw[hl]
        simp only[]
        rw[hE,if_pos ⟨hlh,hd⟩,if_pos hse,if_neg (by lia)]
      rw[eq]
      obtain⟨d1,d2,d3⟩:=drawn hi hlh
      refine⟨d3,fun h=>by rw[atd hi h hlh,hse],fun _=>⟨_,MK,rfl,by show Pc.led _ hi=_;rw[d2 hi hlh,hse]⟩,fun z=>by lia,by rw[qf];show _+1<=_;lia,fun q hq=>?_,fun z=>absurd z hne⟩
      have:=hhead hi [] q hq
      rw[qV]at this;exact this
    . by_cases h2:lo+1<=hi
      . have eq : Wi ps lo hi to st = ps.dropLast ++ [⟨p.lo, lo, p.to, e⟩] ++ [⟨lo + 1, hi, to + st * (lo + 1 - lo), if lo + 1 < hi then st else 0⟩] := by
          unfold Wi
          rw[hl]
          simp only[]
          rw[hE,if_pos ⟨hlh,hd⟩,if_neg hse,if_pos h2]
        rw[eq]
        obtain⟨d1,d2,d3⟩:=drawn lo (qC _)
        have e1:to+st*(lo+1-lo)=to+st:=by rw[show lo+1-lo=1 by lia,Wq]
        have fl:Pc.fin ⟨p.lo,lo,p.to,e⟩=to:=by
          show Pc.led _ lo=_
          rw[d2 lo (qC _)];simp
        have gR:Good ⟨lo+1,hi,to+st*(lo+1-lo),if lo+1<hi then st else 0⟩:=⟨h2,by show(if lo+1<hi then st else 0)=0\/_=1;split<;>first|exact hst|exact .inl rfl,fun z=>by
          have z':lo+1=hi:=z
          show(if lo+1<hi then st else 0)=0
          rw[if_neg (by lia)]⟩
        have lR:∀ h,Ye ⟨lo+1,hi,to+st*(lo+1-lo),if lo+1<hi then st else 0⟩ h->Pc.led ⟨lo+1,hi,to+st*(lo+1-lo),if lo+1<hi then st else 0⟩ h=to+st*(h-lo):=fun h ⟨z1,z2⟩=>by
          have z1':lo+1<=h:=z1
          have z2':h<=hi:=z2
          show to+st*(lo+1-lo)+(if lo+1<hi then st else 0)*(h-(lo+1))=_
          rw[e1]
          by_cases z:lo+1<hi
          . rw[if_pos z,Tj hst,Tj hst];split<;>lia
          . rw[if_neg z,show h=lo+1 by lia,Tj hst];split<;>simp<;>lia
        have hr3:ZW (ps.dropLast++[⟨p.lo,lo,p.to,e⟩]++[⟨lo+1,hi,to+st*(lo+1-lo),if lo+1<hi then st else 0⟩]):=d3.snoc gR fun q hq=>by
          rw[MK]at hq
          cases hq
          refine⟨rfl,by rw[fl];show to<=to+st*(lo+1-lo);rw[e1];lia,?_⟩
          show ¬ draw _ (to+st*(lo+1-lo))
          rw[e1]
          unfold draw
          rw[if_neg (by show ¬ p.lo=lo;lia)]
          rw[d2 (lo+1) (by lia),show lo+1-lo=1 by lia,Wq]
          lia
        refine⟨hr3,fun h=>?_,fun _=>⟨_,MK,rfl,lR hi ⟨h2,qC _⟩⟩,fun z=>by lia,by rw[qf,qf];show _+1+1<=_;lia,fun q hq=>hhead lo _ q hq,fun z=>absurd z hne⟩
        rw[Ie hr3,atd lo h (qC _)]
        by_cases hh:lo+1<=h/\h<=hi
        . rw[if_pos (show Ye ⟨lo+1,hi,to+st*(lo+1-lo),if lo+1<hi then st else 0⟩ h from hh),lR h hh,if_pos ⟨by lia,hh.2⟩]
        . rw[if_neg (show ¬ Ye ⟨lo+1,hi,to+st*(lo+1-lo),if lo+1<hi then st else 0⟩ h from hh)]
          by_cases hx:h=lo
          . subst hx
            rw[if_pos ⟨qC _,qC _⟩,if_pos ⟨qC _,hlh⟩];simp
          . rw[if_neg (by lia),if_neg (by lia)]
      . have eq : Wi ps lo hi to st = ps.dropLast ++ [⟨p.lo, lo, p.to, e⟩] := by
          unfold Wi
          rw[hl]
          simp only[]
          rw[hE,if_pos ⟨hlh,hd⟩,if_neg hse,if_neg h2]
        rw[eq]
        obtain⟨d1,d2,d3⟩:=drawn lo (qC _)
        have hlo:hi=lo:=by lia
        subst hlo
        refine⟨d3,fun h=>?_,fun _=>⟨_,MK,rfl,by show Pc.led _ hi=_;rw[d2 hi hlh];simp⟩,fun z=>by lia,by rw[qf];show _+1<=_;lia,fun q hq=>?_,fun z=>absurd z hne⟩
        . rw[atd hi h hlh]
          by_cases hh:hi<=h/\h<=hi
          . rw[if_pos hh,if_pos hh,show h=hi by lia];simp
          . rw[if_neg hh,if_neg hh]
        . have:=hhead hi [] q hq
          rw[qV]at this;exact this
def ZW.tail {p:Pc}{r:List Pc}(h:ZW (p::r)):ZW r:=⟨fun q hq=>h.good q (by simp[hq]),fun i a b ha hb=>h.link (i+1) a b (by simpa using ha) (by simpa using hb)⟩
def ZW.hd {p q:Pc}{r:List Pc}(h:ZW (p::q::r)):Link p q:=h.link 0 p q rfl rfl
theorem ZW.above:∀ {r:List Pc} {p:Pc},ZW (p::r)->∀ q∈r,p.hi<q.lo
 |[],_,_,q,hq=>by simp at hq
 |a::r,p,h,q,hq=>by
  have l:=h.hd.nx
  have g:=(h.good a (by simp)).le
  rcases qh.mp hq with rfl|hq
  ·lia
  ·have:=ZW.above h.tail q hq
   lia
def M5 {ps:List Pc}{h:Int}(hb:∀ q∈ps,h<q.lo):at' ps h=none:=by
 induction ps with
 |nil=>rfl
 |cons p r ih =>
  rw[Xz,if_neg (by intro z;have:=hb p (by simp);have:=z.1;lia)]
  exact ih fun q hq=>hb q (by simp[hq])
def Iz {p:Pc}(g:Good p){a b:Int}(h:a<=b):p.led a<=p.led b:=by
  rw[U8 g.st,U8 g.st];split<;>lia
def Mt (p:Pc):p.led p.lo=p.to:=by unfold Pc.led;simp
def DW {p:Pc}(g:Good p):p.to<=p.fin:=by
 have:=Iz g g.le
 rw[Mt]at this;exact this
theorem Tw:∀ {r:List Pc} {p:Pc},ZW (p::r)->∀ {h v:Int},at' (p::r) h=some v->p.to<=v/\p.lo<=h
 |r,p,hr,h,v,e=>by
  rw[Xz]at e
  have g:=hr.good p (by simp)
  split at e
  ·rename_i hi
   cases e
   have:=Iz g hi.1
   rw[Mt]at this
   exact⟨this,hi.1⟩
  ·cases r with
   |nil=>cases e
   |cons q r =>
    obtain⟨a,b⟩:=Tw hr.tail e
    have l:=hr.hd
    have:=DW g
    have:=l.up
    have:=l.nx
    have:=g.le
    exact⟨by lia,by lia⟩
theorem Uo:∀ {ps:List Pc},ZW ps->∀ {a b x y:Int},at' ps a=some x->at' ps b=some y->a<=b->x<=y
 |[],_,a,b,x,y,ha,_,_=>by cases ha
 |p::r,hr,a,b,x,y,ha,hb,hab=>by
  have g:=hr.good p (by simp)
  rw[Xz]at ha hb
  split at ha
  ·rename_i ia
   cases ha
   split at hb
   ·rename_i ib
    cases hb
    exact Iz g hab
   ·cases r with
    |nil=>cases hb
    |cons q r =>
     obtain⟨h1,_⟩:=Tw hr.tail hb
     have:=hr.hd.up
     have:=Iz g ia.2
     unfold Pc.fin at *
     lia
  ·rename_i ia
   split at hb
   ·rename_i ib
    exfalso
    cases r with
    |nil=>cases ha
    |cons q r =>
     obtain⟨_,h2⟩:=Tw hr.tail ha
     have:=hr.hd.nx
     have:=ib.2
     lia
   ·exact Uo hr.tail ha hb hab
theorem KQ:∀ {r:List Pc} {p:Pc},ZW (p::r)->∀ {a b y:Int},at' (p::r) b=some y->p.lo<=a->a<=b->∃ x,at' (p::r) a=some x
 |r,p,hr,a,b,y,hb,h1,h2=>by
  rw[Xz]
  by_cases ia:Ye p a
  ·rw[if_pos ia];exact⟨_,rfl⟩
  ·rw[if_neg ia]
   have ha:p.hi<a:=by
    rcases Qj p.hi a with g|g
    ·exact g
    ·exact absurd ⟨h1,g⟩ ia
   rw[Xz,if_neg (by intro z;have:=z.2;lia)]at hb
   cases r with
   |nil=>cases hb
   |cons q r=>exact KQ hr.tail hb (by have:=hr.hd.nx;lia) h2
def TF {p:Pc}{r:List Pc}(g:Good p):at' (p::r) p.lo=some p.to:=by
 rw[Xz,if_pos ⟨qC _,g.le⟩,Mt]
def oZ {p q:Pc}{r s:List Pc}(hp:ZW (p::r))(hq:ZW (q::s))(e:∀ h,at' (p::r) h=at' (q::s) h)(hlo:p.lo=q.lo)(hto:p.to=q.to):q.hi<=p.hi:=by
  rcases Qj p.hi q.hi with hlt|hle
  case inr=>exact hle
  exfalso
  have gp:=hp.good p (by simp)
  have gq:=hq.good q (by simp)
  have e1:=e (p.hi+1)
  have hle:=gp.le
  rw[Xz p,if_neg (by intro z;have:=z.2;lia),Xz q,if_pos ⟨by lia,by lia⟩]at e1
  cases r with
  |nil=>cases e1
  |cons p' r =>
    have lk:=hp.hd
    have hx:p'.lo=p.hi+1:=lk.nx
    rw[<- hx,TF (hp.good p' (by simp))]at e1
    have e2:p'.to=q.led (p.hi+1):=by rw[<- hx];exact qB e1
    apply lk.nd
    unfold draw
    by_cases h1:p.lo=p.hi
    . rw[if_pos h1,e2,U8 gq.st]
      split<;>lia
    . rw[if_neg h1,e2]
      have e3:=e (p.lo+1)
      rw[Xz p,if_pos ⟨by lia,by lia⟩,Xz q,if_pos ⟨by lia,by lia⟩]at e3
      have e4:p.led (p.lo+1)=q.led (p.lo+1):=qB e3
      rw[U8 gp.st,U8 gq.st]at e4 ⊢
      have a1:=gp.st
      have a2:=gq.st
      split at e4<;>split at e4<;>(first|rw[if_pos (by assumption)]|rw[if_neg (by assumption)])<;>(first|rw[if_pos (by assumption)]|rw[if_neg (by assumption)]|skip)<;>lia
def ztX {p q:Pc}(gp:Good p)(gq:Good q)(h1:p.lo=q.lo)(h2:p.hi=q.hi)(h3:p.to=q.to)(h4:p.lo<p.hi->p.led (p.lo+1)=q.led (p.lo+1)):p=q:=by
  have hs:p.st=q.st:=by
    by_cases h:p.lo<p.hi
    . have e:=h4 h
      rw[U8 gp.st,U8 gq.st]at e
      have a1:=gp.st
      have a2:=gq.st
      split at e<;>split at e<;>lia
    . have:=gp.le
      rw[gp.one (by lia),gq.one (by lia)]
  cases p
  cases q
  simp_all
theorem CG:∀ {ps qs:List Pc},ZW ps->ZW qs->(∀ h,at' ps h=at' qs h)->ps=qs
 |[],[],_,_,_=>rfl
 |[],q::s,_,hq,e=>by
  have:=e q.lo
  rw[TF (hq.good q (by simp))]at this;cases this
 |p::r,[],hp,_,e=>by
  have:=e p.lo
  rw[TF (hp.good p (by simp))]at this;cases this
 |p::r,q::s,hp,hq,e=>by
  have gp:=hp.good p (by simp)
  have gq:=hq.good q (by simp)
  have hlo:p.lo=q.lo:=by
   have e1:=e p.lo
   rw[TF gp]at e1
   have e2:=e q.lo
   rw[TF gq]at e2
   have:=(Tw hq e1.symm).2
   have:=(Tw hp e2).2
   lia
  have hto:p.to=q.to:=by
   have e1:=e p.lo
   rw[TF gp,hlo,TF gq]at e1
   exact qB e1
  have h1:=oZ hp hq e hlo hto
  have h2:=oZ hq hp (fun h=>(e h).symm) hlo.symm hto.symm
  have hpq:p=q:=ztX gp gq hlo (by lia) hto fun hlt=>by
   have e3:=e (p.lo+1)
   rw[Xz p,if_pos ⟨by lia,by lia⟩,Xz q,if_pos ⟨by lia,by lia⟩]at e3
   exact qB e3
  subst hpq
  rw[CG hp.tail hq.tail fun h=>?_]
  by_cases hi:h<=p.hi
  ·rw[M5 fun z hz=>by have:=hp.above z hz;lia,M5 fun z hz=>by have:=hq.above z hz;lia]
  ·have:=e h
   rw[Xz,Xz,if_neg (by intro z;have:=z.2;lia),if_neg (by intro z;have:=z.2;lia)]at this
   exact this
structure Pre (f:Int->Option Int)(a n:Int)(ps:List Pc):Prop where
 isR:ZW ps
 le:a<=n
 led:∀ h,at' ps h=if a<=h/\h<n then f h else none
 all:∀ h,a<=h->h<n->∃ v,f h=some v
 emp:ps=[]->n=a
 last:∀ p,ps.getLast?=some p->p.hi+1=n/\f p.hi=some p.fin
def Pre.start (f:Int->Option Int)(a:Int):Pre f a a []:=⟨ZW.nil,qC _,fun h=>by rw[if_neg (by lia)];rfl,fun h h1 h2=>by lia,fun _=>rfl,by simp⟩
def O8 (f:Int->Option Int):Prop:=∀ a b x y,f a=some x->f b=some y->a<=b->x<=y
def Pre.need {f:Int->Option Int}{a n lo hi to st:Int}{ps:List Pc}(h:Pre f a n ps)(m:O8 f)(hlo:lo<=hi->lo=n)(hf:∀ x,lo<=x->x<=hi->f x=some (to+st*(x-lo))):lo<=hi->∀ p,ps.getLast?=some p->p.hi+1=lo/\p.fin<=to:=fun z p hp=>by
 obtain⟨e1,e2⟩:=h.last p hp
 have e3:=hf lo (qC _) z
 have:=m p.hi lo _ _ e2 e3 (by have:=hlo z;lia)
 exact⟨by have:=hlo z;lia,by simpa using this⟩
def Pre.put {f:Int->Option Int}{a n lo hi to st:Int}{ps qs:List Pc}(h:Pre f a n ps)(hlo:lo<=hi->lo=n)(hf:∀ x,lo<=x->x<=hi->f x=some (to+st*(x-lo)))(hq:Qa ps lo hi to st qs):Pre f a (if lo<=hi then hi+1 else n) qs:=by
 by_cases hl:lo<=hi
 ·rw[if_pos hl]
  have e:=hlo hl
  subst e
  have hle:=h.le
  refine⟨hq.isR,by lia,fun x=>?_,fun x h1 h2=>?_,fun z=>?_,fun p hp=>?_⟩
  ·rw[hq.led,h.led]
   by_cases c:lo<=x/\x<=hi
   ·rw[if_pos c,if_pos ⟨by lia,by lia⟩,hf x c.1 c.2]
   ·rw[if_neg c]
    by_cases d:a<=x/\x<lo
    ·rw[if_pos d,if_pos ⟨d.1,by lia⟩]
    ·rw[if_neg d,if_neg (by lia)]
  ·by_cases c:x<lo
   ·exact h.all x h1 c
   ·exact⟨_,hf x (by lia) (by lia)⟩
  ·obtain⟨q,e,_⟩:=hq.last hl
   rw[z]at e;simp at e
  ·obtain⟨q,e,e2,e3⟩:=hq.last hl
   rw[hp]at e
   cases e
   exact⟨by lia,by rw[e2,e3];exact hf hi hl (qC _)⟩
 ·rw[if_neg hl,hq.none (by lia)];exact h
def Pre.done {f:Int->Option Int}{a n:Int}{ps:List Pc}(h:Pre f a n ps)(ha:∀ x,x<a->f x=none)(hn:∀ x,n<=x->f x=none)(x:Int):at' ps x=f x:=by
 rw[h.led]
 by_cases c:a<=x/\x<n
 ·rw[if_pos c]
 ·rw[if_neg c]
  by_cases d:x<a
  ·rw[ha x d]
  ·rw[hn x (by lia)]
end Rm
namespace Dp
open PySem Rm
abbrev Pd (p:Pc):D:=.tup [.int p.lo,.int p.hi,.int p.to,.int p.st]
def yH {ps:List Pc}{p:Pc}(h:ps.getLast?=some p):Y7 (ps.map Pd) (-1)=some (Pd p):=by
 rw[GK h,qA]
 unfold Y7 Xg
 rw[if_neg (by decide),if_pos (by simp;lia)]
 have e:(-1+((List.map Pd ps.dropLast++List.map Pd [p]).length:Int)).toNat=(List.map Pd ps.dropLast).length:=by simp;lia
 simp only[Option.bind_some]
 rw[e]
 simp
def gA {ps:List Pc}{p:Pc}(h:ps.getLast?=some p):Xg (ps.map Pd).length (-1)=some (ps.length-1):=by
 have:ps≠[]:=by intro e;rw[e]at h;simp at h
 have:=List.length_pos_iff.mpr this
 unfold Xg
 rw[if_neg (by decide),if_pos (by simp;lia),qc]
 congr 1
 lia
def vM {ps:List Pc}{p q:Pc}(h:ps.getLast?=some p):(ps.map Pd).set (ps.length-1) (Pd q)=(ps.dropLast++[q]).map Pd:=by
 have e:=GK h
 have hl:ps.length-1=ps.dropLast.length:=by rw[List.length_dropLast]
 rw[hl]
 conv=>lhs;rw[e]
 rw[qA,qA,qX _ _ (by simp)]
 simp
def get_map {ps:List Pc}{i:Nat}{d:D}(h:(ps.map Pd)[i]?=some d):∃ p,ps[i]?=some p/\d=Pd p:=by
 rw[qj]at h
 cases e:ps[i]? with
 |none=>rw[e]at h;cases h
 |some p=>rw[e]at h;cases h;exact⟨p,rfl,rfl⟩
def RT (ps:List Pc):fl 20 (.tup (ps.map Pd))=true:=by
 show(ps.map Pd).all (fl 19)=true
 rw[U6,qY]
 intro p _;rfl
def ztJ {ps:List Pc}{h:Int}{i:Nat}{p:Pc}(hp:ps[i]?=some p)(hn:at' (ps.take i) h=none)(hin:Ye p h):at' ps h=some (p.led h):=by
 have e:ps=ps.take i++p::ps.drop (i+1):=by
  have h1:=List.take_append_drop i ps
  have hl:i<ps.length:=by
   rcases qP i ps.length with g|g
   ·exact g
   ·rw[qv g]at hp;cases hp
  rw[qb hl]at hp
  cases hp
  rw[List.drop_eq_getElem_cons hl]at h1
  exact h1.symm
 rw[e,pD,hn,Xz,if_pos hin];rfl
def set_same {S:Z5}{n:Nat}{c:Cell}(h:S[n]?=some c):S.set n c=S:=List.ext_getElem? fun i=>by
 by_cases hi:i=n
 ·subst hi;rw[qN (zU h),h]
 ·rw[qM (Ne.symm hi)]
def yx {p:Pc}(h:p.st=0):p.fin=p.to:=by unfold Pc.fin Pc.led;rw[h];simp
def ou {p:Pc}(h:p.st=1):p.fin=p.to+(p.hi-p.lo):=by unfold Pc.fin Pc.led;rw[h];simp
def J7 {p:Pc}(h:p.st=0)(x:Int):p.led x=p.to:=by unfold Pc.led;rw[h];simp
def Jr {p:Pc}(h:p.st=1)(x:Int):p.led x=p.to+(x-p.lo):=by unfold Pc.led;rw[h];simp
def apart {ps:List Pc}(hr:ZW ps):∀ {i j:Nat} {a b:Pc},i<j->ps[i]?=some a->ps[j]?=some b->a.hi<b.lo:=by
 have key:∀ (k j:Nat) (a b:Pc),ps[j]?=some a->ps[j+k+1]?=some b->a.hi<b.lo:=by
  intro k
  induction k with
  |zero=>intro j a b ha hb;have:=(hr.link j a b ha hb).nx;lia
  |succ k ih =>
   intro j a b ha hb
   have hlb:=zU hb
   have hm:ps[j+k+1]?=some (ps[j+k+1]'(by lia)):=qb _
   have h1:=ih j a _ ha hm
   have h2:=(hr.link (j+k+1) _ b hm hb).nx
   have h3:=(hr.good _ (List.getElem_mem (by lia:j+k+1<ps.length))).le
   lia
 intro i j a b hij ha hb
 refine key (j-i-1) i a b ha ?_
 rw[show i+(j-i-1)+1=j by lia];exact hb
def Xf {ps:List Pc}(hr:ZW ps){i:Nat}{p:Pc}(hp:ps[i]?=some p){h:Int}(hi:Ye p h):at' ps h=some (p.led h):=by
 refine ztJ hp (Cw fun q hq=>?_) hi
 obtain⟨j,hj,e⟩:=qH.mp hq
 rw[Vu]at hj
 rw[List.getElem_take]at e
 have:q.hi<p.lo:=apart hr (i:=j) (j:=i) (by lia) (by rw[<- e];exact qb _) hp
 have:=hi.1
 lia
def lo_le {ps:List Pc}(hr:ZW ps){p q:Pc}(h0:ps[0]?=some p)(hq:q∈ps):p.lo<=q.lo:=by
 obtain⟨j,hj,rfl⟩:=qH.mp hq
 rcases KJ j with h|h
 ·subst h
  rw[qb (by lia)]at h0
  cases h0
  exact qC _
 ·have:=apart hr h h0 (qb hj)
  have:=(hr.good p (qe h0)).le
  lia
def zsM (p q:Pc):eqv (Pd p) (Pd q)=decide (p=q):=by
 obtain⟨a,b,c,d⟩:=p
 obtain⟨a',b',c',d'⟩:=q
 show eqvAll [.int a,.int b,.int c,.int d] [.int a',.int b',.int c',.int d']=_
 show(decide (a=a')&&(decide (b=b')&&(decide (c=c')&&(decide (d=d')&&true))))=_
 rw[Bool.and_true,<- JQ,<- JQ,<- JQ]
 congr 1
 simp
theorem tV:∀ (ps qs:List Pc),eqvAll (ps.map Pd) (qs.map Pd)=decide (ps=qs)
 |[],[]=>rfl
 |[],q::s=>rfl
 |p::r,[]=>rfl
 |p::r,q::s=>by
  show(eqv (Pd p) (Pd q)&&eqvAll (r.map Pd) (s.map Pd))=_
  rw[zsM,tV r s,<- JQ]
  congr 1
  simp
def tE {S:Z5}{Q:DK}{ps qs:List Pc}(q:Q (.bl (!decide (ps=qs))) S):U9 (.tup (ps.map Pd)) (.tup (qs.map Pd)) S Q:=⟨_,.inl ⟨RT ps,RT qs,rfl⟩,by
 show Q (.bl (!eqvAll (ps.map Pd) (qs.map Pd))) S
 rw[tV];exact q⟩
def endOf (qs:List Pc):Int:=match qs.getLast? with
 |none=>0
 |some q=>q.hi+1
def Om {qs:List Pc}(hq:ZW qs){v:Int}(h:endOf qs<=v):at' qs v=none:=by
 cases hl:qs.getLast? with
 |none=>rw[Qx.mp hl];rfl
 |some q =>
  unfold endOf at h
  rw[hl]at h
  have h':q.hi+1<=v:=h
  have e:=GK hl
  refine Cw fun r hr=>?_
  rw[e]at hr hq
  have gq:=(hq.good q (by simp)).le
  rcases qI.mp hr with hr|hr
  ·have:=hq.below r hr;lia
  ·have:r=q:=by simpa using hr
   subst this;lia
def o9 {qs:List Pc}(hq:ZW qs){j:Nat}{f:Pc}(ef:qs[j]?=some f):(∀ g,qs[j+1]?=some g->g.lo=f.hi+1)/\(qs[j+1]?=none->endOf qs=f.hi+1):=by
 refine⟨fun g hg=>(hq.link j f g ef hg).nx,fun hn=>?_⟩
 have h1:=zU ef
 have h2:=List.getElem?_eq_none_iff.mp hn
 have:qs.getLast?=some f:=by rw[CN,show qs.length-1=j by lia];exact ef
 unfold endOf
 rw[this]
def XM (qs:List Pc)(j:Nat):Int:=match qs[j]? with
 |some q=>q.lo
 |none=>endOf qs
def Dd {qs:List Pc}(hq:ZW qs){j:Nat}{f:Pc}(ef:qs[j]?=some f):XM qs j=f.lo/\XM qs (j+1)=f.hi+1:=by
 obtain⟨a,b⟩:=o9 hq ef
 unfold XM
 rw[ef]
 refine⟨rfl,?_⟩
 cases h:qs[j+1]? with
 |none=>exact b h
 |some g=>exact a g h
def zsL {ps:List Pc}{p:Pc}(hr:ZW ps)(h:ps.head?=some p):at' ps p.lo=some p.to:=by
 have e:ps[0]?=some p:=by rw[<- Kz];exact h
 have g:=(hr.good p (qe e)).le
 rw[Xf hr e ⟨qC _,g⟩]
 show some (p.to+p.st*(p.lo-p.lo))=_
 rw[Int.sub_self,TV,Int.add_zero]
open PySem Rm My
def Nv:List (Int×Int)->Prop
 |[]=>True
 |c::r=>c.1<=c.2/\(∀ d∈r,c.2+2<=d.1)/\Nv r
def Xu:List (Int×Int)->Int->Option Int
 |[],_=>none
 |c::r,h=>if h<=c.2 then some (max h c.1)else Xu r h
theorem Bl:∀ (a b:List (Int×Int)) (h:Int),Xu (a++b) h=(Xu a h).or (Xu b h)
  |[],b,h=>by simp[Xu]
  |c::a,b,h=>by
    show(if h<=c.2 then _ else Xu (a++b) h)=_
    rw[Bl a b h]
    show _=((if h<=c.2 then some (max h c.1)else Xu a h).or _)
    split<;>rfl
theorem Em:∀ {a:List (Int×Int)} {h:Int},(∀ c∈a,c.2<h)->Xu a h=none
 |[],h,_=>rfl
 |c::a,h,hb=>by
  show(if h<=c.2 then _ else Xu a h)=none
  rw[if_neg (by have:=hb c (by simp);lia)]
  exact Em fun d hd=>hb d (by simp[hd])
theorem Nv.mem:∀ {cs:List (Int×Int)},Nv cs->∀ {i:Nat} {c:Int×Int},cs[i]?=some c->c.1<=c.2/\∀ d∈cs.take i,d.2+2<=c.1
 |[],_,i,c,h=>by simp at h
 |a::r,ok,0,c,h=>by simp at h;subst h;exact⟨ok.1,by simp⟩
 |a::r,ok,i+1,c,h=>by
  have h':r[i]?=some c:=by simpa using h
  obtain⟨h1,h2⟩:=Nv.mem ok.2.2 h'
  refine⟨h1,fun d hd=>?_⟩
  rw[List.take_succ_cons]at hd
  rcases qh.mp hd with rfl|hd
  ·exact ok.2.1 c (qe h')
  ·exact h2 d hd
def O5 (cs:List (Int×Int)):fl 20 (.tup (cs.map p2))=true:=by
 show(cs.map p2).all (fl 19)=true
 rw[U6,qY]
 intro p _;rfl
def Al {xs:List D}{x:D}:Xg (xs++[x]).length (-1)=some xs.length:=by
 have hl:((xs++[x]).length:Int)=xs.length+1:=by simp
 unfold Xg
 rw[if_neg (by lia),if_pos (by lia)]
 congr 1;lia
def HJ {xs:List D}{x:D}:Y7 (xs++[x]) (-1)=some x:=by
 unfold Y7
 rw[Al]
 simp
end Dp
namespace Rm
open My Dp
def Zu (h:Int)(c:Int×Int):Bool:=decide (c.1<=h)&&decide (h<=c.2)
def Vx (c:Int×Int):Bool:=decide (c.1<=c.2)
structure Zr (cs:List (Int×Int)):Prop where
 le:∀ c∈cs,c.1<=c.2
 ap:cs.Pairwise fun a b=>a.2+2<=b.1
def Ph {h:Int}{c:Int×Int}:Zu h c=true↔c.1<=h/\h<=c.2:=by unfold Zu;simp
def XQ {h:Int}{cs:List (Int×Int)}:cs.any (Zu h)=true↔∃ c∈cs,c.1<=h/\h<=c.2:=by
 rw[List.any_eq_true]
 constructor
 ·rintro⟨c,hc,g⟩;exact⟨c,hc,Ph.mp g⟩
 ·rintro⟨c,hc,g⟩;exact⟨c,hc,Ph.mpr g⟩
def Zr.nil:Zr []:=⟨fun c hc=>absurd hc (by simp),.nil⟩
def Zr.snoc {ms:List (Int×Int)}{c:Int×Int}(s:Zr ms)(hc:c.1<=c.2)(h:∀ m∈ms,m.2+2<=c.1):Zr (ms++[c]):=by
 refine⟨fun d hd=>?_,List.pairwise_append.mpr ⟨s.ap,List.pairwise_singleton _ _,fun a ha b hb=>?_⟩⟩
 ·rcases qI.mp hd with g|g
  ·exact s.le d g
  ·have:d=c:=by simpa using g
   subst this;exact hc
 ·have:b=c:=by simpa using hb
  subst this;exact h a ha
def Zr.init {ms:List (Int×Int)}{c:Int×Int}(s:Zr (ms++[c])):Zr ms/\c.1<=c.2/\∀ m∈ms,m.2+2<=c.1:=by
 obtain⟨h1,h2,h3⟩:=List.pairwise_append.mp s.ap
 exact⟨⟨fun d hd=>s.le d (QT _ hd),h1⟩,s.le c (by simp),fun m hm=>h3 m hm c (by simp)⟩
def zqM {ms:List (Int×Int)}{l c:Int×Int}(s:Zr (ms++[l]))(hc:c.1<=c.2)(h1:l.1<=c.1)(h2:c.1<=l.2+1) :
  Zr (ms++[(l.1,max l.2 c.2)])/\∀ h,(ms++[(l.1,max l.2 c.2)]).any (Zu h)=((ms++[l]).any (Zu h)||Zu h c):=by
 obtain⟨s0,hl,hm⟩:=s.init
 refine⟨s0.snoc (by show l.1<=max l.2 c.2;lia) hm,fun h=>?_⟩
 rw[Pa,Pa,Bool.or_assoc]
 congr 1
 rw[RP,Qy]
 simp only[RV,List.any_nil,Bool.or_false,Ph]
 lia
def zvB {a b:Int×Int}(h:Q7 b a=false):a.1<=b.1:=by
 unfold Q7 at h
 rw[decide_eq_false_iff_not]at h
 lia
def any_filter (cs:List (Int×Int))(h:Int):(cs.filter fun c=>decide (c.1<=c.2)).any (Zu h)=cs.any (Zu h):=by
 rw[RP,XQ,XQ]
 constructor
 ·rintro⟨c,hc,g⟩;exact⟨c,(V5.mp hc).1,g⟩
 ·rintro⟨c,hc,g⟩;exact⟨c,V5.mpr ⟨hc,decide_eq_true (by lia)⟩,g⟩
def j9 {a b:List (Int×Int)}(p:a.Perm b)(h:Int):a.any (Zu h)=b.any (Zu h):=by
 rw[RP,XQ,XQ]
 constructor
 ·rintro⟨c,hc,g⟩;exact⟨c,p.mem_iff.mp hc,g⟩
 ·rintro⟨c,hc,g⟩;exact⟨c,p.mem_iff.mpr hc,g⟩
def Yb (a b:Int×Int):Int×Int:=(max a.1 b.1,min a.2 b.2)
def XC (as bs:List (Int×Int)):List (Int×Int):=as.flatMap fun a=>bs.map (Yb a)
def znU (as bs:List (Int×Int))(h:Int):(XC as bs).any (Zu h)=(as.any (Zu h)&&bs.any (Zu h)):=by
  rw[RP,qG,XQ,XQ,XQ]
  unfold XC
  constructor
  . rintro⟨c,hc,g1,g2⟩
    obtain⟨a,ha,hm⟩:=List.mem_flatMap.mp hc
    obtain⟨b,hb,rfl⟩:=qT.mp hm
    unfold Yb at g1 g2
    dsimp only at g1 g2
    refine⟨⟨a,ha,?_⟩,⟨b,hb,?_⟩⟩<;>lia
  . rintro⟨⟨a,ha,g1,g2⟩,⟨b,hb,k1,k2⟩⟩
    refine⟨Yb a b,List.mem_flatMap.mpr ⟨a,ha,qT.mpr ⟨b,hb,rfl⟩⟩,?_⟩
    unfold Yb
    dsimp only
    constructor<;>lia
def lO {a b:Int×Int}(ha:a.1<=a.2)(hb:b.1<=b.2):(Yb a b).1<=(Yb a b).2↔b.1<=a.2/\a.1<=b.2:=by
 unfold Yb
 dsimp only
 lia
theorem pR {a:Int×Int}(ha:a.1<=a.2):∀ {bs:List (Int×Int)},Zr bs->((bs.map (Yb a)).filter fun c=>decide (c.1<=c.2)).length<=(bs.filter fun b=>decide (b.2<=a.2)).length+1
  |[],_=>by simp
  |b::bs,s=>by
    obtain⟨cb,pb⟩:=qU.mp s.ap
    have hb:=s.le b (by simp)
    have s':Zr bs:=⟨fun x hx=>s.le x (by simp[hx]),pb⟩
    have ih:=pR ha s'
    rw[qJ]
    by_cases h1:b.2<=a.2
    . rw[Hi (p:=fun b:Int×Int=>decide (b.2<=a.2)) (decide_eq_true h1)]
      have:(((Yb a b)::bs.map (Yb a)).filter fun c=>decide (c.1<=c.2)).length<=((bs.map (Yb a)).filter fun c=>decide (c.1<=c.2)).length+1:=by
        rw[O6];split<;>simp
      simp only[qR]
      lia
    . have none : (bs.map (Yb a)).filter (fun c => decide (c.1 ≤ c.2)) = [] := by
        rw[qbv]
        intro c hc
        obtain⟨x,hx,rfl⟩:=qT.mp hc
        have:=cb x hx
        have hx2:=s'.le x hx
        rw[decide_eq_true_eq,lO ha hx2]
        lia
      rw[O6,none]
      split<;>simp
theorem nY:∀ {as bs:List (Int×Int)},Zr as->Zr bs->((XC as bs).filter fun c=>decide (c.1<=c.2)).length<=as.length+bs.length
 |[],bs,_,_=>by simp[XC]
 |a::as,bs,sa,sb=>by
  obtain⟨ca,pa⟩:=qU.mp sa.ap
  have ha:=sa.le a (by simp)
  have sa':Zr as:=⟨fun x hx=>sa.le x (by simp[hx]),pa⟩
  have sb2:Zr (bs.filter fun b=>!decide (b.2<=a.2)):=⟨fun x hx=>sb.le x (V5.mp hx).1,sb.ap.filter _⟩
  have ih:=nY sa' sb2
  have one:=pR ha sb
  have same:((XC as bs).filter fun c=>decide (c.1<=c.2)).length=((XC as (bs.filter fun b=>!decide (b.2<=a.2))).filter fun c=>decide (c.1<=c.2)).length:=by
   clear ih one
   induction as with
   |nil=>rfl
   |cons d ds ihd =>
    have hd:a.2+2<=d.1:=ca d (by simp)
    have hd2:=sa.le d (by simp)
    unfold XC at ihd ⊢
    rw[Kp,Kp,Qc,Qc,qf,qf]
    have e1:((bs.map (Yb d)).filter fun c=>decide (c.1<=c.2)).length=(((bs.filter fun b=>!decide (b.2<=a.2)).map (Yb d)).filter fun c=>decide (c.1<=c.2)).length:=by
     have hle:=sb.le
     clear ihd sb sb2
     induction bs with
     |nil=>rfl
     |cons b bs ihb =>
      have ih':=ihb fun x hx=>hle x (by simp[hx])
      have hb:=hle b (by simp)
      by_cases h1:b.2<=a.2
      ·rw[J2 (p:=fun b:Int×Int=>!decide (b.2<=a.2)) (by simp[h1]),qJ,J2 (by rw[decide_eq_true_eq,lO hd2 hb];lia)]
       exact ih'
      ·rw[Hi (p:=fun b:Int×Int=>!decide (b.2<=a.2)) (by simp[h1]),qJ,qJ,O6,O6]
       split
       ·simp only[qR];lia
       ·exact ih'
    have pa2:=qU.mp (qU.mp sa.ap).2
    have sd:Zr (a::ds):=⟨fun x hx=>by
     rcases qh.mp hx with rfl|hx
     ·exact ha
     ·exact sa.le x (by simp[hx]),qU.mpr ⟨fun x hx=>ca x (by simp[hx]),pa2.2⟩⟩
    have e2:=ihd sd (fun x hx=>ca x (by simp[hx])) pa2.2 ⟨fun x hx=>sd.le x (by simp[hx]),pa2.2⟩
    rw[e1,e2]
  have split2:bs.length=(bs.filter fun b=>decide (b.2<=a.2)).length+(bs.filter fun b=>!decide (b.2<=a.2)).length:=by
   clear ih one same sb sb2
   induction bs with
   |nil=>rfl
   |cons b bs ihb =>
    rw[O6,O6]
    by_cases h1:b.2<=a.2
    ·simp[h1];lia
    ·simp[h1];lia
  unfold XC at same ih ⊢
  rw[Kp,Qc,qf,same]
  simp only[qR]
  lia
end Rm
namespace Dp
open PySem Rm My
def Sq:List (Int×Int)->Int->Option Int
 |[],_=>none
 |c::r,h=>if h<=c.2 then some (max c.1 h)else Sq r h
def Dn (f:Int×Int->D):D->D
 |.tup [.int a,.int b]=>f (a,b)
 |d=>d
def tO (p:Int×Int->Bool):D->Bool
 |.tup [.int a,.int b]=>p (a,b)
 |_=>false
def zuo (f:Int×Int->D)(cs:List (Int×Int)):(cs.map p2).map (Dn f)=cs.map f:=by rw[WY];rfl
def zqo (p:Int×Int->Bool)(cs:List (Int×Int)):(cs.map p2).filter (tO p)=(cs.filter p).map p2:=by rw[List.filter_map];rfl
def zwd {S:Z5}{x:D}{xs:List D}{R:Tr->Z5->Prop}(h:VB S x xs)(q:∀ ok:Z5->Prop,(∀ T,ok (S++T))->R ⟨xs,ok⟩ S):PK x S R:=by
 rcases h with rfl|h
 ·exact .inl ⟨xs,rfl,q _ fun _=>True.intro⟩
 ·exact .inr (.inl ⟨xs,h,q _ fun T=>h.old⟩)
theorem VB.old {S T:Z5}{x:D}{xs:List D}(h:VB S x xs):VB (S++T) x xs:=h.imp id Lst.old
def pU (as bs:List (Int×Int)):(XC as bs).length=as.length*bs.length:=by
 unfold XC
 induction as with
 |nil=>simp
 |cons a as ih=>rw[Kp,qf,ih,qc,qR,Nat.succ_mul,Nat.add_comm]
def zmk {as bs:List (Int×Int)}{i:Nat}{a:Int×Int}(h:as[i]?=some a):XC (as.take (i+1)) bs=XC (as.take i) bs++bs.map (Yb a):=by
 unfold XC
 rw[Wm h,List.flatMap_append];simp
def YZ:Int->List (Int×Int)->List (Int×Int)×Int
 |st,[]=>([],st)
 |st,c::cs=>((st,c.1-1)::(YZ (c.2+1) cs).1,(YZ (c.2+1) cs).2)
theorem Mh:∀ (st:Int) (cs:List (Int×Int)),(YZ st cs).1.length=cs.length
 |_,[]=>rfl
 |st,c::cs=>by show((YZ (c.2+1) cs).1.length+1)=_;rw[Mh];rfl
theorem Bh:∀ (st:Int) (cs:List (Int×Int)) (c:Int×Int),YZ st (cs++[c])=((YZ st cs).1++[((YZ st cs).2,c.1-1)],c.2+1)
 |st,[],c=>rfl
 |st,d::cs,c=>by
  show((st,d.1-1)::(YZ (d.2+1) (cs++[c])).1,(YZ (d.2+1) (cs++[c])).2)=_
  rw[Bh];rfl
theorem oJ {hi h:Int}(hh:h<=hi):∀ (st:Int) {cs:List (Int×Int)},Zr cs->st<=h->(∀ c∈cs,c.2<=h->True)->(((YZ st cs).1++[((YZ st cs).2,hi)]).any (Zu h)=true↔¬ ∃ c∈cs,c.1<=h/\h<=c.2)
  |st,[],_,hs,_=>by
    simp[YZ,Ph,hs,hh]
  |st,c::cs,s,hs,_=>by
    obtain⟨cb,pb⟩:=qU.mp s.ap
    have hc:=s.le c (by simp)
    have s':Zr cs:=⟨fun x hx=>s.le x (by simp[hx]),pb⟩
    show(((st,c.1-1)::((YZ (c.2+1) cs).1++[((YZ (c.2+1) cs).2,hi)])).any (Zu h)=true↔_)
    rw[RV,Qy,Ph]
    rcases(by lia:h<c.1\/(c.1<=h/\h<=c.2)\/c.2<h)with g|g|g
    . constructor
      . rintro-⟨x,hx,k1,k2⟩
        rcases qh.mp hx with rfl|hx
        . lia
        . have:=cb x hx;lia
      . intro _
        exact .inl ⟨hs,by show h<=c.1-1;lia⟩
    . constructor
      . intro z
        exfalso
        rcases z with⟨_,z⟩|z
        . have:h<=c.1-1:=z
          lia
        . obtain⟨x,hx,k1,k2⟩:=XQ.mp z
          have low:∀ (st:Int) (cs:List (Int×Int)),Zr cs->(∀ d∈cs,st<=d.1)->∀ x∈(YZ st cs).1++[((YZ st cs).2,hi)],st<=x.1:=by
            intro st cs
            induction cs generalizing st with
            | nil => intro _ _ x hx; have : x = (st, hi) := by simpa [YZ]using hx
                     subst this;exact qC _
            |cons d ds ih =>
              intro sd hd x hx
              obtain⟨c2,p2⟩:=qU.mp sd.ap
              have hd1:=hd d (by simp)
              have hd2:=sd.le d (by simp)
              have hx:x∈(st,d.1-1)::((YZ (d.2+1) ds).1++[((YZ (d.2+1) ds).2,hi)]):=hx
              rcases qh.mp hx with rfl|hx
              . exact qC _
              . have:=ih (d.2+1) ⟨fun y hy=>sd.le y (by simp[hy]),p2⟩ (fun y hy=>by have:=c2 y hy;lia) x hx
                lia
          have:=low (c.2+1) cs s' (fun d hd=>by have:=cb d hd;lia) x hx
          lia
      . intro z
        exact absurd ⟨c,by simp,g.1,g.2⟩ z
    . have ih:=oJ hh (c.2+1) s' (by lia) (fun _ _ _=>trivial)
      constructor
      . rintro z ⟨x,hx,k1,k2⟩
        rcases qh.mp hx with rfl|hx
        . lia
        . rcases z with⟨_,z⟩|z
          . have:h<=c.1-1:=z
            lia
          . exact ih.mp z ⟨x,hx,k1,k2⟩
      . intro z
        exact .inr (ih.mpr fun⟨x,hx,k⟩=>z ⟨x,by simp[hx],k⟩)
end Dp
namespace Rm
open My Dp
def Zm (L R B T x1 z1 x2 z2:Int):List Int :=
 [(x2-x1)*(B-z1)-(z2-z1)*(L-x1),(x2-x1)*(T-z1)-(z2-z1)*(L-x1),(x2-x1)*(B-z1)-(z2-z1)*(R-x1),(x2-x1)*(T-z1)-(z2-z1)*(R-x1)]
def V4 (L R B T x1 z1 x2 z2:Int):Prop :=
 L<=(max x1 x2)/\(min x1 x2)<=R/\B<=(max z1 z2)/\(min z1 z2)<=T/\(∃ a∈Zm L R B T x1 z1 x2 z2,0<=a)/\∃ a∈Zm L R B T x1 z1 x2 z2,a<=0
def Qv (lo hi st sp e1 e2 x1 x2:Int):Prop :=
 (sp=0/\lo<=st/\st<=hi/\e1=0/\e2=1/\x1=1/\x2=1)\/(sp=0/\(st<lo\/hi<st)/\e1=1/\e2=1/\x1=0/\x2=1) \/
 (0<sp/\e1=lo-st/\e2=sp/\x1=hi-st/\x2=sp)\/(sp<0/\e1=st-hi/\e2=-sp/\x1=st-lo/\x2=-sp)
def Gf (ea1 ea2 xa1 xa2 eu1 eu2 xu1 xu2:Int):Prop:=∀ e∈[((0:Int),(1:Int)),(ea1,ea2),(eu1,eu2)],∀ x∈[((1:Int),(1:Int)),(xa1,xa2),(xu1,xu2)],e.1*x.2<=x.1*e.2
def Rq {u a b:Int}(h:0<=u)(h':a<=b):u*a<=u*b:=Int.mul_le_mul_of_nonneg_left h' h
def zqu {p r P R:Int}{L x:Int}:(∃ a∈[P-L,R-L,P-x,R-x],p<=a)↔(p<=P-L\/p<=R-L\/p<=P-x\/p<=R-x):=by simp
def kJ {p P R:Int}{L x:Int}:(∃ a∈[P-L,R-L,P-x,R-x],a<=p)↔(P-L<=p\/R-L<=p\/P-x<=p\/R-x<=p):=by simp
def zoz {ea1 ea2 xa1 xa2 eu1 eu2 xu1 xu2:Int}:Gf ea1 ea2 xa1 xa2 eu1 eu2 xu1 xu2 ↔
  (0<=xa1/\0<=xu1)/\(ea1<=ea2/\ea1*xa2<=xa1*ea2/\ea1*xu2<=xu1*ea2)/\(eu1<=eu2/\eu1*xa2<=xa1*eu2/\eu1*xu2<=xu1*eu2):=by
 unfold Gf
 simp
def Hz (lo hi st sp e1 e2 x1 x2:Int):Prop :=
 (sp=0/\lo<=st/\st<=hi/\e1=0/\e2=1/\x1=1/\x2=1)\/(sp=0/\(st<lo\/hi<st)/\e1=1/\e2=1/\x1=0/\x2=1)\/(0<sp/\e1=lo-st/\e2=sp/\x1=hi-st/\x2=sp)
def su {lo hi st s t e1 e2 x1 x2:Int}(h:Qv lo hi st (t-s) e1 e2 x1 x2):Hz lo hi st (t-s) e1 e2 x1 x2\/Hz (-hi) (-lo) (-st) (-t - -s) e1 e2 x1 x2:=by
 rcases h with h|h|h|⟨h,rfl,rfl,rfl,rfl⟩
 ·exact .inl (.inl h)
 ·exact .inl (.inr (.inl h))
 ·exact .inl (.inr (.inr h))
 ·exact .inr (.inr (.inr ⟨by lia,by lia,by lia,by lia,by lia⟩))
def oR {as bs:List Int}(h:∀ a,a∈bs↔-a∈as):((∃ a∈bs,0<=a)↔∃ a∈as,a<=0)/\((∃ a∈bs,a<=0)↔∃ a∈as,0<=a):=by
  have back:∀ a,a∈as->-a∈bs:=fun a ha=>(h (-a)).mpr (by rw[QM];exact ha)
  refine⟨⟨?_,?_⟩,?_,?_⟩<;>rintro⟨a,ha,h0⟩
  . exact⟨-a,(h a).mp ha,by lia⟩
  . exact⟨-a,back a ha,by lia⟩
  . exact⟨-a,(h a).mp ha,by lia⟩
  . exact⟨-a,back a ha,by lia⟩
def zrq {a p q r t:Int}:a∈[-p,-q,-r,-t]↔-a∈[r,t,p,q]:=by
 have e:∀ x,a=-x↔-a=x:=fun x=>⟨fun h=>by rw[h,QM],fun h=>by rw[<- h,QM]⟩
 simp only[qh,qF,or_false,e]
 exact⟨fun h=>h.elim (fun h=>.inr (.inr (.inl h))) (fun h=>h.elim (fun h=>.inr (.inr (.inr h))) (fun h=>h.elim .inl (fun h=>.inr (.inl h)))),fun h=>h.elim (fun h=>.inr (.inr (.inl h))) (fun h=>h.elim (fun h=>.inr (.inr (.inr h))) (fun h=>h.elim .inl (fun h=>.inr (.inl h))))⟩
def kh (a b c d e:Int):(-a - -b)*c-d*(-e - -b)=-((a-b)*c-d*(e-b)):=by
 rw[show -a - -b=-(a-b) by lia,show -e - -b=-(e-b) by lia,PB,OJ];lia
def zzd (a b c d e:Int):c*(-a - -b)-(-d - -b)*e=-(c*(a-b)-(d-b)*e):=by
 rw[show -a - -b=-(a-b) by lia,show -d - -b=-(d-b) by lia,PB,OJ];lia
def rA (a b:Int):max (-a) (-b)=-(min a b):=by lia
def oK (a b:Int):min (-a) (-b)=-(max a b):=by lia
def yK {L R B T x1 z1 x2 z2:Int}:V4 (-R) (-L) B T (-x1) z1 (-x2) z2↔V4 L R B T x1 z1 x2 z2:=by
 have e:Zm (-R) (-L) B T (-x1) z1 (-x2) z2=[-((x2-x1)*(B-z1)-(z2-z1)*(R-x1)),-((x2-x1)*(T-z1)-(z2-z1)*(R-x1)),-((x2-x1)*(B-z1)-(z2-z1)*(L-x1)),-((x2-x1)*(T-z1)-(z2-z1)*(L-x1))]:=by
  unfold Zm
  simp only[kh]
 have k:=oR (as:=Zm L R B T x1 z1 x2 z2) (bs:=Zm (-R) (-L) B T (-x1) z1 (-x2) z2) (fun a=>by rw[e];exact zrq)
 unfold V4
 rw[k.1,k.2,rA,oK]
 generalize max x1 x2=a1
 generalize min x1 x2=a2
 generalize (∃ a∈Zm L R B T x1 z1 x2 z2,0<=a)=P
 generalize (∃ a∈Zm L R B T x1 z1 x2 z2,a<=0)=Q
 constructor
 ·rintro⟨h1,h2,h3,h4,h5,h6⟩;exact⟨by lia,by lia,h3,h4,h6,h5⟩
 ·rintro⟨h1,h2,h3,h4,h5,h6⟩;exact⟨by lia,by lia,h3,h4,h6,h5⟩
def zpK {a p q r t:Int}:a∈[-p,-q,-r,-t]↔-a∈[q,p,t,r]:=by
 have e:∀ x,a=-x↔-a=x:=fun x=>⟨fun h=>by rw[h,QM],fun h=>by rw[<- h,QM]⟩
 simp only[qh,qF,or_false,e]
 exact⟨fun h=>h.elim (fun h=>.inr (.inl h)) (fun h=>h.elim .inl (fun h=>h.elim (fun h=>.inr (.inr (.inr h))) (fun h=>.inr (.inr (.inl h))))),fun h=>h.elim (fun h=>.inr (.inl h)) (fun h=>h.elim .inl (fun h=>h.elim (fun h=>.inr (.inr (.inr h))) (fun h=>.inr (.inr (.inl h)))))⟩
def sY {L R B T x1 z1 x2 z2:Int}:V4 L R (-T) (-B) x1 (-z1) x2 (-z2)↔V4 L R B T x1 z1 x2 z2:=by
 have e:Zm L R (-T) (-B) x1 (-z1) x2 (-z2)=[-((x2-x1)*(T-z1)-(z2-z1)*(L-x1)),-((x2-x1)*(B-z1)-(z2-z1)*(L-x1)),-((x2-x1)*(T-z1)-(z2-z1)*(R-x1)),-((x2-x1)*(B-z1)-(z2-z1)*(R-x1))]:=by
  unfold Zm
  simp only[zzd]
 have k:=oR (as:=Zm L R B T x1 z1 x2 z2) (bs:=Zm L R (-T) (-B) x1 (-z1) x2 (-z2)) (fun a=>by rw[e];exact zpK)
 unfold V4
 rw[k.1,k.2,rA,oK]
 generalize max z1 z2=a1
 generalize min z1 z2=a2
 generalize (∃ a∈Zm L R B T x1 z1 x2 z2,0<=a)=P
 generalize (∃ a∈Zm L R B T x1 z1 x2 z2,a<=0)=Q
 constructor
 ·rintro⟨h1,h2,h3,h4,h5,h6⟩;exact⟨h1,h2,by lia,by lia,h6,h5⟩
 ·rintro⟨h1,h2,h3,h4,h5,h6⟩;exact⟨h1,h2,by lia,by lia,h6,h5⟩
def ztg {P Q p q:Int}(h:P<=Q)(g:p<=q):(0<=P-p\/0<=Q-p\/0<=P-q\/0<=Q-q)↔p<=Q:=⟨fun k=>by rcases k with k|k|k|k<;>lia,fun k=>.inr (.inl (by lia))⟩
def zsS {P Q p q:Int}(h:P<=Q)(g:p<=q):(P-p<=0\/Q-p<=0\/P-q<=0\/Q-q<=0)↔P<=q:=⟨fun k=>by rcases k with k|k|k|k<;>lia,fun k=>.inr (.inr (.inl (by lia)))⟩
def Ju {L R B T x1 z1 x2 z2 ea1 ea2 xa1 xa2 eu1 eu2 xu1 xu2:Int}(hx:L<=R)(hz:B<=T)(pa:Hz L R x1 (x2-x1) ea1 ea2 xa1 xa2)(pu:Hz B T z1 (z2-z1) eu1 eu2 xu1 xu2) :
    Gf ea1 ea2 xa1 xa2 eu1 eu2 xu1 xu2↔V4 L R B T x1 z1 x2 z2:=by
  have u0:0<=x2-x1:=by rcases pa with h|h|h<;>lia
  have v0:0<=z2-z1:=by rcases pu with h|h|h<;>lia
  rw[zoz]
  unfold V4 Zm
  rw[zqu (r:=0),kJ,show max x1 x2=x1+(x2-x1) by lia,show min x1 x2=x1 by lia,show max z1 z2=z1+(z2-z1) by lia,show min z1 z2=z1 by lia]
  generalize x2-x1=u at *
  generalize z2-z1=v at *
  have k1:=Rq u0 (show B-z1<=T-z1 by lia)
  have k2:=Rq v0 (show L-x1<=R-x1 by lia)
  rw[ztg k1 k2,zsS k1 k2]
  have c1:∀ s t:Int,(s-x1)*t=t*(s-x1):=fun s t=>Vq _ _
  have c3:∀ s t:Int,(s-z1)*t=t*(s-z1):=fun s t=>Vq _ _
  have k5:B<=z1->u*(B-z1)<=0:=fun h=>by have:=Rq u0 (show B-z1<=0 by lia);rwa[TV]at this
  have k6:z1<=T->0<=u*(T-z1):=fun h=>by have:=Rq u0 (show 0<=T-z1 by lia);rwa[TV]at this
  have k8:=Rq v0 (show B-z1<=T-z1 by lia)
  rcases pa with⟨hu,h1,h2,rfl,rfl,rfl,rfl⟩|⟨hu,h1,rfl,rfl,rfl,rfl⟩|⟨hu,rfl,rfl,rfl,rfl⟩
  . clear k5 k6
    subst hu
    have k3:=Rq v0 (show L-x1<=0 by lia)
    have k4:=Rq v0 (show 0<=R-x1 by lia)
    rcases pu with⟨hv,g1,g2,rfl,rfl,rfl,rfl⟩|⟨hv,g1,rfl,rfl,rfl,rfl⟩|⟨hv,rfl,rfl,rfl,rfl⟩ <;>
    simp only[c3,Int.zero_mul,TV,Int.one_mul,Wq]at *<;>lia
  . simp only[Int.one_mul,Wq]
    lia
  . have k7:=Rq u0 (show L-x1<=R-x1 by lia)
    rcases pu with⟨hv,g1,g2,rfl,rfl,rfl,rfl⟩|⟨hv,g1,rfl,rfl,rfl,rfl⟩|⟨hv,rfl,rfl,rfl,rfl⟩
    . subst hv
      have k5:=k5 g1
      have k6:=k6 g2
      simp only[c1,c3,Int.zero_mul,TV,Int.one_mul,Wq]at *
      lia
    . simp only[Int.one_mul,Wq]
      lia
    . simp only[c1,c3]
      exact⟨fun⟨⟨a,b⟩,⟨c,_,d⟩,e,f,_⟩=>⟨by lia,by lia,by lia,by lia,d,f⟩,fun⟨a,b,c,d,e,f⟩=>⟨⟨by lia,by lia⟩,⟨by lia,k7,e⟩,by lia,f,k8⟩⟩
def zrH {L R B T x1 z1 x2 z2 ea1 ea2 xa1 xa2 eu1 eu2 xu1 xu2:Int}(hx:L<=R)(hz:B<=T)(pa:Qv L R x1 (x2-x1) ea1 ea2 xa1 xa2)(pu:Qv B T z1 (z2-z1) eu1 eu2 xu1 xu2) :
    Gf ea1 ea2 xa1 xa2 eu1 eu2 xu1 xu2↔V4 L R B T x1 z1 x2 z2:=by
  rcases su pa with pa|pa<;>rcases su pu with pu|pu
  . exact Ju hx hz pa pu
  . rw[<- sY];exact Ju hx (by lia) pa pu
  . rw[<- yK];exact Ju (by lia) hz pa pu
  . rw[<- yK,<- sY];exact Ju (by lia) (by lia) pa pu
def uO (L R B T x1 z1 x2 z2 g s k:Int):Zm (L+g*k) (R+g*k) (B+s*k) (T+s*k) x1 z1 x2 z2=(Zm L R B T x1 z1 x2 z2).map fun a=>a+k*((x2-x1)*s-(z2-z1)*g):=by
  unfold Zm
  simp only[qJ,Nh,List.cons.injEq,and_true]
  refine⟨?_,?_,?_,?_⟩<;>grind
def zr1 {as:List Int}{m m' d:Int}(h1:m∈as)(h2:∀ a∈as,a<=m)(h3:m'∈as.map fun a=>a+d)(h4:∀ a∈as.map (fun a=>a+d),a<=m'):m'=m+d:=by
 obtain⟨b,hb,rfl⟩:=qT.mp h3
 have e1:=h2 b hb
 have e2:=h4 (m+d) (qT.mpr ⟨m,h1,rfl⟩)
 lia
def zqB {as:List Int}{m m' d:Int}(h1:m∈as)(h2:∀ a∈as,m<=a)(h3:m'∈as.map fun a=>a+d)(h4:∀ a∈as.map (fun a=>a+d),m'<=a):m'=m+d:=by
 obtain⟨b,hb,rfl⟩:=qT.mp h3
 have e1:=h2 b hb
 have e2:=h4 (m+d) (qT.mpr ⟨m,h1,rfl⟩)
 lia
def six (L R B T x1 z1 x2 z2 mx mn:Int):List Int:=[(max x1 x2)-L,R-(min x1 x2),(max z1 z2)-B,T-(min z1 z2),mx,-mn]
def zpe {L R B T x1 z1 x2 z2 g s mx mn mx' mn' k:Int}(m1:mx∈Zm (L+g*0) (R+g*0) (B+s*0) (T+s*0) x1 z1 x2 z2)(m2:∀ a∈Zm (L+g*0) (R+g*0) (B+s*0) (T+s*0) x1 z1 x2 z2,a<=mx)
    (n1:mn∈Zm (L+g*0) (R+g*0) (B+s*0) (T+s*0) x1 z1 x2 z2) (n2:∀ a∈Zm (L+g*0) (R+g*0) (B+s*0) (T+s*0) x1 z1 x2 z2,mn<=a)
    (m1':mx'∈Zm (L+g*1) (R+g*1) (B+s*1) (T+s*1) x1 z1 x2 z2) (m2':∀ a∈Zm (L+g*1) (R+g*1) (B+s*1) (T+s*1) x1 z1 x2 z2,a<=mx')
    (n1':mn'∈Zm (L+g*1) (R+g*1) (B+s*1) (T+s*1) x1 z1 x2 z2) (n2':∀ a∈Zm (L+g*1) (R+g*1) (B+s*1) (T+s*1) x1 z1 x2 z2,mn'<=a) :
    (∀ i,i<6->0<=(six (L+g*0) (R+g*0) (B+s*0) (T+s*0) x1 z1 x2 z2 mx mn).getD i 0+k*((six (L+g*1) (R+g*1) (B+s*1) (T+s*1) x1 z1 x2 z2 mx' mn').getD i 0-(six (L+g*0) (R+g*0) (B+s*0) (T+s*0) x1 z1 x2 z2 mx mn).getD i 0)) ↔
    V4 (L+g*k) (R+g*k) (B+s*k) (T+s*k) x1 z1 x2 z2:=by
  rw[uO]at m1 m2 n1 n2 m1' m2' n1' n2'
  have id0:(Zm L R B T x1 z1 x2 z2).map (fun a=>a+0*((x2-x1)*s-(z2-z1)*g))=Zm L R B T x1 z1 x2 z2:=by
    simp
  rw[id0]at m1 m2 n1 n2
  rw[show(fun a:Int=>a+1*((x2-x1)*s-(z2-z1)*g))=fun a=>a+((x2-x1)*s-(z2-z1)*g) by funext a;rw[Int.one_mul]]at m1' m2' n1' n2'
  have e1:=zr1 m1 m2 m1' m2'
  have e2:=zqB n1 n2 n1' n2'
  unfold V4
  rw[uO]
  generalize (x2-x1)*s-(z2-z1)*g=d at *
  have f1:(∃ a∈(Zm L R B T x1 z1 x2 z2).map (fun a=>a+k*d),0<=a)↔0<=mx+k*d:=by
    constructor
    . rintro⟨a,ha,h⟩
      obtain⟨b,hb,rfl⟩:=qT.mp ha
      have:=m2 b hb
      lia
    . intro h
      exact⟨_,qT.mpr ⟨mx,m1,rfl⟩,h⟩
  have f2:(∃ a∈(Zm L R B T x1 z1 x2 z2).map (fun a=>a+k*d),a<=0)↔mn+k*d<=0:=by
    constructor
    . rintro⟨a,ha,h⟩
      obtain⟨b,hb,rfl⟩:=qT.mp ha
      have:=n2 b hb
      lia
    . intro h
      exact⟨_,qT.mpr ⟨mn,n1,rfl⟩,h⟩
  rw[f1,f2]
  subst e1 e2
  unfold six
  generalize (max x1 x2)=q1
  generalize (min x1 x2)=q2
  generalize (max z1 z2)=q3
  generalize (min z1 z2)=q4
  have h0:k*(q1-(L+g*1)-(q1-(L+g*0)))=-(g*k):=by grind
  have h1:k*(R+g*1-q2-(R+g*0-q2))=g*k:=by grind
  have h2:k*(q3-(B+s*1)-(q3-(B+s*0)))=-(s*k):=by grind
  have h3:k*(T+s*1-q4-(T+s*0-q4))=s*k:=by grind
  have h4:k*(mx+d-mx)=k*d:=by grind
  have h5:k*(-(mn+d) - -mn)=-(k*d):=by grind
  constructor
  . intro h
    have a0:=h 0 (by decide)
    have a1:=h 1 (by decide)
    have a2:=h 2 (by decide)
    have a3:=h 3 (by decide)
    have a4:=h 4 (by decide)
    have a5:=h 5 (by decide)
    simp only[Qo,QF]at a0 a1 a2 a3 a4 a5
    rw[h0]at a0
    rw[h1]at a1
    rw[h2]at a2
    rw[h3]at a3
    rw[h4]at a4
    rw[h5]at a5
    refine⟨?_,?_,?_,?_,?_,?_⟩<;>lia
  . rintro⟨a0,a1,a2,a3,a4,a5⟩ i hi
    match i,hi with
    |0,_=>simp only[Qo,QF];rw[h0];lia
    |1,_=>simp only[Qo,QF];rw[h1];lia
    |2,_=>simp only[Qo,QF];rw[h2];lia
    |3,_=>simp only[Qo,QF];rw[h3];lia
    |4,_=>simp only[Qo,QF];rw[h4];lia
    |5,_=>simp only[Qo,QF];rw[h5];lia
def ztK {S T k:Int}(h:0<T):-(S/T)<=k↔0<=S+k*T:=by
 have:-k<=S/T↔-k*T<=S:=Ef h
 rw[PB]at this
 lia
def zpG {S T k:Int}(h:T<0):k<=S / -T↔0<=S+k*T:=by
 have:k<=S / -T↔k * -T<=S:=Ef (by lia)
 rw[OJ]at this
 lia
def vG (L R B T x1 z1 x2 z2:Int):Prop:=∃ p q:Int,0<q/\0<=p/\p<=q/\L*q<=x1*q+p*(x2-x1)/\x1*q+p*(x2-x1)<=R*q/\B*q<=z1*q+p*(z2-z1)/\z1*q+p*(z2-z1)<=T*q
def mulL {k a b:Int}(h:0<=k)(g:a<=b):k*a<=k*b:=Int.mul_le_mul_of_nonneg_left g h
def Fq {k a b:Int}(h:0<k)(g:k*a<=k*b):a<=b:=Int.le_of_mul_le_mul_left g h
def wX {a b c d e f:Int}(hb:0<=b)(hf:0<=f)(hd:0<d)(h1:a*d<=c*b)(h2:c*f<=e*d):a*f<=e*b:=by
 refine Fq hd ?_
 have k1:=mulL hf h1
 have k2:=mulL hb h2
 have e1:d*(a*f)=f*(a*d):=by grind
 have e2:f*(c*b)=b*(c*f):=by grind
 have e3:b*(e*d)=d*(e*b):=by grind
 lia
theorem fmax:∀ {l:List (Int×Int)},l≠[]->(∀ e∈l,0<e.2)->∃ e∈l,∀ f∈l,f.1*e.2<=e.1*f.2
 |[],h,_=>absurd rfl h
 |[x],_,_=>⟨x,by simp,fun f hf=>by simp at hf;subst hf;exact qC _⟩
 |x::y::l,_,h=>by
  obtain⟨m,hm,g⟩:=fmax (l:=y::l) (by simp) fun e he=>h e (by simp[he])
  have hx:=h x (by simp)
  have hm2:=h m (by simp[hm])
  rcases Int.le_total (x.1*m.2) (m.1*x.2)with c|c
  ·refine⟨m,by simp[hm],fun f hf=>?_⟩
   rcases qh.mp hf with rfl|hf
   ·exact c
   ·exact g f hf
  ·refine⟨x,by simp,fun f hf=>?_⟩
   rcases qh.mp hf with rfl|hf
   ·exact qC _
   ·exact wX (Q8 (h f (by simp[hf]))) (Q8 hx) hm2 (g f hf) c
def yw (lo hi st sp:Int):∃ e1 e2 x1 x2,Qv lo hi st sp e1 e2 x1 x2/\0<e2/\0<x2:=by
 unfold Qv
 rcases Int.lt_trichotomy sp 0 with h|h|h
 ·exact⟨st-hi,-sp,st-lo,-sp,.inr (.inr (.inr ⟨h,rfl,rfl,rfl,rfl⟩)),by lia,by lia⟩
 ·by_cases g:lo<=st/\st<=hi
  ·exact⟨0,1,1,1,.inl ⟨h,g.1,g.2,rfl,rfl,rfl,rfl⟩,by lia,by lia⟩
  ·exact⟨1,1,0,1,.inr (.inl ⟨h,by lia,rfl,rfl,rfl,rfl⟩),by lia,by lia⟩
 ·exact⟨lo-st,sp,hi-st,sp,.inr (.inr (.inl ⟨h,rfl,rfl,rfl,rfl⟩)),h,h⟩
def m7 {lo hi st sp e1 e2 x1 x2 p q:Int}(P:Qv lo hi st sp e1 e2 x1 x2)(hq:0<q)(h0:0<=p)(h1:p<=q)(h2:e1*q<=p*e2)(h3:p*x2<=x1*q):lo*q<=st*q+p*sp/\st*q+p*sp<=hi*q:=by
 rcases P with⟨hu,g1,g2,rfl,rfl,rfl,rfl⟩|⟨hu,g1,rfl,rfl,rfl,rfl⟩|⟨hu,rfl,rfl,rfl,rfl⟩|⟨hu,rfl,rfl,rfl,rfl⟩
 ·subst hu
  have k1:=mulL (Q8 hq) g1
  have k2:=mulL (Q8 hq) g2
  rw[Vq q,Vq q]at k1 k2
  rw[TV];lia
 ·lia
 ·rw[O9]at h2 h3;lia
 ·rw[O9,OJ]at h2 h3;lia
def rJ {lo hi st sp e1 e2 x1 x2 p q:Int}(P:Qv lo hi st sp e1 e2 x1 x2)(hq:0<q)(h0:0<=p)(h1:p<=q)(h2:lo*q<=st*q+p*sp)(h3:st*q+p*sp<=hi*q):e1*q<=p*e2/\p*x2<=x1*q:=by
 rcases P with⟨hu,g1,g2,rfl,rfl,rfl,rfl⟩|⟨hu,g1,rfl,rfl,rfl,rfl⟩|⟨hu,rfl,rfl,rfl,rfl⟩|⟨hu,rfl,rfl,rfl,rfl⟩
 ·lia
 ·subst hu
  rw[TV,Int.add_zero,Vq lo,Vq st]at h2
  rw[TV,Int.add_zero,Vq hi,Vq st]at h3
  have k1:=Fq hq h2
  have k2:=Fq hq h3
  lia
 ·rw[O9,O9];lia
 ·rw[O9,O9,OJ];lia
def nA {L R B T x1 z1 x2 z2:Int}(hx:L<=R)(hz:B<=T):V4 L R B T x1 z1 x2 z2↔vG L R B T x1 z1 x2 z2:=by
  obtain⟨a1,a2,a3,a4,pa,ha2,ha4⟩:=yw L R x1 (x2-x1)
  obtain⟨u1,u2,u3,u4,pu,hu2,hu4⟩:=yw B T z1 (z2-z1)
  rw[<- zrH hx hz pa pu]
  constructor
  . intro h
    obtain⟨⟨p,q⟩,he,mx⟩:=fmax (l:=[((0:Int),(1:Int)),(a1,a2),(u1,u2)]) (by simp) (by
      intro e he
      simp only[qh,qF,or_false]at he
      rcases he with rfl|rfl|rfl
      . exact Int.one_pos
      . exact ha2
      . exact hu2)
    have hq:0<q:=by
      simp only[qh,qF,or_false,Prod.mk.injEq]at he
      rcases he with he|he|he<;>lia
    have m0:=mx (0,1) (by simp)
    have m1:=mx (a1,a2) (by simp)
    have m2:=mx (u1,u2) (by simp)
    have n0:=h _ he (1,1) (by simp)
    have n1:=h _ he (a3,a4) (by simp)
    have n2:=h _ he (u3,u4) (by simp)
    dsimp only at m0 m1 m2 n0 n1 n2
    have h0:0<=p:=by lia
    have h1:p<=q:=by lia
    obtain⟨k1,k2⟩:=m7 pa hq h0 h1 m1 n1
    obtain⟨k3,k4⟩:=m7 pu hq h0 h1 m2 n2
    exact⟨p,q,hq,h0,h1,k1,k2,k3,k4⟩
  . rintro⟨p,q,hq,h0,h1,k1,k2,k3,k4⟩
    obtain⟨g1,g2⟩:=rJ pa hq h0 h1 k1 k2
    obtain⟨g3,g4⟩:=rJ pu hq h0 h1 k3 k4
    intro e he x hx
    have ee:0<e.2/\e.1*q<=p*e.2:=by
      simp only[qh,qF,or_false]at he
      rcases he with rfl|rfl|rfl
      . exact⟨Int.one_pos,by lia⟩
      . exact⟨ha2,g1⟩
      . exact⟨hu2,g3⟩
    have xx:0<x.2/\p*x.2<=x.1*q:=by
      simp only[qh,qF,or_false]at hx
      rcases hx with rfl|rfl|rfl
      . exact⟨Int.one_pos,by lia⟩
      . exact⟨ha4,g2⟩
      . exact⟨hu4,g4⟩
    exact wX (Q8 ee.1) (Q8 xx.1) hq ee.2 xx.2
end Rm
namespace Dp
open PySem Rm My
structure Fg where
 x0:Int
 x1:Int
 z0:Int
 z1:Int
 f:Int
 l:Int
 g:Int
 s:Int
abbrev X5 (F:Fg):D:=.tup [.int F.x0,.int F.x1,.int F.z0,.int F.z1,.int F.f,.int F.l,.int F.g,.int F.s]
structure Hf (F:Fg):Prop where
 x:F.x0<=F.x1
 z:F.z0<=F.z1
 b0:Bd 600 F.x0
 b1:Bd 600 F.x1
 b2:Bd 600 F.z0
 b3:Bd 600 F.z1
 bg:Bd 200 F.g
 bs:Bd 200 F.s
def M8 (F:Fg)(px pz qx qz h:Int):Prop:=F.f<=h/\h<=F.l/\vG (F.x0+F.g*(h-F.f)) (F.x1+F.g*(h-F.f)) (F.z0+F.s*(h-F.f)) (F.z1+F.s*(h-F.f)) px pz qx qz
def Av (ms:List (Int×Int))(F:Fg)(px pz qx qz:Int):Prop:=Zr ms/\ms.length<=1/\∀ h,ms.any (Zu h)=true↔M8 F px pz qx qz h
def mR {fs:List Fg}{i:Nat}{d:D}(h:(fs.map X5)[i]?=some d):∃ F,fs[i]?=some F/\d=X5 F:=by
 rw[qj]at h
 cases e:fs[i]? with
 |none=>rw[e]at h;cases h
 |some p=>rw[e]at h;cases h;exact⟨p,rfl,rfl⟩
def Bd.max2 {n:Nat}{a b:Int}(ha:Bd n a)(hb:Bd n b):Bd n (max a b):=by
 rcases Int.le_total a b with h|h
 ·rw[Int.max_eq_right h];exact hb
 ·rw[Int.max_eq_left h];exact ha
def Bd.min2 {n:Nat}{a b:Int}(ha:Bd n a)(hb:Bd n b):Bd n (min a b):=by
 rcases Int.le_total a b with h|h
 ·rw[Int.min_eq_left h];exact ha
 ·rw[Int.min_eq_right h];exact hb
def wU {L R B T x1 z1 x2 z2 mx mn:Int}(bL:Bd 700 L)(bR:Bd 700 R)(bB:Bd 700 B)(bT:Bd 700 T)(b1:Bd 700 x1)(b2:Bd 700 z1)(b3:Bd 700 x2)(b4:Bd 700 z2)(m1:mx∈Zm L R B T x1 z1 x2 z2)(n1:mn∈Zm L R B T x1 z1 x2 z2) :
    ∀ v∈six L R B T x1 z1 x2 z2 mx mn,Bd 1500 v:=by
  have pr:∀ {u v w t:Int},Bd 701 u->Bd 701 v->Bd 701 w->Bd 701 t->Bd 1500 (u*v-w*t):=fun h1 h2 h3 h4=>(Bd.sub (n:=1402) (Bd.mul h1 h2) (Bd.mul h3 h4)).mono (by decide)
  have ba:∀ a∈Zm L R B T x1 z1 x2 z2,Bd 1500 a:=by
    intro a ha
    unfold Zm at ha
    simp only[qh,qF,or_false]at ha
    rcases ha with rfl|rfl|rfl|rfl<;>exact pr (Bd.sub (by assumption) (by assumption)) (Bd.sub (by assumption) (by assumption)) (Bd.sub (by assumption) (by assumption)) (Bd.sub (by assumption) (by assumption))
  intro v hv
  unfold six at hv
  simp only[qh,qF,or_false]at hv
  rcases hv with rfl|rfl|rfl|rfl|rfl|rfl
  . exact(Bd.sub (Bd.max2 b1 b3) bL).mono (by decide)
  . exact(Bd.sub bR (Bd.min2 b1 b3)).mono (by decide)
  . exact(Bd.sub (Bd.max2 b2 b4) bB).mono (by decide)
  . exact(Bd.sub bT (Bd.min2 b2 b4)).mono (by decide)
  . exact ba _ m1
  . exact(ba _ n1).neg
def zqs {ms:List (Int×Int)}{F:Fg}{px pz qx qz lo hi:Int}(B:Hf F)(ok:Zr ms)(one:ms.length<=1)(hany:∀ h,ms.any (Zu h)=[(F.f+lo,F.f+hi)].any (Zu h))
  (hk:∀ k,(lo<=k/\k<=hi)↔(0<=k/\k<=F.l-F.f/\V4 (F.x0+F.g*k) (F.x1+F.g*k) (F.z0+F.s*k) (F.z1+F.s*k) px pz qx qz)):Av ms F px pz qx qz:=by
 refine⟨ok,one,fun h=>?_⟩
 rw[hany h]
 have:=hk (h-F.f)
 rw[nA (by have:=B.x;lia) (by have:=B.z;lia)]at this
 simp only[RV,List.any_nil,Bool.or_false,Ph]
 unfold M8
 constructor
 ·rintro⟨a,b⟩
  obtain⟨c1,c2,c3⟩:=this.mp ⟨by lia,by lia⟩
  exact⟨by lia,by lia,c3⟩
 ·rintro⟨a,b,c⟩
  obtain⟨d1,d2⟩:=this.mpr ⟨by lia,by lia,c⟩
  exact⟨by lia,by lia⟩
def flt (a b:Int×Int):Bool:=decide (a.1*b.2<b.1*a.2)
abbrev St2:=(Int×Int)×(Int×Int)
def rk (R:Int×Int->Int)(s:St2):Int×Int:=(R s.1,R s.2)
def Hw {cs:List (Int×Int)}{k:Int}(h0:0<=k)(h:k<cs.length):∃ c,cs[k.toNat]?=some c/\Y7 (cs.map p2) k=some (p2 c):=by
 have hk:k.toNat<cs.length:=by lia
 refine⟨cs[k.toNat],qb hk,?_⟩
 have:=Ub (ds:=cs.map p2) (i:=k.toNat) (d:=p2 (cs[k.toNat])) (by rw[qj,qb hk];rfl)
 rwa[show((k.toNat:Nat):Int)=k by lia]at this
def lenV (ms:List (Int×Int)):Int:=(ms.map fun m=>m.2-m.1).sum
def Sv (c:Int×Int)(t b:Int):Prop:=0<c.2/\c.1*b=t*c.2
def Qq (a b p:Int×Int):Int:=if 0<b.1-a.1 then a.2*(b.1-a.1)*p.2+(b.2-a.2)*(p.1-a.1*p.2)else -(a.2*(b.1-a.1)*p.2+(b.2-a.2)*(p.1-a.1*p.2))
def Ut (a b p:Int×Int):Int:=if 0<b.1-a.1 then(b.1-a.1)*p.2 else -((b.1-a.1)*p.2)
def ztN {a b p:Int×Int}(h:b.1≠a.1)(hp:0<p.2):0<Ut a b p:=by
 unfold Ut
 split
 ·exact Pg (by lia) hp
 ·have:=Pg (show 0 < -(b.1-a.1) by lia) hp
  rw[PB]at this
  exact this
def zwb {c d:Int×Int}{t b u e:Int}(hb:0<b)(he:0<e)(hc:Sv c t b)(hd:Sv d u e):flt c d=decide (t*e<u*b):=by
 obtain⟨c0,c1⟩:=hc
 obtain⟨d0,d1⟩:=hd
 unfold flt
 refine decide_eq_decide.mpr ?_
 have hbe:0<b*e:=Pg hb he
 have hcd:0<c.2*d.2:=Pg c0 d0
 rw[<- Int.mul_lt_mul_right hbe,<- Int.mul_lt_mul_right (b:=t*e) (c:=u*b) hcd]
 have e1:c.1*d.2*(b*e)=t*e*(c.2*d.2):=by
  have:c.1*d.2*(b*e)=c.1*b*(d.2*e):=by grind
  rw[this,c1];grind
 have e2:d.1*c.2*(b*e)=u*b*(c.2*d.2):=by
  have:d.1*c.2*(b*e)=d.1*e*(c.2*b):=by grind
  rw[this,d1];grind
 rw[e1,e2]
structure Ws (cs:List (Int×Int)):Prop where
 two:2<=cs.length
 most:cs.length<=40
 asc:cs.Pairwise fun a b=>a.1<b.1
 bd:∀ c∈cs,Bd 170 c.1/\Bd 190 c.2
def Oo (cs:List (Int×Int)):Int:=(cs.getD 0 (0,0)).1
def QL (cs:List (Int×Int)):Int:=(cs.getD (cs.length-1) (0,0)).1
def Ny (cs:List (Int×Int))(p:Int×Int):Prop:=Oo cs*p.2<=p.1/\p.1<=QL cs*p.2
def QS:List (Int×Int)->Int×Int->Option ((Int×Int)×(Int×Int))
 |a::b::r,p=>if p.1<=b.1*p.2 then some (a,b)else QS (b::r) p
 |_,_=>none
theorem seg_at:∀ {cs:List (Int×Int)} {p:Int×Int} {k:Nat} {a b:Int×Int},cs[k]?=some a->cs[k+1]?=some b->p.1<=b.1*p.2->(∀ j c,1<=j->j<=k->cs[j]?=some c->c.1*p.2<p.1)->QS cs p=some (a,b)
 |[],p,k,a,b,h,_,_,_=>by simp at h
 |[x],p,0,a,b,_,h,_,_=>by simp at h
 |[x],p,k+1,a,b,h,_,_,_=>by simp at h
 |x::y::r,p,0,a,b,h1,h2,h3,_=>by
  simp at h1 h2
  subst h1 h2
  unfold QS
  rw[if_pos h3]
 |x::y::r,p,k+1,a,b,h1,h2,h3,h4=>by
  have:=h4 1 y (by lia) (by lia) rfl
  unfold QS
  rw[if_neg (by lia)]
  exact seg_at (by simpa using h1) (by simpa using h2) h3 fun j c j1 j2 hc=>h4 (j+1) c (by lia) (by lia) (by simpa using hc)
theorem xM:∀ {cs:List (Int×Int)} {p:Int×Int},2<=cs.length->p.1<=QL cs*p.2->∃ k a b,cs[k]?=some a/\cs[k+1]?=some b/\p.1<=b.1*p.2/\∀ j c,1<=j->j<=k->cs[j]?=some c->c.1*p.2<p.1
 |[],p,h,_=>by simp at h
 |[x],p,h,_=>by simp at h
 |[x,y],p,_,h=>⟨0,x,y,rfl,rfl,h,fun j c j1 j2=>by lia⟩
 |x::y::z::r,p,_,h=>by
  by_cases g:p.1<=y.1*p.2
  ·exact⟨0,x,y,rfl,rfl,g,fun j c j1 j2=>by lia⟩
  ·obtain⟨k,a,b,h1,h2,h3,h4⟩:=xM (cs:=y::z::r) (p:=p) (by simp) h
   refine⟨k+1,a,b,by simpa using h1,by simpa using h2,h3,fun j c j1 j2 hc=>?_⟩
   cases j with
   |zero=>lia
   |succ j =>
    cases j with
    |zero=>simp at hc;subst hc;lia
    |succ j=>exact h4 (j+1) c (by lia) (by lia) (by simpa using hc)
def mU {cs:List (Int×Int)}(g:Ws cs){i j:Nat}{a b:Int×Int}(hij:i<j)(ha:cs[i]?=some a)(hb:cs[j]?=some b):a.1<b.1:=by
 have h1:=zU ha
 have h2:=zU hb
 rw[qb h1]at ha
 rw[qb h2]at hb
 cases ha;cases hb
 exact qZ.mp g.asc i j h1 h2 hij
def jc {cs:List (Int×Int)}(g:Ws cs):∃ a,cs[0]?=some a/\Oo cs=a.1:=by
 have:=g.two
 obtain⟨a,h⟩:∃ a,cs[0]?=some a:=⟨cs[0],qb (by lia)⟩
 exact⟨a,h,by unfold Oo;rw[qE,h];rfl⟩
def zqm {cs:List (Int×Int)}(g:Ws cs):∃ a,cs[cs.length-1]?=some a/\QL cs=a.1:=by
 have:=g.two
 obtain⟨a,h⟩:∃ a,cs[cs.length-1]?=some a:=⟨cs[cs.length-1],qb (by lia)⟩
 exact⟨a,h,by unfold QL;rw[qE,h];rfl⟩
def Wc (S:Z5)(g:D)(cs:List (Int×Int)):Prop:=∃ n l,g=.ref n/\S[n]?=some (.ins "Ground" [("corners",.ref l)])/\S[l]?=some (.lst (cs.map p2))
def Wc.old {S T:Z5}{g:D}{cs:List (Int×Int)}(h:Wc S g cs):Wc (S++T) g cs:=let ⟨n,l,e,h1,h2⟩:=h;⟨n,l,e,YF h1,YF h2⟩
def zxj {S:Z5}{P:D->Prop}{n l:Nat}(h:S[n]?=some (.ins "Ground" [("corners",.ref l)]))(q:P (.ref l)):∃ m c fs d,D.ref n=.ref m/\S[m]?=some (.ins c fs)/\fs.lookup ("corners":Str)=some d/\P d:=⟨n,_,_,_,rfl,h,by simp[qp],q⟩
def Uc (a b c:Int×Int):Int:=(c.2-a.2)*(b.1-a.1)-(c.1-a.1)*(b.2-a.2)
def Et (a b c:Int×Int):Int:=if 0<(if b.1-a.1<0 then -Uc a b c else Uc a b c)then 1 else if(if b.1-a.1<0 then -Uc a b c else Uc a b c)<0 then -1 else 0
def Std (cs:List (Int×Int))(s:Int×Int):Prop:=Bd 180 s.1/\Bd 200 s.2/\Ny cs (s.1,1)/\∀ a b,QS cs (s.1,1)=some (a,b)->Qq a b (s.1,1)<=s.2*Ut a b (s.1,1)
def Wu (cs:List (Int×Int))(s:Int×Int):Prop:=Ny cs (s.1,1)/\∀ a b,QS cs (s.1,1)=some (a,b)->Qq a b (s.1,1)<=s.2*Ut a b (s.1,1)
def Std.of {cs:List (Int×Int)}{s:Int×Int}(b1:Bd 180 s.1)(b2:Bd 200 s.2)(h:Wu cs s):Std cs s:=⟨b1,b2,h.1,h.2⟩
def Pb (cs:List (Int×Int))(x y:Int)(k:Nat):Bool:=decide (min x y<(cs.getD k (0,0)).1)&&decide ((cs.getD k (0,0)).1<max x y)
def V8 (cs:List (Int×Int))(x y:Int)(n:Nat):List Int:=((List.range n).filter (Pb cs x y)).map fun k:Nat=>(k:Int)
def zxq {cs:List (Int×Int)}{x y:Int}{i:Nat}(h:Pb cs x y i=true):(V8 cs x y (i+1)).map D.int=(V8 cs x y i).map D.int++[.int (i:Int)]:=by
 unfold V8
 rw[Iv,Qc,Hi h]
 simp
def Ba {cs:List (Int×Int)}{x y:Int}{i:Nat}(h:Pb cs x y i=false):V8 cs x y (i+1)=V8 cs x y i:=by
 unfold V8
 rw[Iv,Qc,J2 (by rw[h];exact qu)]
 simp
def Gz (cs:List (Int×Int))(a b:Int×Int)(k:Int):Bool:=decide (0<Et a b (cs.getD k.toNat (0,0)))
def Ot (cs:List (Int×Int))(a b:Int×Int):Option Int:=(V8 cs a.1 b.1 cs.length).find? (Gz cs a b)
theorem vd {p:Int->Bool}:∀ {ks:List Int} {i:Nat} {k:Int},ks[i]?=some k->(∀ x∈ks.take i,p x=false)->p k=true->ks.find? p=some k
 |[],i,k,h,_,_=>by simp at h
 |x::ks,0,k,h,_,hp=>by
  have e:x=k:=by simpa using h
  rw[List.find?_cons,e,hp]
 |x::ks,i+1,k,h,hn,hp=>by
  rw[List.find?_cons,hn x (by simp)]
  exact vd (by simpa using h) (fun y hy=>hn y (by rw[List.take_succ_cons];exact qw _ hy)) hp
def ztD {p:Int->Bool}{ks:List Int}(hn:∀ x∈ks,p x=false):ks.find? p=none:=List.find?_eq_none.mpr fun x hx=>by rw[hn x hx];exact qu
def zuw {cs:List (Int×Int)}{x y k:Int}{n:Nat}(h:k∈V8 cs x y n):0<=k/\k<n:=by
 unfold V8 at h
 obtain⟨j,hj,rfl⟩:=qT.mp h
 have:=List.mem_range.mp (V5.mp hj).1
 lia
section
variable {g:Int}{p q r s d t u v:Int×Int}
end
section
variable {cs:List (Int×Int)}{a b:Int×Int}{rp:List (Int×Int)}
end
section
variable {w h t m:Int}{cs:List (Int×Int)}
end
abbrev X6 (b:Str×(Int×Int)):D:=.tup [.str b.1,.int b.2.1,.int b.2.2]
def abc:List Nat:=List.range' 97 26
def zuO:("abcdefghijklmnopqrstuvwxyz":Str).cps.toList=abc:=by decide +kernel
def rT {c:Nat}:c∈abc↔97<=c/\c<=122:=by unfold abc;rw[List.mem_range'_1];lia
def WQ (z:Str):Bool:=decide (1<=z.length)&&(decide (z.length<=8)&&z.cps.toList.all fun c=>decide (c∈abc))
def IK {z:Str}:WQ z=true↔1<=z.length/\z.length<=8/\∀ c∈z.cps.toList,c∈abc:=by
 unfold WQ
 rw[qG,qG,decide_eq_true_eq,decide_eq_true_eq,qY]
 simp only[decide_eq_true_eq]
def Nz {z:Str}(h:WQ z=true)(k:Nat):fl k (.str z)=true:=by
  have h3:=(IK.mp h).2.2
  have:z.cps.all (· < 0x110000)=true:=by
    rw[Array.all_eq_true']
    intro x hx
    have:=rT.mp (h3 x (Array.mem_toList_iff.mpr hx))
    simp;lia
  cases k<;>exact this
structure Vl where
 cs:List (Int×Int)
 bs:List (Str×(Int×Int))
 fs:List Fg
 hz:Option Int
 h0:Int
 h1:Int
 dl:Int
structure Gi (F:Fg):Prop where
 b:Hf F
 o:F.f<=F.l
 f:Bd 300 F.f
 l:Bd 300 F.l
structure Yy (V:Vl):Prop where
 gr:Ws V.cs
 b1:1<=V.bs.length
 b12:V.bs.length<=12
 nm:∀ b∈V.bs,WQ b.1=true
 nd:(V.bs.map (·.1)).Nodup
 st:∀ b∈V.bs,Wu V.cs b.2
 bd:∀ b∈V.bs,Bd 180 b.2.1/\Bd 200 b.2.2
 f12:V.fs.length<=12
 fg:∀ F∈V.fs,Gi F
 hz:∀ z,V.hz=some z->0<=z
 hh:V.h0<=V.h1
 b0:Bd 250 V.h0
 bl:Bd 250 V.h1
 dl:0<=V.dl
abbrev vF (g b f h a l d:D):List (Str×D):=[("ground",g),("beacons",b),("fogs",f),("haze",h),("first",a),("last",l),("delay",d)]
def Yj (S:Z5)(v:D)(V:Vl):Prop:=∃ n g b f,v=.ref n/\S[n]?=some (.ins "Valley" (vF (.ref g) (.ref b) (.ref f) (WD V.hz) (.int V.h0) (.int V.h1) (.int V.dl)))/\Wc S (.ref g) V.cs/\S[b]?=some (.lst (V.bs.map X6))/\S[f]?=some (.lst (V.fs.map X5))
theorem Yj.old {S T:Z5}{v:D}{V:Vl}(h:Yj S v V):Yj (S++T) v V:=let ⟨n,g,b,f,e,h1,h2,h3,h4⟩:=h;⟨n,g,b,f,e,YF h1,h2.old,YF h3,YF h4⟩
section
variable {S:Z5}{P:D->Prop}{n:Nat}{g b f h a l d:D}
def zqY (k:S[n]?=some (.ins "Valley" (vF g b f h a l d)))(q:P g):∃ m c fs x,D.ref n=.ref m/\S[m]?=some (.ins c fs)/\fs.lookup ("ground":Str)=some x/\P x:=⟨n,_,_,g,rfl,k,by simp[qp],q⟩
def zp1 (k:S[n]?=some (.ins "Valley" (vF g b f h a l d)))(q:P b):∃ m c fs x,D.ref n=.ref m/\S[m]?=some (.ins c fs)/\fs.lookup ("beacons":Str)=some x/\P x:=⟨n,_,_,b,rfl,k,by rw[qp,show((("beacons":Str)=="ground")=false) by decide +kernel];simp[qp],q⟩
def zu6 (k:S[n]?=some (.ins "Valley" (vF g b f h a l d)))(q:P f):∃ m c fs x,D.ref n=.ref m/\S[m]?=some (.ins c fs)/\fs.lookup ("fogs":Str)=some x/\P x:=⟨n,_,_,f,rfl,k,by rw[qp,show((("fogs":Str)=="ground")=false) by decide +kernel];dsimp only;rw[qp,show((("fogs":Str)=="beacons")=false) by decide +kernel];simp[qp],q⟩
def zvk (k:S[n]?=some (.ins "Valley" (vF g b f h a l d)))(q:P h):∃ m c fs x,D.ref n=.ref m/\S[m]?=some (.ins c fs)/\fs.lookup ("haze":Str)=some x/\P x:=⟨n,_,_,h,rfl,k,by rw[qp,show((("haze":Str)=="ground")=false) by decide +kernel];dsimp only;rw[qp,show((("haze":Str)=="beacons")=false) by decide +kernel];dsimp only;rw[qp,show((("haze":Str)=="fogs")=false) by decide +kernel];simp[qp],q⟩
def zug (k:S[n]?=some (.ins "Valley" (vF g b f h a l d)))(q:P a):∃ m c fs x,D.ref n=.ref m/\S[m]?=some (.ins c fs)/\fs.lookup ("first":Str)=some x/\P x:=⟨n,_,_,a,rfl,k,by rw[qp,show((("first":Str)=="ground")=false) by decide +kernel];dsimp only;rw[qp,show((("first":Str)=="beacons")=false) by decide +kernel];dsimp only;rw[qp,show((("first":Str)=="fogs")=false) by decide +kernel];dsimp only;rw[qp,show((("first":Str)=="haze")=false) by decide +kernel];simp[qp],q⟩
def zwk (k:S[n]?=some (.ins "Valley" (vF g b f h a l d)))(q:P l):∃ m c fs x,D.ref n=.ref m/\S[m]?=some (.ins c fs)/\fs.lookup ("last":Str)=some x/\P x:=⟨n,_,_,l,rfl,k,by rw[qp,show((("last":Str)=="ground")=false) by decide +kernel];dsimp only;rw[qp,show((("last":Str)=="beacons")=false) by decide +kernel];dsimp only;rw[qp,show((("last":Str)=="fogs")=false) by decide +kernel];dsimp only;rw[qp,show((("last":Str)=="haze")=false) by decide +kernel];dsimp only;rw[qp,show((("last":Str)=="first")=false) by decide +kernel];simp[qp],q⟩
def gk (k:S[n]?=some (.ins "Valley" (vF g b f h a l d)))(q:P d):∃ m c fs x,D.ref n=.ref m/\S[m]?=some (.ins c fs)/\fs.lookup ("delay":Str)=some x/\P x:=⟨n,_,_,d,rfl,k,by rw[qp,show((("delay":Str)=="ground")=false) by decide +kernel];dsimp only;rw[qp,show((("delay":Str)=="beacons")=false) by decide +kernel];dsimp only;rw[qp,show((("delay":Str)=="fogs")=false) by decide +kernel];dsimp only;rw[qp,show((("delay":Str)=="haze")=false) by decide +kernel];dsimp only;rw[qp,show((("delay":Str)=="first")=false) by decide +kernel];dsimp only;rw[qp,show((("delay":Str)=="last")=false) by decide +kernel];simp[qp],q⟩
end
def Ov {bs:List (Str×(Int×Int))}{i:Nat}{d:D}(h:(bs.map X6)[i]?=some d):∃ b,bs[i]?=some b/\d=X6 b:=by
 rw[qj]at h
 cases e:bs[i]? with
 |none=>rw[e]at h;cases h
 |some p=>rw[e]at h;cases h;exact⟨p,rfl,rfl⟩
def N6 (f:Str×(Int×Int)->D):D->D
 |.tup [.str z,.int a,.int b]=>f (z,a,b)
 |d=>d
def LK (f:Str×(Int×Int)->D)(bs:List (Str×(Int×Int))):(bs.map X6).map (N6 f)=bs.map f:=by rw[WY];rfl
def N8 (a b:Int×Int):Int:=(b.1-a.1)*(b.1-a.1)+(b.2-a.2)*(b.2-a.2)
def hzy (z:Option Int)(q:Int):Bool:=match z with
 |some z=>decide (z<q)
 |none=>false
def Pq (V:Vl)(a b:Int×Int):D:=match Ot V.cs a b with
 | some k=>.tup [.str "ground",.int k]
 | none=>if hzy V.hz (N8 a b)=true then .tup [.str "haze",.int (N8 a b)]else .non
def Gv (V:Vl)(a b:Int×Int):Prop:=Ot V.cs a b=none/\hzy V.hz (N8 a b)=false
def mq {V:Vl}{a b:Int×Int}:Pq V a b=.non↔Gv V a b:=by
 unfold Pq Gv
 cases Ot V.cs a b with
 |some k=>simp
 |none =>
  cases h:hzy V.hz (N8 a b)with
  |true=>simp
  |false=>simp
def Bq (V:Vl)(a b:Int×Int)(h:Int):Prop:=Gv V a b/\¬ ∃ F∈V.fs,M8 F a.1 a.2 b.1 b.2 h
structure La (V:Vl)(n m:Str)(s t:Int×Int)(ms:List (Int×Int)):Prop where
 ok:Zr ms
 iff:∀ h,ms.any (Zu h)=true↔V.h0<=h/\h<=V.h1/\(n=m\/Bq V s t h)
 len:ms.length<=14
def Jz {V:Vl}(ok:Yy V){b c:Str×(Int×Int)}(hb:b∈V.bs)(hc:c∈V.bs)(e:b.1=c.1):b=c:=by
 obtain⟨i,hi,rfl⟩:=qH.mp hb
 obtain⟨j,hj,rfl⟩:=qH.mp hc
 have nd:=qZ.mp ok.nd
 rcases Nat.lt_trichotomy i j with h|h|h
 ·exact absurd (by rw[Ux,Ux];exact e) (nd i j (by simpa using hi) (by simpa using hj) h)
 ·subst h;rfl
 ·exact absurd (by rw[Ux,Ux];exact e.symm) (nd j i (by simpa using hj) (by simpa using hi) h)
def JG {V:Vl}(ok:Yy V){i j:Nat}{b c:Str×(Int×Int)}(hb:V.bs[i]?=some b)(hc:V.bs[j]?=some c):b.1=c.1↔i=j:=by
 have li:=zU hb
 have lj:=zU hc
 rw[qb li]at hb
 rw[qb lj]at hc
 cases hb;cases hc
 have nd:=qZ.mp ok.nd
 constructor
 ·intro e
  rcases Nat.lt_trichotomy i j with h|h|h
  ·exact absurd (by rw[Ux,Ux];exact e) (nd i j (by simpa using li) (by simpa using lj) h)
  ·exact h
  ·exact absurd (by rw[Ux,Ux];exact e.symm) (nd j i (by simpa using lj) (by simpa using li) h)
 ·rintro rfl;rfl
def zsP {S A B X:Z5}(h:∃ T,A=S++T)(e:B=A++X):∃ T,B=S++T:=let ⟨T,h⟩:=h;⟨T++X,by rw[e,h,qm]⟩
def zrr {f:Str}{v:D}:putD f v []=[(f,v)]:=rfl
def X8 {f g:Str}{v x:D}{r:List (Str×D)}(h:g≠f):putD f v ((g,x)::r)=(g,x)::putD f v r:=by
 show(if g=f then _ else _)=_
 rw[if_neg h]
section
variable {g b f h a l d:D}
def vp2:putD "beacons" b ([("ground",g)]:List (Str×D))=([("ground",g),("beacons",b)]:List (Str×D)):=by rw[X8 (by decide +kernel)];rfl
def vp3:putD "fogs" f ([("ground",g),("beacons",b)]:List (Str×D))=([("ground",g),("beacons",b),("fogs",f)]:List (Str×D)):=by rw[X8 (by decide +kernel),X8 (by decide +kernel)];rfl
def vp4:putD "haze" h ([("ground",g),("beacons",b),("fogs",f)]:List (Str×D))=([("ground",g),("beacons",b),("fogs",f),("haze",h)]:List (Str×D)):=by rw[X8 (by decide +kernel),X8 (by decide +kernel),X8 (by decide +kernel)];rfl
def vp5:putD "first" a ([("ground",g),("beacons",b),("fogs",f),("haze",h)]:List (Str×D))=([("ground",g),("beacons",b),("fogs",f),("haze",h),("first",a)]:List (Str×D)):=by rw[X8 (by decide +kernel),X8 (by decide +kernel),X8 (by decide +kernel),X8 (by decide +kernel)];rfl
def vp6:putD "last" l ([("ground",g),("beacons",b),("fogs",f),("haze",h),("first",a)]:List (Str×D))=([("ground",g),("beacons",b),("fogs",f),("haze",h),("first",a),("last",l)]:List (Str×D)):=by rw[X8 (by decide +kernel),X8 (by decide +kernel),X8 (by decide +kernel),X8 (by decide +kernel),X8 (by decide +kernel)];rfl
def vp7:putD "delay" d ([("ground",g),("beacons",b),("fogs",f),("haze",h),("first",a),("last",l)]:List (Str×D))=vF g b f h a l d:=by rw[X8 (by decide +kernel),X8 (by decide +kernel),X8 (by decide +kernel),X8 (by decide +kernel),X8 (by decide +kernel),X8 (by decide +kernel)];rfl
end
def zrC {α:Type}(xs:List α){k:Int}(h0:0<=k)(h1:k<=xs.length):cutD xs none (some k)=xs.take k.toNat:=by
 unfold cutD W8
 dsimp only
 rw[if_neg (by lia),List.drop_zero,Nat.sub_zero,Nat.min_eq_left (by lia)]
theorem vX (n:Str):∀ zs:List Str,((zs.map D.str).any fun z=>eqv z (.str n))=decide (n∈zs)
 |[]=>by simp
 |z::zs=>by
  rw[qJ,RV,vX n zs]
  show((z==n)||decide (n∈zs))=decide (n∈z::zs)
  rw[RP,Qy,beq_iff_eq,decide_eq_true_eq,decide_eq_true_eq,qh]
  exact⟨fun h=>h.imp (·.symm) id,fun h=>h.imp (·.symm) id⟩
def ztf {zs:List Str}(h:∀ z∈zs,fl 20 (.str z)=true):(zs.map D.str).all (fl 20)=true:=by
 rw[U6,qY];exact h
def zoH {S:Z5}{Q:DK}{x:D}{zs:List Str}{n:Str}(hx:VB S x (zs.map D.str))(hn:fl 20 (.str n)=true)(h:∀ z∈zs,fl 20 (.str z)=true)(q:Q (.bl (!decide (n∈zs))) S):Cq (.str n) x S Q:=.inl ⟨_,⟨_,hx,hn,ztf h,rfl⟩,by rw[vX];exact q⟩
def Yy.flN {V:Vl}(ok:Yy V):∀ z∈V.bs.map (·.1),fl 20 (.str z)=true:=fun z hz=>by
 obtain⟨b,hb,rfl⟩:=qT.mp hz
 exact Nz (ok.nm b hb) 20
mutual
theorem eqv_refl:∀ (k:Nat) (d:D),fl k d=true->eqv d d=true
  |_,.non,_=>rfl
  |_,.bl b,_=>by show(b==b)=true;simp
  |_,.int i,_=>by show decide (i=i)=true;simp
  |_,.str x,_=>by show(x==x)=true;simp
  |0,.tup _,h=>by cases h
  |k+1,.tup xs,h=>eqvAll_refl k xs h
  |k,.ref _,h=>by cases k<;>cases h
  |k,.ty _,h=>by cases k<;>cases h
  |k,.rl _,h=>by cases k<;>cases h
  |k,.exn _,h=>by cases k<;>cases h
theorem eqvAll_refl:∀ (k:Nat) (xs:List D),xs.all (fl k)=true->eqvAll xs xs=true
  |_,[],_=>rfl
  |k,x::xs,h=>by
    rw[Uy,qG]at h
    show(eqv x x&&eqvAll xs xs)=true
    rw[eqv_refl k x h.1,eqvAll_refl k xs h.2];rfl
end
def pK {S:Z5}{Q:DK}{x y:D}{xs:List D}(hx:Lst S x xs)(hy:Lst S y xs)(f:xs.all (fl 20)=true)(q:Q (.bl true) S):oEq x y S Q:=zw3 hx hy f f (eqvAll_refl 20 xs f) q
def zvY {S:Z5}{Q:DK}{x y:D}{xs ys:List D}{xss yss:List (List D)}{b:Bool}(hx:Lst S x xs)(hy:Lst S y ys)(lx:Sx S xs xss)(ly:Sx S ys yss)(fx:Wo xss=true)(fy:Wo yss=true)(e:eqvAll (xss.map D.tup) (yss.map D.tup)=b)(q:Q (.bl b) S):oEq x y S Q:=⟨b,.inr (.inr ⟨xs,ys,xss,yss,hx,hy,lx,ly,fx,fy,e.symm⟩),q⟩
def nC (p:Str->D):D->D
 |.str z=>p z
 |d=>d
def zts {zs:List Str}{i:Nat}{d:D}(h:(zs.map D.str)[i]?=some d):∃ z,zs[i]?=some z/\d=.str z:=by
 rw[qj]at h
 cases e:zs[i]? with
 |none=>rw[e]at h;cases h
 |some p=>rw[e]at h;cases h;exact⟨p,rfl,rfl⟩
def zub (f:Str->D)(zs:List Str):(zs.map D.str).map (nC f)=zs.map f:=by rw[WY];rfl
def mj {S:Z5}{Q:DK}{x y:Str}(fx:fl 20 (.str x)=true)(fy:fl 20 (.str y)=true)(q:Q (.bl (decide (x=y))) S):oEq (.str x) (.str y) S Q:=ztw fx fy (by
 by_cases h:x=y
 ·subst h;rw[decide_eq_true rfl];exact beq_self_eq_true x
 ·rw[decide_eq_false h];exact beq_eq_false_iff_ne.mpr h) q
open Classical in
abbrev Mv (x y z:D)(V:Vl):D:=.tup [x,y,z,WD V.hz,.int V.h0,.int V.h1,.int V.dl]
def Qf (S:Z5)(x y z:D)(V:Vl):Prop:=Lst S x (V.cs.map p2)/\Lst S y (V.bs.map X6)/\Lst S z (V.fs.map X5)
theorem Qf.old {S T:Z5}{x y z:D}{V:Vl}(h:Qf S x y z V):Qf (S++T) x y z V:=⟨h.1.old,h.2.1.old,h.2.2.old⟩
def sH (p:Nat->Bool):D->D
 |.str z=>.bl (p (z.cps.toList.headD 0))
 |d=>d
def zpU {z:Str}{i:Nat}{d:D}(h:(signs z)[i]?=some d):∃ c,z.cps.toList[i]?=some c/\d=.str ⟨#[c]⟩:=by
 unfold signs at h
 rw[qj]at h
 cases e:z.cps.toList[i]? with
 |none=>rw[e]at h;cases h
 |some p=>rw[e]at h;cases h;exact⟨p,rfl,rfl⟩
def zpx (p:Nat->Bool)(z:Str):(signs z).map (sH p)=(z.cps.toList.map p).map D.bl:=by
 unfold signs
 rw[WY,WY];rfl
def zoO (z:Str):(signs z).length=z.length:=by
 unfold signs
 rw[qc];exact qS
section
variable {see:Nat->Nat->Int->Prop}{dl:Int}{s:Nat}{h0:Int}
inductive Lt (see:Nat->Nat->Int->Prop)(dl:Int)(s:Nat)(h0:Int):Nat->Int->Prop
 |base:Lt see dl s h0 s h0
 |step {k j:Nat} {h u:Int}:Lt see dl s h0 k h->h<=u->see k j u->Lt see dl s h0 j (u+dl)
def Lt.ge (hd:0<=dl){j:Nat}{h:Int}(w:Lt see dl s h0 j h):h0<=h:=by
 induction w with
 |base=>exact qC _
 |step _ hu _ ih=>lia
def jh:∀ {n:Nat} {vs:List Nat},vs.Nodup->(∀ x∈vs,x<n)->vs.length<=n:=by
 intro n vs nd h
 have:∀ {F N:List Nat},F.Nodup->(∀ x∈F,x∈N)->F.length<=N.length:=fun {F N}=>by
  induction F generalizing N with
  |nil=>intro _ _;exact qO _
  |cons x F ih =>
   intro nd h
   obtain⟨n1,n2⟩:=O2.mp nd
   have hx:=h x (by simp)
   have:=ih (N:=N.erase x) n2 fun y hy=>(List.mem_erase_of_ne (fun e:y=x=>n1 (e▸hy))).mpr (h y (qw _ hy))
   rw[List.length_erase_of_mem hx]at this
   have:=List.length_pos_of_mem hx
   rw[qR];lia
 have:=this (N:=List.range n) nd fun x hx=>List.mem_range.mpr (h x hx)
 rwa[RN]at this
structure J5 (see:Nat->Nat->Int->Prop)(dl:Int)(s:Nat)(h0:Int)(f:Nat->Option Int):Prop where
 snd:∀ j h,f j=some h->Lt see dl s h0 j h
 lst:∀ j h,Lt see dl s h0 j h->∃ h',f j=some h'/\h'<=h
def J5.uniq {f g:Nat->Option Int}(a:J5 see dl s h0 f)(b:J5 see dl s h0 g)(j:Nat):f j=g j:=by
 cases hf:f j with
 |none =>
  cases hg:g j with
  |none=>rfl
  |some h =>
   obtain⟨h',e,_⟩:=a.lst j h (b.snd j h hg)
   rw[hf]at e;cases e
 |some h =>
  obtain⟨h',e,le⟩:=b.lst j h (a.snd j h hf)
  obtain⟨h2,e2,le2⟩:=a.lst j h' (b.snd j h' e)
  rw[hf]at e2;cases e2
  rw[e];exact congrArg some (by lia)
end
def W9 (xs:List Int)(h:Int):Option Int:=(xs.filter fun u=>decide (h<=u)).head?
def Ol {xs:List Int}(asc:xs.Pairwise (· < ·)){h u:Int}(e:W9 xs h=some u):u∈xs/\h<=u/\∀ v∈xs,h<=v->u<=v:=by
  unfold W9 at e
  have asc':=asc.sublist (List.filter_sublist (p:=fun u=>decide (h<=u)) (l:=xs))
  cases hf:xs.filter fun u=>decide (h<=u)with
  |nil=>rw[hf]at e;cases e
  |cons a r =>
    rw[hf]at e asc'
    have ea:a=u:=by simpa using e
    subst ea
    have ma:a∈xs.filter fun u=>decide (h<=u):=by rw[hf];simp
    obtain⟨m1,m2⟩:=V5.mp ma
    refine⟨m1,of_decide_eq_true m2,fun v hv hle=>?_⟩
    have mv:v∈xs.filter fun u=>decide (h<=u):=V5.mpr ⟨hv,decide_eq_true hle⟩
    rw[hf]at mv
    rcases qh.mp mv with rfl|mv
    . exact qC _
    . have:=(qU.mp asc').1 v mv
      lia
def JH {xs:List Int}{h:Int}(e:W9 xs h=none):∀ v∈xs,¬ h<=v:=fun v hv hle=>by
 unfold W9 at e
 rw[List.head?_eq_none_iff,qbv]at e
 exact e v hv (decide_eq_true hle)
def zun {xs:List Int}(asc:xs.Pairwise (· < ·)){h:Int}{o:Option Int}(h1:∀ u,o=some u->u∈xs/\h<=u/\∀ v∈xs,h<=v->u<=v)(h2:o=none->∀ v∈xs,¬ h<=v):W9 xs h=o:=by
  cases e:W9 xs h with
  |none =>
    cases o with
    |none=>rfl
    |some u=>exact absurd (h1 u rfl).2.1 (JH e u (h1 u rfl).1)
  |some a =>
    obtain⟨a1,a2,a3⟩:=Ol asc e
    cases o with
    |none=>exact absurd a2 (h2 rfl a a1)
    |some u =>
      obtain⟨b1,b2,b3⟩:=h1 u rfl
      exact congrArg some (by have:=a3 u b1 b2;have:=b3 a a1 a2;lia)
def rK {ms:List (Int×Int)}(ok:Zr ms){h u:Int}(e:Sq ms h=some u):ms.any (Zu u)=true/\h<=u/\∀ v,ms.any (Zu v)=true->h<=v->u<=v:=by
 induction ms with
 |nil=>cases e
 |cons c r ih =>
  have e':(if h<=c.2 then some (max c.1 h)else Sq r h)=some u:=e
  have lc:=ok.le c (by simp)
  have okr:Zr r:=⟨fun d hd=>ok.le d (qw _ hd),(qU.mp ok.ap).2⟩
  by_cases g:h<=c.2
  ·rw[if_pos g]at e'
   have eu:max c.1 h=u:=qB e'
   refine⟨XQ.mpr ⟨c,by simp,by lia,by lia⟩,by lia,fun v hv hle=>?_⟩
   obtain⟨d,hd,d1,d2⟩:=XQ.mp hv
   rcases qh.mp hd with rfl|hd
   ·lia
   ·have:=(qU.mp ok.ap).1 d hd
    lia
  ·rw[if_neg g]at e'
   obtain⟨a1,a2,a3⟩:=ih okr e'
   obtain⟨d,hd,d1,d2⟩:=XQ.mp a1
   refine⟨XQ.mpr ⟨d,qw _ hd,d1,d2⟩,a2,fun v hv hle=>?_⟩
   obtain⟨d',hd',d1',d2'⟩:=XQ.mp hv
   rcases qh.mp hd' with rfl|hd'
   ·lia
   ·exact a3 v (XQ.mpr ⟨d',hd',d1',d2'⟩) hle
def xR {ms:List (Int×Int)}{h:Int}(e:Sq ms h=none):∀ v,h<=v->¬ ms.any (Zu v)=true:=by
 induction ms with
 |nil=>intro v _ z;simp at z
 |cons c r ih =>
  have e':(if h<=c.2 then some (max c.1 h)else Sq r h)=none:=e
  by_cases g:h<=c.2
  ·rw[if_pos g]at e';cases e'
  ·rw[if_neg g]at e'
   intro v hle hv
   obtain⟨d,hd,d1,d2⟩:=XQ.mp hv
   rcases qh.mp hd with rfl|hd
   ·lia
   ·exact ih e' v hle (XQ.mpr ⟨d,hd,d1,d2⟩)
noncomputable def Gs (V:Vl) (k j:Nat) (h:Int):Bool:=@decide (k≠j/\∃ b c,V.bs[k]?=some b/\V.bs[j]?=some c/\Bq V b.2 c.2 h) (Classical.propDecidable _)
def Cz {V:Vl}{k j:Nat}{h:Int}:Gs V k j h=true↔k≠j/\∃ b c,V.bs[k]?=some b/\V.bs[j]?=some c/\Bq V b.2 c.2 h:=by unfold Gs;exact @decide_eq_true_iff _ (Classical.propDecidable _)
def hrs (V:Vl):List Int:=(List.range (V.h1-V.h0+1).toNat).map fun i:Nat=>V.h0+(i:Int)
def zs9 {V:Vl}{h:Int}:h∈hrs V↔V.h0<=h/\h<=V.h1:=by
 unfold hrs
 rw[qT]
 constructor
 ·rintro⟨i,hi,rfl⟩
  have:=List.mem_range.mp hi
  lia
 ·rintro⟨h0,h1⟩
  exact⟨(h-V.h0).toNat,List.mem_range.mpr (by lia),by lia⟩
def gU (V:Vl):(hrs V).Pairwise (· < ·):=by
  unfold hrs
  rw[List.pairwise_map]
  exact List.pairwise_lt_range.imp fun h=>by lia
noncomputable def Xj (V:Vl) (k j:Nat):List Int:=(hrs V).filter (Gs V k j)
def zog {V:Vl}{k:Nat}:Xj V k k=[]:=by
 unfold Xj
 rw[qbv]
 intro h _ z
 exact(Cz.mp z).1 rfl
def Dk {V:Vl}{k j:Nat}{h:Int}:h∈Xj V k j↔V.h0<=h/\h<=V.h1/\Gs V k j h=true:=by
 unfold Xj
 rw[V5,zs9,and_assoc]
def NT (V:Vl)(k j:Nat):(Xj V k j).Pairwise (· < ·):=(gU V).sublist List.filter_sublist
def zys {rs:List Nat}(nd:rs.Nodup){i j:Nat}{r:Nat}(hi:rs[i]?=some r)(hj:rs[j]?=some r):i=j:=by
 have li:=zU hi
 have lj:=zU hj
 rw[qb li]at hi
 rw[qb lj]at hj
 have e:rs[i]=rs[j]:=qB (hi.trans hj.symm)
 have:=qZ.mp nd
 rcases Nat.lt_trichotomy i j with g|g|g
 ·exact absurd e (this i j li lj g)
 ·exact g
 ·exact absurd e.symm (this j i lj li g)
def Od (V:Vl)(k j:Nat)(u:Int):Prop:=u∈Xj V k j
def zt8 {V:Vl}{k j:Nat}{u:Int}(h:Od V k j u):k<V.bs.length/\j<V.bs.length:=by
 obtain⟨_,b,c,hb,hc,_⟩:=Cz.mp (Dk.mp h).2.2
 exact⟨zU hb,zU hc⟩
def zkr {V:Vl}(ok:Yy V){k j:Nat}{b c:Str×(Int×Int)}(hb:V.bs[k]?=some b)(hc:V.bs[j]?=some c)(hkj:k≠j){ms:List (Int×Int)}(hm:La V b.1 c.1 b.2 c.2 ms)(h:Int):W9 (Xj V k j) h=Sq ms h:=by
 have ne:b.1≠c.1:=fun e=>hkj ((JG ok hb hc).mp e)
 have iff:∀ u,u∈Xj V k j↔ms.any (Zu u)=true:=fun u=>by
  rw[Dk,hm.iff,Cz]
  constructor
  ·rintro⟨h1,h2,_,b',c',hb',hc',z⟩
   rw[hb]at hb';rw[hc]at hc';cases hb';cases hc'
   exact⟨h1,h2,.inr z⟩
  ·rintro⟨h1,h2,z|z⟩
   ·exact absurd z ne
   ·exact⟨h1,h2,hkj,b,c,hb,hc,z⟩
 refine zun (NT V k j) (fun u e=>?_) (fun e v hv hle=>xR e v hle ((iff v).mp hv))
 obtain⟨a1,a2,a3⟩:=rK hm.ok e
 exact⟨(iff u).mpr a1,a2,fun v hv=>a3 v ((iff v).mp hv)⟩
def Dm (z n:Str):eqv (.str z) (.str n)=decide (z=n):=by
 show(z==n)=_
 rw[RP,beq_iff_eq,decide_eq_true_eq]
def U3 (V:Vl)(i:Nat)(z:Str):Prop:=∃ b,V.bs[i]?=some b/\b.1=z
def U3.uniq {V:Vl}(ok:Yy V){i j:Nat}{z:Str}(a:U3 V i z)(b:U3 V j z):i=j:=by
 obtain⟨x,hx,rfl⟩:=a
 obtain⟨y,hy,e⟩:=b
 exact(JG ok hx hy).mp e.symm
def U3.mem {V:Vl}{i:Nat}{z:Str}(a:U3 V i z):z∈V.bs.map (·.1):=by
 obtain⟨x,hx,rfl⟩:=a
 exact qT.mpr ⟨x,qe hx,rfl⟩
def pB {V:Vl}{z:Str}(h:z∈V.bs.map (·.1)):∃ i,U3 V i z:=by
 obtain⟨b,hb,rfl⟩:=qT.mp h
 obtain⟨i,hi,e⟩:=qH.mp hb
 exact⟨i,b,by rw[qb hi,e],rfl⟩
theorem lJ:∀ {r:List Pc} {p:Pc},ZW (p::r)->∃ q∈p::r,p.lo+(r.length:Int)<=q.hi
 |[],p,h=>⟨p,by simp,by have:=(h.good p (by simp)).le;simpa using this⟩
 |q::s,p,h=>by
  obtain⟨t,ht,e⟩:=lJ h.tail
  have h1:=ZW.above h q (by simp)
  have h2:=(h.good p (by simp)).le
  exact⟨t,qh.mpr (.inr ht),by rw[qR];push_cast;lia⟩
def znT {ps:List Pc}{a b:Int}(hr:ZW ps)(h:∀ x v,at' ps x=some v->a<=x/\x<=b):(ps.length:Int)<=max 0 (b-a+1):=by
 cases ps with
 |nil=>simp;lia
 |cons p r =>
  obtain⟨q,hq,e⟩:=lJ hr
  obtain⟨i,hi,ei⟩:=qH.mp hq
  have g:=hr.good q hq
  have h1:=h q.hi _ (Xf hr (by rw[qb hi,ei]) ⟨g.le,qC _⟩)
  have h2:=h p.lo _ (TF (hr.good p (by simp)))
  rw[qR]
  push_cast
  lia
def WR (a:Int)(ps:List Pc):Prop:=∀ p∈ps.head?,p.lo=a
def WR.at {a:Int}{ps:List Pc}(hr:ZW ps)(d:WR a ps){x y v:Int}(e:at' ps y=some v)(h1:a<=x)(h2:x<=y):∃ u,at' ps x=some u/\u<=v:=by
 cases ps with
 |nil=>cases e
 |cons p r =>
  have hp:p.lo=a:=d p rfl
  obtain⟨u,hu⟩:=KQ hr e (by lia) h2
  exact⟨u,hu,Uo hr hu e h2⟩
def WR.of {a:Int}{ps:List Pc}(hr:ZW ps)(h0:∀ x v,at' ps x=some v->a<=x)(h1:∀ x v,at' ps x=some v->∃ u,at' ps a=some u):WR a ps:=fun p hp=>by
 cases ps with
 |nil=>cases hp
 |cons q r =>
  cases hp
  have e:=TF (r:=r) (hr.good p (by simp))
  have g:=h0 _ _ e
  obtain⟨u,hu⟩:=h1 _ _ e
  have:=(Tw hr hu).2
  lia
theorem wI:∀ (ms:List (Int×Int)) (h:Int),Xu ms h=Sq ms h
 |[],_=>rfl
 |c::r,h=>by
  show(if h<=c.2 then some (max h c.1)else Xu r h)=if h<=c.2 then some (max c.1 h)else Sq r h
  rw[wI r h,show max h c.1=max c.1 h by lia]
structure Xr (V:Vl)(s:Nat)(f:Nat->List Pc):Prop where
 isR:∀ j,ZW (f j)
 dom:∀ j x v,at' (f j) x=some v->V.h0<=x/\x<=V.h1
 dwn:∀ j,WR V.h0 (f j)
 snd:∀ j x v,at' (f j) x=some v->Lt (Od V) V.dl s x j v
 st:∀ x,V.h0<=x->x<=V.h1->at' (f s) x=some x
structure V3 (V:Vl)(k j:Nat)(ps:List Pc):Prop where
  isR:ZW ps
  led:∀ x,at' ps x=if V.h0<=x then(if k=j then(if x<=V.h1 then some (x+V.dl)else none)else(W9 (Xj V k j) x).map (· + V.dl))else none
  len:ps.length<=28
def Tz.stp {V:Vl}(ok:Yy V){b c:Str×(Int×Int)}{k j:Nat}(hb:V.bs[k]?=some b)(hc:V.bs[j]?=some c){ms:List (Int×Int)}{ps:List Pc}(hm:La V b.1 c.1 b.2 c.2 ms)(i:ZW ps)(l:ps.length<=2*ms.length)(led:∀ h,at' ps h=if V.h0<=h then(Xu ms h).map (· + V.dl)else none):V3 V k j ps:=by
  refine⟨i,fun x=>?_,by have:=hm.len;lia⟩
  rw[led,wI]
  by_cases h0:V.h0<=x
  . rw[if_pos h0,if_pos h0]
    by_cases e:k=j
    . subst e
      rw[hb]at hc;cases hc
      rw[if_pos rfl]
      cases hf:Sq ms x with
      |none =>
        have:=xR hf x (qC _)
        rw[hm.iff]at this
        rw[if_neg (fun g=>this ⟨h0,g,.inl rfl⟩)];rfl
      |some u =>
        obtain⟨h1,h2,h3⟩:=rK hm.ok hf
        have h4:=(hm.iff u).mp h1
        have h5:=h3 x ((hm.iff x).mpr ⟨h0,by lia,.inl rfl⟩) (qC _)
        rw[if_pos (by lia),show u=x by lia];rfl
    . rw[if_neg e,zkr ok hb hc e hm x]
  . rw[if_neg h0,if_neg h0]
structure T7 (f:Nat->List Pc)(k j:Nat)(ps r:List Pc):Prop where
 isR:ZW r
 is:∀ x v,at' r x=some v->at' (f j) x=some v\/∃ w,at' (f k) x=some w/\at' ps w=some v/\∀ v',at' (f j) x=some v'->v<=v'
 old:∀ x v,at' (f j) x=some v->∃ v',at' r x=some v'/\v'<=v
 new:∀ x w v,at' (f k) x=some w->at' ps w=some v->∃ v',at' r x=some v'/\v'<=v
theorem Xr.ge {V:Vl}{s:Nat}{f:Nat->List Pc}(hd:0<=V.dl)(H:Xr V s f){j:Nat}{x v:Int}(e:at' (f j) x=some v):x<=v:=(H.snd j x v e).ge hd
def Xr.relax {V:Vl}{s:Nat}{f:Nat->List Pc}{k j:Nat}{ps r:List Pc}(hd:0<=V.dl)(H:Xr V s f)(sp:V3 V k j ps)(R:T7 f k j ps r):Xr V s (fun a=>if a=j then r else f a):=by
 have dom:∀ x v,at' r x=some v->V.h0<=x/\x<=V.h1:=fun x v e=>by
  rcases R.is x v e with h|⟨w,h,_⟩
  ·exact H.dom j x v h
  ·exact H.dom k x w h
 have stp:∀ w v,at' ps w=some v->∀ w',V.h0<=w'->w'<=w->∃ v',at' ps w'=some v':=fun w v e w' h1 h2=>by
  rw[sp.led]at e
  rw[sp.led,if_pos h1]
  rw[if_pos (show V.h0<=w by lia)]at e
  by_cases ek:k=j
  ·rw[if_pos ek]at e ⊢
   by_cases g:w<=V.h1
   ·exact⟨_,by rw[if_pos (by lia)]⟩
   ·rw[if_neg g]at e;cases e
  ·rw[if_neg ek]at e ⊢
   cases hf:W9 (Xj V k j) w with
   |none=>rw[hf]at e;cases e
   |some u =>
    obtain⟨m0,g0,_⟩:=Ol (NT V k j) hf
    cases hf':W9 (Xj V k j) w' with
    |none=>exact absurd (show w'<=u by lia) (JH hf' u m0)
    |some u'=>exact⟨_,rfl⟩
 refine⟨fun a=>?_,fun a x v e=>?_,fun a=>?_,fun a x v e=>?_,fun x h0 h1=>?_⟩
 ·split
  ·exact R.isR
  ·exact H.isR a
 ·split at e
  ·exact dom x v e
  ·exact H.dom a x v e
 ·split
  ·refine WR.of R.isR (fun x v e=>(dom x v e).1) fun x v e=>?_
   have h0:=dom x v e
   rcases R.is x v e with h|⟨w,h,h',_⟩
   ·obtain⟨u,hu,_⟩:=(H.dwn j).at (H.isR j) h (qC _) h0.1
    obtain⟨v',hv',_⟩:=R.old _ u hu
    exact⟨v',hv'⟩
   ·obtain⟨u,hu,le⟩:=(H.dwn k).at (H.isR k) h (qC _) h0.1
    obtain⟨v1,hv1⟩:=stp w v h' u (by have:=H.ge hd hu;lia) le
    obtain⟨v',hv',_⟩:=R.new _ u v1 hu hv1
    exact⟨v',hv'⟩
  ·exact H.dwn a
 ·split at e
  ·rename_i ea
   subst ea
   rcases R.is x v e with h|⟨w,h,h',low⟩
   ·exact H.snd a x v h
   ·have lw:=H.snd k x w h
    have hw:V.h0<=w:=by have:=(H.dom k x w h).1;have:=H.ge hd h;lia
    rw[sp.led,if_pos hw]at h'
    by_cases ek:k=a
    ·subst ek
     rw[if_pos rfl]at h'
     by_cases g:w<=V.h1
     ·rw[if_pos g]at h'
      have ev:w+V.dl=v:=qB h'
      have:=low w h
      have e2:v=w:=by lia
      rw[e2];exact lw
     ·rw[if_neg g]at h';cases h'
    ·rw[if_neg ek]at h'
     cases hf:W9 (Xj V k a) w with
     |none=>rw[hf]at h';cases h'
     |some u =>
      rw[hf]at h'
      have ev:u+V.dl=v:=qB h'
      obtain⟨m0,g0,_⟩:=Ol (NT V k a) hf
      rw[<- ev];exact .step lw g0 m0
  ·exact H.snd a x v e
 ·split
  ·rename_i es
   subst es
   obtain⟨v',hv',le⟩:=R.old x x (H.st x h0 h1)
   have:x<=v':=by
    rcases R.is x v' hv' with h|⟨w,h,h',_⟩
    ·exact H.ge hd h
    ·have g1:=H.ge hd h
     rw[sp.led,if_pos (by lia)]at h'
     by_cases ek:k=s
     ·rw[if_pos ek]at h'
      by_cases g:w<=V.h1
      ·rw[if_pos g]at h';have:=qB h';lia
      ·rw[if_neg g]at h';cases h'
     ·rw[if_neg ek]at h'
      cases hf:W9 (Xj V k s) w with
      |none=>rw[hf]at h';cases h'
      |some u =>
       rw[hf]at h'
       have ev:u+V.dl=v':=qB h'
       have:=(Ol (NT V k s) hf).2.1
       lia
   rw[hv',show v'=x by lia]
  ·exact H.st x h0 h1
def EY (V:Vl)(f:Nat->List Pc)(k:Nat):Prop:=∀ j x w u,j<V.bs.length->k≠j->at' (f k) x=some w->W9 (Xj V k j) w=some u->∃ v',at' (f j) x=some v'/\v'<=u+V.dl
def Xr.low {V:Vl}{s:Nat}{f:Nat->List Pc}(H:Xr V s f)(cl:∀ k,k<V.bs.length->EY V f k){x:Int}(h0:V.h0<=x)(h1:x<=V.h1){j:Nat}{v:Int}(l:Lt (Od V) V.dl s x j v):∃ v',at' (f j) x=some v'/\v'<=v:=by
 induction l with
 |base=>exact⟨x,H.st x h0 h1,qC _⟩
 |step l hle hs ih =>
  rename_i k j h u
  obtain⟨w,hw,le⟩:=ih
  have hlt:=zt8 hs
  have hkj:k≠j:=fun e=>by
   subst e
   unfold Od at hs
   rw[zog]at hs;cases hs
  cases hf:W9 (Xj V k j) w with
  |none=>exact absurd (show w<=u by lia) (JH hf u hs)
  |some u' =>
   obtain⟨_,_,least⟩:=Ol (NT V k j) hf
   obtain⟨v',hv',le'⟩:=cl k hlt.1 j x w u' hlt.2 hkj hw hf
   exact⟨v',hv',by have:=least u hs (by lia);lia⟩
def Xr.ear {V:Vl}{s:Nat}{f:Nat->List Pc}(H:Xr V s f)(cl:∀ k,k<V.bs.length->EY V f k){x:Int}(h0:V.h0<=x)(h1:x<=V.h1):J5 (Od V) V.dl s x (fun j=>at' (f j) x):=⟨fun j h e=>H.snd j x h e,fun j h l=>H.low cl h0 h1 l⟩
def ztF {V:Vl}{s:Nat}{x:Int}(hd:0<=V.dl)(h1:x<=V.h1){j:Nat}{v:Int}(l:Lt (Od V) V.dl s x j v):v<=V.h1+V.dl:=by
 cases l with
 |base=>lia
 |step l hle hs =>
  have:=(Dk.mp hs).2.1
  lia
def Bc {l:List Nat}{a b:Nat->Nat}(h:∀ i∈l,a i<=b i):(l.map a).sum<=(l.map b).sum:=by
 induction l with
 |nil=>simp
 |cons k r ih =>
  have h1:=h k (qh.mpr (.inl rfl))
  have h2:=ih fun i hi=>h i (qh.mpr (.inr hi))
  rw[qJ,qJ,List.sum_cons,List.sum_cons];lia
def rD {l:List Nat}{a b:Nat->Nat}(h:∀ i∈l,a i<=b i){k:Nat}(hk:k∈l)(hlt:a k<b k):(l.map a).sum<(l.map b).sum:=by
 induction l with
 |nil=>cases hk
 |cons q r ih =>
  have h1:=h q (qh.mpr (.inl rfl))
  have h2:=Bc fun i hi=>h i (qh.mpr (.inr hi))
  rw[qJ,qJ,List.sum_cons,List.sum_cons]
  rcases qh.mp hk with rfl|hk
  ·lia
  ·have:=ih (fun i hi=>h i (qh.mpr (.inr hi))) hk;lia
def Lx (V:Vl)(ps:List Pc)(i:Nat):Nat:=match at' ps (V.h0+(i:Int))with
 |some v=>(v-V.h0).toNat
 |none=>(V.h1-V.h0+V.dl).toNat+1
def Rw (V:Vl)(f:Nat->List Pc):Nat:=((List.range V.bs.length).map fun j=>((List.range (V.h1-V.h0+1).toNat).map (Lx V (f j))).sum).sum
def wQ {V:Vl}{ps qs:List Pc}{i:Nat}(bd:∀ x v,at' qs x=some v->v<=V.h1+V.dl)(h:∀ x v,at' ps x=some v->∃ v',at' qs x=some v'/\v'<=v):Lx V qs i<=Lx V ps i:=by
 unfold Lx
 cases e:at' ps (V.h0+(i:Int))with
 |some v =>
  obtain⟨v',e',le⟩:=h _ v e
  rw[e'];dsimp only;lia
 |none =>
  cases e':at' qs (V.h0+(i:Int))with
  |none=>exact qg _
  |some v'=>have:=bd _ v' e';dsimp only;lia
def T7.less {V:Vl}{s:Nat}{f:Nat->List Pc}{k j:Nat}{ps r:List Pc}(hd:0<=V.dl)(H:Xr V s f)(H':Xr V s (fun a=>if a=j then r else f a))(hj:j<V.bs.length)(R:T7 f k j ps r)(ne:r≠f j):Rw V (fun a=>if a=j then r else f a)<Rw V f:=by
 have at_r:∀ x v,at' r x=some v->V.h0<=x/\x<=V.h1/\x<=v/\v<=V.h1+V.dl:=fun x v e=>by
  have e1:at' ((fun a=>if a=j then r else f a) j) x=some v:=by dsimp only;rw[if_pos rfl];exact e
  have d:=H'.dom j x v e1
  exact⟨d.1,d.2,H'.ge hd e1,ztF hd d.2 (H'.snd j x v e1)⟩
 have bd:∀ x v,at' r x=some v->v<=V.h1+V.dl:=fun x v e=>(at_r x v e).2.2.2
 obtain⟨x,hx⟩:∃ x,at' r x≠at' (f j) x:=Classical.byContradiction fun no=>ne (CG R.isR (H.isR j) fun h=>Classical.byContradiction fun c=>no ⟨h,c⟩)
 obtain⟨v,hv,hlt⟩:∃ v,at' r x=some v/\∀ v',at' (f j) x=some v'->v<v':=by
  cases e:at' (f j) x with
  |some v' =>
   obtain⟨v,hv,le⟩:=R.old x v' e
   refine⟨v,hv,fun v2 e2=>?_⟩
   cases e2
   rcases Int.lt_or_eq_of_le le with g|g
   ·exact g
   ·rw[hv,e,g]at hx;exact absurd rfl hx
  |none =>
   cases e2:at' r x with
   |none=>rw[e,e2]at hx;exact absurd rfl hx
   |some v=>exact⟨v,rfl,fun v' z=>by cases z⟩
 obtain⟨g0,g1,g2,g3⟩:=at_r x v hv
 unfold Rw
 refine rD (fun a _=>Bc fun i _=>?_) (List.mem_range.mpr hj) (rD (fun i _=>?_) (k:=(x-V.h0).toNat) (List.mem_range.mpr (by lia)) ?_)
 ·dsimp only
  split
  ·rename_i ea
   subst ea
   exact wQ bd R.old
  ·exact qg _
 ·dsimp only;rw[if_pos rfl];exact wQ bd R.old
 ·dsimp only;rw[if_pos rfl]
  unfold Lx
  rw[show V.h0+((x-V.h0).toNat:Int)=x by lia,hv]
  cases e:at' (f j) x with
  |some v'=>have:=hlt v' e;dsimp only;lia
  |none=>dsimp only;lia
end Dp
namespace My
open PySem PySem.Spec PyProof.Rows L2
section
variable {prog:Program}{w:World}{A:Around}{E:Value->Shared->Prop}{s:Shared}
end
theorem nj {α:Type}(xs:List α)(a:Nat):∀ m,a+m<=xs.length->((List.range m).map (a+·)).filterMap (xs[·]?)=(xs.drop a).take m
 |0,_=>by simp
 |m+1,h=>by
  rw[Iv,qA,List.filterMap_append,nj xs a m (by lia),List.take_succ,List.getElem?_drop]
  simp only[qJ,Nh,Ih,List.filterMap_nil]
  rw[qb (by lia)];rfl
def zyv (n:Nat)(lo hi:Option Int):Builtin.Str.strSliceIndices lo hi 1 n=(List.range (HT.sIx n n hi-HT.sIx n 0 lo)).map (HT.sIx n 0 lo+·):=by
 rw[<- sliceRange_one]
 unfold Builtin.Str.strSliceIndices
 have cl:∀ (o:Option Int) (d:Nat),(match o with|none=>(d:Int)|some i=>if(1:Int) > 0 then max 0 (min (if i<0 then i+(n:Int)else i) n)else max (-1) (min (if i<0 then i+(n:Int)else i) ((n:Int)-1)))=((HT.sIx n d o:Nat):Int):=fun o d=>by
  cases o with
  |none=>rfl
  |some i =>
   show(if(1:Int) > 0 then _ else _)=(((if i<0 then(i+n).toNat else min i.toNat n):Nat):Int)
   rw[if_pos (by decide)]
   by_cases h:i<0
   ·rw[if_pos h,if_pos h];lia
   ·rw[if_neg h,if_neg h];lia
 have h1:=cl lo 0
 have h2:=cl hi n
 simp only[show((1:Int) > 0)=True by simp,if_true]at h1 h2 ⊢
 rw[<- h1,<- h2]
 rfl
def Ia (n:Nat)(o:Option Int)(d:Nat)(hd:d<=n):HT.sIx n d o<=n:=by
  cases o with
  |none=>exact hd
  |some i =>
    show(if i<0 then(i+n).toNat else min i.toNat n)<=n
    split<;>lia
def zpy (x:Str)(lo hi:Option Int):Txt.slice x lo hi=⟨((x.cps.toList.drop (HT.sIx x.length 0 lo)).take (HT.sIx x.length x.length hi-HT.sIx x.length 0 lo)).toArray⟩:=by
 have hl:x.cps.toList.length=x.length:=qS
 have b1:=Ia x.length lo 0 (qO _)
 have b2:=Ia x.length hi x.length (qg _)
 unfold Txt.slice
 rw[zyv]
 have fm:((List.range (HT.sIx x.length x.length hi-HT.sIx x.length 0 lo)).map (HT.sIx x.length 0 lo+·)).filterMap (x.cps[·]?)=(x.cps.toList.drop (HT.sIx x.length 0 lo)).take (HT.sIx x.length x.length hi-HT.sIx x.length 0 lo):=by
  rcases qP (HT.sIx x.length x.length hi) (HT.sIx x.length 0 lo)with g|g
  ·rw[show HT.sIx x.length x.length hi-HT.sIx x.length 0 lo=0 by lia];simp
  ·rw[<- nj x.cps.toList _ _ (by rw[hl];lia)]
   congr 1
   funext i
   rw[Pr]
 split
 ·rename_i h
  rw[qG]at h
  have h2:=eq_of_beq h.2
  rw[qc,RN]at h2
  have z1:HT.sIx x.length 0 lo=0:=by lia
  rw[h2,z1,List.drop_zero,G3 (by lia)]
 ·rw[fm]
def zyw:V->Option Int->Option Int->Hp->VK->Prop:=fun x lo hi H Q=>∃ z:Str,x=.str z/\z.length<=sizeLine/\Q (.str ⟨((z.cps.toList.drop (HT.sIx z.length 0 lo)).take (HT.sIx z.length z.length hi-HT.sIx z.length 0 lo)).toArray⟩) H
def jy {X:Cx}:Tp X zyw:=by
 intro Z9 s U H x v vl vu lo hi sl Q I rx hs pl pu h
 obtain⟨z,rfl,hz,q⟩:=h
 obtain⟨t,rfl⟩:=rx
 refine⟨"str",_,F.slot_str_getitem.lookup,typeIs_str _ _ _,?_⟩
 have go:∀ (l u:Option (Int×Tok)),l.map (·.1)=lo->u.map (·.1)=hi->s.heap.IsSlice sl l u none->wpAny (model X.prog X.w) X.A (getItem (.str z t) (.ref sl)) (EP X Z9 U Q) X.xe s:=fun l u el eu is=>by
  refine wpAny_getItem_str_slice is rfl ?_
  unfold sliceMade slicePicked
  rw[el,eu]
  refine post_val_or_str ⟨Xi (Txt.slice_le z lo hi) hz,fun t' k=>?_⟩
  show EP X Z9 U Q (.str (Txt.slice z lo hi) t') _
  rw[zpy]
  exact⟨.str _,H,I.tok _,⟨t',rfl⟩,q⟩
 obtain⟨o,ho,hc,hd⟩:=hs
 cases pl with
 |none =>
  cases pu with
  |none=>exact go none none rfl rfl ⟨o,ho,hc,hd⟩
  |int j tj=>exact go none (some (j,tj)) rfl rfl ⟨o,ho,hc,hd⟩
 |int i ti =>
  cases pu with
  |none=>exact go (some (i,ti)) none rfl rfl ⟨o,ho,hc,hd⟩
  |int j tj=>exact go (some (i,ti)) (some (j,tj)) rfl rfl ⟨o,ho,hc,hd⟩
section
open AutoSeq1 (wpAny_loadPart')
variable {prog:Program}{w:World}{A:Around}{E:Value->Shared->Prop}{s:Shared}
def nF {it t:Addr}{i:Nat}{items:Array Value}{x:Value}{Q:Value->Shared->Prop}(hit:s.heap.IsTupleIter it t i)(ht:s.heap.IsTuple t items)(hx:items[i]?=some x)
  (hQ:∀ h',h'.IsTupleIter it t (i+1)->Heap.SameBut it s.heap h'->Q x { s with heap:=h' }):wpAny (model prog w) A (Builtin.SmallTypes.nextOf (.ref it)) Q E s:=by
 obtain⟨o,ho,hc,hd⟩:=id hit
 obtain⟨ol,hol,_,nl,hdl⟩:=ht
 unfold Builtin.SmallTypes.nextOf
 refine wpAny_bind (wpAny_callSpecial?_slot (name:=Str.ofString "__next__") hit.typeIs F.slot_tuple_iterator_next (wpAny_call_entry F.slot_tuple_iterator_next hit.typeIs F.entry_tuple_iterator_next ?_ (F.args_tuple_iterator_next_1 _)))
 show wpAny _ _ (field (.ref it) 0 >>= _) _ _ s
 refine wpAny_bind (wpAny_field ho hd (x:=.ref t) rfl ?_)
 show wpAny _ _ (if(Value.ref t==Value.none)=true then _ else _) _ _ s
 rw[if_neg (show ¬ ((Value.ref t==Value.none)=true)from qu)]
 show wpAny _ _ (field (.ref it) 1 >>= _) _ _ s
 refine wpAny_bind (wpAny_field ho hd (x:=.int i 0) rfl ?_)
 show wpAny _ _ (seqItems? (.ref t) >>= _) _ _ s
 refine wpAny_bind (wpAny_seqItems hol hdl ?_)
 simp only[Int.toNat_natCast,hx]
 refine wpAny_bind (wpAny_setField ho hd (by simp) (wpAny_pure ⟨x,rfl,wpAny_pure (hQ _ ?_ (Heap.SameBut.update ..))⟩))
 exact⟨_,Heap.get?_update_self _ ho (Obj.isFreed_of_fields (Obj.data_mapFields hd _)),(Obj.cls_mapFields ..).trans hc,by rw[Obj.data_mapFields hd];simp[rawInt]⟩
def FT {it t:Addr}{i:Nat}{items:Array Value}{Q:Value->Shared->Prop}(hh:A.handled=none)(hit:s.heap.IsTupleIter it t i)(ht:s.heap.IsTuple t items)(hx:items[i]?=none)
  (hE:∀ h' e,Heap.ExtBut it s.heap h'->(∃ o,h'.get? e=some o/\o.cls=.type "StopIteration")->E (.ref e) { s with heap:=h' }):wpAny (model prog w) A (Builtin.SmallTypes.nextOf (.ref it)) Q E s:=by
 obtain⟨o,ho,hc,hd⟩:=id hit
 obtain⟨ol,hol,_,nl,hdl⟩:=ht
 unfold Builtin.SmallTypes.nextOf
 refine wpAny_bind (wpAny_callSpecial?_slot (name:=Str.ofString "__next__") hit.typeIs F.slot_tuple_iterator_next (wpAny_call_entry F.slot_tuple_iterator_next hit.typeIs F.entry_tuple_iterator_next ?_ (F.args_tuple_iterator_next_1 _)))
 show wpAny _ _ (field (.ref it) 0 >>= _) _ _ s
 refine wpAny_bind (wpAny_field ho hd (x:=.ref t) rfl ?_)
 show wpAny _ _ (if(Value.ref t==Value.none)=true then _ else _) _ _ s
 rw[if_neg (show ¬ ((Value.ref t==Value.none)=true)from qu)]
 show wpAny _ _ (field (.ref it) 1 >>= _) _ _ s
 refine wpAny_bind (wpAny_field ho hd (x:=.int i 0) rfl ?_)
 show wpAny _ _ (seqItems? (.ref t) >>= _) _ _ s
 refine wpAny_bind (wpAny_seqItems hol hdl ?_)
 simp only[Int.toNat_natCast,hx]
 refine wpAny_bind (wpAny_rule (wpAny_bind (wpAny_setField ho hd (by simp) ?_)))
 show wpAny _ _ (newExc (.type "StopIteration") [] >>= _) _ _ _
 refine wpAny_bind ?_
 simp only[newExc,newTuple]
 refine wpAny_bind (wpAny_newObj_type ?_ (by size_fits))
 refine wpAny_bind (m:=firstArgMember _ _) (wpAny_of_eq (a:=Value.none) (by first|rfl|(simp only[firstArgMember];rfl)) ?_)
 refine wpAny_newObj_type ?_ (by size_fits)
 simp only[raiseNew]
 refine wpAny_bind (wpAny_handled ?_)
 first|rw[show A.in1.handled=none from hh]|rw[hh]
 refine wpAny_bind (wpAny_pure (wpAny_throw ?_))
 exact hE _ _ (((Heap.SameBut.update ..).extBut.push _).push _) ⟨_,qq _ rfl,rfl⟩
def zu3 (hh:A.handled=none)(it t:Addr)(hne:t≠it)(items:Array Value) :
  Draws prog w A it [it,t] items.size (fun i v=>items[i]?=some v) (fun i h=>h.IsTupleIter it t i/\h.IsTuple t items) where
 live:=fun _ _ st=>let ⟨o,ho,_⟩:=st.1;⟨o,ho⟩
 frame:=fun _ _ _ st hk=>⟨let ⟨o,ho,r⟩:=st.1;⟨o,hk it (by simp) o ho,r⟩,let ⟨o,ho,r⟩:=st.2;⟨o,hk t (by simp) o ho,r⟩⟩
 item:=fun i s Q E hi st hQ=>nF st.1 st.2 (x:=items[i]) (by simp[hi]) fun h' hit' hs'=>hQ _ h' s.toks (by simp[hi]) ⟨hit',st.2.extBut hs'.extBut hne⟩ hs'
 done:=fun s Q E st hE=>FT hh st.1 st.2 (by simp) hE
def zvT (hh:A.handled=none)(it t:Addr)(items:Array Value)(i:Nat)(hx:items[i]?=none) :
  Draws prog w A it [it,t] 0 (fun _ _=>True) (fun _ h=>h.IsTupleIter it t i/\h.IsTuple t items) where
 live:=fun _ _ st=>let ⟨o,ho,_⟩:=st.1;⟨o,ho⟩
 frame:=fun _ _ _ st hk=>⟨let ⟨o,ho,r⟩:=st.1;⟨o,hk it (by simp) o ho,r⟩,let ⟨o,ho,r⟩:=st.2;⟨o,hk t (by simp) o ho,r⟩⟩
 item:=fun i s Q E hi=>absurd hi (M4 _)
 done:=fun s Q E st hE=>FT hh st.1 st.2 hx hE
def newT (l:Addr)(items:Array Value)(n:Nat)(dct:Option Addr)(sl:Array (Option Value)) :
    Meets (Builtin.«enumerate.__new__» ⟨[.type "enumerate",.ref l],[]⟩) (fun _ R s=>s.heap.get? l=some { cls:=.type "tuple",dict:=dct,data:=.seq items n,slots:=sl } /\
      R (.ok (.ret (.ref (s.heap.push { cls:=.type "tuple_iterator",data:=.fields #[.ref l,.int 0 0] }).objs.size)))
        { s with heap:=(s.heap.push { cls:=.type "tuple_iterator",data:=.fields #[.ref l,.int 0 0] }).push { cls:=.type "enumerate",data:=.fields #[.none,.bool false,.ref s.heap.objs.size,rawInt 0,.none,.none] } }) :=
  .of_wp fun prog w A R s h=>by
    obtain⟨hp,g,d,tk,os⟩:=s
    obtain⟨hl,h⟩:=h
    have hsub:=sub_enumerate
    have hL:Heap.IsTuple (Shared.heap ⟨hp,g,d,tk,os⟩) l items:=⟨_,hl,rfl,n,rfl⟩
    wp_walk using wpAny_loadPart' hl
    refine wpAny_stack_any fun st=>wpAny_pure ?_
    split
    . rename_i c _ _ _ _ _
      cases(c==Value.type "enumerate")
      . wp_walk using wpAny_loadPart' hl,wpAny_pyIter_tuple hL
        exact⟨_,rfl,h⟩
      . wp_walk using wpAny_loadPart' hl,wpAny_pyIter_tuple hL
        exact⟨_,rfl,h⟩
    . wp_walk using wpAny_loadPart' hl,wpAny_pyIter_tuple hL
      exact⟨_,rfl,h⟩
def zxn {l:Addr}{items:Array Value}{Q:Value->Shared->Prop}(hL:s.heap.IsTuple l items)
    (h:∀ h',IsEnum h' (s.heap.objs.size+1) s.heap.objs.size 0 .none->h'.IsTupleIter s.heap.objs.size l 0->h'.objs.size=s.heap.objs.size+2 ->
      (∀ b o,s.heap.get? b=some o->h'.get? b=some o)->Q (.ref (s.heap.objs.size+1)) { s with heap:=h' }):wpAny (model prog w) A (call (.type "enumerate") [.ref l]) Q E s:=by
  obtain⟨⟨c,dct,dt,sl⟩,hl,hc,n,hd⟩:=hL
  replace hc:c=.type "tuple":=hc
  replace hd:dt=.seq items n:=hd
  subst hc hd
  refine callType_new F.called_enumerate (by decide) (F.typeCall_enumerate_1 _) (F.newCall_enumerate_1 _) (fun obj=>F.args_object_init_2 obj _) F.entry_enumerate_new (newT l items n dct sl) ⟨hl,?_⟩
  have hz:(s.heap.push { cls:=.type "tuple_iterator",data:=.fields #[.ref l,.int 0 0] }).objs.size=s.heap.objs.size+1:=Ww ..
  show _/\_
  rw[hz]
  have he : IsEnum ((s.heap.push { cls := .type "tuple_iterator", data := .fields #[.ref l, .int 0 0] }).push
      { cls:=.type "enumerate",data:=.fields #[.none,.bool false,.ref s.heap.objs.size,rawInt 0,.none,.none] }) (s.heap.objs.size+1) s.heap.objs.size 0 .none:=by
    have:=qq (s.heap.push { cls:=.type "tuple_iterator",data:=.fields #[.ref l,.int 0 0] })
      (o:={ cls:=.type "enumerate",data:=.fields #[.none,.bool false,.ref s.heap.objs.size,rawInt 0,.none,.none] }) rfl
    rw[hz]at this;exact this
  exact⟨⟨_,he,rfl⟩,h _ he ⟨_,qd _ (qq _ rfl),rfl,rfl⟩ (by rw[Ww,hz]) fun b o x=>qd _ (qd _ x)⟩
end
def CQ (K:PySem.W.Frag)(l:Addr):It :=
  ⟨fun i H=>∃ xs x,ZL K H l xs/\xs[i]?=some x,
   fun i H v H'=>∃ p,v=.ref p/\H p=none/\∀ xs x,ZL K H l xs->xs[i]?=some x->H'=upd H p (.tup [.int i,x]),
   fun i H=>∃ xs,ZL K H l xs/\xs.length<=i⟩
def wu {h:Heap}{a b:Addr}{o u:Obj}(ha:h.get? a=some o)(hb:h.get? b=some u)(hc:o.cls≠u.cls):a≠b:=fun e=>by
 subst e
 rw[ha]at hb
 cases hb
 exact hc rfl
def znr {P:Program}{w:World}{K:PySem.W.Frag}{es:List Expr}{kk:Nat}{pos:Pos}{e it l:Addr}(hne:e≠it) :
  Turn P w K (.Tuple es kk pos) (CQ K l) [e,it] e (fun i h=>(∃ old,IsEnum h e it i old)/\h.IsTupleIter it l i) where
 mem:=by simp
 obj:=fun i h st b hb=>by
  obtain⟨⟨old,he⟩,⟨o1,h1,_,h1d⟩⟩:=st
  simp only[qh,qF,or_false]at hb
  rcases hb with rfl|rfl
  ·exact⟨_,he,fun v q=>by cases(show Data.fields _=Data.cell v from q)⟩
  ·exact⟨_,h1,fun v q=>by rw[h1d]at q;cases q⟩
 keep:=fun i h h' st k=>by
  obtain⟨⟨old,he⟩,⟨o,ho,r⟩⟩:=st
  exact⟨⟨old,k e (by simp) _ he⟩,⟨o,k it (by simp) o ho,r⟩⟩
 item:=by
  intro X hP hw hK hc i Z9 s U H E I hf st hg
  subst hP hw hK
  obtain⟨⟨old,he⟩,h1⟩:=st
  obtain⟨xs,x,hx1,hx⟩:=hg
  obtain⟨its,rx,px,zx⟩:=I.tuple hx1
  obtain⟨u,hu,ru⟩:=Vals.get rx hx
  have pt:s.heap.IsTuple l its.toArray:=px
  obtain⟨oi,ei,ci,_⟩:=id h1
  obtain⟨ol,el,cl,_⟩:=id pt
  have n1:l≠it:=wu el ei (by rw[cl,ci];decide)
  have n2:e≠l:=wu he el (by rw[cl];show Value.type "enumerate"≠Value.type "tuple";decide)
  have hlt:i<its.toArray.size:=by
   have:=(qQ.mp hu).1
   simpa using this
  refine wpAny_pyNext_enum_itemD (zu3 (A:=X.A.in1) (show X.A.in1.handled=none from I.ok.hd hc) it l n1 its.toArray) he ⟨h1,pt⟩ hlt hne (by simp[hne,n2]) fun u' h' tk hP a1 a2 a3 a4 hk=>?_
  have eu:u'=u:=by
   have hP':its.toArray[i]?=some u':=hP
   rw[K4,hu]at hP'
   cases hP';rfl
  subst eu
  refine⟨_,rfl,wpAny_letOwnedTupleGo_enum (s:={ s with heap:=h',toks:=tk+1 }) a1 fun h'' he'' hs''=>?_⟩
  have lt:∀ {c o},s.heap.get? c=some o->s.heap.objs.size≠c:=fun q=>Vn (qr q)
  have k2:∀ b u,b∉[e,it]->s.heap.get? b=some u->h''.get? b=some u:=fun b u hb q=>by
   simp only[qh,qF,or_false,not_or]at hb
   exact hs''.extBut b u hb.1 (hk b u hb.1 hb.2 q)
  have new:h''.get? s.heap.objs.size=some { cls:=.type "tuple",data:=.seq #[.int i tk,u'] }:=hs''.extBut _ _ (lt he) a3
  refine⟨.ref s.heap.objs.size,upd H s.heap.objs.size (.tup [.int i,x]),I.turnNew (t':=tk+1) hf k2 (qg _) ⟨by show 2<=sizeLine;decide,[.int i tk,u'],.cons ⟨_,rfl⟩ (.cons ru .nil),_,new,rfl,_,rfl⟩,rfl,⟨_,rfl,I.fresh,?_⟩,?_,fun b hb=>?_⟩
  ·intro xs' x' hx1' hx'
   cases I.tuple_inj hx1 hx1'
   rw[hx]at hx'
   cases hx'
   rfl
  ·exact⟨⟨_,he''⟩,a2.1.extBut hs''.extBut (Ne.symm hne)⟩
  ·have:∃ o,s.heap.get? b=some o:=by
    simp only[qh,qF,or_false]at hb
    rcases hb with rfl|rfl
    ·exact⟨_,he⟩
    ·exact⟨_,ei⟩
   obtain⟨o,q⟩:=this
   rw[zO (lt q).symm]
   exact(hf b hb).1
 done:=by
  intro X hP hw hK hc i Z9 s U H E I hf st hg
  subst hP hw hK
  obtain⟨⟨old,he⟩,h1⟩:=st
  obtain⟨xs,hx1,hl⟩:=hg
  obtain⟨its,rx,px,zx⟩:=I.tuple hx1
  have n1:=rx.length
  have pt:s.heap.IsTuple l its.toArray:=px
  have hnone:its.toArray[i]?=none:=by rw[K4];exact qv (by lia)
  refine wpAny_pyNext_enum_endD (zvT (A:=X.A.in1) (show X.A.in1.handled=none from I.ok.hd hc) it l its.toArray i hnone) he ⟨h1,pt⟩ fun h' hk=>⟨rfl,I.turnedL (t':=s.toks) hf fun b u hb q=>?_⟩
  simp only[qh,qF,or_false,not_or]at hb
  exact hk b u hb.2 q
 self:=fun _ _ _ _ _ st h=>by
  obtain⟨⟨old,he⟩,_⟩:=st
  exact wpAny_pyIter_enum he h
section
variable {X:Cx}
def zuE (K:PySem.W.Frag)(ta:TA):TI:=fun U H R=>ta U H fun vs H1=>∃ l,vs=[.ref l]/\(((∃ xs,Zq K H1 l xs)/\R (Ite K l) H1)\/((∃ xs,ZL K H1 l xs)/\R (CQ K l) H1))
def zry {es:List Expr}{kk:Nat}{tpos:Pos}{a:Expr}{ta:TA}{p pos:Pos}(hg:Gl X "enumerate")(hm:X.mg "enumerate"=none)(ha:PA X [a] ta)(hs:starEach [a] X.env=[(false,eval a X.env)]:=by rfl) :
    PI X (.Tuple es kk tpos) (.Call (.Name "enumerate" p) [a] [] pos) (zuE X.K ta):=by
  intro Z9 s U H R I h
  refine Call_ (U5 I hg hm boot_enumerate (PyProof.Rows.callWith_type1 (Z0 (ha pos Z9 s U H _ I h) fun us s1 ⟨vs,H1,I1,r1,q1⟩=>?_) hs rfl))
  obtain⟨l,e,q⟩:=q1
  subst e
  obtain⟨u,rfl,ru⟩:=vals1 r1
  cases ru
  rcases q with⟨⟨xs,hx⟩,q⟩|⟨⟨xs,hx⟩,q⟩
  . obtain⟨its,rx,px,zx⟩:=I1.list hx
    refine call_enumerate_list px.isList fun h' he hit hsz hk=>?_
    have I2:Inv X Z9 U H1 { s1 with heap:=h' }:=I1.kept (t':=s1.toks) hk
    refine wpAny_pyIter_enum (s:={ s1 with heap:=h' }) he ?_
    refine⟨_,_,_,_,H1,rfl,I2,gw (Vn (LQ _)),⟨⟨_,he⟩,hit⟩,fun b hb=>?_,q⟩
    have hb':s1.heap.objs.size<=b:=by
      simp only[qh,qF,or_false]at hb
      rcases hb with rfl|rfl<;>first|exact NZ _ _|exact qg _
    exact I1.fpOk hb' (I1.hok.fresh hb')
  . obtain⟨its,rx,px,zx⟩:=I1.tuple hx
    have pt:s1.heap.IsTuple l its.toArray:=px
    refine zxn pt fun h' he hit hsz hk=>?_
    have I2:Inv X Z9 U H1 { s1 with heap:=h' }:=I1.kept (t':=s1.toks) hk
    refine wpAny_pyIter_enum (s:={ s1 with heap:=h' }) he ?_
    refine⟨_,_,_,_,H1,rfl,I2,znr (Vn (LQ _)),⟨⟨_,he⟩,hit⟩,fun b hb=>?_,q⟩
    have hb':s1.heap.objs.size<=b:=by
      simp only[qh,qF,or_false]at hb
      rcases hb with rfl|rfl<;>first|exact NZ _ _|exact qg _
    exact I1.fpOk hb' (I1.hok.fresh hb')
end
def Yv:Bool->Heap->Addr->Addr->Nat->Prop
 |true,h,it,l,k=>h.IsListIter it l k
 |false,h,it,l,k=>h.IsTupleIter it l k
def Xw:Bool->Heap->Addr->Array Value->Prop
 |true,h,l,xs=>h.IsList l xs
 |false,h,l,xs=>h.IsTuple l xs
def Yv.grow {b:Bool}{h h':Heap}{c it l:Addr}{k:Nat}(x:Yv b h it l k)(e:Heap.ExtBut c h h')(n:it≠c):Yv b h' it l k:=by
 cases b
 ·exact Heap.IsTupleIter.extBut (show h.IsTupleIter it l k from x) e n
 ·exact Heap.IsListIter.extBut (show h.IsListIter it l k from x) e n
def Xw.grow {b:Bool}{h h':Heap}{c l:Addr}{xs:Array Value}(x:Xw b h l xs)(e:Heap.ExtBut c h h')(n:l≠c):Xw b h' l xs:=by
 cases b
 ·exact Heap.IsTuple.extBut (show h.IsTuple l xs from x) e n
 ·exact Heap.IsList.extBut (show h.IsList l xs from x) e n
def Yv.obj {b:Bool}{h:Heap}{it l:Addr}{k:Nat}(x:Yv b h it l k):∃ o,h.get? it=some o/\(o.cls=.type "list_iterator"\/o.cls=.type "tuple_iterator")/\∃ vs,o.data=.fields vs:=by
 cases b
 ·obtain⟨o,ho,hc,hd⟩:h.IsTupleIter it l k:=x
  exact⟨o,ho,.inr hc,_,hd⟩
 ·obtain⟨o,ho,hc,hd⟩:h.IsListIter it l k:=x
  exact⟨o,ho,.inl hc,_,hd⟩
def Yv.at {b:Bool}{h h':Heap}{it l:Addr}{k:Nat}(x:Yv b h it l k)(e:∀ o,h.get? it=some o->h'.get? it=some o):Yv b h' it l k:=by
 cases b
 ·obtain⟨o,ho,hc,hd⟩:h.IsTupleIter it l k:=x
  exact(⟨o,e o ho,hc,hd⟩:h'.IsTupleIter it l k)
 ·obtain⟨o,ho,hc,hd⟩:h.IsListIter it l k:=x
  exact(⟨o,e o ho,hc,hd⟩:h'.IsListIter it l k)
def Xw.lt {b:Bool}{h:Heap}{l:Addr}{xs:Array Value}(x:Xw b h l xs):l<h.objs.size:=by
 cases b
 ·obtain⟨o,ho,_⟩:h.IsTuple l xs:=x
  exact qr ho
 ·obtain⟨o,ho,_⟩:h.IsList l xs:=x
  exact qr ho
section
variable {prog:Program}{w:World}{A:Around}{E:Value->Shared->Prop}{s:Shared}
def Fz {b:Bool}{it t:Addr}{i:Nat}{items:Array Value}{x:Value}{Q:Value->Shared->Prop}(hit:Yv b s.heap it t i)(ht:Xw b s.heap t items)(hx:items[i]?=some x)
  (hQ:∀ h',Yv b h' it t (i+1)->Heap.SameBut it s.heap h'->Q x { s with heap:=h' }):wpAny (model prog w) A (Builtin.SmallTypes.nextOf (.ref it)) Q E s:=by
 cases b
 ·exact nF hit ht hx hQ
 ·exact wpAny_nextOf_list_item hit ht hx hQ
def yC {b:Bool}{it t:Addr}{i:Nat}{items:Array Value}{Q:Value->Shared->Prop}(hh:A.handled=none)(hit:Yv b s.heap it t i)(ht:Xw b s.heap t items)(hx:items[i]?=none)
  (hE:∀ h' e,Heap.ExtBut it s.heap h'->(∃ o,h'.get? e=some o/\o.cls=.type "StopIteration")->E (.ref e) { s with heap:=h' }):wpAny (model prog w) A (Builtin.SmallTypes.nextOf (.ref it)) Q E s:=by
 cases b
 ·exact FT hh hit ht hx hE
 ·exact wpAny_nextOf_list_end hh hit ht hx hE
def znQ {b1 b2:Bool}{z TI TO i1 i2 l1 l2:Addr}{k:Nat}{xs ys:Array Value}{x y a b:Value}{Q:Option Value->Shared->Prop}(D:ZipApart z TI TO i1 i2 l1 l2)
  (hz:IsZip s.heap z TI TO .none) (hTI:IsPair s.heap TI (.ref i1) (.ref i2)) (hTO:IsPair s.heap TO a b) (h1:Yv b1 s.heap i1 l1 k) (h2:Yv b2 s.heap i2 l2 k) (hl1:Xw b1 s.heap l1 xs) (hl2:Xw b2 s.heap l2 ys) (hx:xs[k]?=some x) (hy:ys[k]?=some y)
  (hQ:∀ h',IsZip h' z TI TO (rawInt s.heap.objs.size)->IsPair h' TO x y->Yv b1 h' i1 l1 (k+1)->Yv b2 h' i2 l2 (k+1)->IsPair h' s.heap.objs.size x y ->
   (∀ c o,c≠z->c≠TO->c≠i1->c≠i2->s.heap.get? c=some o->h'.get? c=some o)->Q (some (.ref s.heap.objs.size)) { s with heap:=h' }):wpAny (model prog w) A (pyNext (.ref z)) Q E s:=by
 have hT:s.TypeIs (.ref z) "zip":=⟨_,hz,rfl⟩
 unfold pyNext
 refine wpAny_bind (wpAny_attempt (wpAny_callSpecial?_slot (name:=Str.ofString "__next__") hT F.slot_zip_next (wpAny_call_entry F.slot_zip_next hT F.entry_zip_next ?_ (F.args_zip_next_1 _))))
 show wpAny _ _ (field (.ref z) 2 >>= _) _ _ _
 refine wpAny_bind (wpAny_field hz rfl (x:=.bool false) rfl ?_);show wpAny _ _ (field (.ref z) 3 >>= _) _ _ _
 refine wpAny_bind (wpAny_field hz rfl (x:=.ref TI) rfl (wpAny_bind (wpAny_seqItems hTI rfl ?_)));show wpAny _ _ (Builtin.SmallTypes.ownedTupleIsFree (.ref z) >>= _) _ _ _
 refine wpAny_bind ?_;unfold Builtin.SmallTypes.ownedTupleIsFree
 refine wpAny_bind (wpAny_field hz rfl (x:=.none) rfl (wpAny_pure ?_));simp only[if_true]
 refine wpAny_bind (wpAny_rule (wpAny_bind (wpAny_field hz rfl (x:=.ref TO) rfl (wpAny_bind (wpAny_setField_rec hz (by simp) fun g1 z1 e1=>?_)))))
 replace z1:IsZip g1 z TI TO .ellipsis:=z1
 refine wpAny_bind ?_;simp only[List.zipIdx_cons,List.zipIdx_nil,List.forIn_cons,List.forIn_nil]
 refine wpAny_bind (wpAny_bind (wpAny_onRaise ?_));show wpAny _ _ (Builtin.SmallTypes.nextOf (.ref i1) >>= _) _ _ _
 refine wpAny_bind (Fz (h1.grow e1.extBut D.i1z) (hl1.grow e1.extBut D.l1z) hx fun g2 t1 e2=>wpAny_pure ?_)
 have p2:IsPair g2 TO a b:=e2.extBut _ _ D.TOi1 (e1.extBut _ _ D.TOz hTO)
 refine wpAny_bind (wpAny_seqItems p2 rfl (wpAny_bind (wpAny_updateSeq_pair p2 fun g3 p3 e3=>wpAny_bind (wpAny_letGo (wpAny_pure ?_)))))
 replace p3:IsPair g3 TO x b:=p3
 refine wpAny_bind (wpAny_bind (wpAny_onRaise ?_));show wpAny _ _ (Builtin.SmallTypes.nextOf (.ref i2) >>= _) _ _ _
 refine wpAny_bind (Fz (((h2.grow e1.extBut D.i2z).grow e2.extBut D.i12.symm).grow e3.extBut D.TOi2.symm) (((hl2.grow e1.extBut D.l2z).grow e2.extBut D.l2i1).grow e3.extBut D.l2TO) hy fun g4 t2 e4=>wpAny_pure ?_)
 have p4:IsPair g4 TO x b:=e4.extBut _ _ D.TOi2 p3
 refine wpAny_bind (wpAny_seqItems p4 rfl (wpAny_bind (wpAny_updateSeq_pair p4 fun g5 p5 e5=>wpAny_bind (wpAny_letGo (wpAny_pure (wpAny_pure ?_))))))
 replace p5:IsPair g5 TO x y:=p5
 refine wpAny_bind (wpAny_seqItems p5 rfl (wpAny_bind (wpAny_newTuple ?_)))
 have sz:g5.objs.size=s.heap.objs.size:=by rw[e5.1,e4.1,e3.1,e2.1,e1.1]
 have z5:IsZip g5 z TI TO .ellipsis:=e5.extBut _ _ D.TOz.symm (e4.extBut _ _ D.i2z.symm (e3.extBut _ _ D.TOz.symm (e2.extBut _ _ D.i1z.symm z1)))
 have k5:∀ c o,c≠z->c≠TO->c≠i1->c≠i2->s.heap.get? c=some o->g5.get? c=some o:=fun c o c1 c2 c3 c4 e=>e5.extBut _ _ c2 (e4.extBut _ _ c4 (e3.extBut _ _ c2 (e2.extBut _ _ c3 (e1.extBut _ _ c1 e))))
 have u1:Yv b1 g5 i1 l1 (k+1):=((t1.grow e3.extBut D.TOi1.symm).grow e4.extBut D.i12).grow e5.extBut D.TOi1.symm
 have u2:Yv b2 g5 i2 l2 (k+1):=t2.grow e5.extBut D.TOi2.symm
 have zl:z<g5.objs.size:=qr z5
 show wpAny _ _ (Builtin.SmallTypes.ownedTupleHandOut (.ref z) (.ref g5.objs.size) >>= _) _ _ _
 refine wpAny_bind ?_;unfold Builtin.SmallTypes.ownedTupleHandOut
 have z6:IsZip (g5.push { cls:=.type "tuple",data:=.seq #[x,y] }) z TI TO .ellipsis:=qd _ z5
 refine wpAny_bind (wpAny_setField_rec z6 (by simp) fun g7 z7 e7=>?_)
 replace z7:IsZip g7 z TI TO (rawInt g5.objs.size):=z7
 refine wpAny_setField_rec z7 (by simp) fun g8 z8 e8=>?_
 replace z8:IsZip g8 z TI TO (rawInt g5.objs.size):=z8
 have up:∀ c o,c≠z->g5.get? c=some o->g8.get? c=some o:=fun c o c1 e=>e8.extBut _ _ c1 (e7.extBut _ _ c1 (qd _ e))
 have t8:IsPair g8 g5.objs.size x y:=e8.extBut _ _ (Vn zl) (e7.extBut _ _ (Vn zl) (qq _ rfl))
 rw[sz]at z8 t8
 refine wpAny_pure ⟨_,rfl,wpAny_pure ?_⟩
 show Q (some (.ref g5.objs.size)) _
 rw[sz]
 exact hQ g8 z8 (up _ _ D.TOz p5) (u1.at fun o e=>up _ o D.i1z e) (u2.at fun o e=>up _ o D.i2z e) t8 fun c o c1 c2 c3 c4 e=>up c o c1 (k5 c o c1 c2 c3 c4 e)
def zp3 {b1 b2:Bool}{z TI TO i1 i2 l1 l2:Addr}{k:Nat}{xs ys:Array Value}{a b:Value}{Q:Option Value->Shared->Prop}(hh:A.handled=none)(D:ZipApart z TI TO i1 i2 l1 l2)
  (hz:IsZip s.heap z TI TO .none) (hTI:IsPair s.heap TI (.ref i1) (.ref i2)) (hTO:IsPair s.heap TO a b) (h1:Yv b1 s.heap i1 l1 k) (h2:Yv b2 s.heap i2 l2 k) (hl1:Xw b1 s.heap l1 xs) (hl2:Xw b2 s.heap l2 ys) (hend:xs[k]?=none\/ys[k]?=none)
  (hQ:∀ h',(∀ c o,c≠z->c≠TO->c≠i1->c≠i2->s.heap.get? c=some o->h'.get? c=some o)->Q none { s with heap:=h' }):wpAny (model prog w) A (pyNext (.ref z)) Q E s:=by
 have hT:s.TypeIs (.ref z) "zip":=⟨_,hz,rfl⟩
 unfold pyNext
 refine wpAny_bind (wpAny_attempt (wpAny_callSpecial?_slot (name:=Str.ofString "__next__") hT F.slot_zip_next (wpAny_call_entry F.slot_zip_next hT F.entry_zip_next ?_ (F.args_zip_next_1 _))))
 have out:∀ h' e,(∀ c o,c≠z->c≠TO->c≠i1->c≠i2->s.heap.get? c=some o->h'.get? c=some o)->(∃ o,h'.get? e=some o/\o.cls=.type "StopIteration") ->
   wpAny (model prog w) A ((isInstance (.ref e) (.type "StopIteration")) >>= fun b=>if b=true then pure none else throw (.ref e)) Q E { s with heap:=h' }:=fun h' e hk he=>by
  obtain⟨o,ho,hc⟩:=he
  exact wpAny_bind (wpAny_isInstance (T:="StopIteration") (b:=true) ⟨o,ho,hc⟩ isSubtype_stop (wpAny_pure (hQ _ hk)))
 show wpAny _ _ (field (.ref z) 2 >>= _) _ _ _
 refine wpAny_bind (wpAny_field hz rfl (x:=.bool false) rfl ?_);show wpAny _ _ (field (.ref z) 3 >>= _) _ _ _
 refine wpAny_bind (wpAny_field hz rfl (x:=.ref TI) rfl (wpAny_bind (wpAny_seqItems hTI rfl ?_)));show wpAny _ _ (Builtin.SmallTypes.ownedTupleIsFree (.ref z) >>= _) _ _ _
 refine wpAny_bind ?_;unfold Builtin.SmallTypes.ownedTupleIsFree
 refine wpAny_bind (wpAny_field hz rfl (x:=.none) rfl (wpAny_pure ?_));simp only[if_true]
 refine wpAny_bind (wpAny_rule (wpAny_bind (wpAny_field hz rfl (x:=.ref TO) rfl (wpAny_bind (wpAny_setField_rec hz (by simp) fun g1 z1 e1=>?_)))))
 replace z1:IsZip g1 z TI TO .ellipsis:=z1
 refine wpAny_bind ?_;simp only[List.zipIdx_cons,List.zipIdx_nil,List.forIn_cons,List.forIn_nil]
 refine wpAny_bind (wpAny_bind (wpAny_onRaise ?_));show wpAny _ _ (Builtin.SmallTypes.nextOf (.ref i1) >>= _) _ _ _
 cases hx:xs[k]? with
 |none =>
  refine wpAny_bind (yC hh (h1.grow e1.extBut D.i1z) (hl1.grow e1.extBut D.l1z) hx fun g2 e e2 ⟨oe,hoe,hce⟩=>?_)
  have z2:IsZip g2 z TI TO .ellipsis:=e2 _ _ D.i1z.symm z1
  have ne:e≠z:=fun q=>by subst q;rw[z2]at hoe;cases hoe;simp at hce
  exact wpAny_setField_rec z2 (by simp) fun g3 _ e3=>out g3 e (fun c o c1 _ c3 _ q=>e3.extBut _ _ c1 (e2 _ _ c3 (e1.extBut _ _ c1 q))) ⟨oe,e3.extBut _ _ ne hoe,hce⟩
 |some x =>
  have hy:ys[k]?=none:=by rcases hend with h|h;rw[hx]at h;cases h;exact h
  refine wpAny_bind (Fz (h1.grow e1.extBut D.i1z) (hl1.grow e1.extBut D.l1z) hx fun g2 t1 e2=>wpAny_pure ?_)
  have p2:IsPair g2 TO a b:=e2.extBut _ _ D.TOi1 (e1.extBut _ _ D.TOz hTO)
  refine wpAny_bind (wpAny_seqItems p2 rfl (wpAny_bind (wpAny_updateSeq_pair p2 fun g3 p3 e3=>wpAny_bind (wpAny_letGo (wpAny_pure ?_)))))
  refine wpAny_bind (wpAny_bind (wpAny_onRaise ?_));show wpAny _ _ (Builtin.SmallTypes.nextOf (.ref i2) >>= _) _ _ _
  refine wpAny_bind (yC hh (((h2.grow e1.extBut D.i2z).grow e2.extBut D.i12.symm).grow e3.extBut D.TOi2.symm) (((hl2.grow e1.extBut D.l2z).grow e2.extBut D.l2i1).grow e3.extBut D.l2TO) hy fun g4 e e4 ⟨oe,hoe,hce⟩=>?_)
  have z4:IsZip g4 z TI TO .ellipsis:=e4 _ _ D.i2z.symm (e3.extBut _ _ D.TOz.symm (e2.extBut _ _ D.i1z.symm z1))
  have ne:e≠z:=fun q=>by subst q;rw[z4]at hoe;cases hoe;simp at hce
  exact wpAny_setField_rec z4 (by simp) fun g5 _ e5=>out g5 e (fun c o c1 c2 c3 c4 q=>e5.extBut _ _ c1 (e4 _ _ c4 (e3.extBut _ _ c2 (e2.extBut _ _ c3 (e1.extBut _ _ c1 q))))) ⟨oe,e5.extBut _ _ ne hoe,hce⟩
end
abbrev tH (b:Bool):String:=if b=true then "list_iterator" else "tuple_iterator"
abbrev N7 (b:Bool)(h:Heap)(l:Addr):Heap:=h.push { cls:=.type (tH b),data:=.fields #[.ref l,.int 0 0] }
abbrev Lp (b1 b2:Bool)(h:Heap)(l1 l2:Addr):Heap:=N7 b2 (N7 b1 h l1) l2
abbrev LC (b1 b2:Bool)(h:Heap)(l1 l2:Addr):Heap:=(Lp b1 b2 h l1 l2).push { cls:=.type "tuple",data:=.seq #[.ref h.objs.size,.ref (N7 b1 h l1).objs.size] }
abbrev GF (b1 b2:Bool)(h:Heap)(l1 l2:Addr):Heap:=(LC b1 b2 h l1 l2).push { cls:=.type "tuple",data:=.seq #[.none,.none] }
abbrev S8 (b1 b2:Bool)(h:Heap)(l1 l2:Addr):Heap:=(GF b1 b2 h l1 l2).push { cls:=.type "zip",data:=.fields #[.none,.bool false,.bool false,.ref (Lp b1 b2 h l1 l2).objs.size,.ref (LC b1 b2 h l1 l2).objs.size] }
theorem Xw.push {b:Bool}{h:Heap}{l:Addr}{xs:Array Value}(x:Xw b h l xs)(o:Obj):Xw b (h.push o) l xs:=by
 cases b
 ·obtain⟨u,hu,r⟩:h.IsTuple l xs:=x
  exact(⟨u,qd _ hu,r⟩:(h.push o).IsTuple l xs)
 ·obtain⟨u,hu,r⟩:h.IsList l xs:=x
  exact(⟨u,qd _ hu,r⟩:(h.push o).IsList l xs)
def zyW (b:Bool)(l1 l2:Addr)(xs ys:Array Value) :
  Meets (Builtin.«zip.__new__» ⟨[.type "zip",.ref l1,.ref l2],[]⟩) (fun _ R s=>Xw b s.heap l1 xs/\Xw b s.heap l2 ys/\R (.ok (.ret (.ref (GF b b s.heap l1 l2).objs.size))) { s with heap:=S8 b b s.heap l1 l2 }):=by
 cases b
 ·exact .of_wp fun prog w A R s h=>by
   obtain⟨hp,g,d,tk,os⟩:=s
   obtain⟨h1,h2,h⟩:=h
   have hsub:=sub_zip
   have q1:Heap.IsTuple (Shared.heap ⟨hp,g,d,tk,os⟩) l1 xs:=h1
   have q2:Heap.IsTuple (Shared.heap ⟨hp.push { cls:=.type "tuple_iterator",data:=.fields #[.ref l1,.int 0 0] },g,d,tk,os⟩) l2 ys:=Xw.push (b:=false) h2 _
   wp_walk using wpAny_pyIter_tuple q1,wpAny_pyIter_tuple q2
   exact⟨_,rfl,h⟩
 ·exact meets_zip_new l1 l2 xs ys
def mV {b:Bool}{h:Heap}{it l:Addr}(e:h.get? it=some { cls:=.type (tH b),data:=.fields #[.ref l,.int 0 0] }):Yv b h it l 0:=by
 cases b
 ·exact(⟨_,e,rfl,rfl⟩:h.IsTupleIter it l 0)
 ·exact(⟨_,e,rfl,rfl⟩:h.IsListIter it l 0)
section
variable {prog:Program}{w:World}{A:Around}{E:Value->Shared->Prop}{s:Shared}
def zw9 {b:Bool}{l1 l2:Addr}{xs ys:Array Value}{Q:Value->Shared->Prop}(hl1:Xw b s.heap l1 xs)(hl2:Xw b s.heap l2 ys)
  (h:∀ h',IsZip h' (s.heap.objs.size+4) (s.heap.objs.size+2) (s.heap.objs.size+3) .none->IsPair h' (s.heap.objs.size+2) (.ref s.heap.objs.size) (.ref (s.heap.objs.size+1))->IsPair h' (s.heap.objs.size+3) .none .none->Yv b h' s.heap.objs.size l1 0->Yv b h' (s.heap.objs.size+1) l2 0 ->
   (∀ c o,s.heap.get? c=some o->h'.get? c=some o)->Q (.ref (s.heap.objs.size+4)) { s with heap:=h' }):wpAny (model prog w) A (call (.type "zip") [.ref l1,.ref l2]) Q E s:=by
 refine callType_new F.called_zip (by decide) (F.typeCall_zip_2 _ _) (F.newCall_zip_2 _ _) (fun obj=>F.args_object_init_3 obj _ _) F.entry_zip_new (zyW b l1 l2 xs ys) ⟨hl1,hl2,?_⟩
 have s1:(N7 b s.heap l1).objs.size=s.heap.objs.size+1:=Ww ..
 have s2:(Lp b b s.heap l1 l2).objs.size=s.heap.objs.size+2:=by rw[Ww,s1]
 have s3:(LC b b s.heap l1 l2).objs.size=s.heap.objs.size+3:=by rw[Ww,s2]
 have s4:(GF b b s.heap l1 l2).objs.size=s.heap.objs.size+4:=by rw[Ww,s3]
 have v1:(S8 b b s.heap l1 l2).get? s.heap.objs.size=some _:=(fun c o q=>qd _ (qd _ (qd _ (qd _ q))):∀ c o,(N7 b s.heap l1).get? c=some o->(S8 b b s.heap l1 l2).get? c=some o) _ _ (qq _ rfl)
 have v2:(S8 b b s.heap l1 l2).get? (N7 b s.heap l1).objs.size=some _:=(fun c o q=>qd _ (qd _ (qd _ q)):∀ c o,(Lp b b s.heap l1 l2).get? c=some o->(S8 b b s.heap l1 l2).get? c=some o) _ _ (qq _ rfl)
 have v3:(S8 b b s.heap l1 l2).get? (Lp b b s.heap l1 l2).objs.size=some _:=(fun c o q=>qd _ (qd _ q):∀ c o,(LC b b s.heap l1 l2).get? c=some o->(S8 b b s.heap l1 l2).get? c=some o) _ _ (qq _ rfl)
 have v4:(S8 b b s.heap l1 l2).get? (LC b b s.heap l1 l2).objs.size=some _:=qd _ (qq _ rfl)
 have v5:(S8 b b s.heap l1 l2).get? (GF b b s.heap l1 l2).objs.size=some _:=qq _ rfl
 show _/\_
 rw[s2,s3,s4]at v5
 rw[s1,s2]at v3
 rw[s3]at v4
 rw[s1]at v2
 rw[s4]
 exact⟨⟨_,v5,rfl⟩,h _ v5 v3 v4 (mV v1) (mV v2) fun c o x=>qd _ (qd _ (qd _ (qd _ (qd _ x))))⟩
end
def Wg (K:PySem.W.Frag)(b:Bool)(H:Hp)(l:Addr)(xs:List V):Prop:=match b with
 |true=>Zq K H l xs
 |false=>ZL K H l xs
def Wg.items {X:Cx}{Z9:List (Addr×Obj)}{U:L2.St}{H:Hp}{s:Shared}{b:Bool}{l:Addr}{xs:List V}(I:Inv X Z9 U H s)(h:Wg X.K b H l xs):∃ its:List Value,Vals xs its/\Xw b s.heap l its.toArray:=by
 cases b
 ·obtain⟨its,r,p,_⟩:=I.tuple (show ZL X.K H l xs from h)
  exact⟨its,r,p⟩
 ·obtain⟨its,r,p,_⟩:=I.list (show Zq X.K H l xs from h)
  exact⟨its,r,p.isList⟩
def Wg.inj {X:Cx}{Z9:List (Addr×Obj)}{U:L2.St}{H:Hp}{s:Shared}{b:Bool}{l:Addr}{xs ys:List V}(I:Inv X Z9 U H s)(h:Wg X.K b H l xs)(h':Wg X.K b H l ys):xs=ys:=by
 cases b
 ·exact I.tuple_inj (show ZL X.K H l xs from h) h'
 ·exact I.list_inj (show Zq X.K H l xs from h) h'
def Gq (K:PySem.W.Frag)(b1 b2:Bool)(l1 l2:Addr):It :=
  ⟨fun i H=>∃ xs ys x y,Wg K b1 H l1 xs/\Wg K b2 H l2 ys/\xs[i]?=some x/\ys[i]?=some y,
   fun i H v H'=>∃ p,v=.ref p/\H p=none/\∀ xs ys x y,Wg K b1 H l1 xs->Wg K b2 H l2 ys->xs[i]?=some x->ys[i]?=some y->H'=upd H p (.tup [x,y]),
   fun i H=>∃ xs ys,Wg K b1 H l1 xs/\Wg K b2 H l2 ys/\(xs.length<=i\/ys.length<=i)⟩
def zpW {P:Program}{w:World}{K:PySem.W.Frag}{es:List Expr}{kk:Nat}{pos:Pos}{b1 b2:Bool}{z TI TO i1 i2 l1 l2:Addr}(D:ZipApart z TI TO i1 i2 l1 l2) :
  Turn P w K (.Tuple es kk pos) (Gq K b1 b2 l1 l2) [z,TI,TO,i1,i2] z (fun i h=>IsZip h z TI TO .none/\IsPair h TI (.ref i1) (.ref i2)/\(∃ a b,IsPair h TO a b)/\Yv b1 h i1 l1 i/\Yv b2 h i2 l2 i) where
 mem:=by simp
 obj:=fun i h st b hb=>by
  obtain⟨hz,hTI,⟨a,c,hTO⟩,q1,q2⟩:=st
  obtain⟨o1,g1,_,_,d1⟩:=q1.obj
  obtain⟨o2,g2,_,_,d2⟩:=q2.obj
  simp only[qh,qF,or_false]at hb
  rcases hb with rfl|rfl|rfl|rfl|rfl
  ·exact⟨_,hz,fun v q=>by cases(show Data.fields _=Data.cell v from q)⟩
  ·exact⟨_,hTI,fun v q=>by cases(show Data.seq _ _=Data.cell v from q)⟩
  ·exact⟨_,hTO,fun v q=>by cases(show Data.seq _ _=Data.cell v from q)⟩
  ·exact⟨_,g1,fun v q=>by rw[d1]at q;cases q⟩
  ·exact⟨_,g2,fun v q=>by rw[d2]at q;cases q⟩
 keep:=fun i h h' st k=>by
  obtain⟨hz,hTI,⟨a,c,hTO⟩,q1,q2⟩:=st
  exact⟨k z (by simp) _ hz,k TI (by simp) _ hTI,⟨a,c,k TO (by simp) _ hTO⟩,q1.at fun o e=>k i1 (by simp) o e,q2.at fun o e=>k i2 (by simp) o e⟩
 item:=by
  intro X hP hw hK hc i Z9 s U H E I hf st hg
  subst hP hw hK
  obtain⟨hz,hTI,⟨a,c,hTO⟩,q1,q2⟩:=st
  obtain⟨xs,ys,x,y,hx1,hy1,hx,hy⟩:=hg
  obtain⟨its,rx,px⟩:=hx1.items I
  obtain⟨jts,ry,py⟩:=hy1.items I
  obtain⟨u,hu,ru⟩:=Vals.get rx hx
  obtain⟨v,hv,rv⟩:=Vals.get ry hy
  refine znQ D hz hTI hTO q1 q2 px py (by simpa using hu) (by simpa using hv) fun h' a1 a2 a3 a4 a5 hk=>?_
  refine⟨_,rfl,wpAny_letOwnedTupleGo_zip a1 fun h'' hz'' hs''=>?_⟩
  have lt:∀ {c o},s.heap.get? c=some o->s.heap.objs.size≠c:=fun e=>Vn (qr e)
  have k2:∀ b u,b∉[z,TI,TO,i1,i2]->s.heap.get? b=some u->h''.get? b=some u:=fun b u hb e=>by
   simp only[qh,qF,or_false,not_or]at hb
   exact hs''.extBut b u hb.1 (hk b u hb.1 hb.2.2.1 hb.2.2.2.1 hb.2.2.2.2 e)
  have new:h''.get? s.heap.objs.size=some { cls:=.type "tuple",data:=.seq #[u,v] }:=hs''.extBut _ _ (lt hz) a5
  refine⟨.ref s.heap.objs.size,upd H s.heap.objs.size (.tup [x,y]),I.turnNew (t':=s.toks) hf k2 (qg _) ⟨by show 2<=sizeLine;decide,[u,v],.cons ru (.cons rv .nil),_,new,rfl,_,rfl⟩,rfl,⟨_,rfl,I.fresh,?_⟩,?_,fun b hb=>?_⟩
  ·intro xs' ys' x' y' hx1' hy1' hx' hy'
   cases hx1.inj I hx1'
   cases hy1.inj I hy1'
   rw[hx]at hx';rw[hy]at hy'
   cases hx';cases hy'
   rfl
  ·exact⟨hz'',hs''.extBut _ _ D.TIz (hk _ _ D.TIz D.TITO D.TIi1 D.TIi2 hTI),⟨_,_,hs''.extBut _ _ D.TOz a2⟩,a3.grow hs''.extBut D.i1z,a4.grow hs''.extBut D.i2z⟩
  ·have:∃ o,s.heap.get? b=some o:=by
    simp only[qh,qF,or_false]at hb
    obtain⟨o1,e1,_⟩:=q1.obj
    obtain⟨o2,e2,_⟩:=q2.obj
    rcases hb with rfl|rfl|rfl|rfl|rfl
    ·exact⟨_,hz⟩
    ·exact⟨_,hTI⟩
    ·exact⟨_,hTO⟩
    ·exact⟨_,e1⟩
    ·exact⟨_,e2⟩
   obtain⟨o,e⟩:=this
   rw[zO (lt e).symm]
   exact(hf b hb).1
 done:=by
  intro X hP hw hK hc i Z9 s U H E I hf st hg
  subst hP hw hK
  obtain⟨hz,hTI,⟨a,c,hTO⟩,q1,q2⟩:=st
  obtain⟨xs,ys,hx1,hy1,hl⟩:=hg
  obtain⟨its,rx,px⟩:=hx1.items I
  obtain⟨jts,ry,py⟩:=hy1.items I
  have n1:=rx.length
  have n2:=ry.length
  refine zp3 (I.ok.hd hc) D hz hTI hTO q1 q2 px py ?_ fun h' hk=>⟨rfl,I.turnedL (t':=s.toks) hf fun b u hb e=>?_⟩
  ·rcases hl with hl|hl
   ·exact .inl (by rw[K4];exact qv (by lia))
   ·exact .inr (by rw[K4];exact qv (by lia))
  ·simp only[qh,qF,or_false,not_or]at hb
   exact hk b u hb.1 hb.2.2.1 hb.2.2.2.1 hb.2.2.2.2 e
 self:=fun _ _ _ _ _ st h=>wpAny_pyIter_zip st.1 h
section
variable {X:Cx}
def zwY (K:PySem.W.Frag)(ta:TA):TI:=fun U H R=>ta U H fun vs H1=>∃ b l1 l2,vs=[.ref l1,.ref l2]/\(∃ xs,Wg K b H1 l1 xs)/\(∃ ys,Wg K b H1 l2 ys)/\R (Gq K b b l1 l2) H1
def zuu {es:List Expr}{kk:Nat}{tpos:Pos}{a b:Expr}{ta:TA}{p pos:Pos}(hg:Gl X "zip")(hm:X.mg "zip"=none)(ha:PA X [a,b] ta)(hs:starEach [a,b] X.env=[(false,eval a X.env),(false,eval b X.env)]:=by rfl)(hs2:starEach [b] X.env=[(false,eval b X.env)]:=by rfl) :
    PI X (.Tuple es kk tpos) (.Call (.Name "zip" p) [a,b] [] pos) (zwY X.K ta):=by
  intro Z9 s U H R I h
  refine Call_ (U5 I hg hm boot_zip (PyProof.Rows.callWith_type1 (Z0 (ha pos Z9 s U H _ I h) fun us s1 ⟨vs,H1,I1,r1,q1⟩=>?_) (by rw[hs,hs2]) (by rw[hs2];rfl)))
  obtain⟨b',l1,l2,e,⟨xs,hx⟩,⟨ys,hy⟩,q⟩:=q1
  subst e
  obtain⟨u,v,rfl,ru,rv⟩:=vals2 r1
  cases ru
  cases rv
  obtain⟨its,rx,px⟩:=hx.items I1
  obtain⟨jts,ry,py⟩:=hy.items I1
  refine zw9 px py fun h' hz hTI hTO h1 h2 hk=>?_
  have I2:Inv X Z9 U H1 { s1 with heap:=h' }:=I1.kept (t':=s1.toks) hk
  refine wpAny_pyIter_zip (s:={ s1 with heap:=h' }) hz ⟨_,_,_,_,H1,rfl,I2,zpW (PyProof.Rows.zipApart_new px.lt py.lt),⟨hz,hTI,⟨_,_,hTO⟩,h1,h2⟩,fun b hb=>?_,q⟩
  have hb':s1.heap.objs.size<=b:=by
    simp only[qh,qF,or_false]at hb
    rcases hb with rfl|rfl|rfl|rfl|rfl<;>first|exact NZ _ _|exact qg _
  exact I1.fpOk hb' (I1.hok.fresh hb')
end
section
def zyQ (l:Addr)(items:Array Value)(n:Nat)(b:Addr)(items2:Array Value)(n2:Nat)(dct:Option Addr)(sl:Array (Option Value))(hs0:¬(!items.isEmpty&&Builtin.List.listTooLong (items.size+items2.size))=true)(hs1:items.size<=sizeLine)(hs2:items.size+items2.size<=sizeLine+1) :
  Meets (Builtin.«list.extend» ⟨[.ref l,.ref b],[]⟩) (fun _ R s=>s.heap.get? l=some { cls:=.type "list",dict:=none,data:=.seq items n,slots:=#[] }/\s.heap.get? b=some { cls:=.type "tuple",dict:=dct,data:=.seq items2 n2,slots:=sl }/\R (.ok (.ret Value.none)) { s with heap:=s.heap.update l (Obj.mapSeq fun x=>x++items2),toks:=s.toks }) :=
 .of_wp fun prog w A R s h=>by
  obtain⟨hp,g,d,tk,os⟩:=s
  obtain⟨hl,hb,h⟩:=h
  have f1:=AutoSeq1.idx_int
  have f2:=AutoSeq1.sub_tuple_tuple
  have f3:=AutoSeq1.sub_list_list
  have f4:=AutoSeq1.sub_tuple_list
  have f5:=AutoSeq1.sub_list_tuple
  have hz':(items++items2).size<=sizeLine+1:=by rw[Array.size_append];exact hs2
  wp_walk using (wpAny_updateSeq hl rfl (hz:=hs1) (_hz':=hz')),wpAny_loadPart' hl,wpAny_loadPart' hb
  exact⟨_,rfl,h⟩
end
section
variable {X:Cx}
def gG (K:PySem.W.Frag):V->List V->Hp->VK->Prop:=fun x vs H Q=>Ad x vs H Q\/∃ l b xs zs,x=.ref l/\vs=[.ref b]/\H l=some (.lst xs)/\ZL K H b zs/\xs.length+zs.length<=sizeLine/\Q .non (upd H l (.lst (xs++zs)))
def znZ:QZ X "list.extend" (gG X.K):=by
 intro Z9 s U H x vs v us Q I rx rv h
 rcases h with h|⟨l,b,xs,zs,rfl,rfl,hH,hB,hz,q⟩
 ·exact lA Z9 s U H x vs v us Q I rx rv h
 cases rx
 obtain⟨u,rfl,ru⟩:=rv.one
 cases ru
 obtain⟨z,its,n,r,hl,e⟩:=I.lstM hH
 obtain⟨its2,r2,⟨⟨c,dct,dt,sl⟩,e2,hc,n2,hd⟩,z2⟩:=I.tuple hB
 replace hc:c=.type "tuple":=hc
 replace hd:dt=.seq its2.toArray n2:=hd
 subst hc hd
 have hl2:=r2.length
 have hsz:its.toArray.size+its2.toArray.size<=sizeLine:=by rw[qo,qo];lia
 have hlong:¬ (!its.toArray.isEmpty&&Builtin.List.listTooLong (its.toArray.size+its2.toArray.size))=true:=by
  rw[mQ hsz,Bool.and_false]
  exact qu
 refine call_meets F.slot_list_extend ⟨_,e,rfl⟩ F.entry_list_extend (F.args_list_extend_2 _ _)
  (zyQ l its.toArray n b its2.toArray n2 dct sl hlong (by rw[qo];lia) (by lia)) ⟨e,e2,?_⟩
 refine⟨.non,_,I.lset (its':=its++its2) hH e (by simp) (r.append r2) ?_,rfl,q⟩
 rw[qf]
 lia
end
section
variable {prog:Program}{w:World}{A:Around}{E:Value->Shared->Prop}{s:Shared}
end
section
variable {X:Cx}
end
section
variable {X:Cx}
end
section
variable {X:Cx}
end
section
variable {prog:Program}{w:World}{A:Around}{E:Value->Shared->Prop}{s:Shared}
end
section
variable {prog:Program}{w:World}{A:Around}{E:Value->Shared->Prop}{s:Shared}
end
section
variable {prog:Program}{w:World}{A:Around}{E:Value->Shared->Prop}{s:Shared}
end
section
variable {prog:Program}{w:World}{A:Around}{s:Shared}
abbrev S7 (prog:Program)(w:World)(h:Heap)(a:Addr)(c:List Str):Prop:=h.SetOf (PySem.strKind prog w) a (fun y=>c.any (·==y)) c.length
def S7.at {h h':Heap}{a:Addr}{c:List Str}(x:S7 prog w h a c)(k:∀ o,h.get? a=some o->h'.get? a=some o):S7 prog w h' a c :=
 let ⟨o,es,ep,t,ho,r⟩:=x;⟨o,es,ep,t,k o ho,r⟩
theorem loopS {R:Result->Shared->Prop}{it a:Addr}{fp wr:List Addr}{G:Array GenState->Array GenState->Prop}{n:Nat}{P:Nat->Value->Prop}{St:Nat->Shared->Prop}
  (W:WalksS prog w A.in1 it fp wr G n P St) (na:a∉fp) (f:Nat->Str) (hf:∀ i v,P i v->∃ t,v=.str (f i) t) (hb:n+1<scanBound) :
  ∀ (k i:Nat) (s:Shared),n-i=k->i<=n->St i s->S7 prog w s.heap a (Dp.Xd f i) ->
   (∀ s',Moved (a::wr) G s s'->S7 prog w s'.heap a (Dp.Xd f n)->R (.ok (.ret .none)) s') ->
   codeAny (model prog w) A (.builtin "set.update.loop" ⟨[.ref a,.ref it],[]⟩) R s
 |0,i,s,hk,hi,st,hS,hR=>by
  have e:i=n:=by lia
  subst e
  refine codeAny_builtin PyProof.Rows.F.entry_set_update_loop ?_
  rw[Around.under_plainId PyProof.Rows.F.plain_set_update_loop]
  show wpAny _ A.in1 (pyNext (.ref it) >>= _) _ _ _
  refine wpAny_bind (W.done s _ _ st fun s' m=>wpAny_pure (hR s' (m.mono fun b q=>qw _ q) ?_))
  exact hS.at fun o q=>m.heap a o (fun z=>na (W.sub _ z)) q
 |k+1,i,s,hk,hi,st,hS,hR=>by
  refine codeAny_builtin PyProof.Rows.F.entry_set_update_loop ?_
  rw[Around.under_plainId PyProof.Rows.F.plain_set_update_loop]
  show wpAny _ A.in1 (pyNext (.ref it) >>= _) _ _ _
  refine wpAny_bind (W.item i s _ _ (by lia) st fun v s1 pv st1 m=>?_)
  obtain⟨t,rfl⟩:=hf i v pv
  have h1:S7 prog w s1.heap a (Dp.Xd f i):=hS.at fun o q=>m.heap a o (fun z=>na (W.sub _ z)) q
  show wpAny _ A.in1 (holding [Value.str (f i) t] (setAdd a (Value.str (f i) t)) >>= _) _ _ _
  refine wpAny_bind (wpAny_holding ?_)
  unfold setAdd
  refine wpAny_holding (wpAny_bind ((PySem.strKind prog w).pyHash (k:=f i) (strKind_is _ _ _ _) ?_))
  have room:(Dp.Xd f i).length+1<scanBound:=by have:=Dp.FN f i;lia
  refine wpAny_setAddHashed_of (knd:=PySem.strKind prog w) (s:={ s1 with toks:=s1.toks+1 }) (strKind_is _ _ _ _) rfl h1 room fun h2 sb hS2=>?_
  have h3:S7 prog w h2 a (Dp.Xd f (i+1)):=SetOf_congr hS2 (fun y=>(Dp.mD _ _ _).symm) (Dp.Dl _ _).symm
  refine wpAny_pure ⟨plainId_quiet PyProof.Rows.F.plain_set_update_loop _,loopS W na f hf hb k (i+1) _ (by lia) (by lia) (W.frame _ s1 _ _ st1 (Rf _) fun b q o e=>?_) h3 fun s' m' hS'=>?_⟩
  ·exact(sb.2 b fun z=>na (z▸q)).trans e
  ·refine hR s' (Moved.trans W.gtrans ((m.mono fun b q=>qw _ q).then_heap (Rf _) fun b o q e=>?_) m') hS'
   exact(sb.2 b fun z=>q (z▸Ql)).trans e
end
section
variable {prog:Program}{w:World}{A:Around}{E:Value->Shared->Prop}{s:Shared}
abbrev RD (led:Bool):Obj:={ cls:=.type "set",dict:=none,data:=.set #[] 0 (.fresh 0 0 led) }
def kO {l:Addr}{its:Array Value}(f:Nat->Str){Q:Value->Shared->Prop}(hh:A.handled=none)(hl:s.heap.IsList l its)(hf:∀ (i:Nat) v,its[i]?=some v->∃ t,v=.str (f i) t)(hb:its.size+1<scanBound)
    (h:∀ (h':Heap) (tk:Nat),S7 prog w h' s.heap.objs.size (Dp.Xd f its.size)->(∀ b o,b<s.heap.objs.size->s.heap.get? b=some o->h'.get? b=some o)->Q (.ref s.heap.objs.size) { s with heap:=h',toks:=tk }) :
    wpAny (model prog w) A (call (.type "set") [.ref l]) Q E s:=by
  have ft:=F.called_set
  obtain⟨c,tl,hmro⟩:=ft.mro
  have hmade:=ft.made
  have hsub:=ft.sub
  have h1:=ft.notType
  have h2:=ft.canCreate
  have hct:=F.typeCall_set_1 (.ref l)
  refine wpAny_call (codeAny_of_tree ?_)
  show wpAny _ _ (callAny (.type "set") _) _ _ s
  refine wpAny_pure ⟨Code.quiet_builtin _ (by decide +kernel),codeAny_builtin F.entry_type_call ?_⟩
  rw[Around.under_plain (weight_type_call_type "set" [Value.ref l] []) rfl]
  repeat (any_goals (first|assumption|wp_step))
  refine codeAny_mono (code_set_new_1 (.ref l) (E:=E) (Q₁:=fun v s1=>∃ led:Bool,v=.ref s.heap.objs.size/\s1={ s with heap:=s.heap.push (RD led) }) fun led=>⟨led,rfl,rfl⟩) fun r s1 hr=>?_
  cases r with
  |error e=>exact hr
  |ok fl =>
    cases fl with
    |ret v =>
      obtain⟨led,rfl,rfl⟩:=hr
      have e0:(s.heap.push (RD led)).get? s.heap.objs.size=some (RD led):=qq _ rfl
      have hT:Shared.TypeIs { s with heap:=s.heap.push (RD led) } (.ref s.heap.objs.size) "set":=⟨_,e0,rfl⟩
      have hli:=ft.init.lookup
      have hbi:=ft.init.bind (.ref s.heap.objs.size)
      repeat (any_goals (first|assumption|wp_step))
      refine codeAny_mono (codeAny_call_builtin (R:=wants (fun r s2=>r=.none/\∃ h' tk,s2={ s with heap:=h',toks:=tk }/\S7 prog w h' s.heap.objs.size (Dp.Xd f its.size)/\∀ b o,b<s.heap.objs.size->s.heap.get? b=some o->h'.get? b=some o) E) ft.init.plain F.entry_set_init (check_set_init_1 hT ?_)) fun r2 s2 hr2=>?_
      . obtain⟨ol,hol,hcl,nl,hdl⟩:=hl
        obtain⟨ocl,odi,oda,osl⟩:=ol
        simp only at hcl hdl
        subst hcl hdl
        have hol2:(s.heap.push (RD led)).get? l=some { cls:=.type "list",dict:=odi,data:=.seq its nl,slots:=osl }:=qd _ hol
        have k1:=F.sub_list_set
        have k2:=F.sub_list_frozenset
        have k3:(Value.type "list"==Value.type "dict")=false:=by decide
        have hl1:(s.heap.push (RD led)).IsList l its:=⟨_,hol2,rfl,nl,rfl⟩
        unfold Builtin.«set.__init__» noKeywords Builtin.Frozenset.updateFrom
        generalize hPI:pyIter=PI
        wp_walk
        subst hPI
        refine wpAny_pyIter_list hl1 (wpAny_bind (wpAny_runValue ?_))
        have ll:l<s.heap.objs.size:=qr hol
        have n1:l≠(s.heap.push (RD led)).objs.size:=by rw[Ww];exact qL (MF ll)
        have n2:s.heap.objs.size∉[(s.heap.push (RD led)).objs.size,l]:=by
          rw[Ww]
          intro z
          rcases qh.mp z with z|z
          . exact qL (LQ _) z
          . exact Vn ll (List.mem_singleton.mp z)
        refine loopS ((Walks.list (show _=none by simp[hh]) _ l n1 its).toS) n2 f hf hb (its.size-0) 0 _ (by lia) (qO _) ⟨⟨_,qq _ rfl,rfl,rfl⟩,hl1.push _⟩ ?_ fun s' m hS'=>?_
        . exact SetOf_congr ((setObjOf_fresh (knd:=PySem.strKind prog w) led).setOf (qd _ e0) (by unfold scanBound;lia)) (fun _=>rfl) rfl
        . obtain⟨h',g',d',tk',os'⟩:=s'
          cases(show g'=s.gens from m.gens)
          cases(show d'=s.drawn from m.drawn)
          cases(show os'=s.os from m.os)
          show wpAny _ _ _ _ _ _
          refine wpAny_pure (wpAny_pure ⟨rfl,h',tk',rfl,hS',fun b o q e=>?_⟩)
          refine m.heap b o (fun z=>?_) (qd _ (qd _ e))
          rcases qh.mp z with z|z
          . exact qL q z
          . have z':=List.mem_singleton.mp z
            rw[Ww]at z'
            exact qL (MF q) z'
      . cases r2 with
        |error e=>exact hr2
        |ok fl2 =>
          cases fl2 with
          |ret r =>
            obtain⟨rfl,h',tk,rfl,hS',kp⟩:=hr2
            repeat (any_goals (first|assumption|wp_step))
            exact h _ _ hS' kp
          |_=>exact hr2.elim
    |_=>exact hr.elim
end
def gD (K:PySem.W.Frag)(ta:TA):TE:=fun U H Q=>ta U H fun vs H1=>∃ l,∃ zs:List Str,vs=[.ref l]/\Zq K H1 l (zs.map V.str)/\zs.length<=4000/\Q (.int (Dp.Xd (fun i=>zs.getD i Str.empty) zs.length).length) H1
theorem oh:∀ {zs:List Str} {us:List Value},Vals (zs.map V.str) us->∀ (i:Nat) v,us[i]?=some v->∃ t,v=.str (zs.getD i Str.empty) t
 |[],_,.nil,i,v,e=>by simp at e
 |z::zs,_,.cons r t,0,v,e=>by
  obtain⟨t,rfl⟩:=r
  simp at e
  exact⟨t,e.symm⟩
 |z::zs,_,.cons r t,i+1,v,e=>by
  obtain⟨t,h⟩:=oh t i v (by simpa using e)
  exact⟨t,by rw[h];simp⟩
def iK {X:Cx}{a:Expr}{ta:TA}{p1 p2 pos1 pos2:Pos}(hc:X.calm=true)(hgl:Gl X "len")(hml:X.mg "len"=none)(hgr:Gl X "set")(hmr:X.mg "set"=none)(ha:PA X [a] ta)
  (hs:starEach [a] X.env=[(false,eval a X.env)]:=by rfl)
  (hs3:starEach [.Call (.Name "set" p2) [a] [] pos2] X.env=[(false,eval (.Call (.Name "set" p2) [a] [] pos2) X.env)]:=by rfl) :
  PE X (.Call (.Name "len" p1) [.Call (.Name "set" p2) [a] [] pos2] [] pos1) (gD X.K ta):=by
 intro Z9 s U H Q I h
 refine Call_ (U5 I hgl hml boot_len (PyProof.Rows.callWith_builtin1 ?_ (by rw[hs3];rfl) (by rfl)))
 rw[hs3]
 show wpAny _ _ (spliced ((false,eval (.Call (.Name "set" p2) [a] [] pos2) X.env)::backTo pos1 [])) _ _ s
 refine Calls.spliced_cons (Call_ (U5 I hgr hmr boot_set (PyProof.Rows.callWith_type1 (Z0 (ha pos2 Z9 s U H _ I h) fun us s1 ⟨vs,H1,I1,r1,q1⟩=>?_) hs rfl)))
 obtain⟨l,zs,e,hx,h4,q⟩:=q1
 subst e
 obtain⟨u,rfl,ru⟩:=vals1 r1
 cases ru
 obtain⟨its,rx,px,zx⟩:=I1.list hx
 have sz:its.toArray.size=zs.length:=by rw[qo,<- rx.length,qc]
 refine kO (fun i=>zs.getD i Str.empty) (show _=none from I1.ok.hd hc) px.isList (fun i v e=>oh rx i v (by simpa using e)) (by rw[sz];unfold scanBound;lia) fun h' tk hS kp=>Calls.spliced_nil ?_
 rw[sz]at hS
 have le:=Dp.FN (fun i=>zs.getD i Str.empty) zs.length
 obtain⟨o,es,ep,t,ho,hex,hd,_,_,_,hf,hn⟩:=hS
 refine call_len_set ho hex hd hf (by lia) ?_
 rw[hn]
 exact⟨.int _,H1,I1.kept (t':=tk+1+1) (fun b o q=>kp b o (qr q) q),⟨_,rfl⟩,q⟩
end My
namespace Dp
open PySem PySem.Spec PyProof.Rows L2 My
def isStar:Expr->Bool
 |.Starred _ _=>true
 |_=>false
def Uv {e:Expr}{es:List Expr}{env:Env}(h:isStar e=false):starEach (e::es) env=(false,eval e env)::starEach es env:=by
  cases e<;>first|rfl|cases h
theorem P0 {pos:Pos}{env:Env}:∀ {es:List Expr},es.all (fun e=>!isStar e)=true->(backTo pos (starEach es env)).any (·.1)=false
 |[],_=>rfl
 |e::es,h=>by
  rw[Uy,qG]at h
  rw[Uv (by simpa using h.1)]
  show(false||(backTo pos (starEach es env)).any (·.1))=false
  rw[P0 h.2];rfl
def Pu {e:Expr}{env:Env}(h:isStar e=false):starEach [e] env=[(false,eval e env)]:=Uv h
def xO {e g:Expr}{env:Env}(h:isStar e=false)(k:isStar g=false):starEach [e,g] env=[(false,eval e env),(false,eval g env)]:=by rw[Uv h,Pu k]
def Qt (K:PySem.W.Frag)(H:Hp)(a:Addr)(xs:List V):Prop :=
 (∃ o,H a=some (.frz o (.lst xs)))\/∃ (o:Obj) (its:Array Value) (n:Nat),K.lookup a=some o/\o.cls=.type "list"/\o.dict=none/\o.data=.seq its n/\its.size<=sizeLine/\Vals xs its.toList
def Qt.sq {K:PySem.W.Frag}{H:Hp}{a:Addr}{xs:List V}(h:Qt K H a xs):Zq K H a xs:=h.imp (fun h=>.inr h) id
mutual
inductive Rel (K:PySem.W.Frag)(ad:List Addr)(H:Hp):D->V->Prop
 |non:Rel K ad H .non .non
 |bl (b:Bool):Rel K ad H (.bl b) (.bl b)
 |int (i:Int):Rel K ad H (.int i) (.int i)
 |str (x:Str):Rel K ad H (.str x) (.str x)
 |ty (n:String):Rel K ad H (.ty n) (.ty n)
 |tup {a:Addr} {vs:List V} {ds:List D}:H a=some (.tup vs)->zE K ad H ds vs->Rel K ad H (.tup ds) (.ref a)
 |rl {a:Addr} {vs:List V} {ds:List D}:Qt K H a vs->zE K ad H ds vs->Rel K ad H (.rl ds) (.ref a)
 |ref {n:Nat} {a:Addr}:ad[n]?=some a->Rel K ad H (.ref n) (.ref a)
 |exn {c:Str} {a C:Addr} {o:Obj} {u:HO}:H a=some (.frz o u)->o.cls=.ref C->PySem.W.nsIn K mainGlobals c=some (some (.ref C))->Rel K ad H (.exn c) (.ref a)
inductive zE (K:PySem.W.Frag)(ad:List Addr)(H:Hp):List D->List V->Prop
 |nil:zE K ad H [] []
 |cons {d:D} {v:V} {ds:List D} {vs:List V}:Rel K ad H d v->zE K ad H ds vs->zE K ad H (d::ds) (v::vs)
end
structure Wd (ad:List Addr)(H:Hp)(ad':List Addr)(H':Hp):Prop where
 pre:ad <+: ad'
 keep:∀ b o,b∉ad->H b=some o->H' b=some o
 tup:∀ b xs,H b=some (.tup xs)->H' b=some (.tup xs)
 frz:∀ b o u,H b=some (.frz o u)->H' b=some (.frz o u)
 new:∀ b,b∈ad'->b∉ad->H b=none
def Wd.refl {ad:List Addr}{H:Hp}:Wd ad H ad H:=⟨Ow _,fun _ _ _ h=>h,fun _ _ h=>h,fun _ _ _ h=>h,fun _ h n=>absurd h n⟩
theorem Wd.trans {ad ad1 ad2:List Addr}{H H1 H2:Hp}(a:Wd ad H ad1 H1)(b:Wd ad1 H1 ad2 H2):Wd ad H ad2 H2 where
 pre:=a.pre.trans b.pre
 keep:=fun c o hc h=>b.keep c o (fun h1=>by rw[a.new c h1 hc]at h;cases h) (a.keep c o hc h)
 tup:=fun c xs h=>b.tup c xs (a.tup c xs h)
 frz:=fun c o u h=>b.frz c o u (a.frz c o u h)
 new:=fun c h2 hc=>by
  by_cases h1:c∈ad1
  ·exact a.new c h1 hc
  ·have n1:=b.new c h2 h1
   cases e:H c with
   |none=>rfl
   |some o=>rw[a.keep c o hc e]at n1;cases n1
def Ek {α:Type}{l l':List α}(h:l <+: l'){n:Nat}{a:α}(e:l[n]?=some a):l'[n]?=some a:=by
 obtain⟨t,rfl⟩:=h
 rw[qk (My.Wh e)];exact e
structure Wr (ad:List Addr)(H:Hp)(ad':List Addr)(H':Hp):Prop where
 pre:ad <+: ad'
 tup:∀ b xs,H b=some (.tup xs)->H' b=some (.tup xs)
 frz:∀ b o u,H b=some (.frz o u)->H' b=some (.frz o u)
def Wd.wr {ad ad':List Addr}{H H':Hp}(w:Wd ad H ad' H'):Wr ad H ad' H':=⟨w.pre,w.tup,w.frz⟩
def Qt.wr {K:PySem.W.Frag}{ad ad':List Addr}{H H':Hp}{a:Addr}{xs:List V}(w:Wr ad H ad' H')(h:Qt K H a xs):Qt K H' a xs:=h.imp (fun⟨o,e⟩=>⟨o,w.frz _ _ _ e⟩) id
mutual
theorem Rel.wr {K:PySem.W.Frag}{ad ad':List Addr}{H H':Hp}(w:Wr ad H ad' H'):∀ {d:D} {v:V},Rel K ad H d v->Rel K ad' H' d v
 |_,_,.non=>.non
 |_,_,.bl b=>.bl b
 |_,_,.int i=>.int i
 |_,_,.str x=>.str x
 |_,_,.ty n=>.ty n
 |_,_,.tup h r=>.tup (w.tup _ _ h) (zE.wr w r)
 |_,_,.rl h r=>.rl (h.wr w) (zE.wr w r)
 |_,_,.ref h=>.ref (Ek w.pre h)
 |_,_,.exn h e n=>.exn (w.frz _ _ _ h) e n
theorem zE.wr {K:PySem.W.Frag}{ad ad':List Addr}{H H':Hp}(w:Wr ad H ad' H'):∀ {ds:List D} {vs:List V},zE K ad H ds vs->zE K ad' H' ds vs
 |_,_,.nil=>.nil
 |_,_,.cons r t=>.cons (Rel.wr w r) (zE.wr w t)
end
def Rel.wd {K:PySem.W.Frag}{ad ad':List Addr}{H H':Hp}{d:D}{v:V}(r:Rel K ad H d v)(w:Wd ad H ad' H'):Rel K ad' H' d v:=Rel.wr w.wr r
def zE.wd {K:PySem.W.Frag}{ad ad':List Addr}{H H':Hp}{ds:List D}{vs:List V}(r:zE K ad H ds vs)(w:Wd ad H ad' H'):zE K ad' H' ds vs:=zE.wr w.wr r
section
variable {K:PySem.W.Frag}{ad:List Addr}{H:Hp}
theorem zE.length:∀ {ds:List D} {vs:List V},zE K ad H ds vs->ds.length=vs.length
  |_,_,.nil=>rfl
  |_,_,.cons _ t=>congrArg (· + 1) (zE.length t)
theorem zE.get:∀ {ds:List D} {vs:List V} {i:Nat} {d:D},zE K ad H ds vs->ds[i]?=some d->∃ v,vs[i]?=some v/\Rel K ad H d v
 |_,_,_,_,.nil,e=>by simp at e
 |_,_,0,_,.cons r _,e=>by simp at e;subst e;exact⟨_,rfl,r⟩
 |_,_,i+1,d,.cons _ t,e=>by
  obtain⟨v,h1,h2⟩:=zE.get (i:=i) (d:=d) t (by simpa using e)
  exact⟨v,by simpa using h1,h2⟩
theorem zE.append:∀ {ds es:List D} {vs us:List V},zE K ad H ds vs->zE K ad H es us->zE K ad H (ds++es) (vs++us)
 |_,_,_,_,.nil,s=>s
 |_,_,_,_,.cons r t,s=>.cons r (zE.append t s)
theorem zE.take:∀ {ds:List D} {vs:List V} (n:Nat),zE K ad H ds vs->zE K ad H (ds.take n) (vs.take n)
 |_,_,0,_=>.nil
 |_,_,_+1,.nil=>.nil
 |_,_,n+1,.cons r t=>.cons r (zE.take n t)
theorem zE.drop:∀ {ds:List D} {vs:List V} (n:Nat),zE K ad H ds vs->zE K ad H (ds.drop n) (vs.drop n)
 |_,_,0,r=>r
 |_,_,_+1,.nil=>.nil
 |_,_,n+1,.cons _ t=>zE.drop n t
theorem zE.set {d:D}{v:V}(r:Rel K ad H d v):∀ {ds:List D} {vs:List V} (i:Nat),zE K ad H ds vs->zE K ad H (ds.set i d) (vs.set i v)
 |_,_,_,.nil=>.nil
 |_,_,0,.cons _ t=>.cons r t
 |_,_,i+1,.cons q t=>.cons q (zE.set r i t)
theorem zE.ints:∀ {ns:List Int} {vs:List V},zE K ad H (ns.map D.int) vs->vs=ns.map V.int
 |[],_,.nil=>rfl
 |n::ns,_,.cons r t=>by cases r;rw[zE.ints t];rfl
theorem zE.bls:∀ {ns:List Bool} {vs:List V},zE K ad H (ns.map D.bl) vs->vs=ns.map V.bl
 |[],_,.nil=>rfl
 |n::ns,_,.cons r t=>by cases r;rw[zE.bls t];rfl
theorem zE.mk_ints:∀ (ns:List Int),zE K ad H (ns.map D.int) (ns.map V.int)
 |[]=>.nil
 |n::ns=>.cons (.int n) (zE.mk_ints ns)
end
inductive Y8 (K:PySem.W.Frag)(ad:List Addr)(H:Hp):List (Str×D)->List (Str×V)->Prop
 |nil:Y8 K ad H [] []
 |cons {f:Str} {d:D} {v:V} {fs:List (Str×D)} {vs:List (Str×V)}:Rel K ad H d v->Y8 K ad H fs vs->Y8 K ad H ((f,d)::fs) ((f,v)::vs)
theorem Y8.wr {K:PySem.W.Frag}{ad ad':List Addr}{H H':Hp}(w:Wr ad H ad' H'):∀ {fs:List (Str×D)} {vs:List (Str×V)},Y8 K ad H fs vs->Y8 K ad' H' fs vs
 |_,_,.nil=>.nil
 |_,_,.cons r t=>.cons (Rel.wr w r) (Y8.wr w t)
theorem Y8.look {K:PySem.W.Frag}{ad:List Addr}{H:Hp}{f:Str}:∀ {fs:List (Str×D)} {vs:List (Str×V)} {d:D},Y8 K ad H fs vs->fs.lookup f=some d->∃ v,vs.lookup f=some v/\Rel K ad H d v
 |_,_,d,.nil,e=>by simp at e
 |_,_,d,@Y8.cons _ _ _ g x v fs vs r t,e=>by
  rw[qp]at e ⊢
  cases h:f==g with
  |true=>rw[h]at e;cases e;exact⟨v,rfl,r⟩
  |false=>rw[h]at e;exact Y8.look t e
theorem Y8.put {K:PySem.W.Frag}{ad:List Addr}{H:Hp}{f:Str}{d:D}{v:V}(rd:Rel K ad H d v):∀ {fs:List (Str×D)} {vs:List (Str×V)},Y8 K ad H fs vs->Y8 K ad H (putD f d fs) (Yi f v vs)
 |_,_,.nil=>.cons rd .nil
 |_,_,@Y8.cons _ _ _ g x u fs vs r t=>by
  show Y8 K ad H (if g=f then(g,d)::fs else(g,x)::putD f d fs) (if g=f then(g,v)::vs else(g,u)::Yi f v vs)
  by_cases h:g=f
  ·rw[if_pos h,if_pos h];exact .cons rd t
  ·rw[if_neg h,if_neg h];exact .cons r (Y8.put rd t)
theorem Y8.length {K:PySem.W.Frag}{ad:List Addr}{H:Hp}:∀ {fs:List (Str×D)} {vs:List (Str×V)},Y8 K ad H fs vs->fs.length=vs.length
  |_,_,.nil=>rfl
  |_,_,.cons _ t=>congrArg (· + 1) (Y8.length t)
theorem uT {f:Str}{d:D}{q:Str×D}:∀ {fs:List (Str×D)},q∈putD f d fs->q.1=f\/q∈fs
 |[],h=>by
  have:q=(f,d):=by simpa [putD]using h
  subst this;exact .inl rfl
 |(g,x)::fs,h=>by
  have h:q∈if g=f then(g,d)::fs else(g,x)::putD f d fs:=h
  by_cases e:g=f
  ·rw[if_pos e]at h
   rcases qh.mp h with rfl|h
   ·exact .inl e
   ·exact .inr (qw _ h)
  ·rw[if_neg e]at h
   rcases qh.mp h with rfl|h
   ·exact .inr (by simp)
   ·exact(uT h).imp id (qw _)
theorem rG {f:Str}{d:D}:∀ {fs:List (Str×D)},fs.lookup f=some d->∃ q∈fs,q.1=f
 |[],e=>by simp at e
 |(g,x)::fs,e=>by
  rw[qp]at e
  cases h:f==g with
  |true=>exact⟨(g,x),by simp,(eq_of_beq h).symm⟩
  |false =>
   rw[h]at e
   obtain⟨q,hq,e'⟩:=rG e
   exact⟨q,qw _ hq,e'⟩
inductive RelK (K:PySem.W.Frag)(ad:List Addr)(H:Hp):List (Str×D)->List (Key×V)->Prop
 |nil:RelK K ad H [] []
 |cons {x:Str} {d:D} {v:V} {fs:List (Str×D)} {vs:List (Key×V)}:Rel K ad H d v->RelK K ad H fs vs->RelK K ad H ((x,d)::fs) ((.inr x,v)::vs)
inductive Zg (K:PySem.W.Frag)(ad:List Addr)(H:Hp):List (List Key×D)->List (List Key×V)->Prop
 |nil:Zg K ad H [] []
 |cons {x:List Key} {d:D} {v:V} {fs:List (List Key×D)} {vs:List (List Key×V)}:Rel K ad H d v->Zg K ad H fs vs->Zg K ad H ((x,d)::fs) ((x,v)::vs)
theorem RelK.wr {K:PySem.W.Frag}{ad ad':List Addr}{H H':Hp}(w:Wr ad H ad' H'):∀ {fs:List (Str×D)} {vs:List (Key×V)},RelK K ad H fs vs->RelK K ad' H' fs vs
 |_,_,.nil=>.nil
 |_,_,.cons r t=>.cons (Rel.wr w r) (RelK.wr w t)
theorem Zg.wr {K:PySem.W.Frag}{ad ad':List Addr}{H H':Hp}(w:Wr ad H ad' H'):∀ {fs:List (List Key×D)} {vs:List (List Key×V)},Zg K ad H fs vs->Zg K ad' H' fs vs
 |_,_,.nil=>.nil
 |_,_,.cons r t=>.cons (Rel.wr w r) (Zg.wr w t)
def Vm (K:PySem.W.Frag)(ad:List Addr)(H:Hp)(a:Addr):Cell->Prop
 |.lst ds=>∃ vs,H a=some (.lst vs)/\zE K ad H ds vs
 |.ins c fs=>∃ C dx vs,H a=some (.ins C dx vs)/\Cls K C/\PySem.W.nsIn K mainGlobals c=some (some (.ref C))/\Y8 K ad H fs vs/\∀ q∈fs,YJ K C q.1
 |.dk Z6=>∃ vs,H a=some (.dK vs)/\RelK K ad H Z6 vs
 |.dt Z6=>∃ vs,H a=some (.dT vs)/\Zg K ad H Z6 vs
class Bs where
 ad:List Addr
 H:Hp
structure zL [B:Bs](K:PySem.W.Frag)(ad:List Addr)(H:Hp)(S:Z5):Prop where
 wd:Wd B.ad B.H ad H
 len:ad.length=S.length
 nd:ad.Nodup
 cell:∀ (n:Nat) (a:Addr) (c:Cell),ad[n]?=some a->S[n]?=some c->Vm K ad H a c
structure Zd (K:PySem.W.Frag)(ad:List Addr)(H:Hp)(Z:ZR)(U:L2.St):Prop where
 len:Z.length=U.length
 val:∀ (i:Nat) (d:D),Z[i]?=some (some d)->∃ v,U[i]?=some (some v)/\Rel K ad H d v
theorem Zd.wd {K:PySem.W.Frag}{ad ad':List Addr}{H H':Hp}{Z:ZR}{U:L2.St}(h:Zd K ad H Z U)(w:Wd ad H ad' H'):Zd K ad' H' Z U :=
 ⟨h.len,fun i d e=>let ⟨v,e',r⟩:=h.val i d e;⟨v,e',r.wd w⟩⟩
variable [B:Bs]
section
variable {K:PySem.W.Frag}{ad:List Addr}{H:Hp}{S:Z5}
def zL.get (st:zL K ad H S){n:Nat}{c:Cell}(h:S[n]?=some c):∃ a,ad[n]?=some a/\Vm K ad H a c:=by
 have hn:n<ad.length:=by rw[st.len];exact My.Wh h
 exact⟨ad[n],qb hn,st.cell n _ c (qb hn) h⟩
theorem Vm.some {a:Addr}{c:Cell}(h:Vm K ad H a c):∃ o,H a=some o:=by
 cases c with
 |lst ds=>obtain⟨vs,e,_⟩:=h;exact⟨_,e⟩
 |ins c fs=>obtain⟨C,dx,vs,e,_⟩:=h;exact⟨_,e⟩
 |dk Z6=>obtain⟨vs,e,_⟩:=h;exact⟨_,e⟩
 |dt Z6=>obtain⟨vs,e,_⟩:=h;exact⟨_,e⟩
def zL.there (st:zL K ad H S){a:Addr}(h:a∈ad):∃ o,H a=some o:=by
 obtain⟨n,hn,e⟩:=qH.mp h
 have e':ad[n]?=some a:=by rw[qb hn,e]
 have hs:n<S.length:=by rw[<- st.len];exact hn
 exact(st.cell n a S[n] e' (qb hs)).some
def zL.fresh (st:zL K ad H S){l:Addr}(h:H l=none):l∉ad:=fun m=>by
 obtain⟨o,e⟩:=st.there m
 rw[h]at e;cases e
theorem Vm.wr {ad':List Addr}{H':Hp}{a:Addr}{c:Cell}(h:Vm K ad H a c)(w:Wr ad H ad' H')(same:H' a=H a):Vm K ad' H' a c:=by
 cases c with
 |lst ds=>obtain⟨vs,e,r⟩:=h;exact⟨vs,same.trans e,zE.wr w r⟩
 |ins c fs=>obtain⟨C,dx,vs,e,c1,c2,r,n⟩:=h;exact⟨C,dx,vs,same.trans e,c1,c2,Y8.wr w r,n⟩
 |dk Z6=>obtain⟨vs,e,r⟩:=h;exact⟨vs,same.trans e,RelK.wr w r⟩
 |dt Z6=>obtain⟨vs,e,r⟩:=h;exact⟨vs,same.trans e,Zg.wr w r⟩
def Vm.wd {ad':List Addr}{H':Hp}{a:Addr}{c:Cell}(h:Vm K ad H a c)(w:Wd ad H ad' H')(same:H' a=H a):Vm K ad' H' a c:=h.wr w.wr same
def Wd.laid {l:Addr}{o:HO}(h:H l=none):Wd ad H ad (upd H l o) :=
 ⟨Ow _,fun b u _ e=>Um h e,fun b u e=>Um h e,fun b u w e=>Um h e,fun _ m n=>absurd m n⟩
def zL.bfree (st:zL K ad H S){p:Addr}(h:H p=none):B.H p=none:=by
 cases e:B.H p with
 |none=>rfl
 |some o =>
  by_cases m:p∈B.ad
  ·obtain⟨u,hu⟩:=st.there (st.wd.pre.subset m)
   rw[h]at hu;cases hu
  ·rw[st.wd.keep p o m e]at h;cases h
theorem zL.laid (st:zL K ad H S){l:Addr}{o:HO}(h:H l=none):zL K ad (upd H l o) S :=
 ⟨st.wd.trans (Wd.laid h),st.len,st.nd,fun n a c e1 e2=>(st.cell n a c e1 e2).wd (Wd.laid h) (by
  obtain⟨u,e⟩:=(st.cell n a c e1 e2).some
  rw[Um h e,e])⟩
def Wd.newL (st:zL K ad H S){l:Addr}{o:HO}(h:H l=none):Wd ad H (ad++[l]) (upd H l o) :=
 ⟨Lg _ _,fun b u _ e=>Um h e,fun b u e=>Um h e,fun b u w e=>Um h e,fun b m n=>by
  rcases qI.mp m with m|m
  ·exact absurd m n
  ·have:b=l:=by simpa using m
   subst this;exact h⟩
theorem zL.newL (st:zL K ad H S){l:Addr}{vs:List V}{ds:List D}(h:H l=none)(r:zE K ad H ds vs):zL K (ad++[l]) (upd H l (.lst vs)) (S++[.lst ds]) where
 wd:=st.wd.trans (Wd.newL st h)
 len:=by rw[qf,qf,st.len];rfl
 nd:=by
  rw[Pk]
  refine⟨st.nd,by simp,fun a ha b hb e=>?_⟩
  have:b=l:=by simpa using hb
  subst this;subst e
  exact st.fresh h ha
 cell:=fun n a c e1 e2=>by
  by_cases hn:n<ad.length
  ·rw[qk hn]at e1
   rw[qk (by rw[<- st.len];exact hn)]at e2
   have ok:=st.cell n a c e1 e2
   obtain⟨u,e⟩:=ok.some
   exact ok.wd (Wd.newL st h) (by rw[Um h e,e])
  ·have hn':ad.length<=n:=Qs hn
   rw[qi hn']at e1
   rw[qi (by rw[<- st.len];exact hn'),<- st.len]at e2
   cases hk:n-ad.length with
   |zero =>
    rw[hk]at e1 e2
    have e1':l=a:=by simpa using e1
    have e2':Cell.lst ds=c:=by simpa using e2
    subst e1' e2'
    exact⟨vs,X7,r.wd (Wd.newL st h)⟩
   |succ k=>rw[hk]at e1;simp at e1
def zL.newRef (st:zL K ad H S){l:Addr}{o:HO}:Rel K (ad++[l]) (upd H l o) (.ref S.length) (.ref l):=.ref (by rw[<- st.len,qi (qg _),Wv];rfl)
def Wd.put {n:Nat}{a:Addr}{vs ws:List V}(e:ad[n]?=some a)(h:H a=some (.lst vs)):Wd ad H ad (upd H a (.lst ws)) :=
 ⟨Ow _,fun b u hb q=>by
   have:b≠a:=fun z=>hb (by rw[z];exact qe e)
   rw[zO this];exact q,
  fun b xs q=>by rw[zO (Tf q h (by intro z;cases z))];exact q,fun b o u q=>by rw[zO (Tf q h (by intro z;cases z))];exact q,fun _ m n=>absurd m n⟩
theorem zL.put (st:zL K ad H S){n:Nat}{a:Addr}{vs ws:List V}{ds:List D}(e:ad[n]?=some a)(h:H a=some (.lst vs))(r:zE K ad H ds ws):zL K ad (upd H a (.lst ws)) (S.set n (.lst ds)) where
 wd:=st.wd.trans (Wd.put e h)
 len:=by rw[VP];exact st.len
 nd:=st.nd
 cell:=fun m b c e1 e2=>by
  have w:=Wd.put (ws:=ws) e h
  by_cases hm:m=n
  ·subst hm
   rw[e]at e1;cases e1
   rw[qN (by rw[<- st.len];exact My.Wh e)]at e2
   cases e2
   exact⟨ws,X7,r.wd w⟩
  ·rw[qM (Ne.symm hm)]at e2
   have ne:b≠a:=fun z=>by
    subst z
    have h1:=My.Wh e1
    have h2:=My.Wh e
    have q1:=(qQ.mp e1).2
    have q2:=(qQ.mp e).2
    exact hm ((Ik st.nd).mp (q1.trans q2.symm))
   exact(st.cell m b c e1 e2).wd w (zO ne)
def zL.newI (st:zL K ad H S){x dx C:Addr}{c:Str}(h:H x=none)(h2:H dx=none)(hne:dx≠x)(hc:Cls K C)(hn:PySem.W.nsIn K mainGlobals c=some (some (.ref C))) :
  Wd ad H (ad++[x]) (upd (upd H dx (.own x)) x (.ins C dx []))/\zL K (ad++[x]) (upd (upd H dx (.own x)) x (.ins C dx [])) (S++[.ins c []]):=by
 have st1:=st.laid (o:=.own x) h2
 have hx:upd H dx (.own x) x=none:=by rw[zO (Ne.symm hne)];exact h
 have w1:Wd ad H ad (upd H dx (.own x)):=Wd.laid h2
 have w2:Wd ad (upd H dx (.own x)) (ad++[x]) (upd (upd H dx (.own x)) x (.ins C dx [])):=Wd.newL st1 hx
 refine⟨w1.trans w2,st.wd.trans (w1.trans w2),?_,?_,fun n a c' e1 e2=>?_⟩
 ·rw[qf,qf,st.len];rfl
 ·rw[Pk]
  refine⟨st.nd,by simp,fun a ha b hb e=>?_⟩
  have:b=x:=by simpa using hb
  subst this;subst e
  exact st.fresh h ha
 ·by_cases hn':n<ad.length
  ·rw[qk hn']at e1
   rw[qk (by rw[<- st.len];exact hn')]at e2
   have ok:=st1.cell n a c' e1 e2
   obtain⟨u,e⟩:=ok.some
   exact ok.wd w2 (by rw[Um hx e,e])
  ·have hn':ad.length<=n:=Qs hn'
   rw[qi hn']at e1
   rw[qi (by rw[<- st.len];exact hn'),<- st.len]at e2
   cases hk:n-ad.length with
   |zero =>
    rw[hk]at e1 e2
    have e1':x=a:=by simpa using e1
    have e2':Cell.ins c []=c':=by simpa using e2
    subst e1' e2'
    exact⟨C,dx,[],X7,hc,hn,.nil,fun q hq=>by cases hq⟩
   |succ k=>rw[hk]at e1;simp at e1
def Wd.putI {n:Nat}{a C dx C' dx':Addr}{vs ws:List (Str×V)}(e:ad[n]?=some a)(h:H a=some (.ins C dx vs)):Wd ad H ad (upd H a (.ins C' dx' ws)) :=
 ⟨Ow _,fun b u hb q=>by
   have:b≠a:=fun z=>hb (by rw[z];exact qe e)
   rw[zO this];exact q,
  fun b xs q=>by rw[zO (Tf q h (by intro z;cases z))];exact q,fun b o u q=>by rw[zO (Tf q h (by intro z;cases z))];exact q,fun _ m n=>absurd m n⟩
theorem zL.putI (st:zL K ad H S){n:Nat}{a C dx:Addr}{c f:Str}{vs:List (Str×V)}{fs:List (Str×D)}{d:D}{v:V}(e:ad[n]?=some a)(h:H a=some (.ins C dx vs))(hc:Cls K C)(hn:PySem.W.nsIn K mainGlobals c=some (some (.ref C)))(rf:Y8 K ad H fs vs)(hna:∀ q∈fs,YJ K C q.1)(hf:YJ K C f)(r:Rel K ad H d v) :
  zL K ad (upd H a (.ins C dx (Yi f v vs))) (S.set n (.ins c (putD f d fs))) where
 wd:=st.wd.trans (Wd.putI e h)
 len:=by rw[VP];exact st.len
 nd:=st.nd
 cell:=fun m b c' e1 e2=>by
  have w:Wd ad H ad (upd H a (.ins C dx (Yi f v vs))):=Wd.putI e h
  by_cases hm:m=n
  ·subst hm
   rw[e]at e1;cases e1
   rw[qN (by rw[<- st.len];exact My.Wh e)]at e2
   cases e2
   refine⟨C,dx,_,X7,hc,hn,Y8.wr w.wr (Y8.put r rf),fun q hq=>?_⟩
   rcases uT hq with h1|h1
   ·rw[h1];exact hf
   ·exact hna q h1
  ·rw[qM (Ne.symm hm)]at e2
   have ne:b≠a:=fun z=>by
    subst z
    have q1:=(qQ.mp e1).2
    have q2:=(qQ.mp e).2
    exact hm ((Ik st.nd).mp (q1.trans q2.symm))
   exact(st.cell m b c' e1 e2).wd w (zO ne)
def Wd.hid {ad':List Addr}{H':Hp}{p:Addr}{o:HO}(w:Wd ad H ad' H')(hp:H p=none):Wd ad H ad' (upd H' p o) :=
 ⟨w.pre,fun b u hb q=>by rw[zO (SX q hp)];exact w.keep b u hb q,fun b u q=>by rw[zO (SX q hp)];exact w.tup b u q,fun b u v q=>by rw[zO (SX q hp)];exact w.frz b u v q,w.new⟩
def Wr.hid {p:Addr}{vs ws:List V}(h:H p=some (.lst vs)):Wr ad H ad (upd H p (.lst ws)) :=
 ⟨Ow _,fun b xs q=>by rw[zO (Tf q h (by intro z;cases z))];exact q,fun b o u q=>by rw[zO (Tf q h (by intro z;cases z))];exact q⟩
theorem zL.hid (st:zL K ad H S){p:Addr}{vs ws:List V}(h:H p=some (.lst vs))(hp:p∉ad)(hb:B.H p=none):zL K ad (upd H p (.lst ws)) S :=
 ⟨st.wd.hid hb,st.len,st.nd,fun n a c e1 e2=>(st.cell n a c e1 e2).wr (Wr.hid h) (zO fun z=>hp (by rw[<- z];exact qe e1))⟩
def Wd.add {ad':List Addr}{H':Hp}{p:Addr}(w:Wd ad H ad' H')(hp:H p=none):Wd ad H (ad'++[p]) H' :=
 ⟨w.pre.trans (Lg _ _),w.keep,w.tup,w.frz,fun b m n=>by
  rcases qI.mp m with m|m
  ·exact w.new b m n
  ·have:b=p:=by simpa using m
   subst this;exact hp⟩
theorem zL.add (st:zL K ad H S){p:Addr}{vs:List V}{ds:List D}(h:H p=some (.lst vs))(hp:p∉ad)(r:zE K ad H ds vs)(hb:B.H p=none):zL K (ad++[p]) H (S++[.lst ds]) where
 wd:=st.wd.add hb
 len:=by rw[qf,qf,st.len];rfl
 nd:=by
  rw[Pk]
  refine⟨st.nd,by simp,fun a ha b hb e=>?_⟩
  have:b=p:=by simpa using hb
  subst this;subst e
  exact hp ha
 cell:=fun n a c e1 e2=>by
  have w:Wr ad H (ad++[p]) H:=⟨Lg _ _,fun _ _ q=>q,fun _ _ _ q=>q⟩
  by_cases hn:n<ad.length
  ·rw[qk hn]at e1
   rw[qk (by rw[<- st.len];exact hn)]at e2
   exact(st.cell n a c e1 e2).wr w rfl
  ·have hn':ad.length<=n:=Qs hn
   rw[qi hn']at e1
   rw[qi (by rw[<- st.len];exact hn'),<- st.len]at e2
   cases hk:n-ad.length with
   |zero =>
    rw[hk]at e1 e2
    have e1':p=a:=by simpa using e1
    have e2':Cell.lst ds=c:=by simpa using e2
    subst e1' e2'
    exact⟨vs,h,zE.wr w r⟩
   |succ k=>rw[hk]at e1;simp at e1
theorem Lst.sq (st:zL K ad H S){x:D}{xs:List D}{v:V}(h:Lst S x xs)(r:Rel K ad H x v):∃ a vs,v=.ref a/\Zq K H a vs/\zE K ad H xs vs:=by
 rcases h with rfl|⟨n,rfl,h⟩
 ·cases r with
  |rl h r=>exact⟨_,_,rfl,h.sq,r⟩
 ·cases r with
  |ref e =>
   obtain⟨vs,e2,r⟩:=st.cell n _ _ e h
   exact⟨_,vs,rfl,Zq.of e2,r⟩
theorem VB.sq (st:zL K ad H S){x:D}{xs:List D}{v:V}(h:VB S x xs)(r:Rel K ad H x v):∃ a vs,v=.ref a/\(Zq K H a vs\/ZL K H a vs)/\zE K ad H xs vs:=by
 rcases h with rfl|h
 ·cases r with
  |tup h r=>exact⟨_,_,rfl,.inr (ZL.of h),r⟩
 ·obtain⟨a,vs,e,s,r⟩:=Lst.sq st h r
  exact⟨a,vs,e,.inl s,r⟩
end
omit B in
def Zv {a b c d:Type}{p1 p2 p3 p4:a->b->c->d->Prop}{R:Prop}(h:∃ (x:a) (y:b) (z:c) (w:d),p1 x y z w/\p2 x y z w/\p3 x y z w/\p4 x y z w)(f:∀ (x:a) (y:b) (z:c) (w:d),p1 x y z w->p2 x y z w->p3 x y z w->p4 x y z w->R):R :=
 Exists.elim h fun x h=>Exists.elim h fun y h=>Exists.elim h fun z h=>Exists.elim h fun w h=>f x y z w h.1 h.2.1 h.2.2.1 h.2.2.2
def KK (K:PySem.W.Frag)(ad:List Addr)(H:Hp)(Q0:DK)(Q:VK):Prop:=∀ d S' v H' ad',Q0 d S'->Wd ad H ad' H'->zL K ad' H' S'->Rel K ad' H' d v->Q v H'
def KK.wd {K:PySem.W.Frag}{ad ad':List Addr}{H H':Hp}{Q0:DK}{Q:VK}(k:KK K ad H Q0 Q)(w:Wd ad H ad' H'):KK K ad' H' Q0 Q:=fun d S' v H' ad' q w'=>k d S' v H' ad' q (w.trans w')
def up (K:PySem.W.Frag)(t:DE):TE:=fun U H Q=>∃ ad Z S Q0,zL K ad H S/\Zd K ad H Z U/\t Z S Q0/\KK K ad H Q0 Q
def M7 (K:PySem.W.Frag)(t:DT):TT:=fun U H Q=>∃ ad Z S Q0,zL K ad H S/\Zd K ad H Z U/\t Z S Q0/\∀ b S' H' ad',Q0 b S'->Wd ad H ad' H'->zL K ad' H' S'->Q b H'
def j5 (K:PySem.W.Frag)(t:DA):TA:=fun U H Q=>∃ ad Z S Q0,zL K ad H S/\Zd K ad H Z U/\t Z S Q0/\∀ ds S' vs H' ad',Q0 ds S'->Wd ad H ad' H'->zL K ad' H' S'->zE K ad' H' ds vs->Q vs H'
def zL.base {K:PySem.W.Frag}{ad:List Addr}{H:Hp}{S:Z5}(st:zL K ad H S):@zL ⟨ad,H⟩ K ad H S:=@zL.mk ⟨ad,H⟩ _ _ _ _ Wd.refl st.len st.nd st.cell
def zL.back {K:PySem.W.Frag}{ad ad':List Addr}{H H':Hp}{S S':Z5}(st:zL K ad H S)(st':@zL ⟨ad,H⟩ K ad' H' S'):zL K ad' H' S' :=
 ⟨st.wd.trans (@zL.wd ⟨ad,H⟩ _ _ _ _ st'),@zL.len ⟨ad,H⟩ _ _ _ _ st',@zL.nd ⟨ad,H⟩ _ _ _ _ st',@zL.cell ⟨ad,H⟩ _ _ _ _ st'⟩
def KK.base {K:PySem.W.Frag}{ad:List Addr}{H:Hp}{S:Z5}{Q0:DK}{Q:VK}(st:zL K ad H S)(k:KK K ad H Q0 Q):@KK ⟨ad,H⟩ K ad H Q0 Q:=fun d S' v H' ad' q w st' r=>k d S' v H' ad' q w (st.back st') r
def Z4 (K:PySem.W.Frag)(f:ZV):Sp:=fun vs H Q _=>∃ ad S ds Q0,@zL ⟨ad,H⟩ K ad H S/\zE K ad H ds vs/\f ds S Q0/\@KK ⟨ad,H⟩ K ad H Q0 Q
structure RB (K:PySem.W.Frag)(ad:List Addr)(H:Hp)(E0:Hu)(E:Ends):Prop where
 nx:∀ Z S U H' ad',E0.nx Z S->Wd ad H ad' H'->zL K ad' H' S->Zd K ad' H' Z U->E.nx U H'
 rt:KK K ad H E0.rt E.rt
 bk:∀ Z S U H' ad',E0.bk Z S->Wd ad H ad' H'->zL K ad' H' S->Zd K ad' H' Z U->E.bk U H'
 ct:∀ Z S U H' ad',E0.ct Z S->Wd ad H ad' H'->zL K ad' H' S->Zd K ad' H' Z U->E.ct U H'
theorem RB.wd {K:PySem.W.Frag}{ad ad':List Addr}{H H':Hp}{E0:Hu}{E:Ends}(k:RB K ad H E0 E)(w:Wd ad H ad' H'):RB K ad' H' E0 E :=
 ⟨fun Z S U H' ad' q w'=>k.nx Z S U H' ad' q (w.trans w'),k.rt.wd w,fun Z S U H' ad' q w'=>k.bk Z S U H' ad' q (w.trans w'),fun Z S U H' ad' q w'=>k.ct Z S U H' ad' q (w.trans w')⟩
def yM (K:PySem.W.Frag)(t:DS):TS:=fun E U H=>∃ ad Z S E0,zL K ad H S/\Zd K ad H Z U/\t E0 Z S/\RB K ad H E0 E
@[irreducible] def PD (X:Cx)(e:Expr)(t:DE):Prop:=PE X e (up X.K t)
@[irreducible] def WM (X:Cx)(e:Expr)(t:DT):Prop:=PT X e (M7 X.K t)
@[irreducible] def Qm (X:Cx)(e:Expr)(t:DT):Prop:=PW X e (M7 X.K t)
@[irreducible] def PAD (X:Cx)(es:List Expr)(t:DA):Prop:=PA X es (j5 X.K t)
@[irreducible] def Xn (X:Cx)(st:Stmt)(t:DS):Prop:=PS X st (yM X.K t)
@[irreducible] def Wt (X:Cx)(st:List Stmt)(t:DS):Prop:=W6 X st (yM X.K t)
def zuv {X:Cx}{e:Expr}{t t':TE}(h:PE X e t)(m:∀ U H Q,t' U H Q->t U H Q):PE X e t':=fun Z9 s U H Q I q=>h Z9 s U H Q I (m U H Q q)
def KC {X:Cx}{e:Expr}{t t':TT}(h:PT X e t)(m:∀ U H Q,t' U H Q->t U H Q):PT X e t':=fun Z9 s U H Q I q=>h Z9 s U H Q I (m U H Q q)
def uq {X:Cx}{e:Expr}{t t':TT}(h:PW X e t)(m:∀ U H Q,t' U H Q->t U H Q):PW X e t':=fun wh Z9 s U H Q I q=>h wh Z9 s U H Q I (m U H Q q)
def yV {X:Cx}{e:List Expr}{t t':TA}(h:PA X e t)(m:∀ U H Q,t' U H Q->t U H Q):PA X e t':=fun pos Z9 s U H Q I q=>h pos Z9 s U H Q I (m U H Q q)
def Wf {X:Cx}{st:Stmt}{t t':TS}(h:PS X st t)(m:∀ D U H,t' D U H->t D U H):PS X st t':=fun Z9 s U H D I q=>h Z9 s U H D I (m D U H q)
def mW {X:Cx}{st:List Stmt}{t t':TS}(h:W6 X st t)(m:∀ D U H,t' D U H->t D U H):W6 X st t':=fun Z9 s U H D I q=>h Z9 s U H D I (m D U H q)
section
variable {X:Cx}{a b c:Expr}{ta tb tc:DE}{pos:Pos}
def YL {e:Expr}{t:TE}{d:DE}(h:PE X e t)(m:∀ U H Q,up X.K d U H Q->t U H Q):PD X e d:=by with_unfolding_all exact(zuv h m)
def KY {e:Expr}{i:Nat}(h:PE X e (Dh i)):PD X e (W2 i):=by with_unfolding_all exact(YL h fun U H Q ⟨ad,Z,S,Q0,st,rh,⟨d,e,q⟩,k⟩=>by
 obtain⟨v,ev,r⟩:=rh.val i d e
 exact⟨v,ev,k d S v H ad q Wd.refl st r⟩)
def Rg {e:Expr}{v:V}{d:D}(h:PE X e (tC v))(r:∀ ad H,Rel X.K ad H d v):PD X e (dC d):=by with_unfolding_all exact(YL h fun U H Q hh=>Zv hh fun ad Z S Q0 st rh q k=>k d S v H ad q Wd.refl st (r _ _))
def zp {i j}:PD X (.Constant (.int i) j pos) (dC (.int i)):=by with_unfolding_all exact(Rg Ci fun _ _=>.int i)
def Vr {b j}:PD X (.Constant (.bool b) j pos) (dC (.bl b)):=by with_unfolding_all exact(Rg zwV fun _ _=>.bl b)
def Rz {j}:PD X (.Constant .none j pos) (dC .non):=by with_unfolding_all exact(Rg zuH fun _ _=>.non)
def WW {x j}:PD X (.Constant (.str x) j pos) (dC (.str x)):=by with_unfolding_all exact(Rg zuR fun _ _=>.str x)
def Mq {x:Str}{T:String}(hg:Gl X x)(hm:X.mg x=none)(hv:bootBuiltins x=some (.type T))(hn:x≠"__name__":=by decide)(hd:(x==("__debug__":Str))=false:=by decide):PD X (.Name x pos) (dC (.ty T)):=by with_unfolding_all exact(Rg (zx4 hg hm hv hn hd) fun _ _=>.ty T)
def zJ {x:Str}{n:Int}(hg:Gl X x)(hm:∃ t,X.mg x=some (.int n t))(hd:(x==("__debug__":Str))=false:=by decide):PD X (.Name x pos) (dC (.int n)):=by with_unfolding_all exact(Rg (zty hg hm hd) fun _ _=>.int n)
def ztu {x z:Str}(hg:Gl X x)(hm:∃ t,X.mg x=some (.str z t))(hd:(x==("__debug__":Str))=false:=by decide):PD X (.Name x pos) (dC (.str z)):=by with_unfolding_all exact(Rg (by obtain⟨t,hm⟩:=hm;exact yp (v:=.str z) hg hm ⟨t,rfl⟩ hd) fun _ _=>.str z)
def Wk {i j:Int}{m n:Nat}{p1 p2:Pos}(c:Int)(h:i ^ j.toNat=c)(h0:0<=j/\j<=1000000/\i.natAbs<2 ^ 64):PD X (.BinOp (.Constant (.int i) m p1) .Pow (.Constant (.int j) n p2) pos) (dC (.int c)):=by with_unfolding_all exact(Rg (j8 c h h0) fun _ _=>.int c)
def OD (K:PySem.W.Frag)(r':Y6)(r:R2):Prop:=∀ ad H S x y v u Q0 Q,zL K ad H S->Rel K ad H x v->Rel K ad H y u->r' x y S Q0->KK K ad H Q0 Q->r v u H Q
def Ng {K:PySem.W.Frag}{r':Y6}{r:R2}(o:OD K r' r){U:L2.St}{H:Hp}{Q:VK}(h:up K (Z7 r' ta tb) U H Q):Lk r (up K ta) (up K tb) U H Q:=by
 obtain⟨ad,Z,S,Q0,st,rh,q,k⟩:=h
 refine⟨ad,Z,S,_,st,rh,q,fun x S1 v H1 ad1 q1 w1 st1 r1=>?_⟩
 refine⟨ad1,Z,S1,_,st1,rh.wd w1,q1,fun y S2 u H2 ad2 q2 w2 st2 r2=>?_⟩
 exact o ad2 H2 S2 x y v u Q0 Q st2 (r1.wd w2) r2 q2 (k.wd (w1.trans w2))
def Ku {op:Operator}{r':Y6}{r:R2}(ho:Zh X (binaryOp op) r)(o:OD X.K r' r)(ha:PD X a ta)(hb:PD X b tb):PD X (.BinOp a op b pos) (Z7 r' ta tb):=by with_unfolding_all exact(YL (pN ho ha hb) fun _ _ _=>Ng o)
def HF {K:PySem.W.Frag}{C C':Int->Int->Prop}{g:Int->Int->D}{g':Int->Int->V}(hc:∀ i j,C i j->C' i j)(hg:∀ ad H i j,Rel K ad H (g i j) (g' i j)):OD K (oI C g) (rI C' g'):=fun ad H S x y v u Q0 Q st rx ry ⟨i,j,ex,ey,c,q⟩ k=>by
 subst ex ey
 cases rx
 cases ry
 exact⟨i,j,rfl,rfl,hc i j c,k _ S _ H ad q Wd.refl st (hg ad H i j)⟩
def Hs {K:PySem.W.Frag}{g:Int->Int->D}{g':Int->Int->V}(hg:∀ ad H i j,Rel K ad H (g i j) (g' i j)):OD K (Ld g) (Ro g'):=fun ad H S x y v u Q0 Q st rx ry ⟨i,j,ex,ey,q⟩ k=>by
 subst ex ey
 cases rx
 cases ry
 exact⟨i,j,rfl,rfl,k _ S _ H ad q Wd.refl st (hg ad H i j)⟩
def Ao {i:Int}(h:i.natAbs<2 ^ 64):-(2 ^ 64)<i/\i<2 ^ 64:=⟨by lia,by lia⟩
def zyh (i j:Int):Prop:=YM i j
def zut:Zh X (binaryOp .Mult) (rI zyh fun i j=>.int (i*j)):=Ma fun i j _ _ _ _ _ hc q=>by
 rcases hc with h|h|h
 ·exact mul_int q (IntMulOk.of_bits (xU h.1) (xU h.2))
 ·exact mul_int q (GJ.ok (.inl (Ao h)))
 ·exact mul_int q (GJ.ok (.inr (Ao h)))
def zZ (ha:PD X a ta)(hb:PD X b tb):PD X (.BinOp a .Sub b pos) (Z7 Zo ta tb):=by with_unfolding_all exact(Ku zwn (Hs fun _ _ i j=>.int (i-j)) ha hb)
def zwG {z:Str}{n:Int}(hz:z.length<=1000)(h0:-1000<=n)(h1:n<=1000):MulOk z n:=by
 refine⟨?_,fun _ _=>?_,fun h _=>?_⟩
 ·rw[decide_eq_false (by lia),decide_eq_false (by lia)];rfl
 ·have:(1000:Int)<=(2 ^ 63-1)/n\/n<1:=by
   rcases Qj n 1 with g|g
   ·exact .inr g
   ·exact .inl ((Ef (by lia)).mpr (by lia))
  lia
 ·have:z.length*n.toNat<=1000*1000:=MP hz (by lia)
  have hs:z.length*n.toNat<=sizeLine:=Xi this (by decide)
  first
   |exact decide_eq_false (by lia)
   |(unfold tooLong;exact decide_eq_false (by lia))
   |simp[tooLong];lia
def gF:Zh X (binaryOp .Mult) (fun x y H Q=>∃ z n,x=.str z/\y=.int n/\MulOk z n/\Q (.str (Txt.mul z n)) H):=by
 intro Z9 s U H x y v u Q I rx ry h
 obtain⟨z,n,rfl,rfl,ok,q⟩:=h
 obtain⟨t,rfl⟩:=rx
 obtain⟨t',rfl⟩:=ry
 exact SB.mul ok fun t' k=>⟨.str (Txt.mul z n),H,I.tok _,⟨_,rfl⟩,q⟩
omit B in
def mO {i:Int}(h:Hg i):Builtin.Int.intBits i<=2 ^ 20:=by
 unfold Hg at h
 exact intBits_le h
omit B in
def zsX {i:Int}(h:Builtin.Int.intBits i<=2 ^ 20):Hg i:=by
 unfold Hg
 exact qD (natAbs_lt_pow_bits i) (Nat.pow_le_pow_right (by decide) h)
def ztU:Zh X (binaryOp .Mult) (rI (fun i j=>Hg i/\Hg j) fun i j=>.int (i*j)):=Ma fun i j _ _ _ _ _ hc q=>mul_int q (IntMulOk.of_bits (mO hc.1) (mO hc.2))
def Yl (ha:PD X a ta)(hb:PD X b tb):PD X (.BinOp a .Mult b pos) (Z7 Yw ta tb):=by with_unfolding_all exact(Ku (zut.or (gF.or ztU)) (fun ad H S x y v u Q0 Q st rx ry h k=>by
 rcases h with h|⟨z,n,rfl,rfl,hz,h0,h1,q⟩|h
 ·exact .inl (HF (fun _ _ h=>h) (fun _ _ i j=>.int (i*j)) ad H S x y v u Q0 Q st rx ry h k)
 ·cases rx
  cases ry
  exact .inr (.inl ⟨z,n,rfl,rfl,zwG hz h0 h1,k _ S _ H ad q Wd.refl st (.str _)⟩)
 ·exact .inr (.inr (HF (fun _ _ h=>h) (fun _ _ i j=>.int (i*j)) ad H S x y v u Q0 Q st rx ry h k))) ha hb)
def Ym (ha:PD X a ta)(hb:PD X b tb):PD X (.BinOp a .FloorDiv b pos) (Z7 oDiv ta tb):=by with_unfolding_all exact(Ku zqV (HF (fun _ _ h=>h) fun _ _ i j=>.int (i.fdiv j)) ha hb)
def Y0 (ha:PD X a ta)(hb:PD X b tb):PD X (.BinOp a .Mod b pos) (Z7 oMod ta tb):=by with_unfolding_all exact(Ku zs5 (HF (fun _ _ h=>h) fun _ _ i j=>.int (i.fmod j)) ha hb)
def Ua {n:Nat}(h:n<=big):n<=sizeLine:=Xi h (by decide)
def Jx {n:Nat}(h:n<big):n<sizeLine:=qD h (by decide)
def PJ {K:PySem.W.Frag}{ad:List Addr}{H:Hp}{S:Z5}{Q0:DK}{Q:VK}{ds:List D}{vs:List V}(st:zL K ad H S)(k:KK K ad H Q0 Q)(r:zE K ad H ds vs)(q:Q0 (.ref S.length) (S++[.lst ds]))(l:Addr)(h:H l=none):Q (.ref l) (upd H l (.lst vs)) :=
 k _ _ _ _ _ q (Wd.newL st h) (st.newL h r) st.newRef
def Gj {K:PySem.W.Frag}{ad:List Addr}{H:Hp}{S:Z5}{Q0:DK}{Q:VK}{ds:List D}{vs:List V}(st:zL K ad H S)(k:KK K ad H Q0 Q)(r:zE K ad H ds vs)(q:Q0 (.tup ds) S)(l:Addr)(h:H l=none):Q (.ref l) (upd H l (.tup vs)) :=
 k _ _ _ _ _ q (Wd.laid h) (st.laid h) (.tup X7 (r.wd (Wd.laid h)))
def zW (ha:PD X a ta)(hb:PD X b tb):PD X (.BinOp a .Add b pos) (Z7 Zz ta tb):=by with_unfolding_all exact(Ku (zvu.or ((zrD rfl).or ((zt1 rfl).or znM))) (fun ad H S x y v u Q0 Q st rx ry h k=>by
  rcases h with⟨i,j,rfl,rfl,q⟩|⟨xs,ys,rfl,rfl,hz,q⟩|⟨xs,ys,hx,hy,hz,q⟩|⟨i,j,rfl,rfl,hz,q⟩
  ·cases rx
   cases ry
   exact .inl ⟨i,j,rfl,rfl,k _ S _ H ad q Wd.refl st (.int _)⟩
  ·cases rx with
   |tup h1 r1 =>
    cases ry with
    |tup h2 r2 =>
     have l1:=r1.length
     have l2:=r2.length
     refine .inr (.inl ⟨_,_,_,_,rfl,rfl,ZL.of h1,ZL.of h2,by rw[<- l1,<- l2];exact Ua hz,fun e=>?_,fun _ e=>?_,fun _ _ p hp=>Gj st k (r1.append r2) q p hp⟩)
     ·have e':xs=[]:=Rt.mp (by rw[l1,e];rfl)
      subst e'
      exact k _ S _ H ad q Wd.refl st (.tup h2 r2)
     ·have e':ys=[]:=Rt.mp (by rw[l2,e];rfl)
      subst e'
      rw[qV]at q
      exact k _ S _ H ad q Wd.refl st (.tup h1 r1)
  ·obtain⟨a1,vs1,rfl,s1,r1⟩:=hx.sq st rx
   obtain⟨a2,vs2,rfl,s2,r2⟩:=hy.sq st ry
   exact .inr (.inr (.inl ⟨_,_,_,_,rfl,rfl,s1,s2,by rw[<- r1.length,<- r2.length];exact Ua hz,fun p hp=>PJ st k (r1.append r2) q p hp⟩))
  ·cases rx
   cases ry
   exact .inr (.inr (.inr ⟨i,j,rfl,rfl,Ua hz,k _ S _ H ad q Wd.refl st (.str _)⟩))) ha hb)
def Yh (ha:PD X a ta):PD X (.UnaryOp .USub a pos) (Yp Yo ta):=by with_unfolding_all exact(YL (iT zvO ha) fun U H Q hh=>Zv hh fun ad Z S Q0 st rh q k=>by
 refine⟨ad,Z,S,_,st,rh,q,fun x S1 v H1 ad1 q1 w1 st1 r1=>?_⟩
 obtain⟨i,rfl,q1⟩:=q1
 cases r1
 exact⟨i,rfl,k _ _ _ _ _ q1 w1 st1 (.int _)⟩)
def OC (X:Cx)(op:CmpOp)(r':Y6):Prop:=∃ r,Zh X (compareOp op) r/\OD X.K r' r
def Xy:OC X .Lt oLt:=⟨_,zxl,Hs fun _ _ _ _=>.bl _⟩
def Vb:OC X .LtE oLe:=⟨_,zym,Hs fun _ _ _ _=>.bl _⟩
def W3:OC X .Gt Xm:=⟨_,zxZ,Hs fun _ _ _ _=>.bl _⟩
mutual
def YS:D->PyData
 |.non=>.none
 |.bl b=>.bool b
 |.int i=>.int i
 |.str x=>.str x
 |.tup xs=>.tuple (Zf xs)
 |.ref _=>.none
 |.ty _=>.none
 |.rl _=>.none
 |.exn _=>.none
def Zf:List D->List PyData
 |[]=>[]
 |x::xs=>YS x::Zf xs
end
section
variable {Z9:List (Addr×Obj)}{U:L2.St}{H:Hp}{s:Shared}{ad:List Addr}
def Ob (I:Inv X Z9 U H s)(k:Nat)(h1:∀ d v u,fl k d=true->Rel X.K ad H d v->RelV v u->∃ as,Reads s.heap u (YS d) as):∀ ds vs us,ds.all (fl k)=true->zE X.K ad H ds vs->Vals vs us->∃ as,ReadsAll s.heap us (Zf ds) as:=by
 intro ds
 induction ds with
 |nil=>intro vs us _ r rv;cases r;cases rv;exact⟨_,.nil⟩
 |cons d ds ih =>
  intro vs us hf r rv
  rw[Uy,qG]at hf
  cases r with
  |cons r t =>
   cases rv with
   |cons q qt =>
    obtain⟨as,ra⟩:=h1 d _ _ hf.1 r q
    obtain⟨bs,rb⟩:=ih _ _ hf.2 t qt
    exact⟨_,.cons ra rb⟩
def T9 (I:Inv X Z9 U H s):∀ (k:Nat) (d:D) (v:V) (u:Value),fl k d=true->Rel X.K ad H d v->RelV v u->∃ as,Reads s.heap u (YS d) as:=by
 intro k
 induction k with
 |zero =>
  intro d v u hf r q
  cases r with
  |non=>cases q;exact⟨_,.none⟩
  |bl b=>cases q;exact⟨_,.bool b⟩
  |int i=>obtain⟨t,rfl⟩:=q;exact⟨_,.int i t⟩
  |str x=>obtain⟨t,rfl⟩:=q;exact⟨_,.str x t⟩
  |ty n=>cases hf
  |tup h r=>cases hf
  |rl h r=>cases hf
  |ref h=>cases hf
  |exn _ _ _=>cases hf
 |succ k ih =>
  intro d v u hf r q
  cases r with
  |non=>cases q;exact⟨_,.none⟩
  |bl b=>cases q;exact⟨_,.bool b⟩
  |int i=>obtain⟨t,rfl⟩:=q;exact⟨_,.int i t⟩
  |str x=>obtain⟨t,rfl⟩:=q;exact⟨_,.str x t⟩
  |ty n=>cases hf
  |tup h r =>
   cases q
   obtain⟨its,rv,ht,hz⟩:=I.tuple (ZL.of h)
   obtain⟨o,ho,hc,n,hd⟩:=ht
   obtain⟨as,ra⟩:=Ob I k ih _ _ _ hf r rv
   exact⟨_,.tuple ho hc hd (by simpa using ra)⟩
  |rl h r=>cases hf
  |ref h=>cases hf
  |exn _ _ _=>cases hf
end
def Lz:∀ (k:Nat) (d:D),fl k d=true->(YS d).canLay0=true/\(YS d).depth<=k:=by
 have all:∀ k,(∀ d,fl k d=true->(YS d).canLay0=true/\(YS d).depth<=k)->∀ ds:List D,ds.all (fl k)=true->PyData.canLayAll0 (Zf ds)=true/\PyData.depthAll (Zf ds)<=k:=by
  intro k h ds
  induction ds with
  |nil=>intro _;exact⟨rfl,qO _⟩
  |cons d ds ih =>
   intro hf
   rw[Uy,qG]at hf
   obtain⟨a1,a2⟩:=h d hf.1
   obtain⟨b1,b2⟩:=ih hf.2
   refine⟨?_,?_⟩
   ·show(PyData.canLay0 (YS d)&&PyData.canLayAll0 (Zf ds))=true
    rw[a1,b1];rfl
   ·show max (PyData.depth (YS d)) (PyData.depthAll (Zf ds))<=k
    exact Nat.max_le.mpr ⟨a2,b2⟩
 intro k
 induction k with
 |zero =>
  intro d hf
  cases d with
  |non=>exact⟨rfl,qO _⟩
  |bl b=>exact⟨rfl,qO _⟩
  |int i=>exact⟨rfl,qO _⟩
  |str x=>exact⟨hf,qO _⟩
  |tup xs=>cases hf
  |ref n=>cases hf
  |exn _=>cases hf
  |ty n=>cases hf
  |rl xs=>cases hf
 |succ k ih =>
  intro d hf
  cases d with
  |non=>exact⟨rfl,qO _⟩
  |bl b=>exact⟨rfl,qO _⟩
  |int i=>exact⟨rfl,qO _⟩
  |str x=>exact⟨hf,qO _⟩
  |tup xs =>
   obtain⟨h1,h2⟩:=all k ih xs hf
   refine⟨h1,?_⟩
   show PyData.depthAll (Zf xs)+1<=k+1
   lia
  |ref n=>cases hf
  |exn _=>cases hf
  |ty n=>cases hf
  |rl xs=>cases hf
def K6 (k:Nat):∀ ds:List D,ds.all (fl k)=true->PyData.canLayAll0 (Zf ds)=true/\PyData.depthAll (Zf ds)<=k:=by
 intro ds
 induction ds with
 |nil=>intro _;exact⟨rfl,qO _⟩
 |cons d ds ih =>
  intro hf
  rw[Uy,qG]at hf
  obtain⟨a1,a2⟩:=Lz k d hf.1
  obtain⟨b1,b2⟩:=ih hf.2
  refine⟨?_,?_⟩
  ·show(PyData.canLay0 (YS d)&&PyData.canLayAll0 (Zf ds))=true
   rw[a1,b1];rfl
  ·show max (PyData.depth (YS d)) (PyData.depthAll (Zf ds))<=k
   exact Nat.max_le.mpr ⟨a2,b2⟩
mutual
theorem Gx:∀ (k:Nat) (x y:D),fl k x=true->fl k y=true->PyData.eqv (YS x) (YS y)=eqv x y
  |k,.non,y,_,hy=>by cases y<;>first|rfl|(cases k<;>cases hy)
  |k,.bl a,y,_,hy=>by cases y<;>first|rfl|(cases k<;>cases hy)
  |k,.int i,y,_,hy=>by
    cases y with
    |int j=>show(i==j)=decide (i=j);rw[Bool.beq_eq_decide_eq]
    |ref n=>cases k<;>cases hy
    |exn n=>cases k<;>cases hy
    |ty n=>cases k<;>cases hy
    |rl n=>cases k<;>cases hy
    |_=>rfl
  |k,.str a,y,_,hy=>by cases y<;>first|rfl|(cases k<;>cases hy)
  |0,.tup xs,y,hx,_=>by cases hx
  |k+1,.tup xs,y,hx,hy=>by
    cases y with
    |tup ys=>exact HB k xs ys hx hy
    |ref n=>cases hy
    |ty n=>cases hy
    |rl n=>cases hy
    |_=>rfl
  |k,.ref n,y,hx,_=>by cases k<;>cases hx
  |k,.ty n,y,hx,_=>by cases k<;>cases hx
  |k,.rl n,y,hx,_=>by cases k<;>cases hx
  |k,.exn n,y,hx,_=>by cases k<;>cases hx
theorem HB:∀ (k:Nat) (xs ys:List D),xs.all (fl k)=true->ys.all (fl k)=true->PyData.eqvAll (Zf xs) (Zf ys)=eqvAll xs ys
  |k,[],[],_,_=>rfl
  |k,[],y::ys,_,_=>rfl
  |k,x::xs,[],_,_=>rfl
  |k,x::xs,y::ys,hx,hy=>by
    rw[Uy,qG]at hx hy
    show(PyData.eqv (YS x) (YS y)&&PyData.eqvAll (Zf xs) (Zf ys))=(eqv x y&&eqvAll xs ys)
    rw[Gx k x y hx.1 hy.1,HB k xs ys hx.2 hy.2]
end
def VN (xss:List (List D)):List PyData:=xss.map fun zs=>.list (Zf zs)
theorem Bo:∀ xss:List (List D),Wo xss=true->PyData.canLayAll0 (VN xss)=true/\PyData.depthAll (VN xss)<=21
 |[],_=>⟨rfl,qO _⟩
 |zs::xss,h=>by
  unfold Wo at h
  rw[Uy,qG]at h
  obtain⟨a1,a2⟩:=K6 20 zs h.1
  obtain⟨b1,b2⟩:=Bo xss h.2
  refine⟨?_,?_⟩
  ·show(PyData.canLayAll0 (Zf zs)&&PyData.canLayAll0 (VN xss))=true
   rw[a1,b1];rfl
  ·show max (PyData.depthAll (Zf zs)+1) (PyData.depthAll (VN xss))<=21
   exact Nat.max_le.mpr ⟨by lia,b2⟩
theorem lE:∀ xss yss:List (List D),Wo xss=true->Wo yss=true->PyData.eqvAll (VN xss) (VN yss)=eqvAll (xss.map D.tup) (yss.map D.tup)
 |[],[],_,_=>rfl
 |[],_::_,_,_=>rfl
 |_::_,[],_,_=>rfl
 |zs::xss,ws::yss,h,k=>by
  unfold Wo at h k
  rw[Uy,qG]at h k
  show(PyData.eqvAll (Zf zs) (Zf ws)&&PyData.eqvAll (VN xss) (VN yss))=(eqvAll zs ws&&eqvAll (xss.map D.tup) (yss.map D.tup))
  rw[HB 20 zs ws h.1 k.1,lE xss yss h.2 k.2]
theorem Dq {Z9:List (Addr×Obj)}{U:L2.St}{H:Hp}{s:Shared}{ad:List Addr}{S:Z5}(I:Inv X Z9 U H s)(st:zL X.K ad H S):∀ (xs:List D) (xss:List (List D)) (vs:List V) (us:List Value),Sx S xs xss->Wo xss=true->zE X.K ad H xs vs->Vals vs us->∃ as,ReadsAll s.heap us (VN xss) as
 |[],[],_,_,_,_,r,rv=>by cases r;cases rv;exact⟨_,.nil⟩
 |[],_::_,_,_,h,_,_,_=>h.elim
 |_::_,[],_,_,h,_,_,_=>h.elim
 |x::xs,zs::xss,_,_,h,f,r,rv=>by
  unfold Wo at f
  rw[Uy,qG]at f
  cases r with
  |cons r t =>
   obtain⟨a1,vs1,rfl,s1,r1⟩:=h.1.sq st r
   cases rv with
   |cons q qt =>
    cases q
    obtain⟨its,rv1,ht,hz⟩:=I.list s1
    obtain⟨o,ho,hc,n,hd⟩:=ht.isList
    obtain⟨as,ra⟩:=Ob I 20 (T9 I 20) _ _ _ f.1 r1 rv1
    obtain⟨bs,rb⟩:=Dq I st xs xss _ _ h.2 f.2 t qt
    exact⟨_,.cons (.list ho hc hd (by simpa using ra)) rb⟩
def xW (X:Cx)(g:Bool->Bool):R2:=fun x y H Q=>∃ ad S dx dy b,zL X.K ad H S/\Rel X.K ad H dx x/\Rel X.K ad H dy y/\Gk S dx dy b/\Q (.bl (g b)) H
def yW {Z9:List (Addr×Obj)}{U:L2.St}{H:Hp}{s:Shared}{ad:List Addr}{S:Z5}{dx dy:D}{x y:V}{v u:Value}{b:Bool}(I:Inv X Z9 U H s)(st:zL X.K ad H S)(rx:Rel X.K ad H dx x)(ry:Rel X.K ad H dy y)(qx:RelV x v)(qy:RelV y u)(h:Gk S dx dy b) :
  ∃ px py as bs,Reads s.heap v px as/\Reads s.heap u py bs/\px.canLay0=true/\py.canLay0=true/\min px.depth py.depth<=60/\PyData.eqv px py=b:=by
 rcases h with⟨fx,fy,rfl⟩|⟨xs,ys,hx,hy,fx,fy,rfl⟩|⟨xs,ys,xss,yss,hx,hy,lx,ly,fx,fy,rfl⟩
 ·obtain⟨as,ra⟩:=T9 I 20 dx x v fx rx qx
  obtain⟨bs,rb⟩:=T9 I 20 dy y u fy ry qy
  obtain⟨c1,d1⟩:=Lz 20 dx fx
  obtain⟨c2,d2⟩:=Lz 20 dy fy
  exact⟨_,_,as,bs,ra,rb,c1,c2,by lia,Gx 20 dx dy fx fy⟩
 ·obtain⟨a1,vs1,rfl,s1,r1⟩:=hx.sq st rx
  obtain⟨a2,vs2,rfl,s2,r2⟩:=hy.sq st ry
  cases qx
  cases qy
  obtain⟨its,rv,ht,hz⟩:=I.list s1
  obtain⟨its2,rv2,ht2,hz2⟩:=I.list s2
  obtain⟨o,ho,hc,n,hd⟩:=ht.isList
  obtain⟨o2,ho2,hc2,n2,hd2⟩:=ht2.isList
  obtain⟨as,ra⟩:=Ob I 20 (T9 I 20) _ _ _ fx r1 rv
  obtain⟨bs,rb⟩:=Ob I 20 (T9 I 20) _ _ _ fy r2 rv2
  obtain⟨c1,d1⟩:=K6 20 xs fx
  obtain⟨c2,d2⟩:=K6 20 ys fy
  refine⟨.list (Zf xs),.list (Zf ys),_,_,.list ho hc hd (by simpa using ra),.list ho2 hc2 hd2 (by simpa using rb),c1,c2,?_,HB 20 xs ys fx fy⟩
  show min (PyData.depthAll (Zf xs)+1) (PyData.depthAll (Zf ys)+1)<=60
  lia
 ·obtain⟨a1,vs1,rfl,s1,r1⟩:=hx.sq st rx
  obtain⟨a2,vs2,rfl,s2,r2⟩:=hy.sq st ry
  cases qx
  cases qy
  obtain⟨its,rv,ht,hz⟩:=I.list s1
  obtain⟨its2,rv2,ht2,hz2⟩:=I.list s2
  obtain⟨o,ho,hc,n,hd⟩:=ht.isList
  obtain⟨o2,ho2,hc2,n2,hd2⟩:=ht2.isList
  obtain⟨as,ra⟩:=Dq I st xs xss _ _ lx fx r1 rv
  obtain⟨bs,rb⟩:=Dq I st ys yss _ _ ly fy r2 rv2
  obtain⟨c1,d1⟩:=Bo xss fx
  obtain⟨c2,d2⟩:=Bo yss fy
  refine⟨.list (VN xss),.list (VN yss),_,_,.list ho hc hd (by simpa using ra),.list ho2 hc2 hd2 (by simpa using rb),c1,c2,?_,lE xss yss fx fy⟩
  show min (PyData.depthAll (VN xss)+1) (PyData.depthAll (VN yss)+1)<=60
  lia
def W5 {k:Nat}(hr:Zj k X.A):OC X .Eq oEq:=⟨xW X id,fun Z9 s U H x y v u Q I qx qy ⟨ad,S,dx,dy,b,st,rx,ry,h,q⟩=>by
  obtain⟨px,py,as,bs,ra,rb,c1,c2,hd,e⟩:=yW I st rx ry qx qy h
  have hu:=hr.units
  exact PySem.SeqAt.rcAt_reads ra rb c1 c2 (by lia) X.prog X.w X.xe _ ⟨.bl _,H,I,by rw[e];rfl,q⟩,
 fun ad H S x y v u Q0 Q st rx ry ⟨b,h,q⟩ k=>⟨ad,S,x,y,b,st,rx,ry,h,k _ S _ H ad q Wd.refl st (.bl _)⟩⟩
def Rb {k:Nat}(hr:Zj k X.A):OC X .NotEq U9:=⟨xW X (!·),fun Z9 s U H x y v u Q I qx qy ⟨ad,S,dx,dy,b,st,rx,ry,h,q⟩=>by
  obtain⟨px,py,as,bs,ra,rb,c1,c2,hd,e⟩:=yW I st rx ry qx qy h
  have hu:=hr.units
  exact PySem.SeqAt.rcNeAt_reads ra rb c1 c2 (by lia) X.prog X.w X.xe _ ⟨.bl _,H,I,by rw[e];rfl,q⟩,
 fun ad H S x y v u Q0 Q st rx ry ⟨b,h,q⟩ k=>⟨ad,S,x,y,b,st,rx,ry,h,k _ S _ H ad q Wd.refl st (.bl _)⟩⟩
def zpq {K:PySem.W.Frag}{ad:List Addr}{H:Hp}{d:D}{v:V}(r:Rel K ad H d v):decide (v=.non)=Kg d:=by
  cases r<;>rfl
def zsZ:Zh X (compareOp .IsNot) (rB0 fun i j=>.bl (!(i==j))):=fun Z9 s U H x y v u Q I rx ry ⟨i,j,ex,ey,q⟩=>by
 subst ex ey
 cases rx
 cases ry
 exact isnot_bool ⟨.bl _,H,I,rfl,q⟩
def Kl:OC X .IsNot RW:=⟨_,zvW.or zsZ,fun ad H S x y v u Q0 Q st rx ry h k=>by
 rcases h with⟨rfl,q⟩|⟨a,b,rfl,rfl,q⟩
 ·cases ry
  exact .inl ⟨rfl,by rw[zpq rx];exact k _ S _ H ad q Wd.refl st (.bl _)⟩
 ·cases rx
  cases ry
  exact .inr ⟨a,b,rfl,rfl,k _ S _ H ad q Wd.refl st (.bl _)⟩⟩
def Tg {op:CmpOp}{r':Y6}(o:OC X op r')(ha:PD X a ta)(hb:PD X b tb)(h:op≠.In:=by decide)(h2:op≠.NotIn:=by decide):PD X (.Compare a [op] [b] pos) (Z7 r' ta tb):=by
 with_unfolding_all
  obtain⟨r,ho,od⟩:=o
  exact YL (oO ho ha hb (vf _ h h2)) fun _ _ _=>Ng od
def zK {op:CmpOp}{r':Y6}(o:OC X op r')(ha:PD X a ta)(hb:PD X b tb)(h:op≠.In:=by decide)(h2:op≠.NotIn:=by decide):WM X (.Compare a [op] [b] pos) (dT (Z7 r' ta tb)):=by
 with_unfolding_all
  obtain⟨r,ho,od⟩:=o
  refine KC (tK ho ha hb (vf _ h h2)) fun U H Q hh=>Zv hh fun ad Z S Q0 st rh q k=>?_
  refine Ng (Q:=fun x H'=>∃ k,x=.bl k/\Q k H') od ⟨ad,Z,S,_,st,rh,q,fun d S' v H' ad' ⟨b,e,q'⟩ w st' r=>?_⟩
  subst e
  cases r
  exact⟨b,rfl,k b S' H' ad' q' w st'⟩
def zqQ {K:PySem.W.Frag}{r1' r2':Y6}{r1 r2:R2}(o1:OD K r1' r1)(o2:OD K r2' r2){U:L2.St}{H:Hp}{Q:VK}(h:up K (JW r1' r2' ta tb tc) U H Q):vp r1 r2 (up K ta) (up K tb) (up K tc) U H Q:=by
 obtain⟨ad,Z,S,Q0,st,rh,q,k⟩:=h
 refine⟨ad,Z,S,_,st,rh,q,fun x S1 v H1 ad1 q1 w1 st1 rx=>?_⟩
 refine⟨ad1,Z,S1,_,st1,rh.wd w1,q1,fun y S2 u H2 ad2 q2 w2 st2 ry=>?_⟩
 refine o1 ad2 H2 S2 x y v u _ _ st2 (rx.wd w2) ry q2 fun z S3 z' H3 ad3 ⟨c,e,q3⟩ w3 st3 rz=>?_
 subst e
 cases rz
 refine⟨c,rfl,?_⟩
 cases c with
 |true =>
  rw[if_pos rfl]at q3 ⊢
  refine⟨ad3,Z,S3,_,st3,rh.wd ((w1.trans w2).trans w3),q3,fun z S4 z' H4 ad4 q4 w4 st4 rz=>?_⟩
  exact o2 ad4 H4 S4 y z u z' Q0 Q st4 (ry.wd (w3.trans w4)) rz q4 (k.wd (((w1.trans w2).trans w3).trans w4))
 |false =>
  rw[if_neg qu]at q3 ⊢
  exact k _ S3 _ H3 ad3 q3 ((w1.trans w2).trans w3) st3 (.bl _)
def VF {e:Expr}{t:DE}(h:PD X e t)(he:∀ whole,isTrue e X.env whole=(do let v <- whole;standAt e.pos;holding [v] (truthy v)):=by intro _;rfl):WM X e (dT t):=by with_unfolding_all exact(KC (zuB h he) fun U H Q hh=>Zv hh fun ad Z S Q0 st rh q k =>
 ⟨ad,Z,S,_,st,rh,q,fun d S' v H' ad' ⟨b,e,q'⟩ w st' r=>by
  subst e
  cases r
  exact⟨b,rfl,k b S' H' ad' q' w st'⟩⟩)
def zpI {op op':CmpOp}{r1 r2:Y6}(o1:OC X op r1)(o2:OC X op' r2)(ha:PD X a ta)(hb:PD X b tb)(hc:PD X c tc)(hm:lastMarks [op,op'] [b,c]=false:=by with_unfolding_all rfl):WM X (.Compare a [op,op'] [b,c] pos) (dT (JW r1 r2 ta tb tc)):=by
 with_unfolding_all
  obtain⟨s1,h1,d1⟩:=o1
  obtain⟨s2,h2,d2⟩:=o2
  refine KC (zre h1 h2 ha hb hc hm) fun U H Q hh=>Zv hh fun ad Z S Q0 st rh q k=>?_
  refine zqQ (Q:=fun x H'=>∃ k,x=.bl k/\Q k H') d1 d2 ⟨ad,Z,S,_,st,rh,q,fun d S' v H' ad' ⟨b,e,q'⟩ w st' r=>?_⟩
  subst e
  cases r
  exact⟨b,rfl,k b S' H' ad' q' w st'⟩
variable {tA tB':DT}{rest:List Expr}
def U0 (h:WM X a tA):WM X (.UnaryOp .Not a pos) (Wb tA):=by with_unfolding_all exact(KC (zux h) fun U H Q hh=>Zv hh fun ad Z S Q0 st rh q k=>⟨ad,Z,S,_,st,rh,q,fun b S' H' ad' q' w st'=>k _ S' H' ad' q' w st'⟩)
theorem VH {e:Expr}{t:DT}(h:Qm X e t):WM X e t:=by with_unfolding_all exact(h _)
def Py (ha:WM X a tA):Qm X (.BoolOp .And [a] pos) tA:=by with_unfolding_all exact(zui ha)
def QK (ha:WM X a tA):Qm X (.BoolOp .Or [a] pos) tA:=by with_unfolding_all exact(zuI ha)
def Q9 (ha:WM X a tA)(hb:Qm X (.BoolOp .And (b::rest) pos) tB'):Qm X (.BoolOp .And (a::b::rest) pos) (S9 tA tB'):=by with_unfolding_all exact(uq (fZ ha hb) fun U H Q hh=>Zv hh fun ad Z S Q0 st rh q k =>
 ⟨ad,Z,S,_,st,rh,q,fun b S' H' ad' q' w st'=>by
  cases b with
  |true=>rw[if_pos rfl]at q' ⊢;exact⟨ad',Z,S',Q0,st',rh.wd w,q',fun b S' H' ad' q w'=>k b S' H' ad' q (w.trans w')⟩
  |false=>rw[if_neg qu]at q' ⊢;exact k _ S' H' ad' q' w st'⟩)
def QW (ha:WM X a tA)(hb:Qm X (.BoolOp .Or (b::rest) pos) tB'):Qm X (.BoolOp .Or (a::b::rest) pos) (TJ tA tB'):=by with_unfolding_all exact(uq (zxu ha hb) fun U H Q hh=>Zv hh fun ad Z S Q0 st rh q k =>
 ⟨ad,Z,S,_,st,rh,q,fun b S' H' ad' q' w st'=>by
  cases b with
  |false=>rw[if_neg qu]at q' ⊢;exact⟨ad',Z,S',Q0,st',rh.wd w,q',fun b S' H' ad' q w'=>k b S' H' ad' q (w.trans w')⟩
  |true=>rw[if_pos rfl]at q' ⊢;exact k _ S' H' ad' q' w st'⟩)
def JK {op}{t:DE}(h:PD X a t):PD X (.BoolOp op [a] pos) t:=by with_unfolding_all exact(iZ h)
def J1 (ha:PD X a ta)(hb:PD X (.BoolOp .And (b::rest) pos) tb):PD X (.BoolOp .And (a::b::rest) pos) (Nf ta tb):=by with_unfolding_all exact(YL (zww ha hb) fun U H Q hh=>Zv hh fun ad Z S Q0 st rh q k =>
 ⟨ad,Z,S,_,st,rh,q,fun d S' v H' ad' ⟨c,e,q'⟩ w st' r=>by
  subst e
  cases r
  refine⟨c,rfl,?_⟩
  cases c with
  |true=>rw[if_pos rfl]at q' ⊢;exact⟨ad',Z,S',Q0,st',rh.wd w,q',k.wd w⟩
  |false=>rw[if_neg qu]at q' ⊢;exact k _ S' _ H' ad' q' w st' (.bl _)⟩)
def zuN (ha:PD X a ta)(hb:PD X (.BoolOp .Or (b::rest) pos) tb):PD X (.BoolOp .Or (a::b::rest) pos) (Ca ta tb):=by with_unfolding_all exact(YL (zyj ha hb) fun U H Q hh=>Zv hh fun ad Z S Q0 st rh q k =>
 ⟨ad,Z,S,_,st,rh,q,fun d S' v H' ad' ⟨c,e,q'⟩ w st' r=>by
  subst e
  cases r
  refine⟨c,rfl,?_⟩
  cases c with
  |false=>rw[if_neg qu]at q' ⊢;exact⟨ad',Z,S',Q0,st',rh.wd w,q',k.wd w⟩
  |true=>rw[if_pos rfl]at q' ⊢;exact k _ S' _ H' ad' q' w st' (.bl _)⟩)
def GX (ha:PD X a ta):PD X (.UnaryOp .Not a pos) (Np ta):=by with_unfolding_all exact(YL (zvz ha) fun U H Q hh=>Zv hh fun ad Z S Q0 st rh q k =>
 ⟨ad,Z,S,_,st,rh,q,fun d S' v H' ad' ⟨c,e,q'⟩ w st' r=>by
  subst e
  cases r
  exact⟨c,rfl,k _ S' _ H' ad' q' w st' (.bl _)⟩⟩)
def Nm (hc:WM X c tA)(ha:PD X a ta)(hb:PD X b tb):PD X (.IfExp c a b pos) (RL tA ta tb):=by with_unfolding_all exact(YL (zrw hc ha hb) fun U H Q hh=>Zv hh fun ad Z S Q0 st rh q k =>
 ⟨ad,Z,S,_,st,rh,q,fun b S' H' ad' q' w st'=>by
  cases b with
  |true=>rw[if_pos rfl]at q' ⊢;exact⟨ad',Z,S',Q0,st',rh.wd w,q',k.wd w⟩
  |false=>rw[if_neg qu]at q' ⊢;exact⟨ad',Z,S',Q0,st',rh.wd w,q',k.wd w⟩⟩)
end
section
variable {X:Cx}{a b e:Expr}{es:List Expr}{ta tb te:DE}{t:DA}{pos:Pos}
def zj:PAD X [] zF:=by with_unfolding_all exact(yV zwv fun U H Q hh=>Zv hh fun ad Z S Q0 st rh q k=>k [] S [] H ad q Wd.refl st .nil)
def zc (ha:PD X e te)(hr:PAD X es t)(hs:starEach (e::es) X.env=(false,eval e X.env)::starEach es X.env:=by exact Uv rfl):PAD X (e::es) (zf te t):=by with_unfolding_all exact(yV (ztG ha hr hs) fun U H Q hh=>Zv hh fun ad Z S Q0 st rh q k =>
 ⟨ad,Z,S,_,st,rh,q,fun d S1 v H1 ad1 q1 w1 st1 r1=>⟨ad1,Z,S1,_,st1,rh.wd w1,q1,fun ds S2 vs H2 ad2 q2 w2 st2 r2=>k _ S2 _ H2 ad2 q2 (w1.trans w2) st2 (.cons (r1.wd w2) r2)⟩⟩)
def zX {x1}(h:PAD X es t):PD X (.Tuple es x1 pos) (dTup t):=by with_unfolding_all exact(YL (zv6 h) fun U H Q hh=>Zv hh fun ad Z S Q0 st rh q k =>
 ⟨ad,Z,S,_,st,rh,q,fun ds S1 vs H1 ad1 ⟨hz,q1⟩ w1 st1 r1=>⟨by rw[<- r1.length];exact Ua hz,fun p hp=>Gj st1 (k.wd w1) r1 q1 p hp⟩⟩)
def Yt (h:PAD X es t):PD X (.List es pos) (Yz t):=by with_unfolding_all exact(YL (zwJ h) fun U H Q hh=>Zv hh fun ad Z S Q0 st rh q k =>
 ⟨ad,Z,S,_,st,rh,q,fun ds S1 vs H1 ad1 ⟨hz,q1⟩ w1 st1 r1=>⟨by rw[<- r1.length];exact Ua hz,fun p hp=>PJ st1 (k.wd w1) r1 q1 p hp⟩⟩)
def zwy {xs:List D}{i:Int}{d:D}(h:Y7 xs i=some d){K:PySem.W.Frag}{ad:List Addr}{H:Hp}{vs:List V}(r:zE K ad H xs vs):∃ v,Qd vs i=some v/\Rel K ad H d v:=by
 have e:Pz vs.length i=Xg xs.length i:=by rw[r.length];rfl
 unfold Y7 at h
 unfold Qd
 rw[e]
 cases q:Xg xs.length i with
 |none=>rw[q]at h;cases h
 |some j =>
  rw[q]at h
  exact r.get h
def zu (ha:PD X a ta)(hb:PD X b tb)(hs:mZ b:=by intro _ _;rfl):PD X (.Subscript a b pos) (Z7 ZX ta tb):=by with_unfolding_all exact(YL (iD (ztt.or (zu7.or zu9)) ha hb hs) fun _ _ _=>Ng fun ad H S x y v u Q0 Q st rx ry h k=>by
 rcases h with⟨i,xs,d,ey,hx,e,q⟩|⟨z,i,c,rfl,rfl,hz,e,q⟩
 case inr =>
  cases rx
  cases ry
  exact .inr (.inr ⟨z,i,c,rfl,rfl,Ua hz,e,k _ S _ H ad q Wd.refl st (.str _)⟩)
 subst ey
 cases ry
 obtain⟨p,vs,rfl,hs,r⟩:=hx.sq st rx
 obtain⟨z,ez,rz⟩:=zwy e r
 rcases hs with hs|hs
 ·exact .inl ⟨p,vs,i,z,rfl,rfl,hs,ez,k _ S _ H ad q Wd.refl st rz⟩
 ·exact .inr (.inl ⟨p,vs,i,z,rfl,rfl,hs,ez,k _ S _ H ad q Wd.refl st rz⟩))
def Gh (K:PySem.W.Frag)(t:Option DE):TO:=fun U H Q=>∃ ad Z S Q0,zL K ad H S/\Zd K ad H Z U/\Qz t Z S Q0/\∀ o S' H' ad',Q0 o S'->Wd ad H ad' H'->zL K ad' H' S'->Q o H'
def Ip:PO X none (Gh X.K none):=fun Z9 s U H Q I hh=>Zv hh fun ad Z S Q0 st rh q k=>ztR Z9 s U H Q I (k none S H ad q Wd.refl st)
def Ka {t:DE}(h:PD X e t):PO X (some e) (Gh X.K (some t)):=by with_unfolding_all exact(fun Z9 s U H Q I hh=>Zv hh fun ad Z S Q0 st rh q k=>ztd h Z9 s U H Q I ⟨ad,Z,S,_,st,rh,q,fun d S' v H' ad' ⟨i,e,q'⟩ w st' r=>by
 subst e
 cases r
 exact⟨i,rfl,k _ S' H' ad' q' w st'⟩⟩)
def uQ {K:PySem.W.Frag}{ad:List Addr}{H:Hp}{xs:List D}{vs:List V}(lo hi:Option Int)(r:zE K ad H xs vs):zE K ad H (cutD xs lo hi) (SN vs lo hi):=by
  have e1:HT.sIx vs.length 0 lo=W8 xs.length 0 lo:=by
    rw[r.length];cases lo with
    |none=>rfl
    |some k=>show HT.sIx _ _ (some k)=_;unfold HT.sIx W8;first|rfl|(simp only[];split<;>lia)
  have e2:HT.sIx vs.length vs.length hi=W8 xs.length xs.length hi:=by
    rw[r.length];cases hi with
    |none=>rfl
    |some k=>show HT.sIx _ _ (some k)=_;unfold HT.sIx W8;first|rfl|(simp only[];split<;>lia)
  unfold cutD SN
  rw[e1,e2]
  exact(r.drop _).take _
def zyg (K:PySem.W.Frag):V->Option Int->Option Int->Hp->VK->Prop:=fun x lo hi H Q=>∃ a xs,x=.ref a/\ZL K H a xs /\
 ((HT.sIx xs.length 0 lo=0/\HT.sIx xs.length xs.length hi=xs.length)->Q (.ref a) H)/\(¬ (HT.sIx xs.length 0 lo=0/\HT.sIx xs.length xs.length hi=xs.length)->∀ p,H p=none->Q (.ref p) (upd H p (.tup (SN xs lo hi))))
def zkz {prog:Program}{w:World}{A:Around}{E:Value->Shared->Prop}{s:Shared}{t sl:Addr}{items:Array Value}{vl vu:Value}{lo hi:Option Int}{Q:Value->Shared->Prop}(ht:IsTup s.heap t items)(hs:s.heap.IsSliceOf sl vl vu .none)(pl:IsPart vl lo)(pu:IsPart vu hi)
  (hw:HT.sIx items.size 0 lo=0/\HT.sIx items.size items.size hi=items.size) (h:Q (.ref t) s):wpAny (model prog w) A (getItem (.ref t) (.ref sl)) Q E s:=by
 obtain⟨os,hos,hcs,hds⟩:=id hs
 have hTs:s.TypeIs (.ref sl) "slice":=⟨os,hos,hcs⟩
 unfold getItem
 try with_reducible refine wpAny_holding ?_
 first|refine wpAny_bind (wpAny_pure ?_)|skip
 refine wpAny_bind (wpAny_sequenceKey ht.typeIs (by decide) ?_)
 refine wpAny_bind (wpAny_callSpecial?_slot (name:=Str.ofString "__getitem__") ht.typeIs PyProof.Rows.slot_tuple_getitem
  (wpAny_call_entry PyProof.Rows.slot_tuple_getitem ht.typeIs PyProof.Rows.entry_tuple_getitem ?_ (PyProof.Rows.args_tuple_getitem _ _)))
 show wpAny _ _ (Builtin.Tuple.tupleItemsOf (.ref t) >>= _) _ _ s
 refine wpAny_bind (tupleItemsOf_ ht ?_)
 refine wpAny_bind (wpAny_typeOf hTs ?_)
 rw[if_pos (by decide)]
 refine wpAny_bind (HT.tU hs pl pu ?_)
 show wpAny _ _ (if(((HT.sIx items.size 0 lo:Nat):Int)==0&&(1:Int)==1&&(HT.sIx items.size items.size hi-HT.sIx items.size 0 lo)==items.size)=true then _ else _) _ _ s
 rw[if_pos (by rw[hw.1,hw.2];simp)]
 unfold Builtin.Tuple.tupleIsExact
 refine wpAny_bind (wpAny_bind (wpAny_typeOf ht.typeIs (wpAny_pure ?_)))
 rw[if_pos (by decide)]
 refine wpAny_bind (wpAny_rule ?_)
 first
  |exact wpAny_pure ⟨_,rfl,wpAny_pure h⟩
  |exact wpAny_bind (wpAny_pure ⟨_,rfl,wpAny_pure h⟩)
  |exact wpAny_bind (wpAny_pure (wpAny_pure ⟨_,rfl,wpAny_pure h⟩))
  |trace_state
def zuh:Tp X (zyg X.K):=by
 intro Z9 s U H x v vl vu lo hi sl Q I rx hs pl pu h
 obtain⟨a,xs,rfl,hx,q1,q2⟩:=h
 by_cases hw:HT.sIx xs.length 0 lo=0/\HT.sIx xs.length xs.length hi=xs.length
 ·cases rx
  obtain⟨its,r,ht,hz⟩:=I.tuple hx
  have hlen:its.toArray.size=xs.length:=by rw[qo];exact r.length.symm
  refine⟨"tuple",_,PyProof.Rows.slot_tuple_getitem.lookup,ht.typeIs,?_⟩
  exact zkz ht hs pl pu (by rw[hlen];exact hw) ⟨.ref a,H,I,rfl,q1 hw⟩
 ·exact zvK Z9 s U H (.ref a) v vl vu lo hi sl Q I rx hs pl pu ⟨a,xs,rfl,hx,hw,q2 hw⟩
def zpL {α:Type}(xs:List α)(lo hi:Option Int)(h1:W8 xs.length 0 lo=0)(h2:W8 xs.length xs.length hi=xs.length):cutD xs lo hi=xs:=by
 unfold cutD;rw[h1,h2];simp
def Fw (n d:Nat)(o:Option Int):HT.sIx n d o=W8 n d o:=by
 cases o with
 |none=>rfl
 |some k=>rfl
def JL {lo hi:Option Expr}{tl th:Option DE}{p2:Pos}(ha:PD X a ta)(hl:PO X lo (Gh X.K tl))(hh:PO X hi (Gh X.K th)):PD X (.Subscript a (.Slice lo hi none p2) pos) (Nq QG ta tl th):=by with_unfolding_all exact(YL (zrn (zsN.or (zuh.or jy)) ha hl hh) fun U H Q hh=>Zv hh fun ad Z S Q0 st rh q k =>
 ⟨ad,Z,S,_,st,rh,q,fun x S1 v H1 ad1 q1 w1 st1 r1=>⟨ad1,Z,S1,_,st1,rh.wd w1,q1,fun l S2 H2 ad2 q2 w2 st2=>⟨ad2,Z,S2,_,st2,rh.wd (w1.trans w2),q2,fun h S3 H3 ad3 q3 w3 st3=>by
  have r3:=r1.wd (w2.trans w3)
  have k3:=k.wd ((w1.trans w2).trans w3)
  rcases q3 with⟨xs,rfl,q3⟩|⟨xs,hx,q3⟩|⟨z,rfl,hz,q3⟩
  ·cases r3 with
   |tup h1 r =>
    refine .inr (.inl ⟨_,_,rfl,ZL.of h1,fun⟨z1,z2⟩=>?_,fun _ p hp=>Gj st3 k3 (uQ _ _ r) q3 p hp⟩)
    rw[Fw,<- r.length]at z1 z2
    rw[zpL xs _ _ z1 z2]at q3
    exact k3 _ S3 _ H3 ad3 q3 Wd.refl st3 (.tup h1 r)
  ·obtain⟨p,vs,rfl,hs,r⟩:=hx.sq st3 r3
   exact .inl ⟨p,vs,rfl,hs,fun l hl=>PJ st3 k3 (uQ _ _ r) q3 l hl⟩
  ·cases r3
   refine .inr (.inr ⟨z,rfl,Ua hz,?_⟩)
   have e:(⟨((z.cps.toList.drop (HT.sIx z.length 0 l)).take (HT.sIx z.length z.length h-HT.sIx z.length 0 l)).toArray⟩:Str)=DP z l h:=by
    unfold DP cutD
    rw[Fw,Fw,show z.length=z.cps.toList.length from qS.symm]
   rw[e]
   exact k3 _ S3 _ H3 ad3 q3 Wd.refl st3 (.str _)⟩⟩⟩)
end
end Dp
namespace Dp
open PySem PySem.Spec PyProof.Rows L2 My
variable [B:Bs]
section
variable {X:Cx}{a e:Expr}{es:List Expr}{ta te:DE}{t:DA}{pos p:Pos}
def zB {k j:Nat}{x:Str}{ps:List Str}{f:ZV}(G:Got X.prog X.w X.K X.mg X.base k x ps (Z4 X.K f))(hr:Zj j X.A)
  (ha:PAD X (e::es) t) (hk:k<=j:=by decide) (hg:Gl X x:=by rfl) (hdb:(x==("__debug__":Str))=false:=by decide) (he:starEach (e::es) X.env=(false,eval e X.env)::starEach es X.env:=by exact Uv rfl) (hpl:(backTo pos (starEach es X.env)).any (·.1)=false:=by exact P0 rfl) :
  PD X (.Call (.Name x p) (e::es) [] pos) (dCall f t):=by with_unfolding_all exact(YL (zvf G hr hk hg ha hdb he hpl) fun U H Q hh=>Zv hh fun ad Z S Q0 st rh q k =>
 ⟨ad,Z,S,_,st,rh,q,fun ds S1 vs H1 ad1 q1 w1 st1 r1=>by
  show Z4 X.K f (vs++[]) H1 Q E0
  rw[qV];exact⟨ad1,S1,ds,Q0,st1.base,r1,q1,(k.wd w1).base st1⟩⟩)
def BD (K:PySem.W.Frag)(r':DB)(r:List V->Hp->VK->Prop):Prop:=∀ ad H S ds vs Q0 Q,zL K ad H S->zE K ad H ds vs->r' ds S Q0->KK K ad H Q0 Q->r vs H Q
def BC (X:Cx)(f:Value)(r':DB):Prop:=∃ r,YQ X f r/\BD X.K r' r
def z9 {x:Str}{id:String}{r':DB}(o:BC X (.builtin id) r')(hm:X.mg x=none)(hv:bootBuiltins x=some (.builtin id))(ha:PAD X (e::es) t)(hg:Gl X x:=by rfl)(hn:x≠"__name__":=by decide)(hdb:(x==("__debug__":Str))=false:=by decide)
  (he:starEach (e::es) X.env=(false,eval e X.env)::starEach es X.env:=by exact Uv rfl) (hpl:(backTo pos (starEach es X.env)).any (·.1)=false:=by exact P0 rfl):PD X (.Call (.Name x p) (e::es) [] pos) (dB r' t):=by
 with_unfolding_all
  obtain⟨r,ho,od⟩:=o
  exact YL (fO ho hg hm hv ha hn hdb he hpl) fun U H Q hh=>Zv hh fun ad Z S Q0 st rh q k =>
   ⟨ad,Z,S,_,st,rh,q,fun ds S1 vs H1 ad1 q1 w1 st1 r1=>od ad1 H1 S1 ds vs Q0 Q st1 r1 q1 (k.wd w1)⟩
def Rk {x:Str}{T:String}{r':DB}(o:BC X (.type T) r')(hm:X.mg x=none)(hv:bootBuiltins x=some (.type T))(ha:PAD X (e::es) t)(hg:Gl X x:=by rfl)(hn:x≠"__name__":=by decide)(hdb:(x==("__debug__":Str))=false:=by decide)
  (he:starEach (e::es) X.env=(false,eval e X.env)::starEach es X.env:=by exact Uv rfl) (hpl:(backTo pos (starEach es X.env)).any (·.1)=false:=by exact P0 rfl):PD X (.Call (.Name x p) (e::es) [] pos) (dB r' t):=by
 with_unfolding_all
  obtain⟨r,ho,od⟩:=o
  exact YL (ju ho hg hm hv ha hn hdb he hpl) fun U H Q hh=>Zv hh fun ad Z S Q0 st rh q k =>
   ⟨ad,Z,S,_,st,rh,q,fun ds S1 vs H1 ad1 q1 w1 st1 r1=>od ad1 H1 S1 ds vs Q0 Q st1 r1 q1 (k.wd w1)⟩
def XH {K:PySem.W.Frag}{ad:List Addr}{H:Hp}{d:D}{vs:List V}(r:zE K ad H [d] vs):∃ v,vs=[v]/\Rel K ad H d v:=by
 cases r with
 |cons r t=>cases t;exact⟨_,rfl,r⟩
def Qe {K:PySem.W.Frag}{ad:List Addr}{H:Hp}{d e:D}{vs:List V}(r:zE K ad H [d,e] vs):∃ v u,vs=[v,u]/\Rel K ad H d v/\Rel K ad H e u:=by
 cases r with
 |cons r t =>
  obtain⟨u,rfl,r2⟩:=XH t
  exact⟨_,_,rfl,r,r2⟩
def YB:BC X (.builtin "len") Y4:=⟨_,zqf.or zlw,fun ad H S ds vs Q0 Q st r h k=>by
 rcases h with⟨x,xs,e,hx,q⟩|⟨z,e,hz,q⟩
 case inr =>
  subst e
  obtain⟨v,rfl,rv⟩:=XH r
  cases rv
  exact .inr ⟨z,rfl,Ua hz,k _ S _ H ad q Wd.refl st (.int _)⟩
 subst e
 obtain⟨v,rfl,rv⟩:=XH r
 obtain⟨a,ws,rfl,hs,rs⟩:=hx.sq st rv
 exact .inl ⟨a,ws,rfl,hs,k _ S _ H ad (by rw[rs.length]at q;exact q) Wd.refl st (.int _)⟩⟩
def jk:BC X (.builtin "abs") Gd:=⟨_,zpY,fun ad H S ds vs Q0 Q st r ⟨i,e,q⟩ k=>by
 subst e
 obtain⟨v,rfl,rv⟩:=XH r
 cases rv
 exact⟨i,rfl,k _ S _ H ad q Wd.refl st (.int _)⟩⟩
def zvm (i j:Int):(if j > i then j else i)=max i j:=by
  rw[Int.max_def];split<;>split<;>lia
def zv0 (i j:Int):(if j<i then j else i)=min i j:=by
  rw[Int.min_def];split<;>split<;>lia
def UJ (hc:X.calm=true:=by rfl):BC X (.builtin "max") V6:=⟨_,zpw hc,fun ad H S ds vs Q0 Q st r ⟨i,j,e,q⟩ k=>by
 subst e
 obtain⟨v,u,rfl,rv,ru⟩:=Qe r
 cases rv
 cases ru
 exact⟨i,j,rfl,by rw[zvm];exact k _ S _ H ad q Wd.refl st (.int _)⟩⟩
def Sh (hc:X.calm=true:=by rfl):BC X (.builtin "min") Ud:=⟨_,zo6 hc,fun ad H S ds vs Q0 Q st r ⟨i,j,e,q⟩ k=>by
 subst e
 obtain⟨v,u,rfl,rv,ru⟩:=Qe r
 cases rv
 cases ru
 exact⟨i,j,rfl,by rw[zv0];exact k _ S _ H ad q Wd.refl st (.int _)⟩⟩
def ztb (hc:X.calm=true:=by rfl):BC X (.builtin "max") FW:=⟨_,zpH rfl hc,fun ad H S ds vs Q0 Q st r ⟨x,ns,e,hx,h0,q⟩ k=>by
 subst e
 obtain⟨v,rfl,rv⟩:=XH r
 obtain⟨a,ws,rfl,hs,rs⟩:=hx.sq st rv
 cases rs.ints
 exact⟨a,ns,rfl,hs,h0,fun m h1 h2=>k _ S _ H ad (q m h1 h2) Wd.refl st (.int _)⟩⟩
def jR (hc:X.calm=true:=by rfl):BC X (.builtin "min") Ce:=⟨_,jX rfl hc,fun ad H S ds vs Q0 Q st r ⟨x,ns,e,hx,h0,q⟩ k=>by
 subst e
 obtain⟨v,rfl,rv⟩:=XH r
 obtain⟨a,ws,rfl,hs,rs⟩:=hx.sq st rv
 cases rs.ints
 exact⟨a,ns,rfl,hs,h0,fun m h1 h2=>k _ S _ H ad (q m h1 h2) Wd.refl st (.int _)⟩⟩
def Kr (hc:X.calm=true:=by rfl):BC X (.builtin "all") R5:=⟨_,zqk rfl hc,fun ad H S ds vs Q0 Q st r ⟨x,ns,e,hx,q⟩ k=>by
 subst e
 obtain⟨v,rfl,rv⟩:=XH r
 obtain⟨a,ws,rfl,hs,rs⟩:=hx.sq st rv
 cases rs.bls
 exact⟨a,ns,rfl,hs,k _ S _ H ad q Wd.refl st (.bl _)⟩⟩
def JF:BC X (.type "tuple") Oz:=⟨_,zpo rfl,fun ad H S ds vs Q0 Q st r ⟨x,xs,e,hx,q⟩ k=>by
 subst e
 obtain⟨v,rfl,rv⟩:=XH r
 rcases hx with rfl|hx
 ·cases rv with
  |tup h rr=>exact⟨_,_,rfl,.inr ⟨ZL.of h,k _ S _ H ad q Wd.refl st (.tup h rr)⟩⟩
 ·obtain⟨a,ws,rfl,hs,rs⟩:=hx.sq st rv
  exact⟨a,ws,rfl,.inl ⟨hs,fun l hl=>Gj st k rs q l hl⟩⟩⟩
def Js:BC X (.type "list") Nk:=⟨_,zol,fun ad H S ds vs Q0 Q st r ⟨x,xs,e,hx,q⟩ k=>by
 subst e
 obtain⟨v,rfl,rv⟩:=XH r
 obtain⟨a,ws,rfl,hs,rs⟩:=hx.sq st rv
 exact⟨a,ws,rfl,hs,fun l hl=>PJ st k rs q l hl⟩⟩
section
variable {K:PySem.W.Frag}
def ztM (t:String)(h:Nt t=true):PySem.W.kitOne K (.type "NoneType") (.type t)=some false/\PySem.W.kitOne K (.type "bool") (.type t)=some (t=="bool"||t=="int")/\PySem.W.kitOne K (.type "int") (.type t)=some (t=="int") /\
  PySem.W.kitOne K (.type "str") (.type t)=some (t=="str")/\PySem.W.kitOne K (.type "tuple") (.type t)=some (t=="tuple")/\PySem.W.kitOne K (.type "list") (.type t)=some (t=="list"):=by
 unfold Nt at h
 simp only[Qy,beq_iff_eq]at h
 rcases h with(((rfl|rfl)|rfl)|rfl)|rfl
 ·exact⟨by kernel_rfl,by kernel_rfl,by kernel_rfl,by kernel_rfl,by kernel_rfl,by kernel_rfl⟩
 ·exact⟨by kernel_rfl,by kernel_rfl,by kernel_rfl,by kernel_rfl,by kernel_rfl,by kernel_rfl⟩
 ·exact⟨by kernel_rfl,by kernel_rfl,by kernel_rfl,by kernel_rfl,by kernel_rfl,by kernel_rfl⟩
 ·exact⟨by kernel_rfl,by kernel_rfl,by kernel_rfl,by kernel_rfl,by kernel_rfl,by kernel_rfl⟩
 ·exact⟨by kernel_rfl,by kernel_rfl,by kernel_rfl,by kernel_rfl,by kernel_rfl,by kernel_rfl⟩
end
def Mu:BC X (.builtin "isinstance") T4:=⟨_,zrP,fun ad H S ds vs Q0 Q st r ⟨x,t,b,e,h,q⟩ k=>by
 subst e
 obtain⟨v,u,rfl,rv,ru⟩:=Qe r
 cases ru
 have fin:=k _ S _ H ad q Wd.refl st (.bl b)
 unfold Cu at h
 split at h
 ·cases h
 rename_i hty
 have hty':Nt t=true:=by
  cases hh:Nt t
  ·exact absurd (by show(!Nt t)=true;rw[hh];rfl) hty
  ·rfl
 obtain⟨k1,k2,k3,k4,k5,k6⟩:=ztM (K:=X.K) t hty'
 cases rv with
 |non=>cases h;exact⟨_,_,_,_,rfl,.non,k1,fin⟩
 |bl c=>cases h;exact⟨_,_,_,_,rfl,.bl c,k2,fin⟩
 |int i=>cases h;exact⟨_,_,_,_,rfl,.int i,k3,fin⟩
 |str y=>cases h;exact⟨_,_,_,_,rfl,.str y,k4,fin⟩
 |ty n=>cases h
 |exn _ _ _=>cases h
 |tup ht rt=>cases h;exact⟨_,_,_,_,rfl,.tup ht,k5,fin⟩
 |rl hl rl=>cases h
 |@ref n a hn =>
  have h:(match S[n]? with | some (.lst _)=>some (t=="list") | _=>none)=some b:=h
  cases hS:S[n]? with
  |none=>rw[hS]at h;cases h
  |some c =>
   rw[hS]at h
   cases c with
   |ins c fs=>cases h
   |dk _=>cases h
   |dt _=>cases h
   |lst xs =>
    cases h
    obtain⟨vs,hv,_⟩:=st.cell n a _ hn hS
    exact⟨_,_,_,_,rfl,.lst hv,k6,fin⟩⟩
theorem vI:∀ {K:PySem.W.Frag} {ad:List Addr} {H:Hp} {cs:List (Int×Int)} {vs:List V},zE K ad H (cs.map p2) vs->∃ ps:List Addr,vs=ps.map V.ref/\Rx H ps cs
 |_,_,_,[],_,.nil=>⟨[],rfl,.nil⟩
 |_,_,_,c::cs,_,.cons r t=>by
  obtain⟨ps,rfl,h⟩:=vI t
  cases r with
  |tup h1 r1 =>
   obtain⟨v,u,rfl,rv,ru⟩:=Qe r1
   cases rv
   cases ru
   exact⟨_::ps,rfl,.cons h1 h⟩
theorem Ay:∀ {K:PySem.W.Frag} {ad:List Addr} {H:Hp} {cs:List (Int×Int)} {ps:List Addr},Rx H ps cs->zE K ad H (cs.map p2) (ps.map V.ref)
 |_,_,_,_,_,.nil=>.nil
 |_,_,_,_,_,.cons r t=>.cons (.tup r (.cons (.int _) (.cons (.int _) .nil))) (Ay t)
def j7 (a b:Int×Int):Xl a b=Q7 a b:=by
 unfold Xl Q7
 by_cases h:a.1=b.1
 ·simp[h]
 ·simp[h]
def zrl:BC X (.builtin "sorted") Aa:=⟨_,zlh rfl,fun ad H S ds vs Q0 Q st r ⟨x,cs,e,hx,h64,q⟩ k=>by
 subst e
 obtain⟨v,rfl,rv⟩:=XH r
 obtain⟨a,ws,rfl,hs,rs⟩:=hx.sq st rv
 obtain⟨ps,rfl,hp⟩:=vI rs
 exact⟨a,ps,cs,rfl,hs,hp,h64,fun l ps' cs' hl hp' hperm hpw=>PJ st k (Ay hp') (q cs' hperm (hpw.imp fun h=>by rw[<- j7];exact h)) l hl⟩⟩
def MD (X:Cx)(id:String)(r':DM):Prop:=∃ r,Mr X id r/\∀ ad H S x ds v vs Q0 Q,zL X.K ad H S->Rel X.K ad H x v->zE X.K ad H ds vs->r' x ds S Q0->KK X.K ad H Q0 Q->r v vs H Q
def sy {K:PySem.W.Frag}{ad:List Addr}{H:Hp}{S:Z5}{x:D}{v:V}(st:zL K ad H S)(h:∃ n ys,x=.ref n/\S[n]?=some (.lst ys))(r:Rel K ad H x v):JX K "list" v H:=by
 obtain⟨n,ys,rfl,h⟩:=h
 cases r with
 |ref e =>
  obtain⟨vs,hv,_⟩:=st.cell n _ _ e h
  exact .inl ⟨rfl,vs,Zq.of hv⟩
def Vk {o:Expr}{to:DE}{name:Str}{id:String}{apos cpos:Pos}{r':DM}(slot:Slot "list" name id)(hty:typeOf (.builtin id)=pure (.type "method_descriptor"))(hm:MD X id r')(ho:PD X o to)(ha:PAD X (e::es) t)
  (hbase:attributeBase o name X.env (eval o X.env)=eval o X.env:=by rfl)
  (hfew:((backTo cpos (starEach (e::es) X.env)).all (fun x=>!x.1)&&(backToKw cpos (keywordEach [] X.env)).all (fun x=>x.1.isSome)
  &&decide ((e::es).length+([]:List Keyword).length+(if([]:List Keyword).isEmpty then 0 else 1)<30))=true:=by rfl)
  (hline:(apos.endLine==cpos.line)=true:=by rfl) (hs:starEach (e::es) X.env=(false,eval e X.env)::starEach es X.env:=by exact Uv rfl) (hplain:(backTo cpos (starEach es X.env)).any (·.1)=false:=by exact P0 rfl) :
  PD X (.Call (.Attribute o name apos) (e::es) [] cpos) (dM r' to t):=by
 with_unfolding_all
  obtain⟨r,hr,od⟩:=hm
  exact YL (iR PySem.F.plainAttrs_list slot hty hr ho ha hbase hfew hline hs hplain) fun U H Q hh=>Zv hh fun ad Z S Q0 st rh q k =>
   ⟨ad,Z,S,_,st,rh,q,fun x S1 v H1 ad1 ⟨hl,q1⟩ w1 st1 r1=>⟨sy st1 hl r1,ad1,Z,S1,_,st1,rh.wd w1,q1,fun ds S2 vs H2 ad2 q2 w2 st2 r2 =>
    od ad2 H2 S2 x ds v vs Q0 Q st2 (r1.wd w2) r2 q2 (k.wd (w1.trans w2))⟩⟩
def m9 {o:Expr}{to:DE}{name:Str}{id:String}{apos cpos:Pos}{r':DM}(slot:Slot "list" name id)(hty:typeOf (.builtin id)=pure (.type "method_descriptor"))(hm:MD X id r')(ho:PD X o to)
  (hbase:attributeBase o name X.env (eval o X.env)=eval o X.env:=by rfl) (hline:(apos.endLine==cpos.line)=true:=by rfl):PD X (.Call (.Attribute o name apos) [] [] cpos) (dM r' to zF):=by
 with_unfolding_all
  obtain⟨r,hr,od⟩:=hm
  exact YL (zwA PySem.F.plainAttrs_list slot hty hr ho hbase hline) fun U H Q hh=>Zv hh fun ad Z S Q0 st rh q k =>
   ⟨ad,Z,S,_,st,rh,q,fun x S1 v H1 ad1 ⟨hl,q1⟩ w1 st1 r1=>⟨sy st1 hl r1,od ad1 H1 S1 x [] v [] Q0 Q st1 r1 .nil q1 (k.wd w1)⟩⟩
def SQ:MD X "list.append" UL:=⟨_,vH,fun ad H S x ds v vs Q0 Q st rx r ⟨n,xs,y,ex,ey,hn,hl,q⟩ k=>by
 subst ex ey
 obtain⟨u,rfl,ru⟩:=XH r
 cases rx with
 |ref e =>
  obtain⟨ws,hw,rw⟩:=st.cell n _ _ e hn
  exact⟨_,ws,u,rfl,rfl,hw,by rw[<- rw.length];exact Jx hl,k _ _ _ _ ad q (Wd.put e hw) (st.put e hw (rw.append (.cons ru .nil))) .non⟩⟩
def jE:MD X "list.extend" Br:=⟨_,znZ,fun ad H S x ds v vs Q0 Q st rx r h k=>by
 rcases h with⟨n,xs,m,ys,ex,ey,hn,hm,hne,hl,q⟩|⟨n,xs,ys,ex,ey,hn,hl,q⟩
 ·subst ex ey
  obtain⟨u,rfl,ru⟩:=XH r
  cases rx with
  |ref e =>
   cases ru with
   |ref e2 =>
    obtain⟨ws,hw,rw⟩:=st.cell n _ _ e hn
    obtain⟨ws2,hw2,rw2⟩:=st.cell m _ _ e2 hm
    exact .inl ⟨_,_,ws,ws2,rfl,rfl,hw,hw2,by rw[<- rw.length,<- rw2.length];exact Ua hl,k _ _ _ _ ad q (Wd.put e hw) (st.put e hw (rw.append rw2)) .non⟩
 ·subst ex ey
  obtain⟨u,rfl,ru⟩:=XH r
  cases rx with
  |ref e =>
   cases ru with
   |tup h2 rw2 =>
    obtain⟨ws,hw,rw⟩:=st.cell n _ _ e hn
    exact .inr ⟨_,_,ws,_,rfl,rfl,hw,ZL.of h2,by rw[<- rw.length,<- rw2.length];exact Ua hl,k _ _ _ _ ad q (Wd.put e hw) (st.put e hw (rw.append rw2)) .non⟩⟩
def lW:MD X "list.clear" Jv:=⟨_,zqN,fun ad H S x ds v vs Q0 Q st rx r ⟨n,xs,ex,ey,hn,q⟩ k=>by
 subst ex ey
 cases r
 cases rx with
 |ref e =>
  obtain⟨ws,hw,rw⟩:=st.cell n _ _ e hn
  exact⟨_,ws,rfl,rfl,hw,k _ _ _ _ ad q (Wd.put e hw) (st.put e hw .nil) .non⟩⟩
end
end Dp
namespace Dp
open PySem PySem.Spec PyProof.Rows L2 My
variable [B:Bs]
def Ry (K:PySem.W.Frag)(b:Nat)(g':DG)(g:TG):Prop:=∀ ad H S Z U d v Q0 Q,zL K ad H S->Zd K ad H Z U->Rel K ad H d v->g' d Z S Q0 ->
 (∀ ρ' S' σ' H' ad',Q0 ρ' S'->Wd ad H ad' H'->zL K ad' H' S'->Zd K ad' H' ρ' σ'->σ'.length=U.length->(∀ j,b<=j->σ'[j]?=U[j]?)->Q σ' H')->g v U H Q
def KN (K:PySem.W.Frag)(b:Nat)(g':Vt)(g:Uj):Prop:=∀ ad H S Z U ds vs Q0 Q,zL K ad H S->Zd K ad H Z U->zE K ad H ds vs->g' ds Z S Q0 ->
 (∀ ρ' S' σ' H' ad',Q0 ρ' S'->Wd ad H ad' H'->zL K ad' H' S'->Zd K ad' H' ρ' σ'->σ'.length=U.length->(∀ j,b<=j->σ'[j]?=U[j]?)->Q σ' H')->g vs U H Q
def NK (X:Cx)(b:Nat)(tg:Expr)(g':DG):Prop:=∃ g,PG X tg g/\Ry X.K b g' g
def GZ (X:Cx)(b:Nat)(tgs:List Expr)(g':Vt):Prop:=∃ g,Mp X tgs g/\KN X.K b g' g
theorem Zd.set {K:PySem.W.Frag}{ad:List Addr}{H:Hp}{Z:ZR}{U:L2.St}{d:D}{v:V}(h:Zd K ad H Z U)(r:Rel K ad H d v)(i:Nat):Zd K ad H (Z.set i (some d)) (U.set i (some v)) where
 len:=by rw[VP,VP];exact h.len
 val:=fun j e q=>by
  by_cases hj:j=i
  ·subst hj
   have hl:j<Z.length:=by have:=My.Wh q;rw[VP]at this;exact this
   rw[qN hl]at q
   cases q
   exact⟨v,qN (by rw[<- h.len];exact hl),r⟩
  ·rw[qM (Ne.symm hj)]at q
   obtain⟨u,e1,r1⟩:=h.val j e q
   exact⟨u,by rw[qM (Ne.symm hj)];exact e1,r1⟩
section
variable {X:Cx}{pos:Pos}{b:Nat}
def Vf {K:PySem.W.Frag}(i:Nat)(hb:i<b):Ry K b (YW i) (L2.YW i):=fun ad H S Z U d v Q0 Q st rh r q k =>
 k _ S _ H ad q Wd.refl st (rh.set r i) (VP ..) fun j hj=>qM (by lia)
def zP {i:Nat}{x:Str}(hN:X.N.Nodup)(hi:X.N[i]?=some x:=by rfl)(hx:Loc X.env.scope x:=by first|exact Or.inl rfl|exact Or.inr rfl)(hf:X.fn x=true\/X.env.scope.names.lookup x=some .local:=by first|exact .inl rfl|exact .inr rfl|assumption)(hb:i<b:=by decide):NK X b (.Name x pos) (YW i) :=
 ⟨_,Vj hN hi hx hf,Vf i hb⟩
def Ue:GZ X b [] X3:=⟨_,Kw,fun ad H S Z U ds vs Q0 Q st rh r ⟨e,q⟩ k=>by
 subst e
 cases r
 exact⟨rfl,k Z S U H ad q Wd.refl st rh rfl fun _ _=>rfl⟩⟩
def YG {e:Expr}{es:List Expr}{t:DG}{u:Vt}(h1:NK X b e t)(h2:GZ X b es u)(hs:(assignEach (e::es) X.env).map (·.2)=assign e X.env::(assignEach es X.env).map (·.2):=by rfl):GZ X b (e::es) (Zn t u):=by
 obtain⟨g1,p1,r1⟩:=h1
 obtain⟨g2,p2,r2⟩:=h2
 refine⟨_,Uz p1 p2 hs,fun ad H S Z U ds vs Q0 Q st rh r ⟨d,rs,ed,q⟩ k=>?_⟩
 subst ed
 cases r with
 |cons r t =>
  refine⟨_,_,rfl,r1 ad H S Z U d _ _ _ st rh r q fun ρ1 S1 σ1 H1 ad1 q1 w1 st1 rh1 l1 a1=>?_⟩
  exact r2 ad1 H1 S1 ρ1 σ1 _ _ _ _ st1 rh1 (t.wd w1) q1 fun ρ2 S2 σ2 H2 ad2 q2 w2 st2 rh2 l2 a2=>k ρ2 S2 σ2 H2 ad2 q2 (w1.trans w2) st2 rh2 (l2.trans l1) fun j hj=>(a2 j hj).trans (a1 j hj)
def Us {es:List Expr}{k n:Nat}{t:Vt}(hc:X.calm=true)(h:GZ X b es t)(hn:(assignEach es X.env).length=n:=by rfl)(hst:(assignEach es X.env).findIdx? (·.1)=none:=by rfl):NK X b (.Tuple es k pos) (XF n t):=by
 obtain⟨g,p,r⟩:=h
 refine⟨_,Mw hc p hn hst,fun ad H S Z U d v Q0 Q st rh rv ⟨xs,ed,hl,q⟩ k=>?_⟩
 subst ed
 cases rv with
 |tup h1 rs=>exact⟨_,_,rfl,ZL.of h1,by rw[<- rs.length];exact hl,r ad H S Z U xs _ _ _ st rh rs q k⟩
def Fb {o i:Expr}{to ti:DE}(ho:PD X o to)(hi:PD X i ti)
  (ha:∀ v,assign (.Subscript o i pos) X.env v=(do
   let ov <- holding [v] (eval o X.env)
   let iv <- holding [v,ov] (eval i X.env)
   standAt pos
   holding [v,ov,iv] (setItem ov iv v)
   release [v,ov,iv] []):=by intro _;rfl):NK X b (.Subscript o i pos) (QD to ti):=by with_unfolding_all exact(⟨_,kW ho hi set_list ha,fun ad H S Z U d v Q0 Q st rh r q k=>⟨ad,Z,S,_,st,rh,q,fun x S1 u H1 ad1 q1 w1 st1 r1=>⟨ad1,Z,S1,_,st1,rh.wd w1,q1,fun y S2 z H2 ad2 q2 w2 st2 r2=>by
  obtain⟨n,xs,kk,j,ex,ey,hn,hj,q3⟩:=q2
  subst ex ey
  cases r2
  cases r1 with
  |ref e =>
   have e2:=Ek w2.pre e
   obtain⟨ws,hw,rw⟩:=st2.cell n _ _ e2 hn
   have rd:=r.wd (w1.trans w2)
   exact⟨_,ws,kk,j,rfl,rfl,hw,by rw[<- rw.length];exact hj,k Z _ U _ ad2 q3 ((w1.trans w2).trans (Wd.put e2 hw)) (st2.put e2 hw (rw.set rd j)) (rh.wd ((w1.trans w2).trans (Wd.put e2 hw))) rfl fun _ _=>rfl⟩⟩⟩⟩)
variable {st:Stmt}{sts:List Stmt}{t u:DS}{e:Expr}{te:DE}
def zM:Wt X [] Zt:=by with_unfolding_all exact(mW ztC fun E U H hh=>Zv hh fun ad Z S E0 so rh q k=>k.nx Z S U H ad q Wd.refl so rh)
def zq (h:Xn X st t):Wt X [st] t:=by with_unfolding_all exact(zum h)
def zm (h1:Xn X st t)(h2:Wt X sts u):Wt X (st::sts) (zA t u):=by with_unfolding_all exact(mW (zrR h1 h2) fun E U H hh=>Zv hh fun ad Z S E0 so rh q k =>
 ⟨ad,Z,S,{ E0 with nx:=u E0 },so,rh,q,⟨fun ρ' S' σ' H' ad' q' w st' rh'=>⟨ad',ρ',S',E0,st',rh',q',k.wd w⟩,k.rt,k.bk,k.ct⟩⟩)
def UG:Xn X st Ve:=by with_unfolding_all exact(Wf zqP fun E U H hh=>Zv hh fun ad Z S E0 so rh q k=>q)
def zQ (he:PD X e te)(hs:swapsWith e none pos.line X.env=pure false:=by rfl):Xn X (.Expr e pos) (Zk te):=by with_unfolding_all exact(Wf (zsI he hs) fun E U H hh=>Zv hh fun ad Z S E0 so rh q k =>
 ⟨ad,Z,S,_,so,rh,q,fun d S' v H' ad' q' w st' r=>k.nx Z S' U H' ad' q' w st' (rh.wd w)⟩)
def zG (he:PD X e te):Xn X (.Return (some e) pos) (zV te):=by with_unfolding_all exact(Wf (zwm he) fun E U H hh=>Zv hh fun ad Z S E0 so rh q k=>⟨ad,Z,S,_,so,rh,q,k.rt⟩)
def O1 (h:Xn X st t):Xn X st (sJ t):=by with_unfolding_all exact(Wf h fun E U H ⟨ad,Z,S,E0,so,rh,⟨J,hJ,q⟩,k⟩ =>
 ⟨ad,Z,S,{ E0 with nx:=J },so,rh,q,⟨fun ρ' S' σ' H' ad' q' w st' rh'=>k.nx ρ' S' σ' H' ad' (hJ _ _ q') w st' rh',k.rt,k.bk,k.ct⟩⟩)
def zT {c:Expr}{a b:List Stmt}{tc:DT}(hc:WM X c tc)(ha:Wt X a t)(hb:Wt X b u):Xn X (.If c a b pos) (ZC tc t u):=by with_unfolding_all exact(Wf (zwS hc ha hb) fun E U H hh=>Zv hh fun ad Z S E0 so rh q k =>
 ⟨ad,Z,S,_,so,rh,q,fun b S' H' ad' q' w st'=>by
  cases b with
  |true=>rw[if_pos rfl]at q' ⊢;exact⟨ad',Z,S',E0,st',rh.wd w,q',k.wd w⟩
  |false=>rw[if_neg qu]at q' ⊢;exact⟨ad',Z,S',E0,st',rh.wd w,q',k.wd w⟩⟩)
def zy {i:Nat}{x:Str}{pos':Pos}(hN:X.N.Nodup)(he:PD X e te)(hi:X.N[i]?=some x:=by rfl)(hx:Loc X.env.scope x:=by first|exact Or.inl rfl|exact Or.inr rfl)(hs:swapsWith e (some (.Name x pos')) pos.line X.env=pure false:=by rfl)(hf:X.fn x=true\/X.env.scope.names.lookup x=some .local:=by first|exact .inl rfl|exact .inr rfl|assumption) :
  Xn X (.Assign [.Name x pos'] e pos) (zH te (YW i)):=by with_unfolding_all exact(Wf (fW hN hi hx he hs hf) fun E U H hh=>Zv hh fun ad Z S E0 so rh q k =>
 ⟨ad,Z,S,_,so,rh,q,fun d S' v H' ad' q' w st' r=>k.nx _ S' _ H' ad' q' w st' ((rh.wd w).set r i)⟩)
def Jb {tg:Expr}{g:DG}(he:PD X e te)(hg:NK X 1000 tg g)(hs:swapsWithSole [tg] e pos.line X.env=pure false:=by rfl)(hw:swappedStores [tg] e X.env=pure none:=by rfl)
  (h1:(assignEach [tg] X.env).map (·.2)=[assign tg X.env]:=by rfl):Xn X (.Assign [tg] e pos) (zH te g):=by
 with_unfolding_all
  obtain⟨g',p,r⟩:=hg
  exact Wf (jQ he p hs hw h1) fun E U H hh=>Zv hh fun ad Z S E0 so rh q k =>
   ⟨ad,Z,S,_,so,rh,q,fun d S' v H' ad' q' w st' rv=>r ad' H' S' Z U d v _ _ st' (rh.wd w) rv q' fun ρ2 S2 σ2 H2 ad2 q2 w2 st2 rh2 _ _=>k.nx ρ2 S2 σ2 H2 ad2 q2 (w.trans w2) st2 rh2⟩
def zt3 {i:Nat}{x:Str}{pos':Pos}(hN:X.N.Nodup)(he:PD X e te)(hi:X.N[i]?=some x:=by rfl)(hx:Loc X.env.scope x:=by first|exact Or.inl rfl|exact Or.inr rfl)(hf:X.fn x=true\/X.env.scope.names.lookup x=some .local:=by first|exact .inl rfl|exact .inr rfl|assumption) :
  Xn X (.AugAssign (.Name x pos') .Add e pos) (Cv i te):=by with_unfolding_all exact(Wf (zuL hN hi hx he zvA hf) fun E U H ⟨ad,Z,S,E0,so,rh,⟨a,ea,q⟩,k⟩=>by
 obtain⟨v,ev,rv⟩:=rh.val i _ ea
 cases rv
 refine⟨_,ev,ad,Z,S,_,so,rh,q,fun d S' v H' ad' ⟨b,eb,q'⟩ w st' r=>?_⟩
 subst eb
 cases r
 exact⟨a,b,rfl,rfl,k.nx _ S' _ H' ad' q' w st' ((rh.wd w).set (.int _) i)⟩)
def Ko {c:Expr}{body:List Stmt}{tc:DT}(hc:WM X c tc)(hb:Wt X body t)(hp:PassesOwn (model X.prog X.w) X.A X.env X.xe:=by first|exact PassesOwn.never|exact PassesOwn.leaving):Xn X (.While c body [] pos) (Q5 tc t):=by with_unfolding_all exact(Wf (zrX hp hc hb) fun E U H ⟨ad,Z,S,E0,so,rh,⟨W,⟨m0,w0⟩,turn⟩,k⟩=>by
 refine⟨fun m σ' H'=>∃ ad' ρ' S',W m ρ' S'/\Wd ad H ad' H'/\zL X.K ad' H' S'/\Zd X.K ad' H' ρ' σ',⟨m0,ad,Z,S,w0,Wd.refl,so,rh⟩,?_⟩
 rintro m σ1 H1 ⟨ad1,ρ1,S1,w1,d1,st1,rh1⟩
 refine⟨ad1,ρ1,S1,_,st1,rh1,turn m ρ1 S1 w1,fun b S2 H2 ad2 q2 d2 st2=>?_⟩
 cases b with
 |true =>
  rw[if_pos rfl]at q2 ⊢
  obtain⟨N,hN,q2⟩:=q2
  refine⟨fun σ' H'=>∃ ad' ρ' S',N ρ' S'/\Wd ad H ad' H'/\zL X.K ad' H' S'/\Zd X.K ad' H' ρ' σ',?_,ad2,ρ1,S2,{ E0 with nx:=N,ct:=N,bk:=E0.nx },st2,rh1.wd d2,q2,?_⟩
  ·rintro σ' H' ⟨ad',ρ',S',n',d',st',rh'⟩
   obtain⟨m',hm,w'⟩:=hN ρ' S' n'
   exact⟨m',hm,ad',ρ',S',w',d',st',rh'⟩
  ·have d12:=d1.trans d2
   exact⟨fun ρ' S' σ' H' ad' q' w' st' rh'=>⟨ad',ρ',S',q',d12.trans w',st',rh'⟩,k.rt.wd d12,fun ρ' S' σ' H' ad' q' w' st' rh'=>k.nx ρ' S' σ' H' ad' q' (d12.trans w') st' rh',fun ρ' S' σ' H' ad' q' w' st' rh'=>⟨ad',ρ',S',q',d12.trans w',st',rh'⟩⟩
 |false =>
  rw[if_neg qu]at q2 ⊢
  exact k.nx ρ1 S2 σ1 H2 ad2 q2 (d1.trans d2) st2 (rh1.wd d2))
end
structure Tt (K:PySem.W.Frag)(ad0:List Addr)(H0:Hp)(J0:Tr)(J:It):Prop where
 go:∀ ad H S i,Wd ad0 H0 ad H->zL K ad H S->J0.ok S->i<J0.items.length->J.go i H
 yld:∀ ad H S i d x H',Wd ad0 H0 ad H->zL K ad H S->J0.ok S->J0.items[i]?=some d->J.yld i H x H'->Wd ad H ad H'/\zL K ad H' S/\Rel K ad H' d x
 stop:∀ ad H S,Wd ad0 H0 ad H->zL K ad H S->J0.ok S->J.stop J0.items.length H
def tQ (K:PySem.W.Frag)(wi:DI):TI:=fun U H R=>∃ ad Z S R0,zL K ad H S/\Zd K ad H Z U/\wi Z S R0/\∀ J0 S' J H' ad',R0 J0 S'->Wd ad H ad' H'->zL K ad' H' S'->Tt K ad' H' J0 J->R J H'
@[irreducible] def R7 (X:Cx)(tg iter:Expr)(wi:DI):Prop:=PI X tg iter (tQ X.K wi)
def Jq {X:Cx}{tg iter:Expr}{w w':TI}(h:PI X tg iter w)(m:∀ U H R,w' U H R->w U H R):PI X tg iter w':=fun Z9 s U H R I q=>h Z9 s U H R I (m U H R q)
section
variable {X:Cx}{tg e:Expr}
def Its (z:Str):It:=⟨fun i _=>i<z.cps.size,fun i H x H'=>H'=H/\∃ c,z.cps[i]?=some c/\x=.str ⟨#[c]⟩,fun i _=>z.cps.size<=i⟩
def zpX {P:Program}{w:World}{K:PySem.W.Frag}{tg:Expr}(z:Str)(t:Tok)(it:Addr):Turn P w K tg (Its z) [it] it (fun i h=>h.IsStrIter it "str_ascii_iterator" z t i) where
 mem:=by simp
 obj:=fun i h st b hb=>by
  have e:b=it:=by simpa using hb
  subst e
  obtain⟨o,e,c,d⟩:=st
  exact⟨o,e,fun v y=>by rw[d]at y;cases y⟩
 keep:=fun i h h' st k=>let ⟨o,e,r⟩:=st;⟨o,k it (by simp) o e,r⟩
 item:=by
  intro X hP hw hK hc i Z9 s U H E I hf st hg
  subst hP hw hK
  have hg:i<z.cps.size:=hg
  obtain⟨f0,f1,f2,f3,f4,f5⟩:=hf it (by simp)
  refine wpAny_pyNext_ascii_item st (c:=z.cps[i]) (by simp[hg]) fun h' st' sb=>?_
  have I1:Inv X Z9 U H { s with heap:=h',toks:=s.toks+1 }:=I.turned (t':=s.toks+1) (fun b o hb e=>(sb.2 b hb).trans e) f0 f1 f3 f4 f5
  obtain⟨o,e,c,d⟩:=id st'
  exact⟨_,rfl,PL (s:={ s with heap:=h',toks:=s.toks+1 }) e c d (by decide) ⟨.str ⟨#[z.cps[i]]⟩,H,I1,⟨_,rfl⟩,⟨rfl,z.cps[i],by simp[hg],rfl⟩,st',fun b hb=>(hf b hb).1⟩⟩
 done:=by
  intro X hP hw hK hc i Z9 s U H E I hf st hg
  subst hP hw hK
  have hg:z.cps.size<=i:=hg
  obtain⟨f0,f1,f2,f3,f4,f5⟩:=hf it (by simp)
  exact wpAny_pyNext_ascii_end (I.ok.hd hc) st (by simp[hg]) fun h' eb=>⟨rfl,I.turned (t':=s.toks) (fun b o hb e=>eb b o hb e) f0 f1 f3 f4 f5⟩
 self:=fun _ _ _ _ _ st hQ=>wpAny_pyIter_striter_ascii st hQ
def zpN {P:Program}{w:World}{K:PySem.W.Frag}{tg:Expr}(z:Str)(t:Tok)(it:Addr):Turn P w K tg (Its z) [it] it (fun i h=>h.IsStrIter it "str_iterator" z t i) where
 mem:=by simp
 obj:=fun i h st b hb=>by
  have e:b=it:=by simpa using hb
  subst e
  obtain⟨o,e,c,d⟩:=st
  exact⟨o,e,fun v y=>by rw[d]at y;cases y⟩
 keep:=fun i h h' st k=>let ⟨o,e,r⟩:=st;⟨o,k it (by simp) o e,r⟩
 item:=by
  intro X hP hw hK hc i Z9 s U H E I hf st hg
  subst hP hw hK
  have hg:i<z.cps.size:=hg
  obtain⟨f0,f1,f2,f3,f4,f5⟩:=hf it (by simp)
  refine wpAny_pyNext_wide_item st (c:=z.cps[i]) (by simp[hg]) fun h' st' sb=>?_
  have I1:Inv X Z9 U H { s with heap:=h',toks:=s.toks+1 }:=I.turned (t':=s.toks+1) (fun b o hb e=>(sb.2 b hb).trans e) f0 f1 f3 f4 f5
  obtain⟨o,e,c,d⟩:=id st'
  exact⟨_,rfl,PL (s:={ s with heap:=h',toks:=s.toks+1 }) e c d (by decide) ⟨.str ⟨#[z.cps[i]]⟩,H,I1,⟨_,rfl⟩,⟨rfl,z.cps[i],by simp[hg],rfl⟩,st',fun b hb=>(hf b hb).1⟩⟩
 done:=by
  intro X hP hw hK hc i Z9 s U H E I hf st hg
  subst hP hw hK
  have hg:z.cps.size<=i:=hg
  obtain⟨f0,f1,f2,f3,f4,f5⟩:=hf it (by simp)
  exact wpAny_pyNext_wide_end (I.ok.hd hc) st (by simp[hg]) fun h' eb=>⟨rfl,I.turned (t':=s.toks) (fun b o hb e=>eb b o hb e) f0 f1 f3 f4 f5⟩
 self:=fun _ _ _ _ _ st hQ=>wpAny_pyIter_striter_wide st hQ
def zsW (K:PySem.W.Frag)(tl:TE):TI:=fun U H R=>tl U H fun x H1=>(∃ a,x=.ref a/\(((∃ xs,Zq K H1 a xs)/\R (BR K a) H1)\/((∃ xs,ZL K H1 a xs)/\R (Bp K a) H1)))\/(∃ z,x=.str z/\R (Its z) H1)
def zoT {l:Expr}{tl:TE}(hl:PE X l tl):PI X tg l (zsW X.K tl):=by
  intro Z9 s U H R I h
  refine Z0 (hl Z9 s U H _ I h) fun v s1 ⟨x,H1,I1,r1,q1⟩=>?_
  rcases q1 with⟨a,e,q1⟩|⟨z,e,q⟩
  case inr =>
    subst e
    obtain⟨t,rfl⟩:=r1
    have fp:∀ b∈[s1.heap.objs.size],U4 X Z9 H1 b:=fun b hb=>by
      have e:b=s1.heap.objs.size:=by simpa using hb
      subst e
      exact I1.fpOk (qg _) (I1.hok.fresh (qg _))
    cases ha:z.cps.all (· < 128)with
    |true=>exact wpAny_pyIter_ascii ha ⟨s1.heap.objs.size,[s1.heap.objs.size],_,_,H1,rfl,I1.kept (t':=s1.toks) fun b o e=>qd _ e,zpX z t _,⟨_,qq _ rfl,rfl,rfl⟩,fp,q⟩
    |false=>exact wpAny_pyIter_wide ha ⟨s1.heap.objs.size,[s1.heap.objs.size],_,_,H1,rfl,I1.kept (t':=s1.toks) fun b o e=>qd _ e,zpN z t _,⟨_,qq _ rfl,rfl,rfl⟩,fp,q⟩
  subst e
  cases r1
  rcases q1 with⟨⟨xs,hq⟩,q⟩|⟨⟨xs,hq⟩,q⟩
  . obtain⟨its,rv,p,hz⟩:=I1.list hq
    refine wpAny_pyIter_list p.isList ?_
    refine⟨s1.heap.objs.size,[s1.heap.objs.size],_,_,H1,rfl,I1.kept (t':=s1.toks) fun b o e=>qd _ e,zo2 a _,⟨_,qq _ rfl,rfl,rfl⟩,fun b hb=>?_,q⟩
    have e:b=s1.heap.objs.size:=by simpa using hb
    subst e
    exact I1.fpOk (qg _) (I1.hok.fresh (qg _))
  . obtain⟨its,rv,p,hz⟩:=I1.tuple hq
    refine wpAny_pyIter_tuple (show s1.heap.IsTuple a its.toArray from p) ?_
    refine⟨s1.heap.objs.size,[s1.heap.objs.size],_,_,H1,rfl,I1.kept (t':=s1.toks) fun b o e=>qd _ e,znH a _,⟨_,qq _ rfl,rfl,rfl⟩,fun b hb=>?_,q⟩
    have e:b=s1.heap.objs.size:=by simpa using hb
    subst e
    exact I1.fpOk (qg _) (I1.hok.fresh (qg _))
def zvq {K:PySem.W.Frag}{ad:List Addr}{H:Hp}(z:Str):Tt K ad H ⟨signs z,fun _=>True⟩ (Its z) where
 go:=fun ad1 H1 S i w st _ hi=>by
  show i<z.cps.size
  have:i<(signs z).length:=hi
  unfold signs at this
  rw[qc]at this
  simpa using this
 yld:=fun ad1 H1 S i d x H' w st _ hd ⟨e,c,hc,hx⟩=>by
  subst e hx
  have hd:(signs z)[i]?=some d:=hd
  unfold signs at hd
  rw[qj,Pr,hc]at hd
  cases hd
  exact⟨Wd.refl,st,.str _⟩
 stop:=fun ad1 H1 S w st _=>by
  show z.cps.size<=(signs z).length
  unfold signs
  rw[qc];simp
def zwF {K:PySem.W.Frag}{ad:List Addr}{H:Hp}{a:Addr}{vs:List V}{ds:List D}(h:H a=some (.tup vs))(r:zE K ad H ds vs):Tt K ad H ⟨ds,fun _=>True⟩ (Bp K a) where
 go:=fun ad1 H1 S i w st _ hi=>⟨vs,vs[i]'(by rw[<- r.length];exact hi),ZL.of (w.tup _ _ h),qb _⟩
 yld:=fun ad1 H1 S i d x H' w st _ hd ⟨e,hx⟩=>by
  subst e
  obtain⟨v,ev,rv⟩:=r.get hd
  rw[hx vs (ZL.of (w.tup _ _ h))]at ev
  cases ev
  exact⟨Wd.refl,st,rv.wd w⟩
 stop:=fun ad1 H1 S w st _=>⟨vs,ZL.of (w.tup _ _ h),by rw[<- r.length];exact qg _⟩
def zvH {K:PySem.W.Frag}{ad:List Addr}{H:Hp}{a:Addr}{x:D}{ds:List D}(r:Rel K ad H x (.ref a)):Tt K ad H ⟨ds,fun S=>Lst S x ds⟩ (BR K a) where
 go:=fun ad1 H1 S i w st ok hi=>by
  obtain⟨a',vs,e,s,rs⟩:=Lst.sq st ok (r.wd w)
  cases e
  exact⟨vs,vs[i]'(by rw[<- rs.length];exact hi),s,qb _⟩
 yld:=fun ad1 H1 S i d y H' w st ok hd ⟨e,hx⟩=>by
  subst e
  obtain⟨a',vs,e,s,rs⟩:=Lst.sq st ok (r.wd w)
  cases e
  obtain⟨v,ev,rv⟩:=rs.get hd
  rw[hx vs s]at ev
  cases ev
  exact⟨Wd.refl,st,rv⟩
 stop:=fun ad1 H1 S w st ok=>by
  obtain⟨a',vs,e,s,rs⟩:=Lst.sq st ok (r.wd w)
  cases e
  exact⟨vs,s,by rw[<- rs.length];exact qg _⟩
def Za {t:DE}(h:PD X e t):R7 X tg e (Ze t):=by with_unfolding_all exact(Jq (zoT h) fun U H R hh=>Zv hh fun ad Z S R0 st rh q k =>
 ⟨ad,Z,S,_,st,rh,q,fun x S1 v H1 ad1 q1 w1 st1 r1=>by
  rcases q1 with⟨xs,rfl,q1⟩|⟨xs,hx,q1⟩|⟨z,rfl,q1⟩
  ·cases r1 with
   |tup h1 rs=>exact .inl ⟨_,rfl,.inr ⟨⟨_,ZL.of h1⟩,k _ S1 _ H1 ad1 q1 w1 st1 (zwF h1 rs)⟩⟩
  ·obtain⟨a,vs,rfl,s,rs⟩:=hx.sq st1 r1
   exact .inl ⟨a,rfl,.inl ⟨⟨vs,s⟩,k _ S1 _ H1 ad1 q1 w1 st1 (zvH r1)⟩⟩
  ·cases r1
   exact .inr ⟨z,rfl,k _ S1 _ H1 ad1 q1 w1 st1 (zvq z)⟩⟩)
def zrA {lo:Int}{n i:Nat}{d:D}(h:(upto lo n)[i]?=some d):i<n/\d=.int (lo+i):=by
 unfold upto at h
 rw[qj]at h
 have hi:=My.Wh (xs:=List.range n) (i:=i) (x:=i)
 cases hr:(List.range n)[i]? with
 |none=>rw[hr]at h;cases h
 |some k =>
  rw[hr]at h
  have h1:=My.Wh hr
  rw[RN]at h1
  have h2:(List.range n)[i]?=some i:=JZ h1
  rw[hr]at h2
  cases h2
  cases h
  exact⟨h1,rfl⟩
def ux (lo:Int)(n:Nat):(upto lo n).length=n:=by unfold upto;rw[qc,RN]
def uy {K:PySem.W.Frag}{ad:List Addr}{H:Hp}(lo:Int)(n:Nat):Tt K ad H ⟨upto lo n,fun _=>True⟩ (Qh lo n) where
 go:=fun ad1 H1 S i w st _ hi=>by rw[ux]at hi;exact hi
 yld:=fun ad1 H1 S i d x H' w st _ hd ⟨e,hx⟩=>by
  subst e
  obtain⟨_,rfl⟩:=zrA hd
  rw[hx]
  exact⟨Wd.refl,st,.int _⟩
 stop:=fun ad1 H1 S w st _=>by rw[ux];exact qg _
def zoU {P:Program}{w:World}{K:PySem.W.Frag}{tg:Expr}(it:Addr)(lo:Int)(n:Nat):Turn P w K tg (Qh lo n) [it] it (fun i h=>IsLongIter h it (lo+(i:Nat)*1) ((n:Int)-(i:Nat)) 1) where
 mem:=by simp
 obj:=fun i h st b hb=>by
  have e:b=it:=by simpa using hb
  subst e
  exact⟨_,st,fun v z=>by
   have z':Data.fields _=Data.cell v:=z
   cases z'⟩
 keep:=fun i h h' st k=>k it (by simp) _ st
 item:=by
  intro X hP hw hK hc i Z9 s U H E I hf st' hg
  subst hP hw hK
  obtain⟨f0,f1,f2,f3,f4,f5⟩:=hf it (by simp)
  have W:=Walks.longrange (prog:=X.prog) (w:=X.w) (I.ok.hd hc) it lo 1 n
  refine W.item i s _ _ hg st' fun v h' tk hv st'' kk=>?_
  obtain⟨t,rfl⟩:=hv
  have I1:Inv X Z9 U H { s with heap:=h',toks:=tk }:=I.turned (fun b o hb e=>kk b o (by simpa using hb) e) f0 f1 f3 f4 f5
  rw[Wq]
  exact⟨_,rfl,PL (s:={ s with heap:=h',toks:=tk }) (n:="longrange_iterator") st'' rfl rfl (by decide) ⟨.int (lo+i),H,I1,⟨t,rfl⟩,⟨rfl,rfl⟩,st'',fun b hb=>(hf b hb).1⟩⟩
 done:=by
  intro X hP hw hK hc i Z9 s U H E I hf st' hg
  subst hP hw hK
  obtain⟨f0,f1,f2,f3,f4,f5⟩:=hf it (by simp)
  exact wpAny_pyNext_long_end (I.ok.hd hc) st' (by have:n<=i:=hg;lia) fun h' eb=>⟨rfl,I.turned (t':=s.toks) (fun b o hb e=>eb b o hb e) f0 f1 f3 f4 f5⟩
 self:=fun _ _ _ _ _ st h=>wpAny_pyIter_longiter st h
def range_any {Z9:List (Addr×Obj)}{U:L2.St}{H:Hp}{s:Shared}{R:It->Hp->Prop}{E:Value->Shared->Prop}{lo hi:Int}{t u v:Tok}{tk:Nat}(I:Inv X Z9 U H s)
    (q:R (Qh lo (hi-lo).toNat) H):wpAny (model X.prog X.w) X.A (pyIter (.ref s.heap.objs.size)) (PIE X Z9 U tg R) E { s with heap:=s.heap.push { cls:=.type "range",data:=.fields #[.int lo t,.int hi u,.int 1 v] },toks:=tk }:=by
  have I1:Inv X Z9 U H { s with heap:=s.heap.push { cls:=.type "range",data:=.fields #[.int lo t,.int hi u,.int 1 v] },toks:=tk }:=I.kept fun b o e=>qd _ e
  have e1:lo+((0:Nat):Int)*1=lo:=by simp
  have e2:(((hi-lo).toNat:Nat):Int)-((0:Nat):Int)=Builtin.Range.rangeSize lo hi 1:=by rw[rangeSize_one];split<;>lia
  cases hsm:Builtin.Range.small lo hi 1 with
  |true =>
    refine wpAny_pyIter_range (IsRange.new ..) hsm ?_
    refine⟨(s.heap.push { cls:=.type "range",data:=.fields #[.int lo t,.int hi u,.int 1 v] }).objs.size,[(s.heap.push { cls:=.type "range",data:=.fields #[.int lo t,.int hi u,.int 1 v] }).objs.size],_,_,H,rfl,
      I1.kept (t':=tk) fun b o e=>qd _ e,uo _ lo (hi-lo).toNat,?_,fun b hb=>?_,q⟩
    . show IsRangeIter _ _ (lo+((0:Nat):Int)*1) ((((hi-lo).toNat:Nat):Int)-((0:Nat):Int)) 1
      rw[e1,e2]
      exact qq _ rfl
    . have e:b=(s.heap.push { cls:=.type "range",data:=.fields #[.int lo t,.int hi u,.int 1 v] }).objs.size:=by simpa using hb
      subst e
      exact I1.fpOk (qg _) (I1.hok.fresh (qg _))
  |false =>
    refine wpAny_pyIter_longrange (IsRange.new ..) hsm ?_
    refine⟨(s.heap.push { cls:=.type "range",data:=.fields #[.int lo t,.int hi u,.int 1 v] }).objs.size,[(s.heap.push { cls:=.type "range",data:=.fields #[.int lo t,.int hi u,.int 1 v] }).objs.size],_,_,H,rfl,
      I1.kept (t':=tk) fun b o e=>qd _ e,zoU _ lo (hi-lo).toNat,?_,fun b hb=>?_,q⟩
    . show IsLongIter _ _ (lo+((0:Nat):Int)*1) ((((hi-lo).toNat:Nat):Int)-((0:Nat):Int)) 1
      rw[e1,e2]
      exact qq _ rfl
    . have e:b=(s.heap.push { cls:=.type "range",data:=.fields #[.int lo t,.int hi u,.int 1 v] }).objs.size:=by simpa using hb
      subst e
      exact I1.fpOk (qg _) (I1.hok.fresh (qg _))
def v9 {a:Expr}{t:DA}{p pos:Pos}(hm:X.mg "range"=none)(ha:PAD X [a] t)(hg:Gl X "range":=by rfl)(hs:starEach [a] X.env=[(false,eval a X.env)]:=by exact Pu rfl):R7 X tg (.Call (.Name "range" p) [a] [] pos) (Oi t):=by with_unfolding_all exact(Jq (jg hg hm ha hs) fun U H R hh=>Zv hh fun ad Z S R0 st rh q k =>
 ⟨ad,Z,S,_,st,rh,q,fun ds S1 vs H1 ad1 ⟨j,ed,b1,b2,q1⟩ w1 st1 r1=>by
  subst ed
  obtain⟨v,rfl,rv⟩:=XH r1
  cases rv
  exact⟨j,rfl,b1,b2,k _ S1 _ H1 ad1 q1 w1 st1 (uy 0 j.toNat)⟩⟩)
def jC {a b:Expr}{t:DA}{p pos:Pos}(hm:X.mg "range"=none)(ha:PAD X [a,b] t)(hg:Gl X "range":=by rfl)(hs:starEach [a,b] X.env=[(false,eval a X.env),(false,eval b X.env)]:=by exact xO rfl rfl)(hs2:starEach [b] X.env=[(false,eval b X.env)]:=by exact Pu rfl) :
  R7 X tg (.Call (.Name "range" p) [a,b] [] pos) (Eb t):=by
 with_unfolding_all
  rintro Z9 s U H R I ⟨ad,Z,S,R0,st,rh,q,k⟩
  refine Call_ (U5 I hg hm boot_range (PyProof.Rows.callWith_type1 (Z0 (ha pos Z9 s U H (fun vs H1=>∃ i j:Int,vs=[.int i,.int j]/\R (Qh i (j-i).toNat) H1) I ⟨ad,Z,S,_,st,rh,q,fun ds S1 vs H1 ad1 ⟨i,j,ed,q1⟩ w1 st1 r1=>by
   subst ed
   obtain⟨v,u,rfl,rv,ru⟩:=Qe r1
   cases rv
   cases ru
   exact⟨i,j,rfl,k _ S1 _ H1 ad1 q1 w1 st1 (uy i _)⟩⟩) fun us s1 ⟨vs,H1,I1,r1,q1⟩=>?_) (by rw[hs,hs2]) (by rw[hs2];rfl)))
  obtain⟨i,j,e,q⟩:=q1
  subst e
  cases r1 with
  |cons r rr =>
   cases rr with
   |cons r' rr =>
    cases rr
    obtain⟨t,rfl⟩:=r
    obtain⟨t',rfl⟩:=r'
    exact call_range_2 (range_any I1 q)
def Yq {iter:Expr}{body:List Stmt}{wi:DI}{g:DG}{t:DS}{pos:Pos}(hi:R7 X tg iter wi)(hg:NK X 1000 tg g)(hb:Wt X body t)(hp:PassesOwn (model X.prog X.w) X.A X.env X.xe:=by first|exact PassesOwn.never|exact PassesOwn.leaving)(hc:X.calm=true:=by rfl)(hs:∀ x,foldedSetIterable iter X.env x=pure x:=by intro _;rfl):Xn X (.For tg iter body [] pos) (Yx wi g t):=by
 with_unfolding_all
  obtain⟨g',pg,rg⟩:=hg
  refine Wf (zv2 hp hc hi pg hb hs) fun E U H hh=>Zv hh fun ad Z S E0 so rh q k=>?_
  refine⟨ad,Z,S,_,so,rh,q,fun J0 S1 J H1 ad1 ⟨W,w0,hok,step,fin⟩ d1 st1 it=>?_⟩
  refine⟨fun i m σ' H'=>m=J0.items.length-i/\i<=J0.items.length/\∃ ad' ρ' S',W i ρ' S'/\Wd ad1 H1 ad' H'/\zL X.K ad' H' S'/\Zd X.K ad' H' ρ' σ',⟨J0.items.length,rfl,qO _,ad1,Z,S1,w0,Wd.refl,st1,rh.wd d1⟩,?_⟩
  rintro i m σ2 H2 ⟨rfl,hi2,ad2,ρ2,S2,w2,d2,st2,rh2⟩
  by_cases hlt:i<J0.items.length
  ·have ed:J0.items[i]?=some J0.items[i]:=qb hlt
   refine .inr ⟨it.go ad2 H2 S2 i d2 st2 (hok _ _ _ w2) hlt,fun σ' H'=>∃ ad' ρ' S',W (i+1) ρ' S'/\Wd ad1 H1 ad' H'/\zL X.K ad' H' S'/\Zd X.K ad' H' ρ' σ',?_,fun x H' hy=>?_⟩
   ·rintro σ' H' ⟨ad',ρ',S',w',d',st',rh'⟩
    exact⟨J0.items.length-(i+1),by lia,rfl,hlt,ad',ρ',S',w',d',st',rh'⟩
   ·obtain⟨d3,st3,r3⟩:=it.yld ad2 H2 S2 i _ x H' d2 st2 (hok _ _ _ w2) ed hy
    refine rg ad2 H' S2 ρ2 σ2 _ x _ _ st3 (rh2.wd d3) r3 (step i _ ρ2 S2 ed w2) fun ρ4 S4 σ4 H4 ad4 q4 d4 st4 rh4 _ _=>?_
    have d14:=(d2.trans d3).trans d4
    have d04:=d1.trans d14
    exact⟨ad4,ρ4,S4,{ E0 with nx:=W (i+1),ct:=W (i+1),bk:=E0.nx },st4,rh4,q4,⟨fun ρ' S' σ' H' ad' q' w' st' rh'=>⟨ad',ρ',S',q',d14.trans w',st',rh'⟩,k.rt.wd d04,fun ρ' S' σ' H' ad' q' w' st' rh'=>k.nx ρ' S' σ' H' ad' q' (d04.trans w') st' rh',fun ρ' S' σ' H' ad' q' w' st' rh'=>⟨ad',ρ',S',q',d14.trans w',st',rh'⟩⟩⟩
  ·have e:i=J0.items.length:=by lia
   subst e
   exact .inl ⟨it.stop ad2 H2 S2 d2 st2 (hok _ _ _ w2),k.nx ρ2 S2 σ2 H2 ad2 (fin ρ2 S2 w2) (d1.trans d2) st2 rh2⟩
end
theorem Ga:∀ {a b:L2.St} (n:Nat),(∀ j,j<n->a[j]?=some none\/a.length<=j)->b.length=a.length->(∀ j,n<=j->b[j]?=a[j]?)->W0 a b
 |[],[],_,_,_,_=>True.intro
 |[],_::_,_,_,h,_=>by simp at h
 |_::_,[],_,_,h,_=>by simp at h
 |x::a,y::b,n,h0,hl,h=>by
  have hl':b.length=a.length:=by simpa using hl
  cases n with
  |zero =>
   have e:=h 0 (qg _)
   have e':y=x:=by simpa using e
   subst e'
   have rest:W0 a b:=Ga 0 (fun j hj=>absurd hj (M4 _)) hl' fun j _=>by simpa using h (j+1) (qO _)
   cases y with
   |none=>exact rest
   |some v=>exact⟨rfl,rest⟩
  |succ n =>
   have rest:W0 a b:=Ga n (fun j hj=>by
    rcases h0 (j+1) (by lia)with e|e
    ·exact .inl (by simpa using e)
    ·exact .inr (by simpa using e)) hl' fun j hj=>by simpa using h (j+1) (by lia)
   rcases h0 0 (Nat.succ_pos _)with e|e
   ·have e':x=none:=by simpa using e
    subst e'
    exact rest
   ·simp at e
def zsO {K:PySem.W.Frag}{ad:List Addr}{H:Hp}{Z:ZR}{U:L2.St}(h:Zd K ad H Z U)(own:List Str)(fv:List Nat):Zd K ad H (NP own.length fv Z) (cst own fv U) where
  len:=by unfold NP cst;rw[qf,qf,qK,qK,qc,qc]
  val:=fun i d e=>by
    unfold NP at e
    unfold cst
    by_cases hi:i<own.length
    . rw[qk (by rw[qK];exact hi),K1]at e
      split at e<;>cases e
    . have hi':own.length<=i:=Qs hi
      rw[qi (by rw[qK];exact hi'),qK,qj]at e
      rw[qi (by rw[qK];exact hi'),qK,qj]
      cases hf:fv[i-own.length]? with
      |none=>rw[hf]at e;cases e
      |some j =>
        rw[hf]at e
        simp only[LR,Option.some.injEq]at e ⊢
        cases hr:Z[j]? with
        |none=>rw[hr]at e;cases e
        |some o =>
          rw[hr]at e
          have e':o=some d:=e
          subst e'
          obtain⟨v,ev,rv⟩:=h.val j d hr
          exact⟨v,by rw[ev];rfl,rv⟩
@[irreducible] def Ji (X:Cx)(ifs:List Expr)(t:DT):Prop:=Qi X ifs (M7 X.K t)
def VJ {X:Cx}:Ji X [] Wx:=by with_unfolding_all exact(fun Z9 s U H Q I hh=>Zv hh fun ad Z S Q0 st rh q k=>zvI Z9 s U H Q I (k true S H ad q Wd.refl st))
def Du {X:Cx}{c:Expr}{t:DT}(h:WM X c t):Ji X [c] t:=by with_unfolding_all exact(zuU h)
def ofT {A B:Prop}(h:if true=true then A else B):A:=by rw[if_pos rfl]at h;exact h
def ofF {A B:Prop}(h:if false=true then A else B):B:=by rw[if_neg qu]at h;exact h
def uD {K:PySem.W.Frag}{own:List Str}{fv:List Nat}{wi:DI}{g:DG}{g':TG}{tc:DT}{te:DE}(rg:Ry K own.length g g'){U:L2.St}{H:Hp}{Q:VK}(h:up K (XS own.length fv wi g tc te) U H Q):DX own fv (tQ K wi) g' (M7 K tc) (up K te) U H Q:=by
 obtain⟨ad,Z,S,Q0,so,rh,q,k⟩:=h
 refine⟨ad,Z,S,_,so,rh,q,fun J0 S1 J H1 ad1 ⟨hbig,W,w0,hok,step,fin⟩ d1 st1 it=>?_⟩
 intro p hp
 refine⟨fun i m H'=>m=J0.items.length-i/\i<=J0.items.length/\∃ ad' S' ys vs,W i ys S'/\Wd ad1 H1 ad' H'/\zL K ad' H' S'/\p∉ad'/\H' p=some (.lst vs)/\zE K ad' H' ys vs/\vs.length<=i,
  ⟨J0.items.length,rfl,qO _,ad1,S1,[],[],w0,Wd.laid hp,st1.laid hp,st1.fresh hp,X7,.nil,qg _⟩,?_⟩
 rintro i m H2 ⟨rfl,hi2,ad2,S2,ys,vs,w2,d2,st2,hp2,hv2,r2,hl2⟩
 by_cases hlt:i<J0.items.length
 ·have ed:J0.items[i]?=some J0.items[i]:=qb hlt
  refine .inr ⟨it.go ad2 H2 S2 i d2 st2 (hok _ _ _ w2) hlt,fun x H' hy=>?_⟩
  obtain⟨d3,st3,r3⟩:=it.yld ad2 H2 S2 i _ x H' d2 st2 (hok _ _ _ w2) ed hy
  have rh3:=zsO (rh.wd ((d1.trans d2).trans d3)) own fv
  refine rg ad2 H' S2 _ _ _ x _ _ st3 rh3 r3 (step i _ ys S2 ed w2) fun ρ4 S4 σ4 H4 ad4 q4 d4 st4 rh4 l4 a4=>?_
  refine⟨Ga own.length (fun j hj=>.inl ?_) l4 a4,ad4,ρ4,S4,_,st4,rh4,q4,fun b S5 H5 ad5 q5 d5 st5=>?_⟩
  ·unfold cst
   rw[qk (by rw[qK];exact hj),K1,if_pos hj]
  have fwd:∀ {ad9:List Addr} {H9:Hp},Wd ad2 H2 ad9 H9->p∉ad9/\H9 p=some (.lst vs):=fun {ad9 H9} w=>⟨(fun m=>by
   have z:=w.new p m hp2
   rw[hv2]at z;cases z),w.keep p _ hp2 hv2⟩
  have d25:=(d3.trans d4).trans d5
  cases b with
  |true =>
   refine Es ?_
   have q5:=Dp.ofT q5
   refine⟨ad5,ρ4,S5,_,st5,rh4.wd d5,q5,fun y S6 v H6 ad6 q6 d6 st6 r6=>?_⟩
   have d26:=d25.trans d6
   obtain⟨n6,e6⟩:=fwd d26
   have hw:Wr ad6 H6 ad6 (upd H6 p (.lst (vs++[v]))):=Wr.hid e6
   have hvl:vs.length<sizeLine:=Jx (by lia)
   exact⟨vs,e6,hvl,J0.items.length-(i+1),by lia,rfl,hlt,ad6,S6,ys++[y],vs++[v],q6,(d2.trans d26).hid hp,st6.hid e6 n6 (st1.bfree hp),n6,X7,zE.wr hw ((r2.wd d26).append (.cons r6 .nil)),by rw[qf];exact Nat.succ_le_succ hl2⟩
  |false =>
   refine Er ?_
   have q5:=Dp.ofF q5
   obtain⟨n5,e5⟩:=fwd d25
   exact⟨J0.items.length-(i+1),by lia,rfl,hlt,ad5,S5,ys,vs,q5,d2.trans d25,st5,n5,e5,r2.wd d25,by lia⟩
 ·have e:i=J0.items.length:=by lia
  subst e
  refine .inl ⟨it.stop ad2 H2 S2 d2 st2 (hok _ _ _ w2),?_⟩
  exact k _ _ _ _ (ad2++[p]) (fin ys S2 w2) (d1.trans (d2.add hp)) (st2.add hv2 hp2 r2 (st1.bfree hp)) (.ref (by rw[<- st2.len,qi (qg _),Wv];rfl))
section
variable {X:Cx}{sc:Scope}{tg iter elt:Expr}{ifs:List Expr}{own free:List Str}{fv:List Nat}{wi:DI}{g:DG}{tc:DT}{te:DE}{pos:Pos}
def Vo {g':TG}(hfr:Ur (fun x=>X.env.kindOf x=some .cell) sc.names)(hfv:Ru X sc free fv)(hi:R7 X tg iter wi)
  (hg:Ry X.K own.length g g'/\∀ cl C s₀ H₀ ex,PG (inner X sc (own++free) cl C s₀ H₀ ex) tg g') (ht:∀ cl C s₀ H₀ ex,Ji (inner X sc (own++free) cl C s₀ H₀ ex) ifs tc) (he:∀ cl C s₀ H₀ ex,PD (inner X sc (own++free) cl C s₀ H₀ ex) elt te) (hcalm:X.calm=true:=by rfl) (hxe:(X.xe=fun _ _=>False):=by rfl) (hkind:sc.kind=.function:=by rfl) (hcell:∀ y∈sc.names,y.2=.cell->sc.names.lookup y.1=some .cell:=by decide +kernel) (hnames:∀ y∈sc.names,y.2=.local->sc.names.lookup y.1=some .local:=by decide +kernel)
  (hs:∀ x,foldedSetIterable iter X.env x=pure x:=by intro _;rfl):PD X (.ListComp elt [⟨tg,iter,ifs,0⟩] sc pos) (XS own.length fv wi g tc te):=by with_unfolding_all exact(YL (zyi (tc:=M7 X.K tc) (te:=up X.K te) hcalm hxe hkind hcell hnames hfr hfv hi hg.2 ht he hs) fun _ _ _=>uD hg.1)
def JR {g':TG}{i:Nat}{y:Str}{py spos:Pos}(hN:X.N.Nodup)(hfr:Ur (fun x=>X.env.kindOf x=some .cell) sc.names)(hfv:Ru X sc free fv)(hi:R7 X tg iter wi)
  (hg:Ry X.K own.length g g'/\∀ cl C s₀ H₀ ex,PG (inner X sc (own++free) cl C s₀ H₀ ex) tg g') (ht:∀ cl C s₀ H₀ ex,Ji (inner X sc (own++free) cl C s₀ H₀ ex) ifs tc) (he:∀ cl C s₀ H₀ ex,PD (inner X sc (own++free) cl C s₀ H₀ ex) elt te) (hy:X.N[i]?=some y:=by rfl) (hyl:X.env.scope.names.lookup y=some .local:=by rfl) (hcalm:X.calm=true:=by rfl) (hxe:(X.xe=fun _ _=>False):=by rfl) (hkind:sc.kind=.function:=by rfl) (hcell:∀ y∈sc.names,y.2=.cell->sc.names.lookup y.1=some .cell:=by decide +kernel) (hnames:∀ y∈sc.names,y.2=.local->sc.names.lookup y.1=some .local:=by decide +kernel)
  (hsw:swapsWith (.ListComp elt [⟨tg,iter,ifs,0⟩] sc pos) (some (.Name y py)) spos.line X.env=pure true:=by rfl)
  (hs:∀ x,foldedSetIterable iter X.env x=pure x:=by intro _;rfl):Xn X (.Assign [.Name y py] (.ListComp elt [⟨tg,iter,ifs,0⟩] sc pos) spos) (zH (XS own.length fv wi g tc te) (YW i)):=by with_unfolding_all exact(Wf (ztm (tc:=M7 X.K tc) (te:=up X.K te) hN hy hyl hcalm hxe hkind hcell hnames hfr hfv hi hg.2 ht he hsw hs) fun E U H hh=>Zv hh fun ad Z S E0 so rh q k =>
  uD (Q:=fun x H1=>L2.YW i x U H1 E.nx) hg.1 ⟨ad,Z,S,_,so,rh,q,fun d S' v H' ad' q' w st' r=>k.nx _ S' _ H' ad' q' w st' ((rh.wd w).set r i)⟩)
def Jh {K:PySem.W.Frag}{b:Nat}:KN K b X3 L2.X3:=fun ad H S Z U ds vs Q0 Q st rh r ⟨e,q⟩ k=>by
 subst e
 cases r
 exact⟨rfl,k Z S U H ad q Wd.refl st rh rfl fun _ _=>rfl⟩
def TX {K:PySem.W.Frag}{b:Nat}{t:DG}{u:Vt}{t':TG}{u':Uj}(r1:Ry K b t t')(r2:KN K b u u'):KN K b (Zn t u) (L2.Zn t' u'):=fun ad H S Z U ds vs Q0 Q st rh r ⟨d,rs,ed,q⟩ k=>by
 subst ed
 cases r with
 |cons r t =>
  refine⟨_,_,rfl,r1 ad H S Z U d _ _ _ st rh r q fun ρ1 S1 σ1 H1 ad1 q1 w1 st1 rh1 l1 a1=>?_⟩
  exact r2 ad1 H1 S1 ρ1 σ1 _ _ _ _ st1 rh1 (t.wd w1) q1 fun ρ2 S2 σ2 H2 ad2 q2 w2 st2 rh2 l2 a2=>k ρ2 S2 σ2 H2 ad2 q2 (w1.trans w2) st2 rh2 (l2.trans l1) fun j hj=>(a2 j hj).trans (a1 j hj)
def Jg {K:PySem.W.Frag}{b n:Nat}{t:Vt}{t':Uj}(r:KN K b t t'):Ry K b (XF n t) (L2.XF K n t'):=fun ad H S Z U d v Q0 Q st rh rv ⟨xs,ed,hl,q⟩ k=>by
 subst ed
 cases rv with
 |tup h1 rs=>exact⟨_,_,rfl,ZL.of h1,by rw[<- rs.length];exact hl,r ad H S Z U xs _ _ _ st rh rs q k⟩
end
def sG {K:PySem.W.Frag}{ad:List Addr}{H:Hp}{ds:List D}{vs:List V}(N:List Str)(r:zE K ad H ds vs):Zd K ad H (Rc N.length ds) (L2.start N vs) where
  len:=by unfold Rc L2.start;rw[qf,qf,qc,qc,qK,qK,r.length]
  val:=fun i d e=>by
    unfold Rc at e
    unfold L2.start
    by_cases hi:i<ds.length
    . rw[qk (by rw[qc];exact hi),qj]at e
      rw[qk (by rw[qc,<- r.length];exact hi),qj]
      cases hd:ds[i]? with
      |none=>rw[hd]at e;cases e
      |some d' =>
        rw[hd]at e
        cases e
        obtain⟨v,ev,rv⟩:=r.get hd
        exact⟨v,by rw[ev];rfl,rv⟩
    . rw[qi (by rw[qc];exact Qs hi),K1]at e
      split at e<;>cases e
def zE.cut1 {K:PySem.W.Frag}{ad ad':List Addr}{H:Hp}(k:Nat)(h1:∀ d v,fl k d=true->Rel K ad H d v->Rel K ad' H d v):∀ ds vs,ds.all (fl k)=true->zE K ad H ds vs->zE K ad' H ds vs:=by
 intro ds
 induction ds with
 |nil=>intro vs _ r;cases r;exact .nil
 |cons d ds ih =>
  intro vs hf r
  rw[Uy,qG]at hf
  cases r with
  |cons r t=>exact .cons (h1 d _ hf.1 r) (ih _ hf.2 t)
def Rel.cut {K:PySem.W.Frag}{ad ad':List Addr}{H:Hp}:∀ (k:Nat) (d:D) (v:V),fl k d=true->Rel K ad H d v->Rel K ad' H d v:=by
 intro k
 induction k with
 |zero =>
  intro d v hf r
  cases r with
  |non=>exact .non
  |bl b=>exact .bl b
  |int i=>exact .int i
  |str x=>exact .str x
  |ty n=>cases hf
  |tup h r=>cases hf
  |rl h r=>cases hf
  |ref h=>cases hf
  |exn _ _ _=>cases hf
 |succ k ih =>
  intro d v hf r
  cases r with
  |non=>exact .non
  |bl b=>exact .bl b
  |int i=>exact .int i
  |str x=>exact .str x
  |ty n=>cases hf
  |tup h r=>exact .tup h (zE.cut1 k ih _ _ hf r)
  |rl h r=>cases hf
  |ref h=>cases hf
  |exn _ _ _=>cases hf
theorem zE.cut {K:PySem.W.Frag}{ad ad':List Addr}{H:Hp}(k:Nat)(ds:List D)(vs:List V)(hf:ds.all (fl k)=true)(r:zE K ad H ds vs):zE K ad' H ds vs:=zE.cut1 k (Rel.cut k) ds vs hf r
end Dp
namespace Dp
open PySem PySem.Spec PyProof.Rows L2 My
variable [B:Bs]
mutual
theorem Rel.low {K:PySem.W.Frag}{ad ad':List Addr}{H H':Hp}{m:Nat}(hm:ad.length<=m):∀ {d:D} {u v:V},Rel K ad H d u->Rel K ad' H' d v->Rel K (ad'.take m) H' d v
 |_,_,_,.non,r=>by cases r;exact .non
 |_,_,_,.bl b,r=>by cases r;exact .bl b
 |_,_,_,.int i,r=>by cases r;exact .int i
 |_,_,_,.str x,r=>by cases r;exact .str x
 |_,_,_,.ty n,r=>by cases r;exact .ty n
 |_,_,_,.tup _ t,r=>by
  cases r with
  |tup h t'=>exact .tup h (zE.low hm t t')
 |_,_,_,.rl _ t,r=>by
  cases r with
  |rl h t'=>exact .rl h (zE.low hm t t')
 |_,_,_,.exn _ _ _,r=>by
  cases r with
  |exn h e n=>exact .exn h e n
 |_,_,_,.ref h,r=>by
  cases r with
  |ref h'=>exact .ref (by rw[Gw (qD (My.Wh h) hm)];exact h')
theorem zE.low {K:PySem.W.Frag}{ad ad':List Addr}{H H':Hp}{m:Nat}(hm:ad.length<=m):∀ {ds:List D} {us vs:List V},zE K ad H ds us->zE K ad' H' ds vs->zE K (ad'.take m) H' ds vs
 |_,_,_,.nil,r=>by cases r;exact .nil
 |_,_,_,.cons r t,q=>by
  cases q with
  |cons r' t'=>exact .cons (Rel.low hm r r') (zE.low hm t t')
end
theorem Y8.low {K:PySem.W.Frag}{ad ad':List Addr}{H H':Hp}{m:Nat}(hm:ad.length<=m):∀ {fs:List (Str×D)} {us vs:List (Str×V)},Y8 K ad H fs us->Y8 K ad' H' fs vs->Y8 K (ad'.take m) H' fs vs
 |_,_,_,.nil,r=>by cases r;exact .nil
 |_,_,_,.cons r t,q=>by
  cases q with
  |cons r' t'=>exact .cons (Rel.low hm r r') (Y8.low hm t t')
theorem RelK.low {K:PySem.W.Frag}{ad ad':List Addr}{H H':Hp}{m:Nat}(hm:ad.length<=m):∀ {fs:List (Str×D)} {us vs:List (Key×V)},RelK K ad H fs us->RelK K ad' H' fs vs->RelK K (ad'.take m) H' fs vs
 |_,_,_,.nil,r=>by cases r;exact .nil
 |_,_,_,.cons r t,q=>by
  cases q with
  |cons r' t'=>exact .cons (Rel.low hm r r') (RelK.low hm t t')
theorem Zg.low {K:PySem.W.Frag}{ad ad':List Addr}{H H':Hp}{m:Nat}(hm:ad.length<=m):∀ {fs:List (List Key×D)} {us vs:List (List Key×V)},Zg K ad H fs us->Zg K ad' H' fs vs->Zg K (ad'.take m) H' fs vs
 |_,_,_,.nil,r=>by cases r;exact .nil
 |_,_,_,.cons r t,q=>by
  cases q with
  |cons r' t'=>exact .cons (Rel.low hm r r') (Zg.low hm t t')
def Hq {K:PySem.W.Frag}{ad:List Addr}{H:Hp}{S:Z5}{Q0:DK}{Q:VK}(st:zL K ad H S)(k:KK K ad H Q0 Q):KK K ad H (Fin S Q0) Q:=by
 intro d S' v H' ad' hf w st' r
 rcases hf with q|⟨S1,pre,hlen,hd,hc,q⟩
 ·exact k d S' v H' ad' q w st' r
 have hS:S1.length<=S'.length:=pre.length_le
 have had:ad.length<=S1.length:=by rw[st.len];exact hlen
 have htk:∀ {n:Nat} {a:Addr},(ad'.take S1.length)[n]?=some a->ad'[n]?=some a:=fun {n a} e=>by
  have hn:=My.Wh e
  rw[Vu]at hn
  rw[Gw (by lia)]at e
  exact e
 have w1:Wd ad H (ad'.take S1.length) H':=by
  refine⟨?_,w.keep,w.tup,w.frz,fun b m n=>w.new b (List.mem_of_mem_take m) n⟩
  obtain⟨t,rfl⟩:=w.pre
  rw[List.take_append,G3 had]
  exact Lg _ _
 refine k d S1 v H' _ q w1 ⟨st.wd.trans w1,by rw[Vu,st'.len];lia,st'.nd.sublist (List.take_sublist _ _),fun n a c e1 e2=>?_⟩ ?_
 ·have e1':=htk e1
  have ok:=st'.cell n a c e1' (Ek pre e2)
  rcases hc n c e2 with h|h
  ·obtain⟨a0,ea,ok0⟩:=st.get h
   cases c with
   |ins c fs =>
    obtain⟨C,dx,vs,hv,c1,c2,rv,hn⟩:=ok
    obtain⟨_,_,us,_,_,_,ru,_⟩:=ok0
    exact⟨C,dx,vs,hv,c1,c2,Y8.low had ru rv,hn⟩
   |dk Z6 =>
    obtain⟨vs,hv,rv⟩:=ok
    obtain⟨us,hu,ru⟩:=ok0
    exact⟨vs,hv,RelK.low had ru rv⟩
   |dt Z6 =>
    obtain⟨vs,hv,rv⟩:=ok
    obtain⟨us,hu,ru⟩:=ok0
    exact⟨vs,hv,Zg.low had ru rv⟩
   |lst xs =>
    obtain⟨vs,hv,rv⟩:=ok
    obtain⟨us,hu,ru⟩:=ok0
    exact⟨vs,hv,zE.low had ru rv⟩
  ·cases c with
   |ins c fs=>cases h
   |dk _=>cases h
   |dt _=>cases h
   |lst xs =>
    obtain⟨vs,hv,rv⟩:=ok
    exact⟨vs,hv,zE.cut 20 _ _ h rv⟩
 ·rcases hd with h|⟨n,rfl,hn⟩
  ·exact Rel.cut 20 _ _ h r
  ·cases r with
   |ref e=>exact .ref (by rw[Gw hn];exact e)
omit B in
def jY {P:Program}{w:World}{K:PySem.W.Frag}{mg:Str->Option Value}{base:Heap}{x qual:Str}{st:Stmt}{f:Addr}{fd:FuncData}{N ps:List Str}{k:Nat}{sp:ZV}{b:DS}(F:V0 K x qual st f fd)(S:RJ N ps (zY st))
  (len:∀ ds So Q,sp ds So Q->ds.length=ps.length) (body:BodyOk N.length b sp)
  (term:∀ (cdv:Value) (A:Around) (outer:List Env) (s:Shared) (H:Hp) (E:XK),Zj k (A.deeper (envOfC qual (zY st) s.heap.objs.size f cdv))->∀ [Bs],Wt (Wn ZS P w K mg base N qual (zY st) f cdv A outer s H E).nox (Xh st) b) :
  zN P w K mg base ZS (k+1) f fd ps (Z4 K sp):=by
 with_unfolding_all
  refine F.ok S (fun vs H Q E ⟨ad,So,ds,Q0,so,r,hf,kk⟩=>by rw[<- r.length];exact len ds So Q0 hf) fun cdv A outer s H vs Q E hr ⟨ad,So,ds,Q0,so,r,hf,kk⟩=>?_
  letI:Bs:=⟨ad,H⟩
  refine⟨_,term cdv A outer s H E hr,ad,Rc N.length ds,So,_,so,sG N r,body ds So Q0 hf,⟨fun Z S' U H' ad' q w' st' rh=>Hq so kk .non S' .non H' ad' q w' st' .non,Hq so kk,fun _ _ _ _ _ q=>q.elim,fun _ _ _ _ _ q=>q.elim⟩⟩
omit B in
def zvw {K:PySem.W.Frag}{H:Hp}{a:Addr}{ns:List Int}(hl:ns.length<=63)(hg:∀ n∈ns,Hg n)(hO:Only H)(hS:Zq K H a (ns.map V.int)):Z4 K Oh [.ref a] H (fun v _=>v=.bl true) fun _ _ _=>False:=by
 have hr:Qt K H a (ns.map V.int):=by
  rcases hS with(h|h)|h
  ·rcases hO a with e|⟨o,xs,e⟩
   ·rw[h]at e;cases e
   ·rw[h]at e;cases e
  ·exact .inl h
  ·exact .inr h
 refine⟨[],[],[.rl (ns.map D.int)],fun d _=>d=.bl true,@zL.mk ⟨[],H⟩ _ _ _ _ Wd.refl rfl List.nodup_nil (fun n a c e=>by simp at e),.cons (.rl hr (zE.mk_ints ns)) .nil,⟨ns,rfl,⟨rfl,hg⟩,hl,fun _=>rfl⟩,fun d S' v H' ad' q w st' r=>?_⟩
 have q':d=.bl true:=q
 subst q'
 cases r
 rfl
omit B in
theorem yD:∀ {ns:List Int} {n:Int},n∈ns->PySem.W.WData.weight (.int n)<=PySem.W.WData.weightAll (ns.map PySem.W.WData.int)
 |m::ns,n,h=>by
  rw[qJ,PySem.W.WData.weightAll]
  rcases qh.mp h with rfl|h
  ·lia
  ·have:=yD h;lia
omit B in
def zr0 {l:PySem.W.OpenLaw}{n k:Nat}{q:Program}{loose:List Str}{XP:(Str->Option Value)->Heap->Prop}{YP:World->Heap->Prop}{d:DefRec}{K:Params->PySem.W.Frag}{sp:World->Sp}{x:Str}
  (hn:l.most=some n) (hn2:n<=sizeLine) (hdf:d.params.defaults=[]) (hr:Zj k callerA) (hY:∀ (w:World) (h:Heap),YP w h->(K w.params).In h)
  (F:∀ (w:World) (mg:Str->Option Value) (fa:Addr) (h:Heap),(K w.params).In h->h.Ns mainGlobals mg->mg d.name=some (.ref fa) ->
   ∃ fd:FuncData,(∀ (s:Shared) (u:Value),BindsTo s fd ⟨[u],[]⟩ [(x,u)])/\∀ base:Heap,(K w.params).In base->base.Ns mainGlobals mg->zN l.prog w (K w.params) mg base ZS k fa fd [x] (sp w))
  (hsp:∀ (w:World) (H:Hp) (a:Addr) (ns:List Int),ns.length<=n->(∀ m∈ns,Hg m)->Only H->Zq (K w.params) H a (ns.map V.int)->sp w [.ref a] H (fun v _=>v=.bl true) fun _ _ _=>False) :
  PySem.W.WalkO q loose XP YP l.row.toRowW d [] (fun f vs=>PySem.call f vs):=by
 intro w s₀ s₁ mg mb G Y fa o pm cd doc dV kV ho hd hcd hD hmg hg args vals as hpre hlay hrd hwl hlo
 obtain rfl:dV=.none:=PySem.W.Dflts.none hD hdf
 obtain rfl:kV=.none:=PySem.W.Dflts.noKw hD
 obtain⟨a,vs,ns,rfl,rfl,hobj,hints,hlen⟩:=Att.zp8 hn hpre hwl
 have hbits:∀ m∈ns,Hg m:=fun m hm=>by
  have h1:PySem.W.WData.layable (.list (ns.map .int))=true:=by simpa [PySem.W.WData.layableAll]using hlay
  have h2:PySem.W.WData.weight (.list (ns.map PySem.W.WData.int))<=2 ^ 20:=by
   unfold PySem.W.WData.layable at h1
   rw[qG,decide_eq_true_eq]at h1
   exact h1.2
  have h3:=Xi (yD hm) (by simpa only[PySem.W.WData.weight]using h2)
  exact zsX (by simpa only[PySem.W.WData.weight,Builtin.Int.intBits]using h3)
 have KX:=hY w _ Y
 obtain⟨fd,hb,hF⟩:=F w mg fa _ KX G.T.g hmg
 refine PySem.W.enter_call (codeAny_mono (zrt KX G.T.g G.T.b G.T.builtins G.T.nolimit hg hobj hints (Xi hlen hn2) hr hF hb (fun H hO hS=>hsp w H a ns hlen hbits hO hS) fun _ _ _ z=>z) fun r s' hq=>?_)
 obtain⟨rfl,h2,h3,h4⟩:=hq
 exact⟨.inl ⟨.bool true,.bool true,[],rfl,fun _=>rfl,.bool true,Att.zpt l _,fun _=>⟨List.Pairwise.nil,fun _ hm=>(nomatch hm)⟩⟩,h2,h3,h4⟩
omit B in
def yg {us:List Value}(hl:us.length=1):∃ a0,us=[a0]:=by
  cases us with
  |nil=>simp at hl
  |cons a0 us =>
  cases us with
  |nil=>exact⟨a0,rfl⟩
  |cons b us=>simp at hl
omit B in
def Bm {us:List Value}(hl:us.length=2):∃ a0 a1,us=[a0,a1]:=by
  cases us with
  |nil=>simp at hl
  |cons a0 us =>
  cases us with
  |nil=>simp at hl
  |cons a1 us =>
  cases us with
  |nil=>exact⟨a0,a1,rfl⟩
  |cons b us=>simp at hl
omit B in
def sW {us:List Value}(hl:us.length=3):∃ a0 a1 a2,us=[a0,a1,a2]:=by
  cases us with
  |nil=>simp at hl
  |cons a0 us =>
  cases us with
  |nil=>simp at hl
  |cons a1 us =>
  cases us with
  |nil=>simp at hl
  |cons a2 us =>
  cases us with
  |nil=>exact⟨a0,a1,a2,rfl⟩
  |cons b us=>simp at hl
omit B in
def Ac {us:List Value}(hl:us.length=4):∃ a0 a1 a2 a3,us=[a0,a1,a2,a3]:=by
  cases us with
  |nil=>simp at hl
  |cons a0 us =>
  cases us with
  |nil=>simp at hl
  |cons a1 us =>
  cases us with
  |nil=>simp at hl
  |cons a2 us =>
  cases us with
  |nil=>simp at hl
  |cons a3 us =>
  cases us with
  |nil=>exact⟨a0,a1,a2,a3,rfl⟩
  |cons b us=>simp at hl
omit B in
def xY {us:List Value}(hl:us.length=5):∃ a0 a1 a2 a3 a4,us=[a0,a1,a2,a3,a4]:=by
  cases us with
  |nil=>simp at hl
  |cons a0 us =>
  cases us with
  |nil=>simp at hl
  |cons a1 us =>
  cases us with
  |nil=>simp at hl
  |cons a2 us =>
  cases us with
  |nil=>simp at hl
  |cons a3 us =>
  cases us with
  |nil=>simp at hl
  |cons a4 us =>
  cases us with
  |nil=>exact⟨a0,a1,a2,a3,a4,rfl⟩
  |cons b us=>simp at hl
omit B in
def zxm {us:List Value}(hl:us.length=8):∃ a0 a1 a2 a3 a4 a5 a6 a7,us=[a0,a1,a2,a3,a4,a5,a6,a7]:=by
  cases us with
  |nil=>simp at hl
  |cons a0 us =>
  cases us with
  |nil=>simp at hl
  |cons a1 us =>
  cases us with
  |nil=>simp at hl
  |cons a2 us =>
  cases us with
  |nil=>simp at hl
  |cons a3 us =>
  cases us with
  |nil=>simp at hl
  |cons a4 us =>
  cases us with
  |nil=>simp at hl
  |cons a5 us =>
  cases us with
  |nil=>simp at hl
  |cons a6 us =>
  cases us with
  |nil=>simp at hl
  |cons a7 us =>
  cases us with
  |nil=>exact⟨a0,a1,a2,a3,a4,a5,a6,a7,rfl⟩
  |cons b us=>simp at hl
end Dp
namespace Dp
open PySem PySem.Spec PyProof.Rows L2 My
variable [B:Bs]
section
variable {X:Cx}
def ztv {K:PySem.W.Frag}{ad:List Addr}{H:Hp}{a:Addr}{x:D}{ds:List D}(r:Rel K ad H x (.ref a)):Tt K ad H ⟨Vy 0 ds,fun S=>Lst S x ds⟩ (Ite K a) where
 go:=fun ad1 H1 S i w st ok hi=>by
  obtain⟨a',vs,e,s,rs⟩:=Lst.sq st ok (r.wd w)
  cases e
  have hi':i<ds.length:=by rw[<- Te 0 ds];exact hi
  exact⟨vs,vs[i]'(by rw[<- rs.length];exact hi'),s,qb _⟩
 yld:=fun ad1 H1 S i d y H' w st ok hd ⟨p,ey,hp,he⟩=>by
  obtain⟨a',vs,e,s,rs⟩:=Lst.sq st ok (r.wd w)
  cases e
  obtain⟨z,hz,rfl⟩:=Qg hd
  obtain⟨v,ev,rv⟩:=rs.get hz
  rw[he vs v s ev,ey]
  refine⟨Wd.laid hp,st.laid hp,.tup X7 (.cons ?_ (.cons (rv.wd (Wd.laid hp)) .nil))⟩
  rw[Mf];exact .int _
 stop:=fun ad1 H1 S w st ok=>by
  obtain⟨a',vs,e,s,rs⟩:=Lst.sq st ok (r.wd w)
  cases e
  exact⟨vs,s,by show _<=(Vy 0 ds).length;rw[Te,rs.length];exact qg _⟩
def zqp {K:PySem.W.Frag}{ad:List Addr}{H:Hp}{a:Addr}{vs:List V}{ds:List D}(h:H a=some (.tup vs))(r:zE K ad H ds vs):Tt K ad H ⟨Vy 0 ds,fun _=>True⟩ (CQ K a) where
 go:=fun ad1 H1 S i w st _ hi=>by
  have hi':i<ds.length:=by rw[<- Te 0 ds];exact hi
  exact⟨vs,vs[i]'(by rw[<- r.length];exact hi'),ZL.of (w.tup _ _ h),qb _⟩
 yld:=fun ad1 H1 S i d y H' w st _ hd ⟨p,ey,hp,he⟩=>by
  obtain⟨z,hz,rfl⟩:=Qg hd
  obtain⟨v,ev,rv⟩:=r.get hz
  rw[he vs v (ZL.of (w.tup _ _ h)) ev,ey]
  refine⟨Wd.laid hp,st.laid hp,.tup X7 (.cons ?_ (.cons ((rv.wd w).wd (Wd.laid hp)) .nil))⟩
  rw[Mf];exact .int _
 stop:=fun ad1 H1 S w st _=>⟨vs,ZL.of (w.tup _ _ h),by show _<=(Vy 0 ds).length;rw[Te,r.length];exact qg _⟩
def JM {es:List Expr}{kk:Nat}{tpos:Pos}{a:Expr}{t:DA}{p pos:Pos}(hg:Gl X "enumerate")(hm:X.mg "enumerate"=none)(ha:PAD X [a] t)(hs:starEach [a] X.env=[(false,eval a X.env)]:=by exact Pu rfl) :
  R7 X (.Tuple es kk tpos) (.Call (.Name "enumerate" p) [a] [] pos) (Dp.Oe t):=by with_unfolding_all exact(Jq (zry hg hm ha hs) fun U H R hh=>Zv hh fun ad Z S R0 st rh q k =>
 ⟨ad,Z,S,_,st,rh,q,fun ds S1 vs H1 ad1 q0 w1 st1 r1=>by
  rcases q0 with⟨x,xs,ed,hx,q1⟩|⟨xs,ed,q1⟩
  ·subst ed
   obtain⟨v,rfl,rv⟩:=XH r1
   obtain⟨b,ws,rfl,s,rs⟩:=hx.sq st1 rv
   exact⟨b,rfl,.inl ⟨⟨ws,s⟩,k _ S1 _ H1 ad1 q1 w1 st1 (ztv rv)⟩⟩
  ·subst ed
   obtain⟨v,rfl,rv⟩:=XH r1
   cases rv with
   |tup h r=>exact⟨_,rfl,.inr ⟨⟨_,ZL.of h⟩,k _ S1 _ H1 ad1 q1 w1 st1 (zqp h r)⟩⟩⟩)
def zwo {K:PySem.W.Frag}{ad:List Addr}{H:Hp}{a b:Addr}{x y:D}{ds es:List D}(r:Rel K ad H x (.ref a))(r2:Rel K ad H y (.ref b)):Tt K ad H ⟨Xo ds es,fun S=>Lst S x ds/\Lst S y es⟩ (Gq K true true a b) where
 go:=fun ad1 H1 S i w st ok hi=>by
  obtain⟨a',vs,e,s,rs⟩:=Lst.sq st ok.1 (r.wd w)
  obtain⟨b',us,e',s',rs'⟩:=Lst.sq st ok.2 (r2.wd w)
  cases e
  cases e'
  have hi':i<min ds.length es.length:=by rw[<- Ni ds es];exact hi
  exact⟨vs,us,vs[i]'(by rw[<- rs.length];lia),us[i]'(by rw[<- rs'.length];lia),s,s',qb _,qb _⟩
 yld:=fun ad1 H1 S i d z H' w st ok hd ⟨p,ey,hp,he⟩=>by
  obtain⟨a',vs,e,s,rs⟩:=Lst.sq st ok.1 (r.wd w)
  obtain⟨b',us,e',s',rs'⟩:=Lst.sq st ok.2 (r2.wd w)
  cases e
  cases e'
  obtain⟨u1,u2,h1,h2,rfl⟩:=Il hd
  obtain⟨v,ev,rv⟩:=rs.get h1
  obtain⟨u,eu,ru⟩:=rs'.get h2
  rw[he vs us v u s s' ev eu,ey]
  exact⟨Wd.laid hp,st.laid hp,.tup X7 (.cons (rv.wd (Wd.laid hp)) (.cons (ru.wd (Wd.laid hp)) .nil))⟩
 stop:=fun ad1 H1 S w st ok=>by
  obtain⟨a',vs,e,s,rs⟩:=Lst.sq st ok.1 (r.wd w)
  obtain⟨b',us,e',s',rs'⟩:=Lst.sq st ok.2 (r2.wd w)
  cases e
  cases e'
  refine⟨vs,us,s,s',?_⟩
  show vs.length<=(Xo ds es).length\/us.length<=(Xo ds es).length
  rw[Ni,rs.length,rs'.length];lia
def jT {K:PySem.W.Frag}{ad:List Addr}{H:Hp}{a b:Addr}{vs us:List V}{ds es:List D}(h:H a=some (.tup vs))(r:zE K ad H ds vs)(h2:H b=some (.tup us))(r2:zE K ad H es us):Tt K ad H ⟨Xo ds es,fun _=>True⟩ (Gq K false false a b) where
 go:=fun ad1 H1 S i w st _ hi=>by
  have hi':i<min ds.length es.length:=by rw[<- Ni ds es];exact hi
  exact⟨vs,us,vs[i]'(by rw[<- r.length];lia),us[i]'(by rw[<- r2.length];lia),ZL.of (w.tup _ _ h),ZL.of (w.tup _ _ h2),qb _,qb _⟩
 yld:=fun ad1 H1 S i d z H' w st _ hd ⟨p,ey,hp,he⟩=>by
  obtain⟨u1,u2,h1,h2',rfl⟩:=Il hd
  obtain⟨v,ev,rv⟩:=r.get h1
  obtain⟨u,eu,ru⟩:=r2.get h2'
  rw[he vs us v u (ZL.of (w.tup _ _ h)) (ZL.of (w.tup _ _ h2)) ev eu,ey]
  exact⟨Wd.laid hp,st.laid hp,.tup X7 (.cons ((rv.wd w).wd (Wd.laid hp)) (.cons ((ru.wd w).wd (Wd.laid hp)) .nil))⟩
 stop:=fun ad1 H1 S w st _=>by
  refine⟨vs,us,ZL.of (w.tup _ _ h),ZL.of (w.tup _ _ h2),?_⟩
  show vs.length<=(Xo ds es).length\/us.length<=(Xo ds es).length
  rw[Ni,r.length,r2.length];lia
def zvt {es:List Expr}{kk:Nat}{tpos:Pos}{a b:Expr}{t:DA}{p pos:Pos}(hg:Gl X "zip")(hm:X.mg "zip"=none)(ha:PAD X [a,b] t)(hs:starEach [a,b] X.env=[(false,eval a X.env),(false,eval b X.env)]:=by exact xO rfl rfl)(hs2:starEach [b] X.env=[(false,eval b X.env)]:=by exact Pu rfl) :
  R7 X (.Tuple es kk tpos) (.Call (.Name "zip" p) [a,b] [] pos) (Dp.BL t):=by with_unfolding_all exact(Jq (zuu hg hm ha hs hs2) fun U H R hh=>Zv hh fun ad Z S R0 st rh q k =>
 ⟨ad,Z,S,_,st,rh,q,fun ds S1 vs H1 ad1 q0 w1 st1 r1=>by
  rcases q0 with⟨x,y,xs,ys,ed,hx,hy,q1⟩|⟨xs,ys,ed,q1⟩
  ·subst ed
   obtain⟨v,u,rfl,rv,ru⟩:=Qe r1
   obtain⟨b1,ws,rfl,s,rs⟩:=hx.sq st1 rv
   obtain⟨b2,ws2,rfl,s2,rs2⟩:=hy.sq st1 ru
   exact⟨true,b1,b2,rfl,⟨ws,s⟩,⟨ws2,s2⟩,k _ S1 _ H1 ad1 q1 w1 st1 (zwo rv ru)⟩
  ·subst ed
   obtain⟨v,u,rfl,rv,ru⟩:=Qe r1
   cases rv with
   |tup h r =>
    cases ru with
    |tup h2 r2=>exact⟨false,_,_,rfl,⟨_,ZL.of h⟩,⟨_,ZL.of h2⟩,k _ S1 _ H1 ad1 q1 w1 st1 (jT h r h2 r2)⟩⟩)
end
section
variable {X:Cx}{a b:Expr}{ta tb:DE}{pos:Pos}
theorem Fy (x:D)(hx:fl 20 x=true):∀ ys:List D,ys.all (fl 20)=true->((Zf ys).any fun z=>PyData.eqv z (YS x))=ys.any fun z=>eqv z x
 |[],_=>rfl
 |y::ys,h=>by
  rw[Uy,qG]at h
  show(PyData.eqv (YS y) (YS x)||(Zf ys).any fun z=>PyData.eqv z (YS x))=_
  rw[Gx 20 y x h.1 hx,Fy x hx ys h.2]
  rfl
def tX (X:Cx)(g:Bool->Bool):R2:=fun x y H Q=>∃ ad S dx dy b,zL X.K ad H S/\Rel X.K ad H dx x/\Rel X.K ad H dy y/\JD S dx dy b/\Q (.bl (g b)) H
def tL {Z9:List (Addr×Obj)}{U:L2.St}{H:Hp}{s:Shared}{ad:List Addr}{S:Z5}{dx dy:D}{x y:V}{v u:Value}{b:Bool}(I:Inv X Z9 U H s)(st:zL X.K ad H S)(rx:Rel X.K ad H dx x)(ry:Rel X.K ad H dy y)(qx:RelV x v)(qy:RelV y u)(h:JD S dx dy b) :
  ∃ pd ps as bs,Reads s.heap v pd as/\(Reads s.heap u (.list ps) bs\/Reads s.heap u (.tuple ps) bs)/\pd.canLay0=true/\PyData.canLayAll0 ps=true/\min (PyData.depthAll ps) pd.depth<=60/\(ps.any fun z=>PyData.eqv z pd)=b:=by
 obtain⟨ys,hy,fx,fy,rfl⟩:=h
 obtain⟨as,ra⟩:=T9 I 20 dx x v fx rx qx
 obtain⟨c1,d1⟩:=Lz 20 dx fx
 obtain⟨c2,d2⟩:=K6 20 ys fy
 rcases hy with rfl|hy
 ·obtain⟨bs,rb⟩:=T9 I 21 (.tup ys) y u fy ry qy
  exact⟨YS dx,Zf ys,as,bs,ra,.inr rb,c1,c2,by lia,Fy dx fx ys fy⟩
 ·obtain⟨a2,vs2,rfl,s2,r2⟩:=hy.sq st ry
  cases qy
  obtain⟨its2,rv2,ht2,hz2⟩:=I.list s2
  obtain⟨o2,ho2,hc2,n2,hd2⟩:=ht2.isList
  obtain⟨bs,rb⟩:=Ob I 20 (T9 I 20) _ _ _ fy r2 rv2
  exact⟨YS dx,Zf ys,as,_,ra,.inl (.list ho2 hc2 hd2 (by simpa using rb)),c1,c2,by lia,Fy dx fx ys fy⟩
def iV {k:Nat}(hr:Zj k X.A):OC X .In Cy:=⟨_,(Zh.or (r:=tX X id) (fun Z9 s U H x y v u Q I qx qy ⟨ad,S,dx,dy,b,st,rx,ry,h,q⟩=>by
  obtain⟨pd,ps,as,bs,ra,rb,c1,c2,hd,e⟩:=tL I st rx ry qx qy h
  have hu:=hr.units
  rcases rb with rb|rb
  ·exact PySem.SeqAt.in_list_reads rb ra c2 c1 (by lia) ⟨.bl _,H,I,by rw[e];rfl,q⟩
  ·exact PySem.SeqAt.in_tuple_reads rb ra c2 c1 (by lia) ⟨.bl _,H,I,by rw[e];rfl,q⟩) zqc),
 fun ad H S x y v u Q0 Q st rx ry h k=>by
  rcases h with⟨b,h,q⟩|⟨c,z,rfl,rfl,q⟩
  ·exact .inl ⟨ad,S,x,y,b,st,rx,ry,h,k _ S _ H ad q Wd.refl st (.bl _)⟩
  ·cases rx
   cases ry
   exact .inr ⟨_,z,rfl,rfl,by rw[PySem.StrLaws.found_one];exact k _ S _ H ad q Wd.refl st (.bl _)⟩⟩
def zqG {k:Nat}(hr:Zj k X.A):OC X .NotIn Cq:=⟨_,(Zh.or (r:=tX X (!·)) (fun Z9 s U H x y v u Q I qx qy ⟨ad,S,dx,dy,b,st,rx,ry,h,q⟩=>by
  obtain⟨pd,ps,as,bs,ra,rb,c1,c2,hd,e⟩:=tL I st rx ry qx qy h
  have hu:=hr.units
  rcases rb with rb|rb
  ·exact PySem.SeqAt.notIn_list_reads rb ra c2 c1 (by lia) ⟨.bl _,H,I,by rw[e];rfl,q⟩
  ·exact PySem.SeqAt.notIn_tuple_reads rb ra c2 c1 (by lia) ⟨.bl _,H,I,by rw[e];rfl,q⟩) zkQ),
 fun ad H S x y v u Q0 Q st rx ry h k=>by
  rcases h with⟨b,h,q⟩|⟨c,z,rfl,rfl,q⟩
  ·exact .inl ⟨ad,S,x,y,b,st,rx,ry,h,k _ S _ H ad q Wd.refl st (.bl _)⟩
  ·cases rx
   cases ry
   exact .inr ⟨_,z,rfl,rfl,by rw[PySem.StrLaws.found_one];exact k _ S _ H ad q Wd.refl st (.bl _)⟩⟩
def zuc {op:CmpOp}{r':Y6}(o:OC X op r')(ha:PD X a ta)(hb:PD X b tb)(hm:behindInMarks op b=false:=by with_unfolding_all rfl):PD X (.Compare a [op] [b] pos) (Z7 r' ta tb):=by
 with_unfolding_all
  obtain⟨r,ho,od⟩:=o
  exact YL (oO ho ha hb hm) fun _ _ _=>Ng od
def ztP {op:CmpOp}{r':Y6}(o:OC X op r')(ha:PD X a ta)(hb:PD X b tb)(hm:behindInMarks op b=false:=by with_unfolding_all rfl):WM X (.Compare a [op] [b] pos) (dT (Z7 r' ta tb)):=by
 with_unfolding_all
  obtain⟨r,ho,od⟩:=o
  refine KC (tK ho ha hb hm) fun U H Q hh=>Zv hh fun ad Z S Q0 st rh q k=>?_
  refine Ng (Q:=fun x H'=>∃ k,x=.bl k/\Q k H') od ⟨ad,Z,S,_,st,rh,q,fun d S' v H' ad' ⟨b,e,q'⟩ w st' r=>?_⟩
  subst e
  cases r
  exact⟨b,rfl,k b S' H' ad' q' w st'⟩
end
section
variable {X:Cx}
theorem ints_of:∀ {ns:List Int} {its:List Value},Vals (ns.map V.int) its->IntsAre its ns
 |[],_,r=>by cases r;exact .nil
 |n::ns,_,r=>by
  cases r with
  |cons h t =>
   obtain⟨k,rfl⟩:=h
   exact .cons _ _ (ints_of t)
theorem nU:∀ {ns:List Int} {its:List Value},IntsAre its ns->Vals (ns.map V.int) its
 |[],_,r=>by cases r;exact .nil
 |n::ns,_,r=>by
  cases r with
  |cons _ _ t=>exact .cons ⟨_,rfl⟩ (nU t)
def zvs (K:PySem.W.Frag):List V->Hp->VK->Prop:=fun xs H Q=>∃ (p:Addr) (ns:List Int),xs=[.ref p]/\Zq K H p (ns.map V.int)/\ns.length<64/\∀ (l:Addr) (ss:List Int),H l=none->ss.Perm ns->ss.Pairwise (fun a b=>a<=b)->Q (.ref l) (upd H l (.lst (ss.map V.int)))
def zkZ {K:PySem.W.Frag}(hK:X.K=K):YQ X (.builtin "sorted") (zvs K):=fun Z9 s U H xs us Q I r h=>by
 subst hK
 obtain⟨p,ns,rfl,hS,h64,q⟩:=h
 obtain⟨u,rfl,ru⟩:=vals1 r
 cases ru
 obtain⟨its,rv,pl,hz⟩:=I.list hS
 have hI:=ints_of rv
 have hlen:=rv.length
 rw[qc]at hlen hz
 refine sorted_ints pl.isList hI (by lia) fun out ss h1 h2 h3=>?_
 obtain⟨e,he⟩:=sortedAll_at s.heap its out
 have hv:=nU h1
 refine⟨.ref (s.heap.objs.size+1),_,I.laid (t':=s.toks) (a:=s.heap.objs.size+1) (o:=.lst (ss.map V.int)) (fun b o q=>sortedAll_old q) (Rf _) ⟨?_,out.toList,e,hv,?_⟩,rfl,q _ ss (I.hok.fresh (Rf _)) h2 h3⟩
 ·rw[qc,h2.length_eq];exact hz
 ·rw[he]
def zrU:BC X (.builtin "sorted") nR:=⟨_,zkZ rfl,fun ad H S ds vs Q0 Q st r ⟨x,ns,e,hx,h64,q⟩ k=>by
 subst e
 obtain⟨v,rfl,rv⟩:=XH r
 obtain⟨a,ws,rfl,hs,rs⟩:=hx.sq st rv
 cases rs.ints
 exact⟨a,ns,rfl,hs,h64,fun l ss hl hp hw=>PJ st k (zE.mk_ints ss) (q ss hp hw) l hl⟩⟩
def ztV:BC X (.builtin "sorted") En:=by
 obtain⟨r1,c1,d1⟩:=zrl (X:=X)
 obtain⟨r2,c2,d2⟩:=zrU (X:=X)
 refine⟨fun xs H Q=>r1 xs H Q\/r2 xs H Q,fun Z9 s U H xs us Q I r h=>?_,fun ad H S ds vs Q0 Q st r h k=>?_⟩
 ·rcases h with h|h
  ·exact c1 Z9 s U H xs us Q I r h
  ·exact c2 Z9 s U H xs us Q I r h
 ·rcases h with h|h
  ·exact .inl (d1 ad H S ds vs Q0 Q st r h k)
  ·exact .inr (d2 ad H S ds vs Q0 Q st r h k)
end
section
variable {X:Cx}{e:Expr}{pos p2 p3:Pos}{lo:Option Expr}
end
theorem pF {K:PySem.W.Frag}{ad:List Addr}{H:Hp}:∀ {zs:List Str} {vs:List V},zE K ad H (zs.map D.str) vs->vs=zs.map V.str
 |[],_,.nil=>rfl
 |z::zs,_,.cons r t=>by cases r;rw[pF t];rfl
def zs8 {X:Cx}{a:Expr}{t:DA}{p1 p2 pos1 pos2:Pos}(hgl:Gl X "len")(hml:X.mg "len"=none)(hgr:Gl X "set")(hmr:X.mg "set"=none)(ha:PAD X [a] t)(hc:X.calm=true:=by rfl)
  (hs:starEach [a] X.env=[(false,eval a X.env)]:=by exact Pu rfl)
  (hs3:starEach [.Call (.Name "set" p2) [a] [] pos2] X.env=[(false,eval (.Call (.Name "set" p2) [a] [] pos2) X.env)]:=by rfl) :
  PD X (.Call (.Name "len" p1) [.Call (.Name "set" p2) [a] [] pos2] [] pos1) (dB CJ t):=by with_unfolding_all exact(YL (iK hc hgl hml hgr hmr ha hs hs3) fun U H Q hh=>Zv hh fun ad Z S Q0 st rh q k =>
  ⟨ad,Z,S,_,st,rh,q,fun ds S1 vs H1 ad1 ⟨x,zs,ed,hx,hl,q1⟩ w1 st1 r1=>by
   subst ed
   obtain⟨v,rfl,rv⟩:=XH r1
   obtain⟨a1,ws,rfl,hs,rs⟩:=hx.sq st1 rv
   cases pF rs
   exact⟨a1,zs,rfl,hs,hl,k _ S1 _ H1 ad1 q1 w1 st1 (.int _)⟩⟩)
section
variable {X:Cx}{e:Expr}{t:DA}{p pos kp cp:Pos}{j:Nat}
end
section
variable {X:Cx}{e o value:Expr}{te to tv:DE}{f c:Str}{pos pos':Pos}
def Xx (he:PD X e te)(hb:attributeBase e f X.env (eval e X.env)=eval e X.env):PD X (.Attribute e f pos) (Yn f te):=by with_unfolding_all exact(YL (zuZ he hb) fun U H Q hh=>Zv hh fun ad Z S Q0 st rh q k =>
  ⟨ad,Z,S,_,st,rh,q,fun x S1 v H1 ad1 ⟨n,c,fs,d,ex,hn,hl,q1⟩ w1 st1 r1=>by
   subst ex
   cases r1 with
   |ref en =>
    obtain⟨C,dx,vs,h1,hc,hns,rf,hna⟩:=st1.cell n _ _ en hn
    obtain⟨v,hv,rv⟩:=rf.look hl
    obtain⟨q2,hq2,e2⟩:=rG hl
    exact⟨_,C,dx,vs,v,rfl,h1,hc,e2▸hna q2 hq2,hv,k d S1 v H1 ad1 q1 w1 st1 rv⟩⟩)
def Sd (hna:∀ C,PySem.W.nsIn X.K mainGlobals c=some (some (.ref C))->YJ X.K C f)(ho:PD X o to)(hv:PD X value tv)(hs:swapsWith value (some (.Attribute o f pos')) pos.line X.env=pure false:=by rfl) :
  Xn X (.Assign [.Attribute o f pos'] value pos) (TY c f to tv):=by with_unfolding_all exact(Wf (zuW ho hv hs) fun E U H hh=>Zv hh fun ad Z S E0 so rh q k =>
 ⟨ad,Z,S,_,so,rh,q,fun y S1 vy H1 ad1 q1 w1 st1 r1=>⟨ad1,Z,S1,_,st1,rh.wd w1,q1,fun x S2 vx H2 ad2 ⟨n,fs,ex,hn,hl,q2⟩ w2 st2 r2=>by
  subst ex
  cases r2 with
  |ref en =>
   obtain⟨C,dx,vs,h1,hc,hns,rf,hna'⟩:=st2.cell n _ _ en hn
   have w3:Wd ad2 H2 ad2 (upd H2 _ (.ins C dx (Yi f vy vs))):=Wd.putI en h1
   exact⟨_,C,dx,vs,rfl,h1,hc,hna C hns,by rw[<- rf.length];lia,k.nx Z _ U _ ad2 q2 ((w1.trans w2).trans w3) (st2.putI en h1 hc hns rf hna' (hna C hns) (r1.wd w2)) (((rh.wd w1).wd w2).wd w3)⟩⟩⟩)
omit B in
def yF {K:PySem.W.Frag}{C:Addr}{c:Str}{init:ZV}(hc:Cls K C)(hn:PySem.W.nsIn K mainGlobals c=some (some (.ref C))):∀ vs H Q,Z4 K (Bt c init) vs H Q E0->∀ x dx,H x=none->H dx=none->dx≠x ->
  Z4 K init (.ref x::vs) (upd (upd H dx (.own x)) x (.ins C dx [])) (fun v H2=>v=.non/\Q (.ref x) H2) E0:=by
 rintro vs H Q ⟨ad,S,ds,Q0,st,r,hf,k⟩ x dx hx hdx hne
 letI:Bs:=⟨ad,H⟩
 obtain⟨w,st'⟩:=st.newI (c:=c) hx hdx hne hc hn
 have rx:Rel K (ad++[x]) (upd (upd H dx (.own x)) x (.ins C dx [])) (.ref S.length) (.ref x):=.ref (by rw[<- st.len,qi (qg _),Wv];rfl)
 have hf':init (.ref S.length::ds) (S++[.ins c []]) (fun d S2=>d=.non/\Q0 (.ref S.length) S2):=hf
 refine⟨ad++[x],S++[.ins c []],.ref S.length::ds,_,st'.base,.cons rx (r.wd w),hf',fun d S' v H' ad' q w' st2 rv=>?_⟩
 obtain⟨rfl,q⟩:=q
 cases rv
 exact⟨rfl,k _ S' _ H' ad' q (w.trans w') (st'.back st2) (rx.wd w')⟩
def Cm {k j:Nat}{x:Str}{e:Expr}{es:List Expr}{t:DA}{p:Pos}{f:ZV}(G:Ou X.prog X.w X.K X.mg X.base k x (Z4 X.K f))(hr:Zj j X.A)
  (ha:PAD X (e::es) t) (hk:k+1<=j:=by decide) (hg:Gl X x:=by rfl) (hdb:(x==("__debug__":Str))=false:=by decide) (he:starEach (e::es) X.env=(false,eval e X.env)::starEach es X.env:=by exact Uv rfl) (hpl:(backTo pos (starEach es X.env)).any (·.1)=false:=by exact P0 rfl) :
  PD X (.Call (.Name x p) (e::es) [] pos) (dCall f t):=by with_unfolding_all exact(YL (zwQ G hr hk hg ha hdb he hpl) fun U H Q hh=>Zv hh fun ad Z S Q0 st rh q k =>
 ⟨ad,Z,S,_,st,rh,q,fun ds S1 vs H1 ad1 q1 w1 st1 r1=>by
  show Z4 X.K f (vs++[]) H1 Q E0
  rw[qV];exact⟨ad1,S1,ds,Q0,st1.base,r1,q1,(k.wd w1).base st1⟩⟩)
end
end Dp
namespace Dp
open PySem PySem.Spec PyProof.Rows L2 My
def QH (h0 h:Heap)(e:Addr)(cls:Value)(H:Hp):Prop:=h0.get? e=none/\H e=none/\∃ (a0:Value) (oe:Obj) (vs:Array Value) (T:Addr) (oT:Obj) (ts:Array Value),h.get? e=some oe/\(oe.cls=cls/\vs[0]?=some a0)/\oe.data=.fields vs/\vs[1]?=some (.ref T)/\h0.get? T=none/\T≠e/\h.get? T=some oT/\oT.data=.fields ts/\ts[3]?=some .none/\H T=none
def Xp (P:Program)(w:World):Vp:=fun outer H s E e s'=>∃ (a C:Addr) (H':Hp),e=.ref a/\s'.os=s.os/\AllBare s'.gens/\Un (frs outer) [] H H' s.heap s'.heap/\Zi P w H' s'.heap/\QH s.heap s'.heap a (.ref C) H'/\E (.ref C) none H'
def WX (h:Heap)(p:Addr->Bool):Heap:={ h with objs:=h.objs.mapIdx fun i o=>if p i=true then o else { cls:=.none,data:=.freed } }
def Qp (h:Heap)(p:Addr->Bool)(b:Addr):(WX h p).get? b=if p b=true then h.get? b else none:=by
  unfold WX Heap.get?
  dsimp only
  rw[Array.getElem?_mapIdx]
  cases h.objs[b]? with
  |none=>cases p b<;>rfl
  |some o=>cases p b<;>rfl
def Cj (h:Heap)(p:Addr->Bool):(WX h p).StaysIn h:=fun b o e=>by
 rw[Qp]at e
 split at e
 ·exact e
 ·cases e
theorem JV {h base base':Heap}:∀ {l:List Env},h.FunFrames base l->(∀ L∈frs l,base'.get? L=none)->h.FunFrames base' l
 |[],_,_=>True.intro
 |env::l,⟨h1,⟨L,o,h2,h3,h4,h5⟩,h6⟩,hb=>⟨h1,⟨L,o,h2,hb L (Ti.mpr ⟨env,by simp,h2⟩),h4,h5⟩,JV h6 fun L' hL=>hb L' (by
   obtain⟨e',he,e2⟩:=Ti.mp hL
   exact Ti.mpr ⟨e',qw _ he,e2⟩)⟩
section
variable {X:Cx}{Z9:List (Addr×Obj)}{U:L2.St}{H:Hp}{s:Shared}
def zoN (I:Inv X Z9 U H s)(hex:X.ex=[]){b:Addr}{o:Obj}(e:X.s₀.heap.get? b=some o):∃ o',s.heap.get? b=some o':=I.base.there b o e (by rw[hex];simp)
def K3 (I:Inv X Z9 U H s)(hex:X.ex=[]){b:Addr}(e:s.heap.get? b=none):X.s₀.heap.get? b=none:=by
 cases q:X.s₀.heap.get? b with
 |none=>rfl
 |some o=>obtain⟨o',h⟩:=zoN I hex q;rw[e]at h;cases h
def Fj (I:Inv X Z9 U H s){b:Addr}(e:s.heap.get? b=none):H b=none:=by
 cases q:H b with
 |none=>rfl
 |some o =>
  have:=(I.hok b o q).lt
  exfalso
  cases o with
  |lst xs=>obtain⟨_,_,_,_,h⟩:=I.hok b _ q;rw[e]at h;cases h
  |tup xs=>obtain⟨_,_,_,ob,h,_⟩:=I.hok b _ q;rw[e]at h;cases h
  |dK Z6=>obtain⟨_,_,_,_,ob,_,_,h,_⟩:=I.hok b _ q;rw[e]at h;cases h
  |dT Z6=>obtain⟨_,_,_,_,ob,_,_,h,_⟩:=I.hok b _ q;rw[e]at h;cases h
  |set S n=>obtain⟨ob,_,_,_,h,_⟩:=I.hok b _ q;rw[e]at h;cases h
  |ins C dx fs=>obtain⟨_,_,_,h,_⟩:=I.hok b _ q;rw[e]at h;cases h
  |own y=>obtain⟨_,h⟩:=I.hok b _ q;rw[e]at h;cases h
  |xd fs=>obtain⟨_,⟨_,_,_,h,_⟩,_⟩:=I.hok b _ q;rw[e]at h;cases h
  |rng lo hi=>obtain⟨_,_,_,h⟩:=I.hok b _ q;rw[e]at h;cases h
  |frz ob u=>obtain⟨h,_⟩:=I.hok b _ q;rw[e]at h;cases h
  |tbl ps=>have h:s.heap.get? b=some _:=I.hok b _ q;rw[e]at h;cases h
  |met f y=>have h:s.heap.get? b=some _:=I.hok b _ q;rw[e]at h;cases h
  |ext φ=>obtain⟨_,⟨_,h⟩,_⟩:=I.hok b _ q;rw[e]at h;cases h
def vq (I:Inv X Z9 U H s)(hex:X.ex=[])(hst:X.stack=X.env::X.outer)(hfr:X.env.frame=some X.env.locals){e T0:Addr}{h':Heap}(he:X.s₀.heap.get? e=none)(hT:X.s₀.heap.get? T0=none)(He:H e=none)(HT:H T0=none)
  (hk:∀ b o,s.heap.get? b=some o->b≠e->b≠T0->b∉frs X.stack->h'.get? b=some o) (hs:∀ b∈frs X.stack,∀ o,s.heap.get? b=some o->∃ sl,h'.get? b=some { o with slots:=sl }) :
  Un X.fs [] X.H₀ H X.s₀.heap h'/\Zi X.prog X.w H h':=by
 have nfr:∀ {b:Addr} {o:Obj},X.s₀.heap.get? b=some o->b∉X.fs->b∉frs X.stack:=fun {b o} q n m=>by
  rw[hst]at m
  obtain⟨e',h1,h2⟩:=Ti.mp m
  rcases qh.mp h1 with rfl|h1
  ·rw[hfr]at h2
   cases h2
   exact absurd (qr q) (Nat.not_lt.mpr I.ok.above)
  ·exact n (Ti.mpr ⟨e',h1,h2⟩)
 have sub:∀ {b:Addr},b∈X.fs->b∈frs X.stack:=fun {b} m=>by
  obtain⟨e',h1,h2⟩:=Ti.mp m
  rw[hst]
  exact Ti.mpr ⟨e',qw _ h1,h2⟩
 have nex:∀ b:Addr,b∉X.ex:=fun b=>by rw[hex];simp
 have ne:∀ {b:Addr} {o:Obj},X.s₀.heap.get? b=some o->b≠e/\b≠T0:=fun {b o} q=>⟨fun z=>(by rw[z,he]at q;cases q),fun z=>(by rw[z,hT]at q;cases q)⟩
 have ub:=I.base
 refine⟨⟨fun b o q n m _=>?_,fun b o q n m _=>?_,fun b o q n _=>ub.free b o q n (nex b),fun b o q _=>?_,ub.tups,ub.frzs,ub.tbls⟩,fun a o q=>?_⟩
 ·exact hk b o (ub.keep b o q n m (nex b)) (ne q).1 (ne q).2 (nfr q m)
 ·obtain⟨sl,h1⟩:=ub.slot b o q n m (nex b)
  obtain⟨sl',h2⟩:=hs b (sub m) _ h1
  exact⟨sl',h2⟩
 ·obtain⟨o',h1⟩:=ub.there b o q (nex b)
  by_cases m:b∈frs X.stack
  ·obtain⟨sl,h2⟩:=hs b m o' h1
   exact⟨_,h2⟩
  ·exact⟨o',hk b o' h1 (ne q).1 (ne q).2 m⟩
 ·have inn:∀ {b:Addr},H b≠none->b≠e/\b≠T0/\b∉frs X.stack:=fun {b} n=>⟨fun z=>n (by rw[z];exact He),fun z=>n (by rw[z];exact HT),fun z=>n (I.stkFree b z)⟩
  refine(I.hok a o q).stay (fun b u hb r=>?_) (fun _ r=>r) fun _ _ r=>r
  have n:H b≠none:=by
   rcases hb with rfl|hb
   ·rw[q];exact G5 _
   ·rw[hb];exact G5 _
  obtain⟨n1,n2,n3⟩:=inn n
  exact hk b u r n1 n2 n3
def zpg (I:Inv X Z9 U H s)(hex:X.ex=[])(hst:X.stack=X.env::X.outer)(hfr:X.env.frame=some X.env.locals){e C:Addr}{E:Value->Shared->Prop}{Q:Unit->Shared->Prop}(F:QH X.s₀.heap s.heap e (.ref C) H)
  (hQ:∀ s':Shared,s'.os=X.s₀.os->AllBare s'.gens->Un X.fs [] X.H₀ H X.s₀.heap s'.heap->Zi X.prog X.w H s'.heap->QH X.s₀.heap s'.heap e (.ref C) H->Q () s'):wpAny (model X.prog X.w) X.A (leaving X.env (.ref e)) Q E s:=by
 obtain⟨he,He,a0,oe,vs,T,oT,ts,f1,f2,f3,f4,f5,f6,f7,f8,f9,HT⟩:=F
 have ff:s.heap.FunFrames X.base X.stack:=I.stack
 obtain⟨p,hp⟩:∃ p:Addr->Bool,∀ b,p b=true↔b≠e/\b≠T/\b∉frs X.stack:=⟨fun b=>decide (b≠e/\b≠T/\b∉frs X.stack),fun b=>decide_eq_true_iff⟩
 have mno:∀ {b:Addr},¬ (b≠e/\b≠T/\b∉frs X.stack)->(WX s.heap p).get? b=none:=fun {b} n=>by
  rw[Qp,if_neg (fun z=>n ((hp b).mp z))]
 have myes:∀ {b:Addr} {o:Obj},s.heap.get? b=some o->b≠e->b≠T->b∉frs X.stack->(WX s.heap p).get? b=some o:=fun {b o} q n1 n2 n3=>by
  rw[Qp,if_pos ((hp b).mpr ⟨n1,n2,n3⟩)];exact q
 have fb:s.heap.FunFrames (WX s.heap p) X.stack:=JV ff fun L hL=>mno fun z=>z.2.2 hL
 have fl:Heap.FlyingW (WX s.heap p) X.stack e (.ref C) a0 s.heap:=⟨Cj _ _,mno fun z=>z.1 rfl,fb,oe,vs,T,oT,ts,f1,f2,f3,f4,mno fun z=>z.2.1 rfl,f6,f7,f8,f9⟩
 have fr:=I.ok.frames
 rw[hst]at fr
 rw[hst]at fl
 refine wpAny_leaves_onW fr hfr fl fun h' ⟨k1,k2,k3,oe',vs',T',oT',ts',g1,g2,g3,g4,g5,g6,g7,g8,g9⟩ us=>?_
 have hs:∀ b∈frs X.stack,∀ o,s.heap.get? b=some o->∃ sl,h'.get? b=some { o with slots:=sl }:=fun b hb o q=>by
  obtain⟨_,o',h1,h2⟩:=ff.mem hb
  rw[q]at h1;cases h1
  exact us b o q h2
 have hk:∀ b o,s.heap.get? b=some o->b≠e->b≠T->b∉frs X.stack->h'.get? b=some o:=fun b o q n1 n2 n3=>k1 b o (myes q n1 n2 n3)
 obtain⟨u1,u2⟩:=vq I hex hst hfr he f5 He HT hk hs
 have nT:X.s₀.heap.get? T'=none/\H T'=none:=by
  by_cases z1:T'=T
  ·rw[z1];exact⟨f5,HT⟩
  ·by_cases z2:T'∈frs X.stack
   ·exfalso
    obtain⟨_,o',h1,h2⟩:=ff.mem z2
    obtain⟨sl,h3⟩:=hs T' z2 o' h1
    rw[g7]at h3;cases h3
    exact h2 ts' g8
   ·have:s.heap.get? T'=none:=by
     cases q:s.heap.get? T' with
     |none=>rfl
     |some o=>rw[myes q g6 z1 z2]at g5;cases g5
    exact⟨K3 I hex this,Fj I this⟩
 exact hQ _ I.os I.bare u1 u2 ⟨he,He,a0,oe',vs',T',oT',ts',g1,g2,g3,g4,nT.1,g6,g7,g8,g9,nT.2⟩
def zox (I:Inv X Z9 U H s)(hex:X.ex=[])(hst:X.stack=X.env::X.outer)(hfr:X.env.frame=some X.env.locals){e C:Addr}{args:List Value}{h1:Heap}{E:Value->Shared->Prop}{Q:Unit->Shared->Prop}(hx:s.heap.MadeExcOf h1 e (.ref C) args)
  (hQ:∀ s':Shared,s'.os=X.s₀.os->AllBare s'.gens->Un X.fs [] X.H₀ H X.s₀.heap s'.heap->Zi X.prog X.w H s'.heap->QH X.s₀.heap s'.heap e (.ref C) H->Q () s'):wpAny (model X.prog X.w) X.A (leaving X.env (.ref e)) Q E { s with heap:=h1 }:=by
 have ff:s.heap.FunFrames X.base X.stack:=I.stack
 obtain⟨p,hp⟩:∃ p:Addr->Bool,∀ b,p b=true↔b∉frs X.stack:=⟨fun b=>decide (b∉frs X.stack),fun b=>decide_eq_true_iff⟩
 have mno:∀ {b:Addr},b∈frs X.stack->(WX s.heap p).get? b=none:=fun {b} n=>by
  rw[Qp,if_neg (fun z=>(hp b).mp z n)]
 have myes:∀ {b:Addr} {o:Obj},s.heap.get? b=some o->b∉frs X.stack->(WX s.heap p).get? b=some o:=fun {b o} q n3=>by
  rw[Qp,if_pos ((hp b).mpr n3)];exact q
 have fb:s.heap.FunFrames (WX s.heap p) X.stack:=JV ff fun L hL=>mno hL
 have fr:=I.ok.frames
 rw[hst]at fr
 rw[hst]at fb
 refine wpAny_leaves_madeW (base:=WX s.heap p) (h:=s.heap) fr hfr (Cj _ _) fb hx fun h' t ⟨k1,k2,k3,oe',vs',T',oT',ts',g1,g2,g3,g4,g5,g6,g7,g8,g9⟩ _ _ us=>?_
 have us':s.heap.UpToSlots h':=fun b o q n=>us b o (hx.keeps b o q) n
 have hs:∀ b∈frs X.stack,∀ o,s.heap.get? b=some o->∃ sl,h'.get? b=some { o with slots:=sl }:=fun b hb o q=>by
  obtain⟨_,o',h1,h2⟩:=ff.mem hb
  rw[q]at h1;cases h1
  exact us' b o q h2
 have hk:∀ b o,s.heap.get? b=some o->b≠e->b≠e->b∉frs X.stack->h'.get? b=some o:=fun b o q _ _ n3=>k1 b o (myes q n3)
 have he:=K3 I hex hx.new
 have He:=Fj I hx.new
 obtain⟨u1,u2⟩:=vq I hex hst hfr he he He He hk hs
 have nT:X.s₀.heap.get? T'=none/\H T'=none:=by
  by_cases z2:T'∈frs X.stack
  ·exfalso
   obtain⟨_,o',h1,h2⟩:=ff.mem z2
   obtain⟨sl,h3⟩:=hs T' z2 o' h1
   rw[g7]at h3;cases h3
   exact h2 ts' g8
  ·have:s.heap.get? T'=none:=by
    cases q:s.heap.get? T' with
    |none=>rfl
    |some o=>rw[myes q z2]at g5;cases g5
   exact⟨K3 I hex this,Fj I this⟩
 exact hQ _ I.os I.bare u1 u2 ⟨he,He,_,oe',vs',T',oT',ts',g1,g2,g3,g4,nT.1,g6,g7,g8,g9,nT.2⟩
end
def Xv (K:PySem.W.Frag)(f:WL):Sp:=fun vs H Q E=>∃ ad S ds Q0 X0,@zL ⟨ad,H⟩ K ad H S/\zE K ad H ds vs/\f ds S Q0 X0/\@KK ⟨ad,H⟩ K ad H Q0 Q /\
 ∀ (c:Str) (C:Addr) (S':Z5) (ad':List Addr) (H':Hp),X0 c S'->@zL ⟨ad,H⟩ K ad' H' S'->PySem.W.nsIn K mainGlobals c=some (some (.ref C))->E (.ref C) none H'
structure Uk (P:Program)(w:World)(K:PySem.W.Frag)(mg:Str->Option Value)(base:Heap)(k:Nat)(x:Str)(ps:List Str)(sp:Sp):Prop where
 ex:∃ f fd,zN P w K mg base (Xp P w) k f fd ps sp/\Binds K fd ps []/\PySem.W.keepIn K (.ref f)=true/\mg x=some (.ref f)
def Kv [B:Bs](X:Cx)(ex:XR):Prop:=∀ (Z9:List (Addr×Obj)) (U:L2.St) (H:Hp) (s s':Shared) (ad ad':List Addr) (Z:ZR) (S S':Z5) (c:Str) (C a:Addr) (H':Hp),Inv X Z9 U H s->zL X.K ad H S->Zd X.K ad H Z U->ex Z c S'->zL X.K ad' H' S'->Wd ad H ad' H' ->
 PySem.W.nsIn X.K mainGlobals c=some (some (.ref C))->s'.os=s.os->AllBare s'.gens->Un (frs X.stack) [] H H' s.heap s'.heap->Zi X.prog X.w H' s'.heap->QH s.heap s'.heap a (.ref C) H'->X.xe (.ref a) s'
def Ej [B:Bs](X:Cx)(ex:XR):Prop:=∀ (Z9:List (Addr×Obj)) (U:L2.St) (H:Hp) (s:Shared) (ad:List Addr) (Z:ZR) (S:Z5) (c:Str) (C e:Addr) (args:List Value) (h1:Heap),Inv X Z9 U H s->zL X.K ad H S->Zd X.K ad H Z U->ex Z c S ->
 PySem.W.nsIn X.K mainGlobals c=some (some (.ref C))->s.heap.MadeExcOf h1 e (.ref C) args->X.xe (.ref e) { s with heap:=h1 }
section
variable [B:Bs]{X:Cx}
def VR {k j:Nat}{x:Str}{ps:List Str}{f:WL}{ex:XR}{p pos:Pos}{e:Expr}{es:List Expr}{t:DA}(G:Uk X.prog X.w X.K X.mg X.base k x ps (Xv X.K f))(hX:Kv X ex)(hr:Zj j X.A)
  (ha:PAD X (e::es) t) (hk:k<=j:=by decide) (hg:Gl X x:=by rfl) (hdb:(x==("__debug__":Str))=false:=by decide) (he:starEach (e::es) X.env=(false,eval e X.env)::starEach es X.env:=by exact Uv rfl) (hpl:(backTo pos (starEach es X.env)).any (·.1)=false:=by exact P0 rfl) :
  PD X (.Call (.Name x p) (e::es) [] pos) (WT f ex t):=by
 with_unfolding_all
  intro Z9 s U H Q I h
  obtain⟨ad,Z,S,Q0,st,rh,q,kk⟩:=h
  obtain⟨fa,fd,F,b,kp,m⟩:=G.ex
  have F:=F.mono hk
  refine wpAny_Call_Name_kw (PX I hg m ?_ hdb)
  have hA:=ha pos Z9 s U H (fun vs H1=>∃ ds S1 ad1,f ds S1 Q0 (ex Z)/\Wd ad H ad1 H1/\zL X.K ad1 H1 S1/\zE X.K ad1 H1 ds vs) I ⟨ad,Z,S,_,st,rh,q,fun ds S1 vs H1 ad1 q1 w1 st1 r1=>⟨ds,S1,ad1,q1,w1,st1,r1⟩⟩
  refine PySem.W.callWith_K (h₀:=X.base) I.ok.mod.kin kp (Z0 hA fun us s1 ⟨vs,H1,I1,r,q1⟩=>⟨I1.kIn,?_⟩) he hpl
  obtain⟨ds,S1,ad1,q1,w1,st1,r1⟩:=q1
  have hsp:Xv X.K f vs H1 Q (fun cls _ H'=>∃ c C S' ad',cls=Value.ref C/\ex Z c S'/\zL X.K ad' H' S'/\Wd ad1 H1 ad' H'/\PySem.W.nsIn X.K mainGlobals c=some (some (.ref C))) :=
   ⟨ad1,S1,ds,Q0,ex Z,st1.base,r1,q1,(kk.wd w1).base st1,fun c C S' ad' H' hx st' hn=>⟨c,C,S',ad',rfl,hx,st1.back st',@zL.wd ⟨ad1,H1⟩ _ _ _ _ st',hn⟩⟩
  have hl:us.length=ps.length:=by rw[<- r.length];exact F.len _ _ _ _ hsp
  refine wpAny_call (codeAny_mono (F.run X.A X.stack s1 H1 ⟨us,[]⟩ us vs Q _ hr I1.env0 (by have:=b s1 us I1.kIn (by rw[qV];exact hl);rwa[qV]at this) r hsp) fun res s' hq=>?_)
  cases res with
  |error e =>
   obtain⟨a,C,H',rfl,os,bare,un,hok,fly,c,C',S',ad',hC,hx,st',wd',hn⟩:=hq
   cases hC
   exact hX Z9 U H1 s1 s' ad1 ad' Z S1 S' c C a H' I1 st1 (rh.wd w1) hx st' wd' hn os bare un hok fly
  |ok fl =>
   cases fl with
   |ret u=>exact I1.after hq
   |next=>exact False.elim hq
   |brk=>exact False.elim hq
   |cont=>exact False.elim hq
def Ij:Kv X xF:=fun _ _ _ _ _ _ _ _ _ _ _ _ _ _ _ _ _ h=>h.elim
structure Tv (K:PySem.W.Frag)(C:Addr):Prop where
 ex:∃ nm q N bs bm hdct sn sub ab col dd k0 k1 k2 k3 k5,K.lookup C=some (excClassObj nm q C N bs bm hdct sn sub ab col dd k0 k1 k2 k3 k5 "ValueError.__new__")/\PySem.W.nsOkIn K N=true/\PySem.W.nsIn K N "__init__"=some none /\
  PySem.W.tailIn K [.type "ValueError",.type "Exception",.type "BaseException",.type "object"] bm=true
def Ib {x:Str}{ex:XR}{np cpos pos:Pos}{e:Expr}{t:DA}(hX:Ej X ex)(hc:X.calm=true)(hC:∀ C,PySem.W.nsIn X.K mainGlobals x=some (some (.ref C))->Tv X.K C)(hx:∃ C,PySem.W.nsIn X.K mainGlobals x=some (some (.ref C))/\X.mg x=some (.ref C))(hg:Gl X x)
  (ha:PAD X [e] t) (ht:∀ Z S Q,(∀ d,Q [d] S)->t Z S Q) (hdb:(x==("__debug__":Str))=false:=by decide) (he:starEach [e] X.env=(false,eval e X.env)::starEach [] X.env:=by rfl) :
  Xn X (.Raise (some (.Call (.Name x np) [e] [] cpos)) none pos) (M6 ex x):=by
 with_unfolding_all
  intro Z9 s U H D I h
  obtain⟨ad,Z,S,E0,st,rh,q,k⟩:=h
  obtain⟨C,hn,hm⟩:=hx
  obtain⟨nm,qn,N,bs,bm,hdct,sn,sub,ab,col,dd,k0,k1,k2,k3,k5,lk,no,ni,tl⟩:=(hC C hn).ex
  have kin:=I.kIn
  have T:=PySem.W.tail_of_in kin tl
  have hv:=ha cpos Z9 s U H (fun vs H1=>vs.length=1/\∃ ad1,Wd ad H ad1 H1/\zL X.K ad1 H1 S) I ⟨ad,Z,S,fun ds S'=>ds.length=1/\S'=S,st,rh,ht _ _ _ (fun d=>⟨rfl,rfl⟩),fun ds S' vs H' ad' e' w' st' r'=>⟨by rw[<- r'.length];exact e'.1,ad',w',e'.2▸st'⟩⟩
  refine wpAny_Raise_call_subT (C:=C) (nm:=nm) (q:=qn) (N:=N) (bs:=bs) (bm:=bm) (hdct:=hdct) (sn:=sn) (sub:=sub) (ab:=ab) (col:=col) (dd:=dd) (k0:=k0) (k1:=k1) (k2:=k2) (k3:=k3) (k5:=k5) PySem.F.excBase_ValueError (T.hasType PySem.F.excBase_ValueError.hasBase) (I.ok.hd hc) (by rw[he];rfl) (PySem.W.nsMap_none_of_in I.ok.mod.kin no ni) (PX I hg hm ⟨rfl,?_⟩ hdb)
  rw[he]at hv ⊢
  refine Calls.evalArgs_plain (wpAny_mono hv (fun us s1 hq=>?_) fun _ _ y=>y)
  obtain⟨vs,H1,I1,r,hl,ad1,w1,st1⟩:=hq
  have k1':=I1.kIn
  have hlen:us.length<=sizeLine:=by rw[<- r.length,hl];decide
  exact⟨rfl,hlen,k1' _ _ lk,(Heap.Ns.of_isNs (PySem.W.isNs_of_in I.ok.mod.kin no)).keeps I1.bk,PySem.W.tail_of_in k1' tl,fun h' e' hx=>hX Z9 U H1 s1 ad1 Z S x C e' us h' I1 st1 (rh.wd w1) q hn hx⟩
omit B in
def zqw {P:Program}{w:World}{K:PySem.W.Frag}{mg:Str->Option Value}{base:Heap}{x qual:Str}{st:Stmt}{f:Addr}{fd:FuncData}{N ps:List Str}{k:Nat}{sp:WL}{b:XR->DS}(F:V0 K x qual st f fd)(S:RJ N ps (zY st))
  (len:∀ ds So Q ex,sp ds So Q ex->ds.length=ps.length) (body:T6 N.length b sp)
  (term:∀ (cdv:Value) (A:Around) (outer:List Env) (s:Shared) (H:Hp) (E:XK),Zj k (A.deeper (envOfC qual (zY st) s.heap.objs.size f cdv))->∀ [Bs] (ex:XR),Kv (Wn (Xp P w) P w K mg base N qual (zY st) f cdv A outer s H E) ex->Ej (Wn (Xp P w) P w K mg base N qual (zY st) f cdv A outer s H E) ex->Wt (Wn (Xp P w) P w K mg base N qual (zY st) f cdv A outer s H E) (Xh st) (b ex)) :
  zN P w K mg base (Xp P w) (k+1) f fd ps (Xv K sp):=by
 with_unfolding_all
  obtain⟨oc,od,kV,doc,pm,an,cdv,ct,osl,rfl,lk,hcd⟩:=F.ex
  refine oN lk hcd S (fun vs H Q E ⟨ad,So,ds,Q0,X0,so,r,hf,kk,kx⟩=>by rw[<- r.length];exact len ds So Q0 X0 hf) fun A outer s H vs Q E hr ⟨ad,So,ds,Q0,X0,so,r,hf,kk,kx⟩=>?_
  letI:Bs:=⟨ad,H⟩
  have end1:∀ (c:Str) (C a:Addr) (S':Z5) (ad':List Addr) (H':Hp) (s':Shared),X0 c S'->zL K ad' H' S'->PySem.W.nsIn K mainGlobals c=some (some (.ref C))->s'.os=s.os->AllBare s'.gens->Un (frs outer) [] H H' s.heap s'.heap->Zi P w H' s'.heap->QH s.heap s'.heap a (.ref C) H'->Xp P w outer H s E (.ref a) s' :=
   fun c C a S' ad' H' s' hx st' hn o1 o2 o3 o4 o5=>⟨a,C,H',rfl,o1,o2,o3,o4,o5,kx c C S' ad' H' hx st' hn⟩
  refine⟨_,term cdv A outer s H E hr (fun _=>X0) ?_ ?_,ad,Rc N.length ds,So,_,so,sG N r,body ds So Q0 X0 hf,⟨fun Z S' U H' ad' q w' st' rh=>Hq so kk .non S' .non H' ad' q w' st' .non,Hq so kk,fun _ _ _ _ _ q=>q.elim,fun _ _ _ _ _ q=>q.elim⟩⟩
  ·intro Z9 U H1 s1 s' ad1 ad' Z S1 S' c C a H' I st1 rh hx st' wd' hn os bare un hok fly
   have I':=I.call' (ch:=[]) os un hok bare (fun b z=>absurd z (by simp))
   have f0:QH s.heap s'.heap a (.ref C) H':=by
    obtain⟨g1,g2,a0,oe,vs,T,oT,ts,h1,h2,h3,h4,h5,h6⟩:=fly
    exact⟨K3 I rfl g1,g2,a0,oe,vs,T,oT,ts,h1,h2,h3,h4,K3 I rfl h5,h6⟩
   exact zpg I' rfl rfl rfl f0 fun s'' o1 o2 o3 o4 o5=>end1 c C a S' ad' H' s'' hx st' hn o1 o2 o3 o4 o5
  ·intro Z9 U H1 s1 ad1 Z S1 c C e args h1 I st1 rh hx hn hmade
   exact zox I rfl rfl rfl hmade fun s'' o1 o2 o3 o4 o5=>end1 c C e S1 ad1 H1 s'' hx st1 hn o1 o2 o3 o4 o5
end
abbrev hand (X:Cx)(e:Addr):Cx:={ X with A:=X.A.mark (some (.ref e)),calm:=false,xe:=fun _ _=>False }
section
variable {X:Cx}{Z9:List (Addr×Obj)}{U:L2.St}{H H':Hp}{s s':Shared}
def yN (I:L2.Inv X Z9 U H s)(e:Addr):L2.Inv (hand X e) Z9 U H s :=
 ⟨⟨I.ok.mod,I.ok.kind,I.ok.glob,I.ok.blt,I.ok.above,I.ok.inj,I.ok.has,I.ok.cab,(fun z=>nomatch z),I.ok.frames,I.ok.stk,I.ok.exf,I.ok.bs,I.ok.bsz,I.ok.noex,I.ok.exfs,I.ok.funs,I.ok.frf⟩,I.os,I.bare,I.base,I.loc,I.cell,I.free,I.freeC,I.pin,I.hok,I.len⟩
def rm {e:Addr}(hd:X.calm=true->X.A.handled=none)(I:L2.Inv (hand X e) Z9 U H s):L2.Inv X Z9 U H s :=
 ⟨⟨I.ok.mod,I.ok.kind,I.ok.glob,I.ok.blt,I.ok.above,I.ok.inj,I.ok.has,I.ok.cab,hd,I.ok.frames,I.ok.stk,I.ok.exf,I.ok.bs,I.ok.bsz,I.ok.noex,I.ok.exfs,I.ok.funs,I.ok.frf⟩,I.os,I.bare,I.base,I.loc,I.cell,I.free,I.freeC,I.pin,I.hok,I.len⟩
def yq (I:L2.Inv X Z9 U H s)(un:Un (frs X.stack) [] H H' s.heap s'.heap)(hok:Zi X.prog X.w H' s'.heap){e T:Addr}{h2:Heap}{oe:Obj}(he:s.heap.get? e=none)(hT:s.heap.get? T=none)(He:H' e=none)(HT:H' T=none)
  (stkF:∀ b∈frs X.stack,H' b=none)
  (hk:∀ b o,s'.heap.get? b=some o->b≠e->b≠T->b∉frs X.stack->h2.get? b=some o) (hs:∀ b∈frs X.stack,∀ o,s'.heap.get? b=some o->∃ sl,h2.get? b=some { o with slots:=sl }) (hoe:h2.get? e=some oe) :
  Un (frs X.stack) [] H (upd H' e (.frz oe (.ext fun _=>True))) s.heap h2/\Zi X.prog X.w (upd H' e (.frz oe (.ext fun _=>True))) h2:=by
 have ne:∀ {b:Addr} {o:Obj},s.heap.get? b=some o->b≠e/\b≠T:=fun {b o} q=>⟨fun z=>(by rw[z,he]at q;cases q),fun z=>(by rw[z,hT]at q;cases q)⟩
 have ne':∀ {b:Addr} {u:HO},H' b=some u->b≠e:=fun {b u} q z=>by rw[z,He]at q;cases q
 refine⟨⟨fun b o q n m x=>?_,fun b o q n m x=>?_,fun b o q n x=>?_,fun b o q x=>?_,fun b xs q=>?_,fun b o u q=>?_,fun b ps q=>?_⟩,fun a o q=>?_⟩
 ·exact hk b o (un.keep b o q n m x) (ne q).1 (ne q).2 m
 ·obtain⟨sl,h1⟩:=un.slot b o q n m x
  obtain⟨sl',h3⟩:=hs b m _ h1
  exact⟨sl',h3⟩
 ·rw[zO (ne q).1];exact un.free b o q n x
 ·obtain⟨o',h1⟩:=un.there b o q x
  by_cases m:b∈frs X.stack
  ·obtain⟨sl,h3⟩:=hs b m o' h1
   exact⟨_,h3⟩
  ·exact⟨o',hk b o' h1 (ne q).1 (ne q).2 m⟩
 ·have:=un.tups b xs q
  rw[zO (ne' this)];exact this
 ·have:=un.frzs b o u q
  rw[zO (ne' this)];exact this
 ·obtain⟨more,h1⟩:=un.tbls b ps q
  exact⟨more,by rw[zO (ne' h1)];exact h1⟩
 ·by_cases ha:a=e
  ·subst ha
   rw[X7]at q
   cases q
   exact⟨hoe,True.intro,⟨oe,hoe⟩,fun _ _ _ _=>True.intro⟩
  ·rw[zO ha]at q
   refine(hok a o q).stay (fun b u hb r=>?_) (fun b r=>by rw[zO (ne' r)];exact r) fun b xs r=>by rw[zO (ne' r)];exact r
   have n:H' b≠none:=by
    rcases hb with rfl|hb
    ·rw[q];exact G5 _
    ·rw[hb];exact G5 _
   exact hk b u r (fun z=>n (by rw[z];exact He)) (fun z=>n (by rw[z];exact HT)) (fun z=>n (stkF b z))
def name_goes {M:Model}{A:Around}{E:Value->Shared->Prop}{i:Nat}{x:Str}{pos:Pos}{Q:Unit->Shared->Prop}(I:L2.Inv X Z9 U H s)(hN:X.N.Nodup)(hi:X.N[i]?=some x)(hx:X.env.scope.names.lookup x=some .local)
    (h:∀ s',L2.Inv X Z9 (U.set i none) H s'->Q () s'):wpAny M A (do bindName X.env x .none;unbindBehindTheSuite X.env x pos) Q E s:=by
  obtain⟨m,hn,hl⟩:=id I.loc
  have lo:∀ {b:Addr} {o:Obj},X.s₀.heap.get? b=some o->b≠X.env.locals:=fun {b o} e=>qL (qD (qr e) I.ok.above)
  refine wpAny_nameGoes_keeps hx hn (by rw[I.ok.kind];rfl) fun h' v hn' hs=>h _ ⟨I.ok,I.os,I.bare,⟨fun b o e n hb hx=>(hs.2 b (lo e)).trans (I.base.keep b o e n hb hx),fun b o e n hb hx=>?_,I.base.free,fun b o e hx=>?_,I.base.tups,I.base.frzs,I.base.tbls⟩,⟨_,hn',fun j y w e1 e2 e3=>?_⟩,fun y c e=>?_,I.free,I.freeC,fun p hp=>?_,fun a o e=>?_,?_⟩
  . obtain⟨sl,e1⟩:=I.base.slot b o e n hb hx
    exact⟨sl,(hs.2 b (lo e)).trans e1⟩
  . obtain⟨o',e1⟩:=I.base.there b o e hx
    exact⟨o',(hs.2 b (lo e)).trans e1⟩
  . have hj : j ≠ i := fun z => by
      subst z
      rw[List.getElem?_set]at e2
      split at e2
      . split at e2<;>cases e2
      . exact absurd rfl ‹_›
    rw[qM (Ne.symm hj)]at e2
    obtain⟨u',r',q⟩:=hl j y w e1 e2 e3
    refine⟨u',r',?_⟩
    rcases q with⟨k,e⟩|⟨k,c,e,z⟩
    . refine .inl ⟨k,?_⟩
      have:y≠x:=fun e=>hj (DR hN e1 (e▸hi))
      simp[this,e]
    . exact .inr ⟨k,c,e,z.sameBut hs (I.cne y c e)⟩
  . obtain⟨w,z⟩:=I.cell y c e
    exact⟨w,z.sameBut hs (I.cne y c e)⟩
  . obtain⟨e,n,ne,nf,d⟩:=I.pin p hp
    exact⟨(hs.2 p.1 ne).trans e,n,ne,nf,d⟩
  . refine(I.hok a o e).stay (fun c w hc q=>(hs.2 c ?_).trans q) (fun _ q=>q) fun _ _ q=>q
    rintro rfl
    rcases hc with rfl|hc
    . rw[I.free]at e;cases e
    . rw[I.free]at hc;cases hc
  . rw[VP];exact I.len
variable [B:Bs]
def Zd.unset {K:PySem.W.Frag}{ad:List Addr}{H:Hp}{Z:ZR}{U:L2.St}(h:Zd K ad H Z U)(i:Nat):Zd K ad H (Z.set i none) (U.set i none):=by
  refine⟨by rw[VP,VP];exact h.len,fun j d e=>?_⟩
  rw[List.getElem?_set]at e
  split at e
  . split at e<;>cases e
  . rename_i hj
    obtain⟨v,ev,r⟩:=h.val j d e
    exact⟨v,by rw[qM hj];exact ev,r⟩
abbrev HD (X:Cx)(xe:Value->Shared->Prop)(pn:List (Addr×Obj)):Cx:={ X with xe:=xe,pn:=pn }
omit B in
def ztY (I:L2.Inv X Z9 U H s)(xe:Value->Shared->Prop):L2.Inv (HD X xe (X.pn++Z9)) [] U H s :=
 ⟨⟨I.ok.mod,I.ok.kind,I.ok.glob,I.ok.blt,I.ok.above,I.ok.inj,I.ok.has,I.ok.cab,I.ok.hd,I.ok.frames,I.ok.stk,I.ok.exf,I.ok.bs,I.ok.bsz,I.ok.noex,I.ok.exfs,I.ok.funs,I.ok.frf⟩,I.os,I.bare,I.base,I.loc,I.cell,I.free,I.freeC,fun p hp=>I.pin p (by rwa[qV]at hp),I.hok,I.len⟩
omit B in
def Mi {xe:Value->Shared->Prop}{pins':List (Addr×Obj)}(I:L2.Inv (HD X xe (X.pn++Z9)) pins' U H s):L2.Inv X Z9 U H s :=
 ⟨⟨I.ok.mod,I.ok.kind,I.ok.glob,I.ok.blt,I.ok.above,I.ok.inj,I.ok.has,I.ok.cab,I.ok.hd,I.ok.frames,I.ok.stk,I.ok.exf,I.ok.bs,I.ok.bsz,I.ok.noex,I.ok.exfs,I.ok.funs,I.ok.frf⟩,I.os,I.bare,I.base,I.loc,I.cell,I.free,I.freeC,fun p hp=>I.pin p (QT _ hp),I.hok,I.len⟩
theorem RB.base {K:PySem.W.Frag}{ad:List Addr}{H:Hp}{S:Z5}{E0:Hu}{E:Ends}(st:zL K ad H S)(k:RB K ad H E0 E):@RB ⟨ad,H⟩ K ad H E0 E :=
 @RB.mk ⟨ad,H⟩ _ _ _ _ _ (fun Z S U H' ad' q w st' r=>k.nx Z S U H' ad' q w (st.back st') r) (k.rt.base st) (fun Z S U H' ad' q w st' r=>k.bk Z S U H' ad' q w (st.back st') r) (fun Z S U H' ad' q w st' r=>k.ct Z S U H' ad' q w (st.back st') r)
def zt4 {i:Nat}{x cls:Str}{ok:List Str}{b:XR->DS}{h:DS}{body:List Stmt}{b0:Stmt}{suite:List Stmt}{np hpos pos:Pos}(hst:X.stack=X.env::X.outer)(hfr:X.env.frame=some X.env.locals)(hN:X.N.Nodup)(hi:X.N[i]?=some x)(hx:X.env.scope.names.lookup x=some .local)(hg:Gl X cls)
  (hcls:∃ Cc,X.mg cls=some (.ref Cc)/\∀ c C,ok.contains c=true->PySem.W.nsIn X.K mainGlobals c=some (some (.ref C))->PySem.W.exmOne X.K (.ref C) (.ref Cc)=some true)
  (hb:∀ [Bs] (xe:Value->Shared->Prop) (pn:List (Addr×Obj)) (ex:XR),Kv (HD X xe pn) ex->Wt (HD X xe pn) body (b ex)) (hh:∀ e,Wt (hand X e) (b0::suite) h) (hdb:(cls==("__debug__":Str))=false:=by decide) :
  Xn X (.Try body [.ExceptHandler (some (.Name cls np)) (some x) (b0::suite) hpos] [] [] pos) (DQ i ok b h):=by
 with_unfolding_all
  intro Z9 s U H D I hq
  obtain⟨ad,Z,S,E0,st,rh,q,k⟩:=hq
  obtain⟨Cc,hm,hexm⟩:=hcls
  refine wpAny_Try_except ?_
  have hbody:=@hb ⟨ad,H⟩ (fun e s₁=>wpAny (model X.prog X.w) X.A (noteFrame e X.env) (fun _ s₂=>wpAny (model X.prog X.w) X.A (setFlight e none) (fun _ s₃=>wpAny (model X.prog X.w) X.A (handleBy e X.env [.ExceptHandler (some (.Name cls np)) (some x) (b0::suite) hpos]) (SP X Z9 D) X.xe s₃) X.xe s₂) X.xe s₁) (X.pn++Z9)
   (fun ρ' c S'=>ok.contains c=true/\h { nx:=fun ρ2 S2=>E0.nx (ρ2.set i none) S2,rt:=E0.rt,bk:=fun _ _=>False,ct:=fun _ _=>False } (ρ'.set i (some (.exn c))) S') ?hX
  ·refine wpAny_mono (hbody [] s U H D (ztY I _) ⟨ad,Z,S,E0,st.base,rh,q,k.base st⟩) (fun f s₁ hf=>?_) fun _ _ z=>z
   cases f with
   |next=>obtain⟨σ',H',I',q'⟩:=hf;exact wpAny_execs_nil ⟨σ',H',Mi I',q'⟩
   |brk=>obtain⟨σ',H',I',q'⟩:=hf;exact⟨σ',H',Mi I',q'⟩
   |cont=>obtain⟨σ',H',I',q'⟩:=hf;exact⟨σ',H',Mi I',q'⟩
   |ret u=>obtain⟨v,σ',H',I',r,q'⟩:=hf;exact⟨v,σ',H',Mi I',r,q'⟩
  intro pins' σ1 H1 s1 s' ad1 ad' ρ1 S1 S' c C a H' I1 st1 rh1 hx' st' wd' hn os bare un hok fly
  obtain⟨hok',hh'⟩:=hx'
  obtain⟨he,He,a0,oe,vs,T,oT,ts,f1,f2,f3,f4,f5,f6,f7,f8,f9,HT⟩:=fly
  have I0:L2.Inv X Z9 σ1 H1 s1:=Mi I1
  have nil0:∀ b∈([]:List Addr),(b∈X.ex\/X.s₀.heap.objs.size<=b)/\b≠X.env.locals/\(∀ x c,X.env.cells.lookup x=some c->c≠b)/\∀ p∈X.pn++Z9,p.1≠b:=fun b z=>absurd z (by simp)
  have I':=I0.call' (ch:=[]) os un hok bare nil0
  have ff:s'.heap.FunFrames X.base X.stack:=I'.stack
  obtain⟨p,hp⟩:∃ p:Addr->Bool,∀ b,p b=true↔b≠a/\b≠T/\b∉frs X.stack:=⟨fun b=>decide (b≠a/\b≠T/\b∉frs X.stack),fun b=>decide_eq_true_iff⟩
  have mno:∀ {b:Addr},¬ (b≠a/\b≠T/\b∉frs X.stack)->(WX s'.heap p).get? b=none:=fun {b} n=>by
   rw[Qp,if_neg (fun z=>n ((hp b).mp z))]
  have myes:∀ {b:Addr} {o:Obj},s'.heap.get? b=some o->b≠a->b≠T->b∉frs X.stack->(WX s'.heap p).get? b=some o:=fun {b o} q n1 n2 n3=>by
   rw[Qp,if_pos ((hp b).mpr ⟨n1,n2,n3⟩)];exact q
  have fb:s'.heap.FunFrames (WX s'.heap p) X.stack:=JV ff fun L hL=>mno fun z=>z.2.2 hL
  have fl:Heap.FlyingW (WX s'.heap p) X.stack a (.ref C) a0 s'.heap:=⟨Cj _ _,mno fun z=>z.1 rfl,fb,oe,vs,T,oT,ts,f1,f2,f3,f4,mno fun z=>z.2.1 rfl,f6,f7,f8,f9⟩
  have fr:=I.ok.frames
  rw[hst]at fr
  rw[hst]at fl
  have keep:∀ {h2:Heap},(WX s'.heap p).StaysIn h2->∀ b o,s'.heap.get? b=some o->b≠a->b≠T->b∉frs X.stack->h2.get? b=some o:=fun {h2} k1 b o q n1 n2 n3=>k1 b o (myes q n1 n2 n3)
  have slot:∀ {h2:Heap},s'.heap.UpToSlots h2->∀ b∈frs X.stack,∀ o,s'.heap.get? b=some o->∃ sl,h2.get? b=some { o with slots:=sl }:=fun {h2} us b hb o q=>by
   obtain⟨_,o',h1,h2⟩:=ff.mem hb
   rw[q]at h1;cases h1
   exact us b o q h2
  show wpAny (model X.prog X.w) X.A (noteFrame (.ref a) X.env) _ _ s'
  refine wpAny_looks_onW fr hfr fl fun h1 hheld us1=>?_
  refine wpAny_landsW hheld fun h2 hfl2 us2=>?_
  obtain⟨k1,k2,k3,k4⟩:=id hfl2
  obtain⟨oe2,vs2,T2,oT2,ts2,g1,g2,_⟩:=id k4
  obtain⟨u2,hok2⟩:=yq I0 un hok he f5 He HT I'.stkFree (keep k1) (slot (us1.trans us2)) g1
  have I2:=I0.call' (s':={ s' with heap:=h2 }) (ch:=[]) os u2 hok2 bare nil0
  refine wpAny_handleBy_cons (codeAny_handlers_test (PX (yN I2 a) hg hm ?_ hdb)) (by intro z;cases z)
  have LT:PySem.W.Looks (model X.prog X.w) h2 (typeOf (.ref a)) (.ref C):=g2.1▸(PySem.W.Looks.ld g1).andThen .now
  refine(PySem.W.exm_one (h:=h2) I2.kIn LT (hexm c C hok' hn)).here ?_
  refine codeAny_handlers_suite_as ?_
  refine wpAny_setFlight_noneW k1 k3 k4.at fun h3 b1 b2 b3 b4=>?_
  obtain⟨oe3,vs3,T3,oT3,ts3,e1,e2,_⟩:=id b3
  have us3:s'.heap.UpToSlots h3:=fun b o q n=>by
   obtain⟨sl,z⟩:=us1.trans us2 b o q n
   exact⟨sl,b4 b _ z n⟩
  obtain⟨u3,hok3⟩:=yq I0 un hok he f5 He HT I'.stkFree (keep b1) (slot us3) e1
  have I3:=I0.call' (s':={ s' with heap:=h3 }) (ch:=[]) os u3 hok3 bare nil0
  refine Gu I3 hN hi (.inl hx) (show RelV (.ref a) (.ref a)from rfl) (fun s4 I4=>?_) (.inr hx)
  have wd0:Wd ad H ad' H':=@zL.wd ⟨ad,H⟩ _ _ _ _ st'
  have st3:zL X.K ad' (upd H' a (.frz oe3 (.ext fun _=>True))) S':=(st.back st').laid He
  have w3:Wd ad' H' ad' (upd H' a (.frz oe3 (.ext fun _=>True))):=Wd.laid He
  have rho:Zd X.K ad' (upd H' a (.frz oe3 (.ext fun _=>True))) (ρ1.set i (some (.exn c))) (σ1.set i (some (.ref a))):=((rh1.wd wd').wd w3).set (.exn X7 e2.1 hn) i
  have wAll:=wd0.trans w3
  have hs:=hh a Z9 s4 _ _ { nx:=fun σ2 H2=>D.nx (σ2.set i none) H2,rt:=D.rt,bk:=fun _ _=>False,ct:=fun _ _=>False } (yN I4 a) ⟨ad',_,S',_,st3,rho,hh',⟨fun ρ2 S2 σ2 H2 ad2 q2 w2 st2 rh2=>k.nx (ρ2.set i none) S2 (σ2.set i none) H2 ad2 q2 (wAll.trans w2) st2 (rh2.unset i),k.rt.wd wAll,fun _ _ _ _ _ z=>z.elim,fun _ _ _ _ _ z=>z.elim⟩⟩
  refine wpAny_mono hs (fun f s5 hf=>?_) fun _ _ z=>z.elim
  cases f with
  |next=>obtain⟨σ5,H5,I5,q5⟩:=hf;exact name_goes (rm I.ok.hd I5) hN hi hx fun s6 I6=>⟨_,H5,I6,q5⟩
  |brk=>obtain⟨_,_,_,z⟩:=hf;exact z.elim
  |cont=>obtain⟨_,_,_,z⟩:=hf;exact z.elim
  |ret u=>obtain⟨v,σ5,H5,I5,r5,q5⟩:=hf;exact name_goes (rm I.ok.hd I5) hN hi hx fun s6 I6=>⟨v,_,H5,I6,r5,q5⟩
end
structure Zy (K:PySem.W.Frag)(C:Addr):Prop where
 ga:PySem.W.findIn K (.ref C) "__getattribute__"=some (some (.builtin "BaseException.__getattribute__"))
 hk:PySem.W.findIn K (.ref C) "__getattr__"=some none
 cl:PySem.W.findIn K (.ref C) "__class__"=some (some (.builtin "object.__class__"))
 mo:PySem.W.mroIn K C (.type "object")=some true
 mb:PySem.W.mroIn K C (.type "BaseException")=some true
section
open PySem.W PySem.Builtin PySem.Builtin.ObjectAttr PySem.Builtin.Getset_descriptor
variable {prog:Program}{w:World}{A:Around}{E:Value->Shared->Prop}{s:Shared}{K:Frag}{x C:Addr}{o:Obj}
def zrI {M:Model}{h:Heap}(X:K.In h)(I:Zy K C):Looks M h (find (.ref x) (.ref C) "__class__") (.bind (.builtin "getset_descriptor.__get__") (.builtin "object.__class__")):=by
 have L1:=looks_findIn (M:=M) X I.cl
 have L2:=looks_specialIn (M:=M) (v:=.builtin "object.__class__") (name:="__get__") (r:=some (.builtin "getset_descriptor.__get__")) X (by rfl)
 have L3:=looks_takesIn (M:=M) (a:=.builtin "object.__class__") (r:=true) X (by rfl)
 have L2':Looks M h (getOf (some (.builtin "object.__class__"))) (some (.builtin "getset_descriptor.__get__")):=L2
 have L3':Looks M h (dataDescriptor? (some (.builtin "object.__class__")) (some (.builtin "getset_descriptor.__get__"))) (some (.builtin "getset_descriptor.__get__",.builtin "object.__class__")):=L3.andThen .now
 exact L1.andThen (L2'.andThen (L3'.andThen (Looks.tag .now)))
def zt6 {tp:Value}{R:Result->Shared->Prop}(X:K.In s.heap)(I:Zy K C)(hx:s.heap.get? x=some o)(hc:o.cls=.ref C)(h:R (.ok (.ret (.ref C))) s) :
  codeAny (model prog w) A (.call (.builtin "getset_descriptor.__get__") ⟨[.builtin "object.__class__",.ref x,tp],[]⟩) R s:=by
 obtain⟨hh,g,dr,t,os⟩:=s
 have L0:Looks (model prog w) hh (typeOf (.ref x)) (.ref C):=hc▸(Looks.ld hx).andThen .now
 have L1:=looks_mroIn (M:=model prog w) X I.mo
 refine codeAny_call_builtin KF.slot_gs.plain KF.entry_gs (KF.slot_gs.check _ _ _ _ _ _ _ _ KF.type_class (KF.args_gs _ _ _) ?_)
 unfold Builtin.«getset_descriptor.__get__» descrGet
 rw[dga_obj]
 refine wpAny_bind (wpAny_pure ?_)
 unfold descrGetter descrCheckInstance descrNameAndClass isInstance
 simp only[KF.owner_class]
 repeat lk
 refine⟨Code.quiet_builtin _ (by decide +kernel),codeAny_builtin KF.entry_class ?_⟩
 unfold Builtin.«object.__class__» shownTypeOf
 repeat lk
 exact h
def zpv {M:Model}{nameV:Value}{Q:Unit->Shared->Prop}(X:K.In s.heap)(I:Zy K C)(hx:s.heap.get? x=some o)(hc:o.cls=.ref C)(hq:Q () s):wpAny M A (checkBuiltinCall "BaseException.__getattribute__" ⟨[.ref x,nameV],[]⟩) Q E s:=by
  obtain⟨hh,g,dr,t,os⟩:=s
  have L0:Looks M hh (typeOf (.ref x)) (.ref C):=hc▸(Looks.ld hx).andThen .now
  have L1:=looks_mroIn (M:=M) X I.mb
  have hk:builtinKind "BaseException.__getattribute__"=some .slot:=by decide +kernel
  have hsplit:splitId "BaseException.__getattribute__"=some ("BaseException","__getattribute__"):=by decide +kernel
  have ha:=F.args_bexc_ga (.ref x) nameV
  simp only[checkBuiltinCall,hk,hsplit]
  refine wpAny_bind ((show Looks M hh (isInstance (.ref x) (.type "BaseException")) true from L0.andThen L1).at ?_)
  repeat (first|wp_step)
  exact hq
def zrp {Q:Option Value->Shared->Prop}(X:K.In s.heap)(I:Zy K C)(hx:s.heap.get? x=some o)(hc:o.cls=.ref C)(h:Q (some (.ref C)) { s with toks:=s.toks+1 }):wpAny (model prog w) A (getAttr? (.ref x) "__class__") Q E s:=by
 obtain⟨hh,g,d,t,os⟩:=s
 have L0:Looks (model prog w) hh (typeOf (.ref x)) (.ref C):=hc▸(Looks.ld hx).andThen .now
 have L1:=looks_findIn (M:=model prog w) X I.ga
 have L2:=looks_findIn (M:=model prog w) X I.hk
 have L3:=zrI (M:=model prog w) (x:=x) X I
 unfold getAttr? getAttrBy? getAttrBy
 refine wpAny_bind (wpAny_mkText (wpAny_bind (wpAny_attempt (wpAny_holding (wpAny_bind (L0.at (wpAny_bind (L1.at ?_))))))))
 show wpAny _ _ (getAttrByItsOwn _ _ _ _ _ _) _ _ _
 unfold getAttrByItsOwn
 refine wpAny_bind (L2.at (wpAny_bind (wpAny_attempt (wpAny_holding ?_))))
 show wpAny _ _ (boundAndCalled _ _ _) _ _ _
 unfold boundAndCalled
 rw[F.excAttr_ValueError.ga.bind (.ref x)]
 refine wpAny_bind (wpAny_pure ?_)
 refine wpAny_call (codeAny_call_builtin F.excAttr_ValueError.ga.plain F.entry_bexc_ga (zpv (s:=⟨hh,g,d,t+1,os⟩) X I hx hc ?_))
 unfold Builtin.«object.__getattribute__»
 refine wpAny_bind (wpAny_pure (wpAny_bind (wpAny_pure (wpAny_bind (L0.at (wpAny_bind (L3.at ?_)))))))
 show wpAny _ _ (bindTo _ _ _ _) _ _ _
 unfold bindTo
 refine wpAny_bind (wpAny_holding (wpAny_call (zt6 (s:=⟨hh,g,d,t+1,os⟩) X I hx hc ?_)))
 refine wpAny_pure ?_
 exact handed_on rfl (wpAny_pure h)
def zrm (I:Zy K C):KitX K (.ref x) (.ref C) (fun h=>∃ o,h.get? x=some o/\o.cls=.ref C):=by
  obtain⟨cdD,hcD,_⟩:=Option.bind_eq_some_iff.mp I.mo
  unfold clsIn at hcD
  split at hcD
  . rename_i c' d' cd' sl' ho
    exact
      { ty:=fun M h _ ⟨o,h1,h2⟩=>h2▸(Looks.ld h1).andThen .now
        it:=fun _ _ X _=>by
          intro A' Q' E' s' k q
          unfold isType loadHead
          exact wpAny_bind (wpAny_loadPart (k _ _ (X _ _ ho)) (wpAny_pure q))
        ne:=fun h tp dd its n sl X htp=>by
          refine Bool.eq_false_iff.mpr fun q=>?_
          have e:C=tp:=Value.ref.inj (beq_iff_eq.mp q)
          subst e
          have z:=(X _ _ ho).symm.trans htp
          cases z
        ca:=fun X ⟨o,h1,h2⟩ k=>zrp X I h1 h2 k }
  . cases hcD
end
section
variable [B:Bs]{X:Cx}
def CV (X:Cx)(c:Str)(np:Pos)(cv:Value):Prop:=∀ (Z9:List (Addr×Obj)) (U:L2.St) (H:Hp) (s:Shared) (E:Value->Shared->Prop) (Q:Value->Shared->Prop),Inv X Z9 U H s->Q cv s->wpAny (model X.prog X.w) X.A (eval (.Name c np) X.env) Q E s
omit B in
def zwh {c:Str}{np:Pos}{C:Addr}(hg:Gl X c)(hm:X.mg c=some (.ref C))(hd:(c==("__debug__":Str))=false:=by decide):CV X c np (.ref C):=fun _ _ _ _ _ _ I q=>PX I hg hm q hd
omit B in
def zxs {c:Str}{np:Pos}{T:String}(hg:Gl X c)(hm:X.mg c=none)(hv:bootBuiltins c=some (.type T))(hn:c≠"__name__":=by decide)(hd:(c==("__debug__":Str))=false:=by decide):CV X c np (.type T):=fun _ _ _ _ _ _ I q=>U5 I hg hm hv q hn hd
def mC {e:Expr}{t:DE}{p np pos:Pos}{c:Str}{cv:Value}{tbl:List (Str×Bool)}(hg:Gl X "isinstance")(hm:X.mg "isinstance"=none)(he:PD X e t)(hc:CV X c np cv)
  (ht:∀ c' b C,tbl.lookup c'=some b->PySem.W.nsIn X.K mainGlobals c'=some (some (.ref C))->Zy X.K C/\PySem.W.kitOne X.K (.ref C) cv=some b)
  (hs:starEach [e,.Name c np] X.env=(false,eval e X.env)::starEach [.Name c np] X.env:=by rfl) (hpl:(backTo pos (starEach [.Name c np] X.env)).any (·.1)=false:=by rfl) :
  PD X (.Call (.Name "isinstance" p) [e,.Name c np] [] pos) (RM tbl t):=by
 with_unfolding_all
  intro Z9 s U H Q I h
  obtain⟨ad,Z,S,Q0,st,rh,q,k⟩:=h
  refine wpAny_Call_Name_kw (U5 I hg hm boot_isinstance ?_)
  have hA:wpAny (model X.prog X.w) X.A (spliced (backTo pos (starEach [e,.Name c np] X.env))) (fun us s1=>∃ u,us=[u,cv]/\EP X Z9 U (fun v H1=>∃ c' b ad1,Rel X.K ad1 H1 (.exn c') v/\tbl.lookup c'=some b/\Q (.bl b) H1) u s1) X.xe s:=by
   rw[hs]
   show wpAny _ _ (spliced ((false,eval e X.env)::backTo pos (starEach [.Name c np] X.env))) _ _ s
   have hv:=he Z9 s U H (fun v H1=>∃ c' b ad1,Rel X.K ad1 H1 (.exn c') v/\tbl.lookup c'=some b/\Q (.bl b) H1) I ⟨ad,Z,S,_,st,rh,q,fun x S1 v H1 ad1 ⟨c',b,ex,hl,q1⟩ w1 st1 r1=>⟨c',b,ad1,ex▸r1,hl,k _ S1 _ H1 ad1 q1 w1 st1 (.bl b)⟩⟩
   refine Calls.spliced_cons (Z0 hv fun u s1 hu=>?_)
   show wpAny _ _ (spliced ((false,eval (.Name c np) X.env)::[])) _ _ s1
   obtain⟨v,H1,I1,r1,q1⟩:=hu
   exact Calls.spliced_cons (hc Z9 U H1 s1 _ _ I1 (Calls.spliced_nil ⟨u,rfl,v,H1,I1,r1,q1⟩))
  refine PyProof.Rows.callWith_builtin1 (Z0 hA fun us s1 hu=>?_) hs hpl
  obtain⟨u,rfl,v,H1,I1,r1,c',b,ad1,rel,hl,q1⟩:=hu
  cases rel with
  |exn ha hcl hn =>
   cases r1
   obtain⟨ic,ki⟩:=ht _ _ _ hl hn
   refine PySem.W.kia_one (zrm ic) I1.kIn ?_ ki (by intro z;cases z) fun tk=>⟨.bl b,H1,I1.tok _,rfl,q1⟩
   obtain⟨h1,_⟩:=I1.hok _ _ ha
   exact⟨_,h1,hcl⟩
def Ft {e:Expr}{t:DE}{p np pos:Pos}{c:Str}{tbl:List (Str×Bool)}(hg:Gl X "isinstance")(hm:X.mg "isinstance"=none)(he:PD X e t)(hgc:Gl X c)
  (ht:∃ Cc,X.mg c=some (.ref Cc)/\∀ c' b C,tbl.lookup c'=some b->PySem.W.nsIn X.K mainGlobals c'=some (some (.ref C))->Zy X.K C/\PySem.W.kitOne X.K (.ref C) (.ref Cc)=some b) (hd:(c==("__debug__":Str))=false:=by decide)
  (hs:starEach [e,.Name c np] X.env=(false,eval e X.env)::starEach [.Name c np] X.env:=by rfl) (hpl:(backTo pos (starEach [.Name c np] X.env)).any (·.1)=false:=by rfl) :
  PD X (.Call (.Name "isinstance" p) [e,.Name c np] [] pos) (RM tbl t):=by
 with_unfolding_all
  obtain⟨Cc,h1,h2⟩:=ht
  exact mC hg hm he (zwh hgc h1 hd) h2 hs hpl
def zur {e:Expr}{t:DE}{p np pos:Pos}{c:Str}{T:String}{tbl:List (Str×Bool)}(hg:Gl X "isinstance")(hm:X.mg "isinstance"=none)(he:PD X e t)(hgc:Gl X c)
  (ht:X.mg c=none/\∀ c' b C,tbl.lookup c'=some b->PySem.W.nsIn X.K mainGlobals c'=some (some (.ref C))->Zy X.K C/\PySem.W.kitOne X.K (.ref C) (.type T)=some b) (hv:bootBuiltins c=some (.type T)) (hn:c≠"__name__":=by decide) (hd:(c==("__debug__":Str))=false:=by decide)
  (hs:starEach [e,.Name c np] X.env=(false,eval e X.env)::starEach [.Name c np] X.env:=by rfl) (hpl:(backTo pos (starEach [.Name c np] X.env)).any (·.1)=false:=by rfl) :
  PD X (.Call (.Name "isinstance" p) [e,.Name c np] [] pos) (RM tbl t):=by with_unfolding_all exact(mC hg hm he (zxs hgc ht.1 hv hn hd) ht.2 hs hpl)
end
def HW (K:PySem.W.Frag)(C:Addr):Bool:=match K.lookup C with
 | some ⟨.type "type",_,.cls cd,sl⟩=>(match cd.mro,sl.toList with
  | .ref C'::bm,[_,_,_,_,some (.builtin n),_]=>C'==C&&!cd.hasDel&&n=="ValueError.__new__"&&PySem.W.nsOkIn K cd.ns&&PySem.W.nsIn K cd.ns "__init__"==some none&&PySem.W.tailIn K [.type "ValueError",.type "Exception",.type "BaseException",.type "object"] bm
  |_,_=>false)
 |_=>false
def Tv.of {K:PySem.W.Frag}{C:Addr}(q:HW K C=true):Tv K C:=by
 unfold HW at q
 split at q
 ·rename_i dd cd sl ho
  split at q
  ·rename_i C' bm k0 k1 k2 k3 n k5 hm hs
   simp only[qG,beq_iff_eq,Bool.not_eq_true']at q
   obtain⟨⟨⟨⟨⟨rfl,hdel⟩,rfl⟩,h1⟩,h2⟩,h3⟩:=q
   obtain⟨nm,bs,mro,ns,qn,hd,sn,sub,ab,col,del⟩:=cd
   dsimp only at hm hdel
   subst hm hdel
   have hsl:sl=#[k0,k1,k2,k3,some (.builtin "ValueError.__new__"),k5]:=by
    obtain⟨l⟩:=sl
    simp only at hs
    rw[hs]
   subst hsl
   exact⟨nm,qn,ns,bs,bm,hd,sn,sub,ab,col,dd,k0,k1,k2,k3,k5,ho,h1,h2,h3⟩
  ·cases q
 ·cases q
def isIn (K:PySem.W.Frag)(C:Addr):Bool:=PySem.W.findIn K (.ref C) "__getattribute__"==some (some (.builtin "BaseException.__getattribute__"))&&PySem.W.findIn K (.ref C) "__getattr__"==some none&&PySem.W.findIn K (.ref C) "__class__"==some (some (.builtin "object.__class__")) &&
 PySem.W.mroIn K C (.type "object")==some true&&PySem.W.mroIn K C (.type "BaseException")==some true
def Zy.of {K:PySem.W.Frag}{C:Addr}(q:isIn K C=true):Zy K C:=by
 unfold isIn at q
 simp only[qG,beq_iff_eq]at q
 exact⟨q.1.1.1.1,q.1.1.1.2,q.1.1.2,q.1.2,q.2⟩
def Rv {a c:Str}{l:List Str}(h:(a::l).contains c=true):c=a\/l.contains c=true:=by
 rw[List.contains_cons,Qy,beq_iff_eq]at h
 exact h
def Zc {a c:Str}{b b':Bool}{l:List (Str×Bool)}(h:((a,b')::l).lookup c=some b):(c=a/\b'=b)\/l.lookup c=some b:=by
 rw[qp]at h
 split at h
 ·rename_i e
  exact .inl ⟨beq_iff_eq.mp e,qB h⟩
 ·exact .inr h
section
variable {X:Cx}[B:Bs]
theorem wK:∀ {ds:List D} {j:Nat} {d:D},ds[j]?=some d->(Zf ds)[j]?=some (YS d)
 |[],_,_,h=>by simp at h
 |x::xs,0,d,h=>by
  have:x=d:=by simpa using h
  subst this;rfl
 |x::xs,j+1,d,h=>by
  show(Zf xs)[j]?=_
  exact wK (by simpa using h)
def ztT (X:Cx):V->List V->Hp->VK->Prop:=fun x vs H Q=>∃ l ws y ad ds d,∃ j:Nat,∃ e,x=.ref l/\vs=[y]/\H l=some (.lst ws)/\zE X.K ad H ds ws/\Rel X.K ad H d y/\ds.all (fl 20)=true/\fl 20 d=true/\ds[j]?=some e/\eqv e d=true/\(∀ (m:Nat) e',m<j->ds[m]?=some e'->eqv e' d=false)/\Q (.int (j:Nat)) H
def iG {k:Nat}(hr:Zj k X.A):Mr X "list.index" (ztT X):=by
 intro Z9 s U H x vs v us Q I rx rv h
 obtain⟨l,ws,y,ad,ds,d,j,e,rfl,rfl,hH,r,ry,fds,fd,hj,he,hno,q⟩:=h
 cases rx
 obtain⟨u,rfl,ru⟩:=rv.one
 obtain⟨hz,its,n,rr,hl,ho⟩:=I.lstM hH
 obtain⟨as,ra⟩:=Ob I 20 (T9 I 20) _ _ _ fds r rr
 obtain⟨bs,rb⟩:=T9 I 20 d y u fd ry ru
 obtain⟨c1,d1⟩:=K6 20 ds fds
 obtain⟨c2,d2⟩:=Lz 20 d fd
 have hlen:=r.length
 have hu:=hr.units
 have hjl:j<its.length:=by
  have:=My.Wh hj
  lia
 have hm:=SeqAt.readsAll_map (Zf ds) _ _ c1 ra
 have rd:∀ (m:Nat) (hm':m<its.length) e',ds[m]?=some e'->PyData.eqv (SeqAt.readOf s.heap its[m]) (YS d)=eqv e' d:=fun m hm' e' h'=>by
  have h1:(its.map (SeqAt.readOf s.heap))[m]?=some (YS e'):=by rw[hm];exact wK h'
  rw[qj,qb hm']at h1
  have h2:SeqAt.readOf s.heap its[m]=YS e':=by simpa using h1
  rw[h2]
  have fe:fl 20 e'=true:=qY.mp fds e' (qe h')
  exact Gx 20 e' d fe fd
 refine call_meets F.slot_list_index ⟨_,ho,rfl⟩ F.entry_list_index (F.args_list_index_2 _ _)
  (SeqAt.list_indexAt l its.toArray n none #[] u (fun z=>PyData.eqv (SeqAt.readOf s.heap z) (YS d)) j (by rw[qo];exact hjl) (by rw[sizeLine_eq]at hz;lia) ?_ ?_) ⟨ho,SeqAt.items_eqAt (vs:=its.toArray) (by simpa using ra) rb c1 c2 ?_,?_⟩
 ·exact(rd j hjl e hj).trans he
 ·intro m hm1 hm2
  have hm3:m<its.length:=by simpa using hm1
  have hml:m<ds.length:=by lia
  exact(rd m hm3 _ (qb hml)).trans (hno m _ hm2 (qb hml))
 ·show X.A.units+1+min (PyData.depthAll (Zf ds)) (YS d).depth<cLine
  lia
 ·exact⟨.int (j:Nat),H,I.tok _,⟨_,rfl⟩,q⟩
def zrB {k:Nat}(hr:Zj k X.A):MD X "list.index" Dv:=⟨_,iG hr,fun ad H S x ds v vs Q0 Q st rx r ⟨n,xs,y,j,e,ex,ey,hn,f,g,hl,hj,h1,h2,q⟩ kk=>by
 subst ex ey
 obtain⟨u,rfl,ru⟩:=XH r
 cases rx with
 |ref ea =>
  obtain⟨ws,hw,rw⟩:=st.cell n _ _ ea hn
  exact⟨_,ws,u,ad,xs,y,j,e,rfl,rfl,hw,rw,ru,f,g,hj,h1,h2,kk _ S _ H ad q Wd.refl st (.int _)⟩⟩
def zuk:MD X "list.pop" FJ:=⟨_,zqU,fun ad H S x ds v vs Q0 Q st rx r ⟨n,xs,y,ex,ey,hn,q⟩ k=>by
 subst ex ey
 obtain⟨u,rfl,ru⟩:=XH r
 cases ru
 cases rx with
 |ref e =>
  obtain⟨ws,hw,rw⟩:=st.cell n _ _ e hn
  cases rw with
  |@cons _ w _ ws' rw1 rw2 =>
   have w':=Wd.put (ws:=ws') e hw
   exact⟨_,w::ws',0,0,w,rfl,rfl,hw,by decide,by decide,by unfold seqIndex?;simp,rfl,k _ _ _ _ ad q w' (st.put e hw rw2) (rw1.wd w')⟩⟩
end
section
variable {K:PySem.W.Frag}{ad:List Addr}{H:Hp}{S:Z5}[B:Bs]
omit B in
theorem RelK.val:∀ {fs:List (Str×D)} {vs:List (Key×V)} (z:Str),RelK K ad H fs vs->(dval fs z=none/\L2.Xb vs (Sum.inr z:Key)=none)\/∃ d v,dval fs z=some d/\L2.Xb vs (Sum.inr z:Key)=some v/\Rel K ad H d v
 |_,_,z,.nil=>.inl ⟨rfl,L2.Bg⟩
 |_,_,z,@RelK.cons _ _ _ x d v fs vs r t=>by
  by_cases h:x=z
  ·exact .inr ⟨d,v,by rw[Ul,if_pos h],by rw[L2.Ly (by rw[h])],r⟩
  ·have h':¬ (Sum.inr x:Key)=Sum.inr z:=fun e=>h (Sum.inr.inj e)
   rw[Ul,if_neg h,L2.K5 h']
   exact RelK.val z t
omit B in
theorem Zg.val:∀ {fs:List (List Key×D)} {vs:List (List Key×V)} (z:List Key),Zg K ad H fs vs->(dval fs z=none/\L2.Xb vs z=none)\/∃ d v,dval fs z=some d/\L2.Xb vs z=some v/\Rel K ad H d v
 |_,_,z,.nil=>.inl ⟨rfl,L2.Bg⟩
 |_,_,z,@Zg.cons _ _ _ x d v fs vs r t=>by
  by_cases h:x=z
  ·exact .inr ⟨d,v,by rw[Ul,if_pos h],by rw[L2.Ly h],r⟩
  ·rw[Ul,if_neg h,L2.K5 h]
   exact Zg.val z t
omit B in
theorem RelK.snoc {x:Str}{d:D}{v:V}(rd:Rel K ad H d v):∀ {fs:List (Str×D)} {vs:List (Key×V)},RelK K ad H fs vs->RelK K ad H (fs++[(x,d)]) (vs++[(.inr x,v)])
 |_,_,.nil=>.cons rd .nil
 |_,_,.cons r t=>.cons r (RelK.snoc rd t)
omit B in
theorem Zg.snoc {x:List Key}{d:D}{v:V}(rd:Rel K ad H d v):∀ {fs:List (List Key×D)} {vs:List (List Key×V)},Zg K ad H fs vs->Zg K ad H (fs++[(x,d)]) (vs++[(x,v)])
 |_,_,.nil=>.cons rd .nil
 |_,_,.cons r t=>.cons r (Zg.snoc rd t)
omit B in
theorem RelK.repl {z:Str}{d:D}{v:V}(rd:Rel K ad H d v):∀ {fs:List (Str×D)} {vs:List (Key×V)},RelK K ad H fs vs->RelK K ad H (fs.map fun kv=>if kv.1=z then(kv.1,d)else kv) (vs.map fun kv=>if kv.1=(Sum.inr z:Key)then(kv.1,v)else kv)
 |_,_,.nil=>.nil
 |_,_,@RelK.cons _ _ _ x d' v' fs vs r t=>by
  rw[qJ,qJ]
  by_cases h:x=z
  ·rw[if_pos h,if_pos (by rw[h])];exact .cons rd (RelK.repl rd t)
  ·rw[if_neg h,if_neg (fun e=>h (Sum.inr.inj e))];exact .cons r (RelK.repl rd t)
omit B in
theorem Zg.repl {z:List Key}{d:D}{v:V}(rd:Rel K ad H d v):∀ {fs:List (List Key×D)} {vs:List (List Key×V)},Zg K ad H fs vs->Zg K ad H (fs.map fun kv=>if kv.1=z then(kv.1,d)else kv) (vs.map fun kv=>if kv.1=z then(kv.1,v)else kv)
 |_,_,.nil=>.nil
 |_,_,@Zg.cons _ _ _ x d' v' fs vs r t=>by
  rw[qJ,qJ]
  by_cases h:x=z
  ·rw[if_pos h,if_pos h];exact .cons rd (Zg.repl rd t)
  ·rw[if_neg h,if_neg h];exact .cons r (Zg.repl rd t)
omit B in
def RelK.put {z:Str}{d:D}{v:V}(rd:Rel K ad H d v){fs:List (Str×D)}{vs:List (Key×V)}(r:RelK K ad H fs vs):RelK K ad H (dput fs z d) (putK vs (Sum.inr z:Key) v):=by
 unfold dput putK
 rw[Io,L2.Jd]
 rcases r.val z with⟨e1,e2⟩|⟨d',v',e1,e2,_⟩
 ·rw[e1,e2]
  rw[if_neg (by simp),if_neg (by simp)];exact r.snoc rd
 ·rw[e1,e2]
  rw[if_pos (by simp),if_pos (by simp)];exact r.repl rd
omit B in
def Zg.put {z:List Key}{d:D}{v:V}(rd:Rel K ad H d v){fs:List (List Key×D)}{vs:List (List Key×V)}(r:Zg K ad H fs vs):Zg K ad H (dput fs z d) (putK vs z v):=by
 unfold dput putK
 rw[Io,L2.Jd]
 rcases r.val z with⟨e1,e2⟩|⟨d',v',e1,e2,_⟩
 ·rw[e1,e2]
  rw[if_neg (by simp),if_neg (by simp)];exact r.snoc rd
 ·rw[e1,e2]
  rw[if_pos (by simp),if_pos (by simp)];exact r.repl rd
omit B in
theorem RelK.length:∀ {fs:List (Str×D)} {vs:List (Key×V)},RelK K ad H fs vs->fs.length=vs.length
  |_,_,.nil=>rfl
  |_,_,.cons _ t=>congrArg (· + 1) (RelK.length t)
omit B in
theorem Zg.length:∀ {fs:List (List Key×D)} {vs:List (List Key×V)},Zg K ad H fs vs->fs.length=vs.length
  |_,_,.nil=>rfl
  |_,_,.cons _ t=>congrArg (· + 1) (Zg.length t)
omit B in
theorem Im:∀ {ks:List Key} {vs:List V},zE K ad H (ks.map kD) vs->vs=ks.map kV
 |[],_,.nil=>rfl
 |.inl i::ks,_,.cons r t=>by
  have e:∀ {d:D} {v:V},d=.int i->Rel K ad H d v->v=.int i:=fun e r=>by subst e;cases r;rfl
  rw[e rfl r,Im t];rfl
 |.inr x::ks,_,.cons r t=>by
  have e:∀ {d:D} {v:V},d=.str x->Rel K ad H d v->v=.str x:=fun e r=>by subst e;cases r;rfl
  rw[e rfl r,Im t];rfl
def zL.newC (st:zL K ad H S){l:Addr}{o:HO}{c:Cell}(h:H l=none)(hc:Vm K (ad++[l]) (upd H l o) l c):zL K (ad++[l]) (upd H l o) (S++[c]) where
 wd:=st.wd.trans (Wd.newL st h)
 len:=by rw[qf,qf,st.len];rfl
 nd:=by
  rw[Pk]
  refine⟨st.nd,by simp,fun a ha b hb e=>?_⟩
  have:b=l:=by simpa using hb
  subst this;subst e
  exact st.fresh h ha
 cell:=fun n a c' e1 e2=>by
  by_cases hn:n<ad.length
  ·rw[qk hn]at e1
   rw[qk (by rw[<- st.len];exact hn)]at e2
   have ok:=st.cell n a c' e1 e2
   obtain⟨u,e⟩:=ok.some
   exact ok.wd (Wd.newL st h) (by rw[Um h e,e])
  ·have hn':ad.length<=n:=Qs hn
   rw[qi hn']at e1
   rw[qi (by rw[<- st.len];exact hn'),<- st.len]at e2
   cases hk:n-ad.length with
   |zero =>
    rw[hk]at e1 e2
    have e1':l=a:=by simpa using e1
    have e2':c=c':=by simpa using e2
    subst e1' e2'
    exact hc
   |succ k=>rw[hk]at e1;simp at e1
omit B in
def Wd.putC {n:Nat}{a:Addr}{o o':HO}(e:ad[n]?=some a)(h:H a=some o)(h1:∀ xs,o≠.tup xs)(h2:∀ q u,o≠.frz q u):Wd ad H ad (upd H a o') :=
 ⟨Ow _,fun b u hb q=>by
   have:b≠a:=fun z=>hb (by rw[z];exact qe e)
   rw[zO this];exact q,
  fun b xs q=>by rw[zO (Tf q h (fun z=>h1 xs z.symm))];exact q,fun b o u q=>by rw[zO (Tf q h (fun z=>h2 o u z.symm))];exact q,fun _ m n=>absurd m n⟩
theorem zL.putC (st:zL K ad H S){n:Nat}{a:Addr}{o o':HO}{c:Cell}(e:ad[n]?=some a)(h:H a=some o)(h1:∀ xs,o≠.tup xs)(h2:∀ q u,o≠.frz q u)(hc:Vm K ad (upd H a o') a c):zL K ad (upd H a o') (S.set n c) where
 wd:=st.wd.trans (Wd.putC e h h1 h2)
 len:=by rw[VP];exact st.len
 nd:=st.nd
 cell:=fun m b c' e1 e2=>by
  have w:Wd ad H ad (upd H a o'):=Wd.putC e h h1 h2
  by_cases hm:m=n
  ·subst hm
   rw[e]at e1;cases e1
   rw[qN (by rw[<- st.len];exact My.Wh e)]at e2
   cases e2
   exact hc
  ·rw[qM (Ne.symm hm)]at e2
   have ne:b≠a:=fun z=>by
    subst z
    have q1:=(qQ.mp e1).2
    have q2:=(qQ.mp e).2
    exact hm ((Ik st.nd).mp (q1.trans q2.symm))
   exact(st.cell m b c' e1 e2).wd w (zO ne)
def ztZ (st:zL K ad H S){x y:D}{v u:V}{o:Option D}(rx:Rel K ad H x v)(ry:Rel K ad H y u)(g:Vg S x y o):∃ a o',v=.ref a/\Uq H a u o'/\((o=none/\o'=none)\/∃ d w,o=some d/\o'=some w/\Rel K ad H d w):=by
 rcases g with⟨n,Z6,z,rfl,rfl,hn,rfl⟩|⟨n,Z6,ks,rfl,rfl,hn,rfl⟩
 ·cases ry
  cases rx with
  |ref e =>
   obtain⟨vs,hv,r⟩:=st.cell n _ _ e hn
   exact⟨_,_,rfl,Uq.k (k:=Sum.inr z) hv,r.val z⟩
 ·cases rx with
  |ref e =>
   obtain⟨vs,hv,r⟩:=st.cell n _ _ e hn
   cases ry with
   |tup hb rb =>
    have e2:=Im rb
    subst e2
    exact⟨_,_,rfl,Uq.t hv hb,r.val ks⟩
end
section
variable {X:Cx}{a b c:Expr}{td ti tz tv:DE}{pos apos cpos:Pos}[B:Bs]
def zte:PD X (.Dict [] [] pos) Dj:=by with_unfolding_all exact(YL zri fun U H Q hh=>Zv hh fun ad Z S Q0 st rh q k p hp =>
 k _ _ _ _ _ q (Wd.newL st hp) (st.newC hp ⟨[],X7,.nil⟩) st.newRef)
def ztA:PD X (.Dict [] [] pos) FP:=by with_unfolding_all exact(YL fH fun U H Q hh=>Zv hh fun ad Z S Q0 st rh q k p hp =>
 k _ _ _ _ _ q (Wd.newL st hp) (st.newC hp ⟨[],X7,.nil⟩) st.newRef)
def KH {j:Nat}(hr:Zj j X.A)(ho:PD X a td)(hi:PD X b ti)(hs:Bx b:=by intro _ _;rfl):PD X (.Subscript a b pos) (QJ td ti):=by with_unfolding_all exact(YL (ztW (vD hr) ho hi hs) fun U H Q hh=>Zv hh fun ad Z S Q0 st rh q k =>
 ⟨ad,Z,S,_,st,rh,q,fun x S1 v H1 ad1 q1 w1 st1 r1=>⟨ad1,Z,S1,_,st1,rh.wd w1,q1,fun y S2 u H2 ad2 ⟨d,g,q2⟩ w2 st2 r2=>by
  obtain⟨p,o',rfl,g',h⟩:=ztZ st2 (r1.wd w2) r2 g
  rcases h with⟨e,_⟩|⟨d',w,e,rfl,rw'⟩
  ·cases e
  ·cases e
   exact⟨p,w,rfl,g',k _ S2 _ H2 ad2 q2 (w1.trans w2) st2 rw'⟩⟩⟩)
def Jk {j:Nat}(hr:Zj j X.A)(ho:PD X a td)(hi:PD X b ti)(hv:PD X c tv)(hs:swapsWith c (some (.Subscript a b apos)) pos.line X.env=pure false:=by rfl):Xn X (.Assign [.Subscript a b apos] c pos) (Og td ti tv):=by with_unfolding_all exact(Wf (ztq (vD hr) ho hi hv hs) fun E U H hh=>Zv hh fun ad Z S E0 so rh q k =>
 ⟨ad,Z,S,_,so,rh,q,fun v S1 vv H1 ad1 q1 w1 st1 r1=>⟨ad1,Z,S1,_,st1,rh.wd w1,q1,fun x S2 vx H2 ad2 q2 w2 st2 r2=>⟨ad2,Z,S2,_,st2,rh.wd (w1.trans w2),q2,fun y S3 vy H3 ad3 q3 w3 st3 r3=>by
  have rx:=r2.wd w3
  have rv:=r1.wd (w2.trans w3)
  have w13:=(w1.trans w2).trans w3
  rcases q3 with⟨n,Z6,z,rfl,rfl,hn,hl,q3⟩|⟨n,Z6,ks,rfl,rfl,hn,hl,q3⟩
  ·cases r3
   cases rx with
   |ref e =>
    obtain⟨vs,hv',r⟩:=st3.cell n _ _ e hn
    have h1:∀ xs,HO.dK vs≠.tup xs:=fun _ z=>by cases z
    have h2:∀ q u,HO.dK vs≠.frz q u:=fun _ _ z=>by cases z
    have w:=Wd.putC (o':=.dK (putK vs (Sum.inr z:Key) vv)) e hv' h1 h2
    refine⟨_,_,rfl,R8.k (k:=Sum.inr z) hv' (by rw[<- r.length];exact Jx hl),?_⟩
    exact k.nx _ _ _ _ _ q3 (w13.trans w) (st3.putC e hv' h1 h2 ⟨_,X7,RelK.wr w.wr (r.put rv)⟩) (rh.wd (w13.trans w))
  ·cases rx with
   |ref e =>
    obtain⟨vs,hv',r⟩:=st3.cell n _ _ e hn
    cases r3 with
    |tup hb rb =>
     have e2:=Im rb
     subst e2
     have h1:∀ xs,HO.dT vs≠.tup xs:=fun _ z=>by cases z
     have h2:∀ q u,HO.dT vs≠.frz q u:=fun _ _ z=>by cases z
     have w:=Wd.putC (o':=.dT (putK vs ks vv)) e hv' h1 h2
     refine⟨_,_,rfl,R8.t hv' hb (by rw[<- r.length];exact Jx hl),?_⟩
     exact k.nx _ _ _ _ _ q3 (w13.trans w) (st3.putC e hv' h1 h2 ⟨_,X7,Zg.wr w.wr (r.put rv)⟩) (rh.wd (w13.trans w))⟩⟩⟩)
end
structure FH (K:PySem.W.Frag)(n:Str)(st:Stmt)(f:Addr)(fd:FuncData):Prop where
 a:PySem.W.nsIn K mainGlobals n=some (some (.ref f))
 F:V0 K n n st f fd
section
variable {K:PySem.W.Frag}{n:Str}{st:Stmt}{f:Addr}{fd:FuncData}{mg:Str->Option Value}{k:Nat}{h:Heap}{ps:List Str}{sp:Sp}
def zyd {oc:Value}{od an:Option Addr}{osl:Array (Option Value)}{kV doc pm cdv ct:Value}(a:PySem.W.nsIn K mainGlobals n=some (some (.ref f)))
  (l:K.lookup f=some ⟨oc,od,.func (PySem.W.fnOf n n (Vh st) (Xh st) (zY st) .none kV doc pm an cdv ct),osl⟩) (c:PySem.W.codeIn K cdv n=true) (k:PySem.W.keepIn K (.ref f)=true) :
  FH K n st f (PySem.W.fnOf n n (Vh st) (Xh st) (zY st) .none kV doc pm an cdv ct):=⟨a,Gg l c k⟩
def zR (P:Program)(w:World)(base:Heap)(X:K.In h)(G:h.Ns mainGlobals mg)(H:FH K n st f fd)(ok:zN P w K mg base ZS k f fd ps sp)
  (b:∀ (kV doc pm:Value) (an:Option Addr) (cdv ct:Value) (us:List Value),us.length=ps.length->bindArgs (PySem.W.fnOf n n (Vh st) (Xh st) (zY st) .none kV doc pm an cdv ct) ⟨us,[]⟩=pure (ps.zip us):=by intro _ _ _ _ _ _ us hl;first|(obtain⟨_,e⟩:=yg hl;subst e;rfl)|(obtain⟨_,_,e⟩:=Bm hl;subst e;rfl)|(obtain⟨_,_,_,e⟩:=sW hl;subst e;rfl)|(obtain⟨_,_,_,_,e⟩:=Ac hl;subst e;rfl)|(obtain⟨_,_,_,_,_,e⟩:=xY hl;subst e;rfl)|(obtain⟨_,_,_,_,_,_,e⟩:=len_6 hl;subst e;rfl)|(obtain⟨_,_,_,_,_,_,_,e⟩:=len_7 hl;subst e;rfl)):Got P w K mg base k n ps sp:=⟨⟨f,fd,ok,H.F.binds b,H.F.kp,PySem.W.mg_of X G H.a⟩⟩
def RX (P:Program)(w:World)(base:Heap)(X:K.In h)(G:h.Ns mainGlobals mg)(H:FH K n st f fd)(ok:zN P w K mg base (Xp P w) k f fd ps sp)
  (b:∀ (kV doc pm:Value) (an:Option Addr) (cdv ct:Value) (us:List Value),us.length=ps.length->bindArgs (PySem.W.fnOf n n (Vh st) (Xh st) (zY st) .none kV doc pm an cdv ct) ⟨us,[]⟩=pure (ps.zip us):=by intro _ _ _ _ _ _ us hl;first|(obtain⟨_,e⟩:=yg hl;subst e;rfl)|(obtain⟨_,_,e⟩:=Bm hl;subst e;rfl)|(obtain⟨_,_,_,e⟩:=sW hl;subst e;rfl)|(obtain⟨_,_,_,_,e⟩:=Ac hl;subst e;rfl)|(obtain⟨_,_,_,_,_,e⟩:=xY hl;subst e;rfl)|(obtain⟨_,_,_,_,_,_,e⟩:=len_6 hl;subst e;rfl)|(obtain⟨_,_,_,_,_,_,_,e⟩:=len_7 hl;subst e;rfl)):Uk P w K mg base k n ps sp:=⟨⟨f,fd,ok,H.F.binds b,H.F.kp,PySem.W.mg_of X G H.a⟩⟩
end
section
variable {X:Cx}
def gM [B:Bs](i:Nat){x:Str}{pos:Pos}(hN:X.N[i]?=some x:=by rfl)(hv:L2.Vis X.env.scope x:=by first | exact Or.inl rfl | exact Or.inr (Or.inl rfl) | exact Or.inr (Or.inr rfl))(hd:(x==("__debug__":Str))=false:=by decide)(hcd:(x==("__classdict__":Str))=false:=by decide):PD X (.Name x pos) (W2 i):=by with_unfolding_all exact(KY (yQ hN hv hd hcd))
def lX {N P:List Str}{sc:Scope}(h1:sc.kind=.function:=by rfl)(h2:sc.isCoroutine=false:=by rfl)(h3:sc.isGenerator=false:=by rfl)(h4:N.Nodup:=by decide +kernel)(h5:N.take P.length=P:=by rfl)(h6:∀ x∈P,sc.names.lookup x=some .local\/sc.names.lookup x=some .cell:=by decide +kernel)(h7:∀ y∈sc.names,y.2≠.free:=by decide +kernel):RJ N P sc:=⟨h1,h2,h3,h4,h5,h6,h7⟩
end
section
variable {X:Cx}{a b c:Expr}{ta tb:DE}{td ti tz tv:DE}{pos apos cpos:Pos}[B:Bs]
end
section
variable {X:Cx}{a b:Expr}{ta tb:DE}{pos apos cpos:Pos}[B:Bs]
end
section
variable {X:Cx}{a b:Expr}{ta tb:DE}{pos apos cpos:Pos}[B:Bs]
end
section
variable {X:Cx}{a b:Expr}{ta tb:DE}{pos apos cpos:Pos}[B:Bs]
end
end Dp
open PySem Dp
local macro_rules | `(tactic| walk_at"dat")=>`(tactic| first | assumption | exact YC | exact Jj | (refine(Wz _ _ _).trans ?_;exact rfl) | exact YF (by assumption))
local macro_rules | `(tactic| walk_at"l")=>`(tactic| first | assumption | exact Lst.rl | exact Lst.at0 | exact Lst.new | (refine Lst.at ?_;exact rfl) | exact Lst.old (by assumption) | exact Lst.here (by assumption) | exact Lst.here (YF (by assumption)))
local macro_rules | `(tactic| walk_at"dseq")=>`(tactic| first | exact Or.inl rfl | (refine Or.inr ?_;walk_at"l"))
local macro_rules | `(tactic| walk_at"d")=>`(tactic| first | assumption | exact My.Bd.mono (by assumption) (by decide) | exact My.Bd.lit (by decide) (by decide) | (refine My.Bd.add ?_ ?_<;>walk_at"d") | (refine My.Bd.sub ?_ ?_<;>walk_at"d") | (refine My.Bd.neg ?_;walk_at"d") | (refine My.Bd.mulH ?_ ?_<;>walk_at"d") | (refine My.Bd.emod (by lia) ?_;walk_at"d") | (refine My.Bd.ediv ?_;walk_at"d"))
local macro_rules | `(tactic| walk_at"dmul")=>`(tactic| first | assumption | exact Or.inr (Or.inl (by lia)) | exact Or.inr (Or.inr (by lia)) | exact Or.inl ⟨by walk_at"d",by walk_at"d"⟩)
local macro_rules | `(tactic| walk_at"ddiv")=>`(tactic| first | assumption | exact⟨by lia,by walk_at"d"⟩)
local macro_rules | `(tactic| walk_at"dr1")=>`(tactic| with_reducible first|refine zvv ?_|refine iC ?_|refine zvb ?_|refine zyr ?_|refine zyU ?_|refine zuM ?_|refine zuT ?_|refine zxc ?_|refine zvJ ?_)
local macro_rules | `(tactic| walk_at"dr1")=>`(tactic| first|((with_reducible refine zyf (xs:=?rvx) ?rvl ?_);(case rvl=>walk_at"l")))
local macro_rules | `(tactic| walk_at"dr1")=>`(tactic| with_reducible first|refine Es ?_|refine Er ?_|refine zxv ?_|refine zwU ?_|refine jz ?_|refine yt ?_|refine zv4 ?_|refine zxx ?_|refine zwO ?_)
local macro_rules | `(tactic| walk_at"dr1")=>`(tactic| first|((with_reducible refine zwg (xs:=?rvx) ?rvl ?_);(case rvl=>walk_at"l"))|((with_reducible refine zw6 (a:=?rvv) ?rvk ?_);(case rvk=>exact rfl))|((with_reducible refine yO (xs:=?rvx) ?rvk ?rvl ?_);(case rvk=>walk_at"dat");(case rvl=>first | exact Nat.lt_of_ble_eq_true rfl | assumption | (simp only[big,qf,qR,List.length_nil,qc]at *;lia))))
local macro_rules | `(tactic| walk_at"dr1")=>`(tactic| with_reducible first|refine jf ?_|refine zvo ?_|refine zvl ?_|refine zvr ?_|refine v8 ?_|refine zyV ?_|refine zwp ?_|refine zuy ?_|refine zu5 ?_)
local macro_rules | `(tactic| walk_at"dr1")=>`(tactic| first|((with_reducible refine fY ?rvk ?_);(case rvk=>exact rfl)))
local macro_rules | `(tactic| walk_at"dr1")=>`(tactic| with_reducible first|refine zva ?_|refine gJ ?_)
local macro_rules | `(tactic| walk_at"dr1")=>`(tactic| first|((with_reducible refine zjE (xs:=?rvx) ?rvl ?_);(case rvl=>walk_at"dat")))
local macro_rules | `(tactic| walk_at"dr1")=>`(tactic| with_reducible first|refine zkq ?_|refine zjo ?_|refine zi4 ?_)
local macro_rules | `(tactic| walk_at"dr1")=>`(tactic| first|((with_reducible refine jF (xs:=?rvx) ?rvl ?_);(case rvl=>walk_at"l"))|((with_reducible refine gY (xs:=?rvx) ?rvl ?_);(case rvl=>walk_at"l"))|((with_reducible refine zue (xs:=?rvx) ?rvl ?_);(case rvl=>walk_at"l")))
local macro_rules | `(tactic| walk_at"dr1")=>`(tactic| with_reducible first|refine zvy ?_|refine zwK ?_|refine zv3 ?_)
local macro_rules | `(tactic| walk_at"dr1")=>`(tactic| with_reducible first|refine zyq ?_|refine zx5 ?_|refine zxw ?_|refine zxC ?_|refine zw0 ?_|refine Nb ?_|refine zw4 ?_|refine Fx ?_|refine zvg ?_|refine Lq ?_|refine G9 ?_|refine zxy ?_)
local macro_rules | `(tactic| walk_at"dr1")=>`(tactic| first|((with_reducible refine jd (ys:=?rvx) ?rvk ?_);(case rvk=>walk_at"dat")))
local macro_rules | `(tactic| walk_at"dr1")=>`(tactic| with_reducible first|refine r_b ?_|refine jO ?_)
local macro_rules | `(tactic| walk_at"dr1")=>`(tactic| first|((with_reducible refine zuX (b:=?rvv) ?rvk ?_);(case rvk=>exact rfl)))
local macro_rules | `(tactic| walk_at"dr1")=>`(tactic| with_reducible first|refine gP ?_|refine gK ?_|refine fQ ?_)
local macro_rules | `(tactic| walk_at"dr1")=>`(tactic| first|((with_reducible refine iW ?rvk ?_);(case rvk=>exact rfl)))
local macro_rules | `(tactic| walk_at"dr1")=>`(tactic| with_reducible first|refine Gb ?_|refine rC ?_|refine zxN ?_)
local macro_rules | `(tactic| walk_at"dr1")=>`(tactic| with_reducible first|refine jq ?_|refine gZ ?_|refine zxK ?_|refine zxA ?_|refine zzc ?_|refine zxM ?_|refine zxf ?_|refine iJ ?_|refine zuS ?_|refine zw5 ?_|refine zsY ?_|refine zxz ?_)
local macro_rules | `(tactic| walk_at"dr1")=>`(tactic| first|((with_reducible refine zxE ?rvk ?_);(case rvk=>walk_at"dmul"))|((with_reducible refine zxk ?rvk ?_);(case rvk=>walk_at"ddiv"))|((with_reducible refine zw7 ?rvk ?_);(case rvk=>first | lia | assumption))|((with_reducible refine zwT (d:=?rvv) ?rvk ?_);(case rvk=>first | assumption | exact rfl))|((with_reducible refine BJ (xs:=?rvx) (d:=?rvv) ?rvl ?rvk ?_);(case rvl=>walk_at"l");(case rvk=>first | assumption | exact rfl)))
local macro_rules | `(tactic| walk_at"dr1")=>`(tactic| with_reducible first|refine vP ?_|refine Ja ?_|refine zyH ?_|refine zxe ?_|refine zxS ?_|refine zyb ?_|refine zyZ ?_|refine zyF ?_|refine zzb ?_|refine zxt ?_|refine zxW ?_|refine zxb ?_)
local macro_rules | `(tactic| walk_at"dr1")=>`(tactic| first|((with_reducible refine Qk (d:=?rvv) ?rvk ?_);(case rvk=>exact rfl)))
local macro_rules | `(tactic| walk_at"dr1")=>`(tactic| with_reducible first|refine zyG ?_|refine ztB ?_)
local macro_rules | `(tactic| walk_at"dr1")=>`(tactic| first|((with_reducible refine zug (g:=?rv1) (b:=?rv2) (f:=?rv3) (h:=?rv4) (a:=?rv5) (l:=?rv6) (d:=?rv7) ?rvk ?_);(case rvk=>walk_at"dat"))|((with_reducible refine zwk (g:=?rv1) (b:=?rv2) (f:=?rv3) (h:=?rv4) (a:=?rv5) (l:=?rv6) (d:=?rv7) ?rvk ?_);(case rvk=>walk_at"dat"))|((with_reducible refine gk (g:=?rv1) (b:=?rv2) (f:=?rv3) (h:=?rv4) (a:=?rv5) (l:=?rv6) (d:=?rv7) ?rvk ?_);(case rvk=>walk_at"dat")))
local macro_rules | `(tactic| walk_at"dr1")=>`(tactic| first|((with_reducible refine zxj (l:=?rvx) ?rvk ?_);(case rvk=>walk_at"dat"))|((with_reducible refine zqY (g:=?rv1) (b:=?rv2) (f:=?rv3) (h:=?rv4) (a:=?rv5) (l:=?rv6) (d:=?rv7) ?rvk ?_);(case rvk=>walk_at"dat"))|((with_reducible refine zp1 (g:=?rv1) (b:=?rv2) (f:=?rv3) (h:=?rv4) (a:=?rv5) (l:=?rv6) (d:=?rv7) ?rvk ?_);(case rvk=>walk_at"dat"))|((with_reducible refine zu6 (g:=?rv1) (b:=?rv2) (f:=?rv3) (h:=?rv4) (a:=?rv5) (l:=?rv6) (d:=?rv7) ?rvk ?_);(case rvk=>walk_at"dat"))|((with_reducible refine zvk (g:=?rv1) (b:=?rv2) (f:=?rv3) (h:=?rv4) (a:=?rv5) (l:=?rv6) (d:=?rv7) ?rvk ?_);(case rvk=>walk_at"dat")))
local macro_rules | `(tactic| walk_at"dr1")=>`(tactic| with_reducible first|refine Fe ?_|refine zwC ?_|refine yR ?_|refine zsG ?_|refine fG ?_|refine zu8 ?_|refine uw ?_|refine iH ?_|refine gC ?_)
local macro_rules | `(tactic| walk_at"g")=>`(tactic| repeat walk_at"dr1")
local macro_rules | `(tactic| walk_at"h")=>`(tactic| simp only[Rc,qJ,Nh,qR,List.length_nil,Nat.reduceSub,Nat.reduceAdd,List.replicate,List.cons_append,List.nil_append,Jt,List.set_cons_succ])
local macro_rules | `(tactic| walk_at"j")=>`(tactic| simp only[Jt,List.set_cons_succ])
namespace Dp
open PySem Rm My
def Oc:ZV:=fun ds S Q=>∃ (ns:List Int) (k:Int),ds=[.rl (ns.map D.int),.int k]/\0<=k/\∀ v,Q (.int v) S
abbrev Xa:DG:=YW 0
abbrev V7:DG:=YW 1
abbrev Yu:DG:=YW 2
abbrev Y9:DG:=YW 3
abbrev YX:DG:=YW 4
abbrev Yc:DG:=YW 5
abbrev VL:DG:=YW 6
abbrev Ui:DG:=YW 7
abbrev Nx:DG:=YW 8
abbrev Ln:DG:=YW 9
abbrev oF:DG:=YW 10
abbrev nZ:DG:=YW 11
abbrev Z2:DE:=W2 0
abbrev Z1:DE:=W2 1
abbrev ZQ:DE:=W2 2
abbrev ZP:DE:=W2 3
abbrev ZF:DE:=W2 4
abbrev Zx:DE:=W2 5
abbrev Ys:DE:=W2 6
abbrev Xq:DE:=W2 7
abbrev Vc:DE:=W2 8
abbrev U7:DE:=W2 9
abbrev oX:DE:=W2 10
abbrev zyR:DE:=W2 11
abbrev Zw:DE:=dC (.int 0)
abbrev ZK:DE:=dC (.int 1)
abbrev Va:DE:=dC (.int 2)
abbrev Td:DE:=dC (.int 3)
abbrev Uu:DE:=dC (.int 4)
abbrev Ky:DE:=dC (.int 5)
abbrev Px:DE:=dC (.int 6)
abbrev xQ:DE:=dC (.int 7)
abbrev Dw:DE:=dC (.int 8)
abbrev G4:DE:=dC (.int 9)
abbrev X4:DE:=Z7 ZX Z2 Zw
abbrev W7:DE:=Z7 ZX Z2 ZK
abbrev R4:DE:=Z7 ZX Z2 Va
abbrev Oj:DE:=Z7 ZX Z2 Td
abbrev Jy:DE:=Z7 ZX Z2 Uu
abbrev vQ:DE:=Z7 ZX Z2 Ky
abbrev zx7:DE:=Z7 ZX Z2 Px
abbrev zya:DE:=Z7 ZX Z2 xQ
abbrev Vw:DE:=Z7 ZX Z1 Zw
abbrev T8:DE:=Z7 ZX Z1 ZK
abbrev vR:DE:=Z7 ZX Z1 Va
abbrev Ke:DE:=Z7 ZX Z1 Td
abbrev RQ:DE:=Z7 ZX ZQ Zw
abbrev Sy:DE:=Z7 ZX ZQ ZK
abbrev jV:DE:=Z7 ZX ZQ Va
abbrev DN:DE:=Z7 ZX ZQ Td
abbrev Cd:DE:=Z7 ZX ZP Zw
abbrev jN:DE:=Z7 ZX ZP ZK
abbrev zxG:DE:=Z7 ZX Zx Zw
abbrev zwZ:DE:=Z7 ZX Zx ZK
abbrev zxL:DE:=Z7 ZX Ys Zw
abbrev zxH:DE:=Z7 ZX Ys Va
abbrev fJ:DE:=Z7 ZX Xq Zw
abbrev zx3:DE:=Z7 ZX Xq ZK
abbrev Zb:DA:=zf Z2 zF
abbrev Yk:DA:=zf Z1 zF
abbrev YK:DA:=zf ZQ zF
abbrev YD:DA:=zf ZP zF
abbrev T5:DA:=zf ZF zF
abbrev FZ:DA:=zf Zx zF
abbrev Rn:DA:=zf Ys zF
abbrev Ge:DA:=zf Xq zF
abbrev vA:DA:=zf Vc zF
abbrev yE:DA:=zf U7 zF
abbrev yS:DA:=zf zyR zF
abbrev mX:DS :=
    (zA (ZC (dT (Z7 oLt Z1 (dB Y4 Zb))) (zV (Z7 ZX Z2 Z1)) Zt)
 (zV Zw))
def kE:BodyOk 2 mX Oc:=by
 rintro ds S Q ⟨ns,k,rfl,h0,q⟩
 unfold mX
 walk_at"g"
 rw[qc]
 refine ZM (fun g=>?_) (fun g=>?_)
 ·obtain⟨v,_,av⟩:=wB (zs:=ns) h0 (by lia)
  walk_at"g"
  exact fin_same (q _)
 ·walk_at"g"
  exact fin_same (q _)
def zvQ {c k m g:Int}(h0:0<=k)(hk:k<3000)(m0:0<m)(hm:My.Bd 290 m)(hg:My.Bd 290 g):YM (c%m+3) (g+2*k*k)/\YM ((c%m+3)*(g+2*k*k)+6151*k) ((c%m+3)*(g+2*k*k)+6151*k):=by
 have h1:=Ri c (show m≠0 by lia)
 have h2:=Nu c m0
 have b0:My.Bd 290 (c%m):=hm.of_le (by lia)
 have b1:My.Bd 300 (c%m+3):=(b0.add (y:=3) (by show _<2 ^ 290;decide)).mono (by decide)
 have hk2:0<=2*k*k/\2*k*k<=18000000:=⟨Int.mul_nonneg (by lia) h0,Int.le_trans (Int.mul_le_mul (show 2*k<=6000 by lia) (show k<=3000 by lia) h0 (by decide)) (by decide)⟩
 have b2:My.Bd 300 (g+2*k*k):=(hg.add (y:=2*k*k) (My.Bd.mono (m:=30) (by show _<2 ^ 30;lia) (by decide))).mono (by decide)
 have b3:My.Bd 700 ((c%m+3)*(g+2*k*k)+6151*k):=(My.Bd.add (n:=600) (My.Bd.mul b1 b2) (My.Bd.mono (m:=30) (by show _<2 ^ 30;lia) (by decide))).mono (by decide)
 exact⟨.inl ⟨b1.mono (by decide),b2.mono (by decide)⟩,.inl ⟨b3.mono (by decide),b3.mono (by decide)⟩⟩
def M9:ZV:=fun ds S Q=>∃ (c k:Int),ds=[.int c,.int k]/\0<=k/\k<3000/\∀ v,0<=v->True->Q (.int v) S
abbrev xJ:DS :=
    (zA (zH (Z7 Yw (Z7 Zz (Z7 oMod Z2 (dC (.int 1000000000000000000000000000000000000000000000000000000000000))) Td) (Z7 Zz (dC (.int 16180339887498948482045868343656381177203)) (Z7 Yw (Z7 Yw Va Z1) Z1))) Yu)
 (zA (zH (Z7 Zz ZQ (Z7 Yw (dC (.int 6151)) Z1)) Yu)
 (zV (Z7 oMod (Z7 Yw ZQ ZQ) (Z7 Zz (dC (.int 1000000000000000000000000000000000000000000000000000000000000)) (dC (.int 33)))))))
def zlv:BodyOk 3 xJ M9:=by
 rintro ds S Q ⟨c,k,rfl,h0,hk,q⟩
 unfold xJ
 obtain⟨cm1,cm2⟩:=zvQ (c:=c) h0 hk (m:=1000000000000000000000000000000000000000000000000000000000000) (g:=16180339887498948482045868343656381177203) (by decide) (by show _<2 ^ 290;decide) (by show _<2 ^ 290;decide)
 walk_at"g"
 exact fin_same (q _ (Ri _ (by decide)) True.intro)
def Gm:ZV:=fun ds S Q=>∃ (x:D) (ns:List Int) (most:Int),ds=[x,.int most]/\Lst S x (ns.map D.int)/\ns.length<=63/\1<=most/\most<=60/\∀ zs:List Int,(zs.length:Int)=most->(∀ z∈zs,0<=z/\True)->New Q S (zs.map D.int)
abbrev wC:DS :=
    (zA (zH (XS 1 [] (Oi Yk) Xa Wx (dCall M9 (zf Z2 (zf (dC (.int 40)) zF)))) Yu)
 (zA (Yx (Oe Zb) (XF 2 (Zn Y9 (Zn YX X3))) (zA (zH (Z7 oMod ZP Z1) Yc)
 (zH (dCall M9 (zf (Z7 Zz (Z7 ZX ZQ Zx) (Z7 oMod ZF (dC (.int 1000000000000000000000000000000000000000000000000000000000000)))) (zf (Z7 oMod ZP (dC (.int 37))) zF))) (QD ZQ Zx))))
 (zV ZQ)))
def iM:BodyOk 6 wC Gm:=by
 rintro ds S Q ⟨x,ns,most,rfl,hx,hl,h1,h2,q⟩
 unfold wC
 walk_at"g"
 refine⟨_,rfl,by lia,by lia,?_⟩
 refine⟨by rw[nO];unfold big;lia,fun i ys S'=>S'=S/\∃ zs:List Int,ys=zs.map D.int/\zs.length=i/\∀ z∈zs,0<=z/\True,⟨rfl,[],rfl,rfl,by simp⟩,fun _ _ _ _=>True.intro,?_,?_⟩
 ·rintro i d ys S' hd ⟨rfl,zs,rfl,hz,hb⟩
  obtain⟨hi,rfl⟩:=Cg hd
  walk_at"g"
  refine⟨_,_,rfl,by decide,by decide,fun v v0 v1=>?_⟩
  refine⟨rfl,zs++[v],by rw[qA];rfl,by simp[hz],fun z hz'=>?_⟩
  rcases qI.mp hz' with h|h
  ·exact hb z h
  ·have:z=v:=by simpa using h
   subst this;exact⟨v0,v1⟩
 rintro ys S' ⟨rfl,zs,rfl,hz,hb⟩
 rw[nO]at hz
 have hz:(zs.length:Int)=most:=by lia
 walk_at"g"
 refine Gy (xs:=ns.map D.int) hx.old ?_
 refine Yr (fun i Z S''=>∃ (zs:List Int) (w1 w2 w3:Option D),Z=[some x,some (.int most),some (.ref S'.length),w1,w2,w3]/\S''=S'++[.lst (zs.map D.int)]/\(zs.length:Int)=most/\∀ z∈zs,0<=z/\True)
  ⟨zs,_,_,_,rfl,rfl,hz,hb⟩ (fun i Z S'' zq0=>by obtain⟨zs,w1,w2,w3,_,e,_⟩:=zq0;exact e▸hx.old) ?_ ?_
 ·rintro i d Z S'' hd ⟨zs,w1,w2,w3,rfl,rfl,hz,hb⟩
  obtain⟨y,hy,rfl⟩:=Qg hd
  obtain⟨n,_,rfl⟩:=Qn hy
  have m1:=Ri ((0+i:Nat):Int) (show most≠0 by lia)
  have m2:=Nu ((0+i:Nat):Int) (show 0<most by lia)
  obtain⟨u,hu,au⟩:=wB (zs:=zs) (k:=((0+i:Nat):Int)%most) m1 (by lia)
  have iu:=zvp (zs:=zs) (k:=((0+i:Nat):Int)%most) m1 (by lia)
  have k1:=Ri ((0+i:Nat):Int) (show(37:Int)≠0 by decide)
  have k2:=Nu ((0+i:Nat):Int) (show(0:Int)<37 by decide)
  walk_at"g"
  refine⟨_,_,rfl,k1,by lia,fun v v0 v1=>?_⟩
  walk_at"g"
  refine G8 YC iu ?_
  walk_at"g"
  refine⟨zs.set _ v,_,_,_,rfl,by rw[List.map_set],by simpa using hz,fun z hz'=>?_⟩
  rcases zqC hz' with h|h
  ·exact hb z h
  ·subst h;exact⟨v0,v1⟩
 ·rintro Z S'' ⟨zs,w1,w2,w3,rfl,rfl,hz,hb⟩
  walk_at"g"
  exact fin_same (q zs hz hb)
def Vs:List Str:=["","a","zz","beacon"]
def Xk (k t:Nat):Str:=⟨#[97+k]⟩++Vs.getD t ""
theorem vJ:∀ t,(∀ c∈(Vs.getD t "").cps.toList,c∈abc)/\(Vs.getD t "").length<=6
 |0=>by decide +kernel
 |1=>by decide +kernel
 |2=>by decide +kernel
 |3=>by decide +kernel
 |_+4=>by
  show(∀ c∈("":Str).cps.toList,c∈abc)/\("":Str).length<=6
  decide +kernel
def TQ (k t:Nat):(Xk k t).cps.toList=(97+k)::(Vs.getD t "").cps.toList:=by
 show(#[97+k]++(Vs.getD t "").cps).toList=_
 simp
def zwe {k t:Nat}(h:k<26):WQ (Xk k t)=true:=by
 obtain⟨h1,h2⟩:=vJ t
 have e:(Xk k t).length=1+(Vs.getD t "").length:=by
  show(#[97+k]++(Vs.getD t "").cps).size=1+(Vs.getD t "").cps.size
  simp
 rw[IK,e]
 refine⟨by lia,by lia,fun c hc=>?_⟩
 rw[TQ]at hc
 rcases qh.mp hc with hc|hc
 ·rw[hc];exact rT.mpr (by lia)
 ·exact h1 c hc
def jZ {k t k' t':Nat}(e:Xk k t=Xk k' t'):k=k':=by
 have h:(Xk k t).cps.toList=(Xk k' t').cps.toList:=congrArg (fun z:Str=>z.cps.toList) e
 rw[TQ,TQ]at h
 have:=(R6 h).1
 lia
def zxX (i:Nat)(h:i<8):atS "abcdefgh" ((0+i:Nat):Int)=some (97+i):=by
  have:i=0\/i=1\/i=2\/i=3\/i=4\/i=5\/i=6\/i=7:=by lia
  rcases this with rfl|rfl|rfl|rfl|rfl|rfl|rfl|rfl<;>decide +kernel
def zws {n:Int}:Y7 (Vs.map D.str) (n%4)=some (.str (Vs.getD (n%4).toNat "")):=by
  have:n%4=0\/n%4=1\/n%4=2\/n%4=3:=by lia
  rcases this with e|e|e|e<;>rw[e]<;>rfl
def PN (bs:List (Str×(Int×Int))):Prop:=∀ (j:Nat) b,bs[j]?=some b->(∃ t,b.1=Xk j t)/\-6<=b.2.1/\b.2.1<=6/\0<=b.2.2/\b.2.2<=8
def PN.nm {bs:List (Str×(Int×Int))}(h:PN bs)(hl:bs.length<=8):∀ b∈bs,WQ b.1=true:=fun b hb=>by
 obtain⟨j,hj,ej⟩:=qH.mp hb
 obtain⟨⟨t,e⟩,_⟩:=h j b (by rw[qb hj,ej])
 rw[e];exact zwe (by lia)
def PN.nd {bs:List (Str×(Int×Int))}(h:PN bs):(bs.map (·.1)).Nodup:=by
 refine qZ.mpr fun i j hi hj hij e=>?_
 rw[qc]at hi hj
 rw[Ux,Ux]at e
 obtain⟨⟨t,e1⟩,_⟩:=h i _ (qb hi)
 obtain⟨⟨t',e2⟩,_⟩:=h j _ (qb hj)
 rw[e1,e2]at e
 have:=jZ e
 lia
def Ho:ZV:=fun ds S Q=>∃ (u:D) (ns:List Int),ds=[u]/\Lst S u (ns.map D.int)/\ns.length<=8/\∀ (T:Z5) (bs:List (Str×(Int×Int))),bs.length=ns.length->PN bs->Q (.ref S.length) (S++.lst (bs.map X6)::T)
abbrev yX:DS :=
    (zA (zH (Yz zF) V7)
 (zA (Yx (Oe Zb) (XF 2 (Zn Yu (Zn Y9 X3))) (zA (zH (Z7 Zz (Z7 ZX (dC (.str "abcdefgh")) ZQ) (Z7 ZX (Yz (zf (dC (.str "")) (zf (dC (.str "a")) (zf (dC (.str "zz")) (zf (dC (.str "beacon")) zF))))) (Z7 oMod ZP Uu))) YX)
 (Zk (dM UL Z1 (zf (dTup (zf ZF (zf (Z7 Zo (Z7 oMod (Z7 oDiv ZP Uu) (dC (.int 13))) Px) (zf (Z7 oMod (Z7 oDiv ZP (dC (.int 60))) G4) zF)))) zF)))))
 (zV Z1)))
def zjD:BodyOk 5 yX Ho:=by
 rintro ds S Q ⟨u,ns,rfl,hu,n8,q⟩
 unfold yX
 have hu0:∀ T,Lst (S++T) u (ns.map D.int):=fun T=>hu.old
 have hu1:=hu0 [.lst []]
 walk_at"g"
 refine Gy (xs:=ns.map D.int) hu1 ?_
 refine Yr (fun i Z S'=>∃ (bs:List (Str×(Int×Int))) (T:Z5) (w2 w3 w4:Option D),S'=S++Cell.lst (bs.map X6)::T/\bs.length=i/\PN bs/\Z=[some u,some (.ref S.length),w2,w3,w4]) ⟨[],[],_,_,_,rfl,rfl,fun j b h=>by simp at h,rfl⟩ (fun i Z S' zq1=>by obtain⟨_,_,_,_,_,e,_⟩:=zq1;exact e▸hu0 _) ?_ ?_
 ·rintro i d Z S' hd ⟨bs,T,w2,w3,w4,rfl,hl,hb,rfl⟩
  obtain⟨y,hy,rfl⟩:=Qg hd
  obtain⟨n,hn,rfl⟩:=Qn hy
  have li:=zU hn
  walk_at"g"
  refine zxi (c:=97+i) (by decide +kernel) (zxX i (by lia)) ?_
  have atl:Y7 [.str "",.str "a",.str "zz",.str "beacon"] (n%4)=some (.str (Vs.getD (n%4).toNat "")):=zws
  walk_at"g"
  have l6:=(vJ (n%4).toNat).2
  refine xG (by show 1+_<=big;unfold big;lia) ?_
  rw[show(⟨#[97+i]⟩:Str)++Vs.getD (n%4).toNat ""=Xk i (n%4).toNat from rfl]
  have hlim:(bs.map X6).length<big:=by rw[qc];unfold big;lia
  walk_at"g"
  refine⟨bs++[(Xk i (n%4).toNat,(n/4%13-6,n/60%9))],_,_,_,_,by rw[qA];rfl,by simp[hl],fun j b h=>?_,rfl⟩
  rcases qP j bs.length with g|g
  ·rw[qk g]at h;exact hb j b h
  ·have lj:=zU h
   rw[qf]at lj
   have ej:j=bs.length:=by simp at lj;lia
   subst ej
   rw[qi (qg _),Wv]at h
   have e:(Xk i (n%4).toNat,(n/4%13-6,n/60%9))=b:=by simpa using h
   rw[<- e]
   exact⟨⟨_,by rw[hl]⟩,by dsimp only;lia,by dsimp only;lia,by dsimp only;lia,by dsimp only;lia⟩
 rintro Z S' ⟨bs,T,w2,w3,w4,rfl,hl,hb,rfl⟩
 rw[Te,qc]at hl
 walk_at"g"
 exact fin_same (q T bs hl hb)
def Hr:ZV:=fun ds S Q=>∃ (u:D) (ns:List Int) (a b:Int),ds=[u,.int a,.int b]/\Lst S u (ns.map D.int)/\ns.length<=12/\-100<=a/\a<=b/\b<=1000/\∀ fs:List Fg,fs.length<=ns.length->(∀ F∈fs,Gi F)->New Q S (fs.map X5)
abbrev vL:DS :=
    (zA (zH (Yz zF) Y9)
 (zA (Yx (Ze Z2) YX (zA (zH (dCall M9 (zf ZF (zf (dC (.int 71)) zF))) Yc)
 (ZC (dT (Z7 Xm (Z7 oMod Zx Uu) Zw)) (zA (zH (Z7 Zo (Z7 oMod (Z7 oDiv Zx Uu) (dC (.int 15))) Dw) VL)
 (zA (zH (Z7 Zo (Z7 oMod (Z7 oDiv Zx (dC (.int 60))) (dC (.int 12))) Va) Ui)
 (zA (zH (Z7 Zz (Z7 Zo Z1 Td) (Z7 oMod (Z7 oDiv Zx (dC (.int 720))) (Z7 Zz (Z7 Zo ZQ Z1) Px))) Nx)
 (zA (zH (Z7 Zz Vc (Z7 oMod (Z7 oDiv Zx (dC (.int 1000000000000000))) (dC (.int 12)))) Ln)
 (zA (zH (Z7 Zo (Z7 oMod (Z7 oDiv Zx (dC (.int 100000000000000000000))) Ky) Va) oF)
 (zA (zH (Z7 Zo (Z7 oMod (Z7 oDiv Zx (dC (.int 10000000000000000000000000))) Td) ZK) nZ)
 (Zk (dM UL ZP (zf (dTup (zf Ys (zf (Z7 Zz Ys (Z7 oMod (Z7 oDiv Zx (dC (.int 1000000000000000000000000000000))) Ky)) (zf Xq (zf (Z7 Zz Xq (Z7 oMod (Z7 oDiv Zx (dC (.int 100000000000000000000000000000000000))) Px)) (zf Vc (zf U7 (zf oX yS)))))))) zF))))))))) Zt)))
 (zV ZP)))
def zmf:BodyOk 12 vL Hr:=by
 rintro ds S Q ⟨u,ns,a,b,rfl,hu,n12,a0,ab,b1,q⟩
 unfold vL
 have hu0:∀ T,Lst (S++T) u (ns.map D.int):=fun T=>hu.old
 have hu1:=hu0 [.lst []]
 walk_at"g"
 refine Yr (fun i Z S'=>∃ (fs:List Fg) (w4 w5 w6 w7 w8 w9 w10 w11:Option D),S'=S++[Cell.lst (fs.map X5)]/\fs.length<=i/\(∀ F∈fs,Gi F)/\Z=[some u,some (.int a),some (.int b),some (.ref S.length),w4,w5,w6,w7,w8,w9,w10,w11]) ⟨[],_,_,_,_,_,_,_,_,rfl,qg _,by simp,rfl⟩ (fun i Z S' zq2=>by obtain⟨_,_,_,_,_,_,_,_,_,e,_⟩:=zq2;exact e▸hu0 _) ?_ ?_
 ·rintro i d Z S' hd ⟨fs,w4,w5,w6,w7,w8,w9,w10,w11,rfl,hl,hf,rfl⟩
  obtain⟨n,hn,rfl⟩:=Qn hd
  have li:=zU hn
  walk_at"g"
  refine⟨n,_,rfl,by decide,by decide,fun m m0 m1=>?_⟩
  have hp:0<b-a+6:=by lia
  walk_at"g"
  refine ZM (fun _=>?_) (fun _=>?_)
  ·have r0:=Ri (m/720) (show b-a+6≠0 by lia)
   have r1:=Nu (m/720) hp
   have hlim:(fs.map X5).length<big:=by rw[qc];unfold big;lia
   walk_at"g"
   have sm:∀ {v:Int} {k:Nat},20<=k->-10000<=v->v<=10000->Bd k v:=fun {v k} hk h1 h2=>(show Bd 20 v by show _<2 ^ 20;lia).mono hk
   refine⟨fs++[⟨m/4%15-8,m/4%15-8+m/1000000000000000000000000000000%5,m/60%12-2,m/60%12-2+m/100000000000000000000000000000000000%6,a-3+m/720%(b-a+6),a-3+m/720%(b-a+6)+m/1000000000000000%12,m/100000000000000000000%5-2,m/10000000000000000000000000%3-1⟩],_,_,_,_,_,_,_,_,by rw[qA];rfl,by simp;lia,fun F hF=>?_,rfl⟩
   rcases qI.mp hF with h|h
   ·exact hf F h
   ·rw[List.mem_singleton.mp h]
    exact⟨⟨by dsimp only;lia,by dsimp only;lia,sm (by decide) (by dsimp only;lia) (by dsimp only;lia),sm (by decide) (by dsimp only;lia) (by dsimp only;lia),sm (by decide) (by dsimp only;lia) (by dsimp only;lia),sm (by decide) (by dsimp only;lia) (by dsimp only;lia),sm (by decide) (by dsimp only;lia) (by dsimp only;lia),sm (by decide) (by dsimp only;lia) (by dsimp only;lia)⟩,by dsimp only;lia,sm (by decide) (by dsimp only;lia) (by dsimp only;lia),sm (by decide) (by dsimp only;lia) (by dsimp only;lia)⟩
  ·walk_at"g"
   exact⟨fs,_,_,_,_,_,_,_,_,rfl,by lia,hf,rfl⟩
 rintro Z S' ⟨fs,w4,w5,w6,w7,w8,w9,w10,w11,rfl,hl,hf,rfl⟩
 rw[qc]at hl
 walk_at"g"
 exact fin_same (q fs hl hf)
def nD {h1 h2 t w z:Int}(b1:h1<=7)(b2:h2<=7)(t0:0<=t)(tw:t<=w)(hz:7<=z):h1*w+(h2-h1)*t<=z*w:=by
 have e:h1*w+(h2-h1)*t=h1*(w-t)+h2*t:=by grind
 have a1:=Ec b1 (show 0<=w-t by lia)
 have a2:=Ec b2 t0
 have a3:=Ec hz (show 0<=w by lia)
 rw[e];lia
def QC (a b:Int):List (Int×Int):=[(-9,-3),(a,b),(9,-3)]
def zv5 {a b:Int}(a0:-5<=a)(a1:a<=5)(b0:-6<=b)(b1:b<=5):Ws (QC a b):=by
  have sm:∀ {v:Int} {k:Nat},20<=k->-100<=v->v<=100->Bd k v:=fun {v k} hk h1 h2=>(show Bd 20 v by show _<2 ^ 20;lia).mono hk
  refine⟨show 2<=3 by decide,show 3<=40 by decide,?_,fun c hc=>?_⟩
  . unfold QC
    refine .cons (fun c hc=>?_) (.cons (fun c hc=>?_) (.cons (fun c hc=>by simp at hc) .nil))
    . have:c=(a,b)\/c=(9,-3):=by simpa using hc
      rcases this with rfl|rfl<;>dsimp only<;>lia
    . have:c=(9,-3):=by simpa using hc
      subst this;dsimp only;lia
  . have:c=(-9,-3)\/c=(a,b)\/c=(9,-3):=by simpa [QC]using hc
    rcases this with rfl|rfl|rfl<;>exact⟨sm (by decide) (by dsimp only;lia) (by dsimp only;lia),sm (by decide) (by dsimp only;lia) (by dsimp only;lia)⟩
def ztc {a b x z:Int}(a0:-5<=a)(a1:a<=5)(b1:b<=5)(x0:-6<=x)(x1:x<=6)(hz:7<=z):Wu (QC a b) (x,z):=by
 refine⟨⟨show -9*1<=x by lia,show x<=9*1 by lia⟩,fun p q e=>?_⟩
 have e':(if x<=a*1 then some ((((-9:Int),(-3:Int)),(a,b)))else if x<=9*1 then some ((a,b),((9:Int),(-3:Int)))else none)=some (p,q):=e
 split at e'
 ·rename_i h
  cases e'
  unfold Qq Ut
  rw[if_pos (by dsimp only;lia),if_pos (by dsimp only;lia)]
  have:=nD (h1:=-3) (h2:=b) (t:=x+9) (w:=a+9) (z:=z) (by decide) (by lia) (by lia) (by lia) hz
  dsimp only
  simp only[Wq]
  rw[show a - -9=a+9 by lia,show x - -9=x+9 by lia]
  exact this
 ·rename_i h
  rw[if_pos (by lia)]at e'
  cases e'
  unfold Qq Ut
  rw[if_pos (by dsimp only;lia),if_pos (by dsimp only;lia)]
  have:=nD (h1:=b) (h2:=-3) (t:=x-a) (w:=9-a) (z:=z) (by lia) (by decide) (by lia) (by lia) hz
  dsimp only
  simp only[Wq]
  exact this
def Hv (bs:List (Str×(Int×Int))):Prop:=∀ (j:Nat) b,bs[j]?=some b->∃ t,b.1=Xk j t
def Je:ZV:=fun ds S Q=>∃ (ns:List Int),ds=[.rl (ns.map D.int)]/\ns.length<=63/\∀ (T:Z5) (x y z:D) (V:Vl),Yy V->2<=V.bs.length->V.bs.length<=5->V.fs.length<=6->-5<=V.h0->V.h0<=5->V.h1<=V.h0+23->V.dl<=3->Hv V.bs->Qf (S++T) x y z V->Q (Mv x y z V) (S++T)
abbrev oH:DS :=
    (zA (zH (Z7 oMod (dCall Oc (zf Z2 (zf Zw zF))) (dC (.int 1000000000000000000000000000000))) V7)
 (zA (zH (Z7 Zz Va (Z7 oMod Z1 Uu)) Yu)
 (zA (zH (dCall Gm (zf (Nq QG Z2 (some Va) none) (zf Px zF))) Y9)
 (zA (zH (Z7 Zo (Z7 oMod (Z7 oDiv Z1 Uu) (dC (.int 11))) Ky) YX)
 (zA (zH (Z7 Zz ZF (Z7 oMod (Z7 oDiv Z1 (dC (.int 44))) (dC (.int 24)))) Yc)
 (zA (zH (Yz (zf (dTup (zf (Yp Yo G4) (zf (Yp Yo Td) zF))) (zf (dTup (zf (Z7 Zo (Z7 oMod (Z7 oDiv Z1 (dC (.int 1000000))) (dC (.int 11))) Ky) (zf (Z7 Zo (Z7 oMod (Z7 oDiv Z1 (dC (.int 100000000))) (dC (.int 12))) Px) zF))) (zf (dTup (zf G4 (zf (Yp Yo Td) zF))) zF)))) VL)
 (zA (zH (Z7 ZX (Yz (zf (dC .non) (zf (Z7 Zz G4 (Z7 oMod (Z7 oDiv Z1 (dC (.int 10000000000))) (dC (.int 200)))) (zf (dC (.int 40)) zF)))) (Z7 oMod (Z7 oDiv Z1 (dC (.int 10000000000000))) Td)) Ui)
 (zA (zH (XS 3 [] (Ze (dCall Ho (zf (Nq QG ZP none (some ZQ)) zF))) (XF 3 (Zn Xa (Zn V7 (Zn Yu X3)))) Wx (dTup (zf Z2 (zf Z1 (zf (Z7 Zz ZQ xQ) zF))))) Nx)
 (zA (zH (dCall Hr (zf ZP (zf ZF FZ))) Ln)
 (zV (dTup (zf Ys (zf Vc (zf U7 (zf Xq (zf ZF (zf Zx (zf (Z7 oMod (Z7 oDiv Z1 (dC (.int 1000000000000000))) Uu) zF))))))))))))))))))
def zlf:BodyOk 10 oH Je:=by
  rintro ds S Q ⟨ns,rfl,hl,q⟩
  unfold oH
  walk_at"g"
  refine⟨ns,0,rfl,by decide,fun c0=>?_⟩
  have h0:=Ri c0 (show(1000000000000000000000000000000:Int)≠0 by decide)
  have h1:=Nu c0 (show(0:Int)<1000000000000000000000000000000 by decide)
  walk_at"g"
  generalize c0%1000000000000000000000000000000=hd at h0 h1
  rw[sI]
  have cl:(cutD ns (some 2) none).length<=63:=Xi (zt7 _ _ _) (by unfold W8;dsimp only;split<;>lia)
  generalize cutD ns (some 2) none=cn at cl
  refine⟨_,cn,6,rfl,Lst.at0,cl,by decide,by decide,fun zs hz hzb=>?_⟩
  unfold New
  have hz6:zs.length=6:=by lia
  obtain⟨hz',ahz,hzo⟩:∃ hz:Option Int,Y7 [.non,.int (9+hd/10000000000%200),.int 40] (hd/10000000000000%3)=some (WD hz)/\∀ z,hz=some z->0<=z:=by
    have:hd/10000000000000%3=0\/hd/10000000000000%3=1\/hd/10000000000000%3=2:=by lia
    rcases this with e|e|e<;>rw[e]
    . exact⟨none,rfl,fun z h=>by cases h⟩
    . exact⟨some (9+hd/10000000000%200),rfl,fun z h=>by cases h;lia⟩
    . exact⟨some 40,rfl,fun z h=>by cases h;decide⟩
  walk_at"g"
  rw[sI,zrC zs (by lia) (by lia)]
  have lb:(zs.take (2+hd%4).toNat).length=(2+hd%4).toNat:=by rw[Vu];lia
  generalize zs.take (2+hd%4).toNat=bn at lb
  obtain⟨Sa,hSa⟩:∃ Sa:Z5,Sa=S++[Cell.lst (cn.map D.int)]:=⟨_,rfl⟩
  have ga:Ws (QC (hd/1000000%11-5) (hd/100000000%12-6)):=zv5 (by lia) (by lia) (by lia) (by lia)
  have gs:∀ x z:Int,-6<=x->x<=6->7<=z->Wu (QC (hd/1000000%11-5) (hd/100000000%12-6)) (x,z):=fun x z h1 h2 h3=>ztc (by lia) (by lia) (by lia) h1 h2 h3
  generalize hgr:QC (hd/1000000%11-5) (hd/100000000%12-6)=gr at ga gs
  have egr:[D.tup [D.int (-9),D.int (-3)],D.tup [D.int (hd/1000000%11-5),D.int (hd/100000000%12-6)],D.tup [D.int 9,D.int (-3)]]=gr.map p2:=by rw[<- hgr];rfl
  rw[<- hSa,egr]
  refine⟨_,bn,rfl,Lst.at (k:=3) rfl,by lia,fun T1 bs lbs hbs=>?_⟩
  obtain⟨Sb,hSb⟩:∃ Sb:Z5,Sb=Sa++[Cell.lst (zs.map D.int),.lst (gr.map p2),.lst [.non,.int (9+hd/10000000000%200),.int 40],.lst (bn.map D.int)]:=⟨_,rfl⟩
  have ks:∀ T,Lst (Sb++T) (.ref Sa.length) (zs.map D.int):=fun T=>hSb▸Lst.old Lst.at0
  have kg:∀ T,Lst (Sb++T) (.ref (Sa.length+1)) (gr.map p2):=fun T=>hSb▸Lst.old (Lst.at (k:=1) rfl)
  have xb:∃ T,Sb=S++T:=⟨_,by rw[hSb,hSa,qm]⟩
  rw[<- hSb]
  clear hSb hSa egr hgr ahz
  generalize Sa.length=na at ks kg
  walk_at"g"
  refine V2 (fun _=>true) (N6 fun b=>X6 (b.1,(b.2.1,b.2.2+7))) Lst.at0 (by rw[qc];unfold big;lia) (fun i d ys hd' hw=>?_) ?_
  . obtain⟨b,hb,rfl⟩:=Ov hd'
    walk_at"g"
    exact V1 hd' hw rfl rfl
  rw[filter_true,LK,show bs.map (fun b=>X6 (b.1,(b.2.1,b.2.2+7)))=(bs.map fun b=>(b.1,(b.2.1,b.2.2+7))).map X6 by rw[WY];rfl]
  have nm1:∀ b∈bs.map (fun b=>(b.1,(b.2.1,b.2.2+7))),WQ b.1=true/\-6<=b.2.1/\b.2.1<=6/\7<=b.2.2/\b.2.2<=15:=fun b hb=>by
    obtain⟨b',hb',rfl⟩:=qT.mp hb
    obtain⟨j,hj,ej⟩:=qH.mp hb'
    obtain⟨_,k1,k2,k3,k4⟩:=hbs j b' (by rw[qb hj,ej])
    exact⟨hbs.nm (by lia) b' hb',k1,k2,by dsimp only;lia,by dsimp only;lia⟩
  have nd1:((bs.map (fun b=>(b.1,(b.2.1,b.2.2+7)))).map (·.1)).Nodup:=by
    rw[WY];exact hbs.nd
  have hn1:Hv (bs.map fun b=>(b.1,(b.2.1,b.2.2+7))):=fun j b e=>by
    rw[qj]at e
    cases eb:bs[j]? with
    |none=>rw[eb]at e;cases e
    |some b'=>rw[eb]at e;cases e;exact(hbs j b' eb).1
  have ln1:(bs.map (fun b=>(b.1,(b.2.1,b.2.2+7)))).length=(2+hd%4).toNat:=by rw[qc,lbs,lb]
  generalize bs.map (fun b=>(b.1,(b.2.1,b.2.2+7)))=b2 at nm1 nd1 ln1 hn1
  unfold New
  rw[qm]
  obtain⟨Sc,hSc⟩:∃ Sc:Z5,Sc=Sb++(Cell.lst (bs.map X6)::T1):=⟨_,rfl⟩
  have ks2:∀ T,Lst (Sc++T) (.ref na) (zs.map D.int):=fun T=>hSc▸(ks _).old
  have kg2:∀ T,Lst (Sc++T) (.ref (na+1)) (gr.map p2):=fun T=>hSc▸(kg _).old
  have xc:∃ T,Sc=S++T:=zsP xb hSc
  rw[<- qm,<- hSc]
  clear hSc
  walk_at"g"
  refine⟨_,zs,_,_,rfl,ks2 _,by lia,by lia,by lia,by lia,fun fs lf hf=>?_⟩
  unfold New
  walk_at"g"
  have sm:∀ {v:Int} {k:Nat},20<=k->-100<=v->v<=100->Bd k v:=fun {v k} hk h1 h2=>(show Bd 20 v by show _<2 ^ 20;lia).mono hk
  have e2:Sc++[Cell.lst (b2.map X6)]++[.lst (fs.map X5)]=Sc++[Cell.lst (b2.map X6),.lst (fs.map X5)]:=by simp
  have e3:(Sc++[Cell.lst (b2.map X6)]).length=Sc.length+1:=by simp
  rw[e2,e3]
  have vs:Qf (Sc++[Cell.lst (b2.map X6),.lst (fs.map X5)]) (.ref (na+1)) (.ref Sc.length) (.ref (Sc.length+1)) ⟨gr,b2,fs,hz',hd/4%11-5,hd/4%11-5+hd/44%24,hd/1000000000000000%4⟩:=⟨kg2 _,Lst.at0,Lst.at (k:=1) rfl⟩
  have ok:Yy ⟨gr,b2,fs,hz',hd/4%11-5,hd/4%11-5+hd/44%24,hd/1000000000000000%4⟩:={ gr:=ga,b1:=(by show 1<=b2.length;lia),b12:=(by show b2.length<=12;lia),nm:=fun b hb=>(nm1 b hb).1,nd:=nd1,st:=fun b hb=>gs b.2.1 b.2.2 (nm1 b hb).2.1 (nm1 b hb).2.2.1 (nm1 b hb).2.2.2.1,bd:=fun b hb=>⟨sm (by decide) (by have:=(nm1 b hb).2;lia) (by have:=(nm1 b hb).2;lia),sm (by decide) (by have:=(nm1 b hb).2;lia) (by have:=(nm1 b hb).2;lia)⟩,f12:=(by show fs.length<=12;lia),fg:=hf,hz:=hzo,hh:=(by dsimp only;lia),b0:=sm (by decide) (by dsimp only;lia) (by dsimp only;lia),bl:=sm (by decide) (by dsimp only;lia) (by dsimp only;lia),dl:=(by dsimp only;lia) }
  obtain⟨Tc,rfl⟩:=xc
  rw[qm]at vs ⊢
  exact fin_same (q _ _ _ _ _ ok (by dsimp only;lia) (by dsimp only;lia) (by dsimp only;lia) (by dsimp only;lia) (by dsimp only;lia) (by dsimp only;lia) (by dsimp only;lia) hn1 vs)
def Gr:ZV:=fun ds S Q=>∃ (x:D) (cs:List (Int×Int)),ds=[x]/\Lst S x (cs.map p2)/\Ws cs/\Q .non S
abbrev rR:DS :=
    (zA (ZC (TJ (dT (Z7 oLt (dB Y4 Zb) Va)) (dT (Z7 Xm (dB Y4 Zb) (dC (.int 40))))) Ve Zt)
 (Yx (Eb (zf ZK (zf (dB Y4 Zb) zF))) V7 (ZC (dT (Z7 oLe (Z7 ZX (Z7 ZX Z2 Z1) Zw) (Z7 ZX (Z7 ZX Z2 (Z7 Zo Z1 ZK)) Zw))) Ve Zt)))
def zfn:BodyOk 2 rR Gr:=by
 rintro ds S Q ⟨x,cs,rfl,hx,g,q⟩
 unfold rR
 have g1:=g.two
 have g2:=g.most
 walk_at"g"
 rw[qc]
 refine ZM (fun z=>absurd z (by lia)) (fun _=>?_)
 walk_at"g"
 rw[qc]
 refine ZM (fun z=>absurd z (by lia)) (fun _=>?_)
 walk_at"g"
 rw[qc]
 refine⟨_,_,rfl,?_⟩
 refine Yr (fun i Z S'=>S'=S/\∃ w:Option D,Z=[some x,w]) ⟨rfl,none,rfl⟩ (fun _ _ _ _=>True.intro) ?_ ?_
 ·rintro i d Z S' hd ⟨rfl,w,rfl⟩
  obtain⟨hi,rfl⟩:=Cg hd
  obtain⟨a,ha,aa⟩:=Hw (cs:=cs) (k:=1+(i:Int)) (by lia) (by lia)
  obtain⟨b,hb,ab⟩:=Hw (cs:=cs) (k:=1+(i:Int)-1) (by lia) (by lia)
  have hlt:=mU g (show(1+(i:Int)-1).toNat<(1+(i:Int)).toNat by lia) hb ha
  walk_at"g"
  refine ZM (fun z=>absurd z (by lia)) (fun _=>?_)
  walk_at"g"
  exact⟨rfl,_,rfl⟩
 ·rintro Z S' ⟨rfl,w,rfl⟩
  exact fin_same q
def BP:ZV:=fun ds S Q=>∃ (S0:Z5) (x:D) (cs:List (Int×Int)),ds=[.ref S0.length,x]/\S=S0++[.ins "Ground" []]/\Lst S0 x (cs.map p2)/\Ws cs/\Q .non (S0++[.ins "Ground" [("corners",.ref (S0.length+1))],.lst (cs.map p2)])
abbrev Kf:DS :=
    (zA (Zk (dCall Gr Yk))
 (TY "Ground" "corners" Z2 (dB Nk Yk)))
def zjp:BodyOk 2 Kf BP:=by
 rintro ds S Q ⟨S0,x,cs,rfl,rfl,hx,g,q⟩
 unfold Kf
 have hx':Lst (S0++[.ins "Ground" []]) x (cs.map p2):=hx.old
 walk_at"g"
 refine⟨x,cs,rfl,hx',g,?_⟩
 walk_at"g"
 refine⟨S0.length,[],rfl,YC,by decide,?_⟩
 rw[Wa]
 exact fin_same q
def Hh:ZV:=Bt "Ground" BP
def Jc:ZV:=fun ds S Q=>∃ (x y:D) (xs ys:List D),ds=[x,y]/\Lst S x xs/\Lst S y ys/\1<=xs.length/\xs.length<=12/\ys.length<=12/\Q .non S
abbrev Ag:DS :=
    (zA (ZC (TJ (dT (Z7 oLt (dB Y4 Zb) ZK)) (dT (Z7 Xm (dB Y4 Zb) (dC (.int 12))))) Ve Zt)
 (ZC (dT (Z7 Xm (dB Y4 Yk) (dC (.int 12)))) Ve Zt))
def zfr:BodyOk 2 Ag Jc:=by
 rintro ds S Q ⟨x,y,xs,ys,rfl,hx,hy,h1,h2,h3,q⟩
 unfold Ag
 walk_at"g"
 rw[decide_eq_false (show ¬ ((xs.length:Int)<1) by lia)]
 walk_at"g"
 rw[decide_eq_false (show ¬ ((12:Int)<xs.length) by lia)]
 walk_at"g"
 rw[decide_eq_false (show ¬ ((12:Int)<ys.length) by lia)]
 walk_at"g"
 exact fin_same q
def Gp:ZV:=fun ds S Q=>∃ z:Str,ds=[.str z]/\z.length<=1000/\Q (.bl (WQ z)) S
abbrev uP:DS :=
    (zA (ZC (TJ (dT (Z7 oLt (dB Y4 Zb) ZK)) (dT (Z7 Xm (dB Y4 Zb) Dw))) (zV (dC (.bl false))) Zt)
 (zV (dB R5 (zf (XS 1 [] (Ze Z2) Xa Wx (Z7 Cy Z2 (dC (.str "abcdefghijklmnopqrstuvwxyz")))) zF))))
def znV:BodyOk 1 uP Gp:=by
 rintro ds S Q ⟨z,rfl,hz,q⟩
 unfold uP
 have hb:z.length<=big:=by unfold big;lia
 walk_at"g"
 refine o7 hb ?_
 walk_at"g"
 unfold WQ at q
 refine ZM (fun h=>?_) (fun h=>?_)
 ·walk_at"g"
  rw[decide_eq_false (show ¬ 1<=z.length by lia)]at q
  exact fin_same q
 rw[decide_eq_true (show 1<=z.length by lia)]at q
 walk_at"g"
 refine o7 hb ?_
 walk_at"g"
 refine ZM (fun h=>?_) (fun h=>?_)
 ·walk_at"g"
  rw[decide_eq_false (show ¬ z.length<=8 by lia)]at q
  exact fin_same q
 rw[decide_eq_true (show z.length<=8 by lia)]at q
 walk_at"g"
 refine V2 (fun _=>true) (sH fun c=>decide (c∈abc)) True.intro (by rw[zoO];exact hb) (fun i d ys hd hw=>?_) ?_
 ·obtain⟨c,_,rfl⟩:=zpU hd
  walk_at"g"
  rw[zuO]
  exact V1 hd hw rfl rfl
 rw[filter_true,zpx]
 walk_at"g"
 refine Li Lst.at0 rfl ?_
 refine Yg rfl ?_
 rw[U6]
 exact q
def J9:ZV:=fun ds S Q=>∃ (x:D) (zs:List Str),ds=[x]/\Lst S x (zs.map D.str)/\zs.length<=100/\(∀ z∈zs,WQ z=true)/\zs.Nodup/\Q .non S
abbrev pZ:DS :=
    (zA (ZC (Wb (dT (dB R5 (zf (XS 1 [] (Ze Z2) Xa Wx (dCall Gp Zb)) zF)))) Ve Zt)
 (ZC (dT (Z7 oLt (dB CJ Zb) (dB Y4 Zb))) Ve Zt))
def jK:BodyOk 1 pZ J9:=by
 rintro ds S Q ⟨x,zs,rfl,hx,hl,hn,nd,q⟩
 unfold pZ
 walk_at"g"
 refine V2 (fun _=>true) (nC fun z=>.bl (WQ z)) hx (by rw[qc];unfold big;lia) (fun i d ys hd hw=>?_) ?_
 ·obtain⟨z,hz,rfl⟩:=zts hd
  walk_at"g"
  refine⟨z,rfl,by have:=(IK.mp (hn z (qe hz))).2.1;lia,?_⟩
  exact V1 hd hw rfl rfl
 rw[filter_true,zub,show zs.map (fun z=>D.bl (WQ z))=(zs.map WQ).map D.bl by rw[WY];rfl]
 walk_at"g"
 refine Li (b:=true) Lst.at0 (by rw[U6,qY];exact hn) ?_
 walk_at"g"
 refine zuD (zs:=zs) hx.old (by lia) ?_
 rw[zoo nd]
 have hx1:Lst (S++[Cell.lst ((zs.map WQ).map D.bl)]) x (zs.map D.str):=hx.old
 walk_at"g"
 rw[qc,decide_eq_false (show ¬ ((zs.length:Int)<zs.length) by lia)]
 walk_at"g"
 exact Yg rfl q
def Qu:ZV:=fun ds S Q=>∃ (a b:Int×Int),ds=[p2 a,p2 b]/\YM a.1 b.2/\YM b.1 a.2/\Q (.bl (flt a b)) S
abbrev mz:DS :=
  (zV (Z7 oLt (Z7 Yw X4 T8) (Z7 Yw Vw W7)))
def zus:BodyOk 2 mz Qu:=by
 rintro ds S Q ⟨a,b,rfl,c1,c2,q⟩
 unfold mz
 walk_at"g"
 exact fin_same q
def Mg:ZV:=fun ds S Q=>∃ (g:D) (cs:List (Int×Int)) (p:Int×Int),ds=[g,p2 p]/\Wc S g cs/\Ws cs/\Bd 1000 p.1/\Bd 1000 p.2/\Q (.bl (decide (Oo cs*p.2<=p.1)&&decide (p.1<=QL cs*p.2))) S
abbrev Az:DS :=
    (zA (zH (dTup (zf (Z7 ZX (Z7 ZX (Yn "corners" Z2) Zw) Zw) (zf ZK zF))) Yu)
 (zA (zH (dTup (zf (Z7 ZX (Z7 ZX (Yn "corners" Z2) (Yp Yo ZK)) Zw) (zf ZK zF))) Y9)
 (zV (Nf (Np (dCall Qu (zf Z1 YK))) (Np (dCall Qu (zf ZP Yk)))))))
def jl:BodyOk 4 Az Mg:=by
 rintro ds S Q ⟨g,cs,p,rfl,⟨n,l,rfl,hn,hl⟩,gr,b1,b2,q⟩
 unfold Az
 have g1:=gr.two
 obtain⟨a,ha,ea⟩:=jc gr
 obtain⟨z,hz,ez⟩:=zqm gr
 have aa:Y7 (cs.map p2) 0=some (p2 a):=Ub (i:=0) (by rw[qj,ha];rfl)
 have az:Y7 (cs.map p2) (-1)=some (p2 z):=by
  have hne:cs≠[]:=fun e=>by rw[e]at g1;simp at g1
  have en:cs=cs.dropLast++[z]:=by
   have h2:=G6 hne
   have h3:cs.getLast hne=z:=by
    rw[List.getLast_eq_getElem]
    have hl':=zU hz
    rw[qb hl']at hz
    cases hz;rfl
   rw[h3]at h2
   exact h2.symm
  rw[en,qA];exact HJ
 obtain⟨ba,_⟩:=gr.bd a (qe ha)
 obtain⟨bz,_⟩:=gr.bd z (qe hz)
 rw[ea,ez]at q
 have e1:flt p (a.1,1)=decide (p.1<a.1*p.2):=by unfold flt;dsimp only;rw[Wq]
 have e2:flt (z.1,1) p=decide (z.1*p.2<p.1):=by unfold flt;dsimp only;rw[Wq]
 have c1:YM a.1 p.2:=.inl ⟨ba.mono (by decide),b2.mono (by decide)⟩
 have c2:YM z.1 p.2:=.inl ⟨bz.mono (by decide),b2.mono (by decide)⟩
 have c3:∀ u:Int,YM u 1:=fun u=>.inr (.inr (by decide))
 walk_at"g"
 refine⟨p,(a.1,1),rfl,c3 _,c1,?_⟩
 rw[e1]
 walk_at"g"
 refine Pj (fun g=>?_) (fun g=>?_)
 ·walk_at"g"
  refine⟨(z.1,1),p,rfl,c2,c3 _,?_⟩
  rw[e2]
  walk_at"g"
  rw[decide_eq_true (show a.1*p.2<=p.1 by lia),Bool.true_and]at q
  rw[show(!decide (z.1*p.2<p.1))=decide (p.1<=z.1*p.2) by rw[<- decide_not];exact decide_eq_decide.mpr (by lia)]
  exact fin_same q
 ·rw[decide_eq_false (show ¬ a.1*p.2<=p.1 by lia),Bool.false_and]at q
  exact fin_same q
def HY:ZV:=fun ds S Q=>∃ (t b:Int),ds=[.int t,.int b]/\Q (.int ((Int.gcd t b:Nat):Int)) S
abbrev lC:DS :=
    (zA (Q5 (dT (Z7 U9 Z1 Zw)) (zA (zH (Z7 oMod Z2 Z1) Yu)
 (zA (zH Z1 Xa)
 (zH ZQ V7))))
 (zV (dB Gd Zb)))
def fX:BodyOk 3 lC HY:=by
 rintro ds S Q ⟨t,b,rfl,q⟩
 unfold lC
 refine Dp.Fe ?_
 refine Eu (fun m Z S'=>S'=S/\∃ (x y:Int) (w:Option D),Z=[some (.int x),some (.int y),w]/\m=y.natAbs/\Int.gcd x y=Int.gcd t b) b.natAbs ⟨rfl,_,_,none,rfl,rfl,rfl⟩ ?_
 rintro m Z S' ⟨rfl,x,y,w,rfl,rfl,e⟩
 walk_at"g"
 refine Pj (fun h0=>?_) (fun h0=>?_)
 ·refine yt ?_
  refine Dp.Fe ?_
  refine Dp.uw ?_
  refine Dp.Ja ?_
  refine Dp.Qk rfl ?_
  refine Dp.Qk rfl ?_
  refine zvP h0 ?_
  walk_at"g"
  exact⟨_,zmm h0,rfl,_,_,_,rfl,rfl,(zrd x y).trans e⟩
 ·subst h0
  rw[Int.gcd_zero]at e
  walk_at"g"
  rw[<- e]at q
  exact fin_same q
def Gn:ZV:=fun ds S Q=>∃ (t b:Int),ds=[.int t,.int b]/\b≠0/\Bd 8000 b/\Q (p2 (Uh t b,frB t b)) S
abbrev uc:DS :=
    (zA (zH (dCall HY (zf Z2 Yk)) Yu)
 (zA (sJ (ZC (dT (Z7 oLt Z1 Zw)) (zH (Yp Yo ZQ) Yu) Zt))
 (zV (dTup (zf (Z7 oDiv Z2 ZQ) (zf (Z7 oDiv Z1 ZQ) zF))))))
def zmt:BodyOk 3 uc Gn:=by
 rintro ds S Q ⟨t,b,rfl,hb,bb,q⟩
 unfold uc
 have hgn:=yJ (t:=t) (b:=b) hb
 have hgb:=zx6 (t:=t) (b:=b) hb bb
 walk_at"g"
 refine⟨t,b,rfl,?_⟩
 walk_at"g"
 refine Di (fun Z S'=>S'=S/\Z=[some (.int t),some (.int b),some (.int (gd t b))]) ?_ ?_
 ·walk_at"g"
  refine ZM (fun g=>?_) (fun g=>?_)
  ·have hg:gd t b=-((Int.gcd t b:Nat):Int):=if_pos g
   walk_at"g"
   exact⟨rfl,by rw[hg];rfl⟩
  ·have hg:gd t b=((Int.gcd t b:Nat):Int):=if_neg g
   walk_at"g"
   exact⟨rfl,by rw[hg];rfl⟩
 rintro Z S' ⟨rfl,rfl⟩
 refine Dp.yR ?_
 refine Dp.rC ?_
 refine Dp.Gb ?_
 refine Dp.Ja ?_
 refine Dp.Qk rfl ?_
 refine Dp.Qk rfl ?_
 refine mG ⟨hgn,hgb⟩ ?_
 refine Dp.Gb ?_
 refine Dp.Ja ?_
 refine Dp.Qk rfl ?_
 refine Dp.Qk rfl ?_
 refine mG ⟨hgn,hgb⟩ ?_
 walk_at"g"
 exact fin_same q
def Jm:ZV:=fun ds S Q=>∃ (a b p:Int×Int),ds=[p2 a,p2 b,p2 p]/\b.1≠a.1/\0<p.2/\Bd 180 a.1/\Bd 200 a.2/\Bd 180 b.1/\Bd 200 b.2/\Bd 1000 p.1/\Bd 1000 p.2/\∀ c:Int×Int,Sv c (Qq a b p) (Ut a b p)->Int.gcd c.1 c.2=1->Bd 1400 c.1->Bd 1400 c.2->Q (p2 c) S
def zxU {t b:Int}(hb:b≠0):Sv (Uh t b,frB t b) (if 0<b then t else -t) (if 0<b then b else -b):=by
 have h1:=zrk t b
 have h2:=zt5 (t:=t) hb
 refine⟨by show 0<frB t b;lia,?_⟩
 show Uh t b*_=_*frB t b
 split
 ·rw[h1,Vq]
 ·rw[OJ,h1,PB,Vq]
abbrev uL:DS :=
    (zA (zH (Z7 Zo Vw X4) Y9)
 (zA (zH (Z7 Zo T8 W7) YX)
 (zA (zH (Z7 Zz (Z7 Yw (Z7 Yw W7 ZP) Sy) (Z7 Yw ZF (Z7 Zo RQ (Z7 Yw X4 Sy)))) Yc)
 (zV (dCall Gn (zf Zx (zf (Z7 Yw ZP Sy) zF)))))))
def zl8:BodyOk 6 uL Jm:=by
 rintro ds S Q ⟨a,b,p,rfl,hne,hp,b1,b2,b3,b4,b5,b6,q⟩
 unfold uL
 have r1:Bd 181 (b.1-a.1):=Bd.sub b3 b1
 have r2:Bd 201 (b.2-a.2):=Bd.sub b4 b2
 have m1:Bd 381 (a.2*(b.1-a.1)):=Bd.mul b2 r1
 have m2:Bd 1381 (a.2*(b.1-a.1)*p.2):=Bd.mul m1 b6
 have m3:Bd 1180 (a.1*p.2):=Bd.mul b1 b6
 have m4:Bd 1181 (p.1-a.1*p.2):=Bd.sub (b5.mono (by decide)) m3
 have m5:Bd 1382 ((b.2-a.2)*(p.1-a.1*p.2)):=Bd.mul r2 m4
 have m6:Bd 1181 ((b.1-a.1)*p.2):=Bd.mul r1 b6
 have bT:Bd 1400 (a.2*(b.1-a.1)*p.2+(b.2-a.2)*(p.1-a.1*p.2)):=(Bd.add (n:=1382) (m2.mono (by decide)) m5).mono (by decide)
 have c1:YM a.2 (b.1-a.1):=.inl ⟨b2.mono (by decide),r1.mono (by decide)⟩
 have c2:YM (a.2*(b.1-a.1)) p.2:=.inl ⟨m1.mono (by decide),b6.mono (by decide)⟩
 have c3:YM a.1 p.2:=.inl ⟨b1.mono (by decide),b6.mono (by decide)⟩
 have c4:YM (b.2-a.2) (p.1-a.1*p.2):=.inl ⟨r2.mono (by decide),m4.mono (by decide)⟩
 have c5:YM (b.1-a.1) p.2:=.inl ⟨r1.mono (by decide),b6.mono (by decide)⟩
 walk_at"g"
 have hr:(b.1-a.1)*p.2≠0:=Int.mul_ne_zero (by lia) (by lia)
 refine⟨_,_,rfl,hr,m6.mono (by decide),?_⟩
 refine fin_same (q _ ?_ (iB hr) (zuz bT) ((kY m6).mono (by decide)))
 have hs:=zxU (t:=a.2*(b.1-a.1)*p.2+(b.2-a.2)*(p.1-a.1*p.2)) hr
 unfold Qq Ut
 by_cases g:0<b.1-a.1
 ·have:0<(b.1-a.1)*p.2:=Pg g hp
  rw[if_pos this,if_pos this]at hs
  rw[if_pos g,if_pos g];exact hs
 ·have:¬ 0<(b.1-a.1)*p.2:=fun z=>by
   have:=Pg (show 0 < -(b.1-a.1) by lia) hp
   rw[PB]at this
   lia
  rw[if_neg this,if_neg this]at hs
  rw[if_neg g,if_neg g];exact hs
def Hy:WL:=fun ds S Q ex=>∃ (g:D) (cs:List (Int×Int)) (p:Int×Int),ds=[g,p2 p]/\Wc S g cs/\Ws cs/\0<p.2/\Bd 1000 p.1/\Bd 1000 p.2/\(¬ Ny cs p->ex "OffGround" S)/\(Ny cs p->∀ a b c:Int×Int,QS cs p=some (a,b)->Sv c (Qq a b p) (Ut a b p)->0<Ut a b p->Int.gcd c.1 c.2=1->Bd 1400 c.1->Bd 1400 c.2->Q (p2 c) S)
abbrev Am (ex : XR) : DS :=
    (zA (ZC (Wb (dT (dCall Mg (zf Z2 Yk)))) (M6 ex "OffGround") Zt)
 (zA (zH (Yn "corners" Z2) Yu)
 (zA (zH ZK Y9)
 (zA (Q5 (dT (dCall Qu (zf (dTup (zf (Z7 ZX (Z7 ZX ZQ ZP) Zw) (zf ZK zF))) Yk))) (Cv 3 ZK))
 (zV (dCall Jm (zf (Z7 ZX ZQ (Z7 Zo ZP ZK)) (zf (Z7 ZX ZQ ZP) Yk))))))))
def zl7:T6 4 Am Hy:=by
 rintro ds S Q ex ⟨g,cs,p,rfl,hg,gr,hp,b1,b2,hx,q⟩
 unfold Am
 obtain⟨n,l,rfl,hn,hl⟩:=id hg
 walk_at"g"
 refine⟨_,cs,p,rfl,hg,gr,b1,b2,?_⟩
 by_cases on:Ny cs p
 case neg =>
  have e:(decide (Oo cs*p.2<=p.1)&&decide (p.1<=QL cs*p.2))=false:=Bool.eq_false_iff.mpr fun z=>on (by rw[qG,decide_eq_true_eq,decide_eq_true_eq]at z;exact z)
  rw[e]
  walk_at"g"
  exact hx on
 have q:=q on
 obtain⟨kk,a,b,ha,hb,hle,hlt⟩:=xM gr.two on.2
 have seg:=seg_at ha hb hle hlt
 have hk:=zU hb
 rw[decide_eq_true on.1,decide_eq_true on.2,show(true&&true)=true from rfl]
 walk_at"g"
 refine Eu (fun m Z S'=>S'=S/\∃ j:Nat,Z=[some (.ref n),some (p2 p),some (.ref l),some (.int ((j:Int)+1))]/\m=kk-j/\j<=kk) kk ⟨rfl,0,rfl,rfl,by lia⟩ ?_
 rintro m Z S' ⟨rfl,j,rfl,rfl,hj⟩
 obtain⟨c,hc,ac⟩:=Hw (cs:=cs) (k:=(j:Int)+1) (by lia) (by lia)
 have hc':cs[j+1]?=some c:=by rwa[show((j:Int)+1).toNat=j+1 by lia]at hc
 obtain⟨bc,bc2⟩:=gr.bd c (qe hc)
 have e1:flt (c.1,1) p=decide (c.1*p.2<p.1):=by unfold flt;dsimp only;rw[Wq]
 walk_at"g"
 refine⟨(c.1,1),p,rfl,.inl ⟨bc.mono (by decide),b2.mono (by decide)⟩,.inr (.inr (show(1:Int).natAbs<2 ^ 64 by decide)),?_⟩
 rw[e1]
 walk_at"g"
 refine ZM (fun h=>?_) (fun h=>?_)
 ·walk_at"g"
  have hjk:j<kk:=by
   rcases qP j kk with z|z
   ·exact z
   ·have:j=kk:=by lia
    subst this
    rw[hb]at hc'
    cases hc'
    lia
  exact⟨kk-(j+1),by lia,rfl,j+1,by simp,rfl,by lia⟩
 ·have hjk:j=kk:=by
   rcases qP j kk with z|z
   ·have:=hlt (j+1) c (by lia) (by lia) hc'
    lia
   ·lia
  subst hjk
  rw[hb]at hc'
  cases hc'
  have aa:Y7 (cs.map p2) ((j:Int)+1-1)=some (p2 a):=by
   rw[show(j:Int)+1-1=(j:Int) by lia]
   exact Ub (by rw[qj,ha];rfl)
  obtain⟨ba1,ba2⟩:=gr.bd a (qe ha)
  have hab:=mU gr (show j<j+1 by lia) ha hb
  walk_at"g"
  refine⟨a,b,p,rfl,by lia,hp,ba1.mono (by decide),ba2.mono (by decide),bc.mono (by decide),bc2.mono (by decide),b1,b2,fun c hs hg d1 d2=>?_⟩
  exact fin_same (q a b c seg hs (ztN (by lia) hp) hg d1 d2)
def KR:ZV:=fun ds S Q=>∃ (g:D) (cs:List (Int×Int)) (s:Int×Int),ds=[g,p2 s]/\Wc S g cs/\Ws cs/\Bd 180 s.1/\Bd 200 s.2/\∀ b:Bool,(b=true↔Wu cs s)->Q (.bl b) S
abbrev xX:DS :=
    (zA (zH (dTup (zf Vw (zf ZK zF))) Yu)
 (zA (ZC (Wb (dT (dCall Mg (zf Z2 YK)))) (zV (dC (.bl false))) Zt)
 (zV (Np (dCall Qu (zf (dTup (zf T8 (zf ZK zF))) (zf (WT Hy xF (zf Z2 YK)) zF)))))))
def zqi:BodyOk 3 xX KR:=by
 rintro ds S Q ⟨g,cs,s,rfl,hg,gr,b1,b2,q⟩
 unfold xX
 have bo:Bd 1000 (1:Int):=Bd.lit (by decide) (by decide)
 walk_at"g"
 refine⟨g,cs,(s.1,1),rfl,hg,gr,b1.mono (by decide),bo,?_⟩
 by_cases on:Ny cs (s.1,1)
 case neg =>
  have e:(decide (Oo cs*(s.1,(1:Int)).2<=(s.1,(1:Int)).1)&&decide ((s.1,(1:Int)).1<=QL cs*(s.1,(1:Int)).2))=false:=Bool.eq_false_iff.mpr fun z=>on (by rw[qG,decide_eq_true_eq,decide_eq_true_eq]at z;exact z)
  rw[e]
  walk_at"g"
  exact fin_same (q false ⟨fun z=>(by cases z),fun z=>absurd z.1 on⟩)
 rw[decide_eq_true on.1,decide_eq_true on.2,show(true&&true)=true from rfl]
 walk_at"g"
 refine⟨g,cs,(s.1,1),rfl,hg,gr,(show(0:Int)<1 by decide),b1.mono (by decide),bo,fun off=>absurd on off,fun _ a b c seg sv hb hgcd d1 d2=>?_⟩
 walk_at"g"
 refine⟨(s.2,1),c,rfl,.inl ⟨b2.mono (by decide),d2.mono (by decide)⟩,.inr (.inr (show(1:Int).natAbs<2 ^ 64 by decide)),?_⟩
 rw[zwb (t:=s.2) (b:=1) (by decide) hb ⟨(show(0:Int)<1 by decide),rfl⟩ sv]
 walk_at"g"
 refine fin_same (q _ ?_)
 rw[Bool.not_eq_true',decide_eq_false_iff_not]
 constructor
 ·intro h
  refine⟨on,fun a' b' seg'=>?_⟩
  rw[seg]at seg';cases seg';lia
 ·intro h
  have:=h.2 a b seg
  lia
def Hj:ZV:=fun ds S Q=>∃ (g y:D) (cs:List (Int×Int)) (bs:List (Str×(Int×Int))),ds=[g,y]/\Wc S g cs/\Ws cs/\Lst S y (bs.map X6)/\bs.length<=100/\(∀ b∈bs,Wu cs b.2/\Bd 180 b.2.1/\Bd 200 b.2.2)/\Q .non S
abbrev Ax:DS :=
  (ZC (Wb (dT (dB R5 (zf (XS 3 [0] (Ze Z1) (XF 3 (Zn Xa (Zn V7 (Zn Yu X3)))) Wx (dCall KR (zf ZP (zf (dTup (zf Z1 YK)) zF)))) zF)))) Ve Zt)
def zgU:BodyOk 2 Ax Hj:=by
 rintro ds S Q ⟨g,y,cs,bs,rfl,hg,gr,hy,hl,hb,q⟩
 unfold Ax
 walk_at"g"
 refine V2 (fun _=>true) (N6 fun _=>.bl true) hy (by rw[qc];unfold big;lia) (fun i d ys hd hw=>?_) ?_
 ·obtain⟨b,hbi,rfl⟩:=Ov hd
  obtain⟨s1,s2,s3⟩:=hb b (qe hbi)
  walk_at"g"
  refine⟨g,cs,b.2,rfl,hg,gr,s2,s3,fun r hr=>?_⟩
  rw[hr.mpr s1]
  exact V1 hd hw rfl rfl
 rw[filter_true,LK,show bs.map (fun _=>D.bl true)=(bs.map fun _=>true).map D.bl by rw[WY];rfl]
 walk_at"g"
 refine Li (b:=true) Lst.at0 (by rw[U6,qY];intro _ _;rfl) ?_
 walk_at"g"
 exact Yg rfl q
def G7:ZV:=fun ds S Q=>∃ i:Int,ds=[.int i]/\Q (.bl true) S
abbrev Ab:DS :=
  (zV (Nf (dB T4 (zf Z2 (zf (dC (.ty "int")) zF))) (Np (dB T4 (zf Z2 (zf (dC (.ty "bool")) zF))))))
def zms:BodyOk 1 Ab G7:=by
 rintro ds S Q ⟨i,rfl,q⟩
 unfold Ab
 walk_at"g"
 exact fin_same q
def JN:ZV:=fun ds S Q=>∃ F:Fg,ds=[X5 F]/\F.x0<=F.x1/\F.z0<=F.z1/\F.f<=F.l/\Q (.bl true) S
abbrev rO:DS :=
    (zA (ZC (TJ (Wb (dT (dB T4 (zf Z2 (zf (dC (.ty "tuple")) zF))))) (dT (Z7 U9 (dB Y4 Zb) Dw))) (zV (dC (.bl false))) Zt)
 (zA (ZC (Wb (dT (dB R5 (zf (XS 1 [] (Ze Z2) Xa Wx (dCall G7 Zb)) zF)))) (zV (dC (.bl false))) Zt)
 (zV (Nf (Z7 oLe X4 W7) (Nf (Z7 oLe R4 Oj) (Z7 oLe Jy vQ))))))
def zpa:BodyOk 1 rO JN:=by
 rintro ds S Q ⟨F,rfl,h1,h2,h3,q⟩
 unfold rO
 walk_at"g"
 rw[show(!decide ((([D.int F.x0,D.int F.x1,D.int F.z0,D.int F.z1,D.int F.f,D.int F.l,D.int F.g,D.int F.s]:List D).length:Int)=8))=false by rfl]
 walk_at"g"
 refine V2 (fun _=>true) (fun _=>.bl true) True.intro (by show 8<=big;unfold big;decide) (fun i d ys hd hw=>?_) ?_
 ·obtain⟨z,_,rfl⟩:=Qn (zs:=[F.x0,F.x1,F.z0,F.z1,F.f,F.l,F.g,F.s]) hd
  walk_at"g"
  refine⟨z,rfl,?_⟩
  exact V1 hd hw rfl rfl
 walk_at"g"
 refine Li (bs:=List.replicate 8 true) (b:=true) Lst.at0 rfl ?_
 walk_at"g"
 rw[decide_eq_true h1]
 walk_at"g"
 rw[decide_eq_true h2]
 walk_at"g"
 rw[decide_eq_true h3]
 exact Yg rfl q
def zuQ {α:Type}(xs:List α)(f:α->D):(xs.map f).map (fun _=>D.bl true)=(xs.map fun _=>true).map D.bl:=by rw[WY,WY];rfl
def Jl:ZV:=fun ds S Q=>∃ (z:D) (fs:List Fg),ds=[z]/\Lst S z (fs.map X5)/\fs.length<=100/\(∀ F∈fs,Gi F)/\Q .non S
abbrev vm:DS :=
  (ZC (Wb (dT (dB R5 (zf (XS 1 [] (Ze Z2) Xa Wx (dCall JN Zb)) zF)))) Ve Zt)
def zgT:BodyOk 1 vm Jl:=by
 rintro ds S Q ⟨z,fs,rfl,hz,hl,hf,q⟩
 unfold vm
 walk_at"g"
 refine V2 (fun _=>true) (fun _=>.bl true) hz (by rw[qc];unfold big;lia) (fun i d ys hd hw=>?_) ?_
 ·obtain⟨F,hF,rfl⟩:=mR hd
  have k:=hf F (qe hF)
  walk_at"g"
  refine⟨F,rfl,k.b.x,k.b.z,k.o,?_⟩
  exact V1 hd hw rfl rfl
 rw[filter_true,zuQ]
 walk_at"g"
 refine Li (b:=true) Lst.at0 (by rw[U6,qY];intro _ _;rfl) ?_
 walk_at"g"
 exact Yg rfl q
def GQ:ZV:=fun ds S Q=>∃ (hz:Option Int) (a b d:Int),ds=[WD hz,.int a,.int b,.int d]/\a<=b/\0<=d/\(∀ z,hz=some z->0<=z)/\Q .non S
abbrev vB:DS :=
    (zA (ZC (dT (Z7 Xm Z1 ZQ)) Ve Zt)
 (zA (ZC (dT (Z7 oLt ZP Zw)) Ve Zt)
 (ZC (S9 (dT (Z7 RW Z2 (dC .non))) (dT (Z7 oLt Z2 Zw))) Ve Zt)))
def fL:BodyOk 4 vB GQ:=by
 rintro ds S Q ⟨hz,a,b,d,rfl,hab,hd,hh,q⟩
 unfold vB
 walk_at"g"
 rw[decide_eq_false (show ¬ b<a by lia)]
 walk_at"g"
 rw[decide_eq_false (show ¬ d<0 by lia)]
 cases hz with
 |none =>
  walk_at"g"
  exact fin_same q
 |some z =>
  have:=hh z rfl
  unfold WD
  walk_at"g"
  rw[decide_eq_false (show ¬ z<0 by lia)]
  walk_at"g"
  exact fin_same q
def Cp:ZV:=fun ds S Q=>∃ (S0:Z5) (g y z:D) (V:Vl),ds=[.ref S0.length,g,y,z,WD V.hz,.int V.h0,.int V.h1,.int V.dl]/\S=S0++[.ins "Valley" []]/\Wc S0 g V.cs/\Lst S0 y (V.bs.map X6)/\Lst S0 z (V.fs.map X5)/\Yy V/\∀ T,Yj (S0++T) (.ref S0.length) V->Q .non (S0++T)
abbrev Km:DS :=
    (zA (Zk (dCall Jc (zf ZQ YD)))
 (zA (Zk (dCall J9 (zf (XS 1 [] (Ze ZQ) Xa Wx X4) zF)))
 (zA (Zk (dCall Hj (zf Z1 YK)))
 (zA (Zk (dCall Jl YD))
 (zA (Zk (dCall GQ (zf ZF (zf Zx (zf Ys Ge)))))
 (zA (TY "Valley" "ground" Z2 (dCall Hh (zf (Yn "corners" Z1) zF)))
 (zA (TY "Valley" "beacons" Z2 (dB Nk YK))
 (zA (TY "Valley" "fogs" Z2 (dB Nk YD))
 (zA (TY "Valley" "haze" Z2 ZF)
 (zA (TY "Valley" "first" Z2 Zx)
 (zA (TY "Valley" "last" Z2 Ys)
 (TY "Valley" "delay" Z2 Xq))))))))))))
def zjx:BodyOk 8 Km Cp:=by
 rintro ds S Q ⟨S0,g,y,z,V,rfl,rfl,hg,hy,hz,ok,q⟩
 unfold Km
 obtain⟨Sa,hSa⟩:∃ Sa:Z5,Sa=S0++[.ins "Valley" []]:=⟨_,rfl⟩
 have hya:Lst Sa y (V.bs.map X6):=hSa▸hy.old
 have hza:Lst Sa z (V.fs.map X5):=hSa▸hz.old
 rw[<- hSa]
 walk_at"g"
 refine⟨y,z,_,_,rfl,hya,hza,by rw[qc];exact ok.b1,by rw[qc];exact ok.b12,by rw[qc];exact ok.f12,?_⟩
 walk_at"g"
 have b12:=ok.b12
 have f12:=ok.f12
 refine V2 (fun _=>true) (N6 fun b=>.str b.1) hya (by rw[qc];unfold big;lia) (fun i d ys hd hw=>?_) ?_
 ·obtain⟨b,_,rfl⟩:=Ov hd
  walk_at"g"
  exact V1 hd hw rfl rfl
 rw[filter_true,LK,show V.bs.map (fun b=>D.str b.1)=(V.bs.map (·.1)).map D.str by rw[WY];rfl,hSa]
 walk_at"g"
 refine⟨_,V.bs.map (·.1),rfl,Lst.at rfl,by rw[qc];lia,fun n hn=>?_,ok.nd,?_⟩
 ·obtain⟨b,hb,rfl⟩:=qT.mp hn
  exact ok.nm b hb
 walk_at"g"
 generalize (V.bs.map (·.1)).map D.str=nms
 refine⟨g,y,V.cs,V.bs,rfl,hg.old,ok.gr,hy.old,by lia,fun b hb=>⟨ok.st b hb,ok.bd b hb⟩,?_⟩
 walk_at"g"
 refine⟨z,V.fs,rfl,hz.old,by lia,ok.fg,?_⟩
 walk_at"g"
 refine⟨V.hz,_,_,_,rfl,ok.hh,ok.dl,ok.hz,?_⟩
 obtain⟨gn,gl,rfl,hgn,hgl⟩:=hg
 have hgn1:(S0++[.ins "Valley" [],.lst nms])[gn]?=some (.ins "Ground" [("corners",.ref gl)]):=YF hgn
 walk_at"g"
 refine⟨_,_,V.cs,rfl,rfl,.inr ⟨gl,rfl,YF hgl⟩,ok.gr,⟨rfl,?_⟩⟩
 rw[qm,show(S0++[Cell.ins "Valley" [],.lst nms]).length=S0.length+2 by simp,show([Cell.ins "Valley" [],.lst nms]:Z5)++[.ins "Ground" [("corners",.ref (S0.length+2+1))],.lst (V.cs.map p2)]=[.ins "Valley" [],.lst nms,.ins "Ground" [("corners",.ref (S0.length+3))],.lst (V.cs.map p2)]from rfl]
 walk_at"g"
 refine⟨S0.length,[],rfl,YC,by decide,?_⟩
 rw[Wa,zrr]
 have hy2:∀ T,Lst (S0++T) y (V.bs.map X6):=fun T=>hy.old
 have hz2:∀ T,Lst (S0++T) z (V.fs.map X5):=fun T=>hz.old
 walk_at"g"
 refine⟨S0.length,_,rfl,YC,by simp,?_⟩
 rw[Wa,vp2]
 walk_at"g"
 refine⟨S0.length,_,rfl,YC,by simp,?_⟩
 rw[Wa,vp3]
 walk_at"g"
 refine⟨S0.length,_,rfl,YC,by simp,?_⟩
 rw[Wa,vp4]
 walk_at"g"
 refine⟨S0.length,_,rfl,YC,by simp,?_⟩
 rw[Wa,vp5]
 walk_at"g"
 refine⟨S0.length,_,rfl,YC,by simp,?_⟩
 rw[Wa,vp6]
 walk_at"g"
 refine⟨S0.length,_,rfl,YC,by simp,?_⟩
 rw[Wa,vp7]
 refine fin_same (q _ ⟨S0.length,_,_,_,rfl,YC,⟨_,_,rfl,(Wz _ _ 2).trans rfl,(Wz _ _ 3).trans rfl⟩,(Wz _ _ 4).trans rfl,(Wz _ _ 5).trans rfl⟩)
def Df:ZV:=Bt "Valley" Cp
def Kh:ZV:=fun ds S Q=>∃ (x y z:D) (V:Vl),ds=[Mv x y z V]/\Qf S x y z V/\Yy V/\∀ (T:Z5) (v:D),Yj (S++T) v V->Q v (S++T)
abbrev uR:DS :=
    (zA (zH Z2 (XF 7 (Zn V7 (Zn Yu (Zn Y9 (Zn YX (Zn Yc (Zn VL (Zn Ui X3)))))))))
 (zV (dCall Df (zf (dCall Hh Yk) (zf ZQ (zf ZP (zf ZF (zf Zx (zf Ys Ge)))))))))
def kI:BodyOk 8 uR Kh:=by
 rintro ds S Q ⟨x,y,z,V,rfl,hs,ok,q⟩
 unfold uR
 obtain⟨kx,ky,kz⟩:=hs
 walk_at"g"
 refine⟨S,_,V.cs,rfl,rfl,kx,ok.gr,⟨rfl,?_⟩⟩
 obtain⟨Sb,hSb⟩:∃ Sb:Z5,Sb=S++[.ins "Ground" [("corners",.ref (S.length+1))],.lst (V.cs.map p2)]:=⟨_,rfl⟩
 have hg:Wc Sb (.ref S.length) V.cs:=hSb▸⟨_,_,rfl,YC,(Wz _ _ 1).trans rfl⟩
 have e1:∃ T,Sb=S++T:=⟨_,hSb⟩
 have ky1:Lst Sb y (V.bs.map X6):=by obtain⟨T,rfl⟩:=e1;exact ky.old
 have kz1:Lst Sb z (V.fs.map X5):=by obtain⟨T,rfl⟩:=e1;exact kz.old
 rw[<- hSb]
 clear hSb
 walk_at"g"
 refine⟨Sb,_,_,_,V,rfl,rfl,hg,ky1,kz1,ok,fun T hv=>⟨rfl,?_⟩⟩
 obtain⟨T1,rfl⟩:=e1
 refine fin_same ?_
 rw[qm]at hv ⊢
 exact q _ _ hv
def Sw:ZV:=fun ds S Q=>∃ (v:D) (V:Vl),ds=[v]/\Yj S v V/\V.bs.length<=100/\New Q S ((V.bs.map (·.1)).map D.str)
abbrev sO:DS :=
  (zV (XS 1 [] (Ze (Yn "beacons" Z2)) Xa Wx X4))
def zmz:BodyOk 1 sO Sw:=by
 rintro ds S Q ⟨v,V,rfl,hv,hl,q⟩
 unfold sO
 obtain⟨m,g,b',f,rfl,hm,hg,hb,_⟩:=hv
 walk_at"g"
 refine V2 (fun _=>true) (N6 fun b=>.str b.1) (Lst.here hb) (by rw[qc];unfold big;lia) (fun i d ys hd hw=>?_) ?_
 ·obtain⟨b,_,rfl⟩:=Ov hd
  walk_at"g"
  exact V1 hd hw rfl rfl
 rw[filter_true,LK,show V.bs.map (fun b=>D.str b.1)=(V.bs.map (·.1)).map D.str by rw[WY];rfl]
 exact fin_same q
def Ms:WL:=fun ds S Q ex=>∃ (v:D) (V:Vl) (n:Str),ds=[v,.str n]/\Yj S v V/\Yy V/\fl 20 (.str n)=true/\((∀ b∈V.bs,b.1≠n)->ex "NoBeacon" S)/\∀ s,(n,s)∈V.bs->Q (p2 s) S
abbrev rE (ex : XR) : DS :=
    (zA (Yx (Ze (Yn "beacons" Z2)) Yu (ZC (dT (Z7 oEq RQ Z1)) (zV (dTup (zf Sy (zf jV zF)))) Zt))
 (M6 ex "NoBeacon"))
def zot:T6 3 rE Ms:=by
 rintro ds S Q ex ⟨v,V,n,rfl,hv,ok,hn,hx,q⟩
 unfold rE
 obtain⟨m,g,b',f,rfl,hm,hg,hb,_⟩:=hv
 walk_at"g"
 refine Yr (fun i Z S'=>S'=S/\(∃ w,Z=[some (.ref m),some (.str n),w])/\∀ b∈V.bs.take i,b.1≠n) ⟨rfl,⟨none,rfl⟩,by simp⟩ (fun i Z S' h=>h.1▸Lst.here hb) ?_ ?_
 ·rintro i d Z S' hd ⟨rfl,⟨w,rfl⟩,hno⟩
  obtain⟨b,hbi,rfl⟩:=Ov hd
  have mb:=qe hbi
  walk_at"g"
  refine mj (Nz (ok.nm b mb) 20) hn ?_
  walk_at"g"
  refine ZM (fun h=>?_) (fun h=>?_)
  ·walk_at"g"
   exact fin_same (q b.2 (by rw[<- h];exact mb))
  ·walk_at"g"
   refine⟨rfl,⟨_,rfl⟩,fun c hc=>?_⟩
   rw[Wm hbi]at hc
   rcases qI.mp hc with hc|hc
   ·exact hno c hc
   ·have:c=b:=by simpa using hc
    subst this;exact h
 ·rintro Z S' ⟨rfl,⟨w,rfl⟩,hno⟩
  rw[qc,Ss]at hno
  walk_at"g"
  exact hx hno
def Lf:WL:=fun ds S Q ex=>∃ (g:D) (cs:List (Int×Int)) (s:Int×Int),ds=[g,p2 s]/\Wc S g cs/\Ws cs/\Bd 180 s.1/\Bd 200 s.2/\(¬ Wu cs s->ex "OffGround" S)/\(Wu cs s->Q .non S)
abbrev nP (ex:XR):DS :=
  (ZC (Wb (dT (dCall KR (zf Z2 Yk)))) (M6 ex "OffGround") Zt)
def zfg:T6 2 nP Lf:=by
 rintro ds S Q ex ⟨g,cs,s,rfl,hg,gr,b1,b2,hx,q⟩
 unfold nP
 walk_at"g"
 refine⟨g,cs,s,rfl,hg,gr,b1,b2,fun b hb=>?_⟩
 cases b with
 | true=>walk_at"g";exact fin_same (q (hb.mp rfl))
 | false=>walk_at"g";exact hx fun z=>(by have:=hb.mpr z;cases this)
def Ht:ZV:=fun ds S Q=>∃ (g:D) (cs:List (Int×Int)) (x y:Int),ds=[g,.int x,.int y]/\Wc S g cs/\cs.length<=40/\New Q S ((V8 cs x y cs.length).map D.int)
abbrev oG:DS :=
    (zA (zH (dB Ud (zf Z1 YK)) Y9)
 (zA (zH (dB V6 (zf Z1 YK)) YX)
 (zV (XS 2 [3,4] (Oe (zf (Yn "corners" Z2) zF)) (XF 2 (Zn Xa (Zn V7 X3))) (dT (JW oLt oLt ZQ Vw ZP)) Z2))))
def zgr:BodyOk 5 oG Ht:=by
 rintro ds S Q ⟨g,cs,x,y,rfl,⟨n,l,rfl,hn,hl⟩,h40,q⟩
 unfold oG
 walk_at"g"
 refine Gy (xs:=cs.map p2) (Lst.here hl) ?_
 refine⟨by rw[Te,qc];unfold big;lia,fun i ys S'=>S'=S/\ys=(V8 cs x y i).map D.int,⟨rfl,rfl⟩,fun i ys S' zq3=>by obtain⟨e,_⟩:=zq3;exact e▸Lst.here hl,?_,?_⟩
 ·rintro i d ys S' hd ⟨rfl,rfl⟩
  obtain⟨u,hu,rfl⟩:=Qg hd
  obtain⟨c,hc,rfl⟩:=R3 hu
  have e0:((0+i:Nat):Int)=(i:Int):=by lia
  have eg:cs.getD i (0,0)=c:=by rw[qE,hc];rfl
  rw[e0]
  walk_at"g"
  refine ZM (fun g1=>?_) (fun g1=>?_)
  ·walk_at"g"
   refine ZM (fun g2=>?_) (fun g2=>?_)
   ·walk_at"g"
    exact⟨rfl,(zxq (by unfold Pb;rw[eg,decide_eq_true g1,decide_eq_true g2];rfl)).symm⟩
   ·walk_at"g"
    exact⟨rfl,by rw[Ba (by unfold Pb;rw[eg,decide_eq_false g2,Bool.and_false])]⟩
  ·walk_at"g"
   exact⟨rfl,by rw[Ba (by unfold Pb;rw[eg,decide_eq_false g1,Bool.false_and])]⟩
 ·rintro ys S' ⟨rfl,rfl⟩
  rw[Te,qc]
  exact fin_same q
def GD:ZV:=fun ds S Q=>∃ (a b c:Int×Int),ds=[p2 a,p2 b,p2 c]/\YM (c.2-a.2) (b.1-a.1)/\YM (c.1-a.1) (b.2-a.2)/\Q (.int (Et a b c)) S
abbrev mF:DS :=
    (zA (zH (Z7 Zo Vw X4) Y9)
 (zA (zH (Z7 Zo T8 W7) YX)
 (zA (zH (Z7 Zo (Z7 Yw (Z7 Zo Sy W7) ZP) (Z7 Yw (Z7 Zo RQ X4) ZF)) Yc)
 (zA (sJ (ZC (dT (Z7 oLt ZP Zw)) (zH (Yp Yo Zx) Yc) Zt))
 (zA (ZC (dT (Z7 Xm Zx Zw)) (zV ZK) Zt)
 (zA (ZC (dT (Z7 oLt Zx Zw)) (zV (Yp Yo ZK)) Zt)
 (zV Zw)))))))
def zoq:BodyOk 6 mF GD:=by
 rintro ds S Q ⟨a,b,c,rfl,c1,c2,q⟩
 unfold mF
 walk_at"g"
 unfold Et at q
 have key:∀ o:Int,o=(if b.1-a.1<0 then -Uc a b c else Uc a b c)->(if 0<o then Q (.int 1) S else if o<0 then Q (.int (-1)) S else Q (.int 0) S):=fun o e=>by
  rw[<- e]at q
  by_cases h:0<o
  ·rw[if_pos h]at q ⊢;exact q
  ·rw[if_neg h]at q ⊢
   by_cases h2:o<0
   ·rw[if_pos h2]at q ⊢;exact q
   ·rw[if_neg h2]at q ⊢;exact q
 refine Di (fun Z S'=>S'=S/\Z=[some (p2 a),some (p2 b),some (p2 c),some (.int (b.1-a.1)),some (.int (b.2-a.2)),some (.int (if b.1-a.1<0 then -Uc a b c else Uc a b c))]) ?_ ?_
 ·walk_at"g"
  refine ZM (fun g=>?_) (fun g=>?_)
  ·walk_at"g"
   exact⟨rfl,by rw[if_pos g];rfl⟩
  ·walk_at"g"
   exact⟨rfl,by rw[if_neg g];rfl⟩
 rintro Z S' ⟨rfl,rfl⟩
 have k:=key _ rfl
 generalize (if b.1-a.1<0 then -Uc a b c else Uc a b c)=o at k
 walk_at"g"
 refine ZM (fun g=>?_) (fun g=>?_)
 ·rw[if_pos g]at k
  walk_at"g"
  exact fin_same k
 ·rw[if_neg g]at k
  walk_at"g"
  refine ZM (fun g2=>?_) (fun g2=>?_)
  ·rw[if_pos g2]at k
   walk_at"g"
   exact fin_same k
  ·rw[if_neg g2]at k
   walk_at"g"
   exact fin_same k
def Kc:WL:=fun ds S Q ex=>∃ (g:D) (cs:List (Int×Int)) (a b:Int×Int),ds=[g,p2 a,p2 b]/\Wc S g cs/\Ws cs/\(Bd 180 a.1/\Bd 200 a.2)/\(Bd 180 b.1/\Bd 200 b.2)/\(¬ (Wu cs a/\Wu cs b)->ex "OffGround" S)/\(Wu cs a->Wu cs b->Q (WD (Ot cs a b)) S)
abbrev ug (ex : XR) : DS :=
    (zA (Zk (WT Lf ex (zf Z2 Yk)))
 (zA (Zk (WT Lf ex (zf Z2 YK)))
 (zA (Yx (Ze (dCall Ht (zf Z2 (zf Vw (zf RQ zF))))) Y9 (ZC (dT (Z7 Xm (dCall GD (zf Z1 (zf ZQ (zf (Z7 ZX (Yn "corners" Z2) ZP) zF)))) Zw)) (zV ZP) Zt))
 (zV (dC .non)))))
def zoY:T6 4 ug Kc:=by
 rintro ds S Q ex ⟨g,cs,a,b,rfl,hg,gr,ba,bb,hx,q⟩
 unfold ug
 walk_at"g"
 refine⟨g,cs,a,rfl,hg,gr,ba.1,ba.2,fun z=>hx fun y=>z y.1,fun za=>?_⟩
 walk_at"g"
 refine⟨g,cs,b,rfl,hg,gr,bb.1,bb.2,fun z=>hx fun y=>z y.2,fun zb=>?_⟩
 have sa:=Std.of ba.1 ba.2 za
 have sb:=Std.of bb.1 bb.2 zb
 have q:=q za zb
 walk_at"g"
 refine⟨g,cs,_,_,rfl,hg,gr.most,?_⟩
 have kl:∀ k∈V8 cs a.1 b.1 cs.length,0<=k/\k<cs.length:=fun k hk=>zuw hk
 unfold Ot at q
 generalize V8 cs a.1 b.1 cs.length=ks at q kl
 unfold New
 walk_at"g"
 refine Yr (fun i Z S'=>∃ w1,Z=[some g,some (p2 a),some (p2 b),w1]/\S'=S++[.lst (ks.map D.int)]/\∀ x∈ks.take i,Gz cs a b x=false) ⟨none,rfl,rfl,by simp⟩ (fun i Z S' zq4=>by obtain⟨w1,_,e,_⟩:=zq4;exact e▸Lst.at0) ?_ ?_
 ·rintro i d Z S' hd ⟨w1,rfl,rfl,hn⟩
  obtain⟨k,hk,rfl⟩:=Qn hd
  obtain⟨k0,k1⟩:=kl k (qe hk)
  obtain⟨c,hc,ac⟩:=Hw (cs:=cs) k0 k1
  have eg:cs.getD k.toNat (0,0)=c:=by rw[qE,hc];rfl
  obtain⟨bc1,bc2⟩:=gr.bd c (qe hc)
  obtain⟨n,l,rfl,hgn,hgl⟩:=hg.old (T:=[.lst (ks.map D.int)])
  walk_at"g"
  refine⟨a,b,c,rfl,.inl ⟨(Bd.sub (bc2.mono (by decide:(190:Nat)<=200)) sa.2.1).mono (by decide),(Bd.sub sb.1 sa.1).mono (by decide)⟩,.inl ⟨(Bd.sub (bc1.mono (by decide:(170:Nat)<=180)) sa.1).mono (by decide),(Bd.sub sb.2.1 sa.2.1).mono (by decide)⟩,?_⟩
  walk_at"g"
  refine ZM (fun g1=>?_) (fun g1=>?_)
  ·walk_at"g"
   rw[vd hk hn (by unfold Gz;rw[eg];exact decide_eq_true g1)]at q
   exact Yg rfl q
  ·walk_at"g"
   refine⟨_,rfl,rfl,fun x hx=>?_⟩
   rw[Wm hk]at hx
   rcases qI.mp hx with hx|hx
   ·exact hn x hx
   ·have:x=k:=by simpa using hx
    subst this
    unfold Gz;rw[eg];exact decide_eq_false g1
 ·rintro Z S' ⟨w1,rfl,rfl,hn⟩
  rw[qc,Ss]at hn
  rw[ztD hn]at q
  walk_at"g"
  exact Yg rfl q
def Hl:ZV:=fun ds S Q=>∃ (a b:Int×Int),ds=[p2 a,p2 b]/\(Bd 180 a.1/\Bd 200 a.2)/\(Bd 180 b.1/\Bd 200 b.2)/\Q (.int (N8 a b)) S
abbrev pQ:DS :=
    (zA (zH (Z7 Zo Vw X4) Yu)
 (zA (zH (Z7 Zo T8 W7) Y9)
 (zV (Z7 Zz (Z7 Yw ZQ ZQ) (Z7 Yw ZP ZP)))))
def zhE:BodyOk 4 pQ Hl:=by
 rintro ds S Q ⟨a,b,rfl,⟨a1,a2⟩,⟨b1,b2⟩,q⟩
 unfold pQ
 have c1:Bd 8000 (b.1-a.1):=(Bd.sub b1 a1).mono (by decide)
 have c2:Bd 8000 (b.2-a.2):=(Bd.sub b2 a2).mono (by decide)
 have m1:YM (b.1-a.1) (b.1-a.1):=.inl ⟨c1,c1⟩
 have m2:YM (b.2-a.2) (b.2-a.2):=.inl ⟨c2,c2⟩
 walk_at"g"
 exact fin_same q
def GR:ZV:=fun ds S Q=>∃ (v:D) (V:Vl) (a b:Int×Int),ds=[v,p2 a,p2 b]/\Yj S v V/\Yy V/\((Bd 180 a.1/\Bd 200 a.2)/\Wu V.cs a)/\((Bd 180 b.1/\Bd 200 b.2)/\Wu V.cs b)/\Q (Pq V a b) S
abbrev wz:DS :=
    (zA (zH (WT Kc xF (zf (Yn "ground" Z2) (zf Z1 YK))) Y9)
 (zA (ZC (dT (Z7 RW ZP (dC .non))) (zV (dTup (zf (dC (.str "ground")) YD))) Zt)
 (zA (zH (dCall Hl (zf Z1 YK)) YX)
 (zA (ZC (S9 (dT (Z7 RW (Yn "haze" Z2) (dC .non))) (dT (Z7 Xm ZF (Yn "haze" Z2)))) (zV (dTup (zf (dC (.str "haze")) T5))) Zt)
 (zV (dC .non))))))
def iQ:BodyOk 5 wz GR:=by
 rintro ds S Q ⟨v,V,a,b,rfl,hv,ok,⟨ba,sa⟩,⟨bb,sb⟩,q⟩
 unfold wz
 obtain⟨n,g,bb',f,rfl,hn,hg,_,_⟩:=hv
 walk_at"g"
 refine⟨_,V.cs,a,b,rfl,hg,ok.gr,ba,bb,fun no=>(no ⟨sa,sb⟩).elim,fun _ _=>?_⟩
 unfold Pq at q
 cases e:Ot V.cs a b with
 |some k =>
  rw[e]at q
  unfold WD
  walk_at"g"
  exact fin_same q
 |none =>
  rw[e]at q
  unfold WD
  walk_at"g"
  refine⟨a,b,rfl,ba,bb,?_⟩
  dsimp only at q
  have hn':S[n]?=some (.ins "Valley" (vF (.ref g) (.ref bb') (.ref f) (WD V.hz) (.int V.h0) (.int V.h1) (.int V.dl))):=hn
  generalize N8 a b=sq at q
  generalize V.hz=hz at q hn'
  cases hz with
  |none =>
   have q2:Q .non S:=q
   unfold WD at hn'
   walk_at"g"
   exact fin_same q2
  |some z =>
   have q2:Q (if decide (z<sq)=true then .tup [.str "haze",.int sq]else .non) S:=q
   unfold WD at hn'
   walk_at"g"
   refine ZM (fun h=>?_) (fun h=>?_)
   ·rw[if_pos (decide_eq_true h)]at q2
    walk_at"g"
    exact fin_same q2
   ·rw[if_neg (by rw[decide_eq_false h];decide)]at q2
    walk_at"g"
    exact fin_same q2
def Lw:ZV:=fun ds S Q=>∃ (F:Fg) (h:Int),ds=[X5 F,.int h]/\YM F.g h/\YM F.s h/\Q (.tup [.int (F.x0+F.g*h),.int (F.x1+F.g*h),.int (F.z0+F.s*h),.int (F.z1+F.s*h)]) S
abbrev lU:DS :=
    (zA (zH (Z7 Yw zx7 Z1) Yu)
 (zA (zH (Z7 Yw zya Z1) Y9)
 (zV (dTup (zf (Z7 Zz X4 ZQ) (zf (Z7 Zz W7 ZQ) (zf (Z7 Zz R4 ZP) (zf (Z7 Zz Oj ZP) zF))))))))
def zqJ:BodyOk 4 lU Lw:=by
 rintro ds S Q ⟨F,h,rfl,c1,c2,q⟩
 unfold lU
 walk_at"g"
 exact fin_same q
def Ls:ZV:=fun ds S Q=>∃ (L R B T x1 z1 x2 z2:Int),ds=[.tup [.int L,.int R,.int B,.int T],.tup [.int x1,.int z1],.tup [.int x2,.int z2]]/\Bd 1000 L/\Bd 1000 R/\Bd 1000 B/\Bd 1000 T/\Bd 1000 x1/\Bd 1000 z1/\Bd 1000 x2/\Bd 1000 z2 /\
 ∀ (ca cb:Cell) (mx mn:Int),mx∈Zm L R B T x1 z1 x2 z2->(∀ a∈Zm L R B T x1 z1 x2 z2,a<=mx)->mn∈Zm L R B T x1 z1 x2 z2->(∀ a∈Zm L R B T x1 z1 x2 z2,mn<=a)->Q (.ref (S.length+2)) (S++[ca,cb,.lst ((six L R B T x1 z1 x2 z2 mx mn).map D.int)])
abbrev oE:DS :=
    (zA (zH (Z7 Zo RQ Vw) Y9)
 (zA (zH (Z7 Zo Sy T8) YX)
 (zA (zH (Yz (zf (dTup (zf X4 (zf R4 zF))) (zf (dTup (zf X4 (zf Oj zF))) (zf (dTup (zf W7 (zf R4 zF))) (zf (dTup (zf W7 (zf Oj zF))) zF))))) Yc)
 (zA (zH (XS 2 [3,1,4] (Ze Zx) (XF 2 (Zn Xa (Zn V7 X3))) Wx (Z7 Zo (Z7 Yw ZQ (Z7 Zo Z1 jN)) (Z7 Yw ZF (Z7 Zo Z2 Cd)))) VL)
 (zV (Yz (zf (Z7 Zo (dB V6 (zf Vw (zf RQ zF))) X4) (zf (Z7 Zo W7 (dB Ud (zf Vw (zf RQ zF)))) (zf (Z7 Zo (dB V6 (zf T8 (zf Sy zF))) R4) (zf (Z7 Zo Oj (dB Ud (zf T8 (zf Sy zF)))) (zf (dB FW Rn) (zf (Yp Yo (dB Ce Rn)) zF))))))))))))
def jw:BodyOk 7 oE Ls:=by
 rintro ds S Q ⟨L,R,B,T,x1,z1,x2,z2,rfl,bL,bR,bB,bT,b1,b2,b3,b4,q⟩
 unfold oE
 walk_at"g"
 refine V2 (fun _=>true) (Dn fun c=>.int ((x2-x1)*(c.2-z1)-(z2-z1)*(c.1-x1))) (by walk_at"l") (Pn rfl) (fun i d ys hd hw=>?_) ?_
 ·obtain⟨c,hc,rfl⟩:=R3 (cs:=[(L,B),(L,T),(R,B),(R,T)]) hd
  have hm:=qe hc
  have hb:Bd 1000 c.1/\Bd 1000 c.2:=by
   simp only[qh,qF,or_false]at hm
   rcases hm with rfl|rfl|rfl|rfl
   ·exact⟨bL,bB⟩
   ·exact⟨bL,bT⟩
   ·exact⟨bR,bB⟩
   ·exact⟨bR,bT⟩
  have hb1:=hb.1
  have hb2:=hb.2
  have c1:YM (x2-x1) (c.2-z1):=.inl ⟨(Bd.sub b3 b1).mono (by decide),(Bd.sub hb2 b2).mono (by decide)⟩
  have c2:YM (z2-z1) (c.1-x1):=.inl ⟨(Bd.sub b4 b2).mono (by decide),(Bd.sub hb1 b1).mono (by decide)⟩
  walk_at"g"
  exact V1 hd hw rfl rfl
 rw[filter_true]
 show New _ _ ((Zm L R B T x1 z1 x2 z2).map D.int)
 walk_at"g"
 refine zvN (ns:=Zm L R B T x1 z1 x2 z2) (by walk_at"l") (Pn rfl) fun mx m1 m2=>?_
 walk_at"g"
 refine zwB (ns:=Zm L R B T x1 z1 x2 z2) (by walk_at"l") (Pn rfl) fun mn n1 n2=>?_
 walk_at"g"
 exact fin_same (q _ _ mx mn m1 m2 n1 n2)
def Ra:ZV:=fun ds S Q=>∃ (x:D) (cs:List (Int×Int)),ds=[x]/\VB S x (cs.map p2)/\cs.length<=4000/\(cs.filter Vx).length<64 /\
 ∀ ms:List (Int×Int),Zr ms->(∀ h,ms.any (Zu h)=cs.any (Zu h))->ms.length<=(cs.filter Vx).length->Q (.tup (ms.map p2)) S
def iU {ss:List (Int×Int)}(srt:ss.Pairwise fun a b=>Q7 b a=false){i:Nat}{c d:Int×Int}(hc:ss[i]?=some c)(hd:d∈ss.take i):d.1<=c.1:=by
 obtain⟨j,hj,e⟩:=qH.mp hd
 rw[Vu]at hj
 rw[List.getElem_take]at e
 have hi:=zU hc
 rw[qb hi]at hc
 cases hc
 subst e
 exact zvB (qZ.mp srt j i (by lia) hi (by lia))
def lN {ss:List (Int×Int)}{i:Nat}{c:Int×Int}(hc:ss[i]?=some c)(h:Int):(ss.take (i+1)).any (Zu h)=((ss.take i).any (Zu h)||Zu h c):=by
 rw[Wm hc,Pa];simp
def oV {α:Type}{l:List α}(h:0<l.length):∃ i x,l=i++[x]:=by
 have:l≠[]:=fun e=>by rw[e]at h;cases h
 exact⟨l.dropLast,l.getLast this,(G6 this).symm⟩
abbrev wO:DS :=
    (zA (zH (Yz zF) V7)
 (zA (Yx (Ze (dB En (zf (XS 1 [] (Ze Z2) Xa (dT (Z7 oLe X4 W7)) (dTup (zf X4 (zf W7 zF)))) zF))) (XF 2 (Zn Yu (Zn Y9 X3))) (ZC (S9 (dT (Z7 Xm (dB Y4 Yk) Zw)) (dT (Z7 oLe ZQ (Z7 Zz (Z7 ZX (Z7 ZX Z1 (Yp Yo ZK)) ZK) ZK)))) (zH (dTup (zf (Z7 ZX (Z7 ZX Z1 (Yp Yo ZK)) Zw) (zf (dB V6 (zf (Z7 ZX (Z7 ZX Z1 (Yp Yo ZK)) ZK) YD)) zF))) (QD Z1 (Yp Yo ZK))) (Zk (dM UL Z1 (zf (dTup (zf ZQ YD)) zF)))))
 (zV (dB Oz Yk))))
def zuj:BodyOk 4 wO Ra:=by
 rintro ds S Q ⟨x,cs,rfl,hx,hcl,hfl,q⟩
 unfold wO
 walk_at"g"
 refine zwd (xs:=cs.map p2) hx.old fun ok hok=>?_
 refine V2 (tO Vx) (Dn p2) (by have:=hok [];rwa[qV]at this) ?_ (fun i d ys hd hw=>?_) ?_
 ·rw[qc];unfold big;lia
 ·obtain⟨c,hc,rfl⟩:=R3 hd
  walk_at"g"
  refine ZM (fun g=>?_) (fun g=>?_)
  ·walk_at"g"
   exact V1 hd hw (decide_eq_true g) rfl
  ·walk_at"g"
   exact rH hd hw (decide_eq_false g)
 rw[zqo,zuo]
 walk_at"g"
 refine ztI (cs:=cs.filter Vx) (Lst.at rfl) hfl fun ss perm srt=>?_
 have hsl:ss.length=(cs.filter Vx).length:=perm.length_eq
 have hsle:∀ c∈ss,c.1<=c.2:=fun c hc=>of_decide_eq_true (V5.mp (perm.mem_iff.mp hc)).2
 walk_at"g"
 refine Yr (fun i Z S'=>∃ (ms:List (Int×Int)) (w1 w2:Option D),Z=[some x,some (.ref S.length),w1,w2]/\S'=S++[.lst (ms.map p2),.lst ((cs.filter Vx).map p2),.lst (ss.map p2)]/\Zr ms/\ms.length<=i /\
  (∀ h,ms.any (Zu h)=(ss.take i).any (Zu h))/\∀ m∈ms,∃ d∈ss.take i,m.1=d.1)
  ⟨[],none,none,rfl,rfl,Zr.nil,qg _,fun h=>rfl,by simp⟩ (fun i Z S' zq5=>by obtain⟨ms,w1,w2,_,e,_⟩:=zq5;exact e▸Lst.at rfl) ?_ ?_
 ·rintro i d Z S' hd ⟨ms,w1,w2,rfl,rfl,ok,hml,hany,hlow⟩
  obtain⟨c,hc,rfl⟩:=R3 hd
  have hil:=zU hc
  have hcle:=hsle c (qe hc)
  have low:∀ m∈ms,m.1<=c.1:=fun m hm=>by
   obtain⟨d,hd,e⟩:=hlow m hm
   rw[e]
   exact iU srt hc hd
  have hlow':∀ m,(∃ d∈ss.take i,m=d.1)->∃ d∈ss.take (i+1),m=d.1:=fun m zq6=>by obtain⟨d,hd,e⟩:=zq6;exact⟨d,by rw[Wm hc];exact QT _ hd,e⟩
  have hnew:∃ d∈ss.take (i+1),c.1=d.1:=⟨c,by rw[Wm hc];simp,rfl⟩
  have app:(∀ m∈ms,m.2+2<=c.1)->∃ (ms':List (Int×Int)) (w1 w2:Option D),([some x,some (.ref S.length),some (.int c.1),some (.int c.2)]:ZR)=[some x,some (.ref S.length),w1,w2]/\S++[Cell.lst (ms.map p2++[p2 c]),.lst ((cs.filter Vx).map p2),.lst (ss.map p2)]=S++[.lst (ms'.map p2),.lst ((cs.filter Vx).map p2),.lst (ss.map p2)]/\Zr ms'/\ms'.length<=i+1 /\
    (∀ h,ms'.any (Zu h)=(ss.take (i+1)).any (Zu h))/\∀ m∈ms',∃ d∈ss.take (i+1),m.1=d.1:=fun ap=>by
   refine⟨ms++[c],_,_,rfl,by rw[qA];rfl,ok.snoc hcle ap,by rw[qf];exact Nat.succ_le_succ hml,fun h=>by rw[Pa,hany h,lN hc];simp,fun y hy=>?_⟩
   rcases qI.mp hy with hy|hy
   ·exact hlow' _ (hlow y hy)
   ·have:y=c:=by simpa using hy
    subst this
    exact hnew
  walk_at"g"
  rw[qc]
  refine ZM (fun h0=>?_) (fun h0=>?_)
  ·obtain⟨ms0,m,rfl⟩:=oV (l:=ms) (by lia)
   have hm1:=low m (by simp)
   have am:Y7 (List.map p2 (ms0++[m])) (-1)=some (p2 m):=by rw[qA];exact HJ
   have im:Xg (List.map p2 (ms0++[m])).length (-1)=some (ms0.map p2).length:=by rw[qA];exact Al
   walk_at"g"
   refine ZM (fun h1=>?_) (fun h1=>?_)
   ·walk_at"g"
    refine G8 YC im ?_
    walk_at"g"
    obtain⟨ok2,any2⟩:=zqM ok hcle hm1 h1
    refine⟨ms0++[(m.1,max m.2 c.2)],_,_,rfl,?_,ok2,by rw[qf]at hml ⊢;exact Nat.le_succ_of_le hml,fun h=>by rw[any2 h,hany h,lN hc],fun y hy=>?_⟩
    ·rw[qA,qA,qX _ _ (qg _),Wv];rfl
    ·rcases qI.mp hy with hy|hy
     ·exact hlow' _ (hlow y (QT _ hy))
     ·have:y=(m.1,max m.2 c.2):=by simpa using hy
      subst this
      exact hlow' _ (hlow m (by simp))
   ·walk_at"g"
    obtain⟨ok0,hmle,hap⟩:=ok.init
    exact app fun y hy=>by
     rcases qI.mp hy with hy|hy
     ·have:=hap y hy
      lia
     ·have:y=m:=by simpa using hy
      subst this
      lia
  ·have em:ms=[]:=Rt.mp (by lia)
   walk_at"g"
   exact app (by rw[em];simp)
 ·rintro Z S' ⟨ms,w1,w2,rfl,rfl,ok,hml,hany,hlow⟩
  rw[qc]at hml hany
  walk_at"g"
  exact Yg (O5 ms) (q ms ok (fun h=>by rw[hany h,Ss,j9 perm,show cs.filter Vx=cs.filter (fun c=>decide (c.1<=c.2))from rfl,any_filter]) (by lia))
def Ii:ZV:=fun ds S Q=>∃ (F:Fg) (px pz qx qz:Int),ds=[X5 F,.tup [.int px,.int pz],.tup [.int qx,.int qz]]/\Hf F/\Bd 600 px/\Bd 600 pz/\Bd 600 qx/\Bd 600 qz/\∀ ms:List (Int×Int),Av ms F px pz qx qz->Q (.tup (ms.map p2)) S
abbrev m8:DS :=
    (zA (zH Zw Y9)
 (zA (zH (Z7 Zo vQ Jy) YX)
 (zA (zH (dCall Ls (zf (dCall Lw (zf Z2 (zf Zw zF))) (zf Z1 YK))) Yc)
 (zA (zH (dCall Ls (zf (dCall Lw (zf Z2 (zf ZK zF))) (zf Z1 YK))) VL)
 (zA (Yx (BL (zf Zx Rn)) (XF 2 (Zn Ui (Zn Nx X3))) (zA (zH (Z7 Zo Vc Xq) Ln)
 (ZC (dT (Z7 Xm U7 Zw)) (zH (dB V6 (zf ZP (zf (Yp Yo (Z7 oDiv Xq U7)) zF))) Y9) (ZC (dT (Z7 oLt U7 Zw)) (zH (dB Ud (zf ZF (zf (Z7 oDiv Xq (Yp Yo U7)) zF))) YX) (ZC (dT (Z7 oLt Xq Zw)) (zV (dTup zF)) Zt)))))
 (zV (dCall Ra (zf (Yz (zf (dTup (zf (Z7 Zz Jy ZP) (zf (Z7 Zz Jy ZF) zF))) zF)) zF))))))))
def zqX:BodyOk 10 m8 Ii:=by
  rintro ds S Q ⟨F,px,pz,qx,qz,rfl,B,bpx,bpz,bqx,bqz,q⟩
  unfold m8
  have bmv:∀ {x y c:Int},Bd 600 x->Bd 200 y->(c=0\/c=1)->Bd 700 (x+y*c):=fun {x y c} hx hy hc=>(Bd.add (n:=600) hx (by
    rcases hc with rfl|rfl
    . rw[TV];exact Bd.lit (by decide) (by decide)
    . rw[Wq];exact hy.mono (by decide))).mono (by decide)
  have cs:∀ {y c:Int},(c=0\/c=1)->YM y c:=fun hc=>.inr (.inr (by rcases hc with rfl|rfl<;>decide))
  walk_at"g"
  refine⟨F,0,rfl,cs (.inl rfl),cs (.inl rfl),?_⟩
  walk_at"g"
  refine⟨_,_,_,_,px,pz,qx,qz,rfl,(bmv B.b0 B.bg (.inl rfl)).mono (by decide),(bmv B.b1 B.bg (.inl rfl)).mono (by decide),(bmv B.b2 B.bs (.inl rfl)).mono (by decide),(bmv B.b3 B.bs (.inl rfl)).mono (by decide),bpx.mono (by decide),bpz.mono (by decide),bqx.mono (by decide),bqz.mono (by decide),fun ca cb mx mn m1 m2 n1 n2=>?_⟩
  walk_at"g"
  refine⟨F,1,rfl,cs (.inr rfl),cs (.inr rfl),?_⟩
  walk_at"g"
  refine⟨_,_,_,_,px,pz,qx,qz,rfl,(bmv B.b0 B.bg (.inr rfl)).mono (by decide),(bmv B.b1 B.bg (.inr rfl)).mono (by decide),(bmv B.b2 B.bs (.inr rfl)).mono (by decide),(bmv B.b3 B.bs (.inr rfl)).mono (by decide),bpx.mono (by decide),bpz.mono (by decide),bqx.mono (by decide),bqz.mono (by decide),fun ca' cb' mx' mn' m1' m2' n1' n2'=>?_⟩
  have mm:∀ k,_↔_:=fun k=>zpe (k:=k) m1 m2 n1 n2 m1' m2' n1' n2'
  have sb:=wU (bmv B.b0 B.bg (.inl rfl)) (bmv B.b1 B.bg (.inl rfl)) (bmv B.b2 B.bs (.inl rfl)) (bmv B.b3 B.bs (.inl rfl)) (bpx.mono (by decide)) (bpz.mono (by decide)) (bqx.mono (by decide)) (bqz.mono (by decide)) m1 n1
  have ab:=wU (bmv B.b0 B.bg (.inr rfl)) (bmv B.b1 B.bg (.inr rfl)) (bmv B.b2 B.bs (.inr rfl)) (bmv B.b3 B.bs (.inr rfl)) (bpx.mono (by decide)) (bpz.mono (by decide)) (bqx.mono (by decide)) (bqz.mono (by decide)) m1' n1'
  have l1:(six (F.x0+F.g*0) (F.x1+F.g*0) (F.z0+F.s*0) (F.z1+F.s*0) px pz qx qz mx mn).length=6:=rfl
  have l2:(six (F.x0+F.g*1) (F.x1+F.g*1) (F.z0+F.s*1) (F.z1+F.s*1) px pz qx qz mx' mn').length=6:=rfl
  generalize six (F.x0+F.g*0) (F.x1+F.g*0) (F.z0+F.s*0) (F.z1+F.s*0) px pz qx qz mx mn=A at *
  generalize six (F.x0+F.g*1) (F.x1+F.g*1) (F.z0+F.s*1) (F.z1+F.s*1) px pz qx qz mx' mn'=A' at *
  clear m1 m2 n1 n2 m1' m2' n1' n2'
  have kA:(S++[ca,cb,Cell.lst (A.map D.int)]++[ca',cb',Cell.lst (A'.map D.int)])[S.length+2]?=some (.lst (A.map D.int)):=YF ((Wz _ _ _).trans rfl)
  have kA':(S++[ca,cb,Cell.lst (A.map D.int)]++[ca',cb',Cell.lst (A'.map D.int)])[(S++[ca,cb,Cell.lst (A.map D.int)]).length+2]?=some (.lst (A'.map D.int)):=(Wz _ _ _).trans rfl
  have eS:S++[ca,cb,Cell.lst (A.map D.int)]++[ca',cb',Cell.lst (A'.map D.int)]=S++[ca,cb,Cell.lst (A.map D.int),ca',cb',Cell.lst (A'.map D.int)]:=by simp
  generalize (S++[ca,cb,Cell.lst (A.map D.int)]).length+2=na at *
  generalize S++[ca,cb,Cell.lst (A.map D.int)]++[ca',cb',Cell.lst (A'.map D.int)]=S1 at *
  walk_at"g"
  refine zyC (xs:=A.map D.int) (ys:=A'.map D.int) (Lst.here kA) (Lst.here kA') ?_
  refine Yr (fun i Z S'=>S'=S1/\∃ (lo hi:Int) (w1 w2 w3:Option D),Z=[some (X5 F),some (.tup [.int px,.int pz]),some (.tup [.int qx,.int qz]),some (.int lo),some (.int hi),some (.ref (S.length+2)),some (.ref na),w1,w2,w3] /\
    ∀ k,(lo<=k/\k<=hi)↔(0<=k/\k<=F.l-F.f/\∀ j,j<i->0<=A.getD j 0+k*(A'.getD j 0-A.getD j 0))) ⟨rfl,0,F.l-F.f,none,none,none,rfl,fun k=>⟨fun h=>⟨h.1,h.2,fun j hj=>absurd hj (by lia)⟩,fun h=>⟨h.1,h.2.1⟩⟩⟩ (fun i Z S' z=>z.1▸⟨Lst.here kA,Lst.here kA'⟩) ?_ ?_
  . rintro i d Z S' hd ⟨rfl,lo,hi,w1,w2,w3,rfl,hk⟩
    obtain⟨x,y,hx,hy,rfl⟩:=Il hd
    obtain⟨sv,hs,rfl⟩:=Qn hx
    obtain⟨av,ha,rfl⟩:=Qn hy
    have es:A.getD i 0=sv:=by rw[qE,hs];rfl
    have ea:A'.getD i 0=av:=by rw[qE,ha];rfl
    have bsv:=sb sv (qe hs)
    have bav:=ab av (qe ha)
    have bst:Bd 1600 (av-sv):=(Bd.sub bav bsv).mono (by decide)
    have bst':Bd 1600 (-(av-sv)):=bst.neg
    have next:∀ {P:Int->Prop},(∀ k,P k↔0<=sv+k*(av-sv))->∀ k,((0<=k/\k<=F.l-F.f/\∀ j,j<i->0<=A.getD j 0+k*(A'.getD j 0-A.getD j 0))/\P k)↔(0<=k/\k<=F.l-F.f/\∀ j,j<i+1->0<=A.getD j 0+k*(A'.getD j 0-A.getD j 0)):=fun {P} hP k=>by
      constructor
      . rintro⟨⟨c1,c2,c3⟩,c4⟩
        refine⟨c1,c2,fun j hj=>?_⟩
        rcases qP j i with h|h
        . exact c3 j h
        . have:j=i:=by lia
          subst this
          rw[es,ea]
          exact(hP k).mp c4
      . rintro⟨c1,c2,c3⟩
        refine⟨⟨c1,c2,fun j hj=>c3 j (by lia)⟩,(hP k).mpr ?_⟩
        have:=c3 i (by lia)
        rw[es,ea]at this
        exact this
    walk_at"g"
    refine ZM (fun g1=>?_) (fun g1=>?_)
    . walk_at"g"
      refine⟨rfl,_,_,_,_,_,rfl,fun k=>?_⟩
      rw[<- next (fun k=>ztK (S:=sv) (T:=av-sv) (k:=k) (by lia)) k,<- hk k]
      lia
    . walk_at"g"
      refine ZM (fun g2=>?_) (fun g2=>?_)
      . walk_at"g"
        refine⟨rfl,_,_,_,_,_,rfl,fun k=>?_⟩
        rw[<- next (fun k=>zpG (S:=sv) (T:=av-sv) (k:=k) (by lia)) k,<- hk k]
        lia
      . have e0:av-sv=0:=by lia
        have flat:∀ k,(0<=sv)↔0<=sv+k*(av-sv):=fun k=>by rw[e0,TV,Int.add_zero]
        walk_at"g"
        refine ZM (fun g3=>?_) (fun g3=>?_)
        . walk_at"g"
          rw[eS]
          refine Yg (O5 []) (q [] ⟨Zr.nil,by decide,fun h=>⟨fun z=>absurd z (by simp),fun z=>?_⟩⟩)
          have:=(mm (h-F.f)).mpr ((nA (by have:=B.x;lia) (by have:=B.z;lia)).mpr z.2.2) i (by have:=zU hs;lia)
          rw[es,ea,<- flat]at this
          lia
        . walk_at"g"
          refine⟨rfl,_,_,_,_,_,rfl,fun k=>?_⟩
          rw[<- next flat k,<- hk k]
          constructor
          . intro h;exact⟨h,by lia⟩
          . intro h;exact h.1
  . rintro Z S' ⟨rfl,lo,hi,w1,w2,w3,rfl,hk⟩
    rw[Ni,qc,qc,l1,l2]at hk
    walk_at"g"
    refine⟨_,[(F.f+lo,F.f+hi)],rfl,.inr (by walk_at"l"),Pn rfl,?_,fun ms ok hany hml=>?_⟩
    . exact Nat.lt_of_le_of_lt (K9 _ _) (Pn rfl)
    . rw[eS,qm]
      exact Yg (O5 ms) (q ms (zqs B ok (Xi hml (K9 _ _)) hany fun k=>by rw[hk k];exact and_congr_right fun _=>and_congr_right fun _=>mm k))
def HN:ZV:=fun ds S Q=>∃ (x:D) (fs:List Fg) (px pz qx qz:Int),ds=[x,.tup [.int px,.int pz],.tup [.int qx,.int qz]]/\Lst S x (fs.map X5)/\fs.length<64/\(∀ F∈fs,Hf F)/\Bd 600 px/\Bd 600 pz/\Bd 600 qx/\Bd 600 qz /\
 ∀ ms:List (Int×Int),Zr ms->(∀ h,ms.any (Zu h)=true↔∃ F∈fs,M8 F px pz qx qz h)->ms.length<=fs.length->Q (.tup (ms.map p2)) S
abbrev nM:DS :=
    (zA (zH (Yz zF) Y9)
 (zA (Yx (Ze Z2) YX (Zk (dM Br ZP (zf (dCall Ii (zf ZF (zf Z1 YK))) zF))))
 (zV (dCall Ra YD))))
def zl5:BodyOk 5 nM HN:=by
 rintro ds S Q ⟨x,fs,px,pz,qx,qz,rfl,hx,hl,hB,bpx,bpz,bqx,bqz,q⟩
 unfold nM
 walk_at"g"
 refine Yr (fun i Z S'=>∃ (cs:List (Int×Int)) (w:Option D),Z=[some x,some (.tup [.int px,.int pz]),some (.tup [.int qx,.int qz]),some (.ref S.length),w]/\S'=S++[.lst (cs.map p2)]/\cs.length<=i/\∀ h,cs.any (Zu h)=true↔∃ F∈fs.take i,M8 F px pz qx qz h)
  ⟨[],none,rfl,rfl,qg _,fun h=>by simp⟩ (fun i Z S' zq7=>by obtain⟨cs,w,_,e,_⟩:=zq7;exact e▸hx.old) ?_ ?_
 ·rintro i d Z S' hd ⟨cs,w,rfl,rfl,hc,hh⟩
  obtain⟨F,hF,rfl⟩:=mR hd
  have hi:=zU hF
  walk_at"g"
  refine⟨F,px,pz,qx,qz,rfl,hB F (qe hF),bpx,bpz,bqx,bqz,fun ms hm=>?_⟩
  obtain⟨ok,hone,hat⟩:=hm
  walk_at"g"
  refine fP (n:=S.length) YC (by rw[qc,qc];unfold big;lia) ?_
  walk_at"g"
  refine⟨cs++ms,_,rfl,by rw[qA],by rw[qf];lia,fun h=>?_⟩
  rw[Pa,Qy,hh,hat,Wm hF]
  constructor
  ·rintro(⟨G,hG,g⟩|g)
   ·exact⟨G,QT _ hG,g⟩
   ·exact⟨F,by simp,g⟩
  ·rintro⟨G,hG,g⟩
   rcases qI.mp hG with hG|hG
   ·exact .inl ⟨G,hG,g⟩
   ·have:G=F:=by simpa using hG
    subst this
    exact .inr g
 ·rintro Z S' ⟨cs,w,rfl,rfl,hc,hh⟩
  rw[qc]at hc hh
  rw[Ss]at hh
  have hf:=K9 Vx cs
  walk_at"g"
  refine⟨_,cs,rfl,.inr Lst.at0,by lia,by lia,fun ms ok hany hml=>?_⟩
  exact Yg (O5 ms) (q ms ok (fun h=>by rw[hany h];exact hh h) (by lia))
def Jw:ZV:=fun ds S Q=>∃ (cs:List (Int×Int)) (lo hi:Int),ds=[.tup (cs.map p2),.int lo,.int hi]/\Zr cs/\cs.length<63 /\
 ∀ ms:List (Int×Int),Zr ms->(∀ h,lo<=h->h<=hi->ms.any (Zu h)=!(cs.any (Zu h)))->ms.length<=cs.length+1->Q (.tup (ms.map p2)) S
abbrev yj:DS :=
    (zA (zH (Yz zF) Y9)
 (zA (zH Z1 YX)
 (zA (Yx (Ze Z2) Yc (zA (Zk (dM UL ZP (zf (dTup (zf ZF (zf (Z7 Zo zxG ZK) zF))) zF)))
 (zH (Z7 Zz zwZ ZK) YX)))
 (zA (Zk (dM UL ZP (zf (dTup (zf ZF YK)) zF)))
 (zV (dCall Ra YD))))))
def zsU:BodyOk 6 yj Jw:=by
  rintro ds S Q ⟨cs,lo,hi,rfl,ok,h31,q⟩
  unfold yj
  walk_at"g"
  refine Yr (fun i Z S'=>∃ (w:Option D),Z=[some (.tup (cs.map p2)),some (.int lo),some (.int hi),some (.ref S.length),some (.int (YZ lo (cs.take i)).2),w]/\S'=S++[.lst ((YZ lo (cs.take i)).1.map p2)]) ⟨none,rfl,rfl⟩ (fun _ _ _ _=>True.intro) ?_ ?_
  . rintro i d Z S' hd ⟨w,rfl,rfl⟩
    obtain⟨c,hc,rfl⟩:=R3 hd
    have hi':=zU hc
    have hlim:(List.map p2 (YZ lo (cs.take i)).1).length<big:=by
      rw[qc,Mh,Vu];unfold big;lia
    walk_at"g"
    refine⟨some (p2 c),?_,?_⟩
    . rw[Wm hc,Bh];rfl
    . rw[Wm hc,Bh,qA];rfl
  . rintro Z S' ⟨w,rfl,rfl⟩
    rw[qc,Ss]
    have hlim:(List.map p2 (YZ lo cs).1).length<big:=by
      rw[qc,Mh];unfold big;lia
    have hf:=K9 Vx ((YZ lo cs).1++[((YZ lo cs).2,hi)])
    rw[qf,Mh]at hf
    have hf:((((YZ lo cs).1++[((YZ lo cs).2,hi)])).filter Vx).length<=cs.length+1:=hf
    walk_at"g"
    refine⟨_,(YZ lo cs).1++[((YZ lo cs).2,hi)],rfl,.inr (by rw[qA];exact Lst.at0),by rw[qf,Mh];show cs.length+1<=4000;lia,by lia,fun ms okm hany hml=>?_⟩
    refine Yg (O5 ms) (q ms okm (fun h h0 h1=>?_) (by lia))
    rw[hany h,RP,oJ h1 lo ok h0 (fun _ _ _=>trivial),<- XQ]
    cases cs.any (Zu h)<;>simp
def Kd:ZV:=fun ds S Q=>∃ (as bs:List (Int×Int)),ds=[.tup (as.map p2),.tup (bs.map p2)]/\Zr as/\Zr bs/\as.length+bs.length<64 /\
 ∀ ms:List (Int×Int),Zr ms->(∀ h,ms.any (Zu h)=(as.any (Zu h)&&bs.any (Zu h)))->ms.length<=as.length+bs.length->Q (.tup (ms.map p2)) S
abbrev wG:DS :=
    (zA (zH (Yz zF) Yu)
 (zA (Yx (Ze Z2) (XF 2 (Zn Y9 (Zn YX X3))) (Yx (Ze Z1) (XF 2 (Zn Yc (Zn VL X3))) (Zk (dM UL ZQ (zf (dTup (zf (dB V6 (zf ZP FZ)) (zf (dB Ud (zf ZF Rn)) zF))) zF)))))
 (zV (dCall Ra YK))))
def zsK:BodyOk 7 wG Kd:=by
 rintro ds S Q ⟨as,bs,rfl,oka,okb,hlen,q⟩
 unfold wG
 have hmul:as.length*bs.length<=3969:=Xi (MP (show as.length<=63 by lia) (show bs.length<=63 by lia)) (by decide)
 walk_at"g"
 refine Yr (fun i Z S'=>∃ (w1 w2 w3 w4:Option D),Z=[some (.tup (as.map p2)),some (.tup (bs.map p2)),some (.ref S.length),w1,w2,w3,w4]/\S'=S++[.lst ((XC (as.take i) bs).map p2)]) ⟨none,none,none,none,rfl,rfl⟩ (fun _ _ _ _=>True.intro) ?_ ?_
 ·rintro i d Z S' hd ⟨w1,w2,w3,w4,rfl,rfl⟩
  obtain⟨a,ha,rfl⟩:=R3 hd
  have hi:=zU ha
  walk_at"g"
  refine Yr (fun j Z S'=>∃ (w3 w4:Option D),Z=[some (.tup (as.map p2)),some (.tup (bs.map p2)),some (.ref S.length),some (.int a.1),some (.int a.2),w3,w4]/\S'=S++[.lst ((XC (as.take i) bs++(bs.take j).map (Yb a)).map p2)]) ⟨w3,w4,rfl,by simp⟩ (fun _ _ _ _=>True.intro) ?_ ?_
  ·rintro j d Z S' hd ⟨w3,w4,rfl,rfl⟩
   obtain⟨b,hb,rfl⟩:=R3 hd
   have hj:=zU hb
   have hlim:(List.map p2 (XC (as.take i) bs++(bs.take j).map (Yb a))).length<big:=by
    rw[qc,qf,pU,qc,Vu,Vu]
    have:min i as.length*bs.length<=as.length*bs.length:=MP (Nat.min_le_right _ _) (qg _)
    unfold big;lia
   walk_at"g"
   refine⟨_,_,rfl,?_⟩
   have e:XC (as.take i) bs++(bs.take (j+1)).map (Yb a)=XC (as.take i) bs++(bs.take j).map (Yb a)++[Yb a b]:=by
    rw[Wm hb,qA,<- qm];rfl
   rw[e,qA (l₂:=[Yb a b])]
   rfl
  ·rintro Z S' ⟨w3,w4,rfl,rfl⟩
   refine⟨_,_,_,_,rfl,?_⟩
   rw[qc,Ss,zmk ha]
 ·rintro Z S' ⟨w1,w2,w3,w4,rfl,rfl⟩
  rw[qc,Ss]
  have hf:((XC as bs).filter Vx).length<=as.length+bs.length:=nY oka okb
  walk_at"g"
  refine⟨_,XC as bs,rfl,.inr Lst.at0,by rw[pU];lia,by lia,fun ms ok hany hml=>?_⟩
  exact Yg (O5 ms) (q ms ok (fun h=>by rw[hany h,znU]) (by lia))
def J3:ZV:=fun ds S Q=>∃ (as bs:List (Int×Int)),ds=[.tup (as.map p2),.tup (bs.map p2)]/\Zr as/\Zr bs/\as.length+bs.length<63 /\
 ∀ ms:List (Int×Int),Zr ms->(∀ h,ms.any (Zu h)=(as.any (Zu h)&&!(bs.any (Zu h))))->ms.length<=as.length+bs.length+1->Q (.tup (ms.map p2)) S
abbrev yr:DS :=
    (zA (ZC (dT (Z7 oEq (dB Y4 Zb) Zw)) (zV (dTup zF)) Zt)
 (zV (dCall Kd (zf Z2 (zf (dCall Jw (zf Z1 (zf (Z7 ZX X4 Zw) (zf (Z7 ZX (Z7 ZX Z2 (Yp Yo ZK)) ZK) zF)))) zF)))))
def znp:BodyOk 2 yr J3:=by
 rintro ds S Q ⟨as,bs,rfl,oka,okb,hlen,q⟩
 unfold yr
 walk_at"g"
 rw[qc]
 refine ZM (fun g=>?_) (fun g=>?_)
 ·have ea:as=[]:=Rt.mp (by lia)
  subst ea
  walk_at"g"
  exact fin_same (q [] Zr.nil (fun h=>rfl) (by simp))
 ·obtain⟨c,as',rfl⟩:∃ c as',as=c::as':=by
   cases as with
   |nil=>exact absurd (by simp) g
   |cons c as'=>exact⟨c,as',rfl⟩
  obtain⟨ms0,m,em⟩:=oV (l:=c::as') (by simp)
  have a0:Y7 (List.map p2 (c::as')) 0=some (p2 c):=Ub (i:=0) rfl
  have am:Y7 (List.map p2 (c::as')) (-1)=some (p2 m):=by rw[em,qA];exact HJ
  walk_at"g"
  refine⟨bs,c.1,m.2,rfl,okb,by lia,fun gs okg hg hgl=>?_⟩
  walk_at"g"
  refine⟨c::as',gs,rfl,oka,okg,by lia,fun ms ok hany hml=>?_⟩
  refine fin_same (q ms ok (fun h=>?_) (by lia))
  rw[hany h]
  cases hA:(c::as').any (Zu h)with
  |false=>rfl
  |true =>
   obtain⟨x,hx,x1,x2⟩:=XQ.mp hA
   have lo:c.1<=h:=by
    rcases qh.mp hx with rfl|hx
    ·exact x1
    ·have:=(qU.mp oka.ap).1 x hx
     have:=oka.le c (by simp)
     lia
   have hi:h<=m.2:=by
    rw[em]at hx oka
    obtain⟨_,hm,hap⟩:=oka.init
    rcases qI.mp hx with hx|hx
    ·have:=hap x hx
     lia
    ·have:x=m:=by simpa using hx
     subst this
     exact x2
   rw[hg h lo hi]
def Jf:WL:=fun ds S Q ex=>∃ (v:D) (V:Vl) (n m:Str),ds=[v,.str n,.str m]/\Yj S v V/\Yy V/\fl 20 (.str n)=true/\fl 20 (.str m)=true/\((∀ b∈V.bs,b.1≠n)\/(∀ b∈V.bs,b.1≠m)->ex "NoBeacon" S)/\∀ s t,(n,s)∈V.bs->(m,t)∈V.bs->∀ ms,La V n m s t ms->Q (.tup (ms.map p2)) S
abbrev nW (ex : XR) : DS :=
    (zA (zH (WT Ms ex (zf Z2 Yk)) Y9)
 (zA (zH (WT Ms ex (zf Z2 YK)) YX)
 (zA (zH (dTup (zf (dTup (zf (Yn "first" Z2) (zf (Yn "last" Z2) zF))) zF)) Yc)
 (zA (ZC (dT (Z7 oEq Z1 ZQ)) (zV Zx) Zt)
 (zA (ZC (dT (Z7 RW (dCall GR (zf Z2 (zf ZP T5))) (dC .non))) (zV (dTup zF)) Zt)
 (zV (dCall J3 (zf Zx (zf (dCall HN (zf (Yn "fogs" Z2) (zf ZP T5))) zF)))))))))
def zrY:T6 6 nW Jf:=by
  rintro ds S Q ex ⟨v,V,n,m,rfl,hv,ok,hn,hm,hx,q⟩
  unfold nW
  walk_at"g"
  refine⟨v,V,n,rfl,hv,ok,hn,fun no=>hx (.inl no),fun s hs=>?_⟩
  walk_at"g"
  refine⟨v,V,m,rfl,hv,ok,hm,fun no=>hx (.inr no),fun t ht=>?_⟩
  have q':=q s t hs ht
  clear hx q
  have bs:=ok.bd _ hs
  have bt:=ok.bd _ ht
  have ss:=ok.st _ hs
  have st:=ok.st _ ht
  obtain⟨a,g,b',f,rfl,ha,hg,hb,hf⟩:=id hv
  walk_at"g"
  refine mj hn hm ?_
  walk_at"g"
  have one:Zr [(V.h0,V.h1)]:=by
    refine⟨fun c hc=>?_,List.pairwise_singleton _ _⟩
    have:c=(V.h0,V.h1):=by simpa using hc
    subst this;exact ok.hh
  refine ZM (fun h=>?_) (fun h=>?_)
  . walk_at"g"
    refine fin_same (q' [(V.h0,V.h1)] ⟨one,fun k=>?_,by show 1<=14;decide⟩)
    rw[XQ]
    constructor
    . rintro⟨c,hc,h1,h2⟩
      have:c=(V.h0,V.h1):=by simpa using hc
      subst this
      exact⟨h1,h2,.inl h⟩
    . rintro⟨h1,h2,_⟩
      exact⟨(V.h0,V.h1),by simp,h1,h2⟩
  walk_at"g"
  refine⟨_,V,s,t,rfl,hv,ok,⟨bs,ss⟩,⟨bt,st⟩,?_⟩
  by_cases al:Gv V s t
  case neg =>
    have e:Kg (Pq V s t)=false:=by
      cases h:Pq V s t with
      |non=>exact absurd (mq.mp h) al
      |_=>rfl
    refine vP (v8 ?_)
    rw[e]
    walk_at"g"
    refine fin_same (q' [] ⟨Zr.nil,fun k=>?_,by show 0<=14;decide⟩)
    constructor
    . intro z;simp at z
    . rintro⟨_,_,z|z⟩
      . exact absurd z h
      . exact absurd z.1 al
  rw[mq.mpr al]
  walk_at"g"
  have f12:=ok.f12
  refine⟨_,V.fs,s.1,s.2,t.1,t.2,rfl,Lst.here hf,by lia,fun F hF=>(ok.fg F hF).b,bs.1.mono (by decide),bs.2.mono (by decide),bt.1.mono (by decide),bt.2.mono (by decide),fun fs fok fh fl=>?_⟩
  walk_at"g"
  refine⟨[(V.h0,V.h1)],fs,rfl,one,fok,by show 1+fs.length<63;lia,fun ms mok mh ml=>?_⟩
  refine fin_same (q' ms ⟨mok,fun k=>?_,by have:ms.length<=1+fs.length+1:=ml;lia⟩)
  rw[mh k,qG,XQ]
  have e:(!fs.any (Zu k))=true↔¬ ∃ F∈V.fs,M8 F s.1 s.2 t.1 t.2 k:=by
    rw[<- fh k]
    cases fs.any (Zu k)<;>simp
  rw[e]
  constructor
  . rintro⟨⟨c,hc,h1,h2⟩,h3⟩
    have:c=(V.h0,V.h1):=by simpa using hc
    subst this
    exact⟨h1,h2,.inr ⟨al,h3⟩⟩
  . rintro⟨h1,h2,z|z⟩
    . exact absurd z h
    . exact⟨⟨(V.h0,V.h1),by simp,h1,h2⟩,z.2⟩
def Vv:ZV:=fun ds S Q=>∃ (p:Pc) (h:Int),ds=[Pd p,.int h]/\(p.st=0\/p.st=1)/\Q (.int (p.led h)) S
abbrev pC:DS :=
  (zV (Z7 Zz R4 (Z7 Yw Oj (Z7 Zo Z1 X4))))
def zvd:BodyOk 2 pC Vv:=by
  rintro ds S Q ⟨p,h,rfl,hs,q⟩
  unfold pC
  have c:YM p.st (h-p.lo):=.inr (.inl (by rcases hs with e|e<;>rw[e]<;>decide))
  walk_at"g"
  exact fin_same q
def Ir:ZV:=fun ds S Q=>∃ (p:Pc) (t:Int),ds=[Pd p,.int t]/\(p.st=0\/p.st=1)/\Q (.bl (decide (draw p t))) S
abbrev Aj:DS :=
    (zA (ZC (dT (Z7 oEq X4 W7)) (zV (Ca (Z7 oEq Z1 R4) (Z7 oEq Z1 (Z7 Zz R4 ZK)))) Zt)
 (zV (Z7 oEq Z1 (dCall Vv (zf Z2 (zf (Z7 Zz W7 ZK) zF))))))
def zjd:BodyOk 2 Aj Ir:=by
 rintro ds S Q ⟨p,t,rfl,hs,q⟩
 unfold Aj
 unfold Rm.draw at q
 walk_at"g"
 refine ZM (fun g=>?_) (fun g=>?_)
 ·simp only[if_pos g]at q
  walk_at"g"
  refine ZM (fun g1=>?_) (fun g1=>?_)
  ·walk_at"g"
   exact fin_same (by rw[decide_eq_true (.inl g1)]at q;exact q)
  ·walk_at"g"
   exact fin_same (by simpa [g1]using q)
 ·simp only[if_neg g]at q
  walk_at"g"
  refine⟨p,_,rfl,hs,?_⟩
  walk_at"g"
  exact fin_same q
def K8:ZV:=fun ds S Q=>∃ (p:Pc),ds=[Pd p]/\(p.st=0\/p.st=1)/\Q (.int p.fin) S
abbrev pX:DS :=
  (zV (dCall Vv (zf Z2 (zf W7 zF))))
def zoX:BodyOk 1 pX K8:=by
 rintro ds S Q ⟨p,rfl,hs,q⟩
 unfold pX
 walk_at"g"
 exact⟨p,_,rfl,hs,fin_same q⟩
def RG:ZV:=fun ds S Q=>∃ (n:Nat) (lo hi to st:Int) (ps:List Pc),ds=[.ref n,.int lo,.int hi,.int to,.int st]/\S[n]?=some (.lst (ps.map Pd))/\ZW ps/\(st=0\/st=1)/\ps.length<=10000 /\
 (lo<=hi->∀ p,ps.getLast?=some p->p.hi+1=lo/\p.fin<=to)/\∀ qs,Qa ps lo hi to st qs->Q .non (S.set n (.lst (qs.map Pd)))
abbrev wF:DS :=
    (zA (zH Z1 Yc)
 (zA (sJ (ZC (S9 (dT (Z7 oLe Z1 ZQ)) (S9 (dT (Z7 Xm (dB Y4 Zb) Zw)) (dT (dCall Ir (zf (Z7 ZX Z2 (Yp Yo ZK)) YD))))) (zA (zH (Z7 ZX Z2 (Yp Yo ZK)) VL)
 (zA (zH (Z7 Zo ZP (dCall K8 Rn)) Ui)
 (zA (sJ (zH (RL (dT (Z7 oEq ZF Xq)) ZQ Z1) Nx))
 (zA (zH (dTup (zf zxL (zf Vc (zf zxH Ge)))) (QD Z2 (Yp Yo ZK)))
 (zH (Z7 Zz Vc ZK) Yc))))) Zt))
 (ZC (dT (Z7 oLe Zx ZQ)) (Zk (dM UL Z2 (zf (dTup (zf Zx (zf ZQ (zf (Z7 Zz ZP (Z7 Yw ZF (Z7 Zo Zx Z1))) (zf (RL (dT (Z7 oLt Zx ZQ)) ZF Zw) zF))))) zF))) Zt)))
def zv9:BodyOk 9 wF RG:=by
  rintro ds S Q ⟨n,lo,hi,to,st,ps,rfl,hn,hr,hst,hlen,hp,q⟩
  replace q:=q _ (zwI hr hst hp)
  unfold Wi at q
  have hb:ps.length<big:=by unfold big;lia
  have hnl:n<S.length:=by
    rcases qP n S.length with g|g
    . exact g
    . rw[qv g]at hn;cases hn
  have hmul:∀ x,YM st x:=fun x=>.inr (.inl (by rcases hst with e|e<;>rw[e]<;>decide))
  unfold wF
  walk_at"g"
  refine Cr ?_
  walk_at"g"
  refine ZM (fun g=>?_) (fun g=>?_)
  . walk_at"g"
    rw[qc]
    refine ZM (fun g1=>?_) (fun g1=>?_)
    . cases hl:ps.getLast? with
      |none=>rw[Qx]at hl;subst hl;simp at g1
      |some p =>
        obtain⟨h1,h2⟩:=hp g p hl
        have gp:=hr.good p (List.mem_of_getLast? hl)
        have al:=yH hl
        have il:=gA hl
        rw[hl]at q
        simp only[]at q
        walk_at"g"
        refine⟨p,to,rfl,gp.st,?_⟩
        walk_at"g"
        refine ZM (fun g2=>?_) (fun g2=>?_)
        . rw[if_pos ⟨g,g2⟩]at q
          walk_at"g"
          refine⟨p,rfl,gp.st,?_⟩
          walk_at"g"
          refine Cr ?_
          walk_at"g"
          refine ZM (fun g3=>?_) (fun g3=>?_)
          . rw[if_pos g3,if_neg (by lia)]at q
            walk_at"g"
            refine G8 hn il ?_
            rw[vM (q:=⟨p.lo,hi,p.to,to-p.fin⟩) hl]
            walk_at"g"
            walk_at"g"
            refine ZM (fun g4=>absurd g4 (by lia)) (fun g4=>?_)
            walk_at"g"
            exact fin_same q
          . rw[if_neg g3]at q
            walk_at"g"
            refine G8 hn il ?_
            rw[vM (q:=⟨p.lo,lo,p.to,to-p.fin⟩) hl]
            walk_at"g"
            have hbl:((ps.dropLast++[(⟨p.lo,lo,p.to,to-p.fin⟩:Pc)]).map Pd).length<big:=by rw[qc,qf,List.length_dropLast];unfold big;simp;lia
            have hn2:(S.set n (.lst ((ps.dropLast++[(⟨p.lo,lo,p.to,to-p.fin⟩:Pc)]).map Pd)))[n]?=some (.lst ((ps.dropLast++[(⟨p.lo,lo,p.to,to-p.fin⟩:Pc)]).map Pd)):=qN hnl
            walk_at"g"
            refine ZM (fun g4=>?_) (fun g4=>?_)
            . rw[if_pos g4]at q
              have hc:=hmul (lo+1-lo)
              walk_at"g"
              refine ZM (fun g5=>?_) (fun g5=>?_)
              . rw[if_pos g5]at q
                walk_at"g"
                rw[List.set_set]
                refine fin_same ?_
                rw[qA]at q;exact q
              . rw[if_neg g5]at q
                walk_at"g"
                rw[List.set_set]
                refine fin_same ?_
                rw[qA]at q;exact q
            . rw[if_neg g4]at q
              walk_at"g"
              exact fin_same q
        . rw[if_neg (fun z=>g2 z.2),if_pos g]at q
          have hc:=hmul (lo-lo)
          walk_at"g"
          refine ZM (fun g4=>?_) (fun g4=>absurd g g4)
          walk_at"g"
          refine ZM (fun g5=>?_) (fun g5=>?_)
          . rw[if_pos g5]at q
            walk_at"g"
            refine fin_same ?_
            rw[qA]at q
            simpa using q
          . rw[if_neg g5]at q
            walk_at"g"
            refine fin_same ?_
            rw[qA]at q
            simpa using q
    . have:ps=[]:=Rt.mp (by lia)
      subst this
      simp only[List.getLast?_nil]at q
      rw[if_pos g]at q
      have hc:=hmul (lo-lo)
      walk_at"g"
      refine ZM (fun g4=>?_) (fun g4=>absurd g g4)
      walk_at"g"
      refine ZM (fun g5=>?_) (fun g5=>?_)
      . rw[if_pos g5]at q
        walk_at"g"
        refine fin_same ?_
        simpa using q
      . rw[if_neg g5]at q
        walk_at"g"
        refine fin_same ?_
        simpa using q
  . walk_at"g"
    refine ZM (fun g4=>absurd g4 g) (fun g4=>?_)
    walk_at"g"
    refine fin_same ?_
    have e:S.set n (.lst (ps.map Pd))=S:=List.ext_getElem? fun i=>by
      by_cases hi:i=n
      . subst hi;rw[qN hnl,hn]
      . rw[qM (Ne.symm hi)]
    cases hl:ps.getLast? with
    |none =>
      rw[hl]at q
      simp only[]at q
      rw[if_neg g]at q
      rw[Qx]at hl
      subst hl
      rw[e]at q;exact q
    |some p =>
      rw[hl]at q
      simp only[]at q
      rw[if_neg (fun z=>g z.1),if_neg g,e]at q
      exact q
structure Fl (cs:List (Int×Int))(delay first:Int)(ps:List Pc):Prop where
  isR:ZW ps
  len:ps.length<=2*cs.length
  led:∀ h,at' ps h=if first<=h then(Xu cs h).map (· + delay)else none
def MJ:ZV:=fun ds S Q=>∃ (cs:List (Int×Int)) (delay first:Int),ds=[.tup (cs.map p2),.int delay,.int first]/\Nv cs/\cs.length<=2000/\∀ ps,Fl cs delay first ps->Q (.tup (ps.map Pd)) S
structure Fi (cs:List (Int×Int))(delay first:Int)(ps:List Pc)(hour:Int):Prop where
  isR:ZW ps
  ge:first<=hour
  beh:∀ c∈cs,c.2<hour
  led:∀ h,at' ps h=if first<=h/\h<hour then(Xu cs h).map (· + delay)else none
  full:∀ h,first<=h->h<hour->∃ v,Xu cs h=some v
  none:ps=[]->hour=first
  last:∀ p,ps.getLast?=some p->p.hi+1=hour/\∃ d∈cs,p.fin<=d.2+delay
def zrT {cs:List (Int×Int)}{c:Int×Int}{delay first hour:Int}{ps qs rs:List Pc}(I:Fi cs delay first ps hour)(hc:c.1<=c.2)(hd':∀ d∈cs,d.2+2<=c.1)
  (h1:Qa ps hour (c.1-1) (c.1+delay) 0 qs) (h2:Qa qs (max hour c.1) c.2 (max hour c.1+delay) 1 rs):Fi (cs++[c]) delay first rs (max hour (c.2+1)):=by
 have e1:Xu [c]=fun h=>if h<=c.2 then some (max h c.1)else none:=by funext h;rfl
 have nx:∀ h,hour<=h->Xu (cs++[c]) h=if h<=c.2 then some (max h c.1)else none:=fun h hh=>by
  rw[Bl,Em fun d hd=>by have:=I.beh d hd;lia,e1];rfl
 have nl:∀ h,first<=h->h<hour->Xu (cs++[c]) h=Xu cs h:=fun h h1 h2=>by
  obtain⟨v,hv⟩:=I.full h h1 h2
  rw[Bl,hv];rfl
 have hge:=I.ge
 by_cases hh:hour<=c.2
 ·have em:max hour (c.2+1)=c.2+1:=by lia
  rw[em]
  refine⟨h2.isR,by lia,fun d hd=>?_,fun h=>?_,fun h a b=>?_,fun e=>?_,fun p hp=>?_⟩
  ·rcases qI.mp hd with hd|hd
   ·have:=hd' d hd;lia
   ·have:d=c:=by simpa using hd
    subst this;lia
  ·rw[h2.led,h1.led,I.led]
   by_cases a1:h<hour
   ·rw[if_neg (by lia),if_neg (by lia)]
    by_cases a2:first<=h
    ·rw[if_pos ⟨a2,a1⟩,if_pos ⟨a2,by lia⟩,nl h a2 a1]
    ·rw[if_neg (by lia),if_neg (by lia)]
   ·by_cases a2:h<=c.2
    ·rw[if_pos ⟨by lia,by lia⟩ (c:=first<=h/\h<c.2+1),nx h (by lia),if_pos a2]
     by_cases a3:h<=c.1-1
     ·rw[if_neg (by lia),if_pos ⟨by lia,a3⟩]
      rw[LR]
      congr 1
      show _=max h c.1+delay
      lia
     ·rw[if_pos ⟨by lia,a2⟩]
      rw[LR]
      congr 1
      show _=max h c.1+delay
      lia
    ·rw[if_neg (by lia),if_neg (by lia),if_neg (by lia),if_neg (by lia)]
  ·by_cases a1:h<hour
   ·rw[nl h a a1];exact I.full h a a1
   ·rw[nx h (by lia),if_pos (by lia)];exact⟨_,rfl⟩
  ·obtain⟨q,hq,_⟩:=h2.last (by lia)
   rw[e]at hq;simp at hq
  ·obtain⟨q,hq,e2,e3⟩:=h2.last (by lia)
   rw[hp]at hq
   cases hq
   exact⟨by lia,c,by simp,by rw[e3];lia⟩
 ·have em:max hour (c.2+1)=hour:=by lia
  have q1:=h1.none (by lia)
  have q2:=h2.none (by lia)
  subst q2
  subst q1
  rw[em]
  refine⟨I.isR,I.ge,fun d hd=>?_,fun h=>?_,fun h a b=>?_,I.none,fun p hp=>?_⟩
  ·rcases qI.mp hd with hd|hd
   ·exact I.beh d hd
   ·have:d=c:=by simpa using hd
    subst this;lia
  ·rw[I.led]
   by_cases a1:first<=h/\h<hour
   ·rw[if_pos a1,if_pos a1,nl h a1.1 a1.2]
   ·rw[if_neg a1,if_neg a1]
  ·rw[nl h a b];exact I.full h a b
  ·obtain⟨e,d,hd,f⟩:=I.last p hp
   exact⟨e,d,by simp[hd],f⟩
abbrev xH:DS :=
    (zA (zH (Yz zF) Y9)
 (zA (zH ZQ YX)
 (zA (Yx (Ze Z2) (XF 2 (Zn Yc (Zn VL X3))) (zA (Zk (dCall RG (zf ZP (zf ZF (zf (Z7 Zo Zx ZK) (zf (Z7 Zz Zx Z1) (zf Zw zF)))))))
 (zA (zH (dB V6 (zf ZF FZ)) Ui)
 (zA (Zk (dCall RG (zf ZP (zf Xq (zf Ys (zf (Z7 Zz Xq Z1) (zf ZK zF)))))))
 (zH (dB V6 (zf ZF (zf (Z7 Zz Ys ZK) zF))) YX)))))
 (zV (dB Oz YD)))))
def zmp:BodyOk 8 xH MJ:=by
 rintro ds S Q ⟨cs,delay,first,rfl,ok,hl,q⟩
 unfold xH
 walk_at"g"
 refine Yr (fun i Z S'=>∃ ps hour w1 w2 w3,Z=[some (.tup (cs.map p2)),some (.int delay),some (.int first),some (.ref S.length),some (.int hour),w1,w2,w3]/\S'=S++[.lst (ps.map Pd)]/\ps.length<=2*i/\Fi (cs.take i) delay first ps hour)
  ⟨[],first,none,none,none,rfl,rfl,by simp,ZW.nil,qC _,by simp,fun h=>by rw[if_neg (by lia)];rfl,fun h a b=>by lia,fun _=>rfl,by simp⟩ (fun _ _ _ _=>True.intro) ?_ ?_
 ·rintro i d Z S' hd ⟨ps,hour,w1,w2,w3,rfl,rfl,hpl,I⟩
  obtain⟨c,hc,rfl⟩:=R3 hd
  obtain⟨c1,c2⟩:=ok.mem hc
  have hi:i<cs.length:=by
   rcases qP i cs.length with g|g
   ·exact g
   ·rw[qv g]at hc;cases hc
  walk_at"g"
  refine⟨_,_,_,_,_,ps,rfl,YC,I.isR,.inl rfl,by lia,?_,fun qs hq=>?_⟩
  ·intro z p hp
   obtain⟨e,d,hd,f⟩:=I.last p hp
   have:=c2 d hd
   exact⟨e,by lia⟩
  rw[Wa]
  walk_at"g"
  refine⟨_,_,_,_,_,qs,rfl,YC,hq.isR,.inr rfl,by have:=hq.len;lia,?_,fun rs hr=>?_⟩
  ·intro z p hp
   by_cases a:hour<=c.1-1
   ·obtain⟨r,er,e1,e2⟩:=hq.last a
    rw[hp]at er
    cases er
    exact⟨by lia,by rw[e2];lia⟩
   ·rw[hq.none (by lia)]at hp
    obtain⟨e,d,hd,f⟩:=I.last p hp
    have:=c2 d hd
    exact⟨by lia,by lia⟩
  rw[Wa]
  walk_at"g"
  refine⟨rs,_,_,_,_,rfl,rfl,by have:=hq.len;have:=hr.len;lia,?_⟩
  rw[Wm hc]
  exact zrT I c1 c2 hq hr
 ·rintro Z S' ⟨ps,hour,w1,w2,w3,rfl,rfl,hpl,I⟩
  rw[qc]at hpl I
  rw[Ss]at I
  walk_at"g"
  refine Yg (RT ps) (q ps ⟨I.isR,hpl,fun h=>?_⟩)
  rw[I.led]
  by_cases a:first<=h
  ·rw[if_pos a]
   by_cases b:h<hour
   ·rw[if_pos ⟨a,b⟩]
   ·rw[if_neg (by lia),Em fun d hd=>by have:=I.beh d hd;lia];rfl
  ·rw[if_neg (by lia),if_neg a]
def Tz (V:Vl)(Z6:List (List (Sum Int Str)×D))(k j:Nat):Prop:=∀ b c,V.bs[k]?=some b->V.bs[j]?=some c->∃ ms ps,La V b.1 c.1 b.2 c.2 ms/\Fl ms V.dl V.h0 ps/\dval Z6 [.inr b.1,.inr c.1]=some (.tup (ps.map Pd))
def Tz.put {V:Vl}(ok:Yy V){Z6:List (List (Sum Int Str)×D)}{b c:Str×(Int×Int)}(mb:b∈V.bs)(mc:c∈V.bs){ms:List (Int×Int)}{ps:List Pc}(hm:La V b.1 c.1 b.2 c.2 ms)(hp:Fl ms V.dl V.h0 ps){k j:Nat}(h:Tz V Z6 k j\/(V.bs[k]?=some b/\V.bs[j]?=some c)):Tz V (dput Z6 [.inr b.1,.inr c.1] (.tup (ps.map Pd))) k j:=fun b' c' hb hc=>by
 rw[BZ]
 by_cases e:b.1=b'.1/\c.1=c'.1
 ·have e1:=Jz ok mb (qe hb) e.1
  have e2:=Jz ok mc (qe hc) e.2
  subst e1 e2
  exact⟨ms,ps,hm,hp,by rw[if_pos rfl]⟩
 ·rcases h with h|⟨h1,h2⟩
  ·obtain⟨ms',ps',h1,h2,h3⟩:=h b' c' hb hc
   refine⟨ms',ps',h1,h2,?_⟩
   rw[if_neg (fun e'=>e ?_)]
   ·exact h3
   ·have e1:=(R6 e').1
    have e2:=(R6 (R6 e').2).1
    exact⟨Sum.inr.inj e1,Sum.inr.inj e2⟩
  ·rw[h1]at hb;rw[h2]at hc
   cases hb;cases hc
   exact absurd ⟨rfl,rfl⟩ e
theorem wW:∀ {ms:List (Int×Int)},Zr ms->Nv ms
 |[],_=>True.intro
 |c::r,h=>⟨h.le c (qh.mpr (.inl rfl)),fun d hd=>(qU.mp h.ap).1 d hd,wW ⟨fun c hc=>h.le c (qh.mpr (.inr hc)),(qU.mp h.ap).2⟩⟩
def Ez (S:Z5)(x:D)(V:Vl):Prop:=∃ n Z6,x=.ref n/\S[n]?=some (.dt Z6)/\∀ k j,k<V.bs.length->j<V.bs.length->Tz V Z6 k j
def Mj:ZV:=fun ds S Q=>∃ (v:D) (V:Vl),ds=[v]/\Yj S v V/\Yy V/\∀ (T:Z5) (x:D),Ez (S++T) x V->Q x (S++T)
abbrev vh:DS :=
    (zA (zH (FP) V7)
 (zA (Yx (Ze (dCall Sw Zb)) Yu (Yx (Ze (dCall Sw Zb)) Y9 (Og Z1 (dTup (zf ZQ YD)) (dCall MJ (zf (WT Jf xF (zf Z2 (zf ZQ YD))) (zf (Yn "delay" Z2) (zf (Yn "first" Z2) zF)))))))
 (zV Z1)))
def zmq:BodyOk 4 vh Mj:=by
 rintro ds S Q ⟨v,V,rfl,hv,ok,q⟩
 unfold vh
 have b12:=ok.b12
 obtain⟨m,g,b',f,rfl,hm,_⟩:=id hv
 have vo:∀ T,Yj (S++T) (.ref m) V:=fun T=>hv.old
 have hmT:∀ T,(S++T)[m]?=some (.ins "Valley" (vF (.ref g) (.ref b') (.ref f) (WD V.hz) (.int V.h0) (.int V.h1) (.int V.dl))):=fun T=>YF hm
 have fl1:∀ b∈V.bs,fl 20 (.str b.1)=true:=fun b hb=>Nz (ok.nm b hb) 20
 walk_at"g"
 refine⟨_,V,rfl,vo _,by lia,?_⟩
 unfold New
 rw[qm]
 obtain⟨nl,hnl⟩:∃ nl,nl=(V.bs.map (·.1)).map D.str:=⟨_,rfl⟩
 have lnl:nl.length=V.bs.length:=by rw[hnl,qc,qc]
 have gnl:∀ {i:Nat} {d:D},nl[i]?=some d->∃ b,V.bs[i]?=some b/\d=.str b.1:=fun {i d} h=>by
  rw[hnl,qj,qj]at h
  cases e:V.bs[i]? with
  |none=>rw[e]at h;cases h
  |some b=>rw[e]at h;exact⟨b,rfl,(qB h).symm⟩
 rw[<- hnl]
 have k1:∀ Z6 G,Lst (S++Cell.dt Z6::Cell.lst nl::G) (.ref (S.length+1)) nl:=fun Z6 G=>Lst.at (k:=1) rfl
 have k10:Lst (S++([Cell.dt []]++[Cell.lst nl])) (.ref (S++[Cell.dt []]).length) nl:=by
  rw[show(S++[Cell.dt []]).length=S.length+1 by simp];exact k1 _ _
 walk_at"g"
 rw[show(S++[Cell.dt []]).length=S.length+1 by simp]
 refine Yr (fun i Z S'=>∃ (Z6:List (List (Sum Int Str)×D)) (G:Z5) (w2 w3:Option D),S'=S++Cell.dt Z6::Cell.lst nl::G/\Z6.length<=i*12/\(∀ k j,k<i->j<V.bs.length->Tz V Z6 k j)/\Z=[some (.ref m),some (.ref S.length),w2,w3]) ⟨[],[],_,_,rfl,qO _,fun k j h=>absurd h (M4 _),rfl⟩ (fun i Z S' zq8=>by obtain⟨_,_,_,_,e,_⟩:=zq8;exact e▸k1 _ _) ?_ ?_
 ·rintro i d Z S' hd ⟨Z6,G,w2,w3,rfl,hl,hk,rfl⟩
  have li:i<V.bs.length:=by rw[<- lnl];exact zU hd
  obtain⟨b,hb,rfl⟩:=gnl hd
  have mb:=qe hb
  walk_at"g"
  refine⟨_,V,rfl,vo _,by lia,?_⟩
  unfold New
  rw[<- hnl,qm]
  have k2:∀ Z6 H,Lst (S++Cell.dt Z6::Cell.lst nl::(G++Cell.lst nl::H)) (.ref (S++Cell.dt Z6::Cell.lst nl::G).length) nl:=fun Z6 H=>by
   have e:S++Cell.dt Z6::Cell.lst nl::(G++Cell.lst nl::H)=(S++Cell.dt Z6::Cell.lst nl::G)++Cell.lst nl::H:=by simp
   rw[e];exact Lst.at0
  have lk:∀ kvs',(S++Cell.dt kvs'::Cell.lst nl::G).length=(S++Cell.dt Z6::Cell.lst nl::G).length:=fun kvs'=>by simp
  have k20:=k2 Z6 []
  generalize (S++Cell.dt Z6::Cell.lst nl::G).length=nm at k20 lk
  walk_at"g"
  refine Yr (fun j Z S'=>∃ (Z6:List (List (Sum Int Str)×D)) (H:Z5) (w3:Option D),S'=S++Cell.dt Z6::Cell.lst nl::(G++Cell.lst nl::H)/\Z6.length<=i*12+j/\(∀ k a,a<V.bs.length->k<i\/(k=i/\a<j)->Tz V Z6 k a)/\Z=[some (.ref m),some (.ref S.length),some (.str b.1),w3]) ⟨Z6,[],_,rfl,by lia,fun k a ha h=>hk k a (by lia) ha,rfl⟩ (fun j Z S' zq9=>by obtain⟨kvs',H,_,e,_⟩:=zq9;exact e▸(lk kvs'▸k2 kvs' H)) ?_ ?_
  ·rintro j d Z S' hdj ⟨kvs',H,w3,rfl,hl',hk',rfl⟩
   have lj:j<V.bs.length:=by rw[<- lnl];exact zU hdj
   obtain⟨c,hc,rfl⟩:=gnl hdj
   have mc:=qe hc
   have hV:=hmT (Cell.dt kvs'::Cell.lst nl::(G++Cell.lst nl::H))
   walk_at"g"
   refine⟨_,V,b.1,c.1,rfl,vo _,ok,fl1 b mb,fl1 c mc,fun no=>?_,fun s t hs ht ms hms=>?_⟩
   ·rcases no with no|no
    ·exact(no b mb rfl).elim
    ·exact(no c mc rfl).elim
   have es:s=b.2:=congrArg Prod.snd (Jz ok hs mb rfl)
   have et:t=c.2:=congrArg Prod.snd (Jz ok ht mc rfl)
   subst es et
   walk_at"g"
   refine⟨ms,_,_,rfl,wW hms.ok,by have:=hms.len;lia,fun ps hps=>?_⟩
   walk_at"g"
   have i12:i*12<=144:=by lia
   refine Ug.t (ks:=[.inr b.1,.inr c.1]) YC (by unfold big;lia) (Fx ?_)
   refine⟨_,H,_,rfl,by have:=BX kvs' [.inr b.1,.inr c.1] (.tup (ps.map Pd));lia,fun k a ha h=>?_,rfl⟩
   refine Tz.put ok mb mc hms hps ?_
   by_cases e:k=i/\a=j
   ·obtain⟨rfl,rfl⟩:=e
    exact .inr ⟨hb,hc⟩
   ·exact .inl (hk' k a ha (by lia))
  ·rintro Z S' ⟨kvs',H,w3,rfl,hl',hk',rfl⟩
   rw[lnl]at hl' hk'
   exact⟨kvs',_,_,_,rfl,by lia,fun k a h1 h2=>hk' k a h2 (by lia),rfl⟩
 ·rintro Z S' ⟨Z6,G,w2,w3,rfl,hl,hk,rfl⟩
  rw[lnl]at hk
  walk_at"g"
  exact fin_same (q _ _ ⟨_,Z6,rfl,YC,hk⟩)
def Nj (f l h:Int):Option Int:=if f<=h/\h<=l then some h else none
def JC:ZV:=fun ds S Q=>∃ (f l:Int),ds=[.int f,.int l]/\∀ ps,ZW ps->(∀ h,at' ps h=Nj f l h)->ps.length<=2->Q (.tup (ps.map Pd)) S
abbrev uH:DS :=
    (zA (ZC (dT (Z7 Xm Z2 Z1)) (zV (dTup zF)) Zt)
 (zV (dCall MJ (zf (dTup (zf (dTup (zf Z2 Yk)) zF)) (zf Zw Zb)))))
def zof:BodyOk 2 uH JC:=by
  rintro ds S Q ⟨f,l,rfl,k⟩
  unfold uH
  walk_at"g"
  refine ZM (fun g=>?_) (fun g=>?_)
  . walk_at"g"
    refine fin_same (k [] ZW.nil (fun h=>?_) (by simp))
    unfold Nj
    rw[if_neg (by lia)];rfl
  walk_at"g"
  refine⟨[(f,l)],0,f,rfl,⟨by show f<=l;lia,by simp,trivial⟩,by simp,fun ps ok=>fin_same (k ps ok.isR (fun h=>?_) ok.len)⟩
  rw[ok.led]
  unfold Nj
  by_cases c:f<=h
  . rw[if_pos c]
    show(if h<=l then some (max h f)else none).map (· + 0)=_
    by_cases c2:h<=l
    . rw[if_pos c2,if_pos ⟨c,c2⟩]
      show some (max h f+0)=some h
      congr 1;lia
    . rw[if_neg c2,if_neg (fun z=>c2 z.2)];rfl
  . rw[if_neg c,if_neg (fun z=>c z.1)]
def pStart (p f:Pc):Int:=max p.to f.lo
def pEnd (p f:Pc):Int:=min p.fin f.hi
def WK (p f:Pc):Int:=if pStart p f<=pEnd p f then(if p.st=0 then p.lo else pStart p f+(p.lo-p.to))else 1
def UW (p f:Pc):Int:=if pStart p f<=pEnd p f then(if p.st=0 then p.hi else pEnd p f+(p.lo-p.to))else 0
def Iw (p f:Pc):Int:=if p.st=0 then 0 else f.st
def Ig:ZV:=fun ds S Q=>∃ (n:Nat) (p f:Pc) (ps:List Pc),ds=[.ref n,Pd p,Pd f]/\S[n]?=some (.lst (ps.map Pd))/\ZW ps/\Good p/\Good f/\ps.length<=9000 /\
 (WK p f<=UW p f->∀ r,ps.getLast?=some r->r.hi+1=WK p f/\r.fin<=f.led (pStart p f))/\∀ qs,Qa ps (WK p f) (UW p f) (f.led (pStart p f)) (Iw p f) qs->Q .non (S.set n (.lst (qs.map Pd)))
abbrev sE:DS :=
    (zA (zH (dB V6 (zf vR (zf RQ zF))) Y9)
 (zA (zH (dB Ud (zf (dCall K8 Yk) (zf Sy zF))) YX)
 (ZC (S9 (dT (Z7 oLe ZP ZF)) (dT (Z7 oEq Ke Zw))) (Zk (dCall RG (zf Z2 (zf Vw (zf T8 (zf (dCall Vv (zf ZQ YD)) (zf Zw zF))))))) (ZC (dT (Z7 oLe ZP ZF)) (zA (zH (Z7 Zo Vw vR) Yc)
 (Zk (dCall RG (zf Z2 (zf (Z7 Zz ZP Zx) (zf (Z7 Zz ZF Zx) (zf (dCall Vv (zf ZQ YD)) (zf DN zF)))))))) Zt))))
def zku:BodyOk 6 sE Ig:=by
 rintro ds S Q ⟨n,p,f,ps,rfl,hn,hr,gp,gf,hl,hp,q⟩
 unfold sE
 walk_at"g"
 refine⟨p,rfl,gp.st,?_⟩
 walk_at"g"
 refine ZM (fun g=>?_) (fun g=>?_)
 ·have g':pStart p f<=pEnd p f:=g
  unfold WK UW at hp q
  rw[if_pos g',if_pos g']at hp q
  unfold Iw at q
  walk_at"g"
  refine ZM (fun g1=>?_) (fun g1=>?_)
  ·rw[if_pos g1,if_pos g1]at hp
   rw[if_pos g1,if_pos g1,if_pos g1]at q
   walk_at"g"
   refine⟨f,_,rfl,gf.st,?_⟩
   walk_at"g"
   exact⟨_,_,_,_,_,ps,rfl,hn,hr,.inl rfl,by lia,hp,fun qs hq=>fin_same (q qs hq)⟩
  ·rw[if_neg g1,if_neg g1]at hp
   rw[if_neg g1,if_neg g1,if_neg g1]at q
   walk_at"g"
   refine ZM (fun g2=>?_) (fun g2=>absurd g g2)
   walk_at"g"
   refine⟨f,_,rfl,gf.st,?_⟩
   walk_at"g"
   exact⟨_,_,_,_,_,ps,rfl,hn,hr,gf.st,by lia,hp,fun qs hq=>fin_same (q qs hq)⟩
 ·have g':¬ pStart p f<=pEnd p f:=g
  walk_at"g"
  refine ZM (fun g2=>absurd g2 g) (fun g2=>?_)
  walk_at"g"
  refine fin_same ?_
  have:=q ps ?_
  ·rw[set_same hn]at this;exact this
  ·unfold WK UW
   rw[if_neg g',if_neg g']
   exact⟨hr,fun h=>by rw[if_neg (by lia)],fun z=>by lia,fun _=>rfl,by lia,fun p hp=>⟨p,hp,rfl,rfl⟩,fun _ z=>by lia⟩
def comp (ps qs:List Pc)(h:Int):Option Int:=(at' ps h).bind (at' qs)
def zpc {ps qs:List Pc}(hp:ZW ps)(hq:ZW qs):O8 (comp ps qs):=fun a b x y ha hb hab=>by
 unfold comp at ha hb
 cases h1:at' ps a with
 |none=>rw[h1]at ha;cases ha
 |some u =>
  cases h2:at' ps b with
  |none=>rw[h2]at hb;cases hb
  |some v =>
   rw[h1]at ha
   rw[h2]at hb
   exact Uo hq ha hb (Uo hp h1 h2 hab)
def Iu:ZV:=fun ds S Q=>∃ (ps qs:List Pc),ds=[.tup (ps.map Pd),.tup (qs.map Pd)]/\ZW ps/\ZW qs/\ps.length<=80/\qs.length<=80/\(∀ p∈ps.head?,∀ q∈qs.head?,q.lo<=p.to) /\
 ∀ rs,ZW rs->(∀ h,at' rs h=comp ps qs h)->rs.length<=ps.length*qs.length->Q (.tup (rs.map Pd)) S
def cutAt (p:Pc)(b:Int):Int:=if b<=p.to then p.lo else if p.fin<b then p.hi+1 else b+(p.lo-p.to)
def zuf {ps qs:List Pc}(hp:ZW ps)(hq:ZW qs){i j:Nat}{p f:Pc}(ep:ps[i]?=some p)(ef:qs[j]?=some f) :
    (WK p f<=UW p f->WK p f=cutAt p f.lo)/\(∀ x,WK p f<=x->x<=UW p f->comp ps qs x=some (f.led (pStart p f)+Iw p f*(x-WK p f))) /\
    (if WK p f<=UW p f then UW p f+1 else cutAt p f.lo)=cutAt p (f.hi+1):=by
  have gp:=hp.good p (qe ep)
  have gf:=hq.good f (qe ef)
  have l1:=gp.le
  have l2:=gf.le
  have l3:=DW gp
  unfold WK UW Iw pStart pEnd cutAt
  by_cases hs:max p.to f.lo<=min p.fin f.hi
  . rw[if_pos hs,if_pos hs]
    rcases gp.st with e|e
    . have ff:=yx e
      rw[if_pos e,if_pos e,if_pos e]
      refine⟨fun _=>by rw[if_pos (by lia)],fun x h1 h2=>?_,?_⟩
      . unfold comp
        rw[Xf hp ep ⟨h1,h2⟩,J7 e]
        show at' qs p.to=_
        rw[Xf hq ef ⟨by lia,by lia⟩,show max p.to f.lo=p.to by lia];simp
      . rw[if_pos l1];(repeat' split)<;>lia
    . have ff:=ou e
      have ne:¬ p.st=0:=by lia
      rw[if_neg ne,if_neg ne,if_neg ne]
      refine⟨fun _=>by (repeat' split)<;>lia,fun x h1 h2=>?_,?_⟩
      . unfold comp
        rw[Xf hp ep ⟨by lia,by lia⟩,Jr e]
        show at' qs (p.to+(x-p.lo))=_
        rw[Xf hq ef ⟨by lia,by lia⟩]
        congr 1
        unfold Pc.led
        rw[Tj gf.st,Tj gf.st,Tj gf.st]
        split<;>lia
      . (repeat' split)<;>lia
  . rw[if_neg hs,if_neg hs]
    refine⟨fun z=>by lia,fun x h1 h2=>by lia,?_⟩
    rw[if_neg (by lia)]
    (repeat' split)<;>lia
structure zy8 (ps qs:List Pc)(a n:Int)(i:Nat)(found:List Pc):Prop where
 pre:Pre (comp ps qs) a n found
 on:n=XM ps i\/((∀ h,n<=h->comp ps qs h=none)/\(qs≠[]->∀ k p,i<=k->ps[k]?=some p->endOf qs<=p.to))
def iy {ps qs:List Pc}(hp:ZW ps)(hq:ZW qs){i:Nat}{p:Pc}(ep:ps[i]?=some p)(h:Int)(h1:p.lo<=h)(h2:h<=p.hi->endOf qs<=p.led h)(h3:endOf qs<=p.fin):comp ps qs h=none:=by
 unfold comp
 cases hv:at' ps h with
 |none=>rfl
 |some v =>
  refine Om hq ?_
  by_cases hh:h<=p.hi
  ·rw[Xf hp ep ⟨h1,hh⟩]at hv
   cases hv
   exact h2 hh
  ·have gp:=(hp.good p (qe ep)).le
   have e1:=Xf hp ep (h:=p.hi) ⟨gp,qC _⟩
   have:=Uo hp e1 hv (by lia)
   unfold Pc.fin at h3
   lia
abbrev yI:DS :=
    (zA (zH (Yz zF) Yu)
 (zA (Yx (Ze Z2) Y9 (Yx (Ze Z1) YX (Zk (dCall Ig (zf ZQ (zf ZP T5))))))
 (zV (dB Oz YK))))
def zps:BodyOk 5 yI Iu:=by
  rintro ds S Q ⟨ps,qs,rfl,hp,hq,hpl,hql,hh,q⟩
  unfold yI
  walk_at"g"
  have mono:=zpc hp hq
  refine Yr (fun i Z S'=>∃ found n w1 w2,Z=[some (.tup (ps.map Pd)),some (.tup (qs.map Pd)),some (.ref S.length),w1,w2]/\S'=S++[.lst (found.map Pd)]/\zy8 ps qs (XM ps 0) n i found/\found.length<=i*qs.length)
    ⟨[],XM ps 0,none,none,rfl,rfl,⟨Pre.start _ _,.inl rfl⟩,by simp⟩ (fun _ _ _ _=>True.intro) ?_ ?_
  . rintro i d Z S' hd ⟨found,n,w1,w2,rfl,rfl,I,hfl⟩
    obtain⟨p,ep,rfl⟩:=get_map hd
    have hi:=zU ep
    have gp:=hp.good p (qe ep)
    obtain⟨el1,el2⟩:=Dd hp ep
    have hb:i*qs.length<=6400:=by
      have:=MP (show i<=80 by lia) hql
      lia
    walk_at"g"
    refine Yr (fun j Z S'=>∃ found n w2,Z=[some (.tup (ps.map Pd)),some (.tup (qs.map Pd)),some (.ref S.length),some (Pd p),w2]/\S'=S++[.lst (found.map Pd)]/\Pre (comp ps qs) (XM ps 0) n found /\
      (n=cutAt p (XM qs j)\/((∀ h,n<=h->comp ps qs h=none)/\(qs≠[]->∀ k p,i<=k->ps[k]?=some p->endOf qs<=p.to)))/\found.length<=i*qs.length+j)
      ⟨found,n,_,rfl,rfl,I.pre,?_,by lia⟩ (fun _ _ _ _=>True.intro) ?_ ?_
    . rcases I.on with e|e
      . cases hq0:qs[0]? with
        |none =>
          right
          have:qs=[]:=by cases qs with|nil=>rfl|cons a b=>simp at hq0
          subst this
          refine⟨fun h _=>?_,fun z=>absurd rfl z⟩
          unfold comp;cases at' ps h<;>rfl
        |some f =>
          left
          rw[e,el1]
          have:XM qs 0<=p.to:=by
            unfold XM
            rw[hq0]
            have h0:∃ p0,ps[0]?=some p0:=⟨ps[0]'(by lia),qb _⟩
            obtain⟨p0,e0⟩:=h0
            have:=hh p0 (by rw[Kz];exact e0) f (by rw[Kz];exact hq0)
            have a1:=Xf hp e0 (h:=p0.lo) ⟨qC _,(hp.good p0 (qe e0)).le⟩
            have a2:=Xf hp ep (h:=p.lo) ⟨qC _,gp.le⟩
            rw[Mt]at a1 a2
            have hlo:p0.lo<=p.lo:=by
              cases ps with
              |nil=>simp at e0
              |cons x r =>
                have ex:x=p0:=by simpa using e0
                subst ex
                exact(Tw hp a2).2
            have:=Uo hp a1 a2 hlo
            show f.lo<=p.to
            lia
          unfold cutAt
          rw[if_pos this]
      . exact .inr e
    . rintro j d Z S' hd ⟨found,n,w2,rfl,rfl,pre,on,hfl⟩
      obtain⟨f,ef,rfl⟩:=get_map hd
      have hj:=zU ef
      have gf:=hq.good f (qe ef)
      obtain⟨fl1,fl2⟩:=Dd hq ef
      obtain⟨s1,s2,s3⟩:=zuf hp hq ep ef
      have hlo:WK p f<=UW p f->WK p f=n:=fun z=>by
        rcases on with e|⟨e1,e2⟩
        . rw[s1 z,e,fl1]
        . exfalso
          have h1:=e2 (by intro z;rw[z]at ef;simp at ef) i p (qg _) ep
          have h2:f.hi<endOf qs:=by
            rcases Qj f.hi (endOf qs)with g|g
            . exact g
            . have:=Om hq g
              rw[Xf hq ef ⟨gf.le,qC _⟩]at this;cases this
          have h3:¬ pStart p f<=pEnd p f:=by unfold pStart pEnd;lia
          unfold WK UW at z
          rw[if_neg h3,if_neg h3]at z
          lia
      walk_at"g"
      refine⟨_,p,f,found,rfl,YC,pre.isR,gp,gf,by lia,pre.need mono hlo s2,fun rs hr=>?_⟩
      rw[Wa]
      walk_at"g"
      refine⟨rs,_,_,rfl,rfl,pre.put hlo s2 hr,?_,by have:=hr.len;lia⟩
      rcases on with e|⟨e1,e2⟩
      . left
        rw[fl2,<- s3,e,fl1]
      . right
        rw[if_neg]
        . exact⟨e1,e2⟩
        . intro z
          have:=hlo z
          have hc:=s2 (WK p f) (qC _) z
          rw[e1 _ (by lia)]at hc;cases hc
    . rintro Z S' ⟨found,n,w2,rfl,rfl,pre,on,hfl⟩
      rw[qc]at on hfl
      refine⟨found,n,_,_,rfl,rfl,⟨pre,?_⟩,by rw[Nat.succ_mul];exact hfl⟩
      rcases on with e|⟨e1,e2⟩
      . have eq:XM qs qs.length=endOf qs:=by unfold XM;rw[qv (qg _)]
        rw[eq]at e
        rw[el2]
        by_cases hf:p.fin<endOf qs
        . left
          rw[e]
          unfold cutAt
          have:=DW gp
          rw[if_neg (by lia),if_pos hf]
        . right
          have hn1:p.lo<=n:=by
            rw[e];unfold cutAt
            have:=gp.le
            (repeat' split)<;>lia
          refine⟨fun h hh'=>iy hp hq ep h (by lia) (fun hle=>?_) (by lia),fun _ k p' hk ek=>?_⟩
          . rcases gp.st with z|z
            . rw[J7 z]
              have:=yx z
              lia
            . rw[Jr z]
              have:=ou z
              unfold cutAt at e
              (repeat' split at e)<;>lia
          . have gp':=hp.good p' (qe ek)
            have a1:=Xf hp ep (h:=p.hi) ⟨gp.le,qC _⟩
            have a2:=Xf hp ek (h:=p'.lo) ⟨qC _,gp'.le⟩
            rw[Mt]at a2
            have hlt:p.hi<=p'.lo:=Q8 (apart hp (by lia) ep ek)
            have:=Uo hp a1 a2 hlt
            unfold Pc.fin at hf
            lia
      . exact .inr ⟨e1,fun z k p hk ek=>e2 z k p (by lia) ek⟩
  . rintro Z S' ⟨found,n,w1,w2,rfl,rfl,I,hfl⟩
    rw[qc]at I hfl
    walk_at"g"
    refine Yg (RT found) (q found I.pre.isR (fun h=>I.pre.done ?_ ?_ h) hfl)
    . intro x hx
      unfold comp
      rw[M5]
      . rfl
      . intro q hq'
        have hl:0<ps.length:=List.length_pos_of_mem hq'
        have h0:ps[0]?=some (ps[0]'hl):=qb _
        have:=lo_le hp h0 hq'
        have e:XM ps 0=(ps[0]'hl).lo:=by unfold XM;rw[h0]
        lia
    . intro x hx
      rcases I.on with e|⟨e1,e2⟩
      . have eq:XM ps ps.length=endOf ps:=by unfold XM;rw[qv (qg _)]
        unfold comp
        rw[Om hp (by lia)];rfl
      . exact e1 x hx
def R9:ZV:=fun ds S Q=>∃ (n:Nat) (p:Pc) (lo hi:Int) (f:Int->Option Int) (a:Int) (ps:List Pc),ds=[.ref n,Pd p,.int lo,.int hi]/\S[n]?=some (.lst (ps.map Pd))/\(p.st=0\/p.st=1)/\ps.length<=9000 /\
 O8 f/\Pre f a lo ps/\lo<=hi+1/\(∀ x,lo<=x->x<=hi->f x=some (p.led x))/\∀ qs,Pre f a (hi+1) qs->qs.length<=ps.length+1->Q .non (S.set n (.lst (qs.map Pd)))
abbrev rN:DS :=
  (Zk (dCall RG (zf Z2 (zf ZQ (zf ZP (zf (dCall Vv (zf Z1 YK)) (zf Ke zF)))))))
def zom:BodyOk 4 rN R9:=by
  rintro ds S Q ⟨n,p,lo,hi,f,a,ps,rfl,hn,hst,hl,mono,pre,hlh,hf,q⟩
  unfold rN
  have hf2:∀ x,lo<=x->x<=hi->f x=some (p.led lo+p.st*(x-lo)):=fun x h1 h2=>by
    rw[hf x h1 h2,U8 hst,U8 hst]
    rcases hst with e|e<;>rw[e]<;>simp<;>lia
  walk_at"g"
  refine⟨p,_,rfl,hst,?_⟩
  walk_at"g"
  refine⟨_,_,_,_,_,ps,rfl,hn,pre.isR,hst,by lia,pre.need mono (fun _=>rfl) hf2,fun qs hq=>fin_same (q qs ?_ hq.len)⟩
  have:=pre.put (fun _=>rfl) hf2 hq
  by_cases c:lo<=hi
  . rw[if_pos c]at this;exact this
  . rw[if_neg c]at this
    rw[show hi+1=lo by lia];exact this
def Lb:ZV:=fun ds S Q=>∃ (n:Nat) (p r:Pc) (lo hi:Int) (f:Int->Option Int) (a:Int) (ps:List Pc),ds=[.ref n,Pd p,Pd r,.int lo,.int hi]/\S[n]?=some (.lst (ps.map Pd))/\p.st=1/\r.st=0/\ps.length<=8000 /\
 O8 f/\Pre f a lo ps/\lo<=hi+1/\(∀ x,lo<=x->x<=hi->f x=some (min (p.led x) (r.led x)))/\∀ qs,Pre f a (hi+1) qs->qs.length<=ps.length+2->Q .non (S.set n (.lst (qs.map Pd)))
abbrev ud:DS :=
    (zA (zH (Z7 Zo (dCall Vv (zf ZQ YD)) (dCall Vv (zf Z1 YD))) Yc)
 (zA (zH (dB Ud (zf ZF (zf (Z7 Zz ZP (dB V6 (zf Zx (zf (Yp Yo ZK) zF)))) zF))) VL)
 (zA (Zk (dCall R9 (zf Z2 (zf Z1 (zf ZP Rn)))))
 (Zk (dCall R9 (zf Z2 (zf ZQ (zf (Z7 Zz Ys ZK) T5))))))))
def ziJ:BodyOk 7 ud Lb:=by
 rintro ds S Q ⟨n,p,r,lo,hi,f,a,ps,rfl,hn,hp,hr,hl,mono,pre,hlh,hf,q⟩
 unfold ud
 walk_at"g"
 refine⟨r,_,rfl,.inl hr,?_⟩
 walk_at"g"
 refine⟨p,_,rfl,.inr hp,?_⟩
 walk_at"g"
 refine⟨n,p,_,_,f,a,ps,rfl,hn,.inr hp,by lia,mono,pre,by lia,fun x h1 h2=>?_,fun qs hq ql=>?_⟩
 ·rw[hf x h1 (by lia)]
  rw[Jr hp,J7 hr]at *
  congr 1
  lia
 walk_at"g"
 refine⟨n,r,_,_,f,a,qs,rfl,?_,.inl hr,by lia,mono,hq,by lia,fun x h1 h2=>?_,fun rs hrs rl=>fin_same ?_⟩
 ·rw[qN];exact zU hn
 ·rw[hf x (by lia) h2]
  rw[Jr hp,J7 hr]at *
  congr 1
  lia
 ·rw[List.set_set]
  exact q rs hrs (by lia)
def Hx:ZV:=fun ds S Q=>∃ (n:Nat) (p r:Pc) (lo hi:Int) (f:Int->Option Int) (a:Int) (ps:List Pc),ds=[.ref n,Pd p,Pd r,.int lo,.int hi]/\S[n]?=some (.lst (ps.map Pd))/\(p.st=0\/p.st=1)/\(r.st=0\/r.st=1)/\ps.length<=8000 /\
 O8 f/\Pre f a lo ps/\lo<=hi+1/\(∀ x,lo<=x->x<=hi->f x=some (min (p.led x) (r.led x)))/\∀ qs,Pre f a (hi+1) qs->qs.length<=ps.length+2->Q .non (S.set n (.lst (qs.map Pd)))
def yu {p r:Pc}(hp:p.st=0\/p.st=1)(e:p.st=r.st)(x y:Int):p.led x-r.led x=p.led y-r.led y:=by
  unfold Pc.led
  rw[<- e]
  rcases hp with e|e<;>rw[e]<;>simp<;>lia
abbrev rY:DS :=
  (ZC (dT (Z7 Xm Ke DN)) (Zk (dCall Lb (zf Z2 (zf Z1 (zf ZQ (zf ZP T5)))))) (ZC (dT (Z7 oLt Ke DN)) (Zk (dCall Lb (zf Z2 (zf ZQ (zf Z1 (zf ZP T5)))))) (ZC (dT (Z7 oLt (dCall Vv (zf Z1 YD)) (dCall Vv (zf ZQ YD)))) (Zk (dCall R9 (zf Z2 (zf Z1 (zf ZP T5))))) (Zk (dCall R9 (zf Z2 (zf ZQ (zf ZP T5))))))))
def ji:BodyOk 5 rY Hx:=by
 rintro ds S Q ⟨n,p,r,lo,hi,f,a,ps,rfl,hn,hp,hr,hl,mono,pre,hlh,hf,q⟩
 unfold rY
 walk_at"g"
 refine ZM (fun g=>?_) (fun g=>?_)
 ·walk_at"g"
  exact⟨n,p,r,_,_,f,a,ps,rfl,hn,by lia,by lia,hl,mono,pre,hlh,hf,fun qs h1 h2=>fin_same (q qs h1 h2)⟩
 walk_at"g"
 refine ZM (fun g2=>?_) (fun g2=>?_)
 ·walk_at"g"
  exact⟨n,r,p,_,_,f,a,ps,rfl,hn,by lia,by lia,hl,mono,pre,hlh,fun x h1 h2=>by rw[hf x h1 h2,Int.min_comm],fun qs h1 h2=>fin_same (q qs h1 h2)⟩
 have e:p.st=r.st:=by lia
 walk_at"g"
 refine⟨p,_,rfl,hp,?_⟩
 walk_at"g"
 refine⟨r,_,rfl,hr,?_⟩
 walk_at"g"
 refine ZM (fun g3=>?_) (fun g3=>?_)
 ·walk_at"g"
  refine⟨n,p,_,_,f,a,ps,rfl,hn,hp,by lia,mono,pre,hlh,fun x h1 h2=>?_,fun qs h1 h2=>fin_same (q qs h1 (by lia))⟩
  rw[hf x h1 h2]
  have:=yu hp e x lo
  congr 1
  lia
 ·walk_at"g"
  refine⟨n,r,_,_,f,a,ps,rfl,hn,hr,by lia,mono,pre,hlh,fun x h1 h2=>?_,fun qs h1 h2=>fin_same (q qs h1 (by lia))⟩
  rw[hf x h1 h2]
  have:=yu hp e x lo
  congr 1
  lia
def yh:Option Int->Option Int->Option Int
 |some a,some b=>some (min a b)
 |some a,none=>some a
 |none,b=>b
def BW (ps qs:List Pc):Prop:=∀ p∈ps.head?,∀ q∈qs.head?,p.lo=q.lo
def YH (ps qs:List Pc)(h:Int):Option Int:=yh (at' ps h) (at' qs h)
def zro {ps qs:List Pc}(hp:ZW ps)(hq:ZW qs)(hh:BW ps qs)(p0:ps≠[])(q0:qs≠[]):O8 (YH ps qs):=fun a b x y ha hb hab=>by
 cases ps with
 |nil=>exact absurd rfl p0
 |cons p r =>
 cases qs with
 |nil=>exact absurd rfl q0
 |cons q s =>
 have el:p.lo=q.lo:=hh p rfl q rfl
 unfold YH at ha hb
 have hlo:p.lo<=a:=by
  cases h1:at' (p::r) a with
  |some u=>exact(Tw hp h1).2
  |none =>
   cases h2:at' (q::s) a with
   |some v=>rw[el];exact(Tw hq h2).2
   |none=>rw[h1,h2]at ha;cases ha
 cases h1:at' (p::r) b with
 |some u =>
  obtain⟨u',hu'⟩:=KQ hp h1 hlo hab
  have m1:=Uo hp hu' h1 hab
  cases h2:at' (q::s) b with
  |some v =>
   obtain⟨v',hv'⟩:=KQ hq h2 (by lia) hab
   have m2:=Uo hq hv' h2 hab
   rw[h1,h2]at hb
   rw[hu',hv']at ha
   cases ha;cases hb
   show min u' v'<=min u v
   lia
  |none =>
   rw[h1,h2]at hb
   cases hb
   rw[hu']at ha
   cases h3:at' (q::s) a with
   |some v'=>rw[h3]at ha;cases ha;show min u' v'<=_;lia
   |none=>rw[h3]at ha;cases ha;exact m1
 |none =>
  cases h2:at' (q::s) b with
  |some v =>
   obtain⟨v',hv'⟩:=KQ hq h2 (by lia) hab
   have m2:=Uo hq hv' h2 hab
   rw[h1,h2]at hb
   cases hb
   rw[hv']at ha
   cases h3:at' (p::r) a with
   |some u'=>rw[h3]at ha;cases ha;show min u' v'<=_;lia
   |none=>rw[h3]at ha;cases ha;exact m2
  |none=>rw[h1,h2]at hb;cases hb
def Jo:ZV:=fun ds S Q=>∃ (ps qs:List Pc),ds=[.tup (ps.map Pd),.tup (qs.map Pd)]/\ZW ps/\ZW qs/\ps.length<=900/\qs.length<=900/\BW ps qs /\
 ∀ rs,ZW rs->(∀ h,at' rs h=YH ps qs h)->rs.length<=2*(ps.length+qs.length)->Q (.tup (rs.map Pd)) S
structure Stand (ps:List Pc)(i:Nat)(h:Int):Prop where
 lo:∀ p,ps[i]?=some p->p.lo<=h
 hi:∀ (t:Nat) p,ps[i+t]?=some p->h<=p.hi
 fin:i=ps.length->∀ x,h<=x->at' ps x=none
def Stand.next {ps:List Pc}(hr:ZW ps){i:Nat}{p:Pc}(ep:ps[i]?=some p):Stand ps (i+1) (p.hi+1):=by
 refine⟨fun q hq=>?_,fun t q hq=>?_,fun e x hx=>?_⟩
 ·rw[(hr.link i p q ep hq).nx];exact qC _
 ·have:=apart hr (show i<i+1+t by lia) ep hq
  have:=(hr.good q (qe hq)).le
  lia
 ·refine Om hr ?_
  rw[(o9 hr ep).2 (qv (by lia))];exact hx
def Stand.stay {ps:List Pc}(hr:ZW ps){i:Nat}{h h':Int}{p:Pc}(ep:ps[i]?=some p)(s:Stand ps i h)(h1:h<=h')(h2:h'<=p.hi):Stand ps i h':=by
 refine⟨fun q hq=>?_,fun t q hq=>?_,fun e x hx=>?_⟩
 ·have:=s.lo q hq;lia
 ·rcases KJ t with z|z
  ·subst z
   rw[Nat.add_zero,ep]at hq
   cases hq;exact h2
  ·have:=apart hr (show i<i+t by lia) ep hq
   have:=(hr.good q (qe hq)).le
   lia
 ·have:=zU ep;lia
def pP {α:Type}(xs:List α)(i:Nat)(h:i<=xs.length):cutD xs (some (i:Int)) none=xs.drop i:=by
 unfold cutD
 have e:W8 xs.length 0 (some (i:Int))=i:=by
  unfold W8
  simp only
  rw[if_neg (by lia)];lia
 rw[e]
 show(xs.drop i).take (xs.length-i)=_
 rw[G3 (by simp)]
def zo9 (qs:List Pc)(h:Int):YH [] qs h=at' qs h:=rfl
def zpV (ps:List Pc)(h:Int):YH ps [] h=at' ps h:=by
  unfold YH
  show yh (at' ps h) none=_
  cases at' ps h<;>rfl
def Bu {ps:List Pc}{i:Nat}{p:Pc}(h:ps[i]?=some p):Y7 (ps.map Pd) (i:Int)=some (Pd p):=Ub (by rw[qj,h];rfl)
abbrev yd:DS :=
    (zA (ZC (TJ (dT (Z7 oEq (dB Y4 Zb) Zw)) (dT (Z7 oEq (dB Y4 Yk) Zw))) (zV (Z7 Zz Z2 Z1)) Zt)
 (zA (zH (Yz zF) Yu)
 (zA (zH (Z7 ZX X4 Zw) Y9)
 (zA (zH Zw YX)
 (zA (zH Zw Yc)
 (zA (Q5 (S9 (dT (Z7 oLt ZF (dB Y4 Zb))) (dT (Z7 oLt Zx (dB Y4 Yk)))) (zA (zH (dB Ud (zf (Z7 ZX (Z7 ZX Z2 ZF) ZK) (zf (Z7 ZX (Z7 ZX Z1 Zx) ZK) zF))) VL)
 (zA (Zk (dCall Hx (zf ZQ (zf (Z7 ZX Z2 ZF) (zf (Z7 ZX Z1 Zx) (zf ZP Rn))))))
 (zA (zH (Z7 Zz Ys ZK) Y9)
 (zA (sJ (zH (RL (dT (Z7 oEq (Z7 ZX (Z7 ZX Z2 ZF) ZK) Ys)) (Z7 Zz ZF ZK) ZF) YX))
 (zH (RL (dT (Z7 oEq (Z7 ZX (Z7 ZX Z1 Zx) ZK) Ys)) (Z7 Zz Zx ZK) Zx) Yc))))))
 (zA (Yx (Ze (Z7 Zz (Nq QG Z2 (some ZF) none) (Nq QG Z1 (some Zx) none))) Ui (Zk (dCall R9 (zf ZQ (zf Xq (zf (dB V6 (zf ZP (zf fJ zF))) (zf zx3 zF)))))))
 (zV (dB Oz YK)))))))))
def zow:BodyOk 8 yd Jo:=by
  rintro ds S Q ⟨ps,qs,rfl,hp,hq,hpl,hql,hh,q⟩
  unfold yd
  walk_at"g"
  rw[qc]
  refine ZM (fun g=>?_) (fun g=>?_)
  . walk_at"g"
    refine Ei (by rw[qc,qc];unfold big;lia) ?_
    have:ps=[]:=Rt.mp (by lia)
    subst this
    walk_at"g"
    refine fin_same (q qs hq (fun h=>(zo9 qs h).symm) (by lia))
  walk_at"g"
  rw[qc]
  refine ZM (fun g2=>?_) (fun g2=>?_)
  . walk_at"g"
    refine Ei (by rw[qc,qc];unfold big;lia) ?_
    have:qs=[]:=Rt.mp (by lia)
    subst this
    walk_at"g"
    rw[Nh,qV]
    refine fin_same (q ps hp (fun h=>(zpV ps h).symm) (by lia))
  have p0:ps≠[]:=fun e=>g (by rw[e];rfl)
  have q0:qs≠[]:=fun e=>g2 (by rw[e];rfl)
  have mono:=zro hp hq hh p0 q0
  have ep0:ps[0]?=some (ps[0]'(by lia)):=qb _
  have eq0:qs[0]?=some (qs[0]'(by lia)):=qb _
  generalize ps[0]'(by lia)=pa at ep0
  generalize qs[0]'(by lia)=qa at eq0
  have elo:pa.lo=qa.lo:=hh pa (by rw[Kz];exact ep0) qa (by rw[Kz];exact eq0)
  have aa0:Y7 (ps.map Pd) 0=some (Pd pa):=Bu ep0
  have sta:∀ {ts:List Pc} {t:Pc},ZW ts->ts[0]?=some t->Stand ts 0 t.lo:=fun {ts t} ht e=>by
    refine⟨fun p hp=>by rw[e]at hp;cases hp;exact qC _,fun k p hp=>?_,fun z=>by have:=zU e;lia⟩
    have:=lo_le ht e (qe hp)
    have:=(ht.good p (qe hp)).le
    lia
  walk_at"g"
  refine zwR (fun m Z S' => ∃ (i j : Nat) (hour : Int) (found : List Pc) (w1 w2 : Option D), m = ps.length + qs.length - (i + j) ∧ i ≤ ps.length ∧ j ≤ qs.length ∧ Z = [some (.tup (ps.map Pd)), some (.tup (qs.map Pd)), some (.ref S.length), some (.int hour), some (.int i), some (.int j), w1, w2] ∧ S' = S ++ [.lst (found.map Pd)] ∧ found.length ≤ 2 * (i + j) ∧
      Pre (YH ps qs) pa.lo hour found/\Stand ps i hour/\Stand qs j hour)
    (fun Z S'=>∃ (i j:Nat) (hour:Int) (found:List Pc) (w1 w2:Option D),i<=ps.length/\j<=qs.length/\(i=ps.length\/j=qs.length)/\Z=[some (.tup (ps.map Pd)),some (.tup (qs.map Pd)),some (.ref S.length),some (.int hour),some (.int i),some (.int j),w1,w2]/\S'=S++[.lst (found.map Pd)]/\found.length<=2*(i+j) /\
      Pre (YH ps qs) pa.lo hour found/\Stand ps i hour/\Stand qs j hour)
    (ps.length+qs.length) ⟨0,0,pa.lo,[],none,none,by simp,qO _,qO _,rfl,rfl,by simp,Pre.start _ _,sta hp ep0,by rw[elo];exact sta hq eq0⟩ ?_ ?_
  . -- behind the loop
    rintro Z S' ⟨i,j,hour,found,w1,w2,hil,hjl,h,rfl,rfl,hfl,pre,s1,s2⟩
    have fin:∃ (ts:List Pc) (k:Nat),ZW ts/\k<=ts.length/\ps.drop i++qs.drop j=ts.drop k/\(∀ h,hour<=h->YH ps qs h=at' ts h)/\Stand ts k hour:=by
      rcases h with h|h
      . refine⟨qs,j,hq,hjl,by rw[h,List.drop_length];rfl,fun x hx=>?_,s2⟩
        unfold YH
        rw[s1.fin h x hx];rfl
      . refine⟨ps,i,hp,hil,by rw[h,List.drop_length,qV],fun x hx=>?_,s1⟩
        unfold YH
        rw[s2.fin h x hx]
        cases at' ps x<;>rfl
    obtain⟨ts,k,ht,hkl,ets,hf,st⟩:=fin
    have hlen:(ps.drop i++qs.drop j).length=ps.length+qs.length-(i+j):=by
      rw[qf,Rj,Rj];lia
    rw[ets,Rj]at hlen
    walk_at"g"
    rw[pP _ _ (by rw[qc];exact hil),pP _ _ (by rw[qc];exact hjl)]
    refine Ei (by rw[Rj,Rj,qc,qc];unfold big;lia) ?_
    rw[<- List.map_drop,<- List.map_drop,<- qA,ets]
    walk_at"g"
    refine Yr (fun t Z S'=>∃ (found':List Pc) (w:Option D),Z=[some (.tup (ps.map Pd)),some (.tup (qs.map Pd)),some (.ref S.length),some (.int hour),some (.int i),some (.int j),w1,w]/\S'=S++[.lst (found'.map Pd)]/\found'.length<=found.length+t /\
      (t=0->Pre (YH ps qs) pa.lo hour found')/\(0<t->Pre (YH ps qs) pa.lo (XM ts (k+t)) found'/\hour<=XM ts (k+t))) ⟨found,w2,rfl,rfl,by lia,fun _=>pre,fun z=>by lia⟩ (fun _ _ _ _=>True.intro) ?_ ?_
    . rintro t d Z S' hd ⟨found',w,rfl,rfl,hfl',pr0,pr1⟩
      obtain⟨p,ep,rfl⟩:=get_map hd
      rw[List.getElem?_drop]at ep
      have htl:=zU ep
      have gp:=ht.good p (qe ep)
      have gle:=gp.le
      obtain⟨el1,el2⟩:=Dd ht ep
      have hhi:=st.hi t p ep
      have hpre:Pre (YH ps qs) pa.lo (max hour p.lo) found':=by
        rcases KJ t with z|z
        . subst z
          have:=st.lo p ep
          rw[show max hour p.lo=hour by lia]
          exact pr0 rfl
        . obtain⟨h1,h2⟩:=pr1 z
          rw[el1]at h1 h2
          rw[show max hour p.lo=p.lo by lia];exact h1
      walk_at"g"
      refine⟨_,p,_,_,YH ps qs,pa.lo,found',rfl,YC,gp.st,by lia,mono,hpre,by lia,fun x h1 h2=>?_,fun rs hr hrl=>?_⟩
      . rw[hf x (by lia)]
        exact Xf ht ep ⟨by lia,h2⟩
      . rw[Wa]
        walk_at"g"
        refine⟨rs,_,rfl,rfl,by lia,fun z=>by lia,fun _=>?_⟩
        rw[show k+(t+1)=k+t+1 by lia,el2]
        exact⟨hr,by lia⟩
    . rintro Z S' ⟨found',w,rfl,rfl,hfl',pr0,pr1⟩
      rw[qc,Rj]at hfl' pr0 pr1
      walk_at"g"
      have hbelow:∀ x,x<pa.lo->YH ps qs x=none:=fun x hx=>by
        unfold YH
        rw[M5 fun z hz=>by have:=lo_le hp ep0 hz;lia,M5 fun z hz=>by have:=lo_le hq eq0 hz;lia]
        rfl
      rcases KJ (ts.length-k)with z|z
      . have pr:=pr0 z
        refine Yg (RT found') (q found' pr.isR (fun h=>pr.done hbelow (fun x hx=>?_) h) (by lia))
        rw[hf x hx]
        exact st.fin (by lia) x hx
      . obtain⟨pr,hl⟩:=pr1 z
        refine Yg (RT found') (q found' pr.isR (fun h=>pr.done hbelow (fun x hx=>?_) h) (by lia))
        rw[hf x (by lia)]
        refine Om ht ?_
        have:XM ts (k+(ts.length-k))=endOf ts:=by
          unfold XM
          rw[qv (by lia)]
        rw[this]at hx;exact hx
  rintro nx' hE m Z S' ⟨i,j,hour,found,w1,w2,rfl,hil,hjl,rfl,rfl,hfl,pre,s1,s2⟩
  walk_at"g"
  rw[qc]
  refine ZM (fun c1=>?_) (fun c1=>?_)
  rotate_left
  . walk_at"g"
    exact hE _ _ ⟨i,j,hour,found,w1,w2,hil,hjl,.inl (by lia),rfl,rfl,hfl,pre,s1,s2⟩
  walk_at"g"
  rw[qc]
  refine ZM (fun c2=>?_) (fun c2=>?_)
  rotate_left
  . walk_at"g"
    exact hE _ _ ⟨i,j,hour,found,w1,w2,hil,hjl,.inr (by lia),rfl,rfl,hfl,pre,s1,s2⟩
  have ep:ps[i]?=some (ps[i]'(by lia)):=qb _
  have er:qs[j]?=some (qs[j]'(by lia)):=qb _
  generalize ps[i]'(by lia)=p at ep
  generalize qs[j]'(by lia)=r at er
  have ap:=Bu ep
  have ar:=Bu er
  have gp:=hp.good p (qe ep)
  have gr:=hq.good r (qe er)
  have p1:=s1.lo p ep
  have p2:=s1.hi 0 p ep
  have r1:=s2.lo r er
  have r2:=s2.hi 0 r er
  walk_at"g"
  refine⟨_,p,r,_,_,YH ps qs,pa.lo,found,rfl,YC,gp.st,gr.st,by lia,mono,pre,by lia,fun x h1 h2=>?_,fun rs hr hrl=>?_⟩
  . unfold YH
    rw[Xf hp ep ⟨by lia,by lia⟩,Xf hq er ⟨by lia,by lia⟩];rfl
  rw[Wa]
  walk_at"g"
  refine Cr ?_
  walk_at"g"
  refine ZM (fun c3=>?_) (fun c3=>?_)
  . walk_at"g"
    refine ZM (fun c4=>?_) (fun c4=>?_)
    . walk_at"g"
      refine⟨ps.length+qs.length-(i+1+(j+1)),by lia,i+1,j+1,_,rs,_,_,rfl,by lia,by lia,rfl,rfl,by lia,hr,?_,?_⟩
      . rw[<- c3];exact Stand.next hp ep
      . rw[<- c4];exact Stand.next hq er
    . walk_at"g"
      refine⟨ps.length+qs.length-(i+1+j),by lia,i+1,j,_,rs,_,_,rfl,by lia,by lia,rfl,rfl,by lia,hr,?_,?_⟩
      . rw[<- c3];exact Stand.next hp ep
      . exact Stand.stay hq er s2 (by lia) (by lia)
  . walk_at"g"
    refine ZM (fun c4=>?_) (fun c4=>?_)
    . walk_at"g"
      refine⟨ps.length+qs.length-(i+(j+1)),by lia,i,j+1,_,rs,_,_,rfl,by lia,by lia,rfl,rfl,by lia,hr,?_,?_⟩
      . exact Stand.stay hp ep s1 (by lia) (by lia)
      . rw[<- c4];exact Stand.next hq er
    . exfalso;lia
def T7.of {f:Nat->List Pc}{k j:Nat}{ps c r:List Pc}(ec:∀ h,at' c h=comp (f k) ps h)(hr:ZW r)(er:∀ h,at' r h=YH (f j) c h):T7 f k j ps r:=by
 have cw:∀ x v,at' c x=some v->∃ w,at' (f k) x=some w/\at' ps w=some v:=fun x v e=>by
  rw[ec]at e
  unfold comp at e
  cases h:at' (f k) x with
  |none=>rw[h]at e;cases e
  |some w=>rw[h]at e;exact⟨w,rfl,e⟩
 refine⟨hr,fun x v e=>?_,fun x v e=>?_,fun x w v h1 h2=>?_⟩
 ·rw[er]at e
  unfold YH at e
  cases ha:at' (f j) x with
  |none =>
   rw[ha]at e
   cases hb:at' c x with
   |none=>rw[hb]at e;cases e
   |some b =>
    rw[hb]at e
    have eb:b=v:=qB e
    subst eb
    obtain⟨w,h1,h2⟩:=cw x b hb
    exact .inr ⟨w,h1,h2,fun v' z=>by cases z⟩
  |some a =>
   rw[ha]at e
   cases hb:at' c x with
   |none=>rw[hb]at e;exact .inl e
   |some b =>
    rw[hb]at e
    have eb:min a b=v:=qB e
    rcases Int.le_total a b with g|g
    ·exact .inl (by rw[show v=a by lia])
    ·obtain⟨w,h1,h2⟩:=cw x b hb
     exact .inr ⟨w,h1,by rw[h2,show v=b by lia],fun v' z=>by cases z;lia⟩
 ·cases hb:at' c x with
  |none=>exact⟨v,by rw[er];unfold YH;rw[e,hb];rfl,qC _⟩
  |some b=>exact⟨min v b,by rw[er];unfold YH;rw[e,hb];rfl,by lia⟩
 ·have hb:at' c x=some v:=by rw[ec];unfold comp;rw[h1];exact h2
  cases ha:at' (f j) x with
  |none=>exact⟨v,by rw[er];unfold YH;rw[ha,hb];rfl,qC _⟩
  |some a=>exact⟨min a v,by rw[er];unfold YH;rw[ha,hb];rfl,by lia⟩
def ZG (V:Vl)(k:Nat):Str:=((V.bs[k]?).getD (Str.empty,(0,0))).1
def yL {V:Vl}{k:Nat}{b:Str×(Int×Int)}(h:V.bs[k]?=some b):ZG V k=b.1:=by unfold ZG;rw[h];rfl
def Nr {V:Vl}{k:Nat}(h:k<V.bs.length):∃ b,V.bs[k]?=some b/\ZG V k=b.1:=⟨_,qb h,yL (qb h)⟩
def Eo {V:Vl}(ok:Yy V){k j:Nat}(hk:k<V.bs.length)(hj:j<V.bs.length):ZG V k=ZG V j↔k=j:=by
 obtain⟨b,hb,e⟩:=Nr hk
 obtain⟨c,hc,e'⟩:=Nr hj
 rw[e,e'];exact JG ok hb hc
def Q6 (V:Vl)(Z6:List (Str×D))(f:Nat->List Pc):Prop:=∀ k,k<V.bs.length->dval Z6 (ZG V k)=some (.tup ((f k).map Pd))
def XJ (f:Nat->List Pc)(j:Nat)(r:List Pc):Nat->List Pc:=fun a=>if a=j then r else f a
def Q6.put {V:Vl}(ok:Yy V){Z6:List (Str×D)}{f:Nat->List Pc}(h:Q6 V Z6 f){j:Nat}(hj:j<V.bs.length)(r:List Pc):Q6 V (dput Z6 (ZG V j) (.tup (r.map Pd))) (XJ f j r):=fun k hk=>by
 rw[BZ]
 unfold XJ
 by_cases e:k=j
 ·subst e;rw[if_pos rfl,if_pos rfl]
 ·rw[if_neg (fun z=>e ((Eo ok hk hj).mp z.symm)),if_neg e];exact h k hk
def jm {Z6:List (Str×D)}{k:Str}{v d:D}(h:dval Z6 k=some d):(dput Z6 k v).length=Z6.length:=by
 have:=congrArg List.length (zoP Z6 k v)
 rw[h,show(some d).isSome=true from rfl,if_pos rfl,qc,qc]at this
 exact this
def V3.low {V:Vl}{k j:Nat}{ps:List Pc}(sp:V3 V k j ps){w v:Int}(e:at' ps w=some v){w':Int}(h1:V.h0<=w')(h2:w'<=w):∃ v',at' ps w'=some v':=by
 rw[sp.led]at e
 rw[sp.led,if_pos h1]
 rw[if_pos (show V.h0<=w by lia)]at e
 by_cases ek:k=j
 ·rw[if_pos ek]at e ⊢
  by_cases g:w<=V.h1
  ·exact⟨_,by rw[if_pos (by lia)]⟩
  ·rw[if_neg g]at e;cases e
 ·rw[if_neg ek]at e ⊢
  cases hf:W9 (Xj V k j) w with
  |none=>rw[hf]at e;cases e
  |some u =>
   obtain⟨m0,g0,_⟩:=Ol (NT V k j) hf
   cases hf':W9 (Xj V k j) w' with
   |none=>exact absurd (show w'<=u by lia) (JH hf' u m0)
   |some u'=>exact⟨_,rfl⟩
def V3.from {V:Vl}{k j:Nat}{ps:List Pc}(sp:V3 V k j ps){w v:Int}(e:at' ps w=some v):V.h0<=w:=by
 rw[sp.led]at e
 by_cases h:V.h0<=w
 ·exact h
 ·rw[if_neg h]at e;cases e
def V3.dwn {V:Vl}{k j:Nat}{ps:List Pc}(sp:V3 V k j ps):WR V.h0 ps:=WR.of sp.isR (fun x v e=>sp.from e) fun x v e=>sp.low e (qC _) (sp.from e)
theorem Xr.comp {V:Vl}{s:Nat}{f:Nat->List Pc}{k j:Nat}{ps c:List Pc}(hd:0<=V.dl)(H:Xr V s f)(sp:V3 V k j ps)(ic:ZW c)(ec:∀ h,at' c h=comp (f k) ps h):WR V.h0 c:=by
 have cw:∀ x v,at' c x=some v->∃ w,at' (f k) x=some w/\at' ps w=some v:=fun x v e=>by
  rw[ec]at e
  unfold Dp.comp at e
  cases h:at' (f k) x with
  |none=>rw[h]at e;cases e
  |some w=>rw[h]at e;exact⟨w,rfl,e⟩
 refine WR.of ic (fun x v e=>?_) fun x v e=>?_
 ·obtain⟨w,h1,_⟩:=cw x v e
  exact(H.dom k x w h1).1
 ·obtain⟨w,h1,h2⟩:=cw x v e
  obtain⟨u,hu,le⟩:=(H.dwn k).at (H.isR k) h1 (qC _) (H.dom k x w h1).1
  obtain⟨v',hv'⟩:=sp.low h2 (H.ge hd hu) le
  exact⟨v',by rw[ec];unfold Dp.comp;rw[hu];exact hv'⟩
def WR.heads {a:Int}{ps qs:List Pc}(h1:WR a ps)(h2:WR a qs):BW ps qs:=fun p hp q hq=>(h1 p hp).trans (h2 q hq).symm
def Mz (V:Vl)(f:Nat->List Pc)(a j:Nat):Prop:=∀ x w u,a≠j->at' (f a) x=some w->W9 (Xj V a j) w=some u->∃ v',at' (f j) x=some v'/\v'<=u+V.dl
structure Xe (V:Vl)(s:Nat)(G:Nat->Nat->Prop)(f:Nat->List Pc)(chs:List Nat):Prop where
 hr:Xr V s f
 nd:chs.Nodup
 lt:∀ c∈chs,c<V.bs.length
 cl:∀ k j,G k j->j<V.bs.length->k∉chs->Mz V f k j
def Xe.weak {V:Vl}{s:Nat}{G G':Nat->Nat->Prop}{f:Nat->List Pc}{chs:List Nat}(I:Xe V s G f chs)(h:∀ k j,G' k j->j<V.bs.length->G k j):Xe V s G' f chs:=⟨I.hr,I.nd,I.lt,fun k j g l n=>I.cl k j (h k j g l) l n⟩
def Mz.of {V:Vl}{s:Nat}{f g:Nat->List Pc}{a j:Nat}{ps:List Pc}(hd:0<=V.dl)(H:Xr V s f)(sp:V3 V a j ps)(ga:g a=f a)(R:T7 f a j ps (g j)):Mz V g a j:=fun x w u ne h1 h2=>by
 rw[ga]at h1
 have h0:V.h0<=w:=by have:=H.ge hd h1;have:=(H.dom a x w h1).1;lia
 exact R.new x w (u+V.dl) h1 (by rw[sp.led,if_pos h0,if_neg ne,h2];rfl)
def Xe.same {V:Vl}{s:Nat}{G G':Nat->Nat->Prop}{f:Nat->List Pc}{chs:List Nat}{a j:Nat}{ps:List Pc}(hd:0<=V.dl)(I:Xe V s G f chs)(sp:V3 V a j ps)(R:T7 f a j ps (f j))(h:∀ k i,G' k i->i<V.bs.length->G k i\/(k=a/\i=j)):Xe V s G' f chs:=⟨I.hr,I.nd,I.lt,fun k i g l n=>by
 rcases h k i g l with g|⟨rfl,rfl⟩
 ·exact I.cl k i g l n
 ·exact Mz.of hd I.hr sp rfl R⟩
def Xe.put {V:Vl}{s:Nat}{G G':Nat->Nat->Prop}{f:Nat->List Pc}{chs:List Nat}{a j:Nat}{ps r:List Pc}(hd:0<=V.dl)(I:Xe V s G f chs)(hj:j<V.bs.length)(sp:V3 V a j ps)(R:T7 f a j ps r)(h:∀ k i,G' k i->i<V.bs.length->G k i\/(k=a/\i=j)):Xe V s G' (XJ f j r) ((chs.filter fun c=>!decide (c=j))++[j]):=by
 have hj':XJ f j r j=r:=by unfold XJ;rw[if_pos rfl]
 have hk':∀ k,k≠j->XJ f j r k=f k:=fun k e=>by unfold XJ;rw[if_neg e]
 refine⟨I.hr.relax hd sp R,?_,fun c hc=>?_,fun k i g l n=>?_⟩
 ·refine Pk.mpr ⟨I.nd.sublist List.filter_sublist,by simp,fun x hx y hy e=>?_⟩
  have e1:y=j:=by simpa using hy
  subst e e1
  have:=(V5.mp hx).2
  simp at this
 ·rcases qI.mp hc with h|h
  ·exact I.lt c (V5.mp h).1
  ·have:c=j:=by simpa using h
   lia
 ·have n1:k≠j:=fun e=>n (qI.mpr (.inr (by rw[e];simp)))
  have n2:k∉chs:=fun m=>n (qI.mpr (.inl (V5.mpr ⟨m,by simp[n1]⟩)))
  rcases h k i g l with g|⟨rfl,rfl⟩
  ·intro x w u ne h1 h2
   rw[hk' k n1]at h1
   obtain⟨v',hv,le⟩:=I.cl k i g l n2 x w u ne h1 h2
   by_cases e:i=j
   ·subst e
    rw[hj']
    obtain⟨v2,h3,h4⟩:=R.old x v' hv
    exact⟨v2,h3,by lia⟩
   ·rw[hk' i e];exact⟨v',hv,le⟩
  ·exact Mz.of hd I.hr sp (hk' _ n1) (by rw[hj'];exact R)
def Xr.few {V:Vl}{s:Nat}{f:Nat->List Pc}(H:Xr V s f)(h23:V.h1<=V.h0+23)(j:Nat):(f j).length<=24:=by
 have:=znT (H.isR j) (H.dom j)
 lia
def Xe.start {V:Vl}{s:Nat}{G:Nat->Nat->Prop}(hs:s<V.bs.length){ps:List Pc}(ip:ZW ps)(ap:∀ h,at' ps h=Nj V.h0 V.h1 h):Xe V s G (XJ (fun _=>[]) s ps) [s]:=by
 have h1:XJ (fun _=>[]) s ps s=ps:=by unfold XJ;rw[if_pos rfl]
 have h2:∀ k,k≠s->XJ (fun _=>[]) s ps k=[]:=fun k e=>by unfold XJ;rw[if_neg e]
 have is:∀ j x v,at' (XJ (fun _=>[]) s ps j) x=some v->j=s/\V.h0<=x/\x<=V.h1/\v=x:=fun j x v e=>by
  by_cases ej:j=s
  ·subst ej
   rw[h1,ap]at e
   unfold Nj at e
   by_cases g:V.h0<=x/\x<=V.h1
   ·rw[if_pos g]at e;exact⟨rfl,g.1,g.2,(qB e).symm⟩
   ·rw[if_neg g]at e;cases e
  ·rw[h2 j ej]at e;cases e
 have ir:∀ j,ZW (XJ (fun _=>[]) s ps j):=fun j=>by
  by_cases ej:j=s
  ·subst ej;rw[h1];exact ip
  ·rw[h2 j ej];exact .nil
 have st:∀ x,V.h0<=x->x<=V.h1->at' (XJ (fun _=>[]) s ps s) x=some x:=fun x g1 g2=>by
  rw[h1,ap];unfold Nj;rw[if_pos ⟨g1,g2⟩]
 refine⟨⟨ir,fun j x v e=>⟨(is j x v e).2.1,(is j x v e).2.2.1⟩,fun j=>WR.of (ir j) (fun x v e=>(is j x v e).2.1) fun x v e=>?_,fun j x v e=>?_,st⟩,by simp,fun c hc=>?_,fun k j _ _ n x w u _ h3 _=>?_⟩
 ·obtain⟨rfl,g1,g2,_⟩:=is j x v e
  exact⟨_,st V.h0 (qC _) (by lia)⟩
 ·obtain⟨rfl,_,_,rfl⟩:=is j x v e
  exact .base
 ·have:c=s:=by simpa using hc
  lia
 ·have:=(is k x w h3).1
  exact absurd (show k∈[s] by simp[this]) n
def vC (Z6:List (Str×D)):D->D
 |.str z=>(dval Z6 z).getD .non
 |_=>.non
def zqg {V:Vl}(ok:Yy V){j:Nat}(hj:j<V.bs.length):∀ {chs:List Nat},(∀ c∈chs,c<V.bs.length)->((chs.map fun k=>D.str (ZG V k)).filter fun d=>!eqv d (.str (ZG V j)))=(chs.filter fun c=>!decide (c=j)).map fun k=>D.str (ZG V k):=fun {chs} h=>by
 rw[List.filter_map]
 congr 1
 refine List.filter_congr fun c hc=>?_
 show(!eqv (.str (ZG V c)) (.str (ZG V j)))=_
 rw[Dm]
 congr 1
 exact decide_eq_decide.mpr (Eo ok (h c hc) hj)
def Vd (V:Vl)(s:Nat)(f:Nat->List Pc):Prop:=Xr V s f/\∀ k,k<V.bs.length->EY V f k
theorem Vd.uniq {V:Vl}{s:Nat}{f g:Nat->List Pc}(a:Vd V s f)(b:Vd V s g):f=g:=funext fun j=>CG (a.1.isR j) (b.1.isR j) fun x=>by
 by_cases h:V.h0<=x/\x<=V.h1
 ·exact(a.1.ear a.2 h.1 h.2).uniq (b.1.ear b.2 h.1 h.2) j
 ·cases e1:at' (f j) x with
  |some v=>exact absurd (a.1.dom j x v e1) h
  |none=>cases e2:at' (g j) x with
   |some v=>exact absurd (b.1.dom j x v e2) h
   |none=>rfl
open Classical in
noncomputable def Xc (V:Vl) (s:Nat):Nat->List Pc:=if h:∃ f,Vd V s f then Classical.choose h else fun _=>[]
def zrE {V:Vl}{s:Nat}{f:Nat->List Pc}(h:Vd V s f):f=Xc V s:=by
 unfold Xc
 rw[dif_pos ⟨f,h⟩]
 exact h.uniq (Classical.choose_spec (⟨f,h⟩:∃ f,Vd V s f))
noncomputable def YT (V:Vl) (s:Nat):List D:=(List.range V.bs.length).map fun j=>.tup ((Xc V s j).map Pd)
def fU {V:Vl}{s:Nat}:(YT V s).length=V.bs.length:=by unfold YT;rw[qc,RN]
def vg {V:Vl}{s j:Nat}(h:j<V.bs.length):(YT V s)[j]?=some (.tup ((Xc V s j).map Pd)):=by unfold YT;rw[qj,JZ h];rfl
def Lh:ZV:=fun ds S Q=>∃ (v x:D) (z:Str) (V:Vl) (s:Nat),ds=[v,x,.str z]/\Yj S v V/\Yy V/\Ez S x V/\U3 V s z/\V.h1<=V.h0+23/\∀ (T:Z5) (k:Nat),Vd V s (Xc V s)->(S++T)[k]?=some (.lst (YT V s))->S.length<=k->Q (.ref k) (S++T)
abbrev xV:DS :=
    (zA (zH (dCall Sw Zb) Y9)
 (zA (zH (Dj) YX)
 (zA (Yx (Ze ZP) Yc (Og ZF Zx (dTup zF)))
 (zA (Og ZF ZQ (dCall JC (zf (Yn "first" Z2) (zf (Yn "last" Z2) zF))))
 (zA (zH (Yz YK) VL)
 (zA (Q5 (dT (Z7 Xm (dB Y4 Rn) Zw)) (zA (zH (dM FJ Ys (zf Zw zF)) Ui)
 (Yx (Ze ZP) Nx (zA (zH (dCall Jo (zf (QJ ZF Vc) (zf (dCall Iu (zf (QJ ZF Xq) (zf (QJ Z1 (dTup (zf Xq vA))) zF))) zF))) Ln)
 (ZC (dT (Z7 U9 U7 (QJ ZF Vc))) (zA (Og ZF Vc U7)
 (zH (Z7 Zz (XS 1 [8] (Ze Ys) Xa (dT (Z7 U9 Z2 Z1)) Z2) (Yz vA)) VL)) Zt)))))
 (zV (XS 1 [4] (Ze ZP) Xa Wx (QJ Z1 Z2)))))))))
def zin:BodyOk 10 xV Lh:=by
 rintro ds S Q ⟨v,x,z,V,s,rfl,hv,ok,hx,hz,h23,q⟩
 unfold xV
 have b12:=ok.b12
 have hd:=ok.dl
 obtain⟨m,g,b',f',rfl,hm,_⟩:=id hv
 obtain⟨xm,xk,rfl,hxm,hxe⟩:=hx
 obtain⟨zb,hzb,rfl⟩:=hz
 have hs:s<V.bs.length:=zU hzb
 have fl1:∀ b∈V.bs,fl 20 (.str b.1)=true:=fun b hb=>Nz (ok.nm b hb) 20
 rw[<- yL hzb]
 have fln:∀ {k:Nat},k<V.bs.length->fl 20 (.str (ZG V k))=true:=fun {k} hk=>by
  obtain⟨b,hb,e⟩:=Nr hk
  rw[e];exact fl1 b (qe hb)
 walk_at"g"
 refine⟨_,V,rfl,hv,by lia,?_⟩
 unfold New
 obtain⟨nl,hnl⟩:∃ nl,nl=(V.bs.map (·.1)).map D.str:=⟨_,rfl⟩
 have lnl:nl.length=V.bs.length:=by rw[hnl,qc,qc]
 have gnl:∀ {i:Nat} {d:D},nl[i]?=some d->i<V.bs.length/\d=.str (ZG V i):=fun {i d} h=>by
  have hi:i<V.bs.length:=by rw[<- lnl];exact zU h
  obtain⟨b,hb,e⟩:=Nr hi
  rw[hnl,qj,qj,hb]at h
  exact⟨hi,by rw[e];exact(qB h).symm⟩
 rw[<- hnl]
 walk_at"g"
 rw[show S++[Cell.lst nl]++[Cell.dk []]=S++Cell.lst nl::[Cell.dk []] by simp,show(S++[Cell.lst nl]).length=S.length+1 by simp]
 have k0:∀ T,Lst (S++Cell.lst nl::T) (.ref S.length) nl:=fun T=>Lst.at0
 have k1:∀ c T,(S++Cell.lst nl::c::T)[S.length+1]?=some c:=fun c T=>Wz _ _ 1
 have hmT:∀ T,(S++T)[m]?=some (.ins "Valley" (vF (.ref g) (.ref b') (.ref f') (WD V.hz) (.int V.h0) (.int V.h1) (.int V.dl))):=fun T=>YF hm
 have hxT:∀ T,(S++T)[xm]?=some (.dt xk):=fun T=>YF hxm
 walk_at"g"
 walk_at"h"
 refine Yr (fun i Z S'=>∃ (Z6:List (Str×D)) (w:Option D),S'=S++Cell.lst nl::[Cell.dk Z6]/\Z6.length<=i/\(∀ k,k<i->dval Z6 (ZG V k)=some (.tup []))/\Z=[some (.ref m),some (.ref xm),some (.str (ZG V s)),some (.ref S.length),some (.ref (S.length+1)),w,none,none,none,none]) ⟨[],none,rfl,qg _,fun k h=>absurd h (M4 _),rfl⟩ (fun i Z S' zq10=>by obtain⟨_,_,e,_⟩:=zq10;exact e▸k0 _) ?_ ?_
 ·rintro i d Z S' hd' ⟨Z6,w,rfl,hl,hk,rfl⟩
  obtain⟨li,rfl⟩:=gnl hd'
  walk_at"g"
  refine Ug.k (k1 _ _) (by unfold big;lia) (Lq ?_)
  refine⟨_,_,rfl,by have:=BX Z6 (ZG V i) (.tup []);lia,fun k h=>?_,rfl⟩
  rw[BZ]
  by_cases e:k=i
  ·rw[e,if_pos rfl]
  ·rw[if_neg (fun z=>e ((Eo ok (by lia) li).mp z.symm))];exact hk k (by lia)
 rintro Z S' ⟨Z6,w,rfl,hl,hk,rfl⟩
 rw[lnl]at hl hk
 have hV1:=hmT (Cell.lst nl::[Cell.dk Z6])
 walk_at"g"
 refine⟨_,_,rfl,fun ps ip ap _=>?_⟩
 walk_at"g"
 refine Ug.k (k1 _ _) (by unfold big;lia) (Lq ?_)
 have K0:Q6 V (dput Z6 (ZG V s) (.tup (ps.map Pd))) (XJ (fun _=>[]) s ps):=Q6.put ok (fun k h=>hk k h) hs ps
 have L0:(dput Z6 (ZG V s) (.tup (ps.map Pd))).length<=20:=by have:=BX Z6 (ZG V s) (.tup (ps.map Pd));lia
 have I0:Xe V s (fun _ _=>True) (XJ (fun _=>[]) s ps) [s]:=Xe.start hs ip ap
 walk_at"h"
 generalize dput Z6 (ZG V s) (.tup (ps.map Pd))=kvs0 at K0 L0
 generalize XJ (fun _=>[]) s ps=f0 at K0 I0
 walk_at"g"
 have gp:∀ {Z6:List (Str×D)} {G:Z5} {p:Nat} {c:Cell},G[p]?=some c->(S++Cell.lst nl::Cell.dk Z6::G)[S.length+(p+2)]?=some c:=fun {Z6 G p c} h=>(Wz _ _ _).trans h
 refine Eu (fun m' Z S'=>∃ (Z6:List (Str×D)) (f:Nat->List Pc) (chs:List Nat) (G:Z5) (p:Nat) (w5 w7 w8 w9:Option D),m'=Rw V f*20+chs.length/\S'=S++Cell.lst nl::Cell.dk Z6::G/\G[p]?=some (.lst (chs.map fun k=>.str (ZG V k)))/\Q6 V Z6 f/\Z6.length<=20/\Xe V s (fun _ _=>True) f chs/\Z=[some (.ref m),some (.ref xm),some (.str (ZG V s)),some (.ref S.length),some (.ref (S.length+1)),w5,some (.ref (S.length+(p+2))),w7,w8,w9]) _ ⟨kvs0,f0,[s],_,0,_,_,_,_,rfl,rfl,rfl,K0,L0,I0,rfl⟩ ?_
 rintro m' Z S' ⟨Z6,f,chs,G,p,w5,w7,w8,w9,rfl,rfl,hp,hK,hL,I,rfl⟩
 have hch:=gp (Z6:=Z6) hp
 have hch':=Lst.here hch
 walk_at"g"
 rw[qc]
 refine ZM (fun c0=>?_) (fun c0=>?_)
 ·obtain⟨a,rest,rfl⟩:∃ a rest,chs=a::rest:=by
   cases chs with
   |nil=>simp at c0
   |cons a r=>exact⟨a,r,rfl⟩
  have la:a<V.bs.length:=I.lt a (by simp)
  walk_at"g"
  refine zvC (xs:=rest.map fun k=>.str (ZG V k)) hch (Lq ?_)
  rw[show(Cell.lst nl::Cell.dk Z6::G).set (p+2) (Cell.lst (rest.map fun k=>D.str (ZG V k)))=Cell.lst nl::Cell.dk Z6::G.set p (Cell.lst (rest.map fun k=>D.str (ZG V k)))from rfl]
  have hpr:(G.set p (Cell.lst (rest.map fun k=>D.str (ZG V k))))[p]?=some (.lst (rest.map fun k=>.str (ZG V k))):=qN (zU hp)
  generalize G.set p (Cell.lst (rest.map fun k=>D.str (ZG V k)))=G0 at hpr
  have J0:Xe V s (fun k j=>k≠a\/j<0) f rest:=⟨I.hr,(O2.mp I.nd).2,fun c hc=>I.lt c (qh.mpr (.inr hc)),fun k j g l n=>I.cl k j True.intro l (fun z=>by
   rcases qh.mp z with z|z
   ·rcases g with g|g
    ·exact g z
    ·lia
   ·exact n z)⟩
  have k00:=k0 (Cell.dk Z6::G0)
  walk_at"g"
  walk_at"h"
  refine Yr (fun i Z S'=>∃ (Z6:List (Str×D)) (f':Nat->List Pc) (chs:List Nat) (G:Z5) (p:Nat) (w8 w9:Option D),Rw V f'*20+chs.length<Rw V f*20+(a::rest).length/\S'=S++Cell.lst nl::Cell.dk Z6::G/\G[p]?=some (.lst (chs.map fun k=>.str (ZG V k)))/\Q6 V Z6 f'/\Z6.length<=20/\Xe V s (fun k j=>k≠a\/j<i) f' chs/\Z=[some (.ref m),some (.ref xm),some (.str (ZG V s)),some (.ref S.length),some (.ref (S.length+1)),w5,some (.ref (S.length+(p+2))),some (.str (ZG V a)),w8,w9]) ⟨Z6,f,rest,G0,p,_,_,by rw[qR];lia,rfl,hpr,hK,hL,J0,rfl⟩ (fun i Z S' zq11=>by obtain⟨_,_,_,_,_,_,_,_,e,_⟩:=zq11;exact e▸k0 _) ?_ ?_
  ·clear hp hch hch' hK hL I J0 hpr k00
   rintro j d Z S' hd' ⟨Z6,f',chs,G,p,w8,w9,hm',rfl,hp,hK,hL,I,rfl⟩
   obtain⟨lj,rfl⟩:=gnl hd'
   have hV2:=hmT (Cell.lst nl::Cell.dk Z6::G)
   obtain⟨bn,hbn,ebn⟩:=Nr la
   obtain⟨cn,hcn,ecn⟩:=Nr lj
   obtain⟨ms,ps,hms,hps,hdv⟩:=hxe a j la lj bn cn hbn hcn
   rw[<- ebn,<- ecn]at hdv
   have sp:V3 V a j ps:=Tz.stp ok hbn hcn hms hps.isR hps.len hps.led
   have lenp:=sp.len
   have fa:=I.hr.few h23 a
   have fj:=I.hr.few h23 j
   walk_at"g"
   refine⟨_,Vg.k (k1 _ _) (hK j lj),?_⟩
   walk_at"g"
   refine⟨_,Vg.k (k1 _ _) (hK a la),?_⟩
   walk_at"g"
   refine⟨_,Vg.t (ks:=[.inr (ZG V a),.inr (ZG V j)]) (hxT _) hdv,?_⟩
   walk_at"g"
   refine⟨f' a,ps,rfl,I.hr.isR a,sp.isR,by lia,by lia,fun pa h1 pq h2=>?_,fun c ic ec lc=>?_⟩
   ·have e1:=I.hr.dwn a pa h1
    have e2:=sp.dwn pq h2
    have:=I.hr.ge hd (zsL (I.hr.isR a) h1)
    lia
   walk_at"g"
   have lc2:(f' a).length*ps.length<=24*28:=MP fa lenp
   refine⟨f' j,c,rfl,I.hr.isR j,ic,by lia,by lia,WR.heads (I.hr.dwn j) (I.hr.comp hd sp ic ec),fun r ir er _=>?_⟩
   have R:T7 f' a j ps r:=T7.of ec ir er
   walk_at"g"
   refine⟨_,Vg.k (k1 _ _) (hK j lj),?_⟩
   refine tE ?_
   walk_at"g"
   refine Pj (fun ne=>?_) (fun eq=>?_)
   ·have I':=Xe.put hd I lj sp R (G':=fun k i=>k≠a\/i<j+1) fun k i g l=>by lia
    have less:=R.less hd I.hr I'.hr lj ne
    have K':=hK.put ok lj r
    have L':(dput Z6 (ZG V j) (.tup (r.map Pd))).length<=20:=by rw[jm (hK j lj)];exact hL
    have l12:=jh I.nd I.lt
    walk_at"g"
    refine Ug.k (k1 _ _) (by unfold big;lia) (Lq ?_)
    rw[show(Cell.lst nl::Cell.dk Z6::G).set 1 (Cell.dk (dput Z6 (ZG V j) (.tup (r.map Pd))))=Cell.lst nl::Cell.dk (dput Z6 (ZG V j) (.tup (r.map Pd)))::G from rfl]
    generalize dput Z6 (ZG V j) (.tup (r.map Pd))=kvs' at K' L'
    have hch:=gp (Z6:=kvs') hp
    have hch':=Lst.here hch
    walk_at"g"
    refine V2 (fun d=>!eqv d (.str (ZG V j))) id hch' (by rw[qc];unfold big;lia) (fun i d ys hd' hw=>?_) ?_
    ·obtain⟨c,hc,rfl⟩:∃ c,chs[i]?=some c/\d=.str (ZG V c):=by
      rw[qj]at hd'
      cases e:chs[i]? with
      |none=>rw[e]at hd';cases hd'
      |some b=>rw[e]at hd';exact⟨b,rfl,(qB hd').symm⟩
     have lc:=I.lt c (qe hc)
     walk_at"g"
     refine zsV (b:=eqv (.str (ZG V c)) (.str (ZG V j))) (fln lc) (fln lj) rfl ?_
     cases e:eqv (.str (ZG V c)) (.str (ZG V j))with
     |true =>
      walk_at"g"
      exact rH hd' hw (by rw[e];rfl)
     |false =>
      walk_at"g"
      exact V1 hd' hw (by rw[e];rfl) rfl
    rw[zqg ok lj I.lt,List.map_id]
    have lf:(chs.filter fun c=>!decide (c=j)).length<=12:=Xi (K9 _ _) (by lia)
    generalize hA:(chs.filter fun c=>!decide (c=j))=A at I' lf
    unfold New
    walk_at"g"
    refine zwu (xs:=A.map fun k=>D.str (ZG V k)) (ys:=[.str (ZG V j)]) (Lst.here ?_) (Lst.here ?_) (by rw[qc];unfold big;simp;lia) ?_
    ·exact YC
    ·exact Wz _ _ 1
    unfold New
    walk_at"g"
    have lj2:(A++[j]).length<=13:=by rw[qf];simp;lia
    refine⟨kvs',XJ f' j r,A++[j],G++[.lst (A.map fun k=>D.str (ZG V k)),.lst [.str (ZG V j)],.lst ((A.map fun k=>D.str (ZG V k))++[.str (ZG V j)])],G.length+2,some (.str (ZG V j)),some (.tup (r.map Pd)),?_,?_,?_,K',L',I',?_⟩
    ·have:Rw V (XJ f' j r)<Rw V f':=less
     lia
    ·simp
    ·rw[qi (by lia),GC,qA];rfl
    ·rw[show(S++Cell.lst nl::Cell.dk kvs'::G++[Cell.lst (A.map fun k=>D.str (ZG V k)),Cell.lst [D.str (ZG V j)]]).length=S.length+(G.length+2+2) by simp];rfl
   ·subst eq
    walk_at"g"
    exact⟨Z6,f',chs,G,p,_,_,hm',rfl,hp,hK,hL,I.same hd sp R fun k i g l=>by lia,rfl⟩
  ·rintro Z S' ⟨Z6,f',chs,G,p,w8,w9,hm',rfl,hp,hK,hL,I,rfl⟩
   rw[lnl]at I
   exact⟨_,hm',Z6,f',chs,G,p,_,_,_,_,rfl,rfl,hp,hK,hL,I.weak fun k j _ l=>.inr l,rfl⟩
 ·have e0:chs=[]:=by
   cases chs with
   |nil=>rfl
   |cons a r=>simp at c0
  subst e0
  have k00:=k0 (Cell.dk Z6::G)
  walk_at"g"
  refine V2 (fun _=>true) (vC Z6) k00 (by unfold big;lia) (fun i d ys hd' hw=>?_) ?_
  ·obtain⟨lj,rfl⟩:=gnl hd'
   walk_at"g"
   refine⟨_,Vg.k (k1 _ _) (hK i lj),?_⟩
   exact V1 hd' hw rfl (by show _=(dval Z6 (ZG V i)).getD .non;rw[hK i lj];rfl)
  rw[filter_true,show nl.map (vC Z6)=(List.range V.bs.length).map fun j=>.tup ((f j).map Pd)from List.ext_getElem? fun i=>by
   rw[qj,qj]
   by_cases hi:i<V.bs.length
   ·rw[JZ hi]
    have e:=qb (l:=nl) (show i<nl.length by lia)
    rw[e,(gnl e).2]
    show some ((dval Z6 (ZG V i)).getD .non)=_
    rw[hK i hi];rfl
   ·rw[qv (by lia),qv (by rw[RN];lia)];rfl]
  unfold New
  refine fin_same ?_
  rw[qm]
  have O:Vd V s f:=⟨I.hr,fun k hk j x w u hj hkj h1 h2=>I.cl k j True.intro hj (by simp) x w u hkj h1 h2⟩
  have e:=zrE O
  subst e
  exact q _ _ O (by rw[<- qm];exact YC) (by simp)
structure zye (S:Z5)(lo k:Nat)(V:Vl)(rs:List Nat):Prop where
 at':S[k]?=some (.lst (rs.map D.ref))
 len:rs.length=V.bs.length
 row:∀ (s r:Nat),rs[s]?=some r->S[r]?=some (.lst (YT V s))/\lo<=r
 nd:rs.Nodup
 lo:lo<=k
 nk:k∉rs
def K7:ZV:=fun ds S Q=>∃ (v:D) (V:Vl),ds=[v]/\Yj S v V/\Yy V/\V.h1<=V.h0+23/\∀ (T:Z5) (k:Nat) (rs:List Nat),zye (S++T) S.length k V rs->(∀ s,s<V.bs.length->Vd V s (Xc V s))->Q (.ref k) (S++T)
abbrev wA:DS :=
    (zA (zH (dCall Mj Zb) V7)
 (zV (XS 1 [0,1] (Ze (dCall Sw Zb)) Xa Wx (dCall Lh (zf Z1 (zf ZQ Zb))))))
def zmg:BodyOk 2 wA K7:=by
 rintro ds S Q ⟨v,V,rfl,hv,ok,h23,q⟩
 unfold wA
 have b12:=ok.b12
 walk_at"g"
 refine⟨_,V,rfl,hv,ok,fun T x hx=>?_⟩
 walk_at"g"
 refine⟨_,V,rfl,hv.old,by lia,?_⟩
 obtain⟨nl,hnl⟩:∃ nl,nl=(V.bs.map (·.1)).map D.str:=⟨_,rfl⟩
 have lnl:nl.length=V.bs.length:=by rw[hnl,qc,qc]
 have gnl:∀ {i:Nat} {d:D},nl[i]?=some d->∃ b,V.bs[i]?=some b/\d=.str b.1:=fun {i d} h=>by
  rw[hnl,qj,qj]at h
  cases e:V.bs[i]? with
  |none=>rw[e]at h;cases h
  |some b=>rw[e]at h;exact⟨b,rfl,(qB h).symm⟩
 rw[<- hnl]
 unfold New
 rw[qm]
 have k0:∀ G,Lst (S++(T++Cell.lst nl::G)) (.ref (S++T).length) nl:=fun G=>by rw[<- qm];exact Lst.at0
 have hvG:∀ G,Yj (S++(T++Cell.lst nl::G)) v V:=fun G=>hv.old
 have hxG:∀ G,Ez (S++(T++Cell.lst nl::G)) x V:=fun G=>by
  rw[<- qm]
  obtain⟨n,Z6,e,h1,h2⟩:=hx
  exact⟨n,Z6,e,YF h1,h2⟩
 have k00:=k0 []
 walk_at"g"
 refine⟨by show nl.length<=big;unfold big;lia,fun i ys S'=>∃ (G:Z5) (rs:List Nat),S'=S++(T++Cell.lst nl::G)/\ys=rs.map D.ref/\rs.length=i/\rs.Nodup/\(∀ (s r:Nat),rs[s]?=some r->S'[r]?=some (.lst (YT V s))/\S.length<=r)/\∀ s,s<i->Vd V s (Xc V s),⟨[],[],rfl,rfl,rfl,.nil,fun s r z=>(by cases z),fun s z=>absurd z (M4 _)⟩,fun i ys S' zq12=>by obtain⟨G,_,e,_⟩:=zq12;exact e▸k0 G,?_,?_⟩
 ·rintro i d ys S' hd ⟨G,rs,rfl,rfl,rfl,nd,hrow,hok⟩
  obtain⟨b,hb,rfl⟩:=gnl hd
  walk_at"g"
  refine⟨v,x,b.1,V,rs.length,rfl,hvG G,ok,hxG G,⟨b,hb,rfl⟩,h23,fun T' k H hk lk=>?_⟩
  have lt:∀ r∈rs,r<(S++(T++Cell.lst nl::G)).length:=fun r hr=>by
   obtain⟨s,hs,e⟩:=qH.mp hr
   exact zU (hrow s r (by rw[qb hs,e])).1
  refine⟨G++T',rs++[k],by simp,by rw[qA];rfl,by simp,?_,fun s r e=>?_,fun s hs=>?_⟩
  ·refine Pk.mpr ⟨nd,by simp,fun a ha c hc e=>?_⟩
   have:c=k:=by simpa using hc
   subst e this
   have:=lt _ ha
   lia
  ·by_cases e1:s<rs.length
   ·rw[qk e1]at e
    exact⟨YF (hrow s r e).1,(hrow s r e).2⟩
   ·have e2:s=rs.length:=by have:=zU e;rw[qf]at this;simp at this;lia
    subst e2
    rw[qi (qg _),Wv]at e
    cases e
    exact⟨hk,by rw[qf]at lk;lia⟩
  ·by_cases e1:s<rs.length
   ·exact hok s e1
   ·rw[show s=rs.length by lia];exact H
 ·rintro ys S' ⟨G,rs,rfl,rfl,lr,nd,hrow,hok⟩
  rw[lnl]at lr hok
  unfold New
  refine fin_same ?_
  rw[qm]
  refine q _ _ rs ⟨by rw[<- qm];exact YC,lr,fun s r e=>⟨by rw[<- qm];exact YF (hrow s r e).1,(hrow s r e).2⟩,nd,by simp,fun m=>?_⟩ hok
  obtain⟨s,hs,e⟩:=qH.mp m
  have:=zU (hrow s _ (by rw[qb hs,e])).1
  lia
def KD:WL:=fun ds S Q ex=>∃ (v:D) (V:Vl) (n:Str),ds=[v,.str n]/\Yj S v V/\Yy V/\fl 20 (.str n)=true/\(n∉V.bs.map (·.1)->∀ T,ex "NoBeacon" (S++T))/\(n∈V.bs.map (·.1)->Q .non S)
abbrev oW (ex:XR):DS :=
  (ZC (dT (Z7 Cq Z1 (dCall Sw Zb))) (M6 ex "NoBeacon") Zt)
def zgh:T6 2 oW KD:=by
 rintro ds S Q ex ⟨v,V,n,rfl,hv,ok,hn,hx,q⟩
 unfold oW
 have b12:=ok.b12
 walk_at"g"
 refine⟨v,V,rfl,hv,by lia,?_⟩
 walk_at"g"
 refine zoH (.inr Lst.at0) hn ok.flN ?_
 walk_at"g"
 refine Pj (fun h=>?_) (fun h=>?_)
 ·walk_at"g"
  exact hx h _
 ·walk_at"g"
  exact Yg rfl (q h)
open Classical in
def O7:WL:=fun ds S Q ex=>∃ (v:D) (V:Vl) (n n':Str),ds=[v,.str n,.str n']/\Yj S v V/\Yy V/\V.h1<=V.h0+23/\fl 20 (.str n)=true/\fl 20 (.str n')=true/\(n∉V.bs.map (·.1)\/n'∉V.bs.map (·.1)->∀ T,ex "NoBeacon" (S++T))/\∀ i j,U3 V i n->U3 V j n'->Vd V i (Xc V i)->Q (.tup ((Xc V i j).map Pd)) S
abbrev uU (ex : XR) : DS :=
    (zA (Zk (WT KD ex (zf Z2 Yk)))
 (zA (Zk (WT KD ex (zf Z2 YK)))
 (zV (Z7 ZX (dCall Lh (zf Z2 (zf (dCall Mj Zb) Yk))) (dM Dv (dCall Sw Zb) YK)))))
def zob:T6 3 uU O7:=by
 rintro ds S Q ex ⟨v,V,n,n',rfl,hv,ok,h23,fn,fn',no,q⟩
 unfold uU
 have b12:=ok.b12
 walk_at"g"
 refine⟨_,V,n,rfl,hv,ok,fn,fun h T=>no (.inl h) T,fun h1=>?_⟩
 walk_at"g"
 refine⟨_,V,n',rfl,hv,ok,fn',fun h T=>no (.inr h) T,fun h2=>?_⟩
 walk_at"g"
 obtain⟨i,hi⟩:=pB h1
 obtain⟨j,hj⟩:=pB h2
 refine⟨_,V,rfl,hv,ok,fun T x hx=>?_⟩
 walk_at"g"
 refine⟨_,x,n,V,i,rfl,hv.old,ok,hx,hi,h23,fun T' k H hk _=>?_⟩
 walk_at"g"
 refine⟨_,V,rfl,hv.old.old,by lia,?_⟩
 unfold New
 have fl1:∀ b∈V.bs,fl 20 (.str b.1)=true:=fun b hb=>Nz (ok.nm b hb) 20
 obtain⟨bj,hbj,ej⟩:=id hj
 have lj:=zU hbj
 have hnl:(S++T++T'++[Cell.lst ((V.bs.map (·.1)).map D.str)])[(S++T++T').length]?=some (.lst ((V.bs.map (·.1)).map D.str)):=YC
 walk_at"g"
 refine zta (j:=j) (e:=.str n') hnl ?_ fn' (by rw[qc,qc];unfold big;lia) ?_ ?_ (fun a e' ha he=>?_) ?_
 ·rw[WY,U6,qY];exact fl1
 ·rw[qj,qj,hbj,<- ej];rfl
 ·rw[Dm];exact decide_eq_true rfl
 ·obtain⟨ba,hba⟩:∃ ba,V.bs[a]?=some ba:=⟨_,qb (by lia)⟩
  rw[qj,qj,hba]at he
  cases he
  rw[Dm,<- ej]
  exact decide_eq_false fun z=>by have:=(JG ok hba hbj).mp z;lia
 refine BJ (xs:=YT V i) (d:=.tup ((Xc V i j).map Pd)) (Lst.here (YF hk)) (Ub ?_) ?_
 ·exact vg lj
 rw[qm,qm]
 exact Yg (RT _) (q i j hi hj H)
structure GP (V:Vl)(ps:List Pc)(o:Option Int):Prop where
 rng:∀ u,o=some u->V.h0<=u/\u<=V.h1
 iff:∀ x,V.h0<=x->x<=V.h1->(at' ps x=none↔∃ u,o=some u/\u<=x)
def uM (V:Vl)(ps:List Pc)(e:Int):Prop:=(∀ p,ps.getLast?=some p->e=p.hi+1)/\(ps=[]->e=V.h0)
def GP.of {V:Vl}{s:Nat}{f:Nat->List Pc}(H:Xr V s f){j:Nat}{e:Int}(he:uM V (f j) e):GP V (f j) (if e<=V.h1 then some e else none):=by
 have key:V.h0<=e/\∀ x,V.h0<=x->(at' (f j) x=none↔e<=x):=by
  cases hl:(f j).getLast? with
  |none =>
   have e0:f j=[]:=Qx.mp hl
   have:=he.2 e0
   refine⟨by lia,fun x h0=>⟨fun _=>by lia,fun _=>by rw[e0];rfl⟩⟩
  |some p =>
   have ee:=he.1 p hl
   have hp:=List.mem_of_getLast? hl
   obtain⟨i,hi,ei⟩:=qH.mp hp
   have g:=(H.isR j).good p hp
   have ap:=Xf (H.isR j) (show(f j)[i]?=some p by rw[qb hi,ei]) ⟨g.le,qC _⟩
   have d:=H.dom j _ _ ap
   refine⟨by lia,fun x h0=>⟨fun no=>?_,fun le=>Om (H.isR j) (by unfold endOf;rw[hl];dsimp only;lia)⟩⟩
   rcases Qj x e with h|h
   ·obtain⟨u,hu,_⟩:=(H.dwn j).at (H.isR j) ap h0 (by lia)
    rw[hu]at no;cases no
   ·exact h
 by_cases h:e<=V.h1
 ·rw[if_pos h]
  exact⟨fun u z=>by cases z;exact⟨key.1,h⟩,fun x h0 _=>(key.2 x h0).trans ⟨fun l=>⟨e,rfl,l⟩,fun⟨u,z,l⟩=>by cases z;exact l⟩⟩
 ·rw[if_neg h]
  exact⟨fun u z=>(by cases z),fun x h0 h1=>(key.2 x h0).trans ⟨fun l=>by lia,fun⟨u,z,l⟩=>by cases z⟩⟩
def J4:WL:=fun ds S Q ex=>∃ (v:D) (V:Vl) (n n':Str),ds=[v,.str n,.str n']/\Yj S v V/\Yy V/\V.h1<=V.h0+23/\fl 20 (.str n)=true/\fl 20 (.str n')=true/\(n∉V.bs.map (·.1)\/n'∉V.bs.map (·.1)->∀ T,ex "NoBeacon" (S++T))/\∀ i j,U3 V i n->U3 V j n'->Vd V i (Xc V i)->∀ o,GP V (Xc V i j) o->Q (WD o) S
abbrev p8 (ex : XR) : DS :=
    (zA (zH (WT O7 ex (zf Z2 (zf Z1 YK))) Y9)
 (zA (sJ (zH (RL (dT (Z7 Xm (dB Y4 YD) Zw)) (Z7 Zz (Z7 ZX (Z7 ZX ZP (Yp Yo ZK)) ZK) ZK) (Yn "first" Z2)) YX))
 (zV (RL (dT (Z7 oLe ZF (Yn "last" Z2))) ZF (dC .non)))))
def zic:T6 5 p8 J4:=by
 rintro ds S Q ex ⟨v,V,n,n',rfl,hv,ok,h23,fn,fn',no,q⟩
 unfold p8
 walk_at"g"
 refine⟨v,V,n,n',rfl,hv,ok,h23,fn,fn',no,fun i j hi hj H=>?_⟩
 obtain⟨m,g,b',f',rfl,hm,_⟩:=id hv
 have q':=q i j hi hj H
 walk_at"g"
 walk_at"h"
 refine Di (fun Z S'=>∃ e,S'=S/\uM V (Xc V i j) e/\Z=[some (.ref m),some (.str n),some (.str n'),some (.tup ((Xc V i j).map Pd)),some (.int e)]) ?_ ?_
 ·walk_at"g"
  rw[qc]
  cases hl:(Xc V i j).getLast? with
  |none =>
   have e0:Xc V i j=[]:=Qx.mp hl
   rw[e0]
   refine ZM (fun c=>absurd c (by simp)) (fun _=>?_)
   walk_at"g"
   exact⟨_,rfl,⟨fun p z=>(by cases z),fun _=>rfl⟩,rfl⟩
  |some p =>
   have al:=yH hl
   refine ZM (fun _=>?_) (fun c=>?_)
   ·walk_at"g"
    refine⟨_,rfl,⟨fun p' z=>?_,fun z=>?_⟩,rfl⟩
    ·rw[hl]at z;cases z;rfl
    ·rw[z]at hl;cases hl
   ·have:0<(Xc V i j).length:=List.length_pos_iff.mpr fun z=>by rw[z]at hl;cases hl
    lia
 ·rintro Z S' ⟨e,rfl,he,rfl⟩
  have q2:=q' _ (GP.of H.1 he)
  walk_at"g"
  refine ZM (fun c=>?_) (fun c=>?_)
  ·rw[if_pos c]at q2
   walk_at"g"
   exact fin_same q2
  ·rw[if_neg c]at q2
   walk_at"g"
   exact fin_same q2
def HS:ZV:=fun ds S Q=>∃ (k:Int) (v:D) (V:Vl) (n m:Str),ds=[.int k,v,.str n,.str m]/\Yj S v V/\Yy V/\V.h1<=V.h0+23/\fl 20 (.str n)=true/\fl 20 (.str m)=true/\(n∉V.bs.map (·.1)\/m∉V.bs.map (·.1))/\Q (.bl true) S
abbrev yU:DS :=
    (zA (zH (Yz zF) YX)
 (zA (DQ 5 ["BadGround","OffGround","BadFog","BadName","Twice","TooMany","BadHour","NoBeacon"] (fun ex=>(ZC (dT (Z7 oEq Z2 Zw)) (Zk (WT O7 ex (zf Z1 (zf ZQ YD)))) (Zk (WT J4 ex (zf Z1 (zf ZQ YD)))))) (zA (zH (Yz (zf (RM [("BadGround",true),("OffGround",true),("BadFog",true),("BadName",true),("Twice",true),("TooMany",true),("BadHour",true),("NoBeacon",true)] Zx) (zf (RM [("BadGround",false),("OffGround",false),("BadFog",false),("BadName",false),("Twice",false),("TooMany",false),("BadHour",false),("NoBeacon",true)] Zx) (zf (RM [("BadGround",false),("OffGround",false),("BadFog",false),("BadName",false),("Twice",false),("TooMany",false),("BadHour",true),("NoBeacon",false)] Zx) zF)))) YX)
 (Zk (dM UL ZF (zf (RM [("BadGround",false),("OffGround",false),("BadFog",false),("BadName",true),("Twice",false),("TooMany",false),("BadHour",false),("NoBeacon",false)] Zx) zF)))))
 (zV (Z7 oEq ZF (Yz (zf (dC (.bl true)) (zf (dC (.bl true)) (zf (dC (.bl false)) (zf (dC (.bl false)) zF)))))))))
def jt:BodyOk 6 yU HS:=by
 rintro ds S Q ⟨k,v,V,n,m,rfl,hv,ok,h23,hn,hm,no,q⟩
 unfold yU
 have hv1:Yj (S++[.lst []]) v V:=hv.old
 walk_at"g"
 walk_at"h"
 refine ZM (fun h=>?_) (fun h=>?_)
 ·walk_at"g"
  refine⟨v,V,n,m,rfl,hv1,ok,h23,hn,hm,fun _ T=>⟨rfl,?_⟩,fun i j hi hj=>absurd no (by
   rintro(h|h)
   ·exact h hi.mem
   ·exact h hj.mem)⟩
  walk_at"g"
  rw[qX _ _ (qg _),Wv,Jt]
  refine pK (xs:=[.bl true,.bl true,.bl false,.bl false]) (Lst.at (k:=T.length) (by rw[qm,qi (qg _),Wv];rfl)) Lst.new rfl ?_
  rw[qm]
  exact Yg rfl q
 ·walk_at"g"
  refine⟨v,V,n,m,rfl,hv1,ok,h23,hn,hm,fun _ T=>⟨rfl,?_⟩,fun i j hi hj=>absurd no (by
   rintro(h|h)
   ·exact h hi.mem
   ·exact h hj.mem)⟩
  walk_at"g"
  rw[qX _ _ (qg _),Wv,Jt]
  refine pK (xs:=[.bl true,.bl true,.bl false,.bl false]) (Lst.at (k:=T.length) (by rw[qm,qi (qg _),Wv];rfl)) Lst.new rfl ?_
  rw[qm]
  exact Yg rfl q
theorem Ew {S:Z5}{F:Nat->List D}:∀ {rs:List Nat} {b:Nat},(∀ (s r:Nat),rs[s]?=some r->S[r]?=some (.lst (F (b+s))))->Sx S (rs.map D.ref) ((List.range' b rs.length).map F)
 |[],_,_=>True.intro
 |r::rs,b,h=>⟨Lst.here (h 0 r rfl),Ew fun s r' e=>by
   have:=h (s+1) r' e
   rw[show b+(s+1)=b+1+s by lia]at this
   exact this⟩
def ztj {V:Vl}{s:Nat}:(YT V s).all (fl 20)=true:=by
 unfold YT
 rw[U6,qY]
 exact fun j _=>RT _
def zpC {V:Vl}(is:List Nat):Wo (is.map (YT V))=true:=by
 unfold Wo
 rw[U6,qY]
 exact fun j _=>ztj
def zru {xss:List (List D)}(h:Wo xss=true):eqvAll (xss.map D.tup) (xss.map D.tup)=true:=eqvAll_refl 21 _ (by rw[U6];exact h)
def DY {bs:List (Str×(Int×Int))}(h:Hv bs)(h5:bs.length<=5){z:Str}(hz:∀ (j:Nat) t,j<5->z≠Xk j t):z∉bs.map (·.1):=fun m=>by
 obtain⟨b,hb,e⟩:=qT.mp m
 obtain⟨j,hj,ej⟩:=qH.mp hb
 obtain⟨t,et⟩:=h j b (by rw[qb hj,ej])
 exact hz j t (by lia) (by rw[<- e,et])
def nu {z:Str}{c:Nat}{cs:List Nat}(hz:z.cps.toList=c::cs)(hc:c<97\/102<=c)(j t:Nat)(hj:j<5):z≠Xk j t:=fun e=>by
 have h:z.cps.toList=(Xk j t).cps.toList:=congrArg (fun z:Str=>z.cps.toList) e
 rw[hz,TQ]at h
 have:=(R6 h).1
 lia
def zqH {bs:List (Str×(Int×Int))}(h:Hv bs){b:Str×(Int×Int)}(hb:bs[0]?=some b):b.1++"q"∉bs.map (·.1):=fun m=>by
 obtain⟨c,hc,e⟩:=qT.mp m
 obtain⟨j,hj,ej⟩:=qH.mp hc
 have gc:bs[j]?=some c:=by rw[qb hj,ej]
 obtain⟨t,et⟩:=h j c gc
 obtain⟨t0,et0⟩:=h 0 b hb
 have hl:c.1.cps.toList=(b.1++"q").cps.toList:=congrArg (fun z:Str=>z.cps.toList) e
 have hq:(b.1++("q":Str)).cps.toList=b.1.cps.toList++[113]:=by
  show(b.1.cps++("q":Str).cps).toList=_
  rw[Array.toList_append];rfl
 rw[hq,et,et0,TQ,TQ]at hl
 have:=(R6 hl).1
 have e0:j=0:=by lia
 subst e0
 rw[hb]at gc
 cases gc
 rw[et0]at et
 have h2:(Xk 0 t0).cps.toList=(Xk 0 t).cps.toList:=congrArg (fun z:Str=>z.cps.toList) et
 rw[TQ,TQ]at h2
 have h3:=(R6 hl).2
 rw[<- (R6 h2).2]at h3
 have:=congrArg List.length h3
 simp at this
abbrev vV:DS :=
    (zA (zH (dCall Je Zb) V7)
 (zA (zH (dCall Kh Yk) Yu)
 (zA (zH (XS 1 [] (Ze T8) Xa Wx X4) Y9)
 (zA (zH (dCall K7 YK) YX)
 (zA (ZC (TJ (Wb (dT (dB T4 (zf ZF (zf (dC (.ty "list")) zF))))) (dT (Z7 U9 (dB Y4 T5) (dB Y4 YD)))) (zV (dC (.bl false))) Zt)
 (zA (zH (Yz zF) Yc)
 (zA (Yx (Oe YD) (XF 2 (Zn VL (Zn Ui X3))) (zA (ZC (TJ (Wb (dT (dB T4 (zf (Z7 ZX ZF Ys) (zf (dC (.ty "list")) zF))))) (dT (Z7 U9 (dB Y4 (zf (Z7 ZX ZF Ys) zF)) (dB Y4 YD)))) (zV (dC (.bl false))) Zt)
 (zA (zH (Z7 oMod (Z7 Zz Ys (Z7 oDiv (dCall Oc (zf Z2 (zf ZK zF))) Uu)) (dB Y4 YD)) Nx)
 (zA (ZC (dT (Z7 U9 (Z7 ZX (Z7 ZX ZF Ys) Vc) (WT O7 xF (zf ZQ (zf Xq (zf (Z7 ZX ZP Vc) zF)))))) (zV (dC (.bl false))) Zt)
 (zA (Zk (dM UL Zx (zf (dB Nk (zf (Z7 ZX ZF Ys) zF)) zF)))
 (Zk (dM Jv (Z7 ZX ZF Ys) zF)))))))
 (zA (Zk (dM Jv ZF zF))
 (zA (zH (Z7 ZX (Yz (zf (dC (.str "x")) (zf (dC (.str "")) (zf (Z7 Zz Cd (dC (.str "q"))) (zf (dC (.str "A")) zF))))) (Z7 oMod (dCall Oc (zf Z2 (zf ZK zF))) Uu)) Ln)
 (zA (Yx (Oi (zf Va zF)) oF (Yx (Ze (Yz (zf (dTup (zf U7 (zf Cd zF))) (zf (dTup (zf (Z7 ZX ZP (Yp Yo ZK)) yE)) (zf (dTup (zf U7 yE)) zF))))) (XF 2 (Zn Ui (Zn nZ X3))) (ZC (Wb (dT (dCall HS (zf oX (zf ZQ (zf Xq yS)))))) (zV (dC (.bl false))) Zt)))
 (zV (Z7 oEq (dCall K7 YK) Zx))))))))))))
def zu1:BodyOk 12 vV Oh:=by
  rintro ds S Q ⟨ns,rfl,_,hl,q⟩
  unfold vV
  walk_at"g"
  refine⟨ns,rfl,hl,fun T x y z V ok b2 b5 f6 h00 h05 h23 dl3 hnm hs=>?_⟩
  generalize S++T=S1 at hs
  have hh:=ok.hh
  have hd:=ok.dl
  walk_at"g"
  refine⟨x,y,z,V,rfl,hs,ok,fun T v hv=>?_⟩
  have hs2:Qf (S1++T) x y z V:=hs.old
  generalize S1++T=S2 at hv hs2
  obtain⟨S3,e3⟩:∃ S3,S3=S2:=⟨_,rfl⟩
  rw[<- e3]at hv hs2 ⊢
  clear e3 hs
  have hv3:=hv
  obtain⟨hx,hy,hz⟩:=id hs2
  walk_at"g"
  refine V2 (fun _=>true) (N6 fun b=>.str b.1) hy (by rw[qc];unfold big;lia) (fun i d ys hd' hw=>?_) ?_
  . obtain⟨b,_,rfl⟩:=Ov hd'
    walk_at"g"
    exact V1 hd' hw rfl rfl
  rw[filter_true,LK]
  unfold New
  obtain⟨nl,hnl⟩:∃ nl,nl=V.bs.map fun b=>D.str b.1:=⟨_,rfl⟩
  rw[<- hnl]
  have lnl:nl.length=V.bs.length:=by rw[hnl,qc]
  have fl1:∀ b∈V.bs,fl 20 (.str b.1)=true:=fun b hb=>Nz (ok.nm b hb) 20
  have gnl:∀ {i:Nat} {d:D},nl[i]?=some d->∃ b,V.bs[i]?=some b/\d=.str b.1:=fun {i d} h=>by
    rw[hnl,qj]at h
    cases e:V.bs[i]? with
    |none=>rw[e]at h;cases h
    |some b=>rw[e]at h;exact⟨b,rfl,(qB h).symm⟩
  have k0:∀ T,Lst (S3++Cell.lst nl::T) (.ref S3.length) nl:=fun T=>Lst.at0
  walk_at"g"
  refine⟨v,V,rfl,hv3.old,ok,h23,fun T k rs hT hok=>?_⟩
  obtain⟨S4,hS4⟩:∃ S4,S4=S3++[Cell.lst nl]:=⟨_,rfl⟩
  rw[<- hS4]at hT ⊢
  have hv4:∀ T,Yj (S4++T) v V:=fun T=>by rw[hS4,qm];exact hv3.old
  have kn:∀ T,Lst (S4++T) (.ref S3.length) nl:=fun T=>by rw[hS4,qm];exact k0 T
  clear hS4 hv3 k0 hv hs2 hx hy hz
  have hTa:=hT.at'
  have lrs:=hT.len
  have kn1:=kn T
  walk_at"g"
  rw[qc,lnl,lrs]
  refine Pj (fun no=>absurd rfl no) fun _=>?_
  walk_at"g"
  have rlt:∀ r∈rs,S4.length<=r/\r<(S4++T).length:=fun r hr=>by
    obtain⟨s,hs,e⟩:=qH.mp hr
    have:=hT.row s r (by rw[qb hs,e])
    exact⟨this.2,zU this.1⟩
  have klt:=zU hTa
  have ko:=hT.lo
  rw[qf]at klt
  obtain⟨kk,hkk⟩:∃ kk,kk=S4.length+T.length:=⟨_,rfl⟩
  have kkr:kk∉rs:=fun m=>by have:=(rlt kk m).2;rw[qf]at this;lia
  rw[<- hkk]
  have kn2:=kn (T++[.lst []])
  walk_at"h"
  refine Gy kn2 ?_
  refine Yr (fun i Z S'=>∃ (G:Z5) (ks:List Nat) (w6 w7 w8:Option D),S'=S4++G/\(T.length<G.length)/\S'[k]?=some (.lst (rs.map D.ref))/\(∀ (j r:Nat),i<=j->rs[j]?=some r->S'[r]?=some (.lst (YT V j)))/\S'[kk]?=some (.lst (ks.map D.ref))/\ks.length=i/\(∀ (j c:Nat),ks[j]?=some c->S'[c]?=some (.lst (YT V j))/\c∉rs/\c≠k/\c≠kk)/\Z=[some (.rl (ns.map D.int)),some (Mv x y z V),some v,some (.ref S3.length),some (.ref k),some (.ref kk),w6,w7,w8,none,none,none]) ⟨_,[],_,_,_,rfl,by simp,?_,fun j r _ e=>?_,?_,rfl,fun j c e=>(by cases e),rfl⟩ (fun i Z S' zq13=>by obtain⟨_,_,_,_,_,e,_⟩:=zq13;exact e▸kn _) ?_ ?_
  . rw[<- qm];exact YF hTa
  . rw[<- qm];exact YF (hT.row j r e).1
  . rw[hkk];exact Jj
  . rintro i d Z S' hd' ⟨G,ks,w6,w7,w8,rfl,lG,hk,hrow,hkk',lks,hks,rfl⟩
    obtain⟨y1,hy1,rfl⟩:=Qg hd'
    obtain⟨b,hb,rfl⟩:=gnl hy1
    have li:=zU hb
    rw[Mf]
    obtain⟨r,hr⟩:∃ r,rs[i]?=some r:=⟨_,qb (by lia)⟩
    have mr:=qe hr
    obtain⟨r0,r1⟩:=rlt r mr
    rw[qf]at r1
    have hri:=hrow i r (qg _) hr
    have hk':=Lst.here hk
    have hri':=Lst.here hri
    have air:Y7 (rs.map D.ref) (i:Int)=some (.ref r):=Ub (by rw[qj,hr];rfl)
    have knG:=kn G
    walk_at"g"
    rw[fU,lnl]
    refine Pj (fun no=>absurd rfl no) fun _=>?_
    walk_at"g"
    refine⟨ns,1,rfl,by decide,fun c0=>?_⟩
    walk_at"g"
    generalize (i:Int)+c0/4=c1
    obtain⟨t,ht,et⟩:∃ t:Nat,t<V.bs.length/\c1%(nl.length:Int)=(t:Int):=⟨(c1%(nl.length:Int)).toNat,by
      have h1:=Ri c1 (show(nl.length:Int)≠0 by lia)
      have h2:=Nu c1 (show(0:Int)<nl.length by lia)
      lia,by
      have h1:=Ri c1 (show(nl.length:Int)≠0 by lia)
      lia⟩
    rw[et]
    obtain⟨bt,hbt⟩:∃ b,V.bs[t]?=some b:=⟨_,qb ht⟩
    have ant:Y7 nl (t:Int)=some (.str bt.1):=Ub (by rw[hnl,qj,hbt];rfl)
    have aht:=Ub (vg (s:=i) ht)
    walk_at"j"
    walk_at"g"
    refine⟨v,V,b.1,bt.1,rfl,hv4 G,ok,h23,fl1 _ (qe hb),fl1 _ (qe hbt),fun no=>?_,fun a c ha hc H=>?_⟩
    . rcases no with no|no
      . exact(no (qT.mpr ⟨_,qe hb,rfl⟩)).elim
      . exact(no (qT.mpr ⟨_,qe hbt,rfl⟩)).elim
    have e1:a=i:=ha.uniq ok ⟨b,hb,rfl⟩
    have e2:c=t:=hc.uniq ok ⟨bt,hbt,rfl⟩
    subst e1 e2
    refine tE ?_
    rw[decide_eq_true rfl]
    walk_at"g"
    have oldB:∀ {c:Nat} {e:Cell},(S4++G)[c]?=some e->(S4++(G++[Cell.lst (YT V a)]))[c]?=some e:=fun {c e} h=>by rw[<- qm];exact YF h
    have newB:(S4++(G++[Cell.lst (YT V a)]))[S4.length+G.length]?=some (.lst (YT V a)):=Jj
    have e1:∀ {j:Nat} {c:Cell},S4.length<=j->(S4++(G++[Cell.lst (YT V a)])).set j c=S4++(G++[Cell.lst (YT V a)]).set (j-S4.length) c:=fun h=>qX _ _ h
    refine yO (xs:=ks.map D.ref) (oldB hkk') (by rw[qc];unfold big;lia) (G9 ?_)
    have s1:((S4++(G++[Cell.lst (YT V a)])).set kk (.lst (ks.map D.ref++[.ref (S4.length+G.length)])))[kk]?=some (.lst ((ks++[S4.length+G.length]).map D.ref)):=by
      rw[qN (zU (oldB hkk')),qA];rfl
    have s2:∀ {c:Nat} {e:Cell},c≠kk->(S4++(G++[Cell.lst (YT V a)]))[c]?=some e->((S4++(G++[Cell.lst (YT V a)])).set kk (.lst (ks.map D.ref++[.ref (S4.length+G.length)])))[c]?=some e:=fun h e=>by rw[qM (Ne.symm h)];exact e
    have s3:∃ G1:Z5,G1.length=G.length+1/\(S4++(G++[Cell.lst (YT V a)])).set kk (.lst (ks.map D.ref++[.ref (S4.length+G.length)]))=S4++G1:=⟨_,by rw[VP,qf];rfl,e1 (by lia)⟩
    generalize (S4++(G++[Cell.lst (YT V a)])).set kk (.lst (ks.map D.ref++[.ref (S4.length+G.length)]))=B1 at s1 s2 s3
    obtain⟨G1,lG1,rfl⟩:=s3
    have kkk:k≠kk:=by lia
    have rkk:r≠kk:=fun e=>kkr (e▸mr)
    have rk:r≠k:=fun e=>hT.nk (e▸mr)
    have hk1:=s2 kkk (oldB hk)
    have hk1':=Lst.here hk1
    have hr1:=s2 rkk (oldB hri)
    walk_at"g"
    refine um hr1 (G9 ?_)
    have t2:∀ {c:Nat} {e:Cell},c≠r->(S4++G1)[c]?=some e->((S4++G1).set r (.lst []))[c]?=some e:=fun h e=>by rw[qM (Ne.symm h)];exact e
    refine⟨G1.set (r-S4.length) (.lst []),ks++[S4.length+G.length],_,_,_,qX _ _ r0,by rw[VP];lia,t2 (Ne.symm rk) hk1,fun j r' hj e=>?_,t2 (Ne.symm rkk) s1,by simp[lks],fun j c e=>?_,rfl⟩
    . have nr : r' ≠ r := fun z => by
        have:=zys hT.nd e (z▸hr)
        lia
      exact t2 nr (s2 (fun z=>kkr (z▸qe e)) (oldB (hrow j r' (by lia) e)))
    . by_cases h:j<ks.length
      . rw[qk h]at e
        obtain⟨h1,h2,h3,h4⟩:=hks j c e
        exact⟨t2 (fun z=>h2 (z▸mr)) (s2 h4 (oldB h1)),h2,h3,h4⟩
      . have e2:j=ks.length:=by have:=zU e;rw[qf]at this;simp at this;lia
        subst e2
        rw[qi (qg _),Wv]at e
        cases e
        rw[lks]
        have nr:S4.length+G.length∉rs:=fun m=>by have:=(rlt _ m).2;rw[qf]at this;lia
        exact⟨t2 (fun z=>nr (z▸mr)) (s2 (by lia) newB),nr,by lia,by lia⟩
  rintro Z S' ⟨G,ks,w6,w7,w8,rfl,lG,hk,_,hkk',lks,hks,rfl⟩
  rw[Te,lnl]at lks
  walk_at"g"
  refine um hk (G9 ?_)
  have t2:∀ {c:Nat} {e:Cell},c≠k->(S4++G)[c]?=some e->((S4++G).set k (.lst []))[c]?=some e:=fun h e=>by rw[qM (Ne.symm h)];exact e
  have kk1:=t2 (show kk≠k by lia) hkk'
  have ks1:∀ (j c:Nat),ks[j]?=some c->((S4++G).set k (.lst []))[c]?=some (.lst (YT V j)):=fun j c e=>t2 (hks j c e).2.2.1 (hks j c e).1
  rw[qX _ _ ko]at kk1 ks1 ⊢
  generalize G.set (k-S4.length) (Cell.lst [])=G2 at kk1 ks1
  obtain⟨b0,hb0⟩:∃ b,V.bs[0]?=some b:=⟨_,qb (by lia)⟩
  obtain⟨b9,hb9⟩:∃ b,V.bs[V.bs.length-1]?=some b:=⟨_,qb (by lia)⟩
  have an0:Y7 nl 0=some (.str b0.1):=Ub (i:=0) (by rw[hnl,qj,hb0];rfl)
  have an9:Y7 nl (-1)=some (.str b9.1):=by
    have:nl=nl.take (V.bs.length-1)++[.str b9.1]:=by
      have h9:nl[V.bs.length-1]?=some (.str b9.1):=by rw[hnl,qj,hb9];rfl
      rw[<- Wm h9,G3 (by lia)]
    rw[this];exact HJ
  have knG2:=kn G2
  have f0:=fl1 _ (qe hb0)
  have f9:=fl1 _ (qe hb9)
  walk_at"g"
  have nq:WQ b0.1=true:=ok.nm _ (qe hb0)
  have lq:=(IK.mp nq).2.1
  refine xG (by rw[show(Str.ofString "q").length=1 by decide +kernel];unfold big;lia) ?_
  walk_at"g"
  refine⟨ns,1,rfl,by decide,fun c0=>?_⟩
  walk_at"g"
  obtain⟨z0,az,fz,nz⟩:∃ z0:Str,Y7 [D.str (Str.ofString "x"),D.str (Str.ofString ""),D.str (b0.1++Str.ofString "q"),D.str (Str.ofString "A")] (c0%4)=some (.str z0)/\fl 20 (.str z0)=true/\z0∉V.bs.map (·.1):=by
    have:c0%4=0\/c0%4=1\/c0%4=2\/c0%4=3:=by lia
    rcases this with e|e|e|e<;>rw[e]
    . exact⟨_,rfl,by decide +kernel,DY hnm b5 (nu (c:=120) (cs:=[]) (by decide +kernel) (by decide))⟩
    . refine⟨_,rfl,by decide +kernel,DY hnm b5 fun j t _ e=>?_⟩
      have h:(Str.ofString "").cps.toList=(Xk j t).cps.toList:=congrArg (fun z:Str=>z.cps.toList) e
      rw[TQ,show(Str.ofString "").cps.toList=[] by decide +kernel]at h
      cases h
    . refine⟨_,rfl,?_,zqH hnm hb0⟩
      show(b0.1.cps++(Str.ofString "q").cps).all (· < 0x110000)=true
      rw[Array.all_append,show(b0.1.cps.all (· < 0x110000))=true from f0];decide +kernel
    . exact⟨_,rfl,by decide +kernel,DY hnm b5 (nu (c:=65) (cs:=[]) (by decide +kernel) (by decide))⟩
  refine BJ Lst.new az ?_
  obtain⟨S5,hS5⟩:∃ S5,S5=S4++(G2++[Cell.lst [D.str (Str.ofString "x"),D.str (Str.ofString ""),D.str (b0.1++Str.ofString "q"),D.str (Str.ofString "A")]]):=⟨_,rfl⟩
  have kn5:∀ T,Lst (S5++T) (.ref S3.length) nl:=fun T=>by rw[hS5,qm];exact kn _
  have hv5:∀ T,Yj (S5++T) v V:=fun T=>by rw[hS5,qm];exact hv4 _
  have kk5:∀ T,(S5++T)[kk]?=some (.lst (ks.map D.ref)):=fun T=>by rw[hS5,<- qm,qm];exact YF kk1
  have ks5:∀ T (j c:Nat),ks[j]?=some c->(S5++T)[c]?=some (.lst (YT V j)):=fun T j c e=>by rw[hS5,<- qm,qm];exact YF (ks1 j c e)
  rw[<- hS5]
  clear hS5 kk1 ks1 knG2 az
  walk_at"g"
  walk_at"h"
  refine⟨_,rfl,by decide,by decide,?_⟩
  refine Yr (fun i Z S'=>∃ (H:Z5) (w7 w10 w11:Option D),S'=S5++H/\Z=[some (.rl (ns.map D.int)),some (Mv x y z V),some v,some (.ref S3.length),some (.ref k),some (.ref kk),w6,w7,w8,some (.str z0),w10,w11]) ⟨[],_,_,_,(qV _).symm,rfl⟩ (fun _ _ _ _=>True.intro) ?_ ?_
  . rintro i d Z S' hd' ⟨H,w7,w10,w11,rfl,rfl⟩
    obtain⟨hi,rfl⟩:=Cg hd'
    have knH:=kn5 H
    walk_at"g"
    obtain⟨tl,htl⟩:∃ tl,tl=[D.tup [D.str z0,D.str b0.1],D.tup [D.str b9.1,D.str z0],D.tup [D.str z0,D.str z0]]:=⟨_,rfl⟩
    rw[<- htl]
    have kt:Lst (S5++(H++[Cell.lst tl])) (.ref (S5.length+H.length)) tl:=Lst.new
    refine Yr (fun j Z S'=>∃ (w7 w11:Option D),S5++(H++[Cell.lst tl])=S'/\Z=[some (.rl (ns.map D.int)),some (Mv x y z V),some v,some (.ref S3.length),some (.ref k),some (.ref kk),w6,w7,w8,some (.str z0),some (.int (0+(i:Int))),w11]) ⟨_,_,rfl,rfl⟩ (fun j Z S' zq14=>by obtain⟨_,_,e,_⟩:=zq14;exact e▸kt) ?_ ?_
    . rintro j d Z S' hdj ⟨w7,w11,rfl,rfl⟩
      obtain⟨n1,n2,rfl,g1,g2,no⟩:∃ n1 n2:Str,d=.tup [.str n1,.str n2]/\fl 20 (.str n1)=true/\fl 20 (.str n2)=true/\(n1∉V.bs.map (·.1)\/n2∉V.bs.map (·.1)):=by
        have hm:=qe hdj
        rw[htl]at hm
        rcases qh.mp hm with rfl|hm
        . exact⟨_,_,rfl,fz,f0,.inl nz⟩
        rcases qh.mp hm with rfl|hm
        . exact⟨_,_,rfl,f9,fz,.inr nz⟩
        rcases qh.mp hm with rfl|hm
        . exact⟨_,_,rfl,fz,fz,.inl nz⟩
        . cases hm
      walk_at"g"
      refine⟨_,v,V,n1,n2,rfl,hv5 _,ok,h23,g1,g2,no,?_⟩
      walk_at"g"
      exact⟨_,_,rfl,rfl⟩
    . rintro Z S' ⟨w7,w11,rfl,rfl⟩
      exact⟨_,_,_,_,rfl,rfl⟩
  . rintro Z S' ⟨H,w7,w10,w11,rfl,rfl⟩
    walk_at"g"
    refine⟨v,V,rfl,hv5 H,ok,h23,fun T' k' rs' hT' _=>?_⟩
    walk_at"g"
    have fr:=zpC (V:=V) (List.range' 0 V.bs.length)
    have l1:Sx (S5++H++T') (rs'.map D.ref) ((List.range' 0 V.bs.length).map (YT V)):=by
      rw[<- hT'.len]
      exact Ew fun s r e=>by rw[Mf];exact(hT'.row s r e).1
    have l2:Sx (S5++H++T') (ks.map D.ref) ((List.range' 0 V.bs.length).map (YT V)):=by
      rw[<- lks]
      exact Ew fun s r e=>by rw[Mf];exact YF (ks5 H s r e)
    exact zvY (Lst.here hT'.at') (Lst.here (YF (kk5 H))) l1 l2 fr fr (zru fr) (fin_same (q _))
end Dp
namespace Law
open PySem PySem.Spec PyProof.Rows L2 My Dp
def top (i:Nat):Stmt:=PySem.Challenge.pw_beaconvale_k72_all_hearings.main.body.getD i (.Pass ⟨0,0,0,0⟩)
abbrev vY:Stmt:=top 91
abbrev pH:Stmt:=top 92
abbrev lY:Stmt:=top 93
abbrev pO:Stmt:=top 94
abbrev mJ:Stmt:=top 95
abbrev uV:Stmt:=top 96
abbrev sX:Stmt:=top 58
abbrev Mx:Stmt:=inClass (top 59) 0
abbrev pA:Stmt:=top 72
abbrev oM:Stmt:=top 71
abbrev lF:Stmt:=top 73
abbrev xP:Stmt:=top 52
abbrev Ae:Stmt:=top 60
abbrev pY:Stmt:=top 50
abbrev v7:Stmt:=top 51
abbrev lK:Stmt:=top 54
abbrev vU:Stmt:=top 61
abbrev wV:Stmt:=top 62
abbrev uI:Stmt:=top 74
abbrev vZ:Stmt:=top 1
abbrev pJ:Stmt:=top 44
abbrev xZ:Stmt:=top 75
abbrev uh:Stmt:=top 76
abbrev Kq:Stmt:=inClass (top 77) 0
abbrev uW:Stmt:=top 97
abbrev uN:Stmt:=top 78
abbrev nG:Stmt:=top 79
abbrev wH:Stmt:=top 63
abbrev wR:Stmt:=top 64
abbrev o8:Stmt:=top 53
abbrev uF:Stmt:=top 65
abbrev wM:Stmt:=top 81
abbrev tR:Stmt:=top 82
abbrev lD:Stmt:=top 45
abbrev vN:Stmt:=top 46
abbrev lQ:Stmt:=top 20
abbrev Ah:Stmt:=top 47
abbrev xK:Stmt:=top 48
abbrev sV:Stmt:=top 22
abbrev tu:Stmt:=top 21
abbrev sS:Stmt:=top 23
abbrev rP:Stmt:=top 83
abbrev nH:Stmt:=top 7
abbrev tD:Stmt:=top 9
abbrev pG:Stmt:=top 8
abbrev uG:Stmt:=top 10
abbrev mH:Stmt:=top 11
abbrev u6:Stmt:=top 85
abbrev ur:Stmt:=top 12
abbrev xT:Stmt:=top 17
abbrev uf:Stmt:=top 18
abbrev lV:Stmt:=top 13
abbrev wD:Stmt:=top 14
abbrev lM:Stmt:=top 15
abbrev Ak:Stmt:=top 16
abbrev uE:Stmt:=top 86
abbrev Af:Stmt:=top 88
abbrev pL:Stmt:=top 80
abbrev Bb:Stmt:=top 87
abbrev uK:Stmt:=top 89
abbrev yc:Stmt:=top 98
abbrev Rh:Stmt:=top 99
def Vi [Bs]{X:Cx}{sc:Scope}{own free:List Str}{x:Str}{p:Pos}(h0:0<own.length:=by decide)(hN:(own++free).Nodup:=by decide +kernel)(hi:(own++free)[0]?=some x:=by rfl)(hx:∀ cl C s₀ H₀ ex,Loc (inner X sc (own++free) cl C s₀ H₀ ex).env.scope x/\((inner X sc (own++free) cl C s₀ H₀ ex).fn x=true\/(inner X sc (own++free) cl C s₀ H₀ ex).env.scope.names.lookup x=some .local):=by intros;first|exact⟨Or.inl rfl,Or.inr rfl⟩|exact⟨Or.inr rfl,Or.inl rfl⟩):Ry X.K own.length (Dp.YW 0) (L2.YW 0)/\∀ cl C s₀ H₀ ex,PG (inner X sc (own++free) cl C s₀ H₀ ex) (.Name x p) (L2.YW 0):=⟨Vf 0 h0,fun cl C s₀ H₀ ex=>Vj (i:=0) hN hi (hx cl C s₀ H₀ ex).1 (hx cl C s₀ H₀ ex).2⟩
abbrev Fk (K:W.Frag)(x:Str)(st:Stmt)(f:Addr)(fd:FuncData):Prop:=V0 K x x st f fd
def ZD {P:Program}{w:World}{K:W.Frag}{mg:Str->Option Value}{base:Heap}{x qual:Str}{st:Stmt}{f:Addr}{fd:FuncData}{M ps:List Str}{k:Nat}{sp:ZV}{b:DS}(F:V0 K x qual st f fd)(body:BodyOk (ps++M).length b sp)(term:∀ {cdv:Value} {A:Around} {outer:List Env} {s:Shared} {H:Hp} {E:XK} [Bs],(ps++M).Nodup->Zj k (A.deeper (envOfC qual (zY st) s.heap.objs.size f cdv))->Wt (Wn ZS P w K mg base (ps++M) qual (zY st) f cdv A outer s H E).nox (Xh st) b)(S:RJ (ps++M) ps (zY st):=by exact lX)(len:∀ ds So Q,sp ds So Q->ds.length=ps.length:=by (intros;rename_i h;repeat (first|(obtain⟨e,_⟩:=h;subst e;rfl)|obtain⟨_,h⟩:=h))):zN P w K mg base ZS (k+1) f fd ps (Z4 K sp):=jY F S len body fun _ _ _ _ _ _ hr=>term S.nd hr
def Rp {P:Program}{w:World}{K:W.Frag}{mg:Str->Option Value}{base:Heap}{x qual:Str}{st:Stmt}{f:Addr}{fd:FuncData}{M ps:List Str}{k:Nat}{sp:WL}{b:XR->DS}(F:V0 K x qual st f fd)(body:T6 (ps++M).length b sp)(term:∀ {cdv:Value} {A:Around} {outer:List Env} {s:Shared} {H:Hp} {E:XK} [Bs],(ps++M).Nodup->Zj k (A.deeper (envOfC qual (zY st) s.heap.objs.size f cdv))->∀ (ex:XR),Kv (Wn (Xp P w) P w K mg base (ps++M) qual (zY st) f cdv A outer s H E) ex->Ej (Wn (Xp P w) P w K mg base (ps++M) qual (zY st) f cdv A outer s H E) ex->Wt (Wn (Xp P w) P w K mg base (ps++M) qual (zY st) f cdv A outer s H E) (Xh st) (b ex))(S:RJ (ps++M) ps (zY st):=by exact lX)(len:∀ ds So Q ex,sp ds So Q ex->ds.length=ps.length:=by (intros;rename_i h;repeat (first|(obtain⟨e,_⟩:=h;subst e;rfl)|obtain⟨_,h⟩:=h))):zN P w K mg base (Xp P w) (k+1) f fd ps (Xv K sp):=zqw F S len body fun _ _ _ _ _ _ hr _=>term S.nd hr
def Z8 [Bs]{X:Cx}{i:Nat}{x:Str}{p:Pos}(h1:X.N[i]?=some x:=by rfl)(h2:Vis X.env.scope x:=by first | exact Or.inl rfl | exact Or.inr (Or.inl rfl) | exact Or.inr (Or.inr rfl))(h3:(x==("__debug__":Str))=false:=by decide)(h4:(x==("__classdict__":Str))=false:=by decide):PD X (.Name x p) (W2 i):=gM i h1 h2 h3 h4
section
variable {P:Program}{w:World}{K:W.Frag}{mg:Str->Option Value}{base:Heap}{f:Addr}{fd:FuncData}
variable (xq:mg "len"=none)
include xq in
def zjz (F:Fk K "_law_cell_at" vY f fd):zN P w K mg base ZS 1 f fd ["script","k"] (Z4 K Dp.Oc):=ZD (M:=[]) F Dp.kE fun hnd hr=>(zm (zT (zK Xy Z8 (z9 YB xq boot_len (zc Z8 zj))) (zq (zG (zu Z8 Z8))) zM)
 (zq (zG zp)))
variable (xar:Got P w K mg base 1 "_law_cell_at" ["script","k"] (Z4 K Dp.Oc))
def zkS (F:Fk K "_law_mixed" pH f fd):zN P w K mg base ZS 1 f fd ["cell","k"] (Z4 K Dp.M9):=ZD (M:=["big"]) F Dp.zlv fun hnd hr=>(zm (zy hnd (Yl (zW (Y0 Z8 (Wk 1000000000000000000000000000000000000000000000000000000000000 (by decide +kernel) ⟨by decide,by decide,by decide⟩)) zp) (zW zp (Yl (Yl zp Z8) Z8))))
 (zm (zy hnd (zW Z8 (Yl zp Z8)))
 (zq (zG (Y0 (Yl Z8 Z8) (zW (Wk 1000000000000000000000000000000000000000000000000000000000000 (by decide +kernel) ⟨by decide,by decide,by decide⟩) zp))))))
variable (xa4:Got P w K mg base 1 "_law_mixed" ["cell","k"] (Z4 K Dp.M9))
variable (xcj:mg "range"=none)
variable (xaf:mg "enumerate"=none)
include xa4 xcj xaf in
def zln (F:Fk K "_law_seeds" lY f fd):zN P w K mg base ZS 2 f fd ["cells","most"] (Z4 K Dp.Gm):=ZD (M:=["seeds","k","cell","at"]) F Dp.iM fun hnd hr=>(zm (JR hnd (own:=["k"]) (free:=[]) True.intro True.intro (v9 xcj (zc Z8 zj)) Vi (fun _ _ _ _ _=>VJ) (fun _ _ _ _ _=>(zB xa4 hr (zc Z8 (zc zp zj)))))
 (zm (Yq (JM rfl xaf (zc Z8 zj)) (Us rfl (YG (zP hnd) (YG (zP hnd) Ue))) (zm (zy hnd (Y0 Z8 Z8))
 (zq (Jb (zB xa4 hr (zc (zW (zu Z8 Z8) (Y0 Z8 (Wk 1000000000000000000000000000000000000000000000000000000000000 (by decide +kernel) ⟨by decide,by decide,by decide⟩))) (zc (Y0 Z8 zp) zj))) (Fb Z8 Z8)))))
 (zq (zG Z8))))
variable (xfs:Got P w K mg base 2 "_law_seeds" ["cells","most"] (Z4 K Dp.Gm))
include xaf in
def zjf (F:Fk K "_law_beacons" pO f fd):zN P w K mg base ZS 1 f fd ["seeds"] (Z4 K Dp.Ho):=ZD (M:=["told","k","seed","name"]) F Dp.zjD fun hnd hr=>(zm (zy hnd (Yt zj))
 (zm (Yq (JM rfl xaf (zc Z8 zj)) (Us rfl (YG (zP hnd) (YG (zP hnd) Ue))) (zm (zy hnd (zW (zu WW Z8) (zu (Yt (zc WW (zc WW (zc WW (zc WW zj))))) (Y0 Z8 zp))))
 (zq (zQ (Vk PySem.F.slot_list_append PySem.F.type_list_append SQ Z8 (zc (zX (zc Z8 (zc (zZ (Y0 (Ym Z8 zp) zp) zp) (zc (Y0 (Ym Z8 zp) zp) zj)))) zj))))))
 (zq (zG Z8))))
variable (xd2:Got P w K mg base 1 "_law_beacons" ["seeds"] (Z4 K Dp.Ho))
include xa4 in
def zmw (F:Fk K "_law_fogs" mJ f fd):zN P w K mg base ZS 2 f fd ["seeds","first","last"] (Z4 K Dp.Hr):=ZD (M:=["told","seed","m","left","low","begin","end","drift","rise"]) F Dp.zmf fun hnd hr=>(zm (zy hnd (Yt zj))
 (zm (Yq (Za Z8) (zP hnd) (zm (zy hnd (zB xa4 hr (zc Z8 (zc zp zj))))
 (zq (zT (zK W3 (Y0 Z8 zp) zp) (zm (zy hnd (zZ (Y0 (Ym Z8 zp) zp) zp))
 (zm (zy hnd (zZ (Y0 (Ym Z8 zp) zp) zp))
 (zm (zy hnd (zW (zZ Z8 zp) (Y0 (Ym Z8 zp) (zW (zZ Z8 Z8) zp))))
 (zm (zy hnd (zW Z8 (Y0 (Ym Z8 (Wk 1000000000000000 (by decide +kernel) ⟨by decide,by decide,by decide⟩)) zp)))
 (zm (zy hnd (zZ (Y0 (Ym Z8 (Wk 100000000000000000000 (by decide +kernel) ⟨by decide,by decide,by decide⟩)) zp) zp))
 (zm (zy hnd (zZ (Y0 (Ym Z8 (Wk 10000000000000000000000000 (by decide +kernel) ⟨by decide,by decide,by decide⟩)) zp) zp))
 (zq (zQ (Vk PySem.F.slot_list_append PySem.F.type_list_append SQ Z8 (zc (zX (zc Z8 (zc (zW Z8 (Y0 (Ym Z8 (Wk 1000000000000000000000000000000 (by decide +kernel) ⟨by decide,by decide,by decide⟩)) zp)) (zc Z8 (zc (zW Z8 (Y0 (Ym Z8 (Wk 100000000000000000000000000000000000 (by decide +kernel) ⟨by decide,by decide,by decide⟩)) zp)) (zc Z8 (zc Z8 (zc Z8 (zc Z8 zj))))))))) zj)))))))))) zM))))
 (zq (zG Z8))))
variable (xgn:Got P w K mg base 2 "_law_fogs" ["seeds","first","last"] (Z4 K Dp.Hr))
include xar xfs xd2 xgn in
def zlM (F:Fk K "_law_parts" uV f fd):zN P w K mg base ZS 3 f fd ["script"] (Z4 K Dp.Je):=ZD (M:=["head","count","seeds","first","last","ground","haze","beacons","fogs"]) F Dp.zlf fun hnd hr=>(zm (zy hnd (Y0 (zB xar hr (zc Z8 (zc zp zj))) (Wk 1000000000000000000000000000000 (by decide +kernel) ⟨by decide,by decide,by decide⟩)))
 (zm (zy hnd (zW zp (Y0 Z8 zp)))
 (zm (zy hnd (zB xfs hr (zc (JL Z8 (Ka zp) Ip) (zc zp zj))))
 (zm (zy hnd (zZ (Y0 (Ym Z8 zp) zp) zp))
 (zm (zy hnd (zW Z8 (Y0 (Ym Z8 zp) zp)))
 (zm (zy hnd (Yt (zc (zX (zc (Yh zp) (zc (Yh zp) zj))) (zc (zX (zc (zZ (Y0 (Ym Z8 (Wk 1000000 (by decide +kernel) ⟨by decide,by decide,by decide⟩)) zp) zp) (zc (zZ (Y0 (Ym Z8 (Wk 100000000 (by decide +kernel) ⟨by decide,by decide,by decide⟩)) zp) zp) zj))) (zc (zX (zc zp (zc (Yh zp) zj))) zj)))))
 (zm (zy hnd (zu (Yt (zc Rz (zc (zW zp (Y0 (Ym Z8 (Wk 10000000000 (by decide +kernel) ⟨by decide,by decide,by decide⟩)) zp)) (zc zp zj)))) (Y0 (Ym Z8 (Wk 10000000000000 (by decide +kernel) ⟨by decide,by decide,by decide⟩)) zp)))
 (zm (JR hnd (own:=["name","x","z"]) (free:=[]) True.intro True.intro (Za (zB xd2 hr (zc (JL Z8 Ip (Ka Z8)) zj))) ⟨(Jg (TX (Vf 0 (by decide)) (TX (Vf 1 (by decide)) (TX (Vf 2 (by decide)) Jh)))),fun _ _ _ _ _=>(Mw rfl (Uz (Vj (show List.Nodup (["name","x","z"]:List Str) by decide +kernel) rfl (Or.inl rfl) (Or.inr rfl)) (Uz (Vj (show List.Nodup (["name","x","z"]:List Str) by decide +kernel) rfl (Or.inl rfl) (Or.inr rfl)) (Uz (Vj (show List.Nodup (["name","x","z"]:List Str) by decide +kernel) rfl (Or.inl rfl) (Or.inr rfl)) Kw))))⟩ (fun _ _ _ _ _=>VJ) (fun _ _ _ _ _=>(zX (zc Z8 (zc Z8 (zc (zW Z8 zp) zj))))))
 (zm (zy hnd (zB xgn hr (zc Z8 (zc Z8 (zc Z8 zj)))))
 (zq (zG (zX (zc Z8 (zc Z8 (zc Z8 (zc Z8 (zc Z8 (zc Z8 (zc (Y0 (Ym Z8 (Wk 1000000000000000 (by decide +kernel) ⟨by decide,by decide,by decide⟩)) zp) zj)))))))))))))))))))
variable (xf2:Got P w K mg base 3 "_law_parts" ["script"] (Z4 K Dp.Je))
variable (xct:∃ t,mg "LEAST_CORNERS"=some (.int 2 t))
variable (xdd:∃ t,mg "MOST_CORNERS"=some (.int 40 t))
include xq xcj xct xdd in
def zfp (F:Fk K "refuse_bad_corners" sX f fd):zN P w K mg base ZS 1 f fd ["corners"] (Z4 K Dp.Gr):=ZD (M:=["k"]) F Dp.zfn fun hnd hr=>(zm (zT (VH (QW (zK Xy (z9 YB xq boot_len (zc Z8 zj)) (zJ rfl xct)) (QK (zK W3 (z9 YB xq boot_len (zc Z8 zj)) (zJ rfl xdd))))) (zq UG) zM)
 (zq (Yq (jC xcj (zc zp (zc (z9 YB xq boot_len (zc Z8 zj)) zj))) (zP hnd) (zq (zT (zK Vb (zu (zu Z8 Z8) zp) (zu (zu Z8 (zZ Z8 zp)) zp)) (zq UG) zM)))))
variable (xa0:Got P w K mg base 1 "refuse_bad_corners" ["corners"] (Z4 K Dp.Gr))
variable (xbt:∀ C,W.nsIn K mainGlobals "Ground"=some (some (.ref C))->YJ K C "corners")
variable (xbv:mg "list"=none)
include xa0 xbt xbv in
def zju (F:V0 K "__init__" "Ground.__init__" Mx f fd):zN P w K mg base ZS 2 f fd ["self","corners"] (Z4 K Dp.BP):=ZD (M:=[]) F Dp.zjp fun hnd hr=>(zm (zQ (zB xa0 hr (zc Z8 zj)))
 (zq (Sd xbt Z8 (Rk Js xbv boot_list (zc Z8 zj)))))
variable (xec:Ou P w K mg base 2 "Ground" (Z4 K Dp.Hh))
variable (xdf:∃ t,mg "MOST_BEACONS"=some (.int 12 t))
variable (xfv:∃ t,mg "MOST_FOGS"=some (.int 12 t))
include xq xdf xfv in
def iI (F:Fk K "refuse_bad_numbers" pA f fd):zN P w K mg base ZS 1 f fd ["beacons","fogs"] (Z4 K Dp.Jc):=ZD (M:=[]) F Dp.zfr fun hnd hr=>(zm (zT (VH (QW (zK Xy (z9 YB xq boot_len (zc Z8 zj)) zp) (QK (zK W3 (z9 YB xq boot_len (zc Z8 zj)) (zJ rfl xdf))))) (zq UG) zM)
 (zq (zT (zK W3 (z9 YB xq boot_len (zc Z8 zj)) (zJ rfl xfv)) (zq UG) zM)))
variable (xay:Got P w K mg base 1 "refuse_bad_numbers" ["beacons","fogs"] (Z4 K Dp.Jc))
variable (xdh:∃ t,mg "MOST_LETTERS"=some (.int 8 t))
variable (xgy:∃ t,mg "LETTERS"=some (.str "abcdefghijklmnopqrstuvwxyz" t))
variable (xbm:mg "all"=none)
include xq xdh xgy xbm in
def znE (F:Fk K "is_name" oM f fd):zN P w K mg base ZS 1 f fd ["text"] (Z4 K Dp.Gp):=ZD (M:=[]) F Dp.znV fun hnd hr=>(zm (zT (VH (QW (zK Xy (z9 YB xq boot_len (zc Z8 zj)) zp) (QK (zK W3 (z9 YB xq boot_len (zc Z8 zj)) (zJ rfl xdh))))) (zq (zG Vr)) zM)
 (zq (zG (z9 Kr xbm boot_all (zc (Vo (own:=["sign"]) (free:=[]) True.intro True.intro (Za Z8) Vi (fun _ _ _ _ _=>VJ) (fun _ _ _ _ _=>(zuc (iV hr) Z8 (ztu rfl xgy)))) zj)))))
variable (xgv:Got P w K mg base 1 "is_name" ["text"] (Z4 K Dp.Gp))
variable (xkd:mg "set"=none)
include xq xbm xgv xkd in
def zgg (F:Fk K "refuse_bad_names" lF f fd):zN P w K mg base ZS 2 f fd ["names"] (Z4 K Dp.J9):=ZD (M:=[]) F Dp.jK fun hnd hr=>(zm (zT (U0 (VF (z9 Kr xbm boot_all (zc (Vo (own:=["name"]) (free:=[]) True.intro True.intro (Za Z8) Vi (fun _ _ _ _ _=>VJ) (fun _ _ _ _ _=>(zB xgv hr (zc Z8 zj)))) zj)))) (zq UG) zM)
 (zq (zT (zK Xy (zs8 rfl xq rfl xkd (zc Z8 zj)) (z9 YB xq boot_len (zc Z8 zj))) (zq UG) zM)))
variable (xbd:Got P w K mg base 2 "refuse_bad_names" ["names"] (Z4 K Dp.J9))
def ztz (F:Fk K "less" xP f fd):zN P w K mg base ZS 1 f fd ["one","other"] (Z4 K Dp.Qu):=ZD (M:=[]) F Dp.zus fun hnd hr=>(zq (zG (Tg Xy (Yl (zu Z8 zp) (zu Z8 zp)) (Yl (zu Z8 zp) (zu Z8 zp)))))
variable (xc6:Got P w K mg base 1 "less" ["one","other"] (Z4 K Dp.Qu))
include xc6 in
def zrL (F:Fk K "is_on" Ae f fd):zN P w K mg base ZS 2 f fd ["ground","place"] (Z4 K Dp.Mg):=ZD (M:=["first","last"]) F Dp.jl fun hnd hr=>(zm (zy hnd (zX (zc (zu (zu (Xx Z8 rfl) zp) zp) (zc zp zj))))
 (zm (zy hnd (zX (zc (zu (zu (Xx Z8 rfl) (Yh zp)) zp) (zc zp zj))))
 (zq (zG (J1 (GX (zB xc6 hr (zc Z8 (zc Z8 zj)))) (JK (GX (zB xc6 hr (zc Z8 (zc Z8 zj))))))))))
variable (xe6:Got P w K mg base 2 "is_on" ["ground","place"] (Z4 K Dp.Mg))
variable (xkc:mg "abs"=none)
include xkc in
def zhD (F:Fk K "common_divisor" pY f fd):zN P w K mg base ZS 1 f fd ["one","other"] (Z4 K Dp.HY):=ZD (M:=["rest"]) F Dp.fX fun hnd hr=>(zm (Ko (zK (Rb hr) Z8 zp) (zm (zy hnd (Y0 Z8 Z8))
 (zm (zy hnd Z8)
 (zq (zy hnd Z8)))))
 (zq (zG (z9 jk xkc boot_abs (zc Z8 zj)))))
variable (xcb:Got P w K mg base 1 "common_divisor" ["one","other"] (Z4 K Dp.HY))
include xcb in
def jr (F:Fk K "fraction" v7 f fd):zN P w K mg base ZS 2 f fd ["top","bottom"] (Z4 K Dp.Gn):=ZD (M:=["divisor"]) F Dp.zmt fun hnd hr=>(zm (zy hnd (zB xcb hr (zc Z8 (zc Z8 zj))))
 (zm (O1 (zT (zK Xy Z8 zp) (zq (zy hnd (Yh Z8))) zM))
 (zq (zG (zX (zc (Ym Z8 Z8) (zc (Ym Z8 Z8) zj)))))))
variable (xgl:Got P w K mg base 2 "fraction" ["top","bottom"] (Z4 K Dp.Gn))
include xgl in
def zlI (F:Fk K "height_on" lK f fd):zN P w K mg base ZS 3 f fd ["one","other","place"] (Z4 K Dp.Jm):=ZD (M:=["run","rise","top"]) F Dp.zl8 fun hnd hr=>(zm (zy hnd (zZ (zu Z8 zp) (zu Z8 zp)))
 (zm (zy hnd (zZ (zu Z8 zp) (zu Z8 zp)))
 (zm (zy hnd (zW (Yl (Yl (zu Z8 zp) Z8) (zu Z8 zp)) (Yl Z8 (zZ (zu Z8 zp) (Yl (zu Z8 zp) (zu Z8 zp))))))
 (zq (zG (zB xgl hr (zc Z8 (zc (Yl Z8 (zu Z8 zp)) zj))))))))
variable (xfr:Got P w K mg base 3 "height_on" ["one","other","place"] (Z4 K Dp.Jm))
variable (xa8:∀ C,W.nsIn K mainGlobals "OffGround"=some (some (.ref C))->Tv K C)
variable (xa7:∃ C,W.nsIn K mainGlobals "OffGround"=some (some (.ref C))/\mg "OffGround"=some (.ref C))
include xc6 xe6 xfr xa8 xa7 in
def zmc (F:Fk K "ground_at" vU f fd):zN P w K mg base (Xp P w) 4 f fd ["ground","place"] (Xv K Dp.Hy):=Rp (M:=["corners","k"]) F Dp.zl7 fun hnd hr ex hX hM=>(zm (zT (U0 (VF (zB xe6 hr (zc Z8 (zc Z8 zj))))) (zq (Ib hM rfl xa8 xa7 rfl (zc WW zj) (fun _ _ _ h=>h _))) zM)
 (zm (zy hnd (Xx Z8 rfl))
 (zm (zy hnd zp)
 (zm (Ko (VF (zB xc6 hr (zc (zX (zc (zu (zu Z8 Z8) zp) (zc zp zj))) (zc Z8 zj)))) (zq (zt3 hnd zp)))
 (zq (zG (zB xfr hr (zc (zu Z8 (zZ Z8 zp)) (zc (zu Z8 Z8) (zc Z8 zj))))))))))
variable (xf4:Uk P w K mg base 4 "ground_at" ["ground","place"] (Xv K Dp.Hy))
include xc6 xe6 xf4 in
def zpm (F:Fk K "stands" wV f fd):zN P w K mg base ZS 5 f fd ["ground","spot"] (Z4 K Dp.KR):=ZD (M:=["place"]) F Dp.zqi fun hnd hr=>(zm (zy hnd (zX (zc (zu Z8 zp) (zc zp zj))))
 (zm (zT (U0 (VF (zB xe6 hr (zc Z8 (zc Z8 zj))))) (zq (zG Vr)) zM)
 (zq (zG (GX (zB xc6 hr (zc (zX (zc (zu Z8 zp) (zc zp zj))) (zc (VR xf4 Ij hr (zc Z8 (zc Z8 zj))) zj))))))))
variable (xd5:Got P w K mg base 5 "stands" ["ground","spot"] (Z4 K Dp.KR))
include xbm xd5 in
def zgm (F:Fk K "refuse_bad_tops" uI f fd):zN P w K mg base ZS 6 f fd ["ground","beacons"] (Z4 K Dp.Hj):=ZD (M:=[]) F Dp.zgU fun hnd hr=>(zq (zT (U0 (VF (z9 Kr xbm boot_all (zc (Vo (own:=["name","x","z"]) (free:=["ground"]) ⟨rfl,True.intro⟩ ⟨rfl,rfl,rfl,True.intro⟩ (Za Z8) ⟨(Jg (TX (Vf 0 (by decide)) (TX (Vf 1 (by decide)) (TX (Vf 2 (by decide)) Jh)))),fun _ _ _ _ _=>(Mw rfl (Uz (Vj (show List.Nodup (["name","x","z","ground"]:List Str) by decide +kernel) rfl (Or.inl rfl) (Or.inr rfl)) (Uz (Vj (show List.Nodup (["name","x","z","ground"]:List Str) by decide +kernel) rfl (Or.inl rfl) (Or.inr rfl)) (Uz (Vj (show List.Nodup (["name","x","z","ground"]:List Str) by decide +kernel) rfl (Or.inl rfl) (Or.inr rfl)) Kw))))⟩ (fun _ _ _ _ _=>VJ) (fun _ _ _ _ _=>(zB xd5 hr (zc Z8 (zc (zX (zc Z8 (zc Z8 zj))) zj))))) zj)))) (zq UG) zM))
variable (xbo:Got P w K mg base 6 "refuse_bad_tops" ["ground","beacons"] (Z4 K Dp.Hj))
variable (xke:mg "int"=none)
variable (xu:mg "isinstance"=none)
variable (xjb:mg "bool"=none)
include xke xu xjb in
def zmv (F:Fk K "is_whole" vZ f fd):zN P w K mg base ZS 1 f fd ["value"] (Z4 K Dp.G7):=ZD (M:=[]) F Dp.zms fun hnd hr=>(zq (zG (J1 (z9 Mu xu boot_isinstance (zc Z8 (zc (Mq rfl xke boot_int) zj))) (JK (GX (z9 Mu xu boot_isinstance (zc Z8 (zc (Mq rfl xjb boot_bool) zj))))))))
variable (xgi:Got P w K mg base 1 "is_whole" ["value"] (Z4 K Dp.G7))
variable (xgz:∃ t,mg "NUMBERS"=some (.int 8 t))
variable (xcf:∃ t,mg "LEFT"=some (.int 0 t))
variable (xa9:∃ t,mg "RIGHT"=some (.int 1 t))
variable (xak:∃ t,mg "LOW_fogs"=some (.int 2 t))
variable (xai:∃ t,mg "HIGH_fogs"=some (.int 3 t))
variable (xdj:∃ t,mg "FIRST"=some (.int 4 t))
variable (xgs:∃ t,mg "LAST"=some (.int 5 t))
variable (xaq:mg "tuple"=none)
include xq xbm xu xgi xgz xcf xa9 xak xai xdj xgs xaq in
def zoV (F:Fk K "is_fog" pJ f fd):zN P w K mg base ZS 2 f fd ["value"] (Z4 K Dp.JN):=ZD (M:=[]) F Dp.zpa fun hnd hr=>(zm (zT (VH (QW (U0 (VF (z9 Mu xu boot_isinstance (zc Z8 (zc (Mq rfl xaq boot_tuple) zj))))) (QK (zK (Rb hr) (z9 YB xq boot_len (zc Z8 zj)) (zJ rfl xgz))))) (zq (zG Vr)) zM)
 (zm (zT (U0 (VF (z9 Kr xbm boot_all (zc (Vo (own:=["number"]) (free:=[]) True.intro True.intro (Za Z8) Vi (fun _ _ _ _ _=>VJ) (fun _ _ _ _ _=>(zB xgi hr (zc Z8 zj)))) zj)))) (zq (zG Vr)) zM)
 (zq (zG (J1 (Tg Vb (zu Z8 (zJ rfl xcf)) (zu Z8 (zJ rfl xa9))) (J1 (Tg Vb (zu Z8 (zJ rfl xak)) (zu Z8 (zJ rfl xai))) (JK (Tg Vb (zu Z8 (zJ rfl xdj)) (zu Z8 (zJ rfl xgs))))))))))
variable (xh0:Got P w K mg base 2 "is_fog" ["value"] (Z4 K Dp.JN))
include xbm xh0 in
def zgs (F:Fk K "refuse_bad_fogs" xZ f fd):zN P w K mg base ZS 3 f fd ["fogs"] (Z4 K Dp.Jl):=ZD (M:=[]) F Dp.zgT fun hnd hr=>(zq (zT (U0 (VF (z9 Kr xbm boot_all (zc (Vo (own:=["fog"]) (free:=[]) True.intro True.intro (Za Z8) Vi (fun _ _ _ _ _=>VJ) (fun _ _ _ _ _=>(zB xh0 hr (zc Z8 zj)))) zj)))) (zq UG) zM))
variable (xbq:Got P w K mg base 3 "refuse_bad_fogs" ["fogs"] (Z4 K Dp.Jl))
def zge (F:Fk K "refuse_bad_hours" uh f fd):zN P w K mg base ZS 1 f fd ["haze","first","last","delay"] (Z4 K Dp.GQ):=ZD (M:=[]) F Dp.fL fun hnd hr=>(zm (zT (zK W3 Z8 Z8) (zq UG) zM)
 (zm (zT (zK Xy Z8 zp) (zq UG) zM)
 (zq (zT (VH (Q9 (zK Kl Z8 Rz) (Py (zK Xy Z8 zp)))) (zq UG) zM))))
variable (xba:Got P w K mg base 1 "refuse_bad_hours" ["haze","first","last","delay"] (Z4 K Dp.GQ))
variable (xcc:∀ C,W.nsIn K mainGlobals "Valley"=some (some (.ref C))->YJ K C "ground")
variable (xbr:∀ C,W.nsIn K mainGlobals "Valley"=some (some (.ref C))->YJ K C "beacons")
variable (xdn:∀ C,W.nsIn K mainGlobals "Valley"=some (some (.ref C))->YJ K C "fogs")
variable (xdl:∀ C,W.nsIn K mainGlobals "Valley"=some (some (.ref C))->YJ K C "haze")
variable (xcw:∀ C,W.nsIn K mainGlobals "Valley"=some (some (.ref C))->YJ K C "first")
variable (xde:∀ C,W.nsIn K mainGlobals "Valley"=some (some (.ref C))->YJ K C "last")
variable (xcy:∀ C,W.nsIn K mainGlobals "Valley"=some (some (.ref C))->YJ K C "delay")
include xbv xec xay xbd xbo xbq xba xcc xbr xdn xdl xcw xde xcy in
def kj (F:V0 K "__init__" "Valley.__init__" Kq f fd):zN P w K mg base ZS 7 f fd ["self","ground","beacons","fogs","haze","first","last","delay"] (Z4 K Dp.Cp):=ZD (M:=[]) F Dp.zjx fun hnd hr=>(zm (zQ (zB xay hr (zc Z8 (zc Z8 zj))))
 (zm (zQ (zB xbd hr (zc (Vo (own:=["beacon"]) (free:=[]) True.intro True.intro (Za Z8) Vi (fun _ _ _ _ _=>VJ) (fun _ _ _ _ _=>(zu Z8 zp))) zj)))
 (zm (zQ (zB xbo hr (zc Z8 (zc Z8 zj))))
 (zm (zQ (zB xbq hr (zc Z8 zj)))
 (zm (zQ (zB xba hr (zc Z8 (zc Z8 (zc Z8 (zc Z8 zj))))))
 (zm (Sd xcc Z8 (Cm xec hr (zc (Xx Z8 rfl) zj)))
 (zm (Sd xbr Z8 (Rk Js xbv boot_list (zc Z8 zj)))
 (zm (Sd xdn Z8 (Rk Js xbv boot_list (zc Z8 zj)))
 (zm (Sd xdl Z8 Z8)
 (zm (Sd xcw Z8 Z8)
 (zm (Sd xde Z8 Z8)
 (zq (Sd xcy Z8 Z8)))))))))))))
variable (xhv:Ou P w K mg base 7 "Valley" (Z4 K Dp.Df))
include xec xhv in
def zkv (F:Fk K "_law_valley" uW f fd):zN P w K mg base ZS 9 f fd ["parts"] (Z4 K Dp.Kh):=ZD (M:=["ground","beacons","fogs","haze","first","last","delay"]) F Dp.kI fun hnd hr=>(zm (Jb Z8 (Us rfl (YG (zP hnd) (YG (zP hnd) (YG (zP hnd) (YG (zP hnd) (YG (zP hnd) (YG (zP hnd) (YG (zP hnd) Ue)))))))))
 (zq (zG (Cm xhv hr (zc (Cm xec hr (zc Z8 zj)) (zc Z8 (zc Z8 (zc Z8 (zc Z8 (zc Z8 (zc Z8 zj)))))))))))
variable (xen:Got P w K mg base 9 "_law_valley" ["parts"] (Z4 K Dp.Kh))
def zmo (F:Fk K "names_of" uN f fd):zN P w K mg base ZS 1 f fd ["valley"] (Z4 K Dp.Sw):=ZD (M:=[]) F Dp.zmz fun hnd hr=>(zq (zG (Vo (own:=["beacon"]) (free:=[]) True.intro True.intro (Za (Xx Z8 rfl)) Vi (fun _ _ _ _ _=>VJ) (fun _ _ _ _ _=>(zu Z8 zp)))))
variable (xab:Got P w K mg base 1 "names_of" ["valley"] (Z4 K Dp.Sw))
variable (xbk:∀ C,W.nsIn K mainGlobals "NoBeacon"=some (some (.ref C))->Tv K C)
variable (xbj:∃ C,W.nsIn K mainGlobals "NoBeacon"=some (some (.ref C))/\mg "NoBeacon"=some (.ref C))
include xbk xbj in
def znC (F:Fk K "spot_of" nG f fd):zN P w K mg base (Xp P w) 1 f fd ["valley","name"] (Xv K Dp.Ms):=Rp (M:=["beacon"]) F Dp.zot fun hnd hr ex hX hM=>(zm (Yq (Za (Xx Z8 rfl)) (zP hnd) (zq (zT (zK (W5 hr) (zu Z8 zp) Z8) (zq (zG (zX (zc (zu Z8 zp) (zc (zu Z8 zp) zj))))) zM)))
 (zq (Ib hM rfl xbk xbj rfl (zc WW zj) (fun _ _ _ h=>h _))))
variable (xf5:Uk P w K mg base 1 "spot_of" ["valley","name"] (Xv K Dp.Ms))
include xa8 xa7 xd5 in
def zfh (F:Fk K "refuse_not_standing" wH f fd):zN P w K mg base (Xp P w) 6 f fd ["ground","spot"] (Xv K Dp.Lf):=Rp (M:=[]) F Dp.zfg fun hnd hr ex hX hM=>(zq (zT (U0 (VF (zB xd5 hr (zc Z8 (zc Z8 zj))))) (zq (Ib hM rfl xa8 xa7 rfl (zc WW zj) (fun _ _ _ h=>h _))) zM))
variable (xal:Uk P w K mg base 6 "refuse_not_standing" ["ground","spot"] (Xv K Dp.Lf))
variable (xam:mg "min"=none)
variable (xad:mg "max"=none)
include xaf xam xad in
def zgR (F:Fk K "numbers_between" wR f fd):zN P w K mg base ZS 1 f fd ["ground","x","other_x"] (Z4 K Dp.Ht):=ZD (M:=["low","high"]) F Dp.zgr fun hnd hr=>(zm (zy hnd (z9 Sh xam boot_min (zc Z8 (zc Z8 zj))))
 (zm (zy hnd (z9 UJ xad boot_max (zc Z8 (zc Z8 zj))))
 (zq (zG (Vo (own:=["k","corner"]) (free:=["low","high"]) ⟨rfl,rfl,True.intro⟩ ⟨rfl,rfl,rfl,rfl,rfl,rfl,True.intro⟩ (JM rfl xaf (zc (Xx Z8 rfl) zj)) ⟨(Jg (TX (Vf 0 (by decide)) (TX (Vf 1 (by decide)) Jh))),fun _ _ _ _ _=>(Mw rfl (Uz (Vj (show List.Nodup (["k","corner","low","high"]:List Str) by decide +kernel) rfl (Or.inl rfl) (Or.inr rfl)) (Uz (Vj (show List.Nodup (["k","corner","low","high"]:List Str) by decide +kernel) rfl (Or.inl rfl) (Or.inr rfl)) Kw)))⟩ (fun _ _ _ _ _=>(Du (zpI Xy Xy Z8 (zu Z8 zp) Z8))) (fun _ _ _ _ _=>Z8))))))
variable (xbl:Got P w K mg base 1 "numbers_between" ["ground","x","other_x"] (Z4 K Dp.Ht))
def zok (F:Fk K "side_of" o8 f fd):zN P w K mg base ZS 1 f fd ["one","other","spot"] (Z4 K Dp.GD):=ZD (M:=["run","rise","over"]) F Dp.zoq fun hnd hr=>(zm (zy hnd (zZ (zu Z8 zp) (zu Z8 zp)))
 (zm (zy hnd (zZ (zu Z8 zp) (zu Z8 zp)))
 (zm (zy hnd (zZ (Yl (zZ (zu Z8 zp) (zu Z8 zp)) Z8) (Yl (zZ (zu Z8 zp) (zu Z8 zp)) Z8)))
 (zm (O1 (zT (zK Xy Z8 zp) (zq (zy hnd (Yh Z8))) zM))
 (zm (zT (zK W3 Z8 zp) (zq (zG zp)) zM)
 (zm (zT (zK Xy Z8 zp) (zq (zG (Yh zp))) zM)
 (zq (zG zp))))))))
variable (xgw:Got P w K mg base 1 "side_of" ["one","other","spot"] (Z4 K Dp.GD))
include xal xbl xgw in
def zo1 (F:Fk K "hinder" uF f fd):zN P w K mg base (Xp P w) 7 f fd ["ground","one","other"] (Xv K Dp.Kc):=Rp (M:=["k"]) F Dp.zoY fun hnd hr ex hX hM=>(zm (zQ (VR xal hX hr (zc Z8 (zc Z8 zj))))
 (zm (zQ (VR xal hX hr (zc Z8 (zc Z8 zj))))
 (zm (Yq (Za (zB xbl hr (zc Z8 (zc (zu Z8 zp) (zc (zu Z8 zp) zj))))) (zP hnd) (zq (zT (zK W3 (zB xgw hr (zc Z8 (zc Z8 (zc (zu (Xx Z8 rfl) Z8) zj)))) zp) (zq (zG Z8)) zM)))
 (zq (zG Rz)))))
variable (xho:Uk P w K mg base 7 "hinder" ["ground","one","other"] (Xv K Dp.Kc))
def zhC (F:Fk K "square_between" wM f fd):zN P w K mg base ZS 1 f fd ["one","other"] (Z4 K Dp.Hl):=ZD (M:=["run","climb"]) F Dp.zhE fun hnd hr=>(zm (zy hnd (zZ (zu Z8 zp) (zu Z8 zp)))
 (zm (zy hnd (zZ (zu Z8 zp) (zu Z8 zp)))
 (zq (zG (zW (Yl Z8 Z8) (Yl Z8 Z8))))))
variable (xce:Got P w K mg base 1 "square_between" ["one","other"] (Z4 K Dp.Hl))
include xho xce in
def zii (F:Fk K "hidden_always" tR f fd):zN P w K mg base ZS 8 f fd ["valley","one","other"] (Z4 K Dp.GR):=ZD (M:=["corner","square"]) F Dp.iQ fun hnd hr=>(zm (zy hnd (VR xho Ij hr (zc (Xx Z8 rfl) (zc Z8 (zc Z8 zj)))))
 (zm (zT (zK Kl Z8 Rz) (zq (zG (zX (zc WW (zc Z8 zj))))) zM)
 (zm (zy hnd (zB xce hr (zc Z8 (zc Z8 zj))))
 (zm (zT (VH (Q9 (zK Kl (Xx Z8 rfl) Rz) (Py (zK W3 Z8 (Xx Z8 rfl))))) (zq (zG (zX (zc WW (zc Z8 zj))))) zM)
 (zq (zG Rz))))))
variable (xcv:Got P w K mg base 8 "hidden_always" ["valley","one","other"] (Z4 K Dp.GR))
variable (xic:∃ t,mg "DRIFT"=some (.int 6 t))
variable (xi7:∃ t,mg "RISE"=some (.int 7 t))
include xcf xa9 xak xai xic xi7 in
def zrV (F:Fk K "moved" lD f fd):zN P w K mg base ZS 1 f fd ["fog","hours"] (Z4 K Dp.Lw):=ZD (M:=["along","upwards"]) F Dp.zqJ fun hnd hr=>(zm (zy hnd (Yl (zu Z8 (zJ rfl xic)) Z8))
 (zm (zy hnd (Yl (zu Z8 (zJ rfl xi7)) Z8))
 (zq (zG (zX (zc (zW (zu Z8 (zJ rfl xcf)) Z8) (zc (zW (zu Z8 (zJ rfl xa9)) Z8) (zc (zW (zu Z8 (zJ rfl xak)) Z8) (zc (zW (zu Z8 (zJ rfl xai)) Z8) zj)))))))))
variable (xhl:Got P w K mg base 1 "moved" ["fog","hours"] (Z4 K Dp.Lw))
include xcf xa9 xak xai xam xad in
def zoj (F:Fk K "margins" vN f fd):zN P w K mg base ZS 1 f fd ["box","one","other"] (Z4 K Dp.Ls):=ZD (M:=["run","climb","corners","across"]) F Dp.jw fun hnd hr=>(zm (zy hnd (zZ (zu Z8 zp) (zu Z8 zp)))
 (zm (zy hnd (zZ (zu Z8 zp) (zu Z8 zp)))
 (zm (zy hnd (Yt (zc (zX (zc (zu Z8 (zJ rfl xcf)) (zc (zu Z8 (zJ rfl xak)) zj))) (zc (zX (zc (zu Z8 (zJ rfl xcf)) (zc (zu Z8 (zJ rfl xai)) zj))) (zc (zX (zc (zu Z8 (zJ rfl xa9)) (zc (zu Z8 (zJ rfl xak)) zj))) (zc (zX (zc (zu Z8 (zJ rfl xa9)) (zc (zu Z8 (zJ rfl xai)) zj))) zj))))))
 (zm (JR hnd (own:=["x","z"]) (free:=["run","one","climb"]) ⟨rfl,rfl,rfl,True.intro⟩ ⟨rfl,rfl,rfl,rfl,rfl,rfl,rfl,rfl,rfl,True.intro⟩ (Za Z8) ⟨(Jg (TX (Vf 0 (by decide)) (TX (Vf 1 (by decide)) Jh))),fun _ _ _ _ _=>(Mw rfl (Uz (Vj (show List.Nodup (["x","z","run","one","climb"]:List Str) by decide +kernel) rfl (Or.inl rfl) (Or.inr rfl)) (Uz (Vj (show List.Nodup (["x","z","run","one","climb"]:List Str) by decide +kernel) rfl (Or.inl rfl) (Or.inr rfl)) Kw)))⟩ (fun _ _ _ _ _=>VJ) (fun _ _ _ _ _=>(zZ (Yl Z8 (zZ Z8 (zu Z8 zp))) (Yl Z8 (zZ Z8 (zu Z8 zp))))))
 (zq (zG (Yt (zc (zZ (z9 UJ xad boot_max (zc (zu Z8 zp) (zc (zu Z8 zp) zj))) (zu Z8 (zJ rfl xcf))) (zc (zZ (zu Z8 (zJ rfl xa9)) (z9 Sh xam boot_min (zc (zu Z8 zp) (zc (zu Z8 zp) zj)))) (zc (zZ (z9 UJ xad boot_max (zc (zu Z8 zp) (zc (zu Z8 zp) zj))) (zu Z8 (zJ rfl xak))) (zc (zZ (zu Z8 (zJ rfl xai)) (z9 Sh xam boot_min (zc (zu Z8 zp) (zc (zu Z8 zp) zj)))) (zc (z9 ztb xad boot_max (zc Z8 zj)) (zc (Yh (z9 jR xam boot_min (zc Z8 zj))) zj)))))))))))))
variable (xf6:Got P w K mg base 1 "margins" ["box","one","other"] (Z4 K Dp.Ls))
variable (xhz:mg "sorted"=none)
include xq xaq xad xhz in
def zul (F:Fk K "tidy" lQ f fd):zN P w K mg base ZS 1 f fd ["pairs"] (Z4 K Dp.Ra):=ZD (M:=["found","low","high"]) F Dp.zuj fun hnd hr=>(zm (zy hnd (Yt zj))
 (zm (Yq (Za (z9 ztV xhz boot_sorted (zc (Vo (own:=["pair"]) (free:=[]) True.intro True.intro (Za Z8) Vi (fun _ _ _ _ _=>(Du (zK Vb (zu Z8 zp) (zu Z8 zp)))) (fun _ _ _ _ _=>(zX (zc (zu Z8 zp) (zc (zu Z8 zp) zj))))) zj))) (Us rfl (YG (zP hnd) (YG (zP hnd) Ue))) (zq (zT (VH (Q9 (zK W3 (z9 YB xq boot_len (zc Z8 zj)) zp) (Py (zK Vb Z8 (zW (zu (zu Z8 (Yh zp)) zp) zp))))) (zq (Jb (zX (zc (zu (zu Z8 (Yh zp)) zp) (zc (z9 UJ xad boot_max (zc (zu (zu Z8 (Yh zp)) zp) (zc Z8 zj))) zj))) (Fb Z8 (Yh zp)))) (zq (zQ (Vk PySem.F.slot_list_append PySem.F.type_list_append SQ Z8 (zc (zX (zc Z8 (zc Z8 zj))) zj)))))))
 (zq (zG (Rk JF xaq boot_tuple (zc Z8 zj))))))
variable (xby:Got P w K mg base 1 "tidy" ["pairs"] (Z4 K Dp.Ra))
variable (xj9:mg "zip"=none)
include xdj xgs xam xad xhl xf6 xby xj9 in
def zrQ (F:Fk K "foggy" Ah f fd):zN P w K mg base ZS 2 f fd ["fog","one","other"] (Z4 K Dp.Ii):=ZD (M:=["low","high","starts","afters","start","after","step"]) F Dp.zqX fun hnd hr=>(zm (zy hnd zp)
 (zm (zy hnd (zZ (zu Z8 (zJ rfl xgs)) (zu Z8 (zJ rfl xdj))))
 (zm (zy hnd (zB xf6 hr (zc (zB xhl hr (zc Z8 (zc zp zj))) (zc Z8 (zc Z8 zj)))))
 (zm (zy hnd (zB xf6 hr (zc (zB xhl hr (zc Z8 (zc zp zj))) (zc Z8 (zc Z8 zj)))))
 (zm (Yq (zvt rfl xj9 (zc Z8 (zc Z8 zj))) (Us rfl (YG (zP hnd) (YG (zP hnd) Ue))) (zm (zy hnd (zZ Z8 Z8))
 (zq (zT (zK W3 Z8 zp) (zq (zy hnd (z9 UJ xad boot_max (zc Z8 (zc (Yh (Ym Z8 Z8)) zj))))) (zq (zT (zK Xy Z8 zp) (zq (zy hnd (z9 Sh xam boot_min (zc Z8 (zc (Ym Z8 (Yh Z8)) zj))))) (zq (zT (zK Xy Z8 zp) (zq (zG (zX zj))) zM))))))))
 (zq (zG (zB xby hr (zc (Yt (zc (zX (zc (zW (zu Z8 (zJ rfl xdj)) Z8) (zc (zW (zu Z8 (zJ rfl xdj)) Z8) zj))) zj)) zj)))))))))
variable (xif:Got P w K mg base 2 "foggy" ["fog","one","other"] (Z4 K Dp.Ii))
include xby xif in
def zkX (F:Fk K "foggy_all" xK f fd):zN P w K mg base ZS 3 f fd ["fogs","one","other"] (Z4 K Dp.HN):=ZD (M:=["found","fog"]) F Dp.zl5 fun hnd hr=>(zm (zy hnd (Yt zj))
 (zm (Yq (Za Z8) (zP hnd) (zq (zQ (Vk PySem.F.slot_list_extend PySem.F.type_list_extend jE Z8 (zc (zB xif hr (zc Z8 (zc Z8 (zc Z8 zj)))) zj)))))
 (zq (zG (zB xby hr (zc Z8 zj))))))
variable (xfx:Got P w K mg base 3 "foggy_all" ["fogs","one","other"] (Z4 K Dp.HN))
include xby in
def jo (F:Fk K "gaps" sV f fd):zN P w K mg base ZS 2 f fd ["spans","low","high"] (Z4 K Dp.Jw):=ZD (M:=["found","start","span"]) F Dp.zsU fun hnd hr=>(zm (zy hnd (Yt zj))
 (zm (zy hnd Z8)
 (zm (Yq (Za Z8) (zP hnd) (zm (zQ (Vk PySem.F.slot_list_append PySem.F.type_list_append SQ Z8 (zc (zX (zc Z8 (zc (zZ (zu Z8 zp) zp) zj))) zj)))
 (zq (zy hnd (zW (zu Z8 zp) zp)))))
 (zm (zQ (Vk PySem.F.slot_list_append PySem.F.type_list_append SQ Z8 (zc (zX (zc Z8 (zc Z8 zj))) zj)))
 (zq (zG (zB xby hr (zc Z8 zj))))))))
variable (xjc:Got P w K mg base 2 "gaps" ["spans","low","high"] (Z4 K Dp.Jw))
include xam xad xby in
def zsR (F:Fk K "both" tu f fd):zN P w K mg base ZS 2 f fd ["one","other"] (Z4 K Dp.Kd):=ZD (M:=["found","low","high","other_low","other_high"]) F Dp.zsK fun hnd hr=>(zm (zy hnd (Yt zj))
 (zm (Yq (Za Z8) (Us rfl (YG (zP hnd) (YG (zP hnd) Ue))) (zq (Yq (Za Z8) (Us rfl (YG (zP hnd) (YG (zP hnd) Ue))) (zq (zQ (Vk PySem.F.slot_list_append PySem.F.type_list_append SQ Z8 (zc (zX (zc (z9 UJ xad boot_max (zc Z8 (zc Z8 zj))) (zc (z9 Sh xam boot_min (zc Z8 (zc Z8 zj))) zj))) zj)))))))
 (zq (zG (zB xby hr (zc Z8 zj))))))
variable (xi9:Got P w K mg base 2 "both" ["one","other"] (Z4 K Dp.Kd))
include xq xjc xi9 in
def znF (F:Fk K "without" sS f fd):zN P w K mg base ZS 3 f fd ["one","other"] (Z4 K Dp.J3):=ZD (M:=[]) F Dp.znp fun hnd hr=>(zm (zT (zK (W5 hr) (z9 YB xq boot_len (zc Z8 zj)) zp) (zq (zG (zX zj))) zM)
 (zq (zG (zB xi9 hr (zc Z8 (zc (zB xjc hr (zc Z8 (zc (zu (zu Z8 zp) zp) (zc (zu (zu Z8 (Yh zp)) zp) zj)))) zj))))))
variable (xg4:Got P w K mg base 3 "without" ["one","other"] (Z4 K Dp.J3))
include xf5 xcv xfx xg4 in
def zrz (F:Fk K "sight" rP f fd):zN P w K mg base (Xp P w) 9 f fd ["valley","name","other"] (Xv K Dp.Jf):=Rp (M:=["one_top","other_top","hours"]) F Dp.zrY fun hnd hr ex hX hM=>(zm (zy hnd (VR xf5 hX hr (zc Z8 (zc Z8 zj))))
 (zm (zy hnd (VR xf5 hX hr (zc Z8 (zc Z8 zj))))
 (zm (zy hnd (zX (zc (zX (zc (Xx Z8 rfl) (zc (Xx Z8 rfl) zj))) zj)))
 (zm (zT (zK (W5 hr) Z8 Z8) (zq (zG Z8)) zM)
 (zm (zT (zK Kl (zB xcv hr (zc Z8 (zc Z8 (zc Z8 zj)))) Rz) (zq (zG (zX zj))) zM)
 (zq (zG (zB xg4 hr (zc Z8 (zc (zB xfx hr (zc (Xx Z8 rfl) (zc Z8 (zc Z8 zj)))) zj))))))))))
variable (xie:Uk P w K mg base 9 "sight" ["valley","name","other"] (Xv K Dp.Jf))
variable (xd7:∃ t,mg "TO"=some (.int 2 t))
variable (xav:∃ t,mg "STEP"=some (.int 3 t))
variable (xr:∃ t,mg "LOW_reaches"=some (.int 0 t))
include xd7 xav xr in
def zvF (F:Fk K "led" nH f fd):zN P w K mg base ZS 1 f fd ["piece","hour"] (Z4 K Dp.Vv):=ZD (M:=[]) F Dp.zvd fun hnd hr=>(zq (zG (zW (zu Z8 (zJ rfl xd7)) (Yl (zu Z8 (zJ rfl xav)) (zZ Z8 (zu Z8 (zJ rfl xr)))))))
variable (xat:Got P w K mg base 1 "led" ["piece","hour"] (Z4 K Dp.Vv))
variable (xg:∃ t,mg "HIGH_reaches"=some (.int 1 t))
include xd7 xr xat xg in
def ziv (F:Fk K "can_be_drawn" tD f fd):zN P w K mg base ZS 2 f fd ["piece","to"] (Z4 K Dp.Ir):=ZD (M:=[]) F Dp.zjd fun hnd hr=>(zm (zT (zK (W5 hr) (zu Z8 (zJ rfl xr)) (zu Z8 (zJ rfl xg))) (zq (zG (zuN (Tg (W5 hr) Z8 (zu Z8 (zJ rfl xd7))) (JK (Tg (W5 hr) Z8 (zW (zu Z8 (zJ rfl xd7)) zp)))))) zM)
 (zq (zG (Tg (W5 hr) Z8 (zB xat hr (zc Z8 (zc (zW (zu Z8 (zJ rfl xg)) zp) zj)))))))
variable (xdc:Got P w K mg base 2 "can_be_drawn" ["piece","to"] (Z4 K Dp.Ir))
include xat xg in
def zpr (F:Fk K "end_of" pG f fd):zN P w K mg base ZS 2 f fd ["piece"] (Z4 K Dp.K8):=ZD (M:=[]) F Dp.zoX fun hnd hr=>(zq (zG (zB xat hr (zc Z8 (zc (zu Z8 (zJ rfl xg)) zj)))))
variable (xd6:Got P w K mg base 2 "end_of" ["piece"] (Z4 K Dp.K8))
include xq xd7 xr xdc xd6 in
def zwx (F:Fk K "put" uG f fd):zN P w K mg base ZS 3 f fd ["pieces","low","high","to","step"] (Z4 K Dp.RG):=ZD (M:=["start","last","drawn_step","drawn_high"]) F Dp.zv9 fun hnd hr=>(zm (zy hnd Z8)
 (zm (O1 (zT (VH (Q9 (zK Vb Z8 Z8) (Q9 (zK W3 (z9 YB xq boot_len (zc Z8 zj)) zp) (Py (VF (zB xdc hr (zc (zu Z8 (Yh zp)) (zc Z8 zj)))))))) (zm (zy hnd (zu Z8 (Yh zp)))
 (zm (zy hnd (zZ Z8 (zB xd6 hr (zc Z8 zj))))
 (zm (O1 (zy hnd (Nm (zK (W5 hr) Z8 Z8) Z8 Z8)))
 (zm (Jb (zX (zc (zu Z8 (zJ rfl xr)) (zc Z8 (zc (zu Z8 (zJ rfl xd7)) (zc Z8 zj))))) (Fb Z8 (Yh zp)))
 (zq (zy hnd (zW Z8 zp))))))) zM))
 (zq (zT (zK Vb Z8 Z8) (zq (zQ (Vk PySem.F.slot_list_append PySem.F.type_list_append SQ Z8 (zc (zX (zc Z8 (zc Z8 (zc (zW Z8 (Yl Z8 (zZ Z8 Z8))) (zc (Nm (zK Xy Z8 Z8) Z8 zp) zj))))) zj)))) zM))))
variable (xdx:Got P w K mg base 3 "put" ["pieces","low","high","to","step"] (Z4 K Dp.RG))
include xaq xad xdx in
def zmr (F:Fk K "reach_of" mH f fd):zN P w K mg base ZS 4 f fd ["spans","delay","first"] (Z4 K Dp.MJ):=ZD (M:=["found","hour","low","high","start"]) F Dp.zmp fun hnd hr=>(zm (zy hnd (Yt zj))
 (zm (zy hnd Z8)
 (zm (Yq (Za Z8) (Us rfl (YG (zP hnd) (YG (zP hnd) Ue))) (zm (zQ (zB xdx hr (zc Z8 (zc Z8 (zc (zZ Z8 zp) (zc (zW Z8 Z8) (zc zp zj)))))))
 (zm (zy hnd (z9 UJ xad boot_max (zc Z8 (zc Z8 zj))))
 (zm (zQ (zB xdx hr (zc Z8 (zc Z8 (zc Z8 (zc (zW Z8 Z8) (zc zp zj)))))))
 (zq (zy hnd (z9 UJ xad boot_max (zc Z8 (zc (zW Z8 zp) zj)))))))))
 (zq (zG (Rk JF xaq boot_tuple (zc Z8 zj)))))))
variable (xca:Got P w K mg base 4 "reach_of" ["spans","delay","first"] (Z4 K Dp.MJ))
include xab xie xca in
def jA (F:Fk K "steps_of" u6 f fd):zN P w K mg base ZS 10 f fd ["valley"] (Z4 K Dp.Mj):=ZD (M:=["found","name","other"]) F Dp.zmq fun hnd hr=>(zm (zy hnd (ztA))
 (zm (Yq (Za (zB xab hr (zc Z8 zj))) (zP hnd) (zq (Yq (Za (zB xab hr (zc Z8 zj))) (zP hnd) (zq (Jk hr Z8 (zX (zc Z8 (zc Z8 zj))) (zB xca hr (zc (VR xie Ij hr (zc Z8 (zc Z8 (zc Z8 zj)))) (zc (Xx Z8 rfl) (zc (Xx Z8 rfl) zj)))))))))
 (zq (zG Z8))))
variable (xb9:Got P w K mg base 10 "steps_of" ["valley"] (Z4 K Dp.Mj))
include xca in
def znw (F:Fk K "staying" ur f fd):zN P w K mg base ZS 5 f fd ["first","last"] (Z4 K Dp.JC):=ZD (M:=[]) F Dp.zof fun hnd hr=>(zm (zT (zK W3 Z8 Z8) (zq (zG (zX zj))) zM)
 (zq (zG (zB xca hr (zc (zX (zc (zX (zc Z8 (zc Z8 zj))) zj)) (zc zp (zc Z8 zj)))))))
variable (xg8:Got P w K mg base 5 "staying" ["first","last"] (Z4 K Dp.JC))
include xam xad xd7 xav xr xat xg xd6 xdx in
def jH (F:Fk K "put_led_on" xT f fd):zN P w K mg base ZS 4 f fd ["pieces","piece","following"] (Z4 K Dp.Ig):=ZD (M:=["start","end","shift"]) F Dp.zku fun hnd hr=>(zm (zy hnd (z9 UJ xad boot_max (zc (zu Z8 (zJ rfl xd7)) (zc (zu Z8 (zJ rfl xr)) zj))))
 (zm (zy hnd (z9 Sh xam boot_min (zc (zB xd6 hr (zc Z8 zj)) (zc (zu Z8 (zJ rfl xg)) zj))))
 (zq (zT (VH (Q9 (zK Vb Z8 Z8) (Py (zK (W5 hr) (zu Z8 (zJ rfl xav)) zp)))) (zq (zQ (zB xdx hr (zc Z8 (zc (zu Z8 (zJ rfl xr)) (zc (zu Z8 (zJ rfl xg)) (zc (zB xat hr (zc Z8 (zc Z8 zj))) (zc zp zj)))))))) (zq (zT (zK Vb Z8 Z8) (zm (zy hnd (zZ (zu Z8 (zJ rfl xr)) (zu Z8 (zJ rfl xd7))))
 (zq (zQ (zB xdx hr (zc Z8 (zc (zW Z8 Z8) (zc (zW Z8 Z8) (zc (zB xat hr (zc Z8 (zc Z8 zj))) (zc (zu Z8 (zJ rfl xav)) zj))))))))) zM))))))
variable (xeh:Got P w K mg base 4 "put_led_on" ["pieces","piece","following"] (Z4 K Dp.Ig))
include xaq xeh in
def gB (F:Fk K "behind" uf f fd):zN P w K mg base ZS 5 f fd ["one","other"] (Z4 K Dp.Iu):=ZD (M:=["found","piece","following"]) F Dp.zps fun hnd hr=>(zm (zy hnd (Yt zj))
 (zm (Yq (Za Z8) (zP hnd) (zq (Yq (Za Z8) (zP hnd) (zq (zQ (zB xeh hr (zc Z8 (zc Z8 (zc Z8 zj)))))))))
 (zq (zG (Rk JF xaq boot_tuple (zc Z8 zj))))))
variable (xhs:Got P w K mg base 5 "behind" ["one","other"] (Z4 K Dp.Iu))
include xav xat xdx in
def znO (F:Fk K "put_cut" lV f fd):zN P w K mg base ZS 4 f fd ["pieces","piece","low","high"] (Z4 K Dp.R9):=ZD (M:=[]) F Dp.zom fun hnd hr=>(zq (zQ (zB xdx hr (zc Z8 (zc Z8 (zc Z8 (zc (zB xat hr (zc Z8 (zc Z8 zj))) (zc (zu Z8 (zJ rfl xav)) zj))))))))
variable (xas:Got P w K mg base 4 "put_cut" ["pieces","piece","low","high"] (Z4 K Dp.R9))
include xam xad xat xas in
def zi9 (F:Fk K "put_crossing" wD f fd):zN P w K mg base ZS 5 f fd ["pieces","climbing","flat","low","high"] (Z4 K Dp.Lb):=ZD (M:=["lead","meeting"]) F Dp.ziJ fun hnd hr=>(zm (zy hnd (zZ (zB xat hr (zc Z8 (zc Z8 zj))) (zB xat hr (zc Z8 (zc Z8 zj)))))
 (zm (zy hnd (z9 Sh xam boot_min (zc Z8 (zc (zW Z8 (z9 UJ xad boot_max (zc Z8 (zc (Yh zp) zj)))) zj))))
 (zm (zQ (zB xas hr (zc Z8 (zc Z8 (zc Z8 (zc Z8 zj))))))
 (zq (zQ (zB xas hr (zc Z8 (zc Z8 (zc (zW Z8 zp) (zc Z8 zj))))))))))
variable (xbz:Got P w K mg base 5 "put_crossing" ["pieces","climbing","flat","low","high"] (Z4 K Dp.Lb))
include xav xat xas xbz in
def zkw (F:Fk K "put_lesser" lM f fd):zN P w K mg base ZS 6 f fd ["pieces","piece","rival","low","high"] (Z4 K Dp.Hx):=ZD (M:=[]) F Dp.ji fun hnd hr=>(zq (zT (zK W3 (zu Z8 (zJ rfl xav)) (zu Z8 (zJ rfl xav))) (zq (zQ (zB xbz hr (zc Z8 (zc Z8 (zc Z8 (zc Z8 (zc Z8 zj)))))))) (zq (zT (zK Xy (zu Z8 (zJ rfl xav)) (zu Z8 (zJ rfl xav))) (zq (zQ (zB xbz hr (zc Z8 (zc Z8 (zc Z8 (zc Z8 (zc Z8 zj)))))))) (zq (zT (zK Xy (zB xat hr (zc Z8 (zc Z8 zj))) (zB xat hr (zc Z8 (zc Z8 zj)))) (zq (zQ (zB xas hr (zc Z8 (zc Z8 (zc Z8 (zc Z8 zj))))))) (zq (zQ (zB xas hr (zc Z8 (zc Z8 (zc Z8 (zc Z8 zj)))))))))))))
variable (xel:Got P w K mg base 6 "put_lesser" ["pieces","piece","rival","low","high"] (Z4 K Dp.Hx))
include xq xaq xam xad xr xg xas xel in
def zop (F:Fk K "earlier" Ak f fd):zN P w K mg base ZS 7 f fd ["one","other"] (Z4 K Dp.Jo):=ZD (M:=["found","hour","i","j","high","piece"]) F Dp.zow fun hnd hr=>(zm (zT (VH (QW (zK (W5 hr) (z9 YB xq boot_len (zc Z8 zj)) zp) (QK (zK (W5 hr) (z9 YB xq boot_len (zc Z8 zj)) zp)))) (zq (zG (zW Z8 Z8))) zM)
 (zm (zy hnd (Yt zj))
 (zm (zy hnd (zu (zu Z8 zp) (zJ rfl xr)))
 (zm (zy hnd zp)
 (zm (zy hnd zp)
 (zm (Ko (VH (Q9 (zK Xy Z8 (z9 YB xq boot_len (zc Z8 zj))) (Py (zK Xy Z8 (z9 YB xq boot_len (zc Z8 zj)))))) (zm (zy hnd (z9 Sh xam boot_min (zc (zu (zu Z8 Z8) (zJ rfl xg)) (zc (zu (zu Z8 Z8) (zJ rfl xg)) zj))))
 (zm (zQ (zB xel hr (zc Z8 (zc (zu Z8 Z8) (zc (zu Z8 Z8) (zc Z8 (zc Z8 zj)))))))
 (zm (zy hnd (zW Z8 zp))
 (zm (O1 (zy hnd (Nm (zK (W5 hr) (zu (zu Z8 Z8) (zJ rfl xg)) Z8) (zW Z8 zp) Z8)))
 (zq (zy hnd (Nm (zK (W5 hr) (zu (zu Z8 Z8) (zJ rfl xg)) Z8) (zW Z8 zp) Z8))))))))
 (zm (Yq (Za (zW (JL Z8 (Ka Z8) Ip) (JL Z8 (Ka Z8) Ip))) (zP hnd) (zq (zQ (zB xas hr (zc Z8 (zc Z8 (zc (z9 UJ xad boot_max (zc Z8 (zc (zu Z8 (zJ rfl xr)) zj))) (zc (zu Z8 (zJ rfl xg)) zj))))))))
 (zq (zG (Rk JF xaq boot_tuple (zc Z8 zj)))))))))))
variable (xg9:Got P w K mg base 7 "earlier" ["one","other"] (Z4 K Dp.Jo))
include xq xab xg8 xhs xg9 in
def zh8 (F:Fk K "hearings_from" uE f fd):zN P w K mg base ZS 8 f fd ["valley","steps","name"] (Z4 K Dp.Lh):=ZD (M:=["names","found","each","changed","ahead","other","reach"]) F Dp.zin fun hnd hr=>(zm (zy hnd (zB xab hr (zc Z8 zj)))
 (zm (zy hnd (zte))
 (zm (Yq (Za Z8) (zP hnd) (zq (Jk hr Z8 Z8 (zX zj))))
 (zm (Jk hr Z8 Z8 (zB xg8 hr (zc (Xx Z8 rfl) (zc (Xx Z8 rfl) zj))))
 (zm (zy hnd (Yt (zc Z8 zj)))
 (zm (Ko (zK W3 (z9 YB xq boot_len (zc Z8 zj)) zp) (zm (zy hnd (Vk PySem.F.slot_list_pop PySem.F.type_list_pop zuk Z8 (zc zp zj)))
 (zq (Yq (Za Z8) (zP hnd) (zm (zy hnd (zB xg9 hr (zc (KH hr Z8 Z8) (zc (zB xhs hr (zc (KH hr Z8 Z8) (zc (KH hr Z8 (zX (zc Z8 (zc Z8 zj)))) zj))) zj))))
 (zq (zT (zK (Rb hr) Z8 (KH hr Z8 Z8)) (zm (Jk hr Z8 Z8 Z8)
 (zq (zy hnd (zW (Vo (own:=["each"]) (free:=["other"]) ⟨rfl,True.intro⟩ ⟨rfl,rfl,rfl,True.intro⟩ (Za Z8) Vi (fun _ _ _ _ _=>(Du (zK (Rb hr) Z8 Z8))) (fun _ _ _ _ _=>Z8)) (Yt (zc Z8 zj)))))) zM)))))))
 (zq (zG (Vo (own:=["each"]) (free:=["found"]) ⟨rfl,True.intro⟩ ⟨rfl,rfl,rfl,True.intro⟩ (Za Z8) Vi (fun _ _ _ _ _=>VJ) (fun _ _ _ _ _=>(KH hr Z8 Z8)))))))))))
variable (xap:Got P w K mg base 8 "hearings_from" ["valley","steps","name"] (Z4 K Dp.Lh))
include xab xb9 xap in
def zml (F:Fk K "hearings" Af f fd):zN P w K mg base ZS 11 f fd ["valley"] (Z4 K Dp.K7):=ZD (M:=["steps"]) F Dp.zmg fun hnd hr=>(zm (zy hnd (zB xb9 hr (zc Z8 zj)))
 (zq (zG (Vo (own:=["name"]) (free:=["valley","steps"]) ⟨rfl,rfl,True.intro⟩ ⟨rfl,rfl,rfl,rfl,rfl,rfl,True.intro⟩ (Za (zB xab hr (zc Z8 zj))) Vi (fun _ _ _ _ _=>VJ) (fun _ _ _ _ _=>(zB xap hr (zc Z8 (zc Z8 (zc Z8 zj)))))))))
variable (xei:Got P w K mg base 11 "hearings" ["valley"] (Z4 K Dp.K7))
include xab xbk xbj in
def zgi (F:Fk K "refuse_no_beacon" pL f fd):zN P w K mg base (Xp P w) 2 f fd ["valley","name"] (Xv K Dp.KD):=Rp (M:=[]) F Dp.zgh fun hnd hr ex hX hM=>(zq (zT (ztP (zqG hr) Z8 (zB xab hr (zc Z8 zj))) (zq (Ib hM rfl xbk xbj rfl (zc WW zj) (fun _ _ _ h=>h _))) zM))
variable (xaw:Uk P w K mg base 2 "refuse_no_beacon" ["valley","name"] (Xv K Dp.KD))
include xab xb9 xap xaw in
def iY (F:Fk K "hearing" Bb f fd):zN P w K mg base (Xp P w) 11 f fd ["valley","name","other"] (Xv K Dp.O7):=Rp (M:=[]) F Dp.zob fun hnd hr ex hX hM=>(zm (zQ (VR xaw hX hr (zc Z8 (zc Z8 zj))))
 (zm (zQ (VR xaw hX hr (zc Z8 (zc Z8 zj))))
 (zq (zG (zu (zB xap hr (zc Z8 (zc (zB xb9 hr (zc Z8 zj)) (zc Z8 zj)))) (Vk PySem.F.slot_list_index PySem.F.type_list_index (zrB hr) (zB xab hr (zc Z8 zj)) (zc Z8 zj)))))))
variable (xa6:Uk P w K mg base 11 "hearing" ["valley","name","other"] (Xv K Dp.O7))
include xq xa6 in
def zik (F:Fk K "first_unheard" uK f fd):zN P w K mg base (Xp P w) 12 f fd ["valley","name","other"] (Xv K Dp.J4):=Rp (M:=["reach","unled"]) F Dp.zic fun hnd hr ex hX hM=>(zm (zy hnd (VR xa6 hX hr (zc Z8 (zc Z8 (zc Z8 zj)))))
 (zm (O1 (zy hnd (Nm (zK W3 (z9 YB xq boot_len (zc Z8 zj)) zp) (zW (zu (zu Z8 (Yh zp)) zp) zp) (Xx Z8 rfl))))
 (zq (zG (Nm (zK Vb Z8 (Xx Z8 rfl)) Z8 Rz)))))
variable (xcx:Uk P w K mg base 12 "first_unheard" ["valley","name","other"] (Xv K Dp.J4))
variable (xep:∃ Cc,mg "ValeError"=some (.ref Cc)/\∀ c C,(["BadGround","OffGround","BadFog","BadName","Twice","TooMany","BadHour","NoBeacon"]:List Str).contains c=true->W.nsIn K mainGlobals c=some (some (.ref C))->W.exmOne K (.ref C) (.ref Cc)=some true)
variable (xd3:mg "ValueError"=none/\∀ c b C,([("BadGround",true),("OffGround",true),("BadFog",true),("BadName",true),("Twice",true),("TooMany",true),("BadHour",true),("NoBeacon",true)]:List (Str×Bool)).lookup c=some b->W.nsIn K mainGlobals c=some (some (.ref C))->Zy K C/\W.kitOne K (.ref C) (.type "ValueError")=some b)
variable (xf3:∃ Cc,mg "NoBeacon"=some (.ref Cc)/\∀ c b C,([("BadGround",false),("OffGround",false),("BadFog",false),("BadName",false),("Twice",false),("TooMany",false),("BadHour",false),("NoBeacon",true)]:List (Str×Bool)).lookup c=some b->W.nsIn K mainGlobals c=some (some (.ref C))->Zy K C/\W.kitOne K (.ref C) (.ref Cc)=some b)
variable (xgg:∃ Cc,mg "BadHour"=some (.ref Cc)/\∀ c b C,([("BadGround",false),("OffGround",false),("BadFog",false),("BadName",false),("Twice",false),("TooMany",false),("BadHour",true),("NoBeacon",false)]:List (Str×Bool)).lookup c=some b->W.nsIn K mainGlobals c=some (some (.ref C))->Zy K C/\W.kitOne K (.ref C) (.ref Cc)=some b)
variable (xgh:∃ Cc,mg "BadName"=some (.ref Cc)/\∀ c b C,([("BadGround",false),("OffGround",false),("BadFog",false),("BadName",true),("Twice",false),("TooMany",false),("BadHour",false),("NoBeacon",false)]:List (Str×Bool)).lookup c=some b->W.nsIn K mainGlobals c=some (some (.ref C))->Zy K C/\W.kitOne K (.ref C) (.ref Cc)=some b)
include xu xa6 xcx xep xd3 xf3 xgg xgh in
def zjr (F:Fk K "_law_refused" yc f fd):zN P w K mg base ZS 13 f fd ["deed","valley","name","other"] (Z4 K Dp.HS):=ZD (M:=["kinds","e"]) F Dp.jt fun hnd hr=>(zm (zy hnd (Yt zj))
 (zm (zt4 rfl rfl hnd rfl rfl rfl xep (fun _ _ ex hX=>(zq (zT (zK (W5 hr) Z8 zp) (zq (zQ (VR xa6 hX hr (zc Z8 (zc Z8 (zc Z8 zj)))))) (zq (zQ (VR xcx hX hr (zc Z8 (zc Z8 (zc Z8 zj))))))))) (fun _=>(zm (zy hnd (Yt (zc (zur rfl xu (KY (pv 5)) rfl xd3 (by decide +kernel)) (zc (Ft rfl xu (KY (pv 5)) rfl xf3) (zc (Ft rfl xu (KY (pv 5)) rfl xgg) zj)))))
 (zq (zQ (Vk PySem.F.slot_list_append PySem.F.type_list_append SQ Z8 (zc (Ft rfl xu (KY (pv 5)) rfl xgh) zj)))))))
 (zq (zG (Tg (W5 hr) Z8 (Yt (zc Vr (zc Vr (zc Vr (zc Vr zj))))))))))
variable (xd0:Got P w K mg base 13 "_law_refused" ["deed","valley","name","other"] (Z4 K Dp.HS))
include xq xar xcj xaf xf2 xbv xu xen xei xa6 xd0 in
def zwq (F:Fk K "law" Rh f fd):zN P w K mg base ZS 14 f fd ["script"] (Z4 K Dp.Oh):=ZD (M:=["parts","valley","names","found","kept","k","name","at","odd","deed","other"]) F Dp.zu1 fun hnd hr=>(zm (zy hnd (zB xf2 hr (zc Z8 zj)))
 (zm (zy hnd (zB xen hr (zc Z8 zj)))
 (zm (JR hnd (own:=["beacon"]) (free:=[]) True.intro True.intro (Za (zu Z8 zp)) Vi (fun _ _ _ _ _=>VJ) (fun _ _ _ _ _=>(zu Z8 zp)))
 (zm (zy hnd (zB xei hr (zc Z8 zj)))
 (zm (zT (VH (QW (U0 (VF (z9 Mu xu boot_isinstance (zc Z8 (zc (Mq rfl xbv boot_list) zj))))) (QK (zK (Rb hr) (z9 YB xq boot_len (zc Z8 zj)) (z9 YB xq boot_len (zc Z8 zj)))))) (zq (zG Vr)) zM)
 (zm (zy hnd (Yt zj))
 (zm (Yq (JM rfl xaf (zc Z8 zj)) (Us rfl (YG (zP hnd) (YG (zP hnd) Ue))) (zm (zT (VH (QW (U0 (VF (z9 Mu xu boot_isinstance (zc (zu Z8 Z8) (zc (Mq rfl xbv boot_list) zj))))) (QK (zK (Rb hr) (z9 YB xq boot_len (zc (zu Z8 Z8) zj)) (z9 YB xq boot_len (zc Z8 zj)))))) (zq (zG Vr)) zM)
 (zm (zy hnd (Y0 (zW Z8 (Ym (zB xar hr (zc Z8 (zc zp zj))) zp)) (z9 YB xq boot_len (zc Z8 zj))))
 (zm (zT (zK (Rb hr) (zu (zu Z8 Z8) Z8) (VR xa6 Ij hr (zc Z8 (zc Z8 (zc (zu Z8 Z8) zj))))) (zq (zG Vr)) zM)
 (zm (zQ (Vk PySem.F.slot_list_append PySem.F.type_list_append SQ Z8 (zc (Rk Js xbv boot_list (zc (zu Z8 Z8) zj)) zj)))
 (zq (zQ (m9 PySem.F.slot_list_clear PySem.F.type_list_clear lW (zu Z8 Z8)))))))))
 (zm (zQ (m9 PySem.F.slot_list_clear PySem.F.type_list_clear lW Z8))
 (zm (zy hnd (zu (Yt (zc WW (zc WW (zc (zW (zu Z8 zp) WW) (zc WW zj))))) (Y0 (zB xar hr (zc Z8 (zc zp zj))) zp)))
 (zm (Yq (v9 xcj (zc zp zj)) (zP hnd) (zq (Yq (Za (Yt (zc (zX (zc Z8 (zc (zu Z8 zp) zj))) (zc (zX (zc (zu Z8 (Yh zp)) (zc Z8 zj))) (zc (zX (zc Z8 (zc Z8 zj))) zj))))) (Us rfl (YG (zP hnd) (YG (zP hnd) Ue))) (zq (zT (U0 (VF (zB xd0 hr (zc Z8 (zc Z8 (zc Z8 (zc Z8 zj))))))) (zq (zG Vr)) zM)))))
 (zq (zG (Tg (W5 hr) (zB xei hr (zc Z8 zj)) Z8)))))))))))))
end
def all_mk {l:W.OpenLaw}{w:World}{K:W.Frag}{h:Heap}{mg:Str->Option Value}{fa:Addr}(X:K.In h)(G:h.Ns mainGlobals mg)(hfa:mg "law"=some (.ref fa))
  {xj5 xk6 xk2 xj4 xlu xkv xhq xh1 xl8 xh4 xnk xm6 xip xlm xk5 xkx xm3 xij xlq xm1 xin xh6 xkn xlk xmo xhj xim xmf xmv xis xi6 xne xl7 xni xnd xkw xnp f_both xmn xm5 xnu xjq xmt xns xlh xlz xma xko xm4 xmp xjz xkh xmh xiw xln xib xme xi3 xj7:Addr}{xj3 xky xk3 xj8 xk7 xku xht xhm xmd xh5 xnn xnb xiu xlb xk1 xk0 xmu xio xli xmy xil xh9 xki xlf xmg xhh xik xmk xm0 xit xiz xng xmm xnl xnf xk4 xnh xnm xl5 xm9 xnv xj0 xmz xnt xlv xl2 xl3 xkg xmw xl4 xje xkk xl9 xi4 xlw xh7 xmj xi5 xj6:FuncData}
  {xjr xjv:Option Addr} {xjk:Array (Option Value)} {xjo xjt xjw xjh xhk xjy:Value} {xd4:Addr} {xaj:Addr}
  {xjd xjm:Option Addr} {xji:Array (Option Value)} {xjf xju xjn xjp xhg xjl:Value} {xdw:Addr} {xaa:Addr}
  {xnq xl6:Option Addr} {xnj:Array (Option Value)} {xnr xmb xmi xmc xkm xmq:Value} {xlg:Addr}
  {xau:Addr}
  {xbh:Addr}
  {xa5:Addr}
  {xed:Addr}
  {xag:Addr}
  {xe3:Addr}
  {xc3:Addr}
  {xah:Addr}
  {xac:Addr}
  {xiq:Tok} {xix:Tok} {xiv:Tok} {xkj:Tok} {xiy:Tok} {xlx:Tok} {xk9:Tok} {xm8:Tok} {xmr:Tok} {xkz:Tok} {xkt:Tok} {xmx:Tok} {xm7:Tok} {xm2:Tok} {xnc:Tok} {xnx:Tok} {xna:Tok} {xjs:Tok} {xi0:Tok}
  (xdy:FH K "_law_cell_at" vY xj5 xj3)
  (xfz:FH K "_law_mixed" pH xk6 xky)
  (xft:FH K "_law_seeds" lY xk2 xk3)
  (xd1:FH K "_law_beacons" pO xj4 xj8)
  (xgf:FH K "_law_fogs" mJ xlu xk7)
  (xfq:FH K "_law_parts" uV xkv xku)
  (xa3:FH K "refuse_bad_corners" sX xhq xht)
  (xcg:W.nsIn K mainGlobals "Ground"=some (some (.ref xaj))) (xge:K.lookup xd4=some ⟨xjo,xjr,.func (W.fnOf "__init__" "Ground.__init__" (Vh Mx) (Xh Mx) (zY Mx) .none xjt xjw xjh xjv xhk xjy),xjk⟩) (xgd:W.codeIn K xhk "Ground.__init__"=true) (xf7:W.keepIn K (.ref xd4)=true)
  (xe8:W.makesIn K xaj=true) (xes:W.findIn K (.ref xaj) "__init__"=some (some (.ref xd4))) (xew:W.isFn K (.ref xd4)=true) (xe4:W.keepIn K (.ref xaj)=true) (xev:W.plainGet K xaj Str.empty=true) (xe9:W.hasDictIn K xaj=true) (xex:W.plainOver K xaj=true) (xey:W.findIn K (.ref xaj) "__setattr__"=some (some (.builtin "object.__setattr__"))) (xfd:W.findIn K (.ref xaj) "corners"=some none)
  (xaz:FH K "refuse_bad_numbers" pA xh1 xhm)
  (xgx:FH K "is_name" oM xl8 xmd)
  (xbc:FH K "refuse_bad_names" lF xh4 xh5)
  (xi2:FH K "less" xP xnk xnn)
  (xih:FH K "is_on" Ae xm6 xnb)
  (xb8:FH K "common_divisor" pY xip xiu)
  (xgm:FH K "fraction" v7 xlm xlb)
  (xfu:FH K "height_on" lK xk5 xk1)
  (xfw:FH K "ground_at" vU xkx xk0)
  (xhn:FH K "stands" wV xm3 xmu)
  (xbp:FH K "refuse_bad_tops" uI xij xio)
  (xgq:FH K "is_whole" vZ xlq xli)
  (xhp:FH K "is_fog" pJ xm1 xmy)
  (xbn:FH K "refuse_bad_fogs" xZ xin xil)
  (xbe:FH K "refuse_bad_hours" uh xh6 xh9)
  (xae:W.nsIn K mainGlobals "Valley"=some (some (.ref xaa))) (xga:K.lookup xdw=some ⟨xjf,xjd,.func (W.fnOf "__init__" "Valley.__init__" (Vh Kq) (Xh Kq) (zY Kq) .none xju xjn xjp xjm xhg xjl),xji⟩) (xgb:W.codeIn K xhg "Valley.__init__"=true) (xgc:W.keepIn K (.ref xdw)=true)
  (xfp:W.makesIn K xaa=true) (xe1:W.findIn K (.ref xaa) "__init__"=some (some (.ref xdw))) (xe7:W.isFn K (.ref xdw)=true) (xfe:W.keepIn K (.ref xaa)=true) (xfa:W.plainGet K xaa Str.empty=true) (xfc:W.hasDictIn K xaa=true) (xfg:W.plainOver K xaa=true) (xfh:W.findIn K (.ref xaa) "__setattr__"=some (some (.builtin "object.__setattr__"))) (xfk:W.findIn K (.ref xaa) "ground"=some none) (xfn:W.findIn K (.ref xaa) "beacons"=some none) (xfi:W.findIn K (.ref xaa) "fogs"=some none) (xez:W.findIn K (.ref xaa) "haze"=some none) (xet:W.findIn K (.ref xaa) "first"=some none) (xfm:W.findIn K (.ref xaa) "last"=some none) (xfo:W.findIn K (.ref xaa) "delay"=some none)
  (xeo:FH K "_law_valley" uW xkn xki)
  (xgk:FH K "names_of" uN xlk xlf)
  (xha:FH K "spot_of" nG xmo xmg)
  (xax:FH K "refuse_not_standing" wH xhj xhh)
  (xbs:FH K "numbers_between" wR xim xik)
  (xg6:FH K "side_of" o8 xmf xmk)
  (xhw:FH K "hinder" uF xmv xm0)
  (xb5:FH K "square_between" wM xis xit)
  (xcz:FH K "hidden_always" tR xi6 xiz)
  (xii:FH K "moved" lD xne xng)
  (xg1:FH K "margins" vN xl7 xmm)
  (xja:FH K "tidy" lQ xni xnl)
  (xig:FH K "foggy" Ah xnd xnf)
  (xfy:FH K "foggy_all" xK xkw xk4)
  (xi1:FH K "gaps" sV xnp xnh)
  (xi8:FH K "both" tu f_both xnm)
  (xg5:FH K "without" sS xmn xl5)
  (xid:FH K "sight" rP xm5 xm9)
  (xka:FH K "led" nH xnu xnv)
  (xdk:FH K "can_be_drawn" tD xjq xj0)
  (xhy:FH K "end_of" pG xmt xmz)
  (xkb:FH K "put" uG xns xnt)
  (xgj:FH K "reach_of" mH xlh xlv)
  (xgp:FH K "steps_of" u6 xlz xl2)
  (xg2:FH K "staying" ur xma xl3)
  (xej:FH K "put_led_on" xT xko xkg)
  (xhr:FH K "behind" uf xm4 xmw)
  (xg3:FH K "put_cut" lV xmp xl4)
  (xdm:FH K "put_crossing" wD xjz xje)
  (xer:FH K "put_lesser" lM xkh xkk)
  (xg7:FH K "earlier" Ak xmh xl9)
  (xc1:FH K "hearings_from" uE xiw xi4)
  (xgo:FH K "hearings" Af xln xlw)
  (xbb:FH K "refuse_no_beacon" pL xib xh7)
  (xg0:FH K "hearing" Bb xme xmj)
  (xcu:FH K "first_unheard" uK xi3 xi5)
  (xdz:FH K "_law_refused" yc xj7 xj6)
  (xly:W.nsIn K mainGlobals "law"=some (some (.ref xlg))) (xla:K.lookup xlg=some ⟨xnr,xnq,.func (W.fnOf "law" "law" (Vh Rh) (Xh Rh) (zY Rh) .none xmb xmi xmc xl6 xkm xmq),xnj⟩) (xl1:W.codeIn K xkm "law"=true) (xld:W.keepIn K (.ref xlg)=true)
  (xhd:W.nsIn K mainGlobals "ValeError"=some (some (.ref xau))) (xbf:W.nsIn K mainGlobals "BadGround"=some (some (.ref xbh))) (xch:isIn K xbh=true) (xan:W.nsIn K mainGlobals "OffGround"=some (some (.ref xa5))) (xhf:HW K xa5=true) (xci:isIn K xa5=true) (xea:W.nsIn K mainGlobals "BadFog"=some (some (.ref xed))) (xfb:isIn K xed=true) (xb0:W.nsIn K mainGlobals "BadName"=some (some (.ref xag))) (xef:isIn K xag=true) (xe2:W.nsIn K mainGlobals "Twice"=some (some (.ref xe3))) (xgr:isIn K xe3=true) (xc7:W.nsIn K mainGlobals "TooMany"=some (some (.ref xc3))) (xee:isIn K xc3=true) (xb1:W.nsIn K mainGlobals "BadHour"=some (some (.ref xah))) (xeg:isIn K xah=true) (xao:W.nsIn K mainGlobals "NoBeacon"=some (some (.ref xac))) (xhx:HW K xac=true) (xdi:isIn K xac=true) (xbu:W.exmOne K (.ref xbh) (.ref xau)=some true) (xbg:W.kitOne K (.ref xbh) (.type "ValueError")=some true) (xb3:W.kitOne K (.ref xbh) (.ref xac)=some false) (xck:W.kitOne K (.ref xbh) (.ref xah)=some false) (xco:W.kitOne K (.ref xbh) (.ref xag)=some false) (xbw:W.exmOne K (.ref xa5) (.ref xau)=some true) (xbi:W.kitOne K (.ref xa5) (.type "ValueError")=some true) (xb4:W.kitOne K (.ref xa5) (.ref xac)=some false) (xcn:W.kitOne K (.ref xa5) (.ref xah)=some false) (xcl:W.kitOne K (.ref xa5) (.ref xag)=some false) (xc2:W.exmOne K (.ref xed) (.ref xau)=some true) (xcq:W.kitOne K (.ref xed) (.type "ValueError")=some true) (xdo:W.kitOne K (.ref xed) (.ref xac)=some false) (xd8:W.kitOne K (.ref xed) (.ref xah)=some false) (xd9:W.kitOne K (.ref xed) (.ref xag)=some false) (xcp:W.exmOne K (.ref xag) (.ref xau)=some true) (xb7:W.kitOne K (.ref xag) (.type "ValueError")=some true) (xc8:W.kitOne K (.ref xag) (.ref xac)=some false) (xdt:W.kitOne K (.ref xag) (.ref xah)=some false) (xdp:W.kitOne K (.ref xag) (.ref xag)=some true) (xdu:W.exmOne K (.ref xe3) (.ref xau)=some true) (xdb:W.kitOne K (.ref xe3) (.type "ValueError")=some true) (xeb:W.kitOne K (.ref xe3) (.ref xac)=some false) (xek:W.kitOne K (.ref xe3) (.ref xah)=some false) (xem:W.kitOne K (.ref xe3) (.ref xag)=some false) (xcs:W.exmOne K (.ref xc3) (.ref xau)=some true) (xb6:W.kitOne K (.ref xc3) (.type "ValueError")=some true) (xc9:W.kitOne K (.ref xc3) (.ref xac)=some false) (xdr:W.kitOne K (.ref xc3) (.ref xah)=some false) (xds:W.kitOne K (.ref xc3) (.ref xag)=some false) (xcr:W.exmOne K (.ref xah) (.ref xau)=some true) (xcd:W.kitOne K (.ref xah) (.type "ValueError")=some true) (xc5:W.kitOne K (.ref xah) (.ref xac)=some false) (xdv:W.kitOne K (.ref xah) (.ref xah)=some true) (xdq:W.kitOne K (.ref xah) (.ref xag)=some false) (xb2:W.exmOne K (.ref xac) (.ref xau)=some true) (xbx:W.kitOne K (.ref xac) (.type "ValueError")=some true) (xcm:W.kitOne K (.ref xac) (.ref xac)=some true) (xda:W.kitOne K (.ref xac) (.ref xah)=some false) (xc4:W.kitOne K (.ref xac) (.ref xag)=some false) (xgu:W.nsIn K mainGlobals "ValueError"=some none)
  (xll:W.nsIn K mainGlobals "len"=some none) (xj2:W.nsIn K mainGlobals "range"=some none) (xhb:W.nsIn K mainGlobals "enumerate"=some none) (xkl:W.nsIn K mainGlobals "list"=some none) (xlc:W.nsIn K mainGlobals "all"=some none) (xlj:W.nsIn K mainGlobals "set"=some none) (xlp:W.nsIn K mainGlobals "abs"=some none) (xls:W.nsIn K mainGlobals "int"=some none) (xgt:W.nsIn K mainGlobals "isinstance"=some none) (xkp:W.nsIn K mainGlobals "bool"=some none) (xjg:W.nsIn K mainGlobals "tuple"=some none) (xl0:W.nsIn K mainGlobals "min"=some none) (xlr:W.nsIn K mainGlobals "max"=some none) (xir:W.nsIn K mainGlobals "sorted"=some none) (xk8:W.nsIn K mainGlobals "zip"=some none)
  (xeq:W.nsIn K mainGlobals "LEAST_CORNERS"=some (some (.int 2 xiq))) (xfl:W.nsIn K mainGlobals "MOST_CORNERS"=some (some (.int 40 xix))) (xe5:W.nsIn K mainGlobals "MOST_BEACONS"=some (some (.int 12 xiv))) (xhc:W.nsIn K mainGlobals "MOST_FOGS"=some (some (.int 12 xkj))) (xeu:W.nsIn K mainGlobals "MOST_LETTERS"=some (some (.int 8 xiy))) (xia:W.nsIn K mainGlobals "LETTERS"=some (some (.str "abcdefghijklmnopqrstuvwxyz" xlx))) (xh8:W.nsIn K mainGlobals "NUMBERS"=some (some (.int 8 xk9))) (xkq:W.nsIn K mainGlobals "LEFT"=some (some (.int 0 xm8))) (xjj:W.nsIn K mainGlobals "RIGHT"=some (some (.int 1 xmr))) (xhu:W.nsIn K mainGlobals "LOW_fogs"=some (some (.int 2 xkz))) (xhe:W.nsIn K mainGlobals "HIGH_fogs"=some (some (.int 3 xkt))) (xj1:W.nsIn K mainGlobals "FIRST"=some (some (.int 4 xmx))) (xkf:W.nsIn K mainGlobals "LAST"=some (some (.int 5 xm7))) (xjx:W.nsIn K mainGlobals "DRIFT"=some (some (.int 6 xm2))) (xks:W.nsIn K mainGlobals "RISE"=some (some (.int 7 xnc))) (xms:W.nsIn K mainGlobals "TO"=some (some (.int 2 xnx))) (xkr:W.nsIn K mainGlobals "STEP"=some (some (.int 3 xna))) (xf9:W.nsIn K mainGlobals "LOW_reaches"=some (some (.int 0 xjs))) (xfj:W.nsIn K mainGlobals "HIGH_reaches"=some (some (.int 1 xi0))) :
  ∃ fd:FuncData,(∀ (s:Shared) (v:Value),BindsTo s fd ⟨[v],[]⟩ [("script",v)])/\∀ base:Heap,K.In base->base.Ns mainGlobals mg->zN l.prog w K mg base ZS 14 fa fd ["script"] (Z4 K Dp.Oh):=by
 have e:=hfa.symm.trans (W.mg_of X G xly)
 cases e
 have xbt:∀ C,W.nsIn K mainGlobals "Ground"=some (some (.ref C))->YJ K C "corners":=fun C hC=>by
  rw[xcg]at hC;cases hC;exact xfd
 have xh2:=Gg (st:=Mx) xge xgd xf7
 have Kf:=xh2.binds (ps:=["self","corners"]) fun _ _ _ _ _ _ us hl=>by obtain⟨_,_,rfl⟩:=Bm hl;rfl
 have xcc:∀ C,W.nsIn K mainGlobals "Valley"=some (some (.ref C))->YJ K C "ground":=fun C hC=>by
  rw[xae]at hC;cases hC;exact xfk
 have xbr:∀ C,W.nsIn K mainGlobals "Valley"=some (some (.ref C))->YJ K C "beacons":=fun C hC=>by
  rw[xae]at hC;cases hC;exact xfn
 have xdn:∀ C,W.nsIn K mainGlobals "Valley"=some (some (.ref C))->YJ K C "fogs":=fun C hC=>by
  rw[xae]at hC;cases hC;exact xfi
 have xdl:∀ C,W.nsIn K mainGlobals "Valley"=some (some (.ref C))->YJ K C "haze":=fun C hC=>by
  rw[xae]at hC;cases hC;exact xez
 have xcw:∀ C,W.nsIn K mainGlobals "Valley"=some (some (.ref C))->YJ K C "first":=fun C hC=>by
  rw[xae]at hC;cases hC;exact xet
 have xde:∀ C,W.nsIn K mainGlobals "Valley"=some (some (.ref C))->YJ K C "last":=fun C hC=>by
  rw[xae]at hC;cases hC;exact xfm
 have xcy:∀ C,W.nsIn K mainGlobals "Valley"=some (some (.ref C))->YJ K C "delay":=fun C hC=>by
  rw[xae]at hC;cases hC;exact xfo
 have xh3:=Gg (st:=Kq) xga xgb xgc
 have Km:=xh3.binds (ps:=["self","ground","beacons","fogs","haze","first","last","delay"]) fun _ _ _ _ _ _ us hl=>by obtain⟨_,_,_,_,_,_,_,_,rfl⟩:=zxm hl;rfl
 have xnw:=Gg (st:=Rh) xla xl1 xld
 have xa8:∀ C,W.nsIn K mainGlobals "OffGround"=some (some (.ref C))->Tv K C:=fun C h=>by
  rw[xan]at h;cases h;exact Tv.of xhf
 have xa7:∃ C,W.nsIn K mainGlobals "OffGround"=some (some (.ref C))/\mg "OffGround"=some (.ref C):=⟨_,xan,W.mg_of X G xan⟩
 have xbk:∀ C,W.nsIn K mainGlobals "NoBeacon"=some (some (.ref C))->Tv K C:=fun C h=>by
  rw[xao]at h;cases h;exact Tv.of xhx
 have xbj:∃ C,W.nsIn K mainGlobals "NoBeacon"=some (some (.ref C))/\mg "NoBeacon"=some (.ref C):=⟨_,xao,W.mg_of X G xao⟩
 have xep:∃ Cc,mg "ValeError"=some (.ref Cc)/\∀ c C,(["BadGround","OffGround","BadFog","BadName","Twice","TooMany","BadHour","NoBeacon"]:List Str).contains c=true->W.nsIn K mainGlobals c=some (some (.ref C))->W.exmOne K (.ref C) (.ref Cc)=some true:=by
  refine⟨_,W.mg_of X G xhd,fun c C h hn=>?_⟩
  rcases Rv h with rfl|h
  ·rw[xbf]at hn;cases hn;exact xbu
  rcases Rv h with rfl|h
  ·rw[xan]at hn;cases hn;exact xbw
  rcases Rv h with rfl|h
  ·rw[xea]at hn;cases hn;exact xc2
  rcases Rv h with rfl|h
  ·rw[xb0]at hn;cases hn;exact xcp
  rcases Rv h with rfl|h
  ·rw[xe2]at hn;cases hn;exact xdu
  rcases Rv h with rfl|h
  ·rw[xc7]at hn;cases hn;exact xcs
  rcases Rv h with rfl|h
  ·rw[xb1]at hn;cases hn;exact xcr
  rcases Rv h with rfl|h
  ·rw[xao]at hn;cases hn;exact xb2
  cases h
 have xd3:mg "ValueError"=none/\∀ c b C,([("BadGround",true),("OffGround",true),("BadFog",true),("BadName",true),("Twice",true),("TooMany",true),("BadHour",true),("NoBeacon",true)]:List (Str×Bool)).lookup c=some b->W.nsIn K mainGlobals c=some (some (.ref C))->Zy K C/\W.kitOne K (.ref C) (.type "ValueError")=some b:=by
  refine⟨W.mg_none_of X G xgu,fun c b C h hn=>?_⟩
  rcases Zc h with⟨rfl,rfl⟩|h
  ·rw[xbf]at hn;cases hn;exact⟨Zy.of xch,xbg⟩
  rcases Zc h with⟨rfl,rfl⟩|h
  ·rw[xan]at hn;cases hn;exact⟨Zy.of xci,xbi⟩
  rcases Zc h with⟨rfl,rfl⟩|h
  ·rw[xea]at hn;cases hn;exact⟨Zy.of xfb,xcq⟩
  rcases Zc h with⟨rfl,rfl⟩|h
  ·rw[xb0]at hn;cases hn;exact⟨Zy.of xef,xb7⟩
  rcases Zc h with⟨rfl,rfl⟩|h
  ·rw[xe2]at hn;cases hn;exact⟨Zy.of xgr,xdb⟩
  rcases Zc h with⟨rfl,rfl⟩|h
  ·rw[xc7]at hn;cases hn;exact⟨Zy.of xee,xb6⟩
  rcases Zc h with⟨rfl,rfl⟩|h
  ·rw[xb1]at hn;cases hn;exact⟨Zy.of xeg,xcd⟩
  rcases Zc h with⟨rfl,rfl⟩|h
  ·rw[xao]at hn;cases hn;exact⟨Zy.of xdi,xbx⟩
  cases h
 have xf3:∃ Cc,mg "NoBeacon"=some (.ref Cc)/\∀ c b C,([("BadGround",false),("OffGround",false),("BadFog",false),("BadName",false),("Twice",false),("TooMany",false),("BadHour",false),("NoBeacon",true)]:List (Str×Bool)).lookup c=some b->W.nsIn K mainGlobals c=some (some (.ref C))->Zy K C/\W.kitOne K (.ref C) (.ref Cc)=some b:=by
  refine⟨_,W.mg_of X G xao,fun c b C h hn=>?_⟩
  rcases Zc h with⟨rfl,rfl⟩|h
  ·rw[xbf]at hn;cases hn;exact⟨Zy.of xch,xb3⟩
  rcases Zc h with⟨rfl,rfl⟩|h
  ·rw[xan]at hn;cases hn;exact⟨Zy.of xci,xb4⟩
  rcases Zc h with⟨rfl,rfl⟩|h
  ·rw[xea]at hn;cases hn;exact⟨Zy.of xfb,xdo⟩
  rcases Zc h with⟨rfl,rfl⟩|h
  ·rw[xb0]at hn;cases hn;exact⟨Zy.of xef,xc8⟩
  rcases Zc h with⟨rfl,rfl⟩|h
  ·rw[xe2]at hn;cases hn;exact⟨Zy.of xgr,xeb⟩
  rcases Zc h with⟨rfl,rfl⟩|h
  ·rw[xc7]at hn;cases hn;exact⟨Zy.of xee,xc9⟩
  rcases Zc h with⟨rfl,rfl⟩|h
  ·rw[xb1]at hn;cases hn;exact⟨Zy.of xeg,xc5⟩
  rcases Zc h with⟨rfl,rfl⟩|h
  ·rw[xao]at hn;cases hn;exact⟨Zy.of xdi,xcm⟩
  cases h
 have xgg:∃ Cc,mg "BadHour"=some (.ref Cc)/\∀ c b C,([("BadGround",false),("OffGround",false),("BadFog",false),("BadName",false),("Twice",false),("TooMany",false),("BadHour",true),("NoBeacon",false)]:List (Str×Bool)).lookup c=some b->W.nsIn K mainGlobals c=some (some (.ref C))->Zy K C/\W.kitOne K (.ref C) (.ref Cc)=some b:=by
  refine⟨_,W.mg_of X G xb1,fun c b C h hn=>?_⟩
  rcases Zc h with⟨rfl,rfl⟩|h
  ·rw[xbf]at hn;cases hn;exact⟨Zy.of xch,xck⟩
  rcases Zc h with⟨rfl,rfl⟩|h
  ·rw[xan]at hn;cases hn;exact⟨Zy.of xci,xcn⟩
  rcases Zc h with⟨rfl,rfl⟩|h
  ·rw[xea]at hn;cases hn;exact⟨Zy.of xfb,xd8⟩
  rcases Zc h with⟨rfl,rfl⟩|h
  ·rw[xb0]at hn;cases hn;exact⟨Zy.of xef,xdt⟩
  rcases Zc h with⟨rfl,rfl⟩|h
  ·rw[xe2]at hn;cases hn;exact⟨Zy.of xgr,xek⟩
  rcases Zc h with⟨rfl,rfl⟩|h
  ·rw[xc7]at hn;cases hn;exact⟨Zy.of xee,xdr⟩
  rcases Zc h with⟨rfl,rfl⟩|h
  ·rw[xb1]at hn;cases hn;exact⟨Zy.of xeg,xdv⟩
  rcases Zc h with⟨rfl,rfl⟩|h
  ·rw[xao]at hn;cases hn;exact⟨Zy.of xdi,xda⟩
  cases h
 have xgh:∃ Cc,mg "BadName"=some (.ref Cc)/\∀ c b C,([("BadGround",false),("OffGround",false),("BadFog",false),("BadName",true),("Twice",false),("TooMany",false),("BadHour",false),("NoBeacon",false)]:List (Str×Bool)).lookup c=some b->W.nsIn K mainGlobals c=some (some (.ref C))->Zy K C/\W.kitOne K (.ref C) (.ref Cc)=some b:=by
  refine⟨_,W.mg_of X G xb0,fun c b C h hn=>?_⟩
  rcases Zc h with⟨rfl,rfl⟩|h
  ·rw[xbf]at hn;cases hn;exact⟨Zy.of xch,xco⟩
  rcases Zc h with⟨rfl,rfl⟩|h
  ·rw[xan]at hn;cases hn;exact⟨Zy.of xci,xcl⟩
  rcases Zc h with⟨rfl,rfl⟩|h
  ·rw[xea]at hn;cases hn;exact⟨Zy.of xfb,xd9⟩
  rcases Zc h with⟨rfl,rfl⟩|h
  ·rw[xb0]at hn;cases hn;exact⟨Zy.of xef,xdp⟩
  rcases Zc h with⟨rfl,rfl⟩|h
  ·rw[xe2]at hn;cases hn;exact⟨Zy.of xgr,xem⟩
  rcases Zc h with⟨rfl,rfl⟩|h
  ·rw[xc7]at hn;cases hn;exact⟨Zy.of xee,xds⟩
  rcases Zc h with⟨rfl,rfl⟩|h
  ·rw[xb1]at hn;cases hn;exact⟨Zy.of xeg,xdq⟩
  rcases Zc h with⟨rfl,rfl⟩|h
  ·rw[xao]at hn;cases hn;exact⟨Zy.of xdi,xc4⟩
  cases h
 have xq:=W.mg_none_of X G xll
 have xcj:=W.mg_none_of X G xj2
 have xaf:=W.mg_none_of X G xhb
 have xbv:=W.mg_none_of X G xkl
 have xbm:=W.mg_none_of X G xlc
 have xkd:=W.mg_none_of X G xlj
 have xkc:=W.mg_none_of X G xlp
 have xke:=W.mg_none_of X G xls
 have xu:=W.mg_none_of X G xgt
 have xjb:=W.mg_none_of X G xkp
 have xaq:=W.mg_none_of X G xjg
 have xam:=W.mg_none_of X G xl0
 have xad:=W.mg_none_of X G xlr
 have xhz:=W.mg_none_of X G xir
 have xj9:=W.mg_none_of X G xk8
 have xct:∃ t,mg "LEAST_CORNERS"=some (.int 2 t):=⟨_,W.mg_of X G xeq⟩
 have xdd:∃ t,mg "MOST_CORNERS"=some (.int 40 t):=⟨_,W.mg_of X G xfl⟩
 have xdf:∃ t,mg "MOST_BEACONS"=some (.int 12 t):=⟨_,W.mg_of X G xe5⟩
 have xfv:∃ t,mg "MOST_FOGS"=some (.int 12 t):=⟨_,W.mg_of X G xhc⟩
 have xdh:∃ t,mg "MOST_LETTERS"=some (.int 8 t):=⟨_,W.mg_of X G xeu⟩
 have xgy:∃ t,mg "LETTERS"=some (.str "abcdefghijklmnopqrstuvwxyz" t):=⟨_,W.mg_of X G xia⟩
 have xgz:∃ t,mg "NUMBERS"=some (.int 8 t):=⟨_,W.mg_of X G xh8⟩
 have xcf:∃ t,mg "LEFT"=some (.int 0 t):=⟨_,W.mg_of X G xkq⟩
 have xa9:∃ t,mg "RIGHT"=some (.int 1 t):=⟨_,W.mg_of X G xjj⟩
 have xak:∃ t,mg "LOW_fogs"=some (.int 2 t):=⟨_,W.mg_of X G xhu⟩
 have xai:∃ t,mg "HIGH_fogs"=some (.int 3 t):=⟨_,W.mg_of X G xhe⟩
 have xdj:∃ t,mg "FIRST"=some (.int 4 t):=⟨_,W.mg_of X G xj1⟩
 have xgs:∃ t,mg "LAST"=some (.int 5 t):=⟨_,W.mg_of X G xkf⟩
 have xic:∃ t,mg "DRIFT"=some (.int 6 t):=⟨_,W.mg_of X G xjx⟩
 have xi7:∃ t,mg "RISE"=some (.int 7 t):=⟨_,W.mg_of X G xks⟩
 have xd7:∃ t,mg "TO"=some (.int 2 t):=⟨_,W.mg_of X G xms⟩
 have xav:∃ t,mg "STEP"=some (.int 3 t):=⟨_,W.mg_of X G xkr⟩
 have xr:∃ t,mg "LOW_reaches"=some (.int 0 t):=⟨_,W.mg_of X G xf9⟩
 have xg:∃ t,mg "HIGH_reaches"=some (.int 1 t):=⟨_,W.mg_of X G xfj⟩
 refine⟨W.fnOf "law" "law" (Vh Rh) (Xh Rh) (zY Rh) .none xmb xmi xmc xl6 xkm xmq,fun s v=>.of_eq rfl,fun base _ _=>?_⟩
 have xar:=zR l.prog w base X G xdy (zjz xq xdy.F)
 have xa4:=zR l.prog w base X G xfz (zkS xfz.F)
 have xfs:=zR l.prog w base X G xft (zln xa4 xcj xaf xft.F)
 have xd2:=zR l.prog w base X G xd1 (zjf xaf xd1.F)
 have xgn:=zR l.prog w base X G xgf (zmw xa4 xgf.F)
 have xf2:=zR l.prog w base X G xfq (zlM xar xfs xd2 xgn xfq.F)
 have xa0:=zR l.prog w base X G xa3 (zfp xq xcj xct xdd xa3.F)
 have xec:Ou l.prog w K mg base 2 "Ground" (Z4 K Dp.Hh):=⟨⟨_,_,_,_,_,⟨xe8,xes,xew,xe4⟩,zju xa0 xbt xbv xh2,Kf,W.mg_of X G xcg,yF ⟨xev,xe9,xex,xey⟩ xcg⟩⟩
 have xay:=zR l.prog w base X G xaz (iI xq xdf xfv xaz.F)
 have xgv:=zR l.prog w base X G xgx (znE xq xdh xgy xbm xgx.F)
 have xbd:=zR l.prog w base X G xbc (zgg xq xbm xgv xkd xbc.F)
 have xc6:=zR l.prog w base X G xi2 (ztz xi2.F)
 have xe6:=zR l.prog w base X G xih (zrL xc6 xih.F)
 have xcb:=zR l.prog w base X G xb8 (zhD xkc xb8.F)
 have xgl:=zR l.prog w base X G xgm (jr xcb xgm.F)
 have xfr:=zR l.prog w base X G xfu (zlI xgl xfu.F)
 have xf4:=RX l.prog w base X G xfw (zmc xc6 xe6 xfr xa8 xa7 xfw.F)
 have xd5:=zR l.prog w base X G xhn (zpm xc6 xe6 xf4 xhn.F)
 have xbo:=zR l.prog w base X G xbp (zgm xbm xd5 xbp.F)
 have xgi:=zR l.prog w base X G xgq (zmv xke xu xjb xgq.F)
 have xh0:=zR l.prog w base X G xhp (zoV xq xbm xu xgi xgz xcf xa9 xak xai xdj xgs xaq xhp.F)
 have xbq:=zR l.prog w base X G xbn (zgs xbm xh0 xbn.F)
 have xba:=zR l.prog w base X G xbe (zge xbe.F)
 have xhv:Ou l.prog w K mg base 7 "Valley" (Z4 K Dp.Df):=⟨⟨_,_,_,_,_,⟨xfp,xe1,xe7,xfe⟩,kj xbv xec xay xbd xbo xbq xba xcc xbr xdn xdl xcw xde xcy xh3,Km,W.mg_of X G xae,yF ⟨xfa,xfc,xfg,xfh⟩ xae⟩⟩
 have xen:=zR l.prog w base X G xeo (zkv xec xhv xeo.F)
 have xab:=zR l.prog w base X G xgk (zmo xgk.F)
 have xf5:=RX l.prog w base X G xha (znC xbk xbj xha.F)
 have xal:=RX l.prog w base X G xax (zfh xa8 xa7 xd5 xax.F)
 have xbl:=zR l.prog w base X G xbs (zgR xaf xam xad xbs.F)
 have xgw:=zR l.prog w base X G xg6 (zok xg6.F)
 have xho:=RX l.prog w base X G xhw (zo1 xal xbl xgw xhw.F)
 have xce:=zR l.prog w base X G xb5 (zhC xb5.F)
 have xcv:=zR l.prog w base X G xcz (zii xho xce xcz.F)
 have xhl:=zR l.prog w base X G xii (zrV xcf xa9 xak xai xic xi7 xii.F)
 have xf6:=zR l.prog w base X G xg1 (zoj xcf xa9 xak xai xam xad xg1.F)
 have xby:=zR l.prog w base X G xja (zul xq xaq xad xhz xja.F)
 have xif:=zR l.prog w base X G xig (zrQ xdj xgs xam xad xhl xf6 xby xj9 xig.F)
 have xfx:=zR l.prog w base X G xfy (zkX xby xif xfy.F)
 have xjc:=zR l.prog w base X G xi1 (jo xby xi1.F)
 have xi9:=zR l.prog w base X G xi8 (zsR xam xad xby xi8.F)
 have xg4:=zR l.prog w base X G xg5 (znF xq xjc xi9 xg5.F)
 have xie:=RX l.prog w base X G xid (zrz xf5 xcv xfx xg4 xid.F)
 have xat:=zR l.prog w base X G xka (zvF xd7 xav xr xka.F)
 have xdc:=zR l.prog w base X G xdk (ziv xd7 xr xat xg xdk.F)
 have xd6:=zR l.prog w base X G xhy (zpr xat xg xhy.F)
 have xdx:=zR l.prog w base X G xkb (zwx xq xd7 xr xdc xd6 xkb.F)
 have xca:=zR l.prog w base X G xgj (zmr xaq xad xdx xgj.F)
 have xb9:=zR l.prog w base X G xgp (jA xab xie xca xgp.F)
 have xg8:=zR l.prog w base X G xg2 (znw xca xg2.F)
 have xeh:=zR l.prog w base X G xej (jH xam xad xd7 xav xr xat xg xd6 xdx xej.F)
 have xhs:=zR l.prog w base X G xhr (gB xaq xeh xhr.F)
 have xas:=zR l.prog w base X G xg3 (znO xav xat xdx xg3.F)
 have xbz:=zR l.prog w base X G xdm (zi9 xam xad xat xas xdm.F)
 have xel:=zR l.prog w base X G xer (zkw xav xat xas xbz xer.F)
 have xg9:=zR l.prog w base X G xg7 (zop xq xaq xam xad xr xg xas xel xg7.F)
 have xap:=zR l.prog w base X G xc1 (zh8 xq xab xg8 xhs xg9 xc1.F)
 have xei:=zR l.prog w base X G xgo (zml xab xb9 xap xgo.F)
 have xaw:=RX l.prog w base X G xbb (zgi xab xbk xbj xbb.F)
 have xa6:=RX l.prog w base X G xg0 (iY xab xb9 xap xaw xg0.F)
 have xcx:=RX l.prog w base X G xcu (zik xq xa6 xcu.F)
 have xd0:=zR l.prog w base X G xdz (zjr xu xa6 xcx xep xd3 xf3 xgg xgh xdz.F)
 exact zwq xq xar xcj xaf xf2 xbv xu xen xei xa6 xd0 xnw
def walk {l:W.OpenLaw}{q:Program}{loose:List Str}{XP:(Str->Option Value)->Heap->Prop}{YP:World->Heap->Prop}{d:DefRec}{K:Params->W.Frag}(hn:l.most=some 63)(hdf:d.params.defaults=[])
  (hY:∀ (w:World) (h:Heap),YP w h->(K w.params).In h)
  (F:∀ (w:World) (mg:Str->Option Value) (fa:Addr) (h:Heap),(K w.params).In h->h.Ns mainGlobals mg->mg d.name=some (.ref fa) ->
   ∃ fd:FuncData,(∀ (s:Shared) (u:Value),BindsTo s fd ⟨[u],[]⟩ [("script",u)])/\∀ base:Heap,(K w.params).In base->base.Ns mainGlobals mg->zN l.prog w (K w.params) mg base ZS 14 fa fd ["script"] (Z4 (K w.params) Dp.Oh)) :
  W.WalkO q loose XP YP l.row.toRowW d [] (fun f vs=>PySem.call f vs) :=
 Dp.zr0 (n:=63) (k:=14) (x:="script") (sp:=fun w=>Z4 (K w.params) Dp.Oh) hn (by decide) hdf ⟨rfl,by decide,by decide⟩ hY F fun _ _ _ _ hl hg hO hS=>zvw hl hg hO hS
end Law
local macro_rules | `(tactic| walk_at"fh")=>`(tactic| (refine' Dp.zyd ?fa ?fl ?fc ?fk;(case fa=>k_is);(case fl=>k_is);(case fc=>k_is);(case fk=>k_is)))
open PySem PySem.W PyProof.Rows
namespace PySem.W.Fast
def tw7883581989387899511:=Prop
def tw11009093273560092938:=Prop
def tw16994060192146585702:=Prop
def tw4402503499239838536:=Prop
def tw7538261798455253071:=Prop
def tw12298243379153734846:=Prop
def tw13164679150364896461:=Prop
def tw14297069819607430603:=Prop
def tw16017634801461169904:=Prop
def tw17033041915190670335:=Prop
def tw11452564343370163539:=Prop
def tw12832211900790643003:=Prop
def tw10633552174001540116:=Prop
def tw3088499735773471584:=Prop
def tw776786590826499397:=Prop
def tw14561138839695783601:=Prop
def tw6587271374575436765:=Prop
def tw15730205676648243483:=Prop
def tw13251856814367129929:=Prop
def tw12584289689035405933:=Prop
def tw8776207687117062261:=Prop
def tw18389575304201285850:=Prop
def tw6723393892364187208:=Prop
def tw6888267399139175443:=Prop
def tw17936722333880318451:=Prop
def tw13466570480133485181:=Prop
def tw5582412806011813133:=Prop
def tw2927810138391488659:=Prop
def tw894895269162952974:=Prop
def tw7159160461035099183:=Prop
def tw12812696846633145270:=Prop
def tw642104070991051180:=Prop
def tw7483397830723158270:=Prop
def tw8977716203821122035:=Prop
def tw16000285678502926466:=Prop
def tw5315605806938463920:=Prop
def tw9294189829463429702:=Prop
def tw2568596699395393242:=Prop
def tw6734820643737154976:=Prop
def tw2012444896938707283:=Prop
def tw15210268536505298605:=Prop
def tw10817448266775566597:=Prop
def tw3973140347506504619:=Prop
def tw8861381760717115684:=Prop
def tw7919606415706066068:=Prop
def tw4224246284117792107:=Prop
def tw411581767977087348:=Prop
def tw15215785724760098407:=Prop
def tw13511784158287206660:=Prop
def tw2715654796791036817:=Prop
def tw9487518074152633986:=Prop
def tw5468693078865079096:=Prop
def tw9127345207358909191:=Prop
def tw11976573648190937543:=Prop
def tw15402413946471859256:=Prop
def tw14326071528700730879:=Prop
def tw8473691422810849860:=Prop
def tw2690795459535720021:=Prop
def tw14035402280826243235:=Prop
def tw18025498578082862147:=Prop
def tw8471748970603312575:=Prop
def tw3557900083555298143:=Prop
def tw9128329570207869732:=Prop
def tw16113724871603697351:=Prop
def tw2465156389891155687:=Prop
def tw8180929483341066626:=Prop
def tw7770027309043869437:=Prop
def tw17462865275081895100:=Prop
def tw15291956561096829998:=Prop
def tw16308927154108224342:=Prop
def tw13815328565818966750:=Prop
def tw3520965682643783442:=Prop
def tw5298828422598047046:=Prop
def tw13397311805991346728:=Prop
def tw7975232436814988343:=Prop
def tw15405974884855734740:=Prop
def tw10245280948284611949:=Prop
def tw18077736506592351090:=Prop
def tw11269530907690373470:=Prop
def tw1795161715655423626:=Prop
def tw11871014489963420800:=Prop
def tw11230216433708534708:=Prop
def tw6965959149508814383:=Prop
def tw10772675570890371206:=Prop
def tw1139340384896962493:=Prop
def tw8162353613940909359:=Prop
def tw16684299128333151571:=Prop
def tw14796633913463970324:=Prop
def tw12039134840808541249:=Prop
def tw9788037876206152048:=Prop
def tw16585906266832872616:=Prop
def tw2603760605351095402:=Prop
def tw9250000173416426375:=Prop
def tw1737155022398270465:=Prop
def tw8711873930312854185:=Prop
def tw7644357349083716152:=Prop
def tw7323410747832819166:=Prop
def tw8412549739772388592:=Prop
def tw10863415879818662349:=Prop
def tw4799225312856429236:=Prop
def tw6400298252829661829:=Prop
def tw10331139922504307255:=Prop
def tw6198669573027957289:=Prop
def tw13683470280544221622:=Prop
def tw886154984669392144:=Prop
def tw10005174527987018667:=Prop
def tw16354750081174667019:=Prop
def tw16436049812996338286:=Prop
def tw964755004712668447:=Prop
def tw9873456872787335923:=Prop
def tw8971390782816179841:=Prop
def tw5540439138111042487:=Prop
def tw7207118405538845653:=Prop
def tw218717640679782734:=Prop
def tw13838641844653704872:=Prop
def tw327897452318367535:=Prop
def tw3746747661242411042:=Prop
def tw16012914110925866898:=Prop
def tw2448387734362951693:=Prop
def tw5054104739923480628:=Prop
def tw1291645385894003082:=Prop
def tw10169419211418676140:=Prop
def tw4577001004226585875:=Prop
def tw2565141122273114030:=Prop
def tw17570081237001333429:=Prop
def tw15856267484549576946:=Prop
def tw4598472682530630501:=Prop
def tw6112898835939873548:=Prop
def tw7711614190549521882:=Prop
def tw13697715584614790830:=Prop
def tw4729153125516427587:=Prop
def tw13862735090095956253:=Prop
def tw15841744626965773628:=Prop
def tw2112810085660229838:=Prop
def tw13034238974226897687:=Prop
def tw14732260084340406765:=Prop
def tw11573820097840107818:=Prop
def tw4994959049987385285:=Prop
def tw16491532384421169208:=Prop
def tw3419040224524219949:=Prop
def tw7216361395635920650:=Prop
def tw16130345713684702431:=Prop
def tw1394812052369533888:=Prop
def tw1835228915741958080:=Prop
def tw14406019385578351409:=Prop
def tw10776808197130373465:=Prop
def tw11789809738016219185:=Prop
def tw3879186096216850870:=Prop
def tw6231954389264727931:=Prop
def tw17839472477569994606:=Prop
def tw6464007829853744599:=Prop
def tw16433405281935510314:=Prop
def tw17910699392669474682:=Prop
def tw6569350053218391224:=Prop
def tw11958730753319895946:=Prop
def tw15408876942902145704:=Prop
def tw17099743553741927815:=Prop
def tw6701818281550410092:=Prop
def tw14994141630709563872:=Prop
def tw6115597397176567690:=Prop
def tw15290273797989373148:=Prop
def tw852003976920466202:=Prop
def tw3330524570523064409:=Prop
def tw17033005103338301950:=Prop
def tw15697118643126789290:=Prop
def tw18286197081850909767:=Prop
def tw13377191715161080151:=Prop
def tw17606388277476033906:=Prop
def tw3205432177904090015:=Prop
def tw13253225541403220110:=Prop
end PySem.W.Fast
set_option maxRecDepth 100000 in
set_option maxHeartbeats 0 in
theorem PySem.Challenge.cw_beaconvale_k72_all_hearings_holds : PySem.Challenge.rw_beaconvale_k72_all_hearings.Holds := by
 w_on; o_law; k_head; (case hw => w_witness2)
 k_fill
 refine Law.walk (l := PySem.Challenge.rw_beaconvale_k72_all_hearings) rfl rfl (fun w h Y => PySem.W.kIn_of Y) ?F
 case F =>
  intro w mg fa h KX G hmg
  refine' Law.all_mk KX G hmg ?ae ?af ?ah ?ai ?aj ?ak ?ao ?aq ?aw ?ax ?ay ?aA ?aB ?aC ?aD ?aE ?aF ?aG ?aH ?aI ?aJ ?aK ?aL ?aM ?aN ?aO ?aP ?aQ ?aR ?aS ?aT ?aU ?aV ?aW ?aX ?aY ?aZ ?a8 ?a9 ?be ?bf ?bh ?bi ?bp ?bq ?br ?bu ?bv ?bw ?bx ?bA ?bC ?bD ?bE ?bF ?bG ?bH ?bI ?bJ ?bK ?bM ?bN ?bO ?bP ?bQ ?bS ?bU ?bV ?bW ?bX ?bY ?bZ ?b7 ?b8 ?cc ?ce ?cf ?cg ?cj ?ck ?cm ?cq ?cr ?cu ?cx ?cy ?cz ?cA ?cB ?cC ?cD ?cE ?cF ?cG ?cH ?cI ?cJ ?cK ?cL ?cM ?cN ?cO ?cP ?cQ ?cR ?cS ?cT ?cU ?cV ?cW ?cX ?cY ?cZ ?c6 ?c7 ?c8 ?c9 ?dc ?de ?df ?dg ?dh ?di ?dj ?dm ?dn ?dq ?du ?dv ?dw ?dz ?dA ?dD ?dE ?dF ?dG ?dH ?dI ?dJ ?dL ?dN ?dO ?dP ?dQ ?dR ?dS ?dU ?dW ?dX ?dY ?dZ ?d7 ?d8 ?d9 ?eh ?eA ?eB ?eC ?eD ?eE ?eF ?eG ?eI ?eJ ?eK ?eL ?eM ?eN ?eO ?eP ?eQ ?eR ?eT ?eU ?eV ?eW ?eX ?eY ?eZ ?e9 ?fi ?fo ?fq ?fu ?fw ?fA ?fB ?fC ?fD
  case cI|cJ|cL|cO|cQ|cS|cU|cW|cY|aq|aY|aB|bf=>k_is
  case ae|af|ah|ai|aj|ak|ao=>walk_at "fh"
  case aw|ax|ay|aA|aC|aD|aE|aF|aG|aH|aI=>k_is
  case aJ|aK|aL|aM|aN|aO|aP|aQ|aR|aS|aT|aU|aV|aW|aX=>walk_at "fh"
  case aZ|a8|a9|be|bh|bi|bp|bq|br|bu|bv|bw|bx|bA|bC|bD|bE=>k_is
  case bF|bG|bH|bI|bJ|bK|bM|bN|bO|bP|bQ|bS|bU|bV|bW|bX|bY|bZ|b7|b8|cc|ce|cf|cg|cj|ck|cm|cq|cr|cu|cx|cy|cz|cA|cB|cC|cD=>walk_at "fh"
  case cE|cF|cG|cH=>k_is
  case cK|cM|cN|cP|cR|cT|cV|cX|cZ|c6|c7|c8|c9|dc|de|df|dg|dh|di|dj|dm|dn|dq|du|dv|dw|dz|dA|dD|dE|dF|dG|dH|dI|dJ|dL|dN|dO|dP|dQ|dR|dS|dU|dW|dX|dY|dZ|d7|d8|d9=>kernel_rfl
  case eh|eA|eB|eC|eD|eE|eF|eG|eI|eJ|eK|eL|eM|eN|eO|eP|eQ|eR|eT|eU|eV|eW|eX|eY|eZ|e9|fi|fo|fq|fu|fw|fA|fB|fC|fD=>k_is
#print axioms PySem.Challenge.cw_beaconvale_k72_all_hearings_holds
