import PyProof.Rows.All
import Wide.All
import OpenK.AllK
import Wide.FinOn
import Lean
import PyProof.EqAt
import PyProof.EqKinds
import PyProof.TupleCall
import PyProof.NeData
import PyProof.P3Eq
import PyProof.StrLawsIn
import PyProof.StrLawsJoin
import PyProof.StrBlockL
import PyProof.Rows.StrSplitCount
import PySem.Challenge.RW_beaconvale_k74_first_unheard
set_option Elab.async false
set_option linter.all false
set_option maxRecDepth 100000
set_option maxHeartbeats 4000000
set_option Elab.async false
set_option linter.all false
set_option maxRecDepth 100000
def qb:=@List.length_map
def qc:=@List.getElem?_eq_getElem
def qd:=@PySem.Heap.get?_push_of_some
def qe:=@List.mem_of_getElem?
def qf:=@Nat.le_refl
def qg:=@List.mem_cons
def qh:=@List.length_append
def qi:=@List.getElem?_append_right
def qj:=@List.getElem?_map
def qk:=@List.getElem?_append_left
def qm:=@List.size_toArray
def qo:=@List.lookup_cons
def qp:=@Bool.false_ne_true
def qq:=@PySem.Heap.lt_size
def qr:=@Int.le_refl
def qu:=@List.append_assoc
def qv:=@List.getElem?_eq_none
def qw:=@Option.some.inj
def qA:=@List.map_append
def qB:=@List.mem_cons_of_mem
def qC:=@List.getD_eq_getElem?_getD
def qD:=@Nat.lt_of_lt_of_le
def qE:=@List.map_cons
def qF:=@List.not_mem_nil
def qG:=@Bool.and_eq_true
def qH:=@List.length_replicate
def qI:=@List.getElem?_set_self
def qJ:=@List.mem_append
def qK:=@Nat.ne_of_lt
def qL:=@Nat.lt_or_ge
def qM:=@List.pairwise_cons
def qN:=@Array.length_toList
def qO:=@List.length_cons
def qP:=@Nat.zero_le
def qQ:=@List.getElem?_set_ne
def qR:=@List.getElem?_eq_some_iff
def qS:=@List.mem_iff_getElem
def qT:=@List.map_map
def qU:=@List.append_nil
def qV:=@List.mem_append_right
def qW:=@List.mem_map
def qX:=@List.mem_filter
def qY:=@Nat.le_trans
def qZ:=@PySem.Heap.size_push
def Vy:=@List.length_take
def VB:=@List.all_eq_true
def Wx:=@Nat.lt_irrefl
def RK:=@List.length_eq_zero_iff
def Px:=@List.pairwise_iff_getElem
def PB:=@List.getLast?_eq_none_iff
def TQ:=@List.mem_filterMap
def Qk:=@List.filter_cons_of_pos
def Qh:=@List.filter_cons_of_neg
def Uz:=@List.getElem_map
def WR:=@Int.mul_one
def Tv:=@List.length_range
def QW:=@PySem.Heap.get?_update_other
def Qy:=@Array.getElem?_toList
def V7:=@Nat.sub_self
def QB:=@List.length_filter_le
def T6:=@List.take_length
def Va:=@List.all_cons
def Vr:=@Nat.ne_of_gt
def Vg:=@Int.mul_comm
def T7:=@List.length_set
def Qs:=@List.getD_cons_zero
def PL:=@List.getD_cons_succ
def R6:=@List.length_drop
def Qq:=@List.mem_cons_self
def qaz:=@Nat.le_of_ble_eq_true
def Py:=@List.filter_append
def qaB:=@List.mem_append_left
def qaC:=@Option.isSome_iff_exists
def Rh:=@Bool.eq_iff_iff
def R5:=@Int.emod_nonneg
def Ud:=@Int.mul_zero
def qaG:=@List.getElem?_replicate
def P0:=@Nat.le_of_not_lt
def qaI:=@List.head?_eq_getElem?
def qaJ:=@List.dropLast_concat_getLast
def qaK:=@Int.emod_lt_of_pos
def PX:=@List.nodup_cons
def qaM:=@List.getElem?_toArray
def qaN:=@List.set_append_right
def SX:=@List.all_map
def R4:=@List.any_cons
def qaQ:=@List.getLast?_concat
def qaR:=@PySem.Heap.get?_update_self
def Pb:=@Nat.le_add_right
def qaT:=@List.filter_cons
def qaU:=@List.prefix_refl
def Pa:=@PySem.Heap.get?_push_ne
def qaW:=@List.getElem?_take_of_lt
def qaX:=@Nat.eq_zero_or_pos
def qaY:=@Bool.false_eq_true
def qaZ:=@List.lookup_append
def qa0:=@Nat.add_sub_cancel_left
def qa1:=@List.prefix_append
def qa2:=@List.any_append
def Pg:=@Bool.or_eq_true
def qa4:=@List.mem_singleton
def RZ:=@Nat.le_succ
def qa6:=@Nat.lt_succ_of_lt
def qa7:=@List.nodup_append
def Pq:=@Nat.le_of_lt
def Qn:=@Int.lt_or_le
def Pk:=@Int.le_of_lt
def qbb:=@Int.mul_le_mul_of_nonneg_right
def qbc:=@Nat.lt_succ_self
def qbd:=@List.filterMap_cons
def QM:=@Int.neg_neg
def qbf:=@Option.map_some
def qbg:=@Array.Perm.refl
def qbh:=@List.getElem?_range
def qbi:=@List.filter_sublist
def qbj:=@Nat.not_lt_zero
def qbk:=@PySem.Heap.size_update
def qbl:=@List.map_nil
def qbm:=@Nat.lt_of_le_of_lt
def qbn:=@Nat.zero_add
def qbo:=@List.getLast?_eq_getElem?
def qbp:=@Nat.mul_le_mul
def qbq:=@List.flatMap_cons
def qbr:=@Bool.or_false
def O2:=@Int.neg_mul
def qbt:=@Int.mul_neg
def qbu:=@Int.sub_mul
def qbv:=@Int.mul_pos
def qbw:=@List.getElem_inj
def qbx:=@List.filter_eq_nil_iff
def qby:=@Int.le_ediv_iff_mul_le
def qbz:=@List.take_of_length_le
def qbA:=@List.range_succ
def qbB:=@Bool.decide_and
namespace L2
open PySem PySem.Spec PyProof.Rows
abbrev Key:=Sum Int Str
def zhf:Key->Value->Bool
 |.inl k,v=>Value.isInt k v
 |.inr x,v=>Value.isStrOf x v
def zyx (w:World):Key->Int
 |.inl k=>hashInt k
 |.inr x=>hashStr w x
theorem Tj:∀ {k:Key} {v:Value},zhf k v=true->(∃ i t,k=Sum.inl i/\v=Value.int i t)\/(∃ x t,k=Sum.inr x/\v=Value.str x t)
 |.inl i,v,h=>by
  obtain⟨t,e⟩:=Value.isInt_shape (k:=i) (v:=v) h
  exact .inl ⟨i,t,rfl,e⟩
 |.inr x,v,h=>by
  obtain⟨t,e⟩:=Value.isStrOf_shape (x:=x) (v:=v) h
  exact .inr ⟨x,t,rfl,e⟩
def zoW (i:Int)(t:Tok):zhf (.inl i) (.int i t)=true:=by simp[zhf,Value.isInt]
def zp9 (x:Str)(t:Tok):zhf (.inr x) (.str x t)=true:=by simp[zhf,Value.isStrOf]
def zva (a b:Int):decide ((Sum.inl a:Key)=Sum.inl b)=(a==b):=by
 by_cases e:a=b
 ·subst e;simp
 ·have h:¬ (Sum.inl a:Key)=Sum.inl b:=fun q=>e (Sum.inl.inj q)
  rw[decide_eq_false h]
  exact(beq_eq_false_iff_ne.mpr e).symm
def zwG (a b:Str):decide ((Sum.inr a:Key)=Sum.inr b)=decide (a=b):=by
 by_cases e:a=b
 ·subst e;simp
 ·have h:¬ (Sum.inr a:Key)=Sum.inr b:=fun q=>e (Sum.inr.inj q)
  rw[decide_eq_false h,decide_eq_false e]
def zuS (a:Int)(b:Str):decide ((Sum.inl a:Key)=Sum.inr b)=false:=decide_eq_false (fun q=>nomatch q)
def zwk (a:Str)(b:Int):decide ((Sum.inr a:Key)=Sum.inl b)=false:=decide_eq_false (fun q=>nomatch q)
def V3 (prog:Program)(w:World):PySem.KeyKind prog w Key where
  is:=zhf
  hash:=zyx w
  inj:=fun v a b ha hb=>by
    rcases Tj ha with⟨i,t,rfl,rfl⟩|⟨x,t,rfl,rfl⟩
    . rcases Tj hb with⟨j,u,rfl,e⟩|⟨y,u,rfl,e⟩
      . injection e with e1 _;rw[e1]
      . exact nomatch e
    . rcases Tj hb with⟨j,u,rfl,e⟩|⟨y,u,rfl,e⟩
      . exact nomatch e
      . injection e with e1 _;rw[e1]
  byValue:=fun k v h=>by
    rcases Tj h with⟨i,t,rfl,rfl⟩|⟨x,t,rfl,rfl⟩<;>rfl
  pyHash:=fun hv h=>by
    rcases Tj hv with⟨i,t,rfl,rfl⟩|⟨x,t,rfl,rfl⟩
    . exact wpAny_pyHash_int h
    . exact wpAny_pyHash_str h
  eqBool:=fun hu hv h=>by
    rcases Tj hu with⟨i,t,rfl,rfl⟩|⟨x,t,rfl,rfl⟩
    . rcases Tj hv with⟨j,u,rfl,rfl⟩|⟨y,u,rfl,rfl⟩
      . rw[zva]at h;exact wpAny_eqBool_int h
      . rw[zuS]at h;exact SeqAt.EqAt.int_str i t y u _ _ _ _ h
    . rcases Tj hv with⟨j,u,rfl,rfl⟩|⟨y,u,rfl,rfl⟩
      . rw[zwk]at h;exact SeqAt.EqAt.str_int x t j u _ _ _ _ h
      . rw[zwG]at h;exact wpAny_eqBool_str h
  «strs»:=fun k x t v h=>by
    rcases Tj h with⟨i,u,rfl,e⟩|⟨y,u,rfl,e⟩
    . exact nomatch e
    . injection e with e1 _
      subst e1
      cases v<;>rfl
def zmE (prog:Program)(w:World)(i:Int)(t:Tok):(V3 prog w).is (.inl i) (.int i t)=true:=zoW i t
def zmo (prog:Program)(w:World)(x:Str)(t:Tok):(V3 prog w).is (.inr x) (.str x t)=true:=zp9 x t
inductive V where
 |non|bl (b:Bool)|int (i:Int)|str (x:Str)|byt (b:Array UInt8)|flt (b:UInt64)|ref (a:Addr)|ty (n:String)
 deriving DecidableEq
def RelV:V->Value->Prop
 |.non,u=>u=Value.none
 |.bl b,u=>u=Value.bool b
 |.int i,u=>∃ t,u=Value.int i t
 |.str x,u=>∃ t,u=Value.str x t
 |.byt b,u=>∃ t,u=Value.bytes b t
 |.flt b,u=>∃ t,u=Value.float b t
 |.ref a,u=>u=Value.ref a
 |.ty n,u=>u=Value.type n
abbrev Vals:List V->List Value->Prop:=Paired RelV
theorem Vals.length {xs:List V}{us:List Value}(r:Vals xs us):xs.length=us.length:=Paired.length r
theorem Vals.get:∀ {xs:List V} {us:List Value} {i:Nat} {x:V},Vals xs us->xs[i]?=some x->∃ u,us[i]?=some u/\RelV x u
 |_,_,_,_,.nil,e=>by simp at e
 |_,_,0,_,.cons r _,e=>by simp at e;subst e;exact⟨_,rfl,r⟩
 |_,_,i+1,x,.cons _ t,e=>by
  obtain⟨u,h1,h2⟩:=Vals.get (i:=i) (x:=x) t (by simpa using e)
  exact⟨u,by simpa using h1,h2⟩
theorem Vals.set {x:V}{u:Value}(r:RelV x u):∀ {xs:List V} {us:List Value} (i:Nat),Vals xs us->Vals (xs.set i x) (us.set i u)
 |_,_,_,.nil=>.nil
 |_,_,0,.cons _ t=>.cons r t
 |_,_,i+1,.cons q t=>.cons q (Vals.set r i t)
theorem Vals.append:∀ {xs ys:List V} {us ws:List Value},Vals xs us->Vals ys ws->Vals (xs++ys) (us++ws)
 |_,_,_,_,.nil,s=>s
 |_,_,_,_,.cons r t,s=>.cons r (Vals.append t s)
theorem Vals.take:∀ {xs:List V} {us:List Value} (n:Nat),Vals xs us->Vals (xs.take n) (us.take n)
 |_,_,0,_=>.nil
 |_,_,_+1,.nil=>.nil
 |_,_,n+1,.cons r t=>.cons r (Vals.take n t)
theorem Vals.drop:∀ {xs:List V} {us:List Value} (n:Nat),Vals xs us->Vals (xs.drop n) (us.drop n)
 |_,_,0,r=>r
 |_,_,_+1,.nil=>.nil
 |_,_,n+1,.cons _ t=>Vals.drop n t
def VJ:Option V->Option Value->Prop
 |some v,some u=>RelV v u
 |none,none=>True
 |_,_=>False
def KV {κ:Type}:List (κ×V)->List (κ×Value)->Prop:=Paired fun (p:κ×V) (q:κ×Value)=>p.1=q.1/\RelV p.2 q.2
def kV:Key->V
 |.inl i=>.int i
 |.inr x=>.str x
inductive HO where
 |lst (xs:List V)
 |tup (xs:List V)
 |dK (Z6:List (Key×V))|dT (Z6:List (List Key×V))
 |set (S:Int->Bool) (n:Nat)
 |ins (C dx:Addr) (fs:List (Str×V))
 |own (x:Addr)
 |xd (fs:List (Str×V))
 |met (f x:Addr)
 |rng (lo hi:Int)
 |frz (o:Obj) (u:HO)
 |tbl (ps:Array Value)
 |ext (φ:Heap->Prop)
abbrev Hp:=Addr->Option HO
def upd (H:Hp)(a:Addr)(o:HO):Hp:=fun b=>if b=a then some o else H b
def Xy {H:Hp}{a:Addr}{o:HO}:upd H a o a=some o:=by unfold upd;rw[if_pos rfl]
def zR {H:Hp}{a b:Addr}{o:HO}(h:b≠a):upd H a o b=H b:=by unfold upd;rw[if_neg h]
def TF {H:Hp}{a b:Addr}{o u:HO}(h:H a=some o)(h':H b=some u)(d:o≠u):a≠b:=by
 intro e;subst e;rw[h]at h';exact d (qw h')
def Td {H:Hp}{a b:Addr}{o:HO}(h:H a=some o)(h':H b=none):a≠b:=by
 intro e;subst e;rw[h]at h';cases h'
section
variable (P:Program)(w:World)
def Y6 (H:Hp)(h:Heap)(a:Addr):HO->Prop
 | .lst xs=>xs.length<=sizeLine/\∃ (its:List Value) (n:Nat),Vals xs its/\h.get? a=some { cls:=.type "list",data:=.seq its.toArray n }
 |.tup xs=>xs.length<=sizeLine/\∃ its:List Value,Vals xs its/\IsTup h a its.toArray
 |.dK Z6=>Z6.length<=sizeLine/\(a==sysModules)=false/\∃ vs,KV Z6 vs/\h.DictOf (V3 P w) a vs
 |.dT Z6=>Z6.length<=sizeLine/\(a==sysModules)=false/\∃ xs:List (List Key×Addr×Value),
   Paired (fun (p:List Key×V) (q:List Key×Addr×Value)=>p.1=q.1/\H q.2.1=some (.tup (p.1.map kV))/\RelV p.2 q.2.2) Z6 xs /\
   ∃ o es ep,h.get? a=some o/\o.ExactDict/\o.data=.dict es ep/\es.toList=xs.map (entryOfKey (tupleKind (V3 P w)))/\(xs.map (·.1)).Nodup
 |.set S n=>h.SetOf (intKind P w) a S n
 |.ins C dx fs=>H dx=some (.own a)/\fs.length<=1000/\dx≠a/\h.get? a=some (PySem.W.instObj C dx) /\
   ∃ mA,h.Ns1 dx mA/\(∀ f,VJ (fs.lookup f) (mA f))/\PySem.Within mA (fs.map (·.1))
 |.own _=>∃ o,h.get? a=some o
 |.xd fs=>∃ mA,h.Ns1 a mA/\∀ f,VJ (fs.lookup f) (mA f)
 | .rng lo hi=>∃ t u v,h.get? a=some { cls:=.type "range",data:=.fields #[.int lo t,.int hi u,.int 1 v] }
 |.frz o u=>h.get? a=some o/\Y6 H h a u
 |.tbl ps=>h.get? a=some { cls:=.none,data:=.fields ps }
 |.met f x=>h.get? a=some (PySem.W.methodObj (.ref f) (.ref x))
 |.ext φ=>φ h/\(∃ o,h.get? a=some o)/\∀ h1 h2:Heap,φ h1->(∀ o,h1.get? a=some o->h2.get? a=some o)->φ h2
def Zi (H:Hp)(h:Heap):Prop:=∀ a o,H a=some o->Y6 P w H h a o
end
section
variable {P:Program}{w:World}{H H':Hp}{h h':Heap}{a:Addr}{o:HO}
theorem Y6.lt (x:Y6 P w H h a o):a<h.objs.size:=by
 cases o with
 |lst xs=>obtain⟨_,_,_,_,e⟩:=x;exact qq e
 |tup xs=>obtain⟨_,_,_,p⟩:=x;exact p.lt
 |dK Z6=>obtain⟨_,_,_,_,o,_,_,e,_⟩:=x;exact qq e
 |dT Z6=>obtain⟨_,_,_,_,o,_,_,e,_⟩:=x;exact qq e
 |set S n=>obtain⟨o,_,_,_,e,_⟩:=x;exact qq e
 |ins C dx fs=>obtain⟨_,_,_,e,_⟩:=x;exact qq e
 |own y=>obtain⟨_,e⟩:=x;exact qq e
 |xd fs=>obtain⟨_,⟨_,_,_,e,_⟩,_⟩:=x;exact qq e
 |rng lo hi=>obtain⟨_,_,_,e⟩:=x;exact qq e
 |frz ob u=>obtain⟨e,_⟩:=x;exact qq e
 |tbl ps=>exact qq (show h.get? a=some _ from x)
 |met f y=>exact qq (show h.get? a=some _ from x)
 |ext φ=>obtain⟨_,⟨_,e⟩,_⟩:=x;exact qq e
theorem Paired.mapP {α β:Type}{F G:α->β->Prop}:∀ {l₁:List α} {l₂:List β},Paired F l₁ l₂->(∀ a b,F a b->G a b)->Paired G l₁ l₂
 |_,_,.nil,_=>.nil
 |_,_,.cons r t,f=>.cons (f _ _ r) (Paired.mapP t f)
def Paired.imp' {α β:Type}{F G:α->β->Prop}(f:∀ a b,F a b->G a b){l₁:List α}{l₂:List β}(r:Paired F l₁ l₂):Paired G l₁ l₂:=Paired.mapP r f
def Y6.stay (x:Y6 P w H h a o)(k:∀ b u,(b=a\/H b=some (.own a))->h.get? b=some u->h'.get? b=some u)
  (ho:∀ b,H b=some (.own a)->H' b=some (.own a)) (ht:∀ b xs,H b=some (.tup xs)->H' b=some (.tup xs)):Y6 P w H' h' a o:=by
 induction o with
 |lst xs=>obtain⟨z,its,n,r,e⟩:=x;exact⟨z,its,n,r,k _ _ (.inl rfl) e⟩
 |tup xs=>obtain⟨z,its,r,ob,e,c⟩:=x;exact⟨z,its,r,ob,k _ _ (.inl rfl) e,c⟩
 |dK Z6=>obtain⟨z,y,vs,r,ob,es,ep,e,c⟩:=x;exact⟨z,y,vs,r,ob,es,ep,k _ _ (.inl rfl) e,c⟩
 |dT Z6 =>
  obtain⟨z,y,xs,r,ob,es,ep,e,c⟩:=x
  exact⟨z,y,xs,Paired.mapP r fun p q z=>⟨z.1,ht _ _ z.2.1,z.2.2⟩,ob,es,ep,k _ _ (.inl rfl) e,c⟩
 |set S n=>obtain⟨ob,es,ep,t,e,c⟩:=x;exact⟨ob,es,ep,t,k _ _ (.inl rfl) e,c⟩
 |ins C dx fs =>
  obtain⟨d,z,ne,e,mA,⟨od,es,ep,e2,c⟩,r⟩:=x
  exact⟨ho _ d,z,ne,k _ _ (.inl rfl) e,mA,⟨od,es,ep,k _ _ (.inr d) e2,c⟩,r⟩
 |own y=>obtain⟨ob,e⟩:=x;exact⟨ob,k _ _ (.inl rfl) e⟩
 |xd fs=>obtain⟨mA,⟨od,es,ep,e,c⟩,r⟩:=x;exact⟨mA,⟨od,es,ep,k _ _ (.inl rfl) e,c⟩,r⟩
 |rng lo hi=>obtain⟨t,u,v,e⟩:=x;exact⟨t,u,v,k _ _ (.inl rfl) e⟩
 |frz ob u ih=>obtain⟨e,q⟩:=x;exact⟨k _ _ (.inl rfl) e,ih q⟩
 |tbl ps =>
  have e:h.get? a=some { cls:=.none,data:=.fields ps }:=x
  show h'.get? a=some { cls:=.none,data:=.fields ps }
  exact k a _ (.inl rfl) e
 |met f y =>
  have e:h.get? a=some (PySem.W.methodObj (.ref f) (.ref y)):=x
  show h'.get? a=some (PySem.W.methodObj (.ref f) (.ref y))
  exact k a _ (.inl rfl) e
 |ext φ=>obtain⟨p,⟨o,e⟩,st⟩:=x;exact⟨st _ _ p fun o q=>k _ _ (.inl rfl) q,⟨o,k _ _ (.inl rfl) e⟩,st⟩
theorem Zi.lt (x:Zi P w H h)(e:H a=some o):a<h.objs.size:=(x a o e).lt
def Zi.fresh (x:Zi P w H h)(e:h.objs.size<=a):H a=none:=by
 cases q:H a with
 |none=>rfl
 |some u=>exact absurd (qD (x.lt q) e) (Wx _)
def Zi.kept (x:Zi P w H h)(k:∀ b u,h.get? b=some u->h'.get? b=some u):Zi P w H h':=fun a o e =>
 (x a o e).stay (fun b u _ q=>k b u q) (fun _ q=>q) fun _ _ q=>q
def Zi.laid (x:Zi P w H h)(k:∀ b u,h.get? b=some u->h'.get? b=some u)(hp:h.objs.size<=a)(new:Y6 P w (upd H a o) h' a o):Zi P w (upd H a o) h':=fun b u e=>by
 have hn:=x.fresh hp
 by_cases hb:b=a
 ·subst hb;rw[Xy]at e;cases e;exact new
 ·rw[zR hb]at e
  exact(x b u e).stay (fun c v _ q=>k c v q) (fun c q=>by rw[zR (Td q hn)];exact q) fun c xs q=>by rw[zR (Td q hn)];exact q
end
def Rd (H:Hp)(a:Addr)(u:HO):Prop:=H a=some u\/∃ o,H a=some (.frz o u)
def Rd.ok {P:Program}{w:World}{H:Hp}{h:Heap}{a:Addr}{u:HO}(r:Rd H a u)(x:Zi P w H h):Y6 P w H h a u:=by
 rcases r with r|⟨o,r⟩
 ·exact x a u r
 ·obtain⟨_,q⟩:=x a _ r
  exact q
def Mut:Option HO->Prop
 |some (.lst _)=>True
 |some (.dK _)=>True
 |some (.dT _)=>True
 |some (.set _ _)=>True
 |some (.ins _ _ _)=>True
 |some (.ext _)=>True
 |_=>False
section
variable {P:Program}{w:World}{H:Hp}{h h':Heap}{x e:Addr}{o':HO}
def Zi.write (ok:Zi P w H h)(mu:Mut (H x))(he:e=x\/H e=some (.own x))(k:∀ b u,b≠e->h.get? b=some u->h'.get? b=some u)(heo:∃ u,h'.get? e=some u)
  (new:Y6 P w (upd H x o') h' x o'):Zi P w (upd H x o') h':=fun b u q=>by
 have nown:∀ c y,H c=some (.own y)->c≠x:=fun c y r z=>by subst z;rw[r]at mu;exact mu
 have ntup:∀ c xs,H c=some (.tup xs)->c≠x:=fun c xs r z=>by subst z;rw[r]at mu;exact mu
 by_cases hb:b=x
 ·subst hb;rw[Xy]at q;cases q;exact new
 ·rw[zR hb]at q
  by_cases hbe:b=e
  ·have q':H b=some (.own x):=by
    rcases he with z|z
    ·exact absurd (hbe.trans z) hb
    ·rw[hbe];exact z
   rw[q]at q';cases q'
   obtain⟨v,hv⟩:=heo
   exact⟨v,by rw[hbe];exact hv⟩
  ·refine(ok b u q).stay (fun c v hc r=>k c v ?_ r) (fun c r=>by rw[zR (nown c b r)];exact r) fun c xs r=>by rw[zR (ntup c xs r)];exact r
   rcases hc with rfl|hc
   ·exact hbe
   ·rintro rfl
    rcases he with z|z
    ·exact nown c b hc z
    ·rw[hc]at z;cases z;exact hb rfl
end
structure Un (fs ex:List Addr)(H H':Hp)(h h':Heap):Prop where
 keep:∀ b o,h.get? b=some o->H b=none->b∉fs->b∉ex->h'.get? b=some o
 slot:∀ b o,h.get? b=some o->H b=none->b∈fs->b∉ex->∃ sl,h'.get? b=some { o with slots:=sl }
 free:∀ b o,h.get? b=some o->H b=none->b∉ex->H' b=none
 there:∀ b o,h.get? b=some o->b∉ex->∃ o',h'.get? b=some o'
 tups:∀ b xs,H b=some (.tup xs)->H' b=some (.tup xs)
 frzs:∀ b o u,H b=some (.frz o u)->H' b=some (.frz o u)
 tbls:∀ b ps,H b=some (.tbl ps)->∃ more,H' b=some (.tbl (ps++more))
section
variable {fs fs' ex ex':List Addr}{H H1 H2:Hp}{h h1 h2 h':Heap}{a x e:Addr}{o:HO}
def Un.any (u:Un fs ex H H1 h h1){b:Addr}{ob:Obj}(q:h.get? b=some ob)(n:H b=none)(hx:b∉ex):∃ sl,h1.get? b=some { ob with slots:=sl }:=by
 by_cases hb:b∈fs
 ·exact u.slot b ob q n hb hx
 ·exact⟨ob.slots,u.keep b ob q n hb hx⟩
def Un.kept (k:∀ b u,h.get? b=some u->h'.get? b=some u):Un fs ex H H h h' :=
 ⟨fun b ob q _ _ _=>k b ob q,fun b ob q _ _ _=>⟨ob.slots,k b ob q⟩,fun _ _ _ n _=>n,fun b ob q _=>⟨ob,k b ob q⟩,fun _ _ q=>q,fun _ _ _ q=>q,fun _ ps q=>⟨#[],by rw[q];simp⟩⟩
def Un.refl:Un fs ex H H h h:=Un.kept fun _ _ q=>q
def Un.laid (k:∀ b u,h.get? b=some u->h'.get? b=some u)(hp:h.objs.size<=a)(hn:H a=none):Un fs ex H (upd H a o) h h' where
 keep:=fun b u q _ _ _=>k b u q
 slot:=fun b u q _ _ _=>⟨u.slots,k b u q⟩
 free:=fun b u q n _=>by rw[zR (qK (qD (qq q) hp))];exact n
 there:=fun b u q _=>⟨u,k b u q⟩
 tups:=fun b xs q=>by rw[zR (Td q hn)];exact q
 frzs:=fun b u xs q=>by rw[zR (Td q hn)];exact q
 tbls:=fun b ps q=>⟨#[],by rw[zR (Td q hn),q];simp⟩
def Un.write (mu:Mut (H x))(he:e=x\/H e=some (.own x))(k:∀ b u,b≠e->h.get? b=some u->h'.get? b=some u)(heo:∃ u,h'.get? e=some u):Un fs ex H (upd H x o) h h':=by
 have hx:∀ b,H b=none->b≠x:=fun b n z=>by subst z;rw[n]at mu;exact mu
 have hb:∀ b,H b=none->b≠e:=fun b n z=>by
  subst z
  rcases he with r|r
  ·exact hx b n r
  ·rw[n]at r;cases r
 have hm:∀ b u,H b=some u->¬ Mut (some u)->b≠x:=fun b u q nm z=>by subst z;rw[q]at mu;exact nm mu
 refine⟨fun b u q n _ _=>k b u (hb b n) q,fun b u q n _ _=>⟨u.slots,k b u (hb b n) q⟩,fun b u q n _=>by rw[zR (hx b n)];exact n,fun b u q _=>?_,
  fun b xs q=>by rw[zR (hm b _ q fun z=>z)];exact q,fun b u xs q=>by rw[zR (hm b _ q fun z=>z)];exact q,fun b ps q=>⟨#[],by rw[zR (hm b _ q fun z=>z),q];simp⟩⟩
 by_cases hbe:b=e
 ·subst hbe;exact heo
 ·exact⟨u,k b u hbe q⟩
end
def trk (h:Heap)(H:Hp):List Addr:=(List.range h.objs.size).filter fun a=>(H a).isSome
def Ti (h:Heap)(H:Hp):Heap:=PySem.W.hideAll h (trk h H)
def zoI (h:Heap)(H:Hp):(Ti h H).objs.size=h.objs.size:=PySem.W.hideAll_size _ _
def zrj {h:Heap}{H:Hp}{b:Addr}{o:Obj}(e:h.get? b=some o)(n:H b=none):(Ti h H).get? b=some o :=
 PySem.W.hideAll_get _ e fun hm=>by
  have q:(H b).isSome=true:=(qX.mp hm).2
  rw[n]at q;simp at q
def ztb {h:Heap}{H:Hp}{b:Addr}{o:Obj}(e:(Ti h H).get? b=some o):h.get? b=some o/\H b=none:=by
 have e':h.get? b=some o:=PySem.W.of_hideAll (trk h H) e
 refine⟨e',?_⟩
 cases q:H b with
 |none=>rfl
 |some x =>
  have hm:b∈trk h H:=qX.mpr ⟨List.mem_range.mpr (qq e'),by simp[q]⟩
  have z:(Ti h H).get? b=none:=PySem.W.hideAll_none (trk h H) hm
  rw[z]at e;cases e
def ztk (g h:Heap)(L:Addr):List (Addr×Obj):=(List.range h.objs.size).filterMap fun a=>if a=L\/(g.get? a).isSome=true then none else(h.get? a).map fun o=>(a,o)
def rest (g h:Heap)(L d:Addr):List (Addr×Obj):=(ztk g h L).filter fun p=>decide (p.1≠d)
structure Mod (K:PySem.W.Frag)(mg:Str->Option Value)(base:Heap):Prop where
 kin:K.In base
 glob:base.Ns mainGlobals mg
 blt:∃ mb,base.Ns builtinsNs mb/\∀ x:Str,x≠"__name__"->mb x=bootBuiltins x
 nolimit:base.NoLimit
/-- the context: a def's body (or a comprehension's block) running. base: fixed through the whole law; s₀, H₀: the entry; outer: the frames whose slots others may change (a def's callers); stack: all frames that run;
   ex: iterators that were made ahead of the entry and are walked here (a comprehension's);fn: the names whose cells were made at the entry (a def: all;a comprehension's block: its own);calm: not within an except suite;pn: Z9 that every state bears;xe: what is wanted of an exception that leaves the code -/
structure Cx where
 prog:Program
 w:World
 K:PySem.W.Frag
 mg:Str->Option Value
 base:Heap
 A:Around
 N:List Str
 s₀:Shared
 H₀:Hp
 env:Env
 outer:List Env
 stack:List Env
 ex:List Addr
 fn:Str->Bool
 calm:Bool
 pn:List (Addr×Obj)
 xe:Value->Shared->Prop
def frs (l:List Env):List Addr:=l.filterMap (·.frame)
abbrev Cx.fs (X:Cx):List Addr:=frs X.outer
def Vis (sc:Scope)(x:Str):Prop:=sc.names.lookup x=some .local\/sc.names.lookup x=some .cell\/sc.names.lookup x=some .free
def Loc (sc:Scope)(x:Str):Prop:=sc.names.lookup x=some .local\/sc.names.lookup x=some .cell
def Look (env:Env)(h:Heap)(m:Str->Option Value)(x:Str)(u:Value):Prop :=
 (env.kindOf x=some .local/\m x=some u)\/((env.kindOf x=some .cell\/env.kindOf x=some .free)/\∃ c,env.cells.lookup x=some c/\h.IsCell c (some u))
structure Cx.Ok (X:Cx):Prop where
 mod:Mod X.K X.mg X.base
 kind:X.env.scope.kind=.function
 glob:X.env.globals=mainGlobals
 blt:X.env.builtins=builtinsNs
 above:X.s₀.heap.objs.size<=X.env.locals
 inj:∀ x y c,X.env.cells.lookup x=some c->X.env.cells.lookup y=some c->x=y
 has:∀ x,(X.env.kindOf x=some .cell\/X.env.kindOf x=some .free)->∃ c,X.env.cells.lookup x=some c
 cab:∀ x c,X.fn x=true->X.env.cells.lookup x=some c->X.s₀.heap.objs.size<=c
 hd:X.calm=true->X.A.handled=none
 frames:X.A.frames=some X.stack
 stk:X.stack=X.outer\/(X.stack=X.env::X.outer/\X.env.frame=some X.env.locals)
 exf:∀ b∈X.ex,b≠X.env.locals/\∀ x c,X.env.cells.lookup x=some c->c≠b
 bs:∀ b o,X.base.get? b=some o->X.s₀.heap.get? b=some o/\X.H₀ b=none
 bsz:X.base.objs.size<=X.s₀.heap.objs.size
 noex:∀ b o,X.base.get? b=some o->b∉X.ex
 exfs:∀ b∈X.ex,b∉X.fs
 funs:X.s₀.heap.FunFrames X.base X.outer
 frf:∀ b∈X.fs,X.H₀ b=none
structure Inv (X:Cx)(Z9:List (Addr×Obj))(Z:List (Option V))(H:Hp)(s:Shared):Prop where
 ok:X.Ok
 os:s.os=X.s₀.os
 bare:AllBare s.gens
 base:Un X.fs X.ex X.H₀ H X.s₀.heap s.heap
 loc:∃ m,s.heap.Ns X.env.locals m/\∀ (i:Nat) (x:Str) (v:V),X.N[i]?=some x->Z[i]?=some (some v)->Vis X.env.scope x->∃ u,RelV v u/\Look X.env s.heap m x u
 cell:∀ x c,X.env.cells.lookup x=some c->∃ v,s.heap.IsCell c v
 free:H X.env.locals=none
 freeC:∀ x c,X.env.cells.lookup x=some c->H c=none
 pin:∀ p∈X.pn++Z9,s.heap.get? p.1=some p.2/\H p.1=none/\p.1≠X.env.locals/\p.1∉X.fs/\∀ v,p.2.data≠.cell v
 hok:Zi X.prog X.w H s.heap
 len:Z.length=X.N.length
section
variable {X:Cx}{Z9:List (Addr×Obj)}{Z:List (Option V)}{H H':Hp}{s:Shared}{h':Heap}
def Cx.Ok.nofr (ok:X.Ok){b:Addr}{o:Obj}(e:X.base.get? b=some o):b∉X.fs:=fun hb=>by
 have:=(ok.funs.mem hb).1
 rw[e]at this;cases this
theorem Inv.bs (I:Inv X Z9 Z H s):∀ b o,X.base.get? b=some o->s.heap.get? b=some o/\H b=none:=fun b o e =>
 ⟨I.base.keep b o (I.ok.bs b o e).1 (I.ok.bs b o e).2 (I.ok.nofr e) (I.ok.noex b o e),I.base.free b o (I.ok.bs b o e).1 (I.ok.bs b o e).2 (I.ok.noex b o e)⟩
def Inv.bk (I:Inv X Z9 Z H s):∀ b o,X.base.get? b=some o->s.heap.get? b=some o:=fun b o e=>(I.bs b o e).1
theorem Inv.mod (I:Inv X Z9 Z H s):Mod X.K X.mg X.base:=I.ok.mod
def Inv.kIn (I:Inv X Z9 Z H s):X.K.In s.heap:=I.ok.mod.kin.keeps I.bk
theorem Inv.lt (I:Inv X Z9 Z H s):X.env.locals<s.heap.objs.size:=let ⟨_,hn,_⟩:=I.loc;hn.lt
def Inv.sz (I:Inv X Z9 Z H s):X.s₀.heap.objs.size<=s.heap.objs.size:=qY I.ok.above (Pq I.lt)
def Inv.nofs (I:Inv X Z9 Z H s){a:Addr}(h:s.heap.objs.size<=a):a∉X.fs:=fun hb=>by
 obtain⟨_,o,ho,_⟩:=I.ok.funs.mem hb
 exact absurd (qD (qq ho) (qY I.sz h)) (Wx _)
def Inv.cne (I:Inv X Z9 Z H s):∀ x c,X.env.cells.lookup x=some c->c≠X.env.locals:=fun x c e z=>by
 obtain⟨v,o,ho,hd⟩:=I.cell x c e
 obtain⟨m,⟨o',es,ep,ho',hd',_⟩,_⟩:=I.loc
 rw[z,ho']at ho;cases ho;rw[hd']at hd;cases hd
theorem Inv.funs (I:Inv X Z9 Z H s):s.heap.FunFrames X.base X.outer:=by
 have all:∀ (l:List Env),(∀ b∈frs l,b∈X.fs)->X.s₀.heap.FunFrames X.base l->s.heap.FunFrames X.base l:=by
  intro l
  induction l with
  |nil=>intro _ _;trivial
  |cons env r ih =>
   intro hs hl
   obtain⟨hk,⟨L,o,hf,hn,ho,hd⟩,hr⟩:=hl
   have hL:L∈X.fs:=hs L (by unfold frs;rw[qbd,hf];exact Qq)
   obtain⟨sl,e⟩:=I.base.slot L o ho (I.ok.frf L hL) hL fun z=>I.ok.exfs L z hL
   exact⟨hk,⟨L,_,hf,hn,e,hd⟩,ih (fun b hb=>hs b (by unfold frs;rw[qbd,hf];exact qB _ hb)) hr⟩
 exact all X.outer (fun _ hb=>hb) I.ok.funs
theorem Inv.stack (I:Inv X Z9 Z H s):s.heap.FunFrames X.base X.stack:=by
 rcases I.ok.stk with e|⟨e,hf⟩
 ·rw[e];exact I.funs
 ·rw[e]
  obtain⟨m,hn,_⟩:=I.loc
  refine .cons (by rw[I.ok.kind];decide) hf hn ?_ I.funs
  exact Heap.get?_none_of_le (qY I.ok.bsz I.ok.above)
def Inv.stkSub (I:Inv X Z9 Z H s):∀ b∈frs X.stack,b∈X.env.locals::X.fs:=fun b hb=>by
 rcases I.ok.stk with e|⟨e,hf⟩
 ·rw[e]at hb;exact qB _ hb
 ·rw[e]at hb
  unfold frs at hb
  rw[qbd,hf]at hb
  exact hb
def Inv.stkFree (I:Inv X Z9 Z H s):∀ b∈frs X.stack,H b=none:=fun b hb=>by
 rcases qg.mp (I.stkSub b hb)with e|hb
 ·rw[e];exact I.free
 ·obtain⟨_,o,ho,_⟩:=I.ok.funs.mem hb
  exact I.base.free b o ho (I.ok.frf b hb) fun z=>I.ok.exfs b z hb
def Inv.step {g':Array GenState}{t':Nat}{d':Drawn}{ch:List Addr}(I:Inv X Z9 Z H s)
  (hch:∀ b∈ch,(b∈X.ex\/X.s₀.heap.objs.size<=b)/\b≠X.env.locals/\(∀ x c,X.env.cells.lookup x=some c->c≠b)/\∀ p∈X.pn++Z9,p.1≠b)
  (keep:∀ b o,b≠X.env.locals->b∉X.fs->b∉ch->s.heap.get? b=some o->H b=none->h'.get? b=some o)
  (slot:∀ b o,b≠X.env.locals->b∈X.fs->b∉ch->s.heap.get? b=some o->H b=none->∃ sl,h'.get? b=some { o with slots:=sl }) (free:∀ b o,b∉ch->s.heap.get? b=some o->H b=none->H' b=none)
  (there:∀ b o,b∉ch->s.heap.get? b=some o->∃ o',h'.get? b=some o')
  (tups:∀ b xs,H b=some (.tup xs)->H' b=some (.tup xs)) (frzs:∀ b o u,H b=some (.frz o u)->H' b=some (.frz o u)) (tbls:∀ b ps,H b=some (.tbl ps)->∃ more,H' b=some (.tbl (ps++more)))
  (ns:∀ m,s.heap.Ns X.env.locals m->h'.Ns X.env.locals m) (hok:Zi X.prog X.w H' h') (hg:AllBare g') :
  Inv X Z9 Z H' { s with heap:=h',gens:=g',drawn:=d',toks:=t' }:=by
 have neL:∀ b o,X.s₀.heap.get? b=some o->b≠X.env.locals:=fun b o e=>qK (qD (qq e) I.ok.above)
 have neC:∀ b o,X.s₀.heap.get? b=some o->b∉X.ex->b∉ch:=fun b o e hx hb=>by
  rcases(hch b hb).1 with z|z
  ·exact hx z
  ·exact absurd (qD (qq e) z) (Wx _)
 have cellK:∀ x c,X.env.cells.lookup x=some c->∀ v,s.heap.IsCell c v->h'.IsCell c v:=fun x c e v ⟨o,ho,hd⟩=>by
  have nch:c∉ch:=fun z=>(hch c z).2.2.1 x c e rfl
  by_cases hc:c∈X.fs
  ·obtain⟨sl,q⟩:=slot c o (I.cne x c e) hc nch ho (I.freeC x c e)
   exact⟨_,q,hd⟩
  ·exact⟨o,keep c o (I.cne x c e) hc nch ho (I.freeC x c e),hd⟩
 refine⟨I.ok,I.os,hg,⟨fun b o e n hb hx=>?_,fun b o e n hb hx=>?_,fun b o e n hx=>?_,fun b o e hx=>?_,fun b xs e=>tups b xs (I.base.tups b xs e),fun b o xs e=>frzs b o xs (I.base.frzs b o xs e),fun b ps e=>?_⟩,?_,fun x c e=>?_,?_,fun x c e=>?_,fun p hp=>?_,hok,I.len⟩
 ·exact keep b o (neL b o e) hb (neC b o e hx) (I.base.keep b o e n hb hx) (I.base.free b o e n hx)
 ·obtain⟨sl,e1⟩:=I.base.slot b o e n hb hx
  obtain⟨sl',e2⟩:=slot b _ (neL b o e) hb (neC b o e hx) e1 (I.base.free b o e n hx)
  exact⟨sl',e2⟩
 ·obtain⟨o',e1⟩:=I.base.there b o e hx
  exact free b o' (neC b o e hx) e1 (I.base.free b o e n hx)
 ·obtain⟨o',e1⟩:=I.base.there b o e hx
  exact there b o' (neC b o e hx) e1
 ·obtain⟨m1,e1⟩:=I.base.tbls b ps e
  obtain⟨m2,e2⟩:=tbls b _ e1
  exact⟨m1++m2,by rw[e2,Array.append_assoc]⟩
 ·obtain⟨m,hn,hl⟩:=I.loc
  refine⟨m,ns m hn,fun i x v e1 e2 e3=>?_⟩
  obtain⟨u,r,l⟩:=hl i x v e1 e2 e3
  refine⟨u,r,?_⟩
  rcases l with l|⟨k,c,e,z⟩
  ·exact .inl l
  ·exact .inr ⟨k,c,e,cellK x c e _ z⟩
 ·obtain⟨v,z⟩:=I.cell x c e
  exact⟨v,cellK x c e v z⟩
 ·obtain⟨m,⟨o,_,_,ho,_⟩,_⟩:=I.loc
  exact free _ o (fun z=>(hch _ z).2.1 rfl) ho I.free
 ·obtain⟨v,o,ho,hd⟩:=I.cell x c e
  exact free c o (fun z=>(hch c z).2.2.1 x c e rfl) ho (I.freeC x c e)
 ·obtain⟨e,n,ne,nf,d⟩:=I.pin p hp
  have nch:p.1∉ch:=fun z=>(hch p.1 z).2.2.2 p hp rfl
  exact⟨keep p.1 p.2 ne nf nch e n,free p.1 p.2 nch e n,ne,nf,d⟩
def Inv.un {t':Nat}(I:Inv X Z9 Z H s)(u:Un X.fs [] H H' s.heap h')(hok:Zi X.prog X.w H' h'):Inv X Z9 Z H' { s with heap:=h',toks:=t' }:=by
 obtain⟨m,⟨o,es,ep,ho,r⟩,_⟩:=id I.loc
 obtain⟨sl,hL⟩:=u.any ho I.free (by simp)
 exact I.step (g':=s.gens) (d':=s.drawn) (ch:=[]) (fun _ z=>nomatch z) (fun b o _ hb _ e n=>u.keep b o e n hb (by simp)) (fun b o _ hb _ e n=>u.slot b o e n hb (by simp)) (fun b o _ e n=>u.free b o e n (by simp)) (fun b o _ e=>u.there b o e (by simp)) u.tups u.frzs u.tbls (fun m' hm=>by
  obtain⟨o',es',ep',ho',r'⟩:=hm
  rw[ho]at ho';cases ho'
  exact⟨_,es',ep',hL,r'⟩) hok I.bare
def Inv.call {g':Array GenState}{t':Nat}{d':Drawn}{ch:List Addr}(I:Inv X Z9 Z H s)(u:Un (frs X.stack) ch H H' s.heap h')(hok:Zi X.prog X.w H' h')(hg:AllBare g')
  (hch:∀ b∈ch,(b∈X.ex\/X.s₀.heap.objs.size<=b)/\b≠X.env.locals/\(∀ x c,X.env.cells.lookup x=some c->c≠b)/\∀ p∈X.pn++Z9,p.1≠b) :
  Inv X Z9 Z H' { s with heap:=h',gens:=g',drawn:=d',toks:=t' }:=by
 obtain⟨m,⟨o,es,ep,ho,r⟩,_⟩:=id I.loc
 obtain⟨sl,hL⟩:=u.any ho I.free fun z=>(hch _ z).2.1 rfl
 exact I.step (ch:=ch) hch (fun b o hL hb hc e n=>u.keep b o e n (fun z=>(qg.mp (I.stkSub b z)).elim hL hb) hc) (fun b o _ _ hc e n=>u.any e n hc) (fun b o hc e n=>u.free b o e n hc) (fun b o hc e=>u.there b o e hc) u.tups u.frzs u.tbls (fun m' hm=>by
  obtain⟨o',es',ep',ho',r'⟩:=hm
  rw[ho]at ho';cases ho'
  exact⟨_,es',ep',hL,r'⟩) hok hg
def Inv.turned {t':Nat}{it:Addr}(I:Inv X Z9 Z H s)(k:∀ b o,b≠it->s.heap.get? b=some o->h'.get? b=some o)(hn:H it=none)(hL:it≠X.env.locals)
  (h1:it∈X.ex\/X.s₀.heap.objs.size<=it) (h2:∀ x c,X.env.cells.lookup x=some c->c≠it) (h3:∀ p∈X.pn++Z9,p.1≠it):Inv X Z9 Z H { s with heap:=h',toks:=t' }:=by
 have nit:∀ b u,H b=some u->b≠it:=fun b u e z=>by rw[z,hn]at e;cases e
 refine I.step (g':=s.gens) (d':=s.drawn) (ch:=[it]) (fun b hb=>?_) (fun b o _ _ hc e _=>k b o (fun z=>hc (by simp[z])) e) (fun b o _ _ hc e _=>⟨o.slots,k b o (fun z=>hc (by simp[z])) e⟩) (fun _ _ _ _ n=>n)
  (fun b o hc e=>⟨o,k b o (fun z=>hc (by simp[z])) e⟩) (fun _ _ e=>e) (fun _ _ _ e=>e) (fun b ps e=>⟨#[],by rw[e];simp⟩) (fun m hm=>?_) (fun b u e=>?_) I.bare
 ·have e:b=it:=by simpa using hb
  subst e
  exact⟨h1,hL,h2,h3⟩
 ·obtain⟨o,es,ep,ho,r⟩:=hm
  exact⟨o,es,ep,k _ o (Ne.symm hL) ho,r⟩
 ·refine(I.hok b u e).stay (fun c v hc q=>k c v ?_ q) (fun _ q=>q) fun _ _ q=>q
  rcases hc with z|z
  ·rw[z];exact nit b u e
  ·exact nit c _ z
def Inv.tok (I:Inv X Z9 Z H s)(t:Nat):Inv X Z9 Z H { s with toks:=t }:=I.un (h':=s.heap) (t':=t) Un.refl I.hok
theorem Inv.kept {t':Nat}(I:Inv X Z9 Z H s)(k:∀ b u,s.heap.get? b=some u->h'.get? b=some u):Inv X Z9 Z H { s with heap:=h',toks:=t' }:=I.un (Un.kept k) (I.hok.kept k)
theorem Inv.laid {a:Addr}{o:HO}{t':Nat}(I:Inv X Z9 Z H s)(k:∀ b u,s.heap.get? b=some u->h'.get? b=some u)(hp:s.heap.objs.size<=a)(new:Y6 X.prog X.w (upd H a o) h' a o) :
  Inv X Z9 Z (upd H a o) { s with heap:=h',toks:=t' }:=I.un (Un.laid k hp (I.hok.fresh hp)) (I.hok.laid k hp new)
theorem Inv.write {x e:Addr}{o:HO}{t':Nat}(I:Inv X Z9 Z H s)(mu:Mut (H x))(he:e=x\/H e=some (.own x))(k:∀ b u,b≠e->s.heap.get? b=some u->h'.get? b=some u)(heo:∃ u,h'.get? e=some u)
  (new:Y6 X.prog X.w (upd H x o) h' x o):Inv X Z9 Z (upd H x o) { s with heap:=h',toks:=t' }:=I.un (Un.write mu he k heo) (I.hok.write mu he k heo new)
def Inv.weak {σ':List (Option V)}(I:Inv X Z9 Z H s)(hl:σ'.length=Z.length)(w:∀ (i:Nat) v,σ'[i]?=some (some v)->Z[i]?=some (some v)):Inv X Z9 σ' H s :=
 ⟨I.ok,I.os,I.bare,I.base,let ⟨m,hn,hl'⟩:=I.loc;⟨m,hn,fun i x v e1 e2 e3=>hl' i x v e1 (w i v e2) e3⟩,I.cell,I.free,I.freeC,I.pin,I.hok,hl.trans I.len⟩
def Inv.pins_of {pins':List (Addr×Obj)}(I:Inv X Z9 Z H s)(h:∀ p∈pins',s.heap.get? p.1=some p.2/\H p.1=none/\p.1≠X.env.locals/\p.1∉X.fs/\∀ v,p.2.data≠.cell v):Inv X pins' Z H s :=
 ⟨I.ok,I.os,I.bare,I.base,I.loc,I.cell,I.free,I.freeC,fun p hp=>(qJ.mp hp).elim (fun z=>I.pin p (qaB _ z)) (h p),I.hok,I.len⟩
def zlQ {N:List Str}(hN:N.Nodup){i j:Nat}{x:Str}(a:N[i]?=some x)(b:N[j]?=some x):i=j:=by
 obtain⟨h1,e1⟩:=qR.mp a
 obtain⟨h2,e2⟩:=qR.mp b
 exact(qbw hN).mp (e1.trans e2.symm)
def zj2 {M:Model}{A:Around}{E:Value->Shared->Prop}{i:Nat}{x:Str}{v:V}{u:Value}{Q:Unit->Shared->Prop}(I:Inv X Z9 Z H s)(hN:X.N.Nodup)(hi:X.N[i]?=some x)(hx:Loc X.env.scope x)(r:RelV v u)
  (h:∀ s',Inv X Z9 (Z.set i (some v)) H s'->(∃ a,Heap.SameBut a s.heap s'.heap/\(a=X.env.locals\/X.env.cells.lookup x=some a))->Q () s') (hf:X.fn x=true\/X.env.scope.names.lookup x=some .local:=by first|exact .inl rfl|exact .inr rfl|assumption):wpAny M A (storeName X.env x u) Q E s:=by
 obtain⟨m,hn,hl⟩:=id I.loc
 have hcls:(X.env.scope.kind==.class||(X.env.scope.kind==.module&&X.env.locals != X.env.globals))=false:=by rw[I.ok.kind];rfl
 have hiσ:i<Z.length:=by rw[I.len];exact(qR.mp hi).1
 have cne:=I.cne
 have tracked:∀ {a:Addr} {h':Heap},(∃ o,s.heap.get? a=some o/\H a=none)->Heap.SameBut a s.heap h'->Zi X.prog X.w H h':=fun {a h'} ha hs b ob e=>by
  obtain⟨_,_,hfree⟩:=ha
  refine(I.hok b ob e).stay (fun c w' hc q=>(hs.2 c ?_).trans q) (fun _ q=>q) fun _ _ q=>q
  rintro rfl
  rcases hc with rfl|hc
  ·rw[hfree]at e;cases e
  ·rw[hfree]at hc;cases hc
 rcases hx with hk|hk
 ·refine wpAny_storeName_local hk hn (fun h' hn' hs=>?_) hcls
  obtain⟨oL,_,_,hoL,_⟩:=id hn
  refine h _ ⟨I.ok,I.os,I.bare,⟨fun b o e n hb hx=>?_,fun b o e n hb hx=>?_,I.base.free,fun b o e hx=>?_,I.base.tups,I.base.frzs,I.base.tbls⟩,⟨_,hn',fun j y v' e1 e2 e3=>?_⟩,fun y c e=>?_,I.free,I.freeC,fun p hp=>?_,tracked ⟨oL,hoL,I.free⟩ hs,by simpa using I.len⟩ ⟨_,hs,.inl rfl⟩
  ·exact(hs.2 b (qK (qD (qq e) I.ok.above))).trans (I.base.keep b o e n hb hx)
  ·obtain⟨sl,e1⟩:=I.base.slot b o e n hb hx
   exact⟨sl,(hs.2 b (qK (qD (qq e) I.ok.above))).trans e1⟩
  ·obtain⟨o',e1⟩:=I.base.there b o e hx
   exact⟨o',(hs.2 b (qK (qD (qq e) I.ok.above))).trans e1⟩
  ·by_cases hj:j=i
   ·subst hj
    rw[hi]at e1;cases e1
    rw[qI hiσ]at e2
    cases e2
    exact⟨u,r,.inl ⟨hk,by simp⟩⟩
   ·rw[qQ (Ne.symm hj)]at e2
    obtain⟨u',r',q⟩:=hl j y v' e1 e2 e3
    refine⟨u',r',?_⟩
    rcases q with⟨k,e⟩|⟨k,c,e,z⟩
    ·refine .inl ⟨k,?_⟩
     have:y≠x:=fun e=>hj (zlQ hN e1 (e▸hi))
     simp[this,e]
    ·exact .inr ⟨k,c,e,z.sameBut hs (cne y c e)⟩
  ·obtain⟨w',z⟩:=I.cell y c e
   exact⟨w',z.sameBut hs (cne y c e)⟩
  ·obtain⟨e,n,ne,nf,d⟩:=I.pin p hp
   exact⟨(hs.2 p.1 ne).trans e,n,ne,nf,d⟩
 ·have hfn:X.fn x=true:=by
   rcases hf with z|z
   ·exact z
   ·rw[z]at hk;cases hk
  obtain⟨c,hc⟩:=I.ok.has x (.inl hk)
  obtain⟨w',z⟩:=I.cell x c hc
  refine wpAny_storeName_cell I.ok.kind hk hc z (fun h' hc' hs=>?_)
  obtain⟨oc,hoc,hocd⟩:=id z
  refine h { s with heap:=h' } ⟨I.ok,I.os,I.bare,⟨fun b o e n hb hx=>?_,fun b o e n hb hx=>?_,I.base.free,fun b o e hx=>?_,I.base.tups,I.base.frzs,I.base.tbls⟩,⟨m,hn.sameBut hs (Ne.symm (cne x c hc)),fun j y v' e1 e2 e3=>?_⟩,fun y c' e=>?_,I.free,I.freeC,fun p hp=>?_,tracked ⟨oc,hoc,I.freeC x c hc⟩ hs,by simpa using I.len⟩ ⟨c,hs,.inr hc⟩
  ·exact(hs.2 b (qK (qD (qq e) (I.ok.cab x c hfn hc)))).trans (I.base.keep b o e n hb hx)
  ·obtain⟨sl,e1⟩:=I.base.slot b o e n hb hx
   exact⟨sl,(hs.2 b (qK (qD (qq e) (I.ok.cab x c hfn hc)))).trans e1⟩
  ·obtain⟨o',e1⟩:=I.base.there b o e hx
   exact⟨o',(hs.2 b (qK (qD (qq e) (I.ok.cab x c hfn hc)))).trans e1⟩
  ·by_cases hj:j=i
   ·subst hj
    rw[hi]at e1;cases e1
    rw[qI hiσ]at e2
    cases e2
    exact⟨u,r,.inr ⟨.inl hk,c,hc,hc'⟩⟩
   ·rw[qQ (Ne.symm hj)]at e2
    obtain⟨u',r',q⟩:=hl j y v' e1 e2 e3
    refine⟨u',r',?_⟩
    rcases q with q|⟨k,c',e,z'⟩
    ·exact .inl q
    ·refine .inr ⟨k,c',e,z'.sameBut hs ?_⟩
     rintro rfl
     exact hj (zlQ hN e1 (I.ok.inj _ _ _ e hc▸hi))
  ·by_cases hcc:c'=c
   ·subst hcc;exact⟨_,hc'⟩
   ·obtain⟨w2,z2⟩:=I.cell y c' e
    exact⟨w2,z2.sameBut hs hcc⟩
  ·obtain⟨e,n,ne,nf,d⟩:=I.pin p hp
   refine⟨(hs.2 p.1 ?_).trans e,n,ne,nf,d⟩
   intro q
   rw[q,hoc]at e
   have q':oc=p.2:=qw e
   exact d w' (by rw[<- q'];exact hocd)
def zio {M:Model}{A:Around}{E:Value->Shared->Prop}{i:Nat}{x:Str}{v:V}{u:Value}{Q:Unit->Shared->Prop}(I:Inv X Z9 Z H s)(hN:X.N.Nodup)(hi:X.N[i]?=some x)(hx:Loc X.env.scope x)(r:RelV v u)
  (h:∀ s',Inv X Z9 (Z.set i (some v)) H s'->Q () s') (hf:X.fn x=true\/X.env.scope.names.lookup x=some .local:=by first|exact .inl rfl|exact .inr rfl|assumption):wpAny M A (storeName X.env x u) Q E s :=
 zj2 I hN hi hx r (fun s' I' _=>h s' I') hf
def Inv.call' {s':Shared}{ch:List Addr}(I:Inv X Z9 Z H s)(ho:s'.os=s.os)(u:Un (frs X.stack) ch H H' s.heap s'.heap)(hok:Zi X.prog X.w H' s'.heap)(hg:AllBare s'.gens)
  (hch:∀ b∈ch,(b∈X.ex\/X.s₀.heap.objs.size<=b)/\b≠X.env.locals/\(∀ x c,X.env.cells.lookup x=some c->c≠b)/\∀ p∈X.pn++Z9,p.1≠b):Inv X Z9 Z H' s':=by
 obtain⟨h',g',d',t',o'⟩:=s'
 have e:o'=s.os:=ho
 subst e
 exact I.call (g':=g') (t':=t') (d':=d') u hok hg hch
end
abbrev XK:=Value->Option Addr->Hp->Prop
abbrev St:=List (Option V)
abbrev VK:=V->Hp->Prop
abbrev TE:=St->Hp->VK->Prop
abbrev TT:=St->Hp->(Bool->Hp->Prop)->Prop
abbrev TA:=St->Hp->(List V->Hp->Prop)->Prop
structure Ends where
 nx:St->Hp->Prop
 rt:VK
 bk:St->Hp->Prop:=fun _ _=>False
 ct:St->Hp->Prop:=fun _ _=>False
abbrev TS:=Ends->St->Hp->Prop
def EP (X:Cx)(Z9:List (Addr×Obj))(Z:St)(Q:VK)(u:Value)(s':Shared):Prop:=∃ v H',Inv X Z9 Z H' s'/\RelV v u/\Q v H'
def TP (X:Cx)(Z9:List (Addr×Obj))(Z:St)(Q:Bool->Hp->Prop)(b:Bool)(s':Shared):Prop:=∃ H',Inv X Z9 Z H' s'/\Q b H'
def AP (X:Cx)(Z9:List (Addr×Obj))(Z:St)(Q:List V->Hp->Prop)(us:List Value)(s':Shared):Prop:=∃ vs H',Inv X Z9 Z H' s'/\Vals vs us/\Q vs H'
def SP (X:Cx)(Z9:List (Addr×Obj))(D:Ends)(f:Flow)(s':Shared):Prop :=
 match f with
 |.next=>∃ σ' H',Inv X Z9 σ' H' s'/\D.nx σ' H'
 |.brk=>∃ σ' H',Inv X Z9 σ' H' s'/\D.bk σ' H'
 |.cont=>∃ σ' H',Inv X Z9 σ' H' s'/\D.ct σ' H'
 |.ret u=>∃ v σ' H',Inv X Z9 σ' H' s'/\RelV v u/\D.rt v H'
def PE (X:Cx)(e:Expr)(t:TE):Prop :=
 ∀ (Z9:List (Addr×Obj)) (s:Shared) (Z:St) (H:Hp) (Q:VK),Inv X Z9 Z H s->t Z H Q->wpAny (model X.prog X.w) X.A (eval e X.env) (EP X Z9 Z Q) X.xe s
def PT (X:Cx)(e:Expr)(t:TT):Prop :=
 ∀ (Z9:List (Addr×Obj)) (s:Shared) (Z:St) (H:Hp) (Q:Bool->Hp->Prop),Inv X Z9 Z H s->t Z H Q->wpAny (model X.prog X.w) X.A (isTrue e X.env (eval e X.env)) (TP X Z9 Z Q) X.xe s
def PW (X:Cx)(e:Expr)(t:TT):Prop :=
 ∀ (whole:Sem Value) (Z9:List (Addr×Obj)) (s:Shared) (Z:St) (H:Hp) (Q:Bool->Hp->Prop),Inv X Z9 Z H s->t Z H Q->wpAny (model X.prog X.w) X.A (isTrue e X.env whole) (TP X Z9 Z Q) X.xe s
def PA (X:Cx)(es:List Expr)(t:TA):Prop :=
 ∀ (pos:Pos) (Z9:List (Addr×Obj)) (s:Shared) (Z:St) (H:Hp) (Q:List V->Hp->Prop),Inv X Z9 Z H s->t Z H Q->wpAny (model X.prog X.w) X.A (spliced (backTo pos (starEach es X.env))) (AP X Z9 Z Q) X.xe s
def PS (X:Cx)(st:Stmt)(t:TS):Prop :=
 ∀ (Z9:List (Addr×Obj)) (s:Shared) (Z:St) (H:Hp) (D:Ends),Inv X Z9 Z H s->t D Z H->wpAny (model X.prog X.w) X.A (exec st X.env) (SP X Z9 D) X.xe s
def W4 (X:Cx)(st:List Stmt)(t:TS):Prop :=
 ∀ (Z9:List (Addr×Obj)) (s:Shared) (Z:St) (H:Hp) (D:Ends),Inv X Z9 Z H s->t D Z H->wpAny (model X.prog X.w) X.A (execs st X.env) (SP X Z9 D) X.xe s
def Z0 {α:Type}{t:Sem α}{Q Q':α->Shared->Prop}{M:Model}{A:Around}{E:Value->Shared->Prop}{s:Shared}(h:wpAny M A t Q E s)(hQ:∀ a s,Q a s->Q' a s):wpAny M A t Q' E s:=wpAny_mono h hQ fun _ _ x=>x
section
variable {X:Cx}
def zuw (i:Nat):TE:=fun Z H Q=>∃ v,Z[i]?=some (some v)/\Q v H
def tC (v:V):TE:=fun _ H Q=>Q v H
def zwx {i:Nat}{x:Str}{pos:Pos}(hN:X.N[i]?=some x)(hv:Vis X.env.scope x)(hd:(x==("__debug__":Str))=false:=by decide)(hcd:(x==("__classdict__":Str))=false:=by decide):PE X (.Name x pos) (zuw i):=by
 intro Z9 s Z H Q I h
 obtain⟨v,e,h⟩:=h
 obtain⟨m,hn,hl⟩:=I.loc
 obtain⟨u,r,l⟩:=hl i x v hN e hv
 have fin:EP X Z9 Z Q u s:=⟨v,H,I,r,h⟩
 rcases l with⟨hk,hm⟩|⟨hk,c,hc,hcell⟩
 ·exact wpAny_Name (wpAny_loadName_local I.ok.kind hk hn hm fin) hd
 ·rcases hk with hk|hk
  ·exact wpAny_Name (wpAny_loadName_cell I.ok.kind hk hc hcell fin) hd
  ·exact wpAny_Name (wpAny_loadName_free I.ok.kind hk hc hcell fin hcd) hd
def zlf {i j pos}:PE X (.Constant (.int i) j pos) (tC (.int i)):=fun _ _ _ H _ I h=>wpAny_Constant_int ⟨.int i,H,I.tok _,⟨_,rfl⟩,h⟩
def zyr {b j pos}:PE X (.Constant (.bool b) j pos) (tC (.bl b)):=fun _ _ _ H _ I h=>Constant_bool ⟨.bl b,H,I,rfl,h⟩
def zvj {j pos}:PE X (.Constant .none j pos) (tC .non):=fun _ _ _ H _ I h=>Constant_none ⟨.non,H,I,rfl,h⟩
def zuA {x j pos}:PE X (.Constant (.str x) j pos) (tC (.str x)):=fun _ _ _ H _ I h=>Calls.Constant_str ⟨.str x,H,I.tok _,⟨_,rfl⟩,h⟩
def Gl (X:Cx)(x:Str):Prop:=X.env.kindOf x=some .globalImplicit
def zfp {E:Value->Shared->Prop}{Z9:List (Addr×Obj)}{s:Shared}{Z:St}{H:Hp}{x:Str}{u:Value}{pos:Pos}{Q:Value->Shared->Prop}(I:Inv X Z9 Z H s)(hg:Gl X x)(hm:X.mg x=some u)(h:Q u s)
  (hd:(x==("__debug__":Str))=false:=by decide):wpAny (model X.prog X.w) X.A (eval (.Name x pos) X.env) Q E s :=
 Calls.Name_function_global I.ok.kind hg (Calls.loadGlobal_global (by rw[I.ok.glob];exact I.mod.glob.keeps I.bk) hm h) hd
def UW {E:Value->Shared->Prop}{Z9:List (Addr×Obj)}{s:Shared}{Z:St}{H:Hp}{x:Str}{u:Value}{pos:Pos}{Q:Value->Shared->Prop}(I:Inv X Z9 Z H s)(hg:Gl X x)(hm:X.mg x=none)(hv:bootBuiltins x=some u)(h:Q u s)
  (hn:x≠"__name__":=by decide) (hd:(x==("__debug__":Str))=false:=by decide):wpAny (model X.prog X.w) X.A (eval (.Name x pos) X.env) Q E s:=by
 obtain⟨mb,h1,h2⟩:=I.mod.blt
 exact Calls.Name_function_global I.ok.kind hg (Calls.loadGlobal_builtin (by rw[I.ok.glob];exact I.mod.glob.keeps I.bk) hm (by rw[I.ok.blt];exact h1.keeps I.bk) ((h2 x hn).trans hv) h) hd
def zmS {x:Str}{v:V}{u:Value}{pos:Pos}(hg:Gl X x)(hm:X.mg x=some u)(r:RelV v u)(hd:(x==("__debug__":Str))=false:=by decide):PE X (.Name x pos) (tC v) :=
 fun _ _ _ H _ I h=>zfp I hg hm ⟨v,H,I,r,h⟩ hd
def ztt {x:Str}{v:V}{u:Value}{pos:Pos}(hg:Gl X x)(hm:X.mg x=none)(hv:bootBuiltins x=some u)(r:RelV v u)(hn:x≠"__name__":=by decide)(hd:(x==("__debug__":Str))=false:=by decide):PE X (.Name x pos) (tC v) :=
 fun _ _ _ H _ I h=>UW I hg hm hv ⟨v,H,I,r,h⟩ hn hd
variable {a b:Expr}{ta tb:TE}{pos:Pos}
def tB (t:TE):TT:=fun Z H Q=>t Z H fun x H1=>∃ c,x=.bl c/\Q c H1
def zwl {e:Expr}{t:TE}(h:PE X e t)(he:∀ whole,isTrue e X.env whole=(do let v <- whole;standAt e.pos;holding [v] (truthy v)):=by intro _;rfl):PT X e (tB t):=by
 intro Z9 s Z H Q I hw
 refine isTrue_plain (Z0 (h Z9 s Z H _ I hw) fun v s1 ⟨x,H1,I1,r1,q1⟩=>?_) (he _)
 obtain⟨d,rfl,q⟩:=q1
 cases r1
 exact wpAny_truthy_bool ⟨H1,I1,q⟩
variable {tA tB':TT}{rest:List Expr}
def zy2 (t u:TT):TT:=fun Z H Q=>t Z H fun c H1=>if c=true then u Z H1 Q else Q false H1
def tOr (t u:TT):TT:=fun Z H Q=>t Z H fun c H1=>if c=true then Q true H1 else u Z H1 Q
def zyZ (t:TT):TT:=fun Z H Q=>t Z H fun c H1=>Q (!c) H1
def zsN (ha:PT X a tA):PW X (.BoolOp .And [a] pos) tA:=by
 intro wh Z9 s Z H Q I h
 refine isTrue_and (Z0 (ha Z9 s Z H Q I h) fun c s1 e=>?_)
 cases c with
 |true=>exact isTrue_and_nil e
 |false=>exact e
def zvi (ha:PT X a tA):PW X (.BoolOp .Or [a] pos) tA:=by
 intro wh Z9 s Z H Q I h
 refine isTrue_or (Z0 (ha Z9 s Z H Q I h) fun c s1 e=>?_)
 cases c with
 |false=>exact isTrue_or_nil e
 |true=>exact e
def zwn (ha:PT X a tA)(hb:PW X (.BoolOp .And (b::rest) pos) tB'):PW X (.BoolOp .And (a::b::rest) pos) (zy2 tA tB'):=by
 intro wh Z9 s Z H Q I h
 refine isTrue_and (Z0 (ha Z9 s Z H _ I h) fun c s1 ⟨H1,I1,q1⟩=>?_)
 cases c with
 |true=>exact hb wh Z9 s1 Z H1 Q I1 q1
 |false=>exact⟨H1,I1,q1⟩
def zxN (ha:PT X a tA)(hb:PW X (.BoolOp .Or (b::rest) pos) tB'):PW X (.BoolOp .Or (a::b::rest) pos) (tOr tA tB'):=by
 intro wh Z9 s Z H Q I h
 refine isTrue_or (Z0 (ha Z9 s Z H _ I h) fun c s1 ⟨H1,I1,q1⟩=>?_)
 cases c with
 |true=>exact⟨H1,I1,q1⟩
 |false=>exact hb wh Z9 s1 Z H1 Q I1 q1
def zuT (ha:PT X a tA):PT X (.UnaryOp .Not a pos) (zyZ tA):=by
 intro Z9 s Z H Q I h
 exact isTrue_not (ha Z9 s Z H (fun c H1=>Q (!c) H1) I h)
def zxz (ta tb:TE):TE:=fun Z H Q=>ta Z H fun x H1=>∃ c,x=.bl c/\if c=true then tb Z H1 Q else Q (.bl false) H1
def zyz (ta tb:TE):TE:=fun Z H Q=>ta Z H fun x H1=>∃ c,x=.bl c/\if c=true then Q (.bl true) H1 else tb Z H1 Q
def zxk (ta:TE):TE:=fun Z H Q=>ta Z H fun x H1=>∃ c,x=.bl c/\Q (.bl (!c)) H1
def zvJ {op}{t:TE}(h:PE X a t):PE X (.BoolOp op [a] pos) t:=fun Z9 s Z H Q I hw=>BoolOp_one (h Z9 s Z H Q I hw)
def zvu (ha:PE X a ta)(hb:PE X (.BoolOp .And (b::rest) pos) tb):PE X (.BoolOp .And (a::b::rest) pos) (zxz ta tb):=by
 intro Z9 s Z H Q I h
 refine BoolOp_and (Z0 (ha Z9 s Z H _ I h) fun v s1 ⟨x,H1,I1,r1,q1⟩=>?_)
 obtain⟨c,rfl,q1⟩:=q1
 cases r1
 refine wpAny_truthy_bool ?_
 cases c with
 |true=>exact hb Z9 s1 Z H1 Q I1 q1
 |false=>exact⟨.bl false,H1,I1,rfl,q1⟩
def zxs (ha:PE X a ta)(hb:PE X (.BoolOp .Or (b::rest) pos) tb):PE X (.BoolOp .Or (a::b::rest) pos) (zyz ta tb):=by
 intro Z9 s Z H Q I h
 refine BoolOp_or (Z0 (ha Z9 s Z H _ I h) fun v s1 ⟨x,H1,I1,r1,q1⟩=>?_)
 obtain⟨c,rfl,q1⟩:=q1
 cases r1
 refine wpAny_truthy_bool ?_
 cases c with
 |false=>exact hb Z9 s1 Z H1 Q I1 q1
 |true=>exact⟨.bl true,H1,I1,rfl,q1⟩
def zuy (ha:PE X a ta):PE X (.UnaryOp .Not a pos) (zxk ta):=by
 intro Z9 s Z H Q I h
 refine UnaryOp_ (Z0 (ha Z9 s Z H _ I h) fun v s1 ⟨x,H1,I1,r1,q1⟩=>?_)
 obtain⟨c,rfl,q1⟩:=q1
 cases r1
 exact not_of (wpAny_truthy_bool ⟨.bl (!c),H1,I1,rfl,q1⟩)
def tIf (t:TT)(ta tb:TE):TE:=fun Z H Q=>t Z H fun c H1=>if c=true then ta Z H1 Q else tb Z H1 Q
def zrf {c:Expr}(hc:PT X c tA)(ha:PE X a ta)(hb:PE X b tb):PE X (.IfExp c a b pos) (tIf tA ta tb):=by
 intro Z9 s Z H Q I h
 refine wpAny_IfExp (Z0 (hc Z9 s Z H _ I h) fun d s1 ⟨H1,I1,q1⟩=>?_)
 cases d with
 |true=>exact ha Z9 s1 Z H1 Q I1 q1
 |false=>exact hb Z9 s1 Z H1 Q I1 q1
end
def Zr (K:PySem.W.Frag)(H:Hp)(a:Addr)(xs:List V):Prop :=
 Rd H a (.lst xs) \/
  ∃ (o:Obj) (its:Array Value) (n:Nat),K.lookup a=some o/\o.cls=.type "list"/\o.dict=none/\o.data=.seq its n/\its.size<=sizeLine/\Vals xs its.toList
def ZK (K:PySem.W.Frag)(H:Hp)(a:Addr)(xs:List V):Prop :=
 Rd H a (.tup xs) \/
  ∃ (o:Obj) (its:Array Value) (n:Nat),K.lookup a=some o/\o.cls=.type "tuple"/\o.data=.seq its n/\its.size<=sizeLine/\Vals xs its.toList
def zyP:Value->Option V
 |.none=>some .non
 |.bool b=>some (.bl b)
 |.int i _=>some (.int i)
 |.str x _=>some (.str x)
 |.bytes b _=>some (.byt b)
 |.float b _=>some (.flt b)
 |.ref a=>some (.ref a)
 |.type n=>some (.ty n)
 |_=>none
def RelV.abs {x:V}{u:Value}(r:RelV x u):zyP u=some x:=by
 cases x with
 |non=>cases r;rfl
 |bl _=>cases r;rfl
 |int _=>obtain⟨t,rfl⟩:=r;rfl
 |str _=>obtain⟨t,rfl⟩:=r;rfl
 |byt _=>obtain⟨t,rfl⟩:=r;rfl
 |flt _=>obtain⟨t,rfl⟩:=r;rfl
 |ref _=>cases r;rfl
 |ty _=>cases r;rfl
def RelV.inj {x y:V}{u:Value}(r:RelV x u)(q:RelV y u):x=y:=qw (r.abs.symm.trans q.abs)
theorem Vals.inj:∀ {xs ys:List V} {us:List Value},Vals xs us->Vals ys us->xs=ys
 |_,_,_,.nil,.nil=>rfl
 |_,_,_,.cons r t,.cons r' t'=>by rw[r.inj r',Vals.inj t t']
section
variable {X:Cx}{Z9:List (Addr×Obj)}{Z:St}{H:Hp}{s:Shared}{a:Addr}{xs ys:List V}
def Zr.of {K:PySem.W.Frag}(h:H a=some (.lst xs)):Zr K H a xs:=.inl (.inl h)
def ZK.of {K:PySem.W.Frag}(h:H a=some (.tup xs)):ZK K H a xs:=.inl (.inl h)
def Inv.list (I:Inv X Z9 Z H s)(h:Zr X.K H a xs):∃ its:List Value,Vals xs its/\PlainL s.heap a its.toArray/\xs.length<=sizeLine:=by
 rcases h with h|⟨o,its,n,hk,hc,hd,hs,hz,r⟩
 ·obtain⟨z,its,n,r,e⟩:=h.ok I.hok
  exact⟨its,r,⟨_,n,e,rfl,rfl,rfl⟩,z⟩
 ·refine⟨its.toList,r,⟨o,n,I.kIn a o hk,hc,hd,by simpa using hs⟩,?_⟩
  have e:=r.length
  simp only[qN]at e
  lia
def Inv.tuple (I:Inv X Z9 Z H s)(h:ZK X.K H a xs):∃ its:List Value,Vals xs its/\IsTup s.heap a its.toArray/\xs.length<=sizeLine:=by
 rcases h with h|⟨o,its,n,hk,hc,hs,hz,r⟩
 ·obtain⟨z,its,r,p⟩:=h.ok I.hok
  exact⟨its,r,p,z⟩
 ·refine⟨its.toList,r,⟨o,I.kIn a o hk,hc,n,by simpa using hs⟩,?_⟩
  have e:=r.length
  simp only[qN]at e
  lia
def Inv.list_inj (I:Inv X Z9 Z H s)(h:Zr X.K H a xs)(h':Zr X.K H a ys):xs=ys:=by
 obtain⟨its,r,⟨o,n,e,_,_,d⟩,_⟩:=I.list h
 obtain⟨its',r',⟨o',n',e',_,_,d'⟩,_⟩:=I.list h'
 rw[e]at e';cases e'
 rw[d]at d'
 injection d' with d1 _
 have:its=its':=by simpa using congrArg Array.toList d1
 subst this
 exact r.inj r'
def Inv.tuple_inj (I:Inv X Z9 Z H s)(h:ZK X.K H a xs)(h':ZK X.K H a ys):xs=ys:=by
 obtain⟨its,r,⟨o,e,_,n,d⟩,_⟩:=I.tuple h
 obtain⟨its',r',⟨o',e',_,n',d'⟩,_⟩:=I.tuple h'
 rw[e]at e';cases e'
 rw[d]at d'
 injection d' with d1 _
 have:its=its':=by simpa using congrArg Array.toList d1
 subst this
 exact r.inj r'
end
abbrev Cx.wish (X:Cx)(E:Value->Shared->Prop):Cx:={ X with xe:=E }
abbrev Cx.nox (X:Cx):Cx:=X.wish fun _ _=>False
theorem Cx.Ok.wish {X:Cx}(ok:X.Ok)(E:Value->Shared->Prop):(X.wish E).Ok :=
 ⟨ok.mod,ok.kind,ok.glob,ok.blt,ok.above,ok.inj,ok.has,ok.cab,ok.hd,ok.frames,ok.stk,ok.exf,ok.bs,ok.bsz,ok.noex,ok.exfs,ok.funs,ok.frf⟩
def Cx.Ok.unwish {X:Cx}{E:Value->Shared->Prop}(ok:(X.wish E).Ok):X.Ok :=
 ⟨ok.mod,ok.kind,ok.glob,ok.blt,ok.above,ok.inj,ok.has,ok.cab,ok.hd,ok.frames,ok.stk,ok.exf,ok.bs,ok.bsz,ok.noex,ok.exfs,ok.funs,ok.frf⟩
section
variable {X:Cx}{Z9:List (Addr×Obj)}{Z:St}{H:Hp}{s:Shared}{E:Value->Shared->Prop}
theorem Inv.wish (I:Inv X Z9 Z H s)(E:Value->Shared->Prop):Inv (X.wish E) Z9 Z H s:=⟨I.ok.wish E,I.os,I.bare,I.base,I.loc,I.cell,I.free,I.freeC,I.pin,I.hok,I.len⟩
theorem Inv.unwish (I:Inv (X.wish E) Z9 Z H s):Inv X Z9 Z H s:=⟨I.ok.unwish,I.os,I.bare,I.base,I.loc,I.cell,I.free,I.freeC,I.pin,I.hok,I.len⟩
theorem SP.unwish {D:Ends}{f:Flow}{s':Shared}(h:SP (X.wish E) Z9 D f s'):SP X Z9 D f s':=by
 cases f with
 |next=>obtain⟨σ',H',I,q⟩:=h;exact⟨σ',H',I.unwish,q⟩
 |brk=>obtain⟨σ',H',I,q⟩:=h;exact⟨σ',H',I.unwish,q⟩
 |cont=>obtain⟨σ',H',I,q⟩:=h;exact⟨σ',H',I.unwish,q⟩
 |ret u=>obtain⟨v,σ',H',I,r,q⟩:=h;exact⟨v,σ',H',I.unwish,r,q⟩
theorem W4.nox {st:List Stmt}{t:TS}(h:W4 X.nox st t):W4 X st t:=fun Z9 s Z H D I hw =>
 wpAny_mono (h Z9 s Z H D (I.wish _) hw) (fun _ _ q=>q.unwish) fun _ _ z=>False.elim z
end
section
variable {X:Cx}{st:Stmt}{rest:List Stmt}{t u:TS}{e:Expr}{te:TE}{pos:Pos}
def zxo:TS:=fun D Z H=>D.nx Z H
def zze (t u:TS):TS:=fun D Z H=>t { D with nx:=u D } Z H
def zts:W4 X [] zxo:=fun _ _ Z H _ I h=>wpAny_execs_nil ⟨Z,H,I,h⟩
def zqu (h1:PS X st t)(h2:W4 X rest u):W4 X (st::rest) (zze t u):=by
 intro Z9 s Z H D I h
 refine wpAny_execs_cons (Z0 (h1 Z9 s Z H { D with nx:=u D } I h) fun f s1 q=>?_)
 cases f with
 |next =>
  obtain⟨σ',H',I',q⟩:=q
  exact h2 Z9 s1 σ' H' D I' q
 |ret v=>exact q
 |brk=>exact q
 |cont=>exact q
def zs4 (h1:PS X st t):W4 X [st] t:=by
 intro Z9 s Z H D I h
 refine wpAny_execs_cons (Z0 (h1 Z9 s Z H D I h) fun f s1 q=>?_)
 cases f with
 |next=>exact wpAny_execs_nil q
 |ret v=>exact q
 |brk=>exact q
 |cont=>exact q
def Inv.quiet {Z9:List (Addr×Obj)}{Z:St}{H:Hp}{s:Shared}(I:Inv X Z9 Z H s):interactive X.env=false:=by simp[interactive,I.ok.kind]
def zyo (te:TE):TS:=fun D Z H=>te Z H fun _ H1=>D.nx Z H1
def ztI (he:PE X e te)(hs:swapsWith e none pos.line X.env=pure false:=by rfl):PS X (.Expr e pos) (zyo te):=by
 intro Z9 s Z H D I h
 exact wpAny_Expr_any (Z0 (he Z9 s Z H _ I h) fun v s1 ⟨x,H1,I1,r1,q1⟩=>⟨Z,H1,I1,q1⟩) I.quiet hs
def zyy (te:TE):TS:=fun D Z H=>te Z H D.rt
def zuY (he:PE X e te):PS X (.Return (some e) pos) (zyy te):=by
 intro Z9 s Z H D I h
 exact wpAny_Return_some (Z0 (he Z9 s Z H _ I h) fun v s1 ⟨x,H1,I1,r1,q1⟩=>⟨x,Z,H1,I1,r1,q1⟩)
def zyI (c:TT)(t u:TS):TS:=fun D Z H=>c Z H fun b H1=>if b=true then t D Z H1 else u D Z H1
def zyt {c:Expr}{a b:List Stmt}{tc:TT}(hc:PT X c tc)(ha:W4 X a t)(hb:W4 X b u):PS X (.If c a b pos) (zyI tc t u):=by
 intro Z9 s Z H D I h
 refine wpAny_If (Z0 (hc Z9 s Z H _ I h) fun d s1 ⟨H1,I1,q1⟩=>?_)
 cases d with
 |true=>exact ha Z9 s1 Z H1 D I1 q1
 |false=>exact hb Z9 s1 Z H1 D I1 q1
def zwr:TS:=fun _ _ _=>False
def zqE:PS X st zwr:=fun _ _ _ _ _ _ h=>h.elim
end
abbrev TG:=V->St->Hp->(St->Hp->Prop)->Prop
abbrev Ui:=List V->St->Hp->(St->Hp->Prop)->Prop
def PG (X:Cx)(target:Expr)(t:TG):Prop :=
 ∀ (Z9:List (Addr×Obj)) (s:Shared) (Z:St) (H:Hp) (v:V) (u:Value) (Q:St->Hp->Prop),Inv X Z9 Z H s->RelV v u->t v Z H Q ->
  wpAny (model X.prog X.w) X.A (assign target X.env u) (fun _ s'=>∃ σ' H',Inv X Z9 σ' H' s'/\Q σ' H') X.xe s
def PGs (X:Cx)(ts:List Expr)(t:Ui):Prop :=
 ∀ (Z9:List (Addr×Obj)) (s:Shared) (Z:St) (H:Hp) (vs:List V) (us:List Value) (Q:St->Hp->Prop),Inv X Z9 Z H s->Vals vs us->t vs Z H Q ->
  wpAny (model X.prog X.w) X.A (assignInOrder ((assignEach ts X.env).map (·.2)) us) (fun _ s'=>∃ σ' H',Inv X Z9 σ' H' s'/\Q σ' H') X.xe s
abbrev zra:=V->V->V->Hp->(Hp->Prop)->Prop
def zv4 (X:Cx)(t:zra):Prop :=
 ∀ (Z9:List (Addr×Obj)) (s:Shared) (Z:St) (H:Hp) (o i v:V) (ov iv u:Value) (Q:Hp->Prop),Inv X Z9 Z H s->RelV o ov->RelV i iv->RelV v u->t o i v H Q ->
  wpAny (model X.prog X.w) X.A (setItem ov iv u) (fun _ s'=>∃ H',Inv X Z9 Z H' s'/\Q H') X.xe s
abbrev TIp:=V->V->Hp->VK->Prop
def PIp (X:Cx)(op:Operator)(t:TIp):Prop :=
 ∀ (Z9:List (Addr×Obj)) (s:Shared) (Z:St) (H:Hp) (x y:V) (v u:Value) (Q:VK),Inv X Z9 Z H s->RelV x v->RelV y u->t x y H Q ->
  wpAny (model X.prog X.w) X.A (inplaceOp op v u) (EP X Z9 Z Q) X.xe s
section
variable {X:Cx}{pos:Pos}
def YW (i:Nat):TG:=fun v Z H Q=>Q (Z.set i (some v)) H
def Wg {i:Nat}{x:Str}(hN:X.N.Nodup)(hi:X.N[i]?=some x)(hx:Loc X.env.scope x)(hf:X.fn x=true\/X.env.scope.names.lookup x=some .local:=by first|exact .inl rfl|exact .inr rfl|assumption):PG X (.Name x pos) (YW i):=by
 intro Z9 s Z H v u Q I r h
 exact wpAny_assign_Name (zio I hN hi hx r (fun s' I'=>⟨_,H,I',h⟩) hf)
def Yr:Ui:=fun vs Z H Q=>vs=[]/\Q Z H
def z9 (t:TG)(u:Ui):Ui:=fun vs Z H Q=>∃ v r,vs=v::r/\t v Z H fun σ' H'=>u r σ' H' Q
def O8:PGs X [] Yr:=by
 intro Z9 s Z H vs us Q I r h
 obtain⟨e,h⟩:=h
 subst e
 cases r
 exact assignInOrder_nil ⟨Z,H,I,h⟩
def V6 {e:Expr}{es:List Expr}{t:TG}{u:Ui}(h1:PG X e t)(h2:PGs X es u)
  (hs:(assignEach (e::es) X.env).map (·.2)=assign e X.env::(assignEach es X.env).map (·.2):=by rfl):PGs X (e::es) (z9 t u):=by
 intro Z9 s Z H vs us Q I r h
 obtain⟨v,vr,e1,h⟩:=h
 subst e1
 cases r with
 |cons r rr =>
  rw[hs]
  refine assignInOrder_cons (Z0 (h1 Z9 s Z H _ _ _ I r h) fun _ s1 ⟨σ1,H1,I1,q1⟩=>?_)
  exact h2 Z9 s1 σ1 H1 _ _ Q I1 rr q1
def Yq (K:PySem.W.Frag)(n:Nat)(t:Ui):TG:=fun v Z H Q=>∃ a xs,v=.ref a/\ZK K H a xs/\xs.length=n/\t xs Z H Q
def zfz {es:List Expr}{k:Nat}{t:Ui}{n:Nat}(hc:X.calm=true)(h:PGs X es t)
  (hn:(assignEach es X.env).length=n:=by rfl) (hst:(assignEach es X.env).findIdx? (·.1)=none:=by rfl):PG X (.Tuple es k pos) (Yq X.K n t):=by
 intro Z9 s Z H v u Q I r hw
 obtain⟨a,xs,e1,hq,hl,hw⟩:=hw
 subst e1
 cases r
 obtain⟨its,rv,ht,hz⟩:=I.tuple hq
 refine assign_Tuple_tuple (I.ok.hd hc) ht (by simp[hn,<- hl,rv.length]) hst fun h' hx=>?_
 have I1:Inv X Z9 Z H { s with heap:=h' }:=I.kept (t':=s.toks) fun b o e=>hx b o (qK (qq e)) e
 exact h Z9 _ Z H xs _ Q I1 (by simpa using rv) hw
def Tq (to ti:TE)(t:zra):TG:=fun v Z H Q=>to Z H fun o H1=>ti Z H1 fun i H2=>t o i v H2 fun H3=>Q Z H3
def zu8 {o i:Expr}{to ti:TE}{t:zra}(ho:PE X o to)(hi:PE X i ti)(hs:zv4 X t)
  (ha:∀ v,assign (.Subscript o i pos) X.env v=(do
   let ov <- holding [v] (eval o X.env)
   let iv <- holding [v,ov] (eval i X.env)
   standAt pos
   holding [v,ov,iv] (setItem ov iv v)
   release [v,ov,iv] []):=by intro _;rfl):PG X (.Subscript o i pos) (Tq to ti t):=by
 intro Z9 s Z H v u Q I r h
 rw[ha]
 refine wpAny_bind (wpAny_holding (Z0 (ho Z9 s Z H _ I h) fun ov s1 ⟨x,H1,I1,r1,q1⟩=>?_))
 refine wpAny_bind (wpAny_holding (Z0 (hi Z9 s1 Z H1 _ I1 q1) fun iv s2 ⟨y,H2,I2,r2,q2⟩=>?_))
 refine wpAny_bind (wpAny_standAt (wpAny_bind (wpAny_holding (Z0 (hs Z9 s2 Z H2 x y v ov iv u _ I2 r1 r2 r q2) fun _ s3 ⟨H3,I3,q3⟩=>?_))))
 exact wpAny_release ⟨Z,H3,I3,q3⟩
def zrC (te:TE)(g:TG):TS:=fun D Z H=>te Z H fun x H1=>g x Z H1 D.nx
def zu5 {tg e:Expr}{te:TE}{g:TG}(he:PE X e te)(hg:PG X tg g)(hs:swapsWithSole [tg] e pos.line X.env=pure false:=by rfl)(hw:swappedStores [tg] e X.env=pure none:=by rfl)
  (h1:(assignEach [tg] X.env).map (·.2)=[assign tg X.env]:=by rfl):PS X (.Assign [tg] e pos) (zrC te g):=by
 intro Z9 s Z H D I h
 refine wpAny_Assign_stores (Z0 (he Z9 s Z H _ I h) fun v s1 ⟨x,H1,I1,r1,q1⟩=>?_) hs hw
 rw[h1]
 exact Z0 (hg Z9 s1 Z H1 x v _ I1 r1 q1) fun _ s2 q=>q
def zwa {i:Nat}{x:Str}{e:Expr}{te:TE}{pos':Pos}(hN:X.N.Nodup)(hi:X.N[i]?=some x)(hx:Loc X.env.scope x)(he:PE X e te)(hs:swapsWith e (some (.Name x pos')) pos.line X.env=pure false:=by rfl)(hf:X.fn x=true\/X.env.scope.names.lookup x=some .local:=by first|exact .inl rfl|exact .inr rfl|assumption) :
  PS X (.Assign [.Name x pos'] e pos) (zrC te (YW i)):=by
 intro Z9 s Z H D I h
 refine wpAny_Assign_Name (Z0 (he Z9 s Z H _ I h) fun v s1 ⟨y,H1,I1,r1,q1⟩=>?_) hs
 exact zio I1 hN hi hx r1 (fun s2 I2=>⟨_,H1,I2,q1⟩) hf
def zzh (i:Nat)(te:TE)(ti:TIp):TS:=fun D Z H=>∃ x,Z[i]?=some (some x)/\te Z H fun y H1=>ti x y H1 fun z H2=>D.nx (Z.set i (some z)) H2
def zvL {i:Nat}{x:Str}{e:Expr}{te:TE}{op:Operator}{ti:TIp}{pos':Pos}(hN:X.N.Nodup)(hi:X.N[i]?=some x)(hx:Loc X.env.scope x)(he:PE X e te)(ho:PIp X op ti)(hf:X.fn x=true\/X.env.scope.names.lookup x=some .local:=by first|exact .inl rfl|exact .inr rfl|assumption) :
  PS X (.AugAssign (.Name x pos') op e pos) (zzh i te ti):=by
 intro Z9 s Z H D I h
 obtain⟨v,e1,h⟩:=h
 obtain⟨m,hn,hl⟩:=I.loc
 have vis:Vis X.env.scope x:=by rcases hx with k|k;exact .inl k;exact .inr (.inl k)
 obtain⟨u,r,l⟩:=hl i x v hi e1 vis
 refine wpAny_AugAssign_Name ?_
 have go:wpAny (model X.prog X.w) X.A (eval e X.env) (fun w s₂=>wpAny (model X.prog X.w) X.A (inplaceOp op u w) (fun r s₃=>wpAny (model X.prog X.w) X.A (storeName X.env x r) (fun _=>SP X Z9 D .next) X.xe s₃) X.xe s₂) X.xe s:=by
  refine Z0 (he Z9 s Z H _ I h) fun w s1 ⟨y,H1,I1,r1,q1⟩=>?_
  refine Z0 (ho Z9 s1 Z H1 v y u w _ I1 r r1 q1) fun z s2 ⟨zv,H2,I2,r2,q2⟩=>?_
  exact zio I2 hN hi hx r2 (fun s3 I3=>⟨_,H2,I3,q2⟩) hf
 rcases l with⟨hk,hm⟩|⟨hk,c,hc,hcell⟩
 ·exact wpAny_loadName_local I.ok.kind hk hn hm go
 ·rcases hk with hk|hk
  ·exact wpAny_loadName_cell I.ok.kind hk hc hcell go
  ·rcases hx with k|k
   ·have:X.env.scope.names.lookup x=some .free:=hk
    rw[k]at this;cases this
   ·have:X.env.scope.names.lookup x=some .free:=hk
    rw[k]at this;cases this
def ipI (f:Int->Int->Int):TIp:=fun x y H Q=>∃ i j,x=.int i/\y=.int j/\Q (.int (f i j)) H
def zwd:PIp X .Add (ipI fun i j=>i+j):=by
 intro Z9 s Z H x y v u Q I r1 r2 h
 obtain⟨i,j,e1,e2,q⟩:=h
 subst e1;subst e2
 obtain⟨t,rfl⟩:=r1
 obtain⟨t',rfl⟩:=r2
 exact iadd_int ⟨.int _,H,I.tok _,⟨_,rfl⟩,q⟩
end
section
variable {X:Cx}{pos:Pos}
def zvk (c:TT)(tb:TS):TS:=fun D Z H=>∃ W:Nat->St->Hp->Prop,(∃ m,W m Z H)/\∀ m Z H,W m Z H ->
 c Z H fun b H1=>if b=true then ∃ N:St->Hp->Prop,(∀ σ' H',N σ' H'->∃ m',m'<m/\W m' σ' H')/\tb { D with nx:=N,ct:=N,bk:=D.nx } Z H1 else D.nx Z H1
def zrY {c:Expr}{body:List Stmt}{tc:TT}{tb:TS}(hp:PassesOwn (model X.prog X.w) X.A X.env X.xe)(hc:PT X c tc)(hb:W4 X body tb):PS X (.While c body [] pos) (zvk tc tb):=by
 intro Z9 s Z H D I h
 obtain⟨W,⟨m0,w0⟩,turn⟩:=h
 refine wpAny_While (codeAny_whileLoop (fun n s'=>∃ σ' H',Inv X Z9 σ' H' s'/\W n σ' H') ?_ m0 ⟨Z,H,I,w0⟩)
 rintro n s1 ⟨σ1,H1,I1,w1⟩
 refine wpAny_passesOwn hp (Z0 (hc Z9 s1 σ1 H1 _ I1 (turn n σ1 H1 w1)) fun b s2 ⟨H2,I2,q2⟩=>?_)
 cases b with
 |true =>
  obtain⟨N,hN,q2⟩:=q2
  rw[if_pos rfl]
  refine wpAny_passesOwn hp (Z0 (hb Z9 s2 σ1 H2 _ I2 q2) fun f s3 q3=>?_)
  cases f with
  |next =>
   obtain⟨σ3,H3,I3,n3⟩:=q3
   obtain⟨m',hm,w3⟩:=hN σ3 H3 n3
   exact⟨m',hm,σ3,H3,I3,w3⟩
  |cont =>
   obtain⟨σ3,H3,I3,n3⟩:=q3
   obtain⟨m',hm,w3⟩:=hN σ3 H3 n3
   exact⟨m',hm,σ3,H3,I3,w3⟩
  |brk=>exact q3
  |ret v=>exact q3
 |false =>
  rw[if_neg qp]
  exact wpAny_execs_nil ⟨σ1,H2,I2,q2⟩
end
structure It where
 go:Nat->Hp->Prop
 yld:Nat->Hp->V->Hp->Prop
 stop:Nat->Hp->Prop
def U9 (X:Cx)(Z9:List (Addr×Obj))(H:Hp)(b:Addr):Prop :=
 H b=none/\b≠X.env.locals/\b∉X.fs/\(b∈X.ex\/X.s₀.heap.objs.size<=b)/\(∀ x c,X.env.cells.lookup x=some c->c≠b)/\∀ p∈X.pn++Z9,p.1≠b
def Inv.fpOk {X:Cx}{Z9:List (Addr×Obj)}{Z:St}{H H':Hp}{s:Shared}{b:Addr}(I:Inv X Z9 Z H s)(hb:s.heap.objs.size<=b)(hn:H' b=none):U9 X Z9 H' b:=by
 refine⟨hn,Vr (qD I.lt hb),I.nofs hb,.inr (qY I.sz hb),fun x c e z=>?_,fun p hp z=>?_⟩
 ·obtain⟨v,q⟩:=I.cell x c e
  exact absurd (qD q.lt (by rw[z];exact hb)) (Wx _)
 ·exact absurd (qD (qq (I.pin p hp).1) (by rw[z];exact hb)) (Wx _)
structure Turn (P:Program)(w:World)(K:PySem.W.Frag)(tg:Expr)(J:It)(fp:List Addr)(it:Addr)(tn:Nat->Heap->Prop):Prop where
 mem:it∈fp
 obj:∀ i h,tn i h->∀ b∈fp,∃ o,h.get? b=some o/\∀ v,o.data≠.cell v
 keep:∀ i h h',tn i h->(∀ b∈fp,∀ o,h.get? b=some o->h'.get? b=some o)->tn i h'
 item:∀ (X:Cx),X.prog=P->X.w=w->X.K=K->X.calm=true->∀ (i:Nat) (Z9:List (Addr×Obj)) (s:Shared) (Z:St) (H:Hp) (E:Value->Shared->Prop),Inv X Z9 Z H s->(∀ b∈fp,U9 X Z9 H b)->tn i s.heap->J.go i H ->
  wpAny (model P w) X.A (pyNext (.ref it)) (fun r s1=>∃ u,r=some u /\
   wpAny (model P w) X.A (letOwnedTupleGo tg (.ref it) u) (fun _ s2=>∃ x H',Inv X Z9 Z H' s2/\RelV x u/\J.yld i H x H'/\tn (i+1) s2.heap/\∀ b∈fp,H' b=none) E s1) E s
 done:∀ (X:Cx),X.prog=P->X.w=w->X.K=K->X.calm=true->∀ (i:Nat) (Z9:List (Addr×Obj)) (s:Shared) (Z:St) (H:Hp) (E:Value->Shared->Prop),Inv X Z9 Z H s->(∀ b∈fp,U9 X Z9 H b)->tn i s.heap->J.stop i H ->
  wpAny (model P w) X.A (pyNext (.ref it)) (fun r s1=>r=none/\Inv X Z9 Z H s1) E s
 self:∀ (A:Around) (i:Nat) (s:Shared) (Q:Value->Shared->Prop) (E:Value->Shared->Prop),tn i s.heap->Q (.ref it) s->wpAny (model P w) A (pyIter (.ref it)) Q E s
abbrev TI:=St->Hp->(It->Hp->Prop)->Prop
def PIE (X:Cx)(Z9:List (Addr×Obj))(Z:St)(tg:Expr)(R:It->Hp->Prop)(itv:Value)(s2:Shared):Prop :=
 ∃ (it:Addr) (fp:List Addr) (tn:Nat->Heap->Prop) (J:It) (H':Hp),itv=.ref it/\Inv X Z9 Z H' s2/\Turn X.prog X.w X.K tg J fp it tn/\tn 0 s2.heap/\(∀ b∈fp,U9 X Z9 H' b)/\R J H'
def PI (X:Cx)(tg iter:Expr)(wi:TI):Prop :=
 ∀ (Z9:List (Addr×Obj)) (s:Shared) (Z:St) (H:Hp) (R:It->Hp->Prop),Inv X Z9 Z H s->wi Z H R ->
  wpAny (model X.prog X.w) X.A (eval iter X.env) (fun v s1=>wpAny (model X.prog X.w) X.A (pyIter v) (PIE X Z9 Z tg R) X.xe s1) X.xe s
def zhn {M:Model}{A:Around}{E:Value->Shared->Prop}{s:Shared}{tg:Expr}{it:Addr}{u:Value}{o:Obj}{n:String}{vs:Array Value}{Q:Unit->Shared->Prop}(ho:s.heap.get? it=some o)(hc:o.cls=.type n)(hd:o.data=.fields vs)
    (hn:["enumerate","zip","dict_itemiterator","dict_reverseitemiterator","odict_iterator","itertools.zip_longest","itertools.pairwise"].contains n=false) (hQ:Q () s):wpAny M A (letOwnedTupleGo tg (.ref it) u) Q E s:=by
  unfold letOwnedTupleGo
  cases tg<;>first
    |exact wpAny_pure hQ
    | (cases u <;> first
        |exact wpAny_pure hQ
        | (refine wpAny_bind (wpAny_load ho ?_)
           rw[hc,hd]
           show wpAny M A (if(["enumerate","zip","dict_itemiterator","dict_reverseitemiterator","odict_iterator","itertools.zip_longest","itertools.pairwise"].contains n&&vs[0]?==some (rawInt _))=true then _ else _) Q E s
           rw[if_neg (by intro h;rw[hn,Bool.false_and]at h;cases h)]
           exact wpAny_pure hQ))
def Itl (K:PySem.W.Frag)(a:Addr):It :=
 ⟨fun i H=>∃ xs x,Zr K H a xs/\xs[i]?=some x,fun i H x H'=>H'=H/\∀ xs,Zr K H a xs->xs[i]?=some x,fun i H=>∃ xs,Zr K H a xs/\xs.length<=i⟩
def Itt (K:PySem.W.Frag)(a:Addr):It :=
 ⟨fun i H=>∃ xs x,ZK K H a xs/\xs[i]?=some x,fun i H x H'=>H'=H/\∀ xs,ZK K H a xs->xs[i]?=some x,fun i H=>∃ xs,ZK K H a xs/\xs.length<=i⟩
def Q9 (lo:Int)(n:Nat):It:=⟨fun i _=>i<n,fun i H x H'=>H'=H/\x=.int (lo+i),fun i _=>n<=i⟩
def zo5 {P:Program}{w:World}{K:PySem.W.Frag}{tg:Expr}(a it:Addr):Turn P w K tg (Itl K a) [it] it (fun i h=>h.IsListIter it a i) where
 mem:=by simp
 obj:=fun i h st b hb=>by
  have e:b=it:=by simpa using hb
  subst e
  obtain⟨o,e,c,d⟩:=st
  exact⟨o,e,fun v z=>by rw[d]at z;cases z⟩
 keep:=fun i h h' st k=>st.at fun o e=>k it (by simp) o e
 item:=by
  intro X hP hw hK hc i Z9 s Z H E I hf st hg
  subst hP hw hK
  obtain⟨xs,x,hq,hx⟩:=hg
  obtain⟨its,rv,p,hz⟩:=I.list hq
  obtain⟨u,hu,ru⟩:=rv.get hx
  obtain⟨f0,f1,f2,f3,f4,f5⟩:=hf it (by simp)
  refine wpAny_pyNext_list_item st p.isList (x:=u) (by simpa using hu) fun h' st' sb=>?_
  have I1:Inv X Z9 Z H { s with heap:=h' }:=I.turned (t':=s.toks) (fun b o hb e=>(sb.2 b hb).trans e) f0 f1 f3 f4 f5
  obtain⟨o,e,c,d⟩:=id st'
  exact⟨u,rfl,zhn (s:={ s with heap:=h' }) e c d (by decide) ⟨x,H,I1,ru,⟨rfl,fun ys hy=>by rw[I.list_inj hy hq];exact hx⟩,st',fun b hb=>(hf b hb).1⟩⟩
 done:=by
  intro X hP hw hK hc i Z9 s Z H E I hf st hg
  subst hP hw hK
  obtain⟨xs,hq,hx⟩:=hg
  obtain⟨its,rv,p,hz⟩:=I.list hq
  obtain⟨f0,f1,f2,f3,f4,f5⟩:=hf it (by simp)
  have hl:=rv.length
  exact wpAny_pyNext_list_end (I.ok.hd hc) st p.isList (by simp;lia) fun h' eb=>⟨rfl,I.turned (t':=s.toks) (fun b o hb e=>eb b o hb e) f0 f1 f3 f4 f5⟩
 self:=fun _ _ _ _ _ st h=>wpAny_pyIter_listiter st h
def znP {P:Program}{w:World}{K:PySem.W.Frag}{tg:Expr}(a it:Addr):Turn P w K tg (Itt K a) [it] it (fun i h=>h.IsTupleIter it a i) where
 mem:=by simp
 obj:=fun i h st b hb=>by
  have e:b=it:=by simpa using hb
  subst e
  obtain⟨o,e,c,d⟩:=st
  exact⟨o,e,fun v z=>by rw[d]at z;cases z⟩
 keep:=fun i h h' st k=>st.at fun o e=>k it (by simp) o e
 item:=by
  intro X hP hw hK hc i Z9 s Z H E I hf st hg
  subst hP hw hK
  obtain⟨xs,x,hq,hx⟩:=hg
  obtain⟨its,rv,p,hz⟩:=I.tuple hq
  obtain⟨u,hu,ru⟩:=rv.get hx
  obtain⟨f0,f1,f2,f3,f4,f5⟩:=hf it (by simp)
  refine wpAny_pyNext_tuple_item st (show s.heap.IsTuple a its.toArray from p) (x:=u) (by simpa using hu) fun h' st' sb=>?_
  have I1:Inv X Z9 Z H { s with heap:=h' }:=I.turned (t':=s.toks) (fun b o hb e=>(sb.2 b hb).trans e) f0 f1 f3 f4 f5
  obtain⟨o,e,c,d⟩:=id st'
  exact⟨u,rfl,zhn (s:={ s with heap:=h' }) e c d (by decide) ⟨x,H,I1,ru,⟨rfl,fun ys hy=>by rw[I.tuple_inj hy hq];exact hx⟩,st',fun b hb=>(hf b hb).1⟩⟩
 done:=by
  intro X hP hw hK hc i Z9 s Z H E I hf st hg
  subst hP hw hK
  obtain⟨xs,hq,hx⟩:=hg
  obtain⟨its,rv,p,hz⟩:=I.tuple hq
  obtain⟨f0,f1,f2,f3,f4,f5⟩:=hf it (by simp)
  have hl:=rv.length
  exact wpAny_pyNext_tuple_end (I.ok.hd hc) st (show s.heap.IsTuple a its.toArray from p) (by simp;lia) fun h' eb=>⟨rfl,I.turned (t':=s.toks) (fun b o hb e=>eb b o hb e) f0 f1 f3 f4 f5⟩
 self:=fun _ _ _ _ _ st h=>wpAny_pyIter_tupleiter st h
def ziR {P:Program}{w:World}{K:PySem.W.Frag}{tg:Expr}(it:Addr)(lo:Int)(n:Nat):Turn P w K tg (Q9 lo n) [it] it (fun i h=>IsRangeIter h it (lo+(i:Nat)*1) ((n:Int)-(i:Nat)) 1) where
 mem:=by simp
 obj:=fun i h st b hb=>by
  have e:b=it:=by simpa using hb
  subst e
  exact⟨_,st,fun v z=>by
   have z':Data.fields _=Data.cell v:=z
   cases z'⟩
 keep:=fun i h h' st k=>k it (by simp) _ st
 item:=by
  intro X hP hw hK hc i Z9 s Z H E I hf st hg
  subst hP hw hK
  obtain⟨f0,f1,f2,f3,f4,f5⟩:=hf it (by simp)
  have W:=Walks.range (prog:=X.prog) (w:=X.w) (I.ok.hd hc) it lo 1 n
  refine W.item i s _ _ hg st fun v h' tk hv st' kk=>?_
  obtain⟨t,rfl⟩:=hv
  have I1:Inv X Z9 Z H { s with heap:=h',toks:=tk }:=I.turned (fun b o hb e=>kk b o (by simpa using hb) e) f0 f1 f3 f4 f5
  refine⟨_,rfl,zhn (s:={ s with heap:=h',toks:=tk }) (n:="range_iterator") st' rfl rfl (by decide) ⟨.int (lo+i),H,I1,⟨t,?_⟩,⟨rfl,rfl⟩,st',fun b hb=>(hf b hb).1⟩⟩
  rw[WR]
 done:=by
  intro X hP hw hK hc i Z9 s Z H E I hf st hg
  subst hP hw hK
  obtain⟨f0,f1,f2,f3,f4,f5⟩:=hf it (by simp)
  exact wpAny_pyNext_range_end (I.ok.hd hc) st (by have:n<=i:=hg;lia) fun h' eb=>⟨rfl,I.turned (t':=s.toks) (fun b o hb e=>eb b o hb e) f0 f1 f3 f4 f5⟩
 self:=fun _ _ _ _ _ st h=>wpAny_pyIter_rangeiter st h
section
variable {X:Cx}{tg:Expr}
def zrK {Z9:List (Addr×Obj)}{Z:St}{H:Hp}{s:Shared}{R:It->Hp->Prop}{E:Value->Shared->Prop}{lo hi:Int}{t u v:Tok}{tk:Nat}(I:Inv X Z9 Z H s)(h1:-(2 ^ 62)<=lo)(h2:lo<2 ^ 62)(h3:-(2 ^ 62)<=hi)(h4:hi<2 ^ 62)
    (q:R (Q9 lo (hi-lo).toNat) H):wpAny (model X.prog X.w) X.A (pyIter (.ref s.heap.objs.size)) (PIE X Z9 Z tg R) E { s with heap:=s.heap.push { cls:=.type "range",data:=.fields #[.int lo t,.int hi u,.int 1 v] },toks:=tk }:=by
  refine wpAny_pyIter_range (IsRange.new ..) (small_one h1 h2 h3 h4) ?_
  have I1:Inv X Z9 Z H { s with heap:=s.heap.push { cls:=.type "range",data:=.fields #[.int lo t,.int hi u,.int 1 v] },toks:=tk }:=I.kept fun b o e=>qd _ e
  refine⟨(s.heap.push { cls:=.type "range",data:=.fields #[.int lo t,.int hi u,.int 1 v] }).objs.size,[(s.heap.push { cls:=.type "range",data:=.fields #[.int lo t,.int hi u,.int 1 v] }).objs.size],_,_,H,rfl,
    I1.kept (t':=tk) fun b o e=>qd _ e,ziR _ lo (hi-lo).toNat,?_,fun b hb=>?_,q⟩
  . have e1:lo+((0:Nat):Int)*1=lo:=by simp
    have e2:(((hi-lo).toNat:Nat):Int)-((0:Nat):Int)=Builtin.Range.rangeSize lo hi 1:=by rw[rangeSize_one];split<;>lia
    show IsRangeIter _ _ (lo+((0:Nat):Int)*1) ((((hi-lo).toNat:Nat):Int)-((0:Nat):Int)) 1
    rw[e1,e2]
    exact Heap.get?_push_size _ rfl
  . have e:b=(s.heap.push { cls:=.type "range",data:=.fields #[.int lo t,.int hi u,.int 1 v] }).objs.size:=by simpa using hb
    subst e
    exact I1.fpOk (qf _) (I1.hok.fresh (qf _))
def PJ (ta:TA):TI:=fun Z H R=>ta Z H fun vs H1=>∃ j:Int,vs=[.int j]/\-(2 ^ 62)<=j/\j<2 ^ 62/\R (Q9 0 j.toNat) H1
def zpz {a:Expr}{ta:TA}{p pos:Pos}(hg:Gl X "range")(hm:X.mg "range"=none)(ha:PA X [a] ta)(hs:starEach [a] X.env=[(false,eval a X.env)]:=by rfl):PI X tg (.Call (.Name "range" p) [a] [] pos) (PJ ta):=by
 intro Z9 s Z H R I h
 refine Call_ (UW I hg hm boot_range (PyProof.Rows.callWith_type1 (Z0 (ha pos Z9 s Z H _ I h) fun us s1 ⟨vs,H1,I1,r1,q1⟩=>?_) hs rfl))
 obtain⟨j,e,q1,q2,q⟩:=q1
 subst e
 cases r1 with
 |cons r rr =>
  cases rr
  obtain⟨t,rfl⟩:=r
  exact call_range_1 (zrK I1 (by lia) (by lia) q1 q2 (by simpa using q))
def zyU (wi:TI)(g:TG)(tb:TS):TS:=fun D Z H=>wi Z H fun J H1=>∃ W:Nat->Nat->St->Hp->Prop,(∃ m,W 0 m Z H1)/\∀ i m Z H,W i m Z H ->
 (J.stop i H/\D.nx Z H)\/(J.go i H/\∃ N:St->Hp->Prop,(∀ σ' H',N σ' H'->∃ m',m'<m/\W (i+1) m' σ' H')/\∀ x H',J.yld i H x H'->g x Z H' fun σ2 H2=>tb { D with nx:=N,ct:=N,bk:=D.nx } σ2 H2)
def zgx (fp:List Addr)(h:Heap):List (Addr×Obj):=fp.filterMap fun b=>(h.get? b).map fun o=>(b,o)
def zek {fp:List Addr}{h:Heap}{b:Addr}{o:Obj}(hb:b∈fp)(e:h.get? b=some o):(b,o)∈zgx fp h:=TQ.mpr ⟨b,hb,by rw[e];rfl⟩
def zp8 {fp:List Addr}{h:Heap}{p:Addr×Obj}(hp:p∈zgx fp h):p.1∈fp/\h.get? p.1=some p.2:=by
 obtain⟨b,hb,e⟩:=TQ.mp hp
 cases q:h.get? b with
 |none=>rw[q]at e;cases e
 |some o =>
  rw[q]at e
  have e':(b,o)=p:=qw e
  subst e'
  exact⟨hb,q⟩
def Inv.pinned {Z9:List (Addr×Obj)}{Z:St}{H:Hp}{s:Shared}{fp:List Addr}(I:Inv X Z9 Z H s)(hf:∀ b∈fp,U9 X Z9 H b)(ho:∀ b∈fp,∃ o,s.heap.get? b=some o/\∀ v,o.data≠.cell v):Inv X (Z9++zgx fp s.heap) Z H s :=
 I.pins_of fun p hp=>(qJ.mp hp).elim (fun z=>I.pin p (qV _ z)) fun z=>by
  obtain⟨hb,e⟩:=zp8 z
  obtain⟨f0,f1,f2,_⟩:=hf p.1 hb
  obtain⟨o,e',d⟩:=ho p.1 hb
  rw[e]at e';cases e'
  exact⟨e,f0,f1,f2,d⟩
def Inv.unpinned {Z9 pl:List (Addr×Obj)}{Z:St}{H:Hp}{s:Shared}(I:Inv X (Z9++pl) Z H s):Inv X Z9 Z H s:=I.pins_of fun p hp=>I.pin p (qV _ (qaB _ hp))
def zwB {iter:Expr}{body:List Stmt}{wi:TI}{g:TG}{tb:TS}{pos:Pos}(hp:PassesOwn (model X.prog X.w) X.A X.env X.xe)(hc:X.calm=true)(hi:PI X tg iter wi)(hg:PG X tg g)(hb:W4 X body tb)
  (hs:∀ x,foldedSetIterable iter X.env x=pure x:=by intro _;rfl):PS X (.For tg iter body [] pos) (zyU wi g tb):=by
 intro Z9 s Z H D I h
 refine wpAny_For (Z0 (hi Z9 s Z H _ I h) fun v s1 h1=>Z0 h1 fun itv s2 h2=>?_) hs
 obtain⟨it,fp,tn,J,H2,e,I2,T,st2,f2,W,⟨m0,w0⟩,turn⟩:=h2
 subst e
 have stat:∀ {H':Hp},(∀ b∈fp,H' b=none)->∀ b∈fp,U9 X Z9 H' b:=fun hn b hb=>⟨hn b hb,(f2 b hb).2⟩
 refine codeAny_forLoop_any (fun n s'=>∃ i σ' H',Inv X Z9 σ' H' s'/\tn i s'.heap/\(∀ b∈fp,H' b=none)/\W i n σ' H') ?_ m0 ⟨0,Z,H2,I2,st2,fun b hb=>(f2 b hb).1,w0⟩
 rintro n s3 ⟨i,σ3,H3,I3,st3,fr3,w3⟩
 rcases turn i n σ3 H3 w3 with⟨stop,qn⟩|⟨go,N,hN,step⟩
 ·refine wpAny_passesOwn hp (Z0 (T.done X rfl rfl rfl hc i Z9 s3 σ3 H3 X.xe I3 (stat fr3) st3 stop) fun r s4 ⟨hr,I4⟩=>?_)
  subst hr
  exact wpAny_execs_nil ⟨σ3,H3,I4,qn⟩
 ·refine wpAny_passesOwn hp (Z0 (T.item X rfl rfl rfl hc i Z9 s3 σ3 H3 X.xe I3 (stat fr3) st3 go) fun r s4 ⟨u,hr,h4⟩=>?_)
  subst hr
  refine wpAny_passesOwn hp (Z0 h4 fun _ s5 ⟨x,H5,I5,r5,y5,st5,fr5⟩=>?_)
  have I5':=I5.pinned (stat fr5) (T.obj _ _ st5)
  refine wpAny_passesOwn hp (Z0 (hg _ s5 σ3 H5 x u _ I5' r5 (step x H5 y5)) fun _ s6 ⟨σ6,H6,I6,q6⟩=>?_)
  refine wpAny_passesOwn hp (Z0 (hb _ s6 σ6 H6 _ I6 q6) fun f s7 q7=>?_)
  have again:∀ {σ7:St} {H7:Hp},Inv X (Z9++zgx fp s5.heap) σ7 H7 s7->N σ7 H7->∃ m,m<n/\∃ i σ' H',Inv X Z9 σ' H' s7/\tn i s7.heap/\(∀ b∈fp,H' b=none)/\W i m σ' H':=fun {σ7 H7} I7 n7=>by
   obtain⟨m',hm,w7⟩:=hN σ7 H7 n7
   refine⟨m',hm,i+1,σ7,H7,I7.unpinned,T.keep _ _ _ st5 fun b hb o e=>(I7.pin (b,o) (qV _ (qV _ (zek hb e)))).1,fun b hb=>?_,w7⟩
   obtain⟨o,e,d⟩:=T.obj _ _ st5 b hb
   exact(I7.pin (b,o) (qV _ (qV _ (zek hb e)))).2.1
  cases f with
  |next=>obtain⟨σ7,H7,I7,n7⟩:=q7;exact again I7 n7
  |cont=>obtain⟨σ7,H7,I7,n7⟩:=q7;exact again I7 n7
  |brk=>obtain⟨σ7,H7,I7,q7⟩:=q7;exact⟨σ7,H7,I7.unpinned,q7⟩
  |ret v=>obtain⟨x7,σ7,H7,I7,r7,q7⟩:=q7;exact⟨x7,σ7,H7,I7.unpinned,r7,q7⟩
end
abbrev R2:=V->V->Hp->VK->Prop
def Zm (X:Cx)(f:Value->Value->Sem Value)(r:R2):Prop :=
 ∀ (Z9:List (Addr×Obj)) (s:Shared) (Z:St) (H:Hp) (x y:V) (v u:Value) (Q:VK),Inv X Z9 Z H s->RelV x v->RelV y u->r x y H Q ->
  wpAny (model X.prog X.w) X.A (f v u) (EP X Z9 Z Q) X.xe s
def UnR (X:Cx)(f:Value->Sem Value)(r:V->Hp->VK->Prop):Prop :=
 ∀ (Z9:List (Addr×Obj)) (s:Shared) (Z:St) (H:Hp) (x:V) (v:Value) (Q:VK),Inv X Z9 Z H s->RelV x v->r x H Q ->
  wpAny (model X.prog X.w) X.A (f v) (EP X Z9 Z Q) X.xe s
def YJ (X:Cx)(f:Value)(r:List V->Hp->VK->Prop):Prop :=
 ∀ (Z9:List (Addr×Obj)) (s:Shared) (Z:St) (H:Hp) (xs:List V) (us:List Value) (Q:VK),Inv X Z9 Z H s->Vals xs us->r xs H Q ->
  wpAny (model X.prog X.w) X.A (call f us) (EP X Z9 Z Q) X.xe s
def tOp (r:R2)(ta tb:TE):TE:=fun Z H Q=>ta Z H fun x H1=>tb Z H1 fun y H2=>r x y H2 Q
def tUn (r:V->Hp->VK->Prop)(ta:TE):TE:=fun Z H Q=>ta Z H fun x H1=>r x H1 Q
def rI (C:Int->Int->Prop)(g:Int->Int->V):R2:=fun x y H Q=>∃ i j,x=.int i/\y=.int j/\C i j/\Q (g i j) H
def Tt (g:Int->Int->V):R2:=fun x y H Q=>∃ i j,x=.int i/\y=.int j/\Q (g i j) H
def rU (g:Int->V):V->Hp->VK->Prop:=fun x H Q=>∃ i,x=.int i/\Q (g i) H
section
variable {X:Cx}{a b c:Expr}{ta tb tc:TE}{pos:Pos}
def zqI (ha:PE X a ta)(hb:PE X b tb){Z9:List (Addr×Obj)}{s:Shared}{Z:St}{H:Hp}{R:V->V->Hp->Prop}(I:Inv X Z9 Z H s)
  (h:ta Z H fun x H1=>tb Z H1 fun y H2=>R x y H2) {Q:Value->Shared->Prop} {f:Value->Value->Sem Value}
  (hf:∀ v u s2 x y H2,Inv X Z9 Z H2 s2->RelV x v->RelV y u->R x y H2->wpAny (model X.prog X.w) X.A (f v u) Q X.xe s2) :
  wpAny (model X.prog X.w) X.A (eval a X.env) (fun v s₁=>wpAny (model X.prog X.w) X.A (eval b X.env) (fun u s₂=>wpAny (model X.prog X.w) X.A (f v u) Q X.xe s₂) X.xe s₁) X.xe s:=by
 refine Z0 (ha Z9 s Z H _ I h) fun v s1 ⟨x,H1,I1,r1,q1⟩=>?_
 refine Z0 (hb Z9 s1 Z H1 _ I1 q1) fun u s2 ⟨y,H2,I2,r2,q2⟩=>?_
 exact hf v u s2 x y H2 I2 r1 r2 q2
def zsy {op:Operator}{r:R2}(ho:Zm X (binaryOp op) r)(ha:PE X a ta)(hb:PE X b tb):PE X (.BinOp a op b pos) (tOp r ta tb):=by
 intro Z9 s Z H Q I h
 exact wpAny_BinOp (zqI ha hb I h fun v u s2 x y H2 I2 rx ry q=>ho Z9 s2 Z H2 x y v u Q I2 rx ry q)
def zw5 {op:UnaryOp}{r:V->Hp->VK->Prop}(ho:UnR X (unaryOp op) r)(ha:PE X a ta):PE X (.UnaryOp op a pos) (tUn r ta):=by
 intro Z9 s Z H Q I h
 exact UnaryOp_ (Z0 (ha Z9 s Z H _ I h) fun v s1 ⟨x,H1,I1,r1,q1⟩=>ho Z9 s1 Z H1 x v Q I1 r1 q1)
def opI {f:Value->Value->Sem Value}{C:Int->Int->Prop}{g:Int->Int->Int}
  (rule:∀ (i j:Int) (t u:Tok) (s:Shared) (Q:Value->Shared->Prop) (E:Value->Shared->Prop),C i j->Q (.int (g i j) s.toks) { s with toks:=s.toks+1 }->wpAny (model X.prog X.w) X.A (f (.int i t) (.int j u)) Q E s) :
  Zm X f (rI C fun i j=>.int (g i j)):=by
 intro Z9 s Z H x y v u Q I rx ry h
 obtain⟨i,j,rfl,rfl,hc,q⟩:=h
 obtain⟨t,rfl⟩:=rx
 obtain⟨t',rfl⟩:=ry
 exact rule i j t t' s _ _ hc ⟨.int (g i j),H,I.tok _,⟨_,rfl⟩,q⟩
def zvh {f:Value->Value->Sem Value}{g:Int->Int->Int}
  (rule:∀ (i j:Int) (t u:Tok) (s:Shared) (Q:Value->Shared->Prop) (E:Value->Shared->Prop),Q (.int (g i j) s.toks) { s with toks:=s.toks+1 }->wpAny (model X.prog X.w) X.A (f (.int i t) (.int j u)) Q E s) :
  Zm X f (Tt fun i j=>.int (g i j)):=by
 intro Z9 s Z H x y v u Q I rx ry h
 obtain⟨i,j,rfl,rfl,q⟩:=h
 obtain⟨t,rfl⟩:=rx
 obtain⟨t',rfl⟩:=ry
 exact rule i j t t' s _ _ ⟨.int (g i j),H,I.tok _,⟨_,rfl⟩,q⟩
def zn0 {f:Value->Value->Sem Value}{g:Int->Int->Bool}
  (rule:∀ (i j:Int) (t u:Tok) (s:Shared) (Q:Value->Shared->Prop) (E:Value->Shared->Prop),Q (.bool (g i j)) s->wpAny (model X.prog X.w) X.A (f (.int i t) (.int j u)) Q E s) :
  Zm X f (Tt fun i j=>.bl (g i j)):=by
 intro Z9 s Z H x y v u Q I rx ry h
 obtain⟨i,j,rfl,rfl,q⟩:=h
 obtain⟨t,rfl⟩:=rx
 obtain⟨t',rfl⟩:=ry
 exact rule i j t t' s _ _ ⟨.bl (g i j),H,I,rfl,q⟩
def zyB (i j:Int):Prop:=0<=j/\j<=1000000/\i.natAbs<2 ^ 64
def znI (i j:Int):Prop:=(-(2 ^ 64)<i/\i<2 ^ 64)\/(-(2 ^ 64)<j/\j<2 ^ 64)
def znI.ok {i j:Int}(h:znI i j):IntMulOk i j:=by
 rcases h with⟨h1,h2⟩|⟨h1,h2⟩
 ·exact .of_left (intBits_le_64 h1 h2)
 ·exact .of_right (intBits_le_64 h1 h2)
def zv8:Zm X (binaryOp .Add) (Tt fun i j=>.int (i+j)):=zvh fun _ _ _ _ _ _ _ q=>add_int q
def zuQ:Zm X (binaryOp .Sub) (Tt fun i j=>.int (i-j)):=zvh fun _ _ _ _ _ _ _ q=>sub_int q
def ztf:Zm X (binaryOp .Mod) (rI (fun _ j=>j≠0) fun i j=>.int (i.fmod j)):=opI fun _ _ _ _ _ _ _ hc q=>mod_int' hc q
def zvd:Zm X (binaryOp .Pow) (rI zyB fun i j=>.int (i ^ j.toNat)):=opI fun _ _ _ _ _ _ _ hc q=>pow_int_small hc.1 hc.2.1 hc.2.2 q
def unI {f:Value->Sem Value}{g:Int->Int}
  (rule:∀ (i:Int) (t:Tok) (s:Shared) (Q:Value->Shared->Prop) (E:Value->Shared->Prop),Q (.int (g i) s.toks) { s with toks:=s.toks+1 }->wpAny (model X.prog X.w) X.A (f (.int i t)) Q E s) :
  UnR X f (rU fun i=>.int (g i)):=by
 intro Z9 s Z H x v Q I rx h
 obtain⟨i,rfl,q⟩:=h
 obtain⟨t,rfl⟩:=rx
 exact rule i t s _ _ ⟨.int (g i),H,I.tok _,⟨_,rfl⟩,q⟩
def zwg:UnR X (unaryOp .USub) (rU fun i=>.int (-i)):=unI fun _ _ _ _ _ q=>neg_int q
end
section
variable {X:Cx}{a b c:Expr}{ta tb tc:TE}{pos:Pos}
def zi8 {Z9:List (Addr×Obj)}{Z:St}{H:Hp}{s:Shared}{Q:VK}{k k':Bool}(I:Inv X Z9 Z H s)(q:Q (.bl k) H)(e:k=k'):EP X Z9 Z Q (.bool k') s:=by
 subst e
 exact⟨.bl k,H,I,rfl,q⟩
def zxQ:Zm X (compareOp .Lt) (Tt fun i j=>.bl (decide (i<j))):=zn0 fun _ _ _ _ _ _ _ q=>lt_int q
def zw1:Zm X (compareOp .LtE) (Tt fun i j=>.bl (decide (i<=j))):=zn0 fun _ _ _ _ _ _ _ q=>le_int q
def zxm:Zm X (compareOp .Gt) (Tt fun i j=>.bl (decide (j<i))):=zn0 fun _ _ _ _ _ _ _ q=>gt_int q
def zwN:Zm X (compareOp .GtE) (Tt fun i j=>.bl (decide (j<=i))):=zn0 fun _ _ _ _ _ _ _ q=>ge_int q
def zqk:Zm X (compareOp .In) (fun x y H Q=>∃ i j,x=.str i/\y=.str j/\Q (.bl (!(Builtin.Str.occurrences j i 0 j.length 1).isEmpty)) H):=by
 intro Z9 s Z H x y v u Q I rx ry h
 obtain⟨i,j,rfl,rfl,q⟩:=h
 obtain⟨t,rfl⟩:=rx
 obtain⟨t',rfl⟩:=ry
 exact in_str (zi8 I q rfl)
def zv6:Zm X (compareOp .Is) (fun x y H Q=>y=.non/\Q (.bl (decide (x=.non))) H):=by
  intro Z9 s Z H x y v u Q I rx ry h
  obtain⟨rfl,q⟩:=h
  cases ry
  refine is_none_gen (zi8 I q ?_)
  cases x<;>first
    |(cases rx;rfl)
    |(obtain⟨t,rfl⟩:=rx;rfl)
def ztA:Zm X (compareOp .IsNot) (fun x y H Q=>y=.non/\Q (.bl (!decide (x=.non))) H):=by
  intro Z9 s Z H x y v u Q I rx ry h
  obtain⟨rfl,q⟩:=h
  cases ry
  refine isnot_none_gen (zi8 I q ?_)
  cases x<;>first
    |(cases rx;rfl)
    |(obtain⟨t,rfl⟩:=rx;rfl)
def zk8:Zm X (compareOp .NotIn) (fun x y H Q=>∃ i j,x=.str i/\y=.str j/\Q (.bl (!(!(Builtin.Str.occurrences j i 0 j.length 1).isEmpty))) H):=by
 intro Z9 s Z H x y v u Q I rx ry h
 obtain⟨i,j,rfl,rfl,q⟩:=h
 obtain⟨t,rfl⟩:=rx
 obtain⟨t',rfl⟩:=ry
 exact notIn_str (zi8 I q rfl)
def Zm.or {f:Value->Value->Sem Value}{r r':R2}(h:Zm X f r)(h':Zm X f r'):Zm X f (fun x y H Q=>r x y H Q\/r' x y H Q):=by
 intro Z9 s Z H x y v u Q I rx ry q
 rcases q with q|q
 ·exact h Z9 s Z H x y v u Q I rx ry q
 ·exact h' Z9 s Z H x y v u Q I rx ry q
def zoR (b:Expr){op:CmpOp}(h:op≠.In:=by decide)(h2:op≠.NotIn:=by decide):behindInMarks op b=false:=by
  have e1:(op==CmpOp.In)=false:=by cases op<;>first|rfl|exact absurd rfl h
  have e2:(op==CmpOp.NotIn)=false:=by cases op<;>first|rfl|exact absurd rfl h2
  cases b<;>simp[behindInMarks,e1,e2]
def zmK {op:CmpOp}{r:R2}(ho:Zm X (compareOp op) r)(ha:PE X a ta)(hb:PE X b tb)(hm:behindInMarks op b=false):PE X (.Compare a [op] [b] pos) (tOp r ta tb):=by
 intro Z9 s Z H Q I h
 exact wpAny_Compare1 (zqI ha hb I h fun v u s2 x y H2 I2 rx ry q=>ho Z9 s2 Z H2 x y v u Q I2 rx ry q) hm
def zsn (t:TE):TT:=fun Z H Q=>t Z H fun x H'=>∃ k,x=.bl k/\Q k H'
def zmV {op:CmpOp}{r:R2}(ho:Zm X (compareOp op) r)(ha:PE X a ta)(hb:PE X b tb)(hm:behindInMarks op b=false):PT X (.Compare a [op] [b] pos) (zsn (tOp r ta tb)):=by
 intro Z9 s Z H Q I h
 refine wpAny_isTrue_Compare1 (Z0 (ha Z9 s Z H _ I h) fun v s1 ⟨x,H1,I1,r1,q1⟩=>Z0 (hb Z9 s1 Z H1 _ I1 q1) fun u s2 ⟨y,H2,I2,r2,q2⟩ =>
  Z0 (ho Z9 s2 Z H2 x y v u _ I2 r1 r2 q2) fun c s3 ⟨z,H3,I3,r3,k,e,q3⟩=>?_) hm
 subst e
 cases r3
 exact wpAny_truthy_bool ⟨H3,I3,q3⟩
def zpa (r r':R2)(ta tb tc:TE):TE:=fun Z H Q=>ta Z H fun x H1=>tb Z H1 fun y H2=>r x y H2 fun z H3=>∃ k,z=.bl k /\
 (if k=true then tc Z H3 fun w' H4=>r' y w' H4 Q else Q (.bl false) H3)
def zrW {op op':CmpOp}{r r':R2}(ho:Zm X (compareOp op) r)(ho':Zm X (compareOp op') r')(ha:PE X a ta)(hb:PE X b tb)(hc:PE X c tc)
  (hm:lastMarks [op,op'] [b,c]=false:=by with_unfolding_all rfl):PT X (.Compare a [op,op'] [b,c] pos) (zsn (zpa r r' ta tb tc)):=by
 intro Z9 s Z H Q I h
 refine isTrue_chain (Z0 (ha Z9 s Z H _ I h) fun v s1 ⟨x,H1,I1,r1,q1⟩=>test_link (Z0 (hb Z9 s1 Z H1 _ I1 q1) fun u s2 ⟨y,H2,I2,r2,q2⟩ =>
  Z0 (ho Z9 s2 Z H2 x y v u _ I2 r1 r2 q2) fun d s3 ⟨z,H3,I3,r3,k,e,q3⟩=>?_)) hm
 subst e
 cases r3
 refine wpAny_truthy_bool ?_
 cases k with
 |false =>
  obtain⟨k',e',q'⟩:=q3
  cases e'
  exact ite_ff ⟨H3,I3,q'⟩
 |true =>
  refine ite_tt (test_last (Z0 (hc Z9 s3 Z H3 _ I3 q3) fun w' s4 ⟨z',H4,I4,r4,q4⟩=>Z0 (ho' Z9 s4 Z H4 y z' u w' _ I4 r2 r4 q4) fun d' s5 ⟨z2,H5,I5,r5,k2,e2,q5⟩=>?_))
  subst e2
  cases r5
  exact wpAny_truthy_bool ⟨H5,I5,q5⟩
def zfr:(sizeLine:Nat)<2 ^ 63:=by rw[sizeLine_eq];decide
def zon:Zm X (binaryOp .Add) (fun x y H Q=>∃ i j,x=.str i/\y=.str j/\i.length+j.length<=sizeLine/\Q (.str (i++j)) H):=by
 intro Z9 s Z H x y v u Q I rx ry h
 obtain⟨i,j,rfl,rfl,hz,q⟩:=h
 obtain⟨t,rfl⟩:=rx
 obtain⟨t',rfl⟩:=ry
 exact add_str (fun t' tk=>⟨.str (i++j),H,I.tok _,⟨_,rfl⟩,q⟩) hz
def vals1 {x:V}{us:List Value}(r:Vals [x] us):∃ u,us=[u]/\RelV x u:=by
 cases r with
 |cons r1 r2=>cases r2;exact⟨_,rfl,r1⟩
def vals2 {x y:V}{us:List Value}(r:Vals [x,y] us):∃ u w',us=[u,w']/\RelV x u/\RelV y w':=by
 cases r with
 |cons r1 r2 =>
  cases r2 with
  |cons r3 r4=>cases r4;exact⟨_,_,rfl,r1,r3⟩
def zrv:YJ X (.builtin "abs") (fun xs H Q=>∃ i,xs=[.int i]/\Q (.int (if i<0 then -i else i)) H):=by
 intro Z9 s Z H xs us Q I r h
 obtain⟨i,rfl,q⟩:=h
 obtain⟨u,rfl,t,rfl⟩:=vals1 r
 exact call_abs_int fun u tk=>⟨.int (if i<0 then -i else i),H,I.tok _,⟨_,rfl⟩,q⟩
def zpn (hc:X.calm=true):YJ X (.builtin "max") (fun xs H Q=>∃ i j,xs=[.int i,.int j]/\Q (.int (if j > i then j else i)) H):=by
 intro Z9 s Z H xs us Q I r h
 obtain⟨i,j,rfl,q⟩:=h
 obtain⟨u,w',rfl,⟨t,rfl⟩,⟨t',rfl⟩⟩:=vals2 r
 refine max_two_ints (I.ok.hd hc) fun h' tk k=>⟨_,H,I.kept k,?_,q⟩
 by_cases hj:j > i
 ·rw[if_pos hj,if_pos hj];exact⟨_,rfl⟩
 ·rw[if_neg hj,if_neg hj];exact⟨_,rfl⟩
def zoL (hc:X.calm=true):YJ X (.builtin "min") (fun xs H Q=>∃ i j,xs=[.int i,.int j]/\Q (.int (if j<i then j else i)) H):=by
 intro Z9 s Z H xs us Q I r h
 obtain⟨i,j,rfl,q⟩:=h
 obtain⟨u,w',rfl,⟨t,rfl⟩,⟨t',rfl⟩⟩:=vals2 r
 refine min_two_ints (I.ok.hd hc) fun h' tk k=>⟨_,H,I.kept k,?_,q⟩
 by_cases hj:j<i
 ·rw[if_pos hj,if_pos hj];exact⟨_,rfl⟩
 ·rw[if_neg hj,if_neg hj];exact⟨_,rfl⟩
end
structure zjN (h:Heap)(x dx C:Addr)(mA:Str->Option Value):Prop where
 obj:h.get? x=some (PySem.W.instObj C dx)
 ns:h.Ns1 dx mA
 ne:dx≠x
def zps {h:Heap}{dx:Addr}{mA:Str->Option Value}(n:h.Ns1 dx mA):∃ od,h.get? dx=some od/\∀ name,PySem.W.lookIn name od=some (mA name):=by
 obtain⟨o,es,ep,ho,hd,hk,_,hm⟩:=n
 refine⟨o,ho,fun name=>?_⟩
 have e:=hm name
 unfold nsFind findBy at e
 rw[<- Array.find?_toList]at e
 unfold PySem.W.lookIn
 rw[hd]
 dsimp only
 split
 ·rename_i y q
  rw[q]at e
  exact congrArg some e
 ·rename_i q
  rw[q]at e
  have a:es.toList.any (·.refKey)=false:=by
   rw[List.any_eq_false]
   intro y hy
   obtain⟨z,t,hkey⟩:=hk y (Array.mem_toList_iff.mp hy)
   simp[DictEntry.refKey,hkey]
  have a':¬ es.toList.any (·.refKey)=true:=by rw[a];exact qp
  rw[if_neg a']
  exact congrArg some e
def zjN.look {h:Heap}{x dx C:Addr}{mA:Str->Option Value}(I:zjN h x dx C mA):∃ od,PySem.W.InstAt h x (PySem.W.instObj C dx) C (some od)/\∀ name,PySem.W.lookIn name od=some (mA name) :=
 let ⟨od,ho,hl⟩:=zps I.ns
 ⟨od,⟨I.obj,rfl,rfl,ho⟩,hl⟩
section
variable {prog:Program}{w:World}{A:Around}{E:Value->Shared->Prop}{s:Shared}{K:PySem.W.Frag}{x dx C f:Addr}{mA:Str->Option Value}{name:Str}{v:Value}
def get_map {expr:Bool}{Q:Value->Shared->Prop}(X:K.In s.heap)(I:zjN s.heap x dx C mA)(hg:PySem.W.plainGet K C name=true)(hh:PySem.W.hasDictIn K C=true)
  (ha:PySem.W.findIn K (.ref C) name=some none) (hv:mA name=some v) (hv':PySem.W.handedIn v=true) (h:Q v { s with toks:=s.toks+1 }) :
  wpAny (model prog w) A (getAttr (.ref x) name expr) Q E s:=by
 obtain⟨od,J,hl⟩:=I.look
 exact PySem.W.get_value X J (PySem.W.plainGet_of hg).1 (PySem.W.findObj_own hh ha rfl (by rw[hl,hv])) hv' h
def zs6 {ns:List Str}{Q:Unit->Shared->Prop}(X:K.In s.heap)(I:zjN s.heap x dx C mA)
  (hs:PySem.W.findIn K (.ref C) "__setattr__"=some (some (.builtin "object.__setattr__"))) (hp:PySem.W.plainOver K C=true) (ht:PySem.W.takerIn K C name=some none) (hh:PySem.W.hasDictIn K C=true)
  (hw:PySem.Within mA ns) (hsz:ns.length<=sizeLine)
  (h:∀ h',zjN h' x dx C (fun y=>if y=name then some v else mA y)->Heap.SameBut dx s.heap h'->Q () { s with heap:=h',toks:=s.toks+2 }) :
  wpAny (model prog w) A (setAttr (.ref x) name v) Q E s:=by
 obtain⟨od,J,hl⟩:=I.look
 refine PySem.W.set_plain X J hs (PySem.W.osa_open (s:={ s with toks:=s.toks+1 }) (r:=none) X J hp ht fun b=>?_)
 obtain⟨cd,hc,hd'⟩:=PySem.W.any_some hh
 have hx:s.heap.get? x=some ⟨.ref C,some dx,.plain,#[]⟩:=I.obj
 refine wpAny_bind (wpAny_pure (wpAny_bind (wpAny_bind (wpAny_loadPart hx (wpAny_bind (PySem.W.Looks.here (s:={ s with toks:=s.toks+1 }) (PySem.W.looks_clsIn X hc) ?_))))))
 rw[hd']
 refine wpAny_pure (a:=some dx) (wpAny_bind (wpAny_pure (wpAny_bind ?_)))
 refine wpAny_nsSet1 (s:={ s with toks:=s.toks+1 }) I.ns fun h' hn2 hs2=>?_
 obtain⟨oD,esD,epD,hoD,hdD,hcD⟩:=hn2.count (PySem.Within.cons name v hw)
 refine wpAny_bind (wpAny_lookBehind hoD (by rw[hdD];exact pastItsLine_dict (qY hcD (by rw[qO];lia))) ?_)
 exact wpAny_pure (h _ ⟨(hs2.2 _ (Ne.symm I.ne)).trans I.obj,hn2,I.ne⟩ hs2)
def zrJ {R:Result->Shared->Prop}{vs:List Value}{kw:List (Str×Value)}(X:K.In s.heap)(hm:PySem.W.makesIn K C=true)
    (hi:PySem.W.findIn K (.ref C) "__init__"=some (some (.ref f))) (hf:PySem.W.typeIn K (.ref f)=some (.type "function"))
    (h:codeAny (model prog w) (A.under (.builtin "type.__call__" ⟨.ref C::vs,kw⟩)) (.call (.ref f) ⟨.ref (s.heap.objs.size+1)::vs,kw⟩) (PySem.W.InitBack (s.heap.objs.size+1) R)
      { s with heap:=(s.heap.push PySem.W.emptyDict).push (PySem.W.instObj C s.heap.objs.size) }) :
    codeAny (model prog w) A (.call (.ref C) ⟨vs,kw⟩) R s:=by
  obtain⟨hh,g,d,t,os⟩:=s
  exact PySem.W.make_core (PySem.W.makes_of X hm) (PySem.W.looks_findIn X hi) (fun self=>PySem.W.bind_fn X self hf) (.inl rfl) h
end
def Yk (f:Str)(v:V):List (Str×V)->List (Str×V)
 |[]=>[(f,v)]
 |(g,x)::r=>if g=f then(g,v)::r else(g,x)::Yk f v r
theorem zhS (f g:Str)(v:V):∀ fs:List (Str×V),(Yk f v fs).lookup g=if g=f then some v else fs.lookup g
 |[]=>by
  show List.lookup g [(f,v)]=_
  by_cases h:g=f
  ·have hb:(g==f)=true:=beq_iff_eq.mpr h
   simp only[List.lookup,hb,if_pos h]
  ·have hb:(g==f)=false:=beq_eq_false_iff_ne.mpr h
   simp only[List.lookup,hb,if_neg h]
 |(k,x)::r=>by
  have ih:=zhS f g v r
  rw[show Yk f v ((k,x)::r)=(if k=f then(k,v)::r else(k,x)::Yk f v r)from rfl]
  by_cases hk:k=f
  ·rw[if_pos hk]
   by_cases h:g=k
   ·have hb:(g==k)=true:=beq_iff_eq.mpr h
    simp only[List.lookup,hb,if_pos (h.trans hk)]
   ·have hb:(g==k)=false:=beq_eq_false_iff_ne.mpr h
    simp only[List.lookup,hb,if_neg (fun e:g=f=>h (e.trans hk.symm))]
  ·rw[if_neg hk]
   by_cases h:g=k
   ·have hb:(g==k)=true:=beq_iff_eq.mpr h
    simp only[List.lookup,hb,if_neg (fun e:g=f=>hk (h.symm.trans e))]
   ·have hb:(g==k)=false:=beq_eq_false_iff_ne.mpr h
    simp only[List.lookup,hb]
    exact ih
theorem zgE (f:Str)(v:V):∀ fs:List (Str×V),f∈(Yk f v fs).map (·.1)/\∀ g,g∈fs.map (·.1)->g∈(Yk f v fs).map (·.1)
 |[]=>⟨by simp[Yk],fun g h=>by simp at h⟩
 |(k,x)::r=>by
  obtain⟨i1,i2⟩:=zgE f v r
  rw[show Yk f v ((k,x)::r)=(if k=f then(k,v)::r else(k,x)::Yk f v r)from rfl]
  by_cases hk:k=f
  ·rw[if_pos hk]
   subst hk
   exact⟨by simp,fun g h=>by simpa using h⟩
  ·rw[if_neg hk]
   refine⟨?_,fun g h=>?_⟩
   ·rw[qE]
    exact qB _ i1
   ·rw[qE]at h ⊢
    rcases qg.mp h with e|e
    ·exact qg.mpr (.inl e)
    ·exact qB _ (i2 g e)
theorem zhU (f:Str)(v:V):∀ fs:List (Str×V),(Yk f v fs).length<=fs.length+1
 |[]=>by simp[Yk]
 |(k,x)::r=>by
  have ih:=zhU f v r
  rw[show Yk f v ((k,x)::r)=(if k=f then(k,v)::r else(k,x)::Yk f v r)from rfl]
  by_cases hk:k=f
  ·rw[if_pos hk,qO,qO];lia
  ·rw[if_neg hk,qO,qO];lia
def VJ.some_of {v:V}{o:Option Value}(r:VJ (some v) o):∃ u,o=some u/\RelV v u:=by
 cases o with
 |none=>exact(show False from r).elim
 |some u=>exact⟨u,rfl,r⟩
def zqd {v:V}{u:Value}(r:RelV v u):PySem.W.handedIn u=true:=by
 cases v with
 |non=>cases(show u=Value.none from r);rfl
 |bl b=>cases(show u=Value.bool b from r);rfl
 |int i=>obtain⟨t,e⟩:=(show ∃ t,u=Value.int i t from r);cases e;rfl
 |str x=>obtain⟨t,e⟩:=(show ∃ t,u=Value.str x t from r);cases e;rfl
 |byt b=>obtain⟨t,e⟩:=(show ∃ t,u=Value.bytes b t from r);cases e;rfl
 |flt b=>obtain⟨t,e⟩:=(show ∃ t,u=Value.float b t from r);cases e;rfl
 |ref a=>cases(show u=Value.ref a from r);rfl
 |ty n=>cases(show u=Value.type n from r);rfl
section
variable {P:Program}{w:World}{H H':Hp}{h h':Heap}{a C dx:Addr}{fs fs':List (Str×V)}
def zjC (hok:Zi P w H h)(e:H a=some (.ins C dx fs)):∃ mA,zjN h a dx C mA/\(∀ f,VJ (fs.lookup f) (mA f))/\PySem.Within mA (fs.map (·.1))/\fs.length<=1000/\H dx=some (.own a):=by
 obtain⟨d,z,ne,ob,mA,n,r,q⟩:=(show Y6 P w H h a (.ins C dx fs)from hok a _ e)
 exact⟨mA,⟨ob,n,ne⟩,r,q,z,d⟩
end
structure Cls (K:PySem.W.Frag)(C:Addr):Prop where
 pg:PySem.W.plainGet K C Str.empty=true
 hd:PySem.W.hasDictIn K C=true
 po:PySem.W.plainOver K C=true
 sa:PySem.W.findIn K (.ref C) "__setattr__"=some (some (.builtin "object.__setattr__"))
def Cls.get {K:PySem.W.Frag}{C:Addr}(c:Cls K C)(f:Str):PySem.W.plainGet K C f=true:=c.pg
def YM (K:PySem.W.Frag)(C:Addr)(f:Str):Prop:=PySem.W.findIn K (.ref C) f=some none
def YM.taker {K:PySem.W.Frag}{C:Addr}{f:Str}(n:YM K C f):PySem.W.takerIn K C f=some none:=by
 unfold PySem.W.takerIn
 rw[show PySem.W.findIn K (.ref C) f=some none from n]
 rfl
section
variable {X:Cx}{Z9:List (Addr×Obj)}{Z:St}{H:Hp}{s:Shared}{a C dx:Addr}{fs:List (Str×V)}{f:Str}{v:V}{A:Around}{E:Value->Shared->Prop}
def zn3 {b:Bool}{Q:Value->Shared->Prop}(I:Inv X Z9 Z H s)(e:H a=some (.ins C dx fs))(c:Cls X.K C)(n:YM X.K C f)(l:fs.lookup f=some v)
  (h:∀ u s',Inv X Z9 Z H s'->RelV v u->Q u s'):wpAny (model X.prog X.w) A (getAttr (.ref a) f b) Q E s:=by
 obtain⟨mA,O,r,_,_,_⟩:=zjC I.hok e
 obtain⟨u,hu,ru⟩:=VJ.some_of (v:=v) (o:=mA f) (by rw[<- l];exact r f)
 exact get_map I.kIn O (c.get f) c.hd n hu (zqd ru) (h u _ (I.tok _) ru)
def znM {y:V}{u:Value}{Q:Unit->Shared->Prop}(I:Inv X Z9 Z H s)(e:H a=some (.ins C dx fs))(c:Cls X.K C)(n:YM X.K C f)(hl:fs.length<1000)(ry:RelV y u)
  (h:∀ s',Inv X Z9 Z (upd H a (.ins C dx (Yk f y fs))) s'->Q () s'):wpAny (model X.prog X.w) A (setAttr (.ref a) f u) Q E s:=by
 obtain⟨mA,O,r,wi,_,ho⟩:=zjC I.hok e
 have hz:(fs.map (·.1)).length<=sizeLine:=by rw[qb,sizeLine_eq];lia
 refine zs6 I.kIn O c.sa c.po n.taker c.hd wi hz fun h' O' sb=>h _ ?_
 have hd:∃ o,h'.get? dx=some o:=let ⟨o,_,_,e',_⟩:=O'.ns;⟨o,e'⟩
 refine I.write (x:=a) (e:=dx) (by rw[e];exact True.intro) (.inr ho) (fun b q hb z=>(sb.2 b hb).trans z) hd ?_
 refine⟨by rw[zR O.ne];exact ho,?_,O.ne,O'.obj,_,O'.ns,fun g=>?_,fun g hg=>?_⟩
 ·have:=zhU f y fs;lia
 ·show VJ ((Yk f y fs).lookup g) (if g=f then some u else mA g)
  rw[zhS]
  by_cases q:g=f
  ·rw[if_pos q,if_pos q];exact ry
  ·rw[if_neg q,if_neg q];exact r g
 ·by_cases q:g=f
  ·rw[q];exact(zgE f y fs).1
  ·refine(zgE f y fs).2 g (wi g fun z=>hg ?_)
   show(if g=f then some u else mA g)=none
   rw[if_neg q];exact z
def Inv.made (I:Inv X Z9 Z H s):Inv X Z9 Z (upd (upd H s.heap.objs.size (.own (s.heap.objs.size+1))) (s.heap.objs.size+1) (.ins C s.heap.objs.size []))
    { s with heap:=(s.heap.push PySem.W.emptyDict).push (PySem.W.instObj C s.heap.objs.size) }:=by
  have e1:(s.heap.push PySem.W.emptyDict).get? s.heap.objs.size=some PySem.W.emptyDict:=Heap.get?_push_size s.heap rfl
  have e2:((s.heap.push PySem.W.emptyDict).push (PySem.W.instObj C s.heap.objs.size)).get? (s.heap.objs.size+1)=some (PySem.W.instObj C s.heap.objs.size):=by
    have:=Heap.get?_push_size (s.heap.push PySem.W.emptyDict) (o:=PySem.W.instObj C s.heap.objs.size) rfl
    rwa[qZ]at this
  have e3:(s.heap.push PySem.W.emptyDict).Ns s.heap.objs.size (fun _=>none):=⟨PySem.W.emptyDict,#[],_,e1,rfl,(fun e he=>absurd he (by simp)),fun _=>rfl⟩
  have I1:=I.laid (a:=s.heap.objs.size) (o:=.own (s.heap.objs.size+1)) (h':=s.heap.push PySem.W.emptyDict) (t':=s.toks) (fun b u q=>qd _ q) (qf _) ⟨_,e1⟩
  refine I1.laid (a:=s.heap.objs.size+1) (o:=.ins C s.heap.objs.size []) (t':=s.toks) (fun b u q=>qd _ q) (Nat.le_of_eq (qZ _ _)) ?_
  have ne:s.heap.objs.size≠s.heap.objs.size+1:=qK (qbc _)
  refine⟨by rw[zR ne,Xy],qP _,ne,e2,fun _=>none,(Heap.Ns1.of_empty e3).at fun o q=>qd _ q,fun _=>True.intro,fun y hy=>absurd rfl hy⟩
def ztE {prog:Program}{w:World}{env:Env}{e:Expr}{f:Str}{pos:Pos}{s:Shared}{Q:Value->Shared->Prop}(hb:attributeBase e f env (eval e env)=eval e env)
  (h:wpAny (model prog w) A (eval e env) (fun o s₁=>wpAny (model prog w) A (getAttr o f true) Q E s₁) E s):wpAny (model prog w) A (eval (.Attribute e f pos) env) Q E s :=
 Attribute_any_ h (by rw[arm_eval_Attribute,hb])
end
def zzi (K:PySem.W.Frag)(ta:TE)(f:Str):TE:=fun Z H Q=>ta Z H fun x H1=>∃ a C dx fs v,x=.ref a/\H1 a=some (.ins C dx fs)/\Cls K C/\YM K C f/\fs.lookup f=some v/\Q v H1
def zyJ (K:PySem.W.Frag)(ta tv:TE)(f:Str):TS:=fun D Z H=>tv Z H fun y H1=>ta Z H1 fun x H2=>∃ a C dx fs,x=.ref a/\H2 a=some (.ins C dx fs)/\Cls K C/\YM K C f/\fs.length<1000 /\
 D.nx Z (upd H2 a (.ins C dx (Yk f y fs)))
section
variable {X:Cx}{o e value:Expr}{f:Str}{pos pos' tpos:Pos}{ta tv:TE}
def zuK (he:PE X e ta)(hb:attributeBase e f X.env (eval e X.env)=eval e X.env):PE X (.Attribute e f pos) (zzi X.K ta f):=by
 intro Z9 s Z H Q I h
 refine ztE hb (Z0 (he Z9 s Z H _ I h) fun u s1 ⟨x,H1,I1,rx,a,C,dx,fs,v,ex,ea,c,n,l,q⟩=>?_)
 subst ex
 obtain rfl:u=Value.ref a:=rx
 exact zn3 I1 ea c n l fun u' s2 I2 ru=>⟨v,H1,I2,ru,q⟩
def zvS (ha:PE X o ta)(hv:PE X value tv)(hs:swapsWith value (some (.Attribute o f pos')) pos.line X.env=pure false):PS X (.Assign [.Attribute o f pos'] value pos) (zyJ X.K ta tv f):=by
 intro Z9 s Z H D I h
 refine plainObj_wpAny_Assign_Attribute (Z0 (hv Z9 s Z H _ I h) fun u s1 ⟨y,H1,I1,ry,q⟩=>Z0 (ha Z9 s1 Z H1 _ I1 q) fun ov s2 ⟨x,H2,I2,rx,a,C,dx,fs,ex,ea,c,n,l,q2⟩=>?_) hs
 subst ex
 obtain rfl:ov=Value.ref a:=rx
 exact znM I2 ea c n l ry fun s3 I3=>⟨Z,_,I3,q2⟩
end
section
variable {X:Cx}{Z9:List (Addr×Obj)}{Z:St}{H:Hp}{s:Shared}{A:Around}{E:Value->Shared->Prop}{Q:Value->Shared->Prop}{c:Value}{b:Bool}
inductive V9 (K:PySem.W.Frag)(H:Hp):V->Value->Prop where
 | non:V9 K H .non (.type "NoneType")
 | bl (x:Bool):V9 K H (.bl x) (.type "bool")
 | int (i:Int):V9 K H (.int i) (.type "int")
 | str (x:Str):V9 K H (.str x) (.type "str")
 | flt (x:UInt64):V9 K H (.flt x) (.type "float")
 | lst {a:Addr} {xs:List V} (e:H a=some (.lst xs)):V9 K H (.ref a) (.type "list")
 | frz {a:Addr} {o:Obj} {xs:List V} (e:H a=some (.frz o (.lst xs))):V9 K H (.ref a) (.type "list")
 | tup {a:Addr} {xs:List V} (e:H a=some (.tup xs)):V9 K H (.ref a) (.type "tuple")
 | dK {a:Addr} {Z6:List (Key×V)} (e:H a=some (.dK Z6)):V9 K H (.ref a) (.type "dict")
 | dT {a:Addr} {Z6:List (List Key×V)} (e:H a=some (.dT Z6)):V9 K H (.ref a) (.type "dict")
 | ins {a C dx:Addr} {fs:List (Str×V)} (e:H a=some (.ins C dx fs)) (cl:Cls K C) (ha:PySem.W.findIn K (.ref C) "__class__"=some (some (.builtin "object.__class__")))
   (hn:PySem.W.specialIn K (.builtin "object.__class__") "__get__"=some (some (.builtin "getset_descriptor.__get__"))) (htk:PySem.W.takesIn K (.builtin "object.__class__")=some true)
   (hm:PySem.W.mroIn K C (.type "object")=some true):V9 K H (.ref a) (.ref C)
def zo3 {x:V}{u t:Value}(I:Inv X Z9 Z H s)(rx:RelV x u)(ty:V9 X.K H x t)(e:PySem.W.kitOne X.K t c=some b)(h:∀ tk,Q (.bool b) { s with toks:=tk }) :
  wpAny (model X.prog X.w) A (call (.builtin "isinstance") [u,c]) Q E s:=by
 cases ty with
 |non=>cases(show u=Value.none from rx);exact PySem.W.kia_one PySem.W.kitx_none I.kIn True.intro e (fun z=>nomatch z) h
 |bl y=>cases(show u=Value.bool y from rx);exact PySem.W.kia_one PySem.W.kitx_bool I.kIn True.intro e (fun z=>nomatch z) h
 |int i=>obtain⟨t,q⟩:=(show ∃ t,u=Value.int i t from rx);cases q;exact PySem.W.kia_one PySem.W.kitx_int I.kIn True.intro e (fun z=>nomatch z) h
 |str y=>obtain⟨t,q⟩:=(show ∃ t,u=Value.str y t from rx);cases q;exact PySem.W.kia_one PySem.W.kitx_str I.kIn True.intro e (fun z=>nomatch z) h
 |flt y=>obtain⟨t,q⟩:=(show ∃ t,u=Value.float y t from rx);cases q;exact PySem.W.kia_one PySem.W.kitx_float I.kIn True.intro e (fun z=>nomatch z) h
 |@lst a xs ea =>
  cases(show u=Value.ref a from rx)
  obtain⟨_,_,n,_,h1⟩:=(show Y6 X.prog X.w H s.heap a (.lst xs)from I.hok a _ ea)
  exact PySem.W.kia_one PySem.W.kitx_list I.kIn ⟨_,h1,rfl⟩ e (fun z=>nomatch z) h
 |@frz a ob xs ea =>
  cases(show u=Value.ref a from rx)
  obtain⟨_,_,_,n,_,h1⟩:=(show Y6 X.prog X.w H s.heap a (.frz ob (.lst xs))from I.hok a _ ea)
  exact PySem.W.kia_one PySem.W.kitx_list I.kIn ⟨_,h1,rfl⟩ e (fun z=>nomatch z) h
 |@tup a xs ea =>
  cases(show u=Value.ref a from rx)
  obtain⟨_,_,_,p⟩:=(show Y6 X.prog X.w H s.heap a (.tup xs)from I.hok a _ ea)
  obtain⟨o,h1,h2,_⟩:=p
  exact PySem.W.kia_one PySem.W.kitx_tuple I.kIn ⟨o,h1,h2⟩ e (fun z=>nomatch z) h
 |@dK a Z6 ea =>
  cases(show u=Value.ref a from rx)
  obtain⟨_,_,vs,_,p⟩:=(show Y6 X.prog X.w H s.heap a (.dK Z6)from I.hok a _ ea)
  obtain⟨o,es,ep,h1,h2,_⟩:=p
  exact PySem.W.kia_one PySem.W.kitx_dict I.kIn ⟨o,h1,h2.1⟩ e (fun z=>nomatch z) h
 |@dT a Z6 ea =>
  cases(show u=Value.ref a from rx)
  obtain⟨_,_,xs,_,o,es,ep,h1,h2,_⟩:=(show Y6 X.prog X.w H s.heap a (.dT Z6)from I.hok a _ ea)
  exact PySem.W.kia_one PySem.W.kitx_dict I.kIn ⟨o,h1,h2.1⟩ e (fun z=>nomatch z) h
 |@ins a C dx fs ea cl ha hn htk hm =>
  cases(show u=Value.ref a from rx)
  obtain⟨mA,O,_⟩:=zjC I.hok ea
  obtain⟨od,J,_⟩:=O.look
  exact PySem.W.kia_one (PySem.W.kitx_own (cl.get _) cl.hd ha hn htk hm) I.kIn J e (fun z=>nomatch z) h
end
structure Zk (k:Nat)(A:Around):Prop where
 hd:A.handled=none
 dp:A.depth+3*k+5<recursionLimit
 un:A.units+16*k+200<cLine
def Zk.mono {j k:Nat}{A:Around}(r:Zk k A)(h:j<=k):Zk j A:=⟨r.hd,by have:=r.dp;lia,by have:=r.un;lia⟩
theorem Zk.deeper {k:Nat}{A:Around}(r:Zk (k+1) A)(env:Env):Zk k (A.deeper env) :=
 ⟨r.hd,by have:=r.dp;show A.depth+1+3*k+5<_;lia,by have:=r.un;show A.units+3+16*k+200<_;lia⟩
def znu {A:Around}{C:Addr}{us:List Value}{kw:List (Str×Value)}:(A.under (.builtin "type.__call__" ⟨.ref C::us,kw⟩)).depth=A.depth+1:=by
 first|rfl|simp[Around.under,Code.weight,Code.isCreation,Code.isGuard,Code.isCaller,Code.frames,Code.isFrame,guardIds]
def znv {A:Around}{C:Addr}{us:List Value}{kw:List (Str×Value)}:(A.under (.builtin "type.__call__" ⟨.ref C::us,kw⟩)).units=A.units+1:=by
 first|rfl|simp[Around.under,Code.cUnits,Code.frames,Code.isFrame]
def Zk.make {k:Nat}{A:Around}(r:Zk (k+1) A)(C:Addr)(us:List Value)(kw:List (Str×Value)):Zk k (A.under (.builtin "type.__call__" ⟨.ref C::us,kw⟩)) :=
 ⟨r.hd,by have:=r.dp;rw[znu];lia,by have:=r.un;rw[znv];lia⟩
theorem Zk.depth {k:Nat}{A:Around}(r:Zk k A):A.depth<recursionLimit:=by have:=r.dp;lia
theorem Zk.units {k:Nat}{A:Around}(r:Zk k A):A.units+64<cLine:=by have:=r.un;lia
def zyS:TA:=fun _ H Q=>Q [] H
def zwX (ta:TE)(tr:TA):TA:=fun Z H Q=>ta Z H fun x H1=>tr Z H1 fun xs H2=>Q (x::xs) H2
section
variable {X:Cx}{e:Expr}{es:List Expr}{te:TE}{t:TA}{pos:Pos}
def zuG:PA X [] zyS:=fun _ _ _ _ H Q I h=>Calls.spliced_nil ⟨[],H,I,.nil,h⟩
def zun (ha:PE X e te)(hr:PA X es t)(hs:starEach (e::es) X.env=(false,eval e X.env)::starEach es X.env:=by rfl):PA X (e::es) (zwX te t):=by
 intro pos Z9 s Z H Q I h
 rw[hs]
 show wpAny _ _ (spliced ((false,eval e X.env)::backTo pos (starEach es X.env))) _ _ s
 refine Calls.spliced_cons (Z0 (ha Z9 s Z H _ I h) fun u s1 ⟨x,H1,I1,r1,q1⟩=>?_)
 exact Z0 (hr pos Z9 s1 Z H1 _ I1 q1) fun us s2 ⟨xs,H2,I2,r2,q2⟩=>⟨x::xs,H2,I2,.cons r1 r2,q2⟩
def zy1 (t:TA):TE:=fun Z H Q=>t Z H fun xs H1=>xs.length<=sizeLine/\∀ p,H1 p=none->Q (.ref p) (upd H1 p (.tup xs))
def zyW (t:TA):TE:=fun Z H Q=>t Z H fun xs H1=>xs.length<=sizeLine/\∀ p,H1 p=none->Q (.ref p) (upd H1 p (.lst xs))
def zvP {x1}(h:PA X es t):PE X (.Tuple es x1 pos) (zy1 t):=by
 intro Z9 s Z H Q I hq
 refine wpAny_Tuple_spliced (Z0 (h pos Z9 s Z H _ I hq) fun us s1 ⟨xs,H1,I1,r,z,q⟩=>⟨by rw[<- r.length];exact z,?_⟩)
 have hf:H1 s1.heap.objs.size=none:=I1.hok.fresh (qf _)
 refine⟨.ref s1.heap.objs.size,upd H1 s1.heap.objs.size (.tup xs),I1.laid (t':=s1.toks) (fun b u e=>qd _ e) (qf _) ?_,rfl,q _ hf⟩
 exact⟨z,us,r,⟨_,Heap.get?_push_size _ rfl,rfl,_,rfl⟩⟩
def zuF (h:PA X es t):PE X (.List es pos) (zyW t):=by
 intro Z9 s Z H Q I hq
 refine wpAny_List_spliced (Z0 (h pos Z9 s Z H _ I hq) fun us s1 ⟨xs,H1,I1,r,z,q⟩=>⟨by rw[<- r.length];exact z,?_⟩)
 have hf:H1 s1.heap.objs.size=none:=I1.hok.fresh (qf _)
 refine⟨.ref s1.heap.objs.size,upd H1 s1.heap.objs.size (.lst xs),I1.laid (t':=s1.toks) (fun b u e=>qd _ e) (qf _) ?_,rfl,q _ hf⟩
 exact⟨z,us,0,r,Heap.get?_push_size _ rfl⟩
end
abbrev Sp:=List V->Hp->VK->XK->Prop
abbrev Ve:=List Env->Hp->Shared->XK->Value->Shared->Prop
structure PN (P:Program)(w:World)(K:PySem.W.Frag)(mg:Str->Option Value)(base:Heap)(A:Around)(outer:List Env)(s:Shared)(H:Hp):Prop where
 frames:A.frames=some outer
 mod:Mod K mg base
 bs:∀ b o,base.get? b=some o->s.heap.get? b=some o/\H b=none
 bsz:base.objs.size<=s.heap.objs.size
 funs:s.heap.FunFrames base outer
 frf:∀ b∈frs outer,H b=none
 hok:Zi P w H s.heap
 bare:AllBare s.gens
def CE (outer:List Env)(P:Program)(w:World)(H:Hp)(s:Shared)(Q:VK)(u:Value)(s':Shared):Prop :=
 ∃ v H',s'.os=s.os/\AllBare s'.gens/\Un (frs outer) [] H H' s.heap s'.heap/\Zi P w H' s'.heap/\RelV v u/\Q v H'
def CR (CX:Ve)(outer:List Env)(P:Program)(w:World)(H:Hp)(s:Shared)(Q:VK)(E:XK)(r:Result)(s':Shared):Prop :=
 match r with
 |.ok (.ret u)=>CE outer P w H s Q u s'
 |.ok _=>False
 |.error e=>CX outer H s E e s'
structure zO (P:Program)(w:World)(K:PySem.W.Frag)(mg:Str->Option Value)(base:Heap)(CX:Ve)(k:Nat)(f:Addr)(fd:FuncData)(ps:List Str)(sp:Sp):Prop where
 len:∀ vs H Q E,sp vs H Q E->vs.length=ps.length
 run:∀ (A:Around) (outer:List Env) (s:Shared) (H:Hp) (args:Args) (us:List Value) (vs:List V) (Q:VK) (E:XK),Zk k A->PN P w K mg base A outer s H->BindsTo s fd args (ps.zip us)->Vals vs us->sp vs H Q E ->
  codeAny (model P w) A (.call (.ref f) args) (CR CX outer P w H s Q E) s
theorem zO.mono {P:Program}{w:World}{K:PySem.W.Frag}{mg:Str->Option Value}{base:Heap}{CX:Ve}{j k:Nat}{f:Addr}{fd:FuncData}{ps:List Str}{sp:Sp}(F:zO P w K mg base CX j f fd ps sp)(h:j<=k) :
  zO P w K mg base CX k f fd ps sp:=⟨F.len,fun A outer s H args us vs Q E hr=>F.run A outer s H args us vs Q E (hr.mono h)⟩
def PN.make {P:Program}{w:World}{K:PySem.W.Frag}{mg:Str->Option Value}{base:Heap}{A:Around}{outer:List Env}{s:Shared}{H:Hp}(e:PN P w K mg base A outer s H)(C:Addr)(us:List Value)(kw:List (Str×Value)) :
  PN P w K mg base (A.under (.builtin "type.__call__" ⟨.ref C::us,kw⟩)) outer s H:=⟨by first | exact e.frames | (simpa [Around.under,Code.envs,Code.isFrame,pushEnvs]using e.frames),e.mod,e.bs,e.bsz,e.funs,e.frf,e.hok,e.bare⟩
section
variable {X:Cx}{Z9:List (Addr×Obj)}{Z:St}{H:Hp}{s s':Shared}
def Inv.env0 (I:Inv X Z9 Z H s):PN X.prog X.w X.K X.mg X.base X.A X.stack s H :=
 ⟨I.ok.frames,I.ok.mod,I.bs,qY I.ok.bsz I.sz,I.stack,I.stkFree,I.hok,I.bare⟩
def Inv.after {Q:VK}{u:Value}(I:Inv X Z9 Z H s)(h:CE X.stack X.prog X.w H s Q u s'):EP X Z9 Z Q u s':=by
 obtain⟨v,H',os,bare,un,hok,r,q⟩:=h
 obtain⟨hh,g,d,t,os'⟩:=s'
 obtain rfl:os'=s.os:=os
 exact⟨v,H',I.call (h':=hh) (g':=g) (d':=d) (t':=t) (ch:=[]) un hok bare (fun b z=>absurd z (by simp)),r,q⟩
end
def zoy (sp:Sp)(dvs:List V)(E:XK)(t:TA):TE:=fun Z H Q=>t Z H fun vs H1=>sp (vs++dvs) H1 Q E
def Binds (K:PySem.W.Frag)(fd:FuncData)(ps:List Str)(ds:List Value):Prop :=
 ∀ (s:Shared) (us:List Value),K.In s.heap->(us++ds).length=ps.length->BindsTo s fd ⟨us,[]⟩ (ps.zip (us++ds))
def Binds.all {K:PySem.W.Frag}{fd:FuncData}{ps:List Str}(h:∀ us:List Value,us.length=ps.length->bindArgs fd ⟨us,[]⟩=pure (ps.zip us)):Binds K fd ps []:=fun s us _ hl=>by
 rw[qU]at hl ⊢
 exact .of_eq (h us hl)
def Passes (CX:Ve)(X:Cx)(E:XK):Prop:=∀ (Z9:List (Addr×Obj)) (Z:St) (H:Hp) (s:Shared) (e:Value) (s':Shared),Inv X Z9 Z H s->CX X.stack H s E e s'->X.xe e s'
section
variable {X:Cx}{CX:Ve}{k:Nat}{f C:Addr}{fd:FuncData}{ps:List Str}{sp:Sp}{dvs:List V}{ds:List Value}{E:XK}{x m:Str}{p pos apos:Pos}{e o:Expr}{es:List Expr}{ta:TE}{t:TA}
def zwF {Z9:List (Addr×Obj)}{Z:St}{H:Hp}{s:Shared}{Q:VK}{us:List Value}{vs:List V}(F:zO X.prog X.w X.K X.mg X.base CX k f fd ps sp)(hr:Zk k X.A)(hb:Binds X.K fd ps ds)(hd:Vals dvs ds)(hx:Passes CX X E)
  (I:Inv X Z9 Z H s) (r:Vals vs us) (h:sp (vs++dvs) H Q E):wpAny (model X.prog X.w) X.A (call (.ref f) us) (EP X Z9 Z Q) X.xe s:=by
 have r2:Vals (vs++dvs) (us++ds):=r.append hd
 have hl:(us++ds).length=ps.length:=by rw[<- r2.length];exact F.len _ _ _ _ h
 refine wpAny_call (codeAny_mono (F.run X.A X.stack s H ⟨us,[]⟩ (us++ds) (vs++dvs) Q E hr I.env0 (hb s us I.kIn hl) r2 h) fun r s' hq=>?_)
 cases r with
 |error e=>exact hx Z9 Z H s e s' I hq
 |ok fl =>
  cases fl with
  |ret u=>exact I.after hq
  |next=>exact False.elim hq
  |brk=>exact False.elim hq
  |cont=>exact False.elim hq
def zup (F:zO X.prog X.w X.K X.mg X.base CX k f fd ps sp)(hr:Zk k X.A)(hg:Gl X x)(hm:X.mg x=some (.ref f))(hk:PySem.W.keepIn X.K (.ref f)=true)(hb:Binds X.K fd ps ds)(hd:Vals dvs ds)(hx:Passes CX X E)
  (ha:PA X (e::es) t) (hdb:(x==("__debug__":Str))=false:=by decide) (he:starEach (e::es) X.env=(false,eval e X.env)::starEach es X.env:=by rfl) (hpl:(backTo pos (starEach es X.env)).any (·.1)=false:=by rfl) :
  PE X (.Call (.Name x p) (e::es) [] pos) (zoy sp dvs E t):=by
 intro Z9 s Z H Q I h
 refine wpAny_Call_Name_kw (zfp I hg hm ?_ hdb)
 refine PySem.W.callWith_K (h₀:=X.base) I.ok.mod.kin hk (Z0 (ha pos Z9 s Z H _ I h) fun us s1 ⟨vs,H1,I1,r,q⟩=>⟨I1.kIn,?_⟩) he hpl
 exact zwF F hr hb hd hx I1 r q
structure Mk (K:PySem.W.Frag)(C f:Addr):Prop where
 makes:PySem.W.makesIn K C=true
 init:PySem.W.findIn K (.ref C) "__init__"=some (some (.ref f))
 fn:PySem.W.isFn K (.ref f)=true
 kp:PySem.W.keepIn K (.ref C)=true
def zrR {Z9:List (Addr×Obj)}{Z:St}{H:Hp}{s:Shared}{Q:VK}{us:List Value}{vs:List V}(M:Mk X.K C f)(F:zO X.prog X.w X.K X.mg X.base CX k f fd ps sp)(hr:Zk (k+1) X.A)(hb:Binds X.K fd ps ds)(hd:Vals dvs ds)
  (hx:Passes CX X E) (I:Inv X Z9 Z H s) (r:Vals vs us)
  (h:∀ x dx,H x=none->H dx=none->dx≠x->sp (.ref x::(vs++dvs)) (upd (upd H dx (.own x)) x (.ins C dx [])) (fun v H2=>v=.non/\Q (.ref x) H2) E) :
  wpAny (model X.prog X.w) X.A (call (.ref C) us) (EP X Z9 Z Q) X.xe s:=by
 have hq:=h (s.heap.objs.size+1) s.heap.objs.size (I.hok.fresh (RZ _)) (I.hok.fresh (qf _)) (qK (qbc _))
 have I2:=Inv.made (C:=C) I
 have r2:Vals (V.ref (s.heap.objs.size+1)::(vs++dvs)) (Value.ref (s.heap.objs.size+1)::(us++ds)):=.cons rfl (r.append hd)
 have hl:(Value.ref (s.heap.objs.size+1)::us++ds).length=ps.length:=by
  have e:=r2.length
  rw[F.len _ _ _ _ hq]at e
  exact e.symm
 refine wpAny_call (zrJ (f:=f) I.kIn M.makes M.init (beq_iff_eq.mp M.fn) (codeAny_mono (F.run _ X.stack _ _ ⟨Value.ref (s.heap.objs.size+1)::us,[]⟩ (Value.ref (s.heap.objs.size+1)::(us++ds)) _ _ E (hr.make C us [])
  (I2.env0.make C us []) (hb _ (Value.ref (s.heap.objs.size+1)::us) I2.kIn hl) r2 hq) fun r s' hq'=>?_))
 cases r with
 |error e=>exact hx Z9 Z _ _ e s' I2 hq'
 |ok fl =>
  cases fl with
  |ret u =>
   obtain⟨v,H',I3,rv,ev,q3⟩:=I2.after hq'
   subst ev
   exact⟨rv,⟨V.ref (s.heap.objs.size+1),H',I3,rfl,q3⟩⟩
  |next=>exact False.elim hq'
  |brk=>exact False.elim hq'
  |cont=>exact False.elim hq'
end
section
variable {X:Cx}{CX:Ve}{k:Nat}{f C:Addr}{fd:FuncData}{ps ks:List Str}{sp:Sp}{E:XK}{x m:Str}{p pos apos kpos:Pos}{e o:Expr}{es:List Expr}{kws:List Keyword}{te ta:TE}{t tk:TA}{nm:Option Str}
variable {g:List Value->List Value->List Value}{gV:List V->List V->List V}
end
structure RG (N P:List Str)(sc:Scope):Prop where
 kind:sc.kind=.function
 co:sc.isCoroutine=false
 gen:sc.isGenerator=false
 nd:N.Nodup
 pre:N.take P.length=P
 par:∀ x∈P,sc.names.lookup x=some .local\/sc.names.lookup x=some .cell
 nofree:∀ y∈sc.names,y.2≠.free
theorem zkA {kindOf:Str->Option NameKind}{x:Str}:∀ {binds:List (Str×Value)} {m:Str->Option Value},(∀ v,(x,v)∉binds)->bindL kindOf binds m x=m x
 |[],_,_=>rfl
 |(n,v)::r,m,h=>by
  unfold bindL
  rw[zkA fun w hw=>h w (qB _ hw)]
  split
  ·have:x≠n:=by rintro rfl;exact h v Qq
   simp[this]
  ·rfl
theorem zko {kindOf:Str->Option NameKind}{x:Str}:∀ {binds:List (Str×Value)} {m:Str->Option Value},(∀ v,(x,v)∉binds)->bindC kindOf binds m x=m x
 |[],_,_=>rfl
 |(n,v)::r,m,h=>by
  unfold bindC
  rw[zko fun w hw=>h w (qB _ hw)]
  split
  ·rfl
  ·have:x≠n:=by rintro rfl;exact h v Qq
   simp[this]
theorem zj0 {kindOf:Str->Option NameKind}{x:Str}{v:Value}:∀ {P:List Str} {vs:List Value} {i:Nat} {m:Str->Option Value},P.Nodup->P[i]?=some x->vs[i]?=some v->kindOf x=some .local ->
  bindL kindOf (P.zip vs) m x=some v
 |[],_,_,_,_,h,_,_=>by simp at h
 |_::_,[],_,_,_,_,h,_=>by simp at h
 |p::P,w::vs,0,m,nd,h1,h2,hk=>by
  simp at h1 h2;subst h1;subst h2
  show bindL kindOf ((p,w)::P.zip vs) m p=_
  unfold bindL
  rw[zkA fun v hv=>(PX.mp nd).1 (List.of_mem_zip hv).1,if_pos hk]
  simp
 |p::P,w::vs,i+1,m,nd,h1,h2,hk=>by
  show bindL kindOf ((p,w)::P.zip vs) m x=_
  unfold bindL
  exact zj0 (i:=i) (PX.mp nd).2 (by simpa using h1) (by simpa using h2) hk
theorem zkc {kindOf:Str->Option NameKind}{x:Str}{v:Value}:∀ {P:List Str} {vs:List Value} {i:Nat} {m:Str->Option Value},P.Nodup->P[i]?=some x->vs[i]?=some v->kindOf x≠some .local ->
  bindC kindOf (P.zip vs) m x=some v
 |[],_,_,_,_,h,_,_=>by simp at h
 |_::_,[],_,_,_,_,h,_=>by simp at h
 |p::P,w::vs,0,m,nd,h1,h2,hk=>by
  simp at h1 h2;subst h1;subst h2
  show bindC kindOf ((p,w)::P.zip vs) m p=_
  unfold bindC
  rw[zko fun v hv=>(PX.mp nd).1 (List.of_mem_zip hv).1,if_neg hk]
  simp
 |p::P,w::vs,i+1,m,nd,h1,h2,hk=>by
  show bindC kindOf ((p,w)::P.zip vs) m x=_
  unfold bindC
  exact zkc (i:=i) (PX.mp nd).2 (by simpa using h1) (by simpa using h2) hk
def start (N:List Str)(vs:List V):St:=vs.map some++List.replicate (N.length-vs.length) none
def Wf (CX:Ve)(P:Program)(w:World)(K:PySem.W.Frag)(mg:Str->Option Value)(base:Heap)(N:List Str)(qual:Str)(scope:Scope)(f:Addr)(cd:Value)(A:Around)(outer:List Env)(s:Shared)(H:Hp)(E:XK):Cx where
 prog:=P
 w:=w
 K:=K
 mg:=mg
 base:=base
 A:=A.deeper (envOfC qual scope s.heap.objs.size f cd)
 N:=N
 s₀:=s
 H₀:=H
 env:=envOfC qual scope s.heap.objs.size f cd
 outer:=outer
 stack:=envOfC qual scope s.heap.objs.size f cd::outer
 ex:=[]
 calm:=true
 fn:=fun _=>true
 pn:=[]
 xe:=fun e s'=>wpAny (model P w) (A.deeper (envOfC qual scope s.heap.objs.size f cd)) (leaving (envOfC qual scope s.heap.objs.size f cd) e) (fun _ s''=>CX outer H s E e s'') (fun e' s''=>CX outer H s E e' s'') s'
def zlD {sc:Scope}{n:Nat}{x:Str}(h:sc.names.lookup x=some .cell):∃ c,(cellsFrom n sc.names []).lookup x=some c:=by
 have q:=PySem.W.cellsFrom_some sc.names n [] (.inl h)
 exact qaC.mp q
def zpb {CX:Ve}{P:Program}{w:World}{K:PySem.W.Frag}{mg:Str->Option Value}{base:Heap}{N ps:List Str}{qual:Str}{scope:Scope}{f:Addr}{cd:Value}{A:Around}{outer:List Env}{s s1:Shared}{H:Hp}{E:XK}{us:List Value}{vs:List V}
    (S:RG N ps scope) (hd:A.handled=none) (e0:PN P w K mg base A outer s H) (hl:vs.length=ps.length) (r:Vals vs us)
    (x:InCallC s s.heap.objs.size (bindL (envOfC qual scope s.heap.objs.size f cd).kindOf (ps.zip us) fun _=>none) (cellsFrom (s.heap.objs.size+1) scope.names []) (bindC (envOfC qual scope s.heap.objs.size f cd).kindOf (ps.zip us) fun _=>none) s1) :
    Inv (Wf CX P w K mg base N qual scope f cd A outer s H E) [] (start N vs) H s1:=by
  have hpl:ps.length<=N.length:=by have:=congrArg List.length S.pre;rw[Vy]at this;lia
  obtain⟨h1,tk,rfl,hk⟩:=x.done
  have noA:∀ b:Addr,b∉(Wf CX P w K mg base N qual scope f cd A outer s H E).ex:=fun b z=>absurd (show b∈([]:List Addr)from z) (by simp)
  refine⟨⟨e0.mod,S.kind,rfl,rfl,qf _,fun y z c h1 h2=>?_,fun y hy=>?_,fun y c _ h=>?_,fun _=>hd,Around.frames_deeper e0.frames,.inr ⟨rfl,rfl⟩,fun b z=>absurd z (noA b),e0.bs,e0.bsz,fun b _ _=>noA b,fun b z=>absurd z (noA b),e0.funs,e0.frf⟩,
    rfl,e0.bare,Un.kept hk,⟨_,x.toInCall.ns,fun i y v h1 h2 h3=>?_⟩,fun y c h=>⟨_,x.cell y c h⟩,e0.hok.fresh (qf _),fun y c h=>?_,fun p hp=>absurd (show p∈([]:List (Addr×Obj))from hp) (by simp),e0.hok.kept hk,?_⟩
  . exact name_of_addr x.apart (PySem.mem_of_lookup h1) (PySem.mem_of_lookup h2)
  . have hy:scope.names.lookup y=some .cell\/scope.names.lookup y=some .free:=hy
    rcases hy with hy|hy
    . exact zlD hy
    . exact absurd rfl (S.nofree _ (PySem.mem_of_lookup hy))
  . exact Pq (x.above y c (PySem.mem_of_lookup h))
  . have hi : i < vs.length := by
      unfold start at h2
      by_cases hi:i<vs.length
      . exact hi
      . rw[qi (by simpa using hi)]at h2
        rw[qaG]at h2
        split at h2<;>cases h2
    have ha:vs[i]?=some v:=by
      unfold start at h2
      rw[qk (by simpa using hi),qj]at h2
      cases e:vs[i]? with
      |none=>rw[e]at h2;cases h2
      |some a=>rw[e]at h2;cases h2;rfl
    obtain⟨u,hu,rv⟩:=r.get ha
    have hp:ps[i]?=some y:=by
      rw[<- S.pre,qaW (by lia)];exact h1
    have ndP:ps.Nodup:=by rw[<- S.pre];exact S.nd.sublist (List.take_sublist _ _)
    refine⟨u,rv,?_⟩
    rcases S.par y (qe hp)with k|k
    . exact .inl ⟨k,zj0 ndP hp hu k⟩
    . obtain⟨c,e⟩:=zlD (n:=s.heap.objs.size+1) k
      refine .inr ⟨.inl k,c,e,?_⟩
      have q:=x.cell y c e
      rw[zkc ndP hp hu (by show scope.names.lookup y≠_;rw[k];decide)]at q
      exact q
  . exact e0.hok.fresh (Pq (x.above y c (PySem.mem_of_lookup h)))
  . unfold start
    show _=N.length
    rw[qh,qb,qH]
    lia
def zsF {CX:Ve}{P:Program}{w:World}{K:PySem.W.Frag}{mg:Str->Option Value}{base:Heap}{k:Nat}{f:Addr}{name qual:Str}{params:Arguments}{body:List Stmt}{scope:Scope}{dV kV doc pm cdv ct oc:Value}{an od:Option Addr}
  {osl:Array (Option Value)} {N ps:List Str} {sp:Sp} (lk:K.lookup f=some ⟨oc,od,.func (PySem.W.fnOf name qual params body scope dV kV doc pm an cdv ct),osl⟩) (hcd:PySem.W.codeIn K cdv qual=true) (S:RG N ps scope)
  (len:∀ vs H Q E,sp vs H Q E->vs.length=ps.length)
  (hbody:∀ (A:Around) (outer:List Env) (s:Shared) (H:Hp) (vs:List V) (Q:VK) (E:XK),Zk k (A.deeper (envOfC qual scope s.heap.objs.size f cdv))->sp vs H Q E ->
   ∃ t,W4 (Wf CX P w K mg base N qual scope f cdv A outer s H E) body t/\t { nx:=fun _ H'=>Q .non H',rt:=Q } (start N vs) H) :
  zO P w K mg base CX (k+1) f (PySem.W.fnOf name qual params body scope dV kV doc pm an cdv ct) ps sp:=by
 refine⟨len,fun A outer s H args us vs Q E hr e0 hb r hsp=>?_⟩
 have hl:=len _ _ _ _ hsp
 have KX:K.In s.heap:=e0.mod.kin.keeps fun b o e=>(e0.bs b o e).1
 have lim:s.heap.NoLimit:=e0.mod.nolimit.keeps fun b o e=>(e0.bs b o e).1
 have hkind:∀ y∈ps.zip us,scope.names.lookup y.1=some .local\/(scope.names.lookup y.1=some .cell/\((cellsFrom (s.heap.objs.size+1) scope.names []).lookup y.1).isSome=true):=fun⟨n,v⟩ hy=>by
  rcases S.par n (List.of_mem_zip hy).1 with q|q
  ·exact .inl q
  ·exact .inr ⟨q,PySem.W.cellsFrom_some _ _ _ (.inl q)⟩
 refine codeAny_call_function hr.depth (KX _ _ lk) rfl S.co S.gen rfl (PySem.W.codeRec_of KX hcd) (hb _ _ _ _ ?_)
 refine wpAny_newFunctionEnv_cells S.kind hkind fun env he s1 x=>?_
 subst he
 refine⟨lim.keeps x.toInCall.keep,codeAny_func ?_⟩
 obtain⟨t,ht,hq⟩:=hbody A outer s H vs Q E (hr.deeper _) hsp
 have I:Inv (Wf CX P w K mg base N qual scope f cdv A outer s H E) [] (start N vs) H s1:=zpb S hr.hd e0 hl r x
 refine wpAny_mono (ht [] s1 (start N vs) H _ I hq) (fun fl s' hs=>?_) fun e s' hs=>hs
 have fin:∀ {σ':St} {H':Hp} {v:V} {u:Value},Inv (Wf CX P w K mg base N qual scope f cdv A outer s H E) [] σ' H' s'->RelV v u->Q v H'->CE outer P w H s Q u s' :=
  fun {σ' H' v u} J rv q=>⟨v,H',J.os,J.bare,J.base,J.hok,rv,q⟩
 cases fl with
 |ret u =>
  obtain⟨v,σ',H',J,rv,q⟩:=hs
  exact fin J rv q
 |next =>
  obtain⟨σ',H',J,q⟩:=hs
  exact fin (v:=V.non) (u:=Value.none) J rfl q
 |brk =>
  obtain⟨_,_,_,q⟩:=hs
  exact False.elim q
 |cont =>
  obtain⟨_,_,_,q⟩:=hs
  exact False.elim q
section
variable {X:Cx}{x:Str}{p pos:Pos}{e:Expr}{es:List Expr}{t:TA}{id T:String}{r:List V->Hp->VK->Prop}
def tCB (r:List V->Hp->VK->Prop)(t:TA):TE:=fun Z H Q=>t Z H fun vs H1=>r vs H1 Q
def zqR (hc:YJ X (.builtin id) r)(hg:Gl X x)(hm:X.mg x=none)(hv:bootBuiltins x=some (.builtin id))(ha:PA X (e::es) t)(hn:x≠"__name__":=by decide)(hdb:(x==("__debug__":Str))=false:=by decide)
  (he:starEach (e::es) X.env=(false,eval e X.env)::starEach es X.env:=by rfl) (hpl:(backTo pos (starEach es X.env)).any (·.1)=false:=by rfl):PE X (.Call (.Name x p) (e::es) [] pos) (tCB r t):=by
 intro Z9 s Z H Q I h
 refine wpAny_Call_Name_kw (UW I hg hm hv ?_ hn hdb)
 exact PyProof.Rows.callWith_builtin1 (Z0 (ha pos Z9 s Z H _ I h) fun us s1 ⟨vs,H1,I1,r1,q1⟩=>hc Z9 s1 Z H1 vs us Q I1 r1 q1) he hpl
def zoJ (hc:YJ X (.type T) r)(hg:Gl X x)(hm:X.mg x=none)(hv:bootBuiltins x=some (.type T))(ha:PA X (e::es) t)(hn:x≠"__name__":=by decide)(hdb:(x==("__debug__":Str))=false:=by decide)
  (he:starEach (e::es) X.env=(false,eval e X.env)::starEach es X.env:=by rfl) (hpl:(backTo pos (starEach es X.env)).any (·.1)=false:=by rfl):PE X (.Call (.Name x p) (e::es) [] pos) (tCB r t):=by
 intro Z9 s Z H Q I h
 refine wpAny_Call_Name_kw (UW I hg hm hv ?_ hn hdb)
 exact PyProof.Rows.callWith_type1 (Z0 (ha pos Z9 s Z H _ I h) fun us s1 ⟨vs,H1,I1,r1,q1⟩=>hc Z9 s1 Z H1 vs us Q I1 r1 q1) he hpl
end
end L2
namespace HT
open PySem PyProof.Rows
section
open PySem.SeqAt
open PySem.AutoSeq1 (wpAny_loadPart')
open PySem.MeetsSeq PySem.MeetsSeq2 PySem.MeetsSeq3
end
section
variable {prog:Program}{w:World}{A:Around}{E:Value->Shared->Prop}{s:Shared}
def zs7 {t b:Addr}{vs ws:List Value}{Q:Value->Shared->Prop}(ht:IsTup s.heap t vs.toArray)(hb:IsTup s.heap b ws.toArray)(hv:vs≠[])
  (h1:ws=[]->Q (.ref t) s) (h2:ws≠[]->Q (.ref s.heap.objs.size) { s with heap:=s.heap.push { cls:=.type "tuple",data:=.seq (vs++ws).toArray } })
  (hsz:vs.length+ws.length<=sizeLine):wpAny (model prog w) A (binaryOp .Add (.ref t) (.ref b)) Q E s:=by
 obtain⟨⟨cls,dd,data,sl⟩,ho,hc,n,hd⟩:=id ht
 obtain⟨⟨cls2,dd2,data2,sl2⟩,ho2,hc2,n2,hd2⟩:=id hb
 simp only at hc hd hc2 hd2
 subst hc hd hc2 hd2
 have e:vs.toArray++ws.toArray=(vs++ws).toArray:=by simp
 by_cases hw:ws=[]
 ·exact concat_meets ⟨_,ho,rfl⟩ ⟨_,ho2,rfl⟩ noFill_tuple_add seq_tuple_add PySem.F.slot_tuple_add PySem.F.entry_tuple_add (PySem.F.args_tuple_add_2 _ _)
   (tuple_addW1 t b vs.toArray ws.toArray n n2 dd dd2 sl sl2 (by simpa using hv) (by simp[hw])) ⟨ho,ho2,h1 hw⟩
 ·refine concat_meets ⟨_,ho,rfl⟩ ⟨_,ho2,rfl⟩ noFill_tuple_add seq_tuple_add PySem.F.slot_tuple_add PySem.F.entry_tuple_add (PySem.F.args_tuple_add_2 _ _)
   (tuple_addW2 t b vs.toArray ws.toArray n n2 dd dd2 sl sl2 (by simpa using hv) (by simpa using hw) (by rw[qm,qm];exact hsz)) ⟨ho,ho2,?_⟩
  rw[e]
  exact h2 hw
def sIx (n d:Nat):Option Int->Nat
 |none=>d
 |some v=>if v<0 then(v+(n:Int)).toNat else min v.toNat n
def zjn (n d:Nat)(hd:d<=n)(o:Option Int):sIx n d o<=n:=by
 cases o with
 |none=>exact hd
 |some v =>
  show(if v<0 then(v+(n:Int)).toNat else min v.toNat n)<=n
  by_cases hv:v<0
  ·rw[if_pos hv];lia
  ·rw[if_neg hv];exact Nat.min_le_right _ _
def znh (v:Int)(n d:Nat):(if v<0 then max (v+(n:Int)) 0 else min v (n:Int))=((sIx n d (some v):Nat):Int):=by
 show(if v<0 then max (v+(n:Int)) 0 else min v (n:Int))=(((if v<0 then(v+(n:Int)).toNat else min v.toNat n):Nat):Int)
 by_cases hv:v<0
 ·simp only[if_pos hv];lia
 ·simp only[if_neg hv];lia
def znY (lo hi:Option Int)(n:Nat):Builtin.Slice.sliceAdjust lo hi 1 (n:Int)=(((sIx n 0 lo:Nat):Int),((sIx n n hi:Nat):Int)):=by
 have h1:¬ ((1:Int)<0):=by lia
 unfold Builtin.Slice.sliceAdjust
 simp only[h1,if_false]
 refine Prod.ext ?_ ?_
 ·cases lo with
  |none=>rfl
  |some v=>exact znh v n 0
 ·cases hi with
  |none=>rfl
  |some v=>exact znh v n n
def znG (i j:Nat):Builtin.Slice.slicePlaces (i:Int) (j:Int) 1=j-i:=by
  unfold Builtin.Slice.slicePlaces
  have h1:(1:Int) > 0:=by lia
  simp only[h1,if_true,Int.ediv_one]
  split<;>lia
def zjh {v:Value}{o:Option Int}{Q:Option Int->Shared->Prop}(p:IsPart v o)(h:Q o s):wpAny (model prog w) A (Builtin.Slice.slicePartIndex v) Q E s:=by
 cases p with
 |none=>exact slicePart_none h
 |int i t=>exact slicePart_int h
def zeu {sl:Addr}{vl vu:Value}{lo hi:Option Int}{n:Nat}{Q:Int×Int×Nat->Shared->Prop}(hs:s.heap.IsSliceOf sl vl vu .none)(pl:IsPart vl lo)(pu:IsPart vu hi)
  (h:Q (((sIx n 0 lo:Nat):Int),1,sIx n n hi-sIx n 0 lo) s):wpAny (model prog w) A (Builtin.Slice.sliceApplied (.ref sl) (pure (n:Int))) Q E s:=by
 obtain⟨os,hos,hcs,hds⟩:=id hs
 unfold Builtin.Slice.sliceApplied Builtin.Slice.sliceFields
 refine wpAny_bind (wpAny_bind (wpAny_field hos hds (x:=vl) rfl (wpAny_bind (wpAny_field hos hds (x:=vu) rfl (wpAny_bind (wpAny_field hos hds (x:=.none) rfl (wpAny_pure ?_)))))))
 refine wpAny_bind (slicePart_none ?_)
 show wpAny _ _ (if((1:Int)==0)=true then _ else _) _ _ s
 rw[if_neg (by decide)]
 refine wpAny_bind (zjh pl (wpAny_bind (zjh pu (wpAny_bind (wpAny_pure ?_)))))
 show wpAny _ _ (match Builtin.Slice.sliceAdjust lo hi 1 (n:Int)with|(lo,hi)=>pure (lo,(1:Int),Builtin.Slice.slicePlaces lo hi 1)) _ _ s
 rw[znY lo hi n]
 show wpAny _ _ (pure (((sIx n 0 lo:Nat):Int),(1:Int),Builtin.Slice.slicePlaces ((sIx n 0 lo:Nat):Int) ((sIx n n hi:Nat):Int) 1)) _ _ s
 rw[znG]
 exact wpAny_pure h
def zrE (xs:Array Value)(i k:Nat):((List.range k).filterMap fun (m:Nat)=>xs[((i:Int)+(m:Int)*1).toNat]?).toArray=((xs.toList.drop i).take k).toArray:=by
 have e:(fun (m:Nat)=>xs[((i:Int)+(m:Int)*1).toNat]?)=fun m=>xs[i+m]?:=by
  funext m
  have:((i:Int)+(m:Int)*1).toNat=i+m:=by lia
  rw[this]
 rw[e]
 have:=pick_run xs i k
 rw[List.filterMap_map]at this
 have e2:((fun x=>xs[x]?) ∘ fun x=>i+x)=fun m=>xs[i+m]?:=rfl
 rw[e2]at this
 rw[this]
def zhC {t sl:Addr}{items:Array Value}{vl vu:Value}{lo hi:Option Int}{Q:Value->Shared->Prop}(ht:IsTup s.heap t items)(hs:s.heap.IsSliceOf sl vl vu .none)(pl:IsPart vl lo)(pu:IsPart vu hi)
  (hw:¬ (sIx items.size 0 lo=0/\sIx items.size items.size hi=items.size))
  (h:Q (.ref s.heap.objs.size) { s with heap:=s.heap.push { cls:=.type "tuple",data:=.seq ((items.toList.drop (sIx items.size 0 lo)).take (sIx items.size items.size hi-sIx items.size 0 lo)).toArray } })
  (hsz:items.size<=sizeLine):wpAny (model prog w) A (getItem (.ref t) (.ref sl)) Q E s:=by
 have htake:sizeOk (.seq ((items.toList.drop (sIx items.size 0 lo)).take (sIx items.size items.size hi-sIx items.size 0 lo)).toArray):=by
  show((items.toList.drop (sIx items.size 0 lo)).take (sIx items.size items.size hi-sIx items.size 0 lo)).toArray.size<=sizeLine
  rw[qm,Vy,R6,qN]
  lia
 have hj:sIx items.size items.size hi<=items.size:=zjn _ _ (qf _) hi
 obtain⟨os,hos,hcs,hds⟩:=id hs
 have hTs:s.TypeIs (.ref sl) "slice":=⟨os,hos,hcs⟩
 unfold getItem
 try with_reducible refine wpAny_holding ?_
 first|refine wpAny_bind (wpAny_pure ?_)|skip
 refine wpAny_bind (wpAny_sequenceKey ht.typeIs (by decide) ?_)
 refine wpAny_bind (wpAny_callSpecial?_slot (name:=Str.ofString "__getitem__") ht.typeIs PyProof.Rows.slot_tuple_getitem
  (wpAny_call_entry PyProof.Rows.slot_tuple_getitem ht.typeIs entry_tuple_getitem ?_ (args_tuple_getitem _ _)))
 show wpAny _ _ (Builtin.Tuple.tupleItemsOf (.ref t) >>= _) _ _ s
 refine wpAny_bind (tupleItemsOf_ ht ?_)
 refine wpAny_bind (wpAny_typeOf hTs ?_)
 rw[if_pos (by decide)]
 refine wpAny_bind (zeu hs pl pu ?_)
 have hno:¬ ((((sIx items.size 0 lo:Nat):Int)==0&&(1:Int)==1&&(sIx items.size items.size hi-sIx items.size 0 lo)==items.size)=true):=by
  intro q
  rw[qG,qG]at q
  have q1:((sIx items.size 0 lo:Nat):Int)=0:=eq_of_beq q.1.1
  have q2:sIx items.size items.size hi-sIx items.size 0 lo=items.size:=eq_of_beq q.2
  exact hw ⟨by lia,by lia⟩
 show wpAny _ _ (if(((sIx items.size 0 lo:Nat):Int)==0&&(1:Int)==1&&(sIx items.size items.size hi-sIx items.size 0 lo)==items.size)=true then _ else _) _ _ s
 rw[if_neg hno,zrE]
 first
  |exact wpAny_bind (m:=Builtin.Tuple.tupleExact _) (wpAny_newObj_type (wpAny_pure ⟨_,rfl,wpAny_pure h⟩) htake)
  |exact wpAny_bind (m:=Builtin.Tuple.tupleExact _) (wpAny_newObj_type (wpAny_bind (wpAny_pure (wpAny_pure ⟨_,rfl,wpAny_pure h⟩))) htake)
  |exact wpAny_bind (wpAny_bind (m:=Builtin.Tuple.tupleExact _) (wpAny_newObj_type (wpAny_pure (wpAny_pure ⟨_,rfl,wpAny_pure h⟩)) htake))
  |exact wpAny_bind (wpAny_bind (m:=Builtin.Tuple.tupleExact _) (wpAny_newObj_type (wpAny_pure ⟨_,rfl,wpAny_pure h⟩) htake))
end
end HT
namespace L2
open PySem PySem.Spec PyProof.Rows
abbrev TO:=St->Hp->(Option Int->Hp->Prop)->Prop
def PO (X:Cx)(e:Option Expr)(t:TO):Prop :=
 ∀ (Z9:List (Addr×Obj)) (s:Shared) (Z:St) (H:Hp) (Q:Option Int->Hp->Prop),Inv X Z9 Z H s->t Z H Q ->
  wpAny (model X.prog X.w) X.A (evalPart e X.env) (fun u s'=>∃ o H',Inv X Z9 Z H' s'/\IsPart u o/\Q o H') X.xe s
def zs3:TO:=fun _ H Q=>Q none H
def zx3 (t:TE):TO:=fun Z H Q=>t Z H fun x H1=>∃ i,x=.int i/\Q (some i) H1
section
variable {X:Cx}{e:Expr}{te:TE}{lo hi:Option Expr}{tl th:TO}{pos p2:Pos}
def zsJ:PO X none zs3:=by
 intro Z9 s Z H Q I h
 rw[evalPart_none]
 exact wpAny_pure ⟨none,H,I,.none,h⟩
def zue (h:PE X e te):PO X (some e) (zx3 te):=by
 intro Z9 s Z H Q I hw
 rw[evalPart_some]
 refine Z0 (h Z9 s Z H _ I hw) fun u s1 ⟨x,H1,I1,r1,q1⟩=>?_
 obtain⟨i,rfl,q⟩:=q1
 obtain⟨t,rfl⟩:=r1
 exact⟨some i,H1,I1,.int i t,q⟩
def SJ (X:Cx)(r:V->Option Int->Option Int->Hp->VK->Prop):Prop :=
 ∀ (Z9:List (Addr×Obj)) (s:Shared) (Z:St) (H:Hp) (x:V) (v vl vu:Value) (lo hi:Option Int) (sl:Addr) (Q:VK),Inv X Z9 Z H s->RelV x v->s.heap.IsSliceOf sl vl vu .none->IsPart vl lo->IsPart vu hi->r x lo hi H Q ->
  ∃ T id,typeLookup (.type T) "__getitem__"=pure (some (.builtin id))/\s.TypeIs v T/\wpAny (model X.prog X.w) X.A (getItem v (.ref sl)) (EP X Z9 Z Q) X.xe s
def SJ.or {r r':V->Option Int->Option Int->Hp->VK->Prop}(h:SJ X r)(h':SJ X r'):SJ X (fun x lo hi H Q=>r x lo hi H Q\/r' x lo hi H Q):=by
 intro Z9 s Z H x v vl vu lo hi sl Q I rx hs pl pu q
 rcases q with q|q
 ·exact h Z9 s Z H x v vl vu lo hi sl Q I rx hs pl pu q
 ·exact h' Z9 s Z H x v vl vu lo hi sl Q I rx hs pl pu q
def tSl (r:V->Option Int->Option Int->Hp->VK->Prop)(te:TE)(tl th:TO):TE:=fun Z H Q=>te Z H fun x H1=>tl Z H1 fun l H2=>th Z H2 fun u H3=>r x l u H3 Q
def zrp {r:V->Option Int->Option Int->Hp->VK->Prop}(hr:SJ X r)(he:PE X e te)(hl:PO X lo tl)(hu:PO X hi th):PE X (.Subscript e (.Slice lo hi none p2) pos) (tSl r te tl th):=by
 intro Z9 s Z H Q I h
 refine Subscript_ (Z0 (he Z9 s Z H _ I h) fun v s1 ⟨x,H1,I1,r1,q1⟩=>?_)
 refine wpAny_Slice (Z0 (hl Z9 s1 Z H1 _ I1 q1) fun vl s2 ⟨l,H2,I2,pl,q2⟩=>Z0 (hu Z9 s2 Z H2 _ I2 q2) fun vu s3 ⟨u,H3,I3,pu,q3⟩=>?_)
 rw[evalPart_none]
 refine wpAny_pure ?_
 have I4:Inv X Z9 Z H3 { s3 with heap:=s3.heap.push { cls:=.type "slice",data:=.fields #[vl,vu,.none] } }:=I3.kept (t':=s3.toks) fun b ob q=>qd _ q
 obtain⟨T,id,hT,ht,hg⟩:=hr Z9 { s3 with heap:=s3.heap.push { cls:=.type "slice",data:=.fields #[vl,vu,.none] } } Z H3 x v vl vu l u s3.heap.objs.size Q I4 r1 (Heap.IsSliceOf.new ..) pl pu q3
 show wpAny (model X.prog X.w) X.A (subscriptTail e (.Slice lo hi none p2) v (.ref s3.heap.objs.size)) (EP X Z9 Z Q) X.xe { s3 with heap:=s3.heap.push { cls:=.type "slice",data:=.fields #[vl,vu,.none] } }
 exact tail_any (ops:=[.ref s3.heap.objs.size,v]) ht hT hg (by with_unfolding_all rfl)
def Tw (xs:List V)(lo hi:Option Int):List V:=(xs.drop (HT.sIx xs.length 0 lo)).take (HT.sIx xs.length xs.length hi-HT.sIx xs.length 0 lo)
def zhZ (xs:List V)(lo hi:Option Int):(Tw xs lo hi).length<=xs.length:=by
 unfold Tw
 rw[Vy,R6]
 lia
def zzc (K:PySem.W.Frag):V->Option Int->Option Int->Hp->VK->Prop:=fun x lo hi H Q=>∃ a xs,x=.ref a/\ZK K H a xs /\
 ¬ (HT.sIx xs.length 0 lo=0/\HT.sIx xs.length xs.length hi=xs.length)/\∀ p,H p=none->Q (.ref p) (upd H p (.tup (Tw xs lo hi)))
def zuW:SJ X (zzc X.K):=by
 intro Z9 s Z H x v vl vu lo hi sl Q I rx hs pl pu h
 obtain⟨a,xs,rfl,hx,hw,q⟩:=h
 cases rx
 obtain⟨its,r,ht,hz⟩:=I.tuple hx
 have hlen:its.toArray.size=xs.length:=by rw[qm];exact r.length.symm
 refine⟨"tuple",_,PyProof.Rows.slot_tuple_getitem.lookup,ht.typeIs,?_⟩
 refine HT.zhC ht hs pl pu (by rw[hlen];exact hw) ?_ (by rw[hlen];exact hz)
 rw[hlen]
 refine⟨.ref s.heap.objs.size,_,I.laid (t':=s.toks) (o:=.tup (Tw xs lo hi)) (fun b ob q=>qd _ q) (qf _) ?_,rfl,q _ (I.hok.fresh (qf _))⟩
 exact⟨qY (zhZ xs lo hi) hz,_,(r.drop (HT.sIx xs.length 0 lo)).take (HT.sIx xs.length xs.length hi-HT.sIx xs.length 0 lo),IsTup.new _ _⟩
def zxp (K:PySem.W.Frag):R2:=fun x y H Q=>∃ a b xs ys,x=.ref a/\y=.ref b/\ZK K H a xs/\ZK K H b ys/\xs≠[]/\xs.length+ys.length<=sizeLine /\
 (ys=[]->Q (.ref a) H)/\(ys≠[]->∀ p,H p=none->Q (.ref p) (upd H p (.tup (xs++ys))))
def Vals.nil_iff {xs:List V}{us:List Value}(r:Vals xs us):us=[]↔xs=[]:=by
 cases r with
 |nil=>simp
 |cons _ _=>simp
def zsW:Zm X (binaryOp .Add) (zxp X.K):=by
 intro Z9 s Z H x y v u Q I rx ry h
 obtain⟨a,b,xs,ys,rfl,rfl,ha,hb,hx,hz,q1,q2⟩:=h
 cases rx
 cases ry
 obtain⟨its,r1,p1,_⟩:=I.tuple ha
 obtain⟨its2,r2,p2,_⟩:=I.tuple hb
 refine HT.zs7 p1 p2 (fun z=>hx (r1.nil_iff.mp z)) (fun z=>⟨.ref a,H,I,rfl,q1 (r2.nil_iff.mp z)⟩) (fun z=>?_) (by rw[<- r1.length,<- r2.length];exact hz)
 refine⟨.ref s.heap.objs.size,_,I.laid (t':=s.toks) (o:=.tup (xs++ys)) (fun b ob q=>qd _ q) (qf _) ?_,rfl,q2 (fun w=>z (r2.nil_iff.mpr w)) _ (I.hok.fresh (qf _))⟩
 exact⟨by rw[qh];exact hz,_,r1.append r2,IsTup.new _ _⟩
end
def O5 (n:Nat)(i:Int):Option Nat:=if 0<=i then(if i<n then some i.toNat else none)else if -(n:Int)<=i then some (i+n).toNat else none
def Pr {α:Type}(xs:List α)(i:Int):Option α:=(O5 xs.length i).bind fun j=>xs[j]?
def zm1 {n:Nat}{i:Int}{j:Nat}(h:O5 n i=some j):seqIndex? i n=some j/\j<n/\-(n:Int)<=i/\i<n:=by
 unfold O5 at h
 by_cases h0:0<=i
 ·rw[if_pos h0]at h
  by_cases h1:i<n
  ·rw[if_pos h1]at h
   have e:i.toNat=j:=qw h
   exact⟨by rw[seqIndex_of h0 h1,e],by lia,by lia,h1⟩
  ·rw[if_neg h1]at h;cases h
 ·rw[if_neg h0]at h
  by_cases h1:-(n:Int)<=i
  ·rw[if_pos h1]at h
   have e:(i+n).toNat=j:=qw h
   exact⟨by rw[seqIndex_neg (by lia) h1,e],by lia,h1,by lia⟩
  ·rw[if_neg h1]at h;cases h
def zjF {α:Type}{xs:List α}{i:Int}{v:α}(h:Pr xs i=some v):∃ j,seqIndex? i xs.length=some j/\xs[j]?=some v/\j<xs.length/\-(xs.length:Int)<=i/\i<xs.length:=by
 unfold Pr at h
 cases e:O5 xs.length i with
 |none=>rw[e]at h;cases h
 |some j =>
  rw[e]at h
  obtain⟨h1,h2,h3,h4⟩:=zm1 e
  exact⟨j,h1,h,h2,h3,h4⟩
def zm2 (b:Expr):Prop:=∀ o i,subscripted b false o i=operate [o,i] (getItem o i)
def Rv (X:Cx)(r:R2):Prop :=
 ∀ (value slice:Expr) (Z9:List (Addr×Obj)) (s:Shared) (Z:St) (H:Hp) (x y:V) (v u:Value) (Q:VK),Inv X Z9 Z H s->RelV x v->RelV y u->r x y H Q ->
  subscripted slice false v u=operate [v,u] (getItem v u)->wpAny (model X.prog X.w) X.A (subscriptTail value slice v u) (EP X Z9 Z Q) X.xe s
def MtR (X:Cx)(id:String)(r:V->List V->Hp->VK->Prop):Prop :=
 ∀ (Z9:List (Addr×Obj)) (s:Shared) (Z:St) (H:Hp) (x:V) (xs:List V) (v:Value) (us:List Value) (Q:VK),Inv X Z9 Z H s->RelV x v->Vals xs us->r x xs H Q ->
  wpAny (model X.prog X.w) X.A (call (.builtin id) (v::us)) (EP X Z9 Z Q) X.xe s
section
variable {X:Cx}{a b:Expr}{ta tb:TE}{pos:Pos}
def Rv.or {r r':R2}(h:Rv X r)(h':Rv X r'):Rv X (fun x y H Q=>r x y H Q\/r' x y H Q):=by
 intro value slice Z9 s Z H x y v u Q I rx ry q hs
 rcases q with q|q
 ·exact h value slice Z9 s Z H x y v u Q I rx ry q hs
 ·exact h' value slice Z9 s Z H x y v u Q I rx ry q hs
def zxl {r:R2}(hr:Rv X r)(ha:PE X a ta)(hb:PE X b tb)(hs:zm2 b):PE X (.Subscript a b pos) (tOp r ta tb):=by
 intro Z9 s Z H Q I h
 exact Subscript_ (zqI ha hb I h fun v u s2 x y H2 I2 rx ry q=>hr a b Z9 s2 Z H2 x y v u Q I2 rx ry q (hs _ _))
def zyT (K:PySem.W.Frag):R2:=fun x y H Q=>∃ p xs i v,x=.ref p/\y=.int i/\Zr K H p xs/\Pr xs i=some v/\Q v H
def zyY (K:PySem.W.Frag):R2:=fun x y H Q=>∃ p xs i v,x=.ref p/\y=.int i/\ZK K H p xs/\Pr xs i=some v/\Q v H
def zyL:R2:=fun x y H Q=>∃ z i c,x=.str z/\y=.int i/\z.length<=sizeLine/\Pr z.cps.toList i=some c/\Q (.str ⟨#[c]⟩) H
def ztg:Rv X (zyT X.K):=by
  intro value slice Z9 s Z H x y v u Q I rx ry h hs
  obtain⟨p,xs,i,z,rfl,rfl,hq,he,q⟩:=h
  cases rx
  obtain⟨t,rfl⟩:=ry
  obtain⟨its,r,pl,hz⟩:=I.list hq
  obtain⟨j,h1,h2,h3,h4,h5⟩:=zjF he
  obtain⟨w,ew,rw'⟩:=r.get h2
  have hl:=r.length
  have hn:=zfr
  have fin:EP X Z9 Z Q w s:=⟨z,H,I,rw',q⟩
  by_cases h0:0<=i
  . have hj : i.toNat = j := by
      rw[seqIndex_of h0 h5]at h1
      exact qw h1
    exact item_listR pl.isList h0 (by lia) (by rw[hj];simpa using ew) fin hs
  . have hj : (i + (its.toArray.size : Int)).toNat = j := by
      rw[seqIndex_neg (by lia) h4]at h1
      rw[qm,<- hl]
      exact qw h1
    exact subscriptTail_builtinR (x:=w) pl.isList.typeIs slot_list_getitem.lookup
      (wpAny_getItem_list_neg (Q:=fun r s'=>r=w/\EP X Z9 Z Q r s') pl.isList (by lia) (by rw[qm]<;>lia) (by lia) (by rw[hj];simpa using ew) ⟨rfl,fin⟩) hs
def zuH:Rv X (zyY X.K):=by
 intro value slice Z9 s Z H x y v u Q I rx ry h hs
 obtain⟨p,xs,i,z,rfl,rfl,hq,he,q⟩:=h
 cases rx
 obtain⟨t,rfl⟩:=ry
 obtain⟨its,r,pl,hz⟩:=I.tuple hq
 obtain⟨j,h1,h2,h3,h4,h5⟩:=zjF he
 obtain⟨w,ew,rw'⟩:=r.get h2
 have hl:=r.length
 have hn:=zfr
 have fin:EP X Z9 Z Q w s:=⟨z,H,I,rw',q⟩
 exact subscriptTail_builtinR (x:=w) pl.typeIs slot_tuple_getitem.lookup
  (getItem_tuple (j:=j) (Q:=fun r s'=>r=w/\EP X Z9 Z Q r s') pl (by lia) (by lia) (by rw[qm,<- hl];exact h1) (by simpa using ew) ⟨rfl,fin⟩) hs
def zuC:Rv X zyL:=by
 intro value slice Z9 s Z H x y v u Q I rx ry h hs
 obtain⟨z,i,c,rfl,rfl,hz,he,q⟩:=h
 obtain⟨t,rfl⟩:=rx
 obtain⟨t',rfl⟩:=ry
 obtain⟨j,h1,h2,h3,h4,h5⟩:=zjF he
 have hl:z.cps.toList.length=z.length:=by simp[Str.length]
 rw[hl]at h1 h4 h5
 have hn:=zfr
 exact tail_any (typeIs_str s z t) slot_str_getitem.lookup (getItem_str (c:=c) (by
  have e1:decide (i < -(2 ^ 63:Int))=false:=decide_eq_false (by lia)
  have e2:decide (i ≥ 2 ^ 63)=false:=decide_eq_false (by lia)
  rw[e1,e2,qbr]) (by rw[h1];simpa using h2) ⟨.str ⟨#[c]⟩,H,I.tok _,⟨_,rfl⟩,q⟩) hs
def zoc (its:List Value)(n j:Nat)(u:Value):Obj.mapSeq (·.setIfInBounds j u) { cls:=.type "list",data:=.seq its.toArray n }={ cls:=.type "list",data:=.seq (its.set j u).toArray n }:=by
 simp[Obj.mapSeq]
theorem Inv.lst {Z9:List (Addr×Obj)}{Z:St}{H:Hp}{s:Shared}{p:Addr}{xs:List V}(I:Inv X Z9 Z H s)(h:H p=some (.lst xs)) :
  ∃ (its:List Value) (n:Nat),Vals xs its/\s.heap.get? p=some { cls:=.type "list",data:=.seq its.toArray n }/\xs.length<=sizeLine:=by
 obtain⟨z,its,n,r,e⟩:=I.hok p _ h
 exact⟨its,n,r,e,z⟩
def Inv.lstUpd {Z9:List (Addr×Obj)}{Z:St}{H:Hp}{s:Shared}{p:Addr}{xs ys:List V}{its its':List Value}{n n':Nat}{f:Obj->Obj}(I:Inv X Z9 Z H s)(h:H p=some (.lst xs))
    (ho:s.heap.get? p=some { cls:=.type "list",data:=.seq its.toArray n }) (hf:f { cls:=.type "list",data:=.seq its.toArray n }={ cls:=.type "list",data:=.seq its'.toArray n' }) (r:Vals ys its') (hz:ys.length<=sizeLine) (t:Nat) :
    Inv X Z9 Z (upd H p (.lst ys)) { s with heap:=s.heap.update p f,toks:=t }:=by
  have e:(s.heap.update p f).get? p=some { cls:=.type "list",data:=.seq its'.toArray n' }:=by
    rw[qaR f ho (by rw[hf]<;>rfl),hf]
  refine I.write (x:=p) (e:=p) (by rw[h];trivial) (.inl rfl) (fun b u hb q=>(QW _ _ (Ne.symm hb)).trans q) ⟨_,e⟩ ?_
  exact⟨hz,its',n',r,e⟩
def zxH:V->V->V->Hp->(Hp->Prop)->Prop:=fun o i v H Q=>∃ p xs k j,o=.ref p/\i=.int k/\H p=some (.lst xs)/\O5 xs.length k=some j/\Q (upd H p (.lst (xs.set j v)))
def set_list:zv4 X zxH:=by
 intro Z9 s Z H o i v ov iv u Q I ro ri rv h
 obtain⟨p,xs,k,j,rfl,rfl,hp,hj,q⟩:=h
 cases ro
 obtain⟨t,rfl⟩:=ri
 obtain⟨its,n,r,ho,hz⟩:=I.lst hp
 obtain⟨h1,h2,h3,h4⟩:=zm1 hj
 have hl:=r.length
 have hn:=zfr
 have I':Inv X Z9 Z (upd H p (.lst (xs.set j v))) { s with heap:=s.heap.update p (Obj.mapSeq (·.setIfInBounds j u)) } :=
  I.lstUpd hp ho (zoc its n j u) (r.set rv j) (by rw[T7];exact hz) s.toks
 by_cases h0:0<=k
 ·have hk:k.toNat=j:=by
   rw[seqIndex_of h0 h4]at h1
   exact qw h1
  exact PySem.W.ki_setAt ho h0 (by lia) (by rw[qm,<- hl];exact h4) (by rw[hk];exact⟨_,I',q⟩)
 ·have hk:(k+(its.toArray.size:Int)).toNat=j:=by
   rw[seqIndex_neg (by lia) h3]at h1
   rw[qm,<- hl]
   exact qw h1
  exact PySem.W.ki_setBack ho (by lia) (by rw[qm,<- hl];exact h3) (by lia) (by rw[hk];exact⟨_,I',q⟩)
def zl7 (lo hi:Option Int)(n:Nat):(sliceBounds lo hi none n).1=((HT.sIx n 0 lo:Nat):Int)/\(sliceBounds lo hi none n).2.1=((HT.sIx n n hi:Nat):Int)/\(sliceBounds lo hi none n).2.2=1:=by
  refine⟨?_,?_,rfl⟩
  . cases lo with
    |none=>simp[sliceBounds,HT.sIx]
    |some i =>
      simp only[sliceBounds,HT.sIx,Option.getD_none,show(1:Int) > 0 by decide,if_true]
      by_cases h:i<0
      . simp only[h,if_true]<;>lia
      . simp only[h,if_false]<;>lia
  . cases hi with
    |none=>simp[sliceBounds,HT.sIx]
    |some i =>
      simp only[sliceBounds,HT.sIx,Option.getD_none,show(1:Int) > 0 by decide,if_true]
      by_cases h:i<0
      . simp only[h,if_true]<;>lia
      . simp only[h,if_false]<;>lia
def zkI (its:List Value)(lo hi:Option Int):slicePick its.toArray lo hi none=((its.drop (HT.sIx its.length 0 lo)).take (HT.sIx its.length its.length hi-HT.sIx its.length 0 lo)).toArray:=by
  obtain⟨h1,h2,h3⟩:=zl7 lo hi its.toArray.size
  unfold slicePick
  rw[h1,h2,h3]
  simp only[sliceRange_one,pick_run,qm]<;>rfl
def zy3 (K:PySem.W.Frag):V->Option Int->Option Int->Hp->VK->Prop:=fun x lo hi H Q=>∃ a xs,x=.ref a/\Zr K H a xs/\∀ p,H p=none->Q (.ref p) (upd H p (.lst (Tw xs lo hi)))
def ztS:SJ X (zy3 X.K):=by
  intro Z9 s Z H x v vl vu lo hi sl Q I rx hs pl pu h
  obtain⟨a,xs,rfl,hx,q⟩:=h
  cases rx
  obtain⟨its,r,ht,hz⟩:=I.list hx
  have hlen:=r.length
  refine⟨"list",_,slot_list_getitem.lookup,ht.isList.typeIs,?_⟩
  refine wpAny_getItem_list_slice ht.isList hs pl pu .none (by simp) ?_ (by rw[qm]<;>lia)
  rw[zkI,<- hlen]
  refine⟨.ref s.heap.objs.size,_,I.laid (t':=s.toks) (o:=.lst (Tw xs lo hi)) (fun b ob q=>qd _ q) (qf _) ?_,rfl,q _ (I.hok.fresh (qf _))⟩
  exact⟨qY (zhZ xs lo hi) hz,_,0,(r.drop (HT.sIx xs.length 0 lo)).take (HT.sIx xs.length xs.length hi-HT.sIx xs.length 0 lo),Heap.get?_push_size _ rfl⟩
def zlW:YJ X (.builtin "len") (fun xs H Q=>∃ p ys,xs=[.ref p]/\(Zr X.K H p ys\/ZK X.K H p ys)/\Q (.int ys.length) H):=by
  intro Z9 s Z H xs us Q I r h
  obtain⟨p,ys,rfl,hq,q⟩:=h
  obtain⟨u,rfl,rx⟩:=vals1 r
  cases rx
  have hn:=zfr
  rcases hq with hq|hq
  . obtain⟨its,r',pl,hz⟩:=I.list hq
    have hlen:=r'.length
    exact Calls.call_len_list pl.isList (by simp only[qm]<;>lia) ⟨.int ys.length,H,I.tok _,⟨s.toks+1,by rw[qm,hlen]⟩,q⟩
  . obtain⟨its,r',pl,hz⟩:=I.tuple hq
    have hlen:=r'.length
    exact len_tuple pl (by simp only[qm]<;>lia) ⟨.int ys.length,H,I.tok _,⟨s.toks+1,by rw[qm,hlen]⟩,q⟩
def zlH:YJ X (.builtin "len") (fun xs H Q=>∃ z,xs=[.str z]/\z.length<=sizeLine/\Q (.int z.length) H):=by
 intro Z9 s Z H xs us Q I r h
 obtain⟨z,rfl,hz,q⟩:=h
 obtain⟨u,rfl,t,rfl⟩:=vals1 r
 have hn:=zfr
 exact len_str (by lia) ⟨.int z.length,H,I.tok _,⟨_,rfl⟩,q⟩
def YJ.or {f:Value}{r r':List V->Hp->VK->Prop}(h:YJ X f r)(h':YJ X f r'):YJ X f (fun xs H Q=>r xs H Q\/r' xs H Q):=by
 intro Z9 s Z H xs us Q I rs q
 rcases q with q|q
 ·exact h Z9 s Z H xs us Q I rs q
 ·exact h' Z9 s Z H xs us Q I rs q
def zmj:YJ X (.type "list") (fun xs H Q=>∃ p ys,xs=[.ref p]/\(Zr X.K H p ys\/ZK X.K H p ys)/\∀ l,H l=none->Q (.ref l) (upd H l (.lst ys))):=by
  intro Z9 s Z H xs us Q I r h
  obtain⟨p,ys,rfl,hq,q⟩:=h
  obtain⟨u,rfl,rx⟩:=vals1 r
  cases rx
  have fin : ∀ (its : List Value), Vals ys its → ys.length ≤ sizeLine → ∀ (h' : Heap) (c' : Nat), (∀ b o', s.heap.get? b = some o' → h'.get? b = some o') →
      h'.get? s.heap.objs.size=some { cls:=.type "list",dict:=none,data:=.seq its.toArray c',slots:=#[] }->EP X Z9 Z Q (.ref s.heap.objs.size) { s with heap:=h' }:=fun its r' hz h' c' kp e =>
    ⟨.ref s.heap.objs.size,_,I.laid (t':=s.toks) kp (qf _) (show Y6 X.prog X.w _ h' _ (.lst ys)from ⟨hz,its,c',r',e⟩),rfl,q _ (I.hok.fresh (qf _))⟩
  rcases hq with hq|hq
  . obtain⟨its,r',pl,hz⟩:=I.list hq
    have hlen:=r'.length
    obtain⟨o,ho,hc,n,hd⟩:=pl.isList
    exact call_list_seq p (.inl rfl) ho hc hd (fun h' c' kp e=>fin its r' hz h' c' kp e) (by simp only[qm]<;>lia)
  . obtain⟨its,r',pl,hz⟩:=I.tuple hq
    have hlen:=r'.length
    obtain⟨o,ho,hc,n,hd⟩:=pl
    exact call_list_seq p (.inr rfl) ho hc hd (fun h' c' kp e=>fin its r' hz h' c' kp e) (by simp only[qm]<;>lia)
def zkK:YJ X (.type "tuple") (fun xs H Q=>∃ p ys,xs=[.ref p]/\((Zr X.K H p ys/\∀ l,H l=none->Q (.ref l) (upd H l (.tup ys)))\/(ZK X.K H p ys/\Q (.ref p) H))):=by
  intro Z9 s Z H xs us Q I r h
  obtain⟨p,ys,rfl,h⟩:=h
  obtain⟨u,rfl,rx⟩:=vals1 r
  cases rx
  rcases h with⟨hq,q⟩|⟨hq,q⟩
  . obtain⟨its,r',pl,hz⟩:=I.list hq
    have hlen:=r'.length
    refine call_tuple_list pl.isList (fun h' kp=>?_) (by simp only[qm]<;>lia)
    have I1:Inv X Z9 Z H { s with heap:=h' }:=I.kept (t':=s.toks) kp
    have I2:Inv X Z9 Z (upd H h'.objs.size (.tup ys)) { s with heap:=h'.push { cls:=.type "tuple",data:=.seq its.toArray } } :=
      I1.laid (t':=s.toks) (fun b o e=>qd _ e) (qf _) (show Y6 X.prog X.w _ _ _ (.tup ys)from ⟨hz,its,r',IsTup.new _ _⟩)
    exact⟨.ref h'.objs.size,_,I2,rfl,q _ (I1.hok.fresh (qf _))⟩
  . obtain⟨its,r',pl,hz⟩:=I.tuple hq
    exact call_tuple_same pl ⟨.ref p,H,I,rfl,q⟩
def tyV (K:PySem.W.Frag)(T:String)(x:V)(H:Hp):Prop:=match x with
 | .str _=>T="str"
 | .int _=>T="int"
 | .ref p=>(T="list"/\∃ xs,Zr K H p xs)\/(T="tuple"/\∃ o,K.lookup p=some o/\o.cls=.type "tuple"/\o.dict=none) \/
   (T="dict"/\((∃ Z6,H p=some (.dK Z6))\/∃ Z6,H p=some (.dT Z6)))\/(T="set"/\∃ S n,H p=some (.set S n))
 |_=>False
def zwD {Z9:List (Addr×Obj)}{Z:St}{H:Hp}{s:Shared}{T:String}{x:V}{v:Value}(I:Inv X Z9 Z H s)(r:RelV x v)(ty:tyV X.K T x H) :
  s.TypeIs v T/\∀ a,v=.ref a->∃ ob,s.heap.get? a=some ob/\ob.dict=none:=by
 cases x with
 |str z =>
  obtain⟨t,rfl⟩:=r
  cases(show T="str" from ty)
  exact⟨typeIs_str s z t,fun _ e=>nomatch e⟩
 |int i =>
  obtain⟨t,rfl⟩:=r
  cases(show T="int" from ty)
  exact⟨typeIs_int s i t,fun _ e=>nomatch e⟩
 |ref p =>
  cases r
  rcases ty with⟨rfl,xs,hq⟩|⟨rfl,o,hk,hc,hd⟩|⟨rfl,hk⟩|⟨rfl,S,n,hk⟩
  ·obtain⟨its,_,pl,_⟩:=I.list hq
   refine⟨pl.isList.typeIs,fun a e=>?_⟩
   cases e
   obtain⟨o,n,e,c,hd,_⟩:=pl
   exact⟨o,e,hd⟩
  ·refine⟨⟨o,I.kIn p o hk,hc⟩,fun a e=>?_⟩
   cases e
   exact⟨o,I.kIn _ o hk,hd⟩
  ·have z:∃ o,s.heap.get? p=some o/\o.ExactDict:=by
    rcases hk with⟨Z6,hk⟩|⟨Z6,hk⟩
    ·obtain⟨_,_,_,_,o,_,_,e,ex,_⟩:=I.hok p _ hk
     exact⟨o,e,ex⟩
    ·obtain⟨_,_,_,_,o,_,_,e,ex,_⟩:=I.hok p _ hk
     exact⟨o,e,ex⟩
   obtain⟨o,e,ex⟩:=z
   refine⟨⟨o,e,ex.1⟩,fun a e2=>?_⟩
   cases e2
   exact⟨o,e,ex.2.1⟩
  ·obtain⟨o,_,_,_,e,ex,_⟩:=I.hok p _ hk
   refine⟨⟨o,e,ex.1⟩,fun a e2=>?_⟩
   cases e2
   exact⟨o,e,ex.2.1⟩
 |_=>exact False.elim ty
def tBM (K:PySem.W.Frag)(T:String)(r:V->List V->Hp->VK->Prop)(to:TE)(t:TA):TE:=fun Z H Q=>to Z H fun x H1=>tyV K T x H1/\t Z H1 fun xs H2=>r x xs H2 Q
variable {o e:Expr}{es:List Expr}{to:TE}{t:TA}{name:Str}{apos cpos:Pos}{T id:String}{r:V->List V->Hp->VK->Prop}
def zxu (pa:PlainAttrs T)(slot:Slot T name id)(hty:typeOf (.builtin id)=pure (.type "method_descriptor"))(hm:MtR X id r)(ho:PE X o to)(ha:PA X (e::es) t)
    (hbase:attributeBase o name X.env (eval o X.env)=eval o X.env:=by rfl)
    (hfew:((backTo cpos (starEach (e::es) X.env)).all (fun x=>!x.1)&&(backToKw cpos (keywordEach [] X.env)).all (fun x=>x.1.isSome)
     &&decide ((e::es).length+([]:List Keyword).length+(if([]:List Keyword).isEmpty then 0 else 1)<30))=true:=by rfl)
    (hline:(apos.endLine==cpos.line)=true:=by rfl) (hs:starEach (e::es) X.env=(false,eval e X.env)::starEach es X.env:=by rfl) (hplain:(backTo cpos (starEach es X.env)).any (·.1)=false:=by rfl) :
    PE X (.Call (.Attribute o name apos) (e::es) [] cpos) (tBM X.K T r to t):=by
  intro Z9 s Z H Q I h
  refine wpAny_Call_method_late hbase hfew hline rfl (Z0 (ho Z9 s Z H _ I h) fun v s1 ⟨x,H1,I1,r1,ty,q1⟩=>?_)
  obtain⟨h1,h2⟩:=zwD I1 r1 ty
  refine⟨T,id,pa,slot,hty,h1,h2,?_⟩
  have hA:=ha cpos Z9 s1 Z H1 _ I1 q1
  rw[hs]at hA ⊢
  refine Calls.callWith_builtin (by show(false||(backTo cpos (starEach es X.env)).any (·.1))=false;rw[hplain]<;>rfl) (Calls.evalArgs_plain ?_)
  exact Z0 hA fun us s2 ⟨vs,H2,I2,r2,q2⟩=>hm Z9 s2 Z H2 x vs v us Q I2 r1 r2 q2
/- xs.append(e),list.index on a module's tuple .. are MtR facts of 06m -/
end
def MtM (X:Cx)(id:String)(r:V->List V->Hp->VK->Prop):Prop :=
 ∀ (Z9:List (Addr×Obj)) (s:Shared) (Z:St) (H:Hp) (x:V) (xs:List V) (v:Value) (us:List Value) (Q:VK),Inv X Z9 Z H s->RelV x v->Vals xs us->r x xs H Q ->
  wpAny (model X.prog X.w) X.A (call (.builtin id) (v::us)) (EP X Z9 Z Q) X.xe s
theorem Vals.one:∀ {x:V} {us:List Value},Vals [x] us->∃ u,us=[u]/\RelV x u
 |_,_,.cons r .nil=>⟨_,rfl,r⟩
theorem Vals.eraseIdx:∀ {xs:List V} {us:List Value} (i:Nat),Vals xs us->Vals (xs.eraseIdx i) (us.eraseIdx i)
 |_,_,_,.nil=>.nil
 |_,_,0,.cons _ t=>t
 |_,_,i+1,.cons r t=>.cons r (Vals.eraseIdx i t)
theorem zkh {α:Type}:∀ (l:List α) (i:Nat),(l.eraseIdx i).length<=l.length
 |[],_=>qf _
 |_::_,0=>RZ _
 |_::r,i+1=>Nat.succ_le_succ (zkh r i)
section
variable {X:Cx}{Z9:List (Addr×Obj)}{Z:St}{H:Hp}{s:Shared}{l b:Addr}{xs ys zs:List V}
def Inv.lset {its its':List Value}{n:Nat}{f:Array Value->Array Value}{t':Nat}(I:Inv X Z9 Z H s)(hH:H l=some (.lst xs))
  (e:s.heap.get? l=some { cls:=.type "list",data:=.seq its.toArray n }) (hf:f its.toArray=its'.toArray) (hv:Vals ys its') (hz:ys.length<=sizeLine) :
  Inv X Z9 Z (upd H l (.lst ys)) { s with heap:=s.heap.update l (Obj.mapSeq f),toks:=t' }:=by
 have q:=PySem.IsL.update e f
 rw[hf]at q
 refine I.write (x:=l) (e:=l) (by rw[hH];exact trivial) (.inl rfl) (fun b' u hb hu=>(QW s.heap (Obj.mapSeq f) (Ne.symm hb)).trans hu) ⟨_,q⟩ ?_
 exact⟨hz,its',_,hv,q⟩
def Inv.lnew {its:List Value}{t':Nat}(I:Inv X Z9 Z H s)(hv:Vals ys its)(hz:ys.length<=sizeLine) :
  Inv X Z9 Z (upd H s.heap.objs.size (.lst ys)) { s with heap:=s.heap.push { cls:=.type "list",data:=.seq its.toArray },toks:=t' } :=
 I.laid (fun _ _ q=>qd _ q) (qf _) ⟨hz,its,0,hv,Heap.get?_push_size _ rfl⟩
theorem Inv.fresh (I:Inv X Z9 Z H s):H s.heap.objs.size=none:=I.hok.fresh (qf _)
def Inv.lstM (I:Inv X Z9 Z H s)(hH:H l=some (.lst xs)):xs.length<=sizeLine/\∃ (its:List Value) (n:Nat),Vals xs its/\xs.length=its.length/\s.heap.get? l=some { cls:=.type "list",data:=.seq its.toArray n }:=by
 obtain⟨z,its,n,r,e⟩:=I.hok l _ hH
 exact⟨z,its,n,r,r.length,e⟩
def zlY {n:Nat}(h:n<=sizeLine):Builtin.List.listTooLong n=false:=by
 unfold Builtin.List.listTooLong
 exact decide_eq_false (by lia)
end
section
variable {X:Cx}
def zm7:V->List V->Hp->VK->Prop:=fun x vs H Q=>∃ l xs y,x=.ref l/\vs=[y]/\H l=some (.lst xs)/\xs.length<sizeLine/\Q .non (upd H l (.lst (xs++[y])))
def zj9:MtM X "list.append" zm7:=by
 intro Z9 s Z H x vs v us Q I rx rv h
 obtain⟨l,xs,y,rfl,rfl,hH,hz,q⟩:=h
 cases rx
 obtain⟨u,rfl,ru⟩:=rv.one
 obtain⟨z,its,n,r,hl,e⟩:=I.lstM hH
 refine call_meets F.slot_list_append ⟨_,e,rfl⟩ F.entry_list_append (F.args_list_append_2 _ _) (PySem.list_append l its.toArray n u (by rw[qm];lia)) ⟨e,?_⟩
 refine⟨.non,_,I.lset (its':=its++[u]) hH e (by simp) (r.append (.cons ru .nil)) ?_,rfl,q⟩
 rw[qh,List.length_singleton]
 lia
def zne:V->List V->Hp->VK->Prop:=fun x vs H Q=>∃ l b xs zs,x=.ref l/\vs=[.ref b]/\H l=some (.lst xs)/\H b=some (.lst zs)/\xs.length+zs.length<=sizeLine/\Q .non (upd H l (.lst (xs++zs)))
def zo8:MtM X "list.extend" zne:=by
 intro Z9 s Z H x vs v us Q I rx rv h
 obtain⟨l,b,xs,zs,rfl,rfl,hH,hB,hz,q⟩:=h
 cases rx
 obtain⟨u,rfl,ru⟩:=rv.one
 cases ru
 obtain⟨z,its,n,r,hl,e⟩:=I.lstM hH
 obtain⟨z2,its2,n2,r2,hl2,e2⟩:=I.lstM hB
 have hsz:its.toArray.size+its2.toArray.size<=sizeLine:=by rw[qm,qm];lia
 have hlong:¬ (!its.toArray.isEmpty&&Builtin.List.listTooLong (its.toArray.size+its2.toArray.size))=true:=by
  rw[zlY hsz,Bool.and_false]
  exact qp
 refine call_meets F.slot_list_extend ⟨_,e,rfl⟩ F.entry_list_extend (F.args_list_extend_2 _ _)
  (AutoSeq1.list_extend_list_list_0 l its.toArray n b its2.toArray n2 hlong (by rw[qm];lia) (by lia)) ⟨e,e2,?_⟩
 refine⟨.non,_,I.lset (its':=its++its2) hH e (by simp) (r.append r2) ?_,rfl,q⟩
 rw[qh]
 lia
def zvM:V->List V->Hp->VK->Prop:=fun x vs H Q=>∃ l xs i k y,x=.ref l/\vs=[.int i]/\H l=some (.lst xs)/\-(2 ^ 63)<=i/\i<2 ^ 63/\seqIndex? i xs.length=some k/\xs[k]?=some y/\Q y (upd H l (.lst (xs.eraseIdx k)))
def zrA:MtM X "list.pop" zvM:=by
 intro Z9 s Z H x vs v us Q I rx rv h
 obtain⟨l,xs,i,k,y,rfl,rfl,hH,h1,h2,hk,hy,q⟩:=h
 cases rx
 obtain⟨u,rfl,ru⟩:=rv.one
 obtain⟨t,rfl⟩:=ru
 obtain⟨z,its,n,r,hl,e⟩:=I.lstM hH
 obtain⟨w,hw,rw'⟩:=r.get hy
 refine call_meets F.slot_list_pop ⟨_,e,rfl⟩ F.entry_list_pop (F.args_list_pop_2 _ _)
  (MeetsSeq.list_pop_at l its.toArray n i t k w (fitsIndex_both h1 h2) (by rw[qm,<- hl];exact hk) (by rw[<- Qy];exact hw) (by rw[qm];lia)) ⟨e,?_⟩
 refine⟨y,_,I.lset (its':=its.eraseIdx k) hH e ?_ (r.eraseIdx k) ?_,rw',q⟩
 ·show its.toArray.eraseIdxIfInBounds k=(its.eraseIdx k).toArray
  rw[List.eraseIdxIfInBounds_toArray]
 ·have:=zkh xs k
  lia
end
section
variable {prog:Program}{w:World}{A:Around}{E:Value->Shared->Prop}{s:Shared}
end
section
variable {X:Cx}
end
end L2
namespace Att
open PySem PySem.W PySem.Calls PyProof.Rows
def ziG {P:Params}{h:Heap}:∀ (ns:List Int) (vs:List Value),WellAll P h vs (ns.map WData.int)->IntsAre vs ns:=by
 intro ns
 induction ns with
 |nil =>
  intro vs w
  rw[qbl]at w
  cases w
  exact .nil
 |cons n ns ih =>
  intro vs w
  rw[qE]at w
  cases w with
  |cons a b =>
   cases a
   exact .cons _ _ (ih _ b)
def zpf {l:OpenLaw}{n:Nat}(hn:l.most=some n){P:Params}{h:Heap}{args:List WData}{vals:List Value}
  (hpre:l.row.toRowW.claim.pre args=true) (hwl:WellAll P h vals args) :
  ∃ a vs ns,vals=[Value.ref a]/\args=[WData.list (ns.map WData.int)]/\h.get? a=some { cls:=.type "list",data:=.seq vs.toArray }/\IntsAre vs ns/\ns.length<=n:=by
 have hsh:WShape.hasAll [] args [.list .int]=true:=(pre_splitW hpre).1
 have hc:l.pre.holds [] { args:=args }=true:=(pre_splitW hpre).2
 obtain⟨d,r,rfl,h1,h2⟩:=hasAllW_cons hsh
 obtain rfl:=hasAllW_nil h2
 obtain⟨xs,rfl,h3⟩:=hasW_list h1
 obtain⟨ns,rfl⟩:=items_int h3
 have hlen:ns.length<=n:=by
  unfold OpenLaw.pre at hc
  have h4:(WTm.not (.lt (.lit (.int (n:Int))) (.len (.arg 0)))).holds [] { args:=[.list (ns.map .int)] }=true:=by
   have h4:=(holds_andW hc).1
   rw[hn]at h4
   exact h4
  have h5:=condW_of h4 (w_not (w_lt w_lit (w_len_list (w_arg rfl))))
  rw[qb]at h5
  refine P0 fun q=>?_
  have q':(n:Int)<((ns.length:Nat):Int):=by lia
  first
   |(rw[decide_eq_true q']at h5;exact absurd h5 (by decide))
   |(simp at h5;lia)
 cases hwl with
 |cons w1 w2 =>
  cases w2
  cases w1 with
  |list ho hall=>exact⟨_,_,ns,rfl,rfl,ho,ziG ns _ hall,hlen⟩
def zpj (l:OpenLaw)(args:List WData):l.row.toRowW.claim.post args (.bool true) args=true :=
 postW_of (r:=l.row.toRowW) (X:=(true==true))
  (show WShape.has [] (.bool true) .bool=true by first|rfl|decide|simp[WShape.has,WShape.arms,WShape.armsAll])
  (show(WTm.eq .res (.lit (.bool true))).value [] { args:=args,res:=some (.bool true),after:=args }=some (.bool (true==true))from w_eq_bool (w_res rfl) w_lit) rfl
section
variable {prog:Program}{w:World}{A:Around}{E:Value->Shared->Prop}{s:Shared}{K:Frag}
end
end Att
namespace L2
open PySem PySem.Spec PyProof.Rows
theorem zkC:∀ {vs:List Value} {ns:List Int},IntsAre vs ns->Vals (ns.map V.int) vs
 |_,_,.nil=>.nil
 |_,_,.cons n t h=>.cons ⟨t,rfl⟩ (zkC h)
def Only (H:Hp):Prop:=∀ b,H b=none\/∃ o xs,H b=some (.frz o (.lst xs))
def zrr {P:Program}{w:World}{K:PySem.W.Frag}{mg mb:Str->Option Value}{CX:Ve}{k:Nat}{fa a:Addr}{fd:FuncData}{x:Str}{sp:Sp}{s₁:Shared}{vs:List Value}{ns:List Int}
  (KX:K.In s₁.heap) (hns:s₁.heap.Ns mainGlobals mg) (hb:s₁.heap.Ns builtinsNs mb) (hbb:∀ x:Str,x≠"__name__"->mb x=bootBuiltins x) (hlim:s₁.heap.NoLimit) (hg:s₁.gens=#[])
  (ha:s₁.heap.get? a=some { cls:=.type "list",data:=.seq vs.toArray }) (hi:IntsAre vs ns) (hl:ns.length<=sizeLine) (hr:Zk k callerA)
  (F:∀ base:Heap,K.In base->base.Ns mainGlobals mg->zO P w K mg base CX k fa fd [x] sp) (hbind:∀ (s:Shared) (u:Value),BindsTo s fd ⟨[u],[]⟩ [(x,u)])
  (hsp:∀ H:Hp,Only H->Zr K H a (ns.map V.int)->sp [.ref a] H (fun v _=>v=.bl true) fun _ _ _=>False)
  (hCX:∀ H e s',CX [] H s₁ (fun _ _ _=>False) e s'->False) :
  codeAny (model P w) callerA (.call (.ref fa) ⟨[.ref a],[]⟩) (fun r s'=>r=.ok (.ret (.bool true))/\OldK s₁.heap s'.heap/\s'.os=s₁.os/\AllBare s'.gens) s₁:=by
 have rv:=zkC hi
 have lenV:=hi.length
 have core:∀ H:Hp,Only H->Zr K H a (ns.map V.int)->Zi P w H s₁.heap->(∀ b,H b≠none->b=a)->(H a≠none->K.lookup a=none) ->
   codeAny (model P w) callerA (.call (.ref fa) ⟨[.ref a],[]⟩) (fun r s'=>r=.ok (.ret (.bool true))/\OldK s₁.heap s'.heap/\s'.os=s₁.os/\AllBare s'.gens) s₁:=by
  intro H hO hS hok hA hK
  have base_of:∀ {b:Addr} {o:Obj},s₁.heap.get? b=some o->H b=none->(Ti s₁.heap H).get? b=some o:=fun e n=>zrj e n
  have noA:∀ {b:Addr} {o:Obj} {es:Array DictEntry} {ep:Nat},s₁.heap.get? b=some o->o.data=.dict es ep->H b=none:=fun {b o es ep} e d=>by
   cases q:H b with
   |none=>rfl
   |some u =>
    have e':b=a:=hA b (by rw[q];simp)
    subst e'
    rw[ha]at e;cases e
    have d':Data.seq vs.toArray _=Data.dict es ep:=d
    cases d'
  have nsK:∀ {b:Addr} {m:Str->Option Value},s₁.heap.Ns b m->(Ti s₁.heap H).Ns b m:=fun {b m} ⟨o,es,ep,e,d,r⟩=>⟨o,es,ep,base_of e (noA e d),d,r⟩
  have hKb:K.In (Ti s₁.heap H):=fun b o e=>base_of (KX b o e) (by
   cases q:H b with
   |none=>rfl
   |some u =>
    have e':b=a:=hA b (by rw[q];simp)
    subst e'
    rw[hK (by rw[q];simp)]at e;cases e)
  have hM:Mod K mg (Ti s₁.heap H):=⟨hKb,nsK hns,⟨mb,nsK hb,hbb⟩,let ⟨mc,h1,h2⟩:=hlim;⟨mc,nsK h1,h2⟩⟩
  have e0:PN P w K mg (Ti s₁.heap H) callerA [] s₁ H:=⟨rfl,hM,fun b o e=>ztb e,Nat.le_of_eq (zoI _ _),trivial,fun b hb=>absurd (show b∈([]:List Addr)from hb) (by simp),hok,.of_eq hg⟩
  refine codeAny_mono ((F _ hKb (nsK hns)).run callerA [] s₁ H ⟨[.ref a],[]⟩ [.ref a] [.ref a] _ _ hr e0 (hbind s₁ (.ref a)) (.cons rfl .nil) (hsp H hO hS)) fun r s' h=>?_
  cases r with
  |error e=>exact(hCX H e s' h).elim
  |ok fl =>
   cases fl with
   |next=>exact False.elim h
   |brk=>exact False.elim h
   |cont=>exact False.elim h
   |ret u =>
    obtain⟨v,H',os,bare,un,hok',r',q⟩:=h
    have q':v=.bl true:=q
    subst q'
    obtain rfl:u=Value.bool true:=r'
    refine⟨rfl,OldK.of_keep fun b o e=>?_,os,bare⟩
    cases q:H b with
    |none=>exact un.keep b o e q (by intro z;exact absurd (show b∈([]:List Addr)from z) (by simp)) (by simp)
    |some u =>
     rcases hO b with z|⟨ob,xs,z⟩
     ·rw[q]at z;cases z
     ·have z2:=un.frzs b ob _ z
      obtain⟨e1,_⟩:=hok b _ z
      obtain⟨e2,_⟩:=hok' b _ z2
      rw[e]at e1;cases e1
      exact e2
 cases hk:K.lookup a with
 |some o =>
  have e:=KX a o hk
  rw[ha]at e
  cases e
  refine core (fun _=>none) (fun _=>.inl rfl) (.inr ⟨_,vs.toArray,_,hk,rfl,rfl,rfl,by rw[qm,lenV];exact hl,by simpa using rv⟩) (fun b u z=>by have z':(none:Option HO)=some u:=z;cases z') (fun b z=>absurd rfl z) fun z=>absurd rfl z
 |none =>
  refine core (fun b=>if b=a then some (.frz { cls:=.type "list",data:=.seq vs.toArray } (.lst (ns.map V.int)))else none) (fun b=>?_) (.inl (.inr ⟨{ cls:=.type "list",data:=.seq vs.toArray },if_pos rfl⟩)) (fun b u z=>?_) (fun b z=>?_) fun _=>hk
  ·by_cases hb:b=a
   ·exact .inr ⟨_,_,if_pos hb⟩
   ·exact .inl (if_neg hb)
  ·by_cases hb:b=a
   ·have z':=(if_pos hb).symm.trans z
    cases z'
    subst hb
    exact⟨ha,by rw[qb];exact hl,vs,_,rv,ha⟩
   ·have z':=(if_neg hb).symm.trans z
    cases z'
  ·by_cases hb:b=a
   ·exact hb
   ·exact absurd (if_neg hb) z
def inClass (s:Stmt)(j:Nat):Stmt:=match s with
 |.ClassDef _ _ _ body _ _ _ _ _ _ _=>body.getD j (.Pass ⟨0,0,0,0⟩)
 |_=>.Pass ⟨0,0,0,0⟩
def Vw (s:Stmt):Arguments:=match s with
 |.FunctionDef _ a _ _ _ _ _ _ _ _=>a
 |_=>{ posonlyargs:=[],args:=[],vararg:=none,kwonlyargs:=[],kw_defaults:=[],kwarg:=none,defaults:=[] }
def Xd (s:Stmt):List Stmt:=match s with
 |.FunctionDef _ _ b _ _ _ _ _ _ _=>b
 |_=>[]
def zY (s:Stmt):Scope:=match s with
 |.FunctionDef _ _ _ _ _ _ sc _ _ _=>sc
 |_=>{ kind:=.function,names:=[],isGenerator:=false,isCoroutine:=false }
abbrev ZV:Ve:=fun _ _ _ _ _ _=>False
abbrev E0:XK:=fun _ _ _=>False
def zsg {X:Cx}:Passes ZV X E0:=fun _ _ _ _ _ _ _ h=>h.elim
structure V5 (K:PySem.W.Frag)(x qual:Str)(st:Stmt)(f:Addr)(fd:FuncData):Prop where
 ex:∃ (oc:Value) (od:Option Addr) (kV doc pm:Value) (an:Option Addr) (cdv ct:Value) (osl:Array (Option Value)),
  fd=PySem.W.fnOf x qual (Vw st) (Xd st) (zY st) .none kV doc pm an cdv ct/\K.lookup f=some ⟨oc,od,.func fd,osl⟩/\PySem.W.codeIn K cdv qual=true
 kp:PySem.W.keepIn K (.ref f)=true
section
variable {P:Program}{w:World}{K:PySem.W.Frag}{mg:Str->Option Value}{base:Heap}
def V5.ok {x qual:Str}{st:Stmt}{f:Addr}{fd:FuncData}{N ps:List Str}{k:Nat}{sp:Sp}(F:V5 K x qual st f fd)(S:RG N ps (zY st))(len:∀ vs H Q E,sp vs H Q E->vs.length=ps.length)
  (hbody:∀ (cdv:Value) (A:Around) (outer:List Env) (s:Shared) (H:Hp) (vs:List V) (Q:VK) (E:XK),Zk k (A.deeper (envOfC qual (zY st) s.heap.objs.size f cdv))->sp vs H Q E ->
   ∃ t,W4 (Wf ZV P w K mg base N qual (zY st) f cdv A outer s H E).nox (Xd st) t/\t { nx:=fun _ H'=>Q .non H',rt:=Q } (start N vs) H):zO P w K mg base ZV (k+1) f fd ps sp:=by
 obtain⟨oc,od,kV,doc,pm,an,cdv,ct,osl,rfl,lk,hcd⟩:=F.ex
 refine zsF lk hcd S len fun A outer s H vs Q E hr hsp=>?_
 obtain⟨t,h,q⟩:=hbody cdv A outer s H vs Q E hr hsp
 exact⟨t,h.nox,q⟩
def V5.binds {x qual:Str}{st:Stmt}{f:Addr}{fd:FuncData}{ps:List Str}(F:V5 K x qual st f fd)
  (h:∀ (kV doc pm:Value) (an:Option Addr) (cdv ct:Value) (us:List Value),us.length=ps.length->bindArgs (PySem.W.fnOf x qual (Vw st) (Xd st) (zY st) .none kV doc pm an cdv ct) ⟨us,[]⟩=pure (ps.zip us)):Binds K fd ps []:=by
 obtain⟨oc,od,kV,doc,pm,an,cdv,ct,osl,rfl,lk,hcd⟩:=F.ex
 exact .all (h kV doc pm an cdv ct)
def zi2 {x qual:Str}{st:Stmt}{f:Addr}{oc:Value}{od an:Option Addr}{osl:Array (Option Value)}{kV doc pm cdv ct:Value}(l:K.lookup f=some ⟨oc,od,.func (PySem.W.fnOf x qual (Vw st) (Xd st) (zY st) .none kV doc pm an cdv ct),osl⟩)
  (c:PySem.W.codeIn K cdv qual=true) (k:PySem.W.keepIn K (.ref f)=true):V5 K x qual st f (PySem.W.fnOf x qual (Vw st) (Xd st) (zY st) .none kV doc pm an cdv ct):=⟨⟨oc,od,kV,doc,pm,an,cdv,ct,osl,rfl,l,c⟩,k⟩
end
def zr9 {A:Around}{k:Nat}(hr:Zk k A):A.units+1<cLine:=qbm (Nat.add_le_add_left (by decide:1<=64) _) hr.units
def zpS {n:Nat}(h:n<=1000):n<sizeLine:=qbm h (by decide)
section
variable {X:Cx}
end
section
variable {κ:Type}[DecidableEq κ]
def Xc (Z6:List (κ×V))(k:κ):Option V:=(Z6.find? fun kv=>decide (kv.1=k)).map (·.2)
def putK (Z6:List (κ×V))(k:κ)(v:V):List (κ×V) :=
 if(Z6.any fun kv=>decide (kv.1=k))=true then Z6.map (fun kv=>if kv.1=k then(kv.1,v)else kv)else Z6++[(k,v)]
def zkX {k:κ}:Xc ([]:List (κ×V)) k=none:=rfl
def zeT {p:κ×V}{r:List (κ×V)}{k:κ}(e:p.1=k):Xc (p::r) k=some p.2:=by simp[Xc,List.find?_cons,e]
def zeB {p:κ×V}{r:List (κ×V)}{k:κ}(e:¬ p.1=k):Xc (p::r) k=Xc r k:=by simp[Xc,List.find?_cons,e]
theorem zfO (k:κ):∀ Z6:List (κ×V),(Z6.any fun kv=>decide (kv.1=k))=(Xc Z6 k).isSome
 |[]=>rfl
 |p::r=>by
  rw[R4]
  by_cases e:p.1=k
  ·simp only[zeT e,decide_eq_true e,Bool.true_or,Option.isSome_some]
  ·rw[zeB e,decide_eq_false e,Bool.false_or];exact zfO k r
def zhY (Z6:List (κ×V))(k:κ)(v:V):(putK Z6 k v).length<=Z6.length+1:=by
 unfold putK
 split
 ·rw[qb];lia
 ·rw[qh,qO,List.length_nil];lia
def VJ.isSome_eq {o:Option V}{u:Option Value}(r:VJ o u):o.isSome=u.isSome:=by
 cases o with
 |none=>cases u with
  |none=>rfl
  |some _=>exact(show False from r).elim
 |some _=>cases u with
  |none=>exact(show False from r).elim
  |some _=>rfl
def KV.val {Z6:List (κ×V)}{vs:List (κ×Value)}(r:KV Z6 vs)(k:κ):VJ (Xc Z6 k) (valueAt vs k):=by
 unfold KV at r
 induction r with
 |nil=>exact True.intro
 |@cons p q ps qs h t ih =>
  obtain⟨h1,h2⟩:=h
  by_cases e:p.1=k
  ·have e':q.1=k:=h1.symm.trans e
   have b:valueAt (q::qs) k=some q.2:=by simp[valueAt,List.find?_cons,e']
   rw[zeT e,b];exact h2
  ·have e':¬ q.1=k:=fun z=>e (h1.trans z)
   have b:valueAt (q::qs) k=valueAt qs k:=by simp[valueAt,List.find?_cons,e']
   rw[zeB e,b];exact ih
theorem KV.any {Z6:List (κ×V)}{vs:List (κ×Value)}(r:KV Z6 vs)(k:κ):(Z6.any fun kv=>decide (kv.1=k))=vs.any fun kv=>decide (kv.1=k):=by
 unfold KV at r
 induction r with
 |nil=>rfl
 |cons h t ih=>rw[R4,R4,ih,h.1]
def KV.repl {Z6:List (κ×V)}{vs:List (κ×Value)}(r:KV Z6 vs)(k:κ){y:V}{u:Value}(ry:RelV y u) :
  KV (Z6.map fun kv=>if kv.1=k then(kv.1,y)else kv) (vs.map fun kv=>if kv.1=k then(kv.1,u)else kv):=by
 unfold KV at r ⊢
 induction r with
 |nil=>exact .nil
 |@cons p q ps qs h t ih =>
  rw[qE,qE]
  refine .cons ?_ ih
  obtain⟨h1,h2⟩:=h
  by_cases e:p.1=k
  ·rw[if_pos e,if_pos (h1.symm.trans e)];exact⟨h1,ry⟩
  ·rw[if_neg e,if_neg (fun z=>e (h1.trans z))];exact⟨h1,h2⟩
def KV.put {Z6:List (κ×V)}{vs:List (κ×Value)}(r:KV Z6 vs)(k:κ){y:V}{u:Value}(ry:RelV y u):KV (putK Z6 k y) (stored vs k u):=by
 unfold putK stored
 rw[r.any k]
 by_cases e:(vs.any fun kv=>decide (kv.1=k))=true
 ·rw[if_pos e,if_pos e];exact r.repl k ry
 ·rw[if_neg e,if_neg e];exact Paired.snoc r ⟨rfl,ry⟩
theorem KV.length {Z6:List (κ×V)}{vs:List (κ×Value)}(r:KV Z6 vs):Z6.length=vs.length:=Paired.length r
end
def zor {P:Program}{w:World}{k:Key}{u:Value}(r:RelV (kV k) u):(V3 P w).is k u=true:=by
 cases k with
 |inl i=>obtain⟨t,e⟩:=(show ∃ t,u=Value.int i t from r);subst e;exact zmE P w i t
 |inr x=>obtain⟨t,e⟩:=(show ∃ t,u=Value.str x t from r);subst e;exact zmo P w x t
theorem zkq {P:Program}{w:World}:∀ {ks:List Key} {us:List Value},Vals (ks.map kV) us->ItemsAre (V3 P w) ks us
 |[],_,r=>by rw[qbl]at r;cases r;exact .nil
 |k::ks,_,r=>by
  rw[qE]at r
  cases r with
  |cons h t=>exact .cons (zor h) (zkq t)
abbrev KT (H:Hp):List (List Key×V)->List (List Key×Addr×Value)->Prop:=Paired fun p q=>p.1=q.1/\H q.2.1=some (.tup (p.1.map kV))/\RelV p.2 q.2.2
def KT.val {H:Hp}{Z6:List (List Key×V)}{xs:List (List Key×Addr×Value)}(r:KT H Z6 xs)(k:List Key):VJ (Xc Z6 k) ((atKey xs k).map (·.2)):=by
 induction r with
 |nil=>exact True.intro
 |@cons p q ps qs h t ih =>
  obtain⟨h1,_,h2⟩:=h
  by_cases e:p.1=k
  ·have e':q.1=k:=h1.symm.trans e
   have b:atKey (q::qs) k=some q.2:=by simp[atKey,List.find?_cons,e']
   rw[zeT e,b];exact h2
  ·have e':¬ q.1=k:=fun z=>e (h1.trans z)
   have b:atKey (q::qs) k=atKey qs k:=by simp[atKey,List.find?_cons,e']
   rw[zeB e,b];exact ih
def KT.repl {H:Hp}{Z6:List (List Key×V)}{xs:List (List Key×Addr×Value)}(r:KT H Z6 xs)(k:List Key){y:V}{u:Value}(ry:RelV y u) :
  KT H (Z6.map fun kv=>if kv.1=k then(kv.1,y)else kv) (xs.map (putAt k u)):=by
 induction r with
 |nil=>exact .nil
 |@cons p q ps qs h t ih =>
  rw[qE,qE]
  refine .cons ?_ ih
  obtain⟨h1,h2,h3⟩:=h
  unfold putAt
  by_cases e:p.1=k
  ·rw[if_pos e,if_pos (h1.symm.trans e)];exact⟨h1,h2,ry⟩
  ·rw[if_neg e,if_neg (fun z=>e (h1.trans z))];exact⟨h1,h2,h3⟩
def KT.put {H:Hp}{Z6:List (List Key×V)}{xs:List (List Key×Addr×Value)}(r:KT H Z6 xs)(k:List Key){b:Addr}{y:V}{u:Value}(hb:H b=some (.tup (k.map kV)))(ry:RelV y u) :
  KT H (putK Z6 k y) (storedH xs k b u):=by
 have e:(Z6.any fun kv=>decide (kv.1=k))=(atKey xs k).isSome:=by
  rw[zfO,(r.val k).isSome_eq,Option.isSome_map]
 unfold putK storedH
 rw[e]
 by_cases q:(atKey xs k).isSome=true
 ·rw[if_pos q,if_pos q];exact r.repl k ry
 ·rw[if_neg q,if_neg q];exact Paired.snoc r ⟨rfl,hb,ry⟩
def KT.keeps {H H':Hp}{Z6:List (List Key×V)}{xs:List (List Key×Addr×Value)}(r:KT H Z6 xs)(ht:∀ b ys,H b=some (.tup ys)->H' b=some (.tup ys)):KT H' Z6 xs :=
 Paired.mapP r fun _ _ z=>⟨z.1,ht _ _ z.2.1,z.2.2⟩
section
variable {P:Program}{w:World}{H:Hp}{h:Heap}{a:Addr}
def zst {u:HO}(ok:Zi P w H h)(e:Rd H a u):Y6 P w H h a u:=e.ok ok
def zoC {Z6:List (Key×V)}(ok:Zi P w H h)(e:Rd H a (.dK Z6)):Z6.length<=sizeLine/\(a==sysModules)=false/\∃ vs,KV Z6 vs/\h.DictOf (V3 P w) a vs :=
 show Y6 P w H h a (.dK Z6)from zst ok e
def zxh {Z6:List (Key×V)}(ok:Zi P w H h)(e:H a=some (.dK Z6)):Z6.length<=sizeLine/\(a==sysModules)=false/\∃ vs,KV Z6 vs/\h.DictOf (V3 P w) a vs:=zoC ok (.inl e)
def zk3 {ks:List Key}(ok:Zi P w H h)(e:H a=some (.tup (ks.map kV))):(tupleKind (V3 P w)).is h ks a:=by
 obtain⟨_,its,r,o,h1,h2,n,h3⟩:=(show Y6 P w H h a (.tup (ks.map kV))from ok a _ e)
 exact⟨o,its.toArray,n,h1,h2,h3,by simpa using zkq r⟩
def znt {Z6:List (List Key×V)}(ok:Zi P w H h)(e:Rd H a (.dT Z6)):Z6.length<=sizeLine/\(a==sysModules)=false /\
  ∃ xs,KT H Z6 xs/\h.DictOfH (tupleKind (V3 P w)) a xs:=by
 obtain⟨z,y,xs,r,o,es,ep,h1,h2,h3,h4,h5⟩:=(show Y6 P w H h a (.dT Z6)from zst ok e)
 refine⟨z,y,xs,r,o,es,ep,h1,h2,h3,h4,fun x hx=>?_,h5⟩
 have all:∀ {l:List (List Key×V)} {m:List (List Key×Addr×Value)},KT H l m->∀ x∈m,(tupleKind (V3 P w)).is h x.1 x.2.1:=by
  intro l m q
  induction q with
  |nil=>intro x hx;exact nomatch hx
  |@cons p q ps qs hq t ih =>
   intro x hx
   rcases qg.mp hx with e|hx
   ·subst e
    exact zk3 ok (by rw[<- hq.1];exact hq.2.1)
   ·exact ih x hx
 exact all r x hx
def zys {Z6:List (List Key×V)}(ok:Zi P w H h)(e:H a=some (.dT Z6)):Z6.length<=sizeLine/\(a==sysModules)=false /\
  ∃ xs,KT H Z6 xs/\h.DictOfH (tupleKind (V3 P w)) a xs:=znt ok (.inl e)
end
def Ua (H:Hp)(a:Addr)(y:V)(r:Option V):Prop :=
 (∃ Z6 k,Rd H a (.dK Z6)/\y=kV k/\r=Xc Z6 k)\/∃ Z6 k b,Rd H a (.dT Z6)/\y=.ref b/\H b=some (.tup (k.map kV))/\r=Xc Z6 k
def Rp (H:Hp)(a:Addr)(y v:V)(H':Hp):Prop :=
 (∃ Z6 k,H a=some (.dK Z6)/\y=kV k/\Z6.length<sizeLine/\H'=upd H a (.dK (putK Z6 k v))) \/
 ∃ Z6 k b,H a=some (.dT Z6)/\y=.ref b/\H b=some (.tup (k.map kV))/\Z6.length<sizeLine/\H'=upd H a (.dT (putK Z6 k v))
theorem Ua.k {H:Hp}{a:Addr}{Z6:List (Key×V)}{k:Key}(e:H a=some (.dK Z6)):Ua H a (kV k) (Xc Z6 k):=.inl ⟨Z6,k,.inl e,rfl,rfl⟩
def Ua.t {H:Hp}{a b:Addr}{Z6:List (List Key×V)}{k:List Key}(e:H a=some (.dT Z6))(eb:H b=some (.tup (k.map kV))):Ua H a (.ref b) (Xc Z6 k):=.inr ⟨Z6,k,b,.inl e,rfl,eb,rfl⟩
theorem Rp.k {H:Hp}{a:Addr}{Z6:List (Key×V)}{k:Key}{v:V}(e:H a=some (.dK Z6))(hl:Z6.length<sizeLine):Rp H a (kV k) v (upd H a (.dK (putK Z6 k v))):=.inl ⟨Z6,k,e,rfl,hl,rfl⟩
def Rp.t {H:Hp}{a b:Addr}{Z6:List (List Key×V)}{k:List Key}{v:V}(e:H a=some (.dT Z6))(eb:H b=some (.tup (k.map kV)))(hl:Z6.length<sizeLine) :
  Rp H a (.ref b) v (upd H a (.dT (putK Z6 k v))):=.inr ⟨Z6,k,b,e,rfl,eb,hl,rfl⟩
section
variable {X:Cx}{Z9:List (Addr×Obj)}{Z:St}{H:Hp}{s:Shared}{a:Addr}{y v:V}{u r:Value}{o:Option V}{A:Around}{E:Value->Shared->Prop}
def Inv.big (I:Inv X Z9 Z H s):sysModules<s.heap.objs.size:=by
 have h:mainGlobals<s.heap.objs.size:=(I.mod.glob.keeps I.bk).lt
 exact Nat.lt_trans (by decide) h
def zpY {Q:Value->Shared->Prop}(hu:A.units+1<cLine)(I:Inv X Z9 Z H s)(g:Ua H a y (some v))(ry:RelV y u)(h:∀ w' s',Inv X Z9 Z H s'->RelV v w'->Q w' s') :
  wpAny (model X.prog X.w) A (getItem (.ref a) u) Q E s:=by
 rcases g with⟨Z6,k,e,ey,l⟩|⟨Z6,k,b,e,ey,eb,l⟩
 ·subst ey
  obtain⟨z,hd,vs,rel,dd⟩:=zoC I.hok e
  obtain⟨w',hw,rw'⟩:=VJ.some_of (v:=v) (o:=valueAt vs k) (by rw[l];exact rel.val k)
  exact wpAny_getItem_of (zor ry) dd.mapOf hw (h w' _ (I.tok _) rw')
 ·subst ey
  cases(show u=Value.ref b from ry)
  obtain⟨z,hd,xs,rel,dd⟩:=znt I.hok e
  obtain⟨w',hw,rw'⟩:=VJ.some_of (v:=v) (o:=(atKey xs k).map (·.2)) (by rw[l];exact rel.val k)
  obtain⟨p,hp,hp2⟩:=Option.map_eq_some_iff.mp hw
  refine wpAny_getItem_heap (tupleKind_room_in1 hu) (zk3 I.hok eb) dd hp ?_
  rw[hp2]
  exact h w' _ (I.tok _) rw'
def znp {h':Heap}{t':Nat}{ob:HO}(I:Inv X Z9 Z H s)(mu:Mut (H a))(hs:Heap.SameBut a s.heap h')(he:∃ q,h'.get? a=some q)(new:Y6 X.prog X.w (upd H a ob) h' a ob) :
  Inv X Z9 Z (upd H a ob) { s with heap:=h',toks:=t' } :=
 I.write (x:=a) (e:=a) mu (.inl rfl) (fun b q hb z=>(hs.2 b hb).trans z) he new
def zwy {P:Program}{w:World}{H':Hp}{h':Heap}{Z6:List (Key×V)}{vs:List (Key×Value)}(z:Z6.length<=sizeLine)(hd:(a==sysModules)=false)(rel:KV Z6 vs)(dd:h'.DictOf (V3 P w) a vs) :
  Y6 P w H' h' a (.dK Z6):=⟨z,hd,vs,rel,dd⟩
def zqj {H':Hp}{Q:Unit->Shared->Prop}(hu:A.units+1<cLine)(I:Inv X Z9 Z H s)(g:Rp H a y v H')(ry:RelV y u)(rv:RelV v r)(h:∀ s',Inv X Z9 Z H' s'->Q () s') :
  wpAny (model X.prog X.w) A (setItem (.ref a) u r) Q E s:=by
 rcases g with⟨Z6,k,e,ey,l,eH⟩|⟨Z6,k,b,e,ey,eb,l,eH⟩
 ·subst ey eH
  obtain⟨z,hd,vs,rel,dd⟩:=zxh I.hok e
  have hz:vs.length<=sizeLine:=by rw[<- rel.length];exact z
  have hl:(putK Z6 k v).length<=sizeLine:=by have:=zhY Z6 k v;lia
  refine wpAny_setItem_pairs (hsz:=hz) (zor ry) dd fun h' dd' hs=>h _ ?_
  have he:∃ q,h'.get? a=some q:=let ⟨q,_,_,hq,_⟩:=dd';⟨q,hq⟩
  exact znp I (by rw[e];exact True.intro) hs he (zwy hl hd (rel.put k rv) dd')
 ·subst ey eH
  cases(show u=Value.ref b from ry)
  obtain⟨z,hd,xs,rel,dd⟩:=zys I.hok e
  have hz:xs.length<=sizeLine:=by rw[<- Paired.length rel];exact z
  have hl:(putK Z6 k v).length<=sizeLine:=by have:=zhY Z6 k v;lia
  refine wpAny_setItem_heap (hsz:=hz) (tupleKind_room_in1 hu) (zk3 I.hok eb) dd fun h' dd' hs=>h _ ?_
  obtain⟨q,es,ep,hq,h2,h3,h4,_,h5⟩:=dd'
  refine znp I (by rw[e];exact True.intro) hs ⟨q,hq⟩ ⟨hl,hd,_,(rel.put k eb rv).keeps fun c ys ec=>?_,q,es,ep,hq,h2,h3,h4,h5⟩
  rw[zR (TF ec e (fun z=>nomatch z))]
  exact ec
end
section
variable {X:Cx}{Z9:List (Addr×Obj)}{Z:St}{H:Hp}{s:Shared}{a:Addr}{Z6:List (Key×V)}{k:Key}{u:Value}{A:Around}{E:Value->Shared->Prop}
end
def zqP (i:Expr):Prop:=∀ ov iv,subscripted i false ov iv=operate [ov,iv] (getItem ov iv)
def ztm {prog:Program}{w:World}{A:Around}{E:Value->Shared->Prop}{s:Shared}{env:Env}{value slice:Expr}{pos:Pos}{T id:String}{Q:Value->Shared->Prop}
  (hl:typeLookup (.type T) "__getitem__"=pure (some (.builtin id))) (hs:zqP slice)
  (h:wpAny (model prog w) A (eval value env) (fun o s₁=>wpAny (model prog w) A (eval slice env) (fun i s₂=>s₂.TypeIs o T/\wpAny (model prog w) A (getItem o i) Q E s₂) E s₁) E s) :
  wpAny (model prog w) A (eval (.Subscript value slice pos) env) Q E s:=by
 refine Subscript_ (wpAny_mono h (fun o s₁ h₁=>wpAny_mono h₁ (fun i s₂ h₂=>?_) fun _ _ x=>x) fun _ _ x=>x)
 obtain⟨hT,h₂⟩:=h₂
 unfold subscriptTail
 refine wpAny_bind ?_
 rw[getitemInPython_of_ne hT.not_modules]
 refine wpAny_bind (wpAny_specialOf hT hl ?_)
 have fin:wpAny (model prog w) A (subscripted slice false o i) (fun r s₃=>wpAny (model prog w) A (letTemporaryGo value o r >>= fun _=>pure r) Q E s₃) E s₂:=by
  rw[hs o i]
  exact wpAny_operating (wpAny_mono h₂ (fun r s₃ h₃=>wpAny_bind (wpAny_letTemporaryGo (wpAny_pure h₃))) fun _ _ x=>x)
 first
  |exact wpAny_pure (wpAny_bind fin)
  |exact wpAny_bind (wpAny_pure (wpAny_bind fin))
  |exact wpAny_bind fin
def zmD {X:Cx}{Z9:List (Addr×Obj)}{Z:St}{H:Hp}{s:Shared}{a:Addr}{y:V}{o:Option V}(I:Inv X Z9 Z H s)(g:Ua H a y o):s.TypeIs (.ref a) "dict":=by
 rcases g with⟨Z6,k,e,_,_⟩|⟨Z6,k,b,e,_,_,_⟩
 ·obtain⟨_,_,vs,_,dd⟩:=zoC I.hok e
  exact dd.typeIs
 ·obtain⟨_,_,xs,_,dd⟩:=znt I.hok e
  exact dd.typeIs
def zwR (td ty:TE):TE:=fun Z H Q=>td Z H fun x H1=>ty Z H1 fun y H2=>∃ a v,x=.ref a/\Ua H2 a y (some v)/\Q v H2
def zwY (td ty tv:TE):TS:=fun D Z H=>tv Z H fun v H1=>td Z H1 fun x H2=>ty Z H2 fun y H3=>∃ a H4,x=.ref a/\Rp H3 a y v H4/\D.nx Z H4
section
variable {X:Cx}{o i e value:Expr}{pos pos' tpos:Pos}{td ty tv:TE}
def ztR (hu:X.A.units+1<cLine)(ho:PE X o td)(hi:PE X i ty)(hs:zqP i):PE X (.Subscript o i pos) (zwR td ty):=by
 intro Z9 s Z H Q I h
 refine ztm PySem.F.slot_dict_getitem.lookup hs (Z0 (ho Z9 s Z H _ I h) fun u s1 ⟨x,H1,I1,rx,q1⟩=>Z0 (hi Z9 s1 Z H1 _ I1 q1) fun iv s2 ⟨y,H2,I2,ry,a,v,ex,g,q2⟩=>?_)
 subst ex
 obtain rfl:u=Value.ref a:=rx
 exact⟨zmD I2 g,zpY hu I2 g ry fun w' s3 I3 rw'=>⟨v,H2,I3,rw',q2⟩⟩
def zsK (hu:X.A.units+1<cLine)(ho:PE X o td)(hi:PE X i ty)(hv:PE X value tv)(hs:swapsWith value (some (.Subscript o i pos')) pos.line X.env=pure false) :
  PS X (.Assign [.Subscript o i pos'] value pos) (zwY td ty tv):=by
 intro Z9 s Z H D I h
 refine wpAny_Assign_Subscript (Z0 (hv Z9 s Z H _ I h) fun r s1 ⟨v,H1,I1,rv,q1⟩=>Z0 (ho Z9 s1 Z H1 _ I1 q1) fun u s2 ⟨x,H2,I2,rx,q2⟩=>Z0 (hi Z9 s2 Z H2 _ I2 q2) fun iv s3 ⟨y,H3,I3,ry,a,H4,ex,g,q3⟩=>?_) hs
 subst ex
 obtain rfl:u=Value.ref a:=rx
 exact zqj hu I3 g ry rv fun s4 I4=>⟨Z,H4,I4,q3⟩
end
def zrx {P:Program}{w:World}{H:Hp}(h:Heap)(hb:sysModules<h.objs.size):Y6 P w H (h.push { cls:=.type "dict",data:=.dict #[] }) h.objs.size (.dK []) :=
 ⟨qP _,beq_eq_false_iff_ne.mpr (Ne.symm (qK hb)),[],.nil,Heap.DictOf.new h⟩
def zqt {P:Program}{w:World}{H:Hp}(h:Heap)(hb:sysModules<h.objs.size):Y6 P w H (h.push { cls:=.type "dict",data:=.dict #[] }) h.objs.size (.dT []) :=
 ⟨qP _,beq_eq_false_iff_ne.mpr (Ne.symm (qK hb)),[],.nil,_,#[],0,Heap.get?_push_size _ rfl,⟨rfl,rfl,rfl⟩,rfl,rfl,List.nodup_nil⟩
def zuu:TE:=fun _ H Q=>∀ p,H p=none->Q (.ref p) (upd H p (.dK []))
def zvt:TE:=fun _ H Q=>∀ p,H p=none->Q (.ref p) (upd H p (.dT []))
section
variable {X:Cx}{pos:Pos}
def zqF:PE X (.Dict [] [] pos) zuu:=fun Z9 s Z H Q I h =>
 wpAny_Dict_empty ⟨.ref s.heap.objs.size,_,I.laid (a:=s.heap.objs.size) (o:=.dK []) (t':=s.toks) (fun _ _ q=>qd _ q) (qf _) (zrx s.heap I.big),rfl,h _ (I.hok.fresh (qf _))⟩
def zro:PE X (.Dict [] [] pos) zvt:=fun Z9 s Z H Q I h =>
 wpAny_Dict_empty ⟨.ref s.heap.objs.size,_,I.laid (a:=s.heap.objs.size) (o:=.dT []) (t':=s.toks) (fun _ _ q=>qd _ q) (qf _) (zqt s.heap I.big),rfl,h _ (I.hok.fresh (qf _))⟩
end
section
variable {X:Cx}{Z9:List (Addr×Obj)}{Z:St}{H:Hp}{s:Shared}{a:Addr}{y d:V}{u r:Value}{o:Option V}{A:Around}{E:Value->Shared->Prop}
end
section
variable {X:Cx}{o e f:Expr}{apos cpos:Pos}{td ty tx:TE}
end
section
variable {X:Cx}{Z9:List (Addr×Obj)}{Z:St}{H:Hp}{s:Shared}{a:Addr}{Z6:List (Key×V)}{A:Around}{E:Value->Shared->Prop}
end
section
variable {X:Cx}{Z9:List (Addr×Obj)}{Z:St}{H:Hp}{s:Shared}{a:Addr}{y:V}{u:Value}{A:Around}{E:Value->Shared->Prop}
end
end L2
namespace My
def Bd (n:Nat)(x:Int):Prop:=x.natAbs<2 ^ n
def Bd.mono {m n:Nat}{x:Int}(h:Bd m x)(hmn:m<=n):Bd n x:=qD h (Nat.pow_le_pow_right (by decide) hmn)
def Bd.add {n:Nat}{x y:Int}(h:Bd n x)(h':Bd n y):Bd (n+1) (x+y):=by
 unfold Bd at *;rw[Nat.pow_succ];lia
def Bd.sub {n:Nat}{x y:Int}(h:Bd n x)(h':Bd n y):Bd (n+1) (x-y):=by
 unfold Bd at *;rw[Nat.pow_succ];lia
def Bd.neg {n:Nat}{x:Int}(h:Bd n x):Bd n (-x):=by unfold Bd at *;lia
def Bd.mul {m n:Nat}{x y:Int}(h:Bd m x)(h':Bd n y):Bd (m+n) (x*y):=by
 unfold Bd at *;rw[Int.natAbs_mul,Nat.pow_add];exact Nat.mul_lt_mul'' h h'
def Bd.of_le {n:Nat}{x y:Int}(h:Bd n y)(h':x.natAbs<=y.natAbs):Bd n x:=qbm h' h
def Bd.dvd {n:Nat}{x y:Int}(h:Bd n y)(h0:y≠0)(d:x ∣ y):Bd n x :=
 h.of_le (Nat.le_of_dvd (by lia) (Int.natAbs_dvd_natAbs.mpr d))
theorem Bd.fdiv {n:Nat}{x y:Int}(h:Bd n x):Bd n (x.fdiv y):=h.of_le (Int.natAbs_fdiv_le_natAbs x y)
def Bd.lit {n:Nat}{x:Int}(h:x.natAbs<2 ^ 200)(hn:200<=n):Bd n x:=Bd.mono (m:=200) h hn
def zrD (a b:Int):Int.gcd b (a.fmod b)=Int.gcd a b:=by
 have e:a.fmod b=a-b*a.fdiv b:=by have:=Int.mul_fdiv_add_fmod a b;lia
 rw[e,Int.gcd_sub_mul_left_right,Int.gcd_comm]
def zmv {a b:Int}(h:b≠0):(a.fmod b).natAbs<b.natAbs:=by
 rcases Int.lt_or_gt_of_ne h with h1|h1
 ·have e:(-(-a)).fmod (-(-b))=-((-a).fmod (-b)):=Int.neg_fmod_neg (-a) (-b)
  rw[QM,QM]at e
  have h2:=Int.fmod_nonneg_of_pos (-a) (b:=-b) (by lia)
  have h3:=Int.fmod_lt_of_pos (-a) (b:=-b) (by lia)
  lia
 ·have:=Int.fmod_nonneg_of_pos a h1
  have:=Int.fmod_lt_of_pos a h1
  lia
def gd (t b:Int):Int:=if b<0 then -((Int.gcd t b:Nat):Int)else((Int.gcd t b:Nat):Int)
def Ug (t b:Int):Int:=t.fdiv (gd t b)
def frB (t b:Int):Int:=b.fdiv (gd t b)
def zsf {t b:Int}(h:b≠0):gd t b≠0:=by
  have:Int.gcd t b≠0:=fun e=>h (Int.gcd_eq_zero_iff.mp e).2
  unfold gd;split<;>lia
def zmz (t b:Int):gd t b ∣ t:=by
 unfold gd;split
 ·exact Int.neg_dvd.mpr (Int.gcd_dvd_left ..)
 ·exact Int.gcd_dvd_left ..
def zgN (t b:Int):gd t b ∣ b:=by
 unfold gd;split
 ·exact Int.neg_dvd.mpr (Int.gcd_dvd_right ..)
 ·exact Int.gcd_dvd_right ..
def zmP (t b:Int):Ug t b*gd t b=t:=Int.fdiv_mul_cancel (zmz t b)
def zjL (t b:Int):frB t b*gd t b=b:=Int.fdiv_mul_cancel (zgN t b)
def zrX (t b:Int):Ug t b*b=frB t b*t:=by
 have h1:=zmP t b
 have h2:=zjL t b
 generalize Ug t b=x at *
 generalize frB t b=y at *
 generalize gd t b=g at *
 subst h1 h2
 rw[Vg y g,<- Int.mul_assoc,Vg (x*g) y]
def ztG {t b:Int}(h:b≠0):1<=frB t b:=by
  have h2:=zjL t b
  have h3:gd t b≠0:=zsf h
  have h4:0<b->0<gd t b:=by
    intro hb;unfold gd at *;split<;>lia
  have h5:b<0->gd t b<0:=by
    intro hb;unfold gd at *;split<;>lia
  generalize frB t b=y at *
  generalize gd t b=g at *
  rcases Int.lt_or_gt_of_ne h with hb|hb
  . have hg:=h5 hb
    rcases Qn y 1 with hy|hy
    . have:0<=y*g:=Int.mul_nonneg_of_nonpos_of_nonpos (by lia) (by lia)
      lia
    . exact hy
  . have hg:=h4 hb
    rcases Qn y 1 with hy|hy
    . have:y*g<=0:=Int.mul_nonpos_of_nonpos_of_nonneg (by lia) (by lia)
      lia
    . exact hy
def zuE {t b:Int}(h:b≠0):Int.gcd (Ug t b) (frB t b)=1:=by
  have h0:0<Int.gcd t b:=Nat.pos_of_ne_zero fun e=>h (Int.gcd_eq_zero_iff.mp e).2
  have h1:=zmP t b
  have h2:=zjL t b
  have e:Int.gcd (Ug t b*gd t b) (frB t b*gd t b)=Int.gcd (Ug t b) (frB t b)*(gd t b).natAbs:=Int.gcd_mul_right ..
  rw[h1,h2]at e
  have e2:(gd t b).natAbs=Int.gcd t b:=by unfold gd;split<;>lia
  rw[e2]at e
  exact Nat.eq_of_mul_eq_mul_right h0 (by lia)
def zxr {n:Nat}{t b:Int}(h:b≠0)(hb:Bd n b):Bd n (gd t b):=hb.dvd h (zgN t b)
def zvC {n:Nat}{t b:Int}(hb:Bd n b):Bd n (frB t b):=hb.fdiv
def zuV {n:Nat}{t b:Int}(hb:Bd n t):Bd n (Ug t b):=hb.fdiv
open PySem PySem.Spec PyProof.Rows L2
def zwT (_ j:Int):Prop:=j≠0/\Bd 8000 j
def zwV (_ j:Int):Prop:=j≠0
def zjc {j:Int}(h:Bd 8000 j):j.natAbs.log2<9000:=by
 rcases qaX j.natAbs with e|e
 ·rw[e];decide
 ·have:j.natAbs.log2<8000:=(Nat.log2_lt (Vr e)).mpr h
  lia
def zja {j:Int}(h:Bd 8000 j):Builtin.Int.intBits j<=2 ^ 20:=by
 unfold Builtin.Int.intBits
 split
 ·exact qP _
 ·have:=zjc h
  lia
section
variable {X:Cx}
def zrg:Zm X (binaryOp .FloorDiv) (rI zwT fun i j=>.int (i.fdiv j)):=opI fun _ _ _ _ _ _ _ hc q=>floordiv_int hc.1 q (.inl (PyProof.noPylong_of_log2 (zjc hc.2)))
def zsM:Zm X (binaryOp .Mod) (rI zwV fun i j=>.int (i.fmod j)):=ztf
def rB0 (g:Bool->Bool->V):R2:=fun x y H Q=>∃ i j,x=.bl i/\y=.bl j/\Q (g i j) H
def ztB {i j:Int}{a b:Nat}{p1 p2 pos:Pos}(c:Int)(h:i ^ j.toNat=c)(h0:0<=j/\j<=1000000/\i.natAbs<2 ^ 64):PE X (.BinOp (.Constant (.int i) a p1) .Pow (.Constant (.int j) b p2) pos) (tC (.int c)):=by
 intro Z9 s Z H Q I q
 have q':Q (.int c) H:=q
 rw[<- h]at q'
 exact zsy zvd zlf zlf Z9 s Z H Q I ⟨i,j,rfl,rfl,h0,q'⟩
def zyX:List V->Hp->VK->Prop:=fun xs H Q=>∃ i,xs=[.int i]/\Q (.int (i.natAbs:Int)) H
def zp3:YJ X (.builtin "abs") zyX:=fun Z9 s Z H xs us Q I r h=>by
  obtain⟨i,e,q⟩:=h
  refine zrv Z9 s Z H xs us Q I r ⟨i,e,?_⟩
  have:(if i<0 then -i else i)=(i.natAbs:Int):=by split<;>lia
  rw[this];exact q
def zyR (K:PySem.W.Frag):List V->Hp->VK->Prop:=fun xs H Q=>∃ p ys,xs=[.ref p]/\(Zr K H p ys\/ZK K H p ys)/\Q (.int ys.length) H
def zpL:YJ X (.builtin "len") (zyR X.K):=zlW
def zxX (K:PySem.W.Frag):List V->Hp->VK->Prop:=fun xs H Q=>∃ p ys,xs=[.ref p]/\(Zr K H p ys\/ZK K H p ys)/\∀ l,H l=none->Q (.ref l) (upd H l (.lst ys))
def znZ:YJ X (.type "list") (zxX X.K):=zmj
def zyE:List V->Hp->VK->Prop:=fun xs H Q=>∃ i j,xs=[.int i,.int j]/\Q (.int (if j > i then j else i)) H
def zoP (hc:X.calm=true):YJ X (.builtin "max") zyE:=zpn hc
def zy0:List V->Hp->VK->Prop:=fun xs H Q=>∃ i j,xs=[.int i,.int j]/\Q (.int (if j<i then j else i)) H
def zp2 (hc:X.calm=true):YJ X (.builtin "min") zy0:=zoL hc
def zym {x:Str}{T:String}{pos:Pos}(hg:Gl X x)(hm:X.mg x=none)(hv:bootBuiltins x=some (.type T))(hn:x≠"__name__":=by decide)(hd:(x==("__debug__":Str))=false:=by decide):PE X (.Name x pos) (tC (.ty T)):=ztt (v:=.ty T) hg hm hv rfl hn hd
def zy7 (K:PySem.W.Frag):List V->Hp->VK->Prop:=fun xs H Q=>∃ x c t b,xs=[x,.ty c]/\V9 K H x t/\PySem.W.kitOne K t (.type c)=some b/\Q (.bl b) H
def zrO:YJ X (.builtin "isinstance") (zy7 X.K):=fun Z9 s Z H xs us Q I r h=>by
 obtain⟨x,c,t,b,rfl,ty,e,q⟩:=h
 obtain⟨u,w',rfl,ru,rw'⟩:=vals2 r
 cases rw'
 exact zo3 I ru ty e fun tk=>⟨.bl b,H,I.tok _,rfl,q⟩
end
section
variable {X:Cx}{K:PySem.W.Frag}
end
structure Got (P:Program)(w:World)(K:PySem.W.Frag)(mg:Str->Option Value)(base:Heap)(k:Nat)(x:Str)(ps:List Str)(sp:Sp):Prop where
 ex:∃ f fd,zO P w K mg base ZV k f fd ps sp/\Binds K fd ps []/\PySem.W.keepIn K (.ref f)=true/\mg x=some (.ref f)
def zwE {X:Cx}{k j:Nat}{x:Str}{ps:List Str}{sp:Sp}{p pos:Pos}{e:Expr}{es:List Expr}{t:TA}(G:Got X.prog X.w X.K X.mg X.base k x ps sp)(hr:Zk j X.A)(hk:k<=j)(hg:Gl X x)
  (ha:PA X (e::es) t) (hdb:(x==("__debug__":Str))=false:=by decide) (he:starEach (e::es) X.env=(false,eval e X.env)::starEach es X.env:=by rfl) (hpl:(backTo pos (starEach es X.env)).any (·.1)=false:=by rfl) :
  PE X (.Call (.Name x p) (e::es) [] pos) (zoy sp [] E0 t):=by
 intro Z9 s Z H Q I h
 obtain⟨f,fd,F,b,kp,m⟩:=G.ex
 exact zup (F.mono hk) hr hg m kp b .nil zsg ha hdb he hpl Z9 s Z H Q I h
section
variable {nx:L2.St->Hp->Prop}{rt:VK}{bk ct:L2.St->Hp->Prop}{Z:L2.St}{H:Hp}{K:PySem.W.Frag}
end
section
variable {Z:L2.St}{H:Hp}{K:PySem.W.Frag}
def zy6:R2:=fun x y H Q=>y=.non/\Q (.bl (decide (x=.non))) H
def zxq:R2:=fun x y H Q=>y=.non/\Q (.bl (!decide (x=.non))) H
def zxA {X:Cx}:Zm X (compareOp .Is) zy6:=zv6
def zwf {X:Cx}:Zm X (compareOp .IsNot) zxq:=ztA
end
def Uq {H:Hp}{p b:Addr}{o u:HO}(hp:H p=none)(h:H b=some u):upd H p o b=some u:=by
 rw[zR (Td h hp)];exact h
theorem zmt {prog:Program}{w:World}{A:Around}{R:Result->Shared->Prop}{s:Shared}{elt target iter:Expr}{ifs:List Expr}{scope:Scope}{pos:Pos}{it acc:Value}{env:Env}(I:Nat->Shared->Prop)
  (turn:∀ n s,I n s->wpAny (model prog w) A (pyNext it) (fun r s₁=>match r with
   |none=>R (.ok .next) s₁
   |some v=>wpAny (model prog w) A (letOwnedTupleGo target it v) (fun _ s₁'=>wpAny (model prog w) A (assign target env v) (fun _ s₂ =>
     wpAny (model prog w) A (forIn ifs true fun c r=>if r=true then do let ok <- isTrue c env (eval c env);pure (ForInStep.yield ok)else pure (ForInStep.yield r)) (fun ok s₃ =>
      if ok=true then wpAny (model prog w) A (eval elt env) (fun x s₄ =>
       wpAny (model prog w) A (call (.builtin "list.append") [acc,x]) (fun _ s₅=>∃ m,m<n/\I m s₅) (fun _ _=>False) s₄) (fun _ _=>False) s₃
      else ∃ m,m<n/\I m s₃) (fun _ _=>False) s₂) (fun _ _=>False) s₁') (fun _ _=>False) s₁) (fun _ _=>False) s)
  (n:Nat) (h:I n s):codeAny (model prog w) A (.compLoop (.ListComp elt [⟨target,iter,ifs,0⟩] scope pos) 0 it acc env) R s:=by
 refine codeAny_loop rfl I (fun n s hI=>?_) n h
 show wpAny _ A ((compTurn (.ListComp elt [⟨target,iter,ifs,0⟩] scope pos) 0 it acc env).onRaise (fun x=>do noteFrame x env;theTreesLotGoes x)) _ _ s
 refine wpAny_noted ?_
 rw[compTurn_list]
 refine wpAny_bind (wpAny_standAt (wpAny_bind (wpAny_mono (turn n s hI) (fun r s₁ h₁=>?_) fun _ _ h'=>h'.elim)))
 cases r with
 |none=>exact wpAny_pure h₁
 |some v =>
  refine wpAny_bind (wpAny_mono h₁ (fun _ s₁' h₁'=>?_) fun _ _ h'=>h'.elim)
  refine wpAny_bind (wpAny_mono h₁' (fun _ s₂ h₂=>wpAny_bind (wpAny_mono h₂ (fun ok s₃ h₃=>?_) fun _ _ h'=>h'.elim)) fun _ _ h'=>h'.elim)
  cases ok with
  |false=>exact wpAny_pure ⟨rfl,h₃⟩
  |true =>
   exact wpAny_bind (wpAny_bind (wpAny_mono h₃ (fun x s₄ h₄=>wpAny_bind (wpAny_mono h₄ (fun _ s₅ h₅=>wpAny_pure (wpAny_pure ⟨rfl,h₅⟩)) fun _ _ h'=>h'.elim)) fun _ _ h'=>h'.elim))
def inner (X:Cx)(sc:Scope)(N:List Str)(cl:List (Str×Addr))(C:Addr)(s₀:Shared)(H₀:Hp)(ex:List Addr):Cx :=
  { X with N:=N,s₀:=s₀,H₀:=H₀,env:=compEnvC sc cl C X.env,outer:=X.stack,ex:=ex,fn:=fun x=>sc.names.lookup x==some .cell,pn:=[] }
def Rb (X:Cx)(ifs:List Expr)(t:TT):Prop :=
 ∀ (Z9:List (Addr×Obj)) (s:Shared) (Z:L2.St) (H:Hp) (Q:Bool->Hp->Prop),Inv X Z9 Z H s->t Z H Q ->
  wpAny (model X.prog X.w) X.A (forIn ifs true fun c r=>if r=true then do let ok <- isTrue c X.env (eval c X.env);pure (ForInStep.yield ok)else pure (ForInStep.yield r)) (TP X Z9 Z Q) X.xe s
def zxS:TT:=fun _ H Q=>Q true H
def zwo {X:Cx}:Rb X [] zxS:=fun _ _ _ H _ I h=>wpAny_tests_nil ⟨H,I,h⟩
def zu3 {X:Cx}{c:Expr}{t:TT}(h:PT X c t):Rb X [c] t:=fun Z9 s Z H Q I q=>wpAny_tests_one (h Z9 s Z H Q I q)
def Ro (X:Cx)(sc:Scope):List Str->List Nat->Prop
 |[],[]=>True
 |x::xs,j::js=>X.N[j]?=some x/\sc.names.lookup x=some .free/\X.env.kindOf x=some .cell/\Ro X sc xs js
 |_,_=>False
def Ut (P:Str->Prop):List (Str×NameKind)->Prop
 |[]=>True
 |(n,.free)::r=>P n/\Ut P r
 |_::r=>Ut P r
theorem Ut.of {P:Str->Prop}:∀ {l:List (Str×NameKind)},Ut P l->∀ y∈l,y.2=.free->P y.1
  |(n,k)::r,h,y,hy,e=>by
    rcases qg.mp hy with rfl|hy
    . dsimp only at e;subst e;exact h.1
    . refine Ut.of (l:=r) ?_ y hy e
      cases k<;>first|exact h.2|exact h
def cst (own:List Str)(fv:List Nat)(Z:L2.St):L2.St:=List.replicate own.length none++fv.map fun j=>(Z[j]?).join
def WX:L2.St->L2.St->Prop
 |[],[]=>True
 |none::r,_::s=>WX r s
 |some v::r,some w::s=>v=w/\WX r s
 |_,_=>False
theorem WX.len:∀ {a b:L2.St},WX a b->b.length=a.length
  |[],[],_=>rfl
  |none::r,_::s,h=>congrArg (· + 1) (WX.len (a:=r) (b:=s) h)
  |some v::r,some w::s,h=>congrArg (· + 1) (WX.len (a:=r) (b:=s) h.2)
theorem WX.get:∀ {a b:L2.St},WX a b->∀ (i:Nat) (v:V),a[i]?=some (some v)->b[i]?=some (some v)
 |none::r,_::s,h,i,v,e=>by
  cases i with
  |zero=>simp at e
  |succ i=>simpa using WX.get (a:=r) (b:=s) h i v (by simpa using e)
 |some v'::r,some w::s,h,i,v,e=>by
  cases i with
  |zero=>simp at e;subst e;simp[h.1]
  |succ i=>simpa using WX.get (a:=r) (b:=s) h.2 i v (by simpa using e)
def tLC (own:List Str)(fv:List Nat)(wi:TI)(g:TG)(tc:TT)(te:TE):TE:=fun Z H Q=>wi Z H fun J H1=>∀ p,H1 p=none ->
 ∃ W:Nat->Nat->Hp->Prop,(∃ m,W 0 m (upd H1 p (.lst [])))/\∀ i m H2,W i m H2 ->
  (J.stop i H2/\Q (.ref p) H2)\/(J.go i H2/\∀ x H',J.yld i H2 x H'->g x (cst own fv Z) H' fun σ2 H3=>WX (cst own fv Z) σ2/\tc σ2 H3 fun b H4 =>
   if b=true then te σ2 H4 fun y H5=>∃ ys,H5 p=some (.lst ys)/\ys.length<sizeLine/\∃ m',m'<m/\W (i+1) m' (upd H5 p (.lst (ys++[y])))
   else ∃ m',m'<m/\W (i+1) m' H4)
def zml {env:Env}{n:Str}{c:Addr}(h:env.cells.lookup n=some c):cellOf env n=pure c:=by
 unfold cellOf;rw[h]
theorem zf0 {env:Env}:∀ (names:List (Str×NameKind)) (cs:List (Str×Addr)),(∀ y∈names,y.2=.free->∃ c,env.cells.lookup y.1=some c)->(∀ x c,cs.lookup x=some c->env.cells.lookup x=some c) ->
    ∃ cl,(forIn names cs fun (x:Str×NameKind) (r:List (Str×Addr))=>if(x.2==NameKind.free)=true then do let a <- cellOf env x.1;pure (ForInStep.yield ((x.1,a)::r))else pure (ForInStep.yield r))=(pure cl:Sem (List (Str×Addr))) /\
      (∀ x c,cl.lookup x=some c->env.cells.lookup x=some c)/\(∀ x,(cs.lookup x).isSome=true->(cl.lookup x).isSome=true)/\∀ y∈names,y.2=.free->(cl.lookup y.1).isSome=true
  |[],cs,_,h2=>⟨cs,rfl,h2,fun _ h=>h,fun _ h=>nomatch h⟩
  |(n,k)::r,cs,h1,h2=>by
    rw[List.forIn_cons]
    by_cases hk:k=.free
    . subst hk
      obtain⟨c,hc⟩:=h1 (n,.free) Qq rfl
      obtain⟨cl,e,a1,a2,a3⟩:=zf0 (env:=env) r ((n,c)::cs) (fun y hy=>h1 y (qB _ hy)) (fun x d hx=>by
        rw[qo]at hx
        by_cases hxn:x=n
        . subst hxn;simp at hx;subst hx;exact hc
        . have:(x==n)=false:=by simpa using hxn
          rw[this]at hx;exact h2 x d hx)
      refine⟨cl,?_,a1,fun x hx=>a2 x ?_,fun y hy e'=>?_⟩
      . simp only[beq_self_eq_true,if_true,zml hc]
        simpa using e
      . rw[qo];split<;>simp_all
      . rcases qg.mp hy with rfl|hy
        . exact a2 _ (by simp[qo])
        . exact a3 y hy e'
    . have hb:(k==NameKind.free)=false:=by simpa using hk
      obtain⟨cl,e,a1,a2,a3⟩:=zf0 (env:=env) r cs (fun y hy=>h1 y (qB _ hy)) h2
      refine⟨cl,?_,a1,a2,fun y hy e'=>?_⟩
      . simp only[hb,qaY,if_false]
        simpa using e
      . rcases qg.mp hy with rfl|hy
        . exact absurd e' hk
        . exact a3 y hy e'
def zjb {env:Env}{sc:Scope}(h:∀ y∈sc.names,y.2=.free->∃ c,env.cells.lookup y.1=some c) :
  ∃ cl,closureFor sc env=pure cl/\(∀ x c,cl.lookup x=some c->env.cells.lookup x=some c)/\∀ y∈sc.names,y.2=.free->(cl.lookup y.1).isSome=true:=by
 obtain⟨cl,e,a1,_,a3⟩:=zf0 (env:=env) sc.names [] h (fun x c hx=>by simp at hx)
 refine⟨cl,?_,a1,a3⟩
 unfold closureFor
 have e2:=e
 first
  |exact e2
  |(show(do let cs <- forIn sc.names [] _;pure cs)=_;rw[show(forIn sc.names [] _:Sem (List (Str×Addr)))=pure cl from e2];rfl)
  |simpa using e2
theorem zdC {env:Env}{x:Str}:∀ {names:List (Str×NameKind)},(names.map fun (n,k)=>if(k==NameKind.free&&env.scope.kind==.function&&env.kindOf n==some .cell)then(n,NameKind.cell)else(n,k)).lookup x =
    (names.lookup x).map fun k=>if(k==NameKind.free&&env.scope.kind==.function&&env.kindOf x==some .cell)then NameKind.cell else k
  |[]=>rfl
  |(n,k)::r=>by
    have ih:=zdC (env:=env) (x:=x) (names:=r)
    rw[qE]
    by_cases hx:x=n
    . subst hx
      dsimp only
      split<;>simp_all [qo]
    . have hb:(x==n)=false:=by simpa using hx
      dsimp only
      split<;>(rw[qo,qo,hb];exact ih)
theorem mem_of_lookup {β:Type}{x:Str}{k:β}:∀ {l:List (Str×β)},l.lookup x=some k->(x,k)∈l
 |(n,b)::r,h=>by
  rw[qo]at h
  by_cases hx:x=n
  ·subst hx;simp at h;subst h;exact Qq
  ·have hb:(x==n)=false:=by simpa using hx
   rw[hb]at h
   exact qB _ (mem_of_lookup h)
theorem Pj:∀ (names:List (Str×NameKind)) (n:Nat) (acc:List (Str×Addr)),cellsFrom n names acc=cellsFrom n names []++acc
 |[],_,_=>rfl
 |(x,k)::r,n,acc=>by
  unfold cellsFrom
  split
  ·rw[Pj r (n+1) ((x,n)::acc),Pj r (n+1) [(x,n)],qu];rfl
  ·exact Pj r n acc
theorem zd5:∀ {names:List (Str×NameKind)} {n:Nat} {x:Str} {c:Addr},(x,c)∈cellsFrom n names []->(x,NameKind.cell)∈names
 |(y,k)::r,n,x,c,h=>by
  unfold cellsFrom at h
  split at h
  ·rename_i hk
   rw[Pj]at h
   rcases qJ.mp h with h|h
   ·exact qB _ (zd5 h)
   ·have e:(x,c)=(y,n):=by simpa using h
    cases e
    rw[show k=NameKind.cell by simpa using hk];exact Qq
  ·exact qB _ (zd5 h)
theorem zd3:∀ {names:List (Str×NameKind)} {n:Nat} {x:Str},(x,NameKind.cell)∈names->((cellsFrom n names []).lookup x).isSome=true
 |(y,k)::r,n,x,h=>by
  unfold cellsFrom
  rcases qg.mp h with e|h
  ·cases e
   rw[if_pos (by rfl),Pj,qaZ]
   cases(cellsFrom (n+1) r []).lookup y with
   |some c=>rfl
   |none=>simp
  ·have ih:=zd3 (n:=n) h
   have ih':=zd3 (n:=n+1) h
   split
   ·rw[Pj,qaZ]
    obtain⟨c,hc⟩:=qaC.mp ih'
    rw[hc];rfl
   ·exact ih
def zoG {M:Model}{A:Around}{E:Value->Shared->Prop}{s:Shared}{scope:Scope}{globals:Addr}{closure:List (Str×Addr)}{qual:Str}{func:Option Addr}{code:Value}{env:Env}{Q:Env->Shared->Prop}
    (hQ:Q (newEnv scope s.heap.objs.size globals (cellsFrom (s.heap.objs.size+1) scope.names closure) qual func code (some env) builtinsNs) { s with heap:=pushCells (s.heap.push { cls:=.type "dict",data:=.dict #[] }) scope.names }) :
    wpAny M A (newFunctionEnv scope globals closure [] qual func code (some env)) Q E s:=by
  simp only[newFunctionEnv,Option.isSome_some,if_true]
  refine wpAny_bind (wpAny_alloc ?_)
  refine wpAny_bind (wpAny_layCells _ (fun name kind cells=>by cases hkc:kind==NameKind.cell<;>simp[hkc]) _ _ _ _ ?_)
  rw[show({ s with heap:=s.heap.push { cls:=.type "dict",data:=.dict #[] } }:Shared).heap.objs.size=s.heap.objs.size+1 from qZ ..]
  rw[List.forIn_nil]
  exact wpAny_bind (wpAny_pure (wpAny_pure hQ))
section
variable {X:Cx}{sc:Scope}{tg iter elt:Expr}{ifs:List Expr}{own free:List Str}{fv:List Nat}{wi:TI}{g:TG}{tc:TT}{te:TE}{pos:Pos}
theorem zsp {Z:L2.St}:∀ {free:List Str} {fv:List Nat},Ro X sc free fv->∀ (k:Nat) (x:Str) (v:V),free[k]?=some x->(fv.map fun j=>(Z[j]?).join)[k]?=some (some v) ->
  ∃ j:Nat,X.N[j]?=some x/\Z[j]?=some (some v)/\sc.names.lookup x=some .free/\X.env.kindOf x=some .cell
 |x'::xs,j::js,h,k,x,v,e1,e2=>by
  cases k with
  |zero =>
   simp at e1 e2
   subst e1
   refine⟨j,h.1,?_,h.2.1,h.2.2.1⟩
   cases q:Z[j]? with
   |none=>rw[q]at e2;simp at e2
   |some o=>rw[q]at e2;simp at e2;rw[e2]
  |succ k=>exact zsp (free:=xs) (fv:=js) h.2.2.2 k x v (by simpa using e1) (by simpa using e2)
 |[],[],_,k,x,v,e1,_=>by simp at e1
theorem zqa:∀ {free:List Str} {fv:List Nat},Ro X sc free fv->fv.length=free.length
  |[],[],_=>rfl
  |_::_,_::_,h=>congrArg (· + 1) (zqa h.2.2.2)
def ziP {RR:Value->Addr->Result->Shared->Prop}(hcalm:X.calm=true)(hxe:X.xe=fun _ _=>False)(hkind:sc.kind=.function)(hcell:∀ y∈sc.names,y.2=.cell->sc.names.lookup y.1=some .cell)
    (hfr:Ut (fun x=>X.env.kindOf x=some .cell) sc.names) (hfv:Ro X sc free fv)
    (hg:∀ cl C s₀ H₀ ex,PG (inner X sc (own++free) cl C s₀ H₀ ex) tg g) (ht:∀ cl C s₀ H₀ ex,Rb (inner X sc (own++free) cl C s₀ H₀ ex) ifs tc) (he:∀ cl C s₀ H₀ ex,PE (inner X sc (own++free) cl C s₀ H₀ ex) elt te)
    {Z9:List (Addr×Obj)} {s2:Shared} {Z:L2.St} {H2:Hp} {it:Addr} {fp:List Addr} {tn:Nat->Heap->Prop} {J:It} {Q:VK} (I2:Inv X Z9 Z H2 s2) (T:Turn X.prog X.w X.K tg J fp it tn) (st2:tn 0 s2.heap) (f2:∀ b∈fp,U9 X Z9 H2 b)
    (h:∀ p,H2 p=none->∃ W:Nat->Nat->Hp->Prop,(∃ m,W 0 m (upd H2 p (.lst [])))/\∀ i m H2,W i m H2 ->
      (J.stop i H2/\Q (.ref p) H2)\/(J.go i H2/\∀ x H',J.yld i H2 x H'->g x (cst own fv Z) H' fun σ2 H3=>WX (cst own fv Z) σ2/\tc σ2 H3 fun b H4 =>
        if b=true then te σ2 H4 fun y H5=>∃ ys,H5 p=some (.lst ys)/\ys.length<sizeLine/\∃ m',m'<m/\W (i+1) m' (upd H5 p (.lst (ys++[y])))
        else ∃ m',m'<m/\W (i+1) m' H4))
    {cl:List (Str×Addr)} (hcl1:∀ x c,cl.lookup x=some c->X.env.cells.lookup x=some c) (hcl2:∀ y∈sc.names,y.2=.free->(cl.lookup y.1).isSome=true)
    (hRR:∀ (p C:Addr) (m:Str->Option Value) (H':Hp) (s':Shared),s'.heap.Ns C m->Inv X Z9 Z H' s'->H' C=none->C≠X.env.locals->X.s₀.heap.objs.size<=C->(∀ x c,X.env.cells.lookup x=some c->c≠C)->(∀ q∈X.pn++Z9,q.1≠C)->Q (.ref p) H' ->
      RR (.ref p) C (.ok .next) s') :
    wpAny (model X.prog X.w) X.A (newList []) (fun acc s3=>wpAny (model X.prog X.w) X.A (newFunctionEnv sc X.env.globals cl [] X.env.qual none .none (some X.env)) (fun cenv s4 =>
      codeAny (model X.prog X.w) X.A (.compStart (.ListComp elt [⟨tg,iter,ifs,0⟩] sc pos) 0 (.ref it) acc { cenv with scope:=relabel sc X.env }) (RR acc cenv.locals) s4) X.xe s3) X.xe s2:=by
  rw[hxe]
  refine wpAny_newObj_type ?_
  have I3:Inv X Z9 Z (upd H2 s2.heap.objs.size (.lst [])) { s2 with heap:=s2.heap.push { cls:=.type "list",data:=.seq ([]:List Value).toArray } }:=I2.lnew (t':=s2.toks) .nil (qP _)
  generalize hs3:({ s2 with heap:=s2.heap.push { cls:=.type "list",data:=.seq ([]:List Value).toArray } }:Shared)=s3 at I3 ⊢
  have hp:H2 s2.heap.objs.size=none:=I2.fresh
  obtain⟨W,⟨m0,w0⟩,turn⟩:=h s2.heap.objs.size hp
  generalize hH3:upd H2 s2.heap.objs.size (.lst [])=H3 at I3 w0 ⊢
  have hk3:∀ b o,s2.heap.get? b=some o->s3.heap.get? b=some o:=fun b o e=>by rw[<- hs3];exact qd _ e
  have hz3:s3.heap.objs.size=s2.heap.objs.size+1:=by rw[<- hs3];exact qZ ..
  have st3:tn 0 s3.heap:=T.keep _ _ _ st2 fun b _ o e=>hk3 b o e
  have hfpo:∀ b∈fp,∃ o,s3.heap.get? b=some o:=fun b hb=>let ⟨o,e,_⟩:=T.obj _ _ st3 b hb;⟨o,e⟩
  have hfpn:∀ b∈fp,b≠s2.heap.objs.size:=fun b hb e=>by
    obtain⟨o,e',_⟩:=T.obj _ _ st2 b hb
    have:=qq e'
    rw[e]at this;exact Wx _ this
  have f3:∀ b∈fp,H3 b=none:=fun b hb=>by rw[<- hH3,zR (hfpn b hb)];exact(f2 b hb).1
  refine zoG ?_
  have cok:=cellsFrom_ok sc.names (s3.heap.push { cls:=.type "dict",data:=.dict #[] }) (s3.heap.objs.size+1) [] ⟨fun _ _ hm=>(nomatch hm),List.Pairwise.nil⟩ (by rw[qZ];exact qf _)
  rw[qZ]at cok
  have hns1:(pushCells (s3.heap.push { cls:=.type "dict",data:=.dict #[] }) sc.names).Ns s3.heap.objs.size (fun _=>none):=(Heap.Ns.new s3.heap (.type "dict")).keeps (pushCells_keeps _ _)
  have old:∀ b o,s3.heap.get? b=some o->(pushCells (s3.heap.push { cls:=.type "dict",data:=.dict #[] }) sc.names).get? b=some o:=fun b o e=>pushCells_keeps _ _ b o (qd _ e)
  rw[Pj]
  have fmem:∀ {x c},(x,c)∈cellsFrom (s3.heap.objs.size+1) sc.names []->sc.names.lookup x=some .cell:=fun {x c} h=>hcell (x,.cell) (zd5 h) rfl
  have fhas:∀ {x},sc.names.lookup x=some .cell->∃ c,(cellsFrom (s3.heap.objs.size+1) sc.names []).lookup x=some c:=fun {x} h=>qaC.mp (zd3 (mem_of_lookup h))
  generalize pushCells (s3.heap.push { cls:=.type "dict",data:=.dict #[] }) sc.names=h1 at cok hns1 old ⊢
  generalize cellsFrom (s3.heap.objs.size+1) sc.names []=F at cok fmem fhas ⊢
  have flt:∀ {x c},F.lookup x=some c->s3.heap.objs.size<c:=fun {x c} e=>(cok.empty x c (mem_of_lookup e)).2
  have cl':∀ {x c},(F++cl).lookup x=some c->F.lookup x=some c\/(F.lookup x=none/\cl.lookup x=some c):=fun {x c} e=>by
    rw[qaZ]at e
    cases hF:F.lookup x with
    |some c'=>rw[hF]at e;exact .inl e
    |none=>rw[hF]at e;exact .inr ⟨rfl,e⟩
  have hC0:H3 s3.heap.objs.size=none:=I3.fresh
  have hlow:X.s₀.heap.objs.size<=s3.heap.objs.size:=I3.sz
  have hloc:X.env.locals<s3.heap.objs.size:=I3.lt
  have hcells:∀ x c,X.env.cells.lookup x=some c->c<s3.heap.objs.size:=fun x c e=>by
    obtain⟨v,o,ho,_⟩:=I3.cell x c e
    exact qq ho
  have YOk:(inner X sc (own++free) (F++cl) s3.heap.objs.size s3 H3 fp).Ok:={
    mod:=I3.ok.mod
    kind:=by show(relabel sc X.env).kind=.function;exact hkind
    glob:=I3.ok.glob
    blt:=I3.ok.blt
    above:=qf _
    inj:=fun x y c hx hy=>by
      rcases cl' hx with h|⟨_,h⟩<;>rcases cl' hy with h'|⟨_,h'⟩
      . exact name_of_addr cok.apart (mem_of_lookup h) (mem_of_lookup h')
      . exact absurd (Nat.lt_trans (flt h) (hcells y c (hcl1 y c h'))) (Wx _)
      . exact absurd (Nat.lt_trans (flt h') (hcells x c (hcl1 x c h))) (Wx _)
      . exact I3.ok.inj x y c (hcl1 x c h) (hcl1 y c h')
    has:=fun x hx=>by
      show ∃ c,(F++cl).lookup x=some c
      rw[qaZ]
      cases hF:F.lookup x with
      |some c=>exact⟨c,rfl⟩
      |none =>
      show ∃ c,cl.lookup x=some c
      have e : (sc.names.lookup x).map (fun k => if(k == NameKind.free && X.env.scope.kind == .function && X.env.kindOf x == some .cell)then NameKind.cell else k) = some .cell ∨
          (sc.names.lookup x).map (fun k=>if(k==NameKind.free&&X.env.scope.kind==.function&&X.env.kindOf x==some .cell)then NameKind.cell else k)=some .free:=by
        have:=@zdC X.env x sc.names
        rcases hx with hx|hx
        . exact .inl (this.symm.trans hx)
        . exact .inr (this.symm.trans hx)
      cases q:sc.names.lookup x with
      |none=>rw[q]at e;simp at e
      |some k =>
        have hm:=mem_of_lookup q
        by_cases hkf:k=.free
        . subst hkf
          exact qaC.mp (hcl2 (x,.free) hm rfl)
        . have hkc : k ≠ .cell := fun ek => by
            subst ek
            obtain⟨c,hc⟩:=fhas q
            rw[hF]at hc;cases hc
          rw[q]at e
          have hb:(k==NameKind.free)=false:=by simpa using hkf
          simp only[qbf,hb,Bool.false_and,qaY,if_false,Option.some.injEq]at e
          rcases e with e|e
          . exact absurd e hkc
          . exact absurd e hkf
    cab:=fun x c hx hc=>by
      obtain⟨c',hc'⟩:=fhas (show sc.names.lookup x=some .cell from beq_iff_eq.mp hx)
      rcases cl' hc with h|⟨h,_⟩
      . exact Pq (flt h)
      . rw[hc']at h;cases h
    hd:=I3.ok.hd
    frames:=I3.ok.frames
    stk:=.inl rfl
    exf:=fun b hb=>⟨fun e=>by obtain⟨o,e'⟩:=hfpo b hb;have:=qq e';rw[e]at this;exact Wx _ this,fun x c hx=>by
      rcases cl' hx with h|⟨_,h⟩
      . obtain⟨o,e'⟩:=hfpo b hb
        exact Vr (Nat.lt_trans (qq e') (flt h))
      . exact(f2 b hb).2.2.2.2.1 x c (hcl1 x c h)⟩
    bs:=I3.bs
    bsz:=qY I3.ok.bsz I3.sz
    noex:=fun b o hb hm=>by
      rcases(f2 b hm).2.2.2.1 with hx|hx
      . exact I3.ok.noex b o hb hx
      . exact Wx _ (qD (qD (qq hb) I3.ok.bsz) hx)
    exfs:=fun b hb hm=>by
      rcases qg.mp (I3.stkSub b hm)with e|e
      . exact(f2 b hb).2.1 e
      . exact(f2 b hb).2.2.1 e
    funs:=I3.stack
    frf:=I3.stkFree }
  have hlen0:(cst own fv Z).length=(own++free).length:=by
    unfold cst;rw[qh,qh,qH,qb,zqa hfv]
  have I4:∀ tk,Inv (inner X sc (own++free) (F++cl) s3.heap.objs.size s3 H3 fp) [] (cst own fv Z) H3 { s3 with heap:=h1,toks:=tk }:=fun tk=>{
    ok:=YOk
    os:=rfl
    bare:=I3.bare
    base:=Un.kept old
    loc:=by
      refine⟨_,hns1,fun i x v hN hσ _=>?_⟩
      have hN':(own++free)[i]?=some x:=hN
      have hσ':(List.replicate own.length none++fv.map fun j=>(Z[j]?).join)[i]?=some (some v):=hσ
      by_cases hi:i<own.length
      . rw[qk (by rw[qH];exact hi)]at hσ'
        rw[qaG]at hσ'
        split at hσ'<;>simp at hσ'
      . rw[qi (by lia)]at hN'
        rw[qi (by rw[qH];lia),qH]at hσ'
        obtain⟨j,hj,hσj,hsx,hkx⟩:=zsp hfv _ x v hN' hσ'
        obtain⟨m,_,hall⟩:=I3.loc
        obtain⟨u,ru,lk⟩:=hall j x v hj hσj (.inr (.inl hkx))
        refine⟨u,ru,.inr ⟨?_,?_⟩⟩
        . have:=@zdC X.env x sc.names
          rw[hsx]at this
          have e2:Env.kindOf (inner X sc (own++free) (F++cl) s3.heap.objs.size s3 H3 fp).env x=(sc.names.map fun (n,k)=>if(k==NameKind.free&&X.env.scope.kind==.function&&X.env.kindOf n==some .cell)then(n,NameKind.cell)else(n,k)).lookup x:=rfl
          rw[e2,this]
          simp only[qbf]
          split
          . exact .inl rfl
          . exact .inr rfl
        . rcases lk with⟨hl,_⟩|⟨_,c,hc,hcell'⟩
          . rw[hkx]at hl;cases hl
          . obtain⟨c',hc'⟩:=qaC.mp (hcl2 (x,.free) (mem_of_lookup hsx) rfl)
            have:=hcl1 x c' hc'
            rw[hc]at this
            cases this
            refine⟨c,?_,?_⟩
            . show(F++cl).lookup x=some c
              rw[qaZ]
              cases hF:F.lookup x with
              |none=>exact hc'
              |some c2=>have:=fmem (mem_of_lookup hF);rw[hsx]at this;cases this
            obtain⟨o,ho,hd⟩:=hcell'
            exact⟨o,old _ _ ho,hd⟩
    cell:=fun x c hx=>by
      rcases cl' hx with h|⟨_,h⟩
      . exact⟨none,(cok.empty x c (mem_of_lookup h)).1⟩
      . obtain⟨v,o,ho,hd⟩:=I3.cell x c (hcl1 x c h)
        exact⟨v,o,old _ _ ho,hd⟩
    free:=hC0
    freeC:=fun x c hx=>by
      rcases cl' hx with h|⟨_,h⟩
      . exact I3.hok.fresh (Pq (flt h))
      . exact I3.freeC x c (hcl1 x c h)
    pin:=fun q hq=>nomatch hq
    hok:=I3.hok.kept old
    len:=hlen0 }
  have back:∀ (m:Str->Option Value) (H':Hp) (s':Shared),s'.heap.Ns s3.heap.objs.size m->Inv (inner X sc (own++free) (F++cl) s3.heap.objs.size s3 H3 fp) [] (cst own fv Z) H' s'->Q (.ref s2.heap.objs.size) H'->RR (.ref s2.heap.objs.size) s3.heap.objs.size (.ok .next) s':=fun m H' s' hm IY q=>by
    have u1:Un (frs X.stack) fp H3 H' s3.heap s'.heap:=IY.base
    have IX:Inv X Z9 Z H' s':=I3.call' (ch:=fp) (IY.os) u1 IY.hok IY.bare fun b hb=>⟨(f2 b hb).2.2.2.1,(f2 b hb).2.1,(f2 b hb).2.2.2.2.1,(f2 b hb).2.2.2.2.2⟩
    refine hRR _ _ m H' s' hm IX IY.free (Vr hloc) hlow (fun x c hx=>qK (hcells x c hx)) (fun q' hq=>?_) q
    have:=(I3.pin q' hq).1
    exact qK (qq this)
  have stat:∀ {H':Hp},(∀ b∈fp,H' b=none)->∀ b∈fp,U9 (inner X sc (own++free) (F++cl) s3.heap.objs.size s3 H3 fp) [] H' b:=fun hn b hb =>
    ⟨hn b hb,(YOk.exf b hb).1,YOk.exfs b hb,.inl hb,(YOk.exf b hb).2,fun q hq=>nomatch hq⟩
  have hYxe:(inner X sc (own++free) (F++cl) s3.heap.objs.size s3 H3 fp).xe=fun _ _=>False:=hxe
  have loop:∀ tk,codeAny (model X.prog X.w) X.A (.compLoop (.ListComp elt [⟨tg,iter,ifs,0⟩] sc pos) 0 (.ref it) (.ref s2.heap.objs.size) (compEnvC sc (F++cl) s3.heap.objs.size X.env)) (RR (.ref s2.heap.objs.size) s3.heap.objs.size) { s3 with heap:=h1,toks:=tk }:=fun tk=>by
    refine zmt (fun n s'=>∃ i H',Inv (inner X sc (own++free) (F++cl) s3.heap.objs.size s3 H3 fp) [] (cst own fv Z) H' s'/\tn i s'.heap/\(∀ b∈fp,H' b=none)/\W i n H') ?_ m0 ⟨0,H3,I4 tk,T.keep _ _ _ st3 (fun b _ o e=>old b o e),f3,w0⟩
    rintro n s5 ⟨i,H5,I5,st5,fr5,w5⟩
    rcases turn i n H5 w5 with⟨stop,q⟩|⟨go,step⟩
    . refine Z0 (T.done (inner X sc (own++free) (F++cl) s3.heap.objs.size s3 H3 fp) rfl rfl rfl hcalm i [] s5 _ H5 _ I5 (stat fr5) st5 stop) fun r s6 ⟨hr,I6⟩=>?_
      subst hr
      obtain⟨m,hm,_⟩:=I6.loc
      exact back m H5 s6 hm I6 q
    . refine Z0 (T.item (inner X sc (own++free) (F++cl) s3.heap.objs.size s3 H3 fp) rfl rfl rfl hcalm i [] s5 _ H5 _ I5 (stat fr5) st5 go) fun r s6 ⟨u,hr,h6⟩=>?_
      subst hr
      refine Z0 h6 fun _ s7 ⟨x,H7,I7,r7,y7,st7,fr7⟩=>?_
      have I7':=I7.pinned (stat fr7) (T.obj _ _ st7)
      have hg':=hg (F++cl) s3.heap.objs.size s3 H3 fp _ s7 _ H7 x u _ I7' r7 (step x H7 y7)
      have ht':=ht (F++cl) s3.heap.objs.size s3 H3 fp
      have he':=he (F++cl) s3.heap.objs.size s3 H3 fp
      have ap:MtM (inner X sc (own++free) (F++cl) s3.heap.objs.size s3 H3 fp) "list.append" zm7:=zj9
      unfold Rb at ht'
      unfold PE at he'
      unfold MtM at ap
      rw[hYxe]at hg' ht' he' ap
      have again : ∀ {pl : List (Addr × Obj)} {σ8 : L2.St} {H8 : Hp} {s8 : Shared}, pl = zgx fp s7.heap → Inv (inner X sc (own ++ free) (F ++ cl) s3.heap.objs.size s3 H3 fp) ([] ++ pl) σ8 H8 s8 → WX (cst own fv Z) σ8 → (∃ m', m' < n ∧ W (i + 1) m' H8) →
          ∃ m,m<n/\∃ i H',Inv (inner X sc (own++free) (F++cl) s3.heap.objs.size s3 H3 fp) [] (cst own fv Z) H' s8/\tn i s8.heap/\(∀ b∈fp,H' b=none)/\W i m H':=fun {pl σ8 H8 s8} hpl I8 ag ⟨m',hm,w8⟩=>by
        subst hpl
        refine⟨m',hm,i+1,H8,(I8.unpinned).weak ag.len.symm (fun j v e=>ag.get j v e),T.keep _ _ _ st7 fun b hb o e=>(I8.pin (b,o) (qV _ (qV _ (zek hb e)))).1,fun b hb=>?_,w8⟩
        obtain⟨o,e,d⟩:=T.obj _ _ st7 b hb
        exact(I8.pin (b,o) (qV _ (qV _ (zek hb e)))).2.1
      refine Z0 hg' fun _ s8 ⟨σ8,H8,I8,ag,q8⟩=>?_
      refine Z0 (ht' _ s8 σ8 H8 _ I8 q8) fun b s9 ⟨H9,I9,q9⟩=>?_
      cases b with
      |false =>
        rw[if_neg qp]at q9 ⊢
        exact again rfl I9 ag q9
      |true =>
        rw[if_pos rfl]at q9 ⊢
        refine Z0 (he' _ s9 σ8 H9 _ I9 q9) fun y s10 ⟨yv,H10,I10,ry,ys,hy,hlt,q10⟩=>?_
        refine Z0 (ap _ s10 σ8 H10 (.ref s2.heap.objs.size) [yv] (.ref s2.heap.objs.size) [y] (fun v H'=>v=.non/\H'=upd H10 s2.heap.objs.size (.lst (ys++[yv]))) I10 rfl (.cons ry .nil) ⟨_,ys,yv,rfl,rfl,hy,hlt,rfl,rfl⟩) fun z s11 ⟨v11,H11,I11,_,_,e11⟩=>?_
        subst e11
        exact again rfl I11 ag q10
  refine codeAny_compStart_list (loop _) (T.self _ 0 _ _ _ (T.keep _ _ _ st3 fun b _ o e=>old b o e) (loop _))
def zxO (hcalm:X.calm=true)(hxe:X.xe=fun _ _=>False)(hkind:sc.kind=.function)(hcell:∀ y∈sc.names,y.2=.cell->sc.names.lookup y.1=some .cell)(hnames:∀ y∈sc.names,y.2=.local->sc.names.lookup y.1=some .local)
  (hfr:Ut (fun x=>X.env.kindOf x=some .cell) sc.names) (hfv:Ro X sc free fv) (hi:PI X tg iter wi)
  (hg:∀ cl C s₀ H₀ ex,PG (inner X sc (own++free) cl C s₀ H₀ ex) tg g) (ht:∀ cl C s₀ H₀ ex,Rb (inner X sc (own++free) cl C s₀ H₀ ex) ifs tc) (he:∀ cl C s₀ H₀ ex,PE (inner X sc (own++free) cl C s₀ H₀ ex) elt te)
  (hs:∀ x,foldedSetIterable iter X.env x=pure x:=by intro _;rfl):PE X (.ListComp elt [⟨tg,iter,ifs,0⟩] sc pos) (tLC own fv wi g tc te):=by
 intro Z9 s Z H Q I q
 obtain⟨cl,hclos,hcl1,hcl2⟩:=zjb (env:=X.env) (sc:=sc) fun y hy e=>I.ok.has y.1 (.inl (hfr.of y hy e))
 rw[eval_ListComp]
 refine wpAny_comprehension_free (use:=none) rfl hs hclos hkind hnames (Z0 (hi Z9 s Z H _ I q) fun v s1 h1=>Z0 h1 fun itv s2 h2=>?_)
 obtain⟨it,fp,tn,J,H2,e,I2,T,st2,f2,q2⟩:=h2
 subst e
 refine ziP (RR:=fun acc C=>compPost (model X.prog X.w) X.A X.xe none (EP X Z9 Z Q) acc C) hcalm hxe hkind hcell hfr hfv hg ht he I2 T st2 f2 q2 hcl1 hcl2 ?_
 intro p C m H' s' hm I' hC hCl hC0 hCc hCp q'
 exact⟨m,hm,fun h' hs'=>⟨.ref p,H',I'.turned (t':=s'.toks) (fun b o hb e=>hs'.extBut b o hb e) hC hCl (.inr hC0) hCc hCp,rfl,q'⟩⟩
def zug {i:Nat}{y:Str}{py spos:Pos}(hN:X.N.Nodup)(hy:X.N[i]?=some y)(hyl:X.env.scope.names.lookup y=some .local)(hcalm:X.calm=true)(hxe:X.xe=fun _ _=>False)(hkind:sc.kind=.function)(hcell:∀ y∈sc.names,y.2=.cell->sc.names.lookup y.1=some .cell)(hnames:∀ y∈sc.names,y.2=.local->sc.names.lookup y.1=some .local)
  (hfr:Ut (fun x=>X.env.kindOf x=some .cell) sc.names) (hfv:Ro X sc free fv) (hi:PI X tg iter wi)
  (hg:∀ cl C s₀ H₀ ex,PG (inner X sc (own++free) cl C s₀ H₀ ex) tg g) (ht:∀ cl C s₀ H₀ ex,Rb (inner X sc (own++free) cl C s₀ H₀ ex) ifs tc) (he:∀ cl C s₀ H₀ ex,PE (inner X sc (own++free) cl C s₀ H₀ ex) elt te)
  (hsw:swapsWith (.ListComp elt [⟨tg,iter,ifs,0⟩] sc pos) (some (.Name y py)) spos.line X.env=pure true:=by rfl)
  (hs:∀ x,foldedSetIterable iter X.env x=pure x:=by intro _;rfl):PS X (.Assign [.Name y py] (.ListComp elt [⟨tg,iter,ifs,0⟩] sc pos) spos) (zrC (tLC own fv wi g tc te) (YW i)):=by
 intro Z9 s Z H D I q
 obtain⟨cl,hclos,hcl1,hcl2⟩:=zjb (env:=X.env) (sc:=sc) fun y hy e=>I.ok.has y.1 (.inl (hfr.of y hy e))
 rw[exec_Assign_Name_used _ _ _ _ hsw]
 refine wpAny_bind (wpAny_standAt (wpAny_bind ?_))
 show wpAny _ X.A (do let _ <- comprehension (.ListComp elt [⟨tg,iter,ifs,0⟩] sc pos) sc X.env _ (newList []) false (eval iter X.env) (some (assign (.Name y py) X.env))) _ _ s
 refine wpAny_bind (wpAny_mono (wpAny_comprehension_free (use:=some (assign (.Name y py) X.env)) (Q:=fun _ s'=>SP X Z9 D .next s') rfl hs hclos hkind hnames
  (Z0 (hi Z9 s Z H _ I q) fun v s1 h1=>Z0 h1 fun itv s2 h2=>?_)) (fun _ s' hq=>wpAny_pure (wpAny_pure hq)) fun _ _ e=>e)
 obtain⟨it,fp,tn,J,H2,e,I2,T,st2,f2,q2⟩:=h2
 subst e
 refine ziP (RR:=fun acc C=>compPost (model X.prog X.w) X.A X.xe (some (assign (.Name y py) X.env)) (fun _ s'=>SP X Z9 D .next s') acc C) (Q:=fun x H1=>YW i x Z H1 D.nx) hcalm hxe hkind hcell hfr hfv hg ht he I2 T st2 f2 q2 hcl1 hcl2 ?_
 intro p C m H' s' hm I' hC hCl hC0 hCc hCp q'
 show wpAny _ X.A (assign (.Name y py) X.env (.ref p)) _ _ _
 refine wpAny_assign_Name (zj2 (v:=.ref p) I' hN hy (.inl hyl) rfl (fun s'' I'' hsb=>?_) (.inr hyl))
 obtain⟨a,hsb,ha⟩:=hsb
 have hCa:C≠a:=by
  rcases ha with rfl|ha
  ·exact hCl
  ·exact fun e=>hCc _ _ ha e.symm
 refine⟨m,hm.sameBut hsb hCa,fun h' hs'=>⟨_,H',I''.turned (t':=s''.toks) (fun b o hb e=>hs'.extBut b o hb e) hC hCl (.inr hC0) hCc hCp,q'⟩⟩
end
section
variable {Z:L2.St}{H:Hp}{K:PySem.W.Frag}
end
section
variable {X:Cx}{tg:Expr}
end
mutual
inductive Dt (K:PySem.W.Frag)(H:Hp):V->PyData->Prop
 |non:Dt K H .non .none
 |bl (b:Bool):Dt K H (.bl b) (.bool b)
 |int (i:Int):Dt K H (.int i) (.int i)
 |tup {a:Addr} {xs:List V} {ds:List PyData}:ZK K H a xs->ziK K H xs ds->Dt K H (.ref a) (.tuple ds)
 |lst {a:Addr} {xs:List V} {ds:List PyData}:Zr K H a xs->ziK K H xs ds->Dt K H (.ref a) (.list ds)
inductive ziK (K:PySem.W.Frag)(H:Hp):List V->List PyData->Prop
 |nil:ziK K H [] []
 |cons {x:V} {xs:List V} {d:PyData} {ds:List PyData}:Dt K H x d->ziK K H xs ds->ziK K H (x::xs) (d::ds)
end
section
variable {X:Cx}{Z9:List (Addr×Obj)}{Z:L2.St}{H:Hp}{s:Shared}
end
section
variable {X:Cx}{Z9:List (Addr×Obj)}{Z:L2.St}{H:Hp}{s:Shared}
def _root_.L2.Inv.turnNew {h':Heap}{ch:List Addr}{a:Addr}{o:HO}{t':Nat}(I:Inv X Z9 Z H s)(hf:∀ b∈ch,U9 X Z9 H b)(k:∀ b u,b∉ch->s.heap.get? b=some u->h'.get? b=some u)(ha:s.heap.objs.size<=a)
  (new:Y6 X.prog X.w (upd H a o) h' a o):Inv X Z9 Z (upd H a o) { s with heap:=h',toks:=t' }:=by
 have lt:∀ b u,s.heap.get? b=some u->b≠a:=fun b u e z=>by
  have:=qq e
  rw[z]at this;exact Wx _ (qD this ha)
 have ltH:∀ b u,H b=some u->b≠a:=fun b u e z=>by
  have:=I.hok.lt e
  rw[z]at this;exact Wx _ (qD this ha)
 have nch:∀ b u,H b=some u->b∉ch:=fun b u e z=>by rw[(hf b z).1]at e;cases e
 refine I.step (g':=s.gens) (d':=s.drawn) (ch:=ch) (fun b hb=>⟨(hf b hb).2.2.2.1,(hf b hb).2.1,(hf b hb).2.2.2.2.1,(hf b hb).2.2.2.2.2⟩) (fun b u _ _ hc e _=>k b u hc e) (fun b u _ _ hc e _=>⟨u.slots,k b u hc e⟩)
  (fun b u _ e n=>by rw[zR (lt b u e)];exact n) (fun b u hc e=>⟨u,k b u hc e⟩) (fun b xs e=>by rw[zR (ltH b _ e)];exact e) (fun b u v e=>by rw[zR (ltH b _ e)];exact e)
  (fun b ps e=>⟨#[],by rw[zR (ltH b _ e),e];simp⟩) (fun m hm=>?_) (fun b u e=>?_) I.bare
 ·obtain⟨ob,es,ep,ho,r⟩:=hm
  exact⟨ob,es,ep,k _ ob (fun z=>(hf _ z).2.1 rfl) ho,r⟩
 ·by_cases hb:b=a
  ·subst hb
   rw[Xy]at e
   cases e
   exact new
  ·rw[zR hb]at e
   refine(I.hok b u e).stay (fun c v hc q=>k c v ?_ q) (fun c q=>by rw[zR (ltH c _ q)];exact q) fun c ys q=>by rw[zR (ltH c _ q)];exact q
   rcases hc with z|z
   ·rw[z];exact nch b u e
   ·exact nch c _ z
def _root_.L2.Inv.turnedL {h':Heap}{ch:List Addr}{t':Nat}(I:Inv X Z9 Z H s)(hf:∀ b∈ch,U9 X Z9 H b)(k:∀ b u,b∉ch->s.heap.get? b=some u->h'.get? b=some u):Inv X Z9 Z H { s with heap:=h',toks:=t' }:=by
 have nch:∀ b u,H b=some u->b∉ch:=fun b u e z=>by rw[(hf b z).1]at e;cases e
 refine I.step (g':=s.gens) (d':=s.drawn) (ch:=ch) (fun b hb=>⟨(hf b hb).2.2.2.1,(hf b hb).2.1,(hf b hb).2.2.2.2.1,(hf b hb).2.2.2.2.2⟩) (fun b u _ _ hc e _=>k b u hc e) (fun b u _ _ hc e _=>⟨u.slots,k b u hc e⟩)
  (fun b u _ e n=>n) (fun b u hc e=>⟨u,k b u hc e⟩) (fun b xs e=>e) (fun b u v e=>e) (fun b ps e=>⟨#[],by rw[e];simp⟩) (fun m hm=>?_) (fun b u e=>?_) I.bare
 ·obtain⟨ob,es,ep,ho,r⟩:=hm
  exact⟨ob,es,ep,k _ ob (fun z=>(hf _ z).2.1 rfl) ho,r⟩
 ·refine(I.hok b u e).stay (fun c v hc q=>k c v ?_ q) (fun c q=>q) fun c ys q=>q
  rcases hc with z|z
  ·rw[z];exact nch b u e
  ·exact nch c _ z
end
section
variable {X:Cx}
end
def Ite (K:PySem.W.Frag)(l:Addr):It :=
  ⟨fun i H=>∃ xs x,Zr K H l xs/\xs[i]?=some x,
   fun i H v H'=>∃ p,v=.ref p/\H p=none/\∀ xs x,Zr K H l xs->xs[i]?=some x->H'=upd H p (.tup [.int i,x]),
   fun i H=>∃ xs,Zr K H l xs/\xs.length<=i⟩
def zpv {P:Program}{w:World}{K:PySem.W.Frag}{es:List Expr}{kk:Nat}{pos:Pos}{e it l:Addr}(hne:e≠it) :
  Turn P w K (.Tuple es kk pos) (Ite K l) [e,it] e (fun i h=>(∃ old,IsEnum h e it i old)/\h.IsListIter it l i) where
 mem:=by simp
 obj:=fun i h st b hb=>by
  obtain⟨⟨old,he⟩,⟨o1,h1,_,h1d⟩⟩:=st
  simp only[qg,qF,or_false]at hb
  rcases hb with rfl|rfl
  ·exact⟨_,he,fun v q=>by cases(show Data.fields _=Data.cell v from q)⟩
  ·exact⟨_,h1,fun v q=>by rw[h1d]at q;cases q⟩
 keep:=fun i h h' st k=>by
  obtain⟨⟨old,he⟩,h1⟩:=st
  exact⟨⟨old,k e (by simp) _ he⟩,h1.at fun o q=>k it (by simp) o q⟩
 item:=by
  intro X hP hw hK hc i Z9 s Z H E I hf st hg
  subst hP hw hK
  obtain⟨⟨old,he⟩,h1⟩:=st
  obtain⟨xs,x,hx1,hx⟩:=hg
  obtain⟨its,rx,px,zx⟩:=I.list hx1
  obtain⟨u,hu,ru⟩:=Vals.get rx hx
  refine wpAny_pyNext_enum_item he h1 px.isList (by simpa using hu) hne fun h' a1 a2 a3 a4 hk=>?_
  refine⟨_,rfl,wpAny_letOwnedTupleGo_enum (s:={ s with heap:=h',toks:=s.toks+1 }) a1 fun h'' he'' hs''=>?_⟩
  have lt:∀ {c o},s.heap.get? c=some o->s.heap.objs.size≠c:=fun q=>Vr (qq q)
  have k2:∀ b u,b∉[e,it]->s.heap.get? b=some u->h''.get? b=some u:=fun b u hb q=>by
   simp only[qg,qF,or_false,not_or]at hb
   exact hs''.extBut b u hb.1 (hk b u hb.1 hb.2 q)
  have new:h''.get? s.heap.objs.size=some { cls:=.type "tuple",data:=.seq #[.int i s.toks,u] }:=hs''.extBut _ _ (lt he) a3
  refine⟨.ref s.heap.objs.size,upd H s.heap.objs.size (.tup [.int i,x]),I.turnNew (t':=s.toks+1) hf k2 (qf _) ⟨by show 2<=sizeLine;decide,[.int i s.toks,u],.cons ⟨_,rfl⟩ (.cons ru .nil),_,new,rfl,_,rfl⟩,rfl,⟨_,rfl,I.fresh,?_⟩,?_,fun b hb=>?_⟩
  ·intro xs' x' hx1' hx'
   cases I.list_inj hx1 hx1'
   rw[hx]at hx'
   cases hx'
   rfl
  ·exact⟨⟨_,he''⟩,a2.extBut hs''.extBut (Ne.symm hne)⟩
  ·have:∃ o,s.heap.get? b=some o:=by
    simp only[qg,qF,or_false]at hb
    obtain⟨o1,e1,_⟩:=h1
    rcases hb with rfl|rfl
    ·exact⟨_,he⟩
    ·exact⟨_,e1⟩
   obtain⟨o,q⟩:=this
   rw[zR (lt q).symm]
   exact(hf b hb).1
 done:=by
  intro X hP hw hK hc i Z9 s Z H E I hf st hg
  subst hP hw hK
  obtain⟨⟨old,he⟩,h1⟩:=st
  obtain⟨xs,hx1,hl⟩:=hg
  obtain⟨its,rx,px,zx⟩:=I.list hx1
  have n1:=rx.length
  refine wpAny_pyNext_enum_end (I.ok.hd hc) he h1 px.isList (by rw[qaM];exact qv (by lia)) fun h' hk=>⟨rfl,I.turnedL (t':=s.toks) hf fun b u hb q=>?_⟩
  simp only[qg,qF,or_false,not_or]at hb
  exact hk b u hb.2 q
 self:=fun _ _ _ _ _ st h=>by
  obtain⟨⟨old,he⟩,_⟩:=st
  exact wpAny_pyIter_enum he h
section
variable {X:Cx}
end
def hT (x1 z1 x2 z2 a b:Int):Int:=z1*(x2-x1)*b+(z2-z1)*(a-x1*b)
def hB (x1 x2 b:Int):Int:=(x2-x1)*b
section
variable {Z:L2.St}{H:Hp}
end
structure zjJ (P:Program)(w:World)(K:PySem.W.Frag)(mg:Str->Option Value)(base:Heap)(k:Nat)(x:Str)(sp:Sp):Prop where
 ex:∃ (C f:Addr) (fd:FuncData) (ps:List Str) (sp0:Sp),Mk K C f/\zO P w K mg base ZV k f fd ps sp0/\Binds K fd ps []/\mg x=some (.ref C) /\
  ∀ vs H Q,sp vs H Q E0->∀ x dx,H x=none->H dx=none->dx≠x->sp0 (.ref x::vs) (upd (upd H dx (.own x)) x (.ins C dx [])) (fun v H2=>v=.non/\Q (.ref x) H2) E0
def zxG {X:Cx}{k j:Nat}{x:Str}{sp:Sp}{p pos:Pos}{e:Expr}{es:List Expr}{t:TA}(G:zjJ X.prog X.w X.K X.mg X.base k x sp)(hr:Zk j X.A)(hk:k+1<=j)(hg:Gl X x)
  (ha:PA X (e::es) t) (hdb:(x==("__debug__":Str))=false:=by decide) (he:starEach (e::es) X.env=(false,eval e X.env)::starEach es X.env:=by rfl) (hpl:(backTo pos (starEach es X.env)).any (·.1)=false:=by rfl) :
  PE X (.Call (.Name x p) (e::es) [] pos) (zoy sp [] E0 t):=by
 intro Z9 s Z H Q I h
 obtain⟨C,f,fd,ps,sp0,M,F,b,hm,imp⟩:=G.ex
 refine wpAny_Call_Name_kw (zfp I hg hm ?_ hdb)
 refine PySem.W.callWith_K (h₀:=X.base) I.ok.mod.kin M.kp (Z0 (ha pos Z9 s Z H _ I h) fun us s1 ⟨vs,H1,I1,r,q⟩=>⟨I1.kIn,?_⟩) he hpl
 have q':sp (vs++[]) H1 Q E0:=q
 rw[qU]at q'
 exact zrR (dvs:=[]) (ds:=[]) M F (hr.mono hk) b .nil zsg I1 r fun x dx h1 h2 h3=>by rw[qU];exact imp vs H1 Q q' x dx h1 h2 h3
def zuj {X:Cx}{x:Str}{n:Int}{pos:Pos}(hg:Gl X x)(hm:∃ t,X.mg x=some (.int n t))(hd:(x==("__debug__":Str))=false:=by decide):PE X (.Name x pos) (tC (.int n)):=by
 obtain⟨t,ht⟩:=hm
 exact zmS (v:=.int n) hg ht ⟨t,rfl⟩ hd
section
variable {Z:L2.St}{H:Hp}{K:PySem.W.Frag}
end
section
variable {X:Cx}{K:PySem.W.Frag}
def zu2 {Z9:List (Addr×Obj)}{Z:L2.St}{H:Hp}{s:Shared}{p:Addr}{its:List Value}(_:Inv X Z9 Z H s)(pl:PlainL s.heap p its.toArray) :
  p<s.heap.objs.size/\(s.heap.push { cls:=.type "list_iterator",data:=.fields #[.ref p,.int 0 0] }).IsListIter s.heap.objs.size p 0:=by
 obtain⟨o,ho,_⟩:=pl.isList
 exact⟨qq ho,_,Heap.get?_push_size _ rfl,rfl,rfl⟩
def zuJ {H:Hp}{Z9:List (Addr×Obj)}{Z:L2.St}{s:Shared}{h':Heap}{tk:Nat}(I:Inv X Z9 Z H s){o:Obj}(hk:∀ b u,b∉[s.heap.objs.size]->(s.heap.push o).get? b=some u->h'.get? b=some u) :
  Inv X Z9 Z H { s with heap:=h',toks:=tk }:=I.kept (t':=tk) fun d u e=>hk d u (fun hm=>by
   have h1:d=s.heap.objs.size:=by simpa using hm
   have h2:=qq e
   rw[h1]at h2
   exact Wx _ h2) (qd _ e)
def zy8 (K:PySem.W.Frag):List V->Hp->VK->Prop:=fun xs H Q=>∃ (p:Addr) (bs:List Bool),xs=[.ref p]/\Zr K H p (bs.map V.bl)/\Q (.bl (bs.all id)) H
def zqG {bs:List Bool}{its:List Value}(rv:Vals (bs.map V.bl) its){i:Nat}{v:Value}(h:its.toArray[i]?=some v):v=.bool (bs.getD i false):=by
 rw[<- Qy]at h
 have hi:i<its.length:=by
  rcases qL i its.length with g|g
  ·exact g
  ·rw[qv (by simpa using g)]at h;cases h
 have hl:=rv.length
 rw[qb]at hl
 have e:(bs.map V.bl)[i]?=some (.bl (bs.getD i false)):=by
  rw[qj,qc (by lia)]
  simp[qC,qc (show i<bs.length by lia)]
 obtain⟨u,hu,ru⟩:=rv.get e
 rw[show its.toArray.toList=its from rfl,hu]at h
 cases h
 exact ru
def all_range (bs:List Bool):(List.range bs.length).all (fun i=>bs.getD i false)=bs.all id:=by
 rw[Rh,VB,VB]
 constructor
 ·intro h b hb
  obtain⟨i,hi,rfl⟩:=qS.mp hb
  simpa [qC,qc hi]using h i (List.mem_range.mpr hi)
 ·intro h i hi
  rw[List.mem_range]at hi
  have:=h bs[i] (List.getElem_mem hi)
  simpa [qC,qc hi]using this
def zo1 (hK:X.K=K)(hc:X.calm=true):YJ X (.builtin "all") (zy8 K):=fun Z9 s Z H xs us Q I r h=>by
 subst hK
 obtain⟨p,bs,rfl,hS,q⟩:=h
 obtain⟨u,rfl,ru⟩:=vals1 r
 cases ru
 obtain⟨its,rv,pl,hz⟩:=I.list hS
 obtain⟨lt,st⟩:=zu2 I pl
 have hl:=rv.length
 rw[qb]at hl
 have W:=Walks.list (prog:=X.prog) (w:=X.w) (A:=X.A.in1) (I.ok.hd hc) s.heap.objs.size p (qK lt) its.toArray
 refine call_all_walk (wpAny_pyIter_list pl.isList ⟨s.heap.objs.size,[s.heap.objs.size,p],[s.heap.objs.size],_,_,_,fun i=>bs.getD i false,rfl,W,⟨st,pl.isList.push _⟩,?_,?_⟩)
 ·intro i v s' Q' E' hv hq
  rw[zqG rv hv]
  exact wpAny_truthy_bool hq
 ·intro h' tk hk
  rw[qm,<- hl,all_range]
  exact⟨.bl _,H,zuJ (s:=s) I hk,rfl,q⟩
def zxJ (K:PySem.W.Frag):List V->Hp->VK->Prop:=fun xs H Q=>∃ (p:Addr) (ns:List Int),xs=[.ref p]/\Zr K H p (ns.map V.int)/\0<ns.length/\∀ m:Int,m∈ns->(∀ a∈ns,a<=m)->Q (.int m) H
def zwL (K:PySem.W.Frag):List V->Hp->VK->Prop:=fun xs H Q=>∃ (p:Addr) (ns:List Int),xs=[.ref p]/\Zr K H p (ns.map V.int)/\0<ns.length/\∀ m:Int,m∈ns->(∀ a∈ns,m<=a)->Q (.int m) H
theorem zga:∀ {ns:List Int} {its:List Value},Vals (ns.map V.int) its->∃ xs:Array (Int×Tok),its.toArray=intItems xs/\xs.toList.map (·.1)=ns
 |[],_,h=>by cases h;exact⟨#[],by simp[intItems],rfl⟩
 |n::ns,_,h=>by
  cases h with
  |cons r t =>
   obtain⟨tk,rfl⟩:=r
   obtain⟨xs,e1,e2⟩:=zga t
   refine⟨#[(n,tk)]++xs,?_,?_⟩
   ·apply Array.toList_inj.mp
    have:=congrArg Array.toList e1
    simp[intItems]at this ⊢
    exact this
   ·simp[e2]
def zoZ (hK:X.K=K)(hc:X.calm=true):YJ X (.builtin "max") (zxJ K):=fun Z9 s Z H xs us Q I r h=>by
 subst hK
 obtain⟨p,ns,rfl,hS,hne,q⟩:=h
 obtain⟨u,rfl,ru⟩:=vals1 r
 cases ru
 obtain⟨its,rv,pl,hz⟩:=I.list hS
 obtain⟨xs,e1,e2⟩:=zga rv
 have hsz:0<xs.size:=by rw[<- qN,<- qb (f:=(·.1)),e2];exact hne
 refine max_intList (I.ok.hd hc) (e1▸pl.isList) hsz fun v h' tk hv hk=>?_
 obtain⟨t,rfl⟩:=intItems_at hv
 obtain⟨h1,h2⟩:=argBest_gt (numAt xs) (xs.size-1)
 refine⟨.int _,H,I.kept (t':=tk) hk,⟨t,rfl⟩,q _ ?_ fun a ha=>?_⟩
 ·rw[<- e2,numAt_eq];exact getD_mem (by rw[qb,qN];lia)
 ·rw[<- e2]at ha
  obtain⟨j,hj,rfl⟩:=mem_getD ha
  rw[qb,qN]at hj
  rw[<- numAt_eq];exact h2 j (by lia)
def zo0 (hK:X.K=K)(hc:X.calm=true):YJ X (.builtin "min") (zwL K):=fun Z9 s Z H xs us Q I r h=>by
 subst hK
 obtain⟨p,ns,rfl,hS,hne,q⟩:=h
 obtain⟨u,rfl,ru⟩:=vals1 r
 cases ru
 obtain⟨its,rv,pl,hz⟩:=I.list hS
 obtain⟨xs,e1,e2⟩:=zga rv
 have hsz:0<xs.size:=by rw[<- qN,<- qb (f:=(·.1)),e2];exact hne
 refine min_intList (I.ok.hd hc) (e1▸pl.isList) hsz fun v h' tk hv hk=>?_
 obtain⟨t,rfl⟩:=intItems_at hv
 obtain⟨h1,h2⟩:=argBest_lt (numAt xs) (xs.size-1)
 refine⟨.int _,H,I.kept (t':=tk) hk,⟨t,rfl⟩,q _ ?_ fun a ha=>?_⟩
 ·rw[<- e2,numAt_eq];exact getD_mem (by rw[qb,qN];lia)
 ·rw[<- e2]at ha
  obtain⟨j,hj,rfl⟩:=mem_getD ha
  rw[qb,qN]at hj
  rw[<- numAt_eq];exact h2 j (by lia)
def zya (K:PySem.W.Frag):List V->Hp->VK->Prop:=fun xs H Q=>∃ p ys,xs=[.ref p]/\((Zr K H p ys/\∀ l,H l=none->Q (.ref l) (upd H l (.tup ys)))\/(ZK K H p ys/\Q (.ref p) H))
def zo2 (hK:X.K=K):YJ X (.type "tuple") (zya K):=hK▸zkK
end
section
variable {X:Cx}{K:PySem.W.Frag}
def zxb (K:PySem.W.Frag):R2:=fun x y H Q=>∃ l b xs zs,x=.ref l/\y=.ref b/\Zr K H l xs/\Zr K H b zs/\xs.length+zs.length<=sizeLine/\∀ p,H p=none->Q (.ref p) (upd H p (.lst (xs++zs)))
def zs8 (hK:X.K=K):Zm X (binaryOp .Add) (zxb K):=by
 subst hK
 intro Z9 s Z H x y v u Q I rx ry h
 obtain⟨l,b,xs,zs,rfl,rfl,hH,hB,hz,q⟩:=h
 cases rx
 cases ry
 obtain⟨its,r,pl,_⟩:=I.list hH
 obtain⟨its2,r2,pl2,_⟩:=I.list hB
 obtain⟨⟨cls,dd,data,sl⟩,ho,hc,n,hd⟩:=pl.isList
 obtain⟨⟨cls2,dd2,data2,sl2⟩,ho2,hc2,n2,hd2⟩:=pl2.isList
 simp only at hc hd hc2 hd2
 subst hc hd hc2 hd2
 have e1:=r.length
 have e2:=r2.length
 refine concat_meets ⟨_,ho,rfl⟩ ⟨_,ho2,rfl⟩ noFill_list_add seq_list_add PySem.F.slot_list_add PySem.F.entry_list_add (PySem.F.args_list_add_2 _ _) (list_addW l b its.toArray its2.toArray n n2 dd dd2 sl sl2 (by rw[qm,qm];lia)) ⟨ho,ho2,?_⟩
 have ea:its.toArray++its2.toArray=(its++its2).toArray:=by simp
 rw[ea]
 exact⟨.ref _,_,I.lnew (t':=s.toks) (r.append r2) (by rw[qh];lia),rfl,q _ I.fresh⟩
end
section
variable {Z:L2.St}{K:PySem.W.Frag}{own:List Str}{fv:List Nat}{g:TG}{tc:TT}{te:TE}{R:Hp->Prop}{H1:Hp}{p a:Addr}{xs:List V}
end
def RJ (H:Hp)(ps:List Addr)(cs:List (Int×Int)):Prop:=Paired (fun (p:Addr) (c:Int×Int)=>H p=some (.tup [.int c.1,.int c.2])) ps cs
theorem RJ.length {H:Hp}{ps:List Addr}{cs:List (Int×Int)}(h:RJ H ps cs):ps.length=cs.length:=Paired.length h
def VN {α:Type}{xs:List α}{i:Nat}{x:α}(h:xs[i]?=some x):i<xs.length:=by
 rcases qL i xs.length with g|g
 ·exact g
 ·rw[qv g]at h;cases h
open PySem PySem.W PyProof.Rows
def ZG {α:Type}(lt:Nat->Nat->Bool):KasT α->α
 |.ret a=>a
 |.ask i j k=>ZG lt (k (lt i j))
theorem zc3 {α β:Type}(lt:Nat->Nat->Bool)(f:α->KasT β):∀ t:KasT α,ZG lt (t.bind f)=ZG lt (f (ZG lt t))
 |.ret _=>rfl
 |.ask i j k=>zc3 lt f (k (lt i j))
structure VR (lt:Nat->Nat->Bool):Prop where
 asymm:∀ a b,lt a b=true->lt b a=false
 ntrans:∀ a b c,lt b a=false->lt c b=false->lt c a=false
section
variable {lt:Nat->Nat->Bool}
abbrev ga (p:Array Nat)(i:Nat):Nat:=p.getD i 0
def R9 (p:Array Nat)(i:Nat):ga p i=(p[i]?).getD 0:=by simp[ga,Array.getD_eq_getD_getElem?]
def zpD {p:Array Nat}{src d:Nat}(hs:src<p.size)(hd:d<=src)(k:Nat):ga (bubble p src d) k=if k=src-d then ga p src else if src-d<k/\k<=src then ga p (k-1)else ga p k:=by
 rw[R9,getElem?_bubble hs d hd]
 by_cases h1:k=src-d
 ·rw[if_pos h1,if_pos h1,R9]
 ·rw[if_neg h1,if_neg h1]
  by_cases h2:src-d<k/\k<=src
  ·rw[if_pos h2,if_pos h2,R9]
  ·rw[if_neg h2,if_neg h2,R9]
def Uy {p:Array Nat}{i j:Nat}(hj:j<=p.size)(k:Nat):ga (kas_rev p i j) k=if i<=k/\k<j then ga p (i+j-1-k)else ga p k:=by
  unfold kas_rev
  rw[R9,getElem?_mirror_all hj]
  split<;>rw[R9]
def Wy (lt:Nat->Nat->Bool)(p:Array Nat)(n:Nat):Prop:=∀ i j,i<=j->j<n->lt (ga p j) (ga p i)=false
def W2 (lt:Nat->Nat->Bool)(p:Array Nat)(n:Nat):Prop:=∀ i j,i<=j->j<n->lt (ga p i) (ga p j)=false
def Eqs (lt:Nat->Nat->Bool)(p:Array Nat)(a b:Nat):Prop:=∀ i j,a<=i->i<b->a<=j->j<b->lt (ga p i) (ga p j)=false
def Tn (S:VR lt)(a:Nat):lt a a=false:=by
 cases h:lt a a with
 |false=>rfl
 |true=>have:=S.asymm a a h;rw[h]at this;exact this
def Wy.snoc (S:VR lt){p:Array Nat}{n:Nat}(h1:1<=n)(h:Wy lt p n)(hn:lt (ga p n) (ga p (n-1))=false):Wy lt p (n+1):=by
 intro i j hij hj
 rcases qL j n with g|g
 ·exact h i j hij g
 ·have e:j=n:=by lia
  subst e
  rcases qL i j with g'|g'
  ·exact S.ntrans (ga p i) (ga p (j-1)) (ga p j) (h i (j-1) (by lia) (by lia)) hn
  ·have:i=j:=by lia
   subst this
   exact Tn S _
def W2.snoc (S:VR lt){p:Array Nat}{n:Nat}(h1:1<=n)(h:W2 lt p n)(hn:lt (ga p (n-1)) (ga p n)=false):W2 lt p (n+1):=by
 intro i j hij hj
 rcases qL j n with g|g
 ·exact h i j hij g
 ·have e:j=n:=by lia
  subst e
  rcases qL i j with g'|g'
  ·exact S.ntrans (ga p j) (ga p (j-1)) (ga p i) hn (h i (j-1) (by lia) (by lia))
  ·have:i=j:=by lia
   subst this
   exact Tn S _
def W2.rev {p:Array Nat}{n:Nat}(hn:n<=p.size)(h:W2 lt p n):Wy lt (kas_rev p 0 n) n:=by
 intro i j hij hj
 rw[Uy hn,Uy hn,if_pos ⟨by lia,hj⟩,if_pos ⟨by lia,by lia⟩]
 exact h _ _ (by lia) (by lia)
def Wy.rev {p:Array Nat}{n:Nat}(hn:n<=p.size)(h:Wy lt p n):W2 lt (kas_rev p 0 n) n:=by
 intro i j hij hj
 rw[Uy hn,Uy hn,if_pos ⟨by lia,by lia⟩,if_pos ⟨by lia,by lia⟩]
 exact h _ _ (by lia) (by lia)
def W2.turn (S:VR lt){p:Array Nat}{n a:Nat}(hn:n<=p.size)(ha:a<=n)(h:W2 lt p n)(he:Eqs lt p a n):W2 lt (kas_rev p a n) n:=by
 intro i j hij hj
 rw[Uy hn,Uy hn]
 by_cases hi:a<=i
 ·rw[if_pos ⟨hi,by lia⟩,if_pos ⟨by lia,hj⟩]
  exact he _ _ (by lia) (by lia) (by lia) (by lia)
 ·rw[if_neg (by lia)]
  by_cases hj':a<=j
  ·rw[if_pos ⟨hj',hj⟩]
   exact h _ _ (by lia) (by lia)
  ·rw[if_neg (by lia)]
   exact h _ _ hij hj
def Pz {p:Array Nat}{i j:Nat}:(kas_rev p i j).size=p.size:=mirror_size _ _ _ _
def T5 {p:Array Nat}{i j:Nat}:(kas_rev p i j).Perm p:=mirror_perm _ _ _ _
theorem zlL (S:VR lt)(p:Array Nat):∀ f n,1<=n->Wy lt p n->Wy lt p (ZG lt (kas_asc p f n))/\n<=ZG lt (kas_asc p f n)/\ZG lt (kas_asc p f n)<=n+f/\(ZG lt (kas_asc p f n)<n+f->lt (ga p (ZG lt (kas_asc p f n))) (ga p (ZG lt (kas_asc p f n)-1))=true)
 |0,n,_,h=>⟨h,qf _,qf _,fun z=>absurd z (Wx _)⟩
 |f+1,n,h1,h=>by
  cases hc:lt (ga p n) (ga p (n-1))with
  |true =>
   have e:ZG lt (kas_asc p (f+1) n)=n:=by
    show ZG lt (if lt (ga p n) (ga p (n-1))=true then KasT.ret n else kas_asc p f (n+1))=n
    rw[if_pos hc];rfl
   rw[e]
   exact⟨h,qf _,by lia,fun _=>hc⟩
  |false =>
   have e:ZG lt (kas_asc p (f+1) n)=ZG lt (kas_asc p f (n+1)):=by
    show ZG lt (if lt (ga p n) (ga p (n-1))=true then KasT.ret n else kas_asc p f (n+1))=_
    rw[if_neg (by rw[hc];exact qp)]
   rw[e]
   obtain⟨a1,a2,a3,a4⟩:=zlL S p f (n+1) (by lia) (h.snoc S h1 hc)
   exact⟨a1,by lia,by lia,fun z=>a4 (by lia)⟩
theorem zhb (S:VR lt):∀ f (p:Array Nat) n q,1<=n->n+f<=p.size->q+1<=n->W2 lt p n->Eqs lt p (n-(q+1)) n ->
    let r:=ZG lt (kas_desc f p n q)
    r.1.size=p.size/\r.1.Perm p/\n<=r.2.1/\r.2.1<=n+f/\r.2.2+1<=r.2.1/\W2 lt r.1 r.2.1/\Eqs lt r.1 (r.2.1-(r.2.2+1)) r.2.1
  |0,p,n,q,h1,hz,hq,h,he=>⟨rfl,qbg _,qf _,qf _,hq,h,he⟩
  |f+1,p,n,q,h1,hz,hq,h,he=>by
    have one:∀ p':Array Nat,Eqs lt p' (n+1-(0+1)) (n+1):=fun p' i j a b c d=>by
      have e1:i=n:=by lia
      have e2:j=n:=by lia
      subst e1;subst e2
      exact Tn S _
    cases hc:lt (ga p n) (ga p (n-1))with
    |true =>
      have hn:lt (ga p (n-1)) (ga p n)=false:=S.asymm _ _ hc
      by_cases hq0:q > 0
      . have e : ZG lt (kas_desc (f + 1) p n q) = ZG lt (kas_desc f (kas_rev p (n - (q + 1)) n) (n + 1) 0) := by
          show ZG lt (if lt (ga p n) (ga p (n-1))=true then(if q > 0 then kas_desc f (kas_rev p (n-(q+1)) n) (n+1) 0 else kas_desc f p (n+1) 0)else _)=_
          rw[if_pos hc,if_pos hq0]
        have ht:=h.turn S (a:=n-(q+1)) (by lia) (by lia) he
        have k1:ga (kas_rev p (n-(q+1)) n) n=ga p n:=by rw[Uy (by lia),if_neg (by lia)]
        have k2:ga (kas_rev p (n-(q+1)) n) (n-1)=ga p (n-(q+1)):=by
          rw[Uy (by lia),if_pos ⟨by lia,by lia⟩]
          congr 1;lia
        have hs:=W2.snoc S (p:=kas_rev p (n-(q+1)) n) h1 ht (by
          rw[k1,k2]
          exact S.ntrans (ga p n) (ga p (n-1)) (ga p (n-(q+1))) hn (he _ _ (by lia) (by lia) (by lia) (by lia)))
        have ih:=zhb S f (kas_rev p (n-(q+1)) n) (n+1) 0 (by lia) (by rw[Pz];lia) (by lia) hs (one _)
        rw[e]
        obtain⟨a1,a2,a3,a4,a5,a6,a7⟩:=ih
        exact⟨a1.trans Pz,a2.trans T5,by lia,by lia,a5,a6,a7⟩
      . have e : ZG lt (kas_desc (f + 1) p n q) = ZG lt (kas_desc f p (n + 1) 0) := by
          show ZG lt (if lt (ga p n) (ga p (n-1))=true then(if q > 0 then kas_desc f (kas_rev p (n-(q+1)) n) (n+1) 0 else kas_desc f p (n+1) 0)else _)=_
          rw[if_pos hc,if_neg hq0]
        have ih:=zhb S f p (n+1) 0 (by lia) (by lia) (by lia) (h.snoc S h1 hn) (one _)
        rw[e]
        obtain⟨a1,a2,a3,a4,a5,a6,a7⟩:=ih
        exact⟨a1,a2,by lia,by lia,a5,a6,a7⟩
    |false =>
      cases hd:lt (ga p (n-1)) (ga p n)with
      |true =>
        have e:ZG lt (kas_desc (f+1) p n q)=(p,n,q):=by
          show ZG lt (if lt (ga p n) (ga p (n-1))=true then _ else KasT.ask (ga p (n-1)) (ga p n) fun d=>if d=true then .ret (p,n,q)else kas_desc f p (n+1) (q+1))=_
          rw[if_neg (by rw[hc];exact qp)]
          show ZG lt (if lt (ga p (n-1)) (ga p n)=true then _ else _)=_
          rw[if_pos hd];rfl
        rw[e]
        exact⟨rfl,qbg _,qf _,by show n<=_;lia,hq,h,he⟩
      |false =>
        have e:ZG lt (kas_desc (f+1) p n q)=ZG lt (kas_desc f p (n+1) (q+1)):=by
          show ZG lt (if lt (ga p n) (ga p (n-1))=true then _ else KasT.ask (ga p (n-1)) (ga p n) fun d=>if d=true then .ret (p,n,q)else kas_desc f p (n+1) (q+1))=_
          rw[if_neg (by rw[hc];exact qp)]
          show ZG lt (if lt (ga p (n-1)) (ga p n)=true then _ else _)=_
          rw[if_neg (by rw[hd];exact qp)]
        have heq:Eqs lt p (n+1-(q+1+1)) (n+1):=by
          intro i j a b c d
          rcases qL i n with gi|gi<;>rcases qL j n with gj|gj
          . exact he i j (by lia) gi (by lia) gj
          . have:j=n:=by lia
            subst this
            exact S.ntrans (ga p j) (ga p (j-1)) (ga p i) hd (he i (j-1) (by lia) gi (by lia) (by lia))
          . have:i=n:=by lia
            subst this
            exact S.ntrans (ga p j) (ga p (i-1)) (ga p i) (he (i-1) j (by lia) (by lia) (by lia) gj) hc
          . have e1:i=n:=by lia
            have e2:j=n:=by lia
            subst e1;subst e2
            exact Tn S _
        have ih:=zhb S f p (n+1) (q+1) (by lia) (by lia) (by lia) (h.snoc S h1 hd) heq
        rw[e]
        obtain⟨a1,a2,a3,a4,a5,a6,a7⟩:=ih
        exact⟨a1,a2,by lia,by lia,a5,a6,a7⟩
def zhk (lt:Nat->Nat->Bool)(p:Array Nat)(nrem:Nat)(r:Nat×Array Nat):Prop:=r.2.size=p.size/\r.2.Perm p/\1<=r.1/\r.1<=nrem/\Wy lt r.2 r.1
def zni (S:VR lt){p:Array Nat}{n nrem:Nat}(h1:1<=n)(hn:n<=nrem)(hz:nrem<=p.size)(h:W2 lt p n):zhk lt p nrem (ZG lt (kas_tail3 n nrem p)):=by
 have e:ZG lt (kas_tail3 n nrem p)=(ZG lt (kas_asc (kas_rev p 0 n) (nrem-n) n),kas_rev p 0 n):=by
  unfold kas_tail3;rw[zc3];rfl
 rw[e]
 obtain⟨a1,a2,a3,_⟩:=zlL S (kas_rev p 0 n) (nrem-n) n h1 (h.rev (by lia))
 exact⟨Pz,T5,by show 1<=ZG lt _;lia,by show ZG lt _<=nrem;lia,a1⟩
def zhI (S:VR lt){p:Array Nat}{n nrem:Nat}(h1:1<=n)(hn:n+1<=nrem)(hz:nrem<=p.size)(h:W2 lt p (n+1)):zhk lt p nrem (ZG lt (kas_descPart n nrem p)):=by
 unfold kas_descPart
 rw[zc3]
 have d:=zhb S (nrem-(n+1)) p (n+1) 0 (by lia) (by lia) (by lia) h (fun i j a b c d=>by
  have e1:i=n:=by lia
  have e2:j=n:=by lia
  subst e1;subst e2
  exact Tn S _)
 dsimp only at d
 generalize ZG lt (kas_desc (nrem-(n+1)) p (n+1) 0)=r at d ⊢
 obtain⟨a1,a2,a3,a4,a5,a6,a7⟩:=d
 by_cases hq:r.2.2 > 0
 ·rw[if_pos hq]
  obtain⟨b1,b2,b3,b4,b5⟩:=zni S (p:=kas_rev r.1 (r.2.1-(r.2.2+1)) r.2.1) (n:=r.2.1) (nrem:=nrem) (by lia) (by lia) (by rw[Pz];lia) (a6.turn S (by lia) (by lia) a7)
  exact⟨b1.trans (Pz.trans a1),b2.trans (T5.trans a2),b3,b4,b5⟩
 ·rw[if_neg hq]
  obtain⟨b1,b2,b3,b4,b5⟩:=zni S (p:=r.1) (n:=r.2.1) (nrem:=nrem) (by lia) (by lia) (by lia) a6
  exact⟨b1.trans a1,b2.trans a2,b3,b4,b5⟩
def zqV (S:VR lt){p:Array Nat}{nrem:Nat}(h1:1<=nrem)(hz:nrem<=p.size):zhk lt p nrem (ZG lt (kas_count nrem p)):=by
 unfold kas_count
 rw[zc3]
 have h0:Wy lt p 1:=fun i j a b=>by
  have e1:i=0:=by lia
  have e2:j=0:=by lia
  subst e1;subst e2
  exact Tn S _
 obtain⟨a1,a2,a3,a4⟩:=zlL S p (nrem-1) 1 (qf _) h0
 generalize ZG lt (kas_asc p (nrem-1) 1)=n at a1 a2 a3 a4 ⊢
 by_cases hn:(n==nrem)=true
 ·rw[if_pos hn]
  have:n=nrem:=by simpa using hn
  exact⟨rfl,qbg _,a2,by show n<=nrem;lia,a1⟩
 ·rw[if_neg hn]
  have hne:n≠nrem:=by simpa using hn
  have hlt:=a4 (by lia)
  by_cases hn1:n > 1
  ·rw[if_pos hn1]
   show zhk lt p nrem (ZG lt (if lt (ga p 0) (ga p (n-1))=true then KasT.ret (n,p)else kas_descPart n nrem (kas_rev p 0 n)))
   cases hc:lt (ga p 0) (ga p (n-1))with
   |true=>rw[if_pos rfl];exact⟨rfl,qbg _,a2,by show n<=nrem;lia,a1⟩
   |false =>
    rw[if_neg qp]
    have hd:=a1.rev (n:=n) (by lia)
    have hs:=W2.snoc S (p:=kas_rev p 0 n) a2 hd (by
     have k1:ga (kas_rev p 0 n) n=ga p n:=by rw[Uy (by lia),if_neg (by lia)]
     have k2:ga (kas_rev p 0 n) (n-1)=ga p 0:=by rw[Uy (by lia),if_pos ⟨by lia,by lia⟩];congr 1;lia
     rw[k1,k2]
     exact S.ntrans (ga p n) (ga p (n-1)) (ga p 0) (S.asymm _ _ hlt) hc)
    obtain⟨b1,b2,b3,b4,b5⟩:=zhI S (p:=kas_rev p 0 n) (n:=n) (nrem:=nrem) a2 (by lia) (by rw[Pz];lia) hs
    exact⟨b1.trans Pz,b2.trans T5,b3,b4,b5⟩
  ·rw[if_neg hn1]
   have e:n=1:=by lia
   subst e
   exact zhI S (qf _) (by lia) hz (W2.snoc S (qf _) (fun i j a b=>by
    have e1:i=0:=by lia
    have e2:j=0:=by lia
    subst e1;subst e2
    exact Tn S _) (S.asymm _ _ hlt))
theorem zik (S:VR lt){p:Array Nat}{k:Nat}(h:Wy lt p k):∀ f l r,l<=r->r<=k->r-l<=f->(∀ i,i<l->lt (ga p k) (ga p i)=false)->(∀ i,r<=i->i<k->lt (ga p k) (ga p i)=true) ->
  let m:=ZG lt (kas_place p k f l r)
  m<=k/\(∀ i,i<m->lt (ga p k) (ga p i)=false)/\(∀ i,m<=i->i<k->lt (ga p k) (ga p i)=true)
 |0,l,r,h1,h2,h3,hl,hr=>by
  have:l=r:=by lia
  subst this
  exact⟨h2,hl,hr⟩
 |f+1,l,r,h1,h2,h3,hl,hr=>by
  by_cases hlr:l ≥ r
  ·have e:ZG lt (kas_place p k (f+1) l r)=l:=by
    unfold kas_place;rw[if_pos hlr];rfl
   rw[e]
   have:l=r:=by lia
   subst this
   exact⟨h2,hl,hr⟩
  ·have e:ZG lt (kas_place p k (f+1) l r)=ZG lt (if lt (ga p k) (ga p ((l+r)/2))=true then kas_place p k f l ((l+r)/2)else kas_place p k f ((l+r)/2+1) r):=by
    conv=>lhs;unfold kas_place
    rw[if_neg hlr];rfl
   rw[e]
   cases hc:lt (ga p k) (ga p ((l+r)/2))with
   |true =>
    rw[if_pos rfl]
    refine zik S h f l ((l+r)/2) (by lia) (by lia) (by lia) hl fun i hi hik=>?_
    cases hx:lt (ga p k) (ga p i)with
    |true=>rfl
    |false =>
     have:=S.ntrans (ga p ((l+r)/2)) (ga p i) (ga p k) (h _ _ hi hik) hx
     rw[hc]at this;exact this.symm
   |false =>
    rw[if_neg qp]
    refine zik S h f ((l+r)/2+1) r (by lia) h2 (by lia) (fun i hi=>?_) hr
    exact S.ntrans (ga p i) (ga p ((l+r)/2)) (ga p k) (h _ _ (by lia) (by lia)) hc
theorem zpq (S:VR lt):∀ f (p:Array Nat) k,k+f<=p.size->Wy lt p k->let r:=ZG lt (kas_bin f p k);r.size=p.size/\r.Perm p/\Wy lt r (k+f)
 |0,p,k,_,h=>⟨rfl,qbg _,h⟩
 |f+1,p,k,hz,h=>by
  have e:ZG lt (kas_bin (f+1) p k)=ZG lt (kas_bin f (bubble p k (k-ZG lt (kas_place p k k 0 k))) (k+1)):=by
   show ZG lt ((kas_place p k k 0 k).bind fun l=>kas_bin f (bubble p k (k-l)) (k+1))=_
   rw[zc3]
  rw[e]
  obtain⟨m1,m2,m3⟩:=zik S h k 0 k (qP _) (qf _) (by lia) (fun i hi=>absurd hi (by lia)) (fun i hi hik=>absurd hi (by lia))
  generalize ZG lt (kas_place p k k 0 k)=m at m1 m2 m3 ⊢
  have hb:∀ i,ga (bubble p k (k-m)) i=if i=m then ga p k else if m<i/\i<=k then ga p (i-1)else ga p i:=fun i=>by
   rw[zpD (by lia) (by lia),show k-(k-m)=m by lia]
  have hs:Wy lt (bubble p k (k-m)) (k+1):=by
   intro i j hij hj
   rw[hb,hb]
   by_cases hi:i=m
   ·rw[if_pos hi]
    by_cases hjm:j=m
    ·rw[if_pos hjm];exact Tn S _
    ·rw[if_neg hjm,if_pos ⟨by lia,by lia⟩]
     exact S.asymm _ _ (m3 (j-1) (by lia) (by lia))
   ·rw[if_neg hi]
    by_cases hjm:j=m
    ·rw[if_pos hjm,if_neg (by lia)]
     exact m2 i (by lia)
    ·rw[if_neg hjm]
     by_cases hi2:m<i
     ·rw[if_pos (show m<i/\i<=k from ⟨hi2,by lia⟩),if_pos (show m<j/\j<=k from ⟨by lia,by lia⟩)]
      exact h _ _ (by lia) (by lia)
     ·rw[if_neg (show ¬ (m<i/\i<=k) by lia)]
      by_cases hj2:m<j
      ·rw[if_pos (show m<j/\j<=k from ⟨hj2,by lia⟩)]
       exact h _ _ (by lia) (by lia)
      ·rw[if_neg (show ¬ (m<j/\j<=k) by lia)]
       exact h _ _ hij (by lia)
  obtain⟨a1,a2,a3⟩:=zpq S f (bubble p k (k-m)) (k+1) (by rw[bubble_size];lia) hs
  exact⟨a1.trans (bubble_size _ _ _),a2.trans (bubble_perm _ _ _),by rw[show k+(f+1)=k+1+f by lia];exact a3⟩
def zuc (S:VR lt){n:Nat}(h1:1<=n):(ZG lt (kas_sort n)).size=n/\(ZG lt (kas_sort n)).Perm (List.toArray (List.range n))/\Wy lt (ZG lt (kas_sort n)) n:=by
 unfold kas_sort
 rw[zc3]
 obtain⟨a1,a2,a3,a4,a5⟩:=zqV S (p:=List.toArray (List.range n)) (nrem:=n) h1 (by simp)
 generalize ZG lt (kas_count n (List.toArray (List.range n)))=r at a1 a2 a3 a4 a5 ⊢
 have hsz:(List.toArray (List.range n)).size=n:=by simp
 by_cases hr:r.1<n
 ·rw[if_pos hr]
  have em:max r.1 1=r.1:=by lia
  rw[em]
  obtain⟨b1,b2,b3⟩:=zpq S (n-r.1) r.2 r.1 (by lia) a5
  exact⟨b1.trans (a1.trans hsz),b2.trans a2,by rw[show r.1+(n-r.1)=n by lia]at b3;exact b3⟩
 ·rw[if_neg hr]
  have e:r.1=n:=by lia
  rw[e]at a5
  exact⟨a1.trans hsz,a2,a5⟩
def X8 {α:Type}(n:Nat)(post:α->Prop):KasT α->Prop
 |.ret a=>post a
 |.ask i j k=>i<n/\j<n/\∀ b,X8 n post (k b)
theorem X8.bind {α β:Type}{n:Nat}{post:α->Prop}{post':β->Prop}{f:α->KasT β}(hf:∀ a,post a->X8 n post' (f a)):∀ (t:KasT α),X8 n post t->X8 n post' (t.bind f)
 |.ret a,h=>hf a h
 |.ask i j k,h=>⟨h.1,h.2.1,fun b=>X8.bind hf (k b) (h.2.2 b)⟩
def Ent (n:Nat)(p:Array Nat):Prop:=∀ x∈p.toList,x<n
theorem Ent.at {n:Nat}{p:Array Nat}(h0:0<n)(h:Ent n p)(i:Nat):ga p i<n:=by
 rw[R9]
 cases e:p[i]? with
 |none=>exact h0
 |some x =>
  rw[<- Qy]at e
  exact h x (qe e)
def Ent.perm {n:Nat}{p r:Array Nat}(hp:r.Perm p)(h:Ent n p):Ent n r:=fun x hx=>h x ((Array.perm_iff_toList_perm.mp hp).mem_iff.mp hx)
theorem zk9 {n:Nat}{p:Array Nat}(h0:0<n)(h:Ent n p):∀ f k,X8 n (fun _=>True) (kas_asc p f k)
 |0,_=>trivial
 |f+1,k=>⟨h.at h0 _,h.at h0 _,fun b=>by
  cases b with
  |true=>exact trivial
  |false=>exact zk9 h0 h f (k+1)⟩
theorem zhe {n:Nat}(h0:0<n):∀ f (p:Array Nat) k q,Ent n p->X8 n (fun r=>Ent n r.1) (kas_desc f p k q)
 |0,p,k,q,h=>h
 |f+1,p,k,q,h=>⟨h.at h0 _,h.at h0 _,fun b=>by
  cases b with
  |true =>
   show X8 n _ (if q > 0 then _ else _)
   by_cases hq:q > 0
   ·rw[if_pos hq];exact zhe h0 f _ _ _ (h.perm T5)
   ·rw[if_neg hq];exact zhe h0 f _ _ _ h
  |false=>exact⟨h.at h0 _,h.at h0 _,fun d=>by
    cases d with
    |true=>exact h
    |false=>exact zhe h0 f _ _ _ h⟩⟩
def zno {n k m:Nat}{p:Array Nat}(h0:0<n)(h:Ent n p):X8 n (fun r=>Ent n r.2) (kas_tail3 k m p):=by
 refine X8.bind (post:=fun _=>True) (fun r _=>?_) _ (zk9 h0 (h.perm T5) _ _)
 exact h.perm T5
def zh3 {n k m:Nat}{p:Array Nat}(h0:0<n)(h:Ent n p):X8 n (fun r=>Ent n r.2) (kas_descPart k m p):=by
 refine X8.bind (post:=fun r=>Ent n r.1) (fun r hr=>?_) _ (zhe h0 _ _ _ _ h)
 by_cases hq:r.2.2 > 0
 ·rw[if_pos hq];exact zno h0 (hr.perm T5)
 ·rw[if_neg hq];exact zno h0 hr
def zqC {n m:Nat}{p:Array Nat}(h0:0<n)(h:Ent n p):X8 n (fun r=>Ent n r.2) (kas_count m p):=by
 refine X8.bind (post:=fun _=>True) (fun k _=>?_) _ (zk9 h0 h _ _)
 by_cases hk:(k==m)=true
 ·rw[if_pos hk];exact h
 ·rw[if_neg hk]
  by_cases h1:k > 1
  ·rw[if_pos h1]
   refine⟨h.at h0 _,h.at h0 _,fun c=>?_⟩
   cases c with
   |true=>exact h
   |false=>exact zh3 h0 (h.perm T5)
  ·rw[if_neg h1];exact zh3 h0 h
theorem zh9 {n:Nat}{p:Array Nat}{k:Nat}(h0:0<n)(h:Ent n p):∀ f l r,X8 n (fun _=>True) (kas_place p k f l r)
 |0,_,_=>trivial
 |f+1,l,r=>by
  unfold kas_place
  by_cases hl:l ≥ r
  ·rw[if_pos hl];exact trivial
  ·rw[if_neg hl]
   refine⟨h.at h0 _,h.at h0 _,fun c=>?_⟩
   cases c with
   |true=>exact zh9 h0 h f _ _
   |false=>exact zh9 h0 h f _ _
theorem zpM {n:Nat}(h0:0<n):∀ f (p:Array Nat) k,Ent n p->X8 n (fun r=>Ent n r) (kas_bin f p k)
 |0,p,k,h=>h
 |f+1,p,k,h=>X8.bind (post:=fun _=>True) (fun l _=>zpM h0 f _ _ (h.perm (bubble_perm _ _ _))) _ (zh9 h0 h _ _ _)
def zsY {n:Nat}(h0:0<n):X8 n (fun _=>True) (kas_sort n):=by
 refine X8.bind (post:=fun r=>Ent n r.2) (fun r hr=>?_) _ (zqC h0 (p:=List.toArray (List.range n)) (fun x hx=>by simpa using hx))
 by_cases h:r.1<n
 ·rw[if_pos h]
  have hb:=zpM h0 (n-max r.1 1) r.2 (max r.1 1) hr
  clear h
  generalize kas_bin (n-max r.1 1) r.2 (max r.1 1)=t at hb
  induction t with
  |ret a=>exact trivial
  |ask i j k ih=>exact⟨hb.1,hb.2.1,fun b=>ih b (hb.2.2 b)⟩
 ·rw[if_neg h];exact trivial
end
open PySem PySem.Spec PySem.W PyProof.Rows L2
def Xk (a b:Int×Int):Bool:=if a.1=b.1 then decide (a.2<b.2)else decide (a.1<b.1)
def zmF (cs:List (Int×Int)):VR fun i j=>Xk (cs.getD i (0,0)) (cs.getD j (0,0)) where
  asymm:=fun a b h=>by
    unfold Xk at h ⊢
    generalize cs.getD a (0,0)=A at *
    generalize cs.getD b (0,0)=B at *
    split at h<;>split<;>simp at h ⊢<;>lia
  ntrans:=fun a b c h1 h2=>by
    unfold Xk at h1 h2 ⊢
    generalize cs.getD a (0,0)=A at *
    generalize cs.getD b (0,0)=B at *
    generalize cs.getD c (0,0)=C at *
    split at h1<;>split at h2<;>split<;>simp at h1 h2 ⊢<;>lia
def Ra (h:Heap)(v:Value)(c:Int×Int):Prop:=∃ (a:Addr) (o:Obj) (n:Nat) (t u:Tok),v=.ref a/\h.get? a=some o/\o.cls=.type "tuple"/\o.data=.seq #[.int c.1 t,.int c.2 u] n
theorem kwp {α:Type}{cmp:Nat->Nat->(Bool->Shared->Prop)->Shared->Prop}{lt:Nat->Nat->Bool}{n:Nat}{s:Shared}(hc:∀ i j C,i<n->j<n->C (lt i j) s->cmp i j C s){post:α->Prop}(Q:α->Shared->Prop) :
  ∀ t:KasT α,X8 n post t->Q (ZG lt t) s->t.kasWp cmp Q s
 |.ret _,_,q=>q
 |.ask i j k,h,q=>hc i j _ h.1 h.2.1 (kwp hc Q (k (lt i j)) (h.2.2 _) q)
section
variable {prog:Program}{w:World}{A:Around}{E:Value->Shared->Prop}{s:Shared}
def zrZ {v v':Value}{c d:Int×Int}{Q:Bool->Shared->Prop}(h1:Ra s.heap v c)(h2:Ra s.heap v' d)(q:Q (Xk c d) s):wpAny (model prog w) A (keyLt' (tuples' true) v v') Q E s:=by
 obtain⟨a,o,n,t,u,rfl,ho,_,hd⟩:=h1
 obtain⟨a',o',n',t',u',rfl,ho',_,hd'⟩:=h2
 refine kat_lt ho hd ho' hd' ?_
 show KatLex prog w A true _ Q [(.int c.1 t,.int d.1 t'),(.int c.2 u,.int d.2 u')] 0 s
 refine kat_cons (wpAny_eqBool_int ?_)
 by_cases e:c.1=d.1
 ·rw[show(c.1==d.1)=true by simpa using e]
  refine kat_yes (kat_cons (wpAny_eqBool_int ?_))
  by_cases e2:c.2=d.2
  ·rw[show(c.2==d.2)=true by simpa using e2]
   refine kat_yes (kat_nil ?_)
   have:Xk c d=false:=by unfold Xk;rw[if_pos e,e2];simp
   rw[this]at q
   exact q
  ·rw[show(c.2==d.2)=false by simpa using e2]
   refine kat_no ?_
   show wpAny (model prog w) A (oneLt' false _ _) Q _ s
   refine kat_one _ _ (lt_int ?_)
   have:Xk c d=decide (c.2<d.2):=by unfold Xk;rw[if_pos e]
   rw[this]at q
   exact q
 ·rw[show(c.1==d.1)=false by simpa using e]
  refine kat_no ?_
  show wpAny (model prog w) A (oneLt' true _ _) Q _ s
  refine oneLt_int ?_
  have:Xk c d=decide (c.1<d.1):=by unfold Xk;rw[if_neg e]
  rw[this]at q
  exact q
theorem zlp {h:Heap}:∀ {vs:List Value} {cs:List (Int×Int)},Paired (Ra h) vs cs->∃ fs:List Value,KatTups h vs fs/\fs.length=vs.length/\∀ f∈fs,∃ i t,f=.int i t
 |_,_,.nil=>⟨[],trivial,rfl,fun f hf=>absurd hf (by simp)⟩
 |_,_,.cons (a:=v) (b:=c) r t=>by
  obtain⟨fs,k,hl,hf⟩:=zlp t
  obtain⟨a,o,n,tk,u,rfl,ho,hc,hd⟩:=r
  refine⟨.int c.1 tk::fs,KatTups.cons ho hc hd rfl k,by simp[hl],fun f hm=>?_⟩
  rcases qg.mp hm with rfl|hm
  ·exact⟨_,_,rfl⟩
  ·exact hf f hm
theorem ze4 {α β:Type}{F:α->β->Prop}{da:α}{db:β}:∀ {l:List α} {m:List β},Paired F l m->∀ i,i<l.length->F (l.getD i da) (m.getD i db)
 |_,_,.nil,i,h=>absurd h (by simp)
 |_,_,.cons r _,0,_=>r
 |_::_,_::_,.cons _ t,i+1,h=>ze4 (da:=da) (db:=db) t i (by simpa using h)
def ziH {a:Addr}{vs:List Value}{cs:List (Int×Int)}{n:Nat}{P:PySem.Fin->Shared->Prop}(ho:s.heap.get? a=some (seqObj "list" vs.toArray n))(hv:Paired (Ra s.heap) vs cs)(h64:vs.length<64)
  (h:∀ p:List Nat,p.Perm (List.range vs.length)->(∀ i j,i<=j->j<vs.length->Xk (cs.getD (p.getD j 0) (0,0)) (cs.getD (p.getD i 0) (0,0))=false) ->
   P (.done (.ret .none)) { s with heap:=sortedHeap s.heap a vs (p.map fun i=>vs.getD i Value.none).toArray }) :
  wpAny (model prog w) A (Builtin.«list.sort» ⟨[.ref a],[]⟩) P E s:=by
 rw[list_sort_plain]
 have ha:a<s.heap.objs.size:=qq ho
 refine wpAny_bind (listItems_at ho rfl ?_)
 refine wpAny_bind (listUpdate_at ho rfl ?_)
 obtain⟨e1,ho1⟩:∃ e1,(s.heap.update a (Obj.mapSeq fun _=>#[])).get? a=some (seqObj "list" #[] e1):=⟨_,get?_update_seq ho (fun _=>#[])⟩
 refine wpAny_bind (seqEpoch_at ho1 rfl ?_)
 refine wpAny_bind (wpAny_newTuple ?_)
 refine wpAny_bind (wpAny_newList ?_)
 refine wpAny_holding ?_
 have ho6:(((s.heap.update a (Obj.mapSeq fun _=>#[])).push (seqObj "tuple" vs.toArray 0)).push (seqObj "list" #[] 0)).get? a=some (seqObj "list" #[] e1):=by
  rw[Pa _ _ _ (by rw[size_push',qbk];exact qK (qa6 ha)),Pa _ _ _ (by rw[qbk];exact qK ha)]
  exact ho1
 have keep:∀ b u,b≠a->s.heap.get? b=some u->(((s.heap.update a (Obj.mapSeq fun _=>#[])).push (seqObj "tuple" vs.toArray 0)).push (seqObj "list" #[] 0)).get? b=some u:=fun b u hb hu=>by
  have hlt:b<s.heap.objs.size:=qq hu
  rw[Pa _ _ _ (by rw[size_push',qbk];exact qK (qa6 hlt)),Pa _ _ _ (by rw[qbk];exact qK hlt),Heap.get?_update_ne _ _ _ _ hb]
  exact hu
 have hv6:Paired (Ra (((s.heap.update a (Obj.mapSeq fun _=>#[])).push (seqObj "tuple" vs.toArray 0)).push (seqObj "list" #[] 0))) vs cs:=Paired.imp' (fun v c hp=>by
  obtain⟨b,o,m,t,u,rfl,hb,hc,hd⟩:=hp
  refine⟨b,o,m,t,u,rfl,keep b o (fun e=>?_) hb,hc,hd⟩
  subst e
  rw[ho]at hb
  cases hb
  injection hc with hc
  exact absurd hc (by decide)) hv
 show wpAny (model prog w) A _ P E { s with heap:=((s.heap.update a (Obj.mapSeq fun _=>#[])).push (seqObj "tuple" vs.toArray 0)).push (seqObj "list" #[] 0) }
 have hh:sortedHeap s.heap a vs=fun out=>(((s.heap.update a (Obj.mapSeq fun _=>#[])).push (seqObj "tuple" vs.toArray 0)).push (seqObj "list" #[] 0)).update a (Obj.mapSeq fun _=>out):=rfl
 rw[hh]at h
 generalize ((s.heap.update a (Obj.mapSeq fun _=>#[])).push (seqObj "tuple" vs.toArray 0)).push (seqObj "list" #[] 0)=h6 at *
 dsimp only
 have hsz:vs.toArray.size=vs.length:=by simp
 by_cases h2:vs.toArray.size<2
 ·rw[if_pos h2,if_pos h2]
  refine wpAny_bind (wpAny_pure ?_)
  rw[StateT.run_pure]
  refine wpAny_bind (wpAny_pure ?_)
  dsimp only
  refine wpAny_bind (seqEpoch_at ho6 rfl ?_)
  refine wpAny_bind (listUpdate_at ho6 rfl ?_ (hsz2:=by rw[Array.size_map];show(pairsOf vs).size<=_;rw[pairsOf_size,sizeLine_eq];lia))
  simp only[bne_self_eq_false,qaY,if_false]
  have q:=h (List.range vs.length) (List.Perm.refl _) (fun i j hij hj=>by
   have e1:i=0:=by lia
   have e2:j=0:=by lia
   subst e1;subst e2
   exact Tn (zmF cs) _)
  have eo:(List.map (fun i=>vs.getD i Value.none) (List.range vs.length)).toArray=Array.map (·.2) (vs.toArray.zip vs.toArray):=by
   have hz:vs.length<2:=by lia
   clear q h hv6 hh hv ho h64 hsz h2
   match vs,hz with
   |[],_=>simp
   |[x],_=>simp[qbA]
  rw[eo]at q
  exact wpAny_pure q
 ·rw[if_neg h2,if_neg h2]
  have hn2:2<=vs.length:=by lia
  obtain⟨fs,kt,hfl,hfi⟩:=zlp hv6
  refine wpAny_bind (kat_kind (s:={ s with heap:=h6 }) (T:=.type "int") kt (by lia) (fun v hm=>?_) (by rfl) ?_)
  ·obtain⟨i,t,rfl⟩:=hfi v hm
   exact Looks.of_pure rfl
  have cmp:∀ (i j:Nat) (C:Bool->Shared->Prop),i<vs.length->j<vs.length->C (Xk (cs.getD i (0,0)) (cs.getD j (0,0))) { s with heap:=h6 }->kas_ask prog w A (tuples' (Value.type "int" != Value.type "tuple")) vs i j C { s with heap:=h6 }:=fun i j C hi hj hC =>
   zrZ (s:={ s with heap:=h6 }) (ze4 hv6 i hi) (ze4 hv6 j hj) hC
  refine wpAny_bind (wpAny_mono (kat_run (ks:=vs) (vs:=vs) (Q:=fun st' s'=>∃ p:Array Nat,p=ZG (fun i j=>Xk (cs.getD i (0,0)) (cs.getD j (0,0))) (kas_sort vs.length)/\s'={ s with heap:=h6 }/\arrOf st'=p.map (kas_item (vs.toArray.zip vs.toArray))/\failedOf st'=none)
   (G:=fun p s'=>p=ZG (fun i j=>Xk (cs.getD i (0,0)) (cs.getD j (0,0))) (kas_sort vs.length)/\s'={ s with heap:=h6 }) rfl hn2 h64 (fun p' st' s' a1 a2 a3 a4=>⟨p',a4.1,a4.2,a2,a3⟩) (kwp cmp _ _ (zsY (by lia)) ⟨rfl,rfl⟩)) ?_ fun _ _ e=>e)
  rintro⟨⟨⟩,st'⟩ s' ⟨p,hp,rfl,har,hf⟩
  dsimp only
  obtain⟨z1,z2,z3⟩:=zuc (zmF cs) (n:=vs.length) (by lia)
  rw[<- hp]at z1 z2 z3
  have hout:=kat_snds (vs:=vs) (ks:=vs) rfl har
  have hsz2:(List.toArray (p.toList.map fun i=>vs.getD i Value.none)).size=vs.length:=by rw[qm,qb,qN,z1]
  rw[hout]
  refine wpAny_bind (seqEpoch_at ho6 rfl ?_)
  refine wpAny_bind (listUpdate_at ho6 rfl ?_ (hsz2:=by rw[hsz2,sizeLine_eq];lia))
  rw[hf]
  simp only[bne_self_eq_false,qaY,if_false]
  refine wpAny_pure (h p.toList ?_ fun i j hij hj=>?_)
  ·have:=Array.perm_iff_toList_perm.mp z2
   simpa using this
  ·have e:∀ k,p.toList.getD k 0=ga p k:=fun k=>by rw[R9,qC,Qy]
   rw[e,e]
   exact z3 i j hij hj
def zkZ {l:Addr}{vs:List Value}{cs:List (Int×Int)}{Q:Value->Shared->Prop}(hl:s.heap.IsList l vs.toArray)(hv:Paired (Ra s.heap) vs cs)(h64:vs.length<64)
    (h:∀ p:List Nat,p.Perm (List.range vs.length)->(∀ i j,i<=j->j<vs.length->Xk (cs.getD (p.getD j 0) (0,0)) (cs.getD (p.getD i 0) (0,0))=false) ->
      Q (.ref (s.heap.objs.size+1)) { s with heap:=sortedAll s.heap vs (p.map fun i=>vs.getD i Value.none).toArray }) :
    wpAny (model prog w) A (call (.builtin "sorted") [.ref l]) Q E s:=by
  refine Calls.call_function_entry kind_sorted plain_sorted entry_sorted (args_sorted1 _) ?_
  unfold Builtin.«sorted»
  refine wpAny_bind (m:=checkCount "sorted" 1 1 _) (wpAny_pure ?_)
  refine wpAny_bind (collect_list hl ?_)
  refine wpAny_bind (wpAny_newList ?_)
  have hsz:((s.heap.push (seqObj "list" #[] 0)).update s.heap.objs.size (Obj.mapSeq (·++vs.toArray))).objs.size=s.heap.objs.size+1:=by
    rw[qbk,size_push']
  have hoL:(((s.heap.push (seqObj "list" #[] 0)).update s.heap.objs.size (Obj.mapSeq (·++vs.toArray))).push (seqObj "list" vs.toArray 0)).get? (s.heap.objs.size+1)=some (seqObj "list" vs.toArray 0):=by
    rw[<- hsz];exact Heap.get?_push_size _ rfl
  have keep:∀ b o,s.heap.get? b=some o->(((s.heap.push (seqObj "list" #[] 0)).update s.heap.objs.size (Obj.mapSeq (·++vs.toArray))).push (seqObj "list" vs.toArray 0)).get? b=some o:=fun b o q=>by
    have hlt:b<s.heap.objs.size:=qq q
    rw[Pa _ _ _ (by rw[hsz];exact qK (qa6 hlt)),Heap.get?_update_ne _ _ _ _ (qK hlt),Pa _ _ _ (qK hlt)]
    exact q
  show wpAny _ _ _ _ _ { s with heap:=((s.heap.push (seqObj "list" #[] 0)).update s.heap.objs.size (Obj.mapSeq (·++vs.toArray))).push (seqObj "list" vs.toArray 0) }
  rw[hsz]
  refine wpAny_bind (wpAny_holding (wpAny_call_entry slot_list_sort ⟨_,hoL,rfl⟩ entry_list_sort (ziH (s:={ s with heap:=((s.heap.push (seqObj "list" #[] 0)).update s.heap.objs.size (Obj.mapSeq (·++vs.toArray))).push (seqObj "list" vs.toArray 0) }) hoL (Paired.imp' (fun v c hp=>by
    obtain⟨b,o,m,t,u,e,hb,hc,hd⟩:=hp
    exact⟨b,o,m,t,u,e,keep b o hb,hc,hd⟩) hv) h64 fun p a1 a2=>⟨_,rfl,?_⟩) (args_list_sort _)))
  exact wpAny_pure ⟨_,rfl,h p a1 a2⟩
end
def zvE (K:PySem.W.Frag):List V->Hp->VK->Prop:=fun xs H Q=>∃ (p:Addr) (ps:List Addr) (cs:List (Int×Int)),xs=[.ref p]/\Zr K H p (ps.map V.ref)/\RJ H ps cs/\cs.length<64 /\
 ∀ (l:Addr) (ps':List Addr) (cs':List (Int×Int)),H l=none->RJ H ps' cs'->cs'.Perm cs->cs'.Pairwise (fun a b=>Xk b a=false)->Q (.ref l) (upd H l (.lst (ps'.map V.ref)))
theorem zkv:∀ {ps:List Addr} {its:List Value},Vals (ps.map V.ref) its->its=ps.map Value.ref
 |[],_,h=>by cases h;rfl
 |p::ps,_,h=>by
  cases h with
  |cons r t =>
   have:=zkv t
   cases r
   rw[this];rfl
theorem zki:∀ ps:List Addr,Vals (ps.map V.ref) (ps.map Value.ref)
 |[]=>.nil
 |_::ps=>.cons rfl (zki ps)
def zjw {α:Type}(l:List α)(d:α){p:List Nat}(h:p.Perm (List.range l.length)):(p.map fun i=>l.getD i d).Perm l:=by
 have:=h.map fun i=>l.getD i d
 refine this.trans ?_
 have e:(List.range l.length).map (fun i=>l.getD i d)=l:=by
  apply List.ext_getElem
  ·simp
  ·intro i h1 h2
   simp[qC,qc h2]
 rw[e]
def zmb {X:Cx}{K:PySem.W.Frag}(hK:X.K=K):YJ X (.builtin "sorted") (zvE K):=fun Z9 s Z H xs us Q I r h=>by
 subst hK
 obtain⟨p,ps,cs,rfl,hS,hP,h64,q⟩:=h
 obtain⟨u,rfl,ru⟩:=vals1 r
 cases ru
 obtain⟨its,rv,pl,hz⟩:=I.list hS
 have ei:=zkv rv
 subst ei
 have hlen:=hP.length
 have prv:∀ {ps:List Addr} {cs:List (Int×Int)},RJ H ps cs->Paired (Ra s.heap) (ps.map Value.ref) cs:=by
  intro ps cs hP
  induction hP with
  |nil=>exact .nil
  |cons r t ih =>
   refine .cons ?_ ih
   obtain⟨its2,r2,pl2,_⟩:=I.tuple (ZK.of r)
   obtain⟨o,ho,hc,n,hd⟩:=pl2
   cases r2 with|cons x1 r2=>cases r2 with|cons x2 r2 =>
   cases r2
   obtain⟨t1,rfl⟩:=x1
   obtain⟨t2,rfl⟩:=x2
   exact⟨_,o,n,t1,t2,rfl,ho,hc,hd⟩
 refine zkZ pl.isList (prv hP) (by rw[qb];lia) fun pm hpm hso=>?_
 rw[qb]at hpm hso
 have eo:(pm.map fun i=>(ps.map Value.ref).getD i Value.none)=(pm.map fun i=>ps.getD i 0).map Value.ref:=by
  rw[qT]
  apply List.map_congr_left
  intro i hi
  have hi':i<ps.length:=by simpa using hpm.mem_iff.mp hi
  simp[qC,qc hi']
 rw[eo]
 have hPl:(pm.map fun i=>ps.getD i 0).length=ps.length:=by rw[qb,hpm.length_eq,Tv]
 obtain⟨e,he⟩:=sortedAll_at s.heap (ps.map Value.ref) ((pm.map fun i=>ps.getD i 0).map Value.ref).toArray
 have hPr:RJ H (pm.map fun i=>ps.getD i 0) (pm.map fun i=>cs.getD i (0,0)):=by
  have hb:∀ i∈pm,i<ps.length:=fun i hi=>by simpa using hpm.mem_iff.mp hi
  clear eo hPl he hpm hso
  induction pm with
  |nil=>exact .nil
  |cons i pm ih=>exact .cons (ze4 hP i (hb i (by simp))) (ih fun j hj=>hb j (by simp[hj]))
 refine⟨.ref (s.heap.objs.size+1),_,I.laid (t':=s.toks) (a:=s.heap.objs.size+1) (o:=.lst ((pm.map fun i=>ps.getD i 0).map V.ref)) (fun b o q=>sortedAll_old q) (RZ _) ⟨by rw[qb,hPl];have:=hz;rw[qb]at this;exact this,_,e,zki _,he⟩,rfl,q _ _ _ (I.hok.fresh (RZ _)) hPr ?_ ?_⟩
 ·rw[hlen]at hpm
  exact zjw cs (0,0) hpm
 ·rw[List.pairwise_map,Px]
  intro i j hi hj hij
  have:=hso i j (Pq hij) (by rw[<- Tv (n:=ps.length),<- hpm.length_eq];exact hj)
  simpa [qC,qc hi,qc hj]using this
section
variable {K:PySem.W.Frag}{H:Hp}
end
def zvG (K:PySem.W.Frag):R2:=fun x y H Q=>∃ a b xs ys,x=.ref a/\y=.ref b/\ZK K H a xs/\ZK K H b ys/\xs.length+ys.length<=sizeLine/\(xs=[]->Q (.ref b) H)/\(xs≠[]->ys=[]->Q (.ref a) H)/\(xs≠[]->ys≠[]->∀ p,H p=none->Q (.ref p) (upd H p (.tup (xs++ys))))
def zrQ {X:Cx}{K:PySem.W.Frag}(hK:X.K=K):Zm X (binaryOp .Add) (zvG K):=by
 subst hK
 intro Z9 s Z H x y v u Q I rx ry h
 obtain⟨a,b,xs,ys,rfl,rfl,ha,hb,hz,q0,q1,q2⟩:=h
 by_cases hx:xs=[]
 ·subst hx
  cases rx
  cases ry
  obtain⟨its,r1,p1,_⟩:=I.tuple ha
  obtain⟨its2,r2,p2,_⟩:=I.tuple hb
  cases r1
  obtain⟨⟨cls,dd,data,sl⟩,ho,hc,n,hd⟩:=id p1
  obtain⟨⟨cls2,dd2,data2,sl2⟩,ho2,hc2,n2,hd2⟩:=id p2
  simp only at hc hd hc2 hd2
  subst hc hd hc2 hd2
  exact concat_meets ⟨_,ho,rfl⟩ ⟨_,ho2,rfl⟩ noFill_tuple_add seq_tuple_add PySem.F.slot_tuple_add PySem.F.entry_tuple_add (PySem.F.args_tuple_add_2 _ _)
   (tuple_addW0 a b _ its2.toArray n n2 dd dd2 sl sl2 (by simp)) ⟨ho,ho2,⟨.ref b,H,I,rfl,q0 rfl⟩⟩
 ·exact zsW Z9 s Z H _ _ v u Q I rx ry ⟨a,b,xs,ys,rfl,rfl,ha,hb,hx,hz,q1 hx,q2 hx⟩
end My
namespace Dp
open PySem
inductive D where
 |non|bl (b:Bool)|int (i:Int)|str (x:Str)|tup (xs:List D)|ref (n:Nat)|ty (n:String)|rl (xs:List D)|exn (c:Str)
 deriving Inhabited
inductive Cell where
 |lst (xs:List D)|ins (c:Str) (fs:List (Str×D))
 |dk (Z6:List (Str×D))|dt (Z6:List (List (Sum Int Str)×D))
 deriving Inhabited
abbrev Z5:=List Cell
abbrev ZR:=List (Option D)
abbrev DK:=D->Z5->Prop
abbrev DE:=ZR->Z5->DK->Prop
abbrev DT:=ZR->Z5->(Bool->Z5->Prop)->Prop
abbrev DA:=ZR->Z5->(List D->Z5->Prop)->Prop
abbrev DG:=D->ZR->Z5->(ZR->Z5->Prop)->Prop
abbrev Vf:=List D->ZR->Z5->(ZR->Z5->Prop)->Prop
structure zoo where
 nx:ZR->Z5->Prop
 rt:DK
 bk:ZR->Z5->Prop:=fun _ _=>False
 ct:ZR->Z5->Prop:=fun _ _=>False
abbrev DS:=zoo->ZR->Z5->Prop
structure S9 where
 items:List D
 ok:Z5->Prop
abbrev DI:=ZR->Z5->(S9->Z5->Prop)->Prop
abbrev ZS:=List D->Z5->DK->Prop
def big:Nat:=1000000
def fl:Nat->D->Bool
  |_,.ref _=>false
  |_,.ty _=>false
  |_,.rl _=>false
  |_,.exn _=>false
  |0,.tup _=>false
  |k+1,.tup xs=>xs.all (fl k)
  |_,.non=>true
  |_,.bl _=>true
  |_,.int _=>true
  |_,.str x=>x.cps.all (· < 0x110000)
mutual
def eqv:D->D->Bool
 |.non,.non=>true
 |.bl a,.bl b=>a==b
 |.bl a,.int j=>(if a then 1 else 0)==j
 |.int i,.bl b=>i==(if b then 1 else 0)
 |.int i,.int j=>decide (i=j)
 |.str x,.str y=>x==y
 |.tup xs,.tup ys=>eqvAll xs ys
 |_,_=>false
def eqvAll:List D->List D->Bool
 |[],[]=>true
 |x::xs,y::ys=>eqv x y&&eqvAll xs ys
 |_,_=>false
end
def Lst (S:Z5)(x:D)(xs:List D):Prop:=x=.rl xs\/∃ n,x=.ref n/\S[n]?=some (.lst xs)
def V0 (S:Z5)(x:D)(xs:List D):Prop:=x=.tup xs\/Lst S x xs
def X3 (n:Nat)(k:Int):Option Nat:=if 0<=k then(if k<n then some k.toNat else none)else if -(n:Int)<=k then some (k+n).toNat else none
def Y9 (xs:List D)(k:Int):Option D:=(X3 xs.length k).bind fun j=>xs[j]?
def atS (z:Str)(k:Int):Option Nat:=(X3 z.cps.toList.length k).bind fun j=>z.cps.toList[j]?
def W0 (n:Nat)(d:Nat):Option Int->Nat
 |none=>d
 |some k=>if k<0 then(k+n).toNat else min k.toNat n
def cutD {α:Type}(xs:List α)(lo hi:Option Int):List α:=(xs.drop (W0 xs.length 0 lo)).take (W0 xs.length xs.length hi-W0 xs.length 0 lo)
def Xh (i:Nat):DE:=fun ρ S Q=>∃ d,ρ[i]?=some (some d)/\Q d S
def dC (d:D):DE:=fun _ S Q=>Q d S
abbrev Zc:=D->D->Z5->DK->Prop
def Z7 (r:Zc)(ta tb:DE):DE:=fun ρ S Q=>ta ρ S fun x S1=>tb ρ S1 fun y S2=>r x y S2 Q
def Yp (r:D->Z5->DK->Prop)(ta:DE):DE:=fun ρ S Q=>ta ρ S fun x S1=>r x S1 Q
def zF:DA:=fun _ S Q=>Q [] S
def zf (ta:DE)(tr:DA):DA:=fun ρ S Q=>ta ρ S fun x S1=>tr ρ S1 fun xs S2=>Q (x::xs) S2
def dTup (t:DA):DE:=fun ρ S Q=>t ρ S fun xs S1=>xs.length<=big/\Q (.tup xs) S1
def Xx (t:DA):DE:=fun ρ S Q=>t ρ S fun xs S1=>xs.length<=big/\Q (.ref S1.length) (S1++[.lst xs])
def dCall (f:ZS)(t:DA):DE:=fun ρ S Q=>t ρ S fun xs S1=>f xs S1 Q
abbrev DB:=List D->Z5->DK->Prop
def dB (r:DB)(t:DA):DE:=fun ρ S Q=>t ρ S fun xs S1=>r xs S1 Q
def dT (t:DE):DT:=fun ρ S Q=>t ρ S fun x S1=>∃ b,x=.bl b/\Q b S1
def Vk (t u:DT):DT:=fun ρ S Q=>t ρ S fun c S1=>if c=true then u ρ S1 Q else Q false S1
def UL (t u:DT):DT:=fun ρ S Q=>t ρ S fun c S1=>if c=true then Q true S1 else u ρ S1 Q
def U3 (t:DT):DT:=fun ρ S Q=>t ρ S fun c S1=>Q (!c) S1
def zhq (t u:DE):DE:=fun ρ S Q=>t ρ S fun x S1=>∃ c,x=.bl c/\if c=true then u ρ S1 Q else Q (.bl false) S1
def zre (t u:DE):DE:=fun ρ S Q=>t ρ S fun x S1=>∃ c,x=.bl c/\if c=true then Q (.bl true) S1 else u ρ S1 Q
def zhw (t:DE):DE:=fun ρ S Q=>t ρ S fun x S1=>∃ c,x=.bl c/\Q (.bl (!c)) S1
def RD (c:DT)(ta tb:DE):DE:=fun ρ S Q=>c ρ S fun b S1=>if b=true then ta ρ S1 Q else tb ρ S1 Q
def ziS (r r':Zc)(ta tb tc:DE):DE:=fun ρ S Q=>ta ρ S fun x S1=>tb ρ S1 fun y S2=>r x y S2 fun z S3=>∃ c,z=.bl c/\if c=true then tc ρ S3 fun w S4=>r' y w S4 Q else Q (.bl false) S3
def Qx:Option DE->ZR->Z5->(Option Int->Z5->Prop)->Prop
 |none=>fun _ S Q=>Q none S
 |some t=>fun ρ S Q=>t ρ S fun x S1=>∃ i,x=.int i/\Q (some i) S1
def Ql (r:D->Option Int->Option Int->Z5->DK->Prop)(ta:DE)(lo hi:Option DE):DE:=fun ρ S Q=>ta ρ S fun x S1=>Qx lo ρ S1 fun l S2=>Qx hi ρ S2 fun h S3=>r x l h S3 Q
def YQ (f:Str)(ta:DE):DE:=fun ρ S Q=>ta ρ S fun x S1=>∃ n c fs d,x=.ref n/\S1[n]?=some (.ins c fs)/\fs.lookup f=some d/\Q d S1
def putD (f:Str)(v:D):List (Str×D)->List (Str×D)
 |[]=>[(f,v)]
 |(g,x)::r=>if g=f then(g,v)::r else(g,x)::putD f v r
def zns (c:Str)(init:ZS):ZS:=fun ds S Q=>init (.ref S.length::ds) (S++[.ins c []]) fun d S2=>d=.non/\Q (.ref S.length) S2
abbrev DM:=D->List D->Z5->DK->Prop
def dM (r:DM)(ta:DE)(t:DA):DE:=fun ρ S Q=>ta ρ S fun x S1=>(∃ n ys,x=.ref n/\S1[n]?=some (.lst ys))/\t ρ S1 fun xs S2=>r x xs S2 Q
def oI (C:Int->Int->Prop)(g:Int->Int->D):Zc:=fun x y S Q=>∃ i j,x=.int i/\y=.int j/\C i j/\Q (g i j) S
def oI0 (g:Int->Int->D):Zc:=fun x y S Q=>∃ i j,x=.int i/\y=.int j/\Q (g i j) S
def oU (g:Int->D):D->Z5->DK->Prop:=fun x S Q=>∃ i,x=.int i/\Q (g i) S
def YL (i j:Int):Prop:=(My.Bd 8000 i/\My.Bd 8000 j)\/i.natAbs<2 ^ 64\/j.natAbs<2 ^ 64
def zsd (_ j:Int):Prop:=j≠0/\My.Bd 8000 j
def zx2 (_ j:Int):Prop:=j≠0
def Zy:Zc:=fun x y S Q=>(∃ i j,x=.int i/\y=.int j/\Q (.int (i+j)) S)\/(∃ xs ys,x=.tup xs/\y=.tup ys/\xs.length+ys.length<=big/\Q (.tup (xs++ys)) S) \/
 (∃ xs ys,Lst S x xs/\Lst S y ys/\xs.length+ys.length<=big/\Q (.ref S.length) (S++[.lst (xs++ys)])) \/
 (∃ i j:Str,x=.str i/\y=.str j/\i.length+j.length<=big/\Q (.str (i++j)) S)
def Zq:Zc:=oI0 fun i j=>.int (i-j)
def zyO (z:Str)(n:Int):Str:=if n<1 then Str.empty else if(n==1||z.length==0)=true then z else⟨(List.replicate n.toNat z.cps).foldl (·++·) #[]⟩
@[irreducible] def Hg (x:Int):Prop:=x.natAbs<2 ^ 1048576
def Yt:Zc:=fun x y S Q=>oI YL (fun i j=>.int (i*j)) x y S Q\/(∃ (z:Str) (n:Int),x=.str z/\y=.int n/\z.length<=1000/\-1000<=n/\n<=1000/\Q (.str (zyO z n)) S)\/oI (fun i j=>Hg i/\Hg j) (fun i j=>.int (i*j)) x y S Q
def oDiv:Zc:=oI zsd fun i j=>.int (i.fdiv j)
def oMod:Zc:=oI zx2 fun i j=>.int (i.fmod j)
def Yo:D->Z5->DK->Prop:=oU fun i=>.int (-i)
def oLt:Zc:=oI0 fun i j=>.bl (decide (i<j))
def oLe:Zc:=oI0 fun i j=>.bl (decide (i<=j))
def Xj:Zc:=oI0 fun i j=>.bl (decide (j<i))
def oGe:Zc:=oI0 fun i j=>.bl (decide (j<=i))
def zi6 (S:Z5):List D->List (List D)->Prop
 |[],[]=>True
 |x::xs,z::zs=>Lst S x z/\zi6 S xs zs
 |_,_=>False
def Sx (xss:List (List D)):Bool:=xss.all fun zs=>zs.all (fl 20)
def EqD (S:Z5)(x y:D)(b:Bool):Prop:=(fl 20 x=true/\fl 20 y=true/\b=eqv x y)\/(∃ xs ys,Lst S x xs/\Lst S y ys/\xs.all (fl 20)=true/\ys.all (fl 20)=true/\b=eqvAll xs ys) \/
 (∃ xs ys xss yss,Lst S x xs/\Lst S y ys/\zi6 S xs xss/\zi6 S ys yss/\Sx xss=true/\Sx yss=true/\b=eqvAll (xss.map D.tup) (yss.map D.tup))
def oEq:Zc:=fun x y S Q=>∃ b,EqD S x y b/\Q (.bl b) S
def Wj:Zc:=fun x y S Q=>∃ b,EqD S x y b/\Q (.bl (!b)) S
def InD (S:Z5)(x y:D)(b:Bool):Prop:=∃ ys,V0 S y ys/\fl 20 x=true/\ys.all (fl 20)=true/\b=ys.any fun z=>eqv z x
def oIn:Zc:=fun x y S Q=>(∃ b,InD S x y b/\Q (.bl b) S)\/(∃ (c:Nat) (z:Str),x=.str ⟨#[c]⟩/\y=.str z/\Q (.bl (decide (c∈z.cps.toList))) S)
def zl0:Zc:=fun x y S Q=>(∃ b,InD S x y b/\Q (.bl (!b)) S)\/(∃ (c:Nat) (z:Str),x=.str ⟨#[c]⟩/\y=.str z/\Q (.bl (!decide (c∈z.cps.toList))) S)
def ziC:D->Bool
 |.non=>true
 |_=>false
def oIs:Zc:=fun x y S Q=>(y=.non/\Q (.bl (ziC x)) S)\/(∃ a b,x=.bl a/\y=.bl b/\Q (.bl (a==b)) S)
def U5:Zc:=fun x y S Q=>(y=.non/\Q (.bl (!ziC x)) S)\/(∃ a b,x=.bl a/\y=.bl b/\Q (.bl (!(a==b))) S)
def ZW:Zc:=fun x y S Q=>(∃ i xs d,y=.int i/\V0 S x xs/\Y9 xs i=some d/\Q d S)\/(∃ (z:Str) (i:Int) (c:Nat),x=.str z/\y=.int i/\z.length<=big/\atS z i=some c/\Q (.str ⟨#[c]⟩) S)
def zqW (z:Str)(lo hi:Option Int):Str:=⟨(cutD z.cps.toList lo hi).toArray⟩
def RV:D->Option Int->Option Int->Z5->DK->Prop:=fun x lo hi S Q=>(∃ xs,x=.tup xs/\Q (.tup (cutD xs lo hi)) S)\/(∃ xs,Lst S x xs/\Q (.ref S.length) (S++[.lst (cutD xs lo hi)]))\/(∃ z:Str,x=.str z/\z.length<=big/\Q (.str (zqW z lo hi)) S)
def Y7:DB:=fun vs S Q=>(∃ x xs,vs=[x]/\V0 S x xs/\Q (.int xs.length) S)\/(∃ z:Str,vs=[.str z]/\z.length<=big/\Q (.int z.length) S)
def zrk:DB:=fun vs S Q=>∃ i,vs=[.int i]/\Q (.int (i.natAbs:Int)) S
def Ws:DB:=fun vs S Q=>∃ i j,vs=[.int i,.int j]/\Q (.int (max i j)) S
def Uh:DB:=fun vs S Q=>∃ i j,vs=[.int i,.int j]/\Q (.int (min i j)) S
def znH:DB:=fun vs S Q=>∃ x ns,vs=[x]/\Lst S x (List.map D.int ns)/\0<ns.length/\∀ m:Int,m∈ns->(∀ a∈ns,a<=m)->Q (.int m) S
def zoj:DB:=fun vs S Q=>∃ x ns,vs=[x]/\Lst S x (List.map D.int ns)/\0<ns.length/\∀ m:Int,m∈ns->(∀ a∈ns,m<=a)->Q (.int m) S
def R7:DB:=fun vs S Q=>∃ x bs,vs=[x]/\Lst S x (List.map D.bl bs)/\Q (.bl (bs.all id)) S
def zfH:DB:=fun vs S Q=>∃ x xs,vs=[x]/\V0 S x xs/\Q (.tup xs) S
def ziW:DB:=fun vs S Q=>∃ x xs,vs=[x]/\V0 S x xs/\Q (.ref S.length) (S++[.lst xs])
def zjD (t:String):Bool:=t=="int"||t=="bool"||t=="tuple"||t=="list"||t=="str"
def zvK (S:Z5)(t:String)(d:D):Option Bool:=if(!zjD t)=true then none else match d with
 |.non=>some false
 | .bl _=>some (t=="bool"||t=="int")
 | .int _=>some (t=="int")
 | .str _=>some (t=="str")
 | .tup _=>some (t=="tuple")
 |.ref n=>match S[n]? with
  | some (.lst _)=>some (t=="list")
  |_=>none
 |.ty _=>none
 |.rl _=>none
 |.exn _=>none
def Sy:DB:=fun vs S Q=>∃ x t b,vs=[x,.ty t]/\zvK S t x=some b/\Q (.bl b) S
abbrev p2 (c:Int×Int):D:=.tup [.int c.1,.int c.2]
def Q5 (a b:Int×Int):Bool:=decide (a.1<b.1\/(a.1=b.1/\a.2<b.2))
def zpV:DB:=fun vs S Q=>∃ x cs,vs=[x]/\Lst S x (List.map p2 cs)/\cs.length<64/\∀ ss:List (Int×Int),ss.Perm cs->ss.Pairwise (fun a b=>Q5 b a=false)->Q (.ref S.length) (S++[.lst (ss.map p2)])
def zpp:DB:=fun vs S Q=>∃ x ns,vs=[x]/\Lst S x (List.map D.int ns)/\ns.length<64/\∀ ss:List Int,ss.Perm ns->ss.Pairwise (fun a b=>a<=b)->Q (.ref S.length) (S++[.lst (ss.map D.int)])
def zow:DB:=fun vs S Q=>zpV vs S Q\/zpp vs S Q
def TX:DM:=fun x vs S Q=>∃ n xs y,x=.ref n/\vs=[y]/\S[n]?=some (.lst xs)/\xs.length<big/\Q .non (S.set n (.lst (xs++[y])))
def zsX:DM:=fun x vs S Q=>∃ n xs m ys,x=.ref n/\vs=[.ref m]/\S[n]?=some (.lst xs)/\S[m]?=some (.lst ys)/\m≠n/\xs.length+ys.length<=big/\Q .non (S.set n (.lst (xs++ys)))
def zii:DM:=fun x vs S Q=>zsX x vs S Q\/∃ n xs ys,x=.ref n/\vs=[.tup ys]/\S[n]?=some (.lst xs)/\xs.length+ys.length<=big/\Q .non (S.set n (.lst (xs++ys)))
def zol:DM:=fun x vs S Q=>∃ n xs y,x=.ref n/\vs=[.int 0]/\S[n]?=some (.lst (y::xs))/\Q y (S.set n (.lst xs))
def zmg:DM:=fun x vs S Q=>∃ n xs y j e,x=.ref n/\vs=[y]/\S[n]?=some (.lst xs)/\xs.all (fl 20)=true/\fl 20 y=true/\xs.length<=big/\xs[j]?=some e/\eqv e y=true/\(∀ (m:Nat) e',m<j->xs[m]?=some e'->eqv e' y=false)/\Q (.int (j:Nat)) S
def YW (i:Nat):DG:=fun d ρ S Q=>Q (ρ.set i (some d)) S
def Yr:Vf:=fun ds ρ S Q=>ds=[]/\Q ρ S
def z9 (t:DG)(u:Vf):Vf:=fun ds ρ S Q=>∃ d r,ds=d::r/\t d ρ S fun ρ' S'=>u r ρ' S' Q
def Yq (n:Nat)(t:Vf):DG:=fun d ρ S Q=>∃ xs,d=.tup xs/\xs.length=n/\t xs ρ S Q
def Tq (to ti:DE):DG:=fun d ρ S Q=>to ρ S fun o S1=>ti ρ S1 fun i S2=>∃ n xs k j,o=.ref n/\i=.int k/\S2[n]?=some (.lst xs)/\X3 xs.length k=some j/\Q ρ (S2.set n (.lst (xs.set j d)))
def zA (t u:DS):DS:=fun E ρ S=>t { E with nx:=u E } ρ S
def Zv:DS:=fun E ρ S=>E.nx ρ S
def zU (t:DE):DS:=fun E ρ S=>t ρ S E.rt
def Zf (t:DE):DS:=fun E ρ S=>t ρ S fun _ S1=>E.nx ρ S1
def zH (t:DE)(g:DG):DS:=fun E ρ S=>t ρ S fun x S1=>g x ρ S1 E.nx
def ZC (c:DT)(t u:DS):DS:=fun E ρ S=>c ρ S fun b S1=>if b=true then t E ρ S1 else u E ρ S1
def sJ (t:DS):DS:=fun E ρ S=>∃ J:ZR->Z5->Prop,(∀ ρ S,J ρ S->E.nx ρ S)/\t { E with nx:=J } ρ S
def Vn:DS:=fun _ _ _=>False
def Uj (c f:Str)(to tv:DE):DS:=fun E ρ S=>tv ρ S fun y S1=>to ρ S1 fun x S2=>∃ n fs,x=.ref n/\S2[n]?=some (.ins c fs)/\fs.length<100/\E.nx ρ (S2.set n (.ins c (putD f y fs)))
def zrw (i:Nat)(t:DE):DS:=fun E ρ S=>∃ a,ρ[i]?=some (some (.int a))/\t ρ S fun y S1=>∃ b,y=.int b/\E.nx (ρ.set i (some (.int (a+b)))) S1
def QV (c:DT)(t:DS):DS:=fun E ρ S=>∃ W:Nat->ZR->Z5->Prop,(∃ m,W m ρ S)/\∀ m ρ S,W m ρ S ->
 c ρ S fun b S1=>if b=true then ∃ N:ZR->Z5->Prop,(∀ ρ' S',N ρ' S'->∃ m',m'<m/\W m' ρ' S')/\t { E with nx:=N,ct:=N,bk:=E.nx } ρ S1 else E.nx ρ S1
def Y0 (wi:DI)(g:DG)(t:DS):DS:=fun E ρ S=>wi ρ S fun J S1=>∃ W:Nat->ZR->Z5->Prop,W 0 ρ S1/\(∀ i ρ S,W i ρ S->J.ok S) /\
 (∀ i d ρ S,J.items[i]?=some d->W i ρ S->g d ρ S fun ρ2 S2=>t { E with nx:=W (i+1),ct:=W (i+1),bk:=E.nx } ρ2 S2)/\∀ ρ S,W J.items.length ρ S->E.nx ρ S
def signs (z:Str):List D:=z.cps.toList.map fun c=>.str ⟨#[c]⟩
def zhl (x:D)(S1:Z5)(R:S9->Z5->Prop):Prop:=(∃ xs,x=.tup xs/\R ⟨xs,fun _=>True⟩ S1)\/(∃ xs,Lst S1 x xs/\R ⟨xs,fun S=>Lst S x xs⟩ S1)\/(∃ z:Str,x=.str z/\R ⟨signs z,fun _=>True⟩ S1)
def Zj (t:DE):DI:=fun ρ S R=>t ρ S fun x S1=>zhl x S1 R
def upto (lo:Int)(n:Nat):List D:=(List.range n).map fun k:Nat=>D.int (lo+(k:Int))
def PJ (t:DA):DI:=fun ρ S R=>t ρ S fun vs S1=>∃ j:Int,vs=[.int j]/\-(2 ^ 62)<=j/\j<2 ^ 62/\R ⟨upto 0 j.toNat,fun _=>True⟩ S1
def zoB (t:DA):DI:=fun ρ S R=>t ρ S fun vs S1=>∃ i j:Int,vs=[.int i,.int j]/\R ⟨upto i (j-i).toNat,fun _=>True⟩ S1
def steps (lo st:Int)(n:Nat):List D:=(List.range n).map fun k:Nat=>D.int (lo+(k:Int)*st)
def Wa:Nat->List D->List D
 |_,[]=>[]
 |k,x::xs=>.tup [.int (k:Nat),x]::Wa (k+1) xs
def Yg:List D->List D->List D
 |x::xs,y::ys=>.tup [x,y]::Yg xs ys
 |_,_=>[]
def znA:DB:=fun vs S Q=>∃ i j:Int,vs=[.int i,.int j]/\j-i<=900/\Q (.ref S.length) (S++[.lst (upto i (j-i).toNat)])
def Rr (c:List Str)(z:Str):List Str:=if c.any (·==z)=true then c else c++[z]
def Xg (f:Nat->Str):Nat->List Str
 |0=>[]
 |i+1=>Rr (Xg f i) (f i)
def zr2 (zs:List Str):Nat:=(Xg (fun i=>zs.getD i Str.empty) zs.length).length
def zoa:DB:=fun vs S Q=>∃ x,∃ zs:List Str,vs=[x]/\Lst S x (zs.map D.str)/\zs.length<=4000/\Q (.int (zr2 zs)) S
def zlA (R:S9->Z5->Prop)(vs:List D)(S1:Z5):Prop:=(∃ x xs,vs=[x]/\Lst S1 x xs/\R ⟨Wa 0 xs,fun S=>Lst S x xs⟩ S1)\/(∃ xs,vs=[.tup xs]/\R ⟨Wa 0 xs,fun _=>True⟩ S1)
def RT (t:DA):DI:=fun ρ S R=>t ρ S (zlA R)
def znV (R:S9->Z5->Prop)(vs:List D)(S1:Z5):Prop:=(∃ x y xs ys,vs=[x,y]/\Lst S1 x xs/\Lst S1 y ys/\R ⟨Yg xs ys,fun S=>Lst S x xs/\Lst S y ys⟩ S1)\/(∃ xs ys,vs=[.tup xs,.tup ys]/\R ⟨Yg xs ys,fun _=>True⟩ S1)
def zox (t:DA):DI:=fun ρ S R=>t ρ S (znV R)
def Qt (own:Nat)(fv:List Nat)(ρ:ZR):ZR:=List.replicate own none++fv.map fun j=>(ρ[j]?).join
def Xu:DT:=fun _ S Q=>Q true S
def Yz (own:Nat)(fv:List Nat)(wi:DI)(g:DG)(tc:DT)(te:DE):DE:=fun ρ S Q=>wi ρ S fun J S1=>J.items.length<=big/\∃ W:Nat->List D->Z5->Prop,W 0 [] S1/\(∀ i ys S,W i ys S->J.ok S) /\
 (∀ i d ys S,J.items[i]?=some d->W i ys S->g d (Qt own fv ρ) S fun ρ2 S2=>tc ρ2 S2 fun b S3=>if b=true then te ρ2 S3 fun y S4=>W (i+1) (ys++[y]) S4 else W (i+1) ys S3) /\
 ∀ ys S,W J.items.length ys S->Q (.ref S.length) (S++[.lst ys])
def kD:Sum Int Str->D
 |.inl i=>.int i
 |.inr x=>.str x
section
variable {κ:Type}[DecidableEq κ]
def dval (Z6:List (κ×D))(k:κ):Option D:=(Z6.find? fun kv=>decide (kv.1=k)).map (·.2)
def dput (Z6:List (κ×D))(k:κ)(v:D):List (κ×D):=if(Z6.any fun kv=>decide (kv.1=k))=true then Z6.map (fun kv=>if kv.1=k then(kv.1,v)else kv)else Z6++[(k,v)]
end
def Vu (S:Z5)(x y:D)(o:Option D):Prop:=(∃ n Z6 z,x=.ref n/\y=.str z/\S[n]?=some (.dk Z6)/\o=dval Z6 z)\/(∃ n Z6 ks,x=.ref n/\y=.tup (ks.map kD)/\S[n]?=some (.dt Z6)/\o=dval Z6 ks)
def zn2:DE:=fun _ S Q=>Q (.ref S.length) (S++[.dk []])
def zoh:DE:=fun _ S Q=>Q (.ref S.length) (S++[.dt []])
def QX (td ti:DE):DE:=fun ρ S Q=>td ρ S fun x S1=>ti ρ S1 fun y S2=>∃ d,Vu S2 x y (some d)/\Q d S2
def Uk (S:Z5)(x y v:D)(Q:Z5->Prop):Prop:=(∃ n Z6 z,x=.ref n/\y=.str z/\S[n]?=some (.dk Z6)/\Z6.length<big/\Q (S.set n (.dk (dput Z6 z v))))\/(∃ n Z6 ks,x=.ref n/\y=.tup (ks.map kD)/\S[n]?=some (.dt Z6)/\Z6.length<big/\Q (S.set n (.dt (dput Z6 ks v))))
def O7 (td ti tv:DE):DS:=fun E ρ S=>tv ρ S fun v S1=>td ρ S1 fun x S2=>ti ρ S2 fun y S3=>Uk S3 x y v (E.nx ρ)
def fc:Cell->Bool
 |.lst xs=>xs.all (fl 20)
 |.ins _ _=>false
 |.dk _=>false
 |.dt _=>false
def Fin (S:Z5)(Q:DK):DK:=fun d S'=>Q d S'\/∃ S1,S1 <+: S'/\S.length<=S1.length/\(fl 20 d=true\/∃ n,d=.ref n/\n<S1.length)/\(∀ (n:Nat) c,S1[n]?=some c->S[n]?=some c\/fc c=true)/\Q d S1
def Rj (n:Nat)(ds:List D):ZR:=ds.map some++List.replicate (n-ds.length) none
def BodyOk (n:Nat)(b:DS)(f:ZS):Prop:=∀ ds S Q,f ds S Q->b ⟨fun _ S'=>Fin S Q .non S',Fin S Q,fun _ _=>False,fun _ _=>False⟩ (Rj n ds) S
abbrev XD:=Str->Z5->Prop
abbrev XR:=ZR->Str->Z5->Prop
abbrev Ww:=List D->Z5->DK->XD->Prop
def Wm (f:Ww)(ex:XR)(t:DA):DE:=fun ρ S Q=>t ρ S fun xs S1=>f xs S1 Q (ex ρ)
def xF:XR:=fun _ _ _=>False
def zfN (ex:XR)(c:Str):DS:=fun _ ρ S=>ex ρ c S
def T8 (n:Nat)(b:XR->DS)(f:Ww):Prop:=∀ ds S Q ex,f ds S Q ex->b (fun _=>ex) ⟨fun _ S'=>Fin S Q .non S',Fin S Q,fun _ _=>False,fun _ _=>False⟩ (Rj n ds) S
def New (Q:DK)(S:Z5)(xs:List D):Prop:=Q (.ref S.length) (S++[.lst xs])
def Put (Q:Z5->Prop)(S:Z5)(n:Nat)(c:Cell):Prop:=Q (S.set n c)
def zrS (own:Nat)(fv:List Nat)(g:DG)(tc:DT)(te:DE)(ρ:ZR)(Q:DK)(J:S9)(S:Z5):Prop:=J.items.length<=big/\∃ W:Nat->List D->Z5->Prop,W 0 [] S/\(∀ i ys S,W i ys S->J.ok S) /\
 (∀ i d ys S,J.items[i]?=some d->W i ys S->g d (Qt own fv ρ) S fun ρ2 S2=>tc ρ2 S2 fun b S3=>if b=true then te ρ2 S3 fun y S4=>W (i+1) (ys++[y]) S4 else W (i+1) ys S3) /\
 ∀ ys S,W J.items.length ys S->New Q S ys
def zsl (d:D)(ρ:ZR)(Q:ZR->Z5->Prop)(o i:D)(S2:Z5):Prop:=∃ n xs k j,o=.ref n/\i=.int k/\S2[n]?=some (.lst xs)/\X3 xs.length k=some j/\Q ρ (S2.set n (.lst (xs.set j d)))
def zsb (nx:ZR->Z5->Prop)(rt:DK)(g:DG)(t:DS)(ρ:ZR)(J:S9)(S:Z5):Prop:=∃ W:Nat->ZR->Z5->Prop,W 0 ρ S/\(∀ i ρ S,W i ρ S->J.ok S) /\
 (∀ i d ρ S,J.items[i]?=some d->W i ρ S->g d ρ S fun ρ2 S2=>t ⟨W (i+1),rt,nx,W (i+1)⟩ ρ2 S2)/\∀ ρ S,W J.items.length ρ S->nx ρ S
def znr (W:Nat->ZR->Z5->Prop)(m:Nat)(t:DS)(rt:DK)(nx:ZR->Z5->Prop)(ρ:ZR)(S:Z5):Prop:=∃ N:ZR->Z5->Prop,(∀ ρ' S',N ρ' S'->∃ m',m'<m/\W m' ρ' S')/\t ⟨N,rt,nx,N⟩ ρ S
def YH {nx:ZR->Z5->Prop}{rt:DK}{g:DG}{t:DS}{ρ:ZR}{xs:List D}{ok:Z5->Prop}{S:Z5}(W:Nat->ZR->Z5->Prop)(h0:W 0 ρ S)(hok:∀ i ρ S,W i ρ S->ok S)
  (step:∀ i d ρ S,xs[i]?=some d->W i ρ S->g d ρ S fun ρ2 S2=>t ⟨W (i+1),rt,nx,W (i+1)⟩ ρ2 S2) (fin:∀ ρ S,W xs.length ρ S->nx ρ S):zsb nx rt g t ρ ⟨xs,ok⟩ S:=⟨W,h0,hok,step,fin⟩
def zyf {S:Z5}{Q:DK}{xs:List D}(h:Q (.ref S.length) (S++[.lst xs])):New Q S xs:=h
def zhu {S T:Z5}{Q:DK}{xs:List D}(h:Q (.ref (S.length+T.length)) (S++(T++[.lst xs]))):New Q (S++T) xs:=by
 unfold New;rw[qh,qu];exact h
section
variable {S:Z5}{Q:DK}{xs:List D}{a b c d e f:Cell}
def zxE (h:Q (.ref (S.length+1)) (S++[a,.lst xs])):New Q (S++[a]) xs:=zhu h
def zwM (h:Q (.ref (S.length+2)) (S++[a,b,.lst xs])):New Q (S++[a,b]) xs:=zhu h
def zw0 (h:Q (.ref (S.length+3)) (S++[a,b,c,.lst xs])):New Q (S++[a,b,c]) xs:=zhu h
def zxL (h:Q (.ref (S.length+4)) (S++[a,b,c,d,.lst xs])):New Q (S++[a,b,c,d]) xs:=zhu h
def zx6 (h:Q (.ref (S.length+5)) (S++[a,b,c,d,e,.lst xs])):New Q (S++[a,b,c,d,e]) xs:=zhu h
end
def zfu {S:Z5}{a:Cell}{T:Z5}{Q:Z5->Prop}{c:Cell}(h:Q (S++c::T)):Put Q (S++a::T) S.length c:=by
 unfold Put;rw[qaN _ _ (qf _),V7];exact h
def zuz {S:Z5}{a:Cell}{G T:Z5}{Q:Z5->Prop}{c:Cell}(h:Q (S++c::(G++T))):Put Q (S++(a::G++T)) S.length c:=zfu h
def zxB {S:Z5}{Q:Z5->Prop}{n:Nat}{c:Cell}(h:Q (S.set n c)):Put Q S n c:=h
def ziD {S T:Z5}{Q:Z5->Prop}{k:Nat}{c:Cell}(h:Q (S++T.set k c)):Put Q (S++T) (S.length+k) c:=by
 unfold Put;rw[qaN _ _ (Pb _ _),qa0];exact h
section
variable {nx:ZR->Z5->Prop}{rt:DK}{bk ct:ZR->Z5->Prop}{ρ:ZR}{S:Z5}
def zn1 {t u:DS}(h:t ⟨u ⟨nx,rt,bk,ct⟩,rt,bk,ct⟩ ρ S):zA t u ⟨nx,rt,bk,ct⟩ ρ S:=h
def r_J {t:DS}(J:ZR->Z5->Prop)(h:t ⟨J,rt,bk,ct⟩ ρ S)(hJ:∀ ρ S,J ρ S->nx ρ S):sJ t ⟨nx,rt,bk,ct⟩ ρ S:=⟨J,hJ,h⟩
def zr4 {t:DS}(h:t ⟨nx,rt,bk,ct⟩ ρ S):sJ t ⟨nx,rt,bk,ct⟩ ρ S:=⟨nx,fun _ _ h=>h,h⟩
def zvR (h:nx ρ S):Zv ⟨nx,rt,bk,ct⟩ ρ S:=h
def zr8 {t:DE}(h:t ρ S rt):zU t ⟨nx,rt,bk,ct⟩ ρ S:=h
def zvp {t:DE}(h:t ρ S fun _ S1=>nx ρ S1):Zf t ⟨nx,rt,bk,ct⟩ ρ S:=h
def zsz {t:DE}{g:DG}(h:t ρ S fun x S1=>g x ρ S1 nx):zH t g ⟨nx,rt,bk,ct⟩ ρ S:=h
def zy9 {c:DT}{t u:DS}(h:c ρ S fun b S1=>if b=true then t ⟨nx,rt,bk,ct⟩ ρ S1 else u ⟨nx,rt,bk,ct⟩ ρ S1):ZC c t u ⟨nx,rt,bk,ct⟩ ρ S:=h
def zuM {c f:Str}{to tv:DE}(h:tv ρ S fun y S1=>to ρ S1 fun x S2=>∃ n fs,x=.ref n/\S2[n]?=some (.ins c fs)/\fs.length<100/\nx ρ (S2.set n (.ins c (putD f y fs)))):Uj c f to tv ⟨nx,rt,bk,ct⟩ ρ S:=h
def zyj {i:Nat}{t:DE}{a:Int}(e:ρ[i]?=some (some (.int a)))(h:t ρ S fun y S1=>∃ b,y=.int b/\nx (ρ.set i (some (.int (a+b)))) S1):zrw i t ⟨nx,rt,bk,ct⟩ ρ S:=⟨a,e,h⟩
def zxR {wi:DI}{g:DG}{t:DS}(h:wi ρ S fun J S1=>zsb nx rt g t ρ J S1):Y0 wi g t ⟨nx,rt,bk,ct⟩ ρ S:=h
def zrV {c:DT}{t:DS}(W:Nat->ZR->Z5->Prop)(m:Nat)(h0:W m ρ S)(h:∀ m ρ S,W m ρ S->c ρ S fun b S1=>if b=true then znr W m t rt nx ρ S1 else nx ρ S1):QV c t ⟨nx,rt,bk,ct⟩ ρ S:=⟨W,⟨m,h0⟩,h⟩
def zwS {c:DT}{t:DS}(W:Nat->ZR->Z5->Prop)(E:ZR->Z5->Prop)(m:Nat)(h0:W m ρ S)(hE:∀ ρ S,E ρ S->nx ρ S)(h:∀ nx':ZR->Z5->Prop,(∀ ρ S,E ρ S->nx' ρ S)->∀ m ρ S,W m ρ S->c ρ S fun b S1=>if b=true then znr W m t rt nx' ρ S1 else nx' ρ S1):QV c t ⟨nx,rt,bk,ct⟩ ρ S:=⟨W,⟨m,h0⟩,h nx hE⟩
def zpK {t:DS}{W:Nat->ZR->Z5->Prop}{m:Nat}(h:t ⟨fun ρ' S'=>∃ m',m'<m/\W m' ρ' S',rt,nx,fun ρ' S'=>∃ m',m'<m/\W m' ρ' S'⟩ ρ S):znr W m t rt nx ρ S:=⟨_,fun _ _ z=>z,h⟩
def zud {i:Nat}{d:D}{Q:ZR->Z5->Prop}(h:Q (ρ.set i (some d)) S):YW i d ρ S Q:=h
def zuD {Q:ZR->Z5->Prop}(h:Q ρ S):Yr [] ρ S Q:=⟨rfl,h⟩
def ztl {t:DG}{u:Vf}{d:D}{r:List D}{Q:ZR->Z5->Prop}(h:t d ρ S fun ρ' S'=>u r ρ' S' Q):z9 t u (d::r) ρ S Q:=⟨d,r,rfl,h⟩
def zwq {n:Nat}{t:Vf}{xs:List D}{Q:ZR->Z5->Prop}(e:xs.length=n)(h:t xs ρ S Q):Yq n t (.tup xs) ρ S Q:=⟨xs,rfl,e,h⟩
def zvl {to ti:DE}{d:D}{Q:ZR->Z5->Prop}(h:to ρ S fun o S1=>ti ρ S1 fun i S2=>zsl d ρ Q o i S2):Tq to ti d ρ S Q:=h
def Pu {i:Nat}{d:D}{Q:DK}(h:ρ[i]?=some (some d))(q:Q d S):Xh i ρ S Q:=⟨d,h,q⟩
def r_c {d:D}{Q:DK}(q:Q d S):dC d ρ S Q:=q
def znw {r:Zc}{ta tb:DE}{Q:DK}(h:ta ρ S fun x S1=>tb ρ S1 fun y S2=>r x y S2 Q):Z7 r ta tb ρ S Q:=h
def zy5 {r:D->Z5->DK->Prop}{ta:DE}{Q:DK}(h:ta ρ S fun x S1=>r x S1 Q):Yp r ta ρ S Q:=h
def zyd {Q:List D->Z5->Prop}(h:Q [] S):zF ρ S Q:=h
def zmf {ta:DE}{tr:DA}{Q:List D->Z5->Prop}(h:ta ρ S fun x S1=>tr ρ S1 fun xs S2=>Q (x::xs) S2):zf ta tr ρ S Q:=h
def zsD {t:DA}{Q:DK}(h:t ρ S fun xs S1=>xs.length<=big/\Q (.tup xs) S1):dTup t ρ S Q:=h
def zxP {t:DA}{Q:DK}(h:t ρ S fun xs S1=>xs.length<=big/\New Q S1 xs):Xx t ρ S Q:=h
def zx8 {xs:List D}{P:Prop}(h:Nat.ble xs.length big=true)(q:P):xs.length<=big/\P:=⟨qaz h,q⟩
def zvN {f:ZS}{t:DA}{Q:DK}(h:t ρ S fun xs S1=>f xs S1 Q):dCall f t ρ S Q:=h
def r_b {r:DB}{t:DA}{Q:DK}(h:t ρ S fun xs S1=>r xs S1 Q):dB r t ρ S Q:=h
def r_m {r:DM}{ta:DE}{t:DA}{Q:DK}(h:ta ρ S fun x S1=>(∃ n ys,x=.ref n/\S1[n]?=some (.lst ys))/\t ρ S1 fun xs S2=>r x xs S2 Q):dM r ta t ρ S Q:=h
def zwK {n:Nat}{ys:List D}{P:Prop}(h:S[n]?=some (.lst ys))(q:P):(∃ m ys,D.ref n=.ref m/\S[m]?=some (.lst ys))/\P:=⟨⟨n,ys,rfl,h⟩,q⟩
def r_t {t:DE}{Q:Bool->Z5->Prop}(h:t ρ S fun x S1=>∃ b,x=.bl b/\Q b S1):dT t ρ S Q:=h
def zyv {c:Bool}{P:Bool->Prop}(h:P c):∃ b,D.bl c=D.bl b/\P b:=⟨c,rfl,h⟩
def zx9 {c:Int}{P:Int->Prop}(h:P c):∃ b,D.int c=D.int b/\P b:=⟨c,rfl,h⟩
def zxW {t u:DT}{Q:Bool->Z5->Prop}(h:t ρ S fun c S1=>if c=true then u ρ S1 Q else Q false S1):Vk t u ρ S Q:=h
def zyC {t u:DT}{Q:Bool->Z5->Prop}(h:t ρ S fun c S1=>if c=true then Q true S1 else u ρ S1 Q):UL t u ρ S Q:=h
def zw8 {t:DT}{Q:Bool->Z5->Prop}(h:t ρ S fun c S1=>Q (!c) S1):U3 t ρ S Q:=h
def zve {t u:DE}{Q:DK}(h:t ρ S fun x S1=>∃ c,x=.bl c/\if c=true then u ρ S1 Q else Q (.bl false) S1):zhq t u ρ S Q:=h
def zw4 {t u:DE}{Q:DK}(h:t ρ S fun x S1=>∃ c,x=.bl c/\if c=true then Q (.bl true) S1 else u ρ S1 Q):zre t u ρ S Q:=h
def zwi {t:DE}{Q:DK}(h:t ρ S fun x S1=>∃ c,x=.bl c/\Q (.bl (!c)) S1):zhw t ρ S Q:=h
def zw2 {c:DT}{ta tb:DE}{Q:DK}(h:c ρ S fun b S1=>if b=true then ta ρ S1 Q else tb ρ S1 Q):RD c ta tb ρ S Q:=h
def zsV {r r':Zc}{ta tb tc:DE}{Q:DK}(h:ta ρ S fun x S1=>tb ρ S1 fun y S2=>r x y S2 fun z S3=>∃ c,z=.bl c/\if c=true then tc ρ S3 fun w S4=>r' y w S4 Q else Q (.bl false) S3):ziS r r' ta tb tc ρ S Q:=h
def zw7 {f:Str}{ta:DE}{Q:DK}(h:ta ρ S fun x S1=>∃ n c fs d,x=.ref n/\S1[n]?=some (.ins c fs)/\fs.lookup f=some d/\Q d S1):YQ f ta ρ S Q:=h
def zyF {r:D->Option Int->Option Int->Z5->DK->Prop}{ta:DE}{lo hi:Option DE}{Q:DK}(h:ta ρ S fun x S1=>Qx lo ρ S1 fun l S2=>Qx hi ρ S2 fun h S3=>r x l h S3 Q):Ql r ta lo hi ρ S Q:=h
def zuI {Q:Option Int->Z5->Prop}(h:Q none S):Qx none ρ S Q:=h
def zux {t:DE}{Q:Option Int->Z5->Prop}(h:t ρ S fun x S1=>∃ i,x=.int i/\Q (some i) S1):Qx (some t) ρ S Q:=h
def zv2 {Q:Bool->Z5->Prop}(h:Q true S):Xu ρ S Q:=h
end
section
variable {S:Z5}{Q:DK}
def zxg {i j:Int}(q:Q (.int (i+j)) S):Zy (.int i) (.int j) S Q:=.inl ⟨i,j,rfl,rfl,q⟩
def zk4 {xs ys:List D}(h:xs.length+ys.length<=big)(q:Q (.tup (xs++ys)) S):Zy (.tup xs) (.tup ys) S Q:=.inr (.inl ⟨xs,ys,rfl,rfl,h,q⟩)
def zwc {x y:D}{xs ys:List D}(hx:Lst S x xs)(hy:Lst S y ys)(h:xs.length+ys.length<=big)(q:New Q S (xs++ys)):Zy x y S Q:=.inr (.inr (.inl ⟨xs,ys,hx,hy,h,q⟩))
def zvb {i j:Str}(h:i.length+j.length<=big)(q:Q (.str (i++j)) S):Zy (.str i) (.str j) S Q:=.inr (.inr (.inr ⟨i,j,rfl,rfl,h,q⟩))
def zwO {i j:Int}(q:Q (.int (i-j)) S):Zq (.int i) (.int j) S Q:=⟨i,j,rfl,rfl,q⟩
def zxT {i j:Int}(c:YL i j)(q:Q (.int (i*j)) S):Yt (.int i) (.int j) S Q:=.inl ⟨i,j,rfl,rfl,c,q⟩
def zyp {c:Nat}{z:Str}(q:Q (.bl (decide (c∈z.cps.toList))) S):oIn (.str ⟨#[c]⟩) (.str z) S Q:=.inr ⟨c,z,rfl,rfl,q⟩
def zxd {i j:Int}(c:0<j/\My.Bd 8000 j)(q:Q (.int (i/j)) S):oDiv (.int i) (.int j) S Q:=⟨i,j,rfl,rfl,⟨by lia,c.2⟩,by show Q (.int (i.fdiv j)) S;rw[Int.fdiv_eq_ediv_of_nonneg i (by lia)];exact q⟩
def zye {i j:Int}(c:0<j)(q:Q (.int (i%j)) S):oMod (.int i) (.int j) S Q:=⟨i,j,rfl,rfl,(by show j≠0;lia),by show Q (.int (i.fmod j)) S;rw[Int.fmod_eq_emod_of_nonneg i (by lia)];exact q⟩
def zpd {i j:Int}(c:zsd i j)(q:Q (.int (i.fdiv j)) S):oDiv (.int i) (.int j) S Q:=⟨i,j,rfl,rfl,c,q⟩
def zwb {i j:Int}(c:j≠0)(q:Q (.int (i.fmod j)) S):oMod (.int i) (.int j) S Q:=⟨i,j,rfl,rfl,c,q⟩
def zxw {i:Int}(q:Q (.int (-i)) S):Yo (.int i) S Q:=⟨i,rfl,q⟩
def zy4 {i j:Int}(q:Q (.bl (decide (i<j))) S):oLt (.int i) (.int j) S Q:=⟨i,j,rfl,rfl,q⟩
def zyH {i j:Int}(q:Q (.bl (decide (i<=j))) S):oLe (.int i) (.int j) S Q:=⟨i,j,rfl,rfl,q⟩
def zyK {i j:Int}(q:Q (.bl (decide (j<i))) S):Xj (.int i) (.int j) S Q:=⟨i,j,rfl,rfl,q⟩
def zyw {i j:Int}(q:Q (.bl (decide (j<=i))) S):oGe (.int i) (.int j) S Q:=⟨i,j,rfl,rfl,q⟩
def zw9 {i j:Int}(q:Q (.bl (decide (i=j))) S):oEq (.int i) (.int j) S Q:=⟨_,.inl ⟨rfl,rfl,rfl⟩,q⟩
def zxD {i j:Int}(q:Q (.bl (!decide (i=j))) S):Wj (.int i) (.int j) S Q:=⟨_,.inl ⟨rfl,rfl,rfl⟩,q⟩
def zyg (q:Q (.bl true) S):oIs .non .non S Q:=.inl ⟨rfl,q⟩
def zwP {i:Int}(q:Q (.bl false) S):oIs (.int i) .non S Q:=.inl ⟨rfl,q⟩
def zvF (q:Q (.bl false) S):U5 .non .non S Q:=.inl ⟨rfl,q⟩
def zwC {i:Int}(q:Q (.bl true) S):U5 (.int i) .non S Q:=.inl ⟨rfl,q⟩
def zr6 {x:D}(q:Q (.bl (!ziC x)) S):U5 x .non S Q:=.inl ⟨rfl,q⟩
def zxV {xs:List D}{i:Int}{d:D}(e:Y9 xs i=some d)(q:Q d S):ZW (.tup xs) (.int i) S Q:=.inl ⟨i,xs,d,rfl,.inl rfl,e,q⟩
def zsm {x:D}{xs:List D}{i:Int}{d:D}(h:Lst S x xs)(e:Y9 xs i=some d)(q:Q d S):ZW x (.int i) S Q:=.inl ⟨i,xs,d,rfl,.inr h,e,q⟩
def zyc {z:Str}{i:Int}{c:Nat}(hz:z.length<=big)(e:atS z i=some c)(q:Q (.str ⟨#[c]⟩) S):ZW (.str z) (.int i) S Q:=.inr ⟨z,i,c,rfl,rfl,hz,e,q⟩
def zww {xs:List D}{lo hi:Option Int}(q:Q (.tup (cutD xs lo hi)) S):RV (.tup xs) lo hi S Q:=.inl ⟨xs,rfl,q⟩
def zuX {x:D}{xs:List D}{lo hi:Option Int}(h:Lst S x xs)(q:New Q S (cutD xs lo hi)):RV x lo hi S Q:=.inr (.inl ⟨xs,h,q⟩)
def zvQ {xs:List D}(q:Q (.int xs.length) S):Y7 [.tup xs] S Q:=.inl ⟨_,xs,rfl,.inl rfl,q⟩
def zvr {x:D}{xs:List D}(h:Lst S x xs)(q:Q (.int xs.length) S):Y7 [x] S Q:=.inl ⟨_,xs,rfl,.inr h,q⟩
def zpF {z:Str}(hz:z.length<=big)(q:Q (.int z.length) S):Y7 [.str z] S Q:=.inr ⟨z,rfl,hz,q⟩
def zxC {i:Int}(q:Q (.int (i.natAbs:Int)) S):zrk [.int i] S Q:=⟨i,rfl,q⟩
def zvm {i j:Int}(q:Q (.int (max i j)) S):Ws [.int i,.int j] S Q:=⟨i,j,rfl,q⟩
def zvB {i j:Int}(q:Q (.int (min i j)) S):Uh [.int i,.int j] S Q:=⟨i,j,rfl,q⟩
def zvT {x:D}{ns:List Int}(h:Lst S x (ns.map D.int))(h0:0<ns.length)(q:∀ m:Int,m∈ns->(∀ a∈ns,a<=m)->Q (.int m) S):znH [x] S Q:=⟨x,ns,rfl,h,h0,q⟩
def zus {x:D}{ns:List Int}(h:Lst S x (ns.map D.int))(h0:0<ns.length)(q:∀ m:Int,m∈ns->(∀ a∈ns,m<=a)->Q (.int m) S):zoj [x] S Q:=⟨x,ns,rfl,h,h0,q⟩
def zxY {x:D}{bs:List Bool}(h:Lst S x (bs.map D.bl))(q:Q (.bl (bs.all id)) S):R7 [x] S Q:=⟨x,bs,rfl,h,q⟩
def zrb {x:D}{xs:List D}(h:Lst S x xs)(q:Q (.tup xs) S):zfH [x] S Q:=⟨_,xs,rfl,.inr h,q⟩
def zsL {x:D}{xs:List D}(h:Lst S x xs)(q:New Q S xs):ziW [x] S Q:=⟨_,xs,rfl,.inr h,q⟩
def zt6 {x:D}{cs:List (Int×Int)}(h:Lst S x (cs.map p2))(hl:cs.length<64)(q:∀ ss:List (Int×Int),ss.Perm cs->ss.Pairwise (fun a b=>Q5 b a=false)->New Q S (ss.map p2)):zow [x] S Q:=.inl ⟨x,cs,rfl,h,hl,q⟩
def zrT {n:Nat}{xs:List D}{y:D}(h:S[n]?=some (.lst xs))(hl:xs.length<big)(q:Put (Q .non) S n (.lst (xs++[y]))):TX (.ref n) [y] S Q:=⟨n,xs,y,rfl,rfl,h,hl,q⟩
def zp6 {n:Nat}{xs ys:List D}(h:S[n]?=some (.lst xs))(hl:xs.length+ys.length<=big)(q:Put (Q .non) S n (.lst (xs++ys))):zii (.ref n) [.tup ys] S Q:=.inr ⟨n,xs,ys,rfl,rfl,h,hl,q⟩
def zv1 {n:Nat}{xs:List D}{y:D}(h:S[n]?=some (.lst (y::xs)))(q:Put (Q y) S n (.lst xs)):zol (.ref n) [.int 0] S Q:=⟨n,xs,y,rfl,rfl,h,q⟩
def zs0 {n j:Nat}{xs:List D}{y e:D}(h:S[n]?=some (.lst xs))(f:xs.all (fl 20)=true)(g:fl 20 y=true)(hl:xs.length<=big)(hj:xs[j]?=some e)(h1:eqv e y=true)(h2:∀ (m:Nat) e',m<j->xs[m]?=some e'->eqv e' y=false)(q:Q (.int (j:Nat)) S):zmg (.ref n) [y] S Q:=⟨n,xs,y,j,e,rfl,rfl,h,f,g,hl,hj,h1,h2,q⟩
def Qc {n:Nat}{xs:List D}{k:Int}{j:Nat}{d:D}{ρ:ZR}{Q:ZR->Z5->Prop}(h:S[n]?=some (.lst xs))(e:X3 xs.length k=some j)(q:Put (Q ρ) S n (.lst (xs.set j d))):zsl d ρ Q (.ref n) (.int k) S:=⟨n,xs,k,j,rfl,rfl,h,e,q⟩
end
section
variable {ρ:ZR}{S:Z5}{R:S9->Z5->Prop}
def zvw {t:DE}(h:t ρ S fun x S1=>zhl x S1 R):Zj t ρ S R:=h
def zyl {xs:List D}(q:R ⟨xs,fun _=>True⟩ S):zhl (.tup xs) S R:=.inl ⟨xs,rfl,q⟩
def zxe {x:D}{xs:List D}(h:Lst S x xs)(q:R ⟨xs,fun S=>Lst S x xs⟩ S):zhl x S R:=.inr (.inl ⟨xs,h,q⟩)
def zxa {z:Str}(q:R ⟨signs z,fun _=>True⟩ S):zhl (.str z) S R:=.inr (.inr ⟨z,rfl,q⟩)
def zvq {t:DA}(h:t ρ S fun vs S1=>∃ j:Int,vs=[.int j]/\-(2 ^ 62)<=j/\j<2 ^ 62/\R ⟨upto 0 j.toNat,fun _=>True⟩ S1):PJ t ρ S R:=h
def zuP {t:DA}(h:t ρ S fun vs S1=>∃ i j:Int,vs=[.int i,.int j]/\R ⟨upto i (j-i).toNat,fun _=>True⟩ S1):zoB t ρ S R:=h
def zuR {t:DA}(h:t ρ S (zlA R)):RT t ρ S R:=h
def zjW {x:D}{xs:List D}(h:Lst S x xs)(q:R ⟨Wa 0 xs,fun S=>Lst S x xs⟩ S):zlA R [x] S:=.inl ⟨x,xs,rfl,h,q⟩
def zvZ {Q:DK}{i j:Int}(h:j-i<=900)(q:New Q S (upto i (j-i).toNat)):znA [.int i,.int j] S Q:=⟨i,j,rfl,h,q⟩
def zwp {Q:DK}{x:D}{zs:List Str}(hx:Lst S x (zs.map D.str))(hl:zs.length<=4000)(q:Q (.int (zr2 zs)) S):zoa [x] S Q:=⟨x,zs,rfl,hx,hl,q⟩
def zxM {t:DA}(h:t ρ S (znV R)):zox t ρ S R:=h
def zvy {x y:D}{xs ys:List D}(hx:Lst S x xs)(hy:Lst S y ys)(q:R ⟨Yg xs ys,fun S=>Lst S x xs/\Lst S y ys⟩ S):znV R [x,y] S:=.inl ⟨x,y,xs,ys,rfl,hx,hy,q⟩
def zzg {own:Nat}{fv:List Nat}{wi:DI}{g:DG}{tc:DT}{te:DE}{Q:DK}(h:wi ρ S fun J S1=>zrS own fv g tc te ρ Q J S1):Yz own fv wi g tc te ρ S Q:=h
end
def zrL {A B:Prop}(h:B):if false=true then A else B:=by rw[if_neg qp];exact h
def zrh {A B:Prop}(h:A):if true=true then A else B:=by rw[if_pos rfl];exact h
def ZM {c A B:Prop}[Decidable c](h1:c->A)(h2:¬ c->B):if decide c=true then A else B:=by
 by_cases h:c
 ·rw[decide_eq_true h,if_pos rfl];exact h1 h
 ·rw[decide_eq_false h,if_neg qp];exact h2 h
def QL {c A B:Prop}[Decidable c](h1:¬ c->A)(h2:c->B):if(!decide c)=true then A else B:=by
 by_cases h:c
 ·rw[decide_eq_true h];exact h2 h
 ·rw[decide_eq_false h];exact h1 h
def WQ (S T:Z5)(k:Nat):(S++T)[S.length+k]?=T[k]?:=by
 rw[qi (Pb _ _),qa0]
def zul (S T:Z5):(S++T)[S.length]?=T[0]?:=WQ S T 0
def Y4 {S T:Z5}{c:Cell}:(S++c::T)[S.length]?=some c:=(WQ S (c::T) 0).trans rfl
def zmI {S T:Z5}{c:Cell}:(S++(T++[c]))[S.length+T.length]?=some c:=by rw[WQ,qi (qf _),V7];rfl
def zsZ (S T:Z5)(k:Nat)(c:Cell):(S++T).set (S.length+k) c=S++T.set k c:=by
 rw[qaN _ _ (Pb _ _),qa0]
def VP (S T:Z5)(a c:Cell):(S++a::T).set S.length c=S++c::T:=zsZ S (a::T) 0 c
def Xq {S T:Z5}{n:Nat}{c:Cell}(h:S[n]?=some c):(S++T)[n]?=some c:=by
 have:n<S.length:=by
  rcases qL n S.length with g|g
  ·exact g
  ·rw[qv g]at h;cases h
 rw[qk this];exact h
def Lst.old {S T:Z5}{x:D}{xs:List D}(h:Lst S x xs):Lst (S++T) x xs:=h.imp id fun⟨n,e,h⟩=>⟨n,e,Xq h⟩
def Lst.at {S T:Z5}{k:Nat}{xs:List D}(h:T[k]?=some (.lst xs)):Lst (S++T) (.ref (S.length+k)) xs:=.inr ⟨_,rfl,by rw[WQ];exact h⟩
def Lst.at0 {S T:Z5}{xs:List D}:Lst (S++.lst xs::T) (.ref S.length) xs:=.inr ⟨_,rfl,by rw[zul];rfl⟩
def Lst.new {S T:Z5}{xs:List D}:Lst (S++(T++[.lst xs])) (.ref (S.length+T.length)) xs:=.inr ⟨_,rfl,zmI⟩
theorem Lst.rl {S:Z5}{xs:List D}:Lst S (.rl xs) xs:=.inl rfl
def Lst.here {S:Z5}{n:Nat}{xs:List D}(h:S[n]?=some (.lst xs)):Lst S (.ref n) xs:=.inr ⟨n,rfl,h⟩
def Xw {S T:Z5}{Q:DK}{d:D}(h:fl 20 d=true)(q:Q d S):Fin S Q d (S++T):=.inr ⟨S,qa1 _ _,qf _,.inl h,fun _ _ e=>.inl e,q⟩
def fin_same {S S':Z5}{Q:DK}{d:D}(q:Q d S'):Fin S Q d S':=.inl q
section
variable {S:Z5}{Q:DK}
def zkH {i:Int}(q:Q (.bl true) S):Sy [.int i,.ty "int"] S Q:=⟨_,_,true,rfl,by rfl,q⟩
def zjR {i:Int}(q:Q (.bl false) S):Sy [.int i,.ty "bool"] S Q:=⟨_,_,false,rfl,by rfl,q⟩
def zi3 {xs:List D}(q:Q (.bl true) S):Sy [.tup xs,.ty "tuple"] S Q:=⟨_,_,true,rfl,by rfl,q⟩
end
def zx4 {A B:Prop}(h:B):if(!true)=true then A else B:=zrL h
def zyb {A B:Prop}(h:A):if(!false)=true then A else B:=zrh h
def zgP {S:Z5}{Q:DK}{x:D}{bs:List Bool}{b:Bool}(h:Lst S x (bs.map D.bl))(e:bs.all id=b)(q:Q (.bl b) S):R7 [x] S Q:=zxY h (by rw[e];exact q)
def Rn (S:Z5)(items:List D)(p:D->Bool)(f:D->D)(i:Nat)(ys:List D)(S':Z5):Prop:=S'=S/\ys=((items.take i).filter p).map f
def VG {α:Type}{xs:List α}{i:Nat}{x:α}(h:xs[i]?=some x):xs.take (i+1)=xs.take i++[x]:=by rw[List.take_succ,h];rfl
def WW {S:Z5}{items:List D}{p:D->Bool}{f:D->D}{i:Nat}{ys:List D}{d y:D}(hd:items[i]?=some d)(hw:Rn S items p f i ys S)(hp:p d=true)(hy:y=f d):Rn S items p f (i+1) (ys++[y]) S :=
 ⟨rfl,by rw[VG hd,Py,qA,<- hw.2,Qk hp,hy];rfl⟩
def zoz {S:Z5}{items:List D}{p:D->Bool}{f:D->D}{i:Nat}{ys:List D}{d:D}(hd:items[i]?=some d)(hw:Rn S items p f i ys S)(hp:p d=false):Rn S items p f (i+1) ys S :=
 ⟨rfl,by rw[VG hd,Py,qA,<- hw.2,Qh (by rw[hp];exact qp)];simp⟩
def W8 {own:Nat}{fv:List Nat}{xs:List D}{ok:Z5->Prop}{g:DG}{tc:DT}{te:DE}{ρ:ZR}{S:Z5}{Q:DK}(p:D->Bool)(f:D->D)(hok:ok S)(hbig:xs.length<=big)
  (step:∀ i d ys,xs[i]?=some d->Rn S xs p f i ys S->g d (Qt own fv ρ) S fun ρ2 S2=>tc ρ2 S2 fun b S3=>if b=true then te ρ2 S3 fun y S4=>Rn S xs p f (i+1) (ys++[y]) S4 else Rn S xs p f (i+1) ys S3)
  (q:New Q S ((xs.filter p).map f)):zrS own fv g tc te ρ Q ⟨xs,ok⟩ S:=by
 refine⟨hbig,Rn S xs p f,⟨rfl,by simp⟩,fun i ys S' h=>by rw[h.1];exact hok,fun i d ys S' hd h=>?_,fun ys S' h=>?_⟩
 ·obtain⟨rfl,_⟩:=id h
  exact step i d ys hd h
 ·obtain⟨rfl,rfl⟩:=h
  rw[T6];exact q
def map_const {α β:Type}(xs:List α)(c:β):xs.map (fun _=>c)=List.replicate xs.length c:=by
 induction xs with
 |nil=>rfl
 |cons x xs ih=>rw[qE,ih];rfl
def filter_true {α:Type}(xs:List α):xs.filter (fun _=>true)=xs:=List.filter_eq_self.mpr fun _ _=>rfl
def T4 {ds:List D}{i:Nat}{d:D}(h:ds[i]?=some d):Y9 ds (i:Int)=some d:=by
 have hl:i<ds.length:=by
  rcases qL i ds.length with g|g
  ·exact g
  ·rw[qv g]at h;cases h
 unfold Y9 X3
 rw[if_pos (by lia),if_pos (by lia)]
 simpa using h
def zjO {lo:Int}{n i:Nat}{d:D}(h:(upto lo n)[i]?=some d):i<n/\d=.int (lo+i):=by
 unfold upto at h
 rw[qj]at h
 by_cases hi:i<n
 ·rw[qbh hi]at h
  exact⟨hi,by simpa using h.symm⟩
 ·rw[qv (by simpa using hi)]at h;cases h
def zfh (lo:Int)(n:Nat):(upto lo n).length=n:=by unfold upto;simp
def zo7 {zs:List Int}{k:Int}(h0:0<=k)(h:k<zs.length):∃ z,z∈zs/\Y9 (zs.map D.int) k=some (.int z):=by
 refine⟨zs[k.toNat]'(by lia),List.getElem_mem _,?_⟩
 unfold Y9 X3
 rw[qb,if_pos h0,if_pos h]
 simp only[Option.bind_some]
 rw[qj,qc (by lia)];rfl
def zws {zs:List Int}{k:Int}(h0:0<=k)(h:k<zs.length):X3 (zs.map D.int).length k=some k.toNat:=by
 unfold X3
 rw[qb,if_pos h0,if_pos h]
def zqB {zs:List Int}{i:Nat}{v z:Int}(h:z∈zs.set i v):z∈zs\/z=v:=by
 rcases List.mem_or_eq_of_mem_set h with h|h
 ·exact .inl h
 ·exact .inr h
def Tp {zs:List Int}{i:Nat}{d:D}(h:(zs.map D.int)[i]?=some d):∃ z,zs[i]?=some z/\d=.int z:=by
 rw[qj]at h
 cases e:zs[i]? with
 |none=>rw[e]at h;cases h
 |some p=>rw[e]at h;cases h;exact⟨p,rfl,rfl⟩
def S7 {cs:List (Int×Int)}{i:Nat}{d:D}(h:(cs.map p2)[i]?=some d):∃ c,cs[i]?=some c/\d=p2 c:=by
 rw[qj]at h
 cases e:cs[i]? with
 |none=>rw[e]at h;cases h
 |some p=>rw[e]at h;cases h;exact⟨p,rfl,rfl⟩
def zV {α:Type}{xs:List α}{i:Nat}{x:α}(h:xs[i]?=some x):i<xs.length:=by
 rcases qL i xs.length with g|g
 ·exact g
 ·rw[qv g]at h;cases h
def YB:Option Int->D
 |none=>.non
 |some v=>.int v
theorem Ss:∀ {xs:List D} {k i:Nat} {d:D},(Wa k xs)[i]?=some d->∃ x,xs[i]?=some x/\d=.tup [.int ((k+i:Nat):Int),x]
 |[],k,i,d,h=>by simp[Wa]at h
 |x::xs,k,0,d,h=>⟨x,rfl,by simpa [Wa]using h.symm⟩
 |x::xs,k,i+1,d,h=>by
  obtain⟨y,e1,e2⟩:=Ss (xs:=xs) (k:=k+1) (i:=i) (d:=d) (by simpa [Wa]using h)
  exact⟨y,by simpa using e1,by rw[e2,show k+1+i=k+(i+1) by lia]⟩
theorem Um:∀ (k:Nat) (xs:List D),(Wa k xs).length=xs.length
  |_,[]=>rfl
  |k,x::xs=>congrArg (· + 1) (Um (k+1) xs)
theorem zeU:∀ {xs ys:List D} {i:Nat} {d:D},(Yg xs ys)[i]?=some d->∃ x y,xs[i]?=some x/\ys[i]?=some y/\d=.tup [x,y]
 |[],ys,i,d,h=>by simp[Yg]at h
 |x::xs,[],i,d,h=>by simp[Yg]at h
 |x::xs,y::ys,0,d,h=>⟨x,y,rfl,rfl,by simpa [Yg]using h.symm⟩
 |x::xs,y::ys,i+1,d,h=>by
  obtain⟨a,b,e1,e2,e3⟩:=zeU (xs:=xs) (ys:=ys) (i:=i) (d:=d) (by simpa [Yg]using h)
  exact⟨a,b,by simpa using e1,by simpa using e2,e3⟩
theorem Qd:∀ (xs ys:List D),(Yg xs ys).length=min xs.length ys.length
 |[],ys=>by simp[Yg]
 |x::xs,[]=>by simp[Yg]
 |x::xs,y::ys=>by
  show(Yg xs ys).length+1=min (xs.length+1) (ys.length+1)
  rw[Qd xs ys];lia
def zfE:ZS:=fun ds S Q=>∃ ns:List Int,ds=[.rl (ns.map D.int)]/\(S=[]/\∀ n∈ns,Hg n)/\ns.length<=63/\∀ S',Q (.bl true) S'
def zjP {α β:Type}(f:α->β)(xs:List α)(lo hi:Option Int):cutD (xs.map f) lo hi=(cutD xs lo hi).map f:=by
 unfold cutD
 rw[qb,List.map_take,List.map_drop]
def zsI {α:Type}(xs:List α)(lo hi:Option Int):(cutD xs lo hi).length<=W0 xs.length xs.length hi-W0 xs.length 0 lo:=by
 unfold cutD
 rw[Vy];lia
section
variable {nx:ZR->Z5->Prop}{rt:DK}{bk ct:ZR->Z5->Prop}{ρ:ZR}{S:Z5}
def zt2 {f:Ww}{ex:XR}{t:DA}{Q:DK}(h:t ρ S fun xs S1=>f xs S1 Q (ex ρ)):Wm f ex t ρ S Q:=h
def ztu {ex:XR}{c:Str}(h:ex ρ c S):zfN ex c ⟨nx,rt,bk,ct⟩ ρ S:=h
end
def zxv {S:Z5}{Q:DK}{x y:D}{xs ys:List D}{b:Bool}(hx:Lst S x xs)(hy:Lst S y ys)(fx:xs.all (fl 20)=true)(fy:ys.all (fl 20)=true)(e:eqvAll xs ys=b)(q:Q (.bl (!b)) S):Wj x y S Q:=⟨_,.inr (.inl ⟨xs,ys,hx,hy,fx,fy,rfl⟩),by rw[e];exact q⟩
def ztd {S:Z5}{Q:DK}{x y:Str}{b:Bool}(fx:fl 20 (.str x)=true)(fy:fl 20 (.str y)=true)(e:(x==y)=b)(q:Q (.bl b) S):oEq (.str x) (.str y) S Q:=⟨_,.inl ⟨fx,fy,rfl⟩,by show Q (.bl (x==y)) S;rw[e];exact q⟩
def zs9 {S:Z5}{Q:DK}{x y:Str}{b:Bool}(fx:fl 20 (.str x)=true)(fy:fl 20 (.str y)=true)(e:(x==y)=b)(q:Q (.bl (!b)) S):Wj (.str x) (.str y) S Q:=⟨_,.inl ⟨fx,fy,rfl⟩,by show Q (.bl (!(x==y))) S;rw[e];exact q⟩
section
variable {nx:ZR->Z5->Prop}{rt:DK}{bk ct:ZR->Z5->Prop}{ρ:ZR}{S:Z5}{Q:DK}{td ti tz tv:DE}
def zwm (h:Q (.ref S.length) (S++[.dk []])):zn2 ρ S Q:=h
def zv3 (h:Q (.ref S.length) (S++[.dt []])):zoh ρ S Q:=h
def zwQ (h:td ρ S fun x S1=>ti ρ S1 fun y S2=>∃ d,Vu S2 x y (some d)/\Q d S2):QX td ti ρ S Q:=h
def zu6 (h:tv ρ S fun v S1=>td ρ S1 fun x S2=>ti ρ S2 fun y S3=>Uk S3 x y v (nx ρ)):O7 td ti tv ⟨nx,rt,bk,ct⟩ ρ S:=h
def Vu.k {n:Nat}{Z6:List (Str×D)}{z:Str}{o:Option D}(h:S[n]?=some (.dk Z6))(e:dval Z6 z=o):Vu S (.ref n) (.str z) o:=.inl ⟨n,Z6,z,rfl,rfl,h,e.symm⟩
def Vu.t {n:Nat}{Z6:List (List (Sum Int Str)×D)}{ks:List (Sum Int Str)}{o:Option D}(h:S[n]?=some (.dt Z6))(e:dval Z6 ks=o):Vu S (.ref n) (.tup (ks.map kD)) o:=.inr ⟨n,Z6,ks,rfl,rfl,h,e.symm⟩
def Uk.k {n:Nat}{Z6:List (Str×D)}{z:Str}{v:D}{P:Z5->Prop}(h:S[n]?=some (.dk Z6))(hl:Z6.length<big)(q:Put P S n (.dk (dput Z6 z v))):Uk S (.ref n) (.str z) v P:=.inl ⟨n,Z6,z,rfl,rfl,h,hl,q⟩
def Uk.t {n:Nat}{Z6:List (List (Sum Int Str)×D)}{ks:List (Sum Int Str)}{v:D}{P:Z5->Prop}(h:S[n]?=some (.dt Z6))(hl:Z6.length<big)(q:Put P S n (.dt (dput Z6 ks v))):Uk S (.ref n) (.tup (ks.map kD)) v P:=.inr ⟨n,Z6,ks,rfl,rfl,h,hl,q⟩
end
section
variable {κ:Type}[DecidableEq κ]
def zlZ {k:κ}:dval ([]:List (κ×D)) k=none:=rfl
def Ul {p:κ×D}{Z6:List (κ×D)}{k:κ}:dval (p::Z6) k=if p.1=k then some p.2 else dval Z6 k:=by
 unfold dval
 rw[List.find?_cons]
 by_cases h:p.1=k
 ·rw[if_pos h,decide_eq_true h];rfl
 ·rw[if_neg h,decide_eq_false h]
def zf8 (Z6:List (κ×D))(k:κ):(Z6.any fun kv=>decide (kv.1=k))=(dval Z6 k).isSome:=by
 induction Z6 with
 |nil=>rfl
 |cons p Z6 ih =>
  rw[R4,Ul,ih]
  by_cases h:p.1=k
  ·rw[if_pos h,decide_eq_true h];rfl
  ·rw[if_neg h,decide_eq_false h];rfl
def zpe (Z6:List (κ×D))(k j:κ)(v:D):dval (Z6++[(k,v)]) j=(dval Z6 j).or (if k=j then some v else none):=by
 induction Z6 with
 |nil=>rw[List.nil_append,Ul,zlZ];simp
 |cons p Z6 ih =>
  rw[List.cons_append,Ul,Ul,ih]
  by_cases h:p.1=j
  ·rw[if_pos h,if_pos h];rfl
  ·rw[if_neg h,if_neg h]
def zie (Z6:List (κ×D))(k j:κ)(v:D):dval (dput Z6 k v) j=if k=j then some v else dval Z6 j:=by
  unfold dput
  rw[zf8]
  cases e:dval Z6 k with
  |none =>
    rw[show(none:Option D).isSome=false from rfl,if_neg qp,zpe]
    by_cases h:k=j
    . subst h;rw[e,if_pos rfl];rfl
    . rw[if_neg h,if_neg h];cases dval Z6 j<;>rfl
  |some w =>
    rw[show(some w).isSome=true from rfl,if_pos rfl]
    have:∀ Z6:List (κ×D),dval (Z6.map fun kv=>if kv.1=k then(kv.1,v)else kv) j=if k=j then(dval Z6 j).map fun _=>v else dval Z6 j:=fun Z6=>by
      induction Z6 with
      |nil=>simp[zlZ]
      |cons p Z6 ih =>
        rw[qE,Ul,Ul,ih]
        by_cases hp:p.1=k
        . rw[if_pos hp]
          by_cases h:k=j
          . rw[if_pos h,if_pos (hp.trans h),if_pos (hp.trans h)];simp[h]
          . have:¬ p.1=j:=fun z=>h (hp.symm.trans z)
            rw[if_neg this,if_neg this,if_neg h]
        . rw[if_neg hp]
          by_cases h:k=j
          . have:¬ p.1=j:=fun z=>hp (z.trans h.symm)
            rw[if_neg this,if_neg this]
          . rw[if_neg h,if_neg h]
    rw[this]
    by_cases h:k=j
    . subst h;rw[if_pos rfl,if_pos rfl,e];rfl
    . rw[if_neg h,if_neg h]
def zil (Z6:List (κ×D))(k:κ)(v:D):(dput Z6 k v).length<=Z6.length+1:=by
 unfold dput
 split
 ·rw[qb];lia
 ·simp
def zoU (Z6:List (κ×D))(k:κ)(v:D):(dput Z6 k v).map (·.1)=if(dval Z6 k).isSome=true then Z6.map (·.1)else Z6.map (·.1)++[k]:=by
  unfold dput
  rw[zf8]
  split
  . rw[qT]
    refine List.map_congr_left fun p _=>?_
    show(if p.1=k then(p.1,v)else p).1=p.1
    split<;>rfl
  . rw[qA];rfl
end
def zix (c:List Str)(z:Str):(Rr c z).length=if c.any (·==z)then c.length else c.length+1:=by
  unfold Rr;split<;>simp
def zmh (c:List Str)(z y:Str):(Rr c z).any (·==y)=(c.any (·==y)||decide (y=z)):=by
  unfold Rr
  by_cases h:c.any (·==z)=true
  . rw[if_pos h]
    by_cases e:y=z
    . subst e;rw[h];rfl
    . rw[decide_eq_false e,qbr]
  . rw[if_neg h,qa2]
    congr 1
    by_cases e:y=z
    . subst e;simp
    . rw[decide_eq_false e]
      have:(z==y)=false:=beq_eq_false_iff_ne.mpr fun q=>e q.symm
      simp[this]
theorem zjH (f:Nat->Str):∀ i,(Xg f i).length<=i
  |0=>qf _
  |i+1=>by
    have:=zjH f i
    show(Rr (Xg f i) (f i)).length<=i+1
    rw[zix];split<;>lia
theorem zk1 (f:Nat->Str)(y:Str):∀ i,((Xg f i).any (·==y)=true↔∃ j,j<i/\f j=y)
  |0=>⟨fun h=>(by simp[Xg]at h),fun⟨j,hj,_⟩=>(by lia)⟩
  |i+1=>by
    show((Rr (Xg f i) (f i)).any (·==y)=true)↔_
    rw[zmh,Pg,zk1 f y i,decide_eq_true_eq]
    constructor
    . rintro(⟨j,hj,e⟩|e)
      . exact⟨j,by lia,e⟩
      . exact⟨i,by lia,e.symm⟩
    . rintro⟨j,hj,e⟩
      rcases qL j i with h|h
      . exact .inl ⟨j,h,e⟩
      . have:j=i:=by lia
        subst this;exact .inr e.symm
theorem zlr (f:Nat->Str):∀ i,(∀ a b,a<b->b<i->f a≠f b)->(Xg f i).length=i
 |0,_=>rfl
 |i+1,h=>by
  show(Rr (Xg f i) (f i)).length=i+1
  rw[zix,zlr f i fun a b x y=>h a b x (by lia)]
  rw[if_neg]
  intro z
  obtain⟨j,hj,e⟩:=(zk1 f (f i) i).mp z
  exact h j i hj (by lia) e
def zoF {zs:List Str}(h:zs.Nodup):zr2 zs=zs.length:=zlr _ _ fun a b hab hb=>by
 show zs.getD a Str.empty≠zs.getD b Str.empty
 rw[qC,qC,qc hb,qc (show a<zs.length by lia)]
 exact Px.mp h a b (by lia) hb hab
end Dp
namespace Rm
structure Pc where
 lo:Int
 hi:Int
 to:Int
 st:Int
instance:DecidableEq Pc:=fun p q=>if h:p.lo=q.lo/\p.hi=q.hi/\p.to=q.to/\p.st=q.st then isTrue (by cases p;cases q;obtain⟨h1,h2,h3,h4⟩:=h;cases h1;cases h2;cases h3;cases h4;rfl)else isFalse (fun e=>h (by subst e;exact⟨rfl,rfl,rfl,rfl⟩))
def Pc.led (p:Pc)(h:Int):Int:=p.to+p.st*(h-p.lo)
def Pc.fin (p:Pc):Int:=p.led p.hi
def draw (p:Pc)(t:Int):Prop:=if p.lo=p.hi then t=p.to\/t=p.to+1 else t=p.led (p.hi+1)
instance (p:Pc) (t:Int):Decidable (draw p t):=by unfold draw;infer_instance
structure Good (p:Pc):Prop where
 le:p.lo<=p.hi
 st:p.st=0\/p.st=1
 one:p.lo=p.hi->p.st=0
structure Link (p q:Pc):Prop where
 nx:q.lo=p.hi+1
 up:p.fin<=q.to
 nd:¬ draw p q.to
structure ZX (ps:List Pc):Prop where
 good:∀ p∈ps,Good p
 link:∀ (i:Nat) p q,ps[i]?=some p->ps[i+1]?=some q->Link p q
def ZX.nil:ZX []:=⟨(fun _ h=>by simp at h),fun i p q h=>by simp at h⟩
def Yj (p:Pc)(h:Int):Prop:=p.lo<=h/\h<=p.hi
instance (p:Pc) (h:Int):Decidable (Yj p h):=by unfold Yj;infer_instance
def at':List Pc->Int->Option Int
 |[],_=>none
 |p::r,h=>if Yj p h then some (p.led h)else at' r h
def XS (p:Pc)(r:List Pc)(h:Int):at' (p::r) h=if Yj p h then some (p.led h)else at' r h:=rfl
def zkj (a b:List Pc)(h:Int):at' (a++b) h=(at' a h).or (at' b h):=by
 induction a with
 |nil=>simp[at']
 |cons p a ih =>
  rw[List.cons_append,XS,XS]
  split
  ·rfl
  ·exact ih
def ZX.init {ps:List Pc}{p:Pc}(h:ZX (ps++[p])):ZX ps/\Good p/\∀ q,ps.getLast?=some q->Link q p:=by
 refine⟨⟨fun q hq=>h.good q (by simp[hq]),fun i a b ha hb=>h.link i a b ?_ ?_⟩,h.good p (by simp),fun q hq=>?_⟩
 ·rw[qk (by
   rcases qL i ps.length with g|g
   ·exact g
   ·rw[qv g]at ha;cases ha)];exact ha
 ·rw[qk (by
   rcases qL (i+1) ps.length with g|g
   ·exact g
   ·rw[qv g]at hb;cases hb)];exact hb
 ·have hne:ps≠[]:=by intro e;rw[e]at hq;simp at hq
  have hl:0<ps.length:=List.length_pos_iff.mpr hne
  refine h.link (ps.length-1) q p ?_ ?_
  ·rw[qk (by lia),<- qbo];exact hq
  ·rw[show ps.length-1+1=ps.length by lia,qi (qf _),V7];rfl
def ZX.snoc {ps:List Pc}{p:Pc}(h:ZX ps)(g:Good p)(l:∀ q,ps.getLast?=some q->Link q p):ZX (ps++[p]):=by
 refine⟨fun q hq=>?_,fun i a b ha hb=>?_⟩
 ·rcases qJ.mp hq with hq|hq
  ·exact h.good q hq
  ·have:q=p:=by simpa using hq
   subst this;exact g
 ·rcases qL (i+1) ps.length with hi|hi
  ·rw[qk (by lia)]at ha
   rw[qk hi]at hb
   exact h.link i a b ha hb
  ·rcases qL i ps.length with hj|hj
   ·have e:i+1=ps.length:=by lia
    rw[qk hj]at ha
    rw[e,qi (qf _),V7]at hb
    have eb:p=b:=by simpa using hb
    subst eb
    exact l a (by rw[qbo,show ps.length-1=i by lia];exact ha)
   ·rw[qi (by lia)]at hb
    rw[qv (by simp;lia)]at hb
    cases hb
def ZX.below:∀ {ps:List Pc} {p:Pc},ZX (ps++[p])->∀ q∈ps,q.hi<p.lo:=by
 intro ps
 induction hn:ps.length generalizing ps with
 |zero=>intro p h q hq;have:=RK.mp hn;subst this;simp at hq
 |succ n ih =>
  intro p h q hq
  have hne:ps≠[]:=by intro e;rw[e]at hn;simp at hn
  have hs:=qaJ hne
  obtain⟨h1,hg,hl⟩:=h.init
  have lk:=hl (ps.getLast hne) (List.getLast?_eq_some_getLast hne)
  have gl:=h1.good _ (List.getLast_mem hne)
  have a1:=lk.nx
  rw[<- hs]at hq
  rcases qJ.mp hq with hq|hq
  ·have h1':ZX (ps.dropLast++[ps.getLast hne]):=by rw[hs];exact h1
   have:=ih (ps:=ps.dropLast) (by rw[List.length_dropLast,hn];rfl) h1' q hq
   have:=gl.le
   lia
  ·have:q=ps.getLast hne:=by simpa using hq
   rw[this];lia
def zjE {ps:List Pc}{h:Int}(hb:∀ q∈ps,q.hi<h):at' ps h=none:=by
 induction ps with
 |nil=>rfl
 |cons p r ih =>
  rw[XS,if_neg (by intro z;have:=hb p (by simp);have:=z.2;lia)]
  exact ih fun q hq=>hb q (by simp[hq])
def zhr {ps:List Pc}{p:Pc}(hr:ZX (ps++[p]))(h:Int):at' (ps++[p]) h=if Yj p h then some (p.led h)else at' ps h:=by
 rw[zkj]
 by_cases hi:Yj p h
 ·rw[if_pos hi,zjE fun q hq=>by have:=hr.below q hq;have:=hi.1;lia]
  rw[XS,if_pos hi];rfl
 ·rw[if_neg hi]
  have:at' [p] h=none:=by rw[XS,if_neg hi];rfl
  rw[this,Option.or_none]
def U7 {p:Pc}(h:p.st=0\/p.st=1)(x:Int):p.led x=if p.st=0 then p.to else p.to+(x-p.lo):=by
  unfold Pc.led
  rcases h with e|e<;>rw[e]<;>simp
structure QZ (ps:List Pc)(lo hi to st:Int)(qs:List Pc):Prop where
 isR:ZX qs
 led:∀ h,at' qs h=if lo<=h/\h<=hi then some (to+st*(h-lo))else at' ps h
 last:lo<=hi->∃ q,qs.getLast?=some q/\q.hi=hi/\q.fin=to+st*(hi-lo)
 none:hi<lo->qs=ps
 len:qs.length<=ps.length+1
 head:∀ p,ps.head?=some p->∃ q,qs.head?=some q/\q.lo=p.lo/\q.to=p.to
 first:ps=[]->lo<=hi->∃ q,qs.head?=some q/\q.lo=lo/\q.to=to
def Wc (ps:List Pc)(lo hi to st:Int):List Pc :=
 match ps.getLast? with
 |none=>if lo<=hi then[⟨lo,hi,to,if lo<hi then st else 0⟩]else[]
 |some p=>if lo<=hi/\draw p to then
   (if(if st=to-p.fin then hi else lo)+1<=hi then ps.dropLast++[⟨p.lo,lo,p.to,to-p.fin⟩]++[⟨lo+1,hi,to+st*(lo+1-lo),if lo+1<hi then st else 0⟩]else ps.dropLast++[⟨p.lo,(if st=to-p.fin then hi else lo),p.to,to-p.fin⟩])
  else if lo<=hi then ps++[⟨lo,hi,to,if lo<hi then st else 0⟩]else ps
def zpo {p:Pc}{t:Int}(g:Good p)(hd:draw p t):(t-p.fin=0\/t-p.fin=1)/\(p.lo<p.hi->t-p.fin=p.st):=by
  unfold draw at hd
  unfold Pc.fin
  rw[U7 g.st]at hd ⊢
  have:=g.le
  have h1:=g.one
  rcases g.st with e|e<;>simp only[e]at hd ⊢<;>split at hd<;>rename_i hh<;>simp at hd ⊢<;>(try simp only[e]at h1)<;>lia
def zfb {ps:List Pc}{p:Pc}(h:ps.getLast?=some p):ps=ps.dropLast++[p]:=by
 have hne:ps≠[]:=by intro e;rw[e]at h;simp at h
 rw[List.getLast?_eq_some_getLast hne]at h
 have e:=qaJ hne
 cases h
 exact e.symm
def Link.same {q p P:Pc}(h:Link q p)(h1:P.lo=p.lo)(h2:P.to=p.to):Link q P:=⟨by rw[h1];exact h.nx,by rw[h2];exact h.up,by rw[h2];exact h.nd⟩
def TJ {e:Int}(he:e=0\/e=1)(x:Int):e*x=if e=0 then 0 else x:=by
  rcases he with rfl|rfl<;>simp
def zv9 {ps:List Pc}{lo hi to st:Int}(hr:ZX ps)(hst:st=0\/st=1)(hp:lo<=hi->∀ p,ps.getLast?=some p->p.hi+1=lo/\p.fin<=to):QZ ps lo hi to st (Wc ps lo hi to st):=by
  by_cases hlh:lo<=hi
  case neg =>
    have e:Wc ps lo hi to st=ps:=by
      unfold Wc
      cases hl:ps.getLast? with
      |none=>rw[PB]at hl;subst hl;simp only[];rw[if_neg hlh]
      |some p=>simp only[];rw[if_neg (fun z=>hlh z.1),if_neg hlh]
    rw[e]
    exact⟨hr,fun h=>by rw[if_neg (by lia)],fun z=>absurd z hlh,fun _=>rfl,by lia,fun p hp=>⟨p,hp,rfl,rfl⟩,fun _ z=>absurd z hlh⟩
  have hs:st*(hi-lo)=if st=0 then 0 else hi-lo:=TJ hst _
  have newG:Good ⟨lo,hi,to,if lo<hi then st else 0⟩:=⟨hlh,by show(if lo<hi then st else 0)=0\/_=1;split<;>first|exact hst|exact .inl rfl,fun e=>by
    have e':lo=hi:=e
    show(if lo<hi then st else 0)=0
    rw[if_neg (by lia)]⟩
  have newL:∀ h,Yj ⟨lo,hi,to,if lo<hi then st else 0⟩ h->Pc.led ⟨lo,hi,to,if lo<hi then st else 0⟩ h=to+st*(h-lo):=fun h ⟨h1,h2⟩=>by
    have h1':lo<=h:=h1
    have h2':h<=hi:=h2
    show to+(if lo<hi then st else 0)*(h-lo)=_
    by_cases hl:lo<hi
    . rw[if_pos hl]
    . rw[if_neg hl,show h=lo by lia];simp
  have app:(∀ p,ps.getLast?=some p->Link p ⟨lo,hi,to,if lo<hi then st else 0⟩)->QZ ps lo hi to st (ps++[⟨lo,hi,to,if lo<hi then st else 0⟩]):=fun lk=>by
    have hr':=hr.snoc newG lk
    refine⟨hr',fun h=>?_,fun _=>⟨_,qaQ,rfl,newL hi ⟨hlh,qr _⟩⟩,fun z=>by lia,by simp,fun p hp=>?_,fun e _=>by subst e;exact⟨_,rfl,rfl,rfl⟩⟩
    . rw[zhr hr']
      by_cases hh:lo<=h/\h<=hi
      . rw[if_pos hh,if_pos (show Yj ⟨lo,hi,to,if lo<hi then st else 0⟩ h from hh),newL h hh]
      . rw[if_neg hh,if_neg (show ¬ Yj ⟨lo,hi,to,if lo<hi then st else 0⟩ h from hh)]
    . refine⟨p,?_,rfl,rfl⟩
      cases ps with
      |nil=>simp at hp
      |cons a r=>exact hp
  cases hl:ps.getLast? with
  |none =>
    have e:Wc ps lo hi to st=ps++[⟨lo,hi,to,if lo<hi then st else 0⟩]:=by
      have:ps=[]:=PB.mp hl
      subst this
      unfold Wc
      simp only[List.getLast?_nil];rw[if_pos hlh];rfl
    rw[e]
    exact app fun p h=>by rw[hl]at h;cases h
  |some p =>
    obtain⟨hn,hu⟩:=hp hlh p hl
    have hps:=zfb hl
    have hr2:ZX (ps.dropLast++[p]):=by rw[<- hps];exact hr
    obtain⟨hi0,hg,hlk⟩:=hr2.init
    by_cases hd:draw p to
    case neg =>
      have e:Wc ps lo hi to st=ps++[⟨lo,hi,to,if lo<hi then st else 0⟩]:=by
        unfold Wc
        rw[hl]
        simp only[]
        rw[if_neg (fun z=>hd z.2),if_pos hlh]
      rw[e]
      exact app fun q hq=>by
        rw[hl]at hq;cases hq
        exact⟨hn.symm,hu,hd⟩
    obtain⟨he,hes⟩:=zpo hg hd
    generalize hE:to-p.fin=e at he hes
    have hple:=hg.le
    have drawn:∀ x,lo<=x->(∀ h,Yj p h->Pc.led ⟨p.lo,x,p.to,e⟩ h=p.led h)/\(∀ h,lo<=h->Pc.led ⟨p.lo,x,p.to,e⟩ h=to+e*(h-lo))/\ZX (ps.dropLast++[⟨p.lo,x,p.to,e⟩]):=fun x hx=>by
      refine⟨fun h ⟨h1,h2⟩=>?_,fun h h1=>?_,hi0.snoc ⟨by show p.lo<=x;lia,he,fun z=>by have z':p.lo=x:=z;lia⟩ fun q hq=>(hlk q hq).same rfl rfl⟩
      . show p.to+e*(h-p.lo)=p.to+p.st*(h-p.lo)
        by_cases hq:p.lo<p.hi
        . rw[hes hq]
        . rw[show h=p.lo by lia];simp
      . show p.to+e*(h-p.lo)=to+e*(h-lo)
        rw[TJ he,TJ he]
        unfold Pc.fin at hE
        rw[U7 hg.st]at hE
        by_cases hq:p.lo<p.hi
        . have:=hes hq
          rw[<- this]at hE
          split at hE<;>rename_i z<;>(first|rw[if_pos z,if_pos z]|rw[if_neg z,if_neg z])<;>lia
        . have e1:=hg.one (by lia)
          rw[if_pos e1]at hE
          split<;>lia
    have atd:∀ x h,lo<=x->at' (ps.dropLast++[⟨p.lo,x,p.to,e⟩]) h=if lo<=h/\h<=x then some (to+e*(h-lo))else at' ps h:=fun x h hx=>by
      obtain⟨d1,d2,d3⟩:=drawn x hx
      rw[zhr d3]
      have ea:at' ps h=if Yj p h then some (p.led h)else at' ps.dropLast h:=by
        have:=zhr hr2 h
        rw[<- hps]at this;exact this
      by_cases hh:lo<=h/\h<=x
      . rw[if_pos hh,if_pos (show Yj ⟨p.lo,x,p.to,e⟩ h from ⟨by show p.lo<=h;lia,hh.2⟩),d2 h hh.1]
      . rw[if_neg hh,ea]
        by_cases hp':Yj p h
        . have a1:=hp'.1
          have a2:=hp'.2
          rw[if_pos hp',if_pos (show Yj ⟨p.lo,x,p.to,e⟩ h from ⟨a1,by show h<=x;lia⟩),d1 h hp']
        . rw[if_neg hp', if_neg (show ¬ Yj ⟨p.lo, x, p.to, e⟩ h from fun z => by
            have z1:p.lo<=h:=z.1
            have z2:h<=x:=z.2
            exact hp' ⟨z1,by lia⟩)]
    have hlen:(ps.dropLast).length+1=ps.length:=by
      have:=congrArg List.length hps
      rw[qh]at this
      simpa using this.symm
    have hhead:∀ (x:Int) (r:List Pc) (q:Pc),ps.head?=some q->∃ q',(ps.dropLast++[(⟨p.lo,x,p.to,e⟩:Pc)]++r).head?=some q'/\q'.lo=q.lo/\q'.to=q.to:=fun x r q hq=>by
      rw[hps]at hq
      cases hdl:ps.dropLast with
      |nil =>
        rw[hdl]at hq
        have:p=q:=by simpa using hq
        subst this
        exact⟨_,rfl,rfl,rfl⟩
      |cons a l =>
        rw[hdl]at hq
        have:a=q:=by simpa using hq
        subst this
        exact⟨a,rfl,rfl,rfl⟩
    have hne:ps≠[]:=by intro z;rw[z]at hl;simp at hl
    by_cases hse:st=e
    . have eq : Wc ps lo hi to st = ps.dropLast ++ [⟨p.lo, hi, p.to, e⟩] := by
        unfold Wc
        rw[hl]
        simp only[]
        rw[hE,if_pos ⟨hlh,hd⟩,if_pos hse,if_neg (by lia)]
      rw[eq]
      obtain⟨d1,d2,d3⟩:=drawn hi hlh
      refine⟨d3,fun h=>by rw[atd hi h hlh,hse],fun _=>⟨_,qaQ,rfl,by show Pc.led _ hi=_;rw[d2 hi hlh,hse]⟩,fun z=>by lia,by rw[qh];show _+1<=_;lia,fun q hq=>?_,fun z=>absurd z hne⟩
      have:=hhead hi [] q hq
      rw[qU]at this;exact this
    . by_cases h2:lo+1<=hi
      . have eq : Wc ps lo hi to st = ps.dropLast ++ [⟨p.lo, lo, p.to, e⟩] ++ [⟨lo + 1, hi, to + st * (lo + 1 - lo), if lo + 1 < hi then st else 0⟩] := by
          unfold Wc
          rw[hl]
          simp only[]
          rw[hE,if_pos ⟨hlh,hd⟩,if_neg hse,if_pos h2]
        rw[eq]
        obtain⟨d1,d2,d3⟩:=drawn lo (qr _)
        have e1:to+st*(lo+1-lo)=to+st:=by rw[show lo+1-lo=1 by lia,WR]
        have fl:Pc.fin ⟨p.lo,lo,p.to,e⟩=to:=by
          show Pc.led _ lo=_
          rw[d2 lo (qr _)];simp
        have gR:Good ⟨lo+1,hi,to+st*(lo+1-lo),if lo+1<hi then st else 0⟩:=⟨h2,by show(if lo+1<hi then st else 0)=0\/_=1;split<;>first|exact hst|exact .inl rfl,fun z=>by
          have z':lo+1=hi:=z
          show(if lo+1<hi then st else 0)=0
          rw[if_neg (by lia)]⟩
        have lR:∀ h,Yj ⟨lo+1,hi,to+st*(lo+1-lo),if lo+1<hi then st else 0⟩ h->Pc.led ⟨lo+1,hi,to+st*(lo+1-lo),if lo+1<hi then st else 0⟩ h=to+st*(h-lo):=fun h ⟨z1,z2⟩=>by
          have z1':lo+1<=h:=z1
          have z2':h<=hi:=z2
          show to+st*(lo+1-lo)+(if lo+1<hi then st else 0)*(h-(lo+1))=_
          rw[e1]
          by_cases z:lo+1<hi
          . rw[if_pos z,TJ hst,TJ hst];split<;>lia
          . rw[if_neg z,show h=lo+1 by lia,TJ hst];split<;>simp<;>lia
        have hr3:ZX (ps.dropLast++[⟨p.lo,lo,p.to,e⟩]++[⟨lo+1,hi,to+st*(lo+1-lo),if lo+1<hi then st else 0⟩]):=d3.snoc gR fun q hq=>by
          rw[qaQ]at hq
          cases hq
          refine⟨rfl,by rw[fl];show to<=to+st*(lo+1-lo);rw[e1];lia,?_⟩
          show ¬ draw _ (to+st*(lo+1-lo))
          rw[e1]
          unfold draw
          rw[if_neg (by show ¬ p.lo=lo;lia)]
          rw[d2 (lo+1) (by lia),show lo+1-lo=1 by lia,WR]
          lia
        refine⟨hr3,fun h=>?_,fun _=>⟨_,qaQ,rfl,lR hi ⟨h2,qr _⟩⟩,fun z=>by lia,by rw[qh,qh];show _+1+1<=_;lia,fun q hq=>hhead lo _ q hq,fun z=>absurd z hne⟩
        rw[zhr hr3,atd lo h (qr _)]
        by_cases hh:lo+1<=h/\h<=hi
        . rw[if_pos (show Yj ⟨lo+1,hi,to+st*(lo+1-lo),if lo+1<hi then st else 0⟩ h from hh),lR h hh,if_pos ⟨by lia,hh.2⟩]
        . rw[if_neg (show ¬ Yj ⟨lo+1,hi,to+st*(lo+1-lo),if lo+1<hi then st else 0⟩ h from hh)]
          by_cases hx:h=lo
          . subst hx
            rw[if_pos ⟨qr _,qr _⟩,if_pos ⟨qr _,hlh⟩];simp
          . rw[if_neg (by lia),if_neg (by lia)]
      . have eq : Wc ps lo hi to st = ps.dropLast ++ [⟨p.lo, lo, p.to, e⟩] := by
          unfold Wc
          rw[hl]
          simp only[]
          rw[hE,if_pos ⟨hlh,hd⟩,if_neg hse,if_neg h2]
        rw[eq]
        obtain⟨d1,d2,d3⟩:=drawn lo (qr _)
        have hlo:hi=lo:=by lia
        subst hlo
        refine⟨d3,fun h=>?_,fun _=>⟨_,qaQ,rfl,by show Pc.led _ hi=_;rw[d2 hi hlh];simp⟩,fun z=>by lia,by rw[qh];show _+1<=_;lia,fun q hq=>?_,fun z=>absurd z hne⟩
        . rw[atd hi h hlh]
          by_cases hh:hi<=h/\h<=hi
          . rw[if_pos hh,if_pos hh,show h=hi by lia];simp
          . rw[if_neg hh,if_neg hh]
        . have:=hhead hi [] q hq
          rw[qU]at this;exact this
def ZX.tail {p:Pc}{r:List Pc}(h:ZX (p::r)):ZX r:=⟨fun q hq=>h.good q (by simp[hq]),fun i a b ha hb=>h.link (i+1) a b (by simpa using ha) (by simpa using hb)⟩
def ZX.hd {p q:Pc}{r:List Pc}(h:ZX (p::q::r)):Link p q:=h.link 0 p q rfl rfl
theorem ZX.above:∀ {r:List Pc} {p:Pc},ZX (p::r)->∀ q∈r,p.hi<q.lo
 |[],_,_,q,hq=>by simp at hq
 |a::r,p,h,q,hq=>by
  have l:=h.hd.nx
  have g:=(h.good a (by simp)).le
  rcases qg.mp hq with rfl|hq
  ·lia
  ·have:=ZX.above h.tail q hq
   lia
def zeM {ps:List Pc}{h:Int}(hb:∀ q∈ps,h<q.lo):at' ps h=none:=by
 induction ps with
 |nil=>rfl
 |cons p r ih =>
  rw[XS,if_neg (by intro z;have:=hb p (by simp);have:=z.1;lia)]
  exact ih fun q hq=>hb q (by simp[hq])
def zf3 {p:Pc}(g:Good p){a b:Int}(h:a<=b):p.led a<=p.led b:=by
  rw[U7 g.st,U7 g.st];split<;>lia
def zgS (p:Pc):p.led p.lo=p.to:=by unfold Pc.led;simp
def zlO {p:Pc}(g:Good p):p.to<=p.fin:=by
 have:=zf3 g g.le
 rw[zgS]at this;exact this
theorem Sw:∀ {r:List Pc} {p:Pc},ZX (p::r)->∀ {h v:Int},at' (p::r) h=some v->p.to<=v/\p.lo<=h
 |r,p,hr,h,v,e=>by
  rw[XS]at e
  have g:=hr.good p (by simp)
  split at e
  ·rename_i hi
   cases e
   have:=zf3 g hi.1
   rw[zgS]at this
   exact⟨this,hi.1⟩
  ·cases r with
   |nil=>cases e
   |cons q r =>
    obtain⟨a,b⟩:=Sw hr.tail e
    have l:=hr.hd
    have:=zlO g
    have:=l.up
    have:=l.nx
    have:=g.le
    exact⟨by lia,by lia⟩
theorem Us:∀ {ps:List Pc},ZX ps->∀ {a b x y:Int},at' ps a=some x->at' ps b=some y->a<=b->x<=y
 |[],_,a,b,x,y,ha,_,_=>by cases ha
 |p::r,hr,a,b,x,y,ha,hb,hab=>by
  have g:=hr.good p (by simp)
  rw[XS]at ha hb
  split at ha
  ·rename_i ia
   cases ha
   split at hb
   ·rename_i ib
    cases hb
    exact zf3 g hab
   ·cases r with
    |nil=>cases hb
    |cons q r =>
     obtain⟨h1,_⟩:=Sw hr.tail hb
     have:=hr.hd.up
     have:=zf3 g ia.2
     unfold Pc.fin at *
     lia
  ·rename_i ia
   split at hb
   ·rename_i ib
    exfalso
    cases r with
    |nil=>cases ha
    |cons q r =>
     obtain⟨_,h2⟩:=Sw hr.tail ha
     have:=hr.hd.nx
     have:=ib.2
     lia
   ·exact Us hr.tail ha hb hab
theorem zey:∀ {r:List Pc} {p:Pc},ZX (p::r)->∀ {a b y:Int},at' (p::r) b=some y->p.lo<=a->a<=b->∃ x,at' (p::r) a=some x
 |r,p,hr,a,b,y,hb,h1,h2=>by
  rw[XS]
  by_cases ia:Yj p a
  ·rw[if_pos ia];exact⟨_,rfl⟩
  ·rw[if_neg ia]
   have ha:p.hi<a:=by
    rcases Qn p.hi a with g|g
    ·exact g
    ·exact absurd ⟨h1,g⟩ ia
   rw[XS,if_neg (by intro z;have:=z.2;lia)]at hb
   cases r with
   |nil=>cases hb
   |cons q r=>exact zey hr.tail hb (by have:=hr.hd.nx;lia) h2
def Tz {p:Pc}{r:List Pc}(g:Good p):at' (p::r) p.lo=some p.to:=by
 rw[XS,if_pos ⟨qr _,g.le⟩,zgS]
def zsj {p q:Pc}{r s:List Pc}(hp:ZX (p::r))(hq:ZX (q::s))(e:∀ h,at' (p::r) h=at' (q::s) h)(hlo:p.lo=q.lo)(hto:p.to=q.to):q.hi<=p.hi:=by
  rcases Qn p.hi q.hi with hlt|hle
  case inr=>exact hle
  exfalso
  have gp:=hp.good p (by simp)
  have gq:=hq.good q (by simp)
  have e1:=e (p.hi+1)
  have hle:=gp.le
  rw[XS p,if_neg (by intro z;have:=z.2;lia),XS q,if_pos ⟨by lia,by lia⟩]at e1
  cases r with
  |nil=>cases e1
  |cons p' r =>
    have lk:=hp.hd
    have hx:p'.lo=p.hi+1:=lk.nx
    rw[<- hx,Tz (hp.good p' (by simp))]at e1
    have e2:p'.to=q.led (p.hi+1):=by rw[<- hx];exact qw e1
    apply lk.nd
    unfold draw
    by_cases h1:p.lo=p.hi
    . rw[if_pos h1,e2,U7 gq.st]
      split<;>lia
    . rw[if_neg h1,e2]
      have e3:=e (p.lo+1)
      rw[XS p,if_pos ⟨by lia,by lia⟩,XS q,if_pos ⟨by lia,by lia⟩]at e3
      have e4:p.led (p.lo+1)=q.led (p.lo+1):=qw e3
      rw[U7 gp.st,U7 gq.st]at e4 ⊢
      have a1:=gp.st
      have a2:=gq.st
      split at e4<;>split at e4<;>(first|rw[if_pos (by assumption)]|rw[if_neg (by assumption)])<;>(first|rw[if_pos (by assumption)]|rw[if_neg (by assumption)]|skip)<;>lia
def ztK {p q:Pc}(gp:Good p)(gq:Good q)(h1:p.lo=q.lo)(h2:p.hi=q.hi)(h3:p.to=q.to)(h4:p.lo<p.hi->p.led (p.lo+1)=q.led (p.lo+1)):p=q:=by
  have hs:p.st=q.st:=by
    by_cases h:p.lo<p.hi
    . have e:=h4 h
      rw[U7 gp.st,U7 gq.st]at e
      have a1:=gp.st
      have a2:=gq.st
      split at e<;>split at e<;>lia
    . have:=gp.le
      rw[gp.one (by lia),gq.one (by lia)]
  cases p
  cases q
  simp_all
theorem zeO:∀ {ps qs:List Pc},ZX ps->ZX qs->(∀ h,at' ps h=at' qs h)->ps=qs
 |[],[],_,_,_=>rfl
 |[],q::s,_,hq,e=>by
  have:=e q.lo
  rw[Tz (hq.good q (by simp))]at this;cases this
 |p::r,[],hp,_,e=>by
  have:=e p.lo
  rw[Tz (hp.good p (by simp))]at this;cases this
 |p::r,q::s,hp,hq,e=>by
  have gp:=hp.good p (by simp)
  have gq:=hq.good q (by simp)
  have hlo:p.lo=q.lo:=by
   have e1:=e p.lo
   rw[Tz gp]at e1
   have e2:=e q.lo
   rw[Tz gq]at e2
   have:=(Sw hq e1.symm).2
   have:=(Sw hp e2).2
   lia
  have hto:p.to=q.to:=by
   have e1:=e p.lo
   rw[Tz gp,hlo,Tz gq]at e1
   exact qw e1
  have h1:=zsj hp hq e hlo hto
  have h2:=zsj hq hp (fun h=>(e h).symm) hlo.symm hto.symm
  have hpq:p=q:=ztK gp gq hlo (by lia) hto fun hlt=>by
   have e3:=e (p.lo+1)
   rw[XS p,if_pos ⟨by lia,by lia⟩,XS q,if_pos ⟨by lia,by lia⟩]at e3
   exact qw e3
  subst hpq
  rw[zeO hp.tail hq.tail fun h=>?_]
  by_cases hi:h<=p.hi
  ·rw[zeM fun z hz=>by have:=hp.above z hz;lia,zeM fun z hz=>by have:=hq.above z hz;lia]
  ·have:=e h
   rw[XS,XS,if_neg (by intro z;have:=z.2;lia),if_neg (by intro z;have:=z.2;lia)]at this
   exact this
structure Pre (f:Int->Option Int)(a n:Int)(ps:List Pc):Prop where
 isR:ZX ps
 le:a<=n
 led:∀ h,at' ps h=if a<=h/\h<n then f h else none
 all:∀ h,a<=h->h<n->∃ v,f h=some v
 emp:ps=[]->n=a
 last:∀ p,ps.getLast?=some p->p.hi+1=n/\f p.hi=some p.fin
def Pre.start (f:Int->Option Int)(a:Int):Pre f a a []:=⟨ZX.nil,qr _,fun h=>by rw[if_neg (by lia)];rfl,fun h h1 h2=>by lia,fun _=>rfl,by simp⟩
def zhj (f:Int->Option Int):Prop:=∀ a b x y,f a=some x->f b=some y->a<=b->x<=y
def Pre.need {f:Int->Option Int}{a n lo hi to st:Int}{ps:List Pc}(h:Pre f a n ps)(m:zhj f)(hlo:lo<=hi->lo=n)(hf:∀ x,lo<=x->x<=hi->f x=some (to+st*(x-lo))):lo<=hi->∀ p,ps.getLast?=some p->p.hi+1=lo/\p.fin<=to:=fun z p hp=>by
 obtain⟨e1,e2⟩:=h.last p hp
 have e3:=hf lo (qr _) z
 have:=m p.hi lo _ _ e2 e3 (by have:=hlo z;lia)
 exact⟨by have:=hlo z;lia,by simpa using this⟩
def Pre.put {f:Int->Option Int}{a n lo hi to st:Int}{ps qs:List Pc}(h:Pre f a n ps)(hlo:lo<=hi->lo=n)(hf:∀ x,lo<=x->x<=hi->f x=some (to+st*(x-lo)))(hq:QZ ps lo hi to st qs):Pre f a (if lo<=hi then hi+1 else n) qs:=by
 by_cases hl:lo<=hi
 ·rw[if_pos hl]
  have e:=hlo hl
  subst e
  have hle:=h.le
  refine⟨hq.isR,by lia,fun x=>?_,fun x h1 h2=>?_,fun z=>?_,fun p hp=>?_⟩
  ·rw[hq.led,h.led]
   by_cases c:lo<=x/\x<=hi
   ·rw[if_pos c,if_pos ⟨by lia,by lia⟩,hf x c.1 c.2]
   ·rw[if_neg c]
    by_cases d:a<=x/\x<lo
    ·rw[if_pos d,if_pos ⟨d.1,by lia⟩]
    ·rw[if_neg d,if_neg (by lia)]
  ·by_cases c:x<lo
   ·exact h.all x h1 c
   ·exact⟨_,hf x (by lia) (by lia)⟩
  ·obtain⟨q,e,_⟩:=hq.last hl
   rw[z]at e;simp at e
  ·obtain⟨q,e,e2,e3⟩:=hq.last hl
   rw[hp]at e
   cases e
   exact⟨by lia,by rw[e2,e3];exact hf hi hl (qr _)⟩
 ·rw[if_neg hl,hq.none (by lia)];exact h
def Pre.done {f:Int->Option Int}{a n:Int}{ps:List Pc}(h:Pre f a n ps)(ha:∀ x,x<a->f x=none)(hn:∀ x,n<=x->f x=none)(x:Int):at' ps x=f x:=by
 rw[h.led]
 by_cases c:a<=x/\x<n
 ·rw[if_pos c]
 ·rw[if_neg c]
  by_cases d:x<a
  ·rw[ha x d]
  ·rw[hn x (by lia)]
end Rm
namespace Dp
open PySem Rm
abbrev Pd (p:Pc):D:=.tup [.int p.lo,.int p.hi,.int p.to,.int p.st]
def znn {ps:List Pc}{p:Pc}(h:ps.getLast?=some p):Y9 (ps.map Pd) (-1)=some (Pd p):=by
 rw[zfb h,qA]
 unfold Y9 X3
 rw[if_neg (by decide),if_pos (by simp;lia)]
 have e:(-1+((List.map Pd ps.dropLast++List.map Pd [p]).length:Int)).toNat=(List.map Pd ps.dropLast).length:=by simp;lia
 simp only[Option.bind_some]
 rw[e]
 simp
def zub {ps:List Pc}{p:Pc}(h:ps.getLast?=some p):X3 (ps.map Pd).length (-1)=some (ps.length-1):=by
 have:ps≠[]:=by intro e;rw[e]at h;simp at h
 have:=List.length_pos_iff.mpr this
 unfold X3
 rw[if_neg (by decide),if_pos (by simp;lia),qb]
 congr 1
 lia
def zlz {ps:List Pc}{p q:Pc}(h:ps.getLast?=some p):(ps.map Pd).set (ps.length-1) (Pd q)=(ps.dropLast++[q]).map Pd:=by
 have e:=zfb h
 have hl:ps.length-1=ps.dropLast.length:=by rw[List.length_dropLast]
 rw[hl]
 conv=>lhs;rw[e]
 rw[qA,qA,qaN _ _ (by simp)]
 simp
def get_map {ps:List Pc}{i:Nat}{d:D}(h:(ps.map Pd)[i]?=some d):∃ p,ps[i]?=some p/\d=Pd p:=by
 rw[qj]at h
 cases e:ps[i]? with
 |none=>rw[e]at h;cases h
 |some p=>rw[e]at h;cases h;exact⟨p,rfl,rfl⟩
def Pn (ps:List Pc):fl 20 (.tup (ps.map Pd))=true:=by
 show(ps.map Pd).all (fl 19)=true
 rw[SX,VB]
 intro p _;rfl
def ztY {ps:List Pc}{h:Int}{i:Nat}{p:Pc}(hp:ps[i]?=some p)(hn:at' (ps.take i) h=none)(hin:Yj p h):at' ps h=some (p.led h):=by
 have e:ps=ps.take i++p::ps.drop (i+1):=by
  have h1:=List.take_append_drop i ps
  have hl:i<ps.length:=by
   rcases qL i ps.length with g|g
   ·exact g
   ·rw[qv g]at hp;cases hp
  rw[qc hl]at hp
  cases hp
  rw[List.drop_eq_getElem_cons hl]at h1
  exact h1.symm
 rw[e,zkj,hn,XS,if_pos hin];rfl
def set_same {S:Z5}{n:Nat}{c:Cell}(h:S[n]?=some c):S.set n c=S:=List.ext_getElem? fun i=>by
 by_cases hi:i=n
 ·subst hi;rw[qI (zV h),h]
 ·rw[qQ (Ne.symm hi)]
def zmU {p:Pc}(h:p.st=0):p.fin=p.to:=by unfold Pc.fin Pc.led;rw[h];simp
def znc {p:Pc}(h:p.st=1):p.fin=p.to+(p.hi-p.lo):=by unfold Pc.fin Pc.led;rw[h];simp
def zhA {p:Pc}(h:p.st=0)(x:Int):p.led x=p.to:=by unfold Pc.led;rw[h];simp
def zhB {p:Pc}(h:p.st=1)(x:Int):p.led x=p.to+(x-p.lo):=by unfold Pc.led;rw[h];simp
def apart {ps:List Pc}(hr:ZX ps):∀ {i j:Nat} {a b:Pc},i<j->ps[i]?=some a->ps[j]?=some b->a.hi<b.lo:=by
 have key:∀ (k j:Nat) (a b:Pc),ps[j]?=some a->ps[j+k+1]?=some b->a.hi<b.lo:=by
  intro k
  induction k with
  |zero=>intro j a b ha hb;have:=(hr.link j a b ha hb).nx;lia
  |succ k ih =>
   intro j a b ha hb
   have hlb:=zV hb
   have hm:ps[j+k+1]?=some (ps[j+k+1]'(by lia)):=qc _
   have h1:=ih j a _ ha hm
   have h2:=(hr.link (j+k+1) _ b hm hb).nx
   have h3:=(hr.good _ (List.getElem_mem (by lia:j+k+1<ps.length))).le
   lia
 intro i j a b hij ha hb
 refine key (j-i-1) i a b ha ?_
 rw[show i+(j-i-1)+1=j by lia];exact hb
def Xa {ps:List Pc}(hr:ZX ps){i:Nat}{p:Pc}(hp:ps[i]?=some p){h:Int}(hi:Yj p h):at' ps h=some (p.led h):=by
 refine ztY hp (zjE fun q hq=>?_) hi
 obtain⟨j,hj,e⟩:=qS.mp hq
 rw[Vy]at hj
 rw[List.getElem_take]at e
 have:q.hi<p.lo:=apart hr (i:=j) (j:=i) (by lia) (by rw[<- e];exact qc _) hp
 have:=hi.1
 lia
def lo_le {ps:List Pc}(hr:ZX ps){p q:Pc}(h0:ps[0]?=some p)(hq:q∈ps):p.lo<=q.lo:=by
 obtain⟨j,hj,rfl⟩:=qS.mp hq
 rcases qaX j with h|h
 ·subst h
  rw[qc (by lia)]at h0
  cases h0
  exact qr _
 ·have:=apart hr h h0 (qc hj)
  have:=(hr.good p (qe h0)).le
  lia
def ztr (p q:Pc):eqv (Pd p) (Pd q)=decide (p=q):=by
 obtain⟨a,b,c,d⟩:=p
 obtain⟨a',b',c',d'⟩:=q
 show eqvAll [.int a,.int b,.int c,.int d] [.int a',.int b',.int c',.int d']=_
 show(decide (a=a')&&(decide (b=b')&&(decide (c=c')&&(decide (d=d')&&true))))=_
 rw[Bool.and_true,<- qbB,<- qbB,<- qbB]
 congr 1
 simp
theorem zpW:∀ (ps qs:List Pc),eqvAll (ps.map Pd) (qs.map Pd)=decide (ps=qs)
 |[],[]=>rfl
 |[],q::s=>rfl
 |p::r,[]=>rfl
 |p::r,q::s=>by
  show(eqv (Pd p) (Pd q)&&eqvAll (r.map Pd) (s.map Pd))=_
  rw[ztr,zpW r s,<- qbB]
  congr 1
  simp
def zyq {S:Z5}{Q:DK}{ps qs:List Pc}(q:Q (.bl (!decide (ps=qs))) S):Wj (.tup (ps.map Pd)) (.tup (qs.map Pd)) S Q:=⟨_,.inl ⟨Pn ps,Pn qs,rfl⟩,by
 show Q (.bl (!eqvAll (ps.map Pd) (qs.map Pd))) S
 rw[zpW];exact q⟩
def endOf (qs:List Pc):Int:=match qs.getLast? with
 |none=>0
 |some q=>q.hi+1
def zfL {qs:List Pc}(hq:ZX qs){v:Int}(h:endOf qs<=v):at' qs v=none:=by
 cases hl:qs.getLast? with
 |none=>rw[PB.mp hl];rfl
 |some q =>
  unfold endOf at h
  rw[hl]at h
  have h':q.hi+1<=v:=h
  have e:=zfb hl
  refine zjE fun r hr=>?_
  rw[e]at hr hq
  have gq:=(hq.good q (by simp)).le
  rcases qJ.mp hr with hr|hr
  ·have:=hq.below r hr;lia
  ·have:r=q:=by simpa using hr
   subst this;lia
def zo6 {qs:List Pc}(hq:ZX qs){j:Nat}{f:Pc}(ef:qs[j]?=some f):(∀ g,qs[j+1]?=some g->g.lo=f.hi+1)/\(qs[j+1]?=none->endOf qs=f.hi+1):=by
 refine⟨fun g hg=>(hq.link j f g ef hg).nx,fun hn=>?_⟩
 have h1:=zV ef
 have h2:=List.getElem?_eq_none_iff.mp hn
 have:qs.getLast?=some f:=by rw[qbo,show qs.length-1=j by lia];exact ef
 unfold endOf
 rw[this]
def XH (qs:List Pc)(j:Nat):Int:=match qs[j]? with
 |some q=>q.lo
 |none=>endOf qs
def zg7 {qs:List Pc}(hq:ZX qs){j:Nat}{f:Pc}(ef:qs[j]?=some f):XH qs j=f.lo/\XH qs (j+1)=f.hi+1:=by
 obtain⟨a,b⟩:=zo6 hq ef
 unfold XH
 rw[ef]
 refine⟨rfl,?_⟩
 cases h:qs[j+1]? with
 |none=>exact b h
 |some g=>exact a g h
def ztx {ps:List Pc}{p:Pc}(hr:ZX ps)(h:ps.head?=some p):at' ps p.lo=some p.to:=by
 have e:ps[0]?=some p:=by rw[<- qaI];exact h
 have g:=(hr.good p (qe e)).le
 rw[Xa hr e ⟨qr _,g⟩]
 show some (p.to+p.st*(p.lo-p.lo))=_
 rw[Int.sub_self,Ud,Int.add_zero]
open PySem Rm My
def zft:List (Int×Int)->Prop
 |[]=>True
 |c::r=>c.1<=c.2/\(∀ d∈r,c.2+2<=d.1)/\zft r
def Xm:List (Int×Int)->Int->Option Int
 |[],_=>none
 |c::r,h=>if h<=c.2 then some (max h c.1)else Xm r h
theorem zd7:∀ (a b:List (Int×Int)) (h:Int),Xm (a++b) h=(Xm a h).or (Xm b h)
  |[],b,h=>by simp[Xm]
  |c::a,b,h=>by
    show(if h<=c.2 then _ else Xm (a++b) h)=_
    rw[zd7 a b h]
    show _=((if h<=c.2 then some (max h c.1)else Xm a h).or _)
    split<;>rfl
theorem zfm:∀ {a:List (Int×Int)} {h:Int},(∀ c∈a,c.2<h)->Xm a h=none
 |[],h,_=>rfl
 |c::a,h,hb=>by
  show(if h<=c.2 then _ else Xm a h)=none
  rw[if_neg (by have:=hb c (by simp);lia)]
  exact zfm fun d hd=>hb d (by simp[hd])
theorem zft.mem:∀ {cs:List (Int×Int)},zft cs->∀ {i:Nat} {c:Int×Int},cs[i]?=some c->c.1<=c.2/\∀ d∈cs.take i,d.2+2<=c.1
 |[],_,i,c,h=>by simp at h
 |a::r,ok,0,c,h=>by simp at h;subst h;exact⟨ok.1,by simp⟩
 |a::r,ok,i+1,c,h=>by
  have h':r[i]?=some c:=by simpa using h
  obtain⟨h1,h2⟩:=zft.mem ok.2.2 h'
  refine⟨h1,fun d hd=>?_⟩
  rw[List.take_succ_cons]at hd
  rcases qg.mp hd with rfl|hd
  ·exact ok.2.1 c (qe h')
  ·exact h2 d hd
def zhz (cs:List (Int×Int)):fl 20 (.tup (cs.map p2))=true:=by
 show(cs.map p2).all (fl 19)=true
 rw[SX,VB]
 intro p _;rfl
def zlB {xs:List D}{x:D}:X3 (xs++[x]).length (-1)=some xs.length:=by
 have hl:((xs++[x]).length:Int)=xs.length+1:=by simp
 unfold X3
 rw[if_neg (by lia),if_pos (by lia)]
 congr 1;lia
def zis {xs:List D}{x:D}:Y9 (xs++[x]) (-1)=some x:=by
 unfold Y9
 rw[zlB]
 simp
def zsH (ns:List Int):(ns.map D.int).all (fl 20)=true:=by
 rw[SX,VB]
 intro p _;rfl
end Dp
namespace Rm
open My Dp
def Zu (h:Int)(c:Int×Int):Bool:=decide (c.1<=h)&&decide (h<=c.2)
def V4 (c:Int×Int):Bool:=decide (c.1<=c.2)
structure Zo (cs:List (Int×Int)):Prop where
 le:∀ c∈cs,c.1<=c.2
 ap:cs.Pairwise fun a b=>a.2+2<=b.1
def zet {h:Int}{c:Int×Int}:Zu h c=true↔c.1<=h/\h<=c.2:=by unfold Zu;simp
def X5 {h:Int}{cs:List (Int×Int)}:cs.any (Zu h)=true↔∃ c∈cs,c.1<=h/\h<=c.2:=by
 rw[List.any_eq_true]
 constructor
 ·rintro⟨c,hc,g⟩;exact⟨c,hc,zet.mp g⟩
 ·rintro⟨c,hc,g⟩;exact⟨c,hc,zet.mpr g⟩
def Zo.nil:Zo []:=⟨fun c hc=>absurd hc (by simp),.nil⟩
def Zo.snoc {ms:List (Int×Int)}{c:Int×Int}(s:Zo ms)(hc:c.1<=c.2)(h:∀ m∈ms,m.2+2<=c.1):Zo (ms++[c]):=by
 refine⟨fun d hd=>?_,List.pairwise_append.mpr ⟨s.ap,List.pairwise_singleton _ _,fun a ha b hb=>?_⟩⟩
 ·rcases qJ.mp hd with g|g
  ·exact s.le d g
  ·have:d=c:=by simpa using g
   subst this;exact hc
 ·have:b=c:=by simpa using hb
  subst this;exact h a ha
def Zo.init {ms:List (Int×Int)}{c:Int×Int}(s:Zo (ms++[c])):Zo ms/\c.1<=c.2/\∀ m∈ms,m.2+2<=c.1:=by
 obtain⟨h1,h2,h3⟩:=List.pairwise_append.mp s.ap
 exact⟨⟨fun d hd=>s.le d (qaB _ hd),h1⟩,s.le c (by simp),fun m hm=>h3 m hm c (by simp)⟩
def zrc {ms:List (Int×Int)}{l c:Int×Int}(s:Zo (ms++[l]))(hc:c.1<=c.2)(h1:l.1<=c.1)(h2:c.1<=l.2+1) :
  Zo (ms++[(l.1,max l.2 c.2)])/\∀ h,(ms++[(l.1,max l.2 c.2)]).any (Zu h)=((ms++[l]).any (Zu h)||Zu h c):=by
 obtain⟨s0,hl,hm⟩:=s.init
 refine⟨s0.snoc (by show l.1<=max l.2 c.2;lia) hm,fun h=>?_⟩
 rw[qa2,qa2,Bool.or_assoc]
 congr 1
 rw[Rh,Pg]
 simp only[R4,List.any_nil,qbr,zet]
 lia
def zvH {a b:Int×Int}(h:Q5 b a=false):a.1<=b.1:=by
 unfold Q5 at h
 rw[decide_eq_false_iff_not]at h
 lia
def any_filter (cs:List (Int×Int))(h:Int):(cs.filter fun c=>decide (c.1<=c.2)).any (Zu h)=cs.any (Zu h):=by
 rw[Rh,X5,X5]
 constructor
 ·rintro⟨c,hc,g⟩;exact⟨c,(qX.mp hc).1,g⟩
 ·rintro⟨c,hc,g⟩;exact⟨c,qX.mpr ⟨hc,decide_eq_true (by lia)⟩,g⟩
def zqM {a b:List (Int×Int)}(p:a.Perm b)(h:Int):a.any (Zu h)=b.any (Zu h):=by
 rw[Rh,X5,X5]
 constructor
 ·rintro⟨c,hc,g⟩;exact⟨c,p.mem_iff.mp hc,g⟩
 ·rintro⟨c,hc,g⟩;exact⟨c,p.mem_iff.mpr hc,g⟩
def Yh (a b:Int×Int):Int×Int:=(max a.1 b.1,min a.2 b.2)
def Xz (as bs:List (Int×Int)):List (Int×Int):=as.flatMap fun a=>bs.map (Yh a)
def znB (as bs:List (Int×Int))(h:Int):(Xz as bs).any (Zu h)=(as.any (Zu h)&&bs.any (Zu h)):=by
  rw[Rh,qG,X5,X5,X5]
  unfold Xz
  constructor
  . rintro⟨c,hc,g1,g2⟩
    obtain⟨a,ha,hm⟩:=List.mem_flatMap.mp hc
    obtain⟨b,hb,rfl⟩:=qW.mp hm
    unfold Yh at g1 g2
    dsimp only at g1 g2
    refine⟨⟨a,ha,?_⟩,⟨b,hb,?_⟩⟩<;>lia
  . rintro⟨⟨a,ha,g1,g2⟩,⟨b,hb,k1,k2⟩⟩
    refine⟨Yh a b,List.mem_flatMap.mpr ⟨a,ha,qW.mpr ⟨b,hb,rfl⟩⟩,?_⟩
    unfold Yh
    dsimp only
    constructor<;>lia
def zl2 {a b:Int×Int}(ha:a.1<=a.2)(hb:b.1<=b.2):(Yh a b).1<=(Yh a b).2↔b.1<=a.2/\a.1<=b.2:=by
 unfold Yh
 dsimp only
 lia
theorem zm8 {a:Int×Int}(ha:a.1<=a.2):∀ {bs:List (Int×Int)},Zo bs->((bs.map (Yh a)).filter fun c=>decide (c.1<=c.2)).length<=(bs.filter fun b=>decide (b.2<=a.2)).length+1
  |[],_=>by simp
  |b::bs,s=>by
    obtain⟨cb,pb⟩:=qM.mp s.ap
    have hb:=s.le b (by simp)
    have s':Zo bs:=⟨fun x hx=>s.le x (by simp[hx]),pb⟩
    have ih:=zm8 ha s'
    rw[qE]
    by_cases h1:b.2<=a.2
    . rw[Qk (p:=fun b:Int×Int=>decide (b.2<=a.2)) (decide_eq_true h1)]
      have:(((Yh a b)::bs.map (Yh a)).filter fun c=>decide (c.1<=c.2)).length<=((bs.map (Yh a)).filter fun c=>decide (c.1<=c.2)).length+1:=by
        rw[qaT];split<;>simp
      simp only[qO]
      lia
    . have none : (bs.map (Yh a)).filter (fun c => decide (c.1 ≤ c.2)) = [] := by
        rw[qbx]
        intro c hc
        obtain⟨x,hx,rfl⟩:=qW.mp hc
        have:=cb x hx
        have hx2:=s'.le x hx
        rw[decide_eq_true_eq,zl2 ha hx2]
        lia
      rw[qaT,none]
      split<;>simp
theorem zlc:∀ {as bs:List (Int×Int)},Zo as->Zo bs->((Xz as bs).filter fun c=>decide (c.1<=c.2)).length<=as.length+bs.length
 |[],bs,_,_=>by simp[Xz]
 |a::as,bs,sa,sb=>by
  obtain⟨ca,pa⟩:=qM.mp sa.ap
  have ha:=sa.le a (by simp)
  have sa':Zo as:=⟨fun x hx=>sa.le x (by simp[hx]),pa⟩
  have sb2:Zo (bs.filter fun b=>!decide (b.2<=a.2)):=⟨fun x hx=>sb.le x (qX.mp hx).1,sb.ap.filter _⟩
  have ih:=zlc sa' sb2
  have one:=zm8 ha sb
  have same:((Xz as bs).filter fun c=>decide (c.1<=c.2)).length=((Xz as (bs.filter fun b=>!decide (b.2<=a.2))).filter fun c=>decide (c.1<=c.2)).length:=by
   clear ih one
   induction as with
   |nil=>rfl
   |cons d ds ihd =>
    have hd:a.2+2<=d.1:=ca d (by simp)
    have hd2:=sa.le d (by simp)
    unfold Xz at ihd ⊢
    rw[qbq,qbq,Py,Py,qh,qh]
    have e1:((bs.map (Yh d)).filter fun c=>decide (c.1<=c.2)).length=(((bs.filter fun b=>!decide (b.2<=a.2)).map (Yh d)).filter fun c=>decide (c.1<=c.2)).length:=by
     have hle:=sb.le
     clear ihd sb sb2
     induction bs with
     |nil=>rfl
     |cons b bs ihb =>
      have ih':=ihb fun x hx=>hle x (by simp[hx])
      have hb:=hle b (by simp)
      by_cases h1:b.2<=a.2
      ·rw[Qh (p:=fun b:Int×Int=>!decide (b.2<=a.2)) (by simp[h1]),qE,Qh (by rw[decide_eq_true_eq,zl2 hd2 hb];lia)]
       exact ih'
      ·rw[Qk (p:=fun b:Int×Int=>!decide (b.2<=a.2)) (by simp[h1]),qE,qE,qaT,qaT]
       split
       ·simp only[qO];lia
       ·exact ih'
    have pa2:=qM.mp (qM.mp sa.ap).2
    have sd:Zo (a::ds):=⟨fun x hx=>by
     rcases qg.mp hx with rfl|hx
     ·exact ha
     ·exact sa.le x (by simp[hx]),qM.mpr ⟨fun x hx=>ca x (by simp[hx]),pa2.2⟩⟩
    have e2:=ihd sd (fun x hx=>ca x (by simp[hx])) pa2.2 ⟨fun x hx=>sd.le x (by simp[hx]),pa2.2⟩
    rw[e1,e2]
  have split2:bs.length=(bs.filter fun b=>decide (b.2<=a.2)).length+(bs.filter fun b=>!decide (b.2<=a.2)).length:=by
   clear ih one same sb sb2
   induction bs with
   |nil=>rfl
   |cons b bs ihb =>
    rw[qaT,qaT]
    by_cases h1:b.2<=a.2
    ·simp[h1];lia
    ·simp[h1];lia
  unfold Xz at same ih ⊢
  rw[qbq,Py,qh,same]
  simp only[qO]
  lia
end Rm
namespace Dp
open PySem Rm My
def W3:List (Int×Int)->Int->Option Int
 |[],_=>none
 |c::r,h=>if h<=c.2 then some (max c.1 h)else W3 r h
def on2 (f:Int×Int->D):D->D
 |.tup [.int a,.int b]=>f (a,b)
 |d=>d
def zvW (p:Int×Int->Bool):D->Bool
 |.tup [.int a,.int b]=>p (a,b)
 |_=>false
def zt8 (f:Int×Int->D)(cs:List (Int×Int)):(cs.map p2).map (on2 f)=cs.map f:=by rw[qT];rfl
def zqZ (p:Int×Int->Bool)(cs:List (Int×Int)):(cs.map p2).filter (zvW p)=(cs.filter p).map p2:=by rw[List.filter_map];rfl
def zuL {S:Z5}{x:D}{xs:List D}{R:S9->Z5->Prop}(h:V0 S x xs)(q:∀ ok:Z5->Prop,(∀ T,ok (S++T))->R ⟨xs,ok⟩ S):zhl x S R:=by
 rcases h with rfl|h
 ·exact .inl ⟨xs,rfl,q _ fun _=>True.intro⟩
 ·exact .inr (.inl ⟨xs,h,q _ fun T=>h.old⟩)
theorem V0.old {S T:Z5}{x:D}{xs:List D}(h:V0 S x xs):V0 (S++T) x xs:=h.imp id Lst.old
def ziE (as bs:List (Int×Int)):(Xz as bs).length=as.length*bs.length:=by
 unfold Xz
 induction as with
 |nil=>simp
 |cons a as ih=>rw[qbq,qh,ih,qb,qO,Nat.succ_mul,Nat.add_comm]
def zmu {as bs:List (Int×Int)}{i:Nat}{a:Int×Int}(h:as[i]?=some a):Xz (as.take (i+1)) bs=Xz (as.take i) bs++bs.map (Yh a):=by
 unfold Xz
 rw[VG h,List.flatMap_append];simp
def Y8:Int->List (Int×Int)->List (Int×Int)×Int
 |st,[]=>([],st)
 |st,c::cs=>((st,c.1-1)::(Y8 (c.2+1) cs).1,(Y8 (c.2+1) cs).2)
theorem zdW:∀ (st:Int) (cs:List (Int×Int)),(Y8 st cs).1.length=cs.length
 |_,[]=>rfl
 |st,c::cs=>by show((Y8 (c.2+1) cs).1.length+1)=_;rw[zdW];rfl
theorem zf7:∀ (st:Int) (cs:List (Int×Int)) (c:Int×Int),Y8 st (cs++[c])=((Y8 st cs).1++[((Y8 st cs).2,c.1-1)],c.2+1)
 |st,[],c=>rfl
 |st,d::cs,c=>by
  show((st,d.1-1)::(Y8 (d.2+1) (cs++[c])).1,(Y8 (d.2+1) (cs++[c])).2)=_
  rw[zf7];rfl
theorem zmi {hi h:Int}(hh:h<=hi):∀ (st:Int) {cs:List (Int×Int)},Zo cs->st<=h->(∀ c∈cs,c.2<=h->True)->(((Y8 st cs).1++[((Y8 st cs).2,hi)]).any (Zu h)=true↔¬ ∃ c∈cs,c.1<=h/\h<=c.2)
  |st,[],_,hs,_=>by
    simp[Y8,zet,hs,hh]
  |st,c::cs,s,hs,_=>by
    obtain⟨cb,pb⟩:=qM.mp s.ap
    have hc:=s.le c (by simp)
    have s':Zo cs:=⟨fun x hx=>s.le x (by simp[hx]),pb⟩
    show(((st,c.1-1)::((Y8 (c.2+1) cs).1++[((Y8 (c.2+1) cs).2,hi)])).any (Zu h)=true↔_)
    rw[R4,Pg,zet]
    rcases(by lia:h<c.1\/(c.1<=h/\h<=c.2)\/c.2<h)with g|g|g
    . constructor
      . rintro-⟨x,hx,k1,k2⟩
        rcases qg.mp hx with rfl|hx
        . lia
        . have:=cb x hx;lia
      . intro _
        exact .inl ⟨hs,by show h<=c.1-1;lia⟩
    . constructor
      . intro z
        exfalso
        rcases z with⟨_,z⟩|z
        . have:h<=c.1-1:=z
          lia
        . obtain⟨x,hx,k1,k2⟩:=X5.mp z
          have low:∀ (st:Int) (cs:List (Int×Int)),Zo cs->(∀ d∈cs,st<=d.1)->∀ x∈(Y8 st cs).1++[((Y8 st cs).2,hi)],st<=x.1:=by
            intro st cs
            induction cs generalizing st with
            | nil => intro _ _ x hx; have : x = (st, hi) := by simpa [Y8]using hx
                     subst this;exact qr _
            |cons d ds ih =>
              intro sd hd x hx
              obtain⟨c2,p2⟩:=qM.mp sd.ap
              have hd1:=hd d (by simp)
              have hd2:=sd.le d (by simp)
              have hx:x∈(st,d.1-1)::((Y8 (d.2+1) ds).1++[((Y8 (d.2+1) ds).2,hi)]):=hx
              rcases qg.mp hx with rfl|hx
              . exact qr _
              . have:=ih (d.2+1) ⟨fun y hy=>sd.le y (by simp[hy]),p2⟩ (fun y hy=>by have:=c2 y hy;lia) x hx
                lia
          have:=low (c.2+1) cs s' (fun d hd=>by have:=cb d hd;lia) x hx
          lia
      . intro z
        exact absurd ⟨c,by simp,g.1,g.2⟩ z
    . have ih:=zmi hh (c.2+1) s' (by lia) (fun _ _ _=>trivial)
      constructor
      . rintro z ⟨x,hx,k1,k2⟩
        rcases qg.mp hx with rfl|hx
        . lia
        . rcases z with⟨_,z⟩|z
          . have:h<=c.1-1:=z
            lia
          . exact ih.mp z ⟨x,hx,k1,k2⟩
      . intro z
        exact .inr (ih.mpr fun⟨x,hx,k⟩=>z ⟨x,by simp[hx],k⟩)
end Dp
namespace Rm
open My Dp
def Zn (L R B T x1 z1 x2 z2:Int):List Int :=
 [(x2-x1)*(B-z1)-(z2-z1)*(L-x1),(x2-x1)*(T-z1)-(z2-z1)*(L-x1),(x2-x1)*(B-z1)-(z2-z1)*(R-x1),(x2-x1)*(T-z1)-(z2-z1)*(R-x1)]
def V1 (L R B T x1 z1 x2 z2:Int):Prop :=
 L<=(max x1 x2)/\(min x1 x2)<=R/\B<=(max z1 z2)/\(min z1 z2)<=T/\(∃ a∈Zn L R B T x1 z1 x2 z2,0<=a)/\∃ a∈Zn L R B T x1 z1 x2 z2,a<=0
def Qj (lo hi st sp e1 e2 x1 x2:Int):Prop :=
 (sp=0/\lo<=st/\st<=hi/\e1=0/\e2=1/\x1=1/\x2=1)\/(sp=0/\(st<lo\/hi<st)/\e1=1/\e2=1/\x1=0/\x2=1) \/
 (0<sp/\e1=lo-st/\e2=sp/\x1=hi-st/\x2=sp)\/(sp<0/\e1=st-hi/\e2=-sp/\x1=st-lo/\x2=-sp)
def zkU (ea1 ea2 xa1 xa2 eu1 eu2 xu1 xu2:Int):Prop:=∀ e∈[((0:Int),(1:Int)),(ea1,ea2),(eu1,eu2)],∀ x∈[((1:Int),(1:Int)),(xa1,xa2),(xu1,xu2)],e.1*x.2<=x.1*e.2
def RM {u a b:Int}(h:0<=u)(h':a<=b):u*a<=u*b:=Int.mul_le_mul_of_nonneg_left h' h
def zqv {p r P R:Int}{L x:Int}:(∃ a∈[P-L,R-L,P-x,R-x],p<=a)↔(p<=P-L\/p<=R-L\/p<=P-x\/p<=R-x):=by simp
def zpR {p P R:Int}{L x:Int}:(∃ a∈[P-L,R-L,P-x,R-x],a<=p)↔(P-L<=p\/R-L<=p\/P-x<=p\/R-x<=p):=by simp
def zoQ {ea1 ea2 xa1 xa2 eu1 eu2 xu1 xu2:Int}:zkU ea1 ea2 xa1 xa2 eu1 eu2 xu1 xu2 ↔
  (0<=xa1/\0<=xu1)/\(ea1<=ea2/\ea1*xa2<=xa1*ea2/\ea1*xu2<=xu1*ea2)/\(eu1<=eu2/\eu1*xa2<=xa1*eu2/\eu1*xu2<=xu1*eu2):=by
 unfold zkU
 simp
def zkQ (lo hi st sp e1 e2 x1 x2:Int):Prop :=
 (sp=0/\lo<=st/\st<=hi/\e1=0/\e2=1/\x1=1/\x2=1)\/(sp=0/\(st<lo\/hi<st)/\e1=1/\e2=1/\x1=0/\x2=1)\/(0<sp/\e1=lo-st/\e2=sp/\x1=hi-st/\x2=sp)
def zk2 {lo hi st s t e1 e2 x1 x2:Int}(h:Qj lo hi st (t-s) e1 e2 x1 x2):zkQ lo hi st (t-s) e1 e2 x1 x2\/zkQ (-hi) (-lo) (-st) (-t - -s) e1 e2 x1 x2:=by
 rcases h with h|h|h|⟨h,rfl,rfl,rfl,rfl⟩
 ·exact .inl (.inl h)
 ·exact .inl (.inr (.inl h))
 ·exact .inl (.inr (.inr h))
 ·exact .inr (.inr (.inr ⟨by lia,by lia,by lia,by lia,by lia⟩))
def zlx {as bs:List Int}(h:∀ a,a∈bs↔-a∈as):((∃ a∈bs,0<=a)↔∃ a∈as,a<=0)/\((∃ a∈bs,a<=0)↔∃ a∈as,0<=a):=by
  have back:∀ a,a∈as->-a∈bs:=fun a ha=>(h (-a)).mpr (by rw[QM];exact ha)
  refine⟨⟨?_,?_⟩,?_,?_⟩<;>rintro⟨a,ha,h0⟩
  . exact⟨-a,(h a).mp ha,by lia⟩
  . exact⟨-a,back a ha,by lia⟩
  . exact⟨-a,(h a).mp ha,by lia⟩
  . exact⟨-a,back a ha,by lia⟩
def zqX {a p q r t:Int}:a∈[-p,-q,-r,-t]↔-a∈[r,t,p,q]:=by
 have e:∀ x,a=-x↔-a=x:=fun x=>⟨fun h=>by rw[h,QM],fun h=>by rw[<- h,QM]⟩
 simp only[qg,qF,or_false,e]
 exact⟨fun h=>h.elim (fun h=>.inr (.inr (.inl h))) (fun h=>h.elim (fun h=>.inr (.inr (.inr h))) (fun h=>h.elim .inl (fun h=>.inr (.inl h)))),fun h=>h.elim (fun h=>.inr (.inr (.inl h))) (fun h=>h.elim (fun h=>.inr (.inr (.inr h))) (fun h=>h.elim .inl (fun h=>.inr (.inl h))))⟩
def zyV (a b c d e:Int):(-a - -b)*c-d*(-e - -b)=-((a-b)*c-d*(e-b)):=by
 rw[show -a - -b=-(a-b) by lia,show -e - -b=-(e-b) by lia,O2,qbt];lia
def zza (a b c d e:Int):c*(-a - -b)-(-d - -b)*e=-(c*(a-b)-(d-b)*e):=by
 rw[show -a - -b=-(a-b) by lia,show -d - -b=-(d-b) by lia,O2,qbt];lia
def zli (a b:Int):max (-a) (-b)=-(min a b):=by lia
def zk5 (a b:Int):min (-a) (-b)=-(max a b):=by lia
def zj7 {L R B T x1 z1 x2 z2:Int}:V1 (-R) (-L) B T (-x1) z1 (-x2) z2↔V1 L R B T x1 z1 x2 z2:=by
 have e:Zn (-R) (-L) B T (-x1) z1 (-x2) z2=[-((x2-x1)*(B-z1)-(z2-z1)*(R-x1)),-((x2-x1)*(T-z1)-(z2-z1)*(R-x1)),-((x2-x1)*(B-z1)-(z2-z1)*(L-x1)),-((x2-x1)*(T-z1)-(z2-z1)*(L-x1))]:=by
  unfold Zn
  simp only[zyV]
 have k:=zlx (as:=Zn L R B T x1 z1 x2 z2) (bs:=Zn (-R) (-L) B T (-x1) z1 (-x2) z2) (fun a=>by rw[e];exact zqX)
 unfold V1
 rw[k.1,k.2,zli,zk5]
 generalize max x1 x2=a1
 generalize min x1 x2=a2
 generalize (∃ a∈Zn L R B T x1 z1 x2 z2,0<=a)=P
 generalize (∃ a∈Zn L R B T x1 z1 x2 z2,a<=0)=Q
 constructor
 ·rintro⟨h1,h2,h3,h4,h5,h6⟩;exact⟨by lia,by lia,h3,h4,h6,h5⟩
 ·rintro⟨h1,h2,h3,h4,h5,h6⟩;exact⟨by lia,by lia,h3,h4,h6,h5⟩
def zoO {a p q r t:Int}:a∈[-p,-q,-r,-t]↔-a∈[q,p,t,r]:=by
 have e:∀ x,a=-x↔-a=x:=fun x=>⟨fun h=>by rw[h,QM],fun h=>by rw[<- h,QM]⟩
 simp only[qg,qF,or_false,e]
 exact⟨fun h=>h.elim (fun h=>.inr (.inl h)) (fun h=>h.elim .inl (fun h=>h.elim (fun h=>.inr (.inr (.inr h))) (fun h=>.inr (.inr (.inl h))))),fun h=>h.elim (fun h=>.inr (.inl h)) (fun h=>h.elim .inl (fun h=>h.elim (fun h=>.inr (.inr (.inr h))) (fun h=>.inr (.inr (.inl h)))))⟩
def zku {L R B T x1 z1 x2 z2:Int}:V1 L R (-T) (-B) x1 (-z1) x2 (-z2)↔V1 L R B T x1 z1 x2 z2:=by
 have e:Zn L R (-T) (-B) x1 (-z1) x2 (-z2)=[-((x2-x1)*(T-z1)-(z2-z1)*(L-x1)),-((x2-x1)*(B-z1)-(z2-z1)*(L-x1)),-((x2-x1)*(T-z1)-(z2-z1)*(R-x1)),-((x2-x1)*(B-z1)-(z2-z1)*(R-x1))]:=by
  unfold Zn
  simp only[zza]
 have k:=zlx (as:=Zn L R B T x1 z1 x2 z2) (bs:=Zn L R (-T) (-B) x1 (-z1) x2 (-z2)) (fun a=>by rw[e];exact zoO)
 unfold V1
 rw[k.1,k.2,zli,zk5]
 generalize max z1 z2=a1
 generalize min z1 z2=a2
 generalize (∃ a∈Zn L R B T x1 z1 x2 z2,0<=a)=P
 generalize (∃ a∈Zn L R B T x1 z1 x2 z2,a<=0)=Q
 constructor
 ·rintro⟨h1,h2,h3,h4,h5,h6⟩;exact⟨h1,h2,by lia,by lia,h6,h5⟩
 ·rintro⟨h1,h2,h3,h4,h5,h6⟩;exact⟨h1,h2,by lia,by lia,h6,h5⟩
def zs5 {P Q p q:Int}(h:P<=Q)(g:p<=q):(0<=P-p\/0<=Q-p\/0<=P-q\/0<=Q-q)↔p<=Q:=⟨fun k=>by rcases k with k|k|k|k<;>lia,fun k=>.inr (.inl (by lia))⟩
def ztj {P Q p q:Int}(h:P<=Q)(g:p<=q):(P-p<=0\/Q-p<=0\/P-q<=0\/Q-q<=0)↔P<=q:=⟨fun k=>by rcases k with k|k|k|k<;>lia,fun k=>.inr (.inr (.inl (by lia)))⟩
def zf1 {L R B T x1 z1 x2 z2 ea1 ea2 xa1 xa2 eu1 eu2 xu1 xu2:Int}(hx:L<=R)(hz:B<=T)(pa:zkQ L R x1 (x2-x1) ea1 ea2 xa1 xa2)(pu:zkQ B T z1 (z2-z1) eu1 eu2 xu1 xu2) :
    zkU ea1 ea2 xa1 xa2 eu1 eu2 xu1 xu2↔V1 L R B T x1 z1 x2 z2:=by
  have u0:0<=x2-x1:=by rcases pa with h|h|h<;>lia
  have v0:0<=z2-z1:=by rcases pu with h|h|h<;>lia
  rw[zoQ]
  unfold V1 Zn
  rw[zqv (r:=0),zpR,show max x1 x2=x1+(x2-x1) by lia,show min x1 x2=x1 by lia,show max z1 z2=z1+(z2-z1) by lia,show min z1 z2=z1 by lia]
  generalize x2-x1=u at *
  generalize z2-z1=v at *
  have k1:=RM u0 (show B-z1<=T-z1 by lia)
  have k2:=RM v0 (show L-x1<=R-x1 by lia)
  rw[zs5 k1 k2,ztj k1 k2]
  have c1:∀ s t:Int,(s-x1)*t=t*(s-x1):=fun s t=>Vg _ _
  have c3:∀ s t:Int,(s-z1)*t=t*(s-z1):=fun s t=>Vg _ _
  have k5:B<=z1->u*(B-z1)<=0:=fun h=>by have:=RM u0 (show B-z1<=0 by lia);rwa[Ud]at this
  have k6:z1<=T->0<=u*(T-z1):=fun h=>by have:=RM u0 (show 0<=T-z1 by lia);rwa[Ud]at this
  have k8:=RM v0 (show B-z1<=T-z1 by lia)
  rcases pa with⟨hu,h1,h2,rfl,rfl,rfl,rfl⟩|⟨hu,h1,rfl,rfl,rfl,rfl⟩|⟨hu,rfl,rfl,rfl,rfl⟩
  . clear k5 k6
    subst hu
    have k3:=RM v0 (show L-x1<=0 by lia)
    have k4:=RM v0 (show 0<=R-x1 by lia)
    rcases pu with⟨hv,g1,g2,rfl,rfl,rfl,rfl⟩|⟨hv,g1,rfl,rfl,rfl,rfl⟩|⟨hv,rfl,rfl,rfl,rfl⟩ <;>
    simp only[c3,Int.zero_mul,Ud,Int.one_mul,WR]at *<;>lia
  . simp only[Int.one_mul,WR]
    lia
  . have k7:=RM u0 (show L-x1<=R-x1 by lia)
    rcases pu with⟨hv,g1,g2,rfl,rfl,rfl,rfl⟩|⟨hv,g1,rfl,rfl,rfl,rfl⟩|⟨hv,rfl,rfl,rfl,rfl⟩
    . subst hv
      have k5:=k5 g1
      have k6:=k6 g2
      simp only[c1,c3,Int.zero_mul,Ud,Int.one_mul,WR]at *
      lia
    . simp only[Int.one_mul,WR]
      lia
    . simp only[c1,c3]
      exact⟨fun⟨⟨a,b⟩,⟨c,_,d⟩,e,f,_⟩=>⟨by lia,by lia,by lia,by lia,d,f⟩,fun⟨a,b,c,d,e,f⟩=>⟨⟨by lia,by lia⟩,⟨by lia,k7,e⟩,by lia,f,k8⟩⟩
def zqy {L R B T x1 z1 x2 z2 ea1 ea2 xa1 xa2 eu1 eu2 xu1 xu2:Int}(hx:L<=R)(hz:B<=T)(pa:Qj L R x1 (x2-x1) ea1 ea2 xa1 xa2)(pu:Qj B T z1 (z2-z1) eu1 eu2 xu1 xu2) :
    zkU ea1 ea2 xa1 xa2 eu1 eu2 xu1 xu2↔V1 L R B T x1 z1 x2 z2:=by
  rcases zk2 pa with pa|pa<;>rcases zk2 pu with pu|pu
  . exact zf1 hx hz pa pu
  . rw[<- zku];exact zf1 hx (by lia) pa pu
  . rw[<- zj7];exact zf1 (by lia) hz pa pu
  . rw[<- zj7,<- zku];exact zf1 (by lia) (by lia) pa pu
def zl1 (L R B T x1 z1 x2 z2 g s k:Int):Zn (L+g*k) (R+g*k) (B+s*k) (T+s*k) x1 z1 x2 z2=(Zn L R B T x1 z1 x2 z2).map fun a=>a+k*((x2-x1)*s-(z2-z1)*g):=by
  unfold Zn
  simp only[qE,qbl,List.cons.injEq,and_true]
  refine⟨?_,?_,?_,?_⟩<;>grind
def zqY {as:List Int}{m m' d:Int}(h1:m∈as)(h2:∀ a∈as,a<=m)(h3:m'∈as.map fun a=>a+d)(h4:∀ a∈as.map (fun a=>a+d),a<=m'):m'=m+d:=by
 obtain⟨b,hb,rfl⟩:=qW.mp h3
 have e1:=h2 b hb
 have e2:=h4 (m+d) (qW.mpr ⟨m,h1,rfl⟩)
 lia
def zqU {as:List Int}{m m' d:Int}(h1:m∈as)(h2:∀ a∈as,m<=a)(h3:m'∈as.map fun a=>a+d)(h4:∀ a∈as.map (fun a=>a+d),m'<=a):m'=m+d:=by
 obtain⟨b,hb,rfl⟩:=qW.mp h3
 have e1:=h2 b hb
 have e2:=h4 (m+d) (qW.mpr ⟨m,h1,rfl⟩)
 lia
def six (L R B T x1 z1 x2 z2 mx mn:Int):List Int:=[(max x1 x2)-L,R-(min x1 x2),(max z1 z2)-B,T-(min z1 z2),mx,-mn]
def zoN {L R B T x1 z1 x2 z2 g s mx mn mx' mn' k:Int}(m1:mx∈Zn (L+g*0) (R+g*0) (B+s*0) (T+s*0) x1 z1 x2 z2)(m2:∀ a∈Zn (L+g*0) (R+g*0) (B+s*0) (T+s*0) x1 z1 x2 z2,a<=mx)
    (n1:mn∈Zn (L+g*0) (R+g*0) (B+s*0) (T+s*0) x1 z1 x2 z2) (n2:∀ a∈Zn (L+g*0) (R+g*0) (B+s*0) (T+s*0) x1 z1 x2 z2,mn<=a)
    (m1':mx'∈Zn (L+g*1) (R+g*1) (B+s*1) (T+s*1) x1 z1 x2 z2) (m2':∀ a∈Zn (L+g*1) (R+g*1) (B+s*1) (T+s*1) x1 z1 x2 z2,a<=mx')
    (n1':mn'∈Zn (L+g*1) (R+g*1) (B+s*1) (T+s*1) x1 z1 x2 z2) (n2':∀ a∈Zn (L+g*1) (R+g*1) (B+s*1) (T+s*1) x1 z1 x2 z2,mn'<=a) :
    (∀ i,i<6->0<=(six (L+g*0) (R+g*0) (B+s*0) (T+s*0) x1 z1 x2 z2 mx mn).getD i 0+k*((six (L+g*1) (R+g*1) (B+s*1) (T+s*1) x1 z1 x2 z2 mx' mn').getD i 0-(six (L+g*0) (R+g*0) (B+s*0) (T+s*0) x1 z1 x2 z2 mx mn).getD i 0)) ↔
    V1 (L+g*k) (R+g*k) (B+s*k) (T+s*k) x1 z1 x2 z2:=by
  rw[zl1]at m1 m2 n1 n2 m1' m2' n1' n2'
  have id0:(Zn L R B T x1 z1 x2 z2).map (fun a=>a+0*((x2-x1)*s-(z2-z1)*g))=Zn L R B T x1 z1 x2 z2:=by
    simp
  rw[id0]at m1 m2 n1 n2
  rw[show(fun a:Int=>a+1*((x2-x1)*s-(z2-z1)*g))=fun a=>a+((x2-x1)*s-(z2-z1)*g) by funext a;rw[Int.one_mul]]at m1' m2' n1' n2'
  have e1:=zqY m1 m2 m1' m2'
  have e2:=zqU n1 n2 n1' n2'
  unfold V1
  rw[zl1]
  generalize (x2-x1)*s-(z2-z1)*g=d at *
  have f1:(∃ a∈(Zn L R B T x1 z1 x2 z2).map (fun a=>a+k*d),0<=a)↔0<=mx+k*d:=by
    constructor
    . rintro⟨a,ha,h⟩
      obtain⟨b,hb,rfl⟩:=qW.mp ha
      have:=m2 b hb
      lia
    . intro h
      exact⟨_,qW.mpr ⟨mx,m1,rfl⟩,h⟩
  have f2:(∃ a∈(Zn L R B T x1 z1 x2 z2).map (fun a=>a+k*d),a<=0)↔mn+k*d<=0:=by
    constructor
    . rintro⟨a,ha,h⟩
      obtain⟨b,hb,rfl⟩:=qW.mp ha
      have:=n2 b hb
      lia
    . intro h
      exact⟨_,qW.mpr ⟨mn,n1,rfl⟩,h⟩
  rw[f1,f2]
  subst e1 e2
  unfold six
  generalize (max x1 x2)=q1
  generalize (min x1 x2)=q2
  generalize (max z1 z2)=q3
  generalize (min z1 z2)=q4
  have h0:k*(q1-(L+g*1)-(q1-(L+g*0)))=-(g*k):=by grind
  have h1:k*(R+g*1-q2-(R+g*0-q2))=g*k:=by grind
  have h2:k*(q3-(B+s*1)-(q3-(B+s*0)))=-(s*k):=by grind
  have h3:k*(T+s*1-q4-(T+s*0-q4))=s*k:=by grind
  have h4:k*(mx+d-mx)=k*d:=by grind
  have h5:k*(-(mn+d) - -mn)=-(k*d):=by grind
  constructor
  . intro h
    have a0:=h 0 (by decide)
    have a1:=h 1 (by decide)
    have a2:=h 2 (by decide)
    have a3:=h 3 (by decide)
    have a4:=h 4 (by decide)
    have a5:=h 5 (by decide)
    simp only[Qs,PL]at a0 a1 a2 a3 a4 a5
    rw[h0]at a0
    rw[h1]at a1
    rw[h2]at a2
    rw[h3]at a3
    rw[h4]at a4
    rw[h5]at a5
    refine⟨?_,?_,?_,?_,?_,?_⟩<;>lia
  . rintro⟨a0,a1,a2,a3,a4,a5⟩ i hi
    match i,hi with
    |0,_=>simp only[Qs,PL];rw[h0];lia
    |1,_=>simp only[Qs,PL];rw[h1];lia
    |2,_=>simp only[Qs,PL];rw[h2];lia
    |3,_=>simp only[Qs,PL];rw[h3];lia
    |4,_=>simp only[Qs,PL];rw[h4];lia
    |5,_=>simp only[Qs,PL];rw[h5];lia
def ztD {S T k:Int}(h:0<T):-(S/T)<=k↔0<=S+k*T:=by
 have:-k<=S/T↔-k*T<=S:=qby h
 rw[O2]at this
 lia
def zqo {S T k:Int}(h:T<0):k<=S / -T↔0<=S+k*T:=by
 have:k<=S / -T↔k * -T<=S:=qby (by lia)
 rw[qbt]at this
 lia
def Hit (L R B T x1 z1 x2 z2:Int):Prop:=∃ p q:Int,0<q/\0<=p/\p<=q/\L*q<=x1*q+p*(x2-x1)/\x1*q+p*(x2-x1)<=R*q/\B*q<=z1*q+p*(z2-z1)/\z1*q+p*(z2-z1)<=T*q
def mulL {k a b:Int}(h:0<=k)(g:a<=b):k*a<=k*b:=Int.mul_le_mul_of_nonneg_left g h
def zrt {k a b:Int}(h:0<k)(g:k*a<=k*b):a<=b:=Int.le_of_mul_le_mul_left g h
def ftr {a b c d e f:Int}(hb:0<=b)(hf:0<=f)(hd:0<d)(h1:a*d<=c*b)(h2:c*f<=e*d):a*f<=e*b:=by
 refine zrt hd ?_
 have k1:=mulL hf h1
 have k2:=mulL hb h2
 have e1:d*(a*f)=f*(a*d):=by grind
 have e2:f*(c*b)=b*(c*f):=by grind
 have e3:b*(e*d)=d*(e*b):=by grind
 lia
theorem fmax:∀ {l:List (Int×Int)},l≠[]->(∀ e∈l,0<e.2)->∃ e∈l,∀ f∈l,f.1*e.2<=e.1*f.2
 |[],h,_=>absurd rfl h
 |[x],_,_=>⟨x,by simp,fun f hf=>by simp at hf;subst hf;exact qr _⟩
 |x::y::l,_,h=>by
  obtain⟨m,hm,g⟩:=fmax (l:=y::l) (by simp) fun e he=>h e (by simp[he])
  have hx:=h x (by simp)
  have hm2:=h m (by simp[hm])
  rcases Int.le_total (x.1*m.2) (m.1*x.2)with c|c
  ·refine⟨m,by simp[hm],fun f hf=>?_⟩
   rcases qg.mp hf with rfl|hf
   ·exact c
   ·exact g f hf
  ·refine⟨x,by simp,fun f hf=>?_⟩
   rcases qg.mp hf with rfl|hf
   ·exact qr _
   ·exact ftr (Pk (h f (by simp[hf]))) (Pk hx) hm2 (g f hf) c
def zm0 (lo hi st sp:Int):∃ e1 e2 x1 x2,Qj lo hi st sp e1 e2 x1 x2/\0<e2/\0<x2:=by
 unfold Qj
 rcases Int.lt_trichotomy sp 0 with h|h|h
 ·exact⟨st-hi,-sp,st-lo,-sp,.inr (.inr (.inr ⟨h,rfl,rfl,rfl,rfl⟩)),by lia,by lia⟩
 ·by_cases g:lo<=st/\st<=hi
  ·exact⟨0,1,1,1,.inl ⟨h,g.1,g.2,rfl,rfl,rfl,rfl⟩,by lia,by lia⟩
  ·exact⟨1,1,0,1,.inr (.inl ⟨h,by lia,rfl,rfl,rfl,rfl⟩),by lia,by lia⟩
 ·exact⟨lo-st,sp,hi-st,sp,.inr (.inr (.inl ⟨h,rfl,rfl,rfl,rfl⟩)),h,h⟩
def zmZ {lo hi st sp e1 e2 x1 x2 p q:Int}(P:Qj lo hi st sp e1 e2 x1 x2)(hq:0<q)(h0:0<=p)(h1:p<=q)(h2:e1*q<=p*e2)(h3:p*x2<=x1*q):lo*q<=st*q+p*sp/\st*q+p*sp<=hi*q:=by
 rcases P with⟨hu,g1,g2,rfl,rfl,rfl,rfl⟩|⟨hu,g1,rfl,rfl,rfl,rfl⟩|⟨hu,rfl,rfl,rfl,rfl⟩|⟨hu,rfl,rfl,rfl,rfl⟩
 ·subst hu
  have k1:=mulL (Pk hq) g1
  have k2:=mulL (Pk hq) g2
  rw[Vg q,Vg q]at k1 k2
  rw[Ud];lia
 ·lia
 ·rw[qbu]at h2 h3;lia
 ·rw[qbu,qbt]at h2 h3;lia
def zll {lo hi st sp e1 e2 x1 x2 p q:Int}(P:Qj lo hi st sp e1 e2 x1 x2)(hq:0<q)(h0:0<=p)(h1:p<=q)(h2:lo*q<=st*q+p*sp)(h3:st*q+p*sp<=hi*q):e1*q<=p*e2/\p*x2<=x1*q:=by
 rcases P with⟨hu,g1,g2,rfl,rfl,rfl,rfl⟩|⟨hu,g1,rfl,rfl,rfl,rfl⟩|⟨hu,rfl,rfl,rfl,rfl⟩|⟨hu,rfl,rfl,rfl,rfl⟩
 ·lia
 ·subst hu
  rw[Ud,Int.add_zero,Vg lo,Vg st]at h2
  rw[Ud,Int.add_zero,Vg hi,Vg st]at h3
  have k1:=zrt hq h2
  have k2:=zrt hq h3
  lia
 ·rw[qbu,qbu];lia
 ·rw[qbu,qbu,qbt];lia
def znj {L R B T x1 z1 x2 z2:Int}(hx:L<=R)(hz:B<=T):V1 L R B T x1 z1 x2 z2↔Hit L R B T x1 z1 x2 z2:=by
  obtain⟨a1,a2,a3,a4,pa,ha2,ha4⟩:=zm0 L R x1 (x2-x1)
  obtain⟨u1,u2,u3,u4,pu,hu2,hu4⟩:=zm0 B T z1 (z2-z1)
  rw[<- zqy hx hz pa pu]
  constructor
  . intro h
    obtain⟨⟨p,q⟩,he,mx⟩:=fmax (l:=[((0:Int),(1:Int)),(a1,a2),(u1,u2)]) (by simp) (by
      intro e he
      simp only[qg,qF,or_false]at he
      rcases he with rfl|rfl|rfl
      . exact Int.one_pos
      . exact ha2
      . exact hu2)
    have hq:0<q:=by
      simp only[qg,qF,or_false,Prod.mk.injEq]at he
      rcases he with he|he|he<;>lia
    have m0:=mx (0,1) (by simp)
    have m1:=mx (a1,a2) (by simp)
    have m2:=mx (u1,u2) (by simp)
    have n0:=h _ he (1,1) (by simp)
    have n1:=h _ he (a3,a4) (by simp)
    have n2:=h _ he (u3,u4) (by simp)
    dsimp only at m0 m1 m2 n0 n1 n2
    have h0:0<=p:=by lia
    have h1:p<=q:=by lia
    obtain⟨k1,k2⟩:=zmZ pa hq h0 h1 m1 n1
    obtain⟨k3,k4⟩:=zmZ pu hq h0 h1 m2 n2
    exact⟨p,q,hq,h0,h1,k1,k2,k3,k4⟩
  . rintro⟨p,q,hq,h0,h1,k1,k2,k3,k4⟩
    obtain⟨g1,g2⟩:=zll pa hq h0 h1 k1 k2
    obtain⟨g3,g4⟩:=zll pu hq h0 h1 k3 k4
    intro e he x hx
    have ee:0<e.2/\e.1*q<=p*e.2:=by
      simp only[qg,qF,or_false]at he
      rcases he with rfl|rfl|rfl
      . exact⟨Int.one_pos,by lia⟩
      . exact⟨ha2,g1⟩
      . exact⟨hu2,g3⟩
    have xx:0<x.2/\p*x.2<=x.1*q:=by
      simp only[qg,qF,or_false]at hx
      rcases hx with rfl|rfl|rfl
      . exact⟨Int.one_pos,by lia⟩
      . exact⟨ha4,g2⟩
      . exact⟨hu4,g4⟩
    exact ftr (Pk ee.1) (Pk xx.1) hq ee.2 xx.2
end Rm
namespace Dp
open PySem Rm My
structure Fg where
 x0:Int
 x1:Int
 z0:Int
 z1:Int
 f:Int
 l:Int
 g:Int
 s:Int
abbrev XJ (F:Fg):D:=.tup [.int F.x0,.int F.x1,.int F.z0,.int F.z1,.int F.f,.int F.l,.int F.g,.int F.s]
structure FgB (F:Fg):Prop where
 x:F.x0<=F.x1
 z:F.z0<=F.z1
 b0:Bd 600 F.x0
 b1:Bd 600 F.x1
 b2:Bd 600 F.z0
 b3:Bd 600 F.z1
 bg:Bd 200 F.g
 bs:Bd 200 F.s
def zes (F:Fg)(px pz qx qz h:Int):Prop:=F.f<=h/\h<=F.l/\Hit (F.x0+F.g*(h-F.f)) (F.x1+F.g*(h-F.f)) (F.z0+F.s*(h-F.f)) (F.z1+F.s*(h-F.f)) px pz qx qz
def zsc (ms:List (Int×Int))(F:Fg)(px pz qx qz:Int):Prop:=Zo ms/\ms.length<=1/\∀ h,ms.any (Zu h)=true↔zes F px pz qx qz h
def zpO {fs:List Fg}{i:Nat}{d:D}(h:(fs.map XJ)[i]?=some d):∃ F,fs[i]?=some F/\d=XJ F:=by
 rw[qj]at h
 cases e:fs[i]? with
 |none=>rw[e]at h;cases h
 |some p=>rw[e]at h;cases h;exact⟨p,rfl,rfl⟩
def Bd.max2 {n:Nat}{a b:Int}(ha:Bd n a)(hb:Bd n b):Bd n (max a b):=by
 rcases Int.le_total a b with h|h
 ·rw[Int.max_eq_right h];exact hb
 ·rw[Int.max_eq_left h];exact ha
def Bd.min2 {n:Nat}{a b:Int}(ha:Bd n a)(hb:Bd n b):Bd n (min a b):=by
 rcases Int.le_total a b with h|h
 ·rw[Int.min_eq_left h];exact ha
 ·rw[Int.min_eq_right h];exact hb
def zqq {L R B T x1 z1 x2 z2 mx mn:Int}(bL:Bd 700 L)(bR:Bd 700 R)(bB:Bd 700 B)(bT:Bd 700 T)(b1:Bd 700 x1)(b2:Bd 700 z1)(b3:Bd 700 x2)(b4:Bd 700 z2)(m1:mx∈Zn L R B T x1 z1 x2 z2)(n1:mn∈Zn L R B T x1 z1 x2 z2) :
    ∀ v∈six L R B T x1 z1 x2 z2 mx mn,Bd 1500 v:=by
  have pr:∀ {u v w t:Int},Bd 701 u->Bd 701 v->Bd 701 w->Bd 701 t->Bd 1500 (u*v-w*t):=fun h1 h2 h3 h4=>(Bd.sub (n:=1402) (Bd.mul h1 h2) (Bd.mul h3 h4)).mono (by decide)
  have ba:∀ a∈Zn L R B T x1 z1 x2 z2,Bd 1500 a:=by
    intro a ha
    unfold Zn at ha
    simp only[qg,qF,or_false]at ha
    rcases ha with rfl|rfl|rfl|rfl<;>exact pr (Bd.sub (by assumption) (by assumption)) (Bd.sub (by assumption) (by assumption)) (Bd.sub (by assumption) (by assumption)) (Bd.sub (by assumption) (by assumption))
  intro v hv
  unfold six at hv
  simp only[qg,qF,or_false]at hv
  rcases hv with rfl|rfl|rfl|rfl|rfl|rfl
  . exact(Bd.sub (Bd.max2 b1 b3) bL).mono (by decide)
  . exact(Bd.sub bR (Bd.min2 b1 b3)).mono (by decide)
  . exact(Bd.sub (Bd.max2 b2 b4) bB).mono (by decide)
  . exact(Bd.sub bT (Bd.min2 b2 b4)).mono (by decide)
  . exact ba _ m1
  . exact(ba _ n1).neg
def zqs {ms:List (Int×Int)}{F:Fg}{px pz qx qz lo hi:Int}(B:FgB F)(ok:Zo ms)(one:ms.length<=1)(hany:∀ h,ms.any (Zu h)=[(F.f+lo,F.f+hi)].any (Zu h))
  (hk:∀ k,(lo<=k/\k<=hi)↔(0<=k/\k<=F.l-F.f/\V1 (F.x0+F.g*k) (F.x1+F.g*k) (F.z0+F.s*k) (F.z1+F.s*k) px pz qx qz)):zsc ms F px pz qx qz:=by
 refine⟨ok,one,fun h=>?_⟩
 rw[hany h]
 have:=hk (h-F.f)
 rw[znj (by have:=B.x;lia) (by have:=B.z;lia)]at this
 simp only[R4,List.any_nil,qbr,zet]
 unfold zes
 constructor
 ·rintro⟨a,b⟩
  obtain⟨c1,c2,c3⟩:=this.mp ⟨by lia,by lia⟩
  exact⟨by lia,by lia,c3⟩
 ·rintro⟨a,b,c⟩
  obtain⟨d1,d2⟩:=this.mpr ⟨by lia,by lia,c⟩
  exact⟨by lia,by lia⟩
def flt (a b:Int×Int):Bool:=decide (a.1*b.2<b.1*a.2)
abbrev St2:=(Int×Int)×(Int×Int)
def rk (R:Int×Int->Int)(s:St2):Int×Int:=(R s.1,R s.2)
def zkR {cs:List (Int×Int)}{k:Int}(h0:0<=k)(h:k<cs.length):∃ c,cs[k.toNat]?=some c/\Y9 (cs.map p2) k=some (p2 c):=by
 have hk:k.toNat<cs.length:=by lia
 refine⟨cs[k.toNat],qc hk,?_⟩
 have:=T4 (ds:=cs.map p2) (i:=k.toNat) (d:=p2 (cs[k.toNat])) (by rw[qj,qc hk];rfl)
 rwa[show((k.toNat:Nat):Int)=k by lia]at this
def lenV (ms:List (Int×Int)):Int:=(ms.map fun m=>m.2-m.1).sum
def Sv (c:Int×Int)(t b:Int):Prop:=0<c.2/\c.1*b=t*c.2
def Qu (a b p:Int×Int):Int:=if 0<b.1-a.1 then a.2*(b.1-a.1)*p.2+(b.2-a.2)*(p.1-a.1*p.2)else -(a.2*(b.1-a.1)*p.2+(b.2-a.2)*(p.1-a.1*p.2))
def T9 (a b p:Int×Int):Int:=if 0<b.1-a.1 then(b.1-a.1)*p.2 else -((b.1-a.1)*p.2)
def ztw {a b p:Int×Int}(h:b.1≠a.1)(hp:0<p.2):0<T9 a b p:=by
 unfold T9
 split
 ·exact qbv (by lia) hp
 ·have:=qbv (show 0 < -(b.1-a.1) by lia) hp
  rw[O2]at this
  exact this
def zvA {c d:Int×Int}{t b u e:Int}(hb:0<b)(he:0<e)(hc:Sv c t b)(hd:Sv d u e):flt c d=decide (t*e<u*b):=by
 obtain⟨c0,c1⟩:=hc
 obtain⟨d0,d1⟩:=hd
 unfold flt
 refine decide_eq_decide.mpr ?_
 have hbe:0<b*e:=qbv hb he
 have hcd:0<c.2*d.2:=qbv c0 d0
 rw[<- Int.mul_lt_mul_right hbe,<- Int.mul_lt_mul_right (b:=t*e) (c:=u*b) hcd]
 have e1:c.1*d.2*(b*e)=t*e*(c.2*d.2):=by
  have:c.1*d.2*(b*e)=c.1*b*(d.2*e):=by grind
  rw[this,c1];grind
 have e2:d.1*c.2*(b*e)=u*b*(c.2*d.2):=by
  have:d.1*c.2*(b*e)=d.1*e*(c.2*b):=by grind
  rw[this,d1];grind
 rw[e1,e2]
structure Wv (cs:List (Int×Int)):Prop where
 two:2<=cs.length
 most:cs.length<=40
 asc:cs.Pairwise fun a b=>a.1<b.1
 bd:∀ c∈cs,Bd 170 c.1/\Bd 190 c.2
def zjs (cs:List (Int×Int)):Int:=(cs.getD 0 (0,0)).1
def Qe (cs:List (Int×Int)):Int:=(cs.getD (cs.length-1) (0,0)).1
def OnG (cs:List (Int×Int))(p:Int×Int):Prop:=zjs cs*p.2<=p.1/\p.1<=Qe cs*p.2
def QG:List (Int×Int)->Int×Int->Option ((Int×Int)×(Int×Int))
 |a::b::r,p=>if p.1<=b.1*p.2 then some (a,b)else QG (b::r) p
 |_,_=>none
theorem seg_at:∀ {cs:List (Int×Int)} {p:Int×Int} {k:Nat} {a b:Int×Int},cs[k]?=some a->cs[k+1]?=some b->p.1<=b.1*p.2->(∀ j c,1<=j->j<=k->cs[j]?=some c->c.1*p.2<p.1)->QG cs p=some (a,b)
 |[],p,k,a,b,h,_,_,_=>by simp at h
 |[x],p,0,a,b,_,h,_,_=>by simp at h
 |[x],p,k+1,a,b,h,_,_,_=>by simp at h
 |x::y::r,p,0,a,b,h1,h2,h3,_=>by
  simp at h1 h2
  subst h1 h2
  unfold QG
  rw[if_pos h3]
 |x::y::r,p,k+1,a,b,h1,h2,h3,h4=>by
  have:=h4 1 y (by lia) (by lia) rfl
  unfold QG
  rw[if_neg (by lia)]
  exact seg_at (by simpa using h1) (by simpa using h2) h3 fun j c j1 j2 hc=>h4 (j+1) c (by lia) (by lia) (by simpa using hc)
theorem zp1:∀ {cs:List (Int×Int)} {p:Int×Int},2<=cs.length->p.1<=Qe cs*p.2->∃ k a b,cs[k]?=some a/\cs[k+1]?=some b/\p.1<=b.1*p.2/\∀ j c,1<=j->j<=k->cs[j]?=some c->c.1*p.2<p.1
 |[],p,h,_=>by simp at h
 |[x],p,h,_=>by simp at h
 |[x,y],p,_,h=>⟨0,x,y,rfl,rfl,h,fun j c j1 j2=>by lia⟩
 |x::y::z::r,p,_,h=>by
  by_cases g:p.1<=y.1*p.2
  ·exact⟨0,x,y,rfl,rfl,g,fun j c j1 j2=>by lia⟩
  ·obtain⟨k,a,b,h1,h2,h3,h4⟩:=zp1 (cs:=y::z::r) (p:=p) (by simp) h
   refine⟨k+1,a,b,by simpa using h1,by simpa using h2,h3,fun j c j1 j2 hc=>?_⟩
   cases j with
   |zero=>lia
   |succ j =>
    cases j with
    |zero=>simp at hc;subst hc;lia
    |succ j=>exact h4 (j+1) c (by lia) (by lia) (by simpa using hc)
def zpu {cs:List (Int×Int)}(g:Wv cs){i j:Nat}{a b:Int×Int}(hij:i<j)(ha:cs[i]?=some a)(hb:cs[j]?=some b):a.1<b.1:=by
 have h1:=zV ha
 have h2:=zV hb
 rw[qc h1]at ha
 rw[qc h2]at hb
 cases ha;cases hb
 exact Px.mp g.asc i j h1 h2 hij
def zpP {cs:List (Int×Int)}(g:Wv cs):∃ a,cs[0]?=some a/\zjs cs=a.1:=by
 have:=g.two
 obtain⟨a,h⟩:∃ a,cs[0]?=some a:=⟨cs[0],qc (by lia)⟩
 exact⟨a,h,by unfold zjs;rw[qC,h];rfl⟩
def zr1 {cs:List (Int×Int)}(g:Wv cs):∃ a,cs[cs.length-1]?=some a/\Qe cs=a.1:=by
 have:=g.two
 obtain⟨a,h⟩:∃ a,cs[cs.length-1]?=some a:=⟨cs[cs.length-1],qc (by lia)⟩
 exact⟨a,h,by unfold Qe;rw[qC,h];rfl⟩
def Wb (S:Z5)(g:D)(cs:List (Int×Int)):Prop:=∃ n l,g=.ref n/\S[n]?=some (.ins "Ground" [("corners",.ref l)])/\S[l]?=some (.lst (cs.map p2))
def Wb.old {S T:Z5}{g:D}{cs:List (Int×Int)}(h:Wb S g cs):Wb (S++T) g cs:=let ⟨n,l,e,h1,h2⟩:=h;⟨n,l,e,Xq h1,Xq h2⟩
def zyi {S:Z5}{P:D->Prop}{n l:Nat}(h:S[n]?=some (.ins "Ground" [("corners",.ref l)]))(q:P (.ref l)):∃ m c fs d,D.ref n=.ref m/\S[m]?=some (.ins c fs)/\fs.lookup ("corners":Str)=some d/\P d:=⟨n,_,_,_,rfl,h,by simp[qo],q⟩
def Ue (a b c:Int×Int):Int:=(c.2-a.2)*(b.1-a.1)-(c.1-a.1)*(b.2-a.2)
def sdI (a b c:Int×Int):Int:=if 0<(if b.1-a.1<0 then -Ue a b c else Ue a b c)then 1 else if(if b.1-a.1<0 then -Ue a b c else Ue a b c)<0 then -1 else 0
def Std (cs:List (Int×Int))(s:Int×Int):Prop:=Bd 180 s.1/\Bd 200 s.2/\OnG cs (s.1,1)/\∀ a b,QG cs (s.1,1)=some (a,b)->Qu a b (s.1,1)<=s.2*T9 a b (s.1,1)
def zsa {own:Nat}{fv:List Nat}{xs:List D}{ok:Z5->Prop}{g:DG}{tc:DT}{te:DE}{ρ:ZR}{S:Z5}{Q:DK}(W:Nat->List D->Z5->Prop)(h0:W 0 [] S)(hok:∀ i ys S,W i ys S->ok S)(hbig:xs.length<=big)
  (step:∀ i d ys S,xs[i]?=some d->W i ys S->g d (Qt own fv ρ) S fun ρ2 S2=>tc ρ2 S2 fun b S3=>if b=true then te ρ2 S3 fun y S4=>W (i+1) (ys++[y]) S4 else W (i+1) ys S3)
  (fin:∀ ys S,W xs.length ys S->New Q S ys):zrS own fv g tc te ρ Q ⟨xs,ok⟩ S:=⟨hbig,W,h0,hok,step,fin⟩
def Wh (cs:List (Int×Int))(s:Int×Int):Prop:=OnG cs (s.1,1)/\∀ a b,QG cs (s.1,1)=some (a,b)->Qu a b (s.1,1)<=s.2*T9 a b (s.1,1)
def Std.of {cs:List (Int×Int)}{s:Int×Int}(b1:Bd 180 s.1)(b2:Bd 200 s.2)(h:Wh cs s):Std cs s:=⟨b1,b2,h.1,h.2⟩
def nbP (cs:List (Int×Int))(x y:Int)(k:Nat):Bool:=decide (min x y<(cs.getD k (0,0)).1)&&decide ((cs.getD k (0,0)).1<max x y)
def VL (cs:List (Int×Int))(x y:Int)(n:Nat):List Int:=((List.range n).filter (nbP cs x y)).map fun k:Nat=>(k:Int)
def zyk {cs:List (Int×Int)}{x y:Int}{i:Nat}(h:nbP cs x y i=true):(VL cs x y (i+1)).map D.int=(VL cs x y i).map D.int++[.int (i:Int)]:=by
 unfold VL
 rw[qbA,Py,Qk h]
 simp
def zsr {cs:List (Int×Int)}{x y:Int}{i:Nat}(h:nbP cs x y i=false):VL cs x y (i+1)=VL cs x y i:=by
 unfold VL
 rw[qbA,Py,Qh (by rw[h];exact qp)]
 simp
def znx (cs:List (Int×Int))(a b:Int×Int)(k:Int):Bool:=decide (0<sdI a b (cs.getD k.toNat (0,0)))
def O1 (cs:List (Int×Int))(a b:Int×Int):Option Int:=(VL cs a.1 b.1 cs.length).find? (znx cs a b)
theorem zm4 {p:Int->Bool}:∀ {ks:List Int} {i:Nat} {k:Int},ks[i]?=some k->(∀ x∈ks.take i,p x=false)->p k=true->ks.find? p=some k
 |[],i,k,h,_,_=>by simp at h
 |x::ks,0,k,h,_,hp=>by
  have e:x=k:=by simpa using h
  rw[List.find?_cons,e,hp]
 |x::ks,i+1,k,h,hn,hp=>by
  rw[List.find?_cons,hn x (by simp)]
  exact zm4 (by simpa using h) (fun y hy=>hn y (by rw[List.take_succ_cons];exact qB _ hy)) hp
def zti {p:Int->Bool}{ks:List Int}(hn:∀ x∈ks,p x=false):ks.find? p=none:=List.find?_eq_none.mpr fun x hx=>by rw[hn x hx];exact qp
def zu9 {cs:List (Int×Int)}{x y k:Int}{n:Nat}(h:k∈VL cs x y n):0<=k/\k<n:=by
 unfold VL at h
 obtain⟨j,hj,rfl⟩:=qW.mp h
 have:=List.mem_range.mp (qX.mp hj).1
 lia
section
variable {g:Int}{p q r s d t u v:Int×Int}
end
section
variable {cs:List (Int×Int)}{a b:Int×Int}{rp:List (Int×Int)}
end
section
variable {w h t m:Int}{cs:List (Int×Int)}
end
abbrev Yi (b:Str×(Int×Int)):D:=.tup [.str b.1,.int b.2.1,.int b.2.2]
def abc:List Nat:=List.range' 97 26
def zuB:("abcdefghijklmnopqrstuvwxyz":Str).cps.toList=abc:=by decide +kernel
def znf {c:Nat}:c∈abc↔97<=c/\c<=122:=by unfold abc;rw[List.mem_range'_1];lia
def Wu (z:Str):Bool:=decide (1<=z.length)&&(decide (z.length<=8)&&z.cps.toList.all fun c=>decide (c∈abc))
def zjy {z:Str}:Wu z=true↔1<=z.length/\z.length<=8/\∀ c∈z.cps.toList,c∈abc:=by
 unfold Wu
 rw[qG,qG,decide_eq_true_eq,decide_eq_true_eq,VB]
 simp only[decide_eq_true_eq]
def Qz {z:Str}(h:Wu z=true)(k:Nat):fl k (.str z)=true:=by
  have h3:=(zjy.mp h).2.2
  have:z.cps.all (· < 0x110000)=true:=by
    rw[Array.all_eq_true']
    intro x hx
    have:=znf.mp (h3 x (Array.mem_toList_iff.mpr hx))
    simp;lia
  cases k<;>exact this
structure Vl where
 cs:List (Int×Int)
 bs:List (Str×(Int×Int))
 fs:List Fg
 hz:Option Int
 h0:Int
 h1:Int
 dl:Int
structure FgV (F:Fg):Prop where
 b:FgB F
 o:F.f<=F.l
 f:Bd 300 F.f
 l:Bd 300 F.l
structure YF (V:Vl):Prop where
 gr:Wv V.cs
 b1:1<=V.bs.length
 b12:V.bs.length<=12
 nm:∀ b∈V.bs,Wu b.1=true
 nd:(V.bs.map (·.1)).Nodup
 st:∀ b∈V.bs,Wh V.cs b.2
 bd:∀ b∈V.bs,Bd 180 b.2.1/\Bd 200 b.2.2
 f12:V.fs.length<=12
 fg:∀ F∈V.fs,FgV F
 hz:∀ z,V.hz=some z->0<=z
 hh:V.h0<=V.h1
 b0:Bd 250 V.h0
 bl:Bd 250 V.h1
 dl:0<=V.dl
abbrev vF (g b f h a l d:D):List (Str×D):=[("ground",g),("beacons",b),("fogs",f),("haze",h),("first",a),("last",l),("delay",d)]
def X7 (S:Z5)(v:D)(V:Vl):Prop:=∃ n g b f,v=.ref n/\S[n]?=some (.ins "Valley" (vF (.ref g) (.ref b) (.ref f) (YB V.hz) (.int V.h0) (.int V.h1) (.int V.dl)))/\Wb S (.ref g) V.cs/\S[b]?=some (.lst (V.bs.map Yi))/\S[f]?=some (.lst (V.fs.map XJ))
theorem X7.old {S T:Z5}{v:D}{V:Vl}(h:X7 S v V):X7 (S++T) v V:=let ⟨n,g,b,f,e,h1,h2,h3,h4⟩:=h;⟨n,g,b,f,e,Xq h1,h2.old,Xq h3,Xq h4⟩
section
variable {S:Z5}{P:D->Prop}{n:Nat}{g b f h a l d:D}
def zrH (k:S[n]?=some (.ins "Valley" (vF g b f h a l d)))(q:P g):∃ m c fs x,D.ref n=.ref m/\S[m]?=some (.ins c fs)/\fs.lookup ("ground":Str)=some x/\P x:=⟨n,_,_,g,rfl,k,by simp[qo],q⟩
def zpT (k:S[n]?=some (.ins "Valley" (vF g b f h a l d)))(q:P b):∃ m c fs x,D.ref n=.ref m/\S[m]?=some (.ins c fs)/\fs.lookup ("beacons":Str)=some x/\P x:=⟨n,_,_,b,rfl,k,by rw[qo,show((("beacons":Str)=="ground")=false) by decide +kernel];simp[qo],q⟩
def zu0 (k:S[n]?=some (.ins "Valley" (vF g b f h a l d)))(q:P f):∃ m c fs x,D.ref n=.ref m/\S[m]?=some (.ins c fs)/\fs.lookup ("fogs":Str)=some x/\P x:=⟨n,_,_,f,rfl,k,by rw[qo,show((("fogs":Str)=="ground")=false) by decide +kernel];dsimp only;rw[qo,show((("fogs":Str)=="beacons")=false) by decide +kernel];simp[qo],q⟩
def zuv (k:S[n]?=some (.ins "Valley" (vF g b f h a l d)))(q:P h):∃ m c fs x,D.ref n=.ref m/\S[m]?=some (.ins c fs)/\fs.lookup ("haze":Str)=some x/\P x:=⟨n,_,_,h,rfl,k,by rw[qo,show((("haze":Str)=="ground")=false) by decide +kernel];dsimp only;rw[qo,show((("haze":Str)=="beacons")=false) by decide +kernel];dsimp only;rw[qo,show((("haze":Str)=="fogs")=false) by decide +kernel];simp[qo],q⟩
def ztL (k:S[n]?=some (.ins "Valley" (vF g b f h a l d)))(q:P a):∃ m c fs x,D.ref n=.ref m/\S[m]?=some (.ins c fs)/\fs.lookup ("first":Str)=some x/\P x:=⟨n,_,_,a,rfl,k,by rw[qo,show((("first":Str)=="ground")=false) by decide +kernel];dsimp only;rw[qo,show((("first":Str)=="beacons")=false) by decide +kernel];dsimp only;rw[qo,show((("first":Str)=="fogs")=false) by decide +kernel];dsimp only;rw[qo,show((("first":Str)=="haze")=false) by decide +kernel];simp[qo],q⟩
def zwu (k:S[n]?=some (.ins "Valley" (vF g b f h a l d)))(q:P l):∃ m c fs x,D.ref n=.ref m/\S[m]?=some (.ins c fs)/\fs.lookup ("last":Str)=some x/\P x:=⟨n,_,_,l,rfl,k,by rw[qo,show((("last":Str)=="ground")=false) by decide +kernel];dsimp only;rw[qo,show((("last":Str)=="beacons")=false) by decide +kernel];dsimp only;rw[qo,show((("last":Str)=="fogs")=false) by decide +kernel];dsimp only;rw[qo,show((("last":Str)=="haze")=false) by decide +kernel];dsimp only;rw[qo,show((("last":Str)=="first")=false) by decide +kernel];simp[qo],q⟩
def zsO (k:S[n]?=some (.ins "Valley" (vF g b f h a l d)))(q:P d):∃ m c fs x,D.ref n=.ref m/\S[m]?=some (.ins c fs)/\fs.lookup ("delay":Str)=some x/\P x:=⟨n,_,_,d,rfl,k,by rw[qo,show((("delay":Str)=="ground")=false) by decide +kernel];dsimp only;rw[qo,show((("delay":Str)=="beacons")=false) by decide +kernel];dsimp only;rw[qo,show((("delay":Str)=="fogs")=false) by decide +kernel];dsimp only;rw[qo,show((("delay":Str)=="haze")=false) by decide +kernel];dsimp only;rw[qo,show((("delay":Str)=="first")=false) by decide +kernel];dsimp only;rw[qo,show((("delay":Str)=="last")=false) by decide +kernel];simp[qo],q⟩
end
def Qm {bs:List (Str×(Int×Int))}{i:Nat}{d:D}(h:(bs.map Yi)[i]?=some d):∃ b,bs[i]?=some b/\d=Yi b:=by
 rw[qj]at h
 cases e:bs[i]? with
 |none=>rw[e]at h;cases h
 |some p=>rw[e]at h;cases h;exact⟨p,rfl,rfl⟩
def Qw (f:Str×(Int×Int)->D):D->D
 |.tup [.str z,.int a,.int b]=>f (z,a,b)
 |d=>d
def O9 (f:Str×(Int×Int)->D)(bs:List (Str×(Int×Int))):(bs.map Yi).map (Qw f)=bs.map f:=by rw[qT];rfl
def sqr (a b:Int×Int):Int:=(b.1-a.1)*(b.1-a.1)+(b.2-a.2)*(b.2-a.2)
def hzy (z:Option Int)(q:Int):Bool:=match z with
 |some z=>decide (z<q)
 |none=>false
def zhs (V:Vl)(a b:Int×Int):D:=match O1 V.cs a b with
 | some k=>.tup [.str "ground",.int k]
 | none=>if hzy V.hz (sqr a b)=true then .tup [.str "haze",.int (sqr a b)]else .non
def Alw (V:Vl)(a b:Int×Int):Prop:=O1 V.cs a b=none/\hzy V.hz (sqr a b)=false
def zkz {V:Vl}{a b:Int×Int}:zhs V a b=.non↔Alw V a b:=by
 unfold zhs Alw
 cases O1 V.cs a b with
 |some k=>simp
 |none =>
  cases h:hzy V.hz (sqr a b)with
  |true=>simp
  |false=>simp
def zrU (V:Vl)(a b:Int×Int)(h:Int):Prop:=Alw V a b/\¬ ∃ F∈V.fs,zes F a.1 a.2 b.1 b.2 h
structure QJ (V:Vl)(n m:Str)(s t:Int×Int)(ms:List (Int×Int)):Prop where
 ok:Zo ms
 iff:∀ h,ms.any (Zu h)=true↔V.h0<=h/\h<=V.h1/\(n=m\/zrU V s t h)
 len:ms.length<=14
def zfA {V:Vl}(ok:YF V){b c:Str×(Int×Int)}(hb:b∈V.bs)(hc:c∈V.bs)(e:b.1=c.1):b=c:=by
 obtain⟨i,hi,rfl⟩:=qS.mp hb
 obtain⟨j,hj,rfl⟩:=qS.mp hc
 have nd:=Px.mp ok.nd
 rcases Nat.lt_trichotomy i j with h|h|h
 ·exact absurd (by rw[Uz,Uz];exact e) (nd i j (by simpa using hi) (by simpa using hj) h)
 ·subst h;rfl
 ·exact absurd (by rw[Uz,Uz];exact e.symm) (nd j i (by simpa using hj) (by simpa using hi) h)
def zkO {V:Vl}(ok:YF V){i j:Nat}{b c:Str×(Int×Int)}(hb:V.bs[i]?=some b)(hc:V.bs[j]?=some c):b.1=c.1↔i=j:=by
 have li:=zV hb
 have lj:=zV hc
 rw[qc li]at hb
 rw[qc lj]at hc
 cases hb;cases hc
 have nd:=Px.mp ok.nd
 constructor
 ·intro e
  rcases Nat.lt_trichotomy i j with h|h|h
  ·exact absurd (by rw[Uz,Uz];exact e) (nd i j (by simpa using li) (by simpa using lj) h)
  ·exact h
  ·exact absurd (by rw[Uz,Uz];exact e.symm) (nd j i (by simpa using lj) (by simpa using li) h)
 ·rintro rfl;rfl
def ztX {S A B X:Z5}(h:∃ T,A=S++T)(e:B=A++X):∃ T,B=S++T:=let ⟨T,h⟩:=h;⟨T++X,by rw[e,h,qu]⟩
def zrd {f:Str}{v:D}:putD f v []=[(f,v)]:=rfl
def Yd {f g:Str}{v x:D}{r:List (Str×D)}(h:g≠f):putD f v ((g,x)::r)=(g,x)::putD f v r:=by
 show(if g=f then _ else _)=_
 rw[if_neg h]
section
variable {g b f h a l d:D}
def vp2:putD "beacons" b ([("ground",g)]:List (Str×D))=([("ground",g),("beacons",b)]:List (Str×D)):=by rw[Yd (by decide +kernel)];rfl
def vp3:putD "fogs" f ([("ground",g),("beacons",b)]:List (Str×D))=([("ground",g),("beacons",b),("fogs",f)]:List (Str×D)):=by rw[Yd (by decide +kernel),Yd (by decide +kernel)];rfl
def vp4:putD "haze" h ([("ground",g),("beacons",b),("fogs",f)]:List (Str×D))=([("ground",g),("beacons",b),("fogs",f),("haze",h)]:List (Str×D)):=by rw[Yd (by decide +kernel),Yd (by decide +kernel),Yd (by decide +kernel)];rfl
def vp5:putD "first" a ([("ground",g),("beacons",b),("fogs",f),("haze",h)]:List (Str×D))=([("ground",g),("beacons",b),("fogs",f),("haze",h),("first",a)]:List (Str×D)):=by rw[Yd (by decide +kernel),Yd (by decide +kernel),Yd (by decide +kernel),Yd (by decide +kernel)];rfl
def vp6:putD "last" l ([("ground",g),("beacons",b),("fogs",f),("haze",h),("first",a)]:List (Str×D))=([("ground",g),("beacons",b),("fogs",f),("haze",h),("first",a),("last",l)]:List (Str×D)):=by rw[Yd (by decide +kernel),Yd (by decide +kernel),Yd (by decide +kernel),Yd (by decide +kernel),Yd (by decide +kernel)];rfl
def vp7:putD "delay" d ([("ground",g),("beacons",b),("fogs",f),("haze",h),("first",a),("last",l)]:List (Str×D))=vF g b f h a l d:=by rw[Yd (by decide +kernel),Yd (by decide +kernel),Yd (by decide +kernel),Yd (by decide +kernel),Yd (by decide +kernel),Yd (by decide +kernel)];rfl
end
def Qi (z:Int):YB (some z)=.int z:=rfl
def zdQ:YB none=.non:=rfl
def zrB {α:Type}(xs:List α){k:Int}(h0:0<=k)(h1:k<=xs.length):cutD xs none (some k)=xs.take k.toNat:=by
 unfold cutD W0
 dsimp only
 rw[if_neg (by lia),List.drop_zero,Nat.sub_zero,Nat.min_eq_left (by lia)]
theorem zmH (n:Str):∀ zs:List Str,((zs.map D.str).any fun z=>eqv z (.str n))=decide (n∈zs)
 |[]=>by simp
 |z::zs=>by
  rw[qE,R4,zmH n zs]
  show((z==n)||decide (n∈zs))=decide (n∈z::zs)
  rw[Rh,Pg,beq_iff_eq,decide_eq_true_eq,decide_eq_true_eq,qg]
  exact⟨fun h=>h.imp (·.symm) id,fun h=>h.imp (·.symm) id⟩
def ztP {zs:List Str}(h:∀ z∈zs,fl 20 (.str z)=true):(zs.map D.str).all (fl 20)=true:=by
 rw[SX,VB];exact h
def zpr {S:Z5}{Q:DK}{x:D}{zs:List Str}{n:Str}(hx:V0 S x (zs.map D.str))(hn:fl 20 (.str n)=true)(h:∀ z∈zs,fl 20 (.str z)=true)(q:Q (.bl (!decide (n∈zs))) S):zl0 (.str n) x S Q:=.inl ⟨_,⟨_,hx,hn,ztP h,rfl⟩,by rw[zmH];exact q⟩
def YF.flN {V:Vl}(ok:YF V):∀ z∈V.bs.map (·.1),fl 20 (.str z)=true:=fun z hz=>by
 obtain⟨b,hb,rfl⟩:=qW.mp hz
 exact Qz (ok.nm b hb) 20
mutual
theorem eqv_refl:∀ (k:Nat) (d:D),fl k d=true->eqv d d=true
  |_,.non,_=>rfl
  |_,.bl b,_=>by show(b==b)=true;simp
  |_,.int i,_=>by show decide (i=i)=true;simp
  |_,.str x,_=>by show(x==x)=true;simp
  |0,.tup _,h=>by cases h
  |k+1,.tup xs,h=>eqvAll_refl k xs h
  |k,.ref _,h=>by cases k<;>cases h
  |k,.ty _,h=>by cases k<;>cases h
  |k,.rl _,h=>by cases k<;>cases h
  |k,.exn _,h=>by cases k<;>cases h
theorem eqvAll_refl:∀ (k:Nat) (xs:List D),xs.all (fl k)=true->eqvAll xs xs=true
  |_,[],_=>rfl
  |k,x::xs,h=>by
    rw[Va,qG]at h
    show(eqv x x&&eqvAll xs xs)=true
    rw[eqv_refl k x h.1,eqvAll_refl k xs h.2];rfl
end
def zqx {S:Z5}{Q:DK}{x y:D}{xs:List D}(hx:Lst S x xs)(hy:Lst S y xs)(f:xs.all (fl 20)=true)(q:Q (.bl false) S):Wj x y S Q:=zxv hx hy f f (eqvAll_refl 20 xs f) q
def onS (p:Str->D):D->D
 |.str z=>p z
 |d=>d
def zjG {zs:List Str}{i:Nat}{d:D}(h:(zs.map D.str)[i]?=some d):∃ z,zs[i]?=some z/\d=.str z:=by
 rw[qj]at h
 cases e:zs[i]? with
 |none=>rw[e]at h;cases h
 |some p=>rw[e]at h;cases h;exact⟨p,rfl,rfl⟩
def zui (f:Str->D)(zs:List Str):(zs.map D.str).map (onS f)=zs.map f:=by rw[qT];rfl
def zpN {S:Z5}{Q:DK}{x y:Str}(fx:fl 20 (.str x)=true)(fy:fl 20 (.str y)=true)(q:Q (.bl (decide (x=y))) S):oEq (.str x) (.str y) S Q:=ztd fx fy (by
 by_cases h:x=y
 ·subst h;rw[decide_eq_true rfl];exact beq_self_eq_true x
 ·rw[decide_eq_false h];exact beq_eq_false_iff_ne.mpr h) q
open Classical in
abbrev vlD (x y z:D)(V:Vl):D:=.tup [x,y,z,YB V.hz,.int V.h0,.int V.h1,.int V.dl]
def RX (S:Z5)(x y z:D)(V:Vl):Prop:=Lst S x (V.cs.map p2)/\Lst S y (V.bs.map Yi)/\Lst S z (V.fs.map XJ)
theorem RX.old {S T:Z5}{x y z:D}{V:Vl}(h:RX S x y z V):RX (S++T) x y z V:=⟨h.1.old,h.2.1.old,h.2.2.old⟩
def onC (p:Nat->Bool):D->D
 |.str z=>.bl (p (z.cps.toList.headD 0))
 |d=>d
def zpC {z:Str}{i:Nat}{d:D}(h:(signs z)[i]?=some d):∃ c,z.cps.toList[i]?=some c/\d=.str ⟨#[c]⟩:=by
 unfold signs at h
 rw[qj]at h
 cases e:z.cps.toList[i]? with
 |none=>rw[e]at h;cases h
 |some p=>rw[e]at h;cases h;exact⟨p,rfl,rfl⟩
def zpB (p:Nat->Bool)(z:Str):(signs z).map (onC p)=(z.cps.toList.map p).map D.bl:=by
 unfold signs
 rw[qT,qT];rfl
def zoM (z:Str):(signs z).length=z.length:=by
 unfold signs
 rw[qb];exact qN
section
variable {see:Nat->Nat->Int->Prop}{dl:Int}{s:Nat}{h0:Int}
inductive Lt (see:Nat->Nat->Int->Prop)(dl:Int)(s:Nat)(h0:Int):Nat->Int->Prop
 |base:Lt see dl s h0 s h0
 |step {k j:Nat} {h u:Int}:Lt see dl s h0 k h->h<=u->see k j u->Lt see dl s h0 j (u+dl)
inductive Lp (see:Nat->Nat->Int->Prop)(dl:Int)(s:Nat)(h0:Int):List Nat->Nat->Int->Prop
 |base:Lp see dl s h0 [s] s h0
 |step {vs:List Nat} {k j:Nat} {h u:Int}:Lp see dl s h0 vs k h->h<=u->see k j u->j∉vs->Lp see dl s h0 (j::vs) j (u+dl)
def Lt.ge (hd:0<=dl){j:Nat}{h:Int}(w:Lt see dl s h0 j h):h0<=h:=by
 induction w with
 |base=>exact qr _
 |step _ hu _ ih=>lia
def Lp.lt {vs:List Nat}{j:Nat}{h:Int}(w:Lp see dl s h0 vs j h):Lt see dl s h0 j h:=by
 induction w with
 |base=>exact .base
 |step _ hu hs _ ih=>exact .step ih hu hs
def Lp.nodup {vs:List Nat}{j:Nat}{h:Int}(w:Lp see dl s h0 vs j h):vs.Nodup:=by
 induction w with
 |base=>simp
 |step _ _ _ hn ih=>exact PX.mpr ⟨hn,ih⟩
def Lp.lt_n {n:Nat}(hs:s<n)(hn:∀ k j u,see k j u->j<n){vs:List Nat}{j:Nat}{h:Int}(w:Lp see dl s h0 vs j h):∀ x∈vs,x<n:=by
 induction w with
 |base =>
  intro x hx
  have:x=s:=by simpa using hx
  lia
 |step _ _ hse _ ih =>
  intro x hx
  rcases qg.mp hx with rfl|hx
  ·exact hn _ _ _ hse
  ·exact ih x hx
def Lp.mem (hd:0<=dl){vs:List Nat}{k:Nat}{h:Int}(w:Lp see dl s h0 vs k h):∀ x∈vs,∃ vs' hx,Lp see dl s h0 vs' x hx/\hx<=h:=by
 induction w with
 |base =>
  intro x hx
  have e:x=s:=by simpa using hx
  subst e;exact⟨_,_,.base,qr _⟩
 |step w hu hs hn ih =>
  intro x hx
  rcases qg.mp hx with rfl|hx
  ·exact⟨_,_,.step w hu hs hn,qr _⟩
  ·obtain⟨vs',hx',w',le⟩:=ih x hx
   exact⟨vs',hx',w',by lia⟩
def Lt.path (hd:0<=dl){j:Nat}{h:Int}(w:Lt see dl s h0 j h):∃ vs h',Lp see dl s h0 vs j h'/\h'<=h:=by
 induction w with
 |base=>exact⟨_,_,.base,qr _⟩
 |@step k j h u _ hu hs ih =>
  obtain⟨vs,h',w',le⟩:=ih
  by_cases hm:j∈vs
  ·obtain⟨vs2,h2,w2,le2⟩:=w'.mem hd j hm
   exact⟨vs2,h2,w2,by lia⟩
  ·exact⟨_,_,.step w' (by lia) hs hm,qr _⟩
def zld:∀ {n:Nat} {vs:List Nat},vs.Nodup->(∀ x∈vs,x<n)->vs.length<=n:=by
 intro n vs nd h
 have:∀ {F N:List Nat},F.Nodup->(∀ x∈F,x∈N)->F.length<=N.length:=fun {F N}=>by
  induction F generalizing N with
  |nil=>intro _ _;exact qP _
  |cons x F ih =>
   intro nd h
   obtain⟨n1,n2⟩:=PX.mp nd
   have hx:=h x (by simp)
   have:=ih (N:=N.erase x) n2 fun y hy=>(List.mem_erase_of_ne (fun e:y=x=>n1 (e▸hy))).mpr (h y (qB _ hy))
   rw[List.length_erase_of_mem hx]at this
   have:=List.length_pos_of_mem hx
   rw[qO];lia
 have:=this (N:=List.range n) nd fun x hx=>List.mem_range.mpr (h x hx)
 rwa[Tv]at this
structure Ri (see:Nat->Nat->Int->Prop)(dl:Int)(s:Nat)(h0:Int)(f:Nat->Option Int):Prop where
 snd:∀ j h,f j=some h->Lt see dl s h0 j h
 lst:∀ j h,Lt see dl s h0 j h->∃ h',f j=some h'/\h'<=h
def Ri.uniq {f g:Nat->Option Int}(a:Ri see dl s h0 f)(b:Ri see dl s h0 g)(j:Nat):f j=g j:=by
 cases hf:f j with
 |none =>
  cases hg:g j with
  |none=>rfl
  |some h =>
   obtain⟨h',e,_⟩:=a.lst j h (b.snd j h hg)
   rw[hf]at e;cases e
 |some h =>
  obtain⟨h',e,le⟩:=b.lst j h (a.snd j h hf)
  obtain⟨h2,e2,le2⟩:=a.lst j h' (b.snd j h' e)
  rw[hf]at e2;cases e2
  rw[e];exact congrArg some (by lia)
structure Rnd (see:Nat->Nat->Int->Prop)(dl:Int)(s:Nat)(h0:Int)(n r:Nat)(lit:List (Option Int)):Prop where
 len:lit.length=n
 snd:∀ (j:Nat) h,lit[j]?=some (some h)->Lt see dl s h0 j h
 prg:∀ vs j h,Lp see dl s h0 vs j h->vs.length<=r+1->∃ h',lit[j]?=some (some h')/\h'<=h
structure TY (see:Nat->Nat->Int->Prop)(dl:Int)(s:Nat)(h0:Int)(n r:Nat)(D:Nat->Nat->Prop)(lit:List (Option Int)):Prop where
 rnd:Rnd see dl s h0 n r lit
 don:∀ k j,D k j->∀ vs h u,Lp see dl s h0 vs k h->vs.length<=r+1->h<=u->see k j u->∃ h',lit[j]?=some (some h')/\h'<=u+dl
def TY.keep {n r:Nat}{D D':Nat->Nat->Prop}{lit lit':List (Option Int)}(w:TY see dl s h0 n r D lit)(hl:lit'.length=n)(hs:∀ (j:Nat) h,lit'[j]?=some (some h)->Lt see dl s h0 j h)(hle:∀ (j:Nat) h,lit[j]?=some (some h)->∃ h',lit'[j]?=some (some h')/\h'<=h)
  (hD:∀ k j,D' k j->¬ D k j->∀ vs h u,Lp see dl s h0 vs k h->vs.length<=r+1->h<=u->see k j u->∃ h',lit'[j]?=some (some h')/\h'<=u+dl):TY see dl s h0 n r D' lit':=by
 have up:∀ {j:Nat} {x:Int},(∃ h',lit[j]?=some (some h')/\h'<=x)->∃ h',lit'[j]?=some (some h')/\h'<=x:=fun {j x} ⟨h',e,le⟩=>by
  obtain⟨h2,e2,le2⟩:=hle j h' e
  exact⟨h2,e2,by lia⟩
 refine⟨⟨hl,hs,fun vs j h p l=>up (w.rnd.prg vs j h p l)⟩,fun k j hkj vs h u p l hu hse=>?_⟩
 by_cases z:D k j
 ·exact up (w.don k j z vs h u p l hu hse)
 ·exact hD k j hkj z vs h u p l hu hse
def TY.next {n r:Nat}{D:Nat->Nat->Prop}{lit:List (Option Int)}(hs:s<n)(hn:∀ k j u,see k j u->k<n/\j<n)(w:TY see dl s h0 n r D lit)(all:∀ k j,k<n->j<n->D k j):Rnd see dl s h0 n (r+1) lit:=by
 refine⟨w.rnd.len,w.rnd.snd,fun vs j h p l=>?_⟩
 cases p with
 |base=>exact w.rnd.prg _ _ _ .base (by simp)
 |@step vs k _ h' u p hu hse hm =>
  have:=hn _ _ _ hse
  exact w.don k j (all k j this.1 this.2) vs h' u p (by simpa using l) hu hse
def Rnd.ear {n:Nat}{lit:List (Option Int)}(hd:0<=dl)(hs:s<n)(hn:∀ k j u,see k j u->k<n/\j<n)(w:Rnd see dl s h0 n n lit):Ri see dl s h0 fun j=>(lit[j]?).join:=by
 refine⟨fun j h e=>w.snd j h ?_,fun j h l=>?_⟩
 ·cases e2:lit[j]? with
  |none=>rw[e2]at e;cases e
  |some o=>rw[e2]at e;have e3:o=some h:=e;rw[e3]
 ·obtain⟨vs,h',p,le⟩:=l.path hd
  have:=zld p.nodup (p.lt_n hs fun k j u z=>(hn k j u z).2)
  obtain⟨h2,e,le2⟩:=w.prg vs j h' p (by lia)
  exact⟨h2,by show(lit[j]?).join=_;rw[e];rfl,by lia⟩
end
def Xl (xs:List Int)(h:Int):Option Int:=(xs.filter fun u=>decide (h<=u)).head?
def Ph {xs:List Int}(asc:xs.Pairwise (· < ·)){h u:Int}(e:Xl xs h=some u):u∈xs/\h<=u/\∀ v∈xs,h<=v->u<=v:=by
  unfold Xl at e
  have asc':=asc.sublist (qbi (p:=fun u=>decide (h<=u)) (l:=xs))
  cases hf:xs.filter fun u=>decide (h<=u)with
  |nil=>rw[hf]at e;cases e
  |cons a r =>
    rw[hf]at e asc'
    have ea:a=u:=by simpa using e
    subst ea
    have ma:a∈xs.filter fun u=>decide (h<=u):=by rw[hf];simp
    obtain⟨m1,m2⟩:=qX.mp ma
    refine⟨m1,of_decide_eq_true m2,fun v hv hle=>?_⟩
    have mv:v∈xs.filter fun u=>decide (h<=u):=qX.mpr ⟨hv,decide_eq_true hle⟩
    rw[hf]at mv
    rcases qg.mp mv with rfl|mv
    . exact qr _
    . have:=(qM.mp asc').1 v mv
      lia
def zdR {xs:List Int}{h:Int}(e:Xl xs h=none):∀ v∈xs,¬ h<=v:=fun v hv hle=>by
 unfold Xl at e
 rw[List.head?_eq_none_iff,qbx]at e
 exact e v hv (decide_eq_true hle)
def zuk {xs:List Int}(asc:xs.Pairwise (· < ·)){h:Int}{o:Option Int}(h1:∀ u,o=some u->u∈xs/\h<=u/\∀ v∈xs,h<=v->u<=v)(h2:o=none->∀ v∈xs,¬ h<=v):Xl xs h=o:=by
  cases e:Xl xs h with
  |none =>
    cases o with
    |none=>rfl
    |some u=>exact absurd (h1 u rfl).2.1 (zdR e u (h1 u rfl).1)
  |some a =>
    obtain⟨a1,a2,a3⟩:=Ph asc e
    cases o with
    |none=>exact absurd a2 (h2 rfl a a1)
    |some u =>
      obtain⟨b1,b2,b3⟩:=h1 u rfl
      exact congrArg some (by have:=a3 u b1 b2;have:=b3 a a1 a2;lia)
def zhT {ms:List (Int×Int)}(ok:Zo ms){h u:Int}(e:W3 ms h=some u):ms.any (Zu u)=true/\h<=u/\∀ v,ms.any (Zu v)=true->h<=v->u<=v:=by
 induction ms with
 |nil=>cases e
 |cons c r ih =>
  have e':(if h<=c.2 then some (max c.1 h)else W3 r h)=some u:=e
  have lc:=ok.le c (by simp)
  have okr:Zo r:=⟨fun d hd=>ok.le d (qB _ hd),(qM.mp ok.ap).2⟩
  by_cases g:h<=c.2
  ·rw[if_pos g]at e'
   have eu:max c.1 h=u:=qw e'
   refine⟨X5.mpr ⟨c,by simp,by lia,by lia⟩,by lia,fun v hv hle=>?_⟩
   obtain⟨d,hd,d1,d2⟩:=X5.mp hv
   rcases qg.mp hd with rfl|hd
   ·lia
   ·have:=(qM.mp ok.ap).1 d hd
    lia
  ·rw[if_neg g]at e'
   obtain⟨a1,a2,a3⟩:=ih okr e'
   obtain⟨d,hd,d1,d2⟩:=X5.mp a1
   refine⟨X5.mpr ⟨d,qB _ hd,d1,d2⟩,a2,fun v hv hle=>?_⟩
   obtain⟨d',hd',d1',d2'⟩:=X5.mp hv
   rcases qg.mp hd' with rfl|hd'
   ·lia
   ·exact a3 v (X5.mpr ⟨d',hd',d1',d2'⟩) hle
def zh2 {ms:List (Int×Int)}{h:Int}(e:W3 ms h=none):∀ v,h<=v->¬ ms.any (Zu v)=true:=by
 induction ms with
 |nil=>intro v _ z;simp at z
 |cons c r ih =>
  have e':(if h<=c.2 then some (max c.1 h)else W3 r h)=none:=e
  by_cases g:h<=c.2
  ·rw[if_pos g]at e';cases e'
  ·rw[if_neg g]at e'
   intro v hle hv
   obtain⟨d,hd,d1,d2⟩:=X5.mp hv
   rcases qg.mp hd with rfl|hd
   ·lia
   ·exact ih e' v hle (X5.mpr ⟨d,hd,d1,d2⟩)
abbrev Xv (os:List (Option Int)):List D:=os.map YB
def zlU {os:List (Option Int)}{k:Nat}(h:k<os.length):Y9 (Xv os) (k:Int)=some (YB ((os[k]?).join)):=T4 (by rw[qj,qc h];rfl)
def zo4 {os:List (Option Int)}{k:Nat}(h:k<os.length):X3 (Xv os).length (k:Int)=some k:=by
 unfold X3;rw[qb,if_pos (by lia),if_pos (by lia)];rfl
noncomputable def zoq (V:Vl) (k j:Nat) (h:Int):Bool:=@decide (k≠j/\∃ b c,V.bs[k]?=some b/\V.bs[j]?=some c/\zrU V b.2 c.2 h) (Classical.propDecidable _)
def zig {V:Vl}{k j:Nat}{h:Int}:zoq V k j h=true↔k≠j/\∃ b c,V.bs[k]?=some b/\V.bs[j]?=some c/\zrU V b.2 c.2 h:=by unfold zoq;exact @decide_eq_true_iff _ (Classical.propDecidable _)
def hrs (V:Vl):List Int:=(List.range (V.h1-V.h0+1).toNat).map fun i:Nat=>V.h0+(i:Int)
def zmY {V:Vl}{h:Int}:h∈hrs V↔V.h0<=h/\h<=V.h1:=by
 unfold hrs
 rw[qW]
 constructor
 ·rintro⟨i,hi,rfl⟩
  have:=List.mem_range.mp hi
  lia
 ·rintro⟨h0,h1⟩
  exact⟨(h-V.h0).toNat,List.mem_range.mpr (by lia),by lia⟩
def zjt (V:Vl):(hrs V).Pairwise (· < ·):=by
  unfold hrs
  rw[List.pairwise_map]
  exact List.pairwise_lt_range.imp fun h=>by lia
noncomputable def Xn (V:Vl) (k j:Nat):List Int:=(hrs V).filter (zoq V k j)
def zjd {V:Vl}{k:Nat}:Xn V k k=[]:=by
 unfold Xn
 rw[qbx]
 intro h _ z
 exact(zig.mp z).1 rfl
def zgy {V:Vl}{k j:Nat}{h:Int}:h∈Xn V k j↔V.h0<=h/\h<=V.h1/\zoq V k j h=true:=by
 unfold Xn
 rw[qX,zmY,and_assoc]
def QD (V:Vl)(k j:Nat):(Xn V k j).Pairwise (· < ·):=(zjt V).sublist qbi
def YD (V:Vl)(k j:Nat)(u:Int):Prop:=u∈Xn V k j
def zhm {V:Vl}{k j:Nat}{u:Int}(h:YD V k j u):k<V.bs.length/\j<V.bs.length:=by
 obtain⟨_,b,c,hb,hc,_⟩:=zig.mp (zgy.mp h).2.2
 exact⟨zV hb,zV hc⟩
def zmd {lit:List (Option Int)}{k:Nat}{h:Int}(e:(lit[k]?).join=some h):lit[k]?=some (some h):=by
 cases e2:lit[k]? with
 |none=>rw[e2]at e;cases e
 |some o=>rw[e2]at e;have:o=some h:=e;rw[this]
def zgn {V:Vl}(ok:YF V){k j:Nat}{b c:Str×(Int×Int)}(hb:V.bs[k]?=some b)(hc:V.bs[j]?=some c)(hkj:k≠j){ms:List (Int×Int)}(hm:QJ V b.1 c.1 b.2 c.2 ms)(h:Int):Xl (Xn V k j) h=W3 ms h:=by
 have ne:b.1≠c.1:=fun e=>hkj ((zkO ok hb hc).mp e)
 have iff:∀ u,u∈Xn V k j↔ms.any (Zu u)=true:=fun u=>by
  rw[zgy,hm.iff,zig]
  constructor
  ·rintro⟨h1,h2,_,b',c',hb',hc',z⟩
   rw[hb]at hb';rw[hc]at hc';cases hb';cases hc'
   exact⟨h1,h2,.inr z⟩
  ·rintro⟨h1,h2,z|z⟩
   ·exact absurd z ne
   ·exact⟨h1,h2,hkj,b,c,hb,hc,z⟩
 refine zuk (QD V k j) (fun u e=>?_) (fun e v hv hle=>zh2 e v hle ((iff v).mp hv))
 obtain⟨a1,a2,a3⟩:=zhT hm.ok e
 exact⟨(iff u).mpr a1,a2,fun v hv=>a3 v ((iff v).mp hv)⟩
def zjx (z n:Str):eqv (.str z) (.str n)=decide (z=n):=by
 show(z==n)=_
 rw[Rh,beq_iff_eq,decide_eq_true_eq]
def Tr (V:Vl)(i:Nat)(z:Str):Prop:=∃ b,V.bs[i]?=some b/\b.1=z
def Tr.uniq {V:Vl}(ok:YF V){i j:Nat}{z:Str}(a:Tr V i z)(b:Tr V j z):i=j:=by
 obtain⟨x,hx,rfl⟩:=a
 obtain⟨y,hy,e⟩:=b
 exact(zkO ok hx hy).mp e.symm
def znm {V:Vl}{z:Str}(h:z∈V.bs.map (·.1)):∃ i,Tr V i z:=by
 obtain⟨b,hb,rfl⟩:=qW.mp h
 obtain⟨i,hi,e⟩:=qS.mp hb
 exact⟨i,b,by rw[qc hi,e],rfl⟩
theorem zm5:∀ {r:List Pc} {p:Pc},ZX (p::r)->∃ q∈p::r,p.lo+(r.length:Int)<=q.hi
 |[],p,h=>⟨p,by simp,by have:=(h.good p (by simp)).le;simpa using this⟩
 |q::s,p,h=>by
  obtain⟨t,ht,e⟩:=zm5 h.tail
  have h1:=ZX.above h q (by simp)
  have h2:=(h.good p (by simp)).le
  exact⟨t,qg.mpr (.inr ht),by rw[qO];push_cast;lia⟩
def zny {ps:List Pc}{a b:Int}(hr:ZX ps)(h:∀ x v,at' ps x=some v->a<=x/\x<=b):(ps.length:Int)<=max 0 (b-a+1):=by
 cases ps with
 |nil=>simp;lia
 |cons p r =>
  obtain⟨q,hq,e⟩:=zm5 hr
  obtain⟨i,hi,ei⟩:=qS.mp hq
  have g:=hr.good q hq
  have h1:=h q.hi _ (Xa hr (by rw[qc hi,ei]) ⟨g.le,qr _⟩)
  have h2:=h p.lo _ (Tz (hr.good p (by simp)))
  rw[qO]
  push_cast
  lia
def Wz (a:Int)(ps:List Pc):Prop:=∀ p∈ps.head?,p.lo=a
def Wz.at {a:Int}{ps:List Pc}(hr:ZX ps)(d:Wz a ps){x y v:Int}(e:at' ps y=some v)(h1:a<=x)(h2:x<=y):∃ u,at' ps x=some u/\u<=v:=by
 cases ps with
 |nil=>cases e
 |cons p r =>
  have hp:p.lo=a:=d p rfl
  obtain⟨u,hu⟩:=zey hr e (by lia) h2
  exact⟨u,hu,Us hr hu e h2⟩
def Wz.of {a:Int}{ps:List Pc}(hr:ZX ps)(h0:∀ x v,at' ps x=some v->a<=x)(h1:∀ x v,at' ps x=some v->∃ u,at' ps a=some u):Wz a ps:=fun p hp=>by
 cases ps with
 |nil=>cases hp
 |cons q r =>
  cases hp
  have e:=Tz (r:=r) (hr.good p (by simp))
  have g:=h0 _ _ e
  obtain⟨u,hu⟩:=h1 _ _ e
  have:=(Sw hr hu).2
  lia
theorem zjl:∀ (ms:List (Int×Int)) (h:Int),Xm ms h=W3 ms h
 |[],_=>rfl
 |c::r,h=>by
  show(if h<=c.2 then some (max h c.1)else Xm r h)=if h<=c.2 then some (max c.1 h)else W3 r h
  rw[zjl r h,show max h c.1=max c.1 h by lia]
structure Xo (V:Vl)(s:Nat)(f:Nat->List Pc):Prop where
 isR:∀ j,ZX (f j)
 dom:∀ j x v,at' (f j) x=some v->V.h0<=x/\x<=V.h1
 dwn:∀ j,Wz V.h0 (f j)
 snd:∀ j x v,at' (f j) x=some v->Lt (YD V) V.dl s x j v
 st:∀ x,V.h0<=x->x<=V.h1->at' (f s) x=some x
structure VF (V:Vl)(k j:Nat)(ps:List Pc):Prop where
  isR:ZX ps
  led:∀ x,at' ps x=if V.h0<=x then(if k=j then(if x<=V.h1 then some (x+V.dl)else none)else(Xl (Xn V k j) x).map (· + V.dl))else none
  len:ps.length<=28
def T3.stp {V:Vl}(ok:YF V){b c:Str×(Int×Int)}{k j:Nat}(hb:V.bs[k]?=some b)(hc:V.bs[j]?=some c){ms:List (Int×Int)}{ps:List Pc}(hm:QJ V b.1 c.1 b.2 c.2 ms)(i:ZX ps)(l:ps.length<=2*ms.length)(led:∀ h,at' ps h=if V.h0<=h then(Xm ms h).map (· + V.dl)else none):VF V k j ps:=by
  refine⟨i,fun x=>?_,by have:=hm.len;lia⟩
  rw[led,zjl]
  by_cases h0:V.h0<=x
  . rw[if_pos h0,if_pos h0]
    by_cases e:k=j
    . subst e
      rw[hb]at hc;cases hc
      rw[if_pos rfl]
      cases hf:W3 ms x with
      |none =>
        have:=zh2 hf x (qr _)
        rw[hm.iff]at this
        rw[if_neg (fun g=>this ⟨h0,g,.inl rfl⟩)];rfl
      |some u =>
        obtain⟨h1,h2,h3⟩:=zhT hm.ok hf
        have h4:=(hm.iff u).mp h1
        have h5:=h3 x ((hm.iff x).mpr ⟨h0,by lia,.inl rfl⟩) (qr _)
        rw[if_pos (by lia),show u=x by lia];rfl
    . rw[if_neg e,zgn ok hb hc e hm x]
  . rw[if_neg h0,if_neg h0]
structure Uc (f:Nat->List Pc)(k j:Nat)(ps r:List Pc):Prop where
 isR:ZX r
 is:∀ x v,at' r x=some v->at' (f j) x=some v\/∃ w,at' (f k) x=some w/\at' ps w=some v/\∀ v',at' (f j) x=some v'->v<=v'
 old:∀ x v,at' (f j) x=some v->∃ v',at' r x=some v'/\v'<=v
 new:∀ x w v,at' (f k) x=some w->at' ps w=some v->∃ v',at' r x=some v'/\v'<=v
theorem Xo.ge {V:Vl}{s:Nat}{f:Nat->List Pc}(hd:0<=V.dl)(H:Xo V s f){j:Nat}{x v:Int}(e:at' (f j) x=some v):x<=v:=(H.snd j x v e).ge hd
def Xo.relax {V:Vl}{s:Nat}{f:Nat->List Pc}{k j:Nat}{ps r:List Pc}(hd:0<=V.dl)(H:Xo V s f)(sp:VF V k j ps)(R:Uc f k j ps r):Xo V s (fun a=>if a=j then r else f a):=by
 have dom:∀ x v,at' r x=some v->V.h0<=x/\x<=V.h1:=fun x v e=>by
  rcases R.is x v e with h|⟨w,h,_⟩
  ·exact H.dom j x v h
  ·exact H.dom k x w h
 have stp:∀ w v,at' ps w=some v->∀ w',V.h0<=w'->w'<=w->∃ v',at' ps w'=some v':=fun w v e w' h1 h2=>by
  rw[sp.led]at e
  rw[sp.led,if_pos h1]
  rw[if_pos (show V.h0<=w by lia)]at e
  by_cases ek:k=j
  ·rw[if_pos ek]at e ⊢
   by_cases g:w<=V.h1
   ·exact⟨_,by rw[if_pos (by lia)]⟩
   ·rw[if_neg g]at e;cases e
  ·rw[if_neg ek]at e ⊢
   cases hf:Xl (Xn V k j) w with
   |none=>rw[hf]at e;cases e
   |some u =>
    obtain⟨m0,g0,_⟩:=Ph (QD V k j) hf
    cases hf':Xl (Xn V k j) w' with
    |none=>exact absurd (show w'<=u by lia) (zdR hf' u m0)
    |some u'=>exact⟨_,rfl⟩
 refine⟨fun a=>?_,fun a x v e=>?_,fun a=>?_,fun a x v e=>?_,fun x h0 h1=>?_⟩
 ·split
  ·exact R.isR
  ·exact H.isR a
 ·split at e
  ·exact dom x v e
  ·exact H.dom a x v e
 ·split
  ·refine Wz.of R.isR (fun x v e=>(dom x v e).1) fun x v e=>?_
   have h0:=dom x v e
   rcases R.is x v e with h|⟨w,h,h',_⟩
   ·obtain⟨u,hu,_⟩:=(H.dwn j).at (H.isR j) h (qr _) h0.1
    obtain⟨v',hv',_⟩:=R.old _ u hu
    exact⟨v',hv'⟩
   ·obtain⟨u,hu,le⟩:=(H.dwn k).at (H.isR k) h (qr _) h0.1
    obtain⟨v1,hv1⟩:=stp w v h' u (by have:=H.ge hd hu;lia) le
    obtain⟨v',hv',_⟩:=R.new _ u v1 hu hv1
    exact⟨v',hv'⟩
  ·exact H.dwn a
 ·split at e
  ·rename_i ea
   subst ea
   rcases R.is x v e with h|⟨w,h,h',low⟩
   ·exact H.snd a x v h
   ·have lw:=H.snd k x w h
    have hw:V.h0<=w:=by have:=(H.dom k x w h).1;have:=H.ge hd h;lia
    rw[sp.led,if_pos hw]at h'
    by_cases ek:k=a
    ·subst ek
     rw[if_pos rfl]at h'
     by_cases g:w<=V.h1
     ·rw[if_pos g]at h'
      have ev:w+V.dl=v:=qw h'
      have:=low w h
      have e2:v=w:=by lia
      rw[e2];exact lw
     ·rw[if_neg g]at h';cases h'
    ·rw[if_neg ek]at h'
     cases hf:Xl (Xn V k a) w with
     |none=>rw[hf]at h';cases h'
     |some u =>
      rw[hf]at h'
      have ev:u+V.dl=v:=qw h'
      obtain⟨m0,g0,_⟩:=Ph (QD V k a) hf
      rw[<- ev];exact .step lw g0 m0
  ·exact H.snd a x v e
 ·split
  ·rename_i es
   subst es
   obtain⟨v',hv',le⟩:=R.old x x (H.st x h0 h1)
   have:x<=v':=by
    rcases R.is x v' hv' with h|⟨w,h,h',_⟩
    ·exact H.ge hd h
    ·have g1:=H.ge hd h
     rw[sp.led,if_pos (by lia)]at h'
     by_cases ek:k=s
     ·rw[if_pos ek]at h'
      by_cases g:w<=V.h1
      ·rw[if_pos g]at h';have:=qw h';lia
      ·rw[if_neg g]at h';cases h'
     ·rw[if_neg ek]at h'
      cases hf:Xl (Xn V k s) w with
      |none=>rw[hf]at h';cases h'
      |some u =>
       rw[hf]at h'
       have ev:u+V.dl=v':=qw h'
       have:=(Ph (QD V k s) hf).2.1
       lia
   rw[hv',show v'=x by lia]
  ·exact H.st x h0 h1
def zqD (V:Vl)(f:Nat->List Pc)(k:Nat):Prop:=∀ j x w u,j<V.bs.length->k≠j->at' (f k) x=some w->Xl (Xn V k j) w=some u->∃ v',at' (f j) x=some v'/\v'<=u+V.dl
def Xo.low {V:Vl}{s:Nat}{f:Nat->List Pc}(H:Xo V s f)(cl:∀ k,k<V.bs.length->zqD V f k){x:Int}(h0:V.h0<=x)(h1:x<=V.h1){j:Nat}{v:Int}(l:Lt (YD V) V.dl s x j v):∃ v',at' (f j) x=some v'/\v'<=v:=by
 induction l with
 |base=>exact⟨x,H.st x h0 h1,qr _⟩
 |step l hle hs ih =>
  rename_i k j h u
  obtain⟨w,hw,le⟩:=ih
  have hlt:=zhm hs
  have hkj:k≠j:=fun e=>by
   subst e
   unfold YD at hs
   rw[zjd]at hs;cases hs
  cases hf:Xl (Xn V k j) w with
  |none=>exact absurd (show w<=u by lia) (zdR hf u hs)
  |some u' =>
   obtain⟨_,_,least⟩:=Ph (QD V k j) hf
   obtain⟨v',hv',le'⟩:=cl k hlt.1 j x w u' hlt.2 hkj hw hf
   exact⟨v',hv',by have:=least u hs (by lia);lia⟩
def Xo.ear {V:Vl}{s:Nat}{f:Nat->List Pc}(H:Xo V s f)(cl:∀ k,k<V.bs.length->zqD V f k){x:Int}(h0:V.h0<=x)(h1:x<=V.h1):Ri (YD V) V.dl s x (fun j=>at' (f j) x):=⟨fun j h e=>H.snd j x h e,fun j h l=>H.low cl h0 h1 l⟩
def zsQ {V:Vl}{s:Nat}{x:Int}(hd:0<=V.dl)(h1:x<=V.h1){j:Nat}{v:Int}(l:Lt (YD V) V.dl s x j v):v<=V.h1+V.dl:=by
 cases l with
 |base=>lia
 |step l hle hs =>
  have:=(zgy.mp hs).2.1
  lia
def zmJ {l:List Nat}{a b:Nat->Nat}(h:∀ i∈l,a i<=b i):(l.map a).sum<=(l.map b).sum:=by
 induction l with
 |nil=>simp
 |cons k r ih =>
  have h1:=h k (qg.mpr (.inl rfl))
  have h2:=ih fun i hi=>h i (qg.mpr (.inr hi))
  rw[qE,qE,List.sum_cons,List.sum_cons];lia
def zmO {l:List Nat}{a b:Nat->Nat}(h:∀ i∈l,a i<=b i){k:Nat}(hk:k∈l)(hlt:a k<b k):(l.map a).sum<(l.map b).sum:=by
 induction l with
 |nil=>cases hk
 |cons q r ih =>
  have h1:=h q (qg.mpr (.inl rfl))
  have h2:=zmJ fun i hi=>h i (qg.mpr (.inr hi))
  rw[qE,qE,List.sum_cons,List.sum_cons]
  rcases qg.mp hk with rfl|hk
  ·lia
  ·have:=ih (fun i hi=>h i (qg.mpr (.inr hi))) hk;lia
def wtH (V:Vl)(ps:List Pc)(i:Nat):Nat:=match at' ps (V.h0+(i:Int))with
 |some v=>(v-V.h0).toNat
 |none=>(V.h1-V.h0+V.dl).toNat+1
def Rz (V:Vl)(f:Nat->List Pc):Nat:=((List.range V.bs.length).map fun j=>((List.range (V.h1-V.h0+1).toNat).map (wtH V (f j))).sum).sum
def zsE {V:Vl}{ps qs:List Pc}{i:Nat}(bd:∀ x v,at' qs x=some v->v<=V.h1+V.dl)(h:∀ x v,at' ps x=some v->∃ v',at' qs x=some v'/\v'<=v):wtH V qs i<=wtH V ps i:=by
 unfold wtH
 cases e:at' ps (V.h0+(i:Int))with
 |some v =>
  obtain⟨v',e',le⟩:=h _ v e
  rw[e'];dsimp only;lia
 |none =>
  cases e':at' qs (V.h0+(i:Int))with
  |none=>exact qf _
  |some v'=>have:=bd _ v' e';dsimp only;lia
def Uc.less {V:Vl}{s:Nat}{f:Nat->List Pc}{k j:Nat}{ps r:List Pc}(hd:0<=V.dl)(H:Xo V s f)(H':Xo V s (fun a=>if a=j then r else f a))(hj:j<V.bs.length)(R:Uc f k j ps r)(ne:r≠f j):Rz V (fun a=>if a=j then r else f a)<Rz V f:=by
 have at_r:∀ x v,at' r x=some v->V.h0<=x/\x<=V.h1/\x<=v/\v<=V.h1+V.dl:=fun x v e=>by
  have e1:at' ((fun a=>if a=j then r else f a) j) x=some v:=by dsimp only;rw[if_pos rfl];exact e
  have d:=H'.dom j x v e1
  exact⟨d.1,d.2,H'.ge hd e1,zsQ hd d.2 (H'.snd j x v e1)⟩
 have bd:∀ x v,at' r x=some v->v<=V.h1+V.dl:=fun x v e=>(at_r x v e).2.2.2
 obtain⟨x,hx⟩:∃ x,at' r x≠at' (f j) x:=Classical.byContradiction fun no=>ne (zeO R.isR (H.isR j) fun h=>Classical.byContradiction fun c=>no ⟨h,c⟩)
 obtain⟨v,hv,hlt⟩:∃ v,at' r x=some v/\∀ v',at' (f j) x=some v'->v<v':=by
  cases e:at' (f j) x with
  |some v' =>
   obtain⟨v,hv,le⟩:=R.old x v' e
   refine⟨v,hv,fun v2 e2=>?_⟩
   cases e2
   rcases Int.lt_or_eq_of_le le with g|g
   ·exact g
   ·rw[hv,e,g]at hx;exact absurd rfl hx
  |none =>
   cases e2:at' r x with
   |none=>rw[e,e2]at hx;exact absurd rfl hx
   |some v=>exact⟨v,rfl,fun v' z=>by cases z⟩
 obtain⟨g0,g1,g2,g3⟩:=at_r x v hv
 unfold Rz
 refine zmO (fun a _=>zmJ fun i _=>?_) (List.mem_range.mpr hj) (zmO (fun i _=>?_) (k:=(x-V.h0).toNat) (List.mem_range.mpr (by lia)) ?_)
 ·dsimp only
  split
  ·rename_i ea
   subst ea
   exact zsE bd R.old
  ·exact qf _
 ·dsimp only;rw[if_pos rfl];exact zsE bd R.old
 ·dsimp only;rw[if_pos rfl]
  unfold wtH
  rw[show V.h0+((x-V.h0).toNat:Int)=x by lia,hv]
  cases e:at' (f j) x with
  |some v'=>have:=hlt v' e;dsimp only;lia
  |none=>dsimp only;lia
end Dp
namespace My
open PySem PySem.Spec PyProof.Rows L2
section
variable {prog:Program}{w:World}{A:Around}{E:Value->Shared->Prop}{s:Shared}
def zzb {R:Result->Shared->Prop}{r:Addr}{a b c:Int}{t u v:Tok}{n:Nat}(hh:A.in1.handled=none)(hr:IsRange s.heap r a b c t u v)(hbig:Builtin.Range.small a b c=false)(hn:Builtin.Range.rangeSize a b c=n)(hlen:n<=2 ^ 24)(S:Addr)(res:Value)(c₀:Nat)
  (hS:s.heap.get? S=some { cls:=.type "list",data:=.seq #[] c₀ })
  (hR:∀ h' tk acc' c',(∀ b o,b≠S->s.heap.get? b=some o->h'.get? b=some o)->h'.get? S=some { cls:=.type "list",dict:=none,data:=.seq acc' c',slots:=#[] }->ItemsOf (fun i v=>∃ t,v=.int (a+i*c) t) acc' n->R (.ok (.ret res)) { s with heap:=h',toks:=tk }) :
  wpAny (model prog w) A.in1 (Builtin.List.listExtendWith (.ref S) (.ref r) res)
   (fun fin s'=>match fin with|.done f=>R (.ok f) s'|.again c'=>c'.quiet=true/\codeAny (model prog w) A c' R s') (fun e s'=>R (.error e) s') s:=by
 have q1:S≠r:=fun z=>by rw[z,hr]at hS;simp at hS
 have q2:S<s.heap.objs.size:=qq hS
 have q3:S≠s.heap.objs.size:=qK q2
 have q4:S∉[s.heap.objs.size]:=fun z=>q3 (qa4.mp z)
 have W:=(Walks.longrange (prog:=prog) (w:=w) (A:=A.in1) hh s.heap.objs.size a c n).toS
 have go:∀ (h:Heap) (c₁ tk:Nat),IsLongIter h s.heap.objs.size (a+((0:Nat):Int)*c) ((n:Int)-((0:Nat):Int)) c->(∀ b o,b≠S->s.heap.get? b=some o->h.get? b=some o) ->
   h.get? S=some { cls:=.type "list",data:=.seq #[] c₁ }->codeAny (model prog w) A (.builtin "list.extend.loop" ⟨[.ref S,.ref s.heap.objs.size,res],[]⟩) R { s with heap:=h,toks:=tk }:=fun h c₁ tk g1 g2 g3=>by
  refine codeAny_extend_loopS W (by rw[sizeLine_eq];lia) S q4 res n 0 _ #[] c₁ rfl (qP _) g1 g3 (ItemsOf.nil _) fun s' acc' c' m1 m2 m3=>?_
  rw[Moved.eq_with m1]
  refine hR s'.heap s'.toks acc' c' (fun x o z1 z2=>m1.heap x o (fun z=>?_) (g2 x o z1 z2)) m2 m3
  rcases qg.mp z with z3|z3
  ·exact z1 z3
  ·exact absurd (qq z2) (by rw[qa4.mp z3];exact Wx _)
 unfold Builtin.List.listExtendWith
 refine wpAny_bind (wpAny_typeOf (T:="range") ⟨_,hr,rfl⟩ ?_)
 have e1:Builtin.List.listSameRef (.ref S) (.ref r)=false:=by simp[Builtin.List.listSameRef,q1]
 simp only[e1,show(Value.type "range"==Value.type "list")=false by decide,show(Value.type "range"==Value.type "tuple")=false by decide,qbr,qaY,if_false]
 refine wpAny_bind (wpAny_pyIter_longrange hr hbig ?_)
 refine wpAny_bind (wpAny_holding (wpAny_hint_range (n:=n) (qd _ hr) hn hlen ?_))
 have i1:IsLongIter (s.heap.push { cls:=.type "longrange_iterator",data:=.fields #[rawInt a,rawInt (Builtin.Range.rangeSize a b c),rawInt c] }) s.heap.objs.size (a+((0:Nat):Int)*c) ((n:Int)-((0:Nat):Int)) c:=by
  show IsLongIter _ _ _ _ _;rw[hn];simpa using Heap.get?_push_size _ rfl
 have i2:=qd { cls:=.type "longrange_iterator",data:=.fields #[rawInt a,rawInt (Builtin.Range.rangeSize a b c),rawInt c] } hS
 refine wpAny_ite_split (fun _=>?_) (fun _=>wpAny_pure ⟨plainId_quiet F.plain_extend_loop _,go _ c₀ _ i1 (fun _ _ _ z=>qd _ z) i2⟩)
 refine wpAny_bind (wpAny_rule ?_)
 refine wpAny_bind ?_
 show wpAny _ A.in1 (updateSeq S (·.push .none) >>= fun _=>updateSeq S (·.pop)) _ _ _
 refine wpAny_bind (wpAny_updateSeq i2 rfl ?_)
 have i3:=qaR (Obj.mapSeq (·.push Value.none)) i2 rfl
 refine wpAny_updateSeq (hz:=by seq_fits) i3 rfl ?_
 have i4:=qaR (Obj.mapSeq (·.pop)) i3 rfl
 refine wpAny_pure ⟨plainId_quiet F.plain_extend_loop _,go _ _ _ ?_ (fun x o z1 z2=>?_) i4⟩
 ·exact(QW _ _ q3).trans ((QW _ _ q3).trans i1)
 ·exact(QW _ _ (Ne.symm z1)).trans ((QW _ _ (Ne.symm z1)).trans (qd _ z2))
def zn6 {Q:Value->Shared->Prop}{r:Addr}{a b c:Int}{t u v:Tok}{n:Nat}(hh:A.in1.in1.handled=none)(hr:IsRange s.heap r a b c t u v)(hbig:Builtin.Range.small a b c=false)(hn:Builtin.Range.rangeSize a b c=n)(hlen:n<=2 ^ 24)
  (hQ:∀ h' tk acc' c',(∀ b o,s.heap.get? b=some o->h'.get? b=some o)->h'.get? s.heap.objs.size=some { cls:=.type "list",dict:=none,data:=.seq acc' c',slots:=#[] }->ItemsOf (fun i v=>∃ t,v=.int (a+i*c) t) acc' n->Q (.ref s.heap.objs.size) { s with heap:=h',toks:=tk }) :
  wpAny (model prog w) A (call (.type "list") [.ref r]) Q E s:=by
 refine callType_codes (Q₁:=fun x y=>x=.ref s.heap.objs.size/\y={ s with heap:=s.heap.push { cls:=.type "list",data:=.seq #[] } }) F.called_list (F.typeCall_list_1 _) F.entry_list_init (code_list_new _ ⟨rfl,rfl⟩) fun x y z=>?_
 obtain⟨rfl,rfl⟩:=z
 generalize hSz:s.heap.objs.size=S at *
 have hS:(s.heap.push { cls:=.type "list",data:=.seq #[] }).get? S=some { cls:=.type "list",data:=.seq #[] }:=by rw[<- hSz];exact Heap.get?_push_size _ rfl
 refine⟨⟨_,hS,rfl⟩,F.args_list_init_2 _ _,?_⟩
 have hr':=qd { cls:=.type "list",data:=.seq #[] } hr
 have old:∀ b o,s.heap.get? b=some o->b≠S:=fun b o e=>by rw[<- hSz];exact qK (qq e)
 have up:∀ b o,s.heap.get? b=some o->(s.heap.push { cls:=.type "list",data:=.seq #[] }).get? b=some o:=fun b o e=>qd _ e
 generalize s.heap.push { cls:=.type "list",data:=.seq #[] }=hp at hS hr' up
 have nSr:S≠r:=fun z=>by rw[z,hr']at hS;simp at hS
 show wpAny _ A.in1.in1 (do let old <- Builtin.List.listItems (.ref S);Builtin.List.listUpdate (.ref S) (fun _=>#[]);letGo old.toList.reverse;Builtin.List.listExtendWith (.ref S) (.ref r) .none) _ _ _
 refine wpAny_bind ?_
 unfold Builtin.List.listItems
 refine wpAny_bind (wpAny_seqItems hS rfl (wpAny_pure ?_))
 show wpAny _ A.in1.in1 (updateSeq S (fun _=>#[]) >>= fun _=>letGo (#[]:Array Value).toList.reverse >>= fun _=>Builtin.List.listExtendWith (.ref S) (.ref r) .none) _ _ _
 refine wpAny_bind (wpAny_updateSeq hS rfl ?_)
 have j1:=qaR (Obj.mapSeq (fun _=>(#[]:Array Value))) hS rfl
 have j2:∀ b o,b≠S->hp.get? b=some o->(hp.update S (Obj.mapSeq (fun _=>(#[]:Array Value)))).get? b=some o:=fun b o hb e=>(QW _ _ (Ne.symm hb)).trans e
 refine wpAny_bind (wpAny_letGo ?_)
 refine zzb (A:=A.in1) hh (j2 r _ (Ne.symm nSr) hr') hbig hn hlen S .none _ j1 fun h' tk acc' c' k1 k2 k3=>?_
 exact⟨rfl,hQ h' tk acc' c' (fun b o e=>k1 b o (old b o e) (j2 b o (old b o e) (up b o e))) k2 k3⟩
end
def zyM (ta:TA):TE:=fun Z H Q=>ta Z H fun vs H1=>∃ i j:Int,vs=[.int i,.int j]/\j-i<=900/\∀ l,H1 l=none->Q (.ref l) (upd H1 l (.lst (((List.range (j-i).toNat).map fun k:Nat=>i+(k:Int)).map V.int)))
def zxx {P:Nat->Int}:∀ {n:Nat} {us:List Value},us.length=n->(∀ k v,us[k]?=some v->∃ t,v=Value.int (P k) t)->Vals (((List.range n).map P).map V.int) us:=fun {n us}=>by
 induction n generalizing us P with
 |zero=>intro h _;cases us with|nil=>exact .nil|cons _ _=>cases h
 |succ n ih =>
  intro h g
  cases us with
  |nil=>cases h
  |cons u us =>
   have e0:List.map P (List.map Nat.succ (List.range n))=List.map (P ∘ Nat.succ) (List.range n):=by rw[qT]
   rw[List.range_succ_eq_map,qE,qE,e0]
   obtain⟨t,e⟩:=g 0 u rfl
   exact .cons ⟨t,e⟩ (ih (P:=P ∘ Nat.succ) (by simpa using h) fun k v hk=>g (k+1) v (by simpa using hk))
def znE {X:Cx}{a b:Expr}{ta:TA}{p1 p2 pos1 pos2:Pos}(hc:X.calm=true)(hgl:Gl X "list")(hml:X.mg "list"=none)(hgr:Gl X "range")(hmr:X.mg "range"=none)(ha:PA X [a,b] ta)
    (hs:starEach [a,b] X.env=[(false,eval a X.env),(false,eval b X.env)]) (hs2:starEach [b] X.env=[(false,eval b X.env)]) :
    PE X (.Call (.Name "list" p1) [.Call (.Name "range" p2) [a,b] [] pos2] [] pos1) (zyM ta):=by
  have hs3:starEach [.Call (.Name "range" p2) [a,b] [] pos2] X.env=[(false,eval (.Call (.Name "range" p2) [a,b] [] pos2) X.env)]:=by rfl
  intro Z9 s Z H Q I h
  refine Call_ (UW I hgl hml boot_list (PyProof.Rows.callWith_type1 ?_ (by rw[hs3];rfl) (by rfl)))
  rw[hs3]
  show wpAny _ X.A (spliced ((false,eval (.Call (.Name "range" p2) [a,b] [] pos2) X.env)::backTo pos1 [])) _ _ s
  refine Calls.spliced_cons (Call_ (UW I hgr hmr boot_range (PyProof.Rows.callWith_type1 (Z0 (ha pos2 Z9 s Z H _ I h) fun us s1 ⟨vs,H1,I1,r1,q1⟩=>?_) (by rw[hs,hs2]) (by rw[hs2];rfl))))
  obtain⟨i,j,e,hlen,q⟩:=q1
  subst e
  cases r1 with|cons r rr=>cases rr with|cons r' rr =>
  cases rr
  obtain⟨t,rfl⟩:=r
  obtain⟨t',rfl⟩:=r'
  refine call_range_2 (Calls.spliced_nil ?_)
  have I2:Inv X Z9 Z H1 { s1 with heap:=s1.heap.push { cls:=.type "range",data:=.fields #[.int i t,.int j t',.int 1 s1.toks] },toks:=s1.toks+1 }:=I1.kept fun b o e=>qd _ e
  have fin : ∀ h' tk acc' c', (∀ b o, (s1.heap.push { cls := .type "range", data := .fields #[.int i t, .int j t', .int 1 s1.toks] }).get? b = some o → h'.get? b = some o) →
      h'.get? (s1.heap.push { cls:=.type "range",data:=.fields #[.int i t,.int j t',.int 1 s1.toks] }).objs.size=some { cls:=.type "list",dict:=none,data:=.seq acc' c',slots:=#[] }->ItemsOf (fun k v=>∃ t,v=Value.int (i+k*1) t) acc' (j-i).toNat ->
      EP X Z9 Z Q (.ref (s1.heap.push { cls:=.type "range",data:=.fields #[.int i t,.int j t',.int 1 s1.toks] }).objs.size) { s1 with heap:=h',toks:=tk }:=fun h' tk acc' c' hk he hacc=>by
    have hv:Vals (((List.range (j-i).toNat).map fun k:Nat=>i+(k:Int)).map V.int) acc'.toList:=by
      refine zxx (P:=fun k:Nat=>i+(k:Int)) (by rw[qN];exact hacc.1) fun k v hv=>?_
      rw[Qy]at hv
      obtain⟨t,e⟩:=hacc.2 k v hv
      exact⟨t,by rw[e,WR]⟩
    exact⟨.ref _,_,I2.laid (t':=tk) (o:=.lst (((List.range (j-i).toNat).map fun k:Nat=>i+(k:Int)).map V.int)) hk (qf _) ⟨by rw[qb,qb,Tv];exact Pq (zpS (by lia)),acc'.toList,c',hv,by rw[Array.toArray_toList];exact he⟩,rfl,q _ I2.fresh⟩
  have hz:Builtin.Range.rangeSize i j 1=((j-i).toNat:Nat):=by rw[rangeSize_one];split<;>lia
  cases hsm:Builtin.Range.small i j 1 with
  |true=>exact call_list_range (n:=(j-i).toNat) (I2.ok.hd hc) (IsRange.new ..) hsm hz (by lia) fun h' tk acc' c' hk he hacc=>fin h' tk acc' c' hk he hacc
  |false=>exact zn6 (n:=(j-i).toNat) (I2.ok.hd hc) (IsRange.new ..) hsm hz (by lia) fun h' tk acc' c' hk he hacc=>fin h' tk acc' c' hk he hacc
theorem zlJ {α:Type}(xs:List α)(a:Nat):∀ m,a+m<=xs.length->((List.range m).map (a+·)).filterMap (xs[·]?)=(xs.drop a).take m
 |0,_=>by simp
 |m+1,h=>by
  rw[qbA,qA,List.filterMap_append,zlJ xs a m (by lia),List.take_succ,List.getElem?_drop]
  simp only[qE,qbl,qbd,List.filterMap_nil]
  rw[qc (by lia)];rfl
def zyQ (n:Nat)(lo hi:Option Int):Builtin.Str.strSliceIndices lo hi 1 n=(List.range (HT.sIx n n hi-HT.sIx n 0 lo)).map (HT.sIx n 0 lo+·):=by
 rw[<- sliceRange_one]
 unfold Builtin.Str.strSliceIndices
 have cl:∀ (o:Option Int) (d:Nat),(match o with|none=>(d:Int)|some i=>if(1:Int) > 0 then max 0 (min (if i<0 then i+(n:Int)else i) n)else max (-1) (min (if i<0 then i+(n:Int)else i) ((n:Int)-1)))=((HT.sIx n d o:Nat):Int):=fun o d=>by
  cases o with
  |none=>rfl
  |some i =>
   show(if(1:Int) > 0 then _ else _)=(((if i<0 then(i+n).toNat else min i.toNat n):Nat):Int)
   rw[if_pos (by decide)]
   by_cases h:i<0
   ·rw[if_pos h,if_pos h];lia
   ·rw[if_neg h,if_neg h];lia
 have h1:=cl lo 0
 have h2:=cl hi n
 simp only[show((1:Int) > 0)=True by simp,if_true]at h1 h2 ⊢
 rw[<- h1,<- h2]
 rfl
def zjn (n:Nat)(o:Option Int)(d:Nat)(hd:d<=n):HT.sIx n d o<=n:=by
  cases o with
  |none=>exact hd
  |some i =>
    show(if i<0 then(i+n).toNat else min i.toNat n)<=n
    split<;>lia
def zpE (x:Str)(lo hi:Option Int):Txt.slice x lo hi=⟨((x.cps.toList.drop (HT.sIx x.length 0 lo)).take (HT.sIx x.length x.length hi-HT.sIx x.length 0 lo)).toArray⟩:=by
 have hl:x.cps.toList.length=x.length:=qN
 have b1:=zjn x.length lo 0 (qP _)
 have b2:=zjn x.length hi x.length (qf _)
 unfold Txt.slice
 rw[zyQ]
 have fm:((List.range (HT.sIx x.length x.length hi-HT.sIx x.length 0 lo)).map (HT.sIx x.length 0 lo+·)).filterMap (x.cps[·]?)=(x.cps.toList.drop (HT.sIx x.length 0 lo)).take (HT.sIx x.length x.length hi-HT.sIx x.length 0 lo):=by
  rcases qL (HT.sIx x.length x.length hi) (HT.sIx x.length 0 lo)with g|g
  ·rw[show HT.sIx x.length x.length hi-HT.sIx x.length 0 lo=0 by lia];simp
  ·rw[<- zlJ x.cps.toList _ _ (by rw[hl];lia)]
   congr 1
   funext i
   rw[Qy]
 split
 ·rename_i h
  rw[qG]at h
  have h2:=eq_of_beq h.2
  rw[qb,Tv]at h2
  have z1:HT.sIx x.length 0 lo=0:=by lia
  rw[h2,z1,List.drop_zero,qbz (by lia)]
 ·rw[fm]
def zzf:V->Option Int->Option Int->Hp->VK->Prop:=fun x lo hi H Q=>∃ z:Str,x=.str z/\z.length<=sizeLine/\Q (.str ⟨((z.cps.toList.drop (HT.sIx z.length 0 lo)).take (HT.sIx z.length z.length hi-HT.sIx z.length 0 lo)).toArray⟩) H
def zvn {X:Cx}:SJ X zzf:=by
 intro Z9 s Z H x v vl vu lo hi sl Q I rx hs pl pu h
 obtain⟨z,rfl,hz,q⟩:=h
 obtain⟨t,rfl⟩:=rx
 refine⟨"str",_,F.slot_str_getitem.lookup,typeIs_str _ _ _,?_⟩
 have go:∀ (l u:Option (Int×Tok)),l.map (·.1)=lo->u.map (·.1)=hi->s.heap.IsSlice sl l u none->wpAny (model X.prog X.w) X.A (getItem (.str z t) (.ref sl)) (EP X Z9 Z Q) X.xe s:=fun l u el eu is=>by
  refine wpAny_getItem_str_slice is rfl ?_
  unfold sliceMade slicePicked
  rw[el,eu]
  refine post_val_or_str ⟨qY (Txt.slice_le z lo hi) hz,fun t' k=>?_⟩
  show EP X Z9 Z Q (.str (Txt.slice z lo hi) t') _
  rw[zpE]
  exact⟨.str _,H,I.tok _,⟨t',rfl⟩,q⟩
 obtain⟨o,ho,hc,hd⟩:=hs
 cases pl with
 |none =>
  cases pu with
  |none=>exact go none none rfl rfl ⟨o,ho,hc,hd⟩
  |int j tj=>exact go none (some (j,tj)) rfl rfl ⟨o,ho,hc,hd⟩
 |int i ti =>
  cases pu with
  |none=>exact go (some (i,ti)) none rfl rfl ⟨o,ho,hc,hd⟩
  |int j tj=>exact go (some (i,ti)) (some (j,tj)) rfl rfl ⟨o,ho,hc,hd⟩
section
open AutoSeq1 (wpAny_loadPart')
variable {prog:Program}{w:World}{A:Around}{E:Value->Shared->Prop}{s:Shared}
def zjm {it t:Addr}{i:Nat}{items:Array Value}{x:Value}{Q:Value->Shared->Prop}(hit:s.heap.IsTupleIter it t i)(ht:s.heap.IsTuple t items)(hx:items[i]?=some x)
  (hQ:∀ h',h'.IsTupleIter it t (i+1)->Heap.SameBut it s.heap h'->Q x { s with heap:=h' }):wpAny (model prog w) A (Builtin.SmallTypes.nextOf (.ref it)) Q E s:=by
 obtain⟨o,ho,hc,hd⟩:=id hit
 obtain⟨ol,hol,_,nl,hdl⟩:=ht
 unfold Builtin.SmallTypes.nextOf
 refine wpAny_bind (wpAny_callSpecial?_slot (name:=Str.ofString "__next__") hit.typeIs F.slot_tuple_iterator_next (wpAny_call_entry F.slot_tuple_iterator_next hit.typeIs F.entry_tuple_iterator_next ?_ (F.args_tuple_iterator_next_1 _)))
 show wpAny _ _ (field (.ref it) 0 >>= _) _ _ s
 refine wpAny_bind (wpAny_field ho hd (x:=.ref t) rfl ?_)
 show wpAny _ _ (if(Value.ref t==Value.none)=true then _ else _) _ _ s
 rw[if_neg (show ¬ ((Value.ref t==Value.none)=true)from qp)]
 show wpAny _ _ (field (.ref it) 1 >>= _) _ _ s
 refine wpAny_bind (wpAny_field ho hd (x:=.int i 0) rfl ?_)
 show wpAny _ _ (seqItems? (.ref t) >>= _) _ _ s
 refine wpAny_bind (wpAny_seqItems hol hdl ?_)
 simp only[Int.toNat_natCast,hx]
 refine wpAny_bind (wpAny_setField ho hd (by simp) (wpAny_pure ⟨x,rfl,wpAny_pure (hQ _ ?_ (Heap.SameBut.update ..))⟩))
 exact⟨_,qaR _ ho (Obj.isFreed_of_fields (Obj.data_mapFields hd _)),(Obj.cls_mapFields ..).trans hc,by rw[Obj.data_mapFields hd];simp[rawInt]⟩
def zgW {it t:Addr}{i:Nat}{items:Array Value}{Q:Value->Shared->Prop}(hh:A.handled=none)(hit:s.heap.IsTupleIter it t i)(ht:s.heap.IsTuple t items)(hx:items[i]?=none)
  (hE:∀ h' e,Heap.ExtBut it s.heap h'->(∃ o,h'.get? e=some o/\o.cls=.type "StopIteration")->E (.ref e) { s with heap:=h' }):wpAny (model prog w) A (Builtin.SmallTypes.nextOf (.ref it)) Q E s:=by
 obtain⟨o,ho,hc,hd⟩:=id hit
 obtain⟨ol,hol,_,nl,hdl⟩:=ht
 unfold Builtin.SmallTypes.nextOf
 refine wpAny_bind (wpAny_callSpecial?_slot (name:=Str.ofString "__next__") hit.typeIs F.slot_tuple_iterator_next (wpAny_call_entry F.slot_tuple_iterator_next hit.typeIs F.entry_tuple_iterator_next ?_ (F.args_tuple_iterator_next_1 _)))
 show wpAny _ _ (field (.ref it) 0 >>= _) _ _ s
 refine wpAny_bind (wpAny_field ho hd (x:=.ref t) rfl ?_)
 show wpAny _ _ (if(Value.ref t==Value.none)=true then _ else _) _ _ s
 rw[if_neg (show ¬ ((Value.ref t==Value.none)=true)from qp)]
 show wpAny _ _ (field (.ref it) 1 >>= _) _ _ s
 refine wpAny_bind (wpAny_field ho hd (x:=.int i 0) rfl ?_)
 show wpAny _ _ (seqItems? (.ref t) >>= _) _ _ s
 refine wpAny_bind (wpAny_seqItems hol hdl ?_)
 simp only[Int.toNat_natCast,hx]
 refine wpAny_bind (wpAny_rule (wpAny_bind (wpAny_setField ho hd (by simp) ?_)))
 show wpAny _ _ (newExc (.type "StopIteration") [] >>= _) _ _ _
 refine wpAny_bind ?_
 simp only[newExc,newTuple]
 refine wpAny_bind (wpAny_newObj_type ?_ (by size_fits))
 refine wpAny_bind (m:=firstArgMember _ _) (wpAny_of_eq (a:=Value.none) (by first|rfl|(simp only[firstArgMember];rfl)) ?_)
 refine wpAny_newObj_type ?_ (by size_fits)
 simp only[raiseNew]
 refine wpAny_bind (wpAny_handled ?_)
 first|rw[show A.in1.handled=none from hh]|rw[hh]
 refine wpAny_bind (wpAny_pure (wpAny_throw ?_))
 exact hE _ _ (((Heap.SameBut.update ..).extBut.push _).push _) ⟨_,Heap.get?_push_size _ rfl,rfl⟩
def zvY (hh:A.handled=none)(it t:Addr)(hne:t≠it)(items:Array Value) :
  Draws prog w A it [it,t] items.size (fun i v=>items[i]?=some v) (fun i h=>h.IsTupleIter it t i/\h.IsTuple t items) where
 live:=fun _ _ st=>let ⟨o,ho,_⟩:=st.1;⟨o,ho⟩
 frame:=fun _ _ _ st hk=>⟨let ⟨o,ho,r⟩:=st.1;⟨o,hk it (by simp) o ho,r⟩,let ⟨o,ho,r⟩:=st.2;⟨o,hk t (by simp) o ho,r⟩⟩
 item:=fun i s Q E hi st hQ=>zjm st.1 st.2 (x:=items[i]) (by simp[hi]) fun h' hit' hs'=>hQ _ h' s.toks (by simp[hi]) ⟨hit',st.2.extBut hs'.extBut hne⟩ hs'
 done:=fun s Q E st hE=>zgW hh st.1 st.2 (by simp) hE
def zvo (hh:A.handled=none)(it t:Addr)(items:Array Value)(i:Nat)(hx:items[i]?=none) :
  Draws prog w A it [it,t] 0 (fun _ _=>True) (fun _ h=>h.IsTupleIter it t i/\h.IsTuple t items) where
 live:=fun _ _ st=>let ⟨o,ho,_⟩:=st.1;⟨o,ho⟩
 frame:=fun _ _ _ st hk=>⟨let ⟨o,ho,r⟩:=st.1;⟨o,hk it (by simp) o ho,r⟩,let ⟨o,ho,r⟩:=st.2;⟨o,hk t (by simp) o ho,r⟩⟩
 item:=fun i s Q E hi=>absurd hi (qbj _)
 done:=fun s Q E st hE=>zgW hh st.1 st.2 hx hE
def newT (l:Addr)(items:Array Value)(n:Nat)(dct:Option Addr)(sl:Array (Option Value)) :
    Meets (Builtin.«enumerate.__new__» ⟨[.type "enumerate",.ref l],[]⟩) (fun _ R s=>s.heap.get? l=some { cls:=.type "tuple",dict:=dct,data:=.seq items n,slots:=sl } /\
      R (.ok (.ret (.ref (s.heap.push { cls:=.type "tuple_iterator",data:=.fields #[.ref l,.int 0 0] }).objs.size)))
        { s with heap:=(s.heap.push { cls:=.type "tuple_iterator",data:=.fields #[.ref l,.int 0 0] }).push { cls:=.type "enumerate",data:=.fields #[.none,.bool false,.ref s.heap.objs.size,rawInt 0,.none,.none] } }) :=
  .of_wp fun prog w A R s h=>by
    obtain⟨hp,g,d,tk,os⟩:=s
    obtain⟨hl,h⟩:=h
    have hsub:=sub_enumerate
    have hL:Heap.IsTuple (Shared.heap ⟨hp,g,d,tk,os⟩) l items:=⟨_,hl,rfl,n,rfl⟩
    wp_walk using wpAny_loadPart' hl
    refine wpAny_stack_any fun st=>wpAny_pure ?_
    split
    . rename_i c _ _ _ _ _
      cases(c==Value.type "enumerate")
      . wp_walk using wpAny_loadPart' hl,wpAny_pyIter_tuple hL
        exact⟨_,rfl,h⟩
      . wp_walk using wpAny_loadPart' hl,wpAny_pyIter_tuple hL
        exact⟨_,rfl,h⟩
    . wp_walk using wpAny_loadPart' hl,wpAny_pyIter_tuple hL
      exact⟨_,rfl,h⟩
def zxn {l:Addr}{items:Array Value}{Q:Value->Shared->Prop}(hL:s.heap.IsTuple l items)
    (h:∀ h',IsEnum h' (s.heap.objs.size+1) s.heap.objs.size 0 .none->h'.IsTupleIter s.heap.objs.size l 0->h'.objs.size=s.heap.objs.size+2 ->
      (∀ b o,s.heap.get? b=some o->h'.get? b=some o)->Q (.ref (s.heap.objs.size+1)) { s with heap:=h' }):wpAny (model prog w) A (call (.type "enumerate") [.ref l]) Q E s:=by
  obtain⟨⟨c,dct,dt,sl⟩,hl,hc,n,hd⟩:=hL
  replace hc:c=.type "tuple":=hc
  replace hd:dt=.seq items n:=hd
  subst hc hd
  refine callType_new F.called_enumerate (by decide) (F.typeCall_enumerate_1 _) (F.newCall_enumerate_1 _) (fun obj=>F.args_object_init_2 obj _) F.entry_enumerate_new (newT l items n dct sl) ⟨hl,?_⟩
  have hz:(s.heap.push { cls:=.type "tuple_iterator",data:=.fields #[.ref l,.int 0 0] }).objs.size=s.heap.objs.size+1:=qZ ..
  show _/\_
  rw[hz]
  have he : IsEnum ((s.heap.push { cls := .type "tuple_iterator", data := .fields #[.ref l, .int 0 0] }).push
      { cls:=.type "enumerate",data:=.fields #[.none,.bool false,.ref s.heap.objs.size,rawInt 0,.none,.none] }) (s.heap.objs.size+1) s.heap.objs.size 0 .none:=by
    have:=Heap.get?_push_size (s.heap.push { cls:=.type "tuple_iterator",data:=.fields #[.ref l,.int 0 0] })
      (o:={ cls:=.type "enumerate",data:=.fields #[.none,.bool false,.ref s.heap.objs.size,rawInt 0,.none,.none] }) rfl
    rw[hz]at this;exact this
  exact⟨⟨_,he,rfl⟩,h _ he ⟨_,qd _ (Heap.get?_push_size _ rfl),rfl,rfl⟩ (by rw[qZ,hz]) fun b o x=>qd _ (qd _ x)⟩
end
def zrz (K:PySem.W.Frag)(l:Addr):It :=
  ⟨fun i H=>∃ xs x,ZK K H l xs/\xs[i]?=some x,
   fun i H v H'=>∃ p,v=.ref p/\H p=none/\∀ xs x,ZK K H l xs->xs[i]?=some x->H'=upd H p (.tup [.int i,x]),
   fun i H=>∃ xs,ZK K H l xs/\xs.length<=i⟩
def zpH {h:Heap}{a b:Addr}{o u:Obj}(ha:h.get? a=some o)(hb:h.get? b=some u)(hc:o.cls≠u.cls):a≠b:=fun e=>by
 subst e
 rw[ha]at hb
 cases hb
 exact hc rfl
def znK {P:Program}{w:World}{K:PySem.W.Frag}{es:List Expr}{kk:Nat}{pos:Pos}{e it l:Addr}(hne:e≠it) :
  Turn P w K (.Tuple es kk pos) (zrz K l) [e,it] e (fun i h=>(∃ old,IsEnum h e it i old)/\h.IsTupleIter it l i) where
 mem:=by simp
 obj:=fun i h st b hb=>by
  obtain⟨⟨old,he⟩,⟨o1,h1,_,h1d⟩⟩:=st
  simp only[qg,qF,or_false]at hb
  rcases hb with rfl|rfl
  ·exact⟨_,he,fun v q=>by cases(show Data.fields _=Data.cell v from q)⟩
  ·exact⟨_,h1,fun v q=>by rw[h1d]at q;cases q⟩
 keep:=fun i h h' st k=>by
  obtain⟨⟨old,he⟩,⟨o,ho,r⟩⟩:=st
  exact⟨⟨old,k e (by simp) _ he⟩,⟨o,k it (by simp) o ho,r⟩⟩
 item:=by
  intro X hP hw hK hc i Z9 s Z H E I hf st hg
  subst hP hw hK
  obtain⟨⟨old,he⟩,h1⟩:=st
  obtain⟨xs,x,hx1,hx⟩:=hg
  obtain⟨its,rx,px,zx⟩:=I.tuple hx1
  obtain⟨u,hu,ru⟩:=Vals.get rx hx
  have pt:s.heap.IsTuple l its.toArray:=px
  obtain⟨oi,ei,ci,_⟩:=id h1
  obtain⟨ol,el,cl,_⟩:=id pt
  have n1:l≠it:=zpH el ei (by rw[cl,ci];decide)
  have n2:e≠l:=zpH he el (by rw[cl];show Value.type "enumerate"≠Value.type "tuple";decide)
  have hlt:i<its.toArray.size:=by
   have:=(qR.mp hu).1
   simpa using this
  refine wpAny_pyNext_enum_itemD (zvY (A:=X.A.in1) (show X.A.in1.handled=none from I.ok.hd hc) it l n1 its.toArray) he ⟨h1,pt⟩ hlt hne (by simp[hne,n2]) fun u' h' tk hP a1 a2 a3 a4 hk=>?_
  have eu:u'=u:=by
   have hP':its.toArray[i]?=some u':=hP
   rw[qaM,hu]at hP'
   cases hP';rfl
  subst eu
  refine⟨_,rfl,wpAny_letOwnedTupleGo_enum (s:={ s with heap:=h',toks:=tk+1 }) a1 fun h'' he'' hs''=>?_⟩
  have lt:∀ {c o},s.heap.get? c=some o->s.heap.objs.size≠c:=fun q=>Vr (qq q)
  have k2:∀ b u,b∉[e,it]->s.heap.get? b=some u->h''.get? b=some u:=fun b u hb q=>by
   simp only[qg,qF,or_false,not_or]at hb
   exact hs''.extBut b u hb.1 (hk b u hb.1 hb.2 q)
  have new:h''.get? s.heap.objs.size=some { cls:=.type "tuple",data:=.seq #[.int i tk,u'] }:=hs''.extBut _ _ (lt he) a3
  refine⟨.ref s.heap.objs.size,upd H s.heap.objs.size (.tup [.int i,x]),I.turnNew (t':=tk+1) hf k2 (qf _) ⟨by show 2<=sizeLine;decide,[.int i tk,u'],.cons ⟨_,rfl⟩ (.cons ru .nil),_,new,rfl,_,rfl⟩,rfl,⟨_,rfl,I.fresh,?_⟩,?_,fun b hb=>?_⟩
  ·intro xs' x' hx1' hx'
   cases I.tuple_inj hx1 hx1'
   rw[hx]at hx'
   cases hx'
   rfl
  ·exact⟨⟨_,he''⟩,a2.1.extBut hs''.extBut (Ne.symm hne)⟩
  ·have:∃ o,s.heap.get? b=some o:=by
    simp only[qg,qF,or_false]at hb
    rcases hb with rfl|rfl
    ·exact⟨_,he⟩
    ·exact⟨_,ei⟩
   obtain⟨o,q⟩:=this
   rw[zR (lt q).symm]
   exact(hf b hb).1
 done:=by
  intro X hP hw hK hc i Z9 s Z H E I hf st hg
  subst hP hw hK
  obtain⟨⟨old,he⟩,h1⟩:=st
  obtain⟨xs,hx1,hl⟩:=hg
  obtain⟨its,rx,px,zx⟩:=I.tuple hx1
  have n1:=rx.length
  have pt:s.heap.IsTuple l its.toArray:=px
  have hnone:its.toArray[i]?=none:=by rw[qaM];exact qv (by lia)
  refine wpAny_pyNext_enum_endD (zvo (A:=X.A.in1) (show X.A.in1.handled=none from I.ok.hd hc) it l its.toArray i hnone) he ⟨h1,pt⟩ fun h' hk=>⟨rfl,I.turnedL (t':=s.toks) hf fun b u hb q=>?_⟩
  simp only[qg,qF,or_false,not_or]at hb
  exact hk b u hb.2 q
 self:=fun _ _ _ _ _ st h=>by
  obtain⟨⟨old,he⟩,_⟩:=st
  exact wpAny_pyIter_enum he h
section
variable {X:Cx}
def zvX (K:PySem.W.Frag)(ta:TA):TI:=fun Z H R=>ta Z H fun vs H1=>∃ l,vs=[.ref l]/\(((∃ xs,Zr K H1 l xs)/\R (Ite K l) H1)\/((∃ xs,ZK K H1 l xs)/\R (zrz K l) H1))
def zrm {es:List Expr}{kk:Nat}{tpos:Pos}{a:Expr}{ta:TA}{p pos:Pos}(hg:Gl X "enumerate")(hm:X.mg "enumerate"=none)(ha:PA X [a] ta)(hs:starEach [a] X.env=[(false,eval a X.env)]:=by rfl) :
    PI X (.Tuple es kk tpos) (.Call (.Name "enumerate" p) [a] [] pos) (zvX X.K ta):=by
  intro Z9 s Z H R I h
  refine Call_ (UW I hg hm boot_enumerate (PyProof.Rows.callWith_type1 (Z0 (ha pos Z9 s Z H _ I h) fun us s1 ⟨vs,H1,I1,r1,q1⟩=>?_) hs rfl))
  obtain⟨l,e,q⟩:=q1
  subst e
  obtain⟨u,rfl,ru⟩:=vals1 r1
  cases ru
  rcases q with⟨⟨xs,hx⟩,q⟩|⟨⟨xs,hx⟩,q⟩
  . obtain⟨its,rx,px,zx⟩:=I1.list hx
    refine call_enumerate_list px.isList fun h' he hit hsz hk=>?_
    have I2:Inv X Z9 Z H1 { s1 with heap:=h' }:=I1.kept (t':=s1.toks) hk
    refine wpAny_pyIter_enum (s:={ s1 with heap:=h' }) he ?_
    refine⟨_,_,_,_,H1,rfl,I2,zpv (Vr (qbc _)),⟨⟨_,he⟩,hit⟩,fun b hb=>?_,q⟩
    have hb':s1.heap.objs.size<=b:=by
      simp only[qg,qF,or_false]at hb
      rcases hb with rfl|rfl<;>first|exact Pb _ _|exact qf _
    exact I1.fpOk hb' (I1.hok.fresh hb')
  . obtain⟨its,rx,px,zx⟩:=I1.tuple hx
    have pt:s1.heap.IsTuple l its.toArray:=px
    refine zxn pt fun h' he hit hsz hk=>?_
    have I2:Inv X Z9 Z H1 { s1 with heap:=h' }:=I1.kept (t':=s1.toks) hk
    refine wpAny_pyIter_enum (s:={ s1 with heap:=h' }) he ?_
    refine⟨_,_,_,_,H1,rfl,I2,znK (Vr (qbc _)),⟨⟨_,he⟩,hit⟩,fun b hb=>?_,q⟩
    have hb':s1.heap.objs.size<=b:=by
      simp only[qg,qF,or_false]at hb
      rcases hb with rfl|rfl<;>first|exact Pb _ _|exact qf _
    exact I1.fpOk hb' (I1.hok.fresh hb')
end
def Yw:Bool->Heap->Addr->Addr->Nat->Prop
 |true,h,it,l,k=>h.IsListIter it l k
 |false,h,it,l,k=>h.IsTupleIter it l k
def XQ:Bool->Heap->Addr->Array Value->Prop
 |true,h,l,xs=>h.IsList l xs
 |false,h,l,xs=>h.IsTuple l xs
def Yw.grow {b:Bool}{h h':Heap}{c it l:Addr}{k:Nat}(x:Yw b h it l k)(e:Heap.ExtBut c h h')(n:it≠c):Yw b h' it l k:=by
 cases b
 ·exact Heap.IsTupleIter.extBut (show h.IsTupleIter it l k from x) e n
 ·exact Heap.IsListIter.extBut (show h.IsListIter it l k from x) e n
def XQ.grow {b:Bool}{h h':Heap}{c l:Addr}{xs:Array Value}(x:XQ b h l xs)(e:Heap.ExtBut c h h')(n:l≠c):XQ b h' l xs:=by
 cases b
 ·exact Heap.IsTuple.extBut (show h.IsTuple l xs from x) e n
 ·exact Heap.IsList.extBut (show h.IsList l xs from x) e n
def Yw.obj {b:Bool}{h:Heap}{it l:Addr}{k:Nat}(x:Yw b h it l k):∃ o,h.get? it=some o/\(o.cls=.type "list_iterator"\/o.cls=.type "tuple_iterator")/\∃ vs,o.data=.fields vs:=by
 cases b
 ·obtain⟨o,ho,hc,hd⟩:h.IsTupleIter it l k:=x
  exact⟨o,ho,.inr hc,_,hd⟩
 ·obtain⟨o,ho,hc,hd⟩:h.IsListIter it l k:=x
  exact⟨o,ho,.inl hc,_,hd⟩
def Yw.at {b:Bool}{h h':Heap}{it l:Addr}{k:Nat}(x:Yw b h it l k)(e:∀ o,h.get? it=some o->h'.get? it=some o):Yw b h' it l k:=by
 cases b
 ·obtain⟨o,ho,hc,hd⟩:h.IsTupleIter it l k:=x
  exact(⟨o,e o ho,hc,hd⟩:h'.IsTupleIter it l k)
 ·obtain⟨o,ho,hc,hd⟩:h.IsListIter it l k:=x
  exact(⟨o,e o ho,hc,hd⟩:h'.IsListIter it l k)
def XQ.lt {b:Bool}{h:Heap}{l:Addr}{xs:Array Value}(x:XQ b h l xs):l<h.objs.size:=by
 cases b
 ·obtain⟨o,ho,_⟩:h.IsTuple l xs:=x
  exact qq ho
 ·obtain⟨o,ho,_⟩:h.IsList l xs:=x
  exact qq ho
section
variable {prog:Program}{w:World}{A:Around}{E:Value->Shared->Prop}{s:Shared}
def zf6 {b:Bool}{it t:Addr}{i:Nat}{items:Array Value}{x:Value}{Q:Value->Shared->Prop}(hit:Yw b s.heap it t i)(ht:XQ b s.heap t items)(hx:items[i]?=some x)
  (hQ:∀ h',Yw b h' it t (i+1)->Heap.SameBut it s.heap h'->Q x { s with heap:=h' }):wpAny (model prog w) A (Builtin.SmallTypes.nextOf (.ref it)) Q E s:=by
 cases b
 ·exact zjm hit ht hx hQ
 ·exact wpAny_nextOf_list_item hit ht hx hQ
def zkf {b:Bool}{it t:Addr}{i:Nat}{items:Array Value}{Q:Value->Shared->Prop}(hh:A.handled=none)(hit:Yw b s.heap it t i)(ht:XQ b s.heap t items)(hx:items[i]?=none)
  (hE:∀ h' e,Heap.ExtBut it s.heap h'->(∃ o,h'.get? e=some o/\o.cls=.type "StopIteration")->E (.ref e) { s with heap:=h' }):wpAny (model prog w) A (Builtin.SmallTypes.nextOf (.ref it)) Q E s:=by
 cases b
 ·exact zgW hh hit ht hx hE
 ·exact wpAny_nextOf_list_end hh hit ht hx hE
def znN {b1 b2:Bool}{z TI TO i1 i2 l1 l2:Addr}{k:Nat}{xs ys:Array Value}{x y a b:Value}{Q:Option Value->Shared->Prop}(D:ZipApart z TI TO i1 i2 l1 l2)
  (hz:IsZip s.heap z TI TO .none) (hTI:IsPair s.heap TI (.ref i1) (.ref i2)) (hTO:IsPair s.heap TO a b) (h1:Yw b1 s.heap i1 l1 k) (h2:Yw b2 s.heap i2 l2 k) (hl1:XQ b1 s.heap l1 xs) (hl2:XQ b2 s.heap l2 ys) (hx:xs[k]?=some x) (hy:ys[k]?=some y)
  (hQ:∀ h',IsZip h' z TI TO (rawInt s.heap.objs.size)->IsPair h' TO x y->Yw b1 h' i1 l1 (k+1)->Yw b2 h' i2 l2 (k+1)->IsPair h' s.heap.objs.size x y ->
   (∀ c o,c≠z->c≠TO->c≠i1->c≠i2->s.heap.get? c=some o->h'.get? c=some o)->Q (some (.ref s.heap.objs.size)) { s with heap:=h' }):wpAny (model prog w) A (pyNext (.ref z)) Q E s:=by
 have hT:s.TypeIs (.ref z) "zip":=⟨_,hz,rfl⟩
 unfold pyNext
 refine wpAny_bind (wpAny_attempt (wpAny_callSpecial?_slot (name:=Str.ofString "__next__") hT F.slot_zip_next (wpAny_call_entry F.slot_zip_next hT F.entry_zip_next ?_ (F.args_zip_next_1 _))))
 show wpAny _ _ (field (.ref z) 2 >>= _) _ _ _
 refine wpAny_bind (wpAny_field hz rfl (x:=.bool false) rfl ?_);show wpAny _ _ (field (.ref z) 3 >>= _) _ _ _
 refine wpAny_bind (wpAny_field hz rfl (x:=.ref TI) rfl (wpAny_bind (wpAny_seqItems hTI rfl ?_)));show wpAny _ _ (Builtin.SmallTypes.ownedTupleIsFree (.ref z) >>= _) _ _ _
 refine wpAny_bind ?_;unfold Builtin.SmallTypes.ownedTupleIsFree
 refine wpAny_bind (wpAny_field hz rfl (x:=.none) rfl (wpAny_pure ?_));simp only[if_true]
 refine wpAny_bind (wpAny_rule (wpAny_bind (wpAny_field hz rfl (x:=.ref TO) rfl (wpAny_bind (wpAny_setField_rec hz (by simp) fun g1 z1 e1=>?_)))))
 replace z1:IsZip g1 z TI TO .ellipsis:=z1
 refine wpAny_bind ?_;simp only[List.zipIdx_cons,List.zipIdx_nil,List.forIn_cons,List.forIn_nil]
 refine wpAny_bind (wpAny_bind (wpAny_onRaise ?_));show wpAny _ _ (Builtin.SmallTypes.nextOf (.ref i1) >>= _) _ _ _
 refine wpAny_bind (zf6 (h1.grow e1.extBut D.i1z) (hl1.grow e1.extBut D.l1z) hx fun g2 t1 e2=>wpAny_pure ?_)
 have p2:IsPair g2 TO a b:=e2.extBut _ _ D.TOi1 (e1.extBut _ _ D.TOz hTO)
 refine wpAny_bind (wpAny_seqItems p2 rfl (wpAny_bind (wpAny_updateSeq_pair p2 fun g3 p3 e3=>wpAny_bind (wpAny_letGo (wpAny_pure ?_)))))
 replace p3:IsPair g3 TO x b:=p3
 refine wpAny_bind (wpAny_bind (wpAny_onRaise ?_));show wpAny _ _ (Builtin.SmallTypes.nextOf (.ref i2) >>= _) _ _ _
 refine wpAny_bind (zf6 (((h2.grow e1.extBut D.i2z).grow e2.extBut D.i12.symm).grow e3.extBut D.TOi2.symm) (((hl2.grow e1.extBut D.l2z).grow e2.extBut D.l2i1).grow e3.extBut D.l2TO) hy fun g4 t2 e4=>wpAny_pure ?_)
 have p4:IsPair g4 TO x b:=e4.extBut _ _ D.TOi2 p3
 refine wpAny_bind (wpAny_seqItems p4 rfl (wpAny_bind (wpAny_updateSeq_pair p4 fun g5 p5 e5=>wpAny_bind (wpAny_letGo (wpAny_pure (wpAny_pure ?_))))))
 replace p5:IsPair g5 TO x y:=p5
 refine wpAny_bind (wpAny_seqItems p5 rfl (wpAny_bind (wpAny_newTuple ?_)))
 have sz:g5.objs.size=s.heap.objs.size:=by rw[e5.1,e4.1,e3.1,e2.1,e1.1]
 have z5:IsZip g5 z TI TO .ellipsis:=e5.extBut _ _ D.TOz.symm (e4.extBut _ _ D.i2z.symm (e3.extBut _ _ D.TOz.symm (e2.extBut _ _ D.i1z.symm z1)))
 have k5:∀ c o,c≠z->c≠TO->c≠i1->c≠i2->s.heap.get? c=some o->g5.get? c=some o:=fun c o c1 c2 c3 c4 e=>e5.extBut _ _ c2 (e4.extBut _ _ c4 (e3.extBut _ _ c2 (e2.extBut _ _ c3 (e1.extBut _ _ c1 e))))
 have u1:Yw b1 g5 i1 l1 (k+1):=((t1.grow e3.extBut D.TOi1.symm).grow e4.extBut D.i12).grow e5.extBut D.TOi1.symm
 have u2:Yw b2 g5 i2 l2 (k+1):=t2.grow e5.extBut D.TOi2.symm
 have zl:z<g5.objs.size:=qq z5
 show wpAny _ _ (Builtin.SmallTypes.ownedTupleHandOut (.ref z) (.ref g5.objs.size) >>= _) _ _ _
 refine wpAny_bind ?_;unfold Builtin.SmallTypes.ownedTupleHandOut
 have z6:IsZip (g5.push { cls:=.type "tuple",data:=.seq #[x,y] }) z TI TO .ellipsis:=qd _ z5
 refine wpAny_bind (wpAny_setField_rec z6 (by simp) fun g7 z7 e7=>?_)
 replace z7:IsZip g7 z TI TO (rawInt g5.objs.size):=z7
 refine wpAny_setField_rec z7 (by simp) fun g8 z8 e8=>?_
 replace z8:IsZip g8 z TI TO (rawInt g5.objs.size):=z8
 have up:∀ c o,c≠z->g5.get? c=some o->g8.get? c=some o:=fun c o c1 e=>e8.extBut _ _ c1 (e7.extBut _ _ c1 (qd _ e))
 have t8:IsPair g8 g5.objs.size x y:=e8.extBut _ _ (Vr zl) (e7.extBut _ _ (Vr zl) (Heap.get?_push_size _ rfl))
 rw[sz]at z8 t8
 refine wpAny_pure ⟨_,rfl,wpAny_pure ?_⟩
 show Q (some (.ref g5.objs.size)) _
 rw[sz]
 exact hQ g8 z8 (up _ _ D.TOz p5) (u1.at fun o e=>up _ o D.i1z e) (u2.at fun o e=>up _ o D.i2z e) t8 fun c o c1 c2 c3 c4 e=>up c o c1 (k5 c o c1 c2 c3 c4 e)
def zpy {b1 b2:Bool}{z TI TO i1 i2 l1 l2:Addr}{k:Nat}{xs ys:Array Value}{a b:Value}{Q:Option Value->Shared->Prop}(hh:A.handled=none)(D:ZipApart z TI TO i1 i2 l1 l2)
  (hz:IsZip s.heap z TI TO .none) (hTI:IsPair s.heap TI (.ref i1) (.ref i2)) (hTO:IsPair s.heap TO a b) (h1:Yw b1 s.heap i1 l1 k) (h2:Yw b2 s.heap i2 l2 k) (hl1:XQ b1 s.heap l1 xs) (hl2:XQ b2 s.heap l2 ys) (hend:xs[k]?=none\/ys[k]?=none)
  (hQ:∀ h',(∀ c o,c≠z->c≠TO->c≠i1->c≠i2->s.heap.get? c=some o->h'.get? c=some o)->Q none { s with heap:=h' }):wpAny (model prog w) A (pyNext (.ref z)) Q E s:=by
 have hT:s.TypeIs (.ref z) "zip":=⟨_,hz,rfl⟩
 unfold pyNext
 refine wpAny_bind (wpAny_attempt (wpAny_callSpecial?_slot (name:=Str.ofString "__next__") hT F.slot_zip_next (wpAny_call_entry F.slot_zip_next hT F.entry_zip_next ?_ (F.args_zip_next_1 _))))
 have out:∀ h' e,(∀ c o,c≠z->c≠TO->c≠i1->c≠i2->s.heap.get? c=some o->h'.get? c=some o)->(∃ o,h'.get? e=some o/\o.cls=.type "StopIteration") ->
   wpAny (model prog w) A ((isInstance (.ref e) (.type "StopIteration")) >>= fun b=>if b=true then pure none else throw (.ref e)) Q E { s with heap:=h' }:=fun h' e hk he=>by
  obtain⟨o,ho,hc⟩:=he
  exact wpAny_bind (wpAny_isInstance (T:="StopIteration") (b:=true) ⟨o,ho,hc⟩ isSubtype_stop (wpAny_pure (hQ _ hk)))
 show wpAny _ _ (field (.ref z) 2 >>= _) _ _ _
 refine wpAny_bind (wpAny_field hz rfl (x:=.bool false) rfl ?_);show wpAny _ _ (field (.ref z) 3 >>= _) _ _ _
 refine wpAny_bind (wpAny_field hz rfl (x:=.ref TI) rfl (wpAny_bind (wpAny_seqItems hTI rfl ?_)));show wpAny _ _ (Builtin.SmallTypes.ownedTupleIsFree (.ref z) >>= _) _ _ _
 refine wpAny_bind ?_;unfold Builtin.SmallTypes.ownedTupleIsFree
 refine wpAny_bind (wpAny_field hz rfl (x:=.none) rfl (wpAny_pure ?_));simp only[if_true]
 refine wpAny_bind (wpAny_rule (wpAny_bind (wpAny_field hz rfl (x:=.ref TO) rfl (wpAny_bind (wpAny_setField_rec hz (by simp) fun g1 z1 e1=>?_)))))
 replace z1:IsZip g1 z TI TO .ellipsis:=z1
 refine wpAny_bind ?_;simp only[List.zipIdx_cons,List.zipIdx_nil,List.forIn_cons,List.forIn_nil]
 refine wpAny_bind (wpAny_bind (wpAny_onRaise ?_));show wpAny _ _ (Builtin.SmallTypes.nextOf (.ref i1) >>= _) _ _ _
 cases hx:xs[k]? with
 |none =>
  refine wpAny_bind (zkf hh (h1.grow e1.extBut D.i1z) (hl1.grow e1.extBut D.l1z) hx fun g2 e e2 ⟨oe,hoe,hce⟩=>?_)
  have z2:IsZip g2 z TI TO .ellipsis:=e2 _ _ D.i1z.symm z1
  have ne:e≠z:=fun q=>by subst q;rw[z2]at hoe;cases hoe;simp at hce
  exact wpAny_setField_rec z2 (by simp) fun g3 _ e3=>out g3 e (fun c o c1 _ c3 _ q=>e3.extBut _ _ c1 (e2 _ _ c3 (e1.extBut _ _ c1 q))) ⟨oe,e3.extBut _ _ ne hoe,hce⟩
 |some x =>
  have hy:ys[k]?=none:=by rcases hend with h|h;rw[hx]at h;cases h;exact h
  refine wpAny_bind (zf6 (h1.grow e1.extBut D.i1z) (hl1.grow e1.extBut D.l1z) hx fun g2 t1 e2=>wpAny_pure ?_)
  have p2:IsPair g2 TO a b:=e2.extBut _ _ D.TOi1 (e1.extBut _ _ D.TOz hTO)
  refine wpAny_bind (wpAny_seqItems p2 rfl (wpAny_bind (wpAny_updateSeq_pair p2 fun g3 p3 e3=>wpAny_bind (wpAny_letGo (wpAny_pure ?_)))))
  refine wpAny_bind (wpAny_bind (wpAny_onRaise ?_));show wpAny _ _ (Builtin.SmallTypes.nextOf (.ref i2) >>= _) _ _ _
  refine wpAny_bind (zkf hh (((h2.grow e1.extBut D.i2z).grow e2.extBut D.i12.symm).grow e3.extBut D.TOi2.symm) (((hl2.grow e1.extBut D.l2z).grow e2.extBut D.l2i1).grow e3.extBut D.l2TO) hy fun g4 e e4 ⟨oe,hoe,hce⟩=>?_)
  have z4:IsZip g4 z TI TO .ellipsis:=e4 _ _ D.i2z.symm (e3.extBut _ _ D.TOz.symm (e2.extBut _ _ D.i1z.symm z1))
  have ne:e≠z:=fun q=>by subst q;rw[z4]at hoe;cases hoe;simp at hce
  exact wpAny_setField_rec z4 (by simp) fun g5 _ e5=>out g5 e (fun c o c1 c2 c3 c4 q=>e5.extBut _ _ c1 (e4 _ _ c4 (e3.extBut _ _ c2 (e2.extBut _ _ c3 (e1.extBut _ _ c1 q))))) ⟨oe,e5.extBut _ _ ne hoe,hce⟩
end
abbrev itN (b:Bool):String:=if b=true then "list_iterator" else "tuple_iterator"
abbrev zg1 (b:Bool)(h:Heap)(l:Addr):Heap:=h.push { cls:=.type (itN b),data:=.fields #[.ref l,.int 0 0] }
abbrev zg2 (b1 b2:Bool)(h:Heap)(l1 l2:Addr):Heap:=zg1 b2 (zg1 b1 h l1) l2
abbrev zg3 (b1 b2:Bool)(h:Heap)(l1 l2:Addr):Heap:=(zg2 b1 b2 h l1 l2).push { cls:=.type "tuple",data:=.seq #[.ref h.objs.size,.ref (zg1 b1 h l1).objs.size] }
abbrev zg4 (b1 b2:Bool)(h:Heap)(l1 l2:Addr):Heap:=(zg3 b1 b2 h l1 l2).push { cls:=.type "tuple",data:=.seq #[.none,.none] }
abbrev Tg (b1 b2:Bool)(h:Heap)(l1 l2:Addr):Heap:=(zg4 b1 b2 h l1 l2).push { cls:=.type "zip",data:=.fields #[.none,.bool false,.bool false,.ref (zg2 b1 b2 h l1 l2).objs.size,.ref (zg3 b1 b2 h l1 l2).objs.size] }
theorem XQ.push {b:Bool}{h:Heap}{l:Addr}{xs:Array Value}(x:XQ b h l xs)(o:Obj):XQ b (h.push o) l xs:=by
 cases b
 ·obtain⟨u,hu,r⟩:h.IsTuple l xs:=x
  exact(⟨u,qd _ hu,r⟩:(h.push o).IsTuple l xs)
 ·obtain⟨u,hu,r⟩:h.IsList l xs:=x
  exact(⟨u,qd _ hu,r⟩:(h.push o).IsList l xs)
def zyN (b:Bool)(l1 l2:Addr)(xs ys:Array Value) :
  Meets (Builtin.«zip.__new__» ⟨[.type "zip",.ref l1,.ref l2],[]⟩) (fun _ R s=>XQ b s.heap l1 xs/\XQ b s.heap l2 ys/\R (.ok (.ret (.ref (zg4 b b s.heap l1 l2).objs.size))) { s with heap:=Tg b b s.heap l1 l2 }):=by
 cases b
 ·exact .of_wp fun prog w A R s h=>by
   obtain⟨hp,g,d,tk,os⟩:=s
   obtain⟨h1,h2,h⟩:=h
   have hsub:=sub_zip
   have q1:Heap.IsTuple (Shared.heap ⟨hp,g,d,tk,os⟩) l1 xs:=h1
   have q2:Heap.IsTuple (Shared.heap ⟨hp.push { cls:=.type "tuple_iterator",data:=.fields #[.ref l1,.int 0 0] },g,d,tk,os⟩) l2 ys:=XQ.push (b:=false) h2 _
   wp_walk using wpAny_pyIter_tuple q1,wpAny_pyIter_tuple q2
   exact⟨_,rfl,h⟩
 ·exact meets_zip_new l1 l2 xs ys
def zso {b:Bool}{h:Heap}{it l:Addr}(e:h.get? it=some { cls:=.type (itN b),data:=.fields #[.ref l,.int 0 0] }):Yw b h it l 0:=by
 cases b
 ·exact(⟨_,e,rfl,rfl⟩:h.IsTupleIter it l 0)
 ·exact(⟨_,e,rfl,rfl⟩:h.IsListIter it l 0)
section
variable {prog:Program}{w:World}{A:Around}{E:Value->Shared->Prop}{s:Shared}
def zx0 {b:Bool}{l1 l2:Addr}{xs ys:Array Value}{Q:Value->Shared->Prop}(hl1:XQ b s.heap l1 xs)(hl2:XQ b s.heap l2 ys)
  (h:∀ h',IsZip h' (s.heap.objs.size+4) (s.heap.objs.size+2) (s.heap.objs.size+3) .none->IsPair h' (s.heap.objs.size+2) (.ref s.heap.objs.size) (.ref (s.heap.objs.size+1))->IsPair h' (s.heap.objs.size+3) .none .none->Yw b h' s.heap.objs.size l1 0->Yw b h' (s.heap.objs.size+1) l2 0 ->
   (∀ c o,s.heap.get? c=some o->h'.get? c=some o)->Q (.ref (s.heap.objs.size+4)) { s with heap:=h' }):wpAny (model prog w) A (call (.type "zip") [.ref l1,.ref l2]) Q E s:=by
 refine callType_new F.called_zip (by decide) (F.typeCall_zip_2 _ _) (F.newCall_zip_2 _ _) (fun obj=>F.args_object_init_3 obj _ _) F.entry_zip_new (zyN b l1 l2 xs ys) ⟨hl1,hl2,?_⟩
 have s1:(zg1 b s.heap l1).objs.size=s.heap.objs.size+1:=qZ ..
 have s2:(zg2 b b s.heap l1 l2).objs.size=s.heap.objs.size+2:=by rw[qZ,s1]
 have s3:(zg3 b b s.heap l1 l2).objs.size=s.heap.objs.size+3:=by rw[qZ,s2]
 have s4:(zg4 b b s.heap l1 l2).objs.size=s.heap.objs.size+4:=by rw[qZ,s3]
 have v1:(Tg b b s.heap l1 l2).get? s.heap.objs.size=some _:=(fun c o q=>qd _ (qd _ (qd _ (qd _ q))):∀ c o,(zg1 b s.heap l1).get? c=some o->(Tg b b s.heap l1 l2).get? c=some o) _ _ (Heap.get?_push_size _ rfl)
 have v2:(Tg b b s.heap l1 l2).get? (zg1 b s.heap l1).objs.size=some _:=(fun c o q=>qd _ (qd _ (qd _ q)):∀ c o,(zg2 b b s.heap l1 l2).get? c=some o->(Tg b b s.heap l1 l2).get? c=some o) _ _ (Heap.get?_push_size _ rfl)
 have v3:(Tg b b s.heap l1 l2).get? (zg2 b b s.heap l1 l2).objs.size=some _:=(fun c o q=>qd _ (qd _ q):∀ c o,(zg3 b b s.heap l1 l2).get? c=some o->(Tg b b s.heap l1 l2).get? c=some o) _ _ (Heap.get?_push_size _ rfl)
 have v4:(Tg b b s.heap l1 l2).get? (zg3 b b s.heap l1 l2).objs.size=some _:=qd _ (Heap.get?_push_size _ rfl)
 have v5:(Tg b b s.heap l1 l2).get? (zg4 b b s.heap l1 l2).objs.size=some _:=Heap.get?_push_size _ rfl
 show _/\_
 rw[s2,s3,s4]at v5
 rw[s1,s2]at v3
 rw[s3]at v4
 rw[s1]at v2
 rw[s4]
 exact⟨⟨_,v5,rfl⟩,h _ v5 v3 v4 (zso v1) (zso v2) fun c o x=>qd _ (qd _ (qd _ (qd _ (qd _ x))))⟩
end
def VH (K:PySem.W.Frag)(b:Bool)(H:Hp)(l:Addr)(xs:List V):Prop:=match b with
 |true=>Zr K H l xs
 |false=>ZK K H l xs
def VH.items {X:Cx}{Z9:List (Addr×Obj)}{Z:L2.St}{H:Hp}{s:Shared}{b:Bool}{l:Addr}{xs:List V}(I:Inv X Z9 Z H s)(h:VH X.K b H l xs):∃ its:List Value,Vals xs its/\XQ b s.heap l its.toArray:=by
 cases b
 ·obtain⟨its,r,p,_⟩:=I.tuple (show ZK X.K H l xs from h)
  exact⟨its,r,p⟩
 ·obtain⟨its,r,p,_⟩:=I.list (show Zr X.K H l xs from h)
  exact⟨its,r,p.isList⟩
def VH.inj {X:Cx}{Z9:List (Addr×Obj)}{Z:L2.St}{H:Hp}{s:Shared}{b:Bool}{l:Addr}{xs ys:List V}(I:Inv X Z9 Z H s)(h:VH X.K b H l xs)(h':VH X.K b H l ys):xs=ys:=by
 cases b
 ·exact I.tuple_inj (show ZK X.K H l xs from h) h'
 ·exact I.list_inj (show Zr X.K H l xs from h) h'
def znC (K:PySem.W.Frag)(b1 b2:Bool)(l1 l2:Addr):It :=
  ⟨fun i H=>∃ xs ys x y,VH K b1 H l1 xs/\VH K b2 H l2 ys/\xs[i]?=some x/\ys[i]?=some y,
   fun i H v H'=>∃ p,v=.ref p/\H p=none/\∀ xs ys x y,VH K b1 H l1 xs->VH K b2 H l2 ys->xs[i]?=some x->ys[i]?=some y->H'=upd H p (.tup [x,y]),
   fun i H=>∃ xs ys,VH K b1 H l1 xs/\VH K b2 H l2 ys/\(xs.length<=i\/ys.length<=i)⟩
def zph {P:Program}{w:World}{K:PySem.W.Frag}{es:List Expr}{kk:Nat}{pos:Pos}{b1 b2:Bool}{z TI TO i1 i2 l1 l2:Addr}(D:ZipApart z TI TO i1 i2 l1 l2) :
  Turn P w K (.Tuple es kk pos) (znC K b1 b2 l1 l2) [z,TI,TO,i1,i2] z (fun i h=>IsZip h z TI TO .none/\IsPair h TI (.ref i1) (.ref i2)/\(∃ a b,IsPair h TO a b)/\Yw b1 h i1 l1 i/\Yw b2 h i2 l2 i) where
 mem:=by simp
 obj:=fun i h st b hb=>by
  obtain⟨hz,hTI,⟨a,c,hTO⟩,q1,q2⟩:=st
  obtain⟨o1,g1,_,_,d1⟩:=q1.obj
  obtain⟨o2,g2,_,_,d2⟩:=q2.obj
  simp only[qg,qF,or_false]at hb
  rcases hb with rfl|rfl|rfl|rfl|rfl
  ·exact⟨_,hz,fun v q=>by cases(show Data.fields _=Data.cell v from q)⟩
  ·exact⟨_,hTI,fun v q=>by cases(show Data.seq _ _=Data.cell v from q)⟩
  ·exact⟨_,hTO,fun v q=>by cases(show Data.seq _ _=Data.cell v from q)⟩
  ·exact⟨_,g1,fun v q=>by rw[d1]at q;cases q⟩
  ·exact⟨_,g2,fun v q=>by rw[d2]at q;cases q⟩
 keep:=fun i h h' st k=>by
  obtain⟨hz,hTI,⟨a,c,hTO⟩,q1,q2⟩:=st
  exact⟨k z (by simp) _ hz,k TI (by simp) _ hTI,⟨a,c,k TO (by simp) _ hTO⟩,q1.at fun o e=>k i1 (by simp) o e,q2.at fun o e=>k i2 (by simp) o e⟩
 item:=by
  intro X hP hw hK hc i Z9 s Z H E I hf st hg
  subst hP hw hK
  obtain⟨hz,hTI,⟨a,c,hTO⟩,q1,q2⟩:=st
  obtain⟨xs,ys,x,y,hx1,hy1,hx,hy⟩:=hg
  obtain⟨its,rx,px⟩:=hx1.items I
  obtain⟨jts,ry,py⟩:=hy1.items I
  obtain⟨u,hu,ru⟩:=Vals.get rx hx
  obtain⟨v,hv,rv⟩:=Vals.get ry hy
  refine znN D hz hTI hTO q1 q2 px py (by simpa using hu) (by simpa using hv) fun h' a1 a2 a3 a4 a5 hk=>?_
  refine⟨_,rfl,wpAny_letOwnedTupleGo_zip a1 fun h'' hz'' hs''=>?_⟩
  have lt:∀ {c o},s.heap.get? c=some o->s.heap.objs.size≠c:=fun e=>Vr (qq e)
  have k2:∀ b u,b∉[z,TI,TO,i1,i2]->s.heap.get? b=some u->h''.get? b=some u:=fun b u hb e=>by
   simp only[qg,qF,or_false,not_or]at hb
   exact hs''.extBut b u hb.1 (hk b u hb.1 hb.2.2.1 hb.2.2.2.1 hb.2.2.2.2 e)
  have new:h''.get? s.heap.objs.size=some { cls:=.type "tuple",data:=.seq #[u,v] }:=hs''.extBut _ _ (lt hz) a5
  refine⟨.ref s.heap.objs.size,upd H s.heap.objs.size (.tup [x,y]),I.turnNew (t':=s.toks) hf k2 (qf _) ⟨by show 2<=sizeLine;decide,[u,v],.cons ru (.cons rv .nil),_,new,rfl,_,rfl⟩,rfl,⟨_,rfl,I.fresh,?_⟩,?_,fun b hb=>?_⟩
  ·intro xs' ys' x' y' hx1' hy1' hx' hy'
   cases hx1.inj I hx1'
   cases hy1.inj I hy1'
   rw[hx]at hx';rw[hy]at hy'
   cases hx';cases hy'
   rfl
  ·exact⟨hz'',hs''.extBut _ _ D.TIz (hk _ _ D.TIz D.TITO D.TIi1 D.TIi2 hTI),⟨_,_,hs''.extBut _ _ D.TOz a2⟩,a3.grow hs''.extBut D.i1z,a4.grow hs''.extBut D.i2z⟩
  ·have:∃ o,s.heap.get? b=some o:=by
    simp only[qg,qF,or_false]at hb
    obtain⟨o1,e1,_⟩:=q1.obj
    obtain⟨o2,e2,_⟩:=q2.obj
    rcases hb with rfl|rfl|rfl|rfl|rfl
    ·exact⟨_,hz⟩
    ·exact⟨_,hTI⟩
    ·exact⟨_,hTO⟩
    ·exact⟨_,e1⟩
    ·exact⟨_,e2⟩
   obtain⟨o,e⟩:=this
   rw[zR (lt e).symm]
   exact(hf b hb).1
 done:=by
  intro X hP hw hK hc i Z9 s Z H E I hf st hg
  subst hP hw hK
  obtain⟨hz,hTI,⟨a,c,hTO⟩,q1,q2⟩:=st
  obtain⟨xs,ys,hx1,hy1,hl⟩:=hg
  obtain⟨its,rx,px⟩:=hx1.items I
  obtain⟨jts,ry,py⟩:=hy1.items I
  have n1:=rx.length
  have n2:=ry.length
  refine zpy (I.ok.hd hc) D hz hTI hTO q1 q2 px py ?_ fun h' hk=>⟨rfl,I.turnedL (t':=s.toks) hf fun b u hb e=>?_⟩
  ·rcases hl with hl|hl
   ·exact .inl (by rw[qaM];exact qv (by lia))
   ·exact .inr (by rw[qaM];exact qv (by lia))
  ·simp only[qg,qF,or_false,not_or]at hb
   exact hk b u hb.1 hb.2.2.1 hb.2.2.2.1 hb.2.2.2.2 e
 self:=fun _ _ _ _ _ st h=>wpAny_pyIter_zip st.1 h
section
variable {X:Cx}
def zx1 (K:PySem.W.Frag)(ta:TA):TI:=fun Z H R=>ta Z H fun vs H1=>∃ b l1 l2,vs=[.ref l1,.ref l2]/\(∃ xs,VH K b H1 l1 xs)/\(∃ ys,VH K b H1 l2 ys)/\R (znC K b b l1 l2) H1
def zsR {es:List Expr}{kk:Nat}{tpos:Pos}{a b:Expr}{ta:TA}{p pos:Pos}(hg:Gl X "zip")(hm:X.mg "zip"=none)(ha:PA X [a,b] ta)(hs:starEach [a,b] X.env=[(false,eval a X.env),(false,eval b X.env)]:=by rfl)(hs2:starEach [b] X.env=[(false,eval b X.env)]:=by rfl) :
    PI X (.Tuple es kk tpos) (.Call (.Name "zip" p) [a,b] [] pos) (zx1 X.K ta):=by
  intro Z9 s Z H R I h
  refine Call_ (UW I hg hm boot_zip (PyProof.Rows.callWith_type1 (Z0 (ha pos Z9 s Z H _ I h) fun us s1 ⟨vs,H1,I1,r1,q1⟩=>?_) (by rw[hs,hs2]) (by rw[hs2];rfl)))
  obtain⟨b',l1,l2,e,⟨xs,hx⟩,⟨ys,hy⟩,q⟩:=q1
  subst e
  obtain⟨u,v,rfl,ru,rv⟩:=vals2 r1
  cases ru
  cases rv
  obtain⟨its,rx,px⟩:=hx.items I1
  obtain⟨jts,ry,py⟩:=hy.items I1
  refine zx0 px py fun h' hz hTI hTO h1 h2 hk=>?_
  have I2:Inv X Z9 Z H1 { s1 with heap:=h' }:=I1.kept (t':=s1.toks) hk
  refine wpAny_pyIter_zip (s:={ s1 with heap:=h' }) hz ⟨_,_,_,_,H1,rfl,I2,zph (PyProof.Rows.zipApart_new px.lt py.lt),⟨hz,hTI,⟨_,_,hTO⟩,h1,h2⟩,fun b hb=>?_,q⟩
  have hb':s1.heap.objs.size<=b:=by
    simp only[qg,qF,or_false]at hb
    rcases hb with rfl|rfl|rfl|rfl|rfl<;>first|exact Pb _ _|exact qf _
  exact I1.fpOk hb' (I1.hok.fresh hb')
end
section
def zyD (l:Addr)(items:Array Value)(n:Nat)(b:Addr)(items2:Array Value)(n2:Nat)(dct:Option Addr)(sl:Array (Option Value))(hs0:¬(!items.isEmpty&&Builtin.List.listTooLong (items.size+items2.size))=true)(hs1:items.size<=sizeLine)(hs2:items.size+items2.size<=sizeLine+1) :
  Meets (Builtin.«list.extend» ⟨[.ref l,.ref b],[]⟩) (fun _ R s=>s.heap.get? l=some { cls:=.type "list",dict:=none,data:=.seq items n,slots:=#[] }/\s.heap.get? b=some { cls:=.type "tuple",dict:=dct,data:=.seq items2 n2,slots:=sl }/\R (.ok (.ret Value.none)) { s with heap:=s.heap.update l (Obj.mapSeq fun x=>x++items2),toks:=s.toks }) :=
 .of_wp fun prog w A R s h=>by
  obtain⟨hp,g,d,tk,os⟩:=s
  obtain⟨hl,hb,h⟩:=h
  have f1:=AutoSeq1.idx_int
  have f2:=AutoSeq1.sub_tuple_tuple
  have f3:=AutoSeq1.sub_list_list
  have f4:=AutoSeq1.sub_tuple_list
  have f5:=AutoSeq1.sub_list_tuple
  have hz':(items++items2).size<=sizeLine+1:=by rw[Array.size_append];exact hs2
  wp_walk using (wpAny_updateSeq hl rfl (hz:=hs1) (_hz':=hz')),wpAny_loadPart' hl,wpAny_loadPart' hb
  exact⟨_,rfl,h⟩
end
section
variable {X:Cx}
def zrG (K:PySem.W.Frag):V->List V->Hp->VK->Prop:=fun x vs H Q=>zne x vs H Q\/∃ l b xs zs,x=.ref l/\vs=[.ref b]/\H l=some (.lst xs)/\ZK K H b zs/\xs.length+zs.length<=sizeLine/\Q .non (upd H l (.lst (xs++zs)))
def zom:MtM X "list.extend" (zrG X.K):=by
 intro Z9 s Z H x vs v us Q I rx rv h
 rcases h with h|⟨l,b,xs,zs,rfl,rfl,hH,hB,hz,q⟩
 ·exact zo8 Z9 s Z H x vs v us Q I rx rv h
 cases rx
 obtain⟨u,rfl,ru⟩:=rv.one
 cases ru
 obtain⟨z,its,n,r,hl,e⟩:=I.lstM hH
 obtain⟨its2,r2,⟨⟨c,dct,dt,sl⟩,e2,hc,n2,hd⟩,z2⟩:=I.tuple hB
 replace hc:c=.type "tuple":=hc
 replace hd:dt=.seq its2.toArray n2:=hd
 subst hc hd
 have hl2:=r2.length
 have hsz:its.toArray.size+its2.toArray.size<=sizeLine:=by rw[qm,qm];lia
 have hlong:¬ (!its.toArray.isEmpty&&Builtin.List.listTooLong (its.toArray.size+its2.toArray.size))=true:=by
  rw[zlY hsz,Bool.and_false]
  exact qp
 refine call_meets F.slot_list_extend ⟨_,e,rfl⟩ F.entry_list_extend (F.args_list_extend_2 _ _)
  (zyD l its.toArray n b its2.toArray n2 dct sl hlong (by rw[qm];lia) (by lia)) ⟨e,e2,?_⟩
 refine⟨.non,_,I.lset (its':=its++its2) hH e (by simp) (r.append r2) ?_,rfl,q⟩
 rw[qh]
 lia
end
section
variable {prog:Program}{w:World}{A:Around}{E:Value->Shared->Prop}{s:Shared}
end
section
variable {X:Cx}
end
section
variable {X:Cx}
end
section
variable {X:Cx}
end
section
variable {prog:Program}{w:World}{A:Around}{E:Value->Shared->Prop}{s:Shared}
end
section
variable {prog:Program}{w:World}{A:Around}{E:Value->Shared->Prop}{s:Shared}
end
section
variable {prog:Program}{w:World}{A:Around}{E:Value->Shared->Prop}{s:Shared}
end
section
variable {prog:Program}{w:World}{A:Around}{s:Shared}
abbrev Tf (prog:Program)(w:World)(h:Heap)(a:Addr)(c:List Str):Prop:=h.SetOf (PySem.strKind prog w) a (fun y=>c.any (·==y)) c.length
def Tf.at {h h':Heap}{a:Addr}{c:List Str}(x:Tf prog w h a c)(k:∀ o,h.get? a=some o->h'.get? a=some o):Tf prog w h' a c :=
 let ⟨o,es,ep,t,ho,r⟩:=x;⟨o,es,ep,t,k o ho,r⟩
theorem loopS {R:Result->Shared->Prop}{it a:Addr}{fp wr:List Addr}{G:Array GenState->Array GenState->Prop}{n:Nat}{P:Nat->Value->Prop}{St:Nat->Shared->Prop}
  (W:WalksS prog w A.in1 it fp wr G n P St) (na:a∉fp) (f:Nat->Str) (hf:∀ i v,P i v->∃ t,v=.str (f i) t) (hb:n+1<scanBound) :
  ∀ (k i:Nat) (s:Shared),n-i=k->i<=n->St i s->Tf prog w s.heap a (Dp.Xg f i) ->
   (∀ s',Moved (a::wr) G s s'->Tf prog w s'.heap a (Dp.Xg f n)->R (.ok (.ret .none)) s') ->
   codeAny (model prog w) A (.builtin "set.update.loop" ⟨[.ref a,.ref it],[]⟩) R s
 |0,i,s,hk,hi,st,hS,hR=>by
  have e:i=n:=by lia
  subst e
  refine codeAny_builtin PyProof.Rows.F.entry_set_update_loop ?_
  rw[Around.under_plainId PyProof.Rows.F.plain_set_update_loop]
  show wpAny _ A.in1 (pyNext (.ref it) >>= _) _ _ _
  refine wpAny_bind (W.done s _ _ st fun s' m=>wpAny_pure (hR s' (m.mono fun b q=>qB _ q) ?_))
  exact hS.at fun o q=>m.heap a o (fun z=>na (W.sub _ z)) q
 |k+1,i,s,hk,hi,st,hS,hR=>by
  refine codeAny_builtin PyProof.Rows.F.entry_set_update_loop ?_
  rw[Around.under_plainId PyProof.Rows.F.plain_set_update_loop]
  show wpAny _ A.in1 (pyNext (.ref it) >>= _) _ _ _
  refine wpAny_bind (W.item i s _ _ (by lia) st fun v s1 pv st1 m=>?_)
  obtain⟨t,rfl⟩:=hf i v pv
  have h1:Tf prog w s1.heap a (Dp.Xg f i):=hS.at fun o q=>m.heap a o (fun z=>na (W.sub _ z)) q
  show wpAny _ A.in1 (holding [Value.str (f i) t] (setAdd a (Value.str (f i) t)) >>= _) _ _ _
  refine wpAny_bind (wpAny_holding ?_)
  unfold setAdd
  refine wpAny_holding (wpAny_bind ((PySem.strKind prog w).pyHash (k:=f i) (strKind_is _ _ _ _) ?_))
  have room:(Dp.Xg f i).length+1<scanBound:=by have:=Dp.zjH f i;lia
  refine wpAny_setAddHashed_of (knd:=PySem.strKind prog w) (s:={ s1 with toks:=s1.toks+1 }) (strKind_is _ _ _ _) rfl h1 room fun h2 sb hS2=>?_
  have h3:Tf prog w h2 a (Dp.Xg f (i+1)):=SetOf_congr hS2 (fun y=>(Dp.zmh _ _ _).symm) (Dp.zix _ _).symm
  refine wpAny_pure ⟨plainId_quiet PyProof.Rows.F.plain_set_update_loop _,loopS W na f hf hb k (i+1) _ (by lia) (by lia) (W.frame _ s1 _ _ st1 (RZ _) fun b q o e=>?_) h3 fun s' m' hS'=>?_⟩
  ·exact(sb.2 b fun z=>na (z▸q)).trans e
  ·refine hR s' (Moved.trans W.gtrans ((m.mono fun b q=>qB _ q).then_heap (RZ _) fun b o q e=>?_) m') hS'
   exact(sb.2 b fun z=>q (z▸Qq)).trans e
end
section
variable {prog:Program}{w:World}{A:Around}{E:Value->Shared->Prop}{s:Shared}
abbrev Rx (led:Bool):Obj:={ cls:=.type "set",dict:=none,data:=.set #[] 0 (.fresh 0 0 led) }
def zpJ {l:Addr}{its:Array Value}(f:Nat->Str){Q:Value->Shared->Prop}(hh:A.handled=none)(hl:s.heap.IsList l its)(hf:∀ (i:Nat) v,its[i]?=some v->∃ t,v=.str (f i) t)(hb:its.size+1<scanBound)
    (h:∀ (h':Heap) (tk:Nat),Tf prog w h' s.heap.objs.size (Dp.Xg f its.size)->(∀ b o,b<s.heap.objs.size->s.heap.get? b=some o->h'.get? b=some o)->Q (.ref s.heap.objs.size) { s with heap:=h',toks:=tk }) :
    wpAny (model prog w) A (call (.type "set") [.ref l]) Q E s:=by
  have ft:=F.called_set
  obtain⟨c,tl,hmro⟩:=ft.mro
  have hmade:=ft.made
  have hsub:=ft.sub
  have h1:=ft.notType
  have h2:=ft.canCreate
  have hct:=F.typeCall_set_1 (.ref l)
  refine wpAny_call (codeAny_of_tree ?_)
  show wpAny _ _ (callAny (.type "set") _) _ _ s
  refine wpAny_pure ⟨Code.quiet_builtin _ (by decide +kernel),codeAny_builtin F.entry_type_call ?_⟩
  rw[Around.under_plain (weight_type_call_type "set" [Value.ref l] []) rfl]
  repeat (any_goals (first|assumption|wp_step))
  refine codeAny_mono (code_set_new_1 (.ref l) (E:=E) (Q₁:=fun v s1=>∃ led:Bool,v=.ref s.heap.objs.size/\s1={ s with heap:=s.heap.push (Rx led) }) fun led=>⟨led,rfl,rfl⟩) fun r s1 hr=>?_
  cases r with
  |error e=>exact hr
  |ok fl =>
    cases fl with
    |ret v =>
      obtain⟨led,rfl,rfl⟩:=hr
      have e0:(s.heap.push (Rx led)).get? s.heap.objs.size=some (Rx led):=Heap.get?_push_size _ rfl
      have hT:Shared.TypeIs { s with heap:=s.heap.push (Rx led) } (.ref s.heap.objs.size) "set":=⟨_,e0,rfl⟩
      have hli:=ft.init.lookup
      have hbi:=ft.init.bind (.ref s.heap.objs.size)
      repeat (any_goals (first|assumption|wp_step))
      refine codeAny_mono (codeAny_call_builtin (R:=wants (fun r s2=>r=.none/\∃ h' tk,s2={ s with heap:=h',toks:=tk }/\Tf prog w h' s.heap.objs.size (Dp.Xg f its.size)/\∀ b o,b<s.heap.objs.size->s.heap.get? b=some o->h'.get? b=some o) E) ft.init.plain F.entry_set_init (check_set_init_1 hT ?_)) fun r2 s2 hr2=>?_
      . obtain⟨ol,hol,hcl,nl,hdl⟩:=hl
        obtain⟨ocl,odi,oda,osl⟩:=ol
        simp only at hcl hdl
        subst hcl hdl
        have hol2:(s.heap.push (Rx led)).get? l=some { cls:=.type "list",dict:=odi,data:=.seq its nl,slots:=osl }:=qd _ hol
        have k1:=F.sub_list_set
        have k2:=F.sub_list_frozenset
        have k3:(Value.type "list"==Value.type "dict")=false:=by decide
        have hl1:(s.heap.push (Rx led)).IsList l its:=⟨_,hol2,rfl,nl,rfl⟩
        unfold Builtin.«set.__init__» noKeywords Builtin.Frozenset.updateFrom
        generalize hPI:pyIter=PI
        wp_walk
        subst hPI
        refine wpAny_pyIter_list hl1 (wpAny_bind (wpAny_runValue ?_))
        have ll:l<s.heap.objs.size:=qq hol
        have n1:l≠(s.heap.push (Rx led)).objs.size:=by rw[qZ];exact qK (qa6 ll)
        have n2:s.heap.objs.size∉[(s.heap.push (Rx led)).objs.size,l]:=by
          rw[qZ]
          intro z
          rcases qg.mp z with z|z
          . exact qK (qbc _) z
          . exact Vr ll (qa4.mp z)
        refine loopS ((Walks.list (show _=none by simp[hh]) _ l n1 its).toS) n2 f hf hb (its.size-0) 0 _ (by lia) (qP _) ⟨⟨_,Heap.get?_push_size _ rfl,rfl,rfl⟩,hl1.push _⟩ ?_ fun s' m hS'=>?_
        . exact SetOf_congr ((setObjOf_fresh (knd:=PySem.strKind prog w) led).setOf (qd _ e0) (by unfold scanBound;lia)) (fun _=>rfl) rfl
        . obtain⟨h',g',d',tk',os'⟩:=s'
          cases(show g'=s.gens from m.gens)
          cases(show d'=s.drawn from m.drawn)
          cases(show os'=s.os from m.os)
          show wpAny _ _ _ _ _ _
          refine wpAny_pure (wpAny_pure ⟨rfl,h',tk',rfl,hS',fun b o q e=>?_⟩)
          refine m.heap b o (fun z=>?_) (qd _ (qd _ e))
          rcases qg.mp z with z|z
          . exact qK q z
          . have z':=qa4.mp z
            rw[qZ]at z'
            exact qK (qa6 q) z'
      . cases r2 with
        |error e=>exact hr2
        |ok fl2 =>
          cases fl2 with
          |ret r =>
            obtain⟨rfl,h',tk,rfl,hS',kp⟩:=hr2
            repeat (any_goals (first|assumption|wp_step))
            exact h _ _ hS' kp
          |_=>exact hr2.elim
    |_=>exact hr.elim
end
def zw3 (K:PySem.W.Frag)(ta:TA):TE:=fun Z H Q=>ta Z H fun vs H1=>∃ l,∃ zs:List Str,vs=[.ref l]/\Zr K H1 l (zs.map V.str)/\zs.length<=4000/\Q (.int (Dp.Xg (fun i=>zs.getD i Str.empty) zs.length).length) H1
theorem zlh:∀ {zs:List Str} {us:List Value},Vals (zs.map V.str) us->∀ (i:Nat) v,us[i]?=some v->∃ t,v=.str (zs.getD i Str.empty) t
 |[],_,.nil,i,v,e=>by simp at e
 |z::zs,_,.cons r t,0,v,e=>by
  obtain⟨t,rfl⟩:=r
  simp at e
  exact⟨t,e.symm⟩
 |z::zs,_,.cons r t,i+1,v,e=>by
  obtain⟨t,h⟩:=zlh t i v (by simpa using e)
  exact⟨t,by rw[h];simp⟩
def zt3 {X:Cx}{a:Expr}{ta:TA}{p1 p2 pos1 pos2:Pos}(hc:X.calm=true)(hgl:Gl X "len")(hml:X.mg "len"=none)(hgr:Gl X "set")(hmr:X.mg "set"=none)(ha:PA X [a] ta)
  (hs:starEach [a] X.env=[(false,eval a X.env)]:=by rfl)
  (hs3:starEach [.Call (.Name "set" p2) [a] [] pos2] X.env=[(false,eval (.Call (.Name "set" p2) [a] [] pos2) X.env)]:=by rfl) :
  PE X (.Call (.Name "len" p1) [.Call (.Name "set" p2) [a] [] pos2] [] pos1) (zw3 X.K ta):=by
 intro Z9 s Z H Q I h
 refine Call_ (UW I hgl hml boot_len (PyProof.Rows.callWith_builtin1 ?_ (by rw[hs3];rfl) (by rfl)))
 rw[hs3]
 show wpAny _ _ (spliced ((false,eval (.Call (.Name "set" p2) [a] [] pos2) X.env)::backTo pos1 [])) _ _ s
 refine Calls.spliced_cons (Call_ (UW I hgr hmr boot_set (PyProof.Rows.callWith_type1 (Z0 (ha pos2 Z9 s Z H _ I h) fun us s1 ⟨vs,H1,I1,r1,q1⟩=>?_) hs rfl)))
 obtain⟨l,zs,e,hx,h4,q⟩:=q1
 subst e
 obtain⟨u,rfl,ru⟩:=vals1 r1
 cases ru
 obtain⟨its,rx,px,zx⟩:=I1.list hx
 have sz:its.toArray.size=zs.length:=by rw[qm,<- rx.length,qb]
 refine zpJ (fun i=>zs.getD i Str.empty) (show _=none from I1.ok.hd hc) px.isList (fun i v e=>zlh rx i v (by simpa using e)) (by rw[sz];unfold scanBound;lia) fun h' tk hS kp=>Calls.spliced_nil ?_
 rw[sz]at hS
 have le:=Dp.zjH (fun i=>zs.getD i Str.empty) zs.length
 obtain⟨o,es,ep,t,ho,hex,hd,_,_,_,hf,hn⟩:=hS
 refine call_len_set ho hex hd hf (by lia) ?_
 rw[hn]
 exact⟨.int _,H1,I1.kept (t':=tk+1+1) (fun b o q=>kp b o (qq q) q),⟨_,rfl⟩,q⟩
end My
namespace Dp
open PySem PySem.Spec PyProof.Rows L2 My
def isStar:Expr->Bool
 |.Starred _ _=>true
 |_=>false
def Ur {e:Expr}{es:List Expr}{env:Env}(h:isStar e=false):starEach (e::es) env=(false,eval e env)::starEach es env:=by
  cases e<;>first|rfl|cases h
theorem Q6 {pos:Pos}{env:Env}:∀ {es:List Expr},es.all (fun e=>!isStar e)=true->(backTo pos (starEach es env)).any (·.1)=false
 |[],_=>rfl
 |e::es,h=>by
  rw[Va,qG]at h
  rw[Ur (by simpa using h.1)]
  show(false||(backTo pos (starEach es env)).any (·.1))=false
  rw[Q6 h.2];rfl
def QK {e:Expr}{env:Env}(h:isStar e=false):starEach [e] env=[(false,eval e env)]:=Ur h
def zib {e g:Expr}{env:Env}(h:isStar e=false)(k:isStar g=false):starEach [e,g] env=[(false,eval e env),(false,eval g env)]:=by rw[Ur h,QK k]
def QH (K:PySem.W.Frag)(H:Hp)(a:Addr)(xs:List V):Prop :=
 (∃ o,H a=some (.frz o (.lst xs)))\/∃ (o:Obj) (its:Array Value) (n:Nat),K.lookup a=some o/\o.cls=.type "list"/\o.dict=none/\o.data=.seq its n/\its.size<=sizeLine/\Vals xs its.toList
def QH.sq {K:PySem.W.Frag}{H:Hp}{a:Addr}{xs:List V}(h:QH K H a xs):Zr K H a xs:=h.imp (fun h=>.inr h) id
mutual
inductive Rel (K:PySem.W.Frag)(ad:List Addr)(H:Hp):D->V->Prop
 |non:Rel K ad H .non .non
 |bl (b:Bool):Rel K ad H (.bl b) (.bl b)
 |int (i:Int):Rel K ad H (.int i) (.int i)
 |str (x:Str):Rel K ad H (.str x) (.str x)
 |ty (n:String):Rel K ad H (.ty n) (.ty n)
 |tup {a:Addr} {vs:List V} {ds:List D}:H a=some (.tup vs)->zB K ad H ds vs->Rel K ad H (.tup ds) (.ref a)
 |rl {a:Addr} {vs:List V} {ds:List D}:QH K H a vs->zB K ad H ds vs->Rel K ad H (.rl ds) (.ref a)
 |ref {n:Nat} {a:Addr}:ad[n]?=some a->Rel K ad H (.ref n) (.ref a)
 |exn {c:Str} {a C:Addr} {o:Obj} {u:HO}:H a=some (.frz o u)->o.cls=.ref C->PySem.W.nsIn K mainGlobals c=some (some (.ref C))->Rel K ad H (.exn c) (.ref a)
inductive zB (K:PySem.W.Frag)(ad:List Addr)(H:Hp):List D->List V->Prop
 |nil:zB K ad H [] []
 |cons {d:D} {v:V} {ds:List D} {vs:List V}:Rel K ad H d v->zB K ad H ds vs->zB K ad H (d::ds) (v::vs)
end
structure Wd (ad:List Addr)(H:Hp)(ad':List Addr)(H':Hp):Prop where
 pre:ad <+: ad'
 keep:∀ b o,b∉ad->H b=some o->H' b=some o
 tup:∀ b xs,H b=some (.tup xs)->H' b=some (.tup xs)
 frz:∀ b o u,H b=some (.frz o u)->H' b=some (.frz o u)
 new:∀ b,b∈ad'->b∉ad->H b=none
def Wd.refl {ad:List Addr}{H:Hp}:Wd ad H ad H:=⟨qaU _,fun _ _ _ h=>h,fun _ _ h=>h,fun _ _ _ h=>h,fun _ h n=>absurd h n⟩
theorem Wd.trans {ad ad1 ad2:List Addr}{H H1 H2:Hp}(a:Wd ad H ad1 H1)(b:Wd ad1 H1 ad2 H2):Wd ad H ad2 H2 where
 pre:=a.pre.trans b.pre
 keep:=fun c o hc h=>b.keep c o (fun h1=>by rw[a.new c h1 hc]at h;cases h) (a.keep c o hc h)
 tup:=fun c xs h=>b.tup c xs (a.tup c xs h)
 frz:=fun c o u h=>b.frz c o u (a.frz c o u h)
 new:=fun c h2 hc=>by
  by_cases h1:c∈ad1
  ·exact a.new c h1 hc
  ·have n1:=b.new c h2 h1
   cases e:H c with
   |none=>rfl
   |some o=>rw[a.keep c o hc e]at n1;cases n1
def zjA {α:Type}{l l':List α}(h:l <+: l'){n:Nat}{a:α}(e:l[n]?=some a):l'[n]?=some a:=by
 obtain⟨t,rfl⟩:=h
 rw[qk (My.VN e)];exact e
structure Wr (ad:List Addr)(H:Hp)(ad':List Addr)(H':Hp):Prop where
 pre:ad <+: ad'
 tup:∀ b xs,H b=some (.tup xs)->H' b=some (.tup xs)
 frz:∀ b o u,H b=some (.frz o u)->H' b=some (.frz o u)
def Wd.wr {ad ad':List Addr}{H H':Hp}(w:Wd ad H ad' H'):Wr ad H ad' H':=⟨w.pre,w.tup,w.frz⟩
def QH.wr {K:PySem.W.Frag}{ad ad':List Addr}{H H':Hp}{a:Addr}{xs:List V}(w:Wr ad H ad' H')(h:QH K H a xs):QH K H' a xs:=h.imp (fun⟨o,e⟩=>⟨o,w.frz _ _ _ e⟩) id
mutual
theorem Rel.wr {K:PySem.W.Frag}{ad ad':List Addr}{H H':Hp}(w:Wr ad H ad' H'):∀ {d:D} {v:V},Rel K ad H d v->Rel K ad' H' d v
 |_,_,.non=>.non
 |_,_,.bl b=>.bl b
 |_,_,.int i=>.int i
 |_,_,.str x=>.str x
 |_,_,.ty n=>.ty n
 |_,_,.tup h r=>.tup (w.tup _ _ h) (zB.wr w r)
 |_,_,.rl h r=>.rl (h.wr w) (zB.wr w r)
 |_,_,.ref h=>.ref (zjA w.pre h)
 |_,_,.exn h e n=>.exn (w.frz _ _ _ h) e n
theorem zB.wr {K:PySem.W.Frag}{ad ad':List Addr}{H H':Hp}(w:Wr ad H ad' H'):∀ {ds:List D} {vs:List V},zB K ad H ds vs->zB K ad' H' ds vs
 |_,_,.nil=>.nil
 |_,_,.cons r t=>.cons (Rel.wr w r) (zB.wr w t)
end
def Rel.wd {K:PySem.W.Frag}{ad ad':List Addr}{H H':Hp}{d:D}{v:V}(r:Rel K ad H d v)(w:Wd ad H ad' H'):Rel K ad' H' d v:=Rel.wr w.wr r
def zB.wd {K:PySem.W.Frag}{ad ad':List Addr}{H H':Hp}{ds:List D}{vs:List V}(r:zB K ad H ds vs)(w:Wd ad H ad' H'):zB K ad' H' ds vs:=zB.wr w.wr r
section
variable {K:PySem.W.Frag}{ad:List Addr}{H:Hp}
theorem zB.length:∀ {ds:List D} {vs:List V},zB K ad H ds vs->ds.length=vs.length
  |_,_,.nil=>rfl
  |_,_,.cons _ t=>congrArg (· + 1) (zB.length t)
theorem zB.get:∀ {ds:List D} {vs:List V} {i:Nat} {d:D},zB K ad H ds vs->ds[i]?=some d->∃ v,vs[i]?=some v/\Rel K ad H d v
 |_,_,_,_,.nil,e=>by simp at e
 |_,_,0,_,.cons r _,e=>by simp at e;subst e;exact⟨_,rfl,r⟩
 |_,_,i+1,d,.cons _ t,e=>by
  obtain⟨v,h1,h2⟩:=zB.get (i:=i) (d:=d) t (by simpa using e)
  exact⟨v,by simpa using h1,h2⟩
theorem zB.append:∀ {ds es:List D} {vs us:List V},zB K ad H ds vs->zB K ad H es us->zB K ad H (ds++es) (vs++us)
 |_,_,_,_,.nil,s=>s
 |_,_,_,_,.cons r t,s=>.cons r (zB.append t s)
theorem zB.take:∀ {ds:List D} {vs:List V} (n:Nat),zB K ad H ds vs->zB K ad H (ds.take n) (vs.take n)
 |_,_,0,_=>.nil
 |_,_,_+1,.nil=>.nil
 |_,_,n+1,.cons r t=>.cons r (zB.take n t)
theorem zB.drop:∀ {ds:List D} {vs:List V} (n:Nat),zB K ad H ds vs->zB K ad H (ds.drop n) (vs.drop n)
 |_,_,0,r=>r
 |_,_,_+1,.nil=>.nil
 |_,_,n+1,.cons _ t=>zB.drop n t
theorem zB.set {d:D}{v:V}(r:Rel K ad H d v):∀ {ds:List D} {vs:List V} (i:Nat),zB K ad H ds vs->zB K ad H (ds.set i d) (vs.set i v)
 |_,_,_,.nil=>.nil
 |_,_,0,.cons _ t=>.cons r t
 |_,_,i+1,.cons q t=>.cons q (zB.set r i t)
theorem zB.ints:∀ {ns:List Int} {vs:List V},zB K ad H (ns.map D.int) vs->vs=ns.map V.int
 |[],_,.nil=>rfl
 |n::ns,_,.cons r t=>by cases r;rw[zB.ints t];rfl
theorem zB.bls:∀ {ns:List Bool} {vs:List V},zB K ad H (ns.map D.bl) vs->vs=ns.map V.bl
 |[],_,.nil=>rfl
 |n::ns,_,.cons r t=>by cases r;rw[zB.bls t];rfl
theorem zB.mk_ints:∀ (ns:List Int),zB K ad H (ns.map D.int) (ns.map V.int)
 |[]=>.nil
 |n::ns=>.cons (.int n) (zB.mk_ints ns)
end
inductive Za (K:PySem.W.Frag)(ad:List Addr)(H:Hp):List (Str×D)->List (Str×V)->Prop
 |nil:Za K ad H [] []
 |cons {f:Str} {d:D} {v:V} {fs:List (Str×D)} {vs:List (Str×V)}:Rel K ad H d v->Za K ad H fs vs->Za K ad H ((f,d)::fs) ((f,v)::vs)
theorem Za.wr {K:PySem.W.Frag}{ad ad':List Addr}{H H':Hp}(w:Wr ad H ad' H'):∀ {fs:List (Str×D)} {vs:List (Str×V)},Za K ad H fs vs->Za K ad' H' fs vs
 |_,_,.nil=>.nil
 |_,_,.cons r t=>.cons (Rel.wr w r) (Za.wr w t)
theorem Za.look {K:PySem.W.Frag}{ad:List Addr}{H:Hp}{f:Str}:∀ {fs:List (Str×D)} {vs:List (Str×V)} {d:D},Za K ad H fs vs->fs.lookup f=some d->∃ v,vs.lookup f=some v/\Rel K ad H d v
 |_,_,d,.nil,e=>by simp at e
 |_,_,d,@Za.cons _ _ _ g x v fs vs r t,e=>by
  rw[qo]at e ⊢
  cases h:f==g with
  |true=>rw[h]at e;cases e;exact⟨v,rfl,r⟩
  |false=>rw[h]at e;exact Za.look t e
theorem Za.put {K:PySem.W.Frag}{ad:List Addr}{H:Hp}{f:Str}{d:D}{v:V}(rd:Rel K ad H d v):∀ {fs:List (Str×D)} {vs:List (Str×V)},Za K ad H fs vs->Za K ad H (putD f d fs) (Yk f v vs)
 |_,_,.nil=>.cons rd .nil
 |_,_,@Za.cons _ _ _ g x u fs vs r t=>by
  show Za K ad H (if g=f then(g,d)::fs else(g,x)::putD f d fs) (if g=f then(g,v)::vs else(g,u)::Yk f v vs)
  by_cases h:g=f
  ·rw[if_pos h,if_pos h];exact .cons rd t
  ·rw[if_neg h,if_neg h];exact .cons r (Za.put rd t)
theorem Za.length {K:PySem.W.Frag}{ad:List Addr}{H:Hp}:∀ {fs:List (Str×D)} {vs:List (Str×V)},Za K ad H fs vs->fs.length=vs.length
  |_,_,.nil=>rfl
  |_,_,.cons _ t=>congrArg (· + 1) (Za.length t)
theorem zl9 {f:Str}{d:D}{q:Str×D}:∀ {fs:List (Str×D)},q∈putD f d fs->q.1=f\/q∈fs
 |[],h=>by
  have:q=(f,d):=by simpa [putD]using h
  subst this;exact .inl rfl
 |(g,x)::fs,h=>by
  have h:q∈if g=f then(g,d)::fs else(g,x)::putD f d fs:=h
  by_cases e:g=f
  ·rw[if_pos e]at h
   rcases qg.mp h with rfl|h
   ·exact .inl e
   ·exact .inr (qB _ h)
  ·rw[if_neg e]at h
   rcases qg.mp h with rfl|h
   ·exact .inr (by simp)
   ·exact(zl9 h).imp id (qB _)
theorem zkV {f:Str}{d:D}:∀ {fs:List (Str×D)},fs.lookup f=some d->∃ q∈fs,q.1=f
 |[],e=>by simp at e
 |(g,x)::fs,e=>by
  rw[qo]at e
  cases h:f==g with
  |true=>exact⟨(g,x),by simp,(eq_of_beq h).symm⟩
  |false =>
   rw[h]at e
   obtain⟨q,hq,e'⟩:=zkV e
   exact⟨q,qB _ hq,e'⟩
inductive RelK (K:PySem.W.Frag)(ad:List Addr)(H:Hp):List (Str×D)->List (Key×V)->Prop
 |nil:RelK K ad H [] []
 |cons {x:Str} {d:D} {v:V} {fs:List (Str×D)} {vs:List (Key×V)}:Rel K ad H d v->RelK K ad H fs vs->RelK K ad H ((x,d)::fs) ((.inr x,v)::vs)
inductive Zh (K:PySem.W.Frag)(ad:List Addr)(H:Hp):List (List Key×D)->List (List Key×V)->Prop
 |nil:Zh K ad H [] []
 |cons {x:List Key} {d:D} {v:V} {fs:List (List Key×D)} {vs:List (List Key×V)}:Rel K ad H d v->Zh K ad H fs vs->Zh K ad H ((x,d)::fs) ((x,v)::vs)
theorem RelK.wr {K:PySem.W.Frag}{ad ad':List Addr}{H H':Hp}(w:Wr ad H ad' H'):∀ {fs:List (Str×D)} {vs:List (Key×V)},RelK K ad H fs vs->RelK K ad' H' fs vs
 |_,_,.nil=>.nil
 |_,_,.cons r t=>.cons (Rel.wr w r) (RelK.wr w t)
theorem Zh.wr {K:PySem.W.Frag}{ad ad':List Addr}{H H':Hp}(w:Wr ad H ad' H'):∀ {fs:List (List Key×D)} {vs:List (List Key×V)},Zh K ad H fs vs->Zh K ad' H' fs vs
 |_,_,.nil=>.nil
 |_,_,.cons r t=>.cons (Rel.wr w r) (Zh.wr w t)
def Vh (K:PySem.W.Frag)(ad:List Addr)(H:Hp)(a:Addr):Cell->Prop
 |.lst ds=>∃ vs,H a=some (.lst vs)/\zB K ad H ds vs
 |.ins c fs=>∃ C dx vs,H a=some (.ins C dx vs)/\Cls K C/\PySem.W.nsIn K mainGlobals c=some (some (.ref C))/\Za K ad H fs vs/\∀ q∈fs,YM K C q.1
 |.dk Z6=>∃ vs,H a=some (.dK vs)/\RelK K ad H Z6 vs
 |.dt Z6=>∃ vs,H a=some (.dT vs)/\Zh K ad H Z6 vs
class Bs where
 ad:List Addr
 H:Hp
structure zL [B:Bs](K:PySem.W.Frag)(ad:List Addr)(H:Hp)(S:Z5):Prop where
 wd:Wd B.ad B.H ad H
 len:ad.length=S.length
 nd:ad.Nodup
 cell:∀ (n:Nat) (a:Addr) (c:Cell),ad[n]?=some a->S[n]?=some c->Vh K ad H a c
structure YZ (K:PySem.W.Frag)(ad:List Addr)(H:Hp)(ρ:ZR)(Z:L2.St):Prop where
 len:ρ.length=Z.length
 val:∀ (i:Nat) (d:D),ρ[i]?=some (some d)->∃ v,Z[i]?=some (some v)/\Rel K ad H d v
theorem YZ.wd {K:PySem.W.Frag}{ad ad':List Addr}{H H':Hp}{ρ:ZR}{Z:L2.St}(h:YZ K ad H ρ Z)(w:Wd ad H ad' H'):YZ K ad' H' ρ Z :=
 ⟨h.len,fun i d e=>let ⟨v,e',r⟩:=h.val i d e;⟨v,e',r.wd w⟩⟩
variable [B:Bs]
section
variable {K:PySem.W.Frag}{ad:List Addr}{H:Hp}{S:Z5}
def zL.get (st:zL K ad H S){n:Nat}{c:Cell}(h:S[n]?=some c):∃ a,ad[n]?=some a/\Vh K ad H a c:=by
 have hn:n<ad.length:=by rw[st.len];exact My.VN h
 exact⟨ad[n],qc hn,st.cell n _ c (qc hn) h⟩
theorem Vh.some {a:Addr}{c:Cell}(h:Vh K ad H a c):∃ o,H a=some o:=by
 cases c with
 |lst ds=>obtain⟨vs,e,_⟩:=h;exact⟨_,e⟩
 |ins c fs=>obtain⟨C,dx,vs,e,_⟩:=h;exact⟨_,e⟩
 |dk Z6=>obtain⟨vs,e,_⟩:=h;exact⟨_,e⟩
 |dt Z6=>obtain⟨vs,e,_⟩:=h;exact⟨_,e⟩
def zL.there (st:zL K ad H S){a:Addr}(h:a∈ad):∃ o,H a=some o:=by
 obtain⟨n,hn,e⟩:=qS.mp h
 have e':ad[n]?=some a:=by rw[qc hn,e]
 have hs:n<S.length:=by rw[<- st.len];exact hn
 exact(st.cell n a S[n] e' (qc hs)).some
def zL.fresh (st:zL K ad H S){l:Addr}(h:H l=none):l∉ad:=fun m=>by
 obtain⟨o,e⟩:=st.there m
 rw[h]at e;cases e
theorem Vh.wr {ad':List Addr}{H':Hp}{a:Addr}{c:Cell}(h:Vh K ad H a c)(w:Wr ad H ad' H')(same:H' a=H a):Vh K ad' H' a c:=by
 cases c with
 |lst ds=>obtain⟨vs,e,r⟩:=h;exact⟨vs,same.trans e,zB.wr w r⟩
 |ins c fs=>obtain⟨C,dx,vs,e,c1,c2,r,n⟩:=h;exact⟨C,dx,vs,same.trans e,c1,c2,Za.wr w r,n⟩
 |dk Z6=>obtain⟨vs,e,r⟩:=h;exact⟨vs,same.trans e,RelK.wr w r⟩
 |dt Z6=>obtain⟨vs,e,r⟩:=h;exact⟨vs,same.trans e,Zh.wr w r⟩
def Vh.wd {ad':List Addr}{H':Hp}{a:Addr}{c:Cell}(h:Vh K ad H a c)(w:Wd ad H ad' H')(same:H' a=H a):Vh K ad' H' a c:=h.wr w.wr same
def Wd.laid {l:Addr}{o:HO}(h:H l=none):Wd ad H ad (upd H l o) :=
 ⟨qaU _,fun b u _ e=>Uq h e,fun b u e=>Uq h e,fun b u w e=>Uq h e,fun _ m n=>absurd m n⟩
def zL.bfree (st:zL K ad H S){p:Addr}(h:H p=none):B.H p=none:=by
 cases e:B.H p with
 |none=>rfl
 |some o =>
  by_cases m:p∈B.ad
  ·obtain⟨u,hu⟩:=st.there (st.wd.pre.subset m)
   rw[h]at hu;cases hu
  ·rw[st.wd.keep p o m e]at h;cases h
theorem zL.laid (st:zL K ad H S){l:Addr}{o:HO}(h:H l=none):zL K ad (upd H l o) S :=
 ⟨st.wd.trans (Wd.laid h),st.len,st.nd,fun n a c e1 e2=>(st.cell n a c e1 e2).wd (Wd.laid h) (by
  obtain⟨u,e⟩:=(st.cell n a c e1 e2).some
  rw[Uq h e,e])⟩
def Wd.newL (st:zL K ad H S){l:Addr}{o:HO}(h:H l=none):Wd ad H (ad++[l]) (upd H l o) :=
 ⟨qa1 _ _,fun b u _ e=>Uq h e,fun b u e=>Uq h e,fun b u w e=>Uq h e,fun b m n=>by
  rcases qJ.mp m with m|m
  ·exact absurd m n
  ·have:b=l:=by simpa using m
   subst this;exact h⟩
theorem zL.newL (st:zL K ad H S){l:Addr}{vs:List V}{ds:List D}(h:H l=none)(r:zB K ad H ds vs):zL K (ad++[l]) (upd H l (.lst vs)) (S++[.lst ds]) where
 wd:=st.wd.trans (Wd.newL st h)
 len:=by rw[qh,qh,st.len];rfl
 nd:=by
  rw[qa7]
  refine⟨st.nd,by simp,fun a ha b hb e=>?_⟩
  have:b=l:=by simpa using hb
  subst this;subst e
  exact st.fresh h ha
 cell:=fun n a c e1 e2=>by
  by_cases hn:n<ad.length
  ·rw[qk hn]at e1
   rw[qk (by rw[<- st.len];exact hn)]at e2
   have ok:=st.cell n a c e1 e2
   obtain⟨u,e⟩:=ok.some
   exact ok.wd (Wd.newL st h) (by rw[Uq h e,e])
  ·have hn':ad.length<=n:=P0 hn
   rw[qi hn']at e1
   rw[qi (by rw[<- st.len];exact hn'),<- st.len]at e2
   cases hk:n-ad.length with
   |zero =>
    rw[hk]at e1 e2
    have e1':l=a:=by simpa using e1
    have e2':Cell.lst ds=c:=by simpa using e2
    subst e1' e2'
    exact⟨vs,Xy,r.wd (Wd.newL st h)⟩
   |succ k=>rw[hk]at e1;simp at e1
def zL.newRef (st:zL K ad H S){l:Addr}{o:HO}:Rel K (ad++[l]) (upd H l o) (.ref S.length) (.ref l):=.ref (by rw[<- st.len,qi (qf _),V7];rfl)
def Wd.put {n:Nat}{a:Addr}{vs ws:List V}(e:ad[n]?=some a)(h:H a=some (.lst vs)):Wd ad H ad (upd H a (.lst ws)) :=
 ⟨qaU _,fun b u hb q=>by
   have:b≠a:=fun z=>hb (by rw[z];exact qe e)
   rw[zR this];exact q,
  fun b xs q=>by rw[zR (TF q h (by intro z;cases z))];exact q,fun b o u q=>by rw[zR (TF q h (by intro z;cases z))];exact q,fun _ m n=>absurd m n⟩
theorem zL.put (st:zL K ad H S){n:Nat}{a:Addr}{vs ws:List V}{ds:List D}(e:ad[n]?=some a)(h:H a=some (.lst vs))(r:zB K ad H ds ws):zL K ad (upd H a (.lst ws)) (S.set n (.lst ds)) where
 wd:=st.wd.trans (Wd.put e h)
 len:=by rw[T7];exact st.len
 nd:=st.nd
 cell:=fun m b c e1 e2=>by
  have w:=Wd.put (ws:=ws) e h
  by_cases hm:m=n
  ·subst hm
   rw[e]at e1;cases e1
   rw[qI (by rw[<- st.len];exact My.VN e)]at e2
   cases e2
   exact⟨ws,Xy,r.wd w⟩
  ·rw[qQ (Ne.symm hm)]at e2
   have ne:b≠a:=fun z=>by
    subst z
    have h1:=My.VN e1
    have h2:=My.VN e
    have q1:=(qR.mp e1).2
    have q2:=(qR.mp e).2
    exact hm ((qbw st.nd).mp (q1.trans q2.symm))
   exact(st.cell m b c e1 e2).wd w (zR ne)
def zL.newI (st:zL K ad H S){x dx C:Addr}{c:Str}(h:H x=none)(h2:H dx=none)(hne:dx≠x)(hc:Cls K C)(hn:PySem.W.nsIn K mainGlobals c=some (some (.ref C))) :
  Wd ad H (ad++[x]) (upd (upd H dx (.own x)) x (.ins C dx []))/\zL K (ad++[x]) (upd (upd H dx (.own x)) x (.ins C dx [])) (S++[.ins c []]):=by
 have st1:=st.laid (o:=.own x) h2
 have hx:upd H dx (.own x) x=none:=by rw[zR (Ne.symm hne)];exact h
 have w1:Wd ad H ad (upd H dx (.own x)):=Wd.laid h2
 have w2:Wd ad (upd H dx (.own x)) (ad++[x]) (upd (upd H dx (.own x)) x (.ins C dx [])):=Wd.newL st1 hx
 refine⟨w1.trans w2,st.wd.trans (w1.trans w2),?_,?_,fun n a c' e1 e2=>?_⟩
 ·rw[qh,qh,st.len];rfl
 ·rw[qa7]
  refine⟨st.nd,by simp,fun a ha b hb e=>?_⟩
  have:b=x:=by simpa using hb
  subst this;subst e
  exact st.fresh h ha
 ·by_cases hn':n<ad.length
  ·rw[qk hn']at e1
   rw[qk (by rw[<- st.len];exact hn')]at e2
   have ok:=st1.cell n a c' e1 e2
   obtain⟨u,e⟩:=ok.some
   exact ok.wd w2 (by rw[Uq hx e,e])
  ·have hn':ad.length<=n:=P0 hn'
   rw[qi hn']at e1
   rw[qi (by rw[<- st.len];exact hn'),<- st.len]at e2
   cases hk:n-ad.length with
   |zero =>
    rw[hk]at e1 e2
    have e1':x=a:=by simpa using e1
    have e2':Cell.ins c []=c':=by simpa using e2
    subst e1' e2'
    exact⟨C,dx,[],Xy,hc,hn,.nil,fun q hq=>by cases hq⟩
   |succ k=>rw[hk]at e1;simp at e1
def Wd.putI {n:Nat}{a C dx C' dx':Addr}{vs ws:List (Str×V)}(e:ad[n]?=some a)(h:H a=some (.ins C dx vs)):Wd ad H ad (upd H a (.ins C' dx' ws)) :=
 ⟨qaU _,fun b u hb q=>by
   have:b≠a:=fun z=>hb (by rw[z];exact qe e)
   rw[zR this];exact q,
  fun b xs q=>by rw[zR (TF q h (by intro z;cases z))];exact q,fun b o u q=>by rw[zR (TF q h (by intro z;cases z))];exact q,fun _ m n=>absurd m n⟩
theorem zL.putI (st:zL K ad H S){n:Nat}{a C dx:Addr}{c f:Str}{vs:List (Str×V)}{fs:List (Str×D)}{d:D}{v:V}(e:ad[n]?=some a)(h:H a=some (.ins C dx vs))(hc:Cls K C)(hn:PySem.W.nsIn K mainGlobals c=some (some (.ref C)))(rf:Za K ad H fs vs)(hna:∀ q∈fs,YM K C q.1)(hf:YM K C f)(r:Rel K ad H d v) :
  zL K ad (upd H a (.ins C dx (Yk f v vs))) (S.set n (.ins c (putD f d fs))) where
 wd:=st.wd.trans (Wd.putI e h)
 len:=by rw[T7];exact st.len
 nd:=st.nd
 cell:=fun m b c' e1 e2=>by
  have w:Wd ad H ad (upd H a (.ins C dx (Yk f v vs))):=Wd.putI e h
  by_cases hm:m=n
  ·subst hm
   rw[e]at e1;cases e1
   rw[qI (by rw[<- st.len];exact My.VN e)]at e2
   cases e2
   refine⟨C,dx,_,Xy,hc,hn,Za.wr w.wr (Za.put r rf),fun q hq=>?_⟩
   rcases zl9 hq with h1|h1
   ·rw[h1];exact hf
   ·exact hna q h1
  ·rw[qQ (Ne.symm hm)]at e2
   have ne:b≠a:=fun z=>by
    subst z
    have q1:=(qR.mp e1).2
    have q2:=(qR.mp e).2
    exact hm ((qbw st.nd).mp (q1.trans q2.symm))
   exact(st.cell m b c' e1 e2).wd w (zR ne)
def Wd.hid {ad':List Addr}{H':Hp}{p:Addr}{o:HO}(w:Wd ad H ad' H')(hp:H p=none):Wd ad H ad' (upd H' p o) :=
 ⟨w.pre,fun b u hb q=>by rw[zR (Td q hp)];exact w.keep b u hb q,fun b u q=>by rw[zR (Td q hp)];exact w.tup b u q,fun b u v q=>by rw[zR (Td q hp)];exact w.frz b u v q,w.new⟩
def Wr.hid {p:Addr}{vs ws:List V}(h:H p=some (.lst vs)):Wr ad H ad (upd H p (.lst ws)) :=
 ⟨qaU _,fun b xs q=>by rw[zR (TF q h (by intro z;cases z))];exact q,fun b o u q=>by rw[zR (TF q h (by intro z;cases z))];exact q⟩
theorem zL.hid (st:zL K ad H S){p:Addr}{vs ws:List V}(h:H p=some (.lst vs))(hp:p∉ad)(hb:B.H p=none):zL K ad (upd H p (.lst ws)) S :=
 ⟨st.wd.hid hb,st.len,st.nd,fun n a c e1 e2=>(st.cell n a c e1 e2).wr (Wr.hid h) (zR fun z=>hp (by rw[<- z];exact qe e1))⟩
def Wd.add {ad':List Addr}{H':Hp}{p:Addr}(w:Wd ad H ad' H')(hp:H p=none):Wd ad H (ad'++[p]) H' :=
 ⟨w.pre.trans (qa1 _ _),w.keep,w.tup,w.frz,fun b m n=>by
  rcases qJ.mp m with m|m
  ·exact w.new b m n
  ·have:b=p:=by simpa using m
   subst this;exact hp⟩
theorem zL.add (st:zL K ad H S){p:Addr}{vs:List V}{ds:List D}(h:H p=some (.lst vs))(hp:p∉ad)(r:zB K ad H ds vs)(hb:B.H p=none):zL K (ad++[p]) H (S++[.lst ds]) where
 wd:=st.wd.add hb
 len:=by rw[qh,qh,st.len];rfl
 nd:=by
  rw[qa7]
  refine⟨st.nd,by simp,fun a ha b hb e=>?_⟩
  have:b=p:=by simpa using hb
  subst this;subst e
  exact hp ha
 cell:=fun n a c e1 e2=>by
  have w:Wr ad H (ad++[p]) H:=⟨qa1 _ _,fun _ _ q=>q,fun _ _ _ q=>q⟩
  by_cases hn:n<ad.length
  ·rw[qk hn]at e1
   rw[qk (by rw[<- st.len];exact hn)]at e2
   exact(st.cell n a c e1 e2).wr w rfl
  ·have hn':ad.length<=n:=P0 hn
   rw[qi hn']at e1
   rw[qi (by rw[<- st.len];exact hn'),<- st.len]at e2
   cases hk:n-ad.length with
   |zero =>
    rw[hk]at e1 e2
    have e1':p=a:=by simpa using e1
    have e2':Cell.lst ds=c:=by simpa using e2
    subst e1' e2'
    exact⟨vs,h,zB.wr w r⟩
   |succ k=>rw[hk]at e1;simp at e1
theorem Lst.sq (st:zL K ad H S){x:D}{xs:List D}{v:V}(h:Lst S x xs)(r:Rel K ad H x v):∃ a vs,v=.ref a/\Zr K H a vs/\zB K ad H xs vs:=by
 rcases h with rfl|⟨n,rfl,h⟩
 ·cases r with
  |rl h r=>exact⟨_,_,rfl,h.sq,r⟩
 ·cases r with
  |ref e =>
   obtain⟨vs,e2,r⟩:=st.cell n _ _ e h
   exact⟨_,vs,rfl,Zr.of e2,r⟩
theorem V0.sq (st:zL K ad H S){x:D}{xs:List D}{v:V}(h:V0 S x xs)(r:Rel K ad H x v):∃ a vs,v=.ref a/\(Zr K H a vs\/ZK K H a vs)/\zB K ad H xs vs:=by
 rcases h with rfl|h
 ·cases r with
  |tup h r=>exact⟨_,_,rfl,.inr (ZK.of h),r⟩
 ·obtain⟨a,vs,e,s,r⟩:=Lst.sq st h r
  exact⟨a,vs,e,.inl s,r⟩
end
omit B in
def Zw {a b c d:Type}{p1 p2 p3 p4:a->b->c->d->Prop}{R:Prop}(h:∃ (x:a) (y:b) (z:c) (w:d),p1 x y z w/\p2 x y z w/\p3 x y z w/\p4 x y z w)(f:∀ (x:a) (y:b) (z:c) (w:d),p1 x y z w->p2 x y z w->p3 x y z w->p4 x y z w->R):R :=
 Exists.elim h fun x h=>Exists.elim h fun y h=>Exists.elim h fun z h=>Exists.elim h fun w h=>f x y z w h.1 h.2.1 h.2.2.1 h.2.2.2
def KK (K:PySem.W.Frag)(ad:List Addr)(H:Hp)(Q0:DK)(Q:VK):Prop:=∀ d S' v H' ad',Q0 d S'->Wd ad H ad' H'->zL K ad' H' S'->Rel K ad' H' d v->Q v H'
def KK.wd {K:PySem.W.Frag}{ad ad':List Addr}{H H':Hp}{Q0:DK}{Q:VK}(k:KK K ad H Q0 Q)(w:Wd ad H ad' H'):KK K ad' H' Q0 Q:=fun d S' v H' ad' q w'=>k d S' v H' ad' q (w.trans w')
def up (K:PySem.W.Frag)(t:DE):TE:=fun Z H Q=>∃ ad ρ S Q0,zL K ad H S/\YZ K ad H ρ Z/\t ρ S Q0/\KK K ad H Q0 Q
def upT (K:PySem.W.Frag)(t:DT):TT:=fun Z H Q=>∃ ad ρ S Q0,zL K ad H S/\YZ K ad H ρ Z/\t ρ S Q0/\∀ b S' H' ad',Q0 b S'->Wd ad H ad' H'->zL K ad' H' S'->Q b H'
def upA (K:PySem.W.Frag)(t:DA):TA:=fun Z H Q=>∃ ad ρ S Q0,zL K ad H S/\YZ K ad H ρ Z/\t ρ S Q0/\∀ ds S' vs H' ad',Q0 ds S'->Wd ad H ad' H'->zL K ad' H' S'->zB K ad' H' ds vs->Q vs H'
def zL.base {K:PySem.W.Frag}{ad:List Addr}{H:Hp}{S:Z5}(st:zL K ad H S):@zL ⟨ad,H⟩ K ad H S:=@zL.mk ⟨ad,H⟩ _ _ _ _ Wd.refl st.len st.nd st.cell
def zL.back {K:PySem.W.Frag}{ad ad':List Addr}{H H':Hp}{S S':Z5}(st:zL K ad H S)(st':@zL ⟨ad,H⟩ K ad' H' S'):zL K ad' H' S' :=
 ⟨st.wd.trans (@zL.wd ⟨ad,H⟩ _ _ _ _ st'),@zL.len ⟨ad,H⟩ _ _ _ _ st',@zL.nd ⟨ad,H⟩ _ _ _ _ st',@zL.cell ⟨ad,H⟩ _ _ _ _ st'⟩
def KK.base {K:PySem.W.Frag}{ad:List Addr}{H:Hp}{S:Z5}{Q0:DK}{Q:VK}(st:zL K ad H S)(k:KK K ad H Q0 Q):@KK ⟨ad,H⟩ K ad H Q0 Q:=fun d S' v H' ad' q w st' r=>k d S' v H' ad' q w (st.back st') r
def Z4 (K:PySem.W.Frag)(f:ZS):Sp:=fun vs H Q _=>∃ ad S ds Q0,@zL ⟨ad,H⟩ K ad H S/\zB K ad H ds vs/\f ds S Q0/\@KK ⟨ad,H⟩ K ad H Q0 Q
structure zi4 (K:PySem.W.Frag)(ad:List Addr)(H:Hp)(E0:zoo)(E:Ends):Prop where
 nx:∀ ρ S Z H' ad',E0.nx ρ S->Wd ad H ad' H'->zL K ad' H' S->YZ K ad' H' ρ Z->E.nx Z H'
 rt:KK K ad H E0.rt E.rt
 bk:∀ ρ S Z H' ad',E0.bk ρ S->Wd ad H ad' H'->zL K ad' H' S->YZ K ad' H' ρ Z->E.bk Z H'
 ct:∀ ρ S Z H' ad',E0.ct ρ S->Wd ad H ad' H'->zL K ad' H' S->YZ K ad' H' ρ Z->E.ct Z H'
theorem zi4.wd {K:PySem.W.Frag}{ad ad':List Addr}{H H':Hp}{E0:zoo}{E:Ends}(k:zi4 K ad H E0 E)(w:Wd ad H ad' H'):zi4 K ad' H' E0 E :=
 ⟨fun ρ S Z H' ad' q w'=>k.nx ρ S Z H' ad' q (w.trans w'),k.rt.wd w,fun ρ S Z H' ad' q w'=>k.bk ρ S Z H' ad' q (w.trans w'),fun ρ S Z H' ad' q w'=>k.ct ρ S Z H' ad' q (w.trans w')⟩
def upS (K:PySem.W.Frag)(t:DS):TS:=fun E Z H=>∃ ad ρ S E0,zL K ad H S/\YZ K ad H ρ Z/\t E0 ρ S/\zi4 K ad H E0 E
@[irreducible] def PD (X:Cx)(e:Expr)(t:DE):Prop:=PE X e (up X.K t)
@[irreducible] def WD (X:Cx)(e:Expr)(t:DT):Prop:=PT X e (upT X.K t)
@[irreducible] def Qp (X:Cx)(e:Expr)(t:DT):Prop:=PW X e (upT X.K t)
@[irreducible] def PAD (X:Cx)(es:List Expr)(t:DA):Prop:=PA X es (upA X.K t)
@[irreducible] def Xb (X:Cx)(st:Stmt)(t:DS):Prop:=PS X st (upS X.K t)
@[irreducible] def Vq (X:Cx)(st:List Stmt)(t:DS):Prop:=W4 X st (upS X.K t)
def ztC {X:Cx}{e:Expr}{t t':TE}(h:PE X e t)(m:∀ Z H Q,t' Z H Q->t Z H Q):PE X e t':=fun Z9 s Z H Q I q=>h Z9 s Z H Q I (m Z H Q q)
def zfM {X:Cx}{e:Expr}{t t':TT}(h:PT X e t)(m:∀ Z H Q,t' Z H Q->t Z H Q):PT X e t':=fun Z9 s Z H Q I q=>h Z9 s Z H Q I (m Z H Q q)
def zm9 {X:Cx}{e:Expr}{t t':TT}(h:PW X e t)(m:∀ Z H Q,t' Z H Q->t Z H Q):PW X e t':=fun wh Z9 s Z H Q I q=>h wh Z9 s Z H Q I (m Z H Q q)
def zm6 {X:Cx}{e:List Expr}{t t':TA}(h:PA X e t)(m:∀ Z H Q,t' Z H Q->t Z H Q):PA X e t':=fun pos Z9 s Z H Q I q=>h pos Z9 s Z H Q I (m Z H Q q)
def VD {X:Cx}{st:Stmt}{t t':TS}(h:PS X st t)(m:∀ D Z H,t' D Z H->t D Z H):PS X st t':=fun Z9 s Z H D I q=>h Z9 s Z H D I (m D Z H q)
def zlu {X:Cx}{st:List Stmt}{t t':TS}(h:W4 X st t)(m:∀ D Z H,t' D Z H->t D Z H):W4 X st t':=fun Z9 s Z H D I q=>h Z9 s Z H D I (m D Z H q)
section
variable {X:Cx}{a b c:Expr}{ta tb tc:DE}{pos:Pos}
def YG {e:Expr}{t:TE}{d:DE}(h:PE X e t)(m:∀ Z H Q,up X.K d Z H Q->t Z H Q):PD X e d:=by with_unfolding_all exact(ztC h m)
def zuO {e:Expr}{i:Nat}(h:PE X e (zuw i)):PD X e (Xh i):=by with_unfolding_all exact(YG h fun Z H Q ⟨ad,ρ,S,Q0,st,rh,⟨d,e,q⟩,k⟩=>by
 obtain⟨v,ev,r⟩:=rh.val i d e
 exact⟨v,ev,k d S v H ad q Wd.refl st r⟩)
def R3 {e:Expr}{v:V}{d:D}(h:PE X e (tC v))(r:∀ ad H,Rel X.K ad H d v):PD X e (dC d):=by with_unfolding_all exact(YG h fun Z H Q hh=>Zw hh fun ad ρ S Q0 st rh q k=>k d S v H ad q Wd.refl st (r _ _))
def zq {i j}:PD X (.Constant (.int i) j pos) (dC (.int i)):=by with_unfolding_all exact(R3 zlf fun _ _=>.int i)
def Rq {b j}:PD X (.Constant (.bool b) j pos) (dC (.bl b)):=by with_unfolding_all exact(R3 zyr fun _ _=>.bl b)
def WM {j}:PD X (.Constant .none j pos) (dC .non):=by with_unfolding_all exact(R3 zvj fun _ _=>.non)
def U8 {x j}:PD X (.Constant (.str x) j pos) (dC (.str x)):=by with_unfolding_all exact(R3 zuA fun _ _=>.str x)
def ziX {x:Str}{T:String}(hg:Gl X x)(hm:X.mg x=none)(hv:bootBuiltins x=some (.type T))(hn:x≠"__name__":=by decide)(hd:(x==("__debug__":Str))=false:=by decide):PD X (.Name x pos) (dC (.ty T)):=by with_unfolding_all exact(R3 (zym hg hm hv hn hd) fun _ _=>.ty T)
def zK {x:Str}{n:Int}(hg:Gl X x)(hm:∃ t,X.mg x=some (.int n t))(hd:(x==("__debug__":Str))=false:=by decide):PD X (.Name x pos) (dC (.int n)):=by with_unfolding_all exact(R3 (zuj hg hm hd) fun _ _=>.int n)
def ztF {x z:Str}(hg:Gl X x)(hm:∃ t,X.mg x=some (.str z t))(hd:(x==("__debug__":Str))=false:=by decide):PD X (.Name x pos) (dC (.str z)):=by with_unfolding_all exact(R3 (by obtain⟨t,hm⟩:=hm;exact zmS (v:=.str z) hg hm ⟨t,rfl⟩ hd) fun _ _=>.str z)
def Wi {i j:Int}{m n:Nat}{p1 p2:Pos}(c:Int)(h:i ^ j.toNat=c)(h0:0<=j/\j<=1000000/\i.natAbs<2 ^ 64):PD X (.BinOp (.Constant (.int i) m p1) .Pow (.Constant (.int j) n p2) pos) (dC (.int c)):=by with_unfolding_all exact(R3 (ztB c h h0) fun _ _=>.int c)
def OD (K:PySem.W.Frag)(r':Zc)(r:R2):Prop:=∀ ad H S x y v u Q0 Q,zL K ad H S->Rel K ad H x v->Rel K ad H y u->r' x y S Q0->KK K ad H Q0 Q->r v u H Q
def zho {K:PySem.W.Frag}{r':Zc}{r:R2}(o:OD K r' r){Z:L2.St}{H:Hp}{Q:VK}(h:up K (Z7 r' ta tb) Z H Q):tOp r (up K ta) (up K tb) Z H Q:=by
 obtain⟨ad,ρ,S,Q0,st,rh,q,k⟩:=h
 refine⟨ad,ρ,S,_,st,rh,q,fun x S1 v H1 ad1 q1 w1 st1 r1=>?_⟩
 refine⟨ad1,ρ,S1,_,st1,rh.wd w1,q1,fun y S2 u H2 ad2 q2 w2 st2 r2=>?_⟩
 exact o ad2 H2 S2 x y v u Q0 Q st2 (r1.wd w2) r2 q2 (k.wd (w1.trans w2))
def ziJ {op:Operator}{r':Zc}{r:R2}(ho:Zm X (binaryOp op) r)(o:OD X.K r' r)(ha:PD X a ta)(hb:PD X b tb):PD X (.BinOp a op b pos) (Z7 r' ta tb):=by with_unfolding_all exact(YG (zsy ho ha hb) fun _ _ _=>zho o)
def zok {K:PySem.W.Frag}{C C':Int->Int->Prop}{g:Int->Int->D}{g':Int->Int->V}(hc:∀ i j,C i j->C' i j)(hg:∀ ad H i j,Rel K ad H (g i j) (g' i j)):OD K (oI C g) (rI C' g'):=fun ad H S x y v u Q0 Q st rx ry ⟨i,j,ex,ey,c,q⟩ k=>by
 subst ex ey
 cases rx
 cases ry
 exact⟨i,j,rfl,rfl,hc i j c,k _ S _ H ad q Wd.refl st (hg ad H i j)⟩
def zji {K:PySem.W.Frag}{g:Int->Int->D}{g':Int->Int->V}(hg:∀ ad H i j,Rel K ad H (g i j) (g' i j)):OD K (oI0 g) (Tt g'):=fun ad H S x y v u Q0 Q st rx ry ⟨i,j,ex,ey,q⟩ k=>by
 subst ex ey
 cases rx
 cases ry
 exact⟨i,j,rfl,rfl,k _ S _ H ad q Wd.refl st (hg ad H i j)⟩
def zpi {i:Int}(h:i.natAbs<2 ^ 64):-(2 ^ 64)<i/\i<2 ^ 64:=⟨by lia,by lia⟩
def zwU (i j:Int):Prop:=YL i j
def zuo:Zm X (binaryOp .Mult) (rI zwU fun i j=>.int (i*j)):=opI fun i j _ _ _ _ _ hc q=>by
 rcases hc with h|h|h
 ·exact mul_int q (IntMulOk.of_bits (zja h.1) (zja h.2))
 ·exact mul_int q (znI.ok (.inl (zpi h)))
 ·exact mul_int q (znI.ok (.inr (zpi h)))
def zZ (ha:PD X a ta)(hb:PD X b tb):PD X (.BinOp a .Sub b pos) (Z7 Zq ta tb):=by with_unfolding_all exact(ziJ zuQ (zji fun _ _ i j=>.int (i-j)) ha hb)
def zwt {z:Str}{n:Int}(hz:z.length<=1000)(h0:-1000<=n)(h1:n<=1000):MulOk z n:=by
 refine⟨?_,fun _ _=>?_,fun h _=>?_⟩
 ·rw[decide_eq_false (by lia),decide_eq_false (by lia)];rfl
 ·have:(1000:Int)<=(2 ^ 63-1)/n\/n<1:=by
   rcases Qn n 1 with g|g
   ·exact .inr g
   ·exact .inl ((qby (by lia)).mpr (by lia))
  lia
 ·have:z.length*n.toNat<=1000*1000:=qbp hz (by lia)
  have hs:z.length*n.toNat<=sizeLine:=qY this (by decide)
  first
   |exact decide_eq_false (by lia)
   |(unfold tooLong;exact decide_eq_false (by lia))
   |simp[tooLong];lia
def ztq:Zm X (binaryOp .Mult) (fun x y H Q=>∃ z n,x=.str z/\y=.int n/\MulOk z n/\Q (.str (Txt.mul z n)) H):=by
 intro Z9 s Z H x y v u Q I rx ry h
 obtain⟨z,n,rfl,rfl,ok,q⟩:=h
 obtain⟨t,rfl⟩:=rx
 obtain⟨t',rfl⟩:=ry
 exact SB.mul ok fun t' k=>⟨.str (Txt.mul z n),H,I.tok _,⟨_,rfl⟩,q⟩
omit B in
def znd {i:Int}(h:Hg i):Builtin.Int.intBits i<=2 ^ 20:=by
 unfold Hg at h
 exact intBits_le h
omit B in
def ztV {i:Int}(h:Builtin.Int.intBits i<=2 ^ 20):Hg i:=by
 unfold Hg
 exact qD (natAbs_lt_pow_bits i) (Nat.pow_le_pow_right (by decide) h)
def ztZ:Zm X (binaryOp .Mult) (rI (fun i j=>Hg i/\Hg j) fun i j=>.int (i*j)):=opI fun i j _ _ _ _ _ hc q=>mul_int q (IntMulOk.of_bits (znd hc.1) (znd hc.2))
def Yn (ha:PD X a ta)(hb:PD X b tb):PD X (.BinOp a .Mult b pos) (Z7 Yt ta tb):=by with_unfolding_all exact(ziJ (zuo.or (ztq.or ztZ)) (fun ad H S x y v u Q0 Q st rx ry h k=>by
 rcases h with h|⟨z,n,rfl,rfl,hz,h0,h1,q⟩|h
 ·exact .inl (zok (fun _ _ h=>h) (fun _ _ i j=>.int (i*j)) ad H S x y v u Q0 Q st rx ry h k)
 ·cases rx
  cases ry
  exact .inr (.inl ⟨z,n,rfl,rfl,zwt hz h0 h1,k _ S _ H ad q Wd.refl st (.str _)⟩)
 ·exact .inr (.inr (zok (fun _ _ h=>h) (fun _ _ i j=>.int (i*j)) ad H S x y v u Q0 Q st rx ry h k))) ha hb)
def Yb (ha:PD X a ta)(hb:PD X b tb):PD X (.BinOp a .FloorDiv b pos) (Z7 oDiv ta tb):=by with_unfolding_all exact(ziJ zrg (zok (fun _ _ h=>h) fun _ _ i j=>.int (i.fdiv j)) ha hb)
def YX (ha:PD X a ta)(hb:PD X b tb):PD X (.BinOp a .Mod b pos) (Z7 oMod ta tb):=by with_unfolding_all exact(ziJ zsM (zok (fun _ _ h=>h) fun _ _ i j=>.int (i.fmod j)) ha hb)
def Uu {n:Nat}(h:n<=big):n<=sizeLine:=qY h (by decide)
def zjf {n:Nat}(h:n<big):n<sizeLine:=qD h (by decide)
def Qf {K:PySem.W.Frag}{ad:List Addr}{H:Hp}{S:Z5}{Q0:DK}{Q:VK}{ds:List D}{vs:List V}(st:zL K ad H S)(k:KK K ad H Q0 Q)(r:zB K ad H ds vs)(q:Q0 (.ref S.length) (S++[.lst ds]))(l:Addr)(h:H l=none):Q (.ref l) (upd H l (.lst vs)) :=
 k _ _ _ _ _ q (Wd.newL st h) (st.newL h r) st.newRef
def zje {K:PySem.W.Frag}{ad:List Addr}{H:Hp}{S:Z5}{Q0:DK}{Q:VK}{ds:List D}{vs:List V}(st:zL K ad H S)(k:KK K ad H Q0 Q)(r:zB K ad H ds vs)(q:Q0 (.tup ds) S)(l:Addr)(h:H l=none):Q (.ref l) (upd H l (.tup vs)) :=
 k _ _ _ _ _ q (Wd.laid h) (st.laid h) (.tup Xy (r.wd (Wd.laid h)))
def zT (ha:PD X a ta)(hb:PD X b tb):PD X (.BinOp a .Add b pos) (Z7 Zy ta tb):=by with_unfolding_all exact(ziJ (zv8.or ((zrQ rfl).or ((zs8 rfl).or zon))) (fun ad H S x y v u Q0 Q st rx ry h k=>by
  rcases h with⟨i,j,rfl,rfl,q⟩|⟨xs,ys,rfl,rfl,hz,q⟩|⟨xs,ys,hx,hy,hz,q⟩|⟨i,j,rfl,rfl,hz,q⟩
  ·cases rx
   cases ry
   exact .inl ⟨i,j,rfl,rfl,k _ S _ H ad q Wd.refl st (.int _)⟩
  ·cases rx with
   |tup h1 r1 =>
    cases ry with
    |tup h2 r2 =>
     have l1:=r1.length
     have l2:=r2.length
     refine .inr (.inl ⟨_,_,_,_,rfl,rfl,ZK.of h1,ZK.of h2,by rw[<- l1,<- l2];exact Uu hz,fun e=>?_,fun _ e=>?_,fun _ _ p hp=>zje st k (r1.append r2) q p hp⟩)
     ·have e':xs=[]:=RK.mp (by rw[l1,e];rfl)
      subst e'
      exact k _ S _ H ad q Wd.refl st (.tup h2 r2)
     ·have e':ys=[]:=RK.mp (by rw[l2,e];rfl)
      subst e'
      rw[qU]at q
      exact k _ S _ H ad q Wd.refl st (.tup h1 r1)
  ·obtain⟨a1,vs1,rfl,s1,r1⟩:=hx.sq st rx
   obtain⟨a2,vs2,rfl,s2,r2⟩:=hy.sq st ry
   exact .inr (.inr (.inl ⟨_,_,_,_,rfl,rfl,s1,s2,by rw[<- r1.length,<- r2.length];exact Uu hz,fun p hp=>Qf st k (r1.append r2) q p hp⟩))
  ·cases rx
   cases ry
   exact .inr (.inr (.inr ⟨i,j,rfl,rfl,Uu hz,k _ S _ H ad q Wd.refl st (.str _)⟩))) ha hb)
def XF (ha:PD X a ta):PD X (.UnaryOp .USub a pos) (Yp Yo ta):=by with_unfolding_all exact(YG (zw5 zwg ha) fun Z H Q hh=>Zw hh fun ad ρ S Q0 st rh q k=>by
 refine⟨ad,ρ,S,_,st,rh,q,fun x S1 v H1 ad1 q1 w1 st1 r1=>?_⟩
 obtain⟨i,rfl,q1⟩:=q1
 cases r1
 exact⟨i,rfl,k _ _ _ _ _ q1 w1 st1 (.int _)⟩)
def OC (X:Cx)(op:CmpOp)(r':Zc):Prop:=∃ r,Zm X (compareOp op) r/\OD X.K r' r
def X6:OC X .Lt oLt:=⟨_,zxQ,zji fun _ _ _ _=>.bl _⟩
def Vc:OC X .LtE oLe:=⟨_,zw1,zji fun _ _ _ _=>.bl _⟩
def W5:OC X .Gt Xj:=⟨_,zxm,zji fun _ _ _ _=>.bl _⟩
def zxj:OC X .GtE oGe:=⟨_,zwN,zji fun _ _ _ _=>.bl _⟩
mutual
def YT:D->PyData
 |.non=>.none
 |.bl b=>.bool b
 |.int i=>.int i
 |.str x=>.str x
 |.tup xs=>.tuple (Ze xs)
 |.ref _=>.none
 |.ty _=>.none
 |.rl _=>.none
 |.exn _=>.none
def Ze:List D->List PyData
 |[]=>[]
 |x::xs=>YT x::Ze xs
end
section
variable {Z9:List (Addr×Obj)}{Z:L2.St}{H:Hp}{s:Shared}{ad:List Addr}
def zdB (I:Inv X Z9 Z H s)(k:Nat)(h1:∀ d v u,fl k d=true->Rel X.K ad H d v->RelV v u->∃ as,Reads s.heap u (YT d) as):∀ ds vs us,ds.all (fl k)=true->zB X.K ad H ds vs->Vals vs us->∃ as,ReadsAll s.heap us (Ze ds) as:=by
 intro ds
 induction ds with
 |nil=>intro vs us _ r rv;cases r;cases rv;exact⟨_,.nil⟩
 |cons d ds ih =>
  intro vs us hf r rv
  rw[Va,qG]at hf
  cases r with
  |cons r t =>
   cases rv with
   |cons q qt =>
    obtain⟨as,ra⟩:=h1 d _ _ hf.1 r q
    obtain⟨bs,rb⟩:=ih _ _ hf.2 t qt
    exact⟨_,.cons ra rb⟩
def Ux (I:Inv X Z9 Z H s):∀ (k:Nat) (d:D) (v:V) (u:Value),fl k d=true->Rel X.K ad H d v->RelV v u->∃ as,Reads s.heap u (YT d) as:=by
 intro k
 induction k with
 |zero =>
  intro d v u hf r q
  cases r with
  |non=>cases q;exact⟨_,.none⟩
  |bl b=>cases q;exact⟨_,.bool b⟩
  |int i=>obtain⟨t,rfl⟩:=q;exact⟨_,.int i t⟩
  |str x=>obtain⟨t,rfl⟩:=q;exact⟨_,.str x t⟩
  |ty n=>cases hf
  |tup h r=>cases hf
  |rl h r=>cases hf
  |ref h=>cases hf
  |exn _ _ _=>cases hf
 |succ k ih =>
  intro d v u hf r q
  cases r with
  |non=>cases q;exact⟨_,.none⟩
  |bl b=>cases q;exact⟨_,.bool b⟩
  |int i=>obtain⟨t,rfl⟩:=q;exact⟨_,.int i t⟩
  |str x=>obtain⟨t,rfl⟩:=q;exact⟨_,.str x t⟩
  |ty n=>cases hf
  |tup h r =>
   cases q
   obtain⟨its,rv,ht,hz⟩:=I.tuple (ZK.of h)
   obtain⟨o,ho,hc,n,hd⟩:=ht
   obtain⟨as,ra⟩:=zdB I k ih _ _ _ hf r rv
   exact⟨_,.tuple ho hc hd (by simpa using ra)⟩
  |rl h r=>cases hf
  |ref h=>cases hf
  |exn _ _ _=>cases hf
end
def zeD:∀ (k:Nat) (d:D),fl k d=true->(YT d).canLay0=true/\(YT d).depth<=k:=by
 have all:∀ k,(∀ d,fl k d=true->(YT d).canLay0=true/\(YT d).depth<=k)->∀ ds:List D,ds.all (fl k)=true->PyData.canLayAll0 (Ze ds)=true/\PyData.depthAll (Ze ds)<=k:=by
  intro k h ds
  induction ds with
  |nil=>intro _;exact⟨rfl,qP _⟩
  |cons d ds ih =>
   intro hf
   rw[Va,qG]at hf
   obtain⟨a1,a2⟩:=h d hf.1
   obtain⟨b1,b2⟩:=ih hf.2
   refine⟨?_,?_⟩
   ·show(PyData.canLay0 (YT d)&&PyData.canLayAll0 (Ze ds))=true
    rw[a1,b1];rfl
   ·show max (PyData.depth (YT d)) (PyData.depthAll (Ze ds))<=k
    exact Nat.max_le.mpr ⟨a2,b2⟩
 intro k
 induction k with
 |zero =>
  intro d hf
  cases d with
  |non=>exact⟨rfl,qP _⟩
  |bl b=>exact⟨rfl,qP _⟩
  |int i=>exact⟨rfl,qP _⟩
  |str x=>exact⟨hf,qP _⟩
  |tup xs=>cases hf
  |ref n=>cases hf
  |exn _=>cases hf
  |ty n=>cases hf
  |rl xs=>cases hf
 |succ k ih =>
  intro d hf
  cases d with
  |non=>exact⟨rfl,qP _⟩
  |bl b=>exact⟨rfl,qP _⟩
  |int i=>exact⟨rfl,qP _⟩
  |str x=>exact⟨hf,qP _⟩
  |tup xs =>
   obtain⟨h1,h2⟩:=all k ih xs hf
   refine⟨h1,?_⟩
   show PyData.depthAll (Ze xs)+1<=k+1
   lia
  |ref n=>cases hf
  |exn _=>cases hf
  |ty n=>cases hf
  |rl xs=>cases hf
def zcH (k:Nat):∀ ds:List D,ds.all (fl k)=true->PyData.canLayAll0 (Ze ds)=true/\PyData.depthAll (Ze ds)<=k:=by
 intro ds
 induction ds with
 |nil=>intro _;exact⟨rfl,qP _⟩
 |cons d ds ih =>
  intro hf
  rw[Va,qG]at hf
  obtain⟨a1,a2⟩:=zeD k d hf.1
  obtain⟨b1,b2⟩:=ih hf.2
  refine⟨?_,?_⟩
  ·show(PyData.canLay0 (YT d)&&PyData.canLayAll0 (Ze ds))=true
   rw[a1,b1];rfl
  ·show max (PyData.depth (YT d)) (PyData.depthAll (Ze ds))<=k
   exact Nat.max_le.mpr ⟨a2,b2⟩
mutual
theorem ziL:∀ (k:Nat) (x y:D),fl k x=true->fl k y=true->PyData.eqv (YT x) (YT y)=eqv x y
  |k,.non,y,_,hy=>by cases y<;>first|rfl|(cases k<;>cases hy)
  |k,.bl a,y,_,hy=>by cases y<;>first|rfl|(cases k<;>cases hy)
  |k,.int i,y,_,hy=>by
    cases y with
    |int j=>show(i==j)=decide (i=j);rw[Bool.beq_eq_decide_eq]
    |ref n=>cases k<;>cases hy
    |exn n=>cases k<;>cases hy
    |ty n=>cases k<;>cases hy
    |rl n=>cases k<;>cases hy
    |_=>rfl
  |k,.str a,y,_,hy=>by cases y<;>first|rfl|(cases k<;>cases hy)
  |0,.tup xs,y,hx,_=>by cases hx
  |k+1,.tup xs,y,hx,hy=>by
    cases y with
    |tup ys=>exact zeZ k xs ys hx hy
    |ref n=>cases hy
    |ty n=>cases hy
    |rl n=>cases hy
    |_=>rfl
  |k,.ref n,y,hx,_=>by cases k<;>cases hx
  |k,.ty n,y,hx,_=>by cases k<;>cases hx
  |k,.rl n,y,hx,_=>by cases k<;>cases hx
  |k,.exn n,y,hx,_=>by cases k<;>cases hx
theorem zeZ:∀ (k:Nat) (xs ys:List D),xs.all (fl k)=true->ys.all (fl k)=true->PyData.eqvAll (Ze xs) (Ze ys)=eqvAll xs ys
  |k,[],[],_,_=>rfl
  |k,[],y::ys,_,_=>rfl
  |k,x::xs,[],_,_=>rfl
  |k,x::xs,y::ys,hx,hy=>by
    rw[Va,qG]at hx hy
    show(PyData.eqv (YT x) (YT y)&&PyData.eqvAll (Ze xs) (Ze ys))=(eqv x y&&eqvAll xs ys)
    rw[ziL k x y hx.1 hy.1,zeZ k xs ys hx.2 hy.2]
end
def V2 (xss:List (List D)):List PyData:=xss.map fun zs=>.list (Ze zs)
theorem zlw:∀ xss:List (List D),Sx xss=true->PyData.canLayAll0 (V2 xss)=true/\PyData.depthAll (V2 xss)<=21
 |[],_=>⟨rfl,qP _⟩
 |zs::xss,h=>by
  unfold Sx at h
  rw[Va,qG]at h
  obtain⟨a1,a2⟩:=zcH 20 zs h.1
  obtain⟨b1,b2⟩:=zlw xss h.2
  refine⟨?_,?_⟩
  ·show(PyData.canLayAll0 (Ze zs)&&PyData.canLayAll0 (V2 xss))=true
   rw[a1,b1];rfl
  ·show max (PyData.depthAll (Ze zs)+1) (PyData.depthAll (V2 xss))<=21
   exact Nat.max_le.mpr ⟨by lia,b2⟩
theorem zqf:∀ xss yss:List (List D),Sx xss=true->Sx yss=true->PyData.eqvAll (V2 xss) (V2 yss)=eqvAll (xss.map D.tup) (yss.map D.tup)
 |[],[],_,_=>rfl
 |[],_::_,_,_=>rfl
 |_::_,[],_,_=>rfl
 |zs::xss,ws::yss,h,k=>by
  unfold Sx at h k
  rw[Va,qG]at h k
  show(PyData.eqvAll (Ze zs) (Ze ws)&&PyData.eqvAll (V2 xss) (V2 yss))=(eqvAll zs ws&&eqvAll (xss.map D.tup) (yss.map D.tup))
  rw[zeZ 20 zs ws h.1 k.1,zqf xss yss h.2 k.2]
theorem zia {Z9:List (Addr×Obj)}{Z:L2.St}{H:Hp}{s:Shared}{ad:List Addr}{S:Z5}(I:Inv X Z9 Z H s)(st:zL X.K ad H S):∀ (xs:List D) (xss:List (List D)) (vs:List V) (us:List Value),zi6 S xs xss->Sx xss=true->zB X.K ad H xs vs->Vals vs us->∃ as,ReadsAll s.heap us (V2 xss) as
 |[],[],_,_,_,_,r,rv=>by cases r;cases rv;exact⟨_,.nil⟩
 |[],_::_,_,_,h,_,_,_=>h.elim
 |_::_,[],_,_,h,_,_,_=>h.elim
 |x::xs,zs::xss,_,_,h,f,r,rv=>by
  unfold Sx at f
  rw[Va,qG]at f
  cases r with
  |cons r t =>
   obtain⟨a1,vs1,rfl,s1,r1⟩:=h.1.sq st r
   cases rv with
   |cons q qt =>
    cases q
    obtain⟨its,rv1,ht,hz⟩:=I.list s1
    obtain⟨o,ho,hc,n,hd⟩:=ht.isList
    obtain⟨as,ra⟩:=zdB I 20 (Ux I 20) _ _ _ f.1 r1 rv1
    obtain⟨bs,rb⟩:=zia I st xs xss _ _ h.2 f.2 t qt
    exact⟨_,.cons (.list ho hc hd (by simpa using ra)) rb⟩
def zvs (X:Cx)(g:Bool->Bool):R2:=fun x y H Q=>∃ ad S dx dy b,zL X.K ad H S/\Rel X.K ad H dx x/\Rel X.K ad H dy y/\EqD S dx dy b/\Q (.bl (g b)) H
def zkp {Z9:List (Addr×Obj)}{Z:L2.St}{H:Hp}{s:Shared}{ad:List Addr}{S:Z5}{dx dy:D}{x y:V}{v u:Value}{b:Bool}(I:Inv X Z9 Z H s)(st:zL X.K ad H S)(rx:Rel X.K ad H dx x)(ry:Rel X.K ad H dy y)(qx:RelV x v)(qy:RelV y u)(h:EqD S dx dy b) :
  ∃ px py as bs,Reads s.heap v px as/\Reads s.heap u py bs/\px.canLay0=true/\py.canLay0=true/\min px.depth py.depth<=60/\PyData.eqv px py=b:=by
 rcases h with⟨fx,fy,rfl⟩|⟨xs,ys,hx,hy,fx,fy,rfl⟩|⟨xs,ys,xss,yss,hx,hy,lx,ly,fx,fy,rfl⟩
 ·obtain⟨as,ra⟩:=Ux I 20 dx x v fx rx qx
  obtain⟨bs,rb⟩:=Ux I 20 dy y u fy ry qy
  obtain⟨c1,d1⟩:=zeD 20 dx fx
  obtain⟨c2,d2⟩:=zeD 20 dy fy
  exact⟨_,_,as,bs,ra,rb,c1,c2,by lia,ziL 20 dx dy fx fy⟩
 ·obtain⟨a1,vs1,rfl,s1,r1⟩:=hx.sq st rx
  obtain⟨a2,vs2,rfl,s2,r2⟩:=hy.sq st ry
  cases qx
  cases qy
  obtain⟨its,rv,ht,hz⟩:=I.list s1
  obtain⟨its2,rv2,ht2,hz2⟩:=I.list s2
  obtain⟨o,ho,hc,n,hd⟩:=ht.isList
  obtain⟨o2,ho2,hc2,n2,hd2⟩:=ht2.isList
  obtain⟨as,ra⟩:=zdB I 20 (Ux I 20) _ _ _ fx r1 rv
  obtain⟨bs,rb⟩:=zdB I 20 (Ux I 20) _ _ _ fy r2 rv2
  obtain⟨c1,d1⟩:=zcH 20 xs fx
  obtain⟨c2,d2⟩:=zcH 20 ys fy
  refine⟨.list (Ze xs),.list (Ze ys),_,_,.list ho hc hd (by simpa using ra),.list ho2 hc2 hd2 (by simpa using rb),c1,c2,?_,zeZ 20 xs ys fx fy⟩
  show min (PyData.depthAll (Ze xs)+1) (PyData.depthAll (Ze ys)+1)<=60
  lia
 ·obtain⟨a1,vs1,rfl,s1,r1⟩:=hx.sq st rx
  obtain⟨a2,vs2,rfl,s2,r2⟩:=hy.sq st ry
  cases qx
  cases qy
  obtain⟨its,rv,ht,hz⟩:=I.list s1
  obtain⟨its2,rv2,ht2,hz2⟩:=I.list s2
  obtain⟨o,ho,hc,n,hd⟩:=ht.isList
  obtain⟨o2,ho2,hc2,n2,hd2⟩:=ht2.isList
  obtain⟨as,ra⟩:=zia I st xs xss _ _ lx fx r1 rv
  obtain⟨bs,rb⟩:=zia I st ys yss _ _ ly fy r2 rv2
  obtain⟨c1,d1⟩:=zlw xss fx
  obtain⟨c2,d2⟩:=zlw yss fy
  refine⟨.list (V2 xss),.list (V2 yss),_,_,.list ho hc hd (by simpa using ra),.list ho2 hc2 hd2 (by simpa using rb),c1,c2,?_,zqf xss yss fx fy⟩
  show min (PyData.depthAll (V2 xss)+1) (PyData.depthAll (V2 yss)+1)<=60
  lia
def Wq {k:Nat}(hr:Zk k X.A):OC X .Eq oEq:=⟨zvs X id,fun Z9 s Z H x y v u Q I qx qy ⟨ad,S,dx,dy,b,st,rx,ry,h,q⟩=>by
  obtain⟨px,py,as,bs,ra,rb,c1,c2,hd,e⟩:=zkp I st rx ry qx qy h
  have hu:=hr.units
  exact PySem.SeqAt.rcAt_reads ra rb c1 c2 (by lia) X.prog X.w X.xe _ ⟨.bl _,H,I,by rw[e];rfl,q⟩,
 fun ad H S x y v u Q0 Q st rx ry ⟨b,h,q⟩ k=>⟨ad,S,x,y,b,st,rx,ry,h,k _ S _ H ad q Wd.refl st (.bl _)⟩⟩
def Sd {k:Nat}(hr:Zk k X.A):OC X .NotEq Wj:=⟨zvs X (!·),fun Z9 s Z H x y v u Q I qx qy ⟨ad,S,dx,dy,b,st,rx,ry,h,q⟩=>by
  obtain⟨px,py,as,bs,ra,rb,c1,c2,hd,e⟩:=zkp I st rx ry qx qy h
  have hu:=hr.units
  exact PySem.SeqAt.rcNeAt_reads ra rb c1 c2 (by lia) X.prog X.w X.xe _ ⟨.bl _,H,I,by rw[e];rfl,q⟩,
 fun ad H S x y v u Q0 Q st rx ry ⟨b,h,q⟩ k=>⟨ad,S,x,y,b,st,rx,ry,h,k _ S _ H ad q Wd.refl st (.bl _)⟩⟩
def zj5 {K:PySem.W.Frag}{ad:List Addr}{H:Hp}{d:D}{v:V}(r:Rel K ad H d v):decide (v=.non)=ziC d:=by
  cases r<;>rfl
def zwv:Zm X (compareOp .Is) (rB0 fun i j=>.bl (i==j)):=fun Z9 s Z H x y v u Q I rx ry ⟨i,j,ex,ey,q⟩=>by
 subst ex ey
 cases rx
 cases ry
 exact is_bool ⟨.bl _,H,I,rfl,q⟩
def zsS:Zm X (compareOp .IsNot) (rB0 fun i j=>.bl (!(i==j))):=fun Z9 s Z H x y v u Q I rx ry ⟨i,j,ex,ey,q⟩=>by
 subst ex ey
 cases rx
 cases ry
 exact isnot_bool ⟨.bl _,H,I,rfl,q⟩
def zsu:OC X .Is oIs:=⟨_,zxA.or zwv,fun ad H S x y v u Q0 Q st rx ry h k=>by
 rcases h with⟨rfl,q⟩|⟨a,b,rfl,rfl,q⟩
 ·cases ry
  exact .inl ⟨rfl,by rw[zj5 rx];exact k _ S _ H ad q Wd.refl st (.bl _)⟩
 ·cases rx
  cases ry
  exact .inr ⟨a,b,rfl,rfl,k _ S _ H ad q Wd.refl st (.bl _)⟩⟩
def Qg:OC X .IsNot U5:=⟨_,zwf.or zsS,fun ad H S x y v u Q0 Q st rx ry h k=>by
 rcases h with⟨rfl,q⟩|⟨a,b,rfl,rfl,q⟩
 ·cases ry
  exact .inl ⟨rfl,by rw[zj5 rx];exact k _ S _ H ad q Wd.refl st (.bl _)⟩
 ·cases rx
  cases ry
  exact .inr ⟨a,b,rfl,rfl,k _ S _ H ad q Wd.refl st (.bl _)⟩⟩
def QC {op:CmpOp}{r':Zc}(o:OC X op r')(ha:PD X a ta)(hb:PD X b tb)(h:op≠.In:=by decide)(h2:op≠.NotIn:=by decide):PD X (.Compare a [op] [b] pos) (Z7 r' ta tb):=by
 with_unfolding_all
  obtain⟨r,ho,od⟩:=o
  exact YG (zmK ho ha hb (zoR _ h h2)) fun _ _ _=>zho od
def zG {op:CmpOp}{r':Zc}(o:OC X op r')(ha:PD X a ta)(hb:PD X b tb)(h:op≠.In:=by decide)(h2:op≠.NotIn:=by decide):WD X (.Compare a [op] [b] pos) (dT (Z7 r' ta tb)):=by
 with_unfolding_all
  obtain⟨r,ho,od⟩:=o
  refine zfM (zmV ho ha hb (zoR _ h h2)) fun Z H Q hh=>Zw hh fun ad ρ S Q0 st rh q k=>?_
  refine zho (Q:=fun x H'=>∃ k,x=.bl k/\Q k H') od ⟨ad,ρ,S,_,st,rh,q,fun d S' v H' ad' ⟨b,e,q'⟩ w st' r=>?_⟩
  subst e
  cases r
  exact⟨b,rfl,k b S' H' ad' q' w st'⟩
def zqA {K:PySem.W.Frag}{r1' r2':Zc}{r1 r2:R2}(o1:OD K r1' r1)(o2:OD K r2' r2){Z:L2.St}{H:Hp}{Q:VK}(h:up K (ziS r1' r2' ta tb tc) Z H Q):zpa r1 r2 (up K ta) (up K tb) (up K tc) Z H Q:=by
 obtain⟨ad,ρ,S,Q0,st,rh,q,k⟩:=h
 refine⟨ad,ρ,S,_,st,rh,q,fun x S1 v H1 ad1 q1 w1 st1 rx=>?_⟩
 refine⟨ad1,ρ,S1,_,st1,rh.wd w1,q1,fun y S2 u H2 ad2 q2 w2 st2 ry=>?_⟩
 refine o1 ad2 H2 S2 x y v u _ _ st2 (rx.wd w2) ry q2 fun z S3 z' H3 ad3 ⟨c,e,q3⟩ w3 st3 rz=>?_
 subst e
 cases rz
 refine⟨c,rfl,?_⟩
 cases c with
 |true =>
  rw[if_pos rfl]at q3 ⊢
  refine⟨ad3,ρ,S3,_,st3,rh.wd ((w1.trans w2).trans w3),q3,fun z S4 z' H4 ad4 q4 w4 st4 rz=>?_⟩
  exact o2 ad4 H4 S4 y z u z' Q0 Q st4 (ry.wd (w3.trans w4)) rz q4 (k.wd (((w1.trans w2).trans w3).trans w4))
 |false =>
  rw[if_neg qp]at q3 ⊢
  exact k _ S3 _ H3 ad3 q3 ((w1.trans w2).trans w3) st3 (.bl _)
def Vz {e:Expr}{t:DE}(h:PD X e t)(he:∀ whole,isTrue e X.env whole=(do let v <- whole;standAt e.pos;holding [v] (truthy v)):=by intro _;rfl):WD X e (dT t):=by with_unfolding_all exact(zfM (zwl h he) fun Z H Q hh=>Zw hh fun ad ρ S Q0 st rh q k =>
 ⟨ad,ρ,S,_,st,rh,q,fun d S' v H' ad' ⟨b,e,q'⟩ w st' r=>by
  subst e
  cases r
  exact⟨b,rfl,k b S' H' ad' q' w st'⟩⟩)
def zpx {op op':CmpOp}{r1 r2:Zc}(o1:OC X op r1)(o2:OC X op' r2)(ha:PD X a ta)(hb:PD X b tb)(hc:PD X c tc)(hm:lastMarks [op,op'] [b,c]=false:=by with_unfolding_all rfl):WD X (.Compare a [op,op'] [b,c] pos) (dT (ziS r1 r2 ta tb tc)):=by
 with_unfolding_all
  obtain⟨s1,h1,d1⟩:=o1
  obtain⟨s2,h2,d2⟩:=o2
  refine zfM (zrW h1 h2 ha hb hc hm) fun Z H Q hh=>Zw hh fun ad ρ S Q0 st rh q k=>?_
  refine zqA (Q:=fun x H'=>∃ k,x=.bl k/\Q k H') d1 d2 ⟨ad,ρ,S,_,st,rh,q,fun d S' v H' ad' ⟨b,e,q'⟩ w st' r=>?_⟩
  subst e
  cases r
  exact⟨b,rfl,k b S' H' ad' q' w st'⟩
variable {tA tB':DT}{rest:List Expr}
def SN (h:WD X a tA):WD X (.UnaryOp .Not a pos) (U3 tA):=by with_unfolding_all exact(zfM (zuT h) fun Z H Q hh=>Zw hh fun ad ρ S Q0 st rh q k=>⟨ad,ρ,S,_,st,rh,q,fun b S' H' ad' q' w st'=>k _ S' H' ad' q' w st'⟩)
theorem WL {e:Expr}{t:DT}(h:Qp X e t):WD X e t:=by with_unfolding_all exact(h _)
def Rg (ha:WD X a tA):Qp X (.BoolOp .And [a] pos) tA:=by with_unfolding_all exact(zsN ha)
def Q8 (ha:WD X a tA):Qp X (.BoolOp .Or [a] pos) tA:=by with_unfolding_all exact(zvi ha)
def Ub (ha:WD X a tA)(hb:Qp X (.BoolOp .And (b::rest) pos) tB'):Qp X (.BoolOp .And (a::b::rest) pos) (Vk tA tB'):=by with_unfolding_all exact(zm9 (zwn ha hb) fun Z H Q hh=>Zw hh fun ad ρ S Q0 st rh q k =>
 ⟨ad,ρ,S,_,st,rh,q,fun b S' H' ad' q' w st'=>by
  cases b with
  |true=>rw[if_pos rfl]at q' ⊢;exact⟨ad',ρ,S',Q0,st',rh.wd w,q',fun b S' H' ad' q w'=>k b S' H' ad' q (w.trans w')⟩
  |false=>rw[if_neg qp]at q' ⊢;exact k _ S' H' ad' q' w st'⟩)
def Sh (ha:WD X a tA)(hb:Qp X (.BoolOp .Or (b::rest) pos) tB'):Qp X (.BoolOp .Or (a::b::rest) pos) (UL tA tB'):=by with_unfolding_all exact(zm9 (zxN ha hb) fun Z H Q hh=>Zw hh fun ad ρ S Q0 st rh q k =>
 ⟨ad,ρ,S,_,st,rh,q,fun b S' H' ad' q' w st'=>by
  cases b with
  |false=>rw[if_neg qp]at q' ⊢;exact⟨ad',ρ,S',Q0,st',rh.wd w,q',fun b S' H' ad' q w'=>k b S' H' ad' q (w.trans w')⟩
  |true=>rw[if_pos rfl]at q' ⊢;exact k _ S' H' ad' q' w st'⟩)
def zi1 {op}{t:DE}(h:PD X a t):PD X (.BoolOp op [a] pos) t:=by with_unfolding_all exact(zvJ h)
def zhp (ha:PD X a ta)(hb:PD X (.BoolOp .And (b::rest) pos) tb):PD X (.BoolOp .And (a::b::rest) pos) (zhq ta tb):=by with_unfolding_all exact(YG (zvu ha hb) fun Z H Q hh=>Zw hh fun ad ρ S Q0 st rh q k =>
 ⟨ad,ρ,S,_,st,rh,q,fun d S' v H' ad' ⟨c,e,q'⟩ w st' r=>by
  subst e
  cases r
  refine⟨c,rfl,?_⟩
  cases c with
  |true=>rw[if_pos rfl]at q' ⊢;exact⟨ad',ρ,S',Q0,st',rh.wd w,q',k.wd w⟩
  |false=>rw[if_neg qp]at q' ⊢;exact k _ S' _ H' ad' q' w st' (.bl _)⟩)
def zuq (ha:PD X a ta)(hb:PD X (.BoolOp .Or (b::rest) pos) tb):PD X (.BoolOp .Or (a::b::rest) pos) (zre ta tb):=by with_unfolding_all exact(YG (zxs ha hb) fun Z H Q hh=>Zw hh fun ad ρ S Q0 st rh q k =>
 ⟨ad,ρ,S,_,st,rh,q,fun d S' v H' ad' ⟨c,e,q'⟩ w st' r=>by
  subst e
  cases r
  refine⟨c,rfl,?_⟩
  cases c with
  |false=>rw[if_neg qp]at q' ⊢;exact⟨ad',ρ,S',Q0,st',rh.wd w,q',k.wd w⟩
  |true=>rw[if_pos rfl]at q' ⊢;exact k _ S' _ H' ad' q' w st' (.bl _)⟩)
def zhy (ha:PD X a ta):PD X (.UnaryOp .Not a pos) (zhw ta):=by with_unfolding_all exact(YG (zuy ha) fun Z H Q hh=>Zw hh fun ad ρ S Q0 st rh q k =>
 ⟨ad,ρ,S,_,st,rh,q,fun d S' v H' ad' ⟨c,e,q'⟩ w st' r=>by
  subst e
  cases r
  exact⟨c,rfl,k _ S' _ H' ad' q' w st' (.bl _)⟩⟩)
def zfF (hc:WD X c tA)(ha:PD X a ta)(hb:PD X b tb):PD X (.IfExp c a b pos) (RD tA ta tb):=by with_unfolding_all exact(YG (zrf hc ha hb) fun Z H Q hh=>Zw hh fun ad ρ S Q0 st rh q k =>
 ⟨ad,ρ,S,_,st,rh,q,fun b S' H' ad' q' w st'=>by
  cases b with
  |true=>rw[if_pos rfl]at q' ⊢;exact⟨ad',ρ,S',Q0,st',rh.wd w,q',k.wd w⟩
  |false=>rw[if_neg qp]at q' ⊢;exact⟨ad',ρ,S',Q0,st',rh.wd w,q',k.wd w⟩⟩)
end
section
variable {X:Cx}{a b e:Expr}{es:List Expr}{ta tb te:DE}{t:DA}{pos:Pos}
def zm:PAD X [] zF:=by with_unfolding_all exact(zm6 zuG fun Z H Q hh=>Zw hh fun ad ρ S Q0 st rh q k=>k [] S [] H ad q Wd.refl st .nil)
def zc (ha:PD X e te)(hr:PAD X es t)(hs:starEach (e::es) X.env=(false,eval e X.env)::starEach es X.env:=by exact Ur rfl):PAD X (e::es) (zf te t):=by with_unfolding_all exact(zm6 (zun ha hr hs) fun Z H Q hh=>Zw hh fun ad ρ S Q0 st rh q k =>
 ⟨ad,ρ,S,_,st,rh,q,fun d S1 v H1 ad1 q1 w1 st1 r1=>⟨ad1,ρ,S1,_,st1,rh.wd w1,q1,fun ds S2 vs H2 ad2 q2 w2 st2 r2=>k _ S2 _ H2 ad2 q2 (w1.trans w2) st2 (.cons (r1.wd w2) r2)⟩⟩)
def zX {x1}(h:PAD X es t):PD X (.Tuple es x1 pos) (dTup t):=by with_unfolding_all exact(YG (zvP h) fun Z H Q hh=>Zw hh fun ad ρ S Q0 st rh q k =>
 ⟨ad,ρ,S,_,st,rh,q,fun ds S1 vs H1 ad1 ⟨hz,q1⟩ w1 st1 r1=>⟨by rw[<- r1.length];exact Uu hz,fun p hp=>zje st1 (k.wd w1) r1 q1 p hp⟩⟩)
def W9 (h:PAD X es t):PD X (.List es pos) (Xx t):=by with_unfolding_all exact(YG (zuF h) fun Z H Q hh=>Zw hh fun ad ρ S Q0 st rh q k =>
 ⟨ad,ρ,S,_,st,rh,q,fun ds S1 vs H1 ad1 ⟨hz,q1⟩ w1 st1 r1=>⟨by rw[<- r1.length];exact Uu hz,fun p hp=>Qf st1 (k.wd w1) r1 q1 p hp⟩⟩)
def zvD {xs:List D}{i:Int}{d:D}(h:Y9 xs i=some d){K:PySem.W.Frag}{ad:List Addr}{H:Hp}{vs:List V}(r:zB K ad H xs vs):∃ v,Pr vs i=some v/\Rel K ad H d v:=by
 have e:O5 vs.length i=X3 xs.length i:=by rw[r.length];rfl
 unfold Y9 at h
 unfold Pr
 rw[e]
 cases q:X3 xs.length i with
 |none=>rw[q]at h;cases h
 |some j =>
  rw[q]at h
  exact r.get h
def zu (ha:PD X a ta)(hb:PD X b tb)(hs:zm2 b:=by intro _ _;rfl):PD X (.Subscript a b pos) (Z7 ZW ta tb):=by with_unfolding_all exact(YG (zxl (ztg.or (zuH.or zuC)) ha hb hs) fun _ _ _=>zho fun ad H S x y v u Q0 Q st rx ry h k=>by
 rcases h with⟨i,xs,d,ey,hx,e,q⟩|⟨z,i,c,rfl,rfl,hz,e,q⟩
 case inr =>
  cases rx
  cases ry
  exact .inr (.inr ⟨z,i,c,rfl,rfl,Uu hz,e,k _ S _ H ad q Wd.refl st (.str _)⟩)
 subst ey
 cases ry
 obtain⟨p,vs,rfl,hs,r⟩:=hx.sq st rx
 obtain⟨z,ez,rz⟩:=zvD e r
 rcases hs with hs|hs
 ·exact .inl ⟨p,vs,i,z,rfl,rfl,hs,ez,k _ S _ H ad q Wd.refl st rz⟩
 ·exact .inr (.inl ⟨p,vs,i,z,rfl,rfl,hs,ez,k _ S _ H ad q Wd.refl st rz⟩))
def upO (K:PySem.W.Frag)(t:Option DE):TO:=fun Z H Q=>∃ ad ρ S Q0,zL K ad H S/\YZ K ad H ρ Z/\Qx t ρ S Q0/\∀ o S' H' ad',Q0 o S'->Wd ad H ad' H'->zL K ad' H' S'->Q o H'
def zfG:PO X none (upO X.K none):=fun Z9 s Z H Q I hh=>Zw hh fun ad ρ S Q0 st rh q k=>zsJ Z9 s Z H Q I (k none S H ad q Wd.refl st)
def zfD {t:DE}(h:PD X e t):PO X (some e) (upO X.K (some t)):=by with_unfolding_all exact(fun Z9 s Z H Q I hh=>Zw hh fun ad ρ S Q0 st rh q k=>zue h Z9 s Z H Q I ⟨ad,ρ,S,_,st,rh,q,fun d S' v H' ad' ⟨i,e,q'⟩ w st' r=>by
 subst e
 cases r
 exact⟨i,rfl,k _ S' H' ad' q' w st'⟩⟩)
def zna {K:PySem.W.Frag}{ad:List Addr}{H:Hp}{xs:List D}{vs:List V}(lo hi:Option Int)(r:zB K ad H xs vs):zB K ad H (cutD xs lo hi) (Tw vs lo hi):=by
  have e1:HT.sIx vs.length 0 lo=W0 xs.length 0 lo:=by
    rw[r.length];cases lo with
    |none=>rfl
    |some k=>show HT.sIx _ _ (some k)=_;unfold HT.sIx W0;first|rfl|(simp only[];split<;>lia)
  have e2:HT.sIx vs.length vs.length hi=W0 xs.length xs.length hi:=by
    rw[r.length];cases hi with
    |none=>rfl
    |some k=>show HT.sIx _ _ (some k)=_;unfold HT.sIx W0;first|rfl|(simp only[];split<;>lia)
  unfold cutD Tw
  rw[e1,e2]
  exact(r.drop _).take _
def zx7 (K:PySem.W.Frag):V->Option Int->Option Int->Hp->VK->Prop:=fun x lo hi H Q=>∃ a xs,x=.ref a/\ZK K H a xs /\
 ((HT.sIx xs.length 0 lo=0/\HT.sIx xs.length xs.length hi=xs.length)->Q (.ref a) H)/\(¬ (HT.sIx xs.length 0 lo=0/\HT.sIx xs.length xs.length hi=xs.length)->∀ p,H p=none->Q (.ref p) (upd H p (.tup (Tw xs lo hi))))
def zkL {prog:Program}{w:World}{A:Around}{E:Value->Shared->Prop}{s:Shared}{t sl:Addr}{items:Array Value}{vl vu:Value}{lo hi:Option Int}{Q:Value->Shared->Prop}(ht:IsTup s.heap t items)(hs:s.heap.IsSliceOf sl vl vu .none)(pl:IsPart vl lo)(pu:IsPart vu hi)
  (hw:HT.sIx items.size 0 lo=0/\HT.sIx items.size items.size hi=items.size) (h:Q (.ref t) s):wpAny (model prog w) A (getItem (.ref t) (.ref sl)) Q E s:=by
 obtain⟨os,hos,hcs,hds⟩:=id hs
 have hTs:s.TypeIs (.ref sl) "slice":=⟨os,hos,hcs⟩
 unfold getItem
 try with_reducible refine wpAny_holding ?_
 first|refine wpAny_bind (wpAny_pure ?_)|skip
 refine wpAny_bind (wpAny_sequenceKey ht.typeIs (by decide) ?_)
 refine wpAny_bind (wpAny_callSpecial?_slot (name:=Str.ofString "__getitem__") ht.typeIs PyProof.Rows.slot_tuple_getitem
  (wpAny_call_entry PyProof.Rows.slot_tuple_getitem ht.typeIs PyProof.Rows.entry_tuple_getitem ?_ (PyProof.Rows.args_tuple_getitem _ _)))
 show wpAny _ _ (Builtin.Tuple.tupleItemsOf (.ref t) >>= _) _ _ s
 refine wpAny_bind (tupleItemsOf_ ht ?_)
 refine wpAny_bind (wpAny_typeOf hTs ?_)
 rw[if_pos (by decide)]
 refine wpAny_bind (HT.zeu hs pl pu ?_)
 show wpAny _ _ (if(((HT.sIx items.size 0 lo:Nat):Int)==0&&(1:Int)==1&&(HT.sIx items.size items.size hi-HT.sIx items.size 0 lo)==items.size)=true then _ else _) _ _ s
 rw[if_pos (by rw[hw.1,hw.2];simp)]
 unfold Builtin.Tuple.tupleIsExact
 refine wpAny_bind (wpAny_bind (wpAny_typeOf ht.typeIs (wpAny_pure ?_)))
 rw[if_pos (by decide)]
 refine wpAny_bind (wpAny_rule ?_)
 first
  |exact wpAny_pure ⟨_,rfl,wpAny_pure h⟩
  |exact wpAny_bind (wpAny_pure ⟨_,rfl,wpAny_pure h⟩)
  |exact wpAny_bind (wpAny_pure (wpAny_pure ⟨_,rfl,wpAny_pure h⟩))
  |trace_state
def ztp:SJ X (zx7 X.K):=by
 intro Z9 s Z H x v vl vu lo hi sl Q I rx hs pl pu h
 obtain⟨a,xs,rfl,hx,q1,q2⟩:=h
 by_cases hw:HT.sIx xs.length 0 lo=0/\HT.sIx xs.length xs.length hi=xs.length
 ·cases rx
  obtain⟨its,r,ht,hz⟩:=I.tuple hx
  have hlen:its.toArray.size=xs.length:=by rw[qm];exact r.length.symm
  refine⟨"tuple",_,PyProof.Rows.slot_tuple_getitem.lookup,ht.typeIs,?_⟩
  exact zkL ht hs pl pu (by rw[hlen];exact hw) ⟨.ref a,H,I,rfl,q1 hw⟩
 ·exact zuW Z9 s Z H (.ref a) v vl vu lo hi sl Q I rx hs pl pu ⟨a,xs,rfl,hx,hw,q2 hw⟩
def zpI {α:Type}(xs:List α)(lo hi:Option Int)(h1:W0 xs.length 0 lo=0)(h2:W0 xs.length xs.length hi=xs.length):cutD xs lo hi=xs:=by
 unfold cutD;rw[h1,h2];simp
def zjS (n d:Nat)(o:Option Int):HT.sIx n d o=W0 n d o:=by
 cases o with
 |none=>rfl
 |some k=>rfl
def zjj {lo hi:Option Expr}{tl th:Option DE}{p2:Pos}(ha:PD X a ta)(hl:PO X lo (upO X.K tl))(hh:PO X hi (upO X.K th)):PD X (.Subscript a (.Slice lo hi none p2) pos) (Ql RV ta tl th):=by with_unfolding_all exact(YG (zrp (ztS.or (ztp.or zvn)) ha hl hh) fun Z H Q hh=>Zw hh fun ad ρ S Q0 st rh q k =>
 ⟨ad,ρ,S,_,st,rh,q,fun x S1 v H1 ad1 q1 w1 st1 r1=>⟨ad1,ρ,S1,_,st1,rh.wd w1,q1,fun l S2 H2 ad2 q2 w2 st2=>⟨ad2,ρ,S2,_,st2,rh.wd (w1.trans w2),q2,fun h S3 H3 ad3 q3 w3 st3=>by
  have r3:=r1.wd (w2.trans w3)
  have k3:=k.wd ((w1.trans w2).trans w3)
  rcases q3 with⟨xs,rfl,q3⟩|⟨xs,hx,q3⟩|⟨z,rfl,hz,q3⟩
  ·cases r3 with
   |tup h1 r =>
    refine .inr (.inl ⟨_,_,rfl,ZK.of h1,fun⟨z1,z2⟩=>?_,fun _ p hp=>zje st3 k3 (zna _ _ r) q3 p hp⟩)
    rw[zjS,<- r.length]at z1 z2
    rw[zpI xs _ _ z1 z2]at q3
    exact k3 _ S3 _ H3 ad3 q3 Wd.refl st3 (.tup h1 r)
  ·obtain⟨p,vs,rfl,hs,r⟩:=hx.sq st3 r3
   exact .inl ⟨p,vs,rfl,hs,fun l hl=>Qf st3 k3 (zna _ _ r) q3 l hl⟩
  ·cases r3
   refine .inr (.inr ⟨z,rfl,Uu hz,?_⟩)
   have e:(⟨((z.cps.toList.drop (HT.sIx z.length 0 l)).take (HT.sIx z.length z.length h-HT.sIx z.length 0 l)).toArray⟩:Str)=zqW z l h:=by
    unfold zqW cutD
    rw[zjS,zjS,show z.length=z.cps.toList.length from qN.symm]
   rw[e]
   exact k3 _ S3 _ H3 ad3 q3 Wd.refl st3 (.str _)⟩⟩⟩)
end
end Dp
namespace Dp
open PySem PySem.Spec PyProof.Rows L2 My
variable [B:Bs]
section
variable {X:Cx}{a e:Expr}{es:List Expr}{ta te:DE}{t:DA}{pos p:Pos}
def zE {k j:Nat}{x:Str}{ps:List Str}{f:ZS}(G:Got X.prog X.w X.K X.mg X.base k x ps (Z4 X.K f))(hr:Zk j X.A)
  (ha:PAD X (e::es) t) (hk:k<=j:=by decide) (hg:Gl X x:=by rfl) (hdb:(x==("__debug__":Str))=false:=by decide) (he:starEach (e::es) X.env=(false,eval e X.env)::starEach es X.env:=by exact Ur rfl) (hpl:(backTo pos (starEach es X.env)).any (·.1)=false:=by exact Q6 rfl) :
  PD X (.Call (.Name x p) (e::es) [] pos) (dCall f t):=by with_unfolding_all exact(YG (zwE G hr hk hg ha hdb he hpl) fun Z H Q hh=>Zw hh fun ad ρ S Q0 st rh q k =>
 ⟨ad,ρ,S,_,st,rh,q,fun ds S1 vs H1 ad1 q1 w1 st1 r1=>by
  show Z4 X.K f (vs++[]) H1 Q E0
  rw[qU];exact⟨ad1,S1,ds,Q0,st1.base,r1,q1,(k.wd w1).base st1⟩⟩)
def BD (K:PySem.W.Frag)(r':DB)(r:List V->Hp->VK->Prop):Prop:=∀ ad H S ds vs Q0 Q,zL K ad H S->zB K ad H ds vs->r' ds S Q0->KK K ad H Q0 Q->r vs H Q
def BC (X:Cx)(f:Value)(r':DB):Prop:=∃ r,YJ X f r/\BD X.K r' r
def ZL {x:Str}{id:String}{r':DB}(o:BC X (.builtin id) r')(hm:X.mg x=none)(hv:bootBuiltins x=some (.builtin id))(ha:PAD X (e::es) t)(hg:Gl X x:=by rfl)(hn:x≠"__name__":=by decide)(hdb:(x==("__debug__":Str))=false:=by decide)
  (he:starEach (e::es) X.env=(false,eval e X.env)::starEach es X.env:=by exact Ur rfl) (hpl:(backTo pos (starEach es X.env)).any (·.1)=false:=by exact Q6 rfl):PD X (.Call (.Name x p) (e::es) [] pos) (dB r' t):=by
 with_unfolding_all
  obtain⟨r,ho,od⟩:=o
  exact YG (zqR ho hg hm hv ha hn hdb he hpl) fun Z H Q hh=>Zw hh fun ad ρ S Q0 st rh q k =>
   ⟨ad,ρ,S,_,st,rh,q,fun ds S1 vs H1 ad1 q1 w1 st1 r1=>od ad1 H1 S1 ds vs Q0 Q st1 r1 q1 (k.wd w1)⟩
def Q7 {x:Str}{T:String}{r':DB}(o:BC X (.type T) r')(hm:X.mg x=none)(hv:bootBuiltins x=some (.type T))(ha:PAD X (e::es) t)(hg:Gl X x:=by rfl)(hn:x≠"__name__":=by decide)(hdb:(x==("__debug__":Str))=false:=by decide)
  (he:starEach (e::es) X.env=(false,eval e X.env)::starEach es X.env:=by exact Ur rfl) (hpl:(backTo pos (starEach es X.env)).any (·.1)=false:=by exact Q6 rfl):PD X (.Call (.Name x p) (e::es) [] pos) (dB r' t):=by
 with_unfolding_all
  obtain⟨r,ho,od⟩:=o
  exact YG (zoJ ho hg hm hv ha hn hdb he hpl) fun Z H Q hh=>Zw hh fun ad ρ S Q0 st rh q k =>
   ⟨ad,ρ,S,_,st,rh,q,fun ds S1 vs H1 ad1 q1 w1 st1 r1=>od ad1 H1 S1 ds vs Q0 Q st1 r1 q1 (k.wd w1)⟩
def XM {K:PySem.W.Frag}{ad:List Addr}{H:Hp}{d:D}{vs:List V}(r:zB K ad H [d] vs):∃ v,vs=[v]/\Rel K ad H d v:=by
 cases r with
 |cons r t=>cases t;exact⟨_,rfl,r⟩
def RB {K:PySem.W.Frag}{ad:List Addr}{H:Hp}{d e:D}{vs:List V}(r:zB K ad H [d,e] vs):∃ v u,vs=[v,u]/\Rel K ad H d v/\Rel K ad H e u:=by
 cases r with
 |cons r t =>
  obtain⟨u,rfl,r2⟩:=XM t
  exact⟨_,_,rfl,r,r2⟩
def Yx:BC X (.builtin "len") Y7:=⟨_,zpL.or zlH,fun ad H S ds vs Q0 Q st r h k=>by
 rcases h with⟨x,xs,e,hx,q⟩|⟨z,e,hz,q⟩
 case inr =>
  subst e
  obtain⟨v,rfl,rv⟩:=XM r
  cases rv
  exact .inr ⟨z,rfl,Uu hz,k _ S _ H ad q Wd.refl st (.int _)⟩
 subst e
 obtain⟨v,rfl,rv⟩:=XM r
 obtain⟨a,ws,rfl,hs,rs⟩:=hx.sq st rv
 exact .inl ⟨a,ws,rfl,hs,k _ S _ H ad (by rw[rs.length]at q;exact q) Wd.refl st (.int _)⟩⟩
def zv7:BC X (.builtin "abs") zrk:=⟨_,zp3,fun ad H S ds vs Q0 Q st r ⟨i,e,q⟩ k=>by
 subst e
 obtain⟨v,rfl,rv⟩:=XM r
 cases rv
 exact⟨i,rfl,k _ S _ H ad q Wd.refl st (.int _)⟩⟩
def zvz (i j:Int):(if j > i then j else i)=max i j:=by
  rw[Int.max_def];split<;>split<;>lia
def zuN (i j:Int):(if j<i then j else i)=min i j:=by
  rw[Int.min_def];split<;>split<;>lia
def Vs (hc:X.calm=true:=by rfl):BC X (.builtin "max") Ws:=⟨_,zoP hc,fun ad H S ds vs Q0 Q st r ⟨i,j,e,q⟩ k=>by
 subst e
 obtain⟨v,u,rfl,rv,ru⟩:=RB r
 cases rv
 cases ru
 exact⟨i,j,rfl,by rw[zvz];exact k _ S _ H ad q Wd.refl st (.int _)⟩⟩
def RP (hc:X.calm=true:=by rfl):BC X (.builtin "min") Uh:=⟨_,zp2 hc,fun ad H S ds vs Q0 Q st r ⟨i,j,e,q⟩ k=>by
 subst e
 obtain⟨v,u,rfl,rv,ru⟩:=RB r
 cases rv
 cases ru
 exact⟨i,j,rfl,by rw[zuN];exact k _ S _ H ad q Wd.refl st (.int _)⟩⟩
def ztN (hc:X.calm=true:=by rfl):BC X (.builtin "max") znH:=⟨_,zoZ rfl hc,fun ad H S ds vs Q0 Q st r ⟨x,ns,e,hx,h0,q⟩ k=>by
 subst e
 obtain⟨v,rfl,rv⟩:=XM r
 obtain⟨a,ws,rfl,hs,rs⟩:=hx.sq st rv
 cases rs.ints
 exact⟨a,ns,rfl,hs,h0,fun m h1 h2=>k _ S _ H ad (q m h1 h2) Wd.refl st (.int _)⟩⟩
def zt4 (hc:X.calm=true:=by rfl):BC X (.builtin "min") zoj:=⟨_,zo0 rfl hc,fun ad H S ds vs Q0 Q st r ⟨x,ns,e,hx,h0,q⟩ k=>by
 subst e
 obtain⟨v,rfl,rv⟩:=XM r
 obtain⟨a,ws,rfl,hs,rs⟩:=hx.sq st rv
 cases rs.ints
 exact⟨a,ns,rfl,hs,h0,fun m h1 h2=>k _ S _ H ad (q m h1 h2) Wd.refl st (.int _)⟩⟩
def zgR (hc:X.calm=true:=by rfl):BC X (.builtin "all") R7:=⟨_,zo1 rfl hc,fun ad H S ds vs Q0 Q st r ⟨x,ns,e,hx,q⟩ k=>by
 subst e
 obtain⟨v,rfl,rv⟩:=XM r
 obtain⟨a,ws,rfl,hs,rs⟩:=hx.sq st rv
 cases rs.bls
 exact⟨a,ns,rfl,hs,k _ S _ H ad q Wd.refl st (.bl _)⟩⟩
def zfU:BC X (.type "tuple") zfH:=⟨_,zo2 rfl,fun ad H S ds vs Q0 Q st r ⟨x,xs,e,hx,q⟩ k=>by
 subst e
 obtain⟨v,rfl,rv⟩:=XM r
 rcases hx with rfl|hx
 ·cases rv with
  |tup h rr=>exact⟨_,_,rfl,.inr ⟨ZK.of h,k _ S _ H ad q Wd.refl st (.tup h rr)⟩⟩
 ·obtain⟨a,ws,rfl,hs,rs⟩:=hx.sq st rv
  exact⟨a,ws,rfl,.inl ⟨hs,fun l hl=>zje st k rs q l hl⟩⟩⟩
def zjv:BC X (.type "list") ziW:=⟨_,znZ,fun ad H S ds vs Q0 Q st r ⟨x,xs,e,hx,q⟩ k=>by
 subst e
 obtain⟨v,rfl,rv⟩:=XM r
 obtain⟨a,ws,rfl,hs,rs⟩:=hx.sq st rv
 exact⟨a,ws,rfl,hs,fun l hl=>Qf st k rs q l hl⟩⟩
section
variable {K:PySem.W.Frag}
def zt1 (t:String)(h:zjD t=true):PySem.W.kitOne K (.type "NoneType") (.type t)=some false/\PySem.W.kitOne K (.type "bool") (.type t)=some (t=="bool"||t=="int")/\PySem.W.kitOne K (.type "int") (.type t)=some (t=="int") /\
  PySem.W.kitOne K (.type "str") (.type t)=some (t=="str")/\PySem.W.kitOne K (.type "tuple") (.type t)=some (t=="tuple")/\PySem.W.kitOne K (.type "list") (.type t)=some (t=="list"):=by
 unfold zjD at h
 simp only[Pg,beq_iff_eq]at h
 rcases h with(((rfl|rfl)|rfl)|rfl)|rfl
 ·exact⟨by kernel_rfl,by kernel_rfl,by kernel_rfl,by kernel_rfl,by kernel_rfl,by kernel_rfl⟩
 ·exact⟨by kernel_rfl,by kernel_rfl,by kernel_rfl,by kernel_rfl,by kernel_rfl,by kernel_rfl⟩
 ·exact⟨by kernel_rfl,by kernel_rfl,by kernel_rfl,by kernel_rfl,by kernel_rfl,by kernel_rfl⟩
 ·exact⟨by kernel_rfl,by kernel_rfl,by kernel_rfl,by kernel_rfl,by kernel_rfl,by kernel_rfl⟩
 ·exact⟨by kernel_rfl,by kernel_rfl,by kernel_rfl,by kernel_rfl,by kernel_rfl,by kernel_rfl⟩
end
def zgw:BC X (.builtin "isinstance") Sy:=⟨_,zrO,fun ad H S ds vs Q0 Q st r ⟨x,t,b,e,h,q⟩ k=>by
 subst e
 obtain⟨v,u,rfl,rv,ru⟩:=RB r
 cases ru
 have fin:=k _ S _ H ad q Wd.refl st (.bl b)
 unfold zvK at h
 split at h
 ·cases h
 rename_i hty
 have hty':zjD t=true:=by
  cases hh:zjD t
  ·exact absurd (by show(!zjD t)=true;rw[hh];rfl) hty
  ·rfl
 obtain⟨k1,k2,k3,k4,k5,k6⟩:=zt1 (K:=X.K) t hty'
 cases rv with
 |non=>cases h;exact⟨_,_,_,_,rfl,.non,k1,fin⟩
 |bl c=>cases h;exact⟨_,_,_,_,rfl,.bl c,k2,fin⟩
 |int i=>cases h;exact⟨_,_,_,_,rfl,.int i,k3,fin⟩
 |str y=>cases h;exact⟨_,_,_,_,rfl,.str y,k4,fin⟩
 |ty n=>cases h
 |exn _ _ _=>cases h
 |tup ht rt=>cases h;exact⟨_,_,_,_,rfl,.tup ht,k5,fin⟩
 |rl hl rl=>cases h
 |@ref n a hn =>
  have h:(match S[n]? with | some (.lst _)=>some (t=="list") | _=>none)=some b:=h
  cases hS:S[n]? with
  |none=>rw[hS]at h;cases h
  |some c =>
   rw[hS]at h
   cases c with
   |ins c fs=>cases h
   |dk _=>cases h
   |dt _=>cases h
   |lst xs =>
    cases h
    obtain⟨vs,hv,_⟩:=st.cell n a _ hn hS
    exact⟨_,_,_,_,rfl,.lst hv,k6,fin⟩⟩
theorem zmR:∀ {K:PySem.W.Frag} {ad:List Addr} {H:Hp} {cs:List (Int×Int)} {vs:List V},zB K ad H (cs.map p2) vs->∃ ps:List Addr,vs=ps.map V.ref/\RJ H ps cs
 |_,_,_,[],_,.nil=>⟨[],rfl,.nil⟩
 |_,_,_,c::cs,_,.cons r t=>by
  obtain⟨ps,rfl,h⟩:=zmR t
  cases r with
  |tup h1 r1 =>
   obtain⟨v,u,rfl,rv,ru⟩:=RB r1
   cases rv
   cases ru
   exact⟨_::ps,rfl,.cons h1 h⟩
theorem zsi:∀ {K:PySem.W.Frag} {ad:List Addr} {H:Hp} {cs:List (Int×Int)} {ps:List Addr},RJ H ps cs->zB K ad H (cs.map p2) (ps.map V.ref)
 |_,_,_,_,_,.nil=>.nil
 |_,_,_,_,_,.cons r t=>.cons (.tup r (.cons (.int _) (.cons (.int _) .nil))) (zsi t)
def zut (a b:Int×Int):Xk a b=Q5 a b:=by
 unfold Xk Q5
 by_cases h:a.1=b.1
 ·simp[h]
 ·simp[h]
def zqN:BC X (.builtin "sorted") zpV:=⟨_,zmb rfl,fun ad H S ds vs Q0 Q st r ⟨x,cs,e,hx,h64,q⟩ k=>by
 subst e
 obtain⟨v,rfl,rv⟩:=XM r
 obtain⟨a,ws,rfl,hs,rs⟩:=hx.sq st rv
 obtain⟨ps,rfl,hp⟩:=zmR rs
 exact⟨a,ps,cs,rfl,hs,hp,h64,fun l ps' cs' hl hp' hperm hpw=>Qf st k (zsi hp') (q cs' hperm (hpw.imp fun h=>by rw[<- zut];exact h)) l hl⟩⟩
def MD (X:Cx)(id:String)(r':DM):Prop:=∃ r,MtR X id r/\∀ ad H S x ds v vs Q0 Q,zL X.K ad H S->Rel X.K ad H x v->zB X.K ad H ds vs->r' x ds S Q0->KK X.K ad H Q0 Q->r v vs H Q
def zu1 {K:PySem.W.Frag}{ad:List Addr}{H:Hp}{S:Z5}{x:D}{v:V}(st:zL K ad H S)(h:∃ n ys,x=.ref n/\S[n]?=some (.lst ys))(r:Rel K ad H x v):tyV K "list" v H:=by
 obtain⟨n,ys,rfl,h⟩:=h
 cases r with
 |ref e =>
  obtain⟨vs,hv,_⟩:=st.cell n _ _ e h
  exact .inl ⟨rfl,vs,Zr.of hv⟩
def UG {o:Expr}{to:DE}{name:Str}{id:String}{apos cpos:Pos}{r':DM}(slot:Slot "list" name id)(hty:typeOf (.builtin id)=pure (.type "method_descriptor"))(hm:MD X id r')(ho:PD X o to)(ha:PAD X (e::es) t)
  (hbase:attributeBase o name X.env (eval o X.env)=eval o X.env:=by rfl)
  (hfew:((backTo cpos (starEach (e::es) X.env)).all (fun x=>!x.1)&&(backToKw cpos (keywordEach [] X.env)).all (fun x=>x.1.isSome)
  &&decide ((e::es).length+([]:List Keyword).length+(if([]:List Keyword).isEmpty then 0 else 1)<30))=true:=by rfl)
  (hline:(apos.endLine==cpos.line)=true:=by rfl) (hs:starEach (e::es) X.env=(false,eval e X.env)::starEach es X.env:=by exact Ur rfl) (hplain:(backTo cpos (starEach es X.env)).any (·.1)=false:=by exact Q6 rfl) :
  PD X (.Call (.Attribute o name apos) (e::es) [] cpos) (dM r' to t):=by
 with_unfolding_all
  obtain⟨r,hr,od⟩:=hm
  exact YG (zxu PySem.F.plainAttrs_list slot hty hr ho ha hbase hfew hline hs hplain) fun Z H Q hh=>Zw hh fun ad ρ S Q0 st rh q k =>
   ⟨ad,ρ,S,_,st,rh,q,fun x S1 v H1 ad1 ⟨hl,q1⟩ w1 st1 r1=>⟨zu1 st1 hl r1,ad1,ρ,S1,_,st1,rh.wd w1,q1,fun ds S2 vs H2 ad2 q2 w2 st2 r2 =>
    od ad2 H2 S2 x ds v vs Q0 Q st2 (r1.wd w2) r2 q2 (k.wd (w1.trans w2))⟩⟩
def QT:MD X "list.append" TX:=⟨_,zj9,fun ad H S x ds v vs Q0 Q st rx r ⟨n,xs,y,ex,ey,hn,hl,q⟩ k=>by
 subst ex ey
 obtain⟨u,rfl,ru⟩:=XM r
 cases rx with
 |ref e =>
  obtain⟨ws,hw,rw⟩:=st.cell n _ _ e hn
  exact⟨_,ws,u,rfl,rfl,hw,by rw[<- rw.length];exact zjf hl,k _ _ _ _ ad q (Wd.put e hw) (st.put e hw (rw.append (.cons ru .nil))) .non⟩⟩
def zn8:MD X "list.extend" zii:=⟨_,zom,fun ad H S x ds v vs Q0 Q st rx r h k=>by
 rcases h with⟨n,xs,m,ys,ex,ey,hn,hm,hne,hl,q⟩|⟨n,xs,ys,ex,ey,hn,hl,q⟩
 ·subst ex ey
  obtain⟨u,rfl,ru⟩:=XM r
  cases rx with
  |ref e =>
   cases ru with
   |ref e2 =>
    obtain⟨ws,hw,rw⟩:=st.cell n _ _ e hn
    obtain⟨ws2,hw2,rw2⟩:=st.cell m _ _ e2 hm
    exact .inl ⟨_,_,ws,ws2,rfl,rfl,hw,hw2,by rw[<- rw.length,<- rw2.length];exact Uu hl,k _ _ _ _ ad q (Wd.put e hw) (st.put e hw (rw.append rw2)) .non⟩
 ·subst ex ey
  obtain⟨u,rfl,ru⟩:=XM r
  cases rx with
  |ref e =>
   cases ru with
   |tup h2 rw2 =>
    obtain⟨ws,hw,rw⟩:=st.cell n _ _ e hn
    exact .inr ⟨_,_,ws,_,rfl,rfl,hw,ZK.of h2,by rw[<- rw.length,<- rw2.length];exact Uu hl,k _ _ _ _ ad q (Wd.put e hw) (st.put e hw (rw.append rw2)) .non⟩⟩
end
end Dp
namespace Dp
open PySem PySem.Spec PyProof.Rows L2 My
variable [B:Bs]
def RL (K:PySem.W.Frag)(b:Nat)(g':DG)(g:TG):Prop:=∀ ad H S ρ Z d v Q0 Q,zL K ad H S->YZ K ad H ρ Z->Rel K ad H d v->g' d ρ S Q0 ->
 (∀ ρ' S' σ' H' ad',Q0 ρ' S'->Wd ad H ad' H'->zL K ad' H' S'->YZ K ad' H' ρ' σ'->σ'.length=Z.length->(∀ j,b<=j->σ'[j]?=Z[j]?)->Q σ' H')->g v Z H Q
def ziF (K:PySem.W.Frag)(b:Nat)(g':Vf)(g:Ui):Prop:=∀ ad H S ρ Z ds vs Q0 Q,zL K ad H S->YZ K ad H ρ Z->zB K ad H ds vs->g' ds ρ S Q0 ->
 (∀ ρ' S' σ' H' ad',Q0 ρ' S'->Wd ad H ad' H'->zL K ad' H' S'->YZ K ad' H' ρ' σ'->σ'.length=Z.length->(∀ j,b<=j->σ'[j]?=Z[j]?)->Q σ' H')->g vs Z H Q
def PGD (X:Cx)(b:Nat)(tg:Expr)(g':DG):Prop:=∃ g,PG X tg g/\RL X.K b g' g
def znO (X:Cx)(b:Nat)(tgs:List Expr)(g':Vf):Prop:=∃ g,PGs X tgs g/\ziF X.K b g' g
theorem YZ.set {K:PySem.W.Frag}{ad:List Addr}{H:Hp}{ρ:ZR}{Z:L2.St}{d:D}{v:V}(h:YZ K ad H ρ Z)(r:Rel K ad H d v)(i:Nat):YZ K ad H (ρ.set i (some d)) (Z.set i (some v)) where
 len:=by rw[T7,T7];exact h.len
 val:=fun j e q=>by
  by_cases hj:j=i
  ·subst hj
   have hl:j<ρ.length:=by have:=My.VN q;rw[T7]at this;exact this
   rw[qI hl]at q
   cases q
   exact⟨v,qI (by rw[<- h.len];exact hl),r⟩
  ·rw[qQ (Ne.symm hj)]at q
   obtain⟨u,e1,r1⟩:=h.val j e q
   exact⟨u,by rw[qQ (Ne.symm hj)];exact e1,r1⟩
section
variable {X:Cx}{pos:Pos}{b:Nat}
def Wo {K:PySem.W.Frag}(i:Nat)(hb:i<b):RL K b (YW i) (L2.YW i):=fun ad H S ρ Z d v Q0 Q st rh r q k =>
 k _ S _ H ad q Wd.refl st (rh.set r i) (T7 ..) fun j hj=>qQ (by lia)
def zN {i:Nat}{x:Str}(hN:X.N.Nodup)(hi:X.N[i]?=some x:=by rfl)(hx:Loc X.env.scope x:=by first|exact Or.inl rfl|exact Or.inr rfl)(hf:X.fn x=true\/X.env.scope.names.lookup x=some .local:=by first|exact .inl rfl|exact .inr rfl|assumption)(hb:i<b:=by decide):PGD X b (.Name x pos) (YW i) :=
 ⟨_,Wg hN hi hx hf,Wo i hb⟩
def Vo:znO X b [] Yr:=⟨_,O8,fun ad H S ρ Z ds vs Q0 Q st rh r ⟨e,q⟩ k=>by
 subst e
 cases r
 exact⟨rfl,k ρ S Z H ad q Wd.refl st rh rfl fun _ _=>rfl⟩⟩
def Y5 {e:Expr}{es:List Expr}{t:DG}{u:Vf}(h1:PGD X b e t)(h2:znO X b es u)(hs:(assignEach (e::es) X.env).map (·.2)=assign e X.env::(assignEach es X.env).map (·.2):=by rfl):znO X b (e::es) (z9 t u):=by
 obtain⟨g1,p1,r1⟩:=h1
 obtain⟨g2,p2,r2⟩:=h2
 refine⟨_,V6 p1 p2 hs,fun ad H S ρ Z ds vs Q0 Q st rh r ⟨d,rs,ed,q⟩ k=>?_⟩
 subst ed
 cases r with
 |cons r t =>
  refine⟨_,_,rfl,r1 ad H S ρ Z d _ _ _ st rh r q fun ρ1 S1 σ1 H1 ad1 q1 w1 st1 rh1 l1 a1=>?_⟩
  exact r2 ad1 H1 S1 ρ1 σ1 _ _ _ _ st1 rh1 (t.wd w1) q1 fun ρ2 S2 σ2 H2 ad2 q2 w2 st2 rh2 l2 a2=>k ρ2 S2 σ2 H2 ad2 q2 (w1.trans w2) st2 rh2 (l2.trans l1) fun j hj=>(a2 j hj).trans (a1 j hj)
def Vv {es:List Expr}{k n:Nat}{t:Vf}(hc:X.calm=true)(h:znO X b es t)(hn:(assignEach es X.env).length=n:=by rfl)(hst:(assignEach es X.env).findIdx? (·.1)=none:=by rfl):PGD X b (.Tuple es k pos) (Yq n t):=by
 obtain⟨g,p,r⟩:=h
 refine⟨_,zfz hc p hn hst,fun ad H S ρ Z d v Q0 Q st rh rv ⟨xs,ed,hl,q⟩ k=>?_⟩
 subst ed
 cases rv with
 |tup h1 rs=>exact⟨_,_,rfl,ZK.of h1,by rw[<- rs.length];exact hl,r ad H S ρ Z xs _ _ _ st rh rs q k⟩
def zfw {o i:Expr}{to ti:DE}(ho:PD X o to)(hi:PD X i ti)
  (ha:∀ v,assign (.Subscript o i pos) X.env v=(do
   let ov <- holding [v] (eval o X.env)
   let iv <- holding [v,ov] (eval i X.env)
   standAt pos
   holding [v,ov,iv] (setItem ov iv v)
   release [v,ov,iv] []):=by intro _;rfl):PGD X b (.Subscript o i pos) (Tq to ti):=by with_unfolding_all exact(⟨_,zu8 ho hi set_list ha,fun ad H S ρ Z d v Q0 Q st rh r q k=>⟨ad,ρ,S,_,st,rh,q,fun x S1 u H1 ad1 q1 w1 st1 r1=>⟨ad1,ρ,S1,_,st1,rh.wd w1,q1,fun y S2 z H2 ad2 q2 w2 st2 r2=>by
  obtain⟨n,xs,kk,j,ex,ey,hn,hj,q3⟩:=q2
  subst ex ey
  cases r2
  cases r1 with
  |ref e =>
   have e2:=zjA w2.pre e
   obtain⟨ws,hw,rw⟩:=st2.cell n _ _ e2 hn
   have rd:=r.wd (w1.trans w2)
   exact⟨_,ws,kk,j,rfl,rfl,hw,by rw[<- rw.length];exact hj,k ρ _ Z _ ad2 q3 ((w1.trans w2).trans (Wd.put e2 hw)) (st2.put e2 hw (rw.set rd j)) (rh.wd ((w1.trans w2).trans (Wd.put e2 hw))) rfl fun _ _=>rfl⟩⟩⟩⟩)
variable {st:Stmt}{sts:List Stmt}{t u:DS}{e:Expr}{te:DE}
def zM:Vq X [] Zv:=by with_unfolding_all exact(zlu zts fun E Z H hh=>Zw hh fun ad ρ S E0 so rh q k=>k.nx ρ S Z H ad q Wd.refl so rh)
def zp (h:Xb X st t):Vq X [st] t:=by with_unfolding_all exact(zs4 h)
def zj (h1:Xb X st t)(h2:Vq X sts u):Vq X (st::sts) (zA t u):=by with_unfolding_all exact(zlu (zqu h1 h2) fun E Z H hh=>Zw hh fun ad ρ S E0 so rh q k =>
 ⟨ad,ρ,S,{ E0 with nx:=u E0 },so,rh,q,⟨fun ρ' S' σ' H' ad' q' w st' rh'=>⟨ad',ρ',S',E0,st',rh',q',k.wd w⟩,k.rt,k.bk,k.ct⟩⟩)
def U6:Xb X st Vn:=by with_unfolding_all exact(VD zqE fun E Z H hh=>Zw hh fun ad ρ S E0 so rh q k=>q)
def zW (he:PD X e te)(hs:swapsWith e none pos.line X.env=pure false:=by rfl):Xb X (.Expr e pos) (Zf te):=by with_unfolding_all exact(VD (ztI he hs) fun E Z H hh=>Zw hh fun ad ρ S E0 so rh q k =>
 ⟨ad,ρ,S,_,so,rh,q,fun d S' v H' ad' q' w st' r=>k.nx ρ S' Z H' ad' q' w st' (rh.wd w)⟩)
def zJ (he:PD X e te):Xb X (.Return (some e) pos) (zU te):=by with_unfolding_all exact(VD (zuY he) fun E Z H hh=>Zw hh fun ad ρ S E0 so rh q k=>⟨ad,ρ,S,_,so,rh,q,k.rt⟩)
def zhx (h:Xb X st t):Xb X st (sJ t):=by with_unfolding_all exact(VD h fun E Z H ⟨ad,ρ,S,E0,so,rh,⟨J,hJ,q⟩,k⟩ =>
 ⟨ad,ρ,S,{ E0 with nx:=J },so,rh,q,⟨fun ρ' S' σ' H' ad' q' w st' rh'=>k.nx ρ' S' σ' H' ad' (hJ _ _ q') w st' rh',k.rt,k.bk,k.ct⟩⟩)
def zP {c:Expr}{a b:List Stmt}{tc:DT}(hc:WD X c tc)(ha:Vq X a t)(hb:Vq X b u):Xb X (.If c a b pos) (ZC tc t u):=by with_unfolding_all exact(VD (zyt hc ha hb) fun E Z H hh=>Zw hh fun ad ρ S E0 so rh q k =>
 ⟨ad,ρ,S,_,so,rh,q,fun b S' H' ad' q' w st'=>by
  cases b with
  |true=>rw[if_pos rfl]at q' ⊢;exact⟨ad',ρ,S',E0,st',rh.wd w,q',k.wd w⟩
  |false=>rw[if_neg qp]at q' ⊢;exact⟨ad',ρ,S',E0,st',rh.wd w,q',k.wd w⟩⟩)
def zy {i:Nat}{x:Str}{pos':Pos}(hN:X.N.Nodup)(he:PD X e te)(hi:X.N[i]?=some x:=by rfl)(hx:Loc X.env.scope x:=by first|exact Or.inl rfl|exact Or.inr rfl)(hs:swapsWith e (some (.Name x pos')) pos.line X.env=pure false:=by rfl)(hf:X.fn x=true\/X.env.scope.names.lookup x=some .local:=by first|exact .inl rfl|exact .inr rfl|assumption) :
  Xb X (.Assign [.Name x pos'] e pos) (zH te (YW i)):=by with_unfolding_all exact(VD (zwa hN hi hx he hs hf) fun E Z H hh=>Zw hh fun ad ρ S E0 so rh q k =>
 ⟨ad,ρ,S,_,so,rh,q,fun d S' v H' ad' q' w st' r=>k.nx _ S' _ H' ad' q' w st' ((rh.wd w).set r i)⟩)
def zeq {tg:Expr}{g:DG}(he:PD X e te)(hg:PGD X 1000 tg g)(hs:swapsWithSole [tg] e pos.line X.env=pure false:=by rfl)(hw:swappedStores [tg] e X.env=pure none:=by rfl)
  (h1:(assignEach [tg] X.env).map (·.2)=[assign tg X.env]:=by rfl):Xb X (.Assign [tg] e pos) (zH te g):=by
 with_unfolding_all
  obtain⟨g',p,r⟩:=hg
  exact VD (zu5 he p hs hw h1) fun E Z H hh=>Zw hh fun ad ρ S E0 so rh q k =>
   ⟨ad,ρ,S,_,so,rh,q,fun d S' v H' ad' q' w st' rv=>r ad' H' S' ρ Z d v _ _ st' (rh.wd w) rv q' fun ρ2 S2 σ2 H2 ad2 q2 w2 st2 rh2 _ _=>k.nx ρ2 S2 σ2 H2 ad2 q2 (w.trans w2) st2 rh2⟩
def ztz {i:Nat}{x:Str}{pos':Pos}(hN:X.N.Nodup)(he:PD X e te)(hi:X.N[i]?=some x:=by rfl)(hx:Loc X.env.scope x:=by first|exact Or.inl rfl|exact Or.inr rfl)(hf:X.fn x=true\/X.env.scope.names.lookup x=some .local:=by first|exact .inl rfl|exact .inr rfl|assumption) :
  Xb X (.AugAssign (.Name x pos') .Add e pos) (zrw i te):=by with_unfolding_all exact(VD (zvL hN hi hx he zwd hf) fun E Z H ⟨ad,ρ,S,E0,so,rh,⟨a,ea,q⟩,k⟩=>by
 obtain⟨v,ev,rv⟩:=rh.val i _ ea
 cases rv
 refine⟨_,ev,ad,ρ,S,_,so,rh,q,fun d S' v H' ad' ⟨b,eb,q'⟩ w st' r=>?_⟩
 subst eb
 cases r
 exact⟨a,b,rfl,rfl,k.nx _ S' _ H' ad' q' w st' ((rh.wd w).set (.int _) i)⟩)
def ze3 {c:Expr}{body:List Stmt}{tc:DT}(hc:WD X c tc)(hb:Vq X body t)(hp:PassesOwn (model X.prog X.w) X.A X.env X.xe:=by first|exact PassesOwn.never|exact PassesOwn.leaving):Xb X (.While c body [] pos) (QV tc t):=by with_unfolding_all exact(VD (zrY hp hc hb) fun E Z H ⟨ad,ρ,S,E0,so,rh,⟨W,⟨m0,w0⟩,turn⟩,k⟩=>by
 refine⟨fun m σ' H'=>∃ ad' ρ' S',W m ρ' S'/\Wd ad H ad' H'/\zL X.K ad' H' S'/\YZ X.K ad' H' ρ' σ',⟨m0,ad,ρ,S,w0,Wd.refl,so,rh⟩,?_⟩
 rintro m σ1 H1 ⟨ad1,ρ1,S1,w1,d1,st1,rh1⟩
 refine⟨ad1,ρ1,S1,_,st1,rh1,turn m ρ1 S1 w1,fun b S2 H2 ad2 q2 d2 st2=>?_⟩
 cases b with
 |true =>
  rw[if_pos rfl]at q2 ⊢
  obtain⟨N,hN,q2⟩:=q2
  refine⟨fun σ' H'=>∃ ad' ρ' S',N ρ' S'/\Wd ad H ad' H'/\zL X.K ad' H' S'/\YZ X.K ad' H' ρ' σ',?_,ad2,ρ1,S2,{ E0 with nx:=N,ct:=N,bk:=E0.nx },st2,rh1.wd d2,q2,?_⟩
  ·rintro σ' H' ⟨ad',ρ',S',n',d',st',rh'⟩
   obtain⟨m',hm,w'⟩:=hN ρ' S' n'
   exact⟨m',hm,ad',ρ',S',w',d',st',rh'⟩
  ·have d12:=d1.trans d2
   exact⟨fun ρ' S' σ' H' ad' q' w' st' rh'=>⟨ad',ρ',S',q',d12.trans w',st',rh'⟩,k.rt.wd d12,fun ρ' S' σ' H' ad' q' w' st' rh'=>k.nx ρ' S' σ' H' ad' q' (d12.trans w') st' rh',fun ρ' S' σ' H' ad' q' w' st' rh'=>⟨ad',ρ',S',q',d12.trans w',st',rh'⟩⟩
 |false =>
  rw[if_neg qp]at q2 ⊢
  exact k.nx ρ1 S2 σ1 H2 ad2 q2 (d1.trans d2) st2 (rh1.wd d2))
end
structure Te (K:PySem.W.Frag)(ad0:List Addr)(H0:Hp)(J0:S9)(J:It):Prop where
 go:∀ ad H S i,Wd ad0 H0 ad H->zL K ad H S->J0.ok S->i<J0.items.length->J.go i H
 yld:∀ ad H S i d x H',Wd ad0 H0 ad H->zL K ad H S->J0.ok S->J0.items[i]?=some d->J.yld i H x H'->Wd ad H ad H'/\zL K ad H' S/\Rel K ad H' d x
 stop:∀ ad H S,Wd ad0 H0 ad H->zL K ad H S->J0.ok S->J.stop J0.items.length H
def upI (K:PySem.W.Frag)(wi:DI):TI:=fun Z H R=>∃ ad ρ S R0,zL K ad H S/\YZ K ad H ρ Z/\wi ρ S R0/\∀ J0 S' J H' ad',R0 J0 S'->Wd ad H ad' H'->zL K ad' H' S'->Te K ad' H' J0 J->R J H'
@[irreducible] def Rf (X:Cx)(tg iter:Expr)(wi:DI):Prop:=PI X tg iter (upI X.K wi)
def zhi {X:Cx}{tg iter:Expr}{w w':TI}(h:PI X tg iter w)(m:∀ Z H R,w' Z H R->w Z H R):PI X tg iter w':=fun Z9 s Z H R I q=>h Z9 s Z H R I (m Z H R q)
section
variable {X:Cx}{tg e:Expr}
def Its (z:Str):It:=⟨fun i _=>i<z.cps.size,fun i H x H'=>H'=H/\∃ c,z.cps[i]?=some c/\x=.str ⟨#[c]⟩,fun i _=>z.cps.size<=i⟩
def zp7 {P:Program}{w:World}{K:PySem.W.Frag}{tg:Expr}(z:Str)(t:Tok)(it:Addr):Turn P w K tg (Its z) [it] it (fun i h=>h.IsStrIter it "str_ascii_iterator" z t i) where
 mem:=by simp
 obj:=fun i h st b hb=>by
  have e:b=it:=by simpa using hb
  subst e
  obtain⟨o,e,c,d⟩:=st
  exact⟨o,e,fun v y=>by rw[d]at y;cases y⟩
 keep:=fun i h h' st k=>let ⟨o,e,r⟩:=st;⟨o,k it (by simp) o e,r⟩
 item:=by
  intro X hP hw hK hc i Z9 s Z H E I hf st hg
  subst hP hw hK
  have hg:i<z.cps.size:=hg
  obtain⟨f0,f1,f2,f3,f4,f5⟩:=hf it (by simp)
  refine wpAny_pyNext_ascii_item st (c:=z.cps[i]) (by simp[hg]) fun h' st' sb=>?_
  have I1:Inv X Z9 Z H { s with heap:=h',toks:=s.toks+1 }:=I.turned (t':=s.toks+1) (fun b o hb e=>(sb.2 b hb).trans e) f0 f1 f3 f4 f5
  obtain⟨o,e,c,d⟩:=id st'
  exact⟨_,rfl,zhn (s:={ s with heap:=h',toks:=s.toks+1 }) e c d (by decide) ⟨.str ⟨#[z.cps[i]]⟩,H,I1,⟨_,rfl⟩,⟨rfl,z.cps[i],by simp[hg],rfl⟩,st',fun b hb=>(hf b hb).1⟩⟩
 done:=by
  intro X hP hw hK hc i Z9 s Z H E I hf st hg
  subst hP hw hK
  have hg:z.cps.size<=i:=hg
  obtain⟨f0,f1,f2,f3,f4,f5⟩:=hf it (by simp)
  exact wpAny_pyNext_ascii_end (I.ok.hd hc) st (by simp[hg]) fun h' eb=>⟨rfl,I.turned (t':=s.toks) (fun b o hb e=>eb b o hb e) f0 f1 f3 f4 f5⟩
 self:=fun _ _ _ _ _ st hQ=>wpAny_pyIter_striter_ascii st hQ
def zpc {P:Program}{w:World}{K:PySem.W.Frag}{tg:Expr}(z:Str)(t:Tok)(it:Addr):Turn P w K tg (Its z) [it] it (fun i h=>h.IsStrIter it "str_iterator" z t i) where
 mem:=by simp
 obj:=fun i h st b hb=>by
  have e:b=it:=by simpa using hb
  subst e
  obtain⟨o,e,c,d⟩:=st
  exact⟨o,e,fun v y=>by rw[d]at y;cases y⟩
 keep:=fun i h h' st k=>let ⟨o,e,r⟩:=st;⟨o,k it (by simp) o e,r⟩
 item:=by
  intro X hP hw hK hc i Z9 s Z H E I hf st hg
  subst hP hw hK
  have hg:i<z.cps.size:=hg
  obtain⟨f0,f1,f2,f3,f4,f5⟩:=hf it (by simp)
  refine wpAny_pyNext_wide_item st (c:=z.cps[i]) (by simp[hg]) fun h' st' sb=>?_
  have I1:Inv X Z9 Z H { s with heap:=h',toks:=s.toks+1 }:=I.turned (t':=s.toks+1) (fun b o hb e=>(sb.2 b hb).trans e) f0 f1 f3 f4 f5
  obtain⟨o,e,c,d⟩:=id st'
  exact⟨_,rfl,zhn (s:={ s with heap:=h',toks:=s.toks+1 }) e c d (by decide) ⟨.str ⟨#[z.cps[i]]⟩,H,I1,⟨_,rfl⟩,⟨rfl,z.cps[i],by simp[hg],rfl⟩,st',fun b hb=>(hf b hb).1⟩⟩
 done:=by
  intro X hP hw hK hc i Z9 s Z H E I hf st hg
  subst hP hw hK
  have hg:z.cps.size<=i:=hg
  obtain⟨f0,f1,f2,f3,f4,f5⟩:=hf it (by simp)
  exact wpAny_pyNext_wide_end (I.ok.hd hc) st (by simp[hg]) fun h' eb=>⟨rfl,I.turned (t':=s.toks) (fun b o hb e=>eb b o hb e) f0 f1 f3 f4 f5⟩
 self:=fun _ _ _ _ _ st hQ=>wpAny_pyIter_striter_wide st hQ
def zta (K:PySem.W.Frag)(tl:TE):TI:=fun Z H R=>tl Z H fun x H1=>(∃ a,x=.ref a/\(((∃ xs,Zr K H1 a xs)/\R (Itl K a) H1)\/((∃ xs,ZK K H1 a xs)/\R (Itt K a) H1)))\/(∃ z,x=.str z/\R (Its z) H1)
def zoY {l:Expr}{tl:TE}(hl:PE X l tl):PI X tg l (zta X.K tl):=by
  intro Z9 s Z H R I h
  refine Z0 (hl Z9 s Z H _ I h) fun v s1 ⟨x,H1,I1,r1,q1⟩=>?_
  rcases q1 with⟨a,e,q1⟩|⟨z,e,q⟩
  case inr =>
    subst e
    obtain⟨t,rfl⟩:=r1
    have fp:∀ b∈[s1.heap.objs.size],U9 X Z9 H1 b:=fun b hb=>by
      have e:b=s1.heap.objs.size:=by simpa using hb
      subst e
      exact I1.fpOk (qf _) (I1.hok.fresh (qf _))
    cases ha:z.cps.all (· < 128)with
    |true=>exact wpAny_pyIter_ascii ha ⟨s1.heap.objs.size,[s1.heap.objs.size],_,_,H1,rfl,I1.kept (t':=s1.toks) fun b o e=>qd _ e,zp7 z t _,⟨_,Heap.get?_push_size _ rfl,rfl,rfl⟩,fp,q⟩
    |false=>exact wpAny_pyIter_wide ha ⟨s1.heap.objs.size,[s1.heap.objs.size],_,_,H1,rfl,I1.kept (t':=s1.toks) fun b o e=>qd _ e,zpc z t _,⟨_,Heap.get?_push_size _ rfl,rfl,rfl⟩,fp,q⟩
  subst e
  cases r1
  rcases q1 with⟨⟨xs,hq⟩,q⟩|⟨⟨xs,hq⟩,q⟩
  . obtain⟨its,rv,p,hz⟩:=I1.list hq
    refine wpAny_pyIter_list p.isList ?_
    refine⟨s1.heap.objs.size,[s1.heap.objs.size],_,_,H1,rfl,I1.kept (t':=s1.toks) fun b o e=>qd _ e,zo5 a _,⟨_,Heap.get?_push_size _ rfl,rfl,rfl⟩,fun b hb=>?_,q⟩
    have e:b=s1.heap.objs.size:=by simpa using hb
    subst e
    exact I1.fpOk (qf _) (I1.hok.fresh (qf _))
  . obtain⟨its,rv,p,hz⟩:=I1.tuple hq
    refine wpAny_pyIter_tuple (show s1.heap.IsTuple a its.toArray from p) ?_
    refine⟨s1.heap.objs.size,[s1.heap.objs.size],_,_,H1,rfl,I1.kept (t':=s1.toks) fun b o e=>qd _ e,znP a _,⟨_,Heap.get?_push_size _ rfl,rfl,rfl⟩,fun b hb=>?_,q⟩
    have e:b=s1.heap.objs.size:=by simpa using hb
    subst e
    exact I1.fpOk (qf _) (I1.hok.fresh (qf _))
def zvg {K:PySem.W.Frag}{ad:List Addr}{H:Hp}(z:Str):Te K ad H ⟨signs z,fun _=>True⟩ (Its z) where
 go:=fun ad1 H1 S i w st _ hi=>by
  show i<z.cps.size
  have:i<(signs z).length:=hi
  unfold signs at this
  rw[qb]at this
  simpa using this
 yld:=fun ad1 H1 S i d x H' w st _ hd ⟨e,c,hc,hx⟩=>by
  subst e hx
  have hd:(signs z)[i]?=some d:=hd
  unfold signs at hd
  rw[qj,Qy,hc]at hd
  cases hd
  exact⟨Wd.refl,st,.str _⟩
 stop:=fun ad1 H1 S w st _=>by
  show z.cps.size<=(signs z).length
  unfold signs
  rw[qb];simp
def zwh {K:PySem.W.Frag}{ad:List Addr}{H:Hp}{a:Addr}{vs:List V}{ds:List D}(h:H a=some (.tup vs))(r:zB K ad H ds vs):Te K ad H ⟨ds,fun _=>True⟩ (Itt K a) where
 go:=fun ad1 H1 S i w st _ hi=>⟨vs,vs[i]'(by rw[<- r.length];exact hi),ZK.of (w.tup _ _ h),qc _⟩
 yld:=fun ad1 H1 S i d x H' w st _ hd ⟨e,hx⟩=>by
  subst e
  obtain⟨v,ev,rv⟩:=r.get hd
  rw[hx vs (ZK.of (w.tup _ _ h))]at ev
  cases ev
  exact⟨Wd.refl,st,rv.wd w⟩
 stop:=fun ad1 H1 S w st _=>⟨vs,ZK.of (w.tup _ _ h),by rw[<- r.length];exact qf _⟩
def zv0 {K:PySem.W.Frag}{ad:List Addr}{H:Hp}{a:Addr}{x:D}{ds:List D}(r:Rel K ad H x (.ref a)):Te K ad H ⟨ds,fun S=>Lst S x ds⟩ (Itl K a) where
 go:=fun ad1 H1 S i w st ok hi=>by
  obtain⟨a',vs,e,s,rs⟩:=Lst.sq st ok (r.wd w)
  cases e
  exact⟨vs,vs[i]'(by rw[<- rs.length];exact hi),s,qc _⟩
 yld:=fun ad1 H1 S i d y H' w st ok hd ⟨e,hx⟩=>by
  subst e
  obtain⟨a',vs,e,s,rs⟩:=Lst.sq st ok (r.wd w)
  cases e
  obtain⟨v,ev,rv⟩:=rs.get hd
  rw[hx vs s]at ev
  cases ev
  exact⟨Wd.refl,st,rv⟩
 stop:=fun ad1 H1 S w st ok=>by
  obtain⟨a',vs,e,s,rs⟩:=Lst.sq st ok (r.wd w)
  cases e
  exact⟨vs,s,by rw[<- rs.length];exact qf _⟩
def Zg {t:DE}(h:PD X e t):Rf X tg e (Zj t):=by with_unfolding_all exact(zhi (zoY h) fun Z H R hh=>Zw hh fun ad ρ S R0 st rh q k =>
 ⟨ad,ρ,S,_,st,rh,q,fun x S1 v H1 ad1 q1 w1 st1 r1=>by
  rcases q1 with⟨xs,rfl,q1⟩|⟨xs,hx,q1⟩|⟨z,rfl,q1⟩
  ·cases r1 with
   |tup h1 rs=>exact .inl ⟨_,rfl,.inr ⟨⟨_,ZK.of h1⟩,k _ S1 _ H1 ad1 q1 w1 st1 (zwh h1 rs)⟩⟩
  ·obtain⟨a,vs,rfl,s,rs⟩:=hx.sq st1 r1
   exact .inl ⟨a,rfl,.inl ⟨⟨vs,s⟩,k _ S1 _ H1 ad1 q1 w1 st1 (zv0 r1)⟩⟩
  ·cases r1
   exact .inr ⟨z,rfl,k _ S1 _ H1 ad1 q1 w1 st1 (zvg z)⟩⟩)
def zri {lo:Int}{n i:Nat}{d:D}(h:(upto lo n)[i]?=some d):i<n/\d=.int (lo+i):=by
 unfold upto at h
 rw[qj]at h
 have hi:=My.VN (xs:=List.range n) (i:=i) (x:=i)
 cases hr:(List.range n)[i]? with
 |none=>rw[hr]at h;cases h
 |some k =>
  rw[hr]at h
  have h1:=My.VN hr
  rw[Tv]at h1
  have h2:(List.range n)[i]?=some i:=qbh h1
  rw[hr]at h2
  cases h2
  cases h
  exact⟨h1,rfl⟩
def zlK (lo:Int)(n:Nat):(upto lo n).length=n:=by unfold upto;rw[qb,Tv]
def zqm {K:PySem.W.Frag}{ad:List Addr}{H:Hp}(lo:Int)(n:Nat):Te K ad H ⟨upto lo n,fun _=>True⟩ (Q9 lo n) where
 go:=fun ad1 H1 S i w st _ hi=>by rw[zlK]at hi;exact hi
 yld:=fun ad1 H1 S i d x H' w st _ hd ⟨e,hx⟩=>by
  subst e
  obtain⟨_,rfl⟩:=zri hd
  rw[hx]
  exact⟨Wd.refl,st,.int _⟩
 stop:=fun ad1 H1 S w st _=>by rw[zlK];exact qf _
def zpG {P:Program}{w:World}{K:PySem.W.Frag}{tg:Expr}(it:Addr)(lo:Int)(n:Nat):Turn P w K tg (Q9 lo n) [it] it (fun i h=>IsLongIter h it (lo+(i:Nat)*1) ((n:Int)-(i:Nat)) 1) where
 mem:=by simp
 obj:=fun i h st b hb=>by
  have e:b=it:=by simpa using hb
  subst e
  exact⟨_,st,fun v z=>by
   have z':Data.fields _=Data.cell v:=z
   cases z'⟩
 keep:=fun i h h' st k=>k it (by simp) _ st
 item:=by
  intro X hP hw hK hc i Z9 s Z H E I hf st' hg
  subst hP hw hK
  obtain⟨f0,f1,f2,f3,f4,f5⟩:=hf it (by simp)
  have W:=Walks.longrange (prog:=X.prog) (w:=X.w) (I.ok.hd hc) it lo 1 n
  refine W.item i s _ _ hg st' fun v h' tk hv st'' kk=>?_
  obtain⟨t,rfl⟩:=hv
  have I1:Inv X Z9 Z H { s with heap:=h',toks:=tk }:=I.turned (fun b o hb e=>kk b o (by simpa using hb) e) f0 f1 f3 f4 f5
  rw[WR]
  exact⟨_,rfl,zhn (s:={ s with heap:=h',toks:=tk }) (n:="longrange_iterator") st'' rfl rfl (by decide) ⟨.int (lo+i),H,I1,⟨t,rfl⟩,⟨rfl,rfl⟩,st'',fun b hb=>(hf b hb).1⟩⟩
 done:=by
  intro X hP hw hK hc i Z9 s Z H E I hf st' hg
  subst hP hw hK
  obtain⟨f0,f1,f2,f3,f4,f5⟩:=hf it (by simp)
  exact wpAny_pyNext_long_end (I.ok.hd hc) st' (by have:n<=i:=hg;lia) fun h' eb=>⟨rfl,I.turned (t':=s.toks) (fun b o hb e=>eb b o hb e) f0 f1 f3 f4 f5⟩
 self:=fun _ _ _ _ _ st h=>wpAny_pyIter_longiter st h
def range_any {Z9:List (Addr×Obj)}{Z:L2.St}{H:Hp}{s:Shared}{R:It->Hp->Prop}{E:Value->Shared->Prop}{lo hi:Int}{t u v:Tok}{tk:Nat}(I:Inv X Z9 Z H s)
    (q:R (Q9 lo (hi-lo).toNat) H):wpAny (model X.prog X.w) X.A (pyIter (.ref s.heap.objs.size)) (PIE X Z9 Z tg R) E { s with heap:=s.heap.push { cls:=.type "range",data:=.fields #[.int lo t,.int hi u,.int 1 v] },toks:=tk }:=by
  have I1:Inv X Z9 Z H { s with heap:=s.heap.push { cls:=.type "range",data:=.fields #[.int lo t,.int hi u,.int 1 v] },toks:=tk }:=I.kept fun b o e=>qd _ e
  have e1:lo+((0:Nat):Int)*1=lo:=by simp
  have e2:(((hi-lo).toNat:Nat):Int)-((0:Nat):Int)=Builtin.Range.rangeSize lo hi 1:=by rw[rangeSize_one];split<;>lia
  cases hsm:Builtin.Range.small lo hi 1 with
  |true =>
    refine wpAny_pyIter_range (IsRange.new ..) hsm ?_
    refine⟨(s.heap.push { cls:=.type "range",data:=.fields #[.int lo t,.int hi u,.int 1 v] }).objs.size,[(s.heap.push { cls:=.type "range",data:=.fields #[.int lo t,.int hi u,.int 1 v] }).objs.size],_,_,H,rfl,
      I1.kept (t':=tk) fun b o e=>qd _ e,ziR _ lo (hi-lo).toNat,?_,fun b hb=>?_,q⟩
    . show IsRangeIter _ _ (lo+((0:Nat):Int)*1) ((((hi-lo).toNat:Nat):Int)-((0:Nat):Int)) 1
      rw[e1,e2]
      exact Heap.get?_push_size _ rfl
    . have e:b=(s.heap.push { cls:=.type "range",data:=.fields #[.int lo t,.int hi u,.int 1 v] }).objs.size:=by simpa using hb
      subst e
      exact I1.fpOk (qf _) (I1.hok.fresh (qf _))
  |false =>
    refine wpAny_pyIter_longrange (IsRange.new ..) hsm ?_
    refine⟨(s.heap.push { cls:=.type "range",data:=.fields #[.int lo t,.int hi u,.int 1 v] }).objs.size,[(s.heap.push { cls:=.type "range",data:=.fields #[.int lo t,.int hi u,.int 1 v] }).objs.size],_,_,H,rfl,
      I1.kept (t':=tk) fun b o e=>qd _ e,zpG _ lo (hi-lo).toNat,?_,fun b hb=>?_,q⟩
    . show IsLongIter _ _ (lo+((0:Nat):Int)*1) ((((hi-lo).toNat:Nat):Int)-((0:Nat):Int)) 1
      rw[e1,e2]
      exact Heap.get?_push_size _ rfl
    . have e:b=(s.heap.push { cls:=.type "range",data:=.fields #[.int lo t,.int hi u,.int 1 v] }).objs.size:=by simpa using hb
      subst e
      exact I1.fpOk (qf _) (I1.hok.fresh (qf _))
def zjY {a:Expr}{t:DA}{p pos:Pos}(hm:X.mg "range"=none)(ha:PAD X [a] t)(hg:Gl X "range":=by rfl)(hs:starEach [a] X.env=[(false,eval a X.env)]:=by exact QK rfl):Rf X tg (.Call (.Name "range" p) [a] [] pos) (PJ t):=by with_unfolding_all exact(zhi (zpz hg hm ha hs) fun Z H R hh=>Zw hh fun ad ρ S R0 st rh q k =>
 ⟨ad,ρ,S,_,st,rh,q,fun ds S1 vs H1 ad1 ⟨j,ed,b1,b2,q1⟩ w1 st1 r1=>by
  subst ed
  obtain⟨v,rfl,rv⟩:=XM r1
  cases rv
  exact⟨j,rfl,b1,b2,k _ S1 _ H1 ad1 q1 w1 st1 (zqm 0 j.toNat)⟩⟩)
def ztT {a b:Expr}{t:DA}{p pos:Pos}(hm:X.mg "range"=none)(ha:PAD X [a,b] t)(hg:Gl X "range":=by rfl)(hs:starEach [a,b] X.env=[(false,eval a X.env),(false,eval b X.env)]:=by exact zib rfl rfl)(hs2:starEach [b] X.env=[(false,eval b X.env)]:=by exact QK rfl) :
  Rf X tg (.Call (.Name "range" p) [a,b] [] pos) (zoB t):=by
 with_unfolding_all
  rintro Z9 s Z H R I ⟨ad,ρ,S,R0,st,rh,q,k⟩
  refine Call_ (UW I hg hm boot_range (PyProof.Rows.callWith_type1 (Z0 (ha pos Z9 s Z H (fun vs H1=>∃ i j:Int,vs=[.int i,.int j]/\R (Q9 i (j-i).toNat) H1) I ⟨ad,ρ,S,_,st,rh,q,fun ds S1 vs H1 ad1 ⟨i,j,ed,q1⟩ w1 st1 r1=>by
   subst ed
   obtain⟨v,u,rfl,rv,ru⟩:=RB r1
   cases rv
   cases ru
   exact⟨i,j,rfl,k _ S1 _ H1 ad1 q1 w1 st1 (zqm i _)⟩⟩) fun us s1 ⟨vs,H1,I1,r1,q1⟩=>?_) (by rw[hs,hs2]) (by rw[hs2];rfl)))
  obtain⟨i,j,e,q⟩:=q1
  subst e
  cases r1 with
  |cons r rr =>
   cases rr with
   |cons r' rr =>
    cases rr
    obtain⟨t,rfl⟩:=r
    obtain⟨t',rfl⟩:=r'
    exact call_range_2 (range_any I1 q)
def YK {iter:Expr}{body:List Stmt}{wi:DI}{g:DG}{t:DS}{pos:Pos}(hi:Rf X tg iter wi)(hg:PGD X 1000 tg g)(hb:Vq X body t)(hp:PassesOwn (model X.prog X.w) X.A X.env X.xe:=by first|exact PassesOwn.never|exact PassesOwn.leaving)(hc:X.calm=true:=by rfl)(hs:∀ x,foldedSetIterable iter X.env x=pure x:=by intro _;rfl):Xb X (.For tg iter body [] pos) (Y0 wi g t):=by
 with_unfolding_all
  obtain⟨g',pg,rg⟩:=hg
  refine VD (zwB hp hc hi pg hb hs) fun E Z H hh=>Zw hh fun ad ρ S E0 so rh q k=>?_
  refine⟨ad,ρ,S,_,so,rh,q,fun J0 S1 J H1 ad1 ⟨W,w0,hok,step,fin⟩ d1 st1 it=>?_⟩
  refine⟨fun i m σ' H'=>m=J0.items.length-i/\i<=J0.items.length/\∃ ad' ρ' S',W i ρ' S'/\Wd ad1 H1 ad' H'/\zL X.K ad' H' S'/\YZ X.K ad' H' ρ' σ',⟨J0.items.length,rfl,qP _,ad1,ρ,S1,w0,Wd.refl,st1,rh.wd d1⟩,?_⟩
  rintro i m σ2 H2 ⟨rfl,hi2,ad2,ρ2,S2,w2,d2,st2,rh2⟩
  by_cases hlt:i<J0.items.length
  ·have ed:J0.items[i]?=some J0.items[i]:=qc hlt
   refine .inr ⟨it.go ad2 H2 S2 i d2 st2 (hok _ _ _ w2) hlt,fun σ' H'=>∃ ad' ρ' S',W (i+1) ρ' S'/\Wd ad1 H1 ad' H'/\zL X.K ad' H' S'/\YZ X.K ad' H' ρ' σ',?_,fun x H' hy=>?_⟩
   ·rintro σ' H' ⟨ad',ρ',S',w',d',st',rh'⟩
    exact⟨J0.items.length-(i+1),by lia,rfl,hlt,ad',ρ',S',w',d',st',rh'⟩
   ·obtain⟨d3,st3,r3⟩:=it.yld ad2 H2 S2 i _ x H' d2 st2 (hok _ _ _ w2) ed hy
    refine rg ad2 H' S2 ρ2 σ2 _ x _ _ st3 (rh2.wd d3) r3 (step i _ ρ2 S2 ed w2) fun ρ4 S4 σ4 H4 ad4 q4 d4 st4 rh4 _ _=>?_
    have d14:=(d2.trans d3).trans d4
    have d04:=d1.trans d14
    exact⟨ad4,ρ4,S4,{ E0 with nx:=W (i+1),ct:=W (i+1),bk:=E0.nx },st4,rh4,q4,⟨fun ρ' S' σ' H' ad' q' w' st' rh'=>⟨ad',ρ',S',q',d14.trans w',st',rh'⟩,k.rt.wd d04,fun ρ' S' σ' H' ad' q' w' st' rh'=>k.nx ρ' S' σ' H' ad' q' (d04.trans w') st' rh',fun ρ' S' σ' H' ad' q' w' st' rh'=>⟨ad',ρ',S',q',d14.trans w',st',rh'⟩⟩⟩
  ·have e:i=J0.items.length:=by lia
   subst e
   exact .inl ⟨it.stop ad2 H2 S2 d2 st2 (hok _ _ _ w2),k.nx ρ2 S2 σ2 H2 ad2 (fin ρ2 S2 w2) (d1.trans d2) st2 rh2⟩
end
theorem zlm:∀ {a b:L2.St} (n:Nat),(∀ j,j<n->a[j]?=some none\/a.length<=j)->b.length=a.length->(∀ j,n<=j->b[j]?=a[j]?)->WX a b
 |[],[],_,_,_,_=>True.intro
 |[],_::_,_,_,h,_=>by simp at h
 |_::_,[],_,_,h,_=>by simp at h
 |x::a,y::b,n,h0,hl,h=>by
  have hl':b.length=a.length:=by simpa using hl
  cases n with
  |zero =>
   have e:=h 0 (qf _)
   have e':y=x:=by simpa using e
   subst e'
   have rest:WX a b:=zlm 0 (fun j hj=>absurd hj (qbj _)) hl' fun j _=>by simpa using h (j+1) (qP _)
   cases y with
   |none=>exact rest
   |some v=>exact⟨rfl,rest⟩
  |succ n =>
   have rest:WX a b:=zlm n (fun j hj=>by
    rcases h0 (j+1) (by lia)with e|e
    ·exact .inl (by simpa using e)
    ·exact .inr (by simpa using e)) hl' fun j hj=>by simpa using h (j+1) (by lia)
   rcases h0 0 (Nat.succ_pos _)with e|e
   ·have e':x=none:=by simpa using e
    subst e'
    exact rest
   ·simp at e
def zuh {K:PySem.W.Frag}{ad:List Addr}{H:Hp}{ρ:ZR}{Z:L2.St}(h:YZ K ad H ρ Z)(own:List Str)(fv:List Nat):YZ K ad H (Qt own.length fv ρ) (cst own fv Z) where
  len:=by unfold Qt cst;rw[qh,qh,qH,qH,qb,qb]
  val:=fun i d e=>by
    unfold Qt at e
    unfold cst
    by_cases hi:i<own.length
    . rw[qk (by rw[qH];exact hi),qaG]at e
      split at e<;>cases e
    . have hi':own.length<=i:=P0 hi
      rw[qi (by rw[qH];exact hi'),qH,qj]at e
      rw[qi (by rw[qH];exact hi'),qH,qj]
      cases hf:fv[i-own.length]? with
      |none=>rw[hf]at e;cases e
      |some j =>
        rw[hf]at e
        simp only[qbf,Option.some.injEq]at e ⊢
        cases hr:ρ[j]? with
        |none=>rw[hr]at e;cases e
        |some o =>
          rw[hr]at e
          have e':o=some d:=e
          subst e'
          obtain⟨v,ev,rv⟩:=h.val j d hr
          exact⟨v,by rw[ev];rfl,rv⟩
@[irreducible] def zof (X:Cx)(ifs:List Expr)(t:DT):Prop:=Rb X ifs (upT X.K t)
def Xf {X:Cx}:zof X [] Xu:=by with_unfolding_all exact(fun Z9 s Z H Q I hh=>Zw hh fun ad ρ S Q0 st rh q k=>zwo Z9 s Z H Q I (k true S H ad q Wd.refl st))
def zht {X:Cx}{c:Expr}{t:DT}(h:WD X c t):zof X [c] t:=by with_unfolding_all exact(zu3 h)
def ofT {A B:Prop}(h:if true=true then A else B):A:=by rw[if_pos rfl]at h;exact h
def ofF {A B:Prop}(h:if false=true then A else B):B:=by rw[if_neg qp]at h;exact h
def zr7 {K:PySem.W.Frag}{own:List Str}{fv:List Nat}{wi:DI}{g:DG}{g':TG}{tc:DT}{te:DE}(rg:RL K own.length g g'){Z:L2.St}{H:Hp}{Q:VK}(h:up K (Yz own.length fv wi g tc te) Z H Q):tLC own fv (upI K wi) g' (upT K tc) (up K te) Z H Q:=by
 obtain⟨ad,ρ,S,Q0,so,rh,q,k⟩:=h
 refine⟨ad,ρ,S,_,so,rh,q,fun J0 S1 J H1 ad1 ⟨hbig,W,w0,hok,step,fin⟩ d1 st1 it=>?_⟩
 intro p hp
 refine⟨fun i m H'=>m=J0.items.length-i/\i<=J0.items.length/\∃ ad' S' ys vs,W i ys S'/\Wd ad1 H1 ad' H'/\zL K ad' H' S'/\p∉ad'/\H' p=some (.lst vs)/\zB K ad' H' ys vs/\vs.length<=i,
  ⟨J0.items.length,rfl,qP _,ad1,S1,[],[],w0,Wd.laid hp,st1.laid hp,st1.fresh hp,Xy,.nil,qf _⟩,?_⟩
 rintro i m H2 ⟨rfl,hi2,ad2,S2,ys,vs,w2,d2,st2,hp2,hv2,r2,hl2⟩
 by_cases hlt:i<J0.items.length
 ·have ed:J0.items[i]?=some J0.items[i]:=qc hlt
  refine .inr ⟨it.go ad2 H2 S2 i d2 st2 (hok _ _ _ w2) hlt,fun x H' hy=>?_⟩
  obtain⟨d3,st3,r3⟩:=it.yld ad2 H2 S2 i _ x H' d2 st2 (hok _ _ _ w2) ed hy
  have rh3:=zuh (rh.wd ((d1.trans d2).trans d3)) own fv
  refine rg ad2 H' S2 _ _ _ x _ _ st3 rh3 r3 (step i _ ys S2 ed w2) fun ρ4 S4 σ4 H4 ad4 q4 d4 st4 rh4 l4 a4=>?_
  refine⟨zlm own.length (fun j hj=>.inl ?_) l4 a4,ad4,ρ4,S4,_,st4,rh4,q4,fun b S5 H5 ad5 q5 d5 st5=>?_⟩
  ·unfold cst
   rw[qk (by rw[qH];exact hj),qaG,if_pos hj]
  have fwd:∀ {ad9:List Addr} {H9:Hp},Wd ad2 H2 ad9 H9->p∉ad9/\H9 p=some (.lst vs):=fun {ad9 H9} w=>⟨(fun m=>by
   have z:=w.new p m hp2
   rw[hv2]at z;cases z),w.keep p _ hp2 hv2⟩
  have d25:=(d3.trans d4).trans d5
  cases b with
  |true =>
   refine zrh ?_
   have q5:=Dp.ofT q5
   refine⟨ad5,ρ4,S5,_,st5,rh4.wd d5,q5,fun y S6 v H6 ad6 q6 d6 st6 r6=>?_⟩
   have d26:=d25.trans d6
   obtain⟨n6,e6⟩:=fwd d26
   have hw:Wr ad6 H6 ad6 (upd H6 p (.lst (vs++[v]))):=Wr.hid e6
   have hvl:vs.length<sizeLine:=zjf (by lia)
   exact⟨vs,e6,hvl,J0.items.length-(i+1),by lia,rfl,hlt,ad6,S6,ys++[y],vs++[v],q6,(d2.trans d26).hid hp,st6.hid e6 n6 (st1.bfree hp),n6,Xy,zB.wr hw ((r2.wd d26).append (.cons r6 .nil)),by rw[qh];exact Nat.succ_le_succ hl2⟩
  |false =>
   refine zrL ?_
   have q5:=Dp.ofF q5
   obtain⟨n5,e5⟩:=fwd d25
   exact⟨J0.items.length-(i+1),by lia,rfl,hlt,ad5,S5,ys,vs,q5,d2.trans d25,st5,n5,e5,r2.wd d25,by lia⟩
 ·have e:i=J0.items.length:=by lia
  subst e
  refine .inl ⟨it.stop ad2 H2 S2 d2 st2 (hok _ _ _ w2),?_⟩
  exact k _ _ _ _ (ad2++[p]) (fin ys S2 w2) (d1.trans (d2.add hp)) (st2.add hv2 hp2 r2 (st1.bfree hp)) (.ref (by rw[<- st2.len,qi (qf _),V7];rfl))
section
variable {X:Cx}{sc:Scope}{tg iter elt:Expr}{ifs:List Expr}{own free:List Str}{fv:List Nat}{wi:DI}{g:DG}{tc:DT}{te:DE}{pos:Pos}
def Wk {g':TG}(hfr:Ut (fun x=>X.env.kindOf x=some .cell) sc.names)(hfv:Ro X sc free fv)(hi:Rf X tg iter wi)
  (hg:RL X.K own.length g g'/\∀ cl C s₀ H₀ ex,PG (inner X sc (own++free) cl C s₀ H₀ ex) tg g') (ht:∀ cl C s₀ H₀ ex,zof (inner X sc (own++free) cl C s₀ H₀ ex) ifs tc) (he:∀ cl C s₀ H₀ ex,PD (inner X sc (own++free) cl C s₀ H₀ ex) elt te) (hcalm:X.calm=true:=by rfl) (hxe:(X.xe=fun _ _=>False):=by rfl) (hkind:sc.kind=.function:=by rfl) (hcell:∀ y∈sc.names,y.2=.cell->sc.names.lookup y.1=some .cell:=by decide +kernel) (hnames:∀ y∈sc.names,y.2=.local->sc.names.lookup y.1=some .local:=by decide +kernel)
  (hs:∀ x,foldedSetIterable iter X.env x=pure x:=by intro _;rfl):PD X (.ListComp elt [⟨tg,iter,ifs,0⟩] sc pos) (Yz own.length fv wi g tc te):=by with_unfolding_all exact(YG (zxO (tc:=upT X.K tc) (te:=up X.K te) hcalm hxe hkind hcell hnames hfr hfv hi hg.2 ht he hs) fun _ _ _=>zr7 hg.1)
def QF {g':TG}{i:Nat}{y:Str}{py spos:Pos}(hN:X.N.Nodup)(hfr:Ut (fun x=>X.env.kindOf x=some .cell) sc.names)(hfv:Ro X sc free fv)(hi:Rf X tg iter wi)
  (hg:RL X.K own.length g g'/\∀ cl C s₀ H₀ ex,PG (inner X sc (own++free) cl C s₀ H₀ ex) tg g') (ht:∀ cl C s₀ H₀ ex,zof (inner X sc (own++free) cl C s₀ H₀ ex) ifs tc) (he:∀ cl C s₀ H₀ ex,PD (inner X sc (own++free) cl C s₀ H₀ ex) elt te) (hy:X.N[i]?=some y:=by rfl) (hyl:X.env.scope.names.lookup y=some .local:=by rfl) (hcalm:X.calm=true:=by rfl) (hxe:(X.xe=fun _ _=>False):=by rfl) (hkind:sc.kind=.function:=by rfl) (hcell:∀ y∈sc.names,y.2=.cell->sc.names.lookup y.1=some .cell:=by decide +kernel) (hnames:∀ y∈sc.names,y.2=.local->sc.names.lookup y.1=some .local:=by decide +kernel)
  (hsw:swapsWith (.ListComp elt [⟨tg,iter,ifs,0⟩] sc pos) (some (.Name y py)) spos.line X.env=pure true:=by rfl)
  (hs:∀ x,foldedSetIterable iter X.env x=pure x:=by intro _;rfl):Xb X (.Assign [.Name y py] (.ListComp elt [⟨tg,iter,ifs,0⟩] sc pos) spos) (zH (Yz own.length fv wi g tc te) (YW i)):=by with_unfolding_all exact(VD (zug (tc:=upT X.K tc) (te:=up X.K te) hN hy hyl hcalm hxe hkind hcell hnames hfr hfv hi hg.2 ht he hsw hs) fun E Z H hh=>Zw hh fun ad ρ S E0 so rh q k =>
  zr7 (Q:=fun x H1=>L2.YW i x Z H1 E.nx) hg.1 ⟨ad,ρ,S,_,so,rh,q,fun d S' v H' ad' q' w st' r=>k.nx _ S' _ H' ad' q' w st' ((rh.wd w).set r i)⟩)
def zdN {K:PySem.W.Frag}{b:Nat}:ziF K b Yr L2.Yr:=fun ad H S ρ Z ds vs Q0 Q st rh r ⟨e,q⟩ k=>by
 subst e
 cases r
 exact⟨rfl,k ρ S Z H ad q Wd.refl st rh rfl fun _ _=>rfl⟩
def Vp {K:PySem.W.Frag}{b:Nat}{t:DG}{u:Vf}{t':TG}{u':Ui}(r1:RL K b t t')(r2:ziF K b u u'):ziF K b (z9 t u) (L2.z9 t' u'):=fun ad H S ρ Z ds vs Q0 Q st rh r ⟨d,rs,ed,q⟩ k=>by
 subst ed
 cases r with
 |cons r t =>
  refine⟨_,_,rfl,r1 ad H S ρ Z d _ _ _ st rh r q fun ρ1 S1 σ1 H1 ad1 q1 w1 st1 rh1 l1 a1=>?_⟩
  exact r2 ad1 H1 S1 ρ1 σ1 _ _ _ _ st1 rh1 (t.wd w1) q1 fun ρ2 S2 σ2 H2 ad2 q2 w2 st2 rh2 l2 a2=>k ρ2 S2 σ2 H2 ad2 q2 (w1.trans w2) st2 rh2 (l2.trans l1) fun j hj=>(a2 j hj).trans (a1 j hj)
def zeA {K:PySem.W.Frag}{b n:Nat}{t:Vf}{t':Ui}(r:ziF K b t t'):RL K b (Yq n t) (L2.Yq K n t'):=fun ad H S ρ Z d v Q0 Q st rh rv ⟨xs,ed,hl,q⟩ k=>by
 subst ed
 cases rv with
 |tup h1 rs=>exact⟨_,_,rfl,ZK.of h1,by rw[<- rs.length];exact hl,r ad H S ρ Z xs _ _ _ st rh rs q k⟩
end
def zlI {K:PySem.W.Frag}{ad:List Addr}{H:Hp}{ds:List D}{vs:List V}(N:List Str)(r:zB K ad H ds vs):YZ K ad H (Rj N.length ds) (L2.start N vs) where
  len:=by unfold Rj L2.start;rw[qh,qh,qb,qb,qH,qH,r.length]
  val:=fun i d e=>by
    unfold Rj at e
    unfold L2.start
    by_cases hi:i<ds.length
    . rw[qk (by rw[qb];exact hi),qj]at e
      rw[qk (by rw[qb,<- r.length];exact hi),qj]
      cases hd:ds[i]? with
      |none=>rw[hd]at e;cases e
      |some d' =>
        rw[hd]at e
        cases e
        obtain⟨v,ev,rv⟩:=r.get hd
        exact⟨v,by rw[ev];rfl,rv⟩
    . rw[qi (by rw[qb];exact P0 hi),qaG]at e
      split at e<;>cases e
def zB.cut1 {K:PySem.W.Frag}{ad ad':List Addr}{H:Hp}(k:Nat)(h1:∀ d v,fl k d=true->Rel K ad H d v->Rel K ad' H d v):∀ ds vs,ds.all (fl k)=true->zB K ad H ds vs->zB K ad' H ds vs:=by
 intro ds
 induction ds with
 |nil=>intro vs _ r;cases r;exact .nil
 |cons d ds ih =>
  intro vs hf r
  rw[Va,qG]at hf
  cases r with
  |cons r t=>exact .cons (h1 d _ hf.1 r) (ih _ hf.2 t)
def Rel.cut {K:PySem.W.Frag}{ad ad':List Addr}{H:Hp}:∀ (k:Nat) (d:D) (v:V),fl k d=true->Rel K ad H d v->Rel K ad' H d v:=by
 intro k
 induction k with
 |zero =>
  intro d v hf r
  cases r with
  |non=>exact .non
  |bl b=>exact .bl b
  |int i=>exact .int i
  |str x=>exact .str x
  |ty n=>cases hf
  |tup h r=>cases hf
  |rl h r=>cases hf
  |ref h=>cases hf
  |exn _ _ _=>cases hf
 |succ k ih =>
  intro d v hf r
  cases r with
  |non=>exact .non
  |bl b=>exact .bl b
  |int i=>exact .int i
  |str x=>exact .str x
  |ty n=>cases hf
  |tup h r=>exact .tup h (zB.cut1 k ih _ _ hf r)
  |rl h r=>cases hf
  |ref h=>cases hf
  |exn _ _ _=>cases hf
theorem zB.cut {K:PySem.W.Frag}{ad ad':List Addr}{H:Hp}(k:Nat)(ds:List D)(vs:List V)(hf:ds.all (fl k)=true)(r:zB K ad H ds vs):zB K ad' H ds vs:=zB.cut1 k (Rel.cut k) ds vs hf r
end Dp
namespace Dp
open PySem PySem.Spec PyProof.Rows L2 My
variable [B:Bs]
mutual
theorem Rel.low {K:PySem.W.Frag}{ad ad':List Addr}{H H':Hp}{m:Nat}(hm:ad.length<=m):∀ {d:D} {u v:V},Rel K ad H d u->Rel K ad' H' d v->Rel K (ad'.take m) H' d v
 |_,_,_,.non,r=>by cases r;exact .non
 |_,_,_,.bl b,r=>by cases r;exact .bl b
 |_,_,_,.int i,r=>by cases r;exact .int i
 |_,_,_,.str x,r=>by cases r;exact .str x
 |_,_,_,.ty n,r=>by cases r;exact .ty n
 |_,_,_,.tup _ t,r=>by
  cases r with
  |tup h t'=>exact .tup h (zB.low hm t t')
 |_,_,_,.rl _ t,r=>by
  cases r with
  |rl h t'=>exact .rl h (zB.low hm t t')
 |_,_,_,.exn _ _ _,r=>by
  cases r with
  |exn h e n=>exact .exn h e n
 |_,_,_,.ref h,r=>by
  cases r with
  |ref h'=>exact .ref (by rw[qaW (qD (My.VN h) hm)];exact h')
theorem zB.low {K:PySem.W.Frag}{ad ad':List Addr}{H H':Hp}{m:Nat}(hm:ad.length<=m):∀ {ds:List D} {us vs:List V},zB K ad H ds us->zB K ad' H' ds vs->zB K (ad'.take m) H' ds vs
 |_,_,_,.nil,r=>by cases r;exact .nil
 |_,_,_,.cons r t,q=>by
  cases q with
  |cons r' t'=>exact .cons (Rel.low hm r r') (zB.low hm t t')
end
theorem Za.low {K:PySem.W.Frag}{ad ad':List Addr}{H H':Hp}{m:Nat}(hm:ad.length<=m):∀ {fs:List (Str×D)} {us vs:List (Str×V)},Za K ad H fs us->Za K ad' H' fs vs->Za K (ad'.take m) H' fs vs
 |_,_,_,.nil,r=>by cases r;exact .nil
 |_,_,_,.cons r t,q=>by
  cases q with
  |cons r' t'=>exact .cons (Rel.low hm r r') (Za.low hm t t')
theorem RelK.low {K:PySem.W.Frag}{ad ad':List Addr}{H H':Hp}{m:Nat}(hm:ad.length<=m):∀ {fs:List (Str×D)} {us vs:List (Key×V)},RelK K ad H fs us->RelK K ad' H' fs vs->RelK K (ad'.take m) H' fs vs
 |_,_,_,.nil,r=>by cases r;exact .nil
 |_,_,_,.cons r t,q=>by
  cases q with
  |cons r' t'=>exact .cons (Rel.low hm r r') (RelK.low hm t t')
theorem Zh.low {K:PySem.W.Frag}{ad ad':List Addr}{H H':Hp}{m:Nat}(hm:ad.length<=m):∀ {fs:List (List Key×D)} {us vs:List (List Key×V)},Zh K ad H fs us->Zh K ad' H' fs vs->Zh K (ad'.take m) H' fs vs
 |_,_,_,.nil,r=>by cases r;exact .nil
 |_,_,_,.cons r t,q=>by
  cases q with
  |cons r' t'=>exact .cons (Rel.low hm r r') (Zh.low hm t t')
def zjo {K:PySem.W.Frag}{ad:List Addr}{H:Hp}{S:Z5}{Q0:DK}{Q:VK}(st:zL K ad H S)(k:KK K ad H Q0 Q):KK K ad H (Fin S Q0) Q:=by
 intro d S' v H' ad' hf w st' r
 rcases hf with q|⟨S1,pre,hlen,hd,hc,q⟩
 ·exact k d S' v H' ad' q w st' r
 have hS:S1.length<=S'.length:=pre.length_le
 have had:ad.length<=S1.length:=by rw[st.len];exact hlen
 have htk:∀ {n:Nat} {a:Addr},(ad'.take S1.length)[n]?=some a->ad'[n]?=some a:=fun {n a} e=>by
  have hn:=My.VN e
  rw[Vy]at hn
  rw[qaW (by lia)]at e
  exact e
 have w1:Wd ad H (ad'.take S1.length) H':=by
  refine⟨?_,w.keep,w.tup,w.frz,fun b m n=>w.new b (List.mem_of_mem_take m) n⟩
  obtain⟨t,rfl⟩:=w.pre
  rw[List.take_append,qbz had]
  exact qa1 _ _
 refine k d S1 v H' _ q w1 ⟨st.wd.trans w1,by rw[Vy,st'.len];lia,st'.nd.sublist (List.take_sublist _ _),fun n a c e1 e2=>?_⟩ ?_
 ·have e1':=htk e1
  have ok:=st'.cell n a c e1' (zjA pre e2)
  rcases hc n c e2 with h|h
  ·obtain⟨a0,ea,ok0⟩:=st.get h
   cases c with
   |ins c fs =>
    obtain⟨C,dx,vs,hv,c1,c2,rv,hn⟩:=ok
    obtain⟨_,_,us,_,_,_,ru,_⟩:=ok0
    exact⟨C,dx,vs,hv,c1,c2,Za.low had ru rv,hn⟩
   |dk Z6 =>
    obtain⟨vs,hv,rv⟩:=ok
    obtain⟨us,hu,ru⟩:=ok0
    exact⟨vs,hv,RelK.low had ru rv⟩
   |dt Z6 =>
    obtain⟨vs,hv,rv⟩:=ok
    obtain⟨us,hu,ru⟩:=ok0
    exact⟨vs,hv,Zh.low had ru rv⟩
   |lst xs =>
    obtain⟨vs,hv,rv⟩:=ok
    obtain⟨us,hu,ru⟩:=ok0
    exact⟨vs,hv,zB.low had ru rv⟩
  ·cases c with
   |ins c fs=>cases h
   |dk _=>cases h
   |dt _=>cases h
   |lst xs =>
    obtain⟨vs,hv,rv⟩:=ok
    exact⟨vs,hv,zB.cut 20 _ _ h rv⟩
 ·rcases hd with h|⟨n,rfl,hn⟩
  ·exact Rel.cut 20 _ _ h r
  ·cases r with
   |ref e=>exact .ref (by rw[qaW hn];exact e)
omit B in
def zt9 {P:Program}{w:World}{K:PySem.W.Frag}{mg:Str->Option Value}{base:Heap}{x qual:Str}{st:Stmt}{f:Addr}{fd:FuncData}{N ps:List Str}{k:Nat}{sp:ZS}{b:DS}(F:V5 K x qual st f fd)(S:RG N ps (zY st))
  (len:∀ ds So Q,sp ds So Q->ds.length=ps.length) (body:BodyOk N.length b sp)
  (term:∀ (cdv:Value) (A:Around) (outer:List Env) (s:Shared) (H:Hp) (E:XK),Zk k (A.deeper (envOfC qual (zY st) s.heap.objs.size f cdv))->∀ [Bs],Vq (Wf ZV P w K mg base N qual (zY st) f cdv A outer s H E).nox (Xd st) b) :
  zO P w K mg base ZV (k+1) f fd ps (Z4 K sp):=by
 with_unfolding_all
  refine F.ok S (fun vs H Q E ⟨ad,So,ds,Q0,so,r,hf,kk⟩=>by rw[<- r.length];exact len ds So Q0 hf) fun cdv A outer s H vs Q E hr ⟨ad,So,ds,Q0,so,r,hf,kk⟩=>?_
  letI:Bs:=⟨ad,H⟩
  refine⟨_,term cdv A outer s H E hr,ad,Rj N.length ds,So,_,so,zlI N r,body ds So Q0 hf,⟨fun ρ S' Z H' ad' q w' st' rh=>zjo so kk .non S' .non H' ad' q w' st' .non,zjo so kk,fun _ _ _ _ _ q=>q.elim,fun _ _ _ _ _ q=>q.elim⟩⟩
omit B in
def zwe {K:PySem.W.Frag}{H:Hp}{a:Addr}{ns:List Int}(hl:ns.length<=63)(hg:∀ n∈ns,Hg n)(hO:Only H)(hS:Zr K H a (ns.map V.int)):Z4 K zfE [.ref a] H (fun v _=>v=.bl true) fun _ _ _=>False:=by
 have hr:QH K H a (ns.map V.int):=by
  rcases hS with(h|h)|h
  ·rcases hO a with e|⟨o,xs,e⟩
   ·rw[h]at e;cases e
   ·rw[h]at e;cases e
  ·exact .inl h
  ·exact .inr h
 refine⟨[],[],[.rl (ns.map D.int)],fun d _=>d=.bl true,@zL.mk ⟨[],H⟩ _ _ _ _ Wd.refl rfl List.nodup_nil (fun n a c e=>by simp at e),.cons (.rl hr (zB.mk_ints ns)) .nil,⟨ns,rfl,⟨rfl,hg⟩,hl,fun _=>rfl⟩,fun d S' v H' ad' q w st' r=>?_⟩
 have q':d=.bl true:=q
 subst q'
 cases r
 rfl
omit B in
theorem zlR:∀ {ns:List Int} {n:Int},n∈ns->PySem.W.WData.weight (.int n)<=PySem.W.WData.weightAll (ns.map PySem.W.WData.int)
 |m::ns,n,h=>by
  rw[qE,PySem.W.WData.weightAll]
  rcases qg.mp h with rfl|h
  ·lia
  ·have:=zlR h;lia
omit B in
def zqS {l:PySem.W.OpenLaw}{n k:Nat}{q:Program}{loose:List Str}{XP:(Str->Option Value)->Heap->Prop}{YP:World->Heap->Prop}{d:DefRec}{K:Params->PySem.W.Frag}{sp:World->Sp}{x:Str}
  (hn:l.most=some n) (hn2:n<=sizeLine) (hdf:d.params.defaults=[]) (hr:Zk k callerA) (hY:∀ (w:World) (h:Heap),YP w h->(K w.params).In h)
  (F:∀ (w:World) (mg:Str->Option Value) (fa:Addr) (h:Heap),(K w.params).In h->h.Ns mainGlobals mg->mg d.name=some (.ref fa) ->
   ∃ fd:FuncData,(∀ (s:Shared) (u:Value),BindsTo s fd ⟨[u],[]⟩ [(x,u)])/\∀ base:Heap,(K w.params).In base->base.Ns mainGlobals mg->zO l.prog w (K w.params) mg base ZV k fa fd [x] (sp w))
  (hsp:∀ (w:World) (H:Hp) (a:Addr) (ns:List Int),ns.length<=n->(∀ m∈ns,Hg m)->Only H->Zr (K w.params) H a (ns.map V.int)->sp w [.ref a] H (fun v _=>v=.bl true) fun _ _ _=>False) :
  PySem.W.WalkO q loose XP YP l.row.toRowW d [] (fun f vs=>PySem.call f vs):=by
 intro w s₀ s₁ mg mb G Y fa o pm cd doc dV kV ho hd hcd hD hmg hg args vals as hpre hlay hrd hwl hlo
 obtain rfl:dV=.none:=PySem.W.Dflts.none hD hdf
 obtain rfl:kV=.none:=PySem.W.Dflts.noKw hD
 obtain⟨a,vs,ns,rfl,rfl,hobj,hints,hlen⟩:=Att.zpf hn hpre hwl
 have hbits:∀ m∈ns,Hg m:=fun m hm=>by
  have h1:PySem.W.WData.layable (.list (ns.map .int))=true:=by simpa [PySem.W.WData.layableAll]using hlay
  have h2:PySem.W.WData.weight (.list (ns.map PySem.W.WData.int))<=2 ^ 20:=by
   unfold PySem.W.WData.layable at h1
   rw[qG,decide_eq_true_eq]at h1
   exact h1.2
  have h3:=qY (zlR hm) (by simpa only[PySem.W.WData.weight]using h2)
  exact ztV (by simpa only[PySem.W.WData.weight,Builtin.Int.intBits]using h3)
 have KX:=hY w _ Y
 obtain⟨fd,hb,hF⟩:=F w mg fa _ KX G.T.g hmg
 refine PySem.W.enter_call (codeAny_mono (zrr KX G.T.g G.T.b G.T.builtins G.T.nolimit hg hobj hints (qY hlen hn2) hr hF hb (fun H hO hS=>hsp w H a ns hlen hbits hO hS) fun _ _ _ z=>z) fun r s' hq=>?_)
 obtain⟨rfl,h2,h3,h4⟩:=hq
 exact⟨.inl ⟨.bool true,.bool true,[],rfl,fun _=>rfl,.bool true,Att.zpj l _,fun _=>⟨List.Pairwise.nil,fun _ hm=>(nomatch hm)⟩⟩,h2,h3,h4⟩
omit B in
def zsG {us:List Value}(hl:us.length=1):∃ a0,us=[a0]:=by
  cases us with
  |nil=>simp at hl
  |cons a0 us =>
  cases us with
  |nil=>exact⟨a0,rfl⟩
  |cons b us=>simp at hl
omit B in
def znU {us:List Value}(hl:us.length=2):∃ a0 a1,us=[a0,a1]:=by
  cases us with
  |nil=>simp at hl
  |cons a0 us =>
  cases us with
  |nil=>simp at hl
  |cons a1 us =>
  cases us with
  |nil=>exact⟨a0,a1,rfl⟩
  |cons b us=>simp at hl
omit B in
def zsk {us:List Value}(hl:us.length=3):∃ a0 a1 a2,us=[a0,a1,a2]:=by
  cases us with
  |nil=>simp at hl
  |cons a0 us =>
  cases us with
  |nil=>simp at hl
  |cons a1 us =>
  cases us with
  |nil=>simp at hl
  |cons a2 us =>
  cases us with
  |nil=>exact⟨a0,a1,a2,rfl⟩
  |cons b us=>simp at hl
omit B in
def zsC {us:List Value}(hl:us.length=4):∃ a0 a1 a2 a3,us=[a0,a1,a2,a3]:=by
  cases us with
  |nil=>simp at hl
  |cons a0 us =>
  cases us with
  |nil=>simp at hl
  |cons a1 us =>
  cases us with
  |nil=>simp at hl
  |cons a2 us =>
  cases us with
  |nil=>simp at hl
  |cons a3 us =>
  cases us with
  |nil=>exact⟨a0,a1,a2,a3,rfl⟩
  |cons b us=>simp at hl
omit B in
def zsx {us:List Value}(hl:us.length=5):∃ a0 a1 a2 a3 a4,us=[a0,a1,a2,a3,a4]:=by
  cases us with
  |nil=>simp at hl
  |cons a0 us =>
  cases us with
  |nil=>simp at hl
  |cons a1 us =>
  cases us with
  |nil=>simp at hl
  |cons a2 us =>
  cases us with
  |nil=>simp at hl
  |cons a3 us =>
  cases us with
  |nil=>simp at hl
  |cons a4 us =>
  cases us with
  |nil=>exact⟨a0,a1,a2,a3,a4,rfl⟩
  |cons b us=>simp at hl
omit B in
def zwZ {us:List Value}(hl:us.length=8):∃ a0 a1 a2 a3 a4 a5 a6 a7,us=[a0,a1,a2,a3,a4,a5,a6,a7]:=by
  cases us with
  |nil=>simp at hl
  |cons a0 us =>
  cases us with
  |nil=>simp at hl
  |cons a1 us =>
  cases us with
  |nil=>simp at hl
  |cons a2 us =>
  cases us with
  |nil=>simp at hl
  |cons a3 us =>
  cases us with
  |nil=>simp at hl
  |cons a4 us =>
  cases us with
  |nil=>simp at hl
  |cons a5 us =>
  cases us with
  |nil=>simp at hl
  |cons a6 us =>
  cases us with
  |nil=>simp at hl
  |cons a7 us =>
  cases us with
  |nil=>exact⟨a0,a1,a2,a3,a4,a5,a6,a7,rfl⟩
  |cons b us=>simp at hl
end Dp
namespace Dp
open PySem PySem.Spec PyProof.Rows L2 My
variable [B:Bs]
section
variable {X:Cx}
def zt0 {K:PySem.W.Frag}{ad:List Addr}{H:Hp}{a:Addr}{x:D}{ds:List D}(r:Rel K ad H x (.ref a)):Te K ad H ⟨Wa 0 ds,fun S=>Lst S x ds⟩ (Ite K a) where
 go:=fun ad1 H1 S i w st ok hi=>by
  obtain⟨a',vs,e,s,rs⟩:=Lst.sq st ok (r.wd w)
  cases e
  have hi':i<ds.length:=by rw[<- Um 0 ds];exact hi
  exact⟨vs,vs[i]'(by rw[<- rs.length];exact hi'),s,qc _⟩
 yld:=fun ad1 H1 S i d y H' w st ok hd ⟨p,ey,hp,he⟩=>by
  obtain⟨a',vs,e,s,rs⟩:=Lst.sq st ok (r.wd w)
  cases e
  obtain⟨z,hz,rfl⟩:=Ss hd
  obtain⟨v,ev,rv⟩:=rs.get hz
  rw[he vs v s ev,ey]
  refine⟨Wd.laid hp,st.laid hp,.tup Xy (.cons ?_ (.cons (rv.wd (Wd.laid hp)) .nil))⟩
  rw[qbn];exact .int _
 stop:=fun ad1 H1 S w st ok=>by
  obtain⟨a',vs,e,s,rs⟩:=Lst.sq st ok (r.wd w)
  cases e
  exact⟨vs,s,by show _<=(Wa 0 ds).length;rw[Um,rs.length];exact qf _⟩
def zqJ {K:PySem.W.Frag}{ad:List Addr}{H:Hp}{a:Addr}{vs:List V}{ds:List D}(h:H a=some (.tup vs))(r:zB K ad H ds vs):Te K ad H ⟨Wa 0 ds,fun _=>True⟩ (zrz K a) where
 go:=fun ad1 H1 S i w st _ hi=>by
  have hi':i<ds.length:=by rw[<- Um 0 ds];exact hi
  exact⟨vs,vs[i]'(by rw[<- r.length];exact hi'),ZK.of (w.tup _ _ h),qc _⟩
 yld:=fun ad1 H1 S i d y H' w st _ hd ⟨p,ey,hp,he⟩=>by
  obtain⟨z,hz,rfl⟩:=Ss hd
  obtain⟨v,ev,rv⟩:=r.get hz
  rw[he vs v (ZK.of (w.tup _ _ h)) ev,ey]
  refine⟨Wd.laid hp,st.laid hp,.tup Xy (.cons ?_ (.cons ((rv.wd w).wd (Wd.laid hp)) .nil))⟩
  rw[qbn];exact .int _
 stop:=fun ad1 H1 S w st _=>⟨vs,ZK.of (w.tup _ _ h),by show _<=(Wa 0 ds).length;rw[Um,r.length];exact qf _⟩
def zb1 {es:List Expr}{kk:Nat}{tpos:Pos}{a:Expr}{t:DA}{p pos:Pos}(hg:Gl X "enumerate")(hm:X.mg "enumerate"=none)(ha:PAD X [a] t)(hs:starEach [a] X.env=[(false,eval a X.env)]:=by exact QK rfl) :
  Rf X (.Tuple es kk tpos) (.Call (.Name "enumerate" p) [a] [] pos) (Dp.RT t):=by with_unfolding_all exact(zhi (zrm hg hm ha hs) fun Z H R hh=>Zw hh fun ad ρ S R0 st rh q k =>
 ⟨ad,ρ,S,_,st,rh,q,fun ds S1 vs H1 ad1 q0 w1 st1 r1=>by
  rcases q0 with⟨x,xs,ed,hx,q1⟩|⟨xs,ed,q1⟩
  ·subst ed
   obtain⟨v,rfl,rv⟩:=XM r1
   obtain⟨b,ws,rfl,s,rs⟩:=hx.sq st1 rv
   exact⟨b,rfl,.inl ⟨⟨ws,s⟩,k _ S1 _ H1 ad1 q1 w1 st1 (zt0 rv)⟩⟩
  ·subst ed
   obtain⟨v,rfl,rv⟩:=XM r1
   cases rv with
   |tup h r=>exact⟨_,rfl,.inr ⟨⟨_,ZK.of h⟩,k _ S1 _ H1 ad1 q1 w1 st1 (zqJ h r)⟩⟩⟩)
def zwz {K:PySem.W.Frag}{ad:List Addr}{H:Hp}{a b:Addr}{x y:D}{ds es:List D}(r:Rel K ad H x (.ref a))(r2:Rel K ad H y (.ref b)):Te K ad H ⟨Yg ds es,fun S=>Lst S x ds/\Lst S y es⟩ (znC K true true a b) where
 go:=fun ad1 H1 S i w st ok hi=>by
  obtain⟨a',vs,e,s,rs⟩:=Lst.sq st ok.1 (r.wd w)
  obtain⟨b',us,e',s',rs'⟩:=Lst.sq st ok.2 (r2.wd w)
  cases e
  cases e'
  have hi':i<min ds.length es.length:=by rw[<- Qd ds es];exact hi
  exact⟨vs,us,vs[i]'(by rw[<- rs.length];lia),us[i]'(by rw[<- rs'.length];lia),s,s',qc _,qc _⟩
 yld:=fun ad1 H1 S i d z H' w st ok hd ⟨p,ey,hp,he⟩=>by
  obtain⟨a',vs,e,s,rs⟩:=Lst.sq st ok.1 (r.wd w)
  obtain⟨b',us,e',s',rs'⟩:=Lst.sq st ok.2 (r2.wd w)
  cases e
  cases e'
  obtain⟨u1,u2,h1,h2,rfl⟩:=zeU hd
  obtain⟨v,ev,rv⟩:=rs.get h1
  obtain⟨u,eu,ru⟩:=rs'.get h2
  rw[he vs us v u s s' ev eu,ey]
  exact⟨Wd.laid hp,st.laid hp,.tup Xy (.cons (rv.wd (Wd.laid hp)) (.cons (ru.wd (Wd.laid hp)) .nil))⟩
 stop:=fun ad1 H1 S w st ok=>by
  obtain⟨a',vs,e,s,rs⟩:=Lst.sq st ok.1 (r.wd w)
  obtain⟨b',us,e',s',rs'⟩:=Lst.sq st ok.2 (r2.wd w)
  cases e
  cases e'
  refine⟨vs,us,s,s',?_⟩
  show vs.length<=(Yg ds es).length\/us.length<=(Yg ds es).length
  rw[Qd,rs.length,rs'.length];lia
def zt5 {K:PySem.W.Frag}{ad:List Addr}{H:Hp}{a b:Addr}{vs us:List V}{ds es:List D}(h:H a=some (.tup vs))(r:zB K ad H ds vs)(h2:H b=some (.tup us))(r2:zB K ad H es us):Te K ad H ⟨Yg ds es,fun _=>True⟩ (znC K false false a b) where
 go:=fun ad1 H1 S i w st _ hi=>by
  have hi':i<min ds.length es.length:=by rw[<- Qd ds es];exact hi
  exact⟨vs,us,vs[i]'(by rw[<- r.length];lia),us[i]'(by rw[<- r2.length];lia),ZK.of (w.tup _ _ h),ZK.of (w.tup _ _ h2),qc _,qc _⟩
 yld:=fun ad1 H1 S i d z H' w st _ hd ⟨p,ey,hp,he⟩=>by
  obtain⟨u1,u2,h1,h2',rfl⟩:=zeU hd
  obtain⟨v,ev,rv⟩:=r.get h1
  obtain⟨u,eu,ru⟩:=r2.get h2'
  rw[he vs us v u (ZK.of (w.tup _ _ h)) (ZK.of (w.tup _ _ h2)) ev eu,ey]
  exact⟨Wd.laid hp,st.laid hp,.tup Xy (.cons ((rv.wd w).wd (Wd.laid hp)) (.cons ((ru.wd w).wd (Wd.laid hp)) .nil))⟩
 stop:=fun ad1 H1 S w st _=>by
  refine⟨vs,us,ZK.of (w.tup _ _ h),ZK.of (w.tup _ _ h2),?_⟩
  show vs.length<=(Yg ds es).length\/us.length<=(Yg ds es).length
  rw[Qd,r.length,r2.length];lia
def zoT {es:List Expr}{kk:Nat}{tpos:Pos}{a b:Expr}{t:DA}{p pos:Pos}(hg:Gl X "zip")(hm:X.mg "zip"=none)(ha:PAD X [a,b] t)(hs:starEach [a,b] X.env=[(false,eval a X.env),(false,eval b X.env)]:=by exact zib rfl rfl)(hs2:starEach [b] X.env=[(false,eval b X.env)]:=by exact QK rfl) :
  Rf X (.Tuple es kk tpos) (.Call (.Name "zip" p) [a,b] [] pos) (Dp.zox t):=by with_unfolding_all exact(zhi (zsR hg hm ha hs hs2) fun Z H R hh=>Zw hh fun ad ρ S R0 st rh q k =>
 ⟨ad,ρ,S,_,st,rh,q,fun ds S1 vs H1 ad1 q0 w1 st1 r1=>by
  rcases q0 with⟨x,y,xs,ys,ed,hx,hy,q1⟩|⟨xs,ys,ed,q1⟩
  ·subst ed
   obtain⟨v,u,rfl,rv,ru⟩:=RB r1
   obtain⟨b1,ws,rfl,s,rs⟩:=hx.sq st1 rv
   obtain⟨b2,ws2,rfl,s2,rs2⟩:=hy.sq st1 ru
   exact⟨true,b1,b2,rfl,⟨ws,s⟩,⟨ws2,s2⟩,k _ S1 _ H1 ad1 q1 w1 st1 (zwz rv ru)⟩
  ·subst ed
   obtain⟨v,u,rfl,rv,ru⟩:=RB r1
   cases rv with
   |tup h r =>
    cases ru with
    |tup h2 r2=>exact⟨false,_,_,rfl,⟨_,ZK.of h⟩,⟨_,ZK.of h2⟩,k _ S1 _ H1 ad1 q1 w1 st1 (zt5 h r h2 r2)⟩⟩)
end
section
variable {X:Cx}{a b:Expr}{ta tb:DE}{pos:Pos}
theorem zlG (x:D)(hx:fl 20 x=true):∀ ys:List D,ys.all (fl 20)=true->((Ze ys).any fun z=>PyData.eqv z (YT x))=ys.any fun z=>eqv z x
 |[],_=>rfl
 |y::ys,h=>by
  rw[Va,qG]at h
  show(PyData.eqv (YT y) (YT x)||(Ze ys).any fun z=>PyData.eqv z (YT x))=_
  rw[ziL 20 y x h.1 hx,zlG x hx ys h.2]
  rfl
def zvO (X:Cx)(g:Bool->Bool):R2:=fun x y H Q=>∃ ad S dx dy b,zL X.K ad H S/\Rel X.K ad H dx x/\Rel X.K ad H dy y/\InD S dx dy b/\Q (.bl (g b)) H
def zkx {Z9:List (Addr×Obj)}{Z:L2.St}{H:Hp}{s:Shared}{ad:List Addr}{S:Z5}{dx dy:D}{x y:V}{v u:Value}{b:Bool}(I:Inv X Z9 Z H s)(st:zL X.K ad H S)(rx:Rel X.K ad H dx x)(ry:Rel X.K ad H dy y)(qx:RelV x v)(qy:RelV y u)(h:InD S dx dy b) :
  ∃ pd ps as bs,Reads s.heap v pd as/\(Reads s.heap u (.list ps) bs\/Reads s.heap u (.tuple ps) bs)/\pd.canLay0=true/\PyData.canLayAll0 ps=true/\min (PyData.depthAll ps) pd.depth<=60/\(ps.any fun z=>PyData.eqv z pd)=b:=by
 obtain⟨ys,hy,fx,fy,rfl⟩:=h
 obtain⟨as,ra⟩:=Ux I 20 dx x v fx rx qx
 obtain⟨c1,d1⟩:=zeD 20 dx fx
 obtain⟨c2,d2⟩:=zcH 20 ys fy
 rcases hy with rfl|hy
 ·obtain⟨bs,rb⟩:=Ux I 21 (.tup ys) y u fy ry qy
  exact⟨YT dx,Ze ys,as,bs,ra,.inr rb,c1,c2,by lia,zlG dx fx ys fy⟩
 ·obtain⟨a2,vs2,rfl,s2,r2⟩:=hy.sq st ry
  cases qy
  obtain⟨its2,rv2,ht2,hz2⟩:=I.list s2
  obtain⟨o2,ho2,hc2,n2,hd2⟩:=ht2.isList
  obtain⟨bs,rb⟩:=zdB I 20 (Ux I 20) _ _ _ fy r2 rv2
  exact⟨YT dx,Ze ys,as,_,ra,.inl (.list ho2 hc2 hd2 (by simpa using rb)),c1,c2,by lia,zlG dx fx ys fy⟩
def zxI {k:Nat}(hr:Zk k X.A):OC X .In oIn:=⟨_,(Zm.or (r:=zvO X id) (fun Z9 s Z H x y v u Q I qx qy ⟨ad,S,dx,dy,b,st,rx,ry,h,q⟩=>by
  obtain⟨pd,ps,as,bs,ra,rb,c1,c2,hd,e⟩:=zkx I st rx ry qx qy h
  have hu:=hr.units
  rcases rb with rb|rb
  ·exact PySem.SeqAt.in_list_reads rb ra c2 c1 (by lia) ⟨.bl _,H,I,by rw[e];rfl,q⟩
  ·exact PySem.SeqAt.in_tuple_reads rb ra c2 c1 (by lia) ⟨.bl _,H,I,by rw[e];rfl,q⟩) zqk),
 fun ad H S x y v u Q0 Q st rx ry h k=>by
  rcases h with⟨b,h,q⟩|⟨c,z,rfl,rfl,q⟩
  ·exact .inl ⟨ad,S,x,y,b,st,rx,ry,h,k _ S _ H ad q Wd.refl st (.bl _)⟩
  ·cases rx
   cases ry
   exact .inr ⟨_,z,rfl,rfl,by rw[PySem.StrLaws.found_one];exact k _ S _ H ad q Wd.refl st (.bl _)⟩⟩
def zru {k:Nat}(hr:Zk k X.A):OC X .NotIn zl0:=⟨_,(Zm.or (r:=zvO X (!·)) (fun Z9 s Z H x y v u Q I qx qy ⟨ad,S,dx,dy,b,st,rx,ry,h,q⟩=>by
  obtain⟨pd,ps,as,bs,ra,rb,c1,c2,hd,e⟩:=zkx I st rx ry qx qy h
  have hu:=hr.units
  rcases rb with rb|rb
  ·exact PySem.SeqAt.notIn_list_reads rb ra c2 c1 (by lia) ⟨.bl _,H,I,by rw[e];rfl,q⟩
  ·exact PySem.SeqAt.notIn_tuple_reads rb ra c2 c1 (by lia) ⟨.bl _,H,I,by rw[e];rfl,q⟩) zk8),
 fun ad H S x y v u Q0 Q st rx ry h k=>by
  rcases h with⟨b,h,q⟩|⟨c,z,rfl,rfl,q⟩
  ·exact .inl ⟨ad,S,x,y,b,st,rx,ry,h,k _ S _ H ad q Wd.refl st (.bl _)⟩
  ·cases rx
   cases ry
   exact .inr ⟨_,z,rfl,rfl,by rw[PySem.StrLaws.found_one];exact k _ S _ H ad q Wd.refl st (.bl _)⟩⟩
def ztO {op:CmpOp}{r':Zc}(o:OC X op r')(ha:PD X a ta)(hb:PD X b tb)(hm:behindInMarks op b=false:=by with_unfolding_all rfl):PD X (.Compare a [op] [b] pos) (Z7 r' ta tb):=by
 with_unfolding_all
  obtain⟨r,ho,od⟩:=o
  exact YG (zmK ho ha hb hm) fun _ _ _=>zho od
def zsU {op:CmpOp}{r':Zc}(o:OC X op r')(ha:PD X a ta)(hb:PD X b tb)(hm:behindInMarks op b=false:=by with_unfolding_all rfl):WD X (.Compare a [op] [b] pos) (dT (Z7 r' ta tb)):=by
 with_unfolding_all
  obtain⟨r,ho,od⟩:=o
  refine zfM (zmV ho ha hb hm) fun Z H Q hh=>Zw hh fun ad ρ S Q0 st rh q k=>?_
  refine zho (Q:=fun x H'=>∃ k,x=.bl k/\Q k H') od ⟨ad,ρ,S,_,st,rh,q,fun d S' v H' ad' ⟨b,e,q'⟩ w st' r=>?_⟩
  subst e
  cases r
  exact⟨b,rfl,k b S' H' ad' q' w st'⟩
end
section
variable {X:Cx}
theorem ints_of:∀ {ns:List Int} {its:List Value},Vals (ns.map V.int) its->IntsAre its ns
 |[],_,r=>by cases r;exact .nil
 |n::ns,_,r=>by
  cases r with
  |cons h t =>
   obtain⟨k,rfl⟩:=h
   exact .cons _ _ (ints_of t)
theorem zm3:∀ {ns:List Int} {its:List Value},IntsAre its ns->Vals (ns.map V.int) its
 |[],_,r=>by cases r;exact .nil
 |n::ns,_,r=>by
  cases r with
  |cons _ _ t=>exact .cons ⟨_,rfl⟩ (zm3 t)
def zwH (K:PySem.W.Frag):List V->Hp->VK->Prop:=fun xs H Q=>∃ (p:Addr) (ns:List Int),xs=[.ref p]/\Zr K H p (ns.map V.int)/\ns.length<64/\∀ (l:Addr) (ss:List Int),H l=none->ss.Perm ns->ss.Pairwise (fun a b=>a<=b)->Q (.ref l) (upd H l (.lst (ss.map V.int)))
def zlg {K:PySem.W.Frag}(hK:X.K=K):YJ X (.builtin "sorted") (zwH K):=fun Z9 s Z H xs us Q I r h=>by
 subst hK
 obtain⟨p,ns,rfl,hS,h64,q⟩:=h
 obtain⟨u,rfl,ru⟩:=vals1 r
 cases ru
 obtain⟨its,rv,pl,hz⟩:=I.list hS
 have hI:=ints_of rv
 have hlen:=rv.length
 rw[qb]at hlen hz
 refine sorted_ints pl.isList hI (by lia) fun out ss h1 h2 h3=>?_
 obtain⟨e,he⟩:=sortedAll_at s.heap its out
 have hv:=zm3 h1
 refine⟨.ref (s.heap.objs.size+1),_,I.laid (t':=s.toks) (a:=s.heap.objs.size+1) (o:=.lst (ss.map V.int)) (fun b o q=>sortedAll_old q) (RZ _) ⟨?_,out.toList,e,hv,?_⟩,rfl,q _ ss (I.hok.fresh (RZ _)) h2 h3⟩
 ·rw[qb,h2.length_eq];exact hz
 ·rw[he]
def zrs:BC X (.builtin "sorted") zpp:=⟨_,zlg rfl,fun ad H S ds vs Q0 Q st r ⟨x,ns,e,hx,h64,q⟩ k=>by
 subst e
 obtain⟨v,rfl,rv⟩:=XM r
 obtain⟨a,ws,rfl,hs,rs⟩:=hx.sq st rv
 cases rs.ints
 exact⟨a,ns,rfl,hs,h64,fun l ss hl hp hw=>Qf st k (zB.mk_ints ss) (q ss hp hw) l hl⟩⟩
def zua:BC X (.builtin "sorted") zow:=by
 obtain⟨r1,c1,d1⟩:=zqN (X:=X)
 obtain⟨r2,c2,d2⟩:=zrs (X:=X)
 refine⟨fun xs H Q=>r1 xs H Q\/r2 xs H Q,fun Z9 s Z H xs us Q I r h=>?_,fun ad H S ds vs Q0 Q st r h k=>?_⟩
 ·rcases h with h|h
  ·exact c1 Z9 s Z H xs us Q I r h
  ·exact c2 Z9 s Z H xs us Q I r h
 ·rcases h with h|h
  ·exact .inl (d1 ad H S ds vs Q0 Q st r h k)
  ·exact .inr (d2 ad H S ds vs Q0 Q st r h k)
end
section
variable {X:Cx}{e:Expr}{pos p2 p3:Pos}{lo:Option Expr}
end
theorem zlC {K:PySem.W.Frag}{ad:List Addr}{H:Hp}:∀ {zs:List Str} {vs:List V},zB K ad H (zs.map D.str) vs->vs=zs.map V.str
 |[],_,.nil=>rfl
 |z::zs,_,.cons r t=>by cases r;rw[zlC t];rfl
def zsT {X:Cx}{a:Expr}{t:DA}{p1 p2 pos1 pos2:Pos}(hgl:Gl X "len")(hml:X.mg "len"=none)(hgr:Gl X "set")(hmr:X.mg "set"=none)(ha:PAD X [a] t)(hc:X.calm=true:=by rfl)
  (hs:starEach [a] X.env=[(false,eval a X.env)]:=by exact QK rfl)
  (hs3:starEach [.Call (.Name "set" p2) [a] [] pos2] X.env=[(false,eval (.Call (.Name "set" p2) [a] [] pos2) X.env)]:=by rfl) :
  PD X (.Call (.Name "len" p1) [.Call (.Name "set" p2) [a] [] pos2] [] pos1) (dB zoa t):=by with_unfolding_all exact(YG (zt3 hc hgl hml hgr hmr ha hs hs3) fun Z H Q hh=>Zw hh fun ad ρ S Q0 st rh q k =>
  ⟨ad,ρ,S,_,st,rh,q,fun ds S1 vs H1 ad1 ⟨x,zs,ed,hx,hl,q1⟩ w1 st1 r1=>by
   subst ed
   obtain⟨v,rfl,rv⟩:=XM r1
   obtain⟨a1,ws,rfl,hs,rs⟩:=hx.sq st1 rv
   cases zlC rs
   exact⟨a1,zs,rfl,hs,hl,k _ S1 _ H1 ad1 q1 w1 st1 (.int _)⟩⟩)
section
variable {X:Cx}{e:Expr}{t:DA}{p pos kp cp:Pos}{j:Nat}
end
section
variable {X:Cx}{e o value:Expr}{te to tv:DE}{f c:Str}{pos pos':Pos}
def Yu (he:PD X e te)(hb:attributeBase e f X.env (eval e X.env)=eval e X.env):PD X (.Attribute e f pos) (YQ f te):=by with_unfolding_all exact(YG (zuK he hb) fun Z H Q hh=>Zw hh fun ad ρ S Q0 st rh q k =>
  ⟨ad,ρ,S,_,st,rh,q,fun x S1 v H1 ad1 ⟨n,c,fs,d,ex,hn,hl,q1⟩ w1 st1 r1=>by
   subst ex
   cases r1 with
   |ref en =>
    obtain⟨C,dx,vs,h1,hc,hns,rf,hna⟩:=st1.cell n _ _ en hn
    obtain⟨v,hv,rv⟩:=rf.look hl
    obtain⟨q2,hq2,e2⟩:=zkV hl
    exact⟨_,C,dx,vs,v,rfl,h1,hc,e2▸hna q2 hq2,hv,k d S1 v H1 ad1 q1 w1 st1 rv⟩⟩)
def R8 (hna:∀ C,PySem.W.nsIn X.K mainGlobals c=some (some (.ref C))->YM X.K C f)(ho:PD X o to)(hv:PD X value tv)(hs:swapsWith value (some (.Attribute o f pos')) pos.line X.env=pure false:=by rfl) :
  Xb X (.Assign [.Attribute o f pos'] value pos) (Uj c f to tv):=by with_unfolding_all exact(VD (zvS ho hv hs) fun E Z H hh=>Zw hh fun ad ρ S E0 so rh q k =>
 ⟨ad,ρ,S,_,so,rh,q,fun y S1 vy H1 ad1 q1 w1 st1 r1=>⟨ad1,ρ,S1,_,st1,rh.wd w1,q1,fun x S2 vx H2 ad2 ⟨n,fs,ex,hn,hl,q2⟩ w2 st2 r2=>by
  subst ex
  cases r2 with
  |ref en =>
   obtain⟨C,dx,vs,h1,hc,hns,rf,hna'⟩:=st2.cell n _ _ en hn
   have w3:Wd ad2 H2 ad2 (upd H2 _ (.ins C dx (Yk f vy vs))):=Wd.putI en h1
   exact⟨_,C,dx,vs,rfl,h1,hc,hna C hns,by rw[<- rf.length];lia,k.nx ρ _ Z _ ad2 q2 ((w1.trans w2).trans w3) (st2.putI en h1 hc hns rf hna' (hna C hns) (r1.wd w2)) (((rh.wd w1).wd w2).wd w3)⟩⟩⟩)
omit B in
def zmG {K:PySem.W.Frag}{C:Addr}{c:Str}{init:ZS}(hc:Cls K C)(hn:PySem.W.nsIn K mainGlobals c=some (some (.ref C))):∀ vs H Q,Z4 K (zns c init) vs H Q E0->∀ x dx,H x=none->H dx=none->dx≠x ->
  Z4 K init (.ref x::vs) (upd (upd H dx (.own x)) x (.ins C dx [])) (fun v H2=>v=.non/\Q (.ref x) H2) E0:=by
 rintro vs H Q ⟨ad,S,ds,Q0,st,r,hf,k⟩ x dx hx hdx hne
 letI:Bs:=⟨ad,H⟩
 obtain⟨w,st'⟩:=st.newI (c:=c) hx hdx hne hc hn
 have rx:Rel K (ad++[x]) (upd (upd H dx (.own x)) x (.ins C dx [])) (.ref S.length) (.ref x):=.ref (by rw[<- st.len,qi (qf _),V7];rfl)
 have hf':init (.ref S.length::ds) (S++[.ins c []]) (fun d S2=>d=.non/\Q0 (.ref S.length) S2):=hf
 refine⟨ad++[x],S++[.ins c []],.ref S.length::ds,_,st'.base,.cons rx (r.wd w),hf',fun d S' v H' ad' q w' st2 rv=>?_⟩
 obtain⟨rfl,q⟩:=q
 cases rv
 exact⟨rfl,k _ S' _ H' ad' q (w.trans w') (st'.back st2) (rx.wd w')⟩
def zlk {k j:Nat}{x:Str}{e:Expr}{es:List Expr}{t:DA}{p:Pos}{f:ZS}(G:zjJ X.prog X.w X.K X.mg X.base k x (Z4 X.K f))(hr:Zk j X.A)
  (ha:PAD X (e::es) t) (hk:k+1<=j:=by decide) (hg:Gl X x:=by rfl) (hdb:(x==("__debug__":Str))=false:=by decide) (he:starEach (e::es) X.env=(false,eval e X.env)::starEach es X.env:=by exact Ur rfl) (hpl:(backTo pos (starEach es X.env)).any (·.1)=false:=by exact Q6 rfl) :
  PD X (.Call (.Name x p) (e::es) [] pos) (dCall f t):=by with_unfolding_all exact(YG (zxG G hr hk hg ha hdb he hpl) fun Z H Q hh=>Zw hh fun ad ρ S Q0 st rh q k =>
 ⟨ad,ρ,S,_,st,rh,q,fun ds S1 vs H1 ad1 q1 w1 st1 r1=>by
  show Z4 X.K f (vs++[]) H1 Q E0
  rw[qU];exact⟨ad1,S1,ds,Q0,st1.base,r1,q1,(k.wd w1).base st1⟩⟩)
end
end Dp
namespace Dp
open PySem PySem.Spec PyProof.Rows L2 My
def Qv (h0 h:Heap)(e:Addr)(cls:Value)(H:Hp):Prop:=h0.get? e=none/\H e=none/\∃ (a0:Value) (oe:Obj) (vs:Array Value) (T:Addr) (oT:Obj) (ts:Array Value),h.get? e=some oe/\(oe.cls=cls/\vs[0]?=some a0)/\oe.data=.fields vs/\vs[1]?=some (.ref T)/\h0.get? T=none/\T≠e/\h.get? T=some oT/\oT.data=.fields ts/\ts[3]?=some .none/\H T=none
def Xp (P:Program)(w:World):Ve:=fun outer H s E e s'=>∃ (a C:Addr) (H':Hp),e=.ref a/\s'.os=s.os/\AllBare s'.gens/\Un (frs outer) [] H H' s.heap s'.heap/\Zi P w H' s'.heap/\Qv s.heap s'.heap a (.ref C) H'/\E (.ref C) none H'
def Vd (h:Heap)(p:Addr->Bool):Heap:={ h with objs:=h.objs.mapIdx fun i o=>if p i=true then o else { cls:=.none,data:=.freed } }
def zez (h:Heap)(p:Addr->Bool)(b:Addr):(Vd h p).get? b=if p b=true then h.get? b else none:=by
  unfold Vd Heap.get?
  dsimp only
  rw[Array.getElem?_mapIdx]
  cases h.objs[b]? with
  |none=>cases p b<;>rfl
  |some o=>cases p b<;>rfl
def ziO (h:Heap)(p:Addr->Bool):(Vd h p).StaysIn h:=fun b o e=>by
 rw[zez]at e
 split at e
 ·exact e
 ·cases e
theorem zjz {h base base':Heap}:∀ {l:List Env},h.FunFrames base l->(∀ L∈frs l,base'.get? L=none)->h.FunFrames base' l
 |[],_,_=>True.intro
 |env::l,⟨h1,⟨L,o,h2,h3,h4,h5⟩,h6⟩,hb=>⟨h1,⟨L,o,h2,hb L (TQ.mpr ⟨env,by simp,h2⟩),h4,h5⟩,zjz h6 fun L' hL=>hb L' (by
   obtain⟨e',he,e2⟩:=TQ.mp hL
   exact TQ.mpr ⟨e',qB _ he,e2⟩)⟩
section
variable {X:Cx}{Z9:List (Addr×Obj)}{Z:L2.St}{H:Hp}{s:Shared}
def zp4 (I:Inv X Z9 Z H s)(hex:X.ex=[]){b:Addr}{o:Obj}(e:X.s₀.heap.get? b=some o):∃ o',s.heap.get? b=some o':=I.base.there b o e (by rw[hex];simp)
def zdP (I:Inv X Z9 Z H s)(hex:X.ex=[]){b:Addr}(e:s.heap.get? b=none):X.s₀.heap.get? b=none:=by
 cases q:X.s₀.heap.get? b with
 |none=>rfl
 |some o=>obtain⟨o',h⟩:=zp4 I hex q;rw[e]at h;cases h
def ziv (I:Inv X Z9 Z H s){b:Addr}(e:s.heap.get? b=none):H b=none:=by
 cases q:H b with
 |none=>rfl
 |some o =>
  have:=(I.hok b o q).lt
  exfalso
  cases o with
  |lst xs=>obtain⟨_,_,_,_,h⟩:=I.hok b _ q;rw[e]at h;cases h
  |tup xs=>obtain⟨_,_,_,ob,h,_⟩:=I.hok b _ q;rw[e]at h;cases h
  |dK Z6=>obtain⟨_,_,_,_,ob,_,_,h,_⟩:=I.hok b _ q;rw[e]at h;cases h
  |dT Z6=>obtain⟨_,_,_,_,ob,_,_,h,_⟩:=I.hok b _ q;rw[e]at h;cases h
  |set S n=>obtain⟨ob,_,_,_,h,_⟩:=I.hok b _ q;rw[e]at h;cases h
  |ins C dx fs=>obtain⟨_,_,_,h,_⟩:=I.hok b _ q;rw[e]at h;cases h
  |own y=>obtain⟨_,h⟩:=I.hok b _ q;rw[e]at h;cases h
  |xd fs=>obtain⟨_,⟨_,_,_,h,_⟩,_⟩:=I.hok b _ q;rw[e]at h;cases h
  |rng lo hi=>obtain⟨_,_,_,h⟩:=I.hok b _ q;rw[e]at h;cases h
  |frz ob u=>obtain⟨h,_⟩:=I.hok b _ q;rw[e]at h;cases h
  |tbl ps=>have h:s.heap.get? b=some _:=I.hok b _ q;rw[e]at h;cases h
  |met f y=>have h:s.heap.get? b=some _:=I.hok b _ q;rw[e]at h;cases h
  |ext φ=>obtain⟨_,⟨_,h⟩,_⟩:=I.hok b _ q;rw[e]at h;cases h
def zkr (I:Inv X Z9 Z H s)(hex:X.ex=[])(hst:X.stack=X.env::X.outer)(hfr:X.env.frame=some X.env.locals){e T0:Addr}{h':Heap}(he:X.s₀.heap.get? e=none)(hT:X.s₀.heap.get? T0=none)(He:H e=none)(HT:H T0=none)
  (hk:∀ b o,s.heap.get? b=some o->b≠e->b≠T0->b∉frs X.stack->h'.get? b=some o) (hs:∀ b∈frs X.stack,∀ o,s.heap.get? b=some o->∃ sl,h'.get? b=some { o with slots:=sl }) :
  Un X.fs [] X.H₀ H X.s₀.heap h'/\Zi X.prog X.w H h':=by
 have nfr:∀ {b:Addr} {o:Obj},X.s₀.heap.get? b=some o->b∉X.fs->b∉frs X.stack:=fun {b o} q n m=>by
  rw[hst]at m
  obtain⟨e',h1,h2⟩:=TQ.mp m
  rcases qg.mp h1 with rfl|h1
  ·rw[hfr]at h2
   cases h2
   exact absurd (qq q) (Nat.not_lt.mpr I.ok.above)
  ·exact n (TQ.mpr ⟨e',h1,h2⟩)
 have sub:∀ {b:Addr},b∈X.fs->b∈frs X.stack:=fun {b} m=>by
  obtain⟨e',h1,h2⟩:=TQ.mp m
  rw[hst]
  exact TQ.mpr ⟨e',qB _ h1,h2⟩
 have nex:∀ b:Addr,b∉X.ex:=fun b=>by rw[hex];simp
 have ne:∀ {b:Addr} {o:Obj},X.s₀.heap.get? b=some o->b≠e/\b≠T0:=fun {b o} q=>⟨fun z=>(by rw[z,he]at q;cases q),fun z=>(by rw[z,hT]at q;cases q)⟩
 have ub:=I.base
 refine⟨⟨fun b o q n m _=>?_,fun b o q n m _=>?_,fun b o q n _=>ub.free b o q n (nex b),fun b o q _=>?_,ub.tups,ub.frzs,ub.tbls⟩,fun a o q=>?_⟩
 ·exact hk b o (ub.keep b o q n m (nex b)) (ne q).1 (ne q).2 (nfr q m)
 ·obtain⟨sl,h1⟩:=ub.slot b o q n m (nex b)
  obtain⟨sl',h2⟩:=hs b (sub m) _ h1
  exact⟨sl',h2⟩
 ·obtain⟨o',h1⟩:=ub.there b o q (nex b)
  by_cases m:b∈frs X.stack
  ·obtain⟨sl,h2⟩:=hs b m o' h1
   exact⟨_,h2⟩
  ·exact⟨o',hk b o' h1 (ne q).1 (ne q).2 m⟩
 ·have inn:∀ {b:Addr},H b≠none->b≠e/\b≠T0/\b∉frs X.stack:=fun {b} n=>⟨fun z=>n (by rw[z];exact He),fun z=>n (by rw[z];exact HT),fun z=>n (I.stkFree b z)⟩
  refine(I.hok a o q).stay (fun b u hb r=>?_) (fun _ r=>r) fun _ _ r=>r
  have n:H b≠none:=by
   rcases hb with rfl|hb
   ·rw[q];exact Option.some_ne_none _
   ·rw[hb];exact Option.some_ne_none _
  obtain⟨n1,n2,n3⟩:=inn n
  exact hk b u r n1 n2 n3
def zpl (I:Inv X Z9 Z H s)(hex:X.ex=[])(hst:X.stack=X.env::X.outer)(hfr:X.env.frame=some X.env.locals){e C:Addr}{E:Value->Shared->Prop}{Q:Unit->Shared->Prop}(F:Qv X.s₀.heap s.heap e (.ref C) H)
  (hQ:∀ s':Shared,s'.os=X.s₀.os->AllBare s'.gens->Un X.fs [] X.H₀ H X.s₀.heap s'.heap->Zi X.prog X.w H s'.heap->Qv X.s₀.heap s'.heap e (.ref C) H->Q () s'):wpAny (model X.prog X.w) X.A (leaving X.env (.ref e)) Q E s:=by
 obtain⟨he,He,a0,oe,vs,T,oT,ts,f1,f2,f3,f4,f5,f6,f7,f8,f9,HT⟩:=F
 have ff:s.heap.FunFrames X.base X.stack:=I.stack
 obtain⟨p,hp⟩:∃ p:Addr->Bool,∀ b,p b=true↔b≠e/\b≠T/\b∉frs X.stack:=⟨fun b=>decide (b≠e/\b≠T/\b∉frs X.stack),fun b=>decide_eq_true_iff⟩
 have mno:∀ {b:Addr},¬ (b≠e/\b≠T/\b∉frs X.stack)->(Vd s.heap p).get? b=none:=fun {b} n=>by
  rw[zez,if_neg (fun z=>n ((hp b).mp z))]
 have myes:∀ {b:Addr} {o:Obj},s.heap.get? b=some o->b≠e->b≠T->b∉frs X.stack->(Vd s.heap p).get? b=some o:=fun {b o} q n1 n2 n3=>by
  rw[zez,if_pos ((hp b).mpr ⟨n1,n2,n3⟩)];exact q
 have fb:s.heap.FunFrames (Vd s.heap p) X.stack:=zjz ff fun L hL=>mno fun z=>z.2.2 hL
 have fl:Heap.FlyingW (Vd s.heap p) X.stack e (.ref C) a0 s.heap:=⟨ziO _ _,mno fun z=>z.1 rfl,fb,oe,vs,T,oT,ts,f1,f2,f3,f4,mno fun z=>z.2.1 rfl,f6,f7,f8,f9⟩
 have fr:=I.ok.frames
 rw[hst]at fr
 rw[hst]at fl
 refine wpAny_leaves_onW fr hfr fl fun h' ⟨k1,k2,k3,oe',vs',T',oT',ts',g1,g2,g3,g4,g5,g6,g7,g8,g9⟩ us=>?_
 have hs:∀ b∈frs X.stack,∀ o,s.heap.get? b=some o->∃ sl,h'.get? b=some { o with slots:=sl }:=fun b hb o q=>by
  obtain⟨_,o',h1,h2⟩:=ff.mem hb
  rw[q]at h1;cases h1
  exact us b o q h2
 have hk:∀ b o,s.heap.get? b=some o->b≠e->b≠T->b∉frs X.stack->h'.get? b=some o:=fun b o q n1 n2 n3=>k1 b o (myes q n1 n2 n3)
 obtain⟨u1,u2⟩:=zkr I hex hst hfr he f5 He HT hk hs
 have nT:X.s₀.heap.get? T'=none/\H T'=none:=by
  by_cases z1:T'=T
  ·rw[z1];exact⟨f5,HT⟩
  ·by_cases z2:T'∈frs X.stack
   ·exfalso
    obtain⟨_,o',h1,h2⟩:=ff.mem z2
    obtain⟨sl,h3⟩:=hs T' z2 o' h1
    rw[g7]at h3;cases h3
    exact h2 ts' g8
   ·have:s.heap.get? T'=none:=by
     cases q:s.heap.get? T' with
     |none=>rfl
     |some o=>rw[myes q g6 z1 z2]at g5;cases g5
    exact⟨zdP I hex this,ziv I this⟩
 exact hQ _ I.os I.bare u1 u2 ⟨he,He,a0,oe',vs',T',oT',ts',g1,g2,g3,g4,nT.1,g6,g7,g8,g9,nT.2⟩
def zou (I:Inv X Z9 Z H s)(hex:X.ex=[])(hst:X.stack=X.env::X.outer)(hfr:X.env.frame=some X.env.locals){e C:Addr}{args:List Value}{h1:Heap}{E:Value->Shared->Prop}{Q:Unit->Shared->Prop}(hx:s.heap.MadeExcOf h1 e (.ref C) args)
  (hQ:∀ s':Shared,s'.os=X.s₀.os->AllBare s'.gens->Un X.fs [] X.H₀ H X.s₀.heap s'.heap->Zi X.prog X.w H s'.heap->Qv X.s₀.heap s'.heap e (.ref C) H->Q () s'):wpAny (model X.prog X.w) X.A (leaving X.env (.ref e)) Q E { s with heap:=h1 }:=by
 have ff:s.heap.FunFrames X.base X.stack:=I.stack
 obtain⟨p,hp⟩:∃ p:Addr->Bool,∀ b,p b=true↔b∉frs X.stack:=⟨fun b=>decide (b∉frs X.stack),fun b=>decide_eq_true_iff⟩
 have mno:∀ {b:Addr},b∈frs X.stack->(Vd s.heap p).get? b=none:=fun {b} n=>by
  rw[zez,if_neg (fun z=>(hp b).mp z n)]
 have myes:∀ {b:Addr} {o:Obj},s.heap.get? b=some o->b∉frs X.stack->(Vd s.heap p).get? b=some o:=fun {b o} q n3=>by
  rw[zez,if_pos ((hp b).mpr n3)];exact q
 have fb:s.heap.FunFrames (Vd s.heap p) X.stack:=zjz ff fun L hL=>mno hL
 have fr:=I.ok.frames
 rw[hst]at fr
 rw[hst]at fb
 refine wpAny_leaves_madeW (base:=Vd s.heap p) (h:=s.heap) fr hfr (ziO _ _) fb hx fun h' t ⟨k1,k2,k3,oe',vs',T',oT',ts',g1,g2,g3,g4,g5,g6,g7,g8,g9⟩ _ _ us=>?_
 have us':s.heap.UpToSlots h':=fun b o q n=>us b o (hx.keeps b o q) n
 have hs:∀ b∈frs X.stack,∀ o,s.heap.get? b=some o->∃ sl,h'.get? b=some { o with slots:=sl }:=fun b hb o q=>by
  obtain⟨_,o',h1,h2⟩:=ff.mem hb
  rw[q]at h1;cases h1
  exact us' b o q h2
 have hk:∀ b o,s.heap.get? b=some o->b≠e->b≠e->b∉frs X.stack->h'.get? b=some o:=fun b o q _ _ n3=>k1 b o (myes q n3)
 have he:=zdP I hex hx.new
 have He:=ziv I hx.new
 obtain⟨u1,u2⟩:=zkr I hex hst hfr he he He He hk hs
 have nT:X.s₀.heap.get? T'=none/\H T'=none:=by
  by_cases z2:T'∈frs X.stack
  ·exfalso
   obtain⟨_,o',h1,h2⟩:=ff.mem z2
   obtain⟨sl,h3⟩:=hs T' z2 o' h1
   rw[g7]at h3;cases h3
   exact h2 ts' g8
  ·have:s.heap.get? T'=none:=by
    cases q:s.heap.get? T' with
    |none=>rfl
    |some o=>rw[myes q z2]at g5;cases g5
   exact⟨zdP I hex this,ziv I this⟩
 exact hQ _ I.os I.bare u1 u2 ⟨he,He,_,oe',vs',T',oT',ts',g1,g2,g3,g4,nT.1,g6,g7,g8,g9,nT.2⟩
end
def XC (K:PySem.W.Frag)(f:Ww):Sp:=fun vs H Q E=>∃ ad S ds Q0 X0,@zL ⟨ad,H⟩ K ad H S/\zB K ad H ds vs/\f ds S Q0 X0/\@KK ⟨ad,H⟩ K ad H Q0 Q /\
 ∀ (c:Str) (C:Addr) (S':Z5) (ad':List Addr) (H':Hp),X0 c S'->@zL ⟨ad,H⟩ K ad' H' S'->PySem.W.nsIn K mainGlobals c=some (some (.ref C))->E (.ref C) none H'
structure Uw (P:Program)(w:World)(K:PySem.W.Frag)(mg:Str->Option Value)(base:Heap)(k:Nat)(x:Str)(ps:List Str)(sp:Sp):Prop where
 ex:∃ f fd,zO P w K mg base (Xp P w) k f fd ps sp/\Binds K fd ps []/\PySem.W.keepIn K (.ref f)=true/\mg x=some (.ref f)
def XOk [B:Bs](X:Cx)(ex:XR):Prop:=∀ (Z9:List (Addr×Obj)) (Z:L2.St) (H:Hp) (s s':Shared) (ad ad':List Addr) (ρ:ZR) (S S':Z5) (c:Str) (C a:Addr) (H':Hp),Inv X Z9 Z H s->zL X.K ad H S->YZ X.K ad H ρ Z->ex ρ c S'->zL X.K ad' H' S'->Wd ad H ad' H' ->
 PySem.W.nsIn X.K mainGlobals c=some (some (.ref C))->s'.os=s.os->AllBare s'.gens->Un (frs X.stack) [] H H' s.heap s'.heap->Zi X.prog X.w H' s'.heap->Qv s.heap s'.heap a (.ref C) H'->X.xe (.ref a) s'
def XMk [B:Bs](X:Cx)(ex:XR):Prop:=∀ (Z9:List (Addr×Obj)) (Z:L2.St) (H:Hp) (s:Shared) (ad:List Addr) (ρ:ZR) (S:Z5) (c:Str) (C e:Addr) (args:List Value) (h1:Heap),Inv X Z9 Z H s->zL X.K ad H S->YZ X.K ad H ρ Z->ex ρ c S ->
 PySem.W.nsIn X.K mainGlobals c=some (some (.ref C))->s.heap.MadeExcOf h1 e (.ref C) args->X.xe (.ref e) { s with heap:=h1 }
section
variable [B:Bs]{X:Cx}
def Vm {k j:Nat}{x:Str}{ps:List Str}{f:Ww}{ex:XR}{p pos:Pos}{e:Expr}{es:List Expr}{t:DA}(G:Uw X.prog X.w X.K X.mg X.base k x ps (XC X.K f))(hX:XOk X ex)(hr:Zk j X.A)
  (ha:PAD X (e::es) t) (hk:k<=j:=by decide) (hg:Gl X x:=by rfl) (hdb:(x==("__debug__":Str))=false:=by decide) (he:starEach (e::es) X.env=(false,eval e X.env)::starEach es X.env:=by exact Ur rfl) (hpl:(backTo pos (starEach es X.env)).any (·.1)=false:=by exact Q6 rfl) :
  PD X (.Call (.Name x p) (e::es) [] pos) (Wm f ex t):=by
 with_unfolding_all
  intro Z9 s Z H Q I h
  obtain⟨ad,ρ,S,Q0,st,rh,q,kk⟩:=h
  obtain⟨fa,fd,F,b,kp,m⟩:=G.ex
  have F:=F.mono hk
  refine wpAny_Call_Name_kw (zfp I hg m ?_ hdb)
  have hA:=ha pos Z9 s Z H (fun vs H1=>∃ ds S1 ad1,f ds S1 Q0 (ex ρ)/\Wd ad H ad1 H1/\zL X.K ad1 H1 S1/\zB X.K ad1 H1 ds vs) I ⟨ad,ρ,S,_,st,rh,q,fun ds S1 vs H1 ad1 q1 w1 st1 r1=>⟨ds,S1,ad1,q1,w1,st1,r1⟩⟩
  refine PySem.W.callWith_K (h₀:=X.base) I.ok.mod.kin kp (Z0 hA fun us s1 ⟨vs,H1,I1,r,q1⟩=>⟨I1.kIn,?_⟩) he hpl
  obtain⟨ds,S1,ad1,q1,w1,st1,r1⟩:=q1
  have hsp:XC X.K f vs H1 Q (fun cls _ H'=>∃ c C S' ad',cls=Value.ref C/\ex ρ c S'/\zL X.K ad' H' S'/\Wd ad1 H1 ad' H'/\PySem.W.nsIn X.K mainGlobals c=some (some (.ref C))) :=
   ⟨ad1,S1,ds,Q0,ex ρ,st1.base,r1,q1,(kk.wd w1).base st1,fun c C S' ad' H' hx st' hn=>⟨c,C,S',ad',rfl,hx,st1.back st',@zL.wd ⟨ad1,H1⟩ _ _ _ _ st',hn⟩⟩
  have hl:us.length=ps.length:=by rw[<- r.length];exact F.len _ _ _ _ hsp
  refine wpAny_call (codeAny_mono (F.run X.A X.stack s1 H1 ⟨us,[]⟩ us vs Q _ hr I1.env0 (by have:=b s1 us I1.kIn (by rw[qU];exact hl);rwa[qU]at this) r hsp) fun res s' hq=>?_)
  cases res with
  |error e =>
   obtain⟨a,C,H',rfl,os,bare,un,hok,fly,c,C',S',ad',hC,hx,st',wd',hn⟩:=hq
   cases hC
   exact hX Z9 Z H1 s1 s' ad1 ad' ρ S1 S' c C a H' I1 st1 (rh.wd w1) hx st' wd' hn os bare un hok fly
  |ok fl =>
   cases fl with
   |ret u=>exact I1.after hq
   |next=>exact False.elim hq
   |brk=>exact False.elim hq
   |cont=>exact False.elim hq
def ziQ:XOk X xF:=fun _ _ _ _ _ _ _ _ _ _ _ _ _ _ _ _ _ h=>h.elim
structure SQ (K:PySem.W.Frag)(C:Addr):Prop where
 ex:∃ nm q N bs bm hdct sn sub ab col dd k0 k1 k2 k3 k5,K.lookup C=some (excClassObj nm q C N bs bm hdct sn sub ab col dd k0 k1 k2 k3 k5 "ValueError.__new__")/\PySem.W.nsOkIn K N=true/\PySem.W.nsIn K N "__init__"=some none /\
  PySem.W.tailIn K [.type "ValueError",.type "Exception",.type "BaseException",.type "object"] bm=true
def ze8 {x:Str}{ex:XR}{np cpos pos:Pos}{e:Expr}{t:DA}(hX:XMk X ex)(hc:X.calm=true)(hC:∀ C,PySem.W.nsIn X.K mainGlobals x=some (some (.ref C))->SQ X.K C)(hx:∃ C,PySem.W.nsIn X.K mainGlobals x=some (some (.ref C))/\X.mg x=some (.ref C))(hg:Gl X x)
  (ha:PAD X [e] t) (ht:∀ ρ S Q,(∀ d,Q [d] S)->t ρ S Q) (hdb:(x==("__debug__":Str))=false:=by decide) (he:starEach [e] X.env=(false,eval e X.env)::starEach [] X.env:=by rfl) :
  Xb X (.Raise (some (.Call (.Name x np) [e] [] cpos)) none pos) (zfN ex x):=by
 with_unfolding_all
  intro Z9 s Z H D I h
  obtain⟨ad,ρ,S,E0,st,rh,q,k⟩:=h
  obtain⟨C,hn,hm⟩:=hx
  obtain⟨nm,qn,N,bs,bm,hdct,sn,sub,ab,col,dd,k0,k1,k2,k3,k5,lk,no,ni,tl⟩:=(hC C hn).ex
  have kin:=I.kIn
  have T:=PySem.W.tail_of_in kin tl
  have hv:=ha cpos Z9 s Z H (fun vs H1=>vs.length=1/\∃ ad1,Wd ad H ad1 H1/\zL X.K ad1 H1 S) I ⟨ad,ρ,S,fun ds S'=>ds.length=1/\S'=S,st,rh,ht _ _ _ (fun d=>⟨rfl,rfl⟩),fun ds S' vs H' ad' e' w' st' r'=>⟨by rw[<- r'.length];exact e'.1,ad',w',e'.2▸st'⟩⟩
  refine wpAny_Raise_call_subT (C:=C) (nm:=nm) (q:=qn) (N:=N) (bs:=bs) (bm:=bm) (hdct:=hdct) (sn:=sn) (sub:=sub) (ab:=ab) (col:=col) (dd:=dd) (k0:=k0) (k1:=k1) (k2:=k2) (k3:=k3) (k5:=k5) PySem.F.excBase_ValueError (T.hasType PySem.F.excBase_ValueError.hasBase) (I.ok.hd hc) (by rw[he];rfl) (PySem.W.nsMap_none_of_in I.ok.mod.kin no ni) (zfp I hg hm ⟨rfl,?_⟩ hdb)
  rw[he]at hv ⊢
  refine Calls.evalArgs_plain (wpAny_mono hv (fun us s1 hq=>?_) fun _ _ y=>y)
  obtain⟨vs,H1,I1,r,hl,ad1,w1,st1⟩:=hq
  have k1':=I1.kIn
  have hlen:us.length<=sizeLine:=by rw[<- r.length,hl];decide
  exact⟨rfl,hlen,k1' _ _ lk,(Heap.Ns.of_isNs (PySem.W.isNs_of_in I.ok.mod.kin no)).keeps I1.bk,PySem.W.tail_of_in k1' tl,fun h' e' hx=>hX Z9 Z H1 s1 ad1 ρ S x C e' us h' I1 st1 (rh.wd w1) q hn hx⟩
omit B in
def zqH {P:Program}{w:World}{K:PySem.W.Frag}{mg:Str->Option Value}{base:Heap}{x qual:Str}{st:Stmt}{f:Addr}{fd:FuncData}{N ps:List Str}{k:Nat}{sp:Ww}{b:XR->DS}(F:V5 K x qual st f fd)(S:RG N ps (zY st))
  (len:∀ ds So Q ex,sp ds So Q ex->ds.length=ps.length) (body:T8 N.length b sp)
  (term:∀ (cdv:Value) (A:Around) (outer:List Env) (s:Shared) (H:Hp) (E:XK),Zk k (A.deeper (envOfC qual (zY st) s.heap.objs.size f cdv))->∀ [Bs] (ex:XR),XOk (Wf (Xp P w) P w K mg base N qual (zY st) f cdv A outer s H E) ex->XMk (Wf (Xp P w) P w K mg base N qual (zY st) f cdv A outer s H E) ex->Vq (Wf (Xp P w) P w K mg base N qual (zY st) f cdv A outer s H E) (Xd st) (b ex)) :
  zO P w K mg base (Xp P w) (k+1) f fd ps (XC K sp):=by
 with_unfolding_all
  obtain⟨oc,od,kV,doc,pm,an,cdv,ct,osl,rfl,lk,hcd⟩:=F.ex
  refine zsF lk hcd S (fun vs H Q E ⟨ad,So,ds,Q0,X0,so,r,hf,kk,kx⟩=>by rw[<- r.length];exact len ds So Q0 X0 hf) fun A outer s H vs Q E hr ⟨ad,So,ds,Q0,X0,so,r,hf,kk,kx⟩=>?_
  letI:Bs:=⟨ad,H⟩
  have end1:∀ (c:Str) (C a:Addr) (S':Z5) (ad':List Addr) (H':Hp) (s':Shared),X0 c S'->zL K ad' H' S'->PySem.W.nsIn K mainGlobals c=some (some (.ref C))->s'.os=s.os->AllBare s'.gens->Un (frs outer) [] H H' s.heap s'.heap->Zi P w H' s'.heap->Qv s.heap s'.heap a (.ref C) H'->Xp P w outer H s E (.ref a) s' :=
   fun c C a S' ad' H' s' hx st' hn o1 o2 o3 o4 o5=>⟨a,C,H',rfl,o1,o2,o3,o4,o5,kx c C S' ad' H' hx st' hn⟩
  refine⟨_,term cdv A outer s H E hr (fun _=>X0) ?_ ?_,ad,Rj N.length ds,So,_,so,zlI N r,body ds So Q0 X0 hf,⟨fun ρ S' Z H' ad' q w' st' rh=>zjo so kk .non S' .non H' ad' q w' st' .non,zjo so kk,fun _ _ _ _ _ q=>q.elim,fun _ _ _ _ _ q=>q.elim⟩⟩
  ·intro Z9 Z H1 s1 s' ad1 ad' ρ S1 S' c C a H' I st1 rh hx st' wd' hn os bare un hok fly
   have I':=I.call' (ch:=[]) os un hok bare (fun b z=>absurd z (by simp))
   have f0:Qv s.heap s'.heap a (.ref C) H':=by
    obtain⟨g1,g2,a0,oe,vs,T,oT,ts,h1,h2,h3,h4,h5,h6⟩:=fly
    exact⟨zdP I rfl g1,g2,a0,oe,vs,T,oT,ts,h1,h2,h3,h4,zdP I rfl h5,h6⟩
   exact zpl I' rfl rfl rfl f0 fun s'' o1 o2 o3 o4 o5=>end1 c C a S' ad' H' s'' hx st' hn o1 o2 o3 o4 o5
  ·intro Z9 Z H1 s1 ad1 ρ S1 c C e args h1 I st1 rh hx hn hmade
   exact zou I rfl rfl rfl hmade fun s'' o1 o2 o3 o4 o5=>end1 c C e S1 ad1 H1 s'' hx st1 hn o1 o2 o3 o4 o5
end
section
variable {X:Cx}{Z9:List (Addr×Obj)}{Z:L2.St}{H H':Hp}{s s':Shared}
variable [B:Bs]
end
section
open PySem.W PySem.Builtin PySem.Builtin.ObjectAttr PySem.Builtin.Getset_descriptor
variable {prog:Program}{w:World}{A:Around}{E:Value->Shared->Prop}{s:Shared}{K:Frag}{x C:Addr}{o:Obj}
end
section
variable [B:Bs]{X:Cx}
end
def znJ (K:PySem.W.Frag)(C:Addr):Bool:=match K.lookup C with
 | some ⟨.type "type",_,.cls cd,sl⟩=>(match cd.mro,sl.toList with
  | .ref C'::bm,[_,_,_,_,some (.builtin n),_]=>C'==C&&!cd.hasDel&&n=="ValueError.__new__"&&PySem.W.nsOkIn K cd.ns&&PySem.W.nsIn K cd.ns "__init__"==some none&&PySem.W.tailIn K [.type "ValueError",.type "Exception",.type "BaseException",.type "object"] bm
  |_,_=>false)
 |_=>false
def SQ.of {K:PySem.W.Frag}{C:Addr}(q:znJ K C=true):SQ K C:=by
 unfold znJ at q
 split at q
 ·rename_i dd cd sl ho
  split at q
  ·rename_i C' bm k0 k1 k2 k3 n k5 hm hs
   simp only[qG,beq_iff_eq,Bool.not_eq_true']at q
   obtain⟨⟨⟨⟨⟨rfl,hdel⟩,rfl⟩,h1⟩,h2⟩,h3⟩:=q
   obtain⟨nm,bs,mro,ns,qn,hd,sn,sub,ab,col,del⟩:=cd
   dsimp only at hm hdel
   subst hm hdel
   have hsl:sl=#[k0,k1,k2,k3,some (.builtin "ValueError.__new__"),k5]:=by
    obtain⟨l⟩:=sl
    simp only at hs
    rw[hs]
   subst hsl
   exact⟨nm,qn,ns,bs,bm,hd,sn,sub,ab,col,dd,k0,k1,k2,k3,k5,ho,h1,h2,h3⟩
  ·cases q
 ·cases q
section
variable {X:Cx}[B:Bs]
theorem zj3:∀ {ds:List D} {j:Nat} {d:D},ds[j]?=some d->(Ze ds)[j]?=some (YT d)
 |[],_,_,h=>by simp at h
 |x::xs,0,d,h=>by
  have:x=d:=by simpa using h
  subst this;rfl
 |x::xs,j+1,d,h=>by
  show(Ze xs)[j]?=_
  exact zj3 (by simpa using h)
def ztQ (X:Cx):V->List V->Hp->VK->Prop:=fun x vs H Q=>∃ l ws y ad ds d,∃ j:Nat,∃ e,x=.ref l/\vs=[y]/\H l=some (.lst ws)/\zB X.K ad H ds ws/\Rel X.K ad H d y/\ds.all (fl 20)=true/\fl 20 d=true/\ds[j]?=some e/\eqv e d=true/\(∀ (m:Nat) e',m<j->ds[m]?=some e'->eqv e' d=false)/\Q (.int (j:Nat)) H
def zry {k:Nat}(hr:Zk k X.A):MtR X "list.index" (ztQ X):=by
 intro Z9 s Z H x vs v us Q I rx rv h
 obtain⟨l,ws,y,ad,ds,d,j,e,rfl,rfl,hH,r,ry,fds,fd,hj,he,hno,q⟩:=h
 cases rx
 obtain⟨u,rfl,ru⟩:=rv.one
 obtain⟨hz,its,n,rr,hl,ho⟩:=I.lstM hH
 obtain⟨as,ra⟩:=zdB I 20 (Ux I 20) _ _ _ fds r rr
 obtain⟨bs,rb⟩:=Ux I 20 d y u fd ry ru
 obtain⟨c1,d1⟩:=zcH 20 ds fds
 obtain⟨c2,d2⟩:=zeD 20 d fd
 have hlen:=r.length
 have hu:=hr.units
 have hjl:j<its.length:=by
  have:=My.VN hj
  lia
 have hm:=SeqAt.readsAll_map (Ze ds) _ _ c1 ra
 have rd:∀ (m:Nat) (hm':m<its.length) e',ds[m]?=some e'->PyData.eqv (SeqAt.readOf s.heap its[m]) (YT d)=eqv e' d:=fun m hm' e' h'=>by
  have h1:(its.map (SeqAt.readOf s.heap))[m]?=some (YT e'):=by rw[hm];exact zj3 h'
  rw[qj,qc hm']at h1
  have h2:SeqAt.readOf s.heap its[m]=YT e':=by simpa using h1
  rw[h2]
  have fe:fl 20 e'=true:=VB.mp fds e' (qe h')
  exact ziL 20 e' d fe fd
 refine call_meets F.slot_list_index ⟨_,ho,rfl⟩ F.entry_list_index (F.args_list_index_2 _ _)
  (SeqAt.list_indexAt l its.toArray n none #[] u (fun z=>PyData.eqv (SeqAt.readOf s.heap z) (YT d)) j (by rw[qm];exact hjl) (by rw[sizeLine_eq]at hz;lia) ?_ ?_) ⟨ho,SeqAt.items_eqAt (vs:=its.toArray) (by simpa using ra) rb c1 c2 ?_,?_⟩
 ·exact(rd j hjl e hj).trans he
 ·intro m hm1 hm2
  have hm3:m<its.length:=by simpa using hm1
  have hml:m<ds.length:=by lia
  exact(rd m hm3 _ (qc hml)).trans (hno m _ hm2 (qc hml))
 ·show X.A.units+1+min (PyData.depthAll (Ze ds)) (YT d).depth<cLine
  lia
 ·exact⟨.int (j:Nat),H,I.tok _,⟨_,rfl⟩,q⟩
def zr3 {k:Nat}(hr:Zk k X.A):MD X "list.index" zmg:=⟨_,zry hr,fun ad H S x ds v vs Q0 Q st rx r ⟨n,xs,y,j,e,ex,ey,hn,f,g,hl,hj,h1,h2,q⟩ kk=>by
 subst ex ey
 obtain⟨u,rfl,ru⟩:=XM r
 cases rx with
 |ref ea =>
  obtain⟨ws,hw,rw⟩:=st.cell n _ _ ea hn
  exact⟨_,ws,u,ad,xs,y,j,e,rfl,rfl,hw,rw,ru,f,g,hj,h1,h2,kk _ S _ H ad q Wd.refl st (.int _)⟩⟩
def zth:MD X "list.pop" zol:=⟨_,zrA,fun ad H S x ds v vs Q0 Q st rx r ⟨n,xs,y,ex,ey,hn,q⟩ k=>by
 subst ex ey
 obtain⟨u,rfl,ru⟩:=XM r
 cases ru
 cases rx with
 |ref e =>
  obtain⟨ws,hw,rw⟩:=st.cell n _ _ e hn
  cases rw with
  |@cons _ w _ ws' rw1 rw2 =>
   have w':=Wd.put (ws:=ws') e hw
   exact⟨_,w::ws',0,0,w,rfl,rfl,hw,by decide,by decide,by unfold seqIndex?;simp,rfl,k _ _ _ _ ad q w' (st.put e hw rw2) (rw1.wd w')⟩⟩
theorem zB.upto {K:PySem.W.Frag}{ad:List Addr}{H:Hp}(i:Int)(n:Nat):zB K ad H (upto i n) (((List.range n).map fun k:Nat=>i+(k:Int)).map V.int):=by
 unfold Dp.upto
 rw[qT]
 induction List.range n with
 |nil=>exact .nil
 |cons k ks ih=>exact .cons (.int _) ih
def ztM {a b:Expr}{t:DA}{p1 p2 pos1 pos2:Pos}(hgl:Gl X "list")(hml:X.mg "list"=none)(hgr:Gl X "range")(hmr:X.mg "range"=none)(ha:PAD X [a,b] t)(hc:X.calm=true:=by rfl)(h1:isStar a=false:=by rfl)(h2:isStar b=false:=by rfl) :
  PD X (.Call (.Name "list" p1) [.Call (.Name "range" p2) [a,b] [] pos2] [] pos1) (dB znA t):=by with_unfolding_all exact(YG (znE hc hgl hml hgr hmr ha (zib h1 h2) (QK h2)) fun Z H Q hh=>Zw hh fun ad ρ S Q0 st rh q k =>
 ⟨ad,ρ,S,_,st,rh,q,fun ds S1 vs H1 ad1 ⟨i,j,e,hl,q1⟩ w1 st1 r1=>by
  subst e
  obtain⟨u,w,rfl,ru,rw'⟩:=RB r1
  cases ru
  cases rw'
  exact⟨i,j,rfl,hl,fun l hl'=>Qf st1 (k.wd w1) (zB.upto i _) q1 l hl'⟩⟩)
end
section
variable {K:PySem.W.Frag}{ad:List Addr}{H:Hp}{S:Z5}[B:Bs]
omit B in
theorem RelK.val:∀ {fs:List (Str×D)} {vs:List (Key×V)} (z:Str),RelK K ad H fs vs->(dval fs z=none/\L2.Xc vs (Sum.inr z:Key)=none)\/∃ d v,dval fs z=some d/\L2.Xc vs (Sum.inr z:Key)=some v/\Rel K ad H d v
 |_,_,z,.nil=>.inl ⟨rfl,L2.zkX⟩
 |_,_,z,@RelK.cons _ _ _ x d v fs vs r t=>by
  by_cases h:x=z
  ·exact .inr ⟨d,v,by rw[Ul,if_pos h],by rw[L2.zeT (by rw[h])],r⟩
  ·have h':¬ (Sum.inr x:Key)=Sum.inr z:=fun e=>h (Sum.inr.inj e)
   rw[Ul,if_neg h,L2.zeB h']
   exact RelK.val z t
omit B in
theorem Zh.val:∀ {fs:List (List Key×D)} {vs:List (List Key×V)} (z:List Key),Zh K ad H fs vs->(dval fs z=none/\L2.Xc vs z=none)\/∃ d v,dval fs z=some d/\L2.Xc vs z=some v/\Rel K ad H d v
 |_,_,z,.nil=>.inl ⟨rfl,L2.zkX⟩
 |_,_,z,@Zh.cons _ _ _ x d v fs vs r t=>by
  by_cases h:x=z
  ·exact .inr ⟨d,v,by rw[Ul,if_pos h],by rw[L2.zeT h],r⟩
  ·rw[Ul,if_neg h,L2.zeB h]
   exact Zh.val z t
omit B in
theorem RelK.snoc {x:Str}{d:D}{v:V}(rd:Rel K ad H d v):∀ {fs:List (Str×D)} {vs:List (Key×V)},RelK K ad H fs vs->RelK K ad H (fs++[(x,d)]) (vs++[(.inr x,v)])
 |_,_,.nil=>.cons rd .nil
 |_,_,.cons r t=>.cons r (RelK.snoc rd t)
omit B in
theorem Zh.snoc {x:List Key}{d:D}{v:V}(rd:Rel K ad H d v):∀ {fs:List (List Key×D)} {vs:List (List Key×V)},Zh K ad H fs vs->Zh K ad H (fs++[(x,d)]) (vs++[(x,v)])
 |_,_,.nil=>.cons rd .nil
 |_,_,.cons r t=>.cons r (Zh.snoc rd t)
omit B in
theorem RelK.repl {z:Str}{d:D}{v:V}(rd:Rel K ad H d v):∀ {fs:List (Str×D)} {vs:List (Key×V)},RelK K ad H fs vs->RelK K ad H (fs.map fun kv=>if kv.1=z then(kv.1,d)else kv) (vs.map fun kv=>if kv.1=(Sum.inr z:Key)then(kv.1,v)else kv)
 |_,_,.nil=>.nil
 |_,_,@RelK.cons _ _ _ x d' v' fs vs r t=>by
  rw[qE,qE]
  by_cases h:x=z
  ·rw[if_pos h,if_pos (by rw[h])];exact .cons rd (RelK.repl rd t)
  ·rw[if_neg h,if_neg (fun e=>h (Sum.inr.inj e))];exact .cons r (RelK.repl rd t)
omit B in
theorem Zh.repl {z:List Key}{d:D}{v:V}(rd:Rel K ad H d v):∀ {fs:List (List Key×D)} {vs:List (List Key×V)},Zh K ad H fs vs->Zh K ad H (fs.map fun kv=>if kv.1=z then(kv.1,d)else kv) (vs.map fun kv=>if kv.1=z then(kv.1,v)else kv)
 |_,_,.nil=>.nil
 |_,_,@Zh.cons _ _ _ x d' v' fs vs r t=>by
  rw[qE,qE]
  by_cases h:x=z
  ·rw[if_pos h,if_pos h];exact .cons rd (Zh.repl rd t)
  ·rw[if_neg h,if_neg h];exact .cons r (Zh.repl rd t)
omit B in
def RelK.put {z:Str}{d:D}{v:V}(rd:Rel K ad H d v){fs:List (Str×D)}{vs:List (Key×V)}(r:RelK K ad H fs vs):RelK K ad H (dput fs z d) (putK vs (Sum.inr z:Key) v):=by
 unfold dput putK
 rw[zf8,L2.zfO]
 rcases r.val z with⟨e1,e2⟩|⟨d',v',e1,e2,_⟩
 ·rw[e1,e2]
  rw[if_neg (by simp),if_neg (by simp)];exact r.snoc rd
 ·rw[e1,e2]
  rw[if_pos (by simp),if_pos (by simp)];exact r.repl rd
omit B in
def Zh.put {z:List Key}{d:D}{v:V}(rd:Rel K ad H d v){fs:List (List Key×D)}{vs:List (List Key×V)}(r:Zh K ad H fs vs):Zh K ad H (dput fs z d) (putK vs z v):=by
 unfold dput putK
 rw[zf8,L2.zfO]
 rcases r.val z with⟨e1,e2⟩|⟨d',v',e1,e2,_⟩
 ·rw[e1,e2]
  rw[if_neg (by simp),if_neg (by simp)];exact r.snoc rd
 ·rw[e1,e2]
  rw[if_pos (by simp),if_pos (by simp)];exact r.repl rd
omit B in
theorem RelK.length:∀ {fs:List (Str×D)} {vs:List (Key×V)},RelK K ad H fs vs->fs.length=vs.length
  |_,_,.nil=>rfl
  |_,_,.cons _ t=>congrArg (· + 1) (RelK.length t)
omit B in
theorem Zh.length:∀ {fs:List (List Key×D)} {vs:List (List Key×V)},Zh K ad H fs vs->fs.length=vs.length
  |_,_,.nil=>rfl
  |_,_,.cons _ t=>congrArg (· + 1) (Zh.length t)
omit B in
theorem zf4:∀ {ks:List Key} {vs:List V},zB K ad H (ks.map kD) vs->vs=ks.map kV
 |[],_,.nil=>rfl
 |.inl i::ks,_,.cons r t=>by
  have e:∀ {d:D} {v:V},d=.int i->Rel K ad H d v->v=.int i:=fun e r=>by subst e;cases r;rfl
  rw[e rfl r,zf4 t];rfl
 |.inr x::ks,_,.cons r t=>by
  have e:∀ {d:D} {v:V},d=.str x->Rel K ad H d v->v=.str x:=fun e r=>by subst e;cases r;rfl
  rw[e rfl r,zf4 t];rfl
def zL.newC (st:zL K ad H S){l:Addr}{o:HO}{c:Cell}(h:H l=none)(hc:Vh K (ad++[l]) (upd H l o) l c):zL K (ad++[l]) (upd H l o) (S++[c]) where
 wd:=st.wd.trans (Wd.newL st h)
 len:=by rw[qh,qh,st.len];rfl
 nd:=by
  rw[qa7]
  refine⟨st.nd,by simp,fun a ha b hb e=>?_⟩
  have:b=l:=by simpa using hb
  subst this;subst e
  exact st.fresh h ha
 cell:=fun n a c' e1 e2=>by
  by_cases hn:n<ad.length
  ·rw[qk hn]at e1
   rw[qk (by rw[<- st.len];exact hn)]at e2
   have ok:=st.cell n a c' e1 e2
   obtain⟨u,e⟩:=ok.some
   exact ok.wd (Wd.newL st h) (by rw[Uq h e,e])
  ·have hn':ad.length<=n:=P0 hn
   rw[qi hn']at e1
   rw[qi (by rw[<- st.len];exact hn'),<- st.len]at e2
   cases hk:n-ad.length with
   |zero =>
    rw[hk]at e1 e2
    have e1':l=a:=by simpa using e1
    have e2':c=c':=by simpa using e2
    subst e1' e2'
    exact hc
   |succ k=>rw[hk]at e1;simp at e1
omit B in
def Wd.putC {n:Nat}{a:Addr}{o o':HO}(e:ad[n]?=some a)(h:H a=some o)(h1:∀ xs,o≠.tup xs)(h2:∀ q u,o≠.frz q u):Wd ad H ad (upd H a o') :=
 ⟨qaU _,fun b u hb q=>by
   have:b≠a:=fun z=>hb (by rw[z];exact qe e)
   rw[zR this];exact q,
  fun b xs q=>by rw[zR (TF q h (fun z=>h1 xs z.symm))];exact q,fun b o u q=>by rw[zR (TF q h (fun z=>h2 o u z.symm))];exact q,fun _ m n=>absurd m n⟩
theorem zL.putC (st:zL K ad H S){n:Nat}{a:Addr}{o o':HO}{c:Cell}(e:ad[n]?=some a)(h:H a=some o)(h1:∀ xs,o≠.tup xs)(h2:∀ q u,o≠.frz q u)(hc:Vh K ad (upd H a o') a c):zL K ad (upd H a o') (S.set n c) where
 wd:=st.wd.trans (Wd.putC e h h1 h2)
 len:=by rw[T7];exact st.len
 nd:=st.nd
 cell:=fun m b c' e1 e2=>by
  have w:Wd ad H ad (upd H a o'):=Wd.putC e h h1 h2
  by_cases hm:m=n
  ·subst hm
   rw[e]at e1;cases e1
   rw[qI (by rw[<- st.len];exact My.VN e)]at e2
   cases e2
   exact hc
  ·rw[qQ (Ne.symm hm)]at e2
   have ne:b≠a:=fun z=>by
    subst z
    have q1:=(qR.mp e1).2
    have q2:=(qR.mp e).2
    exact hm ((qbw st.nd).mp (q1.trans q2.symm))
   exact(st.cell m b c' e1 e2).wd w (zR ne)
def zte (st:zL K ad H S){x y:D}{v u:V}{o:Option D}(rx:Rel K ad H x v)(ry:Rel K ad H y u)(g:Vu S x y o):∃ a o',v=.ref a/\Ua H a u o'/\((o=none/\o'=none)\/∃ d w,o=some d/\o'=some w/\Rel K ad H d w):=by
 rcases g with⟨n,Z6,z,rfl,rfl,hn,rfl⟩|⟨n,Z6,ks,rfl,rfl,hn,rfl⟩
 ·cases ry
  cases rx with
  |ref e =>
   obtain⟨vs,hv,r⟩:=st.cell n _ _ e hn
   exact⟨_,_,rfl,Ua.k (k:=Sum.inr z) hv,r.val z⟩
 ·cases rx with
  |ref e =>
   obtain⟨vs,hv,r⟩:=st.cell n _ _ e hn
   cases ry with
   |tup hb rb =>
    have e2:=zf4 rb
    subst e2
    exact⟨_,_,rfl,Ua.t hv hb,r.val ks⟩
end
section
variable {X:Cx}{a b c:Expr}{td ti tz tv:DE}{pos apos cpos:Pos}[B:Bs]
def ztU:PD X (.Dict [] [] pos) zn2:=by with_unfolding_all exact(YG zqF fun Z H Q hh=>Zw hh fun ad ρ S Q0 st rh q k p hp =>
 k _ _ _ _ _ q (Wd.newL st hp) (st.newC hp ⟨[],Xy,.nil⟩) st.newRef)
def zum:PD X (.Dict [] [] pos) zoh:=by with_unfolding_all exact(YG zro fun Z H Q hh=>Zw hh fun ad ρ S Q0 st rh q k p hp =>
 k _ _ _ _ _ q (Wd.newL st hp) (st.newC hp ⟨[],Xy,.nil⟩) st.newRef)
def zgQ {j:Nat}(hr:Zk j X.A)(ho:PD X a td)(hi:PD X b ti)(hs:zqP b:=by intro _ _;rfl):PD X (.Subscript a b pos) (QX td ti):=by with_unfolding_all exact(YG (ztR (zr9 hr) ho hi hs) fun Z H Q hh=>Zw hh fun ad ρ S Q0 st rh q k =>
 ⟨ad,ρ,S,_,st,rh,q,fun x S1 v H1 ad1 q1 w1 st1 r1=>⟨ad1,ρ,S1,_,st1,rh.wd w1,q1,fun y S2 u H2 ad2 ⟨d,g,q2⟩ w2 st2 r2=>by
  obtain⟨p,o',rfl,g',h⟩:=zte st2 (r1.wd w2) r2 g
  rcases h with⟨e,_⟩|⟨d',w,e,rfl,rw'⟩
  ·cases e
  ·cases e
   exact⟨p,w,rfl,g',k _ S2 _ H2 ad2 q2 (w1.trans w2) st2 rw'⟩⟩⟩)
def zgh {j:Nat}(hr:Zk j X.A)(ho:PD X a td)(hi:PD X b ti)(hv:PD X c tv)(hs:swapsWith c (some (.Subscript a b apos)) pos.line X.env=pure false:=by rfl):Xb X (.Assign [.Subscript a b apos] c pos) (O7 td ti tv):=by with_unfolding_all exact(VD (zsK (zr9 hr) ho hi hv hs) fun E Z H hh=>Zw hh fun ad ρ S E0 so rh q k =>
 ⟨ad,ρ,S,_,so,rh,q,fun v S1 vv H1 ad1 q1 w1 st1 r1=>⟨ad1,ρ,S1,_,st1,rh.wd w1,q1,fun x S2 vx H2 ad2 q2 w2 st2 r2=>⟨ad2,ρ,S2,_,st2,rh.wd (w1.trans w2),q2,fun y S3 vy H3 ad3 q3 w3 st3 r3=>by
  have rx:=r2.wd w3
  have rv:=r1.wd (w2.trans w3)
  have w13:=(w1.trans w2).trans w3
  rcases q3 with⟨n,Z6,z,rfl,rfl,hn,hl,q3⟩|⟨n,Z6,ks,rfl,rfl,hn,hl,q3⟩
  ·cases r3
   cases rx with
   |ref e =>
    obtain⟨vs,hv',r⟩:=st3.cell n _ _ e hn
    have h1:∀ xs,HO.dK vs≠.tup xs:=fun _ z=>by cases z
    have h2:∀ q u,HO.dK vs≠.frz q u:=fun _ _ z=>by cases z
    have w:=Wd.putC (o':=.dK (putK vs (Sum.inr z:Key) vv)) e hv' h1 h2
    refine⟨_,_,rfl,Rp.k (k:=Sum.inr z) hv' (by rw[<- r.length];exact zjf hl),?_⟩
    exact k.nx _ _ _ _ _ q3 (w13.trans w) (st3.putC e hv' h1 h2 ⟨_,Xy,RelK.wr w.wr (r.put rv)⟩) (rh.wd (w13.trans w))
  ·cases rx with
   |ref e =>
    obtain⟨vs,hv',r⟩:=st3.cell n _ _ e hn
    cases r3 with
    |tup hb rb =>
     have e2:=zf4 rb
     subst e2
     have h1:∀ xs,HO.dT vs≠.tup xs:=fun _ z=>by cases z
     have h2:∀ q u,HO.dT vs≠.frz q u:=fun _ _ z=>by cases z
     have w:=Wd.putC (o':=.dT (putK vs ks vv)) e hv' h1 h2
     refine⟨_,_,rfl,Rp.t hv' hb (by rw[<- r.length];exact zjf hl),?_⟩
     exact k.nx _ _ _ _ _ q3 (w13.trans w) (st3.putC e hv' h1 h2 ⟨_,Xy,Zh.wr w.wr (r.put rv)⟩) (rh.wd (w13.trans w))⟩⟩⟩)
end
structure FH (K:PySem.W.Frag)(n:Str)(st:Stmt)(f:Addr)(fd:FuncData):Prop where
 a:PySem.W.nsIn K mainGlobals n=some (some (.ref f))
 F:V5 K n n st f fd
section
variable {K:PySem.W.Frag}{n:Str}{st:Stmt}{f:Addr}{fd:FuncData}{mg:Str->Option Value}{k:Nat}{h:Heap}{ps:List Str}{sp:Sp}
def zxU {oc:Value}{od an:Option Addr}{osl:Array (Option Value)}{kV doc pm cdv ct:Value}(a:PySem.W.nsIn K mainGlobals n=some (some (.ref f)))
  (l:K.lookup f=some ⟨oc,od,.func (PySem.W.fnOf n n (Vw st) (Xd st) (zY st) .none kV doc pm an cdv ct),osl⟩) (c:PySem.W.codeIn K cdv n=true) (k:PySem.W.keepIn K (.ref f)=true) :
  FH K n st f (PySem.W.fnOf n n (Vw st) (Xd st) (zY st) .none kV doc pm an cdv ct):=⟨a,zi2 l c k⟩
def zQ (P:Program)(w:World)(base:Heap)(X:K.In h)(G:h.Ns mainGlobals mg)(H:FH K n st f fd)(ok:zO P w K mg base ZV k f fd ps sp)
  (b:∀ (kV doc pm:Value) (an:Option Addr) (cdv ct:Value) (us:List Value),us.length=ps.length->bindArgs (PySem.W.fnOf n n (Vw st) (Xd st) (zY st) .none kV doc pm an cdv ct) ⟨us,[]⟩=pure (ps.zip us):=by intro _ _ _ _ _ _ us hl;first|(obtain⟨_,e⟩:=zsG hl;subst e;rfl)|(obtain⟨_,_,e⟩:=znU hl;subst e;rfl)|(obtain⟨_,_,_,e⟩:=zsk hl;subst e;rfl)|(obtain⟨_,_,_,_,e⟩:=zsC hl;subst e;rfl)|(obtain⟨_,_,_,_,_,e⟩:=zsx hl;subst e;rfl)|(obtain⟨_,_,_,_,_,_,e⟩:=len_6 hl;subst e;rfl)|(obtain⟨_,_,_,_,_,_,_,e⟩:=len_7 hl;subst e;rfl)):Got P w K mg base k n ps sp:=⟨⟨f,fd,ok,H.F.binds b,H.F.kp,PySem.W.mg_of X G H.a⟩⟩
def Rw (P:Program)(w:World)(base:Heap)(X:K.In h)(G:h.Ns mainGlobals mg)(H:FH K n st f fd)(ok:zO P w K mg base (Xp P w) k f fd ps sp)
  (b:∀ (kV doc pm:Value) (an:Option Addr) (cdv ct:Value) (us:List Value),us.length=ps.length->bindArgs (PySem.W.fnOf n n (Vw st) (Xd st) (zY st) .none kV doc pm an cdv ct) ⟨us,[]⟩=pure (ps.zip us):=by intro _ _ _ _ _ _ us hl;first|(obtain⟨_,e⟩:=zsG hl;subst e;rfl)|(obtain⟨_,_,e⟩:=znU hl;subst e;rfl)|(obtain⟨_,_,_,e⟩:=zsk hl;subst e;rfl)|(obtain⟨_,_,_,_,e⟩:=zsC hl;subst e;rfl)|(obtain⟨_,_,_,_,_,e⟩:=zsx hl;subst e;rfl)|(obtain⟨_,_,_,_,_,_,e⟩:=len_6 hl;subst e;rfl)|(obtain⟨_,_,_,_,_,_,_,e⟩:=len_7 hl;subst e;rfl)):Uw P w K mg base k n ps sp:=⟨⟨f,fd,ok,H.F.binds b,H.F.kp,PySem.W.mg_of X G H.a⟩⟩
end
section
variable {X:Cx}
def zyA [B:Bs](i:Nat){x:Str}{pos:Pos}(hN:X.N[i]?=some x:=by rfl)(hv:L2.Vis X.env.scope x:=by first | exact Or.inl rfl | exact Or.inr (Or.inl rfl) | exact Or.inr (Or.inr rfl))(hd:(x==("__debug__":Str))=false:=by decide)(hcd:(x==("__classdict__":Str))=false:=by decide):PD X (.Name x pos) (Xh i):=by with_unfolding_all exact(zuO (zwx hN hv hd hcd))
def zpX {N P:List Str}{sc:Scope}(h1:sc.kind=.function:=by rfl)(h2:sc.isCoroutine=false:=by rfl)(h3:sc.isGenerator=false:=by rfl)(h4:N.Nodup:=by decide +kernel)(h5:N.take P.length=P:=by rfl)(h6:∀ x∈P,sc.names.lookup x=some .local\/sc.names.lookup x=some .cell:=by decide +kernel)(h7:∀ y∈sc.names,y.2≠.free:=by decide +kernel):RG N P sc:=⟨h1,h2,h3,h4,h5,h6,h7⟩
end
section
variable {X:Cx}{a b c:Expr}{ta tb:DE}{td ti tz tv:DE}{pos apos cpos:Pos}[B:Bs]
end
section
variable {X:Cx}{a b:Expr}{ta tb:DE}{pos apos cpos:Pos}[B:Bs]
end
section
variable {X:Cx}{a b:Expr}{ta tb:DE}{pos apos cpos:Pos}[B:Bs]
end
section
variable {X:Cx}{a b:Expr}{ta tb:DE}{pos apos cpos:Pos}[B:Bs]
end
end Dp
open PySem Dp
local macro_rules | `(tactic| walk_at"dat")=>`(tactic| first | assumption | exact Y4 | exact zmI | (refine(WQ _ _ _).trans ?_;exact rfl) | exact Xq (by assumption))
local macro_rules | `(tactic| walk_at"l")=>`(tactic| first | assumption | exact Lst.rl | exact Lst.at0 | exact Lst.new | (refine Lst.at ?_;exact rfl) | exact Lst.old (by assumption) | exact Lst.here (by assumption) | exact Lst.here (Xq (by assumption)))
local macro_rules | `(tactic| walk_at"dseq")=>`(tactic| first | exact Or.inl rfl | (refine Or.inr ?_;walk_at"l"))
local macro_rules | `(tactic| walk_at"d")=>`(tactic| first | assumption | exact My.Bd.mono (by assumption) (by decide) | exact My.Bd.lit (by decide) (by decide) | (refine My.Bd.add ?_ ?_<;>walk_at"d") | (refine My.Bd.sub ?_ ?_<;>walk_at"d") | (refine My.Bd.neg ?_;walk_at"d") | (refine My.Bd.mulH ?_ ?_<;>walk_at"d") | (refine My.Bd.emod (by lia) ?_;walk_at"d") | (refine My.Bd.ediv ?_;walk_at"d"))
local macro_rules | `(tactic| walk_at"dmul")=>`(tactic| first | assumption | exact Or.inr (Or.inl (by lia)) | exact Or.inr (Or.inr (by lia)) | exact Or.inl ⟨by walk_at"d",by walk_at"d"⟩)
local macro_rules | `(tactic| walk_at"ddiv")=>`(tactic| first | assumption | exact⟨by lia,by walk_at"d"⟩)
local macro_rules | `(tactic| walk_at"dr1")=>`(tactic| with_reducible first|refine zvq ?_|refine zuP ?_|refine zuR ?_|refine zxM ?_|refine zzg ?_|refine zwm ?_|refine zv3 ?_|refine zwQ ?_|refine zu6 ?_)
local macro_rules | `(tactic| walk_at"dr1")=>`(tactic| first|((with_reducible refine zxe (xs:=?rvx) ?rvl ?_);(case rvl=>walk_at"l")))
local macro_rules | `(tactic| walk_at"dr1")=>`(tactic| with_reducible first|refine zrh ?_|refine zrL ?_|refine zx4 ?_|refine zyb ?_|refine zxR ?_|refine zpK ?_|refine zvw ?_|refine zyl ?_|refine zxa ?_)
local macro_rules | `(tactic| walk_at"dr1")=>`(tactic| first|((with_reducible refine zuX (xs:=?rvx) ?rvl ?_);(case rvl=>walk_at"l"))|((with_reducible refine zyj (a:=?rvv) ?rvk ?_);(case rvk=>exact rfl))|((with_reducible refine zrT (xs:=?rvx) ?rvk ?rvl ?_);(case rvk=>walk_at"dat");(case rvl=>first | exact Nat.lt_of_ble_eq_true rfl | assumption | (simp only[big,qh,qO,List.length_nil,qb]at *;lia))))
local macro_rules | `(tactic| walk_at"dr1")=>`(tactic| with_reducible first|refine zvl ?_|refine zv2 ?_|refine zyg ?_|refine zwP ?_|refine zvF ?_|refine zwC ?_|refine zr6 ?_|refine zyF ?_|refine zuI ?_|refine zux ?_|refine zww ?_)
local macro_rules | `(tactic| walk_at"dr1")=>`(tactic| first|((with_reducible refine zwq ?rvk ?_);(case rvk=>exact rfl)))
local macro_rules | `(tactic| walk_at"dr1")=>`(tactic| with_reducible first|refine zkH ?_|refine zjR ?_|refine zi3 ?_|refine zuD ?_|refine ztl ?_)
local macro_rules | `(tactic| walk_at"dr1")=>`(tactic| first|((with_reducible refine zvr (xs:=?rvx) ?rvl ?_);(case rvl=>walk_at"l"))|((with_reducible refine zrb (xs:=?rvx) ?rvl ?_);(case rvl=>walk_at"l"))|((with_reducible refine zsL (xs:=?rvx) ?rvl ?_);(case rvl=>walk_at"l")))
local macro_rules | `(tactic| walk_at"dr1")=>`(tactic| with_reducible first|refine zvm ?_|refine zvB ?_|refine zvQ ?_)
local macro_rules | `(tactic| walk_at"dr1")=>`(tactic| with_reducible first|refine zxE ?_|refine zwM ?_|refine zw0 ?_|refine zxL ?_|refine zx6 ?_|refine zhu ?_|refine zyf ?_|refine zfu ?_|refine zuz ?_|refine ziD ?_|refine zxB ?_|refine zxC ?_)
local macro_rules | `(tactic| walk_at"dr1")=>`(tactic| first|((with_reducible refine zwK (ys:=?rvx) ?rvk ?_);(case rvk=>walk_at"dat")))
local macro_rules | `(tactic| walk_at"dr1")=>`(tactic| with_reducible first|refine zvN ?_|refine zt2 ?_|refine r_b ?_|refine r_m ?_)
local macro_rules | `(tactic| walk_at"dr1")=>`(tactic| first|((with_reducible refine zx8 ?rvk ?_);(case rvk=>exact rfl)))
local macro_rules | `(tactic| walk_at"dr1")=>`(tactic| with_reducible first|refine zmf ?_|refine zsD ?_|refine zxP ?_)
local macro_rules | `(tactic| walk_at"dr1")=>`(tactic| with_reducible first|refine r_t ?_|refine zyv ?_|refine zx9 ?_|refine zw8 ?_|refine zyC ?_|refine zxW ?_|refine zw4 ?_|refine zve ?_|refine zwi ?_|refine zw2 ?_|refine zsV ?_|refine zyd ?_)
local macro_rules | `(tactic| walk_at"dr1")=>`(tactic| first|((with_reducible refine zxT ?rvk ?_);(case rvk=>walk_at"dmul"))|((with_reducible refine zxd ?rvk ?_);(case rvk=>walk_at"ddiv"))|((with_reducible refine zye ?rvk ?_);(case rvk=>first | lia | assumption))|((with_reducible refine zxV (d:=?rvv) ?rvk ?_);(case rvk=>first | assumption | exact rfl))|((with_reducible refine zsm (xs:=?rvx) (d:=?rvv) ?rvl ?rvk ?_);(case rvl=>walk_at"l");(case rvk=>first | assumption | exact rfl)))
local macro_rules | `(tactic| walk_at"dr1")=>`(tactic| with_reducible first|refine zxw ?_)
local macro_rules | `(tactic| walk_at"dr1")=>`(tactic| with_reducible first|refine r_c ?_|refine znw ?_|refine zy5 ?_|refine zxg ?_|refine zyp ?_|refine zwO ?_|refine zy4 ?_|refine zyH ?_|refine zyK ?_|refine zyw ?_|refine zw9 ?_|refine zxD ?_)
local macro_rules | `(tactic| walk_at"dr1")=>`(tactic| first|((with_reducible refine Pu (d:=?rvv) ?rvk ?_);(case rvk=>exact rfl)))
local macro_rules | `(tactic| walk_at"dr1")=>`(tactic| with_reducible first|refine zy9 ?_|refine zud ?_)
local macro_rules | `(tactic| walk_at"dr1")=>`(tactic| first|((with_reducible refine ztL (g:=?rv1) (b:=?rv2) (f:=?rv3) (h:=?rv4) (a:=?rv5) (l:=?rv6) (d:=?rv7) ?rvk ?_);(case rvk=>walk_at"dat"))|((with_reducible refine zwu (g:=?rv1) (b:=?rv2) (f:=?rv3) (h:=?rv4) (a:=?rv5) (l:=?rv6) (d:=?rv7) ?rvk ?_);(case rvk=>walk_at"dat"))|((with_reducible refine zsO (g:=?rv1) (b:=?rv2) (f:=?rv3) (h:=?rv4) (a:=?rv5) (l:=?rv6) (d:=?rv7) ?rvk ?_);(case rvk=>walk_at"dat")))
local macro_rules | `(tactic| walk_at"dr1")=>`(tactic| first|((with_reducible refine zyi (l:=?rvx) ?rvk ?_);(case rvk=>walk_at"dat"))|((with_reducible refine zrH (g:=?rv1) (b:=?rv2) (f:=?rv3) (h:=?rv4) (a:=?rv5) (l:=?rv6) (d:=?rv7) ?rvk ?_);(case rvk=>walk_at"dat"))|((with_reducible refine zpT (g:=?rv1) (b:=?rv2) (f:=?rv3) (h:=?rv4) (a:=?rv5) (l:=?rv6) (d:=?rv7) ?rvk ?_);(case rvk=>walk_at"dat"))|((with_reducible refine zu0 (g:=?rv1) (b:=?rv2) (f:=?rv3) (h:=?rv4) (a:=?rv5) (l:=?rv6) (d:=?rv7) ?rvk ?_);(case rvk=>walk_at"dat"))|((with_reducible refine zuv (g:=?rv1) (b:=?rv2) (f:=?rv3) (h:=?rv4) (a:=?rv5) (l:=?rv6) (d:=?rv7) ?rvk ?_);(case rvk=>walk_at"dat")))
local macro_rules | `(tactic| walk_at"dr1")=>`(tactic| with_reducible first|refine zn1 ?_|refine zvR ?_|refine zr8 ?_|refine ztu ?_|refine zvp ?_|refine zsz ?_|refine zuM ?_|refine zw7 ?_)
local macro_rules | `(tactic| walk_at"g")=>`(tactic| repeat walk_at"dr1")
local macro_rules | `(tactic| walk_at"h")=>`(tactic| simp only[Rj,qE,qbl,qO,List.length_nil,Nat.reduceSub,Nat.reduceAdd,List.replicate,List.cons_append,List.nil_append,List.set_cons_zero,List.set_cons_succ])
local macro_rules | `(tactic| walk_at"j")=>`(tactic| simp only[List.set_cons_zero,List.set_cons_succ])
namespace Dp
open PySem Rm My
def zbZ:ZS:=fun ds S Q=>∃ (ns:List Int) (k:Int),ds=[.rl (ns.map D.int),.int k]/\0<=k/\∀ v,Q (.int v) S
abbrev Ym:DG:=YW 0
abbrev Wt:DG:=YW 1
abbrev Yv:DG:=YW 2
abbrev Zd:DG:=YW 3
abbrev YS:DG:=YW 4
abbrev Yl:DG:=YW 5
abbrev Wn:DG:=YW 6
abbrev Uo:DG:=YW 7
abbrev Qa:DG:=YW 8
abbrev gn9:DG:=YW 9
abbrev zqr:DG:=YW 10
abbrev zvx:DG:=YW 11
abbrev zzd:DG:=YW 12
abbrev Z2:DE:=Xh 0
abbrev Z1:DE:=Xh 1
abbrev ZQ:DE:=Xh 2
abbrev ZP:DE:=Xh 3
abbrev Zz:DE:=Xh 4
abbrev Zt:DE:=Xh 5
abbrev Ye:DE:=Xh 6
abbrev Xi:DE:=Xh 7
abbrev WT:DE:=Xh 8
abbrev SM:DE:=Xh 9
abbrev zl5:DE:=Xh 10
abbrev zr5:DE:=Xh 11
abbrev zn9:DE:=Xh 12
abbrev Zx:DE:=dC (.int 0)
abbrev ZJ:DE:=dC (.int 1)
abbrev Vb:DE:=dC (.int 2)
abbrev S8:DE:=dC (.int 3)
abbrev Sq:DE:=dC (.int 4)
abbrev ci5:DE:=dC (.int 5)
abbrev O6:DE:=dC (.int 6)
abbrev ci7:DE:=dC (.int 7)
abbrev ci8:DE:=dC (.int 8)
abbrev ci9:DE:=dC (.int 9)
abbrev Yc:DE:=Z7 ZW Z2 Zx
abbrev W7:DE:=Z7 ZW Z2 ZJ
abbrev Rk:DE:=Z7 ZW Z2 Vb
abbrev zhg:DE:=Z7 ZW Z2 S8
abbrev zkS:DE:=Z7 ZW Z2 Sq
abbrev zsh:DE:=Z7 ZW Z2 ci5
abbrev zyn:DE:=Z7 ZW Z2 O6
abbrev zxF:DE:=Z7 ZW Z2 ci7
abbrev Vt:DE:=Z7 ZW Z1 Zx
abbrev UJ:DE:=Z7 ZW Z1 ZJ
abbrev zsw:DE:=Z7 ZW Z1 Vb
abbrev zkP:DE:=Z7 ZW Z1 S8
abbrev Ru:DE:=Z7 ZW ZQ Zx
abbrev TV:DE:=Z7 ZW ZQ ZJ
abbrev zxy:DE:=Z7 ZW ZQ Vb
abbrev znR:DE:=Z7 ZW ZQ S8
abbrev zxc:DE:=Z7 ZW ZP Zx
abbrev zxf:DE:=Z7 ZW ZP ZJ
abbrev zxi:DE:=Z7 ZW Zt Zx
abbrev zxt:DE:=Z7 ZW Zt ZJ
abbrev zxK:DE:=Z7 ZW Ye Zx
abbrev zx5:DE:=Z7 ZW Ye Vb
abbrev zyh:DE:=Z7 ZW Xi Zx
abbrev zxZ:DE:=Z7 ZW Xi ZJ
abbrev zvf:DE:=Z7 ZW zr5 Zx
abbrev Zb:DA:=zf Z2 zF
abbrev Ys:DA:=zf Z1 zF
abbrev Yy:DA:=zf ZQ zF
abbrev Xr:DA:=zf ZP zF
abbrev U0:DA:=zf Zz zF
abbrev ua5:DA:=zf Zt zF
abbrev Rt:DA:=zf Ye zF
abbrev ua7:DA:=zf Xi zF
abbrev ua8:DA:=zf WT zF
abbrev zyu:DA:=zf zl5 zF
abbrev zqz:DA:=zf zr5 zF
abbrev zgi:DS :=
    (zA (ZC (dT (Z7 oLt Z1 (dB Y7 Zb))) (zU (Z7 ZW Z2 Z1)) Zv)
 (zU Zx))
def zjT:BodyOk 2 zgi zbZ:=by
 rintro ds S Q ⟨ns,k,rfl,h0,q⟩
 unfold zgi
 walk_at"g"
 rw[qb]
 refine ZM (fun g=>?_) (fun g=>?_)
 ·obtain⟨v,_,av⟩:=zo7 (zs:=ns) h0 (by lia)
  walk_at"g"
  exact fin_same (q _)
 ·walk_at"g"
  exact fin_same (q _)
def zur {c k m g:Int}(h0:0<=k)(hk:k<3000)(m0:0<m)(hm:My.Bd 290 m)(hg:My.Bd 290 g):YL (c%m+3) (g+2*k*k)/\YL ((c%m+3)*(g+2*k*k)+6151*k) ((c%m+3)*(g+2*k*k)+6151*k):=by
 have h1:=R5 c (show m≠0 by lia)
 have h2:=qaK c m0
 have b0:My.Bd 290 (c%m):=hm.of_le (by lia)
 have b1:My.Bd 300 (c%m+3):=(b0.add (y:=3) (by show _<2 ^ 290;decide)).mono (by decide)
 have hk2:0<=2*k*k/\2*k*k<=18000000:=⟨Int.mul_nonneg (by lia) h0,Int.le_trans (Int.mul_le_mul (show 2*k<=6000 by lia) (show k<=3000 by lia) h0 (by decide)) (by decide)⟩
 have b2:My.Bd 300 (g+2*k*k):=(hg.add (y:=2*k*k) (My.Bd.mono (m:=30) (by show _<2 ^ 30;lia) (by decide))).mono (by decide)
 have b3:My.Bd 700 ((c%m+3)*(g+2*k*k)+6151*k):=(My.Bd.add (n:=600) (My.Bd.mul b1 b2) (My.Bd.mono (m:=30) (by show _<2 ^ 30;lia) (by decide))).mono (by decide)
 exact⟨.inl ⟨b1.mono (by decide),b2.mono (by decide)⟩,.inl ⟨b3.mono (by decide),b3.mono (by decide)⟩⟩
def zb3:ZS:=fun ds S Q=>∃ (c k:Int),ds=[.int c,.int k]/\0<=k/\k<3000/\∀ v,0<=v->True->Q (.int v) S
abbrev zh1:DS :=
    (zA (zH (Z7 Yt (Z7 Zy (Z7 oMod Z2 (dC (.int 1000000000000000000000000000000000000000000000000000000000000))) S8) (Z7 Zy (dC (.int 16180339887498948482045868343656381177203)) (Z7 Yt (Z7 Yt Vb Z1) Z1))) Yv)
 (zA (zH (Z7 Zy ZQ (Z7 Yt (dC (.int 6151)) Z1)) Yv)
 (zU (Z7 oMod (Z7 Yt ZQ ZQ) (Z7 Zy (dC (.int 1000000000000000000000000000000000000000000000000000000000000)) (dC (.int 33)))))))
def zlb:BodyOk 3 zh1 zb3:=by
 rintro ds S Q ⟨c,k,rfl,h0,hk,q⟩
 unfold zh1
 obtain⟨cm1,cm2⟩:=zur (c:=c) h0 hk (m:=1000000000000000000000000000000000000000000000000000000000000) (g:=16180339887498948482045868343656381177203) (by decide) (by show _<2 ^ 290;decide) (by show _<2 ^ 290;decide)
 walk_at"g"
 exact fin_same (q _ (R5 _ (by decide)) True.intro)
def zdg:ZS:=fun ds S Q=>∃ (x:D) (ns:List Int) (most:Int),ds=[x,.int most]/\Lst S x (ns.map D.int)/\ns.length<=63/\1<=most/\most<=60/\∀ zs:List Int,(zs.length:Int)=most->(∀ z∈zs,0<=z/\True)->New Q S (zs.map D.int)
abbrev zhL:DS :=
    (zA (zH (Yz 1 [] (PJ Ys) Ym Xu (dCall zb3 (zf Z2 (zf (dC (.int 40)) zF)))) Yv)
 (zA (Y0 (RT Zb) (Yq 2 (z9 Zd (z9 YS Yr))) (zA (zH (Z7 oMod ZP Z1) Yl)
 (zH (dCall zb3 (zf (Z7 Zy (Z7 ZW ZQ Zt) (Z7 oMod Zz (dC (.int 1000000000000000000000000000000000000000000000000000000000000)))) (zf (Z7 oMod ZP (dC (.int 37))) zF))) (Tq ZQ Zt))))
 (zU ZQ)))
def zl8:BodyOk 6 zhL zdg:=by
 rintro ds S Q ⟨x,ns,most,rfl,hx,hl,h1,h2,q⟩
 unfold zhL
 walk_at"g"
 refine⟨_,rfl,by lia,by lia,?_⟩
 refine⟨by rw[zfh];unfold big;lia,fun i ys S'=>S'=S/\∃ zs:List Int,ys=zs.map D.int/\zs.length=i/\∀ z∈zs,0<=z/\True,⟨rfl,[],rfl,rfl,by simp⟩,fun _ _ _ _=>True.intro,?_,?_⟩
 ·rintro i d ys S' hd ⟨rfl,zs,rfl,hz,hb⟩
  obtain⟨hi,rfl⟩:=zjO hd
  walk_at"g"
  refine⟨_,_,rfl,by decide,by decide,fun v v0 v1=>?_⟩
  refine⟨rfl,zs++[v],by rw[qA];rfl,by simp[hz],fun z hz'=>?_⟩
  rcases qJ.mp hz' with h|h
  ·exact hb z h
  ·have:z=v:=by simpa using h
   subst this;exact⟨v0,v1⟩
 rintro ys S' ⟨rfl,zs,rfl,hz,hb⟩
 rw[zfh]at hz
 have hz:(zs.length:Int)=most:=by lia
 walk_at"g"
 refine zjW (xs:=ns.map D.int) hx.old ?_
 refine YH (fun i ρ S''=>∃ (zs:List Int) (w1 w2 w3:Option D),ρ=[some x,some (.int most),some (.ref S'.length),w1,w2,w3]/\S''=S'++[.lst (zs.map D.int)]/\(zs.length:Int)=most/\∀ z∈zs,0<=z/\True)
  ⟨zs,_,_,_,rfl,rfl,hz,hb⟩ (fun i ρ S'' zq0=>by obtain⟨zs,w1,w2,w3,_,e,_⟩:=zq0;exact e▸hx.old) ?_ ?_
 ·rintro i d ρ S'' hd ⟨zs,w1,w2,w3,rfl,rfl,hz,hb⟩
  obtain⟨y,hy,rfl⟩:=Ss hd
  obtain⟨n,_,rfl⟩:=Tp hy
  have m1:=R5 ((0+i:Nat):Int) (show most≠0 by lia)
  have m2:=qaK ((0+i:Nat):Int) (show 0<most by lia)
  obtain⟨u,hu,au⟩:=zo7 (zs:=zs) (k:=((0+i:Nat):Int)%most) m1 (by lia)
  have iu:=zws (zs:=zs) (k:=((0+i:Nat):Int)%most) m1 (by lia)
  have k1:=R5 ((0+i:Nat):Int) (show(37:Int)≠0 by decide)
  have k2:=qaK ((0+i:Nat):Int) (show(0:Int)<37 by decide)
  walk_at"g"
  refine⟨_,_,rfl,k1,by lia,fun v v0 v1=>?_⟩
  walk_at"g"
  refine Qc Y4 iu ?_
  walk_at"g"
  refine⟨zs.set _ v,_,_,_,rfl,by rw[List.map_set],by simpa using hz,fun z hz'=>?_⟩
  rcases zqB hz' with h|h
  ·exact hb z h
  ·subst h;exact⟨v0,v1⟩
 ·rintro ρ S'' ⟨zs,w1,w2,w3,rfl,rfl,hz,hb⟩
  walk_at"g"
  exact fin_same (q zs hz hb)
def Vi:List Str:=["","a","zz","beacon"]
def Vx (k t:Nat):Str:=⟨#[97+k]⟩++Vi.getD t ""
theorem znl:∀ t,(∀ c∈(Vi.getD t "").cps.toList,c∈abc)/\(Vi.getD t "").length<=6
 |0=>by decide +kernel
 |1=>by decide +kernel
 |2=>by decide +kernel
 |3=>by decide +kernel
 |_+4=>by
  show(∀ c∈("":Str).cps.toList,c∈abc)/\("":Str).length<=6
  decide +kernel
def ziq (k t:Nat):(Vx k t).cps.toList=(97+k)::(Vi.getD t "").cps.toList:=by
 show(#[97+k]++(Vi.getD t "").cps).toList=_
 simp
def zuU {k t:Nat}(h:k<26):Wu (Vx k t)=true:=by
 obtain⟨h1,h2⟩:=znl t
 have e:(Vx k t).length=1+(Vi.getD t "").length:=by
  show(#[97+k]++(Vi.getD t "").cps).size=1+(Vi.getD t "").cps.size
  simp
 rw[zjy,e]
 refine⟨by lia,by lia,fun c hc=>?_⟩
 rw[ziq]at hc
 rcases qg.mp hc with hc|hc
 ·rw[hc];exact znf.mpr (by lia)
 ·exact h1 c hc
def zt7 {k t k' t':Nat}(e:Vx k t=Vx k' t'):k=k':=by
 have h:(Vx k t).cps.toList=(Vx k' t').cps.toList:=congrArg (fun z:Str=>z.cps.toList) e
 rw[ziq,ziq]at h
 have:=(List.cons.inj h).1
 lia
def zw6 (i:Nat)(h:i<8):atS "abcdefgh" ((0+i:Nat):Int)=some (97+i):=by
  have:i=0\/i=1\/i=2\/i=3\/i=4\/i=5\/i=6\/i=7:=by lia
  rcases this with rfl|rfl|rfl|rfl|rfl|rfl|rfl|rfl<;>decide +kernel
def zwI {n:Int}:Y9 (Vi.map D.str) (n%4)=some (.str (Vi.getD (n%4).toNat "")):=by
  have:n%4=0\/n%4=1\/n%4=2\/n%4=3:=by lia
  rcases this with e|e|e|e<;>rw[e]<;>rfl
def zjB (bs:List (Str×(Int×Int))):Prop:=∀ (j:Nat) b,bs[j]?=some b->(∃ t,b.1=Vx j t)/\-6<=b.2.1/\b.2.1<=6/\0<=b.2.2/\b.2.2<=8
def zjB.nm {bs:List (Str×(Int×Int))}(h:zjB bs)(hl:bs.length<=8):∀ b∈bs,Wu b.1=true:=fun b hb=>by
 obtain⟨j,hj,ej⟩:=qS.mp hb
 obtain⟨⟨t,e⟩,_⟩:=h j b (by rw[qc hj,ej])
 rw[e];exact zuU (by lia)
def zjB.nd {bs:List (Str×(Int×Int))}(h:zjB bs):(bs.map (·.1)).Nodup:=by
 refine Px.mpr fun i j hi hj hij e=>?_
 rw[qb]at hi hj
 rw[Uz,Uz]at e
 obtain⟨⟨t,e1⟩,_⟩:=h i _ (qc hi)
 obtain⟨⟨t',e2⟩,_⟩:=h j _ (qc hj)
 rw[e1,e2]at e
 have:=zt7 e
 lia
def zcG:ZS:=fun ds S Q=>∃ (u:D) (ns:List Int),ds=[u]/\Lst S u (ns.map D.int)/\ns.length<=8/\∀ (T:Z5) (bs:List (Str×(Int×Int))),bs.length=ns.length->zjB bs->Q (.ref S.length) (S++.lst (bs.map Yi)::T)
abbrev zgl:DS :=
    (zA (zH (Xx zF) Wt)
 (zA (Y0 (RT Zb) (Yq 2 (z9 Yv (z9 Zd Yr))) (zA (zH (Z7 Zy (Z7 ZW (dC (.str "abcdefgh")) ZQ) (Z7 ZW (Xx (zf (dC (.str "")) (zf (dC (.str "a")) (zf (dC (.str "zz")) (zf (dC (.str "beacon")) zF))))) (Z7 oMod ZP Sq))) YS)
 (Zf (dM TX Z1 (zf (dTup (zf Zz (zf (Z7 Zq (Z7 oMod (Z7 oDiv ZP Sq) (dC (.int 13))) O6) (zf (Z7 oMod (Z7 oDiv ZP (dC (.int 60))) ci9) zF)))) zF)))))
 (zU Z1)))
def zjM:BodyOk 5 zgl zcG:=by
 rintro ds S Q ⟨u,ns,rfl,hu,n8,q⟩
 unfold zgl
 have hu0:∀ T,Lst (S++T) u (ns.map D.int):=fun T=>hu.old
 have hu1:=hu0 [.lst []]
 walk_at"g"
 refine zjW (xs:=ns.map D.int) hu1 ?_
 refine YH (fun i ρ S'=>∃ (bs:List (Str×(Int×Int))) (T:Z5) (w2 w3 w4:Option D),S'=S++Cell.lst (bs.map Yi)::T/\bs.length=i/\zjB bs/\ρ=[some u,some (.ref S.length),w2,w3,w4]) ⟨[],[],_,_,_,rfl,rfl,fun j b h=>by simp at h,rfl⟩ (fun i ρ S' zq1=>by obtain⟨_,_,_,_,_,e,_⟩:=zq1;exact e▸hu0 _) ?_ ?_
 ·rintro i d ρ S' hd ⟨bs,T,w2,w3,w4,rfl,hl,hb,rfl⟩
  obtain⟨y,hy,rfl⟩:=Ss hd
  obtain⟨n,hn,rfl⟩:=Tp hy
  have li:=zV hn
  walk_at"g"
  refine zyc (c:=97+i) (by decide +kernel) (zw6 i (by lia)) ?_
  have atl:Y9 [.str "",.str "a",.str "zz",.str "beacon"] (n%4)=some (.str (Vi.getD (n%4).toNat "")):=zwI
  walk_at"g"
  have l6:=(znl (n%4).toNat).2
  refine zvb (by show 1+_<=big;unfold big;lia) ?_
  rw[show(⟨#[97+i]⟩:Str)++Vi.getD (n%4).toNat ""=Vx i (n%4).toNat from rfl]
  have hlim:(bs.map Yi).length<big:=by rw[qb];unfold big;lia
  walk_at"g"
  refine⟨bs++[(Vx i (n%4).toNat,(n/4%13-6,n/60%9))],_,_,_,_,by rw[qA];rfl,by simp[hl],fun j b h=>?_,rfl⟩
  rcases qL j bs.length with g|g
  ·rw[qk g]at h;exact hb j b h
  ·have lj:=zV h
   rw[qh]at lj
   have ej:j=bs.length:=by simp at lj;lia
   subst ej
   rw[qi (qf _),V7]at h
   have e:(Vx i (n%4).toNat,(n/4%13-6,n/60%9))=b:=by simpa using h
   rw[<- e]
   exact⟨⟨_,by rw[hl]⟩,by dsimp only;lia,by dsimp only;lia,by dsimp only;lia,by dsimp only;lia⟩
 rintro ρ S' ⟨bs,T,w2,w3,w4,rfl,hl,hb,rfl⟩
 rw[Um,qb]at hl
 walk_at"g"
 exact fin_same (q T bs hl hb)
def zdK:ZS:=fun ds S Q=>∃ (u:D) (ns:List Int) (a b:Int),ds=[u,.int a,.int b]/\Lst S u (ns.map D.int)/\ns.length<=12/\-100<=a/\a<=b/\b<=1000/\∀ fs:List Fg,fs.length<=ns.length->(∀ F∈fs,FgV F)->New Q S (fs.map XJ)
abbrev ziM:DS :=
    (zA (zH (Xx zF) Zd)
 (zA (Y0 (Zj Z2) YS (zA (zH (dCall zb3 (zf Zz (zf (dC (.int 71)) zF))) Yl)
 (ZC (dT (Z7 Xj (Z7 oMod Zt Sq) Zx)) (zA (zH (Z7 Zq (Z7 oMod (Z7 oDiv Zt Sq) (dC (.int 15))) ci8) Wn)
 (zA (zH (Z7 Zq (Z7 oMod (Z7 oDiv Zt (dC (.int 60))) (dC (.int 12))) Vb) Uo)
 (zA (zH (Z7 Zy (Z7 Zq Z1 S8) (Z7 oMod (Z7 oDiv Zt (dC (.int 720))) (Z7 Zy (Z7 Zq ZQ Z1) O6))) Qa)
 (zA (zH (Z7 Zy WT (Z7 oMod (Z7 oDiv Zt (dC (.int 1000000000000000))) (dC (.int 12)))) gn9)
 (zA (zH (Z7 Zq (Z7 oMod (Z7 oDiv Zt (dC (.int 100000000000000000000))) ci5) Vb) zqr)
 (zA (zH (Z7 Zq (Z7 oMod (Z7 oDiv Zt (dC (.int 10000000000000000000000000))) S8) ZJ) zvx)
 (Zf (dM TX ZP (zf (dTup (zf Ye (zf (Z7 Zy Ye (Z7 oMod (Z7 oDiv Zt (dC (.int 1000000000000000000000000000000))) ci5)) (zf Xi (zf (Z7 Zy Xi (Z7 oMod (Z7 oDiv Zt (dC (.int 100000000000000000000000000000000000))) O6)) (zf WT (zf SM (zf zl5 zqz)))))))) zF))))))))) Zv)))
 (zU ZP)))
def zmx:BodyOk 12 ziM zdK:=by
 rintro ds S Q ⟨u,ns,a,b,rfl,hu,n12,a0,ab,b1,q⟩
 unfold ziM
 have hu0:∀ T,Lst (S++T) u (ns.map D.int):=fun T=>hu.old
 have hu1:=hu0 [.lst []]
 walk_at"g"
 refine YH (fun i ρ S'=>∃ (fs:List Fg) (w4 w5 w6 w7 w8 w9 w10 w11:Option D),S'=S++[Cell.lst (fs.map XJ)]/\fs.length<=i/\(∀ F∈fs,FgV F)/\ρ=[some u,some (.int a),some (.int b),some (.ref S.length),w4,w5,w6,w7,w8,w9,w10,w11]) ⟨[],_,_,_,_,_,_,_,_,rfl,qf _,by simp,rfl⟩ (fun i ρ S' zq2=>by obtain⟨_,_,_,_,_,_,_,_,_,e,_⟩:=zq2;exact e▸hu0 _) ?_ ?_
 ·rintro i d ρ S' hd ⟨fs,w4,w5,w6,w7,w8,w9,w10,w11,rfl,hl,hf,rfl⟩
  obtain⟨n,hn,rfl⟩:=Tp hd
  have li:=zV hn
  walk_at"g"
  refine⟨n,_,rfl,by decide,by decide,fun m m0 m1=>?_⟩
  have hp:0<b-a+6:=by lia
  walk_at"g"
  refine ZM (fun _=>?_) (fun _=>?_)
  ·have r0:=R5 (m/720) (show b-a+6≠0 by lia)
   have r1:=qaK (m/720) hp
   have hlim:(fs.map XJ).length<big:=by rw[qb];unfold big;lia
   walk_at"g"
   have sm:∀ {v:Int} {k:Nat},20<=k->-10000<=v->v<=10000->Bd k v:=fun {v k} hk h1 h2=>(show Bd 20 v by show _<2 ^ 20;lia).mono hk
   refine⟨fs++[⟨m/4%15-8,m/4%15-8+m/1000000000000000000000000000000%5,m/60%12-2,m/60%12-2+m/100000000000000000000000000000000000%6,a-3+m/720%(b-a+6),a-3+m/720%(b-a+6)+m/1000000000000000%12,m/100000000000000000000%5-2,m/10000000000000000000000000%3-1⟩],_,_,_,_,_,_,_,_,by rw[qA];rfl,by simp;lia,fun F hF=>?_,rfl⟩
   rcases qJ.mp hF with h|h
   ·exact hf F h
   ·rw[qa4.mp h]
    exact⟨⟨by dsimp only;lia,by dsimp only;lia,sm (by decide) (by dsimp only;lia) (by dsimp only;lia),sm (by decide) (by dsimp only;lia) (by dsimp only;lia),sm (by decide) (by dsimp only;lia) (by dsimp only;lia),sm (by decide) (by dsimp only;lia) (by dsimp only;lia),sm (by decide) (by dsimp only;lia) (by dsimp only;lia),sm (by decide) (by dsimp only;lia) (by dsimp only;lia)⟩,by dsimp only;lia,sm (by decide) (by dsimp only;lia) (by dsimp only;lia),sm (by decide) (by dsimp only;lia) (by dsimp only;lia)⟩
  ·walk_at"g"
   exact⟨fs,_,_,_,_,_,_,_,_,rfl,by lia,hf,rfl⟩
 rintro ρ S' ⟨fs,w4,w5,w6,w7,w8,w9,w10,w11,rfl,hl,hf,rfl⟩
 rw[qb]at hl
 walk_at"g"
 exact fin_same (q fs hl hf)
def zlT {h1 h2 t w z:Int}(b1:h1<=7)(b2:h2<=7)(t0:0<=t)(tw:t<=w)(hz:7<=z):h1*w+(h2-h1)*t<=z*w:=by
 have e:h1*w+(h2-h1)*t=h1*(w-t)+h2*t:=by grind
 have a1:=qbb b1 (show 0<=w-t by lia)
 have a2:=qbb b2 t0
 have a3:=qbb hz (show 0<=w by lia)
 rw[e];lia
def QS (a b:Int):List (Int×Int):=[(-9,-3),(a,b),(9,-3)]
def zvU {a b:Int}(a0:-5<=a)(a1:a<=5)(b0:-6<=b)(b1:b<=5):Wv (QS a b):=by
  have sm:∀ {v:Int} {k:Nat},20<=k->-100<=v->v<=100->Bd k v:=fun {v k} hk h1 h2=>(show Bd 20 v by show _<2 ^ 20;lia).mono hk
  refine⟨show 2<=3 by decide,show 3<=40 by decide,?_,fun c hc=>?_⟩
  . unfold QS
    refine .cons (fun c hc=>?_) (.cons (fun c hc=>?_) (.cons (fun c hc=>by simp at hc) .nil))
    . have:c=(a,b)\/c=(9,-3):=by simpa using hc
      rcases this with rfl|rfl<;>dsimp only<;>lia
    . have:c=(9,-3):=by simpa using hc
      subst this;dsimp only;lia
  . have:c=(-9,-3)\/c=(a,b)\/c=(9,-3):=by simpa [QS]using hc
    rcases this with rfl|rfl|rfl<;>exact⟨sm (by decide) (by dsimp only;lia) (by dsimp only;lia),sm (by decide) (by dsimp only;lia) (by dsimp only;lia)⟩
def ztv {a b x z:Int}(a0:-5<=a)(a1:a<=5)(b1:b<=5)(x0:-6<=x)(x1:x<=6)(hz:7<=z):Wh (QS a b) (x,z):=by
 refine⟨⟨show -9*1<=x by lia,show x<=9*1 by lia⟩,fun p q e=>?_⟩
 have e':(if x<=a*1 then some ((((-9:Int),(-3:Int)),(a,b)))else if x<=9*1 then some ((a,b),((9:Int),(-3:Int)))else none)=some (p,q):=e
 split at e'
 ·rename_i h
  cases e'
  unfold Qu T9
  rw[if_pos (by dsimp only;lia),if_pos (by dsimp only;lia)]
  have:=zlT (h1:=-3) (h2:=b) (t:=x+9) (w:=a+9) (z:=z) (by decide) (by lia) (by lia) (by lia) hz
  dsimp only
  simp only[WR]
  rw[show a - -9=a+9 by lia,show x - -9=x+9 by lia]
  exact this
 ·rename_i h
  rw[if_pos (by lia)]at e'
  cases e'
  unfold Qu T9
  rw[if_pos (by dsimp only;lia),if_pos (by dsimp only;lia)]
  have:=zlT (h1:=b) (h2:=-3) (t:=x-a) (w:=9-a) (z:=z) (by lia) (by decide) (by lia) (by lia) hz
  dsimp only
  simp only[WR]
  exact this
def zvV (bs:List (Str×(Int×Int))):Prop:=∀ (j:Nat) b,bs[j]?=some b->∃ t,b.1=Vx j t
def zdh:ZS:=fun ds S Q=>∃ (ns:List Int),ds=[.rl (ns.map D.int)]/\ns.length<=63/\∀ (T:Z5) (x y z:D) (V:Vl),YF V->2<=V.bs.length->V.bs.length<=5->V.fs.length<=6->-5<=V.h0->V.h0<=5->V.h1<=V.h0+23->V.dl<=3->zvV V.bs->RX (S++T) x y z V->Q (vlD x y z V) (S++T)
abbrev zhW:DS :=
    (zA (zH (Z7 oMod (dCall zbZ (zf Z2 (zf Zx zF))) (dC (.int 1000000000000000000000000000000))) Wt)
 (zA (zH (Z7 Zy Vb (Z7 oMod Z1 Sq)) Yv)
 (zA (zH (dCall zdg (zf (Ql RV Z2 (some Vb) none) (zf O6 zF))) Zd)
 (zA (zH (Z7 Zq (Z7 oMod (Z7 oDiv Z1 Sq) (dC (.int 11))) ci5) YS)
 (zA (zH (Z7 Zy Zz (Z7 oMod (Z7 oDiv Z1 (dC (.int 44))) (dC (.int 24)))) Yl)
 (zA (zH (Xx (zf (dTup (zf (Yp Yo ci9) (zf (Yp Yo S8) zF))) (zf (dTup (zf (Z7 Zq (Z7 oMod (Z7 oDiv Z1 (dC (.int 1000000))) (dC (.int 11))) ci5) (zf (Z7 Zq (Z7 oMod (Z7 oDiv Z1 (dC (.int 100000000))) (dC (.int 12))) O6) zF))) (zf (dTup (zf ci9 (zf (Yp Yo S8) zF))) zF)))) Wn)
 (zA (zH (Z7 ZW (Xx (zf (dC .non) (zf (Z7 Zy ci9 (Z7 oMod (Z7 oDiv Z1 (dC (.int 10000000000))) (dC (.int 200)))) (zf (dC (.int 40)) zF)))) (Z7 oMod (Z7 oDiv Z1 (dC (.int 10000000000000))) S8)) Uo)
 (zA (zH (Yz 3 [] (Zj (dCall zcG (zf (Ql RV ZP none (some ZQ)) zF))) (Yq 3 (z9 Ym (z9 Wt (z9 Yv Yr)))) Xu (dTup (zf Z2 (zf Z1 (zf (Z7 Zy ZQ ci7) zF))))) Qa)
 (zA (zH (dCall zdK (zf ZP (zf Zz ua5))) gn9)
 (zU (dTup (zf Ye (zf WT (zf SM (zf Xi (zf Zz (zf Zt (zf (Z7 oMod (Z7 oDiv Z1 (dC (.int 1000000000000000))) Sq) zF))))))))))))))))))
def zlV:BodyOk 10 zhW zdh:=by
  rintro ds S Q ⟨ns,rfl,hl,q⟩
  unfold zhW
  walk_at"g"
  refine⟨ns,0,rfl,by decide,fun c0=>?_⟩
  have h0:=R5 c0 (show(1000000000000000000000000000000:Int)≠0 by decide)
  have h1:=qaK c0 (show(0:Int)<1000000000000000000000000000000 by decide)
  walk_at"g"
  generalize c0%1000000000000000000000000000000=hd at h0 h1
  rw[zjP]
  have cl:(cutD ns (some 2) none).length<=63:=qY (zsI _ _ _) (by unfold W0;dsimp only;split<;>lia)
  generalize cutD ns (some 2) none=cn at cl
  refine⟨_,cn,6,rfl,Lst.at0,cl,by decide,by decide,fun zs hz hzb=>?_⟩
  unfold New
  have hz6:zs.length=6:=by lia
  obtain⟨hz',ahz,hzo⟩:∃ hz:Option Int,Y9 [.non,.int (9+hd/10000000000%200),.int 40] (hd/10000000000000%3)=some (YB hz)/\∀ z,hz=some z->0<=z:=by
    have:hd/10000000000000%3=0\/hd/10000000000000%3=1\/hd/10000000000000%3=2:=by lia
    rcases this with e|e|e<;>rw[e]
    . exact⟨none,rfl,fun z h=>by cases h⟩
    . exact⟨some (9+hd/10000000000%200),rfl,fun z h=>by cases h;lia⟩
    . exact⟨some 40,rfl,fun z h=>by cases h;decide⟩
  walk_at"g"
  rw[zjP,zrB zs (by lia) (by lia)]
  have lb:(zs.take (2+hd%4).toNat).length=(2+hd%4).toNat:=by rw[Vy];lia
  generalize zs.take (2+hd%4).toNat=bn at lb
  obtain⟨Sa,hSa⟩:∃ Sa:Z5,Sa=S++[Cell.lst (cn.map D.int)]:=⟨_,rfl⟩
  have ga:Wv (QS (hd/1000000%11-5) (hd/100000000%12-6)):=zvU (by lia) (by lia) (by lia) (by lia)
  have gs:∀ x z:Int,-6<=x->x<=6->7<=z->Wh (QS (hd/1000000%11-5) (hd/100000000%12-6)) (x,z):=fun x z h1 h2 h3=>ztv (by lia) (by lia) (by lia) h1 h2 h3
  generalize hgr:QS (hd/1000000%11-5) (hd/100000000%12-6)=gr at ga gs
  have egr:[D.tup [D.int (-9),D.int (-3)],D.tup [D.int (hd/1000000%11-5),D.int (hd/100000000%12-6)],D.tup [D.int 9,D.int (-3)]]=gr.map p2:=by rw[<- hgr];rfl
  rw[<- hSa,egr]
  refine⟨_,bn,rfl,Lst.at (k:=3) rfl,by lia,fun T1 bs lbs hbs=>?_⟩
  obtain⟨Sb,hSb⟩:∃ Sb:Z5,Sb=Sa++[Cell.lst (zs.map D.int),.lst (gr.map p2),.lst [.non,.int (9+hd/10000000000%200),.int 40],.lst (bn.map D.int)]:=⟨_,rfl⟩
  have ks:∀ T,Lst (Sb++T) (.ref Sa.length) (zs.map D.int):=fun T=>hSb▸Lst.old Lst.at0
  have kg:∀ T,Lst (Sb++T) (.ref (Sa.length+1)) (gr.map p2):=fun T=>hSb▸Lst.old (Lst.at (k:=1) rfl)
  have xb:∃ T,Sb=S++T:=⟨_,by rw[hSb,hSa,qu]⟩
  rw[<- hSb]
  clear hSb hSa egr hgr ahz
  generalize Sa.length=na at ks kg
  walk_at"g"
  refine W8 (fun _=>true) (Qw fun b=>Yi (b.1,(b.2.1,b.2.2+7))) Lst.at0 (by rw[qb];unfold big;lia) (fun i d ys hd' hw=>?_) ?_
  . obtain⟨b,hb,rfl⟩:=Qm hd'
    walk_at"g"
    exact WW hd' hw rfl rfl
  rw[filter_true,O9,show bs.map (fun b=>Yi (b.1,(b.2.1,b.2.2+7)))=(bs.map fun b=>(b.1,(b.2.1,b.2.2+7))).map Yi by rw[qT];rfl]
  have nm1:∀ b∈bs.map (fun b=>(b.1,(b.2.1,b.2.2+7))),Wu b.1=true/\-6<=b.2.1/\b.2.1<=6/\7<=b.2.2/\b.2.2<=15:=fun b hb=>by
    obtain⟨b',hb',rfl⟩:=qW.mp hb
    obtain⟨j,hj,ej⟩:=qS.mp hb'
    obtain⟨_,k1,k2,k3,k4⟩:=hbs j b' (by rw[qc hj,ej])
    exact⟨hbs.nm (by lia) b' hb',k1,k2,by dsimp only;lia,by dsimp only;lia⟩
  have nd1:((bs.map (fun b=>(b.1,(b.2.1,b.2.2+7)))).map (·.1)).Nodup:=by
    rw[qT];exact hbs.nd
  have hn1:zvV (bs.map fun b=>(b.1,(b.2.1,b.2.2+7))):=fun j b e=>by
    rw[qj]at e
    cases eb:bs[j]? with
    |none=>rw[eb]at e;cases e
    |some b'=>rw[eb]at e;cases e;exact(hbs j b' eb).1
  have ln1:(bs.map (fun b=>(b.1,(b.2.1,b.2.2+7)))).length=(2+hd%4).toNat:=by rw[qb,lbs,lb]
  generalize bs.map (fun b=>(b.1,(b.2.1,b.2.2+7)))=b2 at nm1 nd1 ln1 hn1
  unfold New
  rw[qu]
  obtain⟨Sc,hSc⟩:∃ Sc:Z5,Sc=Sb++(Cell.lst (bs.map Yi)::T1):=⟨_,rfl⟩
  have ks2:∀ T,Lst (Sc++T) (.ref na) (zs.map D.int):=fun T=>hSc▸(ks _).old
  have kg2:∀ T,Lst (Sc++T) (.ref (na+1)) (gr.map p2):=fun T=>hSc▸(kg _).old
  have xc:∃ T,Sc=S++T:=ztX xb hSc
  rw[<- qu,<- hSc]
  clear hSc
  walk_at"g"
  refine⟨_,zs,_,_,rfl,ks2 _,by lia,by lia,by lia,by lia,fun fs lf hf=>?_⟩
  unfold New
  walk_at"g"
  have sm:∀ {v:Int} {k:Nat},20<=k->-100<=v->v<=100->Bd k v:=fun {v k} hk h1 h2=>(show Bd 20 v by show _<2 ^ 20;lia).mono hk
  have e2:Sc++[Cell.lst (b2.map Yi)]++[.lst (fs.map XJ)]=Sc++[Cell.lst (b2.map Yi),.lst (fs.map XJ)]:=by simp
  have e3:(Sc++[Cell.lst (b2.map Yi)]).length=Sc.length+1:=by simp
  rw[e2,e3]
  have vs:RX (Sc++[Cell.lst (b2.map Yi),.lst (fs.map XJ)]) (.ref (na+1)) (.ref Sc.length) (.ref (Sc.length+1)) ⟨gr,b2,fs,hz',hd/4%11-5,hd/4%11-5+hd/44%24,hd/1000000000000000%4⟩:=⟨kg2 _,Lst.at0,Lst.at (k:=1) rfl⟩
  have ok:YF ⟨gr,b2,fs,hz',hd/4%11-5,hd/4%11-5+hd/44%24,hd/1000000000000000%4⟩:={ gr:=ga,b1:=(by show 1<=b2.length;lia),b12:=(by show b2.length<=12;lia),nm:=fun b hb=>(nm1 b hb).1,nd:=nd1,st:=fun b hb=>gs b.2.1 b.2.2 (nm1 b hb).2.1 (nm1 b hb).2.2.1 (nm1 b hb).2.2.2.1,bd:=fun b hb=>⟨sm (by decide) (by have:=(nm1 b hb).2;lia) (by have:=(nm1 b hb).2;lia),sm (by decide) (by have:=(nm1 b hb).2;lia) (by have:=(nm1 b hb).2;lia)⟩,f12:=(by show fs.length<=12;lia),fg:=hf,hz:=hzo,hh:=(by dsimp only;lia),b0:=sm (by decide) (by dsimp only;lia) (by dsimp only;lia),bl:=sm (by decide) (by dsimp only;lia) (by dsimp only;lia),dl:=(by dsimp only;lia) }
  obtain⟨Tc,rfl⟩:=xc
  rw[qu]at vs ⊢
  exact fin_same (q _ _ _ _ _ ok (by dsimp only;lia) (by dsimp only;lia) (by dsimp only;lia) (by dsimp only;lia) (by dsimp only;lia) (by dsimp only;lia) (by dsimp only;lia) hn1 vs)
def za7:ZS:=fun ds S Q=>∃ (x:D) (cs:List (Int×Int)),ds=[x]/\Lst S x (cs.map p2)/\Wv cs/\Q .non S
abbrev zdi:DS :=
    (zA (ZC (UL (dT (Z7 oLt (dB Y7 Zb) Vb)) (dT (Z7 Xj (dB Y7 Zb) (dC (.int 40))))) Vn Zv)
 (Y0 (zoB (zf ZJ (zf (dB Y7 Zb) zF))) Wt (ZC (dT (Z7 oLe (Z7 ZW (Z7 ZW Z2 Z1) Zx) (Z7 ZW (Z7 ZW Z2 (Z7 Zq Z1 ZJ)) Zx))) Vn Zv)))
def zfq:BodyOk 2 zdi za7:=by
 rintro ds S Q ⟨x,cs,rfl,hx,g,q⟩
 unfold zdi
 have g1:=g.two
 have g2:=g.most
 walk_at"g"
 rw[qb]
 refine ZM (fun z=>absurd z (by lia)) (fun _=>?_)
 walk_at"g"
 rw[qb]
 refine ZM (fun z=>absurd z (by lia)) (fun _=>?_)
 walk_at"g"
 rw[qb]
 refine⟨_,_,rfl,?_⟩
 refine YH (fun i ρ S'=>S'=S/\∃ w:Option D,ρ=[some x,w]) ⟨rfl,none,rfl⟩ (fun _ _ _ _=>True.intro) ?_ ?_
 ·rintro i d ρ S' hd ⟨rfl,w,rfl⟩
  obtain⟨hi,rfl⟩:=zjO hd
  obtain⟨a,ha,aa⟩:=zkR (cs:=cs) (k:=1+(i:Int)) (by lia) (by lia)
  obtain⟨b,hb,ab⟩:=zkR (cs:=cs) (k:=1+(i:Int)-1) (by lia) (by lia)
  have hlt:=zpu g (show(1+(i:Int)-1).toNat<(1+(i:Int)).toNat by lia) hb ha
  walk_at"g"
  refine ZM (fun z=>absurd z (by lia)) (fun _=>?_)
  walk_at"g"
  exact⟨rfl,_,rfl⟩
 ·rintro ρ S' ⟨rfl,w,rfl⟩
  exact fin_same q
def zdr:ZS:=fun ds S Q=>∃ (S0:Z5) (x:D) (cs:List (Int×Int)),ds=[.ref S0.length,x]/\S=S0++[.ins "Ground" []]/\Lst S0 x (cs.map p2)/\Wv cs/\Q .non (S0++[.ins "Ground" [("corners",.ref (S0.length+1))],.lst (cs.map p2)])
abbrev zcL:DS :=
    (zA (Zf (dCall za7 Ys))
 (Uj "Ground" "corners" Z2 (dB ziW Ys)))
def zjr:BodyOk 2 zcL zdr:=by
 rintro ds S Q ⟨S0,x,cs,rfl,rfl,hx,g,q⟩
 unfold zcL
 have hx':Lst (S0++[.ins "Ground" []]) x (cs.map p2):=hx.old
 walk_at"g"
 refine⟨x,cs,rfl,hx',g,?_⟩
 walk_at"g"
 refine⟨S0.length,[],rfl,Y4,by decide,?_⟩
 rw[VP]
 exact fin_same q
def zeV:ZS:=zns "Ground" zdr
def za8:ZS:=fun ds S Q=>∃ (x y:D) (xs ys:List D),ds=[x,y]/\Lst S x xs/\Lst S y ys/\1<=xs.length/\xs.length<=12/\ys.length<=12/\Q .non S
abbrev zc7:DS :=
    (zA (ZC (UL (dT (Z7 oLt (dB Y7 Zb) ZJ)) (dT (Z7 Xj (dB Y7 Zb) (dC (.int 12))))) Vn Zv)
 (ZC (dT (Z7 Xj (dB Y7 Ys) (dC (.int 12)))) Vn Zv))
def zfy:BodyOk 2 zc7 za8:=by
 rintro ds S Q ⟨x,y,xs,ys,rfl,hx,hy,h1,h2,h3,q⟩
 unfold zc7
 walk_at"g"
 rw[decide_eq_false (show ¬ ((xs.length:Int)<1) by lia)]
 walk_at"g"
 rw[decide_eq_false (show ¬ ((12:Int)<xs.length) by lia)]
 walk_at"g"
 rw[decide_eq_false (show ¬ ((12:Int)<ys.length) by lia)]
 walk_at"g"
 exact fin_same q
def zeg:ZS:=fun ds S Q=>∃ z:Str,ds=[.str z]/\z.length<=1000/\Q (.bl (Wu z)) S
abbrev zky:DS :=
    (zA (ZC (UL (dT (Z7 oLt (dB Y7 Zb) ZJ)) (dT (Z7 Xj (dB Y7 Zb) ci8))) (zU (dC (.bl false))) Zv)
 (zU (dB R7 (zf (Yz 1 [] (Zj Z2) Ym Xu (Z7 oIn Z2 (dC (.str "abcdefghijklmnopqrstuvwxyz")))) zF))))
def znW:BodyOk 1 zky zeg:=by
 rintro ds S Q ⟨z,rfl,hz,q⟩
 unfold zky
 have hb:z.length<=big:=by unfold big;lia
 walk_at"g"
 refine zpF hb ?_
 walk_at"g"
 unfold Wu at q
 refine ZM (fun h=>?_) (fun h=>?_)
 ·walk_at"g"
  rw[decide_eq_false (show ¬ 1<=z.length by lia)]at q
  exact fin_same q
 rw[decide_eq_true (show 1<=z.length by lia)]at q
 walk_at"g"
 refine zpF hb ?_
 walk_at"g"
 refine ZM (fun h=>?_) (fun h=>?_)
 ·walk_at"g"
  rw[decide_eq_false (show ¬ z.length<=8 by lia)]at q
  exact fin_same q
 rw[decide_eq_true (show z.length<=8 by lia)]at q
 walk_at"g"
 refine W8 (fun _=>true) (onC fun c=>decide (c∈abc)) True.intro (by rw[zoM];exact hb) (fun i d ys hd hw=>?_) ?_
 ·obtain⟨c,_,rfl⟩:=zpC hd
  walk_at"g"
  rw[zuB]
  exact WW hd hw rfl rfl
 rw[filter_true,zpB]
 walk_at"g"
 refine zgP Lst.at0 rfl ?_
 refine Xw rfl ?_
 rw[SX]
 exact q
def zbx:ZS:=fun ds S Q=>∃ (x:D) (zs:List Str),ds=[x]/\Lst S x (zs.map D.str)/\zs.length<=100/\(∀ z∈zs,Wu z=true)/\zs.Nodup/\Q .non S
abbrev zdS:DS :=
    (zA (ZC (U3 (dT (dB R7 (zf (Yz 1 [] (Zj Z2) Ym Xu (dCall zeg Zb)) zF)))) Vn Zv)
 (ZC (dT (Z7 oLt (dB zoa Zb) (dB Y7 Zb))) Vn Zv))
def zgr:BodyOk 1 zdS zbx:=by
 rintro ds S Q ⟨x,zs,rfl,hx,hl,hn,nd,q⟩
 unfold zdS
 walk_at"g"
 refine W8 (fun _=>true) (onS fun z=>.bl (Wu z)) hx (by rw[qb];unfold big;lia) (fun i d ys hd hw=>?_) ?_
 ·obtain⟨z,hz,rfl⟩:=zjG hd
  walk_at"g"
  refine⟨z,rfl,by have:=(zjy.mp (hn z (qe hz))).2.1;lia,?_⟩
  exact WW hd hw rfl rfl
 rw[filter_true,zui,show zs.map (fun z=>D.bl (Wu z))=(zs.map Wu).map D.bl by rw[qT];rfl]
 walk_at"g"
 refine zgP (b:=true) Lst.at0 (by rw[SX,VB];exact hn) ?_
 walk_at"g"
 refine zwp (zs:=zs) hx.old (by lia) ?_
 rw[zoF nd]
 have hx1:Lst (S++[Cell.lst ((zs.map Wu).map D.bl)]) x (zs.map D.str):=hx.old
 walk_at"g"
 rw[qb,decide_eq_false (show ¬ ((zs.length:Int)<zs.length) by lia)]
 walk_at"g"
 exact Xw rfl q
def PK:ZS:=fun ds S Q=>∃ (a b:Int×Int),ds=[p2 a,p2 b]/\YL a.1 b.2/\YL b.1 a.2/\Q (.bl (flt a b)) S
abbrev zqc:DS :=
  (zU (Z7 oLt (Z7 Yt Yc UJ) (Z7 Yt Vt W7)))
def zsP:BodyOk 2 zqc PK:=by
 rintro ds S Q ⟨a,b,rfl,c1,c2,q⟩
 unfold zqc
 walk_at"g"
 exact fin_same q
def zex:ZS:=fun ds S Q=>∃ (g:D) (cs:List (Int×Int)) (p:Int×Int),ds=[g,p2 p]/\Wb S g cs/\Wv cs/\Bd 1000 p.1/\Bd 1000 p.2/\Q (.bl (decide (zjs cs*p.2<=p.1)&&decide (p.1<=Qe cs*p.2))) S
abbrev zmQ:DS :=
    (zA (zH (dTup (zf (Z7 ZW (Z7 ZW (YQ "corners" Z2) Zx) Zx) (zf ZJ zF))) Yv)
 (zA (zH (dTup (zf (Z7 ZW (Z7 ZW (YQ "corners" Z2) (Yp Yo ZJ)) Zx) (zf ZJ zF))) Zd)
 (zU (zhq (zhw (dCall PK (zf Z1 Yy))) (zhw (dCall PK (zf ZP Ys)))))))
def zrP:BodyOk 4 zmQ zex:=by
 rintro ds S Q ⟨g,cs,p,rfl,⟨n,l,rfl,hn,hl⟩,gr,b1,b2,q⟩
 unfold zmQ
 have g1:=gr.two
 obtain⟨a,ha,ea⟩:=zpP gr
 obtain⟨z,hz,ez⟩:=zr1 gr
 have aa:Y9 (cs.map p2) 0=some (p2 a):=T4 (i:=0) (by rw[qj,ha];rfl)
 have az:Y9 (cs.map p2) (-1)=some (p2 z):=by
  have hne:cs≠[]:=fun e=>by rw[e]at g1;simp at g1
  have en:cs=cs.dropLast++[z]:=by
   have h2:=qaJ hne
   have h3:cs.getLast hne=z:=by
    rw[List.getLast_eq_getElem]
    have hl':=zV hz
    rw[qc hl']at hz
    cases hz;rfl
   rw[h3]at h2
   exact h2.symm
  rw[en,qA];exact zis
 obtain⟨ba,_⟩:=gr.bd a (qe ha)
 obtain⟨bz,_⟩:=gr.bd z (qe hz)
 rw[ea,ez]at q
 have e1:flt p (a.1,1)=decide (p.1<a.1*p.2):=by unfold flt;dsimp only;rw[WR]
 have e2:flt (z.1,1) p=decide (z.1*p.2<p.1):=by unfold flt;dsimp only;rw[WR]
 have c1:YL a.1 p.2:=.inl ⟨ba.mono (by decide),b2.mono (by decide)⟩
 have c2:YL z.1 p.2:=.inl ⟨bz.mono (by decide),b2.mono (by decide)⟩
 have c3:∀ u:Int,YL u 1:=fun u=>.inr (.inr (by decide))
 walk_at"g"
 refine⟨p,(a.1,1),rfl,c3 _,c1,?_⟩
 rw[e1]
 walk_at"g"
 refine QL (fun g=>?_) (fun g=>?_)
 ·walk_at"g"
  refine⟨(z.1,1),p,rfl,c2,c3 _,?_⟩
  rw[e2]
  walk_at"g"
  rw[decide_eq_true (show a.1*p.2<=p.1 by lia),Bool.true_and]at q
  rw[show(!decide (z.1*p.2<p.1))=decide (p.1<=z.1*p.2) by rw[<- decide_not];exact decide_eq_decide.mpr (by lia)]
  exact fin_same q
 ·rw[decide_eq_false (show ¬ a.1*p.2<=p.1 by lia),Bool.false_and]at q
  exact fin_same q
def zbT:ZS:=fun ds S Q=>∃ (t b:Int),ds=[.int t,.int b]/\Q (.int ((Int.gcd t b:Nat):Int)) S
abbrev zeE:DS :=
    (zA (QV (dT (Z7 Wj Z1 Zx)) (zA (zH (Z7 oMod Z2 Z1) Yv)
 (zA (zH Z1 Ym)
 (zH ZQ Wt))))
 (zU (dB zrk Zb)))
def zhF:BodyOk 3 zeE zbT:=by
 rintro ds S Q ⟨t,b,rfl,q⟩
 unfold zeE
 refine Dp.zn1 ?_
 refine zrV (fun m ρ S'=>S'=S/\∃ (x y:Int) (w:Option D),ρ=[some (.int x),some (.int y),w]/\m=y.natAbs/\Int.gcd x y=Int.gcd t b) b.natAbs ⟨rfl,_,_,none,rfl,rfl,rfl⟩ ?_
 rintro m ρ S' ⟨rfl,x,y,w,rfl,rfl,e⟩
 walk_at"g"
 refine QL (fun h0=>?_) (fun h0=>?_)
 ·refine zpK ?_
  refine Dp.zn1 ?_
  refine Dp.zsz ?_
  refine Dp.znw ?_
  refine Dp.Pu rfl ?_
  refine Dp.Pu rfl ?_
  refine zwb h0 ?_
  walk_at"g"
  exact⟨_,zmv h0,rfl,_,_,_,rfl,rfl,(zrD x y).trans e⟩
 ·subst h0
  rw[Int.gcd_zero]at e
  walk_at"g"
  rw[<- e]at q
  exact fin_same q
def zdD:ZS:=fun ds S Q=>∃ (t b:Int),ds=[.int t,.int b]/\b≠0/\Bd 8000 b/\Q (p2 (Ug t b,frB t b)) S
abbrev ziV:DS :=
    (zA (zH (dCall zbT (zf Z2 Ys)) Yv)
 (zA (sJ (ZC (dT (Z7 oLt Z1 Zx)) (zH (Yp Yo ZQ) Yv) Zv))
 (zU (dTup (zf (Z7 oDiv Z2 ZQ) (zf (Z7 oDiv Z1 ZQ) zF))))))
def zmw:BodyOk 3 ziV zdD:=by
 rintro ds S Q ⟨t,b,rfl,hb,bb,q⟩
 unfold ziV
 have hgn:=zsf (t:=t) (b:=b) hb
 have hgb:=zxr (t:=t) (b:=b) hb bb
 walk_at"g"
 refine⟨t,b,rfl,?_⟩
 walk_at"g"
 refine r_J (fun ρ S'=>S'=S/\ρ=[some (.int t),some (.int b),some (.int (gd t b))]) ?_ ?_
 ·walk_at"g"
  refine ZM (fun g=>?_) (fun g=>?_)
  ·have hg:gd t b=-((Int.gcd t b:Nat):Int):=if_pos g
   walk_at"g"
   exact⟨rfl,by rw[hg];rfl⟩
  ·have hg:gd t b=((Int.gcd t b:Nat):Int):=if_neg g
   walk_at"g"
   exact⟨rfl,by rw[hg];rfl⟩
 rintro ρ S' ⟨rfl,rfl⟩
 refine Dp.zr8 ?_
 refine Dp.zsD ?_
 refine Dp.zmf ?_
 refine Dp.znw ?_
 refine Dp.Pu rfl ?_
 refine Dp.Pu rfl ?_
 refine zpd ⟨hgn,hgb⟩ ?_
 refine Dp.zmf ?_
 refine Dp.znw ?_
 refine Dp.Pu rfl ?_
 refine Dp.Pu rfl ?_
 refine zpd ⟨hgn,hgb⟩ ?_
 walk_at"g"
 exact fin_same q
def zdf:ZS:=fun ds S Q=>∃ (a b p:Int×Int),ds=[p2 a,p2 b,p2 p]/\b.1≠a.1/\0<p.2/\Bd 180 a.1/\Bd 200 a.2/\Bd 180 b.1/\Bd 200 b.2/\Bd 1000 p.1/\Bd 1000 p.2/\∀ c:Int×Int,Sv c (Qu a b p) (T9 a b p)->Int.gcd c.1 c.2=1->Bd 1400 c.1->Bd 1400 c.2->Q (p2 c) S
def zwW {t b:Int}(hb:b≠0):Sv (Ug t b,frB t b) (if 0<b then t else -t) (if 0<b then b else -b):=by
 have h1:=zrX t b
 have h2:=ztG (t:=t) hb
 refine⟨by show 0<frB t b;lia,?_⟩
 show Ug t b*_=_*frB t b
 split
 ·rw[h1,Vg]
 ·rw[qbt,h1,O2,Vg]
abbrev zhM:DS :=
    (zA (zH (Z7 Zq Vt Yc) Zd)
 (zA (zH (Z7 Zq UJ W7) YS)
 (zA (zH (Z7 Zy (Z7 Yt (Z7 Yt W7 ZP) TV) (Z7 Yt Zz (Z7 Zq Ru (Z7 Yt Yc TV)))) Yl)
 (zU (dCall zdD (zf Zt (zf (Z7 Yt ZP TV) zF)))))))
def zlM:BodyOk 6 zhM zdf:=by
 rintro ds S Q ⟨a,b,p,rfl,hne,hp,b1,b2,b3,b4,b5,b6,q⟩
 unfold zhM
 have r1:Bd 181 (b.1-a.1):=Bd.sub b3 b1
 have r2:Bd 201 (b.2-a.2):=Bd.sub b4 b2
 have m1:Bd 381 (a.2*(b.1-a.1)):=Bd.mul b2 r1
 have m2:Bd 1381 (a.2*(b.1-a.1)*p.2):=Bd.mul m1 b6
 have m3:Bd 1180 (a.1*p.2):=Bd.mul b1 b6
 have m4:Bd 1181 (p.1-a.1*p.2):=Bd.sub (b5.mono (by decide)) m3
 have m5:Bd 1382 ((b.2-a.2)*(p.1-a.1*p.2)):=Bd.mul r2 m4
 have m6:Bd 1181 ((b.1-a.1)*p.2):=Bd.mul r1 b6
 have bT:Bd 1400 (a.2*(b.1-a.1)*p.2+(b.2-a.2)*(p.1-a.1*p.2)):=(Bd.add (n:=1382) (m2.mono (by decide)) m5).mono (by decide)
 have c1:YL a.2 (b.1-a.1):=.inl ⟨b2.mono (by decide),r1.mono (by decide)⟩
 have c2:YL (a.2*(b.1-a.1)) p.2:=.inl ⟨m1.mono (by decide),b6.mono (by decide)⟩
 have c3:YL a.1 p.2:=.inl ⟨b1.mono (by decide),b6.mono (by decide)⟩
 have c4:YL (b.2-a.2) (p.1-a.1*p.2):=.inl ⟨r2.mono (by decide),m4.mono (by decide)⟩
 have c5:YL (b.1-a.1) p.2:=.inl ⟨r1.mono (by decide),b6.mono (by decide)⟩
 walk_at"g"
 have hr:(b.1-a.1)*p.2≠0:=Int.mul_ne_zero (by lia) (by lia)
 refine⟨_,_,rfl,hr,m6.mono (by decide),?_⟩
 refine fin_same (q _ ?_ (zuE hr) (zuV bT) ((zvC m6).mono (by decide)))
 have hs:=zwW (t:=a.2*(b.1-a.1)*p.2+(b.2-a.2)*(p.1-a.1*p.2)) hr
 unfold Qu T9
 by_cases g:0<b.1-a.1
 ·have:0<(b.1-a.1)*p.2:=qbv g hp
  rw[if_pos this,if_pos this]at hs
  rw[if_pos g,if_pos g];exact hs
 ·have:¬ 0<(b.1-a.1)*p.2:=fun z=>by
   have:=qbv (show 0 < -(b.1-a.1) by lia) hp
   rw[O2]at this
   lia
  rw[if_neg this,if_neg this]at hs
  rw[if_neg g,if_neg g];exact hs
def zdk:Ww:=fun ds S Q ex=>∃ (g:D) (cs:List (Int×Int)) (p:Int×Int),ds=[g,p2 p]/\Wb S g cs/\Wv cs/\0<p.2/\Bd 1000 p.1/\Bd 1000 p.2/\(¬ OnG cs p->ex "OffGround" S)/\(OnG cs p->∀ a b c:Int×Int,QG cs p=some (a,b)->Sv c (Qu a b p) (T9 a b p)->0<T9 a b p->Int.gcd c.1 c.2=1->Bd 1400 c.1->Bd 1400 c.2->Q (p2 c) S)
abbrev zhV (ex : XR) : DS :=
    (zA (ZC (U3 (dT (dCall zex (zf Z2 Ys)))) (zfN ex "OffGround") Zv)
 (zA (zH (YQ "corners" Z2) Yv)
 (zA (zH ZJ Zd)
 (zA (QV (dT (dCall PK (zf (dTup (zf (Z7 ZW (Z7 ZW ZQ ZP) Zx) (zf ZJ zF))) Ys))) (zrw 3 ZJ))
 (zU (dCall zdf (zf (Z7 ZW ZQ (Z7 Zq ZP ZJ)) (zf (Z7 ZW ZQ ZP) Ys))))))))
def zlX:T8 4 zhV zdk:=by
 rintro ds S Q ex ⟨g,cs,p,rfl,hg,gr,hp,b1,b2,hx,q⟩
 unfold zhV
 obtain⟨n,l,rfl,hn,hl⟩:=id hg
 walk_at"g"
 refine⟨_,cs,p,rfl,hg,gr,b1,b2,?_⟩
 by_cases on:OnG cs p
 case neg =>
  have e:(decide (zjs cs*p.2<=p.1)&&decide (p.1<=Qe cs*p.2))=false:=Bool.eq_false_iff.mpr fun z=>on (by rw[qG,decide_eq_true_eq,decide_eq_true_eq]at z;exact z)
  rw[e]
  walk_at"g"
  exact hx on
 have q:=q on
 obtain⟨kk,a,b,ha,hb,hle,hlt⟩:=zp1 gr.two on.2
 have seg:=seg_at ha hb hle hlt
 have hk:=zV hb
 rw[decide_eq_true on.1,decide_eq_true on.2,show(true&&true)=true from rfl]
 walk_at"g"
 refine zrV (fun m ρ S'=>S'=S/\∃ j:Nat,ρ=[some (.ref n),some (p2 p),some (.ref l),some (.int ((j:Int)+1))]/\m=kk-j/\j<=kk) kk ⟨rfl,0,rfl,rfl,by lia⟩ ?_
 rintro m ρ S' ⟨rfl,j,rfl,rfl,hj⟩
 obtain⟨c,hc,ac⟩:=zkR (cs:=cs) (k:=(j:Int)+1) (by lia) (by lia)
 have hc':cs[j+1]?=some c:=by rwa[show((j:Int)+1).toNat=j+1 by lia]at hc
 obtain⟨bc,bc2⟩:=gr.bd c (qe hc)
 have e1:flt (c.1,1) p=decide (c.1*p.2<p.1):=by unfold flt;dsimp only;rw[WR]
 walk_at"g"
 refine⟨(c.1,1),p,rfl,.inl ⟨bc.mono (by decide),b2.mono (by decide)⟩,.inr (.inr (show(1:Int).natAbs<2 ^ 64 by decide)),?_⟩
 rw[e1]
 walk_at"g"
 refine ZM (fun h=>?_) (fun h=>?_)
 ·walk_at"g"
  have hjk:j<kk:=by
   rcases qL j kk with z|z
   ·exact z
   ·have:j=kk:=by lia
    subst this
    rw[hb]at hc'
    cases hc'
    lia
  exact⟨kk-(j+1),by lia,rfl,j+1,by simp,rfl,by lia⟩
 ·have hjk:j=kk:=by
   rcases qL j kk with z|z
   ·have:=hlt (j+1) c (by lia) (by lia) hc'
    lia
   ·lia
  subst hjk
  rw[hb]at hc'
  cases hc'
  have aa:Y9 (cs.map p2) ((j:Int)+1-1)=some (p2 a):=by
   rw[show(j:Int)+1-1=(j:Int) by lia]
   exact T4 (by rw[qj,ha];rfl)
  obtain⟨ba1,ba2⟩:=gr.bd a (qe ha)
  have hab:=zpu gr (show j<j+1 by lia) ha hb
  walk_at"g"
  refine⟨a,b,p,rfl,by lia,hp,ba1.mono (by decide),ba2.mono (by decide),bc.mono (by decide),bc2.mono (by decide),b1,b2,fun c hs hg d1 d2=>?_⟩
  exact fin_same (q a b c seg hs (ztw (by lia) hp) hg d1 d2)
def zd2:ZS:=fun ds S Q=>∃ (g:D) (cs:List (Int×Int)) (s:Int×Int),ds=[g,p2 s]/\Wb S g cs/\Wv cs/\Bd 180 s.1/\Bd 200 s.2/\∀ b:Bool,(b=true↔Wh cs s)->Q (.bl b) S
abbrev zlo:DS :=
    (zA (zH (dTup (zf Vt (zf ZJ zF))) Yv)
 (zA (ZC (U3 (dT (dCall zex (zf Z2 Yy)))) (zU (dC (.bl false))) Zv)
 (zU (zhw (dCall PK (zf (dTup (zf UJ (zf ZJ zF))) (zf (Wm zdk xF (zf Z2 Yy)) zF)))))))
def zpA:BodyOk 3 zlo zd2:=by
 rintro ds S Q ⟨g,cs,s,rfl,hg,gr,b1,b2,q⟩
 unfold zlo
 have bo:Bd 1000 (1:Int):=Bd.lit (by decide) (by decide)
 walk_at"g"
 refine⟨g,cs,(s.1,1),rfl,hg,gr,b1.mono (by decide),bo,?_⟩
 by_cases on:OnG cs (s.1,1)
 case neg =>
  have e:(decide (zjs cs*(s.1,(1:Int)).2<=(s.1,(1:Int)).1)&&decide ((s.1,(1:Int)).1<=Qe cs*(s.1,(1:Int)).2))=false:=Bool.eq_false_iff.mpr fun z=>on (by rw[qG,decide_eq_true_eq,decide_eq_true_eq]at z;exact z)
  rw[e]
  walk_at"g"
  exact fin_same (q false ⟨fun z=>(by cases z),fun z=>absurd z.1 on⟩)
 rw[decide_eq_true on.1,decide_eq_true on.2,show(true&&true)=true from rfl]
 walk_at"g"
 refine⟨g,cs,(s.1,1),rfl,hg,gr,(show(0:Int)<1 by decide),b1.mono (by decide),bo,fun off=>absurd on off,fun _ a b c seg sv hb hgcd d1 d2=>?_⟩
 walk_at"g"
 refine⟨(s.2,1),c,rfl,.inl ⟨b2.mono (by decide),d2.mono (by decide)⟩,.inr (.inr (show(1:Int).natAbs<2 ^ 64 by decide)),?_⟩
 rw[zvA (t:=s.2) (b:=1) (by decide) hb ⟨(show(0:Int)<1 by decide),rfl⟩ sv]
 walk_at"g"
 refine fin_same (q _ ?_)
 rw[Bool.not_eq_true',decide_eq_false_iff_not]
 constructor
 ·intro h
  refine⟨on,fun a' b' seg'=>?_⟩
  rw[seg]at seg';cases seg';lia
 ·intro h
  have:=h.2 a b seg
  lia
def zbH:ZS:=fun ds S Q=>∃ (g y:D) (cs:List (Int×Int)) (bs:List (Str×(Int×Int))),ds=[g,y]/\Wb S g cs/\Wv cs/\Lst S y (bs.map Yi)/\bs.length<=100/\(∀ b∈bs,Wh cs b.2/\Bd 180 b.2.1/\Bd 200 b.2.2)/\Q .non S
abbrev zeb:DS :=
  (ZC (U3 (dT (dB R7 (zf (Yz 3 [0] (Zj Z1) (Yq 3 (z9 Ym (z9 Wt (z9 Yv Yr)))) Xu (dCall zd2 (zf ZP (zf (dTup (zf Z1 Yy)) zF)))) zF)))) Vn Zv)
def zgv:BodyOk 2 zeb zbH:=by
 rintro ds S Q ⟨g,y,cs,bs,rfl,hg,gr,hy,hl,hb,q⟩
 unfold zeb
 walk_at"g"
 refine W8 (fun _=>true) (Qw fun _=>.bl true) hy (by rw[qb];unfold big;lia) (fun i d ys hd hw=>?_) ?_
 ·obtain⟨b,hbi,rfl⟩:=Qm hd
  obtain⟨s1,s2,s3⟩:=hb b (qe hbi)
  walk_at"g"
  refine⟨g,cs,b.2,rfl,hg,gr,s2,s3,fun r hr=>?_⟩
  rw[hr.mpr s1]
  exact WW hd hw rfl rfl
 rw[filter_true,O9,show bs.map (fun _=>D.bl true)=(bs.map fun _=>true).map D.bl by rw[qT];rfl]
 walk_at"g"
 refine zgP (b:=true) Lst.at0 (by rw[SX,VB];intro _ _;rfl) ?_
 walk_at"g"
 exact Xw rfl q
def zdJ:ZS:=fun ds S Q=>∃ i:Int,ds=[.int i]/\Q (.bl true) S
abbrev zjg:DS :=
  (zU (zhq (dB Sy (zf Z2 (zf (dC (.ty "int")) zF))) (zhw (dB Sy (zf Z2 (zf (dC (.ty "bool")) zF))))))
def zmA:BodyOk 1 zjg zdJ:=by
 rintro ds S Q ⟨i,rfl,q⟩
 unfold zjg
 walk_at"g"
 exact fin_same q
def ze5:ZS:=fun ds S Q=>∃ F:Fg,ds=[XJ F]/\F.x0<=F.x1/\F.z0<=F.z1/\F.f<=F.l/\Q (.bl true) S
abbrev zl6:DS :=
    (zA (ZC (UL (U3 (dT (dB Sy (zf Z2 (zf (dC (.ty "tuple")) zF))))) (dT (Z7 Wj (dB Y7 Zb) ci8))) (zU (dC (.bl false))) Zv)
 (zA (ZC (U3 (dT (dB R7 (zf (Yz 1 [] (Zj Z2) Ym Xu (dCall zdJ Zb)) zF)))) (zU (dC (.bl false))) Zv)
 (zU (zhq (Z7 oLe Yc W7) (zhq (Z7 oLe Rk zhg) (Z7 oLe zkS zsh))))))
def zqb:BodyOk 1 zl6 ze5:=by
 rintro ds S Q ⟨F,rfl,h1,h2,h3,q⟩
 unfold zl6
 walk_at"g"
 rw[show(!decide ((([D.int F.x0,D.int F.x1,D.int F.z0,D.int F.z1,D.int F.f,D.int F.l,D.int F.g,D.int F.s]:List D).length:Int)=8))=false by rfl]
 walk_at"g"
 refine W8 (fun _=>true) (fun _=>.bl true) True.intro (by show 8<=big;unfold big;decide) (fun i d ys hd hw=>?_) ?_
 ·obtain⟨z,_,rfl⟩:=Tp (zs:=[F.x0,F.x1,F.z0,F.z1,F.f,F.l,F.g,F.s]) hd
  walk_at"g"
  refine⟨z,rfl,?_⟩
  exact WW hd hw rfl rfl
 walk_at"g"
 refine zgP (bs:=List.replicate 8 true) (b:=true) Lst.at0 rfl ?_
 walk_at"g"
 rw[decide_eq_true h1]
 walk_at"g"
 rw[decide_eq_true h2]
 walk_at"g"
 rw[decide_eq_true h3]
 exact Xw rfl q
def zv5 {α:Type}(xs:List α)(f:α->D):(xs.map f).map (fun _=>D.bl true)=(xs.map fun _=>true).map D.bl:=by rw[qT,qT];rfl
def zbF:ZS:=fun ds S Q=>∃ (z:D) (fs:List Fg),ds=[z]/\Lst S z (fs.map XJ)/\fs.length<=100/\(∀ F∈fs,FgV F)/\Q .non S
abbrev zea:DS :=
  (ZC (U3 (dT (dB R7 (zf (Yz 1 [] (Zj Z2) Ym Xu (dCall ze5 Zb)) zF)))) Vn Zv)
def zgC:BodyOk 1 zea zbF:=by
 rintro ds S Q ⟨z,fs,rfl,hz,hl,hf,q⟩
 unfold zea
 walk_at"g"
 refine W8 (fun _=>true) (fun _=>.bl true) hz (by rw[qb];unfold big;lia) (fun i d ys hd hw=>?_) ?_
 ·obtain⟨F,hF,rfl⟩:=zpO hd
  have k:=hf F (qe hF)
  walk_at"g"
  refine⟨F,rfl,k.b.x,k.b.z,k.o,?_⟩
  exact WW hd hw rfl rfl
 rw[filter_true,zv5]
 walk_at"g"
 refine zgP (b:=true) Lst.at0 (by rw[SX,VB];intro _ _;rfl) ?_
 walk_at"g"
 exact Xw rfl q
def zby:ZS:=fun ds S Q=>∃ (hz:Option Int) (a b d:Int),ds=[YB hz,.int a,.int b,.int d]/\a<=b/\0<=d/\(∀ z,hz=some z->0<=z)/\Q .non S
abbrev zdV:DS :=
    (zA (ZC (dT (Z7 Xj Z1 ZQ)) Vn Zv)
 (zA (ZC (dT (Z7 oLt ZP Zx)) Vn Zv)
 (ZC (Vk (dT (Z7 U5 Z2 (dC .non))) (dT (Z7 oLt Z2 Zx))) Vn Zv)))
def zgq:BodyOk 4 zdV zby:=by
 rintro ds S Q ⟨hz,a,b,d,rfl,hab,hd,hh,q⟩
 unfold zdV
 walk_at"g"
 rw[decide_eq_false (show ¬ b<a by lia)]
 walk_at"g"
 rw[decide_eq_false (show ¬ d<0 by lia)]
 cases hz with
 |none =>
  walk_at"g"
  exact fin_same q
 |some z =>
  have:=hh z rfl
  unfold YB
  walk_at"g"
  rw[decide_eq_false (show ¬ z<0 by lia)]
  walk_at"g"
  exact fin_same q
def zdx:ZS:=fun ds S Q=>∃ (S0:Z5) (g y z:D) (V:Vl),ds=[.ref S0.length,g,y,z,YB V.hz,.int V.h0,.int V.h1,.int V.dl]/\S=S0++[.ins "Valley" []]/\Wb S0 g V.cs/\Lst S0 y (V.bs.map Yi)/\Lst S0 z (V.fs.map XJ)/\YF V/\∀ T,X7 (S0++T) (.ref S0.length) V->Q .non (S0++T)
abbrev zcM:DS :=
    (zA (Zf (dCall za8 (zf ZQ Xr)))
 (zA (Zf (dCall zbx (zf (Yz 1 [] (Zj ZQ) Ym Xu Yc) zF)))
 (zA (Zf (dCall zbH (zf Z1 Yy)))
 (zA (Zf (dCall zbF Xr))
 (zA (Zf (dCall zby (zf Zz (zf Zt (zf Ye ua7)))))
 (zA (Uj "Valley" "ground" Z2 (dCall zeV (zf (YQ "corners" Z1) zF)))
 (zA (Uj "Valley" "beacons" Z2 (dB ziW Yy))
 (zA (Uj "Valley" "fogs" Z2 (dB ziW Xr))
 (zA (Uj "Valley" "haze" Z2 Zz)
 (zA (Uj "Valley" "first" Z2 Zt)
 (zA (Uj "Valley" "last" Z2 Ye)
 (Uj "Valley" "delay" Z2 Xi))))))))))))
def zjV:BodyOk 8 zcM zdx:=by
 rintro ds S Q ⟨S0,g,y,z,V,rfl,rfl,hg,hy,hz,ok,q⟩
 unfold zcM
 obtain⟨Sa,hSa⟩:∃ Sa:Z5,Sa=S0++[.ins "Valley" []]:=⟨_,rfl⟩
 have hya:Lst Sa y (V.bs.map Yi):=hSa▸hy.old
 have hza:Lst Sa z (V.fs.map XJ):=hSa▸hz.old
 rw[<- hSa]
 walk_at"g"
 refine⟨y,z,_,_,rfl,hya,hza,by rw[qb];exact ok.b1,by rw[qb];exact ok.b12,by rw[qb];exact ok.f12,?_⟩
 walk_at"g"
 have b12:=ok.b12
 have f12:=ok.f12
 refine W8 (fun _=>true) (Qw fun b=>.str b.1) hya (by rw[qb];unfold big;lia) (fun i d ys hd hw=>?_) ?_
 ·obtain⟨b,_,rfl⟩:=Qm hd
  walk_at"g"
  exact WW hd hw rfl rfl
 rw[filter_true,O9,show V.bs.map (fun b=>D.str b.1)=(V.bs.map (·.1)).map D.str by rw[qT];rfl,hSa]
 walk_at"g"
 refine⟨_,V.bs.map (·.1),rfl,Lst.at rfl,by rw[qb];lia,fun n hn=>?_,ok.nd,?_⟩
 ·obtain⟨b,hb,rfl⟩:=qW.mp hn
  exact ok.nm b hb
 walk_at"g"
 generalize (V.bs.map (·.1)).map D.str=nms
 refine⟨g,y,V.cs,V.bs,rfl,hg.old,ok.gr,hy.old,by lia,fun b hb=>⟨ok.st b hb,ok.bd b hb⟩,?_⟩
 walk_at"g"
 refine⟨z,V.fs,rfl,hz.old,by lia,ok.fg,?_⟩
 walk_at"g"
 refine⟨V.hz,_,_,_,rfl,ok.hh,ok.dl,ok.hz,?_⟩
 obtain⟨gn,gl,rfl,hgn,hgl⟩:=hg
 have hgn1:(S0++[.ins "Valley" [],.lst nms])[gn]?=some (.ins "Ground" [("corners",.ref gl)]):=Xq hgn
 walk_at"g"
 refine⟨_,_,V.cs,rfl,rfl,.inr ⟨gl,rfl,Xq hgl⟩,ok.gr,⟨rfl,?_⟩⟩
 rw[qu,show(S0++[Cell.ins "Valley" [],.lst nms]).length=S0.length+2 by simp,show([Cell.ins "Valley" [],.lst nms]:Z5)++[.ins "Ground" [("corners",.ref (S0.length+2+1))],.lst (V.cs.map p2)]=[.ins "Valley" [],.lst nms,.ins "Ground" [("corners",.ref (S0.length+3))],.lst (V.cs.map p2)]from rfl]
 walk_at"g"
 refine⟨S0.length,[],rfl,Y4,by decide,?_⟩
 rw[VP,zrd]
 have hy2:∀ T,Lst (S0++T) y (V.bs.map Yi):=fun T=>hy.old
 have hz2:∀ T,Lst (S0++T) z (V.fs.map XJ):=fun T=>hz.old
 walk_at"g"
 refine⟨S0.length,_,rfl,Y4,by simp,?_⟩
 rw[VP,vp2]
 walk_at"g"
 refine⟨S0.length,_,rfl,Y4,by simp,?_⟩
 rw[VP,vp3]
 walk_at"g"
 refine⟨S0.length,_,rfl,Y4,by simp,?_⟩
 rw[VP,vp4]
 walk_at"g"
 refine⟨S0.length,_,rfl,Y4,by simp,?_⟩
 rw[VP,vp5]
 walk_at"g"
 refine⟨S0.length,_,rfl,Y4,by simp,?_⟩
 rw[VP,vp6]
 walk_at"g"
 refine⟨S0.length,_,rfl,Y4,by simp,?_⟩
 rw[VP,vp7]
 refine fin_same (q _ ⟨S0.length,_,_,_,rfl,Y4,⟨_,_,rfl,(WQ _ _ 2).trans rfl,(WQ _ _ 3).trans rfl⟩,(WQ _ _ 4).trans rfl,(WQ _ _ 5).trans rfl⟩)
def zg6:ZS:=zns "Valley" zdx
def zcP:ZS:=fun ds S Q=>∃ (x y z:D) (V:Vl),ds=[vlD x y z V]/\RX S x y z V/\YF V/\∀ (T:Z5) (v:D),X7 (S++T) v V->Q v (S++T)
abbrev zgL:DS :=
    (zA (zH Z2 (Yq 7 (z9 Wt (z9 Yv (z9 Zd (z9 YS (z9 Yl (z9 Wn (z9 Uo Yr)))))))))
 (zU (dCall zg6 (zf (dCall zeV Ys) (zf ZQ (zf ZP (zf Zz (zf Zt (zf Ye ua7)))))))))
def zkN:BodyOk 8 zgL zcP:=by
 rintro ds S Q ⟨x,y,z,V,rfl,hs,ok,q⟩
 unfold zgL
 obtain⟨kx,ky,kz⟩:=hs
 walk_at"g"
 refine⟨S,_,V.cs,rfl,rfl,kx,ok.gr,⟨rfl,?_⟩⟩
 obtain⟨Sb,hSb⟩:∃ Sb:Z5,Sb=S++[.ins "Ground" [("corners",.ref (S.length+1))],.lst (V.cs.map p2)]:=⟨_,rfl⟩
 have hg:Wb Sb (.ref S.length) V.cs:=hSb▸⟨_,_,rfl,Y4,(WQ _ _ 1).trans rfl⟩
 have e1:∃ T,Sb=S++T:=⟨_,hSb⟩
 have ky1:Lst Sb y (V.bs.map Yi):=by obtain⟨T,rfl⟩:=e1;exact ky.old
 have kz1:Lst Sb z (V.fs.map XJ):=by obtain⟨T,rfl⟩:=e1;exact kz.old
 rw[<- hSb]
 clear hSb
 walk_at"g"
 refine⟨Sb,_,_,_,V,rfl,rfl,hg,ky1,kz1,ok,fun T hv=>⟨rfl,?_⟩⟩
 obtain⟨T1,rfl⟩:=e1
 refine fin_same ?_
 rw[qu]at hv ⊢
 exact q _ _ hv
def zde:Ww:=fun ds S Q ex=>∃ (v:D) (V:Vl) (n:Str),ds=[v,.str n]/\X7 S v V/\YF V/\fl 20 (.str n)=true/\((∀ b∈V.bs,b.1≠n)->ex "NoBeacon" S)/\∀ s,(n,s)∈V.bs->Q (p2 s) S
abbrev zkk (ex : XR) : DS :=
    (zA (Y0 (Zj (YQ "beacons" Z2)) Yv (ZC (dT (Z7 oEq Ru Z1)) (zU (dTup (zf TV (zf zxy zF)))) Zv))
 (zfN ex "NoBeacon"))
def zoA:T8 3 zkk zde:=by
 rintro ds S Q ex ⟨v,V,n,rfl,hv,ok,hn,hx,q⟩
 unfold zkk
 obtain⟨m,g,b',f,rfl,hm,hg,hb,_⟩:=hv
 walk_at"g"
 refine YH (fun i ρ S'=>S'=S/\(∃ w,ρ=[some (.ref m),some (.str n),w])/\∀ b∈V.bs.take i,b.1≠n) ⟨rfl,⟨none,rfl⟩,by simp⟩ (fun i ρ S' h=>h.1▸Lst.here hb) ?_ ?_
 ·rintro i d ρ S' hd ⟨rfl,⟨w,rfl⟩,hno⟩
  obtain⟨b,hbi,rfl⟩:=Qm hd
  have mb:=qe hbi
  walk_at"g"
  refine zpN (Qz (ok.nm b mb) 20) hn ?_
  walk_at"g"
  refine ZM (fun h=>?_) (fun h=>?_)
  ·walk_at"g"
   exact fin_same (q b.2 (by rw[<- h];exact mb))
  ·walk_at"g"
   refine⟨rfl,⟨_,rfl⟩,fun c hc=>?_⟩
   rw[VG hbi]at hc
   rcases qJ.mp hc with hc|hc
   ·exact hno c hc
   ·have:c=b:=by simpa using hc
    subst this;exact h
 ·rintro ρ S' ⟨rfl,⟨w,rfl⟩,hno⟩
  rw[qb,T6]at hno
  walk_at"g"
  exact hx hno
def zaL:Ww:=fun ds S Q ex=>∃ (g:D) (cs:List (Int×Int)) (s:Int×Int),ds=[g,p2 s]/\Wb S g cs/\Wv cs/\Bd 180 s.1/\Bd 200 s.2/\(¬ Wh cs s->ex "OffGround" S)/\(Wh cs s->Q .non S)
abbrev zc0 (ex:XR):DS :=
  (ZC (U3 (dT (dCall zd2 (zf Z2 Ys)))) (zfN ex "OffGround") Zv)
def zfk:T8 2 zc0 zaL:=by
 rintro ds S Q ex ⟨g,cs,s,rfl,hg,gr,b1,b2,hx,q⟩
 unfold zc0
 walk_at"g"
 refine⟨g,cs,s,rfl,hg,gr,b1,b2,fun b hb=>?_⟩
 cases b with
 | true=>walk_at"g";exact fin_same (q (hb.mp rfl))
 | false=>walk_at"g";exact hx fun z=>(by have:=hb.mpr z;cases this)
def zbI:ZS:=fun ds S Q=>∃ (g:D) (cs:List (Int×Int)) (x y:Int),ds=[g,.int x,.int y]/\Wb S g cs/\cs.length<=40/\New Q S ((VL cs x y cs.length).map D.int)
abbrev zd8:DS :=
    (zA (zH (dB Uh (zf Z1 Yy)) Zd)
 (zA (zH (dB Ws (zf Z1 Yy)) YS)
 (zU (Yz 2 [3,4] (RT (zf (YQ "corners" Z2) zF)) (Yq 2 (z9 Ym (z9 Wt Yr))) (dT (ziS oLt oLt ZQ Vt ZP)) Z2))))
def zgI:BodyOk 5 zd8 zbI:=by
 rintro ds S Q ⟨g,cs,x,y,rfl,⟨n,l,rfl,hn,hl⟩,h40,q⟩
 unfold zd8
 walk_at"g"
 refine zjW (xs:=cs.map p2) (Lst.here hl) ?_
 refine⟨by rw[Um,qb];unfold big;lia,fun i ys S'=>S'=S/\ys=(VL cs x y i).map D.int,⟨rfl,rfl⟩,fun i ys S' zq3=>by obtain⟨e,_⟩:=zq3;exact e▸Lst.here hl,?_,?_⟩
 ·rintro i d ys S' hd ⟨rfl,rfl⟩
  obtain⟨u,hu,rfl⟩:=Ss hd
  obtain⟨c,hc,rfl⟩:=S7 hu
  have e0:((0+i:Nat):Int)=(i:Int):=by lia
  have eg:cs.getD i (0,0)=c:=by rw[qC,hc];rfl
  rw[e0]
  walk_at"g"
  refine ZM (fun g1=>?_) (fun g1=>?_)
  ·walk_at"g"
   refine ZM (fun g2=>?_) (fun g2=>?_)
   ·walk_at"g"
    exact⟨rfl,(zyk (by unfold nbP;rw[eg,decide_eq_true g1,decide_eq_true g2];rfl)).symm⟩
   ·walk_at"g"
    exact⟨rfl,by rw[zsr (by unfold nbP;rw[eg,decide_eq_false g2,Bool.and_false])]⟩
  ·walk_at"g"
   exact⟨rfl,by rw[zsr (by unfold nbP;rw[eg,decide_eq_false g1,Bool.false_and])]⟩
 ·rintro ys S' ⟨rfl,rfl⟩
  rw[Um,qb]
  exact fin_same q
def zef:ZS:=fun ds S Q=>∃ (a b c:Int×Int),ds=[p2 a,p2 b,p2 c]/\YL (c.2-a.2) (b.1-a.1)/\YL (c.1-a.1) (b.2-a.2)/\Q (.int (sdI a b c)) S
abbrev zkl:DS :=
    (zA (zH (Z7 Zq Vt Yc) Zd)
 (zA (zH (Z7 Zq UJ W7) YS)
 (zA (zH (Z7 Zq (Z7 Yt (Z7 Zq TV W7) ZP) (Z7 Yt (Z7 Zq Ru Yc) Zz)) Yl)
 (zA (sJ (ZC (dT (Z7 oLt ZP Zx)) (zH (Yp Yo Zt) Yl) Zv))
 (zA (ZC (dT (Z7 Xj Zt Zx)) (zU ZJ) Zv)
 (zA (ZC (dT (Z7 oLt Zt Zx)) (zU (Yp Yo ZJ)) Zv)
 (zU Zx)))))))
def zog:BodyOk 6 zkl zef:=by
 rintro ds S Q ⟨a,b,c,rfl,c1,c2,q⟩
 unfold zkl
 walk_at"g"
 unfold sdI at q
 have key:∀ o:Int,o=(if b.1-a.1<0 then -Ue a b c else Ue a b c)->(if 0<o then Q (.int 1) S else if o<0 then Q (.int (-1)) S else Q (.int 0) S):=fun o e=>by
  rw[<- e]at q
  by_cases h:0<o
  ·rw[if_pos h]at q ⊢;exact q
  ·rw[if_neg h]at q ⊢
   by_cases h2:o<0
   ·rw[if_pos h2]at q ⊢;exact q
   ·rw[if_neg h2]at q ⊢;exact q
 refine r_J (fun ρ S'=>S'=S/\ρ=[some (p2 a),some (p2 b),some (p2 c),some (.int (b.1-a.1)),some (.int (b.2-a.2)),some (.int (if b.1-a.1<0 then -Ue a b c else Ue a b c))]) ?_ ?_
 ·walk_at"g"
  refine ZM (fun g=>?_) (fun g=>?_)
  ·walk_at"g"
   exact⟨rfl,by rw[if_pos g];rfl⟩
  ·walk_at"g"
   exact⟨rfl,by rw[if_neg g];rfl⟩
 rintro ρ S' ⟨rfl,rfl⟩
 have k:=key _ rfl
 generalize (if b.1-a.1<0 then -Ue a b c else Ue a b c)=o at k
 walk_at"g"
 refine ZM (fun g=>?_) (fun g=>?_)
 ·rw[if_pos g]at k
  walk_at"g"
  exact fin_same k
 ·rw[if_neg g]at k
  walk_at"g"
  refine ZM (fun g2=>?_) (fun g2=>?_)
  ·rw[if_pos g2]at k
   walk_at"g"
   exact fin_same k
  ·rw[if_neg g2]at k
   walk_at"g"
   exact fin_same k
def ze1:Ww:=fun ds S Q ex=>∃ (g:D) (cs:List (Int×Int)) (a b:Int×Int),ds=[g,p2 a,p2 b]/\Wb S g cs/\Wv cs/\(Bd 180 a.1/\Bd 200 a.2)/\(Bd 180 b.1/\Bd 200 b.2)/\(¬ (Wh cs a/\Wh cs b)->ex "OffGround" S)/\(Wh cs a->Wh cs b->Q (YB (O1 cs a b)) S)
abbrev zls (ex : XR) : DS :=
    (zA (Zf (Wm zaL ex (zf Z2 Ys)))
 (zA (Zf (Wm zaL ex (zf Z2 Yy)))
 (zA (Y0 (Zj (dCall zbI (zf Z2 (zf Vt (zf Ru zF))))) Zd (ZC (dT (Z7 Xj (dCall zef (zf Z1 (zf ZQ (zf (Z7 ZW (YQ "corners" Z2) ZP) zF)))) Zx)) (zU ZP) Zv))
 (zU (dC .non)))))
def zqe:T8 4 zls ze1:=by
 rintro ds S Q ex ⟨g,cs,a,b,rfl,hg,gr,ba,bb,hx,q⟩
 unfold zls
 walk_at"g"
 refine⟨g,cs,a,rfl,hg,gr,ba.1,ba.2,fun z=>hx fun y=>z y.1,fun za=>?_⟩
 walk_at"g"
 refine⟨g,cs,b,rfl,hg,gr,bb.1,bb.2,fun z=>hx fun y=>z y.2,fun zb=>?_⟩
 have sa:=Std.of ba.1 ba.2 za
 have sb:=Std.of bb.1 bb.2 zb
 have q:=q za zb
 walk_at"g"
 refine⟨g,cs,_,_,rfl,hg,gr.most,?_⟩
 have kl:∀ k∈VL cs a.1 b.1 cs.length,0<=k/\k<cs.length:=fun k hk=>zu9 hk
 unfold O1 at q
 generalize VL cs a.1 b.1 cs.length=ks at q kl
 unfold New
 walk_at"g"
 refine YH (fun i ρ S'=>∃ w1,ρ=[some g,some (p2 a),some (p2 b),w1]/\S'=S++[.lst (ks.map D.int)]/\∀ x∈ks.take i,znx cs a b x=false) ⟨none,rfl,rfl,by simp⟩ (fun i ρ S' zq4=>by obtain⟨w1,_,e,_⟩:=zq4;exact e▸Lst.at0) ?_ ?_
 ·rintro i d ρ S' hd ⟨w1,rfl,rfl,hn⟩
  obtain⟨k,hk,rfl⟩:=Tp hd
  obtain⟨k0,k1⟩:=kl k (qe hk)
  obtain⟨c,hc,ac⟩:=zkR (cs:=cs) k0 k1
  have eg:cs.getD k.toNat (0,0)=c:=by rw[qC,hc];rfl
  obtain⟨bc1,bc2⟩:=gr.bd c (qe hc)
  obtain⟨n,l,rfl,hgn,hgl⟩:=hg.old (T:=[.lst (ks.map D.int)])
  walk_at"g"
  refine⟨a,b,c,rfl,.inl ⟨(Bd.sub (bc2.mono (by decide:(190:Nat)<=200)) sa.2.1).mono (by decide),(Bd.sub sb.1 sa.1).mono (by decide)⟩,.inl ⟨(Bd.sub (bc1.mono (by decide:(170:Nat)<=180)) sa.1).mono (by decide),(Bd.sub sb.2.1 sa.2.1).mono (by decide)⟩,?_⟩
  walk_at"g"
  refine ZM (fun g1=>?_) (fun g1=>?_)
  ·walk_at"g"
   rw[zm4 hk hn (by unfold znx;rw[eg];exact decide_eq_true g1)]at q
   exact Xw rfl q
  ·walk_at"g"
   refine⟨_,rfl,rfl,fun x hx=>?_⟩
   rw[VG hk]at hx
   rcases qJ.mp hx with hx|hx
   ·exact hn x hx
   ·have:x=k:=by simpa using hx
    subst this
    unfold znx;rw[eg];exact decide_eq_false g1
 ·rintro ρ S' ⟨w1,rfl,rfl,hn⟩
  rw[qb,T6]at hn
  rw[zti hn]at q
  walk_at"g"
  exact Xw rfl q
def zbR:ZS:=fun ds S Q=>∃ (a b:Int×Int),ds=[p2 a,p2 b]/\(Bd 180 a.1/\Bd 200 a.2)/\(Bd 180 b.1/\Bd 200 b.2)/\Q (.int (sqr a b)) S
abbrev zeK:DS :=
    (zA (zH (Z7 Zq Vt Yc) Yv)
 (zA (zH (Z7 Zq UJ W7) Zd)
 (zU (Z7 Zy (Z7 Yt ZQ ZQ) (Z7 Yt ZP ZP)))))
def zhG:BodyOk 4 zeK zbR:=by
 rintro ds S Q ⟨a,b,rfl,⟨a1,a2⟩,⟨b1,b2⟩,q⟩
 unfold zeK
 have c1:Bd 8000 (b.1-a.1):=(Bd.sub b1 a1).mono (by decide)
 have c2:Bd 8000 (b.2-a.2):=(Bd.sub b2 a2).mono (by decide)
 have m1:YL (b.1-a.1) (b.1-a.1):=.inl ⟨c1,c1⟩
 have m2:YL (b.2-a.2) (b.2-a.2):=.inl ⟨c2,c2⟩
 walk_at"g"
 exact fin_same q
def zb9:ZS:=fun ds S Q=>∃ (v:D) (V:Vl) (a b:Int×Int),ds=[v,p2 a,p2 b]/\X7 S v V/\YF V/\((Bd 180 a.1/\Bd 200 a.2)/\Wh V.cs a)/\((Bd 180 b.1/\Bd 200 b.2)/\Wh V.cs b)/\Q (zhs V a b) S
abbrev ze9:DS :=
    (zA (zH (Wm ze1 xF (zf (YQ "ground" Z2) (zf Z1 Yy))) Zd)
 (zA (ZC (dT (Z7 U5 ZP (dC .non))) (zU (dTup (zf (dC (.str "ground")) Xr))) Zv)
 (zA (zH (dCall zbR (zf Z1 Yy)) YS)
 (zA (ZC (Vk (dT (Z7 U5 (YQ "haze" Z2) (dC .non))) (dT (Z7 Xj Zz (YQ "haze" Z2)))) (zU (dTup (zf (dC (.str "haze")) U0))) Zv)
 (zU (dC .non))))))
def zh6:BodyOk 5 ze9 zb9:=by
 rintro ds S Q ⟨v,V,a,b,rfl,hv,ok,⟨ba,sa⟩,⟨bb,sb⟩,q⟩
 unfold ze9
 obtain⟨n,g,bb',f,rfl,hn,hg,_,_⟩:=hv
 walk_at"g"
 refine⟨_,V.cs,a,b,rfl,hg,ok.gr,ba,bb,fun no=>(no ⟨sa,sb⟩).elim,fun _ _=>?_⟩
 unfold zhs at q
 cases e:O1 V.cs a b with
 |some k =>
  rw[e]at q
  unfold YB
  walk_at"g"
  exact fin_same q
 |none =>
  rw[e]at q
  unfold YB
  walk_at"g"
  refine⟨a,b,rfl,ba,bb,?_⟩
  dsimp only at q
  have hn':S[n]?=some (.ins "Valley" (vF (.ref g) (.ref bb') (.ref f) (YB V.hz) (.int V.h0) (.int V.h1) (.int V.dl))):=hn
  generalize sqr a b=sq at q
  generalize V.hz=hz at q hn'
  cases hz with
  |none =>
   have q2:Q .non S:=q
   unfold YB at hn'
   walk_at"g"
   exact fin_same q2
  |some z =>
   have q2:Q (if decide (z<sq)=true then .tup [.str "haze",.int sq]else .non) S:=q
   unfold YB at hn'
   walk_at"g"
   refine ZM (fun h=>?_) (fun h=>?_)
   ·rw[if_pos (decide_eq_true h)]at q2
    walk_at"g"
    exact fin_same q2
   ·rw[if_neg (by rw[decide_eq_false h];decide)]at q2
    walk_at"g"
    exact fin_same q2
def zeQ:ZS:=fun ds S Q=>∃ (F:Fg) (h:Int),ds=[XJ F,.int h]/\YL F.g h/\YL F.s h/\Q (.tup [.int (F.x0+F.g*h),.int (F.x1+F.g*h),.int (F.z0+F.s*h),.int (F.z1+F.s*h)]) S
abbrev znb:DS :=
    (zA (zH (Z7 Yt zyn Z1) Yv)
 (zA (zH (Z7 Yt zxF Z1) Zd)
 (zU (dTup (zf (Z7 Zy Yc ZQ) (zf (Z7 Zy W7 ZQ) (zf (Z7 Zy Rk ZP) (zf (Z7 Zy zhg ZP) zF))))))))
def zqL:BodyOk 4 znb zeQ:=by
 rintro ds S Q ⟨F,h,rfl,c1,c2,q⟩
 unfold znb
 walk_at"g"
 exact fin_same q
def zc9:ZS:=fun ds S Q=>∃ (L R B T x1 z1 x2 z2:Int),ds=[.tup [.int L,.int R,.int B,.int T],.tup [.int x1,.int z1],.tup [.int x2,.int z2]]/\Bd 1000 L/\Bd 1000 R/\Bd 1000 B/\Bd 1000 T/\Bd 1000 x1/\Bd 1000 z1/\Bd 1000 x2/\Bd 1000 z2 /\
 ∀ (ca cb:Cell) (mx mn:Int),mx∈Zn L R B T x1 z1 x2 z2->(∀ a∈Zn L R B T x1 z1 x2 z2,a<=mx)->mn∈Zn L R B T x1 z1 x2 z2->(∀ a∈Zn L R B T x1 z1 x2 z2,mn<=a)->Q (.ref (S.length+2)) (S++[ca,cb,.lst ((six L R B T x1 z1 x2 z2 mx mn).map D.int)])
abbrev zkm:DS :=
    (zA (zH (Z7 Zq Ru Vt) Zd)
 (zA (zH (Z7 Zq TV UJ) YS)
 (zA (zH (Xx (zf (dTup (zf Yc (zf Rk zF))) (zf (dTup (zf Yc (zf zhg zF))) (zf (dTup (zf W7 (zf Rk zF))) (zf (dTup (zf W7 (zf zhg zF))) zF))))) Yl)
 (zA (zH (Yz 2 [3,1,4] (Zj Zt) (Yq 2 (z9 Ym (z9 Wt Yr))) Xu (Z7 Zq (Z7 Yt ZQ (Z7 Zq Z1 zxf)) (Z7 Yt Zz (Z7 Zq Z2 zxc)))) Wn)
 (zU (Xx (zf (Z7 Zq (dB Ws (zf Vt (zf Ru zF))) Yc) (zf (Z7 Zq W7 (dB Uh (zf Vt (zf Ru zF)))) (zf (Z7 Zq (dB Ws (zf UJ (zf TV zF))) Rk) (zf (Z7 Zq zhg (dB Uh (zf UJ (zf TV zF)))) (zf (dB znH Rt) (zf (Yp Yo (dB zoj Rt)) zF))))))))))))
def znL:BodyOk 7 zkm zc9:=by
 rintro ds S Q ⟨L,R,B,T,x1,z1,x2,z2,rfl,bL,bR,bB,bT,b1,b2,b3,b4,q⟩
 unfold zkm
 walk_at"g"
 refine W8 (fun _=>true) (on2 fun c=>.int ((x2-x1)*(c.2-z1)-(z2-z1)*(c.1-x1))) (by walk_at"l") (qaz rfl) (fun i d ys hd hw=>?_) ?_
 ·obtain⟨c,hc,rfl⟩:=S7 (cs:=[(L,B),(L,T),(R,B),(R,T)]) hd
  have hm:=qe hc
  have hb:Bd 1000 c.1/\Bd 1000 c.2:=by
   simp only[qg,qF,or_false]at hm
   rcases hm with rfl|rfl|rfl|rfl
   ·exact⟨bL,bB⟩
   ·exact⟨bL,bT⟩
   ·exact⟨bR,bB⟩
   ·exact⟨bR,bT⟩
  have hb1:=hb.1
  have hb2:=hb.2
  have c1:YL (x2-x1) (c.2-z1):=.inl ⟨(Bd.sub b3 b1).mono (by decide),(Bd.sub hb2 b2).mono (by decide)⟩
  have c2:YL (z2-z1) (c.1-x1):=.inl ⟨(Bd.sub b4 b2).mono (by decide),(Bd.sub hb1 b1).mono (by decide)⟩
  walk_at"g"
  exact WW hd hw rfl rfl
 rw[filter_true]
 show New _ _ ((Zn L R B T x1 z1 x2 z2).map D.int)
 walk_at"g"
 refine zvT (ns:=Zn L R B T x1 z1 x2 z2) (by walk_at"l") (qaz rfl) fun mx m1 m2=>?_
 walk_at"g"
 refine zus (ns:=Zn L R B T x1 z1 x2 z2) (by walk_at"l") (qaz rfl) fun mn n1 n2=>?_
 walk_at"g"
 exact fin_same (q _ _ mx mn m1 m2 n1 n2)
def Qo:ZS:=fun ds S Q=>∃ (x:D) (cs:List (Int×Int)),ds=[x]/\V0 S x (cs.map p2)/\cs.length<=4000/\(cs.filter V4).length<64 /\
 ∀ ms:List (Int×Int),Zo ms->(∀ h,ms.any (Zu h)=cs.any (Zu h))->ms.length<=(cs.filter V4).length->Q (.tup (ms.map p2)) S
def znD {ss:List (Int×Int)}(srt:ss.Pairwise fun a b=>Q5 b a=false){i:Nat}{c d:Int×Int}(hc:ss[i]?=some c)(hd:d∈ss.take i):d.1<=c.1:=by
 obtain⟨j,hj,e⟩:=qS.mp hd
 rw[Vy]at hj
 rw[List.getElem_take]at e
 have hi:=zV hc
 rw[qc hi]at hc
 cases hc
 subst e
 exact zvH (Px.mp srt j i (by lia) hi (by lia))
def zgj {ss:List (Int×Int)}{i:Nat}{c:Int×Int}(hc:ss[i]?=some c)(h:Int):(ss.take (i+1)).any (Zu h)=((ss.take i).any (Zu h)||Zu h c):=by
 rw[VG hc,qa2];simp
def zsv {α:Type}{l:List α}(h:0<l.length):∃ i x,l=i++[x]:=by
 have:l≠[]:=fun e=>by rw[e]at h;cases h
 exact⟨l.dropLast,l.getLast this,(qaJ this).symm⟩
abbrev zqg:DS :=
    (zA (zH (Xx zF) Wt)
 (zA (Y0 (Zj (dB zow (zf (Yz 1 [] (Zj Z2) Ym (dT (Z7 oLe Yc W7)) (dTup (zf Yc (zf W7 zF)))) zF))) (Yq 2 (z9 Yv (z9 Zd Yr))) (ZC (Vk (dT (Z7 Xj (dB Y7 Ys) Zx)) (dT (Z7 oLe ZQ (Z7 Zy (Z7 ZW (Z7 ZW Z1 (Yp Yo ZJ)) ZJ) ZJ)))) (zH (dTup (zf (Z7 ZW (Z7 ZW Z1 (Yp Yo ZJ)) Zx) (zf (dB Ws (zf (Z7 ZW (Z7 ZW Z1 (Yp Yo ZJ)) ZJ) Xr)) zF))) (Tq Z1 (Yp Yo ZJ))) (Zf (dM TX Z1 (zf (dTup (zf ZQ Xr)) zF)))))
 (zU (dB zfH Ys))))
def ztH:BodyOk 4 zqg Qo:=by
 rintro ds S Q ⟨x,cs,rfl,hx,hcl,hfl,q⟩
 unfold zqg
 walk_at"g"
 refine zuL (xs:=cs.map p2) hx.old fun ok hok=>?_
 refine W8 (zvW V4) (on2 p2) (by have:=hok [];rwa[qU]at this) ?_ (fun i d ys hd hw=>?_) ?_
 ·rw[qb];unfold big;lia
 ·obtain⟨c,hc,rfl⟩:=S7 hd
  walk_at"g"
  refine ZM (fun g=>?_) (fun g=>?_)
  ·walk_at"g"
   exact WW hd hw (decide_eq_true g) rfl
  ·walk_at"g"
   exact zoz hd hw (decide_eq_false g)
 rw[zqZ,zt8]
 walk_at"g"
 refine zt6 (cs:=cs.filter V4) (Lst.at rfl) hfl fun ss perm srt=>?_
 have hsl:ss.length=(cs.filter V4).length:=perm.length_eq
 have hsle:∀ c∈ss,c.1<=c.2:=fun c hc=>of_decide_eq_true (qX.mp (perm.mem_iff.mp hc)).2
 walk_at"g"
 refine YH (fun i ρ S'=>∃ (ms:List (Int×Int)) (w1 w2:Option D),ρ=[some x,some (.ref S.length),w1,w2]/\S'=S++[.lst (ms.map p2),.lst ((cs.filter V4).map p2),.lst (ss.map p2)]/\Zo ms/\ms.length<=i /\
  (∀ h,ms.any (Zu h)=(ss.take i).any (Zu h))/\∀ m∈ms,∃ d∈ss.take i,m.1=d.1)
  ⟨[],none,none,rfl,rfl,Zo.nil,qf _,fun h=>rfl,by simp⟩ (fun i ρ S' zq5=>by obtain⟨ms,w1,w2,_,e,_⟩:=zq5;exact e▸Lst.at rfl) ?_ ?_
 ·rintro i d ρ S' hd ⟨ms,w1,w2,rfl,rfl,ok,hml,hany,hlow⟩
  obtain⟨c,hc,rfl⟩:=S7 hd
  have hil:=zV hc
  have hcle:=hsle c (qe hc)
  have low:∀ m∈ms,m.1<=c.1:=fun m hm=>by
   obtain⟨d,hd,e⟩:=hlow m hm
   rw[e]
   exact znD srt hc hd
  have hlow':∀ m,(∃ d∈ss.take i,m=d.1)->∃ d∈ss.take (i+1),m=d.1:=fun m zq6=>by obtain⟨d,hd,e⟩:=zq6;exact⟨d,by rw[VG hc];exact qaB _ hd,e⟩
  have hnew:∃ d∈ss.take (i+1),c.1=d.1:=⟨c,by rw[VG hc];simp,rfl⟩
  have app:(∀ m∈ms,m.2+2<=c.1)->∃ (ms':List (Int×Int)) (w1 w2:Option D),([some x,some (.ref S.length),some (.int c.1),some (.int c.2)]:ZR)=[some x,some (.ref S.length),w1,w2]/\S++[Cell.lst (ms.map p2++[p2 c]),.lst ((cs.filter V4).map p2),.lst (ss.map p2)]=S++[.lst (ms'.map p2),.lst ((cs.filter V4).map p2),.lst (ss.map p2)]/\Zo ms'/\ms'.length<=i+1 /\
    (∀ h,ms'.any (Zu h)=(ss.take (i+1)).any (Zu h))/\∀ m∈ms',∃ d∈ss.take (i+1),m.1=d.1:=fun ap=>by
   refine⟨ms++[c],_,_,rfl,by rw[qA];rfl,ok.snoc hcle ap,by rw[qh];exact Nat.succ_le_succ hml,fun h=>by rw[qa2,hany h,zgj hc];simp,fun y hy=>?_⟩
   rcases qJ.mp hy with hy|hy
   ·exact hlow' _ (hlow y hy)
   ·have:y=c:=by simpa using hy
    subst this
    exact hnew
  walk_at"g"
  rw[qb]
  refine ZM (fun h0=>?_) (fun h0=>?_)
  ·obtain⟨ms0,m,rfl⟩:=zsv (l:=ms) (by lia)
   have hm1:=low m (by simp)
   have am:Y9 (List.map p2 (ms0++[m])) (-1)=some (p2 m):=by rw[qA];exact zis
   have im:X3 (List.map p2 (ms0++[m])).length (-1)=some (ms0.map p2).length:=by rw[qA];exact zlB
   walk_at"g"
   refine ZM (fun h1=>?_) (fun h1=>?_)
   ·walk_at"g"
    refine Qc Y4 im ?_
    walk_at"g"
    obtain⟨ok2,any2⟩:=zrc ok hcle hm1 h1
    refine⟨ms0++[(m.1,max m.2 c.2)],_,_,rfl,?_,ok2,by rw[qh]at hml ⊢;exact Nat.le_succ_of_le hml,fun h=>by rw[any2 h,hany h,zgj hc],fun y hy=>?_⟩
    ·rw[qA,qA,qaN _ _ (qf _),V7];rfl
    ·rcases qJ.mp hy with hy|hy
     ·exact hlow' _ (hlow y (qaB _ hy))
     ·have:y=(m.1,max m.2 c.2):=by simpa using hy
      subst this
      exact hlow' _ (hlow m (by simp))
   ·walk_at"g"
    obtain⟨ok0,hmle,hap⟩:=ok.init
    exact app fun y hy=>by
     rcases qJ.mp hy with hy|hy
     ·have:=hap y hy
      lia
     ·have:y=m:=by simpa using hy
      subst this
      lia
  ·have em:ms=[]:=RK.mp (by lia)
   walk_at"g"
   exact app (by rw[em];simp)
 ·rintro ρ S' ⟨ms,w1,w2,rfl,rfl,ok,hml,hany,hlow⟩
  rw[qb]at hml hany
  walk_at"g"
  exact Xw (zhz ms) (q ms ok (fun h=>by rw[hany h,T6,zqM perm,show cs.filter V4=cs.filter (fun c=>decide (c.1<=c.2))from rfl,any_filter]) (by lia))
def zfV:ZS:=fun ds S Q=>∃ (F:Fg) (px pz qx qz:Int),ds=[XJ F,.tup [.int px,.int pz],.tup [.int qx,.int qz]]/\FgB F/\Bd 600 px/\Bd 600 pz/\Bd 600 qx/\Bd 600 qz/\∀ ms:List (Int×Int),zsc ms F px pz qx qz->Q (.tup (ms.map p2)) S
abbrev zmM:DS :=
    (zA (zH Zx Zd)
 (zA (zH (Z7 Zq zsh zkS) YS)
 (zA (zH (dCall zc9 (zf (dCall zeQ (zf Z2 (zf Zx zF))) (zf Z1 Yy))) Yl)
 (zA (zH (dCall zc9 (zf (dCall zeQ (zf Z2 (zf ZJ zF))) (zf Z1 Yy))) Wn)
 (zA (Y0 (zox (zf Zt Rt)) (Yq 2 (z9 Uo (z9 Qa Yr))) (zA (zH (Z7 Zq WT Xi) gn9)
 (ZC (dT (Z7 Xj SM Zx)) (zH (dB Ws (zf ZP (zf (Yp Yo (Z7 oDiv Xi SM)) zF))) Zd) (ZC (dT (Z7 oLt SM Zx)) (zH (dB Uh (zf Zz (zf (Z7 oDiv Xi (Yp Yo SM)) zF))) YS) (ZC (dT (Z7 oLt Xi Zx)) (zU (dTup zF)) Zv)))))
 (zU (dCall Qo (zf (Xx (zf (dTup (zf (Z7 Zy zkS ZP) (zf (Z7 Zy zkS Zz) zF))) zF)) zF))))))))
def zrF:BodyOk 10 zmM zfV:=by
  rintro ds S Q ⟨F,px,pz,qx,qz,rfl,B,bpx,bpz,bqx,bqz,q⟩
  unfold zmM
  have bmv:∀ {x y c:Int},Bd 600 x->Bd 200 y->(c=0\/c=1)->Bd 700 (x+y*c):=fun {x y c} hx hy hc=>(Bd.add (n:=600) hx (by
    rcases hc with rfl|rfl
    . rw[Ud];exact Bd.lit (by decide) (by decide)
    . rw[WR];exact hy.mono (by decide))).mono (by decide)
  have cs:∀ {y c:Int},(c=0\/c=1)->YL y c:=fun hc=>.inr (.inr (by rcases hc with rfl|rfl<;>decide))
  walk_at"g"
  refine⟨F,0,rfl,cs (.inl rfl),cs (.inl rfl),?_⟩
  walk_at"g"
  refine⟨_,_,_,_,px,pz,qx,qz,rfl,(bmv B.b0 B.bg (.inl rfl)).mono (by decide),(bmv B.b1 B.bg (.inl rfl)).mono (by decide),(bmv B.b2 B.bs (.inl rfl)).mono (by decide),(bmv B.b3 B.bs (.inl rfl)).mono (by decide),bpx.mono (by decide),bpz.mono (by decide),bqx.mono (by decide),bqz.mono (by decide),fun ca cb mx mn m1 m2 n1 n2=>?_⟩
  walk_at"g"
  refine⟨F,1,rfl,cs (.inr rfl),cs (.inr rfl),?_⟩
  walk_at"g"
  refine⟨_,_,_,_,px,pz,qx,qz,rfl,(bmv B.b0 B.bg (.inr rfl)).mono (by decide),(bmv B.b1 B.bg (.inr rfl)).mono (by decide),(bmv B.b2 B.bs (.inr rfl)).mono (by decide),(bmv B.b3 B.bs (.inr rfl)).mono (by decide),bpx.mono (by decide),bpz.mono (by decide),bqx.mono (by decide),bqz.mono (by decide),fun ca' cb' mx' mn' m1' m2' n1' n2'=>?_⟩
  have mm:∀ k,_↔_:=fun k=>zoN (k:=k) m1 m2 n1 n2 m1' m2' n1' n2'
  have sb:=zqq (bmv B.b0 B.bg (.inl rfl)) (bmv B.b1 B.bg (.inl rfl)) (bmv B.b2 B.bs (.inl rfl)) (bmv B.b3 B.bs (.inl rfl)) (bpx.mono (by decide)) (bpz.mono (by decide)) (bqx.mono (by decide)) (bqz.mono (by decide)) m1 n1
  have ab:=zqq (bmv B.b0 B.bg (.inr rfl)) (bmv B.b1 B.bg (.inr rfl)) (bmv B.b2 B.bs (.inr rfl)) (bmv B.b3 B.bs (.inr rfl)) (bpx.mono (by decide)) (bpz.mono (by decide)) (bqx.mono (by decide)) (bqz.mono (by decide)) m1' n1'
  have l1:(six (F.x0+F.g*0) (F.x1+F.g*0) (F.z0+F.s*0) (F.z1+F.s*0) px pz qx qz mx mn).length=6:=rfl
  have l2:(six (F.x0+F.g*1) (F.x1+F.g*1) (F.z0+F.s*1) (F.z1+F.s*1) px pz qx qz mx' mn').length=6:=rfl
  generalize six (F.x0+F.g*0) (F.x1+F.g*0) (F.z0+F.s*0) (F.z1+F.s*0) px pz qx qz mx mn=A at *
  generalize six (F.x0+F.g*1) (F.x1+F.g*1) (F.z0+F.s*1) (F.z1+F.s*1) px pz qx qz mx' mn'=A' at *
  clear m1 m2 n1 n2 m1' m2' n1' n2'
  have kA:(S++[ca,cb,Cell.lst (A.map D.int)]++[ca',cb',Cell.lst (A'.map D.int)])[S.length+2]?=some (.lst (A.map D.int)):=Xq ((WQ _ _ _).trans rfl)
  have kA':(S++[ca,cb,Cell.lst (A.map D.int)]++[ca',cb',Cell.lst (A'.map D.int)])[(S++[ca,cb,Cell.lst (A.map D.int)]).length+2]?=some (.lst (A'.map D.int)):=(WQ _ _ _).trans rfl
  have eS:S++[ca,cb,Cell.lst (A.map D.int)]++[ca',cb',Cell.lst (A'.map D.int)]=S++[ca,cb,Cell.lst (A.map D.int),ca',cb',Cell.lst (A'.map D.int)]:=by simp
  generalize (S++[ca,cb,Cell.lst (A.map D.int)]).length+2=na at *
  generalize S++[ca,cb,Cell.lst (A.map D.int)]++[ca',cb',Cell.lst (A'.map D.int)]=S1 at *
  walk_at"g"
  refine zvy (xs:=A.map D.int) (ys:=A'.map D.int) (Lst.here kA) (Lst.here kA') ?_
  refine YH (fun i ρ S'=>S'=S1/\∃ (lo hi:Int) (w1 w2 w3:Option D),ρ=[some (XJ F),some (.tup [.int px,.int pz]),some (.tup [.int qx,.int qz]),some (.int lo),some (.int hi),some (.ref (S.length+2)),some (.ref na),w1,w2,w3] /\
    ∀ k,(lo<=k/\k<=hi)↔(0<=k/\k<=F.l-F.f/\∀ j,j<i->0<=A.getD j 0+k*(A'.getD j 0-A.getD j 0))) ⟨rfl,0,F.l-F.f,none,none,none,rfl,fun k=>⟨fun h=>⟨h.1,h.2,fun j hj=>absurd hj (by lia)⟩,fun h=>⟨h.1,h.2.1⟩⟩⟩ (fun i ρ S' z=>z.1▸⟨Lst.here kA,Lst.here kA'⟩) ?_ ?_
  . rintro i d ρ S' hd ⟨rfl,lo,hi,w1,w2,w3,rfl,hk⟩
    obtain⟨x,y,hx,hy,rfl⟩:=zeU hd
    obtain⟨sv,hs,rfl⟩:=Tp hx
    obtain⟨av,ha,rfl⟩:=Tp hy
    have es:A.getD i 0=sv:=by rw[qC,hs];rfl
    have ea:A'.getD i 0=av:=by rw[qC,ha];rfl
    have bsv:=sb sv (qe hs)
    have bav:=ab av (qe ha)
    have bst:Bd 1600 (av-sv):=(Bd.sub bav bsv).mono (by decide)
    have bst':Bd 1600 (-(av-sv)):=bst.neg
    have next:∀ {P:Int->Prop},(∀ k,P k↔0<=sv+k*(av-sv))->∀ k,((0<=k/\k<=F.l-F.f/\∀ j,j<i->0<=A.getD j 0+k*(A'.getD j 0-A.getD j 0))/\P k)↔(0<=k/\k<=F.l-F.f/\∀ j,j<i+1->0<=A.getD j 0+k*(A'.getD j 0-A.getD j 0)):=fun {P} hP k=>by
      constructor
      . rintro⟨⟨c1,c2,c3⟩,c4⟩
        refine⟨c1,c2,fun j hj=>?_⟩
        rcases qL j i with h|h
        . exact c3 j h
        . have:j=i:=by lia
          subst this
          rw[es,ea]
          exact(hP k).mp c4
      . rintro⟨c1,c2,c3⟩
        refine⟨⟨c1,c2,fun j hj=>c3 j (by lia)⟩,(hP k).mpr ?_⟩
        have:=c3 i (by lia)
        rw[es,ea]at this
        exact this
    walk_at"g"
    refine ZM (fun g1=>?_) (fun g1=>?_)
    . walk_at"g"
      refine⟨rfl,_,_,_,_,_,rfl,fun k=>?_⟩
      rw[<- next (fun k=>ztD (S:=sv) (T:=av-sv) (k:=k) (by lia)) k,<- hk k]
      lia
    . walk_at"g"
      refine ZM (fun g2=>?_) (fun g2=>?_)
      . walk_at"g"
        refine⟨rfl,_,_,_,_,_,rfl,fun k=>?_⟩
        rw[<- next (fun k=>zqo (S:=sv) (T:=av-sv) (k:=k) (by lia)) k,<- hk k]
        lia
      . have e0:av-sv=0:=by lia
        have flat:∀ k,(0<=sv)↔0<=sv+k*(av-sv):=fun k=>by rw[e0,Ud,Int.add_zero]
        walk_at"g"
        refine ZM (fun g3=>?_) (fun g3=>?_)
        . walk_at"g"
          rw[eS]
          refine Xw (zhz []) (q [] ⟨Zo.nil,by decide,fun h=>⟨fun z=>absurd z (by simp),fun z=>?_⟩⟩)
          have:=(mm (h-F.f)).mpr ((znj (by have:=B.x;lia) (by have:=B.z;lia)).mpr z.2.2) i (by have:=zV hs;lia)
          rw[es,ea,<- flat]at this
          lia
        . walk_at"g"
          refine⟨rfl,_,_,_,_,_,rfl,fun k=>?_⟩
          rw[<- next flat k,<- hk k]
          constructor
          . intro h;exact⟨h,by lia⟩
          . intro h;exact h.1
  . rintro ρ S' ⟨rfl,lo,hi,w1,w2,w3,rfl,hk⟩
    rw[Qd,qb,qb,l1,l2]at hk
    walk_at"g"
    refine⟨_,[(F.f+lo,F.f+hi)],rfl,.inr (by walk_at"l"),qaz rfl,?_,fun ms ok hany hml=>?_⟩
    . exact qbm (QB _ _) (qaz rfl)
    . rw[eS,qu]
      exact Xw (zhz ms) (q ms (zqs B ok (qY hml (QB _ _)) hany fun k=>by rw[hk k];exact and_congr_right fun _=>and_congr_right fun _=>mm k))
def zda:ZS:=fun ds S Q=>∃ (x:D) (fs:List Fg) (px pz qx qz:Int),ds=[x,.tup [.int px,.int pz],.tup [.int qx,.int qz]]/\Lst S x (fs.map XJ)/\fs.length<64/\(∀ F∈fs,FgB F)/\Bd 600 px/\Bd 600 pz/\Bd 600 qx/\Bd 600 qz /\
 ∀ ms:List (Int×Int),Zo ms->(∀ h,ms.any (Zu h)=true↔∃ F∈fs,zes F px pz qx qz h)->ms.length<=fs.length->Q (.tup (ms.map p2)) S
abbrev zhO:DS :=
    (zA (zH (Xx zF) Zd)
 (zA (Y0 (Zj Z2) YS (Zf (dM zii ZP (zf (dCall zfV (zf Zz (zf Z1 Yy))) zF))))
 (zU (dCall Qo Xr))))
def zlF:BodyOk 5 zhO zda:=by
 rintro ds S Q ⟨x,fs,px,pz,qx,qz,rfl,hx,hl,hB,bpx,bpz,bqx,bqz,q⟩
 unfold zhO
 walk_at"g"
 refine YH (fun i ρ S'=>∃ (cs:List (Int×Int)) (w:Option D),ρ=[some x,some (.tup [.int px,.int pz]),some (.tup [.int qx,.int qz]),some (.ref S.length),w]/\S'=S++[.lst (cs.map p2)]/\cs.length<=i/\∀ h,cs.any (Zu h)=true↔∃ F∈fs.take i,zes F px pz qx qz h)
  ⟨[],none,rfl,rfl,qf _,fun h=>by simp⟩ (fun i ρ S' zq7=>by obtain⟨cs,w,_,e,_⟩:=zq7;exact e▸hx.old) ?_ ?_
 ·rintro i d ρ S' hd ⟨cs,w,rfl,rfl,hc,hh⟩
  obtain⟨F,hF,rfl⟩:=zpO hd
  have hi:=zV hF
  walk_at"g"
  refine⟨F,px,pz,qx,qz,rfl,hB F (qe hF),bpx,bpz,bqx,bqz,fun ms hm=>?_⟩
  obtain⟨ok,hone,hat⟩:=hm
  walk_at"g"
  refine zp6 (n:=S.length) Y4 (by rw[qb,qb];unfold big;lia) ?_
  walk_at"g"
  refine⟨cs++ms,_,rfl,by rw[qA],by rw[qh];lia,fun h=>?_⟩
  rw[qa2,Pg,hh,hat,VG hF]
  constructor
  ·rintro(⟨G,hG,g⟩|g)
   ·exact⟨G,qaB _ hG,g⟩
   ·exact⟨F,by simp,g⟩
  ·rintro⟨G,hG,g⟩
   rcases qJ.mp hG with hG|hG
   ·exact .inl ⟨G,hG,g⟩
   ·have:G=F:=by simpa using hG
    subst this
    exact .inr g
 ·rintro ρ S' ⟨cs,w,rfl,rfl,hc,hh⟩
  rw[qb]at hc hh
  rw[T6]at hh
  have hf:=QB V4 cs
  walk_at"g"
  refine⟨_,cs,rfl,.inr Lst.at0,by lia,by lia,fun ms ok hany hml=>?_⟩
  exact Xw (zhz ms) (q ms ok (fun h=>by rw[hany h];exact hh h) (by lia))
def zhc:ZS:=fun ds S Q=>∃ (cs:List (Int×Int)) (lo hi:Int),ds=[.tup (cs.map p2),.int lo,.int hi]/\Zo cs/\cs.length<63 /\
 ∀ ms:List (Int×Int),Zo ms->(∀ h,lo<=h->h<=hi->ms.any (Zu h)=!(cs.any (Zu h)))->ms.length<=cs.length+1->Q (.tup (ms.map p2)) S
abbrev zoV:DS :=
    (zA (zH (Xx zF) Zd)
 (zA (zH Z1 YS)
 (zA (Y0 (Zj Z2) Yl (zA (Zf (dM TX ZP (zf (dTup (zf Zz (zf (Z7 Zq zxi ZJ) zF))) zF)))
 (zH (Z7 Zy zxt ZJ) YS)))
 (zA (Zf (dM TX ZP (zf (dTup (zf Zz Yy)) zF)))
 (zU (dCall Qo Xr))))))
def zty:BodyOk 6 zoV zhc:=by
  rintro ds S Q ⟨cs,lo,hi,rfl,ok,h31,q⟩
  unfold zoV
  walk_at"g"
  refine YH (fun i ρ S'=>∃ (w:Option D),ρ=[some (.tup (cs.map p2)),some (.int lo),some (.int hi),some (.ref S.length),some (.int (Y8 lo (cs.take i)).2),w]/\S'=S++[.lst ((Y8 lo (cs.take i)).1.map p2)]) ⟨none,rfl,rfl⟩ (fun _ _ _ _=>True.intro) ?_ ?_
  . rintro i d ρ S' hd ⟨w,rfl,rfl⟩
    obtain⟨c,hc,rfl⟩:=S7 hd
    have hi':=zV hc
    have hlim:(List.map p2 (Y8 lo (cs.take i)).1).length<big:=by
      rw[qb,zdW,Vy];unfold big;lia
    walk_at"g"
    refine⟨some (p2 c),?_,?_⟩
    . rw[VG hc,zf7];rfl
    . rw[VG hc,zf7,qA];rfl
  . rintro ρ S' ⟨w,rfl,rfl⟩
    rw[qb,T6]
    have hlim:(List.map p2 (Y8 lo cs).1).length<big:=by
      rw[qb,zdW];unfold big;lia
    have hf:=QB V4 ((Y8 lo cs).1++[((Y8 lo cs).2,hi)])
    rw[qh,zdW]at hf
    have hf:((((Y8 lo cs).1++[((Y8 lo cs).2,hi)])).filter V4).length<=cs.length+1:=hf
    walk_at"g"
    refine⟨_,(Y8 lo cs).1++[((Y8 lo cs).2,hi)],rfl,.inr (by rw[qA];exact Lst.at0),by rw[qh,zdW];show cs.length+1<=4000;lia,by lia,fun ms okm hany hml=>?_⟩
    refine Xw (zhz ms) (q ms okm (fun h h0 h1=>?_) (by lia))
    rw[hany h,Rh,zmi h1 lo ok h0 (fun _ _ _=>trivial),<- X5]
    cases cs.any (Zu h)<;>simp
def zhd:ZS:=fun ds S Q=>∃ (as bs:List (Int×Int)),ds=[.tup (as.map p2),.tup (bs.map p2)]/\Zo as/\Zo bs/\as.length+bs.length<64 /\
 ∀ ms:List (Int×Int),Zo ms->(∀ h,ms.any (Zu h)=(as.any (Zu h)&&bs.any (Zu h)))->ms.length<=as.length+bs.length->Q (.tup (ms.map p2)) S
abbrev zpQ:DS :=
    (zA (zH (Xx zF) Yv)
 (zA (Y0 (Zj Z2) (Yq 2 (z9 Zd (z9 YS Yr))) (Y0 (Zj Z1) (Yq 2 (z9 Yl (z9 Wn Yr))) (Zf (dM TX ZQ (zf (dTup (zf (dB Ws (zf ZP ua5)) (zf (dB Uh (zf Zz Rt)) zF))) zF)))))
 (zU (dCall Qo Yy))))
def ztW:BodyOk 7 zpQ zhd:=by
 rintro ds S Q ⟨as,bs,rfl,oka,okb,hlen,q⟩
 unfold zpQ
 have hmul:as.length*bs.length<=3969:=qY (qbp (show as.length<=63 by lia) (show bs.length<=63 by lia)) (by decide)
 walk_at"g"
 refine YH (fun i ρ S'=>∃ (w1 w2 w3 w4:Option D),ρ=[some (.tup (as.map p2)),some (.tup (bs.map p2)),some (.ref S.length),w1,w2,w3,w4]/\S'=S++[.lst ((Xz (as.take i) bs).map p2)]) ⟨none,none,none,none,rfl,rfl⟩ (fun _ _ _ _=>True.intro) ?_ ?_
 ·rintro i d ρ S' hd ⟨w1,w2,w3,w4,rfl,rfl⟩
  obtain⟨a,ha,rfl⟩:=S7 hd
  have hi:=zV ha
  walk_at"g"
  refine YH (fun j ρ S'=>∃ (w3 w4:Option D),ρ=[some (.tup (as.map p2)),some (.tup (bs.map p2)),some (.ref S.length),some (.int a.1),some (.int a.2),w3,w4]/\S'=S++[.lst ((Xz (as.take i) bs++(bs.take j).map (Yh a)).map p2)]) ⟨w3,w4,rfl,by simp⟩ (fun _ _ _ _=>True.intro) ?_ ?_
  ·rintro j d ρ S' hd ⟨w3,w4,rfl,rfl⟩
   obtain⟨b,hb,rfl⟩:=S7 hd
   have hj:=zV hb
   have hlim:(List.map p2 (Xz (as.take i) bs++(bs.take j).map (Yh a))).length<big:=by
    rw[qb,qh,ziE,qb,Vy,Vy]
    have:min i as.length*bs.length<=as.length*bs.length:=qbp (Nat.min_le_right _ _) (qf _)
    unfold big;lia
   walk_at"g"
   refine⟨_,_,rfl,?_⟩
   have e:Xz (as.take i) bs++(bs.take (j+1)).map (Yh a)=Xz (as.take i) bs++(bs.take j).map (Yh a)++[Yh a b]:=by
    rw[VG hb,qA,<- qu];rfl
   rw[e,qA (l₂:=[Yh a b])]
   rfl
  ·rintro ρ S' ⟨w3,w4,rfl,rfl⟩
   refine⟨_,_,_,_,rfl,?_⟩
   rw[qb,T6,zmu ha]
 ·rintro ρ S' ⟨w1,w2,w3,w4,rfl,rfl⟩
  rw[qb,T6]
  have hf:((Xz as bs).filter V4).length<=as.length+bs.length:=zlc oka okb
  walk_at"g"
  refine⟨_,Xz as bs,rfl,.inr Lst.at0,by rw[ziE];lia,by lia,fun ms ok hany hml=>?_⟩
  exact Xw (zhz ms) (q ms ok (fun h=>by rw[hany h,znB]) (by lia))
def zee:ZS:=fun ds S Q=>∃ (as bs:List (Int×Int)),ds=[.tup (as.map p2),.tup (bs.map p2)]/\Zo as/\Zo bs/\as.length+bs.length<63 /\
 ∀ ms:List (Int×Int),Zo ms->(∀ h,ms.any (Zu h)=(as.any (Zu h)&&!(bs.any (Zu h))))->ms.length<=as.length+bs.length+1->Q (.tup (ms.map p2)) S
abbrev zkd:DS :=
    (zA (ZC (dT (Z7 oEq (dB Y7 Zb) Zx)) (zU (dTup zF)) Zv)
 (zU (dCall zhd (zf Z2 (zf (dCall zhc (zf Z1 (zf (Z7 ZW Yc Zx) (zf (Z7 ZW (Z7 ZW Z2 (Yp Yo ZJ)) ZJ) zF)))) zF)))))
def znX:BodyOk 2 zkd zee:=by
 rintro ds S Q ⟨as,bs,rfl,oka,okb,hlen,q⟩
 unfold zkd
 walk_at"g"
 rw[qb]
 refine ZM (fun g=>?_) (fun g=>?_)
 ·have ea:as=[]:=RK.mp (by lia)
  subst ea
  walk_at"g"
  exact fin_same (q [] Zo.nil (fun h=>rfl) (by simp))
 ·obtain⟨c,as',rfl⟩:∃ c as',as=c::as':=by
   cases as with
   |nil=>exact absurd (by simp) g
   |cons c as'=>exact⟨c,as',rfl⟩
  obtain⟨ms0,m,em⟩:=zsv (l:=c::as') (by simp)
  have a0:Y9 (List.map p2 (c::as')) 0=some (p2 c):=T4 (i:=0) rfl
  have am:Y9 (List.map p2 (c::as')) (-1)=some (p2 m):=by rw[em,qA];exact zis
  walk_at"g"
  refine⟨bs,c.1,m.2,rfl,okb,by lia,fun gs okg hg hgl=>?_⟩
  walk_at"g"
  refine⟨c::as',gs,rfl,oka,okg,by lia,fun ms ok hany hml=>?_⟩
  refine fin_same (q ms ok (fun h=>?_) (by lia))
  rw[hany h]
  cases hA:(c::as').any (Zu h)with
  |false=>rfl
  |true =>
   obtain⟨x,hx,x1,x2⟩:=X5.mp hA
   have lo:c.1<=h:=by
    rcases qg.mp hx with rfl|hx
    ·exact x1
    ·have:=(qM.mp oka.ap).1 x hx
     have:=oka.le c (by simp)
     lia
   have hi:h<=m.2:=by
    rw[em]at hx oka
    obtain⟨_,hm,hap⟩:=oka.init
    rcases qJ.mp hx with hx|hx
    ·have:=hap x hx
     lia
    ·have:x=m:=by simpa using hx
     subst this
     exact x2
   rw[hg h lo hi]
def zeC:Ww:=fun ds S Q ex=>∃ (v:D) (V:Vl) (n m:Str),ds=[v,.str n,.str m]/\X7 S v V/\YF V/\fl 20 (.str n)=true/\fl 20 (.str m)=true/\((∀ b∈V.bs,b.1≠n)\/(∀ b∈V.bs,b.1≠m)->ex "NoBeacon" S)/\∀ s t,(n,s)∈V.bs->(m,t)∈V.bs->∀ ms,QJ V n m s t ms->Q (.tup (ms.map p2)) S
abbrev zmL (ex : XR) : DS :=
    (zA (zH (Wm zde ex (zf Z2 Ys)) Zd)
 (zA (zH (Wm zde ex (zf Z2 Yy)) YS)
 (zA (zH (dTup (zf (dTup (zf (YQ "first" Z2) (zf (YQ "last" Z2) zF))) zF)) Yl)
 (zA (ZC (dT (Z7 oEq Z1 ZQ)) (zU Zt) Zv)
 (zA (ZC (dT (Z7 U5 (dCall zb9 (zf Z2 (zf ZP U0))) (dC .non))) (zU (dTup zF)) Zv)
 (zU (dCall zee (zf Zt (zf (dCall zda (zf (YQ "fogs" Z2) (zf ZP U0))) zF)))))))))
def zrN:T8 6 zmL zeC:=by
  rintro ds S Q ex ⟨v,V,n,m,rfl,hv,ok,hn,hm,hx,q⟩
  unfold zmL
  walk_at"g"
  refine⟨v,V,n,rfl,hv,ok,hn,fun no=>hx (.inl no),fun s hs=>?_⟩
  walk_at"g"
  refine⟨v,V,m,rfl,hv,ok,hm,fun no=>hx (.inr no),fun t ht=>?_⟩
  have q':=q s t hs ht
  clear hx q
  have bs:=ok.bd _ hs
  have bt:=ok.bd _ ht
  have ss:=ok.st _ hs
  have st:=ok.st _ ht
  obtain⟨a,g,b',f,rfl,ha,hg,hb,hf⟩:=id hv
  walk_at"g"
  refine zpN hn hm ?_
  walk_at"g"
  have one:Zo [(V.h0,V.h1)]:=by
    refine⟨fun c hc=>?_,List.pairwise_singleton _ _⟩
    have:c=(V.h0,V.h1):=by simpa using hc
    subst this;exact ok.hh
  refine ZM (fun h=>?_) (fun h=>?_)
  . walk_at"g"
    refine fin_same (q' [(V.h0,V.h1)] ⟨one,fun k=>?_,by show 1<=14;decide⟩)
    rw[X5]
    constructor
    . rintro⟨c,hc,h1,h2⟩
      have:c=(V.h0,V.h1):=by simpa using hc
      subst this
      exact⟨h1,h2,.inl h⟩
    . rintro⟨h1,h2,_⟩
      exact⟨(V.h0,V.h1),by simp,h1,h2⟩
  walk_at"g"
  refine⟨_,V,s,t,rfl,hv,ok,⟨bs,ss⟩,⟨bt,st⟩,?_⟩
  by_cases al:Alw V s t
  case neg =>
    have e:ziC (zhs V s t)=false:=by
      cases h:zhs V s t with
      |non=>exact absurd (zkz.mp h) al
      |_=>rfl
    refine r_c (zr6 ?_)
    rw[e]
    walk_at"g"
    refine fin_same (q' [] ⟨Zo.nil,fun k=>?_,by show 0<=14;decide⟩)
    constructor
    . intro z;simp at z
    . rintro⟨_,_,z|z⟩
      . exact absurd z h
      . exact absurd z.1 al
  rw[zkz.mpr al]
  walk_at"g"
  have f12:=ok.f12
  refine⟨_,V.fs,s.1,s.2,t.1,t.2,rfl,Lst.here hf,by lia,fun F hF=>(ok.fg F hF).b,bs.1.mono (by decide),bs.2.mono (by decide),bt.1.mono (by decide),bt.2.mono (by decide),fun fs fok fh fl=>?_⟩
  walk_at"g"
  refine⟨[(V.h0,V.h1)],fs,rfl,one,fok,by show 1+fs.length<63;lia,fun ms mok mh ml=>?_⟩
  refine fin_same (q' ms ⟨mok,fun k=>?_,by have:ms.length<=1+fs.length+1:=ml;lia⟩)
  rw[mh k,qG,X5]
  have e:(!fs.any (Zu k))=true↔¬ ∃ F∈V.fs,zes F s.1 s.2 t.1 t.2 k:=by
    rw[<- fh k]
    cases fs.any (Zu k)<;>simp
  rw[e]
  constructor
  . rintro⟨⟨c,hc,h1,h2⟩,h3⟩
    have:c=(V.h0,V.h1):=by simpa using hc
    subst this
    exact⟨h1,h2,.inr ⟨al,h3⟩⟩
  . rintro⟨h1,h2,z|z⟩
    . exact absurd z h
    . exact⟨⟨(V.h0,V.h1),by simp,h1,h2⟩,z.2⟩
def zjq (S:Z5)(r:Nat)(V:Vl)(k:Nat):Prop:=∃ row:List (List (Int×Int)),S[r]?=some (.lst (row.map fun ms=>.tup (ms.map p2)))/\row.length=V.bs.length/\∀ (j:Nat) ms b c,row[j]?=some ms->V.bs[k]?=some b->V.bs[j]?=some c->QJ V b.1 c.1 b.2 c.2 ms
def zjq.old {S T:Z5}{r k:Nat}{V:Vl}(h:zjq S r V k):zjq (S++T) r V k:=by
 obtain⟨row,h1,h2⟩:=h
 exact⟨row,Xq h1,h2⟩
def zfs (S:Z5)(t:D)(V:Vl):Prop:=∃ rs:List Nat,Lst S t (rs.map D.ref)/\rs.length=V.bs.length/\∀ (k r:Nat),rs[k]?=some r->zjq S r V k
theorem zfs.old {S T:Z5}{t:D}{V:Vl}(h:zfs S t V):zfs (S++T) t V:=by
 obtain⟨rs,h1,h2,h3⟩:=h
 exact⟨rs,h1.old,h2,fun k r e=>(h3 k r e).old⟩
def zc8:ZS:=fun ds S Q=>∃ (v:D) (V:Vl),ds=[v]/\X7 S v V/\YF V/\∀ (T:Z5) (t:D),zfs (S++T) t V->Q t (S++T)
abbrev zhP:DS :=
    (zA (zH (Yz 1 [] (Zj (YQ "beacons" Z2)) Ym Xu Yc) Wt)
 (zU (Yz 1 [1,0] (Zj Z1) Ym Xu (Yz 1 [2,0] (Zj Z1) Ym Xu (Wm zeC xF (zf Z1 (zf ZQ Zb)))))))
def zlt:BodyOk 2 zhP zc8:=by
 rintro ds S Q ⟨v,V,rfl,hv,ok,q⟩
 unfold zhP
 have b12:=ok.b12
 obtain⟨m,g,b',f,rfl,hm,hg,hb,_⟩:=id hv
 have vo:∀ T,X7 (S++T) (.ref m) V:=fun T=>hv.old
 walk_at"g"
 refine W8 (fun _=>true) (Qw fun b=>.str b.1) (Lst.here hb) (by rw[qb];unfold big;lia) (fun i d ys hd hw=>?_) ?_
 ·obtain⟨b,_,rfl⟩:=Qm hd
  walk_at"g"
  exact WW hd hw rfl rfl
 rw[filter_true,O9,show V.bs.map (fun b=>D.str b.1)=(V.bs.map (·.1)).map D.str by rw[qT];rfl]
 unfold New
 obtain⟨S1,hS1⟩:∃ S1:Z5,S1=S++[Cell.lst ((V.bs.map (·.1)).map D.str)]:=⟨_,rfl⟩
 have kn:∀ T,Lst (S1++T) (.ref S.length) ((V.bs.map (·.1)).map D.str):=fun T=>hS1▸Lst.old Lst.at0
 have kn0:Lst S1 (.ref S.length) ((V.bs.map (·.1)).map D.str):=hS1▸Lst.at0
 have v1:∀ T,X7 (S1++T) (.ref m) V:=fun T=>hS1▸(vo _).old
 have x1:∃ T,S1=S++T:=⟨_,hS1⟩
 rw[<- hS1]
 clear hS1
 generalize S.length=nn at kn kn0
 walk_at"g"
 refine zsa (fun i ys S'=>∃ (T:Z5) (rs:List Nat),S'=S1++T/\ys=rs.map D.ref/\rs.length=i/\∀ (k r:Nat),rs[k]?=some r->zjq S' r V k) ⟨[],[],by simp,rfl,rfl,fun k r h=>by simp at h⟩ (fun i ys S' zq8=>by obtain⟨T,_,e,_⟩:=zq8;exact e▸kn _) (by rw[qb,qb];unfold big;lia) ?_ ?_
 ·rintro i d ys S' hd ⟨T,rs,rfl,rfl,hl,hr⟩
  obtain⟨z,hz,rfl⟩:=zjG hd
  have hk:∃ b,V.bs[i]?=some b/\b.1=z:=by
   rw[qj]at hz
   cases e:V.bs[i]? with
   |none=>rw[e]at hz;cases hz
   |some b=>rw[e]at hz;exact⟨b,rfl,qw hz⟩
  obtain⟨b,hb,rfl⟩:=hk
  have kn1:=kn T
  walk_at"g"
  have fl1:∀ b∈V.bs,fl 20 (.str b.1)=true:=fun b hb=>Qz (ok.nm b hb) 20
  have mb:=qe hb
  refine zsa (fun j ys S'=>S'=S1++T/\∃ row:List (List (Int×Int)),ys=(row.map fun ms=>D.tup (ms.map p2))/\row.length=j/\∀ (a:Nat) ms c,row[a]?=some ms->V.bs[a]?=some c->QJ V b.1 c.1 b.2 c.2 ms) ⟨rfl,[],rfl,rfl,fun a ms c h=>by simp at h⟩ (fun j ys S' e=>e.1▸kn1) (by rw[qb,qb];unfold big;lia) ?_ ?_
  ·rintro j d' ys S' hd' ⟨rfl,row,rfl,hrl,hrow⟩
   obtain⟨y,hy,rfl⟩:=zjG hd'
   obtain⟨c,hc,rfl⟩:∃ c,V.bs[j]?=some c/\c.1=y:=by
    rw[qj]at hy
    cases e:V.bs[j]? with
    |none=>rw[e]at hy;cases hy
    |some b=>rw[e]at hy;exact⟨b,rfl,qw hy⟩
   have mc:=qe hc
   walk_at"g"
   refine⟨_,V,b.1,c.1,rfl,v1 T,ok,fl1 b mb,fl1 c mc,fun no=>?_,fun s t hs ht ms hm=>?_⟩
   ·rcases no with no|no
    ·exact(no b mb rfl).elim
    ·exact(no c mc rfl).elim
   have es:s=b.2:=congrArg Prod.snd (zfA ok hs mb rfl)
   have et:t=c.2:=congrArg Prod.snd (zfA ok ht mc rfl)
   subst es et
   refine⟨rfl,row++[ms],by rw[qA];rfl,by simp[hrl],fun a ms' c' h h'=>?_⟩
   rcases qL a row.length with g|g
   ·rw[qk g]at h;exact hrow a ms' c' h h'
   ·have lj:=zV h
    rw[qh]at lj
    have ej:a=row.length:=by simp at lj;lia
    subst ej
    rw[qi (qf _),V7]at h
    have e:ms=ms':=by simpa using h
    subst e
    rw[hrl,hc]at h'
    cases h'
    exact hm
  rintro ys S' ⟨rfl,row,rfl,hrl,hrow⟩
  rw[qb,qb]at hrl
  unfold New
  have hn:zjq (S1++T++[.lst (row.map fun ms=>D.tup (ms.map p2))]) (S1++T).length V i:=⟨row,Y4,hrl,fun j ms b' c h1 h2 h3=>by rw[hb]at h2;cases h2;exact hrow j ms c h1 h3⟩
  refine⟨T++[.lst (row.map fun ms=>D.tup (ms.map p2))],rs++[(S1++T).length],by rw[qu],by rw[qA];rfl,by simp[hl],fun k r h=>?_⟩
  rcases qL k rs.length with g|g
  ·rw[qk g]at h;exact(hr k r h).old
  ·have lj:=zV h
   rw[qh]at lj
   have ej:k=rs.length:=by simp at lj;lia
   subst ej
   rw[qi (qf _),V7]at h
   have e:(S1++T).length=r:=by simpa using h
   rw[<- e,hl]
   exact hn
 rintro ys S' ⟨T,rs,rfl,rfl,hl,hr⟩
 rw[qb,qb]at hl
 unfold New
 obtain⟨T1,rfl⟩:=x1
 rw[qu S]at hr ⊢
 generalize T1++T=T2 at hr
 have va:zfs (S++T2++[.lst (rs.map D.ref)]) (.ref (S++T2).length) V:=⟨rs,Lst.at0,hl,fun k r h=>(hr k r h).old⟩
 rw[qu]at va ⊢
 exact fin_same (q _ _ va)
def zdb:ZS:=fun ds S Q=>∃ (ms:List (Int×Int)) (h:Int),ds=[.tup (ms.map p2),.int h]/\Q (YB (W3 ms h)) S
abbrev zhH:DS :=
    (zA (Y0 (Zj Z2) (Yq 2 (z9 Yv (z9 Zd Yr))) (ZC (dT (Z7 oGe ZP Z1)) (zU (dB Ws (zf ZQ Ys))) Zv))
 (zU (dC .non)))
def zln:BodyOk 4 zhH zdb:=by
 rintro ds S Q ⟨ms,h,rfl,q⟩
 unfold zhH
 walk_at"g"
 refine YH (fun i ρ S'=>∃ w1 w2,ρ=[some (.tup (ms.map p2)),some (.int h),w1,w2]/\S'=S/\W3 ms h=W3 (ms.drop i) h) ⟨none,none,rfl,rfl,rfl⟩ (fun _ _ _ _=>True.intro) ?_ ?_
 ·rintro i d ρ S' hd ⟨w1,w2,rfl,rfl,e⟩
  obtain⟨c,hc,rfl⟩:=S7 hd
  have hi:=zV hc
  have ed:ms.drop i=c::ms.drop (i+1):=by
   rw[List.drop_eq_getElem_cons hi]
   rw[qc hi]at hc
   cases hc;rfl
  rw[ed]at e
  walk_at"g"
  refine ZM (fun g=>?_) (fun g=>?_)
  ·walk_at"g"
   have e2:W3 ms h=some (max c.1 h):=by rw[e];unfold W3;rw[if_pos g]
   rw[e2]at q
   exact fin_same q
  ·walk_at"g"
   refine⟨_,_,rfl,rfl,?_⟩
   rw[e]
   show(if h<=c.2 then _ else _)=_
   rw[if_neg g]
 ·rintro ρ S' ⟨w1,w2,rfl,rfl,e⟩
  rw[qb,List.drop_length]at e
  rw[e]at q
  walk_at"g"
  exact fin_same q
def zeh:ZS:=fun ds S Q=>∃ (t:D) (V:Vl) (s:Nat) (h:Int),ds=[t,.int (s:Nat),.int h,.int V.dl]/\zfs S t V/\YF V/\s<V.bs.length/\∀ (T:Z5) (k:Nat) (lit:List (Option Int)),lit.length=V.bs.length->Ri (YD V) V.dl s h (fun j=>(lit[j]?).join)->(S++T)[k]?=some (.lst (Xv lit))->S.length<=k->Q (.ref k) (S++T)
abbrev zkn:DS :=
    (zA (zH (Yz 1 [] (Zj Z2) Ym Xu (dC .non)) YS)
 (zA (zH ZQ (Tq Zz Z1))
 (zA (Y0 (PJ (zf (dB Y7 Zb) zF)) Yl (Y0 (RT Zb) (Yq 2 (z9 Wn (z9 Uo Yr))) (Y0 (RT ua7) (Yq 2 (z9 Qa (z9 gn9 Yr))) (ZC (Vk (dT (Z7 U5 (Z7 ZW Zz Ye) (dC .non))) (dT (Z7 Wj WT Z1))) (zA (zH (dCall zdb (zf SM (zf (Z7 ZW Zz Ye) zF))) zqr)
 (ZC (Vk (dT (Z7 U5 zl5 (dC .non))) (Vk (dT (Z7 Wj Ye WT)) (UL (dT (Z7 oIs (Z7 ZW Zz WT) (dC .non))) (dT (Z7 oLt (Z7 Zy zl5 ZP) (Z7 ZW Zz WT)))))) (zH (Z7 Zy zl5 ZP) (Tq Zz WT)) Zv)) Zv))))
 (zU Zz))))
def zn4:BodyOk 11 zkn zeh:=by
  rintro ds S Q ⟨t,V,s,h,rfl,ht,ok,hsn,q⟩
  unfold zkn
  obtain⟨rs,hrs,hrl,hrow⟩:=id ht
  have b12:=ok.b12
  have hd:=ok.dl
  walk_at"g"
  refine W8 (fun _=>true) (fun _=>.non) hrs (by rw[qb];unfold big;lia) (fun i d ys hd' hw=>?_) ?_
  . walk_at"g"
    exact WW hd' hw rfl rfl
  rw[filter_true,qT,show rs.map ((fun _=>D.non) ∘ D.ref)=Xv (List.replicate V.bs.length none) by show _=(List.replicate V.bs.length (none:Option Int)).map YB;rw[List.map_replicate,<- hrl];exact map_const rs D.non]
  walk_at"g"
  walk_at"h"
  refine Qc (j:=s) Y4 (zo4 (by rw[qH];exact hsn)) (zfu ?_)
  rw[show(Xv (List.replicate V.bs.length none)).set s (.int h)=Xv ((List.replicate V.bs.length none).set s (some h)) by rw[<- Qi];exact(List.map_set ..).symm]
  have hrT:∀ T,Lst (S++T) t (rs.map D.ref):=fun T=>hrs.old
  have hr1:=hrT [.lst (Xv ((List.replicate V.bs.length none).set s (some h)))]
  have r0:Rnd (YD V) V.dl s h V.bs.length 0 ((List.replicate V.bs.length none).set s (some h)):=by
    refine⟨by simp,fun j h' e=>?_,fun vs j h' p l=>?_⟩
    . by_cases ej:j=s
      . subst ej
        rw[qI (by simpa using hsn)]at e
        cases e;exact .base
      . rw[qQ (Ne.symm ej)]at e
        have:=List.eq_of_mem_replicate (qe e)
        cases this
    . cases p with
      |base=>exact⟨h,by rw[qI (by simpa using hsn)],qr _⟩
      |step p _ _ hm=>cases p<;>simp at l
  walk_at"g"
  rw[qb]
  refine⟨_,rfl,by lia,by lia,?_⟩
  refine YH (fun r ρ S'=>∃ (G:Z5) (lit:List (Option Int)) (w5 w6 w7 w8 w9 w10:Option D),S'=S++Cell.lst (Xv lit)::G/\Rnd (YD V) V.dl s h V.bs.length r lit/\ρ=[some t,some (.int (s:Nat)),some (.int h),some (.int V.dl),some (.ref S.length),w5,w6,w7,w8,w9,w10]) ⟨[],_,_,_,_,_,_,_,rfl,r0,rfl⟩ (fun _ _ _ _=>True.intro) ?_ ?_
  . rintro r d ρ S' hd' ⟨G,lit,w5,w6,w7,w8,w9,w10,rfl,hR,rfl⟩
    have ll:=hR.len
    have hr2:=hrT (Cell.lst (Xv lit)::G)
    walk_at"g"
    refine zjW (xs:=rs.map D.ref) hr2 ?_
    refine YH (fun k ρ S'=>∃ (G:Z5) (lit:List (Option Int)) (w5 w6 w7 w8 w9 w10:Option D),S'=S++Cell.lst (Xv lit)::G/\TY (YD V) V.dl s h V.bs.length r (fun a b=>a<k) lit/\ρ=[some t,some (.int (s:Nat)),some (.int h),some (.int V.dl),some (.ref S.length),w5,w6,w7,w8,w9,w10]) ⟨G,lit,_,_,_,_,_,_,rfl,⟨hR,fun k j hk=>absurd hk (qbj _)⟩,rfl⟩ (fun k ρ S' zq9=>by obtain⟨_,_,_,_,_,_,_,_,e,_⟩:=zq9;exact e▸hrT _) ?_ ?_
    . rintro k d' ρ S' hdk ⟨G,lit,w5,w6,w7,w8,w9,w10,rfl,hS,rfl⟩
      obtain⟨y,hy,rfl⟩:=Ss hdk
      obtain⟨rk,hrk,rfl⟩:∃ rk,rs[k]?=some rk/\y=.ref rk:=by
        rw[qj]at hy
        cases e:rs[k]? with
        |none=>rw[e]at hy;cases hy
        |some b=>rw[e]at hy;exact⟨b,rfl,(qw hy).symm⟩
      have hkn:k<V.bs.length:=by rw[<- hrl];exact zV hrk
      obtain⟨row,hro,hrw,hsee⟩:=hrow k rk hrk
      have hroT:∀ T,Lst (S++T) (.ref rk) (row.map fun ms=>D.tup (ms.map p2)):=fun T=>Lst.here (Xq hro)
      have hro1:=hroT (Cell.lst (Xv lit)::G)
      walk_at"g"
      refine zjW (xs:=row.map fun ms=>D.tup (ms.map p2)) hro1 ?_
      refine YH (fun j ρ S'=>∃ (G:Z5) (lit:List (Option Int)) (w8 w9 w10:Option D),S'=S++Cell.lst (Xv lit)::G/\TY (YD V) V.dl s h V.bs.length r (fun a b=>a<k\/(a=k/\b<j)) lit/\ρ=[some t,some (.int (s:Nat)),some (.int h),some (.int V.dl),some (.ref S.length),w5,some (.int ((0+k:Nat):Int)),some (.ref rk),w8,w9,w10]) ⟨G,lit,_,_,_,rfl,⟨hS.rnd,fun a b z=>hS.don a b (by lia)⟩,rfl⟩ (fun k ρ S' zq10=>by obtain⟨_,_,_,_,_,e,_⟩:=zq10;exact e▸hroT _) ?_ ?_
      . rintro j d' ρ S' hdj ⟨G,lit,w8,w9,w10,rfl,hS,rfl⟩
        obtain⟨y,hy,rfl⟩:=Ss hdj
        obtain⟨ms,hms,rfl⟩:∃ ms,row[j]?=some ms/\y=.tup (ms.map p2):=by
          rw[qj]at hy
          cases e:row[j]? with
          |none=>rw[e]at hy;cases hy
          |some b=>rw[e]at hy;exact⟨b,rfl,(qw hy).symm⟩
        have hjn:j<V.bs.length:=by rw[<- hrw];exact zV hms
        have ll:=hS.rnd.len
        have ak:Y9 (Xv lit) ((0+k:Nat):Int)=some (YB ((lit[k]?).join)):=by rw[qbn];exact zlU (by lia)
        have aj:Y9 (Xv lit) ((0+j:Nat):Int)=some (YB ((lit[j]?).join)):=by rw[qbn];exact zlU (by lia)
        have stay:(∀ vs h' u,Lp (YD V) V.dl s h vs k h'->vs.length<=r+1->h'<=u->YD V k j u->∃ h2,lit[j]?=some (some h2)/\h2<=u+V.dl)->TY (YD V) V.dl s h V.bs.length r (fun a b=>a<k\/(a=k/\b<j+1)) lit:=fun hq =>
          hS.keep ll hS.rnd.snd (fun j h e=>⟨h,e,qr _⟩) fun a b z1 z2=>by
            have e1:a=k:=by lia
            have e2:b=j:=by lia
            subst e1 e2;exact hq
        cases hlk:(lit[k]?).join with
        |none =>
          rw[hlk,zdQ]at ak
          walk_at"g"
          refine⟨G,lit,_,_,_,rfl,stay fun vs h' u p l _ _=>?_,rfl⟩
          obtain⟨h2,e,_⟩:=hS.rnd.prg vs k h' p l
          rw[e]at hlk;cases hlk
        |some hk' =>
          have glk:=zmd hlk
          rw[hlk,Qi]at ak
          walk_at"g"
          refine QL (fun hn=>?_) (fun hn=>?_)
          . walk_at"g"
            refine⟨ms,hk',rfl,?_⟩
            have prg':∀ vs h' u,Lp (YD V) V.dl s h vs k h'->vs.length<=r+1->h'<=u->YD V k j u->hk'<=u:=fun vs h' u p l hu _=>by
              obtain⟨h2,e,le⟩:=hS.rnd.prg vs k h' p l
              rw[glk]at e;cases e;lia
            have fsp:k≠j->Xl (Xn V k j) hk'=W3 ms hk':=fun hkj=>zgn ok (qc hkn) (qc hjn) hkj (hsee j ms _ _ hms (qc hkn) (qc hjn)) hk'
            have self:k=j->∀ u,¬ YD V k j u:=fun e u hu=>by
              subst e
              unfold YD at hu
              rw[zjd]at hu
              cases hu
            cases hf:W3 ms hk' with
            |none =>
              rw[hf]at fsp
              rw[zdQ]
              walk_at"g"
              refine⟨G,lit,_,_,_,rfl,stay fun vs h' u p l hu hse=>?_,rfl⟩
              by_cases hkj:k=j
              . exact absurd hse (self hkj u)
              . exact absurd (prg' vs h' u p l hu hse) (zdR (fsp hkj) u hse)
            |some u0 =>
              rw[hf]at fsp
              rw[Qi]
              walk_at"g"
              refine QL (fun hkj=>?_) (fun hkj=>?_)
              . obtain⟨m0,g0,least⟩:=Ph (QD V k j) (fsp (by lia))
                have lnew:Lt (YD V) V.dl s h j (u0+V.dl):=.step (hS.rnd.snd k hk' glk) g0 m0
                have put':∀ (_:∀ h2,lit[j]?=some (some h2)->u0+V.dl<=h2),TY (YD V) V.dl s h V.bs.length r (fun a b=>a<k\/(a=k/\b<j+1)) (lit.set j (some (u0+V.dl))):=fun hlow=>by
                  have gs:(lit.set j (some (u0+V.dl)))[j]?=some (some (u0+V.dl)):=by rw[qI (by lia)]
                  refine hS.keep (by rw[T7];exact ll) (fun j' h' e=>?_) (fun j' h' e=>?_) fun a b z1 z2=>?_
                  . by_cases ej:j'=j
                    . subst ej;rw[gs]at e;cases e;exact lnew
                    . rw[qQ (Ne.symm ej)]at e;exact hS.rnd.snd j' h' e
                  . by_cases ej:j'=j
                    . subst ej;exact⟨_,gs,hlow h' e⟩
                    . exact⟨h',by rw[qQ (Ne.symm ej)];exact e,qr _⟩
                  . have e1:a=k:=by lia
                    have e2:b=j:=by lia
                    subst e1 e2
                    intro vs h' u p l hu hse
                    exact⟨_,gs,by have:=least u hse (prg' vs h' u p l hu hse);lia⟩
                have hput:(Xv lit).set j (.int (u0+V.dl))=Xv (lit.set j (some (u0+V.dl))):=by rw[<- Qi];exact(List.map_set ..).symm
                have hix:X3 (Xv lit).length ((0+j:Nat):Int)=some j:=by rw[qbn];exact zo4 (by lia)
                cases hlj:(lit[j]?).join with
                |none =>
                  rw[hlj,zdQ]at aj
                  walk_at"g"
                  refine Qc Y4 hix (zfu ?_)
                  rw[hput]
                  refine⟨_,_,_,_,_,rfl,put' fun h2 e=>?_,rfl⟩
                  rw[e]at hlj;cases hlj
                |some hj' =>
                  have glj:=zmd hlj
                  rw[hlj,Qi]at aj
                  walk_at"g"
                  refine ZM (fun g=>?_) (fun g=>?_)
                  . walk_at"g"
                    refine Qc Y4 hix (zfu ?_)
                    rw[hput]
                    refine⟨_,_,_,_,_,rfl,put' fun h2 e=>?_,rfl⟩
                    rw[glj]at e;cases e;lia
                  . walk_at"g"
                    refine⟨_,lit,_,_,_,rfl,stay fun vs h' u p l hu hse=>?_,rfl⟩
                    exact⟨hj',glj,by have:=least u hse (prg' vs h' u p l hu hse);lia⟩
              . walk_at"g"
                refine⟨G,lit,_,_,_,rfl,stay fun vs h' u p l hu hse=>?_,rfl⟩
                exact absurd hse (self (by lia) u)
          . walk_at"g"
            refine⟨G,lit,_,_,_,rfl,stay fun vs h' u p l hu hse=>?_,rfl⟩
            obtain⟨h2,e,le⟩:=hS.rnd.prg [s] s h .base (by simp)
            have:=(p.lt).ge hd
            rw[show j=s by lia]
            exact⟨h2,e,by lia⟩
      . rintro ρ S' ⟨G,lit,w8,w9,w10,rfl,hS,rfl⟩
        rw[Um,qb,hrw]at hS
        exact⟨G,lit,_,_,_,_,_,_,rfl,hS.keep hS.rnd.len hS.rnd.snd (fun j h e=>⟨h,e,qr _⟩) fun a b z1 z2 vs h' u p l hu hse=>by
          have:=zhm hse
          exact absurd (show a<k\/(a=k/\b<V.bs.length) by lia) (by lia),rfl⟩
    . rintro ρ S' ⟨G,lit,w5,w6,w7,w8,w9,w10,rfl,hS,rfl⟩
      rw[Um,qb,hrl]at hS
      exact⟨G,lit,_,_,_,_,_,_,rfl,hS.next hsn (fun k j u z=>zhm z) fun k j hk hj=>hk,rfl⟩
  . rintro ρ S' ⟨G,lit,w5,w6,w7,w8,w9,w10,rfl,hR,rfl⟩
    rw[zfh]at hR
    have e:((rs.length:Nat):Int).toNat=V.bs.length:=by lia
    rw[e]at hR
    walk_at"g"
    exact fin_same (q _ _ lit hR.len (hR.ear hd hsn fun k j u z=>zhm z) Y4 (qf _))
def RN:ZS:=fun ds S Q=>∃ (v:D) (V:Vl),ds=[v]/\X7 S v V/\V.bs.length<=100/\New Q S ((V.bs.map (·.1)).map D.str)
abbrev zi7:DS :=
  (zU (Yz 1 [] (Zj (YQ "beacons" Z2)) Ym Xu Yc))
def zmr:BodyOk 1 zi7 RN:=by
 rintro ds S Q ⟨v,V,rfl,hv,hl,q⟩
 unfold zi7
 obtain⟨m,g,b',f,rfl,hm,hg,hb,_⟩:=hv
 walk_at"g"
 refine W8 (fun _=>true) (Qw fun b=>.str b.1) (Lst.here hb) (by rw[qb];unfold big;lia) (fun i d ys hd hw=>?_) ?_
 ·obtain⟨b,_,rfl⟩:=Qm hd
  walk_at"g"
  exact WW hd hw rfl rfl
 rw[filter_true,O9,show V.bs.map (fun b=>D.str b.1)=(V.bs.map (·.1)).map D.str by rw[qT];rfl]
 exact fin_same q
def zaX:Ww:=fun ds S Q ex=>∃ (v:D) (V:Vl) (n:Str),ds=[v,.str n]/\X7 S v V/\YF V/\fl 20 (.str n)=true/\(n∉V.bs.map (·.1)->∀ T,ex "NoBeacon" (S++T))/\(n∈V.bs.map (·.1)->Q .non S)
abbrev zdO (ex:XR):DS :=
  (ZC (dT (Z7 zl0 Z1 (dCall RN Zb))) (zfN ex "NoBeacon") Zv)
def zgs:T8 2 zdO zaX:=by
 rintro ds S Q ex ⟨v,V,n,rfl,hv,ok,hn,hx,q⟩
 unfold zdO
 have b12:=ok.b12
 walk_at"g"
 refine⟨v,V,rfl,hv,by lia,?_⟩
 walk_at"g"
 refine zpr (.inr Lst.at0) hn ok.flN ?_
 walk_at"g"
 refine QL (fun h=>?_) (fun h=>?_)
 ·walk_at"g"
  exact hx h _
 ·walk_at"g"
  exact Xw rfl (q h)
def Vj:ZS:=fun ds S Q=>∃ (p:Pc) (h:Int),ds=[Pd p,.int h]/\(p.st=0\/p.st=1)/\Q (.int (p.led h)) S
abbrev zsB:DS :=
  (zU (Z7 Zy Rk (Z7 Yt zhg (Z7 Zq Z1 Yc))))
def zvI:BodyOk 2 zsB Vj:=by
  rintro ds S Q ⟨p,h,rfl,hs,q⟩
  unfold zsB
  have c:YL p.st (h-p.lo):=.inr (.inl (by rcases hs with e|e<;>rw[e]<;>decide))
  walk_at"g"
  exact fin_same q
def zco:ZS:=fun ds S Q=>∃ (p:Pc) (t:Int),ds=[Pd p,.int t]/\(p.st=0\/p.st=1)/\Q (.bl (decide (draw p t))) S
abbrev zfv:DS :=
    (zA (ZC (dT (Z7 oEq Yc W7)) (zU (zre (Z7 oEq Z1 Rk) (Z7 oEq Z1 (Z7 Zy Rk ZJ)))) Zv)
 (zU (Z7 oEq Z1 (dCall Vj (zf Z2 (zf (Z7 Zy W7 ZJ) zF))))))
def ziI:BodyOk 2 zfv zco:=by
 rintro ds S Q ⟨p,t,rfl,hs,q⟩
 unfold zfv
 unfold Rm.draw at q
 walk_at"g"
 refine ZM (fun g=>?_) (fun g=>?_)
 ·simp only[if_pos g]at q
  walk_at"g"
  refine ZM (fun g1=>?_) (fun g1=>?_)
  ·walk_at"g"
   exact fin_same (by rw[decide_eq_true (.inl g1)]at q;exact q)
  ·walk_at"g"
   exact fin_same (by simpa [g1]using q)
 ·simp only[if_neg g]at q
  walk_at"g"
  refine⟨p,_,rfl,hs,?_⟩
  walk_at"g"
  exact fin_same q
def zdZ:ZS:=fun ds S Q=>∃ (p:Pc),ds=[Pd p]/\(p.st=0\/p.st=1)/\Q (.int p.fin) S
abbrev zk0:DS :=
  (zU (dCall Vj (zf Z2 (zf W7 zF))))
def zoS:BodyOk 1 zk0 zdZ:=by
 rintro ds S Q ⟨p,rfl,hs,q⟩
 unfold zk0
 walk_at"g"
 exact⟨p,_,rfl,hs,fin_same q⟩
def RQ:ZS:=fun ds S Q=>∃ (n:Nat) (lo hi to st:Int) (ps:List Pc),ds=[.ref n,.int lo,.int hi,.int to,.int st]/\S[n]?=some (.lst (ps.map Pd))/\ZX ps/\(st=0\/st=1)/\ps.length<=10000 /\
 (lo<=hi->∀ p,ps.getLast?=some p->p.hi+1=lo/\p.fin<=to)/\∀ qs,QZ ps lo hi to st qs->Q .non (S.set n (.lst (qs.map Pd)))
abbrev zse:DS :=
    (zA (zH Z1 Yl)
 (zA (sJ (ZC (Vk (dT (Z7 oLe Z1 ZQ)) (Vk (dT (Z7 Xj (dB Y7 Zb) Zx)) (dT (dCall zco (zf (Z7 ZW Z2 (Yp Yo ZJ)) Xr))))) (zA (zH (Z7 ZW Z2 (Yp Yo ZJ)) Wn)
 (zA (zH (Z7 Zq ZP (dCall zdZ Rt)) Uo)
 (zA (sJ (zH (RD (dT (Z7 oEq Zz Xi)) ZQ Z1) Qa))
 (zA (zH (dTup (zf zxK (zf WT (zf zx5 ua7)))) (Tq Z2 (Yp Yo ZJ)))
 (zH (Z7 Zy WT ZJ) Yl))))) Zv))
 (ZC (dT (Z7 oLe Zt ZQ)) (Zf (dM TX Z2 (zf (dTup (zf Zt (zf ZQ (zf (Z7 Zy ZP (Z7 Yt Zz (Z7 Zq Zt Z1))) (zf (RD (dT (Z7 oLt Zt ZQ)) Zz Zx) zF))))) zF))) Zv)))
def zwA:BodyOk 9 zse RQ:=by
  rintro ds S Q ⟨n,lo,hi,to,st,ps,rfl,hn,hr,hst,hlen,hp,q⟩
  replace q:=q _ (zv9 hr hst hp)
  unfold Wc at q
  have hb:ps.length<big:=by unfold big;lia
  have hnl:n<S.length:=by
    rcases qL n S.length with g|g
    . exact g
    . rw[qv g]at hn;cases hn
  have hmul:∀ x,YL st x:=fun x=>.inr (.inl (by rcases hst with e|e<;>rw[e]<;>decide))
  unfold zse
  walk_at"g"
  refine zr4 ?_
  walk_at"g"
  refine ZM (fun g=>?_) (fun g=>?_)
  . walk_at"g"
    rw[qb]
    refine ZM (fun g1=>?_) (fun g1=>?_)
    . cases hl:ps.getLast? with
      |none=>rw[PB]at hl;subst hl;simp at g1
      |some p =>
        obtain⟨h1,h2⟩:=hp g p hl
        have gp:=hr.good p (List.mem_of_getLast? hl)
        have al:=znn hl
        have il:=zub hl
        rw[hl]at q
        simp only[]at q
        walk_at"g"
        refine⟨p,to,rfl,gp.st,?_⟩
        walk_at"g"
        refine ZM (fun g2=>?_) (fun g2=>?_)
        . rw[if_pos ⟨g,g2⟩]at q
          walk_at"g"
          refine⟨p,rfl,gp.st,?_⟩
          walk_at"g"
          refine zr4 ?_
          walk_at"g"
          refine ZM (fun g3=>?_) (fun g3=>?_)
          . rw[if_pos g3,if_neg (by lia)]at q
            walk_at"g"
            refine Qc hn il ?_
            rw[zlz (q:=⟨p.lo,hi,p.to,to-p.fin⟩) hl]
            walk_at"g"
            walk_at"g"
            refine ZM (fun g4=>absurd g4 (by lia)) (fun g4=>?_)
            walk_at"g"
            exact fin_same q
          . rw[if_neg g3]at q
            walk_at"g"
            refine Qc hn il ?_
            rw[zlz (q:=⟨p.lo,lo,p.to,to-p.fin⟩) hl]
            walk_at"g"
            have hbl:((ps.dropLast++[(⟨p.lo,lo,p.to,to-p.fin⟩:Pc)]).map Pd).length<big:=by rw[qb,qh,List.length_dropLast];unfold big;simp;lia
            have hn2:(S.set n (.lst ((ps.dropLast++[(⟨p.lo,lo,p.to,to-p.fin⟩:Pc)]).map Pd)))[n]?=some (.lst ((ps.dropLast++[(⟨p.lo,lo,p.to,to-p.fin⟩:Pc)]).map Pd)):=qI hnl
            walk_at"g"
            refine ZM (fun g4=>?_) (fun g4=>?_)
            . rw[if_pos g4]at q
              have hc:=hmul (lo+1-lo)
              walk_at"g"
              refine ZM (fun g5=>?_) (fun g5=>?_)
              . rw[if_pos g5]at q
                walk_at"g"
                rw[List.set_set]
                refine fin_same ?_
                rw[qA]at q;exact q
              . rw[if_neg g5]at q
                walk_at"g"
                rw[List.set_set]
                refine fin_same ?_
                rw[qA]at q;exact q
            . rw[if_neg g4]at q
              walk_at"g"
              exact fin_same q
        . rw[if_neg (fun z=>g2 z.2),if_pos g]at q
          have hc:=hmul (lo-lo)
          walk_at"g"
          refine ZM (fun g4=>?_) (fun g4=>absurd g g4)
          walk_at"g"
          refine ZM (fun g5=>?_) (fun g5=>?_)
          . rw[if_pos g5]at q
            walk_at"g"
            refine fin_same ?_
            rw[qA]at q
            simpa using q
          . rw[if_neg g5]at q
            walk_at"g"
            refine fin_same ?_
            rw[qA]at q
            simpa using q
    . have:ps=[]:=RK.mp (by lia)
      subst this
      simp only[List.getLast?_nil]at q
      rw[if_pos g]at q
      have hc:=hmul (lo-lo)
      walk_at"g"
      refine ZM (fun g4=>?_) (fun g4=>absurd g g4)
      walk_at"g"
      refine ZM (fun g5=>?_) (fun g5=>?_)
      . rw[if_pos g5]at q
        walk_at"g"
        refine fin_same ?_
        simpa using q
      . rw[if_neg g5]at q
        walk_at"g"
        refine fin_same ?_
        simpa using q
  . walk_at"g"
    refine ZM (fun g4=>absurd g4 g) (fun g4=>?_)
    walk_at"g"
    refine fin_same ?_
    have e:S.set n (.lst (ps.map Pd))=S:=List.ext_getElem? fun i=>by
      by_cases hi:i=n
      . subst hi;rw[qI hnl,hn]
      . rw[qQ (Ne.symm hi)]
    cases hl:ps.getLast? with
    |none =>
      rw[hl]at q
      simp only[]at q
      rw[if_neg g]at q
      rw[PB]at hl
      subst hl
      rw[e]at q;exact q
    |some p =>
      rw[hl]at q
      simp only[]at q
      rw[if_neg (fun z=>g z.1),if_neg g,e]at q
      exact q
structure zoi (cs:List (Int×Int))(delay first:Int)(ps:List Pc):Prop where
  isR:ZX ps
  len:ps.length<=2*cs.length
  led:∀ h,at' ps h=if first<=h then(Xm cs h).map (· + delay)else none
def zcI:ZS:=fun ds S Q=>∃ (cs:List (Int×Int)) (delay first:Int),ds=[.tup (cs.map p2),.int delay,.int first]/\zft cs/\cs.length<=2000/\∀ ps,zoi cs delay first ps->Q (.tup (ps.map Pd)) S
structure zqQ (cs:List (Int×Int))(delay first:Int)(ps:List Pc)(hour:Int):Prop where
  isR:ZX ps
  ge:first<=hour
  beh:∀ c∈cs,c.2<hour
  led:∀ h,at' ps h=if first<=h/\h<hour then(Xm cs h).map (· + delay)else none
  full:∀ h,first<=h->h<hour->∃ v,Xm cs h=some v
  none:ps=[]->hour=first
  last:∀ p,ps.getLast?=some p->p.hi+1=hour/\∃ d∈cs,p.fin<=d.2+delay
def zrn {cs:List (Int×Int)}{c:Int×Int}{delay first hour:Int}{ps qs rs:List Pc}(I:zqQ cs delay first ps hour)(hc:c.1<=c.2)(hd':∀ d∈cs,d.2+2<=c.1)
  (h1:QZ ps hour (c.1-1) (c.1+delay) 0 qs) (h2:QZ qs (max hour c.1) c.2 (max hour c.1+delay) 1 rs):zqQ (cs++[c]) delay first rs (max hour (c.2+1)):=by
 have e1:Xm [c]=fun h=>if h<=c.2 then some (max h c.1)else none:=by funext h;rfl
 have nx:∀ h,hour<=h->Xm (cs++[c]) h=if h<=c.2 then some (max h c.1)else none:=fun h hh=>by
  rw[zd7,zfm fun d hd=>by have:=I.beh d hd;lia,e1];rfl
 have nl:∀ h,first<=h->h<hour->Xm (cs++[c]) h=Xm cs h:=fun h h1 h2=>by
  obtain⟨v,hv⟩:=I.full h h1 h2
  rw[zd7,hv];rfl
 have hge:=I.ge
 by_cases hh:hour<=c.2
 ·have em:max hour (c.2+1)=c.2+1:=by lia
  rw[em]
  refine⟨h2.isR,by lia,fun d hd=>?_,fun h=>?_,fun h a b=>?_,fun e=>?_,fun p hp=>?_⟩
  ·rcases qJ.mp hd with hd|hd
   ·have:=hd' d hd;lia
   ·have:d=c:=by simpa using hd
    subst this;lia
  ·rw[h2.led,h1.led,I.led]
   by_cases a1:h<hour
   ·rw[if_neg (by lia),if_neg (by lia)]
    by_cases a2:first<=h
    ·rw[if_pos ⟨a2,a1⟩,if_pos ⟨a2,by lia⟩,nl h a2 a1]
    ·rw[if_neg (by lia),if_neg (by lia)]
   ·by_cases a2:h<=c.2
    ·rw[if_pos ⟨by lia,by lia⟩ (c:=first<=h/\h<c.2+1),nx h (by lia),if_pos a2]
     by_cases a3:h<=c.1-1
     ·rw[if_neg (by lia),if_pos ⟨by lia,a3⟩]
      rw[qbf]
      congr 1
      show _=max h c.1+delay
      lia
     ·rw[if_pos ⟨by lia,a2⟩]
      rw[qbf]
      congr 1
      show _=max h c.1+delay
      lia
    ·rw[if_neg (by lia),if_neg (by lia),if_neg (by lia),if_neg (by lia)]
  ·by_cases a1:h<hour
   ·rw[nl h a a1];exact I.full h a a1
   ·rw[nx h (by lia),if_pos (by lia)];exact⟨_,rfl⟩
  ·obtain⟨q,hq,_⟩:=h2.last (by lia)
   rw[e]at hq;simp at hq
  ·obtain⟨q,hq,e2,e3⟩:=h2.last (by lia)
   rw[hp]at hq
   cases hq
   exact⟨by lia,c,by simp,by rw[e3];lia⟩
 ·have em:max hour (c.2+1)=hour:=by lia
  have q1:=h1.none (by lia)
  have q2:=h2.none (by lia)
  subst q2
  subst q1
  rw[em]
  refine⟨I.isR,I.ge,fun d hd=>?_,fun h=>?_,fun h a b=>?_,I.none,fun p hp=>?_⟩
  ·rcases qJ.mp hd with hd|hd
   ·exact I.beh d hd
   ·have:d=c:=by simpa using hd
    subst this;lia
  ·rw[I.led]
   by_cases a1:first<=h/\h<hour
   ·rw[if_pos a1,if_pos a1,nl h a1.1 a1.2]
   ·rw[if_neg a1,if_neg a1]
  ·rw[nl h a b];exact I.full h a b
  ·obtain⟨e,d,hd,f⟩:=I.last p hp
   exact⟨e,d,by simp[hd],f⟩
abbrev ziU:DS :=
    (zA (zH (Xx zF) Zd)
 (zA (zH ZQ YS)
 (zA (Y0 (Zj Z2) (Yq 2 (z9 Yl (z9 Wn Yr))) (zA (Zf (dCall RQ (zf ZP (zf Zz (zf (Z7 Zq Zt ZJ) (zf (Z7 Zy Zt Z1) (zf Zx zF)))))))
 (zA (zH (dB Ws (zf Zz ua5)) Uo)
 (zA (Zf (dCall RQ (zf ZP (zf Xi (zf Ye (zf (Z7 Zy Xi Z1) (zf ZJ zF)))))))
 (zH (dB Ws (zf Zz (zf (Z7 Zy Ye ZJ) zF))) YS)))))
 (zU (dB zfH Xr)))))
def zmm:BodyOk 8 ziU zcI:=by
 rintro ds S Q ⟨cs,delay,first,rfl,ok,hl,q⟩
 unfold ziU
 walk_at"g"
 refine YH (fun i ρ S'=>∃ ps hour w1 w2 w3,ρ=[some (.tup (cs.map p2)),some (.int delay),some (.int first),some (.ref S.length),some (.int hour),w1,w2,w3]/\S'=S++[.lst (ps.map Pd)]/\ps.length<=2*i/\zqQ (cs.take i) delay first ps hour)
  ⟨[],first,none,none,none,rfl,rfl,by simp,ZX.nil,qr _,by simp,fun h=>by rw[if_neg (by lia)];rfl,fun h a b=>by lia,fun _=>rfl,by simp⟩ (fun _ _ _ _=>True.intro) ?_ ?_
 ·rintro i d ρ S' hd ⟨ps,hour,w1,w2,w3,rfl,rfl,hpl,I⟩
  obtain⟨c,hc,rfl⟩:=S7 hd
  obtain⟨c1,c2⟩:=ok.mem hc
  have hi:i<cs.length:=by
   rcases qL i cs.length with g|g
   ·exact g
   ·rw[qv g]at hc;cases hc
  walk_at"g"
  refine⟨_,_,_,_,_,ps,rfl,Y4,I.isR,.inl rfl,by lia,?_,fun qs hq=>?_⟩
  ·intro z p hp
   obtain⟨e,d,hd,f⟩:=I.last p hp
   have:=c2 d hd
   exact⟨e,by lia⟩
  rw[VP]
  walk_at"g"
  refine⟨_,_,_,_,_,qs,rfl,Y4,hq.isR,.inr rfl,by have:=hq.len;lia,?_,fun rs hr=>?_⟩
  ·intro z p hp
   by_cases a:hour<=c.1-1
   ·obtain⟨r,er,e1,e2⟩:=hq.last a
    rw[hp]at er
    cases er
    exact⟨by lia,by rw[e2];lia⟩
   ·rw[hq.none (by lia)]at hp
    obtain⟨e,d,hd,f⟩:=I.last p hp
    have:=c2 d hd
    exact⟨by lia,by lia⟩
  rw[VP]
  walk_at"g"
  refine⟨rs,_,_,_,_,rfl,rfl,by have:=hq.len;have:=hr.len;lia,?_⟩
  rw[VG hc]
  exact zrn I c1 c2 hq hr
 ·rintro ρ S' ⟨ps,hour,w1,w2,w3,rfl,rfl,hpl,I⟩
  rw[qb]at hpl I
  rw[T6]at I
  walk_at"g"
  refine Xw (Pn ps) (q ps ⟨I.isR,hpl,fun h=>?_⟩)
  rw[I.led]
  by_cases a:first<=h
  ·rw[if_pos a]
   by_cases b:h<hour
   ·rw[if_pos ⟨a,b⟩]
   ·rw[if_neg (by lia),zfm fun d hd=>by have:=I.beh d hd;lia];rfl
  ·rw[if_neg (by lia),if_neg a]
def T3 (V:Vl)(Z6:List (List (Sum Int Str)×D))(k j:Nat):Prop:=∀ b c,V.bs[k]?=some b->V.bs[j]?=some c->∃ ms ps,QJ V b.1 c.1 b.2 c.2 ms/\zoi ms V.dl V.h0 ps/\dval Z6 [.inr b.1,.inr c.1]=some (.tup (ps.map Pd))
def T3.put {V:Vl}(ok:YF V){Z6:List (List (Sum Int Str)×D)}{b c:Str×(Int×Int)}(mb:b∈V.bs)(mc:c∈V.bs){ms:List (Int×Int)}{ps:List Pc}(hm:QJ V b.1 c.1 b.2 c.2 ms)(hp:zoi ms V.dl V.h0 ps){k j:Nat}(h:T3 V Z6 k j\/(V.bs[k]?=some b/\V.bs[j]?=some c)):T3 V (dput Z6 [.inr b.1,.inr c.1] (.tup (ps.map Pd))) k j:=fun b' c' hb hc=>by
 rw[zie]
 by_cases e:b.1=b'.1/\c.1=c'.1
 ·have e1:=zfA ok mb (qe hb) e.1
  have e2:=zfA ok mc (qe hc) e.2
  subst e1 e2
  exact⟨ms,ps,hm,hp,by rw[if_pos rfl]⟩
 ·rcases h with h|⟨h1,h2⟩
  ·obtain⟨ms',ps',h1,h2,h3⟩:=h b' c' hb hc
   refine⟨ms',ps',h1,h2,?_⟩
   rw[if_neg (fun e'=>e ?_)]
   ·exact h3
   ·have e1:=(List.cons.inj e').1
    have e2:=(List.cons.inj (List.cons.inj e').2).1
    exact⟨Sum.inr.inj e1,Sum.inr.inj e2⟩
  ·rw[h1]at hb;rw[h2]at hc
   cases hb;cases hc
   exact absurd ⟨rfl,rfl⟩ e
theorem zmX:∀ {ms:List (Int×Int)},Zo ms->zft ms
 |[],_=>True.intro
 |c::r,h=>⟨h.le c (qg.mpr (.inl rfl)),fun d hd=>(qM.mp h.ap).1 d hd,zmX ⟨fun c hc=>h.le c (qg.mpr (.inr hc)),(qM.mp h.ap).2⟩⟩
def zpw (S:Z5)(x:D)(V:Vl):Prop:=∃ n Z6,x=.ref n/\S[n]?=some (.dt Z6)/\∀ k j,k<V.bs.length->j<V.bs.length->T3 V Z6 k j
def zdE:ZS:=fun ds S Q=>∃ (v:D) (V:Vl),ds=[v]/\X7 S v V/\YF V/\∀ (T:Z5) (x:D),zpw (S++T) x V->Q x (S++T)
abbrev ziB:DS :=
    (zA (zH (zoh) Wt)
 (zA (Y0 (Zj (dCall RN Zb)) Yv (Y0 (Zj (dCall RN Zb)) Zd (O7 Z1 (dTup (zf ZQ Xr)) (dCall zcI (zf (Wm zeC xF (zf Z2 (zf ZQ Xr))) (zf (YQ "delay" Z2) (zf (YQ "first" Z2) zF)))))))
 (zU Z1)))
def zms:BodyOk 4 ziB zdE:=by
 rintro ds S Q ⟨v,V,rfl,hv,ok,q⟩
 unfold ziB
 have b12:=ok.b12
 obtain⟨m,g,b',f,rfl,hm,_⟩:=id hv
 have vo:∀ T,X7 (S++T) (.ref m) V:=fun T=>hv.old
 have hmT:∀ T,(S++T)[m]?=some (.ins "Valley" (vF (.ref g) (.ref b') (.ref f) (YB V.hz) (.int V.h0) (.int V.h1) (.int V.dl))):=fun T=>Xq hm
 have fl1:∀ b∈V.bs,fl 20 (.str b.1)=true:=fun b hb=>Qz (ok.nm b hb) 20
 walk_at"g"
 refine⟨_,V,rfl,vo _,by lia,?_⟩
 unfold New
 rw[qu]
 obtain⟨nl,hnl⟩:∃ nl,nl=(V.bs.map (·.1)).map D.str:=⟨_,rfl⟩
 have lnl:nl.length=V.bs.length:=by rw[hnl,qb,qb]
 have gnl:∀ {i:Nat} {d:D},nl[i]?=some d->∃ b,V.bs[i]?=some b/\d=.str b.1:=fun {i d} h=>by
  rw[hnl,qj,qj]at h
  cases e:V.bs[i]? with
  |none=>rw[e]at h;cases h
  |some b=>rw[e]at h;exact⟨b,rfl,(qw h).symm⟩
 rw[<- hnl]
 have k1:∀ Z6 G,Lst (S++Cell.dt Z6::Cell.lst nl::G) (.ref (S.length+1)) nl:=fun Z6 G=>Lst.at (k:=1) rfl
 have k10:Lst (S++([Cell.dt []]++[Cell.lst nl])) (.ref (S++[Cell.dt []]).length) nl:=by
  rw[show(S++[Cell.dt []]).length=S.length+1 by simp];exact k1 _ _
 walk_at"g"
 rw[show(S++[Cell.dt []]).length=S.length+1 by simp]
 refine YH (fun i ρ S'=>∃ (Z6:List (List (Sum Int Str)×D)) (G:Z5) (w2 w3:Option D),S'=S++Cell.dt Z6::Cell.lst nl::G/\Z6.length<=i*12/\(∀ k j,k<i->j<V.bs.length->T3 V Z6 k j)/\ρ=[some (.ref m),some (.ref S.length),w2,w3]) ⟨[],[],_,_,rfl,qP _,fun k j h=>absurd h (qbj _),rfl⟩ (fun i ρ S' zq11=>by obtain⟨_,_,_,_,e,_⟩:=zq11;exact e▸k1 _ _) ?_ ?_
 ·rintro i d ρ S' hd ⟨Z6,G,w2,w3,rfl,hl,hk,rfl⟩
  have li:i<V.bs.length:=by rw[<- lnl];exact zV hd
  obtain⟨b,hb,rfl⟩:=gnl hd
  have mb:=qe hb
  walk_at"g"
  refine⟨_,V,rfl,vo _,by lia,?_⟩
  unfold New
  rw[<- hnl,qu]
  have k2:∀ Z6 H,Lst (S++Cell.dt Z6::Cell.lst nl::(G++Cell.lst nl::H)) (.ref (S++Cell.dt Z6::Cell.lst nl::G).length) nl:=fun Z6 H=>by
   have e:S++Cell.dt Z6::Cell.lst nl::(G++Cell.lst nl::H)=(S++Cell.dt Z6::Cell.lst nl::G)++Cell.lst nl::H:=by simp
   rw[e];exact Lst.at0
  have lk:∀ kvs',(S++Cell.dt kvs'::Cell.lst nl::G).length=(S++Cell.dt Z6::Cell.lst nl::G).length:=fun kvs'=>by simp
  have k20:=k2 Z6 []
  generalize (S++Cell.dt Z6::Cell.lst nl::G).length=nm at k20 lk
  walk_at"g"
  refine YH (fun j ρ S'=>∃ (Z6:List (List (Sum Int Str)×D)) (H:Z5) (w3:Option D),S'=S++Cell.dt Z6::Cell.lst nl::(G++Cell.lst nl::H)/\Z6.length<=i*12+j/\(∀ k a,a<V.bs.length->k<i\/(k=i/\a<j)->T3 V Z6 k a)/\ρ=[some (.ref m),some (.ref S.length),some (.str b.1),w3]) ⟨Z6,[],_,rfl,by lia,fun k a ha h=>hk k a (by lia) ha,rfl⟩ (fun j ρ S' zq12=>by obtain⟨kvs',H,_,e,_⟩:=zq12;exact e▸(lk kvs'▸k2 kvs' H)) ?_ ?_
  ·rintro j d ρ S' hdj ⟨kvs',H,w3,rfl,hl',hk',rfl⟩
   have lj:j<V.bs.length:=by rw[<- lnl];exact zV hdj
   obtain⟨c,hc,rfl⟩:=gnl hdj
   have mc:=qe hc
   have hV:=hmT (Cell.dt kvs'::Cell.lst nl::(G++Cell.lst nl::H))
   walk_at"g"
   refine⟨_,V,b.1,c.1,rfl,vo _,ok,fl1 b mb,fl1 c mc,fun no=>?_,fun s t hs ht ms hms=>?_⟩
   ·rcases no with no|no
    ·exact(no b mb rfl).elim
    ·exact(no c mc rfl).elim
   have es:s=b.2:=congrArg Prod.snd (zfA ok hs mb rfl)
   have et:t=c.2:=congrArg Prod.snd (zfA ok ht mc rfl)
   subst es et
   walk_at"g"
   refine⟨ms,_,_,rfl,zmX hms.ok,by have:=hms.len;lia,fun ps hps=>?_⟩
   walk_at"g"
   have i12:i*12<=144:=by lia
   refine Uk.t (ks:=[.inr b.1,.inr c.1]) Y4 (by unfold big;lia) (zfu ?_)
   refine⟨_,H,_,rfl,by have:=zil kvs' [.inr b.1,.inr c.1] (.tup (ps.map Pd));lia,fun k a ha h=>?_,rfl⟩
   refine T3.put ok mb mc hms hps ?_
   by_cases e:k=i/\a=j
   ·obtain⟨rfl,rfl⟩:=e
    exact .inr ⟨hb,hc⟩
   ·exact .inl (hk' k a ha (by lia))
  ·rintro ρ S' ⟨kvs',H,w3,rfl,hl',hk',rfl⟩
   rw[lnl]at hl' hk'
   exact⟨kvs',_,_,_,rfl,by lia,fun k a h1 h2=>hk' k a h2 (by lia),rfl⟩
 ·rintro ρ S' ⟨Z6,G,w2,w3,rfl,hl,hk,rfl⟩
  rw[lnl]at hk
  walk_at"g"
  exact fin_same (q _ _ ⟨_,Z6,rfl,Y4,hk⟩)
def O4 (f l h:Int):Option Int:=if f<=h/\h<=l then some h else none
def zei:ZS:=fun ds S Q=>∃ (f l:Int),ds=[.int f,.int l]/\∀ ps,ZX ps->(∀ h,at' ps h=O4 f l h)->ps.length<=2->Q (.tup (ps.map Pd)) S
abbrev zkB:DS :=
    (zA (ZC (dT (Z7 Xj Z2 Z1)) (zU (dTup zF)) Zv)
 (zU (dCall zcI (zf (dTup (zf (dTup (zf Z2 Ys)) zF)) (zf Zx Zb)))))
def zov:BodyOk 2 zkB zei:=by
  rintro ds S Q ⟨f,l,rfl,k⟩
  unfold zkB
  walk_at"g"
  refine ZM (fun g=>?_) (fun g=>?_)
  . walk_at"g"
    refine fin_same (k [] ZX.nil (fun h=>?_) (by simp))
    unfold O4
    rw[if_neg (by lia)];rfl
  walk_at"g"
  refine⟨[(f,l)],0,f,rfl,⟨by show f<=l;lia,by simp,trivial⟩,by simp,fun ps ok=>fin_same (k ps ok.isR (fun h=>?_) ok.len)⟩
  rw[ok.led]
  unfold O4
  by_cases c:f<=h
  . rw[if_pos c]
    show(if h<=l then some (max h f)else none).map (· + 0)=_
    by_cases c2:h<=l
    . rw[if_pos c2,if_pos ⟨c,c2⟩]
      show some (max h f+0)=some h
      congr 1;lia
    . rw[if_neg c2,if_neg (fun z=>c2 z.2)];rfl
  . rw[if_neg c,if_neg (fun z=>c z.1)]
def pStart (p f:Pc):Int:=max p.to f.lo
def pEnd (p f:Pc):Int:=min p.fin f.hi
def WK (p f:Pc):Int:=if pStart p f<=pEnd p f then(if p.st=0 then p.lo else pStart p f+(p.lo-p.to))else 1
def U4 (p f:Pc):Int:=if pStart p f<=pEnd p f then(if p.st=0 then p.hi else pEnd p f+(p.lo-p.to))else 0
def pSt (p f:Pc):Int:=if p.st=0 then 0 else f.st
def zcN:ZS:=fun ds S Q=>∃ (n:Nat) (p f:Pc) (ps:List Pc),ds=[.ref n,Pd p,Pd f]/\S[n]?=some (.lst (ps.map Pd))/\ZX ps/\Good p/\Good f/\ps.length<=9000 /\
 (WK p f<=U4 p f->∀ r,ps.getLast?=some r->r.hi+1=WK p f/\r.fin<=f.led (pStart p f))/\∀ qs,QZ ps (WK p f) (U4 p f) (f.led (pStart p f)) (pSt p f) qs->Q .non (S.set n (.lst (qs.map Pd)))
abbrev zgO:DS :=
    (zA (zH (dB Ws (zf zsw (zf Ru zF))) Zd)
 (zA (zH (dB Uh (zf (dCall zdZ Ys) (zf TV zF))) YS)
 (ZC (Vk (dT (Z7 oLe ZP Zz)) (dT (Z7 oEq zkP Zx))) (Zf (dCall RQ (zf Z2 (zf Vt (zf UJ (zf (dCall Vj (zf ZQ Xr)) (zf Zx zF))))))) (ZC (dT (Z7 oLe ZP Zz)) (zA (zH (Z7 Zq Vt zsw) Yl)
 (Zf (dCall RQ (zf Z2 (zf (Z7 Zy ZP Zt) (zf (Z7 Zy Zz Zt) (zf (dCall Vj (zf ZQ Xr)) (zf znR zF)))))))) Zv))))
def zkJ:BodyOk 6 zgO zcN:=by
 rintro ds S Q ⟨n,p,f,ps,rfl,hn,hr,gp,gf,hl,hp,q⟩
 unfold zgO
 walk_at"g"
 refine⟨p,rfl,gp.st,?_⟩
 walk_at"g"
 refine ZM (fun g=>?_) (fun g=>?_)
 ·have g':pStart p f<=pEnd p f:=g
  unfold WK U4 at hp q
  rw[if_pos g',if_pos g']at hp q
  unfold pSt at q
  walk_at"g"
  refine ZM (fun g1=>?_) (fun g1=>?_)
  ·rw[if_pos g1,if_pos g1]at hp
   rw[if_pos g1,if_pos g1,if_pos g1]at q
   walk_at"g"
   refine⟨f,_,rfl,gf.st,?_⟩
   walk_at"g"
   exact⟨_,_,_,_,_,ps,rfl,hn,hr,.inl rfl,by lia,hp,fun qs hq=>fin_same (q qs hq)⟩
  ·rw[if_neg g1,if_neg g1]at hp
   rw[if_neg g1,if_neg g1,if_neg g1]at q
   walk_at"g"
   refine ZM (fun g2=>?_) (fun g2=>absurd g g2)
   walk_at"g"
   refine⟨f,_,rfl,gf.st,?_⟩
   walk_at"g"
   exact⟨_,_,_,_,_,ps,rfl,hn,hr,gf.st,by lia,hp,fun qs hq=>fin_same (q qs hq)⟩
 ·have g':¬ pStart p f<=pEnd p f:=g
  walk_at"g"
  refine ZM (fun g2=>absurd g2 g) (fun g2=>?_)
  walk_at"g"
  refine fin_same ?_
  have:=q ps ?_
  ·rw[set_same hn]at this;exact this
  ·unfold WK U4
   rw[if_neg g',if_neg g']
   exact⟨hr,fun h=>by rw[if_neg (by lia)],fun z=>by lia,fun _=>rfl,by lia,fun p hp=>⟨p,hp,rfl,rfl⟩,fun _ z=>by lia⟩
def comp (ps qs:List Pc)(h:Int):Option Int:=(at' ps h).bind (at' qs)
def zpg {ps qs:List Pc}(hp:ZX ps)(hq:ZX qs):zhj (comp ps qs):=fun a b x y ha hb hab=>by
 unfold comp at ha hb
 cases h1:at' ps a with
 |none=>rw[h1]at ha;cases ha
 |some u =>
  cases h2:at' ps b with
  |none=>rw[h2]at hb;cases hb
  |some v =>
   rw[h1]at ha
   rw[h2]at hb
   exact Us hq ha hb (Us hp h1 h2 hab)
def ze2:ZS:=fun ds S Q=>∃ (ps qs:List Pc),ds=[.tup (ps.map Pd),.tup (qs.map Pd)]/\ZX ps/\ZX qs/\ps.length<=80/\qs.length<=80/\(∀ p∈ps.head?,∀ q∈qs.head?,q.lo<=p.to) /\
 ∀ rs,ZX rs->(∀ h,at' rs h=comp ps qs h)->rs.length<=ps.length*qs.length->Q (.tup (rs.map Pd)) S
def cutAt (p:Pc)(b:Int):Int:=if b<=p.to then p.lo else if p.fin<b then p.hi+1 else b+(p.lo-p.to)
def zto {ps qs:List Pc}(hp:ZX ps)(hq:ZX qs){i j:Nat}{p f:Pc}(ep:ps[i]?=some p)(ef:qs[j]?=some f) :
    (WK p f<=U4 p f->WK p f=cutAt p f.lo)/\(∀ x,WK p f<=x->x<=U4 p f->comp ps qs x=some (f.led (pStart p f)+pSt p f*(x-WK p f))) /\
    (if WK p f<=U4 p f then U4 p f+1 else cutAt p f.lo)=cutAt p (f.hi+1):=by
  have gp:=hp.good p (qe ep)
  have gf:=hq.good f (qe ef)
  have l1:=gp.le
  have l2:=gf.le
  have l3:=zlO gp
  unfold WK U4 pSt pStart pEnd cutAt
  by_cases hs:max p.to f.lo<=min p.fin f.hi
  . rw[if_pos hs,if_pos hs]
    rcases gp.st with e|e
    . have ff:=zmU e
      rw[if_pos e,if_pos e,if_pos e]
      refine⟨fun _=>by rw[if_pos (by lia)],fun x h1 h2=>?_,?_⟩
      . unfold comp
        rw[Xa hp ep ⟨h1,h2⟩,zhA e]
        show at' qs p.to=_
        rw[Xa hq ef ⟨by lia,by lia⟩,show max p.to f.lo=p.to by lia];simp
      . rw[if_pos l1];(repeat' split)<;>lia
    . have ff:=znc e
      have ne:¬ p.st=0:=by lia
      rw[if_neg ne,if_neg ne,if_neg ne]
      refine⟨fun _=>by (repeat' split)<;>lia,fun x h1 h2=>?_,?_⟩
      . unfold comp
        rw[Xa hp ep ⟨by lia,by lia⟩,zhB e]
        show at' qs (p.to+(x-p.lo))=_
        rw[Xa hq ef ⟨by lia,by lia⟩]
        congr 1
        unfold Pc.led
        rw[TJ gf.st,TJ gf.st,TJ gf.st]
        split<;>lia
      . (repeat' split)<;>lia
  . rw[if_neg hs,if_neg hs]
    refine⟨fun z=>by lia,fun x h1 h2=>by lia,?_⟩
    rw[if_neg (by lia)]
    (repeat' split)<;>lia
structure zyG (ps qs:List Pc)(a n:Int)(i:Nat)(found:List Pc):Prop where
 pre:Pre (comp ps qs) a n found
 on:n=XH ps i\/((∀ h,n<=h->comp ps qs h=none)/\(qs≠[]->∀ k p,i<=k->ps[k]?=some p->endOf qs<=p.to))
def zql {ps qs:List Pc}(hp:ZX ps)(hq:ZX qs){i:Nat}{p:Pc}(ep:ps[i]?=some p)(h:Int)(h1:p.lo<=h)(h2:h<=p.hi->endOf qs<=p.led h)(h3:endOf qs<=p.fin):comp ps qs h=none:=by
 unfold comp
 cases hv:at' ps h with
 |none=>rfl
 |some v =>
  refine zfL hq ?_
  by_cases hh:h<=p.hi
  ·rw[Xa hp ep ⟨h1,hh⟩]at hv
   cases hv
   exact h2 hh
  ·have gp:=(hp.good p (qe ep)).le
   have e1:=Xa hp ep (h:=p.hi) ⟨gp,qr _⟩
   have:=Us hp e1 hv (by lia)
   unfold Pc.fin at h3
   lia
abbrev zla:DS :=
    (zA (zH (Xx zF) Yv)
 (zA (Y0 (Zj Z2) Zd (Y0 (Zj Z1) YS (Zf (dCall zcN (zf ZQ (zf ZP U0))))))
 (zU (dB zfH Yy))))
def zqn:BodyOk 5 zla ze2:=by
  rintro ds S Q ⟨ps,qs,rfl,hp,hq,hpl,hql,hh,q⟩
  unfold zla
  walk_at"g"
  have mono:=zpg hp hq
  refine YH (fun i ρ S'=>∃ found n w1 w2,ρ=[some (.tup (ps.map Pd)),some (.tup (qs.map Pd)),some (.ref S.length),w1,w2]/\S'=S++[.lst (found.map Pd)]/\zyG ps qs (XH ps 0) n i found/\found.length<=i*qs.length)
    ⟨[],XH ps 0,none,none,rfl,rfl,⟨Pre.start _ _,.inl rfl⟩,by simp⟩ (fun _ _ _ _=>True.intro) ?_ ?_
  . rintro i d ρ S' hd ⟨found,n,w1,w2,rfl,rfl,I,hfl⟩
    obtain⟨p,ep,rfl⟩:=get_map hd
    have hi:=zV ep
    have gp:=hp.good p (qe ep)
    obtain⟨el1,el2⟩:=zg7 hp ep
    have hb:i*qs.length<=6400:=by
      have:=qbp (show i<=80 by lia) hql
      lia
    walk_at"g"
    refine YH (fun j ρ S'=>∃ found n w2,ρ=[some (.tup (ps.map Pd)),some (.tup (qs.map Pd)),some (.ref S.length),some (Pd p),w2]/\S'=S++[.lst (found.map Pd)]/\Pre (comp ps qs) (XH ps 0) n found /\
      (n=cutAt p (XH qs j)\/((∀ h,n<=h->comp ps qs h=none)/\(qs≠[]->∀ k p,i<=k->ps[k]?=some p->endOf qs<=p.to)))/\found.length<=i*qs.length+j)
      ⟨found,n,_,rfl,rfl,I.pre,?_,by lia⟩ (fun _ _ _ _=>True.intro) ?_ ?_
    . rcases I.on with e|e
      . cases hq0:qs[0]? with
        |none =>
          right
          have:qs=[]:=by cases qs with|nil=>rfl|cons a b=>simp at hq0
          subst this
          refine⟨fun h _=>?_,fun z=>absurd rfl z⟩
          unfold comp;cases at' ps h<;>rfl
        |some f =>
          left
          rw[e,el1]
          have:XH qs 0<=p.to:=by
            unfold XH
            rw[hq0]
            have h0:∃ p0,ps[0]?=some p0:=⟨ps[0]'(by lia),qc _⟩
            obtain⟨p0,e0⟩:=h0
            have:=hh p0 (by rw[qaI];exact e0) f (by rw[qaI];exact hq0)
            have a1:=Xa hp e0 (h:=p0.lo) ⟨qr _,(hp.good p0 (qe e0)).le⟩
            have a2:=Xa hp ep (h:=p.lo) ⟨qr _,gp.le⟩
            rw[zgS]at a1 a2
            have hlo:p0.lo<=p.lo:=by
              cases ps with
              |nil=>simp at e0
              |cons x r =>
                have ex:x=p0:=by simpa using e0
                subst ex
                exact(Sw hp a2).2
            have:=Us hp a1 a2 hlo
            show f.lo<=p.to
            lia
          unfold cutAt
          rw[if_pos this]
      . exact .inr e
    . rintro j d ρ S' hd ⟨found,n,w2,rfl,rfl,pre,on,hfl⟩
      obtain⟨f,ef,rfl⟩:=get_map hd
      have hj:=zV ef
      have gf:=hq.good f (qe ef)
      obtain⟨fl1,fl2⟩:=zg7 hq ef
      obtain⟨s1,s2,s3⟩:=zto hp hq ep ef
      have hlo:WK p f<=U4 p f->WK p f=n:=fun z=>by
        rcases on with e|⟨e1,e2⟩
        . rw[s1 z,e,fl1]
        . exfalso
          have h1:=e2 (by intro z;rw[z]at ef;simp at ef) i p (qf _) ep
          have h2:f.hi<endOf qs:=by
            rcases Qn f.hi (endOf qs)with g|g
            . exact g
            . have:=zfL hq g
              rw[Xa hq ef ⟨gf.le,qr _⟩]at this;cases this
          have h3:¬ pStart p f<=pEnd p f:=by unfold pStart pEnd;lia
          unfold WK U4 at z
          rw[if_neg h3,if_neg h3]at z
          lia
      walk_at"g"
      refine⟨_,p,f,found,rfl,Y4,pre.isR,gp,gf,by lia,pre.need mono hlo s2,fun rs hr=>?_⟩
      rw[VP]
      walk_at"g"
      refine⟨rs,_,_,rfl,rfl,pre.put hlo s2 hr,?_,by have:=hr.len;lia⟩
      rcases on with e|⟨e1,e2⟩
      . left
        rw[fl2,<- s3,e,fl1]
      . right
        rw[if_neg]
        . exact⟨e1,e2⟩
        . intro z
          have:=hlo z
          have hc:=s2 (WK p f) (qr _) z
          rw[e1 _ (by lia)]at hc;cases hc
    . rintro ρ S' ⟨found,n,w2,rfl,rfl,pre,on,hfl⟩
      rw[qb]at on hfl
      refine⟨found,n,_,_,rfl,rfl,⟨pre,?_⟩,by rw[Nat.succ_mul];exact hfl⟩
      rcases on with e|⟨e1,e2⟩
      . have eq:XH qs qs.length=endOf qs:=by unfold XH;rw[qv (qf _)]
        rw[eq]at e
        rw[el2]
        by_cases hf:p.fin<endOf qs
        . left
          rw[e]
          unfold cutAt
          have:=zlO gp
          rw[if_neg (by lia),if_pos hf]
        . right
          have hn1:p.lo<=n:=by
            rw[e];unfold cutAt
            have:=gp.le
            (repeat' split)<;>lia
          refine⟨fun h hh'=>zql hp hq ep h (by lia) (fun hle=>?_) (by lia),fun _ k p' hk ek=>?_⟩
          . rcases gp.st with z|z
            . rw[zhA z]
              have:=zmU z
              lia
            . rw[zhB z]
              have:=znc z
              unfold cutAt at e
              (repeat' split at e)<;>lia
          . have gp':=hp.good p' (qe ek)
            have a1:=Xa hp ep (h:=p.hi) ⟨gp.le,qr _⟩
            have a2:=Xa hp ek (h:=p'.lo) ⟨qr _,gp'.le⟩
            rw[zgS]at a2
            have hlt:p.hi<=p'.lo:=Pk (apart hp (by lia) ep ek)
            have:=Us hp a1 a2 hlt
            unfold Pc.fin at hf
            lia
      . exact .inr ⟨e1,fun z k p hk ek=>e2 z k p (by lia) ek⟩
  . rintro ρ S' ⟨found,n,w1,w2,rfl,rfl,I,hfl⟩
    rw[qb]at I hfl
    walk_at"g"
    refine Xw (Pn found) (q found I.pre.isR (fun h=>I.pre.done ?_ ?_ h) hfl)
    . intro x hx
      unfold comp
      rw[zeM]
      . rfl
      . intro q hq'
        have hl:0<ps.length:=List.length_pos_of_mem hq'
        have h0:ps[0]?=some (ps[0]'hl):=qc _
        have:=lo_le hp h0 hq'
        have e:XH ps 0=(ps[0]'hl).lo:=by unfold XH;rw[h0]
        lia
    . intro x hx
      rcases I.on with e|⟨e1,e2⟩
      . have eq:XH ps ps.length=endOf ps:=by unfold XH;rw[qv (qf _)]
        unfold comp
        rw[zfL hp (by lia)];rfl
      . exact e1 x hx
def Sg:ZS:=fun ds S Q=>∃ (n:Nat) (p:Pc) (lo hi:Int) (f:Int->Option Int) (a:Int) (ps:List Pc),ds=[.ref n,Pd p,.int lo,.int hi]/\S[n]?=some (.lst (ps.map Pd))/\(p.st=0\/p.st=1)/\ps.length<=9000 /\
 zhj f/\Pre f a lo ps/\lo<=hi+1/\(∀ x,lo<=x->x<=hi->f x=some (p.led x))/\∀ qs,Pre f a (hi+1) qs->qs.length<=ps.length+1->Q .non (S.set n (.lst (qs.map Pd)))
abbrev zj6:DS :=
  (Zf (dCall RQ (zf Z2 (zf ZQ (zf ZP (zf (dCall Vj (zf Z1 Yy)) (zf zkP zF)))))))
def zoe:BodyOk 4 zj6 Sg:=by
  rintro ds S Q ⟨n,p,lo,hi,f,a,ps,rfl,hn,hst,hl,mono,pre,hlh,hf,q⟩
  unfold zj6
  have hf2:∀ x,lo<=x->x<=hi->f x=some (p.led lo+p.st*(x-lo)):=fun x h1 h2=>by
    rw[hf x h1 h2,U7 hst,U7 hst]
    rcases hst with e|e<;>rw[e]<;>simp<;>lia
  walk_at"g"
  refine⟨p,_,rfl,hst,?_⟩
  walk_at"g"
  refine⟨_,_,_,_,_,ps,rfl,hn,pre.isR,hst,by lia,pre.need mono (fun _=>rfl) hf2,fun qs hq=>fin_same (q qs ?_ hq.len)⟩
  have:=pre.put (fun _=>rfl) hf2 hq
  by_cases c:lo<=hi
  . rw[if_pos c]at this;exact this
  . rw[if_neg c]at this
    rw[show hi+1=lo by lia];exact this
def zbL:ZS:=fun ds S Q=>∃ (n:Nat) (p r:Pc) (lo hi:Int) (f:Int->Option Int) (a:Int) (ps:List Pc),ds=[.ref n,Pd p,Pd r,.int lo,.int hi]/\S[n]?=some (.lst (ps.map Pd))/\p.st=1/\r.st=0/\ps.length<=8000 /\
 zhj f/\Pre f a lo ps/\lo<=hi+1/\(∀ x,lo<=x->x<=hi->f x=some (min (p.led x) (r.led x)))/\∀ qs,Pre f a (hi+1) qs->qs.length<=ps.length+2->Q .non (S.set n (.lst (qs.map Pd)))
abbrev zfB:DS :=
    (zA (zH (Z7 Zq (dCall Vj (zf ZQ Xr)) (dCall Vj (zf Z1 Xr))) Yl)
 (zA (zH (dB Uh (zf Zz (zf (Z7 Zy ZP (dB Ws (zf Zt (zf (Yp Yo ZJ) zF)))) zF))) Wn)
 (zA (Zf (dCall Sg (zf Z2 (zf Z1 (zf ZP Rt)))))
 (Zf (dCall Sg (zf Z2 (zf ZQ (zf (Z7 Zy Ye ZJ) U0))))))))
def zi0:BodyOk 7 zfB zbL:=by
 rintro ds S Q ⟨n,p,r,lo,hi,f,a,ps,rfl,hn,hp,hr,hl,mono,pre,hlh,hf,q⟩
 unfold zfB
 walk_at"g"
 refine⟨r,_,rfl,.inl hr,?_⟩
 walk_at"g"
 refine⟨p,_,rfl,.inr hp,?_⟩
 walk_at"g"
 refine⟨n,p,_,_,f,a,ps,rfl,hn,.inr hp,by lia,mono,pre,by lia,fun x h1 h2=>?_,fun qs hq ql=>?_⟩
 ·rw[hf x h1 (by lia)]
  rw[zhB hp,zhA hr]at *
  congr 1
  lia
 walk_at"g"
 refine⟨n,r,_,_,f,a,qs,rfl,?_,.inl hr,by lia,mono,hq,by lia,fun x h1 h2=>?_,fun rs hrs rl=>fin_same ?_⟩
 ·rw[qI];exact zV hn
 ·rw[hf x (by lia) h2]
  rw[zhB hp,zhA hr]at *
  congr 1
  lia
 ·rw[List.set_set]
  exact q rs hrs (by lia)
def zcQ:ZS:=fun ds S Q=>∃ (n:Nat) (p r:Pc) (lo hi:Int) (f:Int->Option Int) (a:Int) (ps:List Pc),ds=[.ref n,Pd p,Pd r,.int lo,.int hi]/\S[n]?=some (.lst (ps.map Pd))/\(p.st=0\/p.st=1)/\(r.st=0\/r.st=1)/\ps.length<=8000 /\
 zhj f/\Pre f a lo ps/\lo<=hi+1/\(∀ x,lo<=x->x<=hi->f x=some (min (p.led x) (r.led x)))/\∀ qs,Pre f a (hi+1) qs->qs.length<=ps.length+2->Q .non (S.set n (.lst (qs.map Pd)))
def zng {p r:Pc}(hp:p.st=0\/p.st=1)(e:p.st=r.st)(x y:Int):p.led x-r.led x=p.led y-r.led y:=by
  unfold Pc.led
  rw[<- e]
  rcases hp with e|e<;>rw[e]<;>simp<;>lia
abbrev zgT:DS :=
  (ZC (dT (Z7 Xj zkP znR)) (Zf (dCall zbL (zf Z2 (zf Z1 (zf ZQ (zf ZP U0)))))) (ZC (dT (Z7 oLt zkP znR)) (Zf (dCall zbL (zf Z2 (zf ZQ (zf Z1 (zf ZP U0)))))) (ZC (dT (Z7 oLt (dCall Vj (zf Z1 Xr)) (dCall Vj (zf ZQ Xr)))) (Zf (dCall Sg (zf Z2 (zf Z1 (zf ZP U0))))) (Zf (dCall Sg (zf Z2 (zf ZQ (zf ZP U0))))))))
def zkF:BodyOk 5 zgT zcQ:=by
 rintro ds S Q ⟨n,p,r,lo,hi,f,a,ps,rfl,hn,hp,hr,hl,mono,pre,hlh,hf,q⟩
 unfold zgT
 walk_at"g"
 refine ZM (fun g=>?_) (fun g=>?_)
 ·walk_at"g"
  exact⟨n,p,r,_,_,f,a,ps,rfl,hn,by lia,by lia,hl,mono,pre,hlh,hf,fun qs h1 h2=>fin_same (q qs h1 h2)⟩
 walk_at"g"
 refine ZM (fun g2=>?_) (fun g2=>?_)
 ·walk_at"g"
  exact⟨n,r,p,_,_,f,a,ps,rfl,hn,by lia,by lia,hl,mono,pre,hlh,fun x h1 h2=>by rw[hf x h1 h2,Int.min_comm],fun qs h1 h2=>fin_same (q qs h1 h2)⟩
 have e:p.st=r.st:=by lia
 walk_at"g"
 refine⟨p,_,rfl,hp,?_⟩
 walk_at"g"
 refine⟨r,_,rfl,hr,?_⟩
 walk_at"g"
 refine ZM (fun g3=>?_) (fun g3=>?_)
 ·walk_at"g"
  refine⟨n,p,_,_,f,a,ps,rfl,hn,hp,by lia,mono,pre,hlh,fun x h1 h2=>?_,fun qs h1 h2=>fin_same (q qs h1 (by lia))⟩
  rw[hf x h1 h2]
  have:=zng hp e x lo
  congr 1
  lia
 ·walk_at"g"
  refine⟨n,r,_,_,f,a,ps,rfl,hn,hr,by lia,mono,pre,hlh,fun x h1 h2=>?_,fun qs h1 h2=>fin_same (q qs h1 (by lia))⟩
  rw[hf x h1 h2]
  have:=zng hp e x lo
  congr 1
  lia
def zuZ:Option Int->Option Int->Option Int
 |some a,some b=>some (min a b)
 |some a,none=>some a
 |none,b=>b
def zme (ps qs:List Pc):Prop:=∀ p∈ps.head?,∀ q∈qs.head?,p.lo=q.lo
def YC (ps qs:List Pc)(h:Int):Option Int:=zuZ (at' ps h) (at' qs h)
def zrq {ps qs:List Pc}(hp:ZX ps)(hq:ZX qs)(hh:zme ps qs)(p0:ps≠[])(q0:qs≠[]):zhj (YC ps qs):=fun a b x y ha hb hab=>by
 cases ps with
 |nil=>exact absurd rfl p0
 |cons p r =>
 cases qs with
 |nil=>exact absurd rfl q0
 |cons q s =>
 have el:p.lo=q.lo:=hh p rfl q rfl
 unfold YC at ha hb
 have hlo:p.lo<=a:=by
  cases h1:at' (p::r) a with
  |some u=>exact(Sw hp h1).2
  |none =>
   cases h2:at' (q::s) a with
   |some v=>rw[el];exact(Sw hq h2).2
   |none=>rw[h1,h2]at ha;cases ha
 cases h1:at' (p::r) b with
 |some u =>
  obtain⟨u',hu'⟩:=zey hp h1 hlo hab
  have m1:=Us hp hu' h1 hab
  cases h2:at' (q::s) b with
  |some v =>
   obtain⟨v',hv'⟩:=zey hq h2 (by lia) hab
   have m2:=Us hq hv' h2 hab
   rw[h1,h2]at hb
   rw[hu',hv']at ha
   cases ha;cases hb
   show min u' v'<=min u v
   lia
  |none =>
   rw[h1,h2]at hb
   cases hb
   rw[hu']at ha
   cases h3:at' (q::s) a with
   |some v'=>rw[h3]at ha;cases ha;show min u' v'<=_;lia
   |none=>rw[h3]at ha;cases ha;exact m1
 |none =>
  cases h2:at' (q::s) b with
  |some v =>
   obtain⟨v',hv'⟩:=zey hq h2 (by lia) hab
   have m2:=Us hq hv' h2 hab
   rw[h1,h2]at hb
   cases hb
   rw[hv']at ha
   cases h3:at' (p::r) a with
   |some u'=>rw[h3]at ha;cases ha;show min u' v'<=_;lia
   |none=>rw[h3]at ha;cases ha;exact m2
  |none=>rw[h1,h2]at hb;cases hb
def zel:ZS:=fun ds S Q=>∃ (ps qs:List Pc),ds=[.tup (ps.map Pd),.tup (qs.map Pd)]/\ZX ps/\ZX qs/\ps.length<=900/\qs.length<=900/\zme ps qs /\
 ∀ rs,ZX rs->(∀ h,at' rs h=YC ps qs h)->rs.length<=2*(ps.length+qs.length)->Q (.tup (rs.map Pd)) S
structure Stand (ps:List Pc)(i:Nat)(h:Int):Prop where
 lo:∀ p,ps[i]?=some p->p.lo<=h
 hi:∀ (t:Nat) p,ps[i+t]?=some p->h<=p.hi
 fin:i=ps.length->∀ x,h<=x->at' ps x=none
def Stand.next {ps:List Pc}(hr:ZX ps){i:Nat}{p:Pc}(ep:ps[i]?=some p):Stand ps (i+1) (p.hi+1):=by
 refine⟨fun q hq=>?_,fun t q hq=>?_,fun e x hx=>?_⟩
 ·rw[(hr.link i p q ep hq).nx];exact qr _
 ·have:=apart hr (show i<i+1+t by lia) ep hq
  have:=(hr.good q (qe hq)).le
  lia
 ·refine zfL hr ?_
  rw[(zo6 hr ep).2 (qv (by lia))];exact hx
def Stand.stay {ps:List Pc}(hr:ZX ps){i:Nat}{h h':Int}{p:Pc}(ep:ps[i]?=some p)(s:Stand ps i h)(h1:h<=h')(h2:h'<=p.hi):Stand ps i h':=by
 refine⟨fun q hq=>?_,fun t q hq=>?_,fun e x hx=>?_⟩
 ·have:=s.lo q hq;lia
 ·rcases qaX t with z|z
  ·subst z
   rw[Nat.add_zero,ep]at hq
   cases hq;exact h2
  ·have:=apart hr (show i<i+t by lia) ep hq
   have:=(hr.good q (qe hq)).le
   lia
 ·have:=zV ep;lia
def zid {α:Type}(xs:List α)(i:Nat)(h:i<=xs.length):cutD xs (some (i:Int)) none=xs.drop i:=by
 unfold cutD
 have e:W0 xs.length 0 (some (i:Int))=i:=by
  unfold W0
  simp only
  rw[if_neg (by lia)];lia
 rw[e]
 show(xs.drop i).take (xs.length-i)=_
 rw[qbz (by simp)]
def zo9 (qs:List Pc)(h:Int):YC [] qs h=at' qs h:=rfl
def zoH (ps:List Pc)(h:Int):YC ps [] h=at' ps h:=by
  unfold YC
  show zuZ (at' ps h) none=_
  cases at' ps h<;>rfl
def zop {ps:List Pc}{i:Nat}{p:Pc}(h:ps[i]?=some p):Y9 (ps.map Pd) (i:Int)=some (Pd p):=T4 (by rw[qj,h];rfl)
abbrev zkw:DS :=
    (zA (ZC (UL (dT (Z7 oEq (dB Y7 Zb) Zx)) (dT (Z7 oEq (dB Y7 Ys) Zx))) (zU (Z7 Zy Z2 Z1)) Zv)
 (zA (zH (Xx zF) Yv)
 (zA (zH (Z7 ZW Yc Zx) Zd)
 (zA (zH Zx YS)
 (zA (zH Zx Yl)
 (zA (QV (Vk (dT (Z7 oLt Zz (dB Y7 Zb))) (dT (Z7 oLt Zt (dB Y7 Ys)))) (zA (zH (dB Uh (zf (Z7 ZW (Z7 ZW Z2 Zz) ZJ) (zf (Z7 ZW (Z7 ZW Z1 Zt) ZJ) zF))) Wn)
 (zA (Zf (dCall zcQ (zf ZQ (zf (Z7 ZW Z2 Zz) (zf (Z7 ZW Z1 Zt) (zf ZP Rt))))))
 (zA (zH (Z7 Zy Ye ZJ) Zd)
 (zA (sJ (zH (RD (dT (Z7 oEq (Z7 ZW (Z7 ZW Z2 Zz) ZJ) Ye)) (Z7 Zy Zz ZJ) Zz) YS))
 (zH (RD (dT (Z7 oEq (Z7 ZW (Z7 ZW Z1 Zt) ZJ) Ye)) (Z7 Zy Zt ZJ) Zt) Yl))))))
 (zA (Y0 (Zj (Z7 Zy (Ql RV Z2 (some Zz) none) (Ql RV Z1 (some Zt) none))) Uo (Zf (dCall Sg (zf ZQ (zf Xi (zf (dB Ws (zf ZP (zf zyh zF))) (zf zxZ zF)))))))
 (zU (dB zfH Yy)))))))))
def znQ:BodyOk 8 zkw zel:=by
  rintro ds S Q ⟨ps,qs,rfl,hp,hq,hpl,hql,hh,q⟩
  unfold zkw
  walk_at"g"
  rw[qb]
  refine ZM (fun g=>?_) (fun g=>?_)
  . walk_at"g"
    refine zk4 (by rw[qb,qb];unfold big;lia) ?_
    have:ps=[]:=RK.mp (by lia)
    subst this
    walk_at"g"
    refine fin_same (q qs hq (fun h=>(zo9 qs h).symm) (by lia))
  walk_at"g"
  rw[qb]
  refine ZM (fun g2=>?_) (fun g2=>?_)
  . walk_at"g"
    refine zk4 (by rw[qb,qb];unfold big;lia) ?_
    have:qs=[]:=RK.mp (by lia)
    subst this
    walk_at"g"
    rw[qbl,qU]
    refine fin_same (q ps hp (fun h=>(zoH ps h).symm) (by lia))
  have p0:ps≠[]:=fun e=>g (by rw[e];rfl)
  have q0:qs≠[]:=fun e=>g2 (by rw[e];rfl)
  have mono:=zrq hp hq hh p0 q0
  have ep0:ps[0]?=some (ps[0]'(by lia)):=qc _
  have eq0:qs[0]?=some (qs[0]'(by lia)):=qc _
  generalize ps[0]'(by lia)=pa at ep0
  generalize qs[0]'(by lia)=qa at eq0
  have elo:pa.lo=qa.lo:=hh pa (by rw[qaI];exact ep0) qa (by rw[qaI];exact eq0)
  have aa0:Y9 (ps.map Pd) 0=some (Pd pa):=zop ep0
  have sta:∀ {ts:List Pc} {t:Pc},ZX ts->ts[0]?=some t->Stand ts 0 t.lo:=fun {ts t} ht e=>by
    refine⟨fun p hp=>by rw[e]at hp;cases hp;exact qr _,fun k p hp=>?_,fun z=>by have:=zV e;lia⟩
    have:=lo_le ht e (qe hp)
    have:=(ht.good p (qe hp)).le
    lia
  walk_at"g"
  refine zwS (fun m ρ S' => ∃ (i j : Nat) (hour : Int) (found : List Pc) (w1 w2 : Option D), m = ps.length + qs.length - (i + j) ∧ i ≤ ps.length ∧ j ≤ qs.length ∧ ρ = [some (.tup (ps.map Pd)), some (.tup (qs.map Pd)), some (.ref S.length), some (.int hour), some (.int i), some (.int j), w1, w2] ∧ S' = S ++ [.lst (found.map Pd)] ∧ found.length ≤ 2 * (i + j) ∧
      Pre (YC ps qs) pa.lo hour found/\Stand ps i hour/\Stand qs j hour)
    (fun ρ S'=>∃ (i j:Nat) (hour:Int) (found:List Pc) (w1 w2:Option D),i<=ps.length/\j<=qs.length/\(i=ps.length\/j=qs.length)/\ρ=[some (.tup (ps.map Pd)),some (.tup (qs.map Pd)),some (.ref S.length),some (.int hour),some (.int i),some (.int j),w1,w2]/\S'=S++[.lst (found.map Pd)]/\found.length<=2*(i+j) /\
      Pre (YC ps qs) pa.lo hour found/\Stand ps i hour/\Stand qs j hour)
    (ps.length+qs.length) ⟨0,0,pa.lo,[],none,none,by simp,qP _,qP _,rfl,rfl,by simp,Pre.start _ _,sta hp ep0,by rw[elo];exact sta hq eq0⟩ ?_ ?_
  . -- behind the loop
    rintro ρ S' ⟨i,j,hour,found,w1,w2,hil,hjl,h,rfl,rfl,hfl,pre,s1,s2⟩
    have fin:∃ (ts:List Pc) (k:Nat),ZX ts/\k<=ts.length/\ps.drop i++qs.drop j=ts.drop k/\(∀ h,hour<=h->YC ps qs h=at' ts h)/\Stand ts k hour:=by
      rcases h with h|h
      . refine⟨qs,j,hq,hjl,by rw[h,List.drop_length];rfl,fun x hx=>?_,s2⟩
        unfold YC
        rw[s1.fin h x hx];rfl
      . refine⟨ps,i,hp,hil,by rw[h,List.drop_length,qU],fun x hx=>?_,s1⟩
        unfold YC
        rw[s2.fin h x hx]
        cases at' ps x<;>rfl
    obtain⟨ts,k,ht,hkl,ets,hf,st⟩:=fin
    have hlen:(ps.drop i++qs.drop j).length=ps.length+qs.length-(i+j):=by
      rw[qh,R6,R6];lia
    rw[ets,R6]at hlen
    walk_at"g"
    rw[zid _ _ (by rw[qb];exact hil),zid _ _ (by rw[qb];exact hjl)]
    refine zk4 (by rw[R6,R6,qb,qb];unfold big;lia) ?_
    rw[<- List.map_drop,<- List.map_drop,<- qA,ets]
    walk_at"g"
    refine YH (fun t ρ S'=>∃ (found':List Pc) (w:Option D),ρ=[some (.tup (ps.map Pd)),some (.tup (qs.map Pd)),some (.ref S.length),some (.int hour),some (.int i),some (.int j),w1,w]/\S'=S++[.lst (found'.map Pd)]/\found'.length<=found.length+t /\
      (t=0->Pre (YC ps qs) pa.lo hour found')/\(0<t->Pre (YC ps qs) pa.lo (XH ts (k+t)) found'/\hour<=XH ts (k+t))) ⟨found,w2,rfl,rfl,by lia,fun _=>pre,fun z=>by lia⟩ (fun _ _ _ _=>True.intro) ?_ ?_
    . rintro t d ρ S' hd ⟨found',w,rfl,rfl,hfl',pr0,pr1⟩
      obtain⟨p,ep,rfl⟩:=get_map hd
      rw[List.getElem?_drop]at ep
      have htl:=zV ep
      have gp:=ht.good p (qe ep)
      have gle:=gp.le
      obtain⟨el1,el2⟩:=zg7 ht ep
      have hhi:=st.hi t p ep
      have hpre:Pre (YC ps qs) pa.lo (max hour p.lo) found':=by
        rcases qaX t with z|z
        . subst z
          have:=st.lo p ep
          rw[show max hour p.lo=hour by lia]
          exact pr0 rfl
        . obtain⟨h1,h2⟩:=pr1 z
          rw[el1]at h1 h2
          rw[show max hour p.lo=p.lo by lia];exact h1
      walk_at"g"
      refine⟨_,p,_,_,YC ps qs,pa.lo,found',rfl,Y4,gp.st,by lia,mono,hpre,by lia,fun x h1 h2=>?_,fun rs hr hrl=>?_⟩
      . rw[hf x (by lia)]
        exact Xa ht ep ⟨by lia,h2⟩
      . rw[VP]
        walk_at"g"
        refine⟨rs,_,rfl,rfl,by lia,fun z=>by lia,fun _=>?_⟩
        rw[show k+(t+1)=k+t+1 by lia,el2]
        exact⟨hr,by lia⟩
    . rintro ρ S' ⟨found',w,rfl,rfl,hfl',pr0,pr1⟩
      rw[qb,R6]at hfl' pr0 pr1
      walk_at"g"
      have hbelow:∀ x,x<pa.lo->YC ps qs x=none:=fun x hx=>by
        unfold YC
        rw[zeM fun z hz=>by have:=lo_le hp ep0 hz;lia,zeM fun z hz=>by have:=lo_le hq eq0 hz;lia]
        rfl
      rcases qaX (ts.length-k)with z|z
      . have pr:=pr0 z
        refine Xw (Pn found') (q found' pr.isR (fun h=>pr.done hbelow (fun x hx=>?_) h) (by lia))
        rw[hf x hx]
        exact st.fin (by lia) x hx
      . obtain⟨pr,hl⟩:=pr1 z
        refine Xw (Pn found') (q found' pr.isR (fun h=>pr.done hbelow (fun x hx=>?_) h) (by lia))
        rw[hf x (by lia)]
        refine zfL ht ?_
        have:XH ts (k+(ts.length-k))=endOf ts:=by
          unfold XH
          rw[qv (by lia)]
        rw[this]at hx;exact hx
  rintro nx' hE m ρ S' ⟨i,j,hour,found,w1,w2,rfl,hil,hjl,rfl,rfl,hfl,pre,s1,s2⟩
  walk_at"g"
  rw[qb]
  refine ZM (fun c1=>?_) (fun c1=>?_)
  rotate_left
  . walk_at"g"
    exact hE _ _ ⟨i,j,hour,found,w1,w2,hil,hjl,.inl (by lia),rfl,rfl,hfl,pre,s1,s2⟩
  walk_at"g"
  rw[qb]
  refine ZM (fun c2=>?_) (fun c2=>?_)
  rotate_left
  . walk_at"g"
    exact hE _ _ ⟨i,j,hour,found,w1,w2,hil,hjl,.inr (by lia),rfl,rfl,hfl,pre,s1,s2⟩
  have ep:ps[i]?=some (ps[i]'(by lia)):=qc _
  have er:qs[j]?=some (qs[j]'(by lia)):=qc _
  generalize ps[i]'(by lia)=p at ep
  generalize qs[j]'(by lia)=r at er
  have ap:=zop ep
  have ar:=zop er
  have gp:=hp.good p (qe ep)
  have gr:=hq.good r (qe er)
  have p1:=s1.lo p ep
  have p2:=s1.hi 0 p ep
  have r1:=s2.lo r er
  have r2:=s2.hi 0 r er
  walk_at"g"
  refine⟨_,p,r,_,_,YC ps qs,pa.lo,found,rfl,Y4,gp.st,gr.st,by lia,mono,pre,by lia,fun x h1 h2=>?_,fun rs hr hrl=>?_⟩
  . unfold YC
    rw[Xa hp ep ⟨by lia,by lia⟩,Xa hq er ⟨by lia,by lia⟩];rfl
  rw[VP]
  walk_at"g"
  refine zr4 ?_
  walk_at"g"
  refine ZM (fun c3=>?_) (fun c3=>?_)
  . walk_at"g"
    refine ZM (fun c4=>?_) (fun c4=>?_)
    . walk_at"g"
      refine⟨ps.length+qs.length-(i+1+(j+1)),by lia,i+1,j+1,_,rs,_,_,rfl,by lia,by lia,rfl,rfl,by lia,hr,?_,?_⟩
      . rw[<- c3];exact Stand.next hp ep
      . rw[<- c4];exact Stand.next hq er
    . walk_at"g"
      refine⟨ps.length+qs.length-(i+1+j),by lia,i+1,j,_,rs,_,_,rfl,by lia,by lia,rfl,rfl,by lia,hr,?_,?_⟩
      . rw[<- c3];exact Stand.next hp ep
      . exact Stand.stay hq er s2 (by lia) (by lia)
  . walk_at"g"
    refine ZM (fun c4=>?_) (fun c4=>?_)
    . walk_at"g"
      refine⟨ps.length+qs.length-(i+(j+1)),by lia,i,j+1,_,rs,_,_,rfl,by lia,by lia,rfl,rfl,by lia,hr,?_,?_⟩
      . exact Stand.stay hp ep s1 (by lia) (by lia)
      . rw[<- c4];exact Stand.next hq er
    . exfalso;lia
def Uc.of {f:Nat->List Pc}{k j:Nat}{ps c r:List Pc}(ec:∀ h,at' c h=comp (f k) ps h)(hr:ZX r)(er:∀ h,at' r h=YC (f j) c h):Uc f k j ps r:=by
 have cw:∀ x v,at' c x=some v->∃ w,at' (f k) x=some w/\at' ps w=some v:=fun x v e=>by
  rw[ec]at e
  unfold comp at e
  cases h:at' (f k) x with
  |none=>rw[h]at e;cases e
  |some w=>rw[h]at e;exact⟨w,rfl,e⟩
 refine⟨hr,fun x v e=>?_,fun x v e=>?_,fun x w v h1 h2=>?_⟩
 ·rw[er]at e
  unfold YC at e
  cases ha:at' (f j) x with
  |none =>
   rw[ha]at e
   cases hb:at' c x with
   |none=>rw[hb]at e;cases e
   |some b =>
    rw[hb]at e
    have eb:b=v:=qw e
    subst eb
    obtain⟨w,h1,h2⟩:=cw x b hb
    exact .inr ⟨w,h1,h2,fun v' z=>by cases z⟩
  |some a =>
   rw[ha]at e
   cases hb:at' c x with
   |none=>rw[hb]at e;exact .inl e
   |some b =>
    rw[hb]at e
    have eb:min a b=v:=qw e
    rcases Int.le_total a b with g|g
    ·exact .inl (by rw[show v=a by lia])
    ·obtain⟨w,h1,h2⟩:=cw x b hb
     exact .inr ⟨w,h1,by rw[h2,show v=b by lia],fun v' z=>by cases z;lia⟩
 ·cases hb:at' c x with
  |none=>exact⟨v,by rw[er];unfold YC;rw[e,hb];rfl,qr _⟩
  |some b=>exact⟨min v b,by rw[er];unfold YC;rw[e,hb];rfl,by lia⟩
 ·have hb:at' c x=some v:=by rw[ec];unfold comp;rw[h1];exact h2
  cases ha:at' (f j) x with
  |none=>exact⟨v,by rw[er];unfold YC;rw[ha,hb];rfl,qr _⟩
  |some a=>exact⟨min a v,by rw[er];unfold YC;rw[ha,hb];rfl,by lia⟩
def ZF (V:Vl)(k:Nat):Str:=((V.bs[k]?).getD (Str.empty,(0,0))).1
def zpU {V:Vl}{k:Nat}{b:Str×(Int×Int)}(h:V.bs[k]?=some b):ZF V k=b.1:=by unfold ZF;rw[h];rfl
def zfx {V:Vl}{k:Nat}(h:k<V.bs.length):∃ b,V.bs[k]?=some b/\ZF V k=b.1:=⟨_,qc h,zpU (qc h)⟩
def zjU {V:Vl}(ok:YF V){k j:Nat}(hk:k<V.bs.length)(hj:j<V.bs.length):ZF V k=ZF V j↔k=j:=by
 obtain⟨b,hb,e⟩:=zfx hk
 obtain⟨c,hc,e'⟩:=zfx hj
 rw[e,e'];exact zkO ok hb hc
def Rc (V:Vl)(Z6:List (Str×D))(f:Nat->List Pc):Prop:=∀ k,k<V.bs.length->dval Z6 (ZF V k)=some (.tup ((f k).map Pd))
def X4 (f:Nat->List Pc)(j:Nat)(r:List Pc):Nat->List Pc:=fun a=>if a=j then r else f a
def Rc.put {V:Vl}(ok:YF V){Z6:List (Str×D)}{f:Nat->List Pc}(h:Rc V Z6 f){j:Nat}(hj:j<V.bs.length)(r:List Pc):Rc V (dput Z6 (ZF V j) (.tup (r.map Pd))) (X4 f j r):=fun k hk=>by
 rw[zie]
 unfold X4
 by_cases e:k=j
 ·subst e;rw[if_pos rfl,if_pos rfl]
 ·rw[if_neg (fun z=>e ((zjU ok hk hj).mp z.symm)),if_neg e];exact h k hk
def zlS {Z6:List (Str×D)}{k:Str}{v d:D}(h:dval Z6 k=some d):(dput Z6 k v).length=Z6.length:=by
 have:=congrArg List.length (zoU Z6 k v)
 rw[h,show(some d).isSome=true from rfl,if_pos rfl,qb,qb]at this
 exact this
def VF.low {V:Vl}{k j:Nat}{ps:List Pc}(sp:VF V k j ps){w v:Int}(e:at' ps w=some v){w':Int}(h1:V.h0<=w')(h2:w'<=w):∃ v',at' ps w'=some v':=by
 rw[sp.led]at e
 rw[sp.led,if_pos h1]
 rw[if_pos (show V.h0<=w by lia)]at e
 by_cases ek:k=j
 ·rw[if_pos ek]at e ⊢
  by_cases g:w<=V.h1
  ·exact⟨_,by rw[if_pos (by lia)]⟩
  ·rw[if_neg g]at e;cases e
 ·rw[if_neg ek]at e ⊢
  cases hf:Xl (Xn V k j) w with
  |none=>rw[hf]at e;cases e
  |some u =>
   obtain⟨m0,g0,_⟩:=Ph (QD V k j) hf
   cases hf':Xl (Xn V k j) w' with
   |none=>exact absurd (show w'<=u by lia) (zdR hf' u m0)
   |some u'=>exact⟨_,rfl⟩
def VF.from {V:Vl}{k j:Nat}{ps:List Pc}(sp:VF V k j ps){w v:Int}(e:at' ps w=some v):V.h0<=w:=by
 rw[sp.led]at e
 by_cases h:V.h0<=w
 ·exact h
 ·rw[if_neg h]at e;cases e
def VF.dwn {V:Vl}{k j:Nat}{ps:List Pc}(sp:VF V k j ps):Wz V.h0 ps:=Wz.of sp.isR (fun x v e=>sp.from e) fun x v e=>sp.low e (qr _) (sp.from e)
theorem Xo.comp {V:Vl}{s:Nat}{f:Nat->List Pc}{k j:Nat}{ps c:List Pc}(hd:0<=V.dl)(H:Xo V s f)(sp:VF V k j ps)(ic:ZX c)(ec:∀ h,at' c h=comp (f k) ps h):Wz V.h0 c:=by
 have cw:∀ x v,at' c x=some v->∃ w,at' (f k) x=some w/\at' ps w=some v:=fun x v e=>by
  rw[ec]at e
  unfold Dp.comp at e
  cases h:at' (f k) x with
  |none=>rw[h]at e;cases e
  |some w=>rw[h]at e;exact⟨w,rfl,e⟩
 refine Wz.of ic (fun x v e=>?_) fun x v e=>?_
 ·obtain⟨w,h1,_⟩:=cw x v e
  exact(H.dom k x w h1).1
 ·obtain⟨w,h1,h2⟩:=cw x v e
  obtain⟨u,hu,le⟩:=(H.dwn k).at (H.isR k) h1 (qr _) (H.dom k x w h1).1
  obtain⟨v',hv'⟩:=sp.low h2 (H.ge hd hu) le
  exact⟨v',by rw[ec];unfold Dp.comp;rw[hu];exact hv'⟩
def Wz.heads {a:Int}{ps qs:List Pc}(h1:Wz a ps)(h2:Wz a qs):zme ps qs:=fun p hp q hq=>(h1 p hp).trans (h2 q hq).symm
def zlv (V:Vl)(f:Nat->List Pc)(a j:Nat):Prop:=∀ x w u,a≠j->at' (f a) x=some w->Xl (Xn V a j) w=some u->∃ v',at' (f j) x=some v'/\v'<=u+V.dl
structure Xe (V:Vl)(s:Nat)(G:Nat->Nat->Prop)(f:Nat->List Pc)(chs:List Nat):Prop where
 hr:Xo V s f
 nd:chs.Nodup
 lt:∀ c∈chs,c<V.bs.length
 cl:∀ k j,G k j->j<V.bs.length->k∉chs->zlv V f k j
def Xe.weak {V:Vl}{s:Nat}{G G':Nat->Nat->Prop}{f:Nat->List Pc}{chs:List Nat}(I:Xe V s G f chs)(h:∀ k j,G' k j->j<V.bs.length->G k j):Xe V s G' f chs:=⟨I.hr,I.nd,I.lt,fun k j g l n=>I.cl k j (h k j g l) l n⟩
def zlv.of {V:Vl}{s:Nat}{f g:Nat->List Pc}{a j:Nat}{ps:List Pc}(hd:0<=V.dl)(H:Xo V s f)(sp:VF V a j ps)(ga:g a=f a)(R:Uc f a j ps (g j)):zlv V g a j:=fun x w u ne h1 h2=>by
 rw[ga]at h1
 have h0:V.h0<=w:=by have:=H.ge hd h1;have:=(H.dom a x w h1).1;lia
 exact R.new x w (u+V.dl) h1 (by rw[sp.led,if_pos h0,if_neg ne,h2];rfl)
def Xe.same {V:Vl}{s:Nat}{G G':Nat->Nat->Prop}{f:Nat->List Pc}{chs:List Nat}{a j:Nat}{ps:List Pc}(hd:0<=V.dl)(I:Xe V s G f chs)(sp:VF V a j ps)(R:Uc f a j ps (f j))(h:∀ k i,G' k i->i<V.bs.length->G k i\/(k=a/\i=j)):Xe V s G' f chs:=⟨I.hr,I.nd,I.lt,fun k i g l n=>by
 rcases h k i g l with g|⟨rfl,rfl⟩
 ·exact I.cl k i g l n
 ·exact zlv.of hd I.hr sp rfl R⟩
def Xe.put {V:Vl}{s:Nat}{G G':Nat->Nat->Prop}{f:Nat->List Pc}{chs:List Nat}{a j:Nat}{ps r:List Pc}(hd:0<=V.dl)(I:Xe V s G f chs)(hj:j<V.bs.length)(sp:VF V a j ps)(R:Uc f a j ps r)(h:∀ k i,G' k i->i<V.bs.length->G k i\/(k=a/\i=j)):Xe V s G' (X4 f j r) ((chs.filter fun c=>!decide (c=j))++[j]):=by
 have hj':X4 f j r j=r:=by unfold X4;rw[if_pos rfl]
 have hk':∀ k,k≠j->X4 f j r k=f k:=fun k e=>by unfold X4;rw[if_neg e]
 refine⟨I.hr.relax hd sp R,?_,fun c hc=>?_,fun k i g l n=>?_⟩
 ·refine qa7.mpr ⟨I.nd.sublist qbi,by simp,fun x hx y hy e=>?_⟩
  have e1:y=j:=by simpa using hy
  subst e e1
  have:=(qX.mp hx).2
  simp at this
 ·rcases qJ.mp hc with h|h
  ·exact I.lt c (qX.mp h).1
  ·have:c=j:=by simpa using h
   lia
 ·have n1:k≠j:=fun e=>n (qJ.mpr (.inr (by rw[e];simp)))
  have n2:k∉chs:=fun m=>n (qJ.mpr (.inl (qX.mpr ⟨m,by simp[n1]⟩)))
  rcases h k i g l with g|⟨rfl,rfl⟩
  ·intro x w u ne h1 h2
   rw[hk' k n1]at h1
   obtain⟨v',hv,le⟩:=I.cl k i g l n2 x w u ne h1 h2
   by_cases e:i=j
   ·subst e
    rw[hj']
    obtain⟨v2,h3,h4⟩:=R.old x v' hv
    exact⟨v2,h3,by lia⟩
   ·rw[hk' i e];exact⟨v',hv,le⟩
  ·exact zlv.of hd I.hr sp (hk' _ n1) (by rw[hj'];exact R)
def Xo.few {V:Vl}{s:Nat}{f:Nat->List Pc}(H:Xo V s f)(h23:V.h1<=V.h0+23)(j:Nat):(f j).length<=24:=by
 have:=zny (H.isR j) (H.dom j)
 lia
def Xe.start {V:Vl}{s:Nat}{G:Nat->Nat->Prop}(hs:s<V.bs.length){ps:List Pc}(ip:ZX ps)(ap:∀ h,at' ps h=O4 V.h0 V.h1 h):Xe V s G (X4 (fun _=>[]) s ps) [s]:=by
 have h1:X4 (fun _=>[]) s ps s=ps:=by unfold X4;rw[if_pos rfl]
 have h2:∀ k,k≠s->X4 (fun _=>[]) s ps k=[]:=fun k e=>by unfold X4;rw[if_neg e]
 have is:∀ j x v,at' (X4 (fun _=>[]) s ps j) x=some v->j=s/\V.h0<=x/\x<=V.h1/\v=x:=fun j x v e=>by
  by_cases ej:j=s
  ·subst ej
   rw[h1,ap]at e
   unfold O4 at e
   by_cases g:V.h0<=x/\x<=V.h1
   ·rw[if_pos g]at e;exact⟨rfl,g.1,g.2,(qw e).symm⟩
   ·rw[if_neg g]at e;cases e
  ·rw[h2 j ej]at e;cases e
 have ir:∀ j,ZX (X4 (fun _=>[]) s ps j):=fun j=>by
  by_cases ej:j=s
  ·subst ej;rw[h1];exact ip
  ·rw[h2 j ej];exact .nil
 have st:∀ x,V.h0<=x->x<=V.h1->at' (X4 (fun _=>[]) s ps s) x=some x:=fun x g1 g2=>by
  rw[h1,ap];unfold O4;rw[if_pos ⟨g1,g2⟩]
 refine⟨⟨ir,fun j x v e=>⟨(is j x v e).2.1,(is j x v e).2.2.1⟩,fun j=>Wz.of (ir j) (fun x v e=>(is j x v e).2.1) fun x v e=>?_,fun j x v e=>?_,st⟩,by simp,fun c hc=>?_,fun k j _ _ n x w u _ h3 _=>?_⟩
 ·obtain⟨rfl,g1,g2,_⟩:=is j x v e
  exact⟨_,st V.h0 (qr _) (by lia)⟩
 ·obtain⟨rfl,_,_,rfl⟩:=is j x v e
  exact .base
 ·have:c=s:=by simpa using hc
  lia
 ·have:=(is k x w h3).1
  exact absurd (show k∈[s] by simp[this]) n
def zu4 (Z6:List (Str×D)):D->D
 |.str z=>(dval Z6 z).getD .non
 |_=>.non
def zqi {V:Vl}(ok:YF V){j:Nat}(hj:j<V.bs.length):∀ {chs:List Nat},(∀ c∈chs,c<V.bs.length)->((chs.map fun k=>D.str (ZF V k)).filter fun d=>!eqv d (.str (ZF V j)))=(chs.filter fun c=>!decide (c=j)).map fun k=>D.str (ZF V k):=fun {chs} h=>by
 rw[List.filter_map]
 congr 1
 refine List.filter_congr fun c hc=>?_
 show(!eqv (.str (ZF V c)) (.str (ZF V j)))=_
 rw[zjx]
 congr 1
 exact decide_eq_decide.mpr (zjU ok (h c hc) hj)
def Uv (V:Vl)(s:Nat)(f:Nat->List Pc):Prop:=Xo V s f/\∀ k,k<V.bs.length->zqD V f k
theorem Uv.uniq {V:Vl}{s:Nat}{f g:Nat->List Pc}(a:Uv V s f)(b:Uv V s g):f=g:=funext fun j=>zeO (a.1.isR j) (b.1.isR j) fun x=>by
 by_cases h:V.h0<=x/\x<=V.h1
 ·exact(a.1.ear a.2 h.1 h.2).uniq (b.1.ear b.2 h.1 h.2) j
 ·cases e1:at' (f j) x with
  |some v=>exact absurd (a.1.dom j x v e1) h
  |none=>cases e2:at' (g j) x with
   |some v=>exact absurd (b.1.dom j x v e2) h
   |none=>rfl
open Classical in
noncomputable def W6 (V:Vl) (s:Nat):Nat->List Pc:=if h:∃ f,Uv V s f then Classical.choose h else fun _=>[]
def zqO {V:Vl}{s:Nat}{f:Nat->List Pc}(h:Uv V s f):f=W6 V s:=by
 unfold W6
 rw[dif_pos ⟨f,h⟩]
 exact h.uniq (Classical.choose_spec (⟨f,h⟩:∃ f,Uv V s f))
noncomputable def zkT (V:Vl) (s:Nat):List D:=(List.range V.bs.length).map fun j=>.tup ((W6 V s j).map Pd)
def zrI {V:Vl}{s j:Nat}(h:j<V.bs.length):(zkT V s)[j]?=some (.tup ((W6 V s j).map Pd)):=by unfold zkT;rw[qj,qbh h];rfl
def zb7:ZS:=fun ds S Q=>∃ (v x:D) (z:Str) (V:Vl) (s:Nat),ds=[v,x,.str z]/\X7 S v V/\YF V/\zpw S x V/\Tr V s z/\V.h1<=V.h0+23/\∀ (T:Z5) (k:Nat),Uv V s (W6 V s)->(S++T)[k]?=some (.lst (zkT V s))->S.length<=k->Q (.ref k) (S++T)
abbrev zff:DS :=
    (zA (zH (dCall RN Zb) Zd)
 (zA (zH (zn2) YS)
 (zA (Y0 (Zj ZP) Yl (O7 Zz Zt (dTup zF)))
 (zA (O7 Zz ZQ (dCall zei (zf (YQ "first" Z2) (zf (YQ "last" Z2) zF))))
 (zA (zH (Xx Yy) Wn)
 (zA (QV (dT (Z7 Xj (dB Y7 Rt) Zx)) (zA (zH (dM zol Ye (zf Zx zF)) Uo)
 (Y0 (Zj ZP) Qa (zA (zH (dCall zel (zf (QX Zz WT) (zf (dCall ze2 (zf (QX Zz Xi) (zf (QX Z1 (dTup (zf Xi ua8))) zF))) zF))) gn9)
 (ZC (dT (Z7 Wj SM (QX Zz WT))) (zA (O7 Zz WT SM)
 (zH (Z7 Zy (Yz 1 [8] (Zj Ye) Ym (dT (Z7 Wj Z2 Z1)) Z2) (Xx ua8)) Wn)) Zv)))))
 (zU (Yz 1 [4] (Zj ZP) Ym Xu (QX Z1 Z2)))))))))
def zh5:BodyOk 10 zff zb7:=by
 rintro ds S Q ⟨v,x,z,V,s,rfl,hv,ok,hx,hz,h23,q⟩
 unfold zff
 have b12:=ok.b12
 have hd:=ok.dl
 obtain⟨m,g,b',f',rfl,hm,_⟩:=id hv
 obtain⟨xm,xk,rfl,hxm,hxe⟩:=hx
 obtain⟨zb,hzb,rfl⟩:=hz
 have hs:s<V.bs.length:=zV hzb
 have fl1:∀ b∈V.bs,fl 20 (.str b.1)=true:=fun b hb=>Qz (ok.nm b hb) 20
 rw[<- zpU hzb]
 have fln:∀ {k:Nat},k<V.bs.length->fl 20 (.str (ZF V k))=true:=fun {k} hk=>by
  obtain⟨b,hb,e⟩:=zfx hk
  rw[e];exact fl1 b (qe hb)
 walk_at"g"
 refine⟨_,V,rfl,hv,by lia,?_⟩
 unfold New
 obtain⟨nl,hnl⟩:∃ nl,nl=(V.bs.map (·.1)).map D.str:=⟨_,rfl⟩
 have lnl:nl.length=V.bs.length:=by rw[hnl,qb,qb]
 have gnl:∀ {i:Nat} {d:D},nl[i]?=some d->i<V.bs.length/\d=.str (ZF V i):=fun {i d} h=>by
  have hi:i<V.bs.length:=by rw[<- lnl];exact zV h
  obtain⟨b,hb,e⟩:=zfx hi
  rw[hnl,qj,qj,hb]at h
  exact⟨hi,by rw[e];exact(qw h).symm⟩
 rw[<- hnl]
 walk_at"g"
 rw[show S++[Cell.lst nl]++[Cell.dk []]=S++Cell.lst nl::[Cell.dk []] by simp,show(S++[Cell.lst nl]).length=S.length+1 by simp]
 have k0:∀ T,Lst (S++Cell.lst nl::T) (.ref S.length) nl:=fun T=>Lst.at0
 have k1:∀ c T,(S++Cell.lst nl::c::T)[S.length+1]?=some c:=fun c T=>WQ _ _ 1
 have hmT:∀ T,(S++T)[m]?=some (.ins "Valley" (vF (.ref g) (.ref b') (.ref f') (YB V.hz) (.int V.h0) (.int V.h1) (.int V.dl))):=fun T=>Xq hm
 have hxT:∀ T,(S++T)[xm]?=some (.dt xk):=fun T=>Xq hxm
 walk_at"g"
 walk_at"h"
 refine YH (fun i ρ S'=>∃ (Z6:List (Str×D)) (w:Option D),S'=S++Cell.lst nl::[Cell.dk Z6]/\Z6.length<=i/\(∀ k,k<i->dval Z6 (ZF V k)=some (.tup []))/\ρ=[some (.ref m),some (.ref xm),some (.str (ZF V s)),some (.ref S.length),some (.ref (S.length+1)),w,none,none,none,none]) ⟨[],none,rfl,qf _,fun k h=>absurd h (qbj _),rfl⟩ (fun i ρ S' zq13=>by obtain⟨_,_,e,_⟩:=zq13;exact e▸k0 _) ?_ ?_
 ·rintro i d ρ S' hd' ⟨Z6,w,rfl,hl,hk,rfl⟩
  obtain⟨li,rfl⟩:=gnl hd'
  walk_at"g"
  refine Uk.k (k1 _ _) (by unfold big;lia) (ziD ?_)
  refine⟨_,_,rfl,by have:=zil Z6 (ZF V i) (.tup []);lia,fun k h=>?_,rfl⟩
  rw[zie]
  by_cases e:k=i
  ·rw[e,if_pos rfl]
  ·rw[if_neg (fun z=>e ((zjU ok (by lia) li).mp z.symm))];exact hk k (by lia)
 rintro ρ S' ⟨Z6,w,rfl,hl,hk,rfl⟩
 rw[lnl]at hl hk
 have hV1:=hmT (Cell.lst nl::[Cell.dk Z6])
 walk_at"g"
 refine⟨_,_,rfl,fun ps ip ap _=>?_⟩
 walk_at"g"
 refine Uk.k (k1 _ _) (by unfold big;lia) (ziD ?_)
 have K0:Rc V (dput Z6 (ZF V s) (.tup (ps.map Pd))) (X4 (fun _=>[]) s ps):=Rc.put ok (fun k h=>hk k h) hs ps
 have L0:(dput Z6 (ZF V s) (.tup (ps.map Pd))).length<=20:=by have:=zil Z6 (ZF V s) (.tup (ps.map Pd));lia
 have I0:Xe V s (fun _ _=>True) (X4 (fun _=>[]) s ps) [s]:=Xe.start hs ip ap
 walk_at"h"
 generalize dput Z6 (ZF V s) (.tup (ps.map Pd))=kvs0 at K0 L0
 generalize X4 (fun _=>[]) s ps=f0 at K0 I0
 walk_at"g"
 have gp:∀ {Z6:List (Str×D)} {G:Z5} {p:Nat} {c:Cell},G[p]?=some c->(S++Cell.lst nl::Cell.dk Z6::G)[S.length+(p+2)]?=some c:=fun {Z6 G p c} h=>(WQ _ _ _).trans h
 refine zrV (fun m' ρ S'=>∃ (Z6:List (Str×D)) (f:Nat->List Pc) (chs:List Nat) (G:Z5) (p:Nat) (w5 w7 w8 w9:Option D),m'=Rz V f*20+chs.length/\S'=S++Cell.lst nl::Cell.dk Z6::G/\G[p]?=some (.lst (chs.map fun k=>.str (ZF V k)))/\Rc V Z6 f/\Z6.length<=20/\Xe V s (fun _ _=>True) f chs/\ρ=[some (.ref m),some (.ref xm),some (.str (ZF V s)),some (.ref S.length),some (.ref (S.length+1)),w5,some (.ref (S.length+(p+2))),w7,w8,w9]) _ ⟨kvs0,f0,[s],_,0,_,_,_,_,rfl,rfl,rfl,K0,L0,I0,rfl⟩ ?_
 rintro m' ρ S' ⟨Z6,f,chs,G,p,w5,w7,w8,w9,rfl,rfl,hp,hK,hL,I,rfl⟩
 have hch:=gp (Z6:=Z6) hp
 have hch':=Lst.here hch
 walk_at"g"
 rw[qb]
 refine ZM (fun c0=>?_) (fun c0=>?_)
 ·obtain⟨a,rest,rfl⟩:∃ a rest,chs=a::rest:=by
   cases chs with
   |nil=>simp at c0
   |cons a r=>exact⟨a,r,rfl⟩
  have la:a<V.bs.length:=I.lt a (by simp)
  walk_at"g"
  refine zv1 (xs:=rest.map fun k=>.str (ZF V k)) hch (ziD ?_)
  rw[show(Cell.lst nl::Cell.dk Z6::G).set (p+2) (Cell.lst (rest.map fun k=>D.str (ZF V k)))=Cell.lst nl::Cell.dk Z6::G.set p (Cell.lst (rest.map fun k=>D.str (ZF V k)))from rfl]
  have hpr:(G.set p (Cell.lst (rest.map fun k=>D.str (ZF V k))))[p]?=some (.lst (rest.map fun k=>.str (ZF V k))):=qI (zV hp)
  generalize G.set p (Cell.lst (rest.map fun k=>D.str (ZF V k)))=G0 at hpr
  have J0:Xe V s (fun k j=>k≠a\/j<0) f rest:=⟨I.hr,(PX.mp I.nd).2,fun c hc=>I.lt c (qg.mpr (.inr hc)),fun k j g l n=>I.cl k j True.intro l (fun z=>by
   rcases qg.mp z with z|z
   ·rcases g with g|g
    ·exact g z
    ·lia
   ·exact n z)⟩
  have k00:=k0 (Cell.dk Z6::G0)
  walk_at"g"
  walk_at"h"
  refine YH (fun i ρ S'=>∃ (Z6:List (Str×D)) (f':Nat->List Pc) (chs:List Nat) (G:Z5) (p:Nat) (w8 w9:Option D),Rz V f'*20+chs.length<Rz V f*20+(a::rest).length/\S'=S++Cell.lst nl::Cell.dk Z6::G/\G[p]?=some (.lst (chs.map fun k=>.str (ZF V k)))/\Rc V Z6 f'/\Z6.length<=20/\Xe V s (fun k j=>k≠a\/j<i) f' chs/\ρ=[some (.ref m),some (.ref xm),some (.str (ZF V s)),some (.ref S.length),some (.ref (S.length+1)),w5,some (.ref (S.length+(p+2))),some (.str (ZF V a)),w8,w9]) ⟨Z6,f,rest,G0,p,_,_,by rw[qO];lia,rfl,hpr,hK,hL,J0,rfl⟩ (fun i ρ S' zq14=>by obtain⟨_,_,_,_,_,_,_,_,e,_⟩:=zq14;exact e▸k0 _) ?_ ?_
  ·clear hp hch hch' hK hL I J0 hpr k00
   rintro j d ρ S' hd' ⟨Z6,f',chs,G,p,w8,w9,hm',rfl,hp,hK,hL,I,rfl⟩
   obtain⟨lj,rfl⟩:=gnl hd'
   have hV2:=hmT (Cell.lst nl::Cell.dk Z6::G)
   obtain⟨bn,hbn,ebn⟩:=zfx la
   obtain⟨cn,hcn,ecn⟩:=zfx lj
   obtain⟨ms,ps,hms,hps,hdv⟩:=hxe a j la lj bn cn hbn hcn
   rw[<- ebn,<- ecn]at hdv
   have sp:VF V a j ps:=T3.stp ok hbn hcn hms hps.isR hps.len hps.led
   have lenp:=sp.len
   have fa:=I.hr.few h23 a
   have fj:=I.hr.few h23 j
   walk_at"g"
   refine⟨_,Vu.k (k1 _ _) (hK j lj),?_⟩
   walk_at"g"
   refine⟨_,Vu.k (k1 _ _) (hK a la),?_⟩
   walk_at"g"
   refine⟨_,Vu.t (ks:=[.inr (ZF V a),.inr (ZF V j)]) (hxT _) hdv,?_⟩
   walk_at"g"
   refine⟨f' a,ps,rfl,I.hr.isR a,sp.isR,by lia,by lia,fun pa h1 pq h2=>?_,fun c ic ec lc=>?_⟩
   ·have e1:=I.hr.dwn a pa h1
    have e2:=sp.dwn pq h2
    have:=I.hr.ge hd (ztx (I.hr.isR a) h1)
    lia
   walk_at"g"
   have lc2:(f' a).length*ps.length<=24*28:=qbp fa lenp
   refine⟨f' j,c,rfl,I.hr.isR j,ic,by lia,by lia,Wz.heads (I.hr.dwn j) (I.hr.comp hd sp ic ec),fun r ir er _=>?_⟩
   have R:Uc f' a j ps r:=Uc.of ec ir er
   walk_at"g"
   refine⟨_,Vu.k (k1 _ _) (hK j lj),?_⟩
   refine zyq ?_
   walk_at"g"
   refine QL (fun ne=>?_) (fun eq=>?_)
   ·have I':=Xe.put hd I lj sp R (G':=fun k i=>k≠a\/i<j+1) fun k i g l=>by lia
    have less:=R.less hd I.hr I'.hr lj ne
    have K':=hK.put ok lj r
    have L':(dput Z6 (ZF V j) (.tup (r.map Pd))).length<=20:=by rw[zlS (hK j lj)];exact hL
    have l12:=zld I.nd I.lt
    walk_at"g"
    refine Uk.k (k1 _ _) (by unfold big;lia) (ziD ?_)
    rw[show(Cell.lst nl::Cell.dk Z6::G).set 1 (Cell.dk (dput Z6 (ZF V j) (.tup (r.map Pd))))=Cell.lst nl::Cell.dk (dput Z6 (ZF V j) (.tup (r.map Pd)))::G from rfl]
    generalize dput Z6 (ZF V j) (.tup (r.map Pd))=kvs' at K' L'
    have hch:=gp (Z6:=kvs') hp
    have hch':=Lst.here hch
    walk_at"g"
    refine W8 (fun d=>!eqv d (.str (ZF V j))) id hch' (by rw[qb];unfold big;lia) (fun i d ys hd' hw=>?_) ?_
    ·obtain⟨c,hc,rfl⟩:∃ c,chs[i]?=some c/\d=.str (ZF V c):=by
      rw[qj]at hd'
      cases e:chs[i]? with
      |none=>rw[e]at hd';cases hd'
      |some b=>rw[e]at hd';exact⟨b,rfl,(qw hd').symm⟩
     have lc:=I.lt c (qe hc)
     walk_at"g"
     refine zs9 (b:=eqv (.str (ZF V c)) (.str (ZF V j))) (fln lc) (fln lj) rfl ?_
     cases e:eqv (.str (ZF V c)) (.str (ZF V j))with
     |true =>
      walk_at"g"
      exact zoz hd' hw (by rw[e];rfl)
     |false =>
      walk_at"g"
      exact WW hd' hw (by rw[e];rfl) rfl
    rw[zqi ok lj I.lt,List.map_id]
    have lf:(chs.filter fun c=>!decide (c=j)).length<=12:=qY (QB _ _) (by lia)
    generalize hA:(chs.filter fun c=>!decide (c=j))=A at I' lf
    unfold New
    walk_at"g"
    refine zwc (xs:=A.map fun k=>D.str (ZF V k)) (ys:=[.str (ZF V j)]) (Lst.here ?_) (Lst.here ?_) (by rw[qb];unfold big;simp;lia) ?_
    ·exact Y4
    ·exact WQ _ _ 1
    unfold New
    walk_at"g"
    have lj2:(A++[j]).length<=13:=by rw[qh];simp;lia
    refine⟨kvs',X4 f' j r,A++[j],G++[.lst (A.map fun k=>D.str (ZF V k)),.lst [.str (ZF V j)],.lst ((A.map fun k=>D.str (ZF V k))++[.str (ZF V j)])],G.length+2,some (.str (ZF V j)),some (.tup (r.map Pd)),?_,?_,?_,K',L',I',?_⟩
    ·have:Rz V (X4 f' j r)<Rz V f':=less
     lia
    ·simp
    ·rw[qi (by lia),qa0,qA];rfl
    ·rw[show(S++Cell.lst nl::Cell.dk kvs'::G++[Cell.lst (A.map fun k=>D.str (ZF V k)),Cell.lst [D.str (ZF V j)]]).length=S.length+(G.length+2+2) by simp];rfl
   ·subst eq
    walk_at"g"
    exact⟨Z6,f',chs,G,p,_,_,hm',rfl,hp,hK,hL,I.same hd sp R fun k i g l=>by lia,rfl⟩
  ·rintro ρ S' ⟨Z6,f',chs,G,p,w8,w9,hm',rfl,hp,hK,hL,I,rfl⟩
   rw[lnl]at I
   exact⟨_,hm',Z6,f',chs,G,p,_,_,_,_,rfl,rfl,hp,hK,hL,I.weak fun k j _ l=>.inr l,rfl⟩
 ·have e0:chs=[]:=by
   cases chs with
   |nil=>rfl
   |cons a r=>simp at c0
  subst e0
  have k00:=k0 (Cell.dk Z6::G)
  walk_at"g"
  refine W8 (fun _=>true) (zu4 Z6) k00 (by unfold big;lia) (fun i d ys hd' hw=>?_) ?_
  ·obtain⟨lj,rfl⟩:=gnl hd'
   walk_at"g"
   refine⟨_,Vu.k (k1 _ _) (hK i lj),?_⟩
   exact WW hd' hw rfl (by show _=(dval Z6 (ZF V i)).getD .non;rw[hK i lj];rfl)
  rw[filter_true,show nl.map (zu4 Z6)=(List.range V.bs.length).map fun j=>.tup ((f j).map Pd)from List.ext_getElem? fun i=>by
   rw[qj,qj]
   by_cases hi:i<V.bs.length
   ·rw[qbh hi]
    have e:=qc (l:=nl) (show i<nl.length by lia)
    rw[e,(gnl e).2]
    show some ((dval Z6 (ZF V i)).getD .non)=_
    rw[hK i hi];rfl
   ·rw[qv (by lia),qv (by rw[Tv];lia)];rfl]
  unfold New
  refine fin_same ?_
  rw[qu]
  have O:Uv V s f:=⟨I.hr,fun k hk j x w u hj hkj h1 h2=>I.cl k j True.intro hj (by simp) x w u hkj h1 h2⟩
  have e:=zqO O
  subst e
  exact q _ _ O (by rw[<- qu];exact Y4) (by simp)
open Classical in
def zej:Ww:=fun ds S Q ex=>∃ (v:D) (V:Vl) (n n':Str),ds=[v,.str n,.str n']/\X7 S v V/\YF V/\V.h1<=V.h0+23/\fl 20 (.str n)=true/\fl 20 (.str n')=true/\(n∉V.bs.map (·.1)\/n'∉V.bs.map (·.1)->∀ T,ex "NoBeacon" (S++T))/\∀ i j,Tr V i n->Tr V j n'->Uv V i (W6 V i)->Q (.tup ((W6 V i j).map Pd)) S
abbrev zjZ (ex : XR) : DS :=
    (zA (Zf (Wm zaX ex (zf Z2 Ys)))
 (zA (Zf (Wm zaX ex (zf Z2 Yy)))
 (zU (Z7 ZW (dCall zb7 (zf Z2 (zf (dCall zdE Zb) Ys))) (dM zmg (dCall RN Zb) Yy)))))
def zos:T8 3 zjZ zej:=by
 rintro ds S Q ex ⟨v,V,n,n',rfl,hv,ok,h23,fn,fn',no,q⟩
 unfold zjZ
 have b12:=ok.b12
 walk_at"g"
 refine⟨_,V,n,rfl,hv,ok,fn,fun h T=>no (.inl h) T,fun h1=>?_⟩
 walk_at"g"
 refine⟨_,V,n',rfl,hv,ok,fn',fun h T=>no (.inr h) T,fun h2=>?_⟩
 walk_at"g"
 obtain⟨i,hi⟩:=znm h1
 obtain⟨j,hj⟩:=znm h2
 refine⟨_,V,rfl,hv,ok,fun T x hx=>?_⟩
 walk_at"g"
 refine⟨_,x,n,V,i,rfl,hv.old,ok,hx,hi,h23,fun T' k H hk _=>?_⟩
 walk_at"g"
 refine⟨_,V,rfl,hv.old.old,by lia,?_⟩
 unfold New
 have fl1:∀ b∈V.bs,fl 20 (.str b.1)=true:=fun b hb=>Qz (ok.nm b hb) 20
 obtain⟨bj,hbj,ej⟩:=id hj
 have lj:=zV hbj
 have hnl:(S++T++T'++[Cell.lst ((V.bs.map (·.1)).map D.str)])[(S++T++T').length]?=some (.lst ((V.bs.map (·.1)).map D.str)):=Y4
 walk_at"g"
 refine zs0 (j:=j) (e:=.str n') hnl ?_ fn' (by rw[qb,qb];unfold big;lia) ?_ ?_ (fun a e' ha he=>?_) ?_
 ·rw[qT,SX,VB];exact fl1
 ·rw[qj,qj,hbj,<- ej];rfl
 ·rw[zjx];exact decide_eq_true rfl
 ·obtain⟨ba,hba⟩:∃ ba,V.bs[a]?=some ba:=⟨_,qc (by lia)⟩
  rw[qj,qj,hba]at he
  cases he
  rw[zjx,<- ej]
  exact decide_eq_false fun z=>by have:=(zkO ok hba hbj).mp z;lia
 refine zsm (xs:=zkT V i) (d:=.tup ((W6 V i j).map Pd)) (Lst.here (Xq hk)) (T4 ?_) ?_
 ·exact zrI lj
 rw[qu,qu]
 exact Xw (Pn _) (q i j hi hj H)
structure znS (V:Vl)(ps:List Pc)(o:Option Int):Prop where
 rng:∀ u,o=some u->V.h0<=u/\u<=V.h1
 iff:∀ x,V.h0<=x->x<=V.h1->(at' ps x=none↔∃ u,o=some u/\u<=x)
def zvv (V:Vl)(ps:List Pc)(e:Int):Prop:=(∀ p,ps.getLast?=some p->e=p.hi+1)/\(ps=[]->e=V.h0)
def znS.of {V:Vl}{s:Nat}{f:Nat->List Pc}(H:Xo V s f){j:Nat}{e:Int}(he:zvv V (f j) e):znS V (f j) (if e<=V.h1 then some e else none):=by
 have key:V.h0<=e/\∀ x,V.h0<=x->(at' (f j) x=none↔e<=x):=by
  cases hl:(f j).getLast? with
  |none =>
   have e0:f j=[]:=PB.mp hl
   have:=he.2 e0
   refine⟨by lia,fun x h0=>⟨fun _=>by lia,fun _=>by rw[e0];rfl⟩⟩
  |some p =>
   have ee:=he.1 p hl
   have hp:=List.mem_of_getLast? hl
   obtain⟨i,hi,ei⟩:=qS.mp hp
   have g:=(H.isR j).good p hp
   have ap:=Xa (H.isR j) (show(f j)[i]?=some p by rw[qc hi,ei]) ⟨g.le,qr _⟩
   have d:=H.dom j _ _ ap
   refine⟨by lia,fun x h0=>⟨fun no=>?_,fun le=>zfL (H.isR j) (by unfold endOf;rw[hl];dsimp only;lia)⟩⟩
   rcases Qn x e with h|h
   ·obtain⟨u,hu,_⟩:=(H.dwn j).at (H.isR j) ap h0 (by lia)
    rw[hu]at no;cases no
   ·exact h
 by_cases h:e<=V.h1
 ·rw[if_pos h]
  exact⟨fun u z=>by cases z;exact⟨key.1,h⟩,fun x h0 _=>(key.2 x h0).trans ⟨fun l=>⟨e,rfl,l⟩,fun⟨u,z,l⟩=>by cases z;exact l⟩⟩
 ·rw[if_neg h]
  exact⟨fun u z=>(by cases z),fun x h0 h1=>(key.2 x h0).trans ⟨fun l=>by lia,fun⟨u,z,l⟩=>by cases z⟩⟩
def zb8:Ww:=fun ds S Q ex=>∃ (v:D) (V:Vl) (n n':Str),ds=[v,.str n,.str n']/\X7 S v V/\YF V/\V.h1<=V.h0+23/\fl 20 (.str n)=true/\fl 20 (.str n')=true/\(n∉V.bs.map (·.1)\/n'∉V.bs.map (·.1)->∀ T,ex "NoBeacon" (S++T))/\∀ i j,Tr V i n->Tr V j n'->Uv V i (W6 V i)->∀ o,znS V (W6 V i j) o->Q (YB o) S
abbrev ze7 (ex : XR) : DS :=
    (zA (zH (Wm zej ex (zf Z2 (zf Z1 Yy))) Zd)
 (zA (sJ (zH (RD (dT (Z7 Xj (dB Y7 Xr) Zx)) (Z7 Zy (Z7 ZW (Z7 ZW ZP (Yp Yo ZJ)) ZJ) ZJ) (YQ "first" Z2)) YS))
 (zU (RD (dT (Z7 oLe Zz (YQ "last" Z2))) Zz (dC .non)))))
def zij:T8 5 ze7 zb8:=by
 rintro ds S Q ex ⟨v,V,n,n',rfl,hv,ok,h23,fn,fn',no,q⟩
 unfold ze7
 walk_at"g"
 refine⟨v,V,n,n',rfl,hv,ok,h23,fn,fn',no,fun i j hi hj H=>?_⟩
 obtain⟨m,g,b',f',rfl,hm,_⟩:=id hv
 have q':=q i j hi hj H
 walk_at"g"
 walk_at"h"
 refine r_J (fun ρ S'=>∃ e,S'=S/\zvv V (W6 V i j) e/\ρ=[some (.ref m),some (.str n),some (.str n'),some (.tup ((W6 V i j).map Pd)),some (.int e)]) ?_ ?_
 ·walk_at"g"
  rw[qb]
  cases hl:(W6 V i j).getLast? with
  |none =>
   have e0:W6 V i j=[]:=PB.mp hl
   rw[e0]
   refine ZM (fun c=>absurd c (by simp)) (fun _=>?_)
   walk_at"g"
   exact⟨_,rfl,⟨fun p z=>(by cases z),fun _=>rfl⟩,rfl⟩
  |some p =>
   have al:=znn hl
   refine ZM (fun _=>?_) (fun c=>?_)
   ·walk_at"g"
    refine⟨_,rfl,⟨fun p' z=>?_,fun z=>?_⟩,rfl⟩
    ·rw[hl]at z;cases z;rfl
    ·rw[z]at hl;cases hl
   ·have:0<(W6 V i j).length:=List.length_pos_iff.mpr fun z=>by rw[z]at hl;cases hl
    lia
 ·rintro ρ S' ⟨e,rfl,he,rfl⟩
  have q2:=q' _ (znS.of H.1 he)
  walk_at"g"
  refine ZM (fun c=>?_) (fun c=>?_)
  ·rw[if_pos c]at q2
   walk_at"g"
   exact fin_same q2
  ·rw[if_neg c]at q2
   walk_at"g"
   exact fin_same q2
def Lt.sooner {see:Nat->Nat->Int->Prop}{dl:Int}{s:Nat}{h h':Int}{j:Nat}{v:Int}(l:Lt see dl s h j v)(le:h'<=h):∃ v',v'<=v/\Lt see dl s h' j v':=by
 induction l with
 |base=>exact⟨h',le,.base⟩
 |step l hle hs ih =>
  obtain⟨v',l1,l2⟩:=ih
  exact⟨_,qr _,.step l2 (by lia) hs⟩
open Classical in
noncomputable def V8 (V:Vl) (s j:Nat) (h:Int):Bool:=if ∃ v,Lt (YD V) V.dl s h j v then false else true
def zfT {V:Vl}{s j:Nat}{h:Int}:V8 V s j h=true↔¬ ∃ v,Lt (YD V) V.dl s h j v:=by
 unfold V8
 by_cases c:∃ v,Lt (YD V) V.dl s h j v
 ·rw[if_pos c];exact⟨fun z=>(by cases z),fun z=>absurd c z⟩
 ·rw[if_neg c];exact⟨fun _=>c,fun _=>rfl⟩
def zk6 {V:Vl}{s j:Nat}{h:Int}{f:Nat->Option Int}(e:Ri (YD V) V.dl s h f):V8 V s j h=(f j).isNone:=by
 cases hf:f j with
 |none =>
  refine zfT.mpr fun⟨v,l⟩=>?_
  obtain⟨v',h1,_⟩:=e.lst j v l
  rw[hf]at h1;cases h1
 |some v =>
  refine Bool.eq_false_iff.mpr fun c=>zfT.mp c ⟨v,e.snd j v hf⟩
def zqp {V:Vl}{s j:Nat}{h h':Int}(le:h'<=h)(c:V8 V s j h'=true):V8 V s j h=true:=zfT.mpr fun⟨v,l⟩=>by
 obtain⟨v',_,l2⟩:=l.sooner le
 exact zfT.mp c ⟨v',l2⟩
theorem zgk {p:Int->Bool}:∀ {xs:List Int},xs.Pairwise (fun a b=>p a=true->p b=true)->xs.filter p=xs.drop (xs.length-(xs.filter p).length)
 |[],_=>rfl
 |x::xs,h=>by
  obtain⟨h1,h2⟩:=qM.mp h
  cases e:p x with
  |true =>
   rw[Qk e,List.filter_eq_self.mpr fun a ha=>h1 a ha e,V7];rfl
  |false =>
   rw[Qh (by rw[e];exact qp)]
   have ih:=zgk h2
   have le:=QB p xs
   rw[qO,show xs.length+1-(xs.filter p).length=(xs.length-(xs.filter p).length)+1 by lia,List.drop_succ_cons]
   exact ih
def zl4 (p:Int->Bool):D->Bool
 |.tup [.int h,_]=>p h
 |_=>false
def zqT:D->D
 |.tup (x::_)=>x
 |d=>d
theorem zmN {p:Int->Bool}:∀ {hs:List Int} {rs:List Nat},rs.length=hs.length->((Yg (hs.map D.int) (rs.map D.ref)).filter (zl4 p)).map zqT=(hs.filter p).map D.int
 |[],[],_=>rfl
 |h::hs,r::rs,e=>by
  have ih:=zmN (p:=p) (hs:=hs) (rs:=rs) (by simpa using e)
  show((D.tup [.int h,.ref r]::Yg (hs.map D.int) (rs.map D.ref)).filter (zl4 p)).map zqT=_
  cases hp:p h with
  |true=>rw[Qk (show zl4 p (.tup [.int h,.ref r])=true from hp),Qk hp,qE,qE,ih];rfl
  |false=>rw[Qh (show ¬ zl4 p (.tup [.int h,.ref r])=true by show ¬ p h=true;rw[hp];exact qp),Qh (by rw[hp];exact qp),ih]
def zlj (S:Z5)(r:Nat)(V:Vl)(s:Nat)(h:Int):Prop:=∃ lit:List (Option Int),S[r]?=some (.lst (Xv lit))/\lit.length=V.bs.length/\Ri (YD V) V.dl s h fun j=>(lit[j]?).join
def zlj.old {S T:Z5}{r:Nat}{V:Vl}{s:Nat}{h:Int}(w:zlj S r V s h):zlj (S++T) r V s h:=by
 obtain⟨lit,h1,h2⟩:=w
 exact⟨lit,Xq h1,h2⟩
def zr0 (V:Vl):upto V.h0 (V.h1+1-V.h0).toNat=(hrs V).map D.int:=by
 unfold upto hrs
 rw[qT,show V.h1+1-V.h0=V.h1-V.h0+1 by lia];rfl
abbrev zss:DS :=
    (zA (zH (dCall zdh Zb) Wt)
 (zA (zH (dCall zcP Ys) Yv)
 (zA (zH (dCall zc8 Yy) Zd)
 (zA (zH (Yz 1 [] (Zj UJ) Ym Xu Yc) YS)
 (zA (zH (dB znA (zf (YQ "first" ZQ) (zf (Z7 Zy (YQ "last" ZQ) ZJ) zF))) Yl)
 (zA (Y0 (PJ (zf Vb zF)) Wn (zA (zH (Z7 oMod (Z7 Zy (dCall zbZ (zf Z2 (zf ZJ zF))) Ye) (dB Y7 U0)) Uo)
 (zA (zH (Yz 1 [3,7,2] (Zj Zt) Ym Xu (dCall zeh (zf Z1 (zf ZQ (zf Z2 (zf (YQ "delay" ZP) zF)))))) Qa)
 (Y0 (RT U0) (Yq 2 (z9 gn9 (z9 zqr Yr))) (zA (zH (Yz 2 [9] (zox (zf Zt ua8)) (Yq 2 (z9 Ym (z9 Wt Yr))) (dT (Z7 oIs (Z7 ZW Z1 ZQ) (dC .non))) Z2) zvx)
 (zA (ZC (dT (Z7 Wj zr5 (Ql RV Zt (some (Z7 Zq (dB Y7 ua5) (dB Y7 zqz))) none))) (zU (dC (.bl false))) Zv)
 (zA (zH (Wm zb8 xF (zf ZQ (zf (Z7 ZW Zz Xi) zyu))) zzd)
 (ZC (dT (Z7 oEq (dB Y7 zqz) Zx)) (ZC (dT (Z7 U5 zn9 (dC .non))) (zU (dC (.bl false))) Zv) (ZC (UL (dT (dB Sy (zf zn9 (zf (dC (.ty "bool")) zF)))) (UL (U3 (dT (dB Sy (zf zn9 (zf (dC (.ty "int")) zF))))) (dT (Z7 Wj zn9 zvf)))) (zU (dC (.bl false))) Zv)))))))))
 (zU (dC (.bl true)))))))))
def zwj:BodyOk 13 zss zfE:=by
  rintro ds S Q ⟨ns,rfl,_,hl,q⟩
  unfold zss
  walk_at"g"
  refine⟨ns,rfl,hl,fun T x y z V ok b2 b5 f6 h00 h05 h23 dl3 _ hs=>?_⟩
  generalize S++T=S1 at hs
  have hh:=ok.hh
  have hd:=ok.dl
  walk_at"g"
  refine⟨x,y,z,V,rfl,hs,ok,fun T v hv=>?_⟩
  have hs2:RX (S1++T) x y z V:=hs.old
  generalize S1++T=S2 at hv hs2
  walk_at"g"
  refine⟨_,V,rfl,hv,ok,fun T t ht=>?_⟩
  have hs3:RX (S2++T) x y z V:=hs2.old
  have hv3:X7 (S2++T) v V:=hv.old
  generalize S2++T=S3 at ht hs3 hv3
  clear hs hs2 hv
  obtain⟨hx,hy,hz⟩:=id hs3
  walk_at"g"
  refine W8 (fun _=>true) (Qw fun b=>.str b.1) hy (by rw[qb];unfold big;lia) (fun i d ys hd' hw=>?_) ?_
  . obtain⟨b,_,rfl⟩:=Qm hd'
    walk_at"g"
    exact WW hd' hw rfl rfl
  rw[filter_true,O9]
  unfold New
  obtain⟨nl,hnl⟩:∃ nl,nl=V.bs.map fun b=>D.str b.1:=⟨_,rfl⟩
  rw[<- hnl]
  have lnl:nl.length=V.bs.length:=by rw[hnl,qb]
  have fl1:∀ b∈V.bs,fl 20 (.str b.1)=true:=fun b hb=>Qz (ok.nm b hb) 20
  have gnl:∀ {i:Nat} {d:D},nl[i]?=some d->∃ b,V.bs[i]?=some b/\d=.str b.1:=fun {i d} h=>by
    rw[hnl,qj]at h
    cases e:V.bs[i]? with
    |none=>rw[e]at h;cases h
    |some b=>rw[e]at h;exact⟨b,rfl,(qw h).symm⟩
  have k0:∀ T,Lst (S3++Cell.lst nl::T) (.ref S3.length) nl:=fun T=>Lst.at0
  obtain⟨m,g,b',f',rfl,hm,_⟩:=id hv3
  have hmT:∀ T,(S3++T)[m]?=some (.ins "Valley" (vF (.ref g) (.ref b') (.ref f') (YB V.hz) (.int V.h0) (.int V.h1) (.int V.dl))):=fun T=>Xq hm
  have hm1:=hmT [.lst nl]
  have lh:(hrs V).length<=24:=by unfold hrs;rw[qb,Tv];lia
  walk_at"g"
  refine zvZ (by lia) ?_
  rw[zr0]
  unfold New
  rw[qu,show(S3++[Cell.lst nl]).length=S3.length+1 by simp]
  have k1:∀ T,Lst (S3++Cell.lst nl::Cell.lst ((hrs V).map D.int)::T) (.ref (S3.length+1)) ((hrs V).map D.int):=fun T=>Lst.at (k:=1) rfl
  walk_at"g"
  walk_at"h"
  refine⟨_,rfl,by decide,by decide,?_⟩
  refine YH (fun i ρ S'=>∃ (G:Z5) (w6 w7 w8 w9 w10 w11 w12:Option D),S'=S3++Cell.lst nl::Cell.lst ((hrs V).map D.int)::G/\ρ=[some (.rl (ns.map D.int)),some (vlD x y z V),some (.ref m),some t,some (.ref S3.length),some (.ref (S3.length+1)),w6,w7,w8,w9,w10,w11,w12]) ⟨[],_,_,_,_,_,_,_,rfl,rfl⟩ (fun _ _ _ _=>True.intro) ?_ ?_
  rotate_left
  . rintro ρ S' ⟨G,w6,w7,w8,w9,w10,w11,w12,rfl,rfl⟩
    walk_at"g"
    exact fin_same (q _)
  rintro i d ρ S' hd' ⟨G,w6,w7,w8,w9,w10,w11,w12,rfl,rfl⟩
  obtain⟨hi,rfl⟩:=zjO hd'
  have k0G:=k0 (Cell.lst ((hrs V).map D.int)::G)
  walk_at"g"
  refine⟨ns,1,rfl,by decide,fun c0=>?_⟩
  walk_at"g"
  generalize c0+(0+(i:Int))=c1
  obtain⟨s,hs,es⟩:∃ s:Nat,s<V.bs.length/\c1%(nl.length:Int)=(s:Int):=⟨(c1%(nl.length:Int)).toNat,by
    have h1:=R5 c1 (show(nl.length:Int)≠0 by lia)
    have h2:=qaK c1 (show(0:Int)<nl.length by lia)
    lia,by
    have h1:=R5 c1 (show(nl.length:Int)≠0 by lia)
    lia⟩
  rw[es]
  obtain⟨bs,hbs⟩:∃ b,V.bs[s]?=some b:=⟨_,qc hs⟩
  have hns:nl[s]?=some (.str bs.1):=by rw[hnl,qj,hbs];rfl
  have ans:Y9 nl (s:Int)=some (.str bs.1):=T4 hns
  have k1G:=k1 G
  walk_at"h"
  walk_at"g"
  refine⟨by rw[qb];unfold big;lia,fun i ys S'=>∃ (H:Z5) (rs:List Nat),S'=S3++Cell.lst nl::Cell.lst ((hrs V).map D.int)::(G++H)/\ys=rs.map D.ref/\rs.length=i/\∀ (a r:Nat) h,rs[a]?=some r->(hrs V)[a]?=some h->zlj S' r V s h,⟨[],[],by simp,rfl,rfl,fun a r h z=>(by cases z)⟩,fun i ys S' zq15=>by obtain⟨H,_,e,_⟩:=zq15;exact e▸k1 _,?_,?_⟩
  . rintro a d ys S' hda ⟨H,rs,rfl,rfl,rfl,hrow⟩
    obtain⟨h,hh',rfl⟩:=Tp hda
    have hmH:=hmT (Cell.lst nl::Cell.lst ((hrs V).map D.int)::(G++H))
    walk_at"g"
    refine⟨t,V,s,h,rfl,ht.old,ok,hs,fun T k lit ll ear hk _=>?_⟩
    refine⟨H++T,rs++[k],by simp,by rw[qA];rfl,by simp,fun a r h' e e'=>?_⟩
    by_cases e1:a<rs.length
    . rw[qk e1]at e
      exact(hrow a r h' e e').old
    . have e2:a=rs.length:=by have:=zV e;rw[qh]at this;simp at this;lia
      subst e2
      rw[qi (qf _),V7]at e
      cases e
      rw[hh']at e'
      cases e'
      exact⟨lit,hk,ll,ear⟩
  rintro ys S' ⟨H,rs,rfl,rfl,lr,hrow⟩
  rw[qb]at lr
  unfold New
  rw[qu]
  have kl:∀ T,Lst (S3++Cell.lst nl::Cell.lst ((hrs V).map D.int)::(G++H)++Cell.lst (rs.map D.ref)::T) (.ref (S3++Cell.lst nl::Cell.lst ((hrs V).map D.int)::(G++H)).length) (rs.map D.ref):=fun T=>Lst.at0
  generalize hK:(S3++Cell.lst nl::Cell.lst ((hrs V).map D.int)::(G++H)).length=K at kl
  obtain⟨S4,hS4⟩:∃ S4,S4=S3++Cell.lst nl::Cell.lst ((hrs V).map D.int)::(G++H)++[Cell.lst (rs.map D.ref)]:=⟨_,rfl⟩
  have kl4:∀ T,Lst (S4++T) (.ref K) (rs.map D.ref):=fun T=>by rw[hS4,qu];exact kl T
  have kn4:∀ T,Lst (S4++T) (.ref S3.length) nl:=fun T=>by rw[hS4,qu,qu];exact k0 _
  have kh4:∀ T,Lst (S4++T) (.ref (S3.length+1)) ((hrs V).map D.int):=fun T=>by rw[hS4,qu,qu];exact k1 _
  have hv4:∀ T,X7 (S4++T) (.ref m) V:=fun T=>by rw[hS4,qu,qu];exact hv3.old
  have row4:∀ T (a r:Nat) h,rs[a]?=some r->(hrs V)[a]?=some h->zlj (S4++T) r V s h:=fun T a r h e e'=>by rw[hS4];exact(hrow a r h e e').old.old
  have e4:∃ E,S4=S3++Cell.lst nl::Cell.lst ((hrs V).map D.int)::E:=⟨_,by rw[hS4];simp;rfl⟩
  rw[<- qu,<- hS4]
  clear hS4 hK kl hrow k0G k1G hm1
  have kn40:=kn4 []
  rw[qU]at kn40
  walk_at"g"
  walk_at"h"
  refine zjW kn40 ?_
  refine YH (fun j ρ S'=>∃ (H:Z5) (w9 w10 w11 w12:Option D),S'=S4++H/\ρ=[some (.rl (ns.map D.int)),some (vlD x y z V),some (.ref m),some t,some (.ref S3.length),some (.ref (S3.length+1)),some (.int (0+(i:Int))),some (.int (s:Nat)),some (.ref K),w9,w10,w11,w12]) ⟨[],_,_,_,_,(qU _).symm,rfl⟩ (fun j ρ S' zq16=>by obtain⟨_,_,_,_,_,e,_⟩:=zq16;exact e▸kn4 _) ?_ ?_
  rotate_left
  . rintro ρ S' ⟨H',w9,w10,w11,w12,rfl,rfl⟩
    obtain⟨E,rfl⟩:=e4
    exact⟨E++H',_,_,_,_,_,_,_,by simp,rfl⟩
  rintro j d ρ S' hd' ⟨H',w9,w10,w11,w12,rfl,rfl⟩
  obtain⟨y',hy',rfl⟩:=Ss hd'
  obtain⟨b,hb,rfl⟩:=gnl hy'
  have lj:j<V.bs.length:=zV hb
  have kl5:=kl4 H'
  have kh5:=kh4 H'
  have kn5:=kn4 H'
  walk_at"g"
  refine zvy kh5 kl5 ?_
  refine W8 (zl4 (V8 V s j)) zqT ⟨kh5,kl5⟩ (by rw[Qd,qb];unfold big;lia) (fun a d ys hda hw=>?_) ?_
  . obtain⟨h',r',h1,h2,rfl⟩:=zeU hda
    obtain⟨h,hh1,rfl⟩:=Tp h1
    obtain⟨r,hr1,rfl⟩:∃ r,rs[a]?=some r/\r'=.ref r:=by
      rw[qj]at h2
      cases e:rs[a]? with
      |none=>rw[e]at h2;cases h2
      |some b=>rw[e]at h2;exact⟨b,rfl,(qw h2).symm⟩
    obtain⟨lit,hl1,hl2,ear⟩:=row4 H' a r h hr1 hh1
    have aj:Y9 (Xv lit) ((0+j:Nat):Int)=some (YB ((lit[j]?).join)):=by rw[qbn];exact zlU (by lia)
    have dj:=zk6 (j:=j) ear
    have lr2:=Lst.here hl1
    cases e:(lit[j]?).join with
    |none =>
      rw[e]at dj
      rw[e,zdQ]at aj
      walk_at"g"
      exact WW hda hw dj rfl
    |some u =>
      rw[e]at dj
      rw[e,Qi]at aj
      walk_at"g"
      exact zoz hda hw dj
  rw[zmN lr]
  have suf:(hrs V).filter (V8 V s j)=(hrs V).drop ((hrs V).length-((hrs V).filter (V8 V s j)).length):=zgk ((zjt V).imp fun lt c=>zqp (by lia) c)
  have memU:∀ h,h∈(hrs V).filter (V8 V s j)↔(V.h0<=h/\h<=V.h1)/\V8 V s j h=true:=fun h=>by rw[qX,zmY]
  have ascU:((hrs V).filter (V8 V s j)).Pairwise (· < ·):=(zjt V).sublist qbi
  have lenU:=QB (V8 V s j) (hrs V)
  generalize hU:(hrs V).filter (V8 V s j)=U at suf memU ascU lenU
  have kU:∀ T,Lst (S4++H'++Cell.lst (U.map D.int)::T) (.ref (S4++H').length) (U.map D.int):=fun T=>Lst.at0
  unfold New
  have kU0:=kU []
  have kh6:Lst (S4++H'++[Cell.lst (U.map D.int)]) (.ref (S3.length+1)) ((hrs V).map D.int):=kh5.old
  walk_at"g"
  rw[qb,qb,show((hrs V).length:Int)-(U.length:Int)=(((hrs V).length-U.length:Nat):Int) by lia,zjP,zid _ _ (by lia),<- suf]
  have k7:∀ T,Lst (S4++H'++Cell.lst (U.map D.int)::Cell.lst (U.map D.int)::T) (.ref ((S4++H').length+1)) (U.map D.int):=fun T=>Lst.at (k:=1) rfl
  refine zqx (kU [Cell.lst (U.map D.int)]) (k7 []) (zsH U) ?_
  walk_at"g"
  have kn6:Lst (S4++H'++[Cell.lst (U.map D.int),Cell.lst (U.map D.int)]) (.ref S3.length) nl:=kn5.old
  have hv6:X7 (S4++H'++[Cell.lst (U.map D.int),Cell.lst (U.map D.int)]) (.ref m) V:=(hv4 H').old
  have kU6:=kU [Cell.lst (U.map D.int)]
  have e6:S4++H'++[Cell.lst (U.map D.int),Cell.lst (U.map D.int)]=S4++(H'++[Cell.lst (U.map D.int),Cell.lst (U.map D.int)]):=qu _ _ _
  generalize S4++H'++[Cell.lst (U.map D.int),Cell.lst (U.map D.int)]=S6 at kn6 hv6 kU6 e6
  walk_at"g"
  refine⟨_,V,bs.1,b.1,rfl,hv6,ok,h23,fl1 _ (qe hbs),fl1 _ (qe hb),fun no=>?_,fun a c ha hc O o uo=>?_⟩
  . rcases no with no|no
    . exact(no (qW.mpr ⟨_,qe hbs,rfl⟩)).elim
    . exact(no (qW.mpr ⟨_,qe hb,rfl⟩)).elim
  have e1:a=s:=ha.uniq ok ⟨bs,hbs,rfl⟩
  have e2:c=j:=hc.uniq ok ⟨b,hb,rfl⟩
  subst e1 e2
  have dU:∀ h,V.h0<=h->h<=V.h1->(h∈U↔∃ u,o=some u/\u<=h):=fun h h0 h1=>by
    rw[memU,<- uo.iff h h0 h1,zk6 (O.1.ear O.2 h0 h1)]
    cases at' (W6 V a c) h with
    |none=>exact⟨fun _=>rfl,fun _=>⟨⟨h0,h1⟩,rfl⟩⟩
    |some v=>exact⟨fun z=>absurd z.2 (by simp),fun z=>by cases z⟩
  walk_at"g"
  cases U with
  |nil =>
    cases o with
    |some u=>exact absurd ((dU u (uo.rng u rfl).1 (uo.rng u rfl).2).mpr ⟨u,rfl,qr _⟩) (by simp)
    |none =>
      rw[zdQ]
      refine ZM (fun _=>?_) (fun no=>absurd rfl no)
      walk_at"g"
      exact⟨_,_,_,_,_,e6,rfl⟩
  |cons u0 U' =>
    have m0:=(memU u0).mp (by simp)
    obtain⟨u,rfl,hu⟩:=(dU u0 m0.1.1 m0.1.2).mp (by simp)
    have mu:=(dU u (uo.rng u rfl).1 (uo.rng u rfl).2).mpr ⟨u,rfl,qr _⟩
    have eu:u=u0:=by
      rcases qg.mp mu with h|h
      . exact h
      . have:=(qM.mp ascU).1 u h;lia
    subst eu
    rw[Qi]
    refine ZM (fun no=>by simp at no;lia) (fun _=>?_)
    have a0:Y9 ((u::U').map D.int) 0=some (.int u):=T4 (i:=0) rfl
    walk_at"g"
    refine QL (fun no=>absurd rfl no) (fun _=>?_)
    walk_at"g"
    exact⟨_,_,_,_,_,e6,rfl⟩
end Dp
namespace Law
open PySem PySem.Spec PyProof.Rows L2 My Dp
def top (i:Nat):Stmt:=PySem.Challenge.pw_beaconvale_k74_first_unheard.main.body.getD i (.Pass ⟨0,0,0,0⟩)
abbrev zgo:Stmt:=top 90
abbrev zhN:Stmt:=top 91
abbrev zhQ:Stmt:=top 92
abbrev zgm:Stmt:=top 93
abbrev ziY:Stmt:=top 94
abbrev zhR:Stmt:=top 95
abbrev zdl:Stmt:=top 58
abbrev zch:Stmt:=inClass (top 59) 0
abbrev zc4:Stmt:=top 72
abbrev zj8:Stmt:=top 71
abbrev zdT:Stmt:=top 73
abbrev zpZ:Stmt:=top 52
abbrev zmT:Stmt:=top 60
abbrev zeS:Stmt:=top 50
abbrev zi5:Stmt:=top 51
abbrev zh4:Stmt:=top 54
abbrev zhK:Stmt:=top 61
abbrev zkW:Stmt:=top 62
abbrev zed:Stmt:=top 74
abbrev ziT:Stmt:=top 1
abbrev zl3:Stmt:=top 44
abbrev zd9:Stmt:=top 75
abbrev zdX:Stmt:=top 76
abbrev zce:Stmt:=inClass (top 77) 0
abbrev zgz:Stmt:=top 96
abbrev zke:Stmt:=top 79
abbrev zcZ:Stmt:=top 63
abbrev zec:Stmt:=top 64
abbrev zj4:Stmt:=top 53
abbrev zk7:Stmt:=top 65
abbrev zeG:Stmt:=top 81
abbrev ze0:Stmt:=top 82
abbrev znk:Stmt:=top 45
abbrev zkg:Stmt:=top 46
abbrev zpk:Stmt:=top 20
abbrev znq:Stmt:=top 47
abbrev zhJ:Stmt:=top 48
abbrev zqh:Stmt:=top 22
abbrev zp5:Stmt:=top 21
abbrev zks:Stmt:=top 23
abbrev zmW:Stmt:=top 83
abbrev zh0:Stmt:=top 97
abbrev zhX:Stmt:=top 98
abbrev zkt:Stmt:=top 99
abbrev zjp:Stmt:=top 78
abbrev zdU:Stmt:=top 80
abbrev zsq:Stmt:=top 7
abbrev zfK:Stmt:=top 9
abbrev zlE:Stmt:=top 8
abbrev zsA:Stmt:=top 10
abbrev zjk:Stmt:=top 11
abbrev ziZ:Stmt:=top 85
abbrev zka:Stmt:=top 12
abbrev zg8:Stmt:=top 17
abbrev zlN:Stmt:=top 18
abbrev zkD:Stmt:=top 13
abbrev zfI:Stmt:=top 14
abbrev zgU:Stmt:=top 15
abbrev zkb:Stmt:=top 16
abbrev zeX:Stmt:=top 86
abbrev zj1:Stmt:=top 87
abbrev zfe:Stmt:=top 88
abbrev Ry:Stmt:=top 100
def WY [Bs]{X:Cx}{sc:Scope}{own free:List Str}{x:Str}{p:Pos}(h0:0<own.length:=by decide)(hN:(own++free).Nodup:=by decide +kernel)(hi:(own++free)[0]?=some x:=by rfl)(hx:∀ cl C s₀ H₀ ex,Loc (inner X sc (own++free) cl C s₀ H₀ ex).env.scope x/\((inner X sc (own++free) cl C s₀ H₀ ex).fn x=true\/(inner X sc (own++free) cl C s₀ H₀ ex).env.scope.names.lookup x=some .local):=by intros;first|exact⟨Or.inl rfl,Or.inr rfl⟩|exact⟨Or.inr rfl,Or.inl rfl⟩):RL X.K own.length (Dp.YW 0) (L2.YW 0)/\∀ cl C s₀ H₀ ex,PG (inner X sc (own++free) cl C s₀ H₀ ex) (.Name x p) (L2.YW 0):=⟨Wo 0 h0,fun cl C s₀ H₀ ex=>Wg (i:=0) hN hi (hx cl C s₀ H₀ ex).1 (hx cl C s₀ H₀ ex).2⟩
abbrev Fk (K:W.Frag)(x:Str)(st:Stmt)(f:Addr)(fd:FuncData):Prop:=V5 K x x st f fd
def ZD {P:Program}{w:World}{K:W.Frag}{mg:Str->Option Value}{base:Heap}{x qual:Str}{st:Stmt}{f:Addr}{fd:FuncData}{M ps:List Str}{k:Nat}{sp:ZS}{b:DS}(F:V5 K x qual st f fd)(body:BodyOk (ps++M).length b sp)(term:∀ {cdv:Value} {A:Around} {outer:List Env} {s:Shared} {H:Hp} {E:XK} [Bs],(ps++M).Nodup->Zk k (A.deeper (envOfC qual (zY st) s.heap.objs.size f cdv))->Vq (Wf ZV P w K mg base (ps++M) qual (zY st) f cdv A outer s H E).nox (Xd st) b)(S:RG (ps++M) ps (zY st):=by exact zpX)(len:∀ ds So Q,sp ds So Q->ds.length=ps.length:=by (intros;rename_i h;repeat (first|(obtain⟨e,_⟩:=h;subst e;rfl)|obtain⟨_,h⟩:=h))):zO P w K mg base ZV (k+1) f fd ps (Z4 K sp):=zt9 F S len body fun _ _ _ _ _ _ hr=>term S.nd hr
def RW {P:Program}{w:World}{K:W.Frag}{mg:Str->Option Value}{base:Heap}{x qual:Str}{st:Stmt}{f:Addr}{fd:FuncData}{M ps:List Str}{k:Nat}{sp:Ww}{b:XR->DS}(F:V5 K x qual st f fd)(body:T8 (ps++M).length b sp)(term:∀ {cdv:Value} {A:Around} {outer:List Env} {s:Shared} {H:Hp} {E:XK} [Bs],(ps++M).Nodup->Zk k (A.deeper (envOfC qual (zY st) s.heap.objs.size f cdv))->∀ (ex:XR),XOk (Wf (Xp P w) P w K mg base (ps++M) qual (zY st) f cdv A outer s H E) ex->XMk (Wf (Xp P w) P w K mg base (ps++M) qual (zY st) f cdv A outer s H E) ex->Vq (Wf (Xp P w) P w K mg base (ps++M) qual (zY st) f cdv A outer s H E) (Xd st) (b ex))(S:RG (ps++M) ps (zY st):=by exact zpX)(len:∀ ds So Q ex,sp ds So Q ex->ds.length=ps.length:=by (intros;rename_i h;repeat (first|(obtain⟨e,_⟩:=h;subst e;rfl)|obtain⟨_,h⟩:=h))):zO P w K mg base (Xp P w) (k+1) f fd ps (XC K sp):=zqH F S len body fun _ _ _ _ _ _ hr _=>term S.nd hr
def Z8 [Bs]{X:Cx}{i:Nat}{x:Str}{p:Pos}(h1:X.N[i]?=some x:=by rfl)(h2:Vis X.env.scope x:=by first | exact Or.inl rfl | exact Or.inr (Or.inl rfl) | exact Or.inr (Or.inr rfl))(h3:(x==("__debug__":Str))=false:=by decide)(h4:(x==("__classdict__":Str))=false:=by decide):PD X (.Name x p) (Xh i):=zyA i h1 h2 h3 h4
section
variable {P:Program}{w:World}{K:W.Frag}{mg:Str->Option Value}{base:Heap}{f:Addr}{fd:FuncData}
variable (xg:mg "len"=none)
include xg in
def zjI (F:Fk K "_law_cell_at" zgo f fd):zO P w K mg base ZV 1 f fd ["script","k"] (Z4 K Dp.zbZ):=ZD (M:=[]) F Dp.zjT fun hnd hr=>(zj (zP (zG X6 Z8 (ZL Yx xg boot_len (zc Z8 zm))) (zp (zJ (zu Z8 Z8))) zM)
 (zp (zJ zq)))
variable (xar:Got P w K mg base 1 "_law_cell_at" ["script","k"] (Z4 K Dp.zbZ))
def zle (F:Fk K "_law_mixed" zhN f fd):zO P w K mg base ZV 1 f fd ["cell","k"] (Z4 K Dp.zb3):=ZD (M:=["big"]) F Dp.zlb fun hnd hr=>(zj (zy hnd (Yn (zT (YX Z8 (Wi 1000000000000000000000000000000000000000000000000000000000000 (by decide +kernel) ⟨by decide,by decide,by decide⟩)) zq) (zT zq (Yn (Yn zq Z8) Z8))))
 (zj (zy hnd (zT Z8 (Yn zq Z8)))
 (zp (zJ (YX (Yn Z8 Z8) (zT (Wi 1000000000000000000000000000000000000000000000000000000000000 (by decide +kernel) ⟨by decide,by decide,by decide⟩) zq))))))
variable (xaw:Got P w K mg base 1 "_law_mixed" ["cell","k"] (Z4 K Dp.zb3))
variable (xap:mg "range"=none)
variable (xaa:mg "enumerate"=none)
include xaw xap xaa in
def zma (F:Fk K "_law_seeds" zhQ f fd):zO P w K mg base ZV 2 f fd ["cells","most"] (Z4 K Dp.zdg):=ZD (M:=["seeds","k","cell","at"]) F Dp.zl8 fun hnd hr=>(zj (QF hnd (own:=["k"]) (free:=[]) True.intro True.intro (zjY xap (zc Z8 zm)) WY (fun _ _ _ _ _=>Xf) (fun _ _ _ _ _=>(zE xaw hr (zc Z8 (zc zq zm)))))
 (zj (YK (zb1 rfl xaa (zc Z8 zm)) (Vv rfl (Y5 (zN hnd) (Y5 (zN hnd) Vo))) (zj (zy hnd (YX Z8 Z8))
 (zp (zeq (zE xaw hr (zc (zT (zu Z8 Z8) (YX Z8 (Wi 1000000000000000000000000000000000000000000000000000000000000 (by decide +kernel) ⟨by decide,by decide,by decide⟩))) (zc (YX Z8 zq) zm))) (zfw Z8 Z8)))))
 (zp (zJ Z8))))
variable (xdw:Got P w K mg base 2 "_law_seeds" ["cells","most"] (Z4 K Dp.zdg))
include xaa in
def zjX (F:Fk K "_law_beacons" zgm f fd):zO P w K mg base ZV 1 f fd ["seeds"] (Z4 K Dp.zcG):=ZD (M:=["told","k","seed","name"]) F Dp.zjM fun hnd hr=>(zj (zy hnd (W9 zm))
 (zj (YK (zb1 rfl xaa (zc Z8 zm)) (Vv rfl (Y5 (zN hnd) (Y5 (zN hnd) Vo))) (zj (zy hnd (zT (zu U8 Z8) (zu (W9 (zc U8 (zc U8 (zc U8 (zc U8 zm))))) (YX Z8 zq))))
 (zp (zW (UG PySem.F.slot_list_append PySem.F.type_list_append QT Z8 (zc (zX (zc Z8 (zc (zZ (YX (Yb Z8 zq) zq) zq) (zc (YX (Yb Z8 zq) zq) zm)))) zm))))))
 (zp (zJ Z8))))
variable (xcg:Got P w K mg base 1 "_law_beacons" ["seeds"] (Z4 K Dp.zcG))
include xaw in
def zmC (F:Fk K "_law_fogs" ziY f fd):zO P w K mg base ZV 2 f fd ["seeds","first","last"] (Z4 K Dp.zdK):=ZD (M:=["told","seed","m","left","low","begin","end","drift","rise"]) F Dp.zmx fun hnd hr=>(zj (zy hnd (W9 zm))
 (zj (YK (Zg Z8) (zN hnd) (zj (zy hnd (zE xaw hr (zc Z8 (zc zq zm))))
 (zp (zP (zG W5 (YX Z8 zq) zq) (zj (zy hnd (zZ (YX (Yb Z8 zq) zq) zq))
 (zj (zy hnd (zZ (YX (Yb Z8 zq) zq) zq))
 (zj (zy hnd (zT (zZ Z8 zq) (YX (Yb Z8 zq) (zT (zZ Z8 Z8) zq))))
 (zj (zy hnd (zT Z8 (YX (Yb Z8 (Wi 1000000000000000 (by decide +kernel) ⟨by decide,by decide,by decide⟩)) zq)))
 (zj (zy hnd (zZ (YX (Yb Z8 (Wi 100000000000000000000 (by decide +kernel) ⟨by decide,by decide,by decide⟩)) zq) zq))
 (zj (zy hnd (zZ (YX (Yb Z8 (Wi 10000000000000000000000000 (by decide +kernel) ⟨by decide,by decide,by decide⟩)) zq) zq))
 (zp (zW (UG PySem.F.slot_list_append PySem.F.type_list_append QT Z8 (zc (zX (zc Z8 (zc (zT Z8 (YX (Yb Z8 (Wi 1000000000000000000000000000000 (by decide +kernel) ⟨by decide,by decide,by decide⟩)) zq)) (zc Z8 (zc (zT Z8 (YX (Yb Z8 (Wi 100000000000000000000000000000000000 (by decide +kernel) ⟨by decide,by decide,by decide⟩)) zq)) (zc Z8 (zc Z8 (zc Z8 (zc Z8 zm))))))))) zm)))))))))) zM))))
 (zp (zJ Z8))))
variable (xem:Got P w K mg base 2 "_law_fogs" ["seeds","first","last"] (Z4 K Dp.zdK))
include xar xdw xcg xem in
def zlq (F:Fk K "_law_parts" zhR f fd):zO P w K mg base ZV 3 f fd ["script"] (Z4 K Dp.zdh):=ZD (M:=["head","count","seeds","first","last","ground","haze","beacons","fogs"]) F Dp.zlV fun hnd hr=>(zj (zy hnd (YX (zE xar hr (zc Z8 (zc zq zm))) (Wi 1000000000000000000000000000000 (by decide +kernel) ⟨by decide,by decide,by decide⟩)))
 (zj (zy hnd (zT zq (YX Z8 zq)))
 (zj (zy hnd (zE xdw hr (zc (zjj Z8 (zfD zq) zfG) (zc zq zm))))
 (zj (zy hnd (zZ (YX (Yb Z8 zq) zq) zq))
 (zj (zy hnd (zT Z8 (YX (Yb Z8 zq) zq)))
 (zj (zy hnd (W9 (zc (zX (zc (XF zq) (zc (XF zq) zm))) (zc (zX (zc (zZ (YX (Yb Z8 (Wi 1000000 (by decide +kernel) ⟨by decide,by decide,by decide⟩)) zq) zq) (zc (zZ (YX (Yb Z8 (Wi 100000000 (by decide +kernel) ⟨by decide,by decide,by decide⟩)) zq) zq) zm))) (zc (zX (zc zq (zc (XF zq) zm))) zm)))))
 (zj (zy hnd (zu (W9 (zc WM (zc (zT zq (YX (Yb Z8 (Wi 10000000000 (by decide +kernel) ⟨by decide,by decide,by decide⟩)) zq)) (zc zq zm)))) (YX (Yb Z8 (Wi 10000000000000 (by decide +kernel) ⟨by decide,by decide,by decide⟩)) zq)))
 (zj (QF hnd (own:=["name","x","z"]) (free:=[]) True.intro True.intro (Zg (zE xcg hr (zc (zjj Z8 zfG (zfD Z8)) zm))) ⟨(zeA (Vp (Wo 0 (by decide)) (Vp (Wo 1 (by decide)) (Vp (Wo 2 (by decide)) zdN)))),fun _ _ _ _ _=>(zfz rfl (V6 (Wg (show List.Nodup (["name","x","z"]:List Str) by decide +kernel) rfl (Or.inl rfl) (Or.inr rfl)) (V6 (Wg (show List.Nodup (["name","x","z"]:List Str) by decide +kernel) rfl (Or.inl rfl) (Or.inr rfl)) (V6 (Wg (show List.Nodup (["name","x","z"]:List Str) by decide +kernel) rfl (Or.inl rfl) (Or.inr rfl)) O8))))⟩ (fun _ _ _ _ _=>Xf) (fun _ _ _ _ _=>(zX (zc Z8 (zc Z8 (zc (zT Z8 zq) zm))))))
 (zj (zy hnd (zE xem hr (zc Z8 (zc Z8 (zc Z8 zm)))))
 (zp (zJ (zX (zc Z8 (zc Z8 (zc Z8 (zc Z8 (zc Z8 (zc Z8 (zc (YX (Yb Z8 (Wi 1000000000000000 (by decide +kernel) ⟨by decide,by decide,by decide⟩)) zq) zm)))))))))))))))))))
variable (xdy:Got P w K mg base 3 "_law_parts" ["script"] (Z4 K Dp.zdh))
variable (xbz:∃ t,mg "LEAST_CORNERS"=some (.int 2 t))
variable (xb4:∃ t,mg "MOST_CORNERS"=some (.int 40 t))
include xg xap xbz xb4 in
def zfC (F:Fk K "refuse_bad_corners" zdl f fd):zO P w K mg base ZV 1 f fd ["corners"] (Z4 K Dp.za7):=ZD (M:=["k"]) F Dp.zfq fun hnd hr=>(zj (zP (WL (Sh (zG X6 (ZL Yx xg boot_len (zc Z8 zm)) (zK rfl xbz)) (Q8 (zG W5 (ZL Yx xg boot_len (zc Z8 zm)) (zK rfl xb4))))) (zp U6) zM)
 (zp (YK (ztT xap (zc zq (zc (ZL Yx xg boot_len (zc Z8 zm)) zm))) (zN hnd) (zp (zP (zG Vc (zu (zu Z8 Z8) zq) (zu (zu Z8 (zZ Z8 zq)) zq)) (zp U6) zM)))))
variable (xat:Got P w K mg base 1 "refuse_bad_corners" ["corners"] (Z4 K Dp.za7))
variable (xbb:∀ C,W.nsIn K mainGlobals "Ground"=some (some (.ref C))->YM K C "corners")
variable (xb1:mg "list"=none)
include xat xbb xb1 in
def zjK (F:V5 K "__init__" "Ground.__init__" zch f fd):zO P w K mg base ZV 2 f fd ["self","corners"] (Z4 K Dp.zdr):=ZD (M:=[]) F Dp.zjr fun hnd hr=>(zj (zW (zE xat hr (zc Z8 zm)))
 (zp (R8 xbb Z8 (Q7 zjv xb1 boot_list (zc Z8 zm)))))
variable (xcn:zjJ P w K mg base 2 "Ground" (Z4 K Dp.zeV))
variable (xb8:∃ t,mg "MOST_BEACONS"=some (.int 12 t))
variable (xds:∃ t,mg "MOST_FOGS"=some (.int 12 t))
include xg xb8 xds in
def zfJ (F:Fk K "refuse_bad_numbers" zc4 f fd):zO P w K mg base ZV 1 f fd ["beacons","fogs"] (Z4 K Dp.za8):=ZD (M:=[]) F Dp.zfy fun hnd hr=>(zj (zP (WL (Sh (zG X6 (ZL Yx xg boot_len (zc Z8 zm)) zq) (Q8 (zG W5 (ZL Yx xg boot_len (zc Z8 zm)) (zK rfl xb8))))) (zp U6) zM)
 (zp (zP (zG W5 (ZL Yx xg boot_len (zc Z8 zm)) (zK rfl xds)) (zp U6) zM)))
variable (xas:Got P w K mg base 1 "refuse_bad_numbers" ["beacons","fogs"] (Z4 K Dp.za8))
variable (xb7:∃ t,mg "MOST_LETTERS"=some (.int 8 t))
variable (xeu:∃ t,mg "LETTERS"=some (.str "abcdefghijklmnopqrstuvwxyz" t))
variable (xbf:mg "all"=none)
include xg xb7 xeu xbf in
def zoE (F:Fk K "is_name" zj8 f fd):zO P w K mg base ZV 1 f fd ["text"] (Z4 K Dp.zeg):=ZD (M:=[]) F Dp.znW fun hnd hr=>(zj (zP (WL (Sh (zG X6 (ZL Yx xg boot_len (zc Z8 zm)) zq) (Q8 (zG W5 (ZL Yx xg boot_len (zc Z8 zm)) (zK rfl xb7))))) (zp (zJ Rq)) zM)
 (zp (zJ (ZL zgR xbf boot_all (zc (Wk (own:=["sign"]) (free:=[]) True.intro True.intro (Zg Z8) WY (fun _ _ _ _ _=>Xf) (fun _ _ _ _ _=>(ztO (zxI hr) Z8 (ztF rfl xeu)))) zm)))))
variable (xev:Got P w K mg base 1 "is_name" ["text"] (Z4 K Dp.zeg))
variable (xih:mg "set"=none)
include xg xbf xev xih in
def zgu (F:Fk K "refuse_bad_names" zdT f fd):zO P w K mg base ZV 2 f fd ["names"] (Z4 K Dp.zbx):=ZD (M:=[]) F Dp.zgr fun hnd hr=>(zj (zP (SN (Vz (ZL zgR xbf boot_all (zc (Wk (own:=["name"]) (free:=[]) True.intro True.intro (Zg Z8) WY (fun _ _ _ _ _=>Xf) (fun _ _ _ _ _=>(zE xev hr (zc Z8 zm)))) zm)))) (zp U6) zM)
 (zp (zP (zG X6 (zsT rfl xg rfl xih (zc Z8 zm)) (ZL Yx xg boot_len (zc Z8 zm))) (zp U6) zM)))
variable (xa3:Got P w K mg base 2 "refuse_bad_names" ["names"] (Z4 K Dp.zbx))
def ztc (F:Fk K "less" zpZ f fd):zO P w K mg base ZV 1 f fd ["one","other"] (Z4 K Dp.PK):=ZD (M:=[]) F Dp.zsP fun hnd hr=>(zp (zJ (QC X6 (Yn (zu Z8 zq) (zu Z8 zq)) (Yn (zu Z8 zq) (zu Z8 zq)))))
variable (xb2:Got P w K mg base 1 "less" ["one","other"] (Z4 K Dp.PK))
include xb2 in
def zrM (F:Fk K "is_on" zmT f fd):zO P w K mg base ZV 2 f fd ["ground","place"] (Z4 K Dp.zex):=ZD (M:=["first","last"]) F Dp.zrP fun hnd hr=>(zj (zy hnd (zX (zc (zu (zu (Yu Z8 rfl) zq) zq) (zc zq zm))))
 (zj (zy hnd (zX (zc (zu (zu (Yu Z8 rfl) (XF zq)) zq) (zc zq zm))))
 (zp (zJ (zhp (zhy (zE xb2 hr (zc Z8 (zc Z8 zm)))) (zi1 (zhy (zE xb2 hr (zc Z8 (zc Z8 zm))))))))))
variable (xdr:Got P w K mg base 2 "is_on" ["ground","place"] (Z4 K Dp.zex))
variable (xig:mg "abs"=none)
include xig in
def zhE (F:Fk K "common_divisor" zeS f fd):zO P w K mg base ZV 1 f fd ["one","other"] (Z4 K Dp.zbT):=ZD (M:=["rest"]) F Dp.zhF fun hnd hr=>(zj (ze3 (zG (Sd hr) Z8 zq) (zj (zy hnd (YX Z8 Z8))
 (zj (zy hnd Z8)
 (zp (zy hnd Z8)))))
 (zp (zJ (ZL zv7 xig boot_abs (zc Z8 zm)))))
variable (xbm:Got P w K mg base 1 "common_divisor" ["one","other"] (Z4 K Dp.zbT))
include xbm in
def zmn (F:Fk K "fraction" zi5 f fd):zO P w K mg base ZV 2 f fd ["top","bottom"] (Z4 K Dp.zdD):=ZD (M:=["divisor"]) F Dp.zmw fun hnd hr=>(zj (zy hnd (zE xbm hr (zc Z8 (zc Z8 zm))))
 (zj (zhx (zP (zG X6 Z8 zq) (zp (zy hnd (XF Z8))) zM))
 (zp (zJ (zX (zc (Yb Z8 Z8) (zc (Yb Z8 Z8) zm)))))))
variable (xeq:Got P w K mg base 2 "fraction" ["top","bottom"] (Z4 K Dp.zdD))
include xeq in
def zly (F:Fk K "height_on" zh4 f fd):zO P w K mg base ZV 3 f fd ["one","other","place"] (Z4 K Dp.zdf):=ZD (M:=["run","rise","top"]) F Dp.zlM fun hnd hr=>(zj (zy hnd (zZ (zu Z8 zq) (zu Z8 zq)))
 (zj (zy hnd (zZ (zu Z8 zq) (zu Z8 zq)))
 (zj (zy hnd (zT (Yn (Yn (zu Z8 zq) Z8) (zu Z8 zq)) (Yn Z8 (zZ (zu Z8 zq) (Yn (zu Z8 zq) (zu Z8 zq))))))
 (zp (zJ (zE xeq hr (zc Z8 (zc (Yn Z8 (zu Z8 zq)) zm))))))))
variable (xd5:Got P w K mg base 3 "height_on" ["one","other","place"] (Z4 K Dp.zdf))
variable (xay:∀ C,W.nsIn K mainGlobals "OffGround"=some (some (.ref C))->SQ K C)
variable (xax:∃ C,W.nsIn K mainGlobals "OffGround"=some (some (.ref C))/\mg "OffGround"=some (.ref C))
include xb2 xdr xd5 xay xax in
def zmk (F:Fk K "ground_at" zhK f fd):zO P w K mg base (Xp P w) 4 f fd ["ground","place"] (XC K Dp.zdk):=RW (M:=["corners","k"]) F Dp.zlX fun hnd hr ex hX hM=>(zj (zP (SN (Vz (zE xdr hr (zc Z8 (zc Z8 zm))))) (zp (ze8 hM rfl xay xax rfl (zc U8 zm) (fun _ _ _ h=>h _))) zM)
 (zj (zy hnd (Yu Z8 rfl))
 (zj (zy hnd zq)
 (zj (ze3 (Vz (zE xb2 hr (zc (zX (zc (zu (zu Z8 Z8) zq) (zc zq zm))) (zc Z8 zm)))) (zp (ztz hnd zq)))
 (zp (zJ (zE xd5 hr (zc (zu Z8 (zZ Z8 zq)) (zc (zu Z8 Z8) (zc Z8 zm))))))))))
variable (xd2:Uw P w K mg base 4 "ground_at" ["ground","place"] (XC K Dp.zdk))
include xb2 xdr xd2 in
def zpt (F:Fk K "stands" zkW f fd):zO P w K mg base ZV 5 f fd ["ground","spot"] (Z4 K Dp.zd2):=ZD (M:=["place"]) F Dp.zpA fun hnd hr=>(zj (zy hnd (zX (zc (zu Z8 zq) (zc zq zm))))
 (zj (zP (SN (Vz (zE xdr hr (zc Z8 (zc Z8 zm))))) (zp (zJ Rq)) zM)
 (zp (zJ (zhy (zE xb2 hr (zc (zX (zc (zu Z8 zq) (zc zq zm))) (zc (Vm xd2 ziQ hr (zc Z8 (zc Z8 zm))) zm))))))))
variable (xcm:Got P w K mg base 5 "stands" ["ground","spot"] (Z4 K Dp.zd2))
include xbf xcm in
def zgD (F:Fk K "refuse_bad_tops" zed f fd):zO P w K mg base ZV 6 f fd ["ground","beacons"] (Z4 K Dp.zbH):=ZD (M:=[]) F Dp.zgv fun hnd hr=>(zp (zP (SN (Vz (ZL zgR xbf boot_all (zc (Wk (own:=["name","x","z"]) (free:=["ground"]) ⟨rfl,True.intro⟩ ⟨rfl,rfl,rfl,True.intro⟩ (Zg Z8) ⟨(zeA (Vp (Wo 0 (by decide)) (Vp (Wo 1 (by decide)) (Vp (Wo 2 (by decide)) zdN)))),fun _ _ _ _ _=>(zfz rfl (V6 (Wg (show List.Nodup (["name","x","z","ground"]:List Str) by decide +kernel) rfl (Or.inl rfl) (Or.inr rfl)) (V6 (Wg (show List.Nodup (["name","x","z","ground"]:List Str) by decide +kernel) rfl (Or.inl rfl) (Or.inr rfl)) (V6 (Wg (show List.Nodup (["name","x","z","ground"]:List Str) by decide +kernel) rfl (Or.inl rfl) (Or.inr rfl)) O8))))⟩ (fun _ _ _ _ _=>Xf) (fun _ _ _ _ _=>(zE xcm hr (zc Z8 (zc (zX (zc Z8 (zc Z8 zm))) zm))))) zm)))) (zp U6) zM))
variable (xa9:Got P w K mg base 6 "refuse_bad_tops" ["ground","beacons"] (Z4 K Dp.zbH))
variable (xfz:mg "int"=none)
variable (xac:mg "isinstance"=none)
variable (xet:mg "bool"=none)
include xfz xac xet in
def zmB (F:Fk K "is_whole" ziT f fd):zO P w K mg base ZV 1 f fd ["value"] (Z4 K Dp.zdJ):=ZD (M:=[]) F Dp.zmA fun hnd hr=>(zp (zJ (zhp (ZL zgw xac boot_isinstance (zc Z8 (zc (ziX rfl xfz boot_int) zm))) (zi1 (zhy (ZL zgw xac boot_isinstance (zc Z8 (zc (ziX rfl xet boot_bool) zm))))))))
variable (xen:Got P w K mg base 1 "is_whole" ["value"] (Z4 K Dp.zdJ))
variable (xe7:∃ t,mg "NUMBERS"=some (.int 8 t))
variable (xbq:∃ t,mg "LEFT"=some (.int 0 t))
variable (xaz:∃ t,mg "RIGHT"=some (.int 1 t))
variable (xag:∃ t,mg "LOW_fogs"=some (.int 2 t))
variable (xaf:∃ t,mg "HIGH_fogs"=some (.int 3 t))
variable (xcc:∃ t,mg "FIRST"=some (.int 4 t))
variable (xer:∃ t,mg "LAST"=some (.int 5 t))
variable (xak:mg "tuple"=none)
include xg xbf xac xen xe7 xbq xaz xag xaf xcc xer xak in
def zpm (F:Fk K "is_fog" zl3 f fd):zO P w K mg base ZV 2 f fd ["value"] (Z4 K Dp.ze5):=ZD (M:=[]) F Dp.zqb fun hnd hr=>(zj (zP (WL (Sh (SN (Vz (ZL zgw xac boot_isinstance (zc Z8 (zc (ziX rfl xak boot_tuple) zm))))) (Q8 (zG (Sd hr) (ZL Yx xg boot_len (zc Z8 zm)) (zK rfl xe7))))) (zp (zJ Rq)) zM)
 (zj (zP (SN (Vz (ZL zgR xbf boot_all (zc (Wk (own:=["number"]) (free:=[]) True.intro True.intro (Zg Z8) WY (fun _ _ _ _ _=>Xf) (fun _ _ _ _ _=>(zE xen hr (zc Z8 zm)))) zm)))) (zp (zJ Rq)) zM)
 (zp (zJ (zhp (QC Vc (zu Z8 (zK rfl xbq)) (zu Z8 (zK rfl xaz))) (zhp (QC Vc (zu Z8 (zK rfl xag)) (zu Z8 (zK rfl xaf))) (zi1 (QC Vc (zu Z8 (zK rfl xcc)) (zu Z8 (zK rfl xer))))))))))
variable (xfy:Got P w K mg base 2 "is_fog" ["value"] (Z4 K Dp.ze5))
include xbf xfy in
def zgB (F:Fk K "refuse_bad_fogs" zd9 f fd):zO P w K mg base ZV 3 f fd ["fogs"] (Z4 K Dp.zbF):=ZD (M:=[]) F Dp.zgC fun hnd hr=>(zp (zP (SN (Vz (ZL zgR xbf boot_all (zc (Wk (own:=["fog"]) (free:=[]) True.intro True.intro (Zg Z8) WY (fun _ _ _ _ _=>Xf) (fun _ _ _ _ _=>(zE xfy hr (zc Z8 zm)))) zm)))) (zp U6) zM))
variable (xbc:Got P w K mg base 3 "refuse_bad_fogs" ["fogs"] (Z4 K Dp.zbF))
def zgp (F:Fk K "refuse_bad_hours" zdX f fd):zO P w K mg base ZV 1 f fd ["haze","first","last","delay"] (Z4 K Dp.zby):=ZD (M:=[]) F Dp.zgq fun hnd hr=>(zj (zP (zG W5 Z8 Z8) (zp U6) zM)
 (zj (zP (zG X6 Z8 zq) (zp U6) zM)
 (zp (zP (WL (Ub (zG Qg Z8 WM) (Rg (zG X6 Z8 zq)))) (zp U6) zM))))
variable (xa5:Got P w K mg base 1 "refuse_bad_hours" ["haze","first","last","delay"] (Z4 K Dp.zby))
variable (xbp:∀ C,W.nsIn K mainGlobals "Valley"=some (some (.ref C))->YM K C "ground")
variable (xbh:∀ C,W.nsIn K mainGlobals "Valley"=some (some (.ref C))->YM K C "beacons")
variable (xb3:∀ C,W.nsIn K mainGlobals "Valley"=some (some (.ref C))->YM K C "fogs")
variable (xcb:∀ C,W.nsIn K mainGlobals "Valley"=some (some (.ref C))->YM K C "haze")
variable (xbu:∀ C,W.nsIn K mainGlobals "Valley"=some (some (.ref C))->YM K C "first")
variable (xb5:∀ C,W.nsIn K mainGlobals "Valley"=some (some (.ref C))->YM K C "last")
variable (xbx:∀ C,W.nsIn K mainGlobals "Valley"=some (some (.ref C))->YM K C "delay")
include xb1 xcn xas xa3 xa9 xbc xa5 xbp xbh xb3 xcb xbu xb5 xbx in
def zjQ (F:V5 K "__init__" "Valley.__init__" zce f fd):zO P w K mg base ZV 7 f fd ["self","ground","beacons","fogs","haze","first","last","delay"] (Z4 K Dp.zdx):=ZD (M:=[]) F Dp.zjV fun hnd hr=>(zj (zW (zE xas hr (zc Z8 (zc Z8 zm))))
 (zj (zW (zE xa3 hr (zc (Wk (own:=["beacon"]) (free:=[]) True.intro True.intro (Zg Z8) WY (fun _ _ _ _ _=>Xf) (fun _ _ _ _ _=>(zu Z8 zq))) zm)))
 (zj (zW (zE xa9 hr (zc Z8 (zc Z8 zm))))
 (zj (zW (zE xbc hr (zc Z8 zm)))
 (zj (zW (zE xa5 hr (zc Z8 (zc Z8 (zc Z8 (zc Z8 zm))))))
 (zj (R8 xbp Z8 (zlk xcn hr (zc (Yu Z8 rfl) zm)))
 (zj (R8 xbh Z8 (Q7 zjv xb1 boot_list (zc Z8 zm)))
 (zj (R8 xb3 Z8 (Q7 zjv xb1 boot_list (zc Z8 zm)))
 (zj (R8 xcb Z8 Z8)
 (zj (R8 xbu Z8 Z8)
 (zj (R8 xb5 Z8 Z8)
 (zp (R8 xbx Z8 Z8)))))))))))))
variable (xf2:zjJ P w K mg base 7 "Valley" (Z4 K Dp.zg6))
include xcn xf2 in
def zkM (F:Fk K "_law_valley" zgz f fd):zO P w K mg base ZV 9 f fd ["parts"] (Z4 K Dp.zcP):=ZD (M:=["ground","beacons","fogs","haze","first","last","delay"]) F Dp.zkN fun hnd hr=>(zj (zeq Z8 (Vv rfl (Y5 (zN hnd) (Y5 (zN hnd) (Y5 (zN hnd) (Y5 (zN hnd) (Y5 (zN hnd) (Y5 (zN hnd) (Y5 (zN hnd) Vo)))))))))
 (zp (zJ (zlk xf2 hr (zc (zlk xcn hr (zc Z8 zm)) (zc Z8 (zc Z8 (zc Z8 (zc Z8 (zc Z8 (zc Z8 zm)))))))))))
variable (xco:Got P w K mg base 9 "_law_valley" ["parts"] (Z4 K Dp.zcP))
variable (xa8:∀ C,W.nsIn K mainGlobals "NoBeacon"=some (some (.ref C))->SQ K C)
variable (xa7:∃ C,W.nsIn K mainGlobals "NoBeacon"=some (some (.ref C))/\mg "NoBeacon"=some (.ref C))
include xa8 xa7 in
def zod (F:Fk K "spot_of" zke f fd):zO P w K mg base (Xp P w) 1 f fd ["valley","name"] (XC K Dp.zde):=RW (M:=["beacon"]) F Dp.zoA fun hnd hr ex hX hM=>(zj (YK (Zg (Yu Z8 rfl)) (zN hnd) (zp (zP (zG (Wq hr) (zu Z8 zq) Z8) (zp (zJ (zX (zc (zu Z8 zq) (zc (zu Z8 zq) zm))))) zM)))
 (zp (ze8 hM rfl xa8 xa7 rfl (zc U8 zm) (fun _ _ _ h=>h _))))
variable (xd9:Uw P w K mg base 1 "spot_of" ["valley","name"] (XC K Dp.zde))
include xay xax xcm in
def zfn (F:Fk K "refuse_not_standing" zcZ f fd):zO P w K mg base (Xp P w) 6 f fd ["ground","spot"] (XC K Dp.zaL):=RW (M:=[]) F Dp.zfk fun hnd hr ex hX hM=>(zp (zP (SN (Vz (zE xcm hr (zc Z8 (zc Z8 zm))))) (zp (ze8 hM rfl xay xax rfl (zc U8 zm) (fun _ _ _ h=>h _))) zM))
variable (xai:Uw P w K mg base 6 "refuse_not_standing" ["ground","spot"] (XC K Dp.zaL))
variable (xaj:mg "min"=none)
variable (xab:mg "max"=none)
include xaa xaj xab in
def zg0 (F:Fk K "numbers_between" zec f fd):zO P w K mg base ZV 1 f fd ["ground","x","other_x"] (Z4 K Dp.zbI):=ZD (M:=["low","high"]) F Dp.zgI fun hnd hr=>(zj (zy hnd (ZL RP xaj boot_min (zc Z8 (zc Z8 zm))))
 (zj (zy hnd (ZL Vs xab boot_max (zc Z8 (zc Z8 zm))))
 (zp (zJ (Wk (own:=["k","corner"]) (free:=["low","high"]) ⟨rfl,rfl,True.intro⟩ ⟨rfl,rfl,rfl,rfl,rfl,rfl,True.intro⟩ (zb1 rfl xaa (zc (Yu Z8 rfl) zm)) ⟨(zeA (Vp (Wo 0 (by decide)) (Vp (Wo 1 (by decide)) zdN))),fun _ _ _ _ _=>(zfz rfl (V6 (Wg (show List.Nodup (["k","corner","low","high"]:List Str) by decide +kernel) rfl (Or.inl rfl) (Or.inr rfl)) (V6 (Wg (show List.Nodup (["k","corner","low","high"]:List Str) by decide +kernel) rfl (Or.inl rfl) (Or.inr rfl)) O8)))⟩ (fun _ _ _ _ _=>(zht (zpx X6 X6 Z8 (zu Z8 zq) Z8))) (fun _ _ _ _ _=>Z8))))))
variable (xbd:Got P w K mg base 1 "numbers_between" ["ground","x","other_x"] (Z4 K Dp.zbI))
def zob (F:Fk K "side_of" zj4 f fd):zO P w K mg base ZV 1 f fd ["one","other","spot"] (Z4 K Dp.zef):=ZD (M:=["run","rise","over"]) F Dp.zog fun hnd hr=>(zj (zy hnd (zZ (zu Z8 zq) (zu Z8 zq)))
 (zj (zy hnd (zZ (zu Z8 zq) (zu Z8 zq)))
 (zj (zy hnd (zZ (Yn (zZ (zu Z8 zq) (zu Z8 zq)) Z8) (Yn (zZ (zu Z8 zq) (zu Z8 zq)) Z8)))
 (zj (zhx (zP (zG X6 Z8 zq) (zp (zy hnd (XF Z8))) zM))
 (zj (zP (zG W5 Z8 zq) (zp (zJ zq)) zM)
 (zj (zP (zG X6 Z8 zq) (zp (zJ (XF zq))) zM)
 (zp (zJ zq))))))))
variable (xfd:Got P w K mg base 1 "side_of" ["one","other","spot"] (Z4 K Dp.zef))
include xai xbd xfd in
def zoX (F:Fk K "hinder" zk7 f fd):zO P w K mg base (Xp P w) 7 f fd ["ground","one","other"] (XC K Dp.ze1):=RW (M:=["k"]) F Dp.zqe fun hnd hr ex hX hM=>(zj (zW (Vm xai hX hr (zc Z8 (zc Z8 zm))))
 (zj (zW (Vm xai hX hr (zc Z8 (zc Z8 zm))))
 (zj (YK (Zg (zE xbd hr (zc Z8 (zc (zu Z8 zq) (zc (zu Z8 zq) zm))))) (zN hnd) (zp (zP (zG W5 (zE xfd hr (zc Z8 (zc Z8 (zc (zu (Yu Z8 rfl) Z8) zm)))) zq) (zp (zJ Z8)) zM)))
 (zp (zJ WM)))))
variable (xfo:Uw P w K mg base 7 "hinder" ["ground","one","other"] (XC K Dp.ze1))
def zhD (F:Fk K "square_between" zeG f fd):zO P w K mg base ZV 1 f fd ["one","other"] (Z4 K Dp.zbR):=ZD (M:=["run","climb"]) F Dp.zhG fun hnd hr=>(zj (zy hnd (zZ (zu Z8 zq) (zu Z8 zq)))
 (zj (zy hnd (zZ (zu Z8 zq) (zu Z8 zq)))
 (zp (zJ (zT (Yn Z8 Z8) (Yn Z8 Z8))))))
variable (xbl:Got P w K mg base 1 "square_between" ["one","other"] (Z4 K Dp.zbR))
include xfo xbl in
def ziz (F:Fk K "hidden_always" ze0 f fd):zO P w K mg base ZV 8 f fd ["valley","one","other"] (Z4 K Dp.zb9):=ZD (M:=["corner","square"]) F Dp.zh6 fun hnd hr=>(zj (zy hnd (Vm xfo ziQ hr (zc (Yu Z8 rfl) (zc Z8 (zc Z8 zm)))))
 (zj (zP (zG Qg Z8 WM) (zp (zJ (zX (zc U8 (zc Z8 zm))))) zM)
 (zj (zy hnd (zE xbl hr (zc Z8 (zc Z8 zm))))
 (zj (zP (WL (Ub (zG Qg (Yu Z8 rfl) WM) (Rg (zG W5 Z8 (Yu Z8 rfl))))) (zp (zJ (zX (zc U8 (zc Z8 zm))))) zM)
 (zp (zJ WM))))))
variable (xbs:Got P w K mg base 8 "hidden_always" ["valley","one","other"] (Z4 K Dp.zb9))
variable (xgk:∃ t,mg "DRIFT"=some (.int 6 t))
variable (xg4:∃ t,mg "RISE"=some (.int 7 t))
include xbq xaz xag xaf xgk xg4 in
def zqw (F:Fk K "moved" znk f fd):zO P w K mg base ZV 1 f fd ["fog","hours"] (Z4 K Dp.zeQ):=ZD (M:=["along","upwards"]) F Dp.zqL fun hnd hr=>(zj (zy hnd (Yn (zu Z8 (zK rfl xgk)) Z8))
 (zj (zy hnd (Yn (zu Z8 (zK rfl xg4)) Z8))
 (zp (zJ (zX (zc (zT (zu Z8 (zK rfl xbq)) Z8) (zc (zT (zu Z8 (zK rfl xaz)) Z8) (zc (zT (zu Z8 (zK rfl xag)) Z8) (zc (zT (zu Z8 (zK rfl xaf)) Z8) zm)))))))))
variable (xfk:Got P w K mg base 1 "moved" ["fog","hours"] (Z4 K Dp.zeQ))
include xbq xaz xag xaf xaj xab in
def znF (F:Fk K "margins" zkg f fd):zO P w K mg base ZV 1 f fd ["box","one","other"] (Z4 K Dp.zc9):=ZD (M:=["run","climb","corners","across"]) F Dp.znL fun hnd hr=>(zj (zy hnd (zZ (zu Z8 zq) (zu Z8 zq)))
 (zj (zy hnd (zZ (zu Z8 zq) (zu Z8 zq)))
 (zj (zy hnd (W9 (zc (zX (zc (zu Z8 (zK rfl xbq)) (zc (zu Z8 (zK rfl xag)) zm))) (zc (zX (zc (zu Z8 (zK rfl xbq)) (zc (zu Z8 (zK rfl xaf)) zm))) (zc (zX (zc (zu Z8 (zK rfl xaz)) (zc (zu Z8 (zK rfl xag)) zm))) (zc (zX (zc (zu Z8 (zK rfl xaz)) (zc (zu Z8 (zK rfl xaf)) zm))) zm))))))
 (zj (QF hnd (own:=["x","z"]) (free:=["run","one","climb"]) ⟨rfl,rfl,rfl,True.intro⟩ ⟨rfl,rfl,rfl,rfl,rfl,rfl,rfl,rfl,rfl,True.intro⟩ (Zg Z8) ⟨(zeA (Vp (Wo 0 (by decide)) (Vp (Wo 1 (by decide)) zdN))),fun _ _ _ _ _=>(zfz rfl (V6 (Wg (show List.Nodup (["x","z","run","one","climb"]:List Str) by decide +kernel) rfl (Or.inl rfl) (Or.inr rfl)) (V6 (Wg (show List.Nodup (["x","z","run","one","climb"]:List Str) by decide +kernel) rfl (Or.inl rfl) (Or.inr rfl)) O8)))⟩ (fun _ _ _ _ _=>Xf) (fun _ _ _ _ _=>(zZ (Yn Z8 (zZ Z8 (zu Z8 zq))) (Yn Z8 (zZ Z8 (zu Z8 zq))))))
 (zp (zJ (W9 (zc (zZ (ZL Vs xab boot_max (zc (zu Z8 zq) (zc (zu Z8 zq) zm))) (zu Z8 (zK rfl xbq))) (zc (zZ (zu Z8 (zK rfl xaz)) (ZL RP xaj boot_min (zc (zu Z8 zq) (zc (zu Z8 zq) zm)))) (zc (zZ (ZL Vs xab boot_max (zc (zu Z8 zq) (zc (zu Z8 zq) zm))) (zu Z8 (zK rfl xag))) (zc (zZ (zu Z8 (zK rfl xaf)) (ZL RP xaj boot_min (zc (zu Z8 zq) (zc (zu Z8 zq) zm)))) (zc (ZL ztN xab boot_max (zc Z8 zm)) (zc (XF (ZL zt4 xaj boot_min (zc Z8 zm))) zm)))))))))))))
variable (xd8:Got P w K mg base 1 "margins" ["box","one","other"] (Z4 K Dp.zc9))
variable (xfq:mg "sorted"=none)
include xg xak xab xfq in
def ztJ (F:Fk K "tidy" zpk f fd):zO P w K mg base ZV 1 f fd ["pairs"] (Z4 K Dp.Qo):=ZD (M:=["found","low","high"]) F Dp.ztH fun hnd hr=>(zj (zy hnd (W9 zm))
 (zj (YK (Zg (ZL zua xfq boot_sorted (zc (Wk (own:=["pair"]) (free:=[]) True.intro True.intro (Zg Z8) WY (fun _ _ _ _ _=>(zht (zG Vc (zu Z8 zq) (zu Z8 zq)))) (fun _ _ _ _ _=>(zX (zc (zu Z8 zq) (zc (zu Z8 zq) zm))))) zm))) (Vv rfl (Y5 (zN hnd) (Y5 (zN hnd) Vo))) (zp (zP (WL (Ub (zG W5 (ZL Yx xg boot_len (zc Z8 zm)) zq) (Rg (zG Vc Z8 (zT (zu (zu Z8 (XF zq)) zq) zq))))) (zp (zeq (zX (zc (zu (zu Z8 (XF zq)) zq) (zc (ZL Vs xab boot_max (zc (zu (zu Z8 (XF zq)) zq) (zc Z8 zm))) zm))) (zfw Z8 (XF zq)))) (zp (zW (UG PySem.F.slot_list_append PySem.F.type_list_append QT Z8 (zc (zX (zc Z8 (zc Z8 zm))) zm)))))))
 (zp (zJ (Q7 zfU xak boot_tuple (zc Z8 zm))))))
variable (xbi:Got P w K mg base 1 "tidy" ["pairs"] (Z4 K Dp.Qo))
variable (xfw:mg "zip"=none)
include xcc xer xaj xab xfk xd8 xbi xfw in
def zrl (F:Fk K "foggy" znq f fd):zO P w K mg base ZV 2 f fd ["fog","one","other"] (Z4 K Dp.zfV):=ZD (M:=["low","high","starts","afters","start","after","step"]) F Dp.zrF fun hnd hr=>(zj (zy hnd zq)
 (zj (zy hnd (zZ (zu Z8 (zK rfl xer)) (zu Z8 (zK rfl xcc))))
 (zj (zy hnd (zE xd8 hr (zc (zE xfk hr (zc Z8 (zc zq zm))) (zc Z8 (zc Z8 zm)))))
 (zj (zy hnd (zE xd8 hr (zc (zE xfk hr (zc Z8 (zc zq zm))) (zc Z8 (zc Z8 zm)))))
 (zj (YK (zoT rfl xfw (zc Z8 (zc Z8 zm))) (Vv rfl (Y5 (zN hnd) (Y5 (zN hnd) Vo))) (zj (zy hnd (zZ Z8 Z8))
 (zp (zP (zG W5 Z8 zq) (zp (zy hnd (ZL Vs xab boot_max (zc Z8 (zc (XF (Yb Z8 Z8)) zm))))) (zp (zP (zG X6 Z8 zq) (zp (zy hnd (ZL RP xaj boot_min (zc Z8 (zc (Yb Z8 (XF Z8)) zm))))) (zp (zP (zG X6 Z8 zq) (zp (zJ (zX zm))) zM))))))))
 (zp (zJ (zE xbi hr (zc (W9 (zc (zX (zc (zT (zu Z8 (zK rfl xcc)) Z8) (zc (zT (zu Z8 (zK rfl xcc)) Z8) zm))) zm)) zm)))))))))
variable (xgl:Got P w K mg base 2 "foggy" ["fog","one","other"] (Z4 K Dp.zfV))
include xbi xgl in
def zkY (F:Fk K "foggy_all" zhJ f fd):zO P w K mg base ZV 3 f fd ["fogs","one","other"] (Z4 K Dp.zda):=ZD (M:=["found","fog"]) F Dp.zlF fun hnd hr=>(zj (zy hnd (W9 zm))
 (zj (YK (Zg Z8) (zN hnd) (zp (zW (UG PySem.F.slot_list_extend PySem.F.type_list_extend zn8 Z8 (zc (zE xgl hr (zc Z8 (zc Z8 (zc Z8 zm)))) zm)))))
 (zp (zJ (zE xbi hr (zc Z8 zm))))))
variable (xdu:Got P w K mg base 3 "foggy_all" ["fogs","one","other"] (Z4 K Dp.zda))
include xbi in
def zuf (F:Fk K "gaps" zqh f fd):zO P w K mg base ZV 2 f fd ["spans","low","high"] (Z4 K Dp.zhc):=ZD (M:=["found","start","span"]) F Dp.zty fun hnd hr=>(zj (zy hnd (W9 zm))
 (zj (zy hnd Z8)
 (zj (YK (Zg Z8) (zN hnd) (zj (zW (UG PySem.F.slot_list_append PySem.F.type_list_append QT Z8 (zc (zX (zc Z8 (zc (zZ (zu Z8 zq) zq) zm))) zm)))
 (zp (zy hnd (zT (zu Z8 zq) zq)))))
 (zj (zW (UG PySem.F.slot_list_append PySem.F.type_list_append QT Z8 (zc (zX (zc Z8 (zc Z8 zm))) zm)))
 (zp (zJ (zE xbi hr (zc Z8 zm))))))))
variable (xg6:Got P w K mg base 2 "gaps" ["spans","low","high"] (Z4 K Dp.zhc))
include xaj xab xbi in
def ztn (F:Fk K "both" zp5 f fd):zO P w K mg base ZV 2 f fd ["one","other"] (Z4 K Dp.zhd):=ZD (M:=["found","low","high","other_low","other_high"]) F Dp.ztW fun hnd hr=>(zj (zy hnd (W9 zm))
 (zj (YK (Zg Z8) (Vv rfl (Y5 (zN hnd) (Y5 (zN hnd) Vo))) (zp (YK (Zg Z8) (Vv rfl (Y5 (zN hnd) (Y5 (zN hnd) Vo))) (zp (zW (UG PySem.F.slot_list_append PySem.F.type_list_append QT Z8 (zc (zX (zc (ZL Vs xab boot_max (zc Z8 (zc Z8 zm))) (zc (ZL RP xaj boot_min (zc Z8 (zc Z8 zm))) zm))) zm)))))))
 (zp (zJ (zE xbi hr (zc Z8 zm))))))
variable (xha:Got P w K mg base 2 "both" ["one","other"] (Z4 K Dp.zhd))
include xg xg6 xha in
def znz (F:Fk K "without" zks f fd):zO P w K mg base ZV 3 f fd ["one","other"] (Z4 K Dp.zee):=ZD (M:=[]) F Dp.znX fun hnd hr=>(zj (zP (zG (Wq hr) (ZL Yx xg boot_len (zc Z8 zm)) zq) (zp (zJ (zX zm))) zM)
 (zp (zJ (zE xha hr (zc Z8 (zc (zE xg6 hr (zc Z8 (zc (zu (zu Z8 zq) zq) (zc (zu (zu Z8 (XF zq)) zq) zm)))) zm))))))
variable (xfb:Got P w K mg base 3 "without" ["one","other"] (Z4 K Dp.zee))
include xd9 xbs xdu xfb in
def zqK (F:Fk K "sight" zmW f fd):zO P w K mg base (Xp P w) 9 f fd ["valley","name","other"] (XC K Dp.zeC):=RW (M:=["one_top","other_top","hours"]) F Dp.zrN fun hnd hr ex hX hM=>(zj (zy hnd (Vm xd9 hX hr (zc Z8 (zc Z8 zm))))
 (zj (zy hnd (Vm xd9 hX hr (zc Z8 (zc Z8 zm))))
 (zj (zy hnd (zX (zc (zX (zc (Yu Z8 rfl) (zc (Yu Z8 rfl) zm))) zm)))
 (zj (zP (zG (Wq hr) Z8 Z8) (zp (zJ Z8)) zM)
 (zj (zP (zG Qg (zE xbs hr (zc Z8 (zc Z8 (zc Z8 zm)))) WM) (zp (zJ (zX zm))) zM)
 (zp (zJ (zE xfb hr (zc Z8 (zc (zE xdu hr (zc (Yu Z8 rfl) (zc Z8 (zc Z8 zm)))) zm))))))))))
variable (xdj:Uw P w K mg base 9 "sight" ["valley","name","other"] (XC K Dp.zeC))
include xdj in
def zlP (F:Fk K "_law_views" zh0 f fd):zO P w K mg base ZV 10 f fd ["valley"] (Z4 K Dp.zc8):=ZD (M:=["names"]) F Dp.zlt fun hnd hr=>(zj (zy hnd (Wk (own:=["beacon"]) (free:=[]) True.intro True.intro (Zg (Yu Z8 rfl)) WY (fun _ _ _ _ _=>Xf) (fun _ _ _ _ _=>(zu Z8 zq))))
 (zp (zJ (Wk (own:=["name"]) (free:=["names","valley"]) ⟨rfl,rfl,True.intro⟩ ⟨rfl,rfl,rfl,rfl,rfl,rfl,True.intro⟩ (Zg Z8) WY (fun _ _ _ _ _=>Xf) (fun _ _ _ _ _=>(Wk (own:=["other"]) (free:=["valley","name"]) ⟨rfl,rfl,True.intro⟩ ⟨rfl,rfl,rfl,rfl,rfl,rfl,True.intro⟩ (Zg Z8) WY (fun _ _ _ _ _=>Xf) (fun _ _ _ _ _=>(Vm xdj ziQ hr (zc Z8 (zc Z8 (zc Z8 zm)))))))))))
variable (xd3:Got P w K mg base 10 "_law_views" ["valley"] (Z4 K Dp.zc8))
include xab in
def zmc (F:Fk K "_law_first" zhX f fd):zO P w K mg base ZV 1 f fd ["spans","hour"] (Z4 K Dp.zdb):=ZD (M:=["low","high"]) F Dp.zln fun hnd hr=>(zj (YK (Zg Z8) (Vv rfl (Y5 (zN hnd) (Y5 (zN hnd) Vo))) (zp (zP (zG zxj Z8 Z8) (zp (zJ (ZL Vs xab boot_max (zc Z8 (zc Z8 zm))))) zM)))
 (zp (zJ WM)))
variable (xd0:Got P w K mg base 1 "_law_first" ["spans","hour"] (Z4 K Dp.zdb))
include xg xap xaa xd0 in
def znT (F:Fk K "_law_lit" zkt f fd):zO P w K mg base ZV 2 f fd ["views","start","hour","delay"] (Z4 K Dp.zeh):=ZD (M:=["lit","turn","k","row","j","spans","u"]) F Dp.zn4 fun hnd hr=>(zj (QF hnd (own:=["row"]) (free:=[]) True.intro True.intro (Zg Z8) WY (fun _ _ _ _ _=>Xf) (fun _ _ _ _ _=>WM))
 (zj (zeq Z8 (zfw Z8 Z8))
 (zj (YK (zjY xap (zc (ZL Yx xg boot_len (zc Z8 zm)) zm)) (zN hnd) (zp (YK (zb1 rfl xaa (zc Z8 zm)) (Vv rfl (Y5 (zN hnd) (Y5 (zN hnd) Vo))) (zp (YK (zb1 rfl xaa (zc Z8 zm)) (Vv rfl (Y5 (zN hnd) (Y5 (zN hnd) Vo))) (zp (zP (WL (Ub (zG Qg (zu Z8 Z8) WM) (Rg (zG (Sd hr) Z8 Z8)))) (zj (zy hnd (zE xd0 hr (zc Z8 (zc (zu Z8 Z8) zm))))
 (zp (zP (WL (Ub (zG Qg Z8 WM) (Ub (zG (Sd hr) Z8 Z8) (Rg (WL (Sh (zG zsu (zu Z8 Z8) WM) (Q8 (zG X6 (zT Z8 Z8) (zu Z8 Z8))))))))) (zp (zeq (zT Z8 Z8) (zfw Z8 Z8))) zM))) zM)))))))
 (zp (zJ Z8)))))
variable (xe1:Got P w K mg base 2 "_law_lit" ["views","start","hour","delay"] (Z4 K Dp.zeh))
def zmp (F:Fk K "names_of" zjp f fd):zO P w K mg base ZV 1 f fd ["valley"] (Z4 K Dp.RN):=ZD (M:=[]) F Dp.zmr fun hnd hr=>(zp (zJ (Wk (own:=["beacon"]) (free:=[]) True.intro True.intro (Zg (Yu Z8 rfl)) WY (fun _ _ _ _ _=>Xf) (fun _ _ _ _ _=>(zu Z8 zq)))))
variable (xae:Got P w K mg base 1 "names_of" ["valley"] (Z4 K Dp.RN))
include xa8 xa7 xae in
def zgt (F:Fk K "refuse_no_beacon" zdU f fd):zO P w K mg base (Xp P w) 2 f fd ["valley","name"] (XC K Dp.zaX):=RW (M:=[]) F Dp.zgs fun hnd hr ex hX hM=>(zp (zP (zsU (zru hr) Z8 (zE xae hr (zc Z8 zm))) (zp (ze8 hM rfl xa8 xa7 rfl (zc U8 zm) (fun _ _ _ h=>h _))) zM))
variable (xao:Uw P w K mg base 2 "refuse_no_beacon" ["valley","name"] (XC K Dp.zaX))
variable (xcl:∃ t,mg "TO"=some (.int 2 t))
variable (xan:∃ t,mg "STEP"=some (.int 3 t))
variable (xr:∃ t,mg "LOW_reaches"=some (.int 0 t))
include xcl xan xr in
def zwJ (F:Fk K "led" zsq f fd):zO P w K mg base ZV 1 f fd ["piece","hour"] (Z4 K Dp.Vj):=ZD (M:=[]) F Dp.zvI fun hnd hr=>(zp (zJ (zT (zu Z8 (zK rfl xcl)) (Yn (zu Z8 (zK rfl xan)) (zZ Z8 (zu Z8 (zK rfl xr)))))))
variable (xam:Got P w K mg base 1 "led" ["piece","hour"] (Z4 K Dp.Vj))
variable (xq:∃ t,mg "HIGH_reaches"=some (.int 1 t))
include xcl xr xam xq in
def zi9 (F:Fk K "can_be_drawn" zfK f fd):zO P w K mg base ZV 2 f fd ["piece","to"] (Z4 K Dp.zco):=ZD (M:=[]) F Dp.ziI fun hnd hr=>(zj (zP (zG (Wq hr) (zu Z8 (zK rfl xr)) (zu Z8 (zK rfl xq))) (zp (zJ (zuq (QC (Wq hr) Z8 (zu Z8 (zK rfl xcl))) (zi1 (QC (Wq hr) Z8 (zT (zu Z8 (zK rfl xcl)) zq)))))) zM)
 (zp (zJ (QC (Wq hr) Z8 (zE xam hr (zc Z8 (zc (zT (zu Z8 (zK rfl xq)) zq) zm)))))))
variable (xb9:Got P w K mg base 2 "can_be_drawn" ["piece","to"] (Z4 K Dp.zco))
include xam xq in
def zoK (F:Fk K "end_of" zlE f fd):zO P w K mg base ZV 2 f fd ["piece"] (Z4 K Dp.zdZ):=ZD (M:=[]) F Dp.zoS fun hnd hr=>(zp (zJ (zE xam hr (zc Z8 (zc (zu Z8 (zK rfl xq)) zm)))))
variable (xck:Got P w K mg base 2 "end_of" ["piece"] (Z4 K Dp.zdZ))
include xg xcl xr xb9 xck in
def zvc (F:Fk K "put" zsA f fd):zO P w K mg base ZV 3 f fd ["pieces","low","high","to","step"] (Z4 K Dp.RQ):=ZD (M:=["start","last","drawn_step","drawn_high"]) F Dp.zwA fun hnd hr=>(zj (zy hnd Z8)
 (zj (zhx (zP (WL (Ub (zG Vc Z8 Z8) (Ub (zG W5 (ZL Yx xg boot_len (zc Z8 zm)) zq) (Rg (Vz (zE xb9 hr (zc (zu Z8 (XF zq)) (zc Z8 zm)))))))) (zj (zy hnd (zu Z8 (XF zq)))
 (zj (zy hnd (zZ Z8 (zE xck hr (zc Z8 zm))))
 (zj (zhx (zy hnd (zfF (zG (Wq hr) Z8 Z8) Z8 Z8)))
 (zj (zeq (zX (zc (zu Z8 (zK rfl xr)) (zc Z8 (zc (zu Z8 (zK rfl xcl)) (zc Z8 zm))))) (zfw Z8 (XF zq)))
 (zp (zy hnd (zT Z8 zq))))))) zM))
 (zp (zP (zG Vc Z8 Z8) (zp (zW (UG PySem.F.slot_list_append PySem.F.type_list_append QT Z8 (zc (zX (zc Z8 (zc Z8 (zc (zT Z8 (Yn Z8 (zZ Z8 Z8))) (zc (zfF (zG X6 Z8 Z8) Z8 zq) zm))))) zm)))) zM))))
variable (xcj:Got P w K mg base 3 "put" ["pieces","low","high","to","step"] (Z4 K Dp.RQ))
include xak xab xcj in
def zmy (F:Fk K "reach_of" zjk f fd):zO P w K mg base ZV 4 f fd ["spans","delay","first"] (Z4 K Dp.zcI):=ZD (M:=["found","hour","low","high","start"]) F Dp.zmm fun hnd hr=>(zj (zy hnd (W9 zm))
 (zj (zy hnd Z8)
 (zj (YK (Zg Z8) (Vv rfl (Y5 (zN hnd) (Y5 (zN hnd) Vo))) (zj (zW (zE xcj hr (zc Z8 (zc Z8 (zc (zZ Z8 zq) (zc (zT Z8 Z8) (zc zq zm)))))))
 (zj (zy hnd (ZL Vs xab boot_max (zc Z8 (zc Z8 zm))))
 (zj (zW (zE xcj hr (zc Z8 (zc Z8 (zc Z8 (zc (zT Z8 Z8) (zc zq zm)))))))
 (zp (zy hnd (ZL Vs xab boot_max (zc Z8 (zc (zT Z8 zq) zm)))))))))
 (zp (zJ (Q7 zfU xak boot_tuple (zc Z8 zm)))))))
variable (xbo:Got P w K mg base 4 "reach_of" ["spans","delay","first"] (Z4 K Dp.zcI))
include xdj xae xbo in
def zmq (F:Fk K "steps_of" ziZ f fd):zO P w K mg base ZV 10 f fd ["valley"] (Z4 K Dp.zdE):=ZD (M:=["found","name","other"]) F Dp.zms fun hnd hr=>(zj (zy hnd (zum))
 (zj (YK (Zg (zE xae hr (zc Z8 zm))) (zN hnd) (zp (YK (Zg (zE xae hr (zc Z8 zm))) (zN hnd) (zp (zgh hr Z8 (zX (zc Z8 (zc Z8 zm))) (zE xbo hr (zc (Vm xdj ziQ hr (zc Z8 (zc Z8 (zc Z8 zm)))) (zc (Yu Z8 rfl) (zc (Yu Z8 rfl) zm)))))))))
 (zp (zJ Z8))))
variable (xeo:Got P w K mg base 10 "steps_of" ["valley"] (Z4 K Dp.zdE))
include xbo in
def zn5 (F:Fk K "staying" zka f fd):zO P w K mg base ZV 5 f fd ["first","last"] (Z4 K Dp.zei):=ZD (M:=[]) F Dp.zov fun hnd hr=>(zj (zP (zG W5 Z8 Z8) (zp (zJ (zX zm))) zM)
 (zp (zJ (zE xbo hr (zc (zX (zc (zX (zc Z8 (zc Z8 zm))) zm)) (zc zq (zc Z8 zm)))))))
variable (xew:Got P w K mg base 5 "staying" ["first","last"] (Z4 K Dp.zei))
include xaj xab xcl xan xr xam xq xck xcj in
def zkG (F:Fk K "put_led_on" zg8 f fd):zO P w K mg base ZV 4 f fd ["pieces","piece","following"] (Z4 K Dp.zcN):=ZD (M:=["start","end","shift"]) F Dp.zkJ fun hnd hr=>(zj (zy hnd (ZL Vs xab boot_max (zc (zu Z8 (zK rfl xcl)) (zc (zu Z8 (zK rfl xr)) zm))))
 (zj (zy hnd (ZL RP xaj boot_min (zc (zE xck hr (zc Z8 zm)) (zc (zu Z8 (zK rfl xq)) zm))))
 (zp (zP (WL (Ub (zG Vc Z8 Z8) (Rg (zG (Wq hr) (zu Z8 (zK rfl xan)) zq)))) (zp (zW (zE xcj hr (zc Z8 (zc (zu Z8 (zK rfl xr)) (zc (zu Z8 (zK rfl xq)) (zc (zE xam hr (zc Z8 (zc Z8 zm))) (zc zq zm)))))))) (zp (zP (zG Vc Z8 Z8) (zj (zy hnd (zZ (zu Z8 (zK rfl xr)) (zu Z8 (zK rfl xcl))))
 (zp (zW (zE xcj hr (zc Z8 (zc (zT Z8 Z8) (zc (zT Z8 Z8) (zc (zE xam hr (zc Z8 (zc Z8 zm))) (zc (zu Z8 (zK rfl xan)) zm))))))))) zM))))))
variable (xcq:Got P w K mg base 4 "put_led_on" ["pieces","piece","following"] (Z4 K Dp.zcN))
include xak xcq in
def zp0 (F:Fk K "behind" zlN f fd):zO P w K mg base ZV 5 f fd ["one","other"] (Z4 K Dp.ze2):=ZD (M:=["found","piece","following"]) F Dp.zqn fun hnd hr=>(zj (zy hnd (W9 zm))
 (zj (YK (Zg Z8) (zN hnd) (zp (YK (Zg Z8) (zN hnd) (zp (zW (zE xcq hr (zc Z8 (zc Z8 (zc Z8 zm)))))))))
 (zp (zJ (Q7 zfU xak boot_tuple (zc Z8 zm))))))
variable (xfu:Got P w K mg base 5 "behind" ["one","other"] (Z4 K Dp.ze2))
include xan xam xcj in
def zot (F:Fk K "put_cut" zkD f fd):zO P w K mg base ZV 4 f fd ["pieces","piece","low","high"] (Z4 K Dp.Sg):=ZD (M:=[]) F Dp.zoe fun hnd hr=>(zp (zW (zE xcj hr (zc Z8 (zc Z8 (zc Z8 (zc (zE xam hr (zc Z8 (zc Z8 zm))) (zc (zu Z8 (zK rfl xan)) zm))))))))
variable (xal:Got P w K mg base 4 "put_cut" ["pieces","piece","low","high"] (Z4 K Dp.Sg))
include xaj xab xam xal in
def ziN (F:Fk K "put_crossing" zfI f fd):zO P w K mg base ZV 5 f fd ["pieces","climbing","flat","low","high"] (Z4 K Dp.zbL):=ZD (M:=["lead","meeting"]) F Dp.zi0 fun hnd hr=>(zj (zy hnd (zZ (zE xam hr (zc Z8 (zc Z8 zm))) (zE xam hr (zc Z8 (zc Z8 zm)))))
 (zj (zy hnd (ZL RP xaj boot_min (zc Z8 (zc (zT Z8 (ZL Vs xab boot_max (zc Z8 (zc (XF zq) zm)))) zm))))
 (zj (zW (zE xal hr (zc Z8 (zc Z8 (zc Z8 (zc Z8 zm))))))
 (zp (zW (zE xal hr (zc Z8 (zc Z8 (zc (zT Z8 zq) (zc Z8 zm))))))))))
variable (xbj:Got P w K mg base 5 "put_crossing" ["pieces","climbing","flat","low","high"] (Z4 K Dp.zbL))
include xan xam xal xbj in
def zkE (F:Fk K "put_lesser" zgU f fd):zO P w K mg base ZV 6 f fd ["pieces","piece","rival","low","high"] (Z4 K Dp.zcQ):=ZD (M:=[]) F Dp.zkF fun hnd hr=>(zp (zP (zG W5 (zu Z8 (zK rfl xan)) (zu Z8 (zK rfl xan))) (zp (zW (zE xbj hr (zc Z8 (zc Z8 (zc Z8 (zc Z8 (zc Z8 zm)))))))) (zp (zP (zG X6 (zu Z8 (zK rfl xan)) (zu Z8 (zK rfl xan))) (zp (zW (zE xbj hr (zc Z8 (zc Z8 (zc Z8 (zc Z8 (zc Z8 zm)))))))) (zp (zP (zG X6 (zE xam hr (zc Z8 (zc Z8 zm))) (zE xam hr (zc Z8 (zc Z8 zm)))) (zp (zW (zE xal hr (zc Z8 (zc Z8 (zc Z8 (zc Z8 zm))))))) (zp (zW (zE xal hr (zc Z8 (zc Z8 (zc Z8 (zc Z8 zm)))))))))))))
variable (xct:Got P w K mg base 6 "put_lesser" ["pieces","piece","rival","low","high"] (Z4 K Dp.zcQ))
include xg xak xaj xab xr xq xal xct in
def zn7 (F:Fk K "earlier" zkb f fd):zO P w K mg base ZV 7 f fd ["one","other"] (Z4 K Dp.zel):=ZD (M:=["found","hour","i","j","high","piece"]) F Dp.znQ fun hnd hr=>(zj (zP (WL (Sh (zG (Wq hr) (ZL Yx xg boot_len (zc Z8 zm)) zq) (Q8 (zG (Wq hr) (ZL Yx xg boot_len (zc Z8 zm)) zq)))) (zp (zJ (zT Z8 Z8))) zM)
 (zj (zy hnd (W9 zm))
 (zj (zy hnd (zu (zu Z8 zq) (zK rfl xr)))
 (zj (zy hnd zq)
 (zj (zy hnd zq)
 (zj (ze3 (WL (Ub (zG X6 Z8 (ZL Yx xg boot_len (zc Z8 zm))) (Rg (zG X6 Z8 (ZL Yx xg boot_len (zc Z8 zm)))))) (zj (zy hnd (ZL RP xaj boot_min (zc (zu (zu Z8 Z8) (zK rfl xq)) (zc (zu (zu Z8 Z8) (zK rfl xq)) zm))))
 (zj (zW (zE xct hr (zc Z8 (zc (zu Z8 Z8) (zc (zu Z8 Z8) (zc Z8 (zc Z8 zm)))))))
 (zj (zy hnd (zT Z8 zq))
 (zj (zhx (zy hnd (zfF (zG (Wq hr) (zu (zu Z8 Z8) (zK rfl xq)) Z8) (zT Z8 zq) Z8)))
 (zp (zy hnd (zfF (zG (Wq hr) (zu (zu Z8 Z8) (zK rfl xq)) Z8) (zT Z8 zq) Z8))))))))
 (zj (YK (Zg (zT (zjj Z8 (zfD Z8) zfG) (zjj Z8 (zfD Z8) zfG))) (zN hnd) (zp (zW (zE xal hr (zc Z8 (zc Z8 (zc (ZL Vs xab boot_max (zc Z8 (zc (zu Z8 (zK rfl xr)) zm))) (zc (zu Z8 (zK rfl xq)) zm))))))))
 (zp (zJ (Q7 zfU xak boot_tuple (zc Z8 zm)))))))))))
variable (xe5:Got P w K mg base 7 "earlier" ["one","other"] (Z4 K Dp.zel))
include xg xae xew xfu xe5 in
def ziy (F:Fk K "hearings_from" zeX f fd):zO P w K mg base ZV 8 f fd ["valley","steps","name"] (Z4 K Dp.zb7):=ZD (M:=["names","found","each","changed","ahead","other","reach"]) F Dp.zh5 fun hnd hr=>(zj (zy hnd (zE xae hr (zc Z8 zm)))
 (zj (zy hnd (ztU))
 (zj (YK (Zg Z8) (zN hnd) (zp (zgh hr Z8 Z8 (zX zm))))
 (zj (zgh hr Z8 Z8 (zE xew hr (zc (Yu Z8 rfl) (zc (Yu Z8 rfl) zm))))
 (zj (zy hnd (W9 (zc Z8 zm)))
 (zj (ze3 (zG W5 (ZL Yx xg boot_len (zc Z8 zm)) zq) (zj (zy hnd (UG PySem.F.slot_list_pop PySem.F.type_list_pop zth Z8 (zc zq zm)))
 (zp (YK (Zg Z8) (zN hnd) (zj (zy hnd (zE xe5 hr (zc (zgQ hr Z8 Z8) (zc (zE xfu hr (zc (zgQ hr Z8 Z8) (zc (zgQ hr Z8 (zX (zc Z8 (zc Z8 zm)))) zm))) zm))))
 (zp (zP (zG (Sd hr) Z8 (zgQ hr Z8 Z8)) (zj (zgh hr Z8 Z8 Z8)
 (zp (zy hnd (zT (Wk (own:=["each"]) (free:=["other"]) ⟨rfl,True.intro⟩ ⟨rfl,rfl,rfl,True.intro⟩ (Zg Z8) WY (fun _ _ _ _ _=>(zht (zG (Sd hr) Z8 Z8))) (fun _ _ _ _ _=>Z8)) (W9 (zc Z8 zm)))))) zM)))))))
 (zp (zJ (Wk (own:=["each"]) (free:=["found"]) ⟨rfl,True.intro⟩ ⟨rfl,rfl,rfl,True.intro⟩ (Zg Z8) WY (fun _ _ _ _ _=>Xf) (fun _ _ _ _ _=>(zgQ hr Z8 Z8)))))))))))
variable (xbt:Got P w K mg base 8 "hearings_from" ["valley","steps","name"] (Z4 K Dp.zb7))
include xae xao xeo xbt in
def zoD (F:Fk K "hearing" zj1 f fd):zO P w K mg base (Xp P w) 11 f fd ["valley","name","other"] (XC K Dp.zej):=RW (M:=[]) F Dp.zos fun hnd hr ex hX hM=>(zj (zW (Vm xao hX hr (zc Z8 (zc Z8 zm))))
 (zj (zW (Vm xao hX hr (zc Z8 (zc Z8 zm))))
 (zp (zJ (zu (zE xbt hr (zc Z8 (zc (zE xeo hr (zc Z8 zm)) (zc Z8 zm)))) (UG PySem.F.slot_list_index PySem.F.type_list_index (zr3 hr) (zE xae hr (zc Z8 zm)) (zc Z8 zm)))))))
variable (xey:Uw P w K mg base 11 "hearing" ["valley","name","other"] (XC K Dp.zej))
include xg xey in
def zic (F:Fk K "first_unheard" zfe f fd):zO P w K mg base (Xp P w) 12 f fd ["valley","name","other"] (XC K Dp.zb8):=RW (M:=["reach","unled"]) F Dp.zij fun hnd hr ex hX hM=>(zj (zy hnd (Vm xey hX hr (zc Z8 (zc Z8 (zc Z8 zm)))))
 (zj (zhx (zy hnd (zfF (zG W5 (ZL Yx xg boot_len (zc Z8 zm)) zq) (zT (zu (zu Z8 (XF zq)) zq) zq) (Yu Z8 rfl))))
 (zp (zJ (zfF (zG Vc Z8 (Yu Z8 rfl)) Z8 WM)))))
variable (xb0:Uw P w K mg base 12 "first_unheard" ["valley","name","other"] (XC K Dp.zb8))
include xg xar xap xaa xdy xb1 xfz xac xet xco xfw xd3 xe1 xb0 in
def zu7 (F:Fk K "law" Ry f fd):zO P w K mg base ZV 13 f fd ["script"] (Z4 K Dp.zfE):=ZD (M:=["parts","valley","views","names","hours","k","start","lit","j","other","unheard","found"]) F Dp.zwj fun hnd hr=>(zj (zy hnd (zE xdy hr (zc Z8 zm)))
 (zj (zy hnd (zE xco hr (zc Z8 zm)))
 (zj (zy hnd (zE xd3 hr (zc Z8 zm)))
 (zj (QF hnd (own:=["beacon"]) (free:=[]) True.intro True.intro (Zg (zu Z8 zq)) WY (fun _ _ _ _ _=>Xf) (fun _ _ _ _ _=>(zu Z8 zq)))
 (zj (zy hnd (ztM rfl xb1 rfl xap (zc (Yu Z8 rfl) (zc (zT (Yu Z8 rfl) zq) zm))))
 (zj (YK (zjY xap (zc zq zm)) (zN hnd) (zj (zy hnd (YX (zT (zE xar hr (zc Z8 (zc zq zm))) Z8) (ZL Yx xg boot_len (zc Z8 zm))))
 (zj (QF hnd (own:=["hour"]) (free:=["views","start","valley"]) ⟨rfl,rfl,rfl,True.intro⟩ ⟨rfl,rfl,rfl,rfl,rfl,rfl,rfl,rfl,rfl,True.intro⟩ (Zg Z8) WY (fun _ _ _ _ _=>Xf) (fun _ _ _ _ _=>(zE xe1 hr (zc Z8 (zc Z8 (zc Z8 (zc (Yu Z8 rfl) zm)))))))
 (zp (YK (zb1 rfl xaa (zc Z8 zm)) (Vv rfl (Y5 (zN hnd) (Y5 (zN hnd) Vo))) (zj (QF hnd (own:=["hour","row"]) (free:=["j"]) ⟨rfl,True.intro⟩ ⟨rfl,rfl,rfl,True.intro⟩ (zoT rfl xfw (zc Z8 (zc Z8 zm))) ⟨(zeA (Vp (Wo 0 (by decide)) (Vp (Wo 1 (by decide)) zdN))),fun _ _ _ _ _=>(zfz rfl (V6 (Wg (show List.Nodup (["hour","row","j"]:List Str) by decide +kernel) rfl (Or.inl rfl) (Or.inr rfl)) (V6 (Wg (show List.Nodup (["hour","row","j"]:List Str) by decide +kernel) rfl (Or.inl rfl) (Or.inr rfl)) O8)))⟩ (fun _ _ _ _ _=>(zht (zG zsu (zu Z8 Z8) WM))) (fun _ _ _ _ _=>Z8))
 (zj (zP (zG (Sd hr) Z8 (zjj Z8 (zfD (zZ (ZL Yx xg boot_len (zc Z8 zm)) (ZL Yx xg boot_len (zc Z8 zm)))) zfG)) (zp (zJ Rq)) zM)
 (zj (zy hnd (Vm xb0 ziQ hr (zc Z8 (zc (zu Z8 Z8) (zc Z8 zm)))))
 (zp (zP (zG (Wq hr) (ZL Yx xg boot_len (zc Z8 zm)) zq) (zp (zP (zG Qg Z8 WM) (zp (zJ Rq)) zM)) (zp (zP (WL (Sh (Vz (ZL zgw xac boot_isinstance (zc Z8 (zc (ziX rfl xet boot_bool) zm)))) (Sh (SN (Vz (ZL zgw xac boot_isinstance (zc Z8 (zc (ziX rfl xfz boot_int) zm))))) (Q8 (zG (Sd hr) Z8 (zu Z8 zq)))))) (zp (zJ Rq)) zM))))))))))))
 (zp (zJ Rq))))))))
end
def all_mk {l:W.OpenLaw}{w:World}{K:W.Frag}{h:Heap}{mg:Str->Option Value}{fa:Addr}(X:K.In h)(G:h.Ns mainGlobals mg)(hfa:mg "law"=some (.ref fa))
  {xic xi5 xiz xib xjz xi8 xf6 xfr xkh xgd xlv xlk xg1 xj4 xi9 xi7 xk7 xgq xj2 xkx xgp xge xix xj6 xfl xgu xke xk8 xgz xhf xlf xkf xlr xll xi3 xlx f_both xku xla xi4 xi1 xka xjm xgg xl2 xhs xkv xlz xjp xjy xj7 xir xk6 xki xhn xin xkp xg3 xkr xg7:Addr}{xid xjb xiy xie xjk xi6 xf3 xfp xkg xgf xlw xlb xgx xjw xjd xi0 xkz xgs xjf xkw xgt xgc xim xj8 xfm xgr xkn xk4 xgy xg8 xlc xks xlp xld xjc xlu xlq xkd xlg xi2 xja xj9 xjj xgb xl3 xhy xk1 xl1 xjo xjh xko xiq xk0 xkm xhv xip xkq xhc xkk xhb:FuncData}
  {xhw xh0:Option Addr} {xh8:Array (Option Value)} {xh9 xhx xhr xhl xfn xh1:Value} {xci:Addr} {xah:Addr}
  {xh2 xh4:Option Addr} {xh6:Array (Option Value)} {xh7 xhm xho xhu xfj xia:Value} {xce:Addr} {xu:Addr}
  {xlm xkc:Option Addr} {xls:Array (Option Value)} {xln xkl xkj xkt xiw xkb:Value} {xjx:Addr}
  {xgv:Addr}
  {xhj:Addr}
  {xg0:Tok} {xhg:Tok} {xg9:Tok} {xil:Tok} {xhe:Tok} {xj5:Tok} {xjl:Tok} {xk9:Tok} {xk2:Tok} {xje:Tok} {xit:Tok} {xk5:Tok} {xlh:Tok} {xky:Tok} {xli:Tok} {xl0:Tok} {xlj:Tok} {xhz:Tok} {xg5:Tok}
  (xch:FH K "_law_cell_at" zgo xic xid)
  (xd4:FH K "_law_mixed" zhN xi5 xjb)
  (xd6:FH K "_law_seeds" zhQ xiz xiy)
  (xcf:FH K "_law_beacons" zgm xib xie)
  (xej:FH K "_law_fogs" ziY xjz xjk)
  (xdt:FH K "_law_parts" zhR xi8 xi6)
  (xau:FH K "refuse_bad_corners" zdl xf6 xf3)
  (xbr:W.nsIn K mainGlobals "Ground"=some (some (.ref xah))) (xea:K.lookup xci=some ⟨xh9,xhw,.func (W.fnOf "__init__" "Ground.__init__" (Vw zch) (Xd zch) (zY zch) .none xhx xhr xhl xh0 xfn xh1),xh8⟩) (xec:W.codeIn K xfn "Ground.__init__"=true) (xef:W.keepIn K (.ref xci)=true)
  (xcw:W.makesIn K xah=true) (xdb:W.findIn K (.ref xah) "__init__"=some (some (.ref xci))) (xdf:W.isFn K (.ref xci)=true) (xdd:W.keepIn K (.ref xah)=true) (xc3:W.plainGet K xah Str.empty=true) (xc9:W.hasDictIn K xah=true) (xdp:W.plainOver K xah=true) (xdo:W.findIn K (.ref xah) "__setattr__"=some (some (.builtin "object.__setattr__"))) (xdn:W.findIn K (.ref xah) "corners"=some none)
  (xav:FH K "refuse_bad_numbers" zc4 xfr xfp)
  (xex:FH K "is_name" zj8 xkh xkg)
  (xa6:FH K "refuse_bad_names" zdT xgd xgf)
  (xg2:FH K "less" zpZ xlv xlw)
  (xgj:FH K "is_on" zmT xlk xlb)
  (xbk:FH K "common_divisor" zeS xg1 xgx)
  (xep:FH K "fraction" zi5 xj4 xjw)
  (xd7:FH K "height_on" zh4 xi9 xjd)
  (xd1:FH K "ground_at" zhK xi7 xi0)
  (xfx:FH K "stands" zkW xk7 xkz)
  (xba:FH K "refuse_bad_tops" zed xgq xgs)
  (xei:FH K "is_whole" ziT xj2 xjf)
  (xft:FH K "is_fog" zl3 xkx xkw)
  (xbe:FH K "refuse_bad_fogs" zd9 xgp xgt)
  (xa0:FH K "refuse_bad_hours" zdX xge xgc)
  (xad:W.nsIn K mainGlobals "Valley"=some (some (.ref xu))) (xeg:K.lookup xce=some ⟨xh7,xh2,.func (W.fnOf "__init__" "Valley.__init__" (Vw zce) (Xd zce) (zY zce) .none xhm xho xhu xh4 xfj xia),xh6⟩) (xeb:W.codeIn K xfj "Valley.__init__"=true) (xee:W.keepIn K (.ref xce)=true)
  (xc5:W.makesIn K xu=true) (xdi:W.findIn K (.ref xu) "__init__"=some (some (.ref xce))) (xc6:W.isFn K (.ref xce)=true) (xdh:W.keepIn K (.ref xu)=true) (xcy:W.plainGet K xu Str.empty=true) (xcz:W.hasDictIn K xu=true) (xc4:W.plainOver K xu=true) (xcx:W.findIn K (.ref xu) "__setattr__"=some (some (.builtin "object.__setattr__"))) (xda:W.findIn K (.ref xu) "ground"=some none) (xdl:W.findIn K (.ref xu) "beacons"=some none) (xdc:W.findIn K (.ref xu) "fogs"=some none) (xc1:W.findIn K (.ref xu) "haze"=some none) (xdm:W.findIn K (.ref xu) "first"=some none) (xc7:W.findIn K (.ref xu) "last"=some none) (xdq:W.findIn K (.ref xu) "delay"=some none)
  (xcv:FH K "_law_valley" zgz xix xim)
  (xe2:FH K "spot_of" zke xj6 xj8)
  (xaq:FH K "refuse_not_standing" zcZ xfl xfm)
  (xbg:FH K "numbers_between" zec xgu xgr)
  (xe4:FH K "side_of" zj4 xke xkn)
  (xfv:FH K "hinder" zk7 xk8 xk4)
  (xbn:FH K "square_between" zeG xgz xgy)
  (xby:FH K "hidden_always" ze0 xhf xg8)
  (xgm:FH K "moved" znk xlf xlc)
  (xfc:FH K "margins" zkg xkf xks)
  (xhd:FH K "tidy" zpk xlr xlp)
  (xgn:FH K "foggy" znq xll xld)
  (xdx:FH K "foggy_all" zhJ xi3 xjc)
  (xhk:FH K "gaps" zqh xlx xlu)
  (xhh:FH K "both" zp5 f_both xlq)
  (xe6:FH K "without" zks xku xkd)
  (xgo:FH K "sight" zmW xla xlg)
  (xdz:FH K "_law_views" zh0 xi4 xi2)
  (xdv:FH K "_law_first" zhX xi1 xja)
  (xe8:FH K "_law_lit" zkt xka xj9)
  (xel:FH K "names_of" zjp xjm xjj)
  (xa4:FH K "refuse_no_beacon" zdU xgg xgb)
  (xii:FH K "led" zsq xl2 xl3)
  (xb6:FH K "can_be_drawn" zfK xhs xhy)
  (xf4:FH K "end_of" zlE xkv xk1)
  (xif:FH K "put" zsA xlz xl1)
  (xek:FH K "reach_of" zjk xjp xjo)
  (xeh:FH K "steps_of" ziZ xjy xjh)
  (xe3:FH K "staying" zka xj7 xko)
  (xcs:FH K "put_led_on" zg8 xir xiq)
  (xf7:FH K "behind" zlN xk6 xk0)
  (xfa:FH K "put_cut" zkD xki xkm)
  (xca:FH K "put_crossing" zfI xhn xhv)
  (xcp:FH K "put_lesser" zgU xin xip)
  (xez:FH K "earlier" zkb xkp xkq)
  (xbv:FH K "hearings_from" zeX xg3 xhc)
  (xe9:FH K "hearing" zj1 xkr xkk)
  (xbw:FH K "first_unheard" zfe xg7 xhb)
  (xjt:W.nsIn K mainGlobals "law"=some (some (.ref xjx))) (xji:K.lookup xjx=some ⟨xln,xlm,.func (W.fnOf "law" "law" (Vw Ry) (Xd Ry) (zY Ry) .none xkl xkj xkt xkc xiw xkb),xls⟩) (xjs:W.codeIn K xiw "law"=true) (xjr:W.keepIn K (.ref xjx)=true)
  (xcd:W.nsIn K mainGlobals "OffGround"=some (some (.ref xgv))) (xfg:znJ K xgv=true) (xcr:W.nsIn K mainGlobals "NoBeacon"=some (some (.ref xhj))) (xf5:znJ K xhj=true)
  (xj3:W.nsIn K mainGlobals "len"=some none) (xh5:W.nsIn K mainGlobals "range"=some none) (xfh:W.nsIn K mainGlobals "enumerate"=some none) (xio:W.nsIn K mainGlobals "list"=some none) (xj0:W.nsIn K mainGlobals "all"=some none) (xjq:W.nsIn K mainGlobals "set"=some none) (xj1:W.nsIn K mainGlobals "abs"=some none) (xjg:W.nsIn K mainGlobals "int"=some none) (xes:W.nsIn K mainGlobals "isinstance"=some none) (xiu:W.nsIn K mainGlobals "bool"=some none) (xht:W.nsIn K mainGlobals "tuple"=some none) (xjv:W.nsIn K mainGlobals "min"=some none) (xjn:W.nsIn K mainGlobals "max"=some none) (xgw:W.nsIn K mainGlobals "sorted"=some none) (xju:W.nsIn K mainGlobals "zip"=some none)
  (xcu:W.nsIn K mainGlobals "LEAST_CORNERS"=some (some (.int 2 xg0))) (xdk:W.nsIn K mainGlobals "MOST_CORNERS"=some (some (.int 40 xhg))) (xc8:W.nsIn K mainGlobals "MOST_BEACONS"=some (some (.int 12 xg9))) (xfe:W.nsIn K mainGlobals "MOST_FOGS"=some (some (.int 12 xil))) (xde:W.nsIn K mainGlobals "MOST_LETTERS"=some (some (.int 8 xhe))) (xgi:W.nsIn K mainGlobals "LETTERS"=some (some (.str "abcdefghijklmnopqrstuvwxyz" xj5))) (xgh:W.nsIn K mainGlobals "NUMBERS"=some (some (.int 8 xjl))) (xik:W.nsIn K mainGlobals "LEFT"=some (some (.int 0 xk9))) (xhp:W.nsIn K mainGlobals "RIGHT"=some (some (.int 1 xk2))) (xfs:W.nsIn K mainGlobals "LOW_fogs"=some (some (.int 2 xje))) (xfi:W.nsIn K mainGlobals "HIGH_fogs"=some (some (.int 3 xit))) (xhq:W.nsIn K mainGlobals "FIRST"=some (some (.int 4 xk5))) (xiv:W.nsIn K mainGlobals "LAST"=some (some (.int 5 xlh))) (xh3:W.nsIn K mainGlobals "DRIFT"=some (some (.int 6 xky))) (xis:W.nsIn K mainGlobals "RISE"=some (some (.int 7 xli))) (xk3:W.nsIn K mainGlobals "TO"=some (some (.int 2 xl0))) (xij:W.nsIn K mainGlobals "STEP"=some (some (.int 3 xlj))) (xed:W.nsIn K mainGlobals "LOW_reaches"=some (some (.int 0 xhz))) (xc2:W.nsIn K mainGlobals "HIGH_reaches"=some (some (.int 1 xg5))) :
  ∃ fd:FuncData,(∀ (s:Shared) (v:Value),BindsTo s fd ⟨[v],[]⟩ [("script",v)])/\∀ base:Heap,K.In base->base.Ns mainGlobals mg->zO l.prog w K mg base ZV 13 fa fd ["script"] (Z4 K Dp.zfE):=by
 have e:=hfa.symm.trans (W.mg_of X G xjt)
 cases e
 have xbb:∀ C,W.nsIn K mainGlobals "Ground"=some (some (.ref C))->YM K C "corners":=fun C hC=>by
  rw[xbr]at hC;cases hC;exact xdn
 have xga:=zi2 (st:=zch) xea xec xef
 have zcL:=xga.binds (ps:=["self","corners"]) fun _ _ _ _ _ _ us hl=>by obtain⟨_,_,rfl⟩:=znU hl;rfl
 have xbp:∀ C,W.nsIn K mainGlobals "Valley"=some (some (.ref C))->YM K C "ground":=fun C hC=>by
  rw[xad]at hC;cases hC;exact xda
 have xbh:∀ C,W.nsIn K mainGlobals "Valley"=some (some (.ref C))->YM K C "beacons":=fun C hC=>by
  rw[xad]at hC;cases hC;exact xdl
 have xb3:∀ C,W.nsIn K mainGlobals "Valley"=some (some (.ref C))->YM K C "fogs":=fun C hC=>by
  rw[xad]at hC;cases hC;exact xdc
 have xcb:∀ C,W.nsIn K mainGlobals "Valley"=some (some (.ref C))->YM K C "haze":=fun C hC=>by
  rw[xad]at hC;cases hC;exact xc1
 have xbu:∀ C,W.nsIn K mainGlobals "Valley"=some (some (.ref C))->YM K C "first":=fun C hC=>by
  rw[xad]at hC;cases hC;exact xdm
 have xb5:∀ C,W.nsIn K mainGlobals "Valley"=some (some (.ref C))->YM K C "last":=fun C hC=>by
  rw[xad]at hC;cases hC;exact xc7
 have xbx:∀ C,W.nsIn K mainGlobals "Valley"=some (some (.ref C))->YM K C "delay":=fun C hC=>by
  rw[xad]at hC;cases hC;exact xdq
 have xf9:=zi2 (st:=zce) xeg xeb xee
 have zcM:=xf9.binds (ps:=["self","ground","beacons","fogs","haze","first","last","delay"]) fun _ _ _ _ _ _ us hl=>by obtain⟨_,_,_,_,_,_,_,_,rfl⟩:=zwZ hl;rfl
 have xly:=zi2 (st:=Ry) xji xjs xjr
 have xay:∀ C,W.nsIn K mainGlobals "OffGround"=some (some (.ref C))->SQ K C:=fun C h=>by
  rw[xcd]at h;cases h;exact SQ.of xfg
 have xax:∃ C,W.nsIn K mainGlobals "OffGround"=some (some (.ref C))/\mg "OffGround"=some (.ref C):=⟨_,xcd,W.mg_of X G xcd⟩
 have xa8:∀ C,W.nsIn K mainGlobals "NoBeacon"=some (some (.ref C))->SQ K C:=fun C h=>by
  rw[xcr]at h;cases h;exact SQ.of xf5
 have xa7:∃ C,W.nsIn K mainGlobals "NoBeacon"=some (some (.ref C))/\mg "NoBeacon"=some (.ref C):=⟨_,xcr,W.mg_of X G xcr⟩
 have xg:=W.mg_none_of X G xj3
 have xap:=W.mg_none_of X G xh5
 have xaa:=W.mg_none_of X G xfh
 have xb1:=W.mg_none_of X G xio
 have xbf:=W.mg_none_of X G xj0
 have xih:=W.mg_none_of X G xjq
 have xig:=W.mg_none_of X G xj1
 have xfz:=W.mg_none_of X G xjg
 have xac:=W.mg_none_of X G xes
 have xet:=W.mg_none_of X G xiu
 have xak:=W.mg_none_of X G xht
 have xaj:=W.mg_none_of X G xjv
 have xab:=W.mg_none_of X G xjn
 have xfq:=W.mg_none_of X G xgw
 have xfw:=W.mg_none_of X G xju
 have xbz:∃ t,mg "LEAST_CORNERS"=some (.int 2 t):=⟨_,W.mg_of X G xcu⟩
 have xb4:∃ t,mg "MOST_CORNERS"=some (.int 40 t):=⟨_,W.mg_of X G xdk⟩
 have xb8:∃ t,mg "MOST_BEACONS"=some (.int 12 t):=⟨_,W.mg_of X G xc8⟩
 have xds:∃ t,mg "MOST_FOGS"=some (.int 12 t):=⟨_,W.mg_of X G xfe⟩
 have xb7:∃ t,mg "MOST_LETTERS"=some (.int 8 t):=⟨_,W.mg_of X G xde⟩
 have xeu:∃ t,mg "LETTERS"=some (.str "abcdefghijklmnopqrstuvwxyz" t):=⟨_,W.mg_of X G xgi⟩
 have xe7:∃ t,mg "NUMBERS"=some (.int 8 t):=⟨_,W.mg_of X G xgh⟩
 have xbq:∃ t,mg "LEFT"=some (.int 0 t):=⟨_,W.mg_of X G xik⟩
 have xaz:∃ t,mg "RIGHT"=some (.int 1 t):=⟨_,W.mg_of X G xhp⟩
 have xag:∃ t,mg "LOW_fogs"=some (.int 2 t):=⟨_,W.mg_of X G xfs⟩
 have xaf:∃ t,mg "HIGH_fogs"=some (.int 3 t):=⟨_,W.mg_of X G xfi⟩
 have xcc:∃ t,mg "FIRST"=some (.int 4 t):=⟨_,W.mg_of X G xhq⟩
 have xer:∃ t,mg "LAST"=some (.int 5 t):=⟨_,W.mg_of X G xiv⟩
 have xgk:∃ t,mg "DRIFT"=some (.int 6 t):=⟨_,W.mg_of X G xh3⟩
 have xg4:∃ t,mg "RISE"=some (.int 7 t):=⟨_,W.mg_of X G xis⟩
 have xcl:∃ t,mg "TO"=some (.int 2 t):=⟨_,W.mg_of X G xk3⟩
 have xan:∃ t,mg "STEP"=some (.int 3 t):=⟨_,W.mg_of X G xij⟩
 have xr:∃ t,mg "LOW_reaches"=some (.int 0 t):=⟨_,W.mg_of X G xed⟩
 have xq:∃ t,mg "HIGH_reaches"=some (.int 1 t):=⟨_,W.mg_of X G xc2⟩
 refine⟨W.fnOf "law" "law" (Vw Ry) (Xd Ry) (zY Ry) .none xkl xkj xkt xkc xiw xkb,fun s v=>.of_eq rfl,fun base _ _=>?_⟩
 have xar:=zQ l.prog w base X G xch (zjI xg xch.F)
 have xaw:=zQ l.prog w base X G xd4 (zle xd4.F)
 have xdw:=zQ l.prog w base X G xd6 (zma xaw xap xaa xd6.F)
 have xcg:=zQ l.prog w base X G xcf (zjX xaa xcf.F)
 have xem:=zQ l.prog w base X G xej (zmC xaw xej.F)
 have xdy:=zQ l.prog w base X G xdt (zlq xar xdw xcg xem xdt.F)
 have xat:=zQ l.prog w base X G xau (zfC xg xap xbz xb4 xau.F)
 have xcn:zjJ l.prog w K mg base 2 "Ground" (Z4 K Dp.zeV):=⟨⟨_,_,_,_,_,⟨xcw,xdb,xdf,xdd⟩,zjK xat xbb xb1 xga,zcL,W.mg_of X G xbr,zmG ⟨xc3,xc9,xdp,xdo⟩ xbr⟩⟩
 have xas:=zQ l.prog w base X G xav (zfJ xg xb8 xds xav.F)
 have xev:=zQ l.prog w base X G xex (zoE xg xb7 xeu xbf xex.F)
 have xa3:=zQ l.prog w base X G xa6 (zgu xg xbf xev xih xa6.F)
 have xb2:=zQ l.prog w base X G xg2 (ztc xg2.F)
 have xdr:=zQ l.prog w base X G xgj (zrM xb2 xgj.F)
 have xbm:=zQ l.prog w base X G xbk (zhE xig xbk.F)
 have xeq:=zQ l.prog w base X G xep (zmn xbm xep.F)
 have xd5:=zQ l.prog w base X G xd7 (zly xeq xd7.F)
 have xd2:=Rw l.prog w base X G xd1 (zmk xb2 xdr xd5 xay xax xd1.F)
 have xcm:=zQ l.prog w base X G xfx (zpt xb2 xdr xd2 xfx.F)
 have xa9:=zQ l.prog w base X G xba (zgD xbf xcm xba.F)
 have xen:=zQ l.prog w base X G xei (zmB xfz xac xet xei.F)
 have xfy:=zQ l.prog w base X G xft (zpm xg xbf xac xen xe7 xbq xaz xag xaf xcc xer xak xft.F)
 have xbc:=zQ l.prog w base X G xbe (zgB xbf xfy xbe.F)
 have xa5:=zQ l.prog w base X G xa0 (zgp xa0.F)
 have xf2:zjJ l.prog w K mg base 7 "Valley" (Z4 K Dp.zg6):=⟨⟨_,_,_,_,_,⟨xc5,xdi,xc6,xdh⟩,zjQ xb1 xcn xas xa3 xa9 xbc xa5 xbp xbh xb3 xcb xbu xb5 xbx xf9,zcM,W.mg_of X G xad,zmG ⟨xcy,xcz,xc4,xcx⟩ xad⟩⟩
 have xco:=zQ l.prog w base X G xcv (zkM xcn xf2 xcv.F)
 have xd9:=Rw l.prog w base X G xe2 (zod xa8 xa7 xe2.F)
 have xai:=Rw l.prog w base X G xaq (zfn xay xax xcm xaq.F)
 have xbd:=zQ l.prog w base X G xbg (zg0 xaa xaj xab xbg.F)
 have xfd:=zQ l.prog w base X G xe4 (zob xe4.F)
 have xfo:=Rw l.prog w base X G xfv (zoX xai xbd xfd xfv.F)
 have xbl:=zQ l.prog w base X G xbn (zhD xbn.F)
 have xbs:=zQ l.prog w base X G xby (ziz xfo xbl xby.F)
 have xfk:=zQ l.prog w base X G xgm (zqw xbq xaz xag xaf xgk xg4 xgm.F)
 have xd8:=zQ l.prog w base X G xfc (znF xbq xaz xag xaf xaj xab xfc.F)
 have xbi:=zQ l.prog w base X G xhd (ztJ xg xak xab xfq xhd.F)
 have xgl:=zQ l.prog w base X G xgn (zrl xcc xer xaj xab xfk xd8 xbi xfw xgn.F)
 have xdu:=zQ l.prog w base X G xdx (zkY xbi xgl xdx.F)
 have xg6:=zQ l.prog w base X G xhk (zuf xbi xhk.F)
 have xha:=zQ l.prog w base X G xhh (ztn xaj xab xbi xhh.F)
 have xfb:=zQ l.prog w base X G xe6 (znz xg xg6 xha xe6.F)
 have xdj:=Rw l.prog w base X G xgo (zqK xd9 xbs xdu xfb xgo.F)
 have xd3:=zQ l.prog w base X G xdz (zlP xdj xdz.F)
 have xd0:=zQ l.prog w base X G xdv (zmc xab xdv.F)
 have xe1:=zQ l.prog w base X G xe8 (znT xg xap xaa xd0 xe8.F)
 have xae:=zQ l.prog w base X G xel (zmp xel.F)
 have xao:=Rw l.prog w base X G xa4 (zgt xa8 xa7 xae xa4.F)
 have xam:=zQ l.prog w base X G xii (zwJ xcl xan xr xii.F)
 have xb9:=zQ l.prog w base X G xb6 (zi9 xcl xr xam xq xb6.F)
 have xck:=zQ l.prog w base X G xf4 (zoK xam xq xf4.F)
 have xcj:=zQ l.prog w base X G xif (zvc xg xcl xr xb9 xck xif.F)
 have xbo:=zQ l.prog w base X G xek (zmy xak xab xcj xek.F)
 have xeo:=zQ l.prog w base X G xeh (zmq xdj xae xbo xeh.F)
 have xew:=zQ l.prog w base X G xe3 (zn5 xbo xe3.F)
 have xcq:=zQ l.prog w base X G xcs (zkG xaj xab xcl xan xr xam xq xck xcj xcs.F)
 have xfu:=zQ l.prog w base X G xf7 (zp0 xak xcq xf7.F)
 have xal:=zQ l.prog w base X G xfa (zot xan xam xcj xfa.F)
 have xbj:=zQ l.prog w base X G xca (ziN xaj xab xam xal xca.F)
 have xct:=zQ l.prog w base X G xcp (zkE xan xam xal xbj xcp.F)
 have xe5:=zQ l.prog w base X G xez (zn7 xg xak xaj xab xr xq xal xct xez.F)
 have xbt:=zQ l.prog w base X G xbv (ziy xg xae xew xfu xe5 xbv.F)
 have xey:=Rw l.prog w base X G xe9 (zoD xae xao xeo xbt xe9.F)
 have xb0:=Rw l.prog w base X G xbw (zic xg xey xbw.F)
 exact zu7 xg xar xap xaa xdy xb1 xfz xac xet xco xfw xd3 xe1 xb0 xly
def walk {l:W.OpenLaw}{q:Program}{loose:List Str}{XP:(Str->Option Value)->Heap->Prop}{YP:World->Heap->Prop}{d:DefRec}{K:Params->W.Frag}(hn:l.most=some 63)(hdf:d.params.defaults=[])
  (hY:∀ (w:World) (h:Heap),YP w h->(K w.params).In h)
  (F:∀ (w:World) (mg:Str->Option Value) (fa:Addr) (h:Heap),(K w.params).In h->h.Ns mainGlobals mg->mg d.name=some (.ref fa) ->
   ∃ fd:FuncData,(∀ (s:Shared) (u:Value),BindsTo s fd ⟨[u],[]⟩ [("script",u)])/\∀ base:Heap,(K w.params).In base->base.Ns mainGlobals mg->zO l.prog w (K w.params) mg base ZV 13 fa fd ["script"] (Z4 (K w.params) Dp.zfE)) :
  W.WalkO q loose XP YP l.row.toRowW d [] (fun f vs=>PySem.call f vs) :=
 Dp.zqS (n:=63) (k:=13) (x:="script") (sp:=fun w=>Z4 (K w.params) Dp.zfE) hn (by decide) hdf ⟨rfl,by decide,by decide⟩ hY F fun _ _ _ _ hl hg hO hS=>zwe hl hg hO hS
end Law
local macro_rules | `(tactic| walk_at"fh")=>`(tactic| (refine' Dp.zxU ?fa ?fl ?fc ?fk;(case fa=>k_is);(case fl=>k_is);(case fc=>k_is);(case fk=>k_is)))
open PySem PySem.W PyProof.Rows
namespace PySem.W.Fast
def tw10924264043052422211:=Prop
def tw16588050663813849559:=Prop
def tw6185476343916465002:=Prop
def tw15711567196895691419:=Prop
def tw1290380908638735186:=Prop
def tw5672915414004088203:=Prop
def tw16698110863409555871:=Prop
def tw1219406186547821182:=Prop
def tw1140375539588978589:=Prop
def tw18142213734007691682:=Prop
def tw6371077955823815414:=Prop
def tw3438818662930701070:=Prop
def tw8418246744978171873:=Prop
def tw1132296778028580653:=Prop
def tw2050711735777209160:=Prop
def tw13185190319953426564:=Prop
def tw895760364561247528:=Prop
def tw5954961058083910320:=Prop
def tw12774993921928327660:=Prop
def tw2451570088240278560:=Prop
def tw10211187714128061976:=Prop
def tw7106205154241479175:=Prop
def tw11677937511295434821:=Prop
def tw1719472387760321590:=Prop
def tw8160961170524364694:=Prop
def tw13478250807379009232:=Prop
def tw380635479303207710:=Prop
def tw14490254859085972544:=Prop
def tw229317878602996662:=Prop
def tw14666028479618926395:=Prop
def tw7390834391612416147:=Prop
def tw11120442228455344521:=Prop
def tw11224770047586818289:=Prop
def tw7175328926968753995:=Prop
def tw18162313623581976470:=Prop
def tw6113700004389481223:=Prop
def tw12640585599320164163:=Prop
def tw13317381936150829063:=Prop
def tw17537322274188046573:=Prop
def tw14583435950753654518:=Prop
def tw11728602637275569632:=Prop
def tw17289991506757482888:=Prop
def tw11739797275395275686:=Prop
def tw17201783639185607889:=Prop
def tw11904191433892248929:=Prop
def tw5736840138589919774:=Prop
def tw11560157742337939393:=Prop
def tw2756940168029347130:=Prop
def tw7774392938040390530:=Prop
def tw15221681399648096868:=Prop
def tw17814252025770645087:=Prop
def tw1410659076563671061:=Prop
def tw15304368596187394143:=Prop
def tw14398064973655286234:=Prop
def tw17100480914953652506:=Prop
def tw16271545238206474517:=Prop
def tw13887067281585588189:=Prop
def tw18095344046469782434:=Prop
def tw3431085011717681905:=Prop
def tw13015593042005516024:=Prop
def tw5109731141960246392:=Prop
def tw17595265353350596422:=Prop
def tw16055291069373177314:=Prop
def tw11115009636041280205:=Prop
def tw8622149050796515025:=Prop
def tw6414751282143831578:=Prop
def tw12545420180796948831:=Prop
def tw7821098304401635129:=Prop
def tw5655328580200873307:=Prop
def tw12672247833638262835:=Prop
def tw16667347225106966187:=Prop
def tw7967330112084979343:=Prop
def tw5416727164127267395:=Prop
def tw16642498600073031461:=Prop
def tw2384604644591842154:=Prop
def tw133493007992449057:=Prop
def tw3516528574073594765:=Prop
def tw7246370150050968943:=Prop
def tw7537974716043086379:=Prop
def tw8995367981456740951:=Prop
def tw16600097135442797583:=Prop
def tw5954880768798467969:=Prop
def tw8867140422964198147:=Prop
def tw3638002569578718898:=Prop
def tw16049693277436212313:=Prop
def tw13649397955649392050:=Prop
def tw10592366801909969654:=Prop
def tw3769517896715253217:=Prop
def tw13101601636368754932:=Prop
def tw948801043823537952:=Prop
def tw13354406796821245605:=Prop
def tw14304415192086084919:=Prop
def tw4927633723144899930:=Prop
def tw11072264631966246896:=Prop
def tw3243114389439591220:=Prop
def tw16221869362120976149:=Prop
def tw2805307102837907883:=Prop
def tw7569145512223796637:=Prop
def tw16476331823043488640:=Prop
def tw17351466255028810572:=Prop
def tw18153476112184718977:=Prop
def tw7054140304491575304:=Prop
def tw17225551287010394474:=Prop
def tw10442258073946288076:=Prop
def tw15952448556038366867:=Prop
def tw17639737097436583485:=Prop
def tw2622291234562326321:=Prop
def tw11604381369410493246:=Prop
def tw5860703869710301150:=Prop
def tw6656378061012899266:=Prop
def tw12722856174741258390:=Prop
def tw16617014100006351540:=Prop
def tw9577848689924927466:=Prop
def tw10811014440125342491:=Prop
def tw7851121223008327488:=Prop
def tw6046709239728688379:=Prop
def tw8466818978712621221:=Prop
def tw16089330368348438450:=Prop
def tw2151585050887585663:=Prop
def tw4012298465362539023:=Prop
def tw5780070292948879617:=Prop
def tw3355384497609465175:=Prop
def tw13396176809652093833:=Prop
def tw5540115011736728886:=Prop
def tw10940048415465528795:=Prop
def tw7757845769188539864:=Prop
def tw15509846329834726895:=Prop
def tw17923482058968329192:=Prop
def tw17488944022766471913:=Prop
def tw7662021728704268039:=Prop
def tw10166484449423135814:=Prop
def tw17848165238046901616:=Prop
def tw13537540002356722873:=Prop
def tw3947865814172649851:=Prop
def tw1691656782835816394:=Prop
def tw16064195828713455264:=Prop
def tw1827551413896129655:=Prop
def tw15502525829213715144:=Prop
def tw966084777805349050:=Prop
def tw8034474436283610389:=Prop
def tw5186462867902607968:=Prop
def tw6465129697475522519:=Prop
def tw7953766568014575618:=Prop
def tw10893949297877249703:=Prop
def tw6276922846796310413:=Prop
def tw9543248876350151172:=Prop
def tw2067698718311967196:=Prop
def tw1770677098785689348:=Prop
def tw8203156240574033555:=Prop
def tw11904148645868304078:=Prop
def tw1652551908374011931:=Prop
def tw9288589022067529296:=Prop
def tw18031970992578344202:=Prop
def tw17578161496257965687:=Prop
def tw11259041723978401831:=Prop
def tw200905794268490901:=Prop
def tw5905006384967212887:=Prop
def tw15306577092842484901:=Prop
def tw662370590697412879:=Prop
def tw14090835907714570074:=Prop
def tw17798455338150378781:=Prop
def tw7385164762649750359:=Prop
def tw7617528206412813257:=Prop
def tw3198163892489915335:=Prop
def tw2792706140575006940:=Prop
def tw15963035382669602891:=Prop
def tw13316807240484688631:=Prop
def tw4637941358780709018:=Prop
def tw4171315699030154634:=Prop
def tw9718262282349053807:=Prop
def tw10057405626704355650:=Prop
def tw5742667756010439099:=Prop
def tw1144737748467019742:=Prop
def tw969777280605830414:=Prop
def tw17465178736286742104:=Prop
def tw16466305385129478366:=Prop
def tw5274657191983203029:=Prop
def tw15342521856445966897:=Prop
def tw8101327968018647209:=Prop
def tw5535044856230627030:=Prop
def tw3555481690619160456:=Prop
def tw12611742874242777270:=Prop
def tw7025232980199729908:=Prop
def tw3965697831625620676:=Prop
def tw1291651377397925723:=Prop
def tw10272872922072991906:=Prop
def tw972220648132835458:=Prop
def tw14629299935419324629:=Prop
def tw13290602191497260361:=Prop
def tw14752439163360629695:=Prop
def tw4024955275573741224:=Prop
def tw16552108787379529200:=Prop
def tw16032301119159033376:=Prop
def tw8389537860004888797:=Prop
def tw7528758666652747245:=Prop
def tw7217421395125447106:=Prop
def tw6548325769018650461:=Prop
def tw14938758997091224001:=Prop
def tw13010718331596287260:=Prop
def tw2593810044815912452:=Prop
def tw14720668052737806820:=Prop
def tw9386732771435865938:=Prop
def tw10289557549715678711:=Prop
def tw9732240049849532640:=Prop
def tw5339699801669231397:=Prop
def tw9298345265687495435:=Prop
def tw1481237356930043847:=Prop
def tw6652899664915470348:=Prop
def tw17846070626594286171:=Prop
def tw12987922991486120503:=Prop
def tw2854628075829673679:=Prop
def tw13457882156508522427:=Prop
def tw9104822089205328537:=Prop
def tw6997281386039395611:=Prop
def tw928800274039771874:=Prop
def tw6178622638366986739:=Prop
def tw13698855737881742923:=Prop
def tw16955537099413814151:=Prop
def tw9307143996386560143:=Prop
def tw8590873377860885055:=Prop
def tw297042570011491377:=Prop
def tw17968602983018083881:=Prop
def tw2919287797719428386:=Prop
def tw678369203377058981:=Prop
def tw632832287135282395:=Prop
def tw6293141940648667547:=Prop
def tw12106633190319950783:=Prop
def tw15597605030230187584:=Prop
def tw10393536595014165191:=Prop
def tw5364444930879644969:=Prop
def tw13366887895512721139:=Prop
def tw3441494185523024221:=Prop
def tw3151492931186186961:=Prop
def tw16936816194345627218:=Prop
def tw6516573794412605840:=Prop
def tw13015470669797049931:=Prop
def tw3336597491862467569:=Prop
def tw8833770796108982236:=Prop
def tw12774361046817033714:=Prop
def tw11007062311364923300:=Prop
def tw5186958214896237861:=Prop
def tw12074867632414706129:=Prop
def tw1176115764497272529:=Prop
def tw1546526481301921476:=Prop
def tw9812134553257356127:=Prop
def tw4948890079669615748:=Prop
def tw309653743634687044:=Prop
def tw14210334578996461434:=Prop
def tw11998779190298629928:=Prop
def tw7730165309768747047:=Prop
def tw4730614828096864768:=Prop
def tw10720690859778829656:=Prop
def tw13969384061538822815:=Prop
def tw4629882213477252425:=Prop
def tw17733924066921827507:=Prop
def tw17133009587215512645:=Prop
def tw16628253431507269742:=Prop
def tw9676557744893188602:=Prop
def tw9614619821014985249:=Prop
def tw512872169362771332:=Prop
def tw1089386576871703619:=Prop
def tw15185027517891556438:=Prop
def tw15013705904376085223:=Prop
def tw8355313223866611398:=Prop
def tw13757178688068245450:=Prop
def tw16205875901496672303:=Prop
def tw5542714844060895162:=Prop
def tw3784057506220870869:=Prop
def tw3525618562955590776:=Prop
def tw17090281346836098891:=Prop
def tw16061887136903000461:=Prop
def tw9499765068140642732:=Prop
def tw7052920772346887909:=Prop
def tw1985007424016165323:=Prop
def tw16977078899169366196:=Prop
def tw13830325893087538412:=Prop
def tw9793392522833327262:=Prop
def tw16370117273913398158:=Prop
def tw2343512144225001716:=Prop
def tw13245890792715383139:=Prop
def tw14177266053023940005:=Prop
def tw3505908649340898306:=Prop
def tw1521057484509258609:=Prop
def tw16832516115241891397:=Prop
def tw16086543939063035714:=Prop
def tw15582328010224250524:=Prop
def tw12199635854732034805:=Prop
def tw8738771130519746928:=Prop
def tw17510777804667632608:=Prop
def tw769264536218888733:=Prop
def tw5936898008821921441:=Prop
def tw1231087081630132347:=Prop
def tw2186504486900169911:=Prop
def tw11447143201057717399:=Prop
def tw948349955461634151:=Prop
def tw5358833391330105482:=Prop
def tw1753828952471159337:=Prop
def tw10926628441540775192:=Prop
def tw4994436326283638595:=Prop
def tw2158989502750047843:=Prop
def tw16612799294054644071:=Prop
def tw2078111591418490368:=Prop
def tw11136399963775260568:=Prop
def tw10383297894973471983:=Prop
def tw17015024692422537219:=Prop
def tw9003464800390073696:=Prop
def tw14838855066837330559:=Prop
def tw11225815786702337350:=Prop
def tw15865169780518539246:=Prop
def tw11804117017821396712:=Prop
def tw15828421804405646527:=Prop
def tw4276948325597517250:=Prop
def tw10484948348781242729:=Prop
def tw374807829103293415:=Prop
def tw10369993033287803990:=Prop
def tw17175077141075787515:=Prop
def tw3288522752406657026:=Prop
def tw7244069182854521609:=Prop
def tw3780907298688081692:=Prop
def tw14473416615373542801:=Prop
def tw13148366002788191712:=Prop
def tw5131141038762101502:=Prop
def tw8568166438677175545:=Prop
def tw7410691900472760342:=Prop
def tw6297601573664929255:=Prop
def tw2125124710969336607:=Prop
def tw16235723691291141595:=Prop
def tw131984244356525273:=Prop
def tw9295663973728231409:=Prop
end PySem.W.Fast
set_option maxRecDepth 100000 in
set_option maxHeartbeats 0 in
theorem PySem.Challenge.cw_beaconvale_k74_first_unheard_holds : PySem.Challenge.rw_beaconvale_k74_first_unheard.Holds := by
 w_on; o_law; k_head; (case hw => w_witness2)
 k_fill
 refine Law.walk (l := PySem.Challenge.rw_beaconvale_k74_first_unheard) rfl rfl (fun w h Y => PySem.W.kIn_of Y) ?F
 case F =>
  intro w mg fa h KX G hmg
  refine' Law.all_mk KX G hmg ?ae ?af ?ah ?ai ?ao ?aq ?aw ?ax ?ay ?aA ?aB ?aC ?aD ?aE ?aF ?aG ?aH ?aI ?aJ ?aK ?aL ?aM ?aN ?aO ?aP ?aQ ?aR ?aS ?aT ?aU ?aV ?aW ?aX ?aY ?aZ ?a8 ?a9 ?be ?bf ?bh ?bi ?bp ?bq ?br ?bu ?bv ?bw ?bx ?bA ?bC ?bD ?bE ?bF ?bG ?bH ?bI ?bJ ?bK ?bM ?bN ?bO ?bP ?bQ ?bS ?bU ?bV ?bW ?bX ?bY ?bZ ?b7 ?b8 ?b9 ?cc ?ce ?cf ?cg ?cj ?ck ?cm ?cq ?cr ?cu ?cv ?cx ?cy ?cz ?cA ?cB ?cC ?cD ?cE ?cF ?cG ?cH ?cI ?cJ ?cK ?cL ?cM ?cN ?cO ?cP ?cQ ?cR ?cS ?cT ?cU ?cV ?cW ?cX ?cY ?cZ ?c6 ?c7 ?c8 ?c9 ?dc ?de ?df ?dg ?dh ?di ?dm ?dn ?dq ?dr ?du ?dv ?dw ?dz ?dA ?dD ?dE
  case cJ|cL|ax|a8|aD|bi=>k_is
  case ae|af|ah|ai|ao|aq|aw=>walk_at "fh"
  case ay|aA|aB|aC|aE|aF|aG|aH|aI|aJ|aK=>k_is
  case aL|aM|aN|aO|aP|aQ|aR|aS|aT|aU|aV|aW|aX|aY|aZ=>walk_at "fh"
  case a9|be|bf|bh|bp|bq|br|bu|bv|bw|bx|bA|bC|bD|bE|bF|bG=>k_is
  case bH|bI|bJ|bK|bM|bN|bO|bP|bQ|bS|bU|bV|bW|bX|bY|bZ|b7|b8|b9|cc|ce|cf|cg|cj|ck|cm|cq|cr|cu|cv|cx|cy|cz|cA|cB|cC|cD|cE=>walk_at "fh"
  case cF|cG|cH|cI=>k_is
  case cK|cM=>kernel_rfl
  case cN|cO|cP|cQ|cR|cS|cT|cU|cV|cW|cX|cY|cZ|c6|c7|c8|c9|dc|de|df|dg|dh|di|dm|dn|dq|dr|du|dv|dw|dz|dA|dD|dE=>k_is
#print axioms PySem.Challenge.cw_beaconvale_k74_first_unheard_holds
