import PyProof.Rows.All
import Wide.All
import OpenK.AllK
import Wide.FinOn
import Lean
import PyProof.EqAt
import PyProof.EqKinds
import PyProof.TupleCall
import PyProof.NeData
import PyProof.P3Eq
import PyProof.StrLawsIn
import PyProof.StrLawsJoin
import PyProof.StrBlockL
import PyProof.Rows.StrSplitCount
import PySem.Challenge.RW_beaconvale_k70_hearing_hour_by_hour
set_option Elab.async false
set_option linter.all false
set_option maxRecDepth 100000
set_option maxHeartbeats 4000000
set_option Elab.async false
set_option linter.all false
set_option maxRecDepth 100000
def qb:=@List.length_map
def qc:=@List.getElem?_eq_getElem
def qd:=@PySem.Heap.get?_push_of_some
def qe:=@List.mem_of_getElem?
def qf:=@Nat.le_refl
def qg:=@List.mem_cons
def qh:=@List.length_append
def qi:=@List.getElem?_map
def qj:=@List.getElem?_append_right
def qk:=@List.getElem?_append_left
def qm:=@List.size_toArray
def qo:=@List.lookup_cons
def qp:=@List.append_assoc
def qq:=@List.getElem?_eq_none
def qr:=@PySem.Heap.get?_push_size
def qu:=@Bool.false_ne_true
def qv:=@PySem.Heap.lt_size
def qw:=@Int.le_refl
def qA:=@Option.some.inj
def qB:=@List.mem_cons_of_mem
def qC:=@List.map_append
def qD:=@List.getD_eq_getElem?_getD
def qE:=@Nat.lt_of_lt_of_le
def qF:=@List.length_replicate
def qG:=@Bool.and_eq_true
def qH:=@List.not_mem_nil
def qI:=@List.map_cons
def qJ:=@List.getElem?_set_self
def qK:=@List.mem_append
def qL:=@Nat.ne_of_lt
def qM:=@Nat.lt_or_ge
def qN:=@List.getElem?_set_ne
def qO:=@Nat.zero_le
def qP:=@List.getElem?_eq_some_iff
def qQ:=@List.length_cons
def qR:=@Array.length_toList
def qS:=@List.pairwise_cons
def qT:=@List.mem_iff_getElem
def qU:=@List.append_nil
def qV:=@List.mem_append_right
def qW:=@List.mem_map
def qX:=@Nat.le_trans
def qY:=@List.map_map
def qZ:=@PySem.Heap.size_push
def Wc:=@List.mem_filter
def qab:=@List.length_take
def WR:=@Nat.lt_irrefl
def qad:=@List.length_eq_zero_iff
def qae:=@List.pairwise_iff_getElem
def qaf:=@List.all_eq_true
def qag:=@List.take_length
def qah:=@List.mem_filterMap
def qai:=@List.getElem_map
def qaj:=@List.length_range
def qak:=@Nat.le_of_ble_eq_true
def Wn:=@Int.mul_one
def qam:=@List.getElem?_replicate
def qan:=@Nat.ne_of_gt
def qao:=@Int.mul_comm
def qap:=@List.length_set
def qaq:=@List.getD_cons_zero
def qar:=@List.getD_cons_succ
def qas:=@List.length_drop
def qat:=@List.mem_cons_self
def qau:=@Array.getElem?_toList
def qav:=@Nat.sub_self
def qaw:=@List.filter_append
def qax:=@List.all_cons
def qay:=@List.getLast?_eq_none_iff
def qaz:=@List.mem_append_left
def qaA:=@Option.isSome_iff_exists
def qaB:=@Bool.eq_iff_iff
def qaC:=@Bool.or_eq_true
def qaD:=@Int.emod_nonneg
def qaE:=@Int.mul_zero
def qaF:=@Nat.le_of_not_lt
def qaG:=@List.head?_eq_getElem?
def qaH:=@List.dropLast_concat_getLast
def qaI:=@Int.emod_lt_of_pos
def qaJ:=@List.nodup_cons
def qaK:=@List.getElem?_toArray
def qaL:=@List.set_append_right
def qaM:=@List.length_filter_le
def qaN:=@List.any_cons
def qaO:=@List.getLast?_concat
def qaP:=@Nat.le_add_right
def qaQ:=@List.filter_cons
def qaR:=@List.prefix_refl
def qaS:=@PySem.Heap.get?_push_ne
def qaT:=@List.getElem?_range
def qaU:=@List.getElem?_take_of_lt
def qaV:=@List.all_map
def qaW:=@Nat.eq_zero_or_pos
def qaX:=@List.lookup_append
def qaY:=@Nat.add_sub_cancel_left
def qaZ:=@List.prefix_append
def qa0:=@List.filter_cons_of_pos
def qa1:=@List.filter_cons_of_neg
def qa2:=@List.any_append
def qa3:=@List.map_replicate
def qa4:=@Nat.le_succ
def qa5:=@Nat.lt_succ_of_lt
def qa6:=@List.nodup_append
def qa7:=@Int.le_of_lt
def qa8:=@Int.mul_le_mul_of_nonneg_right
def qa9:=@Nat.lt_succ_self
def qba:=@List.filterMap_cons
def qbb:=@Int.neg_neg
def qbc:=@Option.map_some
def qbd:=@Array.Perm.refl
def qbe:=@Nat.not_lt_zero
def qbf:=@PySem.Heap.size_update
def qbg:=@Nat.le_of_lt
def qbh:=@List.map_nil
def qbi:=@Int.lt_or_le
def qbj:=@Bool.false_eq_true
def qbk:=@List.getLast?_eq_getElem?
def qbl:=@Nat.mul_le_mul
def qbm:=@List.ext_getElem?
def qbn:=@List.flatMap_cons
def qbo:=@Int.neg_mul
def qbp:=@Int.mul_neg
def qbq:=@Int.sub_mul
def qbr:=@Int.mul_pos
def qbs:=@List.getElem_inj
def qbt:=@List.getElem_mem
def qbu:=@List.filter_eq_nil_iff
def qbv:=@Int.le_ediv_iff_mul_le
def qbw:=@List.take_of_length_le
def qbx:=@List.range_succ
def qby:=@Bool.decide_and
def qbz:=@Nat.zero_add
namespace L2
open PySem PySem.Spec PyProof.Rows
abbrev Key:=Sum Int Str
def zhh:Key->Value->Bool
 | .inl k,v=>Value.isInt k v
 | .inr x,v=>Value.isStrOf x v
def zy0 (w:World):Key->Int
 | .inl k=>hashInt k
 | .inr x=>hashStr w x
theorem za8:∀ {k:Key} {v:Value},zhh k v=true->(∃ i t,k=Sum.inl i/\v=Value.int i t)\/(∃ x t,k=Sum.inr x/\v=Value.str x t)
 | .inl i,v,h=>by
  obtain⟨t,e⟩:=Value.isInt_shape (k:=i) (v:=v) h
  exact .inl ⟨i,t,rfl,e⟩
 | .inr x,v,h=>by
  obtain⟨t,e⟩:=Value.isStrOf_shape (x:=x) (v:=v) h
  exact .inr ⟨x,t,rfl,e⟩
theorem zo0 (i:Int)(t:Tok):zhh (.inl i) (.int i t)=true:=by simp [zhh,Value.isInt]
theorem zpe (x:Str)(t:Tok):zhh (.inr x) (.str x t)=true:=by simp [zhh,Value.isStrOf]
theorem zwB (a b:Int):decide ((Sum.inl a:Key)=Sum.inl b)=(a==b):=by
 by_cases e:a=b
 ·subst e;simp
 ·have h:¬ (Sum.inl a:Key)=Sum.inl b:=fun q=>e (Sum.inl.inj q)
  rw [decide_eq_false h]
  exact (beq_eq_false_iff_ne.mpr e).symm
theorem zu7 (a b:Str):decide ((Sum.inr a:Key)=Sum.inr b)=decide (a=b):=by
 by_cases e:a=b
 ·subst e;simp
 ·have h:¬ (Sum.inr a:Key)=Sum.inr b:=fun q=>e (Sum.inr.inj q)
  rw [decide_eq_false h,decide_eq_false e]
theorem zv7 (a:Int)(b:Str):decide ((Sum.inl a:Key)=Sum.inr b)=false:=decide_eq_false (fun q=>nomatch q)
theorem zvj (a:Str)(b:Int):decide ((Sum.inr a:Key)=Sum.inl b)=false:=decide_eq_false (fun q=>nomatch q)
def zbu (prog:Program)(w:World):PySem.KeyKind prog w Key where
  is:=zhh
  hash:=zy0 w
  inj:=fun v a b ha hb=>by
    rcases za8 ha with ⟨i,t,rfl,rfl⟩ | ⟨x,t,rfl,rfl⟩
    . rcases za8 hb with ⟨j,u,rfl,e⟩ | ⟨y,u,rfl,e⟩
      . injection e with e1 _;rw [e1]
      . exact nomatch e
    . rcases za8 hb with ⟨j,u,rfl,e⟩ | ⟨y,u,rfl,e⟩
      . exact nomatch e
      . injection e with e1 _;rw [e1]
  byValue:=fun k v h=>by
    rcases za8 h with ⟨i,t,rfl,rfl⟩ | ⟨x,t,rfl,rfl⟩<;>rfl
  pyHash:=fun hv h=>by
    rcases za8 hv with ⟨i,t,rfl,rfl⟩ | ⟨x,t,rfl,rfl⟩
    . exact wpAny_pyHash_int h
    . exact wpAny_pyHash_str h
  eqBool:=fun hu hv h=>by
    rcases za8 hu with ⟨i,t,rfl,rfl⟩ | ⟨x,t,rfl,rfl⟩
    . rcases za8 hv with ⟨j,u,rfl,rfl⟩ | ⟨y,u,rfl,rfl⟩
      . rw [zwB] at h;exact wpAny_eqBool_int h
      . rw [zv7] at h;exact SeqAt.EqAt.int_str i t y u _ _ _ _ h
    . rcases za8 hv with ⟨j,u,rfl,rfl⟩ | ⟨y,u,rfl,rfl⟩
      . rw [zvj] at h;exact SeqAt.EqAt.str_int x t j u _ _ _ _ h
      . rw [zu7] at h;exact wpAny_eqBool_str h
  «strs»:=fun k x t v h=>by
    rcases za8 h with ⟨i,u,rfl,e⟩ | ⟨y,u,rfl,e⟩
    . exact nomatch e
    . injection e with e1 _
      subst e1
      cases v<;>rfl
theorem zmK (prog:Program)(w:World)(i:Int)(t:Tok):(zbu prog w).is (.inl i) (.int i t)=true:=zo0 i t
theorem zmI (prog:Program)(w:World)(x:Str)(t:Tok):(zbu prog w).is (.inr x) (.str x t)=true:=zpe x t
inductive V where
 | non | bl (b:Bool) | int (i:Int) | str (x:Str) | byt (b:Array UInt8) | flt (b:UInt64) | ref (a:Addr) | ty (n:String)
 deriving DecidableEq
def RelV:V->Value->Prop
 | .non,u=>u=Value.none
 | .bl b,u=>u=Value.bool b
 | .int i,u=>∃ t,u=Value.int i t
 | .str x,u=>∃ t,u=Value.str x t
 | .byt b,u=>∃ t,u=Value.bytes b t
 | .flt b,u=>∃ t,u=Value.float b t
 | .ref a,u=>u=Value.ref a
 | .ty n,u=>u=Value.type n
abbrev Vals:List V->List Value->Prop:=Paired RelV
theorem Vals.length {xs:List V}{us:List Value}(r:Vals xs us):xs.length=us.length:=Paired.length r
theorem Vals.get:∀ {xs:List V} {us:List Value} {i:Nat} {x:V},Vals xs us->xs[i]?=some x->∃ u,us[i]?=some u/\RelV x u
 | _,_,_,_,.nil,e=>by simp at e
 | _,_,0,_,.cons r _,e=>by simp at e;subst e;exact⟨_,rfl,r⟩
 | _,_,i+1,x,.cons _ t,e=>by
  obtain⟨u,h1,h2⟩:=Vals.get (i:=i) (x:=x) t (by simpa using e)
  exact⟨u,by simpa using h1,h2⟩
theorem Vals.set {x:V}{u:Value}(r:RelV x u):∀ {xs:List V} {us:List Value} (i:Nat),Vals xs us->Vals (xs.set i x) (us.set i u)
 | _,_,_,.nil=>.nil
 | _,_,0,.cons _ t=>.cons r t
 | _,_,i+1,.cons q t=>.cons q (Vals.set r i t)
theorem Vals.append:∀ {xs ys:List V} {us ws:List Value},Vals xs us->Vals ys ws->Vals (xs++ys) (us++ws)
 | _,_,_,_,.nil,s=>s
 | _,_,_,_,.cons r t,s=>.cons r (Vals.append t s)
theorem Vals.take:∀ {xs:List V} {us:List Value} (n:Nat),Vals xs us->Vals (xs.take n) (us.take n)
 | _,_,0,_=>.nil
 | _,_,_+1,.nil=>.nil
 | _,_,n+1,.cons r t=>.cons r (Vals.take n t)
theorem Vals.drop:∀ {xs:List V} {us:List Value} (n:Nat),Vals xs us->Vals (xs.drop n) (us.drop n)
 | _,_,0,r=>r
 | _,_,_+1,.nil=>.nil
 | _,_,n+1,.cons _ t=>Vals.drop n t
def Wh:Option V->Option Value->Prop
 | some v,some u=>RelV v u
 | none,none=>True
 | _,_=>False
def KV {κ:Type}:List (κ×V)->List (κ×Value)->Prop:=Paired fun (p:κ×V) (q:κ×Value)=>p.1=q.1/\RelV p.2 q.2
def kV:Key->V
 | .inl i=>.int i
 | .inr x=>.str x
inductive HO where
 | lst (xs:List V)
 | tup (xs:List V)
 | dK (Z6:List (Key×V)) | dT (Z6:List (List Key×V))
 | set (S:Int->Bool) (n:Nat)
 | ins (C dx:Addr) (fs:List (Str×V))
 | own (x:Addr)
 | xd (fs:List (Str×V))
 | met (f x:Addr)
 | rng (lo hi:Int)
 | frz (o:Obj) (u:HO)
 | tbl (ps:Array Value)
 | ext (φ:Heap->Prop)
abbrev Hp:=Addr->Option HO
def upd (H:Hp)(a:Addr)(o:HO):Hp:=fun b=>if b=a then some o else H b
theorem Xr {H:Hp}{a:Addr}{o:HO}:upd H a o a=some o:=by unfold upd;rw [if_pos rfl]
theorem zU {H:Hp}{a b:Addr}{o:HO}(h:b≠a):upd H a o b=H b:=by unfold upd;rw [if_neg h]
theorem zet {H:Hp}{a b:Addr}{o u:HO}(h:H a=some o)(h':H b=some u)(d:o≠u):a≠b:=by
 intro e;subst e;rw [h] at h';exact d (qA h')
theorem zbk {H:Hp}{a b:Addr}{o:HO}(h:H a=some o)(h':H b=none):a≠b:=by
 intro e;subst e;rw [h] at h';cases h'
section
variable (P:Program)(w:World)
def YZ (H:Hp)(h:Heap)(a:Addr):HO->Prop
 | .lst xs=>xs.length<=sizeLine/\∃ (its:List Value) (n:Nat),Vals xs its/\h.get? a=some { cls:=.type "list",data:=.seq its.toArray n }
 | .tup xs=>xs.length<=sizeLine/\∃ its:List Value,Vals xs its/\IsTup h a its.toArray
 | .dK Z6=>Z6.length<=sizeLine/\(a==sysModules)=false/\∃ vs,KV Z6 vs/\h.DictOf (zbu P w) a vs
 | .dT Z6=>Z6.length<=sizeLine/\(a==sysModules)=false/\∃ xs:List (List Key×Addr×Value),
   Paired (fun (p:List Key×V) (q:List Key×Addr×Value)=>p.1=q.1/\H q.2.1=some (.tup (p.1.map kV))/\RelV p.2 q.2.2) Z6 xs /\
   ∃ o es ep,h.get? a=some o/\o.ExactDict/\o.data=.dict es ep/\es.toList=xs.map (entryOfKey (tupleKind (zbu P w)))/\(xs.map (·.1)).Nodup
 | .set S n=>h.SetOf (intKind P w) a S n
 | .ins C dx fs=>H dx=some (.own a)/\fs.length<=1000/\dx≠a/\h.get? a=some (PySem.W.instObj C dx) /\
   ∃ mA,h.Ns1 dx mA/\(∀ f,Wh (fs.lookup f) (mA f))/\PySem.Within mA (fs.map (·.1))
 | .own _=>∃ o,h.get? a=some o
 | .xd fs=>∃ mA,h.Ns1 a mA/\∀ f,Wh (fs.lookup f) (mA f)
 | .rng lo hi=>∃ t u v,h.get? a=some { cls:=.type "range",data:=.fields #[.int lo t,.int hi u,.int 1 v] }
 | .frz o u=>h.get? a=some o/\YZ H h a u
 | .tbl ps=>h.get? a=some { cls:=.none,data:=.fields ps }
 | .met f x=>h.get? a=some (PySem.W.methodObj (.ref f) (.ref x))
 | .ext φ=>φ h/\(∃ o,h.get? a=some o)/\∀ h1 h2:Heap,φ h1->(∀ o,h1.get? a=some o->h2.get? a=some o)->φ h2
def Ze (H:Hp)(h:Heap):Prop:=∀ a o,H a=some o->YZ P w H h a o
end
section
variable {P:Program}{w:World}{H H':Hp}{h h':Heap}{a:Addr}{o:HO}
theorem YZ.lt (x:YZ P w H h a o):a<h.objs.size:=by
 cases o with
 | lst xs=>obtain⟨_,_,_,_,e⟩:=x;exact qv e
 | tup xs=>obtain⟨_,_,_,p⟩:=x;exact p.lt
 | dK Z6=>obtain⟨_,_,_,_,o,_,_,e,_⟩:=x;exact qv e
 | dT Z6=>obtain⟨_,_,_,_,o,_,_,e,_⟩:=x;exact qv e
 | set S n=>obtain⟨o,_,_,_,e,_⟩:=x;exact qv e
 | ins C dx fs=>obtain⟨_,_,_,e,_⟩:=x;exact qv e
 | own y=>obtain⟨_,e⟩:=x;exact qv e
 | xd fs=>obtain⟨_,⟨_,_,_,e,_⟩,_⟩:=x;exact qv e
 | rng lo hi=>obtain⟨_,_,_,e⟩:=x;exact qv e
 | frz ob u=>obtain⟨e,_⟩:=x;exact qv e
 | tbl ps=>exact qv (show h.get? a=some _ from x)
 | met f y=>exact qv (show h.get? a=some _ from x)
 | ext φ=>obtain⟨_,⟨_,e⟩,_⟩:=x;exact qv e
theorem Paired.mapP {α β:Type}{F G:α->β->Prop}:∀ {l₁:List α} {l₂:List β},Paired F l₁ l₂->(∀ a b,F a b->G a b)->Paired G l₁ l₂
 | _,_,.nil,_=>.nil
 | _,_,.cons r t,f=>.cons (f _ _ r) (Paired.mapP t f)
theorem Paired.imp' {α β:Type}{F G:α->β->Prop}(f:∀ a b,F a b->G a b){l₁:List α}{l₂:List β}(r:Paired F l₁ l₂):Paired G l₁ l₂:=Paired.mapP r f
theorem YZ.stay (x:YZ P w H h a o)(k:∀ b u,(b=a\/H b=some (.own a))->h.get? b=some u->h'.get? b=some u)
  (ho:∀ b,H b=some (.own a)->H' b=some (.own a)) (ht:∀ b xs,H b=some (.tup xs)->H' b=some (.tup xs)):YZ P w H' h' a o:=by
 induction o with
 | lst xs=>obtain⟨z,its,n,r,e⟩:=x;exact⟨z,its,n,r,k _ _ (.inl rfl) e⟩
 | tup xs=>obtain⟨z,its,r,ob,e,c⟩:=x;exact⟨z,its,r,ob,k _ _ (.inl rfl) e,c⟩
 | dK Z6=>obtain⟨z,y,vs,r,ob,es,ep,e,c⟩:=x;exact⟨z,y,vs,r,ob,es,ep,k _ _ (.inl rfl) e,c⟩
 | dT Z6 =>
  obtain⟨z,y,xs,r,ob,es,ep,e,c⟩:=x
  exact⟨z,y,xs,Paired.mapP r fun p q z=>⟨z.1,ht _ _ z.2.1,z.2.2⟩,ob,es,ep,k _ _ (.inl rfl) e,c⟩
 | set S n=>obtain⟨ob,es,ep,t,e,c⟩:=x;exact⟨ob,es,ep,t,k _ _ (.inl rfl) e,c⟩
 | ins C dx fs =>
  obtain⟨d,z,ne,e,mA,⟨od,es,ep,e2,c⟩,r⟩:=x
  exact⟨ho _ d,z,ne,k _ _ (.inl rfl) e,mA,⟨od,es,ep,k _ _ (.inr d) e2,c⟩,r⟩
 | own y=>obtain⟨ob,e⟩:=x;exact⟨ob,k _ _ (.inl rfl) e⟩
 | xd fs=>obtain⟨mA,⟨od,es,ep,e,c⟩,r⟩:=x;exact⟨mA,⟨od,es,ep,k _ _ (.inl rfl) e,c⟩,r⟩
 | rng lo hi=>obtain⟨t,u,v,e⟩:=x;exact⟨t,u,v,k _ _ (.inl rfl) e⟩
 | frz ob u ih=>obtain⟨e,q⟩:=x;exact⟨k _ _ (.inl rfl) e,ih q⟩
 | tbl ps =>
  have e:h.get? a=some { cls:=.none,data:=.fields ps }:=x
  show h'.get? a=some { cls:=.none,data:=.fields ps }
  exact k a _ (.inl rfl) e
 | met f y =>
  have e:h.get? a=some (PySem.W.methodObj (.ref f) (.ref y)):=x
  show h'.get? a=some (PySem.W.methodObj (.ref f) (.ref y))
  exact k a _ (.inl rfl) e
 | ext φ=>obtain⟨p,⟨o,e⟩,st⟩:=x;exact⟨st _ _ p fun o q=>k _ _ (.inl rfl) q,⟨o,k _ _ (.inl rfl) e⟩,st⟩
theorem Ze.lt (x:Ze P w H h)(e:H a=some o):a<h.objs.size:=(x a o e).lt
theorem Ze.fresh (x:Ze P w H h)(e:h.objs.size<=a):H a=none:=by
 cases q:H a with
 | none=>rfl
 | some u=>exact absurd (qE (x.lt q) e) (WR _)
theorem Ze.kept (x:Ze P w H h)(k:∀ b u,h.get? b=some u->h'.get? b=some u):Ze P w H h':=fun a o e =>
 (x a o e).stay (fun b u _ q=>k b u q) (fun _ q=>q) fun _ _ q=>q
theorem Ze.laid (x:Ze P w H h)(k:∀ b u,h.get? b=some u->h'.get? b=some u)(hp:h.objs.size<=a)(new:YZ P w (upd H a o) h' a o):Ze P w (upd H a o) h':=fun b u e=>by
 have hn:=x.fresh hp
 by_cases hb:b=a
 ·subst hb;rw [Xr] at e;cases e;exact new
 ·rw [zU hb] at e
  exact (x b u e).stay (fun c v _ q=>k c v q) (fun c q=>by rw [zU (zbk q hn)];exact q) fun c xs q=>by rw [zU (zbk q hn)];exact q
end
def Rd (H:Hp)(a:Addr)(u:HO):Prop:=H a=some u\/∃ o,H a=some (.frz o u)
theorem Rd.ok {P:Program}{w:World}{H:Hp}{h:Heap}{a:Addr}{u:HO}(r:Rd H a u)(x:Ze P w H h):YZ P w H h a u:=by
 rcases r with r | ⟨o,r⟩
 ·exact x a u r
 ·obtain⟨_,q⟩:=x a _ r
  exact q
def Mut:Option HO->Prop
 | some (.lst _)=>True
 | some (.dK _)=>True
 | some (.dT _)=>True
 | some (.set _ _)=>True
 | some (.ins _ _ _)=>True
 | some (.ext _)=>True
 | _=>False
section
variable {P:Program}{w:World}{H:Hp}{h h':Heap}{x e:Addr}{o':HO}
theorem Ze.write (ok:Ze P w H h)(mu:Mut (H x))(he:e=x\/H e=some (.own x))(k:∀ b u,b≠e->h.get? b=some u->h'.get? b=some u)(heo:∃ u,h'.get? e=some u)
  (new:YZ P w (upd H x o') h' x o'):Ze P w (upd H x o') h':=fun b u q=>by
 have nown:∀ c y,H c=some (.own y)->c≠x:=fun c y r z=>by subst z;rw [r] at mu;exact mu
 have ntup:∀ c xs,H c=some (.tup xs)->c≠x:=fun c xs r z=>by subst z;rw [r] at mu;exact mu
 by_cases hb:b=x
 ·subst hb;rw [Xr] at q;cases q;exact new
 ·rw [zU hb] at q
  by_cases hbe:b=e
  ·have q':H b=some (.own x):=by
    rcases he with z | z
    ·exact absurd (hbe.trans z) hb
    ·rw [hbe];exact z
   rw [q] at q';cases q'
   obtain⟨v,hv⟩:=heo
   exact⟨v,by rw [hbe];exact hv⟩
  ·refine (ok b u q).stay (fun c v hc r=>k c v ?_ r) (fun c r=>by rw [zU (nown c b r)];exact r) fun c xs r=>by rw [zU (ntup c xs r)];exact r
   rcases hc with rfl | hc
   ·exact hbe
   ·rintro rfl
    rcases he with z | z
    ·exact nown c b hc z
    ·rw [hc] at z;cases z;exact hb rfl
end
structure Un (fs ex:List Addr)(H H':Hp)(h h':Heap):Prop where
 keep:∀ b o,h.get? b=some o->H b=none->b∉fs->b∉ex->h'.get? b=some o
 slot:∀ b o,h.get? b=some o->H b=none->b∈fs->b∉ex->∃ sl,h'.get? b=some { o with slots:=sl }
 free:∀ b o,h.get? b=some o->H b=none->b∉ex->H' b=none
 there:∀ b o,h.get? b=some o->b∉ex->∃ o',h'.get? b=some o'
 tups:∀ b xs,H b=some (.tup xs)->H' b=some (.tup xs)
 frzs:∀ b o u,H b=some (.frz o u)->H' b=some (.frz o u)
 tbls:∀ b ps,H b=some (.tbl ps)->∃ more,H' b=some (.tbl (ps++more))
section
variable {fs fs' ex ex':List Addr}{H H1 H2:Hp}{h h1 h2 h':Heap}{a x e:Addr}{o:HO}
theorem Un.any (u:Un fs ex H H1 h h1){b:Addr}{ob:Obj}(q:h.get? b=some ob)(n:H b=none)(hx:b∉ex):∃ sl,h1.get? b=some { ob with slots:=sl }:=by
 by_cases hb:b∈fs
 ·exact u.slot b ob q n hb hx
 ·exact⟨ob.slots,u.keep b ob q n hb hx⟩
theorem Un.kept (k:∀ b u,h.get? b=some u->h'.get? b=some u):Un fs ex H H h h' :=
 ⟨fun b ob q _ _ _=>k b ob q,fun b ob q _ _ _=>⟨ob.slots,k b ob q⟩,fun _ _ _ n _=>n,fun b ob q _=>⟨ob,k b ob q⟩,fun _ _ q=>q,fun _ _ _ q=>q,fun _ ps q=>⟨#[],by rw [q];simp⟩⟩
theorem Un.refl:Un fs ex H H h h:=Un.kept fun _ _ q=>q
theorem Un.laid (k:∀ b u,h.get? b=some u->h'.get? b=some u)(hp:h.objs.size<=a)(hn:H a=none):Un fs ex H (upd H a o) h h' where
 keep:=fun b u q _ _ _=>k b u q
 slot:=fun b u q _ _ _=>⟨u.slots,k b u q⟩
 free:=fun b u q n _=>by rw [zU (qL (qE (qv q) hp))];exact n
 there:=fun b u q _=>⟨u,k b u q⟩
 tups:=fun b xs q=>by rw [zU (zbk q hn)];exact q
 frzs:=fun b u xs q=>by rw [zU (zbk q hn)];exact q
 tbls:=fun b ps q=>⟨#[],by rw [zU (zbk q hn),q];simp⟩
theorem Un.write (mu:Mut (H x))(he:e=x\/H e=some (.own x))(k:∀ b u,b≠e->h.get? b=some u->h'.get? b=some u)(heo:∃ u,h'.get? e=some u):Un fs ex H (upd H x o) h h':=by
 have hx:∀ b,H b=none->b≠x:=fun b n z=>by subst z;rw [n] at mu;exact mu
 have hb:∀ b,H b=none->b≠e:=fun b n z=>by
  subst z
  rcases he with r | r
  ·exact hx b n r
  ·rw [n] at r;cases r
 have hm:∀ b u,H b=some u->¬ Mut (some u)->b≠x:=fun b u q nm z=>by subst z;rw [q] at mu;exact nm mu
 refine⟨fun b u q n _ _=>k b u (hb b n) q,fun b u q n _ _=>⟨u.slots,k b u (hb b n) q⟩,fun b u q n _=>by rw [zU (hx b n)];exact n,fun b u q _=>?_,
  fun b xs q=>by rw [zU (hm b _ q fun z=>z)];exact q,fun b u xs q=>by rw [zU (hm b _ q fun z=>z)];exact q,fun b ps q=>⟨#[],by rw [zU (hm b _ q fun z=>z),q];simp⟩⟩
 by_cases hbe:b=e
 ·subst hbe;exact heo
 ·exact⟨u,k b u hbe q⟩
end
def trk (h:Heap)(H:Hp):List Addr:=(List.range h.objs.size).filter fun a=>(H a).isSome
def zgf (h:Heap)(H:Hp):Heap:=PySem.W.hideAll h (trk h H)
theorem zpf (h:Heap)(H:Hp):(zgf h H).objs.size=h.objs.size:=PySem.W.hideAll_size _ _
theorem zqV {h:Heap}{H:Hp}{b:Addr}{o:Obj}(e:h.get? b=some o)(n:H b=none):(zgf h H).get? b=some o :=
 PySem.W.hideAll_get _ e fun hm=>by
  have q:(H b).isSome=true:=(Wc.mp hm).2
  rw [n] at q;simp at q
theorem zs3 {h:Heap}{H:Hp}{b:Addr}{o:Obj}(e:(zgf h H).get? b=some o):h.get? b=some o/\H b=none:=by
 have e':h.get? b=some o:=PySem.W.of_hideAll (trk h H) e
 refine⟨e',?_⟩
 cases q:H b with
 | none=>rfl
 | some x =>
  have hm:b∈trk h H:=Wc.mpr ⟨List.mem_range.mpr (qv e'),by simp [q]⟩
  have z:(zgf h H).get? b=none:=PySem.W.hideAll_none (trk h H) hm
  rw [z] at e;cases e
def ztH (g h:Heap)(L:Addr):List (Addr×Obj):=(List.range h.objs.size).filterMap fun a=>if a=L\/(g.get? a).isSome=true then none else (h.get? a).map fun o=>(a,o)
def rest (g h:Heap)(L d:Addr):List (Addr×Obj):=(ztH g h L).filter fun p=>decide (p.1≠d)
structure Mod (K:PySem.W.Frag)(mg:Str->Option Value)(base:Heap):Prop where
 kin:K.In base
 glob:base.Ns mainGlobals mg
 blt:∃ mb,base.Ns builtinsNs mb/\∀ x:Str,x≠"__name__"->mb x=bootBuiltins x
 nolimit:base.NoLimit
/-- the context: a def's body (or a comprehension's block) running. base: fixed through the whole law; s₀, H₀: the entry; outer: the frames whose slots others may change (a def's callers); stack: all frames that run;
   ex: iterators that were made ahead of the entry and are walked here (a comprehension's);fn: the names whose cells were made at the entry (a def: all;a comprehension's block: its own);calm: not within an except suite;pn: Z9 that every state bears;xe: what is wanted of an exception that leaves the code -/
structure Cx where
 prog:Program
 w:World
 K:PySem.W.Frag
 mg:Str->Option Value
 base:Heap
 A:Around
 N:List Str
 s₀:Shared
 H₀:Hp
 env:Env
 outer:List Env
 stack:List Env
 ex:List Addr
 fn:Str->Bool
 calm:Bool
 pn:List (Addr×Obj)
 xe:Value->Shared->Prop
def frs (l:List Env):List Addr:=l.filterMap (·.frame)
abbrev Cx.fs (X:Cx):List Addr:=frs X.outer
def Vis (sc:Scope)(x:Str):Prop:=sc.names.lookup x=some .local\/sc.names.lookup x=some .cell\/sc.names.lookup x=some .free
def Loc (sc:Scope)(x:Str):Prop:=sc.names.lookup x=some .local\/sc.names.lookup x=some .cell
def Look (env:Env)(h:Heap)(m:Str->Option Value)(x:Str)(u:Value):Prop :=
 (env.kindOf x=some .local/\m x=some u)\/((env.kindOf x=some .cell\/env.kindOf x=some .free)/\∃ c,env.cells.lookup x=some c/\h.IsCell c (some u))
structure Cx.Ok (X:Cx):Prop where
 mod:Mod X.K X.mg X.base
 kind:X.env.scope.kind=.function
 glob:X.env.globals=mainGlobals
 blt:X.env.builtins=builtinsNs
 above:X.s₀.heap.objs.size<=X.env.locals
 inj:∀ x y c,X.env.cells.lookup x=some c->X.env.cells.lookup y=some c->x=y
 has:∀ x,(X.env.kindOf x=some .cell\/X.env.kindOf x=some .free)->∃ c,X.env.cells.lookup x=some c
 cab:∀ x c,X.fn x=true->X.env.cells.lookup x=some c->X.s₀.heap.objs.size<=c
 hd:X.calm=true->X.A.handled=none
 frames:X.A.frames=some X.stack
 stk:X.stack=X.outer\/(X.stack=X.env::X.outer/\X.env.frame=some X.env.locals)
 exf:∀ b∈X.ex,b≠X.env.locals/\∀ x c,X.env.cells.lookup x=some c->c≠b
 bs:∀ b o,X.base.get? b=some o->X.s₀.heap.get? b=some o/\X.H₀ b=none
 bsz:X.base.objs.size<=X.s₀.heap.objs.size
 noex:∀ b o,X.base.get? b=some o->b∉X.ex
 exfs:∀ b∈X.ex,b∉X.fs
 funs:X.s₀.heap.FunFrames X.base X.outer
 frf:∀ b∈X.fs,X.H₀ b=none
structure Inv (X:Cx)(Z9:List (Addr×Obj))(U:List (Option V))(H:Hp)(s:Shared):Prop where
 ok:X.Ok
 os:s.os=X.s₀.os
 bare:AllBare s.gens
 base:Un X.fs X.ex X.H₀ H X.s₀.heap s.heap
 loc:∃ m,s.heap.Ns X.env.locals m/\∀ (i:Nat) (x:Str) (v:V),X.N[i]?=some x->U[i]?=some (some v)->Vis X.env.scope x->∃ u,RelV v u/\Look X.env s.heap m x u
 cell:∀ x c,X.env.cells.lookup x=some c->∃ v,s.heap.IsCell c v
 free:H X.env.locals=none
 freeC:∀ x c,X.env.cells.lookup x=some c->H c=none
 pin:∀ p∈X.pn++Z9,s.heap.get? p.1=some p.2/\H p.1=none/\p.1≠X.env.locals/\p.1∉X.fs/\∀ v,p.2.data≠.cell v
 hok:Ze X.prog X.w H s.heap
 len:U.length=X.N.length
section
variable {X:Cx}{Z9:List (Addr×Obj)}{U:List (Option V)}{H H':Hp}{s:Shared}{h':Heap}
theorem Cx.Ok.nofr (ok:X.Ok){b:Addr}{o:Obj}(e:X.base.get? b=some o):b∉X.fs:=fun hb=>by
 have:=(ok.funs.mem hb).1
 rw [e] at this;cases this
theorem Inv.bs (I:Inv X Z9 U H s):∀ b o,X.base.get? b=some o->s.heap.get? b=some o/\H b=none:=fun b o e =>
 ⟨I.base.keep b o (I.ok.bs b o e).1 (I.ok.bs b o e).2 (I.ok.nofr e) (I.ok.noex b o e),I.base.free b o (I.ok.bs b o e).1 (I.ok.bs b o e).2 (I.ok.noex b o e)⟩
theorem Inv.bk (I:Inv X Z9 U H s):∀ b o,X.base.get? b=some o->s.heap.get? b=some o:=fun b o e=>(I.bs b o e).1
theorem Inv.mod (I:Inv X Z9 U H s):Mod X.K X.mg X.base:=I.ok.mod
theorem Inv.kIn (I:Inv X Z9 U H s):X.K.In s.heap:=I.ok.mod.kin.keeps I.bk
theorem Inv.lt (I:Inv X Z9 U H s):X.env.locals<s.heap.objs.size:=let ⟨_,hn,_⟩:=I.loc;hn.lt
theorem Inv.sz (I:Inv X Z9 U H s):X.s₀.heap.objs.size<=s.heap.objs.size:=qX I.ok.above (qbg I.lt)
theorem Inv.nofs (I:Inv X Z9 U H s){a:Addr}(h:s.heap.objs.size<=a):a∉X.fs:=fun hb=>by
 obtain⟨_,o,ho,_⟩:=I.ok.funs.mem hb
 exact absurd (qE (qv ho) (qX I.sz h)) (WR _)
theorem Inv.cne (I:Inv X Z9 U H s):∀ x c,X.env.cells.lookup x=some c->c≠X.env.locals:=fun x c e z=>by
 obtain⟨v,o,ho,hd⟩:=I.cell x c e
 obtain⟨m,⟨o',es,ep,ho',hd',_⟩,_⟩:=I.loc
 rw [z,ho'] at ho;cases ho;rw [hd'] at hd;cases hd
theorem Inv.funs (I:Inv X Z9 U H s):s.heap.FunFrames X.base X.outer:=by
 have all:∀ (l:List Env),(∀ b∈frs l,b∈X.fs)->X.s₀.heap.FunFrames X.base l->s.heap.FunFrames X.base l:=by
  intro l
  induction l with
  | nil=>intro _ _;trivial
  | cons env r ih =>
   intro hs hl
   obtain⟨hk,⟨L,o,hf,hn,ho,hd⟩,hr⟩:=hl
   have hL:L∈X.fs:=hs L (by unfold frs;rw [qba,hf];exact qat)
   obtain⟨sl,e⟩:=I.base.slot L o ho (I.ok.frf L hL) hL fun z=>I.ok.exfs L z hL
   exact⟨hk,⟨L,_,hf,hn,e,hd⟩,ih (fun b hb=>hs b (by unfold frs;rw [qba,hf];exact qB _ hb)) hr⟩
 exact all X.outer (fun _ hb=>hb) I.ok.funs
theorem Inv.stack (I:Inv X Z9 U H s):s.heap.FunFrames X.base X.stack:=by
 rcases I.ok.stk with e | ⟨e,hf⟩
 ·rw [e];exact I.funs
 ·rw [e]
  obtain⟨m,hn,_⟩:=I.loc
  refine .cons (by rw [I.ok.kind];decide) hf hn ?_ I.funs
  exact Heap.get?_none_of_le (qX I.ok.bsz I.ok.above)
theorem Inv.stkSub (I:Inv X Z9 U H s):∀ b∈frs X.stack,b∈X.env.locals::X.fs:=fun b hb=>by
 rcases I.ok.stk with e | ⟨e,hf⟩
 ·rw [e] at hb;exact qB _ hb
 ·rw [e] at hb
  unfold frs at hb
  rw [qba,hf] at hb
  exact hb
theorem Inv.stkFree (I:Inv X Z9 U H s):∀ b∈frs X.stack,H b=none:=fun b hb=>by
 rcases qg.mp (I.stkSub b hb) with e | hb
 ·rw [e];exact I.free
 ·obtain⟨_,o,ho,_⟩:=I.ok.funs.mem hb
  exact I.base.free b o ho (I.ok.frf b hb) fun z=>I.ok.exfs b z hb
theorem Inv.step {g':Array GenState}{t':Nat}{d':Drawn}{ch:List Addr}(I:Inv X Z9 U H s)
  (hch:∀ b∈ch,(b∈X.ex\/X.s₀.heap.objs.size<=b)/\b≠X.env.locals/\(∀ x c,X.env.cells.lookup x=some c->c≠b)/\∀ p∈X.pn++Z9,p.1≠b)
  (keep:∀ b o,b≠X.env.locals->b∉X.fs->b∉ch->s.heap.get? b=some o->H b=none->h'.get? b=some o)
  (slot:∀ b o,b≠X.env.locals->b∈X.fs->b∉ch->s.heap.get? b=some o->H b=none->∃ sl,h'.get? b=some { o with slots:=sl }) (free:∀ b o,b∉ch->s.heap.get? b=some o->H b=none->H' b=none)
  (there:∀ b o,b∉ch->s.heap.get? b=some o->∃ o',h'.get? b=some o')
  (tups:∀ b xs,H b=some (.tup xs)->H' b=some (.tup xs)) (frzs:∀ b o u,H b=some (.frz o u)->H' b=some (.frz o u)) (tbls:∀ b ps,H b=some (.tbl ps)->∃ more,H' b=some (.tbl (ps++more)))
  (ns:∀ m,s.heap.Ns X.env.locals m->h'.Ns X.env.locals m) (hok:Ze X.prog X.w H' h') (hg:AllBare g') :
  Inv X Z9 U H' { s with heap:=h',gens:=g',drawn:=d',toks:=t' }:=by
 have neL:∀ b o,X.s₀.heap.get? b=some o->b≠X.env.locals:=fun b o e=>qL (qE (qv e) I.ok.above)
 have neC:∀ b o,X.s₀.heap.get? b=some o->b∉X.ex->b∉ch:=fun b o e hx hb=>by
  rcases (hch b hb).1 with z | z
  ·exact hx z
  ·exact absurd (qE (qv e) z) (WR _)
 have cellK:∀ x c,X.env.cells.lookup x=some c->∀ v,s.heap.IsCell c v->h'.IsCell c v:=fun x c e v ⟨o,ho,hd⟩=>by
  have nch:c∉ch:=fun z=>(hch c z).2.2.1 x c e rfl
  by_cases hc:c∈X.fs
  ·obtain⟨sl,q⟩:=slot c o (I.cne x c e) hc nch ho (I.freeC x c e)
   exact⟨_,q,hd⟩
  ·exact⟨o,keep c o (I.cne x c e) hc nch ho (I.freeC x c e),hd⟩
 refine⟨I.ok,I.os,hg,⟨fun b o e n hb hx=>?_,fun b o e n hb hx=>?_,fun b o e n hx=>?_,fun b o e hx=>?_,fun b xs e=>tups b xs (I.base.tups b xs e),fun b o xs e=>frzs b o xs (I.base.frzs b o xs e),fun b ps e=>?_⟩,?_,fun x c e=>?_,?_,fun x c e=>?_,fun p hp=>?_,hok,I.len⟩
 ·exact keep b o (neL b o e) hb (neC b o e hx) (I.base.keep b o e n hb hx) (I.base.free b o e n hx)
 ·obtain⟨sl,e1⟩:=I.base.slot b o e n hb hx
  obtain⟨sl',e2⟩:=slot b _ (neL b o e) hb (neC b o e hx) e1 (I.base.free b o e n hx)
  exact⟨sl',e2⟩
 ·obtain⟨o',e1⟩:=I.base.there b o e hx
  exact free b o' (neC b o e hx) e1 (I.base.free b o e n hx)
 ·obtain⟨o',e1⟩:=I.base.there b o e hx
  exact there b o' (neC b o e hx) e1
 ·obtain⟨m1,e1⟩:=I.base.tbls b ps e
  obtain⟨m2,e2⟩:=tbls b _ e1
  exact⟨m1++m2,by rw [e2,Array.append_assoc]⟩
 ·obtain⟨m,hn,hl⟩:=I.loc
  refine⟨m,ns m hn,fun i x v e1 e2 e3=>?_⟩
  obtain⟨u,r,l⟩:=hl i x v e1 e2 e3
  refine⟨u,r,?_⟩
  rcases l with l | ⟨k,c,e,z⟩
  ·exact .inl l
  ·exact .inr ⟨k,c,e,cellK x c e _ z⟩
 ·obtain⟨v,z⟩:=I.cell x c e
  exact⟨v,cellK x c e v z⟩
 ·obtain⟨m,⟨o,_,_,ho,_⟩,_⟩:=I.loc
  exact free _ o (fun z=>(hch _ z).2.1 rfl) ho I.free
 ·obtain⟨v,o,ho,hd⟩:=I.cell x c e
  exact free c o (fun z=>(hch c z).2.2.1 x c e rfl) ho (I.freeC x c e)
 ·obtain⟨e,n,ne,nf,d⟩:=I.pin p hp
  have nch:p.1∉ch:=fun z=>(hch p.1 z).2.2.2 p hp rfl
  exact⟨keep p.1 p.2 ne nf nch e n,free p.1 p.2 nch e n,ne,nf,d⟩
theorem Inv.un {t':Nat}(I:Inv X Z9 U H s)(u:Un X.fs [] H H' s.heap h')(hok:Ze X.prog X.w H' h'):Inv X Z9 U H' { s with heap:=h',toks:=t' }:=by
 obtain⟨m,⟨o,es,ep,ho,r⟩,_⟩:=id I.loc
 obtain⟨sl,hL⟩:=u.any ho I.free (by simp)
 exact I.step (g':=s.gens) (d':=s.drawn) (ch:=[]) (fun _ z=>nomatch z) (fun b o _ hb _ e n=>u.keep b o e n hb (by simp)) (fun b o _ hb _ e n=>u.slot b o e n hb (by simp)) (fun b o _ e n=>u.free b o e n (by simp)) (fun b o _ e=>u.there b o e (by simp)) u.tups u.frzs u.tbls (fun m' hm=>by
  obtain⟨o',es',ep',ho',r'⟩:=hm
  rw [ho] at ho';cases ho'
  exact⟨_,es',ep',hL,r'⟩) hok I.bare
theorem Inv.call {g':Array GenState}{t':Nat}{d':Drawn}{ch:List Addr}(I:Inv X Z9 U H s)(u:Un (frs X.stack) ch H H' s.heap h')(hok:Ze X.prog X.w H' h')(hg:AllBare g')
  (hch:∀ b∈ch,(b∈X.ex\/X.s₀.heap.objs.size<=b)/\b≠X.env.locals/\(∀ x c,X.env.cells.lookup x=some c->c≠b)/\∀ p∈X.pn++Z9,p.1≠b) :
  Inv X Z9 U H' { s with heap:=h',gens:=g',drawn:=d',toks:=t' }:=by
 obtain⟨m,⟨o,es,ep,ho,r⟩,_⟩:=id I.loc
 obtain⟨sl,hL⟩:=u.any ho I.free fun z=>(hch _ z).2.1 rfl
 exact I.step (ch:=ch) hch (fun b o hL hb hc e n=>u.keep b o e n (fun z=>(qg.mp (I.stkSub b z)).elim hL hb) hc) (fun b o _ _ hc e n=>u.any e n hc) (fun b o hc e n=>u.free b o e n hc) (fun b o hc e=>u.there b o e hc) u.tups u.frzs u.tbls (fun m' hm=>by
  obtain⟨o',es',ep',ho',r'⟩:=hm
  rw [ho] at ho';cases ho'
  exact⟨_,es',ep',hL,r'⟩) hok hg
theorem Inv.turned {t':Nat}{it:Addr}(I:Inv X Z9 U H s)(k:∀ b o,b≠it->s.heap.get? b=some o->h'.get? b=some o)(hn:H it=none)(hL:it≠X.env.locals)
  (h1:it∈X.ex\/X.s₀.heap.objs.size<=it) (h2:∀ x c,X.env.cells.lookup x=some c->c≠it) (h3:∀ p∈X.pn++Z9,p.1≠it):Inv X Z9 U H { s with heap:=h',toks:=t' }:=by
 have nit:∀ b u,H b=some u->b≠it:=fun b u e z=>by rw [z,hn] at e;cases e
 refine I.step (g':=s.gens) (d':=s.drawn) (ch:=[it]) (fun b hb=>?_) (fun b o _ _ hc e _=>k b o (fun z=>hc (by simp [z])) e) (fun b o _ _ hc e _=>⟨o.slots,k b o (fun z=>hc (by simp [z])) e⟩) (fun _ _ _ _ n=>n)
  (fun b o hc e=>⟨o,k b o (fun z=>hc (by simp [z])) e⟩) (fun _ _ e=>e) (fun _ _ _ e=>e) (fun b ps e=>⟨#[],by rw [e];simp⟩) (fun m hm=>?_) (fun b u e=>?_) I.bare
 ·have e:b=it:=by simpa using hb
  subst e
  exact⟨h1,hL,h2,h3⟩
 ·obtain⟨o,es,ep,ho,r⟩:=hm
  exact⟨o,es,ep,k _ o (Ne.symm hL) ho,r⟩
 ·refine (I.hok b u e).stay (fun c v hc q=>k c v ?_ q) (fun _ q=>q) fun _ _ q=>q
  rcases hc with z | z
  ·rw [z];exact nit b u e
  ·exact nit c _ z
theorem Inv.tok (I:Inv X Z9 U H s)(t:Nat):Inv X Z9 U H { s with toks:=t }:=I.un (h':=s.heap) (t':=t) Un.refl I.hok
theorem Inv.kept {t':Nat}(I:Inv X Z9 U H s)(k:∀ b u,s.heap.get? b=some u->h'.get? b=some u):Inv X Z9 U H { s with heap:=h',toks:=t' }:=I.un (Un.kept k) (I.hok.kept k)
theorem Inv.laid {a:Addr}{o:HO}{t':Nat}(I:Inv X Z9 U H s)(k:∀ b u,s.heap.get? b=some u->h'.get? b=some u)(hp:s.heap.objs.size<=a)(new:YZ X.prog X.w (upd H a o) h' a o) :
  Inv X Z9 U (upd H a o) { s with heap:=h',toks:=t' }:=I.un (Un.laid k hp (I.hok.fresh hp)) (I.hok.laid k hp new)
theorem Inv.write {x e:Addr}{o:HO}{t':Nat}(I:Inv X Z9 U H s)(mu:Mut (H x))(he:e=x\/H e=some (.own x))(k:∀ b u,b≠e->s.heap.get? b=some u->h'.get? b=some u)(heo:∃ u,h'.get? e=some u)
  (new:YZ X.prog X.w (upd H x o) h' x o):Inv X Z9 U (upd H x o) { s with heap:=h',toks:=t' }:=I.un (Un.write mu he k heo) (I.hok.write mu he k heo new)
theorem Inv.weak {σ':List (Option V)}(I:Inv X Z9 U H s)(hl:σ'.length=U.length)(w:∀ (i:Nat) v,σ'[i]?=some (some v)->U[i]?=some (some v)):Inv X Z9 σ' H s :=
 ⟨I.ok,I.os,I.bare,I.base,let ⟨m,hn,hl'⟩:=I.loc;⟨m,hn,fun i x v e1 e2 e3=>hl' i x v e1 (w i v e2) e3⟩,I.cell,I.free,I.freeC,I.pin,I.hok,hl.trans I.len⟩
theorem Inv.pins_of {pins':List (Addr×Obj)}(I:Inv X Z9 U H s)(h:∀ p∈pins',s.heap.get? p.1=some p.2/\H p.1=none/\p.1≠X.env.locals/\p.1∉X.fs/\∀ v,p.2.data≠.cell v):Inv X pins' U H s :=
 ⟨I.ok,I.os,I.bare,I.base,I.loc,I.cell,I.free,I.freeC,fun p hp=>(qK.mp hp).elim (fun z=>I.pin p (qaz _ z)) (h p),I.hok,I.len⟩
theorem zlq {N:List Str}(hN:N.Nodup){i j:Nat}{x:Str}(a:N[i]?=some x)(b:N[j]?=some x):i=j:=by
 obtain⟨h1,e1⟩:=qP.mp a
 obtain⟨h2,e2⟩:=qP.mp b
 exact (qbs hN).mp (e1.trans e2.symm)
theorem zkt {M:Model}{A:Around}{E:Value->Shared->Prop}{i:Nat}{x:Str}{v:V}{u:Value}{Q:Unit->Shared->Prop}(I:Inv X Z9 U H s)(hN:X.N.Nodup)(hi:X.N[i]?=some x)(hx:Loc X.env.scope x)(r:RelV v u)
  (h:∀ s',Inv X Z9 (U.set i (some v)) H s'->(∃ a,Heap.SameBut a s.heap s'.heap/\(a=X.env.locals\/X.env.cells.lookup x=some a))->Q () s') (hf:X.fn x=true\/X.env.scope.names.lookup x=some .local:=by first | exact .inl rfl | exact .inr rfl | assumption):wpAny M A (storeName X.env x u) Q E s:=by
 obtain⟨m,hn,hl⟩:=id I.loc
 have hcls:(X.env.scope.kind==.class||(X.env.scope.kind==.module&&X.env.locals != X.env.globals))=false:=by rw [I.ok.kind];rfl
 have hiσ:i<U.length:=by rw [I.len];exact (qP.mp hi).1
 have cne:=I.cne
 have tracked:∀ {a:Addr} {h':Heap},(∃ o,s.heap.get? a=some o/\H a=none)->Heap.SameBut a s.heap h'->Ze X.prog X.w H h':=fun {a h'} ha hs b ob e=>by
  obtain⟨_,_,hfree⟩:=ha
  refine (I.hok b ob e).stay (fun c w' hc q=>(hs.2 c ?_).trans q) (fun _ q=>q) fun _ _ q=>q
  rintro rfl
  rcases hc with rfl | hc
  ·rw [hfree] at e;cases e
  ·rw [hfree] at hc;cases hc
 rcases hx with hk | hk
 ·refine wpAny_storeName_local hk hn (fun h' hn' hs=>?_) hcls
  obtain⟨oL,_,_,hoL,_⟩:=id hn
  refine h _ ⟨I.ok,I.os,I.bare,⟨fun b o e n hb hx=>?_,fun b o e n hb hx=>?_,I.base.free,fun b o e hx=>?_,I.base.tups,I.base.frzs,I.base.tbls⟩,⟨_,hn',fun j y v' e1 e2 e3=>?_⟩,fun y c e=>?_,I.free,I.freeC,fun p hp=>?_,tracked ⟨oL,hoL,I.free⟩ hs,by simpa using I.len⟩ ⟨_,hs,.inl rfl⟩
  ·exact (hs.2 b (qL (qE (qv e) I.ok.above))).trans (I.base.keep b o e n hb hx)
  ·obtain⟨sl,e1⟩:=I.base.slot b o e n hb hx
   exact⟨sl,(hs.2 b (qL (qE (qv e) I.ok.above))).trans e1⟩
  ·obtain⟨o',e1⟩:=I.base.there b o e hx
   exact⟨o',(hs.2 b (qL (qE (qv e) I.ok.above))).trans e1⟩
  ·by_cases hj:j=i
   ·subst hj
    rw [hi] at e1;cases e1
    rw [qJ hiσ] at e2
    cases e2
    exact⟨u,r,.inl ⟨hk,by simp⟩⟩
   ·rw [qN (Ne.symm hj)] at e2
    obtain⟨u',r',q⟩:=hl j y v' e1 e2 e3
    refine⟨u',r',?_⟩
    rcases q with ⟨k,e⟩ | ⟨k,c,e,z⟩
    ·refine .inl ⟨k,?_⟩
     have:y≠x:=fun e=>hj (zlq hN e1 (e▸hi))
     simp [this,e]
    ·exact .inr ⟨k,c,e,z.sameBut hs (cne y c e)⟩
  ·obtain⟨w',z⟩:=I.cell y c e
   exact⟨w',z.sameBut hs (cne y c e)⟩
  ·obtain⟨e,n,ne,nf,d⟩:=I.pin p hp
   exact⟨(hs.2 p.1 ne).trans e,n,ne,nf,d⟩
 ·have hfn:X.fn x=true:=by
   rcases hf with z | z
   ·exact z
   ·rw [z] at hk;cases hk
  obtain⟨c,hc⟩:=I.ok.has x (.inl hk)
  obtain⟨w',z⟩:=I.cell x c hc
  refine wpAny_storeName_cell I.ok.kind hk hc z (fun h' hc' hs=>?_)
  obtain⟨oc,hoc,hocd⟩:=id z
  refine h { s with heap:=h' } ⟨I.ok,I.os,I.bare,⟨fun b o e n hb hx=>?_,fun b o e n hb hx=>?_,I.base.free,fun b o e hx=>?_,I.base.tups,I.base.frzs,I.base.tbls⟩,⟨m,hn.sameBut hs (Ne.symm (cne x c hc)),fun j y v' e1 e2 e3=>?_⟩,fun y c' e=>?_,I.free,I.freeC,fun p hp=>?_,tracked ⟨oc,hoc,I.freeC x c hc⟩ hs,by simpa using I.len⟩ ⟨c,hs,.inr hc⟩
  ·exact (hs.2 b (qL (qE (qv e) (I.ok.cab x c hfn hc)))).trans (I.base.keep b o e n hb hx)
  ·obtain⟨sl,e1⟩:=I.base.slot b o e n hb hx
   exact⟨sl,(hs.2 b (qL (qE (qv e) (I.ok.cab x c hfn hc)))).trans e1⟩
  ·obtain⟨o',e1⟩:=I.base.there b o e hx
   exact⟨o',(hs.2 b (qL (qE (qv e) (I.ok.cab x c hfn hc)))).trans e1⟩
  ·by_cases hj:j=i
   ·subst hj
    rw [hi] at e1;cases e1
    rw [qJ hiσ] at e2
    cases e2
    exact⟨u,r,.inr ⟨.inl hk,c,hc,hc'⟩⟩
   ·rw [qN (Ne.symm hj)] at e2
    obtain⟨u',r',q⟩:=hl j y v' e1 e2 e3
    refine⟨u',r',?_⟩
    rcases q with q | ⟨k,c',e,z'⟩
    ·exact .inl q
    ·refine .inr ⟨k,c',e,z'.sameBut hs ?_⟩
     rintro rfl
     exact hj (zlq hN e1 (I.ok.inj _ _ _ e hc▸hi))
  ·by_cases hcc:c'=c
   ·subst hcc;exact⟨_,hc'⟩
   ·obtain⟨w2,z2⟩:=I.cell y c' e
    exact⟨w2,z2.sameBut hs hcc⟩
  ·obtain⟨e,n,ne,nf,d⟩:=I.pin p hp
   refine⟨(hs.2 p.1 ?_).trans e,n,ne,nf,d⟩
   intro q
   rw [q,hoc] at e
   have q':oc=p.2:=qA e
   exact d w' (by rw [<- q'];exact hocd)
theorem zie {M:Model}{A:Around}{E:Value->Shared->Prop}{i:Nat}{x:Str}{v:V}{u:Value}{Q:Unit->Shared->Prop}(I:Inv X Z9 U H s)(hN:X.N.Nodup)(hi:X.N[i]?=some x)(hx:Loc X.env.scope x)(r:RelV v u)
  (h:∀ s',Inv X Z9 (U.set i (some v)) H s'->Q () s') (hf:X.fn x=true\/X.env.scope.names.lookup x=some .local:=by first | exact .inl rfl | exact .inr rfl | assumption):wpAny M A (storeName X.env x u) Q E s :=
 zkt I hN hi hx r (fun s' I' _=>h s' I') hf
theorem Inv.call' {s':Shared}{ch:List Addr}(I:Inv X Z9 U H s)(ho:s'.os=s.os)(u:Un (frs X.stack) ch H H' s.heap s'.heap)(hok:Ze X.prog X.w H' s'.heap)(hg:AllBare s'.gens)
  (hch:∀ b∈ch,(b∈X.ex\/X.s₀.heap.objs.size<=b)/\b≠X.env.locals/\(∀ x c,X.env.cells.lookup x=some c->c≠b)/\∀ p∈X.pn++Z9,p.1≠b):Inv X Z9 U H' s':=by
 obtain⟨h',g',d',t',o'⟩:=s'
 have e:o'=s.os:=ho
 subst e
 exact I.call (g':=g') (t':=t') (d':=d') u hok hg hch
end
abbrev XK:=Value->Option Addr->Hp->Prop
abbrev St:=List (Option V)
abbrev VK:=V->Hp->Prop
abbrev TE:=St->Hp->VK->Prop
abbrev TT:=St->Hp->(Bool->Hp->Prop)->Prop
abbrev TA:=St->Hp->(List V->Hp->Prop)->Prop
structure Ends where
 nx:St->Hp->Prop
 rt:VK
 bk:St->Hp->Prop:=fun _ _=>False
 ct:St->Hp->Prop:=fun _ _=>False
abbrev TS:=Ends->St->Hp->Prop
def EP (X:Cx)(Z9:List (Addr×Obj))(U:St)(Q:VK)(u:Value)(s':Shared):Prop:=∃ v H',Inv X Z9 U H' s'/\RelV v u/\Q v H'
def TP (X:Cx)(Z9:List (Addr×Obj))(U:St)(Q:Bool->Hp->Prop)(b:Bool)(s':Shared):Prop:=∃ H',Inv X Z9 U H' s'/\Q b H'
def AP (X:Cx)(Z9:List (Addr×Obj))(U:St)(Q:List V->Hp->Prop)(us:List Value)(s':Shared):Prop:=∃ vs H',Inv X Z9 U H' s'/\Vals vs us/\Q vs H'
def SP (X:Cx)(Z9:List (Addr×Obj))(D:Ends)(f:Flow)(s':Shared):Prop :=
 match f with
 | .next=>∃ σ' H',Inv X Z9 σ' H' s'/\D.nx σ' H'
 | .brk=>∃ σ' H',Inv X Z9 σ' H' s'/\D.bk σ' H'
 | .cont=>∃ σ' H',Inv X Z9 σ' H' s'/\D.ct σ' H'
 | .ret u=>∃ v σ' H',Inv X Z9 σ' H' s'/\RelV v u/\D.rt v H'
def PE (X:Cx)(e:Expr)(t:TE):Prop :=
 ∀ (Z9:List (Addr×Obj)) (s:Shared) (U:St) (H:Hp) (Q:VK),Inv X Z9 U H s->t U H Q->wpAny (model X.prog X.w) X.A (eval e X.env) (EP X Z9 U Q) X.xe s
def PT (X:Cx)(e:Expr)(t:TT):Prop :=
 ∀ (Z9:List (Addr×Obj)) (s:Shared) (U:St) (H:Hp) (Q:Bool->Hp->Prop),Inv X Z9 U H s->t U H Q->wpAny (model X.prog X.w) X.A (isTrue e X.env (eval e X.env)) (TP X Z9 U Q) X.xe s
def PW (X:Cx)(e:Expr)(t:TT):Prop :=
 ∀ (whole:Sem Value) (Z9:List (Addr×Obj)) (s:Shared) (U:St) (H:Hp) (Q:Bool->Hp->Prop),Inv X Z9 U H s->t U H Q->wpAny (model X.prog X.w) X.A (isTrue e X.env whole) (TP X Z9 U Q) X.xe s
def PA (X:Cx)(es:List Expr)(t:TA):Prop :=
 ∀ (pos:Pos) (Z9:List (Addr×Obj)) (s:Shared) (U:St) (H:Hp) (Q:List V->Hp->Prop),Inv X Z9 U H s->t U H Q->wpAny (model X.prog X.w) X.A (spliced (backTo pos (starEach es X.env))) (AP X Z9 U Q) X.xe s
def PS (X:Cx)(st:Stmt)(t:TS):Prop :=
 ∀ (Z9:List (Addr×Obj)) (s:Shared) (U:St) (H:Hp) (D:Ends),Inv X Z9 U H s->t D U H->wpAny (model X.prog X.w) X.A (exec st X.env) (SP X Z9 D) X.xe s
def W0 (X:Cx)(st:List Stmt)(t:TS):Prop :=
 ∀ (Z9:List (Addr×Obj)) (s:Shared) (U:St) (H:Hp) (D:Ends),Inv X Z9 U H s->t D U H->wpAny (model X.prog X.w) X.A (execs st X.env) (SP X Z9 D) X.xe s
theorem Z0 {α:Type}{t:Sem α}{Q Q':α->Shared->Prop}{M:Model}{A:Around}{E:Value->Shared->Prop}{s:Shared}(h:wpAny M A t Q E s)(hQ:∀ a s,Q a s->Q' a s):wpAny M A t Q' E s:=wpAny_mono h hQ fun _ _ x=>x
section
variable {X:Cx}
def zuY (i:Nat):TE:=fun U H Q=>∃ v,U[i]?=some (some v)/\Q v H
def tC (v:V):TE:=fun _ H Q=>Q v H
theorem zvc {i:Nat}{x:Str}{pos:Pos}(hN:X.N[i]?=some x)(hv:Vis X.env.scope x)(hd:(x==("__debug__":Str))=false:=by decide)(hcd:(x==("__classdict__":Str))=false:=by decide):PE X (.Name x pos) (zuY i):=by
 intro Z9 s U H Q I h
 obtain⟨v,e,h⟩:=h
 obtain⟨m,hn,hl⟩:=I.loc
 obtain⟨u,r,l⟩:=hl i x v hN e hv
 have fin:EP X Z9 U Q u s:=⟨v,H,I,r,h⟩
 rcases l with ⟨hk,hm⟩ | ⟨hk,c,hc,hcell⟩
 ·exact wpAny_Name (wpAny_loadName_local I.ok.kind hk hn hm fin) hd
 ·rcases hk with hk | hk
  ·exact wpAny_Name (wpAny_loadName_cell I.ok.kind hk hc hcell fin) hd
  ·exact wpAny_Name (wpAny_loadName_free I.ok.kind hk hc hcell fin hcd) hd
theorem zlM {i j pos}:PE X (.Constant (.int i) j pos) (tC (.int i)):=fun _ _ _ H _ I h=>wpAny_Constant_int ⟨.int i,H,I.tok _,⟨_,rfl⟩,h⟩
theorem zxD {b j pos}:PE X (.Constant (.bool b) j pos) (tC (.bl b)):=fun _ _ _ H _ I h=>Constant_bool ⟨.bl b,H,I,rfl,h⟩
theorem zva {j pos}:PE X (.Constant .none j pos) (tC .non):=fun _ _ _ H _ I h=>Constant_none ⟨.non,H,I,rfl,h⟩
theorem zv5 {x j pos}:PE X (.Constant (.str x) j pos) (tC (.str x)):=fun _ _ _ H _ I h=>Calls.Constant_str ⟨.str x,H,I.tok _,⟨_,rfl⟩,h⟩
def Gl (X:Cx)(x:Str):Prop:=X.env.kindOf x=some .globalImplicit
theorem zfE {E:Value->Shared->Prop}{Z9:List (Addr×Obj)}{s:Shared}{U:St}{H:Hp}{x:Str}{u:Value}{pos:Pos}{Q:Value->Shared->Prop}(I:Inv X Z9 U H s)(hg:Gl X x)(hm:X.mg x=some u)(h:Q u s)
  (hd:(x==("__debug__":Str))=false:=by decide):wpAny (model X.prog X.w) X.A (eval (.Name x pos) X.env) Q E s :=
 Calls.Name_function_global I.ok.kind hg (Calls.loadGlobal_global (by rw [I.ok.glob];exact I.mod.glob.keeps I.bk) hm h) hd
theorem zdn {E:Value->Shared->Prop}{Z9:List (Addr×Obj)}{s:Shared}{U:St}{H:Hp}{x:Str}{u:Value}{pos:Pos}{Q:Value->Shared->Prop}(I:Inv X Z9 U H s)(hg:Gl X x)(hm:X.mg x=none)(hv:bootBuiltins x=some u)(h:Q u s)
  (hn:x≠"__name__":=by decide) (hd:(x==("__debug__":Str))=false:=by decide):wpAny (model X.prog X.w) X.A (eval (.Name x pos) X.env) Q E s:=by
 obtain⟨mb,h1,h2⟩:=I.mod.blt
 exact Calls.Name_function_global I.ok.kind hg (Calls.loadGlobal_builtin (by rw [I.ok.glob];exact I.mod.glob.keeps I.bk) hm (by rw [I.ok.blt];exact h1.keeps I.bk) ((h2 x hn).trans hv) h) hd
theorem znt {x:Str}{v:V}{u:Value}{pos:Pos}(hg:Gl X x)(hm:X.mg x=some u)(r:RelV v u)(hd:(x==("__debug__":Str))=false:=by decide):PE X (.Name x pos) (tC v) :=
 fun _ _ _ H _ I h=>zfE I hg hm ⟨v,H,I,r,h⟩ hd
theorem zsU {x:Str}{v:V}{u:Value}{pos:Pos}(hg:Gl X x)(hm:X.mg x=none)(hv:bootBuiltins x=some u)(r:RelV v u)(hn:x≠"__name__":=by decide)(hd:(x==("__debug__":Str))=false:=by decide):PE X (.Name x pos) (tC v) :=
 fun _ _ _ H _ I h=>zdn I hg hm hv ⟨v,H,I,r,h⟩ hn hd
variable {a b:Expr}{ta tb:TE}{pos:Pos}
def tB (t:TE):TT:=fun U H Q=>t U H fun x H1=>∃ c,x=.bl c/\Q c H1
theorem zwM {e:Expr}{t:TE}(h:PE X e t)(he:∀ whole,isTrue e X.env whole=(do let v <- whole;standAt e.pos;holding [v] (truthy v)):=by intro _;rfl):PT X e (tB t):=by
 intro Z9 s U H Q I hw
 refine isTrue_plain (Z0 (h Z9 s U H _ I hw) fun v s1 ⟨x,H1,I1,r1,q1⟩=>?_) (he _)
 obtain⟨d,rfl,q⟩:=q1
 cases r1
 exact wpAny_truthy_bool ⟨H1,I1,q⟩
variable {tA tB':TT}{rest:List Expr}
def zyK (t u:TT):TT:=fun U H Q=>t U H fun c H1=>if c=true then u U H1 Q else Q false H1
def tOr (t u:TT):TT:=fun U H Q=>t U H fun c H1=>if c=true then Q true H1 else u U H1 Q
def zy5 (t:TT):TT:=fun U H Q=>t U H fun c H1=>Q (!c) H1
theorem zut (ha:PT X a tA):PW X (.BoolOp .And [a] pos) tA:=by
 intro wh Z9 s U H Q I h
 refine isTrue_and (Z0 (ha Z9 s U H Q I h) fun c s1 e=>?_)
 cases c with
 | true=>exact isTrue_and_nil e
 | false=>exact e
theorem zuP (ha:PT X a tA):PW X (.BoolOp .Or [a] pos) tA:=by
 intro wh Z9 s U H Q I h
 refine isTrue_or (Z0 (ha Z9 s U H Q I h) fun c s1 e=>?_)
 cases c with
 | false=>exact isTrue_or_nil e
 | true=>exact e
theorem zuA (ha:PT X a tA)(hb:PW X (.BoolOp .And (b::rest) pos) tB'):PW X (.BoolOp .And (a::b::rest) pos) (zyK tA tB'):=by
 intro wh Z9 s U H Q I h
 refine isTrue_and (Z0 (ha Z9 s U H _ I h) fun c s1 ⟨H1,I1,q1⟩=>?_)
 cases c with
 | true=>exact hb wh Z9 s1 U H1 Q I1 q1
 | false=>exact⟨H1,I1,q1⟩
theorem zwX (ha:PT X a tA)(hb:PW X (.BoolOp .Or (b::rest) pos) tB'):PW X (.BoolOp .Or (a::b::rest) pos) (tOr tA tB'):=by
 intro wh Z9 s U H Q I h
 refine isTrue_or (Z0 (ha Z9 s U H _ I h) fun c s1 ⟨H1,I1,q1⟩=>?_)
 cases c with
 | true=>exact⟨H1,I1,q1⟩
 | false=>exact hb wh Z9 s1 U H1 Q I1 q1
theorem zvb (ha:PT X a tA):PT X (.UnaryOp .Not a pos) (zy5 tA):=by
 intro Z9 s U H Q I h
 exact isTrue_not (ha Z9 s U H (fun c H1=>Q (!c) H1) I h)
def zxY (ta tb:TE):TE:=fun U H Q=>ta U H fun x H1=>∃ c,x=.bl c/\if c=true then tb U H1 Q else Q (.bl false) H1
def zzh (ta tb:TE):TE:=fun U H Q=>ta U H fun x H1=>∃ c,x=.bl c/\if c=true then Q (.bl true) H1 else tb U H1 Q
def zxi (ta:TE):TE:=fun U H Q=>ta U H fun x H1=>∃ c,x=.bl c/\Q (.bl (!c)) H1
theorem zwh {op}{t:TE}(h:PE X a t):PE X (.BoolOp op [a] pos) t:=fun Z9 s U H Q I hw=>BoolOp_one (h Z9 s U H Q I hw)
theorem zwo (ha:PE X a ta)(hb:PE X (.BoolOp .And (b::rest) pos) tb):PE X (.BoolOp .And (a::b::rest) pos) (zxY ta tb):=by
 intro Z9 s U H Q I h
 refine BoolOp_and (Z0 (ha Z9 s U H _ I h) fun v s1 ⟨x,H1,I1,r1,q1⟩=>?_)
 obtain⟨c,rfl,q1⟩:=q1
 cases r1
 refine wpAny_truthy_bool ?_
 cases c with
 | true=>exact hb Z9 s1 U H1 Q I1 q1
 | false=>exact⟨.bl false,H1,I1,rfl,q1⟩
theorem zw7 (ha:PE X a ta)(hb:PE X (.BoolOp .Or (b::rest) pos) tb):PE X (.BoolOp .Or (a::b::rest) pos) (zzh ta tb):=by
 intro Z9 s U H Q I h
 refine BoolOp_or (Z0 (ha Z9 s U H _ I h) fun v s1 ⟨x,H1,I1,r1,q1⟩=>?_)
 obtain⟨c,rfl,q1⟩:=q1
 cases r1
 refine wpAny_truthy_bool ?_
 cases c with
 | false=>exact hb Z9 s1 U H1 Q I1 q1
 | true=>exact⟨.bl true,H1,I1,rfl,q1⟩
theorem zwF (ha:PE X a ta):PE X (.UnaryOp .Not a pos) (zxi ta):=by
 intro Z9 s U H Q I h
 refine UnaryOp_ (Z0 (ha Z9 s U H _ I h) fun v s1 ⟨x,H1,I1,r1,q1⟩=>?_)
 obtain⟨c,rfl,q1⟩:=q1
 cases r1
 exact not_of (wpAny_truthy_bool ⟨.bl (!c),H1,I1,rfl,q1⟩)
def tIf (t:TT)(ta tb:TE):TE:=fun U H Q=>t U H fun c H1=>if c=true then ta U H1 Q else tb U H1 Q
theorem zr6 {c:Expr}(hc:PT X c tA)(ha:PE X a ta)(hb:PE X b tb):PE X (.IfExp c a b pos) (tIf tA ta tb):=by
 intro Z9 s U H Q I h
 refine wpAny_IfExp (Z0 (hc Z9 s U H _ I h) fun d s1 ⟨H1,I1,q1⟩=>?_)
 cases d with
 | true=>exact ha Z9 s1 U H1 Q I1 q1
 | false=>exact hb Z9 s1 U H1 Q I1 q1
end
def Zo (K:PySem.W.Frag)(H:Hp)(a:Addr)(xs:List V):Prop :=
 Rd H a (.lst xs) \/
  ∃ (o:Obj) (its:Array Value) (n:Nat),K.lookup a=some o/\o.cls=.type "list"/\o.dict=none/\o.data=.seq its n/\its.size<=sizeLine/\Vals xs its.toList
def ZF (K:PySem.W.Frag)(H:Hp)(a:Addr)(xs:List V):Prop :=
 Rd H a (.tup xs) \/
  ∃ (o:Obj) (its:Array Value) (n:Nat),K.lookup a=some o/\o.cls=.type "tuple"/\o.data=.seq its n/\its.size<=sizeLine/\Vals xs its.toList
def zyy:Value->Option V
 | .none=>some .non
 | .bool b=>some (.bl b)
 | .int i _=>some (.int i)
 | .str x _=>some (.str x)
 | .bytes b _=>some (.byt b)
 | .float b _=>some (.flt b)
 | .ref a=>some (.ref a)
 | .type n=>some (.ty n)
 | _=>none
theorem RelV.abs {x:V}{u:Value}(r:RelV x u):zyy u=some x:=by
 cases x with
 | non=>cases r;rfl
 | bl _=>cases r;rfl
 | int _=>obtain⟨t,rfl⟩:=r;rfl
 | str _=>obtain⟨t,rfl⟩:=r;rfl
 | byt _=>obtain⟨t,rfl⟩:=r;rfl
 | flt _=>obtain⟨t,rfl⟩:=r;rfl
 | ref _=>cases r;rfl
 | ty _=>cases r;rfl
theorem RelV.inj {x y:V}{u:Value}(r:RelV x u)(q:RelV y u):x=y:=qA (r.abs.symm.trans q.abs)
theorem Vals.inj:∀ {xs ys:List V} {us:List Value},Vals xs us->Vals ys us->xs=ys
 | _,_,_,.nil,.nil=>rfl
 | _,_,_,.cons r t,.cons r' t'=>by rw [r.inj r',Vals.inj t t']
section
variable {X:Cx}{Z9:List (Addr×Obj)}{U:St}{H:Hp}{s:Shared}{a:Addr}{xs ys:List V}
theorem Zo.of {K:PySem.W.Frag}(h:H a=some (.lst xs)):Zo K H a xs:=.inl (.inl h)
theorem ZF.of {K:PySem.W.Frag}(h:H a=some (.tup xs)):ZF K H a xs:=.inl (.inl h)
theorem Inv.list (I:Inv X Z9 U H s)(h:Zo X.K H a xs):∃ its:List Value,Vals xs its/\PlainL s.heap a its.toArray/\xs.length<=sizeLine:=by
 rcases h with h | ⟨o,its,n,hk,hc,hd,hs,hz,r⟩
 ·obtain⟨z,its,n,r,e⟩:=h.ok I.hok
  exact⟨its,r,⟨_,n,e,rfl,rfl,rfl⟩,z⟩
 ·refine⟨its.toList,r,⟨o,n,I.kIn a o hk,hc,hd,by simpa using hs⟩,?_⟩
  have e:=r.length
  simp only [qR] at e
  lia
theorem Inv.tuple (I:Inv X Z9 U H s)(h:ZF X.K H a xs):∃ its:List Value,Vals xs its/\IsTup s.heap a its.toArray/\xs.length<=sizeLine:=by
 rcases h with h | ⟨o,its,n,hk,hc,hs,hz,r⟩
 ·obtain⟨z,its,r,p⟩:=h.ok I.hok
  exact⟨its,r,p,z⟩
 ·refine⟨its.toList,r,⟨o,I.kIn a o hk,hc,n,by simpa using hs⟩,?_⟩
  have e:=r.length
  simp only [qR] at e
  lia
theorem Inv.list_inj (I:Inv X Z9 U H s)(h:Zo X.K H a xs)(h':Zo X.K H a ys):xs=ys:=by
 obtain⟨its,r,⟨o,n,e,_,_,d⟩,_⟩:=I.list h
 obtain⟨its',r',⟨o',n',e',_,_,d'⟩,_⟩:=I.list h'
 rw [e] at e';cases e'
 rw [d] at d'
 injection d' with d1 _
 have:its=its':=by simpa using congrArg Array.toList d1
 subst this
 exact r.inj r'
theorem Inv.tuple_inj (I:Inv X Z9 U H s)(h:ZF X.K H a xs)(h':ZF X.K H a ys):xs=ys:=by
 obtain⟨its,r,⟨o,e,_,n,d⟩,_⟩:=I.tuple h
 obtain⟨its',r',⟨o',e',_,n',d'⟩,_⟩:=I.tuple h'
 rw [e] at e';cases e'
 rw [d] at d'
 injection d' with d1 _
 have:its=its':=by simpa using congrArg Array.toList d1
 subst this
 exact r.inj r'
end
abbrev Cx.wish (X:Cx)(E:Value->Shared->Prop):Cx:={ X with xe:=E }
abbrev Cx.nox (X:Cx):Cx:=X.wish fun _ _=>False
theorem Cx.Ok.wish {X:Cx}(ok:X.Ok)(E:Value->Shared->Prop):(X.wish E).Ok :=
 ⟨ok.mod,ok.kind,ok.glob,ok.blt,ok.above,ok.inj,ok.has,ok.cab,ok.hd,ok.frames,ok.stk,ok.exf,ok.bs,ok.bsz,ok.noex,ok.exfs,ok.funs,ok.frf⟩
theorem Cx.Ok.unwish {X:Cx}{E:Value->Shared->Prop}(ok:(X.wish E).Ok):X.Ok :=
 ⟨ok.mod,ok.kind,ok.glob,ok.blt,ok.above,ok.inj,ok.has,ok.cab,ok.hd,ok.frames,ok.stk,ok.exf,ok.bs,ok.bsz,ok.noex,ok.exfs,ok.funs,ok.frf⟩
section
variable {X:Cx}{Z9:List (Addr×Obj)}{U:St}{H:Hp}{s:Shared}{E:Value->Shared->Prop}
theorem Inv.wish (I:Inv X Z9 U H s)(E:Value->Shared->Prop):Inv (X.wish E) Z9 U H s:=⟨I.ok.wish E,I.os,I.bare,I.base,I.loc,I.cell,I.free,I.freeC,I.pin,I.hok,I.len⟩
theorem Inv.unwish (I:Inv (X.wish E) Z9 U H s):Inv X Z9 U H s:=⟨I.ok.unwish,I.os,I.bare,I.base,I.loc,I.cell,I.free,I.freeC,I.pin,I.hok,I.len⟩
theorem SP.unwish {D:Ends}{f:Flow}{s':Shared}(h:SP (X.wish E) Z9 D f s'):SP X Z9 D f s':=by
 cases f with
 | next=>obtain⟨σ',H',I,q⟩:=h;exact⟨σ',H',I.unwish,q⟩
 | brk=>obtain⟨σ',H',I,q⟩:=h;exact⟨σ',H',I.unwish,q⟩
 | cont=>obtain⟨σ',H',I,q⟩:=h;exact⟨σ',H',I.unwish,q⟩
 | ret u=>obtain⟨v,σ',H',I,r,q⟩:=h;exact⟨v,σ',H',I.unwish,r,q⟩
theorem W0.nox {st:List Stmt}{t:TS}(h:W0 X.nox st t):W0 X st t:=fun Z9 s U H D I hw =>
 wpAny_mono (h Z9 s U H D (I.wish _) hw) (fun _ _ q=>q.unwish) fun _ _ z=>False.elim z
end
section
variable {X:Cx}{st:Stmt}{rest:List Stmt}{t u:TS}{e:Expr}{te:TE}{pos:Pos}
def zx7:TS:=fun D U H=>D.nx U H
def zzd (t u:TS):TS:=fun D U H=>t { D with nx:=u D } U H
theorem zun:W0 X [] zx7:=fun _ _ U H _ I h=>wpAny_execs_nil ⟨U,H,I,h⟩
theorem zqK (h1:PS X st t)(h2:W0 X rest u):W0 X (st::rest) (zzd t u):=by
 intro Z9 s U H D I h
 refine wpAny_execs_cons (Z0 (h1 Z9 s U H { D with nx:=u D } I h) fun f s1 q=>?_)
 cases f with
 | next =>
  obtain⟨σ',H',I',q⟩:=q
  exact h2 Z9 s1 σ' H' D I' q
 | ret v=>exact q
 | brk=>exact q
 | cont=>exact q
theorem zuf (h1:PS X st t):W0 X [st] t:=by
 intro Z9 s U H D I h
 refine wpAny_execs_cons (Z0 (h1 Z9 s U H D I h) fun f s1 q=>?_)
 cases f with
 | next=>exact wpAny_execs_nil q
 | ret v=>exact q
 | brk=>exact q
 | cont=>exact q
theorem Inv.quiet {Z9:List (Addr×Obj)}{U:St}{H:Hp}{s:Shared}(I:Inv X Z9 U H s):interactive X.env=false:=by simp [interactive,I.ok.kind]
def zyu (te:TE):TS:=fun D U H=>te U H fun _ H1=>D.nx U H1
theorem ztM (he:PE X e te)(hs:swapsWith e none pos.line X.env=pure false:=by rfl):PS X (.Expr e pos) (zyu te):=by
 intro Z9 s U H D I h
 exact wpAny_Expr_any (Z0 (he Z9 s U H _ I h) fun v s1 ⟨x,H1,I1,r1,q1⟩=>⟨U,H1,I1,q1⟩) I.quiet hs
def zy8 (te:TE):TS:=fun D U H=>te U H D.rt
theorem zwi (he:PE X e te):PS X (.Return (some e) pos) (zy8 te):=by
 intro Z9 s U H D I h
 exact wpAny_Return_some (Z0 (he Z9 s U H _ I h) fun v s1 ⟨x,H1,I1,r1,q1⟩=>⟨x,U,H1,I1,r1,q1⟩)
def zyU (c:TT)(t u:TS):TS:=fun D U H=>c U H fun b H1=>if b=true then t D U H1 else u D U H1
theorem zxC {c:Expr}{a b:List Stmt}{tc:TT}(hc:PT X c tc)(ha:W0 X a t)(hb:W0 X b u):PS X (.If c a b pos) (zyU tc t u):=by
 intro Z9 s U H D I h
 refine wpAny_If (Z0 (hc Z9 s U H _ I h) fun d s1 ⟨H1,I1,q1⟩=>?_)
 cases d with
 | true=>exact ha Z9 s1 U H1 D I1 q1
 | false=>exact hb Z9 s1 U H1 D I1 q1
def zvv:TS:=fun _ _ _=>False
theorem zrT:PS X st zvv:=fun _ _ _ _ _ _ h=>h.elim
end
abbrev TG:=V->St->Hp->(St->Hp->Prop)->Prop
abbrev TGs:=List V->St->Hp->(St->Hp->Prop)->Prop
def PG (X:Cx)(target:Expr)(t:TG):Prop :=
 ∀ (Z9:List (Addr×Obj)) (s:Shared) (U:St) (H:Hp) (v:V) (u:Value) (Q:St->Hp->Prop),Inv X Z9 U H s->RelV v u->t v U H Q ->
  wpAny (model X.prog X.w) X.A (assign target X.env u) (fun _ s'=>∃ σ' H',Inv X Z9 σ' H' s'/\Q σ' H') X.xe s
def PGs (X:Cx)(ts:List Expr)(t:TGs):Prop :=
 ∀ (Z9:List (Addr×Obj)) (s:Shared) (U:St) (H:Hp) (vs:List V) (us:List Value) (Q:St->Hp->Prop),Inv X Z9 U H s->Vals vs us->t vs U H Q ->
  wpAny (model X.prog X.w) X.A (assignInOrder ((assignEach ts X.env).map (·.2)) us) (fun _ s'=>∃ σ' H',Inv X Z9 σ' H' s'/\Q σ' H') X.xe s
abbrev zra:=V->V->V->Hp->(Hp->Prop)->Prop
def zuV (X:Cx)(t:zra):Prop :=
 ∀ (Z9:List (Addr×Obj)) (s:Shared) (U:St) (H:Hp) (o i v:V) (ov iv u:Value) (Q:Hp->Prop),Inv X Z9 U H s->RelV o ov->RelV i iv->RelV v u->t o i v H Q ->
  wpAny (model X.prog X.w) X.A (setItem ov iv u) (fun _ s'=>∃ H',Inv X Z9 U H' s'/\Q H') X.xe s
abbrev TIp:=V->V->Hp->VK->Prop
def PIp (X:Cx)(op:Operator)(t:TIp):Prop :=
 ∀ (Z9:List (Addr×Obj)) (s:Shared) (U:St) (H:Hp) (x y:V) (v u:Value) (Q:VK),Inv X Z9 U H s->RelV x v->RelV y u->t x y H Q ->
  wpAny (model X.prog X.w) X.A (inplaceOp op v u) (EP X Z9 U Q) X.xe s
section
variable {X:Cx}{pos:Pos}
def zu (i:Nat):TG:=fun v U H Q=>Q (U.set i (some v)) H
theorem zbF {i:Nat}{x:Str}(hN:X.N.Nodup)(hi:X.N[i]?=some x)(hx:Loc X.env.scope x)(hf:X.fn x=true\/X.env.scope.names.lookup x=some .local:=by first | exact .inl rfl | exact .inr rfl | assumption):PG X (.Name x pos) (zu i):=by
 intro Z9 s U H v u Q I r h
 exact wpAny_assign_Name (zie I hN hi hx r (fun s' I'=>⟨_,H,I',h⟩) hf)
def Yl:TGs:=fun vs U H Q=>vs=[]/\Q U H
def Zt (t:TG)(u:TGs):TGs:=fun vs U H Q=>∃ v r,vs=v::r/\t v U H fun σ' H'=>u r σ' H' Q
theorem zfK:PGs X [] Yl:=by
 intro Z9 s U H vs us Q I r h
 obtain⟨e,h⟩:=h
 subst e
 cases r
 exact assignInOrder_nil ⟨U,H,I,h⟩
theorem zbx {e:Expr}{es:List Expr}{t:TG}{u:TGs}(h1:PG X e t)(h2:PGs X es u)
  (hs:(assignEach (e::es) X.env).map (·.2)=assign e X.env::(assignEach es X.env).map (·.2):=by rfl):PGs X (e::es) (Zt t u):=by
 intro Z9 s U H vs us Q I r h
 obtain⟨v,vr,e1,h⟩:=h
 subst e1
 cases r with
 | cons r rr =>
  rw [hs]
  refine assignInOrder_cons (Z0 (h1 Z9 s U H _ _ _ I r h) fun _ s1 ⟨σ1,H1,I1,q1⟩=>?_)
  exact h2 Z9 s1 σ1 H1 _ _ Q I1 rr q1
def Ym (K:PySem.W.Frag)(n:Nat)(t:TGs):TG:=fun v U H Q=>∃ a xs,v=.ref a/\ZF K H a xs/\xs.length=n/\t xs U H Q
theorem zgK {es:List Expr}{k:Nat}{t:TGs}{n:Nat}(hc:X.calm=true)(h:PGs X es t)
  (hn:(assignEach es X.env).length=n:=by rfl) (hst:(assignEach es X.env).findIdx? (·.1)=none:=by rfl):PG X (.Tuple es k pos) (Ym X.K n t):=by
 intro Z9 s U H v u Q I r hw
 obtain⟨a,xs,e1,hq,hl,hw⟩:=hw
 subst e1
 cases r
 obtain⟨its,rv,ht,hz⟩:=I.tuple hq
 refine assign_Tuple_tuple (I.ok.hd hc) ht (by simp [hn,<- hl,rv.length]) hst fun h' hx=>?_
 have I1:Inv X Z9 U H { s with heap:=h' }:=I.kept (t':=s.toks) fun b o e=>hx b o (qL (qv e)) e
 exact h Z9 _ U H xs _ Q I1 (by simpa using rv) hw
def zgm (to ti:TE)(t:zra):TG:=fun v U H Q=>to U H fun o H1=>ti U H1 fun i H2=>t o i v H2 fun H3=>Q U H3
theorem zvB {o i:Expr}{to ti:TE}{t:zra}(ho:PE X o to)(hi:PE X i ti)(hs:zuV X t)
  (ha:∀ v,assign (.Subscript o i pos) X.env v=(do
   let ov <- holding [v] (eval o X.env)
   let iv <- holding [v,ov] (eval i X.env)
   standAt pos
   holding [v,ov,iv] (setItem ov iv v)
   release [v,ov,iv] []):=by intro _;rfl):PG X (.Subscript o i pos) (zgm to ti t):=by
 intro Z9 s U H v u Q I r h
 rw [ha]
 refine wpAny_bind (wpAny_holding (Z0 (ho Z9 s U H _ I h) fun ov s1 ⟨x,H1,I1,r1,q1⟩=>?_))
 refine wpAny_bind (wpAny_holding (Z0 (hi Z9 s1 U H1 _ I1 q1) fun iv s2 ⟨y,H2,I2,r2,q2⟩=>?_))
 refine wpAny_bind (wpAny_standAt (wpAny_bind (wpAny_holding (Z0 (hs Z9 s2 U H2 x y v ov iv u _ I2 r1 r2 r q2) fun _ s3 ⟨H3,I3,q3⟩=>?_))))
 exact wpAny_release ⟨U,H3,I3,q3⟩
def zrQ (te:TE)(g:TG):TS:=fun D U H=>te U H fun x H1=>g x U H1 D.nx
theorem zvd {tg e:Expr}{te:TE}{g:TG}(he:PE X e te)(hg:PG X tg g)(hs:swapsWithSole [tg] e pos.line X.env=pure false:=by rfl)(hw:swappedStores [tg] e X.env=pure none:=by rfl)
  (h1:(assignEach [tg] X.env).map (·.2)=[assign tg X.env]:=by rfl):PS X (.Assign [tg] e pos) (zrQ te g):=by
 intro Z9 s U H D I h
 refine wpAny_Assign_stores (Z0 (he Z9 s U H _ I h) fun v s1 ⟨x,H1,I1,r1,q1⟩=>?_) hs hw
 rw [h1]
 exact Z0 (hg Z9 s1 U H1 x v _ I1 r1 q1) fun _ s2 q=>q
theorem zvk {i:Nat}{x:Str}{e:Expr}{te:TE}{pos':Pos}(hN:X.N.Nodup)(hi:X.N[i]?=some x)(hx:Loc X.env.scope x)(he:PE X e te)(hs:swapsWith e (some (.Name x pos')) pos.line X.env=pure false:=by rfl)(hf:X.fn x=true\/X.env.scope.names.lookup x=some .local:=by first | exact .inl rfl | exact .inr rfl | assumption) :
  PS X (.Assign [.Name x pos'] e pos) (zrQ te (zu i)):=by
 intro Z9 s U H D I h
 refine wpAny_Assign_Name (Z0 (he Z9 s U H _ I h) fun v s1 ⟨y,H1,I1,r1,q1⟩=>?_) hs
 exact zie I1 hN hi hx r1 (fun s2 I2=>⟨_,H1,I2,q1⟩) hf
def zyx (i:Nat)(te:TE)(ti:TIp):TS:=fun D U H=>∃ x,U[i]?=some (some x)/\te U H fun y H1=>ti x y H1 fun z H2=>D.nx (U.set i (some z)) H2
theorem zvZ {i:Nat}{x:Str}{e:Expr}{te:TE}{op:Operator}{ti:TIp}{pos':Pos}(hN:X.N.Nodup)(hi:X.N[i]?=some x)(hx:Loc X.env.scope x)(he:PE X e te)(ho:PIp X op ti)(hf:X.fn x=true\/X.env.scope.names.lookup x=some .local:=by first | exact .inl rfl | exact .inr rfl | assumption) :
  PS X (.AugAssign (.Name x pos') op e pos) (zyx i te ti):=by
 intro Z9 s U H D I h
 obtain⟨v,e1,h⟩:=h
 obtain⟨m,hn,hl⟩:=I.loc
 have vis:Vis X.env.scope x:=by rcases hx with k | k;exact .inl k;exact .inr (.inl k)
 obtain⟨u,r,l⟩:=hl i x v hi e1 vis
 refine wpAny_AugAssign_Name ?_
 have go:wpAny (model X.prog X.w) X.A (eval e X.env) (fun w s₂=>wpAny (model X.prog X.w) X.A (inplaceOp op u w) (fun r s₃=>wpAny (model X.prog X.w) X.A (storeName X.env x r) (fun _=>SP X Z9 D .next) X.xe s₃) X.xe s₂) X.xe s:=by
  refine Z0 (he Z9 s U H _ I h) fun w s1 ⟨y,H1,I1,r1,q1⟩=>?_
  refine Z0 (ho Z9 s1 U H1 v y u w _ I1 r r1 q1) fun z s2 ⟨zv,H2,I2,r2,q2⟩=>?_
  exact zie I2 hN hi hx r2 (fun s3 I3=>⟨_,H2,I3,q2⟩) hf
 rcases l with ⟨hk,hm⟩ | ⟨hk,c,hc,hcell⟩
 ·exact wpAny_loadName_local I.ok.kind hk hn hm go
 ·rcases hk with hk | hk
  ·exact wpAny_loadName_cell I.ok.kind hk hc hcell go
  ·rcases hx with k | k
   ·have:X.env.scope.names.lookup x=some .free:=hk
    rw [k] at this;cases this
   ·have:X.env.scope.names.lookup x=some .free:=hk
    rw [k] at this;cases this
def ipI (f:Int->Int->Int):TIp:=fun x y H Q=>∃ i j,x=.int i/\y=.int j/\Q (.int (f i j)) H
theorem zvM:PIp X .Add (ipI fun i j=>i+j):=by
 intro Z9 s U H x y v u Q I r1 r2 h
 obtain⟨i,j,e1,e2,q⟩:=h
 subst e1;subst e2
 obtain⟨t,rfl⟩:=r1
 obtain⟨t',rfl⟩:=r2
 exact iadd_int ⟨.int _,H,I.tok _,⟨_,rfl⟩,q⟩
end
section
variable {X:Cx}{pos:Pos}
def zwO (c:TT)(tb:TS):TS:=fun D U H=>∃ W:Nat->St->Hp->Prop,(∃ m,W m U H)/\∀ m U H,W m U H ->
 c U H fun b H1=>if b=true then ∃ N:St->Hp->Prop,(∀ σ' H',N σ' H'->∃ m',m'<m/\W m' σ' H')/\tb { D with nx:=N,ct:=N,bk:=D.nx } U H1 else D.nx U H1
theorem zrx {c:Expr}{body:List Stmt}{tc:TT}{tb:TS}(hp:PassesOwn (model X.prog X.w) X.A X.env X.xe)(hc:PT X c tc)(hb:W0 X body tb):PS X (.While c body [] pos) (zwO tc tb):=by
 intro Z9 s U H D I h
 obtain⟨W,⟨m0,w0⟩,turn⟩:=h
 refine wpAny_While (codeAny_whileLoop (fun n s'=>∃ σ' H',Inv X Z9 σ' H' s'/\W n σ' H') ?_ m0 ⟨U,H,I,w0⟩)
 rintro n s1 ⟨σ1,H1,I1,w1⟩
 refine wpAny_passesOwn hp (Z0 (hc Z9 s1 σ1 H1 _ I1 (turn n σ1 H1 w1)) fun b s2 ⟨H2,I2,q2⟩=>?_)
 cases b with
 | true =>
  obtain⟨N,hN,q2⟩:=q2
  rw [if_pos rfl]
  refine wpAny_passesOwn hp (Z0 (hb Z9 s2 σ1 H2 _ I2 q2) fun f s3 q3=>?_)
  cases f with
  | next =>
   obtain⟨σ3,H3,I3,n3⟩:=q3
   obtain⟨m',hm,w3⟩:=hN σ3 H3 n3
   exact⟨m',hm,σ3,H3,I3,w3⟩
  | cont =>
   obtain⟨σ3,H3,I3,n3⟩:=q3
   obtain⟨m',hm,w3⟩:=hN σ3 H3 n3
   exact⟨m',hm,σ3,H3,I3,w3⟩
  | brk=>exact q3
  | ret v=>exact q3
 | false =>
  rw [if_neg qu]
  exact wpAny_execs_nil ⟨σ1,H2,I2,q2⟩
end
structure It where
 go:Nat->Hp->Prop
 yld:Nat->Hp->V->Hp->Prop
 stop:Nat->Hp->Prop
def zeP (X:Cx)(Z9:List (Addr×Obj))(H:Hp)(b:Addr):Prop :=
 H b=none/\b≠X.env.locals/\b∉X.fs/\(b∈X.ex\/X.s₀.heap.objs.size<=b)/\(∀ x c,X.env.cells.lookup x=some c->c≠b)/\∀ p∈X.pn++Z9,p.1≠b
theorem Inv.fpOk {X:Cx}{Z9:List (Addr×Obj)}{U:St}{H H':Hp}{s:Shared}{b:Addr}(I:Inv X Z9 U H s)(hb:s.heap.objs.size<=b)(hn:H' b=none):zeP X Z9 H' b:=by
 refine⟨hn,qan (qE I.lt hb),I.nofs hb,.inr (qX I.sz hb),fun x c e z=>?_,fun p hp z=>?_⟩
 ·obtain⟨v,q⟩:=I.cell x c e
  exact absurd (qE q.lt (by rw [z];exact hb)) (WR _)
 ·exact absurd (qE (qv (I.pin p hp).1) (by rw [z];exact hb)) (WR _)
structure Turn (P:Program)(w:World)(K:PySem.W.Frag)(tg:Expr)(J:It)(fp:List Addr)(it:Addr)(tn:Nat->Heap->Prop):Prop where
 mem:it∈fp
 obj:∀ i h,tn i h->∀ b∈fp,∃ o,h.get? b=some o/\∀ v,o.data≠.cell v
 keep:∀ i h h',tn i h->(∀ b∈fp,∀ o,h.get? b=some o->h'.get? b=some o)->tn i h'
 item:∀ (X:Cx),X.prog=P->X.w=w->X.K=K->X.calm=true->∀ (i:Nat) (Z9:List (Addr×Obj)) (s:Shared) (U:St) (H:Hp) (E:Value->Shared->Prop),Inv X Z9 U H s->(∀ b∈fp,zeP X Z9 H b)->tn i s.heap->J.go i H ->
  wpAny (model P w) X.A (pyNext (.ref it)) (fun r s1=>∃ u,r=some u /\
   wpAny (model P w) X.A (letOwnedTupleGo tg (.ref it) u) (fun _ s2=>∃ x H',Inv X Z9 U H' s2/\RelV x u/\J.yld i H x H'/\tn (i+1) s2.heap/\∀ b∈fp,H' b=none) E s1) E s
 done:∀ (X:Cx),X.prog=P->X.w=w->X.K=K->X.calm=true->∀ (i:Nat) (Z9:List (Addr×Obj)) (s:Shared) (U:St) (H:Hp) (E:Value->Shared->Prop),Inv X Z9 U H s->(∀ b∈fp,zeP X Z9 H b)->tn i s.heap->J.stop i H ->
  wpAny (model P w) X.A (pyNext (.ref it)) (fun r s1=>r=none/\Inv X Z9 U H s1) E s
 self:∀ (A:Around) (i:Nat) (s:Shared) (Q:Value->Shared->Prop) (E:Value->Shared->Prop),tn i s.heap->Q (.ref it) s->wpAny (model P w) A (pyIter (.ref it)) Q E s
abbrev TI:=St->Hp->(It->Hp->Prop)->Prop
def PIE (X:Cx)(Z9:List (Addr×Obj))(U:St)(tg:Expr)(R:It->Hp->Prop)(itv:Value)(s2:Shared):Prop :=
 ∃ (it:Addr) (fp:List Addr) (tn:Nat->Heap->Prop) (J:It) (H':Hp),itv=.ref it/\Inv X Z9 U H' s2/\Turn X.prog X.w X.K tg J fp it tn/\tn 0 s2.heap/\(∀ b∈fp,zeP X Z9 H' b)/\R J H'
def PI (X:Cx)(tg iter:Expr)(wi:TI):Prop :=
 ∀ (Z9:List (Addr×Obj)) (s:Shared) (U:St) (H:Hp) (R:It->Hp->Prop),Inv X Z9 U H s->wi U H R ->
  wpAny (model X.prog X.w) X.A (eval iter X.env) (fun v s1=>wpAny (model X.prog X.w) X.A (pyIter v) (PIE X Z9 U tg R) X.xe s1) X.xe s
theorem zhB {M:Model}{A:Around}{E:Value->Shared->Prop}{s:Shared}{tg:Expr}{it:Addr}{u:Value}{o:Obj}{n:String}{vs:Array Value}{Q:Unit->Shared->Prop}(ho:s.heap.get? it=some o)(hc:o.cls=.type n)(hd:o.data=.fields vs)
    (hn:["enumerate","zip","dict_itemiterator","dict_reverseitemiterator","odict_iterator","itertools.zip_longest","itertools.pairwise"].contains n=false) (hQ:Q () s):wpAny M A (letOwnedTupleGo tg (.ref it) u) Q E s:=by
  unfold letOwnedTupleGo
  cases tg<;>first
    | exact wpAny_pure hQ
    | (cases u <;> first
        | exact wpAny_pure hQ
        | (refine wpAny_bind (wpAny_load ho ?_)
           rw [hc,hd]
           show wpAny M A (if (["enumerate","zip","dict_itemiterator","dict_reverseitemiterator","odict_iterator","itertools.zip_longest","itertools.pairwise"].contains n&&vs[0]?==some (rawInt _))=true then _ else _) Q E s
           rw [if_neg (by intro h;rw [hn,Bool.false_and] at h;cases h)]
           exact wpAny_pure hQ))
def Itl (K:PySem.W.Frag)(a:Addr):It :=
 ⟨fun i H=>∃ xs x,Zo K H a xs/\xs[i]?=some x,fun i H x H'=>H'=H/\∀ xs,Zo K H a xs->xs[i]?=some x,fun i H=>∃ xs,Zo K H a xs/\xs.length<=i⟩
def Itt (K:PySem.W.Frag)(a:Addr):It :=
 ⟨fun i H=>∃ xs x,ZF K H a xs/\xs[i]?=some x,fun i H x H'=>H'=H/\∀ xs,ZF K H a xs->xs[i]?=some x,fun i H=>∃ xs,ZF K H a xs/\xs.length<=i⟩
def Itr (lo:Int)(n:Nat):It:=⟨fun i _=>i<n,fun i H x H'=>H'=H/\x=.int (lo+i),fun i _=>n<=i⟩
theorem zpS {P:Program}{w:World}{K:PySem.W.Frag}{tg:Expr}(a it:Addr):Turn P w K tg (Itl K a) [it] it (fun i h=>h.IsListIter it a i) where
 mem:=by simp
 obj:=fun i h st b hb=>by
  have e:b=it:=by simpa using hb
  subst e
  obtain⟨o,e,c,d⟩:=st
  exact⟨o,e,fun v z=>by rw [d] at z;cases z⟩
 keep:=fun i h h' st k=>st.at fun o e=>k it (by simp) o e
 item:=by
  intro X hP hw hK hc i Z9 s U H E I hf st hg
  subst hP hw hK
  obtain⟨xs,x,hq,hx⟩:=hg
  obtain⟨its,rv,p,hz⟩:=I.list hq
  obtain⟨u,hu,ru⟩:=rv.get hx
  obtain⟨f0,f1,f2,f3,f4,f5⟩:=hf it (by simp)
  refine wpAny_pyNext_list_item st p.isList (x:=u) (by simpa using hu) fun h' st' sb=>?_
  have I1:Inv X Z9 U H { s with heap:=h' }:=I.turned (t':=s.toks) (fun b o hb e=>(sb.2 b hb).trans e) f0 f1 f3 f4 f5
  obtain⟨o,e,c,d⟩:=id st'
  exact⟨u,rfl,zhB (s:={ s with heap:=h' }) e c d (by decide) ⟨x,H,I1,ru,⟨rfl,fun ys hy=>by rw [I.list_inj hy hq];exact hx⟩,st',fun b hb=>(hf b hb).1⟩⟩
 done:=by
  intro X hP hw hK hc i Z9 s U H E I hf st hg
  subst hP hw hK
  obtain⟨xs,hq,hx⟩:=hg
  obtain⟨its,rv,p,hz⟩:=I.list hq
  obtain⟨f0,f1,f2,f3,f4,f5⟩:=hf it (by simp)
  have hl:=rv.length
  exact wpAny_pyNext_list_end (I.ok.hd hc) st p.isList (by simp;lia) fun h' eb=>⟨rfl,I.turned (t':=s.toks) (fun b o hb e=>eb b o hb e) f0 f1 f3 f4 f5⟩
 self:=fun _ _ _ _ _ st h=>wpAny_pyIter_listiter st h
theorem zn8 {P:Program}{w:World}{K:PySem.W.Frag}{tg:Expr}(a it:Addr):Turn P w K tg (Itt K a) [it] it (fun i h=>h.IsTupleIter it a i) where
 mem:=by simp
 obj:=fun i h st b hb=>by
  have e:b=it:=by simpa using hb
  subst e
  obtain⟨o,e,c,d⟩:=st
  exact⟨o,e,fun v z=>by rw [d] at z;cases z⟩
 keep:=fun i h h' st k=>st.at fun o e=>k it (by simp) o e
 item:=by
  intro X hP hw hK hc i Z9 s U H E I hf st hg
  subst hP hw hK
  obtain⟨xs,x,hq,hx⟩:=hg
  obtain⟨its,rv,p,hz⟩:=I.tuple hq
  obtain⟨u,hu,ru⟩:=rv.get hx
  obtain⟨f0,f1,f2,f3,f4,f5⟩:=hf it (by simp)
  refine wpAny_pyNext_tuple_item st (show s.heap.IsTuple a its.toArray from p) (x:=u) (by simpa using hu) fun h' st' sb=>?_
  have I1:Inv X Z9 U H { s with heap:=h' }:=I.turned (t':=s.toks) (fun b o hb e=>(sb.2 b hb).trans e) f0 f1 f3 f4 f5
  obtain⟨o,e,c,d⟩:=id st'
  exact⟨u,rfl,zhB (s:={ s with heap:=h' }) e c d (by decide) ⟨x,H,I1,ru,⟨rfl,fun ys hy=>by rw [I.tuple_inj hy hq];exact hx⟩,st',fun b hb=>(hf b hb).1⟩⟩
 done:=by
  intro X hP hw hK hc i Z9 s U H E I hf st hg
  subst hP hw hK
  obtain⟨xs,hq,hx⟩:=hg
  obtain⟨its,rv,p,hz⟩:=I.tuple hq
  obtain⟨f0,f1,f2,f3,f4,f5⟩:=hf it (by simp)
  have hl:=rv.length
  exact wpAny_pyNext_tuple_end (I.ok.hd hc) st (show s.heap.IsTuple a its.toArray from p) (by simp;lia) fun h' eb=>⟨rfl,I.turned (t':=s.toks) (fun b o hb e=>eb b o hb e) f0 f1 f3 f4 f5⟩
 self:=fun _ _ _ _ _ st h=>wpAny_pyIter_tupleiter st h
theorem ziU {P:Program}{w:World}{K:PySem.W.Frag}{tg:Expr}(it:Addr)(lo:Int)(n:Nat):Turn P w K tg (Itr lo n) [it] it (fun i h=>IsRangeIter h it (lo+(i:Nat)*1) ((n:Int)-(i:Nat)) 1) where
 mem:=by simp
 obj:=fun i h st b hb=>by
  have e:b=it:=by simpa using hb
  subst e
  exact⟨_,st,fun v z=>by
   have z':Data.fields _=Data.cell v:=z
   cases z'⟩
 keep:=fun i h h' st k=>k it (by simp) _ st
 item:=by
  intro X hP hw hK hc i Z9 s U H E I hf st hg
  subst hP hw hK
  obtain⟨f0,f1,f2,f3,f4,f5⟩:=hf it (by simp)
  have W:=Walks.range (prog:=X.prog) (w:=X.w) (I.ok.hd hc) it lo 1 n
  refine W.item i s _ _ hg st fun v h' tk hv st' kk=>?_
  obtain⟨t,rfl⟩:=hv
  have I1:Inv X Z9 U H { s with heap:=h',toks:=tk }:=I.turned (fun b o hb e=>kk b o (by simpa using hb) e) f0 f1 f3 f4 f5
  refine⟨_,rfl,zhB (s:={ s with heap:=h',toks:=tk }) (n:="range_iterator") st' rfl rfl (by decide) ⟨.int (lo+i),H,I1,⟨t,?_⟩,⟨rfl,rfl⟩,st',fun b hb=>(hf b hb).1⟩⟩
  rw [Wn]
 done:=by
  intro X hP hw hK hc i Z9 s U H E I hf st hg
  subst hP hw hK
  obtain⟨f0,f1,f2,f3,f4,f5⟩:=hf it (by simp)
  exact wpAny_pyNext_range_end (I.ok.hd hc) st (by have:n<=i:=hg;lia) fun h' eb=>⟨rfl,I.turned (t':=s.toks) (fun b o hb e=>eb b o hb e) f0 f1 f3 f4 f5⟩
 self:=fun _ _ _ _ _ st h=>wpAny_pyIter_rangeiter st h
section
variable {X:Cx}{tg:Expr}
theorem zrX {Z9:List (Addr×Obj)}{U:St}{H:Hp}{s:Shared}{R:It->Hp->Prop}{E:Value->Shared->Prop}{lo hi:Int}{t u v:Tok}{tk:Nat}(I:Inv X Z9 U H s)(h1:-(2 ^ 62)<=lo)(h2:lo<2 ^ 62)(h3:-(2 ^ 62)<=hi)(h4:hi<2 ^ 62)
    (q:R (Itr lo (hi-lo).toNat) H):wpAny (model X.prog X.w) X.A (pyIter (.ref s.heap.objs.size)) (PIE X Z9 U tg R) E { s with heap:=s.heap.push { cls:=.type "range",data:=.fields #[.int lo t,.int hi u,.int 1 v] },toks:=tk }:=by
  refine wpAny_pyIter_range (IsRange.new ..) (small_one h1 h2 h3 h4) ?_
  have I1:Inv X Z9 U H { s with heap:=s.heap.push { cls:=.type "range",data:=.fields #[.int lo t,.int hi u,.int 1 v] },toks:=tk }:=I.kept fun b o e=>qd _ e
  refine⟨(s.heap.push { cls:=.type "range",data:=.fields #[.int lo t,.int hi u,.int 1 v] }).objs.size,[(s.heap.push { cls:=.type "range",data:=.fields #[.int lo t,.int hi u,.int 1 v] }).objs.size],_,_,H,rfl,
    I1.kept (t':=tk) fun b o e=>qd _ e,ziU _ lo (hi-lo).toNat,?_,fun b hb=>?_,q⟩
  . have e1:lo+((0:Nat):Int)*1=lo:=by simp
    have e2:(((hi-lo).toNat:Nat):Int)-((0:Nat):Int)=Builtin.Range.rangeSize lo hi 1:=by rw [rangeSize_one];split<;>lia
    show IsRangeIter _ _ (lo+((0:Nat):Int)*1) ((((hi-lo).toNat:Nat):Int)-((0:Nat):Int)) 1
    rw [e1,e2]
    exact qr _ rfl
  . have e:b=(s.heap.push { cls:=.type "range",data:=.fields #[.int lo t,.int hi u,.int 1 v] }).objs.size:=by simpa using hb
    subst e
    exact I1.fpOk (qf _) (I1.hok.fresh (qf _))
def zhA (ta:TA):TI:=fun U H R=>ta U H fun vs H1=>∃ j:Int,vs=[.int j]/\-(2 ^ 62)<=j/\j<2 ^ 62/\R (Itr 0 j.toNat) H1
theorem zpp {a:Expr}{ta:TA}{p pos:Pos}(hg:Gl X "range")(hm:X.mg "range"=none)(ha:PA X [a] ta)(hs:starEach [a] X.env=[(false,eval a X.env)]:=by rfl):PI X tg (.Call (.Name "range" p) [a] [] pos) (zhA ta):=by
 intro Z9 s U H R I h
 refine Call_ (zdn I hg hm boot_range (PyProof.Rows.callWith_type1 (Z0 (ha pos Z9 s U H _ I h) fun us s1 ⟨vs,H1,I1,r1,q1⟩=>?_) hs rfl))
 obtain⟨j,e,q1,q2,q⟩:=q1
 subst e
 cases r1 with
 | cons r rr =>
  cases rr
  obtain⟨t,rfl⟩:=r
  exact call_range_1 (zrX I1 (by lia) (by lia) q1 q2 (by simpa using q))
def zzg (wi:TI)(g:TG)(tb:TS):TS:=fun D U H=>wi U H fun J H1=>∃ W:Nat->Nat->St->Hp->Prop,(∃ m,W 0 m U H1)/\∀ i m U H,W i m U H ->
 (J.stop i H/\D.nx U H)\/(J.go i H/\∃ N:St->Hp->Prop,(∀ σ' H',N σ' H'->∃ m',m'<m/\W (i+1) m' σ' H')/\∀ x H',J.yld i H x H'->g x U H' fun σ2 H2=>tb { D with nx:=N,ct:=N,bk:=D.nx } σ2 H2)
def zhb (fp:List Addr)(h:Heap):List (Addr×Obj):=fp.filterMap fun b=>(h.get? b).map fun o=>(b,o)
theorem zeD {fp:List Addr}{h:Heap}{b:Addr}{o:Obj}(hb:b∈fp)(e:h.get? b=some o):(b,o)∈zhb fp h:=qah.mpr ⟨b,hb,by rw [e];rfl⟩
theorem zpW {fp:List Addr}{h:Heap}{p:Addr×Obj}(hp:p∈zhb fp h):p.1∈fp/\h.get? p.1=some p.2:=by
 obtain⟨b,hb,e⟩:=qah.mp hp
 cases q:h.get? b with
 | none=>rw [q] at e;cases e
 | some o =>
  rw [q] at e
  have e':(b,o)=p:=qA e
  subst e'
  exact⟨hb,q⟩
theorem Inv.pinned {Z9:List (Addr×Obj)}{U:St}{H:Hp}{s:Shared}{fp:List Addr}(I:Inv X Z9 U H s)(hf:∀ b∈fp,zeP X Z9 H b)(ho:∀ b∈fp,∃ o,s.heap.get? b=some o/\∀ v,o.data≠.cell v):Inv X (Z9++zhb fp s.heap) U H s :=
 I.pins_of fun p hp=>(qK.mp hp).elim (fun z=>I.pin p (qV _ z)) fun z=>by
  obtain⟨hb,e⟩:=zpW z
  obtain⟨f0,f1,f2,_⟩:=hf p.1 hb
  obtain⟨o,e',d⟩:=ho p.1 hb
  rw [e] at e';cases e'
  exact⟨e,f0,f1,f2,d⟩
theorem Inv.unpinned {Z9 pl:List (Addr×Obj)}{U:St}{H:Hp}{s:Shared}(I:Inv X (Z9++pl) U H s):Inv X Z9 U H s:=I.pins_of fun p hp=>I.pin p (qV _ (qaz _ hp))
theorem zwp {iter:Expr}{body:List Stmt}{wi:TI}{g:TG}{tb:TS}{pos:Pos}(hp:PassesOwn (model X.prog X.w) X.A X.env X.xe)(hc:X.calm=true)(hi:PI X tg iter wi)(hg:PG X tg g)(hb:W0 X body tb)
  (hs:∀ x,foldedSetIterable iter X.env x=pure x:=by intro _;rfl):PS X (.For tg iter body [] pos) (zzg wi g tb):=by
 intro Z9 s U H D I h
 refine wpAny_For (Z0 (hi Z9 s U H _ I h) fun v s1 h1=>Z0 h1 fun itv s2 h2=>?_) hs
 obtain⟨it,fp,tn,J,H2,e,I2,T,st2,f2,W,⟨m0,w0⟩,turn⟩:=h2
 subst e
 have stat:∀ {H':Hp},(∀ b∈fp,H' b=none)->∀ b∈fp,zeP X Z9 H' b:=fun hn b hb=>⟨hn b hb,(f2 b hb).2⟩
 refine codeAny_forLoop_any (fun n s'=>∃ i σ' H',Inv X Z9 σ' H' s'/\tn i s'.heap/\(∀ b∈fp,H' b=none)/\W i n σ' H') ?_ m0 ⟨0,U,H2,I2,st2,fun b hb=>(f2 b hb).1,w0⟩
 rintro n s3 ⟨i,σ3,H3,I3,st3,fr3,w3⟩
 rcases turn i n σ3 H3 w3 with ⟨stop,qn⟩ | ⟨go,N,hN,step⟩
 ·refine wpAny_passesOwn hp (Z0 (T.done X rfl rfl rfl hc i Z9 s3 σ3 H3 X.xe I3 (stat fr3) st3 stop) fun r s4 ⟨hr,I4⟩=>?_)
  subst hr
  exact wpAny_execs_nil ⟨σ3,H3,I4,qn⟩
 ·refine wpAny_passesOwn hp (Z0 (T.item X rfl rfl rfl hc i Z9 s3 σ3 H3 X.xe I3 (stat fr3) st3 go) fun r s4 ⟨u,hr,h4⟩=>?_)
  subst hr
  refine wpAny_passesOwn hp (Z0 h4 fun _ s5 ⟨x,H5,I5,r5,y5,st5,fr5⟩=>?_)
  have I5':=I5.pinned (stat fr5) (T.obj _ _ st5)
  refine wpAny_passesOwn hp (Z0 (hg _ s5 σ3 H5 x u _ I5' r5 (step x H5 y5)) fun _ s6 ⟨σ6,H6,I6,q6⟩=>?_)
  refine wpAny_passesOwn hp (Z0 (hb _ s6 σ6 H6 _ I6 q6) fun f s7 q7=>?_)
  have again:∀ {σ7:St} {H7:Hp},Inv X (Z9++zhb fp s5.heap) σ7 H7 s7->N σ7 H7->∃ m,m<n/\∃ i σ' H',Inv X Z9 σ' H' s7/\tn i s7.heap/\(∀ b∈fp,H' b=none)/\W i m σ' H':=fun {σ7 H7} I7 n7=>by
   obtain⟨m',hm,w7⟩:=hN σ7 H7 n7
   refine⟨m',hm,i+1,σ7,H7,I7.unpinned,T.keep _ _ _ st5 fun b hb o e=>(I7.pin (b,o) (qV _ (qV _ (zeD hb e)))).1,fun b hb=>?_,w7⟩
   obtain⟨o,e,d⟩:=T.obj _ _ st5 b hb
   exact (I7.pin (b,o) (qV _ (qV _ (zeD hb e)))).2.1
  cases f with
  | next=>obtain⟨σ7,H7,I7,n7⟩:=q7;exact again I7 n7
  | cont=>obtain⟨σ7,H7,I7,n7⟩:=q7;exact again I7 n7
  | brk=>obtain⟨σ7,H7,I7,q7⟩:=q7;exact⟨σ7,H7,I7.unpinned,q7⟩
  | ret v=>obtain⟨x7,σ7,H7,I7,r7,q7⟩:=q7;exact⟨x7,σ7,H7,I7.unpinned,r7,q7⟩
end
abbrev R2:=V->V->Hp->VK->Prop
def Zk (X:Cx)(f:Value->Value->Sem Value)(r:R2):Prop :=
 ∀ (Z9:List (Addr×Obj)) (s:Shared) (U:St) (H:Hp) (x y:V) (v u:Value) (Q:VK),Inv X Z9 U H s->RelV x v->RelV y u->r x y H Q ->
  wpAny (model X.prog X.w) X.A (f v u) (EP X Z9 U Q) X.xe s
def UnR (X:Cx)(f:Value->Sem Value)(r:V->Hp->VK->Prop):Prop :=
 ∀ (Z9:List (Addr×Obj)) (s:Shared) (U:St) (H:Hp) (x:V) (v:Value) (Q:VK),Inv X Z9 U H s->RelV x v->r x H Q ->
  wpAny (model X.prog X.w) X.A (f v) (EP X Z9 U Q) X.xe s
def YF (X:Cx)(f:Value)(r:List V->Hp->VK->Prop):Prop :=
 ∀ (Z9:List (Addr×Obj)) (s:Shared) (U:St) (H:Hp) (xs:List V) (us:List Value) (Q:VK),Inv X Z9 U H s->Vals xs us->r xs H Q ->
  wpAny (model X.prog X.w) X.A (call f us) (EP X Z9 U Q) X.xe s
def tOp (r:R2)(ta tb:TE):TE:=fun U H Q=>ta U H fun x H1=>tb U H1 fun y H2=>r x y H2 Q
def tUn (r:V->Hp->VK->Prop)(ta:TE):TE:=fun U H Q=>ta U H fun x H1=>r x H1 Q
def rI (C:Int->Int->Prop)(g:Int->Int->V):R2:=fun x y H Q=>∃ i j,x=.int i/\y=.int j/\C i j/\Q (g i j) H
def rI0 (g:Int->Int->V):R2:=fun x y H Q=>∃ i j,x=.int i/\y=.int j/\Q (g i j) H
def rU (g:Int->V):V->Hp->VK->Prop:=fun x H Q=>∃ i,x=.int i/\Q (g i) H
section
variable {X:Cx}{a b c:Expr}{ta tb tc:TE}{pos:Pos}
theorem zr7 (ha:PE X a ta)(hb:PE X b tb){Z9:List (Addr×Obj)}{s:Shared}{U:St}{H:Hp}{R:V->V->Hp->Prop}(I:Inv X Z9 U H s)
  (h:ta U H fun x H1=>tb U H1 fun y H2=>R x y H2) {Q:Value->Shared->Prop} {f:Value->Value->Sem Value}
  (hf:∀ v u s2 x y H2,Inv X Z9 U H2 s2->RelV x v->RelV y u->R x y H2->wpAny (model X.prog X.w) X.A (f v u) Q X.xe s2) :
  wpAny (model X.prog X.w) X.A (eval a X.env) (fun v s₁=>wpAny (model X.prog X.w) X.A (eval b X.env) (fun u s₂=>wpAny (model X.prog X.w) X.A (f v u) Q X.xe s₂) X.xe s₁) X.xe s:=by
 refine Z0 (ha Z9 s U H _ I h) fun v s1 ⟨x,H1,I1,r1,q1⟩=>?_
 refine Z0 (hb Z9 s1 U H1 _ I1 q1) fun u s2 ⟨y,H2,I2,r2,q2⟩=>?_
 exact hf v u s2 x y H2 I2 r1 r2 q2
theorem zsl {op:Operator}{r:R2}(ho:Zk X (binaryOp op) r)(ha:PE X a ta)(hb:PE X b tb):PE X (.BinOp a op b pos) (tOp r ta tb):=by
 intro Z9 s U H Q I h
 exact wpAny_BinOp (zr7 ha hb I h fun v u s2 x y H2 I2 rx ry q=>ho Z9 s2 U H2 x y v u Q I2 rx ry q)
theorem zw0 {op:UnaryOp}{r:V->Hp->VK->Prop}(ho:UnR X (unaryOp op) r)(ha:PE X a ta):PE X (.UnaryOp op a pos) (tUn r ta):=by
 intro Z9 s U H Q I h
 exact UnaryOp_ (Z0 (ha Z9 s U H _ I h) fun v s1 ⟨x,H1,I1,r1,q1⟩=>ho Z9 s1 U H1 x v Q I1 r1 q1)
theorem opI {f:Value->Value->Sem Value}{C:Int->Int->Prop}{g:Int->Int->Int}
  (rule:∀ (i j:Int) (t u:Tok) (s:Shared) (Q:Value->Shared->Prop) (E:Value->Shared->Prop),C i j->Q (.int (g i j) s.toks) { s with toks:=s.toks+1 }->wpAny (model X.prog X.w) X.A (f (.int i t) (.int j u)) Q E s) :
  Zk X f (rI C fun i j=>.int (g i j)):=by
 intro Z9 s U H x y v u Q I rx ry h
 obtain⟨i,j,rfl,rfl,hc,q⟩:=h
 obtain⟨t,rfl⟩:=rx
 obtain⟨t',rfl⟩:=ry
 exact rule i j t t' s _ _ hc ⟨.int (g i j),H,I.tok _,⟨_,rfl⟩,q⟩
theorem zuG {f:Value->Value->Sem Value}{g:Int->Int->Int}
  (rule:∀ (i j:Int) (t u:Tok) (s:Shared) (Q:Value->Shared->Prop) (E:Value->Shared->Prop),Q (.int (g i j) s.toks) { s with toks:=s.toks+1 }->wpAny (model X.prog X.w) X.A (f (.int i t) (.int j u)) Q E s) :
  Zk X f (rI0 fun i j=>.int (g i j)):=by
 intro Z9 s U H x y v u Q I rx ry h
 obtain⟨i,j,rfl,rfl,q⟩:=h
 obtain⟨t,rfl⟩:=rx
 obtain⟨t',rfl⟩:=ry
 exact rule i j t t' s _ _ ⟨.int (g i j),H,I.tok _,⟨_,rfl⟩,q⟩
theorem zoG {f:Value->Value->Sem Value}{g:Int->Int->Bool}
  (rule:∀ (i j:Int) (t u:Tok) (s:Shared) (Q:Value->Shared->Prop) (E:Value->Shared->Prop),Q (.bool (g i j)) s->wpAny (model X.prog X.w) X.A (f (.int i t) (.int j u)) Q E s) :
  Zk X f (rI0 fun i j=>.bl (g i j)):=by
 intro Z9 s U H x y v u Q I rx ry h
 obtain⟨i,j,rfl,rfl,q⟩:=h
 obtain⟨t,rfl⟩:=rx
 obtain⟨t',rfl⟩:=ry
 exact rule i j t t' s _ _ ⟨.bl (g i j),H,I,rfl,q⟩
def zyV (i j:Int):Prop:=0<=j/\j<=1000000/\i.natAbs<2 ^ 64
def zoe (i j:Int):Prop:=(-(2 ^ 64)<i/\i<2 ^ 64)\/(-(2 ^ 64)<j/\j<2 ^ 64)
theorem zoe.ok {i j:Int}(h:zoe i j):IntMulOk i j:=by
 rcases h with ⟨h1,h2⟩ | ⟨h1,h2⟩
 ·exact .of_left (intBits_le_64 h1 h2)
 ·exact .of_right (intBits_le_64 h1 h2)
theorem zww:Zk X (binaryOp .Add) (rI0 fun i j=>.int (i+j)):=zuG fun _ _ _ _ _ _ _ q=>add_int q
theorem zwN:Zk X (binaryOp .Sub) (rI0 fun i j=>.int (i-j)):=zuG fun _ _ _ _ _ _ _ q=>sub_int q
theorem ztS:Zk X (binaryOp .Mod) (rI (fun _ j=>j≠0) fun i j=>.int (i.fmod j)):=opI fun _ _ _ _ _ _ _ hc q=>mod_int' hc q
theorem zwD:Zk X (binaryOp .Pow) (rI zyV fun i j=>.int (i ^ j.toNat)):=opI fun _ _ _ _ _ _ _ hc q=>pow_int_small hc.1 hc.2.1 hc.2.2 q
theorem unI {f:Value->Sem Value}{g:Int->Int}
  (rule:∀ (i:Int) (t:Tok) (s:Shared) (Q:Value->Shared->Prop) (E:Value->Shared->Prop),Q (.int (g i) s.toks) { s with toks:=s.toks+1 }->wpAny (model X.prog X.w) X.A (f (.int i t)) Q E s) :
  UnR X f (rU fun i=>.int (g i)):=by
 intro Z9 s U H x v Q I rx h
 obtain⟨i,rfl,q⟩:=h
 obtain⟨t,rfl⟩:=rx
 exact rule i t s _ _ ⟨.int (g i),H,I.tok _,⟨_,rfl⟩,q⟩
theorem zuX:UnR X (unaryOp .USub) (rU fun i=>.int (-i)):=unI fun _ _ _ _ _ q=>neg_int q
end
section
variable {X:Cx}{a b c:Expr}{ta tb tc:TE}{pos:Pos}
theorem ziQ {Z9:List (Addr×Obj)}{U:St}{H:Hp}{s:Shared}{Q:VK}{k k':Bool}(I:Inv X Z9 U H s)(q:Q (.bl k) H)(e:k=k'):EP X Z9 U Q (.bool k') s:=by
 subst e
 exact⟨.bl k,H,I,rfl,q⟩
theorem zwV:Zk X (compareOp .Lt) (rI0 fun i j=>.bl (decide (i<j))):=zoG fun _ _ _ _ _ _ _ q=>lt_int q
theorem zw2:Zk X (compareOp .LtE) (rI0 fun i j=>.bl (decide (i<=j))):=zoG fun _ _ _ _ _ _ _ q=>le_int q
theorem zxL:Zk X (compareOp .Gt) (rI0 fun i j=>.bl (decide (j<i))):=zoG fun _ _ _ _ _ _ _ q=>gt_int q
theorem zxX:Zk X (compareOp .GtE) (rI0 fun i j=>.bl (decide (j<=i))):=zoG fun _ _ _ _ _ _ _ q=>ge_int q
theorem zpT:Zk X (compareOp .In) (fun x y H Q=>∃ i j,x=.str i/\y=.str j/\Q (.bl (!(Builtin.Str.occurrences j i 0 j.length 1).isEmpty)) H):=by
 intro Z9 s U H x y v u Q I rx ry h
 obtain⟨i,j,rfl,rfl,q⟩:=h
 obtain⟨t,rfl⟩:=rx
 obtain⟨t',rfl⟩:=ry
 exact in_str (ziQ I q rfl)
theorem zwc:Zk X (compareOp .Is) (fun x y H Q=>y=.non/\Q (.bl (decide (x=.non))) H):=by
  intro Z9 s U H x y v u Q I rx ry h
  obtain⟨rfl,q⟩:=h
  cases ry
  refine is_none_gen (ziQ I q ?_)
  cases x<;>first
    | (cases rx;rfl)
    | (obtain⟨t,rfl⟩:=rx;rfl)
theorem zt6:Zk X (compareOp .IsNot) (fun x y H Q=>y=.non/\Q (.bl (!decide (x=.non))) H):=by
  intro Z9 s U H x y v u Q I rx ry h
  obtain⟨rfl,q⟩:=h
  cases ry
  refine isnot_none_gen (ziQ I q ?_)
  cases x<;>first
    | (cases rx;rfl)
    | (obtain⟨t,rfl⟩:=rx;rfl)
theorem zlL:Zk X (compareOp .NotIn) (fun x y H Q=>∃ i j,x=.str i/\y=.str j/\Q (.bl (!(!(Builtin.Str.occurrences j i 0 j.length 1).isEmpty))) H):=by
 intro Z9 s U H x y v u Q I rx ry h
 obtain⟨i,j,rfl,rfl,q⟩:=h
 obtain⟨t,rfl⟩:=rx
 obtain⟨t',rfl⟩:=ry
 exact notIn_str (ziQ I q rfl)
theorem Zk.or {f:Value->Value->Sem Value}{r r':R2}(h:Zk X f r)(h':Zk X f r'):Zk X f (fun x y H Q=>r x y H Q\/r' x y H Q):=by
 intro Z9 s U H x y v u Q I rx ry q
 rcases q with q | q
 ·exact h Z9 s U H x y v u Q I rx ry q
 ·exact h' Z9 s U H x y v u Q I rx ry q
theorem zqi (b:Expr){op:CmpOp}(h:op≠.In:=by decide)(h2:op≠.NotIn:=by decide):behindInMarks op b=false:=by
  have e1:(op==CmpOp.In)=false:=by cases op<;>first | rfl | exact absurd rfl h
  have e2:(op==CmpOp.NotIn)=false:=by cases op<;>first | rfl | exact absurd rfl h2
  cases b<;>simp [behindInMarks,e1,e2]
theorem zm1 {op:CmpOp}{r:R2}(ho:Zk X (compareOp op) r)(ha:PE X a ta)(hb:PE X b tb)(hm:behindInMarks op b=false):PE X (.Compare a [op] [b] pos) (tOp r ta tb):=by
 intro Z9 s U H Q I h
 exact wpAny_Compare1 (zr7 ha hb I h fun v u s2 x y H2 I2 rx ry q=>ho Z9 s2 U H2 x y v u Q I2 rx ry q) hm
def zsg (t:TE):TT:=fun U H Q=>t U H fun x H'=>∃ k,x=.bl k/\Q k H'
theorem zm6 {op:CmpOp}{r:R2}(ho:Zk X (compareOp op) r)(ha:PE X a ta)(hb:PE X b tb)(hm:behindInMarks op b=false):PT X (.Compare a [op] [b] pos) (zsg (tOp r ta tb)):=by
 intro Z9 s U H Q I h
 refine wpAny_isTrue_Compare1 (Z0 (ha Z9 s U H _ I h) fun v s1 ⟨x,H1,I1,r1,q1⟩=>Z0 (hb Z9 s1 U H1 _ I1 q1) fun u s2 ⟨y,H2,I2,r2,q2⟩ =>
  Z0 (ho Z9 s2 U H2 x y v u _ I2 r1 r2 q2) fun c s3 ⟨z,H3,I3,r3,k,e,q3⟩=>?_) hm
 subst e
 cases r3
 exact wpAny_truthy_bool ⟨H3,I3,q3⟩
def zpn (r r':R2)(ta tb tc:TE):TE:=fun U H Q=>ta U H fun x H1=>tb U H1 fun y H2=>r x y H2 fun z H3=>∃ k,z=.bl k /\
 (if k=true then tc U H3 fun w' H4=>r' y w' H4 Q else Q (.bl false) H3)
theorem zrK {op op':CmpOp}{r r':R2}(ho:Zk X (compareOp op) r)(ho':Zk X (compareOp op') r')(ha:PE X a ta)(hb:PE X b tb)(hc:PE X c tc)
  (hm:lastMarks [op,op'] [b,c]=false:=by with_unfolding_all rfl):PT X (.Compare a [op,op'] [b,c] pos) (zsg (zpn r r' ta tb tc)):=by
 intro Z9 s U H Q I h
 refine isTrue_chain (Z0 (ha Z9 s U H _ I h) fun v s1 ⟨x,H1,I1,r1,q1⟩=>test_link (Z0 (hb Z9 s1 U H1 _ I1 q1) fun u s2 ⟨y,H2,I2,r2,q2⟩ =>
  Z0 (ho Z9 s2 U H2 x y v u _ I2 r1 r2 q2) fun d s3 ⟨z,H3,I3,r3,k,e,q3⟩=>?_)) hm
 subst e
 cases r3
 refine wpAny_truthy_bool ?_
 cases k with
 | false =>
  obtain⟨k',e',q'⟩:=q3
  cases e'
  exact ite_ff ⟨H3,I3,q'⟩
 | true =>
  refine ite_tt (test_last (Z0 (hc Z9 s3 U H3 _ I3 q3) fun w' s4 ⟨z',H4,I4,r4,q4⟩=>Z0 (ho' Z9 s4 U H4 y z' u w' _ I4 r2 r4 q4) fun d' s5 ⟨z2,H5,I5,r5,k2,e2,q5⟩=>?_))
  subst e2
  cases r5
  exact wpAny_truthy_bool ⟨H5,I5,q5⟩
theorem zfD:(sizeLine:Nat)<2 ^ 63:=by rw [sizeLine_eq];decide
theorem zoQ:Zk X (binaryOp .Add) (fun x y H Q=>∃ i j,x=.str i/\y=.str j/\i.length+j.length<=sizeLine/\Q (.str (i++j)) H):=by
 intro Z9 s U H x y v u Q I rx ry h
 obtain⟨i,j,rfl,rfl,hz,q⟩:=h
 obtain⟨t,rfl⟩:=rx
 obtain⟨t',rfl⟩:=ry
 exact add_str (fun t' tk=>⟨.str (i++j),H,I.tok _,⟨_,rfl⟩,q⟩) hz
theorem vals1 {x:V}{us:List Value}(r:Vals [x] us):∃ u,us=[u]/\RelV x u:=by
 cases r with
 | cons r1 r2=>cases r2;exact⟨_,rfl,r1⟩
theorem vals2 {x y:V}{us:List Value}(r:Vals [x,y] us):∃ u w',us=[u,w']/\RelV x u/\RelV y w':=by
 cases r with
 | cons r1 r2 =>
  cases r2 with
  | cons r3 r4=>cases r4;exact⟨_,_,rfl,r1,r3⟩
theorem zqW:YF X (.builtin "abs") (fun xs H Q=>∃ i,xs=[.int i]/\Q (.int (if i<0 then -i else i)) H):=by
 intro Z9 s U H xs us Q I r h
 obtain⟨i,rfl,q⟩:=h
 obtain⟨u,rfl,t,rfl⟩:=vals1 r
 exact call_abs_int fun u tk=>⟨.int (if i<0 then -i else i),H,I.tok _,⟨_,rfl⟩,q⟩
theorem zqc (hc:X.calm=true):YF X (.builtin "max") (fun xs H Q=>∃ i j,xs=[.int i,.int j]/\Q (.int (if j > i then j else i)) H):=by
 intro Z9 s U H xs us Q I r h
 obtain⟨i,j,rfl,q⟩:=h
 obtain⟨u,w',rfl,⟨t,rfl⟩,⟨t',rfl⟩⟩:=vals2 r
 refine max_two_ints (I.ok.hd hc) fun h' tk k=>⟨_,H,I.kept k,?_,q⟩
 by_cases hj:j > i
 ·rw [if_pos hj,if_pos hj];exact⟨_,rfl⟩
 ·rw [if_neg hj,if_neg hj];exact⟨_,rfl⟩
theorem zpC (hc:X.calm=true):YF X (.builtin "min") (fun xs H Q=>∃ i j,xs=[.int i,.int j]/\Q (.int (if j<i then j else i)) H):=by
 intro Z9 s U H xs us Q I r h
 obtain⟨i,j,rfl,q⟩:=h
 obtain⟨u,w',rfl,⟨t,rfl⟩,⟨t',rfl⟩⟩:=vals2 r
 refine min_two_ints (I.ok.hd hc) fun h' tk k=>⟨_,H,I.kept k,?_,q⟩
 by_cases hj:j<i
 ·rw [if_pos hj,if_pos hj];exact⟨_,rfl⟩
 ·rw [if_neg hj,if_neg hj];exact⟨_,rfl⟩
end
structure zjy (h:Heap)(x dx C:Addr)(mA:Str->Option Value):Prop where
 obj:h.get? x=some (PySem.W.instObj C dx)
 ns:h.Ns1 dx mA
 ne:dx≠x
theorem zqG {h:Heap}{dx:Addr}{mA:Str->Option Value}(n:h.Ns1 dx mA):∃ od,h.get? dx=some od/\∀ name,PySem.W.lookIn name od=some (mA name):=by
 obtain⟨o,es,ep,ho,hd,hk,_,hm⟩:=n
 refine⟨o,ho,fun name=>?_⟩
 have e:=hm name
 unfold nsFind findBy at e
 rw [<- Array.find?_toList] at e
 unfold PySem.W.lookIn
 rw [hd]
 dsimp only
 split
 ·rename_i y q
  rw [q] at e
  exact congrArg some e
 ·rename_i q
  rw [q] at e
  have a:es.toList.any (·.refKey)=false:=by
   rw [List.any_eq_false]
   intro y hy
   obtain⟨z,t,hkey⟩:=hk y (Array.mem_toList_iff.mp hy)
   simp [DictEntry.refKey,hkey]
  have a':¬ es.toList.any (·.refKey)=true:=by rw [a];exact qu
  rw [if_neg a']
  exact congrArg some e
theorem zjy.look {h:Heap}{x dx C:Addr}{mA:Str->Option Value}(I:zjy h x dx C mA):∃ od,PySem.W.InstAt h x (PySem.W.instObj C dx) C (some od)/\∀ name,PySem.W.lookIn name od=some (mA name) :=
 let ⟨od,ho,hl⟩:=zqG I.ns
 ⟨od,⟨I.obj,rfl,rfl,ho⟩,hl⟩
section
variable {prog:Program}{w:World}{A:Around}{E:Value->Shared->Prop}{s:Shared}{K:PySem.W.Frag}{x dx C f:Addr}{mA:Str->Option Value}{name:Str}{v:Value}
theorem get_map {expr:Bool}{Q:Value->Shared->Prop}(X:K.In s.heap)(I:zjy s.heap x dx C mA)(hg:PySem.W.plainGet K C name=true)(hh:PySem.W.hasDictIn K C=true)
  (ha:PySem.W.findIn K (.ref C) name=some none) (hv:mA name=some v) (hv':PySem.W.handedIn v=true) (h:Q v { s with toks:=s.toks+1 }) :
  wpAny (model prog w) A (getAttr (.ref x) name expr) Q E s:=by
 obtain⟨od,J,hl⟩:=I.look
 exact PySem.W.get_value X J (PySem.W.plainGet_of hg).1 (PySem.W.findObj_own hh ha rfl (by rw [hl,hv])) hv' h
theorem ztR {ns:List Str}{Q:Unit->Shared->Prop}(X:K.In s.heap)(I:zjy s.heap x dx C mA)
  (hs:PySem.W.findIn K (.ref C) "__setattr__"=some (some (.builtin "object.__setattr__"))) (hp:PySem.W.plainOver K C=true) (ht:PySem.W.takerIn K C name=some none) (hh:PySem.W.hasDictIn K C=true)
  (hw:PySem.Within mA ns) (hsz:ns.length<=sizeLine)
  (h:∀ h',zjy h' x dx C (fun y=>if y=name then some v else mA y)->Heap.SameBut dx s.heap h'->Q () { s with heap:=h',toks:=s.toks+2 }) :
  wpAny (model prog w) A (setAttr (.ref x) name v) Q E s:=by
 obtain⟨od,J,hl⟩:=I.look
 refine PySem.W.set_plain X J hs (PySem.W.osa_open (s:={ s with toks:=s.toks+1 }) (r:=none) X J hp ht fun b=>?_)
 obtain⟨cd,hc,hd'⟩:=PySem.W.any_some hh
 have hx:s.heap.get? x=some ⟨.ref C,some dx,.plain,#[]⟩:=I.obj
 refine wpAny_bind (wpAny_pure (wpAny_bind (wpAny_bind (wpAny_loadPart hx (wpAny_bind (PySem.W.Looks.here (s:={ s with toks:=s.toks+1 }) (PySem.W.looks_clsIn X hc) ?_))))))
 rw [hd']
 refine wpAny_pure (a:=some dx) (wpAny_bind (wpAny_pure (wpAny_bind ?_)))
 refine wpAny_nsSet1 (s:={ s with toks:=s.toks+1 }) I.ns fun h' hn2 hs2=>?_
 obtain⟨oD,esD,epD,hoD,hdD,hcD⟩:=hn2.count (PySem.Within.cons name v hw)
 refine wpAny_bind (wpAny_lookBehind hoD (by rw [hdD];exact pastItsLine_dict (qX hcD (by rw [qQ];lia))) ?_)
 exact wpAny_pure (h _ ⟨(hs2.2 _ (Ne.symm I.ne)).trans I.obj,hn2,I.ne⟩ hs2)
theorem zrj {R:Result->Shared->Prop}{vs:List Value}{kw:List (Str×Value)}(X:K.In s.heap)(hm:PySem.W.makesIn K C=true)
    (hi:PySem.W.findIn K (.ref C) "__init__"=some (some (.ref f))) (hf:PySem.W.typeIn K (.ref f)=some (.type "function"))
    (h:codeAny (model prog w) (A.under (.builtin "type.__call__" ⟨.ref C::vs,kw⟩)) (.call (.ref f) ⟨.ref (s.heap.objs.size+1)::vs,kw⟩) (PySem.W.InitBack (s.heap.objs.size+1) R)
      { s with heap:=(s.heap.push PySem.W.emptyDict).push (PySem.W.instObj C s.heap.objs.size) }) :
    codeAny (model prog w) A (.call (.ref C) ⟨vs,kw⟩) R s:=by
  obtain⟨hh,g,d,t,os⟩:=s
  exact PySem.W.make_core (PySem.W.makes_of X hm) (PySem.W.looks_findIn X hi) (fun self=>PySem.W.bind_fn X self hf) (.inl rfl) h
end
def X7 (f:Str)(v:V):List (Str×V)->List (Str×V)
 | []=>[(f,v)]
 | (g,x)::r=>if g=f then (g,v)::r else (g,x)::X7 f v r
theorem zhY (f g:Str)(v:V):∀ fs:List (Str×V),(X7 f v fs).lookup g=if g=f then some v else fs.lookup g
 | []=>by
  show List.lookup g [(f,v)]=_
  by_cases h:g=f
  ·have hb:(g==f)=true:=beq_iff_eq.mpr h
   simp only [List.lookup,hb,if_pos h]
  ·have hb:(g==f)=false:=beq_eq_false_iff_ne.mpr h
   simp only [List.lookup,hb,if_neg h]
 | (k,x)::r=>by
  have ih:=zhY f g v r
  rw [show X7 f v ((k,x)::r)=(if k=f then (k,v)::r else (k,x)::X7 f v r) from rfl]
  by_cases hk:k=f
  ·rw [if_pos hk]
   by_cases h:g=k
   ·have hb:(g==k)=true:=beq_iff_eq.mpr h
    simp only [List.lookup,hb,if_pos (h.trans hk)]
   ·have hb:(g==k)=false:=beq_eq_false_iff_ne.mpr h
    simp only [List.lookup,hb,if_neg (fun e:g=f=>h (e.trans hk.symm))]
  ·rw [if_neg hk]
   by_cases h:g=k
   ·have hb:(g==k)=true:=beq_iff_eq.mpr h
    simp only [List.lookup,hb,if_neg (fun e:g=f=>hk (h.symm.trans e))]
   ·have hb:(g==k)=false:=beq_eq_false_iff_ne.mpr h
    simp only [List.lookup,hb]
    exact ih
theorem zgC (f:Str)(v:V):∀ fs:List (Str×V),f∈(X7 f v fs).map (·.1)/\∀ g,g∈fs.map (·.1)->g∈(X7 f v fs).map (·.1)
 | []=>⟨by simp [X7],fun g h=>by simp at h⟩
 | (k,x)::r=>by
  obtain⟨i1,i2⟩:=zgC f v r
  rw [show X7 f v ((k,x)::r)=(if k=f then (k,v)::r else (k,x)::X7 f v r) from rfl]
  by_cases hk:k=f
  ·rw [if_pos hk]
   subst hk
   exact⟨by simp,fun g h=>by simpa using h⟩
  ·rw [if_neg hk]
   refine⟨?_,fun g h=>?_⟩
   ·rw [qI]
    exact qB _ i1
   ·rw [qI] at h ⊢
    rcases qg.mp h with e | e
    ·exact qg.mpr (.inl e)
    ·exact qB _ (i2 g e)
theorem zhW (f:Str)(v:V):∀ fs:List (Str×V),(X7 f v fs).length<=fs.length+1
 | []=>by simp [X7]
 | (k,x)::r=>by
  have ih:=zhW f v r
  rw [show X7 f v ((k,x)::r)=(if k=f then (k,v)::r else (k,x)::X7 f v r) from rfl]
  by_cases hk:k=f
  ·rw [if_pos hk,qQ,qQ];lia
  ·rw [if_neg hk,qQ,qQ];lia
theorem Wh.some_of {v:V}{o:Option Value}(r:Wh (some v) o):∃ u,o=some u/\RelV v u:=by
 cases o with
 | none=>exact (show False from r).elim
 | some u=>exact⟨u,rfl,r⟩
theorem zpP {v:V}{u:Value}(r:RelV v u):PySem.W.handedIn u=true:=by
 cases v with
 | non=>cases (show u=Value.none from r);rfl
 | bl b=>cases (show u=Value.bool b from r);rfl
 | int i=>obtain⟨t,e⟩:=(show ∃ t,u=Value.int i t from r);cases e;rfl
 | str x=>obtain⟨t,e⟩:=(show ∃ t,u=Value.str x t from r);cases e;rfl
 | byt b=>obtain⟨t,e⟩:=(show ∃ t,u=Value.bytes b t from r);cases e;rfl
 | flt b=>obtain⟨t,e⟩:=(show ∃ t,u=Value.float b t from r);cases e;rfl
 | ref a=>cases (show u=Value.ref a from r);rfl
 | ty n=>cases (show u=Value.type n from r);rfl
section
variable {P:Program}{w:World}{H H':Hp}{h h':Heap}{a C dx:Addr}{fs fs':List (Str×V)}
theorem zjO (hok:Ze P w H h)(e:H a=some (.ins C dx fs)):∃ mA,zjy h a dx C mA/\(∀ f,Wh (fs.lookup f) (mA f))/\PySem.Within mA (fs.map (·.1))/\fs.length<=1000/\H dx=some (.own a):=by
 obtain⟨d,z,ne,ob,mA,n,r,q⟩:=(show YZ P w H h a (.ins C dx fs) from hok a _ e)
 exact⟨mA,⟨ob,n,ne⟩,r,q,z,d⟩
end
structure Cls (K:PySem.W.Frag)(C:Addr):Prop where
 pg:PySem.W.plainGet K C Str.empty=true
 hd:PySem.W.hasDictIn K C=true
 po:PySem.W.plainOver K C=true
 sa:PySem.W.findIn K (.ref C) "__setattr__"=some (some (.builtin "object.__setattr__"))
theorem Cls.get {K:PySem.W.Frag}{C:Addr}(c:Cls K C)(f:Str):PySem.W.plainGet K C f=true:=c.pg
def YG (K:PySem.W.Frag)(C:Addr)(f:Str):Prop:=PySem.W.findIn K (.ref C) f=some none
theorem YG.taker {K:PySem.W.Frag}{C:Addr}{f:Str}(n:YG K C f):PySem.W.takerIn K C f=some none:=by
 unfold PySem.W.takerIn
 rw [show PySem.W.findIn K (.ref C) f=some none from n]
 rfl
section
variable {X:Cx}{Z9:List (Addr×Obj)}{U:St}{H:Hp}{s:Shared}{a C dx:Addr}{fs:List (Str×V)}{f:Str}{v:V}{A:Around}{E:Value->Shared->Prop}
theorem zn6 {b:Bool}{Q:Value->Shared->Prop}(I:Inv X Z9 U H s)(e:H a=some (.ins C dx fs))(c:Cls X.K C)(n:YG X.K C f)(l:fs.lookup f=some v)
  (h:∀ u s',Inv X Z9 U H s'->RelV v u->Q u s'):wpAny (model X.prog X.w) A (getAttr (.ref a) f b) Q E s:=by
 obtain⟨mA,O,r,_,_,_⟩:=zjO I.hok e
 obtain⟨u,hu,ru⟩:=Wh.some_of (v:=v) (o:=mA f) (by rw [<- l];exact r f)
 exact get_map I.kIn O (c.get f) c.hd n hu (zpP ru) (h u _ (I.tok _) ru)
theorem zog {y:V}{u:Value}{Q:Unit->Shared->Prop}(I:Inv X Z9 U H s)(e:H a=some (.ins C dx fs))(c:Cls X.K C)(n:YG X.K C f)(hl:fs.length<1000)(ry:RelV y u)
  (h:∀ s',Inv X Z9 U (upd H a (.ins C dx (X7 f y fs))) s'->Q () s'):wpAny (model X.prog X.w) A (setAttr (.ref a) f u) Q E s:=by
 obtain⟨mA,O,r,wi,_,ho⟩:=zjO I.hok e
 have hz:(fs.map (·.1)).length<=sizeLine:=by rw [qb,sizeLine_eq];lia
 refine ztR I.kIn O c.sa c.po n.taker c.hd wi hz fun h' O' sb=>h _ ?_
 have hd:∃ o,h'.get? dx=some o:=let ⟨o,_,_,e',_⟩:=O'.ns;⟨o,e'⟩
 refine I.write (x:=a) (e:=dx) (by rw [e];exact True.intro) (.inr ho) (fun b q hb z=>(sb.2 b hb).trans z) hd ?_
 refine⟨by rw [zU O.ne];exact ho,?_,O.ne,O'.obj,_,O'.ns,fun g=>?_,fun g hg=>?_⟩
 ·have:=zhW f y fs;lia
 ·show Wh ((X7 f y fs).lookup g) (if g=f then some u else mA g)
  rw [zhY]
  by_cases q:g=f
  ·rw [if_pos q,if_pos q];exact ry
  ·rw [if_neg q,if_neg q];exact r g
 ·by_cases q:g=f
  ·rw [q];exact (zgC f y fs).1
  ·refine (zgC f y fs).2 g (wi g fun z=>hg ?_)
   show (if g=f then some u else mA g)=none
   rw [if_neg q];exact z
theorem Inv.made (I:Inv X Z9 U H s):Inv X Z9 U (upd (upd H s.heap.objs.size (.own (s.heap.objs.size+1))) (s.heap.objs.size+1) (.ins C s.heap.objs.size []))
    { s with heap:=(s.heap.push PySem.W.emptyDict).push (PySem.W.instObj C s.heap.objs.size) }:=by
  have e1:(s.heap.push PySem.W.emptyDict).get? s.heap.objs.size=some PySem.W.emptyDict:=qr s.heap rfl
  have e2:((s.heap.push PySem.W.emptyDict).push (PySem.W.instObj C s.heap.objs.size)).get? (s.heap.objs.size+1)=some (PySem.W.instObj C s.heap.objs.size):=by
    have:=qr (s.heap.push PySem.W.emptyDict) (o:=PySem.W.instObj C s.heap.objs.size) rfl
    rwa [qZ] at this
  have e3:(s.heap.push PySem.W.emptyDict).Ns s.heap.objs.size (fun _=>none):=⟨PySem.W.emptyDict,#[],_,e1,rfl,(fun e he=>absurd he (by simp)),fun _=>rfl⟩
  have I1:=I.laid (a:=s.heap.objs.size) (o:=.own (s.heap.objs.size+1)) (h':=s.heap.push PySem.W.emptyDict) (t':=s.toks) (fun b u q=>qd _ q) (qf _) ⟨_,e1⟩
  refine I1.laid (a:=s.heap.objs.size+1) (o:=.ins C s.heap.objs.size []) (t':=s.toks) (fun b u q=>qd _ q) (Nat.le_of_eq (qZ _ _)) ?_
  have ne:s.heap.objs.size≠s.heap.objs.size+1:=qL (qa9 _)
  refine⟨by rw [zU ne,Xr],qO _,ne,e2,fun _=>none,(Heap.Ns1.of_empty e3).at fun o q=>qd _ q,fun _=>True.intro,fun y hy=>absurd rfl hy⟩
theorem zus {prog:Program}{w:World}{env:Env}{e:Expr}{f:Str}{pos:Pos}{s:Shared}{Q:Value->Shared->Prop}(hb:attributeBase e f env (eval e env)=eval e env)
  (h:wpAny (model prog w) A (eval e env) (fun o s₁=>wpAny (model prog w) A (getAttr o f true) Q E s₁) E s):wpAny (model prog w) A (eval (.Attribute e f pos) env) Q E s :=
 Attribute_any_ h (by rw [arm_eval_Attribute,hb])
end
def zzk (K:PySem.W.Frag)(ta:TE)(f:Str):TE:=fun U H Q=>ta U H fun x H1=>∃ a C dx fs v,x=.ref a/\H1 a=some (.ins C dx fs)/\Cls K C/\YG K C f/\fs.lookup f=some v/\Q v H1
def zzi (K:PySem.W.Frag)(ta tv:TE)(f:Str):TS:=fun D U H=>tv U H fun y H1=>ta U H1 fun x H2=>∃ a C dx fs,x=.ref a/\H2 a=some (.ins C dx fs)/\Cls K C/\YG K C f/\fs.length<1000 /\
 D.nx U (upd H2 a (.ins C dx (X7 f y fs)))
section
variable {X:Cx}{o e value:Expr}{f:Str}{pos pos' tpos:Pos}{ta tv:TE}
theorem zvg (he:PE X e ta)(hb:attributeBase e f X.env (eval e X.env)=eval e X.env):PE X (.Attribute e f pos) (zzk X.K ta f):=by
 intro Z9 s U H Q I h
 refine zus hb (Z0 (he Z9 s U H _ I h) fun u s1 ⟨x,H1,I1,rx,a,C,dx,fs,v,ex,ea,c,n,l,q⟩=>?_)
 subst ex
 obtain rfl:u=Value.ref a:=rx
 exact zn6 I1 ea c n l fun u' s2 I2 ru=>⟨v,H1,I2,ru,q⟩
theorem zuQ (ha:PE X o ta)(hv:PE X value tv)(hs:swapsWith value (some (.Attribute o f pos')) pos.line X.env=pure false):PS X (.Assign [.Attribute o f pos'] value pos) (zzi X.K ta tv f):=by
 intro Z9 s U H D I h
 refine plainObj_wpAny_Assign_Attribute (Z0 (hv Z9 s U H _ I h) fun u s1 ⟨y,H1,I1,ry,q⟩=>Z0 (ha Z9 s1 U H1 _ I1 q) fun ov s2 ⟨x,H2,I2,rx,a,C,dx,fs,ex,ea,c,n,l,q2⟩=>?_) hs
 subst ex
 obtain rfl:ov=Value.ref a:=rx
 exact zog I2 ea c n l ry fun s3 I3=>⟨U,_,I3,q2⟩
end
section
variable {X:Cx}{Z9:List (Addr×Obj)}{U:St}{H:Hp}{s:Shared}{A:Around}{E:Value->Shared->Prop}{Q:Value->Shared->Prop}{c:Value}{b:Bool}
inductive V4 (K:PySem.W.Frag)(H:Hp):V->Value->Prop where
 | non:V4 K H .non (.type "NoneType")
 | bl (x:Bool):V4 K H (.bl x) (.type "bool")
 | int (i:Int):V4 K H (.int i) (.type "int")
 | str (x:Str):V4 K H (.str x) (.type "str")
 | flt (x:UInt64):V4 K H (.flt x) (.type "float")
 | lst {a:Addr} {xs:List V} (e:H a=some (.lst xs)):V4 K H (.ref a) (.type "list")
 | frz {a:Addr} {o:Obj} {xs:List V} (e:H a=some (.frz o (.lst xs))):V4 K H (.ref a) (.type "list")
 | tup {a:Addr} {xs:List V} (e:H a=some (.tup xs)):V4 K H (.ref a) (.type "tuple")
 | dK {a:Addr} {Z6:List (Key×V)} (e:H a=some (.dK Z6)):V4 K H (.ref a) (.type "dict")
 | dT {a:Addr} {Z6:List (List Key×V)} (e:H a=some (.dT Z6)):V4 K H (.ref a) (.type "dict")
 | ins {a C dx:Addr} {fs:List (Str×V)} (e:H a=some (.ins C dx fs)) (cl:Cls K C) (ha:PySem.W.findIn K (.ref C) "__class__"=some (some (.builtin "object.__class__")))
   (hn:PySem.W.specialIn K (.builtin "object.__class__") "__get__"=some (some (.builtin "getset_descriptor.__get__"))) (htk:PySem.W.takesIn K (.builtin "object.__class__")=some true)
   (hm:PySem.W.mroIn K C (.type "object")=some true):V4 K H (.ref a) (.ref C)
theorem zo5 {x:V}{u t:Value}(I:Inv X Z9 U H s)(rx:RelV x u)(ty:V4 X.K H x t)(e:PySem.W.kitOne X.K t c=some b)(h:∀ tk,Q (.bool b) { s with toks:=tk }) :
  wpAny (model X.prog X.w) A (call (.builtin "isinstance") [u,c]) Q E s:=by
 cases ty with
 | non=>cases (show u=Value.none from rx);exact PySem.W.kia_one PySem.W.kitx_none I.kIn True.intro e (fun z=>nomatch z) h
 | bl y=>cases (show u=Value.bool y from rx);exact PySem.W.kia_one PySem.W.kitx_bool I.kIn True.intro e (fun z=>nomatch z) h
 | int i=>obtain⟨t,q⟩:=(show ∃ t,u=Value.int i t from rx);cases q;exact PySem.W.kia_one PySem.W.kitx_int I.kIn True.intro e (fun z=>nomatch z) h
 | str y=>obtain⟨t,q⟩:=(show ∃ t,u=Value.str y t from rx);cases q;exact PySem.W.kia_one PySem.W.kitx_str I.kIn True.intro e (fun z=>nomatch z) h
 | flt y=>obtain⟨t,q⟩:=(show ∃ t,u=Value.float y t from rx);cases q;exact PySem.W.kia_one PySem.W.kitx_float I.kIn True.intro e (fun z=>nomatch z) h
 | @lst a xs ea =>
  cases (show u=Value.ref a from rx)
  obtain⟨_,_,n,_,h1⟩:=(show YZ X.prog X.w H s.heap a (.lst xs) from I.hok a _ ea)
  exact PySem.W.kia_one PySem.W.kitx_list I.kIn ⟨_,h1,rfl⟩ e (fun z=>nomatch z) h
 | @frz a ob xs ea =>
  cases (show u=Value.ref a from rx)
  obtain⟨_,_,_,n,_,h1⟩:=(show YZ X.prog X.w H s.heap a (.frz ob (.lst xs)) from I.hok a _ ea)
  exact PySem.W.kia_one PySem.W.kitx_list I.kIn ⟨_,h1,rfl⟩ e (fun z=>nomatch z) h
 | @tup a xs ea =>
  cases (show u=Value.ref a from rx)
  obtain⟨_,_,_,p⟩:=(show YZ X.prog X.w H s.heap a (.tup xs) from I.hok a _ ea)
  obtain⟨o,h1,h2,_⟩:=p
  exact PySem.W.kia_one PySem.W.kitx_tuple I.kIn ⟨o,h1,h2⟩ e (fun z=>nomatch z) h
 | @dK a Z6 ea =>
  cases (show u=Value.ref a from rx)
  obtain⟨_,_,vs,_,p⟩:=(show YZ X.prog X.w H s.heap a (.dK Z6) from I.hok a _ ea)
  obtain⟨o,es,ep,h1,h2,_⟩:=p
  exact PySem.W.kia_one PySem.W.kitx_dict I.kIn ⟨o,h1,h2.1⟩ e (fun z=>nomatch z) h
 | @dT a Z6 ea =>
  cases (show u=Value.ref a from rx)
  obtain⟨_,_,xs,_,o,es,ep,h1,h2,_⟩:=(show YZ X.prog X.w H s.heap a (.dT Z6) from I.hok a _ ea)
  exact PySem.W.kia_one PySem.W.kitx_dict I.kIn ⟨o,h1,h2.1⟩ e (fun z=>nomatch z) h
 | @ins a C dx fs ea cl ha hn htk hm =>
  cases (show u=Value.ref a from rx)
  obtain⟨mA,O,_⟩:=zjO I.hok ea
  obtain⟨od,J,_⟩:=O.look
  exact PySem.W.kia_one (PySem.W.kitx_own (cl.get _) cl.hd ha hn htk hm) I.kIn J e (fun z=>nomatch z) h
end
structure Zg (k:Nat)(A:Around):Prop where
 hd:A.handled=none
 dp:A.depth+3*k+5<recursionLimit
 un:A.units+16*k+200<cLine
theorem Zg.mono {j k:Nat}{A:Around}(r:Zg k A)(h:j<=k):Zg j A:=⟨r.hd,by have:=r.dp;lia,by have:=r.un;lia⟩
theorem Zg.deeper {k:Nat}{A:Around}(r:Zg (k+1) A)(env:Env):Zg k (A.deeper env) :=
 ⟨r.hd,by have:=r.dp;show A.depth+1+3*k+5<_;lia,by have:=r.un;show A.units+3+16*k+200<_;lia⟩
theorem zoz {A:Around}{C:Addr}{us:List Value}{kw:List (Str×Value)}:(A.under (.builtin "type.__call__" ⟨.ref C::us,kw⟩)).depth=A.depth+1:=by
 first | rfl | simp [Around.under,Code.weight,Code.isCreation,Code.isGuard,Code.isCaller,Code.frames,Code.isFrame,guardIds]
theorem zok {A:Around}{C:Addr}{us:List Value}{kw:List (Str×Value)}:(A.under (.builtin "type.__call__" ⟨.ref C::us,kw⟩)).units=A.units+1:=by
 first | rfl | simp [Around.under,Code.cUnits,Code.frames,Code.isFrame]
theorem Zg.make {k:Nat}{A:Around}(r:Zg (k+1) A)(C:Addr)(us:List Value)(kw:List (Str×Value)):Zg k (A.under (.builtin "type.__call__" ⟨.ref C::us,kw⟩)) :=
 ⟨r.hd,by have:=r.dp;rw [zoz];lia,by have:=r.un;rw [zok];lia⟩
theorem Zg.depth {k:Nat}{A:Around}(r:Zg k A):A.depth<recursionLimit:=by have:=r.dp;lia
theorem Zg.units {k:Nat}{A:Around}(r:Zg k A):A.units+64<cLine:=by have:=r.un;lia
def zzb:TA:=fun _ H Q=>Q [] H
def zys (ta:TE)(tr:TA):TA:=fun U H Q=>ta U H fun x H1=>tr U H1 fun xs H2=>Q (x::xs) H2
section
variable {X:Cx}{e:Expr}{es:List Expr}{te:TE}{t:TA}{pos:Pos}
theorem zwd:PA X [] zzb:=fun _ _ _ _ H Q I h=>Calls.spliced_nil ⟨[],H,I,.nil,h⟩
theorem zs0 (ha:PE X e te)(hr:PA X es t)(hs:starEach (e::es) X.env=(false,eval e X.env)::starEach es X.env:=by rfl):PA X (e::es) (zys te t):=by
 intro pos Z9 s U H Q I h
 rw [hs]
 show wpAny _ _ (spliced ((false,eval e X.env)::backTo pos (starEach es X.env))) _ _ s
 refine Calls.spliced_cons (Z0 (ha Z9 s U H _ I h) fun u s1 ⟨x,H1,I1,r1,q1⟩=>?_)
 exact Z0 (hr pos Z9 s1 U H1 _ I1 q1) fun us s2 ⟨xs,H2,I2,r2,q2⟩=>⟨x::xs,H2,I2,.cons r1 r2,q2⟩
def zyT (t:TA):TE:=fun U H Q=>t U H fun xs H1=>xs.length<=sizeLine/\∀ p,H1 p=none->Q (.ref p) (upd H1 p (.tup xs))
def zy4 (t:TA):TE:=fun U H Q=>t U H fun xs H1=>xs.length<=sizeLine/\∀ p,H1 p=none->Q (.ref p) (upd H1 p (.lst xs))
theorem zwA {x1}(h:PA X es t):PE X (.Tuple es x1 pos) (zyT t):=by
 intro Z9 s U H Q I hq
 refine wpAny_Tuple_spliced (Z0 (h pos Z9 s U H _ I hq) fun us s1 ⟨xs,H1,I1,r,z,q⟩=>⟨by rw [<- r.length];exact z,?_⟩)
 have hf:H1 s1.heap.objs.size=none:=I1.hok.fresh (qf _)
 refine⟨.ref s1.heap.objs.size,upd H1 s1.heap.objs.size (.tup xs),I1.laid (t':=s1.toks) (fun b u e=>qd _ e) (qf _) ?_,rfl,q _ hf⟩
 exact⟨z,us,r,⟨_,qr _ rfl,rfl,_,rfl⟩⟩
theorem zwP (h:PA X es t):PE X (.List es pos) (zy4 t):=by
 intro Z9 s U H Q I hq
 refine wpAny_List_spliced (Z0 (h pos Z9 s U H _ I hq) fun us s1 ⟨xs,H1,I1,r,z,q⟩=>⟨by rw [<- r.length];exact z,?_⟩)
 have hf:H1 s1.heap.objs.size=none:=I1.hok.fresh (qf _)
 refine⟨.ref s1.heap.objs.size,upd H1 s1.heap.objs.size (.lst xs),I1.laid (t':=s1.toks) (fun b u e=>qd _ e) (qf _) ?_,rfl,q _ hf⟩
 exact⟨z,us,0,r,qr _ rfl⟩
end
abbrev Sp:=List V->Hp->VK->XK->Prop
abbrev CXT:=List Env->Hp->Shared->XK->Value->Shared->Prop
structure zig (P:Program)(w:World)(K:PySem.W.Frag)(mg:Str->Option Value)(base:Heap)(A:Around)(outer:List Env)(s:Shared)(H:Hp):Prop where
 frames:A.frames=some outer
 mod:Mod K mg base
 bs:∀ b o,base.get? b=some o->s.heap.get? b=some o/\H b=none
 bsz:base.objs.size<=s.heap.objs.size
 funs:s.heap.FunFrames base outer
 frf:∀ b∈frs outer,H b=none
 hok:Ze P w H s.heap
 bare:AllBare s.gens
def CE (outer:List Env)(P:Program)(w:World)(H:Hp)(s:Shared)(Q:VK)(u:Value)(s':Shared):Prop :=
 ∃ v H',s'.os=s.os/\AllBare s'.gens/\Un (frs outer) [] H H' s.heap s'.heap/\Ze P w H' s'.heap/\RelV v u/\Q v H'
def CR (CX:CXT)(outer:List Env)(P:Program)(w:World)(H:Hp)(s:Shared)(Q:VK)(E:XK)(r:Result)(s':Shared):Prop :=
 match r with
 | .ok (.ret u)=>CE outer P w H s Q u s'
 | .ok _=>False
 | .error e=>CX outer H s E e s'
structure zQ (P:Program)(w:World)(K:PySem.W.Frag)(mg:Str->Option Value)(base:Heap)(CX:CXT)(k:Nat)(f:Addr)(fd:FuncData)(ps:List Str)(sp:Sp):Prop where
 len:∀ vs H Q E,sp vs H Q E->vs.length=ps.length
 run:∀ (A:Around) (outer:List Env) (s:Shared) (H:Hp) (args:Args) (us:List Value) (vs:List V) (Q:VK) (E:XK),Zg k A->zig P w K mg base A outer s H->BindsTo s fd args (ps.zip us)->Vals vs us->sp vs H Q E ->
  codeAny (model P w) A (.call (.ref f) args) (CR CX outer P w H s Q E) s
theorem zQ.mono {P:Program}{w:World}{K:PySem.W.Frag}{mg:Str->Option Value}{base:Heap}{CX:CXT}{j k:Nat}{f:Addr}{fd:FuncData}{ps:List Str}{sp:Sp}(F:zQ P w K mg base CX j f fd ps sp)(h:j<=k) :
  zQ P w K mg base CX k f fd ps sp:=⟨F.len,fun A outer s H args us vs Q E hr=>F.run A outer s H args us vs Q E (hr.mono h)⟩
theorem zig.make {P:Program}{w:World}{K:PySem.W.Frag}{mg:Str->Option Value}{base:Heap}{A:Around}{outer:List Env}{s:Shared}{H:Hp}(e:zig P w K mg base A outer s H)(C:Addr)(us:List Value)(kw:List (Str×Value)) :
  zig P w K mg base (A.under (.builtin "type.__call__" ⟨.ref C::us,kw⟩)) outer s H:=⟨by first | exact e.frames | (simpa [Around.under,Code.envs,Code.isFrame,pushEnvs] using e.frames),e.mod,e.bs,e.bsz,e.funs,e.frf,e.hok,e.bare⟩
section
variable {X:Cx}{Z9:List (Addr×Obj)}{U:St}{H:Hp}{s s':Shared}
theorem Inv.env0 (I:Inv X Z9 U H s):zig X.prog X.w X.K X.mg X.base X.A X.stack s H :=
 ⟨I.ok.frames,I.ok.mod,I.bs,qX I.ok.bsz I.sz,I.stack,I.stkFree,I.hok,I.bare⟩
theorem Inv.after {Q:VK}{u:Value}(I:Inv X Z9 U H s)(h:CE X.stack X.prog X.w H s Q u s'):EP X Z9 U Q u s':=by
 obtain⟨v,H',os,bare,un,hok,r,q⟩:=h
 obtain⟨hh,g,d,t,os'⟩:=s'
 obtain rfl:os'=s.os:=os
 exact⟨v,H',I.call (h':=hh) (g':=g) (d':=d) (t':=t) (ch:=[]) un hok bare (fun b z=>absurd z (by simp)),r,q⟩
end
def zoU (sp:Sp)(dvs:List V)(E:XK)(t:TA):TE:=fun U H Q=>t U H fun vs H1=>sp (vs++dvs) H1 Q E
def Binds (K:PySem.W.Frag)(fd:FuncData)(ps:List Str)(ds:List Value):Prop :=
 ∀ (s:Shared) (us:List Value),K.In s.heap->(us++ds).length=ps.length->BindsTo s fd ⟨us,[]⟩ (ps.zip (us++ds))
theorem Binds.all {K:PySem.W.Frag}{fd:FuncData}{ps:List Str}(h:∀ us:List Value,us.length=ps.length->bindArgs fd ⟨us,[]⟩=pure (ps.zip us)):Binds K fd ps []:=fun s us _ hl=>by
 rw [qU] at hl ⊢
 exact .of_eq (h us hl)
def Passes (CX:CXT)(X:Cx)(E:XK):Prop:=∀ (Z9:List (Addr×Obj)) (U:St) (H:Hp) (s:Shared) (e:Value) (s':Shared),Inv X Z9 U H s->CX X.stack H s E e s'->X.xe e s'
section
variable {X:Cx}{CX:CXT}{k:Nat}{f C:Addr}{fd:FuncData}{ps:List Str}{sp:Sp}{dvs:List V}{ds:List Value}{E:XK}{x m:Str}{p pos apos:Pos}{e o:Expr}{es:List Expr}{ta:TE}{t:TA}
theorem zwk {Z9:List (Addr×Obj)}{U:St}{H:Hp}{s:Shared}{Q:VK}{us:List Value}{vs:List V}(F:zQ X.prog X.w X.K X.mg X.base CX k f fd ps sp)(hr:Zg k X.A)(hb:Binds X.K fd ps ds)(hd:Vals dvs ds)(hx:Passes CX X E)
  (I:Inv X Z9 U H s) (r:Vals vs us) (h:sp (vs++dvs) H Q E):wpAny (model X.prog X.w) X.A (call (.ref f) us) (EP X Z9 U Q) X.xe s:=by
 have r2:Vals (vs++dvs) (us++ds):=r.append hd
 have hl:(us++ds).length=ps.length:=by rw [<- r2.length];exact F.len _ _ _ _ h
 refine wpAny_call (codeAny_mono (F.run X.A X.stack s H ⟨us,[]⟩ (us++ds) (vs++dvs) Q E hr I.env0 (hb s us I.kIn hl) r2 h) fun r s' hq=>?_)
 cases r with
 | error e=>exact hx Z9 U H s e s' I hq
 | ok fl =>
  cases fl with
  | ret u=>exact I.after hq
  | next=>exact False.elim hq
  | brk=>exact False.elim hq
  | cont=>exact False.elim hq
theorem ztl (F:zQ X.prog X.w X.K X.mg X.base CX k f fd ps sp)(hr:Zg k X.A)(hg:Gl X x)(hm:X.mg x=some (.ref f))(hk:PySem.W.keepIn X.K (.ref f)=true)(hb:Binds X.K fd ps ds)(hd:Vals dvs ds)(hx:Passes CX X E)
  (ha:PA X (e::es) t) (hdb:(x==("__debug__":Str))=false:=by decide) (he:starEach (e::es) X.env=(false,eval e X.env)::starEach es X.env:=by rfl) (hpl:(backTo pos (starEach es X.env)).any (·.1)=false:=by rfl) :
  PE X (.Call (.Name x p) (e::es) [] pos) (zoU sp dvs E t):=by
 intro Z9 s U H Q I h
 refine wpAny_Call_Name_kw (zfE I hg hm ?_ hdb)
 refine PySem.W.callWith_K (h₀:=X.base) I.ok.mod.kin hk (Z0 (ha pos Z9 s U H _ I h) fun us s1 ⟨vs,H1,I1,r,q⟩=>⟨I1.kIn,?_⟩) he hpl
 exact zwk F hr hb hd hx I1 r q
structure Mk (K:PySem.W.Frag)(C f:Addr):Prop where
 makes:PySem.W.makesIn K C=true
 init:PySem.W.findIn K (.ref C) "__init__"=some (some (.ref f))
 fn:PySem.W.isFn K (.ref f)=true
 kp:PySem.W.keepIn K (.ref C)=true
theorem zrV {Z9:List (Addr×Obj)}{U:St}{H:Hp}{s:Shared}{Q:VK}{us:List Value}{vs:List V}(M:Mk X.K C f)(F:zQ X.prog X.w X.K X.mg X.base CX k f fd ps sp)(hr:Zg (k+1) X.A)(hb:Binds X.K fd ps ds)(hd:Vals dvs ds)
  (hx:Passes CX X E) (I:Inv X Z9 U H s) (r:Vals vs us)
  (h:∀ x dx,H x=none->H dx=none->dx≠x->sp (.ref x::(vs++dvs)) (upd (upd H dx (.own x)) x (.ins C dx [])) (fun v H2=>v=.non/\Q (.ref x) H2) E) :
  wpAny (model X.prog X.w) X.A (call (.ref C) us) (EP X Z9 U Q) X.xe s:=by
 have hq:=h (s.heap.objs.size+1) s.heap.objs.size (I.hok.fresh (qa4 _)) (I.hok.fresh (qf _)) (qL (qa9 _))
 have I2:=Inv.made (C:=C) I
 have r2:Vals (V.ref (s.heap.objs.size+1)::(vs++dvs)) (Value.ref (s.heap.objs.size+1)::(us++ds)):=.cons rfl (r.append hd)
 have hl:(Value.ref (s.heap.objs.size+1)::us++ds).length=ps.length:=by
  have e:=r2.length
  rw [F.len _ _ _ _ hq] at e
  exact e.symm
 refine wpAny_call (zrj (f:=f) I.kIn M.makes M.init (beq_iff_eq.mp M.fn) (codeAny_mono (F.run _ X.stack _ _ ⟨Value.ref (s.heap.objs.size+1)::us,[]⟩ (Value.ref (s.heap.objs.size+1)::(us++ds)) _ _ E (hr.make C us [])
  (I2.env0.make C us []) (hb _ (Value.ref (s.heap.objs.size+1)::us) I2.kIn hl) r2 hq) fun r s' hq'=>?_))
 cases r with
 | error e=>exact hx Z9 U _ _ e s' I2 hq'
 | ok fl =>
  cases fl with
  | ret u =>
   obtain⟨v,H',I3,rv,ev,q3⟩:=I2.after hq'
   subst ev
   exact⟨rv,⟨V.ref (s.heap.objs.size+1),H',I3,rfl,q3⟩⟩
  | next=>exact False.elim hq'
  | brk=>exact False.elim hq'
  | cont=>exact False.elim hq'
end
section
variable {X:Cx}{CX:CXT}{k:Nat}{f C:Addr}{fd:FuncData}{ps ks:List Str}{sp:Sp}{E:XK}{x m:Str}{p pos apos kpos:Pos}{e o:Expr}{es:List Expr}{kws:List Keyword}{te ta:TE}{t tk:TA}{nm:Option Str}
variable {g:List Value->List Value->List Value}{gV:List V->List V->List V}
end
structure zc2 (N P:List Str)(sc:Scope):Prop where
 kind:sc.kind=.function
 co:sc.isCoroutine=false
 gen:sc.isGenerator=false
 nd:N.Nodup
 pre:N.take P.length=P
 par:∀ x∈P,sc.names.lookup x=some .local\/sc.names.lookup x=some .cell
 nofree:∀ y∈sc.names,y.2≠.free
theorem zku {kindOf:Str->Option NameKind}{x:Str}:∀ {binds:List (Str×Value)} {m:Str->Option Value},(∀ v,(x,v)∉binds)->bindL kindOf binds m x=m x
 | [],_,_=>rfl
 | (n,v)::r,m,h=>by
  unfold bindL
  rw [zku fun w hw=>h w (qB _ hw)]
  split
  ·have:x≠n:=by rintro rfl;exact h v qat
   simp [this]
  ·rfl
theorem zj6 {kindOf:Str->Option NameKind}{x:Str}:∀ {binds:List (Str×Value)} {m:Str->Option Value},(∀ v,(x,v)∉binds)->bindC kindOf binds m x=m x
 | [],_,_=>rfl
 | (n,v)::r,m,h=>by
  unfold bindC
  rw [zj6 fun w hw=>h w (qB _ hw)]
  split
  ·rfl
  ·have:x≠n:=by rintro rfl;exact h v qat
   simp [this]
theorem zkI {kindOf:Str->Option NameKind}{x:Str}{v:Value}:∀ {P:List Str} {vs:List Value} {i:Nat} {m:Str->Option Value},P.Nodup->P[i]?=some x->vs[i]?=some v->kindOf x=some .local ->
  bindL kindOf (P.zip vs) m x=some v
 | [],_,_,_,_,h,_,_=>by simp at h
 | _::_,[],_,_,_,_,h,_=>by simp at h
 | p::P,w::vs,0,m,nd,h1,h2,hk=>by
  simp at h1 h2;subst h1;subst h2
  show bindL kindOf ((p,w)::P.zip vs) m p=_
  unfold bindL
  rw [zku fun v hv=>(qaJ.mp nd).1 (List.of_mem_zip hv).1,if_pos hk]
  simp
 | p::P,w::vs,i+1,m,nd,h1,h2,hk=>by
  show bindL kindOf ((p,w)::P.zip vs) m x=_
  unfold bindL
  exact zkI (i:=i) (qaJ.mp nd).2 (by simpa using h1) (by simpa using h2) hk
theorem zkz {kindOf:Str->Option NameKind}{x:Str}{v:Value}:∀ {P:List Str} {vs:List Value} {i:Nat} {m:Str->Option Value},P.Nodup->P[i]?=some x->vs[i]?=some v->kindOf x≠some .local ->
  bindC kindOf (P.zip vs) m x=some v
 | [],_,_,_,_,h,_,_=>by simp at h
 | _::_,[],_,_,_,_,h,_=>by simp at h
 | p::P,w::vs,0,m,nd,h1,h2,hk=>by
  simp at h1 h2;subst h1;subst h2
  show bindC kindOf ((p,w)::P.zip vs) m p=_
  unfold bindC
  rw [zj6 fun v hv=>(qaJ.mp nd).1 (List.of_mem_zip hv).1,if_neg hk]
  simp
 | p::P,w::vs,i+1,m,nd,h1,h2,hk=>by
  show bindC kindOf ((p,w)::P.zip vs) m x=_
  unfold bindC
  exact zkz (i:=i) (qaJ.mp nd).2 (by simpa using h1) (by simpa using h2) hk
def start (N:List Str)(vs:List V):St:=vs.map some++List.replicate (N.length-vs.length) none
def Wv (CX:CXT)(P:Program)(w:World)(K:PySem.W.Frag)(mg:Str->Option Value)(base:Heap)(N:List Str)(qual:Str)(scope:Scope)(f:Addr)(cd:Value)(A:Around)(outer:List Env)(s:Shared)(H:Hp)(E:XK):Cx where
 prog:=P
 w:=w
 K:=K
 mg:=mg
 base:=base
 A:=A.deeper (envOfC qual scope s.heap.objs.size f cd)
 N:=N
 s₀:=s
 H₀:=H
 env:=envOfC qual scope s.heap.objs.size f cd
 outer:=outer
 stack:=envOfC qual scope s.heap.objs.size f cd::outer
 ex:=[]
 calm:=true
 fn:=fun _=>true
 pn:=[]
 xe:=fun e s'=>wpAny (model P w) (A.deeper (envOfC qual scope s.heap.objs.size f cd)) (leaving (envOfC qual scope s.heap.objs.size f cd) e) (fun _ s''=>CX outer H s E e s'') (fun e' s''=>CX outer H s E e' s'') s'
theorem zmj {sc:Scope}{n:Nat}{x:Str}(h:sc.names.lookup x=some .cell):∃ c,(cellsFrom n sc.names []).lookup x=some c:=by
 have q:=PySem.W.cellsFrom_some sc.names n [] (.inl h)
 exact qaA.mp q
theorem zpA {CX:CXT}{P:Program}{w:World}{K:PySem.W.Frag}{mg:Str->Option Value}{base:Heap}{N ps:List Str}{qual:Str}{scope:Scope}{f:Addr}{cd:Value}{A:Around}{outer:List Env}{s s1:Shared}{H:Hp}{E:XK}{us:List Value}{vs:List V}
    (S:zc2 N ps scope) (hd:A.handled=none) (e0:zig P w K mg base A outer s H) (hl:vs.length=ps.length) (r:Vals vs us)
    (x:InCallC s s.heap.objs.size (bindL (envOfC qual scope s.heap.objs.size f cd).kindOf (ps.zip us) fun _=>none) (cellsFrom (s.heap.objs.size+1) scope.names []) (bindC (envOfC qual scope s.heap.objs.size f cd).kindOf (ps.zip us) fun _=>none) s1) :
    Inv (Wv CX P w K mg base N qual scope f cd A outer s H E) [] (start N vs) H s1:=by
  have hpl:ps.length<=N.length:=by have:=congrArg List.length S.pre;rw [qab] at this;lia
  obtain⟨h1,tk,rfl,hk⟩:=x.done
  have noA:∀ b:Addr,b∉(Wv CX P w K mg base N qual scope f cd A outer s H E).ex:=fun b z=>absurd (show b∈([]:List Addr) from z) (by simp)
  refine⟨⟨e0.mod,S.kind,rfl,rfl,qf _,fun y z c h1 h2=>?_,fun y hy=>?_,fun y c _ h=>?_,fun _=>hd,Around.frames_deeper e0.frames,.inr ⟨rfl,rfl⟩,fun b z=>absurd z (noA b),e0.bs,e0.bsz,fun b _ _=>noA b,fun b z=>absurd z (noA b),e0.funs,e0.frf⟩,
    rfl,e0.bare,Un.kept hk,⟨_,x.toInCall.ns,fun i y v h1 h2 h3=>?_⟩,fun y c h=>⟨_,x.cell y c h⟩,e0.hok.fresh (qf _),fun y c h=>?_,fun p hp=>absurd (show p∈([]:List (Addr×Obj)) from hp) (by simp),e0.hok.kept hk,?_⟩
  . exact name_of_addr x.apart (PySem.mem_of_lookup h1) (PySem.mem_of_lookup h2)
  . have hy:scope.names.lookup y=some .cell\/scope.names.lookup y=some .free:=hy
    rcases hy with hy | hy
    . exact zmj hy
    . exact absurd rfl (S.nofree _ (PySem.mem_of_lookup hy))
  . exact qbg (x.above y c (PySem.mem_of_lookup h))
  . have hi : i < vs.length := by
      unfold start at h2
      by_cases hi:i<vs.length
      . exact hi
      . rw [qj (by simpa using hi)] at h2
        rw [qam] at h2
        split at h2<;>cases h2
    have ha:vs[i]?=some v:=by
      unfold start at h2
      rw [qk (by simpa using hi),qi] at h2
      cases e:vs[i]? with
      | none=>rw [e] at h2;cases h2
      | some a=>rw [e] at h2;cases h2;rfl
    obtain⟨u,hu,rv⟩:=r.get ha
    have hp:ps[i]?=some y:=by
      rw [<- S.pre,qaU (by lia)];exact h1
    have ndP:ps.Nodup:=by rw [<- S.pre];exact S.nd.sublist (List.take_sublist _ _)
    refine⟨u,rv,?_⟩
    rcases S.par y (qe hp) with k | k
    . exact .inl ⟨k,zkI ndP hp hu k⟩
    . obtain⟨c,e⟩:=zmj (n:=s.heap.objs.size+1) k
      refine .inr ⟨.inl k,c,e,?_⟩
      have q:=x.cell y c e
      rw [zkz ndP hp hu (by show scope.names.lookup y≠_;rw [k];decide)] at q
      exact q
  . exact e0.hok.fresh (qbg (x.above y c (PySem.mem_of_lookup h)))
  . unfold start
    show _=N.length
    rw [qh,qb,qF]
    lia
theorem zsr {CX:CXT}{P:Program}{w:World}{K:PySem.W.Frag}{mg:Str->Option Value}{base:Heap}{k:Nat}{f:Addr}{name qual:Str}{params:Arguments}{body:List Stmt}{scope:Scope}{dV kV doc pm cdv ct oc:Value}{an od:Option Addr}
  {osl:Array (Option Value)} {N ps:List Str} {sp:Sp} (lk:K.lookup f=some ⟨oc,od,.func (PySem.W.fnOf name qual params body scope dV kV doc pm an cdv ct),osl⟩) (hcd:PySem.W.codeIn K cdv qual=true) (S:zc2 N ps scope)
  (len:∀ vs H Q E,sp vs H Q E->vs.length=ps.length)
  (hbody:∀ (A:Around) (outer:List Env) (s:Shared) (H:Hp) (vs:List V) (Q:VK) (E:XK),Zg k (A.deeper (envOfC qual scope s.heap.objs.size f cdv))->sp vs H Q E ->
   ∃ t,W0 (Wv CX P w K mg base N qual scope f cdv A outer s H E) body t/\t { nx:=fun _ H'=>Q .non H',rt:=Q } (start N vs) H) :
  zQ P w K mg base CX (k+1) f (PySem.W.fnOf name qual params body scope dV kV doc pm an cdv ct) ps sp:=by
 refine⟨len,fun A outer s H args us vs Q E hr e0 hb r hsp=>?_⟩
 have hl:=len _ _ _ _ hsp
 have KX:K.In s.heap:=e0.mod.kin.keeps fun b o e=>(e0.bs b o e).1
 have lim:s.heap.NoLimit:=e0.mod.nolimit.keeps fun b o e=>(e0.bs b o e).1
 have hkind:∀ y∈ps.zip us,scope.names.lookup y.1=some .local\/(scope.names.lookup y.1=some .cell/\((cellsFrom (s.heap.objs.size+1) scope.names []).lookup y.1).isSome=true):=fun⟨n,v⟩ hy=>by
  rcases S.par n (List.of_mem_zip hy).1 with q | q
  ·exact .inl q
  ·exact .inr ⟨q,PySem.W.cellsFrom_some _ _ _ (.inl q)⟩
 refine codeAny_call_function hr.depth (KX _ _ lk) rfl S.co S.gen rfl (PySem.W.codeRec_of KX hcd) (hb _ _ _ _ ?_)
 refine wpAny_newFunctionEnv_cells S.kind hkind fun env he s1 x=>?_
 subst he
 refine⟨lim.keeps x.toInCall.keep,codeAny_func ?_⟩
 obtain⟨t,ht,hq⟩:=hbody A outer s H vs Q E (hr.deeper _) hsp
 have I:Inv (Wv CX P w K mg base N qual scope f cdv A outer s H E) [] (start N vs) H s1:=zpA S hr.hd e0 hl r x
 refine wpAny_mono (ht [] s1 (start N vs) H _ I hq) (fun fl s' hs=>?_) fun e s' hs=>hs
 have fin:∀ {σ':St} {H':Hp} {v:V} {u:Value},Inv (Wv CX P w K mg base N qual scope f cdv A outer s H E) [] σ' H' s'->RelV v u->Q v H'->CE outer P w H s Q u s' :=
  fun {σ' H' v u} J rv q=>⟨v,H',J.os,J.bare,J.base,J.hok,rv,q⟩
 cases fl with
 | ret u =>
  obtain⟨v,σ',H',J,rv,q⟩:=hs
  exact fin J rv q
 | next =>
  obtain⟨σ',H',J,q⟩:=hs
  exact fin (v:=V.non) (u:=Value.none) J rfl q
 | brk =>
  obtain⟨_,_,_,q⟩:=hs
  exact False.elim q
 | cont =>
  obtain⟨_,_,_,q⟩:=hs
  exact False.elim q
section
variable {X:Cx}{x:Str}{p pos:Pos}{e:Expr}{es:List Expr}{t:TA}{id T:String}{r:List V->Hp->VK->Prop}
def tCB (r:List V->Hp->VK->Prop)(t:TA):TE:=fun U H Q=>t U H fun vs H1=>r vs H1 Q
theorem zrp (hc:YF X (.builtin id) r)(hg:Gl X x)(hm:X.mg x=none)(hv:bootBuiltins x=some (.builtin id))(ha:PA X (e::es) t)(hn:x≠"__name__":=by decide)(hdb:(x==("__debug__":Str))=false:=by decide)
  (he:starEach (e::es) X.env=(false,eval e X.env)::starEach es X.env:=by rfl) (hpl:(backTo pos (starEach es X.env)).any (·.1)=false:=by rfl):PE X (.Call (.Name x p) (e::es) [] pos) (tCB r t):=by
 intro Z9 s U H Q I h
 refine wpAny_Call_Name_kw (zdn I hg hm hv ?_ hn hdb)
 exact PyProof.Rows.callWith_builtin1 (Z0 (ha pos Z9 s U H _ I h) fun us s1 ⟨vs,H1,I1,r1,q1⟩=>hc Z9 s1 U H1 vs us Q I1 r1 q1) he hpl
theorem zpo (hc:YF X (.type T) r)(hg:Gl X x)(hm:X.mg x=none)(hv:bootBuiltins x=some (.type T))(ha:PA X (e::es) t)(hn:x≠"__name__":=by decide)(hdb:(x==("__debug__":Str))=false:=by decide)
  (he:starEach (e::es) X.env=(false,eval e X.env)::starEach es X.env:=by rfl) (hpl:(backTo pos (starEach es X.env)).any (·.1)=false:=by rfl):PE X (.Call (.Name x p) (e::es) [] pos) (tCB r t):=by
 intro Z9 s U H Q I h
 refine wpAny_Call_Name_kw (zdn I hg hm hv ?_ hn hdb)
 exact PyProof.Rows.callWith_type1 (Z0 (ha pos Z9 s U H _ I h) fun us s1 ⟨vs,H1,I1,r1,q1⟩=>hc Z9 s1 U H1 vs us Q I1 r1 q1) he hpl
end
end L2
namespace HT
open PySem PyProof.Rows
section
open PySem.SeqAt
open PySem.AutoSeq1 (wpAny_loadPart')
open PySem.MeetsSeq PySem.MeetsSeq2 PySem.MeetsSeq3
end
section
variable {prog:Program}{w:World}{A:Around}{E:Value->Shared->Prop}{s:Shared}
theorem zum {t b:Addr}{vs ws:List Value}{Q:Value->Shared->Prop}(ht:IsTup s.heap t vs.toArray)(hb:IsTup s.heap b ws.toArray)(hv:vs≠[])
  (h1:ws=[]->Q (.ref t) s) (h2:ws≠[]->Q (.ref s.heap.objs.size) { s with heap:=s.heap.push { cls:=.type "tuple",data:=.seq (vs++ws).toArray } })
  (hsz:vs.length+ws.length<=sizeLine):wpAny (model prog w) A (binaryOp .Add (.ref t) (.ref b)) Q E s:=by
 obtain⟨⟨cls,dd,data,sl⟩,ho,hc,n,hd⟩:=id ht
 obtain⟨⟨cls2,dd2,data2,sl2⟩,ho2,hc2,n2,hd2⟩:=id hb
 simp only at hc hd hc2 hd2
 subst hc hd hc2 hd2
 have e:vs.toArray++ws.toArray=(vs++ws).toArray:=by simp
 by_cases hw:ws=[]
 ·exact concat_meets ⟨_,ho,rfl⟩ ⟨_,ho2,rfl⟩ noFill_tuple_add seq_tuple_add PySem.F.slot_tuple_add PySem.F.entry_tuple_add (PySem.F.args_tuple_add_2 _ _)
   (tuple_addW1 t b vs.toArray ws.toArray n n2 dd dd2 sl sl2 (by simpa using hv) (by simp [hw])) ⟨ho,ho2,h1 hw⟩
 ·refine concat_meets ⟨_,ho,rfl⟩ ⟨_,ho2,rfl⟩ noFill_tuple_add seq_tuple_add PySem.F.slot_tuple_add PySem.F.entry_tuple_add (PySem.F.args_tuple_add_2 _ _)
   (tuple_addW2 t b vs.toArray ws.toArray n n2 dd dd2 sl sl2 (by simpa using hv) (by simpa using hw) (by rw [qm,qm];exact hsz)) ⟨ho,ho2,?_⟩
  rw [e]
  exact h2 hw
def sIx (n d:Nat):Option Int->Nat
 | none=>d
 | some v=>if v<0 then (v+(n:Int)).toNat else min v.toNat n
theorem zji (n d:Nat)(hd:d<=n)(o:Option Int):sIx n d o<=n:=by
 cases o with
 | none=>exact hd
 | some v =>
  show (if v<0 then (v+(n:Int)).toNat else min v.toNat n)<=n
  by_cases hv:v<0
  ·rw [if_pos hv];lia
  ·rw [if_neg hv];exact Nat.min_le_right _ _
theorem zm9 (v:Int)(n d:Nat):(if v<0 then max (v+(n:Int)) 0 else min v (n:Int))=((sIx n d (some v):Nat):Int):=by
 show (if v<0 then max (v+(n:Int)) 0 else min v (n:Int))=(((if v<0 then (v+(n:Int)).toNat else min v.toNat n):Nat):Int)
 by_cases hv:v<0
 ·simp only [if_pos hv];lia
 ·simp only [if_neg hv];lia
theorem zoh (lo hi:Option Int)(n:Nat):Builtin.Slice.sliceAdjust lo hi 1 (n:Int)=(((sIx n 0 lo:Nat):Int),((sIx n n hi:Nat):Int)):=by
 have h1:¬ ((1:Int)<0):=by lia
 unfold Builtin.Slice.sliceAdjust
 simp only [h1,if_false]
 refine Prod.ext ?_ ?_
 ·cases lo with
  | none=>rfl
  | some v=>exact zm9 v n 0
 ·cases hi with
  | none=>rfl
  | some v=>exact zm9 v n n
theorem zoq (i j:Nat):Builtin.Slice.slicePlaces (i:Int) (j:Int) 1=j-i:=by
  unfold Builtin.Slice.slicePlaces
  have h1:(1:Int) > 0:=by lia
  simp only [h1,if_true,Int.ediv_one]
  split<;>lia
theorem zi6 {v:Value}{o:Option Int}{Q:Option Int->Shared->Prop}(p:IsPart v o)(h:Q o s):wpAny (model prog w) A (Builtin.Slice.slicePartIndex v) Q E s:=by
 cases p with
 | none=>exact slicePart_none h
 | int i t=>exact slicePart_int h
theorem zeW {sl:Addr}{vl vu:Value}{lo hi:Option Int}{n:Nat}{Q:Int×Int×Nat->Shared->Prop}(hs:s.heap.IsSliceOf sl vl vu .none)(pl:IsPart vl lo)(pu:IsPart vu hi)
  (h:Q (((sIx n 0 lo:Nat):Int),1,sIx n n hi-sIx n 0 lo) s):wpAny (model prog w) A (Builtin.Slice.sliceApplied (.ref sl) (pure (n:Int))) Q E s:=by
 obtain⟨os,hos,hcs,hds⟩:=id hs
 unfold Builtin.Slice.sliceApplied Builtin.Slice.sliceFields
 refine wpAny_bind (wpAny_bind (wpAny_field hos hds (x:=vl) rfl (wpAny_bind (wpAny_field hos hds (x:=vu) rfl (wpAny_bind (wpAny_field hos hds (x:=.none) rfl (wpAny_pure ?_)))))))
 refine wpAny_bind (slicePart_none ?_)
 show wpAny _ _ (if ((1:Int)==0)=true then _ else _) _ _ s
 rw [if_neg (by decide)]
 refine wpAny_bind (zi6 pl (wpAny_bind (zi6 pu (wpAny_bind (wpAny_pure ?_)))))
 show wpAny _ _ (match Builtin.Slice.sliceAdjust lo hi 1 (n:Int) with | (lo,hi)=>pure (lo,(1:Int),Builtin.Slice.slicePlaces lo hi 1)) _ _ s
 rw [zoh lo hi n]
 show wpAny _ _ (pure (((sIx n 0 lo:Nat):Int),(1:Int),Builtin.Slice.slicePlaces ((sIx n 0 lo:Nat):Int) ((sIx n n hi:Nat):Int) 1)) _ _ s
 rw [zoq]
 exact wpAny_pure h
theorem zr5 (xs:Array Value)(i k:Nat):((List.range k).filterMap fun (m:Nat)=>xs[((i:Int)+(m:Int)*1).toNat]?).toArray=((xs.toList.drop i).take k).toArray:=by
 have e:(fun (m:Nat)=>xs[((i:Int)+(m:Int)*1).toNat]?)=fun m=>xs[i+m]?:=by
  funext m
  have:((i:Int)+(m:Int)*1).toNat=i+m:=by lia
  rw [this]
 rw [e]
 have:=pick_run xs i k
 rw [List.filterMap_map] at this
 have e2:((fun x=>xs[x]?) ∘ fun x=>i+x)=fun m=>xs[i+m]?:=rfl
 rw [e2] at this
 rw [this]
theorem zhE {t sl:Addr}{items:Array Value}{vl vu:Value}{lo hi:Option Int}{Q:Value->Shared->Prop}(ht:IsTup s.heap t items)(hs:s.heap.IsSliceOf sl vl vu .none)(pl:IsPart vl lo)(pu:IsPart vu hi)
  (hw:¬ (sIx items.size 0 lo=0/\sIx items.size items.size hi=items.size))
  (h:Q (.ref s.heap.objs.size) { s with heap:=s.heap.push { cls:=.type "tuple",data:=.seq ((items.toList.drop (sIx items.size 0 lo)).take (sIx items.size items.size hi-sIx items.size 0 lo)).toArray } })
  (hsz:items.size<=sizeLine):wpAny (model prog w) A (getItem (.ref t) (.ref sl)) Q E s:=by
 have htake:sizeOk (.seq ((items.toList.drop (sIx items.size 0 lo)).take (sIx items.size items.size hi-sIx items.size 0 lo)).toArray):=by
  show ((items.toList.drop (sIx items.size 0 lo)).take (sIx items.size items.size hi-sIx items.size 0 lo)).toArray.size<=sizeLine
  rw [qm,qab,qas,qR]
  lia
 have hj:sIx items.size items.size hi<=items.size:=zji _ _ (qf _) hi
 obtain⟨os,hos,hcs,hds⟩:=id hs
 have hTs:s.TypeIs (.ref sl) "slice":=⟨os,hos,hcs⟩
 unfold getItem
 try with_reducible refine wpAny_holding ?_
 first | refine wpAny_bind (wpAny_pure ?_) | skip
 refine wpAny_bind (wpAny_sequenceKey ht.typeIs (by decide) ?_)
 refine wpAny_bind (wpAny_callSpecial?_slot (name:=Str.ofString "__getitem__") ht.typeIs PyProof.Rows.slot_tuple_getitem
  (wpAny_call_entry PyProof.Rows.slot_tuple_getitem ht.typeIs entry_tuple_getitem ?_ (args_tuple_getitem _ _)))
 show wpAny _ _ (Builtin.Tuple.tupleItemsOf (.ref t) >>= _) _ _ s
 refine wpAny_bind (tupleItemsOf_ ht ?_)
 refine wpAny_bind (wpAny_typeOf hTs ?_)
 rw [if_pos (by decide)]
 refine wpAny_bind (zeW hs pl pu ?_)
 have hno:¬ ((((sIx items.size 0 lo:Nat):Int)==0&&(1:Int)==1&&(sIx items.size items.size hi-sIx items.size 0 lo)==items.size)=true):=by
  intro q
  rw [qG,qG] at q
  have q1:((sIx items.size 0 lo:Nat):Int)=0:=eq_of_beq q.1.1
  have q2:sIx items.size items.size hi-sIx items.size 0 lo=items.size:=eq_of_beq q.2
  exact hw ⟨by lia,by lia⟩
 show wpAny _ _ (if (((sIx items.size 0 lo:Nat):Int)==0&&(1:Int)==1&&(sIx items.size items.size hi-sIx items.size 0 lo)==items.size)=true then _ else _) _ _ s
 rw [if_neg hno,zr5]
 first
  | exact wpAny_bind (m:=Builtin.Tuple.tupleExact _) (wpAny_newObj_type (wpAny_pure ⟨_,rfl,wpAny_pure h⟩) htake)
  | exact wpAny_bind (m:=Builtin.Tuple.tupleExact _) (wpAny_newObj_type (wpAny_bind (wpAny_pure (wpAny_pure ⟨_,rfl,wpAny_pure h⟩))) htake)
  | exact wpAny_bind (wpAny_bind (m:=Builtin.Tuple.tupleExact _) (wpAny_newObj_type (wpAny_pure (wpAny_pure ⟨_,rfl,wpAny_pure h⟩)) htake))
  | exact wpAny_bind (wpAny_bind (m:=Builtin.Tuple.tupleExact _) (wpAny_newObj_type (wpAny_pure ⟨_,rfl,wpAny_pure h⟩) htake))
end
end HT
namespace L2
open PySem PySem.Spec PyProof.Rows
abbrev TO:=St->Hp->(Option Int->Hp->Prop)->Prop
def PO (X:Cx)(e:Option Expr)(t:TO):Prop :=
 ∀ (Z9:List (Addr×Obj)) (s:Shared) (U:St) (H:Hp) (Q:Option Int->Hp->Prop),Inv X Z9 U H s->t U H Q ->
  wpAny (model X.prog X.w) X.A (evalPart e X.env) (fun u s'=>∃ o H',Inv X Z9 U H' s'/\IsPart u o/\Q o H') X.xe s
def zup:TO:=fun _ H Q=>Q none H
def zyj (t:TE):TO:=fun U H Q=>t U H fun x H1=>∃ i,x=.int i/\Q (some i) H1
section
variable {X:Cx}{e:Expr}{te:TE}{lo hi:Option Expr}{tl th:TO}{pos p2:Pos}
theorem zsY:PO X none zup:=by
 intro Z9 s U H Q I h
 rw [evalPart_none]
 exact wpAny_pure ⟨none,H,I,.none,h⟩
theorem zsT (h:PE X e te):PO X (some e) (zyj te):=by
 intro Z9 s U H Q I hw
 rw [evalPart_some]
 refine Z0 (h Z9 s U H _ I hw) fun u s1 ⟨x,H1,I1,r1,q1⟩=>?_
 obtain⟨i,rfl,q⟩:=q1
 obtain⟨t,rfl⟩:=r1
 exact⟨some i,H1,I1,.int i t,q⟩
def SlR (X:Cx)(r:V->Option Int->Option Int->Hp->VK->Prop):Prop :=
 ∀ (Z9:List (Addr×Obj)) (s:Shared) (U:St) (H:Hp) (x:V) (v vl vu:Value) (lo hi:Option Int) (sl:Addr) (Q:VK),Inv X Z9 U H s->RelV x v->s.heap.IsSliceOf sl vl vu .none->IsPart vl lo->IsPart vu hi->r x lo hi H Q ->
  ∃ T id,typeLookup (.type T) "__getitem__"=pure (some (.builtin id))/\s.TypeIs v T/\wpAny (model X.prog X.w) X.A (getItem v (.ref sl)) (EP X Z9 U Q) X.xe s
theorem SlR.or {r r':V->Option Int->Option Int->Hp->VK->Prop}(h:SlR X r)(h':SlR X r'):SlR X (fun x lo hi H Q=>r x lo hi H Q\/r' x lo hi H Q):=by
 intro Z9 s U H x v vl vu lo hi sl Q I rx hs pl pu q
 rcases q with q | q
 ·exact h Z9 s U H x v vl vu lo hi sl Q I rx hs pl pu q
 ·exact h' Z9 s U H x v vl vu lo hi sl Q I rx hs pl pu q
def tSl (r:V->Option Int->Option Int->Hp->VK->Prop)(te:TE)(tl th:TO):TE:=fun U H Q=>te U H fun x H1=>tl U H1 fun l H2=>th U H2 fun u H3=>r x l u H3 Q
theorem zr1 {r:V->Option Int->Option Int->Hp->VK->Prop}(hr:SlR X r)(he:PE X e te)(hl:PO X lo tl)(hu:PO X hi th):PE X (.Subscript e (.Slice lo hi none p2) pos) (tSl r te tl th):=by
 intro Z9 s U H Q I h
 refine Subscript_ (Z0 (he Z9 s U H _ I h) fun v s1 ⟨x,H1,I1,r1,q1⟩=>?_)
 refine wpAny_Slice (Z0 (hl Z9 s1 U H1 _ I1 q1) fun vl s2 ⟨l,H2,I2,pl,q2⟩=>Z0 (hu Z9 s2 U H2 _ I2 q2) fun vu s3 ⟨u,H3,I3,pu,q3⟩=>?_)
 rw [evalPart_none]
 refine wpAny_pure ?_
 have I4:Inv X Z9 U H3 { s3 with heap:=s3.heap.push { cls:=.type "slice",data:=.fields #[vl,vu,.none] } }:=I3.kept (t':=s3.toks) fun b ob q=>qd _ q
 obtain⟨T,id,hT,ht,hg⟩:=hr Z9 { s3 with heap:=s3.heap.push { cls:=.type "slice",data:=.fields #[vl,vu,.none] } } U H3 x v vl vu l u s3.heap.objs.size Q I4 r1 (Heap.IsSliceOf.new ..) pl pu q3
 show wpAny (model X.prog X.w) X.A (subscriptTail e (.Slice lo hi none p2) v (.ref s3.heap.objs.size)) (EP X Z9 U Q) X.xe { s3 with heap:=s3.heap.push { cls:=.type "slice",data:=.fields #[vl,vu,.none] } }
 exact tail_any (ops:=[.ref s3.heap.objs.size,v]) ht hT hg (by with_unfolding_all rfl)
def zf1 (xs:List V)(lo hi:Option Int):List V:=(xs.drop (HT.sIx xs.length 0 lo)).take (HT.sIx xs.length xs.length hi-HT.sIx xs.length 0 lo)
theorem zh3 (xs:List V)(lo hi:Option Int):(zf1 xs lo hi).length<=xs.length:=by
 unfold zf1
 rw [qab,qas]
 lia
def zyZ (K:PySem.W.Frag):V->Option Int->Option Int->Hp->VK->Prop:=fun x lo hi H Q=>∃ a xs,x=.ref a/\ZF K H a xs /\
 ¬ (HT.sIx xs.length 0 lo=0/\HT.sIx xs.length xs.length hi=xs.length)/\∀ p,H p=none->Q (.ref p) (upd H p (.tup (zf1 xs lo hi)))
theorem zv8:SlR X (zyZ X.K):=by
 intro Z9 s U H x v vl vu lo hi sl Q I rx hs pl pu h
 obtain⟨a,xs,rfl,hx,hw,q⟩:=h
 cases rx
 obtain⟨its,r,ht,hz⟩:=I.tuple hx
 have hlen:its.toArray.size=xs.length:=by rw [qm];exact r.length.symm
 refine⟨"tuple",_,PyProof.Rows.slot_tuple_getitem.lookup,ht.typeIs,?_⟩
 refine HT.zhE ht hs pl pu (by rw [hlen];exact hw) ?_ (by rw [hlen];exact hz)
 rw [hlen]
 refine⟨.ref s.heap.objs.size,_,I.laid (t':=s.toks) (o:=.tup (zf1 xs lo hi)) (fun b ob q=>qd _ q) (qf _) ?_,rfl,q _ (I.hok.fresh (qf _))⟩
 exact⟨qX (zh3 xs lo hi) hz,_,(r.drop (HT.sIx xs.length 0 lo)).take (HT.sIx xs.length xs.length hi-HT.sIx xs.length 0 lo),IsTup.new _ _⟩
def zxy (K:PySem.W.Frag):R2:=fun x y H Q=>∃ a b xs ys,x=.ref a/\y=.ref b/\ZF K H a xs/\ZF K H b ys/\xs≠[]/\xs.length+ys.length<=sizeLine /\
 (ys=[]->Q (.ref a) H)/\(ys≠[]->∀ p,H p=none->Q (.ref p) (upd H p (.tup (xs++ys))))
theorem Vals.nil_iff {xs:List V}{us:List Value}(r:Vals xs us):us=[]↔xs=[]:=by
 cases r with
 | nil=>simp
 | cons _ _=>simp
theorem ztc:Zk X (binaryOp .Add) (zxy X.K):=by
 intro Z9 s U H x y v u Q I rx ry h
 obtain⟨a,b,xs,ys,rfl,rfl,ha,hb,hx,hz,q1,q2⟩:=h
 cases rx
 cases ry
 obtain⟨its,r1,p1,_⟩:=I.tuple ha
 obtain⟨its2,r2,p2,_⟩:=I.tuple hb
 refine HT.zum p1 p2 (fun z=>hx (r1.nil_iff.mp z)) (fun z=>⟨.ref a,H,I,rfl,q1 (r2.nil_iff.mp z)⟩) (fun z=>?_) (by rw [<- r1.length,<- r2.length];exact hz)
 refine⟨.ref s.heap.objs.size,_,I.laid (t':=s.toks) (o:=.tup (xs++ys)) (fun b ob q=>qd _ q) (qf _) ?_,rfl,q2 (fun w=>z (r2.nil_iff.mpr w)) _ (I.hok.fresh (qf _))⟩
 exact⟨by rw [qh];exact hz,_,r1.append r2,IsTup.new _ _⟩
end
def ixN (n:Nat)(i:Int):Option Nat:=if 0<=i then (if i<n then some i.toNat else none) else if -(n:Int)<=i then some (i+n).toNat else none
def atI {α:Type}(xs:List α)(i:Int):Option α:=(ixN xs.length i).bind fun j=>xs[j]?
theorem znb {n:Nat}{i:Int}{j:Nat}(h:ixN n i=some j):seqIndex? i n=some j/\j<n/\-(n:Int)<=i/\i<n:=by
 unfold ixN at h
 by_cases h0:0<=i
 ·rw [if_pos h0] at h
  by_cases h1:i<n
  ·rw [if_pos h1] at h
   have e:i.toNat=j:=qA h
   exact⟨by rw [seqIndex_of h0 h1,e],by lia,by lia,h1⟩
  ·rw [if_neg h1] at h;cases h
 ·rw [if_neg h0] at h
  by_cases h1:-(n:Int)<=i
  ·rw [if_pos h1] at h
   have e:(i+n).toNat=j:=qA h
   exact⟨by rw [seqIndex_neg (by lia) h1,e],by lia,h1,by lia⟩
  ·rw [if_neg h1] at h;cases h
theorem zjz {α:Type}{xs:List α}{i:Int}{v:α}(h:atI xs i=some v):∃ j,seqIndex? i xs.length=some j/\xs[j]?=some v/\j<xs.length/\-(xs.length:Int)<=i/\i<xs.length:=by
 unfold atI at h
 cases e:ixN xs.length i with
 | none=>rw [e] at h;cases h
 | some j =>
  rw [e] at h
  obtain⟨h1,h2,h3,h4⟩:=znb e
  exact⟨j,h1,h,h2,h3,h4⟩
def znh (b:Expr):Prop:=∀ o i,subscripted b false o i=operate [o,i] (getItem o i)
def IxR (X:Cx)(r:R2):Prop :=
 ∀ (value slice:Expr) (Z9:List (Addr×Obj)) (s:Shared) (U:St) (H:Hp) (x y:V) (v u:Value) (Q:VK),Inv X Z9 U H s->RelV x v->RelV y u->r x y H Q ->
  subscripted slice false v u=operate [v,u] (getItem v u)->wpAny (model X.prog X.w) X.A (subscriptTail value slice v u) (EP X Z9 U Q) X.xe s
def MtR (X:Cx)(id:String)(r:V->List V->Hp->VK->Prop):Prop :=
 ∀ (Z9:List (Addr×Obj)) (s:Shared) (U:St) (H:Hp) (x:V) (xs:List V) (v:Value) (us:List Value) (Q:VK),Inv X Z9 U H s->RelV x v->Vals xs us->r x xs H Q ->
  wpAny (model X.prog X.w) X.A (call (.builtin id) (v::us)) (EP X Z9 U Q) X.xe s
section
variable {X:Cx}{a b:Expr}{ta tb:TE}{pos:Pos}
theorem IxR.or {r r':R2}(h:IxR X r)(h':IxR X r'):IxR X (fun x y H Q=>r x y H Q\/r' x y H Q):=by
 intro value slice Z9 s U H x y v u Q I rx ry q hs
 rcases q with q | q
 ·exact h value slice Z9 s U H x y v u Q I rx ry q hs
 ·exact h' value slice Z9 s U H x y v u Q I rx ry q hs
theorem zxR {r:R2}(hr:IxR X r)(ha:PE X a ta)(hb:PE X b tb)(hs:znh b):PE X (.Subscript a b pos) (tOp r ta tb):=by
 intro Z9 s U H Q I h
 exact Subscript_ (zr7 ha hb I h fun v u s2 x y H2 I2 rx ry q=>hr a b Z9 s2 U H2 x y v u Q I2 rx ry q (hs _ _))
def zyW (K:PySem.W.Frag):R2:=fun x y H Q=>∃ p xs i v,x=.ref p/\y=.int i/\Zo K H p xs/\atI xs i=some v/\Q v H
def zyN (K:PySem.W.Frag):R2:=fun x y H Q=>∃ p xs i v,x=.ref p/\y=.int i/\ZF K H p xs/\atI xs i=some v/\Q v H
def zyM:R2:=fun x y H Q=>∃ z i c,x=.str z/\y=.int i/\z.length<=sizeLine/\atI z.cps.toList i=some c/\Q (.str ⟨#[c]⟩) H
theorem zug:IxR X (zyW X.K):=by
  intro value slice Z9 s U H x y v u Q I rx ry h hs
  obtain⟨p,xs,i,z,rfl,rfl,hq,he,q⟩:=h
  cases rx
  obtain⟨t,rfl⟩:=ry
  obtain⟨its,r,pl,hz⟩:=I.list hq
  obtain⟨j,h1,h2,h3,h4,h5⟩:=zjz he
  obtain⟨w,ew,rw'⟩:=r.get h2
  have hl:=r.length
  have hn:=zfD
  have fin:EP X Z9 U Q w s:=⟨z,H,I,rw',q⟩
  by_cases h0:0<=i
  . have hj : i.toNat = j := by
      rw [seqIndex_of h0 h5] at h1
      exact qA h1
    exact item_listR pl.isList h0 (by lia) (by rw [hj];simpa using ew) fin hs
  . have hj : (i + (its.toArray.size : Int)).toNat = j := by
      rw [seqIndex_neg (by lia) h4] at h1
      rw [qm,<- hl]
      exact qA h1
    exact subscriptTail_builtinR (x:=w) pl.isList.typeIs slot_list_getitem.lookup
      (wpAny_getItem_list_neg (Q:=fun r s'=>r=w/\EP X Z9 U Q r s') pl.isList (by lia) (by rw [qm]<;>lia) (by lia) (by rw [hj];simpa using ew) ⟨rfl,fin⟩) hs
theorem zvP:IxR X (zyN X.K):=by
 intro value slice Z9 s U H x y v u Q I rx ry h hs
 obtain⟨p,xs,i,z,rfl,rfl,hq,he,q⟩:=h
 cases rx
 obtain⟨t,rfl⟩:=ry
 obtain⟨its,r,pl,hz⟩:=I.tuple hq
 obtain⟨j,h1,h2,h3,h4,h5⟩:=zjz he
 obtain⟨w,ew,rw'⟩:=r.get h2
 have hl:=r.length
 have hn:=zfD
 have fin:EP X Z9 U Q w s:=⟨z,H,I,rw',q⟩
 exact subscriptTail_builtinR (x:=w) pl.typeIs slot_tuple_getitem.lookup
  (getItem_tuple (j:=j) (Q:=fun r s'=>r=w/\EP X Z9 U Q r s') pl (by lia) (by lia) (by rw [qm,<- hl];exact h1) (by simpa using ew) ⟨rfl,fin⟩) hs
theorem zvf:IxR X zyM:=by
 intro value slice Z9 s U H x y v u Q I rx ry h hs
 obtain⟨z,i,c,rfl,rfl,hz,he,q⟩:=h
 obtain⟨t,rfl⟩:=rx
 obtain⟨t',rfl⟩:=ry
 obtain⟨j,h1,h2,h3,h4,h5⟩:=zjz he
 have hl:z.cps.toList.length=z.length:=by simp [Str.length]
 rw [hl] at h1 h4 h5
 have hn:=zfD
 exact tail_any (typeIs_str s z t) slot_str_getitem.lookup (getItem_str (c:=c) (by
  have e1:decide (i < -(2 ^ 63:Int))=false:=decide_eq_false (by lia)
  have e2:decide (i ≥ 2 ^ 63)=false:=decide_eq_false (by lia)
  rw [e1,e2,Bool.or_false]) (by rw [h1];simpa using h2) ⟨.str ⟨#[c]⟩,H,I.tok _,⟨_,rfl⟩,q⟩) hs
theorem zoP (its:List Value)(n j:Nat)(u:Value):Obj.mapSeq (·.setIfInBounds j u) { cls:=.type "list",data:=.seq its.toArray n }={ cls:=.type "list",data:=.seq (its.set j u).toArray n }:=by
 simp [Obj.mapSeq]
theorem Inv.lst {Z9:List (Addr×Obj)}{U:St}{H:Hp}{s:Shared}{p:Addr}{xs:List V}(I:Inv X Z9 U H s)(h:H p=some (.lst xs)) :
  ∃ (its:List Value) (n:Nat),Vals xs its/\s.heap.get? p=some { cls:=.type "list",data:=.seq its.toArray n }/\xs.length<=sizeLine:=by
 obtain⟨z,its,n,r,e⟩:=I.hok p _ h
 exact⟨its,n,r,e,z⟩
theorem Inv.lstUpd {Z9:List (Addr×Obj)}{U:St}{H:Hp}{s:Shared}{p:Addr}{xs ys:List V}{its its':List Value}{n n':Nat}{f:Obj->Obj}(I:Inv X Z9 U H s)(h:H p=some (.lst xs))
    (ho:s.heap.get? p=some { cls:=.type "list",data:=.seq its.toArray n }) (hf:f { cls:=.type "list",data:=.seq its.toArray n }={ cls:=.type "list",data:=.seq its'.toArray n' }) (r:Vals ys its') (hz:ys.length<=sizeLine) (t:Nat) :
    Inv X Z9 U (upd H p (.lst ys)) { s with heap:=s.heap.update p f,toks:=t }:=by
  have e:(s.heap.update p f).get? p=some { cls:=.type "list",data:=.seq its'.toArray n' }:=by
    rw [Heap.get?_update_self f ho (by rw [hf]<;>rfl),hf]
  refine I.write (x:=p) (e:=p) (by rw [h];trivial) (.inl rfl) (fun b u hb q=>(Heap.get?_update_other _ _ (Ne.symm hb)).trans q) ⟨_,e⟩ ?_
  exact⟨hz,its',n',r,e⟩
def zx1:V->V->V->Hp->(Hp->Prop)->Prop:=fun o i v H Q=>∃ p xs k j,o=.ref p/\i=.int k/\H p=some (.lst xs)/\ixN xs.length k=some j/\Q (upd H p (.lst (xs.set j v)))
theorem set_list:zuV X zx1:=by
 intro Z9 s U H o i v ov iv u Q I ro ri rv h
 obtain⟨p,xs,k,j,rfl,rfl,hp,hj,q⟩:=h
 cases ro
 obtain⟨t,rfl⟩:=ri
 obtain⟨its,n,r,ho,hz⟩:=I.lst hp
 obtain⟨h1,h2,h3,h4⟩:=znb hj
 have hl:=r.length
 have hn:=zfD
 have I':Inv X Z9 U (upd H p (.lst (xs.set j v))) { s with heap:=s.heap.update p (Obj.mapSeq (·.setIfInBounds j u)) } :=
  I.lstUpd hp ho (zoP its n j u) (r.set rv j) (by rw [qap];exact hz) s.toks
 by_cases h0:0<=k
 ·have hk:k.toNat=j:=by
   rw [seqIndex_of h0 h4] at h1
   exact qA h1
  exact PySem.W.ki_setAt ho h0 (by lia) (by rw [qm,<- hl];exact h4) (by rw [hk];exact⟨_,I',q⟩)
 ·have hk:(k+(its.toArray.size:Int)).toNat=j:=by
   rw [seqIndex_neg (by lia) h3] at h1
   rw [qm,<- hl]
   exact qA h1
  exact PySem.W.ki_setBack ho (by lia) (by rw [qm,<- hl];exact h3) (by lia) (by rw [hk];exact⟨_,I',q⟩)
theorem zlo (lo hi:Option Int)(n:Nat):(sliceBounds lo hi none n).1=((HT.sIx n 0 lo:Nat):Int)/\(sliceBounds lo hi none n).2.1=((HT.sIx n n hi:Nat):Int)/\(sliceBounds lo hi none n).2.2=1:=by
  refine⟨?_,?_,rfl⟩
  . cases lo with
    | none=>simp [sliceBounds,HT.sIx]
    | some i =>
      simp only [sliceBounds,HT.sIx,Option.getD_none,show (1:Int) > 0 by decide,if_true]
      by_cases h:i<0
      . simp only [h,if_true]<;>lia
      . simp only [h,if_false]<;>lia
  . cases hi with
    | none=>simp [sliceBounds,HT.sIx]
    | some i =>
      simp only [sliceBounds,HT.sIx,Option.getD_none,show (1:Int) > 0 by decide,if_true]
      by_cases h:i<0
      . simp only [h,if_true]<;>lia
      . simp only [h,if_false]<;>lia
theorem zkP (its:List Value)(lo hi:Option Int):slicePick its.toArray lo hi none=((its.drop (HT.sIx its.length 0 lo)).take (HT.sIx its.length its.length hi-HT.sIx its.length 0 lo)).toArray:=by
  obtain⟨h1,h2,h3⟩:=zlo lo hi its.toArray.size
  unfold slicePick
  rw [h1,h2,h3]
  simp only [sliceRange_one,pick_run,qm]<;>rfl
def zyB (K:PySem.W.Frag):V->Option Int->Option Int->Hp->VK->Prop:=fun x lo hi H Q=>∃ a xs,x=.ref a/\Zo K H a xs/\∀ p,H p=none->Q (.ref p) (upd H p (.lst (zf1 xs lo hi)))
theorem zti:SlR X (zyB X.K):=by
  intro Z9 s U H x v vl vu lo hi sl Q I rx hs pl pu h
  obtain⟨a,xs,rfl,hx,q⟩:=h
  cases rx
  obtain⟨its,r,ht,hz⟩:=I.list hx
  have hlen:=r.length
  refine⟨"list",_,slot_list_getitem.lookup,ht.isList.typeIs,?_⟩
  refine wpAny_getItem_list_slice ht.isList hs pl pu .none (by simp) ?_ (by rw [qm]<;>lia)
  rw [zkP,<- hlen]
  refine⟨.ref s.heap.objs.size,_,I.laid (t':=s.toks) (o:=.lst (zf1 xs lo hi)) (fun b ob q=>qd _ q) (qf _) ?_,rfl,q _ (I.hok.fresh (qf _))⟩
  exact⟨qX (zh3 xs lo hi) hz,_,0,(r.drop (HT.sIx xs.length 0 lo)).take (HT.sIx xs.length xs.length hi-HT.sIx xs.length 0 lo),qr _ rfl⟩
theorem zlZ:YF X (.builtin "len") (fun xs H Q=>∃ p ys,xs=[.ref p]/\(Zo X.K H p ys\/ZF X.K H p ys)/\Q (.int ys.length) H):=by
  intro Z9 s U H xs us Q I r h
  obtain⟨p,ys,rfl,hq,q⟩:=h
  obtain⟨u,rfl,rx⟩:=vals1 r
  cases rx
  have hn:=zfD
  rcases hq with hq | hq
  . obtain⟨its,r',pl,hz⟩:=I.list hq
    have hlen:=r'.length
    exact Calls.call_len_list pl.isList (by simp only [qm]<;>lia) ⟨.int ys.length,H,I.tok _,⟨s.toks+1,by rw [qm,hlen]⟩,q⟩
  . obtain⟨its,r',pl,hz⟩:=I.tuple hq
    have hlen:=r'.length
    exact len_tuple pl (by simp only [qm]<;>lia) ⟨.int ys.length,H,I.tok _,⟨s.toks+1,by rw [qm,hlen]⟩,q⟩
theorem zmk:YF X (.builtin "len") (fun xs H Q=>∃ z,xs=[.str z]/\z.length<=sizeLine/\Q (.int z.length) H):=by
 intro Z9 s U H xs us Q I r h
 obtain⟨z,rfl,hz,q⟩:=h
 obtain⟨u,rfl,t,rfl⟩:=vals1 r
 have hn:=zfD
 exact len_str (by lia) ⟨.int z.length,H,I.tok _,⟨_,rfl⟩,q⟩
theorem YF.or {f:Value}{r r':List V->Hp->VK->Prop}(h:YF X f r)(h':YF X f r'):YF X f (fun xs H Q=>r xs H Q\/r' xs H Q):=by
 intro Z9 s U H xs us Q I rs q
 rcases q with q | q
 ·exact h Z9 s U H xs us Q I rs q
 ·exact h' Z9 s U H xs us Q I rs q
theorem zll:YF X (.type "list") (fun xs H Q=>∃ p ys,xs=[.ref p]/\(Zo X.K H p ys\/ZF X.K H p ys)/\∀ l,H l=none->Q (.ref l) (upd H l (.lst ys))):=by
  intro Z9 s U H xs us Q I r h
  obtain⟨p,ys,rfl,hq,q⟩:=h
  obtain⟨u,rfl,rx⟩:=vals1 r
  cases rx
  have fin : ∀ (its : List Value), Vals ys its → ys.length ≤ sizeLine → ∀ (h' : Heap) (c' : Nat), (∀ b o', s.heap.get? b = some o' → h'.get? b = some o') →
      h'.get? s.heap.objs.size=some { cls:=.type "list",dict:=none,data:=.seq its.toArray c',slots:=#[] }->EP X Z9 U Q (.ref s.heap.objs.size) { s with heap:=h' }:=fun its r' hz h' c' kp e =>
    ⟨.ref s.heap.objs.size,_,I.laid (t':=s.toks) kp (qf _) (show YZ X.prog X.w _ h' _ (.lst ys) from ⟨hz,its,c',r',e⟩),rfl,q _ (I.hok.fresh (qf _))⟩
  rcases hq with hq | hq
  . obtain⟨its,r',pl,hz⟩:=I.list hq
    have hlen:=r'.length
    obtain⟨o,ho,hc,n,hd⟩:=pl.isList
    exact call_list_seq p (.inl rfl) ho hc hd (fun h' c' kp e=>fin its r' hz h' c' kp e) (by simp only [qm]<;>lia)
  . obtain⟨its,r',pl,hz⟩:=I.tuple hq
    have hlen:=r'.length
    obtain⟨o,ho,hc,n,hd⟩:=pl
    exact call_list_seq p (.inr rfl) ho hc hd (fun h' c' kp e=>fin its r' hz h' c' kp e) (by simp only [qm]<;>lia)
theorem zkR:YF X (.type "tuple") (fun xs H Q=>∃ p ys,xs=[.ref p]/\((Zo X.K H p ys/\∀ l,H l=none->Q (.ref l) (upd H l (.tup ys)))\/(ZF X.K H p ys/\Q (.ref p) H))):=by
  intro Z9 s U H xs us Q I r h
  obtain⟨p,ys,rfl,h⟩:=h
  obtain⟨u,rfl,rx⟩:=vals1 r
  cases rx
  rcases h with ⟨hq,q⟩ | ⟨hq,q⟩
  . obtain⟨its,r',pl,hz⟩:=I.list hq
    have hlen:=r'.length
    refine call_tuple_list pl.isList (fun h' kp=>?_) (by simp only [qm]<;>lia)
    have I1:Inv X Z9 U H { s with heap:=h' }:=I.kept (t':=s.toks) kp
    have I2:Inv X Z9 U (upd H h'.objs.size (.tup ys)) { s with heap:=h'.push { cls:=.type "tuple",data:=.seq its.toArray } } :=
      I1.laid (t':=s.toks) (fun b o e=>qd _ e) (qf _) (show YZ X.prog X.w _ _ _ (.tup ys) from ⟨hz,its,r',IsTup.new _ _⟩)
    exact⟨.ref h'.objs.size,_,I2,rfl,q _ (I1.hok.fresh (qf _))⟩
  . obtain⟨its,r',pl,hz⟩:=I.tuple hq
    exact call_tuple_same pl ⟨.ref p,H,I,rfl,q⟩
def tyV (K:PySem.W.Frag)(T:String)(x:V)(H:Hp):Prop:=match x with
 | .str _=>T="str"
 | .int _=>T="int"
 | .ref p=>(T="list"/\∃ xs,Zo K H p xs)\/(T="tuple"/\∃ o,K.lookup p=some o/\o.cls=.type "tuple"/\o.dict=none) \/
   (T="dict"/\((∃ Z6,H p=some (.dK Z6))\/∃ Z6,H p=some (.dT Z6)))\/(T="set"/\∃ S n,H p=some (.set S n))
 | _=>False
theorem zvY {Z9:List (Addr×Obj)}{U:St}{H:Hp}{s:Shared}{T:String}{x:V}{v:Value}(I:Inv X Z9 U H s)(r:RelV x v)(ty:tyV X.K T x H) :
  s.TypeIs v T/\∀ a,v=.ref a->∃ ob,s.heap.get? a=some ob/\ob.dict=none:=by
 cases x with
 | str z =>
  obtain⟨t,rfl⟩:=r
  cases (show T="str" from ty)
  exact⟨typeIs_str s z t,fun _ e=>nomatch e⟩
 | int i =>
  obtain⟨t,rfl⟩:=r
  cases (show T="int" from ty)
  exact⟨typeIs_int s i t,fun _ e=>nomatch e⟩
 | ref p =>
  cases r
  rcases ty with ⟨rfl,xs,hq⟩ | ⟨rfl,o,hk,hc,hd⟩ | ⟨rfl,hk⟩ | ⟨rfl,S,n,hk⟩
  ·obtain⟨its,_,pl,_⟩:=I.list hq
   refine⟨pl.isList.typeIs,fun a e=>?_⟩
   cases e
   obtain⟨o,n,e,c,hd,_⟩:=pl
   exact⟨o,e,hd⟩
  ·refine⟨⟨o,I.kIn p o hk,hc⟩,fun a e=>?_⟩
   cases e
   exact⟨o,I.kIn _ o hk,hd⟩
  ·have z:∃ o,s.heap.get? p=some o/\o.ExactDict:=by
    rcases hk with ⟨Z6,hk⟩ | ⟨Z6,hk⟩
    ·obtain⟨_,_,_,_,o,_,_,e,ex,_⟩:=I.hok p _ hk
     exact⟨o,e,ex⟩
    ·obtain⟨_,_,_,_,o,_,_,e,ex,_⟩:=I.hok p _ hk
     exact⟨o,e,ex⟩
   obtain⟨o,e,ex⟩:=z
   refine⟨⟨o,e,ex.1⟩,fun a e2=>?_⟩
   cases e2
   exact⟨o,e,ex.2.1⟩
  ·obtain⟨o,_,_,_,e,ex,_⟩:=I.hok p _ hk
   refine⟨⟨o,e,ex.1⟩,fun a e2=>?_⟩
   cases e2
   exact⟨o,e,ex.2.1⟩
 | _=>exact False.elim ty
def tBM (K:PySem.W.Frag)(T:String)(r:V->List V->Hp->VK->Prop)(to:TE)(t:TA):TE:=fun U H Q=>to U H fun x H1=>tyV K T x H1/\t U H1 fun xs H2=>r x xs H2 Q
variable {o e:Expr}{es:List Expr}{to:TE}{t:TA}{name:Str}{apos cpos:Pos}{T id:String}{r:V->List V->Hp->VK->Prop}
theorem zxe (pa:PlainAttrs T)(slot:Slot T name id)(hty:typeOf (.builtin id)=pure (.type "method_descriptor"))(hm:MtR X id r)(ho:PE X o to)(ha:PA X (e::es) t)
    (hbase:attributeBase o name X.env (eval o X.env)=eval o X.env:=by rfl)
    (hfew:((backTo cpos (starEach (e::es) X.env)).all (fun x=>!x.1)&&(backToKw cpos (keywordEach [] X.env)).all (fun x=>x.1.isSome)
     &&decide ((e::es).length+([]:List Keyword).length+(if ([]:List Keyword).isEmpty then 0 else 1)<30))=true:=by rfl)
    (hline:(apos.endLine==cpos.line)=true:=by rfl) (hs:starEach (e::es) X.env=(false,eval e X.env)::starEach es X.env:=by rfl) (hplain:(backTo cpos (starEach es X.env)).any (·.1)=false:=by rfl) :
    PE X (.Call (.Attribute o name apos) (e::es) [] cpos) (tBM X.K T r to t):=by
  intro Z9 s U H Q I h
  refine wpAny_Call_method_late hbase hfew hline rfl (Z0 (ho Z9 s U H _ I h) fun v s1 ⟨x,H1,I1,r1,ty,q1⟩=>?_)
  obtain⟨h1,h2⟩:=zvY I1 r1 ty
  refine⟨T,id,pa,slot,hty,h1,h2,?_⟩
  have hA:=ha cpos Z9 s1 U H1 _ I1 q1
  rw [hs] at hA ⊢
  refine Calls.callWith_builtin (by show (false||(backTo cpos (starEach es X.env)).any (·.1))=false;rw [hplain]<;>rfl) (Calls.evalArgs_plain ?_)
  exact Z0 hA fun us s2 ⟨vs,H2,I2,r2,q2⟩=>hm Z9 s2 U H2 x vs v us Q I2 r1 r2 q2
/- xs.append(e),list.index on a module's tuple .. are MtR facts of 06m -/
end
def MtM (X:Cx)(id:String)(r:V->List V->Hp->VK->Prop):Prop :=
 ∀ (Z9:List (Addr×Obj)) (s:Shared) (U:St) (H:Hp) (x:V) (xs:List V) (v:Value) (us:List Value) (Q:VK),Inv X Z9 U H s->RelV x v->Vals xs us->r x xs H Q ->
  wpAny (model X.prog X.w) X.A (call (.builtin id) (v::us)) (EP X Z9 U Q) X.xe s
theorem Vals.one:∀ {x:V} {us:List Value},Vals [x] us->∃ u,us=[u]/\RelV x u
 | _,_,.cons r .nil=>⟨_,rfl,r⟩
theorem Vals.eraseIdx:∀ {xs:List V} {us:List Value} (i:Nat),Vals xs us->Vals (xs.eraseIdx i) (us.eraseIdx i)
 | _,_,_,.nil=>.nil
 | _,_,0,.cons _ t=>t
 | _,_,i+1,.cons r t=>.cons r (Vals.eraseIdx i t)
theorem zkj {α:Type}:∀ (l:List α) (i:Nat),(l.eraseIdx i).length<=l.length
 | [],_=>qf _
 | _::_,0=>qa4 _
 | _::r,i+1=>Nat.succ_le_succ (zkj r i)
section
variable {X:Cx}{Z9:List (Addr×Obj)}{U:St}{H:Hp}{s:Shared}{l b:Addr}{xs ys zs:List V}
theorem Inv.lset {its its':List Value}{n:Nat}{f:Array Value->Array Value}{t':Nat}(I:Inv X Z9 U H s)(hH:H l=some (.lst xs))
  (e:s.heap.get? l=some { cls:=.type "list",data:=.seq its.toArray n }) (hf:f its.toArray=its'.toArray) (hv:Vals ys its') (hz:ys.length<=sizeLine) :
  Inv X Z9 U (upd H l (.lst ys)) { s with heap:=s.heap.update l (Obj.mapSeq f),toks:=t' }:=by
 have q:=PySem.IsL.update e f
 rw [hf] at q
 refine I.write (x:=l) (e:=l) (by rw [hH];exact trivial) (.inl rfl) (fun b' u hb hu=>(Heap.get?_update_other s.heap (Obj.mapSeq f) (Ne.symm hb)).trans hu) ⟨_,q⟩ ?_
 exact⟨hz,its',_,hv,q⟩
theorem Inv.lnew {its:List Value}{t':Nat}(I:Inv X Z9 U H s)(hv:Vals ys its)(hz:ys.length<=sizeLine) :
  Inv X Z9 U (upd H s.heap.objs.size (.lst ys)) { s with heap:=s.heap.push { cls:=.type "list",data:=.seq its.toArray },toks:=t' } :=
 I.laid (fun _ _ q=>qd _ q) (qf _) ⟨hz,its,0,hv,qr _ rfl⟩
theorem Inv.fresh (I:Inv X Z9 U H s):H s.heap.objs.size=none:=I.hok.fresh (qf _)
theorem Inv.lstM (I:Inv X Z9 U H s)(hH:H l=some (.lst xs)):xs.length<=sizeLine/\∃ (its:List Value) (n:Nat),Vals xs its/\xs.length=its.length/\s.heap.get? l=some { cls:=.type "list",data:=.seq its.toArray n }:=by
 obtain⟨z,its,n,r,e⟩:=I.hok l _ hH
 exact⟨z,its,n,r,r.length,e⟩
theorem zlh {n:Nat}(h:n<=sizeLine):Builtin.List.listTooLong n=false:=by
 unfold Builtin.List.listTooLong
 exact decide_eq_false (by lia)
end
section
variable {X:Cx}
def zmY:V->List V->Hp->VK->Prop:=fun x vs H Q=>∃ l xs y,x=.ref l/\vs=[y]/\H l=some (.lst xs)/\xs.length<sizeLine/\Q .non (upd H l (.lst (xs++[y])))
theorem zkx:MtM X "list.append" zmY:=by
 intro Z9 s U H x vs v us Q I rx rv h
 obtain⟨l,xs,y,rfl,rfl,hH,hz,q⟩:=h
 cases rx
 obtain⟨u,rfl,ru⟩:=rv.one
 obtain⟨z,its,n,r,hl,e⟩:=I.lstM hH
 refine call_meets F.slot_list_append ⟨_,e,rfl⟩ F.entry_list_append (F.args_list_append_2 _ _) (PySem.list_append l its.toArray n u (by rw [qm];lia)) ⟨e,?_⟩
 refine⟨.non,_,I.lset (its':=its++[u]) hH e (by simp) (r.append (.cons ru .nil)) ?_,rfl,q⟩
 rw [qh,List.length_singleton]
 lia
def znj:V->List V->Hp->VK->Prop:=fun x vs H Q=>∃ l b xs zs,x=.ref l/\vs=[.ref b]/\H l=some (.lst xs)/\H b=some (.lst zs)/\xs.length+zs.length<=sizeLine/\Q .non (upd H l (.lst (xs++zs)))
theorem zqe:MtM X "list.extend" znj:=by
 intro Z9 s U H x vs v us Q I rx rv h
 obtain⟨l,b,xs,zs,rfl,rfl,hH,hB,hz,q⟩:=h
 cases rx
 obtain⟨u,rfl,ru⟩:=rv.one
 cases ru
 obtain⟨z,its,n,r,hl,e⟩:=I.lstM hH
 obtain⟨z2,its2,n2,r2,hl2,e2⟩:=I.lstM hB
 have hsz:its.toArray.size+its2.toArray.size<=sizeLine:=by rw [qm,qm];lia
 have hlong:¬ (!its.toArray.isEmpty&&Builtin.List.listTooLong (its.toArray.size+its2.toArray.size))=true:=by
  rw [zlh hsz,Bool.and_false]
  exact qu
 refine call_meets F.slot_list_extend ⟨_,e,rfl⟩ F.entry_list_extend (F.args_list_extend_2 _ _)
  (AutoSeq1.list_extend_list_list_0 l its.toArray n b its2.toArray n2 hlong (by rw [qm];lia) (by lia)) ⟨e,e2,?_⟩
 refine⟨.non,_,I.lset (its':=its++its2) hH e (by simp) (r.append r2) ?_,rfl,q⟩
 rw [qh]
 lia
def zvw:V->List V->Hp->VK->Prop:=fun x vs H Q=>∃ l xs i k y,x=.ref l/\vs=[.int i]/\H l=some (.lst xs)/\-(2 ^ 63)<=i/\i<2 ^ 63/\seqIndex? i xs.length=some k/\xs[k]?=some y/\Q y (upd H l (.lst (xs.eraseIdx k)))
theorem zrn:MtM X "list.pop" zvw:=by
 intro Z9 s U H x vs v us Q I rx rv h
 obtain⟨l,xs,i,k,y,rfl,rfl,hH,h1,h2,hk,hy,q⟩:=h
 cases rx
 obtain⟨u,rfl,ru⟩:=rv.one
 obtain⟨t,rfl⟩:=ru
 obtain⟨z,its,n,r,hl,e⟩:=I.lstM hH
 obtain⟨w,hw,rw'⟩:=r.get hy
 refine call_meets F.slot_list_pop ⟨_,e,rfl⟩ F.entry_list_pop (F.args_list_pop_2 _ _)
  (MeetsSeq.list_pop_at l its.toArray n i t k w (fitsIndex_both h1 h2) (by rw [qm,<- hl];exact hk) (by rw [<- qau];exact hw) (by rw [qm];lia)) ⟨e,?_⟩
 refine⟨y,_,I.lset (its':=its.eraseIdx k) hH e ?_ (r.eraseIdx k) ?_,rw',q⟩
 ·show its.toArray.eraseIdxIfInBounds k=(its.eraseIdx k).toArray
  rw [List.eraseIdxIfInBounds_toArray]
 ·have:=zkj xs k
  lia
end
section
variable {prog:Program}{w:World}{A:Around}{E:Value->Shared->Prop}{s:Shared}
end
section
variable {X:Cx}
end
end L2
namespace Att
open PySem PySem.W PySem.Calls PyProof.Rows
theorem zjk {P:Params}{h:Heap}:∀ (ns:List Int) (vs:List Value),WellAll P h vs (ns.map WData.int)->IntsAre vs ns:=by
 intro ns
 induction ns with
 | nil =>
  intro vs w
  rw [qbh] at w
  cases w
  exact .nil
 | cons n ns ih =>
  intro vs w
  rw [qI] at w
  cases w with
  | cons a b =>
   cases a
   exact .cons _ _ (ih _ b)
theorem zqh {l:OpenLaw}{n:Nat}(hn:l.most=some n){P:Params}{h:Heap}{args:List WData}{vals:List Value}
  (hpre:l.row.toRowW.claim.pre args=true) (hwl:WellAll P h vals args) :
  ∃ a vs ns,vals=[Value.ref a]/\args=[WData.list (ns.map WData.int)]/\h.get? a=some { cls:=.type "list",data:=.seq vs.toArray }/\IntsAre vs ns/\ns.length<=n:=by
 have hsh:WShape.hasAll [] args [.list .int]=true:=(pre_splitW hpre).1
 have hc:l.pre.holds [] { args:=args }=true:=(pre_splitW hpre).2
 obtain⟨d,r,rfl,h1,h2⟩:=hasAllW_cons hsh
 obtain rfl:=hasAllW_nil h2
 obtain⟨xs,rfl,h3⟩:=hasW_list h1
 obtain⟨ns,rfl⟩:=items_int h3
 have hlen:ns.length<=n:=by
  unfold OpenLaw.pre at hc
  have h4:(WTm.not (.lt (.lit (.int (n:Int))) (.len (.arg 0)))).holds [] { args:=[.list (ns.map .int)] }=true:=by
   have h4:=(holds_andW hc).1
   rw [hn] at h4
   exact h4
  have h5:=condW_of h4 (w_not (w_lt w_lit (w_len_list (w_arg rfl))))
  rw [qb] at h5
  refine qaF fun q=>?_
  have q':(n:Int)<((ns.length:Nat):Int):=by lia
  first
   | (rw [decide_eq_true q'] at h5;exact absurd h5 (by decide))
   | (simp at h5;lia)
 cases hwl with
 | cons w1 w2 =>
  cases w2
  cases w1 with
  | list ho hall=>exact⟨_,_,ns,rfl,rfl,ho,zjk ns _ hall,hlen⟩
theorem zp8 (l:OpenLaw)(args:List WData):l.row.toRowW.claim.post args (.bool true) args=true :=
 postW_of (r:=l.row.toRowW) (X:=(true==true))
  (show WShape.has [] (.bool true) .bool=true by first | rfl | decide | simp [WShape.has,WShape.arms,WShape.armsAll])
  (show (WTm.eq .res (.lit (.bool true))).value [] { args:=args,res:=some (.bool true),after:=args }=some (.bool (true==true)) from w_eq_bool (w_res rfl) w_lit) rfl
section
variable {prog:Program}{w:World}{A:Around}{E:Value->Shared->Prop}{s:Shared}{K:Frag}
end
end Att
namespace L2
open PySem PySem.Spec PyProof.Rows
theorem zj7:∀ {vs:List Value} {ns:List Int},IntsAre vs ns->Vals (ns.map V.int) vs
 | _,_,.nil=>.nil
 | _,_,.cons n t h=>.cons ⟨t,rfl⟩ (zj7 h)
def Only (H:Hp):Prop:=∀ b,H b=none\/∃ o xs,H b=some (.frz o (.lst xs))
theorem zrs {P:Program}{w:World}{K:PySem.W.Frag}{mg mb:Str->Option Value}{CX:CXT}{k:Nat}{fa a:Addr}{fd:FuncData}{x:Str}{sp:Sp}{s₁:Shared}{vs:List Value}{ns:List Int}
  (KX:K.In s₁.heap) (hns:s₁.heap.Ns mainGlobals mg) (hb:s₁.heap.Ns builtinsNs mb) (hbb:∀ x:Str,x≠"__name__"->mb x=bootBuiltins x) (hlim:s₁.heap.NoLimit) (hg:s₁.gens=#[])
  (ha:s₁.heap.get? a=some { cls:=.type "list",data:=.seq vs.toArray }) (hi:IntsAre vs ns) (hl:ns.length<=sizeLine) (hr:Zg k callerA)
  (F:∀ base:Heap,K.In base->base.Ns mainGlobals mg->zQ P w K mg base CX k fa fd [x] sp) (hbind:∀ (s:Shared) (u:Value),BindsTo s fd ⟨[u],[]⟩ [(x,u)])
  (hsp:∀ H:Hp,Only H->Zo K H a (ns.map V.int)->sp [.ref a] H (fun v _=>v=.bl true) fun _ _ _=>False)
  (hCX:∀ H e s',CX [] H s₁ (fun _ _ _=>False) e s'->False) :
  codeAny (model P w) callerA (.call (.ref fa) ⟨[.ref a],[]⟩) (fun r s'=>r=.ok (.ret (.bool true))/\OldK s₁.heap s'.heap/\s'.os=s₁.os/\AllBare s'.gens) s₁:=by
 have rv:=zj7 hi
 have lenV:=hi.length
 have core:∀ H:Hp,Only H->Zo K H a (ns.map V.int)->Ze P w H s₁.heap->(∀ b,H b≠none->b=a)->(H a≠none->K.lookup a=none) ->
   codeAny (model P w) callerA (.call (.ref fa) ⟨[.ref a],[]⟩) (fun r s'=>r=.ok (.ret (.bool true))/\OldK s₁.heap s'.heap/\s'.os=s₁.os/\AllBare s'.gens) s₁:=by
  intro H hO hS hok hA hK
  have base_of:∀ {b:Addr} {o:Obj},s₁.heap.get? b=some o->H b=none->(zgf s₁.heap H).get? b=some o:=fun e n=>zqV e n
  have noA:∀ {b:Addr} {o:Obj} {es:Array DictEntry} {ep:Nat},s₁.heap.get? b=some o->o.data=.dict es ep->H b=none:=fun {b o es ep} e d=>by
   cases q:H b with
   | none=>rfl
   | some u =>
    have e':b=a:=hA b (by rw [q];simp)
    subst e'
    rw [ha] at e;cases e
    have d':Data.seq vs.toArray _=Data.dict es ep:=d
    cases d'
  have nsK:∀ {b:Addr} {m:Str->Option Value},s₁.heap.Ns b m->(zgf s₁.heap H).Ns b m:=fun {b m} ⟨o,es,ep,e,d,r⟩=>⟨o,es,ep,base_of e (noA e d),d,r⟩
  have hKb:K.In (zgf s₁.heap H):=fun b o e=>base_of (KX b o e) (by
   cases q:H b with
   | none=>rfl
   | some u =>
    have e':b=a:=hA b (by rw [q];simp)
    subst e'
    rw [hK (by rw [q];simp)] at e;cases e)
  have hM:Mod K mg (zgf s₁.heap H):=⟨hKb,nsK hns,⟨mb,nsK hb,hbb⟩,let ⟨mc,h1,h2⟩:=hlim;⟨mc,nsK h1,h2⟩⟩
  have e0:zig P w K mg (zgf s₁.heap H) callerA [] s₁ H:=⟨rfl,hM,fun b o e=>zs3 e,Nat.le_of_eq (zpf _ _),trivial,fun b hb=>absurd (show b∈([]:List Addr) from hb) (by simp),hok,.of_eq hg⟩
  refine codeAny_mono ((F _ hKb (nsK hns)).run callerA [] s₁ H ⟨[.ref a],[]⟩ [.ref a] [.ref a] _ _ hr e0 (hbind s₁ (.ref a)) (.cons rfl .nil) (hsp H hO hS)) fun r s' h=>?_
  cases r with
  | error e=>exact (hCX H e s' h).elim
  | ok fl =>
   cases fl with
   | next=>exact False.elim h
   | brk=>exact False.elim h
   | cont=>exact False.elim h
   | ret u =>
    obtain⟨v,H',os,bare,un,hok',r',q⟩:=h
    have q':v=.bl true:=q
    subst q'
    obtain rfl:u=Value.bool true:=r'
    refine⟨rfl,OldK.of_keep fun b o e=>?_,os,bare⟩
    cases q:H b with
    | none=>exact un.keep b o e q (by intro z;exact absurd (show b∈([]:List Addr) from z) (by simp)) (by simp)
    | some u =>
     rcases hO b with z | ⟨ob,xs,z⟩
     ·rw [q] at z;cases z
     ·have z2:=un.frzs b ob _ z
      obtain⟨e1,_⟩:=hok b _ z
      obtain⟨e2,_⟩:=hok' b _ z2
      rw [e] at e1;cases e1
      exact e2
 cases hk:K.lookup a with
 | some o =>
  have e:=KX a o hk
  rw [ha] at e
  cases e
  refine core (fun _=>none) (fun _=>.inl rfl) (.inr ⟨_,vs.toArray,_,hk,rfl,rfl,rfl,by rw [qm,lenV];exact hl,by simpa using rv⟩) (fun b u z=>by have z':(none:Option HO)=some u:=z;cases z') (fun b z=>absurd rfl z) fun z=>absurd rfl z
 | none =>
  refine core (fun b=>if b=a then some (.frz { cls:=.type "list",data:=.seq vs.toArray } (.lst (ns.map V.int))) else none) (fun b=>?_) (.inl (.inr ⟨{ cls:=.type "list",data:=.seq vs.toArray },if_pos rfl⟩)) (fun b u z=>?_) (fun b z=>?_) fun _=>hk
  ·by_cases hb:b=a
   ·exact .inr ⟨_,_,if_pos hb⟩
   ·exact .inl (if_neg hb)
  ·by_cases hb:b=a
   ·have z':=(if_pos hb).symm.trans z
    cases z'
    subst hb
    exact⟨ha,by rw [qb];exact hl,vs,_,rv,ha⟩
   ·have z':=(if_neg hb).symm.trans z
    cases z'
  ·by_cases hb:b=a
   ·exact hb
   ·exact absurd (if_neg hb) z
def inClass (s:Stmt)(j:Nat):Stmt:=match s with
 | .ClassDef _ _ _ body _ _ _ _ _ _ _=>body.getD j (.Pass ⟨0,0,0,0⟩)
 | _=>.Pass ⟨0,0,0,0⟩
def zbI (s:Stmt):Arguments:=match s with
 | .FunctionDef _ a _ _ _ _ _ _ _ _=>a
 | _=>{ posonlyargs:=[],args:=[],vararg:=none,kwonlyargs:=[],kw_defaults:=[],kwarg:=none,defaults:=[] }
def Xc (s:Stmt):List Stmt:=match s with
 | .FunctionDef _ _ b _ _ _ _ _ _ _=>b
 | _=>[]
def Za (s:Stmt):Scope:=match s with
 | .FunctionDef _ _ _ _ _ _ sc _ _ _=>sc
 | _=>{ kind:=.function,names:=[],isGenerator:=false,isCoroutine:=false }
abbrev ZR:CXT:=fun _ _ _ _ _ _=>False
abbrev E0:XK:=fun _ _ _=>False
theorem zsu {X:Cx}:Passes ZR X E0:=fun _ _ _ _ _ _ _ h=>h.elim
structure ZV (K:PySem.W.Frag)(x qual:Str)(st:Stmt)(f:Addr)(fd:FuncData):Prop where
 ex:∃ (oc:Value) (od:Option Addr) (kV doc pm:Value) (an:Option Addr) (cdv ct:Value) (osl:Array (Option Value)),
  fd=PySem.W.fnOf x qual (zbI st) (Xc st) (Za st) .none kV doc pm an cdv ct/\K.lookup f=some ⟨oc,od,.func fd,osl⟩/\PySem.W.codeIn K cdv qual=true
 kp:PySem.W.keepIn K (.ref f)=true
section
variable {P:Program}{w:World}{K:PySem.W.Frag}{mg:Str->Option Value}{base:Heap}
theorem ZV.ok {x qual:Str}{st:Stmt}{f:Addr}{fd:FuncData}{N ps:List Str}{k:Nat}{sp:Sp}(F:ZV K x qual st f fd)(S:zc2 N ps (Za st))(len:∀ vs H Q E,sp vs H Q E->vs.length=ps.length)
  (hbody:∀ (cdv:Value) (A:Around) (outer:List Env) (s:Shared) (H:Hp) (vs:List V) (Q:VK) (E:XK),Zg k (A.deeper (envOfC qual (Za st) s.heap.objs.size f cdv))->sp vs H Q E ->
   ∃ t,W0 (Wv ZR P w K mg base N qual (Za st) f cdv A outer s H E).nox (Xc st) t/\t { nx:=fun _ H'=>Q .non H',rt:=Q } (start N vs) H):zQ P w K mg base ZR (k+1) f fd ps sp:=by
 obtain⟨oc,od,kV,doc,pm,an,cdv,ct,osl,rfl,lk,hcd⟩:=F.ex
 refine zsr lk hcd S len fun A outer s H vs Q E hr hsp=>?_
 obtain⟨t,h,q⟩:=hbody cdv A outer s H vs Q E hr hsp
 exact⟨t,h.nox,q⟩
theorem ZV.binds {x qual:Str}{st:Stmt}{f:Addr}{fd:FuncData}{ps:List Str}(F:ZV K x qual st f fd)
  (h:∀ (kV doc pm:Value) (an:Option Addr) (cdv ct:Value) (us:List Value),us.length=ps.length->bindArgs (PySem.W.fnOf x qual (zbI st) (Xc st) (Za st) .none kV doc pm an cdv ct) ⟨us,[]⟩=pure (ps.zip us)):Binds K fd ps []:=by
 obtain⟨oc,od,kV,doc,pm,an,cdv,ct,osl,rfl,lk,hcd⟩:=F.ex
 exact .all (h kV doc pm an cdv ct)
theorem zjx {x qual:Str}{st:Stmt}{f:Addr}{oc:Value}{od an:Option Addr}{osl:Array (Option Value)}{kV doc pm cdv ct:Value}(l:K.lookup f=some ⟨oc,od,.func (PySem.W.fnOf x qual (zbI st) (Xc st) (Za st) .none kV doc pm an cdv ct),osl⟩)
  (c:PySem.W.codeIn K cdv qual=true) (k:PySem.W.keepIn K (.ref f)=true):ZV K x qual st f (PySem.W.fnOf x qual (zbI st) (Xc st) (Za st) .none kV doc pm an cdv ct):=⟨⟨oc,od,kV,doc,pm,an,cdv,ct,osl,rfl,l,c⟩,k⟩
end
theorem zsB {A:Around}{k:Nat}(hr:Zg k A):A.units+1<cLine:=Nat.lt_of_le_of_lt (Nat.add_le_add_left (by decide:1<=64) _) hr.units
section
variable {X:Cx}
end
section
variable {κ:Type}[DecidableEq κ]
def W7 (Z6:List (κ×V))(k:κ):Option V:=(Z6.find? fun kv=>decide (kv.1=k)).map (·.2)
def putK (Z6:List (κ×V))(k:κ)(v:V):List (κ×V) :=
 if (Z6.any fun kv=>decide (kv.1=k))=true then Z6.map (fun kv=>if kv.1=k then (kv.1,v) else kv) else Z6++[(k,v)]
theorem zk7 {k:κ}:W7 ([]:List (κ×V)) k=none:=rfl
theorem zeQ {p:κ×V}{r:List (κ×V)}{k:κ}(e:p.1=k):W7 (p::r) k=some p.2:=by simp [W7,List.find?_cons,e]
theorem ze3 {p:κ×V}{r:List (κ×V)}{k:κ}(e:¬ p.1=k):W7 (p::r) k=W7 r k:=by simp [W7,List.find?_cons,e]
theorem zgd (k:κ):∀ Z6:List (κ×V),(Z6.any fun kv=>decide (kv.1=k))=(W7 Z6 k).isSome
 | []=>rfl
 | p::r=>by
  rw [qaN]
  by_cases e:p.1=k
  ·simp only [zeQ e,decide_eq_true e,Bool.true_or,Option.isSome_some]
  ·rw [ze3 e,decide_eq_false e,Bool.false_or];exact zgd k r
theorem zh0 (Z6:List (κ×V))(k:κ)(v:V):(putK Z6 k v).length<=Z6.length+1:=by
 unfold putK
 split
 ·rw [qb];lia
 ·rw [qh,qQ,List.length_nil];lia
theorem Wh.isSome_eq {o:Option V}{u:Option Value}(r:Wh o u):o.isSome=u.isSome:=by
 cases o with
 | none=>cases u with
  | none=>rfl
  | some _=>exact (show False from r).elim
 | some _=>cases u with
  | none=>exact (show False from r).elim
  | some _=>rfl
theorem KV.val {Z6:List (κ×V)}{vs:List (κ×Value)}(r:KV Z6 vs)(k:κ):Wh (W7 Z6 k) (valueAt vs k):=by
 unfold KV at r
 induction r with
 | nil=>exact True.intro
 | @cons p q ps qs h t ih =>
  obtain⟨h1,h2⟩:=h
  by_cases e:p.1=k
  ·have e':q.1=k:=h1.symm.trans e
   have b:valueAt (q::qs) k=some q.2:=by simp [valueAt,List.find?_cons,e']
   rw [zeQ e,b];exact h2
  ·have e':¬ q.1=k:=fun z=>e (h1.trans z)
   have b:valueAt (q::qs) k=valueAt qs k:=by simp [valueAt,List.find?_cons,e']
   rw [ze3 e,b];exact ih
theorem KV.any {Z6:List (κ×V)}{vs:List (κ×Value)}(r:KV Z6 vs)(k:κ):(Z6.any fun kv=>decide (kv.1=k))=vs.any fun kv=>decide (kv.1=k):=by
 unfold KV at r
 induction r with
 | nil=>rfl
 | cons h t ih=>rw [qaN,qaN,ih,h.1]
theorem KV.repl {Z6:List (κ×V)}{vs:List (κ×Value)}(r:KV Z6 vs)(k:κ){y:V}{u:Value}(ry:RelV y u) :
  KV (Z6.map fun kv=>if kv.1=k then (kv.1,y) else kv) (vs.map fun kv=>if kv.1=k then (kv.1,u) else kv):=by
 unfold KV at r ⊢
 induction r with
 | nil=>exact .nil
 | @cons p q ps qs h t ih =>
  rw [qI,qI]
  refine .cons ?_ ih
  obtain⟨h1,h2⟩:=h
  by_cases e:p.1=k
  ·rw [if_pos e,if_pos (h1.symm.trans e)];exact⟨h1,ry⟩
  ·rw [if_neg e,if_neg (fun z=>e (h1.trans z))];exact⟨h1,h2⟩
theorem KV.put {Z6:List (κ×V)}{vs:List (κ×Value)}(r:KV Z6 vs)(k:κ){y:V}{u:Value}(ry:RelV y u):KV (putK Z6 k y) (stored vs k u):=by
 unfold putK stored
 rw [r.any k]
 by_cases e:(vs.any fun kv=>decide (kv.1=k))=true
 ·rw [if_pos e,if_pos e];exact r.repl k ry
 ·rw [if_neg e,if_neg e];exact Paired.snoc r ⟨rfl,ry⟩
theorem KV.length {Z6:List (κ×V)}{vs:List (κ×Value)}(r:KV Z6 vs):Z6.length=vs.length:=Paired.length r
end
theorem zoT {P:Program}{w:World}{k:Key}{u:Value}(r:RelV (kV k) u):(zbu P w).is k u=true:=by
 cases k with
 | inl i=>obtain⟨t,e⟩:=(show ∃ t,u=Value.int i t from r);subst e;exact zmK P w i t
 | inr x=>obtain⟨t,e⟩:=(show ∃ t,u=Value.str x t from r);subst e;exact zmI P w x t
theorem zke {P:Program}{w:World}:∀ {ks:List Key} {us:List Value},Vals (ks.map kV) us->ItemsAre (zbu P w) ks us
 | [],_,r=>by rw [qbh] at r;cases r;exact .nil
 | k::ks,_,r=>by
  rw [qI] at r
  cases r with
  | cons h t=>exact .cons (zoT h) (zke t)
abbrev KT (H:Hp):List (List Key×V)->List (List Key×Addr×Value)->Prop:=Paired fun p q=>p.1=q.1/\H q.2.1=some (.tup (p.1.map kV))/\RelV p.2 q.2.2
theorem KT.val {H:Hp}{Z6:List (List Key×V)}{xs:List (List Key×Addr×Value)}(r:KT H Z6 xs)(k:List Key):Wh (W7 Z6 k) ((atKey xs k).map (·.2)):=by
 induction r with
 | nil=>exact True.intro
 | @cons p q ps qs h t ih =>
  obtain⟨h1,_,h2⟩:=h
  by_cases e:p.1=k
  ·have e':q.1=k:=h1.symm.trans e
   have b:atKey (q::qs) k=some q.2:=by simp [atKey,List.find?_cons,e']
   rw [zeQ e,b];exact h2
  ·have e':¬ q.1=k:=fun z=>e (h1.trans z)
   have b:atKey (q::qs) k=atKey qs k:=by simp [atKey,List.find?_cons,e']
   rw [ze3 e,b];exact ih
theorem KT.repl {H:Hp}{Z6:List (List Key×V)}{xs:List (List Key×Addr×Value)}(r:KT H Z6 xs)(k:List Key){y:V}{u:Value}(ry:RelV y u) :
  KT H (Z6.map fun kv=>if kv.1=k then (kv.1,y) else kv) (xs.map (putAt k u)):=by
 induction r with
 | nil=>exact .nil
 | @cons p q ps qs h t ih =>
  rw [qI,qI]
  refine .cons ?_ ih
  obtain⟨h1,h2,h3⟩:=h
  unfold putAt
  by_cases e:p.1=k
  ·rw [if_pos e,if_pos (h1.symm.trans e)];exact⟨h1,h2,ry⟩
  ·rw [if_neg e,if_neg (fun z=>e (h1.trans z))];exact⟨h1,h2,h3⟩
theorem KT.put {H:Hp}{Z6:List (List Key×V)}{xs:List (List Key×Addr×Value)}(r:KT H Z6 xs)(k:List Key){b:Addr}{y:V}{u:Value}(hb:H b=some (.tup (k.map kV)))(ry:RelV y u) :
  KT H (putK Z6 k y) (storedH xs k b u):=by
 have e:(Z6.any fun kv=>decide (kv.1=k))=(atKey xs k).isSome:=by
  rw [zgd,(r.val k).isSome_eq,Option.isSome_map]
 unfold putK storedH
 rw [e]
 by_cases q:(atKey xs k).isSome=true
 ·rw [if_pos q,if_pos q];exact r.repl k ry
 ·rw [if_neg q,if_neg q];exact Paired.snoc r ⟨rfl,hb,ry⟩
theorem KT.keeps {H H':Hp}{Z6:List (List Key×V)}{xs:List (List Key×Addr×Value)}(r:KT H Z6 xs)(ht:∀ b ys,H b=some (.tup ys)->H' b=some (.tup ys)):KT H' Z6 xs :=
 Paired.mapP r fun _ _ z=>⟨z.1,ht _ _ z.2.1,z.2.2⟩
section
variable {P:Program}{w:World}{H:Hp}{h:Heap}{a:Addr}
theorem zsJ {u:HO}(ok:Ze P w H h)(e:Rd H a u):YZ P w H h a u:=e.ok ok
theorem zn1 {Z6:List (Key×V)}(ok:Ze P w H h)(e:Rd H a (.dK Z6)):Z6.length<=sizeLine/\(a==sysModules)=false/\∃ vs,KV Z6 vs/\h.DictOf (zbu P w) a vs :=
 show YZ P w H h a (.dK Z6) from zsJ ok e
theorem zxN {Z6:List (Key×V)}(ok:Ze P w H h)(e:H a=some (.dK Z6)):Z6.length<=sizeLine/\(a==sysModules)=false/\∃ vs,KV Z6 vs/\h.DictOf (zbu P w) a vs:=zn1 ok (.inl e)
theorem zmg {ks:List Key}(ok:Ze P w H h)(e:H a=some (.tup (ks.map kV))):(tupleKind (zbu P w)).is h ks a:=by
 obtain⟨_,its,r,o,h1,h2,n,h3⟩:=(show YZ P w H h a (.tup (ks.map kV)) from ok a _ e)
 exact⟨o,its.toArray,n,h1,h2,h3,by simpa using zke r⟩
theorem zn7 {Z6:List (List Key×V)}(ok:Ze P w H h)(e:Rd H a (.dT Z6)):Z6.length<=sizeLine/\(a==sysModules)=false /\
  ∃ xs,KT H Z6 xs/\h.DictOfH (tupleKind (zbu P w)) a xs:=by
 obtain⟨z,y,xs,r,o,es,ep,h1,h2,h3,h4,h5⟩:=(show YZ P w H h a (.dT Z6) from zsJ ok e)
 refine⟨z,y,xs,r,o,es,ep,h1,h2,h3,h4,fun x hx=>?_,h5⟩
 have all:∀ {l:List (List Key×V)} {m:List (List Key×Addr×Value)},KT H l m->∀ x∈m,(tupleKind (zbu P w)).is h x.1 x.2.1:=by
  intro l m q
  induction q with
  | nil=>intro x hx;exact nomatch hx
  | @cons p q ps qs hq t ih =>
   intro x hx
   rcases qg.mp hx with e | hx
   ·subst e
    exact zmg ok (by rw [<- hq.1];exact hq.2.1)
   ·exact ih x hx
 exact all r x hx
theorem zwW {Z6:List (List Key×V)}(ok:Ze P w H h)(e:H a=some (.dT Z6)):Z6.length<=sizeLine/\(a==sysModules)=false /\
  ∃ xs,KT H Z6 xs/\h.DictOfH (tupleKind (zbu P w)) a xs:=zn7 ok (.inl e)
end
def zfp (H:Hp)(a:Addr)(y:V)(r:Option V):Prop :=
 (∃ Z6 k,Rd H a (.dK Z6)/\y=kV k/\r=W7 Z6 k)\/∃ Z6 k b,Rd H a (.dT Z6)/\y=.ref b/\H b=some (.tup (k.map kV))/\r=W7 Z6 k
def zgU (H:Hp)(a:Addr)(y v:V)(H':Hp):Prop :=
 (∃ Z6 k,H a=some (.dK Z6)/\y=kV k/\Z6.length<sizeLine/\H'=upd H a (.dK (putK Z6 k v))) \/
 ∃ Z6 k b,H a=some (.dT Z6)/\y=.ref b/\H b=some (.tup (k.map kV))/\Z6.length<sizeLine/\H'=upd H a (.dT (putK Z6 k v))
theorem zfp.k {H:Hp}{a:Addr}{Z6:List (Key×V)}{k:Key}(e:H a=some (.dK Z6)):zfp H a (kV k) (W7 Z6 k):=.inl ⟨Z6,k,.inl e,rfl,rfl⟩
theorem zfp.t {H:Hp}{a b:Addr}{Z6:List (List Key×V)}{k:List Key}(e:H a=some (.dT Z6))(eb:H b=some (.tup (k.map kV))):zfp H a (.ref b) (W7 Z6 k):=.inr ⟨Z6,k,b,.inl e,rfl,eb,rfl⟩
theorem zgU.k {H:Hp}{a:Addr}{Z6:List (Key×V)}{k:Key}{v:V}(e:H a=some (.dK Z6))(hl:Z6.length<sizeLine):zgU H a (kV k) v (upd H a (.dK (putK Z6 k v))):=.inl ⟨Z6,k,e,rfl,hl,rfl⟩
theorem zgU.t {H:Hp}{a b:Addr}{Z6:List (List Key×V)}{k:List Key}{v:V}(e:H a=some (.dT Z6))(eb:H b=some (.tup (k.map kV)))(hl:Z6.length<sizeLine) :
  zgU H a (.ref b) v (upd H a (.dT (putK Z6 k v))):=.inr ⟨Z6,k,b,e,rfl,eb,hl,rfl⟩
section
variable {X:Cx}{Z9:List (Addr×Obj)}{U:St}{H:Hp}{s:Shared}{a:Addr}{y v:V}{u r:Value}{o:Option V}{A:Around}{E:Value->Shared->Prop}
theorem Inv.big (I:Inv X Z9 U H s):sysModules<s.heap.objs.size:=by
 have h:mainGlobals<s.heap.objs.size:=(I.mod.glob.keeps I.bk).lt
 exact Nat.lt_trans (by decide) h
theorem zpR {Q:Value->Shared->Prop}(hu:A.units+1<cLine)(I:Inv X Z9 U H s)(g:zfp H a y (some v))(ry:RelV y u)(h:∀ w' s',Inv X Z9 U H s'->RelV v w'->Q w' s') :
  wpAny (model X.prog X.w) A (getItem (.ref a) u) Q E s:=by
 rcases g with ⟨Z6,k,e,ey,l⟩ | ⟨Z6,k,b,e,ey,eb,l⟩
 ·subst ey
  obtain⟨z,hd,vs,rel,dd⟩:=zn1 I.hok e
  obtain⟨w',hw,rw'⟩:=Wh.some_of (v:=v) (o:=valueAt vs k) (by rw [l];exact rel.val k)
  exact wpAny_getItem_of (zoT ry) dd.mapOf hw (h w' _ (I.tok _) rw')
 ·subst ey
  cases (show u=Value.ref b from ry)
  obtain⟨z,hd,xs,rel,dd⟩:=zn7 I.hok e
  obtain⟨w',hw,rw'⟩:=Wh.some_of (v:=v) (o:=(atKey xs k).map (·.2)) (by rw [l];exact rel.val k)
  obtain⟨p,hp,hp2⟩:=Option.map_eq_some_iff.mp hw
  refine wpAny_getItem_heap (tupleKind_room_in1 hu) (zmg I.hok eb) dd hp ?_
  rw [hp2]
  exact h w' _ (I.tok _) rw'
theorem znI {h':Heap}{t':Nat}{ob:HO}(I:Inv X Z9 U H s)(mu:Mut (H a))(hs:Heap.SameBut a s.heap h')(he:∃ q,h'.get? a=some q)(new:YZ X.prog X.w (upd H a ob) h' a ob) :
  Inv X Z9 U (upd H a ob) { s with heap:=h',toks:=t' } :=
 I.write (x:=a) (e:=a) mu (.inl rfl) (fun b q hb z=>(hs.2 b hb).trans z) he new
theorem zvI {P:Program}{w:World}{H':Hp}{h':Heap}{Z6:List (Key×V)}{vs:List (Key×Value)}(z:Z6.length<=sizeLine)(hd:(a==sysModules)=false)(rel:KV Z6 vs)(dd:h'.DictOf (zbu P w) a vs) :
  YZ P w H' h' a (.dK Z6):=⟨z,hd,vs,rel,dd⟩
theorem zqg {H':Hp}{Q:Unit->Shared->Prop}(hu:A.units+1<cLine)(I:Inv X Z9 U H s)(g:zgU H a y v H')(ry:RelV y u)(rv:RelV v r)(h:∀ s',Inv X Z9 U H' s'->Q () s') :
  wpAny (model X.prog X.w) A (setItem (.ref a) u r) Q E s:=by
 rcases g with ⟨Z6,k,e,ey,l,eH⟩ | ⟨Z6,k,b,e,ey,eb,l,eH⟩
 ·subst ey eH
  obtain⟨z,hd,vs,rel,dd⟩:=zxN I.hok e
  have hz:vs.length<=sizeLine:=by rw [<- rel.length];exact z
  have hl:(putK Z6 k v).length<=sizeLine:=by have:=zh0 Z6 k v;lia
  refine wpAny_setItem_pairs (hsz:=hz) (zoT ry) dd fun h' dd' hs=>h _ ?_
  have he:∃ q,h'.get? a=some q:=let ⟨q,_,_,hq,_⟩:=dd';⟨q,hq⟩
  exact znI I (by rw [e];exact True.intro) hs he (zvI hl hd (rel.put k rv) dd')
 ·subst ey eH
  cases (show u=Value.ref b from ry)
  obtain⟨z,hd,xs,rel,dd⟩:=zwW I.hok e
  have hz:xs.length<=sizeLine:=by rw [<- Paired.length rel];exact z
  have hl:(putK Z6 k v).length<=sizeLine:=by have:=zh0 Z6 k v;lia
  refine wpAny_setItem_heap (hsz:=hz) (tupleKind_room_in1 hu) (zmg I.hok eb) dd fun h' dd' hs=>h _ ?_
  obtain⟨q,es,ep,hq,h2,h3,h4,_,h5⟩:=dd'
  refine znI I (by rw [e];exact True.intro) hs ⟨q,hq⟩ ⟨hl,hd,_,(rel.put k eb rv).keeps fun c ys ec=>?_,q,es,ep,hq,h2,h3,h4,h5⟩
  rw [zU (zet ec e (fun z=>nomatch z))]
  exact ec
end
section
variable {X:Cx}{Z9:List (Addr×Obj)}{U:St}{H:Hp}{s:Shared}{a:Addr}{Z6:List (Key×V)}{k:Key}{u:Value}{A:Around}{E:Value->Shared->Prop}
end
def zqT (i:Expr):Prop:=∀ ov iv,subscripted i false ov iv=operate [ov,iv] (getItem ov iv)
theorem ztf {prog:Program}{w:World}{A:Around}{E:Value->Shared->Prop}{s:Shared}{env:Env}{value slice:Expr}{pos:Pos}{T id:String}{Q:Value->Shared->Prop}
  (hl:typeLookup (.type T) "__getitem__"=pure (some (.builtin id))) (hs:zqT slice)
  (h:wpAny (model prog w) A (eval value env) (fun o s₁=>wpAny (model prog w) A (eval slice env) (fun i s₂=>s₂.TypeIs o T/\wpAny (model prog w) A (getItem o i) Q E s₂) E s₁) E s) :
  wpAny (model prog w) A (eval (.Subscript value slice pos) env) Q E s:=by
 refine Subscript_ (wpAny_mono h (fun o s₁ h₁=>wpAny_mono h₁ (fun i s₂ h₂=>?_) fun _ _ x=>x) fun _ _ x=>x)
 obtain⟨hT,h₂⟩:=h₂
 unfold subscriptTail
 refine wpAny_bind ?_
 rw [getitemInPython_of_ne hT.not_modules]
 refine wpAny_bind (wpAny_specialOf hT hl ?_)
 have fin:wpAny (model prog w) A (subscripted slice false o i) (fun r s₃=>wpAny (model prog w) A (letTemporaryGo value o r >>= fun _=>pure r) Q E s₃) E s₂:=by
  rw [hs o i]
  exact wpAny_operating (wpAny_mono h₂ (fun r s₃ h₃=>wpAny_bind (wpAny_letTemporaryGo (wpAny_pure h₃))) fun _ _ x=>x)
 first
  | exact wpAny_pure (wpAny_bind fin)
  | exact wpAny_bind (wpAny_pure (wpAny_bind fin))
  | exact wpAny_bind fin
theorem zmz {X:Cx}{Z9:List (Addr×Obj)}{U:St}{H:Hp}{s:Shared}{a:Addr}{y:V}{o:Option V}(I:Inv X Z9 U H s)(g:zfp H a y o):s.TypeIs (.ref a) "dict":=by
 rcases g with ⟨Z6,k,e,_,_⟩ | ⟨Z6,k,b,e,_,_,_⟩
 ·obtain⟨_,_,vs,_,dd⟩:=zn1 I.hok e
  exact dd.typeIs
 ·obtain⟨_,_,xs,_,dd⟩:=zn7 I.hok e
  exact dd.typeIs
def zyw (td ty:TE):TE:=fun U H Q=>td U H fun x H1=>ty U H1 fun y H2=>∃ a v,x=.ref a/\zfp H2 a y (some v)/\Q v H2
def zwZ (td ty tv:TE):TS:=fun D U H=>tv U H fun v H1=>td U H1 fun x H2=>ty U H2 fun y H3=>∃ a H4,x=.ref a/\zgU H3 a y v H4/\D.nx U H4
section
variable {X:Cx}{o i e value:Expr}{pos pos' tpos:Pos}{td ty tv:TE}
theorem ztq (hu:X.A.units+1<cLine)(ho:PE X o td)(hi:PE X i ty)(hs:zqT i):PE X (.Subscript o i pos) (zyw td ty):=by
 intro Z9 s U H Q I h
 refine ztf PySem.F.slot_dict_getitem.lookup hs (Z0 (ho Z9 s U H _ I h) fun u s1 ⟨x,H1,I1,rx,q1⟩=>Z0 (hi Z9 s1 U H1 _ I1 q1) fun iv s2 ⟨y,H2,I2,ry,a,v,ex,g,q2⟩=>?_)
 subst ex
 obtain rfl:u=Value.ref a:=rx
 exact⟨zmz I2 g,zpR hu I2 g ry fun w' s3 I3 rw'=>⟨v,H2,I3,rw',q2⟩⟩
theorem zty (hu:X.A.units+1<cLine)(ho:PE X o td)(hi:PE X i ty)(hv:PE X value tv)(hs:swapsWith value (some (.Subscript o i pos')) pos.line X.env=pure false) :
  PS X (.Assign [.Subscript o i pos'] value pos) (zwZ td ty tv):=by
 intro Z9 s U H D I h
 refine wpAny_Assign_Subscript (Z0 (hv Z9 s U H _ I h) fun r s1 ⟨v,H1,I1,rv,q1⟩=>Z0 (ho Z9 s1 U H1 _ I1 q1) fun u s2 ⟨x,H2,I2,rx,q2⟩=>Z0 (hi Z9 s2 U H2 _ I2 q2) fun iv s3 ⟨y,H3,I3,ry,a,H4,ex,g,q3⟩=>?_) hs
 subst ex
 obtain rfl:u=Value.ref a:=rx
 exact zqg hu I3 g ry rv fun s4 I4=>⟨U,H4,I4,q3⟩
end
theorem zsd {P:Program}{w:World}{H:Hp}(h:Heap)(hb:sysModules<h.objs.size):YZ P w H (h.push { cls:=.type "dict",data:=.dict #[] }) h.objs.size (.dK []) :=
 ⟨qO _,beq_eq_false_iff_ne.mpr (Ne.symm (qL hb)),[],.nil,Heap.DictOf.new h⟩
theorem zqR {P:Program}{w:World}{H:Hp}(h:Heap)(hb:sysModules<h.objs.size):YZ P w H (h.push { cls:=.type "dict",data:=.dict #[] }) h.objs.size (.dT []) :=
 ⟨qO _,beq_eq_false_iff_ne.mpr (Ne.symm (qL hb)),[],.nil,_,#[],0,qr _ rfl,⟨rfl,rfl,rfl⟩,rfl,rfl,List.nodup_nil⟩
def zwv:TE:=fun _ H Q=>∀ p,H p=none->Q (.ref p) (upd H p (.dK []))
def zu5:TE:=fun _ H Q=>∀ p,H p=none->Q (.ref p) (upd H p (.dT []))
section
variable {X:Cx}{pos:Pos}
theorem zqY:PE X (.Dict [] [] pos) zwv:=fun Z9 s U H Q I h =>
 wpAny_Dict_empty ⟨.ref s.heap.objs.size,_,I.laid (a:=s.heap.objs.size) (o:=.dK []) (t':=s.toks) (fun _ _ q=>qd _ q) (qf _) (zsd s.heap I.big),rfl,h _ (I.hok.fresh (qf _))⟩
theorem zry:PE X (.Dict [] [] pos) zu5:=fun Z9 s U H Q I h =>
 wpAny_Dict_empty ⟨.ref s.heap.objs.size,_,I.laid (a:=s.heap.objs.size) (o:=.dT []) (t':=s.toks) (fun _ _ q=>qd _ q) (qf _) (zqR s.heap I.big),rfl,h _ (I.hok.fresh (qf _))⟩
end
section
variable {X:Cx}{Z9:List (Addr×Obj)}{U:St}{H:Hp}{s:Shared}{a:Addr}{y d:V}{u r:Value}{o:Option V}{A:Around}{E:Value->Shared->Prop}
end
section
variable {X:Cx}{o e f:Expr}{apos cpos:Pos}{td ty tx:TE}
end
section
variable {X:Cx}{Z9:List (Addr×Obj)}{U:St}{H:Hp}{s:Shared}{a:Addr}{Z6:List (Key×V)}{A:Around}{E:Value->Shared->Prop}
end
section
variable {X:Cx}{Z9:List (Addr×Obj)}{U:St}{H:Hp}{s:Shared}{a:Addr}{y:V}{u:Value}{A:Around}{E:Value->Shared->Prop}
end
end L2
namespace My
def Bd (n:Nat)(x:Int):Prop:=x.natAbs<2 ^ n
theorem Bd.mono {m n:Nat}{x:Int}(h:Bd m x)(hmn:m<=n):Bd n x:=qE h (Nat.pow_le_pow_right (by decide) hmn)
theorem Bd.add {n:Nat}{x y:Int}(h:Bd n x)(h':Bd n y):Bd (n+1) (x+y):=by
 unfold Bd at *;rw [Nat.pow_succ];lia
theorem Bd.sub {n:Nat}{x y:Int}(h:Bd n x)(h':Bd n y):Bd (n+1) (x-y):=by
 unfold Bd at *;rw [Nat.pow_succ];lia
theorem Bd.neg {n:Nat}{x:Int}(h:Bd n x):Bd n (-x):=by unfold Bd at *;lia
theorem Bd.mul {m n:Nat}{x y:Int}(h:Bd m x)(h':Bd n y):Bd (m+n) (x*y):=by
 unfold Bd at *;rw [Int.natAbs_mul,Nat.pow_add];exact Nat.mul_lt_mul'' h h'
theorem Bd.of_le {n:Nat}{x y:Int}(h:Bd n y)(h':x.natAbs<=y.natAbs):Bd n x:=Nat.lt_of_le_of_lt h' h
theorem Bd.dvd {n:Nat}{x y:Int}(h:Bd n y)(h0:y≠0)(d:x ∣ y):Bd n x :=
 h.of_le (Nat.le_of_dvd (by lia) (Int.natAbs_dvd_natAbs.mpr d))
theorem Bd.fdiv {n:Nat}{x y:Int}(h:Bd n x):Bd n (x.fdiv y):=h.of_le (Int.natAbs_fdiv_le_natAbs x y)
theorem Bd.lit {n:Nat}{x:Int}(h:x.natAbs<2 ^ 200)(hn:200<=n):Bd n x:=Bd.mono (m:=200) h hn
theorem zrL (a b:Int):Int.gcd b (a.fmod b)=Int.gcd a b:=by
 have e:a.fmod b=a-b*a.fdiv b:=by have:=Int.mul_fdiv_add_fmod a b;lia
 rw [e,Int.gcd_sub_mul_left_right,Int.gcd_comm]
theorem zmV {a b:Int}(h:b≠0):(a.fmod b).natAbs<b.natAbs:=by
 rcases Int.lt_or_gt_of_ne h with h1 | h1
 ·have e:(-(-a)).fmod (-(-b))=-((-a).fmod (-b)):=Int.neg_fmod_neg (-a) (-b)
  rw [qbb,qbb] at e
  have h2:=Int.fmod_nonneg_of_pos (-a) (b:=-b) (by lia)
  have h3:=Int.fmod_lt_of_pos (-a) (b:=-b) (by lia)
  lia
 ·have:=Int.fmod_nonneg_of_pos a h1
  have:=Int.fmod_lt_of_pos a h1
  lia
def gd (t b:Int):Int:=if b<0 then -((Int.gcd t b:Nat):Int) else ((Int.gcd t b:Nat):Int)
def frT (t b:Int):Int:=t.fdiv (gd t b)
def frB (t b:Int):Int:=b.fdiv (gd t b)
theorem zsI {t b:Int}(h:b≠0):gd t b≠0:=by
  have:Int.gcd t b≠0:=fun e=>h (Int.gcd_eq_zero_iff.mp e).2
  unfold gd;split<;>lia
theorem zmS (t b:Int):gd t b ∣ t:=by
 unfold gd;split
 ·exact Int.neg_dvd.mpr (Int.gcd_dvd_left ..)
 ·exact Int.gcd_dvd_left ..
theorem zgS (t b:Int):gd t b ∣ b:=by
 unfold gd;split
 ·exact Int.neg_dvd.mpr (Int.gcd_dvd_right ..)
 ·exact Int.gcd_dvd_right ..
theorem znx (t b:Int):frT t b*gd t b=t:=Int.fdiv_mul_cancel (zmS t b)
theorem zjN (t b:Int):frB t b*gd t b=b:=Int.fdiv_mul_cancel (zgS t b)
theorem zrD (t b:Int):frT t b*b=frB t b*t:=by
 have h1:=znx t b
 have h2:=zjN t b
 generalize frT t b=x at *
 generalize frB t b=y at *
 generalize gd t b=g at *
 subst h1 h2
 rw [qao y g,<- Int.mul_assoc,qao (x*g) y]
theorem ztT {t b:Int}(h:b≠0):1<=frB t b:=by
  have h2:=zjN t b
  have h3:gd t b≠0:=zsI h
  have h4:0<b->0<gd t b:=by
    intro hb;unfold gd at *;split<;>lia
  have h5:b<0->gd t b<0:=by
    intro hb;unfold gd at *;split<;>lia
  generalize frB t b=y at *
  generalize gd t b=g at *
  rcases Int.lt_or_gt_of_ne h with hb | hb
  . have hg:=h5 hb
    rcases qbi y 1 with hy | hy
    . have:0<=y*g:=Int.mul_nonneg_of_nonpos_of_nonpos (by lia) (by lia)
      lia
    . exact hy
  . have hg:=h4 hb
    rcases qbi y 1 with hy | hy
    . have:y*g<=0:=Int.mul_nonpos_of_nonpos_of_nonneg (by lia) (by lia)
      lia
    . exact hy
theorem zve {t b:Int}(h:b≠0):Int.gcd (frT t b) (frB t b)=1:=by
  have h0:0<Int.gcd t b:=Nat.pos_of_ne_zero fun e=>h (Int.gcd_eq_zero_iff.mp e).2
  have h1:=znx t b
  have h2:=zjN t b
  have e:Int.gcd (frT t b*gd t b) (frB t b*gd t b)=Int.gcd (frT t b) (frB t b)*(gd t b).natAbs:=Int.gcd_mul_right ..
  rw [h1,h2] at e
  have e2:(gd t b).natAbs=Int.gcd t b:=by unfold gd;split<;>lia
  rw [e2] at e
  exact Nat.eq_of_mul_eq_mul_right h0 (by lia)
theorem zxw {n:Nat}{t b:Int}(h:b≠0)(hb:Bd n b):Bd n (gd t b):=hb.dvd h (zgS t b)
theorem zuF {n:Nat}{t b:Int}(hb:Bd n b):Bd n (frB t b):=hb.fdiv
theorem zvL {n:Nat}{t b:Int}(hb:Bd n t):Bd n (frT t b):=hb.fdiv
open PySem PySem.Spec PyProof.Rows L2
def zxO (_ j:Int):Prop:=j≠0/\Bd 8000 j
def zxf (_ j:Int):Prop:=j≠0
theorem ziM {j:Int}(h:Bd 8000 j):j.natAbs.log2<9000:=by
 rcases qaW j.natAbs with e | e
 ·rw [e];decide
 ·have:j.natAbs.log2<8000:=(Nat.log2_lt (qan e)).mpr h
  lia
theorem zjs {j:Int}(h:Bd 8000 j):Builtin.Int.intBits j<=2 ^ 20:=by
 unfold Builtin.Int.intBits
 split
 ·exact qO _
 ·have:=ziM h
  lia
section
variable {X:Cx}
theorem zrM:Zk X (binaryOp .FloorDiv) (rI zxO fun i j=>.int (i.fdiv j)):=opI fun _ _ _ _ _ _ _ hc q=>floordiv_int hc.1 q (.inl (PyProof.noPylong_of_log2 (ziM hc.2)))
theorem zul:Zk X (binaryOp .Mod) (rI zxf fun i j=>.int (i.fmod j)):=ztS
def rB0 (g:Bool->Bool->V):R2:=fun x y H Q=>∃ i j,x=.bl i/\y=.bl j/\Q (g i j) H
theorem ztj {i j:Int}{a b:Nat}{p1 p2 pos:Pos}(c:Int)(h:i ^ j.toNat=c)(h0:0<=j/\j<=1000000/\i.natAbs<2 ^ 64):PE X (.BinOp (.Constant (.int i) a p1) .Pow (.Constant (.int j) b p2) pos) (tC (.int c)):=by
 intro Z9 s U H Q I q
 have q':Q (.int c) H:=q
 rw [<- h] at q'
 exact zsl zwD zlM zlM Z9 s U H Q I ⟨i,j,rfl,rfl,h0,q'⟩
def zyF:List V->Hp->VK->Prop:=fun xs H Q=>∃ i,xs=[.int i]/\Q (.int (i.natAbs:Int)) H
theorem zqx:YF X (.builtin "abs") zyF:=fun Z9 s U H xs us Q I r h=>by
  obtain⟨i,e,q⟩:=h
  refine zqW Z9 s U H xs us Q I r ⟨i,e,?_⟩
  have:(if i<0 then -i else i)=(i.natAbs:Int):=by split<;>lia
  rw [this];exact q
def zyE (K:PySem.W.Frag):List V->Hp->VK->Prop:=fun xs H Q=>∃ p ys,xs=[.ref p]/\(Zo K H p ys\/ZF K H p ys)/\Q (.int ys.length) H
theorem zqj:YF X (.builtin "len") (zyE X.K):=zlZ
def zwQ (K:PySem.W.Frag):List V->Hp->VK->Prop:=fun xs H Q=>∃ p ys,xs=[.ref p]/\(Zo K H p ys\/ZF K H p ys)/\∀ l,H l=none->Q (.ref l) (upd H l (.lst ys))
theorem zoD:YF X (.type "list") (zwQ X.K):=zll
def zyJ:List V->Hp->VK->Prop:=fun xs H Q=>∃ i j,xs=[.int i,.int j]/\Q (.int (if j > i then j else i)) H
theorem zqu (hc:X.calm=true):YF X (.builtin "max") zyJ:=zqc hc
def zyI:List V->Hp->VK->Prop:=fun xs H Q=>∃ i j,xs=[.int i,.int j]/\Q (.int (if j<i then j else i)) H
theorem zqn (hc:X.calm=true):YF X (.builtin "min") zyI:=zpC hc
theorem zxq {x:Str}{T:String}{pos:Pos}(hg:Gl X x)(hm:X.mg x=none)(hv:bootBuiltins x=some (.type T))(hn:x≠"__name__":=by decide)(hd:(x==("__debug__":Str))=false:=by decide):PE X (.Name x pos) (tC (.ty T)):=zsU (v:=.ty T) hg hm hv rfl hn hd
def zyD (K:PySem.W.Frag):List V->Hp->VK->Prop:=fun xs H Q=>∃ x c t b,xs=[x,.ty c]/\V4 K H x t/\PySem.W.kitOne K t (.type c)=some b/\Q (.bl b) H
theorem zrZ:YF X (.builtin "isinstance") (zyD X.K):=fun Z9 s U H xs us Q I r h=>by
 obtain⟨x,c,t,b,rfl,ty,e,q⟩:=h
 obtain⟨u,w',rfl,ru,rw'⟩:=vals2 r
 cases rw'
 exact zo5 I ru ty e fun tk=>⟨.bl b,H,I.tok _,rfl,q⟩
end
section
variable {X:Cx}{K:PySem.W.Frag}
end
structure Got (P:Program)(w:World)(K:PySem.W.Frag)(mg:Str->Option Value)(base:Heap)(k:Nat)(x:Str)(ps:List Str)(sp:Sp):Prop where
 ex:∃ f fd,zQ P w K mg base ZR k f fd ps sp/\Binds K fd ps []/\PySem.W.keepIn K (.ref f)=true/\mg x=some (.ref f)
theorem zwu {X:Cx}{k j:Nat}{x:Str}{ps:List Str}{sp:Sp}{p pos:Pos}{e:Expr}{es:List Expr}{t:TA}(G:Got X.prog X.w X.K X.mg X.base k x ps sp)(hr:Zg j X.A)(hk:k<=j)(hg:Gl X x)
  (ha:PA X (e::es) t) (hdb:(x==("__debug__":Str))=false:=by decide) (he:starEach (e::es) X.env=(false,eval e X.env)::starEach es X.env:=by rfl) (hpl:(backTo pos (starEach es X.env)).any (·.1)=false:=by rfl) :
  PE X (.Call (.Name x p) (e::es) [] pos) (zoU sp [] E0 t):=by
 intro Z9 s U H Q I h
 obtain⟨f,fd,F,b,kp,m⟩:=G.ex
 exact ztl (F.mono hk) hr hg m kp b .nil zsu ha hdb he hpl Z9 s U H Q I h
section
variable {nx:L2.St->Hp->Prop}{rt:VK}{bk ct:L2.St->Hp->Prop}{U:L2.St}{H:Hp}{K:PySem.W.Frag}
end
section
variable {U:L2.St}{H:Hp}{K:PySem.W.Frag}
def zyP:R2:=fun x y H Q=>y=.non/\Q (.bl (decide (x=.non))) H
def zwY:R2:=fun x y H Q=>y=.non/\Q (.bl (!decide (x=.non))) H
theorem zxZ {X:Cx}:Zk X (compareOp .Is) zyP:=zwc
theorem zuT {X:Cx}:Zk X (compareOp .IsNot) zwY:=zt6
end
theorem zdV {H:Hp}{p b:Addr}{o u:HO}(hp:H p=none)(h:H b=some u):upd H p o b=some u:=by
 rw [zU (zbk h hp)];exact h
theorem zmE {prog:Program}{w:World}{A:Around}{R:Result->Shared->Prop}{s:Shared}{elt target iter:Expr}{ifs:List Expr}{scope:Scope}{pos:Pos}{it acc:Value}{env:Env}(I:Nat->Shared->Prop)
  (turn:∀ n s,I n s->wpAny (model prog w) A (pyNext it) (fun r s₁=>match r with
   | none=>R (.ok .next) s₁
   | some v=>wpAny (model prog w) A (letOwnedTupleGo target it v) (fun _ s₁'=>wpAny (model prog w) A (assign target env v) (fun _ s₂ =>
     wpAny (model prog w) A (forIn ifs true fun c r=>if r=true then do let ok <- isTrue c env (eval c env);pure (ForInStep.yield ok) else pure (ForInStep.yield r)) (fun ok s₃ =>
      if ok=true then wpAny (model prog w) A (eval elt env) (fun x s₄ =>
       wpAny (model prog w) A (call (.builtin "list.append") [acc,x]) (fun _ s₅=>∃ m,m<n/\I m s₅) (fun _ _=>False) s₄) (fun _ _=>False) s₃
      else ∃ m,m<n/\I m s₃) (fun _ _=>False) s₂) (fun _ _=>False) s₁') (fun _ _=>False) s₁) (fun _ _=>False) s)
  (n:Nat) (h:I n s):codeAny (model prog w) A (.compLoop (.ListComp elt [⟨target,iter,ifs,0⟩] scope pos) 0 it acc env) R s:=by
 refine codeAny_loop rfl I (fun n s hI=>?_) n h
 show wpAny _ A ((compTurn (.ListComp elt [⟨target,iter,ifs,0⟩] scope pos) 0 it acc env).onRaise (fun x=>do noteFrame x env;theTreesLotGoes x)) _ _ s
 refine wpAny_noted ?_
 rw [compTurn_list]
 refine wpAny_bind (wpAny_standAt (wpAny_bind (wpAny_mono (turn n s hI) (fun r s₁ h₁=>?_) fun _ _ h'=>h'.elim)))
 cases r with
 | none=>exact wpAny_pure h₁
 | some v =>
  refine wpAny_bind (wpAny_mono h₁ (fun _ s₁' h₁'=>?_) fun _ _ h'=>h'.elim)
  refine wpAny_bind (wpAny_mono h₁' (fun _ s₂ h₂=>wpAny_bind (wpAny_mono h₂ (fun ok s₃ h₃=>?_) fun _ _ h'=>h'.elim)) fun _ _ h'=>h'.elim)
  cases ok with
  | false=>exact wpAny_pure ⟨rfl,h₃⟩
  | true =>
   exact wpAny_bind (wpAny_bind (wpAny_mono h₃ (fun x s₄ h₄=>wpAny_bind (wpAny_mono h₄ (fun _ s₅ h₅=>wpAny_pure (wpAny_pure ⟨rfl,h₅⟩)) fun _ _ h'=>h'.elim)) fun _ _ h'=>h'.elim))
def inner (X:Cx)(sc:Scope)(N:List Str)(cl:List (Str×Addr))(C:Addr)(s₀:Shared)(H₀:Hp)(ex:List Addr):Cx :=
  { X with N:=N,s₀:=s₀,H₀:=H₀,env:=compEnvC sc cl C X.env,outer:=X.stack,ex:=ex,fn:=fun x=>sc.names.lookup x==some .cell,pn:=[] }
def PFs (X:Cx)(ifs:List Expr)(t:TT):Prop :=
 ∀ (Z9:List (Addr×Obj)) (s:Shared) (U:L2.St) (H:Hp) (Q:Bool->Hp->Prop),Inv X Z9 U H s->t U H Q ->
  wpAny (model X.prog X.w) X.A (forIn ifs true fun c r=>if r=true then do let ok <- isTrue c X.env (eval c X.env);pure (ForInStep.yield ok) else pure (ForInStep.yield r)) (TP X Z9 U Q) X.xe s
def zxb:TT:=fun _ H Q=>Q true H
theorem zvh {X:Cx}:PFs X [] zxb:=fun _ _ _ H _ I h=>wpAny_tests_nil ⟨H,I,h⟩
theorem zwn {X:Cx}{c:Expr}{t:TT}(h:PT X c t):PFs X [c] t:=fun Z9 s U H Q I q=>wpAny_tests_one (h Z9 s U H Q I q)
def zg0 (X:Cx)(sc:Scope):List Str->List Nat->Prop
 | [],[]=>True
 | x::xs,j::js=>X.N[j]?=some x/\sc.names.lookup x=some .free/\X.env.kindOf x=some .cell/\zg0 X sc xs js
 | _,_=>False
def zdP (P:Str->Prop):List (Str×NameKind)->Prop
 | []=>True
 | (n,.free)::r=>P n/\zdP P r
 | _::r=>zdP P r
theorem zdP.of {P:Str->Prop}:∀ {l:List (Str×NameKind)},zdP P l->∀ y∈l,y.2=.free->P y.1
  | (n,k)::r,h,y,hy,e=>by
    rcases qg.mp hy with rfl | hy
    . dsimp only at e;subst e;exact h.1
    . refine zdP.of (l:=r) ?_ y hy e
      cases k<;>first | exact h.2 | exact h
def cst (own:List Str)(fv:List Nat)(U:L2.St):L2.St:=List.replicate own.length none++fv.map fun j=>(U[j]?).join
def W2:L2.St->L2.St->Prop
 | [],[]=>True
 | none::r,_::s=>W2 r s
 | some v::r,some w::s=>v=w/\W2 r s
 | _,_=>False
theorem W2.len:∀ {a b:L2.St},W2 a b->b.length=a.length
  | [],[],_=>rfl
  | none::r,_::s,h=>congrArg (· + 1) (W2.len (a:=r) (b:=s) h)
  | some v::r,some w::s,h=>congrArg (· + 1) (W2.len (a:=r) (b:=s) h.2)
theorem W2.get:∀ {a b:L2.St},W2 a b->∀ (i:Nat) (v:V),a[i]?=some (some v)->b[i]?=some (some v)
 | none::r,_::s,h,i,v,e=>by
  cases i with
  | zero=>simp at e
  | succ i=>simpa using W2.get (a:=r) (b:=s) h i v (by simpa using e)
 | some v'::r,some w::s,h,i,v,e=>by
  cases i with
  | zero=>simp at e;subst e;simp [h.1]
  | succ i=>simpa using W2.get (a:=r) (b:=s) h.2 i v (by simpa using e)
def tLC (own:List Str)(fv:List Nat)(wi:TI)(g:TG)(tc:TT)(te:TE):TE:=fun U H Q=>wi U H fun J H1=>∀ p,H1 p=none ->
 ∃ W:Nat->Nat->Hp->Prop,(∃ m,W 0 m (upd H1 p (.lst [])))/\∀ i m H2,W i m H2 ->
  (J.stop i H2/\Q (.ref p) H2)\/(J.go i H2/\∀ x H',J.yld i H2 x H'->g x (cst own fv U) H' fun σ2 H3=>W2 (cst own fv U) σ2/\tc σ2 H3 fun b H4 =>
   if b=true then te σ2 H4 fun y H5=>∃ ys,H5 p=some (.lst ys)/\ys.length<sizeLine/\∃ m',m'<m/\W (i+1) m' (upd H5 p (.lst (ys++[y])))
   else ∃ m',m'<m/\W (i+1) m' H4)
theorem zmU {env:Env}{n:Str}{c:Addr}(h:env.cells.lookup n=some c):cellOf env n=pure c:=by
 unfold cellOf;rw [h]
theorem zgn {env:Env}:∀ (names:List (Str×NameKind)) (cs:List (Str×Addr)),(∀ y∈names,y.2=.free->∃ c,env.cells.lookup y.1=some c)->(∀ x c,cs.lookup x=some c->env.cells.lookup x=some c) ->
    ∃ cl,(forIn names cs fun (x:Str×NameKind) (r:List (Str×Addr))=>if (x.2==NameKind.free)=true then do let a <- cellOf env x.1;pure (ForInStep.yield ((x.1,a)::r)) else pure (ForInStep.yield r))=(pure cl:Sem (List (Str×Addr))) /\
      (∀ x c,cl.lookup x=some c->env.cells.lookup x=some c)/\(∀ x,(cs.lookup x).isSome=true->(cl.lookup x).isSome=true)/\∀ y∈names,y.2=.free->(cl.lookup y.1).isSome=true
  | [],cs,_,h2=>⟨cs,rfl,h2,fun _ h=>h,fun _ h=>nomatch h⟩
  | (n,k)::r,cs,h1,h2=>by
    rw [List.forIn_cons]
    by_cases hk:k=.free
    . subst hk
      obtain⟨c,hc⟩:=h1 (n,.free) qat rfl
      obtain⟨cl,e,a1,a2,a3⟩:=zgn (env:=env) r ((n,c)::cs) (fun y hy=>h1 y (qB _ hy)) (fun x d hx=>by
        rw [qo] at hx
        by_cases hxn:x=n
        . subst hxn;simp at hx;subst hx;exact hc
        . have:(x==n)=false:=by simpa using hxn
          rw [this] at hx;exact h2 x d hx)
      refine⟨cl,?_,a1,fun x hx=>a2 x ?_,fun y hy e'=>?_⟩
      . simp only [beq_self_eq_true,if_true,zmU hc]
        simpa using e
      . rw [qo];split<;>simp_all
      . rcases qg.mp hy with rfl | hy
        . exact a2 _ (by simp [qo])
        . exact a3 y hy e'
    . have hb:(k==NameKind.free)=false:=by simpa using hk
      obtain⟨cl,e,a1,a2,a3⟩:=zgn (env:=env) r cs (fun y hy=>h1 y (qB _ hy)) h2
      refine⟨cl,?_,a1,a2,fun y hy e'=>?_⟩
      . simp only [hb,qbj,if_false]
        simpa using e
      . rcases qg.mp hy with rfl | hy
        . exact absurd e' hk
        . exact a3 y hy e'
theorem ziW {env:Env}{sc:Scope}(h:∀ y∈sc.names,y.2=.free->∃ c,env.cells.lookup y.1=some c) :
  ∃ cl,closureFor sc env=pure cl/\(∀ x c,cl.lookup x=some c->env.cells.lookup x=some c)/\∀ y∈sc.names,y.2=.free->(cl.lookup y.1).isSome=true:=by
 obtain⟨cl,e,a1,_,a3⟩:=zgn (env:=env) sc.names [] h (fun x c hx=>by simp at hx)
 refine⟨cl,?_,a1,a3⟩
 unfold closureFor
 have e2:=e
 first
  | exact e2
  | (show (do let cs <- forIn sc.names [] _;pure cs)=_;rw [show (forIn sc.names [] _:Sem (List (Str×Addr)))=pure cl from e2];rfl)
  | simpa using e2
theorem zdA {env:Env}{x:Str}:∀ {names:List (Str×NameKind)},(names.map fun (n,k)=>if (k==NameKind.free&&env.scope.kind==.function&&env.kindOf n==some .cell) then (n,NameKind.cell) else (n,k)).lookup x =
    (names.lookup x).map fun k=>if (k==NameKind.free&&env.scope.kind==.function&&env.kindOf x==some .cell) then NameKind.cell else k
  | []=>rfl
  | (n,k)::r=>by
    have ih:=zdA (env:=env) (x:=x) (names:=r)
    rw [qI]
    by_cases hx:x=n
    . subst hx
      dsimp only
      split<;>simp_all [qo]
    . have hb:(x==n)=false:=by simpa using hx
      dsimp only
      split<;>(rw [qo,qo,hb];exact ih)
theorem mem_of_lookup {β:Type}{x:Str}{k:β}:∀ {l:List (Str×β)},l.lookup x=some k->(x,k)∈l
 | (n,b)::r,h=>by
  rw [qo] at h
  by_cases hx:x=n
  ·subst hx;simp at h;subst h;exact qat
  ·have hb:(x==n)=false:=by simpa using hx
   rw [hb] at h
   exact qB _ (mem_of_lookup h)
theorem zbg:∀ (names:List (Str×NameKind)) (n:Nat) (acc:List (Str×Addr)),cellsFrom n names acc=cellsFrom n names []++acc
 | [],_,_=>rfl
 | (x,k)::r,n,acc=>by
  unfold cellsFrom
  split
  ·rw [zbg r (n+1) ((x,n)::acc),zbg r (n+1) [(x,n)],qp];rfl
  ·exact zbg r n acc
theorem zej:∀ {names:List (Str×NameKind)} {n:Nat} {x:Str} {c:Addr},(x,c)∈cellsFrom n names []->(x,NameKind.cell)∈names
 | (y,k)::r,n,x,c,h=>by
  unfold cellsFrom at h
  split at h
  ·rename_i hk
   rw [zbg] at h
   rcases qK.mp h with h | h
   ·exact qB _ (zej h)
   ·have e:(x,c)=(y,n):=by simpa using h
    cases e
    rw [show k=NameKind.cell by simpa using hk];exact qat
  ·exact qB _ (zej h)
theorem zei:∀ {names:List (Str×NameKind)} {n:Nat} {x:Str},(x,NameKind.cell)∈names->((cellsFrom n names []).lookup x).isSome=true
 | (y,k)::r,n,x,h=>by
  unfold cellsFrom
  rcases qg.mp h with e | h
  ·cases e
   rw [if_pos (by rfl),zbg,qaX]
   cases (cellsFrom (n+1) r []).lookup y with
   | some c=>rfl
   | none=>simp
  ·have ih:=zei (n:=n) h
   have ih':=zei (n:=n+1) h
   split
   ·rw [zbg,qaX]
    obtain⟨c,hc⟩:=qaA.mp ih'
    rw [hc];rfl
   ·exact ih
theorem zoW {M:Model}{A:Around}{E:Value->Shared->Prop}{s:Shared}{scope:Scope}{globals:Addr}{closure:List (Str×Addr)}{qual:Str}{func:Option Addr}{code:Value}{env:Env}{Q:Env->Shared->Prop}
    (hQ:Q (newEnv scope s.heap.objs.size globals (cellsFrom (s.heap.objs.size+1) scope.names closure) qual func code (some env) builtinsNs) { s with heap:=pushCells (s.heap.push { cls:=.type "dict",data:=.dict #[] }) scope.names }) :
    wpAny M A (newFunctionEnv scope globals closure [] qual func code (some env)) Q E s:=by
  simp only [newFunctionEnv,Option.isSome_some,if_true]
  refine wpAny_bind (wpAny_alloc ?_)
  refine wpAny_bind (wpAny_layCells _ (fun name kind cells=>by cases hkc:kind==NameKind.cell<;>simp [hkc]) _ _ _ _ ?_)
  rw [show ({ s with heap:=s.heap.push { cls:=.type "dict",data:=.dict #[] } }:Shared).heap.objs.size=s.heap.objs.size+1 from qZ ..]
  rw [List.forIn_nil]
  exact wpAny_bind (wpAny_pure (wpAny_pure hQ))
section
variable {X:Cx}{sc:Scope}{tg iter elt:Expr}{ifs:List Expr}{own free:List Str}{fv:List Nat}{wi:TI}{g:TG}{tc:TT}{te:TE}{pos:Pos}
theorem zsH {U:L2.St}:∀ {free:List Str} {fv:List Nat},zg0 X sc free fv->∀ (k:Nat) (x:Str) (v:V),free[k]?=some x->(fv.map fun j=>(U[j]?).join)[k]?=some (some v) ->
  ∃ j:Nat,X.N[j]?=some x/\U[j]?=some (some v)/\sc.names.lookup x=some .free/\X.env.kindOf x=some .cell
 | x'::xs,j::js,h,k,x,v,e1,e2=>by
  cases k with
  | zero =>
   simp at e1 e2
   subst e1
   refine⟨j,h.1,?_,h.2.1,h.2.2.1⟩
   cases q:U[j]? with
   | none=>rw [q] at e2;simp at e2
   | some o=>rw [q] at e2;simp at e2;rw [e2]
  | succ k=>exact zsH (free:=xs) (fv:=js) h.2.2.2 k x v (by simpa using e1) (by simpa using e2)
 | [],[],_,k,x,v,e1,_=>by simp at e1
theorem zqJ:∀ {free:List Str} {fv:List Nat},zg0 X sc free fv->fv.length=free.length
  | [],[],_=>rfl
  | _::_,_::_,h=>congrArg (· + 1) (zqJ h.2.2.2)
theorem ziF {RR:Value->Addr->Result->Shared->Prop}(hcalm:X.calm=true)(hxe:X.xe=fun _ _=>False)(hkind:sc.kind=.function)(hcell:∀ y∈sc.names,y.2=.cell->sc.names.lookup y.1=some .cell)
    (hfr:zdP (fun x=>X.env.kindOf x=some .cell) sc.names) (hfv:zg0 X sc free fv)
    (hg:∀ cl C s₀ H₀ ex,PG (inner X sc (own++free) cl C s₀ H₀ ex) tg g) (ht:∀ cl C s₀ H₀ ex,PFs (inner X sc (own++free) cl C s₀ H₀ ex) ifs tc) (he:∀ cl C s₀ H₀ ex,PE (inner X sc (own++free) cl C s₀ H₀ ex) elt te)
    {Z9:List (Addr×Obj)} {s2:Shared} {U:L2.St} {H2:Hp} {it:Addr} {fp:List Addr} {tn:Nat->Heap->Prop} {J:It} {Q:VK} (I2:Inv X Z9 U H2 s2) (T:Turn X.prog X.w X.K tg J fp it tn) (st2:tn 0 s2.heap) (f2:∀ b∈fp,zeP X Z9 H2 b)
    (h:∀ p,H2 p=none->∃ W:Nat->Nat->Hp->Prop,(∃ m,W 0 m (upd H2 p (.lst [])))/\∀ i m H2,W i m H2 ->
      (J.stop i H2/\Q (.ref p) H2)\/(J.go i H2/\∀ x H',J.yld i H2 x H'->g x (cst own fv U) H' fun σ2 H3=>W2 (cst own fv U) σ2/\tc σ2 H3 fun b H4 =>
        if b=true then te σ2 H4 fun y H5=>∃ ys,H5 p=some (.lst ys)/\ys.length<sizeLine/\∃ m',m'<m/\W (i+1) m' (upd H5 p (.lst (ys++[y])))
        else ∃ m',m'<m/\W (i+1) m' H4))
    {cl:List (Str×Addr)} (hcl1:∀ x c,cl.lookup x=some c->X.env.cells.lookup x=some c) (hcl2:∀ y∈sc.names,y.2=.free->(cl.lookup y.1).isSome=true)
    (hRR:∀ (p C:Addr) (m:Str->Option Value) (H':Hp) (s':Shared),s'.heap.Ns C m->Inv X Z9 U H' s'->H' C=none->C≠X.env.locals->X.s₀.heap.objs.size<=C->(∀ x c,X.env.cells.lookup x=some c->c≠C)->(∀ q∈X.pn++Z9,q.1≠C)->Q (.ref p) H' ->
      RR (.ref p) C (.ok .next) s') :
    wpAny (model X.prog X.w) X.A (newList []) (fun acc s3=>wpAny (model X.prog X.w) X.A (newFunctionEnv sc X.env.globals cl [] X.env.qual none .none (some X.env)) (fun cenv s4 =>
      codeAny (model X.prog X.w) X.A (.compStart (.ListComp elt [⟨tg,iter,ifs,0⟩] sc pos) 0 (.ref it) acc { cenv with scope:=relabel sc X.env }) (RR acc cenv.locals) s4) X.xe s3) X.xe s2:=by
  rw [hxe]
  refine wpAny_newObj_type ?_
  have I3:Inv X Z9 U (upd H2 s2.heap.objs.size (.lst [])) { s2 with heap:=s2.heap.push { cls:=.type "list",data:=.seq ([]:List Value).toArray } }:=I2.lnew (t':=s2.toks) .nil (qO _)
  generalize hs3:({ s2 with heap:=s2.heap.push { cls:=.type "list",data:=.seq ([]:List Value).toArray } }:Shared)=s3 at I3 ⊢
  have hp:H2 s2.heap.objs.size=none:=I2.fresh
  obtain⟨W,⟨m0,w0⟩,turn⟩:=h s2.heap.objs.size hp
  generalize hH3:upd H2 s2.heap.objs.size (.lst [])=H3 at I3 w0 ⊢
  have hk3:∀ b o,s2.heap.get? b=some o->s3.heap.get? b=some o:=fun b o e=>by rw [<- hs3];exact qd _ e
  have hz3:s3.heap.objs.size=s2.heap.objs.size+1:=by rw [<- hs3];exact qZ ..
  have st3:tn 0 s3.heap:=T.keep _ _ _ st2 fun b _ o e=>hk3 b o e
  have hfpo:∀ b∈fp,∃ o,s3.heap.get? b=some o:=fun b hb=>let ⟨o,e,_⟩:=T.obj _ _ st3 b hb;⟨o,e⟩
  have hfpn:∀ b∈fp,b≠s2.heap.objs.size:=fun b hb e=>by
    obtain⟨o,e',_⟩:=T.obj _ _ st2 b hb
    have:=qv e'
    rw [e] at this;exact WR _ this
  have f3:∀ b∈fp,H3 b=none:=fun b hb=>by rw [<- hH3,zU (hfpn b hb)];exact (f2 b hb).1
  refine zoW ?_
  have cok:=cellsFrom_ok sc.names (s3.heap.push { cls:=.type "dict",data:=.dict #[] }) (s3.heap.objs.size+1) [] ⟨fun _ _ hm=>(nomatch hm),List.Pairwise.nil⟩ (by rw [qZ];exact qf _)
  rw [qZ] at cok
  have hns1:(pushCells (s3.heap.push { cls:=.type "dict",data:=.dict #[] }) sc.names).Ns s3.heap.objs.size (fun _=>none):=(Heap.Ns.new s3.heap (.type "dict")).keeps (pushCells_keeps _ _)
  have old:∀ b o,s3.heap.get? b=some o->(pushCells (s3.heap.push { cls:=.type "dict",data:=.dict #[] }) sc.names).get? b=some o:=fun b o e=>pushCells_keeps _ _ b o (qd _ e)
  rw [zbg]
  have fmem:∀ {x c},(x,c)∈cellsFrom (s3.heap.objs.size+1) sc.names []->sc.names.lookup x=some .cell:=fun {x c} h=>hcell (x,.cell) (zej h) rfl
  have fhas:∀ {x},sc.names.lookup x=some .cell->∃ c,(cellsFrom (s3.heap.objs.size+1) sc.names []).lookup x=some c:=fun {x} h=>qaA.mp (zei (mem_of_lookup h))
  generalize pushCells (s3.heap.push { cls:=.type "dict",data:=.dict #[] }) sc.names=h1 at cok hns1 old ⊢
  generalize cellsFrom (s3.heap.objs.size+1) sc.names []=F at cok fmem fhas ⊢
  have flt:∀ {x c},F.lookup x=some c->s3.heap.objs.size<c:=fun {x c} e=>(cok.empty x c (mem_of_lookup e)).2
  have cl':∀ {x c},(F++cl).lookup x=some c->F.lookup x=some c\/(F.lookup x=none/\cl.lookup x=some c):=fun {x c} e=>by
    rw [qaX] at e
    cases hF:F.lookup x with
    | some c'=>rw [hF] at e;exact .inl e
    | none=>rw [hF] at e;exact .inr ⟨rfl,e⟩
  have hC0:H3 s3.heap.objs.size=none:=I3.fresh
  have hlow:X.s₀.heap.objs.size<=s3.heap.objs.size:=I3.sz
  have hloc:X.env.locals<s3.heap.objs.size:=I3.lt
  have hcells:∀ x c,X.env.cells.lookup x=some c->c<s3.heap.objs.size:=fun x c e=>by
    obtain⟨v,o,ho,_⟩:=I3.cell x c e
    exact qv ho
  have YOk:(inner X sc (own++free) (F++cl) s3.heap.objs.size s3 H3 fp).Ok:={
    mod:=I3.ok.mod
    kind:=by show (relabel sc X.env).kind=.function;exact hkind
    glob:=I3.ok.glob
    blt:=I3.ok.blt
    above:=qf _
    inj:=fun x y c hx hy=>by
      rcases cl' hx with h | ⟨_,h⟩<;>rcases cl' hy with h' | ⟨_,h'⟩
      . exact name_of_addr cok.apart (mem_of_lookup h) (mem_of_lookup h')
      . exact absurd (Nat.lt_trans (flt h) (hcells y c (hcl1 y c h'))) (WR _)
      . exact absurd (Nat.lt_trans (flt h') (hcells x c (hcl1 x c h))) (WR _)
      . exact I3.ok.inj x y c (hcl1 x c h) (hcl1 y c h')
    has:=fun x hx=>by
      show ∃ c,(F++cl).lookup x=some c
      rw [qaX]
      cases hF:F.lookup x with
      | some c=>exact⟨c,rfl⟩
      | none =>
      show ∃ c,cl.lookup x=some c
      have e : (sc.names.lookup x).map (fun k => if (k == NameKind.free && X.env.scope.kind == .function && X.env.kindOf x == some .cell) then NameKind.cell else k) = some .cell ∨
          (sc.names.lookup x).map (fun k=>if (k==NameKind.free&&X.env.scope.kind==.function&&X.env.kindOf x==some .cell) then NameKind.cell else k)=some .free:=by
        have:=@zdA X.env x sc.names
        rcases hx with hx | hx
        . exact .inl (this.symm.trans hx)
        . exact .inr (this.symm.trans hx)
      cases q:sc.names.lookup x with
      | none=>rw [q] at e;simp at e
      | some k =>
        have hm:=mem_of_lookup q
        by_cases hkf:k=.free
        . subst hkf
          exact qaA.mp (hcl2 (x,.free) hm rfl)
        . have hkc : k ≠ .cell := fun ek => by
            subst ek
            obtain⟨c,hc⟩:=fhas q
            rw [hF] at hc;cases hc
          rw [q] at e
          have hb:(k==NameKind.free)=false:=by simpa using hkf
          simp only [qbc,hb,Bool.false_and,qbj,if_false,Option.some.injEq] at e
          rcases e with e | e
          . exact absurd e hkc
          . exact absurd e hkf
    cab:=fun x c hx hc=>by
      obtain⟨c',hc'⟩:=fhas (show sc.names.lookup x=some .cell from beq_iff_eq.mp hx)
      rcases cl' hc with h | ⟨h,_⟩
      . exact qbg (flt h)
      . rw [hc'] at h;cases h
    hd:=I3.ok.hd
    frames:=I3.ok.frames
    stk:=.inl rfl
    exf:=fun b hb=>⟨fun e=>by obtain⟨o,e'⟩:=hfpo b hb;have:=qv e';rw [e] at this;exact WR _ this,fun x c hx=>by
      rcases cl' hx with h | ⟨_,h⟩
      . obtain⟨o,e'⟩:=hfpo b hb
        exact qan (Nat.lt_trans (qv e') (flt h))
      . exact (f2 b hb).2.2.2.2.1 x c (hcl1 x c h)⟩
    bs:=I3.bs
    bsz:=qX I3.ok.bsz I3.sz
    noex:=fun b o hb hm=>by
      rcases (f2 b hm).2.2.2.1 with hx | hx
      . exact I3.ok.noex b o hb hx
      . exact WR _ (qE (qE (qv hb) I3.ok.bsz) hx)
    exfs:=fun b hb hm=>by
      rcases qg.mp (I3.stkSub b hm) with e | e
      . exact (f2 b hb).2.1 e
      . exact (f2 b hb).2.2.1 e
    funs:=I3.stack
    frf:=I3.stkFree }
  have hlen0:(cst own fv U).length=(own++free).length:=by
    unfold cst;rw [qh,qh,qF,qb,zqJ hfv]
  have I4:∀ tk,Inv (inner X sc (own++free) (F++cl) s3.heap.objs.size s3 H3 fp) [] (cst own fv U) H3 { s3 with heap:=h1,toks:=tk }:=fun tk=>{
    ok:=YOk
    os:=rfl
    bare:=I3.bare
    base:=Un.kept old
    loc:=by
      refine⟨_,hns1,fun i x v hN hσ _=>?_⟩
      have hN':(own++free)[i]?=some x:=hN
      have hσ':(List.replicate own.length none++fv.map fun j=>(U[j]?).join)[i]?=some (some v):=hσ
      by_cases hi:i<own.length
      . rw [qk (by rw [qF];exact hi)] at hσ'
        rw [qam] at hσ'
        split at hσ'<;>simp at hσ'
      . rw [qj (by lia)] at hN'
        rw [qj (by rw [qF];lia),qF] at hσ'
        obtain⟨j,hj,hσj,hsx,hkx⟩:=zsH hfv _ x v hN' hσ'
        obtain⟨m,_,hall⟩:=I3.loc
        obtain⟨u,ru,lk⟩:=hall j x v hj hσj (.inr (.inl hkx))
        refine⟨u,ru,.inr ⟨?_,?_⟩⟩
        . have:=@zdA X.env x sc.names
          rw [hsx] at this
          have e2:Env.kindOf (inner X sc (own++free) (F++cl) s3.heap.objs.size s3 H3 fp).env x=(sc.names.map fun (n,k)=>if (k==NameKind.free&&X.env.scope.kind==.function&&X.env.kindOf n==some .cell) then (n,NameKind.cell) else (n,k)).lookup x:=rfl
          rw [e2,this]
          simp only [qbc]
          split
          . exact .inl rfl
          . exact .inr rfl
        . rcases lk with ⟨hl,_⟩ | ⟨_,c,hc,hcell'⟩
          . rw [hkx] at hl;cases hl
          . obtain⟨c',hc'⟩:=qaA.mp (hcl2 (x,.free) (mem_of_lookup hsx) rfl)
            have:=hcl1 x c' hc'
            rw [hc] at this
            cases this
            refine⟨c,?_,?_⟩
            . show (F++cl).lookup x=some c
              rw [qaX]
              cases hF:F.lookup x with
              | none=>exact hc'
              | some c2=>have:=fmem (mem_of_lookup hF);rw [hsx] at this;cases this
            obtain⟨o,ho,hd⟩:=hcell'
            exact⟨o,old _ _ ho,hd⟩
    cell:=fun x c hx=>by
      rcases cl' hx with h | ⟨_,h⟩
      . exact⟨none,(cok.empty x c (mem_of_lookup h)).1⟩
      . obtain⟨v,o,ho,hd⟩:=I3.cell x c (hcl1 x c h)
        exact⟨v,o,old _ _ ho,hd⟩
    free:=hC0
    freeC:=fun x c hx=>by
      rcases cl' hx with h | ⟨_,h⟩
      . exact I3.hok.fresh (qbg (flt h))
      . exact I3.freeC x c (hcl1 x c h)
    pin:=fun q hq=>nomatch hq
    hok:=I3.hok.kept old
    len:=hlen0 }
  have back:∀ (m:Str->Option Value) (H':Hp) (s':Shared),s'.heap.Ns s3.heap.objs.size m->Inv (inner X sc (own++free) (F++cl) s3.heap.objs.size s3 H3 fp) [] (cst own fv U) H' s'->Q (.ref s2.heap.objs.size) H'->RR (.ref s2.heap.objs.size) s3.heap.objs.size (.ok .next) s':=fun m H' s' hm IY q=>by
    have u1:Un (frs X.stack) fp H3 H' s3.heap s'.heap:=IY.base
    have IX:Inv X Z9 U H' s':=I3.call' (ch:=fp) (IY.os) u1 IY.hok IY.bare fun b hb=>⟨(f2 b hb).2.2.2.1,(f2 b hb).2.1,(f2 b hb).2.2.2.2.1,(f2 b hb).2.2.2.2.2⟩
    refine hRR _ _ m H' s' hm IX IY.free (qan hloc) hlow (fun x c hx=>qL (hcells x c hx)) (fun q' hq=>?_) q
    have:=(I3.pin q' hq).1
    exact qL (qv this)
  have stat:∀ {H':Hp},(∀ b∈fp,H' b=none)->∀ b∈fp,zeP (inner X sc (own++free) (F++cl) s3.heap.objs.size s3 H3 fp) [] H' b:=fun hn b hb =>
    ⟨hn b hb,(YOk.exf b hb).1,YOk.exfs b hb,.inl hb,(YOk.exf b hb).2,fun q hq=>nomatch hq⟩
  have hYxe:(inner X sc (own++free) (F++cl) s3.heap.objs.size s3 H3 fp).xe=fun _ _=>False:=hxe
  have loop:∀ tk,codeAny (model X.prog X.w) X.A (.compLoop (.ListComp elt [⟨tg,iter,ifs,0⟩] sc pos) 0 (.ref it) (.ref s2.heap.objs.size) (compEnvC sc (F++cl) s3.heap.objs.size X.env)) (RR (.ref s2.heap.objs.size) s3.heap.objs.size) { s3 with heap:=h1,toks:=tk }:=fun tk=>by
    refine zmE (fun n s'=>∃ i H',Inv (inner X sc (own++free) (F++cl) s3.heap.objs.size s3 H3 fp) [] (cst own fv U) H' s'/\tn i s'.heap/\(∀ b∈fp,H' b=none)/\W i n H') ?_ m0 ⟨0,H3,I4 tk,T.keep _ _ _ st3 (fun b _ o e=>old b o e),f3,w0⟩
    rintro n s5 ⟨i,H5,I5,st5,fr5,w5⟩
    rcases turn i n H5 w5 with ⟨stop,q⟩ | ⟨go,step⟩
    . refine Z0 (T.done (inner X sc (own++free) (F++cl) s3.heap.objs.size s3 H3 fp) rfl rfl rfl hcalm i [] s5 _ H5 _ I5 (stat fr5) st5 stop) fun r s6 ⟨hr,I6⟩=>?_
      subst hr
      obtain⟨m,hm,_⟩:=I6.loc
      exact back m H5 s6 hm I6 q
    . refine Z0 (T.item (inner X sc (own++free) (F++cl) s3.heap.objs.size s3 H3 fp) rfl rfl rfl hcalm i [] s5 _ H5 _ I5 (stat fr5) st5 go) fun r s6 ⟨u,hr,h6⟩=>?_
      subst hr
      refine Z0 h6 fun _ s7 ⟨x,H7,I7,r7,y7,st7,fr7⟩=>?_
      have I7':=I7.pinned (stat fr7) (T.obj _ _ st7)
      have hg':=hg (F++cl) s3.heap.objs.size s3 H3 fp _ s7 _ H7 x u _ I7' r7 (step x H7 y7)
      have ht':=ht (F++cl) s3.heap.objs.size s3 H3 fp
      have he':=he (F++cl) s3.heap.objs.size s3 H3 fp
      have ap:MtM (inner X sc (own++free) (F++cl) s3.heap.objs.size s3 H3 fp) "list.append" zmY:=zkx
      unfold PFs at ht'
      unfold PE at he'
      unfold MtM at ap
      rw [hYxe] at hg' ht' he' ap
      have again : ∀ {pl : List (Addr × Obj)} {σ8 : L2.St} {H8 : Hp} {s8 : Shared}, pl = zhb fp s7.heap → Inv (inner X sc (own ++ free) (F ++ cl) s3.heap.objs.size s3 H3 fp) ([] ++ pl) σ8 H8 s8 → W2 (cst own fv U) σ8 → (∃ m', m' < n ∧ W (i + 1) m' H8) →
          ∃ m,m<n/\∃ i H',Inv (inner X sc (own++free) (F++cl) s3.heap.objs.size s3 H3 fp) [] (cst own fv U) H' s8/\tn i s8.heap/\(∀ b∈fp,H' b=none)/\W i m H':=fun {pl σ8 H8 s8} hpl I8 ag ⟨m',hm,w8⟩=>by
        subst hpl
        refine⟨m',hm,i+1,H8,(I8.unpinned).weak ag.len.symm (fun j v e=>ag.get j v e),T.keep _ _ _ st7 fun b hb o e=>(I8.pin (b,o) (qV _ (qV _ (zeD hb e)))).1,fun b hb=>?_,w8⟩
        obtain⟨o,e,d⟩:=T.obj _ _ st7 b hb
        exact (I8.pin (b,o) (qV _ (qV _ (zeD hb e)))).2.1
      refine Z0 hg' fun _ s8 ⟨σ8,H8,I8,ag,q8⟩=>?_
      refine Z0 (ht' _ s8 σ8 H8 _ I8 q8) fun b s9 ⟨H9,I9,q9⟩=>?_
      cases b with
      | false =>
        rw [if_neg qu] at q9 ⊢
        exact again rfl I9 ag q9
      | true =>
        rw [if_pos rfl] at q9 ⊢
        refine Z0 (he' _ s9 σ8 H9 _ I9 q9) fun y s10 ⟨yv,H10,I10,ry,ys,hy,hlt,q10⟩=>?_
        refine Z0 (ap _ s10 σ8 H10 (.ref s2.heap.objs.size) [yv] (.ref s2.heap.objs.size) [y] (fun v H'=>v=.non/\H'=upd H10 s2.heap.objs.size (.lst (ys++[yv]))) I10 rfl (.cons ry .nil) ⟨_,ys,yv,rfl,rfl,hy,hlt,rfl,rfl⟩) fun z s11 ⟨v11,H11,I11,_,_,e11⟩=>?_
        subst e11
        exact again rfl I11 ag q10
  refine codeAny_compStart_list (loop _) (T.self _ 0 _ _ _ (T.keep _ _ _ st3 fun b _ o e=>old b o e) (loop _))
theorem zxh (hcalm:X.calm=true)(hxe:X.xe=fun _ _=>False)(hkind:sc.kind=.function)(hcell:∀ y∈sc.names,y.2=.cell->sc.names.lookup y.1=some .cell)(hnames:∀ y∈sc.names,y.2=.local->sc.names.lookup y.1=some .local)
  (hfr:zdP (fun x=>X.env.kindOf x=some .cell) sc.names) (hfv:zg0 X sc free fv) (hi:PI X tg iter wi)
  (hg:∀ cl C s₀ H₀ ex,PG (inner X sc (own++free) cl C s₀ H₀ ex) tg g) (ht:∀ cl C s₀ H₀ ex,PFs (inner X sc (own++free) cl C s₀ H₀ ex) ifs tc) (he:∀ cl C s₀ H₀ ex,PE (inner X sc (own++free) cl C s₀ H₀ ex) elt te)
  (hs:∀ x,foldedSetIterable iter X.env x=pure x:=by intro _;rfl):PE X (.ListComp elt [⟨tg,iter,ifs,0⟩] sc pos) (tLC own fv wi g tc te):=by
 intro Z9 s U H Q I q
 obtain⟨cl,hclos,hcl1,hcl2⟩:=ziW (env:=X.env) (sc:=sc) fun y hy e=>I.ok.has y.1 (.inl (hfr.of y hy e))
 rw [eval_ListComp]
 refine wpAny_comprehension_free (use:=none) rfl hs hclos hkind hnames (Z0 (hi Z9 s U H _ I q) fun v s1 h1=>Z0 h1 fun itv s2 h2=>?_)
 obtain⟨it,fp,tn,J,H2,e,I2,T,st2,f2,q2⟩:=h2
 subst e
 refine ziF (RR:=fun acc C=>compPost (model X.prog X.w) X.A X.xe none (EP X Z9 U Q) acc C) hcalm hxe hkind hcell hfr hfv hg ht he I2 T st2 f2 q2 hcl1 hcl2 ?_
 intro p C m H' s' hm I' hC hCl hC0 hCc hCp q'
 exact⟨m,hm,fun h' hs'=>⟨.ref p,H',I'.turned (t':=s'.toks) (fun b o hb e=>hs'.extBut b o hb e) hC hCl (.inr hC0) hCc hCp,rfl,q'⟩⟩
theorem zuu {i:Nat}{y:Str}{py spos:Pos}(hN:X.N.Nodup)(hy:X.N[i]?=some y)(hyl:X.env.scope.names.lookup y=some .local)(hcalm:X.calm=true)(hxe:X.xe=fun _ _=>False)(hkind:sc.kind=.function)(hcell:∀ y∈sc.names,y.2=.cell->sc.names.lookup y.1=some .cell)(hnames:∀ y∈sc.names,y.2=.local->sc.names.lookup y.1=some .local)
  (hfr:zdP (fun x=>X.env.kindOf x=some .cell) sc.names) (hfv:zg0 X sc free fv) (hi:PI X tg iter wi)
  (hg:∀ cl C s₀ H₀ ex,PG (inner X sc (own++free) cl C s₀ H₀ ex) tg g) (ht:∀ cl C s₀ H₀ ex,PFs (inner X sc (own++free) cl C s₀ H₀ ex) ifs tc) (he:∀ cl C s₀ H₀ ex,PE (inner X sc (own++free) cl C s₀ H₀ ex) elt te)
  (hsw:swapsWith (.ListComp elt [⟨tg,iter,ifs,0⟩] sc pos) (some (.Name y py)) spos.line X.env=pure true:=by rfl)
  (hs:∀ x,foldedSetIterable iter X.env x=pure x:=by intro _;rfl):PS X (.Assign [.Name y py] (.ListComp elt [⟨tg,iter,ifs,0⟩] sc pos) spos) (zrQ (tLC own fv wi g tc te) (zu i)):=by
 intro Z9 s U H D I q
 obtain⟨cl,hclos,hcl1,hcl2⟩:=ziW (env:=X.env) (sc:=sc) fun y hy e=>I.ok.has y.1 (.inl (hfr.of y hy e))
 rw [exec_Assign_Name_used _ _ _ _ hsw]
 refine wpAny_bind (wpAny_standAt (wpAny_bind ?_))
 show wpAny _ X.A (do let _ <- comprehension (.ListComp elt [⟨tg,iter,ifs,0⟩] sc pos) sc X.env _ (newList []) false (eval iter X.env) (some (assign (.Name y py) X.env))) _ _ s
 refine wpAny_bind (wpAny_mono (wpAny_comprehension_free (use:=some (assign (.Name y py) X.env)) (Q:=fun _ s'=>SP X Z9 D .next s') rfl hs hclos hkind hnames
  (Z0 (hi Z9 s U H _ I q) fun v s1 h1=>Z0 h1 fun itv s2 h2=>?_)) (fun _ s' hq=>wpAny_pure (wpAny_pure hq)) fun _ _ e=>e)
 obtain⟨it,fp,tn,J,H2,e,I2,T,st2,f2,q2⟩:=h2
 subst e
 refine ziF (RR:=fun acc C=>compPost (model X.prog X.w) X.A X.xe (some (assign (.Name y py) X.env)) (fun _ s'=>SP X Z9 D .next s') acc C) (Q:=fun x H1=>zu i x U H1 D.nx) hcalm hxe hkind hcell hfr hfv hg ht he I2 T st2 f2 q2 hcl1 hcl2 ?_
 intro p C m H' s' hm I' hC hCl hC0 hCc hCp q'
 show wpAny _ X.A (assign (.Name y py) X.env (.ref p)) _ _ _
 refine wpAny_assign_Name (zkt (v:=.ref p) I' hN hy (.inl hyl) rfl (fun s'' I'' hsb=>?_) (.inr hyl))
 obtain⟨a,hsb,ha⟩:=hsb
 have hCa:C≠a:=by
  rcases ha with rfl | ha
  ·exact hCl
  ·exact fun e=>hCc _ _ ha e.symm
 refine⟨m,hm.sameBut hsb hCa,fun h' hs'=>⟨_,H',I''.turned (t':=s''.toks) (fun b o hb e=>hs'.extBut b o hb e) hC hCl (.inr hC0) hCc hCp,q'⟩⟩
end
section
variable {U:L2.St}{H:Hp}{K:PySem.W.Frag}
end
section
variable {X:Cx}{tg:Expr}
end
mutual
inductive Dt (K:PySem.W.Frag)(H:Hp):V->PyData->Prop
 | non:Dt K H .non .none
 | bl (b:Bool):Dt K H (.bl b) (.bool b)
 | int (i:Int):Dt K H (.int i) (.int i)
 | tup {a:Addr} {xs:List V} {ds:List PyData}:ZF K H a xs->ziP K H xs ds->Dt K H (.ref a) (.tuple ds)
 | lst {a:Addr} {xs:List V} {ds:List PyData}:Zo K H a xs->ziP K H xs ds->Dt K H (.ref a) (.list ds)
inductive ziP (K:PySem.W.Frag)(H:Hp):List V->List PyData->Prop
 | nil:ziP K H [] []
 | cons {x:V} {xs:List V} {d:PyData} {ds:List PyData}:Dt K H x d->ziP K H xs ds->ziP K H (x::xs) (d::ds)
end
section
variable {X:Cx}{Z9:List (Addr×Obj)}{U:L2.St}{H:Hp}{s:Shared}
end
section
variable {X:Cx}{Z9:List (Addr×Obj)}{U:L2.St}{H:Hp}{s:Shared}
theorem _root_.L2.Inv.turnNew {h':Heap}{ch:List Addr}{a:Addr}{o:HO}{t':Nat}(I:Inv X Z9 U H s)(hf:∀ b∈ch,zeP X Z9 H b)(k:∀ b u,b∉ch->s.heap.get? b=some u->h'.get? b=some u)(ha:s.heap.objs.size<=a)
  (new:YZ X.prog X.w (upd H a o) h' a o):Inv X Z9 U (upd H a o) { s with heap:=h',toks:=t' }:=by
 have lt:∀ b u,s.heap.get? b=some u->b≠a:=fun b u e z=>by
  have:=qv e
  rw [z] at this;exact WR _ (qE this ha)
 have ltH:∀ b u,H b=some u->b≠a:=fun b u e z=>by
  have:=I.hok.lt e
  rw [z] at this;exact WR _ (qE this ha)
 have nch:∀ b u,H b=some u->b∉ch:=fun b u e z=>by rw [(hf b z).1] at e;cases e
 refine I.step (g':=s.gens) (d':=s.drawn) (ch:=ch) (fun b hb=>⟨(hf b hb).2.2.2.1,(hf b hb).2.1,(hf b hb).2.2.2.2.1,(hf b hb).2.2.2.2.2⟩) (fun b u _ _ hc e _=>k b u hc e) (fun b u _ _ hc e _=>⟨u.slots,k b u hc e⟩)
  (fun b u _ e n=>by rw [zU (lt b u e)];exact n) (fun b u hc e=>⟨u,k b u hc e⟩) (fun b xs e=>by rw [zU (ltH b _ e)];exact e) (fun b u v e=>by rw [zU (ltH b _ e)];exact e)
  (fun b ps e=>⟨#[],by rw [zU (ltH b _ e),e];simp⟩) (fun m hm=>?_) (fun b u e=>?_) I.bare
 ·obtain⟨ob,es,ep,ho,r⟩:=hm
  exact⟨ob,es,ep,k _ ob (fun z=>(hf _ z).2.1 rfl) ho,r⟩
 ·by_cases hb:b=a
  ·subst hb
   rw [Xr] at e
   cases e
   exact new
  ·rw [zU hb] at e
   refine (I.hok b u e).stay (fun c v hc q=>k c v ?_ q) (fun c q=>by rw [zU (ltH c _ q)];exact q) fun c ys q=>by rw [zU (ltH c _ q)];exact q
   rcases hc with z | z
   ·rw [z];exact nch b u e
   ·exact nch c _ z
theorem _root_.L2.Inv.turnedL {h':Heap}{ch:List Addr}{t':Nat}(I:Inv X Z9 U H s)(hf:∀ b∈ch,zeP X Z9 H b)(k:∀ b u,b∉ch->s.heap.get? b=some u->h'.get? b=some u):Inv X Z9 U H { s with heap:=h',toks:=t' }:=by
 have nch:∀ b u,H b=some u->b∉ch:=fun b u e z=>by rw [(hf b z).1] at e;cases e
 refine I.step (g':=s.gens) (d':=s.drawn) (ch:=ch) (fun b hb=>⟨(hf b hb).2.2.2.1,(hf b hb).2.1,(hf b hb).2.2.2.2.1,(hf b hb).2.2.2.2.2⟩) (fun b u _ _ hc e _=>k b u hc e) (fun b u _ _ hc e _=>⟨u.slots,k b u hc e⟩)
  (fun b u _ e n=>n) (fun b u hc e=>⟨u,k b u hc e⟩) (fun b xs e=>e) (fun b u v e=>e) (fun b ps e=>⟨#[],by rw [e];simp⟩) (fun m hm=>?_) (fun b u e=>?_) I.bare
 ·obtain⟨ob,es,ep,ho,r⟩:=hm
  exact⟨ob,es,ep,k _ ob (fun z=>(hf _ z).2.1 rfl) ho,r⟩
 ·refine (I.hok b u e).stay (fun c v hc q=>k c v ?_ q) (fun c q=>q) fun c ys q=>q
  rcases hc with z | z
  ·rw [z];exact nch b u e
  ·exact nch c _ z
end
section
variable {X:Cx}
end
def Ite (K:PySem.W.Frag)(l:Addr):It :=
  ⟨fun i H=>∃ xs x,Zo K H l xs/\xs[i]?=some x,
   fun i H v H'=>∃ p,v=.ref p/\H p=none/\∀ xs x,Zo K H l xs->xs[i]?=some x->H'=upd H p (.tup [.int i,x]),
   fun i H=>∃ xs,Zo K H l xs/\xs.length<=i⟩
theorem zqC {P:Program}{w:World}{K:PySem.W.Frag}{es:List Expr}{kk:Nat}{pos:Pos}{e it l:Addr}(hne:e≠it) :
  Turn P w K (.Tuple es kk pos) (Ite K l) [e,it] e (fun i h=>(∃ old,IsEnum h e it i old)/\h.IsListIter it l i) where
 mem:=by simp
 obj:=fun i h st b hb=>by
  obtain⟨⟨old,he⟩,⟨o1,h1,_,h1d⟩⟩:=st
  simp only [qg,qH,or_false] at hb
  rcases hb with rfl | rfl
  ·exact⟨_,he,fun v q=>by cases (show Data.fields _=Data.cell v from q)⟩
  ·exact⟨_,h1,fun v q=>by rw [h1d] at q;cases q⟩
 keep:=fun i h h' st k=>by
  obtain⟨⟨old,he⟩,h1⟩:=st
  exact⟨⟨old,k e (by simp) _ he⟩,h1.at fun o q=>k it (by simp) o q⟩
 item:=by
  intro X hP hw hK hc i Z9 s U H E I hf st hg
  subst hP hw hK
  obtain⟨⟨old,he⟩,h1⟩:=st
  obtain⟨xs,x,hx1,hx⟩:=hg
  obtain⟨its,rx,px,zx⟩:=I.list hx1
  obtain⟨u,hu,ru⟩:=Vals.get rx hx
  refine wpAny_pyNext_enum_item he h1 px.isList (by simpa using hu) hne fun h' a1 a2 a3 a4 hk=>?_
  refine⟨_,rfl,wpAny_letOwnedTupleGo_enum (s:={ s with heap:=h',toks:=s.toks+1 }) a1 fun h'' he'' hs''=>?_⟩
  have lt:∀ {c o},s.heap.get? c=some o->s.heap.objs.size≠c:=fun q=>qan (qv q)
  have k2:∀ b u,b∉[e,it]->s.heap.get? b=some u->h''.get? b=some u:=fun b u hb q=>by
   simp only [qg,qH,or_false,not_or] at hb
   exact hs''.extBut b u hb.1 (hk b u hb.1 hb.2 q)
  have new:h''.get? s.heap.objs.size=some { cls:=.type "tuple",data:=.seq #[.int i s.toks,u] }:=hs''.extBut _ _ (lt he) a3
  refine⟨.ref s.heap.objs.size,upd H s.heap.objs.size (.tup [.int i,x]),I.turnNew (t':=s.toks+1) hf k2 (qf _) ⟨by show 2<=sizeLine;decide,[.int i s.toks,u],.cons ⟨_,rfl⟩ (.cons ru .nil),_,new,rfl,_,rfl⟩,rfl,⟨_,rfl,I.fresh,?_⟩,?_,fun b hb=>?_⟩
  ·intro xs' x' hx1' hx'
   cases I.list_inj hx1 hx1'
   rw [hx] at hx'
   cases hx'
   rfl
  ·exact⟨⟨_,he''⟩,a2.extBut hs''.extBut (Ne.symm hne)⟩
  ·have:∃ o,s.heap.get? b=some o:=by
    simp only [qg,qH,or_false] at hb
    obtain⟨o1,e1,_⟩:=h1
    rcases hb with rfl | rfl
    ·exact⟨_,he⟩
    ·exact⟨_,e1⟩
   obtain⟨o,q⟩:=this
   rw [zU (lt q).symm]
   exact (hf b hb).1
 done:=by
  intro X hP hw hK hc i Z9 s U H E I hf st hg
  subst hP hw hK
  obtain⟨⟨old,he⟩,h1⟩:=st
  obtain⟨xs,hx1,hl⟩:=hg
  obtain⟨its,rx,px,zx⟩:=I.list hx1
  have n1:=rx.length
  refine wpAny_pyNext_enum_end (I.ok.hd hc) he h1 px.isList (by rw [qaK];exact qq (by lia)) fun h' hk=>⟨rfl,I.turnedL (t':=s.toks) hf fun b u hb q=>?_⟩
  simp only [qg,qH,or_false,not_or] at hb
  exact hk b u hb.2 q
 self:=fun _ _ _ _ _ st h=>by
  obtain⟨⟨old,he⟩,_⟩:=st
  exact wpAny_pyIter_enum he h
section
variable {X:Cx}
end
def hT (x1 z1 x2 z2 a b:Int):Int:=z1*(x2-x1)*b+(z2-z1)*(a-x1*b)
def hB (x1 x2 b:Int):Int:=(x2-x1)*b
section
variable {U:L2.St}{H:Hp}
end
structure zjT (P:Program)(w:World)(K:PySem.W.Frag)(mg:Str->Option Value)(base:Heap)(k:Nat)(x:Str)(sp:Sp):Prop where
 ex:∃ (C f:Addr) (fd:FuncData) (ps:List Str) (sp0:Sp),Mk K C f/\zQ P w K mg base ZR k f fd ps sp0/\Binds K fd ps []/\mg x=some (.ref C) /\
  ∀ vs H Q,sp vs H Q E0->∀ x dx,H x=none->H dx=none->dx≠x->sp0 (.ref x::vs) (upd (upd H dx (.own x)) x (.ins C dx [])) (fun v H2=>v=.non/\Q (.ref x) H2) E0
theorem zyk {X:Cx}{k j:Nat}{x:Str}{sp:Sp}{p pos:Pos}{e:Expr}{es:List Expr}{t:TA}(G:zjT X.prog X.w X.K X.mg X.base k x sp)(hr:Zg j X.A)(hk:k+1<=j)(hg:Gl X x)
  (ha:PA X (e::es) t) (hdb:(x==("__debug__":Str))=false:=by decide) (he:starEach (e::es) X.env=(false,eval e X.env)::starEach es X.env:=by rfl) (hpl:(backTo pos (starEach es X.env)).any (·.1)=false:=by rfl) :
  PE X (.Call (.Name x p) (e::es) [] pos) (zoU sp [] E0 t):=by
 intro Z9 s U H Q I h
 obtain⟨C,f,fd,ps,sp0,M,F,b,hm,imp⟩:=G.ex
 refine wpAny_Call_Name_kw (zfE I hg hm ?_ hdb)
 refine PySem.W.callWith_K (h₀:=X.base) I.ok.mod.kin M.kp (Z0 (ha pos Z9 s U H _ I h) fun us s1 ⟨vs,H1,I1,r,q⟩=>⟨I1.kIn,?_⟩) he hpl
 have q':sp (vs++[]) H1 Q E0:=q
 rw [qU] at q'
 exact zrV (dvs:=[]) (ds:=[]) M F (hr.mono hk) b .nil zsu I1 r fun x dx h1 h2 h3=>by rw [qU];exact imp vs H1 Q q' x dx h1 h2 h3
theorem zs9 {X:Cx}{x:Str}{n:Int}{pos:Pos}(hg:Gl X x)(hm:∃ t,X.mg x=some (.int n t))(hd:(x==("__debug__":Str))=false:=by decide):PE X (.Name x pos) (tC (.int n)):=by
 obtain⟨t,ht⟩:=hm
 exact znt (v:=.int n) hg ht ⟨t,rfl⟩ hd
section
variable {U:L2.St}{H:Hp}{K:PySem.W.Frag}
end
section
variable {X:Cx}{K:PySem.W.Frag}
theorem zwz {Z9:List (Addr×Obj)}{U:L2.St}{H:Hp}{s:Shared}{p:Addr}{its:List Value}(_:Inv X Z9 U H s)(pl:PlainL s.heap p its.toArray) :
  p<s.heap.objs.size/\(s.heap.push { cls:=.type "list_iterator",data:=.fields #[.ref p,.int 0 0] }).IsListIter s.heap.objs.size p 0:=by
 obtain⟨o,ho,_⟩:=pl.isList
 exact⟨qv ho,_,qr _ rfl,rfl,rfl⟩
theorem zvE {H:Hp}{Z9:List (Addr×Obj)}{U:L2.St}{s:Shared}{h':Heap}{tk:Nat}(I:Inv X Z9 U H s){o:Obj}(hk:∀ b u,b∉[s.heap.objs.size]->(s.heap.push o).get? b=some u->h'.get? b=some u) :
  Inv X Z9 U H { s with heap:=h',toks:=tk }:=I.kept (t':=tk) fun d u e=>hk d u (fun hm=>by
   have h1:d=s.heap.objs.size:=by simpa using hm
   have h2:=qv e
   rw [h1] at h2
   exact WR _ h2) (qd _ e)
def zy6 (K:PySem.W.Frag):List V->Hp->VK->Prop:=fun xs H Q=>∃ (p:Addr) (bs:List Bool),xs=[.ref p]/\Zo K H p (bs.map V.bl)/\Q (.bl (bs.all id)) H
theorem zqN {bs:List Bool}{its:List Value}(rv:Vals (bs.map V.bl) its){i:Nat}{v:Value}(h:its.toArray[i]?=some v):v=.bool (bs.getD i false):=by
 rw [<- qau] at h
 have hi:i<its.length:=by
  rcases qM i its.length with g | g
  ·exact g
  ·rw [qq (by simpa using g)] at h;cases h
 have hl:=rv.length
 rw [qb] at hl
 have e:(bs.map V.bl)[i]?=some (.bl (bs.getD i false)):=by
  rw [qi,qc (by lia)]
  simp [qD,qc (show i<bs.length by lia)]
 obtain⟨u,hu,ru⟩:=rv.get e
 rw [show its.toArray.toList=its from rfl,hu] at h
 cases h
 exact ru
theorem all_range (bs:List Bool):(List.range bs.length).all (fun i=>bs.getD i false)=bs.all id:=by
 rw [qaB,qaf,qaf]
 constructor
 ·intro h b hb
  obtain⟨i,hi,rfl⟩:=qT.mp hb
  simpa [qD,qc hi] using h i (List.mem_range.mpr hi)
 ·intro h i hi
  rw [List.mem_range] at hi
  have:=h bs[i] (qbt hi)
  simpa [qD,qc hi] using this
theorem zpc (hK:X.K=K)(hc:X.calm=true):YF X (.builtin "all") (zy6 K):=fun Z9 s U H xs us Q I r h=>by
 subst hK
 obtain⟨p,bs,rfl,hS,q⟩:=h
 obtain⟨u,rfl,ru⟩:=vals1 r
 cases ru
 obtain⟨its,rv,pl,hz⟩:=I.list hS
 obtain⟨lt,st⟩:=zwz I pl
 have hl:=rv.length
 rw [qb] at hl
 have W:=Walks.list (prog:=X.prog) (w:=X.w) (A:=X.A.in1) (I.ok.hd hc) s.heap.objs.size p (qL lt) its.toArray
 refine call_all_walk (wpAny_pyIter_list pl.isList ⟨s.heap.objs.size,[s.heap.objs.size,p],[s.heap.objs.size],_,_,_,fun i=>bs.getD i false,rfl,W,⟨st,pl.isList.push _⟩,?_,?_⟩)
 ·intro i v s' Q' E' hv hq
  rw [zqN rv hv]
  exact wpAny_truthy_bool hq
 ·intro h' tk hk
  rw [qm,<- hl,all_range]
  exact⟨.bl _,H,zvE (s:=s) I hk,rfl,q⟩
def zxd (K:PySem.W.Frag):List V->Hp->VK->Prop:=fun xs H Q=>∃ (p:Addr) (ns:List Int),xs=[.ref p]/\Zo K H p (ns.map V.int)/\0<ns.length/\∀ m:Int,m∈ns->(∀ a∈ns,a<=m)->Q (.int m) H
def zxH (K:PySem.W.Frag):List V->Hp->VK->Prop:=fun xs H Q=>∃ (p:Addr) (ns:List Int),xs=[.ref p]/\Zo K H p (ns.map V.int)/\0<ns.length/\∀ m:Int,m∈ns->(∀ a∈ns,m<=a)->Q (.int m) H
theorem zgb:∀ {ns:List Int} {its:List Value},Vals (ns.map V.int) its->∃ xs:Array (Int×Tok),its.toArray=intItems xs/\xs.toList.map (·.1)=ns
 | [],_,h=>by cases h;exact⟨#[],by simp [intItems],rfl⟩
 | n::ns,_,h=>by
  cases h with
  | cons r t =>
   obtain⟨tk,rfl⟩:=r
   obtain⟨xs,e1,e2⟩:=zgb t
   refine⟨#[(n,tk)]++xs,?_,?_⟩
   ·apply Array.toList_inj.mp
    have:=congrArg Array.toList e1
    simp [intItems] at this ⊢
    exact this
   ·simp [e2]
theorem zp6 (hK:X.K=K)(hc:X.calm=true):YF X (.builtin "max") (zxd K):=fun Z9 s U H xs us Q I r h=>by
 subst hK
 obtain⟨p,ns,rfl,hS,hne,q⟩:=h
 obtain⟨u,rfl,ru⟩:=vals1 r
 cases ru
 obtain⟨its,rv,pl,hz⟩:=I.list hS
 obtain⟨xs,e1,e2⟩:=zgb rv
 have hsz:0<xs.size:=by rw [<- qR,<- qb (f:=(·.1)),e2];exact hne
 refine max_intList (I.ok.hd hc) (e1▸pl.isList) hsz fun v h' tk hv hk=>?_
 obtain⟨t,rfl⟩:=intItems_at hv
 obtain⟨h1,h2⟩:=argBest_gt (numAt xs) (xs.size-1)
 refine⟨.int _,H,I.kept (t':=tk) hk,⟨t,rfl⟩,q _ ?_ fun a ha=>?_⟩
 ·rw [<- e2,numAt_eq];exact getD_mem (by rw [qb,qR];lia)
 ·rw [<- e2] at ha
  obtain⟨j,hj,rfl⟩:=mem_getD ha
  rw [qb,qR] at hj
  rw [<- numAt_eq];exact h2 j (by lia)
theorem zqr (hK:X.K=K)(hc:X.calm=true):YF X (.builtin "min") (zxH K):=fun Z9 s U H xs us Q I r h=>by
 subst hK
 obtain⟨p,ns,rfl,hS,hne,q⟩:=h
 obtain⟨u,rfl,ru⟩:=vals1 r
 cases ru
 obtain⟨its,rv,pl,hz⟩:=I.list hS
 obtain⟨xs,e1,e2⟩:=zgb rv
 have hsz:0<xs.size:=by rw [<- qR,<- qb (f:=(·.1)),e2];exact hne
 refine min_intList (I.ok.hd hc) (e1▸pl.isList) hsz fun v h' tk hv hk=>?_
 obtain⟨t,rfl⟩:=intItems_at hv
 obtain⟨h1,h2⟩:=argBest_lt (numAt xs) (xs.size-1)
 refine⟨.int _,H,I.kept (t':=tk) hk,⟨t,rfl⟩,q _ ?_ fun a ha=>?_⟩
 ·rw [<- e2,numAt_eq];exact getD_mem (by rw [qb,qR];lia)
 ·rw [<- e2] at ha
  obtain⟨j,hj,rfl⟩:=mem_getD ha
  rw [qb,qR] at hj
  rw [<- numAt_eq];exact h2 j (by lia)
def zw8 (K:PySem.W.Frag):List V->Hp->VK->Prop:=fun xs H Q=>∃ p ys,xs=[.ref p]/\((Zo K H p ys/\∀ l,H l=none->Q (.ref l) (upd H l (.tup ys)))\/(ZF K H p ys/\Q (.ref p) H))
theorem zqI (hK:X.K=K):YF X (.type "tuple") (zw8 K):=hK▸zkR
end
section
variable {X:Cx}{K:PySem.W.Frag}
def zx2 (K:PySem.W.Frag):R2:=fun x y H Q=>∃ l b xs zs,x=.ref l/\y=.ref b/\Zo K H l xs/\Zo K H b zs/\xs.length+zs.length<=sizeLine/\∀ p,H p=none->Q (.ref p) (upd H p (.lst (xs++zs)))
theorem zt4 (hK:X.K=K):Zk X (binaryOp .Add) (zx2 K):=by
 subst hK
 intro Z9 s U H x y v u Q I rx ry h
 obtain⟨l,b,xs,zs,rfl,rfl,hH,hB,hz,q⟩:=h
 cases rx
 cases ry
 obtain⟨its,r,pl,_⟩:=I.list hH
 obtain⟨its2,r2,pl2,_⟩:=I.list hB
 obtain⟨⟨cls,dd,data,sl⟩,ho,hc,n,hd⟩:=pl.isList
 obtain⟨⟨cls2,dd2,data2,sl2⟩,ho2,hc2,n2,hd2⟩:=pl2.isList
 simp only at hc hd hc2 hd2
 subst hc hd hc2 hd2
 have e1:=r.length
 have e2:=r2.length
 refine concat_meets ⟨_,ho,rfl⟩ ⟨_,ho2,rfl⟩ noFill_list_add seq_list_add PySem.F.slot_list_add PySem.F.entry_list_add (PySem.F.args_list_add_2 _ _) (list_addW l b its.toArray its2.toArray n n2 dd dd2 sl sl2 (by rw [qm,qm];lia)) ⟨ho,ho2,?_⟩
 have ea:its.toArray++its2.toArray=(its++its2).toArray:=by simp
 rw [ea]
 exact⟨.ref _,_,I.lnew (t':=s.toks) (r.append r2) (by rw [qh];lia),rfl,q _ I.fresh⟩
end
section
variable {U:L2.St}{K:PySem.W.Frag}{own:List Str}{fv:List Nat}{g:TG}{tc:TT}{te:TE}{R:Hp->Prop}{H1:Hp}{p a:Addr}{xs:List V}
end
def zfj (H:Hp)(ps:List Addr)(cs:List (Int×Int)):Prop:=Paired (fun (p:Addr) (c:Int×Int)=>H p=some (.tup [.int c.1,.int c.2])) ps cs
theorem zfj.length {H:Hp}{ps:List Addr}{cs:List (Int×Int)}(h:zfj H ps cs):ps.length=cs.length:=Paired.length h
theorem VR {α:Type}{xs:List α}{i:Nat}{x:α}(h:xs[i]?=some x):i<xs.length:=by
 rcases qM i xs.length with g | g
 ·exact g
 ·rw [qq g] at h;cases h
open PySem PySem.W PyProof.Rows
def ZC {α:Type}(lt:Nat->Nat->Bool):KasT α->α
 | .ret a=>a
 | .ask i j k=>ZC lt (k (lt i j))
theorem zc1 {α β:Type}(lt:Nat->Nat->Bool)(f:α->KasT β):∀ t:KasT α,ZC lt (t.bind f)=ZC lt (f (ZC lt t))
 | .ret _=>rfl
 | .ask i j k=>zc1 lt f (k (lt i j))
structure Wb (lt:Nat->Nat->Bool):Prop where
 asymm:∀ a b,lt a b=true->lt b a=false
 ntrans:∀ a b c,lt b a=false->lt c b=false->lt c a=false
section
variable {lt:Nat->Nat->Bool}
abbrev ga (p:Array Nat)(i:Nat):Nat:=p.getD i 0
theorem zgJ (p:Array Nat)(i:Nat):ga p i=(p[i]?).getD 0:=by simp [ga,Array.getD_eq_getD_getElem?]
theorem zpF {p:Array Nat}{src d:Nat}(hs:src<p.size)(hd:d<=src)(k:Nat):ga (bubble p src d) k=if k=src-d then ga p src else if src-d<k/\k<=src then ga p (k-1) else ga p k:=by
 rw [zgJ,getElem?_bubble hs d hd]
 by_cases h1:k=src-d
 ·rw [if_pos h1,if_pos h1,zgJ]
 ·rw [if_neg h1,if_neg h1]
  by_cases h2:src-d<k/\k<=src
  ·rw [if_pos h2,if_pos h2,zgJ]
  ·rw [if_neg h2,if_neg h2,zgJ]
theorem zcK {p:Array Nat}{i j:Nat}(hj:j<=p.size)(k:Nat):ga (kas_rev p i j) k=if i<=k/\k<j then ga p (i+j-1-k) else ga p k:=by
  unfold kas_rev
  rw [zgJ,getElem?_mirror_all hj]
  split<;>rw [zgJ]
def Wy (lt:Nat->Nat->Bool)(p:Array Nat)(n:Nat):Prop:=∀ i j,i<=j->j<n->lt (ga p j) (ga p i)=false
def W6 (lt:Nat->Nat->Bool)(p:Array Nat)(n:Nat):Prop:=∀ i j,i<=j->j<n->lt (ga p i) (ga p j)=false
def Eqs (lt:Nat->Nat->Bool)(p:Array Nat)(a b:Nat):Prop:=∀ i j,a<=i->i<b->a<=j->j<b->lt (ga p i) (ga p j)=false
theorem irr (S:Wb lt)(a:Nat):lt a a=false:=by
 cases h:lt a a with
 | false=>rfl
 | true=>have:=S.asymm a a h;rw [h] at this;exact this
theorem Wy.snoc (S:Wb lt){p:Array Nat}{n:Nat}(h1:1<=n)(h:Wy lt p n)(hn:lt (ga p n) (ga p (n-1))=false):Wy lt p (n+1):=by
 intro i j hij hj
 rcases qM j n with g | g
 ·exact h i j hij g
 ·have e:j=n:=by lia
  subst e
  rcases qM i j with g' | g'
  ·exact S.ntrans (ga p i) (ga p (j-1)) (ga p j) (h i (j-1) (by lia) (by lia)) hn
  ·have:i=j:=by lia
   subst this
   exact irr S _
theorem W6.snoc (S:Wb lt){p:Array Nat}{n:Nat}(h1:1<=n)(h:W6 lt p n)(hn:lt (ga p (n-1)) (ga p n)=false):W6 lt p (n+1):=by
 intro i j hij hj
 rcases qM j n with g | g
 ·exact h i j hij g
 ·have e:j=n:=by lia
  subst e
  rcases qM i j with g' | g'
  ·exact S.ntrans (ga p j) (ga p (j-1)) (ga p i) hn (h i (j-1) (by lia) (by lia))
  ·have:i=j:=by lia
   subst this
   exact irr S _
theorem W6.rev {p:Array Nat}{n:Nat}(hn:n<=p.size)(h:W6 lt p n):Wy lt (kas_rev p 0 n) n:=by
 intro i j hij hj
 rw [zcK hn,zcK hn,if_pos ⟨by lia,hj⟩,if_pos ⟨by lia,by lia⟩]
 exact h _ _ (by lia) (by lia)
theorem Wy.rev {p:Array Nat}{n:Nat}(hn:n<=p.size)(h:Wy lt p n):W6 lt (kas_rev p 0 n) n:=by
 intro i j hij hj
 rw [zcK hn,zcK hn,if_pos ⟨by lia,by lia⟩,if_pos ⟨by lia,by lia⟩]
 exact h _ _ (by lia) (by lia)
theorem W6.turn (S:Wb lt){p:Array Nat}{n a:Nat}(hn:n<=p.size)(ha:a<=n)(h:W6 lt p n)(he:Eqs lt p a n):W6 lt (kas_rev p a n) n:=by
 intro i j hij hj
 rw [zcK hn,zcK hn]
 by_cases hi:a<=i
 ·rw [if_pos ⟨hi,by lia⟩,if_pos ⟨by lia,hj⟩]
  exact he _ _ (by lia) (by lia) (by lia) (by lia)
 ·rw [if_neg (by lia)]
  by_cases hj':a<=j
  ·rw [if_pos ⟨hj',hj⟩]
   exact h _ _ (by lia) (by lia)
  ·rw [if_neg (by lia)]
   exact h _ _ hij hj
theorem zcW {p:Array Nat}{i j:Nat}:(kas_rev p i j).size=p.size:=mirror_size _ _ _ _
theorem zcf {p:Array Nat}{i j:Nat}:(kas_rev p i j).Perm p:=mirror_perm _ _ _ _
theorem zlD (S:Wb lt)(p:Array Nat):∀ f n,1<=n->Wy lt p n->Wy lt p (ZC lt (kas_asc p f n))/\n<=ZC lt (kas_asc p f n)/\ZC lt (kas_asc p f n)<=n+f/\(ZC lt (kas_asc p f n)<n+f->lt (ga p (ZC lt (kas_asc p f n))) (ga p (ZC lt (kas_asc p f n)-1))=true)
 | 0,n,_,h=>⟨h,qf _,qf _,fun z=>absurd z (WR _)⟩
 | f+1,n,h1,h=>by
  cases hc:lt (ga p n) (ga p (n-1)) with
  | true =>
   have e:ZC lt (kas_asc p (f+1) n)=n:=by
    show ZC lt (if lt (ga p n) (ga p (n-1))=true then KasT.ret n else kas_asc p f (n+1))=n
    rw [if_pos hc];rfl
   rw [e]
   exact⟨h,qf _,by lia,fun _=>hc⟩
  | false =>
   have e:ZC lt (kas_asc p (f+1) n)=ZC lt (kas_asc p f (n+1)):=by
    show ZC lt (if lt (ga p n) (ga p (n-1))=true then KasT.ret n else kas_asc p f (n+1))=_
    rw [if_neg (by rw [hc];exact qu)]
   rw [e]
   obtain⟨a1,a2,a3,a4⟩:=zlD S p f (n+1) (by lia) (h.snoc S h1 hc)
   exact⟨a1,by lia,by lia,fun z=>a4 (by lia)⟩
theorem zhr (S:Wb lt):∀ f (p:Array Nat) n q,1<=n->n+f<=p.size->q+1<=n->W6 lt p n->Eqs lt p (n-(q+1)) n ->
    let r:=ZC lt (kas_desc f p n q)
    r.1.size=p.size/\r.1.Perm p/\n<=r.2.1/\r.2.1<=n+f/\r.2.2+1<=r.2.1/\W6 lt r.1 r.2.1/\Eqs lt r.1 (r.2.1-(r.2.2+1)) r.2.1
  | 0,p,n,q,h1,hz,hq,h,he=>⟨rfl,qbd _,qf _,qf _,hq,h,he⟩
  | f+1,p,n,q,h1,hz,hq,h,he=>by
    have one:∀ p':Array Nat,Eqs lt p' (n+1-(0+1)) (n+1):=fun p' i j a b c d=>by
      have e1:i=n:=by lia
      have e2:j=n:=by lia
      subst e1;subst e2
      exact irr S _
    cases hc:lt (ga p n) (ga p (n-1)) with
    | true =>
      have hn:lt (ga p (n-1)) (ga p n)=false:=S.asymm _ _ hc
      by_cases hq0:q > 0
      . have e : ZC lt (kas_desc (f + 1) p n q) = ZC lt (kas_desc f (kas_rev p (n - (q + 1)) n) (n + 1) 0) := by
          show ZC lt (if lt (ga p n) (ga p (n-1))=true then (if q > 0 then kas_desc f (kas_rev p (n-(q+1)) n) (n+1) 0 else kas_desc f p (n+1) 0) else _)=_
          rw [if_pos hc,if_pos hq0]
        have ht:=h.turn S (a:=n-(q+1)) (by lia) (by lia) he
        have k1:ga (kas_rev p (n-(q+1)) n) n=ga p n:=by rw [zcK (by lia),if_neg (by lia)]
        have k2:ga (kas_rev p (n-(q+1)) n) (n-1)=ga p (n-(q+1)):=by
          rw [zcK (by lia),if_pos ⟨by lia,by lia⟩]
          congr 1;lia
        have hs:=W6.snoc S (p:=kas_rev p (n-(q+1)) n) h1 ht (by
          rw [k1,k2]
          exact S.ntrans (ga p n) (ga p (n-1)) (ga p (n-(q+1))) hn (he _ _ (by lia) (by lia) (by lia) (by lia)))
        have ih:=zhr S f (kas_rev p (n-(q+1)) n) (n+1) 0 (by lia) (by rw [zcW];lia) (by lia) hs (one _)
        rw [e]
        obtain⟨a1,a2,a3,a4,a5,a6,a7⟩:=ih
        exact⟨a1.trans zcW,a2.trans zcf,by lia,by lia,a5,a6,a7⟩
      . have e : ZC lt (kas_desc (f + 1) p n q) = ZC lt (kas_desc f p (n + 1) 0) := by
          show ZC lt (if lt (ga p n) (ga p (n-1))=true then (if q > 0 then kas_desc f (kas_rev p (n-(q+1)) n) (n+1) 0 else kas_desc f p (n+1) 0) else _)=_
          rw [if_pos hc,if_neg hq0]
        have ih:=zhr S f p (n+1) 0 (by lia) (by lia) (by lia) (h.snoc S h1 hn) (one _)
        rw [e]
        obtain⟨a1,a2,a3,a4,a5,a6,a7⟩:=ih
        exact⟨a1,a2,by lia,by lia,a5,a6,a7⟩
    | false =>
      cases hd:lt (ga p (n-1)) (ga p n) with
      | true =>
        have e:ZC lt (kas_desc (f+1) p n q)=(p,n,q):=by
          show ZC lt (if lt (ga p n) (ga p (n-1))=true then _ else KasT.ask (ga p (n-1)) (ga p n) fun d=>if d=true then .ret (p,n,q) else kas_desc f p (n+1) (q+1))=_
          rw [if_neg (by rw [hc];exact qu)]
          show ZC lt (if lt (ga p (n-1)) (ga p n)=true then _ else _)=_
          rw [if_pos hd];rfl
        rw [e]
        exact⟨rfl,qbd _,qf _,by show n<=_;lia,hq,h,he⟩
      | false =>
        have e:ZC lt (kas_desc (f+1) p n q)=ZC lt (kas_desc f p (n+1) (q+1)):=by
          show ZC lt (if lt (ga p n) (ga p (n-1))=true then _ else KasT.ask (ga p (n-1)) (ga p n) fun d=>if d=true then .ret (p,n,q) else kas_desc f p (n+1) (q+1))=_
          rw [if_neg (by rw [hc];exact qu)]
          show ZC lt (if lt (ga p (n-1)) (ga p n)=true then _ else _)=_
          rw [if_neg (by rw [hd];exact qu)]
        have heq:Eqs lt p (n+1-(q+1+1)) (n+1):=by
          intro i j a b c d
          rcases qM i n with gi | gi<;>rcases qM j n with gj | gj
          . exact he i j (by lia) gi (by lia) gj
          . have:j=n:=by lia
            subst this
            exact S.ntrans (ga p j) (ga p (j-1)) (ga p i) hd (he i (j-1) (by lia) gi (by lia) (by lia))
          . have:i=n:=by lia
            subst this
            exact S.ntrans (ga p j) (ga p (i-1)) (ga p i) (he (i-1) j (by lia) (by lia) (by lia) gj) hc
          . have e1:i=n:=by lia
            have e2:j=n:=by lia
            subst e1;subst e2
            exact irr S _
        have ih:=zhr S f p (n+1) (q+1) (by lia) (by lia) (by lia) (h.snoc S h1 hd) heq
        rw [e]
        obtain⟨a1,a2,a3,a4,a5,a6,a7⟩:=ih
        exact⟨a1,a2,by lia,by lia,a5,a6,a7⟩
def zho (lt:Nat->Nat->Bool)(p:Array Nat)(nrem:Nat)(r:Nat×Array Nat):Prop:=r.2.size=p.size/\r.2.Perm p/\1<=r.1/\r.1<=nrem/\Wy lt r.2 r.1
theorem zny (S:Wb lt){p:Array Nat}{n nrem:Nat}(h1:1<=n)(hn:n<=nrem)(hz:nrem<=p.size)(h:W6 lt p n):zho lt p nrem (ZC lt (kas_tail3 n nrem p)):=by
 have e:ZC lt (kas_tail3 n nrem p)=(ZC lt (kas_asc (kas_rev p 0 n) (nrem-n) n),kas_rev p 0 n):=by
  unfold kas_tail3;rw [zc1];rfl
 rw [e]
 obtain⟨a1,a2,a3,_⟩:=zlD S (kas_rev p 0 n) (nrem-n) n h1 (h.rev (by lia))
 exact⟨zcW,zcf,by show 1<=ZC lt _;lia,by show ZC lt _<=nrem;lia,a1⟩
theorem zhZ (S:Wb lt){p:Array Nat}{n nrem:Nat}(h1:1<=n)(hn:n+1<=nrem)(hz:nrem<=p.size)(h:W6 lt p (n+1)):zho lt p nrem (ZC lt (kas_descPart n nrem p)):=by
 unfold kas_descPart
 rw [zc1]
 have d:=zhr S (nrem-(n+1)) p (n+1) 0 (by lia) (by lia) (by lia) h (fun i j a b c d=>by
  have e1:i=n:=by lia
  have e2:j=n:=by lia
  subst e1;subst e2
  exact irr S _)
 dsimp only at d
 generalize ZC lt (kas_desc (nrem-(n+1)) p (n+1) 0)=r at d ⊢
 obtain⟨a1,a2,a3,a4,a5,a6,a7⟩:=d
 by_cases hq:r.2.2 > 0
 ·rw [if_pos hq]
  obtain⟨b1,b2,b3,b4,b5⟩:=zny S (p:=kas_rev r.1 (r.2.1-(r.2.2+1)) r.2.1) (n:=r.2.1) (nrem:=nrem) (by lia) (by lia) (by rw [zcW];lia) (a6.turn S (by lia) (by lia) a7)
  exact⟨b1.trans (zcW.trans a1),b2.trans (zcf.trans a2),b3,b4,b5⟩
 ·rw [if_neg hq]
  obtain⟨b1,b2,b3,b4,b5⟩:=zny S (p:=r.1) (n:=r.2.1) (nrem:=nrem) (by lia) (by lia) (by lia) a6
  exact⟨b1.trans a1,b2.trans a2,b3,b4,b5⟩
theorem zrR (S:Wb lt){p:Array Nat}{nrem:Nat}(h1:1<=nrem)(hz:nrem<=p.size):zho lt p nrem (ZC lt (kas_count nrem p)):=by
 unfold kas_count
 rw [zc1]
 have h0:Wy lt p 1:=fun i j a b=>by
  have e1:i=0:=by lia
  have e2:j=0:=by lia
  subst e1;subst e2
  exact irr S _
 obtain⟨a1,a2,a3,a4⟩:=zlD S p (nrem-1) 1 (qf _) h0
 generalize ZC lt (kas_asc p (nrem-1) 1)=n at a1 a2 a3 a4 ⊢
 by_cases hn:(n==nrem)=true
 ·rw [if_pos hn]
  have:n=nrem:=by simpa using hn
  exact⟨rfl,qbd _,a2,by show n<=nrem;lia,a1⟩
 ·rw [if_neg hn]
  have hne:n≠nrem:=by simpa using hn
  have hlt:=a4 (by lia)
  by_cases hn1:n > 1
  ·rw [if_pos hn1]
   show zho lt p nrem (ZC lt (if lt (ga p 0) (ga p (n-1))=true then KasT.ret (n,p) else kas_descPart n nrem (kas_rev p 0 n)))
   cases hc:lt (ga p 0) (ga p (n-1)) with
   | true=>rw [if_pos rfl];exact⟨rfl,qbd _,a2,by show n<=nrem;lia,a1⟩
   | false =>
    rw [if_neg qu]
    have hd:=a1.rev (n:=n) (by lia)
    have hs:=W6.snoc S (p:=kas_rev p 0 n) a2 hd (by
     have k1:ga (kas_rev p 0 n) n=ga p n:=by rw [zcK (by lia),if_neg (by lia)]
     have k2:ga (kas_rev p 0 n) (n-1)=ga p 0:=by rw [zcK (by lia),if_pos ⟨by lia,by lia⟩];congr 1;lia
     rw [k1,k2]
     exact S.ntrans (ga p n) (ga p (n-1)) (ga p 0) (S.asymm _ _ hlt) hc)
    obtain⟨b1,b2,b3,b4,b5⟩:=zhZ S (p:=kas_rev p 0 n) (n:=n) (nrem:=nrem) a2 (by lia) (by rw [zcW];lia) hs
    exact⟨b1.trans zcW,b2.trans zcf,b3,b4,b5⟩
  ·rw [if_neg hn1]
   have e:n=1:=by lia
   subst e
   exact zhZ S (qf _) (by lia) hz (W6.snoc S (qf _) (fun i j a b=>by
    have e1:i=0:=by lia
    have e2:j=0:=by lia
    subst e1;subst e2
    exact irr S _) (S.asymm _ _ hlt))
theorem ziB (S:Wb lt){p:Array Nat}{k:Nat}(h:Wy lt p k):∀ f l r,l<=r->r<=k->r-l<=f->(∀ i,i<l->lt (ga p k) (ga p i)=false)->(∀ i,r<=i->i<k->lt (ga p k) (ga p i)=true) ->
  let m:=ZC lt (kas_place p k f l r)
  m<=k/\(∀ i,i<m->lt (ga p k) (ga p i)=false)/\(∀ i,m<=i->i<k->lt (ga p k) (ga p i)=true)
 | 0,l,r,h1,h2,h3,hl,hr=>by
  have:l=r:=by lia
  subst this
  exact⟨h2,hl,hr⟩
 | f+1,l,r,h1,h2,h3,hl,hr=>by
  by_cases hlr:l ≥ r
  ·have e:ZC lt (kas_place p k (f+1) l r)=l:=by
    unfold kas_place;rw [if_pos hlr];rfl
   rw [e]
   have:l=r:=by lia
   subst this
   exact⟨h2,hl,hr⟩
  ·have e:ZC lt (kas_place p k (f+1) l r)=ZC lt (if lt (ga p k) (ga p ((l+r)/2))=true then kas_place p k f l ((l+r)/2) else kas_place p k f ((l+r)/2+1) r):=by
    conv=>lhs;unfold kas_place
    rw [if_neg hlr];rfl
   rw [e]
   cases hc:lt (ga p k) (ga p ((l+r)/2)) with
   | true =>
    rw [if_pos rfl]
    refine ziB S h f l ((l+r)/2) (by lia) (by lia) (by lia) hl fun i hi hik=>?_
    cases hx:lt (ga p k) (ga p i) with
    | true=>rfl
    | false =>
     have:=S.ntrans (ga p ((l+r)/2)) (ga p i) (ga p k) (h _ _ hi hik) hx
     rw [hc] at this;exact this.symm
   | false =>
    rw [if_neg qu]
    refine ziB S h f ((l+r)/2+1) r (by lia) h2 (by lia) (fun i hi=>?_) hr
    exact S.ntrans (ga p i) (ga p ((l+r)/2)) (ga p k) (h _ _ (by lia) (by lia)) hc
theorem zo4 (S:Wb lt):∀ f (p:Array Nat) k,k+f<=p.size->Wy lt p k->let r:=ZC lt (kas_bin f p k);r.size=p.size/\r.Perm p/\Wy lt r (k+f)
 | 0,p,k,_,h=>⟨rfl,qbd _,h⟩
 | f+1,p,k,hz,h=>by
  have e:ZC lt (kas_bin (f+1) p k)=ZC lt (kas_bin f (bubble p k (k-ZC lt (kas_place p k k 0 k))) (k+1)):=by
   show ZC lt ((kas_place p k k 0 k).bind fun l=>kas_bin f (bubble p k (k-l)) (k+1))=_
   rw [zc1]
  rw [e]
  obtain⟨m1,m2,m3⟩:=ziB S h k 0 k (qO _) (qf _) (by lia) (fun i hi=>absurd hi (by lia)) (fun i hi hik=>absurd hi (by lia))
  generalize ZC lt (kas_place p k k 0 k)=m at m1 m2 m3 ⊢
  have hb:∀ i,ga (bubble p k (k-m)) i=if i=m then ga p k else if m<i/\i<=k then ga p (i-1) else ga p i:=fun i=>by
   rw [zpF (by lia) (by lia),show k-(k-m)=m by lia]
  have hs:Wy lt (bubble p k (k-m)) (k+1):=by
   intro i j hij hj
   rw [hb,hb]
   by_cases hi:i=m
   ·rw [if_pos hi]
    by_cases hjm:j=m
    ·rw [if_pos hjm];exact irr S _
    ·rw [if_neg hjm,if_pos ⟨by lia,by lia⟩]
     exact S.asymm _ _ (m3 (j-1) (by lia) (by lia))
   ·rw [if_neg hi]
    by_cases hjm:j=m
    ·rw [if_pos hjm,if_neg (by lia)]
     exact m2 i (by lia)
    ·rw [if_neg hjm]
     by_cases hi2:m<i
     ·rw [if_pos (show m<i/\i<=k from ⟨hi2,by lia⟩),if_pos (show m<j/\j<=k from ⟨by lia,by lia⟩)]
      exact h _ _ (by lia) (by lia)
     ·rw [if_neg (show ¬ (m<i/\i<=k) by lia)]
      by_cases hj2:m<j
      ·rw [if_pos (show m<j/\j<=k from ⟨hj2,by lia⟩)]
       exact h _ _ (by lia) (by lia)
      ·rw [if_neg (show ¬ (m<j/\j<=k) by lia)]
       exact h _ _ hij (by lia)
  obtain⟨a1,a2,a3⟩:=zo4 S f (bubble p k (k-m)) (k+1) (by rw [bubble_size];lia) hs
  exact⟨a1.trans (bubble_size _ _ _),a2.trans (bubble_perm _ _ _),by rw [show k+(f+1)=k+1+f by lia];exact a3⟩
theorem zud (S:Wb lt){n:Nat}(h1:1<=n):(ZC lt (kas_sort n)).size=n/\(ZC lt (kas_sort n)).Perm (List.toArray (List.range n))/\Wy lt (ZC lt (kas_sort n)) n:=by
 unfold kas_sort
 rw [zc1]
 obtain⟨a1,a2,a3,a4,a5⟩:=zrR S (p:=List.toArray (List.range n)) (nrem:=n) h1 (by simp)
 generalize ZC lt (kas_count n (List.toArray (List.range n)))=r at a1 a2 a3 a4 a5 ⊢
 have hsz:(List.toArray (List.range n)).size=n:=by simp
 by_cases hr:r.1<n
 ·rw [if_pos hr]
  have em:max r.1 1=r.1:=by lia
  rw [em]
  obtain⟨b1,b2,b3⟩:=zo4 S (n-r.1) r.2 r.1 (by lia) a5
  exact⟨b1.trans (a1.trans hsz),b2.trans a2,by rw [show r.1+(n-r.1)=n by lia] at b3;exact b3⟩
 ·rw [if_neg hr]
  have e:r.1=n:=by lia
  rw [e] at a5
  exact⟨a1.trans hsz,a2,a5⟩
def Yg {α:Type}(n:Nat)(post:α->Prop):KasT α->Prop
 | .ret a=>post a
 | .ask i j k=>i<n/\j<n/\∀ b,Yg n post (k b)
theorem Yg.bind {α β:Type}{n:Nat}{post:α->Prop}{post':β->Prop}{f:α->KasT β}(hf:∀ a,post a->Yg n post' (f a)):∀ (t:KasT α),Yg n post t->Yg n post' (t.bind f)
 | .ret a,h=>hf a h
 | .ask i j k,h=>⟨h.1,h.2.1,fun b=>Yg.bind hf (k b) (h.2.2 b)⟩
def Ent (n:Nat)(p:Array Nat):Prop:=∀ x∈p.toList,x<n
theorem Ent.at {n:Nat}{p:Array Nat}(h0:0<n)(h:Ent n p)(i:Nat):ga p i<n:=by
 rw [zgJ]
 cases e:p[i]? with
 | none=>exact h0
 | some x =>
  rw [<- qau] at e
  exact h x (qe e)
theorem Ent.perm {n:Nat}{p r:Array Nat}(hp:r.Perm p)(h:Ent n p):Ent n r:=fun x hx=>h x ((Array.perm_iff_toList_perm.mp hp).mem_iff.mp hx)
theorem zl5 {n:Nat}{p:Array Nat}(h0:0<n)(h:Ent n p):∀ f k,Yg n (fun _=>True) (kas_asc p f k)
 | 0,_=>trivial
 | f+1,k=>⟨h.at h0 _,h.at h0 _,fun b=>by
  cases b with
  | true=>exact trivial
  | false=>exact zl5 h0 h f (k+1)⟩
theorem zhl {n:Nat}(h0:0<n):∀ f (p:Array Nat) k q,Ent n p->Yg n (fun r=>Ent n r.1) (kas_desc f p k q)
 | 0,p,k,q,h=>h
 | f+1,p,k,q,h=>⟨h.at h0 _,h.at h0 _,fun b=>by
  cases b with
  | true =>
   show Yg n _ (if q > 0 then _ else _)
   by_cases hq:q > 0
   ·rw [if_pos hq];exact zhl h0 f _ _ _ (h.perm zcf)
   ·rw [if_neg hq];exact zhl h0 f _ _ _ h
  | false=>exact⟨h.at h0 _,h.at h0 _,fun d=>by
    cases d with
    | true=>exact h
    | false=>exact zhl h0 f _ _ _ h⟩⟩
theorem znw {n k m:Nat}{p:Array Nat}(h0:0<n)(h:Ent n p):Yg n (fun r=>Ent n r.2) (kas_tail3 k m p):=by
 refine Yg.bind (post:=fun _=>True) (fun r _=>?_) _ (zl5 h0 (h.perm zcf) _ _)
 exact h.perm zcf
theorem zhM {n k m:Nat}{p:Array Nat}(h0:0<n)(h:Ent n p):Yg n (fun r=>Ent n r.2) (kas_descPart k m p):=by
 refine Yg.bind (post:=fun r=>Ent n r.1) (fun r hr=>?_) _ (zhl h0 _ _ _ _ h)
 by_cases hq:r.2.2 > 0
 ·rw [if_pos hq];exact znw h0 (hr.perm zcf)
 ·rw [if_neg hq];exact znw h0 hr
theorem zrI {n m:Nat}{p:Array Nat}(h0:0<n)(h:Ent n p):Yg n (fun r=>Ent n r.2) (kas_count m p):=by
 refine Yg.bind (post:=fun _=>True) (fun k _=>?_) _ (zl5 h0 h _ _)
 by_cases hk:(k==m)=true
 ·rw [if_pos hk];exact h
 ·rw [if_neg hk]
  by_cases h1:k > 1
  ·rw [if_pos h1]
   refine⟨h.at h0 _,h.at h0 _,fun c=>?_⟩
   cases c with
   | true=>exact h
   | false=>exact zhM h0 (h.perm zcf)
  ·rw [if_neg h1];exact zhM h0 h
theorem zik {n:Nat}{p:Array Nat}{k:Nat}(h0:0<n)(h:Ent n p):∀ f l r,Yg n (fun _=>True) (kas_place p k f l r)
 | 0,_,_=>trivial
 | f+1,l,r=>by
  unfold kas_place
  by_cases hl:l ≥ r
  ·rw [if_pos hl];exact trivial
  ·rw [if_neg hl]
   refine⟨h.at h0 _,h.at h0 _,fun c=>?_⟩
   cases c with
   | true=>exact zik h0 h f _ _
   | false=>exact zik h0 h f _ _
theorem zpY {n:Nat}(h0:0<n):∀ f (p:Array Nat) k,Ent n p->Yg n (fun r=>Ent n r) (kas_bin f p k)
 | 0,p,k,h=>h
 | f+1,p,k,h=>Yg.bind (post:=fun _=>True) (fun l _=>zpY h0 f _ _ (h.perm (bubble_perm _ _ _))) _ (zik h0 h _ _ _)
theorem ztr {n:Nat}(h0:0<n):Yg n (fun _=>True) (kas_sort n):=by
 refine Yg.bind (post:=fun r=>Ent n r.2) (fun r hr=>?_) _ (zrI h0 (p:=List.toArray (List.range n)) (fun x hx=>by simpa using hx))
 by_cases h:r.1<n
 ·rw [if_pos h]
  have hb:=zpY h0 (n-max r.1 1) r.2 (max r.1 1) hr
  clear h
  generalize kas_bin (n-max r.1 1) r.2 (max r.1 1)=t at hb
  induction t with
  | ret a=>exact trivial
  | ask i j k ih=>exact⟨hb.1,hb.2.1,fun b=>ih b (hb.2.2 b)⟩
 ·rw [if_neg h];exact trivial
end
open PySem PySem.Spec PySem.W PyProof.Rows L2
def Xg (a b:Int×Int):Bool:=if a.1=b.1 then decide (a.2<b.2) else decide (a.1<b.1)
theorem znu (cs:List (Int×Int)):Wb fun i j=>Xg (cs.getD i (0,0)) (cs.getD j (0,0)) where
  asymm:=fun a b h=>by
    unfold Xg at h ⊢
    generalize cs.getD a (0,0)=A at *
    generalize cs.getD b (0,0)=B at *
    split at h<;>split<;>simp at h ⊢<;>lia
  ntrans:=fun a b c h1 h2=>by
    unfold Xg at h1 h2 ⊢
    generalize cs.getD a (0,0)=A at *
    generalize cs.getD b (0,0)=B at *
    generalize cs.getD c (0,0)=C at *
    split at h1<;>split at h2<;>split<;>simp at h1 h2 ⊢<;>lia
def PrV (h:Heap)(v:Value)(c:Int×Int):Prop:=∃ (a:Addr) (o:Obj) (n:Nat) (t u:Tok),v=.ref a/\h.get? a=some o/\o.cls=.type "tuple"/\o.data=.seq #[.int c.1 t,.int c.2 u] n
theorem kwp {α:Type}{cmp:Nat->Nat->(Bool->Shared->Prop)->Shared->Prop}{lt:Nat->Nat->Bool}{n:Nat}{s:Shared}(hc:∀ i j C,i<n->j<n->C (lt i j) s->cmp i j C s){post:α->Prop}(Q:α->Shared->Prop) :
  ∀ t:KasT α,Yg n post t->Q (ZC lt t) s->t.kasWp cmp Q s
 | .ret _,_,q=>q
 | .ask i j k,h,q=>hc i j _ h.1 h.2.1 (kwp hc Q (k (lt i j)) (h.2.2 _) q)
section
variable {prog:Program}{w:World}{A:Around}{E:Value->Shared->Prop}{s:Shared}
theorem zr4 {v v':Value}{c d:Int×Int}{Q:Bool->Shared->Prop}(h1:PrV s.heap v c)(h2:PrV s.heap v' d)(q:Q (Xg c d) s):wpAny (model prog w) A (keyLt' (tuples' true) v v') Q E s:=by
 obtain⟨a,o,n,t,u,rfl,ho,_,hd⟩:=h1
 obtain⟨a',o',n',t',u',rfl,ho',_,hd'⟩:=h2
 refine kat_lt ho hd ho' hd' ?_
 show KatLex prog w A true _ Q [(.int c.1 t,.int d.1 t'),(.int c.2 u,.int d.2 u')] 0 s
 refine kat_cons (wpAny_eqBool_int ?_)
 by_cases e:c.1=d.1
 ·rw [show (c.1==d.1)=true by simpa using e]
  refine kat_yes (kat_cons (wpAny_eqBool_int ?_))
  by_cases e2:c.2=d.2
  ·rw [show (c.2==d.2)=true by simpa using e2]
   refine kat_yes (kat_nil ?_)
   have:Xg c d=false:=by unfold Xg;rw [if_pos e,e2];simp
   rw [this] at q
   exact q
  ·rw [show (c.2==d.2)=false by simpa using e2]
   refine kat_no ?_
   show wpAny (model prog w) A (oneLt' false _ _) Q _ s
   refine kat_one _ _ (lt_int ?_)
   have:Xg c d=decide (c.2<d.2):=by unfold Xg;rw [if_pos e]
   rw [this] at q
   exact q
 ·rw [show (c.1==d.1)=false by simpa using e]
  refine kat_no ?_
  show wpAny (model prog w) A (oneLt' true _ _) Q _ s
  refine oneLt_int ?_
  have:Xg c d=decide (c.1<d.1):=by unfold Xg;rw [if_neg e]
  rw [this] at q
  exact q
theorem zlC {h:Heap}:∀ {vs:List Value} {cs:List (Int×Int)},Paired (PrV h) vs cs->∃ fs:List Value,KatTups h vs fs/\fs.length=vs.length/\∀ f∈fs,∃ i t,f=.int i t
 | _,_,.nil=>⟨[],trivial,rfl,fun f hf=>absurd hf (by simp)⟩
 | _,_,.cons (a:=v) (b:=c) r t=>by
  obtain⟨fs,k,hl,hf⟩:=zlC t
  obtain⟨a,o,n,tk,u,rfl,ho,hc,hd⟩:=r
  refine⟨.int c.1 tk::fs,KatTups.cons ho hc hd rfl k,by simp [hl],fun f hm=>?_⟩
  rcases qg.mp hm with rfl | hm
  ·exact⟨_,_,rfl⟩
  ·exact hf f hm
theorem zfc {α β:Type}{F:α->β->Prop}{da:α}{db:β}:∀ {l:List α} {m:List β},Paired F l m->∀ i,i<l.length->F (l.getD i da) (m.getD i db)
 | _,_,.nil,i,h=>absurd h (by simp)
 | _,_,.cons r _,0,_=>r
 | _::_,_::_,.cons _ t,i+1,h=>zfc (da:=da) (db:=db) t i (by simpa using h)
theorem zi5 {a:Addr}{vs:List Value}{cs:List (Int×Int)}{n:Nat}{P:PySem.Fin->Shared->Prop}(ho:s.heap.get? a=some (seqObj "list" vs.toArray n))(hv:Paired (PrV s.heap) vs cs)(h64:vs.length<64)
  (h:∀ p:List Nat,p.Perm (List.range vs.length)->(∀ i j,i<=j->j<vs.length->Xg (cs.getD (p.getD j 0) (0,0)) (cs.getD (p.getD i 0) (0,0))=false) ->
   P (.done (.ret .none)) { s with heap:=sortedHeap s.heap a vs (p.map fun i=>vs.getD i Value.none).toArray }) :
  wpAny (model prog w) A (Builtin.«list.sort» ⟨[.ref a],[]⟩) P E s:=by
 rw [list_sort_plain]
 have ha:a<s.heap.objs.size:=qv ho
 refine wpAny_bind (listItems_at ho rfl ?_)
 refine wpAny_bind (listUpdate_at ho rfl ?_)
 obtain⟨e1,ho1⟩:∃ e1,(s.heap.update a (Obj.mapSeq fun _=>#[])).get? a=some (seqObj "list" #[] e1):=⟨_,get?_update_seq ho (fun _=>#[])⟩
 refine wpAny_bind (seqEpoch_at ho1 rfl ?_)
 refine wpAny_bind (wpAny_newTuple ?_)
 refine wpAny_bind (wpAny_newList ?_)
 refine wpAny_holding ?_
 have ho6:(((s.heap.update a (Obj.mapSeq fun _=>#[])).push (seqObj "tuple" vs.toArray 0)).push (seqObj "list" #[] 0)).get? a=some (seqObj "list" #[] e1):=by
  rw [qaS _ _ _ (by rw [size_push',qbf];exact qL (qa5 ha)),qaS _ _ _ (by rw [qbf];exact qL ha)]
  exact ho1
 have keep:∀ b u,b≠a->s.heap.get? b=some u->(((s.heap.update a (Obj.mapSeq fun _=>#[])).push (seqObj "tuple" vs.toArray 0)).push (seqObj "list" #[] 0)).get? b=some u:=fun b u hb hu=>by
  have hlt:b<s.heap.objs.size:=qv hu
  rw [qaS _ _ _ (by rw [size_push',qbf];exact qL (qa5 hlt)),qaS _ _ _ (by rw [qbf];exact qL hlt),Heap.get?_update_ne _ _ _ _ hb]
  exact hu
 have hv6:Paired (PrV (((s.heap.update a (Obj.mapSeq fun _=>#[])).push (seqObj "tuple" vs.toArray 0)).push (seqObj "list" #[] 0))) vs cs:=Paired.imp' (fun v c hp=>by
  obtain⟨b,o,m,t,u,rfl,hb,hc,hd⟩:=hp
  refine⟨b,o,m,t,u,rfl,keep b o (fun e=>?_) hb,hc,hd⟩
  subst e
  rw [ho] at hb
  cases hb
  injection hc with hc
  exact absurd hc (by decide)) hv
 show wpAny (model prog w) A _ P E { s with heap:=((s.heap.update a (Obj.mapSeq fun _=>#[])).push (seqObj "tuple" vs.toArray 0)).push (seqObj "list" #[] 0) }
 have hh:sortedHeap s.heap a vs=fun out=>(((s.heap.update a (Obj.mapSeq fun _=>#[])).push (seqObj "tuple" vs.toArray 0)).push (seqObj "list" #[] 0)).update a (Obj.mapSeq fun _=>out):=rfl
 rw [hh] at h
 generalize ((s.heap.update a (Obj.mapSeq fun _=>#[])).push (seqObj "tuple" vs.toArray 0)).push (seqObj "list" #[] 0)=h6 at *
 dsimp only
 have hsz:vs.toArray.size=vs.length:=by simp
 by_cases h2:vs.toArray.size<2
 ·rw [if_pos h2,if_pos h2]
  refine wpAny_bind (wpAny_pure ?_)
  rw [StateT.run_pure]
  refine wpAny_bind (wpAny_pure ?_)
  dsimp only
  refine wpAny_bind (seqEpoch_at ho6 rfl ?_)
  refine wpAny_bind (listUpdate_at ho6 rfl ?_ (hsz2:=by rw [Array.size_map];show (pairsOf vs).size<=_;rw [pairsOf_size,sizeLine_eq];lia))
  simp only [bne_self_eq_false,qbj,if_false]
  have q:=h (List.range vs.length) (List.Perm.refl _) (fun i j hij hj=>by
   have e1:i=0:=by lia
   have e2:j=0:=by lia
   subst e1;subst e2
   exact irr (znu cs) _)
  have eo:(List.map (fun i=>vs.getD i Value.none) (List.range vs.length)).toArray=Array.map (·.2) (vs.toArray.zip vs.toArray):=by
   have hz:vs.length<2:=by lia
   clear q h hv6 hh hv ho h64 hsz h2
   match vs,hz with
   | [],_=>simp
   | [x],_=>simp [qbx]
  rw [eo] at q
  exact wpAny_pure q
 ·rw [if_neg h2,if_neg h2]
  have hn2:2<=vs.length:=by lia
  obtain⟨fs,kt,hfl,hfi⟩:=zlC hv6
  refine wpAny_bind (kat_kind (s:={ s with heap:=h6 }) (T:=.type "int") kt (by lia) (fun v hm=>?_) (by rfl) ?_)
  ·obtain⟨i,t,rfl⟩:=hfi v hm
   exact Looks.of_pure rfl
  have cmp:∀ (i j:Nat) (C:Bool->Shared->Prop),i<vs.length->j<vs.length->C (Xg (cs.getD i (0,0)) (cs.getD j (0,0))) { s with heap:=h6 }->kas_ask prog w A (tuples' (Value.type "int" != Value.type "tuple")) vs i j C { s with heap:=h6 }:=fun i j C hi hj hC =>
   zr4 (s:={ s with heap:=h6 }) (zfc hv6 i hi) (zfc hv6 j hj) hC
  refine wpAny_bind (wpAny_mono (kat_run (ks:=vs) (vs:=vs) (Q:=fun st' s'=>∃ p:Array Nat,p=ZC (fun i j=>Xg (cs.getD i (0,0)) (cs.getD j (0,0))) (kas_sort vs.length)/\s'={ s with heap:=h6 }/\arrOf st'=p.map (kas_item (vs.toArray.zip vs.toArray))/\failedOf st'=none)
   (G:=fun p s'=>p=ZC (fun i j=>Xg (cs.getD i (0,0)) (cs.getD j (0,0))) (kas_sort vs.length)/\s'={ s with heap:=h6 }) rfl hn2 h64 (fun p' st' s' a1 a2 a3 a4=>⟨p',a4.1,a4.2,a2,a3⟩) (kwp cmp _ _ (ztr (by lia)) ⟨rfl,rfl⟩)) ?_ fun _ _ e=>e)
  rintro⟨⟨⟩,st'⟩ s' ⟨p,hp,rfl,har,hf⟩
  dsimp only
  obtain⟨z1,z2,z3⟩:=zud (znu cs) (n:=vs.length) (by lia)
  rw [<- hp] at z1 z2 z3
  have hout:=kat_snds (vs:=vs) (ks:=vs) rfl har
  have hsz2:(List.toArray (p.toList.map fun i=>vs.getD i Value.none)).size=vs.length:=by rw [qm,qb,qR,z1]
  rw [hout]
  refine wpAny_bind (seqEpoch_at ho6 rfl ?_)
  refine wpAny_bind (listUpdate_at ho6 rfl ?_ (hsz2:=by rw [hsz2,sizeLine_eq];lia))
  rw [hf]
  simp only [bne_self_eq_false,qbj,if_false]
  refine wpAny_pure (h p.toList ?_ fun i j hij hj=>?_)
  ·have:=Array.perm_iff_toList_perm.mp z2
   simpa using this
  ·have e:∀ k,p.toList.getD k 0=ga p k:=fun k=>by rw [zgJ,qD,qau]
   rw [e,e]
   exact z3 i j hij hj
theorem zmd {l:Addr}{vs:List Value}{cs:List (Int×Int)}{Q:Value->Shared->Prop}(hl:s.heap.IsList l vs.toArray)(hv:Paired (PrV s.heap) vs cs)(h64:vs.length<64)
    (h:∀ p:List Nat,p.Perm (List.range vs.length)->(∀ i j,i<=j->j<vs.length->Xg (cs.getD (p.getD j 0) (0,0)) (cs.getD (p.getD i 0) (0,0))=false) ->
      Q (.ref (s.heap.objs.size+1)) { s with heap:=sortedAll s.heap vs (p.map fun i=>vs.getD i Value.none).toArray }) :
    wpAny (model prog w) A (call (.builtin "sorted") [.ref l]) Q E s:=by
  refine Calls.call_function_entry kind_sorted plain_sorted entry_sorted (args_sorted1 _) ?_
  unfold Builtin.«sorted»
  refine wpAny_bind (m:=checkCount "sorted" 1 1 _) (wpAny_pure ?_)
  refine wpAny_bind (collect_list hl ?_)
  refine wpAny_bind (wpAny_newList ?_)
  have hsz:((s.heap.push (seqObj "list" #[] 0)).update s.heap.objs.size (Obj.mapSeq (·++vs.toArray))).objs.size=s.heap.objs.size+1:=by
    rw [qbf,size_push']
  have hoL:(((s.heap.push (seqObj "list" #[] 0)).update s.heap.objs.size (Obj.mapSeq (·++vs.toArray))).push (seqObj "list" vs.toArray 0)).get? (s.heap.objs.size+1)=some (seqObj "list" vs.toArray 0):=by
    rw [<- hsz];exact qr _ rfl
  have keep:∀ b o,s.heap.get? b=some o->(((s.heap.push (seqObj "list" #[] 0)).update s.heap.objs.size (Obj.mapSeq (·++vs.toArray))).push (seqObj "list" vs.toArray 0)).get? b=some o:=fun b o q=>by
    have hlt:b<s.heap.objs.size:=qv q
    rw [qaS _ _ _ (by rw [hsz];exact qL (qa5 hlt)),Heap.get?_update_ne _ _ _ _ (qL hlt),qaS _ _ _ (qL hlt)]
    exact q
  show wpAny _ _ _ _ _ { s with heap:=((s.heap.push (seqObj "list" #[] 0)).update s.heap.objs.size (Obj.mapSeq (·++vs.toArray))).push (seqObj "list" vs.toArray 0) }
  rw [hsz]
  refine wpAny_bind (wpAny_holding (wpAny_call_entry slot_list_sort ⟨_,hoL,rfl⟩ entry_list_sort (zi5 (s:={ s with heap:=((s.heap.push (seqObj "list" #[] 0)).update s.heap.objs.size (Obj.mapSeq (·++vs.toArray))).push (seqObj "list" vs.toArray 0) }) hoL (Paired.imp' (fun v c hp=>by
    obtain⟨b,o,m,t,u,e,hb,hc,hd⟩:=hp
    exact⟨b,o,m,t,u,e,keep b o hb,hc,hd⟩) hv) h64 fun p a1 a2=>⟨_,rfl,?_⟩) (args_list_sort _)))
  exact wpAny_pure ⟨_,rfl,h p a1 a2⟩
end
def zvH (K:PySem.W.Frag):List V->Hp->VK->Prop:=fun xs H Q=>∃ (p:Addr) (ps:List Addr) (cs:List (Int×Int)),xs=[.ref p]/\Zo K H p (ps.map V.ref)/\zfj H ps cs/\cs.length<64 /\
 ∀ (l:Addr) (ps':List Addr) (cs':List (Int×Int)),H l=none->zfj H ps' cs'->cs'.Perm cs->cs'.Pairwise (fun a b=>Xg b a=false)->Q (.ref l) (upd H l (.lst (ps'.map V.ref)))
theorem zkB:∀ {ps:List Addr} {its:List Value},Vals (ps.map V.ref) its->its=ps.map Value.ref
 | [],_,h=>by cases h;rfl
 | p::ps,_,h=>by
  cases h with
  | cons r t =>
   have:=zkB t
   cases r
   rw [this];rfl
theorem zky:∀ ps:List Addr,Vals (ps.map V.ref) (ps.map Value.ref)
 | []=>.nil
 | _::ps=>.cons rfl (zky ps)
theorem zj2 {α:Type}(l:List α)(d:α){p:List Nat}(h:p.Perm (List.range l.length)):(p.map fun i=>l.getD i d).Perm l:=by
 have:=h.map fun i=>l.getD i d
 refine this.trans ?_
 have e:(List.range l.length).map (fun i=>l.getD i d)=l:=by
  apply List.ext_getElem
  ·simp
  ·intro i h1 h2
   simp [qD,qc h2]
 rw [e]
theorem zla {X:Cx}{K:PySem.W.Frag}(hK:X.K=K):YF X (.builtin "sorted") (zvH K):=fun Z9 s U H xs us Q I r h=>by
 subst hK
 obtain⟨p,ps,cs,rfl,hS,hP,h64,q⟩:=h
 obtain⟨u,rfl,ru⟩:=vals1 r
 cases ru
 obtain⟨its,rv,pl,hz⟩:=I.list hS
 have ei:=zkB rv
 subst ei
 have hlen:=hP.length
 have prv:∀ {ps:List Addr} {cs:List (Int×Int)},zfj H ps cs->Paired (PrV s.heap) (ps.map Value.ref) cs:=by
  intro ps cs hP
  induction hP with
  | nil=>exact .nil
  | cons r t ih =>
   refine .cons ?_ ih
   obtain⟨its2,r2,pl2,_⟩:=I.tuple (ZF.of r)
   obtain⟨o,ho,hc,n,hd⟩:=pl2
   cases r2 with | cons x1 r2=>cases r2 with | cons x2 r2 =>
   cases r2
   obtain⟨t1,rfl⟩:=x1
   obtain⟨t2,rfl⟩:=x2
   exact⟨_,o,n,t1,t2,rfl,ho,hc,hd⟩
 refine zmd pl.isList (prv hP) (by rw [qb];lia) fun pm hpm hso=>?_
 rw [qb] at hpm hso
 have eo:(pm.map fun i=>(ps.map Value.ref).getD i Value.none)=(pm.map fun i=>ps.getD i 0).map Value.ref:=by
  rw [qY]
  apply List.map_congr_left
  intro i hi
  have hi':i<ps.length:=by simpa using hpm.mem_iff.mp hi
  simp [qD,qc hi']
 rw [eo]
 have hPl:(pm.map fun i=>ps.getD i 0).length=ps.length:=by rw [qb,hpm.length_eq,qaj]
 obtain⟨e,he⟩:=sortedAll_at s.heap (ps.map Value.ref) ((pm.map fun i=>ps.getD i 0).map Value.ref).toArray
 have hPr:zfj H (pm.map fun i=>ps.getD i 0) (pm.map fun i=>cs.getD i (0,0)):=by
  have hb:∀ i∈pm,i<ps.length:=fun i hi=>by simpa using hpm.mem_iff.mp hi
  clear eo hPl he hpm hso
  induction pm with
  | nil=>exact .nil
  | cons i pm ih=>exact .cons (zfc hP i (hb i (by simp))) (ih fun j hj=>hb j (by simp [hj]))
 refine⟨.ref (s.heap.objs.size+1),_,I.laid (t':=s.toks) (a:=s.heap.objs.size+1) (o:=.lst ((pm.map fun i=>ps.getD i 0).map V.ref)) (fun b o q=>sortedAll_old q) (qa4 _) ⟨by rw [qb,hPl];have:=hz;rw [qb] at this;exact this,_,e,zky _,he⟩,rfl,q _ _ _ (I.hok.fresh (qa4 _)) hPr ?_ ?_⟩
 ·rw [hlen] at hpm
  exact zj2 cs (0,0) hpm
 ·rw [List.pairwise_map,qae]
  intro i j hi hj hij
  have:=hso i j (qbg hij) (by rw [<- qaj (n:=ps.length),<- hpm.length_eq];exact hj)
  simpa [qD,qc hi,qc hj] using this
section
variable {K:PySem.W.Frag}{H:Hp}
end
def zuM (K:PySem.W.Frag):R2:=fun x y H Q=>∃ a b xs ys,x=.ref a/\y=.ref b/\ZF K H a xs/\ZF K H b ys/\xs.length+ys.length<=sizeLine/\(xs=[]->Q (.ref b) H)/\(xs≠[]->ys=[]->Q (.ref a) H)/\(xs≠[]->ys≠[]->∀ p,H p=none->Q (.ref p) (upd H p (.tup (xs++ys))))
theorem zqQ {X:Cx}{K:PySem.W.Frag}(hK:X.K=K):Zk X (binaryOp .Add) (zuM K):=by
 subst hK
 intro Z9 s U H x y v u Q I rx ry h
 obtain⟨a,b,xs,ys,rfl,rfl,ha,hb,hz,q0,q1,q2⟩:=h
 by_cases hx:xs=[]
 ·subst hx
  cases rx
  cases ry
  obtain⟨its,r1,p1,_⟩:=I.tuple ha
  obtain⟨its2,r2,p2,_⟩:=I.tuple hb
  cases r1
  obtain⟨⟨cls,dd,data,sl⟩,ho,hc,n,hd⟩:=id p1
  obtain⟨⟨cls2,dd2,data2,sl2⟩,ho2,hc2,n2,hd2⟩:=id p2
  simp only at hc hd hc2 hd2
  subst hc hd hc2 hd2
  exact concat_meets ⟨_,ho,rfl⟩ ⟨_,ho2,rfl⟩ noFill_tuple_add seq_tuple_add PySem.F.slot_tuple_add PySem.F.entry_tuple_add (PySem.F.args_tuple_add_2 _ _)
   (tuple_addW0 a b _ its2.toArray n n2 dd dd2 sl sl2 (by simp)) ⟨ho,ho2,⟨.ref b,H,I,rfl,q0 rfl⟩⟩
 ·exact ztc Z9 s U H _ _ v u Q I rx ry ⟨a,b,xs,ys,rfl,rfl,ha,hb,hx,hz,q1 hx,q2 hx⟩
end My
namespace Dp
open PySem
inductive D where
 | non | bl (b:Bool) | int (i:Int) | str (x:Str) | tup (xs:List D) | ref (n:Nat) | ty (n:String) | rl (xs:List D) | exn (c:Str)
 deriving Inhabited
inductive Cell where
 | lst (xs:List D) | ins (c:Str) (fs:List (Str×D))
 | dk (Z6:List (Str×D)) | dt (Z6:List (List (Sum Int Str)×D))
 deriving Inhabited
abbrev Z5:=List Cell
abbrev ZP:=List (Option D)
abbrev DK:=D->Z5->Prop
abbrev DE:=ZP->Z5->DK->Prop
abbrev DT:=ZP->Z5->(Bool->Z5->Prop)->Prop
abbrev DA:=ZP->Z5->(List D->Z5->Prop)->Prop
abbrev DG:=D->ZP->Z5->(ZP->Z5->Prop)->Prop
abbrev DGs:=List D->ZP->Z5->(ZP->Z5->Prop)->Prop
structure znS where
 nx:ZP->Z5->Prop
 rt:DK
 bk:ZP->Z5->Prop:=fun _ _=>False
 ct:ZP->Z5->Prop:=fun _ _=>False
abbrev DS:=znS->ZP->Z5->Prop
structure DIt where
 items:List D
 ok:Z5->Prop
abbrev DI:=ZP->Z5->(DIt->Z5->Prop)->Prop
abbrev ZS:=List D->Z5->DK->Prop
def big:Nat:=1000000
def fl:Nat->D->Bool
  | _,.ref _=>false
  | _,.ty _=>false
  | _,.rl _=>false
  | _,.exn _=>false
  | 0,.tup _=>false
  | k+1,.tup xs=>xs.all (fl k)
  | _,.non=>true
  | _,.bl _=>true
  | _,.int _=>true
  | _,.str x=>x.cps.all (· < 0x110000)
mutual
def eqv:D->D->Bool
 | .non,.non=>true
 | .bl a,.bl b=>a==b
 | .bl a,.int j=>(if a then 1 else 0)==j
 | .int i,.bl b=>i==(if b then 1 else 0)
 | .int i,.int j=>decide (i=j)
 | .str x,.str y=>x==y
 | .tup xs,.tup ys=>eqvAll xs ys
 | _,_=>false
def eqvAll:List D->List D->Bool
 | [],[]=>true
 | x::xs,y::ys=>eqv x y&&eqvAll xs ys
 | _,_=>false
end
def Lst (S:Z5)(x:D)(xs:List D):Prop:=x=.rl xs\/∃ n,x=.ref n/\S[n]?=some (.lst xs)
def V1 (S:Z5)(x:D)(xs:List D):Prop:=x=.tup xs\/Lst S x xs
def X5 (n:Nat)(k:Int):Option Nat:=if 0<=k then (if k<n then some k.toNat else none) else if -(n:Int)<=k then some (k+n).toNat else none
def Y8 (xs:List D)(k:Int):Option D:=(X5 xs.length k).bind fun j=>xs[j]?
def atS (z:Str)(k:Int):Option Nat:=(X5 z.cps.toList.length k).bind fun j=>z.cps.toList[j]?
def W4 (n:Nat)(d:Nat):Option Int->Nat
 | none=>d
 | some k=>if k<0 then (k+n).toNat else min k.toNat n
def cutD {α:Type}(xs:List α)(lo hi:Option Int):List α:=(xs.drop (W4 xs.length 0 lo)).take (W4 xs.length xs.length hi-W4 xs.length 0 lo)
def WY (i:Nat):DE:=fun Z S Q=>∃ d,Z[i]?=some (some d)/\Q d S
def dC (d:D):DE:=fun _ S Q=>Q d S
abbrev Zb:=D->D->Z5->DK->Prop
def Z7 (r:Zb)(ta tb:DE):DE:=fun Z S Q=>ta Z S fun x S1=>tb Z S1 fun y S2=>r x y S2 Q
def Yh (r:D->Z5->DK->Prop)(ta:DE):DE:=fun Z S Q=>ta Z S fun x S1=>r x S1 Q
def zG:DA:=fun _ S Q=>Q [] S
def zf (ta:DE)(tr:DA):DA:=fun Z S Q=>ta Z S fun x S1=>tr Z S1 fun xs S2=>Q (x::xs) S2
def dTup (t:DA):DE:=fun Z S Q=>t Z S fun xs S1=>xs.length<=big/\Q (.tup xs) S1
def Xx (t:DA):DE:=fun Z S Q=>t Z S fun xs S1=>xs.length<=big/\Q (.ref S1.length) (S1++[.lst xs])
def dCall (f:ZS)(t:DA):DE:=fun Z S Q=>t Z S fun xs S1=>f xs S1 Q
abbrev DB:=List D->Z5->DK->Prop
def dB (r:DB)(t:DA):DE:=fun Z S Q=>t Z S fun xs S1=>r xs S1 Q
def dT (t:DE):DT:=fun Z S Q=>t Z S fun x S1=>∃ b,x=.bl b/\Q b S1
def zdH (t u:DT):DT:=fun Z S Q=>t Z S fun c S1=>if c=true then u Z S1 Q else Q false S1
def dOr (t u:DT):DT:=fun Z S Q=>t Z S fun c S1=>if c=true then Q true S1 else u Z S1 Q
def WW (t:DT):DT:=fun Z S Q=>t Z S fun c S1=>Q (!c) S1
def zeA (t u:DE):DE:=fun Z S Q=>t Z S fun x S1=>∃ c,x=.bl c/\if c=true then u Z S1 Q else Q (.bl false) S1
def zoH (t u:DE):DE:=fun Z S Q=>t Z S fun x S1=>∃ c,x=.bl c/\if c=true then Q (.bl true) S1 else u Z S1 Q
def zfd (t:DE):DE:=fun Z S Q=>t Z S fun x S1=>∃ c,x=.bl c/\Q (.bl (!c)) S1
def zjF (c:DT)(ta tb:DE):DE:=fun Z S Q=>c Z S fun b S1=>if b=true then ta Z S1 Q else tb Z S1 Q
def zhc (r r':Zb)(ta tb tc:DE):DE:=fun Z S Q=>ta Z S fun x S1=>tb Z S1 fun y S2=>r x y S2 fun z S3=>∃ c,z=.bl c/\if c=true then tc Z S3 fun w S4=>r' y w S4 Q else Q (.bl false) S3
def zid:Option DE->ZP->Z5->(Option Int->Z5->Prop)->Prop
 | none=>fun _ S Q=>Q none S
 | some t=>fun Z S Q=>t Z S fun x S1=>∃ i,x=.int i/\Q (some i) S1
def dSl (r:D->Option Int->Option Int->Z5->DK->Prop)(ta:DE)(lo hi:Option DE):DE:=fun Z S Q=>ta Z S fun x S1=>zid lo Z S1 fun l S2=>zid hi Z S2 fun h S3=>r x l h S3 Q
def YS (f:Str)(ta:DE):DE:=fun Z S Q=>ta Z S fun x S1=>∃ n c fs d,x=.ref n/\S1[n]?=some (.ins c fs)/\fs.lookup f=some d/\Q d S1
def putD (f:Str)(v:D):List (Str×D)->List (Str×D)
 | []=>[(f,v)]
 | (g,x)::r=>if g=f then (g,v)::r else (g,x)::putD f v r
def znR (c:Str)(init:ZS):ZS:=fun ds S Q=>init (.ref S.length::ds) (S++[.ins c []]) fun d S2=>d=.non/\Q (.ref S.length) S2
abbrev DM:=D->List D->Z5->DK->Prop
def dM (r:DM)(ta:DE)(t:DA):DE:=fun Z S Q=>ta Z S fun x S1=>(∃ n ys,x=.ref n/\S1[n]?=some (.lst ys))/\t Z S1 fun xs S2=>r x xs S2 Q
def oI (C:Int->Int->Prop)(g:Int->Int->D):Zb:=fun x y S Q=>∃ i j,x=.int i/\y=.int j/\C i j/\Q (g i j) S
def oI0 (g:Int->Int->D):Zb:=fun x y S Q=>∃ i j,x=.int i/\y=.int j/\Q (g i j) S
def oU (g:Int->D):D->Z5->DK->Prop:=fun x S Q=>∃ i,x=.int i/\Q (g i) S
def YJ (i j:Int):Prop:=(My.Bd 8000 i/\My.Bd 8000 j)\/i.natAbs<2 ^ 64\/j.natAbs<2 ^ 64
def zsj (_ j:Int):Prop:=j≠0/\My.Bd 8000 j
def zyr (_ j:Int):Prop:=j≠0
def Zy:Zb:=fun x y S Q=>(∃ i j,x=.int i/\y=.int j/\Q (.int (i+j)) S)\/(∃ xs ys,x=.tup xs/\y=.tup ys/\xs.length+ys.length<=big/\Q (.tup (xs++ys)) S) \/
 (∃ xs ys,Lst S x xs/\Lst S y ys/\xs.length+ys.length<=big/\Q (.ref S.length) (S++[.lst (xs++ys)])) \/
 (∃ i j:Str,x=.str i/\y=.str j/\i.length+j.length<=big/\Q (.str (i++j)) S)
def Zq:Zb:=oI0 fun i j=>.int (i-j)
def zy2 (z:Str)(n:Int):Str:=if n<1 then Str.empty else if (n==1||z.length==0)=true then z else ⟨(List.replicate n.toNat z.cps).foldl (·++·) #[]⟩
@[irreducible] def Hg (x:Int):Prop:=x.natAbs<2 ^ 1048576
def Yu:Zb:=fun x y S Q=>oI YJ (fun i j=>.int (i*j)) x y S Q\/(∃ (z:Str) (n:Int),x=.str z/\y=.int n/\z.length<=1000/\-1000<=n/\n<=1000/\Q (.str (zy2 z n)) S)\/oI (fun i j=>Hg i/\Hg j) (fun i j=>.int (i*j)) x y S Q
def oDiv:Zb:=oI zsj fun i j=>.int (i.fdiv j)
def oMod:Zb:=oI zyr fun i j=>.int (i.fmod j)
def Yi:D->Z5->DK->Prop:=oU fun i=>.int (-i)
def oLt:Zb:=oI0 fun i j=>.bl (decide (i<j))
def oLe:Zb:=oI0 fun i j=>.bl (decide (i<=j))
def Xa:Zb:=oI0 fun i j=>.bl (decide (j<i))
def oGe:Zb:=oI0 fun i j=>.bl (decide (j<=i))
def ziH (S:Z5):List D->List (List D)->Prop
 | [],[]=>True
 | x::xs,z::zs=>Lst S x z/\ziH S xs zs
 | _,_=>False
def zf0 (xss:List (List D)):Bool:=xss.all fun zs=>zs.all (fl 20)
def EqD (S:Z5)(x y:D)(b:Bool):Prop:=(fl 20 x=true/\fl 20 y=true/\b=eqv x y)\/(∃ xs ys,Lst S x xs/\Lst S y ys/\xs.all (fl 20)=true/\ys.all (fl 20)=true/\b=eqvAll xs ys) \/
 (∃ xs ys xss yss,Lst S x xs/\Lst S y ys/\ziH S xs xss/\ziH S ys yss/\zf0 xss=true/\zf0 yss=true/\b=eqvAll (xss.map D.tup) (yss.map D.tup))
def oEq:Zb:=fun x y S Q=>∃ b,EqD S x y b/\Q (.bl b) S
def V8:Zb:=fun x y S Q=>∃ b,EqD S x y b/\Q (.bl (!b)) S
def InD (S:Z5)(x y:D)(b:Bool):Prop:=∃ ys,V1 S y ys/\fl 20 x=true/\ys.all (fl 20)=true/\b=ys.any fun z=>eqv z x
def oIn:Zb:=fun x y S Q=>(∃ b,InD S x y b/\Q (.bl b) S)\/(∃ (c:Nat) (z:Str),x=.str ⟨#[c]⟩/\y=.str z/\Q (.bl (decide (c∈z.cps.toList))) S)
def zmx:Zb:=fun x y S Q=>(∃ b,InD S x y b/\Q (.bl (!b)) S)\/(∃ (c:Nat) (z:Str),x=.str ⟨#[c]⟩/\y=.str z/\Q (.bl (!decide (c∈z.cps.toList))) S)
def zi0:D->Bool
 | .non=>true
 | _=>false
def oIs:Zb:=fun x y S Q=>(y=.non/\Q (.bl (zi0 x)) S)\/(∃ a b,x=.bl a/\y=.bl b/\Q (.bl (a==b)) S)
def zfu:Zb:=fun x y S Q=>(y=.non/\Q (.bl (!zi0 x)) S)\/(∃ a b,x=.bl a/\y=.bl b/\Q (.bl (!(a==b))) S)
def ZW:Zb:=fun x y S Q=>(∃ i xs d,y=.int i/\V1 S x xs/\Y8 xs i=some d/\Q d S)\/(∃ (z:Str) (i:Int) (c:Nat),x=.str z/\y=.int i/\z.length<=big/\atS z i=some c/\Q (.str ⟨#[c]⟩) S)
def zru (z:Str)(lo hi:Option Int):Str:=⟨(cutD z.cps.toList lo hi).toArray⟩
def zij:D->Option Int->Option Int->Z5->DK->Prop:=fun x lo hi S Q=>(∃ xs,x=.tup xs/\Q (.tup (cutD xs lo hi)) S)\/(∃ xs,Lst S x xs/\Q (.ref S.length) (S++[.lst (cutD xs lo hi)]))\/(∃ z:Str,x=.str z/\z.length<=big/\Q (.str (zru z lo hi)) S)
def YK:DB:=fun vs S Q=>(∃ x xs,vs=[x]/\V1 S x xs/\Q (.int xs.length) S)\/(∃ z:Str,vs=[.str z]/\z.length<=big/\Q (.int z.length) S)
def zsb:DB:=fun vs S Q=>∃ i,vs=[.int i]/\Q (.int (i.natAbs:Int)) S
def Wu:DB:=fun vs S Q=>∃ i j,vs=[.int i,.int j]/\Q (.int (max i j)) S
def zd0:DB:=fun vs S Q=>∃ i j,vs=[.int i,.int j]/\Q (.int (min i j)) S
def znU:DB:=fun vs S Q=>∃ x ns,vs=[x]/\Lst S x (List.map D.int ns)/\0<ns.length/\∀ m:Int,m∈ns->(∀ a∈ns,a<=m)->Q (.int m) S
def znO:DB:=fun vs S Q=>∃ x ns,vs=[x]/\Lst S x (List.map D.int ns)/\0<ns.length/\∀ m:Int,m∈ns->(∀ a∈ns,m<=a)->Q (.int m) S
def zef:DB:=fun vs S Q=>∃ x bs,vs=[x]/\Lst S x (List.map D.bl bs)/\Q (.bl (bs.all id)) S
def zfL:DB:=fun vs S Q=>∃ x xs,vs=[x]/\V1 S x xs/\Q (.tup xs) S
def zjm:DB:=fun vs S Q=>∃ x xs,vs=[x]/\V1 S x xs/\Q (.ref S.length) (S++[.lst xs])
def zjE (t:String):Bool:=t=="int"||t=="bool"||t=="tuple"||t=="list"||t=="str"
def zwl (S:Z5)(t:String)(d:D):Option Bool:=if (!zjE t)=true then none else match d with
 | .non=>some false
 | .bl _=>some (t=="bool"||t=="int")
 | .int _=>some (t=="int")
 | .str _=>some (t=="str")
 | .tup _=>some (t=="tuple")
 | .ref n=>match S[n]? with
  | some (.lst _)=>some (t=="list")
  | _=>none
 | .ty _=>none
 | .rl _=>none
 | .exn _=>none
def zeK:DB:=fun vs S Q=>∃ x t b,vs=[x,.ty t]/\zwl S t x=some b/\Q (.bl b) S
abbrev p2 (c:Int×Int):D:=.tup [.int c.1,.int c.2]
def zh8 (a b:Int×Int):Bool:=decide (a.1<b.1\/(a.1=b.1/\a.2<b.2))
def zpr:DB:=fun vs S Q=>∃ x cs,vs=[x]/\Lst S x (List.map p2 cs)/\cs.length<64/\∀ ss:List (Int×Int),ss.Perm cs->ss.Pairwise (fun a b=>zh8 b a=false)->Q (.ref S.length) (S++[.lst (ss.map p2)])
def zqA:DB:=fun vs S Q=>∃ x ns,vs=[x]/\Lst S x (List.map D.int ns)/\ns.length<64/\∀ ss:List Int,ss.Perm ns->ss.Pairwise (fun a b=>a<=b)->Q (.ref S.length) (S++[.lst (ss.map D.int)])
def zn5:DB:=fun vs S Q=>zpr vs S Q\/zqA vs S Q
def zcD:DM:=fun x vs S Q=>∃ n xs y,x=.ref n/\vs=[y]/\S[n]?=some (.lst xs)/\xs.length<big/\Q .non (S.set n (.lst (xs++[y])))
def zui:DM:=fun x vs S Q=>∃ n xs m ys,x=.ref n/\vs=[.ref m]/\S[n]?=some (.lst xs)/\S[m]?=some (.lst ys)/\m≠n/\xs.length+ys.length<=big/\Q .non (S.set n (.lst (xs++ys)))
def ziw:DM:=fun x vs S Q=>zui x vs S Q\/∃ n xs ys,x=.ref n/\vs=[.tup ys]/\S[n]?=some (.lst xs)/\xs.length+ys.length<=big/\Q .non (S.set n (.lst (xs++ys)))
def zoo:DM:=fun x vs S Q=>∃ n xs y,x=.ref n/\vs=[.int 0]/\S[n]?=some (.lst (y::xs))/\Q y (S.set n (.lst xs))
def zmp:DM:=fun x vs S Q=>∃ n xs y j e,x=.ref n/\vs=[y]/\S[n]?=some (.lst xs)/\xs.all (fl 20)=true/\fl 20 y=true/\xs.length<=big/\xs[j]?=some e/\eqv e y=true/\(∀ (m:Nat) e',m<j->xs[m]?=some e'->eqv e' y=false)/\Q (.int (j:Nat)) S
def zu (i:Nat):DG:=fun d Z S Q=>Q (Z.set i (some d)) S
def Yl:DGs:=fun ds Z S Q=>ds=[]/\Q Z S
def Zt (t:DG)(u:DGs):DGs:=fun ds Z S Q=>∃ d r,ds=d::r/\t d Z S fun ρ' S'=>u r ρ' S' Q
def Ym (n:Nat)(t:DGs):DG:=fun d Z S Q=>∃ xs,d=.tup xs/\xs.length=n/\t xs Z S Q
def zgm (to ti:DE):DG:=fun d Z S Q=>to Z S fun o S1=>ti Z S1 fun i S2=>∃ n xs k j,o=.ref n/\i=.int k/\S2[n]?=some (.lst xs)/\X5 xs.length k=some j/\Q Z (S2.set n (.lst (xs.set j d)))
def zA (t u:DS):DS:=fun E Z S=>t { E with nx:=u E } Z S
def zX:DS:=fun E Z S=>E.nx Z S
def zT (t:DE):DS:=fun E Z S=>t Z S E.rt
def Zd (t:DE):DS:=fun E Z S=>t Z S fun _ S1=>E.nx Z S1
def zL (t:DE)(g:DG):DS:=fun E Z S=>t Z S fun x S1=>g x Z S1 E.nx
def ZJ (c:DT)(t u:DS):DS:=fun E Z S=>c Z S fun b S1=>if b=true then t E Z S1 else u E Z S1
def sJ (t:DS):DS:=fun E Z S=>∃ J:ZP->Z5->Prop,(∀ Z S,J Z S->E.nx Z S)/\t { E with nx:=J } Z S
def zcl:DS:=fun _ _ _=>False
def zdT (c f:Str)(to tv:DE):DS:=fun E Z S=>tv Z S fun y S1=>to Z S1 fun x S2=>∃ n fs,x=.ref n/\S2[n]?=some (.ins c fs)/\fs.length<100/\E.nx Z (S2.set n (.ins c (putD f y fs)))
def zrq (i:Nat)(t:DE):DS:=fun E Z S=>∃ a,Z[i]?=some (some (.int a))/\t Z S fun y S1=>∃ b,y=.int b/\E.nx (Z.set i (some (.int (a+b)))) S1
def zeZ (c:DT)(t:DS):DS:=fun E Z S=>∃ W:Nat->ZP->Z5->Prop,(∃ m,W m Z S)/\∀ m Z S,W m Z S ->
 c Z S fun b S1=>if b=true then ∃ N:ZP->Z5->Prop,(∀ ρ' S',N ρ' S'->∃ m',m'<m/\W m' ρ' S')/\t { E with nx:=N,ct:=N,bk:=E.nx } Z S1 else E.nx Z S1
def Y5 (wi:DI)(g:DG)(t:DS):DS:=fun E Z S=>wi Z S fun J S1=>∃ W:Nat->ZP->Z5->Prop,W 0 Z S1/\(∀ i Z S,W i Z S->J.ok S) /\
 (∀ i d Z S,J.items[i]?=some d->W i Z S->g d Z S fun ρ2 S2=>t { E with nx:=W (i+1),ct:=W (i+1),bk:=E.nx } ρ2 S2)/\∀ Z S,W J.items.length Z S->E.nx Z S
def signs (z:Str):List D:=z.cps.toList.map fun c=>.str ⟨#[c]⟩
def zhs (x:D)(S1:Z5)(R:DIt->Z5->Prop):Prop:=(∃ xs,x=.tup xs/\R ⟨xs,fun _=>True⟩ S1)\/(∃ xs,Lst S1 x xs/\R ⟨xs,fun S=>Lst S x xs⟩ S1)\/(∃ z:Str,x=.str z/\R ⟨signs z,fun _=>True⟩ S1)
def Zm (t:DE):DI:=fun Z S R=>t Z S fun x S1=>zhs x S1 R
def upto (lo:Int)(n:Nat):List D:=(List.range n).map fun k:Nat=>D.int (lo+(k:Int))
def zhA (t:DA):DI:=fun Z S R=>t Z S fun vs S1=>∃ j:Int,vs=[.int j]/\-(2 ^ 62)<=j/\j<2 ^ 62/\R ⟨upto 0 j.toNat,fun _=>True⟩ S1
def ziR (t:DA):DI:=fun Z S R=>t Z S fun vs S1=>∃ i j:Int,vs=[.int i,.int j]/\R ⟨upto i (j-i).toNat,fun _=>True⟩ S1
def steps (lo st:Int)(n:Nat):List D:=(List.range n).map fun k:Nat=>D.int (lo+(k:Int)*st)
def Wa:Nat->List D->List D
 | _,[]=>[]
 | k,x::xs=>.tup [.int (k:Nat),x]::Wa (k+1) xs
def Xq:List D->List D->List D
 | x::xs,y::ys=>.tup [x,y]::Xq xs ys
 | _,_=>[]
def zhd (c:List Str)(z:Str):List Str:=if c.any (·==z)=true then c else c++[z]
def W9 (f:Nat->Str):Nat->List Str
 | 0=>[]
 | i+1=>zhd (W9 f i) (f i)
def zqX (zs:List Str):Nat:=(W9 (fun i=>zs.getD i Str.empty) zs.length).length
def znX:DB:=fun vs S Q=>∃ x,∃ zs:List Str,vs=[x]/\Lst S x (zs.map D.str)/\zs.length<=4000/\Q (.int (zqX zs)) S
def zlw (R:DIt->Z5->Prop)(vs:List D)(S1:Z5):Prop:=(∃ x xs,vs=[x]/\Lst S1 x xs/\R ⟨Wa 0 xs,fun S=>Lst S x xs⟩ S1)\/(∃ xs,vs=[.tup xs]/\R ⟨Wa 0 xs,fun _=>True⟩ S1)
def zf8 (t:DA):DI:=fun Z S R=>t Z S (zlw R)
def zoF (R:DIt->Z5->Prop)(vs:List D)(S1:Z5):Prop:=(∃ x y xs ys,vs=[x,y]/\Lst S1 x xs/\Lst S1 y ys/\R ⟨Xq xs ys,fun S=>Lst S x xs/\Lst S y ys⟩ S1)\/(∃ xs ys,vs=[.tup xs,.tup ys]/\R ⟨Xq xs ys,fun _=>True⟩ S1)
def znW (t:DA):DI:=fun Z S R=>t Z S (zoF R)
def zgD (own:Nat)(fv:List Nat)(Z:ZP):ZP:=List.replicate own none++fv.map fun j=>(Z[j]?).join
def Yv:DT:=fun _ S Q=>Q true S
def YX (own:Nat)(fv:List Nat)(wi:DI)(g:DG)(tc:DT)(te:DE):DE:=fun Z S Q=>wi Z S fun J S1=>J.items.length<=big/\∃ W:Nat->List D->Z5->Prop,W 0 [] S1/\(∀ i ys S,W i ys S->J.ok S) /\
 (∀ i d ys S,J.items[i]?=some d->W i ys S->g d (zgD own fv Z) S fun ρ2 S2=>tc ρ2 S2 fun b S3=>if b=true then te ρ2 S3 fun y S4=>W (i+1) (ys++[y]) S4 else W (i+1) ys S3) /\
 ∀ ys S,W J.items.length ys S->Q (.ref S.length) (S++[.lst ys])
def kD:Sum Int Str->D
 | .inl i=>.int i
 | .inr x=>.str x
section
variable {κ:Type}[DecidableEq κ]
def dval (Z6:List (κ×D))(k:κ):Option D:=(Z6.find? fun kv=>decide (kv.1=k)).map (·.2)
def dput (Z6:List (κ×D))(k:κ)(v:D):List (κ×D):=if (Z6.any fun kv=>decide (kv.1=k))=true then Z6.map (fun kv=>if kv.1=k then (kv.1,v) else kv) else Z6++[(k,v)]
end
def DGt (S:Z5)(x y:D)(o:Option D):Prop:=(∃ n Z6 z,x=.ref n/\y=.str z/\S[n]?=some (.dk Z6)/\o=dval Z6 z)\/(∃ n Z6 ks,x=.ref n/\y=.tup (ks.map kD)/\S[n]?=some (.dt Z6)/\o=dval Z6 ks)
def zoL:DE:=fun _ S Q=>Q (.ref S.length) (S++[.dk []])
def zoB:DE:=fun _ S Q=>Q (.ref S.length) (S++[.dt []])
def ziv (td ti:DE):DE:=fun Z S Q=>td Z S fun x S1=>ti Z S1 fun y S2=>∃ d,DGt S2 x y (some d)/\Q d S2
def zdW (S:Z5)(x y v:D)(Q:Z5->Prop):Prop:=(∃ n Z6 z,x=.ref n/\y=.str z/\S[n]?=some (.dk Z6)/\Z6.length<big/\Q (S.set n (.dk (dput Z6 z v))))\/(∃ n Z6 ks,x=.ref n/\y=.tup (ks.map kD)/\S[n]?=some (.dt Z6)/\Z6.length<big/\Q (S.set n (.dt (dput Z6 ks v))))
def zhC (td ti tv:DE):DS:=fun E Z S=>tv Z S fun v S1=>td Z S1 fun x S2=>ti Z S2 fun y S3=>zdW S3 x y v (E.nx Z)
def fc:Cell->Bool
 | .lst xs=>xs.all (fl 20)
 | .ins _ _=>false
 | .dk _=>false
 | .dt _=>false
def Fin (S:Z5)(Q:DK):DK:=fun d S'=>Q d S'\/∃ S1,S1 <+: S'/\S.length<=S1.length/\(fl 20 d=true\/∃ n,d=.ref n/\n<S1.length)/\(∀ (n:Nat) c,S1[n]?=some c->S[n]?=some c\/fc c=true)/\Q d S1
def zd7 (n:Nat)(ds:List D):ZP:=ds.map some++List.replicate (n-ds.length) none
def BodyOk (n:Nat)(b:DS)(f:ZS):Prop:=∀ ds S Q,f ds S Q->b ⟨fun _ S'=>Fin S Q .non S',Fin S Q,fun _ _=>False,fun _ _=>False⟩ (zd7 n ds) S
abbrev XD:=Str->Z5->Prop
abbrev XR:=ZP->Str->Z5->Prop
abbrev Wj:=List D->Z5->DK->XD->Prop
def zb4 (f:Wj)(ex:XR)(t:DA):DE:=fun Z S Q=>t Z S fun xs S1=>f xs S1 Q (ex Z)
def xF:XR:=fun _ _ _=>False
def zfF (ex:XR)(c:Str):DS:=fun _ Z S=>ex Z c S
def zcC (n:Nat)(b:XR->DS)(f:Wj):Prop:=∀ ds S Q ex,f ds S Q ex->b (fun _=>ex) ⟨fun _ S'=>Fin S Q .non S',Fin S Q,fun _ _=>False,fun _ _=>False⟩ (zd7 n ds) S
def New (Q:DK)(S:Z5)(xs:List D):Prop:=Q (.ref S.length) (S++[.lst xs])
def Put (Q:Z5->Prop)(S:Z5)(n:Nat)(c:Cell):Prop:=Q (S.set n c)
def zoJ (own:Nat)(fv:List Nat)(g:DG)(tc:DT)(te:DE)(Z:ZP)(Q:DK)(J:DIt)(S:Z5):Prop:=J.items.length<=big/\∃ W:Nat->List D->Z5->Prop,W 0 [] S/\(∀ i ys S,W i ys S->J.ok S) /\
 (∀ i d ys S,J.items[i]?=some d->W i ys S->g d (zgD own fv Z) S fun ρ2 S2=>tc ρ2 S2 fun b S3=>if b=true then te ρ2 S3 fun y S4=>W (i+1) (ys++[y]) S4 else W (i+1) ys S3) /\
 ∀ ys S,W J.items.length ys S->New Q S ys
def zsE (d:D)(Z:ZP)(Q:ZP->Z5->Prop)(o i:D)(S2:Z5):Prop:=∃ n xs k j,o=.ref n/\i=.int k/\S2[n]?=some (.lst xs)/\X5 xs.length k=some j/\Q Z (S2.set n (.lst (xs.set j d)))
def zsL (nx:ZP->Z5->Prop)(rt:DK)(g:DG)(t:DS)(Z:ZP)(J:DIt)(S:Z5):Prop:=∃ W:Nat->ZP->Z5->Prop,W 0 Z S/\(∀ i Z S,W i Z S->J.ok S) /\
 (∀ i d Z S,J.items[i]?=some d->W i Z S->g d Z S fun ρ2 S2=>t ⟨W (i+1),rt,nx,W (i+1)⟩ ρ2 S2)/\∀ Z S,W J.items.length Z S->nx Z S
def znY (W:Nat->ZP->Z5->Prop)(m:Nat)(t:DS)(rt:DK)(nx:ZP->Z5->Prop)(Z:ZP)(S:Z5):Prop:=∃ N:ZP->Z5->Prop,(∀ ρ' S',N ρ' S'->∃ m',m'<m/\W m' ρ' S')/\t ⟨N,rt,nx,N⟩ Z S
theorem YQ {nx:ZP->Z5->Prop}{rt:DK}{g:DG}{t:DS}{Z:ZP}{xs:List D}{ok:Z5->Prop}{S:Z5}(W:Nat->ZP->Z5->Prop)(h0:W 0 Z S)(hok:∀ i Z S,W i Z S->ok S)
  (step:∀ i d Z S,xs[i]?=some d->W i Z S->g d Z S fun ρ2 S2=>t ⟨W (i+1),rt,nx,W (i+1)⟩ ρ2 S2) (fin:∀ Z S,W xs.length Z S->nx Z S):zsL nx rt g t Z ⟨xs,ok⟩ S:=⟨W,h0,hok,step,fin⟩
theorem zxx {S:Z5}{Q:DK}{xs:List D}(h:Q (.ref S.length) (S++[.lst xs])):New Q S xs:=h
theorem zhk {S T:Z5}{Q:DK}{xs:List D}(h:Q (.ref (S.length+T.length)) (S++(T++[.lst xs]))):New Q (S++T) xs:=by
 unfold New;rw [qh,qp];exact h
section
variable {S:Z5}{Q:DK}{xs:List D}{a b c d e f:Cell}
theorem zxg (h:Q (.ref (S.length+1)) (S++[a,.lst xs])):New Q (S++[a]) xs:=zhk h
theorem zxr (h:Q (.ref (S.length+2)) (S++[a,b,.lst xs])):New Q (S++[a,b]) xs:=zhk h
theorem zxT (h:Q (.ref (S.length+3)) (S++[a,b,c,.lst xs])):New Q (S++[a,b,c]) xs:=zhk h
theorem zxs (h:Q (.ref (S.length+4)) (S++[a,b,c,d,.lst xs])):New Q (S++[a,b,c,d]) xs:=zhk h
theorem zxt (h:Q (.ref (S.length+5)) (S++[a,b,c,d,e,.lst xs])):New Q (S++[a,b,c,d,e]) xs:=zhk h
end
theorem zfP {S:Z5}{a:Cell}{T:Z5}{Q:Z5->Prop}{c:Cell}(h:Q (S++c::T)):Put Q (S++a::T) S.length c:=by
 unfold Put;rw [qaL _ _ (qf _),qav];exact h
theorem zws {S:Z5}{a:Cell}{G T:Z5}{Q:Z5->Prop}{c:Cell}(h:Q (S++c::(G++T))):Put Q (S++(a::G++T)) S.length c:=zfP h
theorem zyb {S:Z5}{Q:Z5->Prop}{n:Nat}{c:Cell}(h:Q (S.set n c)):Put Q S n c:=h
theorem ziN {S T:Z5}{Q:Z5->Prop}{k:Nat}{c:Cell}(h:Q (S++T.set k c)):Put Q (S++T) (S.length+k) c:=by
 unfold Put;rw [qaL _ _ (qaP _ _),qaY];exact h
section
variable {nx:ZP->Z5->Prop}{rt:DK}{bk ct:ZP->Z5->Prop}{Z:ZP}{S:Z5}
theorem znV {t u:DS}(h:t ⟨u ⟨nx,rt,bk,ct⟩,rt,bk,ct⟩ Z S):zA t u ⟨nx,rt,bk,ct⟩ Z S:=h
theorem r_J {t:DS}(J:ZP->Z5->Prop)(h:t ⟨J,rt,bk,ct⟩ Z S)(hJ:∀ Z S,J Z S->nx Z S):sJ t ⟨nx,rt,bk,ct⟩ Z S:=⟨J,hJ,h⟩
theorem zr0 {t:DS}(h:t ⟨nx,rt,bk,ct⟩ Z S):sJ t ⟨nx,rt,bk,ct⟩ Z S:=⟨nx,fun _ _ h=>h,h⟩
theorem zvr (h:nx Z S):zX ⟨nx,rt,bk,ct⟩ Z S:=h
theorem zsC {t:DE}(h:t Z S rt):zT t ⟨nx,rt,bk,ct⟩ Z S:=h
theorem zvp {t:DE}(h:t Z S fun _ S1=>nx Z S1):Zd t ⟨nx,rt,bk,ct⟩ Z S:=h
theorem zsk {t:DE}{g:DG}(h:t Z S fun x S1=>g x Z S1 nx):zL t g ⟨nx,rt,bk,ct⟩ Z S:=h
theorem zy7 {c:DT}{t u:DS}(h:c Z S fun b S1=>if b=true then t ⟨nx,rt,bk,ct⟩ Z S1 else u ⟨nx,rt,bk,ct⟩ Z S1):ZJ c t u ⟨nx,rt,bk,ct⟩ Z S:=h
theorem zwH {c f:Str}{to tv:DE}(h:tv Z S fun y S1=>to Z S1 fun x S2=>∃ n fs,x=.ref n/\S2[n]?=some (.ins c fs)/\fs.length<100/\nx Z (S2.set n (.ins c (putD f y fs)))):zdT c f to tv ⟨nx,rt,bk,ct⟩ Z S:=h
theorem zyf {i:Nat}{t:DE}{a:Int}(e:Z[i]?=some (some (.int a)))(h:t Z S fun y S1=>∃ b,y=.int b/\nx (Z.set i (some (.int (a+b)))) S1):zrq i t ⟨nx,rt,bk,ct⟩ Z S:=⟨a,e,h⟩
theorem zxE {wi:DI}{g:DG}{t:DS}(h:wi Z S fun J S1=>zsL nx rt g t Z J S1):Y5 wi g t ⟨nx,rt,bk,ct⟩ Z S:=h
theorem zqS {c:DT}{t:DS}(W:Nat->ZP->Z5->Prop)(m:Nat)(h0:W m Z S)(h:∀ m Z S,W m Z S->c Z S fun b S1=>if b=true then znY W m t rt nx Z S1 else nx Z S1):zeZ c t ⟨nx,rt,bk,ct⟩ Z S:=⟨W,⟨m,h0⟩,h⟩
theorem zxz {c:DT}{t:DS}(W:Nat->ZP->Z5->Prop)(E:ZP->Z5->Prop)(m:Nat)(h0:W m Z S)(hE:∀ Z S,E Z S->nx Z S)(h:∀ nx':ZP->Z5->Prop,(∀ Z S,E Z S->nx' Z S)->∀ m Z S,W m Z S->c Z S fun b S1=>if b=true then znY W m t rt nx' Z S1 else nx' Z S1):zeZ c t ⟨nx,rt,bk,ct⟩ Z S:=⟨W,⟨m,h0⟩,h nx hE⟩
theorem zp5 {t:DS}{W:Nat->ZP->Z5->Prop}{m:Nat}(h:t ⟨fun ρ' S'=>∃ m',m'<m/\W m' ρ' S',rt,nx,fun ρ' S'=>∃ m',m'<m/\W m' ρ' S'⟩ Z S):znY W m t rt nx Z S:=⟨_,fun _ _ z=>z,h⟩
theorem zte {i:Nat}{d:D}{Q:ZP->Z5->Prop}(h:Q (Z.set i (some d)) S):zu i d Z S Q:=h
theorem zwt {Q:ZP->Z5->Prop}(h:Q Z S):Yl [] Z S Q:=⟨rfl,h⟩
theorem zuk {t:DG}{u:DGs}{d:D}{r:List D}{Q:ZP->Z5->Prop}(h:t d Z S fun ρ' S'=>u r ρ' S' Q):Zt t u (d::r) Z S Q:=⟨d,r,rfl,h⟩
theorem zuD {n:Nat}{t:DGs}{xs:List D}{Q:ZP->Z5->Prop}(e:xs.length=n)(h:t xs Z S Q):Ym n t (.tup xs) Z S Q:=⟨xs,rfl,e,h⟩
theorem zv9 {to ti:DE}{d:D}{Q:ZP->Z5->Prop}(h:to Z S fun o S1=>ti Z S1 fun i S2=>zsE d Z Q o i S2):zgm to ti d Z S Q:=h
theorem zf5 {i:Nat}{d:D}{Q:DK}(h:Z[i]?=some (some d))(q:Q d S):WY i Z S Q:=⟨d,h,q⟩
theorem r_c {d:D}{Q:DK}(q:Q d S):dC d Z S Q:=q
theorem zoE {r:Zb}{ta tb:DE}{Q:DK}(h:ta Z S fun x S1=>tb Z S1 fun y S2=>r x y S2 Q):Z7 r ta tb Z S Q:=h
theorem zy3 {r:D->Z5->DK->Prop}{ta:DE}{Q:DK}(h:ta Z S fun x S1=>r x S1 Q):Yh r ta Z S Q:=h
theorem zye {Q:List D->Z5->Prop}(h:Q [] S):zG Z S Q:=h
theorem zmw {ta:DE}{tr:DA}{Q:List D->Z5->Prop}(h:ta Z S fun x S1=>tr Z S1 fun xs S2=>Q (x::xs) S2):zf ta tr Z S Q:=h
theorem zsn {t:DA}{Q:DK}(h:t Z S fun xs S1=>xs.length<=big/\Q (.tup xs) S1):dTup t Z S Q:=h
theorem zxk {t:DA}{Q:DK}(h:t Z S fun xs S1=>xs.length<=big/\New Q S1 xs):Xx t Z S Q:=h
theorem zxK {xs:List D}{P:Prop}(h:Nat.ble xs.length big=true)(q:P):xs.length<=big/\P:=⟨qak h,q⟩
theorem zwC {f:ZS}{t:DA}{Q:DK}(h:t Z S fun xs S1=>f xs S1 Q):dCall f t Z S Q:=h
theorem r_b {r:DB}{t:DA}{Q:DK}(h:t Z S fun xs S1=>r xs S1 Q):dB r t Z S Q:=h
theorem r_m {r:DM}{ta:DE}{t:DA}{Q:DK}(h:ta Z S fun x S1=>(∃ n ys,x=.ref n/\S1[n]?=some (.lst ys))/\t Z S1 fun xs S2=>r x xs S2 Q):dM r ta t Z S Q:=h
theorem zxp {n:Nat}{ys:List D}{P:Prop}(h:S[n]?=some (.lst ys))(q:P):(∃ m ys,D.ref n=.ref m/\S[m]?=some (.lst ys))/\P:=⟨⟨n,ys,rfl,h⟩,q⟩
theorem r_t {t:DE}{Q:Bool->Z5->Prop}(h:t Z S fun x S1=>∃ b,x=.bl b/\Q b S1):dT t Z S Q:=h
theorem zyR {c:Bool}{P:Bool->Prop}(h:P c):∃ b,D.bl c=D.bl b/\P b:=⟨c,rfl,h⟩
theorem zw3 {c:Int}{P:Int->Prop}(h:P c):∃ b,D.int c=D.int b/\P b:=⟨c,rfl,h⟩
theorem zxA {t u:DT}{Q:Bool->Z5->Prop}(h:t Z S fun c S1=>if c=true then u Z S1 Q else Q false S1):zdH t u Z S Q:=h
theorem zyS {t u:DT}{Q:Bool->Z5->Prop}(h:t Z S fun c S1=>if c=true then Q true S1 else u Z S1 Q):dOr t u Z S Q:=h
theorem zyq {t:DT}{Q:Bool->Z5->Prop}(h:t Z S fun c S1=>Q (!c) S1):WW t Z S Q:=h
theorem zwI {t u:DE}{Q:DK}(h:t Z S fun x S1=>∃ c,x=.bl c/\if c=true then u Z S1 Q else Q (.bl false) S1):zeA t u Z S Q:=h
theorem zym {t u:DE}{Q:DK}(h:t Z S fun x S1=>∃ c,x=.bl c/\if c=true then Q (.bl true) S1 else u Z S1 Q):zoH t u Z S Q:=h
theorem zwf {t:DE}{Q:DK}(h:t Z S fun x S1=>∃ c,x=.bl c/\Q (.bl (!c)) S1):zfd t Z S Q:=h
theorem zwU {c:DT}{ta tb:DE}{Q:DK}(h:c Z S fun b S1=>if b=true then ta Z S1 Q else tb Z S1 Q):zjF c ta tb Z S Q:=h
theorem zuw {r r':Zb}{ta tb tc:DE}{Q:DK}(h:ta Z S fun x S1=>tb Z S1 fun y S2=>r x y S2 fun z S3=>∃ c,z=.bl c/\if c=true then tc Z S3 fun w S4=>r' y w S4 Q else Q (.bl false) S3):zhc r r' ta tb tc Z S Q:=h
theorem zw5 {f:Str}{ta:DE}{Q:DK}(h:ta Z S fun x S1=>∃ n c fs d,x=.ref n/\S1[n]?=some (.ins c fs)/\fs.lookup f=some d/\Q d S1):YS f ta Z S Q:=h
theorem zy1 {r:D->Option Int->Option Int->Z5->DK->Prop}{ta:DE}{lo hi:Option DE}{Q:DK}(h:ta Z S fun x S1=>zid lo Z S1 fun l S2=>zid hi Z S2 fun h S3=>r x l h S3 Q):dSl r ta lo hi Z S Q:=h
theorem zuW {Q:Option Int->Z5->Prop}(h:Q none S):zid none Z S Q:=h
theorem zwe {t:DE}{Q:Option Int->Z5->Prop}(h:t Z S fun x S1=>∃ i,x=.int i/\Q (some i) S1):zid (some t) Z S Q:=h
theorem zv2 {Q:Bool->Z5->Prop}(h:Q true S):Yv Z S Q:=h
end
section
variable {S:Z5}{Q:DK}
theorem zxS {i j:Int}(q:Q (.int (i+j)) S):Zy (.int i) (.int j) S Q:=.inl ⟨i,j,rfl,rfl,q⟩
theorem zl7 {xs ys:List D}(h:xs.length+ys.length<=big)(q:Q (.tup (xs++ys)) S):Zy (.tup xs) (.tup ys) S Q:=.inr (.inl ⟨xs,ys,rfl,rfl,h,q⟩)
theorem zuN {x y:D}{xs ys:List D}(hx:Lst S x xs)(hy:Lst S y ys)(h:xs.length+ys.length<=big)(q:New Q S (xs++ys)):Zy x y S Q:=.inr (.inr (.inl ⟨xs,ys,hx,hy,h,q⟩))
theorem zv1 {i j:Str}(h:i.length+j.length<=big)(q:Q (.str (i++j)) S):Zy (.str i) (.str j) S Q:=.inr (.inr (.inr ⟨i,j,rfl,rfl,h,q⟩))
theorem zx3 {i j:Int}(q:Q (.int (i-j)) S):Zq (.int i) (.int j) S Q:=⟨i,j,rfl,rfl,q⟩
theorem zw1 {i j:Int}(c:YJ i j)(q:Q (.int (i*j)) S):Yu (.int i) (.int j) S Q:=.inl ⟨i,j,rfl,rfl,c,q⟩
theorem zxc {c:Nat}{z:Str}(q:Q (.bl (decide (c∈z.cps.toList))) S):oIn (.str ⟨#[c]⟩) (.str z) S Q:=.inr ⟨c,z,rfl,rfl,q⟩
theorem zxP {i j:Int}(c:0<j/\My.Bd 8000 j)(q:Q (.int (i/j)) S):oDiv (.int i) (.int j) S Q:=⟨i,j,rfl,rfl,⟨by lia,c.2⟩,by show Q (.int (i.fdiv j)) S;rw [Int.fdiv_eq_ediv_of_nonneg i (by lia)];exact q⟩
theorem zyn {i j:Int}(c:0<j)(q:Q (.int (i%j)) S):oMod (.int i) (.int j) S Q:=⟨i,j,rfl,rfl,(by show j≠0;lia),by show Q (.int (i.fmod j)) S;rw [Int.fmod_eq_emod_of_nonneg i (by lia)];exact q⟩
theorem zqo {i j:Int}(c:zsj i j)(q:Q (.int (i.fdiv j)) S):oDiv (.int i) (.int j) S Q:=⟨i,j,rfl,rfl,c,q⟩
theorem zvx {i j:Int}(c:j≠0)(q:Q (.int (i.fmod j)) S):oMod (.int i) (.int j) S Q:=⟨i,j,rfl,rfl,c,q⟩
theorem zyc {i:Int}(q:Q (.int (-i)) S):Yi (.int i) S Q:=⟨i,rfl,q⟩
theorem zyC {i j:Int}(q:Q (.bl (decide (i<j))) S):oLt (.int i) (.int j) S Q:=⟨i,j,rfl,rfl,q⟩
theorem zzf {i j:Int}(q:Q (.bl (decide (i<=j))) S):oLe (.int i) (.int j) S Q:=⟨i,j,rfl,rfl,q⟩
theorem zzc {i j:Int}(q:Q (.bl (decide (j<i))) S):Xa (.int i) (.int j) S Q:=⟨i,j,rfl,rfl,q⟩
theorem zyQ {i j:Int}(q:Q (.bl (decide (j<=i))) S):oGe (.int i) (.int j) S Q:=⟨i,j,rfl,rfl,q⟩
theorem zwT {i j:Int}(q:Q (.bl (decide (i=j))) S):oEq (.int i) (.int j) S Q:=⟨_,.inl ⟨rfl,rfl,rfl⟩,q⟩
theorem zyl {i j:Int}(q:Q (.bl (!decide (i=j))) S):V8 (.int i) (.int j) S Q:=⟨_,.inl ⟨rfl,rfl,rfl⟩,q⟩
theorem zwS (q:Q (.bl true) S):oIs .non .non S Q:=.inl ⟨rfl,q⟩
theorem zxG {i:Int}(q:Q (.bl false) S):oIs (.int i) .non S Q:=.inl ⟨rfl,q⟩
theorem zwx (q:Q (.bl false) S):zfu .non .non S Q:=.inl ⟨rfl,q⟩
theorem zuB {i:Int}(q:Q (.bl true) S):zfu (.int i) .non S Q:=.inl ⟨rfl,q⟩
theorem zsp {x:D}(q:Q (.bl (!zi0 x)) S):zfu x .non S Q:=.inl ⟨rfl,q⟩
theorem zxv {xs:List D}{i:Int}{d:D}(e:Y8 xs i=some d)(q:Q d S):ZW (.tup xs) (.int i) S Q:=.inl ⟨i,xs,d,rfl,.inl rfl,e,q⟩
theorem zsi {x:D}{xs:List D}{i:Int}{d:D}(h:Lst S x xs)(e:Y8 xs i=some d)(q:Q d S):ZW x (.int i) S Q:=.inl ⟨i,xs,d,rfl,.inr h,e,q⟩
theorem zyt {z:Str}{i:Int}{c:Nat}(hz:z.length<=big)(e:atS z i=some c)(q:Q (.str ⟨#[c]⟩) S):ZW (.str z) (.int i) S Q:=.inr ⟨z,i,c,rfl,rfl,hz,e,q⟩
theorem zvO {xs:List D}{lo hi:Option Int}(q:Q (.tup (cutD xs lo hi)) S):zij (.tup xs) lo hi S Q:=.inl ⟨xs,rfl,q⟩
theorem zuK {x:D}{xs:List D}{lo hi:Option Int}(h:Lst S x xs)(q:New Q S (cutD xs lo hi)):zij x lo hi S Q:=.inr (.inl ⟨xs,h,q⟩)
theorem zv0 {xs:List D}(q:Q (.int xs.length) S):YK [.tup xs] S Q:=.inl ⟨_,xs,rfl,.inl rfl,q⟩
theorem zwq {x:D}{xs:List D}(h:Lst S x xs)(q:Q (.int xs.length) S):YK [x] S Q:=.inl ⟨_,xs,rfl,.inr h,q⟩
theorem zp1 {z:Str}(hz:z.length<=big)(q:Q (.int z.length) S):YK [.str z] S Q:=.inr ⟨z,rfl,hz,q⟩
theorem zxl {i:Int}(q:Q (.int (i.natAbs:Int)) S):zsb [.int i] S Q:=⟨i,rfl,q⟩
theorem zwG {i j:Int}(q:Q (.int (max i j)) S):Wu [.int i,.int j] S Q:=⟨i,j,rfl,q⟩
theorem zuZ {i j:Int}(q:Q (.int (min i j)) S):zd0 [.int i,.int j] S Q:=⟨i,j,rfl,q⟩
theorem zvi {x:D}{ns:List Int}(h:Lst S x (ns.map D.int))(h0:0<ns.length)(q:∀ m:Int,m∈ns->(∀ a∈ns,a<=m)->Q (.int m) S):znU [x] S Q:=⟨x,ns,rfl,h,h0,q⟩
theorem zuR {x:D}{ns:List Int}(h:Lst S x (ns.map D.int))(h0:0<ns.length)(q:∀ m:Int,m∈ns->(∀ a∈ns,m<=a)->Q (.int m) S):znO [x] S Q:=⟨x,ns,rfl,h,h0,q⟩
theorem zw6 {x:D}{bs:List Bool}(h:Lst S x (bs.map D.bl))(q:Q (.bl (bs.all id)) S):zef [x] S Q:=⟨x,bs,rfl,h,q⟩
theorem zqZ {x:D}{xs:List D}(h:Lst S x xs)(q:Q (.tup xs) S):zfL [x] S Q:=⟨_,xs,rfl,.inr h,q⟩
theorem ztZ {x:D}{xs:List D}(h:Lst S x xs)(q:New Q S xs):zjm [x] S Q:=⟨_,xs,rfl,.inr h,q⟩
theorem ztI {x:D}{cs:List (Int×Int)}(h:Lst S x (cs.map p2))(hl:cs.length<64)(q:∀ ss:List (Int×Int),ss.Perm cs->ss.Pairwise (fun a b=>zh8 b a=false)->New Q S (ss.map p2)):zn5 [x] S Q:=.inl ⟨x,cs,rfl,h,hl,q⟩
theorem zrv {n:Nat}{xs:List D}{y:D}(h:S[n]?=some (.lst xs))(hl:xs.length<big)(q:Put (Q .non) S n (.lst (xs++[y]))):zcD (.ref n) [y] S Q:=⟨n,xs,y,rfl,rfl,h,hl,q⟩
theorem zpE {n:Nat}{xs ys:List D}(h:S[n]?=some (.lst xs))(hl:xs.length+ys.length<=big)(q:Put (Q .non) S n (.lst (xs++ys))):ziw (.ref n) [.tup ys] S Q:=.inr ⟨n,xs,ys,rfl,rfl,h,hl,q⟩
theorem zu9 {n:Nat}{xs:List D}{y:D}(h:S[n]?=some (.lst (y::xs)))(q:Put (Q y) S n (.lst xs)):zoo (.ref n) [.int 0] S Q:=⟨n,xs,y,rfl,rfl,h,q⟩
theorem zs7 {n j:Nat}{xs:List D}{y e:D}(h:S[n]?=some (.lst xs))(f:xs.all (fl 20)=true)(g:fl 20 y=true)(hl:xs.length<=big)(hj:xs[j]?=some e)(h1:eqv e y=true)(h2:∀ (m:Nat) e',m<j->xs[m]?=some e'->eqv e' y=false)(q:Q (.int (j:Nat)) S):zmp (.ref n) [y] S Q:=⟨n,xs,y,j,e,rfl,rfl,h,f,g,hl,hj,h1,h2,q⟩
theorem zga {n:Nat}{xs:List D}{k:Int}{j:Nat}{d:D}{Z:ZP}{Q:ZP->Z5->Prop}(h:S[n]?=some (.lst xs))(e:X5 xs.length k=some j)(q:Put (Q Z) S n (.lst (xs.set j d))):zsE d Z Q (.ref n) (.int k) S:=⟨n,xs,k,j,rfl,rfl,h,e,q⟩
end
section
variable {Z:ZP}{S:Z5}{R:DIt->Z5->Prop}
theorem zuS {t:DE}(h:t Z S fun x S1=>zhs x S1 R):Zm t Z S R:=h
theorem zwR {xs:List D}(q:R ⟨xs,fun _=>True⟩ S):zhs (.tup xs) S R:=.inl ⟨xs,rfl,q⟩
theorem zyh {x:D}{xs:List D}(h:Lst S x xs)(q:R ⟨xs,fun S=>Lst S x xs⟩ S):zhs x S R:=.inr (.inl ⟨xs,h,q⟩)
theorem zxF {z:Str}(q:R ⟨signs z,fun _=>True⟩ S):zhs (.str z) S R:=.inr (.inr ⟨z,rfl,q⟩)
theorem zv4 {t:DA}(h:t Z S fun vs S1=>∃ j:Int,vs=[.int j]/\-(2 ^ 62)<=j/\j<2 ^ 62/\R ⟨upto 0 j.toNat,fun _=>True⟩ S1):zhA t Z S R:=h
theorem zvV {t:DA}(h:t Z S fun vs S1=>∃ i j:Int,vs=[.int i,.int j]/\R ⟨upto i (j-i).toNat,fun _=>True⟩ S1):ziR t Z S R:=h
theorem zvN {t:DA}(h:t Z S (zlw R)):zf8 t Z S R:=h
theorem zlK {x:D}{xs:List D}(h:Lst S x xs)(q:R ⟨Wa 0 xs,fun S=>Lst S x xs⟩ S):zlw R [x] S:=.inl ⟨x,xs,rfl,h,q⟩
theorem zuO {Q:DK}{x:D}{zs:List Str}(hx:Lst S x (zs.map D.str))(hl:zs.length<=4000)(q:Q (.int (zqX zs)) S):znX [x] S Q:=⟨x,zs,rfl,hx,hl,q⟩
theorem zxJ {t:DA}(h:t Z S (zoF R)):znW t Z S R:=h
theorem zwJ {x y:D}{xs ys:List D}(hx:Lst S x xs)(hy:Lst S y ys)(q:R ⟨Xq xs ys,fun S=>Lst S x xs/\Lst S y ys⟩ S):zoF R [x,y] S:=.inl ⟨x,y,xs,ys,rfl,hx,hy,q⟩
theorem zyL {own:Nat}{fv:List Nat}{wi:DI}{g:DG}{tc:DT}{te:DE}{Q:DK}(h:wi Z S fun J S1=>zoJ own fv g tc te Z Q J S1):YX own fv wi g tc te Z S Q:=h
end
theorem zrz {A B:Prop}(h:B):if false=true then A else B:=by rw [if_neg qu];exact h
theorem zre {A B:Prop}(h:A):if true=true then A else B:=by rw [if_pos rfl];exact h
theorem ZM {c A B:Prop}[Decidable c](h1:c->A)(h2:¬ c->B):if decide c=true then A else B:=by
 by_cases h:c
 ·rw [decide_eq_true h,if_pos rfl];exact h1 h
 ·rw [decide_eq_false h,if_neg qu];exact h2 h
theorem zfV {c A B:Prop}[Decidable c](h1:¬ c->A)(h2:c->B):if (!decide c)=true then A else B:=by
 by_cases h:c
 ·rw [decide_eq_true h];exact h2 h
 ·rw [decide_eq_false h];exact h1 h
theorem WQ (S T:Z5)(k:Nat):(S++T)[S.length+k]?=T[k]?:=by
 rw [qj (qaP _ _),qaY]
theorem ztg (S T:Z5):(S++T)[S.length]?=T[0]?:=WQ S T 0
theorem Y6 {S T:Z5}{c:Cell}:(S++c::T)[S.length]?=some c:=(WQ S (c::T) 0).trans rfl
theorem zmZ {S T:Z5}{c:Cell}:(S++(T++[c]))[S.length+T.length]?=some c:=by rw [WQ,qj (qf _),qav];rfl
theorem ztN (S T:Z5)(k:Nat)(c:Cell):(S++T).set (S.length+k) c=S++T.set k c:=by
 rw [qaL _ _ (qaP _ _),qaY]
theorem V6 (S T:Z5)(a c:Cell):(S++a::T).set S.length c=S++c::T:=ztN S (a::T) 0 c
theorem Xe {S T:Z5}{n:Nat}{c:Cell}(h:S[n]?=some c):(S++T)[n]?=some c:=by
 have:n<S.length:=by
  rcases qM n S.length with g | g
  ·exact g
  ·rw [qq g] at h;cases h
 rw [qk this];exact h
theorem Lst.old {S T:Z5}{x:D}{xs:List D}(h:Lst S x xs):Lst (S++T) x xs:=h.imp id fun⟨n,e,h⟩=>⟨n,e,Xe h⟩
theorem Lst.at {S T:Z5}{k:Nat}{xs:List D}(h:T[k]?=some (.lst xs)):Lst (S++T) (.ref (S.length+k)) xs:=.inr ⟨_,rfl,by rw [WQ];exact h⟩
theorem Lst.at0 {S T:Z5}{xs:List D}:Lst (S++.lst xs::T) (.ref S.length) xs:=.inr ⟨_,rfl,by rw [ztg];rfl⟩
theorem Lst.new {S T:Z5}{xs:List D}:Lst (S++(T++[.lst xs])) (.ref (S.length+T.length)) xs:=.inr ⟨_,rfl,zmZ⟩
theorem Lst.rl {S:Z5}{xs:List D}:Lst S (.rl xs) xs:=.inl rfl
theorem Lst.here {S:Z5}{n:Nat}{xs:List D}(h:S[n]?=some (.lst xs)):Lst S (.ref n) xs:=.inr ⟨n,rfl,h⟩
theorem Yz {S T:Z5}{Q:DK}{d:D}(h:fl 20 d=true)(q:Q d S):Fin S Q d (S++T):=.inr ⟨S,qaZ _ _,qf _,.inl h,fun _ _ e=>.inl e,q⟩
theorem fin_same {S S':Z5}{Q:DK}{d:D}(q:Q d S'):Fin S Q d S':=.inl q
section
variable {S:Z5}{Q:DK}
theorem zkT {i:Int}(q:Q (.bl true) S):zeK [.int i,.ty "int"] S Q:=⟨_,_,true,rfl,by rfl,q⟩
theorem zj1 {i:Int}(q:Q (.bl false) S):zeK [.int i,.ty "bool"] S Q:=⟨_,_,false,rfl,by rfl,q⟩
theorem zi3 {xs:List D}(q:Q (.bl true) S):zeK [.tup xs,.ty "tuple"] S Q:=⟨_,_,true,rfl,by rfl,q⟩
end
theorem zxQ {A B:Prop}(h:B):if (!true)=true then A else B:=zrz h
theorem zxa {A B:Prop}(h:A):if (!false)=true then A else B:=zre h
theorem zdj {S:Z5}{Q:DK}{x:D}{bs:List Bool}{b:Bool}(h:Lst S x (bs.map D.bl))(e:bs.all id=b)(q:Q (.bl b) S):zef [x] S Q:=zw6 h (by rw [e];exact q)
def LcW (S:Z5)(items:List D)(p:D->Bool)(f:D->D)(i:Nat)(ys:List D)(S':Z5):Prop:=S'=S/\ys=((items.take i).filter p).map f
theorem Wt {α:Type}{xs:List α}{i:Nat}{x:α}(h:xs[i]?=some x):xs.take (i+1)=xs.take i++[x]:=by rw [List.take_succ,h];rfl
theorem Yc {S:Z5}{items:List D}{p:D->Bool}{f:D->D}{i:Nat}{ys:List D}{d y:D}(hd:items[i]?=some d)(hw:LcW S items p f i ys S)(hp:p d=true)(hy:y=f d):LcW S items p f (i+1) (ys++[y]) S :=
 ⟨rfl,by rw [Wt hd,qaw,qC,<- hw.2,qa0 hp,hy];rfl⟩
theorem zsN {S:Z5}{items:List D}{p:D->Bool}{f:D->D}{i:Nat}{ys:List D}{d:D}(hd:items[i]?=some d)(hw:LcW S items p f i ys S)(hp:p d=false):LcW S items p f (i+1) ys S :=
 ⟨rfl,by rw [Wt hd,qaw,qC,<- hw.2,qa1 (by rw [hp];exact qu)];simp⟩
theorem X4 {own:Nat}{fv:List Nat}{xs:List D}{ok:Z5->Prop}{g:DG}{tc:DT}{te:DE}{Z:ZP}{S:Z5}{Q:DK}(p:D->Bool)(f:D->D)(hok:ok S)(hbig:xs.length<=big)
  (step:∀ i d ys,xs[i]?=some d->LcW S xs p f i ys S->g d (zgD own fv Z) S fun ρ2 S2=>tc ρ2 S2 fun b S3=>if b=true then te ρ2 S3 fun y S4=>LcW S xs p f (i+1) (ys++[y]) S4 else LcW S xs p f (i+1) ys S3)
  (q:New Q S ((xs.filter p).map f)):zoJ own fv g tc te Z Q ⟨xs,ok⟩ S:=by
 refine⟨hbig,LcW S xs p f,⟨rfl,by simp⟩,fun i ys S' h=>by rw [h.1];exact hok,fun i d ys S' hd h=>?_,fun ys S' h=>?_⟩
 ·obtain⟨rfl,_⟩:=id h
  exact step i d ys hd h
 ·obtain⟨rfl,rfl⟩:=h
  rw [qag];exact q
theorem map_const {α β:Type}(xs:List α)(c:β):xs.map (fun _=>c)=List.replicate xs.length c:=by
 induction xs with
 | nil=>rfl
 | cons x xs ih=>rw [qI,ih];rfl
theorem filter_true {α:Type}(xs:List α):xs.filter (fun _=>true)=xs:=List.filter_eq_self.mpr fun _ _=>rfl
theorem zcB {ds:List D}{i:Nat}{d:D}(h:ds[i]?=some d):Y8 ds (i:Int)=some d:=by
 have hl:i<ds.length:=by
  rcases qM i ds.length with g | g
  ·exact g
  ·rw [qq g] at h;cases h
 unfold Y8 X5
 rw [if_pos (by lia),if_pos (by lia)]
 simpa using h
theorem zhp {lo:Int}{n i:Nat}{d:D}(h:(upto lo n)[i]?=some d):i<n/\d=.int (lo+i):=by
 unfold upto at h
 rw [qi] at h
 by_cases hi:i<n
 ·rw [qaT hi] at h
  exact⟨hi,by simpa using h.symm⟩
 ·rw [qq (by simpa using hi)] at h;cases h
theorem zcP (lo:Int)(n:Nat):(upto lo n).length=n:=by unfold upto;simp
theorem zqt {zs:List Int}{k:Int}(h0:0<=k)(h:k<zs.length):∃ z,z∈zs/\Y8 (zs.map D.int) k=some (.int z):=by
 refine⟨zs[k.toNat]'(by lia),qbt _,?_⟩
 unfold Y8 X5
 rw [qb,if_pos h0,if_pos h]
 simp only [Option.bind_some]
 rw [qi,qc (by lia)];rfl
theorem zvz {zs:List Int}{k:Int}(h0:0<=k)(h:k<zs.length):X5 (zs.map D.int).length k=some k.toNat:=by
 unfold X5
 rw [qb,if_pos h0,if_pos h]
theorem zrm {zs:List Int}{i:Nat}{v z:Int}(h:z∈zs.set i v):z∈zs\/z=v:=by
 rcases List.mem_or_eq_of_mem_set h with h | h
 ·exact .inl h
 ·exact .inr h
theorem zdO {zs:List Int}{i:Nat}{d:D}(h:(zs.map D.int)[i]?=some d):∃ z,zs[i]?=some z/\d=.int z:=by
 rw [qi] at h
 cases e:zs[i]? with
 | none=>rw [e] at h;cases h
 | some p=>rw [e] at h;cases h;exact⟨p,rfl,rfl⟩
theorem zdr {cs:List (Int×Int)}{i:Nat}{d:D}(h:(cs.map p2)[i]?=some d):∃ c,cs[i]?=some c/\d=p2 c:=by
 rw [qi] at h
 cases e:cs[i]? with
 | none=>rw [e] at h;cases h
 | some p=>rw [e] at h;cases h;exact⟨p,rfl,rfl⟩
theorem zW {α:Type}{xs:List α}{i:Nat}{x:α}(h:xs[i]?=some x):i<xs.length:=by
 rcases qM i xs.length with g | g
 ·exact g
 ·rw [qq g] at h;cases h
def Y7:Option Int->D
 | none=>.non
 | some v=>.int v
theorem zb8:∀ {xs:List D} {k i:Nat} {d:D},(Wa k xs)[i]?=some d->∃ x,xs[i]?=some x/\d=.tup [.int ((k+i:Nat):Int),x]
 | [],k,i,d,h=>by simp [Wa] at h
 | x::xs,k,0,d,h=>⟨x,rfl,by simpa [Wa] using h.symm⟩
 | x::xs,k,i+1,d,h=>by
  obtain⟨y,e1,e2⟩:=zb8 (xs:=xs) (k:=k+1) (i:=i) (d:=d) (by simpa [Wa] using h)
  exact⟨y,by simpa using e1,by rw [e2,show k+1+i=k+(i+1) by lia]⟩
theorem zbr:∀ (k:Nat) (xs:List D),(Wa k xs).length=xs.length
  | _,[]=>rfl
  | k,x::xs=>congrArg (· + 1) (zbr (k+1) xs)
theorem zeL:∀ {xs ys:List D} {i:Nat} {d:D},(Xq xs ys)[i]?=some d->∃ x y,xs[i]?=some x/\ys[i]?=some y/\d=.tup [x,y]
 | [],ys,i,d,h=>by simp [Xq] at h
 | x::xs,[],i,d,h=>by simp [Xq] at h
 | x::xs,y::ys,0,d,h=>⟨x,y,rfl,rfl,by simpa [Xq] using h.symm⟩
 | x::xs,y::ys,i+1,d,h=>by
  obtain⟨a,b,e1,e2,e3⟩:=zeL (xs:=xs) (ys:=ys) (i:=i) (d:=d) (by simpa [Xq] using h)
  exact⟨a,b,by simpa using e1,by simpa using e2,e3⟩
theorem zdI:∀ (xs ys:List D),(Xq xs ys).length=min xs.length ys.length
 | [],ys=>by simp [Xq]
 | x::xs,[]=>by simp [Xq]
 | x::xs,y::ys=>by
  show (Xq xs ys).length+1=min (xs.length+1) (ys.length+1)
  rw [zdI xs ys];lia
def zfJ:ZS:=fun ds S Q=>∃ ns:List Int,ds=[.rl (ns.map D.int)]/\(S=[]/\∀ n∈ns,Hg n)/\ns.length<=63/\∀ S',Q (.bl true) S'
theorem zni {α β:Type}(f:α->β)(xs:List α)(lo hi:Option Int):cutD (xs.map f) lo hi=(cutD xs lo hi).map f:=by
 unfold cutD
 rw [qb,List.map_take,List.map_drop]
theorem ztC {α:Type}(xs:List α)(lo hi:Option Int):(cutD xs lo hi).length<=W4 xs.length xs.length hi-W4 xs.length 0 lo:=by
 unfold cutD
 rw [qab];lia
section
variable {nx:ZP->Z5->Prop}{rt:DK}{bk ct:ZP->Z5->Prop}{Z:ZP}{S:Z5}
theorem ztb {f:Wj}{ex:XR}{t:DA}{Q:DK}(h:t Z S fun xs S1=>f xs S1 Q (ex Z)):zb4 f ex t Z S Q:=h
theorem zuv {ex:XR}{c:Str}(h:ex Z c S):zfF ex c ⟨nx,rt,bk,ct⟩ Z S:=h
end
theorem zur {S:Z5}{Q:DK}{x y:Str}{b:Bool}(fx:fl 20 (.str x)=true)(fy:fl 20 (.str y)=true)(e:(x==y)=b)(q:Q (.bl b) S):oEq (.str x) (.str y) S Q:=⟨_,.inl ⟨fx,fy,rfl⟩,by show Q (.bl (x==y)) S;rw [e];exact q⟩
theorem zub {S:Z5}{Q:DK}{x y:Str}{b:Bool}(fx:fl 20 (.str x)=true)(fy:fl 20 (.str y)=true)(e:(x==y)=b)(q:Q (.bl (!b)) S):V8 (.str x) (.str y) S Q:=⟨_,.inl ⟨fx,fy,rfl⟩,by show Q (.bl (!(x==y))) S;rw [e];exact q⟩
section
variable {nx:ZP->Z5->Prop}{rt:DK}{bk ct:ZP->Z5->Prop}{Z:ZP}{S:Z5}{Q:DK}{td ti tz tv:DE}
theorem zvK (h:Q (.ref S.length) (S++[.dk []])):zoL Z S Q:=h
theorem zvU (h:Q (.ref S.length) (S++[.dt []])):zoB Z S Q:=h
theorem zxU (h:td Z S fun x S1=>ti Z S1 fun y S2=>∃ d,DGt S2 x y (some d)/\Q d S2):ziv td ti Z S Q:=h
theorem zvW (h:tv Z S fun v S1=>td Z S1 fun x S2=>ti Z S2 fun y S3=>zdW S3 x y v (nx Z)):zhC td ti tv ⟨nx,rt,bk,ct⟩ Z S:=h
theorem DGt.k {n:Nat}{Z6:List (Str×D)}{z:Str}{o:Option D}(h:S[n]?=some (.dk Z6))(e:dval Z6 z=o):DGt S (.ref n) (.str z) o:=.inl ⟨n,Z6,z,rfl,rfl,h,e.symm⟩
theorem DGt.t {n:Nat}{Z6:List (List (Sum Int Str)×D)}{ks:List (Sum Int Str)}{o:Option D}(h:S[n]?=some (.dt Z6))(e:dval Z6 ks=o):DGt S (.ref n) (.tup (ks.map kD)) o:=.inr ⟨n,Z6,ks,rfl,rfl,h,e.symm⟩
theorem zdW.k {n:Nat}{Z6:List (Str×D)}{z:Str}{v:D}{P:Z5->Prop}(h:S[n]?=some (.dk Z6))(hl:Z6.length<big)(q:Put P S n (.dk (dput Z6 z v))):zdW S (.ref n) (.str z) v P:=.inl ⟨n,Z6,z,rfl,rfl,h,hl,q⟩
theorem zdW.t {n:Nat}{Z6:List (List (Sum Int Str)×D)}{ks:List (Sum Int Str)}{v:D}{P:Z5->Prop}(h:S[n]?=some (.dt Z6))(hl:Z6.length<big)(q:Put P S n (.dt (dput Z6 ks v))):zdW S (.ref n) (.tup (ks.map kD)) v P:=.inr ⟨n,Z6,ks,rfl,rfl,h,hl,q⟩
end
section
variable {κ:Type}[DecidableEq κ]
theorem zlY {k:κ}:dval ([]:List (κ×D)) k=none:=rfl
theorem zbp {p:κ×D}{Z6:List (κ×D)}{k:κ}:dval (p::Z6) k=if p.1=k then some p.2 else dval Z6 k:=by
 unfold dval
 rw [List.find?_cons]
 by_cases h:p.1=k
 ·rw [if_pos h,decide_eq_true h];rfl
 ·rw [if_neg h,decide_eq_false h]
theorem zf3 (Z6:List (κ×D))(k:κ):(Z6.any fun kv=>decide (kv.1=k))=(dval Z6 k).isSome:=by
 induction Z6 with
 | nil=>rfl
 | cons p Z6 ih =>
  rw [qaN,zbp,ih]
  by_cases h:p.1=k
  ·rw [if_pos h,decide_eq_true h];rfl
  ·rw [if_neg h,decide_eq_false h];rfl
theorem zpt (Z6:List (κ×D))(k j:κ)(v:D):dval (Z6++[(k,v)]) j=(dval Z6 j).or (if k=j then some v else none):=by
 induction Z6 with
 | nil=>rw [List.nil_append,zbp,zlY];simp
 | cons p Z6 ih =>
  rw [List.cons_append,zbp,zbp,ih]
  by_cases h:p.1=j
  ·rw [if_pos h,if_pos h];rfl
  ·rw [if_neg h,if_neg h]
theorem zin (Z6:List (κ×D))(k j:κ)(v:D):dval (dput Z6 k v) j=if k=j then some v else dval Z6 j:=by
  unfold dput
  rw [zf3]
  cases e:dval Z6 k with
  | none =>
    rw [show (none:Option D).isSome=false from rfl,if_neg qu,zpt]
    by_cases h:k=j
    . subst h;rw [e,if_pos rfl];rfl
    . rw [if_neg h,if_neg h];cases dval Z6 j<;>rfl
  | some w =>
    rw [show (some w).isSome=true from rfl,if_pos rfl]
    have:∀ Z6:List (κ×D),dval (Z6.map fun kv=>if kv.1=k then (kv.1,v) else kv) j=if k=j then (dval Z6 j).map fun _=>v else dval Z6 j:=fun Z6=>by
      induction Z6 with
      | nil=>simp [zlY]
      | cons p Z6 ih =>
        rw [qI,zbp,zbp,ih]
        by_cases hp:p.1=k
        . rw [if_pos hp]
          by_cases h:k=j
          . rw [if_pos h,if_pos (hp.trans h),if_pos (hp.trans h)];simp [h]
          . have:¬ p.1=j:=fun z=>h (hp.symm.trans z)
            rw [if_neg this,if_neg this,if_neg h]
        . rw [if_neg hp]
          by_cases h:k=j
          . have:¬ p.1=j:=fun z=>hp (z.trans h.symm)
            rw [if_neg this,if_neg this]
          . rw [if_neg h,if_neg h]
    rw [this]
    by_cases h:k=j
    . subst h;rw [if_pos rfl,if_pos rfl,e];rfl
    . rw [if_neg h,if_neg h]
theorem zis (Z6:List (κ×D))(k:κ)(v:D):(dput Z6 k v).length<=Z6.length+1:=by
 unfold dput
 split
 ·rw [qb];lia
 ·simp
theorem zpq (Z6:List (κ×D))(k:κ)(v:D):(dput Z6 k v).map (·.1)=if (dval Z6 k).isSome=true then Z6.map (·.1) else Z6.map (·.1)++[k]:=by
  unfold dput
  rw [zf3]
  split
  . rw [qY]
    refine List.map_congr_left fun p _=>?_
    show (if p.1=k then (p.1,v) else p).1=p.1
    split<;>rfl
  . rw [qC];rfl
end
theorem zil (c:List Str)(z:Str):(zhd c z).length=if c.any (·==z) then c.length else c.length+1:=by
  unfold zhd;split<;>simp
theorem zlE (c:List Str)(z y:Str):(zhd c z).any (·==y)=(c.any (·==y)||decide (y=z)):=by
  unfold zhd
  by_cases h:c.any (·==z)=true
  . rw [if_pos h]
    by_cases e:y=z
    . subst e;rw [h];rfl
    . rw [decide_eq_false e,Bool.or_false]
  . rw [if_neg h,qa2]
    congr 1
    by_cases e:y=z
    . subst e;simp
    . rw [decide_eq_false e]
      have:(z==y)=false:=beq_eq_false_iff_ne.mpr fun q=>e q.symm
      simp [this]
theorem zjC (f:Nat->Str):∀ i,(W9 f i).length<=i
  | 0=>qf _
  | i+1=>by
    have:=zjC f i
    show (zhd (W9 f i) (f i)).length<=i+1
    rw [zil];split<;>lia
theorem zlb (f:Nat->Str)(y:Str):∀ i,((W9 f i).any (·==y)=true↔∃ j,j<i/\f j=y)
  | 0=>⟨fun h=>(by simp [W9] at h),fun⟨j,hj,_⟩=>(by lia)⟩
  | i+1=>by
    show ((zhd (W9 f i) (f i)).any (·==y)=true)↔_
    rw [zlE,qaC,zlb f y i,decide_eq_true_eq]
    constructor
    . rintro (⟨j,hj,e⟩ | e)
      . exact⟨j,by lia,e⟩
      . exact⟨i,by lia,e.symm⟩
    . rintro⟨j,hj,e⟩
      rcases qM j i with h | h
      . exact .inl ⟨j,h,e⟩
      . have:j=i:=by lia
        subst this;exact .inr e.symm
theorem zlj (f:Nat->Str):∀ i,(∀ a b,a<b->b<i->f a≠f b)->(W9 f i).length=i
 | 0,_=>rfl
 | i+1,h=>by
  show (zhd (W9 f i) (f i)).length=i+1
  rw [zil,zlj f i fun a b x y=>h a b x (by lia)]
  rw [if_neg]
  intro z
  obtain⟨j,hj,e⟩:=(zlb f (f i) i).mp z
  exact h j i hj (by lia) e
theorem zn3 {zs:List Str}(h:zs.Nodup):zqX zs=zs.length:=zlj _ _ fun a b hab hb=>by
 show zs.getD a Str.empty≠zs.getD b Str.empty
 rw [qD,qD,qc hb,qc (show a<zs.length by lia)]
 exact qae.mp h a b (by lia) hb hab
end Dp
namespace Rm
structure Pc where
 lo:Int
 hi:Int
 to:Int
 st:Int
instance:DecidableEq Pc:=fun p q=>if h:p.lo=q.lo/\p.hi=q.hi/\p.to=q.to/\p.st=q.st then isTrue (by cases p;cases q;obtain⟨h1,h2,h3,h4⟩:=h;cases h1;cases h2;cases h3;cases h4;rfl) else isFalse (fun e=>h (by subst e;exact⟨rfl,rfl,rfl,rfl⟩))
def Pc.led (p:Pc)(h:Int):Int:=p.to+p.st*(h-p.lo)
def Pc.fin (p:Pc):Int:=p.led p.hi
def draw (p:Pc)(t:Int):Prop:=if p.lo=p.hi then t=p.to\/t=p.to+1 else t=p.led (p.hi+1)
instance (p:Pc) (t:Int):Decidable (draw p t):=by unfold draw;infer_instance
structure Good (p:Pc):Prop where
 le:p.lo<=p.hi
 st:p.st=0\/p.st=1
 one:p.lo=p.hi->p.st=0
structure Link (p q:Pc):Prop where
 nx:q.lo=p.hi+1
 up:p.fin<=q.to
 nd:¬ draw p q.to
structure ZX (ps:List Pc):Prop where
 good:∀ p∈ps,Good p
 link:∀ (i:Nat) p q,ps[i]?=some p->ps[i+1]?=some q->Link p q
theorem ZX.nil:ZX []:=⟨(fun _ h=>by simp at h),fun i p q h=>by simp at h⟩
def Yk (p:Pc)(h:Int):Prop:=p.lo<=h/\h<=p.hi
instance (p:Pc) (h:Int):Decidable (Yk p h):=by unfold Yk;infer_instance
def at':List Pc->Int->Option Int
 | [],_=>none
 | p::r,h=>if Yk p h then some (p.led h) else at' r h
theorem X8 (p:Pc)(r:List Pc)(h:Int):at' (p::r) h=if Yk p h then some (p.led h) else at' r h:=rfl
theorem zhe (a b:List Pc)(h:Int):at' (a++b) h=(at' a h).or (at' b h):=by
 induction a with
 | nil=>simp [at']
 | cons p a ih =>
  rw [List.cons_append,X8,X8]
  split
  ·rfl
  ·exact ih
theorem ZX.init {ps:List Pc}{p:Pc}(h:ZX (ps++[p])):ZX ps/\Good p/\∀ q,ps.getLast?=some q->Link q p:=by
 refine⟨⟨fun q hq=>h.good q (by simp [hq]),fun i a b ha hb=>h.link i a b ?_ ?_⟩,h.good p (by simp),fun q hq=>?_⟩
 ·rw [qk (by
   rcases qM i ps.length with g | g
   ·exact g
   ·rw [qq g] at ha;cases ha)];exact ha
 ·rw [qk (by
   rcases qM (i+1) ps.length with g | g
   ·exact g
   ·rw [qq g] at hb;cases hb)];exact hb
 ·have hne:ps≠[]:=by intro e;rw [e] at hq;simp at hq
  have hl:0<ps.length:=List.length_pos_iff.mpr hne
  refine h.link (ps.length-1) q p ?_ ?_
  ·rw [qk (by lia),<- qbk];exact hq
  ·rw [show ps.length-1+1=ps.length by lia,qj (qf _),qav];rfl
theorem ZX.snoc {ps:List Pc}{p:Pc}(h:ZX ps)(g:Good p)(l:∀ q,ps.getLast?=some q->Link q p):ZX (ps++[p]):=by
 refine⟨fun q hq=>?_,fun i a b ha hb=>?_⟩
 ·rcases qK.mp hq with hq | hq
  ·exact h.good q hq
  ·have:q=p:=by simpa using hq
   subst this;exact g
 ·rcases qM (i+1) ps.length with hi | hi
  ·rw [qk (by lia)] at ha
   rw [qk hi] at hb
   exact h.link i a b ha hb
  ·rcases qM i ps.length with hj | hj
   ·have e:i+1=ps.length:=by lia
    rw [qk hj] at ha
    rw [e,qj (qf _),qav] at hb
    have eb:p=b:=by simpa using hb
    subst eb
    exact l a (by rw [qbk,show ps.length-1=i by lia];exact ha)
   ·rw [qj (by lia)] at hb
    rw [qq (by simp;lia)] at hb
    cases hb
theorem ZX.below:∀ {ps:List Pc} {p:Pc},ZX (ps++[p])->∀ q∈ps,q.hi<p.lo:=by
 intro ps
 induction hn:ps.length generalizing ps with
 | zero=>intro p h q hq;have:=qad.mp hn;subst this;simp at hq
 | succ n ih =>
  intro p h q hq
  have hne:ps≠[]:=by intro e;rw [e] at hn;simp at hn
  have hs:=qaH hne
  obtain⟨h1,hg,hl⟩:=h.init
  have lk:=hl (ps.getLast hne) (List.getLast?_eq_some_getLast hne)
  have gl:=h1.good _ (List.getLast_mem hne)
  have a1:=lk.nx
  rw [<- hs] at hq
  rcases qK.mp hq with hq | hq
  ·have h1':ZX (ps.dropLast++[ps.getLast hne]):=by rw [hs];exact h1
   have:=ih (ps:=ps.dropLast) (by rw [List.length_dropLast,hn];rfl) h1' q hq
   have:=gl.le
   lia
  ·have:q=ps.getLast hne:=by simpa using hq
   rw [this];lia
theorem zjY {ps:List Pc}{h:Int}(hb:∀ q∈ps,q.hi<h):at' ps h=none:=by
 induction ps with
 | nil=>rfl
 | cons p r ih =>
  rw [X8,if_neg (by intro z;have:=hb p (by simp);have:=z.2;lia)]
  exact ih fun q hq=>hb q (by simp [hq])
theorem zhq {ps:List Pc}{p:Pc}(hr:ZX (ps++[p]))(h:Int):at' (ps++[p]) h=if Yk p h then some (p.led h) else at' ps h:=by
 rw [zhe]
 by_cases hi:Yk p h
 ·rw [if_pos hi,zjY fun q hq=>by have:=hr.below q hq;have:=hi.1;lia]
  rw [X8,if_pos hi];rfl
 ·rw [if_neg hi]
  have:at' [p] h=none:=by rw [X8,if_neg hi];rfl
  rw [this,Option.or_none]
theorem zb0 {p:Pc}(h:p.st=0\/p.st=1)(x:Int):p.led x=if p.st=0 then p.to else p.to+(x-p.lo):=by
  unfold Pc.led
  rcases h with e | e<;>rw [e]<;>simp
structure zfU (ps:List Pc)(lo hi to st:Int)(qs:List Pc):Prop where
 isR:ZX qs
 led:∀ h,at' qs h=if lo<=h/\h<=hi then some (to+st*(h-lo)) else at' ps h
 last:lo<=hi->∃ q,qs.getLast?=some q/\q.hi=hi/\q.fin=to+st*(hi-lo)
 none:hi<lo->qs=ps
 len:qs.length<=ps.length+1
 head:∀ p,ps.head?=some p->∃ q,qs.head?=some q/\q.lo=p.lo/\q.to=p.to
 first:ps=[]->lo<=hi->∃ q,qs.head?=some q/\q.lo=lo/\q.to=to
def Ws (ps:List Pc)(lo hi to st:Int):List Pc :=
 match ps.getLast? with
 | none=>if lo<=hi then [⟨lo,hi,to,if lo<hi then st else 0⟩] else []
 | some p=>if lo<=hi/\draw p to then
   (if (if st=to-p.fin then hi else lo)+1<=hi then ps.dropLast++[⟨p.lo,lo,p.to,to-p.fin⟩]++[⟨lo+1,hi,to+st*(lo+1-lo),if lo+1<hi then st else 0⟩] else ps.dropLast++[⟨p.lo,(if st=to-p.fin then hi else lo),p.to,to-p.fin⟩])
  else if lo<=hi then ps++[⟨lo,hi,to,if lo<hi then st else 0⟩] else ps
theorem zqd {p:Pc}{t:Int}(g:Good p)(hd:draw p t):(t-p.fin=0\/t-p.fin=1)/\(p.lo<p.hi->t-p.fin=p.st):=by
  unfold draw at hd
  unfold Pc.fin
  rw [zb0 g.st] at hd ⊢
  have:=g.le
  have h1:=g.one
  rcases g.st with e | e<;>simp only [e] at hd ⊢<;>split at hd<;>rename_i hh<;>simp at hd ⊢<;>(try simp only [e] at h1)<;>lia
theorem zfe {ps:List Pc}{p:Pc}(h:ps.getLast?=some p):ps=ps.dropLast++[p]:=by
 have hne:ps≠[]:=by intro e;rw [e] at h;simp at h
 rw [List.getLast?_eq_some_getLast hne] at h
 have e:=qaH hne
 cases h
 exact e.symm
theorem Link.same {q p P:Pc}(h:Link q p)(h1:P.lo=p.lo)(h2:P.to=p.to):Link q P:=⟨by rw [h1];exact h.nx,by rw [h2];exact h.up,by rw [h2];exact h.nd⟩
theorem zeu {e:Int}(he:e=0\/e=1)(x:Int):e*x=if e=0 then 0 else x:=by
  rcases he with rfl | rfl<;>simp
theorem zvm {ps:List Pc}{lo hi to st:Int}(hr:ZX ps)(hst:st=0\/st=1)(hp:lo<=hi->∀ p,ps.getLast?=some p->p.hi+1=lo/\p.fin<=to):zfU ps lo hi to st (Ws ps lo hi to st):=by
  by_cases hlh:lo<=hi
  case neg =>
    have e:Ws ps lo hi to st=ps:=by
      unfold Ws
      cases hl:ps.getLast? with
      | none=>rw [qay] at hl;subst hl;simp only [];rw [if_neg hlh]
      | some p=>simp only [];rw [if_neg (fun z=>hlh z.1),if_neg hlh]
    rw [e]
    exact⟨hr,fun h=>by rw [if_neg (by lia)],fun z=>absurd z hlh,fun _=>rfl,by lia,fun p hp=>⟨p,hp,rfl,rfl⟩,fun _ z=>absurd z hlh⟩
  have hs:st*(hi-lo)=if st=0 then 0 else hi-lo:=zeu hst _
  have newG:Good ⟨lo,hi,to,if lo<hi then st else 0⟩:=⟨hlh,by show (if lo<hi then st else 0)=0\/_=1;split<;>first | exact hst | exact .inl rfl,fun e=>by
    have e':lo=hi:=e
    show (if lo<hi then st else 0)=0
    rw [if_neg (by lia)]⟩
  have newL:∀ h,Yk ⟨lo,hi,to,if lo<hi then st else 0⟩ h->Pc.led ⟨lo,hi,to,if lo<hi then st else 0⟩ h=to+st*(h-lo):=fun h ⟨h1,h2⟩=>by
    have h1':lo<=h:=h1
    have h2':h<=hi:=h2
    show to+(if lo<hi then st else 0)*(h-lo)=_
    by_cases hl:lo<hi
    . rw [if_pos hl]
    . rw [if_neg hl,show h=lo by lia];simp
  have app:(∀ p,ps.getLast?=some p->Link p ⟨lo,hi,to,if lo<hi then st else 0⟩)->zfU ps lo hi to st (ps++[⟨lo,hi,to,if lo<hi then st else 0⟩]):=fun lk=>by
    have hr':=hr.snoc newG lk
    refine⟨hr',fun h=>?_,fun _=>⟨_,qaO,rfl,newL hi ⟨hlh,qw _⟩⟩,fun z=>by lia,by simp,fun p hp=>?_,fun e _=>by subst e;exact⟨_,rfl,rfl,rfl⟩⟩
    . rw [zhq hr']
      by_cases hh:lo<=h/\h<=hi
      . rw [if_pos hh,if_pos (show Yk ⟨lo,hi,to,if lo<hi then st else 0⟩ h from hh),newL h hh]
      . rw [if_neg hh,if_neg (show ¬ Yk ⟨lo,hi,to,if lo<hi then st else 0⟩ h from hh)]
    . refine⟨p,?_,rfl,rfl⟩
      cases ps with
      | nil=>simp at hp
      | cons a r=>exact hp
  cases hl:ps.getLast? with
  | none =>
    have e:Ws ps lo hi to st=ps++[⟨lo,hi,to,if lo<hi then st else 0⟩]:=by
      have:ps=[]:=qay.mp hl
      subst this
      unfold Ws
      simp only [List.getLast?_nil];rw [if_pos hlh];rfl
    rw [e]
    exact app fun p h=>by rw [hl] at h;cases h
  | some p =>
    obtain⟨hn,hu⟩:=hp hlh p hl
    have hps:=zfe hl
    have hr2:ZX (ps.dropLast++[p]):=by rw [<- hps];exact hr
    obtain⟨hi0,hg,hlk⟩:=hr2.init
    by_cases hd:draw p to
    case neg =>
      have e:Ws ps lo hi to st=ps++[⟨lo,hi,to,if lo<hi then st else 0⟩]:=by
        unfold Ws
        rw [hl]
        simp only []
        rw [if_neg (fun z=>hd z.2),if_pos hlh]
      rw [e]
      exact app fun q hq=>by
        rw [hl] at hq;cases hq
        exact⟨hn.symm,hu,hd⟩
    obtain⟨he,hes⟩:=zqd hg hd
    generalize hE:to-p.fin=e at he hes
    have hple:=hg.le
    have drawn:∀ x,lo<=x->(∀ h,Yk p h->Pc.led ⟨p.lo,x,p.to,e⟩ h=p.led h)/\(∀ h,lo<=h->Pc.led ⟨p.lo,x,p.to,e⟩ h=to+e*(h-lo))/\ZX (ps.dropLast++[⟨p.lo,x,p.to,e⟩]):=fun x hx=>by
      refine⟨fun h ⟨h1,h2⟩=>?_,fun h h1=>?_,hi0.snoc ⟨by show p.lo<=x;lia,he,fun z=>by have z':p.lo=x:=z;lia⟩ fun q hq=>(hlk q hq).same rfl rfl⟩
      . show p.to+e*(h-p.lo)=p.to+p.st*(h-p.lo)
        by_cases hq:p.lo<p.hi
        . rw [hes hq]
        . rw [show h=p.lo by lia];simp
      . show p.to+e*(h-p.lo)=to+e*(h-lo)
        rw [zeu he,zeu he]
        unfold Pc.fin at hE
        rw [zb0 hg.st] at hE
        by_cases hq:p.lo<p.hi
        . have:=hes hq
          rw [<- this] at hE
          split at hE<;>rename_i z<;>(first | rw [if_pos z,if_pos z] | rw [if_neg z,if_neg z])<;>lia
        . have e1:=hg.one (by lia)
          rw [if_pos e1] at hE
          split<;>lia
    have atd:∀ x h,lo<=x->at' (ps.dropLast++[⟨p.lo,x,p.to,e⟩]) h=if lo<=h/\h<=x then some (to+e*(h-lo)) else at' ps h:=fun x h hx=>by
      obtain⟨d1,d2,d3⟩:=drawn x hx
      rw [zhq d3]
      have ea:at' ps h=if Yk p h then some (p.led h) else at' ps.dropLast h:=by
        have:=zhq hr2 h
        rw [<- hps] at this;exact this
      by_cases hh:lo<=h/\h<=x
      . rw [if_pos hh,if_pos (show Yk ⟨p.lo,x,p.to,e⟩ h from ⟨by show p.lo<=h;lia,hh.2⟩),d2 h hh.1]
      . rw [if_neg hh,ea]
        by_cases hp':Yk p h
        . have a1:=hp'.1
          have a2:=hp'.2
          rw [if_pos hp',if_pos (show Yk ⟨p.lo,x,p.to,e⟩ h from ⟨a1,by show h<=x;lia⟩),d1 h hp']
        . rw [if_neg hp', if_neg (show ¬ Yk ⟨p.lo, x, p.to, e⟩ h from fun z => by
            have z1:p.lo<=h:=z.1
            have z2:h<=x:=z.2
            exact hp' ⟨z1,by lia⟩)]
    have hlen:(ps.dropLast).length+1=ps.length:=by
      have:=congrArg List.length hps
      rw [qh] at this
      simpa using this.symm
    have hhead:∀ (x:Int) (r:List Pc) (q:Pc),ps.head?=some q->∃ q',(ps.dropLast++[(⟨p.lo,x,p.to,e⟩:Pc)]++r).head?=some q'/\q'.lo=q.lo/\q'.to=q.to:=fun x r q hq=>by
      rw [hps] at hq
      cases hdl:ps.dropLast with
      | nil =>
        rw [hdl] at hq
        have:p=q:=by simpa using hq
        subst this
        exact⟨_,rfl,rfl,rfl⟩
      | cons a l =>
        rw [hdl] at hq
        have:a=q:=by simpa using hq
        subst this
        exact⟨a,rfl,rfl,rfl⟩
    have hne:ps≠[]:=by intro z;rw [z] at hl;simp at hl
    by_cases hse:st=e
    . have eq : Ws ps lo hi to st = ps.dropLast ++ [⟨p.lo, hi, p.to, e⟩] := by
        unfold Ws
        rw [hl]
        simp only []
        rw [hE,if_pos ⟨hlh,hd⟩,if_pos hse,if_neg (by lia)]
      rw [eq]
      obtain⟨d1,d2,d3⟩:=drawn hi hlh
      refine⟨d3,fun h=>by rw [atd hi h hlh,hse],fun _=>⟨_,qaO,rfl,by show Pc.led _ hi=_;rw [d2 hi hlh,hse]⟩,fun z=>by lia,by rw [qh];show _+1<=_;lia,fun q hq=>?_,fun z=>absurd z hne⟩
      have:=hhead hi [] q hq
      rw [qU] at this;exact this
    . by_cases h2:lo+1<=hi
      . have eq : Ws ps lo hi to st = ps.dropLast ++ [⟨p.lo, lo, p.to, e⟩] ++ [⟨lo + 1, hi, to + st * (lo + 1 - lo), if lo + 1 < hi then st else 0⟩] := by
          unfold Ws
          rw [hl]
          simp only []
          rw [hE,if_pos ⟨hlh,hd⟩,if_neg hse,if_pos h2]
        rw [eq]
        obtain⟨d1,d2,d3⟩:=drawn lo (qw _)
        have e1:to+st*(lo+1-lo)=to+st:=by rw [show lo+1-lo=1 by lia,Wn]
        have fl:Pc.fin ⟨p.lo,lo,p.to,e⟩=to:=by
          show Pc.led _ lo=_
          rw [d2 lo (qw _)];simp
        have gR:Good ⟨lo+1,hi,to+st*(lo+1-lo),if lo+1<hi then st else 0⟩:=⟨h2,by show (if lo+1<hi then st else 0)=0\/_=1;split<;>first | exact hst | exact .inl rfl,fun z=>by
          have z':lo+1=hi:=z
          show (if lo+1<hi then st else 0)=0
          rw [if_neg (by lia)]⟩
        have lR:∀ h,Yk ⟨lo+1,hi,to+st*(lo+1-lo),if lo+1<hi then st else 0⟩ h->Pc.led ⟨lo+1,hi,to+st*(lo+1-lo),if lo+1<hi then st else 0⟩ h=to+st*(h-lo):=fun h ⟨z1,z2⟩=>by
          have z1':lo+1<=h:=z1
          have z2':h<=hi:=z2
          show to+st*(lo+1-lo)+(if lo+1<hi then st else 0)*(h-(lo+1))=_
          rw [e1]
          by_cases z:lo+1<hi
          . rw [if_pos z,zeu hst,zeu hst];split<;>lia
          . rw [if_neg z,show h=lo+1 by lia,zeu hst];split<;>simp<;>lia
        have hr3:ZX (ps.dropLast++[⟨p.lo,lo,p.to,e⟩]++[⟨lo+1,hi,to+st*(lo+1-lo),if lo+1<hi then st else 0⟩]):=d3.snoc gR fun q hq=>by
          rw [qaO] at hq
          cases hq
          refine⟨rfl,by rw [fl];show to<=to+st*(lo+1-lo);rw [e1];lia,?_⟩
          show ¬ draw _ (to+st*(lo+1-lo))
          rw [e1]
          unfold draw
          rw [if_neg (by show ¬ p.lo=lo;lia)]
          rw [d2 (lo+1) (by lia),show lo+1-lo=1 by lia,Wn]
          lia
        refine⟨hr3,fun h=>?_,fun _=>⟨_,qaO,rfl,lR hi ⟨h2,qw _⟩⟩,fun z=>by lia,by rw [qh,qh];show _+1+1<=_;lia,fun q hq=>hhead lo _ q hq,fun z=>absurd z hne⟩
        rw [zhq hr3,atd lo h (qw _)]
        by_cases hh:lo+1<=h/\h<=hi
        . rw [if_pos (show Yk ⟨lo+1,hi,to+st*(lo+1-lo),if lo+1<hi then st else 0⟩ h from hh),lR h hh,if_pos ⟨by lia,hh.2⟩]
        . rw [if_neg (show ¬ Yk ⟨lo+1,hi,to+st*(lo+1-lo),if lo+1<hi then st else 0⟩ h from hh)]
          by_cases hx:h=lo
          . subst hx
            rw [if_pos ⟨qw _,qw _⟩,if_pos ⟨qw _,hlh⟩];simp
          . rw [if_neg (by lia),if_neg (by lia)]
      . have eq : Ws ps lo hi to st = ps.dropLast ++ [⟨p.lo, lo, p.to, e⟩] := by
          unfold Ws
          rw [hl]
          simp only []
          rw [hE,if_pos ⟨hlh,hd⟩,if_neg hse,if_neg h2]
        rw [eq]
        obtain⟨d1,d2,d3⟩:=drawn lo (qw _)
        have hlo:hi=lo:=by lia
        subst hlo
        refine⟨d3,fun h=>?_,fun _=>⟨_,qaO,rfl,by show Pc.led _ hi=_;rw [d2 hi hlh];simp⟩,fun z=>by lia,by rw [qh];show _+1<=_;lia,fun q hq=>?_,fun z=>absurd z hne⟩
        . rw [atd hi h hlh]
          by_cases hh:hi<=h/\h<=hi
          . rw [if_pos hh,if_pos hh,show h=hi by lia];simp
          . rw [if_neg hh,if_neg hh]
        . have:=hhead hi [] q hq
          rw [qU] at this;exact this
theorem ZX.tail {p:Pc}{r:List Pc}(h:ZX (p::r)):ZX r:=⟨fun q hq=>h.good q (by simp [hq]),fun i a b ha hb=>h.link (i+1) a b (by simpa using ha) (by simpa using hb)⟩
theorem ZX.hd {p q:Pc}{r:List Pc}(h:ZX (p::q::r)):Link p q:=h.link 0 p q rfl rfl
theorem ZX.above:∀ {r:List Pc} {p:Pc},ZX (p::r)->∀ q∈r,p.hi<q.lo
 | [],_,_,q,hq=>by simp at hq
 | a::r,p,h,q,hq=>by
  have l:=h.hd.nx
  have g:=(h.good a (by simp)).le
  rcases qg.mp hq with rfl | hq
  ·lia
  ·have:=ZX.above h.tail q hq
   lia
theorem ze2 {ps:List Pc}{h:Int}(hb:∀ q∈ps,h<q.lo):at' ps h=none:=by
 induction ps with
 | nil=>rfl
 | cons p r ih =>
  rw [X8,if_neg (by intro z;have:=hb p (by simp);have:=z.1;lia)]
  exact ih fun q hq=>hb q (by simp [hq])
theorem zgk {p:Pc}(g:Good p){a b:Int}(h:a<=b):p.led a<=p.led b:=by
  rw [zb0 g.st,zb0 g.st];split<;>lia
theorem zgB (p:Pc):p.led p.lo=p.to:=by unfold Pc.led;simp
theorem zmo {p:Pc}(g:Good p):p.to<=p.fin:=by
 have:=zgk g g.le
 rw [zgB] at this;exact this
theorem zeB:∀ {r:List Pc} {p:Pc},ZX (p::r)->∀ {h v:Int},at' (p::r) h=some v->p.to<=v/\p.lo<=h
 | r,p,hr,h,v,e=>by
  rw [X8] at e
  have g:=hr.good p (by simp)
  split at e
  ·rename_i hi
   cases e
   have:=zgk g hi.1
   rw [zgB] at this
   exact⟨this,hi.1⟩
  ·cases r with
   | nil=>cases e
   | cons q r =>
    obtain⟨a,b⟩:=zeB hr.tail e
    have l:=hr.hd
    have:=zmo g
    have:=l.up
    have:=l.nx
    have:=g.le
    exact⟨by lia,by lia⟩
theorem zcn:∀ {ps:List Pc},ZX ps->∀ {a b x y:Int},at' ps a=some x->at' ps b=some y->a<=b->x<=y
 | [],_,a,b,x,y,ha,_,_=>by cases ha
 | p::r,hr,a,b,x,y,ha,hb,hab=>by
  have g:=hr.good p (by simp)
  rw [X8] at ha hb
  split at ha
  ·rename_i ia
   cases ha
   split at hb
   ·rename_i ib
    cases hb
    exact zgk g hab
   ·cases r with
    | nil=>cases hb
    | cons q r =>
     obtain⟨h1,_⟩:=zeB hr.tail hb
     have:=hr.hd.up
     have:=zgk g ia.2
     unfold Pc.fin at *
     lia
  ·rename_i ia
   split at hb
   ·rename_i ib
    exfalso
    cases r with
    | nil=>cases ha
    | cons q r =>
     obtain⟨_,h2⟩:=zeB hr.tail ha
     have:=hr.hd.nx
     have:=ib.2
     lia
   ·exact zcn hr.tail ha hb hab
theorem zeN:∀ {r:List Pc} {p:Pc},ZX (p::r)->∀ {a b y:Int},at' (p::r) b=some y->p.lo<=a->a<=b->∃ x,at' (p::r) a=some x
 | r,p,hr,a,b,y,hb,h1,h2=>by
  rw [X8]
  by_cases ia:Yk p a
  ·rw [if_pos ia];exact⟨_,rfl⟩
  ·rw [if_neg ia]
   have ha:p.hi<a:=by
    rcases qbi p.hi a with g | g
    ·exact g
    ·exact absurd ⟨h1,g⟩ ia
   rw [X8,if_neg (by intro z;have:=z.2;lia)] at hb
   cases r with
   | nil=>cases hb
   | cons q r=>exact zeN hr.tail hb (by have:=hr.hd.nx;lia) h2
theorem zcc {p:Pc}{r:List Pc}(g:Good p):at' (p::r) p.lo=some p.to:=by
 rw [X8,if_pos ⟨qw _,g.le⟩,zgB]
theorem zsM {p q:Pc}{r s:List Pc}(hp:ZX (p::r))(hq:ZX (q::s))(e:∀ h,at' (p::r) h=at' (q::s) h)(hlo:p.lo=q.lo)(hto:p.to=q.to):q.hi<=p.hi:=by
  rcases qbi p.hi q.hi with hlt | hle
  case inr=>exact hle
  exfalso
  have gp:=hp.good p (by simp)
  have gq:=hq.good q (by simp)
  have e1:=e (p.hi+1)
  have hle:=gp.le
  rw [X8 p,if_neg (by intro z;have:=z.2;lia),X8 q,if_pos ⟨by lia,by lia⟩] at e1
  cases r with
  | nil=>cases e1
  | cons p' r =>
    have lk:=hp.hd
    have hx:p'.lo=p.hi+1:=lk.nx
    rw [<- hx,zcc (hp.good p' (by simp))] at e1
    have e2:p'.to=q.led (p.hi+1):=by rw [<- hx];exact qA e1
    apply lk.nd
    unfold draw
    by_cases h1:p.lo=p.hi
    . rw [if_pos h1,e2,zb0 gq.st]
      split<;>lia
    . rw [if_neg h1,e2]
      have e3:=e (p.lo+1)
      rw [X8 p,if_pos ⟨by lia,by lia⟩,X8 q,if_pos ⟨by lia,by lia⟩] at e3
      have e4:p.led (p.lo+1)=q.led (p.lo+1):=qA e3
      rw [zb0 gp.st,zb0 gq.st] at e4 ⊢
      have a1:=gp.st
      have a2:=gq.st
      split at e4<;>split at e4<;>(first | rw [if_pos (by assumption)] | rw [if_neg (by assumption)])<;>(first | rw [if_pos (by assumption)] | rw [if_neg (by assumption)] | skip)<;>lia
theorem zth {p q:Pc}(gp:Good p)(gq:Good q)(h1:p.lo=q.lo)(h2:p.hi=q.hi)(h3:p.to=q.to)(h4:p.lo<p.hi->p.led (p.lo+1)=q.led (p.lo+1)):p=q:=by
  have hs:p.st=q.st:=by
    by_cases h:p.lo<p.hi
    . have e:=h4 h
      rw [zb0 gp.st,zb0 gq.st] at e
      have a1:=gp.st
      have a2:=gq.st
      split at e<;>split at e<;>lia
    . have:=gp.le
      rw [gp.one (by lia),gq.one (by lia)]
  cases p
  cases q
  simp_all
theorem zc8:∀ {ps qs:List Pc},ZX ps->ZX qs->(∀ h,at' ps h=at' qs h)->ps=qs
 | [],[],_,_,_=>rfl
 | [],q::s,_,hq,e=>by
  have:=e q.lo
  rw [zcc (hq.good q (by simp))] at this;cases this
 | p::r,[],hp,_,e=>by
  have:=e p.lo
  rw [zcc (hp.good p (by simp))] at this;cases this
 | p::r,q::s,hp,hq,e=>by
  have gp:=hp.good p (by simp)
  have gq:=hq.good q (by simp)
  have hlo:p.lo=q.lo:=by
   have e1:=e p.lo
   rw [zcc gp] at e1
   have e2:=e q.lo
   rw [zcc gq] at e2
   have:=(zeB hq e1.symm).2
   have:=(zeB hp e2).2
   lia
  have hto:p.to=q.to:=by
   have e1:=e p.lo
   rw [zcc gp,hlo,zcc gq] at e1
   exact qA e1
  have h1:=zsM hp hq e hlo hto
  have h2:=zsM hq hp (fun h=>(e h).symm) hlo.symm hto.symm
  have hpq:p=q:=zth gp gq hlo (by lia) hto fun hlt=>by
   have e3:=e (p.lo+1)
   rw [X8 p,if_pos ⟨by lia,by lia⟩,X8 q,if_pos ⟨by lia,by lia⟩] at e3
   exact qA e3
  subst hpq
  rw [zc8 hp.tail hq.tail fun h=>?_]
  by_cases hi:h<=p.hi
  ·rw [ze2 fun z hz=>by have:=hp.above z hz;lia,ze2 fun z hz=>by have:=hq.above z hz;lia]
  ·have:=e h
   rw [X8,X8,if_neg (by intro z;have:=z.2;lia),if_neg (by intro z;have:=z.2;lia)] at this
   exact this
structure Pre (f:Int->Option Int)(a n:Int)(ps:List Pc):Prop where
 isR:ZX ps
 le:a<=n
 led:∀ h,at' ps h=if a<=h/\h<n then f h else none
 all:∀ h,a<=h->h<n->∃ v,f h=some v
 emp:ps=[]->n=a
 last:∀ p,ps.getLast?=some p->p.hi+1=n/\f p.hi=some p.fin
theorem Pre.start (f:Int->Option Int)(a:Int):Pre f a a []:=⟨ZX.nil,qw _,fun h=>by rw [if_neg (by lia)];rfl,fun h h1 h2=>by lia,fun _=>rfl,by simp⟩
def zht (f:Int->Option Int):Prop:=∀ a b x y,f a=some x->f b=some y->a<=b->x<=y
theorem Pre.need {f:Int->Option Int}{a n lo hi to st:Int}{ps:List Pc}(h:Pre f a n ps)(m:zht f)(hlo:lo<=hi->lo=n)(hf:∀ x,lo<=x->x<=hi->f x=some (to+st*(x-lo))):lo<=hi->∀ p,ps.getLast?=some p->p.hi+1=lo/\p.fin<=to:=fun z p hp=>by
 obtain⟨e1,e2⟩:=h.last p hp
 have e3:=hf lo (qw _) z
 have:=m p.hi lo _ _ e2 e3 (by have:=hlo z;lia)
 exact⟨by have:=hlo z;lia,by simpa using this⟩
theorem Pre.put {f:Int->Option Int}{a n lo hi to st:Int}{ps qs:List Pc}(h:Pre f a n ps)(hlo:lo<=hi->lo=n)(hf:∀ x,lo<=x->x<=hi->f x=some (to+st*(x-lo)))(hq:zfU ps lo hi to st qs):Pre f a (if lo<=hi then hi+1 else n) qs:=by
 by_cases hl:lo<=hi
 ·rw [if_pos hl]
  have e:=hlo hl
  subst e
  have hle:=h.le
  refine⟨hq.isR,by lia,fun x=>?_,fun x h1 h2=>?_,fun z=>?_,fun p hp=>?_⟩
  ·rw [hq.led,h.led]
   by_cases c:lo<=x/\x<=hi
   ·rw [if_pos c,if_pos ⟨by lia,by lia⟩,hf x c.1 c.2]
   ·rw [if_neg c]
    by_cases d:a<=x/\x<lo
    ·rw [if_pos d,if_pos ⟨d.1,by lia⟩]
    ·rw [if_neg d,if_neg (by lia)]
  ·by_cases c:x<lo
   ·exact h.all x h1 c
   ·exact⟨_,hf x (by lia) (by lia)⟩
  ·obtain⟨q,e,_⟩:=hq.last hl
   rw [z] at e;simp at e
  ·obtain⟨q,e,e2,e3⟩:=hq.last hl
   rw [hp] at e
   cases e
   exact⟨by lia,by rw [e2,e3];exact hf hi hl (qw _)⟩
 ·rw [if_neg hl,hq.none (by lia)];exact h
theorem Pre.done {f:Int->Option Int}{a n:Int}{ps:List Pc}(h:Pre f a n ps)(ha:∀ x,x<a->f x=none)(hn:∀ x,n<=x->f x=none)(x:Int):at' ps x=f x:=by
 rw [h.led]
 by_cases c:a<=x/\x<n
 ·rw [if_pos c]
 ·rw [if_neg c]
  by_cases d:x<a
  ·rw [ha x d]
  ·rw [hn x (by lia)]
end Rm
namespace Dp
open PySem Rm
abbrev Pd (p:Pc):D:=.tup [.int p.lo,.int p.hi,.int p.to,.int p.st]
theorem zt9 {ps:List Pc}{p:Pc}(h:ps.getLast?=some p):Y8 (ps.map Pd) (-1)=some (Pd p):=by
 rw [zfe h,qC]
 unfold Y8 X5
 rw [if_neg (by decide),if_pos (by simp;lia)]
 have e:(-1+((List.map Pd ps.dropLast++List.map Pd [p]).length:Int)).toNat=(List.map Pd ps.dropLast).length:=by simp;lia
 simp only [Option.bind_some]
 rw [e]
 simp
theorem ztx {ps:List Pc}{p:Pc}(h:ps.getLast?=some p):X5 (ps.map Pd).length (-1)=some (ps.length-1):=by
 have:ps≠[]:=by intro e;rw [e] at h;simp at h
 have:=List.length_pos_iff.mpr this
 unfold X5
 rw [if_neg (by decide),if_pos (by simp;lia),qb]
 congr 1
 lia
theorem zlg {ps:List Pc}{p q:Pc}(h:ps.getLast?=some p):(ps.map Pd).set (ps.length-1) (Pd q)=(ps.dropLast++[q]).map Pd:=by
 have e:=zfe h
 have hl:ps.length-1=ps.dropLast.length:=by rw [List.length_dropLast]
 rw [hl]
 conv=>lhs;rw [e]
 rw [qC,qC,qaL _ _ (by simp)]
 simp
def zjc (p:Pc):Bool:=if p.lo=p.hi then decide (p.st=0) else decide (p.lo<p.hi)&&(decide (p.st=0)||decide (p.st=1))
def zk3 (p q:Pc):Bool:=decide (q.lo=p.hi+1)&&decide (p.fin<=q.to)&&!decide (draw p q.to)
theorem zpO (p:Pc):zjc p=true↔Good p:=by
 unfold zjc
 constructor
 ·intro h
  split at h
  ·rename_i e
   have:p.st=0:=of_decide_eq_true h
   exact⟨by lia,.inl this,fun _=>this⟩
  ·simp only [qG,qaC,decide_eq_true_eq] at h
   exact⟨by lia,h.2,fun e=>by lia⟩
 ·intro g
  have:=g.le
  have h1:=g.one
  have h2:=g.st
  split
  ·exact decide_eq_true (h1 (by assumption))
  ·simp only [qG,qaC,decide_eq_true_eq]
   exact⟨by lia,h2⟩
theorem zpu (p q:Pc):zk3 p q=true↔Link p q:=by
 unfold zk3
 simp only [qG,decide_eq_true_eq,Bool.not_eq_true',decide_eq_false_iff_not]
 exact⟨fun⟨⟨a,b⟩,c⟩=>⟨a,b,c⟩,fun h=>⟨⟨h.nx,h.up⟩,h.nd⟩⟩
theorem get_map {ps:List Pc}{i:Nat}{d:D}(h:(ps.map Pd)[i]?=some d):∃ p,ps[i]?=some p/\d=Pd p:=by
 rw [qi] at h
 cases e:ps[i]? with
 | none=>rw [e] at h;cases h
 | some p=>rw [e] at h;cases h;exact⟨p,rfl,rfl⟩
theorem zf6 (ps:List Pc):fl 20 (.tup (ps.map Pd))=true:=by
 show (ps.map Pd).all (fl 19)=true
 rw [qaV,qaf]
 intro p _;rfl
theorem znp {ps:List Pc}{h:Int}{i:Nat}{p:Pc}(hp:ps[i]?=some p)(hn:at' (ps.take i) h=none)(hin:Yk p h):at' ps h=some (p.led h):=by
 have e:ps=ps.take i++p::ps.drop (i+1):=by
  have h1:=List.take_append_drop i ps
  have hl:i<ps.length:=by
   rcases qM i ps.length with g | g
   ·exact g
   ·rw [qq g] at hp;cases hp
  rw [qc hl] at hp
  cases hp
  rw [List.drop_eq_getElem_cons hl] at h1
  exact h1.symm
 rw [e,zhe,hn,X8,if_pos hin];rfl
theorem set_same {S:Z5}{n:Nat}{c:Cell}(h:S[n]?=some c):S.set n c=S:=qbm fun i=>by
 by_cases hi:i=n
 ·subst hi;rw [qJ (zW h),h]
 ·rw [qN (Ne.symm hi)]
theorem znG {p:Pc}(h:p.st=0):p.fin=p.to:=by unfold Pc.fin Pc.led;rw [h];simp
theorem znd {p:Pc}(h:p.st=1):p.fin=p.to+(p.hi-p.lo):=by unfold Pc.fin Pc.led;rw [h];simp
theorem zhi {p:Pc}(h:p.st=0)(x:Int):p.led x=p.to:=by unfold Pc.led;rw [h];simp
theorem zhx {p:Pc}(h:p.st=1)(x:Int):p.led x=p.to+(x-p.lo):=by unfold Pc.led;rw [h];simp
theorem apart {ps:List Pc}(hr:ZX ps):∀ {i j:Nat} {a b:Pc},i<j->ps[i]?=some a->ps[j]?=some b->a.hi<b.lo:=by
 have key:∀ (k j:Nat) (a b:Pc),ps[j]?=some a->ps[j+k+1]?=some b->a.hi<b.lo:=by
  intro k
  induction k with
  | zero=>intro j a b ha hb;have:=(hr.link j a b ha hb).nx;lia
  | succ k ih =>
   intro j a b ha hb
   have hlb:=zW hb
   have hm:ps[j+k+1]?=some (ps[j+k+1]'(by lia)):=qc _
   have h1:=ih j a _ ha hm
   have h2:=(hr.link (j+k+1) _ b hm hb).nx
   have h3:=(hr.good _ (qbt (by lia:j+k+1<ps.length))).le
   lia
 intro i j a b hij ha hb
 refine key (j-i-1) i a b ha ?_
 rw [show i+(j-i-1)+1=j by lia];exact hb
theorem W5 {ps:List Pc}(hr:ZX ps){i:Nat}{p:Pc}(hp:ps[i]?=some p){h:Int}(hi:Yk p h):at' ps h=some (p.led h):=by
 refine znp hp (zjY fun q hq=>?_) hi
 obtain⟨j,hj,e⟩:=qT.mp hq
 rw [qab] at hj
 rw [List.getElem_take] at e
 have:q.hi<p.lo:=apart hr (i:=j) (j:=i) (by lia) (by rw [<- e];exact qc _) hp
 have:=hi.1
 lia
theorem lo_le {ps:List Pc}(hr:ZX ps){p q:Pc}(h0:ps[0]?=some p)(hq:q∈ps):p.lo<=q.lo:=by
 obtain⟨j,hj,rfl⟩:=qT.mp hq
 rcases qaW j with h | h
 ·subst h
  rw [qc (by lia)] at h0
  cases h0
  exact qw _
 ·have:=apart hr h h0 (qc hj)
  have:=(hr.good p (qe h0)).le
  lia
theorem zt7 (p q:Pc):eqv (Pd p) (Pd q)=decide (p=q):=by
 obtain⟨a,b,c,d⟩:=p
 obtain⟨a',b',c',d'⟩:=q
 show eqvAll [.int a,.int b,.int c,.int d] [.int a',.int b',.int c',.int d']=_
 show (decide (a=a')&&(decide (b=b')&&(decide (c=c')&&(decide (d=d')&&true))))=_
 rw [Bool.and_true,<- qby,<- qby,<- qby]
 congr 1
 simp
theorem zpL:∀ (ps qs:List Pc),eqvAll (ps.map Pd) (qs.map Pd)=decide (ps=qs)
 | [],[]=>rfl
 | [],q::s=>rfl
 | p::r,[]=>rfl
 | p::r,q::s=>by
  show (eqv (Pd p) (Pd q)&&eqvAll (r.map Pd) (s.map Pd))=_
  rw [zt7,zpL r s,<- qby]
  congr 1
  simp
theorem zsP {S:Z5}{Q:DK}{ps qs:List Pc}(q:Q (.bl (!decide (ps=qs))) S):V8 (.tup (ps.map Pd)) (.tup (qs.map Pd)) S Q:=⟨_,.inl ⟨zf6 ps,zf6 qs,rfl⟩,by
 show Q (.bl (!eqvAll (ps.map Pd) (qs.map Pd))) S
 rw [zpL];exact q⟩
def endOf (qs:List Pc):Int:=match qs.getLast? with
 | none=>0
 | some q=>q.hi+1
theorem zgX {qs:List Pc}(hq:ZX qs){v:Int}(h:endOf qs<=v):at' qs v=none:=by
 cases hl:qs.getLast? with
 | none=>rw [qay.mp hl];rfl
 | some q =>
  unfold endOf at h
  rw [hl] at h
  have h':q.hi+1<=v:=h
  have e:=zfe hl
  refine zjY fun r hr=>?_
  rw [e] at hr hq
  have gq:=(hq.good q (by simp)).le
  rcases qK.mp hr with hr | hr
  ·have:=hq.below r hr;lia
  ·have:r=q:=by simpa using hr
   subst this;lia
theorem zoZ {qs:List Pc}(hq:ZX qs){j:Nat}{f:Pc}(ef:qs[j]?=some f):(∀ g,qs[j+1]?=some g->g.lo=f.hi+1)/\(qs[j+1]?=none->endOf qs=f.hi+1):=by
 refine⟨fun g hg=>(hq.link j f g ef hg).nx,fun hn=>?_⟩
 have h1:=zW ef
 have h2:=List.getElem?_eq_none_iff.mp hn
 have:qs.getLast?=some f:=by rw [qbk,show qs.length-1=j by lia];exact ef
 unfold endOf
 rw [this]
def XC (qs:List Pc)(j:Nat):Int:=match qs[j]? with
 | some q=>q.lo
 | none=>endOf qs
theorem zgZ {qs:List Pc}(hq:ZX qs){j:Nat}{f:Pc}(ef:qs[j]?=some f):XC qs j=f.lo/\XC qs (j+1)=f.hi+1:=by
 obtain⟨a,b⟩:=zoZ hq ef
 unfold XC
 rw [ef]
 refine⟨rfl,?_⟩
 cases h:qs[j+1]? with
 | none=>exact b h
 | some g=>exact a g h
theorem ztK {ps:List Pc}{p:Pc}(hr:ZX ps)(h:ps.head?=some p):at' ps p.lo=some p.to:=by
 have e:ps[0]?=some p:=by rw [<- qaG];exact h
 have g:=(hr.good p (qe e)).le
 rw [W5 hr e ⟨qw _,g⟩]
 show some (p.to+p.st*(p.lo-p.lo))=_
 rw [Int.sub_self,qaE,Int.add_zero]
open PySem Rm My
def zfw:List (Int×Int)->Prop
 | []=>True
 | c::r=>c.1<=c.2/\(∀ d∈r,c.2+2<=d.1)/\zfw r
def Xw:List (Int×Int)->Int->Option Int
 | [],_=>none
 | c::r,h=>if h<=c.2 then some (max h c.1) else Xw r h
theorem zeg:∀ (a b:List (Int×Int)) (h:Int),Xw (a++b) h=(Xw a h).or (Xw b h)
  | [],b,h=>by simp [Xw]
  | c::a,b,h=>by
    show (if h<=c.2 then _ else Xw (a++b) h)=_
    rw [zeg a b h]
    show _=((if h<=c.2 then some (max h c.1) else Xw a h).or _)
    split<;>rfl
theorem zft:∀ {a:List (Int×Int)} {h:Int},(∀ c∈a,c.2<h)->Xw a h=none
 | [],h,_=>rfl
 | c::a,h,hb=>by
  show (if h<=c.2 then _ else Xw a h)=none
  rw [if_neg (by have:=hb c (by simp);lia)]
  exact zft fun d hd=>hb d (by simp [hd])
theorem zfw.mem:∀ {cs:List (Int×Int)},zfw cs->∀ {i:Nat} {c:Int×Int},cs[i]?=some c->c.1<=c.2/\∀ d∈cs.take i,d.2+2<=c.1
 | [],_,i,c,h=>by simp at h
 | a::r,ok,0,c,h=>by simp at h;subst h;exact⟨ok.1,by simp⟩
 | a::r,ok,i+1,c,h=>by
  have h':r[i]?=some c:=by simpa using h
  obtain⟨h1,h2⟩:=zfw.mem ok.2.2 h'
  refine⟨h1,fun d hd=>?_⟩
  rw [List.take_succ_cons] at hd
  rcases qg.mp hd with rfl | hd
  ·exact ok.2.1 c (qe h')
  ·exact h2 d hd
theorem zhm (cs:List (Int×Int)):fl 20 (.tup (cs.map p2))=true:=by
 show (cs.map p2).all (fl 19)=true
 rw [qaV,qaf]
 intro p _;rfl
theorem zlc {xs:List D}{x:D}:X5 (xs++[x]).length (-1)=some xs.length:=by
 have hl:((xs++[x]).length:Int)=xs.length+1:=by simp
 unfold X5
 rw [if_neg (by lia),if_pos (by lia)]
 congr 1;lia
theorem zit {xs:List D}{x:D}:Y8 (xs++[x]) (-1)=some x:=by
 unfold Y8
 rw [zlc]
 simp
end Dp
namespace Rm
open My Dp
def Zu (h:Int)(c:Int×Int):Bool:=decide (c.1<=h)&&decide (h<=c.2)
def V9 (c:Int×Int):Bool:=decide (c.1<=c.2)
structure Zn (cs:List (Int×Int)):Prop where
 le:∀ c∈cs,c.1<=c.2
 ap:cs.Pairwise fun a b=>a.2+2<=b.1
theorem zeH {h:Int}{c:Int×Int}:Zu h c=true↔c.1<=h/\h<=c.2:=by unfold Zu;simp
theorem XF {h:Int}{cs:List (Int×Int)}:cs.any (Zu h)=true↔∃ c∈cs,c.1<=h/\h<=c.2:=by
 rw [List.any_eq_true]
 constructor
 ·rintro⟨c,hc,g⟩;exact⟨c,hc,zeH.mp g⟩
 ·rintro⟨c,hc,g⟩;exact⟨c,hc,zeH.mpr g⟩
theorem Zn.nil:Zn []:=⟨fun c hc=>absurd hc (by simp),.nil⟩
theorem Zn.snoc {ms:List (Int×Int)}{c:Int×Int}(s:Zn ms)(hc:c.1<=c.2)(h:∀ m∈ms,m.2+2<=c.1):Zn (ms++[c]):=by
 refine⟨fun d hd=>?_,List.pairwise_append.mpr ⟨s.ap,List.pairwise_singleton _ _,fun a ha b hb=>?_⟩⟩
 ·rcases qK.mp hd with g | g
  ·exact s.le d g
  ·have:d=c:=by simpa using g
   subst this;exact hc
 ·have:b=c:=by simpa using hb
  subst this;exact h a ha
theorem Zn.init {ms:List (Int×Int)}{c:Int×Int}(s:Zn (ms++[c])):Zn ms/\c.1<=c.2/\∀ m∈ms,m.2+2<=c.1:=by
 obtain⟨h1,h2,h3⟩:=List.pairwise_append.mp s.ap
 exact⟨⟨fun d hd=>s.le d (qaz _ hd),h1⟩,s.le c (by simp),fun m hm=>h3 m hm c (by simp)⟩
theorem zr2 {ms:List (Int×Int)}{l c:Int×Int}(s:Zn (ms++[l]))(hc:c.1<=c.2)(h1:l.1<=c.1)(h2:c.1<=l.2+1) :
  Zn (ms++[(l.1,max l.2 c.2)])/\∀ h,(ms++[(l.1,max l.2 c.2)]).any (Zu h)=((ms++[l]).any (Zu h)||Zu h c):=by
 obtain⟨s0,hl,hm⟩:=s.init
 refine⟨s0.snoc (by show l.1<=max l.2 c.2;lia) hm,fun h=>?_⟩
 rw [qa2,qa2,Bool.or_assoc]
 congr 1
 rw [qaB,qaC]
 simp only [qaN,List.any_nil,Bool.or_false,zeH]
 lia
theorem zu0 {a b:Int×Int}(h:zh8 b a=false):a.1<=b.1:=by
 unfold zh8 at h
 rw [decide_eq_false_iff_not] at h
 lia
theorem any_filter (cs:List (Int×Int))(h:Int):(cs.filter fun c=>decide (c.1<=c.2)).any (Zu h)=cs.any (Zu h):=by
 rw [qaB,XF,XF]
 constructor
 ·rintro⟨c,hc,g⟩;exact⟨c,(Wc.mp hc).1,g⟩
 ·rintro⟨c,hc,g⟩;exact⟨c,Wc.mpr ⟨hc,decide_eq_true (by lia)⟩,g⟩
theorem zri {a b:List (Int×Int)}(p:a.Perm b)(h:Int):a.any (Zu h)=b.any (Zu h):=by
 rw [qaB,XF,XF]
 constructor
 ·rintro⟨c,hc,g⟩;exact⟨c,p.mem_iff.mp hc,g⟩
 ·rintro⟨c,hc,g⟩;exact⟨c,p.mem_iff.mpr hc,g⟩
def Yd (a b:Int×Int):Int×Int:=(max a.1 b.1,min a.2 b.2)
def Xz (as bs:List (Int×Int)):List (Int×Int):=as.flatMap fun a=>bs.map (Yd a)
theorem zoO (as bs:List (Int×Int))(h:Int):(Xz as bs).any (Zu h)=(as.any (Zu h)&&bs.any (Zu h)):=by
  rw [qaB,qG,XF,XF,XF]
  unfold Xz
  constructor
  . rintro⟨c,hc,g1,g2⟩
    obtain⟨a,ha,hm⟩:=List.mem_flatMap.mp hc
    obtain⟨b,hb,rfl⟩:=qW.mp hm
    unfold Yd at g1 g2
    dsimp only at g1 g2
    refine⟨⟨a,ha,?_⟩,⟨b,hb,?_⟩⟩<;>lia
  . rintro⟨⟨a,ha,g1,g2⟩,⟨b,hb,k1,k2⟩⟩
    refine⟨Yd a b,List.mem_flatMap.mpr ⟨a,ha,qW.mpr ⟨b,hb,rfl⟩⟩,?_⟩
    unfold Yd
    dsimp only
    constructor<;>lia
theorem zl8 {a b:Int×Int}(ha:a.1<=a.2)(hb:b.1<=b.2):(Yd a b).1<=(Yd a b).2↔b.1<=a.2/\a.1<=b.2:=by
 unfold Yd
 dsimp only
 lia
theorem zna {a:Int×Int}(ha:a.1<=a.2):∀ {bs:List (Int×Int)},Zn bs->((bs.map (Yd a)).filter fun c=>decide (c.1<=c.2)).length<=(bs.filter fun b=>decide (b.2<=a.2)).length+1
  | [],_=>by simp
  | b::bs,s=>by
    obtain⟨cb,pb⟩:=qS.mp s.ap
    have hb:=s.le b (by simp)
    have s':Zn bs:=⟨fun x hx=>s.le x (by simp [hx]),pb⟩
    have ih:=zna ha s'
    rw [qI]
    by_cases h1:b.2<=a.2
    . rw [qa0 (p:=fun b:Int×Int=>decide (b.2<=a.2)) (decide_eq_true h1)]
      have:(((Yd a b)::bs.map (Yd a)).filter fun c=>decide (c.1<=c.2)).length<=((bs.map (Yd a)).filter fun c=>decide (c.1<=c.2)).length+1:=by
        rw [qaQ];split<;>simp
      simp only [qQ]
      lia
    . have none : (bs.map (Yd a)).filter (fun c => decide (c.1 ≤ c.2)) = [] := by
        rw [qbu]
        intro c hc
        obtain⟨x,hx,rfl⟩:=qW.mp hc
        have:=cb x hx
        have hx2:=s'.le x hx
        rw [decide_eq_true_eq,zl8 ha hx2]
        lia
      rw [qaQ,none]
      split<;>simp
theorem zlr:∀ {as bs:List (Int×Int)},Zn as->Zn bs->((Xz as bs).filter fun c=>decide (c.1<=c.2)).length<=as.length+bs.length
 | [],bs,_,_=>by simp [Xz]
 | a::as,bs,sa,sb=>by
  obtain⟨ca,pa⟩:=qS.mp sa.ap
  have ha:=sa.le a (by simp)
  have sa':Zn as:=⟨fun x hx=>sa.le x (by simp [hx]),pa⟩
  have sb2:Zn (bs.filter fun b=>!decide (b.2<=a.2)):=⟨fun x hx=>sb.le x (Wc.mp hx).1,sb.ap.filter _⟩
  have ih:=zlr sa' sb2
  have one:=zna ha sb
  have same:((Xz as bs).filter fun c=>decide (c.1<=c.2)).length=((Xz as (bs.filter fun b=>!decide (b.2<=a.2))).filter fun c=>decide (c.1<=c.2)).length:=by
   clear ih one
   induction as with
   | nil=>rfl
   | cons d ds ihd =>
    have hd:a.2+2<=d.1:=ca d (by simp)
    have hd2:=sa.le d (by simp)
    unfold Xz at ihd ⊢
    rw [qbn,qbn,qaw,qaw,qh,qh]
    have e1:((bs.map (Yd d)).filter fun c=>decide (c.1<=c.2)).length=(((bs.filter fun b=>!decide (b.2<=a.2)).map (Yd d)).filter fun c=>decide (c.1<=c.2)).length:=by
     have hle:=sb.le
     clear ihd sb sb2
     induction bs with
     | nil=>rfl
     | cons b bs ihb =>
      have ih':=ihb fun x hx=>hle x (by simp [hx])
      have hb:=hle b (by simp)
      by_cases h1:b.2<=a.2
      ·rw [qa1 (p:=fun b:Int×Int=>!decide (b.2<=a.2)) (by simp [h1]),qI,qa1 (by rw [decide_eq_true_eq,zl8 hd2 hb];lia)]
       exact ih'
      ·rw [qa0 (p:=fun b:Int×Int=>!decide (b.2<=a.2)) (by simp [h1]),qI,qI,qaQ,qaQ]
       split
       ·simp only [qQ];lia
       ·exact ih'
    have pa2:=qS.mp (qS.mp sa.ap).2
    have sd:Zn (a::ds):=⟨fun x hx=>by
     rcases qg.mp hx with rfl | hx
     ·exact ha
     ·exact sa.le x (by simp [hx]),qS.mpr ⟨fun x hx=>ca x (by simp [hx]),pa2.2⟩⟩
    have e2:=ihd sd (fun x hx=>ca x (by simp [hx])) pa2.2 ⟨fun x hx=>sd.le x (by simp [hx]),pa2.2⟩
    rw [e1,e2]
  have split2:bs.length=(bs.filter fun b=>decide (b.2<=a.2)).length+(bs.filter fun b=>!decide (b.2<=a.2)).length:=by
   clear ih one same sb sb2
   induction bs with
   | nil=>rfl
   | cons b bs ihb =>
    rw [qaQ,qaQ]
    by_cases h1:b.2<=a.2
    ·simp [h1];lia
    ·simp [h1];lia
  unfold Xz at same ih ⊢
  rw [qbn,qaw,qh,same]
  simp only [qQ]
  lia
end Rm
namespace Dp
open PySem Rm My
def WX:List (Int×Int)->Int->Option Int
 | [],_=>none
 | c::r,h=>if h<=c.2 then some (max c.1 h) else WX r h
def on2 (f:Int×Int->D):D->D
 | .tup [.int a,.int b]=>f (a,b)
 | d=>d
def zuE (p:Int×Int->Bool):D->Bool
 | .tup [.int a,.int b]=>p (a,b)
 | _=>false
theorem ztv (f:Int×Int->D)(cs:List (Int×Int)):(cs.map p2).map (on2 f)=cs.map f:=by rw [qY];rfl
theorem zrU (p:Int×Int->Bool)(cs:List (Int×Int)):(cs.map p2).filter (zuE p)=(cs.filter p).map p2:=by rw [List.filter_map];rfl
theorem zvS {S:Z5}{x:D}{xs:List D}{R:DIt->Z5->Prop}(h:V1 S x xs)(q:∀ ok:Z5->Prop,(∀ T,ok (S++T))->R ⟨xs,ok⟩ S):zhs x S R:=by
 rcases h with rfl | h
 ·exact .inl ⟨xs,rfl,q _ fun _=>True.intro⟩
 ·exact .inr (.inl ⟨xs,h,q _ fun T=>h.old⟩)
theorem V1.old {S T:Z5}{x:D}{xs:List D}(h:V1 S x xs):V1 (S++T) x xs:=h.imp id Lst.old
theorem zjr (as bs:List (Int×Int)):(Xz as bs).length=as.length*bs.length:=by
 unfold Xz
 induction as with
 | nil=>simp
 | cons a as ih=>rw [qbn,qh,ih,qb,qQ,Nat.succ_mul,Nat.add_comm]
theorem zmM {as bs:List (Int×Int)}{i:Nat}{a:Int×Int}(h:as[i]?=some a):Xz (as.take (i+1)) bs=Xz (as.take i) bs++bs.map (Yd a):=by
 unfold Xz
 rw [Wt h,List.flatMap_append];simp
def Y0:Int->List (Int×Int)->List (Int×Int)×Int
 | st,[]=>([],st)
 | st,c::cs=>((st,c.1-1)::(Y0 (c.2+1) cs).1,(Y0 (c.2+1) cs).2)
theorem zd4:∀ (st:Int) (cs:List (Int×Int)),(Y0 st cs).1.length=cs.length
 | _,[]=>rfl
 | st,c::cs=>by show ((Y0 (c.2+1) cs).1.length+1)=_;rw [zd4];rfl
theorem zfX:∀ (st:Int) (cs:List (Int×Int)) (c:Int×Int),Y0 st (cs++[c])=((Y0 st cs).1++[((Y0 st cs).2,c.1-1)],c.2+1)
 | st,[],c=>rfl
 | st,d::cs,c=>by
  show ((st,d.1-1)::(Y0 (d.2+1) (cs++[c])).1,(Y0 (d.2+1) (cs++[c])).2)=_
  rw [zfX];rfl
theorem zlf {hi h:Int}(hh:h<=hi):∀ (st:Int) {cs:List (Int×Int)},Zn cs->st<=h->(∀ c∈cs,c.2<=h->True)->(((Y0 st cs).1++[((Y0 st cs).2,hi)]).any (Zu h)=true↔¬ ∃ c∈cs,c.1<=h/\h<=c.2)
  | st,[],_,hs,_=>by
    simp [Y0,zeH,hs,hh]
  | st,c::cs,s,hs,_=>by
    obtain⟨cb,pb⟩:=qS.mp s.ap
    have hc:=s.le c (by simp)
    have s':Zn cs:=⟨fun x hx=>s.le x (by simp [hx]),pb⟩
    show (((st,c.1-1)::((Y0 (c.2+1) cs).1++[((Y0 (c.2+1) cs).2,hi)])).any (Zu h)=true↔_)
    rw [qaN,qaC,zeH]
    rcases (by lia:h<c.1\/(c.1<=h/\h<=c.2)\/c.2<h) with g | g | g
    . constructor
      . rintro-⟨x,hx,k1,k2⟩
        rcases qg.mp hx with rfl | hx
        . lia
        . have:=cb x hx;lia
      . intro _
        exact .inl ⟨hs,by show h<=c.1-1;lia⟩
    . constructor
      . intro z
        exfalso
        rcases z with ⟨_,z⟩ | z
        . have:h<=c.1-1:=z
          lia
        . obtain⟨x,hx,k1,k2⟩:=XF.mp z
          have low:∀ (st:Int) (cs:List (Int×Int)),Zn cs->(∀ d∈cs,st<=d.1)->∀ x∈(Y0 st cs).1++[((Y0 st cs).2,hi)],st<=x.1:=by
            intro st cs
            induction cs generalizing st with
            | nil => intro _ _ x hx; have : x = (st, hi) := by simpa [Y0] using hx
                     subst this;exact qw _
            | cons d ds ih =>
              intro sd hd x hx
              obtain⟨c2,p2⟩:=qS.mp sd.ap
              have hd1:=hd d (by simp)
              have hd2:=sd.le d (by simp)
              have hx:x∈(st,d.1-1)::((Y0 (d.2+1) ds).1++[((Y0 (d.2+1) ds).2,hi)]):=hx
              rcases qg.mp hx with rfl | hx
              . exact qw _
              . have:=ih (d.2+1) ⟨fun y hy=>sd.le y (by simp [hy]),p2⟩ (fun y hy=>by have:=c2 y hy;lia) x hx
                lia
          have:=low (c.2+1) cs s' (fun d hd=>by have:=cb d hd;lia) x hx
          lia
      . intro z
        exact absurd ⟨c,by simp,g.1,g.2⟩ z
    . have ih:=zlf hh (c.2+1) s' (by lia) (fun _ _ _=>trivial)
      constructor
      . rintro z ⟨x,hx,k1,k2⟩
        rcases qg.mp hx with rfl | hx
        . lia
        . rcases z with ⟨_,z⟩ | z
          . have:h<=c.1-1:=z
            lia
          . exact ih.mp z ⟨x,hx,k1,k2⟩
      . intro z
        exact .inr (ih.mpr fun⟨x,hx,k⟩=>z ⟨x,by simp [hx],k⟩)
end Dp
namespace Rm
open My Dp
def Zj (L R B T x1 z1 x2 z2:Int):List Int :=
 [(x2-x1)*(B-z1)-(z2-z1)*(L-x1),(x2-x1)*(T-z1)-(z2-z1)*(L-x1),(x2-x1)*(B-z1)-(z2-z1)*(R-x1),(x2-x1)*(T-z1)-(z2-z1)*(R-x1)]
def V5 (L R B T x1 z1 x2 z2:Int):Prop :=
 L<=(max x1 x2)/\(min x1 x2)<=R/\B<=(max z1 z2)/\(min z1 z2)<=T/\(∃ a∈Zj L R B T x1 z1 x2 z2,0<=a)/\∃ a∈Zj L R B T x1 z1 x2 z2,a<=0
def zgc (lo hi st sp e1 e2 x1 x2:Int):Prop :=
 (sp=0/\lo<=st/\st<=hi/\e1=0/\e2=1/\x1=1/\x2=1)\/(sp=0/\(st<lo\/hi<st)/\e1=1/\e2=1/\x1=0/\x2=1) \/
 (0<sp/\e1=lo-st/\e2=sp/\x1=hi-st/\x2=sp)\/(sp<0/\e1=st-hi/\e2=-sp/\x1=st-lo/\x2=-sp)
def zk2 (ea1 ea2 xa1 xa2 eu1 eu2 xu1 xu2:Int):Prop:=∀ e∈[((0:Int),(1:Int)),(ea1,ea2),(eu1,eu2)],∀ x∈[((1:Int),(1:Int)),(xa1,xa2),(xu1,xu2)],e.1*x.2<=x.1*e.2
theorem zcu {u a b:Int}(h:0<=u)(h':a<=b):u*a<=u*b:=Int.mul_le_mul_of_nonneg_left h' h
theorem zrH {p r P R:Int}{L x:Int}:(∃ a∈[P-L,R-L,P-x,R-x],p<=a)↔(p<=P-L\/p<=R-L\/p<=P-x\/p<=R-x):=by simp
theorem zpV {p P R:Int}{L x:Int}:(∃ a∈[P-L,R-L,P-x,R-x],a<=p)↔(P-L<=p\/R-L<=p\/P-x<=p\/R-x<=p):=by simp
theorem zpl {ea1 ea2 xa1 xa2 eu1 eu2 xu1 xu2:Int}:zk2 ea1 ea2 xa1 xa2 eu1 eu2 xu1 xu2 ↔
  (0<=xa1/\0<=xu1)/\(ea1<=ea2/\ea1*xa2<=xa1*ea2/\ea1*xu2<=xu1*ea2)/\(eu1<=eu2/\eu1*xa2<=xa1*eu2/\eu1*xu2<=xu1*eu2):=by
 unfold zk2
 simp
def zk5 (lo hi st sp e1 e2 x1 x2:Int):Prop :=
 (sp=0/\lo<=st/\st<=hi/\e1=0/\e2=1/\x1=1/\x2=1)\/(sp=0/\(st<lo\/hi<st)/\e1=1/\e2=1/\x1=0/\x2=1)\/(0<sp/\e1=lo-st/\e2=sp/\x1=hi-st/\x2=sp)
theorem zlp {lo hi st s t e1 e2 x1 x2:Int}(h:zgc lo hi st (t-s) e1 e2 x1 x2):zk5 lo hi st (t-s) e1 e2 x1 x2\/zk5 (-hi) (-lo) (-st) (-t - -s) e1 e2 x1 x2:=by
 rcases h with h | h | h | ⟨h,rfl,rfl,rfl,rfl⟩
 ·exact .inl (.inl h)
 ·exact .inl (.inr (.inl h))
 ·exact .inl (.inr (.inr h))
 ·exact .inr (.inr (.inr ⟨by lia,by lia,by lia,by lia,by lia⟩))
theorem zln {as bs:List Int}(h:∀ a,a∈bs↔-a∈as):((∃ a∈bs,0<=a)↔∃ a∈as,a<=0)/\((∃ a∈bs,a<=0)↔∃ a∈as,0<=a):=by
  have back:∀ a,a∈as->-a∈bs:=fun a ha=>(h (-a)).mpr (by rw [qbb];exact ha)
  refine⟨⟨?_,?_⟩,?_,?_⟩<;>rintro⟨a,ha,h0⟩
  . exact⟨-a,(h a).mp ha,by lia⟩
  . exact⟨-a,back a ha,by lia⟩
  . exact⟨-a,(h a).mp ha,by lia⟩
  . exact⟨-a,back a ha,by lia⟩
theorem zrt {a p q r t:Int}:a∈[-p,-q,-r,-t]↔-a∈[r,t,p,q]:=by
 have e:∀ x,a=-x↔-a=x:=fun x=>⟨fun h=>by rw [h,qbb],fun h=>by rw [<- h,qbb]⟩
 simp only [qg,qH,or_false,e]
 exact⟨fun h=>h.elim (fun h=>.inr (.inr (.inl h))) (fun h=>h.elim (fun h=>.inr (.inr (.inr h))) (fun h=>h.elim .inl (fun h=>.inr (.inl h)))),fun h=>h.elim (fun h=>.inr (.inr (.inl h))) (fun h=>h.elim (fun h=>.inr (.inr (.inr h))) (fun h=>h.elim .inl (fun h=>.inr (.inl h))))⟩
theorem zze (a b c d e:Int):(-a - -b)*c-d*(-e - -b)=-((a-b)*c-d*(e-b)):=by
 rw [show -a - -b=-(a-b) by lia,show -e - -b=-(e-b) by lia,qbo,qbp];lia
theorem zza (a b c d e:Int):c*(-a - -b)-(-d - -b)*e=-(c*(a-b)-(d-b)*e):=by
 rw [show -a - -b=-(a-b) by lia,show -d - -b=-(d-b) by lia,qbo,qbp];lia
theorem zmf (a b:Int):max (-a) (-b)=-(min a b):=by lia
theorem zlG (a b:Int):min (-a) (-b)=-(max a b):=by lia
theorem zkC {L R B T x1 z1 x2 z2:Int}:V5 (-R) (-L) B T (-x1) z1 (-x2) z2↔V5 L R B T x1 z1 x2 z2:=by
 have e:Zj (-R) (-L) B T (-x1) z1 (-x2) z2=[-((x2-x1)*(B-z1)-(z2-z1)*(R-x1)),-((x2-x1)*(T-z1)-(z2-z1)*(R-x1)),-((x2-x1)*(B-z1)-(z2-z1)*(L-x1)),-((x2-x1)*(T-z1)-(z2-z1)*(L-x1))]:=by
  unfold Zj
  simp only [zze]
 have k:=zln (as:=Zj L R B T x1 z1 x2 z2) (bs:=Zj (-R) (-L) B T (-x1) z1 (-x2) z2) (fun a=>by rw [e];exact zrt)
 unfold V5
 rw [k.1,k.2,zmf,zlG]
 generalize max x1 x2=a1
 generalize min x1 x2=a2
 generalize (∃ a∈Zj L R B T x1 z1 x2 z2,0<=a)=P
 generalize (∃ a∈Zj L R B T x1 z1 x2 z2,a<=0)=Q
 constructor
 ·rintro⟨h1,h2,h3,h4,h5,h6⟩;exact⟨by lia,by lia,h3,h4,h6,h5⟩
 ·rintro⟨h1,h2,h3,h4,h5,h6⟩;exact⟨by lia,by lia,h3,h4,h6,h5⟩
theorem zo9 {a p q r t:Int}:a∈[-p,-q,-r,-t]↔-a∈[q,p,t,r]:=by
 have e:∀ x,a=-x↔-a=x:=fun x=>⟨fun h=>by rw [h,qbb],fun h=>by rw [<- h,qbb]⟩
 simp only [qg,qH,or_false,e]
 exact⟨fun h=>h.elim (fun h=>.inr (.inl h)) (fun h=>h.elim .inl (fun h=>h.elim (fun h=>.inr (.inr (.inr h))) (fun h=>.inr (.inr (.inl h))))),fun h=>h.elim (fun h=>.inr (.inl h)) (fun h=>h.elim .inl (fun h=>h.elim (fun h=>.inr (.inr (.inr h))) (fun h=>.inr (.inr (.inl h)))))⟩
theorem zkG {L R B T x1 z1 x2 z2:Int}:V5 L R (-T) (-B) x1 (-z1) x2 (-z2)↔V5 L R B T x1 z1 x2 z2:=by
 have e:Zj L R (-T) (-B) x1 (-z1) x2 (-z2)=[-((x2-x1)*(T-z1)-(z2-z1)*(L-x1)),-((x2-x1)*(B-z1)-(z2-z1)*(L-x1)),-((x2-x1)*(T-z1)-(z2-z1)*(R-x1)),-((x2-x1)*(B-z1)-(z2-z1)*(R-x1))]:=by
  unfold Zj
  simp only [zza]
 have k:=zln (as:=Zj L R B T x1 z1 x2 z2) (bs:=Zj L R (-T) (-B) x1 (-z1) x2 (-z2)) (fun a=>by rw [e];exact zo9)
 unfold V5
 rw [k.1,k.2,zmf,zlG]
 generalize max z1 z2=a1
 generalize min z1 z2=a2
 generalize (∃ a∈Zj L R B T x1 z1 x2 z2,0<=a)=P
 generalize (∃ a∈Zj L R B T x1 z1 x2 z2,a<=0)=Q
 constructor
 ·rintro⟨h1,h2,h3,h4,h5,h6⟩;exact⟨h1,h2,by lia,by lia,h6,h5⟩
 ·rintro⟨h1,h2,h3,h4,h5,h6⟩;exact⟨h1,h2,by lia,by lia,h6,h5⟩
theorem zsW {P Q p q:Int}(h:P<=Q)(g:p<=q):(0<=P-p\/0<=Q-p\/0<=P-q\/0<=Q-q)↔p<=Q:=⟨fun k=>by rcases k with k | k | k | k<;>lia,fun k=>.inr (.inl (by lia))⟩
theorem ztp {P Q p q:Int}(h:P<=Q)(g:p<=q):(P-p<=0\/Q-p<=0\/P-q<=0\/Q-q<=0)↔P<=q:=⟨fun k=>by rcases k with k | k | k | k<;>lia,fun k=>.inr (.inr (.inl (by lia)))⟩
theorem zgj {L R B T x1 z1 x2 z2 ea1 ea2 xa1 xa2 eu1 eu2 xu1 xu2:Int}(hx:L<=R)(hz:B<=T)(pa:zk5 L R x1 (x2-x1) ea1 ea2 xa1 xa2)(pu:zk5 B T z1 (z2-z1) eu1 eu2 xu1 xu2) :
    zk2 ea1 ea2 xa1 xa2 eu1 eu2 xu1 xu2↔V5 L R B T x1 z1 x2 z2:=by
  have u0:0<=x2-x1:=by rcases pa with h | h | h<;>lia
  have v0:0<=z2-z1:=by rcases pu with h | h | h<;>lia
  rw [zpl]
  unfold V5 Zj
  rw [zrH (r:=0),zpV,show max x1 x2=x1+(x2-x1) by lia,show min x1 x2=x1 by lia,show max z1 z2=z1+(z2-z1) by lia,show min z1 z2=z1 by lia]
  generalize x2-x1=u at *
  generalize z2-z1=v at *
  have k1:=zcu u0 (show B-z1<=T-z1 by lia)
  have k2:=zcu v0 (show L-x1<=R-x1 by lia)
  rw [zsW k1 k2,ztp k1 k2]
  have c1:∀ s t:Int,(s-x1)*t=t*(s-x1):=fun s t=>qao _ _
  have c3:∀ s t:Int,(s-z1)*t=t*(s-z1):=fun s t=>qao _ _
  have k5:B<=z1->u*(B-z1)<=0:=fun h=>by have:=zcu u0 (show B-z1<=0 by lia);rwa [qaE] at this
  have k6:z1<=T->0<=u*(T-z1):=fun h=>by have:=zcu u0 (show 0<=T-z1 by lia);rwa [qaE] at this
  have k8:=zcu v0 (show B-z1<=T-z1 by lia)
  rcases pa with ⟨hu,h1,h2,rfl,rfl,rfl,rfl⟩ | ⟨hu,h1,rfl,rfl,rfl,rfl⟩ | ⟨hu,rfl,rfl,rfl,rfl⟩
  . clear k5 k6
    subst hu
    have k3:=zcu v0 (show L-x1<=0 by lia)
    have k4:=zcu v0 (show 0<=R-x1 by lia)
    rcases pu with ⟨hv,g1,g2,rfl,rfl,rfl,rfl⟩ | ⟨hv,g1,rfl,rfl,rfl,rfl⟩ | ⟨hv,rfl,rfl,rfl,rfl⟩ <;>
    simp only [c3,Int.zero_mul,qaE,Int.one_mul,Wn] at *<;>lia
  . simp only [Int.one_mul,Wn]
    lia
  . have k7:=zcu u0 (show L-x1<=R-x1 by lia)
    rcases pu with ⟨hv,g1,g2,rfl,rfl,rfl,rfl⟩ | ⟨hv,g1,rfl,rfl,rfl,rfl⟩ | ⟨hv,rfl,rfl,rfl,rfl⟩
    . subst hv
      have k5:=k5 g1
      have k6:=k6 g2
      simp only [c1,c3,Int.zero_mul,qaE,Int.one_mul,Wn] at *
      lia
    . simp only [Int.one_mul,Wn]
      lia
    . simp only [c1,c3]
      exact⟨fun⟨⟨a,b⟩,⟨c,_,d⟩,e,f,_⟩=>⟨by lia,by lia,by lia,by lia,d,f⟩,fun⟨a,b,c,d,e,f⟩=>⟨⟨by lia,by lia⟩,⟨by lia,k7,e⟩,by lia,f,k8⟩⟩
theorem zrN {L R B T x1 z1 x2 z2 ea1 ea2 xa1 xa2 eu1 eu2 xu1 xu2:Int}(hx:L<=R)(hz:B<=T)(pa:zgc L R x1 (x2-x1) ea1 ea2 xa1 xa2)(pu:zgc B T z1 (z2-z1) eu1 eu2 xu1 xu2) :
    zk2 ea1 ea2 xa1 xa2 eu1 eu2 xu1 xu2↔V5 L R B T x1 z1 x2 z2:=by
  rcases zlp pa with pa | pa<;>rcases zlp pu with pu | pu
  . exact zgj hx hz pa pu
  . rw [<- zkG];exact zgj hx (by lia) pa pu
  . rw [<- zkC];exact zgj (by lia) hz pa pu
  . rw [<- zkC,<- zkG];exact zgj (by lia) (by lia) pa pu
theorem zl4 (L R B T x1 z1 x2 z2 g s k:Int):Zj (L+g*k) (R+g*k) (B+s*k) (T+s*k) x1 z1 x2 z2=(Zj L R B T x1 z1 x2 z2).map fun a=>a+k*((x2-x1)*s-(z2-z1)*g):=by
  unfold Zj
  simp only [qI,qbh,List.cons.injEq,and_true]
  refine⟨?_,?_,?_,?_⟩<;>grind
theorem zr9 {as:List Int}{m m' d:Int}(h1:m∈as)(h2:∀ a∈as,a<=m)(h3:m'∈as.map fun a=>a+d)(h4:∀ a∈as.map (fun a=>a+d),a<=m'):m'=m+d:=by
 obtain⟨b,hb,rfl⟩:=qW.mp h3
 have e1:=h2 b hb
 have e2:=h4 (m+d) (qW.mpr ⟨m,h1,rfl⟩)
 lia
theorem zrB {as:List Int}{m m' d:Int}(h1:m∈as)(h2:∀ a∈as,m<=a)(h3:m'∈as.map fun a=>a+d)(h4:∀ a∈as.map (fun a=>a+d),m'<=a):m'=m+d:=by
 obtain⟨b,hb,rfl⟩:=qW.mp h3
 have e1:=h2 b hb
 have e2:=h4 (m+d) (qW.mpr ⟨m,h1,rfl⟩)
 lia
def six (L R B T x1 z1 x2 z2 mx mn:Int):List Int:=[(max x1 x2)-L,R-(min x1 x2),(max z1 z2)-B,T-(min z1 z2),mx,-mn]
theorem zqa {L R B T x1 z1 x2 z2 g s mx mn mx' mn' k:Int}(m1:mx∈Zj (L+g*0) (R+g*0) (B+s*0) (T+s*0) x1 z1 x2 z2)(m2:∀ a∈Zj (L+g*0) (R+g*0) (B+s*0) (T+s*0) x1 z1 x2 z2,a<=mx)
    (n1:mn∈Zj (L+g*0) (R+g*0) (B+s*0) (T+s*0) x1 z1 x2 z2) (n2:∀ a∈Zj (L+g*0) (R+g*0) (B+s*0) (T+s*0) x1 z1 x2 z2,mn<=a)
    (m1':mx'∈Zj (L+g*1) (R+g*1) (B+s*1) (T+s*1) x1 z1 x2 z2) (m2':∀ a∈Zj (L+g*1) (R+g*1) (B+s*1) (T+s*1) x1 z1 x2 z2,a<=mx')
    (n1':mn'∈Zj (L+g*1) (R+g*1) (B+s*1) (T+s*1) x1 z1 x2 z2) (n2':∀ a∈Zj (L+g*1) (R+g*1) (B+s*1) (T+s*1) x1 z1 x2 z2,mn'<=a) :
    (∀ i,i<6->0<=(six (L+g*0) (R+g*0) (B+s*0) (T+s*0) x1 z1 x2 z2 mx mn).getD i 0+k*((six (L+g*1) (R+g*1) (B+s*1) (T+s*1) x1 z1 x2 z2 mx' mn').getD i 0-(six (L+g*0) (R+g*0) (B+s*0) (T+s*0) x1 z1 x2 z2 mx mn).getD i 0)) ↔
    V5 (L+g*k) (R+g*k) (B+s*k) (T+s*k) x1 z1 x2 z2:=by
  rw [zl4] at m1 m2 n1 n2 m1' m2' n1' n2'
  have id0:(Zj L R B T x1 z1 x2 z2).map (fun a=>a+0*((x2-x1)*s-(z2-z1)*g))=Zj L R B T x1 z1 x2 z2:=by
    simp
  rw [id0] at m1 m2 n1 n2
  rw [show (fun a:Int=>a+1*((x2-x1)*s-(z2-z1)*g))=fun a=>a+((x2-x1)*s-(z2-z1)*g) by funext a;rw [Int.one_mul]] at m1' m2' n1' n2'
  have e1:=zr9 m1 m2 m1' m2'
  have e2:=zrB n1 n2 n1' n2'
  unfold V5
  rw [zl4]
  generalize (x2-x1)*s-(z2-z1)*g=d at *
  have f1:(∃ a∈(Zj L R B T x1 z1 x2 z2).map (fun a=>a+k*d),0<=a)↔0<=mx+k*d:=by
    constructor
    . rintro⟨a,ha,h⟩
      obtain⟨b,hb,rfl⟩:=qW.mp ha
      have:=m2 b hb
      lia
    . intro h
      exact⟨_,qW.mpr ⟨mx,m1,rfl⟩,h⟩
  have f2:(∃ a∈(Zj L R B T x1 z1 x2 z2).map (fun a=>a+k*d),a<=0)↔mn+k*d<=0:=by
    constructor
    . rintro⟨a,ha,h⟩
      obtain⟨b,hb,rfl⟩:=qW.mp ha
      have:=n2 b hb
      lia
    . intro h
      exact⟨_,qW.mpr ⟨mn,n1,rfl⟩,h⟩
  rw [f1,f2]
  subst e1 e2
  unfold six
  generalize (max x1 x2)=q1
  generalize (min x1 x2)=q2
  generalize (max z1 z2)=q3
  generalize (min z1 z2)=q4
  have h0:k*(q1-(L+g*1)-(q1-(L+g*0)))=-(g*k):=by grind
  have h1:k*(R+g*1-q2-(R+g*0-q2))=g*k:=by grind
  have h2:k*(q3-(B+s*1)-(q3-(B+s*0)))=-(s*k):=by grind
  have h3:k*(T+s*1-q4-(T+s*0-q4))=s*k:=by grind
  have h4:k*(mx+d-mx)=k*d:=by grind
  have h5:k*(-(mn+d) - -mn)=-(k*d):=by grind
  constructor
  . intro h
    have a0:=h 0 (by decide)
    have a1:=h 1 (by decide)
    have a2:=h 2 (by decide)
    have a3:=h 3 (by decide)
    have a4:=h 4 (by decide)
    have a5:=h 5 (by decide)
    simp only [qaq,qar] at a0 a1 a2 a3 a4 a5
    rw [h0] at a0
    rw [h1] at a1
    rw [h2] at a2
    rw [h3] at a3
    rw [h4] at a4
    rw [h5] at a5
    refine⟨?_,?_,?_,?_,?_,?_⟩<;>lia
  . rintro⟨a0,a1,a2,a3,a4,a5⟩ i hi
    match i,hi with
    | 0,_=>simp only [qaq,qar];rw [h0];lia
    | 1,_=>simp only [qaq,qar];rw [h1];lia
    | 2,_=>simp only [qaq,qar];rw [h2];lia
    | 3,_=>simp only [qaq,qar];rw [h3];lia
    | 4,_=>simp only [qaq,qar];rw [h4];lia
    | 5,_=>simp only [qaq,qar];rw [h5];lia
theorem ztQ {S T k:Int}(h:0<T):-(S/T)<=k↔0<=S+k*T:=by
 have:-k<=S/T↔-k*T<=S:=qbv h
 rw [qbo] at this
 lia
theorem zpa {S T k:Int}(h:T<0):k<=S / -T↔0<=S+k*T:=by
 have:k<=S / -T↔k * -T<=S:=qbv (by lia)
 rw [qbp] at this
 lia
def Hit (L R B T x1 z1 x2 z2:Int):Prop:=∃ p q:Int,0<q/\0<=p/\p<=q/\L*q<=x1*q+p*(x2-x1)/\x1*q+p*(x2-x1)<=R*q/\B*q<=z1*q+p*(z2-z1)/\z1*q+p*(z2-z1)<=T*q
theorem mulL {k a b:Int}(h:0<=k)(g:a<=b):k*a<=k*b:=Int.mul_le_mul_of_nonneg_left g h
theorem zrY {k a b:Int}(h:0<k)(g:k*a<=k*b):a<=b:=Int.le_of_mul_le_mul_left g h
theorem ftr {a b c d e f:Int}(hb:0<=b)(hf:0<=f)(hd:0<d)(h1:a*d<=c*b)(h2:c*f<=e*d):a*f<=e*b:=by
 refine zrY hd ?_
 have k1:=mulL hf h1
 have k2:=mulL hb h2
 have e1:d*(a*f)=f*(a*d):=by grind
 have e2:f*(c*b)=b*(c*f):=by grind
 have e3:b*(e*d)=d*(e*b):=by grind
 lia
theorem fmax:∀ {l:List (Int×Int)},l≠[]->(∀ e∈l,0<e.2)->∃ e∈l,∀ f∈l,f.1*e.2<=e.1*f.2
 | [],h,_=>absurd rfl h
 | [x],_,_=>⟨x,by simp,fun f hf=>by simp at hf;subst hf;exact qw _⟩
 | x::y::l,_,h=>by
  obtain⟨m,hm,g⟩:=fmax (l:=y::l) (by simp) fun e he=>h e (by simp [he])
  have hx:=h x (by simp)
  have hm2:=h m (by simp [hm])
  rcases Int.le_total (x.1*m.2) (m.1*x.2) with c | c
  ·refine⟨m,by simp [hm],fun f hf=>?_⟩
   rcases qg.mp hf with rfl | hf
   ·exact c
   ·exact g f hf
  ·refine⟨x,by simp,fun f hf=>?_⟩
   rcases qg.mp hf with rfl | hf
   ·exact qw _
   ·exact ftr (qa7 (h f (by simp [hf]))) (qa7 hx) hm2 (g f hf) c
theorem zm5 (lo hi st sp:Int):∃ e1 e2 x1 x2,zgc lo hi st sp e1 e2 x1 x2/\0<e2/\0<x2:=by
 unfold zgc
 rcases Int.lt_trichotomy sp 0 with h | h | h
 ·exact⟨st-hi,-sp,st-lo,-sp,.inr (.inr (.inr ⟨h,rfl,rfl,rfl,rfl⟩)),by lia,by lia⟩
 ·by_cases g:lo<=st/\st<=hi
  ·exact⟨0,1,1,1,.inl ⟨h,g.1,g.2,rfl,rfl,rfl,rfl⟩,by lia,by lia⟩
  ·exact⟨1,1,0,1,.inr (.inl ⟨h,by lia,rfl,rfl,rfl,rfl⟩),by lia,by lia⟩
 ·exact⟨lo-st,sp,hi-st,sp,.inr (.inr (.inl ⟨h,rfl,rfl,rfl,rfl⟩)),h,h⟩
theorem zm8 {lo hi st sp e1 e2 x1 x2 p q:Int}(P:zgc lo hi st sp e1 e2 x1 x2)(hq:0<q)(h0:0<=p)(h1:p<=q)(h2:e1*q<=p*e2)(h3:p*x2<=x1*q):lo*q<=st*q+p*sp/\st*q+p*sp<=hi*q:=by
 rcases P with ⟨hu,g1,g2,rfl,rfl,rfl,rfl⟩ | ⟨hu,g1,rfl,rfl,rfl,rfl⟩ | ⟨hu,rfl,rfl,rfl,rfl⟩ | ⟨hu,rfl,rfl,rfl,rfl⟩
 ·subst hu
  have k1:=mulL (qa7 hq) g1
  have k2:=mulL (qa7 hq) g2
  rw [qao q,qao q] at k1 k2
  rw [qaE];lia
 ·lia
 ·rw [qbq] at h2 h3;lia
 ·rw [qbq,qbp] at h2 h3;lia
theorem zlk {lo hi st sp e1 e2 x1 x2 p q:Int}(P:zgc lo hi st sp e1 e2 x1 x2)(hq:0<q)(h0:0<=p)(h1:p<=q)(h2:lo*q<=st*q+p*sp)(h3:st*q+p*sp<=hi*q):e1*q<=p*e2/\p*x2<=x1*q:=by
 rcases P with ⟨hu,g1,g2,rfl,rfl,rfl,rfl⟩ | ⟨hu,g1,rfl,rfl,rfl,rfl⟩ | ⟨hu,rfl,rfl,rfl,rfl⟩ | ⟨hu,rfl,rfl,rfl,rfl⟩
 ·lia
 ·subst hu
  rw [qaE,Int.add_zero,qao lo,qao st] at h2
  rw [qaE,Int.add_zero,qao hi,qao st] at h3
  have k1:=zrY hq h2
  have k2:=zrY hq h3
  lia
 ·rw [qbq,qbq];lia
 ·rw [qbq,qbq,qbp];lia
theorem znE {L R B T x1 z1 x2 z2:Int}(hx:L<=R)(hz:B<=T):V5 L R B T x1 z1 x2 z2↔Hit L R B T x1 z1 x2 z2:=by
  obtain⟨a1,a2,a3,a4,pa,ha2,ha4⟩:=zm5 L R x1 (x2-x1)
  obtain⟨u1,u2,u3,u4,pu,hu2,hu4⟩:=zm5 B T z1 (z2-z1)
  rw [<- zrN hx hz pa pu]
  constructor
  . intro h
    obtain⟨⟨p,q⟩,he,mx⟩:=fmax (l:=[((0:Int),(1:Int)),(a1,a2),(u1,u2)]) (by simp) (by
      intro e he
      simp only [qg,qH,or_false] at he
      rcases he with rfl | rfl | rfl
      . exact Int.one_pos
      . exact ha2
      . exact hu2)
    have hq:0<q:=by
      simp only [qg,qH,or_false,Prod.mk.injEq] at he
      rcases he with he | he | he<;>lia
    have m0:=mx (0,1) (by simp)
    have m1:=mx (a1,a2) (by simp)
    have m2:=mx (u1,u2) (by simp)
    have n0:=h _ he (1,1) (by simp)
    have n1:=h _ he (a3,a4) (by simp)
    have n2:=h _ he (u3,u4) (by simp)
    dsimp only at m0 m1 m2 n0 n1 n2
    have h0:0<=p:=by lia
    have h1:p<=q:=by lia
    obtain⟨k1,k2⟩:=zm8 pa hq h0 h1 m1 n1
    obtain⟨k3,k4⟩:=zm8 pu hq h0 h1 m2 n2
    exact⟨p,q,hq,h0,h1,k1,k2,k3,k4⟩
  . rintro⟨p,q,hq,h0,h1,k1,k2,k3,k4⟩
    obtain⟨g1,g2⟩:=zlk pa hq h0 h1 k1 k2
    obtain⟨g3,g4⟩:=zlk pu hq h0 h1 k3 k4
    intro e he x hx
    have ee:0<e.2/\e.1*q<=p*e.2:=by
      simp only [qg,qH,or_false] at he
      rcases he with rfl | rfl | rfl
      . exact⟨Int.one_pos,by lia⟩
      . exact⟨ha2,g1⟩
      . exact⟨hu2,g3⟩
    have xx:0<x.2/\p*x.2<=x.1*q:=by
      simp only [qg,qH,or_false] at hx
      rcases hx with rfl | rfl | rfl
      . exact⟨Int.one_pos,by lia⟩
      . exact⟨ha4,g2⟩
      . exact⟨hu4,g4⟩
    exact ftr (qa7 ee.1) (qa7 xx.1) hq ee.2 xx.2
end Rm
namespace Dp
open PySem Rm My
structure Fg where
 x0:Int
 x1:Int
 z0:Int
 z1:Int
 f:Int
 l:Int
 g:Int
 s:Int
abbrev XM (F:Fg):D:=.tup [.int F.x0,.int F.x1,.int F.z0,.int F.z1,.int F.f,.int F.l,.int F.g,.int F.s]
structure FgB (F:Fg):Prop where
 x:F.x0<=F.x1
 z:F.z0<=F.z1
 b0:Bd 600 F.x0
 b1:Bd 600 F.x1
 b2:Bd 600 F.z0
 b3:Bd 600 F.z1
 bg:Bd 200 F.g
 bs:Bd 200 F.s
def zeJ (F:Fg)(px pz qx qz h:Int):Prop:=F.f<=h/\h<=F.l/\Hit (F.x0+F.g*(h-F.f)) (F.x1+F.g*(h-F.f)) (F.z0+F.s*(h-F.f)) (F.z1+F.s*(h-F.f)) px pz qx qz
def zsw (ms:List (Int×Int))(F:Fg)(px pz qx qz:Int):Prop:=Zn ms/\ms.length<=1/\∀ h,ms.any (Zu h)=true↔zeJ F px pz qx qz h
theorem zqq {fs:List Fg}{i:Nat}{d:D}(h:(fs.map XM)[i]?=some d):∃ F,fs[i]?=some F/\d=XM F:=by
 rw [qi] at h
 cases e:fs[i]? with
 | none=>rw [e] at h;cases h
 | some p=>rw [e] at h;cases h;exact⟨p,rfl,rfl⟩
theorem Bd.max2 {n:Nat}{a b:Int}(ha:Bd n a)(hb:Bd n b):Bd n (max a b):=by
 rcases Int.le_total a b with h | h
 ·rw [Int.max_eq_right h];exact hb
 ·rw [Int.max_eq_left h];exact ha
theorem Bd.min2 {n:Nat}{a b:Int}(ha:Bd n a)(hb:Bd n b):Bd n (min a b):=by
 rcases Int.le_total a b with h | h
 ·rw [Int.min_eq_left h];exact ha
 ·rw [Int.min_eq_right h];exact hb
theorem zpU {L R B T x1 z1 x2 z2 mx mn:Int}(bL:Bd 700 L)(bR:Bd 700 R)(bB:Bd 700 B)(bT:Bd 700 T)(b1:Bd 700 x1)(b2:Bd 700 z1)(b3:Bd 700 x2)(b4:Bd 700 z2)(m1:mx∈Zj L R B T x1 z1 x2 z2)(n1:mn∈Zj L R B T x1 z1 x2 z2) :
    ∀ v∈six L R B T x1 z1 x2 z2 mx mn,Bd 1500 v:=by
  have pr:∀ {u v w t:Int},Bd 701 u->Bd 701 v->Bd 701 w->Bd 701 t->Bd 1500 (u*v-w*t):=fun h1 h2 h3 h4=>(Bd.sub (n:=1402) (Bd.mul h1 h2) (Bd.mul h3 h4)).mono (by decide)
  have ba:∀ a∈Zj L R B T x1 z1 x2 z2,Bd 1500 a:=by
    intro a ha
    unfold Zj at ha
    simp only [qg,qH,or_false] at ha
    rcases ha with rfl | rfl | rfl | rfl<;>exact pr (Bd.sub (by assumption) (by assumption)) (Bd.sub (by assumption) (by assumption)) (Bd.sub (by assumption) (by assumption)) (Bd.sub (by assumption) (by assumption))
  intro v hv
  unfold six at hv
  simp only [qg,qH,or_false] at hv
  rcases hv with rfl | rfl | rfl | rfl | rfl | rfl
  . exact (Bd.sub (Bd.max2 b1 b3) bL).mono (by decide)
  . exact (Bd.sub bR (Bd.min2 b1 b3)).mono (by decide)
  . exact (Bd.sub (Bd.max2 b2 b4) bB).mono (by decide)
  . exact (Bd.sub bT (Bd.min2 b2 b4)).mono (by decide)
  . exact ba _ m1
  . exact (ba _ n1).neg
theorem zrA {ms:List (Int×Int)}{F:Fg}{px pz qx qz lo hi:Int}(B:FgB F)(ok:Zn ms)(one:ms.length<=1)(hany:∀ h,ms.any (Zu h)=[(F.f+lo,F.f+hi)].any (Zu h))
  (hk:∀ k,(lo<=k/\k<=hi)↔(0<=k/\k<=F.l-F.f/\V5 (F.x0+F.g*k) (F.x1+F.g*k) (F.z0+F.s*k) (F.z1+F.s*k) px pz qx qz)):zsw ms F px pz qx qz:=by
 refine⟨ok,one,fun h=>?_⟩
 rw [hany h]
 have:=hk (h-F.f)
 rw [znE (by have:=B.x;lia) (by have:=B.z;lia)] at this
 simp only [qaN,List.any_nil,Bool.or_false,zeH]
 unfold zeJ
 constructor
 ·rintro⟨a,b⟩
  obtain⟨c1,c2,c3⟩:=this.mp ⟨by lia,by lia⟩
  exact⟨by lia,by lia,c3⟩
 ·rintro⟨a,b,c⟩
  obtain⟨d1,d2⟩:=this.mpr ⟨by lia,by lia,c⟩
  exact⟨by lia,by lia⟩
def flt (a b:Int×Int):Bool:=decide (a.1*b.2<b.1*a.2)
abbrev St2:=(Int×Int)×(Int×Int)
def rk (R:Int×Int->Int)(s:St2):Int×Int:=(R s.1,R s.2)
theorem zk1 {cs:List (Int×Int)}{k:Int}(h0:0<=k)(h:k<cs.length):∃ c,cs[k.toNat]?=some c/\Y8 (cs.map p2) k=some (p2 c):=by
 have hk:k.toNat<cs.length:=by lia
 refine⟨cs[k.toNat],qc hk,?_⟩
 have:=zcB (ds:=cs.map p2) (i:=k.toNat) (d:=p2 (cs[k.toNat])) (by rw [qi,qc hk];rfl)
 rwa [show ((k.toNat:Nat):Int)=k by lia] at this
def lenV (ms:List (Int×Int)):Int:=(ms.map fun m=>m.2-m.1).sum
def Sv (c:Int×Int)(t b:Int):Prop:=0<c.2/\c.1*b=t*c.2
def hvT (a b p:Int×Int):Int:=if 0<b.1-a.1 then a.2*(b.1-a.1)*p.2+(b.2-a.2)*(p.1-a.1*p.2) else -(a.2*(b.1-a.1)*p.2+(b.2-a.2)*(p.1-a.1*p.2))
def hvB (a b p:Int×Int):Int:=if 0<b.1-a.1 then (b.1-a.1)*p.2 else -((b.1-a.1)*p.2)
theorem ztz {a b p:Int×Int}(h:b.1≠a.1)(hp:0<p.2):0<hvB a b p:=by
 unfold hvB
 split
 ·exact qbr (by lia) hp
 ·have:=qbr (show 0 < -(b.1-a.1) by lia) hp
  rw [qbo] at this
  exact this
theorem zvl {c d:Int×Int}{t b u e:Int}(hb:0<b)(he:0<e)(hc:Sv c t b)(hd:Sv d u e):flt c d=decide (t*e<u*b):=by
 obtain⟨c0,c1⟩:=hc
 obtain⟨d0,d1⟩:=hd
 unfold flt
 refine decide_eq_decide.mpr ?_
 have hbe:0<b*e:=qbr hb he
 have hcd:0<c.2*d.2:=qbr c0 d0
 rw [<- Int.mul_lt_mul_right hbe,<- Int.mul_lt_mul_right (b:=t*e) (c:=u*b) hcd]
 have e1:c.1*d.2*(b*e)=t*e*(c.2*d.2):=by
  have:c.1*d.2*(b*e)=c.1*b*(d.2*e):=by grind
  rw [this,c1];grind
 have e2:d.1*c.2*(b*e)=u*b*(c.2*d.2):=by
  have:d.1*c.2*(b*e)=d.1*e*(c.2*b):=by grind
  rw [this,d1];grind
 rw [e1,e2]
structure Wi (cs:List (Int×Int)):Prop where
 two:2<=cs.length
 most:cs.length<=40
 asc:cs.Pairwise fun a b=>a.1<b.1
 bd:∀ c∈cs,Bd 170 c.1/\Bd 190 c.2
def zjG (cs:List (Int×Int)):Int:=(cs.getD 0 (0,0)).1
def ziq (cs:List (Int×Int)):Int:=(cs.getD (cs.length-1) (0,0)).1
def OnG (cs:List (Int×Int))(p:Int×Int):Prop:=zjG cs*p.2<=p.1/\p.1<=ziq cs*p.2
def zir:List (Int×Int)->Int×Int->Option ((Int×Int)×(Int×Int))
 | a::b::r,p=>if p.1<=b.1*p.2 then some (a,b) else zir (b::r) p
 | _,_=>none
theorem seg_at:∀ {cs:List (Int×Int)} {p:Int×Int} {k:Nat} {a b:Int×Int},cs[k]?=some a->cs[k+1]?=some b->p.1<=b.1*p.2->(∀ j c,1<=j->j<=k->cs[j]?=some c->c.1*p.2<p.1)->zir cs p=some (a,b)
 | [],p,k,a,b,h,_,_,_=>by simp at h
 | [x],p,0,a,b,_,h,_,_=>by simp at h
 | [x],p,k+1,a,b,h,_,_,_=>by simp at h
 | x::y::r,p,0,a,b,h1,h2,h3,_=>by
  simp at h1 h2
  subst h1 h2
  unfold zir
  rw [if_pos h3]
 | x::y::r,p,k+1,a,b,h1,h2,h3,h4=>by
  have:=h4 1 y (by lia) (by lia) rfl
  unfold zir
  rw [if_neg (by lia)]
  exact seg_at (by simpa using h1) (by simpa using h2) h3 fun j c j1 j2 hc=>h4 (j+1) c (by lia) (by lia) (by simpa using hc)
theorem zqb:∀ {cs:List (Int×Int)} {p:Int×Int},2<=cs.length->p.1<=ziq cs*p.2->∃ k a b,cs[k]?=some a/\cs[k+1]?=some b/\p.1<=b.1*p.2/\∀ j c,1<=j->j<=k->cs[j]?=some c->c.1*p.2<p.1
 | [],p,h,_=>by simp at h
 | [x],p,h,_=>by simp at h
 | [x,y],p,_,h=>⟨0,x,y,rfl,rfl,h,fun j c j1 j2=>by lia⟩
 | x::y::z::r,p,_,h=>by
  by_cases g:p.1<=y.1*p.2
  ·exact⟨0,x,y,rfl,rfl,g,fun j c j1 j2=>by lia⟩
  ·obtain⟨k,a,b,h1,h2,h3,h4⟩:=zqb (cs:=y::z::r) (p:=p) (by simp) h
   refine⟨k+1,a,b,by simpa using h1,by simpa using h2,h3,fun j c j1 j2 hc=>?_⟩
   cases j with
   | zero=>lia
   | succ j =>
    cases j with
    | zero=>simp at hc;subst hc;lia
    | succ j=>exact h4 (j+1) c (by lia) (by lia) (by simpa using hc)
theorem zpQ {cs:List (Int×Int)}(g:Wi cs){i j:Nat}{a b:Int×Int}(hij:i<j)(ha:cs[i]?=some a)(hb:cs[j]?=some b):a.1<b.1:=by
 have h1:=zW ha
 have h2:=zW hb
 rw [qc h1] at ha
 rw [qc h2] at hb
 cases ha;cases hb
 exact qae.mp g.asc i j h1 h2 hij
theorem zo7 {cs:List (Int×Int)}(g:Wi cs):∃ a,cs[0]?=some a/\zjG cs=a.1:=by
 have:=g.two
 obtain⟨a,h⟩:∃ a,cs[0]?=some a:=⟨cs[0],qc (by lia)⟩
 exact⟨a,h,by unfold zjG;rw [qD,h];rfl⟩
theorem zrP {cs:List (Int×Int)}(g:Wi cs):∃ a,cs[cs.length-1]?=some a/\ziq cs=a.1:=by
 have:=g.two
 obtain⟨a,h⟩:∃ a,cs[cs.length-1]?=some a:=⟨cs[cs.length-1],qc (by lia)⟩
 exact⟨a,h,by unfold ziq;rw [qD,h];rfl⟩
def V7 (S:Z5)(g:D)(cs:List (Int×Int)):Prop:=∃ n l,g=.ref n/\S[n]?=some (.ins "Ground" [("corners",.ref l)])/\S[l]?=some (.lst (cs.map p2))
theorem V7.old {S T:Z5}{g:D}{cs:List (Int×Int)}(h:V7 S g cs):V7 (S++T) g cs:=let ⟨n,l,e,h1,h2⟩:=h;⟨n,l,e,Xe h1,Xe h2⟩
theorem zx6 {S:Z5}{P:D->Prop}{n l:Nat}(h:S[n]?=some (.ins "Ground" [("corners",.ref l)]))(q:P (.ref l)):∃ m c fs d,D.ref n=.ref m/\S[m]?=some (.ins c fs)/\fs.lookup ("corners":Str)=some d/\P d:=⟨n,_,_,_,rfl,h,by simp [qo],q⟩
def sdO (a b c:Int×Int):Int:=(c.2-a.2)*(b.1-a.1)-(c.1-a.1)*(b.2-a.2)
def sdI (a b c:Int×Int):Int:=if 0<(if b.1-a.1<0 then -sdO a b c else sdO a b c) then 1 else if (if b.1-a.1<0 then -sdO a b c else sdO a b c)<0 then -1 else 0
def Std (cs:List (Int×Int))(s:Int×Int):Prop:=Bd 180 s.1/\Bd 200 s.2/\OnG cs (s.1,1)/\∀ a b,zir cs (s.1,1)=some (a,b)->hvT a b (s.1,1)<=s.2*hvB a b (s.1,1)
theorem zsh {own:Nat}{fv:List Nat}{xs:List D}{ok:Z5->Prop}{g:DG}{tc:DT}{te:DE}{Z:ZP}{S:Z5}{Q:DK}(W:Nat->List D->Z5->Prop)(h0:W 0 [] S)(hok:∀ i ys S,W i ys S->ok S)(hbig:xs.length<=big)
  (step:∀ i d ys S,xs[i]?=some d->W i ys S->g d (zgD own fv Z) S fun ρ2 S2=>tc ρ2 S2 fun b S3=>if b=true then te ρ2 S3 fun y S4=>W (i+1) (ys++[y]) S4 else W (i+1) ys S3)
  (fin:∀ ys S,W xs.length ys S->New Q S ys):zoJ own fv g tc te Z Q ⟨xs,ok⟩ S:=⟨hbig,W,h0,hok,step,fin⟩
def Wk (cs:List (Int×Int))(s:Int×Int):Prop:=OnG cs (s.1,1)/\∀ a b,zir cs (s.1,1)=some (a,b)->hvT a b (s.1,1)<=s.2*hvB a b (s.1,1)
theorem Std.of {cs:List (Int×Int)}{s:Int×Int}(b1:Bd 180 s.1)(b2:Bd 200 s.2)(h:Wk cs s):Std cs s:=⟨b1,b2,h.1,h.2⟩
def nbP (cs:List (Int×Int))(x y:Int)(k:Nat):Bool:=decide (min x y<(cs.getD k (0,0)).1)&&decide ((cs.getD k (0,0)).1<max x y)
def V2 (cs:List (Int×Int))(x y:Int)(n:Nat):List Int:=((List.range n).filter (nbP cs x y)).map fun k:Nat=>(k:Int)
theorem zxB {cs:List (Int×Int)}{x y:Int}{i:Nat}(h:nbP cs x y i=true):(V2 cs x y (i+1)).map D.int=(V2 cs x y i).map D.int++[.int (i:Int)]:=by
 unfold V2
 rw [qbx,qaw,qa0 h]
 simp
theorem zsA {cs:List (Int×Int)}{x y:Int}{i:Nat}(h:nbP cs x y i=false):V2 cs x y (i+1)=V2 cs x y i:=by
 unfold V2
 rw [qbx,qaw,qa1 (by rw [h];exact qu)]
 simp
def zoX (cs:List (Int×Int))(a b:Int×Int)(k:Int):Bool:=decide (0<sdI a b (cs.getD k.toNat (0,0)))
def zjP (cs:List (Int×Int))(a b:Int×Int):Option Int:=(V2 cs a.1 b.1 cs.length).find? (zoX cs a b)
theorem znv {p:Int->Bool}:∀ {ks:List Int} {i:Nat} {k:Int},ks[i]?=some k->(∀ x∈ks.take i,p x=false)->p k=true->ks.find? p=some k
 | [],i,k,h,_,_=>by simp at h
 | x::ks,0,k,h,_,hp=>by
  have e:x=k:=by simpa using h
  rw [List.find?_cons,e,hp]
 | x::ks,i+1,k,h,hn,hp=>by
  rw [List.find?_cons,hn x (by simp)]
  exact znv (by simpa using h) (fun y hy=>hn y (by rw [List.take_succ_cons];exact qB _ hy)) hp
theorem zsX {p:Int->Bool}{ks:List Int}(hn:∀ x∈ks,p x=false):ks.find? p=none:=List.find?_eq_none.mpr fun x hx=>by rw [hn x hx];exact qu
theorem zvX {cs:List (Int×Int)}{x y k:Int}{n:Nat}(h:k∈V2 cs x y n):0<=k/\k<n:=by
 unfold V2 at h
 obtain⟨j,hj,rfl⟩:=qW.mp h
 have:=List.mem_range.mp (Wc.mp hj).1
 lia
section
variable {g:Int}{p q r s d t u v:Int×Int}
end
section
variable {cs:List (Int×Int)}{a b:Int×Int}{rp:List (Int×Int)}
end
section
variable {w h t m:Int}{cs:List (Int×Int)}
end
abbrev Yj (b:Str×(Int×Int)):D:=.tup [.str b.1,.int b.2.1,.int b.2.2]
def abc:List Nat:=List.range' 97 26
theorem zvQ:("abcdefghijklmnopqrstuvwxyz":Str).cps.toList=abc:=by decide +kernel
theorem znB {c:Nat}:c∈abc↔97<=c/\c<=122:=by unfold abc;rw [List.mem_range'_1];lia
def Wo (z:Str):Bool:=decide (1<=z.length)&&(decide (z.length<=8)&&z.cps.toList.all fun c=>decide (c∈abc))
theorem zjB {z:Str}:Wo z=true↔1<=z.length/\z.length<=8/\∀ c∈z.cps.toList,c∈abc:=by
 unfold Wo
 rw [qG,qG,decide_eq_true_eq,decide_eq_true_eq,qaf]
 simp only [decide_eq_true_eq]
theorem zeT {z:Str}(h:Wo z=true)(k:Nat):fl k (.str z)=true:=by
  have h3:=(zjB.mp h).2.2
  have:z.cps.all (· < 0x110000)=true:=by
    rw [Array.all_eq_true']
    intro x hx
    have:=znB.mp (h3 x (Array.mem_toList_iff.mpr hx))
    simp;lia
  cases k<;>exact this
structure Vl where
 cs:List (Int×Int)
 bs:List (Str×(Int×Int))
 fs:List Fg
 hz:Option Int
 h0:Int
 h1:Int
 dl:Int
structure FgV (F:Fg):Prop where
 b:FgB F
 o:F.f<=F.l
 f:Bd 300 F.f
 l:Bd 300 F.l
structure YD (V:Vl):Prop where
 gr:Wi V.cs
 b1:1<=V.bs.length
 b12:V.bs.length<=12
 nm:∀ b∈V.bs,Wo b.1=true
 nd:(V.bs.map (·.1)).Nodup
 st:∀ b∈V.bs,Wk V.cs b.2
 bd:∀ b∈V.bs,Bd 180 b.2.1/\Bd 200 b.2.2
 f12:V.fs.length<=12
 fg:∀ F∈V.fs,FgV F
 hz:∀ z,V.hz=some z->0<=z
 hh:V.h0<=V.h1
 b0:Bd 250 V.h0
 bl:Bd 250 V.h1
 dl:0<=V.dl
abbrev vF (g b f h a l d:D):List (Str×D):=[("ground",g),("beacons",b),("fogs",f),("haze",h),("first",a),("last",l),("delay",d)]
def Xu (S:Z5)(v:D)(V:Vl):Prop:=∃ n g b f,v=.ref n/\S[n]?=some (.ins "Valley" (vF (.ref g) (.ref b) (.ref f) (Y7 V.hz) (.int V.h0) (.int V.h1) (.int V.dl)))/\V7 S (.ref g) V.cs/\S[b]?=some (.lst (V.bs.map Yj))/\S[f]?=some (.lst (V.fs.map XM))
theorem Xu.old {S T:Z5}{v:D}{V:Vl}(h:Xu S v V):Xu (S++T) v V:=let ⟨n,g,b,f,e,h1,h2,h3,h4⟩:=h;⟨n,g,b,f,e,Xe h1,h2.old,Xe h3,Xe h4⟩
section
variable {S:Z5}{P:D->Prop}{n:Nat}{g b f h a l d:D}
theorem zrJ (k:S[n]?=some (.ins "Valley" (vF g b f h a l d)))(q:P g):∃ m c fs x,D.ref n=.ref m/\S[m]?=some (.ins c fs)/\fs.lookup ("ground":Str)=some x/\P x:=⟨n,_,_,g,rfl,k,by simp [qo],q⟩
theorem zqk (k:S[n]?=some (.ins "Valley" (vF g b f h a l d)))(q:P b):∃ m c fs x,D.ref n=.ref m/\S[m]?=some (.ins c fs)/\fs.lookup ("beacons":Str)=some x/\P x:=⟨n,_,_,b,rfl,k,by rw [qo,show ((("beacons":Str)=="ground")=false) by decide +kernel];simp [qo],q⟩
theorem zv3 (k:S[n]?=some (.ins "Valley" (vF g b f h a l d)))(q:P f):∃ m c fs x,D.ref n=.ref m/\S[m]?=some (.ins c fs)/\fs.lookup ("fogs":Str)=some x/\P x:=⟨n,_,_,f,rfl,k,by rw [qo,show ((("fogs":Str)=="ground")=false) by decide +kernel];dsimp only;rw [qo,show ((("fogs":Str)=="beacons")=false) by decide +kernel];simp [qo],q⟩
theorem zu3 (k:S[n]?=some (.ins "Valley" (vF g b f h a l d)))(q:P h):∃ m c fs x,D.ref n=.ref m/\S[m]?=some (.ins c fs)/\fs.lookup ("haze":Str)=some x/\P x:=⟨n,_,_,h,rfl,k,by rw [qo,show ((("haze":Str)=="ground")=false) by decide +kernel];dsimp only;rw [qo,show ((("haze":Str)=="beacons")=false) by decide +kernel];dsimp only;rw [qo,show ((("haze":Str)=="fogs")=false) by decide +kernel];simp [qo],q⟩
theorem ztJ (k:S[n]?=some (.ins "Valley" (vF g b f h a l d)))(q:P a):∃ m c fs x,D.ref n=.ref m/\S[m]?=some (.ins c fs)/\fs.lookup ("first":Str)=some x/\P x:=⟨n,_,_,a,rfl,k,by rw [qo,show ((("first":Str)=="ground")=false) by decide +kernel];dsimp only;rw [qo,show ((("first":Str)=="beacons")=false) by decide +kernel];dsimp only;rw [qo,show ((("first":Str)=="fogs")=false) by decide +kernel];dsimp only;rw [qo,show ((("first":Str)=="haze")=false) by decide +kernel];simp [qo],q⟩
theorem zvC (k:S[n]?=some (.ins "Valley" (vF g b f h a l d)))(q:P l):∃ m c fs x,D.ref n=.ref m/\S[m]?=some (.ins c fs)/\fs.lookup ("last":Str)=some x/\P x:=⟨n,_,_,l,rfl,k,by rw [qo,show ((("last":Str)=="ground")=false) by decide +kernel];dsimp only;rw [qo,show ((("last":Str)=="beacons")=false) by decide +kernel];dsimp only;rw [qo,show ((("last":Str)=="fogs")=false) by decide +kernel];dsimp only;rw [qo,show ((("last":Str)=="haze")=false) by decide +kernel];dsimp only;rw [qo,show ((("last":Str)=="first")=false) by decide +kernel];simp [qo],q⟩
theorem ztu (k:S[n]?=some (.ins "Valley" (vF g b f h a l d)))(q:P d):∃ m c fs x,D.ref n=.ref m/\S[m]?=some (.ins c fs)/\fs.lookup ("delay":Str)=some x/\P x:=⟨n,_,_,d,rfl,k,by rw [qo,show ((("delay":Str)=="ground")=false) by decide +kernel];dsimp only;rw [qo,show ((("delay":Str)=="beacons")=false) by decide +kernel];dsimp only;rw [qo,show ((("delay":Str)=="fogs")=false) by decide +kernel];dsimp only;rw [qo,show ((("delay":Str)=="haze")=false) by decide +kernel];dsimp only;rw [qo,show ((("delay":Str)=="first")=false) by decide +kernel];dsimp only;rw [qo,show ((("delay":Str)=="last")=false) by decide +kernel];simp [qo],q⟩
end
theorem zeM {bs:List (Str×(Int×Int))}{i:Nat}{d:D}(h:(bs.map Yj)[i]?=some d):∃ b,bs[i]?=some b/\d=Yj b:=by
 rw [qi] at h
 cases e:bs[i]? with
 | none=>rw [e] at h;cases h
 | some p=>rw [e] at h;cases h;exact⟨p,rfl,rfl⟩
def zim (f:Str×(Int×Int)->D):D->D
 | .tup [.str z,.int a,.int b]=>f (z,a,b)
 | d=>d
theorem zdB (f:Str×(Int×Int)->D)(bs:List (Str×(Int×Int))):(bs.map Yj).map (zim f)=bs.map f:=by rw [qY];rfl
def sqr (a b:Int×Int):Int:=(b.1-a.1)*(b.1-a.1)+(b.2-a.2)*(b.2-a.2)
def hzy (z:Option Int)(q:Int):Bool:=match z with
 | some z=>decide (z<q)
 | none=>false
def zhw (V:Vl)(a b:Int×Int):D:=match zjP V.cs a b with
 | some k=>.tup [.str "ground",.int k]
 | none=>if hzy V.hz (sqr a b)=true then .tup [.str "haze",.int (sqr a b)] else .non
def Alw (V:Vl)(a b:Int×Int):Prop:=zjP V.cs a b=none/\hzy V.hz (sqr a b)=false
theorem zkL {V:Vl}{a b:Int×Int}:zhw V a b=.non↔Alw V a b:=by
 unfold zhw Alw
 cases zjP V.cs a b with
 | some k=>simp
 | none =>
  cases h:hzy V.hz (sqr a b) with
  | true=>simp
  | false=>simp
def zro (V:Vl)(a b:Int×Int)(h:Int):Prop:=Alw V a b/\¬ ∃ F∈V.fs,zeJ F a.1 a.2 b.1 b.2 h
structure zfT (V:Vl)(n m:Str)(s t:Int×Int)(ms:List (Int×Int)):Prop where
 ok:Zn ms
 iff:∀ h,ms.any (Zu h)=true↔V.h0<=h/\h<=V.h1/\(n=m\/zro V s t h)
 len:ms.length<=14
theorem zfO {V:Vl}(ok:YD V){b c:Str×(Int×Int)}(hb:b∈V.bs)(hc:c∈V.bs)(e:b.1=c.1):b=c:=by
 obtain⟨i,hi,rfl⟩:=qT.mp hb
 obtain⟨j,hj,rfl⟩:=qT.mp hc
 have nd:=qae.mp ok.nd
 rcases Nat.lt_trichotomy i j with h | h | h
 ·exact absurd (by rw [qai,qai];exact e) (nd i j (by simpa using hi) (by simpa using hj) h)
 ·subst h;rfl
 ·exact absurd (by rw [qai,qai];exact e.symm) (nd j i (by simpa using hj) (by simpa using hi) h)
theorem ziL {V:Vl}(ok:YD V){i j:Nat}{b c:Str×(Int×Int)}(hb:V.bs[i]?=some b)(hc:V.bs[j]?=some c):b.1=c.1↔i=j:=by
 have li:=zW hb
 have lj:=zW hc
 rw [qc li] at hb
 rw [qc lj] at hc
 cases hb;cases hc
 have nd:=qae.mp ok.nd
 constructor
 ·intro e
  rcases Nat.lt_trichotomy i j with h | h | h
  ·exact absurd (by rw [qai,qai];exact e) (nd i j (by simpa using li) (by simpa using lj) h)
  ·exact h
  ·exact absurd (by rw [qai,qai];exact e.symm) (nd j i (by simpa using lj) (by simpa using li) h)
 ·rintro rfl;rfl
theorem zt8 {S A B X:Z5}(h:∃ T,A=S++T)(e:B=A++X):∃ T,B=S++T:=let ⟨T,h⟩:=h;⟨T++X,by rw [e,h,qp]⟩
theorem zrW {f:Str}{v:D}:putD f v []=[(f,v)]:=rfl
theorem X6 {f g:Str}{v x:D}{r:List (Str×D)}(h:g≠f):putD f v ((g,x)::r)=(g,x)::putD f v r:=by
 show (if g=f then _ else _)=_
 rw [if_neg h]
section
variable {g b f h a l d:D}
theorem vp2:putD "beacons" b ([("ground",g)]:List (Str×D))=([("ground",g),("beacons",b)]:List (Str×D)):=by rw [X6 (by decide +kernel)];rfl
theorem vp3:putD "fogs" f ([("ground",g),("beacons",b)]:List (Str×D))=([("ground",g),("beacons",b),("fogs",f)]:List (Str×D)):=by rw [X6 (by decide +kernel),X6 (by decide +kernel)];rfl
theorem vp4:putD "haze" h ([("ground",g),("beacons",b),("fogs",f)]:List (Str×D))=([("ground",g),("beacons",b),("fogs",f),("haze",h)]:List (Str×D)):=by rw [X6 (by decide +kernel),X6 (by decide +kernel),X6 (by decide +kernel)];rfl
theorem vp5:putD "first" a ([("ground",g),("beacons",b),("fogs",f),("haze",h)]:List (Str×D))=([("ground",g),("beacons",b),("fogs",f),("haze",h),("first",a)]:List (Str×D)):=by rw [X6 (by decide +kernel),X6 (by decide +kernel),X6 (by decide +kernel),X6 (by decide +kernel)];rfl
theorem vp6:putD "last" l ([("ground",g),("beacons",b),("fogs",f),("haze",h),("first",a)]:List (Str×D))=([("ground",g),("beacons",b),("fogs",f),("haze",h),("first",a),("last",l)]:List (Str×D)):=by rw [X6 (by decide +kernel),X6 (by decide +kernel),X6 (by decide +kernel),X6 (by decide +kernel),X6 (by decide +kernel)];rfl
theorem vp7:putD "delay" d ([("ground",g),("beacons",b),("fogs",f),("haze",h),("first",a),("last",l)]:List (Str×D))=vF g b f h a l d:=by rw [X6 (by decide +kernel),X6 (by decide +kernel),X6 (by decide +kernel),X6 (by decide +kernel),X6 (by decide +kernel),X6 (by decide +kernel)];rfl
end
theorem zea (z:Int):Y7 (some z)=.int z:=rfl
theorem zg6:Y7 none=.non:=rfl
theorem zsc {α:Type}(xs:List α){k:Int}(h0:0<=k)(h1:k<=xs.length):cutD xs none (some k)=xs.take k.toNat:=by
 unfold cutD W4
 dsimp only
 rw [if_neg (by lia),List.drop_zero,Nat.sub_zero,Nat.min_eq_left (by lia)]
theorem znk (n:Str):∀ zs:List Str,((zs.map D.str).any fun z=>eqv z (.str n))=decide (n∈zs)
 | []=>by simp
 | z::zs=>by
  rw [qI,qaN,znk n zs]
  show ((z==n)||decide (n∈zs))=decide (n∈z::zs)
  rw [qaB,qaC,beq_iff_eq,decide_eq_true_eq,decide_eq_true_eq,qg]
  exact⟨fun h=>h.imp (·.symm) id,fun h=>h.imp (·.symm) id⟩
theorem ztE {zs:List Str}(h:∀ z∈zs,fl 20 (.str z)=true):(zs.map D.str).all (fl 20)=true:=by
 rw [qaV,qaf];exact h
theorem zo1 {S:Z5}{Q:DK}{x:D}{zs:List Str}{n:Str}(hx:V1 S x (zs.map D.str))(hn:fl 20 (.str n)=true)(h:∀ z∈zs,fl 20 (.str z)=true)(q:Q (.bl (!decide (n∈zs))) S):zmx (.str n) x S Q:=.inl ⟨_,⟨_,hx,hn,ztE h,rfl⟩,by rw [znk];exact q⟩
theorem YD.flN {V:Vl}(ok:YD V):∀ z∈V.bs.map (·.1),fl 20 (.str z)=true:=fun z hz=>by
 obtain⟨b,hb,rfl⟩:=qW.mp hz
 exact zeT (ok.nm b hb) 20
def onS (p:Str->D):D->D
 | .str z=>p z
 | d=>d
theorem zjV {zs:List Str}{i:Nat}{d:D}(h:(zs.map D.str)[i]?=some d):∃ z,zs[i]?=some z/\d=.str z:=by
 rw [qi] at h
 cases e:zs[i]? with
 | none=>rw [e] at h;cases h
 | some p=>rw [e] at h;cases h;exact⟨p,rfl,rfl⟩
theorem ztm (f:Str->D)(zs:List Str):(zs.map D.str).map (onS f)=zs.map f:=by rw [qY];rfl
theorem zp4 {S:Z5}{Q:DK}{x y:Str}(fx:fl 20 (.str x)=true)(fy:fl 20 (.str y)=true)(q:Q (.bl (decide (x=y))) S):oEq (.str x) (.str y) S Q:=zur fx fy (by
 by_cases h:x=y
 ·subst h;rw [decide_eq_true rfl];exact beq_self_eq_true x
 ·rw [decide_eq_false h];exact beq_eq_false_iff_ne.mpr h) q
open Classical in
abbrev vlD (x y z:D)(V:Vl):D:=.tup [x,y,z,Y7 V.hz,.int V.h0,.int V.h1,.int V.dl]
def VlS (S:Z5)(x y z:D)(V:Vl):Prop:=Lst S x (V.cs.map p2)/\Lst S y (V.bs.map Yj)/\Lst S z (V.fs.map XM)
theorem VlS.old {S T:Z5}{x y z:D}{V:Vl}(h:VlS S x y z V):VlS (S++T) x y z V:=⟨h.1.old,h.2.1.old,h.2.2.old⟩
def onC (p:Nat->Bool):D->D
 | .str z=>.bl (p (z.cps.toList.headD 0))
 | d=>d
theorem zpM {z:Str}{i:Nat}{d:D}(h:(signs z)[i]?=some d):∃ c,z.cps.toList[i]?=some c/\d=.str ⟨#[c]⟩:=by
 unfold signs at h
 rw [qi] at h
 cases e:z.cps.toList[i]? with
 | none=>rw [e] at h;cases h
 | some p=>rw [e] at h;cases h;exact⟨p,rfl,rfl⟩
theorem zpz (p:Nat->Bool)(z:Str):(signs z).map (onC p)=(z.cps.toList.map p).map D.bl:=by
 unfold signs
 rw [qY,qY];rfl
theorem zpD (z:Str):(signs z).length=z.length:=by
 unfold signs
 rw [qb];exact qR
section
variable {see:Nat->Nat->Int->Prop}{dl:Int}{s:Nat}{h0:Int}
inductive Lt (see:Nat->Nat->Int->Prop)(dl:Int)(s:Nat)(h0:Int):Nat->Int->Prop
 | base:Lt see dl s h0 s h0
 | step {k j:Nat} {h u:Int}:Lt see dl s h0 k h->h<=u->see k j u->Lt see dl s h0 j (u+dl)
inductive Lp (see:Nat->Nat->Int->Prop)(dl:Int)(s:Nat)(h0:Int):List Nat->Nat->Int->Prop
 | base:Lp see dl s h0 [s] s h0
 | step {vs:List Nat} {k j:Nat} {h u:Int}:Lp see dl s h0 vs k h->h<=u->see k j u->j∉vs->Lp see dl s h0 (j::vs) j (u+dl)
theorem Lt.ge (hd:0<=dl){j:Nat}{h:Int}(w:Lt see dl s h0 j h):h0<=h:=by
 induction w with
 | base=>exact qw _
 | step _ hu _ ih=>lia
theorem Lp.lt {vs:List Nat}{j:Nat}{h:Int}(w:Lp see dl s h0 vs j h):Lt see dl s h0 j h:=by
 induction w with
 | base=>exact .base
 | step _ hu hs _ ih=>exact .step ih hu hs
theorem Lp.nodup {vs:List Nat}{j:Nat}{h:Int}(w:Lp see dl s h0 vs j h):vs.Nodup:=by
 induction w with
 | base=>simp
 | step _ _ _ hn ih=>exact qaJ.mpr ⟨hn,ih⟩
theorem Lp.lt_n {n:Nat}(hs:s<n)(hn:∀ k j u,see k j u->j<n){vs:List Nat}{j:Nat}{h:Int}(w:Lp see dl s h0 vs j h):∀ x∈vs,x<n:=by
 induction w with
 | base =>
  intro x hx
  have:x=s:=by simpa using hx
  lia
 | step _ _ hse _ ih =>
  intro x hx
  rcases qg.mp hx with rfl | hx
  ·exact hn _ _ _ hse
  ·exact ih x hx
theorem Lp.mem (hd:0<=dl){vs:List Nat}{k:Nat}{h:Int}(w:Lp see dl s h0 vs k h):∀ x∈vs,∃ vs' hx,Lp see dl s h0 vs' x hx/\hx<=h:=by
 induction w with
 | base =>
  intro x hx
  have e:x=s:=by simpa using hx
  subst e;exact⟨_,_,.base,qw _⟩
 | step w hu hs hn ih =>
  intro x hx
  rcases qg.mp hx with rfl | hx
  ·exact⟨_,_,.step w hu hs hn,qw _⟩
  ·obtain⟨vs',hx',w',le⟩:=ih x hx
   exact⟨vs',hx',w',by lia⟩
theorem Lt.path (hd:0<=dl){j:Nat}{h:Int}(w:Lt see dl s h0 j h):∃ vs h',Lp see dl s h0 vs j h'/\h'<=h:=by
 induction w with
 | base=>exact⟨_,_,.base,qw _⟩
 | @step k j h u _ hu hs ih =>
  obtain⟨vs,h',w',le⟩:=ih
  by_cases hm:j∈vs
  ·obtain⟨vs2,h2,w2,le2⟩:=w'.mem hd j hm
   exact⟨vs2,h2,w2,by lia⟩
  ·exact⟨_,_,.step w' (by lia) hs hm,qw _⟩
theorem zlO:∀ {n:Nat} {vs:List Nat},vs.Nodup->(∀ x∈vs,x<n)->vs.length<=n:=by
 intro n vs nd h
 have:∀ {F N:List Nat},F.Nodup->(∀ x∈F,x∈N)->F.length<=N.length:=fun {F N}=>by
  induction F generalizing N with
  | nil=>intro _ _;exact qO _
  | cons x F ih =>
   intro nd h
   obtain⟨n1,n2⟩:=qaJ.mp nd
   have hx:=h x (by simp)
   have:=ih (N:=N.erase x) n2 fun y hy=>(List.mem_erase_of_ne (fun e:y=x=>n1 (e▸hy))).mpr (h y (qB _ hy))
   rw [List.length_erase_of_mem hx] at this
   have:=List.length_pos_of_mem hx
   rw [qQ];lia
 have:=this (N:=List.range n) nd fun x hx=>List.mem_range.mpr (h x hx)
 rwa [qaj] at this
structure Ear (see:Nat->Nat->Int->Prop)(dl:Int)(s:Nat)(h0:Int)(f:Nat->Option Int):Prop where
 snd:∀ j h,f j=some h->Lt see dl s h0 j h
 lst:∀ j h,Lt see dl s h0 j h->∃ h',f j=some h'/\h'<=h
theorem Ear.uniq {f g:Nat->Option Int}(a:Ear see dl s h0 f)(b:Ear see dl s h0 g)(j:Nat):f j=g j:=by
 cases hf:f j with
 | none =>
  cases hg:g j with
  | none=>rfl
  | some h =>
   obtain⟨h',e,_⟩:=a.lst j h (b.snd j h hg)
   rw [hf] at e;cases e
 | some h =>
  obtain⟨h',e,le⟩:=b.lst j h (a.snd j h hf)
  obtain⟨h2,e2,le2⟩:=a.lst j h' (b.snd j h' e)
  rw [hf] at e2;cases e2
  rw [e];exact congrArg some (by lia)
structure Rnd (see:Nat->Nat->Int->Prop)(dl:Int)(s:Nat)(h0:Int)(n r:Nat)(lit:List (Option Int)):Prop where
 len:lit.length=n
 snd:∀ (j:Nat) h,lit[j]?=some (some h)->Lt see dl s h0 j h
 prg:∀ vs j h,Lp see dl s h0 vs j h->vs.length<=r+1->∃ h',lit[j]?=some (some h')/\h'<=h
structure Swp (see:Nat->Nat->Int->Prop)(dl:Int)(s:Nat)(h0:Int)(n r:Nat)(D:Nat->Nat->Prop)(lit:List (Option Int)):Prop where
 rnd:Rnd see dl s h0 n r lit
 don:∀ k j,D k j->∀ vs h u,Lp see dl s h0 vs k h->vs.length<=r+1->h<=u->see k j u->∃ h',lit[j]?=some (some h')/\h'<=u+dl
theorem Swp.keep {n r:Nat}{D D':Nat->Nat->Prop}{lit lit':List (Option Int)}(w:Swp see dl s h0 n r D lit)(hl:lit'.length=n)(hs:∀ (j:Nat) h,lit'[j]?=some (some h)->Lt see dl s h0 j h)(hle:∀ (j:Nat) h,lit[j]?=some (some h)->∃ h',lit'[j]?=some (some h')/\h'<=h)
  (hD:∀ k j,D' k j->¬ D k j->∀ vs h u,Lp see dl s h0 vs k h->vs.length<=r+1->h<=u->see k j u->∃ h',lit'[j]?=some (some h')/\h'<=u+dl):Swp see dl s h0 n r D' lit':=by
 have up:∀ {j:Nat} {x:Int},(∃ h',lit[j]?=some (some h')/\h'<=x)->∃ h',lit'[j]?=some (some h')/\h'<=x:=fun {j x} ⟨h',e,le⟩=>by
  obtain⟨h2,e2,le2⟩:=hle j h' e
  exact⟨h2,e2,by lia⟩
 refine⟨⟨hl,hs,fun vs j h p l=>up (w.rnd.prg vs j h p l)⟩,fun k j hkj vs h u p l hu hse=>?_⟩
 by_cases z:D k j
 ·exact up (w.don k j z vs h u p l hu hse)
 ·exact hD k j hkj z vs h u p l hu hse
theorem Swp.next {n r:Nat}{D:Nat->Nat->Prop}{lit:List (Option Int)}(hs:s<n)(hn:∀ k j u,see k j u->k<n/\j<n)(w:Swp see dl s h0 n r D lit)(all:∀ k j,k<n->j<n->D k j):Rnd see dl s h0 n (r+1) lit:=by
 refine⟨w.rnd.len,w.rnd.snd,fun vs j h p l=>?_⟩
 cases p with
 | base=>exact w.rnd.prg _ _ _ .base (by simp)
 | @step vs k _ h' u p hu hse hm =>
  have:=hn _ _ _ hse
  exact w.don k j (all k j this.1 this.2) vs h' u p (by simpa using l) hu hse
theorem Rnd.ear {n:Nat}{lit:List (Option Int)}(hd:0<=dl)(hs:s<n)(hn:∀ k j u,see k j u->k<n/\j<n)(w:Rnd see dl s h0 n n lit):Ear see dl s h0 fun j=>(lit[j]?).join:=by
 refine⟨fun j h e=>w.snd j h ?_,fun j h l=>?_⟩
 ·cases e2:lit[j]? with
  | none=>rw [e2] at e;cases e
  | some o=>rw [e2] at e;have e3:o=some h:=e;rw [e3]
 ·obtain⟨vs,h',p,le⟩:=l.path hd
  have:=zlO p.nodup (p.lt_n hs fun k j u z=>(hn k j u z).2)
  obtain⟨h2,e,le2⟩:=w.prg vs j h' p (by lia)
  exact⟨h2,by show (lit[j]?).join=_;rw [e];rfl,by lia⟩
end
def Xk (xs:List Int)(h:Int):Option Int:=(xs.filter fun u=>decide (h<=u)).head?
theorem zcy {xs:List Int}(asc:xs.Pairwise (· < ·)){h u:Int}(e:Xk xs h=some u):u∈xs/\h<=u/\∀ v∈xs,h<=v->u<=v:=by
  unfold Xk at e
  have asc':=asc.sublist (List.filter_sublist (p:=fun u=>decide (h<=u)) (l:=xs))
  cases hf:xs.filter fun u=>decide (h<=u) with
  | nil=>rw [hf] at e;cases e
  | cons a r =>
    rw [hf] at e asc'
    have ea:a=u:=by simpa using e
    subst ea
    have ma:a∈xs.filter fun u=>decide (h<=u):=by rw [hf];simp
    obtain⟨m1,m2⟩:=Wc.mp ma
    refine⟨m1,of_decide_eq_true m2,fun v hv hle=>?_⟩
    have mv:v∈xs.filter fun u=>decide (h<=u):=Wc.mpr ⟨hv,decide_eq_true hle⟩
    rw [hf] at mv
    rcases qg.mp mv with rfl | mv
    . exact qw _
    . have:=(qS.mp asc').1 v mv
      lia
theorem zd3 {xs:List Int}{h:Int}(e:Xk xs h=none):∀ v∈xs,¬ h<=v:=fun v hv hle=>by
 unfold Xk at e
 rw [List.head?_eq_none_iff,qbu] at e
 exact e v hv (decide_eq_true hle)
theorem zsS {xs:List Int}(asc:xs.Pairwise (· < ·)){h:Int}{o:Option Int}(h1:∀ u,o=some u->u∈xs/\h<=u/\∀ v∈xs,h<=v->u<=v)(h2:o=none->∀ v∈xs,¬ h<=v):Xk xs h=o:=by
  cases e:Xk xs h with
  | none =>
    cases o with
    | none=>rfl
    | some u=>exact absurd (h1 u rfl).2.1 (zd3 e u (h1 u rfl).1)
  | some a =>
    obtain⟨a1,a2,a3⟩:=zcy asc e
    cases o with
    | none=>exact absurd a2 (h2 rfl a a1)
    | some u =>
      obtain⟨b1,b2,b3⟩:=h1 u rfl
      exact congrArg some (by have:=a3 u b1 b2;have:=b3 a a1 a2;lia)
theorem zhO {ms:List (Int×Int)}(ok:Zn ms){h u:Int}(e:WX ms h=some u):ms.any (Zu u)=true/\h<=u/\∀ v,ms.any (Zu v)=true->h<=v->u<=v:=by
 induction ms with
 | nil=>cases e
 | cons c r ih =>
  have e':(if h<=c.2 then some (max c.1 h) else WX r h)=some u:=e
  have lc:=ok.le c (by simp)
  have okr:Zn r:=⟨fun d hd=>ok.le d (qB _ hd),(qS.mp ok.ap).2⟩
  by_cases g:h<=c.2
  ·rw [if_pos g] at e'
   have eu:max c.1 h=u:=qA e'
   refine⟨XF.mpr ⟨c,by simp,by lia,by lia⟩,by lia,fun v hv hle=>?_⟩
   obtain⟨d,hd,d1,d2⟩:=XF.mp hv
   rcases qg.mp hd with rfl | hd
   ·lia
   ·have:=(qS.mp ok.ap).1 d hd
    lia
  ·rw [if_neg g] at e'
   obtain⟨a1,a2,a3⟩:=ih okr e'
   obtain⟨d,hd,d1,d2⟩:=XF.mp a1
   refine⟨XF.mpr ⟨d,qB _ hd,d1,d2⟩,a2,fun v hv hle=>?_⟩
   obtain⟨d',hd',d1',d2'⟩:=XF.mp hv
   rcases qg.mp hd' with rfl | hd'
   ·lia
   ·exact a3 v (XF.mpr ⟨d',hd',d1',d2'⟩) hle
theorem zh1 {ms:List (Int×Int)}{h:Int}(e:WX ms h=none):∀ v,h<=v->¬ ms.any (Zu v)=true:=by
 induction ms with
 | nil=>intro v _ z;simp at z
 | cons c r ih =>
  have e':(if h<=c.2 then some (max c.1 h) else WX r h)=none:=e
  by_cases g:h<=c.2
  ·rw [if_pos g] at e';cases e'
  ·rw [if_neg g] at e'
   intro v hle hv
   obtain⟨d,hd,d1,d2⟩:=XF.mp hv
   rcases qg.mp hd with rfl | hd
   ·lia
   ·exact ih e' v hle (XF.mpr ⟨d,hd,d1,d2⟩)
abbrev Ys (os:List (Option Int)):List D:=os.map Y7
theorem zqD {os:List (Option Int)}{k:Nat}(h:k<os.length):Y8 (Ys os) (k:Int)=some (Y7 ((os[k]?).join)):=zcB (by rw [qi,qc h];rfl)
theorem zp7 {os:List (Option Int)}{k:Nat}(h:k<os.length):X5 (Ys os).length (k:Int)=some k:=by
 unfold X5;rw [qb,if_pos (by lia),if_pos (by lia)];rfl
noncomputable def znL (V:Vl) (k j:Nat) (h:Int):Bool:=@decide (k≠j/\∃ b c,V.bs[k]?=some b/\V.bs[j]?=some c/\zro V b.2 c.2 h) (Classical.propDecidable _)
theorem zia {V:Vl}{k j:Nat}{h:Int}:znL V k j h=true↔k≠j/\∃ b c,V.bs[k]?=some b/\V.bs[j]?=some c/\zro V b.2 c.2 h:=by unfold znL;exact @decide_eq_true_iff _ (Classical.propDecidable _)
def hrs (V:Vl):List Int:=(List.range (V.h1-V.h0+1).toNat).map fun i:Nat=>V.h0+(i:Int)
theorem zux {V:Vl}{h:Int}:h∈hrs V↔V.h0<=h/\h<=V.h1:=by
 unfold hrs
 rw [qW]
 constructor
 ·rintro⟨i,hi,rfl⟩
  have:=List.mem_range.mp hi
  lia
 ·rintro⟨h0,h1⟩
  exact⟨(h-V.h0).toNat,List.mem_range.mpr (by lia),by lia⟩
theorem zua (V:Vl):(hrs V).Pairwise (· < ·):=by
  unfold hrs
  rw [List.pairwise_map]
  exact List.pairwise_lt_range.imp fun h=>by lia
noncomputable def Xp (V:Vl) (k j:Nat):List Int:=(hrs V).filter (znL V k j)
theorem zi7 {V:Vl}{k:Nat}:Xp V k k=[]:=by
 unfold Xp
 rw [qbu]
 intro h _ z
 exact (zia.mp z).1 rfl
theorem zg9 {V:Vl}{k j:Nat}{h:Int}:h∈Xp V k j↔V.h0<=h/\h<=V.h1/\znL V k j h=true:=by
 unfold Xp
 rw [Wc,zux,and_assoc]
theorem zct (V:Vl)(k j:Nat):(Xp V k j).Pairwise (· < ·):=(zua V).sublist List.filter_sublist
def XH (V:Vl)(k j:Nat)(u:Int):Prop:=u∈Xp V k j
theorem zhj {V:Vl}{k j:Nat}{u:Int}(h:XH V k j u):k<V.bs.length/\j<V.bs.length:=by
 obtain⟨_,b,c,hb,hc,_⟩:=zia.mp (zg9.mp h).2.2
 exact⟨zW hb,zW hc⟩
theorem zlA {lit:List (Option Int)}{k:Nat}{h:Int}(e:(lit[k]?).join=some h):lit[k]?=some (some h):=by
 cases e2:lit[k]? with
 | none=>rw [e2] at e;cases e
 | some o=>rw [e2] at e;have:o=some h:=e;rw [this]
theorem zgt {V:Vl}(ok:YD V){k j:Nat}{b c:Str×(Int×Int)}(hb:V.bs[k]?=some b)(hc:V.bs[j]?=some c)(hkj:k≠j){ms:List (Int×Int)}(hm:zfT V b.1 c.1 b.2 c.2 ms)(h:Int):Xk (Xp V k j) h=WX ms h:=by
 have ne:b.1≠c.1:=fun e=>hkj ((ziL ok hb hc).mp e)
 have iff:∀ u,u∈Xp V k j↔ms.any (Zu u)=true:=fun u=>by
  rw [zg9,hm.iff,zia]
  constructor
  ·rintro⟨h1,h2,_,b',c',hb',hc',z⟩
   rw [hb] at hb';rw [hc] at hc';cases hb';cases hc'
   exact⟨h1,h2,.inr z⟩
  ·rintro⟨h1,h2,z | z⟩
   ·exact absurd z ne
   ·exact⟨h1,h2,hkj,b,c,hb,hc,z⟩
 refine zsS (zct V k j) (fun u e=>?_) (fun e v hv hle=>zh1 e v hle ((iff v).mp hv))
 obtain⟨a1,a2,a3⟩:=zhO hm.ok e
 exact⟨(iff u).mpr a1,a2,fun v hv=>a3 v ((iff v).mp hv)⟩
theorem ztU {os:List (Option Int)}{i:Nat}{d:D}(h:(Ys os)[i]?=some d):i<os.length/\d=Y7 ((os[i]?).join):=by
 have h':(os.map Y7)[i]?=some d:=h
 rw [qi] at h'
 cases e:os[i]? with
 | none=>rw [e] at h';cases h'
 | some o=>rw [e] at h';cases h';exact⟨zW e,rfl⟩
theorem zjQ (z n:Str):eqv (.str z) (.str n)=decide (z=n):=by
 show (z==n)=_
 rw [qaB,beq_iff_eq,decide_eq_true_eq]
def zh9 (V:Vl)(i:Nat)(z:Str):Prop:=∃ b,V.bs[i]?=some b/\b.1=z
theorem zh9.uniq {V:Vl}(ok:YD V){i j:Nat}{z:Str}(a:zh9 V i z)(b:zh9 V j z):i=j:=by
 obtain⟨x,hx,rfl⟩:=a
 obtain⟨y,hy,e⟩:=b
 exact (ziL ok hx hy).mp e.symm
theorem zng {V:Vl}{z:Str}(h:z∈V.bs.map (·.1)):∃ i,zh9 V i z:=by
 obtain⟨b,hb,rfl⟩:=qW.mp h
 obtain⟨i,hi,e⟩:=qT.mp hb
 exact⟨i,b,by rw [qc hi,e],rfl⟩
theorem znc:∀ {r:List Pc} {p:Pc},ZX (p::r)->∃ q∈p::r,p.lo+(r.length:Int)<=q.hi
 | [],p,h=>⟨p,by simp,by have:=(h.good p (by simp)).le;simpa using this⟩
 | q::s,p,h=>by
  obtain⟨t,ht,e⟩:=znc h.tail
  have h1:=ZX.above h q (by simp)
  have h2:=(h.good p (by simp)).le
  exact⟨t,qg.mpr (.inr ht),by rw [qQ];push_cast;lia⟩
theorem znK {ps:List Pc}{a b:Int}(hr:ZX ps)(h:∀ x v,at' ps x=some v->a<=x/\x<=b):(ps.length:Int)<=max 0 (b-a+1):=by
 cases ps with
 | nil=>simp;lia
 | cons p r =>
  obtain⟨q,hq,e⟩:=znc hr
  obtain⟨i,hi,ei⟩:=qT.mp hq
  have g:=hr.good q hq
  have h1:=h q.hi _ (W5 hr (by rw [qc hi,ei]) ⟨g.le,qw _⟩)
  have h2:=h p.lo _ (zcc (hr.good p (by simp)))
  rw [qQ]
  push_cast
  lia
def WD (a:Int)(ps:List Pc):Prop:=∀ p∈ps.head?,p.lo=a
theorem WD.at {a:Int}{ps:List Pc}(hr:ZX ps)(d:WD a ps){x y v:Int}(e:at' ps y=some v)(h1:a<=x)(h2:x<=y):∃ u,at' ps x=some u/\u<=v:=by
 cases ps with
 | nil=>cases e
 | cons p r =>
  have hp:p.lo=a:=d p rfl
  obtain⟨u,hu⟩:=zeN hr e (by lia) h2
  exact⟨u,hu,zcn hr hu e h2⟩
theorem WD.of {a:Int}{ps:List Pc}(hr:ZX ps)(h0:∀ x v,at' ps x=some v->a<=x)(h1:∀ x v,at' ps x=some v->∃ u,at' ps a=some u):WD a ps:=fun p hp=>by
 cases ps with
 | nil=>cases hp
 | cons q r =>
  cases hp
  have e:=zcc (r:=r) (hr.good p (by simp))
  have g:=h0 _ _ e
  obtain⟨u,hu⟩:=h1 _ _ e
  have:=(zeB hr hu).2
  lia
theorem zi1:∀ (ms:List (Int×Int)) (h:Int),Xw ms h=WX ms h
 | [],_=>rfl
 | c::r,h=>by
  show (if h<=c.2 then some (max h c.1) else Xw r h)=if h<=c.2 then some (max c.1 h) else WX r h
  rw [zi1 r h,show max h c.1=max c.1 h by lia]
structure Xh (V:Vl)(s:Nat)(f:Nat->List Pc):Prop where
 isR:∀ j,ZX (f j)
 dom:∀ j x v,at' (f j) x=some v->V.h0<=x/\x<=V.h1
 dwn:∀ j,WD V.h0 (f j)
 snd:∀ j x v,at' (f j) x=some v->Lt (XH V) V.dl s x j v
 st:∀ x,V.h0<=x->x<=V.h1->at' (f s) x=some x
structure zdv (V:Vl)(k j:Nat)(ps:List Pc):Prop where
  isR:ZX ps
  led:∀ x,at' ps x=if V.h0<=x then (if k=j then (if x<=V.h1 then some (x+V.dl) else none) else (Xk (Xp V k j) x).map (· + V.dl)) else none
  len:ps.length<=28
theorem zf7.stp {V:Vl}(ok:YD V){b c:Str×(Int×Int)}{k j:Nat}(hb:V.bs[k]?=some b)(hc:V.bs[j]?=some c){ms:List (Int×Int)}{ps:List Pc}(hm:zfT V b.1 c.1 b.2 c.2 ms)(i:ZX ps)(l:ps.length<=2*ms.length)(led:∀ h,at' ps h=if V.h0<=h then (Xw ms h).map (· + V.dl) else none):zdv V k j ps:=by
  refine⟨i,fun x=>?_,by have:=hm.len;lia⟩
  rw [led,zi1]
  by_cases h0:V.h0<=x
  . rw [if_pos h0,if_pos h0]
    by_cases e:k=j
    . subst e
      rw [hb] at hc;cases hc
      rw [if_pos rfl]
      cases hf:WX ms x with
      | none =>
        have:=zh1 hf x (qw _)
        rw [hm.iff] at this
        rw [if_neg (fun g=>this ⟨h0,g,.inl rfl⟩)];rfl
      | some u =>
        obtain⟨h1,h2,h3⟩:=zhO hm.ok hf
        have h4:=(hm.iff u).mp h1
        have h5:=h3 x ((hm.iff x).mpr ⟨h0,by lia,.inl rfl⟩) (qw _)
        rw [if_pos (by lia),show u=x by lia];rfl
    . rw [if_neg e,zgt ok hb hc e hm x]
  . rw [if_neg h0,if_neg h0]
structure Rlx (f:Nat->List Pc)(k j:Nat)(ps r:List Pc):Prop where
 isR:ZX r
 is:∀ x v,at' r x=some v->at' (f j) x=some v\/∃ w,at' (f k) x=some w/\at' ps w=some v/\∀ v',at' (f j) x=some v'->v<=v'
 old:∀ x v,at' (f j) x=some v->∃ v',at' r x=some v'/\v'<=v
 new:∀ x w v,at' (f k) x=some w->at' ps w=some v->∃ v',at' r x=some v'/\v'<=v
theorem Xh.ge {V:Vl}{s:Nat}{f:Nat->List Pc}(hd:0<=V.dl)(H:Xh V s f){j:Nat}{x v:Int}(e:at' (f j) x=some v):x<=v:=(H.snd j x v e).ge hd
theorem Xh.relax {V:Vl}{s:Nat}{f:Nat->List Pc}{k j:Nat}{ps r:List Pc}(hd:0<=V.dl)(H:Xh V s f)(sp:zdv V k j ps)(R:Rlx f k j ps r):Xh V s (fun a=>if a=j then r else f a):=by
 have dom:∀ x v,at' r x=some v->V.h0<=x/\x<=V.h1:=fun x v e=>by
  rcases R.is x v e with h | ⟨w,h,_⟩
  ·exact H.dom j x v h
  ·exact H.dom k x w h
 have stp:∀ w v,at' ps w=some v->∀ w',V.h0<=w'->w'<=w->∃ v',at' ps w'=some v':=fun w v e w' h1 h2=>by
  rw [sp.led] at e
  rw [sp.led,if_pos h1]
  rw [if_pos (show V.h0<=w by lia)] at e
  by_cases ek:k=j
  ·rw [if_pos ek] at e ⊢
   by_cases g:w<=V.h1
   ·exact⟨_,by rw [if_pos (by lia)]⟩
   ·rw [if_neg g] at e;cases e
  ·rw [if_neg ek] at e ⊢
   cases hf:Xk (Xp V k j) w with
   | none=>rw [hf] at e;cases e
   | some u =>
    obtain⟨m0,g0,_⟩:=zcy (zct V k j) hf
    cases hf':Xk (Xp V k j) w' with
    | none=>exact absurd (show w'<=u by lia) (zd3 hf' u m0)
    | some u'=>exact⟨_,rfl⟩
 refine⟨fun a=>?_,fun a x v e=>?_,fun a=>?_,fun a x v e=>?_,fun x h0 h1=>?_⟩
 ·split
  ·exact R.isR
  ·exact H.isR a
 ·split at e
  ·exact dom x v e
  ·exact H.dom a x v e
 ·split
  ·refine WD.of R.isR (fun x v e=>(dom x v e).1) fun x v e=>?_
   have h0:=dom x v e
   rcases R.is x v e with h | ⟨w,h,h',_⟩
   ·obtain⟨u,hu,_⟩:=(H.dwn j).at (H.isR j) h (qw _) h0.1
    obtain⟨v',hv',_⟩:=R.old _ u hu
    exact⟨v',hv'⟩
   ·obtain⟨u,hu,le⟩:=(H.dwn k).at (H.isR k) h (qw _) h0.1
    obtain⟨v1,hv1⟩:=stp w v h' u (by have:=H.ge hd hu;lia) le
    obtain⟨v',hv',_⟩:=R.new _ u v1 hu hv1
    exact⟨v',hv'⟩
  ·exact H.dwn a
 ·split at e
  ·rename_i ea
   subst ea
   rcases R.is x v e with h | ⟨w,h,h',low⟩
   ·exact H.snd a x v h
   ·have lw:=H.snd k x w h
    have hw:V.h0<=w:=by have:=(H.dom k x w h).1;have:=H.ge hd h;lia
    rw [sp.led,if_pos hw] at h'
    by_cases ek:k=a
    ·subst ek
     rw [if_pos rfl] at h'
     by_cases g:w<=V.h1
     ·rw [if_pos g] at h'
      have ev:w+V.dl=v:=qA h'
      have:=low w h
      have e2:v=w:=by lia
      rw [e2];exact lw
     ·rw [if_neg g] at h';cases h'
    ·rw [if_neg ek] at h'
     cases hf:Xk (Xp V k a) w with
     | none=>rw [hf] at h';cases h'
     | some u =>
      rw [hf] at h'
      have ev:u+V.dl=v:=qA h'
      obtain⟨m0,g0,_⟩:=zcy (zct V k a) hf
      rw [<- ev];exact .step lw g0 m0
  ·exact H.snd a x v e
 ·split
  ·rename_i es
   subst es
   obtain⟨v',hv',le⟩:=R.old x x (H.st x h0 h1)
   have:x<=v':=by
    rcases R.is x v' hv' with h | ⟨w,h,h',_⟩
    ·exact H.ge hd h
    ·have g1:=H.ge hd h
     rw [sp.led,if_pos (by lia)] at h'
     by_cases ek:k=s
     ·rw [if_pos ek] at h'
      by_cases g:w<=V.h1
      ·rw [if_pos g] at h';have:=qA h';lia
      ·rw [if_neg g] at h';cases h'
     ·rw [if_neg ek] at h'
      cases hf:Xk (Xp V k s) w with
      | none=>rw [hf] at h';cases h'
      | some u =>
       rw [hf] at h'
       have ev:u+V.dl=v':=qA h'
       have:=(zcy (zct V k s) hf).2.1
       lia
   rw [hv',show v'=x by lia]
  ·exact H.st x h0 h1
def zrS (V:Vl)(f:Nat->List Pc)(k:Nat):Prop:=∀ j x w u,j<V.bs.length->k≠j->at' (f k) x=some w->Xk (Xp V k j) w=some u->∃ v',at' (f j) x=some v'/\v'<=u+V.dl
theorem Xh.low {V:Vl}{s:Nat}{f:Nat->List Pc}(H:Xh V s f)(cl:∀ k,k<V.bs.length->zrS V f k){x:Int}(h0:V.h0<=x)(h1:x<=V.h1){j:Nat}{v:Int}(l:Lt (XH V) V.dl s x j v):∃ v',at' (f j) x=some v'/\v'<=v:=by
 induction l with
 | base=>exact⟨x,H.st x h0 h1,qw _⟩
 | step l hle hs ih =>
  rename_i k j h u
  obtain⟨w,hw,le⟩:=ih
  have hlt:=zhj hs
  have hkj:k≠j:=fun e=>by
   subst e
   unfold XH at hs
   rw [zi7] at hs;cases hs
  cases hf:Xk (Xp V k j) w with
  | none=>exact absurd (show w<=u by lia) (zd3 hf u hs)
  | some u' =>
   obtain⟨_,_,least⟩:=zcy (zct V k j) hf
   obtain⟨v',hv',le'⟩:=cl k hlt.1 j x w u' hlt.2 hkj hw hf
   exact⟨v',hv',by have:=least u hs (by lia);lia⟩
theorem Xh.ear {V:Vl}{s:Nat}{f:Nat->List Pc}(H:Xh V s f)(cl:∀ k,k<V.bs.length->zrS V f k){x:Int}(h0:V.h0<=x)(h1:x<=V.h1):Ear (XH V) V.dl s x (fun j=>at' (f j) x):=⟨fun j h e=>H.snd j x h e,fun j h l=>H.low cl h0 h1 l⟩
theorem ztt {V:Vl}{s:Nat}{x:Int}(hd:0<=V.dl)(h1:x<=V.h1){j:Nat}{v:Int}(l:Lt (XH V) V.dl s x j v):v<=V.h1+V.dl:=by
 cases l with
 | base=>lia
 | step l hle hs =>
  have:=(zg9.mp hs).2.1
  lia
theorem znD {l:List Nat}{a b:Nat->Nat}(h:∀ i∈l,a i<=b i):(l.map a).sum<=(l.map b).sum:=by
 induction l with
 | nil=>simp
 | cons k r ih =>
  have h1:=h k (qg.mpr (.inl rfl))
  have h2:=ih fun i hi=>h i (qg.mpr (.inr hi))
  rw [qI,qI,List.sum_cons,List.sum_cons];lia
theorem zno {l:List Nat}{a b:Nat->Nat}(h:∀ i∈l,a i<=b i){k:Nat}(hk:k∈l)(hlt:a k<b k):(l.map a).sum<(l.map b).sum:=by
 induction l with
 | nil=>cases hk
 | cons q r ih =>
  have h1:=h q (qg.mpr (.inl rfl))
  have h2:=znD fun i hi=>h i (qg.mpr (.inr hi))
  rw [qI,qI,List.sum_cons,List.sum_cons]
  rcases qg.mp hk with rfl | hk
  ·lia
  ·have:=ih (fun i hi=>h i (qg.mpr (.inr hi))) hk;lia
def wtH (V:Vl)(ps:List Pc)(i:Nat):Nat:=match at' ps (V.h0+(i:Int)) with
 | some v=>(v-V.h0).toNat
 | none=>(V.h1-V.h0+V.dl).toNat+1
def zgL (V:Vl)(f:Nat->List Pc):Nat:=((List.range V.bs.length).map fun j=>((List.range (V.h1-V.h0+1).toNat).map (wtH V (f j))).sum).sum
theorem zsv {V:Vl}{ps qs:List Pc}{i:Nat}(bd:∀ x v,at' qs x=some v->v<=V.h1+V.dl)(h:∀ x v,at' ps x=some v->∃ v',at' qs x=some v'/\v'<=v):wtH V qs i<=wtH V ps i:=by
 unfold wtH
 cases e:at' ps (V.h0+(i:Int)) with
 | some v =>
  obtain⟨v',e',le⟩:=h _ v e
  rw [e'];dsimp only;lia
 | none =>
  cases e':at' qs (V.h0+(i:Int)) with
  | none=>exact qf _
  | some v'=>have:=bd _ v' e';dsimp only;lia
theorem Rlx.less {V:Vl}{s:Nat}{f:Nat->List Pc}{k j:Nat}{ps r:List Pc}(hd:0<=V.dl)(H:Xh V s f)(H':Xh V s (fun a=>if a=j then r else f a))(hj:j<V.bs.length)(R:Rlx f k j ps r)(ne:r≠f j):zgL V (fun a=>if a=j then r else f a)<zgL V f:=by
 have at_r:∀ x v,at' r x=some v->V.h0<=x/\x<=V.h1/\x<=v/\v<=V.h1+V.dl:=fun x v e=>by
  have e1:at' ((fun a=>if a=j then r else f a) j) x=some v:=by dsimp only;rw [if_pos rfl];exact e
  have d:=H'.dom j x v e1
  exact⟨d.1,d.2,H'.ge hd e1,ztt hd d.2 (H'.snd j x v e1)⟩
 have bd:∀ x v,at' r x=some v->v<=V.h1+V.dl:=fun x v e=>(at_r x v e).2.2.2
 obtain⟨x,hx⟩:∃ x,at' r x≠at' (f j) x:=Classical.byContradiction fun no=>ne (zc8 R.isR (H.isR j) fun h=>Classical.byContradiction fun c=>no ⟨h,c⟩)
 obtain⟨v,hv,hlt⟩:∃ v,at' r x=some v/\∀ v',at' (f j) x=some v'->v<v':=by
  cases e:at' (f j) x with
  | some v' =>
   obtain⟨v,hv,le⟩:=R.old x v' e
   refine⟨v,hv,fun v2 e2=>?_⟩
   cases e2
   rcases Int.lt_or_eq_of_le le with g | g
   ·exact g
   ·rw [hv,e,g] at hx;exact absurd rfl hx
  | none =>
   cases e2:at' r x with
   | none=>rw [e,e2] at hx;exact absurd rfl hx
   | some v=>exact⟨v,rfl,fun v' z=>by cases z⟩
 obtain⟨g0,g1,g2,g3⟩:=at_r x v hv
 unfold zgL
 refine zno (fun a _=>znD fun i _=>?_) (List.mem_range.mpr hj) (zno (fun i _=>?_) (k:=(x-V.h0).toNat) (List.mem_range.mpr (by lia)) ?_)
 ·dsimp only
  split
  ·rename_i ea
   subst ea
   exact zsv bd R.old
  ·exact qf _
 ·dsimp only;rw [if_pos rfl];exact zsv bd R.old
 ·dsimp only;rw [if_pos rfl]
  unfold wtH
  rw [show V.h0+((x-V.h0).toNat:Int)=x by lia,hv]
  cases e:at' (f j) x with
  | some v'=>have:=hlt v' e;dsimp only;lia
  | none=>dsimp only;lia
end Dp
namespace My
open PySem PySem.Spec PyProof.Rows L2
section
variable {prog:Program}{w:World}{A:Around}{E:Value->Shared->Prop}{s:Shared}
end
theorem zlX {α:Type}(xs:List α)(a:Nat):∀ m,a+m<=xs.length->((List.range m).map (a+·)).filterMap (xs[·]?)=(xs.drop a).take m
 | 0,_=>by simp
 | m+1,h=>by
  rw [qbx,qC,List.filterMap_append,zlX xs a m (by lia),List.take_succ,List.getElem?_drop]
  simp only [qI,qbh,qba,List.filterMap_nil]
  rw [qc (by lia)];rfl
theorem zyO (n:Nat)(lo hi:Option Int):Builtin.Str.strSliceIndices lo hi 1 n=(List.range (HT.sIx n n hi-HT.sIx n 0 lo)).map (HT.sIx n 0 lo+·):=by
 rw [<- sliceRange_one]
 unfold Builtin.Str.strSliceIndices
 have cl:∀ (o:Option Int) (d:Nat),(match o with | none=>(d:Int) | some i=>if (1:Int) > 0 then max 0 (min (if i<0 then i+(n:Int) else i) n) else max (-1) (min (if i<0 then i+(n:Int) else i) ((n:Int)-1)))=((HT.sIx n d o:Nat):Int):=fun o d=>by
  cases o with
  | none=>rfl
  | some i =>
   show (if (1:Int) > 0 then _ else _)=(((if i<0 then (i+n).toNat else min i.toNat n):Nat):Int)
   rw [if_pos (by decide)]
   by_cases h:i<0
   ·rw [if_pos h,if_pos h];lia
   ·rw [if_neg h,if_neg h];lia
 have h1:=cl lo 0
 have h2:=cl hi n
 simp only [show ((1:Int) > 0)=True by simp,if_true] at h1 h2 ⊢
 rw [<- h1,<- h2]
 rfl
theorem zji (n:Nat)(o:Option Int)(d:Nat)(hd:d<=n):HT.sIx n d o<=n:=by
  cases o with
  | none=>exact hd
  | some i =>
    show (if i<0 then (i+n).toNat else min i.toNat n)<=n
    split<;>lia
theorem zpw (x:Str)(lo hi:Option Int):Txt.slice x lo hi=⟨((x.cps.toList.drop (HT.sIx x.length 0 lo)).take (HT.sIx x.length x.length hi-HT.sIx x.length 0 lo)).toArray⟩:=by
 have hl:x.cps.toList.length=x.length:=qR
 have b1:=zji x.length lo 0 (qO _)
 have b2:=zji x.length hi x.length (qf _)
 unfold Txt.slice
 rw [zyO]
 have fm:((List.range (HT.sIx x.length x.length hi-HT.sIx x.length 0 lo)).map (HT.sIx x.length 0 lo+·)).filterMap (x.cps[·]?)=(x.cps.toList.drop (HT.sIx x.length 0 lo)).take (HT.sIx x.length x.length hi-HT.sIx x.length 0 lo):=by
  rcases qM (HT.sIx x.length x.length hi) (HT.sIx x.length 0 lo) with g | g
  ·rw [show HT.sIx x.length x.length hi-HT.sIx x.length 0 lo=0 by lia];simp
  ·rw [<- zlX x.cps.toList _ _ (by rw [hl];lia)]
   congr 1
   funext i
   rw [qau]
 split
 ·rename_i h
  rw [qG] at h
  have h2:=eq_of_beq h.2
  rw [qb,qaj] at h2
  have z1:HT.sIx x.length 0 lo=0:=by lia
  rw [h2,z1,List.drop_zero,qbw (by lia)]
 ·rw [fm]
def zyG:V->Option Int->Option Int->Hp->VK->Prop:=fun x lo hi H Q=>∃ z:Str,x=.str z/\z.length<=sizeLine/\Q (.str ⟨((z.cps.toList.drop (HT.sIx z.length 0 lo)).take (HT.sIx z.length z.length hi-HT.sIx z.length 0 lo)).toArray⟩) H
theorem zwm {X:Cx}:SlR X zyG:=by
 intro Z9 s U H x v vl vu lo hi sl Q I rx hs pl pu h
 obtain⟨z,rfl,hz,q⟩:=h
 obtain⟨t,rfl⟩:=rx
 refine⟨"str",_,F.slot_str_getitem.lookup,typeIs_str _ _ _,?_⟩
 have go:∀ (l u:Option (Int×Tok)),l.map (·.1)=lo->u.map (·.1)=hi->s.heap.IsSlice sl l u none->wpAny (model X.prog X.w) X.A (getItem (.str z t) (.ref sl)) (EP X Z9 U Q) X.xe s:=fun l u el eu is=>by
  refine wpAny_getItem_str_slice is rfl ?_
  unfold sliceMade slicePicked
  rw [el,eu]
  refine post_val_or_str ⟨qX (Txt.slice_le z lo hi) hz,fun t' k=>?_⟩
  show EP X Z9 U Q (.str (Txt.slice z lo hi) t') _
  rw [zpw]
  exact⟨.str _,H,I.tok _,⟨t',rfl⟩,q⟩
 obtain⟨o,ho,hc,hd⟩:=hs
 cases pl with
 | none =>
  cases pu with
  | none=>exact go none none rfl rfl ⟨o,ho,hc,hd⟩
  | int j tj=>exact go none (some (j,tj)) rfl rfl ⟨o,ho,hc,hd⟩
 | int i ti =>
  cases pu with
  | none=>exact go (some (i,ti)) none rfl rfl ⟨o,ho,hc,hd⟩
  | int j tj=>exact go (some (i,ti)) (some (j,tj)) rfl rfl ⟨o,ho,hc,hd⟩
section
open AutoSeq1 (wpAny_loadPart')
variable {prog:Program}{w:World}{A:Around}{E:Value->Shared->Prop}{s:Shared}
theorem ziS {it t:Addr}{i:Nat}{items:Array Value}{x:Value}{Q:Value->Shared->Prop}(hit:s.heap.IsTupleIter it t i)(ht:s.heap.IsTuple t items)(hx:items[i]?=some x)
  (hQ:∀ h',h'.IsTupleIter it t (i+1)->Heap.SameBut it s.heap h'->Q x { s with heap:=h' }):wpAny (model prog w) A (Builtin.SmallTypes.nextOf (.ref it)) Q E s:=by
 obtain⟨o,ho,hc,hd⟩:=id hit
 obtain⟨ol,hol,_,nl,hdl⟩:=ht
 unfold Builtin.SmallTypes.nextOf
 refine wpAny_bind (wpAny_callSpecial?_slot (name:=Str.ofString "__next__") hit.typeIs F.slot_tuple_iterator_next (wpAny_call_entry F.slot_tuple_iterator_next hit.typeIs F.entry_tuple_iterator_next ?_ (F.args_tuple_iterator_next_1 _)))
 show wpAny _ _ (field (.ref it) 0 >>= _) _ _ s
 refine wpAny_bind (wpAny_field ho hd (x:=.ref t) rfl ?_)
 show wpAny _ _ (if (Value.ref t==Value.none)=true then _ else _) _ _ s
 rw [if_neg (show ¬ ((Value.ref t==Value.none)=true) from qu)]
 show wpAny _ _ (field (.ref it) 1 >>= _) _ _ s
 refine wpAny_bind (wpAny_field ho hd (x:=.int i 0) rfl ?_)
 show wpAny _ _ (seqItems? (.ref t) >>= _) _ _ s
 refine wpAny_bind (wpAny_seqItems hol hdl ?_)
 simp only [Int.toNat_natCast,hx]
 refine wpAny_bind (wpAny_setField ho hd (by simp) (wpAny_pure ⟨x,rfl,wpAny_pure (hQ _ ?_ (Heap.SameBut.update ..))⟩))
 exact⟨_,Heap.get?_update_self _ ho (Obj.isFreed_of_fields (Obj.data_mapFields hd _)),(Obj.cls_mapFields ..).trans hc,by rw [Obj.data_mapFields hd];simp [rawInt]⟩
theorem zgM {it t:Addr}{i:Nat}{items:Array Value}{Q:Value->Shared->Prop}(hh:A.handled=none)(hit:s.heap.IsTupleIter it t i)(ht:s.heap.IsTuple t items)(hx:items[i]?=none)
  (hE:∀ h' e,Heap.ExtBut it s.heap h'->(∃ o,h'.get? e=some o/\o.cls=.type "StopIteration")->E (.ref e) { s with heap:=h' }):wpAny (model prog w) A (Builtin.SmallTypes.nextOf (.ref it)) Q E s:=by
 obtain⟨o,ho,hc,hd⟩:=id hit
 obtain⟨ol,hol,_,nl,hdl⟩:=ht
 unfold Builtin.SmallTypes.nextOf
 refine wpAny_bind (wpAny_callSpecial?_slot (name:=Str.ofString "__next__") hit.typeIs F.slot_tuple_iterator_next (wpAny_call_entry F.slot_tuple_iterator_next hit.typeIs F.entry_tuple_iterator_next ?_ (F.args_tuple_iterator_next_1 _)))
 show wpAny _ _ (field (.ref it) 0 >>= _) _ _ s
 refine wpAny_bind (wpAny_field ho hd (x:=.ref t) rfl ?_)
 show wpAny _ _ (if (Value.ref t==Value.none)=true then _ else _) _ _ s
 rw [if_neg (show ¬ ((Value.ref t==Value.none)=true) from qu)]
 show wpAny _ _ (field (.ref it) 1 >>= _) _ _ s
 refine wpAny_bind (wpAny_field ho hd (x:=.int i 0) rfl ?_)
 show wpAny _ _ (seqItems? (.ref t) >>= _) _ _ s
 refine wpAny_bind (wpAny_seqItems hol hdl ?_)
 simp only [Int.toNat_natCast,hx]
 refine wpAny_bind (wpAny_rule (wpAny_bind (wpAny_setField ho hd (by simp) ?_)))
 show wpAny _ _ (newExc (.type "StopIteration") [] >>= _) _ _ _
 refine wpAny_bind ?_
 simp only [newExc,newTuple]
 refine wpAny_bind (wpAny_newObj_type ?_ (by size_fits))
 refine wpAny_bind (m:=firstArgMember _ _) (wpAny_of_eq (a:=Value.none) (by first | rfl | (simp only [firstArgMember];rfl)) ?_)
 refine wpAny_newObj_type ?_ (by size_fits)
 simp only [raiseNew]
 refine wpAny_bind (wpAny_handled ?_)
 first | rw [show A.in1.handled=none from hh] | rw [hh]
 refine wpAny_bind (wpAny_pure (wpAny_throw ?_))
 exact hE _ _ (((Heap.SameBut.update ..).extBut.push _).push _) ⟨_,qr _ rfl,rfl⟩
theorem zvt (hh:A.handled=none)(it t:Addr)(hne:t≠it)(items:Array Value) :
  Draws prog w A it [it,t] items.size (fun i v=>items[i]?=some v) (fun i h=>h.IsTupleIter it t i/\h.IsTuple t items) where
 live:=fun _ _ st=>let ⟨o,ho,_⟩:=st.1;⟨o,ho⟩
 frame:=fun _ _ _ st hk=>⟨let ⟨o,ho,r⟩:=st.1;⟨o,hk it (by simp) o ho,r⟩,let ⟨o,ho,r⟩:=st.2;⟨o,hk t (by simp) o ho,r⟩⟩
 item:=fun i s Q E hi st hQ=>ziS st.1 st.2 (x:=items[i]) (by simp [hi]) fun h' hit' hs'=>hQ _ h' s.toks (by simp [hi]) ⟨hit',st.2.extBut hs'.extBut hne⟩ hs'
 done:=fun s Q E st hE=>zgM hh st.1 st.2 (by simp) hE
theorem zvJ (hh:A.handled=none)(it t:Addr)(items:Array Value)(i:Nat)(hx:items[i]?=none) :
  Draws prog w A it [it,t] 0 (fun _ _=>True) (fun _ h=>h.IsTupleIter it t i/\h.IsTuple t items) where
 live:=fun _ _ st=>let ⟨o,ho,_⟩:=st.1;⟨o,ho⟩
 frame:=fun _ _ _ st hk=>⟨let ⟨o,ho,r⟩:=st.1;⟨o,hk it (by simp) o ho,r⟩,let ⟨o,ho,r⟩:=st.2;⟨o,hk t (by simp) o ho,r⟩⟩
 item:=fun i s Q E hi=>absurd hi (qbe _)
 done:=fun s Q E st hE=>zgM hh st.1 st.2 hx hE
theorem newT (l:Addr)(items:Array Value)(n:Nat)(dct:Option Addr)(sl:Array (Option Value)) :
    Meets (Builtin.«enumerate.__new__» ⟨[.type "enumerate",.ref l],[]⟩) (fun _ R s=>s.heap.get? l=some { cls:=.type "tuple",dict:=dct,data:=.seq items n,slots:=sl } /\
      R (.ok (.ret (.ref (s.heap.push { cls:=.type "tuple_iterator",data:=.fields #[.ref l,.int 0 0] }).objs.size)))
        { s with heap:=(s.heap.push { cls:=.type "tuple_iterator",data:=.fields #[.ref l,.int 0 0] }).push { cls:=.type "enumerate",data:=.fields #[.none,.bool false,.ref s.heap.objs.size,rawInt 0,.none,.none] } }) :=
  .of_wp fun prog w A R s h=>by
    obtain⟨hp,g,d,tk,os⟩:=s
    obtain⟨hl,h⟩:=h
    have hsub:=sub_enumerate
    have hL:Heap.IsTuple (Shared.heap ⟨hp,g,d,tk,os⟩) l items:=⟨_,hl,rfl,n,rfl⟩
    wp_walk using wpAny_loadPart' hl
    refine wpAny_stack_any fun st=>wpAny_pure ?_
    split
    . rename_i c _ _ _ _ _
      cases (c==Value.type "enumerate")
      . wp_walk using wpAny_loadPart' hl,wpAny_pyIter_tuple hL
        exact⟨_,rfl,h⟩
      . wp_walk using wpAny_loadPart' hl,wpAny_pyIter_tuple hL
        exact⟨_,rfl,h⟩
    . wp_walk using wpAny_loadPart' hl,wpAny_pyIter_tuple hL
      exact⟨_,rfl,h⟩
theorem zxM {l:Addr}{items:Array Value}{Q:Value->Shared->Prop}(hL:s.heap.IsTuple l items)
    (h:∀ h',IsEnum h' (s.heap.objs.size+1) s.heap.objs.size 0 .none->h'.IsTupleIter s.heap.objs.size l 0->h'.objs.size=s.heap.objs.size+2 ->
      (∀ b o,s.heap.get? b=some o->h'.get? b=some o)->Q (.ref (s.heap.objs.size+1)) { s with heap:=h' }):wpAny (model prog w) A (call (.type "enumerate") [.ref l]) Q E s:=by
  obtain⟨⟨c,dct,dt,sl⟩,hl,hc,n,hd⟩:=hL
  replace hc:c=.type "tuple":=hc
  replace hd:dt=.seq items n:=hd
  subst hc hd
  refine callType_new F.called_enumerate (by decide) (F.typeCall_enumerate_1 _) (F.newCall_enumerate_1 _) (fun obj=>F.args_object_init_2 obj _) F.entry_enumerate_new (newT l items n dct sl) ⟨hl,?_⟩
  have hz:(s.heap.push { cls:=.type "tuple_iterator",data:=.fields #[.ref l,.int 0 0] }).objs.size=s.heap.objs.size+1:=qZ ..
  show _/\_
  rw [hz]
  have he : IsEnum ((s.heap.push { cls := .type "tuple_iterator", data := .fields #[.ref l, .int 0 0] }).push
      { cls:=.type "enumerate",data:=.fields #[.none,.bool false,.ref s.heap.objs.size,rawInt 0,.none,.none] }) (s.heap.objs.size+1) s.heap.objs.size 0 .none:=by
    have:=qr (s.heap.push { cls:=.type "tuple_iterator",data:=.fields #[.ref l,.int 0 0] })
      (o:={ cls:=.type "enumerate",data:=.fields #[.none,.bool false,.ref s.heap.objs.size,rawInt 0,.none,.none] }) rfl
    rw [hz] at this;exact this
  exact⟨⟨_,he,rfl⟩,h _ he ⟨_,qd _ (qr _ rfl),rfl,rfl⟩ (by rw [qZ,hz]) fun b o x=>qd _ (qd _ x)⟩
end
def zrr (K:PySem.W.Frag)(l:Addr):It :=
  ⟨fun i H=>∃ xs x,ZF K H l xs/\xs[i]?=some x,
   fun i H v H'=>∃ p,v=.ref p/\H p=none/\∀ xs x,ZF K H l xs->xs[i]?=some x->H'=upd H p (.tup [.int i,x]),
   fun i H=>∃ xs,ZF K H l xs/\xs.length<=i⟩
theorem zpi {h:Heap}{a b:Addr}{o u:Obj}(ha:h.get? a=some o)(hb:h.get? b=some u)(hc:o.cls≠u.cls):a≠b:=fun e=>by
 subst e
 rw [ha] at hb
 cases hb
 exact hc rfl
theorem zor {P:Program}{w:World}{K:PySem.W.Frag}{es:List Expr}{kk:Nat}{pos:Pos}{e it l:Addr}(hne:e≠it) :
  Turn P w K (.Tuple es kk pos) (zrr K l) [e,it] e (fun i h=>(∃ old,IsEnum h e it i old)/\h.IsTupleIter it l i) where
 mem:=by simp
 obj:=fun i h st b hb=>by
  obtain⟨⟨old,he⟩,⟨o1,h1,_,h1d⟩⟩:=st
  simp only [qg,qH,or_false] at hb
  rcases hb with rfl | rfl
  ·exact⟨_,he,fun v q=>by cases (show Data.fields _=Data.cell v from q)⟩
  ·exact⟨_,h1,fun v q=>by rw [h1d] at q;cases q⟩
 keep:=fun i h h' st k=>by
  obtain⟨⟨old,he⟩,⟨o,ho,r⟩⟩:=st
  exact⟨⟨old,k e (by simp) _ he⟩,⟨o,k it (by simp) o ho,r⟩⟩
 item:=by
  intro X hP hw hK hc i Z9 s U H E I hf st hg
  subst hP hw hK
  obtain⟨⟨old,he⟩,h1⟩:=st
  obtain⟨xs,x,hx1,hx⟩:=hg
  obtain⟨its,rx,px,zx⟩:=I.tuple hx1
  obtain⟨u,hu,ru⟩:=Vals.get rx hx
  have pt:s.heap.IsTuple l its.toArray:=px
  obtain⟨oi,ei,ci,_⟩:=id h1
  obtain⟨ol,el,cl,_⟩:=id pt
  have n1:l≠it:=zpi el ei (by rw [cl,ci];decide)
  have n2:e≠l:=zpi he el (by rw [cl];show Value.type "enumerate"≠Value.type "tuple";decide)
  have hlt:i<its.toArray.size:=by
   have:=(qP.mp hu).1
   simpa using this
  refine wpAny_pyNext_enum_itemD (zvt (A:=X.A.in1) (show X.A.in1.handled=none from I.ok.hd hc) it l n1 its.toArray) he ⟨h1,pt⟩ hlt hne (by simp [hne,n2]) fun u' h' tk hP a1 a2 a3 a4 hk=>?_
  have eu:u'=u:=by
   have hP':its.toArray[i]?=some u':=hP
   rw [qaK,hu] at hP'
   cases hP';rfl
  subst eu
  refine⟨_,rfl,wpAny_letOwnedTupleGo_enum (s:={ s with heap:=h',toks:=tk+1 }) a1 fun h'' he'' hs''=>?_⟩
  have lt:∀ {c o},s.heap.get? c=some o->s.heap.objs.size≠c:=fun q=>qan (qv q)
  have k2:∀ b u,b∉[e,it]->s.heap.get? b=some u->h''.get? b=some u:=fun b u hb q=>by
   simp only [qg,qH,or_false,not_or] at hb
   exact hs''.extBut b u hb.1 (hk b u hb.1 hb.2 q)
  have new:h''.get? s.heap.objs.size=some { cls:=.type "tuple",data:=.seq #[.int i tk,u'] }:=hs''.extBut _ _ (lt he) a3
  refine⟨.ref s.heap.objs.size,upd H s.heap.objs.size (.tup [.int i,x]),I.turnNew (t':=tk+1) hf k2 (qf _) ⟨by show 2<=sizeLine;decide,[.int i tk,u'],.cons ⟨_,rfl⟩ (.cons ru .nil),_,new,rfl,_,rfl⟩,rfl,⟨_,rfl,I.fresh,?_⟩,?_,fun b hb=>?_⟩
  ·intro xs' x' hx1' hx'
   cases I.tuple_inj hx1 hx1'
   rw [hx] at hx'
   cases hx'
   rfl
  ·exact⟨⟨_,he''⟩,a2.1.extBut hs''.extBut (Ne.symm hne)⟩
  ·have:∃ o,s.heap.get? b=some o:=by
    simp only [qg,qH,or_false] at hb
    rcases hb with rfl | rfl
    ·exact⟨_,he⟩
    ·exact⟨_,ei⟩
   obtain⟨o,q⟩:=this
   rw [zU (lt q).symm]
   exact (hf b hb).1
 done:=by
  intro X hP hw hK hc i Z9 s U H E I hf st hg
  subst hP hw hK
  obtain⟨⟨old,he⟩,h1⟩:=st
  obtain⟨xs,hx1,hl⟩:=hg
  obtain⟨its,rx,px,zx⟩:=I.tuple hx1
  have n1:=rx.length
  have pt:s.heap.IsTuple l its.toArray:=px
  have hnone:its.toArray[i]?=none:=by rw [qaK];exact qq (by lia)
  refine wpAny_pyNext_enum_endD (zvJ (A:=X.A.in1) (show X.A.in1.handled=none from I.ok.hd hc) it l its.toArray i hnone) he ⟨h1,pt⟩ fun h' hk=>⟨rfl,I.turnedL (t':=s.toks) hf fun b u hb q=>?_⟩
  simp only [qg,qH,or_false,not_or] at hb
  exact hk b u hb.2 q
 self:=fun _ _ _ _ _ st h=>by
  obtain⟨⟨old,he⟩,_⟩:=st
  exact wpAny_pyIter_enum he h
section
variable {X:Cx}
def zuC (K:PySem.W.Frag)(ta:TA):TI:=fun U H R=>ta U H fun vs H1=>∃ l,vs=[.ref l]/\(((∃ xs,Zo K H1 l xs)/\R (Ite K l) H1)\/((∃ xs,ZF K H1 l xs)/\R (zrr K l) H1))
theorem zqL {es:List Expr}{kk:Nat}{tpos:Pos}{a:Expr}{ta:TA}{p pos:Pos}(hg:Gl X "enumerate")(hm:X.mg "enumerate"=none)(ha:PA X [a] ta)(hs:starEach [a] X.env=[(false,eval a X.env)]:=by rfl) :
    PI X (.Tuple es kk tpos) (.Call (.Name "enumerate" p) [a] [] pos) (zuC X.K ta):=by
  intro Z9 s U H R I h
  refine Call_ (zdn I hg hm boot_enumerate (PyProof.Rows.callWith_type1 (Z0 (ha pos Z9 s U H _ I h) fun us s1 ⟨vs,H1,I1,r1,q1⟩=>?_) hs rfl))
  obtain⟨l,e,q⟩:=q1
  subst e
  obtain⟨u,rfl,ru⟩:=vals1 r1
  cases ru
  rcases q with ⟨⟨xs,hx⟩,q⟩ | ⟨⟨xs,hx⟩,q⟩
  . obtain⟨its,rx,px,zx⟩:=I1.list hx
    refine call_enumerate_list px.isList fun h' he hit hsz hk=>?_
    have I2:Inv X Z9 U H1 { s1 with heap:=h' }:=I1.kept (t':=s1.toks) hk
    refine wpAny_pyIter_enum (s:={ s1 with heap:=h' }) he ?_
    refine⟨_,_,_,_,H1,rfl,I2,zqC (qan (qa9 _)),⟨⟨_,he⟩,hit⟩,fun b hb=>?_,q⟩
    have hb':s1.heap.objs.size<=b:=by
      simp only [qg,qH,or_false] at hb
      rcases hb with rfl | rfl<;>first | exact qaP _ _ | exact qf _
    exact I1.fpOk hb' (I1.hok.fresh hb')
  . obtain⟨its,rx,px,zx⟩:=I1.tuple hx
    have pt:s1.heap.IsTuple l its.toArray:=px
    refine zxM pt fun h' he hit hsz hk=>?_
    have I2:Inv X Z9 U H1 { s1 with heap:=h' }:=I1.kept (t':=s1.toks) hk
    refine wpAny_pyIter_enum (s:={ s1 with heap:=h' }) he ?_
    refine⟨_,_,_,_,H1,rfl,I2,zor (qan (qa9 _)),⟨⟨_,he⟩,hit⟩,fun b hb=>?_,q⟩
    have hb':s1.heap.objs.size<=b:=by
      simp only [qg,qH,or_false] at hb
      rcases hb with rfl | rfl<;>first | exact qaP _ _ | exact qf _
    exact I1.fpOk hb' (I1.hok.fresh hb')
end
def Yw:Bool->Heap->Addr->Addr->Nat->Prop
 | true,h,it,l,k=>h.IsListIter it l k
 | false,h,it,l,k=>h.IsTupleIter it l k
def XS:Bool->Heap->Addr->Array Value->Prop
 | true,h,l,xs=>h.IsList l xs
 | false,h,l,xs=>h.IsTuple l xs
theorem Yw.grow {b:Bool}{h h':Heap}{c it l:Addr}{k:Nat}(x:Yw b h it l k)(e:Heap.ExtBut c h h')(n:it≠c):Yw b h' it l k:=by
 cases b
 ·exact Heap.IsTupleIter.extBut (show h.IsTupleIter it l k from x) e n
 ·exact Heap.IsListIter.extBut (show h.IsListIter it l k from x) e n
theorem XS.grow {b:Bool}{h h':Heap}{c l:Addr}{xs:Array Value}(x:XS b h l xs)(e:Heap.ExtBut c h h')(n:l≠c):XS b h' l xs:=by
 cases b
 ·exact Heap.IsTuple.extBut (show h.IsTuple l xs from x) e n
 ·exact Heap.IsList.extBut (show h.IsList l xs from x) e n
theorem Yw.obj {b:Bool}{h:Heap}{it l:Addr}{k:Nat}(x:Yw b h it l k):∃ o,h.get? it=some o/\(o.cls=.type "list_iterator"\/o.cls=.type "tuple_iterator")/\∃ vs,o.data=.fields vs:=by
 cases b
 ·obtain⟨o,ho,hc,hd⟩:h.IsTupleIter it l k:=x
  exact⟨o,ho,.inr hc,_,hd⟩
 ·obtain⟨o,ho,hc,hd⟩:h.IsListIter it l k:=x
  exact⟨o,ho,.inl hc,_,hd⟩
theorem Yw.at {b:Bool}{h h':Heap}{it l:Addr}{k:Nat}(x:Yw b h it l k)(e:∀ o,h.get? it=some o->h'.get? it=some o):Yw b h' it l k:=by
 cases b
 ·obtain⟨o,ho,hc,hd⟩:h.IsTupleIter it l k:=x
  exact (⟨o,e o ho,hc,hd⟩:h'.IsTupleIter it l k)
 ·obtain⟨o,ho,hc,hd⟩:h.IsListIter it l k:=x
  exact (⟨o,e o ho,hc,hd⟩:h'.IsListIter it l k)
theorem XS.lt {b:Bool}{h:Heap}{l:Addr}{xs:Array Value}(x:XS b h l xs):l<h.objs.size:=by
 cases b
 ·obtain⟨o,ho,_⟩:h.IsTuple l xs:=x
  exact qv ho
 ·obtain⟨o,ho,_⟩:h.IsList l xs:=x
  exact qv ho
section
variable {prog:Program}{w:World}{A:Around}{E:Value->Shared->Prop}{s:Shared}
theorem zf4 {b:Bool}{it t:Addr}{i:Nat}{items:Array Value}{x:Value}{Q:Value->Shared->Prop}(hit:Yw b s.heap it t i)(ht:XS b s.heap t items)(hx:items[i]?=some x)
  (hQ:∀ h',Yw b h' it t (i+1)->Heap.SameBut it s.heap h'->Q x { s with heap:=h' }):wpAny (model prog w) A (Builtin.SmallTypes.nextOf (.ref it)) Q E s:=by
 cases b
 ·exact ziS hit ht hx hQ
 ·exact wpAny_nextOf_list_item hit ht hx hQ
theorem zkH {b:Bool}{it t:Addr}{i:Nat}{items:Array Value}{Q:Value->Shared->Prop}(hh:A.handled=none)(hit:Yw b s.heap it t i)(ht:XS b s.heap t items)(hx:items[i]?=none)
  (hE:∀ h' e,Heap.ExtBut it s.heap h'->(∃ o,h'.get? e=some o/\o.cls=.type "StopIteration")->E (.ref e) { s with heap:=h' }):wpAny (model prog w) A (Builtin.SmallTypes.nextOf (.ref it)) Q E s:=by
 cases b
 ·exact zgM hh hit ht hx hE
 ·exact wpAny_nextOf_list_end hh hit ht hx hE
theorem zoi {b1 b2:Bool}{z TI TO i1 i2 l1 l2:Addr}{k:Nat}{xs ys:Array Value}{x y a b:Value}{Q:Option Value->Shared->Prop}(D:ZipApart z TI TO i1 i2 l1 l2)
  (hz:IsZip s.heap z TI TO .none) (hTI:IsPair s.heap TI (.ref i1) (.ref i2)) (hTO:IsPair s.heap TO a b) (h1:Yw b1 s.heap i1 l1 k) (h2:Yw b2 s.heap i2 l2 k) (hl1:XS b1 s.heap l1 xs) (hl2:XS b2 s.heap l2 ys) (hx:xs[k]?=some x) (hy:ys[k]?=some y)
  (hQ:∀ h',IsZip h' z TI TO (rawInt s.heap.objs.size)->IsPair h' TO x y->Yw b1 h' i1 l1 (k+1)->Yw b2 h' i2 l2 (k+1)->IsPair h' s.heap.objs.size x y ->
   (∀ c o,c≠z->c≠TO->c≠i1->c≠i2->s.heap.get? c=some o->h'.get? c=some o)->Q (some (.ref s.heap.objs.size)) { s with heap:=h' }):wpAny (model prog w) A (pyNext (.ref z)) Q E s:=by
 have hT:s.TypeIs (.ref z) "zip":=⟨_,hz,rfl⟩
 unfold pyNext
 refine wpAny_bind (wpAny_attempt (wpAny_callSpecial?_slot (name:=Str.ofString "__next__") hT F.slot_zip_next (wpAny_call_entry F.slot_zip_next hT F.entry_zip_next ?_ (F.args_zip_next_1 _))))
 show wpAny _ _ (field (.ref z) 2 >>= _) _ _ _
 refine wpAny_bind (wpAny_field hz rfl (x:=.bool false) rfl ?_);show wpAny _ _ (field (.ref z) 3 >>= _) _ _ _
 refine wpAny_bind (wpAny_field hz rfl (x:=.ref TI) rfl (wpAny_bind (wpAny_seqItems hTI rfl ?_)));show wpAny _ _ (Builtin.SmallTypes.ownedTupleIsFree (.ref z) >>= _) _ _ _
 refine wpAny_bind ?_;unfold Builtin.SmallTypes.ownedTupleIsFree
 refine wpAny_bind (wpAny_field hz rfl (x:=.none) rfl (wpAny_pure ?_));simp only [if_true]
 refine wpAny_bind (wpAny_rule (wpAny_bind (wpAny_field hz rfl (x:=.ref TO) rfl (wpAny_bind (wpAny_setField_rec hz (by simp) fun g1 z1 e1=>?_)))))
 replace z1:IsZip g1 z TI TO .ellipsis:=z1
 refine wpAny_bind ?_;simp only [List.zipIdx_cons,List.zipIdx_nil,List.forIn_cons,List.forIn_nil]
 refine wpAny_bind (wpAny_bind (wpAny_onRaise ?_));show wpAny _ _ (Builtin.SmallTypes.nextOf (.ref i1) >>= _) _ _ _
 refine wpAny_bind (zf4 (h1.grow e1.extBut D.i1z) (hl1.grow e1.extBut D.l1z) hx fun g2 t1 e2=>wpAny_pure ?_)
 have p2:IsPair g2 TO a b:=e2.extBut _ _ D.TOi1 (e1.extBut _ _ D.TOz hTO)
 refine wpAny_bind (wpAny_seqItems p2 rfl (wpAny_bind (wpAny_updateSeq_pair p2 fun g3 p3 e3=>wpAny_bind (wpAny_letGo (wpAny_pure ?_)))))
 replace p3:IsPair g3 TO x b:=p3
 refine wpAny_bind (wpAny_bind (wpAny_onRaise ?_));show wpAny _ _ (Builtin.SmallTypes.nextOf (.ref i2) >>= _) _ _ _
 refine wpAny_bind (zf4 (((h2.grow e1.extBut D.i2z).grow e2.extBut D.i12.symm).grow e3.extBut D.TOi2.symm) (((hl2.grow e1.extBut D.l2z).grow e2.extBut D.l2i1).grow e3.extBut D.l2TO) hy fun g4 t2 e4=>wpAny_pure ?_)
 have p4:IsPair g4 TO x b:=e4.extBut _ _ D.TOi2 p3
 refine wpAny_bind (wpAny_seqItems p4 rfl (wpAny_bind (wpAny_updateSeq_pair p4 fun g5 p5 e5=>wpAny_bind (wpAny_letGo (wpAny_pure (wpAny_pure ?_))))))
 replace p5:IsPair g5 TO x y:=p5
 refine wpAny_bind (wpAny_seqItems p5 rfl (wpAny_bind (wpAny_newTuple ?_)))
 have sz:g5.objs.size=s.heap.objs.size:=by rw [e5.1,e4.1,e3.1,e2.1,e1.1]
 have z5:IsZip g5 z TI TO .ellipsis:=e5.extBut _ _ D.TOz.symm (e4.extBut _ _ D.i2z.symm (e3.extBut _ _ D.TOz.symm (e2.extBut _ _ D.i1z.symm z1)))
 have k5:∀ c o,c≠z->c≠TO->c≠i1->c≠i2->s.heap.get? c=some o->g5.get? c=some o:=fun c o c1 c2 c3 c4 e=>e5.extBut _ _ c2 (e4.extBut _ _ c4 (e3.extBut _ _ c2 (e2.extBut _ _ c3 (e1.extBut _ _ c1 e))))
 have u1:Yw b1 g5 i1 l1 (k+1):=((t1.grow e3.extBut D.TOi1.symm).grow e4.extBut D.i12).grow e5.extBut D.TOi1.symm
 have u2:Yw b2 g5 i2 l2 (k+1):=t2.grow e5.extBut D.TOi2.symm
 have zl:z<g5.objs.size:=qv z5
 show wpAny _ _ (Builtin.SmallTypes.ownedTupleHandOut (.ref z) (.ref g5.objs.size) >>= _) _ _ _
 refine wpAny_bind ?_;unfold Builtin.SmallTypes.ownedTupleHandOut
 have z6:IsZip (g5.push { cls:=.type "tuple",data:=.seq #[x,y] }) z TI TO .ellipsis:=qd _ z5
 refine wpAny_bind (wpAny_setField_rec z6 (by simp) fun g7 z7 e7=>?_)
 replace z7:IsZip g7 z TI TO (rawInt g5.objs.size):=z7
 refine wpAny_setField_rec z7 (by simp) fun g8 z8 e8=>?_
 replace z8:IsZip g8 z TI TO (rawInt g5.objs.size):=z8
 have up:∀ c o,c≠z->g5.get? c=some o->g8.get? c=some o:=fun c o c1 e=>e8.extBut _ _ c1 (e7.extBut _ _ c1 (qd _ e))
 have t8:IsPair g8 g5.objs.size x y:=e8.extBut _ _ (qan zl) (e7.extBut _ _ (qan zl) (qr _ rfl))
 rw [sz] at z8 t8
 refine wpAny_pure ⟨_,rfl,wpAny_pure ?_⟩
 show Q (some (.ref g5.objs.size)) _
 rw [sz]
 exact hQ g8 z8 (up _ _ D.TOz p5) (u1.at fun o e=>up _ o D.i1z e) (u2.at fun o e=>up _ o D.i2z e) t8 fun c o c1 c2 c3 c4 e=>up c o c1 (k5 c o c1 c2 c3 c4 e)
theorem zqF {b1 b2:Bool}{z TI TO i1 i2 l1 l2:Addr}{k:Nat}{xs ys:Array Value}{a b:Value}{Q:Option Value->Shared->Prop}(hh:A.handled=none)(D:ZipApart z TI TO i1 i2 l1 l2)
  (hz:IsZip s.heap z TI TO .none) (hTI:IsPair s.heap TI (.ref i1) (.ref i2)) (hTO:IsPair s.heap TO a b) (h1:Yw b1 s.heap i1 l1 k) (h2:Yw b2 s.heap i2 l2 k) (hl1:XS b1 s.heap l1 xs) (hl2:XS b2 s.heap l2 ys) (hend:xs[k]?=none\/ys[k]?=none)
  (hQ:∀ h',(∀ c o,c≠z->c≠TO->c≠i1->c≠i2->s.heap.get? c=some o->h'.get? c=some o)->Q none { s with heap:=h' }):wpAny (model prog w) A (pyNext (.ref z)) Q E s:=by
 have hT:s.TypeIs (.ref z) "zip":=⟨_,hz,rfl⟩
 unfold pyNext
 refine wpAny_bind (wpAny_attempt (wpAny_callSpecial?_slot (name:=Str.ofString "__next__") hT F.slot_zip_next (wpAny_call_entry F.slot_zip_next hT F.entry_zip_next ?_ (F.args_zip_next_1 _))))
 have out:∀ h' e,(∀ c o,c≠z->c≠TO->c≠i1->c≠i2->s.heap.get? c=some o->h'.get? c=some o)->(∃ o,h'.get? e=some o/\o.cls=.type "StopIteration") ->
   wpAny (model prog w) A ((isInstance (.ref e) (.type "StopIteration")) >>= fun b=>if b=true then pure none else throw (.ref e)) Q E { s with heap:=h' }:=fun h' e hk he=>by
  obtain⟨o,ho,hc⟩:=he
  exact wpAny_bind (wpAny_isInstance (T:="StopIteration") (b:=true) ⟨o,ho,hc⟩ isSubtype_stop (wpAny_pure (hQ _ hk)))
 show wpAny _ _ (field (.ref z) 2 >>= _) _ _ _
 refine wpAny_bind (wpAny_field hz rfl (x:=.bool false) rfl ?_);show wpAny _ _ (field (.ref z) 3 >>= _) _ _ _
 refine wpAny_bind (wpAny_field hz rfl (x:=.ref TI) rfl (wpAny_bind (wpAny_seqItems hTI rfl ?_)));show wpAny _ _ (Builtin.SmallTypes.ownedTupleIsFree (.ref z) >>= _) _ _ _
 refine wpAny_bind ?_;unfold Builtin.SmallTypes.ownedTupleIsFree
 refine wpAny_bind (wpAny_field hz rfl (x:=.none) rfl (wpAny_pure ?_));simp only [if_true]
 refine wpAny_bind (wpAny_rule (wpAny_bind (wpAny_field hz rfl (x:=.ref TO) rfl (wpAny_bind (wpAny_setField_rec hz (by simp) fun g1 z1 e1=>?_)))))
 replace z1:IsZip g1 z TI TO .ellipsis:=z1
 refine wpAny_bind ?_;simp only [List.zipIdx_cons,List.zipIdx_nil,List.forIn_cons,List.forIn_nil]
 refine wpAny_bind (wpAny_bind (wpAny_onRaise ?_));show wpAny _ _ (Builtin.SmallTypes.nextOf (.ref i1) >>= _) _ _ _
 cases hx:xs[k]? with
 | none =>
  refine wpAny_bind (zkH hh (h1.grow e1.extBut D.i1z) (hl1.grow e1.extBut D.l1z) hx fun g2 e e2 ⟨oe,hoe,hce⟩=>?_)
  have z2:IsZip g2 z TI TO .ellipsis:=e2 _ _ D.i1z.symm z1
  have ne:e≠z:=fun q=>by subst q;rw [z2] at hoe;cases hoe;simp at hce
  exact wpAny_setField_rec z2 (by simp) fun g3 _ e3=>out g3 e (fun c o c1 _ c3 _ q=>e3.extBut _ _ c1 (e2 _ _ c3 (e1.extBut _ _ c1 q))) ⟨oe,e3.extBut _ _ ne hoe,hce⟩
 | some x =>
  have hy:ys[k]?=none:=by rcases hend with h | h;rw [hx] at h;cases h;exact h
  refine wpAny_bind (zf4 (h1.grow e1.extBut D.i1z) (hl1.grow e1.extBut D.l1z) hx fun g2 t1 e2=>wpAny_pure ?_)
  have p2:IsPair g2 TO a b:=e2.extBut _ _ D.TOi1 (e1.extBut _ _ D.TOz hTO)
  refine wpAny_bind (wpAny_seqItems p2 rfl (wpAny_bind (wpAny_updateSeq_pair p2 fun g3 p3 e3=>wpAny_bind (wpAny_letGo (wpAny_pure ?_)))))
  refine wpAny_bind (wpAny_bind (wpAny_onRaise ?_));show wpAny _ _ (Builtin.SmallTypes.nextOf (.ref i2) >>= _) _ _ _
  refine wpAny_bind (zkH hh (((h2.grow e1.extBut D.i2z).grow e2.extBut D.i12.symm).grow e3.extBut D.TOi2.symm) (((hl2.grow e1.extBut D.l2z).grow e2.extBut D.l2i1).grow e3.extBut D.l2TO) hy fun g4 e e4 ⟨oe,hoe,hce⟩=>?_)
  have z4:IsZip g4 z TI TO .ellipsis:=e4 _ _ D.i2z.symm (e3.extBut _ _ D.TOz.symm (e2.extBut _ _ D.i1z.symm z1))
  have ne:e≠z:=fun q=>by subst q;rw [z4] at hoe;cases hoe;simp at hce
  exact wpAny_setField_rec z4 (by simp) fun g5 _ e5=>out g5 e (fun c o c1 c2 c3 c4 q=>e5.extBut _ _ c1 (e4 _ _ c4 (e3.extBut _ _ c2 (e2.extBut _ _ c3 (e1.extBut _ _ c1 q))))) ⟨oe,e5.extBut _ _ ne hoe,hce⟩
end
abbrev itN (b:Bool):String:=if b=true then "list_iterator" else "tuple_iterator"
abbrev zg1 (b:Bool)(h:Heap)(l:Addr):Heap:=h.push { cls:=.type (itN b),data:=.fields #[.ref l,.int 0 0] }
abbrev zg2 (b1 b2:Bool)(h:Heap)(l1 l2:Addr):Heap:=zg1 b2 (zg1 b1 h l1) l2
abbrev zg3 (b1 b2:Bool)(h:Heap)(l1 l2:Addr):Heap:=(zg2 b1 b2 h l1 l2).push { cls:=.type "tuple",data:=.seq #[.ref h.objs.size,.ref (zg1 b1 h l1).objs.size] }
abbrev zg4 (b1 b2:Bool)(h:Heap)(l1 l2:Addr):Heap:=(zg3 b1 b2 h l1 l2).push { cls:=.type "tuple",data:=.seq #[.none,.none] }
abbrev zg5 (b1 b2:Bool)(h:Heap)(l1 l2:Addr):Heap:=(zg4 b1 b2 h l1 l2).push { cls:=.type "zip",data:=.fields #[.none,.bool false,.bool false,.ref (zg2 b1 b2 h l1 l2).objs.size,.ref (zg3 b1 b2 h l1 l2).objs.size] }
theorem XS.push {b:Bool}{h:Heap}{l:Addr}{xs:Array Value}(x:XS b h l xs)(o:Obj):XS b (h.push o) l xs:=by
 cases b
 ·obtain⟨u,hu,r⟩:h.IsTuple l xs:=x
  exact (⟨u,qd _ hu,r⟩:(h.push o).IsTuple l xs)
 ·obtain⟨u,hu,r⟩:h.IsList l xs:=x
  exact (⟨u,qd _ hu,r⟩:(h.push o).IsList l xs)
theorem zyH (b:Bool)(l1 l2:Addr)(xs ys:Array Value) :
  Meets (Builtin.«zip.__new__» ⟨[.type "zip",.ref l1,.ref l2],[]⟩) (fun _ R s=>XS b s.heap l1 xs/\XS b s.heap l2 ys/\R (.ok (.ret (.ref (zg4 b b s.heap l1 l2).objs.size))) { s with heap:=zg5 b b s.heap l1 l2 }):=by
 cases b
 ·exact .of_wp fun prog w A R s h=>by
   obtain⟨hp,g,d,tk,os⟩:=s
   obtain⟨h1,h2,h⟩:=h
   have hsub:=sub_zip
   have q1:Heap.IsTuple (Shared.heap ⟨hp,g,d,tk,os⟩) l1 xs:=h1
   have q2:Heap.IsTuple (Shared.heap ⟨hp.push { cls:=.type "tuple_iterator",data:=.fields #[.ref l1,.int 0 0] },g,d,tk,os⟩) l2 ys:=XS.push (b:=false) h2 _
   wp_walk using wpAny_pyIter_tuple q1,wpAny_pyIter_tuple q2
   exact⟨_,rfl,h⟩
 ·exact meets_zip_new l1 l2 xs ys
theorem zsK {b:Bool}{h:Heap}{it l:Addr}(e:h.get? it=some { cls:=.type (itN b),data:=.fields #[.ref l,.int 0 0] }):Yw b h it l 0:=by
 cases b
 ·exact (⟨_,e,rfl,rfl⟩:h.IsTupleIter it l 0)
 ·exact (⟨_,e,rfl,rfl⟩:h.IsListIter it l 0)
section
variable {prog:Program}{w:World}{A:Around}{E:Value->Shared->Prop}{s:Shared}
theorem zya {b:Bool}{l1 l2:Addr}{xs ys:Array Value}{Q:Value->Shared->Prop}(hl1:XS b s.heap l1 xs)(hl2:XS b s.heap l2 ys)
  (h:∀ h',IsZip h' (s.heap.objs.size+4) (s.heap.objs.size+2) (s.heap.objs.size+3) .none->IsPair h' (s.heap.objs.size+2) (.ref s.heap.objs.size) (.ref (s.heap.objs.size+1))->IsPair h' (s.heap.objs.size+3) .none .none->Yw b h' s.heap.objs.size l1 0->Yw b h' (s.heap.objs.size+1) l2 0 ->
   (∀ c o,s.heap.get? c=some o->h'.get? c=some o)->Q (.ref (s.heap.objs.size+4)) { s with heap:=h' }):wpAny (model prog w) A (call (.type "zip") [.ref l1,.ref l2]) Q E s:=by
 refine callType_new F.called_zip (by decide) (F.typeCall_zip_2 _ _) (F.newCall_zip_2 _ _) (fun obj=>F.args_object_init_3 obj _ _) F.entry_zip_new (zyH b l1 l2 xs ys) ⟨hl1,hl2,?_⟩
 have s1:(zg1 b s.heap l1).objs.size=s.heap.objs.size+1:=qZ ..
 have s2:(zg2 b b s.heap l1 l2).objs.size=s.heap.objs.size+2:=by rw [qZ,s1]
 have s3:(zg3 b b s.heap l1 l2).objs.size=s.heap.objs.size+3:=by rw [qZ,s2]
 have s4:(zg4 b b s.heap l1 l2).objs.size=s.heap.objs.size+4:=by rw [qZ,s3]
 have v1:(zg5 b b s.heap l1 l2).get? s.heap.objs.size=some _:=(fun c o q=>qd _ (qd _ (qd _ (qd _ q))):∀ c o,(zg1 b s.heap l1).get? c=some o->(zg5 b b s.heap l1 l2).get? c=some o) _ _ (qr _ rfl)
 have v2:(zg5 b b s.heap l1 l2).get? (zg1 b s.heap l1).objs.size=some _:=(fun c o q=>qd _ (qd _ (qd _ q)):∀ c o,(zg2 b b s.heap l1 l2).get? c=some o->(zg5 b b s.heap l1 l2).get? c=some o) _ _ (qr _ rfl)
 have v3:(zg5 b b s.heap l1 l2).get? (zg2 b b s.heap l1 l2).objs.size=some _:=(fun c o q=>qd _ (qd _ q):∀ c o,(zg3 b b s.heap l1 l2).get? c=some o->(zg5 b b s.heap l1 l2).get? c=some o) _ _ (qr _ rfl)
 have v4:(zg5 b b s.heap l1 l2).get? (zg3 b b s.heap l1 l2).objs.size=some _:=qd _ (qr _ rfl)
 have v5:(zg5 b b s.heap l1 l2).get? (zg4 b b s.heap l1 l2).objs.size=some _:=qr _ rfl
 show _/\_
 rw [s2,s3,s4] at v5
 rw [s1,s2] at v3
 rw [s3] at v4
 rw [s1] at v2
 rw [s4]
 exact⟨⟨_,v5,rfl⟩,h _ v5 v3 v4 (zsK v1) (zsK v2) fun c o x=>qd _ (qd _ (qd _ (qd _ (qd _ x))))⟩
end
def Wg (K:PySem.W.Frag)(b:Bool)(H:Hp)(l:Addr)(xs:List V):Prop:=match b with
 | true=>Zo K H l xs
 | false=>ZF K H l xs
theorem Wg.items {X:Cx}{Z9:List (Addr×Obj)}{U:L2.St}{H:Hp}{s:Shared}{b:Bool}{l:Addr}{xs:List V}(I:Inv X Z9 U H s)(h:Wg X.K b H l xs):∃ its:List Value,Vals xs its/\XS b s.heap l its.toArray:=by
 cases b
 ·obtain⟨its,r,p,_⟩:=I.tuple (show ZF X.K H l xs from h)
  exact⟨its,r,p⟩
 ·obtain⟨its,r,p,_⟩:=I.list (show Zo X.K H l xs from h)
  exact⟨its,r,p.isList⟩
theorem Wg.inj {X:Cx}{Z9:List (Addr×Obj)}{U:L2.St}{H:Hp}{s:Shared}{b:Bool}{l:Addr}{xs ys:List V}(I:Inv X Z9 U H s)(h:Wg X.K b H l xs)(h':Wg X.K b H l ys):xs=ys:=by
 cases b
 ·exact I.tuple_inj (show ZF X.K H l xs from h) h'
 ·exact I.list_inj (show Zo X.K H l xs from h) h'
def znN (K:PySem.W.Frag)(b1 b2:Bool)(l1 l2:Addr):It :=
  ⟨fun i H=>∃ xs ys x y,Wg K b1 H l1 xs/\Wg K b2 H l2 ys/\xs[i]?=some x/\ys[i]?=some y,
   fun i H v H'=>∃ p,v=.ref p/\H p=none/\∀ xs ys x y,Wg K b1 H l1 xs->Wg K b2 H l2 ys->xs[i]?=some x->ys[i]?=some y->H'=upd H p (.tup [x,y]),
   fun i H=>∃ xs ys,Wg K b1 H l1 xs/\Wg K b2 H l2 ys/\(xs.length<=i\/ys.length<=i)⟩
theorem zp3 {P:Program}{w:World}{K:PySem.W.Frag}{es:List Expr}{kk:Nat}{pos:Pos}{b1 b2:Bool}{z TI TO i1 i2 l1 l2:Addr}(D:ZipApart z TI TO i1 i2 l1 l2) :
  Turn P w K (.Tuple es kk pos) (znN K b1 b2 l1 l2) [z,TI,TO,i1,i2] z (fun i h=>IsZip h z TI TO .none/\IsPair h TI (.ref i1) (.ref i2)/\(∃ a b,IsPair h TO a b)/\Yw b1 h i1 l1 i/\Yw b2 h i2 l2 i) where
 mem:=by simp
 obj:=fun i h st b hb=>by
  obtain⟨hz,hTI,⟨a,c,hTO⟩,q1,q2⟩:=st
  obtain⟨o1,g1,_,_,d1⟩:=q1.obj
  obtain⟨o2,g2,_,_,d2⟩:=q2.obj
  simp only [qg,qH,or_false] at hb
  rcases hb with rfl | rfl | rfl | rfl | rfl
  ·exact⟨_,hz,fun v q=>by cases (show Data.fields _=Data.cell v from q)⟩
  ·exact⟨_,hTI,fun v q=>by cases (show Data.seq _ _=Data.cell v from q)⟩
  ·exact⟨_,hTO,fun v q=>by cases (show Data.seq _ _=Data.cell v from q)⟩
  ·exact⟨_,g1,fun v q=>by rw [d1] at q;cases q⟩
  ·exact⟨_,g2,fun v q=>by rw [d2] at q;cases q⟩
 keep:=fun i h h' st k=>by
  obtain⟨hz,hTI,⟨a,c,hTO⟩,q1,q2⟩:=st
  exact⟨k z (by simp) _ hz,k TI (by simp) _ hTI,⟨a,c,k TO (by simp) _ hTO⟩,q1.at fun o e=>k i1 (by simp) o e,q2.at fun o e=>k i2 (by simp) o e⟩
 item:=by
  intro X hP hw hK hc i Z9 s U H E I hf st hg
  subst hP hw hK
  obtain⟨hz,hTI,⟨a,c,hTO⟩,q1,q2⟩:=st
  obtain⟨xs,ys,x,y,hx1,hy1,hx,hy⟩:=hg
  obtain⟨its,rx,px⟩:=hx1.items I
  obtain⟨jts,ry,py⟩:=hy1.items I
  obtain⟨u,hu,ru⟩:=Vals.get rx hx
  obtain⟨v,hv,rv⟩:=Vals.get ry hy
  refine zoi D hz hTI hTO q1 q2 px py (by simpa using hu) (by simpa using hv) fun h' a1 a2 a3 a4 a5 hk=>?_
  refine⟨_,rfl,wpAny_letOwnedTupleGo_zip a1 fun h'' hz'' hs''=>?_⟩
  have lt:∀ {c o},s.heap.get? c=some o->s.heap.objs.size≠c:=fun e=>qan (qv e)
  have k2:∀ b u,b∉[z,TI,TO,i1,i2]->s.heap.get? b=some u->h''.get? b=some u:=fun b u hb e=>by
   simp only [qg,qH,or_false,not_or] at hb
   exact hs''.extBut b u hb.1 (hk b u hb.1 hb.2.2.1 hb.2.2.2.1 hb.2.2.2.2 e)
  have new:h''.get? s.heap.objs.size=some { cls:=.type "tuple",data:=.seq #[u,v] }:=hs''.extBut _ _ (lt hz) a5
  refine⟨.ref s.heap.objs.size,upd H s.heap.objs.size (.tup [x,y]),I.turnNew (t':=s.toks) hf k2 (qf _) ⟨by show 2<=sizeLine;decide,[u,v],.cons ru (.cons rv .nil),_,new,rfl,_,rfl⟩,rfl,⟨_,rfl,I.fresh,?_⟩,?_,fun b hb=>?_⟩
  ·intro xs' ys' x' y' hx1' hy1' hx' hy'
   cases hx1.inj I hx1'
   cases hy1.inj I hy1'
   rw [hx] at hx';rw [hy] at hy'
   cases hx';cases hy'
   rfl
  ·exact⟨hz'',hs''.extBut _ _ D.TIz (hk _ _ D.TIz D.TITO D.TIi1 D.TIi2 hTI),⟨_,_,hs''.extBut _ _ D.TOz a2⟩,a3.grow hs''.extBut D.i1z,a4.grow hs''.extBut D.i2z⟩
  ·have:∃ o,s.heap.get? b=some o:=by
    simp only [qg,qH,or_false] at hb
    obtain⟨o1,e1,_⟩:=q1.obj
    obtain⟨o2,e2,_⟩:=q2.obj
    rcases hb with rfl | rfl | rfl | rfl | rfl
    ·exact⟨_,hz⟩
    ·exact⟨_,hTI⟩
    ·exact⟨_,hTO⟩
    ·exact⟨_,e1⟩
    ·exact⟨_,e2⟩
   obtain⟨o,e⟩:=this
   rw [zU (lt e).symm]
   exact (hf b hb).1
 done:=by
  intro X hP hw hK hc i Z9 s U H E I hf st hg
  subst hP hw hK
  obtain⟨hz,hTI,⟨a,c,hTO⟩,q1,q2⟩:=st
  obtain⟨xs,ys,hx1,hy1,hl⟩:=hg
  obtain⟨its,rx,px⟩:=hx1.items I
  obtain⟨jts,ry,py⟩:=hy1.items I
  have n1:=rx.length
  have n2:=ry.length
  refine zqF (I.ok.hd hc) D hz hTI hTO q1 q2 px py ?_ fun h' hk=>⟨rfl,I.turnedL (t':=s.toks) hf fun b u hb e=>?_⟩
  ·rcases hl with hl | hl
   ·exact .inl (by rw [qaK];exact qq (by lia))
   ·exact .inr (by rw [qaK];exact qq (by lia))
  ·simp only [qg,qH,or_false,not_or] at hb
   exact hk b u hb.1 hb.2.2.1 hb.2.2.2.1 hb.2.2.2.2 e
 self:=fun _ _ _ _ _ st h=>wpAny_pyIter_zip st.1 h
section
variable {X:Cx}
def zxj (K:PySem.W.Frag)(ta:TA):TI:=fun U H R=>ta U H fun vs H1=>∃ b l1 l2,vs=[.ref l1,.ref l2]/\(∃ xs,Wg K b H1 l1 xs)/\(∃ ys,Wg K b H1 l2 ys)/\R (znN K b b l1 l2) H1
theorem zs5 {es:List Expr}{kk:Nat}{tpos:Pos}{a b:Expr}{ta:TA}{p pos:Pos}(hg:Gl X "zip")(hm:X.mg "zip"=none)(ha:PA X [a,b] ta)(hs:starEach [a,b] X.env=[(false,eval a X.env),(false,eval b X.env)]:=by rfl)(hs2:starEach [b] X.env=[(false,eval b X.env)]:=by rfl) :
    PI X (.Tuple es kk tpos) (.Call (.Name "zip" p) [a,b] [] pos) (zxj X.K ta):=by
  intro Z9 s U H R I h
  refine Call_ (zdn I hg hm boot_zip (PyProof.Rows.callWith_type1 (Z0 (ha pos Z9 s U H _ I h) fun us s1 ⟨vs,H1,I1,r1,q1⟩=>?_) (by rw [hs,hs2]) (by rw [hs2];rfl)))
  obtain⟨b',l1,l2,e,⟨xs,hx⟩,⟨ys,hy⟩,q⟩:=q1
  subst e
  obtain⟨u,v,rfl,ru,rv⟩:=vals2 r1
  cases ru
  cases rv
  obtain⟨its,rx,px⟩:=hx.items I1
  obtain⟨jts,ry,py⟩:=hy.items I1
  refine zya px py fun h' hz hTI hTO h1 h2 hk=>?_
  have I2:Inv X Z9 U H1 { s1 with heap:=h' }:=I1.kept (t':=s1.toks) hk
  refine wpAny_pyIter_zip (s:={ s1 with heap:=h' }) hz ⟨_,_,_,_,H1,rfl,I2,zp3 (PyProof.Rows.zipApart_new px.lt py.lt),⟨hz,hTI,⟨_,_,hTO⟩,h1,h2⟩,fun b hb=>?_,q⟩
  have hb':s1.heap.objs.size<=b:=by
    simp only [qg,qH,or_false] at hb
    rcases hb with rfl | rfl | rfl | rfl | rfl<;>first | exact qaP _ _ | exact qf _
  exact I1.fpOk hb' (I1.hok.fresh hb')
end
section
theorem zyz (l:Addr)(items:Array Value)(n:Nat)(b:Addr)(items2:Array Value)(n2:Nat)(dct:Option Addr)(sl:Array (Option Value))(hs0:¬(!items.isEmpty&&Builtin.List.listTooLong (items.size+items2.size))=true)(hs1:items.size<=sizeLine)(hs2:items.size+items2.size<=sizeLine+1) :
  Meets (Builtin.«list.extend» ⟨[.ref l,.ref b],[]⟩) (fun _ R s=>s.heap.get? l=some { cls:=.type "list",dict:=none,data:=.seq items n,slots:=#[] }/\s.heap.get? b=some { cls:=.type "tuple",dict:=dct,data:=.seq items2 n2,slots:=sl }/\R (.ok (.ret Value.none)) { s with heap:=s.heap.update l (Obj.mapSeq fun x=>x++items2),toks:=s.toks }) :=
 .of_wp fun prog w A R s h=>by
  obtain⟨hp,g,d,tk,os⟩:=s
  obtain⟨hl,hb,h⟩:=h
  have f1:=AutoSeq1.idx_int
  have f2:=AutoSeq1.sub_tuple_tuple
  have f3:=AutoSeq1.sub_list_list
  have f4:=AutoSeq1.sub_tuple_list
  have f5:=AutoSeq1.sub_list_tuple
  have hz':(items++items2).size<=sizeLine+1:=by rw [Array.size_append];exact hs2
  wp_walk using (wpAny_updateSeq hl rfl (hz:=hs1) (_hz':=hz')),wpAny_loadPart' hl,wpAny_loadPart' hb
  exact⟨_,rfl,h⟩
end
section
variable {X:Cx}
def zrc (K:PySem.W.Frag):V->List V->Hp->VK->Prop:=fun x vs H Q=>znj x vs H Q\/∃ l b xs zs,x=.ref l/\vs=[.ref b]/\H l=some (.lst xs)/\ZF K H b zs/\xs.length+zs.length<=sizeLine/\Q .non (upd H l (.lst (xs++zs)))
theorem zoR:MtM X "list.extend" (zrc X.K):=by
 intro Z9 s U H x vs v us Q I rx rv h
 rcases h with h | ⟨l,b,xs,zs,rfl,rfl,hH,hB,hz,q⟩
 ·exact zqe Z9 s U H x vs v us Q I rx rv h
 cases rx
 obtain⟨u,rfl,ru⟩:=rv.one
 cases ru
 obtain⟨z,its,n,r,hl,e⟩:=I.lstM hH
 obtain⟨its2,r2,⟨⟨c,dct,dt,sl⟩,e2,hc,n2,hd⟩,z2⟩:=I.tuple hB
 replace hc:c=.type "tuple":=hc
 replace hd:dt=.seq its2.toArray n2:=hd
 subst hc hd
 have hl2:=r2.length
 have hsz:its.toArray.size+its2.toArray.size<=sizeLine:=by rw [qm,qm];lia
 have hlong:¬ (!its.toArray.isEmpty&&Builtin.List.listTooLong (its.toArray.size+its2.toArray.size))=true:=by
  rw [zlh hsz,Bool.and_false]
  exact qu
 refine call_meets F.slot_list_extend ⟨_,e,rfl⟩ F.entry_list_extend (F.args_list_extend_2 _ _)
  (zyz l its.toArray n b its2.toArray n2 dct sl hlong (by rw [qm];lia) (by lia)) ⟨e,e2,?_⟩
 refine⟨.non,_,I.lset (its':=its++its2) hH e (by simp) (r.append r2) ?_,rfl,q⟩
 rw [qh]
 lia
end
section
variable {prog:Program}{w:World}{A:Around}{E:Value->Shared->Prop}{s:Shared}
end
section
variable {X:Cx}
end
section
variable {X:Cx}
end
section
variable {X:Cx}
end
section
variable {prog:Program}{w:World}{A:Around}{E:Value->Shared->Prop}{s:Shared}
end
section
variable {prog:Program}{w:World}{A:Around}{E:Value->Shared->Prop}{s:Shared}
end
section
variable {prog:Program}{w:World}{A:Around}{E:Value->Shared->Prop}{s:Shared}
end
section
variable {prog:Program}{w:World}{A:Around}{s:Shared}
abbrev zgi (prog:Program)(w:World)(h:Heap)(a:Addr)(c:List Str):Prop:=h.SetOf (PySem.strKind prog w) a (fun y=>c.any (·==y)) c.length
theorem zgi.at {h h':Heap}{a:Addr}{c:List Str}(x:zgi prog w h a c)(k:∀ o,h.get? a=some o->h'.get? a=some o):zgi prog w h' a c :=
 let ⟨o,es,ep,t,ho,r⟩:=x;⟨o,es,ep,t,k o ho,r⟩
theorem loopS {R:Result->Shared->Prop}{it a:Addr}{fp wr:List Addr}{G:Array GenState->Array GenState->Prop}{n:Nat}{P:Nat->Value->Prop}{St:Nat->Shared->Prop}
  (W:WalksS prog w A.in1 it fp wr G n P St) (na:a∉fp) (f:Nat->Str) (hf:∀ i v,P i v->∃ t,v=.str (f i) t) (hb:n+1<scanBound) :
  ∀ (k i:Nat) (s:Shared),n-i=k->i<=n->St i s->zgi prog w s.heap a (Dp.W9 f i) ->
   (∀ s',Moved (a::wr) G s s'->zgi prog w s'.heap a (Dp.W9 f n)->R (.ok (.ret .none)) s') ->
   codeAny (model prog w) A (.builtin "set.update.loop" ⟨[.ref a,.ref it],[]⟩) R s
 | 0,i,s,hk,hi,st,hS,hR=>by
  have e:i=n:=by lia
  subst e
  refine codeAny_builtin PyProof.Rows.F.entry_set_update_loop ?_
  rw [Around.under_plainId PyProof.Rows.F.plain_set_update_loop]
  show wpAny _ A.in1 (pyNext (.ref it) >>= _) _ _ _
  refine wpAny_bind (W.done s _ _ st fun s' m=>wpAny_pure (hR s' (m.mono fun b q=>qB _ q) ?_))
  exact hS.at fun o q=>m.heap a o (fun z=>na (W.sub _ z)) q
 | k+1,i,s,hk,hi,st,hS,hR=>by
  refine codeAny_builtin PyProof.Rows.F.entry_set_update_loop ?_
  rw [Around.under_plainId PyProof.Rows.F.plain_set_update_loop]
  show wpAny _ A.in1 (pyNext (.ref it) >>= _) _ _ _
  refine wpAny_bind (W.item i s _ _ (by lia) st fun v s1 pv st1 m=>?_)
  obtain⟨t,rfl⟩:=hf i v pv
  have h1:zgi prog w s1.heap a (Dp.W9 f i):=hS.at fun o q=>m.heap a o (fun z=>na (W.sub _ z)) q
  show wpAny _ A.in1 (holding [Value.str (f i) t] (setAdd a (Value.str (f i) t)) >>= _) _ _ _
  refine wpAny_bind (wpAny_holding ?_)
  unfold setAdd
  refine wpAny_holding (wpAny_bind ((PySem.strKind prog w).pyHash (k:=f i) (strKind_is _ _ _ _) ?_))
  have room:(Dp.W9 f i).length+1<scanBound:=by have:=Dp.zjC f i;lia
  refine wpAny_setAddHashed_of (knd:=PySem.strKind prog w) (s:={ s1 with toks:=s1.toks+1 }) (strKind_is _ _ _ _) rfl h1 room fun h2 sb hS2=>?_
  have h3:zgi prog w h2 a (Dp.W9 f (i+1)):=SetOf_congr hS2 (fun y=>(Dp.zlE _ _ _).symm) (Dp.zil _ _).symm
  refine wpAny_pure ⟨plainId_quiet PyProof.Rows.F.plain_set_update_loop _,loopS W na f hf hb k (i+1) _ (by lia) (by lia) (W.frame _ s1 _ _ st1 (qa4 _) fun b q o e=>?_) h3 fun s' m' hS'=>?_⟩
  ·exact (sb.2 b fun z=>na (z▸q)).trans e
  ·refine hR s' (Moved.trans W.gtrans ((m.mono fun b q=>qB _ q).then_heap (qa4 _) fun b o q e=>?_) m') hS'
   exact (sb.2 b fun z=>q (z▸qat)).trans e
end
section
variable {prog:Program}{w:World}{A:Around}{E:Value->Shared->Prop}{s:Shared}
abbrev zgR (led:Bool):Obj:={ cls:=.type "set",dict:=none,data:=.set #[] 0 (.fresh 0 0 led) }
theorem zpg {l:Addr}{its:Array Value}(f:Nat->Str){Q:Value->Shared->Prop}(hh:A.handled=none)(hl:s.heap.IsList l its)(hf:∀ (i:Nat) v,its[i]?=some v->∃ t,v=.str (f i) t)(hb:its.size+1<scanBound)
    (h:∀ (h':Heap) (tk:Nat),zgi prog w h' s.heap.objs.size (Dp.W9 f its.size)->(∀ b o,b<s.heap.objs.size->s.heap.get? b=some o->h'.get? b=some o)->Q (.ref s.heap.objs.size) { s with heap:=h',toks:=tk }) :
    wpAny (model prog w) A (call (.type "set") [.ref l]) Q E s:=by
  have ft:=F.called_set
  obtain⟨c,tl,hmro⟩:=ft.mro
  have hmade:=ft.made
  have hsub:=ft.sub
  have h1:=ft.notType
  have h2:=ft.canCreate
  have hct:=F.typeCall_set_1 (.ref l)
  refine wpAny_call (codeAny_of_tree ?_)
  show wpAny _ _ (callAny (.type "set") _) _ _ s
  refine wpAny_pure ⟨Code.quiet_builtin _ (by decide +kernel),codeAny_builtin F.entry_type_call ?_⟩
  rw [Around.under_plain (weight_type_call_type "set" [Value.ref l] []) rfl]
  repeat (any_goals (first | assumption | wp_step))
  refine codeAny_mono (code_set_new_1 (.ref l) (E:=E) (Q₁:=fun v s1=>∃ led:Bool,v=.ref s.heap.objs.size/\s1={ s with heap:=s.heap.push (zgR led) }) fun led=>⟨led,rfl,rfl⟩) fun r s1 hr=>?_
  cases r with
  | error e=>exact hr
  | ok fl =>
    cases fl with
    | ret v =>
      obtain⟨led,rfl,rfl⟩:=hr
      have e0:(s.heap.push (zgR led)).get? s.heap.objs.size=some (zgR led):=qr _ rfl
      have hT:Shared.TypeIs { s with heap:=s.heap.push (zgR led) } (.ref s.heap.objs.size) "set":=⟨_,e0,rfl⟩
      have hli:=ft.init.lookup
      have hbi:=ft.init.bind (.ref s.heap.objs.size)
      repeat (any_goals (first | assumption | wp_step))
      refine codeAny_mono (codeAny_call_builtin (R:=wants (fun r s2=>r=.none/\∃ h' tk,s2={ s with heap:=h',toks:=tk }/\zgi prog w h' s.heap.objs.size (Dp.W9 f its.size)/\∀ b o,b<s.heap.objs.size->s.heap.get? b=some o->h'.get? b=some o) E) ft.init.plain F.entry_set_init (check_set_init_1 hT ?_)) fun r2 s2 hr2=>?_
      . obtain⟨ol,hol,hcl,nl,hdl⟩:=hl
        obtain⟨ocl,odi,oda,osl⟩:=ol
        simp only at hcl hdl
        subst hcl hdl
        have hol2:(s.heap.push (zgR led)).get? l=some { cls:=.type "list",dict:=odi,data:=.seq its nl,slots:=osl }:=qd _ hol
        have k1:=F.sub_list_set
        have k2:=F.sub_list_frozenset
        have k3:(Value.type "list"==Value.type "dict")=false:=by decide
        have hl1:(s.heap.push (zgR led)).IsList l its:=⟨_,hol2,rfl,nl,rfl⟩
        unfold Builtin.«set.__init__» noKeywords Builtin.Frozenset.updateFrom
        generalize hPI:pyIter=PI
        wp_walk
        subst hPI
        refine wpAny_pyIter_list hl1 (wpAny_bind (wpAny_runValue ?_))
        have ll:l<s.heap.objs.size:=qv hol
        have n1:l≠(s.heap.push (zgR led)).objs.size:=by rw [qZ];exact qL (qa5 ll)
        have n2:s.heap.objs.size∉[(s.heap.push (zgR led)).objs.size,l]:=by
          rw [qZ]
          intro z
          rcases qg.mp z with z | z
          . exact qL (qa9 _) z
          . exact qan ll (List.mem_singleton.mp z)
        refine loopS ((Walks.list (show _=none by simp [hh]) _ l n1 its).toS) n2 f hf hb (its.size-0) 0 _ (by lia) (qO _) ⟨⟨_,qr _ rfl,rfl,rfl⟩,hl1.push _⟩ ?_ fun s' m hS'=>?_
        . exact SetOf_congr ((setObjOf_fresh (knd:=PySem.strKind prog w) led).setOf (qd _ e0) (by unfold scanBound;lia)) (fun _=>rfl) rfl
        . obtain⟨h',g',d',tk',os'⟩:=s'
          cases (show g'=s.gens from m.gens)
          cases (show d'=s.drawn from m.drawn)
          cases (show os'=s.os from m.os)
          show wpAny _ _ _ _ _ _
          refine wpAny_pure (wpAny_pure ⟨rfl,h',tk',rfl,hS',fun b o q e=>?_⟩)
          refine m.heap b o (fun z=>?_) (qd _ (qd _ e))
          rcases qg.mp z with z | z
          . exact qL q z
          . have z':=List.mem_singleton.mp z
            rw [qZ] at z'
            exact qL (qa5 q) z'
      . cases r2 with
        | error e=>exact hr2
        | ok fl2 =>
          cases fl2 with
          | ret r =>
            obtain⟨rfl,h',tk,rfl,hS',kp⟩:=hr2
            repeat (any_goals (first | assumption | wp_step))
            exact h _ _ hS' kp
          | _=>exact hr2.elim
    | _=>exact hr.elim
end
def zw9 (K:PySem.W.Frag)(ta:TA):TE:=fun U H Q=>ta U H fun vs H1=>∃ l,∃ zs:List Str,vs=[.ref l]/\Zo K H1 l (zs.map V.str)/\zs.length<=4000/\Q (.int (Dp.W9 (fun i=>zs.getD i Str.empty) zs.length).length) H1
theorem zmu:∀ {zs:List Str} {us:List Value},Vals (zs.map V.str) us->∀ (i:Nat) v,us[i]?=some v->∃ t,v=.str (zs.getD i Str.empty) t
 | [],_,.nil,i,v,e=>by simp at e
 | z::zs,_,.cons r t,0,v,e=>by
  obtain⟨t,rfl⟩:=r
  simp at e
  exact⟨t,e.symm⟩
 | z::zs,_,.cons r t,i+1,v,e=>by
  obtain⟨t,h⟩:=zmu t i v (by simpa using e)
  exact⟨t,by rw [h];simp⟩
theorem ztX {X:Cx}{a:Expr}{ta:TA}{p1 p2 pos1 pos2:Pos}(hc:X.calm=true)(hgl:Gl X "len")(hml:X.mg "len"=none)(hgr:Gl X "set")(hmr:X.mg "set"=none)(ha:PA X [a] ta)
  (hs:starEach [a] X.env=[(false,eval a X.env)]:=by rfl)
  (hs3:starEach [.Call (.Name "set" p2) [a] [] pos2] X.env=[(false,eval (.Call (.Name "set" p2) [a] [] pos2) X.env)]:=by rfl) :
  PE X (.Call (.Name "len" p1) [.Call (.Name "set" p2) [a] [] pos2] [] pos1) (zw9 X.K ta):=by
 intro Z9 s U H Q I h
 refine Call_ (zdn I hgl hml boot_len (PyProof.Rows.callWith_builtin1 ?_ (by rw [hs3];rfl) (by rfl)))
 rw [hs3]
 show wpAny _ _ (spliced ((false,eval (.Call (.Name "set" p2) [a] [] pos2) X.env)::backTo pos1 [])) _ _ s
 refine Calls.spliced_cons (Call_ (zdn I hgr hmr boot_set (PyProof.Rows.callWith_type1 (Z0 (ha pos2 Z9 s U H _ I h) fun us s1 ⟨vs,H1,I1,r1,q1⟩=>?_) hs rfl)))
 obtain⟨l,zs,e,hx,h4,q⟩:=q1
 subst e
 obtain⟨u,rfl,ru⟩:=vals1 r1
 cases ru
 obtain⟨its,rx,px,zx⟩:=I1.list hx
 have sz:its.toArray.size=zs.length:=by rw [qm,<- rx.length,qb]
 refine zpg (fun i=>zs.getD i Str.empty) (show _=none from I1.ok.hd hc) px.isList (fun i v e=>zmu rx i v (by simpa using e)) (by rw [sz];unfold scanBound;lia) fun h' tk hS kp=>Calls.spliced_nil ?_
 rw [sz] at hS
 have le:=Dp.zjC (fun i=>zs.getD i Str.empty) zs.length
 obtain⟨o,es,ep,t,ho,hex,hd,_,_,_,hf,hn⟩:=hS
 refine call_len_set ho hex hd hf (by lia) ?_
 rw [hn]
 exact⟨.int _,H1,I1.kept (t':=tk+1+1) (fun b o q=>kp b o (qv q) q),⟨_,rfl⟩,q⟩
end My
namespace Dp
open PySem PySem.Spec PyProof.Rows L2 My
def isStar:Expr->Bool
 | .Starred _ _=>true
 | _=>false
theorem zbq {e:Expr}{es:List Expr}{env:Env}(h:isStar e=false):starEach (e::es) env=(false,eval e env)::starEach es env:=by
  cases e<;>first | rfl | cases h
theorem zcX {pos:Pos}{env:Env}:∀ {es:List Expr},es.all (fun e=>!isStar e)=true->(backTo pos (starEach es env)).any (·.1)=false
 | [],_=>rfl
 | e::es,h=>by
  rw [qax,qG] at h
  rw [zbq (by simpa using h.1)]
  show (false||(backTo pos (starEach es env)).any (·.1))=false
  rw [zcX h.2];rfl
theorem zdx {e:Expr}{env:Env}(h:isStar e=false):starEach [e] env=[(false,eval e env)]:=zbq h
theorem zlP {e g:Expr}{env:Env}(h:isStar e=false)(k:isStar g=false):starEach [e,g] env=[(false,eval e env),(false,eval g env)]:=by rw [zbq h,zdx k]
def ziz (K:PySem.W.Frag)(H:Hp)(a:Addr)(xs:List V):Prop :=
 (∃ o,H a=some (.frz o (.lst xs)))\/∃ (o:Obj) (its:Array Value) (n:Nat),K.lookup a=some o/\o.cls=.type "list"/\o.dict=none/\o.data=.seq its n/\its.size<=sizeLine/\Vals xs its.toList
theorem ziz.sq {K:PySem.W.Frag}{H:Hp}{a:Addr}{xs:List V}(h:ziz K H a xs):Zo K H a xs:=h.imp (fun h=>.inr h) id
mutual
inductive Rel (K:PySem.W.Frag)(ad:List Addr)(H:Hp):D->V->Prop
 | non:Rel K ad H .non .non
 | bl (b:Bool):Rel K ad H (.bl b) (.bl b)
 | int (i:Int):Rel K ad H (.int i) (.int i)
 | str (x:Str):Rel K ad H (.str x) (.str x)
 | ty (n:String):Rel K ad H (.ty n) (.ty n)
 | tup {a:Addr} {vs:List V} {ds:List D}:H a=some (.tup vs)->zF K ad H ds vs->Rel K ad H (.tup ds) (.ref a)
 | rl {a:Addr} {vs:List V} {ds:List D}:ziz K H a vs->zF K ad H ds vs->Rel K ad H (.rl ds) (.ref a)
 | ref {n:Nat} {a:Addr}:ad[n]?=some a->Rel K ad H (.ref n) (.ref a)
 | exn {c:Str} {a C:Addr} {o:Obj} {u:HO}:H a=some (.frz o u)->o.cls=.ref C->PySem.W.nsIn K mainGlobals c=some (some (.ref C))->Rel K ad H (.exn c) (.ref a)
inductive zF (K:PySem.W.Frag)(ad:List Addr)(H:Hp):List D->List V->Prop
 | nil:zF K ad H [] []
 | cons {d:D} {v:V} {ds:List D} {vs:List V}:Rel K ad H d v->zF K ad H ds vs->zF K ad H (d::ds) (v::vs)
end
structure Wd (ad:List Addr)(H:Hp)(ad':List Addr)(H':Hp):Prop where
 pre:ad <+: ad'
 keep:∀ b o,b∉ad->H b=some o->H' b=some o
 tup:∀ b xs,H b=some (.tup xs)->H' b=some (.tup xs)
 frz:∀ b o u,H b=some (.frz o u)->H' b=some (.frz o u)
 new:∀ b,b∈ad'->b∉ad->H b=none
theorem Wd.refl {ad:List Addr}{H:Hp}:Wd ad H ad H:=⟨qaR _,fun _ _ _ h=>h,fun _ _ h=>h,fun _ _ _ h=>h,fun _ h n=>absurd h n⟩
theorem Wd.trans {ad ad1 ad2:List Addr}{H H1 H2:Hp}(a:Wd ad H ad1 H1)(b:Wd ad1 H1 ad2 H2):Wd ad H ad2 H2 where
 pre:=a.pre.trans b.pre
 keep:=fun c o hc h=>b.keep c o (fun h1=>by rw [a.new c h1 hc] at h;cases h) (a.keep c o hc h)
 tup:=fun c xs h=>b.tup c xs (a.tup c xs h)
 frz:=fun c o u h=>b.frz c o u (a.frz c o u h)
 new:=fun c h2 hc=>by
  by_cases h1:c∈ad1
  ·exact a.new c h1 hc
  ·have n1:=b.new c h2 h1
   cases e:H c with
   | none=>rfl
   | some o=>rw [a.keep c o hc e] at n1;cases n1
theorem zjA {α:Type}{l l':List α}(h:l <+: l'){n:Nat}{a:α}(e:l[n]?=some a):l'[n]?=some a:=by
 obtain⟨t,rfl⟩:=h
 rw [qk (My.VR e)];exact e
structure Wr (ad:List Addr)(H:Hp)(ad':List Addr)(H':Hp):Prop where
 pre:ad <+: ad'
 tup:∀ b xs,H b=some (.tup xs)->H' b=some (.tup xs)
 frz:∀ b o u,H b=some (.frz o u)->H' b=some (.frz o u)
theorem Wd.wr {ad ad':List Addr}{H H':Hp}(w:Wd ad H ad' H'):Wr ad H ad' H':=⟨w.pre,w.tup,w.frz⟩
theorem ziz.wr {K:PySem.W.Frag}{ad ad':List Addr}{H H':Hp}{a:Addr}{xs:List V}(w:Wr ad H ad' H')(h:ziz K H a xs):ziz K H' a xs:=h.imp (fun⟨o,e⟩=>⟨o,w.frz _ _ _ e⟩) id
mutual
theorem Rel.wr {K:PySem.W.Frag}{ad ad':List Addr}{H H':Hp}(w:Wr ad H ad' H'):∀ {d:D} {v:V},Rel K ad H d v->Rel K ad' H' d v
 | _,_,.non=>.non
 | _,_,.bl b=>.bl b
 | _,_,.int i=>.int i
 | _,_,.str x=>.str x
 | _,_,.ty n=>.ty n
 | _,_,.tup h r=>.tup (w.tup _ _ h) (zF.wr w r)
 | _,_,.rl h r=>.rl (h.wr w) (zF.wr w r)
 | _,_,.ref h=>.ref (zjA w.pre h)
 | _,_,.exn h e n=>.exn (w.frz _ _ _ h) e n
theorem zF.wr {K:PySem.W.Frag}{ad ad':List Addr}{H H':Hp}(w:Wr ad H ad' H'):∀ {ds:List D} {vs:List V},zF K ad H ds vs->zF K ad' H' ds vs
 | _,_,.nil=>.nil
 | _,_,.cons r t=>.cons (Rel.wr w r) (zF.wr w t)
end
theorem Rel.wd {K:PySem.W.Frag}{ad ad':List Addr}{H H':Hp}{d:D}{v:V}(r:Rel K ad H d v)(w:Wd ad H ad' H'):Rel K ad' H' d v:=Rel.wr w.wr r
theorem zF.wd {K:PySem.W.Frag}{ad ad':List Addr}{H H':Hp}{ds:List D}{vs:List V}(r:zF K ad H ds vs)(w:Wd ad H ad' H'):zF K ad' H' ds vs:=zF.wr w.wr r
section
variable {K:PySem.W.Frag}{ad:List Addr}{H:Hp}
theorem zF.length:∀ {ds:List D} {vs:List V},zF K ad H ds vs->ds.length=vs.length
  | _,_,.nil=>rfl
  | _,_,.cons _ t=>congrArg (· + 1) (zF.length t)
theorem zF.get:∀ {ds:List D} {vs:List V} {i:Nat} {d:D},zF K ad H ds vs->ds[i]?=some d->∃ v,vs[i]?=some v/\Rel K ad H d v
 | _,_,_,_,.nil,e=>by simp at e
 | _,_,0,_,.cons r _,e=>by simp at e;subst e;exact⟨_,rfl,r⟩
 | _,_,i+1,d,.cons _ t,e=>by
  obtain⟨v,h1,h2⟩:=zF.get (i:=i) (d:=d) t (by simpa using e)
  exact⟨v,by simpa using h1,h2⟩
theorem zF.append:∀ {ds es:List D} {vs us:List V},zF K ad H ds vs->zF K ad H es us->zF K ad H (ds++es) (vs++us)
 | _,_,_,_,.nil,s=>s
 | _,_,_,_,.cons r t,s=>.cons r (zF.append t s)
theorem zF.take:∀ {ds:List D} {vs:List V} (n:Nat),zF K ad H ds vs->zF K ad H (ds.take n) (vs.take n)
 | _,_,0,_=>.nil
 | _,_,_+1,.nil=>.nil
 | _,_,n+1,.cons r t=>.cons r (zF.take n t)
theorem zF.drop:∀ {ds:List D} {vs:List V} (n:Nat),zF K ad H ds vs->zF K ad H (ds.drop n) (vs.drop n)
 | _,_,0,r=>r
 | _,_,_+1,.nil=>.nil
 | _,_,n+1,.cons _ t=>zF.drop n t
theorem zF.set {d:D}{v:V}(r:Rel K ad H d v):∀ {ds:List D} {vs:List V} (i:Nat),zF K ad H ds vs->zF K ad H (ds.set i d) (vs.set i v)
 | _,_,_,.nil=>.nil
 | _,_,0,.cons _ t=>.cons r t
 | _,_,i+1,.cons q t=>.cons q (zF.set r i t)
theorem zF.ints:∀ {ns:List Int} {vs:List V},zF K ad H (ns.map D.int) vs->vs=ns.map V.int
 | [],_,.nil=>rfl
 | n::ns,_,.cons r t=>by cases r;rw [zF.ints t];rfl
theorem zF.bls:∀ {ns:List Bool} {vs:List V},zF K ad H (ns.map D.bl) vs->vs=ns.map V.bl
 | [],_,.nil=>rfl
 | n::ns,_,.cons r t=>by cases r;rw [zF.bls t];rfl
theorem zF.mk_ints:∀ (ns:List Int),zF K ad H (ns.map D.int) (ns.map V.int)
 | []=>.nil
 | n::ns=>.cons (.int n) (zF.mk_ints ns)
end
inductive Y9 (K:PySem.W.Frag)(ad:List Addr)(H:Hp):List (Str×D)->List (Str×V)->Prop
 | nil:Y9 K ad H [] []
 | cons {f:Str} {d:D} {v:V} {fs:List (Str×D)} {vs:List (Str×V)}:Rel K ad H d v->Y9 K ad H fs vs->Y9 K ad H ((f,d)::fs) ((f,v)::vs)
theorem Y9.wr {K:PySem.W.Frag}{ad ad':List Addr}{H H':Hp}(w:Wr ad H ad' H'):∀ {fs:List (Str×D)} {vs:List (Str×V)},Y9 K ad H fs vs->Y9 K ad' H' fs vs
 | _,_,.nil=>.nil
 | _,_,.cons r t=>.cons (Rel.wr w r) (Y9.wr w t)
theorem Y9.look {K:PySem.W.Frag}{ad:List Addr}{H:Hp}{f:Str}:∀ {fs:List (Str×D)} {vs:List (Str×V)} {d:D},Y9 K ad H fs vs->fs.lookup f=some d->∃ v,vs.lookup f=some v/\Rel K ad H d v
 | _,_,d,.nil,e=>by simp at e
 | _,_,d,@Y9.cons _ _ _ g x v fs vs r t,e=>by
  rw [qo] at e ⊢
  cases h:f==g with
  | true=>rw [h] at e;cases e;exact⟨v,rfl,r⟩
  | false=>rw [h] at e;exact Y9.look t e
theorem Y9.put {K:PySem.W.Frag}{ad:List Addr}{H:Hp}{f:Str}{d:D}{v:V}(rd:Rel K ad H d v):∀ {fs:List (Str×D)} {vs:List (Str×V)},Y9 K ad H fs vs->Y9 K ad H (putD f d fs) (X7 f v vs)
 | _,_,.nil=>.cons rd .nil
 | _,_,@Y9.cons _ _ _ g x u fs vs r t=>by
  show Y9 K ad H (if g=f then (g,d)::fs else (g,x)::putD f d fs) (if g=f then (g,v)::vs else (g,u)::X7 f v vs)
  by_cases h:g=f
  ·rw [if_pos h,if_pos h];exact .cons rd t
  ·rw [if_neg h,if_neg h];exact .cons r (Y9.put rd t)
theorem Y9.length {K:PySem.W.Frag}{ad:List Addr}{H:Hp}:∀ {fs:List (Str×D)} {vs:List (Str×V)},Y9 K ad H fs vs->fs.length=vs.length
  | _,_,.nil=>rfl
  | _,_,.cons _ t=>congrArg (· + 1) (Y9.length t)
theorem zk8 {f:Str}{d:D}{q:Str×D}:∀ {fs:List (Str×D)},q∈putD f d fs->q.1=f\/q∈fs
 | [],h=>by
  have:q=(f,d):=by simpa [putD] using h
  subst this;exact .inl rfl
 | (g,x)::fs,h=>by
  have h:q∈if g=f then (g,d)::fs else (g,x)::putD f d fs:=h
  by_cases e:g=f
  ·rw [if_pos e] at h
   rcases qg.mp h with rfl | h
   ·exact .inl e
   ·exact .inr (qB _ h)
  ·rw [if_neg e] at h
   rcases qg.mp h with rfl | h
   ·exact .inr (by simp)
   ·exact (zk8 h).imp id (qB _)
theorem zly {f:Str}{d:D}:∀ {fs:List (Str×D)},fs.lookup f=some d->∃ q∈fs,q.1=f
 | [],e=>by simp at e
 | (g,x)::fs,e=>by
  rw [qo] at e
  cases h:f==g with
  | true=>exact⟨(g,x),by simp,(eq_of_beq h).symm⟩
  | false =>
   rw [h] at e
   obtain⟨q,hq,e'⟩:=zly e
   exact⟨q,qB _ hq,e'⟩
inductive RelK (K:PySem.W.Frag)(ad:List Addr)(H:Hp):List (Str×D)->List (Key×V)->Prop
 | nil:RelK K ad H [] []
 | cons {x:Str} {d:D} {v:V} {fs:List (Str×D)} {vs:List (Key×V)}:Rel K ad H d v->RelK K ad H fs vs->RelK K ad H ((x,d)::fs) ((.inr x,v)::vs)
inductive Zf (K:PySem.W.Frag)(ad:List Addr)(H:Hp):List (List Key×D)->List (List Key×V)->Prop
 | nil:Zf K ad H [] []
 | cons {x:List Key} {d:D} {v:V} {fs:List (List Key×D)} {vs:List (List Key×V)}:Rel K ad H d v->Zf K ad H fs vs->Zf K ad H ((x,d)::fs) ((x,v)::vs)
theorem RelK.wr {K:PySem.W.Frag}{ad ad':List Addr}{H H':Hp}(w:Wr ad H ad' H'):∀ {fs:List (Str×D)} {vs:List (Key×V)},RelK K ad H fs vs->RelK K ad' H' fs vs
 | _,_,.nil=>.nil
 | _,_,.cons r t=>.cons (Rel.wr w r) (RelK.wr w t)
theorem Zf.wr {K:PySem.W.Frag}{ad ad':List Addr}{H H':Hp}(w:Wr ad H ad' H'):∀ {fs:List (List Key×D)} {vs:List (List Key×V)},Zf K ad H fs vs->Zf K ad' H' fs vs
 | _,_,.nil=>.nil
 | _,_,.cons r t=>.cons (Rel.wr w r) (Zf.wr w t)
def zci (K:PySem.W.Frag)(ad:List Addr)(H:Hp)(a:Addr):Cell->Prop
 | .lst ds=>∃ vs,H a=some (.lst vs)/\zF K ad H ds vs
 | .ins c fs=>∃ C dx vs,H a=some (.ins C dx vs)/\Cls K C/\PySem.W.nsIn K mainGlobals c=some (some (.ref C))/\Y9 K ad H fs vs/\∀ q∈fs,YG K C q.1
 | .dk Z6=>∃ vs,H a=some (.dK vs)/\RelK K ad H Z6 vs
 | .dt Z6=>∃ vs,H a=some (.dT vs)/\Zf K ad H Z6 vs
class Bs where
 ad:List Addr
 H:Hp
structure zN [B:Bs](K:PySem.W.Frag)(ad:List Addr)(H:Hp)(S:Z5):Prop where
 wd:Wd B.ad B.H ad H
 len:ad.length=S.length
 nd:ad.Nodup
 cell:∀ (n:Nat) (a:Addr) (c:Cell),ad[n]?=some a->S[n]?=some c->zci K ad H a c
structure YW (K:PySem.W.Frag)(ad:List Addr)(H:Hp)(Z:ZP)(U:L2.St):Prop where
 len:Z.length=U.length
 val:∀ (i:Nat) (d:D),Z[i]?=some (some d)->∃ v,U[i]?=some (some v)/\Rel K ad H d v
theorem YW.wd {K:PySem.W.Frag}{ad ad':List Addr}{H H':Hp}{Z:ZP}{U:L2.St}(h:YW K ad H Z U)(w:Wd ad H ad' H'):YW K ad' H' Z U :=
 ⟨h.len,fun i d e=>let ⟨v,e',r⟩:=h.val i d e;⟨v,e',r.wd w⟩⟩
variable [B:Bs]
section
variable {K:PySem.W.Frag}{ad:List Addr}{H:Hp}{S:Z5}
theorem zN.get (st:zN K ad H S){n:Nat}{c:Cell}(h:S[n]?=some c):∃ a,ad[n]?=some a/\zci K ad H a c:=by
 have hn:n<ad.length:=by rw [st.len];exact My.VR h
 exact⟨ad[n],qc hn,st.cell n _ c (qc hn) h⟩
theorem zci.some {a:Addr}{c:Cell}(h:zci K ad H a c):∃ o,H a=some o:=by
 cases c with
 | lst ds=>obtain⟨vs,e,_⟩:=h;exact⟨_,e⟩
 | ins c fs=>obtain⟨C,dx,vs,e,_⟩:=h;exact⟨_,e⟩
 | dk Z6=>obtain⟨vs,e,_⟩:=h;exact⟨_,e⟩
 | dt Z6=>obtain⟨vs,e,_⟩:=h;exact⟨_,e⟩
theorem zN.there (st:zN K ad H S){a:Addr}(h:a∈ad):∃ o,H a=some o:=by
 obtain⟨n,hn,e⟩:=qT.mp h
 have e':ad[n]?=some a:=by rw [qc hn,e]
 have hs:n<S.length:=by rw [<- st.len];exact hn
 exact (st.cell n a S[n] e' (qc hs)).some
theorem zN.fresh (st:zN K ad H S){l:Addr}(h:H l=none):l∉ad:=fun m=>by
 obtain⟨o,e⟩:=st.there m
 rw [h] at e;cases e
theorem zci.wr {ad':List Addr}{H':Hp}{a:Addr}{c:Cell}(h:zci K ad H a c)(w:Wr ad H ad' H')(same:H' a=H a):zci K ad' H' a c:=by
 cases c with
 | lst ds=>obtain⟨vs,e,r⟩:=h;exact⟨vs,same.trans e,zF.wr w r⟩
 | ins c fs=>obtain⟨C,dx,vs,e,c1,c2,r,n⟩:=h;exact⟨C,dx,vs,same.trans e,c1,c2,Y9.wr w r,n⟩
 | dk Z6=>obtain⟨vs,e,r⟩:=h;exact⟨vs,same.trans e,RelK.wr w r⟩
 | dt Z6=>obtain⟨vs,e,r⟩:=h;exact⟨vs,same.trans e,Zf.wr w r⟩
theorem zci.wd {ad':List Addr}{H':Hp}{a:Addr}{c:Cell}(h:zci K ad H a c)(w:Wd ad H ad' H')(same:H' a=H a):zci K ad' H' a c:=h.wr w.wr same
theorem Wd.laid {l:Addr}{o:HO}(h:H l=none):Wd ad H ad (upd H l o) :=
 ⟨qaR _,fun b u _ e=>zdV h e,fun b u e=>zdV h e,fun b u w e=>zdV h e,fun _ m n=>absurd m n⟩
theorem zN.bfree (st:zN K ad H S){p:Addr}(h:H p=none):B.H p=none:=by
 cases e:B.H p with
 | none=>rfl
 | some o =>
  by_cases m:p∈B.ad
  ·obtain⟨u,hu⟩:=st.there (st.wd.pre.subset m)
   rw [h] at hu;cases hu
  ·rw [st.wd.keep p o m e] at h;cases h
theorem zN.laid (st:zN K ad H S){l:Addr}{o:HO}(h:H l=none):zN K ad (upd H l o) S :=
 ⟨st.wd.trans (Wd.laid h),st.len,st.nd,fun n a c e1 e2=>(st.cell n a c e1 e2).wd (Wd.laid h) (by
  obtain⟨u,e⟩:=(st.cell n a c e1 e2).some
  rw [zdV h e,e])⟩
theorem Wd.newL (st:zN K ad H S){l:Addr}{o:HO}(h:H l=none):Wd ad H (ad++[l]) (upd H l o) :=
 ⟨qaZ _ _,fun b u _ e=>zdV h e,fun b u e=>zdV h e,fun b u w e=>zdV h e,fun b m n=>by
  rcases qK.mp m with m | m
  ·exact absurd m n
  ·have:b=l:=by simpa using m
   subst this;exact h⟩
theorem zN.newL (st:zN K ad H S){l:Addr}{vs:List V}{ds:List D}(h:H l=none)(r:zF K ad H ds vs):zN K (ad++[l]) (upd H l (.lst vs)) (S++[.lst ds]) where
 wd:=st.wd.trans (Wd.newL st h)
 len:=by rw [qh,qh,st.len];rfl
 nd:=by
  rw [qa6]
  refine⟨st.nd,by simp,fun a ha b hb e=>?_⟩
  have:b=l:=by simpa using hb
  subst this;subst e
  exact st.fresh h ha
 cell:=fun n a c e1 e2=>by
  by_cases hn:n<ad.length
  ·rw [qk hn] at e1
   rw [qk (by rw [<- st.len];exact hn)] at e2
   have ok:=st.cell n a c e1 e2
   obtain⟨u,e⟩:=ok.some
   exact ok.wd (Wd.newL st h) (by rw [zdV h e,e])
  ·have hn':ad.length<=n:=qaF hn
   rw [qj hn'] at e1
   rw [qj (by rw [<- st.len];exact hn'),<- st.len] at e2
   cases hk:n-ad.length with
   | zero =>
    rw [hk] at e1 e2
    have e1':l=a:=by simpa using e1
    have e2':Cell.lst ds=c:=by simpa using e2
    subst e1' e2'
    exact⟨vs,Xr,r.wd (Wd.newL st h)⟩
   | succ k=>rw [hk] at e1;simp at e1
theorem zN.newRef (st:zN K ad H S){l:Addr}{o:HO}:Rel K (ad++[l]) (upd H l o) (.ref S.length) (.ref l):=.ref (by rw [<- st.len,qj (qf _),qav];rfl)
theorem Wd.put {n:Nat}{a:Addr}{vs ws:List V}(e:ad[n]?=some a)(h:H a=some (.lst vs)):Wd ad H ad (upd H a (.lst ws)) :=
 ⟨qaR _,fun b u hb q=>by
   have:b≠a:=fun z=>hb (by rw [z];exact qe e)
   rw [zU this];exact q,
  fun b xs q=>by rw [zU (zet q h (by intro z;cases z))];exact q,fun b o u q=>by rw [zU (zet q h (by intro z;cases z))];exact q,fun _ m n=>absurd m n⟩
theorem zN.put (st:zN K ad H S){n:Nat}{a:Addr}{vs ws:List V}{ds:List D}(e:ad[n]?=some a)(h:H a=some (.lst vs))(r:zF K ad H ds ws):zN K ad (upd H a (.lst ws)) (S.set n (.lst ds)) where
 wd:=st.wd.trans (Wd.put e h)
 len:=by rw [qap];exact st.len
 nd:=st.nd
 cell:=fun m b c e1 e2=>by
  have w:=Wd.put (ws:=ws) e h
  by_cases hm:m=n
  ·subst hm
   rw [e] at e1;cases e1
   rw [qJ (by rw [<- st.len];exact My.VR e)] at e2
   cases e2
   exact⟨ws,Xr,r.wd w⟩
  ·rw [qN (Ne.symm hm)] at e2
   have ne:b≠a:=fun z=>by
    subst z
    have h1:=My.VR e1
    have h2:=My.VR e
    have q1:=(qP.mp e1).2
    have q2:=(qP.mp e).2
    exact hm ((qbs st.nd).mp (q1.trans q2.symm))
   exact (st.cell m b c e1 e2).wd w (zU ne)
theorem zN.newI (st:zN K ad H S){x dx C:Addr}{c:Str}(h:H x=none)(h2:H dx=none)(hne:dx≠x)(hc:Cls K C)(hn:PySem.W.nsIn K mainGlobals c=some (some (.ref C))) :
  Wd ad H (ad++[x]) (upd (upd H dx (.own x)) x (.ins C dx []))/\zN K (ad++[x]) (upd (upd H dx (.own x)) x (.ins C dx [])) (S++[.ins c []]):=by
 have st1:=st.laid (o:=.own x) h2
 have hx:upd H dx (.own x) x=none:=by rw [zU (Ne.symm hne)];exact h
 have w1:Wd ad H ad (upd H dx (.own x)):=Wd.laid h2
 have w2:Wd ad (upd H dx (.own x)) (ad++[x]) (upd (upd H dx (.own x)) x (.ins C dx [])):=Wd.newL st1 hx
 refine⟨w1.trans w2,st.wd.trans (w1.trans w2),?_,?_,fun n a c' e1 e2=>?_⟩
 ·rw [qh,qh,st.len];rfl
 ·rw [qa6]
  refine⟨st.nd,by simp,fun a ha b hb e=>?_⟩
  have:b=x:=by simpa using hb
  subst this;subst e
  exact st.fresh h ha
 ·by_cases hn':n<ad.length
  ·rw [qk hn'] at e1
   rw [qk (by rw [<- st.len];exact hn')] at e2
   have ok:=st1.cell n a c' e1 e2
   obtain⟨u,e⟩:=ok.some
   exact ok.wd w2 (by rw [zdV hx e,e])
  ·have hn':ad.length<=n:=qaF hn'
   rw [qj hn'] at e1
   rw [qj (by rw [<- st.len];exact hn'),<- st.len] at e2
   cases hk:n-ad.length with
   | zero =>
    rw [hk] at e1 e2
    have e1':x=a:=by simpa using e1
    have e2':Cell.ins c []=c':=by simpa using e2
    subst e1' e2'
    exact⟨C,dx,[],Xr,hc,hn,.nil,fun q hq=>by cases hq⟩
   | succ k=>rw [hk] at e1;simp at e1
theorem Wd.putI {n:Nat}{a C dx C' dx':Addr}{vs ws:List (Str×V)}(e:ad[n]?=some a)(h:H a=some (.ins C dx vs)):Wd ad H ad (upd H a (.ins C' dx' ws)) :=
 ⟨qaR _,fun b u hb q=>by
   have:b≠a:=fun z=>hb (by rw [z];exact qe e)
   rw [zU this];exact q,
  fun b xs q=>by rw [zU (zet q h (by intro z;cases z))];exact q,fun b o u q=>by rw [zU (zet q h (by intro z;cases z))];exact q,fun _ m n=>absurd m n⟩
theorem zN.putI (st:zN K ad H S){n:Nat}{a C dx:Addr}{c f:Str}{vs:List (Str×V)}{fs:List (Str×D)}{d:D}{v:V}(e:ad[n]?=some a)(h:H a=some (.ins C dx vs))(hc:Cls K C)(hn:PySem.W.nsIn K mainGlobals c=some (some (.ref C)))(rf:Y9 K ad H fs vs)(hna:∀ q∈fs,YG K C q.1)(hf:YG K C f)(r:Rel K ad H d v) :
  zN K ad (upd H a (.ins C dx (X7 f v vs))) (S.set n (.ins c (putD f d fs))) where
 wd:=st.wd.trans (Wd.putI e h)
 len:=by rw [qap];exact st.len
 nd:=st.nd
 cell:=fun m b c' e1 e2=>by
  have w:Wd ad H ad (upd H a (.ins C dx (X7 f v vs))):=Wd.putI e h
  by_cases hm:m=n
  ·subst hm
   rw [e] at e1;cases e1
   rw [qJ (by rw [<- st.len];exact My.VR e)] at e2
   cases e2
   refine⟨C,dx,_,Xr,hc,hn,Y9.wr w.wr (Y9.put r rf),fun q hq=>?_⟩
   rcases zk8 hq with h1 | h1
   ·rw [h1];exact hf
   ·exact hna q h1
  ·rw [qN (Ne.symm hm)] at e2
   have ne:b≠a:=fun z=>by
    subst z
    have q1:=(qP.mp e1).2
    have q2:=(qP.mp e).2
    exact hm ((qbs st.nd).mp (q1.trans q2.symm))
   exact (st.cell m b c' e1 e2).wd w (zU ne)
theorem Wd.hid {ad':List Addr}{H':Hp}{p:Addr}{o:HO}(w:Wd ad H ad' H')(hp:H p=none):Wd ad H ad' (upd H' p o) :=
 ⟨w.pre,fun b u hb q=>by rw [zU (zbk q hp)];exact w.keep b u hb q,fun b u q=>by rw [zU (zbk q hp)];exact w.tup b u q,fun b u v q=>by rw [zU (zbk q hp)];exact w.frz b u v q,w.new⟩
theorem Wr.hid {p:Addr}{vs ws:List V}(h:H p=some (.lst vs)):Wr ad H ad (upd H p (.lst ws)) :=
 ⟨qaR _,fun b xs q=>by rw [zU (zet q h (by intro z;cases z))];exact q,fun b o u q=>by rw [zU (zet q h (by intro z;cases z))];exact q⟩
theorem zN.hid (st:zN K ad H S){p:Addr}{vs ws:List V}(h:H p=some (.lst vs))(hp:p∉ad)(hb:B.H p=none):zN K ad (upd H p (.lst ws)) S :=
 ⟨st.wd.hid hb,st.len,st.nd,fun n a c e1 e2=>(st.cell n a c e1 e2).wr (Wr.hid h) (zU fun z=>hp (by rw [<- z];exact qe e1))⟩
theorem Wd.add {ad':List Addr}{H':Hp}{p:Addr}(w:Wd ad H ad' H')(hp:H p=none):Wd ad H (ad'++[p]) H' :=
 ⟨w.pre.trans (qaZ _ _),w.keep,w.tup,w.frz,fun b m n=>by
  rcases qK.mp m with m | m
  ·exact w.new b m n
  ·have:b=p:=by simpa using m
   subst this;exact hp⟩
theorem zN.add (st:zN K ad H S){p:Addr}{vs:List V}{ds:List D}(h:H p=some (.lst vs))(hp:p∉ad)(r:zF K ad H ds vs)(hb:B.H p=none):zN K (ad++[p]) H (S++[.lst ds]) where
 wd:=st.wd.add hb
 len:=by rw [qh,qh,st.len];rfl
 nd:=by
  rw [qa6]
  refine⟨st.nd,by simp,fun a ha b hb e=>?_⟩
  have:b=p:=by simpa using hb
  subst this;subst e
  exact hp ha
 cell:=fun n a c e1 e2=>by
  have w:Wr ad H (ad++[p]) H:=⟨qaZ _ _,fun _ _ q=>q,fun _ _ _ q=>q⟩
  by_cases hn:n<ad.length
  ·rw [qk hn] at e1
   rw [qk (by rw [<- st.len];exact hn)] at e2
   exact (st.cell n a c e1 e2).wr w rfl
  ·have hn':ad.length<=n:=qaF hn
   rw [qj hn'] at e1
   rw [qj (by rw [<- st.len];exact hn'),<- st.len] at e2
   cases hk:n-ad.length with
   | zero =>
    rw [hk] at e1 e2
    have e1':p=a:=by simpa using e1
    have e2':Cell.lst ds=c:=by simpa using e2
    subst e1' e2'
    exact⟨vs,h,zF.wr w r⟩
   | succ k=>rw [hk] at e1;simp at e1
theorem Lst.sq (st:zN K ad H S){x:D}{xs:List D}{v:V}(h:Lst S x xs)(r:Rel K ad H x v):∃ a vs,v=.ref a/\Zo K H a vs/\zF K ad H xs vs:=by
 rcases h with rfl | ⟨n,rfl,h⟩
 ·cases r with
  | rl h r=>exact⟨_,_,rfl,h.sq,r⟩
 ·cases r with
  | ref e =>
   obtain⟨vs,e2,r⟩:=st.cell n _ _ e h
   exact⟨_,vs,rfl,Zo.of e2,r⟩
theorem V1.sq (st:zN K ad H S){x:D}{xs:List D}{v:V}(h:V1 S x xs)(r:Rel K ad H x v):∃ a vs,v=.ref a/\(Zo K H a vs\/ZF K H a vs)/\zF K ad H xs vs:=by
 rcases h with rfl | h
 ·cases r with
  | tup h r=>exact⟨_,_,rfl,.inr (ZF.of h),r⟩
 ·obtain⟨a,vs,e,s,r⟩:=Lst.sq st h r
  exact⟨a,vs,e,.inl s,r⟩
end
omit B in
theorem Zv {a b c d:Type}{p1 p2 p3 p4:a->b->c->d->Prop}{R:Prop}(h:∃ (x:a) (y:b) (z:c) (w:d),p1 x y z w/\p2 x y z w/\p3 x y z w/\p4 x y z w)(f:∀ (x:a) (y:b) (z:c) (w:d),p1 x y z w->p2 x y z w->p3 x y z w->p4 x y z w->R):R :=
 Exists.elim h fun x h=>Exists.elim h fun y h=>Exists.elim h fun z h=>Exists.elim h fun w h=>f x y z w h.1 h.2.1 h.2.2.1 h.2.2.2
def KK (K:PySem.W.Frag)(ad:List Addr)(H:Hp)(Q0:DK)(Q:VK):Prop:=∀ d S' v H' ad',Q0 d S'->Wd ad H ad' H'->zN K ad' H' S'->Rel K ad' H' d v->Q v H'
theorem KK.wd {K:PySem.W.Frag}{ad ad':List Addr}{H H':Hp}{Q0:DK}{Q:VK}(k:KK K ad H Q0 Q)(w:Wd ad H ad' H'):KK K ad' H' Q0 Q:=fun d S' v H' ad' q w'=>k d S' v H' ad' q (w.trans w')
def up (K:PySem.W.Frag)(t:DE):TE:=fun U H Q=>∃ ad Z S Q0,zN K ad H S/\YW K ad H Z U/\t Z S Q0/\KK K ad H Q0 Q
def upT (K:PySem.W.Frag)(t:DT):TT:=fun U H Q=>∃ ad Z S Q0,zN K ad H S/\YW K ad H Z U/\t Z S Q0/\∀ b S' H' ad',Q0 b S'->Wd ad H ad' H'->zN K ad' H' S'->Q b H'
def upA (K:PySem.W.Frag)(t:DA):TA:=fun U H Q=>∃ ad Z S Q0,zN K ad H S/\YW K ad H Z U/\t Z S Q0/\∀ ds S' vs H' ad',Q0 ds S'->Wd ad H ad' H'->zN K ad' H' S'->zF K ad' H' ds vs->Q vs H'
theorem zN.base {K:PySem.W.Frag}{ad:List Addr}{H:Hp}{S:Z5}(st:zN K ad H S):@zN ⟨ad,H⟩ K ad H S:=@zN.mk ⟨ad,H⟩ _ _ _ _ Wd.refl st.len st.nd st.cell
theorem zN.back {K:PySem.W.Frag}{ad ad':List Addr}{H H':Hp}{S S':Z5}(st:zN K ad H S)(st':@zN ⟨ad,H⟩ K ad' H' S'):zN K ad' H' S' :=
 ⟨st.wd.trans (@zN.wd ⟨ad,H⟩ _ _ _ _ st'),@zN.len ⟨ad,H⟩ _ _ _ _ st',@zN.nd ⟨ad,H⟩ _ _ _ _ st',@zN.cell ⟨ad,H⟩ _ _ _ _ st'⟩
theorem KK.base {K:PySem.W.Frag}{ad:List Addr}{H:Hp}{S:Z5}{Q0:DK}{Q:VK}(st:zN K ad H S)(k:KK K ad H Q0 Q):@KK ⟨ad,H⟩ K ad H Q0 Q:=fun d S' v H' ad' q w st' r=>k d S' v H' ad' q w (st.back st') r
def Z4 (K:PySem.W.Frag)(f:ZS):Sp:=fun vs H Q _=>∃ ad S ds Q0,@zN ⟨ad,H⟩ K ad H S/\zF K ad H ds vs/\f ds S Q0/\@KK ⟨ad,H⟩ K ad H Q0 Q
structure zjt (K:PySem.W.Frag)(ad:List Addr)(H:Hp)(E0:znS)(E:Ends):Prop where
 nx:∀ Z S U H' ad',E0.nx Z S->Wd ad H ad' H'->zN K ad' H' S->YW K ad' H' Z U->E.nx U H'
 rt:KK K ad H E0.rt E.rt
 bk:∀ Z S U H' ad',E0.bk Z S->Wd ad H ad' H'->zN K ad' H' S->YW K ad' H' Z U->E.bk U H'
 ct:∀ Z S U H' ad',E0.ct Z S->Wd ad H ad' H'->zN K ad' H' S->YW K ad' H' Z U->E.ct U H'
theorem zjt.wd {K:PySem.W.Frag}{ad ad':List Addr}{H H':Hp}{E0:znS}{E:Ends}(k:zjt K ad H E0 E)(w:Wd ad H ad' H'):zjt K ad' H' E0 E :=
 ⟨fun Z S U H' ad' q w'=>k.nx Z S U H' ad' q (w.trans w'),k.rt.wd w,fun Z S U H' ad' q w'=>k.bk Z S U H' ad' q (w.trans w'),fun Z S U H' ad' q w'=>k.ct Z S U H' ad' q (w.trans w')⟩
def upS (K:PySem.W.Frag)(t:DS):TS:=fun E U H=>∃ ad Z S E0,zN K ad H S/\YW K ad H Z U/\t E0 Z S/\zjt K ad H E0 E
@[irreducible] def PD (X:Cx)(e:Expr)(t:DE):Prop:=PE X e (up X.K t)
@[irreducible] def WL (X:Cx)(e:Expr)(t:DT):Prop:=PT X e (upT X.K t)
@[irreducible] def PWD (X:Cx)(e:Expr)(t:DT):Prop:=PW X e (upT X.K t)
@[irreducible] def PAD (X:Cx)(es:List Expr)(t:DA):Prop:=PA X es (upA X.K t)
@[irreducible] def W8 (X:Cx)(st:Stmt)(t:DS):Prop:=PS X st (upS X.K t)
@[irreducible] def zeh (X:Cx)(st:List Stmt)(t:DS):Prop:=W0 X st (upS X.K t)
theorem ztd {X:Cx}{e:Expr}{t t':TE}(h:PE X e t)(m:∀ U H Q,t' U H Q->t U H Q):PE X e t':=fun Z9 s U H Q I q=>h Z9 s U H Q I (m U H Q q)
theorem zfB {X:Cx}{e:Expr}{t t':TT}(h:PT X e t)(m:∀ U H Q,t' U H Q->t U H Q):PT X e t':=fun Z9 s U H Q I q=>h Z9 s U H Q I (m U H Q q)
theorem znm {X:Cx}{e:Expr}{t t':TT}(h:PW X e t)(m:∀ U H Q,t' U H Q->t U H Q):PW X e t':=fun wh Z9 s U H Q I q=>h wh Z9 s U H Q I (m U H Q q)
theorem znr {X:Cx}{e:List Expr}{t t':TA}(h:PA X e t)(m:∀ U H Q,t' U H Q->t U H Q):PA X e t':=fun pos Z9 s U H Q I q=>h pos Z9 s U H Q I (m U H Q q)
theorem VN {X:Cx}{st:Stmt}{t t':TS}(h:PS X st t)(m:∀ D U H,t' D U H->t D U H):PS X st t':=fun Z9 s U H D I q=>h Z9 s U H D I (m D U H q)
theorem zk9 {X:Cx}{st:List Stmt}{t t':TS}(h:W0 X st t)(m:∀ D U H,t' D U H->t D U H):W0 X st t':=fun Z9 s U H D I q=>h Z9 s U H D I (m D U H q)
section
variable {X:Cx}{a b c:Expr}{ta tb tc:DE}{pos:Pos}
theorem YC {e:Expr}{t:TE}{d:DE}(h:PE X e t)(m:∀ U H Q,up X.K d U H Q->t U H Q):PD X e d:=by with_unfolding_all exact (ztd h m)
theorem zu4 {e:Expr}{i:Nat}(h:PE X e (zuY i)):PD X e (WY i):=by with_unfolding_all exact (YC h fun U H Q ⟨ad,Z,S,Q0,st,rh,⟨d,e,q⟩,k⟩=>by
 obtain⟨v,ev,r⟩:=rh.val i d e
 exact⟨v,ev,k d S v H ad q Wd.refl st r⟩)
theorem zgQ {e:Expr}{v:V}{d:D}(h:PE X e (tC v))(r:∀ ad H,Rel X.K ad H d v):PD X e (dC d):=by with_unfolding_all exact (YC h fun U H Q hh=>Zv hh fun ad Z S Q0 st rh q k=>k d S v H ad q Wd.refl st (r _ _))
theorem zq {i j}:PD X (.Constant (.int i) j pos) (dC (.int i)):=by with_unfolding_all exact (zgQ zlM fun _ _=>.int i)
theorem zdh {b j}:PD X (.Constant (.bool b) j pos) (dC (.bl b)):=by with_unfolding_all exact (zgQ zxD fun _ _=>.bl b)
theorem WT {j}:PD X (.Constant .none j pos) (dC .non):=by with_unfolding_all exact (zgQ zva fun _ _=>.non)
theorem zcw {x j}:PD X (.Constant (.str x) j pos) (dC (.str x)):=by with_unfolding_all exact (zgQ zv5 fun _ _=>.str x)
theorem zgl {x:Str}{T:String}(hg:Gl X x)(hm:X.mg x=none)(hv:bootBuiltins x=some (.type T))(hn:x≠"__name__":=by decide)(hd:(x==("__debug__":Str))=false:=by decide):PD X (.Name x pos) (dC (.ty T)):=by with_unfolding_all exact (zgQ (zxq hg hm hv hn hd) fun _ _=>.ty T)
theorem zH {x:Str}{n:Int}(hg:Gl X x)(hm:∃ t,X.mg x=some (.int n t))(hd:(x==("__debug__":Str))=false:=by decide):PD X (.Name x pos) (dC (.int n)):=by with_unfolding_all exact (zgQ (zs9 hg hm hd) fun _ _=>.int n)
theorem zt0 {x z:Str}(hg:Gl X x)(hm:∃ t,X.mg x=some (.str z t))(hd:(x==("__debug__":Str))=false:=by decide):PD X (.Name x pos) (dC (.str z)):=by with_unfolding_all exact (zgQ (by obtain⟨t,hm⟩:=hm;exact znt (v:=.str z) hg hm ⟨t,rfl⟩ hd) fun _ _=>.str z)
theorem Ww {i j:Int}{m n:Nat}{p1 p2:Pos}(c:Int)(h:i ^ j.toNat=c)(h0:0<=j/\j<=1000000/\i.natAbs<2 ^ 64):PD X (.BinOp (.Constant (.int i) m p1) .Pow (.Constant (.int j) n p2) pos) (dC (.int c)):=by with_unfolding_all exact (zgQ (ztj c h h0) fun _ _=>.int c)
def OD (K:PySem.W.Frag)(r':Zb)(r:R2):Prop:=∀ ad H S x y v u Q0 Q,zN K ad H S->Rel K ad H x v->Rel K ad H y u->r' x y S Q0->KK K ad H Q0 Q->r v u H Q
theorem zhy {K:PySem.W.Frag}{r':Zb}{r:R2}(o:OD K r' r){U:L2.St}{H:Hp}{Q:VK}(h:up K (Z7 r' ta tb) U H Q):tOp r (up K ta) (up K tb) U H Q:=by
 obtain⟨ad,Z,S,Q0,st,rh,q,k⟩:=h
 refine⟨ad,Z,S,_,st,rh,q,fun x S1 v H1 ad1 q1 w1 st1 r1=>?_⟩
 refine⟨ad1,Z,S1,_,st1,rh.wd w1,q1,fun y S2 u H2 ad2 q2 w2 st2 r2=>?_⟩
 exact o ad2 H2 S2 x y v u Q0 Q st2 (r1.wd w2) r2 q2 (k.wd (w1.trans w2))
theorem zi4 {op:Operator}{r':Zb}{r:R2}(ho:Zk X (binaryOp op) r)(o:OD X.K r' r)(ha:PD X a ta)(hb:PD X b tb):PD X (.BinOp a op b pos) (Z7 r' ta tb):=by with_unfolding_all exact (YC (zsl ho ha hb) fun _ _ _=>zhy o)
theorem zop {K:PySem.W.Frag}{C C':Int->Int->Prop}{g:Int->Int->D}{g':Int->Int->V}(hc:∀ i j,C i j->C' i j)(hg:∀ ad H i j,Rel K ad H (g i j) (g' i j)):OD K (oI C g) (rI C' g'):=fun ad H S x y v u Q0 Q st rx ry ⟨i,j,ex,ey,c,q⟩ k=>by
 subst ex ey
 cases rx
 cases ry
 exact⟨i,j,rfl,rfl,hc i j c,k _ S _ H ad q Wd.refl st (hg ad H i j)⟩
theorem zi8 {K:PySem.W.Frag}{g:Int->Int->D}{g':Int->Int->V}(hg:∀ ad H i j,Rel K ad H (g i j) (g' i j)):OD K (oI0 g) (rI0 g'):=fun ad H S x y v u Q0 Q st rx ry ⟨i,j,ex,ey,q⟩ k=>by
 subst ex ey
 cases rx
 cases ry
 exact⟨i,j,rfl,rfl,k _ S _ H ad q Wd.refl st (hg ad H i j)⟩
theorem zpv {i:Int}(h:i.natAbs<2 ^ 64):-(2 ^ 64)<i/\i<2 ^ 64:=⟨by lia,by lia⟩
def zyp (i j:Int):Prop:=YJ i j
theorem zt5:Zk X (binaryOp .Mult) (rI zyp fun i j=>.int (i*j)):=opI fun i j _ _ _ _ _ hc q=>by
 rcases hc with h | h | h
 ·exact mul_int q (IntMulOk.of_bits (zjs h.1) (zjs h.2))
 ·exact mul_int q (zoe.ok (.inl (zpv h)))
 ·exact mul_int q (zoe.ok (.inr (zpv h)))
theorem zZ (ha:PD X a ta)(hb:PD X b tb):PD X (.BinOp a .Sub b pos) (Z7 Zq ta tb):=by with_unfolding_all exact (zi4 zwN (zi8 fun _ _ i j=>.int (i-j)) ha hb)
theorem zuL {z:Str}{n:Int}(hz:z.length<=1000)(h0:-1000<=n)(h1:n<=1000):MulOk z n:=by
 refine⟨?_,fun _ _=>?_,fun h _=>?_⟩
 ·rw [decide_eq_false (by lia),decide_eq_false (by lia)];rfl
 ·have:(1000:Int)<=(2 ^ 63-1)/n\/n<1:=by
   rcases qbi n 1 with g | g
   ·exact .inr g
   ·exact .inl ((qbv (by lia)).mpr (by lia))
  lia
 ·have:z.length*n.toNat<=1000*1000:=qbl hz (by lia)
  have hs:z.length*n.toNat<=sizeLine:=qX this (by decide)
  first
   | exact decide_eq_false (by lia)
   | (unfold tooLong;exact decide_eq_false (by lia))
   | simp [tooLong];lia
theorem ztk:Zk X (binaryOp .Mult) (fun x y H Q=>∃ z n,x=.str z/\y=.int n/\MulOk z n/\Q (.str (Txt.mul z n)) H):=by
 intro Z9 s U H x y v u Q I rx ry h
 obtain⟨z,n,rfl,rfl,ok,q⟩:=h
 obtain⟨t,rfl⟩:=rx
 obtain⟨t',rfl⟩:=ry
 exact SB.mul ok fun t' k=>⟨.str (Txt.mul z n),H,I.tok _,⟨_,rfl⟩,q⟩
omit B in
theorem zm3 {i:Int}(h:Hg i):Builtin.Int.intBits i<=2 ^ 20:=by
 unfold Hg at h
 exact intBits_le h
omit B in
theorem zta {i:Int}(h:Builtin.Int.intBits i<=2 ^ 20):Hg i:=by
 unfold Hg
 exact qE (natAbs_lt_pow_bits i) (Nat.pow_le_pow_right (by decide) h)
theorem zsR:Zk X (binaryOp .Mult) (rI (fun i j=>Hg i/\Hg j) fun i j=>.int (i*j)):=opI fun i j _ _ _ _ _ hc q=>mul_int q (IntMulOk.of_bits (zm3 hc.1) (zm3 hc.2))
theorem Yo (ha:PD X a ta)(hb:PD X b tb):PD X (.BinOp a .Mult b pos) (Z7 Yu ta tb):=by with_unfolding_all exact (zi4 (zt5.or (ztk.or zsR)) (fun ad H S x y v u Q0 Q st rx ry h k=>by
 rcases h with h | ⟨z,n,rfl,rfl,hz,h0,h1,q⟩ | h
 ·exact .inl (zop (fun _ _ h=>h) (fun _ _ i j=>.int (i*j)) ad H S x y v u Q0 Q st rx ry h k)
 ·cases rx
  cases ry
  exact .inr (.inl ⟨z,n,rfl,rfl,zuL hz h0 h1,k _ S _ H ad q Wd.refl st (.str _)⟩)
 ·exact .inr (.inr (zop (fun _ _ h=>h) (fun _ _ i j=>.int (i*j)) ad H S x y v u Q0 Q st rx ry h k))) ha hb)
theorem Ye (ha:PD X a ta)(hb:PD X b tb):PD X (.BinOp a .FloorDiv b pos) (Z7 oDiv ta tb):=by with_unfolding_all exact (zi4 zrM (zop (fun _ _ h=>h) fun _ _ i j=>.int (i.fdiv j)) ha hb)
theorem YT (ha:PD X a ta)(hb:PD X b tb):PD X (.BinOp a .Mod b pos) (Z7 oMod ta tb):=by with_unfolding_all exact (zi4 zul (zop (fun _ _ h=>h) fun _ _ i j=>.int (i.fmod j)) ha hb)
theorem zcN {n:Nat}(h:n<=big):n<=sizeLine:=qX h (by decide)
theorem ziZ {n:Nat}(h:n<big):n<sizeLine:=qE h (by decide)
theorem zfQ {K:PySem.W.Frag}{ad:List Addr}{H:Hp}{S:Z5}{Q0:DK}{Q:VK}{ds:List D}{vs:List V}(st:zN K ad H S)(k:KK K ad H Q0 Q)(r:zF K ad H ds vs)(q:Q0 (.ref S.length) (S++[.lst ds]))(l:Addr)(h:H l=none):Q (.ref l) (upd H l (.lst vs)) :=
 k _ _ _ _ _ q (Wd.newL st h) (st.newL h r) st.newRef
theorem zjp {K:PySem.W.Frag}{ad:List Addr}{H:Hp}{S:Z5}{Q0:DK}{Q:VK}{ds:List D}{vs:List V}(st:zN K ad H S)(k:KK K ad H Q0 Q)(r:zF K ad H ds vs)(q:Q0 (.tup ds) S)(l:Addr)(h:H l=none):Q (.ref l) (upd H l (.tup vs)) :=
 k _ _ _ _ _ q (Wd.laid h) (st.laid h) (.tup Xr (r.wd (Wd.laid h)))
theorem zV (ha:PD X a ta)(hb:PD X b tb):PD X (.BinOp a .Add b pos) (Z7 Zy ta tb):=by with_unfolding_all exact (zi4 (zww.or ((zqQ rfl).or ((zt4 rfl).or zoQ))) (fun ad H S x y v u Q0 Q st rx ry h k=>by
  rcases h with ⟨i,j,rfl,rfl,q⟩ | ⟨xs,ys,rfl,rfl,hz,q⟩ | ⟨xs,ys,hx,hy,hz,q⟩ | ⟨i,j,rfl,rfl,hz,q⟩
  ·cases rx
   cases ry
   exact .inl ⟨i,j,rfl,rfl,k _ S _ H ad q Wd.refl st (.int _)⟩
  ·cases rx with
   | tup h1 r1 =>
    cases ry with
    | tup h2 r2 =>
     have l1:=r1.length
     have l2:=r2.length
     refine .inr (.inl ⟨_,_,_,_,rfl,rfl,ZF.of h1,ZF.of h2,by rw [<- l1,<- l2];exact zcN hz,fun e=>?_,fun _ e=>?_,fun _ _ p hp=>zjp st k (r1.append r2) q p hp⟩)
     ·have e':xs=[]:=qad.mp (by rw [l1,e];rfl)
      subst e'
      exact k _ S _ H ad q Wd.refl st (.tup h2 r2)
     ·have e':ys=[]:=qad.mp (by rw [l2,e];rfl)
      subst e'
      rw [qU] at q
      exact k _ S _ H ad q Wd.refl st (.tup h1 r1)
  ·obtain⟨a1,vs1,rfl,s1,r1⟩:=hx.sq st rx
   obtain⟨a2,vs2,rfl,s2,r2⟩:=hy.sq st ry
   exact .inr (.inr (.inl ⟨_,_,_,_,rfl,rfl,s1,s2,by rw [<- r1.length,<- r2.length];exact zcN hz,fun p hp=>zfQ st k (r1.append r2) q p hp⟩))
  ·cases rx
   cases ry
   exact .inr (.inr (.inr ⟨i,j,rfl,rfl,zcN hz,k _ S _ H ad q Wd.refl st (.str _)⟩))) ha hb)
theorem Xy (ha:PD X a ta):PD X (.UnaryOp .USub a pos) (Yh Yi ta):=by with_unfolding_all exact (YC (zw0 zuX ha) fun U H Q hh=>Zv hh fun ad Z S Q0 st rh q k=>by
 refine⟨ad,Z,S,_,st,rh,q,fun x S1 v H1 ad1 q1 w1 st1 r1=>?_⟩
 obtain⟨i,rfl,q1⟩:=q1
 cases r1
 exact⟨i,rfl,k _ _ _ _ _ q1 w1 st1 (.int _)⟩)
def OC (X:Cx)(op:CmpOp)(r':Zb):Prop:=∃ r,Zk X (compareOp op) r/\OD X.K r' r
theorem Yp:OC X .Lt oLt:=⟨_,zwV,zi8 fun _ _ _ _=>.bl _⟩
theorem Wx:OC X .LtE oLe:=⟨_,zw2,zi8 fun _ _ _ _=>.bl _⟩
theorem WM:OC X .Gt Xa:=⟨_,zxL,zi8 fun _ _ _ _=>.bl _⟩
theorem zxI:OC X .GtE oGe:=⟨_,zxX,zi8 fun _ _ _ _=>.bl _⟩
mutual
def YM:D->PyData
 | .non=>.none
 | .bl b=>.bool b
 | .int i=>.int i
 | .str x=>.str x
 | .tup xs=>.tuple (Zc xs)
 | .ref _=>.none
 | .ty _=>.none
 | .rl _=>.none
 | .exn _=>.none
def Zc:List D->List PyData
 | []=>[]
 | x::xs=>YM x::Zc xs
end
section
variable {Z9:List (Addr×Obj)}{U:L2.St}{H:Hp}{s:Shared}{ad:List Addr}
theorem zdC (I:Inv X Z9 U H s)(k:Nat)(h1:∀ d v u,fl k d=true->Rel X.K ad H d v->RelV v u->∃ as,Reads s.heap u (YM d) as):∀ ds vs us,ds.all (fl k)=true->zF X.K ad H ds vs->Vals vs us->∃ as,ReadsAll s.heap us (Zc ds) as:=by
 intro ds
 induction ds with
 | nil=>intro vs us _ r rv;cases r;cases rv;exact⟨_,.nil⟩
 | cons d ds ih =>
  intro vs us hf r rv
  rw [qax,qG] at hf
  cases r with
  | cons r t =>
   cases rv with
   | cons q qt =>
    obtain⟨as,ra⟩:=h1 d _ _ hf.1 r q
    obtain⟨bs,rb⟩:=ih _ _ hf.2 t qt
    exact⟨_,.cons ra rb⟩
theorem zbS (I:Inv X Z9 U H s):∀ (k:Nat) (d:D) (v:V) (u:Value),fl k d=true->Rel X.K ad H d v->RelV v u->∃ as,Reads s.heap u (YM d) as:=by
 intro k
 induction k with
 | zero =>
  intro d v u hf r q
  cases r with
  | non=>cases q;exact⟨_,.none⟩
  | bl b=>cases q;exact⟨_,.bool b⟩
  | int i=>obtain⟨t,rfl⟩:=q;exact⟨_,.int i t⟩
  | str x=>obtain⟨t,rfl⟩:=q;exact⟨_,.str x t⟩
  | ty n=>cases hf
  | tup h r=>cases hf
  | rl h r=>cases hf
  | ref h=>cases hf
  | exn _ _ _=>cases hf
 | succ k ih =>
  intro d v u hf r q
  cases r with
  | non=>cases q;exact⟨_,.none⟩
  | bl b=>cases q;exact⟨_,.bool b⟩
  | int i=>obtain⟨t,rfl⟩:=q;exact⟨_,.int i t⟩
  | str x=>obtain⟨t,rfl⟩:=q;exact⟨_,.str x t⟩
  | ty n=>cases hf
  | tup h r =>
   cases q
   obtain⟨its,rv,ht,hz⟩:=I.tuple (ZF.of h)
   obtain⟨o,ho,hc,n,hd⟩:=ht
   obtain⟨as,ra⟩:=zdC I k ih _ _ _ hf r rv
   exact⟨_,.tuple ho hc hd (by simpa using ra)⟩
  | rl h r=>cases hf
  | ref h=>cases hf
  | exn _ _ _=>cases hf
end
theorem ze0:∀ (k:Nat) (d:D),fl k d=true->(YM d).canLay0=true/\(YM d).depth<=k:=by
 have all:∀ k,(∀ d,fl k d=true->(YM d).canLay0=true/\(YM d).depth<=k)->∀ ds:List D,ds.all (fl k)=true->PyData.canLayAll0 (Zc ds)=true/\PyData.depthAll (Zc ds)<=k:=by
  intro k h ds
  induction ds with
  | nil=>intro _;exact⟨rfl,qO _⟩
  | cons d ds ih =>
   intro hf
   rw [qax,qG] at hf
   obtain⟨a1,a2⟩:=h d hf.1
   obtain⟨b1,b2⟩:=ih hf.2
   refine⟨?_,?_⟩
   ·show (PyData.canLay0 (YM d)&&PyData.canLayAll0 (Zc ds))=true
    rw [a1,b1];rfl
   ·show max (PyData.depth (YM d)) (PyData.depthAll (Zc ds))<=k
    exact Nat.max_le.mpr ⟨a2,b2⟩
 intro k
 induction k with
 | zero =>
  intro d hf
  cases d with
  | non=>exact⟨rfl,qO _⟩
  | bl b=>exact⟨rfl,qO _⟩
  | int i=>exact⟨rfl,qO _⟩
  | str x=>exact⟨hf,qO _⟩
  | tup xs=>cases hf
  | ref n=>cases hf
  | exn _=>cases hf
  | ty n=>cases hf
  | rl xs=>cases hf
 | succ k ih =>
  intro d hf
  cases d with
  | non=>exact⟨rfl,qO _⟩
  | bl b=>exact⟨rfl,qO _⟩
  | int i=>exact⟨rfl,qO _⟩
  | str x=>exact⟨hf,qO _⟩
  | tup xs =>
   obtain⟨h1,h2⟩:=all k ih xs hf
   refine⟨h1,?_⟩
   show PyData.depthAll (Zc xs)+1<=k+1
   lia
  | ref n=>cases hf
  | exn _=>cases hf
  | ty n=>cases hf
  | rl xs=>cases hf
theorem zcL (k:Nat):∀ ds:List D,ds.all (fl k)=true->PyData.canLayAll0 (Zc ds)=true/\PyData.depthAll (Zc ds)<=k:=by
 intro ds
 induction ds with
 | nil=>intro _;exact⟨rfl,qO _⟩
 | cons d ds ih =>
  intro hf
  rw [qax,qG] at hf
  obtain⟨a1,a2⟩:=ze0 k d hf.1
  obtain⟨b1,b2⟩:=ih hf.2
  refine⟨?_,?_⟩
  ·show (PyData.canLay0 (YM d)&&PyData.canLayAll0 (Zc ds))=true
   rw [a1,b1];rfl
  ·show max (PyData.depth (YM d)) (PyData.depthAll (Zc ds))<=k
   exact Nat.max_le.mpr ⟨a2,b2⟩
mutual
theorem zju:∀ (k:Nat) (x y:D),fl k x=true->fl k y=true->PyData.eqv (YM x) (YM y)=eqv x y
  | k,.non,y,_,hy=>by cases y<;>first | rfl | (cases k<;>cases hy)
  | k,.bl a,y,_,hy=>by cases y<;>first | rfl | (cases k<;>cases hy)
  | k,.int i,y,_,hy=>by
    cases y with
    | int j=>show (i==j)=decide (i=j);rw [Bool.beq_eq_decide_eq]
    | ref n=>cases k<;>cases hy
    | exn n=>cases k<;>cases hy
    | ty n=>cases k<;>cases hy
    | rl n=>cases k<;>cases hy
    | _=>rfl
  | k,.str a,y,_,hy=>by cases y<;>first | rfl | (cases k<;>cases hy)
  | 0,.tup xs,y,hx,_=>by cases hx
  | k+1,.tup xs,y,hx,hy=>by
    cases y with
    | tup ys=>exact zfm k xs ys hx hy
    | ref n=>cases hy
    | ty n=>cases hy
    | rl n=>cases hy
    | _=>rfl
  | k,.ref n,y,hx,_=>by cases k<;>cases hx
  | k,.ty n,y,hx,_=>by cases k<;>cases hx
  | k,.rl n,y,hx,_=>by cases k<;>cases hx
  | k,.exn n,y,hx,_=>by cases k<;>cases hx
theorem zfm:∀ (k:Nat) (xs ys:List D),xs.all (fl k)=true->ys.all (fl k)=true->PyData.eqvAll (Zc xs) (Zc ys)=eqvAll xs ys
  | k,[],[],_,_=>rfl
  | k,[],y::ys,_,_=>rfl
  | k,x::xs,[],_,_=>rfl
  | k,x::xs,y::ys,hx,hy=>by
    rw [qax,qG] at hx hy
    show (PyData.eqv (YM x) (YM y)&&PyData.eqvAll (Zc xs) (Zc ys))=(eqv x y&&eqvAll xs ys)
    rw [zju k x y hx.1 hy.1,zfm k xs ys hx.2 hy.2]
end
def V3 (xss:List (List D)):List PyData:=xss.map fun zs=>.list (Zc zs)
theorem zmb:∀ xss:List (List D),zf0 xss=true->PyData.canLayAll0 (V3 xss)=true/\PyData.depthAll (V3 xss)<=21
 | [],_=>⟨rfl,qO _⟩
 | zs::xss,h=>by
  unfold zf0 at h
  rw [qax,qG] at h
  obtain⟨a1,a2⟩:=zcL 20 zs h.1
  obtain⟨b1,b2⟩:=zmb xss h.2
  refine⟨?_,?_⟩
  ·show (PyData.canLayAll0 (Zc zs)&&PyData.canLayAll0 (V3 xss))=true
   rw [a1,b1];rfl
  ·show max (PyData.depthAll (Zc zs)+1) (PyData.depthAll (V3 xss))<=21
   exact Nat.max_le.mpr ⟨by lia,b2⟩
theorem zp9:∀ xss yss:List (List D),zf0 xss=true->zf0 yss=true->PyData.eqvAll (V3 xss) (V3 yss)=eqvAll (xss.map D.tup) (yss.map D.tup)
 | [],[],_,_=>rfl
 | [],_::_,_,_=>rfl
 | _::_,[],_,_=>rfl
 | zs::xss,ws::yss,h,k=>by
  unfold zf0 at h k
  rw [qax,qG] at h k
  show (PyData.eqvAll (Zc zs) (Zc ws)&&PyData.eqvAll (V3 xss) (V3 yss))=(eqvAll zs ws&&eqvAll (xss.map D.tup) (yss.map D.tup))
  rw [zfm 20 zs ws h.1 k.1,zp9 xss yss h.2 k.2]
theorem ziA {Z9:List (Addr×Obj)}{U:L2.St}{H:Hp}{s:Shared}{ad:List Addr}{S:Z5}(I:Inv X Z9 U H s)(st:zN X.K ad H S):∀ (xs:List D) (xss:List (List D)) (vs:List V) (us:List Value),ziH S xs xss->zf0 xss=true->zF X.K ad H xs vs->Vals vs us->∃ as,ReadsAll s.heap us (V3 xss) as
 | [],[],_,_,_,_,r,rv=>by cases r;cases rv;exact⟨_,.nil⟩
 | [],_::_,_,_,h,_,_,_=>h.elim
 | _::_,[],_,_,h,_,_,_=>h.elim
 | x::xs,zs::xss,_,_,h,f,r,rv=>by
  unfold zf0 at f
  rw [qax,qG] at f
  cases r with
  | cons r t =>
   obtain⟨a1,vs1,rfl,s1,r1⟩:=h.1.sq st r
   cases rv with
   | cons q qt =>
    cases q
    obtain⟨its,rv1,ht,hz⟩:=I.list s1
    obtain⟨o,ho,hc,n,hd⟩:=ht.isList
    obtain⟨as,ra⟩:=zdC I 20 (zbS I 20) _ _ _ f.1 r1 rv1
    obtain⟨bs,rb⟩:=ziA I st xs xss _ _ h.2 f.2 t qt
    exact⟨_,.cons (.list ho hc hd (by simpa using ra)) rb⟩
def zwL (X:Cx)(g:Bool->Bool):R2:=fun x y H Q=>∃ ad S dx dy b,zN X.K ad H S/\Rel X.K ad H dx x/\Rel X.K ad H dy y/\EqD S dx dy b/\Q (.bl (g b)) H
theorem zkq {Z9:List (Addr×Obj)}{U:L2.St}{H:Hp}{s:Shared}{ad:List Addr}{S:Z5}{dx dy:D}{x y:V}{v u:Value}{b:Bool}(I:Inv X Z9 U H s)(st:zN X.K ad H S)(rx:Rel X.K ad H dx x)(ry:Rel X.K ad H dy y)(qx:RelV x v)(qy:RelV y u)(h:EqD S dx dy b) :
  ∃ px py as bs,Reads s.heap v px as/\Reads s.heap u py bs/\px.canLay0=true/\py.canLay0=true/\min px.depth py.depth<=60/\PyData.eqv px py=b:=by
 rcases h with ⟨fx,fy,rfl⟩ | ⟨xs,ys,hx,hy,fx,fy,rfl⟩ | ⟨xs,ys,xss,yss,hx,hy,lx,ly,fx,fy,rfl⟩
 ·obtain⟨as,ra⟩:=zbS I 20 dx x v fx rx qx
  obtain⟨bs,rb⟩:=zbS I 20 dy y u fy ry qy
  obtain⟨c1,d1⟩:=ze0 20 dx fx
  obtain⟨c2,d2⟩:=ze0 20 dy fy
  exact⟨_,_,as,bs,ra,rb,c1,c2,by lia,zju 20 dx dy fx fy⟩
 ·obtain⟨a1,vs1,rfl,s1,r1⟩:=hx.sq st rx
  obtain⟨a2,vs2,rfl,s2,r2⟩:=hy.sq st ry
  cases qx
  cases qy
  obtain⟨its,rv,ht,hz⟩:=I.list s1
  obtain⟨its2,rv2,ht2,hz2⟩:=I.list s2
  obtain⟨o,ho,hc,n,hd⟩:=ht.isList
  obtain⟨o2,ho2,hc2,n2,hd2⟩:=ht2.isList
  obtain⟨as,ra⟩:=zdC I 20 (zbS I 20) _ _ _ fx r1 rv
  obtain⟨bs,rb⟩:=zdC I 20 (zbS I 20) _ _ _ fy r2 rv2
  obtain⟨c1,d1⟩:=zcL 20 xs fx
  obtain⟨c2,d2⟩:=zcL 20 ys fy
  refine⟨.list (Zc xs),.list (Zc ys),_,_,.list ho hc hd (by simpa using ra),.list ho2 hc2 hd2 (by simpa using rb),c1,c2,?_,zfm 20 xs ys fx fy⟩
  show min (PyData.depthAll (Zc xs)+1) (PyData.depthAll (Zc ys)+1)<=60
  lia
 ·obtain⟨a1,vs1,rfl,s1,r1⟩:=hx.sq st rx
  obtain⟨a2,vs2,rfl,s2,r2⟩:=hy.sq st ry
  cases qx
  cases qy
  obtain⟨its,rv,ht,hz⟩:=I.list s1
  obtain⟨its2,rv2,ht2,hz2⟩:=I.list s2
  obtain⟨o,ho,hc,n,hd⟩:=ht.isList
  obtain⟨o2,ho2,hc2,n2,hd2⟩:=ht2.isList
  obtain⟨as,ra⟩:=ziA I st xs xss _ _ lx fx r1 rv
  obtain⟨bs,rb⟩:=ziA I st ys yss _ _ ly fy r2 rv2
  obtain⟨c1,d1⟩:=zmb xss fx
  obtain⟨c2,d2⟩:=zmb yss fy
  refine⟨.list (V3 xss),.list (V3 yss),_,_,.list ho hc hd (by simpa using ra),.list ho2 hc2 hd2 (by simpa using rb),c1,c2,?_,zp9 xss yss fx fy⟩
  show min (PyData.depthAll (V3 xss)+1) (PyData.depthAll (V3 yss)+1)<=60
  lia
theorem Xj {k:Nat}(hr:Zg k X.A):OC X .Eq oEq:=⟨zwL X id,fun Z9 s U H x y v u Q I qx qy ⟨ad,S,dx,dy,b,st,rx,ry,h,q⟩=>by
  obtain⟨px,py,as,bs,ra,rb,c1,c2,hd,e⟩:=zkq I st rx ry qx qy h
  have hu:=hr.units
  exact PySem.SeqAt.rcAt_reads ra rb c1 c2 (by lia) X.prog X.w X.xe _ ⟨.bl _,H,I,by rw [e];rfl,q⟩,
 fun ad H S x y v u Q0 Q st rx ry ⟨b,h,q⟩ k=>⟨ad,S,x,y,b,st,rx,ry,h,k _ S _ H ad q Wd.refl st (.bl _)⟩⟩
theorem zex {k:Nat}(hr:Zg k X.A):OC X .NotEq V8:=⟨zwL X (!·),fun Z9 s U H x y v u Q I qx qy ⟨ad,S,dx,dy,b,st,rx,ry,h,q⟩=>by
  obtain⟨px,py,as,bs,ra,rb,c1,c2,hd,e⟩:=zkq I st rx ry qx qy h
  have hu:=hr.units
  exact PySem.SeqAt.rcNeAt_reads ra rb c1 c2 (by lia) X.prog X.w X.xe _ ⟨.bl _,H,I,by rw [e];rfl,q⟩,
 fun ad H S x y v u Q0 Q st rx ry ⟨b,h,q⟩ k=>⟨ad,S,x,y,b,st,rx,ry,h,k _ S _ H ad q Wd.refl st (.bl _)⟩⟩
theorem zkA {K:PySem.W.Frag}{ad:List Addr}{H:Hp}{d:D}{v:V}(r:Rel K ad H d v):decide (v=.non)=zi0 d:=by
  cases r<;>rfl
theorem zvR:Zk X (compareOp .Is) (rB0 fun i j=>.bl (i==j)):=fun Z9 s U H x y v u Q I rx ry ⟨i,j,ex,ey,q⟩=>by
 subst ex ey
 cases rx
 cases ry
 exact is_bool ⟨.bl _,H,I,rfl,q⟩
theorem zts:Zk X (compareOp .IsNot) (rB0 fun i j=>.bl (!(i==j))):=fun Z9 s U H x y v u Q I rx ry ⟨i,j,ex,ey,q⟩=>by
 subst ex ey
 cases rx
 cases ry
 exact isnot_bool ⟨.bl _,H,I,rfl,q⟩
theorem znQ:OC X .Is oIs:=⟨_,zxZ.or zvR,fun ad H S x y v u Q0 Q st rx ry h k=>by
 rcases h with ⟨rfl,q⟩ | ⟨a,b,rfl,rfl,q⟩
 ·cases ry
  exact .inl ⟨rfl,by rw [zkA rx];exact k _ S _ H ad q Wd.refl st (.bl _)⟩
 ·cases rx
  cases ry
  exact .inr ⟨a,b,rfl,rfl,k _ S _ H ad q Wd.refl st (.bl _)⟩⟩
theorem zfM:OC X .IsNot zfu:=⟨_,zuT.or zts,fun ad H S x y v u Q0 Q st rx ry h k=>by
 rcases h with ⟨rfl,q⟩ | ⟨a,b,rfl,rfl,q⟩
 ·cases ry
  exact .inl ⟨rfl,by rw [zkA rx];exact k _ S _ H ad q Wd.refl st (.bl _)⟩
 ·cases rx
  cases ry
  exact .inr ⟨a,b,rfl,rfl,k _ S _ H ad q Wd.refl st (.bl _)⟩⟩
theorem Wf {op:CmpOp}{r':Zb}(o:OC X op r')(ha:PD X a ta)(hb:PD X b tb)(h:op≠.In:=by decide)(h2:op≠.NotIn:=by decide):PD X (.Compare a [op] [b] pos) (Z7 r' ta tb):=by
 with_unfolding_all
  obtain⟨r,ho,od⟩:=o
  exact YC (zm1 ho ha hb (zqi _ h h2)) fun _ _ _=>zhy od
theorem zK {op:CmpOp}{r':Zb}(o:OC X op r')(ha:PD X a ta)(hb:PD X b tb)(h:op≠.In:=by decide)(h2:op≠.NotIn:=by decide):WL X (.Compare a [op] [b] pos) (dT (Z7 r' ta tb)):=by
 with_unfolding_all
  obtain⟨r,ho,od⟩:=o
  refine zfB (zm6 ho ha hb (zqi _ h h2)) fun U H Q hh=>Zv hh fun ad Z S Q0 st rh q k=>?_
  refine zhy (Q:=fun x H'=>∃ k,x=.bl k/\Q k H') od ⟨ad,Z,S,_,st,rh,q,fun d S' v H' ad' ⟨b,e,q'⟩ w st' r=>?_⟩
  subst e
  cases r
  exact⟨b,rfl,k b S' H' ad' q' w st'⟩
theorem zr3 {K:PySem.W.Frag}{r1' r2':Zb}{r1 r2:R2}(o1:OD K r1' r1)(o2:OD K r2' r2){U:L2.St}{H:Hp}{Q:VK}(h:up K (zhc r1' r2' ta tb tc) U H Q):zpn r1 r2 (up K ta) (up K tb) (up K tc) U H Q:=by
 obtain⟨ad,Z,S,Q0,st,rh,q,k⟩:=h
 refine⟨ad,Z,S,_,st,rh,q,fun x S1 v H1 ad1 q1 w1 st1 rx=>?_⟩
 refine⟨ad1,Z,S1,_,st1,rh.wd w1,q1,fun y S2 u H2 ad2 q2 w2 st2 ry=>?_⟩
 refine o1 ad2 H2 S2 x y v u _ _ st2 (rx.wd w2) ry q2 fun z S3 z' H3 ad3 ⟨c,e,q3⟩ w3 st3 rz=>?_
 subst e
 cases rz
 refine⟨c,rfl,?_⟩
 cases c with
 | true =>
  rw [if_pos rfl] at q3 ⊢
  refine⟨ad3,Z,S3,_,st3,rh.wd ((w1.trans w2).trans w3),q3,fun z S4 z' H4 ad4 q4 w4 st4 rz=>?_⟩
  exact o2 ad4 H4 S4 y z u z' Q0 Q st4 (ry.wd (w3.trans w4)) rz q4 (k.wd (((w1.trans w2).trans w3).trans w4))
 | false =>
  rw [if_neg qu] at q3 ⊢
  exact k _ S3 _ H3 ad3 q3 ((w1.trans w2).trans w3) st3 (.bl _)
theorem W3 {e:Expr}{t:DE}(h:PD X e t)(he:∀ whole,isTrue e X.env whole=(do let v <- whole;standAt e.pos;holding [v] (truthy v)):=by intro _;rfl):WL X e (dT t):=by with_unfolding_all exact (zfB (zwM h he) fun U H Q hh=>Zv hh fun ad Z S Q0 st rh q k =>
 ⟨ad,Z,S,_,st,rh,q,fun d S' v H' ad' ⟨b,e,q'⟩ w st' r=>by
  subst e
  cases r
  exact⟨b,rfl,k b S' H' ad' q' w st'⟩⟩)
theorem zkw {op op':CmpOp}{r1 r2:Zb}(o1:OC X op r1)(o2:OC X op' r2)(ha:PD X a ta)(hb:PD X b tb)(hc:PD X c tc)(hm:lastMarks [op,op'] [b,c]=false:=by with_unfolding_all rfl):WL X (.Compare a [op,op'] [b,c] pos) (dT (zhc r1 r2 ta tb tc)):=by
 with_unfolding_all
  obtain⟨s1,h1,d1⟩:=o1
  obtain⟨s2,h2,d2⟩:=o2
  refine zfB (zrK h1 h2 ha hb hc hm) fun U H Q hh=>Zv hh fun ad Z S Q0 st rh q k=>?_
  refine zr3 (Q:=fun x H'=>∃ k,x=.bl k/\Q k H') d1 d2 ⟨ad,Z,S,_,st,rh,q,fun d S' v H' ad' ⟨b,e,q'⟩ w st' r=>?_⟩
  subst e
  cases r
  exact⟨b,rfl,k b S' H' ad' q' w st'⟩
variable {tA tB':DT}{rest:List Expr}
theorem Wq (h:WL X a tA):WL X (.UnaryOp .Not a pos) (WW tA):=by with_unfolding_all exact (zfB (zvb h) fun U H Q hh=>Zv hh fun ad Z S Q0 st rh q k=>⟨ad,Z,S,_,st,rh,q,fun b S' H' ad' q' w st'=>k _ S' H' ad' q' w st'⟩)
theorem Xn {e:Expr}{t:DT}(h:PWD X e t):WL X e t:=by with_unfolding_all exact (h _)
theorem zch (ha:WL X a tA):PWD X (.BoolOp .And [a] pos) tA:=by with_unfolding_all exact (zut ha)
theorem zcm (ha:WL X a tA):PWD X (.BoolOp .Or [a] pos) tA:=by with_unfolding_all exact (zuP ha)
theorem zb1 (ha:WL X a tA)(hb:PWD X (.BoolOp .And (b::rest) pos) tB'):PWD X (.BoolOp .And (a::b::rest) pos) (zdH tA tB'):=by with_unfolding_all exact (znm (zuA ha hb) fun U H Q hh=>Zv hh fun ad Z S Q0 st rh q k =>
 ⟨ad,Z,S,_,st,rh,q,fun b S' H' ad' q' w st'=>by
  cases b with
  | true=>rw [if_pos rfl] at q' ⊢;exact⟨ad',Z,S',Q0,st',rh.wd w,q',fun b S' H' ad' q w'=>k b S' H' ad' q (w.trans w')⟩
  | false=>rw [if_neg qu] at q' ⊢;exact k _ S' H' ad' q' w st'⟩)
theorem zcO (ha:WL X a tA)(hb:PWD X (.BoolOp .Or (b::rest) pos) tB'):PWD X (.BoolOp .Or (a::b::rest) pos) (dOr tA tB'):=by with_unfolding_all exact (znm (zwX ha hb) fun U H Q hh=>Zv hh fun ad Z S Q0 st rh q k =>
 ⟨ad,Z,S,_,st,rh,q,fun b S' H' ad' q' w st'=>by
  cases b with
  | false=>rw [if_neg qu] at q' ⊢;exact⟨ad',Z,S',Q0,st',rh.wd w,q',fun b S' H' ad' q w'=>k b S' H' ad' q (w.trans w')⟩
  | true=>rw [if_pos rfl] at q' ⊢;exact k _ S' H' ad' q' w st'⟩)
theorem zeS {op}{t:DE}(h:PD X a t):PD X (.BoolOp op [a] pos) t:=by with_unfolding_all exact (zwh h)
theorem zdF (ha:PD X a ta)(hb:PD X (.BoolOp .And (b::rest) pos) tb):PD X (.BoolOp .And (a::b::rest) pos) (zeA ta tb):=by with_unfolding_all exact (YC (zwo ha hb) fun U H Q hh=>Zv hh fun ad Z S Q0 st rh q k =>
 ⟨ad,Z,S,_,st,rh,q,fun d S' v H' ad' ⟨c,e,q'⟩ w st' r=>by
  subst e
  cases r
  refine⟨c,rfl,?_⟩
  cases c with
  | true=>rw [if_pos rfl] at q' ⊢;exact⟨ad',Z,S',Q0,st',rh.wd w,q',k.wd w⟩
  | false=>rw [if_neg qu] at q' ⊢;exact k _ S' _ H' ad' q' w st' (.bl _)⟩)
theorem zo6 (ha:PD X a ta)(hb:PD X (.BoolOp .Or (b::rest) pos) tb):PD X (.BoolOp .Or (a::b::rest) pos) (zoH ta tb):=by with_unfolding_all exact (YC (zw7 ha hb) fun U H Q hh=>Zv hh fun ad Z S Q0 st rh q k =>
 ⟨ad,Z,S,_,st,rh,q,fun d S' v H' ad' ⟨c,e,q'⟩ w st' r=>by
  subst e
  cases r
  refine⟨c,rfl,?_⟩
  cases c with
  | false=>rw [if_neg qu] at q' ⊢;exact⟨ad',Z,S',Q0,st',rh.wd w,q',k.wd w⟩
  | true=>rw [if_pos rfl] at q' ⊢;exact k _ S' _ H' ad' q' w st' (.bl _)⟩)
theorem zeI (ha:PD X a ta):PD X (.UnaryOp .Not a pos) (zfd ta):=by with_unfolding_all exact (YC (zwF ha) fun U H Q hh=>Zv hh fun ad Z S Q0 st rh q k =>
 ⟨ad,Z,S,_,st,rh,q,fun d S' v H' ad' ⟨c,e,q'⟩ w st' r=>by
  subst e
  cases r
  exact⟨c,rfl,k _ S' _ H' ad' q' w st' (.bl _)⟩⟩)
theorem zjq (hc:WL X c tA)(ha:PD X a ta)(hb:PD X b tb):PD X (.IfExp c a b pos) (zjF tA ta tb):=by with_unfolding_all exact (YC (zr6 hc ha hb) fun U H Q hh=>Zv hh fun ad Z S Q0 st rh q k =>
 ⟨ad,Z,S,_,st,rh,q,fun b S' H' ad' q' w st'=>by
  cases b with
  | true=>rw [if_pos rfl] at q' ⊢;exact⟨ad',Z,S',Q0,st',rh.wd w,q',k.wd w⟩
  | false=>rw [if_neg qu] at q' ⊢;exact⟨ad',Z,S',Q0,st',rh.wd w,q',k.wd w⟩⟩)
end
section
variable {X:Cx}{a b e:Expr}{es:List Expr}{ta tb te:DE}{t:DA}{pos:Pos}
theorem zm:PAD X [] zG:=by with_unfolding_all exact (znr zwd fun U H Q hh=>Zv hh fun ad Z S Q0 st rh q k=>k [] S [] H ad q Wd.refl st .nil)
theorem zc (ha:PD X e te)(hr:PAD X es t)(hs:starEach (e::es) X.env=(false,eval e X.env)::starEach es X.env:=by exact zbq rfl):PAD X (e::es) (zf te t):=by with_unfolding_all exact (znr (zs0 ha hr hs) fun U H Q hh=>Zv hh fun ad Z S Q0 st rh q k =>
 ⟨ad,Z,S,_,st,rh,q,fun d S1 v H1 ad1 q1 w1 st1 r1=>⟨ad1,Z,S1,_,st1,rh.wd w1,q1,fun ds S2 vs H2 ad2 q2 w2 st2 r2=>k _ S2 _ H2 ad2 q2 (w1.trans w2) st2 (.cons (r1.wd w2) r2)⟩⟩)
theorem z9 {x1}(h:PAD X es t):PD X (.Tuple es x1 pos) (dTup t):=by with_unfolding_all exact (YC (zwA h) fun U H Q hh=>Zv hh fun ad Z S Q0 st rh q k =>
 ⟨ad,Z,S,_,st,rh,q,fun ds S1 vs H1 ad1 ⟨hz,q1⟩ w1 st1 r1=>⟨by rw [<- r1.length];exact zcN hz,fun p hp=>zjp st1 (k.wd w1) r1 q1 p hp⟩⟩)
theorem Xd (h:PAD X es t):PD X (.List es pos) (Xx t):=by with_unfolding_all exact (YC (zwP h) fun U H Q hh=>Zv hh fun ad Z S Q0 st rh q k =>
 ⟨ad,Z,S,_,st,rh,q,fun ds S1 vs H1 ad1 ⟨hz,q1⟩ w1 st1 r1=>⟨by rw [<- r1.length];exact zcN hz,fun p hp=>zfQ st1 (k.wd w1) r1 q1 p hp⟩⟩)
theorem zuU {xs:List D}{i:Int}{d:D}(h:Y8 xs i=some d){K:PySem.W.Frag}{ad:List Addr}{H:Hp}{vs:List V}(r:zF K ad H xs vs):∃ v,atI vs i=some v/\Rel K ad H d v:=by
 have e:ixN vs.length i=X5 xs.length i:=by rw [r.length];rfl
 unfold Y8 at h
 unfold atI
 rw [e]
 cases q:X5 xs.length i with
 | none=>rw [q] at h;cases h
 | some j =>
  rw [q] at h
  exact r.get h
theorem zy (ha:PD X a ta)(hb:PD X b tb)(hs:znh b:=by intro _ _;rfl):PD X (.Subscript a b pos) (Z7 ZW ta tb):=by with_unfolding_all exact (YC (zxR (zug.or (zvP.or zvf)) ha hb hs) fun _ _ _=>zhy fun ad H S x y v u Q0 Q st rx ry h k=>by
 rcases h with ⟨i,xs,d,ey,hx,e,q⟩ | ⟨z,i,c,rfl,rfl,hz,e,q⟩
 case inr =>
  cases rx
  cases ry
  exact .inr (.inr ⟨z,i,c,rfl,rfl,zcN hz,e,k _ S _ H ad q Wd.refl st (.str _)⟩)
 subst ey
 cases ry
 obtain⟨p,vs,rfl,hs,r⟩:=hx.sq st rx
 obtain⟨z,ez,rz⟩:=zuU e r
 rcases hs with hs | hs
 ·exact .inl ⟨p,vs,i,z,rfl,rfl,hs,ez,k _ S _ H ad q Wd.refl st rz⟩
 ·exact .inr (.inl ⟨p,vs,i,z,rfl,rfl,hs,ez,k _ S _ H ad q Wd.refl st rz⟩))
def upO (K:PySem.W.Frag)(t:Option DE):TO:=fun U H Q=>∃ ad Z S Q0,zN K ad H S/\YW K ad H Z U/\zid t Z S Q0/\∀ o S' H' ad',Q0 o S'->Wd ad H ad' H'->zN K ad' H' S'->Q o H'
theorem zhn:PO X none (upO X.K none):=fun Z9 s U H Q I hh=>Zv hh fun ad Z S Q0 st rh q k=>zsY Z9 s U H Q I (k none S H ad q Wd.refl st)
theorem zhz {t:DE}(h:PD X e t):PO X (some e) (upO X.K (some t)):=by with_unfolding_all exact (fun Z9 s U H Q I hh=>Zv hh fun ad Z S Q0 st rh q k=>zsT h Z9 s U H Q I ⟨ad,Z,S,_,st,rh,q,fun d S' v H' ad' ⟨i,e,q'⟩ w st' r=>by
 subst e
 cases r
 exact⟨i,rfl,k _ S' H' ad' q' w st'⟩⟩)
theorem zm4 {K:PySem.W.Frag}{ad:List Addr}{H:Hp}{xs:List D}{vs:List V}(lo hi:Option Int)(r:zF K ad H xs vs):zF K ad H (cutD xs lo hi) (zf1 vs lo hi):=by
  have e1:HT.sIx vs.length 0 lo=W4 xs.length 0 lo:=by
    rw [r.length];cases lo with
    | none=>rfl
    | some k=>show HT.sIx _ _ (some k)=_;unfold HT.sIx W4;first | rfl | (simp only [];split<;>lia)
  have e2:HT.sIx vs.length vs.length hi=W4 xs.length xs.length hi:=by
    rw [r.length];cases hi with
    | none=>rfl
    | some k=>show HT.sIx _ _ (some k)=_;unfold HT.sIx W4;first | rfl | (simp only [];split<;>lia)
  unfold cutD zf1
  rw [e1,e2]
  exact (r.drop _).take _
def zx5 (K:PySem.W.Frag):V->Option Int->Option Int->Hp->VK->Prop:=fun x lo hi H Q=>∃ a xs,x=.ref a/\ZF K H a xs /\
 ((HT.sIx xs.length 0 lo=0/\HT.sIx xs.length xs.length hi=xs.length)->Q (.ref a) H)/\(¬ (HT.sIx xs.length 0 lo=0/\HT.sIx xs.length xs.length hi=xs.length)->∀ p,H p=none->Q (.ref p) (upd H p (.tup (zf1 xs lo hi))))
theorem zkU {prog:Program}{w:World}{A:Around}{E:Value->Shared->Prop}{s:Shared}{t sl:Addr}{items:Array Value}{vl vu:Value}{lo hi:Option Int}{Q:Value->Shared->Prop}(ht:IsTup s.heap t items)(hs:s.heap.IsSliceOf sl vl vu .none)(pl:IsPart vl lo)(pu:IsPart vu hi)
  (hw:HT.sIx items.size 0 lo=0/\HT.sIx items.size items.size hi=items.size) (h:Q (.ref t) s):wpAny (model prog w) A (getItem (.ref t) (.ref sl)) Q E s:=by
 obtain⟨os,hos,hcs,hds⟩:=id hs
 have hTs:s.TypeIs (.ref sl) "slice":=⟨os,hos,hcs⟩
 unfold getItem
 try with_reducible refine wpAny_holding ?_
 first | refine wpAny_bind (wpAny_pure ?_) | skip
 refine wpAny_bind (wpAny_sequenceKey ht.typeIs (by decide) ?_)
 refine wpAny_bind (wpAny_callSpecial?_slot (name:=Str.ofString "__getitem__") ht.typeIs PyProof.Rows.slot_tuple_getitem
  (wpAny_call_entry PyProof.Rows.slot_tuple_getitem ht.typeIs PyProof.Rows.entry_tuple_getitem ?_ (PyProof.Rows.args_tuple_getitem _ _)))
 show wpAny _ _ (Builtin.Tuple.tupleItemsOf (.ref t) >>= _) _ _ s
 refine wpAny_bind (tupleItemsOf_ ht ?_)
 refine wpAny_bind (wpAny_typeOf hTs ?_)
 rw [if_pos (by decide)]
 refine wpAny_bind (HT.zeW hs pl pu ?_)
 show wpAny _ _ (if (((HT.sIx items.size 0 lo:Nat):Int)==0&&(1:Int)==1&&(HT.sIx items.size items.size hi-HT.sIx items.size 0 lo)==items.size)=true then _ else _) _ _ s
 rw [if_pos (by rw [hw.1,hw.2];simp)]
 unfold Builtin.Tuple.tupleIsExact
 refine wpAny_bind (wpAny_bind (wpAny_typeOf ht.typeIs (wpAny_pure ?_)))
 rw [if_pos (by decide)]
 refine wpAny_bind (wpAny_rule ?_)
 first
  | exact wpAny_pure ⟨_,rfl,wpAny_pure h⟩
  | exact wpAny_bind (wpAny_pure ⟨_,rfl,wpAny_pure h⟩)
  | exact wpAny_bind (wpAny_pure (wpAny_pure ⟨_,rfl,wpAny_pure h⟩))
  | trace_state
theorem zsV:SlR X (zx5 X.K):=by
 intro Z9 s U H x v vl vu lo hi sl Q I rx hs pl pu h
 obtain⟨a,xs,rfl,hx,q1,q2⟩:=h
 by_cases hw:HT.sIx xs.length 0 lo=0/\HT.sIx xs.length xs.length hi=xs.length
 ·cases rx
  obtain⟨its,r,ht,hz⟩:=I.tuple hx
  have hlen:its.toArray.size=xs.length:=by rw [qm];exact r.length.symm
  refine⟨"tuple",_,PyProof.Rows.slot_tuple_getitem.lookup,ht.typeIs,?_⟩
  exact zkU ht hs pl pu (by rw [hlen];exact hw) ⟨.ref a,H,I,rfl,q1 hw⟩
 ·exact zv8 Z9 s U H (.ref a) v vl vu lo hi sl Q I rx hs pl pu ⟨a,xs,rfl,hx,hw,q2 hw⟩
theorem zo2 {α:Type}(xs:List α)(lo hi:Option Int)(h1:W4 xs.length 0 lo=0)(h2:W4 xs.length xs.length hi=xs.length):cutD xs lo hi=xs:=by
 unfold cutD;rw [h1,h2];simp
theorem zj4 (n d:Nat)(o:Option Int):HT.sIx n d o=W4 n d o:=by
 cases o with
 | none=>rfl
 | some k=>rfl
theorem zkY {lo hi:Option Expr}{tl th:Option DE}{p2:Pos}(ha:PD X a ta)(hl:PO X lo (upO X.K tl))(hh:PO X hi (upO X.K th)):PD X (.Subscript a (.Slice lo hi none p2) pos) (dSl zij ta tl th):=by with_unfolding_all exact (YC (zr1 (zti.or (zsV.or zwm)) ha hl hh) fun U H Q hh=>Zv hh fun ad Z S Q0 st rh q k =>
 ⟨ad,Z,S,_,st,rh,q,fun x S1 v H1 ad1 q1 w1 st1 r1=>⟨ad1,Z,S1,_,st1,rh.wd w1,q1,fun l S2 H2 ad2 q2 w2 st2=>⟨ad2,Z,S2,_,st2,rh.wd (w1.trans w2),q2,fun h S3 H3 ad3 q3 w3 st3=>by
  have r3:=r1.wd (w2.trans w3)
  have k3:=k.wd ((w1.trans w2).trans w3)
  rcases q3 with ⟨xs,rfl,q3⟩ | ⟨xs,hx,q3⟩ | ⟨z,rfl,hz,q3⟩
  ·cases r3 with
   | tup h1 r =>
    refine .inr (.inl ⟨_,_,rfl,ZF.of h1,fun⟨z1,z2⟩=>?_,fun _ p hp=>zjp st3 k3 (zm4 _ _ r) q3 p hp⟩)
    rw [zj4,<- r.length] at z1 z2
    rw [zo2 xs _ _ z1 z2] at q3
    exact k3 _ S3 _ H3 ad3 q3 Wd.refl st3 (.tup h1 r)
  ·obtain⟨p,vs,rfl,hs,r⟩:=hx.sq st3 r3
   exact .inl ⟨p,vs,rfl,hs,fun l hl=>zfQ st3 k3 (zm4 _ _ r) q3 l hl⟩
  ·cases r3
   refine .inr (.inr ⟨z,rfl,zcN hz,?_⟩)
   have e:(⟨((z.cps.toList.drop (HT.sIx z.length 0 l)).take (HT.sIx z.length z.length h-HT.sIx z.length 0 l)).toArray⟩:Str)=zru z l h:=by
    unfold zru cutD
    rw [zj4,zj4,show z.length=z.cps.toList.length from qR.symm]
   rw [e]
   exact k3 _ S3 _ H3 ad3 q3 Wd.refl st3 (.str _)⟩⟩⟩)
end
end Dp
namespace Dp
open PySem PySem.Spec PyProof.Rows L2 My
variable [B:Bs]
section
variable {X:Cx}{a e:Expr}{es:List Expr}{ta te:DE}{t:DA}{pos p:Pos}
theorem zE {k j:Nat}{x:Str}{ps:List Str}{f:ZS}(G:Got X.prog X.w X.K X.mg X.base k x ps (Z4 X.K f))(hr:Zg j X.A)
  (ha:PAD X (e::es) t) (hk:k<=j:=by decide) (hg:Gl X x:=by rfl) (hdb:(x==("__debug__":Str))=false:=by decide) (he:starEach (e::es) X.env=(false,eval e X.env)::starEach es X.env:=by exact zbq rfl) (hpl:(backTo pos (starEach es X.env)).any (·.1)=false:=by exact zcX rfl) :
  PD X (.Call (.Name x p) (e::es) [] pos) (dCall f t):=by with_unfolding_all exact (YC (zwu G hr hk hg ha hdb he hpl) fun U H Q hh=>Zv hh fun ad Z S Q0 st rh q k =>
 ⟨ad,Z,S,_,st,rh,q,fun ds S1 vs H1 ad1 q1 w1 st1 r1=>by
  show Z4 X.K f (vs++[]) H1 Q E0
  rw [qU];exact⟨ad1,S1,ds,Q0,st1.base,r1,q1,(k.wd w1).base st1⟩⟩)
def BD (K:PySem.W.Frag)(r':DB)(r:List V->Hp->VK->Prop):Prop:=∀ ad H S ds vs Q0 Q,zN K ad H S->zF K ad H ds vs->r' ds S Q0->KK K ad H Q0 Q->r vs H Q
def BC (X:Cx)(f:Value)(r':DB):Prop:=∃ r,YF X f r/\BD X.K r' r
theorem ZK {x:Str}{id:String}{r':DB}(o:BC X (.builtin id) r')(hm:X.mg x=none)(hv:bootBuiltins x=some (.builtin id))(ha:PAD X (e::es) t)(hg:Gl X x:=by rfl)(hn:x≠"__name__":=by decide)(hdb:(x==("__debug__":Str))=false:=by decide)
  (he:starEach (e::es) X.env=(false,eval e X.env)::starEach es X.env:=by exact zbq rfl) (hpl:(backTo pos (starEach es X.env)).any (·.1)=false:=by exact zcX rfl):PD X (.Call (.Name x p) (e::es) [] pos) (dB r' t):=by
 with_unfolding_all
  obtain⟨r,ho,od⟩:=o
  exact YC (zrp ho hg hm hv ha hn hdb he hpl) fun U H Q hh=>Zv hh fun ad Z S Q0 st rh q k =>
   ⟨ad,Z,S,_,st,rh,q,fun ds S1 vs H1 ad1 q1 w1 st1 r1=>od ad1 H1 S1 ds vs Q0 Q st1 r1 q1 (k.wd w1)⟩
theorem zf2 {x:Str}{T:String}{r':DB}(o:BC X (.type T) r')(hm:X.mg x=none)(hv:bootBuiltins x=some (.type T))(ha:PAD X (e::es) t)(hg:Gl X x:=by rfl)(hn:x≠"__name__":=by decide)(hdb:(x==("__debug__":Str))=false:=by decide)
  (he:starEach (e::es) X.env=(false,eval e X.env)::starEach es X.env:=by exact zbq rfl) (hpl:(backTo pos (starEach es X.env)).any (·.1)=false:=by exact zcX rfl):PD X (.Call (.Name x p) (e::es) [] pos) (dB r' t):=by
 with_unfolding_all
  obtain⟨r,ho,od⟩:=o
  exact YC (zpo ho hg hm hv ha hn hdb he hpl) fun U H Q hh=>Zv hh fun ad Z S Q0 st rh q k =>
   ⟨ad,Z,S,_,st,rh,q,fun ds S1 vs H1 ad1 q1 w1 st1 r1=>od ad1 H1 S1 ds vs Q0 Q st1 r1 q1 (k.wd w1)⟩
theorem X3 {K:PySem.W.Frag}{ad:List Addr}{H:Hp}{d:D}{vs:List V}(r:zF K ad H [d] vs):∃ v,vs=[v]/\Rel K ad H d v:=by
 cases r with
 | cons r t=>cases t;exact⟨_,rfl,r⟩
theorem zif {K:PySem.W.Frag}{ad:List Addr}{H:Hp}{d e:D}{vs:List V}(r:zF K ad H [d,e] vs):∃ v u,vs=[v,u]/\Rel K ad H d v/\Rel K ad H e u:=by
 cases r with
 | cons r t =>
  obtain⟨u,rfl,r2⟩:=X3 t
  exact⟨_,_,rfl,r,r2⟩
theorem Yr:BC X (.builtin "len") YK:=⟨_,zqj.or zmk,fun ad H S ds vs Q0 Q st r h k=>by
 rcases h with ⟨x,xs,e,hx,q⟩ | ⟨z,e,hz,q⟩
 case inr =>
  subst e
  obtain⟨v,rfl,rv⟩:=X3 r
  cases rv
  exact .inr ⟨z,rfl,zcN hz,k _ S _ H ad q Wd.refl st (.int _)⟩
 subst e
 obtain⟨v,rfl,rv⟩:=X3 r
 obtain⟨a,ws,rfl,hs,rs⟩:=hx.sq st rv
 exact .inl ⟨a,ws,rfl,hs,k _ S _ H ad (by rw [rs.length] at q;exact q) Wd.refl st (.int _)⟩⟩
theorem zuH:BC X (.builtin "abs") zsb:=⟨_,zqx,fun ad H S ds vs Q0 Q st r ⟨i,e,q⟩ k=>by
 subst e
 obtain⟨v,rfl,rv⟩:=X3 r
 cases rv
 exact⟨i,rfl,k _ S _ H ad q Wd.refl st (.int _)⟩⟩
theorem zvD (i j:Int):(if j > i then j else i)=max i j:=by
  rw [Int.max_def];split<;>split<;>lia
theorem zu6 (i j:Int):(if j<i then j else i)=min i j:=by
  rw [Int.min_def];split<;>split<;>lia
theorem zbH (hc:X.calm=true:=by rfl):BC X (.builtin "max") Wu:=⟨_,zqu hc,fun ad H S ds vs Q0 Q st r ⟨i,j,e,q⟩ k=>by
 subst e
 obtain⟨v,u,rfl,rv,ru⟩:=zif r
 cases rv
 cases ru
 exact⟨i,j,rfl,by rw [zvD];exact k _ S _ H ad q Wd.refl st (.int _)⟩⟩
theorem zc4 (hc:X.calm=true:=by rfl):BC X (.builtin "min") zd0:=⟨_,zqn hc,fun ad H S ds vs Q0 Q st r ⟨i,j,e,q⟩ k=>by
 subst e
 obtain⟨v,u,rfl,rv,ru⟩:=zif r
 cases rv
 cases ru
 exact⟨i,j,rfl,by rw [zu6];exact k _ S _ H ad q Wd.refl st (.int _)⟩⟩
theorem zto (hc:X.calm=true:=by rfl):BC X (.builtin "max") znU:=⟨_,zp6 rfl hc,fun ad H S ds vs Q0 Q st r ⟨x,ns,e,hx,h0,q⟩ k=>by
 subst e
 obtain⟨v,rfl,rv⟩:=X3 r
 obtain⟨a,ws,rfl,hs,rs⟩:=hx.sq st rv
 cases rs.ints
 exact⟨a,ns,rfl,hs,h0,fun m h1 h2=>k _ S _ H ad (q m h1 h2) Wd.refl st (.int _)⟩⟩
theorem zs8 (hc:X.calm=true:=by rfl):BC X (.builtin "min") znO:=⟨_,zqr rfl hc,fun ad H S ds vs Q0 Q st r ⟨x,ns,e,hx,h0,q⟩ k=>by
 subst e
 obtain⟨v,rfl,rv⟩:=X3 r
 obtain⟨a,ws,rfl,hs,rs⟩:=hx.sq st rv
 cases rs.ints
 exact⟨a,ns,rfl,hs,h0,fun m h1 h2=>k _ S _ H ad (q m h1 h2) Wd.refl st (.int _)⟩⟩
theorem zdp (hc:X.calm=true:=by rfl):BC X (.builtin "all") zef:=⟨_,zpc rfl hc,fun ad H S ds vs Q0 Q st r ⟨x,ns,e,hx,q⟩ k=>by
 subst e
 obtain⟨v,rfl,rv⟩:=X3 r
 obtain⟨a,ws,rfl,hs,rs⟩:=hx.sq st rv
 cases rs.bls
 exact⟨a,ns,rfl,hs,k _ S _ H ad q Wd.refl st (.bl _)⟩⟩
theorem zge:BC X (.type "tuple") zfL:=⟨_,zqI rfl,fun ad H S ds vs Q0 Q st r ⟨x,xs,e,hx,q⟩ k=>by
 subst e
 obtain⟨v,rfl,rv⟩:=X3 r
 rcases hx with rfl | hx
 ·cases rv with
  | tup h rr=>exact⟨_,_,rfl,.inr ⟨ZF.of h,k _ S _ H ad q Wd.refl st (.tup h rr)⟩⟩
 ·obtain⟨a,ws,rfl,hs,rs⟩:=hx.sq st rv
  exact⟨a,ws,rfl,.inl ⟨hs,fun l hl=>zjp st k rs q l hl⟩⟩⟩
theorem zjL:BC X (.type "list") zjm:=⟨_,zoD,fun ad H S ds vs Q0 Q st r ⟨x,xs,e,hx,q⟩ k=>by
 subst e
 obtain⟨v,rfl,rv⟩:=X3 r
 obtain⟨a,ws,rfl,hs,rs⟩:=hx.sq st rv
 exact⟨a,ws,rfl,hs,fun l hl=>zfQ st k rs q l hl⟩⟩
section
variable {K:PySem.W.Frag}
theorem ztL (t:String)(h:zjE t=true):PySem.W.kitOne K (.type "NoneType") (.type t)=some false/\PySem.W.kitOne K (.type "bool") (.type t)=some (t=="bool"||t=="int")/\PySem.W.kitOne K (.type "int") (.type t)=some (t=="int") /\
  PySem.W.kitOne K (.type "str") (.type t)=some (t=="str")/\PySem.W.kitOne K (.type "tuple") (.type t)=some (t=="tuple")/\PySem.W.kitOne K (.type "list") (.type t)=some (t=="list"):=by
 unfold zjE at h
 simp only [qaC,beq_iff_eq] at h
 rcases h with (((rfl | rfl) | rfl) | rfl) | rfl
 ·exact⟨by kernel_rfl,by kernel_rfl,by kernel_rfl,by kernel_rfl,by kernel_rfl,by kernel_rfl⟩
 ·exact⟨by kernel_rfl,by kernel_rfl,by kernel_rfl,by kernel_rfl,by kernel_rfl,by kernel_rfl⟩
 ·exact⟨by kernel_rfl,by kernel_rfl,by kernel_rfl,by kernel_rfl,by kernel_rfl,by kernel_rfl⟩
 ·exact⟨by kernel_rfl,by kernel_rfl,by kernel_rfl,by kernel_rfl,by kernel_rfl,by kernel_rfl⟩
 ·exact⟨by kernel_rfl,by kernel_rfl,by kernel_rfl,by kernel_rfl,by kernel_rfl,by kernel_rfl⟩
end
theorem ze1:BC X (.builtin "isinstance") zeK:=⟨_,zrZ,fun ad H S ds vs Q0 Q st r ⟨x,t,b,e,h,q⟩ k=>by
 subst e
 obtain⟨v,u,rfl,rv,ru⟩:=zif r
 cases ru
 have fin:=k _ S _ H ad q Wd.refl st (.bl b)
 unfold zwl at h
 split at h
 ·cases h
 rename_i hty
 have hty':zjE t=true:=by
  cases hh:zjE t
  ·exact absurd (by show (!zjE t)=true;rw [hh];rfl) hty
  ·rfl
 obtain⟨k1,k2,k3,k4,k5,k6⟩:=ztL (K:=X.K) t hty'
 cases rv with
 | non=>cases h;exact⟨_,_,_,_,rfl,.non,k1,fin⟩
 | bl c=>cases h;exact⟨_,_,_,_,rfl,.bl c,k2,fin⟩
 | int i=>cases h;exact⟨_,_,_,_,rfl,.int i,k3,fin⟩
 | str y=>cases h;exact⟨_,_,_,_,rfl,.str y,k4,fin⟩
 | ty n=>cases h
 | exn _ _ _=>cases h
 | tup ht rt=>cases h;exact⟨_,_,_,_,rfl,.tup ht,k5,fin⟩
 | rl hl rl=>cases h
 | @ref n a hn =>
  have h:(match S[n]? with | some (.lst _)=>some (t=="list") | _=>none)=some b:=h
  cases hS:S[n]? with
  | none=>rw [hS] at h;cases h
  | some c =>
   rw [hS] at h
   cases c with
   | ins c fs=>cases h
   | dk _=>cases h
   | dt _=>cases h
   | lst xs =>
    cases h
    obtain⟨vs,hv,_⟩:=st.cell n a _ hn hS
    exact⟨_,_,_,_,rfl,.lst hv,k6,fin⟩⟩
theorem znf:∀ {K:PySem.W.Frag} {ad:List Addr} {H:Hp} {cs:List (Int×Int)} {vs:List V},zF K ad H (cs.map p2) vs->∃ ps:List Addr,vs=ps.map V.ref/\zfj H ps cs
 | _,_,_,[],_,.nil=>⟨[],rfl,.nil⟩
 | _,_,_,c::cs,_,.cons r t=>by
  obtain⟨ps,rfl,h⟩:=znf t
  cases r with
  | tup h1 r1 =>
   obtain⟨v,u,rfl,rv,ru⟩:=zif r1
   cases rv
   cases ru
   exact⟨_::ps,rfl,.cons h1 h⟩
theorem zsQ:∀ {K:PySem.W.Frag} {ad:List Addr} {H:Hp} {cs:List (Int×Int)} {ps:List Addr},zfj H ps cs->zF K ad H (cs.map p2) (ps.map V.ref)
 | _,_,_,_,_,.nil=>.nil
 | _,_,_,_,_,.cons r t=>.cons (.tup r (.cons (.int _) (.cons (.int _) .nil))) (zsQ t)
theorem zvT (a b:Int×Int):Xg a b=zh8 a b:=by
 unfold Xg zh8
 by_cases h:a.1=b.1
 ·simp [h]
 ·simp [h]
theorem zqM:BC X (.builtin "sorted") zpr:=⟨_,zla rfl,fun ad H S ds vs Q0 Q st r ⟨x,cs,e,hx,h64,q⟩ k=>by
 subst e
 obtain⟨v,rfl,rv⟩:=X3 r
 obtain⟨a,ws,rfl,hs,rs⟩:=hx.sq st rv
 obtain⟨ps,rfl,hp⟩:=znf rs
 exact⟨a,ps,cs,rfl,hs,hp,h64,fun l ps' cs' hl hp' hperm hpw=>zfQ st k (zsQ hp') (q cs' hperm (hpw.imp fun h=>by rw [<- zvT];exact h)) l hl⟩⟩
def MD (X:Cx)(id:String)(r':DM):Prop:=∃ r,MtR X id r/\∀ ad H S x ds v vs Q0 Q,zN X.K ad H S->Rel X.K ad H x v->zF X.K ad H ds vs->r' x ds S Q0->KK X.K ad H Q0 Q->r v vs H Q
theorem zuJ {K:PySem.W.Frag}{ad:List Addr}{H:Hp}{S:Z5}{x:D}{v:V}(st:zN K ad H S)(h:∃ n ys,x=.ref n/\S[n]?=some (.lst ys))(r:Rel K ad H x v):tyV K "list" v H:=by
 obtain⟨n,ys,rfl,h⟩:=h
 cases r with
 | ref e =>
  obtain⟨vs,hv,_⟩:=st.cell n _ _ e h
  exact .inl ⟨rfl,vs,Zo.of hv⟩
theorem zfq {o:Expr}{to:DE}{name:Str}{id:String}{apos cpos:Pos}{r':DM}(slot:Slot "list" name id)(hty:typeOf (.builtin id)=pure (.type "method_descriptor"))(hm:MD X id r')(ho:PD X o to)(ha:PAD X (e::es) t)
  (hbase:attributeBase o name X.env (eval o X.env)=eval o X.env:=by rfl)
  (hfew:((backTo cpos (starEach (e::es) X.env)).all (fun x=>!x.1)&&(backToKw cpos (keywordEach [] X.env)).all (fun x=>x.1.isSome)
  &&decide ((e::es).length+([]:List Keyword).length+(if ([]:List Keyword).isEmpty then 0 else 1)<30))=true:=by rfl)
  (hline:(apos.endLine==cpos.line)=true:=by rfl) (hs:starEach (e::es) X.env=(false,eval e X.env)::starEach es X.env:=by exact zbq rfl) (hplain:(backTo cpos (starEach es X.env)).any (·.1)=false:=by exact zcX rfl) :
  PD X (.Call (.Attribute o name apos) (e::es) [] cpos) (dM r' to t):=by
 with_unfolding_all
  obtain⟨r,hr,od⟩:=hm
  exact YC (zxe PySem.F.plainAttrs_list slot hty hr ho ha hbase hfew hline hs hplain) fun U H Q hh=>Zv hh fun ad Z S Q0 st rh q k =>
   ⟨ad,Z,S,_,st,rh,q,fun x S1 v H1 ad1 ⟨hl,q1⟩ w1 st1 r1=>⟨zuJ st1 hl r1,ad1,Z,S1,_,st1,rh.wd w1,q1,fun ds S2 vs H2 ad2 q2 w2 st2 r2 =>
    od ad2 H2 S2 x ds v vs Q0 Q st2 (r1.wd w2) r2 q2 (k.wd (w1.trans w2))⟩⟩
theorem zcz:MD X "list.append" zcD:=⟨_,zkx,fun ad H S x ds v vs Q0 Q st rx r ⟨n,xs,y,ex,ey,hn,hl,q⟩ k=>by
 subst ex ey
 obtain⟨u,rfl,ru⟩:=X3 r
 cases rx with
 | ref e =>
  obtain⟨ws,hw,rw⟩:=st.cell n _ _ e hn
  exact⟨_,ws,u,rfl,rfl,hw,by rw [<- rw.length];exact ziZ hl,k _ _ _ _ ad q (Wd.put e hw) (st.put e hw (rw.append (.cons ru .nil))) .non⟩⟩
theorem zob:MD X "list.extend" ziw:=⟨_,zoR,fun ad H S x ds v vs Q0 Q st rx r h k=>by
 rcases h with ⟨n,xs,m,ys,ex,ey,hn,hm,hne,hl,q⟩ | ⟨n,xs,ys,ex,ey,hn,hl,q⟩
 ·subst ex ey
  obtain⟨u,rfl,ru⟩:=X3 r
  cases rx with
  | ref e =>
   cases ru with
   | ref e2 =>
    obtain⟨ws,hw,rw⟩:=st.cell n _ _ e hn
    obtain⟨ws2,hw2,rw2⟩:=st.cell m _ _ e2 hm
    exact .inl ⟨_,_,ws,ws2,rfl,rfl,hw,hw2,by rw [<- rw.length,<- rw2.length];exact zcN hl,k _ _ _ _ ad q (Wd.put e hw) (st.put e hw (rw.append rw2)) .non⟩
 ·subst ex ey
  obtain⟨u,rfl,ru⟩:=X3 r
  cases rx with
  | ref e =>
   cases ru with
   | tup h2 rw2 =>
    obtain⟨ws,hw,rw⟩:=st.cell n _ _ e hn
    exact .inr ⟨_,_,ws,_,rfl,rfl,hw,ZF.of h2,by rw [<- rw.length,<- rw2.length];exact zcN hl,k _ _ _ _ ad q (Wd.put e hw) (st.put e hw (rw.append rw2)) .non⟩⟩
end
end Dp
namespace Dp
open PySem PySem.Spec PyProof.Rows L2 My
variable [B:Bs]
def zgI (K:PySem.W.Frag)(b:Nat)(g':DG)(g:TG):Prop:=∀ ad H S Z U d v Q0 Q,zN K ad H S->YW K ad H Z U->Rel K ad H d v->g' d Z S Q0 ->
 (∀ ρ' S' σ' H' ad',Q0 ρ' S'->Wd ad H ad' H'->zN K ad' H' S'->YW K ad' H' ρ' σ'->σ'.length=U.length->(∀ j,b<=j->σ'[j]?=U[j]?)->Q σ' H')->g v U H Q
def zjh (K:PySem.W.Frag)(b:Nat)(g':DGs)(g:TGs):Prop:=∀ ad H S Z U ds vs Q0 Q,zN K ad H S->YW K ad H Z U->zF K ad H ds vs->g' ds Z S Q0 ->
 (∀ ρ' S' σ' H' ad',Q0 ρ' S'->Wd ad H ad' H'->zN K ad' H' S'->YW K ad' H' ρ' σ'->σ'.length=U.length->(∀ j,b<=j->σ'[j]?=U[j]?)->Q σ' H')->g vs U H Q
def PGD (X:Cx)(b:Nat)(tg:Expr)(g':DG):Prop:=∃ g,PG X tg g/\zgI X.K b g' g
def znM (X:Cx)(b:Nat)(tgs:List Expr)(g':DGs):Prop:=∃ g,PGs X tgs g/\zjh X.K b g' g
theorem YW.set {K:PySem.W.Frag}{ad:List Addr}{H:Hp}{Z:ZP}{U:L2.St}{d:D}{v:V}(h:YW K ad H Z U)(r:Rel K ad H d v)(i:Nat):YW K ad H (Z.set i (some d)) (U.set i (some v)) where
 len:=by rw [qap,qap];exact h.len
 val:=fun j e q=>by
  by_cases hj:j=i
  ·subst hj
   have hl:j<Z.length:=by have:=My.VR q;rw [qap] at this;exact this
   rw [qJ hl] at q
   cases q
   exact⟨v,qJ (by rw [<- h.len];exact hl),r⟩
  ·rw [qN (Ne.symm hj)] at q
   obtain⟨u,e1,r1⟩:=h.val j e q
   exact⟨u,by rw [qN (Ne.symm hj)];exact e1,r1⟩
section
variable {X:Cx}{pos:Pos}{b:Nat}
theorem za0 {K:PySem.W.Frag}(i:Nat)(hb:i<b):zgI K b (zu i) (L2.zu i):=fun ad H S Z U d v Q0 Q st rh r q k =>
 k _ S _ H ad q Wd.refl st (rh.set r i) (qap ..) fun j hj=>qN (by lia)
theorem zO {i:Nat}{x:Str}(hN:X.N.Nodup)(hi:X.N[i]?=some x:=by rfl)(hx:Loc X.env.scope x:=by first | exact Or.inl rfl | exact Or.inr rfl)(hf:X.fn x=true\/X.env.scope.names.lookup x=some .local:=by first | exact .inl rfl | exact .inr rfl | assumption)(hb:i<b:=by decide):PGD X b (.Name x pos) (zu i) :=
 ⟨_,zbF hN hi hx hf,za0 i hb⟩
theorem zbG:znM X b [] Yl:=⟨_,zfK,fun ad H S Z U ds vs Q0 Q st rh r ⟨e,q⟩ k=>by
 subst e
 cases r
 exact⟨rfl,k Z S U H ad q Wd.refl st rh rfl fun _ _=>rfl⟩⟩
theorem Y4 {e:Expr}{es:List Expr}{t:DG}{u:DGs}(h1:PGD X b e t)(h2:znM X b es u)(hs:(assignEach (e::es) X.env).map (·.2)=assign e X.env::(assignEach es X.env).map (·.2):=by rfl):znM X b (e::es) (Zt t u):=by
 obtain⟨g1,p1,r1⟩:=h1
 obtain⟨g2,p2,r2⟩:=h2
 refine⟨_,zbx p1 p2 hs,fun ad H S Z U ds vs Q0 Q st rh r ⟨d,rs,ed,q⟩ k=>?_⟩
 subst ed
 cases r with
 | cons r t =>
  refine⟨_,_,rfl,r1 ad H S Z U d _ _ _ st rh r q fun ρ1 S1 σ1 H1 ad1 q1 w1 st1 rh1 l1 a1=>?_⟩
  exact r2 ad1 H1 S1 ρ1 σ1 _ _ _ _ st1 rh1 (t.wd w1) q1 fun ρ2 S2 σ2 H2 ad2 q2 w2 st2 rh2 l2 a2=>k ρ2 S2 σ2 H2 ad2 q2 (w1.trans w2) st2 rh2 (l2.trans l1) fun j hj=>(a2 j hj).trans (a1 j hj)
theorem zbJ {es:List Expr}{k n:Nat}{t:DGs}(hc:X.calm=true)(h:znM X b es t)(hn:(assignEach es X.env).length=n:=by rfl)(hst:(assignEach es X.env).findIdx? (·.1)=none:=by rfl):PGD X b (.Tuple es k pos) (Ym n t):=by
 obtain⟨g,p,r⟩:=h
 refine⟨_,zgK hc p hn hst,fun ad H S Z U d v Q0 Q st rh rv ⟨xs,ed,hl,q⟩ k=>?_⟩
 subst ed
 cases rv with
 | tup h1 rs=>exact⟨_,_,rfl,ZF.of h1,by rw [<- rs.length];exact hl,r ad H S Z U xs _ _ _ st rh rs q k⟩
theorem zfG {o i:Expr}{to ti:DE}(ho:PD X o to)(hi:PD X i ti)
  (ha:∀ v,assign (.Subscript o i pos) X.env v=(do
   let ov <- holding [v] (eval o X.env)
   let iv <- holding [v,ov] (eval i X.env)
   standAt pos
   holding [v,ov,iv] (setItem ov iv v)
   release [v,ov,iv] []):=by intro _;rfl):PGD X b (.Subscript o i pos) (zgm to ti):=by with_unfolding_all exact (⟨_,zvB ho hi set_list ha,fun ad H S Z U d v Q0 Q st rh r q k=>⟨ad,Z,S,_,st,rh,q,fun x S1 u H1 ad1 q1 w1 st1 r1=>⟨ad1,Z,S1,_,st1,rh.wd w1,q1,fun y S2 z H2 ad2 q2 w2 st2 r2=>by
  obtain⟨n,xs,kk,j,ex,ey,hn,hj,q3⟩:=q2
  subst ex ey
  cases r2
  cases r1 with
  | ref e =>
   have e2:=zjA w2.pre e
   obtain⟨ws,hw,rw⟩:=st2.cell n _ _ e2 hn
   have rd:=r.wd (w1.trans w2)
   exact⟨_,ws,kk,j,rfl,rfl,hw,by rw [<- rw.length];exact hj,k Z _ U _ ad2 q3 ((w1.trans w2).trans (Wd.put e2 hw)) (st2.put e2 hw (rw.set rd j)) (rh.wd ((w1.trans w2).trans (Wd.put e2 hw))) rfl fun _ _=>rfl⟩⟩⟩⟩)
variable {st:Stmt}{sts:List Stmt}{t u:DS}{e:Expr}{te:DE}
theorem zM:zeh X [] zX:=by with_unfolding_all exact (zk9 zun fun E U H hh=>Zv hh fun ad Z S E0 so rh q k=>k.nx Z S U H ad q Wd.refl so rh)
theorem zp (h:W8 X st t):zeh X [st] t:=by with_unfolding_all exact (zuf h)
theorem zj (h1:W8 X st t)(h2:zeh X sts u):zeh X (st::sts) (zA t u):=by with_unfolding_all exact (zk9 (zqK h1 h2) fun E U H hh=>Zv hh fun ad Z S E0 so rh q k =>
 ⟨ad,Z,S,{ E0 with nx:=u E0 },so,rh,q,⟨fun ρ' S' σ' H' ad' q' w st' rh'=>⟨ad',ρ',S',E0,st',rh',q',k.wd w⟩,k.rt,k.bk,k.ct⟩⟩)
theorem zbb:W8 X st zcl:=by with_unfolding_all exact (VN zrT fun E U H hh=>Zv hh fun ad Z S E0 so rh q k=>q)
theorem zY (he:PD X e te)(hs:swapsWith e none pos.line X.env=pure false:=by rfl):W8 X (.Expr e pos) (Zd te):=by with_unfolding_all exact (VN (ztM he hs) fun E U H hh=>Zv hh fun ad Z S E0 so rh q k =>
 ⟨ad,Z,S,_,so,rh,q,fun d S' v H' ad' q' w st' r=>k.nx Z S' U H' ad' q' w st' (rh.wd w)⟩)
theorem zJ (he:PD X e te):W8 X (.Return (some e) pos) (zT te):=by with_unfolding_all exact (VN (zwi he) fun E U H hh=>Zv hh fun ad Z S E0 so rh q k=>⟨ad,Z,S,_,so,rh,q,k.rt⟩)
theorem zhD (h:W8 X st t):W8 X st (sJ t):=by with_unfolding_all exact (VN h fun E U H ⟨ad,Z,S,E0,so,rh,⟨J,hJ,q⟩,k⟩ =>
 ⟨ad,Z,S,{ E0 with nx:=J },so,rh,q,⟨fun ρ' S' σ' H' ad' q' w st' rh'=>k.nx ρ' S' σ' H' ad' (hJ _ _ q') w st' rh',k.rt,k.bk,k.ct⟩⟩)
theorem zP {c:Expr}{a b:List Stmt}{tc:DT}(hc:WL X c tc)(ha:zeh X a t)(hb:zeh X b u):W8 X (.If c a b pos) (ZJ tc t u):=by with_unfolding_all exact (VN (zxC hc ha hb) fun E U H hh=>Zv hh fun ad Z S E0 so rh q k =>
 ⟨ad,Z,S,_,so,rh,q,fun b S' H' ad' q' w st'=>by
  cases b with
  | true=>rw [if_pos rfl] at q' ⊢;exact⟨ad',Z,S',E0,st',rh.wd w,q',k.wd w⟩
  | false=>rw [if_neg qu] at q' ⊢;exact⟨ad',Z,S',E0,st',rh.wd w,q',k.wd w⟩⟩)
theorem zB {i:Nat}{x:Str}{pos':Pos}(hN:X.N.Nodup)(he:PD X e te)(hi:X.N[i]?=some x:=by rfl)(hx:Loc X.env.scope x:=by first | exact Or.inl rfl | exact Or.inr rfl)(hs:swapsWith e (some (.Name x pos')) pos.line X.env=pure false:=by rfl)(hf:X.fn x=true\/X.env.scope.names.lookup x=some .local:=by first | exact .inl rfl | exact .inr rfl | assumption) :
  W8 X (.Assign [.Name x pos'] e pos) (zL te (zu i)):=by with_unfolding_all exact (VN (zvk hN hi hx he hs hf) fun E U H hh=>Zv hh fun ad Z S E0 so rh q k =>
 ⟨ad,Z,S,_,so,rh,q,fun d S' v H' ad' q' w st' r=>k.nx _ S' _ H' ad' q' w st' ((rh.wd w).set r i)⟩)
theorem zeG {tg:Expr}{g:DG}(he:PD X e te)(hg:PGD X 1000 tg g)(hs:swapsWithSole [tg] e pos.line X.env=pure false:=by rfl)(hw:swappedStores [tg] e X.env=pure none:=by rfl)
  (h1:(assignEach [tg] X.env).map (·.2)=[assign tg X.env]:=by rfl):W8 X (.Assign [tg] e pos) (zL te g):=by
 with_unfolding_all
  obtain⟨g',p,r⟩:=hg
  exact VN (zvd he p hs hw h1) fun E U H hh=>Zv hh fun ad Z S E0 so rh q k =>
   ⟨ad,Z,S,_,so,rh,q,fun d S' v H' ad' q' w st' rv=>r ad' H' S' Z U d v _ _ st' (rh.wd w) rv q' fun ρ2 S2 σ2 H2 ad2 q2 w2 st2 rh2 _ _=>k.nx ρ2 S2 σ2 H2 ad2 q2 (w.trans w2) st2 rh2⟩
theorem ztF {i:Nat}{x:Str}{pos':Pos}(hN:X.N.Nodup)(he:PD X e te)(hi:X.N[i]?=some x:=by rfl)(hx:Loc X.env.scope x:=by first | exact Or.inl rfl | exact Or.inr rfl)(hf:X.fn x=true\/X.env.scope.names.lookup x=some .local:=by first | exact .inl rfl | exact .inr rfl | assumption) :
  W8 X (.AugAssign (.Name x pos') .Add e pos) (zrq i te):=by with_unfolding_all exact (VN (zvZ hN hi hx he zvM hf) fun E U H ⟨ad,Z,S,E0,so,rh,⟨a,ea,q⟩,k⟩=>by
 obtain⟨v,ev,rv⟩:=rh.val i _ ea
 cases rv
 refine⟨_,ev,ad,Z,S,_,so,rh,q,fun d S' v H' ad' ⟨b,eb,q'⟩ w st' r=>?_⟩
 subst eb
 cases r
 exact⟨a,b,rfl,rfl,k.nx _ S' _ H' ad' q' w st' ((rh.wd w).set (.int _) i)⟩)
theorem zfh {c:Expr}{body:List Stmt}{tc:DT}(hc:WL X c tc)(hb:zeh X body t)(hp:PassesOwn (model X.prog X.w) X.A X.env X.xe:=by first | exact PassesOwn.never | exact PassesOwn.leaving):W8 X (.While c body [] pos) (zeZ tc t):=by with_unfolding_all exact (VN (zrx hp hc hb) fun E U H ⟨ad,Z,S,E0,so,rh,⟨W,⟨m0,w0⟩,turn⟩,k⟩=>by
 refine⟨fun m σ' H'=>∃ ad' ρ' S',W m ρ' S'/\Wd ad H ad' H'/\zN X.K ad' H' S'/\YW X.K ad' H' ρ' σ',⟨m0,ad,Z,S,w0,Wd.refl,so,rh⟩,?_⟩
 rintro m σ1 H1 ⟨ad1,ρ1,S1,w1,d1,st1,rh1⟩
 refine⟨ad1,ρ1,S1,_,st1,rh1,turn m ρ1 S1 w1,fun b S2 H2 ad2 q2 d2 st2=>?_⟩
 cases b with
 | true =>
  rw [if_pos rfl] at q2 ⊢
  obtain⟨N,hN,q2⟩:=q2
  refine⟨fun σ' H'=>∃ ad' ρ' S',N ρ' S'/\Wd ad H ad' H'/\zN X.K ad' H' S'/\YW X.K ad' H' ρ' σ',?_,ad2,ρ1,S2,{ E0 with nx:=N,ct:=N,bk:=E0.nx },st2,rh1.wd d2,q2,?_⟩
  ·rintro σ' H' ⟨ad',ρ',S',n',d',st',rh'⟩
   obtain⟨m',hm,w'⟩:=hN ρ' S' n'
   exact⟨m',hm,ad',ρ',S',w',d',st',rh'⟩
  ·have d12:=d1.trans d2
   exact⟨fun ρ' S' σ' H' ad' q' w' st' rh'=>⟨ad',ρ',S',q',d12.trans w',st',rh'⟩,k.rt.wd d12,fun ρ' S' σ' H' ad' q' w' st' rh'=>k.nx ρ' S' σ' H' ad' q' (d12.trans w') st' rh',fun ρ' S' σ' H' ad' q' w' st' rh'=>⟨ad',ρ',S',q',d12.trans w',st',rh'⟩⟩
 | false =>
  rw [if_neg qu] at q2 ⊢
  exact k.nx ρ1 S2 σ1 H2 ad2 q2 (d1.trans d2) st2 (rh1.wd d2))
end
structure zfZ (K:PySem.W.Frag)(ad0:List Addr)(H0:Hp)(J0:DIt)(J:It):Prop where
 go:∀ ad H S i,Wd ad0 H0 ad H->zN K ad H S->J0.ok S->i<J0.items.length->J.go i H
 yld:∀ ad H S i d x H',Wd ad0 H0 ad H->zN K ad H S->J0.ok S->J0.items[i]?=some d->J.yld i H x H'->Wd ad H ad H'/\zN K ad H' S/\Rel K ad H' d x
 stop:∀ ad H S,Wd ad0 H0 ad H->zN K ad H S->J0.ok S->J.stop J0.items.length H
def upI (K:PySem.W.Frag)(wi:DI):TI:=fun U H R=>∃ ad Z S R0,zN K ad H S/\YW K ad H Z U/\wi Z S R0/\∀ J0 S' J H' ad',R0 J0 S'->Wd ad H ad' H'->zN K ad' H' S'->zfZ K ad' H' J0 J->R J H'
@[irreducible] def PID (X:Cx)(tg iter:Expr)(wi:DI):Prop:=PI X tg iter (upI X.K wi)
theorem zhv {X:Cx}{tg iter:Expr}{w w':TI}(h:PI X tg iter w)(m:∀ U H R,w' U H R->w U H R):PI X tg iter w':=fun Z9 s U H R I q=>h Z9 s U H R I (m U H R q)
section
variable {X:Cx}{tg e:Expr}
def Its (z:Str):It:=⟨fun i _=>i<z.cps.size,fun i H x H'=>H'=H/\∃ c,z.cps[i]?=some c/\x=.str ⟨#[c]⟩,fun i _=>z.cps.size<=i⟩
theorem zpB {P:Program}{w:World}{K:PySem.W.Frag}{tg:Expr}(z:Str)(t:Tok)(it:Addr):Turn P w K tg (Its z) [it] it (fun i h=>h.IsStrIter it "str_ascii_iterator" z t i) where
 mem:=by simp
 obj:=fun i h st b hb=>by
  have e:b=it:=by simpa using hb
  subst e
  obtain⟨o,e,c,d⟩:=st
  exact⟨o,e,fun v y=>by rw [d] at y;cases y⟩
 keep:=fun i h h' st k=>let ⟨o,e,r⟩:=st;⟨o,k it (by simp) o e,r⟩
 item:=by
  intro X hP hw hK hc i Z9 s U H E I hf st hg
  subst hP hw hK
  have hg:i<z.cps.size:=hg
  obtain⟨f0,f1,f2,f3,f4,f5⟩:=hf it (by simp)
  refine wpAny_pyNext_ascii_item st (c:=z.cps[i]) (by simp [hg]) fun h' st' sb=>?_
  have I1:Inv X Z9 U H { s with heap:=h',toks:=s.toks+1 }:=I.turned (t':=s.toks+1) (fun b o hb e=>(sb.2 b hb).trans e) f0 f1 f3 f4 f5
  obtain⟨o,e,c,d⟩:=id st'
  exact⟨_,rfl,zhB (s:={ s with heap:=h',toks:=s.toks+1 }) e c d (by decide) ⟨.str ⟨#[z.cps[i]]⟩,H,I1,⟨_,rfl⟩,⟨rfl,z.cps[i],by simp [hg],rfl⟩,st',fun b hb=>(hf b hb).1⟩⟩
 done:=by
  intro X hP hw hK hc i Z9 s U H E I hf st hg
  subst hP hw hK
  have hg:z.cps.size<=i:=hg
  obtain⟨f0,f1,f2,f3,f4,f5⟩:=hf it (by simp)
  exact wpAny_pyNext_ascii_end (I.ok.hd hc) st (by simp [hg]) fun h' eb=>⟨rfl,I.turned (t':=s.toks) (fun b o hb e=>eb b o hb e) f0 f1 f3 f4 f5⟩
 self:=fun _ _ _ _ _ st hQ=>wpAny_pyIter_striter_ascii st hQ
theorem zqH {P:Program}{w:World}{K:PySem.W.Frag}{tg:Expr}(z:Str)(t:Tok)(it:Addr):Turn P w K tg (Its z) [it] it (fun i h=>h.IsStrIter it "str_iterator" z t i) where
 mem:=by simp
 obj:=fun i h st b hb=>by
  have e:b=it:=by simpa using hb
  subst e
  obtain⟨o,e,c,d⟩:=st
  exact⟨o,e,fun v y=>by rw [d] at y;cases y⟩
 keep:=fun i h h' st k=>let ⟨o,e,r⟩:=st;⟨o,k it (by simp) o e,r⟩
 item:=by
  intro X hP hw hK hc i Z9 s U H E I hf st hg
  subst hP hw hK
  have hg:i<z.cps.size:=hg
  obtain⟨f0,f1,f2,f3,f4,f5⟩:=hf it (by simp)
  refine wpAny_pyNext_wide_item st (c:=z.cps[i]) (by simp [hg]) fun h' st' sb=>?_
  have I1:Inv X Z9 U H { s with heap:=h',toks:=s.toks+1 }:=I.turned (t':=s.toks+1) (fun b o hb e=>(sb.2 b hb).trans e) f0 f1 f3 f4 f5
  obtain⟨o,e,c,d⟩:=id st'
  exact⟨_,rfl,zhB (s:={ s with heap:=h',toks:=s.toks+1 }) e c d (by decide) ⟨.str ⟨#[z.cps[i]]⟩,H,I1,⟨_,rfl⟩,⟨rfl,z.cps[i],by simp [hg],rfl⟩,st',fun b hb=>(hf b hb).1⟩⟩
 done:=by
  intro X hP hw hK hc i Z9 s U H E I hf st hg
  subst hP hw hK
  have hg:z.cps.size<=i:=hg
  obtain⟨f0,f1,f2,f3,f4,f5⟩:=hf it (by simp)
  exact wpAny_pyNext_wide_end (I.ok.hd hc) st (by simp [hg]) fun h' eb=>⟨rfl,I.turned (t':=s.toks) (fun b o hb e=>eb b o hb e) f0 f1 f3 f4 f5⟩
 self:=fun _ _ _ _ _ st hQ=>wpAny_pyIter_striter_wide st hQ
def ztY (K:PySem.W.Frag)(tl:TE):TI:=fun U H R=>tl U H fun x H1=>(∃ a,x=.ref a/\(((∃ xs,Zo K H1 a xs)/\R (Itl K a) H1)\/((∃ xs,ZF K H1 a xs)/\R (Itt K a) H1)))\/(∃ z,x=.str z/\R (Its z) H1)
theorem zpx {l:Expr}{tl:TE}(hl:PE X l tl):PI X tg l (ztY X.K tl):=by
  intro Z9 s U H R I h
  refine Z0 (hl Z9 s U H _ I h) fun v s1 ⟨x,H1,I1,r1,q1⟩=>?_
  rcases q1 with ⟨a,e,q1⟩ | ⟨z,e,q⟩
  case inr =>
    subst e
    obtain⟨t,rfl⟩:=r1
    have fp:∀ b∈[s1.heap.objs.size],zeP X Z9 H1 b:=fun b hb=>by
      have e:b=s1.heap.objs.size:=by simpa using hb
      subst e
      exact I1.fpOk (qf _) (I1.hok.fresh (qf _))
    cases ha:z.cps.all (· < 128) with
    | true=>exact wpAny_pyIter_ascii ha ⟨s1.heap.objs.size,[s1.heap.objs.size],_,_,H1,rfl,I1.kept (t':=s1.toks) fun b o e=>qd _ e,zpB z t _,⟨_,qr _ rfl,rfl,rfl⟩,fp,q⟩
    | false=>exact wpAny_pyIter_wide ha ⟨s1.heap.objs.size,[s1.heap.objs.size],_,_,H1,rfl,I1.kept (t':=s1.toks) fun b o e=>qd _ e,zqH z t _,⟨_,qr _ rfl,rfl,rfl⟩,fp,q⟩
  subst e
  cases r1
  rcases q1 with ⟨⟨xs,hq⟩,q⟩ | ⟨⟨xs,hq⟩,q⟩
  . obtain⟨its,rv,p,hz⟩:=I1.list hq
    refine wpAny_pyIter_list p.isList ?_
    refine⟨s1.heap.objs.size,[s1.heap.objs.size],_,_,H1,rfl,I1.kept (t':=s1.toks) fun b o e=>qd _ e,zpS a _,⟨_,qr _ rfl,rfl,rfl⟩,fun b hb=>?_,q⟩
    have e:b=s1.heap.objs.size:=by simpa using hb
    subst e
    exact I1.fpOk (qf _) (I1.hok.fresh (qf _))
  . obtain⟨its,rv,p,hz⟩:=I1.tuple hq
    refine wpAny_pyIter_tuple (show s1.heap.IsTuple a its.toArray from p) ?_
    refine⟨s1.heap.objs.size,[s1.heap.objs.size],_,_,H1,rfl,I1.kept (t':=s1.toks) fun b o e=>qd _ e,zn8 a _,⟨_,qr _ rfl,rfl,rfl⟩,fun b hb=>?_,q⟩
    have e:b=s1.heap.objs.size:=by simpa using hb
    subst e
    exact I1.fpOk (qf _) (I1.hok.fresh (qf _))
theorem zwr {K:PySem.W.Frag}{ad:List Addr}{H:Hp}(z:Str):zfZ K ad H ⟨signs z,fun _=>True⟩ (Its z) where
 go:=fun ad1 H1 S i w st _ hi=>by
  show i<z.cps.size
  have:i<(signs z).length:=hi
  unfold signs at this
  rw [qb] at this
  simpa using this
 yld:=fun ad1 H1 S i d x H' w st _ hd ⟨e,c,hc,hx⟩=>by
  subst e hx
  have hd:(signs z)[i]?=some d:=hd
  unfold signs at hd
  rw [qi,qau,hc] at hd
  cases hd
  exact⟨Wd.refl,st,.str _⟩
 stop:=fun ad1 H1 S w st _=>by
  show z.cps.size<=(signs z).length
  unfold signs
  rw [qb];simp
theorem zu8 {K:PySem.W.Frag}{ad:List Addr}{H:Hp}{a:Addr}{vs:List V}{ds:List D}(h:H a=some (.tup vs))(r:zF K ad H ds vs):zfZ K ad H ⟨ds,fun _=>True⟩ (Itt K a) where
 go:=fun ad1 H1 S i w st _ hi=>⟨vs,vs[i]'(by rw [<- r.length];exact hi),ZF.of (w.tup _ _ h),qc _⟩
 yld:=fun ad1 H1 S i d x H' w st _ hd ⟨e,hx⟩=>by
  subst e
  obtain⟨v,ev,rv⟩:=r.get hd
  rw [hx vs (ZF.of (w.tup _ _ h))] at ev
  cases ev
  exact⟨Wd.refl,st,rv.wd w⟩
 stop:=fun ad1 H1 S w st _=>⟨vs,ZF.of (w.tup _ _ h),by rw [<- r.length];exact qf _⟩
theorem zwj {K:PySem.W.Frag}{ad:List Addr}{H:Hp}{a:Addr}{x:D}{ds:List D}(r:Rel K ad H x (.ref a)):zfZ K ad H ⟨ds,fun S=>Lst S x ds⟩ (Itl K a) where
 go:=fun ad1 H1 S i w st ok hi=>by
  obtain⟨a',vs,e,s,rs⟩:=Lst.sq st ok (r.wd w)
  cases e
  exact⟨vs,vs[i]'(by rw [<- rs.length];exact hi),s,qc _⟩
 yld:=fun ad1 H1 S i d y H' w st ok hd ⟨e,hx⟩=>by
  subst e
  obtain⟨a',vs,e,s,rs⟩:=Lst.sq st ok (r.wd w)
  cases e
  obtain⟨v,ev,rv⟩:=rs.get hd
  rw [hx vs s] at ev
  cases ev
  exact⟨Wd.refl,st,rv⟩
 stop:=fun ad1 H1 S w st ok=>by
  obtain⟨a',vs,e,s,rs⟩:=Lst.sq st ok (r.wd w)
  cases e
  exact⟨vs,s,by rw [<- rs.length];exact qf _⟩
theorem Zi {t:DE}(h:PD X e t):PID X tg e (Zm t):=by with_unfolding_all exact (zhv (zpx h) fun U H R hh=>Zv hh fun ad Z S R0 st rh q k =>
 ⟨ad,Z,S,_,st,rh,q,fun x S1 v H1 ad1 q1 w1 st1 r1=>by
  rcases q1 with ⟨xs,rfl,q1⟩ | ⟨xs,hx,q1⟩ | ⟨z,rfl,q1⟩
  ·cases r1 with
   | tup h1 rs=>exact .inl ⟨_,rfl,.inr ⟨⟨_,ZF.of h1⟩,k _ S1 _ H1 ad1 q1 w1 st1 (zu8 h1 rs)⟩⟩
  ·obtain⟨a,vs,rfl,s,rs⟩:=hx.sq st1 r1
   exact .inl ⟨a,rfl,.inl ⟨⟨vs,s⟩,k _ S1 _ H1 ad1 q1 w1 st1 (zwj r1)⟩⟩
  ·cases r1
   exact .inr ⟨z,rfl,k _ S1 _ H1 ad1 q1 w1 st1 (zwr z)⟩⟩)
theorem zrb {lo:Int}{n i:Nat}{d:D}(h:(upto lo n)[i]?=some d):i<n/\d=.int (lo+i):=by
 unfold upto at h
 rw [qi] at h
 have hi:=My.VR (xs:=List.range n) (i:=i) (x:=i)
 cases hr:(List.range n)[i]? with
 | none=>rw [hr] at h;cases h
 | some k =>
  rw [hr] at h
  have h1:=My.VR hr
  rw [qaj] at h1
  have h2:(List.range n)[i]?=some i:=qaT h1
  rw [hr] at h2
  cases h2
  cases h
  exact⟨h1,rfl⟩
theorem zls (lo:Int)(n:Nat):(upto lo n).length=n:=by unfold upto;rw [qb,qaj]
theorem zpy {K:PySem.W.Frag}{ad:List Addr}{H:Hp}(lo:Int)(n:Nat):zfZ K ad H ⟨upto lo n,fun _=>True⟩ (Itr lo n) where
 go:=fun ad1 H1 S i w st _ hi=>by rw [zls] at hi;exact hi
 yld:=fun ad1 H1 S i d x H' w st _ hd ⟨e,hx⟩=>by
  subst e
  obtain⟨_,rfl⟩:=zrb hd
  rw [hx]
  exact⟨Wd.refl,st,.int _⟩
 stop:=fun ad1 H1 S w st _=>by rw [zls];exact qf _
theorem zpG {P:Program}{w:World}{K:PySem.W.Frag}{tg:Expr}(it:Addr)(lo:Int)(n:Nat):Turn P w K tg (Itr lo n) [it] it (fun i h=>IsLongIter h it (lo+(i:Nat)*1) ((n:Int)-(i:Nat)) 1) where
 mem:=by simp
 obj:=fun i h st b hb=>by
  have e:b=it:=by simpa using hb
  subst e
  exact⟨_,st,fun v z=>by
   have z':Data.fields _=Data.cell v:=z
   cases z'⟩
 keep:=fun i h h' st k=>k it (by simp) _ st
 item:=by
  intro X hP hw hK hc i Z9 s U H E I hf st' hg
  subst hP hw hK
  obtain⟨f0,f1,f2,f3,f4,f5⟩:=hf it (by simp)
  have W:=Walks.longrange (prog:=X.prog) (w:=X.w) (I.ok.hd hc) it lo 1 n
  refine W.item i s _ _ hg st' fun v h' tk hv st'' kk=>?_
  obtain⟨t,rfl⟩:=hv
  have I1:Inv X Z9 U H { s with heap:=h',toks:=tk }:=I.turned (fun b o hb e=>kk b o (by simpa using hb) e) f0 f1 f3 f4 f5
  rw [Wn]
  exact⟨_,rfl,zhB (s:={ s with heap:=h',toks:=tk }) (n:="longrange_iterator") st'' rfl rfl (by decide) ⟨.int (lo+i),H,I1,⟨t,rfl⟩,⟨rfl,rfl⟩,st'',fun b hb=>(hf b hb).1⟩⟩
 done:=by
  intro X hP hw hK hc i Z9 s U H E I hf st' hg
  subst hP hw hK
  obtain⟨f0,f1,f2,f3,f4,f5⟩:=hf it (by simp)
  exact wpAny_pyNext_long_end (I.ok.hd hc) st' (by have:n<=i:=hg;lia) fun h' eb=>⟨rfl,I.turned (t':=s.toks) (fun b o hb e=>eb b o hb e) f0 f1 f3 f4 f5⟩
 self:=fun _ _ _ _ _ st h=>wpAny_pyIter_longiter st h
theorem range_any {Z9:List (Addr×Obj)}{U:L2.St}{H:Hp}{s:Shared}{R:It->Hp->Prop}{E:Value->Shared->Prop}{lo hi:Int}{t u v:Tok}{tk:Nat}(I:Inv X Z9 U H s)
    (q:R (Itr lo (hi-lo).toNat) H):wpAny (model X.prog X.w) X.A (pyIter (.ref s.heap.objs.size)) (PIE X Z9 U tg R) E { s with heap:=s.heap.push { cls:=.type "range",data:=.fields #[.int lo t,.int hi u,.int 1 v] },toks:=tk }:=by
  have I1:Inv X Z9 U H { s with heap:=s.heap.push { cls:=.type "range",data:=.fields #[.int lo t,.int hi u,.int 1 v] },toks:=tk }:=I.kept fun b o e=>qd _ e
  have e1:lo+((0:Nat):Int)*1=lo:=by simp
  have e2:(((hi-lo).toNat:Nat):Int)-((0:Nat):Int)=Builtin.Range.rangeSize lo hi 1:=by rw [rangeSize_one];split<;>lia
  cases hsm:Builtin.Range.small lo hi 1 with
  | true =>
    refine wpAny_pyIter_range (IsRange.new ..) hsm ?_
    refine⟨(s.heap.push { cls:=.type "range",data:=.fields #[.int lo t,.int hi u,.int 1 v] }).objs.size,[(s.heap.push { cls:=.type "range",data:=.fields #[.int lo t,.int hi u,.int 1 v] }).objs.size],_,_,H,rfl,
      I1.kept (t':=tk) fun b o e=>qd _ e,ziU _ lo (hi-lo).toNat,?_,fun b hb=>?_,q⟩
    . show IsRangeIter _ _ (lo+((0:Nat):Int)*1) ((((hi-lo).toNat:Nat):Int)-((0:Nat):Int)) 1
      rw [e1,e2]
      exact qr _ rfl
    . have e:b=(s.heap.push { cls:=.type "range",data:=.fields #[.int lo t,.int hi u,.int 1 v] }).objs.size:=by simpa using hb
      subst e
      exact I1.fpOk (qf _) (I1.hok.fresh (qf _))
  | false =>
    refine wpAny_pyIter_longrange (IsRange.new ..) hsm ?_
    refine⟨(s.heap.push { cls:=.type "range",data:=.fields #[.int lo t,.int hi u,.int 1 v] }).objs.size,[(s.heap.push { cls:=.type "range",data:=.fields #[.int lo t,.int hi u,.int 1 v] }).objs.size],_,_,H,rfl,
      I1.kept (t':=tk) fun b o e=>qd _ e,zpG _ lo (hi-lo).toNat,?_,fun b hb=>?_,q⟩
    . show IsLongIter _ _ (lo+((0:Nat):Int)*1) ((((hi-lo).toNat:Nat):Int)-((0:Nat):Int)) 1
      rw [e1,e2]
      exact qr _ rfl
    . have e:b=(s.heap.push { cls:=.type "range",data:=.fields #[.int lo t,.int hi u,.int 1 v] }).objs.size:=by simpa using hb
      subst e
      exact I1.fpOk (qf _) (I1.hok.fresh (qf _))
theorem zns {a:Expr}{t:DA}{p pos:Pos}(hm:X.mg "range"=none)(ha:PAD X [a] t)(hg:Gl X "range":=by rfl)(hs:starEach [a] X.env=[(false,eval a X.env)]:=by exact zdx rfl):PID X tg (.Call (.Name "range" p) [a] [] pos) (zhA t):=by with_unfolding_all exact (zhv (zpp hg hm ha hs) fun U H R hh=>Zv hh fun ad Z S R0 st rh q k =>
 ⟨ad,Z,S,_,st,rh,q,fun ds S1 vs H1 ad1 ⟨j,ed,b1,b2,q1⟩ w1 st1 r1=>by
  subst ed
  obtain⟨v,rfl,rv⟩:=X3 r1
  cases rv
  exact⟨j,rfl,b1,b2,k _ S1 _ H1 ad1 q1 w1 st1 (zpy 0 j.toNat)⟩⟩)
theorem zjD {a b:Expr}{t:DA}{p pos:Pos}(hm:X.mg "range"=none)(ha:PAD X [a,b] t)(hg:Gl X "range":=by rfl)(hs:starEach [a,b] X.env=[(false,eval a X.env),(false,eval b X.env)]:=by exact zlP rfl rfl)(hs2:starEach [b] X.env=[(false,eval b X.env)]:=by exact zdx rfl) :
  PID X tg (.Call (.Name "range" p) [a,b] [] pos) (ziR t):=by
 with_unfolding_all
  rintro Z9 s U H R I ⟨ad,Z,S,R0,st,rh,q,k⟩
  refine Call_ (zdn I hg hm boot_range (PyProof.Rows.callWith_type1 (Z0 (ha pos Z9 s U H (fun vs H1=>∃ i j:Int,vs=[.int i,.int j]/\R (Itr i (j-i).toNat) H1) I ⟨ad,Z,S,_,st,rh,q,fun ds S1 vs H1 ad1 ⟨i,j,ed,q1⟩ w1 st1 r1=>by
   subst ed
   obtain⟨v,u,rfl,rv,ru⟩:=zif r1
   cases rv
   cases ru
   exact⟨i,j,rfl,k _ S1 _ H1 ad1 q1 w1 st1 (zpy i _)⟩⟩) fun us s1 ⟨vs,H1,I1,r1,q1⟩=>?_) (by rw [hs,hs2]) (by rw [hs2];rfl)))
  obtain⟨i,j,e,q⟩:=q1
  subst e
  cases r1 with
  | cons r rr =>
   cases rr with
   | cons r' rr =>
    cases rr
    obtain⟨t,rfl⟩:=r
    obtain⟨t',rfl⟩:=r'
    exact call_range_2 (range_any I1 q)
theorem YL {iter:Expr}{body:List Stmt}{wi:DI}{g:DG}{t:DS}{pos:Pos}(hi:PID X tg iter wi)(hg:PGD X 1000 tg g)(hb:zeh X body t)(hp:PassesOwn (model X.prog X.w) X.A X.env X.xe:=by first | exact PassesOwn.never | exact PassesOwn.leaving)(hc:X.calm=true:=by rfl)(hs:∀ x,foldedSetIterable iter X.env x=pure x:=by intro _;rfl):W8 X (.For tg iter body [] pos) (Y5 wi g t):=by
 with_unfolding_all
  obtain⟨g',pg,rg⟩:=hg
  refine VN (zwp hp hc hi pg hb hs) fun E U H hh=>Zv hh fun ad Z S E0 so rh q k=>?_
  refine⟨ad,Z,S,_,so,rh,q,fun J0 S1 J H1 ad1 ⟨W,w0,hok,step,fin⟩ d1 st1 it=>?_⟩
  refine⟨fun i m σ' H'=>m=J0.items.length-i/\i<=J0.items.length/\∃ ad' ρ' S',W i ρ' S'/\Wd ad1 H1 ad' H'/\zN X.K ad' H' S'/\YW X.K ad' H' ρ' σ',⟨J0.items.length,rfl,qO _,ad1,Z,S1,w0,Wd.refl,st1,rh.wd d1⟩,?_⟩
  rintro i m σ2 H2 ⟨rfl,hi2,ad2,ρ2,S2,w2,d2,st2,rh2⟩
  by_cases hlt:i<J0.items.length
  ·have ed:J0.items[i]?=some J0.items[i]:=qc hlt
   refine .inr ⟨it.go ad2 H2 S2 i d2 st2 (hok _ _ _ w2) hlt,fun σ' H'=>∃ ad' ρ' S',W (i+1) ρ' S'/\Wd ad1 H1 ad' H'/\zN X.K ad' H' S'/\YW X.K ad' H' ρ' σ',?_,fun x H' hy=>?_⟩
   ·rintro σ' H' ⟨ad',ρ',S',w',d',st',rh'⟩
    exact⟨J0.items.length-(i+1),by lia,rfl,hlt,ad',ρ',S',w',d',st',rh'⟩
   ·obtain⟨d3,st3,r3⟩:=it.yld ad2 H2 S2 i _ x H' d2 st2 (hok _ _ _ w2) ed hy
    refine rg ad2 H' S2 ρ2 σ2 _ x _ _ st3 (rh2.wd d3) r3 (step i _ ρ2 S2 ed w2) fun ρ4 S4 σ4 H4 ad4 q4 d4 st4 rh4 _ _=>?_
    have d14:=(d2.trans d3).trans d4
    have d04:=d1.trans d14
    exact⟨ad4,ρ4,S4,{ E0 with nx:=W (i+1),ct:=W (i+1),bk:=E0.nx },st4,rh4,q4,⟨fun ρ' S' σ' H' ad' q' w' st' rh'=>⟨ad',ρ',S',q',d14.trans w',st',rh'⟩,k.rt.wd d04,fun ρ' S' σ' H' ad' q' w' st' rh'=>k.nx ρ' S' σ' H' ad' q' (d04.trans w') st' rh',fun ρ' S' σ' H' ad' q' w' st' rh'=>⟨ad',ρ',S',q',d14.trans w',st',rh'⟩⟩⟩
  ·have e:i=J0.items.length:=by lia
   subst e
   exact .inl ⟨it.stop ad2 H2 S2 d2 st2 (hok _ _ _ w2),k.nx ρ2 S2 σ2 H2 ad2 (fin ρ2 S2 w2) (d1.trans d2) st2 rh2⟩
end
theorem zl6:∀ {a b:L2.St} (n:Nat),(∀ j,j<n->a[j]?=some none\/a.length<=j)->b.length=a.length->(∀ j,n<=j->b[j]?=a[j]?)->W2 a b
 | [],[],_,_,_,_=>True.intro
 | [],_::_,_,_,h,_=>by simp at h
 | _::_,[],_,_,h,_=>by simp at h
 | x::a,y::b,n,h0,hl,h=>by
  have hl':b.length=a.length:=by simpa using hl
  cases n with
  | zero =>
   have e:=h 0 (qf _)
   have e':y=x:=by simpa using e
   subst e'
   have rest:W2 a b:=zl6 0 (fun j hj=>absurd hj (qbe _)) hl' fun j _=>by simpa using h (j+1) (qO _)
   cases y with
   | none=>exact rest
   | some v=>exact⟨rfl,rest⟩
  | succ n =>
   have rest:W2 a b:=zl6 n (fun j hj=>by
    rcases h0 (j+1) (by lia) with e | e
    ·exact .inl (by simpa using e)
    ·exact .inr (by simpa using e)) hl' fun j hj=>by simpa using h (j+1) (by lia)
   rcases h0 0 (Nat.succ_pos _) with e | e
   ·have e':x=none:=by simpa using e
    subst e'
    exact rest
   ·simp at e
theorem ztP {K:PySem.W.Frag}{ad:List Addr}{H:Hp}{Z:ZP}{U:L2.St}(h:YW K ad H Z U)(own:List Str)(fv:List Nat):YW K ad H (zgD own.length fv Z) (cst own fv U) where
  len:=by unfold zgD cst;rw [qh,qh,qF,qF,qb,qb]
  val:=fun i d e=>by
    unfold zgD at e
    unfold cst
    by_cases hi:i<own.length
    . rw [qk (by rw [qF];exact hi),qam] at e
      split at e<;>cases e
    . have hi':own.length<=i:=qaF hi
      rw [qj (by rw [qF];exact hi'),qF,qi] at e
      rw [qj (by rw [qF];exact hi'),qF,qi]
      cases hf:fv[i-own.length]? with
      | none=>rw [hf] at e;cases e
      | some j =>
        rw [hf] at e
        simp only [qbc,Option.some.injEq] at e ⊢
        cases hr:Z[j]? with
        | none=>rw [hr] at e;cases e
        | some o =>
          rw [hr] at e
          have e':o=some d:=e
          subst e'
          obtain⟨v,ev,rv⟩:=h.val j d hr
          exact⟨v,by rw [ev];rfl,rv⟩
@[irreducible] def zoA (X:Cx)(ifs:List Expr)(t:DT):Prop:=PFs X ifs (upT X.K t)
theorem Yn {X:Cx}:zoA X [] Yv:=by with_unfolding_all exact (fun Z9 s U H Q I hh=>Zv hh fun ad Z S Q0 st rh q k=>zvh Z9 s U H Q I (k true S H ad q Wd.refl st))
theorem zjJ {X:Cx}{c:Expr}{t:DT}(h:WL X c t):zoA X [c] t:=by with_unfolding_all exact (zwn h)
theorem ofT {A B:Prop}(h:if true=true then A else B):A:=by rw [if_pos rfl] at h;exact h
theorem ofF {A B:Prop}(h:if false=true then A else B):B:=by rw [if_neg qu] at h;exact h
theorem zss {K:PySem.W.Frag}{own:List Str}{fv:List Nat}{wi:DI}{g:DG}{g':TG}{tc:DT}{te:DE}(rg:zgI K own.length g g'){U:L2.St}{H:Hp}{Q:VK}(h:up K (YX own.length fv wi g tc te) U H Q):tLC own fv (upI K wi) g' (upT K tc) (up K te) U H Q:=by
 obtain⟨ad,Z,S,Q0,so,rh,q,k⟩:=h
 refine⟨ad,Z,S,_,so,rh,q,fun J0 S1 J H1 ad1 ⟨hbig,W,w0,hok,step,fin⟩ d1 st1 it=>?_⟩
 intro p hp
 refine⟨fun i m H'=>m=J0.items.length-i/\i<=J0.items.length/\∃ ad' S' ys vs,W i ys S'/\Wd ad1 H1 ad' H'/\zN K ad' H' S'/\p∉ad'/\H' p=some (.lst vs)/\zF K ad' H' ys vs/\vs.length<=i,
  ⟨J0.items.length,rfl,qO _,ad1,S1,[],[],w0,Wd.laid hp,st1.laid hp,st1.fresh hp,Xr,.nil,qf _⟩,?_⟩
 rintro i m H2 ⟨rfl,hi2,ad2,S2,ys,vs,w2,d2,st2,hp2,hv2,r2,hl2⟩
 by_cases hlt:i<J0.items.length
 ·have ed:J0.items[i]?=some J0.items[i]:=qc hlt
  refine .inr ⟨it.go ad2 H2 S2 i d2 st2 (hok _ _ _ w2) hlt,fun x H' hy=>?_⟩
  obtain⟨d3,st3,r3⟩:=it.yld ad2 H2 S2 i _ x H' d2 st2 (hok _ _ _ w2) ed hy
  have rh3:=ztP (rh.wd ((d1.trans d2).trans d3)) own fv
  refine rg ad2 H' S2 _ _ _ x _ _ st3 rh3 r3 (step i _ ys S2 ed w2) fun ρ4 S4 σ4 H4 ad4 q4 d4 st4 rh4 l4 a4=>?_
  refine⟨zl6 own.length (fun j hj=>.inl ?_) l4 a4,ad4,ρ4,S4,_,st4,rh4,q4,fun b S5 H5 ad5 q5 d5 st5=>?_⟩
  ·unfold cst
   rw [qk (by rw [qF];exact hj),qam,if_pos hj]
  have fwd:∀ {ad9:List Addr} {H9:Hp},Wd ad2 H2 ad9 H9->p∉ad9/\H9 p=some (.lst vs):=fun {ad9 H9} w=>⟨(fun m=>by
   have z:=w.new p m hp2
   rw [hv2] at z;cases z),w.keep p _ hp2 hv2⟩
  have d25:=(d3.trans d4).trans d5
  cases b with
  | true =>
   refine zre ?_
   have q5:=Dp.ofT q5
   refine⟨ad5,ρ4,S5,_,st5,rh4.wd d5,q5,fun y S6 v H6 ad6 q6 d6 st6 r6=>?_⟩
   have d26:=d25.trans d6
   obtain⟨n6,e6⟩:=fwd d26
   have hw:Wr ad6 H6 ad6 (upd H6 p (.lst (vs++[v]))):=Wr.hid e6
   have hvl:vs.length<sizeLine:=ziZ (by lia)
   exact⟨vs,e6,hvl,J0.items.length-(i+1),by lia,rfl,hlt,ad6,S6,ys++[y],vs++[v],q6,(d2.trans d26).hid hp,st6.hid e6 n6 (st1.bfree hp),n6,Xr,zF.wr hw ((r2.wd d26).append (.cons r6 .nil)),by rw [qh];exact Nat.succ_le_succ hl2⟩
  | false =>
   refine zrz ?_
   have q5:=Dp.ofF q5
   obtain⟨n5,e5⟩:=fwd d25
   exact⟨J0.items.length-(i+1),by lia,rfl,hlt,ad5,S5,ys,vs,q5,d2.trans d25,st5,n5,e5,r2.wd d25,by lia⟩
 ·have e:i=J0.items.length:=by lia
  subst e
  refine .inl ⟨it.stop ad2 H2 S2 d2 st2 (hok _ _ _ w2),?_⟩
  exact k _ _ _ _ (ad2++[p]) (fin ys S2 w2) (d1.trans (d2.add hp)) (st2.add hv2 hp2 r2 (st1.bfree hp)) (.ref (by rw [<- st2.len,qj (qf _),qav];rfl))
section
variable {X:Cx}{sc:Scope}{tg iter elt:Expr}{ifs:List Expr}{own free:List Str}{fv:List Nat}{wi:DI}{g:DG}{tc:DT}{te:DE}{pos:Pos}
theorem Xo {g':TG}(hfr:zdP (fun x=>X.env.kindOf x=some .cell) sc.names)(hfv:zg0 X sc free fv)(hi:PID X tg iter wi)
  (hg:zgI X.K own.length g g'/\∀ cl C s₀ H₀ ex,PG (inner X sc (own++free) cl C s₀ H₀ ex) tg g') (ht:∀ cl C s₀ H₀ ex,zoA (inner X sc (own++free) cl C s₀ H₀ ex) ifs tc) (he:∀ cl C s₀ H₀ ex,PD (inner X sc (own++free) cl C s₀ H₀ ex) elt te) (hcalm:X.calm=true:=by rfl) (hxe:(X.xe=fun _ _=>False):=by rfl) (hkind:sc.kind=.function:=by rfl) (hcell:∀ y∈sc.names,y.2=.cell->sc.names.lookup y.1=some .cell:=by decide +kernel) (hnames:∀ y∈sc.names,y.2=.local->sc.names.lookup y.1=some .local:=by decide +kernel)
  (hs:∀ x,foldedSetIterable iter X.env x=pure x:=by intro _;rfl):PD X (.ListComp elt [⟨tg,iter,ifs,0⟩] sc pos) (YX own.length fv wi g tc te):=by with_unfolding_all exact (YC (zxh (tc:=upT X.K tc) (te:=up X.K te) hcalm hxe hkind hcell hnames hfr hfv hi hg.2 ht he hs) fun _ _ _=>zss hg.1)
theorem zdy {g':TG}{i:Nat}{y:Str}{py spos:Pos}(hN:X.N.Nodup)(hfr:zdP (fun x=>X.env.kindOf x=some .cell) sc.names)(hfv:zg0 X sc free fv)(hi:PID X tg iter wi)
  (hg:zgI X.K own.length g g'/\∀ cl C s₀ H₀ ex,PG (inner X sc (own++free) cl C s₀ H₀ ex) tg g') (ht:∀ cl C s₀ H₀ ex,zoA (inner X sc (own++free) cl C s₀ H₀ ex) ifs tc) (he:∀ cl C s₀ H₀ ex,PD (inner X sc (own++free) cl C s₀ H₀ ex) elt te) (hy:X.N[i]?=some y:=by rfl) (hyl:X.env.scope.names.lookup y=some .local:=by rfl) (hcalm:X.calm=true:=by rfl) (hxe:(X.xe=fun _ _=>False):=by rfl) (hkind:sc.kind=.function:=by rfl) (hcell:∀ y∈sc.names,y.2=.cell->sc.names.lookup y.1=some .cell:=by decide +kernel) (hnames:∀ y∈sc.names,y.2=.local->sc.names.lookup y.1=some .local:=by decide +kernel)
  (hsw:swapsWith (.ListComp elt [⟨tg,iter,ifs,0⟩] sc pos) (some (.Name y py)) spos.line X.env=pure true:=by rfl)
  (hs:∀ x,foldedSetIterable iter X.env x=pure x:=by intro _;rfl):W8 X (.Assign [.Name y py] (.ListComp elt [⟨tg,iter,ifs,0⟩] sc pos) spos) (zL (YX own.length fv wi g tc te) (zu i)):=by with_unfolding_all exact (VN (zuu (tc:=upT X.K tc) (te:=up X.K te) hN hy hyl hcalm hxe hkind hcell hnames hfr hfv hi hg.2 ht he hsw hs) fun E U H hh=>Zv hh fun ad Z S E0 so rh q k =>
  zss (Q:=fun x H1=>L2.zu i x U H1 E.nx) hg.1 ⟨ad,Z,S,_,so,rh,q,fun d S' v H' ad' q' w st' r=>k.nx _ S' _ H' ad' q' w st' ((rh.wd w).set r i)⟩)
theorem ze7 {K:PySem.W.Frag}{b:Nat}:zjh K b Yl L2.Yl:=fun ad H S Z U ds vs Q0 Q st rh r ⟨e,q⟩ k=>by
 subst e
 cases r
 exact⟨rfl,k Z S U H ad q Wd.refl st rh rfl fun _ _=>rfl⟩
theorem za6 {K:PySem.W.Frag}{b:Nat}{t:DG}{u:DGs}{t':TG}{u':TGs}(r1:zgI K b t t')(r2:zjh K b u u'):zjh K b (Zt t u) (L2.Zt t' u'):=fun ad H S Z U ds vs Q0 Q st rh r ⟨d,rs,ed,q⟩ k=>by
 subst ed
 cases r with
 | cons r t =>
  refine⟨_,_,rfl,r1 ad H S Z U d _ _ _ st rh r q fun ρ1 S1 σ1 H1 ad1 q1 w1 st1 rh1 l1 a1=>?_⟩
  exact r2 ad1 H1 S1 ρ1 σ1 _ _ _ _ st1 rh1 (t.wd w1) q1 fun ρ2 S2 σ2 H2 ad2 q2 w2 st2 rh2 l2 a2=>k ρ2 S2 σ2 H2 ad2 q2 (w1.trans w2) st2 rh2 (l2.trans l1) fun j hj=>(a2 j hj).trans (a1 j hj)
theorem zfY {K:PySem.W.Frag}{b n:Nat}{t:DGs}{t':TGs}(r:zjh K b t t'):zgI K b (Ym n t) (L2.Ym K n t'):=fun ad H S Z U d v Q0 Q st rh rv ⟨xs,ed,hl,q⟩ k=>by
 subst ed
 cases rv with
 | tup h1 rs=>exact⟨_,_,rfl,ZF.of h1,by rw [<- rs.length];exact hl,r ad H S Z U xs _ _ _ st rh rs q k⟩
end
theorem zlT {K:PySem.W.Frag}{ad:List Addr}{H:Hp}{ds:List D}{vs:List V}(N:List Str)(r:zF K ad H ds vs):YW K ad H (zd7 N.length ds) (L2.start N vs) where
  len:=by unfold zd7 L2.start;rw [qh,qh,qb,qb,qF,qF,r.length]
  val:=fun i d e=>by
    unfold zd7 at e
    unfold L2.start
    by_cases hi:i<ds.length
    . rw [qk (by rw [qb];exact hi),qi] at e
      rw [qk (by rw [qb,<- r.length];exact hi),qi]
      cases hd:ds[i]? with
      | none=>rw [hd] at e;cases e
      | some d' =>
        rw [hd] at e
        cases e
        obtain⟨v,ev,rv⟩:=r.get hd
        exact⟨v,by rw [ev];rfl,rv⟩
    . rw [qj (by rw [qb];exact qaF hi),qam] at e
      split at e<;>cases e
theorem zF.cut1 {K:PySem.W.Frag}{ad ad':List Addr}{H:Hp}(k:Nat)(h1:∀ d v,fl k d=true->Rel K ad H d v->Rel K ad' H d v):∀ ds vs,ds.all (fl k)=true->zF K ad H ds vs->zF K ad' H ds vs:=by
 intro ds
 induction ds with
 | nil=>intro vs _ r;cases r;exact .nil
 | cons d ds ih =>
  intro vs hf r
  rw [qax,qG] at hf
  cases r with
  | cons r t=>exact .cons (h1 d _ hf.1 r) (ih _ hf.2 t)
theorem Rel.cut {K:PySem.W.Frag}{ad ad':List Addr}{H:Hp}:∀ (k:Nat) (d:D) (v:V),fl k d=true->Rel K ad H d v->Rel K ad' H d v:=by
 intro k
 induction k with
 | zero =>
  intro d v hf r
  cases r with
  | non=>exact .non
  | bl b=>exact .bl b
  | int i=>exact .int i
  | str x=>exact .str x
  | ty n=>cases hf
  | tup h r=>cases hf
  | rl h r=>cases hf
  | ref h=>cases hf
  | exn _ _ _=>cases hf
 | succ k ih =>
  intro d v hf r
  cases r with
  | non=>exact .non
  | bl b=>exact .bl b
  | int i=>exact .int i
  | str x=>exact .str x
  | ty n=>cases hf
  | tup h r=>exact .tup h (zF.cut1 k ih _ _ hf r)
  | rl h r=>cases hf
  | ref h=>cases hf
  | exn _ _ _=>cases hf
theorem zF.cut {K:PySem.W.Frag}{ad ad':List Addr}{H:Hp}(k:Nat)(ds:List D)(vs:List V)(hf:ds.all (fl k)=true)(r:zF K ad H ds vs):zF K ad' H ds vs:=zF.cut1 k (Rel.cut k) ds vs hf r
end Dp
namespace Dp
open PySem PySem.Spec PyProof.Rows L2 My
variable [B:Bs]
mutual
theorem Rel.low {K:PySem.W.Frag}{ad ad':List Addr}{H H':Hp}{m:Nat}(hm:ad.length<=m):∀ {d:D} {u v:V},Rel K ad H d u->Rel K ad' H' d v->Rel K (ad'.take m) H' d v
 | _,_,_,.non,r=>by cases r;exact .non
 | _,_,_,.bl b,r=>by cases r;exact .bl b
 | _,_,_,.int i,r=>by cases r;exact .int i
 | _,_,_,.str x,r=>by cases r;exact .str x
 | _,_,_,.ty n,r=>by cases r;exact .ty n
 | _,_,_,.tup _ t,r=>by
  cases r with
  | tup h t'=>exact .tup h (zF.low hm t t')
 | _,_,_,.rl _ t,r=>by
  cases r with
  | rl h t'=>exact .rl h (zF.low hm t t')
 | _,_,_,.exn _ _ _,r=>by
  cases r with
  | exn h e n=>exact .exn h e n
 | _,_,_,.ref h,r=>by
  cases r with
  | ref h'=>exact .ref (by rw [qaU (qE (My.VR h) hm)];exact h')
theorem zF.low {K:PySem.W.Frag}{ad ad':List Addr}{H H':Hp}{m:Nat}(hm:ad.length<=m):∀ {ds:List D} {us vs:List V},zF K ad H ds us->zF K ad' H' ds vs->zF K (ad'.take m) H' ds vs
 | _,_,_,.nil,r=>by cases r;exact .nil
 | _,_,_,.cons r t,q=>by
  cases q with
  | cons r' t'=>exact .cons (Rel.low hm r r') (zF.low hm t t')
end
theorem Y9.low {K:PySem.W.Frag}{ad ad':List Addr}{H H':Hp}{m:Nat}(hm:ad.length<=m):∀ {fs:List (Str×D)} {us vs:List (Str×V)},Y9 K ad H fs us->Y9 K ad' H' fs vs->Y9 K (ad'.take m) H' fs vs
 | _,_,_,.nil,r=>by cases r;exact .nil
 | _,_,_,.cons r t,q=>by
  cases q with
  | cons r' t'=>exact .cons (Rel.low hm r r') (Y9.low hm t t')
theorem RelK.low {K:PySem.W.Frag}{ad ad':List Addr}{H H':Hp}{m:Nat}(hm:ad.length<=m):∀ {fs:List (Str×D)} {us vs:List (Key×V)},RelK K ad H fs us->RelK K ad' H' fs vs->RelK K (ad'.take m) H' fs vs
 | _,_,_,.nil,r=>by cases r;exact .nil
 | _,_,_,.cons r t,q=>by
  cases q with
  | cons r' t'=>exact .cons (Rel.low hm r r') (RelK.low hm t t')
theorem Zf.low {K:PySem.W.Frag}{ad ad':List Addr}{H H':Hp}{m:Nat}(hm:ad.length<=m):∀ {fs:List (List Key×D)} {us vs:List (List Key×V)},Zf K ad H fs us->Zf K ad' H' fs vs->Zf K (ad'.take m) H' fs vs
 | _,_,_,.nil,r=>by cases r;exact .nil
 | _,_,_,.cons r t,q=>by
  cases q with
  | cons r' t'=>exact .cons (Rel.low hm r r') (Zf.low hm t t')
theorem ziG {K:PySem.W.Frag}{ad:List Addr}{H:Hp}{S:Z5}{Q0:DK}{Q:VK}(st:zN K ad H S)(k:KK K ad H Q0 Q):KK K ad H (Fin S Q0) Q:=by
 intro d S' v H' ad' hf w st' r
 rcases hf with q | ⟨S1,pre,hlen,hd,hc,q⟩
 ·exact k d S' v H' ad' q w st' r
 have hS:S1.length<=S'.length:=pre.length_le
 have had:ad.length<=S1.length:=by rw [st.len];exact hlen
 have htk:∀ {n:Nat} {a:Addr},(ad'.take S1.length)[n]?=some a->ad'[n]?=some a:=fun {n a} e=>by
  have hn:=My.VR e
  rw [qab] at hn
  rw [qaU (by lia)] at e
  exact e
 have w1:Wd ad H (ad'.take S1.length) H':=by
  refine⟨?_,w.keep,w.tup,w.frz,fun b m n=>w.new b (List.mem_of_mem_take m) n⟩
  obtain⟨t,rfl⟩:=w.pre
  rw [List.take_append,qbw had]
  exact qaZ _ _
 refine k d S1 v H' _ q w1 ⟨st.wd.trans w1,by rw [qab,st'.len];lia,st'.nd.sublist (List.take_sublist _ _),fun n a c e1 e2=>?_⟩ ?_
 ·have e1':=htk e1
  have ok:=st'.cell n a c e1' (zjA pre e2)
  rcases hc n c e2 with h | h
  ·obtain⟨a0,ea,ok0⟩:=st.get h
   cases c with
   | ins c fs =>
    obtain⟨C,dx,vs,hv,c1,c2,rv,hn⟩:=ok
    obtain⟨_,_,us,_,_,_,ru,_⟩:=ok0
    exact⟨C,dx,vs,hv,c1,c2,Y9.low had ru rv,hn⟩
   | dk Z6 =>
    obtain⟨vs,hv,rv⟩:=ok
    obtain⟨us,hu,ru⟩:=ok0
    exact⟨vs,hv,RelK.low had ru rv⟩
   | dt Z6 =>
    obtain⟨vs,hv,rv⟩:=ok
    obtain⟨us,hu,ru⟩:=ok0
    exact⟨vs,hv,Zf.low had ru rv⟩
   | lst xs =>
    obtain⟨vs,hv,rv⟩:=ok
    obtain⟨us,hu,ru⟩:=ok0
    exact⟨vs,hv,zF.low had ru rv⟩
  ·cases c with
   | ins c fs=>cases h
   | dk _=>cases h
   | dt _=>cases h
   | lst xs =>
    obtain⟨vs,hv,rv⟩:=ok
    exact⟨vs,hv,zF.cut 20 _ _ h rv⟩
 ·rcases hd with h | ⟨n,rfl,hn⟩
  ·exact Rel.cut 20 _ _ h r
  ·cases r with
   | ref e=>exact .ref (by rw [qaU hn];exact e)
omit B in
theorem ztn {P:Program}{w:World}{K:PySem.W.Frag}{mg:Str->Option Value}{base:Heap}{x qual:Str}{st:Stmt}{f:Addr}{fd:FuncData}{N ps:List Str}{k:Nat}{sp:ZS}{b:DS}(F:ZV K x qual st f fd)(S:zc2 N ps (Za st))
  (len:∀ ds So Q,sp ds So Q->ds.length=ps.length) (body:BodyOk N.length b sp)
  (term:∀ (cdv:Value) (A:Around) (outer:List Env) (s:Shared) (H:Hp) (E:XK),Zg k (A.deeper (envOfC qual (Za st) s.heap.objs.size f cdv))->∀ [Bs],zeh (Wv ZR P w K mg base N qual (Za st) f cdv A outer s H E).nox (Xc st) b) :
  zQ P w K mg base ZR (k+1) f fd ps (Z4 K sp):=by
 with_unfolding_all
  refine F.ok S (fun vs H Q E ⟨ad,So,ds,Q0,so,r,hf,kk⟩=>by rw [<- r.length];exact len ds So Q0 hf) fun cdv A outer s H vs Q E hr ⟨ad,So,ds,Q0,so,r,hf,kk⟩=>?_
  letI:Bs:=⟨ad,H⟩
  refine⟨_,term cdv A outer s H E hr,ad,zd7 N.length ds,So,_,so,zlT N r,body ds So Q0 hf,⟨fun Z S' U H' ad' q w' st' rh=>ziG so kk .non S' .non H' ad' q w' st' .non,ziG so kk,fun _ _ _ _ _ q=>q.elim,fun _ _ _ _ _ q=>q.elim⟩⟩
omit B in
theorem zu2 {K:PySem.W.Frag}{H:Hp}{a:Addr}{ns:List Int}(hl:ns.length<=63)(hg:∀ n∈ns,Hg n)(hO:Only H)(hS:Zo K H a (ns.map V.int)):Z4 K zfJ [.ref a] H (fun v _=>v=.bl true) fun _ _ _=>False:=by
 have hr:ziz K H a (ns.map V.int):=by
  rcases hS with (h | h) | h
  ·rcases hO a with e | ⟨o,xs,e⟩
   ·rw [h] at e;cases e
   ·rw [h] at e;cases e
  ·exact .inl h
  ·exact .inr h
 refine⟨[],[],[.rl (ns.map D.int)],fun d _=>d=.bl true,@zN.mk ⟨[],H⟩ _ _ _ _ Wd.refl rfl List.nodup_nil (fun n a c e=>by simp at e),.cons (.rl hr (zF.mk_ints ns)) .nil,⟨ns,rfl,⟨rfl,hg⟩,hl,fun _=>rfl⟩,fun d S' v H' ad' q w st' r=>?_⟩
 have q':d=.bl true:=q
 subst q'
 cases r
 rfl
omit B in
theorem zmq:∀ {ns:List Int} {n:Int},n∈ns->PySem.W.WData.weight (.int n)<=PySem.W.WData.weightAll (ns.map PySem.W.WData.int)
 | m::ns,n,h=>by
  rw [qI,PySem.W.WData.weightAll]
  rcases qg.mp h with rfl | h
  ·lia
  ·have:=zmq h;lia
omit B in
theorem zqP {l:PySem.W.OpenLaw}{n k:Nat}{q:Program}{loose:List Str}{XP:(Str->Option Value)->Heap->Prop}{YP:World->Heap->Prop}{d:DefRec}{K:Params->PySem.W.Frag}{sp:World->Sp}{x:Str}
  (hn:l.most=some n) (hn2:n<=sizeLine) (hdf:d.params.defaults=[]) (hr:Zg k callerA) (hY:∀ (w:World) (h:Heap),YP w h->(K w.params).In h)
  (F:∀ (w:World) (mg:Str->Option Value) (fa:Addr) (h:Heap),(K w.params).In h->h.Ns mainGlobals mg->mg d.name=some (.ref fa) ->
   ∃ fd:FuncData,(∀ (s:Shared) (u:Value),BindsTo s fd ⟨[u],[]⟩ [(x,u)])/\∀ base:Heap,(K w.params).In base->base.Ns mainGlobals mg->zQ l.prog w (K w.params) mg base ZR k fa fd [x] (sp w))
  (hsp:∀ (w:World) (H:Hp) (a:Addr) (ns:List Int),ns.length<=n->(∀ m∈ns,Hg m)->Only H->Zo (K w.params) H a (ns.map V.int)->sp w [.ref a] H (fun v _=>v=.bl true) fun _ _ _=>False) :
  PySem.W.WalkO q loose XP YP l.row.toRowW d [] (fun f vs=>PySem.call f vs):=by
 intro w s₀ s₁ mg mb G Y fa o pm cd doc dV kV ho hd hcd hD hmg hg args vals as hpre hlay hrd hwl hlo
 obtain rfl:dV=.none:=PySem.W.Dflts.none hD hdf
 obtain rfl:kV=.none:=PySem.W.Dflts.noKw hD
 obtain⟨a,vs,ns,rfl,rfl,hobj,hints,hlen⟩:=Att.zqh hn hpre hwl
 have hbits:∀ m∈ns,Hg m:=fun m hm=>by
  have h1:PySem.W.WData.layable (.list (ns.map .int))=true:=by simpa [PySem.W.WData.layableAll] using hlay
  have h2:PySem.W.WData.weight (.list (ns.map PySem.W.WData.int))<=2 ^ 20:=by
   unfold PySem.W.WData.layable at h1
   rw [qG,decide_eq_true_eq] at h1
   exact h1.2
  have h3:=qX (zmq hm) (by simpa only [PySem.W.WData.weight] using h2)
  exact zta (by simpa only [PySem.W.WData.weight,Builtin.Int.intBits] using h3)
 have KX:=hY w _ Y
 obtain⟨fd,hb,hF⟩:=F w mg fa _ KX G.T.g hmg
 refine PySem.W.enter_call (codeAny_mono (zrs KX G.T.g G.T.b G.T.builtins G.T.nolimit hg hobj hints (qX hlen hn2) hr hF hb (fun H hO hS=>hsp w H a ns hlen hbits hO hS) fun _ _ _ z=>z) fun r s' hq=>?_)
 obtain⟨rfl,h2,h3,h4⟩:=hq
 exact⟨.inl ⟨.bool true,.bool true,[],rfl,fun _=>rfl,.bool true,Att.zp8 l _,fun _=>⟨List.Pairwise.nil,fun _ hm=>(nomatch hm)⟩⟩,h2,h3,h4⟩
omit B in
theorem zsG {us:List Value}(hl:us.length=1):∃ a0,us=[a0]:=by
  cases us with
  | nil=>simp at hl
  | cons a0 us =>
  cases us with
  | nil=>exact⟨a0,rfl⟩
  | cons b us=>simp at hl
omit B in
theorem znZ {us:List Value}(hl:us.length=2):∃ a0 a1,us=[a0,a1]:=by
  cases us with
  | nil=>simp at hl
  | cons a0 us =>
  cases us with
  | nil=>simp at hl
  | cons a1 us =>
  cases us with
  | nil=>exact⟨a0,a1,rfl⟩
  | cons b us=>simp at hl
omit B in
theorem zsz {us:List Value}(hl:us.length=3):∃ a0 a1 a2,us=[a0,a1,a2]:=by
  cases us with
  | nil=>simp at hl
  | cons a0 us =>
  cases us with
  | nil=>simp at hl
  | cons a1 us =>
  cases us with
  | nil=>simp at hl
  | cons a2 us =>
  cases us with
  | nil=>exact⟨a0,a1,a2,rfl⟩
  | cons b us=>simp at hl
omit B in
theorem zsx {us:List Value}(hl:us.length=4):∃ a0 a1 a2 a3,us=[a0,a1,a2,a3]:=by
  cases us with
  | nil=>simp at hl
  | cons a0 us =>
  cases us with
  | nil=>simp at hl
  | cons a1 us =>
  cases us with
  | nil=>simp at hl
  | cons a2 us =>
  cases us with
  | nil=>simp at hl
  | cons a3 us =>
  cases us with
  | nil=>exact⟨a0,a1,a2,a3,rfl⟩
  | cons b us=>simp at hl
omit B in
theorem zsq {us:List Value}(hl:us.length=5):∃ a0 a1 a2 a3 a4,us=[a0,a1,a2,a3,a4]:=by
  cases us with
  | nil=>simp at hl
  | cons a0 us =>
  cases us with
  | nil=>simp at hl
  | cons a1 us =>
  cases us with
  | nil=>simp at hl
  | cons a2 us =>
  cases us with
  | nil=>simp at hl
  | cons a3 us =>
  cases us with
  | nil=>simp at hl
  | cons a4 us =>
  cases us with
  | nil=>exact⟨a0,a1,a2,a3,a4,rfl⟩
  | cons b us=>simp at hl
omit B in
theorem zxV {us:List Value}(hl:us.length=8):∃ a0 a1 a2 a3 a4 a5 a6 a7,us=[a0,a1,a2,a3,a4,a5,a6,a7]:=by
  cases us with
  | nil=>simp at hl
  | cons a0 us =>
  cases us with
  | nil=>simp at hl
  | cons a1 us =>
  cases us with
  | nil=>simp at hl
  | cons a2 us =>
  cases us with
  | nil=>simp at hl
  | cons a3 us =>
  cases us with
  | nil=>simp at hl
  | cons a4 us =>
  cases us with
  | nil=>simp at hl
  | cons a5 us =>
  cases us with
  | nil=>simp at hl
  | cons a6 us =>
  cases us with
  | nil=>simp at hl
  | cons a7 us =>
  cases us with
  | nil=>exact⟨a0,a1,a2,a3,a4,a5,a6,a7,rfl⟩
  | cons b us=>simp at hl
end Dp
namespace Dp
open PySem PySem.Spec PyProof.Rows L2 My
variable [B:Bs]
section
variable {X:Cx}
theorem ztW {K:PySem.W.Frag}{ad:List Addr}{H:Hp}{a:Addr}{x:D}{ds:List D}(r:Rel K ad H x (.ref a)):zfZ K ad H ⟨Wa 0 ds,fun S=>Lst S x ds⟩ (Ite K a) where
 go:=fun ad1 H1 S i w st ok hi=>by
  obtain⟨a',vs,e,s,rs⟩:=Lst.sq st ok (r.wd w)
  cases e
  have hi':i<ds.length:=by rw [<- zbr 0 ds];exact hi
  exact⟨vs,vs[i]'(by rw [<- rs.length];exact hi'),s,qc _⟩
 yld:=fun ad1 H1 S i d y H' w st ok hd ⟨p,ey,hp,he⟩=>by
  obtain⟨a',vs,e,s,rs⟩:=Lst.sq st ok (r.wd w)
  cases e
  obtain⟨z,hz,rfl⟩:=zb8 hd
  obtain⟨v,ev,rv⟩:=rs.get hz
  rw [he vs v s ev,ey]
  refine⟨Wd.laid hp,st.laid hp,.tup Xr (.cons ?_ (.cons (rv.wd (Wd.laid hp)) .nil))⟩
  rw [qbz];exact .int _
 stop:=fun ad1 H1 S w st ok=>by
  obtain⟨a',vs,e,s,rs⟩:=Lst.sq st ok (r.wd w)
  cases e
  exact⟨vs,s,by show _<=(Wa 0 ds).length;rw [zbr,rs.length];exact qf _⟩
theorem zrE {K:PySem.W.Frag}{ad:List Addr}{H:Hp}{a:Addr}{vs:List V}{ds:List D}(h:H a=some (.tup vs))(r:zF K ad H ds vs):zfZ K ad H ⟨Wa 0 ds,fun _=>True⟩ (zrr K a) where
 go:=fun ad1 H1 S i w st _ hi=>by
  have hi':i<ds.length:=by rw [<- zbr 0 ds];exact hi
  exact⟨vs,vs[i]'(by rw [<- r.length];exact hi'),ZF.of (w.tup _ _ h),qc _⟩
 yld:=fun ad1 H1 S i d y H' w st _ hd ⟨p,ey,hp,he⟩=>by
  obtain⟨z,hz,rfl⟩:=zb8 hd
  obtain⟨v,ev,rv⟩:=r.get hz
  rw [he vs v (ZF.of (w.tup _ _ h)) ev,ey]
  refine⟨Wd.laid hp,st.laid hp,.tup Xr (.cons ?_ (.cons ((rv.wd w).wd (Wd.laid hp)) .nil))⟩
  rw [qbz];exact .int _
 stop:=fun ad1 H1 S w st _=>⟨vs,ZF.of (w.tup _ _ h),by show _<=(Wa 0 ds).length;rw [zbr,r.length];exact qf _⟩
theorem zcv {es:List Expr}{kk:Nat}{tpos:Pos}{a:Expr}{t:DA}{p pos:Pos}(hg:Gl X "enumerate")(hm:X.mg "enumerate"=none)(ha:PAD X [a] t)(hs:starEach [a] X.env=[(false,eval a X.env)]:=by exact zdx rfl) :
  PID X (.Tuple es kk tpos) (.Call (.Name "enumerate" p) [a] [] pos) (Dp.zf8 t):=by with_unfolding_all exact (zhv (zqL hg hm ha hs) fun U H R hh=>Zv hh fun ad Z S R0 st rh q k =>
 ⟨ad,Z,S,_,st,rh,q,fun ds S1 vs H1 ad1 q0 w1 st1 r1=>by
  rcases q0 with ⟨x,xs,ed,hx,q1⟩ | ⟨xs,ed,q1⟩
  ·subst ed
   obtain⟨v,rfl,rv⟩:=X3 r1
   obtain⟨b,ws,rfl,s,rs⟩:=hx.sq st1 rv
   exact⟨b,rfl,.inl ⟨⟨ws,s⟩,k _ S1 _ H1 ad1 q1 w1 st1 (ztW rv)⟩⟩
  ·subst ed
   obtain⟨v,rfl,rv⟩:=X3 r1
   cases rv with
   | tup h r=>exact⟨_,rfl,.inr ⟨⟨_,ZF.of h⟩,k _ S1 _ H1 ad1 q1 w1 st1 (zrE h r)⟩⟩⟩)
theorem zu1 {K:PySem.W.Frag}{ad:List Addr}{H:Hp}{a b:Addr}{x y:D}{ds es:List D}(r:Rel K ad H x (.ref a))(r2:Rel K ad H y (.ref b)):zfZ K ad H ⟨Xq ds es,fun S=>Lst S x ds/\Lst S y es⟩ (znN K true true a b) where
 go:=fun ad1 H1 S i w st ok hi=>by
  obtain⟨a',vs,e,s,rs⟩:=Lst.sq st ok.1 (r.wd w)
  obtain⟨b',us,e',s',rs'⟩:=Lst.sq st ok.2 (r2.wd w)
  cases e
  cases e'
  have hi':i<min ds.length es.length:=by rw [<- zdI ds es];exact hi
  exact⟨vs,us,vs[i]'(by rw [<- rs.length];lia),us[i]'(by rw [<- rs'.length];lia),s,s',qc _,qc _⟩
 yld:=fun ad1 H1 S i d z H' w st ok hd ⟨p,ey,hp,he⟩=>by
  obtain⟨a',vs,e,s,rs⟩:=Lst.sq st ok.1 (r.wd w)
  obtain⟨b',us,e',s',rs'⟩:=Lst.sq st ok.2 (r2.wd w)
  cases e
  cases e'
  obtain⟨u1,u2,h1,h2,rfl⟩:=zeL hd
  obtain⟨v,ev,rv⟩:=rs.get h1
  obtain⟨u,eu,ru⟩:=rs'.get h2
  rw [he vs us v u s s' ev eu,ey]
  exact⟨Wd.laid hp,st.laid hp,.tup Xr (.cons (rv.wd (Wd.laid hp)) (.cons (ru.wd (Wd.laid hp)) .nil))⟩
 stop:=fun ad1 H1 S w st ok=>by
  obtain⟨a',vs,e,s,rs⟩:=Lst.sq st ok.1 (r.wd w)
  obtain⟨b',us,e',s',rs'⟩:=Lst.sq st ok.2 (r2.wd w)
  cases e
  cases e'
  refine⟨vs,us,s,s',?_⟩
  show vs.length<=(Xq ds es).length\/us.length<=(Xq ds es).length
  rw [zdI,rs.length,rs'.length];lia
theorem zuz {K:PySem.W.Frag}{ad:List Addr}{H:Hp}{a b:Addr}{vs us:List V}{ds es:List D}(h:H a=some (.tup vs))(r:zF K ad H ds vs)(h2:H b=some (.tup us))(r2:zF K ad H es us):zfZ K ad H ⟨Xq ds es,fun _=>True⟩ (znN K false false a b) where
 go:=fun ad1 H1 S i w st _ hi=>by
  have hi':i<min ds.length es.length:=by rw [<- zdI ds es];exact hi
  exact⟨vs,us,vs[i]'(by rw [<- r.length];lia),us[i]'(by rw [<- r2.length];lia),ZF.of (w.tup _ _ h),ZF.of (w.tup _ _ h2),qc _,qc _⟩
 yld:=fun ad1 H1 S i d z H' w st _ hd ⟨p,ey,hp,he⟩=>by
  obtain⟨u1,u2,h1,h2',rfl⟩:=zeL hd
  obtain⟨v,ev,rv⟩:=r.get h1
  obtain⟨u,eu,ru⟩:=r2.get h2'
  rw [he vs us v u (ZF.of (w.tup _ _ h)) (ZF.of (w.tup _ _ h2)) ev eu,ey]
  exact⟨Wd.laid hp,st.laid hp,.tup Xr (.cons ((rv.wd w).wd (Wd.laid hp)) (.cons ((ru.wd w).wd (Wd.laid hp)) .nil))⟩
 stop:=fun ad1 H1 S w st _=>by
  refine⟨vs,us,ZF.of (w.tup _ _ h),ZF.of (w.tup _ _ h2),?_⟩
  show vs.length<=(Xq ds es).length\/us.length<=(Xq ds es).length
  rw [zdI,r.length,r2.length];lia
theorem zpj {es:List Expr}{kk:Nat}{tpos:Pos}{a b:Expr}{t:DA}{p pos:Pos}(hg:Gl X "zip")(hm:X.mg "zip"=none)(ha:PAD X [a,b] t)(hs:starEach [a,b] X.env=[(false,eval a X.env),(false,eval b X.env)]:=by exact zlP rfl rfl)(hs2:starEach [b] X.env=[(false,eval b X.env)]:=by exact zdx rfl) :
  PID X (.Tuple es kk tpos) (.Call (.Name "zip" p) [a,b] [] pos) (Dp.znW t):=by with_unfolding_all exact (zhv (zs5 hg hm ha hs hs2) fun U H R hh=>Zv hh fun ad Z S R0 st rh q k =>
 ⟨ad,Z,S,_,st,rh,q,fun ds S1 vs H1 ad1 q0 w1 st1 r1=>by
  rcases q0 with ⟨x,y,xs,ys,ed,hx,hy,q1⟩ | ⟨xs,ys,ed,q1⟩
  ·subst ed
   obtain⟨v,u,rfl,rv,ru⟩:=zif r1
   obtain⟨b1,ws,rfl,s,rs⟩:=hx.sq st1 rv
   obtain⟨b2,ws2,rfl,s2,rs2⟩:=hy.sq st1 ru
   exact⟨true,b1,b2,rfl,⟨ws,s⟩,⟨ws2,s2⟩,k _ S1 _ H1 ad1 q1 w1 st1 (zu1 rv ru)⟩
  ·subst ed
   obtain⟨v,u,rfl,rv,ru⟩:=zif r1
   cases rv with
   | tup h r =>
    cases ru with
    | tup h2 r2=>exact⟨false,_,_,rfl,⟨_,ZF.of h⟩,⟨_,ZF.of h2⟩,k _ S1 _ H1 ad1 q1 w1 st1 (zuz h r h2 r2)⟩⟩)
end
section
variable {X:Cx}{a b:Expr}{ta tb:DE}{pos:Pos}
theorem zlv (x:D)(hx:fl 20 x=true):∀ ys:List D,ys.all (fl 20)=true->((Zc ys).any fun z=>PyData.eqv z (YM x))=ys.any fun z=>eqv z x
 | [],_=>rfl
 | y::ys,h=>by
  rw [qax,qG] at h
  show (PyData.eqv (YM y) (YM x)||(Zc ys).any fun z=>PyData.eqv z (YM x))=_
  rw [zju 20 y x h.1 hx,zlv x hx ys h.2]
  rfl
def zvn (X:Cx)(g:Bool->Bool):R2:=fun x y H Q=>∃ ad S dx dy b,zN X.K ad H S/\Rel X.K ad H dx x/\Rel X.K ad H dy y/\InD S dx dy b/\Q (.bl (g b)) H
theorem zks {Z9:List (Addr×Obj)}{U:L2.St}{H:Hp}{s:Shared}{ad:List Addr}{S:Z5}{dx dy:D}{x y:V}{v u:Value}{b:Bool}(I:Inv X Z9 U H s)(st:zN X.K ad H S)(rx:Rel X.K ad H dx x)(ry:Rel X.K ad H dy y)(qx:RelV x v)(qy:RelV y u)(h:InD S dx dy b) :
  ∃ pd ps as bs,Reads s.heap v pd as/\(Reads s.heap u (.list ps) bs\/Reads s.heap u (.tuple ps) bs)/\pd.canLay0=true/\PyData.canLayAll0 ps=true/\min (PyData.depthAll ps) pd.depth<=60/\(ps.any fun z=>PyData.eqv z pd)=b:=by
 obtain⟨ys,hy,fx,fy,rfl⟩:=h
 obtain⟨as,ra⟩:=zbS I 20 dx x v fx rx qx
 obtain⟨c1,d1⟩:=ze0 20 dx fx
 obtain⟨c2,d2⟩:=zcL 20 ys fy
 rcases hy with rfl | hy
 ·obtain⟨bs,rb⟩:=zbS I 21 (.tup ys) y u fy ry qy
  exact⟨YM dx,Zc ys,as,bs,ra,.inr rb,c1,c2,by lia,zlv dx fx ys fy⟩
 ·obtain⟨a2,vs2,rfl,s2,r2⟩:=hy.sq st ry
  cases qy
  obtain⟨its2,rv2,ht2,hz2⟩:=I.list s2
  obtain⟨o2,ho2,hc2,n2,hd2⟩:=ht2.isList
  obtain⟨bs,rb⟩:=zdC I 20 (zbS I 20) _ _ _ fy r2 rv2
  exact⟨YM dx,Zc ys,as,_,ra,.inl (.list ho2 hc2 hd2 (by simpa using rb)),c1,c2,by lia,zlv dx fx ys fy⟩
theorem zx4 {k:Nat}(hr:Zg k X.A):OC X .In oIn:=⟨_,(Zk.or (r:=zvn X id) (fun Z9 s U H x y v u Q I qx qy ⟨ad,S,dx,dy,b,st,rx,ry,h,q⟩=>by
  obtain⟨pd,ps,as,bs,ra,rb,c1,c2,hd,e⟩:=zks I st rx ry qx qy h
  have hu:=hr.units
  rcases rb with rb | rb
  ·exact PySem.SeqAt.in_list_reads rb ra c2 c1 (by lia) ⟨.bl _,H,I,by rw [e];rfl,q⟩
  ·exact PySem.SeqAt.in_tuple_reads rb ra c2 c1 (by lia) ⟨.bl _,H,I,by rw [e];rfl,q⟩) zpT),
 fun ad H S x y v u Q0 Q st rx ry h k=>by
  rcases h with ⟨b,h,q⟩ | ⟨c,z,rfl,rfl,q⟩
  ·exact .inl ⟨ad,S,x,y,b,st,rx,ry,h,k _ S _ H ad q Wd.refl st (.bl _)⟩
  ·cases rx
   cases ry
   exact .inr ⟨_,z,rfl,rfl,by rw [PySem.StrLaws.found_one];exact k _ S _ H ad q Wd.refl st (.bl _)⟩⟩
theorem zrd {k:Nat}(hr:Zg k X.A):OC X .NotIn zmx:=⟨_,(Zk.or (r:=zvn X (!·)) (fun Z9 s U H x y v u Q I qx qy ⟨ad,S,dx,dy,b,st,rx,ry,h,q⟩=>by
  obtain⟨pd,ps,as,bs,ra,rb,c1,c2,hd,e⟩:=zks I st rx ry qx qy h
  have hu:=hr.units
  rcases rb with rb | rb
  ·exact PySem.SeqAt.notIn_list_reads rb ra c2 c1 (by lia) ⟨.bl _,H,I,by rw [e];rfl,q⟩
  ·exact PySem.SeqAt.notIn_tuple_reads rb ra c2 c1 (by lia) ⟨.bl _,H,I,by rw [e];rfl,q⟩) zlL),
 fun ad H S x y v u Q0 Q st rx ry h k=>by
  rcases h with ⟨b,h,q⟩ | ⟨c,z,rfl,rfl,q⟩
  ·exact .inl ⟨ad,S,x,y,b,st,rx,ry,h,k _ S _ H ad q Wd.refl st (.bl _)⟩
  ·cases rx
   cases ry
   exact .inr ⟨_,z,rfl,rfl,by rw [PySem.StrLaws.found_one];exact k _ S _ H ad q Wd.refl st (.bl _)⟩⟩
theorem ztV {op:CmpOp}{r':Zb}(o:OC X op r')(ha:PD X a ta)(hb:PD X b tb)(hm:behindInMarks op b=false:=by with_unfolding_all rfl):PD X (.Compare a [op] [b] pos) (Z7 r' ta tb):=by
 with_unfolding_all
  obtain⟨r,ho,od⟩:=o
  exact YC (zm1 ho ha hb hm) fun _ _ _=>zhy od
theorem zuo {op:CmpOp}{r':Zb}(o:OC X op r')(ha:PD X a ta)(hb:PD X b tb)(hm:behindInMarks op b=false:=by with_unfolding_all rfl):WL X (.Compare a [op] [b] pos) (dT (Z7 r' ta tb)):=by
 with_unfolding_all
  obtain⟨r,ho,od⟩:=o
  refine zfB (zm6 ho ha hb hm) fun U H Q hh=>Zv hh fun ad Z S Q0 st rh q k=>?_
  refine zhy (Q:=fun x H'=>∃ k,x=.bl k/\Q k H') od ⟨ad,Z,S,_,st,rh,q,fun d S' v H' ad' ⟨b,e,q'⟩ w st' r=>?_⟩
  subst e
  cases r
  exact⟨b,rfl,k b S' H' ad' q' w st'⟩
end
section
variable {X:Cx}
theorem ints_of:∀ {ns:List Int} {its:List Value},Vals (ns.map V.int) its->IntsAre its ns
 | [],_,r=>by cases r;exact .nil
 | n::ns,_,r=>by
  cases r with
  | cons h t =>
   obtain⟨k,rfl⟩:=h
   exact .cons _ _ (ints_of t)
theorem znq:∀ {ns:List Int} {its:List Value},IntsAre its ns->Vals (ns.map V.int) its
 | [],_,r=>by cases r;exact .nil
 | n::ns,_,r=>by
  cases r with
  | cons _ _ t=>exact .cons ⟨_,rfl⟩ (znq t)
def zv6 (K:PySem.W.Frag):List V->Hp->VK->Prop:=fun xs H Q=>∃ (p:Addr) (ns:List Int),xs=[.ref p]/\Zo K H p (ns.map V.int)/\ns.length<64/\∀ (l:Addr) (ss:List Int),H l=none->ss.Perm ns->ss.Pairwise (fun a b=>a<=b)->Q (.ref l) (upd H l (.lst (ss.map V.int)))
theorem zlH {K:PySem.W.Frag}(hK:X.K=K):YF X (.builtin "sorted") (zv6 K):=fun Z9 s U H xs us Q I r h=>by
 subst hK
 obtain⟨p,ns,rfl,hS,h64,q⟩:=h
 obtain⟨u,rfl,ru⟩:=vals1 r
 cases ru
 obtain⟨its,rv,pl,hz⟩:=I.list hS
 have hI:=ints_of rv
 have hlen:=rv.length
 rw [qb] at hlen hz
 refine sorted_ints pl.isList hI (by lia) fun out ss h1 h2 h3=>?_
 obtain⟨e,he⟩:=sortedAll_at s.heap its out
 have hv:=znq h1
 refine⟨.ref (s.heap.objs.size+1),_,I.laid (t':=s.toks) (a:=s.heap.objs.size+1) (o:=.lst (ss.map V.int)) (fun b o q=>sortedAll_old q) (qa4 _) ⟨?_,out.toList,e,hv,?_⟩,rfl,q _ ss (I.hok.fresh (qa4 _)) h2 h3⟩
 ·rw [qb,h2.length_eq];exact hz
 ·rw [he]
theorem zrk:BC X (.builtin "sorted") zqA:=⟨_,zlH rfl,fun ad H S ds vs Q0 Q st r ⟨x,ns,e,hx,h64,q⟩ k=>by
 subst e
 obtain⟨v,rfl,rv⟩:=X3 r
 obtain⟨a,ws,rfl,hs,rs⟩:=hx.sq st rv
 cases rs.ints
 exact⟨a,ns,rfl,hs,h64,fun l ss hl hp hw=>zfQ st k (zF.mk_ints ss) (q ss hp hw) l hl⟩⟩
theorem ztD:BC X (.builtin "sorted") zn5:=by
 obtain⟨r1,c1,d1⟩:=zqM (X:=X)
 obtain⟨r2,c2,d2⟩:=zrk (X:=X)
 refine⟨fun xs H Q=>r1 xs H Q\/r2 xs H Q,fun Z9 s U H xs us Q I r h=>?_,fun ad H S ds vs Q0 Q st r h k=>?_⟩
 ·rcases h with h | h
  ·exact c1 Z9 s U H xs us Q I r h
  ·exact c2 Z9 s U H xs us Q I r h
 ·rcases h with h | h
  ·exact .inl (d1 ad H S ds vs Q0 Q st r h k)
  ·exact .inr (d2 ad H S ds vs Q0 Q st r h k)
end
section
variable {X:Cx}{e:Expr}{pos p2 p3:Pos}{lo:Option Expr}
end
theorem zmm {K:PySem.W.Frag}{ad:List Addr}{H:Hp}:∀ {zs:List Str} {vs:List V},zF K ad H (zs.map D.str) vs->vs=zs.map V.str
 | [],_,.nil=>rfl
 | z::zs,_,.cons r t=>by cases r;rw [zmm t];rfl
theorem zt3 {X:Cx}{a:Expr}{t:DA}{p1 p2 pos1 pos2:Pos}(hgl:Gl X "len")(hml:X.mg "len"=none)(hgr:Gl X "set")(hmr:X.mg "set"=none)(ha:PAD X [a] t)(hc:X.calm=true:=by rfl)
  (hs:starEach [a] X.env=[(false,eval a X.env)]:=by exact zdx rfl)
  (hs3:starEach [.Call (.Name "set" p2) [a] [] pos2] X.env=[(false,eval (.Call (.Name "set" p2) [a] [] pos2) X.env)]:=by rfl) :
  PD X (.Call (.Name "len" p1) [.Call (.Name "set" p2) [a] [] pos2] [] pos1) (dB znX t):=by with_unfolding_all exact (YC (ztX hc hgl hml hgr hmr ha hs hs3) fun U H Q hh=>Zv hh fun ad Z S Q0 st rh q k =>
  ⟨ad,Z,S,_,st,rh,q,fun ds S1 vs H1 ad1 ⟨x,zs,ed,hx,hl,q1⟩ w1 st1 r1=>by
   subst ed
   obtain⟨v,rfl,rv⟩:=X3 r1
   obtain⟨a1,ws,rfl,hs,rs⟩:=hx.sq st1 rv
   cases zmm rs
   exact⟨a1,zs,rfl,hs,hl,k _ S1 _ H1 ad1 q1 w1 st1 (.int _)⟩⟩)
section
variable {X:Cx}{e:Expr}{t:DA}{p pos kp cp:Pos}{j:Nat}
end
section
variable {X:Cx}{e o value:Expr}{te to tv:DE}{f c:Str}{pos pos':Pos}
theorem YH (he:PD X e te)(hb:attributeBase e f X.env (eval e X.env)=eval e X.env):PD X (.Attribute e f pos) (YS f te):=by with_unfolding_all exact (YC (zvg he hb) fun U H Q hh=>Zv hh fun ad Z S Q0 st rh q k =>
  ⟨ad,Z,S,_,st,rh,q,fun x S1 v H1 ad1 ⟨n,c,fs,d,ex,hn,hl,q1⟩ w1 st1 r1=>by
   subst ex
   cases r1 with
   | ref en =>
    obtain⟨C,dx,vs,h1,hc,hns,rf,hna⟩:=st1.cell n _ _ en hn
    obtain⟨v,hv,rv⟩:=rf.look hl
    obtain⟨q2,hq2,e2⟩:=zly hl
    exact⟨_,C,dx,vs,v,rfl,h1,hc,e2▸hna q2 hq2,hv,k d S1 v H1 ad1 q1 w1 st1 rv⟩⟩)
theorem zcY (hna:∀ C,PySem.W.nsIn X.K mainGlobals c=some (some (.ref C))->YG X.K C f)(ho:PD X o to)(hv:PD X value tv)(hs:swapsWith value (some (.Attribute o f pos')) pos.line X.env=pure false:=by rfl) :
  W8 X (.Assign [.Attribute o f pos'] value pos) (zdT c f to tv):=by with_unfolding_all exact (VN (zuQ ho hv hs) fun E U H hh=>Zv hh fun ad Z S E0 so rh q k =>
 ⟨ad,Z,S,_,so,rh,q,fun y S1 vy H1 ad1 q1 w1 st1 r1=>⟨ad1,Z,S1,_,st1,rh.wd w1,q1,fun x S2 vx H2 ad2 ⟨n,fs,ex,hn,hl,q2⟩ w2 st2 r2=>by
  subst ex
  cases r2 with
  | ref en =>
   obtain⟨C,dx,vs,h1,hc,hns,rf,hna'⟩:=st2.cell n _ _ en hn
   have w3:Wd ad2 H2 ad2 (upd H2 _ (.ins C dx (X7 f vy vs))):=Wd.putI en h1
   exact⟨_,C,dx,vs,rfl,h1,hc,hna C hns,by rw [<- rf.length];lia,k.nx Z _ U _ ad2 q2 ((w1.trans w2).trans w3) (st2.putI en h1 hc hns rf hna' (hna C hns) (r1.wd w2)) (((rh.wd w1).wd w2).wd w3)⟩⟩⟩)
omit B in
theorem zm7 {K:PySem.W.Frag}{C:Addr}{c:Str}{init:ZS}(hc:Cls K C)(hn:PySem.W.nsIn K mainGlobals c=some (some (.ref C))):∀ vs H Q,Z4 K (znR c init) vs H Q E0->∀ x dx,H x=none->H dx=none->dx≠x ->
  Z4 K init (.ref x::vs) (upd (upd H dx (.own x)) x (.ins C dx [])) (fun v H2=>v=.non/\Q (.ref x) H2) E0:=by
 rintro vs H Q ⟨ad,S,ds,Q0,st,r,hf,k⟩ x dx hx hdx hne
 letI:Bs:=⟨ad,H⟩
 obtain⟨w,st'⟩:=st.newI (c:=c) hx hdx hne hc hn
 have rx:Rel K (ad++[x]) (upd (upd H dx (.own x)) x (.ins C dx [])) (.ref S.length) (.ref x):=.ref (by rw [<- st.len,qj (qf _),qav];rfl)
 have hf':init (.ref S.length::ds) (S++[.ins c []]) (fun d S2=>d=.non/\Q0 (.ref S.length) S2):=hf
 refine⟨ad++[x],S++[.ins c []],.ref S.length::ds,_,st'.base,.cons rx (r.wd w),hf',fun d S' v H' ad' q w' st2 rv=>?_⟩
 obtain⟨rfl,q⟩:=q
 cases rv
 exact⟨rfl,k _ S' _ H' ad' q (w.trans w') (st'.back st2) (rx.wd w')⟩
theorem zlR {k j:Nat}{x:Str}{e:Expr}{es:List Expr}{t:DA}{p:Pos}{f:ZS}(G:zjT X.prog X.w X.K X.mg X.base k x (Z4 X.K f))(hr:Zg j X.A)
  (ha:PAD X (e::es) t) (hk:k+1<=j:=by decide) (hg:Gl X x:=by rfl) (hdb:(x==("__debug__":Str))=false:=by decide) (he:starEach (e::es) X.env=(false,eval e X.env)::starEach es X.env:=by exact zbq rfl) (hpl:(backTo pos (starEach es X.env)).any (·.1)=false:=by exact zcX rfl) :
  PD X (.Call (.Name x p) (e::es) [] pos) (dCall f t):=by with_unfolding_all exact (YC (zyk G hr hk hg ha hdb he hpl) fun U H Q hh=>Zv hh fun ad Z S Q0 st rh q k =>
 ⟨ad,Z,S,_,st,rh,q,fun ds S1 vs H1 ad1 q1 w1 st1 r1=>by
  show Z4 X.K f (vs++[]) H1 Q E0
  rw [qU];exact⟨ad1,S1,ds,Q0,st1.base,r1,q1,(k.wd w1).base st1⟩⟩)
end
end Dp
namespace Dp
open PySem PySem.Spec PyProof.Rows L2 My
def Fly (h0 h:Heap)(e:Addr)(cls:Value)(H:Hp):Prop:=h0.get? e=none/\H e=none/\∃ (a0:Value) (oe:Obj) (vs:Array Value) (T:Addr) (oT:Obj) (ts:Array Value),h.get? e=some oe/\(oe.cls=cls/\vs[0]?=some a0)/\oe.data=.fields vs/\vs[1]?=some (.ref T)/\h0.get? T=none/\T≠e/\h.get? T=some oT/\oT.data=.fields ts/\ts[3]?=some .none/\H T=none
def Xi (P:Program)(w:World):CXT:=fun outer H s E e s'=>∃ (a C:Addr) (H':Hp),e=.ref a/\s'.os=s.os/\AllBare s'.gens/\Un (frs outer) [] H H' s.heap s'.heap/\Ze P w H' s'.heap/\Fly s.heap s'.heap a (.ref C) H'/\E (.ref C) none H'
def zdg (h:Heap)(p:Addr->Bool):Heap:={ h with objs:=h.objs.mapIdx fun i o=>if p i=true then o else { cls:=.none,data:=.freed } }
theorem zeR (h:Heap)(p:Addr->Bool)(b:Addr):(zdg h p).get? b=if p b=true then h.get? b else none:=by
  unfold zdg Heap.get?
  dsimp only
  rw [Array.getElem?_mapIdx]
  cases h.objs[b]? with
  | none=>cases p b<;>rfl
  | some o=>cases p b<;>rfl
theorem zjg (h:Heap)(p:Addr->Bool):(zdg h p).StaysIn h:=fun b o e=>by
 rw [zeR] at e
 split at e
 ·exact e
 ·cases e
theorem zjI {h base base':Heap}:∀ {l:List Env},h.FunFrames base l->(∀ L∈frs l,base'.get? L=none)->h.FunFrames base' l
 | [],_,_=>True.intro
 | env::l,⟨h1,⟨L,o,h2,h3,h4,h5⟩,h6⟩,hb=>⟨h1,⟨L,o,h2,hb L (qah.mpr ⟨env,by simp,h2⟩),h4,h5⟩,zjI h6 fun L' hL=>hb L' (by
   obtain⟨e',he,e2⟩:=qah.mp hL
   exact qah.mpr ⟨e',qB _ he,e2⟩)⟩
section
variable {X:Cx}{Z9:List (Addr×Obj)}{U:L2.St}{H:Hp}{s:Shared}
theorem zps (I:Inv X Z9 U H s)(hex:X.ex=[]){b:Addr}{o:Obj}(e:X.s₀.heap.get? b=some o):∃ o',s.heap.get? b=some o':=I.base.there b o e (by rw [hex];simp)
theorem zec (I:Inv X Z9 U H s)(hex:X.ex=[]){b:Addr}(e:s.heap.get? b=none):X.s₀.heap.get? b=none:=by
 cases q:X.s₀.heap.get? b with
 | none=>rfl
 | some o=>obtain⟨o',h⟩:=zps I hex q;rw [e] at h;cases h
theorem zib (I:Inv X Z9 U H s){b:Addr}(e:s.heap.get? b=none):H b=none:=by
 cases q:H b with
 | none=>rfl
 | some o =>
  have:=(I.hok b o q).lt
  exfalso
  cases o with
  | lst xs=>obtain⟨_,_,_,_,h⟩:=I.hok b _ q;rw [e] at h;cases h
  | tup xs=>obtain⟨_,_,_,ob,h,_⟩:=I.hok b _ q;rw [e] at h;cases h
  | dK Z6=>obtain⟨_,_,_,_,ob,_,_,h,_⟩:=I.hok b _ q;rw [e] at h;cases h
  | dT Z6=>obtain⟨_,_,_,_,ob,_,_,h,_⟩:=I.hok b _ q;rw [e] at h;cases h
  | set S n=>obtain⟨ob,_,_,_,h,_⟩:=I.hok b _ q;rw [e] at h;cases h
  | ins C dx fs=>obtain⟨_,_,_,h,_⟩:=I.hok b _ q;rw [e] at h;cases h
  | own y=>obtain⟨_,h⟩:=I.hok b _ q;rw [e] at h;cases h
  | xd fs=>obtain⟨_,⟨_,_,_,h,_⟩,_⟩:=I.hok b _ q;rw [e] at h;cases h
  | rng lo hi=>obtain⟨_,_,_,h⟩:=I.hok b _ q;rw [e] at h;cases h
  | frz ob u=>obtain⟨h,_⟩:=I.hok b _ q;rw [e] at h;cases h
  | tbl ps=>have h:s.heap.get? b=some _:=I.hok b _ q;rw [e] at h;cases h
  | met f y=>have h:s.heap.get? b=some _:=I.hok b _ q;rw [e] at h;cases h
  | ext φ=>obtain⟨_,⟨_,h⟩,_⟩:=I.hok b _ q;rw [e] at h;cases h
theorem zkl (I:Inv X Z9 U H s)(hex:X.ex=[])(hst:X.stack=X.env::X.outer)(hfr:X.env.frame=some X.env.locals){e T0:Addr}{h':Heap}(he:X.s₀.heap.get? e=none)(hT:X.s₀.heap.get? T0=none)(He:H e=none)(HT:H T0=none)
  (hk:∀ b o,s.heap.get? b=some o->b≠e->b≠T0->b∉frs X.stack->h'.get? b=some o) (hs:∀ b∈frs X.stack,∀ o,s.heap.get? b=some o->∃ sl,h'.get? b=some { o with slots:=sl }) :
  Un X.fs [] X.H₀ H X.s₀.heap h'/\Ze X.prog X.w H h':=by
 have nfr:∀ {b:Addr} {o:Obj},X.s₀.heap.get? b=some o->b∉X.fs->b∉frs X.stack:=fun {b o} q n m=>by
  rw [hst] at m
  obtain⟨e',h1,h2⟩:=qah.mp m
  rcases qg.mp h1 with rfl | h1
  ·rw [hfr] at h2
   cases h2
   exact absurd (qv q) (Nat.not_lt.mpr I.ok.above)
  ·exact n (qah.mpr ⟨e',h1,h2⟩)
 have sub:∀ {b:Addr},b∈X.fs->b∈frs X.stack:=fun {b} m=>by
  obtain⟨e',h1,h2⟩:=qah.mp m
  rw [hst]
  exact qah.mpr ⟨e',qB _ h1,h2⟩
 have nex:∀ b:Addr,b∉X.ex:=fun b=>by rw [hex];simp
 have ne:∀ {b:Addr} {o:Obj},X.s₀.heap.get? b=some o->b≠e/\b≠T0:=fun {b o} q=>⟨fun z=>(by rw [z,he] at q;cases q),fun z=>(by rw [z,hT] at q;cases q)⟩
 have ub:=I.base
 refine⟨⟨fun b o q n m _=>?_,fun b o q n m _=>?_,fun b o q n _=>ub.free b o q n (nex b),fun b o q _=>?_,ub.tups,ub.frzs,ub.tbls⟩,fun a o q=>?_⟩
 ·exact hk b o (ub.keep b o q n m (nex b)) (ne q).1 (ne q).2 (nfr q m)
 ·obtain⟨sl,h1⟩:=ub.slot b o q n m (nex b)
  obtain⟨sl',h2⟩:=hs b (sub m) _ h1
  exact⟨sl',h2⟩
 ·obtain⟨o',h1⟩:=ub.there b o q (nex b)
  by_cases m:b∈frs X.stack
  ·obtain⟨sl,h2⟩:=hs b m o' h1
   exact⟨_,h2⟩
  ·exact⟨o',hk b o' h1 (ne q).1 (ne q).2 m⟩
 ·have inn:∀ {b:Addr},H b≠none->b≠e/\b≠T0/\b∉frs X.stack:=fun {b} n=>⟨fun z=>n (by rw [z];exact He),fun z=>n (by rw [z];exact HT),fun z=>n (I.stkFree b z)⟩
  refine (I.hok a o q).stay (fun b u hb r=>?_) (fun _ r=>r) fun _ _ r=>r
  have n:H b≠none:=by
   rcases hb with rfl | hb
   ·rw [q];exact Option.some_ne_none _
   ·rw [hb];exact Option.some_ne_none _
  obtain⟨n1,n2,n3⟩:=inn n
  exact hk b u r n1 n2 n3
theorem zo3 (I:Inv X Z9 U H s)(hex:X.ex=[])(hst:X.stack=X.env::X.outer)(hfr:X.env.frame=some X.env.locals){e C:Addr}{E:Value->Shared->Prop}{Q:Unit->Shared->Prop}(F:Fly X.s₀.heap s.heap e (.ref C) H)
  (hQ:∀ s':Shared,s'.os=X.s₀.os->AllBare s'.gens->Un X.fs [] X.H₀ H X.s₀.heap s'.heap->Ze X.prog X.w H s'.heap->Fly X.s₀.heap s'.heap e (.ref C) H->Q () s'):wpAny (model X.prog X.w) X.A (leaving X.env (.ref e)) Q E s:=by
 obtain⟨he,He,a0,oe,vs,T,oT,ts,f1,f2,f3,f4,f5,f6,f7,f8,f9,HT⟩:=F
 have ff:s.heap.FunFrames X.base X.stack:=I.stack
 obtain⟨p,hp⟩:∃ p:Addr->Bool,∀ b,p b=true↔b≠e/\b≠T/\b∉frs X.stack:=⟨fun b=>decide (b≠e/\b≠T/\b∉frs X.stack),fun b=>decide_eq_true_iff⟩
 have mno:∀ {b:Addr},¬ (b≠e/\b≠T/\b∉frs X.stack)->(zdg s.heap p).get? b=none:=fun {b} n=>by
  rw [zeR,if_neg (fun z=>n ((hp b).mp z))]
 have myes:∀ {b:Addr} {o:Obj},s.heap.get? b=some o->b≠e->b≠T->b∉frs X.stack->(zdg s.heap p).get? b=some o:=fun {b o} q n1 n2 n3=>by
  rw [zeR,if_pos ((hp b).mpr ⟨n1,n2,n3⟩)];exact q
 have fb:s.heap.FunFrames (zdg s.heap p) X.stack:=zjI ff fun L hL=>mno fun z=>z.2.2 hL
 have fl:Heap.FlyingW (zdg s.heap p) X.stack e (.ref C) a0 s.heap:=⟨zjg _ _,mno fun z=>z.1 rfl,fb,oe,vs,T,oT,ts,f1,f2,f3,f4,mno fun z=>z.2.1 rfl,f6,f7,f8,f9⟩
 have fr:=I.ok.frames
 rw [hst] at fr
 rw [hst] at fl
 refine wpAny_leaves_onW fr hfr fl fun h' ⟨k1,k2,k3,oe',vs',T',oT',ts',g1,g2,g3,g4,g5,g6,g7,g8,g9⟩ us=>?_
 have hs:∀ b∈frs X.stack,∀ o,s.heap.get? b=some o->∃ sl,h'.get? b=some { o with slots:=sl }:=fun b hb o q=>by
  obtain⟨_,o',h1,h2⟩:=ff.mem hb
  rw [q] at h1;cases h1
  exact us b o q h2
 have hk:∀ b o,s.heap.get? b=some o->b≠e->b≠T->b∉frs X.stack->h'.get? b=some o:=fun b o q n1 n2 n3=>k1 b o (myes q n1 n2 n3)
 obtain⟨u1,u2⟩:=zkl I hex hst hfr he f5 He HT hk hs
 have nT:X.s₀.heap.get? T'=none/\H T'=none:=by
  by_cases z1:T'=T
  ·rw [z1];exact⟨f5,HT⟩
  ·by_cases z2:T'∈frs X.stack
   ·exfalso
    obtain⟨_,o',h1,h2⟩:=ff.mem z2
    obtain⟨sl,h3⟩:=hs T' z2 o' h1
    rw [g7] at h3;cases h3
    exact h2 ts' g8
   ·have:s.heap.get? T'=none:=by
     cases q:s.heap.get? T' with
     | none=>rfl
     | some o=>rw [myes q g6 z1 z2] at g5;cases g5
    exact⟨zec I hex this,zib I this⟩
 exact hQ _ I.os I.bare u1 u2 ⟨he,He,a0,oe',vs',T',oT',ts',g1,g2,g3,g4,nT.1,g6,g7,g8,g9,nT.2⟩
theorem zos (I:Inv X Z9 U H s)(hex:X.ex=[])(hst:X.stack=X.env::X.outer)(hfr:X.env.frame=some X.env.locals){e C:Addr}{args:List Value}{h1:Heap}{E:Value->Shared->Prop}{Q:Unit->Shared->Prop}(hx:s.heap.MadeExcOf h1 e (.ref C) args)
  (hQ:∀ s':Shared,s'.os=X.s₀.os->AllBare s'.gens->Un X.fs [] X.H₀ H X.s₀.heap s'.heap->Ze X.prog X.w H s'.heap->Fly X.s₀.heap s'.heap e (.ref C) H->Q () s'):wpAny (model X.prog X.w) X.A (leaving X.env (.ref e)) Q E { s with heap:=h1 }:=by
 have ff:s.heap.FunFrames X.base X.stack:=I.stack
 obtain⟨p,hp⟩:∃ p:Addr->Bool,∀ b,p b=true↔b∉frs X.stack:=⟨fun b=>decide (b∉frs X.stack),fun b=>decide_eq_true_iff⟩
 have mno:∀ {b:Addr},b∈frs X.stack->(zdg s.heap p).get? b=none:=fun {b} n=>by
  rw [zeR,if_neg (fun z=>(hp b).mp z n)]
 have myes:∀ {b:Addr} {o:Obj},s.heap.get? b=some o->b∉frs X.stack->(zdg s.heap p).get? b=some o:=fun {b o} q n3=>by
  rw [zeR,if_pos ((hp b).mpr n3)];exact q
 have fb:s.heap.FunFrames (zdg s.heap p) X.stack:=zjI ff fun L hL=>mno hL
 have fr:=I.ok.frames
 rw [hst] at fr
 rw [hst] at fb
 refine wpAny_leaves_madeW (base:=zdg s.heap p) (h:=s.heap) fr hfr (zjg _ _) fb hx fun h' t ⟨k1,k2,k3,oe',vs',T',oT',ts',g1,g2,g3,g4,g5,g6,g7,g8,g9⟩ _ _ us=>?_
 have us':s.heap.UpToSlots h':=fun b o q n=>us b o (hx.keeps b o q) n
 have hs:∀ b∈frs X.stack,∀ o,s.heap.get? b=some o->∃ sl,h'.get? b=some { o with slots:=sl }:=fun b hb o q=>by
  obtain⟨_,o',h1,h2⟩:=ff.mem hb
  rw [q] at h1;cases h1
  exact us' b o q h2
 have hk:∀ b o,s.heap.get? b=some o->b≠e->b≠e->b∉frs X.stack->h'.get? b=some o:=fun b o q _ _ n3=>k1 b o (myes q n3)
 have he:=zec I hex hx.new
 have He:=zib I hx.new
 obtain⟨u1,u2⟩:=zkl I hex hst hfr he he He He hk hs
 have nT:X.s₀.heap.get? T'=none/\H T'=none:=by
  by_cases z2:T'∈frs X.stack
  ·exfalso
   obtain⟨_,o',h1,h2⟩:=ff.mem z2
   obtain⟨sl,h3⟩:=hs T' z2 o' h1
   rw [g7] at h3;cases h3
   exact h2 ts' g8
  ·have:s.heap.get? T'=none:=by
    cases q:s.heap.get? T' with
    | none=>rfl
    | some o=>rw [myes q z2] at g5;cases g5
   exact⟨zec I hex this,zib I this⟩
 exact hQ _ I.os I.bare u1 u2 ⟨he,He,_,oe',vs',T',oT',ts',g1,g2,g3,g4,nT.1,g6,g7,g8,g9,nT.2⟩
end
def Xl (K:PySem.W.Frag)(f:Wj):Sp:=fun vs H Q E=>∃ ad S ds Q0 X0,@zN ⟨ad,H⟩ K ad H S/\zF K ad H ds vs/\f ds S Q0 X0/\@KK ⟨ad,H⟩ K ad H Q0 Q /\
 ∀ (c:Str) (C:Addr) (S':Z5) (ad':List Addr) (H':Hp),X0 c S'->@zN ⟨ad,H⟩ K ad' H' S'->PySem.W.nsIn K mainGlobals c=some (some (.ref C))->E (.ref C) none H'
structure zfW (P:Program)(w:World)(K:PySem.W.Frag)(mg:Str->Option Value)(base:Heap)(k:Nat)(x:Str)(ps:List Str)(sp:Sp):Prop where
 ex:∃ f fd,zQ P w K mg base (Xi P w) k f fd ps sp/\Binds K fd ps []/\PySem.W.keepIn K (.ref f)=true/\mg x=some (.ref f)
def XOk [B:Bs](X:Cx)(ex:XR):Prop:=∀ (Z9:List (Addr×Obj)) (U:L2.St) (H:Hp) (s s':Shared) (ad ad':List Addr) (Z:ZP) (S S':Z5) (c:Str) (C a:Addr) (H':Hp),Inv X Z9 U H s->zN X.K ad H S->YW X.K ad H Z U->ex Z c S'->zN X.K ad' H' S'->Wd ad H ad' H' ->
 PySem.W.nsIn X.K mainGlobals c=some (some (.ref C))->s'.os=s.os->AllBare s'.gens->Un (frs X.stack) [] H H' s.heap s'.heap->Ze X.prog X.w H' s'.heap->Fly s.heap s'.heap a (.ref C) H'->X.xe (.ref a) s'
def XMk [B:Bs](X:Cx)(ex:XR):Prop:=∀ (Z9:List (Addr×Obj)) (U:L2.St) (H:Hp) (s:Shared) (ad:List Addr) (Z:ZP) (S:Z5) (c:Str) (C e:Addr) (args:List Value) (h1:Heap),Inv X Z9 U H s->zN X.K ad H S->YW X.K ad H Z U->ex Z c S ->
 PySem.W.nsIn X.K mainGlobals c=some (some (.ref C))->s.heap.MadeExcOf h1 e (.ref C) args->X.xe (.ref e) { s with heap:=h1 }
section
variable [B:Bs]{X:Cx}
theorem zby {k j:Nat}{x:Str}{ps:List Str}{f:Wj}{ex:XR}{p pos:Pos}{e:Expr}{es:List Expr}{t:DA}(G:zfW X.prog X.w X.K X.mg X.base k x ps (Xl X.K f))(hX:XOk X ex)(hr:Zg j X.A)
  (ha:PAD X (e::es) t) (hk:k<=j:=by decide) (hg:Gl X x:=by rfl) (hdb:(x==("__debug__":Str))=false:=by decide) (he:starEach (e::es) X.env=(false,eval e X.env)::starEach es X.env:=by exact zbq rfl) (hpl:(backTo pos (starEach es X.env)).any (·.1)=false:=by exact zcX rfl) :
  PD X (.Call (.Name x p) (e::es) [] pos) (zb4 f ex t):=by
 with_unfolding_all
  intro Z9 s U H Q I h
  obtain⟨ad,Z,S,Q0,st,rh,q,kk⟩:=h
  obtain⟨fa,fd,F,b,kp,m⟩:=G.ex
  have F:=F.mono hk
  refine wpAny_Call_Name_kw (zfE I hg m ?_ hdb)
  have hA:=ha pos Z9 s U H (fun vs H1=>∃ ds S1 ad1,f ds S1 Q0 (ex Z)/\Wd ad H ad1 H1/\zN X.K ad1 H1 S1/\zF X.K ad1 H1 ds vs) I ⟨ad,Z,S,_,st,rh,q,fun ds S1 vs H1 ad1 q1 w1 st1 r1=>⟨ds,S1,ad1,q1,w1,st1,r1⟩⟩
  refine PySem.W.callWith_K (h₀:=X.base) I.ok.mod.kin kp (Z0 hA fun us s1 ⟨vs,H1,I1,r,q1⟩=>⟨I1.kIn,?_⟩) he hpl
  obtain⟨ds,S1,ad1,q1,w1,st1,r1⟩:=q1
  have hsp:Xl X.K f vs H1 Q (fun cls _ H'=>∃ c C S' ad',cls=Value.ref C/\ex Z c S'/\zN X.K ad' H' S'/\Wd ad1 H1 ad' H'/\PySem.W.nsIn X.K mainGlobals c=some (some (.ref C))) :=
   ⟨ad1,S1,ds,Q0,ex Z,st1.base,r1,q1,(kk.wd w1).base st1,fun c C S' ad' H' hx st' hn=>⟨c,C,S',ad',rfl,hx,st1.back st',@zN.wd ⟨ad1,H1⟩ _ _ _ _ st',hn⟩⟩
  have hl:us.length=ps.length:=by rw [<- r.length];exact F.len _ _ _ _ hsp
  refine wpAny_call (codeAny_mono (F.run X.A X.stack s1 H1 ⟨us,[]⟩ us vs Q _ hr I1.env0 (by have:=b s1 us I1.kIn (by rw [qU];exact hl);rwa [qU] at this) r hsp) fun res s' hq=>?_)
  cases res with
  | error e =>
   obtain⟨a,C,H',rfl,os,bare,un,hok,fly,c,C',S',ad',hC,hx,st',wd',hn⟩:=hq
   cases hC
   exact hX Z9 U H1 s1 s' ad1 ad' Z S1 S' c C a H' I1 st1 (rh.wd w1) hx st' wd' hn os bare un hok fly
  | ok fl =>
   cases fl with
   | ret u=>exact I1.after hq
   | next=>exact False.elim hq
   | brk=>exact False.elim hq
   | cont=>exact False.elim hq
theorem zjb:XOk X xF:=fun _ _ _ _ _ _ _ _ _ _ _ _ _ _ _ _ _ h=>h.elim
structure ExC (K:PySem.W.Frag)(C:Addr):Prop where
 ex:∃ nm q N bs bm hdct sn sub ab col dd k0 k1 k2 k3 k5,K.lookup C=some (excClassObj nm q C N bs bm hdct sn sub ab col dd k0 k1 k2 k3 k5 "ValueError.__new__")/\PySem.W.nsOkIn K N=true/\PySem.W.nsIn K N "__init__"=some none /\
  PySem.W.tailIn K [.type "ValueError",.type "Exception",.type "BaseException",.type "object"] bm=true
theorem zfg {x:Str}{ex:XR}{np cpos pos:Pos}{e:Expr}{t:DA}(hX:XMk X ex)(hc:X.calm=true)(hC:∀ C,PySem.W.nsIn X.K mainGlobals x=some (some (.ref C))->ExC X.K C)(hx:∃ C,PySem.W.nsIn X.K mainGlobals x=some (some (.ref C))/\X.mg x=some (.ref C))(hg:Gl X x)
  (ha:PAD X [e] t) (ht:∀ Z S Q,(∀ d,Q [d] S)->t Z S Q) (hdb:(x==("__debug__":Str))=false:=by decide) (he:starEach [e] X.env=(false,eval e X.env)::starEach [] X.env:=by rfl) :
  W8 X (.Raise (some (.Call (.Name x np) [e] [] cpos)) none pos) (zfF ex x):=by
 with_unfolding_all
  intro Z9 s U H D I h
  obtain⟨ad,Z,S,E0,st,rh,q,k⟩:=h
  obtain⟨C,hn,hm⟩:=hx
  obtain⟨nm,qn,N,bs,bm,hdct,sn,sub,ab,col,dd,k0,k1,k2,k3,k5,lk,no,ni,tl⟩:=(hC C hn).ex
  have kin:=I.kIn
  have T:=PySem.W.tail_of_in kin tl
  have hv:=ha cpos Z9 s U H (fun vs H1=>vs.length=1/\∃ ad1,Wd ad H ad1 H1/\zN X.K ad1 H1 S) I ⟨ad,Z,S,fun ds S'=>ds.length=1/\S'=S,st,rh,ht _ _ _ (fun d=>⟨rfl,rfl⟩),fun ds S' vs H' ad' e' w' st' r'=>⟨by rw [<- r'.length];exact e'.1,ad',w',e'.2▸st'⟩⟩
  refine wpAny_Raise_call_subT (C:=C) (nm:=nm) (q:=qn) (N:=N) (bs:=bs) (bm:=bm) (hdct:=hdct) (sn:=sn) (sub:=sub) (ab:=ab) (col:=col) (dd:=dd) (k0:=k0) (k1:=k1) (k2:=k2) (k3:=k3) (k5:=k5) PySem.F.excBase_ValueError (T.hasType PySem.F.excBase_ValueError.hasBase) (I.ok.hd hc) (by rw [he];rfl) (PySem.W.nsMap_none_of_in I.ok.mod.kin no ni) (zfE I hg hm ⟨rfl,?_⟩ hdb)
  rw [he] at hv ⊢
  refine Calls.evalArgs_plain (wpAny_mono hv (fun us s1 hq=>?_) fun _ _ y=>y)
  obtain⟨vs,H1,I1,r,hl,ad1,w1,st1⟩:=hq
  have k1':=I1.kIn
  have hlen:us.length<=sizeLine:=by rw [<- r.length,hl];decide
  exact⟨rfl,hlen,k1' _ _ lk,(Heap.Ns.of_isNs (PySem.W.isNs_of_in I.ok.mod.kin no)).keeps I1.bk,PySem.W.tail_of_in k1' tl,fun h' e' hx=>hX Z9 U H1 s1 ad1 Z S x C e' us h' I1 st1 (rh.wd w1) q hn hx⟩
omit B in
theorem zqO {P:Program}{w:World}{K:PySem.W.Frag}{mg:Str->Option Value}{base:Heap}{x qual:Str}{st:Stmt}{f:Addr}{fd:FuncData}{N ps:List Str}{k:Nat}{sp:Wj}{b:XR->DS}(F:ZV K x qual st f fd)(S:zc2 N ps (Za st))
  (len:∀ ds So Q ex,sp ds So Q ex->ds.length=ps.length) (body:zcC N.length b sp)
  (term:∀ (cdv:Value) (A:Around) (outer:List Env) (s:Shared) (H:Hp) (E:XK),Zg k (A.deeper (envOfC qual (Za st) s.heap.objs.size f cdv))->∀ [Bs] (ex:XR),XOk (Wv (Xi P w) P w K mg base N qual (Za st) f cdv A outer s H E) ex->XMk (Wv (Xi P w) P w K mg base N qual (Za st) f cdv A outer s H E) ex->zeh (Wv (Xi P w) P w K mg base N qual (Za st) f cdv A outer s H E) (Xc st) (b ex)) :
  zQ P w K mg base (Xi P w) (k+1) f fd ps (Xl K sp):=by
 with_unfolding_all
  obtain⟨oc,od,kV,doc,pm,an,cdv,ct,osl,rfl,lk,hcd⟩:=F.ex
  refine zsr lk hcd S (fun vs H Q E ⟨ad,So,ds,Q0,X0,so,r,hf,kk,kx⟩=>by rw [<- r.length];exact len ds So Q0 X0 hf) fun A outer s H vs Q E hr ⟨ad,So,ds,Q0,X0,so,r,hf,kk,kx⟩=>?_
  letI:Bs:=⟨ad,H⟩
  have end1:∀ (c:Str) (C a:Addr) (S':Z5) (ad':List Addr) (H':Hp) (s':Shared),X0 c S'->zN K ad' H' S'->PySem.W.nsIn K mainGlobals c=some (some (.ref C))->s'.os=s.os->AllBare s'.gens->Un (frs outer) [] H H' s.heap s'.heap->Ze P w H' s'.heap->Fly s.heap s'.heap a (.ref C) H'->Xi P w outer H s E (.ref a) s' :=
   fun c C a S' ad' H' s' hx st' hn o1 o2 o3 o4 o5=>⟨a,C,H',rfl,o1,o2,o3,o4,o5,kx c C S' ad' H' hx st' hn⟩
  refine⟨_,term cdv A outer s H E hr (fun _=>X0) ?_ ?_,ad,zd7 N.length ds,So,_,so,zlT N r,body ds So Q0 X0 hf,⟨fun Z S' U H' ad' q w' st' rh=>ziG so kk .non S' .non H' ad' q w' st' .non,ziG so kk,fun _ _ _ _ _ q=>q.elim,fun _ _ _ _ _ q=>q.elim⟩⟩
  ·intro Z9 U H1 s1 s' ad1 ad' Z S1 S' c C a H' I st1 rh hx st' wd' hn os bare un hok fly
   have I':=I.call' (ch:=[]) os un hok bare (fun b z=>absurd z (by simp))
   have f0:Fly s.heap s'.heap a (.ref C) H':=by
    obtain⟨g1,g2,a0,oe,vs,T,oT,ts,h1,h2,h3,h4,h5,h6⟩:=fly
    exact⟨zec I rfl g1,g2,a0,oe,vs,T,oT,ts,h1,h2,h3,h4,zec I rfl h5,h6⟩
   exact zo3 I' rfl rfl rfl f0 fun s'' o1 o2 o3 o4 o5=>end1 c C a S' ad' H' s'' hx st' hn o1 o2 o3 o4 o5
  ·intro Z9 U H1 s1 ad1 Z S1 c C e args h1 I st1 rh hx hn hmade
   exact zos I rfl rfl rfl hmade fun s'' o1 o2 o3 o4 o5=>end1 c C e S1 ad1 H1 s'' hx st1 hn o1 o2 o3 o4 o5
end
section
variable {X:Cx}{Z9:List (Addr×Obj)}{U:L2.St}{H H':Hp}{s s':Shared}
variable [B:Bs]
end
section
open PySem.W PySem.Builtin PySem.Builtin.ObjectAttr PySem.Builtin.Getset_descriptor
variable {prog:Program}{w:World}{A:Around}{E:Value->Shared->Prop}{s:Shared}{K:Frag}{x C:Addr}{o:Obj}
end
section
variable [B:Bs]{X:Cx}
end
def zox (K:PySem.W.Frag)(C:Addr):Bool:=match K.lookup C with
 | some ⟨.type "type",_,.cls cd,sl⟩=>(match cd.mro,sl.toList with
  | .ref C'::bm,[_,_,_,_,some (.builtin n),_]=>C'==C&&!cd.hasDel&&n=="ValueError.__new__"&&PySem.W.nsOkIn K cd.ns&&PySem.W.nsIn K cd.ns "__init__"==some none&&PySem.W.tailIn K [.type "ValueError",.type "Exception",.type "BaseException",.type "object"] bm
  | _,_=>false)
 | _=>false
theorem ExC.of {K:PySem.W.Frag}{C:Addr}(q:zox K C=true):ExC K C:=by
 unfold zox at q
 split at q
 ·rename_i dd cd sl ho
  split at q
  ·rename_i C' bm k0 k1 k2 k3 n k5 hm hs
   simp only [qG,beq_iff_eq,Bool.not_eq_true'] at q
   obtain⟨⟨⟨⟨⟨rfl,hdel⟩,rfl⟩,h1⟩,h2⟩,h3⟩:=q
   obtain⟨nm,bs,mro,ns,qn,hd,sn,sub,ab,col,del⟩:=cd
   dsimp only at hm hdel
   subst hm hdel
   have hsl:sl=#[k0,k1,k2,k3,some (.builtin "ValueError.__new__"),k5]:=by
    obtain⟨l⟩:=sl
    simp only at hs
    rw [hs]
   subst hsl
   exact⟨nm,qn,ns,bs,bm,hd,sn,sub,ab,col,dd,k0,k1,k2,k3,k5,ho,h1,h2,h3⟩
  ·cases q
 ·cases q
section
variable {X:Cx}[B:Bs]
theorem zkk:∀ {ds:List D} {j:Nat} {d:D},ds[j]?=some d->(Zc ds)[j]?=some (YM d)
 | [],_,_,h=>by simp at h
 | x::xs,0,d,h=>by
  have:x=d:=by simpa using h
  subst this;rfl
 | x::xs,j+1,d,h=>by
  show (Zc xs)[j]?=_
  exact zkk (by simpa using h)
def ztA (X:Cx):V->List V->Hp->VK->Prop:=fun x vs H Q=>∃ l ws y ad ds d,∃ j:Nat,∃ e,x=.ref l/\vs=[y]/\H l=some (.lst ws)/\zF X.K ad H ds ws/\Rel X.K ad H d y/\ds.all (fl 20)=true/\fl 20 d=true/\ds[j]?=some e/\eqv e d=true/\(∀ (m:Nat) e',m<j->ds[m]?=some e'->eqv e' d=false)/\Q (.int (j:Nat)) H
theorem zse {k:Nat}(hr:Zg k X.A):MtR X "list.index" (ztA X):=by
 intro Z9 s U H x vs v us Q I rx rv h
 obtain⟨l,ws,y,ad,ds,d,j,e,rfl,rfl,hH,r,ry,fds,fd,hj,he,hno,q⟩:=h
 cases rx
 obtain⟨u,rfl,ru⟩:=rv.one
 obtain⟨hz,its,n,rr,hl,ho⟩:=I.lstM hH
 obtain⟨as,ra⟩:=zdC I 20 (zbS I 20) _ _ _ fds r rr
 obtain⟨bs,rb⟩:=zbS I 20 d y u fd ry ru
 obtain⟨c1,d1⟩:=zcL 20 ds fds
 obtain⟨c2,d2⟩:=ze0 20 d fd
 have hlen:=r.length
 have hu:=hr.units
 have hjl:j<its.length:=by
  have:=My.VR hj
  lia
 have hm:=SeqAt.readsAll_map (Zc ds) _ _ c1 ra
 have rd:∀ (m:Nat) (hm':m<its.length) e',ds[m]?=some e'->PyData.eqv (SeqAt.readOf s.heap its[m]) (YM d)=eqv e' d:=fun m hm' e' h'=>by
  have h1:(its.map (SeqAt.readOf s.heap))[m]?=some (YM e'):=by rw [hm];exact zkk h'
  rw [qi,qc hm'] at h1
  have h2:SeqAt.readOf s.heap its[m]=YM e':=by simpa using h1
  rw [h2]
  have fe:fl 20 e'=true:=qaf.mp fds e' (qe h')
  exact zju 20 e' d fe fd
 refine call_meets F.slot_list_index ⟨_,ho,rfl⟩ F.entry_list_index (F.args_list_index_2 _ _)
  (SeqAt.list_indexAt l its.toArray n none #[] u (fun z=>PyData.eqv (SeqAt.readOf s.heap z) (YM d)) j (by rw [qm];exact hjl) (by rw [sizeLine_eq] at hz;lia) ?_ ?_) ⟨ho,SeqAt.items_eqAt (vs:=its.toArray) (by simpa using ra) rb c1 c2 ?_,?_⟩
 ·exact (rd j hjl e hj).trans he
 ·intro m hm1 hm2
  have hm3:m<its.length:=by simpa using hm1
  have hml:m<ds.length:=by lia
  exact (rd m hm3 _ (qc hml)).trans (hno m _ hm2 (qc hml))
 ·show X.A.units+1+min (PyData.depthAll (Zc ds)) (YM d).depth<cLine
  lia
 ·exact⟨.int (j:Nat),H,I.tok _,⟨_,rfl⟩,q⟩
theorem zsf {k:Nat}(hr:Zg k X.A):MD X "list.index" zmp:=⟨_,zse hr,fun ad H S x ds v vs Q0 Q st rx r ⟨n,xs,y,j,e,ex,ey,hn,f,g,hl,hj,h1,h2,q⟩ kk=>by
 subst ex ey
 obtain⟨u,rfl,ru⟩:=X3 r
 cases rx with
 | ref ea =>
  obtain⟨ws,hw,rw⟩:=st.cell n _ _ ea hn
  exact⟨_,ws,u,ad,xs,y,j,e,rfl,rfl,hw,rw,ru,f,g,hj,h1,h2,kk _ S _ H ad q Wd.refl st (.int _)⟩⟩
theorem zue:MD X "list.pop" zoo:=⟨_,zrn,fun ad H S x ds v vs Q0 Q st rx r ⟨n,xs,y,ex,ey,hn,q⟩ k=>by
 subst ex ey
 obtain⟨u,rfl,ru⟩:=X3 r
 cases ru
 cases rx with
 | ref e =>
  obtain⟨ws,hw,rw⟩:=st.cell n _ _ e hn
  cases rw with
  | @cons _ w _ ws' rw1 rw2 =>
   have w':=Wd.put (ws:=ws') e hw
   exact⟨_,w::ws',0,0,w,rfl,rfl,hw,by decide,by decide,by unfold seqIndex?;simp,rfl,k _ _ _ _ ad q w' (st.put e hw rw2) (rw1.wd w')⟩⟩
end
section
variable {K:PySem.W.Frag}{ad:List Addr}{H:Hp}{S:Z5}[B:Bs]
omit B in
theorem RelK.val:∀ {fs:List (Str×D)} {vs:List (Key×V)} (z:Str),RelK K ad H fs vs->(dval fs z=none/\L2.W7 vs (Sum.inr z:Key)=none)\/∃ d v,dval fs z=some d/\L2.W7 vs (Sum.inr z:Key)=some v/\Rel K ad H d v
 | _,_,z,.nil=>.inl ⟨rfl,L2.zk7⟩
 | _,_,z,@RelK.cons _ _ _ x d v fs vs r t=>by
  by_cases h:x=z
  ·exact .inr ⟨d,v,by rw [zbp,if_pos h],by rw [L2.zeQ (by rw [h])],r⟩
  ·have h':¬ (Sum.inr x:Key)=Sum.inr z:=fun e=>h (Sum.inr.inj e)
   rw [zbp,if_neg h,L2.ze3 h']
   exact RelK.val z t
omit B in
theorem Zf.val:∀ {fs:List (List Key×D)} {vs:List (List Key×V)} (z:List Key),Zf K ad H fs vs->(dval fs z=none/\L2.W7 vs z=none)\/∃ d v,dval fs z=some d/\L2.W7 vs z=some v/\Rel K ad H d v
 | _,_,z,.nil=>.inl ⟨rfl,L2.zk7⟩
 | _,_,z,@Zf.cons _ _ _ x d v fs vs r t=>by
  by_cases h:x=z
  ·exact .inr ⟨d,v,by rw [zbp,if_pos h],by rw [L2.zeQ h],r⟩
  ·rw [zbp,if_neg h,L2.ze3 h]
   exact Zf.val z t
omit B in
theorem RelK.snoc {x:Str}{d:D}{v:V}(rd:Rel K ad H d v):∀ {fs:List (Str×D)} {vs:List (Key×V)},RelK K ad H fs vs->RelK K ad H (fs++[(x,d)]) (vs++[(.inr x,v)])
 | _,_,.nil=>.cons rd .nil
 | _,_,.cons r t=>.cons r (RelK.snoc rd t)
omit B in
theorem Zf.snoc {x:List Key}{d:D}{v:V}(rd:Rel K ad H d v):∀ {fs:List (List Key×D)} {vs:List (List Key×V)},Zf K ad H fs vs->Zf K ad H (fs++[(x,d)]) (vs++[(x,v)])
 | _,_,.nil=>.cons rd .nil
 | _,_,.cons r t=>.cons r (Zf.snoc rd t)
omit B in
theorem RelK.repl {z:Str}{d:D}{v:V}(rd:Rel K ad H d v):∀ {fs:List (Str×D)} {vs:List (Key×V)},RelK K ad H fs vs->RelK K ad H (fs.map fun kv=>if kv.1=z then (kv.1,d) else kv) (vs.map fun kv=>if kv.1=(Sum.inr z:Key) then (kv.1,v) else kv)
 | _,_,.nil=>.nil
 | _,_,@RelK.cons _ _ _ x d' v' fs vs r t=>by
  rw [qI,qI]
  by_cases h:x=z
  ·rw [if_pos h,if_pos (by rw [h])];exact .cons rd (RelK.repl rd t)
  ·rw [if_neg h,if_neg (fun e=>h (Sum.inr.inj e))];exact .cons r (RelK.repl rd t)
omit B in
theorem Zf.repl {z:List Key}{d:D}{v:V}(rd:Rel K ad H d v):∀ {fs:List (List Key×D)} {vs:List (List Key×V)},Zf K ad H fs vs->Zf K ad H (fs.map fun kv=>if kv.1=z then (kv.1,d) else kv) (vs.map fun kv=>if kv.1=z then (kv.1,v) else kv)
 | _,_,.nil=>.nil
 | _,_,@Zf.cons _ _ _ x d' v' fs vs r t=>by
  rw [qI,qI]
  by_cases h:x=z
  ·rw [if_pos h,if_pos h];exact .cons rd (Zf.repl rd t)
  ·rw [if_neg h,if_neg h];exact .cons r (Zf.repl rd t)
omit B in
theorem RelK.put {z:Str}{d:D}{v:V}(rd:Rel K ad H d v){fs:List (Str×D)}{vs:List (Key×V)}(r:RelK K ad H fs vs):RelK K ad H (dput fs z d) (putK vs (Sum.inr z:Key) v):=by
 unfold dput putK
 rw [zf3,L2.zgd]
 rcases r.val z with ⟨e1,e2⟩ | ⟨d',v',e1,e2,_⟩
 ·rw [e1,e2]
  rw [if_neg (by simp),if_neg (by simp)];exact r.snoc rd
 ·rw [e1,e2]
  rw [if_pos (by simp),if_pos (by simp)];exact r.repl rd
omit B in
theorem Zf.put {z:List Key}{d:D}{v:V}(rd:Rel K ad H d v){fs:List (List Key×D)}{vs:List (List Key×V)}(r:Zf K ad H fs vs):Zf K ad H (dput fs z d) (putK vs z v):=by
 unfold dput putK
 rw [zf3,L2.zgd]
 rcases r.val z with ⟨e1,e2⟩ | ⟨d',v',e1,e2,_⟩
 ·rw [e1,e2]
  rw [if_neg (by simp),if_neg (by simp)];exact r.snoc rd
 ·rw [e1,e2]
  rw [if_pos (by simp),if_pos (by simp)];exact r.repl rd
omit B in
theorem RelK.length:∀ {fs:List (Str×D)} {vs:List (Key×V)},RelK K ad H fs vs->fs.length=vs.length
  | _,_,.nil=>rfl
  | _,_,.cons _ t=>congrArg (· + 1) (RelK.length t)
omit B in
theorem Zf.length:∀ {fs:List (List Key×D)} {vs:List (List Key×V)},Zf K ad H fs vs->fs.length=vs.length
  | _,_,.nil=>rfl
  | _,_,.cons _ t=>congrArg (· + 1) (Zf.length t)
omit B in
theorem zgh:∀ {ks:List Key} {vs:List V},zF K ad H (ks.map kD) vs->vs=ks.map kV
 | [],_,.nil=>rfl
 | .inl i::ks,_,.cons r t=>by
  have e:∀ {d:D} {v:V},d=.int i->Rel K ad H d v->v=.int i:=fun e r=>by subst e;cases r;rfl
  rw [e rfl r,zgh t];rfl
 | .inr x::ks,_,.cons r t=>by
  have e:∀ {d:D} {v:V},d=.str x->Rel K ad H d v->v=.str x:=fun e r=>by subst e;cases r;rfl
  rw [e rfl r,zgh t];rfl
theorem zN.newC (st:zN K ad H S){l:Addr}{o:HO}{c:Cell}(h:H l=none)(hc:zci K (ad++[l]) (upd H l o) l c):zN K (ad++[l]) (upd H l o) (S++[c]) where
 wd:=st.wd.trans (Wd.newL st h)
 len:=by rw [qh,qh,st.len];rfl
 nd:=by
  rw [qa6]
  refine⟨st.nd,by simp,fun a ha b hb e=>?_⟩
  have:b=l:=by simpa using hb
  subst this;subst e
  exact st.fresh h ha
 cell:=fun n a c' e1 e2=>by
  by_cases hn:n<ad.length
  ·rw [qk hn] at e1
   rw [qk (by rw [<- st.len];exact hn)] at e2
   have ok:=st.cell n a c' e1 e2
   obtain⟨u,e⟩:=ok.some
   exact ok.wd (Wd.newL st h) (by rw [zdV h e,e])
  ·have hn':ad.length<=n:=qaF hn
   rw [qj hn'] at e1
   rw [qj (by rw [<- st.len];exact hn'),<- st.len] at e2
   cases hk:n-ad.length with
   | zero =>
    rw [hk] at e1 e2
    have e1':l=a:=by simpa using e1
    have e2':c=c':=by simpa using e2
    subst e1' e2'
    exact hc
   | succ k=>rw [hk] at e1;simp at e1
omit B in
theorem Wd.putC {n:Nat}{a:Addr}{o o':HO}(e:ad[n]?=some a)(h:H a=some o)(h1:∀ xs,o≠.tup xs)(h2:∀ q u,o≠.frz q u):Wd ad H ad (upd H a o') :=
 ⟨qaR _,fun b u hb q=>by
   have:b≠a:=fun z=>hb (by rw [z];exact qe e)
   rw [zU this];exact q,
  fun b xs q=>by rw [zU (zet q h (fun z=>h1 xs z.symm))];exact q,fun b o u q=>by rw [zU (zet q h (fun z=>h2 o u z.symm))];exact q,fun _ m n=>absurd m n⟩
theorem zN.putC (st:zN K ad H S){n:Nat}{a:Addr}{o o':HO}{c:Cell}(e:ad[n]?=some a)(h:H a=some o)(h1:∀ xs,o≠.tup xs)(h2:∀ q u,o≠.frz q u)(hc:zci K ad (upd H a o') a c):zN K ad (upd H a o') (S.set n c) where
 wd:=st.wd.trans (Wd.putC e h h1 h2)
 len:=by rw [qap];exact st.len
 nd:=st.nd
 cell:=fun m b c' e1 e2=>by
  have w:Wd ad H ad (upd H a o'):=Wd.putC e h h1 h2
  by_cases hm:m=n
  ·subst hm
   rw [e] at e1;cases e1
   rw [qJ (by rw [<- st.len];exact My.VR e)] at e2
   cases e2
   exact hc
  ·rw [qN (Ne.symm hm)] at e2
   have ne:b≠a:=fun z=>by
    subst z
    have q1:=(qP.mp e1).2
    have q2:=(qP.mp e).2
    exact hm ((qbs st.nd).mp (q1.trans q2.symm))
   exact (st.cell m b c' e1 e2).wd w (zU ne)
theorem zuc (st:zN K ad H S){x y:D}{v u:V}{o:Option D}(rx:Rel K ad H x v)(ry:Rel K ad H y u)(g:DGt S x y o):∃ a o',v=.ref a/\zfp H a u o'/\((o=none/\o'=none)\/∃ d w,o=some d/\o'=some w/\Rel K ad H d w):=by
 rcases g with ⟨n,Z6,z,rfl,rfl,hn,rfl⟩ | ⟨n,Z6,ks,rfl,rfl,hn,rfl⟩
 ·cases ry
  cases rx with
  | ref e =>
   obtain⟨vs,hv,r⟩:=st.cell n _ _ e hn
   exact⟨_,_,rfl,zfp.k (k:=Sum.inr z) hv,r.val z⟩
 ·cases rx with
  | ref e =>
   obtain⟨vs,hv,r⟩:=st.cell n _ _ e hn
   cases ry with
   | tup hb rb =>
    have e2:=zgh rb
    subst e2
    exact⟨_,_,rfl,zfp.t hv hb,r.val ks⟩
end
section
variable {X:Cx}{a b c:Expr}{td ti tz tv:DE}{pos apos cpos:Pos}[B:Bs]
theorem zuh:PD X (.Dict [] [] pos) zoL:=by with_unfolding_all exact (YC zqY fun U H Q hh=>Zv hh fun ad Z S Q0 st rh q k p hp =>
 k _ _ _ _ _ q (Wd.newL st hp) (st.newC hp ⟨[],Xr,.nil⟩) st.newRef)
theorem zs6:PD X (.Dict [] [] pos) zoB:=by with_unfolding_all exact (YC zry fun U H Q hh=>Zv hh fun ad Z S Q0 st rh q k p hp =>
 k _ _ _ _ _ q (Wd.newL st hp) (st.newC hp ⟨[],Xr,.nil⟩) st.newRef)
theorem zgG {j:Nat}(hr:Zg j X.A)(ho:PD X a td)(hi:PD X b ti)(hs:zqT b:=by intro _ _;rfl):PD X (.Subscript a b pos) (ziv td ti):=by with_unfolding_all exact (YC (ztq (zsB hr) ho hi hs) fun U H Q hh=>Zv hh fun ad Z S Q0 st rh q k =>
 ⟨ad,Z,S,_,st,rh,q,fun x S1 v H1 ad1 q1 w1 st1 r1=>⟨ad1,Z,S1,_,st1,rh.wd w1,q1,fun y S2 u H2 ad2 ⟨d,g,q2⟩ w2 st2 r2=>by
  obtain⟨p,o',rfl,g',h⟩:=zuc st2 (r1.wd w2) r2 g
  rcases h with ⟨e,_⟩ | ⟨d',w,e,rfl,rw'⟩
  ·cases e
  ·cases e
   exact⟨p,w,rfl,g',k _ S2 _ H2 ad2 q2 (w1.trans w2) st2 rw'⟩⟩⟩)
theorem zf9 {j:Nat}(hr:Zg j X.A)(ho:PD X a td)(hi:PD X b ti)(hv:PD X c tv)(hs:swapsWith c (some (.Subscript a b apos)) pos.line X.env=pure false:=by rfl):W8 X (.Assign [.Subscript a b apos] c pos) (zhC td ti tv):=by with_unfolding_all exact (VN (zty (zsB hr) ho hi hv hs) fun E U H hh=>Zv hh fun ad Z S E0 so rh q k =>
 ⟨ad,Z,S,_,so,rh,q,fun v S1 vv H1 ad1 q1 w1 st1 r1=>⟨ad1,Z,S1,_,st1,rh.wd w1,q1,fun x S2 vx H2 ad2 q2 w2 st2 r2=>⟨ad2,Z,S2,_,st2,rh.wd (w1.trans w2),q2,fun y S3 vy H3 ad3 q3 w3 st3 r3=>by
  have rx:=r2.wd w3
  have rv:=r1.wd (w2.trans w3)
  have w13:=(w1.trans w2).trans w3
  rcases q3 with ⟨n,Z6,z,rfl,rfl,hn,hl,q3⟩ | ⟨n,Z6,ks,rfl,rfl,hn,hl,q3⟩
  ·cases r3
   cases rx with
   | ref e =>
    obtain⟨vs,hv',r⟩:=st3.cell n _ _ e hn
    have h1:∀ xs,HO.dK vs≠.tup xs:=fun _ z=>by cases z
    have h2:∀ q u,HO.dK vs≠.frz q u:=fun _ _ z=>by cases z
    have w:=Wd.putC (o':=.dK (putK vs (Sum.inr z:Key) vv)) e hv' h1 h2
    refine⟨_,_,rfl,zgU.k (k:=Sum.inr z) hv' (by rw [<- r.length];exact ziZ hl),?_⟩
    exact k.nx _ _ _ _ _ q3 (w13.trans w) (st3.putC e hv' h1 h2 ⟨_,Xr,RelK.wr w.wr (r.put rv)⟩) (rh.wd (w13.trans w))
  ·cases rx with
   | ref e =>
    obtain⟨vs,hv',r⟩:=st3.cell n _ _ e hn
    cases r3 with
    | tup hb rb =>
     have e2:=zgh rb
     subst e2
     have h1:∀ xs,HO.dT vs≠.tup xs:=fun _ z=>by cases z
     have h2:∀ q u,HO.dT vs≠.frz q u:=fun _ _ z=>by cases z
     have w:=Wd.putC (o':=.dT (putK vs ks vv)) e hv' h1 h2
     refine⟨_,_,rfl,zgU.t hv' hb (by rw [<- r.length];exact ziZ hl),?_⟩
     exact k.nx _ _ _ _ _ q3 (w13.trans w) (st3.putC e hv' h1 h2 ⟨_,Xr,Zf.wr w.wr (r.put rv)⟩) (rh.wd (w13.trans w))⟩⟩⟩)
end
structure FH (K:PySem.W.Frag)(n:Str)(st:Stmt)(f:Addr)(fd:FuncData):Prop where
 a:PySem.W.nsIn K mainGlobals n=some (some (.ref f))
 F:ZV K n n st f fd
section
variable {K:PySem.W.Frag}{n:Str}{st:Stmt}{f:Addr}{fd:FuncData}{mg:Str->Option Value}{k:Nat}{h:Heap}{ps:List Str}{sp:Sp}
theorem zxm {oc:Value}{od an:Option Addr}{osl:Array (Option Value)}{kV doc pm cdv ct:Value}(a:PySem.W.nsIn K mainGlobals n=some (some (.ref f)))
  (l:K.lookup f=some ⟨oc,od,.func (PySem.W.fnOf n n (zbI st) (Xc st) (Za st) .none kV doc pm an cdv ct),osl⟩) (c:PySem.W.codeIn K cdv n=true) (k:PySem.W.keepIn K (.ref f)=true) :
  FH K n st f (PySem.W.fnOf n n (zbI st) (Xc st) (Za st) .none kV doc pm an cdv ct):=⟨a,zjx l c k⟩
theorem zR (P:Program)(w:World)(base:Heap)(X:K.In h)(G:h.Ns mainGlobals mg)(H:FH K n st f fd)(ok:zQ P w K mg base ZR k f fd ps sp)
  (b:∀ (kV doc pm:Value) (an:Option Addr) (cdv ct:Value) (us:List Value),us.length=ps.length->bindArgs (PySem.W.fnOf n n (zbI st) (Xc st) (Za st) .none kV doc pm an cdv ct) ⟨us,[]⟩=pure (ps.zip us):=by intro _ _ _ _ _ _ us hl;first | (obtain⟨_,e⟩:=zsG hl;subst e;rfl) | (obtain⟨_,_,e⟩:=znZ hl;subst e;rfl) | (obtain⟨_,_,_,e⟩:=zsz hl;subst e;rfl) | (obtain⟨_,_,_,_,e⟩:=zsx hl;subst e;rfl) | (obtain⟨_,_,_,_,_,e⟩:=zsq hl;subst e;rfl) | (obtain⟨_,_,_,_,_,_,e⟩:=len_6 hl;subst e;rfl) | (obtain⟨_,_,_,_,_,_,_,e⟩:=len_7 hl;subst e;rfl)):Got P w K mg base k n ps sp:=⟨⟨f,fd,ok,H.F.binds b,H.F.kp,PySem.W.mg_of X G H.a⟩⟩
theorem zdL (P:Program)(w:World)(base:Heap)(X:K.In h)(G:h.Ns mainGlobals mg)(H:FH K n st f fd)(ok:zQ P w K mg base (Xi P w) k f fd ps sp)
  (b:∀ (kV doc pm:Value) (an:Option Addr) (cdv ct:Value) (us:List Value),us.length=ps.length->bindArgs (PySem.W.fnOf n n (zbI st) (Xc st) (Za st) .none kV doc pm an cdv ct) ⟨us,[]⟩=pure (ps.zip us):=by intro _ _ _ _ _ _ us hl;first | (obtain⟨_,e⟩:=zsG hl;subst e;rfl) | (obtain⟨_,_,e⟩:=znZ hl;subst e;rfl) | (obtain⟨_,_,_,e⟩:=zsz hl;subst e;rfl) | (obtain⟨_,_,_,_,e⟩:=zsx hl;subst e;rfl) | (obtain⟨_,_,_,_,_,e⟩:=zsq hl;subst e;rfl) | (obtain⟨_,_,_,_,_,_,e⟩:=len_6 hl;subst e;rfl) | (obtain⟨_,_,_,_,_,_,_,e⟩:=len_7 hl;subst e;rfl)):zfW P w K mg base k n ps sp:=⟨⟨f,fd,ok,H.F.binds b,H.F.kp,PySem.W.mg_of X G H.a⟩⟩
end
section
variable {X:Cx}
theorem zy9 [B:Bs](i:Nat){x:Str}{pos:Pos}(hN:X.N[i]?=some x:=by rfl)(hv:L2.Vis X.env.scope x:=by first | exact Or.inl rfl | exact Or.inr (Or.inl rfl) | exact Or.inr (Or.inr rfl))(hd:(x==("__debug__":Str))=false:=by decide)(hcd:(x==("__classdict__":Str))=false:=by decide):PD X (.Name x pos) (WY i):=by with_unfolding_all exact (zu4 (zvc hN hv hd hcd))
theorem zpm {N P:List Str}{sc:Scope}(h1:sc.kind=.function:=by rfl)(h2:sc.isCoroutine=false:=by rfl)(h3:sc.isGenerator=false:=by rfl)(h4:N.Nodup:=by decide +kernel)(h5:N.take P.length=P:=by rfl)(h6:∀ x∈P,sc.names.lookup x=some .local\/sc.names.lookup x=some .cell:=by decide +kernel)(h7:∀ y∈sc.names,y.2≠.free:=by decide +kernel):zc2 N P sc:=⟨h1,h2,h3,h4,h5,h6,h7⟩
end
section
variable {X:Cx}{a b c:Expr}{ta tb:DE}{td ti tz tv:DE}{pos apos cpos:Pos}[B:Bs]
end
section
variable {X:Cx}{a b:Expr}{ta tb:DE}{pos apos cpos:Pos}[B:Bs]
end
section
variable {X:Cx}{a b:Expr}{ta tb:DE}{pos apos cpos:Pos}[B:Bs]
end
section
variable {X:Cx}{a b:Expr}{ta tb:DE}{pos apos cpos:Pos}[B:Bs]
end
end Dp
open PySem Dp
local macro_rules | `(tactic| walk_at "dat")=>`(tactic| first | assumption | exact Y6 | exact zmZ | (refine (WQ _ _ _).trans ?_;exact rfl) | exact Xe (by assumption))
local macro_rules | `(tactic| walk_at "l")=>`(tactic| first | assumption | exact Lst.rl | exact Lst.at0 | exact Lst.new | (refine Lst.at ?_;exact rfl) | exact Lst.old (by assumption) | exact Lst.here (by assumption) | exact Lst.here (Xe (by assumption)))
local macro_rules | `(tactic| walk_at "dseq")=>`(tactic| first | exact Or.inl rfl | (refine Or.inr ?_;walk_at "l"))
local macro_rules | `(tactic| walk_at "d")=>`(tactic| first | assumption | exact My.Bd.mono (by assumption) (by decide) | exact My.Bd.lit (by decide) (by decide) | (refine My.Bd.add ?_ ?_<;>walk_at "d") | (refine My.Bd.sub ?_ ?_<;>walk_at "d") | (refine My.Bd.neg ?_;walk_at "d") | (refine My.Bd.mulH ?_ ?_<;>walk_at "d") | (refine My.Bd.emod (by lia) ?_;walk_at "d") | (refine My.Bd.ediv ?_;walk_at "d"))
local macro_rules | `(tactic| walk_at "dmul")=>`(tactic| first | assumption | exact Or.inr (Or.inl (by lia)) | exact Or.inr (Or.inr (by lia)) | exact Or.inl ⟨by walk_at "d",by walk_at "d"⟩)
local macro_rules | `(tactic| walk_at "ddiv")=>`(tactic| first | assumption | exact⟨by lia,by walk_at "d"⟩)
local macro_rules | `(tactic| walk_at "dr1")=>`(tactic| with_reducible first|refine zv4 ?_|refine zvV ?_|refine zvN ?_|refine zxJ ?_|refine zyL ?_|refine zvK ?_|refine zvU ?_|refine zxU ?_|refine zvW ?_)
local macro_rules | `(tactic| walk_at "dr1")=>`(tactic| first|((with_reducible refine zyh (xs:=?rvx) ?rvl ?_);(case rvl=>walk_at "l")))
local macro_rules | `(tactic| walk_at "dr1")=>`(tactic| with_reducible first|refine zre ?_|refine zrz ?_|refine zxQ ?_|refine zxa ?_|refine zxE ?_|refine zp5 ?_|refine zuS ?_|refine zwR ?_|refine zxF ?_)
local macro_rules | `(tactic| walk_at "dr1")=>`(tactic| first|((with_reducible refine zuK (xs:=?rvx) ?rvl ?_);(case rvl=>walk_at "l"))|((with_reducible refine zyf (a:=?rvv) ?rvk ?_);(case rvk=>exact rfl))|((with_reducible refine zrv (xs:=?rvx) ?rvk ?rvl ?_);(case rvk=>walk_at "dat");(case rvl=>first | exact Nat.lt_of_ble_eq_true rfl | assumption | (simp only [big,qh,qQ,List.length_nil,qb] at *;lia))))
local macro_rules | `(tactic| walk_at "dr1")=>`(tactic| with_reducible first|refine zv9 ?_|refine zv2 ?_|refine zwS ?_|refine zxG ?_|refine zwx ?_|refine zuB ?_|refine zsp ?_|refine zy1 ?_|refine zuW ?_|refine zwe ?_|refine zvO ?_)
local macro_rules | `(tactic| walk_at "dr1")=>`(tactic| first|((with_reducible refine zuD ?rvk ?_);(case rvk=>exact rfl)))
local macro_rules | `(tactic| walk_at "dr1")=>`(tactic| with_reducible first|refine zkT ?_|refine zj1 ?_|refine zi3 ?_|refine zwt ?_|refine zuk ?_)
local macro_rules | `(tactic| walk_at "dr1")=>`(tactic| first|((with_reducible refine zwq (xs:=?rvx) ?rvl ?_);(case rvl=>walk_at "l"))|((with_reducible refine zqZ (xs:=?rvx) ?rvl ?_);(case rvl=>walk_at "l"))|((with_reducible refine ztZ (xs:=?rvx) ?rvl ?_);(case rvl=>walk_at "l")))
local macro_rules | `(tactic| walk_at "dr1")=>`(tactic| with_reducible first|refine zwG ?_|refine zuZ ?_|refine zv0 ?_)
local macro_rules | `(tactic| walk_at "dr1")=>`(tactic| with_reducible first|refine zxg ?_|refine zxr ?_|refine zxT ?_|refine zxs ?_|refine zxt ?_|refine zhk ?_|refine zxx ?_|refine zfP ?_|refine zws ?_|refine ziN ?_|refine zyb ?_|refine zxl ?_)
local macro_rules | `(tactic| walk_at "dr1")=>`(tactic| first|((with_reducible refine zxp (ys:=?rvx) ?rvk ?_);(case rvk=>walk_at "dat")))
local macro_rules | `(tactic| walk_at "dr1")=>`(tactic| with_reducible first|refine zwC ?_|refine ztb ?_|refine r_b ?_|refine r_m ?_)
local macro_rules | `(tactic| walk_at "dr1")=>`(tactic| first|((with_reducible refine zxK ?rvk ?_);(case rvk=>exact rfl)))
local macro_rules | `(tactic| walk_at "dr1")=>`(tactic| with_reducible first|refine zmw ?_|refine zsn ?_|refine zxk ?_)
local macro_rules | `(tactic| walk_at "dr1")=>`(tactic| with_reducible first|refine r_t ?_|refine zyR ?_|refine zw3 ?_|refine zyq ?_|refine zyS ?_|refine zxA ?_|refine zym ?_|refine zwI ?_|refine zwf ?_|refine zwU ?_|refine zuw ?_|refine zye ?_)
local macro_rules | `(tactic| walk_at "dr1")=>`(tactic| first|((with_reducible refine zw1 ?rvk ?_);(case rvk=>walk_at "dmul"))|((with_reducible refine zxP ?rvk ?_);(case rvk=>walk_at "ddiv"))|((with_reducible refine zyn ?rvk ?_);(case rvk=>first | lia | assumption))|((with_reducible refine zxv (d:=?rvv) ?rvk ?_);(case rvk=>first | assumption | exact rfl))|((with_reducible refine zsi (xs:=?rvx) (d:=?rvv) ?rvl ?rvk ?_);(case rvl=>walk_at "l");(case rvk=>first | assumption | exact rfl)))
local macro_rules | `(tactic| walk_at "dr1")=>`(tactic| with_reducible first|refine zyc ?_)
local macro_rules | `(tactic| walk_at "dr1")=>`(tactic| with_reducible first|refine r_c ?_|refine zoE ?_|refine zy3 ?_|refine zxS ?_|refine zxc ?_|refine zx3 ?_|refine zyC ?_|refine zzf ?_|refine zzc ?_|refine zyQ ?_|refine zwT ?_|refine zyl ?_)
local macro_rules | `(tactic| walk_at "dr1")=>`(tactic| first|((with_reducible refine zf5 (d:=?rvv) ?rvk ?_);(case rvk=>exact rfl)))
local macro_rules | `(tactic| walk_at "dr1")=>`(tactic| with_reducible first|refine zy7 ?_|refine zte ?_)
local macro_rules | `(tactic| walk_at "dr1")=>`(tactic| first|((with_reducible refine ztJ (g:=?rv1) (b:=?rv2) (f:=?rv3) (h:=?rv4) (a:=?rv5) (l:=?rv6) (d:=?rv7) ?rvk ?_);(case rvk=>walk_at "dat"))|((with_reducible refine zvC (g:=?rv1) (b:=?rv2) (f:=?rv3) (h:=?rv4) (a:=?rv5) (l:=?rv6) (d:=?rv7) ?rvk ?_);(case rvk=>walk_at "dat"))|((with_reducible refine ztu (g:=?rv1) (b:=?rv2) (f:=?rv3) (h:=?rv4) (a:=?rv5) (l:=?rv6) (d:=?rv7) ?rvk ?_);(case rvk=>walk_at "dat")))
local macro_rules | `(tactic| walk_at "dr1")=>`(tactic| first|((with_reducible refine zx6 (l:=?rvx) ?rvk ?_);(case rvk=>walk_at "dat"))|((with_reducible refine zrJ (g:=?rv1) (b:=?rv2) (f:=?rv3) (h:=?rv4) (a:=?rv5) (l:=?rv6) (d:=?rv7) ?rvk ?_);(case rvk=>walk_at "dat"))|((with_reducible refine zqk (g:=?rv1) (b:=?rv2) (f:=?rv3) (h:=?rv4) (a:=?rv5) (l:=?rv6) (d:=?rv7) ?rvk ?_);(case rvk=>walk_at "dat"))|((with_reducible refine zv3 (g:=?rv1) (b:=?rv2) (f:=?rv3) (h:=?rv4) (a:=?rv5) (l:=?rv6) (d:=?rv7) ?rvk ?_);(case rvk=>walk_at "dat"))|((with_reducible refine zu3 (g:=?rv1) (b:=?rv2) (f:=?rv3) (h:=?rv4) (a:=?rv5) (l:=?rv6) (d:=?rv7) ?rvk ?_);(case rvk=>walk_at "dat")))
local macro_rules | `(tactic| walk_at "dr1")=>`(tactic| with_reducible first|refine znV ?_|refine zvr ?_|refine zsC ?_|refine zuv ?_|refine zvp ?_|refine zsk ?_|refine zwH ?_|refine zw5 ?_)
local macro_rules | `(tactic| walk_at "g")=>`(tactic| repeat walk_at "dr1")
local macro_rules | `(tactic| walk_at "h")=>`(tactic| simp only [zd7,qI,qbh,qQ,List.length_nil,Nat.reduceSub,Nat.reduceAdd,List.replicate,List.cons_append,List.nil_append,List.set_cons_zero,List.set_cons_succ])
local macro_rules | `(tactic| walk_at "j")=>`(tactic| simp only [List.set_cons_zero,List.set_cons_succ])
namespace Dp
open PySem Rm My
def zb2:ZS:=fun ds S Q=>∃ (ns:List Int) (k:Int),ds=[.rl (ns.map D.int),.int k]/\0<=k/\∀ v,Q (.int v) S
abbrev Z2:DE:=WY 0
abbrev Z1:DE:=WY 1
abbrev ZQ:DE:=WY 2
abbrev ZL:DE:=WY 3
abbrev Zx:DE:=WY 4
abbrev Zr:DE:=WY 5
abbrev Yq:DE:=WY 6
abbrev XQ:DE:=WY 7
abbrev Wz:DE:=WY 8
abbrev vr9:DE:=WY 9
abbrev zlz:DE:=WY 10
abbrev zyA:DE:=WY 11
abbrev Zw:DE:=dC (.int 0)
abbrev ZD:DE:=dC (.int 1)
abbrev ci2:DE:=dC (.int 2)
abbrev ci3:DE:=dC (.int 3)
abbrev ci4:DE:=dC (.int 4)
abbrev ci5:DE:=dC (.int 5)
abbrev ci6:DE:=dC (.int 6)
abbrev ci7:DE:=dC (.int 7)
abbrev ci8:DE:=dC (.int 8)
abbrev ci9:DE:=dC (.int 9)
abbrev Yt:DE:=Z7 ZW Z2 Zw
abbrev Xv:DE:=Z7 ZW Z2 ZD
abbrev ze9:DE:=Z7 ZW Z2 ci2
abbrev zer:DE:=Z7 ZW Z2 ci3
abbrev zkZ:DE:=Z7 ZW Z2 ci4
abbrev zst:DE:=Z7 ZW Z2 ci5
abbrev zyv:DE:=Z7 ZW Z2 ci6
abbrev zx8:DE:=Z7 ZW Z2 ci7
abbrev VP:DE:=Z7 ZW Z1 Zw
abbrev zdU:DE:=Z7 ZW Z1 ZD
abbrev zk6:DE:=Z7 ZW Z1 ci2
abbrev zk0:DE:=Z7 ZW Z1 ci3
abbrev zeF:DE:=Z7 ZW ZQ Zw
abbrev zdQ:DE:=Z7 ZW ZQ ZD
abbrev zxu:DE:=Z7 ZW ZQ ci2
abbrev zot:DE:=Z7 ZW ZQ ci3
abbrev zxo:DE:=Z7 ZW ZL Zw
abbrev zyg:DE:=Z7 ZW ZL ZD
abbrev zyi:DE:=Z7 ZW Zr Zw
abbrev zyo:DE:=Z7 ZW Zr ZD
abbrev zxW:DE:=Z7 ZW Yq Zw
abbrev zyd:DE:=Z7 ZW Yq ci2
abbrev zx0:DE:=Z7 ZW XQ Zw
abbrev zxn:DE:=Z7 ZW XQ ZD
abbrev Zh:DA:=zf Z2 zG
abbrev Yx:DA:=zf Z1 zG
abbrev Yy:DA:=zf ZQ zG
abbrev Xf:DA:=zf ZL zG
abbrev ua4:DA:=zf Zx zG
abbrev ua5:DA:=zf Zr zG
abbrev ua6:DA:=zf Yq zG
abbrev ua7:DA:=zf XQ zG
abbrev ua8:DA:=zf Wz zG
abbrev zyY:DA:=zf zlz zG
abbrev zyX:DA:=zf zyA zG
abbrev zgp:DS :=
    (zA (ZJ (dT (Z7 oLt Z1 (dB YK Zh))) (zT (Z7 ZW Z2 Z1)) zX)
 (zT Zw))
theorem zjM:BodyOk 2 zgp zb2:=by
 rintro ds S Q ⟨ns,k,rfl,h0,q⟩
 unfold zgp
 walk_at "g"
 rw [qb]
 refine ZM (fun g=>?_) (fun g=>?_)
 ·obtain⟨v,_,av⟩:=zqt (zs:=ns) h0 (by lia)
  walk_at "g"
  exact fin_same (q _)
 ·walk_at "g"
  exact fin_same (q _)
theorem zvs {c k m g:Int}(h0:0<=k)(hk:k<3000)(m0:0<m)(hm:My.Bd 290 m)(hg:My.Bd 290 g):YJ (c%m+3) (g+2*k*k)/\YJ ((c%m+3)*(g+2*k*k)+6151*k) ((c%m+3)*(g+2*k*k)+6151*k):=by
 have h1:=qaD c (show m≠0 by lia)
 have h2:=qaI c m0
 have b0:My.Bd 290 (c%m):=hm.of_le (by lia)
 have b1:My.Bd 300 (c%m+3):=(b0.add (y:=3) (by show _<2 ^ 290;decide)).mono (by decide)
 have hk2:0<=2*k*k/\2*k*k<=18000000:=⟨Int.mul_nonneg (by lia) h0,Int.le_trans (Int.mul_le_mul (show 2*k<=6000 by lia) (show k<=3000 by lia) h0 (by decide)) (by decide)⟩
 have b2:My.Bd 300 (g+2*k*k):=(hg.add (y:=2*k*k) (My.Bd.mono (m:=30) (by show _<2 ^ 30;lia) (by decide))).mono (by decide)
 have b3:My.Bd 700 ((c%m+3)*(g+2*k*k)+6151*k):=(My.Bd.add (n:=600) (My.Bd.mul b1 b2) (My.Bd.mono (m:=30) (by show _<2 ^ 30;lia) (by decide))).mono (by decide)
 exact⟨.inl ⟨b1.mono (by decide),b2.mono (by decide)⟩,.inl ⟨b3.mono (by decide),b3.mono (by decide)⟩⟩
def zb5:ZS:=fun ds S Q=>∃ (c k:Int),ds=[.int c,.int k]/\0<=k/\k<3000/\∀ v,0<=v->True->Q (.int v) S
abbrev zhV:DS :=
    (zA (zL (Z7 Yu (Z7 Zy (Z7 oMod Z2 (dC (.int 1000000000000000000000000000000000000000000000000000000000000))) ci3) (Z7 Zy (dC (.int 16180339887498948482045868343656381177203)) (Z7 Yu (Z7 Yu ci2 Z1) Z1))) (zu 2))
 (zA (zL (Z7 Zy ZQ (Z7 Yu (dC (.int 6151)) Z1)) (zu 2))
 (zT (Z7 oMod (Z7 Yu ZQ ZQ) (Z7 Zy (dC (.int 1000000000000000000000000000000000000000000000000000000000000)) (dC (.int 33)))))))
theorem zmc:BodyOk 3 zhV zb5:=by
 rintro ds S Q ⟨c,k,rfl,h0,hk,q⟩
 unfold zhV
 obtain⟨cm1,cm2⟩:=zvs (c:=c) h0 hk (m:=1000000000000000000000000000000000000000000000000000000000000) (g:=16180339887498948482045868343656381177203) (by decide) (by show _<2 ^ 290;decide) (by show _<2 ^ 290;decide)
 walk_at "g"
 exact fin_same (q _ (qaD _ (by decide)) True.intro)
def zds:ZS:=fun ds S Q=>∃ (x:D) (ns:List Int) (most:Int),ds=[x,.int most]/\Lst S x (ns.map D.int)/\ns.length<=63/\1<=most/\most<=60/\∀ zs:List Int,(zs.length:Int)=most->(∀ z∈zs,0<=z/\True)->New Q S (zs.map D.int)
abbrev zhS:DS :=
    (zA (zL (YX 1 [] (zhA Yx) (zu 0) Yv (dCall zb5 (zf Z2 (zf (dC (.int 40)) zG)))) (zu 2))
 (zA (Y5 (zf8 Zh) (Ym 2 (Zt (zu 3) (Zt (zu 4) Yl))) (zA (zL (Z7 oMod ZL Z1) (zu 5))
 (zL (dCall zb5 (zf (Z7 Zy (Z7 ZW ZQ Zr) (Z7 oMod Zx (dC (.int 1000000000000000000000000000000000000000000000000000000000000)))) (zf (Z7 oMod ZL (dC (.int 37))) zG))) (zgm ZQ Zr))))
 (zT ZQ)))
theorem zl3:BodyOk 6 zhS zds:=by
 rintro ds S Q ⟨x,ns,most,rfl,hx,hl,h1,h2,q⟩
 unfold zhS
 walk_at "g"
 refine⟨_,rfl,by lia,by lia,?_⟩
 refine⟨by rw [zcP];unfold big;lia,fun i ys S'=>S'=S/\∃ zs:List Int,ys=zs.map D.int/\zs.length=i/\∀ z∈zs,0<=z/\True,⟨rfl,[],rfl,rfl,by simp⟩,fun _ _ _ _=>True.intro,?_,?_⟩
 ·rintro i d ys S' hd ⟨rfl,zs,rfl,hz,hb⟩
  obtain⟨hi,rfl⟩:=zhp hd
  walk_at "g"
  refine⟨_,_,rfl,by decide,by decide,fun v v0 v1=>?_⟩
  refine⟨rfl,zs++[v],by rw [qC];rfl,by simp [hz],fun z hz'=>?_⟩
  rcases qK.mp hz' with h | h
  ·exact hb z h
  ·have:z=v:=by simpa using h
   subst this;exact⟨v0,v1⟩
 rintro ys S' ⟨rfl,zs,rfl,hz,hb⟩
 rw [zcP] at hz
 have hz:(zs.length:Int)=most:=by lia
 walk_at "g"
 refine zlK (xs:=ns.map D.int) hx.old ?_
 refine YQ (fun i Z S''=>∃ (zs:List Int) (w1 w2 w3:Option D),Z=[some x,some (.int most),some (.ref S'.length),w1,w2,w3]/\S''=S'++[.lst (zs.map D.int)]/\(zs.length:Int)=most/\∀ z∈zs,0<=z/\True)
  ⟨zs,_,_,_,rfl,rfl,hz,hb⟩ (fun i Z S'' zq0=>by obtain⟨zs,w1,w2,w3,_,e,_⟩:=zq0;exact e▸hx.old) ?_ ?_
 ·rintro i d Z S'' hd ⟨zs,w1,w2,w3,rfl,rfl,hz,hb⟩
  obtain⟨y,hy,rfl⟩:=zb8 hd
  obtain⟨n,_,rfl⟩:=zdO hy
  have m1:=qaD ((0+i:Nat):Int) (show most≠0 by lia)
  have m2:=qaI ((0+i:Nat):Int) (show 0<most by lia)
  obtain⟨u,hu,au⟩:=zqt (zs:=zs) (k:=((0+i:Nat):Int)%most) m1 (by lia)
  have iu:=zvz (zs:=zs) (k:=((0+i:Nat):Int)%most) m1 (by lia)
  have k1:=qaD ((0+i:Nat):Int) (show (37:Int)≠0 by decide)
  have k2:=qaI ((0+i:Nat):Int) (show (0:Int)<37 by decide)
  walk_at "g"
  refine⟨_,_,rfl,k1,by lia,fun v v0 v1=>?_⟩
  walk_at "g"
  refine zga Y6 iu ?_
  walk_at "g"
  refine⟨zs.set _ v,_,_,_,rfl,by rw [List.map_set],by simpa using hz,fun z hz'=>?_⟩
  rcases zrm hz' with h | h
  ·exact hb z h
  ·subst h;exact⟨v0,v1⟩
 ·rintro Z S'' ⟨zs,w1,w2,w3,rfl,rfl,hz,hb⟩
  walk_at "g"
  exact fin_same (q zs hz hb)
def hTl:List Str:=["","a","zz","beacon"]
def hNm (k t:Nat):Str:=⟨#[97+k]⟩++hTl.getD t ""
theorem znJ:∀ t,(∀ c∈(hTl.getD t "").cps.toList,c∈abc)/\(hTl.getD t "").length<=6
 | 0=>by decide +kernel
 | 1=>by decide +kernel
 | 2=>by decide +kernel
 | 3=>by decide +kernel
 | _+4=>by
  show (∀ c∈("":Str).cps.toList,c∈abc)/\("":Str).length<=6
  decide +kernel
theorem zii (k t:Nat):(hNm k t).cps.toList=(97+k)::(hTl.getD t "").cps.toList:=by
 show (#[97+k]++(hTl.getD t "").cps).toList=_
 simp
theorem zvG {k t:Nat}(h:k<26):Wo (hNm k t)=true:=by
 obtain⟨h1,h2⟩:=znJ t
 have e:(hNm k t).length=1+(hTl.getD t "").length:=by
  show (#[97+k]++(hTl.getD t "").cps).size=1+(hTl.getD t "").cps.size
  simp
 rw [zjB,e]
 refine⟨by lia,by lia,fun c hc=>?_⟩
 rw [zii] at hc
 rcases qg.mp hc with hc | hc
 ·rw [hc];exact znB.mpr (by lia)
 ·exact h1 c hc
theorem ztB {k t k' t':Nat}(e:hNm k t=hNm k' t'):k=k':=by
 have h:(hNm k t).cps.toList=(hNm k' t').cps.toList:=congrArg (fun z:Str=>z.cps.toList) e
 rw [zii,zii] at h
 have:=(List.cons.inj h).1
 lia
theorem zx9 (i:Nat)(h:i<8):atS "abcdefgh" ((0+i:Nat):Int)=some (97+i):=by
  have:i=0\/i=1\/i=2\/i=3\/i=4\/i=5\/i=6\/i=7:=by lia
  rcases this with rfl | rfl | rfl | rfl | rfl | rfl | rfl | rfl<;>decide +kernel
theorem zwa {n:Int}:Y8 (hTl.map D.str) (n%4)=some (.str (hTl.getD (n%4).toNat "")):=by
  have:n%4=0\/n%4=1\/n%4=2\/n%4=3:=by lia
  rcases this with e | e | e | e<;>rw [e]<;>rfl
def zj0 (bs:List (Str×(Int×Int))):Prop:=∀ (j:Nat) b,bs[j]?=some b->(∃ t,b.1=hNm j t)/\-6<=b.2.1/\b.2.1<=6/\0<=b.2.2/\b.2.2<=8
theorem zj0.nm {bs:List (Str×(Int×Int))}(h:zj0 bs)(hl:bs.length<=8):∀ b∈bs,Wo b.1=true:=fun b hb=>by
 obtain⟨j,hj,ej⟩:=qT.mp hb
 obtain⟨⟨t,e⟩,_⟩:=h j b (by rw [qc hj,ej])
 rw [e];exact zvG (by lia)
theorem zj0.nd {bs:List (Str×(Int×Int))}(h:zj0 bs):(bs.map (·.1)).Nodup:=by
 refine qae.mpr fun i j hi hj hij e=>?_
 rw [qb] at hi hj
 rw [qai,qai] at e
 obtain⟨⟨t,e1⟩,_⟩:=h i _ (qc hi)
 obtain⟨⟨t',e2⟩,_⟩:=h j _ (qc hj)
 rw [e1,e2] at e
 have:=ztB e
 lia
def zcE:ZS:=fun ds S Q=>∃ (u:D) (ns:List Int),ds=[u]/\Lst S u (ns.map D.int)/\ns.length<=8/\∀ (T:Z5) (bs:List (Str×(Int×Int))),bs.length=ns.length->zj0 bs->Q (.ref S.length) (S++.lst (bs.map Yj)::T)
abbrev zgo:DS :=
    (zA (zL (Xx zG) (zu 1))
 (zA (Y5 (zf8 Zh) (Ym 2 (Zt (zu 2) (Zt (zu 3) Yl))) (zA (zL (Z7 Zy (Z7 ZW (dC (.str "abcdefgh")) ZQ) (Z7 ZW (Xx (zf (dC (.str "")) (zf (dC (.str "a")) (zf (dC (.str "zz")) (zf (dC (.str "beacon")) zG))))) (Z7 oMod ZL ci4))) (zu 4))
 (Zd (dM zcD Z1 (zf (dTup (zf Zx (zf (Z7 Zq (Z7 oMod (Z7 oDiv ZL ci4) (dC (.int 13))) ci6) (zf (Z7 oMod (Z7 oDiv ZL (dC (.int 60))) ci9) zG)))) zG)))))
 (zT Z1)))
theorem zjZ:BodyOk 5 zgo zcE:=by
 rintro ds S Q ⟨u,ns,rfl,hu,n8,q⟩
 unfold zgo
 have hu0:∀ T,Lst (S++T) u (ns.map D.int):=fun T=>hu.old
 have hu1:=hu0 [.lst []]
 walk_at "g"
 refine zlK (xs:=ns.map D.int) hu1 ?_
 refine YQ (fun i Z S'=>∃ (bs:List (Str×(Int×Int))) (T:Z5) (w2 w3 w4:Option D),S'=S++Cell.lst (bs.map Yj)::T/\bs.length=i/\zj0 bs/\Z=[some u,some (.ref S.length),w2,w3,w4]) ⟨[],[],_,_,_,rfl,rfl,fun j b h=>by simp at h,rfl⟩ (fun i Z S' zq1=>by obtain⟨_,_,_,_,_,e,_⟩:=zq1;exact e▸hu0 _) ?_ ?_
 ·rintro i d Z S' hd ⟨bs,T,w2,w3,w4,rfl,hl,hb,rfl⟩
  obtain⟨y,hy,rfl⟩:=zb8 hd
  obtain⟨n,hn,rfl⟩:=zdO hy
  have li:=zW hn
  walk_at "g"
  refine zyt (c:=97+i) (by decide +kernel) (zx9 i (by lia)) ?_
  have atl:Y8 [.str "",.str "a",.str "zz",.str "beacon"] (n%4)=some (.str (hTl.getD (n%4).toNat "")):=zwa
  walk_at "g"
  have l6:=(znJ (n%4).toNat).2
  refine zv1 (by show 1+_<=big;unfold big;lia) ?_
  rw [show (⟨#[97+i]⟩:Str)++hTl.getD (n%4).toNat ""=hNm i (n%4).toNat from rfl]
  have hlim:(bs.map Yj).length<big:=by rw [qb];unfold big;lia
  walk_at "g"
  refine⟨bs++[(hNm i (n%4).toNat,(n/4%13-6,n/60%9))],_,_,_,_,by rw [qC];rfl,by simp [hl],fun j b h=>?_,rfl⟩
  rcases qM j bs.length with g | g
  ·rw [qk g] at h;exact hb j b h
  ·have lj:=zW h
   rw [qh] at lj
   have ej:j=bs.length:=by simp at lj;lia
   subst ej
   rw [qj (qf _),qav] at h
   have e:(hNm i (n%4).toNat,(n/4%13-6,n/60%9))=b:=by simpa using h
   rw [<- e]
   exact⟨⟨_,by rw [hl]⟩,by dsimp only;lia,by dsimp only;lia,by dsimp only;lia,by dsimp only;lia⟩
 rintro Z S' ⟨bs,T,w2,w3,w4,rfl,hl,hb,rfl⟩
 rw [zbr,qb] at hl
 walk_at "g"
 exact fin_same (q T bs hl hb)
def zdR:ZS:=fun ds S Q=>∃ (u:D) (ns:List Int) (a b:Int),ds=[u,.int a,.int b]/\Lst S u (ns.map D.int)/\ns.length<=12/\-100<=a/\a<=b/\b<=1000/\∀ fs:List Fg,fs.length<=ns.length->(∀ F∈fs,FgV F)->New Q S (fs.map XM)
abbrev ziK:DS :=
    (zA (zL (Xx zG) (zu 3))
 (zA (Y5 (Zm Z2) (zu 4) (zA (zL (dCall zb5 (zf Zx (zf (dC (.int 71)) zG))) (zu 5))
 (ZJ (dT (Z7 Xa (Z7 oMod Zr ci4) Zw)) (zA (zL (Z7 Zq (Z7 oMod (Z7 oDiv Zr ci4) (dC (.int 15))) ci8) (zu 6))
 (zA (zL (Z7 Zq (Z7 oMod (Z7 oDiv Zr (dC (.int 60))) (dC (.int 12))) ci2) (zu 7))
 (zA (zL (Z7 Zy (Z7 Zq Z1 ci3) (Z7 oMod (Z7 oDiv Zr (dC (.int 720))) (Z7 Zy (Z7 Zq ZQ Z1) ci6))) (zu 8))
 (zA (zL (Z7 Zy Wz (Z7 oMod (Z7 oDiv Zr (dC (.int 1000000000000000))) (dC (.int 12)))) (zu 9))
 (zA (zL (Z7 Zq (Z7 oMod (Z7 oDiv Zr (dC (.int 100000000000000000000))) ci5) ci2) (zu 10))
 (zA (zL (Z7 Zq (Z7 oMod (Z7 oDiv Zr (dC (.int 10000000000000000000000000))) ci3) ZD) (zu 11))
 (Zd (dM zcD ZL (zf (dTup (zf Yq (zf (Z7 Zy Yq (Z7 oMod (Z7 oDiv Zr (dC (.int 1000000000000000000000000000000))) ci5)) (zf XQ (zf (Z7 Zy XQ (Z7 oMod (Z7 oDiv Zr (dC (.int 100000000000000000000000000000000000))) ci6)) (zf Wz (zf vr9 (zf zlz zyX)))))))) zG))))))))) zX)))
 (zT ZL)))
theorem zmW:BodyOk 12 ziK zdR:=by
 rintro ds S Q ⟨u,ns,a,b,rfl,hu,n12,a0,ab,b1,q⟩
 unfold ziK
 have hu0:∀ T,Lst (S++T) u (ns.map D.int):=fun T=>hu.old
 have hu1:=hu0 [.lst []]
 walk_at "g"
 refine YQ (fun i Z S'=>∃ (fs:List Fg) (w4 w5 w6 w7 w8 w9 w10 w11:Option D),S'=S++[Cell.lst (fs.map XM)]/\fs.length<=i/\(∀ F∈fs,FgV F)/\Z=[some u,some (.int a),some (.int b),some (.ref S.length),w4,w5,w6,w7,w8,w9,w10,w11]) ⟨[],_,_,_,_,_,_,_,_,rfl,qf _,by simp,rfl⟩ (fun i Z S' zq2=>by obtain⟨_,_,_,_,_,_,_,_,_,e,_⟩:=zq2;exact e▸hu0 _) ?_ ?_
 ·rintro i d Z S' hd ⟨fs,w4,w5,w6,w7,w8,w9,w10,w11,rfl,hl,hf,rfl⟩
  obtain⟨n,hn,rfl⟩:=zdO hd
  have li:=zW hn
  walk_at "g"
  refine⟨n,_,rfl,by decide,by decide,fun m m0 m1=>?_⟩
  have hp:0<b-a+6:=by lia
  walk_at "g"
  refine ZM (fun _=>?_) (fun _=>?_)
  ·have r0:=qaD (m/720) (show b-a+6≠0 by lia)
   have r1:=qaI (m/720) hp
   have hlim:(fs.map XM).length<big:=by rw [qb];unfold big;lia
   walk_at "g"
   have sm:∀ {v:Int} {k:Nat},20<=k->-10000<=v->v<=10000->Bd k v:=fun {v k} hk h1 h2=>(show Bd 20 v by show _<2 ^ 20;lia).mono hk
   refine⟨fs++[⟨m/4%15-8,m/4%15-8+m/1000000000000000000000000000000%5,m/60%12-2,m/60%12-2+m/100000000000000000000000000000000000%6,a-3+m/720%(b-a+6),a-3+m/720%(b-a+6)+m/1000000000000000%12,m/100000000000000000000%5-2,m/10000000000000000000000000%3-1⟩],_,_,_,_,_,_,_,_,by rw [qC];rfl,by simp;lia,fun F hF=>?_,rfl⟩
   rcases qK.mp hF with h | h
   ·exact hf F h
   ·rw [List.mem_singleton.mp h]
    exact⟨⟨by dsimp only;lia,by dsimp only;lia,sm (by decide) (by dsimp only;lia) (by dsimp only;lia),sm (by decide) (by dsimp only;lia) (by dsimp only;lia),sm (by decide) (by dsimp only;lia) (by dsimp only;lia),sm (by decide) (by dsimp only;lia) (by dsimp only;lia),sm (by decide) (by dsimp only;lia) (by dsimp only;lia),sm (by decide) (by dsimp only;lia) (by dsimp only;lia)⟩,by dsimp only;lia,sm (by decide) (by dsimp only;lia) (by dsimp only;lia),sm (by decide) (by dsimp only;lia) (by dsimp only;lia)⟩
  ·walk_at "g"
   exact⟨fs,_,_,_,_,_,_,_,_,rfl,by lia,hf,rfl⟩
 rintro Z S' ⟨fs,w4,w5,w6,w7,w8,w9,w10,w11,rfl,hl,hf,rfl⟩
 rw [qb] at hl
 walk_at "g"
 exact fin_same (q fs hl hf)
theorem zmv {h1 h2 t w z:Int}(b1:h1<=7)(b2:h2<=7)(t0:0<=t)(tw:t<=w)(hz:7<=z):h1*w+(h2-h1)*t<=z*w:=by
 have e:h1*w+(h2-h1)*t=h1*(w-t)+h2*t:=by grind
 have a1:=qa8 b1 (show 0<=w-t by lia)
 have a2:=qa8 b2 t0
 have a3:=qa8 hz (show 0<=w by lia)
 rw [e];lia
def grH (a b:Int):List (Int×Int):=[(-9,-3),(a,b),(9,-3)]
theorem zwb {a b:Int}(a0:-5<=a)(a1:a<=5)(b0:-6<=b)(b1:b<=5):Wi (grH a b):=by
  have sm:∀ {v:Int} {k:Nat},20<=k->-100<=v->v<=100->Bd k v:=fun {v k} hk h1 h2=>(show Bd 20 v by show _<2 ^ 20;lia).mono hk
  refine⟨show 2<=3 by decide,show 3<=40 by decide,?_,fun c hc=>?_⟩
  . unfold grH
    refine .cons (fun c hc=>?_) (.cons (fun c hc=>?_) (.cons (fun c hc=>by simp at hc) .nil))
    . have:c=(a,b)\/c=(9,-3):=by simpa using hc
      rcases this with rfl | rfl<;>dsimp only<;>lia
    . have:c=(9,-3):=by simpa using hc
      subst this;dsimp only;lia
  . have:c=(-9,-3)\/c=(a,b)\/c=(9,-3):=by simpa [grH] using hc
    rcases this with rfl | rfl | rfl<;>exact⟨sm (by decide) (by dsimp only;lia) (by dsimp only;lia),sm (by decide) (by dsimp only;lia) (by dsimp only;lia)⟩
theorem ztO {a b x z:Int}(a0:-5<=a)(a1:a<=5)(b1:b<=5)(x0:-6<=x)(x1:x<=6)(hz:7<=z):Wk (grH a b) (x,z):=by
 refine⟨⟨show -9*1<=x by lia,show x<=9*1 by lia⟩,fun p q e=>?_⟩
 have e':(if x<=a*1 then some ((((-9:Int),(-3:Int)),(a,b))) else if x<=9*1 then some ((a,b),((9:Int),(-3:Int))) else none)=some (p,q):=e
 split at e'
 ·rename_i h
  cases e'
  unfold hvT hvB
  rw [if_pos (by dsimp only;lia),if_pos (by dsimp only;lia)]
  have:=zmv (h1:=-3) (h2:=b) (t:=x+9) (w:=a+9) (z:=z) (by decide) (by lia) (by lia) (by lia) hz
  dsimp only
  simp only [Wn]
  rw [show a - -9=a+9 by lia,show x - -9=x+9 by lia]
  exact this
 ·rename_i h
  rw [if_pos (by lia)] at e'
  cases e'
  unfold hvT hvB
  rw [if_pos (by dsimp only;lia),if_pos (by dsimp only;lia)]
  have:=zmv (h1:=b) (h2:=-3) (t:=x-a) (w:=9-a) (z:=z) (by lia) (by decide) (by lia) (by lia) hz
  dsimp only
  simp only [Wn]
  exact this
def zvA (bs:List (Str×(Int×Int))):Prop:=∀ (j:Nat) b,bs[j]?=some b->∃ t,b.1=hNm j t
def zdq:ZS:=fun ds S Q=>∃ (ns:List Int),ds=[.rl (ns.map D.int)]/\ns.length<=63/\∀ (T:Z5) (x y z:D) (V:Vl),YD V->2<=V.bs.length->V.bs.length<=5->V.fs.length<=6->-5<=V.h0->V.h0<=5->V.h1<=V.h0+23->V.dl<=3->zvA V.bs->VlS (S++T) x y z V->Q (vlD x y z V) (S++T)
abbrev zhN:DS :=
    (zA (zL (Z7 oMod (dCall zb2 (zf Z2 (zf Zw zG))) (dC (.int 1000000000000000000000000000000))) (zu 1))
 (zA (zL (Z7 Zy ci2 (Z7 oMod Z1 ci4)) (zu 2))
 (zA (zL (dCall zds (zf (dSl zij Z2 (some ci2) none) (zf ci6 zG))) (zu 3))
 (zA (zL (Z7 Zq (Z7 oMod (Z7 oDiv Z1 ci4) (dC (.int 11))) ci5) (zu 4))
 (zA (zL (Z7 Zy Zx (Z7 oMod (Z7 oDiv Z1 (dC (.int 44))) (dC (.int 24)))) (zu 5))
 (zA (zL (Xx (zf (dTup (zf (Yh Yi ci9) (zf (Yh Yi ci3) zG))) (zf (dTup (zf (Z7 Zq (Z7 oMod (Z7 oDiv Z1 (dC (.int 1000000))) (dC (.int 11))) ci5) (zf (Z7 Zq (Z7 oMod (Z7 oDiv Z1 (dC (.int 100000000))) (dC (.int 12))) ci6) zG))) (zf (dTup (zf ci9 (zf (Yh Yi ci3) zG))) zG)))) (zu 6))
 (zA (zL (Z7 ZW (Xx (zf (dC .non) (zf (Z7 Zy ci9 (Z7 oMod (Z7 oDiv Z1 (dC (.int 10000000000))) (dC (.int 200)))) (zf (dC (.int 40)) zG)))) (Z7 oMod (Z7 oDiv Z1 (dC (.int 10000000000000))) ci3)) (zu 7))
 (zA (zL (YX 3 [] (Zm (dCall zcE (zf (dSl zij ZL none (some ZQ)) zG))) (Ym 3 (Zt (zu 0) (Zt (zu 1) (Zt (zu 2) Yl)))) Yv (dTup (zf Z2 (zf Z1 (zf (Z7 Zy ZQ ci7) zG))))) (zu 8))
 (zA (zL (dCall zdR (zf ZL (zf Zx ua5))) (zu 9))
 (zT (dTup (zf Yq (zf Wz (zf vr9 (zf XQ (zf Zx (zf Zr (zf (Z7 oMod (Z7 oDiv Z1 (dC (.int 1000000000000000))) ci4) zG))))))))))))))))))
theorem zlQ:BodyOk 10 zhN zdq:=by
  rintro ds S Q ⟨ns,rfl,hl,q⟩
  unfold zhN
  walk_at "g"
  refine⟨ns,0,rfl,by decide,fun c0=>?_⟩
  have h0:=qaD c0 (show (1000000000000000000000000000000:Int)≠0 by decide)
  have h1:=qaI c0 (show (0:Int)<1000000000000000000000000000000 by decide)
  walk_at "g"
  generalize c0%1000000000000000000000000000000=hd at h0 h1
  rw [zni]
  have cl:(cutD ns (some 2) none).length<=63:=qX (ztC _ _ _) (by unfold W4;dsimp only;split<;>lia)
  generalize cutD ns (some 2) none=cn at cl
  refine⟨_,cn,6,rfl,Lst.at0,cl,by decide,by decide,fun zs hz hzb=>?_⟩
  unfold New
  have hz6:zs.length=6:=by lia
  obtain⟨hz',ahz,hzo⟩:∃ hz:Option Int,Y8 [.non,.int (9+hd/10000000000%200),.int 40] (hd/10000000000000%3)=some (Y7 hz)/\∀ z,hz=some z->0<=z:=by
    have:hd/10000000000000%3=0\/hd/10000000000000%3=1\/hd/10000000000000%3=2:=by lia
    rcases this with e | e | e<;>rw [e]
    . exact⟨none,rfl,fun z h=>by cases h⟩
    . exact⟨some (9+hd/10000000000%200),rfl,fun z h=>by cases h;lia⟩
    . exact⟨some 40,rfl,fun z h=>by cases h;decide⟩
  walk_at "g"
  rw [zni,zsc zs (by lia) (by lia)]
  have lb:(zs.take (2+hd%4).toNat).length=(2+hd%4).toNat:=by rw [qab];lia
  generalize zs.take (2+hd%4).toNat=bn at lb
  obtain⟨Sa,hSa⟩:∃ Sa:Z5,Sa=S++[Cell.lst (cn.map D.int)]:=⟨_,rfl⟩
  have ga:Wi (grH (hd/1000000%11-5) (hd/100000000%12-6)):=zwb (by lia) (by lia) (by lia) (by lia)
  have gs:∀ x z:Int,-6<=x->x<=6->7<=z->Wk (grH (hd/1000000%11-5) (hd/100000000%12-6)) (x,z):=fun x z h1 h2 h3=>ztO (by lia) (by lia) (by lia) h1 h2 h3
  generalize hgr:grH (hd/1000000%11-5) (hd/100000000%12-6)=gr at ga gs
  have egr:[D.tup [D.int (-9),D.int (-3)],D.tup [D.int (hd/1000000%11-5),D.int (hd/100000000%12-6)],D.tup [D.int 9,D.int (-3)]]=gr.map p2:=by rw [<- hgr];rfl
  rw [<- hSa,egr]
  refine⟨_,bn,rfl,Lst.at (k:=3) rfl,by lia,fun T1 bs lbs hbs=>?_⟩
  obtain⟨Sb,hSb⟩:∃ Sb:Z5,Sb=Sa++[Cell.lst (zs.map D.int),.lst (gr.map p2),.lst [.non,.int (9+hd/10000000000%200),.int 40],.lst (bn.map D.int)]:=⟨_,rfl⟩
  have ks:∀ T,Lst (Sb++T) (.ref Sa.length) (zs.map D.int):=fun T=>hSb▸Lst.old Lst.at0
  have kg:∀ T,Lst (Sb++T) (.ref (Sa.length+1)) (gr.map p2):=fun T=>hSb▸Lst.old (Lst.at (k:=1) rfl)
  have xb:∃ T,Sb=S++T:=⟨_,by rw [hSb,hSa,qp]⟩
  rw [<- hSb]
  clear hSb hSa egr hgr ahz
  generalize Sa.length=na at ks kg
  walk_at "g"
  refine X4 (fun _=>true) (zim fun b=>Yj (b.1,(b.2.1,b.2.2+7))) Lst.at0 (by rw [qb];unfold big;lia) (fun i d ys hd' hw=>?_) ?_
  . obtain⟨b,hb,rfl⟩:=zeM hd'
    walk_at "g"
    exact Yc hd' hw rfl rfl
  rw [filter_true,zdB,show bs.map (fun b=>Yj (b.1,(b.2.1,b.2.2+7)))=(bs.map fun b=>(b.1,(b.2.1,b.2.2+7))).map Yj by rw [qY];rfl]
  have nm1:∀ b∈bs.map (fun b=>(b.1,(b.2.1,b.2.2+7))),Wo b.1=true/\-6<=b.2.1/\b.2.1<=6/\7<=b.2.2/\b.2.2<=15:=fun b hb=>by
    obtain⟨b',hb',rfl⟩:=qW.mp hb
    obtain⟨j,hj,ej⟩:=qT.mp hb'
    obtain⟨_,k1,k2,k3,k4⟩:=hbs j b' (by rw [qc hj,ej])
    exact⟨hbs.nm (by lia) b' hb',k1,k2,by dsimp only;lia,by dsimp only;lia⟩
  have nd1:((bs.map (fun b=>(b.1,(b.2.1,b.2.2+7)))).map (·.1)).Nodup:=by
    rw [qY];exact hbs.nd
  have hn1:zvA (bs.map fun b=>(b.1,(b.2.1,b.2.2+7))):=fun j b e=>by
    rw [qi] at e
    cases eb:bs[j]? with
    | none=>rw [eb] at e;cases e
    | some b'=>rw [eb] at e;cases e;exact (hbs j b' eb).1
  have ln1:(bs.map (fun b=>(b.1,(b.2.1,b.2.2+7)))).length=(2+hd%4).toNat:=by rw [qb,lbs,lb]
  generalize bs.map (fun b=>(b.1,(b.2.1,b.2.2+7)))=b2 at nm1 nd1 ln1 hn1
  unfold New
  rw [qp]
  obtain⟨Sc,hSc⟩:∃ Sc:Z5,Sc=Sb++(Cell.lst (bs.map Yj)::T1):=⟨_,rfl⟩
  have ks2:∀ T,Lst (Sc++T) (.ref na) (zs.map D.int):=fun T=>hSc▸(ks _).old
  have kg2:∀ T,Lst (Sc++T) (.ref (na+1)) (gr.map p2):=fun T=>hSc▸(kg _).old
  have xc:∃ T,Sc=S++T:=zt8 xb hSc
  rw [<- qp,<- hSc]
  clear hSc
  walk_at "g"
  refine⟨_,zs,_,_,rfl,ks2 _,by lia,by lia,by lia,by lia,fun fs lf hf=>?_⟩
  unfold New
  walk_at "g"
  have sm:∀ {v:Int} {k:Nat},20<=k->-100<=v->v<=100->Bd k v:=fun {v k} hk h1 h2=>(show Bd 20 v by show _<2 ^ 20;lia).mono hk
  have e2:Sc++[Cell.lst (b2.map Yj)]++[.lst (fs.map XM)]=Sc++[Cell.lst (b2.map Yj),.lst (fs.map XM)]:=by simp
  have e3:(Sc++[Cell.lst (b2.map Yj)]).length=Sc.length+1:=by simp
  rw [e2,e3]
  have vs:VlS (Sc++[Cell.lst (b2.map Yj),.lst (fs.map XM)]) (.ref (na+1)) (.ref Sc.length) (.ref (Sc.length+1)) ⟨gr,b2,fs,hz',hd/4%11-5,hd/4%11-5+hd/44%24,hd/1000000000000000%4⟩:=⟨kg2 _,Lst.at0,Lst.at (k:=1) rfl⟩
  have ok:YD ⟨gr,b2,fs,hz',hd/4%11-5,hd/4%11-5+hd/44%24,hd/1000000000000000%4⟩:={ gr:=ga,b1:=(by show 1<=b2.length;lia),b12:=(by show b2.length<=12;lia),nm:=fun b hb=>(nm1 b hb).1,nd:=nd1,st:=fun b hb=>gs b.2.1 b.2.2 (nm1 b hb).2.1 (nm1 b hb).2.2.1 (nm1 b hb).2.2.2.1,bd:=fun b hb=>⟨sm (by decide) (by have:=(nm1 b hb).2;lia) (by have:=(nm1 b hb).2;lia),sm (by decide) (by have:=(nm1 b hb).2;lia) (by have:=(nm1 b hb).2;lia)⟩,f12:=(by show fs.length<=12;lia),fg:=hf,hz:=hzo,hh:=(by dsimp only;lia),b0:=sm (by decide) (by dsimp only;lia) (by dsimp only;lia),bl:=sm (by decide) (by dsimp only;lia) (by dsimp only;lia),dl:=(by dsimp only;lia) }
  obtain⟨Tc,rfl⟩:=xc
  rw [qp] at vs ⊢
  exact fin_same (q _ _ _ _ _ ok (by dsimp only;lia) (by dsimp only;lia) (by dsimp only;lia) (by dsimp only;lia) (by dsimp only;lia) (by dsimp only;lia) (by dsimp only;lia) hn1 vs)
def zbc:ZS:=fun ds S Q=>∃ (x:D) (cs:List (Int×Int)),ds=[x]/\Lst S x (cs.map p2)/\Wi cs/\Q .non S
abbrev zda:DS :=
    (zA (ZJ (dOr (dT (Z7 oLt (dB YK Zh) ci2)) (dT (Z7 Xa (dB YK Zh) (dC (.int 40))))) zcl zX)
 (Y5 (ziR (zf ZD (zf (dB YK Zh) zG))) (zu 1) (ZJ (dT (Z7 oLe (Z7 ZW (Z7 ZW Z2 Z1) Zw) (Z7 ZW (Z7 ZW Z2 (Z7 Zq Z1 ZD)) Zw))) zcl zX)))
theorem zfC:BodyOk 2 zda zbc:=by
 rintro ds S Q ⟨x,cs,rfl,hx,g,q⟩
 unfold zda
 have g1:=g.two
 have g2:=g.most
 walk_at "g"
 rw [qb]
 refine ZM (fun z=>absurd z (by lia)) (fun _=>?_)
 walk_at "g"
 rw [qb]
 refine ZM (fun z=>absurd z (by lia)) (fun _=>?_)
 walk_at "g"
 rw [qb]
 refine⟨_,_,rfl,?_⟩
 refine YQ (fun i Z S'=>S'=S/\∃ w:Option D,Z=[some x,w]) ⟨rfl,none,rfl⟩ (fun _ _ _ _=>True.intro) ?_ ?_
 ·rintro i d Z S' hd ⟨rfl,w,rfl⟩
  obtain⟨hi,rfl⟩:=zhp hd
  obtain⟨a,ha,aa⟩:=zk1 (cs:=cs) (k:=1+(i:Int)) (by lia) (by lia)
  obtain⟨b,hb,ab⟩:=zk1 (cs:=cs) (k:=1+(i:Int)-1) (by lia) (by lia)
  have hlt:=zpQ g (show (1+(i:Int)-1).toNat<(1+(i:Int)).toNat by lia) hb ha
  walk_at "g"
  refine ZM (fun z=>absurd z (by lia)) (fun _=>?_)
  walk_at "g"
  exact⟨rfl,_,rfl⟩
 ·rintro Z S' ⟨rfl,w,rfl⟩
  exact fin_same q
def zdM:ZS:=fun ds S Q=>∃ (S0:Z5) (x:D) (cs:List (Int×Int)),ds=[.ref S0.length,x]/\S=S0++[.ins "Ground" []]/\Lst S0 x (cs.map p2)/\Wi cs/\Q .non (S0++[.ins "Ground" [("corners",.ref (S0.length+1))],.lst (cs.map p2)])
abbrev zcT:DS :=
    (zA (Zd (dCall zbc Yx))
 (zdT "Ground" "corners" Z2 (dB zjm Yx)))
theorem zjX:BodyOk 2 zcT zdM:=by
 rintro ds S Q ⟨S0,x,cs,rfl,rfl,hx,g,q⟩
 unfold zcT
 have hx':Lst (S0++[.ins "Ground" []]) x (cs.map p2):=hx.old
 walk_at "g"
 refine⟨x,cs,rfl,hx',g,?_⟩
 walk_at "g"
 refine⟨S0.length,[],rfl,Y6,by decide,?_⟩
 rw [V6]
 exact fin_same q
def zfk:ZS:=znR "Ground" zdM
def zbe:ZS:=fun ds S Q=>∃ (x y:D) (xs ys:List D),ds=[x,y]/\Lst S x xs/\Lst S y ys/\1<=xs.length/\xs.length<=12/\ys.length<=12/\Q .non S
abbrev zdc:DS :=
    (zA (ZJ (dOr (dT (Z7 oLt (dB YK Zh) ZD)) (dT (Z7 Xa (dB YK Zh) (dC (.int 12))))) zcl zX)
 (ZJ (dT (Z7 Xa (dB YK Yx) (dC (.int 12)))) zcl zX))
theorem zfH:BodyOk 2 zdc zbe:=by
 rintro ds S Q ⟨x,y,xs,ys,rfl,hx,hy,h1,h2,h3,q⟩
 unfold zdc
 walk_at "g"
 rw [decide_eq_false (show ¬ ((xs.length:Int)<1) by lia)]
 walk_at "g"
 rw [decide_eq_false (show ¬ ((12:Int)<xs.length) by lia)]
 walk_at "g"
 rw [decide_eq_false (show ¬ ((12:Int)<ys.length) by lia)]
 walk_at "g"
 exact fin_same q
def zew:ZS:=fun ds S Q=>∃ z:Str,ds=[.str z]/\z.length<=1000/\Q (.bl (Wo z)) S
abbrev zkF:DS :=
    (zA (ZJ (dOr (dT (Z7 oLt (dB YK Zh) ZD)) (dT (Z7 Xa (dB YK Zh) ci8))) (zT (dC (.bl false))) zX)
 (zT (dB zef (zf (YX 1 [] (Zm Z2) (zu 0) Yv (Z7 oIn Z2 (dC (.str "abcdefghijklmnopqrstuvwxyz")))) zG))))
theorem zoI:BodyOk 1 zkF zew:=by
 rintro ds S Q ⟨z,rfl,hz,q⟩
 unfold zkF
 have hb:z.length<=big:=by unfold big;lia
 walk_at "g"
 refine zp1 hb ?_
 walk_at "g"
 unfold Wo at q
 refine ZM (fun h=>?_) (fun h=>?_)
 ·walk_at "g"
  rw [decide_eq_false (show ¬ 1<=z.length by lia)] at q
  exact fin_same q
 rw [decide_eq_true (show 1<=z.length by lia)] at q
 walk_at "g"
 refine zp1 hb ?_
 walk_at "g"
 refine ZM (fun h=>?_) (fun h=>?_)
 ·walk_at "g"
  rw [decide_eq_false (show ¬ z.length<=8 by lia)] at q
  exact fin_same q
 rw [decide_eq_true (show z.length<=8 by lia)] at q
 walk_at "g"
 refine X4 (fun _=>true) (onC fun c=>decide (c∈abc)) True.intro (by rw [zpD];exact hb) (fun i d ys hd hw=>?_) ?_
 ·obtain⟨c,_,rfl⟩:=zpM hd
  walk_at "g"
  rw [zvQ]
  exact Yc hd hw rfl rfl
 rw [filter_true,zpz]
 walk_at "g"
 refine zdj Lst.at0 rfl ?_
 refine Yz rfl ?_
 rw [qaV]
 exact q
def zbB:ZS:=fun ds S Q=>∃ (x:D) (zs:List Str),ds=[x]/\Lst S x (zs.map D.str)/\zs.length<=100/\(∀ z∈zs,Wo z=true)/\zs.Nodup/\Q .non S
abbrev zd8:DS :=
    (zA (ZJ (WW (dT (dB zef (zf (YX 1 [] (Zm Z2) (zu 0) Yv (dCall zew Zh)) zG)))) zcl zX)
 (ZJ (dT (Z7 oLt (dB znX Zh) (dB YK Zh))) zcl zX))
theorem zgw:BodyOk 1 zd8 zbB:=by
 rintro ds S Q ⟨x,zs,rfl,hx,hl,hn,nd,q⟩
 unfold zd8
 walk_at "g"
 refine X4 (fun _=>true) (onS fun z=>.bl (Wo z)) hx (by rw [qb];unfold big;lia) (fun i d ys hd hw=>?_) ?_
 ·obtain⟨z,hz,rfl⟩:=zjV hd
  walk_at "g"
  refine⟨z,rfl,by have:=(zjB.mp (hn z (qe hz))).2.1;lia,?_⟩
  exact Yc hd hw rfl rfl
 rw [filter_true,ztm,show zs.map (fun z=>D.bl (Wo z))=(zs.map Wo).map D.bl by rw [qY];rfl]
 walk_at "g"
 refine zdj (b:=true) Lst.at0 (by rw [qaV,qaf];exact hn) ?_
 walk_at "g"
 refine zuO (zs:=zs) hx.old (by lia) ?_
 rw [zn3 nd]
 have hx1:Lst (S++[Cell.lst ((zs.map Wo).map D.bl)]) x (zs.map D.str):=hx.old
 walk_at "g"
 rw [qb,decide_eq_false (show ¬ ((zs.length:Int)<zs.length) by lia)]
 walk_at "g"
 exact Yz rfl q
def zdD:ZS:=fun ds S Q=>∃ (a b:Int×Int),ds=[p2 a,p2 b]/\YJ a.1 b.2/\YJ b.1 a.2/\Q (.bl (flt a b)) S
abbrev zph:DS :=
  (zT (Z7 oLt (Z7 Yu Yt zdU) (Z7 Yu VP Xv)))
theorem zuj:BodyOk 2 zph zdD:=by
 rintro ds S Q ⟨a,b,rfl,c1,c2,q⟩
 unfold zph
 walk_at "g"
 exact fin_same q
def zeX:ZS:=fun ds S Q=>∃ (g:D) (cs:List (Int×Int)) (p:Int×Int),ds=[g,p2 p]/\V7 S g cs/\Wi cs/\Bd 1000 p.1/\Bd 1000 p.2/\Q (.bl (decide (zjG cs*p.2<=p.1)&&decide (p.1<=ziq cs*p.2))) S
abbrev znC:DS :=
    (zA (zL (dTup (zf (Z7 ZW (Z7 ZW (YS "corners" Z2) Zw) Zw) (zf ZD zG))) (zu 2))
 (zA (zL (dTup (zf (Z7 ZW (Z7 ZW (YS "corners" Z2) (Yh Yi ZD)) Zw) (zf ZD zG))) (zu 3))
 (zT (zeA (zfd (dCall zdD (zf Z1 Yy))) (zfd (dCall zdD (zf ZL Yx)))))))
theorem zrF:BodyOk 4 znC zeX:=by
 rintro ds S Q ⟨g,cs,p,rfl,⟨n,l,rfl,hn,hl⟩,gr,b1,b2,q⟩
 unfold znC
 have g1:=gr.two
 obtain⟨a,ha,ea⟩:=zo7 gr
 obtain⟨z,hz,ez⟩:=zrP gr
 have aa:Y8 (cs.map p2) 0=some (p2 a):=zcB (i:=0) (by rw [qi,ha];rfl)
 have az:Y8 (cs.map p2) (-1)=some (p2 z):=by
  have hne:cs≠[]:=fun e=>by rw [e] at g1;simp at g1
  have en:cs=cs.dropLast++[z]:=by
   have h2:=qaH hne
   have h3:cs.getLast hne=z:=by
    rw [List.getLast_eq_getElem]
    have hl':=zW hz
    rw [qc hl'] at hz
    cases hz;rfl
   rw [h3] at h2
   exact h2.symm
  rw [en,qC];exact zit
 obtain⟨ba,_⟩:=gr.bd a (qe ha)
 obtain⟨bz,_⟩:=gr.bd z (qe hz)
 rw [ea,ez] at q
 have e1:flt p (a.1,1)=decide (p.1<a.1*p.2):=by unfold flt;dsimp only;rw [Wn]
 have e2:flt (z.1,1) p=decide (z.1*p.2<p.1):=by unfold flt;dsimp only;rw [Wn]
 have c1:YJ a.1 p.2:=.inl ⟨ba.mono (by decide),b2.mono (by decide)⟩
 have c2:YJ z.1 p.2:=.inl ⟨bz.mono (by decide),b2.mono (by decide)⟩
 have c3:∀ u:Int,YJ u 1:=fun u=>.inr (.inr (by decide))
 walk_at "g"
 refine⟨p,(a.1,1),rfl,c3 _,c1,?_⟩
 rw [e1]
 walk_at "g"
 refine zfV (fun g=>?_) (fun g=>?_)
 ·walk_at "g"
  refine⟨(z.1,1),p,rfl,c2,c3 _,?_⟩
  rw [e2]
  walk_at "g"
  rw [decide_eq_true (show a.1*p.2<=p.1 by lia),Bool.true_and] at q
  rw [show (!decide (z.1*p.2<p.1))=decide (p.1<=z.1*p.2) by rw [<- decide_not];exact decide_eq_decide.mpr (by lia)]
  exact fin_same q
 ·rw [decide_eq_false (show ¬ a.1*p.2<=p.1 by lia),Bool.false_and] at q
  exact fin_same q
def zbT:ZS:=fun ds S Q=>∃ (t b:Int),ds=[.int t,.int b]/\Q (.int ((Int.gcd t b:Nat):Int)) S
abbrev zeV:DS :=
    (zA (zeZ (dT (Z7 V8 Z1 Zw)) (zA (zL (Z7 oMod Z2 Z1) (zu 2))
 (zA (zL Z1 (zu 0))
 (zL ZQ (zu 1)))))
 (zT (dB zsb Zh)))
theorem zhG:BodyOk 3 zeV zbT:=by
 rintro ds S Q ⟨t,b,rfl,q⟩
 unfold zeV
 refine Dp.znV ?_
 refine zqS (fun m Z S'=>S'=S/\∃ (x y:Int) (w:Option D),Z=[some (.int x),some (.int y),w]/\m=y.natAbs/\Int.gcd x y=Int.gcd t b) b.natAbs ⟨rfl,_,_,none,rfl,rfl,rfl⟩ ?_
 rintro m Z S' ⟨rfl,x,y,w,rfl,rfl,e⟩
 walk_at "g"
 refine zfV (fun h0=>?_) (fun h0=>?_)
 ·refine zp5 ?_
  refine Dp.znV ?_
  refine Dp.zsk ?_
  refine Dp.zoE ?_
  refine Dp.zf5 rfl ?_
  refine Dp.zf5 rfl ?_
  refine zvx h0 ?_
  walk_at "g"
  exact⟨_,zmV h0,rfl,_,_,_,rfl,rfl,(zrL x y).trans e⟩
 ·subst h0
  rw [Int.gcd_zero] at e
  walk_at "g"
  rw [<- e] at q
  exact fin_same q
def zdS:ZS:=fun ds S Q=>∃ (t b:Int),ds=[.int t,.int b]/\b≠0/\Bd 8000 b/\Q (p2 (frT t b,frB t b)) S
abbrev ziV:DS :=
    (zA (zL (dCall zbT (zf Z2 Yx)) (zu 2))
 (zA (sJ (ZJ (dT (Z7 oLt Z1 Zw)) (zL (Yh Yi ZQ) (zu 2)) zX))
 (zT (dTup (zf (Z7 oDiv Z2 ZQ) (zf (Z7 oDiv Z1 ZQ) zG))))))
theorem zmG:BodyOk 3 ziV zdS:=by
 rintro ds S Q ⟨t,b,rfl,hb,bb,q⟩
 unfold ziV
 have hgn:=zsI (t:=t) (b:=b) hb
 have hgb:=zxw (t:=t) (b:=b) hb bb
 walk_at "g"
 refine⟨t,b,rfl,?_⟩
 walk_at "g"
 refine r_J (fun Z S'=>S'=S/\Z=[some (.int t),some (.int b),some (.int (gd t b))]) ?_ ?_
 ·walk_at "g"
  refine ZM (fun g=>?_) (fun g=>?_)
  ·have hg:gd t b=-((Int.gcd t b:Nat):Int):=if_pos g
   walk_at "g"
   exact⟨rfl,by rw [hg];rfl⟩
  ·have hg:gd t b=((Int.gcd t b:Nat):Int):=if_neg g
   walk_at "g"
   exact⟨rfl,by rw [hg];rfl⟩
 rintro Z S' ⟨rfl,rfl⟩
 refine Dp.zsC ?_
 refine Dp.zsn ?_
 refine Dp.zmw ?_
 refine Dp.zoE ?_
 refine Dp.zf5 rfl ?_
 refine Dp.zf5 rfl ?_
 refine zqo ⟨hgn,hgb⟩ ?_
 refine Dp.zmw ?_
 refine Dp.zoE ?_
 refine Dp.zf5 rfl ?_
 refine Dp.zf5 rfl ?_
 refine zqo ⟨hgn,hgb⟩ ?_
 walk_at "g"
 exact fin_same q
def zdo:ZS:=fun ds S Q=>∃ (a b p:Int×Int),ds=[p2 a,p2 b,p2 p]/\b.1≠a.1/\0<p.2/\Bd 180 a.1/\Bd 200 a.2/\Bd 180 b.1/\Bd 200 b.2/\Bd 1000 p.1/\Bd 1000 p.2/\∀ c:Int×Int,Sv c (hvT a b p) (hvB a b p)->Int.gcd c.1 c.2=1->Bd 1400 c.1->Bd 1400 c.2->Q (p2 c) S
theorem zw4 {t b:Int}(hb:b≠0):Sv (frT t b,frB t b) (if 0<b then t else -t) (if 0<b then b else -b):=by
 have h1:=zrD t b
 have h2:=ztT (t:=t) hb
 refine⟨by show 0<frB t b;lia,?_⟩
 show frT t b*_=_*frB t b
 split
 ·rw [h1,qao]
 ·rw [qbp,h1,qbo,qao]
abbrev zhJ:DS :=
    (zA (zL (Z7 Zq VP Yt) (zu 3))
 (zA (zL (Z7 Zq zdU Xv) (zu 4))
 (zA (zL (Z7 Zy (Z7 Yu (Z7 Yu Xv ZL) zdQ) (Z7 Yu Zx (Z7 Zq zeF (Z7 Yu Yt zdQ)))) (zu 5))
 (zT (dCall zdS (zf Zr (zf (Z7 Yu ZL zdQ) zG)))))))
theorem zlu:BodyOk 6 zhJ zdo:=by
 rintro ds S Q ⟨a,b,p,rfl,hne,hp,b1,b2,b3,b4,b5,b6,q⟩
 unfold zhJ
 have r1:Bd 181 (b.1-a.1):=Bd.sub b3 b1
 have r2:Bd 201 (b.2-a.2):=Bd.sub b4 b2
 have m1:Bd 381 (a.2*(b.1-a.1)):=Bd.mul b2 r1
 have m2:Bd 1381 (a.2*(b.1-a.1)*p.2):=Bd.mul m1 b6
 have m3:Bd 1180 (a.1*p.2):=Bd.mul b1 b6
 have m4:Bd 1181 (p.1-a.1*p.2):=Bd.sub (b5.mono (by decide)) m3
 have m5:Bd 1382 ((b.2-a.2)*(p.1-a.1*p.2)):=Bd.mul r2 m4
 have m6:Bd 1181 ((b.1-a.1)*p.2):=Bd.mul r1 b6
 have bT:Bd 1400 (a.2*(b.1-a.1)*p.2+(b.2-a.2)*(p.1-a.1*p.2)):=(Bd.add (n:=1382) (m2.mono (by decide)) m5).mono (by decide)
 have c1:YJ a.2 (b.1-a.1):=.inl ⟨b2.mono (by decide),r1.mono (by decide)⟩
 have c2:YJ (a.2*(b.1-a.1)) p.2:=.inl ⟨m1.mono (by decide),b6.mono (by decide)⟩
 have c3:YJ a.1 p.2:=.inl ⟨b1.mono (by decide),b6.mono (by decide)⟩
 have c4:YJ (b.2-a.2) (p.1-a.1*p.2):=.inl ⟨r2.mono (by decide),m4.mono (by decide)⟩
 have c5:YJ (b.1-a.1) p.2:=.inl ⟨r1.mono (by decide),b6.mono (by decide)⟩
 walk_at "g"
 have hr:(b.1-a.1)*p.2≠0:=Int.mul_ne_zero (by lia) (by lia)
 refine⟨_,_,rfl,hr,m6.mono (by decide),?_⟩
 refine fin_same (q _ ?_ (zve hr) (zvL bT) ((zuF m6).mono (by decide)))
 have hs:=zw4 (t:=a.2*(b.1-a.1)*p.2+(b.2-a.2)*(p.1-a.1*p.2)) hr
 unfold hvT hvB
 by_cases g:0<b.1-a.1
 ·have:0<(b.1-a.1)*p.2:=qbr g hp
  rw [if_pos this,if_pos this] at hs
  rw [if_pos g,if_pos g];exact hs
 ·have:¬ 0<(b.1-a.1)*p.2:=fun z=>by
   have:=qbr (show 0 < -(b.1-a.1) by lia) hp
   rw [qbo] at this
   lia
  rw [if_neg this,if_neg this] at hs
  rw [if_neg g,if_neg g];exact hs
def zdk:Wj:=fun ds S Q ex=>∃ (g:D) (cs:List (Int×Int)) (p:Int×Int),ds=[g,p2 p]/\V7 S g cs/\Wi cs/\0<p.2/\Bd 1000 p.1/\Bd 1000 p.2/\(¬ OnG cs p->ex "OffGround" S)/\(OnG cs p->∀ a b c:Int×Int,zir cs p=some (a,b)->Sv c (hvT a b p) (hvB a b p)->0<hvB a b p->Int.gcd c.1 c.2=1->Bd 1400 c.1->Bd 1400 c.2->Q (p2 c) S)
abbrev zh6 (ex : XR) : DS :=
    (zA (ZJ (WW (dT (dCall zeX (zf Z2 Yx)))) (zfF ex "OffGround") zX)
 (zA (zL (YS "corners" Z2) (zu 2))
 (zA (zL ZD (zu 3))
 (zA (zeZ (dT (dCall zdD (zf (dTup (zf (Z7 ZW (Z7 ZW ZQ ZL) Zw) (zf ZD zG))) Yx))) (zrq 3 ZD))
 (zT (dCall zdo (zf (Z7 ZW ZQ (Z7 Zq ZL ZD)) (zf (Z7 ZW ZQ ZL) Yx))))))))
theorem zlF:zcC 4 zh6 zdk:=by
 rintro ds S Q ex ⟨g,cs,p,rfl,hg,gr,hp,b1,b2,hx,q⟩
 unfold zh6
 obtain⟨n,l,rfl,hn,hl⟩:=id hg
 walk_at "g"
 refine⟨_,cs,p,rfl,hg,gr,b1,b2,?_⟩
 by_cases on:OnG cs p
 case neg =>
  have e:(decide (zjG cs*p.2<=p.1)&&decide (p.1<=ziq cs*p.2))=false:=Bool.eq_false_iff.mpr fun z=>on (by rw [qG,decide_eq_true_eq,decide_eq_true_eq] at z;exact z)
  rw [e]
  walk_at "g"
  exact hx on
 have q:=q on
 obtain⟨kk,a,b,ha,hb,hle,hlt⟩:=zqb gr.two on.2
 have seg:=seg_at ha hb hle hlt
 have hk:=zW hb
 rw [decide_eq_true on.1,decide_eq_true on.2,show (true&&true)=true from rfl]
 walk_at "g"
 refine zqS (fun m Z S'=>S'=S/\∃ j:Nat,Z=[some (.ref n),some (p2 p),some (.ref l),some (.int ((j:Int)+1))]/\m=kk-j/\j<=kk) kk ⟨rfl,0,rfl,rfl,by lia⟩ ?_
 rintro m Z S' ⟨rfl,j,rfl,rfl,hj⟩
 obtain⟨c,hc,ac⟩:=zk1 (cs:=cs) (k:=(j:Int)+1) (by lia) (by lia)
 have hc':cs[j+1]?=some c:=by rwa [show ((j:Int)+1).toNat=j+1 by lia] at hc
 obtain⟨bc,bc2⟩:=gr.bd c (qe hc)
 have e1:flt (c.1,1) p=decide (c.1*p.2<p.1):=by unfold flt;dsimp only;rw [Wn]
 walk_at "g"
 refine⟨(c.1,1),p,rfl,.inl ⟨bc.mono (by decide),b2.mono (by decide)⟩,.inr (.inr (show (1:Int).natAbs<2 ^ 64 by decide)),?_⟩
 rw [e1]
 walk_at "g"
 refine ZM (fun h=>?_) (fun h=>?_)
 ·walk_at "g"
  have hjk:j<kk:=by
   rcases qM j kk with z | z
   ·exact z
   ·have:j=kk:=by lia
    subst this
    rw [hb] at hc'
    cases hc'
    lia
  exact⟨kk-(j+1),by lia,rfl,j+1,by simp,rfl,by lia⟩
 ·have hjk:j=kk:=by
   rcases qM j kk with z | z
   ·have:=hlt (j+1) c (by lia) (by lia) hc'
    lia
   ·lia
  subst hjk
  rw [hb] at hc'
  cases hc'
  have aa:Y8 (cs.map p2) ((j:Int)+1-1)=some (p2 a):=by
   rw [show (j:Int)+1-1=(j:Int) by lia]
   exact zcB (by rw [qi,ha];rfl)
  obtain⟨ba1,ba2⟩:=gr.bd a (qe ha)
  have hab:=zpQ gr (show j<j+1 by lia) ha hb
  walk_at "g"
  refine⟨a,b,p,rfl,by lia,hp,ba1.mono (by decide),ba2.mono (by decide),bc.mono (by decide),bc2.mono (by decide),b1,b2,fun c hs hg d1 d2=>?_⟩
  exact fin_same (q a b c seg hs (ztz (by lia) hp) hg d1 d2)
def zee:ZS:=fun ds S Q=>∃ (g:D) (cs:List (Int×Int)) (s:Int×Int),ds=[g,p2 s]/\V7 S g cs/\Wi cs/\Bd 180 s.1/\Bd 200 s.2/\∀ b:Bool,(b=true↔Wk cs s)->Q (.bl b) S
abbrev zma:DS :=
    (zA (zL (dTup (zf VP (zf ZD zG))) (zu 2))
 (zA (ZJ (WW (dT (dCall zeX (zf Z2 Yy)))) (zT (dC (.bl false))) zX)
 (zT (zfd (dCall zdD (zf (dTup (zf zdU (zf ZD zG))) (zf (zb4 zdk xF (zf Z2 Yy)) zG)))))))
theorem zpN:BodyOk 3 zma zee:=by
 rintro ds S Q ⟨g,cs,s,rfl,hg,gr,b1,b2,q⟩
 unfold zma
 have bo:Bd 1000 (1:Int):=Bd.lit (by decide) (by decide)
 walk_at "g"
 refine⟨g,cs,(s.1,1),rfl,hg,gr,b1.mono (by decide),bo,?_⟩
 by_cases on:OnG cs (s.1,1)
 case neg =>
  have e:(decide (zjG cs*(s.1,(1:Int)).2<=(s.1,(1:Int)).1)&&decide ((s.1,(1:Int)).1<=ziq cs*(s.1,(1:Int)).2))=false:=Bool.eq_false_iff.mpr fun z=>on (by rw [qG,decide_eq_true_eq,decide_eq_true_eq] at z;exact z)
  rw [e]
  walk_at "g"
  exact fin_same (q false ⟨fun z=>(by cases z),fun z=>absurd z.1 on⟩)
 rw [decide_eq_true on.1,decide_eq_true on.2,show (true&&true)=true from rfl]
 walk_at "g"
 refine⟨g,cs,(s.1,1),rfl,hg,gr,(show (0:Int)<1 by decide),b1.mono (by decide),bo,fun off=>absurd on off,fun _ a b c seg sv hb hgcd d1 d2=>?_⟩
 walk_at "g"
 refine⟨(s.2,1),c,rfl,.inl ⟨b2.mono (by decide),d2.mono (by decide)⟩,.inr (.inr (show (1:Int).natAbs<2 ^ 64 by decide)),?_⟩
 rw [zvl (t:=s.2) (b:=1) (by decide) hb ⟨(show (0:Int)<1 by decide),rfl⟩ sv]
 walk_at "g"
 refine fin_same (q _ ?_)
 rw [Bool.not_eq_true',decide_eq_false_iff_not]
 constructor
 ·intro h
  refine⟨on,fun a' b' seg'=>?_⟩
  rw [seg] at seg';cases seg';lia
 ·intro h
  have:=h.2 a b seg
  lia
def zbL:ZS:=fun ds S Q=>∃ (g y:D) (cs:List (Int×Int)) (bs:List (Str×(Int×Int))),ds=[g,y]/\V7 S g cs/\Wi cs/\Lst S y (bs.map Yj)/\bs.length<=100/\(∀ b∈bs,Wk cs b.2/\Bd 180 b.2.1/\Bd 200 b.2.2)/\Q .non S
abbrev zem:DS :=
  (ZJ (WW (dT (dB zef (zf (YX 3 [0] (Zm Z1) (Ym 3 (Zt (zu 0) (Zt (zu 1) (Zt (zu 2) Yl)))) Yv (dCall zee (zf ZL (zf (dTup (zf Z1 Yy)) zG)))) zG)))) zcl zX)
theorem zgN:BodyOk 2 zem zbL:=by
 rintro ds S Q ⟨g,y,cs,bs,rfl,hg,gr,hy,hl,hb,q⟩
 unfold zem
 walk_at "g"
 refine X4 (fun _=>true) (zim fun _=>.bl true) hy (by rw [qb];unfold big;lia) (fun i d ys hd hw=>?_) ?_
 ·obtain⟨b,hbi,rfl⟩:=zeM hd
  obtain⟨s1,s2,s3⟩:=hb b (qe hbi)
  walk_at "g"
  refine⟨g,cs,b.2,rfl,hg,gr,s2,s3,fun r hr=>?_⟩
  rw [hr.mpr s1]
  exact Yc hd hw rfl rfl
 rw [filter_true,zdB,show bs.map (fun _=>D.bl true)=(bs.map fun _=>true).map D.bl by rw [qY];rfl]
 walk_at "g"
 refine zdj (b:=true) Lst.at0 (by rw [qaV,qaf];intro _ _;rfl) ?_
 walk_at "g"
 exact Yz rfl q
def zcJ:ZS:=fun ds S Q=>∃ i:Int,ds=[.int i]/\Q (.bl true) S
abbrev zjj:DS :=
  (zT (zeA (dB zeK (zf Z2 (zf (dC (.ty "int")) zG))) (zfd (dB zeK (zf Z2 (zf (dC (.ty "bool")) zG))))))
theorem zmB:BodyOk 1 zjj zcJ:=by
 rintro ds S Q ⟨i,rfl,q⟩
 unfold zjj
 walk_at "g"
 exact fin_same q
def zfa:ZS:=fun ds S Q=>∃ F:Fg,ds=[XM F]/\F.x0<=F.x1/\F.z0<=F.z1/\F.f<=F.l/\Q (.bl true) S
abbrev zlV:DS :=
    (zA (ZJ (dOr (WW (dT (dB zeK (zf Z2 (zf (dC (.ty "tuple")) zG))))) (dT (Z7 V8 (dB YK Zh) ci8))) (zT (dC (.bl false))) zX)
 (zA (ZJ (WW (dT (dB zef (zf (YX 1 [] (Zm Z2) (zu 0) Yv (dCall zcJ Zh)) zG)))) (zT (dC (.bl false))) zX)
 (zT (zeA (Z7 oLe Yt Xv) (zeA (Z7 oLe ze9 zer) (Z7 oLe zkZ zst))))))
theorem zp2:BodyOk 1 zlV zfa:=by
 rintro ds S Q ⟨F,rfl,h1,h2,h3,q⟩
 unfold zlV
 walk_at "g"
 rw [show (!decide ((([D.int F.x0,D.int F.x1,D.int F.z0,D.int F.z1,D.int F.f,D.int F.l,D.int F.g,D.int F.s]:List D).length:Int)=8))=false by rfl]
 walk_at "g"
 refine X4 (fun _=>true) (fun _=>.bl true) True.intro (by show 8<=big;unfold big;decide) (fun i d ys hd hw=>?_) ?_
 ·obtain⟨z,_,rfl⟩:=zdO (zs:=[F.x0,F.x1,F.z0,F.z1,F.f,F.l,F.g,F.s]) hd
  walk_at "g"
  refine⟨z,rfl,?_⟩
  exact Yc hd hw rfl rfl
 walk_at "g"
 refine zdj (bs:=List.replicate 8 true) (b:=true) Lst.at0 rfl ?_
 walk_at "g"
 rw [decide_eq_true h1]
 walk_at "g"
 rw [decide_eq_true h2]
 walk_at "g"
 rw [decide_eq_true h3]
 exact Yz rfl q
theorem zuI {α:Type}(xs:List α)(f:α->D):(xs.map f).map (fun _=>D.bl true)=(xs.map fun _=>true).map D.bl:=by rw [qY,qY];rfl
def zbK:ZS:=fun ds S Q=>∃ (z:D) (fs:List Fg),ds=[z]/\Lst S z (fs.map XM)/\fs.length<=100/\(∀ F∈fs,FgV F)/\Q .non S
abbrev zep:DS :=
  (ZJ (WW (dT (dB zef (zf (YX 1 [] (Zm Z2) (zu 0) Yv (dCall zfa Zh)) zG)))) zcl zX)
theorem zgT:BodyOk 1 zep zbK:=by
 rintro ds S Q ⟨z,fs,rfl,hz,hl,hf,q⟩
 unfold zep
 walk_at "g"
 refine X4 (fun _=>true) (fun _=>.bl true) hz (by rw [qb];unfold big;lia) (fun i d ys hd hw=>?_) ?_
 ·obtain⟨F,hF,rfl⟩:=zqq hd
  have k:=hf F (qe hF)
  walk_at "g"
  refine⟨F,rfl,k.b.x,k.b.z,k.o,?_⟩
  exact Yc hd hw rfl rfl
 rw [filter_true,zuI]
 walk_at "g"
 refine zdj (b:=true) Lst.at0 (by rw [qaV,qaf];intro _ _;rfl) ?_
 walk_at "g"
 exact Yz rfl q
def zbA:ZS:=fun ds S Q=>∃ (hz:Option Int) (a b d:Int),ds=[Y7 hz,.int a,.int b,.int d]/\a<=b/\0<=d/\(∀ z,hz=some z->0<=z)/\Q .non S
abbrev zd2:DS :=
    (zA (ZJ (dT (Z7 Xa Z1 ZQ)) zcl zX)
 (zA (ZJ (dT (Z7 oLt ZL Zw)) zcl zX)
 (ZJ (zdH (dT (Z7 zfu Z2 (dC .non))) (dT (Z7 oLt Z2 Zw))) zcl zX)))
theorem zgu:BodyOk 4 zd2 zbA:=by
 rintro ds S Q ⟨hz,a,b,d,rfl,hab,hd,hh,q⟩
 unfold zd2
 walk_at "g"
 rw [decide_eq_false (show ¬ b<a by lia)]
 walk_at "g"
 rw [decide_eq_false (show ¬ d<0 by lia)]
 cases hz with
 | none =>
  walk_at "g"
  exact fin_same q
 | some z =>
  have:=hh z rfl
  unfold Y7
  walk_at "g"
  rw [decide_eq_false (show ¬ z<0 by lia)]
  walk_at "g"
  exact fin_same q
def zdz:ZS:=fun ds S Q=>∃ (S0:Z5) (g y z:D) (V:Vl),ds=[.ref S0.length,g,y,z,Y7 V.hz,.int V.h0,.int V.h1,.int V.dl]/\S=S0++[.ins "Valley" []]/\V7 S0 g V.cs/\Lst S0 y (V.bs.map Yj)/\Lst S0 z (V.fs.map XM)/\YD V/\∀ T,Xu (S0++T) (.ref S0.length) V->Q .non (S0++T)
abbrev zcU:DS :=
    (zA (Zd (dCall zbe (zf ZQ Xf)))
 (zA (Zd (dCall zbB (zf (YX 1 [] (Zm ZQ) (zu 0) Yv Yt) zG)))
 (zA (Zd (dCall zbL (zf Z1 Yy)))
 (zA (Zd (dCall zbK Xf))
 (zA (Zd (dCall zbA (zf Zx (zf Zr (zf Yq ua7)))))
 (zA (zdT "Valley" "ground" Z2 (dCall zfk (zf (YS "corners" Z1) zG)))
 (zA (zdT "Valley" "beacons" Z2 (dB zjm Yy))
 (zA (zdT "Valley" "fogs" Z2 (dB zjm Xf))
 (zA (zdT "Valley" "haze" Z2 Zx)
 (zA (zdT "Valley" "first" Z2 Zr)
 (zA (zdT "Valley" "last" Z2 Yq)
 (zdT "Valley" "delay" Z2 XQ))))))))))))
theorem zjR:BodyOk 8 zcU zdz:=by
 rintro ds S Q ⟨S0,g,y,z,V,rfl,rfl,hg,hy,hz,ok,q⟩
 unfold zcU
 obtain⟨Sa,hSa⟩:∃ Sa:Z5,Sa=S0++[.ins "Valley" []]:=⟨_,rfl⟩
 have hya:Lst Sa y (V.bs.map Yj):=hSa▸hy.old
 have hza:Lst Sa z (V.fs.map XM):=hSa▸hz.old
 rw [<- hSa]
 walk_at "g"
 refine⟨y,z,_,_,rfl,hya,hza,by rw [qb];exact ok.b1,by rw [qb];exact ok.b12,by rw [qb];exact ok.f12,?_⟩
 walk_at "g"
 have b12:=ok.b12
 have f12:=ok.f12
 refine X4 (fun _=>true) (zim fun b=>.str b.1) hya (by rw [qb];unfold big;lia) (fun i d ys hd hw=>?_) ?_
 ·obtain⟨b,_,rfl⟩:=zeM hd
  walk_at "g"
  exact Yc hd hw rfl rfl
 rw [filter_true,zdB,show V.bs.map (fun b=>D.str b.1)=(V.bs.map (·.1)).map D.str by rw [qY];rfl,hSa]
 walk_at "g"
 refine⟨_,V.bs.map (·.1),rfl,Lst.at rfl,by rw [qb];lia,fun n hn=>?_,ok.nd,?_⟩
 ·obtain⟨b,hb,rfl⟩:=qW.mp hn
  exact ok.nm b hb
 walk_at "g"
 generalize (V.bs.map (·.1)).map D.str=nms
 refine⟨g,y,V.cs,V.bs,rfl,hg.old,ok.gr,hy.old,by lia,fun b hb=>⟨ok.st b hb,ok.bd b hb⟩,?_⟩
 walk_at "g"
 refine⟨z,V.fs,rfl,hz.old,by lia,ok.fg,?_⟩
 walk_at "g"
 refine⟨V.hz,_,_,_,rfl,ok.hh,ok.dl,ok.hz,?_⟩
 obtain⟨gn,gl,rfl,hgn,hgl⟩:=hg
 have hgn1:(S0++[.ins "Valley" [],.lst nms])[gn]?=some (.ins "Ground" [("corners",.ref gl)]):=Xe hgn
 walk_at "g"
 refine⟨_,_,V.cs,rfl,rfl,.inr ⟨gl,rfl,Xe hgl⟩,ok.gr,⟨rfl,?_⟩⟩
 rw [qp,show (S0++[Cell.ins "Valley" [],.lst nms]).length=S0.length+2 by simp,show ([Cell.ins "Valley" [],.lst nms]:Z5)++[.ins "Ground" [("corners",.ref (S0.length+2+1))],.lst (V.cs.map p2)]=[.ins "Valley" [],.lst nms,.ins "Ground" [("corners",.ref (S0.length+3))],.lst (V.cs.map p2)] from rfl]
 walk_at "g"
 refine⟨S0.length,[],rfl,Y6,by decide,?_⟩
 rw [V6,zrW]
 have hy2:∀ T,Lst (S0++T) y (V.bs.map Yj):=fun T=>hy.old
 have hz2:∀ T,Lst (S0++T) z (V.fs.map XM):=fun T=>hz.old
 walk_at "g"
 refine⟨S0.length,_,rfl,Y6,by simp,?_⟩
 rw [V6,vp2]
 walk_at "g"
 refine⟨S0.length,_,rfl,Y6,by simp,?_⟩
 rw [V6,vp3]
 walk_at "g"
 refine⟨S0.length,_,rfl,Y6,by simp,?_⟩
 rw [V6,vp4]
 walk_at "g"
 refine⟨S0.length,_,rfl,Y6,by simp,?_⟩
 rw [V6,vp5]
 walk_at "g"
 refine⟨S0.length,_,rfl,Y6,by simp,?_⟩
 rw [V6,vp6]
 walk_at "g"
 refine⟨S0.length,_,rfl,Y6,by simp,?_⟩
 rw [V6,vp7]
 refine fin_same (q _ ⟨S0.length,_,_,_,rfl,Y6,⟨_,_,rfl,(WQ _ _ 2).trans rfl,(WQ _ _ 3).trans rfl⟩,(WQ _ _ 4).trans rfl,(WQ _ _ 5).trans rfl⟩)
def zgV:ZS:=znR "Valley" zdz
def zcS:ZS:=fun ds S Q=>∃ (x y z:D) (V:Vl),ds=[vlD x y z V]/\VlS S x y z V/\YD V/\∀ (T:Z5) (v:D),Xu (S++T) v V->Q v (S++T)
abbrev zgO:DS :=
    (zA (zL Z2 (Ym 7 (Zt (zu 1) (Zt (zu 2) (Zt (zu 3) (Zt (zu 4) (Zt (zu 5) (Zt (zu 6) (Zt (zu 7) Yl)))))))))
 (zT (dCall zgV (zf (dCall zfk Yx) (zf ZQ (zf ZL (zf Zx (zf Zr (zf Yq ua7)))))))))
theorem zkM:BodyOk 8 zgO zcS:=by
 rintro ds S Q ⟨x,y,z,V,rfl,hs,ok,q⟩
 unfold zgO
 obtain⟨kx,ky,kz⟩:=hs
 walk_at "g"
 refine⟨S,_,V.cs,rfl,rfl,kx,ok.gr,⟨rfl,?_⟩⟩
 obtain⟨Sb,hSb⟩:∃ Sb:Z5,Sb=S++[.ins "Ground" [("corners",.ref (S.length+1))],.lst (V.cs.map p2)]:=⟨_,rfl⟩
 have hg:V7 Sb (.ref S.length) V.cs:=hSb▸⟨_,_,rfl,Y6,(WQ _ _ 1).trans rfl⟩
 have e1:∃ T,Sb=S++T:=⟨_,hSb⟩
 have ky1:Lst Sb y (V.bs.map Yj):=by obtain⟨T,rfl⟩:=e1;exact ky.old
 have kz1:Lst Sb z (V.fs.map XM):=by obtain⟨T,rfl⟩:=e1;exact kz.old
 rw [<- hSb]
 clear hSb
 walk_at "g"
 refine⟨Sb,_,_,_,V,rfl,rfl,hg,ky1,kz1,ok,fun T hv=>⟨rfl,?_⟩⟩
 obtain⟨T1,rfl⟩:=e1
 refine fin_same ?_
 rw [qp] at hv ⊢
 exact q _ _ hv
def zc6:Wj:=fun ds S Q ex=>∃ (v:D) (V:Vl) (n:Str),ds=[v,.str n]/\Xu S v V/\YD V/\fl 20 (.str n)=true/\((∀ b∈V.bs,b.1≠n)->ex "NoBeacon" S)/\∀ s,(n,s)∈V.bs->Q (p2 s) S
abbrev zkE (ex : XR) : DS :=
    (zA (Y5 (Zm (YS "beacons" Z2)) (zu 2) (ZJ (dT (Z7 oEq zeF Z1)) (zT (dTup (zf zdQ (zf zxu zG)))) zX))
 (zfF ex "NoBeacon"))
theorem zof:zcC 3 zkE zc6:=by
 rintro ds S Q ex ⟨v,V,n,rfl,hv,ok,hn,hx,q⟩
 unfold zkE
 obtain⟨m,g,b',f,rfl,hm,hg,hb,_⟩:=hv
 walk_at "g"
 refine YQ (fun i Z S'=>S'=S/\(∃ w,Z=[some (.ref m),some (.str n),w])/\∀ b∈V.bs.take i,b.1≠n) ⟨rfl,⟨none,rfl⟩,by simp⟩ (fun i Z S' h=>h.1▸Lst.here hb) ?_ ?_
 ·rintro i d Z S' hd ⟨rfl,⟨w,rfl⟩,hno⟩
  obtain⟨b,hbi,rfl⟩:=zeM hd
  have mb:=qe hbi
  walk_at "g"
  refine zp4 (zeT (ok.nm b mb) 20) hn ?_
  walk_at "g"
  refine ZM (fun h=>?_) (fun h=>?_)
  ·walk_at "g"
   exact fin_same (q b.2 (by rw [<- h];exact mb))
  ·walk_at "g"
   refine⟨rfl,⟨_,rfl⟩,fun c hc=>?_⟩
   rw [Wt hbi] at hc
   rcases qK.mp hc with hc | hc
   ·exact hno c hc
   ·have:c=b:=by simpa using hc
    subst this;exact h
 ·rintro Z S' ⟨rfl,⟨w,rfl⟩,hno⟩
  rw [qb,qag] at hno
  walk_at "g"
  exact hx hno
def zaK:Wj:=fun ds S Q ex=>∃ (g:D) (cs:List (Int×Int)) (s:Int×Int),ds=[g,p2 s]/\V7 S g cs/\Wi cs/\Bd 180 s.1/\Bd 200 s.2/\(¬ Wk cs s->ex "OffGround" S)/\(Wk cs s->Q .non S)
abbrev zc0 (ex:XR):DS :=
  (ZJ (WW (dT (dCall zee (zf Z2 Yx)))) (zfF ex "OffGround") zX)
theorem zfv:zcC 2 zc0 zaK:=by
 rintro ds S Q ex ⟨g,cs,s,rfl,hg,gr,b1,b2,hx,q⟩
 unfold zc0
 walk_at "g"
 refine⟨g,cs,s,rfl,hg,gr,b1,b2,fun b hb=>?_⟩
 cases b with
 | true=>walk_at "g";exact fin_same (q (hb.mp rfl))
 | false=>walk_at "g";exact hx fun z=>(by have:=hb.mpr z;cases this)
def zbO:ZS:=fun ds S Q=>∃ (g:D) (cs:List (Int×Int)) (x y:Int),ds=[g,.int x,.int y]/\V7 S g cs/\cs.length<=40/\New Q S ((V2 cs x y cs.length).map D.int)
abbrev zeo:DS :=
    (zA (zL (dB zd0 (zf Z1 Yy)) (zu 3))
 (zA (zL (dB Wu (zf Z1 Yy)) (zu 4))
 (zT (YX 2 [3,4] (zf8 (zf (YS "corners" Z2) zG)) (Ym 2 (Zt (zu 0) (Zt (zu 1) Yl))) (dT (zhc oLt oLt ZQ VP ZL)) Z2))))
theorem zg7:BodyOk 5 zeo zbO:=by
 rintro ds S Q ⟨g,cs,x,y,rfl,⟨n,l,rfl,hn,hl⟩,h40,q⟩
 unfold zeo
 walk_at "g"
 refine zlK (xs:=cs.map p2) (Lst.here hl) ?_
 refine⟨by rw [zbr,qb];unfold big;lia,fun i ys S'=>S'=S/\ys=(V2 cs x y i).map D.int,⟨rfl,rfl⟩,fun i ys S' zq3=>by obtain⟨e,_⟩:=zq3;exact e▸Lst.here hl,?_,?_⟩
 ·rintro i d ys S' hd ⟨rfl,rfl⟩
  obtain⟨u,hu,rfl⟩:=zb8 hd
  obtain⟨c,hc,rfl⟩:=zdr hu
  have e0:((0+i:Nat):Int)=(i:Int):=by lia
  have eg:cs.getD i (0,0)=c:=by rw [qD,hc];rfl
  rw [e0]
  walk_at "g"
  refine ZM (fun g1=>?_) (fun g1=>?_)
  ·walk_at "g"
   refine ZM (fun g2=>?_) (fun g2=>?_)
   ·walk_at "g"
    exact⟨rfl,(zxB (by unfold nbP;rw [eg,decide_eq_true g1,decide_eq_true g2];rfl)).symm⟩
   ·walk_at "g"
    exact⟨rfl,by rw [zsA (by unfold nbP;rw [eg,decide_eq_false g2,Bool.and_false])]⟩
  ·walk_at "g"
   exact⟨rfl,by rw [zsA (by unfold nbP;rw [eg,decide_eq_false g1,Bool.false_and])]⟩
 ·rintro ys S' ⟨rfl,rfl⟩
  rw [zbr,qb]
  exact fin_same q
def zes:ZS:=fun ds S Q=>∃ (a b c:Int×Int),ds=[p2 a,p2 b,p2 c]/\YJ (c.2-a.2) (b.1-a.1)/\YJ (c.1-a.1) (b.2-a.2)/\Q (.int (sdI a b c)) S
abbrev zkJ:DS :=
    (zA (zL (Z7 Zq VP Yt) (zu 3))
 (zA (zL (Z7 Zq zdU Xv) (zu 4))
 (zA (zL (Z7 Zq (Z7 Yu (Z7 Zq zdQ Xv) ZL) (Z7 Yu (Z7 Zq zeF Yt) Zx)) (zu 5))
 (zA (sJ (ZJ (dT (Z7 oLt ZL Zw)) (zL (Yh Yi Zr) (zu 5)) zX))
 (zA (ZJ (dT (Z7 Xa Zr Zw)) (zT ZD) zX)
 (zA (ZJ (dT (Z7 oLt Zr Zw)) (zT (Yh Yi ZD)) zX)
 (zT Zw)))))))
theorem zom:BodyOk 6 zkJ zes:=by
 rintro ds S Q ⟨a,b,c,rfl,c1,c2,q⟩
 unfold zkJ
 walk_at "g"
 unfold sdI at q
 have key:∀ o:Int,o=(if b.1-a.1<0 then -sdO a b c else sdO a b c)->(if 0<o then Q (.int 1) S else if o<0 then Q (.int (-1)) S else Q (.int 0) S):=fun o e=>by
  rw [<- e] at q
  by_cases h:0<o
  ·rw [if_pos h] at q ⊢;exact q
  ·rw [if_neg h] at q ⊢
   by_cases h2:o<0
   ·rw [if_pos h2] at q ⊢;exact q
   ·rw [if_neg h2] at q ⊢;exact q
 refine r_J (fun Z S'=>S'=S/\Z=[some (p2 a),some (p2 b),some (p2 c),some (.int (b.1-a.1)),some (.int (b.2-a.2)),some (.int (if b.1-a.1<0 then -sdO a b c else sdO a b c))]) ?_ ?_
 ·walk_at "g"
  refine ZM (fun g=>?_) (fun g=>?_)
  ·walk_at "g"
   exact⟨rfl,by rw [if_pos g];rfl⟩
  ·walk_at "g"
   exact⟨rfl,by rw [if_neg g];rfl⟩
 rintro Z S' ⟨rfl,rfl⟩
 have k:=key _ rfl
 generalize (if b.1-a.1<0 then -sdO a b c else sdO a b c)=o at k
 walk_at "g"
 refine ZM (fun g=>?_) (fun g=>?_)
 ·rw [if_pos g] at k
  walk_at "g"
  exact fin_same k
 ·rw [if_neg g] at k
  walk_at "g"
  refine ZM (fun g2=>?_) (fun g2=>?_)
  ·rw [if_pos g2] at k
   walk_at "g"
   exact fin_same k
  ·rw [if_neg g2] at k
   walk_at "g"
   exact fin_same k
def ze8:Wj:=fun ds S Q ex=>∃ (g:D) (cs:List (Int×Int)) (a b:Int×Int),ds=[g,p2 a,p2 b]/\V7 S g cs/\Wi cs/\(Bd 180 a.1/\Bd 200 a.2)/\(Bd 180 b.1/\Bd 200 b.2)/\(¬ (Wk cs a/\Wk cs b)->ex "OffGround" S)/\(Wk cs a->Wk cs b->Q (Y7 (zjP cs a b)) S)
abbrev zlB (ex : XR) : DS :=
    (zA (Zd (zb4 zaK ex (zf Z2 Yx)))
 (zA (Zd (zb4 zaK ex (zf Z2 Yy)))
 (zA (Y5 (Zm (dCall zbO (zf Z2 (zf VP (zf zeF zG))))) (zu 3) (ZJ (dT (Z7 Xa (dCall zes (zf Z1 (zf ZQ (zf (Z7 ZW (YS "corners" Z2) ZL) zG)))) Zw)) (zT ZL) zX))
 (zT (dC .non)))))
theorem zqf:zcC 4 zlB ze8:=by
 rintro ds S Q ex ⟨g,cs,a,b,rfl,hg,gr,ba,bb,hx,q⟩
 unfold zlB
 walk_at "g"
 refine⟨g,cs,a,rfl,hg,gr,ba.1,ba.2,fun z=>hx fun y=>z y.1,fun za=>?_⟩
 walk_at "g"
 refine⟨g,cs,b,rfl,hg,gr,bb.1,bb.2,fun z=>hx fun y=>z y.2,fun zb=>?_⟩
 have sa:=Std.of ba.1 ba.2 za
 have sb:=Std.of bb.1 bb.2 zb
 have q:=q za zb
 walk_at "g"
 refine⟨g,cs,_,_,rfl,hg,gr.most,?_⟩
 have kl:∀ k∈V2 cs a.1 b.1 cs.length,0<=k/\k<cs.length:=fun k hk=>zvX hk
 unfold zjP at q
 generalize V2 cs a.1 b.1 cs.length=ks at q kl
 unfold New
 walk_at "g"
 refine YQ (fun i Z S'=>∃ w1,Z=[some g,some (p2 a),some (p2 b),w1]/\S'=S++[.lst (ks.map D.int)]/\∀ x∈ks.take i,zoX cs a b x=false) ⟨none,rfl,rfl,by simp⟩ (fun i Z S' zq4=>by obtain⟨w1,_,e,_⟩:=zq4;exact e▸Lst.at0) ?_ ?_
 ·rintro i d Z S' hd ⟨w1,rfl,rfl,hn⟩
  obtain⟨k,hk,rfl⟩:=zdO hd
  obtain⟨k0,k1⟩:=kl k (qe hk)
  obtain⟨c,hc,ac⟩:=zk1 (cs:=cs) k0 k1
  have eg:cs.getD k.toNat (0,0)=c:=by rw [qD,hc];rfl
  obtain⟨bc1,bc2⟩:=gr.bd c (qe hc)
  obtain⟨n,l,rfl,hgn,hgl⟩:=hg.old (T:=[.lst (ks.map D.int)])
  walk_at "g"
  refine⟨a,b,c,rfl,.inl ⟨(Bd.sub (bc2.mono (by decide:(190:Nat)<=200)) sa.2.1).mono (by decide),(Bd.sub sb.1 sa.1).mono (by decide)⟩,.inl ⟨(Bd.sub (bc1.mono (by decide:(170:Nat)<=180)) sa.1).mono (by decide),(Bd.sub sb.2.1 sa.2.1).mono (by decide)⟩,?_⟩
  walk_at "g"
  refine ZM (fun g1=>?_) (fun g1=>?_)
  ·walk_at "g"
   rw [znv hk hn (by unfold zoX;rw [eg];exact decide_eq_true g1)] at q
   exact Yz rfl q
  ·walk_at "g"
   refine⟨_,rfl,rfl,fun x hx=>?_⟩
   rw [Wt hk] at hx
   rcases qK.mp hx with hx | hx
   ·exact hn x hx
   ·have:x=k:=by simpa using hx
    subst this
    unfold zoX;rw [eg];exact decide_eq_false g1
 ·rintro Z S' ⟨w1,rfl,rfl,hn⟩
  rw [qb,qag] at hn
  rw [zsX hn] at q
  walk_at "g"
  exact Yz rfl q
def zbU:ZS:=fun ds S Q=>∃ (a b:Int×Int),ds=[p2 a,p2 b]/\(Bd 180 a.1/\Bd 200 a.2)/\(Bd 180 b.1/\Bd 200 b.2)/\Q (.int (sqr a b)) S
abbrev ze5:DS :=
    (zA (zL (Z7 Zq VP Yt) (zu 2))
 (zA (zL (Z7 Zq zdU Xv) (zu 3))
 (zT (Z7 Zy (Z7 Yu ZQ ZQ) (Z7 Yu ZL ZL)))))
theorem zhI:BodyOk 4 ze5 zbU:=by
 rintro ds S Q ⟨a,b,rfl,⟨a1,a2⟩,⟨b1,b2⟩,q⟩
 unfold ze5
 have c1:Bd 8000 (b.1-a.1):=(Bd.sub b1 a1).mono (by decide)
 have c2:Bd 8000 (b.2-a.2):=(Bd.sub b2 a2).mono (by decide)
 have m1:YJ (b.1-a.1) (b.1-a.1):=.inl ⟨c1,c1⟩
 have m2:YJ (b.2-a.2) (b.2-a.2):=.inl ⟨c2,c2⟩
 walk_at "g"
 exact fin_same q
def zcb:ZS:=fun ds S Q=>∃ (v:D) (V:Vl) (a b:Int×Int),ds=[v,p2 a,p2 b]/\Xu S v V/\YD V/\((Bd 180 a.1/\Bd 200 a.2)/\Wk V.cs a)/\((Bd 180 b.1/\Bd 200 b.2)/\Wk V.cs b)/\Q (zhw V a b) S
abbrev zfi:DS :=
    (zA (zL (zb4 ze8 xF (zf (YS "ground" Z2) (zf Z1 Yy))) (zu 3))
 (zA (ZJ (dT (Z7 zfu ZL (dC .non))) (zT (dTup (zf (dC (.str "ground")) Xf))) zX)
 (zA (zL (dCall zbU (zf Z1 Yy)) (zu 4))
 (zA (ZJ (zdH (dT (Z7 zfu (YS "haze" Z2) (dC .non))) (dT (Z7 Xa Zx (YS "haze" Z2)))) (zT (dTup (zf (dC (.str "haze")) ua4))) zX)
 (zT (dC .non))))))
theorem zix:BodyOk 5 zfi zcb:=by
 rintro ds S Q ⟨v,V,a,b,rfl,hv,ok,⟨ba,sa⟩,⟨bb,sb⟩,q⟩
 unfold zfi
 obtain⟨n,g,bb',f,rfl,hn,hg,_,_⟩:=hv
 walk_at "g"
 refine⟨_,V.cs,a,b,rfl,hg,ok.gr,ba,bb,fun no=>(no ⟨sa,sb⟩).elim,fun _ _=>?_⟩
 unfold zhw at q
 cases e:zjP V.cs a b with
 | some k =>
  rw [e] at q
  unfold Y7
  walk_at "g"
  exact fin_same q
 | none =>
  rw [e] at q
  unfold Y7
  walk_at "g"
  refine⟨a,b,rfl,ba,bb,?_⟩
  dsimp only at q
  have hn':S[n]?=some (.ins "Valley" (vF (.ref g) (.ref bb') (.ref f) (Y7 V.hz) (.int V.h0) (.int V.h1) (.int V.dl))):=hn
  generalize sqr a b=sq at q
  generalize V.hz=hz at q hn'
  cases hz with
  | none =>
   have q2:Q .non S:=q
   unfold Y7 at hn'
   walk_at "g"
   exact fin_same q2
  | some z =>
   have q2:Q (if decide (z<sq)=true then .tup [.str "haze",.int sq] else .non) S:=q
   unfold Y7 at hn'
   walk_at "g"
   refine ZM (fun h=>?_) (fun h=>?_)
   ·rw [if_pos (decide_eq_true h)] at q2
    walk_at "g"
    exact fin_same q2
   ·rw [if_neg (by rw [decide_eq_false h];decide)] at q2
    walk_at "g"
    exact fin_same q2
def zeU:ZS:=fun ds S Q=>∃ (F:Fg) (h:Int),ds=[XM F,.int h]/\YJ F.g h/\YJ F.s h/\Q (.tup [.int (F.x0+F.g*h),.int (F.x1+F.g*h),.int (F.z0+F.s*h),.int (F.z1+F.s*h)]) S
abbrev znl:DS :=
    (zA (zL (Z7 Yu zyv Z1) (zu 2))
 (zA (zL (Z7 Yu zx8 Z1) (zu 3))
 (zT (dTup (zf (Z7 Zy Yt ZQ) (zf (Z7 Zy Xv ZQ) (zf (Z7 Zy ze9 ZL) (zf (Z7 Zy zer ZL) zG))))))))
theorem zr8:BodyOk 4 znl zeU:=by
 rintro ds S Q ⟨F,h,rfl,c1,c2,q⟩
 unfold znl
 walk_at "g"
 exact fin_same q
def zdb:ZS:=fun ds S Q=>∃ (L R B T x1 z1 x2 z2:Int),ds=[.tup [.int L,.int R,.int B,.int T],.tup [.int x1,.int z1],.tup [.int x2,.int z2]]/\Bd 1000 L/\Bd 1000 R/\Bd 1000 B/\Bd 1000 T/\Bd 1000 x1/\Bd 1000 z1/\Bd 1000 x2/\Bd 1000 z2 /\
 ∀ (ca cb:Cell) (mx mn:Int),mx∈Zj L R B T x1 z1 x2 z2->(∀ a∈Zj L R B T x1 z1 x2 z2,a<=mx)->mn∈Zj L R B T x1 z1 x2 z2->(∀ a∈Zj L R B T x1 z1 x2 z2,mn<=a)->Q (.ref (S.length+2)) (S++[ca,cb,.lst ((six L R B T x1 z1 x2 z2 mx mn).map D.int)])
abbrev zkv:DS :=
    (zA (zL (Z7 Zq zeF VP) (zu 3))
 (zA (zL (Z7 Zq zdQ zdU) (zu 4))
 (zA (zL (Xx (zf (dTup (zf Yt (zf ze9 zG))) (zf (dTup (zf Yt (zf zer zG))) (zf (dTup (zf Xv (zf ze9 zG))) (zf (dTup (zf Xv (zf zer zG))) zG))))) (zu 5))
 (zA (zL (YX 2 [3,1,4] (Zm Zr) (Ym 2 (Zt (zu 0) (Zt (zu 1) Yl))) Yv (Z7 Zq (Z7 Yu ZQ (Z7 Zq Z1 zyg)) (Z7 Yu Zx (Z7 Zq Z2 zxo)))) (zu 6))
 (zT (Xx (zf (Z7 Zq (dB Wu (zf VP (zf zeF zG))) Yt) (zf (Z7 Zq Xv (dB zd0 (zf VP (zf zeF zG)))) (zf (Z7 Zq (dB Wu (zf zdU (zf zdQ zG))) ze9) (zf (Z7 Zq zer (dB zd0 (zf zdU (zf zdQ zG)))) (zf (dB znU ua6) (zf (Yh Yi (dB znO ua6)) zG))))))))))))
theorem zoC:BodyOk 7 zkv zdb:=by
 rintro ds S Q ⟨L,R,B,T,x1,z1,x2,z2,rfl,bL,bR,bB,bT,b1,b2,b3,b4,q⟩
 unfold zkv
 walk_at "g"
 refine X4 (fun _=>true) (on2 fun c=>.int ((x2-x1)*(c.2-z1)-(z2-z1)*(c.1-x1))) (by walk_at "l") (qak rfl) (fun i d ys hd hw=>?_) ?_
 ·obtain⟨c,hc,rfl⟩:=zdr (cs:=[(L,B),(L,T),(R,B),(R,T)]) hd
  have hm:=qe hc
  have hb:Bd 1000 c.1/\Bd 1000 c.2:=by
   simp only [qg,qH,or_false] at hm
   rcases hm with rfl | rfl | rfl | rfl
   ·exact⟨bL,bB⟩
   ·exact⟨bL,bT⟩
   ·exact⟨bR,bB⟩
   ·exact⟨bR,bT⟩
  have hb1:=hb.1
  have hb2:=hb.2
  have c1:YJ (x2-x1) (c.2-z1):=.inl ⟨(Bd.sub b3 b1).mono (by decide),(Bd.sub hb2 b2).mono (by decide)⟩
  have c2:YJ (z2-z1) (c.1-x1):=.inl ⟨(Bd.sub b4 b2).mono (by decide),(Bd.sub hb1 b1).mono (by decide)⟩
  walk_at "g"
  exact Yc hd hw rfl rfl
 rw [filter_true]
 show New _ _ ((Zj L R B T x1 z1 x2 z2).map D.int)
 walk_at "g"
 refine zvi (ns:=Zj L R B T x1 z1 x2 z2) (by walk_at "l") (qak rfl) fun mx m1 m2=>?_
 walk_at "g"
 refine zuR (ns:=Zj L R B T x1 z1 x2 z2) (by walk_at "l") (qak rfl) fun mn n1 n2=>?_
 walk_at "g"
 exact fin_same (q _ _ mx mn m1 m2 n1 n2)
def zdG:ZS:=fun ds S Q=>∃ (x:D) (cs:List (Int×Int)),ds=[x]/\V1 S x (cs.map p2)/\cs.length<=4000/\(cs.filter V9).length<64 /\
 ∀ ms:List (Int×Int),Zn ms->(∀ h,ms.any (Zu h)=cs.any (Zu h))->ms.length<=(cs.filter V9).length->Q (.tup (ms.map p2)) S
theorem zoS {ss:List (Int×Int)}(srt:ss.Pairwise fun a b=>zh8 b a=false){i:Nat}{c d:Int×Int}(hc:ss[i]?=some c)(hd:d∈ss.take i):d.1<=c.1:=by
 obtain⟨j,hj,e⟩:=qT.mp hd
 rw [qab] at hj
 rw [List.getElem_take] at e
 have hi:=zW hc
 rw [qc hi] at hc
 cases hc
 subst e
 exact zu0 (qae.mp srt j i (by lia) hi (by lia))
theorem zgs {ss:List (Int×Int)}{i:Nat}{c:Int×Int}(hc:ss[i]?=some c)(h:Int):(ss.take (i+1)).any (Zu h)=((ss.take i).any (Zu h)||Zu h c):=by
 rw [Wt hc,qa2];simp
theorem zsD {α:Type}{l:List α}(h:0<l.length):∃ i x,l=i++[x]:=by
 have:l≠[]:=fun e=>by rw [e] at h;cases h
 exact⟨l.dropLast,l.getLast this,(qaH this).symm⟩
abbrev zqp:DS :=
    (zA (zL (Xx zG) (zu 1))
 (zA (Y5 (Zm (dB zn5 (zf (YX 1 [] (Zm Z2) (zu 0) (dT (Z7 oLe Yt Xv)) (dTup (zf Yt (zf Xv zG)))) zG))) (Ym 2 (Zt (zu 2) (Zt (zu 3) Yl))) (ZJ (zdH (dT (Z7 Xa (dB YK Yx) Zw)) (dT (Z7 oLe ZQ (Z7 Zy (Z7 ZW (Z7 ZW Z1 (Yh Yi ZD)) ZD) ZD)))) (zL (dTup (zf (Z7 ZW (Z7 ZW Z1 (Yh Yi ZD)) Zw) (zf (dB Wu (zf (Z7 ZW (Z7 ZW Z1 (Yh Yi ZD)) ZD) Xf)) zG))) (zgm Z1 (Yh Yi ZD))) (Zd (dM zcD Z1 (zf (dTup (zf ZQ Xf)) zG)))))
 (zT (dB zfL Yx))))
theorem zsZ:BodyOk 4 zqp zdG:=by
 rintro ds S Q ⟨x,cs,rfl,hx,hcl,hfl,q⟩
 unfold zqp
 walk_at "g"
 refine zvS (xs:=cs.map p2) hx.old fun ok hok=>?_
 refine X4 (zuE V9) (on2 p2) (by have:=hok [];rwa [qU] at this) ?_ (fun i d ys hd hw=>?_) ?_
 ·rw [qb];unfold big;lia
 ·obtain⟨c,hc,rfl⟩:=zdr hd
  walk_at "g"
  refine ZM (fun g=>?_) (fun g=>?_)
  ·walk_at "g"
   exact Yc hd hw (decide_eq_true g) rfl
  ·walk_at "g"
   exact zsN hd hw (decide_eq_false g)
 rw [zrU,ztv]
 walk_at "g"
 refine ztI (cs:=cs.filter V9) (Lst.at rfl) hfl fun ss perm srt=>?_
 have hsl:ss.length=(cs.filter V9).length:=perm.length_eq
 have hsle:∀ c∈ss,c.1<=c.2:=fun c hc=>of_decide_eq_true (Wc.mp (perm.mem_iff.mp hc)).2
 walk_at "g"
 refine YQ (fun i Z S'=>∃ (ms:List (Int×Int)) (w1 w2:Option D),Z=[some x,some (.ref S.length),w1,w2]/\S'=S++[.lst (ms.map p2),.lst ((cs.filter V9).map p2),.lst (ss.map p2)]/\Zn ms/\ms.length<=i /\
  (∀ h,ms.any (Zu h)=(ss.take i).any (Zu h))/\∀ m∈ms,∃ d∈ss.take i,m.1=d.1)
  ⟨[],none,none,rfl,rfl,Zn.nil,qf _,fun h=>rfl,by simp⟩ (fun i Z S' zq5=>by obtain⟨ms,w1,w2,_,e,_⟩:=zq5;exact e▸Lst.at rfl) ?_ ?_
 ·rintro i d Z S' hd ⟨ms,w1,w2,rfl,rfl,ok,hml,hany,hlow⟩
  obtain⟨c,hc,rfl⟩:=zdr hd
  have hil:=zW hc
  have hcle:=hsle c (qe hc)
  have low:∀ m∈ms,m.1<=c.1:=fun m hm=>by
   obtain⟨d,hd,e⟩:=hlow m hm
   rw [e]
   exact zoS srt hc hd
  have hlow':∀ m,(∃ d∈ss.take i,m=d.1)->∃ d∈ss.take (i+1),m=d.1:=fun m zq6=>by obtain⟨d,hd,e⟩:=zq6;exact⟨d,by rw [Wt hc];exact qaz _ hd,e⟩
  have hnew:∃ d∈ss.take (i+1),c.1=d.1:=⟨c,by rw [Wt hc];simp,rfl⟩
  have app:(∀ m∈ms,m.2+2<=c.1)->∃ (ms':List (Int×Int)) (w1 w2:Option D),([some x,some (.ref S.length),some (.int c.1),some (.int c.2)]:ZP)=[some x,some (.ref S.length),w1,w2]/\S++[Cell.lst (ms.map p2++[p2 c]),.lst ((cs.filter V9).map p2),.lst (ss.map p2)]=S++[.lst (ms'.map p2),.lst ((cs.filter V9).map p2),.lst (ss.map p2)]/\Zn ms'/\ms'.length<=i+1 /\
    (∀ h,ms'.any (Zu h)=(ss.take (i+1)).any (Zu h))/\∀ m∈ms',∃ d∈ss.take (i+1),m.1=d.1:=fun ap=>by
   refine⟨ms++[c],_,_,rfl,by rw [qC];rfl,ok.snoc hcle ap,by rw [qh];exact Nat.succ_le_succ hml,fun h=>by rw [qa2,hany h,zgs hc];simp,fun y hy=>?_⟩
   rcases qK.mp hy with hy | hy
   ·exact hlow' _ (hlow y hy)
   ·have:y=c:=by simpa using hy
    subst this
    exact hnew
  walk_at "g"
  rw [qb]
  refine ZM (fun h0=>?_) (fun h0=>?_)
  ·obtain⟨ms0,m,rfl⟩:=zsD (l:=ms) (by lia)
   have hm1:=low m (by simp)
   have am:Y8 (List.map p2 (ms0++[m])) (-1)=some (p2 m):=by rw [qC];exact zit
   have im:X5 (List.map p2 (ms0++[m])).length (-1)=some (ms0.map p2).length:=by rw [qC];exact zlc
   walk_at "g"
   refine ZM (fun h1=>?_) (fun h1=>?_)
   ·walk_at "g"
    refine zga Y6 im ?_
    walk_at "g"
    obtain⟨ok2,any2⟩:=zr2 ok hcle hm1 h1
    refine⟨ms0++[(m.1,max m.2 c.2)],_,_,rfl,?_,ok2,by rw [qh] at hml ⊢;exact Nat.le_succ_of_le hml,fun h=>by rw [any2 h,hany h,zgs hc],fun y hy=>?_⟩
    ·rw [qC,qC,qaL _ _ (qf _),qav];rfl
    ·rcases qK.mp hy with hy | hy
     ·exact hlow' _ (hlow y (qaz _ hy))
     ·have:y=(m.1,max m.2 c.2):=by simpa using hy
      subst this
      exact hlow' _ (hlow m (by simp))
   ·walk_at "g"
    obtain⟨ok0,hmle,hap⟩:=ok.init
    exact app fun y hy=>by
     rcases qK.mp hy with hy | hy
     ·have:=hap y hy
      lia
     ·have:y=m:=by simpa using hy
      subst this
      lia
  ·have em:ms=[]:=qad.mp (by lia)
   walk_at "g"
   exact app (by rw [em];simp)
 ·rintro Z S' ⟨ms,w1,w2,rfl,rfl,ok,hml,hany,hlow⟩
  rw [qb] at hml hany
  walk_at "g"
  exact Yz (zhm ms) (q ms ok (fun h=>by rw [hany h,qag,zri perm,show cs.filter V9=cs.filter (fun c=>decide (c.1<=c.2)) from rfl,any_filter]) (by lia))
def zfS:ZS:=fun ds S Q=>∃ (F:Fg) (px pz qx qz:Int),ds=[XM F,.tup [.int px,.int pz],.tup [.int qx,.int qz]]/\FgB F/\Bd 600 px/\Bd 600 pz/\Bd 600 qx/\Bd 600 qz/\∀ ms:List (Int×Int),zsw ms F px pz qx qz->Q (.tup (ms.map p2)) S
abbrev zm2:DS :=
    (zA (zL Zw (zu 3))
 (zA (zL (Z7 Zq zst zkZ) (zu 4))
 (zA (zL (dCall zdb (zf (dCall zeU (zf Z2 (zf Zw zG))) (zf Z1 Yy))) (zu 5))
 (zA (zL (dCall zdb (zf (dCall zeU (zf Z2 (zf ZD zG))) (zf Z1 Yy))) (zu 6))
 (zA (Y5 (znW (zf Zr ua6)) (Ym 2 (Zt (zu 7) (Zt (zu 8) Yl))) (zA (zL (Z7 Zq Wz XQ) (zu 9))
 (ZJ (dT (Z7 Xa vr9 Zw)) (zL (dB Wu (zf ZL (zf (Yh Yi (Z7 oDiv XQ vr9)) zG))) (zu 3)) (ZJ (dT (Z7 oLt vr9 Zw)) (zL (dB zd0 (zf Zx (zf (Z7 oDiv XQ (Yh Yi vr9)) zG))) (zu 4)) (ZJ (dT (Z7 oLt XQ Zw)) (zT (dTup zG)) zX)))))
 (zT (dCall zdG (zf (Xx (zf (dTup (zf (Z7 Zy zkZ ZL) (zf (Z7 Zy zkZ Zx) zG))) zG)) zG))))))))
theorem zrf:BodyOk 10 zm2 zfS:=by
  rintro ds S Q ⟨F,px,pz,qx,qz,rfl,B,bpx,bpz,bqx,bqz,q⟩
  unfold zm2
  have bmv:∀ {x y c:Int},Bd 600 x->Bd 200 y->(c=0\/c=1)->Bd 700 (x+y*c):=fun {x y c} hx hy hc=>(Bd.add (n:=600) hx (by
    rcases hc with rfl | rfl
    . rw [qaE];exact Bd.lit (by decide) (by decide)
    . rw [Wn];exact hy.mono (by decide))).mono (by decide)
  have cs:∀ {y c:Int},(c=0\/c=1)->YJ y c:=fun hc=>.inr (.inr (by rcases hc with rfl | rfl<;>decide))
  walk_at "g"
  refine⟨F,0,rfl,cs (.inl rfl),cs (.inl rfl),?_⟩
  walk_at "g"
  refine⟨_,_,_,_,px,pz,qx,qz,rfl,(bmv B.b0 B.bg (.inl rfl)).mono (by decide),(bmv B.b1 B.bg (.inl rfl)).mono (by decide),(bmv B.b2 B.bs (.inl rfl)).mono (by decide),(bmv B.b3 B.bs (.inl rfl)).mono (by decide),bpx.mono (by decide),bpz.mono (by decide),bqx.mono (by decide),bqz.mono (by decide),fun ca cb mx mn m1 m2 n1 n2=>?_⟩
  walk_at "g"
  refine⟨F,1,rfl,cs (.inr rfl),cs (.inr rfl),?_⟩
  walk_at "g"
  refine⟨_,_,_,_,px,pz,qx,qz,rfl,(bmv B.b0 B.bg (.inr rfl)).mono (by decide),(bmv B.b1 B.bg (.inr rfl)).mono (by decide),(bmv B.b2 B.bs (.inr rfl)).mono (by decide),(bmv B.b3 B.bs (.inr rfl)).mono (by decide),bpx.mono (by decide),bpz.mono (by decide),bqx.mono (by decide),bqz.mono (by decide),fun ca' cb' mx' mn' m1' m2' n1' n2'=>?_⟩
  have mm:∀ k,_↔_:=fun k=>zqa (k:=k) m1 m2 n1 n2 m1' m2' n1' n2'
  have sb:=zpU (bmv B.b0 B.bg (.inl rfl)) (bmv B.b1 B.bg (.inl rfl)) (bmv B.b2 B.bs (.inl rfl)) (bmv B.b3 B.bs (.inl rfl)) (bpx.mono (by decide)) (bpz.mono (by decide)) (bqx.mono (by decide)) (bqz.mono (by decide)) m1 n1
  have ab:=zpU (bmv B.b0 B.bg (.inr rfl)) (bmv B.b1 B.bg (.inr rfl)) (bmv B.b2 B.bs (.inr rfl)) (bmv B.b3 B.bs (.inr rfl)) (bpx.mono (by decide)) (bpz.mono (by decide)) (bqx.mono (by decide)) (bqz.mono (by decide)) m1' n1'
  have l1:(six (F.x0+F.g*0) (F.x1+F.g*0) (F.z0+F.s*0) (F.z1+F.s*0) px pz qx qz mx mn).length=6:=rfl
  have l2:(six (F.x0+F.g*1) (F.x1+F.g*1) (F.z0+F.s*1) (F.z1+F.s*1) px pz qx qz mx' mn').length=6:=rfl
  generalize six (F.x0+F.g*0) (F.x1+F.g*0) (F.z0+F.s*0) (F.z1+F.s*0) px pz qx qz mx mn=A at *
  generalize six (F.x0+F.g*1) (F.x1+F.g*1) (F.z0+F.s*1) (F.z1+F.s*1) px pz qx qz mx' mn'=A' at *
  clear m1 m2 n1 n2 m1' m2' n1' n2'
  have kA:(S++[ca,cb,Cell.lst (A.map D.int)]++[ca',cb',Cell.lst (A'.map D.int)])[S.length+2]?=some (.lst (A.map D.int)):=Xe ((WQ _ _ _).trans rfl)
  have kA':(S++[ca,cb,Cell.lst (A.map D.int)]++[ca',cb',Cell.lst (A'.map D.int)])[(S++[ca,cb,Cell.lst (A.map D.int)]).length+2]?=some (.lst (A'.map D.int)):=(WQ _ _ _).trans rfl
  have eS:S++[ca,cb,Cell.lst (A.map D.int)]++[ca',cb',Cell.lst (A'.map D.int)]=S++[ca,cb,Cell.lst (A.map D.int),ca',cb',Cell.lst (A'.map D.int)]:=by simp
  generalize (S++[ca,cb,Cell.lst (A.map D.int)]).length+2=na at *
  generalize S++[ca,cb,Cell.lst (A.map D.int)]++[ca',cb',Cell.lst (A'.map D.int)]=S1 at *
  walk_at "g"
  refine zwJ (xs:=A.map D.int) (ys:=A'.map D.int) (Lst.here kA) (Lst.here kA') ?_
  refine YQ (fun i Z S'=>S'=S1/\∃ (lo hi:Int) (w1 w2 w3:Option D),Z=[some (XM F),some (.tup [.int px,.int pz]),some (.tup [.int qx,.int qz]),some (.int lo),some (.int hi),some (.ref (S.length+2)),some (.ref na),w1,w2,w3] /\
    ∀ k,(lo<=k/\k<=hi)↔(0<=k/\k<=F.l-F.f/\∀ j,j<i->0<=A.getD j 0+k*(A'.getD j 0-A.getD j 0))) ⟨rfl,0,F.l-F.f,none,none,none,rfl,fun k=>⟨fun h=>⟨h.1,h.2,fun j hj=>absurd hj (by lia)⟩,fun h=>⟨h.1,h.2.1⟩⟩⟩ (fun i Z S' z=>z.1▸⟨Lst.here kA,Lst.here kA'⟩) ?_ ?_
  . rintro i d Z S' hd ⟨rfl,lo,hi,w1,w2,w3,rfl,hk⟩
    obtain⟨x,y,hx,hy,rfl⟩:=zeL hd
    obtain⟨sv,hs,rfl⟩:=zdO hx
    obtain⟨av,ha,rfl⟩:=zdO hy
    have es:A.getD i 0=sv:=by rw [qD,hs];rfl
    have ea:A'.getD i 0=av:=by rw [qD,ha];rfl
    have bsv:=sb sv (qe hs)
    have bav:=ab av (qe ha)
    have bst:Bd 1600 (av-sv):=(Bd.sub bav bsv).mono (by decide)
    have bst':Bd 1600 (-(av-sv)):=bst.neg
    have next:∀ {P:Int->Prop},(∀ k,P k↔0<=sv+k*(av-sv))->∀ k,((0<=k/\k<=F.l-F.f/\∀ j,j<i->0<=A.getD j 0+k*(A'.getD j 0-A.getD j 0))/\P k)↔(0<=k/\k<=F.l-F.f/\∀ j,j<i+1->0<=A.getD j 0+k*(A'.getD j 0-A.getD j 0)):=fun {P} hP k=>by
      constructor
      . rintro⟨⟨c1,c2,c3⟩,c4⟩
        refine⟨c1,c2,fun j hj=>?_⟩
        rcases qM j i with h | h
        . exact c3 j h
        . have:j=i:=by lia
          subst this
          rw [es,ea]
          exact (hP k).mp c4
      . rintro⟨c1,c2,c3⟩
        refine⟨⟨c1,c2,fun j hj=>c3 j (by lia)⟩,(hP k).mpr ?_⟩
        have:=c3 i (by lia)
        rw [es,ea] at this
        exact this
    walk_at "g"
    refine ZM (fun g1=>?_) (fun g1=>?_)
    . walk_at "g"
      refine⟨rfl,_,_,_,_,_,rfl,fun k=>?_⟩
      rw [<- next (fun k=>ztQ (S:=sv) (T:=av-sv) (k:=k) (by lia)) k,<- hk k]
      lia
    . walk_at "g"
      refine ZM (fun g2=>?_) (fun g2=>?_)
      . walk_at "g"
        refine⟨rfl,_,_,_,_,_,rfl,fun k=>?_⟩
        rw [<- next (fun k=>zpa (S:=sv) (T:=av-sv) (k:=k) (by lia)) k,<- hk k]
        lia
      . have e0:av-sv=0:=by lia
        have flat:∀ k,(0<=sv)↔0<=sv+k*(av-sv):=fun k=>by rw [e0,qaE,Int.add_zero]
        walk_at "g"
        refine ZM (fun g3=>?_) (fun g3=>?_)
        . walk_at "g"
          rw [eS]
          refine Yz (zhm []) (q [] ⟨Zn.nil,by decide,fun h=>⟨fun z=>absurd z (by simp),fun z=>?_⟩⟩)
          have:=(mm (h-F.f)).mpr ((znE (by have:=B.x;lia) (by have:=B.z;lia)).mpr z.2.2) i (by have:=zW hs;lia)
          rw [es,ea,<- flat] at this
          lia
        . walk_at "g"
          refine⟨rfl,_,_,_,_,_,rfl,fun k=>?_⟩
          rw [<- next flat k,<- hk k]
          constructor
          . intro h;exact⟨h,by lia⟩
          . intro h;exact h.1
  . rintro Z S' ⟨rfl,lo,hi,w1,w2,w3,rfl,hk⟩
    rw [zdI,qb,qb,l1,l2] at hk
    walk_at "g"
    refine⟨_,[(F.f+lo,F.f+hi)],rfl,.inr (by walk_at "l"),qak rfl,?_,fun ms ok hany hml=>?_⟩
    . exact Nat.lt_of_le_of_lt (qaM _ _) (qak rfl)
    . rw [eS,qp]
      exact Yz (zhm ms) (q ms (zrA B ok (qX hml (qaM _ _)) hany fun k=>by rw [hk k];exact and_congr_right fun _=>and_congr_right fun _=>mm k))
def zdm:ZS:=fun ds S Q=>∃ (x:D) (fs:List Fg) (px pz qx qz:Int),ds=[x,.tup [.int px,.int pz],.tup [.int qx,.int qz]]/\Lst S x (fs.map XM)/\fs.length<64/\(∀ F∈fs,FgB F)/\Bd 600 px/\Bd 600 pz/\Bd 600 qx/\Bd 600 qz /\
 ∀ ms:List (Int×Int),Zn ms->(∀ h,ms.any (Zu h)=true↔∃ F∈fs,zeJ F px pz qx qz h)->ms.length<=fs.length->Q (.tup (ms.map p2)) S
abbrev zhT:DS :=
    (zA (zL (Xx zG) (zu 3))
 (zA (Y5 (Zm Z2) (zu 4) (Zd (dM ziw ZL (zf (dCall zfS (zf Zx (zf Z1 Yy))) zG))))
 (zT (dCall zdG Xf))))
theorem zme:BodyOk 5 zhT zdm:=by
 rintro ds S Q ⟨x,fs,px,pz,qx,qz,rfl,hx,hl,hB,bpx,bpz,bqx,bqz,q⟩
 unfold zhT
 walk_at "g"
 refine YQ (fun i Z S'=>∃ (cs:List (Int×Int)) (w:Option D),Z=[some x,some (.tup [.int px,.int pz]),some (.tup [.int qx,.int qz]),some (.ref S.length),w]/\S'=S++[.lst (cs.map p2)]/\cs.length<=i/\∀ h,cs.any (Zu h)=true↔∃ F∈fs.take i,zeJ F px pz qx qz h)
  ⟨[],none,rfl,rfl,qf _,fun h=>by simp⟩ (fun i Z S' zq7=>by obtain⟨cs,w,_,e,_⟩:=zq7;exact e▸hx.old) ?_ ?_
 ·rintro i d Z S' hd ⟨cs,w,rfl,rfl,hc,hh⟩
  obtain⟨F,hF,rfl⟩:=zqq hd
  have hi:=zW hF
  walk_at "g"
  refine⟨F,px,pz,qx,qz,rfl,hB F (qe hF),bpx,bpz,bqx,bqz,fun ms hm=>?_⟩
  obtain⟨ok,hone,hat⟩:=hm
  walk_at "g"
  refine zpE (n:=S.length) Y6 (by rw [qb,qb];unfold big;lia) ?_
  walk_at "g"
  refine⟨cs++ms,_,rfl,by rw [qC],by rw [qh];lia,fun h=>?_⟩
  rw [qa2,qaC,hh,hat,Wt hF]
  constructor
  ·rintro (⟨G,hG,g⟩ | g)
   ·exact⟨G,qaz _ hG,g⟩
   ·exact⟨F,by simp,g⟩
  ·rintro⟨G,hG,g⟩
   rcases qK.mp hG with hG | hG
   ·exact .inl ⟨G,hG,g⟩
   ·have:G=F:=by simpa using hG
    subst this
    exact .inr g
 ·rintro Z S' ⟨cs,w,rfl,rfl,hc,hh⟩
  rw [qb] at hc hh
  rw [qag] at hh
  have hf:=qaM V9 cs
  walk_at "g"
  refine⟨_,cs,rfl,.inr Lst.at0,by lia,by lia,fun ms ok hany hml=>?_⟩
  exact Yz (zhm ms) (q ms ok (fun h=>by rw [hany h];exact hh h) (by lia))
def zhg:ZS:=fun ds S Q=>∃ (cs:List (Int×Int)) (lo hi:Int),ds=[.tup (cs.map p2),.int lo,.int hi]/\Zn cs/\cs.length<63 /\
 ∀ ms:List (Int×Int),Zn ms->(∀ h,lo<=h->h<=hi->ms.any (Zu h)=!(cs.any (Zu h)))->ms.length<=cs.length+1->Q (.tup (ms.map p2)) S
abbrev zpK:DS :=
    (zA (zL (Xx zG) (zu 3))
 (zA (zL Z1 (zu 4))
 (zA (Y5 (Zm Z2) (zu 5) (zA (Zd (dM zcD ZL (zf (dTup (zf Zx (zf (Z7 Zq zyi ZD) zG))) zG)))
 (zL (Z7 Zy zyo ZD) (zu 4))))
 (zA (Zd (dM zcD ZL (zf (dTup (zf Zx Yy)) zG)))
 (zT (dCall zdG Xf))))))
theorem zuq:BodyOk 6 zpK zhg:=by
  rintro ds S Q ⟨cs,lo,hi,rfl,ok,h31,q⟩
  unfold zpK
  walk_at "g"
  refine YQ (fun i Z S'=>∃ (w:Option D),Z=[some (.tup (cs.map p2)),some (.int lo),some (.int hi),some (.ref S.length),some (.int (Y0 lo (cs.take i)).2),w]/\S'=S++[.lst ((Y0 lo (cs.take i)).1.map p2)]) ⟨none,rfl,rfl⟩ (fun _ _ _ _=>True.intro) ?_ ?_
  . rintro i d Z S' hd ⟨w,rfl,rfl⟩
    obtain⟨c,hc,rfl⟩:=zdr hd
    have hi':=zW hc
    have hlim:(List.map p2 (Y0 lo (cs.take i)).1).length<big:=by
      rw [qb,zd4,qab];unfold big;lia
    walk_at "g"
    refine⟨some (p2 c),?_,?_⟩
    . rw [Wt hc,zfX];rfl
    . rw [Wt hc,zfX,qC];rfl
  . rintro Z S' ⟨w,rfl,rfl⟩
    rw [qb,qag]
    have hlim:(List.map p2 (Y0 lo cs).1).length<big:=by
      rw [qb,zd4];unfold big;lia
    have hf:=qaM V9 ((Y0 lo cs).1++[((Y0 lo cs).2,hi)])
    rw [qh,zd4] at hf
    have hf:((((Y0 lo cs).1++[((Y0 lo cs).2,hi)])).filter V9).length<=cs.length+1:=hf
    walk_at "g"
    refine⟨_,(Y0 lo cs).1++[((Y0 lo cs).2,hi)],rfl,.inr (by rw [qC];exact Lst.at0),by rw [qh,zd4];show cs.length+1<=4000;lia,by lia,fun ms okm hany hml=>?_⟩
    refine Yz (zhm ms) (q ms okm (fun h h0 h1=>?_) (by lia))
    rw [hany h,qaB,zlf h1 lo ok h0 (fun _ _ _=>trivial),<- XF]
    cases cs.any (Zu h)<;>simp
def zhu:ZS:=fun ds S Q=>∃ (as bs:List (Int×Int)),ds=[.tup (as.map p2),.tup (bs.map p2)]/\Zn as/\Zn bs/\as.length+bs.length<64 /\
 ∀ ms:List (Int×Int),Zn ms->(∀ h,ms.any (Zu h)=(as.any (Zu h)&&bs.any (Zu h)))->ms.length<=as.length+bs.length->Q (.tup (ms.map p2)) S
abbrev zqw:DS :=
    (zA (zL (Xx zG) (zu 2))
 (zA (Y5 (Zm Z2) (Ym 2 (Zt (zu 3) (Zt (zu 4) Yl))) (Y5 (Zm Z1) (Ym 2 (Zt (zu 5) (Zt (zu 6) Yl))) (Zd (dM zcD ZQ (zf (dTup (zf (dB Wu (zf ZL ua5)) (zf (dB zd0 (zf Zx ua6)) zG))) zG)))))
 (zT (dCall zdG Yy))))
theorem zuy:BodyOk 7 zqw zhu:=by
 rintro ds S Q ⟨as,bs,rfl,oka,okb,hlen,q⟩
 unfold zqw
 have hmul:as.length*bs.length<=3969:=qX (qbl (show as.length<=63 by lia) (show bs.length<=63 by lia)) (by decide)
 walk_at "g"
 refine YQ (fun i Z S'=>∃ (w1 w2 w3 w4:Option D),Z=[some (.tup (as.map p2)),some (.tup (bs.map p2)),some (.ref S.length),w1,w2,w3,w4]/\S'=S++[.lst ((Xz (as.take i) bs).map p2)]) ⟨none,none,none,none,rfl,rfl⟩ (fun _ _ _ _=>True.intro) ?_ ?_
 ·rintro i d Z S' hd ⟨w1,w2,w3,w4,rfl,rfl⟩
  obtain⟨a,ha,rfl⟩:=zdr hd
  have hi:=zW ha
  walk_at "g"
  refine YQ (fun j Z S'=>∃ (w3 w4:Option D),Z=[some (.tup (as.map p2)),some (.tup (bs.map p2)),some (.ref S.length),some (.int a.1),some (.int a.2),w3,w4]/\S'=S++[.lst ((Xz (as.take i) bs++(bs.take j).map (Yd a)).map p2)]) ⟨w3,w4,rfl,by simp⟩ (fun _ _ _ _=>True.intro) ?_ ?_
  ·rintro j d Z S' hd ⟨w3,w4,rfl,rfl⟩
   obtain⟨b,hb,rfl⟩:=zdr hd
   have hj:=zW hb
   have hlim:(List.map p2 (Xz (as.take i) bs++(bs.take j).map (Yd a))).length<big:=by
    rw [qb,qh,zjr,qb,qab,qab]
    have:min i as.length*bs.length<=as.length*bs.length:=qbl (Nat.min_le_right _ _) (qf _)
    unfold big;lia
   walk_at "g"
   refine⟨_,_,rfl,?_⟩
   have e:Xz (as.take i) bs++(bs.take (j+1)).map (Yd a)=Xz (as.take i) bs++(bs.take j).map (Yd a)++[Yd a b]:=by
    rw [Wt hb,qC,<- qp];rfl
   rw [e,qC (l₂:=[Yd a b])]
   rfl
  ·rintro Z S' ⟨w3,w4,rfl,rfl⟩
   refine⟨_,_,_,_,rfl,?_⟩
   rw [qb,qag,zmM ha]
 ·rintro Z S' ⟨w1,w2,w3,w4,rfl,rfl⟩
  rw [qb,qag]
  have hf:((Xz as bs).filter V9).length<=as.length+bs.length:=zlr oka okb
  walk_at "g"
  refine⟨_,Xz as bs,rfl,.inr Lst.at0,by rw [zjr];lia,by lia,fun ms ok hany hml=>?_⟩
  exact Yz (zhm ms) (q ms ok (fun h=>by rw [hany h,zoO]) (by lia))
def zeC:ZS:=fun ds S Q=>∃ (as bs:List (Int×Int)),ds=[.tup (as.map p2),.tup (bs.map p2)]/\Zn as/\Zn bs/\as.length+bs.length<63 /\
 ∀ ms:List (Int×Int),Zn ms->(∀ h,ms.any (Zu h)=(as.any (Zu h)&&!(bs.any (Zu h))))->ms.length<=as.length+bs.length+1->Q (.tup (ms.map p2)) S
abbrev zj5:DS :=
    (zA (ZJ (dT (Z7 oEq (dB YK Zh) Zw)) (zT (dTup zG)) zX)
 (zT (dCall zhu (zf Z2 (zf (dCall zhg (zf Z1 (zf (Z7 ZW Yt Zw) (zf (Z7 ZW (Z7 ZW Z2 (Yh Yi ZD)) ZD) zG)))) zG)))))
theorem znP:BodyOk 2 zj5 zeC:=by
 rintro ds S Q ⟨as,bs,rfl,oka,okb,hlen,q⟩
 unfold zj5
 walk_at "g"
 rw [qb]
 refine ZM (fun g=>?_) (fun g=>?_)
 ·have ea:as=[]:=qad.mp (by lia)
  subst ea
  walk_at "g"
  exact fin_same (q [] Zn.nil (fun h=>rfl) (by simp))
 ·obtain⟨c,as',rfl⟩:∃ c as',as=c::as':=by
   cases as with
   | nil=>exact absurd (by simp) g
   | cons c as'=>exact⟨c,as',rfl⟩
  obtain⟨ms0,m,em⟩:=zsD (l:=c::as') (by simp)
  have a0:Y8 (List.map p2 (c::as')) 0=some (p2 c):=zcB (i:=0) rfl
  have am:Y8 (List.map p2 (c::as')) (-1)=some (p2 m):=by rw [em,qC];exact zit
  walk_at "g"
  refine⟨bs,c.1,m.2,rfl,okb,by lia,fun gs okg hg hgl=>?_⟩
  walk_at "g"
  refine⟨c::as',gs,rfl,oka,okg,by lia,fun ms ok hany hml=>?_⟩
  refine fin_same (q ms ok (fun h=>?_) (by lia))
  rw [hany h]
  cases hA:(c::as').any (Zu h) with
  | false=>rfl
  | true =>
   obtain⟨x,hx,x1,x2⟩:=XF.mp hA
   have lo:c.1<=h:=by
    rcases qg.mp hx with rfl | hx
    ·exact x1
    ·have:=(qS.mp oka.ap).1 x hx
     have:=oka.le c (by simp)
     lia
   have hi:h<=m.2:=by
    rw [em] at hx oka
    obtain⟨_,hm,hap⟩:=oka.init
    rcases qK.mp hx with hx | hx
    ·have:=hap x hx
     lia
    ·have:x=m:=by simpa using hx
     subst this
     exact x2
   rw [hg h lo hi]
def zeY:Wj:=fun ds S Q ex=>∃ (v:D) (V:Vl) (n m:Str),ds=[v,.str n,.str m]/\Xu S v V/\YD V/\fl 20 (.str n)=true/\fl 20 (.str m)=true/\((∀ b∈V.bs,b.1≠n)\/(∀ b∈V.bs,b.1≠m)->ex "NoBeacon" S)/\∀ s t,(n,s)∈V.bs->(m,t)∈V.bs->∀ ms,zfT V n m s t ms->Q (.tup (ms.map p2)) S
abbrev zne (ex : XR) : DS :=
    (zA (zL (zb4 zc6 ex (zf Z2 Yx)) (zu 3))
 (zA (zL (zb4 zc6 ex (zf Z2 Yy)) (zu 4))
 (zA (zL (dTup (zf (dTup (zf (YS "first" Z2) (zf (YS "last" Z2) zG))) zG)) (zu 5))
 (zA (ZJ (dT (Z7 oEq Z1 ZQ)) (zT Zr) zX)
 (zA (ZJ (dT (Z7 zfu (dCall zcb (zf Z2 (zf ZL ua4))) (dC .non))) (zT (dTup zG)) zX)
 (zT (dCall zeC (zf Zr (zf (dCall zdm (zf (YS "fogs" Z2) (zf ZL ua4))) zG)))))))))
theorem zrO:zcC 6 zne zeY:=by
  rintro ds S Q ex ⟨v,V,n,m,rfl,hv,ok,hn,hm,hx,q⟩
  unfold zne
  walk_at "g"
  refine⟨v,V,n,rfl,hv,ok,hn,fun no=>hx (.inl no),fun s hs=>?_⟩
  walk_at "g"
  refine⟨v,V,m,rfl,hv,ok,hm,fun no=>hx (.inr no),fun t ht=>?_⟩
  have q':=q s t hs ht
  clear hx q
  have bs:=ok.bd _ hs
  have bt:=ok.bd _ ht
  have ss:=ok.st _ hs
  have st:=ok.st _ ht
  obtain⟨a,g,b',f,rfl,ha,hg,hb,hf⟩:=id hv
  walk_at "g"
  refine zp4 hn hm ?_
  walk_at "g"
  have one:Zn [(V.h0,V.h1)]:=by
    refine⟨fun c hc=>?_,List.pairwise_singleton _ _⟩
    have:c=(V.h0,V.h1):=by simpa using hc
    subst this;exact ok.hh
  refine ZM (fun h=>?_) (fun h=>?_)
  . walk_at "g"
    refine fin_same (q' [(V.h0,V.h1)] ⟨one,fun k=>?_,by show 1<=14;decide⟩)
    rw [XF]
    constructor
    . rintro⟨c,hc,h1,h2⟩
      have:c=(V.h0,V.h1):=by simpa using hc
      subst this
      exact⟨h1,h2,.inl h⟩
    . rintro⟨h1,h2,_⟩
      exact⟨(V.h0,V.h1),by simp,h1,h2⟩
  walk_at "g"
  refine⟨_,V,s,t,rfl,hv,ok,⟨bs,ss⟩,⟨bt,st⟩,?_⟩
  by_cases al:Alw V s t
  case neg =>
    have e:zi0 (zhw V s t)=false:=by
      cases h:zhw V s t with
      | non=>exact absurd (zkL.mp h) al
      | _=>rfl
    refine r_c (zsp ?_)
    rw [e]
    walk_at "g"
    refine fin_same (q' [] ⟨Zn.nil,fun k=>?_,by show 0<=14;decide⟩)
    constructor
    . intro z;simp at z
    . rintro⟨_,_,z | z⟩
      . exact absurd z h
      . exact absurd z.1 al
  rw [zkL.mpr al]
  walk_at "g"
  have f12:=ok.f12
  refine⟨_,V.fs,s.1,s.2,t.1,t.2,rfl,Lst.here hf,by lia,fun F hF=>(ok.fg F hF).b,bs.1.mono (by decide),bs.2.mono (by decide),bt.1.mono (by decide),bt.2.mono (by decide),fun fs fok fh fl=>?_⟩
  walk_at "g"
  refine⟨[(V.h0,V.h1)],fs,rfl,one,fok,by show 1+fs.length<63;lia,fun ms mok mh ml=>?_⟩
  refine fin_same (q' ms ⟨mok,fun k=>?_,by have:ms.length<=1+fs.length+1:=ml;lia⟩)
  rw [mh k,qG,XF]
  have e:(!fs.any (Zu k))=true↔¬ ∃ F∈V.fs,zeJ F s.1 s.2 t.1 t.2 k:=by
    rw [<- fh k]
    cases fs.any (Zu k)<;>simp
  rw [e]
  constructor
  . rintro⟨⟨c,hc,h1,h2⟩,h3⟩
    have:c=(V.h0,V.h1):=by simpa using hc
    subst this
    exact⟨h1,h2,.inr ⟨al,h3⟩⟩
  . rintro⟨h1,h2,z | z⟩
    . exact absurd z h
    . exact⟨⟨(V.h0,V.h1),by simp,h1,h2⟩,z.2⟩
def zj3 (S:Z5)(r:Nat)(V:Vl)(k:Nat):Prop:=∃ row:List (List (Int×Int)),S[r]?=some (.lst (row.map fun ms=>.tup (ms.map p2)))/\row.length=V.bs.length/\∀ (j:Nat) ms b c,row[j]?=some ms->V.bs[k]?=some b->V.bs[j]?=some c->zfT V b.1 c.1 b.2 c.2 ms
theorem zj3.old {S T:Z5}{r k:Nat}{V:Vl}(h:zj3 S r V k):zj3 (S++T) r V k:=by
 obtain⟨row,h1,h2⟩:=h
 exact⟨row,Xe h1,h2⟩
def ze6 (S:Z5)(t:D)(V:Vl):Prop:=∃ rs:List Nat,Lst S t (rs.map D.ref)/\rs.length=V.bs.length/\∀ (k r:Nat),rs[k]?=some r->zj3 S r V k
theorem ze6.old {S T:Z5}{t:D}{V:Vl}(h:ze6 S t V):ze6 (S++T) t V:=by
 obtain⟨rs,h1,h2,h3⟩:=h
 exact⟨rs,h1.old,h2,fun k r e=>(h3 k r e).old⟩
def zdd:ZS:=fun ds S Q=>∃ (v:D) (V:Vl),ds=[v]/\Xu S v V/\YD V/\∀ (T:Z5) (t:D),ze6 (S++T) t V->Q t (S++T)
abbrev zh5:DS :=
    (zA (zL (YX 1 [] (Zm (YS "beacons" Z2)) (zu 0) Yv Yt) (zu 1))
 (zT (YX 1 [1,0] (Zm Z1) (zu 0) Yv (YX 1 [2,0] (Zm Z1) (zu 0) Yv (zb4 zeY xF (zf Z1 (zf ZQ Zh)))))))
theorem zmn:BodyOk 2 zh5 zdd:=by
 rintro ds S Q ⟨v,V,rfl,hv,ok,q⟩
 unfold zh5
 have b12:=ok.b12
 obtain⟨m,g,b',f,rfl,hm,hg,hb,_⟩:=id hv
 have vo:∀ T,Xu (S++T) (.ref m) V:=fun T=>hv.old
 walk_at "g"
 refine X4 (fun _=>true) (zim fun b=>.str b.1) (Lst.here hb) (by rw [qb];unfold big;lia) (fun i d ys hd hw=>?_) ?_
 ·obtain⟨b,_,rfl⟩:=zeM hd
  walk_at "g"
  exact Yc hd hw rfl rfl
 rw [filter_true,zdB,show V.bs.map (fun b=>D.str b.1)=(V.bs.map (·.1)).map D.str by rw [qY];rfl]
 unfold New
 obtain⟨S1,hS1⟩:∃ S1:Z5,S1=S++[Cell.lst ((V.bs.map (·.1)).map D.str)]:=⟨_,rfl⟩
 have kn:∀ T,Lst (S1++T) (.ref S.length) ((V.bs.map (·.1)).map D.str):=fun T=>hS1▸Lst.old Lst.at0
 have kn0:Lst S1 (.ref S.length) ((V.bs.map (·.1)).map D.str):=hS1▸Lst.at0
 have v1:∀ T,Xu (S1++T) (.ref m) V:=fun T=>hS1▸(vo _).old
 have x1:∃ T,S1=S++T:=⟨_,hS1⟩
 rw [<- hS1]
 clear hS1
 generalize S.length=nn at kn kn0
 walk_at "g"
 refine zsh (fun i ys S'=>∃ (T:Z5) (rs:List Nat),S'=S1++T/\ys=rs.map D.ref/\rs.length=i/\∀ (k r:Nat),rs[k]?=some r->zj3 S' r V k) ⟨[],[],by simp,rfl,rfl,fun k r h=>by simp at h⟩ (fun i ys S' zq8=>by obtain⟨T,_,e,_⟩:=zq8;exact e▸kn _) (by rw [qb,qb];unfold big;lia) ?_ ?_
 ·rintro i d ys S' hd ⟨T,rs,rfl,rfl,hl,hr⟩
  obtain⟨z,hz,rfl⟩:=zjV hd
  have hk:∃ b,V.bs[i]?=some b/\b.1=z:=by
   rw [qi] at hz
   cases e:V.bs[i]? with
   | none=>rw [e] at hz;cases hz
   | some b=>rw [e] at hz;exact⟨b,rfl,qA hz⟩
  obtain⟨b,hb,rfl⟩:=hk
  have kn1:=kn T
  walk_at "g"
  have fl1:∀ b∈V.bs,fl 20 (.str b.1)=true:=fun b hb=>zeT (ok.nm b hb) 20
  have mb:=qe hb
  refine zsh (fun j ys S'=>S'=S1++T/\∃ row:List (List (Int×Int)),ys=(row.map fun ms=>D.tup (ms.map p2))/\row.length=j/\∀ (a:Nat) ms c,row[a]?=some ms->V.bs[a]?=some c->zfT V b.1 c.1 b.2 c.2 ms) ⟨rfl,[],rfl,rfl,fun a ms c h=>by simp at h⟩ (fun j ys S' e=>e.1▸kn1) (by rw [qb,qb];unfold big;lia) ?_ ?_
  ·rintro j d' ys S' hd' ⟨rfl,row,rfl,hrl,hrow⟩
   obtain⟨y,hy,rfl⟩:=zjV hd'
   obtain⟨c,hc,rfl⟩:∃ c,V.bs[j]?=some c/\c.1=y:=by
    rw [qi] at hy
    cases e:V.bs[j]? with
    | none=>rw [e] at hy;cases hy
    | some b=>rw [e] at hy;exact⟨b,rfl,qA hy⟩
   have mc:=qe hc
   walk_at "g"
   refine⟨_,V,b.1,c.1,rfl,v1 T,ok,fl1 b mb,fl1 c mc,fun no=>?_,fun s t hs ht ms hm=>?_⟩
   ·rcases no with no | no
    ·exact (no b mb rfl).elim
    ·exact (no c mc rfl).elim
   have es:s=b.2:=congrArg Prod.snd (zfO ok hs mb rfl)
   have et:t=c.2:=congrArg Prod.snd (zfO ok ht mc rfl)
   subst es et
   refine⟨rfl,row++[ms],by rw [qC];rfl,by simp [hrl],fun a ms' c' h h'=>?_⟩
   rcases qM a row.length with g | g
   ·rw [qk g] at h;exact hrow a ms' c' h h'
   ·have lj:=zW h
    rw [qh] at lj
    have ej:a=row.length:=by simp at lj;lia
    subst ej
    rw [qj (qf _),qav] at h
    have e:ms=ms':=by simpa using h
    subst e
    rw [hrl,hc] at h'
    cases h'
    exact hm
  rintro ys S' ⟨rfl,row,rfl,hrl,hrow⟩
  rw [qb,qb] at hrl
  unfold New
  have hn:zj3 (S1++T++[.lst (row.map fun ms=>D.tup (ms.map p2))]) (S1++T).length V i:=⟨row,Y6,hrl,fun j ms b' c h1 h2 h3=>by rw [hb] at h2;cases h2;exact hrow j ms c h1 h3⟩
  refine⟨T++[.lst (row.map fun ms=>D.tup (ms.map p2))],rs++[(S1++T).length],by rw [qp],by rw [qC];rfl,by simp [hl],fun k r h=>?_⟩
  rcases qM k rs.length with g | g
  ·rw [qk g] at h;exact (hr k r h).old
  ·have lj:=zW h
   rw [qh] at lj
   have ej:k=rs.length:=by simp at lj;lia
   subst ej
   rw [qj (qf _),qav] at h
   have e:(S1++T).length=r:=by simpa using h
   rw [<- e,hl]
   exact hn
 rintro ys S' ⟨T,rs,rfl,rfl,hl,hr⟩
 rw [qb,qb] at hl
 unfold New
 obtain⟨T1,rfl⟩:=x1
 rw [qp S] at hr ⊢
 generalize T1++T=T2 at hr
 have va:ze6 (S++T2++[.lst (rs.map D.ref)]) (.ref (S++T2).length) V:=⟨rs,Lst.at0,hl,fun k r h=>(hr k r h).old⟩
 rw [qp] at va ⊢
 exact fin_same (q _ _ va)
def zbs:ZS:=fun ds S Q=>∃ (v:D) (V:Vl),ds=[v]/\Xu S v V/\V.bs.length<=100/\New Q S ((V.bs.map (·.1)).map D.str)
abbrev ziE:DS :=
  (zT (YX 1 [] (Zm (YS "beacons" Z2)) (zu 0) Yv Yt))
theorem zmP:BodyOk 1 ziE zbs:=by
 rintro ds S Q ⟨v,V,rfl,hv,hl,q⟩
 unfold ziE
 obtain⟨m,g,b',f,rfl,hm,hg,hb,_⟩:=hv
 walk_at "g"
 refine X4 (fun _=>true) (zim fun b=>.str b.1) (Lst.here hb) (by rw [qb];unfold big;lia) (fun i d ys hd hw=>?_) ?_
 ·obtain⟨b,_,rfl⟩:=zeM hd
  walk_at "g"
  exact Yc hd hw rfl rfl
 rw [filter_true,zdB,show V.bs.map (fun b=>D.str b.1)=(V.bs.map (·.1)).map D.str by rw [qY];rfl]
 exact fin_same q
def za2:Wj:=fun ds S Q ex=>∃ (v:D) (V:Vl) (n:Str),ds=[v,.str n]/\Xu S v V/\YD V/\fl 20 (.str n)=true/\(n∉V.bs.map (·.1)->∀ T,ex "NoBeacon" (S++T))/\(n∈V.bs.map (·.1)->Q .non S)
abbrev zd9 (ex:XR):DS :=
  (ZJ (dT (Z7 zmx Z1 (dCall zbs Zh))) (zfF ex "NoBeacon") zX)
theorem zgy:zcC 2 zd9 za2:=by
 rintro ds S Q ex ⟨v,V,n,rfl,hv,ok,hn,hx,q⟩
 unfold zd9
 have b12:=ok.b12
 walk_at "g"
 refine⟨v,V,rfl,hv,by lia,?_⟩
 walk_at "g"
 refine zo1 (.inr Lst.at0) hn ok.flN ?_
 walk_at "g"
 refine zfV (fun h=>?_) (fun h=>?_)
 ·walk_at "g"
  exact hx h _
 ·walk_at "g"
  exact Yz rfl (q h)
def V0:ZS:=fun ds S Q=>∃ (p:Pc) (h:Int),ds=[Pd p,.int h]/\(p.st=0\/p.st=1)/\Q (.int (p.led h)) S
abbrev zsO:DS :=
  (zT (Z7 Zy ze9 (Z7 Yu zer (Z7 Zq Z1 Yt))))
theorem zwE:BodyOk 2 zsO V0:=by
  rintro ds S Q ⟨p,h,rfl,hs,q⟩
  unfold zsO
  have c:YJ p.st (h-p.lo):=.inr (.inl (by rcases hs with e | e<;>rw [e]<;>decide))
  walk_at "g"
  exact fin_same q
def zbM:ZS:=fun ds S Q=>∃ (p:Pc) (t:Int),ds=[Pd p,.int t]/\(p.st=0\/p.st=1)/\Q (.bl (decide (draw p t))) S
abbrev zfI:DS :=
    (zA (ZJ (dT (Z7 oEq Yt Xv)) (zT (zoH (Z7 oEq Z1 ze9) (Z7 oEq Z1 (Z7 Zy ze9 ZD)))) zX)
 (zT (Z7 oEq Z1 (dCall V0 (zf Z2 (zf (Z7 Zy Xv ZD) zG))))))
theorem ziX:BodyOk 2 zfI zbM:=by
 rintro ds S Q ⟨p,t,rfl,hs,q⟩
 unfold zfI
 unfold Rm.draw at q
 walk_at "g"
 refine ZM (fun g=>?_) (fun g=>?_)
 ·simp only [if_pos g] at q
  walk_at "g"
  refine ZM (fun g1=>?_) (fun g1=>?_)
  ·walk_at "g"
   exact fin_same (by rw [decide_eq_true (.inl g1)] at q;exact q)
  ·walk_at "g"
   exact fin_same (by simpa [g1] using q)
 ·simp only [if_neg g] at q
  walk_at "g"
  refine⟨p,_,rfl,hs,?_⟩
  walk_at "g"
  exact fin_same q
def zcZ:ZS:=fun ds S Q=>∃ (p:Pc),ds=[Pd p]/\(p.st=0\/p.st=1)/\Q (.int p.fin) S
abbrev zl1:DS :=
  (zT (dCall V0 (zf Z2 (zf Xv zG))))
theorem zqm:BodyOk 1 zl1 zcZ:=by
 rintro ds S Q ⟨p,rfl,hs,q⟩
 unfold zl1
 walk_at "g"
 exact⟨p,_,rfl,hs,fin_same q⟩
def zd6:ZS:=fun ds S Q=>∃ (n:Nat) (lo hi to st:Int) (ps:List Pc),ds=[.ref n,.int lo,.int hi,.int to,.int st]/\S[n]?=some (.lst (ps.map Pd))/\ZX ps/\(st=0\/st=1)/\ps.length<=10000 /\
 (lo<=hi->∀ p,ps.getLast?=some p->p.hi+1=lo/\p.fin<=to)/\∀ qs,zfU ps lo hi to st qs->Q .non (S.set n (.lst (qs.map Pd)))
abbrev zso:DS :=
    (zA (zL Z1 (zu 5))
 (zA (sJ (ZJ (zdH (dT (Z7 oLe Z1 ZQ)) (zdH (dT (Z7 Xa (dB YK Zh) Zw)) (dT (dCall zbM (zf (Z7 ZW Z2 (Yh Yi ZD)) Xf))))) (zA (zL (Z7 ZW Z2 (Yh Yi ZD)) (zu 6))
 (zA (zL (Z7 Zq ZL (dCall zcZ ua6)) (zu 7))
 (zA (sJ (zL (zjF (dT (Z7 oEq Zx XQ)) ZQ Z1) (zu 8)))
 (zA (zL (dTup (zf zxW (zf Wz (zf zyd ua7)))) (zgm Z2 (Yh Yi ZD)))
 (zL (Z7 Zy Wz ZD) (zu 5)))))) zX))
 (ZJ (dT (Z7 oLe Zr ZQ)) (Zd (dM zcD Z2 (zf (dTup (zf Zr (zf ZQ (zf (Z7 Zy ZL (Z7 Yu Zx (Z7 Zq Zr Z1))) (zf (zjF (dT (Z7 oLt Zr ZQ)) Zx Zw) zG))))) zG))) zX)))
theorem zwy:BodyOk 9 zso zd6:=by
  rintro ds S Q ⟨n,lo,hi,to,st,ps,rfl,hn,hr,hst,hlen,hp,q⟩
  replace q:=q _ (zvm hr hst hp)
  unfold Ws at q
  have hb:ps.length<big:=by unfold big;lia
  have hnl:n<S.length:=by
    rcases qM n S.length with g | g
    . exact g
    . rw [qq g] at hn;cases hn
  have hmul:∀ x,YJ st x:=fun x=>.inr (.inl (by rcases hst with e | e<;>rw [e]<;>decide))
  unfold zso
  walk_at "g"
  refine zr0 ?_
  walk_at "g"
  refine ZM (fun g=>?_) (fun g=>?_)
  . walk_at "g"
    rw [qb]
    refine ZM (fun g1=>?_) (fun g1=>?_)
    . cases hl:ps.getLast? with
      | none=>rw [qay] at hl;subst hl;simp at g1
      | some p =>
        obtain⟨h1,h2⟩:=hp g p hl
        have gp:=hr.good p (List.mem_of_getLast? hl)
        have al:=zt9 hl
        have il:=ztx hl
        rw [hl] at q
        simp only [] at q
        walk_at "g"
        refine⟨p,to,rfl,gp.st,?_⟩
        walk_at "g"
        refine ZM (fun g2=>?_) (fun g2=>?_)
        . rw [if_pos ⟨g,g2⟩] at q
          walk_at "g"
          refine⟨p,rfl,gp.st,?_⟩
          walk_at "g"
          refine zr0 ?_
          walk_at "g"
          refine ZM (fun g3=>?_) (fun g3=>?_)
          . rw [if_pos g3,if_neg (by lia)] at q
            walk_at "g"
            refine zga hn il ?_
            rw [zlg (q:=⟨p.lo,hi,p.to,to-p.fin⟩) hl]
            walk_at "g"
            walk_at "g"
            refine ZM (fun g4=>absurd g4 (by lia)) (fun g4=>?_)
            walk_at "g"
            exact fin_same q
          . rw [if_neg g3] at q
            walk_at "g"
            refine zga hn il ?_
            rw [zlg (q:=⟨p.lo,lo,p.to,to-p.fin⟩) hl]
            walk_at "g"
            have hbl:((ps.dropLast++[(⟨p.lo,lo,p.to,to-p.fin⟩:Pc)]).map Pd).length<big:=by rw [qb,qh,List.length_dropLast];unfold big;simp;lia
            have hn2:(S.set n (.lst ((ps.dropLast++[(⟨p.lo,lo,p.to,to-p.fin⟩:Pc)]).map Pd)))[n]?=some (.lst ((ps.dropLast++[(⟨p.lo,lo,p.to,to-p.fin⟩:Pc)]).map Pd)):=qJ hnl
            walk_at "g"
            refine ZM (fun g4=>?_) (fun g4=>?_)
            . rw [if_pos g4] at q
              have hc:=hmul (lo+1-lo)
              walk_at "g"
              refine ZM (fun g5=>?_) (fun g5=>?_)
              . rw [if_pos g5] at q
                walk_at "g"
                rw [List.set_set]
                refine fin_same ?_
                rw [qC] at q;exact q
              . rw [if_neg g5] at q
                walk_at "g"
                rw [List.set_set]
                refine fin_same ?_
                rw [qC] at q;exact q
            . rw [if_neg g4] at q
              walk_at "g"
              exact fin_same q
        . rw [if_neg (fun z=>g2 z.2),if_pos g] at q
          have hc:=hmul (lo-lo)
          walk_at "g"
          refine ZM (fun g4=>?_) (fun g4=>absurd g g4)
          walk_at "g"
          refine ZM (fun g5=>?_) (fun g5=>?_)
          . rw [if_pos g5] at q
            walk_at "g"
            refine fin_same ?_
            rw [qC] at q
            simpa using q
          . rw [if_neg g5] at q
            walk_at "g"
            refine fin_same ?_
            rw [qC] at q
            simpa using q
    . have:ps=[]:=qad.mp (by lia)
      subst this
      simp only [List.getLast?_nil] at q
      rw [if_pos g] at q
      have hc:=hmul (lo-lo)
      walk_at "g"
      refine ZM (fun g4=>?_) (fun g4=>absurd g g4)
      walk_at "g"
      refine ZM (fun g5=>?_) (fun g5=>?_)
      . rw [if_pos g5] at q
        walk_at "g"
        refine fin_same ?_
        simpa using q
      . rw [if_neg g5] at q
        walk_at "g"
        refine fin_same ?_
        simpa using q
  . walk_at "g"
    refine ZM (fun g4=>absurd g4 g) (fun g4=>?_)
    walk_at "g"
    refine fin_same ?_
    have e:S.set n (.lst (ps.map Pd))=S:=qbm fun i=>by
      by_cases hi:i=n
      . subst hi;rw [qJ hnl,hn]
      . rw [qN (Ne.symm hi)]
    cases hl:ps.getLast? with
    | none =>
      rw [hl] at q
      simp only [] at q
      rw [if_neg g] at q
      rw [qay] at hl
      subst hl
      rw [e] at q;exact q
    | some p =>
      rw [hl] at q
      simp only [] at q
      rw [if_neg (fun z=>g z.1),if_neg g,e] at q
      exact q
structure zoK (cs:List (Int×Int))(delay first:Int)(ps:List Pc):Prop where
  isR:ZX ps
  len:ps.length<=2*cs.length
  led:∀ h,at' ps h=if first<=h then (Xw cs h).map (· + delay) else none
def zcM:ZS:=fun ds S Q=>∃ (cs:List (Int×Int)) (delay first:Int),ds=[.tup (cs.map p2),.int delay,.int first]/\zfw cs/\cs.length<=2000/\∀ ps,zoK cs delay first ps->Q (.tup (ps.map Pd)) S
structure zsa (cs:List (Int×Int))(delay first:Int)(ps:List Pc)(hour:Int):Prop where
  isR:ZX ps
  ge:first<=hour
  beh:∀ c∈cs,c.2<hour
  led:∀ h,at' ps h=if first<=h/\h<hour then (Xw cs h).map (· + delay) else none
  full:∀ h,first<=h->h<hour->∃ v,Xw cs h=some v
  none:ps=[]->hour=first
  last:∀ p,ps.getLast?=some p->p.hi+1=hour/\∃ d∈cs,p.fin<=d.2+delay
theorem zrg {cs:List (Int×Int)}{c:Int×Int}{delay first hour:Int}{ps qs rs:List Pc}(I:zsa cs delay first ps hour)(hc:c.1<=c.2)(hd':∀ d∈cs,d.2+2<=c.1)
  (h1:zfU ps hour (c.1-1) (c.1+delay) 0 qs) (h2:zfU qs (max hour c.1) c.2 (max hour c.1+delay) 1 rs):zsa (cs++[c]) delay first rs (max hour (c.2+1)):=by
 have e1:Xw [c]=fun h=>if h<=c.2 then some (max h c.1) else none:=by funext h;rfl
 have nx:∀ h,hour<=h->Xw (cs++[c]) h=if h<=c.2 then some (max h c.1) else none:=fun h hh=>by
  rw [zeg,zft fun d hd=>by have:=I.beh d hd;lia,e1];rfl
 have nl:∀ h,first<=h->h<hour->Xw (cs++[c]) h=Xw cs h:=fun h h1 h2=>by
  obtain⟨v,hv⟩:=I.full h h1 h2
  rw [zeg,hv];rfl
 have hge:=I.ge
 by_cases hh:hour<=c.2
 ·have em:max hour (c.2+1)=c.2+1:=by lia
  rw [em]
  refine⟨h2.isR,by lia,fun d hd=>?_,fun h=>?_,fun h a b=>?_,fun e=>?_,fun p hp=>?_⟩
  ·rcases qK.mp hd with hd | hd
   ·have:=hd' d hd;lia
   ·have:d=c:=by simpa using hd
    subst this;lia
  ·rw [h2.led,h1.led,I.led]
   by_cases a1:h<hour
   ·rw [if_neg (by lia),if_neg (by lia)]
    by_cases a2:first<=h
    ·rw [if_pos ⟨a2,a1⟩,if_pos ⟨a2,by lia⟩,nl h a2 a1]
    ·rw [if_neg (by lia),if_neg (by lia)]
   ·by_cases a2:h<=c.2
    ·rw [if_pos ⟨by lia,by lia⟩ (c:=first<=h/\h<c.2+1),nx h (by lia),if_pos a2]
     by_cases a3:h<=c.1-1
     ·rw [if_neg (by lia),if_pos ⟨by lia,a3⟩]
      rw [qbc]
      congr 1
      show _=max h c.1+delay
      lia
     ·rw [if_pos ⟨by lia,a2⟩]
      rw [qbc]
      congr 1
      show _=max h c.1+delay
      lia
    ·rw [if_neg (by lia),if_neg (by lia),if_neg (by lia),if_neg (by lia)]
  ·by_cases a1:h<hour
   ·rw [nl h a a1];exact I.full h a a1
   ·rw [nx h (by lia),if_pos (by lia)];exact⟨_,rfl⟩
  ·obtain⟨q,hq,_⟩:=h2.last (by lia)
   rw [e] at hq;simp at hq
  ·obtain⟨q,hq,e2,e3⟩:=h2.last (by lia)
   rw [hp] at hq
   cases hq
   exact⟨by lia,c,by simp,by rw [e3];lia⟩
 ·have em:max hour (c.2+1)=hour:=by lia
  have q1:=h1.none (by lia)
  have q2:=h2.none (by lia)
  subst q2
  subst q1
  rw [em]
  refine⟨I.isR,I.ge,fun d hd=>?_,fun h=>?_,fun h a b=>?_,I.none,fun p hp=>?_⟩
  ·rcases qK.mp hd with hd | hd
   ·exact I.beh d hd
   ·have:d=c:=by simpa using hd
    subst this;lia
  ·rw [I.led]
   by_cases a1:first<=h/\h<hour
   ·rw [if_pos a1,if_pos a1,nl h a1.1 a1.2]
   ·rw [if_neg a1,if_neg a1]
  ·rw [nl h a b];exact I.full h a b
  ·obtain⟨e,d,hd,f⟩:=I.last p hp
   exact⟨e,d,by simp [hd],f⟩
abbrev zjd:DS :=
    (zA (zL (Xx zG) (zu 3))
 (zA (zL ZQ (zu 4))
 (zA (Y5 (Zm Z2) (Ym 2 (Zt (zu 5) (Zt (zu 6) Yl))) (zA (Zd (dCall zd6 (zf ZL (zf Zx (zf (Z7 Zq Zr ZD) (zf (Z7 Zy Zr Z1) (zf Zw zG)))))))
 (zA (zL (dB Wu (zf Zx ua5)) (zu 7))
 (zA (Zd (dCall zd6 (zf ZL (zf XQ (zf Yq (zf (Z7 Zy XQ Z1) (zf ZD zG)))))))
 (zL (dB Wu (zf Zx (zf (Z7 Zy Yq ZD) zG))) (zu 4))))))
 (zT (dB zfL Xf)))))
theorem zmA:BodyOk 8 zjd zcM:=by
 rintro ds S Q ⟨cs,delay,first,rfl,ok,hl,q⟩
 unfold zjd
 walk_at "g"
 refine YQ (fun i Z S'=>∃ ps hour w1 w2 w3,Z=[some (.tup (cs.map p2)),some (.int delay),some (.int first),some (.ref S.length),some (.int hour),w1,w2,w3]/\S'=S++[.lst (ps.map Pd)]/\ps.length<=2*i/\zsa (cs.take i) delay first ps hour)
  ⟨[],first,none,none,none,rfl,rfl,by simp,ZX.nil,qw _,by simp,fun h=>by rw [if_neg (by lia)];rfl,fun h a b=>by lia,fun _=>rfl,by simp⟩ (fun _ _ _ _=>True.intro) ?_ ?_
 ·rintro i d Z S' hd ⟨ps,hour,w1,w2,w3,rfl,rfl,hpl,I⟩
  obtain⟨c,hc,rfl⟩:=zdr hd
  obtain⟨c1,c2⟩:=ok.mem hc
  have hi:i<cs.length:=by
   rcases qM i cs.length with g | g
   ·exact g
   ·rw [qq g] at hc;cases hc
  walk_at "g"
  refine⟨_,_,_,_,_,ps,rfl,Y6,I.isR,.inl rfl,by lia,?_,fun qs hq=>?_⟩
  ·intro z p hp
   obtain⟨e,d,hd,f⟩:=I.last p hp
   have:=c2 d hd
   exact⟨e,by lia⟩
  rw [V6]
  walk_at "g"
  refine⟨_,_,_,_,_,qs,rfl,Y6,hq.isR,.inr rfl,by have:=hq.len;lia,?_,fun rs hr=>?_⟩
  ·intro z p hp
   by_cases a:hour<=c.1-1
   ·obtain⟨r,er,e1,e2⟩:=hq.last a
    rw [hp] at er
    cases er
    exact⟨by lia,by rw [e2];lia⟩
   ·rw [hq.none (by lia)] at hp
    obtain⟨e,d,hd,f⟩:=I.last p hp
    have:=c2 d hd
    exact⟨by lia,by lia⟩
  rw [V6]
  walk_at "g"
  refine⟨rs,_,_,_,_,rfl,rfl,by have:=hq.len;have:=hr.len;lia,?_⟩
  rw [Wt hc]
  exact zrg I c1 c2 hq hr
 ·rintro Z S' ⟨ps,hour,w1,w2,w3,rfl,rfl,hpl,I⟩
  rw [qb] at hpl I
  rw [qag] at I
  walk_at "g"
  refine Yz (zf6 ps) (q ps ⟨I.isR,hpl,fun h=>?_⟩)
  rw [I.led]
  by_cases a:first<=h
  ·rw [if_pos a]
   by_cases b:h<hour
   ·rw [if_pos ⟨a,b⟩]
   ·rw [if_neg (by lia),zft fun d hd=>by have:=I.beh d hd;lia];rfl
  ·rw [if_neg (by lia),if_neg a]
def zf7 (V:Vl)(Z6:List (List (Sum Int Str)×D))(k j:Nat):Prop:=∀ b c,V.bs[k]?=some b->V.bs[j]?=some c->∃ ms ps,zfT V b.1 c.1 b.2 c.2 ms/\zoK ms V.dl V.h0 ps/\dval Z6 [.inr b.1,.inr c.1]=some (.tup (ps.map Pd))
theorem zf7.put {V:Vl}(ok:YD V){Z6:List (List (Sum Int Str)×D)}{b c:Str×(Int×Int)}(mb:b∈V.bs)(mc:c∈V.bs){ms:List (Int×Int)}{ps:List Pc}(hm:zfT V b.1 c.1 b.2 c.2 ms)(hp:zoK ms V.dl V.h0 ps){k j:Nat}(h:zf7 V Z6 k j\/(V.bs[k]?=some b/\V.bs[j]?=some c)):zf7 V (dput Z6 [.inr b.1,.inr c.1] (.tup (ps.map Pd))) k j:=fun b' c' hb hc=>by
 rw [zin]
 by_cases e:b.1=b'.1/\c.1=c'.1
 ·have e1:=zfO ok mb (qe hb) e.1
  have e2:=zfO ok mc (qe hc) e.2
  subst e1 e2
  exact⟨ms,ps,hm,hp,by rw [if_pos rfl]⟩
 ·rcases h with h | ⟨h1,h2⟩
  ·obtain⟨ms',ps',h1,h2,h3⟩:=h b' c' hb hc
   refine⟨ms',ps',h1,h2,?_⟩
   rw [if_neg (fun e'=>e ?_)]
   ·exact h3
   ·have e1:=(List.cons.inj e').1
    have e2:=(List.cons.inj (List.cons.inj e').2).1
    exact⟨Sum.inr.inj e1,Sum.inr.inj e2⟩
  ·rw [h1] at hb;rw [h2] at hc
   cases hb;cases hc
   exact absurd ⟨rfl,rfl⟩ e
theorem zm0:∀ {ms:List (Int×Int)},Zn ms->zfw ms
 | [],_=>True.intro
 | c::r,h=>⟨h.le c (qg.mpr (.inl rfl)),fun d hd=>(qS.mp h.ap).1 d hd,zm0 ⟨fun c hc=>h.le c (qg.mpr (.inr hc)),(qS.mp h.ap).2⟩⟩
def zpZ (S:Z5)(x:D)(V:Vl):Prop:=∃ n Z6,x=.ref n/\S[n]?=some (.dt Z6)/\∀ k j,k<V.bs.length->j<V.bs.length->zf7 V Z6 k j
def zdY:ZS:=fun ds S Q=>∃ (v:D) (V:Vl),ds=[v]/\Xu S v V/\YD V/\∀ (T:Z5) (x:D),zpZ (S++T) x V->Q x (S++T)
abbrev zi2:DS :=
    (zA (zL (zoB) (zu 1))
 (zA (Y5 (Zm (dCall zbs Zh)) (zu 2) (Y5 (Zm (dCall zbs Zh)) (zu 3) (zhC Z1 (dTup (zf ZQ Xf)) (dCall zcM (zf (zb4 zeY xF (zf Z2 (zf ZQ Xf))) (zf (YS "delay" Z2) (zf (YS "first" Z2) zG)))))))
 (zT Z1)))
theorem zmy:BodyOk 4 zi2 zdY:=by
 rintro ds S Q ⟨v,V,rfl,hv,ok,q⟩
 unfold zi2
 have b12:=ok.b12
 obtain⟨m,g,b',f,rfl,hm,_⟩:=id hv
 have vo:∀ T,Xu (S++T) (.ref m) V:=fun T=>hv.old
 have hmT:∀ T,(S++T)[m]?=some (.ins "Valley" (vF (.ref g) (.ref b') (.ref f) (Y7 V.hz) (.int V.h0) (.int V.h1) (.int V.dl))):=fun T=>Xe hm
 have fl1:∀ b∈V.bs,fl 20 (.str b.1)=true:=fun b hb=>zeT (ok.nm b hb) 20
 walk_at "g"
 refine⟨_,V,rfl,vo _,by lia,?_⟩
 unfold New
 rw [qp]
 obtain⟨nl,hnl⟩:∃ nl,nl=(V.bs.map (·.1)).map D.str:=⟨_,rfl⟩
 have lnl:nl.length=V.bs.length:=by rw [hnl,qb,qb]
 have gnl:∀ {i:Nat} {d:D},nl[i]?=some d->∃ b,V.bs[i]?=some b/\d=.str b.1:=fun {i d} h=>by
  rw [hnl,qi,qi] at h
  cases e:V.bs[i]? with
  | none=>rw [e] at h;cases h
  | some b=>rw [e] at h;exact⟨b,rfl,(qA h).symm⟩
 rw [<- hnl]
 have k1:∀ Z6 G,Lst (S++Cell.dt Z6::Cell.lst nl::G) (.ref (S.length+1)) nl:=fun Z6 G=>Lst.at (k:=1) rfl
 have k10:Lst (S++([Cell.dt []]++[Cell.lst nl])) (.ref (S++[Cell.dt []]).length) nl:=by
  rw [show (S++[Cell.dt []]).length=S.length+1 by simp];exact k1 _ _
 walk_at "g"
 rw [show (S++[Cell.dt []]).length=S.length+1 by simp]
 refine YQ (fun i Z S'=>∃ (Z6:List (List (Sum Int Str)×D)) (G:Z5) (w2 w3:Option D),S'=S++Cell.dt Z6::Cell.lst nl::G/\Z6.length<=i*12/\(∀ k j,k<i->j<V.bs.length->zf7 V Z6 k j)/\Z=[some (.ref m),some (.ref S.length),w2,w3]) ⟨[],[],_,_,rfl,qO _,fun k j h=>absurd h (qbe _),rfl⟩ (fun i Z S' zq9=>by obtain⟨_,_,_,_,e,_⟩:=zq9;exact e▸k1 _ _) ?_ ?_
 ·rintro i d Z S' hd ⟨Z6,G,w2,w3,rfl,hl,hk,rfl⟩
  have li:i<V.bs.length:=by rw [<- lnl];exact zW hd
  obtain⟨b,hb,rfl⟩:=gnl hd
  have mb:=qe hb
  walk_at "g"
  refine⟨_,V,rfl,vo _,by lia,?_⟩
  unfold New
  rw [<- hnl,qp]
  have k2:∀ Z6 H,Lst (S++Cell.dt Z6::Cell.lst nl::(G++Cell.lst nl::H)) (.ref (S++Cell.dt Z6::Cell.lst nl::G).length) nl:=fun Z6 H=>by
   have e:S++Cell.dt Z6::Cell.lst nl::(G++Cell.lst nl::H)=(S++Cell.dt Z6::Cell.lst nl::G)++Cell.lst nl::H:=by simp
   rw [e];exact Lst.at0
  have lk:∀ kvs',(S++Cell.dt kvs'::Cell.lst nl::G).length=(S++Cell.dt Z6::Cell.lst nl::G).length:=fun kvs'=>by simp
  have k20:=k2 Z6 []
  generalize (S++Cell.dt Z6::Cell.lst nl::G).length=nm at k20 lk
  walk_at "g"
  refine YQ (fun j Z S'=>∃ (Z6:List (List (Sum Int Str)×D)) (H:Z5) (w3:Option D),S'=S++Cell.dt Z6::Cell.lst nl::(G++Cell.lst nl::H)/\Z6.length<=i*12+j/\(∀ k a,a<V.bs.length->k<i\/(k=i/\a<j)->zf7 V Z6 k a)/\Z=[some (.ref m),some (.ref S.length),some (.str b.1),w3]) ⟨Z6,[],_,rfl,by lia,fun k a ha h=>hk k a (by lia) ha,rfl⟩ (fun j Z S' zq10=>by obtain⟨kvs',H,_,e,_⟩:=zq10;exact e▸(lk kvs'▸k2 kvs' H)) ?_ ?_
  ·rintro j d Z S' hdj ⟨kvs',H,w3,rfl,hl',hk',rfl⟩
   have lj:j<V.bs.length:=by rw [<- lnl];exact zW hdj
   obtain⟨c,hc,rfl⟩:=gnl hdj
   have mc:=qe hc
   have hV:=hmT (Cell.dt kvs'::Cell.lst nl::(G++Cell.lst nl::H))
   walk_at "g"
   refine⟨_,V,b.1,c.1,rfl,vo _,ok,fl1 b mb,fl1 c mc,fun no=>?_,fun s t hs ht ms hms=>?_⟩
   ·rcases no with no | no
    ·exact (no b mb rfl).elim
    ·exact (no c mc rfl).elim
   have es:s=b.2:=congrArg Prod.snd (zfO ok hs mb rfl)
   have et:t=c.2:=congrArg Prod.snd (zfO ok ht mc rfl)
   subst es et
   walk_at "g"
   refine⟨ms,_,_,rfl,zm0 hms.ok,by have:=hms.len;lia,fun ps hps=>?_⟩
   walk_at "g"
   have i12:i*12<=144:=by lia
   refine zdW.t (ks:=[.inr b.1,.inr c.1]) Y6 (by unfold big;lia) (zfP ?_)
   refine⟨_,H,_,rfl,by have:=zis kvs' [.inr b.1,.inr c.1] (.tup (ps.map Pd));lia,fun k a ha h=>?_,rfl⟩
   refine zf7.put ok mb mc hms hps ?_
   by_cases e:k=i/\a=j
   ·obtain⟨rfl,rfl⟩:=e
    exact .inr ⟨hb,hc⟩
   ·exact .inl (hk' k a ha (by lia))
  ·rintro Z S' ⟨kvs',H,w3,rfl,hl',hk',rfl⟩
   rw [lnl] at hl' hk'
   exact⟨kvs',_,_,_,rfl,by lia,fun k a h1 h2=>hk' k a h2 (by lia),rfl⟩
 ·rintro Z S' ⟨Z6,G,w2,w3,rfl,hl,hk,rfl⟩
  rw [lnl] at hk
  walk_at "g"
  exact fin_same (q _ _ ⟨_,Z6,rfl,Y6,hk⟩)
def zgg (f l h:Int):Option Int:=if f<=h/\h<=l then some h else none
def zc9:ZS:=fun ds S Q=>∃ (f l:Int),ds=[.int f,.int l]/\∀ ps,ZX ps->(∀ h,at' ps h=zgg f l h)->ps.length<=2->Q (.tup (ps.map Pd)) S
abbrev zkD:DS :=
    (zA (ZJ (dT (Z7 Xa Z2 Z1)) (zT (dTup zG)) zX)
 (zT (dCall zcM (zf (dTup (zf (dTup (zf Z2 Yx)) zG)) (zf Zw Zh)))))
theorem zn0:BodyOk 2 zkD zc9:=by
  rintro ds S Q ⟨f,l,rfl,k⟩
  unfold zkD
  walk_at "g"
  refine ZM (fun g=>?_) (fun g=>?_)
  . walk_at "g"
    refine fin_same (k [] ZX.nil (fun h=>?_) (by simp))
    unfold zgg
    rw [if_neg (by lia)];rfl
  walk_at "g"
  refine⟨[(f,l)],0,f,rfl,⟨by show f<=l;lia,by simp,trivial⟩,by simp,fun ps ok=>fin_same (k ps ok.isR (fun h=>?_) ok.len)⟩
  rw [ok.led]
  unfold zgg
  by_cases c:f<=h
  . rw [if_pos c]
    show (if h<=l then some (max h f) else none).map (· + 0)=_
    by_cases c2:h<=l
    . rw [if_pos c2,if_pos ⟨c,c2⟩]
      show some (max h f+0)=some h
      congr 1;lia
    . rw [if_neg c2,if_neg (fun z=>c2 z.2)];rfl
  . rw [if_neg c,if_neg (fun z=>c z.1)]
def pStart (p f:Pc):Int:=max p.to f.lo
def pEnd (p f:Pc):Int:=min p.fin f.hi
def WK (p f:Pc):Int:=if pStart p f<=pEnd p f then (if p.st=0 then p.lo else pStart p f+(p.lo-p.to)) else 1
def pHi (p f:Pc):Int:=if pStart p f<=pEnd p f then (if p.st=0 then p.hi else pEnd p f+(p.lo-p.to)) else 0
def pSt (p f:Pc):Int:=if p.st=0 then 0 else f.st
def zcR:ZS:=fun ds S Q=>∃ (n:Nat) (p f:Pc) (ps:List Pc),ds=[.ref n,Pd p,Pd f]/\S[n]?=some (.lst (ps.map Pd))/\ZX ps/\Good p/\Good f/\ps.length<=9000 /\
 (WK p f<=pHi p f->∀ r,ps.getLast?=some r->r.hi+1=WK p f/\r.fin<=f.led (pStart p f))/\∀ qs,zfU ps (WK p f) (pHi p f) (f.led (pStart p f)) (pSt p f) qs->Q .non (S.set n (.lst (qs.map Pd)))
abbrev zgY:DS :=
    (zA (zL (dB Wu (zf zk6 (zf zeF zG))) (zu 3))
 (zA (zL (dB zd0 (zf (dCall zcZ Yx) (zf zdQ zG))) (zu 4))
 (ZJ (zdH (dT (Z7 oLe ZL Zx)) (dT (Z7 oEq zk0 Zw))) (Zd (dCall zd6 (zf Z2 (zf VP (zf zdU (zf (dCall V0 (zf ZQ Xf)) (zf Zw zG))))))) (ZJ (dT (Z7 oLe ZL Zx)) (zA (zL (Z7 Zq VP zk6) (zu 5))
 (Zd (dCall zd6 (zf Z2 (zf (Z7 Zy ZL Zr) (zf (Z7 Zy Zx Zr) (zf (dCall V0 (zf ZQ Xf)) (zf zot zG)))))))) zX))))
theorem zkV:BodyOk 6 zgY zcR:=by
 rintro ds S Q ⟨n,p,f,ps,rfl,hn,hr,gp,gf,hl,hp,q⟩
 unfold zgY
 walk_at "g"
 refine⟨p,rfl,gp.st,?_⟩
 walk_at "g"
 refine ZM (fun g=>?_) (fun g=>?_)
 ·have g':pStart p f<=pEnd p f:=g
  unfold WK pHi at hp q
  rw [if_pos g',if_pos g'] at hp q
  unfold pSt at q
  walk_at "g"
  refine ZM (fun g1=>?_) (fun g1=>?_)
  ·rw [if_pos g1,if_pos g1] at hp
   rw [if_pos g1,if_pos g1,if_pos g1] at q
   walk_at "g"
   refine⟨f,_,rfl,gf.st,?_⟩
   walk_at "g"
   exact⟨_,_,_,_,_,ps,rfl,hn,hr,.inl rfl,by lia,hp,fun qs hq=>fin_same (q qs hq)⟩
  ·rw [if_neg g1,if_neg g1] at hp
   rw [if_neg g1,if_neg g1,if_neg g1] at q
   walk_at "g"
   refine ZM (fun g2=>?_) (fun g2=>absurd g g2)
   walk_at "g"
   refine⟨f,_,rfl,gf.st,?_⟩
   walk_at "g"
   exact⟨_,_,_,_,_,ps,rfl,hn,hr,gf.st,by lia,hp,fun qs hq=>fin_same (q qs hq)⟩
 ·have g':¬ pStart p f<=pEnd p f:=g
  walk_at "g"
  refine ZM (fun g2=>absurd g2 g) (fun g2=>?_)
  walk_at "g"
  refine fin_same ?_
  have:=q ps ?_
  ·rw [set_same hn] at this;exact this
  ·unfold WK pHi
   rw [if_neg g',if_neg g']
   exact⟨hr,fun h=>by rw [if_neg (by lia)],fun z=>by lia,fun _=>rfl,by lia,fun p hp=>⟨p,hp,rfl,rfl⟩,fun _ z=>by lia⟩
def comp (ps qs:List Pc)(h:Int):Option Int:=(at' ps h).bind (at' qs)
theorem zpb {ps qs:List Pc}(hp:ZX ps)(hq:ZX qs):zht (comp ps qs):=fun a b x y ha hb hab=>by
 unfold comp at ha hb
 cases h1:at' ps a with
 | none=>rw [h1] at ha;cases ha
 | some u =>
  cases h2:at' ps b with
  | none=>rw [h2] at hb;cases hb
  | some v =>
   rw [h1] at ha
   rw [h2] at hb
   exact zcn hq ha hb (zcn hp h1 h2 hab)
def zfn:ZS:=fun ds S Q=>∃ (ps qs:List Pc),ds=[.tup (ps.map Pd),.tup (qs.map Pd)]/\ZX ps/\ZX qs/\ps.length<=80/\qs.length<=80/\(∀ p∈ps.head?,∀ q∈qs.head?,q.lo<=p.to) /\
 ∀ rs,ZX rs->(∀ h,at' rs h=comp ps qs h)->rs.length<=ps.length*qs.length->Q (.tup (rs.map Pd)) S
def cutAt (p:Pc)(b:Int):Int:=if b<=p.to then p.lo else if p.fin<b then p.hi+1 else b+(p.lo-p.to)
theorem zt1 {ps qs:List Pc}(hp:ZX ps)(hq:ZX qs){i j:Nat}{p f:Pc}(ep:ps[i]?=some p)(ef:qs[j]?=some f) :
    (WK p f<=pHi p f->WK p f=cutAt p f.lo)/\(∀ x,WK p f<=x->x<=pHi p f->comp ps qs x=some (f.led (pStart p f)+pSt p f*(x-WK p f))) /\
    (if WK p f<=pHi p f then pHi p f+1 else cutAt p f.lo)=cutAt p (f.hi+1):=by
  have gp:=hp.good p (qe ep)
  have gf:=hq.good f (qe ef)
  have l1:=gp.le
  have l2:=gf.le
  have l3:=zmo gp
  unfold WK pHi pSt pStart pEnd cutAt
  by_cases hs:max p.to f.lo<=min p.fin f.hi
  . rw [if_pos hs,if_pos hs]
    rcases gp.st with e | e
    . have ff:=znG e
      rw [if_pos e,if_pos e,if_pos e]
      refine⟨fun _=>by rw [if_pos (by lia)],fun x h1 h2=>?_,?_⟩
      . unfold comp
        rw [W5 hp ep ⟨h1,h2⟩,zhi e]
        show at' qs p.to=_
        rw [W5 hq ef ⟨by lia,by lia⟩,show max p.to f.lo=p.to by lia];simp
      . rw [if_pos l1];(repeat' split)<;>lia
    . have ff:=znd e
      have ne:¬ p.st=0:=by lia
      rw [if_neg ne,if_neg ne,if_neg ne]
      refine⟨fun _=>by (repeat' split)<;>lia,fun x h1 h2=>?_,?_⟩
      . unfold comp
        rw [W5 hp ep ⟨by lia,by lia⟩,zhx e]
        show at' qs (p.to+(x-p.lo))=_
        rw [W5 hq ef ⟨by lia,by lia⟩]
        congr 1
        unfold Pc.led
        rw [zeu gf.st,zeu gf.st,zeu gf.st]
        split<;>lia
      . (repeat' split)<;>lia
  . rw [if_neg hs,if_neg hs]
    refine⟨fun z=>by lia,fun x h1 h2=>by lia,?_⟩
    rw [if_neg (by lia)]
    (repeat' split)<;>lia
structure zzj (ps qs:List Pc)(a n:Int)(i:Nat)(found:List Pc):Prop where
 pre:Pre (comp ps qs) a n found
 on:n=XC ps i\/((∀ h,n<=h->comp ps qs h=none)/\(qs≠[]->∀ k p,i<=k->ps[k]?=some p->endOf qs<=p.to))
theorem zpH {ps qs:List Pc}(hp:ZX ps)(hq:ZX qs){i:Nat}{p:Pc}(ep:ps[i]?=some p)(h:Int)(h1:p.lo<=h)(h2:h<=p.hi->endOf qs<=p.led h)(h3:endOf qs<=p.fin):comp ps qs h=none:=by
 unfold comp
 cases hv:at' ps h with
 | none=>rfl
 | some v =>
  refine zgX hq ?_
  by_cases hh:h<=p.hi
  ·rw [W5 hp ep ⟨h1,hh⟩] at hv
   cases hv
   exact h2 hh
  ·have gp:=(hp.good p (qe ep)).le
   have e1:=W5 hp ep (h:=p.hi) ⟨gp,qw _⟩
   have:=zcn hp e1 hv (by lia)
   unfold Pc.fin at h3
   lia
abbrev zmt:DS :=
    (zA (zL (Xx zG) (zu 2))
 (zA (Y5 (Zm Z2) (zu 3) (Y5 (Zm Z1) (zu 4) (Zd (dCall zcR (zf ZQ (zf ZL ua4))))))
 (zT (dB zfL Yy))))
theorem zqE:BodyOk 5 zmt zfn:=by
  rintro ds S Q ⟨ps,qs,rfl,hp,hq,hpl,hql,hh,q⟩
  unfold zmt
  walk_at "g"
  have mono:=zpb hp hq
  refine YQ (fun i Z S'=>∃ found n w1 w2,Z=[some (.tup (ps.map Pd)),some (.tup (qs.map Pd)),some (.ref S.length),w1,w2]/\S'=S++[.lst (found.map Pd)]/\zzj ps qs (XC ps 0) n i found/\found.length<=i*qs.length)
    ⟨[],XC ps 0,none,none,rfl,rfl,⟨Pre.start _ _,.inl rfl⟩,by simp⟩ (fun _ _ _ _=>True.intro) ?_ ?_
  . rintro i d Z S' hd ⟨found,n,w1,w2,rfl,rfl,I,hfl⟩
    obtain⟨p,ep,rfl⟩:=get_map hd
    have hi:=zW ep
    have gp:=hp.good p (qe ep)
    obtain⟨el1,el2⟩:=zgZ hp ep
    have hb:i*qs.length<=6400:=by
      have:=qbl (show i<=80 by lia) hql
      lia
    walk_at "g"
    refine YQ (fun j Z S'=>∃ found n w2,Z=[some (.tup (ps.map Pd)),some (.tup (qs.map Pd)),some (.ref S.length),some (Pd p),w2]/\S'=S++[.lst (found.map Pd)]/\Pre (comp ps qs) (XC ps 0) n found /\
      (n=cutAt p (XC qs j)\/((∀ h,n<=h->comp ps qs h=none)/\(qs≠[]->∀ k p,i<=k->ps[k]?=some p->endOf qs<=p.to)))/\found.length<=i*qs.length+j)
      ⟨found,n,_,rfl,rfl,I.pre,?_,by lia⟩ (fun _ _ _ _=>True.intro) ?_ ?_
    . rcases I.on with e | e
      . cases hq0:qs[0]? with
        | none =>
          right
          have:qs=[]:=by cases qs with | nil=>rfl | cons a b=>simp at hq0
          subst this
          refine⟨fun h _=>?_,fun z=>absurd rfl z⟩
          unfold comp;cases at' ps h<;>rfl
        | some f =>
          left
          rw [e,el1]
          have:XC qs 0<=p.to:=by
            unfold XC
            rw [hq0]
            have h0:∃ p0,ps[0]?=some p0:=⟨ps[0]'(by lia),qc _⟩
            obtain⟨p0,e0⟩:=h0
            have:=hh p0 (by rw [qaG];exact e0) f (by rw [qaG];exact hq0)
            have a1:=W5 hp e0 (h:=p0.lo) ⟨qw _,(hp.good p0 (qe e0)).le⟩
            have a2:=W5 hp ep (h:=p.lo) ⟨qw _,gp.le⟩
            rw [zgB] at a1 a2
            have hlo:p0.lo<=p.lo:=by
              cases ps with
              | nil=>simp at e0
              | cons x r =>
                have ex:x=p0:=by simpa using e0
                subst ex
                exact (zeB hp a2).2
            have:=zcn hp a1 a2 hlo
            show f.lo<=p.to
            lia
          unfold cutAt
          rw [if_pos this]
      . exact .inr e
    . rintro j d Z S' hd ⟨found,n,w2,rfl,rfl,pre,on,hfl⟩
      obtain⟨f,ef,rfl⟩:=get_map hd
      have hj:=zW ef
      have gf:=hq.good f (qe ef)
      obtain⟨fl1,fl2⟩:=zgZ hq ef
      obtain⟨s1,s2,s3⟩:=zt1 hp hq ep ef
      have hlo:WK p f<=pHi p f->WK p f=n:=fun z=>by
        rcases on with e | ⟨e1,e2⟩
        . rw [s1 z,e,fl1]
        . exfalso
          have h1:=e2 (by intro z;rw [z] at ef;simp at ef) i p (qf _) ep
          have h2:f.hi<endOf qs:=by
            rcases qbi f.hi (endOf qs) with g | g
            . exact g
            . have:=zgX hq g
              rw [W5 hq ef ⟨gf.le,qw _⟩] at this;cases this
          have h3:¬ pStart p f<=pEnd p f:=by unfold pStart pEnd;lia
          unfold WK pHi at z
          rw [if_neg h3,if_neg h3] at z
          lia
      walk_at "g"
      refine⟨_,p,f,found,rfl,Y6,pre.isR,gp,gf,by lia,pre.need mono hlo s2,fun rs hr=>?_⟩
      rw [V6]
      walk_at "g"
      refine⟨rs,_,_,rfl,rfl,pre.put hlo s2 hr,?_,by have:=hr.len;lia⟩
      rcases on with e | ⟨e1,e2⟩
      . left
        rw [fl2,<- s3,e,fl1]
      . right
        rw [if_neg]
        . exact⟨e1,e2⟩
        . intro z
          have:=hlo z
          have hc:=s2 (WK p f) (qw _) z
          rw [e1 _ (by lia)] at hc;cases hc
    . rintro Z S' ⟨found,n,w2,rfl,rfl,pre,on,hfl⟩
      rw [qb] at on hfl
      refine⟨found,n,_,_,rfl,rfl,⟨pre,?_⟩,by rw [Nat.succ_mul];exact hfl⟩
      rcases on with e | ⟨e1,e2⟩
      . have eq:XC qs qs.length=endOf qs:=by unfold XC;rw [qq (qf _)]
        rw [eq] at e
        rw [el2]
        by_cases hf:p.fin<endOf qs
        . left
          rw [e]
          unfold cutAt
          have:=zmo gp
          rw [if_neg (by lia),if_pos hf]
        . right
          have hn1:p.lo<=n:=by
            rw [e];unfold cutAt
            have:=gp.le
            (repeat' split)<;>lia
          refine⟨fun h hh'=>zpH hp hq ep h (by lia) (fun hle=>?_) (by lia),fun _ k p' hk ek=>?_⟩
          . rcases gp.st with z | z
            . rw [zhi z]
              have:=znG z
              lia
            . rw [zhx z]
              have:=znd z
              unfold cutAt at e
              (repeat' split at e)<;>lia
          . have gp':=hp.good p' (qe ek)
            have a1:=W5 hp ep (h:=p.hi) ⟨gp.le,qw _⟩
            have a2:=W5 hp ek (h:=p'.lo) ⟨qw _,gp'.le⟩
            rw [zgB] at a2
            have hlt:p.hi<=p'.lo:=qa7 (apart hp (by lia) ep ek)
            have:=zcn hp a1 a2 hlt
            unfold Pc.fin at hf
            lia
      . exact .inr ⟨e1,fun z k p hk ek=>e2 z k p (by lia) ek⟩
  . rintro Z S' ⟨found,n,w1,w2,rfl,rfl,I,hfl⟩
    rw [qb] at I hfl
    walk_at "g"
    refine Yz (zf6 found) (q found I.pre.isR (fun h=>I.pre.done ?_ ?_ h) hfl)
    . intro x hx
      unfold comp
      rw [ze2]
      . rfl
      . intro q hq'
        have hl:0<ps.length:=List.length_pos_of_mem hq'
        have h0:ps[0]?=some (ps[0]'hl):=qc _
        have:=lo_le hp h0 hq'
        have e:XC ps 0=(ps[0]'hl).lo:=by unfold XC;rw [h0]
        lia
    . intro x hx
      rcases I.on with e | ⟨e1,e2⟩
      . have eq:XC ps ps.length=endOf ps:=by unfold XC;rw [qq (qf _)]
        unfold comp
        rw [zgX hp (by lia)];rfl
      . exact e1 x hx
def zbP:ZS:=fun ds S Q=>∃ (n:Nat) (p:Pc) (lo hi:Int) (f:Int->Option Int) (a:Int) (ps:List Pc),ds=[.ref n,Pd p,.int lo,.int hi]/\S[n]?=some (.lst (ps.map Pd))/\(p.st=0\/p.st=1)/\ps.length<=9000 /\
 zht f/\Pre f a lo ps/\lo<=hi+1/\(∀ x,lo<=x->x<=hi->f x=some (p.led x))/\∀ qs,Pre f a (hi+1) qs->qs.length<=ps.length+1->Q .non (S.set n (.lst (qs.map Pd)))
abbrev zka:DS :=
  (Zd (dCall zd6 (zf Z2 (zf ZQ (zf ZL (zf (dCall V0 (zf Z1 Yy)) (zf zk0 zG)))))))
theorem zoc:BodyOk 4 zka zbP:=by
  rintro ds S Q ⟨n,p,lo,hi,f,a,ps,rfl,hn,hst,hl,mono,pre,hlh,hf,q⟩
  unfold zka
  have hf2:∀ x,lo<=x->x<=hi->f x=some (p.led lo+p.st*(x-lo)):=fun x h1 h2=>by
    rw [hf x h1 h2,zb0 hst,zb0 hst]
    rcases hst with e | e<;>rw [e]<;>simp<;>lia
  walk_at "g"
  refine⟨p,_,rfl,hst,?_⟩
  walk_at "g"
  refine⟨_,_,_,_,_,ps,rfl,hn,pre.isR,hst,by lia,pre.need mono (fun _=>rfl) hf2,fun qs hq=>fin_same (q qs ?_ hq.len)⟩
  have:=pre.put (fun _=>rfl) hf2 hq
  by_cases c:lo<=hi
  . rw [if_pos c] at this;exact this
  . rw [if_neg c] at this
    rw [show hi+1=lo by lia];exact this
def zbN:ZS:=fun ds S Q=>∃ (n:Nat) (p r:Pc) (lo hi:Int) (f:Int->Option Int) (a:Int) (ps:List Pc),ds=[.ref n,Pd p,Pd r,.int lo,.int hi]/\S[n]?=some (.lst (ps.map Pd))/\p.st=1/\r.st=0/\ps.length<=8000 /\
 zht f/\Pre f a lo ps/\lo<=hi+1/\(∀ x,lo<=x->x<=hi->f x=some (min (p.led x) (r.led x)))/\∀ qs,Pre f a (hi+1) qs->qs.length<=ps.length+2->Q .non (S.set n (.lst (qs.map Pd)))
abbrev zfR:DS :=
    (zA (zL (Z7 Zq (dCall V0 (zf ZQ Xf)) (dCall V0 (zf Z1 Xf))) (zu 5))
 (zA (zL (dB zd0 (zf Zx (zf (Z7 Zy ZL (dB Wu (zf Zr (zf (Yh Yi ZD) zG)))) zG))) (zu 6))
 (zA (Zd (dCall zbP (zf Z2 (zf Z1 (zf ZL ua6)))))
 (Zd (dCall zbP (zf Z2 (zf ZQ (zf (Z7 Zy Yq ZD) ua4))))))))
theorem zjn:BodyOk 7 zfR zbN:=by
 rintro ds S Q ⟨n,p,r,lo,hi,f,a,ps,rfl,hn,hp,hr,hl,mono,pre,hlh,hf,q⟩
 unfold zfR
 walk_at "g"
 refine⟨r,_,rfl,.inl hr,?_⟩
 walk_at "g"
 refine⟨p,_,rfl,.inr hp,?_⟩
 walk_at "g"
 refine⟨n,p,_,_,f,a,ps,rfl,hn,.inr hp,by lia,mono,pre,by lia,fun x h1 h2=>?_,fun qs hq ql=>?_⟩
 ·rw [hf x h1 (by lia)]
  rw [zhx hp,zhi hr] at *
  congr 1
  lia
 walk_at "g"
 refine⟨n,r,_,_,f,a,qs,rfl,?_,.inl hr,by lia,mono,hq,by lia,fun x h1 h2=>?_,fun rs hrs rl=>fin_same ?_⟩
 ·rw [qJ];exact zW hn
 ·rw [hf x (by lia) h2]
  rw [zhx hp,zhi hr] at *
  congr 1
  lia
 ·rw [List.set_set]
  exact q rs hrs (by lia)
def zcV:ZS:=fun ds S Q=>∃ (n:Nat) (p r:Pc) (lo hi:Int) (f:Int->Option Int) (a:Int) (ps:List Pc),ds=[.ref n,Pd p,Pd r,.int lo,.int hi]/\S[n]?=some (.lst (ps.map Pd))/\(p.st=0\/p.st=1)/\(r.st=0\/r.st=1)/\ps.length<=8000 /\
 zht f/\Pre f a lo ps/\lo<=hi+1/\(∀ x,lo<=x->x<=hi->f x=some (min (p.led x) (r.led x)))/\∀ qs,Pre f a (hi+1) qs->qs.length<=ps.length+2->Q .non (S.set n (.lst (qs.map Pd)))
theorem znH {p r:Pc}(hp:p.st=0\/p.st=1)(e:p.st=r.st)(x y:Int):p.led x-r.led x=p.led y-r.led y:=by
  unfold Pc.led
  rw [<- e]
  rcases hp with e | e<;>rw [e]<;>simp<;>lia
abbrev zgE:DS :=
  (ZJ (dT (Z7 Xa zk0 zot)) (Zd (dCall zbN (zf Z2 (zf Z1 (zf ZQ (zf ZL ua4)))))) (ZJ (dT (Z7 oLt zk0 zot)) (Zd (dCall zbN (zf Z2 (zf ZQ (zf Z1 (zf ZL ua4)))))) (ZJ (dT (Z7 oLt (dCall V0 (zf Z1 Xf)) (dCall V0 (zf ZQ Xf)))) (Zd (dCall zbP (zf Z2 (zf Z1 (zf ZL ua4))))) (Zd (dCall zbP (zf Z2 (zf ZQ (zf ZL ua4))))))))
theorem zkO:BodyOk 5 zgE zcV:=by
 rintro ds S Q ⟨n,p,r,lo,hi,f,a,ps,rfl,hn,hp,hr,hl,mono,pre,hlh,hf,q⟩
 unfold zgE
 walk_at "g"
 refine ZM (fun g=>?_) (fun g=>?_)
 ·walk_at "g"
  exact⟨n,p,r,_,_,f,a,ps,rfl,hn,by lia,by lia,hl,mono,pre,hlh,hf,fun qs h1 h2=>fin_same (q qs h1 h2)⟩
 walk_at "g"
 refine ZM (fun g2=>?_) (fun g2=>?_)
 ·walk_at "g"
  exact⟨n,r,p,_,_,f,a,ps,rfl,hn,by lia,by lia,hl,mono,pre,hlh,fun x h1 h2=>by rw [hf x h1 h2,Int.min_comm],fun qs h1 h2=>fin_same (q qs h1 h2)⟩
 have e:p.st=r.st:=by lia
 walk_at "g"
 refine⟨p,_,rfl,hp,?_⟩
 walk_at "g"
 refine⟨r,_,rfl,hr,?_⟩
 walk_at "g"
 refine ZM (fun g3=>?_) (fun g3=>?_)
 ·walk_at "g"
  refine⟨n,p,_,_,f,a,ps,rfl,hn,hp,by lia,mono,pre,hlh,fun x h1 h2=>?_,fun qs h1 h2=>fin_same (q qs h1 (by lia))⟩
  rw [hf x h1 h2]
  have:=znH hp e x lo
  congr 1
  lia
 ·walk_at "g"
  refine⟨n,r,_,_,f,a,ps,rfl,hn,hr,by lia,mono,pre,hlh,fun x h1 h2=>?_,fun qs h1 h2=>fin_same (q qs h1 (by lia))⟩
  rw [hf x h1 h2]
  have:=znH hp e x lo
  congr 1
  lia
def zvo:Option Int->Option Int->Option Int
 | some a,some b=>some (min a b)
 | some a,none=>some a
 | none,b=>b
def zlW (ps qs:List Pc):Prop:=∀ p∈ps.head?,∀ q∈qs.head?,p.lo=q.lo
def YB (ps qs:List Pc)(h:Int):Option Int:=zvo (at' ps h) (at' qs h)
theorem zrl {ps qs:List Pc}(hp:ZX ps)(hq:ZX qs)(hh:zlW ps qs)(p0:ps≠[])(q0:qs≠[]):zht (YB ps qs):=fun a b x y ha hb hab=>by
 cases ps with
 | nil=>exact absurd rfl p0
 | cons p r =>
 cases qs with
 | nil=>exact absurd rfl q0
 | cons q s =>
 have el:p.lo=q.lo:=hh p rfl q rfl
 unfold YB at ha hb
 have hlo:p.lo<=a:=by
  cases h1:at' (p::r) a with
  | some u=>exact (zeB hp h1).2
  | none =>
   cases h2:at' (q::s) a with
   | some v=>rw [el];exact (zeB hq h2).2
   | none=>rw [h1,h2] at ha;cases ha
 cases h1:at' (p::r) b with
 | some u =>
  obtain⟨u',hu'⟩:=zeN hp h1 hlo hab
  have m1:=zcn hp hu' h1 hab
  cases h2:at' (q::s) b with
  | some v =>
   obtain⟨v',hv'⟩:=zeN hq h2 (by lia) hab
   have m2:=zcn hq hv' h2 hab
   rw [h1,h2] at hb
   rw [hu',hv'] at ha
   cases ha;cases hb
   show min u' v'<=min u v
   lia
  | none =>
   rw [h1,h2] at hb
   cases hb
   rw [hu'] at ha
   cases h3:at' (q::s) a with
   | some v'=>rw [h3] at ha;cases ha;show min u' v'<=_;lia
   | none=>rw [h3] at ha;cases ha;exact m1
 | none =>
  cases h2:at' (q::s) b with
  | some v =>
   obtain⟨v',hv'⟩:=zeN hq h2 (by lia) hab
   have m2:=zcn hq hv' h2 hab
   rw [h1,h2] at hb
   cases hb
   rw [hv'] at ha
   cases h3:at' (p::r) a with
   | some u'=>rw [h3] at ha;cases ha;show min u' v'<=_;lia
   | none=>rw [h3] at ha;cases ha;exact m2
  | none=>rw [h1,h2] at hb;cases hb
def zey:ZS:=fun ds S Q=>∃ (ps qs:List Pc),ds=[.tup (ps.map Pd),.tup (qs.map Pd)]/\ZX ps/\ZX qs/\ps.length<=900/\qs.length<=900/\zlW ps qs /\
 ∀ rs,ZX rs->(∀ h,at' rs h=YB ps qs h)->rs.length<=2*(ps.length+qs.length)->Q (.tup (rs.map Pd)) S
structure Stand (ps:List Pc)(i:Nat)(h:Int):Prop where
 lo:∀ p,ps[i]?=some p->p.lo<=h
 hi:∀ (t:Nat) p,ps[i+t]?=some p->h<=p.hi
 fin:i=ps.length->∀ x,h<=x->at' ps x=none
theorem Stand.next {ps:List Pc}(hr:ZX ps){i:Nat}{p:Pc}(ep:ps[i]?=some p):Stand ps (i+1) (p.hi+1):=by
 refine⟨fun q hq=>?_,fun t q hq=>?_,fun e x hx=>?_⟩
 ·rw [(hr.link i p q ep hq).nx];exact qw _
 ·have:=apart hr (show i<i+1+t by lia) ep hq
  have:=(hr.good q (qe hq)).le
  lia
 ·refine zgX hr ?_
  rw [(zoZ hr ep).2 (qq (by lia))];exact hx
theorem Stand.stay {ps:List Pc}(hr:ZX ps){i:Nat}{h h':Int}{p:Pc}(ep:ps[i]?=some p)(s:Stand ps i h)(h1:h<=h')(h2:h'<=p.hi):Stand ps i h':=by
 refine⟨fun q hq=>?_,fun t q hq=>?_,fun e x hx=>?_⟩
 ·have:=s.lo q hq;lia
 ·rcases qaW t with z | z
  ·subst z
   rw [Nat.add_zero,ep] at hq
   cases hq;exact h2
  ·have:=apart hr (show i<i+t by lia) ep hq
   have:=(hr.good q (qe hq)).le
   lia
 ·have:=zW ep;lia
theorem zle {α:Type}(xs:List α)(i:Nat)(h:i<=xs.length):cutD xs (some (i:Int)) none=xs.drop i:=by
 unfold cutD
 have e:W4 xs.length 0 (some (i:Int))=i:=by
  unfold W4
  simp only
  rw [if_neg (by lia)];lia
 rw [e]
 show (xs.drop i).take (xs.length-i)=_
 rw [qbw (by simp)]
theorem zqz (qs:List Pc)(h:Int):YB [] qs h=at' qs h:=rfl
theorem zpX (ps:List Pc)(h:Int):YB ps [] h=at' ps h:=by
  unfold YB
  show zvo (at' ps h) none=_
  cases at' ps h<;>rfl
theorem zov {ps:List Pc}{i:Nat}{p:Pc}(h:ps[i]?=some p):Y8 (ps.map Pd) (i:Int)=some (Pd p):=zcB (by rw [qi,h];rfl)
abbrev zj9:DS :=
    (zA (ZJ (dOr (dT (Z7 oEq (dB YK Zh) Zw)) (dT (Z7 oEq (dB YK Yx) Zw))) (zT (Z7 Zy Z2 Z1)) zX)
 (zA (zL (Xx zG) (zu 2))
 (zA (zL (Z7 ZW Yt Zw) (zu 3))
 (zA (zL Zw (zu 4))
 (zA (zL Zw (zu 5))
 (zA (zeZ (zdH (dT (Z7 oLt Zx (dB YK Zh))) (dT (Z7 oLt Zr (dB YK Yx)))) (zA (zL (dB zd0 (zf (Z7 ZW (Z7 ZW Z2 Zx) ZD) (zf (Z7 ZW (Z7 ZW Z1 Zr) ZD) zG))) (zu 6))
 (zA (Zd (dCall zcV (zf ZQ (zf (Z7 ZW Z2 Zx) (zf (Z7 ZW Z1 Zr) (zf ZL ua6))))))
 (zA (zL (Z7 Zy Yq ZD) (zu 3))
 (zA (sJ (zL (zjF (dT (Z7 oEq (Z7 ZW (Z7 ZW Z2 Zx) ZD) Yq)) (Z7 Zy Zx ZD) Zx) (zu 4)))
 (zL (zjF (dT (Z7 oEq (Z7 ZW (Z7 ZW Z1 Zr) ZD) Yq)) (Z7 Zy Zr ZD) Zr) (zu 5)))))))
 (zA (Y5 (Zm (Z7 Zy (dSl zij Z2 (some Zx) none) (dSl zij Z1 (some Zr) none))) (zu 7) (Zd (dCall zbP (zf ZQ (zf XQ (zf (dB Wu (zf ZL (zf zx0 zG))) (zf zxn zG)))))))
 (zT (dB zfL Yy)))))))))
theorem zoM:BodyOk 8 zj9 zey:=by
  rintro ds S Q ⟨ps,qs,rfl,hp,hq,hpl,hql,hh,q⟩
  unfold zj9
  walk_at "g"
  rw [qb]
  refine ZM (fun g=>?_) (fun g=>?_)
  . walk_at "g"
    refine zl7 (by rw [qb,qb];unfold big;lia) ?_
    have:ps=[]:=qad.mp (by lia)
    subst this
    walk_at "g"
    refine fin_same (q qs hq (fun h=>(zqz qs h).symm) (by lia))
  walk_at "g"
  rw [qb]
  refine ZM (fun g2=>?_) (fun g2=>?_)
  . walk_at "g"
    refine zl7 (by rw [qb,qb];unfold big;lia) ?_
    have:qs=[]:=qad.mp (by lia)
    subst this
    walk_at "g"
    rw [qbh,qU]
    refine fin_same (q ps hp (fun h=>(zpX ps h).symm) (by lia))
  have p0:ps≠[]:=fun e=>g (by rw [e];rfl)
  have q0:qs≠[]:=fun e=>g2 (by rw [e];rfl)
  have mono:=zrl hp hq hh p0 q0
  have ep0:ps[0]?=some (ps[0]'(by lia)):=qc _
  have eq0:qs[0]?=some (qs[0]'(by lia)):=qc _
  generalize ps[0]'(by lia)=pa at ep0
  generalize qs[0]'(by lia)=qa at eq0
  have elo:pa.lo=qa.lo:=hh pa (by rw [qaG];exact ep0) qa (by rw [qaG];exact eq0)
  have aa0:Y8 (ps.map Pd) 0=some (Pd pa):=zov ep0
  have sta:∀ {ts:List Pc} {t:Pc},ZX ts->ts[0]?=some t->Stand ts 0 t.lo:=fun {ts t} ht e=>by
    refine⟨fun p hp=>by rw [e] at hp;cases hp;exact qw _,fun k p hp=>?_,fun z=>by have:=zW e;lia⟩
    have:=lo_le ht e (qe hp)
    have:=(ht.good p (qe hp)).le
    lia
  walk_at "g"
  refine zxz (fun m Z S' => ∃ (i j : Nat) (hour : Int) (found : List Pc) (w1 w2 : Option D), m = ps.length + qs.length - (i + j) ∧ i ≤ ps.length ∧ j ≤ qs.length ∧ Z = [some (.tup (ps.map Pd)), some (.tup (qs.map Pd)), some (.ref S.length), some (.int hour), some (.int i), some (.int j), w1, w2] ∧ S' = S ++ [.lst (found.map Pd)] ∧ found.length ≤ 2 * (i + j) ∧
      Pre (YB ps qs) pa.lo hour found/\Stand ps i hour/\Stand qs j hour)
    (fun Z S'=>∃ (i j:Nat) (hour:Int) (found:List Pc) (w1 w2:Option D),i<=ps.length/\j<=qs.length/\(i=ps.length\/j=qs.length)/\Z=[some (.tup (ps.map Pd)),some (.tup (qs.map Pd)),some (.ref S.length),some (.int hour),some (.int i),some (.int j),w1,w2]/\S'=S++[.lst (found.map Pd)]/\found.length<=2*(i+j) /\
      Pre (YB ps qs) pa.lo hour found/\Stand ps i hour/\Stand qs j hour)
    (ps.length+qs.length) ⟨0,0,pa.lo,[],none,none,by simp,qO _,qO _,rfl,rfl,by simp,Pre.start _ _,sta hp ep0,by rw [elo];exact sta hq eq0⟩ ?_ ?_
  . -- behind the loop
    rintro Z S' ⟨i,j,hour,found,w1,w2,hil,hjl,h,rfl,rfl,hfl,pre,s1,s2⟩
    have fin:∃ (ts:List Pc) (k:Nat),ZX ts/\k<=ts.length/\ps.drop i++qs.drop j=ts.drop k/\(∀ h,hour<=h->YB ps qs h=at' ts h)/\Stand ts k hour:=by
      rcases h with h | h
      . refine⟨qs,j,hq,hjl,by rw [h,List.drop_length];rfl,fun x hx=>?_,s2⟩
        unfold YB
        rw [s1.fin h x hx];rfl
      . refine⟨ps,i,hp,hil,by rw [h,List.drop_length,qU],fun x hx=>?_,s1⟩
        unfold YB
        rw [s2.fin h x hx]
        cases at' ps x<;>rfl
    obtain⟨ts,k,ht,hkl,ets,hf,st⟩:=fin
    have hlen:(ps.drop i++qs.drop j).length=ps.length+qs.length-(i+j):=by
      rw [qh,qas,qas];lia
    rw [ets,qas] at hlen
    walk_at "g"
    rw [zle _ _ (by rw [qb];exact hil),zle _ _ (by rw [qb];exact hjl)]
    refine zl7 (by rw [qas,qas,qb,qb];unfold big;lia) ?_
    rw [<- List.map_drop,<- List.map_drop,<- qC,ets]
    walk_at "g"
    refine YQ (fun t Z S'=>∃ (found':List Pc) (w:Option D),Z=[some (.tup (ps.map Pd)),some (.tup (qs.map Pd)),some (.ref S.length),some (.int hour),some (.int i),some (.int j),w1,w]/\S'=S++[.lst (found'.map Pd)]/\found'.length<=found.length+t /\
      (t=0->Pre (YB ps qs) pa.lo hour found')/\(0<t->Pre (YB ps qs) pa.lo (XC ts (k+t)) found'/\hour<=XC ts (k+t))) ⟨found,w2,rfl,rfl,by lia,fun _=>pre,fun z=>by lia⟩ (fun _ _ _ _=>True.intro) ?_ ?_
    . rintro t d Z S' hd ⟨found',w,rfl,rfl,hfl',pr0,pr1⟩
      obtain⟨p,ep,rfl⟩:=get_map hd
      rw [List.getElem?_drop] at ep
      have htl:=zW ep
      have gp:=ht.good p (qe ep)
      have gle:=gp.le
      obtain⟨el1,el2⟩:=zgZ ht ep
      have hhi:=st.hi t p ep
      have hpre:Pre (YB ps qs) pa.lo (max hour p.lo) found':=by
        rcases qaW t with z | z
        . subst z
          have:=st.lo p ep
          rw [show max hour p.lo=hour by lia]
          exact pr0 rfl
        . obtain⟨h1,h2⟩:=pr1 z
          rw [el1] at h1 h2
          rw [show max hour p.lo=p.lo by lia];exact h1
      walk_at "g"
      refine⟨_,p,_,_,YB ps qs,pa.lo,found',rfl,Y6,gp.st,by lia,mono,hpre,by lia,fun x h1 h2=>?_,fun rs hr hrl=>?_⟩
      . rw [hf x (by lia)]
        exact W5 ht ep ⟨by lia,h2⟩
      . rw [V6]
        walk_at "g"
        refine⟨rs,_,rfl,rfl,by lia,fun z=>by lia,fun _=>?_⟩
        rw [show k+(t+1)=k+t+1 by lia,el2]
        exact⟨hr,by lia⟩
    . rintro Z S' ⟨found',w,rfl,rfl,hfl',pr0,pr1⟩
      rw [qb,qas] at hfl' pr0 pr1
      walk_at "g"
      have hbelow:∀ x,x<pa.lo->YB ps qs x=none:=fun x hx=>by
        unfold YB
        rw [ze2 fun z hz=>by have:=lo_le hp ep0 hz;lia,ze2 fun z hz=>by have:=lo_le hq eq0 hz;lia]
        rfl
      rcases qaW (ts.length-k) with z | z
      . have pr:=pr0 z
        refine Yz (zf6 found') (q found' pr.isR (fun h=>pr.done hbelow (fun x hx=>?_) h) (by lia))
        rw [hf x hx]
        exact st.fin (by lia) x hx
      . obtain⟨pr,hl⟩:=pr1 z
        refine Yz (zf6 found') (q found' pr.isR (fun h=>pr.done hbelow (fun x hx=>?_) h) (by lia))
        rw [hf x (by lia)]
        refine zgX ht ?_
        have:XC ts (k+(ts.length-k))=endOf ts:=by
          unfold XC
          rw [qq (by lia)]
        rw [this] at hx;exact hx
  rintro nx' hE m Z S' ⟨i,j,hour,found,w1,w2,rfl,hil,hjl,rfl,rfl,hfl,pre,s1,s2⟩
  walk_at "g"
  rw [qb]
  refine ZM (fun c1=>?_) (fun c1=>?_)
  rotate_left
  . walk_at "g"
    exact hE _ _ ⟨i,j,hour,found,w1,w2,hil,hjl,.inl (by lia),rfl,rfl,hfl,pre,s1,s2⟩
  walk_at "g"
  rw [qb]
  refine ZM (fun c2=>?_) (fun c2=>?_)
  rotate_left
  . walk_at "g"
    exact hE _ _ ⟨i,j,hour,found,w1,w2,hil,hjl,.inr (by lia),rfl,rfl,hfl,pre,s1,s2⟩
  have ep:ps[i]?=some (ps[i]'(by lia)):=qc _
  have er:qs[j]?=some (qs[j]'(by lia)):=qc _
  generalize ps[i]'(by lia)=p at ep
  generalize qs[j]'(by lia)=r at er
  have ap:=zov ep
  have ar:=zov er
  have gp:=hp.good p (qe ep)
  have gr:=hq.good r (qe er)
  have p1:=s1.lo p ep
  have p2:=s1.hi 0 p ep
  have r1:=s2.lo r er
  have r2:=s2.hi 0 r er
  walk_at "g"
  refine⟨_,p,r,_,_,YB ps qs,pa.lo,found,rfl,Y6,gp.st,gr.st,by lia,mono,pre,by lia,fun x h1 h2=>?_,fun rs hr hrl=>?_⟩
  . unfold YB
    rw [W5 hp ep ⟨by lia,by lia⟩,W5 hq er ⟨by lia,by lia⟩];rfl
  rw [V6]
  walk_at "g"
  refine zr0 ?_
  walk_at "g"
  refine ZM (fun c3=>?_) (fun c3=>?_)
  . walk_at "g"
    refine ZM (fun c4=>?_) (fun c4=>?_)
    . walk_at "g"
      refine⟨ps.length+qs.length-(i+1+(j+1)),by lia,i+1,j+1,_,rs,_,_,rfl,by lia,by lia,rfl,rfl,by lia,hr,?_,?_⟩
      . rw [<- c3];exact Stand.next hp ep
      . rw [<- c4];exact Stand.next hq er
    . walk_at "g"
      refine⟨ps.length+qs.length-(i+1+j),by lia,i+1,j,_,rs,_,_,rfl,by lia,by lia,rfl,rfl,by lia,hr,?_,?_⟩
      . rw [<- c3];exact Stand.next hp ep
      . exact Stand.stay hq er s2 (by lia) (by lia)
  . walk_at "g"
    refine ZM (fun c4=>?_) (fun c4=>?_)
    . walk_at "g"
      refine⟨ps.length+qs.length-(i+(j+1)),by lia,i,j+1,_,rs,_,_,rfl,by lia,by lia,rfl,rfl,by lia,hr,?_,?_⟩
      . exact Stand.stay hp ep s1 (by lia) (by lia)
      . rw [<- c4];exact Stand.next hq er
    . exfalso;lia
theorem Rlx.of {f:Nat->List Pc}{k j:Nat}{ps c r:List Pc}(ec:∀ h,at' c h=comp (f k) ps h)(hr:ZX r)(er:∀ h,at' r h=YB (f j) c h):Rlx f k j ps r:=by
 have cw:∀ x v,at' c x=some v->∃ w,at' (f k) x=some w/\at' ps w=some v:=fun x v e=>by
  rw [ec] at e
  unfold comp at e
  cases h:at' (f k) x with
  | none=>rw [h] at e;cases e
  | some w=>rw [h] at e;exact⟨w,rfl,e⟩
 refine⟨hr,fun x v e=>?_,fun x v e=>?_,fun x w v h1 h2=>?_⟩
 ·rw [er] at e
  unfold YB at e
  cases ha:at' (f j) x with
  | none =>
   rw [ha] at e
   cases hb:at' c x with
   | none=>rw [hb] at e;cases e
   | some b =>
    rw [hb] at e
    have eb:b=v:=qA e
    subst eb
    obtain⟨w,h1,h2⟩:=cw x b hb
    exact .inr ⟨w,h1,h2,fun v' z=>by cases z⟩
  | some a =>
   rw [ha] at e
   cases hb:at' c x with
   | none=>rw [hb] at e;exact .inl e
   | some b =>
    rw [hb] at e
    have eb:min a b=v:=qA e
    rcases Int.le_total a b with g | g
    ·exact .inl (by rw [show v=a by lia])
    ·obtain⟨w,h1,h2⟩:=cw x b hb
     exact .inr ⟨w,h1,by rw [h2,show v=b by lia],fun v' z=>by cases z;lia⟩
 ·cases hb:at' c x with
  | none=>exact⟨v,by rw [er];unfold YB;rw [e,hb];rfl,qw _⟩
  | some b=>exact⟨min v b,by rw [er];unfold YB;rw [e,hb];rfl,by lia⟩
 ·have hb:at' c x=some v:=by rw [ec];unfold comp;rw [h1];exact h2
  cases ha:at' (f j) x with
  | none=>exact⟨v,by rw [er];unfold YB;rw [ha,hb];rfl,qw _⟩
  | some a=>exact⟨min a v,by rw [er];unfold YB;rw [ha,hb];rfl,by lia⟩
def Zz (V:Vl)(k:Nat):Str:=((V.bs[k]?).getD (Str.empty,(0,0))).1
theorem zqs {V:Vl}{k:Nat}{b:Str×(Int×Int)}(h:V.bs[k]?=some b):Zz V k=b.1:=by unfold Zz;rw [h];rfl
theorem zfx {V:Vl}{k:Nat}(h:k<V.bs.length):∃ b,V.bs[k]?=some b/\Zz V k=b.1:=⟨_,qc h,zqs (qc h)⟩
theorem zjK {V:Vl}(ok:YD V){k j:Nat}(hk:k<V.bs.length)(hj:j<V.bs.length):Zz V k=Zz V j↔k=j:=by
 obtain⟨b,hb,e⟩:=zfx hk
 obtain⟨c,hc,e'⟩:=zfx hj
 rw [e,e'];exact ziL ok hb hc
def ziC (V:Vl)(Z6:List (Str×D))(f:Nat->List Pc):Prop:=∀ k,k<V.bs.length->dval Z6 (Zz V k)=some (.tup ((f k).map Pd))
def XJ (f:Nat->List Pc)(j:Nat)(r:List Pc):Nat->List Pc:=fun a=>if a=j then r else f a
theorem ziC.put {V:Vl}(ok:YD V){Z6:List (Str×D)}{f:Nat->List Pc}(h:ziC V Z6 f){j:Nat}(hj:j<V.bs.length)(r:List Pc):ziC V (dput Z6 (Zz V j) (.tup (r.map Pd))) (XJ f j r):=fun k hk=>by
 rw [zin]
 unfold XJ
 by_cases e:k=j
 ·subst e;rw [if_pos rfl,if_pos rfl]
 ·rw [if_neg (fun z=>e ((zjK ok hk hj).mp z.symm)),if_neg e];exact h k hk
theorem zmr {Z6:List (Str×D)}{k:Str}{v d:D}(h:dval Z6 k=some d):(dput Z6 k v).length=Z6.length:=by
 have:=congrArg List.length (zpq Z6 k v)
 rw [h,show (some d).isSome=true from rfl,if_pos rfl,qb,qb] at this
 exact this
theorem zdv.low {V:Vl}{k j:Nat}{ps:List Pc}(sp:zdv V k j ps){w v:Int}(e:at' ps w=some v){w':Int}(h1:V.h0<=w')(h2:w'<=w):∃ v',at' ps w'=some v':=by
 rw [sp.led] at e
 rw [sp.led,if_pos h1]
 rw [if_pos (show V.h0<=w by lia)] at e
 by_cases ek:k=j
 ·rw [if_pos ek] at e ⊢
  by_cases g:w<=V.h1
  ·exact⟨_,by rw [if_pos (by lia)]⟩
  ·rw [if_neg g] at e;cases e
 ·rw [if_neg ek] at e ⊢
  cases hf:Xk (Xp V k j) w with
  | none=>rw [hf] at e;cases e
  | some u =>
   obtain⟨m0,g0,_⟩:=zcy (zct V k j) hf
   cases hf':Xk (Xp V k j) w' with
   | none=>exact absurd (show w'<=u by lia) (zd3 hf' u m0)
   | some u'=>exact⟨_,rfl⟩
theorem zdv.from {V:Vl}{k j:Nat}{ps:List Pc}(sp:zdv V k j ps){w v:Int}(e:at' ps w=some v):V.h0<=w:=by
 rw [sp.led] at e
 by_cases h:V.h0<=w
 ·exact h
 ·rw [if_neg h] at e;cases e
theorem zdv.dwn {V:Vl}{k j:Nat}{ps:List Pc}(sp:zdv V k j ps):WD V.h0 ps:=WD.of sp.isR (fun x v e=>sp.from e) fun x v e=>sp.low e (qw _) (sp.from e)
theorem Xh.comp {V:Vl}{s:Nat}{f:Nat->List Pc}{k j:Nat}{ps c:List Pc}(hd:0<=V.dl)(H:Xh V s f)(sp:zdv V k j ps)(ic:ZX c)(ec:∀ h,at' c h=comp (f k) ps h):WD V.h0 c:=by
 have cw:∀ x v,at' c x=some v->∃ w,at' (f k) x=some w/\at' ps w=some v:=fun x v e=>by
  rw [ec] at e
  unfold Dp.comp at e
  cases h:at' (f k) x with
  | none=>rw [h] at e;cases e
  | some w=>rw [h] at e;exact⟨w,rfl,e⟩
 refine WD.of ic (fun x v e=>?_) fun x v e=>?_
 ·obtain⟨w,h1,_⟩:=cw x v e
  exact (H.dom k x w h1).1
 ·obtain⟨w,h1,h2⟩:=cw x v e
  obtain⟨u,hu,le⟩:=(H.dwn k).at (H.isR k) h1 (qw _) (H.dom k x w h1).1
  obtain⟨v',hv'⟩:=sp.low h2 (H.ge hd hu) le
  exact⟨v',by rw [ec];unfold Dp.comp;rw [hu];exact hv'⟩
theorem WD.heads {a:Int}{ps qs:List Pc}(h1:WD a ps)(h2:WD a qs):zlW ps qs:=fun p hp q hq=>(h1 p hp).trans (h2 q hq).symm
def zms (V:Vl)(f:Nat->List Pc)(a j:Nat):Prop:=∀ x w u,a≠j->at' (f a) x=some w->Xk (Xp V a j) w=some u->∃ v',at' (f j) x=some v'/\v'<=u+V.dl
structure Xb (V:Vl)(s:Nat)(G:Nat->Nat->Prop)(f:Nat->List Pc)(chs:List Nat):Prop where
 hr:Xh V s f
 nd:chs.Nodup
 lt:∀ c∈chs,c<V.bs.length
 cl:∀ k j,G k j->j<V.bs.length->k∉chs->zms V f k j
theorem Xb.weak {V:Vl}{s:Nat}{G G':Nat->Nat->Prop}{f:Nat->List Pc}{chs:List Nat}(I:Xb V s G f chs)(h:∀ k j,G' k j->j<V.bs.length->G k j):Xb V s G' f chs:=⟨I.hr,I.nd,I.lt,fun k j g l n=>I.cl k j (h k j g l) l n⟩
theorem zms.of {V:Vl}{s:Nat}{f g:Nat->List Pc}{a j:Nat}{ps:List Pc}(hd:0<=V.dl)(H:Xh V s f)(sp:zdv V a j ps)(ga:g a=f a)(R:Rlx f a j ps (g j)):zms V g a j:=fun x w u ne h1 h2=>by
 rw [ga] at h1
 have h0:V.h0<=w:=by have:=H.ge hd h1;have:=(H.dom a x w h1).1;lia
 exact R.new x w (u+V.dl) h1 (by rw [sp.led,if_pos h0,if_neg ne,h2];rfl)
theorem Xb.same {V:Vl}{s:Nat}{G G':Nat->Nat->Prop}{f:Nat->List Pc}{chs:List Nat}{a j:Nat}{ps:List Pc}(hd:0<=V.dl)(I:Xb V s G f chs)(sp:zdv V a j ps)(R:Rlx f a j ps (f j))(h:∀ k i,G' k i->i<V.bs.length->G k i\/(k=a/\i=j)):Xb V s G' f chs:=⟨I.hr,I.nd,I.lt,fun k i g l n=>by
 rcases h k i g l with g | ⟨rfl,rfl⟩
 ·exact I.cl k i g l n
 ·exact zms.of hd I.hr sp rfl R⟩
theorem Xb.put {V:Vl}{s:Nat}{G G':Nat->Nat->Prop}{f:Nat->List Pc}{chs:List Nat}{a j:Nat}{ps r:List Pc}(hd:0<=V.dl)(I:Xb V s G f chs)(hj:j<V.bs.length)(sp:zdv V a j ps)(R:Rlx f a j ps r)(h:∀ k i,G' k i->i<V.bs.length->G k i\/(k=a/\i=j)):Xb V s G' (XJ f j r) ((chs.filter fun c=>!decide (c=j))++[j]):=by
 have hj':XJ f j r j=r:=by unfold XJ;rw [if_pos rfl]
 have hk':∀ k,k≠j->XJ f j r k=f k:=fun k e=>by unfold XJ;rw [if_neg e]
 refine⟨I.hr.relax hd sp R,?_,fun c hc=>?_,fun k i g l n=>?_⟩
 ·refine qa6.mpr ⟨I.nd.sublist List.filter_sublist,by simp,fun x hx y hy e=>?_⟩
  have e1:y=j:=by simpa using hy
  subst e e1
  have:=(Wc.mp hx).2
  simp at this
 ·rcases qK.mp hc with h | h
  ·exact I.lt c (Wc.mp h).1
  ·have:c=j:=by simpa using h
   lia
 ·have n1:k≠j:=fun e=>n (qK.mpr (.inr (by rw [e];simp)))
  have n2:k∉chs:=fun m=>n (qK.mpr (.inl (Wc.mpr ⟨m,by simp [n1]⟩)))
  rcases h k i g l with g | ⟨rfl,rfl⟩
  ·intro x w u ne h1 h2
   rw [hk' k n1] at h1
   obtain⟨v',hv,le⟩:=I.cl k i g l n2 x w u ne h1 h2
   by_cases e:i=j
   ·subst e
    rw [hj']
    obtain⟨v2,h3,h4⟩:=R.old x v' hv
    exact⟨v2,h3,by lia⟩
   ·rw [hk' i e];exact⟨v',hv,le⟩
  ·exact zms.of hd I.hr sp (hk' _ n1) (by rw [hj'];exact R)
theorem Xh.few {V:Vl}{s:Nat}{f:Nat->List Pc}(H:Xh V s f)(h23:V.h1<=V.h0+23)(j:Nat):(f j).length<=24:=by
 have:=znK (H.isR j) (H.dom j)
 lia
theorem Xb.start {V:Vl}{s:Nat}{G:Nat->Nat->Prop}(hs:s<V.bs.length){ps:List Pc}(ip:ZX ps)(ap:∀ h,at' ps h=zgg V.h0 V.h1 h):Xb V s G (XJ (fun _=>[]) s ps) [s]:=by
 have h1:XJ (fun _=>[]) s ps s=ps:=by unfold XJ;rw [if_pos rfl]
 have h2:∀ k,k≠s->XJ (fun _=>[]) s ps k=[]:=fun k e=>by unfold XJ;rw [if_neg e]
 have is:∀ j x v,at' (XJ (fun _=>[]) s ps j) x=some v->j=s/\V.h0<=x/\x<=V.h1/\v=x:=fun j x v e=>by
  by_cases ej:j=s
  ·subst ej
   rw [h1,ap] at e
   unfold zgg at e
   by_cases g:V.h0<=x/\x<=V.h1
   ·rw [if_pos g] at e;exact⟨rfl,g.1,g.2,(qA e).symm⟩
   ·rw [if_neg g] at e;cases e
  ·rw [h2 j ej] at e;cases e
 have ir:∀ j,ZX (XJ (fun _=>[]) s ps j):=fun j=>by
  by_cases ej:j=s
  ·subst ej;rw [h1];exact ip
  ·rw [h2 j ej];exact .nil
 have st:∀ x,V.h0<=x->x<=V.h1->at' (XJ (fun _=>[]) s ps s) x=some x:=fun x g1 g2=>by
  rw [h1,ap];unfold zgg;rw [if_pos ⟨g1,g2⟩]
 refine⟨⟨ir,fun j x v e=>⟨(is j x v e).2.1,(is j x v e).2.2.1⟩,fun j=>WD.of (ir j) (fun x v e=>(is j x v e).2.1) fun x v e=>?_,fun j x v e=>?_,st⟩,by simp,fun c hc=>?_,fun k j _ _ n x w u _ h3 _=>?_⟩
 ·obtain⟨rfl,g1,g2,_⟩:=is j x v e
  exact⟨_,st V.h0 (qw _) (by lia)⟩
 ·obtain⟨rfl,_,_,rfl⟩:=is j x v e
  exact .base
 ·have:c=s:=by simpa using hc
  lia
 ·have:=(is k x w h3).1
  exact absurd (show k∈[s] by simp [this]) n
def zvu (Z6:List (Str×D)):D->D
 | .str z=>(dval Z6 z).getD .non
 | _=>.non
theorem zpJ {V:Vl}(ok:YD V){j:Nat}(hj:j<V.bs.length):∀ {chs:List Nat},(∀ c∈chs,c<V.bs.length)->((chs.map fun k=>D.str (Zz V k)).filter fun d=>!eqv d (.str (Zz V j)))=(chs.filter fun c=>!decide (c=j)).map fun k=>D.str (Zz V k):=fun {chs} h=>by
 rw [List.filter_map]
 congr 1
 refine List.filter_congr fun c hc=>?_
 show (!eqv (.str (Zz V c)) (.str (Zz V j)))=_
 rw [zjQ]
 congr 1
 exact decide_eq_decide.mpr (zjK ok (h c hc) hj)
theorem zvy {own:Nat}{fv:List Nat}{xs:List D}{ok:Z5->Prop}{g:DG}{tc:DT}{te:DE}{Z:ZP}{S:Z5}{Q:DK}(P:Prop)(p:D->Bool)(f:D->D)(hok:ok S)(hbig:xs.length<=big)
  (step:∀ i d ys,xs[i]?=some d->LcW S xs p f i ys S->g d (zgD own fv Z) S fun ρ2 S2=>tc ρ2 S2 fun b S3=>if b=true then te ρ2 S3 fun y S4=>LcW S xs p f (i+1) (ys++[y]) S4/\(0<i+1->P) else LcW S xs p f (i+1) ys S3/\(0<i+1->P))
  (q:(0<xs.length->P)->New Q S ((xs.filter p).map f)):zoJ own fv g tc te Z Q ⟨xs,ok⟩ S:=by
 refine⟨hbig,fun i ys S'=>LcW S xs p f i ys S'/\(0<i->P),⟨⟨rfl,by simp⟩,fun h=>absurd h (WR _)⟩,fun i ys S' h=>by rw [h.1.1];exact hok,fun i d ys S' hd h=>?_,fun ys S' h=>?_⟩
 ·obtain⟨rfl,_⟩:=id h.1
  exact step i d ys hd h.1
 ·obtain⟨⟨rfl,rfl⟩,h2⟩:=h
  rw [qag];exact q h2
def zfr (V:Vl)(s:Nat)(f:Nat->List Pc):Prop:=Xh V s f/\∀ k,k<V.bs.length->zrS V f k
theorem zfr.uniq {V:Vl}{s:Nat}{f g:Nat->List Pc}(a:zfr V s f)(b:zfr V s g):f=g:=funext fun j=>zc8 (a.1.isR j) (b.1.isR j) fun x=>by
 by_cases h:V.h0<=x/\x<=V.h1
 ·exact (a.1.ear a.2 h.1 h.2).uniq (b.1.ear b.2 h.1 h.2) j
 ·cases e1:at' (f j) x with
  | some v=>exact absurd (a.1.dom j x v e1) h
  | none=>cases e2:at' (g j) x with
   | some v=>exact absurd (b.1.dom j x v e2) h
   | none=>rfl
open Classical in
noncomputable def Xm (V:Vl) (s:Nat):Nat->List Pc:=if h:∃ f,zfr V s f then Classical.choose h else fun _=>[]
theorem zrw {V:Vl}{s:Nat}{f:Nat->List Pc}(h:zfr V s f):f=Xm V s:=by
 unfold Xm
 rw [dif_pos ⟨f,h⟩]
 exact h.uniq (Classical.choose_spec (⟨f,h⟩:∃ f,zfr V s f))
noncomputable def Wm (V:Vl) (s:Nat):List D:=(List.range V.bs.length).map fun j=>.tup ((Xm V s j).map Pd)
theorem zlJ {V:Vl}{s j:Nat}{d:D}(h:(Wm V s)[j]?=some d):j<V.bs.length/\d=.tup ((Xm V s j).map Pd):=by
 unfold Wm at h
 rw [qi] at h
 by_cases hj:j<V.bs.length
 ·rw [qaT hj] at h;exact⟨hj,(qA h).symm⟩
 ·rw [qq (by rw [qaj];lia)] at h;cases h
theorem ziy {V:Vl}{s:Nat}:(Wm V s).length=V.bs.length:=by unfold Wm;rw [qb,qaj]
theorem ziu {V:Vl}{s j:Nat}(h:j<V.bs.length):(Wm V s)[j]?=some (.tup ((Xm V s j).map Pd)):=by unfold Wm;rw [qi,qaT h];rfl
def zce:ZS:=fun ds S Q=>∃ (v x:D) (z:Str) (V:Vl) (s:Nat),ds=[v,x,.str z]/\Xu S v V/\YD V/\zpZ S x V/\zh9 V s z/\V.h1<=V.h0+23/\∀ (T:Z5) (k:Nat),zfr V s (Xm V s)->(S++T)[k]?=some (.lst (Wm V s))->S.length<=k->Q (.ref k) (S++T)
abbrev zfl:DS :=
    (zA (zL (dCall zbs Zh) (zu 3))
 (zA (zL (zoL) (zu 4))
 (zA (Y5 (Zm ZL) (zu 5) (zhC Zx Zr (dTup zG)))
 (zA (zhC Zx ZQ (dCall zc9 (zf (YS "first" Z2) (zf (YS "last" Z2) zG))))
 (zA (zL (Xx Yy) (zu 6))
 (zA (zeZ (dT (Z7 Xa (dB YK ua6) Zw)) (zA (zL (dM zoo Yq (zf Zw zG)) (zu 7))
 (Y5 (Zm ZL) (zu 8) (zA (zL (dCall zey (zf (ziv Zx Wz) (zf (dCall zfn (zf (ziv Zx XQ) (zf (ziv Z1 (dTup (zf XQ ua8))) zG))) zG))) (zu 9))
 (ZJ (dT (Z7 V8 vr9 (ziv Zx Wz))) (zA (zhC Zx Wz vr9)
 (zL (Z7 Zy (YX 1 [8] (Zm Yq) (zu 0) (dT (Z7 V8 Z2 Z1)) Z2) (Xx ua8)) (zu 6))) zX)))))
 (zT (YX 1 [4] (Zm ZL) (zu 0) Yv (ziv Z1 Z2)))))))))
theorem zih:BodyOk 10 zfl zce:=by
 rintro ds S Q ⟨v,x,z,V,s,rfl,hv,ok,hx,hz,h23,q⟩
 unfold zfl
 have b12:=ok.b12
 have hd:=ok.dl
 obtain⟨m,g,b',f',rfl,hm,_⟩:=id hv
 obtain⟨xm,xk,rfl,hxm,hxe⟩:=hx
 obtain⟨zb,hzb,rfl⟩:=hz
 have hs:s<V.bs.length:=zW hzb
 have fl1:∀ b∈V.bs,fl 20 (.str b.1)=true:=fun b hb=>zeT (ok.nm b hb) 20
 rw [<- zqs hzb]
 have fln:∀ {k:Nat},k<V.bs.length->fl 20 (.str (Zz V k))=true:=fun {k} hk=>by
  obtain⟨b,hb,e⟩:=zfx hk
  rw [e];exact fl1 b (qe hb)
 walk_at "g"
 refine⟨_,V,rfl,hv,by lia,?_⟩
 unfold New
 obtain⟨nl,hnl⟩:∃ nl,nl=(V.bs.map (·.1)).map D.str:=⟨_,rfl⟩
 have lnl:nl.length=V.bs.length:=by rw [hnl,qb,qb]
 have gnl:∀ {i:Nat} {d:D},nl[i]?=some d->i<V.bs.length/\d=.str (Zz V i):=fun {i d} h=>by
  have hi:i<V.bs.length:=by rw [<- lnl];exact zW h
  obtain⟨b,hb,e⟩:=zfx hi
  rw [hnl,qi,qi,hb] at h
  exact⟨hi,by rw [e];exact (qA h).symm⟩
 rw [<- hnl]
 walk_at "g"
 rw [show S++[Cell.lst nl]++[Cell.dk []]=S++Cell.lst nl::[Cell.dk []] by simp,show (S++[Cell.lst nl]).length=S.length+1 by simp]
 have k0:∀ T,Lst (S++Cell.lst nl::T) (.ref S.length) nl:=fun T=>Lst.at0
 have k1:∀ c T,(S++Cell.lst nl::c::T)[S.length+1]?=some c:=fun c T=>WQ _ _ 1
 have hmT:∀ T,(S++T)[m]?=some (.ins "Valley" (vF (.ref g) (.ref b') (.ref f') (Y7 V.hz) (.int V.h0) (.int V.h1) (.int V.dl))):=fun T=>Xe hm
 have hxT:∀ T,(S++T)[xm]?=some (.dt xk):=fun T=>Xe hxm
 walk_at "g"
 walk_at "h"
 refine YQ (fun i Z S'=>∃ (Z6:List (Str×D)) (w:Option D),S'=S++Cell.lst nl::[Cell.dk Z6]/\Z6.length<=i/\(∀ k,k<i->dval Z6 (Zz V k)=some (.tup []))/\Z=[some (.ref m),some (.ref xm),some (.str (Zz V s)),some (.ref S.length),some (.ref (S.length+1)),w,none,none,none,none]) ⟨[],none,rfl,qf _,fun k h=>absurd h (qbe _),rfl⟩ (fun i Z S' zq11=>by obtain⟨_,_,e,_⟩:=zq11;exact e▸k0 _) ?_ ?_
 ·rintro i d Z S' hd' ⟨Z6,w,rfl,hl,hk,rfl⟩
  obtain⟨li,rfl⟩:=gnl hd'
  walk_at "g"
  refine zdW.k (k1 _ _) (by unfold big;lia) (ziN ?_)
  refine⟨_,_,rfl,by have:=zis Z6 (Zz V i) (.tup []);lia,fun k h=>?_,rfl⟩
  rw [zin]
  by_cases e:k=i
  ·rw [e,if_pos rfl]
  ·rw [if_neg (fun z=>e ((zjK ok (by lia) li).mp z.symm))];exact hk k (by lia)
 rintro Z S' ⟨Z6,w,rfl,hl,hk,rfl⟩
 rw [lnl] at hl hk
 have hV1:=hmT (Cell.lst nl::[Cell.dk Z6])
 walk_at "g"
 refine⟨_,_,rfl,fun ps ip ap _=>?_⟩
 walk_at "g"
 refine zdW.k (k1 _ _) (by unfold big;lia) (ziN ?_)
 have K0:ziC V (dput Z6 (Zz V s) (.tup (ps.map Pd))) (XJ (fun _=>[]) s ps):=ziC.put ok (fun k h=>hk k h) hs ps
 have L0:(dput Z6 (Zz V s) (.tup (ps.map Pd))).length<=20:=by have:=zis Z6 (Zz V s) (.tup (ps.map Pd));lia
 have I0:Xb V s (fun _ _=>True) (XJ (fun _=>[]) s ps) [s]:=Xb.start hs ip ap
 walk_at "h"
 generalize dput Z6 (Zz V s) (.tup (ps.map Pd))=kvs0 at K0 L0
 generalize XJ (fun _=>[]) s ps=f0 at K0 I0
 walk_at "g"
 have gp:∀ {Z6:List (Str×D)} {G:Z5} {p:Nat} {c:Cell},G[p]?=some c->(S++Cell.lst nl::Cell.dk Z6::G)[S.length+(p+2)]?=some c:=fun {Z6 G p c} h=>(WQ _ _ _).trans h
 refine zqS (fun m' Z S'=>∃ (Z6:List (Str×D)) (f:Nat->List Pc) (chs:List Nat) (G:Z5) (p:Nat) (w5 w7 w8 w9:Option D),m'=zgL V f*20+chs.length/\S'=S++Cell.lst nl::Cell.dk Z6::G/\G[p]?=some (.lst (chs.map fun k=>.str (Zz V k)))/\ziC V Z6 f/\Z6.length<=20/\Xb V s (fun _ _=>True) f chs/\Z=[some (.ref m),some (.ref xm),some (.str (Zz V s)),some (.ref S.length),some (.ref (S.length+1)),w5,some (.ref (S.length+(p+2))),w7,w8,w9]) _ ⟨kvs0,f0,[s],_,0,_,_,_,_,rfl,rfl,rfl,K0,L0,I0,rfl⟩ ?_
 rintro m' Z S' ⟨Z6,f,chs,G,p,w5,w7,w8,w9,rfl,rfl,hp,hK,hL,I,rfl⟩
 have hch:=gp (Z6:=Z6) hp
 have hch':=Lst.here hch
 walk_at "g"
 rw [qb]
 refine ZM (fun c0=>?_) (fun c0=>?_)
 ·obtain⟨a,rest,rfl⟩:∃ a rest,chs=a::rest:=by
   cases chs with
   | nil=>simp at c0
   | cons a r=>exact⟨a,r,rfl⟩
  have la:a<V.bs.length:=I.lt a (by simp)
  walk_at "g"
  refine zu9 (xs:=rest.map fun k=>.str (Zz V k)) hch (ziN ?_)
  rw [show (Cell.lst nl::Cell.dk Z6::G).set (p+2) (Cell.lst (rest.map fun k=>D.str (Zz V k)))=Cell.lst nl::Cell.dk Z6::G.set p (Cell.lst (rest.map fun k=>D.str (Zz V k))) from rfl]
  have hpr:(G.set p (Cell.lst (rest.map fun k=>D.str (Zz V k))))[p]?=some (.lst (rest.map fun k=>.str (Zz V k))):=qJ (zW hp)
  generalize G.set p (Cell.lst (rest.map fun k=>D.str (Zz V k)))=G0 at hpr
  have J0:Xb V s (fun k j=>k≠a\/j<0) f rest:=⟨I.hr,(qaJ.mp I.nd).2,fun c hc=>I.lt c (qg.mpr (.inr hc)),fun k j g l n=>I.cl k j True.intro l (fun z=>by
   rcases qg.mp z with z | z
   ·rcases g with g | g
    ·exact g z
    ·lia
   ·exact n z)⟩
  have k00:=k0 (Cell.dk Z6::G0)
  walk_at "g"
  walk_at "h"
  refine YQ (fun i Z S'=>∃ (Z6:List (Str×D)) (f':Nat->List Pc) (chs:List Nat) (G:Z5) (p:Nat) (w8 w9:Option D),zgL V f'*20+chs.length<zgL V f*20+(a::rest).length/\S'=S++Cell.lst nl::Cell.dk Z6::G/\G[p]?=some (.lst (chs.map fun k=>.str (Zz V k)))/\ziC V Z6 f'/\Z6.length<=20/\Xb V s (fun k j=>k≠a\/j<i) f' chs/\Z=[some (.ref m),some (.ref xm),some (.str (Zz V s)),some (.ref S.length),some (.ref (S.length+1)),w5,some (.ref (S.length+(p+2))),some (.str (Zz V a)),w8,w9]) ⟨Z6,f,rest,G0,p,_,_,by rw [qQ];lia,rfl,hpr,hK,hL,J0,rfl⟩ (fun i Z S' zq12=>by obtain⟨_,_,_,_,_,_,_,_,e,_⟩:=zq12;exact e▸k0 _) ?_ ?_
  ·clear hp hch hch' hK hL I J0 hpr k00
   rintro j d Z S' hd' ⟨Z6,f',chs,G,p,w8,w9,hm',rfl,hp,hK,hL,I,rfl⟩
   obtain⟨lj,rfl⟩:=gnl hd'
   have hV2:=hmT (Cell.lst nl::Cell.dk Z6::G)
   obtain⟨bn,hbn,ebn⟩:=zfx la
   obtain⟨cn,hcn,ecn⟩:=zfx lj
   obtain⟨ms,ps,hms,hps,hdv⟩:=hxe a j la lj bn cn hbn hcn
   rw [<- ebn,<- ecn] at hdv
   have sp:zdv V a j ps:=zf7.stp ok hbn hcn hms hps.isR hps.len hps.led
   have lenp:=sp.len
   have fa:=I.hr.few h23 a
   have fj:=I.hr.few h23 j
   walk_at "g"
   refine⟨_,DGt.k (k1 _ _) (hK j lj),?_⟩
   walk_at "g"
   refine⟨_,DGt.k (k1 _ _) (hK a la),?_⟩
   walk_at "g"
   refine⟨_,DGt.t (ks:=[.inr (Zz V a),.inr (Zz V j)]) (hxT _) hdv,?_⟩
   walk_at "g"
   refine⟨f' a,ps,rfl,I.hr.isR a,sp.isR,by lia,by lia,fun pa h1 pq h2=>?_,fun c ic ec lc=>?_⟩
   ·have e1:=I.hr.dwn a pa h1
    have e2:=sp.dwn pq h2
    have:=I.hr.ge hd (ztK (I.hr.isR a) h1)
    lia
   walk_at "g"
   have lc2:(f' a).length*ps.length<=24*28:=qbl fa lenp
   refine⟨f' j,c,rfl,I.hr.isR j,ic,by lia,by lia,WD.heads (I.hr.dwn j) (I.hr.comp hd sp ic ec),fun r ir er _=>?_⟩
   have R:Rlx f' a j ps r:=Rlx.of ec ir er
   walk_at "g"
   refine⟨_,DGt.k (k1 _ _) (hK j lj),?_⟩
   refine zsP ?_
   walk_at "g"
   refine zfV (fun ne=>?_) (fun eq=>?_)
   ·have I':=Xb.put hd I lj sp R (G':=fun k i=>k≠a\/i<j+1) fun k i g l=>by lia
    have less:=R.less hd I.hr I'.hr lj ne
    have K':=hK.put ok lj r
    have L':(dput Z6 (Zz V j) (.tup (r.map Pd))).length<=20:=by rw [zmr (hK j lj)];exact hL
    have l12:=zlO I.nd I.lt
    walk_at "g"
    refine zdW.k (k1 _ _) (by unfold big;lia) (ziN ?_)
    rw [show (Cell.lst nl::Cell.dk Z6::G).set 1 (Cell.dk (dput Z6 (Zz V j) (.tup (r.map Pd))))=Cell.lst nl::Cell.dk (dput Z6 (Zz V j) (.tup (r.map Pd)))::G from rfl]
    generalize dput Z6 (Zz V j) (.tup (r.map Pd))=kvs' at K' L'
    have hch:=gp (Z6:=kvs') hp
    have hch':=Lst.here hch
    walk_at "g"
    refine X4 (fun d=>!eqv d (.str (Zz V j))) id hch' (by rw [qb];unfold big;lia) (fun i d ys hd' hw=>?_) ?_
    ·obtain⟨c,hc,rfl⟩:∃ c,chs[i]?=some c/\d=.str (Zz V c):=by
      rw [qi] at hd'
      cases e:chs[i]? with
      | none=>rw [e] at hd';cases hd'
      | some b=>rw [e] at hd';exact⟨b,rfl,(qA hd').symm⟩
     have lc:=I.lt c (qe hc)
     walk_at "g"
     refine zub (b:=eqv (.str (Zz V c)) (.str (Zz V j))) (fln lc) (fln lj) rfl ?_
     cases e:eqv (.str (Zz V c)) (.str (Zz V j)) with
     | true =>
      walk_at "g"
      exact zsN hd' hw (by rw [e];rfl)
     | false =>
      walk_at "g"
      exact Yc hd' hw (by rw [e];rfl) rfl
    rw [zpJ ok lj I.lt,List.map_id]
    have lf:(chs.filter fun c=>!decide (c=j)).length<=12:=qX (qaM _ _) (by lia)
    generalize hA:(chs.filter fun c=>!decide (c=j))=A at I' lf
    unfold New
    walk_at "g"
    refine zuN (xs:=A.map fun k=>D.str (Zz V k)) (ys:=[.str (Zz V j)]) (Lst.here ?_) (Lst.here ?_) (by rw [qb];unfold big;simp;lia) ?_
    ·exact Y6
    ·exact WQ _ _ 1
    unfold New
    walk_at "g"
    have lj2:(A++[j]).length<=13:=by rw [qh];simp;lia
    refine⟨kvs',XJ f' j r,A++[j],G++[.lst (A.map fun k=>D.str (Zz V k)),.lst [.str (Zz V j)],.lst ((A.map fun k=>D.str (Zz V k))++[.str (Zz V j)])],G.length+2,some (.str (Zz V j)),some (.tup (r.map Pd)),?_,?_,?_,K',L',I',?_⟩
    ·have:zgL V (XJ f' j r)<zgL V f':=less
     lia
    ·simp
    ·rw [qj (by lia),qaY,qC];rfl
    ·rw [show (S++Cell.lst nl::Cell.dk kvs'::G++[Cell.lst (A.map fun k=>D.str (Zz V k)),Cell.lst [D.str (Zz V j)]]).length=S.length+(G.length+2+2) by simp];rfl
   ·subst eq
    walk_at "g"
    exact⟨Z6,f',chs,G,p,_,_,hm',rfl,hp,hK,hL,I.same hd sp R fun k i g l=>by lia,rfl⟩
  ·rintro Z S' ⟨Z6,f',chs,G,p,w8,w9,hm',rfl,hp,hK,hL,I,rfl⟩
   rw [lnl] at I
   exact⟨_,hm',Z6,f',chs,G,p,_,_,_,_,rfl,rfl,hp,hK,hL,I.weak fun k j _ l=>.inr l,rfl⟩
 ·have e0:chs=[]:=by
   cases chs with
   | nil=>rfl
   | cons a r=>simp at c0
  subst e0
  have k00:=k0 (Cell.dk Z6::G)
  walk_at "g"
  refine X4 (fun _=>true) (zvu Z6) k00 (by unfold big;lia) (fun i d ys hd' hw=>?_) ?_
  ·obtain⟨lj,rfl⟩:=gnl hd'
   walk_at "g"
   refine⟨_,DGt.k (k1 _ _) (hK i lj),?_⟩
   exact Yc hd' hw rfl (by show _=(dval Z6 (Zz V i)).getD .non;rw [hK i lj];rfl)
  rw [filter_true,show nl.map (zvu Z6)=(List.range V.bs.length).map fun j=>.tup ((f j).map Pd) from qbm fun i=>by
   rw [qi,qi]
   by_cases hi:i<V.bs.length
   ·rw [qaT hi]
    have e:=qc (l:=nl) (show i<nl.length by lia)
    rw [e,(gnl e).2]
    show some ((dval Z6 (Zz V i)).getD .non)=_
    rw [hK i hi];rfl
   ·rw [qq (by lia),qq (by rw [qaj];lia)];rfl]
  unfold New
  refine fin_same ?_
  rw [qp]
  have O:zfr V s f:=⟨I.hr,fun k hk j x w u hj hkj h1 h2=>I.cl k j True.intro hj (by simp) x w u hkj h1 h2⟩
  have e:=zrw O
  subst e
  exact q _ _ O (by rw [<- qp];exact Y6) (by simp)
open Classical in
noncomputable def zk4 (V:Vl) (s:Nat) (d:D):D:=if h:∃ j,∃ b:Str×(Int×Int),V.bs[j]?=some b/\d=.str b.1 then .tup ((Xm V s (choose h)).map Pd) else .non
theorem zlU {V:Vl}(ok:YD V){s j:Nat}{b:Str×(Int×Int)}(hb:V.bs[j]?=some b):zk4 V s (.str b.1)=.tup ((Xm V s j).map Pd):=by
 unfold zk4
 have h:∃ j,∃ b':Str×(Int×Int),V.bs[j]?=some b'/\D.str b.1=.str b'.1:=⟨j,b,hb,rfl⟩
 rw [dif_pos h]
 obtain⟨b',h1,h2⟩:=Classical.choose_spec h
 rw [(ziL ok hb h1).mp (D.str.inj h2)]
theorem zqB {V:Vl}(ok:YD V){s:Nat}:(V.bs.map fun b=>D.str b.1).map (zk4 V s)=Wm V s:=qbm fun i=>by
 rw [qi,qi]
 by_cases hi:i<V.bs.length
 ·rw [ziu hi]
  have e:=qc hi
  rw [e]
  exact congrArg some (zlU ok e)
 ·rw [qq (by lia),qq (by rw [ziy];lia)];rfl
def zeq:Wj:=fun ds S Q ex=>∃ (v:D) (V:Vl) (n n':Str),ds=[v,.str n,.str n']/\Xu S v V/\YD V/\V.h1<=V.h0+23/\fl 20 (.str n)=true/\fl 20 (.str n')=true/\(n∉V.bs.map (·.1)\/n'∉V.bs.map (·.1)->∀ T,ex "NoBeacon" (S++T))/\∀ i j,zh9 V i n->zh9 V j n'->zfr V i (Xm V i)->Q (.tup ((Xm V i j).map Pd)) S
abbrev zkr (ex : XR) : DS :=
    (zA (Zd (zb4 za2 ex (zf Z2 Yx)))
 (zA (Zd (zb4 za2 ex (zf Z2 Yy)))
 (zT (Z7 ZW (dCall zce (zf Z2 (zf (dCall zdY Zh) Yx))) (dM zmp (dCall zbs Zh) Yy)))))
theorem zow:zcC 3 zkr zeq:=by
 rintro ds S Q ex ⟨v,V,n,n',rfl,hv,ok,h23,fn,fn',no,q⟩
 unfold zkr
 have b12:=ok.b12
 walk_at "g"
 refine⟨_,V,n,rfl,hv,ok,fn,fun h T=>no (.inl h) T,fun h1=>?_⟩
 walk_at "g"
 refine⟨_,V,n',rfl,hv,ok,fn',fun h T=>no (.inr h) T,fun h2=>?_⟩
 walk_at "g"
 obtain⟨i,hi⟩:=zng h1
 obtain⟨j,hj⟩:=zng h2
 refine⟨_,V,rfl,hv,ok,fun T x hx=>?_⟩
 walk_at "g"
 refine⟨_,x,n,V,i,rfl,hv.old,ok,hx,hi,h23,fun T' k H hk _=>?_⟩
 walk_at "g"
 refine⟨_,V,rfl,hv.old.old,by lia,?_⟩
 unfold New
 have fl1:∀ b∈V.bs,fl 20 (.str b.1)=true:=fun b hb=>zeT (ok.nm b hb) 20
 obtain⟨bj,hbj,ej⟩:=id hj
 have lj:=zW hbj
 have hnl:(S++T++T'++[Cell.lst ((V.bs.map (·.1)).map D.str)])[(S++T++T').length]?=some (.lst ((V.bs.map (·.1)).map D.str)):=Y6
 walk_at "g"
 refine zs7 (j:=j) (e:=.str n') hnl ?_ fn' (by rw [qb,qb];unfold big;lia) ?_ ?_ (fun a e' ha he=>?_) ?_
 ·rw [qY,qaV,qaf];exact fl1
 ·rw [qi,qi,hbj,<- ej];rfl
 ·rw [zjQ];exact decide_eq_true rfl
 ·obtain⟨ba,hba⟩:∃ ba,V.bs[a]?=some ba:=⟨_,qc (by lia)⟩
  rw [qi,qi,hba] at he
  cases he
  rw [zjQ,<- ej]
  exact decide_eq_false fun z=>by have:=(ziL ok hba hbj).mp z;lia
 refine zsi (xs:=Wm V i) (d:=.tup ((Xm V i j).map Pd)) (Lst.here (Xe hk)) (zcB ?_) ?_
 ·exact ziu lj
 rw [qp,qp]
 exact Yz (zf6 _) (q i j hi hj H)
def zdX:ZS:=fun ds S Q=>∃ (p:Pc),ds=[Pd p]/\Q (.bl (zjc p)) S
abbrev ziD:DS :=
    (zA (ZJ (dOr (WW (dT (dB zeK (zf Z2 (zf (dC (.ty "tuple")) zG))))) (dT (Z7 V8 (dB YK Zh) ci4))) (zT (dC (.bl false))) zX)
 (zA (ZJ (WW (dT (dB zef (zf (YX 1 [] (Zm Z2) (zu 0) Yv (dCall zcJ Zh)) zG)))) (zT (dC (.bl false))) zX)
 (zA (ZJ (dT (Z7 oEq Yt Xv)) (zT (Z7 oEq zer Zw)) zX)
 (zT (zeA (Z7 oLt Yt Xv) (zoH (Z7 oEq zer Zw) (Z7 oEq zer ZD)))))))
theorem zmJ:BodyOk 1 ziD zdX:=by
 rintro ds S Q ⟨p,rfl,q⟩
 unfold ziD
 walk_at "g"
 refine zfV (fun g=>by exact absurd rfl g) (fun _=>?_)
 walk_at "g"
 refine X4 (fun _=>true) (fun _=>.bl true) ?_ ?_ (fun i d ys hd hw=>?_) ?_
 ·exact True.intro
 ·exact qak rfl
 ·have hd':∃ z,d=.int z:=by
   match i,hd with
   | 0,e=>exact⟨_,by simpa using e.symm⟩
   | 1,e=>exact⟨_,by simpa using e.symm⟩
   | 2,e=>exact⟨_,by simpa using e.symm⟩
   | 3,e=>exact⟨_,by simpa using e.symm⟩
  obtain⟨z,rfl⟩:=hd'
  walk_at "g"
  exact⟨z,rfl,Yc hd hw rfl rfl⟩
 walk_at "g"
 refine zdj (bs:=[true,true,true,true]) (b:=true) Lst.at0 rfl ?_
 walk_at "g"
 refine ZM (fun g=>?_) (fun g=>?_)
 ·walk_at "g"
  refine Yz rfl ?_
  unfold zjc at q;rw [if_pos g] at q;exact q
 ·unfold zjc at q;rw [if_neg g] at q
  walk_at "g"
  refine ZM (fun g1=>?_) (fun g1=>?_)
  ·walk_at "g"
   refine ZM (fun g2=>?_) (fun g2=>?_)
   ·walk_at "g"
    refine Yz rfl (by simpa [g1,g2] using q)
   ·walk_at "g"
    refine Yz rfl (by simpa [g1,g2] using q)
  ·walk_at "g"
   refine Yz rfl (by simpa [g1] using q)
def zcQ:ZS:=fun ds S Q=>∃ (p r:Pc),ds=[Pd p,Pd r]/\(p.st=0\/p.st=1)/\Q (.bl (zk3 p r)) S
abbrev zg8:DS :=
    (zA (ZJ (dOr (dT (Z7 V8 VP (Z7 Zy Xv ZD))) (dT (Z7 oLt zk6 (dCall zcZ Zh)))) (zT (dC (.bl false))) zX)
 (zT (zfd (dCall zbM (zf Z2 (zf zk6 zG))))))
theorem zkW:BodyOk 2 zg8 zcQ:=by
 rintro ds S Q ⟨p,r,rfl,hs,q⟩
 unfold zg8
 unfold zk3 at q
 walk_at "g"
 refine zfV (fun g=>?_) (fun g=>?_)
 ·walk_at "g"
  exact fin_same (by simpa [g] using q)
 ·walk_at "g"
  refine⟨p,rfl,hs,?_⟩
  walk_at "g"
  refine ZM (fun g1=>?_) (fun g1=>?_)
  ·walk_at "g"
   exact fin_same (by simpa [g,show ¬ p.fin<=r.to by lia] using q)
  ·walk_at "g"
   refine⟨p,_,rfl,hs,?_⟩
   walk_at "g"
   exact fin_same (by simpa [g,show p.fin<=r.to by lia] using q)
def zd1:ZS:=fun ds S Q=>∃ (ps:List Pc),ds=[.tup (ps.map Pd)]/\ZX ps/\ps.length<=10000/\Q (.bl true) S
abbrev zi9:DS :=
    (zA (ZJ (dOr (WW (dT (dB zeK (zf Z2 (zf (dC (.ty "tuple")) zG))))) (WW (dT (dB zef (zf (YX 1 [] (Zm Z2) (zu 0) Yv (dCall zdX Zh)) zG))))) (zT (dC (.bl false))) zX)
 (zT (dB zef (zf (YX 1 [0] (ziR (zf ZD (zf (dB YK Zh) zG))) (zu 0) Yv (dCall zcQ (zf (Z7 ZW Z1 (Z7 Zq Z2 ZD)) (zf (Z7 ZW Z1 Z2) zG)))) zG))))
theorem zmN:BodyOk 1 zi9 zd1:=by
 rintro ds S Q ⟨ps,rfl,hr,hl,q⟩
 unfold zi9
 walk_at "g"
 refine X4 (fun _=>true) (fun _=>.bl true) ?_ ?_ (fun i d ys hd hw=>?_) ?_
 ·exact True.intro
 ·rw [qb];unfold big;lia
 ·obtain⟨p,hp,rfl⟩:=get_map hd
  walk_at "g"
  refine⟨p,rfl,Yc hd hw rfl ?_⟩
  rw [(zpO p).mpr (hr.good p (qe hp))]
 walk_at "g"
 rw [filter_true,map_const,qb]
 refine zdj (bs:=List.replicate ps.length true) (b:=true) (by rw [qa3];exact Lst.at0) (by simp) ?_
 walk_at "g"
 refine⟨_,_,rfl,?_⟩
 refine X4 (fun _=>true) (fun _=>.bl true) ?_ ?_ (fun i d ys hd hw=>?_) ?_
 ·exact True.intro
 ·rw [zcP,qb];unfold big;lia
 ·obtain⟨hi,rfl⟩:=zhp hd
  rw [qb] at hi
  have h1:i+1<ps.length:=by lia
  have e1:ps[i]?=some (ps[i]'(by lia)):=qc _
  have e2:ps[i+1]?=some (ps[i+1]'h1):=qc _
  have a1:Y8 (ps.map Pd) (1+(i:Int)-1)=some (Pd (ps[i]'(by lia))):=by
   rw [show (1+(i:Int)-1)=((i:Nat):Int) by lia]
   exact zcB (by rw [qi,e1];rfl)
  have a2:Y8 (ps.map Pd) (1+(i:Int))=some (Pd (ps[i+1]'h1)):=by
   rw [show (1+(i:Int))=((i+1:Nat):Int) by lia]
   exact zcB (by rw [qi,e2];rfl)
  walk_at "g"
  refine⟨_,_,rfl,(hr.good _ (qbt _)).st,Yc hd hw rfl ?_⟩
  rw [(zpu _ _).mpr (hr.link i _ _ e1 e2)]
 walk_at "g"
 rw [filter_true,map_const,zcP]
 refine zdj (bs:=List.replicate (((ps.map Pd).length:Int)-1).toNat true) (b:=true) (by rw [qa3];exact Lst.at rfl) (by simp) ?_
 exact Yz rfl q
def zde:ZS:=fun ds S Q=>∃ (ms:List (Int×Int)) (h:Int),ds=[.tup (ms.map p2),.int h]/\Q (Y7 (WX ms h)) S
abbrev zhK:DS :=
    (zA (Y5 (Zm Z2) (Ym 2 (Zt (zu 2) (Zt (zu 3) Yl))) (ZJ (dT (Z7 oGe ZL Z1)) (zT (dB Wu (zf ZQ Yx))) zX))
 (zT (dC .non)))
theorem zl0:BodyOk 4 zhK zde:=by
 rintro ds S Q ⟨ms,h,rfl,q⟩
 unfold zhK
 walk_at "g"
 refine YQ (fun i Z S'=>∃ w1 w2,Z=[some (.tup (ms.map p2)),some (.int h),w1,w2]/\S'=S/\WX ms h=WX (ms.drop i) h) ⟨none,none,rfl,rfl,rfl⟩ (fun _ _ _ _=>True.intro) ?_ ?_
 ·rintro i d Z S' hd ⟨w1,w2,rfl,rfl,e⟩
  obtain⟨c,hc,rfl⟩:=zdr hd
  have hi:=zW hc
  have ed:ms.drop i=c::ms.drop (i+1):=by
   rw [List.drop_eq_getElem_cons hi]
   rw [qc hi] at hc
   cases hc;rfl
  rw [ed] at e
  walk_at "g"
  refine ZM (fun g=>?_) (fun g=>?_)
  ·walk_at "g"
   have e2:WX ms h=some (max c.1 h):=by rw [e];unfold WX;rw [if_pos g]
   rw [e2] at q
   exact fin_same q
  ·walk_at "g"
   refine⟨_,_,rfl,rfl,?_⟩
   rw [e]
   show (if h<=c.2 then _ else _)=_
   rw [if_neg g]
 ·rintro Z S' ⟨w1,w2,rfl,rfl,e⟩
  rw [qb,List.drop_length] at e
  rw [e] at q
  walk_at "g"
  exact fin_same q
def zeE:ZS:=fun ds S Q=>∃ (t:D) (V:Vl) (s:Nat) (h:Int),ds=[t,.int (s:Nat),.int h,.int V.dl]/\ze6 S t V/\YD V/\s<V.bs.length/\∀ (T:Z5) (k:Nat) (lit:List (Option Int)),lit.length=V.bs.length->Ear (XH V) V.dl s h (fun j=>(lit[j]?).join)->(S++T)[k]?=some (.lst (Ys lit))->S.length<=k->Q (.ref k) (S++T)
abbrev zkn:DS :=
    (zA (zL (YX 1 [] (Zm Z2) (zu 0) Yv (dC .non)) (zu 4))
 (zA (zL ZQ (zgm Zx Z1))
 (zA (Y5 (zhA (zf (dB YK Zh) zG)) (zu 5) (Y5 (zf8 Zh) (Ym 2 (Zt (zu 6) (Zt (zu 7) Yl))) (Y5 (zf8 ua7) (Ym 2 (Zt (zu 8) (Zt (zu 9) Yl))) (ZJ (zdH (dT (Z7 zfu (Z7 ZW Zx Yq) (dC .non))) (dT (Z7 V8 Wz Z1))) (zA (zL (dCall zde (zf vr9 (zf (Z7 ZW Zx Yq) zG))) (zu 10))
 (ZJ (zdH (dT (Z7 zfu zlz (dC .non))) (zdH (dT (Z7 V8 Yq Wz)) (dOr (dT (Z7 oIs (Z7 ZW Zx Wz) (dC .non))) (dT (Z7 oLt (Z7 Zy zlz ZL) (Z7 ZW Zx Wz)))))) (zL (Z7 Zy zlz ZL) (zgm Zx Wz)) zX)) zX))))
 (zT Zx))))
theorem zou:BodyOk 11 zkn zeE:=by
  rintro ds S Q ⟨t,V,s,h,rfl,ht,ok,hsn,q⟩
  unfold zkn
  obtain⟨rs,hrs,hrl,hrow⟩:=id ht
  have b12:=ok.b12
  have hd:=ok.dl
  walk_at "g"
  refine X4 (fun _=>true) (fun _=>.non) hrs (by rw [qb];unfold big;lia) (fun i d ys hd' hw=>?_) ?_
  . walk_at "g"
    exact Yc hd' hw rfl rfl
  rw [filter_true,qY,show rs.map ((fun _=>D.non) ∘ D.ref)=Ys (List.replicate V.bs.length none) by show _=(List.replicate V.bs.length (none:Option Int)).map Y7;rw [qa3,<- hrl];exact map_const rs D.non]
  walk_at "g"
  walk_at "h"
  refine zga (j:=s) Y6 (zp7 (by rw [qF];exact hsn)) (zfP ?_)
  rw [show (Ys (List.replicate V.bs.length none)).set s (.int h)=Ys ((List.replicate V.bs.length none).set s (some h)) by rw [<- zea];exact (List.map_set ..).symm]
  have hrT:∀ T,Lst (S++T) t (rs.map D.ref):=fun T=>hrs.old
  have hr1:=hrT [.lst (Ys ((List.replicate V.bs.length none).set s (some h)))]
  have r0:Rnd (XH V) V.dl s h V.bs.length 0 ((List.replicate V.bs.length none).set s (some h)):=by
    refine⟨by simp,fun j h' e=>?_,fun vs j h' p l=>?_⟩
    . by_cases ej:j=s
      . subst ej
        rw [qJ (by simpa using hsn)] at e
        cases e;exact .base
      . rw [qN (Ne.symm ej)] at e
        have:=List.eq_of_mem_replicate (qe e)
        cases this
    . cases p with
      | base=>exact⟨h,by rw [qJ (by simpa using hsn)],qw _⟩
      | step p _ _ hm=>cases p<;>simp at l
  walk_at "g"
  rw [qb]
  refine⟨_,rfl,by lia,by lia,?_⟩
  refine YQ (fun r Z S'=>∃ (G:Z5) (lit:List (Option Int)) (w5 w6 w7 w8 w9 w10:Option D),S'=S++Cell.lst (Ys lit)::G/\Rnd (XH V) V.dl s h V.bs.length r lit/\Z=[some t,some (.int (s:Nat)),some (.int h),some (.int V.dl),some (.ref S.length),w5,w6,w7,w8,w9,w10]) ⟨[],_,_,_,_,_,_,_,rfl,r0,rfl⟩ (fun _ _ _ _=>True.intro) ?_ ?_
  . rintro r d Z S' hd' ⟨G,lit,w5,w6,w7,w8,w9,w10,rfl,hR,rfl⟩
    have ll:=hR.len
    have hr2:=hrT (Cell.lst (Ys lit)::G)
    walk_at "g"
    refine zlK (xs:=rs.map D.ref) hr2 ?_
    refine YQ (fun k Z S'=>∃ (G:Z5) (lit:List (Option Int)) (w5 w6 w7 w8 w9 w10:Option D),S'=S++Cell.lst (Ys lit)::G/\Swp (XH V) V.dl s h V.bs.length r (fun a b=>a<k) lit/\Z=[some t,some (.int (s:Nat)),some (.int h),some (.int V.dl),some (.ref S.length),w5,w6,w7,w8,w9,w10]) ⟨G,lit,_,_,_,_,_,_,rfl,⟨hR,fun k j hk=>absurd hk (qbe _)⟩,rfl⟩ (fun k Z S' zq13=>by obtain⟨_,_,_,_,_,_,_,_,e,_⟩:=zq13;exact e▸hrT _) ?_ ?_
    . rintro k d' Z S' hdk ⟨G,lit,w5,w6,w7,w8,w9,w10,rfl,hS,rfl⟩
      obtain⟨y,hy,rfl⟩:=zb8 hdk
      obtain⟨rk,hrk,rfl⟩:∃ rk,rs[k]?=some rk/\y=.ref rk:=by
        rw [qi] at hy
        cases e:rs[k]? with
        | none=>rw [e] at hy;cases hy
        | some b=>rw [e] at hy;exact⟨b,rfl,(qA hy).symm⟩
      have hkn:k<V.bs.length:=by rw [<- hrl];exact zW hrk
      obtain⟨row,hro,hrw,hsee⟩:=hrow k rk hrk
      have hroT:∀ T,Lst (S++T) (.ref rk) (row.map fun ms=>D.tup (ms.map p2)):=fun T=>Lst.here (Xe hro)
      have hro1:=hroT (Cell.lst (Ys lit)::G)
      walk_at "g"
      refine zlK (xs:=row.map fun ms=>D.tup (ms.map p2)) hro1 ?_
      refine YQ (fun j Z S'=>∃ (G:Z5) (lit:List (Option Int)) (w8 w9 w10:Option D),S'=S++Cell.lst (Ys lit)::G/\Swp (XH V) V.dl s h V.bs.length r (fun a b=>a<k\/(a=k/\b<j)) lit/\Z=[some t,some (.int (s:Nat)),some (.int h),some (.int V.dl),some (.ref S.length),w5,some (.int ((0+k:Nat):Int)),some (.ref rk),w8,w9,w10]) ⟨G,lit,_,_,_,rfl,⟨hS.rnd,fun a b z=>hS.don a b (by lia)⟩,rfl⟩ (fun k Z S' zq14=>by obtain⟨_,_,_,_,_,e,_⟩:=zq14;exact e▸hroT _) ?_ ?_
      . rintro j d' Z S' hdj ⟨G,lit,w8,w9,w10,rfl,hS,rfl⟩
        obtain⟨y,hy,rfl⟩:=zb8 hdj
        obtain⟨ms,hms,rfl⟩:∃ ms,row[j]?=some ms/\y=.tup (ms.map p2):=by
          rw [qi] at hy
          cases e:row[j]? with
          | none=>rw [e] at hy;cases hy
          | some b=>rw [e] at hy;exact⟨b,rfl,(qA hy).symm⟩
        have hjn:j<V.bs.length:=by rw [<- hrw];exact zW hms
        have ll:=hS.rnd.len
        have ak:Y8 (Ys lit) ((0+k:Nat):Int)=some (Y7 ((lit[k]?).join)):=by rw [qbz];exact zqD (by lia)
        have aj:Y8 (Ys lit) ((0+j:Nat):Int)=some (Y7 ((lit[j]?).join)):=by rw [qbz];exact zqD (by lia)
        have stay:(∀ vs h' u,Lp (XH V) V.dl s h vs k h'->vs.length<=r+1->h'<=u->XH V k j u->∃ h2,lit[j]?=some (some h2)/\h2<=u+V.dl)->Swp (XH V) V.dl s h V.bs.length r (fun a b=>a<k\/(a=k/\b<j+1)) lit:=fun hq =>
          hS.keep ll hS.rnd.snd (fun j h e=>⟨h,e,qw _⟩) fun a b z1 z2=>by
            have e1:a=k:=by lia
            have e2:b=j:=by lia
            subst e1 e2;exact hq
        cases hlk:(lit[k]?).join with
        | none =>
          rw [hlk,zg6] at ak
          walk_at "g"
          refine⟨G,lit,_,_,_,rfl,stay fun vs h' u p l _ _=>?_,rfl⟩
          obtain⟨h2,e,_⟩:=hS.rnd.prg vs k h' p l
          rw [e] at hlk;cases hlk
        | some hk' =>
          have glk:=zlA hlk
          rw [hlk,zea] at ak
          walk_at "g"
          refine zfV (fun hn=>?_) (fun hn=>?_)
          . walk_at "g"
            refine⟨ms,hk',rfl,?_⟩
            have prg':∀ vs h' u,Lp (XH V) V.dl s h vs k h'->vs.length<=r+1->h'<=u->XH V k j u->hk'<=u:=fun vs h' u p l hu _=>by
              obtain⟨h2,e,le⟩:=hS.rnd.prg vs k h' p l
              rw [glk] at e;cases e;lia
            have fsp:k≠j->Xk (Xp V k j) hk'=WX ms hk':=fun hkj=>zgt ok (qc hkn) (qc hjn) hkj (hsee j ms _ _ hms (qc hkn) (qc hjn)) hk'
            have self:k=j->∀ u,¬ XH V k j u:=fun e u hu=>by
              subst e
              unfold XH at hu
              rw [zi7] at hu
              cases hu
            cases hf:WX ms hk' with
            | none =>
              rw [hf] at fsp
              rw [zg6]
              walk_at "g"
              refine⟨G,lit,_,_,_,rfl,stay fun vs h' u p l hu hse=>?_,rfl⟩
              by_cases hkj:k=j
              . exact absurd hse (self hkj u)
              . exact absurd (prg' vs h' u p l hu hse) (zd3 (fsp hkj) u hse)
            | some u0 =>
              rw [hf] at fsp
              rw [zea]
              walk_at "g"
              refine zfV (fun hkj=>?_) (fun hkj=>?_)
              . obtain⟨m0,g0,least⟩:=zcy (zct V k j) (fsp (by lia))
                have lnew:Lt (XH V) V.dl s h j (u0+V.dl):=.step (hS.rnd.snd k hk' glk) g0 m0
                have put':∀ (_:∀ h2,lit[j]?=some (some h2)->u0+V.dl<=h2),Swp (XH V) V.dl s h V.bs.length r (fun a b=>a<k\/(a=k/\b<j+1)) (lit.set j (some (u0+V.dl))):=fun hlow=>by
                  have gs:(lit.set j (some (u0+V.dl)))[j]?=some (some (u0+V.dl)):=by rw [qJ (by lia)]
                  refine hS.keep (by rw [qap];exact ll) (fun j' h' e=>?_) (fun j' h' e=>?_) fun a b z1 z2=>?_
                  . by_cases ej:j'=j
                    . subst ej;rw [gs] at e;cases e;exact lnew
                    . rw [qN (Ne.symm ej)] at e;exact hS.rnd.snd j' h' e
                  . by_cases ej:j'=j
                    . subst ej;exact⟨_,gs,hlow h' e⟩
                    . exact⟨h',by rw [qN (Ne.symm ej)];exact e,qw _⟩
                  . have e1:a=k:=by lia
                    have e2:b=j:=by lia
                    subst e1 e2
                    intro vs h' u p l hu hse
                    exact⟨_,gs,by have:=least u hse (prg' vs h' u p l hu hse);lia⟩
                have hput:(Ys lit).set j (.int (u0+V.dl))=Ys (lit.set j (some (u0+V.dl))):=by rw [<- zea];exact (List.map_set ..).symm
                have hix:X5 (Ys lit).length ((0+j:Nat):Int)=some j:=by rw [qbz];exact zp7 (by lia)
                cases hlj:(lit[j]?).join with
                | none =>
                  rw [hlj,zg6] at aj
                  walk_at "g"
                  refine zga Y6 hix (zfP ?_)
                  rw [hput]
                  refine⟨_,_,_,_,_,rfl,put' fun h2 e=>?_,rfl⟩
                  rw [e] at hlj;cases hlj
                | some hj' =>
                  have glj:=zlA hlj
                  rw [hlj,zea] at aj
                  walk_at "g"
                  refine ZM (fun g=>?_) (fun g=>?_)
                  . walk_at "g"
                    refine zga Y6 hix (zfP ?_)
                    rw [hput]
                    refine⟨_,_,_,_,_,rfl,put' fun h2 e=>?_,rfl⟩
                    rw [glj] at e;cases e;lia
                  . walk_at "g"
                    refine⟨_,lit,_,_,_,rfl,stay fun vs h' u p l hu hse=>?_,rfl⟩
                    exact⟨hj',glj,by have:=least u hse (prg' vs h' u p l hu hse);lia⟩
              . walk_at "g"
                refine⟨G,lit,_,_,_,rfl,stay fun vs h' u p l hu hse=>?_,rfl⟩
                exact absurd hse (self (by lia) u)
          . walk_at "g"
            refine⟨G,lit,_,_,_,rfl,stay fun vs h' u p l hu hse=>?_,rfl⟩
            obtain⟨h2,e,le⟩:=hS.rnd.prg [s] s h .base (by simp)
            have:=(p.lt).ge hd
            rw [show j=s by lia]
            exact⟨h2,e,by lia⟩
      . rintro Z S' ⟨G,lit,w8,w9,w10,rfl,hS,rfl⟩
        rw [zbr,qb,hrw] at hS
        exact⟨G,lit,_,_,_,_,_,_,rfl,hS.keep hS.rnd.len hS.rnd.snd (fun j h e=>⟨h,e,qw _⟩) fun a b z1 z2 vs h' u p l hu hse=>by
          have:=zhj hse
          exact absurd (show a<k\/(a=k/\b<V.bs.length) by lia) (by lia),rfl⟩
    . rintro Z S' ⟨G,lit,w5,w6,w7,w8,w9,w10,rfl,hS,rfl⟩
      rw [zbr,qb,hrl] at hS
      exact⟨G,lit,_,_,_,_,_,_,rfl,hS.next hsn (fun k j u z=>zhj z) fun k j hk hj=>hk,rfl⟩
  . rintro Z S' ⟨G,lit,w5,w6,w7,w8,w9,w10,rfl,hR,rfl⟩
    rw [zcP] at hR
    have e:((rs.length:Nat):Int).toNat=V.bs.length:=by lia
    rw [e] at hR
    walk_at "g"
    exact fin_same (q _ _ lit hR.len (hR.ear hd hsn fun k j u z=>zhj z) Y6 (qf _))
def zez:ZS:=fun ds S Q=>∃ (ps:List Pc) (h:Int),ds=[.tup (ps.map Pd),.int h]/\ZX ps/\Q (Y7 (at' ps h)) S
abbrev zko:DS :=
    (zA (Y5 (Zm Z2) (zu 2) (ZJ (dT (zhc oLe oLe zeF Z1 zdQ)) (zT (dCall V0 (zf ZQ Yx))) zX))
 (zT (dC .non)))
theorem zn9:BodyOk 3 zko zez:=by
 rintro ds S Q ⟨ps,h,rfl,hr,q⟩
 unfold zko
 walk_at "g"
 refine YQ (fun i Z S'=>∃ w,Z=[some (.tup (ps.map Pd)),some (.int h),w]/\S'=S/\at' (ps.take i) h=none) ⟨none,rfl,rfl,rfl⟩ (fun _ _ _ _=>True.intro) ?_ ?_
 ·rintro i d Z S' hd ⟨w,rfl,rfl,hn⟩
  obtain⟨p,hp,rfl⟩:=get_map hd
  have gp:=hr.good p (qe hp)
  have no:¬ Yk p h->at' (ps.take (i+1)) h=none:=fun z=>by rw [Wt hp,zhe,hn,X8,if_neg z];rfl
  walk_at "g"
  refine ZM (fun g=>?_) (fun g=>?_)
  ·walk_at "g"
   refine ZM (fun g1=>?_) (fun g1=>?_)
   ·walk_at "g"
    refine⟨p,h,rfl,gp.st,fin_same ?_⟩
    rw [znp hp hn ⟨g,g1⟩] at q;exact q
   ·walk_at "g"
    exact⟨_,rfl,rfl,no fun z=>g1 z.2⟩
  ·walk_at "g"
   exact⟨_,rfl,rfl,no fun z=>g z.1⟩
 ·rintro Z S' ⟨w,rfl,rfl,hn⟩
  rw [qb,qag] at hn
  walk_at "g"
  refine fin_same ?_
  rw [hn] at q;exact q
def zdZ:ZS:=fun ds S Q=>∃ (o:Option Int),ds=[Y7 o,Y7 o]/\Q (.bl true) S
abbrev zja:DS :=
    (zA (ZJ (dT (Z7 oIs Z1 (dC .non))) (zT (Z7 oIs Z2 (dC .non))) zX)
 (zT (zeA (dB zeK (zf Z2 (zf (dC (.ty "int")) zG))) (zeA (zfd (dB zeK (zf Z2 (zf (dC (.ty "bool")) zG)))) (Z7 oEq Z2 Z1)))))
theorem zmQ:BodyOk 2 zja zdZ:=by
 rintro ds S Q ⟨o,rfl,q⟩
 unfold zja
 cases o with
 | none =>
  unfold Y7
  walk_at "g"
  exact fin_same q
 | some v =>
  unfold Y7
  walk_at "g"
  rw [decide_eq_true rfl]
  exact fin_same q
abbrev zsF:DS :=
    (zA (zL (dCall zdq Zh) (zu 1))
 (zA (zL (dCall zcS Yx) (zu 2))
 (zA (zL (dCall zdd Yy) (zu 3))
 (zA (zL (YX 1 [] (Zm zdU) (zu 0) Yv Yt) (zu 4))
 (zA (zL (Z7 oMod (dCall zb2 (zf Z2 (zf ZD zG))) (dB YK ua4)) (zu 5))
 (zA (zL (YX 1 [2,4,5] (Zm Zx) (zu 0) Yv (zb4 zeq xF (zf Z1 (zf (Z7 ZW ZQ ZL) Zh)))) (zu 6))
 (zA (ZJ (dOr (WW (dT (dB zef (zf (YX 1 [] (Zm Yq) (zu 0) Yv (dCall zd1 Zh)) zG)))) (dT (Z7 V8 (Z7 ZW Yq Zr) (dCall zc9 (zf (YS "first" ZQ) (zf (YS "last" ZQ) zG)))))) (zT (dC (.bl false))) zX)
 (zA (Y5 (ziR (zf (Z7 Zq (YS "first" ZQ) ZD) (zf (Z7 Zy (YS "last" ZQ) ci2) zG))) (zu 7) (zA (zL (YX 1 [] (Zm Zx) (zu 0) Yv (dC .non)) (zu 8))
 (zA (sJ (ZJ (zdH (dT (Z7 oLe (YS "first" ZQ) XQ)) (dT (Z7 oLe XQ (YS "last" ZQ)))) (zL (dCall zeE (zf ZL (zf Zr (zf XQ (zf (YS "delay" ZQ) zG))))) (zu 8)) zX))
 (Y5 (znW (zf Yq ua8)) (Ym 2 (Zt (zu 9) (Zt (zu 10) Yl))) (ZJ (WW (dT (dCall zdZ (zf (dCall zez (zf vr9 ua7)) zyY)))) (zT (dC (.bl false))) zX)))))
 (zT (dC (.bl true)))))))))))
theorem zwK:BodyOk 11 zsF zfJ:=by
 rintro ds S Q ⟨ns,rfl,_,hl,q⟩
 unfold zsF
 walk_at "g"
 refine⟨ns,rfl,hl,fun T x y z V ok b2 b5 f6 h00 h05 h23 dl3 _ hs=>?_⟩
 generalize S++T=S1 at hs
 have hh:=ok.hh
 have hd:=ok.dl
 walk_at "g"
 refine⟨x,y,z,V,rfl,hs,ok,fun T v hv=>?_⟩
 have hs2:VlS (S1++T) x y z V:=hs.old
 generalize S1++T=S2 at hv hs2
 walk_at "g"
 refine⟨_,V,rfl,hv,ok,fun T t ht=>?_⟩
 have hs3:VlS (S2++T) x y z V:=hs2.old
 have hv3:Xu (S2++T) v V:=hv.old
 generalize S2++T=S3 at ht hs3 hv3
 clear hs hs2 hv
 obtain⟨hx,hy,hz⟩:=id hs3
 walk_at "g"
 refine X4 (fun _=>true) (zim fun b=>.str b.1) hy (by rw [qb];unfold big;lia) (fun i d ys hd' hw=>?_) ?_
 ·obtain⟨b,_,rfl⟩:=zeM hd'
  walk_at "g"
  exact Yc hd' hw rfl rfl
 rw [filter_true,zdB]
 unfold New
 obtain⟨nl,hnl⟩:∃ nl,nl=V.bs.map fun b=>D.str b.1:=⟨_,rfl⟩
 rw [<- hnl]
 have lnl:nl.length=V.bs.length:=by rw [hnl,qb]
 have fl1:∀ b∈V.bs,fl 20 (.str b.1)=true:=fun b hb=>zeT (ok.nm b hb) 20
 have gnl:∀ {i:Nat} {d:D},nl[i]?=some d->∃ b,V.bs[i]?=some b/\d=.str b.1:=fun {i d} h=>by
  rw [hnl,qi] at h
  cases e:V.bs[i]? with
  | none=>rw [e] at h;cases h
  | some b=>rw [e] at h;exact⟨b,rfl,(qA h).symm⟩
 have k0:∀ T,Lst (S3++Cell.lst nl::T) (.ref S3.length) nl:=fun T=>Lst.at0
 walk_at "g"
 refine⟨ns,1,rfl,by decide,fun c0=>?_⟩
 walk_at "g"
 obtain⟨s,hs,es⟩:∃ s:Nat,s<V.bs.length/\c0%(nl.length:Int)=(s:Int):=⟨(c0%(nl.length:Int)).toNat,by
  have h1:=qaD c0 (show (nl.length:Int)≠0 by lia)
  have h2:=qaI c0 (show (0:Int)<nl.length by lia)
  lia,by
  have h1:=qaD c0 (show (nl.length:Int)≠0 by lia)
  lia⟩
 rw [es]
 obtain⟨bs,hbs⟩:∃ b,V.bs[s]?=some b:=⟨_,qc hs⟩
 have hns:nl[s]?=some (.str bs.1):=by rw [hnl,qi,hbs];rfl
 have ans:Y8 nl (s:Int)=some (.str bs.1):=zcB hns
 have k00:=k0 []
 walk_at "g"
 walk_at "h"
 refine zvy (zfr V s (Xm V s)) (fun _=>true) (zk4 V s) k00 (by unfold big;lia) (fun i d ys hd' hw=>?_) fun H=>?_
 ·obtain⟨b,hb,rfl⟩:=gnl hd'
  walk_at "g"
  refine⟨v,V,bs.1,b.1,rfl,hv3.old,ok,h23,fl1 _ (qe hbs),fl1 _ (qe hb),fun no=>?_,fun a c ha hc H=>?_⟩
  ·rcases no with no | no
   ·exact (no (qW.mpr ⟨_,qe hbs,rfl⟩)).elim
   ·exact (no (qW.mpr ⟨_,qe hb,rfl⟩)).elim
  ·have e1:a=s:=ha.uniq ok ⟨bs,hbs,rfl⟩
   have e2:c=i:=hc.uniq ok ⟨b,hb,rfl⟩
   subst e1 e2
   exact⟨Yc hd' hw rfl (zlU ok hb).symm,fun _=>H⟩
 have H:=H (by lia)
 rw [filter_true,hnl,zqB ok,<- hnl]
 have H1:=H.1
 have f24:∀ j,(Xm V s j).length<=24:=H1.few h23
 unfold New
 rw [qp]
 have k1:∀ T,Lst (S3++Cell.lst nl::Cell.lst (Wm V s)::T) (.ref (S3.length+1)) (Wm V s):=fun T=>Lst.at (k:=1) rfl
 rw [show (S3++[Cell.lst nl]).length=S3.length+1 by simp]
 have k10:=k1 []
 walk_at "g"
 refine X4 (fun _=>true) (fun _=>.bl true) k10 (by rw [ziy];unfold big;lia) (fun i d ys hd' hw=>?_) ?_
 ·obtain⟨hj,rfl⟩:=zlJ hd'
  walk_at "g"
  refine⟨_,rfl,H1.isR i,by have:=f24 i;lia,?_⟩
  exact Yc hd' hw rfl rfl
 rw [filter_true,map_const,ziy,<- qa3]
 unfold New
 obtain⟨S4,hS4⟩:∃ S4,S4=S3++([Cell.lst nl]++[Cell.lst (Wm V s)])++[Cell.lst ((List.replicate V.bs.length true).map D.bl)]:=⟨_,rfl⟩
 have kr:Lst S4 (.ref (S3++([Cell.lst nl]++[Cell.lst (Wm V s)])).length) ((List.replicate V.bs.length true).map D.bl):=by rw [hS4];exact Lst.at0
 have kn:∀ T,Lst (S4++T) (.ref S3.length) nl:=fun T=>by rw [hS4,qp,qp];exact k0 _
 have kh:∀ T,Lst (S4++T) (.ref (S3.length+1)) (Wm V s):=fun T=>by rw [hS4,qp,qp];exact k1 _
 have hv4:∀ T,Xu (S4++T) v V:=fun T=>by rw [hS4,qp,qp];exact hv3.old
 have ht4:∀ T,ze6 (S4++T) t V:=fun T=>by rw [hS4,qp,qp];exact ht.old
 rw [<- hS4]
 clear hS4 k0 k1 k10 k00 ht hv3 hs3
 walk_at "g"
 refine zdj (b:=true) kr (by simp) ?_
 have kn0:=kn []
 have kh0:=kh []
 have hv0:=hv4 []
 rw [qU] at kn0 kh0 hv0
 obtain⟨m,g,b',f',rfl,hm,_⟩:=id hv0
 have hmT:∀ T,(S4++T)[m]?=some (.ins "Valley" (vF (.ref g) (.ref b') (.ref f') (Y7 V.hz) (.int V.h0) (.int V.h1) (.int V.dl))):=fun T=>Xe hm
 have ahs:=zcB (ziu (s:=s) hs)
 walk_at "g"
 refine⟨_,_,rfl,fun ps ip ap _=>?_⟩
 have eps:Xm V s s=ps:=zc8 (H1.isR s) ip fun x=>by
  rw [ap]
  unfold zgg
  by_cases g:V.h0<=x/\x<=V.h1
  ·rw [if_pos g];exact H1.st x g.1 g.2
  ·rw [if_neg g]
   cases e:at' (Xm V s s) x with
   | none=>rfl
   | some w=>exact absurd (H1.dom s x w e) g
 rw [eps]
 refine zsP ?_
 walk_at "g"
 refine zfV (fun no=>absurd rfl no) fun _=>?_
 walk_at "g"
 walk_at "h"
 refine⟨_,_,rfl,?_⟩
 refine YQ (fun i Z S'=>∃ (G:Z5) (w7 w8 w9 w10:Option D),S'=S4++G/\Z=[some (.rl (ns.map D.int)),some (vlD x y z V),some (.ref m),some t,some (.ref S3.length),some (.int (s:Nat)),some (.ref (S3.length+1)),w7,w8,w9,w10]) ⟨[],_,_,_,_,(qU _).symm,rfl⟩ (fun _ _ _ _=>True.intro) ?_ ?_
 ·rintro i d Z S' hd' ⟨G,w7,w8,w9,w10,rfl,rfl⟩
  obtain⟨hi,rfl⟩:=zhp hd'
  generalize V.h0-1+(i:Int)=hour
  have knG:=kn G
  walk_at "g"
  refine X4 (fun _=>true) (fun _=>.non) knG (by unfold big;lia) (fun i d ys hd' hw=>?_) ?_
  ·walk_at "g"
   exact Yc hd' hw rfl rfl
  rw [filter_true,map_const,lnl,show List.replicate V.bs.length D.non=Ys (List.replicate V.bs.length none) by show _=(List.replicate V.bs.length (none:Option Int)).map Y7;rw [qa3];rfl]
  unfold New
  rw [qp]
  have kl:∀ T,Lst (S4++(G++Cell.lst (Ys (List.replicate V.bs.length none))::T)) (.ref (S4++G).length) (Ys (List.replicate V.bs.length none)):=fun T=>by rw [<- qp];exact Lst.at0
  walk_at "g"
  walk_at "h"
  have hmG:=hmT (G++[Cell.lst (Ys (List.replicate V.bs.length none))])
  refine r_J (fun Z S'=>∃ (G:Z5) (l:D) (lit:List (Option Int)),S'=S4++G/\Lst S' l (Ys lit)/\lit.length=V.bs.length/\(∀ j,j<V.bs.length->(lit[j]?).join=at' (Xm V s j) hour)/\Z=[some (.rl (ns.map D.int)),some (vlD x y z V),some (.ref m),some t,some (.ref S3.length),some (.int (s:Nat)),some (.ref (S3.length+1)),some (.int hour),some l,w9,w10]) ?_ ?_
  ·have out:¬ (V.h0<=hour/\hour<=V.h1)->∀ j,j<V.bs.length->((List.replicate V.bs.length (none:Option Int))[j]?).join=at' (Xm V s j) hour:=fun no j hj=>by
    rw [qam,if_pos hj]
    cases e:at' (Xm V s j) hour with
    | none=>rfl
    | some w=>exact absurd (H1.dom j hour w e) no
   walk_at "g"
   refine ZM (fun g1=>?_) (fun g1=>?_)
   ·walk_at "g"
    refine ZM (fun g2=>?_) (fun g2=>?_)
    ·walk_at "g"
     refine⟨t,V,s,hour,rfl,ht4 _,ok,hs,fun T k lit ll ear hk _=>?_⟩
     walk_at "g"
     rw [qp] at hk ⊢
     exact⟨_,_,lit,rfl,Lst.here hk,ll,fun j _=>ear.uniq (H1.ear H.2 g1 g2) j,rfl⟩
    ·walk_at "g"
     exact⟨_,_,_,rfl,kl [],by rw [qF],out (fun c=>g2 c.2),rfl⟩
   ·walk_at "g"
    exact⟨_,_,_,rfl,kl [],by rw [qF],out (fun c=>g1 c.1),rfl⟩
  ·rintro Z S' ⟨G,l,lit,rfl,hl',ll,hlit,rfl⟩
   have khG:=kh G
   walk_at "g"
   refine zwJ khG hl' ?_
   refine YQ (fun i Z S'=>∃ (w9 w10:Option D),S'=S4++G/\Z=[some (.rl (ns.map D.int)),some (vlD x y z V),some (.ref m),some t,some (.ref S3.length),some (.int (s:Nat)),some (.ref (S3.length+1)),some (.int hour),some l,w9,w10]) ⟨_,_,rfl,rfl⟩ (fun _ _ _ zq15=>by obtain⟨_,_,e,_⟩:=zq15;exact e▸⟨khG,hl'⟩) ?_ ?_
   ·rintro j d Z S' hd' ⟨w9,w10,rfl,rfl⟩
    obtain⟨a,c,ha,hc,rfl⟩:=zeL hd'
    obtain⟨lj,rfl⟩:=zlJ ha
    obtain⟨_,rfl⟩:=ztU hc
    walk_at "g"
    refine⟨_,_,rfl,H1.isR j,?_⟩
    walk_at "g"
    refine⟨_,by rw [hlit j lj],?_⟩
    walk_at "g"
    exact⟨_,_,rfl,rfl⟩
   ·rintro Z S' ⟨w9,w10,rfl,rfl⟩
    exact⟨G,_,_,_,_,rfl,rfl⟩
 ·rintro Z S' ⟨G,w7,w8,w9,w10,rfl,rfl⟩
  walk_at "g"
  exact fin_same (q _)
end Dp
namespace Law
open PySem PySem.Spec PyProof.Rows L2 My Dp
def top (i:Nat):Stmt:=PySem.Challenge.pw_beaconvale_k70_hearing_hour_by_hour.main.body.getD i (.Pass ⟨0,0,0,0⟩)
abbrev zgr:Stmt:=top 94
abbrev zh4:Stmt:=top 95
abbrev zhP:Stmt:=top 96
abbrev zgq:Stmt:=top 97
abbrev zjo:Stmt:=top 98
abbrev zhR:Stmt:=top 99
abbrev zdf:Stmt:=top 63
abbrev zck:Stmt:=inClass (top 64) 0
abbrev zc7:Stmt:=top 77
abbrev zkh:Stmt:=top 76
abbrev zd5:Stmt:=top 78
abbrev zpI:Stmt:=top 57
abbrev znF:Stmt:=top 65
abbrev zeO:Stmt:=top 55
abbrev ziY:Stmt:=top 56
abbrev zhU:Stmt:=top 59
abbrev zhQ:Stmt:=top 66
abbrev zlt:Stmt:=top 67
abbrev zek:Stmt:=top 79
abbrev zjv:Stmt:=top 1
abbrev zmh:Stmt:=top 49
abbrev zel:Stmt:=top 80
abbrev zed:Stmt:=top 81
abbrev zcj:Stmt:=inClass (top 82) 0
abbrev zhf:Stmt:=top 100
abbrev zkK:Stmt:=top 84
abbrev zc3:Stmt:=top 68
abbrev zen:Stmt:=top 69
abbrev zkp:Stmt:=top 58
abbrev zld:Stmt:=top 70
abbrev ze4:Stmt:=top 86
abbrev zfb:Stmt:=top 87
abbrev znn:Stmt:=top 50
abbrev zkb:Stmt:=top 51
abbrev zo8:Stmt:=top 25
abbrev znA:Stmt:=top 52
abbrev zh2:Stmt:=top 53
abbrev zqy:Stmt:=top 27
abbrev zql:Stmt:=top 26
abbrev zkm:Stmt:=top 28
abbrev znz:Stmt:=top 88
abbrev zhL:Stmt:=top 101
abbrev ziJ:Stmt:=top 83
abbrev zeb:Stmt:=top 85
abbrev zsy:Stmt:=top 8
abbrev zfN:Stmt:=top 10
abbrev zmi:Stmt:=top 9
abbrev zsm:Stmt:=top 14
abbrev zje:Stmt:=top 15
abbrev ziI:Stmt:=top 90
abbrev zj8:Stmt:=top 16
abbrev zgF:Stmt:=top 22
abbrev zlN:Stmt:=top 23
abbrev zkd:Stmt:=top 18
abbrev zfz:Stmt:=top 19
abbrev zha:Stmt:=top 20
abbrev zkc:Stmt:=top 21
abbrev zff:Stmt:=top 91
abbrev zki:Stmt:=top 92
abbrev ziT:Stmt:=top 11
abbrev zgA:Stmt:=top 12
abbrev zjf:Stmt:=top 13
abbrev zhX:Stmt:=top 102
abbrev zkg:Stmt:=top 103
abbrev zkf:Stmt:=top 17
abbrev ziO:Stmt:=top 104
abbrev zfo:Stmt:=top 105
theorem Yb [Bs]{X:Cx}{sc:Scope}{own free:List Str}{x:Str}{p:Pos}(h0:0<own.length:=by decide)(hN:(own++free).Nodup:=by decide +kernel)(hi:(own++free)[0]?=some x:=by rfl)(hx:∀ cl C s₀ H₀ ex,Loc (inner X sc (own++free) cl C s₀ H₀ ex).env.scope x/\((inner X sc (own++free) cl C s₀ H₀ ex).fn x=true\/(inner X sc (own++free) cl C s₀ H₀ ex).env.scope.names.lookup x=some .local):=by intros;first | exact⟨Or.inl rfl,Or.inr rfl⟩ | exact⟨Or.inr rfl,Or.inl rfl⟩):zgI X.K own.length (Dp.zu 0) (L2.zu 0)/\∀ cl C s₀ H₀ ex,PG (inner X sc (own++free) cl C s₀ H₀ ex) (.Name x p) (L2.zu 0):=⟨za0 0 h0,fun cl C s₀ H₀ ex=>zbF (i:=0) hN hi (hx cl C s₀ H₀ ex).1 (hx cl C s₀ H₀ ex).2⟩
theorem ZG {P:Program}{w:World}{K:W.Frag}{mg:Str->Option Value}{base:Heap}{x qual:Str}{st:Stmt}{f:Addr}{fd:FuncData}{N ps:List Str}{k:Nat}{sp:ZS}{b:DS}(F:ZV K x qual st f fd)(body:BodyOk N.length b sp)(S:zc2 N ps (Za st):=by exact zpm)(len:∀ ds So Q,sp ds So Q->ds.length=ps.length:=by (intros;rename_i h;repeat (first | (obtain⟨e,_⟩:=h;subst e;rfl) | obtain⟨_,h⟩:=h)))(term:N.Nodup->∀ (cdv:Value) (A:Around) (outer:List Env) (s:Shared) (H:Hp) (E:XK),Zg k (A.deeper (envOfC qual (Za st) s.heap.objs.size f cdv))->∀ [Bs],zeh (Wv ZR P w K mg base N qual (Za st) f cdv A outer s H E).nox (Xc st) b):zQ P w K mg base ZR (k+1) f fd ps (Z4 K sp):=ztn F S len body (term S.nd)
theorem zio {P:Program}{w:World}{K:W.Frag}{mg:Str->Option Value}{base:Heap}{x qual:Str}{st:Stmt}{f:Addr}{fd:FuncData}{N ps:List Str}{k:Nat}{sp:Wj}{b:XR->DS}(F:ZV K x qual st f fd)(body:zcC N.length b sp)(S:zc2 N ps (Za st):=by exact zpm)(len:∀ ds So Q ex,sp ds So Q ex->ds.length=ps.length:=by (intros;rename_i h;repeat (first | (obtain⟨e,_⟩:=h;subst e;rfl) | obtain⟨_,h⟩:=h)))(term:N.Nodup->∀ (cdv:Value) (A:Around) (outer:List Env) (s:Shared) (H:Hp) (E:XK),Zg k (A.deeper (envOfC qual (Za st) s.heap.objs.size f cdv))->∀ [Bs] (ex:XR),XOk (Wv (Xi P w) P w K mg base N qual (Za st) f cdv A outer s H E) ex->XMk (Wv (Xi P w) P w K mg base N qual (Za st) f cdv A outer s H E) ex->zeh (Wv (Xi P w) P w K mg base N qual (Za st) f cdv A outer s H E) (Xc st) (b ex)):zQ P w K mg base (Xi P w) (k+1) f fd ps (Xl K sp):=zqO F S len body (term S.nd)
theorem Z8 [Bs]{X:Cx}{i:Nat}{x:Str}{p:Pos}(h1:X.N[i]?=some x:=by rfl)(h2:Vis X.env.scope x:=by first | exact Or.inl rfl | exact Or.inr (Or.inl rfl) | exact Or.inr (Or.inr rfl))(h3:(x==("__debug__":Str))=false:=by decide)(h4:(x==("__classdict__":Str))=false:=by decide):PD X (.Name x p) (WY i):=zy9 i h1 h2 h3 h4
section
variable {P:Program}{w:World}{K:W.Frag}{mg:Str->Option Value}{base:Heap}{f:Addr}{fd:FuncData}
variable (xr:mg "len"=none)
include xr in
theorem zjU (F:ZV K "_law_cell_at" "_law_cell_at" zgr f fd):zQ P w K mg base ZR 1 f fd ["script","k"] (Z4 K Dp.zb2):=ZG (N:=["script","k"]) F Dp.zjM (term:=fun hnd _ _ _ _ _ _ hr=>(zj (zP (zK Yp Z8 (ZK Yr xr boot_len (zc Z8 zm))) (zp (zJ (zy Z8 Z8))) zM)
 (zp (zJ zq))))
variable (xat:Got P w K mg base 1 "_law_cell_at" ["script","k"] (Z4 K Dp.zb2))
theorem zml (F:ZV K "_law_mixed" "_law_mixed" zh4 f fd):zQ P w K mg base ZR 1 f fd ["cell","k"] (Z4 K Dp.zb5):=ZG (N:=["cell","k","big"]) F Dp.zmc (term:=fun hnd _ _ _ _ _ _ hr=>(zj (zB hnd (Yo (zV (YT Z8 (Ww 1000000000000000000000000000000000000000000000000000000000000 (by decide +kernel) ⟨by decide,by decide,by decide⟩)) zq) (zV zq (Yo (Yo zq Z8) Z8))))
 (zj (zB hnd (zV Z8 (Yo zq Z8)))
 (zp (zJ (YT (Yo Z8 Z8) (zV (Ww 1000000000000000000000000000000000000000000000000000000000000 (by decide +kernel) ⟨by decide,by decide,by decide⟩) zq)))))))
variable (xay:Got P w K mg base 1 "_law_mixed" ["cell","k"] (Z4 K Dp.zb5))
variable (xao:mg "range"=none)
variable (xac:mg "enumerate"=none)
include xay xao xac in
theorem zlm (F:ZV K "_law_seeds" "_law_seeds" zhP f fd):zQ P w K mg base ZR 2 f fd ["cells","most"] (Z4 K Dp.zds):=ZG (N:=["cells","most","seeds","k","cell","at"]) F Dp.zl3 (term:=fun hnd _ _ _ _ _ _ hr=>(zj (zdy hnd (own:=["k"]) (free:=[]) True.intro True.intro (zns xao (zc Z8 zm)) Yb (fun _ _ _ _ _=>Yn) (fun _ _ _ _ _=>(zE xay hr (zc Z8 (zc zq zm)))))
 (zj (YL (zcv rfl xac (zc Z8 zm)) (zbJ rfl (Y4 (zO hnd) (Y4 (zO hnd) zbG))) (zj (zB hnd (YT Z8 Z8))
 (zp (zeG (zE xay hr (zc (zV (zy Z8 Z8) (YT Z8 (Ww 1000000000000000000000000000000000000000000000000000000000000 (by decide +kernel) ⟨by decide,by decide,by decide⟩))) (zc (YT Z8 zq) zm))) (zfG Z8 Z8)))))
 (zp (zJ Z8)))))
variable (xd6:Got P w K mg base 2 "_law_seeds" ["cells","most"] (Z4 K Dp.zds))
include xac in
theorem zjH (F:ZV K "_law_beacons" "_law_beacons" zgq f fd):zQ P w K mg base ZR 1 f fd ["seeds"] (Z4 K Dp.zcE):=ZG (N:=["seeds","told","k","seed","name"]) F Dp.zjZ (term:=fun hnd _ _ _ _ _ _ hr=>(zj (zB hnd (Xd zm))
 (zj (YL (zcv rfl xac (zc Z8 zm)) (zbJ rfl (Y4 (zO hnd) (Y4 (zO hnd) zbG))) (zj (zB hnd (zV (zy zcw Z8) (zy (Xd (zc zcw (zc zcw (zc zcw (zc zcw zm))))) (YT Z8 zq))))
 (zp (zY (zfq PySem.F.slot_list_append PySem.F.type_list_append zcz Z8 (zc (z9 (zc Z8 (zc (zZ (YT (Ye Z8 zq) zq) zq) (zc (YT (Ye Z8 zq) zq) zm)))) zm))))))
 (zp (zJ Z8)))))
variable (xcl:Got P w K mg base 1 "_law_beacons" ["seeds"] (Z4 K Dp.zcE))
include xay in
theorem zmO (F:ZV K "_law_fogs" "_law_fogs" zjo f fd):zQ P w K mg base ZR 2 f fd ["seeds","first","last"] (Z4 K Dp.zdR):=ZG (N:=["seeds","first","last","told","seed","m","left","low","begin","end","drift","rise"]) F Dp.zmW (term:=fun hnd _ _ _ _ _ _ hr=>(zj (zB hnd (Xd zm))
 (zj (YL (Zi Z8) (zO hnd) (zj (zB hnd (zE xay hr (zc Z8 (zc zq zm))))
 (zp (zP (zK WM (YT Z8 zq) zq) (zj (zB hnd (zZ (YT (Ye Z8 zq) zq) zq))
 (zj (zB hnd (zZ (YT (Ye Z8 zq) zq) zq))
 (zj (zB hnd (zV (zZ Z8 zq) (YT (Ye Z8 zq) (zV (zZ Z8 Z8) zq))))
 (zj (zB hnd (zV Z8 (YT (Ye Z8 (Ww 1000000000000000 (by decide +kernel) ⟨by decide,by decide,by decide⟩)) zq)))
 (zj (zB hnd (zZ (YT (Ye Z8 (Ww 100000000000000000000 (by decide +kernel) ⟨by decide,by decide,by decide⟩)) zq) zq))
 (zj (zB hnd (zZ (YT (Ye Z8 (Ww 10000000000000000000000000 (by decide +kernel) ⟨by decide,by decide,by decide⟩)) zq) zq))
 (zp (zY (zfq PySem.F.slot_list_append PySem.F.type_list_append zcz Z8 (zc (z9 (zc Z8 (zc (zV Z8 (YT (Ye Z8 (Ww 1000000000000000000000000000000 (by decide +kernel) ⟨by decide,by decide,by decide⟩)) zq)) (zc Z8 (zc (zV Z8 (YT (Ye Z8 (Ww 100000000000000000000000000000000000 (by decide +kernel) ⟨by decide,by decide,by decide⟩)) zq)) (zc Z8 (zc Z8 (zc Z8 (zc Z8 zm))))))))) zm)))))))))) zM))))
 (zp (zJ Z8)))))
variable (xe2:Got P w K mg base 2 "_law_fogs" ["seeds","first","last"] (Z4 K Dp.zdR))
include xat xd6 xcl xe2 in
theorem zl2 (F:ZV K "_law_parts" "_law_parts" zhR f fd):zQ P w K mg base ZR 3 f fd ["script"] (Z4 K Dp.zdq):=ZG (N:=["script","head","count","seeds","first","last","ground","haze","beacons","fogs"]) F Dp.zlQ (term:=fun hnd _ _ _ _ _ _ hr=>(zj (zB hnd (YT (zE xat hr (zc Z8 (zc zq zm))) (Ww 1000000000000000000000000000000 (by decide +kernel) ⟨by decide,by decide,by decide⟩)))
 (zj (zB hnd (zV zq (YT Z8 zq)))
 (zj (zB hnd (zE xd6 hr (zc (zkY Z8 (zhz zq) zhn) (zc zq zm))))
 (zj (zB hnd (zZ (YT (Ye Z8 zq) zq) zq))
 (zj (zB hnd (zV Z8 (YT (Ye Z8 zq) zq)))
 (zj (zB hnd (Xd (zc (z9 (zc (Xy zq) (zc (Xy zq) zm))) (zc (z9 (zc (zZ (YT (Ye Z8 (Ww 1000000 (by decide +kernel) ⟨by decide,by decide,by decide⟩)) zq) zq) (zc (zZ (YT (Ye Z8 (Ww 100000000 (by decide +kernel) ⟨by decide,by decide,by decide⟩)) zq) zq) zm))) (zc (z9 (zc zq (zc (Xy zq) zm))) zm)))))
 (zj (zB hnd (zy (Xd (zc WT (zc (zV zq (YT (Ye Z8 (Ww 10000000000 (by decide +kernel) ⟨by decide,by decide,by decide⟩)) zq)) (zc zq zm)))) (YT (Ye Z8 (Ww 10000000000000 (by decide +kernel) ⟨by decide,by decide,by decide⟩)) zq)))
 (zj (zdy hnd (own:=["name","x","z"]) (free:=[]) True.intro True.intro (Zi (zE xcl hr (zc (zkY Z8 zhn (zhz Z8)) zm))) ⟨(zfY (za6 (za0 0 (by decide)) (za6 (za0 1 (by decide)) (za6 (za0 2 (by decide)) ze7)))),fun _ _ _ _ _=>(zgK rfl (zbx (zbF (show List.Nodup (["name","x","z"]:List Str) by decide +kernel) rfl (Or.inl rfl) (Or.inr rfl)) (zbx (zbF (show List.Nodup (["name","x","z"]:List Str) by decide +kernel) rfl (Or.inl rfl) (Or.inr rfl)) (zbx (zbF (show List.Nodup (["name","x","z"]:List Str) by decide +kernel) rfl (Or.inl rfl) (Or.inr rfl)) zfK))))⟩ (fun _ _ _ _ _=>Yn) (fun _ _ _ _ _=>(z9 (zc Z8 (zc Z8 (zc (zV Z8 zq) zm))))))
 (zj (zB hnd (zE xe2 hr (zc Z8 (zc Z8 (zc Z8 zm)))))
 (zp (zJ (z9 (zc Z8 (zc Z8 (zc Z8 (zc Z8 (zc Z8 (zc Z8 (zc (YT (Ye Z8 (Ww 1000000000000000 (by decide +kernel) ⟨by decide,by decide,by decide⟩)) zq) zm))))))))))))))))))))
variable (xec:Got P w K mg base 3 "_law_parts" ["script"] (Z4 K Dp.zdq))
variable (xb2:∃ t,mg "LEAST_CORNERS"=some (.int 2 t))
variable (xb9:∃ t,mg "MOST_CORNERS"=some (.int 40 t))
include xr xao xb2 xb9 in
theorem zfA (F:ZV K "refuse_bad_corners" "refuse_bad_corners" zdf f fd):zQ P w K mg base ZR 1 f fd ["corners"] (Z4 K Dp.zbc):=ZG (N:=["corners","k"]) F Dp.zfC (term:=fun hnd _ _ _ _ _ _ hr=>(zj (zP (Xn (zcO (zK Yp (ZK Yr xr boot_len (zc Z8 zm)) (zH rfl xb2)) (zcm (zK WM (ZK Yr xr boot_len (zc Z8 zm)) (zH rfl xb9))))) (zp zbb) zM)
 (zp (YL (zjD xao (zc zq (zc (ZK Yr xr boot_len (zc Z8 zm)) zm))) (zO hnd) (zp (zP (zK Wx (zy (zy Z8 Z8) zq) (zy (zy Z8 (zZ Z8 zq)) zq)) (zp zbb) zM))))))
variable (xau:Got P w K mg base 1 "refuse_bad_corners" ["corners"] (Z4 K Dp.zbc))
variable (xbj:∀ C,W.nsIn K mainGlobals "Ground"=some (some (.ref C))->YG K C "corners")
variable (xed:mg "list"=none)
include xau xbj xed in
theorem zjW (F:ZV K "__init__" "Ground.__init__" zck f fd):zQ P w K mg base ZR 2 f fd ["self","corners"] (Z4 K Dp.zdM):=ZG (N:=["self","corners"]) F Dp.zjX (term:=fun hnd _ _ _ _ _ _ hr=>(zj (zY (zE xau hr (zc Z8 zm)))
 (zp (zcY xbj Z8 (zf2 zjL xed boot_list (zc Z8 zm))))))
variable (xco:zjT P w K mg base 2 "Ground" (Z4 K Dp.zfk))
variable (xcb:∃ t,mg "MOST_BEACONS"=some (.int 12 t))
variable (xd4:∃ t,mg "MOST_FOGS"=some (.int 12 t))
include xr xcb xd4 in
theorem zfy (F:ZV K "refuse_bad_numbers" "refuse_bad_numbers" zc7 f fd):zQ P w K mg base ZR 1 f fd ["beacons","fogs"] (Z4 K Dp.zbe):=ZG (N:=["beacons","fogs"]) F Dp.zfH (term:=fun hnd _ _ _ _ _ _ hr=>(zj (zP (Xn (zcO (zK Yp (ZK Yr xr boot_len (zc Z8 zm)) zq) (zcm (zK WM (ZK Yr xr boot_len (zc Z8 zm)) (zH rfl xcb))))) (zp zbb) zM)
 (zp (zP (zK WM (ZK Yr xr boot_len (zc Z8 zm)) (zH rfl xd4)) (zp zbb) zM))))
variable (xaw:Got P w K mg base 1 "refuse_bad_numbers" ["beacons","fogs"] (Z4 K Dp.zbe))
variable (xcc:∃ t,mg "MOST_LETTERS"=some (.int 8 t))
variable (xfi:∃ t,mg "LETTERS"=some (.str "abcdefghijklmnopqrstuvwxyz" t))
variable (xai:mg "all"=none)
include xr xcc xfi xai in
theorem zoa (F:ZV K "is_name" "is_name" zkh f fd):zQ P w K mg base ZR 1 f fd ["text"] (Z4 K Dp.zew):=ZG (N:=["text"]) F Dp.zoI (term:=fun hnd _ _ _ _ _ _ hr=>(zj (zP (Xn (zcO (zK Yp (ZK Yr xr boot_len (zc Z8 zm)) zq) (zcm (zK WM (ZK Yr xr boot_len (zc Z8 zm)) (zH rfl xcc))))) (zp (zJ zdh)) zM)
 (zp (zJ (ZK zdp xai boot_all (zc (Xo (own:=["sign"]) (free:=[]) True.intro True.intro (Zi Z8) Yb (fun _ _ _ _ _=>Yn) (fun _ _ _ _ _=>(ztV (zx4 hr) Z8 (zt0 rfl xfi)))) zm))))))
variable (xfo:Got P w K mg base 1 "is_name" ["text"] (Z4 K Dp.zew))
variable (xiq:mg "set"=none)
include xr xai xfo xiq in
theorem zgz (F:ZV K "refuse_bad_names" "refuse_bad_names" zd5 f fd):zQ P w K mg base ZR 2 f fd ["names"] (Z4 K Dp.zbB):=ZG (N:=["names"]) F Dp.zgw (term:=fun hnd _ _ _ _ _ _ hr=>(zj (zP (Wq (W3 (ZK zdp xai boot_all (zc (Xo (own:=["name"]) (free:=[]) True.intro True.intro (Zi Z8) Yb (fun _ _ _ _ _=>Yn) (fun _ _ _ _ _=>(zE xfo hr (zc Z8 zm)))) zm)))) (zp zbb) zM)
 (zp (zP (zK Yp (zt3 rfl xr rfl xiq (zc Z8 zm)) (ZK Yr xr boot_len (zc Z8 zm))) (zp zbb) zM))))
variable (xa7:Got P w K mg base 2 "refuse_bad_names" ["names"] (Z4 K Dp.zbB))
theorem ztw (F:ZV K "less" "less" zpI f fd):zQ P w K mg base ZR 1 f fd ["one","other"] (Z4 K Dp.zdD):=ZG (N:=["one","other"]) F Dp.zuj (term:=fun hnd _ _ _ _ _ _ hr=>(zp (zJ (Wf Yp (Yo (zy Z8 zq) (zy Z8 zq)) (Yo (zy Z8 zq) (zy Z8 zq))))))
variable (xb4:Got P w K mg base 1 "less" ["one","other"] (Z4 K Dp.zdD))
include xb4 in
theorem zrC (F:ZV K "is_on" "is_on" znF f fd):zQ P w K mg base ZR 2 f fd ["ground","place"] (Z4 K Dp.zeX):=ZG (N:=["ground","place","first","last"]) F Dp.zrF (term:=fun hnd _ _ _ _ _ _ hr=>(zj (zB hnd (z9 (zc (zy (zy (YH Z8 rfl) zq) zq) (zc zq zm))))
 (zj (zB hnd (z9 (zc (zy (zy (YH Z8 rfl) (Xy zq)) zq) (zc zq zm))))
 (zp (zJ (zdF (zeI (zE xb4 hr (zc Z8 (zc Z8 zm)))) (zeS (zeI (zE xb4 hr (zc Z8 (zc Z8 zm)))))))))))
variable (xc6:Got P w K mg base 2 "is_on" ["ground","place"] (Z4 K Dp.zeX))
variable (xir:mg "abs"=none)
include xir in
theorem zhH (F:ZV K "common_divisor" "common_divisor" zeO f fd):zQ P w K mg base ZR 1 f fd ["one","other"] (Z4 K Dp.zbT):=ZG (N:=["one","other","rest"]) F Dp.zhG (term:=fun hnd _ _ _ _ _ _ hr=>(zj (zfh (zK (zex hr) Z8 zq) (zj (zB hnd (YT Z8 Z8))
 (zj (zB hnd Z8)
 (zp (zB hnd Z8)))))
 (zp (zJ (ZK zuH xir boot_abs (zc Z8 zm))))))
variable (xbo:Got P w K mg base 1 "common_divisor" ["one","other"] (Z4 K Dp.zbT))
include xbo in
theorem zmT (F:ZV K "fraction" "fraction" ziY f fd):zQ P w K mg base ZR 2 f fd ["top","bottom"] (Z4 K Dp.zdS):=ZG (N:=["top","bottom","divisor"]) F Dp.zmG (term:=fun hnd _ _ _ _ _ _ hr=>(zj (zB hnd (zE xbo hr (zc Z8 (zc Z8 zm))))
 (zj (zhD (zP (zK Yp Z8 zq) (zp (zB hnd (Xy Z8))) zM))
 (zp (zJ (z9 (zc (Ye Z8 Z8) (zc (Ye Z8 Z8) zm))))))))
variable (xe1:Got P w K mg base 2 "fraction" ["top","bottom"] (Z4 K Dp.zdS))
include xe1 in
theorem zl9 (F:ZV K "height_on" "height_on" zhU f fd):zQ P w K mg base ZR 3 f fd ["one","other","place"] (Z4 K Dp.zdo):=ZG (N:=["one","other","place","run","rise","top"]) F Dp.zlu (term:=fun hnd _ _ _ _ _ _ hr=>(zj (zB hnd (zZ (zy Z8 zq) (zy Z8 zq)))
 (zj (zB hnd (zZ (zy Z8 zq) (zy Z8 zq)))
 (zj (zB hnd (zV (Yo (Yo (zy Z8 zq) Z8) (zy Z8 zq)) (Yo Z8 (zZ (zy Z8 zq) (Yo (zy Z8 zq) (zy Z8 zq))))))
 (zp (zJ (zE xe1 hr (zc Z8 (zc (Yo Z8 (zy Z8 zq)) zm)))))))))
variable (xea:Got P w K mg base 3 "height_on" ["one","other","place"] (Z4 K Dp.zdo))
variable (xaz:∀ C,W.nsIn K mainGlobals "OffGround"=some (some (.ref C))->ExC K C)
variable (xa0:∃ C,W.nsIn K mainGlobals "OffGround"=some (some (.ref C))/\mg "OffGround"=some (.ref C))
include xb4 xc6 xea xaz xa0 in
theorem zli (F:ZV K "ground_at" "ground_at" zhQ f fd):zQ P w K mg base (Xi P w) 4 f fd ["ground","place"] (Xl K Dp.zdk):=zio (N:=["ground","place","corners","k"]) F Dp.zlF (term:=fun hnd _ _ _ _ _ _ hr _ ex hX hM=>(zj (zP (Wq (W3 (zE xc6 hr (zc Z8 (zc Z8 zm))))) (zp (zfg hM rfl xaz xa0 rfl (zc zcw zm) (fun _ _ _ h=>h _))) zM)
 (zj (zB hnd (YH Z8 rfl))
 (zj (zB hnd zq)
 (zj (zfh (W3 (zE xb4 hr (zc (z9 (zc (zy (zy Z8 Z8) zq) (zc zq zm))) (zc Z8 zm)))) (zp (ztF hnd zq)))
 (zp (zJ (zE xea hr (zc (zy Z8 (zZ Z8 zq)) (zc (zy Z8 Z8) (zc Z8 zm)))))))))))
variable (xd2:zfW P w K mg base 4 "ground_at" ["ground","place"] (Xl K Dp.zdk))
include xb4 xc6 xd2 in
theorem zoY (F:ZV K "stands" "stands" zlt f fd):zQ P w K mg base ZR 5 f fd ["ground","spot"] (Z4 K Dp.zee):=ZG (N:=["ground","spot","place"]) F Dp.zpN (term:=fun hnd _ _ _ _ _ _ hr=>(zj (zB hnd (z9 (zc (zy Z8 zq) (zc zq zm))))
 (zj (zP (Wq (W3 (zE xc6 hr (zc Z8 (zc Z8 zm))))) (zp (zJ zdh)) zM)
 (zp (zJ (zeI (zE xb4 hr (zc (z9 (zc (zy Z8 zq) (zc zq zm))) (zc (zby xd2 zjb hr (zc Z8 (zc Z8 zm))) zm)))))))))
variable (xcp:Got P w K mg base 5 "stands" ["ground","spot"] (Z4 K Dp.zee))
include xai xcp in
theorem zgH (F:ZV K "refuse_bad_tops" "refuse_bad_tops" zek f fd):zQ P w K mg base ZR 6 f fd ["ground","beacons"] (Z4 K Dp.zbL):=ZG (N:=["ground","beacons"]) F Dp.zgN (term:=fun hnd _ _ _ _ _ _ hr=>(zp (zP (Wq (W3 (ZK zdp xai boot_all (zc (Xo (own:=["name","x","z"]) (free:=["ground"]) ⟨rfl,True.intro⟩ ⟨rfl,rfl,rfl,True.intro⟩ (Zi Z8) ⟨(zfY (za6 (za0 0 (by decide)) (za6 (za0 1 (by decide)) (za6 (za0 2 (by decide)) ze7)))),fun _ _ _ _ _=>(zgK rfl (zbx (zbF (show List.Nodup (["name","x","z","ground"]:List Str) by decide +kernel) rfl (Or.inl rfl) (Or.inr rfl)) (zbx (zbF (show List.Nodup (["name","x","z","ground"]:List Str) by decide +kernel) rfl (Or.inl rfl) (Or.inr rfl)) (zbx (zbF (show List.Nodup (["name","x","z","ground"]:List Str) by decide +kernel) rfl (Or.inl rfl) (Or.inr rfl)) zfK))))⟩ (fun _ _ _ _ _=>Yn) (fun _ _ _ _ _=>(zE xcp hr (zc Z8 (zc (z9 (zc Z8 (zc Z8 zm))) zm))))) zm)))) (zp zbb) zM)))
variable (xbh:Got P w K mg base 6 "refuse_bad_tops" ["ground","beacons"] (Z4 K Dp.zbL))
variable (xf3:mg "int"=none)
variable (xu:mg "isinstance"=none)
variable (xe5:mg "bool"=none)
include xf3 xu xe5 in
theorem zmD (F:ZV K "is_whole" "is_whole" zjv f fd):zQ P w K mg base ZR 1 f fd ["value"] (Z4 K Dp.zcJ):=ZG (N:=["value"]) F Dp.zmB (term:=fun hnd _ _ _ _ _ _ hr=>(zp (zJ (zdF (ZK ze1 xu boot_isinstance (zc Z8 (zc (zgl rfl xf3 boot_int) zm))) (zeS (zeI (ZK ze1 xu boot_isinstance (zc Z8 (zc (zgl rfl xe5 boot_bool) zm)))))))))
variable (xbs:Got P w K mg base 1 "is_whole" ["value"] (Z4 K Dp.zcJ))
variable (xca:∃ t,mg "NUMBERS_fogs"=some (.int 8 t))
variable (xbv:∃ t,mg "LEFT"=some (.int 0 t))
variable (xa3:∃ t,mg "RIGHT"=some (.int 1 t))
variable (xal:∃ t,mg "LOW_fogs"=some (.int 2 t))
variable (xag:∃ t,mg "HIGH_fogs"=some (.int 3 t))
variable (xb6:∃ t,mg "FIRST"=some (.int 4 t))
variable (xe3:∃ t,mg "LAST"=some (.int 5 t))
variable (xad:mg "tuple"=none)
include xr xai xu xbs xca xbv xa3 xal xag xb6 xe3 xad in
theorem zp0 (F:ZV K "is_fog" "is_fog" zmh f fd):zQ P w K mg base ZR 2 f fd ["value"] (Z4 K Dp.zfa):=ZG (N:=["value"]) F Dp.zp2 (term:=fun hnd _ _ _ _ _ _ hr=>(zj (zP (Xn (zcO (Wq (W3 (ZK ze1 xu boot_isinstance (zc Z8 (zc (zgl rfl xad boot_tuple) zm))))) (zcm (zK (zex hr) (ZK Yr xr boot_len (zc Z8 zm)) (zH rfl xca))))) (zp (zJ zdh)) zM)
 (zj (zP (Wq (W3 (ZK zdp xai boot_all (zc (Xo (own:=["number"]) (free:=[]) True.intro True.intro (Zi Z8) Yb (fun _ _ _ _ _=>Yn) (fun _ _ _ _ _=>(zE xbs hr (zc Z8 zm)))) zm)))) (zp (zJ zdh)) zM)
 (zp (zJ (zdF (Wf Wx (zy Z8 (zH rfl xbv)) (zy Z8 (zH rfl xa3))) (zdF (Wf Wx (zy Z8 (zH rfl xal)) (zy Z8 (zH rfl xag))) (zeS (Wf Wx (zy Z8 (zH rfl xb6)) (zy Z8 (zH rfl xe3)))))))))))
variable (xf2:Got P w K mg base 2 "is_fog" ["value"] (Z4 K Dp.zfa))
include xai xf2 in
theorem zgW (F:ZV K "refuse_bad_fogs" "refuse_bad_fogs" zel f fd):zQ P w K mg base ZR 3 f fd ["fogs"] (Z4 K Dp.zbK):=ZG (N:=["fogs"]) F Dp.zgT (term:=fun hnd _ _ _ _ _ _ hr=>(zp (zP (Wq (W3 (ZK zdp xai boot_all (zc (Xo (own:=["fog"]) (free:=[]) True.intro True.intro (Zi Z8) Yb (fun _ _ _ _ _=>Yn) (fun _ _ _ _ _=>(zE xf2 hr (zc Z8 zm)))) zm)))) (zp zbb) zM)))
variable (xbd:Got P w K mg base 3 "refuse_bad_fogs" ["fogs"] (Z4 K Dp.zbK))
theorem zgv (F:ZV K "refuse_bad_hours" "refuse_bad_hours" zed f fd):zQ P w K mg base ZR 1 f fd ["haze","first","last","delay"] (Z4 K Dp.zbA):=ZG (N:=["haze","first","last","delay"]) F Dp.zgu (term:=fun hnd _ _ _ _ _ _ hr=>(zj (zP (zK WM Z8 Z8) (zp zbb) zM)
 (zj (zP (zK Yp Z8 zq) (zp zbb) zM)
 (zp (zP (Xn (zb1 (zK zfM Z8 WT) (zch (zK Yp Z8 zq)))) (zp zbb) zM)))))
variable (xa4:Got P w K mg base 1 "refuse_bad_hours" ["haze","first","last","delay"] (Z4 K Dp.zbA))
variable (xbu:∀ C,W.nsIn K mainGlobals "Valley"=some (some (.ref C))->YG K C "ground")
variable (xbg:∀ C,W.nsIn K mainGlobals "Valley"=some (some (.ref C))->YG K C "beacons")
variable (xcd:∀ C,W.nsIn K mainGlobals "Valley"=some (some (.ref C))->YG K C "fogs")
variable (xcf:∀ C,W.nsIn K mainGlobals "Valley"=some (some (.ref C))->YG K C "haze")
variable (xby:∀ C,W.nsIn K mainGlobals "Valley"=some (some (.ref C))->YG K C "first")
variable (xce:∀ C,W.nsIn K mainGlobals "Valley"=some (some (.ref C))->YG K C "last")
variable (xb1:∀ C,W.nsIn K mainGlobals "Valley"=some (some (.ref C))->YG K C "delay")
include xed xco xaw xa7 xbh xbd xa4 xbu xbg xcd xcf xby xce xb1 in
theorem zjS (F:ZV K "__init__" "Valley.__init__" zcj f fd):zQ P w K mg base ZR 7 f fd ["self","ground","beacons","fogs","haze","first","last","delay"] (Z4 K Dp.zdz):=ZG (N:=["self","ground","beacons","fogs","haze","first","last","delay"]) F Dp.zjR (term:=fun hnd _ _ _ _ _ _ hr=>(zj (zY (zE xaw hr (zc Z8 (zc Z8 zm))))
 (zj (zY (zE xa7 hr (zc (Xo (own:=["beacon"]) (free:=[]) True.intro True.intro (Zi Z8) Yb (fun _ _ _ _ _=>Yn) (fun _ _ _ _ _=>(zy Z8 zq))) zm)))
 (zj (zY (zE xbh hr (zc Z8 (zc Z8 zm))))
 (zj (zY (zE xbd hr (zc Z8 zm)))
 (zj (zY (zE xa4 hr (zc Z8 (zc Z8 (zc Z8 (zc Z8 zm))))))
 (zj (zcY xbu Z8 (zlR xco hr (zc (YH Z8 rfl) zm)))
 (zj (zcY xbg Z8 (zf2 zjL xed boot_list (zc Z8 zm)))
 (zj (zcY xcd Z8 (zf2 zjL xed boot_list (zc Z8 zm)))
 (zj (zcY xcf Z8 Z8)
 (zj (zcY xby Z8 Z8)
 (zj (zcY xce Z8 Z8)
 (zp (zcY xb1 Z8 Z8))))))))))))))
variable (xf4:zjT P w K mg base 7 "Valley" (Z4 K Dp.zgV))
include xco xf4 in
theorem zkQ (F:ZV K "_law_valley" "_law_valley" zhf f fd):zQ P w K mg base ZR 9 f fd ["parts"] (Z4 K Dp.zcS):=ZG (N:=["parts","ground","beacons","fogs","haze","first","last","delay"]) F Dp.zkM (term:=fun hnd _ _ _ _ _ _ hr=>(zj (zeG Z8 (zbJ rfl (Y4 (zO hnd) (Y4 (zO hnd) (Y4 (zO hnd) (Y4 (zO hnd) (Y4 (zO hnd) (Y4 (zO hnd) (Y4 (zO hnd) zbG)))))))))
 (zp (zJ (zlR xf4 hr (zc (zlR xco hr (zc Z8 zm)) (zc Z8 (zc Z8 (zc Z8 (zc Z8 (zc Z8 (zc Z8 zm))))))))))))
variable (xcz:Got P w K mg base 9 "_law_valley" ["parts"] (Z4 K Dp.zcS))
variable (xa9:∀ C,W.nsIn K mainGlobals "NoBeacon"=some (some (.ref C))->ExC K C)
variable (xba:∃ C,W.nsIn K mainGlobals "NoBeacon"=some (some (.ref C))/\mg "NoBeacon"=some (.ref C))
include xa9 xba in
theorem zoN (F:ZV K "spot_of" "spot_of" zkK f fd):zQ P w K mg base (Xi P w) 1 f fd ["valley","name"] (Xl K Dp.zc6):=zio (N:=["valley","name","beacon"]) F Dp.zof (term:=fun hnd _ _ _ _ _ _ hr _ ex hX hM=>(zj (YL (Zi (YH Z8 rfl)) (zO hnd) (zp (zP (zK (Xj hr) (zy Z8 zq) Z8) (zp (zJ (z9 (zc (zy Z8 zq) (zc (zy Z8 zq) zm))))) zM)))
 (zp (zfg hM rfl xa9 xba rfl (zc zcw zm) (fun _ _ _ h=>h _)))))
variable (xee:zfW P w K mg base 1 "spot_of" ["valley","name"] (Xl K Dp.zc6))
include xaz xa0 xcp in
theorem zfs (F:ZV K "refuse_not_standing" "refuse_not_standing" zc3 f fd):zQ P w K mg base (Xi P w) 6 f fd ["ground","spot"] (Xl K Dp.zaK):=zio (N:=["ground","spot"]) F Dp.zfv (term:=fun hnd _ _ _ _ _ _ hr _ ex hX hM=>(zp (zP (Wq (W3 (zE xcp hr (zc Z8 (zc Z8 zm))))) (zp (zfg hM rfl xaz xa0 rfl (zc zcw zm) (fun _ _ _ h=>h _))) zM)))
variable (xam:zfW P w K mg base 6 "refuse_not_standing" ["ground","spot"] (Xl K Dp.zaK))
variable (xan:mg "min"=none)
variable (xab:mg "max"=none)
include xac xan xab in
theorem zgP (F:ZV K "numbers_between" "numbers_between" zen f fd):zQ P w K mg base ZR 1 f fd ["ground","x","other_x"] (Z4 K Dp.zbO):=ZG (N:=["ground","x","other_x","low","high"]) F Dp.zg7 (term:=fun hnd _ _ _ _ _ _ hr=>(zj (zB hnd (ZK zc4 xan boot_min (zc Z8 (zc Z8 zm))))
 (zj (zB hnd (ZK zbH xab boot_max (zc Z8 (zc Z8 zm))))
 (zp (zJ (Xo (own:=["k","corner"]) (free:=["low","high"]) ⟨rfl,rfl,True.intro⟩ ⟨rfl,rfl,rfl,rfl,rfl,rfl,True.intro⟩ (zcv rfl xac (zc (YH Z8 rfl) zm)) ⟨(zfY (za6 (za0 0 (by decide)) (za6 (za0 1 (by decide)) ze7))),fun _ _ _ _ _=>(zgK rfl (zbx (zbF (show List.Nodup (["k","corner","low","high"]:List Str) by decide +kernel) rfl (Or.inl rfl) (Or.inr rfl)) (zbx (zbF (show List.Nodup (["k","corner","low","high"]:List Str) by decide +kernel) rfl (Or.inl rfl) (Or.inr rfl)) zfK)))⟩ (fun _ _ _ _ _=>(zjJ (zkw Yp Yp Z8 (zy Z8 zq) Z8))) (fun _ _ _ _ _=>Z8)))))))
variable (xbe:Got P w K mg base 1 "numbers_between" ["ground","x","other_x"] (Z4 K Dp.zbO))
theorem znT (F:ZV K "side_of" "side_of" zkp f fd):zQ P w K mg base ZR 1 f fd ["one","other","spot"] (Z4 K Dp.zes):=ZG (N:=["one","other","spot","run","rise","over"]) F Dp.zom (term:=fun hnd _ _ _ _ _ _ hr=>(zj (zB hnd (zZ (zy Z8 zq) (zy Z8 zq)))
 (zj (zB hnd (zZ (zy Z8 zq) (zy Z8 zq)))
 (zj (zB hnd (zZ (Yo (zZ (zy Z8 zq) (zy Z8 zq)) Z8) (Yo (zZ (zy Z8 zq) (zy Z8 zq)) Z8)))
 (zj (zhD (zP (zK Yp Z8 zq) (zp (zB hnd (Xy Z8))) zM))
 (zj (zP (zK WM Z8 zq) (zp (zJ zq)) zM)
 (zj (zP (zK Yp Z8 zq) (zp (zJ (Xy zq))) zM)
 (zp (zJ zq)))))))))
variable (xfn:Got P w K mg base 1 "side_of" ["one","other","spot"] (Z4 K Dp.zes))
include xam xbe xfn in
theorem zpk (F:ZV K "hinder" "hinder" zld f fd):zQ P w K mg base (Xi P w) 7 f fd ["ground","one","other"] (Xl K Dp.ze8):=zio (N:=["ground","one","other","k"]) F Dp.zqf (term:=fun hnd _ _ _ _ _ _ hr _ ex hX hM=>(zj (zY (zby xam hX hr (zc Z8 (zc Z8 zm))))
 (zj (zY (zby xam hX hr (zc Z8 (zc Z8 zm))))
 (zj (YL (Zi (zE xbe hr (zc Z8 (zc (zy Z8 zq) (zc (zy Z8 zq) zm))))) (zO hnd) (zp (zP (zK WM (zE xfn hr (zc Z8 (zc Z8 (zc (zy (YH Z8 rfl) Z8) zm)))) zq) (zp (zJ Z8)) zM)))
 (zp (zJ WT))))))
variable (xgh:zfW P w K mg base 7 "hinder" ["ground","one","other"] (Xl K Dp.ze8))
theorem zhF (F:ZV K "square_between" "square_between" ze4 f fd):zQ P w K mg base ZR 1 f fd ["one","other"] (Z4 K Dp.zbU):=ZG (N:=["one","other","run","climb"]) F Dp.zhI (term:=fun hnd _ _ _ _ _ _ hr=>(zj (zB hnd (zZ (zy Z8 zq) (zy Z8 zq)))
 (zj (zB hnd (zZ (zy Z8 zq) (zy Z8 zq)))
 (zp (zJ (zV (Yo Z8 Z8) (Yo Z8 Z8)))))))
variable (xbp:Got P w K mg base 1 "square_between" ["one","other"] (Z4 K Dp.zbU))
include xgh xbp in
theorem zic (F:ZV K "hidden_always" "hidden_always" zfb f fd):zQ P w K mg base ZR 8 f fd ["valley","one","other"] (Z4 K Dp.zcb):=ZG (N:=["valley","one","other","corner","square"]) F Dp.zix (term:=fun hnd _ _ _ _ _ _ hr=>(zj (zB hnd (zby xgh zjb hr (zc (YH Z8 rfl) (zc Z8 (zc Z8 zm)))))
 (zj (zP (zK zfM Z8 WT) (zp (zJ (z9 (zc zcw (zc Z8 zm))))) zM)
 (zj (zB hnd (zE xbp hr (zc Z8 (zc Z8 zm))))
 (zj (zP (Xn (zb1 (zK zfM (YH Z8 rfl) WT) (zch (zK WM Z8 (YH Z8 rfl))))) (zp (zJ (z9 (zc zcw (zc Z8 zm))))) zM)
 (zp (zJ WT)))))))
variable (xbz:Got P w K mg base 8 "hidden_always" ["valley","one","other"] (Z4 K Dp.zcb))
variable (xgw:∃ t,mg "DRIFT"=some (.int 6 t))
variable (xhm:∃ t,mg "RISE"=some (.int 7 t))
include xbv xa3 xal xag xgw xhm in
theorem zqU (F:ZV K "moved" "moved" znn f fd):zQ P w K mg base ZR 1 f fd ["fog","hours"] (Z4 K Dp.zeU):=ZG (N:=["fog","hours","along","upwards"]) F Dp.zr8 (term:=fun hnd _ _ _ _ _ _ hr=>(zj (zB hnd (Yo (zy Z8 (zH rfl xgw)) Z8))
 (zj (zB hnd (Yo (zy Z8 (zH rfl xhm)) Z8))
 (zp (zJ (z9 (zc (zV (zy Z8 (zH rfl xbv)) Z8) (zc (zV (zy Z8 (zH rfl xa3)) Z8) (zc (zV (zy Z8 (zH rfl xal)) Z8) (zc (zV (zy Z8 (zH rfl xag)) Z8) zm))))))))))
variable (xfx:Got P w K mg base 1 "moved" ["fog","hours"] (Z4 K Dp.zeU))
include xbv xa3 xal xag xan xab in
theorem zol (F:ZV K "margins" "margins" zkb f fd):zQ P w K mg base ZR 1 f fd ["box","one","other"] (Z4 K Dp.zdb):=ZG (N:=["box","one","other","run","climb","corners","across"]) F Dp.zoC (term:=fun hnd _ _ _ _ _ _ hr=>(zj (zB hnd (zZ (zy Z8 zq) (zy Z8 zq)))
 (zj (zB hnd (zZ (zy Z8 zq) (zy Z8 zq)))
 (zj (zB hnd (Xd (zc (z9 (zc (zy Z8 (zH rfl xbv)) (zc (zy Z8 (zH rfl xal)) zm))) (zc (z9 (zc (zy Z8 (zH rfl xbv)) (zc (zy Z8 (zH rfl xag)) zm))) (zc (z9 (zc (zy Z8 (zH rfl xa3)) (zc (zy Z8 (zH rfl xal)) zm))) (zc (z9 (zc (zy Z8 (zH rfl xa3)) (zc (zy Z8 (zH rfl xag)) zm))) zm))))))
 (zj (zdy hnd (own:=["x","z"]) (free:=["run","one","climb"]) ⟨rfl,rfl,rfl,True.intro⟩ ⟨rfl,rfl,rfl,rfl,rfl,rfl,rfl,rfl,rfl,True.intro⟩ (Zi Z8) ⟨(zfY (za6 (za0 0 (by decide)) (za6 (za0 1 (by decide)) ze7))),fun _ _ _ _ _=>(zgK rfl (zbx (zbF (show List.Nodup (["x","z","run","one","climb"]:List Str) by decide +kernel) rfl (Or.inl rfl) (Or.inr rfl)) (zbx (zbF (show List.Nodup (["x","z","run","one","climb"]:List Str) by decide +kernel) rfl (Or.inl rfl) (Or.inr rfl)) zfK)))⟩ (fun _ _ _ _ _=>Yn) (fun _ _ _ _ _=>(zZ (Yo Z8 (zZ Z8 (zy Z8 zq))) (Yo Z8 (zZ Z8 (zy Z8 zq))))))
 (zp (zJ (Xd (zc (zZ (ZK zbH xab boot_max (zc (zy Z8 zq) (zc (zy Z8 zq) zm))) (zy Z8 (zH rfl xbv))) (zc (zZ (zy Z8 (zH rfl xa3)) (ZK zc4 xan boot_min (zc (zy Z8 zq) (zc (zy Z8 zq) zm)))) (zc (zZ (ZK zbH xab boot_max (zc (zy Z8 zq) (zc (zy Z8 zq) zm))) (zy Z8 (zH rfl xal))) (zc (zZ (zy Z8 (zH rfl xag)) (ZK zc4 xan boot_min (zc (zy Z8 zq) (zc (zy Z8 zq) zm)))) (zc (ZK zto xab boot_max (zc Z8 zm)) (zc (Xy (ZK zs8 xan boot_min (zc Z8 zm))) zm))))))))))))))
variable (xef:Got P w K mg base 1 "margins" ["box","one","other"] (Z4 K Dp.zdb))
variable (xf6:mg "sorted"=none)
include xr xad xab xf6 in
theorem ztG (F:ZV K "tidy" "tidy" zo8 f fd):zQ P w K mg base ZR 1 f fd ["pairs"] (Z4 K Dp.zdG):=ZG (N:=["pairs","found","low","high"]) F Dp.zsZ (term:=fun hnd _ _ _ _ _ _ hr=>(zj (zB hnd (Xd zm))
 (zj (YL (Zi (ZK ztD xf6 boot_sorted (zc (Xo (own:=["pair"]) (free:=[]) True.intro True.intro (Zi Z8) Yb (fun _ _ _ _ _=>(zjJ (zK Wx (zy Z8 zq) (zy Z8 zq)))) (fun _ _ _ _ _=>(z9 (zc (zy Z8 zq) (zc (zy Z8 zq) zm))))) zm))) (zbJ rfl (Y4 (zO hnd) (Y4 (zO hnd) zbG))) (zp (zP (Xn (zb1 (zK WM (ZK Yr xr boot_len (zc Z8 zm)) zq) (zch (zK Wx Z8 (zV (zy (zy Z8 (Xy zq)) zq) zq))))) (zp (zeG (z9 (zc (zy (zy Z8 (Xy zq)) zq) (zc (ZK zbH xab boot_max (zc (zy (zy Z8 (Xy zq)) zq) (zc Z8 zm))) zm))) (zfG Z8 (Xy zq)))) (zp (zY (zfq PySem.F.slot_list_append PySem.F.type_list_append zcz Z8 (zc (z9 (zc Z8 (zc Z8 zm))) zm)))))))
 (zp (zJ (zf2 zge xad boot_tuple (zc Z8 zm)))))))
variable (xbl:Got P w K mg base 1 "tidy" ["pairs"] (Z4 K Dp.zdG))
variable (xga:mg "zip"=none)
include xb6 xe3 xan xab xfx xef xbl xga in
theorem zrG (F:ZV K "foggy" "foggy" znA f fd):zQ P w K mg base ZR 2 f fd ["fog","one","other"] (Z4 K Dp.zfS):=ZG (N:=["fog","one","other","low","high","starts","afters","start","after","step"]) F Dp.zrf (term:=fun hnd _ _ _ _ _ _ hr=>(zj (zB hnd zq)
 (zj (zB hnd (zZ (zy Z8 (zH rfl xe3)) (zy Z8 (zH rfl xb6))))
 (zj (zB hnd (zE xef hr (zc (zE xfx hr (zc Z8 (zc zq zm))) (zc Z8 (zc Z8 zm)))))
 (zj (zB hnd (zE xef hr (zc (zE xfx hr (zc Z8 (zc zq zm))) (zc Z8 (zc Z8 zm)))))
 (zj (YL (zpj rfl xga (zc Z8 (zc Z8 zm))) (zbJ rfl (Y4 (zO hnd) (Y4 (zO hnd) zbG))) (zj (zB hnd (zZ Z8 Z8))
 (zp (zP (zK WM Z8 zq) (zp (zB hnd (ZK zbH xab boot_max (zc Z8 (zc (Xy (Ye Z8 Z8)) zm))))) (zp (zP (zK Yp Z8 zq) (zp (zB hnd (ZK zc4 xan boot_min (zc Z8 (zc (Ye Z8 (Xy Z8)) zm))))) (zp (zP (zK Yp Z8 zq) (zp (zJ (z9 zm))) zM))))))))
 (zp (zJ (zE xbl hr (zc (Xd (zc (z9 (zc (zV (zy Z8 (zH rfl xb6)) Z8) (zc (zV (zy Z8 (zH rfl xb6)) Z8) zm))) zm)) zm))))))))))
variable (xgx:Got P w K mg base 2 "foggy" ["fog","one","other"] (Z4 K Dp.zfS))
include xbl xgx in
theorem zlI (F:ZV K "foggy_all" "foggy_all" zh2 f fd):zQ P w K mg base ZR 3 f fd ["fogs","one","other"] (Z4 K Dp.zdm):=ZG (N:=["fogs","one","other","found","fog"]) F Dp.zme (term:=fun hnd _ _ _ _ _ _ hr=>(zj (zB hnd (Xd zm))
 (zj (YL (Zi Z8) (zO hnd) (zp (zY (zfq PySem.F.slot_list_extend PySem.F.type_list_extend zob Z8 (zc (zE xgx hr (zc Z8 (zc Z8 (zc Z8 zm)))) zm)))))
 (zp (zJ (zE xbl hr (zc Z8 zm)))))))
variable (xdx:Got P w K mg base 3 "foggy_all" ["fogs","one","other"] (Z4 K Dp.zdm))
include xbl in
theorem zt2 (F:ZV K "gaps" "gaps" zqy f fd):zQ P w K mg base ZR 2 f fd ["spans","low","high"] (Z4 K Dp.zhg):=ZG (N:=["spans","low","high","found","start","span"]) F Dp.zuq (term:=fun hnd _ _ _ _ _ _ hr=>(zj (zB hnd (Xd zm))
 (zj (zB hnd Z8)
 (zj (YL (Zi Z8) (zO hnd) (zj (zY (zfq PySem.F.slot_list_append PySem.F.type_list_append zcz Z8 (zc (z9 (zc Z8 (zc (zZ (zy Z8 zq) zq) zm))) zm)))
 (zp (zB hnd (zV (zy Z8 zq) zq)))))
 (zj (zY (zfq PySem.F.slot_list_append PySem.F.type_list_append zcz Z8 (zc (z9 (zc Z8 (zc Z8 zm))) zm)))
 (zp (zJ (zE xbl hr (zc Z8 zm)))))))))
variable (xht:Got P w K mg base 2 "gaps" ["spans","low","high"] (Z4 K Dp.zhg))
include xan xab xbl in
theorem zs4 (F:ZV K "both" "both" zql f fd):zQ P w K mg base ZR 2 f fd ["one","other"] (Z4 K Dp.zhu):=ZG (N:=["one","other","found","low","high","other_low","other_high"]) F Dp.zuy (term:=fun hnd _ _ _ _ _ _ hr=>(zj (zB hnd (Xd zm))
 (zj (YL (Zi Z8) (zbJ rfl (Y4 (zO hnd) (Y4 (zO hnd) zbG))) (zp (YL (Zi Z8) (zbJ rfl (Y4 (zO hnd) (Y4 (zO hnd) zbG))) (zp (zY (zfq PySem.F.slot_list_append PySem.F.type_list_append zcz Z8 (zc (z9 (zc (ZK zbH xab boot_max (zc Z8 (zc Z8 zm))) (zc (ZK zc4 xan boot_min (zc Z8 (zc Z8 zm))) zm))) zm)))))))
 (zp (zJ (zE xbl hr (zc Z8 zm)))))))
variable (xhp:Got P w K mg base 2 "both" ["one","other"] (Z4 K Dp.zhu))
include xr xht xhp in
theorem zn2 (F:ZV K "without" "without" zkm f fd):zQ P w K mg base ZR 3 f fd ["one","other"] (Z4 K Dp.zeC):=ZG (N:=["one","other"]) F Dp.znP (term:=fun hnd _ _ _ _ _ _ hr=>(zj (zP (zK (Xj hr) (ZK Yr xr boot_len (zc Z8 zm)) zq) (zp (zJ (z9 zm))) zM)
 (zp (zJ (zE xhp hr (zc Z8 (zc (zE xht hr (zc Z8 (zc (zy (zy Z8 zq) zq) (zc (zy (zy Z8 (Xy zq)) zq) zm)))) zm)))))))
variable (xfa:Got P w K mg base 3 "without" ["one","other"] (Z4 K Dp.zeC))
include xee xbz xdx xfa in
theorem zrh (F:ZV K "sight" "sight" znz f fd):zQ P w K mg base (Xi P w) 9 f fd ["valley","name","other"] (Xl K Dp.zeY):=zio (N:=["valley","name","other","one_top","other_top","hours"]) F Dp.zrO (term:=fun hnd _ _ _ _ _ _ hr _ ex hX hM=>(zj (zB hnd (zby xee hX hr (zc Z8 (zc Z8 zm))))
 (zj (zB hnd (zby xee hX hr (zc Z8 (zc Z8 zm))))
 (zj (zB hnd (z9 (zc (z9 (zc (YH Z8 rfl) (zc (YH Z8 rfl) zm))) zm)))
 (zj (zP (zK (Xj hr) Z8 Z8) (zp (zJ Z8)) zM)
 (zj (zP (zK zfM (zE xbz hr (zc Z8 (zc Z8 (zc Z8 zm)))) WT) (zp (zJ (z9 zm))) zM)
 (zp (zJ (zE xfa hr (zc Z8 (zc (zE xdx hr (zc (YH Z8 rfl) (zc Z8 (zc Z8 zm)))) zm)))))))))))
variable (xde:zfW P w K mg base 9 "sight" ["valley","name","other"] (Xl K Dp.zeY))
include xde in
theorem zlx (F:ZV K "_law_views" "_law_views" zhL f fd):zQ P w K mg base ZR 10 f fd ["valley"] (Z4 K Dp.zdd):=ZG (N:=["valley","names"]) F Dp.zmn (term:=fun hnd _ _ _ _ _ _ hr=>(zj (zB hnd (Xo (own:=["beacon"]) (free:=[]) True.intro True.intro (Zi (YH Z8 rfl)) Yb (fun _ _ _ _ _=>Yn) (fun _ _ _ _ _=>(zy Z8 zq))))
 (zp (zJ (Xo (own:=["name"]) (free:=["names","valley"]) ⟨rfl,rfl,True.intro⟩ ⟨rfl,rfl,rfl,rfl,rfl,rfl,True.intro⟩ (Zi Z8) Yb (fun _ _ _ _ _=>Yn) (fun _ _ _ _ _=>(Xo (own:=["other"]) (free:=["valley","name"]) ⟨rfl,rfl,True.intro⟩ ⟨rfl,rfl,rfl,rfl,rfl,rfl,True.intro⟩ (Zi Z8) Yb (fun _ _ _ _ _=>Yn) (fun _ _ _ _ _=>(zby xde zjb hr (zc Z8 (zc Z8 (zc Z8 zm))))))))))))
variable (xd9:Got P w K mg base 10 "_law_views" ["valley"] (Z4 K Dp.zdd))
theorem zmH (F:ZV K "names_of" "names_of" ziJ f fd):zQ P w K mg base ZR 1 f fd ["valley"] (Z4 K Dp.zbs):=ZG (N:=["valley"]) F Dp.zmP (term:=fun hnd _ _ _ _ _ _ hr=>(zp (zJ (Xo (own:=["beacon"]) (free:=[]) True.intro True.intro (Zi (YH Z8 rfl)) Yb (fun _ _ _ _ _=>Yn) (fun _ _ _ _ _=>(zy Z8 zq))))))
variable (xaf:Got P w K mg base 1 "names_of" ["valley"] (Z4 K Dp.zbs))
include xa9 xba xaf in
theorem zgx (F:ZV K "refuse_no_beacon" "refuse_no_beacon" zeb f fd):zQ P w K mg base (Xi P w) 2 f fd ["valley","name"] (Xl K Dp.za2):=zio (N:=["valley","name"]) F Dp.zgy (term:=fun hnd _ _ _ _ _ _ hr _ ex hX hM=>(zp (zP (zuo (zrd hr) Z8 (zE xaf hr (zc Z8 zm))) (zp (zfg hM rfl xa9 xba rfl (zc zcw zm) (fun _ _ _ h=>h _))) zM)))
variable (xar:zfW P w K mg base 2 "refuse_no_beacon" ["valley","name"] (Xl K Dp.za2))
variable (xbn:∃ t,mg "TO"=some (.int 2 t))
variable (xah:∃ t,mg "STEP"=some (.int 3 t))
variable (xq:∃ t,mg "LOW_reaches"=some (.int 0 t))
include xbn xah xq in
theorem zvF (F:ZV K "led" "led" zsy f fd):zQ P w K mg base ZR 1 f fd ["piece","hour"] (Z4 K Dp.V0):=ZG (N:=["piece","hour"]) F Dp.zwE (term:=fun hnd _ _ _ _ _ _ hr=>(zp (zJ (zV (zy Z8 (zH rfl xbn)) (Yo (zy Z8 (zH rfl xah)) (zZ Z8 (zy Z8 (zH rfl xq))))))))
variable (xak:Got P w K mg base 1 "led" ["piece","hour"] (Z4 K Dp.V0))
variable (xg:∃ t,mg "HIGH_reaches"=some (.int 1 t))
include xbn xq xak xg in
theorem zjl (F:ZV K "can_be_drawn" "can_be_drawn" zfN f fd):zQ P w K mg base ZR 2 f fd ["piece","to"] (Z4 K Dp.zbM):=ZG (N:=["piece","to"]) F Dp.ziX (term:=fun hnd _ _ _ _ _ _ hr=>(zj (zP (zK (Xj hr) (zy Z8 (zH rfl xq)) (zy Z8 (zH rfl xg))) (zp (zJ (zo6 (Wf (Xj hr) Z8 (zy Z8 (zH rfl xbn))) (zeS (Wf (Xj hr) Z8 (zV (zy Z8 (zH rfl xbn)) zq)))))) zM)
 (zp (zJ (Wf (Xj hr) Z8 (zE xak hr (zc Z8 (zc (zV (zy Z8 (zH rfl xg)) zq) zm))))))))
variable (xaq:Got P w K mg base 2 "can_be_drawn" ["piece","to"] (Z4 K Dp.zbM))
include xak xg in
theorem zpd (F:ZV K "end_of" "end_of" zmi f fd):zQ P w K mg base ZR 2 f fd ["piece"] (Z4 K Dp.zcZ):=ZG (N:=["piece"]) F Dp.zqm (term:=fun hnd _ _ _ _ _ _ hr=>(zp (zJ (zE xak hr (zc Z8 (zc (zy Z8 (zH rfl xg)) zm))))))
variable (xbb:Got P w K mg base 2 "end_of" ["piece"] (Z4 K Dp.zcZ))
include xr xbn xq xaq xbb in
theorem zvq (F:ZV K "put" "put" zsm f fd):zQ P w K mg base ZR 3 f fd ["pieces","low","high","to","step"] (Z4 K Dp.zd6):=ZG (N:=["pieces","low","high","to","step","start","last","drawn_step","drawn_high"]) F Dp.zwy (term:=fun hnd _ _ _ _ _ _ hr=>(zj (zB hnd Z8)
 (zj (zhD (zP (Xn (zb1 (zK Wx Z8 Z8) (zb1 (zK WM (ZK Yr xr boot_len (zc Z8 zm)) zq) (zch (W3 (zE xaq hr (zc (zy Z8 (Xy zq)) (zc Z8 zm)))))))) (zj (zB hnd (zy Z8 (Xy zq)))
 (zj (zB hnd (zZ Z8 (zE xbb hr (zc Z8 zm))))
 (zj (zhD (zB hnd (zjq (zK (Xj hr) Z8 Z8) Z8 Z8)))
 (zj (zeG (z9 (zc (zy Z8 (zH rfl xq)) (zc Z8 (zc (zy Z8 (zH rfl xbn)) (zc Z8 zm))))) (zfG Z8 (Xy zq)))
 (zp (zB hnd (zV Z8 zq))))))) zM))
 (zp (zP (zK Wx Z8 Z8) (zp (zY (zfq PySem.F.slot_list_append PySem.F.type_list_append zcz Z8 (zc (z9 (zc Z8 (zc Z8 (zc (zV Z8 (Yo Z8 (zZ Z8 Z8))) (zc (zjq (zK Yp Z8 Z8) Z8 zq) zm))))) zm)))) zM)))))
variable (xcj:Got P w K mg base 3 "put" ["pieces","low","high","to","step"] (Z4 K Dp.zd6))
include xad xab xcj in
theorem zmX (F:ZV K "reach_of" "reach_of" zje f fd):zQ P w K mg base ZR 4 f fd ["spans","delay","first"] (Z4 K Dp.zcM):=ZG (N:=["spans","delay","first","found","hour","low","high","start"]) F Dp.zmA (term:=fun hnd _ _ _ _ _ _ hr=>(zj (zB hnd (Xd zm))
 (zj (zB hnd Z8)
 (zj (YL (Zi Z8) (zbJ rfl (Y4 (zO hnd) (Y4 (zO hnd) zbG))) (zj (zY (zE xcj hr (zc Z8 (zc Z8 (zc (zZ Z8 zq) (zc (zV Z8 Z8) (zc zq zm)))))))
 (zj (zB hnd (ZK zbH xab boot_max (zc Z8 (zc Z8 zm))))
 (zj (zY (zE xcj hr (zc Z8 (zc Z8 (zc Z8 (zc (zV Z8 Z8) (zc zq zm)))))))
 (zp (zB hnd (ZK zbH xab boot_max (zc Z8 (zc (zV Z8 zq) zm)))))))))
 (zp (zJ (zf2 zge xad boot_tuple (zc Z8 zm))))))))
variable (xbr:Got P w K mg base 4 "reach_of" ["spans","delay","first"] (Z4 K Dp.zcM))
include xde xaf xbr in
theorem zmC (F:ZV K "steps_of" "steps_of" ziI f fd):zQ P w K mg base ZR 10 f fd ["valley"] (Z4 K Dp.zdY):=ZG (N:=["valley","found","name","other"]) F Dp.zmy (term:=fun hnd _ _ _ _ _ _ hr=>(zj (zB hnd (zs6))
 (zj (YL (Zi (zE xaf hr (zc Z8 zm))) (zO hnd) (zp (YL (Zi (zE xaf hr (zc Z8 zm))) (zO hnd) (zp (zf9 hr Z8 (z9 (zc Z8 (zc Z8 zm))) (zE xbr hr (zc (zby xde zjb hr (zc Z8 (zc Z8 (zc Z8 zm)))) (zc (YH Z8 rfl) (zc (YH Z8 rfl) zm)))))))))
 (zp (zJ Z8)))))
variable (xev:Got P w K mg base 10 "steps_of" ["valley"] (Z4 K Dp.zdY))
include xbr in
theorem zon (F:ZV K "staying" "staying" zj8 f fd):zQ P w K mg base ZR 5 f fd ["first","last"] (Z4 K Dp.zc9):=ZG (N:=["first","last"]) F Dp.zn0 (term:=fun hnd _ _ _ _ _ _ hr=>(zj (zP (zK WM Z8 Z8) (zp (zJ (z9 zm))) zM)
 (zp (zJ (zE xbr hr (zc (z9 (zc (z9 (zc Z8 (zc Z8 zm))) zm)) (zc zq (zc Z8 zm))))))))
variable (xb5:Got P w K mg base 5 "staying" ["first","last"] (Z4 K Dp.zc9))
include xan xab xbn xah xq xak xg xbb xcj in
theorem zkN (F:ZV K "put_led_on" "put_led_on" zgF f fd):zQ P w K mg base ZR 4 f fd ["pieces","piece","following"] (Z4 K Dp.zcR):=ZG (N:=["pieces","piece","following","start","end","shift"]) F Dp.zkV (term:=fun hnd _ _ _ _ _ _ hr=>(zj (zB hnd (ZK zbH xab boot_max (zc (zy Z8 (zH rfl xbn)) (zc (zy Z8 (zH rfl xq)) zm))))
 (zj (zB hnd (ZK zc4 xan boot_min (zc (zE xbb hr (zc Z8 zm)) (zc (zy Z8 (zH rfl xg)) zm))))
 (zp (zP (Xn (zb1 (zK Wx Z8 Z8) (zch (zK (Xj hr) (zy Z8 (zH rfl xah)) zq)))) (zp (zY (zE xcj hr (zc Z8 (zc (zy Z8 (zH rfl xq)) (zc (zy Z8 (zH rfl xg)) (zc (zE xak hr (zc Z8 (zc Z8 zm))) (zc zq zm)))))))) (zp (zP (zK Wx Z8 Z8) (zj (zB hnd (zZ (zy Z8 (zH rfl xq)) (zy Z8 (zH rfl xbn))))
 (zp (zY (zE xcj hr (zc Z8 (zc (zV Z8 Z8) (zc (zV Z8 Z8) (zc (zE xak hr (zc Z8 (zc Z8 zm))) (zc (zy Z8 (zH rfl xah)) zm))))))))) zM)))))))
variable (xcu:Got P w K mg base 4 "put_led_on" ["pieces","piece","following"] (Z4 K Dp.zcR))
include xad xcu in
theorem zqv (F:ZV K "behind" "behind" zlN f fd):zQ P w K mg base ZR 5 f fd ["one","other"] (Z4 K Dp.zfn):=ZG (N:=["one","other","found","piece","following"]) F Dp.zqE (term:=fun hnd _ _ _ _ _ _ hr=>(zj (zB hnd (Xd zm))
 (zj (YL (Zi Z8) (zO hnd) (zp (YL (Zi Z8) (zO hnd) (zp (zY (zE xcu hr (zc Z8 (zc Z8 (zc Z8 zm)))))))))
 (zp (zJ (zf2 zge xad boot_tuple (zc Z8 zm)))))))
variable (xgc:Got P w K mg base 5 "behind" ["one","other"] (Z4 K Dp.zfn))
include xah xak xcj in
theorem zoj (F:ZV K "put_cut" "put_cut" zkd f fd):zQ P w K mg base ZR 4 f fd ["pieces","piece","low","high"] (Z4 K Dp.zbP):=ZG (N:=["pieces","piece","low","high"]) F Dp.zoc (term:=fun hnd _ _ _ _ _ _ hr=>(zp (zY (zE xcj hr (zc Z8 (zc Z8 (zc Z8 (zc (zE xak hr (zc Z8 (zc Z8 zm))) (zc (zy Z8 (zH rfl xah)) zm)))))))))
variable (xap:Got P w K mg base 4 "put_cut" ["pieces","piece","low","high"] (Z4 K Dp.zbP))
include xan xab xak xap in
theorem zjw (F:ZV K "put_crossing" "put_crossing" zfz f fd):zQ P w K mg base ZR 5 f fd ["pieces","climbing","flat","low","high"] (Z4 K Dp.zbN):=ZG (N:=["pieces","climbing","flat","low","high","lead","meeting"]) F Dp.zjn (term:=fun hnd _ _ _ _ _ _ hr=>(zj (zB hnd (zZ (zE xak hr (zc Z8 (zc Z8 zm))) (zE xak hr (zc Z8 (zc Z8 zm)))))
 (zj (zB hnd (ZK zc4 xan boot_min (zc Z8 (zc (zV Z8 (ZK zbH xab boot_max (zc Z8 (zc (Xy zq) zm)))) zm))))
 (zj (zY (zE xap hr (zc Z8 (zc Z8 (zc Z8 (zc Z8 zm))))))
 (zp (zY (zE xap hr (zc Z8 (zc Z8 (zc (zV Z8 zq) (zc Z8 zm)))))))))))
variable (xbm:Got P w K mg base 5 "put_crossing" ["pieces","climbing","flat","low","high"] (Z4 K Dp.zbN))
include xah xak xap xbm in
theorem zkS (F:ZV K "put_lesser" "put_lesser" zha f fd):zQ P w K mg base ZR 6 f fd ["pieces","piece","rival","low","high"] (Z4 K Dp.zcV):=ZG (N:=["pieces","piece","rival","low","high"]) F Dp.zkO (term:=fun hnd _ _ _ _ _ _ hr=>(zp (zP (zK WM (zy Z8 (zH rfl xah)) (zy Z8 (zH rfl xah))) (zp (zY (zE xbm hr (zc Z8 (zc Z8 (zc Z8 (zc Z8 (zc Z8 zm)))))))) (zp (zP (zK Yp (zy Z8 (zH rfl xah)) (zy Z8 (zH rfl xah))) (zp (zY (zE xbm hr (zc Z8 (zc Z8 (zc Z8 (zc Z8 (zc Z8 zm)))))))) (zp (zP (zK Yp (zE xak hr (zc Z8 (zc Z8 zm))) (zE xak hr (zc Z8 (zc Z8 zm)))) (zp (zY (zE xap hr (zc Z8 (zc Z8 (zc Z8 (zc Z8 zm))))))) (zp (zY (zE xap hr (zc Z8 (zc Z8 (zc Z8 (zc Z8 zm))))))))))))))
variable (xct:Got P w K mg base 6 "put_lesser" ["pieces","piece","rival","low","high"] (Z4 K Dp.zcV))
include xr xad xan xab xq xg xap xct in
theorem zoV (F:ZV K "earlier" "earlier" zkc f fd):zQ P w K mg base ZR 7 f fd ["one","other"] (Z4 K Dp.zey):=ZG (N:=["one","other","found","hour","i","j","high","piece"]) F Dp.zoM (term:=fun hnd _ _ _ _ _ _ hr=>(zj (zP (Xn (zcO (zK (Xj hr) (ZK Yr xr boot_len (zc Z8 zm)) zq) (zcm (zK (Xj hr) (ZK Yr xr boot_len (zc Z8 zm)) zq)))) (zp (zJ (zV Z8 Z8))) zM)
 (zj (zB hnd (Xd zm))
 (zj (zB hnd (zy (zy Z8 zq) (zH rfl xq)))
 (zj (zB hnd zq)
 (zj (zB hnd zq)
 (zj (zfh (Xn (zb1 (zK Yp Z8 (ZK Yr xr boot_len (zc Z8 zm))) (zch (zK Yp Z8 (ZK Yr xr boot_len (zc Z8 zm)))))) (zj (zB hnd (ZK zc4 xan boot_min (zc (zy (zy Z8 Z8) (zH rfl xg)) (zc (zy (zy Z8 Z8) (zH rfl xg)) zm))))
 (zj (zY (zE xct hr (zc Z8 (zc (zy Z8 Z8) (zc (zy Z8 Z8) (zc Z8 (zc Z8 zm)))))))
 (zj (zB hnd (zV Z8 zq))
 (zj (zhD (zB hnd (zjq (zK (Xj hr) (zy (zy Z8 Z8) (zH rfl xg)) Z8) (zV Z8 zq) Z8)))
 (zp (zB hnd (zjq (zK (Xj hr) (zy (zy Z8 Z8) (zH rfl xg)) Z8) (zV Z8 zq) Z8))))))))
 (zj (YL (Zi (zV (zkY Z8 (zhz Z8) zhn) (zkY Z8 (zhz Z8) zhn))) (zO hnd) (zp (zY (zE xap hr (zc Z8 (zc Z8 (zc (ZK zbH xab boot_max (zc Z8 (zc (zy Z8 (zH rfl xq)) zm))) (zc (zy Z8 (zH rfl xg)) zm))))))))
 (zp (zJ (zf2 zge xad boot_tuple (zc Z8 zm))))))))))))
variable (xe7:Got P w K mg base 7 "earlier" ["one","other"] (Z4 K Dp.zey))
include xr xaf xb5 xgc xe7 in
theorem zh7 (F:ZV K "hearings_from" "hearings_from" zff f fd):zQ P w K mg base ZR 8 f fd ["valley","steps","name"] (Z4 K Dp.zce):=ZG (N:=["valley","steps","name","names","found","each","changed","ahead","other","reach"]) F Dp.zih (term:=fun hnd _ _ _ _ _ _ hr=>(zj (zB hnd (zE xaf hr (zc Z8 zm)))
 (zj (zB hnd (zuh))
 (zj (YL (Zi Z8) (zO hnd) (zp (zf9 hr Z8 Z8 (z9 zm))))
 (zj (zf9 hr Z8 Z8 (zE xb5 hr (zc (YH Z8 rfl) (zc (YH Z8 rfl) zm))))
 (zj (zB hnd (Xd (zc Z8 zm)))
 (zj (zfh (zK WM (ZK Yr xr boot_len (zc Z8 zm)) zq) (zj (zB hnd (zfq PySem.F.slot_list_pop PySem.F.type_list_pop zue Z8 (zc zq zm)))
 (zp (YL (Zi Z8) (zO hnd) (zj (zB hnd (zE xe7 hr (zc (zgG hr Z8 Z8) (zc (zE xgc hr (zc (zgG hr Z8 Z8) (zc (zgG hr Z8 (z9 (zc Z8 (zc Z8 zm)))) zm))) zm))))
 (zp (zP (zK (zex hr) Z8 (zgG hr Z8 Z8)) (zj (zf9 hr Z8 Z8 Z8)
 (zp (zB hnd (zV (Xo (own:=["each"]) (free:=["other"]) ⟨rfl,True.intro⟩ ⟨rfl,rfl,rfl,True.intro⟩ (Zi Z8) Yb (fun _ _ _ _ _=>(zjJ (zK (zex hr) Z8 Z8))) (fun _ _ _ _ _=>Z8)) (Xd (zc Z8 zm)))))) zM)))))))
 (zp (zJ (Xo (own:=["each"]) (free:=["found"]) ⟨rfl,True.intro⟩ ⟨rfl,rfl,rfl,True.intro⟩ (Zi Z8) Yb (fun _ _ _ _ _=>Yn) (fun _ _ _ _ _=>(zgG hr Z8 Z8))))))))))))
variable (xb3:Got P w K mg base 8 "hearings_from" ["valley","steps","name"] (Z4 K Dp.zce))
include xaf xar xev xb3 in
theorem zoy (F:ZV K "hearing" "hearing" zki f fd):zQ P w K mg base (Xi P w) 11 f fd ["valley","name","other"] (Xl K Dp.zeq):=zio (N:=["valley","name","other"]) F Dp.zow (term:=fun hnd _ _ _ _ _ _ hr _ ex hX hM=>(zj (zY (zby xar hX hr (zc Z8 (zc Z8 zm))))
 (zj (zY (zby xar hX hr (zc Z8 (zc Z8 zm))))
 (zp (zJ (zy (zE xb3 hr (zc Z8 (zc (zE xev hr (zc Z8 zm)) (zc Z8 zm)))) (zfq PySem.F.slot_list_index PySem.F.type_list_index (zsf hr) (zE xaf hr (zc Z8 zm)) (zc Z8 zm))))))))
variable (xfh:zfW P w K mg base 11 "hearing" ["valley","name","other"] (Xl K Dp.zeq))
variable (xbk:∃ t,mg "NUMBERS_reaches"=some (.int 4 t))
include xr xai xu xbs xad xah xq xg xbk in
theorem zmF (F:ZV K "is_piece" "is_piece" ziT f fd):zQ P w K mg base ZR 2 f fd ["value"] (Z4 K Dp.zdX):=ZG (N:=["value"]) F Dp.zmJ (term:=fun hnd _ _ _ _ _ _ hr=>(zj (zP (Xn (zcO (Wq (W3 (ZK ze1 xu boot_isinstance (zc Z8 (zc (zgl rfl xad boot_tuple) zm))))) (zcm (zK (zex hr) (ZK Yr xr boot_len (zc Z8 zm)) (zH rfl xbk))))) (zp (zJ zdh)) zM)
 (zj (zP (Wq (W3 (ZK zdp xai boot_all (zc (Xo (own:=["number"]) (free:=[]) True.intro True.intro (Zi Z8) Yb (fun _ _ _ _ _=>Yn) (fun _ _ _ _ _=>(zE xbs hr (zc Z8 zm)))) zm)))) (zp (zJ zdh)) zM)
 (zj (zP (zK (Xj hr) (zy Z8 (zH rfl xq)) (zy Z8 (zH rfl xg))) (zp (zJ (Wf (Xj hr) (zy Z8 (zH rfl xah)) zq))) zM)
 (zp (zJ (zdF (Wf Yp (zy Z8 (zH rfl xq)) (zy Z8 (zH rfl xg))) (zeS (zo6 (Wf (Xj hr) (zy Z8 (zH rfl xah)) zq) (zeS (Wf (Xj hr) (zy Z8 (zH rfl xah)) zq)))))))))))
variable (xez:Got P w K mg base 2 "is_piece" ["value"] (Z4 K Dp.zdX))
include xbn xq xg xaq xbb in
theorem zkX (F:ZV K "may_follow" "may_follow" zgA f fd):zQ P w K mg base ZR 3 f fd ["piece","following"] (Z4 K Dp.zcQ):=ZG (N:=["piece","following"]) F Dp.zkW (term:=fun hnd _ _ _ _ _ _ hr=>(zj (zP (Xn (zcO (zK (zex hr) (zy Z8 (zH rfl xq)) (zV (zy Z8 (zH rfl xg)) zq)) (zcm (zK Yp (zy Z8 (zH rfl xbn)) (zE xbb hr (zc Z8 zm)))))) (zp (zJ zdh)) zM)
 (zp (zJ (zeI (zE xaq hr (zc Z8 (zc (zy Z8 (zH rfl xbn)) zm))))))))
variable (xcr:Got P w K mg base 3 "may_follow" ["piece","following"] (Z4 K Dp.zcQ))
include xr xao xai xu xad xez xcr in
theorem zmR (F:ZV K "is_reach" "is_reach" zjf f fd):zQ P w K mg base ZR 4 f fd ["value"] (Z4 K Dp.zd1):=ZG (N:=["value"]) F Dp.zmN (term:=fun hnd _ _ _ _ _ _ hr=>(zj (zP (Xn (zcO (Wq (W3 (ZK ze1 xu boot_isinstance (zc Z8 (zc (zgl rfl xad boot_tuple) zm))))) (zcm (Wq (W3 (ZK zdp xai boot_all (zc (Xo (own:=["piece"]) (free:=[]) True.intro True.intro (Zi Z8) Yb (fun _ _ _ _ _=>Yn) (fun _ _ _ _ _=>(zE xez hr (zc Z8 zm)))) zm))))))) (zp (zJ zdh)) zM)
 (zp (zJ (ZK zdp xai boot_all (zc (Xo (own:=["k"]) (free:=["value"]) ⟨rfl,True.intro⟩ ⟨rfl,rfl,rfl,True.intro⟩ (zjD xao (zc zq (zc (ZK Yr xr boot_len (zc Z8 zm)) zm))) Yb (fun _ _ _ _ _=>Yn) (fun _ _ _ _ _=>(zE xcr hr (zc (zy Z8 (zZ Z8 zq)) (zc (zy Z8 Z8) zm))))) zm))))))
variable (xex:Got P w K mg base 4 "is_reach" ["value"] (Z4 K Dp.zd1))
include xab in
theorem zlS (F:ZV K "_law_first" "_law_first" zhX f fd):zQ P w K mg base ZR 1 f fd ["spans","hour"] (Z4 K Dp.zde):=ZG (N:=["spans","hour","low","high"]) F Dp.zl0 (term:=fun hnd _ _ _ _ _ _ hr=>(zj (YL (Zi Z8) (zbJ rfl (Y4 (zO hnd) (Y4 (zO hnd) zbG))) (zp (zP (zK zxI Z8 Z8) (zp (zJ (ZK zbH xab boot_max (zc Z8 (zc Z8 zm))))) zM)))
 (zp (zJ WT))))
variable (xd8:Got P w K mg base 1 "_law_first" ["spans","hour"] (Z4 K Dp.zde))
include xr xao xac xd8 in
theorem zod (F:ZV K "_law_lit" "_law_lit" zkg f fd):zQ P w K mg base ZR 2 f fd ["views","start","hour","delay"] (Z4 K Dp.zeE):=ZG (N:=["views","start","hour","delay","lit","turn","k","row","j","spans","u"]) F Dp.zou (term:=fun hnd _ _ _ _ _ _ hr=>(zj (zdy hnd (own:=["row"]) (free:=[]) True.intro True.intro (Zi Z8) Yb (fun _ _ _ _ _=>Yn) (fun _ _ _ _ _=>WT))
 (zj (zeG Z8 (zfG Z8 Z8))
 (zj (YL (zns xao (zc (ZK Yr xr boot_len (zc Z8 zm)) zm)) (zO hnd) (zp (YL (zcv rfl xac (zc Z8 zm)) (zbJ rfl (Y4 (zO hnd) (Y4 (zO hnd) zbG))) (zp (YL (zcv rfl xac (zc Z8 zm)) (zbJ rfl (Y4 (zO hnd) (Y4 (zO hnd) zbG))) (zp (zP (Xn (zb1 (zK zfM (zy Z8 Z8) WT) (zch (zK (zex hr) Z8 Z8)))) (zj (zB hnd (zE xd8 hr (zc Z8 (zc (zy Z8 Z8) zm))))
 (zp (zP (Xn (zb1 (zK zfM Z8 WT) (zb1 (zK (zex hr) Z8 Z8) (zch (Xn (zcO (zK znQ (zy Z8 Z8) WT) (zcm (zK Yp (zV Z8 Z8) (zy Z8 Z8))))))))) (zp (zeG (zV Z8 Z8) (zfG Z8 Z8))) zM))) zM)))))))
 (zp (zJ Z8))))))
variable (xfl:Got P w K mg base 2 "_law_lit" ["views","start","hour","delay"] (Z4 K Dp.zeE))
include xq xak xg in
theorem zn4 (F:ZV K "hour_at" "hour_at" zkf f fd):zQ P w K mg base ZR 2 f fd ["reach","hour"] (Z4 K Dp.zez):=ZG (N:=["reach","hour","piece"]) F Dp.zn9 (term:=fun hnd _ _ _ _ _ _ hr=>(zj (YL (Zi Z8) (zO hnd) (zp (zP (zkw Wx Wx (zy Z8 (zH rfl xq)) Z8 (zy Z8 (zH rfl xg))) (zp (zJ (zE xak hr (zc Z8 (zc Z8 zm))))) zM)))
 (zp (zJ WT))))
variable (xe9:Got P w K mg base 2 "hour_at" ["reach","hour"] (Z4 K Dp.zez))
include xf3 xu xe5 in
theorem zmL (F:ZV K "_law_same" "_law_same" ziO f fd):zQ P w K mg base ZR 1 f fd ["found","due"] (Z4 K Dp.zdZ):=ZG (N:=["found","due"]) F Dp.zmQ (term:=fun hnd _ _ _ _ _ _ hr=>(zj (zP (zK znQ Z8 WT) (zp (zJ (Wf znQ Z8 WT))) zM)
 (zp (zJ (zdF (ZK ze1 xu boot_isinstance (zc Z8 (zc (zgl rfl xf3 boot_int) zm))) (zdF (zeI (ZK ze1 xu boot_isinstance (zc Z8 (zc (zgl rfl xe5 boot_bool) zm)))) (zeS (Wf (Xj hr) Z8 Z8))))))))
variable (xeq:Got P w K mg base 1 "_law_same" ["found","due"] (Z4 K Dp.zdZ))
include xr xat xao xec xai xcz xga xd9 xb5 xfh xex xfl xe9 xeq in
theorem zwg (F:ZV K "law" "law" zfo f fd):zQ P w K mg base ZR 12 f fd ["script"] (Z4 K Dp.zfJ):=ZG (N:=["script","parts","valley","views","names","start","told","hour","lit","reach","due"]) F Dp.zwK (term:=fun hnd _ _ _ _ _ _ hr=>(zj (zB hnd (zE xec hr (zc Z8 zm)))
 (zj (zB hnd (zE xcz hr (zc Z8 zm)))
 (zj (zB hnd (zE xd9 hr (zc Z8 zm)))
 (zj (zB hnd (Xo (own:=["beacon"]) (free:=[]) True.intro True.intro (Zi (zy Z8 zq)) Yb (fun _ _ _ _ _=>Yn) (fun _ _ _ _ _=>(zy Z8 zq))))
 (zj (zB hnd (YT (zE xat hr (zc Z8 (zc zq zm))) (ZK Yr xr boot_len (zc Z8 zm))))
 (zj (zdy hnd (own:=["other"]) (free:=["valley","names","start"]) ⟨rfl,rfl,rfl,True.intro⟩ ⟨rfl,rfl,rfl,rfl,rfl,rfl,rfl,rfl,rfl,True.intro⟩ (Zi Z8) Yb (fun _ _ _ _ _=>Yn) (fun _ _ _ _ _=>(zby xfh zjb hr (zc Z8 (zc (zy Z8 Z8) (zc Z8 zm))))))
 (zj (zP (Xn (zcO (Wq (W3 (ZK zdp xai boot_all (zc (Xo (own:=["reach"]) (free:=[]) True.intro True.intro (Zi Z8) Yb (fun _ _ _ _ _=>Yn) (fun _ _ _ _ _=>(zE xex hr (zc Z8 zm)))) zm)))) (zcm (zK (zex hr) (zy Z8 Z8) (zE xb5 hr (zc (YH Z8 rfl) (zc (YH Z8 rfl) zm))))))) (zp (zJ zdh)) zM)
 (zj (YL (zjD xao (zc (zZ (YH Z8 rfl) zq) (zc (zV (YH Z8 rfl) zq) zm))) (zO hnd) (zj (zdy hnd (own:=["name"]) (free:=[]) True.intro True.intro (Zi Z8) Yb (fun _ _ _ _ _=>Yn) (fun _ _ _ _ _=>WT))
 (zj (zhD (zP (Xn (zb1 (zK Wx (YH Z8 rfl) Z8) (zch (zK Wx Z8 (YH Z8 rfl))))) (zp (zB hnd (zE xfl hr (zc Z8 (zc Z8 (zc Z8 (zc (YH Z8 rfl) zm))))))) zM))
 (zp (YL (zpj rfl xga (zc Z8 (zc Z8 zm))) (zbJ rfl (Y4 (zO hnd) (Y4 (zO hnd) zbG))) (zp (zP (Wq (W3 (zE xeq hr (zc (zE xe9 hr (zc Z8 (zc Z8 zm))) (zc Z8 zm))))) (zp (zJ zdh)) zM)))))))
 (zp (zJ zdh)))))))))))
end
theorem all_mk {l:W.OpenLaw}{w:World}{K:W.Frag}{h:Heap}{mg:Str->Option Value}{fa:Addr}(X:K.In h)(G:h.Ns mainGlobals mg)(hfa:mg "law"=some (.ref fa))
  {xim xjd xje xin xkf xjo xgd xgb xko xgt xmf xlx xhc xke xjp xjb xlm xg5 xj1 xlr xg2 xgs xi1 xk8 xfw xg1 xkv xli xg9 xhk xl6 xks xmc xlv xjg xmg f_both xld xl4 xjf xj9 xgn xmn xij xlq xmk xka xj0 xkz xi9 xls xkp xhy xiz xkw xhs xkq xj5 xi0 xjr xjn xku xkx xkg:Addr}{xil xjq xji xio xjw xjk xge xf9 xk3 xgm xme xl3 xg7 xkk xjl xjm xln xg4 xjy xll xg3 xgp xix xkt xfy xg0 xlc xlp xha xhj xlw xk7 xl9 xl2 xjj xma xmd xk1 xl1 xja xkj xgq xmj xhv xlf xmh xkb xjv xla xi5 xlj xkr xh3 xi6 xk6 xhh xk9 xjt xi8 xju xjc xky xk5 xkl:FuncData}
  {xh2 xh7:Option Addr} {xh6:Array (Option Value)} {xif xie xh5 xh9 xfv xh1:Value} {xcn:Addr} {xaj:Addr}
  {xid xhw:Option Addr} {xig:Array (Option Value)} {xh0 xh4 xh8 xhx xfu xik:Value} {xcm:Addr} {xaa:Addr}
  {xl7 xlb:Option Addr} {xl8:Array (Option Value)} {xmb xk4 xkn xk0 xi4 xk2:Value} {xj8:Addr}
  {xg6:Addr}
  {xhf:Addr}
  {xg8:Tok} {xhr:Tok} {xhn:Tok} {xiu:Tok} {xho:Tok} {xj6:Tok} {xhl:Tok} {xl0:Tok} {xlk:Tok} {xjh:Tok} {xiy:Tok} {xlh:Tok} {xlz:Tok} {xlg:Tok} {xl5:Tok} {xmm:Tok} {xly:Tok} {xih:Tok} {xhu:Tok} {xgr:Tok}
  (xci:FH K "_law_cell_at" zgr xim xil)
  (xd0:FH K "_law_mixed" zh4 xjd xjq)
  (xdy:FH K "_law_seeds" zhP xje xji)
  (xck:FH K "_law_beacons" zgq xin xio)
  (xes:FH K "_law_fogs" zjo xkf xjw)
  (xd7:FH K "_law_parts" zhR xjo xjk)
  (xav:FH K "refuse_bad_corners" zdf xgd xge)
  (xbw:W.nsIn K mainGlobals "Ground"=some (some (.ref xaj))) (xek:K.lookup xcn=some ⟨xif,xh2,.func (W.fnOf "__init__" "Ground.__init__" (zbI zck) (Xc zck) (Za zck) .none xie xh5 xh9 xh7 xfv xh1),xh6⟩) (xei:W.codeIn K xfv "Ground.__init__"=true) (xej:W.keepIn K (.ref xcn)=true)
  (xdl:W.makesIn K xaj=true) (xc2:W.findIn K (.ref xaj) "__init__"=some (some (.ref xcn))) (xdk:W.isFn K (.ref xcn)=true) (xdd:W.keepIn K (.ref xaj)=true) (xc1:W.plainGet K xaj Str.empty=true) (xc8:W.hasDictIn K xaj=true) (xc4:W.plainOver K xaj=true) (xdh:W.findIn K (.ref xaj) "__setattr__"=some (some (.builtin "object.__setattr__"))) (xdr:W.findIn K (.ref xaj) "corners"=some none)
  (xax:FH K "refuse_bad_numbers" zc7 xgb xf9)
  (xfg:FH K "is_name" zkh xko xk3)
  (xa8:FH K "refuse_bad_names" zd5 xgt xgm)
  (xhe:FH K "less" zpI xmf xme)
  (xgv:FH K "is_on" znF xlx xl3)
  (xbq:FH K "common_divisor" zeO xhc xg7)
  (xep:FH K "fraction" ziY xke xkk)
  (xd3:FH K "height_on" zhU xjp xjl)
  (xd5:FH K "ground_at" zhQ xjb xjm)
  (xgj:FH K "stands" zlt xlm xln)
  (xbc:FH K "refuse_bad_tops" zek xg5 xg4)
  (xeo:FH K "is_whole" zjv xj1 xjy)
  (xfz:FH K "is_fog" zmh xlr xll)
  (xbf:FH K "refuse_bad_fogs" zel xg2 xg3)
  (xa5:FH K "refuse_bad_hours" zed xgs xgp)
  (xae:W.nsIn K mainGlobals "Valley"=some (some (.ref xaa))) (xem:K.lookup xcm=some ⟨xh0,xid,.func (W.fnOf "__init__" "Valley.__init__" (zbI zcj) (Xc zcj) (Za zcj) .none xh4 xh8 xhx xhw xfu xik),xig⟩) (xeg:W.codeIn K xfu "Valley.__init__"=true) (xeh:W.keepIn K (.ref xcm)=true)
  (xdn:W.makesIn K xaa=true) (xc5:W.findIn K (.ref xaa) "__init__"=some (some (.ref xcm))) (xdo:W.isFn K (.ref xcm)=true) (xdw:W.keepIn K (.ref xaa)=true) (xdt:W.plainGet K xaa Str.empty=true) (xdf:W.hasDictIn K xaa=true) (xdu:W.plainOver K xaa=true) (xdi:W.findIn K (.ref xaa) "__setattr__"=some (some (.builtin "object.__setattr__"))) (xdq:W.findIn K (.ref xaa) "ground"=some none) (xdp:W.findIn K (.ref xaa) "beacons"=some none) (xda:W.findIn K (.ref xaa) "fogs"=some none) (xdj:W.findIn K (.ref xaa) "haze"=some none) (xc7:W.findIn K (.ref xaa) "first"=some none) (xdc:W.findIn K (.ref xaa) "last"=some none) (xc3:W.findIn K (.ref xaa) "delay"=some none)
  (xcv:FH K "_law_valley" zhf xi1 xix)
  (xfp:FH K "spot_of" zkK xk8 xkt)
  (xas:FH K "refuse_not_standing" zc3 xfw xfy)
  (xbi:FH K "numbers_between" zen xg1 xg0)
  (xfc:FH K "side_of" zkp xkv xlc)
  (xgg:FH K "hinder" zld xli xlp)
  (xbt:FH K "square_between" ze4 xg9 xha)
  (xb0:FH K "hidden_always" zfb xhk xhj)
  (xgz:FH K "moved" znn xl6 xlw)
  (xfd:FH K "margins" zkb xks xk7)
  (xhg:FH K "tidy" zo8 xmc xl9)
  (xgu:FH K "foggy" znA xlv xl2)
  (xeb:FH K "foggy_all" zh2 xjg xjj)
  (xhd:FH K "gaps" zqy xmg xma)
  (xhq:FH K "both" zql f_both xmd)
  (xfm:FH K "without" zkm xld xk1)
  (xgy:FH K "sight" znz xl4 xl1)
  (xd1:FH K "_law_views" zhL xjf xja)
  (xen:FH K "names_of" ziJ xj9 xkj)
  (xa6:FH K "refuse_no_beacon" zeb xgn xgq)
  (xis:FH K "led" zsy xmn xmj)
  (xb7:FH K "can_be_drawn" zfN xij xhv)
  (xgf:FH K "end_of" zmi xlq xlf)
  (xip:FH K "put" zsm xmk xmh)
  (xeu:FH K "reach_of" zje xka xkb)
  (xew:FH K "steps_of" ziI xj0 xjv)
  (xfb:FH K "staying" zj8 xkz xla)
  (xcx:FH K "put_led_on" zgF xi9 xi5)
  (xgi:FH K "behind" zlN xls xlj)
  (xe6:FH K "put_cut" zkd xkp xkr)
  (xb8:FH K "put_crossing" zfz xhy xh3)
  (xcw:FH K "put_lesser" zha xiz xi6)
  (xfj:FH K "earlier" zkc xkw xk6)
  (xbx:FH K "hearings_from" zff xhs xhh)
  (xfe:FH K "hearing" zki xkq xk9)
  (xet:FH K "is_piece" ziT xj5 xjt)
  (xcs:FH K "may_follow" zgA xi0 xi8)
  (xer:FH K "is_reach" zjf xjr xju)
  (xdz:FH K "_law_first" zhX xjn xjc)
  (xfk:FH K "_law_lit" zkg xku xky)
  (xe8:FH K "hour_at" zkf xkx xk5)
  (xey:FH K "_law_same" ziO xkg xkl)
  (xj7:W.nsIn K mainGlobals "law"=some (some (.ref xj8))) (xj3:K.lookup xj8=some ⟨xmb,xl7,.func (W.fnOf "law" "law" (zbI zfo) (Xc zfo) (Za zfo) .none xk4 xkn xk0 xlb xi4 xk2),xl8⟩) (xj4:W.codeIn K xi4 "law"=true) (xj2:W.keepIn K (.ref xj8)=true)
  (xch:W.nsIn K mainGlobals "OffGround"=some (some (.ref xg6))) (xfs:zox K xg6=true) (xcq:W.nsIn K mainGlobals "NoBeacon"=some (some (.ref xhf))) (xf7:zox K xhf=true)
  (xjs:W.nsIn K mainGlobals "len"=some none) (xia:W.nsIn K mainGlobals "range"=some none) (xft:W.nsIn K mainGlobals "enumerate"=some none) (xi2:W.nsIn K mainGlobals "list"=some none) (xkd:W.nsIn K mainGlobals "all"=some none) (xki:W.nsIn K mainGlobals "set"=some none) (xjx:W.nsIn K mainGlobals "abs"=some none) (xkh:W.nsIn K mainGlobals "int"=some none) (xe4:W.nsIn K mainGlobals "isinstance"=some none) (xit:W.nsIn K mainGlobals "bool"=some none) (xic:W.nsIn K mainGlobals "tuple"=some none) (xkc:W.nsIn K mainGlobals "min"=some none) (xkm:W.nsIn K mainGlobals "max"=some none) (xhb:W.nsIn K mainGlobals "sorted"=some none) (xjz:W.nsIn K mainGlobals "zip"=some none)
  (xcy:W.nsIn K mainGlobals "LEAST_CORNERS"=some (some (.int 2 xg8))) (xdv:W.nsIn K mainGlobals "MOST_CORNERS"=some (some (.int 40 xhr))) (xc9:W.nsIn K mainGlobals "MOST_BEACONS"=some (some (.int 12 xhn))) (xfq:W.nsIn K mainGlobals "MOST_FOGS"=some (some (.int 12 xiu))) (xds:W.nsIn K mainGlobals "MOST_LETTERS"=some (some (.int 8 xho))) (xgo:W.nsIn K mainGlobals "LETTERS"=some (some (.str "abcdefghijklmnopqrstuvwxyz" xj6))) (xdb:W.nsIn K mainGlobals "NUMBERS_fogs"=some (some (.int 8 xhl))) (xiw:W.nsIn K mainGlobals "LEFT"=some (some (.int 0 xl0))) (xhz:W.nsIn K mainGlobals "RIGHT"=some (some (.int 1 xlk))) (xf5:W.nsIn K mainGlobals "LOW_fogs"=some (some (.int 2 xjh))) (xfr:W.nsIn K mainGlobals "HIGH_fogs"=some (some (.int 3 xiy))) (xii:W.nsIn K mainGlobals "FIRST"=some (some (.int 4 xlh))) (xi7:W.nsIn K mainGlobals "LAST"=some (some (.int 5 xlz))) (xib:W.nsIn K mainGlobals "DRIFT"=some (some (.int 6 xlg))) (xiv:W.nsIn K mainGlobals "RISE"=some (some (.int 7 xl5))) (xlu:W.nsIn K mainGlobals "TO"=some (some (.int 2 xmm))) (xi3:W.nsIn K mainGlobals "STEP"=some (some (.int 3 xly))) (xel:W.nsIn K mainGlobals "LOW_reaches"=some (some (.int 0 xih))) (xdm:W.nsIn K mainGlobals "HIGH_reaches"=some (some (.int 1 xhu))) (xcg:W.nsIn K mainGlobals "NUMBERS_reaches"=some (some (.int 4 xgr))) :
  ∃ fd:FuncData,(∀ (s:Shared) (v:Value),BindsTo s fd ⟨[v],[]⟩ [("script",v)])/\∀ base:Heap,K.In base->base.Ns mainGlobals mg->zQ l.prog w K mg base ZR 12 fa fd ["script"] (Z4 K Dp.zfJ):=by
 have e:=hfa.symm.trans (W.mg_of X G xj7)
 cases e
 have xbj:∀ C,W.nsIn K mainGlobals "Ground"=some (some (.ref C))->YG K C "corners":=fun C hC=>by
  rw [xbw] at hC;cases hC;exact xdr
 have xgk:=zjx (st:=zck) xek xei xej
 have zcT:=xgk.binds (ps:=["self","corners"]) fun _ _ _ _ _ _ us hl=>by obtain⟨_,_,rfl⟩:=znZ hl;rfl
 have xbu:∀ C,W.nsIn K mainGlobals "Valley"=some (some (.ref C))->YG K C "ground":=fun C hC=>by
  rw [xae] at hC;cases hC;exact xdq
 have xbg:∀ C,W.nsIn K mainGlobals "Valley"=some (some (.ref C))->YG K C "beacons":=fun C hC=>by
  rw [xae] at hC;cases hC;exact xdp
 have xcd:∀ C,W.nsIn K mainGlobals "Valley"=some (some (.ref C))->YG K C "fogs":=fun C hC=>by
  rw [xae] at hC;cases hC;exact xda
 have xcf:∀ C,W.nsIn K mainGlobals "Valley"=some (some (.ref C))->YG K C "haze":=fun C hC=>by
  rw [xae] at hC;cases hC;exact xdj
 have xby:∀ C,W.nsIn K mainGlobals "Valley"=some (some (.ref C))->YG K C "first":=fun C hC=>by
  rw [xae] at hC;cases hC;exact xc7
 have xce:∀ C,W.nsIn K mainGlobals "Valley"=some (some (.ref C))->YG K C "last":=fun C hC=>by
  rw [xae] at hC;cases hC;exact xdc
 have xb1:∀ C,W.nsIn K mainGlobals "Valley"=some (some (.ref C))->YG K C "delay":=fun C hC=>by
  rw [xae] at hC;cases hC;exact xc3
 have xgl:=zjx (st:=zcj) xem xeg xeh
 have zcU:=xgl.binds (ps:=["self","ground","beacons","fogs","haze","first","last","delay"]) fun _ _ _ _ _ _ us hl=>by obtain⟨_,_,_,_,_,_,_,_,rfl⟩:=zxV hl;rfl
 have xmi:=zjx (st:=zfo) xj3 xj4 xj2
 have xaz:∀ C,W.nsIn K mainGlobals "OffGround"=some (some (.ref C))->ExC K C:=fun C h=>by
  rw [xch] at h;cases h;exact ExC.of xfs
 have xa0:∃ C,W.nsIn K mainGlobals "OffGround"=some (some (.ref C))/\mg "OffGround"=some (.ref C):=⟨_,xch,W.mg_of X G xch⟩
 have xa9:∀ C,W.nsIn K mainGlobals "NoBeacon"=some (some (.ref C))->ExC K C:=fun C h=>by
  rw [xcq] at h;cases h;exact ExC.of xf7
 have xba:∃ C,W.nsIn K mainGlobals "NoBeacon"=some (some (.ref C))/\mg "NoBeacon"=some (.ref C):=⟨_,xcq,W.mg_of X G xcq⟩
 have xr:=W.mg_none_of X G xjs
 have xao:=W.mg_none_of X G xia
 have xac:=W.mg_none_of X G xft
 have xed:=W.mg_none_of X G xi2
 have xai:=W.mg_none_of X G xkd
 have xiq:=W.mg_none_of X G xki
 have xir:=W.mg_none_of X G xjx
 have xf3:=W.mg_none_of X G xkh
 have xu:=W.mg_none_of X G xe4
 have xe5:=W.mg_none_of X G xit
 have xad:=W.mg_none_of X G xic
 have xan:=W.mg_none_of X G xkc
 have xab:=W.mg_none_of X G xkm
 have xf6:=W.mg_none_of X G xhb
 have xga:=W.mg_none_of X G xjz
 have xb2:∃ t,mg "LEAST_CORNERS"=some (.int 2 t):=⟨_,W.mg_of X G xcy⟩
 have xb9:∃ t,mg "MOST_CORNERS"=some (.int 40 t):=⟨_,W.mg_of X G xdv⟩
 have xcb:∃ t,mg "MOST_BEACONS"=some (.int 12 t):=⟨_,W.mg_of X G xc9⟩
 have xd4:∃ t,mg "MOST_FOGS"=some (.int 12 t):=⟨_,W.mg_of X G xfq⟩
 have xcc:∃ t,mg "MOST_LETTERS"=some (.int 8 t):=⟨_,W.mg_of X G xds⟩
 have xfi:∃ t,mg "LETTERS"=some (.str "abcdefghijklmnopqrstuvwxyz" t):=⟨_,W.mg_of X G xgo⟩
 have xca:∃ t,mg "NUMBERS_fogs"=some (.int 8 t):=⟨_,W.mg_of X G xdb⟩
 have xbv:∃ t,mg "LEFT"=some (.int 0 t):=⟨_,W.mg_of X G xiw⟩
 have xa3:∃ t,mg "RIGHT"=some (.int 1 t):=⟨_,W.mg_of X G xhz⟩
 have xal:∃ t,mg "LOW_fogs"=some (.int 2 t):=⟨_,W.mg_of X G xf5⟩
 have xag:∃ t,mg "HIGH_fogs"=some (.int 3 t):=⟨_,W.mg_of X G xfr⟩
 have xb6:∃ t,mg "FIRST"=some (.int 4 t):=⟨_,W.mg_of X G xii⟩
 have xe3:∃ t,mg "LAST"=some (.int 5 t):=⟨_,W.mg_of X G xi7⟩
 have xgw:∃ t,mg "DRIFT"=some (.int 6 t):=⟨_,W.mg_of X G xib⟩
 have xhm:∃ t,mg "RISE"=some (.int 7 t):=⟨_,W.mg_of X G xiv⟩
 have xbn:∃ t,mg "TO"=some (.int 2 t):=⟨_,W.mg_of X G xlu⟩
 have xah:∃ t,mg "STEP"=some (.int 3 t):=⟨_,W.mg_of X G xi3⟩
 have xq:∃ t,mg "LOW_reaches"=some (.int 0 t):=⟨_,W.mg_of X G xel⟩
 have xg:∃ t,mg "HIGH_reaches"=some (.int 1 t):=⟨_,W.mg_of X G xdm⟩
 have xbk:∃ t,mg "NUMBERS_reaches"=some (.int 4 t):=⟨_,W.mg_of X G xcg⟩
 refine⟨W.fnOf "law" "law" (zbI zfo) (Xc zfo) (Za zfo) .none xk4 xkn xk0 xlb xi4 xk2,fun s v=>.of_eq rfl,fun base _ _=>?_⟩
 have xat:=zR l.prog w base X G xci (zjU xr xci.F)
 have xay:=zR l.prog w base X G xd0 (zml xd0.F)
 have xd6:=zR l.prog w base X G xdy (zlm xay xao xac xdy.F)
 have xcl:=zR l.prog w base X G xck (zjH xac xck.F)
 have xe2:=zR l.prog w base X G xes (zmO xay xes.F)
 have xec:=zR l.prog w base X G xd7 (zl2 xat xd6 xcl xe2 xd7.F)
 have xau:=zR l.prog w base X G xav (zfA xr xao xb2 xb9 xav.F)
 have xco:zjT l.prog w K mg base 2 "Ground" (Z4 K Dp.zfk):=⟨⟨_,_,_,_,_,⟨xdl,xc2,xdk,xdd⟩,zjW xau xbj xed xgk,zcT,W.mg_of X G xbw,zm7 ⟨xc1,xc8,xc4,xdh⟩ xbw⟩⟩
 have xaw:=zR l.prog w base X G xax (zfy xr xcb xd4 xax.F)
 have xfo:=zR l.prog w base X G xfg (zoa xr xcc xfi xai xfg.F)
 have xa7:=zR l.prog w base X G xa8 (zgz xr xai xfo xiq xa8.F)
 have xb4:=zR l.prog w base X G xhe (ztw xhe.F)
 have xc6:=zR l.prog w base X G xgv (zrC xb4 xgv.F)
 have xbo:=zR l.prog w base X G xbq (zhH xir xbq.F)
 have xe1:=zR l.prog w base X G xep (zmT xbo xep.F)
 have xea:=zR l.prog w base X G xd3 (zl9 xe1 xd3.F)
 have xd2:=zdL l.prog w base X G xd5 (zli xb4 xc6 xea xaz xa0 xd5.F)
 have xcp:=zR l.prog w base X G xgj (zoY xb4 xc6 xd2 xgj.F)
 have xbh:=zR l.prog w base X G xbc (zgH xai xcp xbc.F)
 have xbs:=zR l.prog w base X G xeo (zmD xf3 xu xe5 xeo.F)
 have xf2:=zR l.prog w base X G xfz (zp0 xr xai xu xbs xca xbv xa3 xal xag xb6 xe3 xad xfz.F)
 have xbd:=zR l.prog w base X G xbf (zgW xai xf2 xbf.F)
 have xa4:=zR l.prog w base X G xa5 (zgv xa5.F)
 have xf4:zjT l.prog w K mg base 7 "Valley" (Z4 K Dp.zgV):=⟨⟨_,_,_,_,_,⟨xdn,xc5,xdo,xdw⟩,zjS xed xco xaw xa7 xbh xbd xa4 xbu xbg xcd xcf xby xce xb1 xgl,zcU,W.mg_of X G xae,zm7 ⟨xdt,xdf,xdu,xdi⟩ xae⟩⟩
 have xcz:=zR l.prog w base X G xcv (zkQ xco xf4 xcv.F)
 have xee:=zdL l.prog w base X G xfp (zoN xa9 xba xfp.F)
 have xam:=zdL l.prog w base X G xas (zfs xaz xa0 xcp xas.F)
 have xbe:=zR l.prog w base X G xbi (zgP xac xan xab xbi.F)
 have xfn:=zR l.prog w base X G xfc (znT xfc.F)
 have xgh:=zdL l.prog w base X G xgg (zpk xam xbe xfn xgg.F)
 have xbp:=zR l.prog w base X G xbt (zhF xbt.F)
 have xbz:=zR l.prog w base X G xb0 (zic xgh xbp xb0.F)
 have xfx:=zR l.prog w base X G xgz (zqU xbv xa3 xal xag xgw xhm xgz.F)
 have xef:=zR l.prog w base X G xfd (zol xbv xa3 xal xag xan xab xfd.F)
 have xbl:=zR l.prog w base X G xhg (ztG xr xad xab xf6 xhg.F)
 have xgx:=zR l.prog w base X G xgu (zrG xb6 xe3 xan xab xfx xef xbl xga xgu.F)
 have xdx:=zR l.prog w base X G xeb (zlI xbl xgx xeb.F)
 have xht:=zR l.prog w base X G xhd (zt2 xbl xhd.F)
 have xhp:=zR l.prog w base X G xhq (zs4 xan xab xbl xhq.F)
 have xfa:=zR l.prog w base X G xfm (zn2 xr xht xhp xfm.F)
 have xde:=zdL l.prog w base X G xgy (zrh xee xbz xdx xfa xgy.F)
 have xd9:=zR l.prog w base X G xd1 (zlx xde xd1.F)
 have xaf:=zR l.prog w base X G xen (zmH xen.F)
 have xar:=zdL l.prog w base X G xa6 (zgx xa9 xba xaf xa6.F)
 have xak:=zR l.prog w base X G xis (zvF xbn xah xq xis.F)
 have xaq:=zR l.prog w base X G xb7 (zjl xbn xq xak xg xb7.F)
 have xbb:=zR l.prog w base X G xgf (zpd xak xg xgf.F)
 have xcj:=zR l.prog w base X G xip (zvq xr xbn xq xaq xbb xip.F)
 have xbr:=zR l.prog w base X G xeu (zmX xad xab xcj xeu.F)
 have xev:=zR l.prog w base X G xew (zmC xde xaf xbr xew.F)
 have xb5:=zR l.prog w base X G xfb (zon xbr xfb.F)
 have xcu:=zR l.prog w base X G xcx (zkN xan xab xbn xah xq xak xg xbb xcj xcx.F)
 have xgc:=zR l.prog w base X G xgi (zqv xad xcu xgi.F)
 have xap:=zR l.prog w base X G xe6 (zoj xah xak xcj xe6.F)
 have xbm:=zR l.prog w base X G xb8 (zjw xan xab xak xap xb8.F)
 have xct:=zR l.prog w base X G xcw (zkS xah xak xap xbm xcw.F)
 have xe7:=zR l.prog w base X G xfj (zoV xr xad xan xab xq xg xap xct xfj.F)
 have xb3:=zR l.prog w base X G xbx (zh7 xr xaf xb5 xgc xe7 xbx.F)
 have xfh:=zdL l.prog w base X G xfe (zoy xaf xar xev xb3 xfe.F)
 have xez:=zR l.prog w base X G xet (zmF xr xai xu xbs xad xah xq xg xbk xet.F)
 have xcr:=zR l.prog w base X G xcs (zkX xbn xq xg xaq xbb xcs.F)
 have xex:=zR l.prog w base X G xer (zmR xr xao xai xu xad xez xcr xer.F)
 have xd8:=zR l.prog w base X G xdz (zlS xab xdz.F)
 have xfl:=zR l.prog w base X G xfk (zod xr xao xac xd8 xfk.F)
 have xe9:=zR l.prog w base X G xe8 (zn4 xq xak xg xe8.F)
 have xeq:=zR l.prog w base X G xey (zmL xf3 xu xe5 xey.F)
 exact zwg xr xat xao xec xai xcz xga xd9 xb5 xfh xex xfl xe9 xeq xmi
theorem walk {l:W.OpenLaw}{q:Program}{loose:List Str}{XP:(Str->Option Value)->Heap->Prop}{YP:World->Heap->Prop}{d:DefRec}{K:Params->W.Frag}(hn:l.most=some 63)(hdf:d.params.defaults=[])
  (hY:∀ (w:World) (h:Heap),YP w h->(K w.params).In h)
  (F:∀ (w:World) (mg:Str->Option Value) (fa:Addr) (h:Heap),(K w.params).In h->h.Ns mainGlobals mg->mg d.name=some (.ref fa) ->
   ∃ fd:FuncData,(∀ (s:Shared) (u:Value),BindsTo s fd ⟨[u],[]⟩ [("script",u)])/\∀ base:Heap,(K w.params).In base->base.Ns mainGlobals mg->zQ l.prog w (K w.params) mg base ZR 12 fa fd ["script"] (Z4 (K w.params) Dp.zfJ)) :
  W.WalkO q loose XP YP l.row.toRowW d [] (fun f vs=>PySem.call f vs) :=
 Dp.zqP (n:=63) (k:=12) (x:="script") (sp:=fun w=>Z4 (K w.params) Dp.zfJ) hn (by decide) hdf ⟨rfl,by decide,by decide⟩ hY F fun _ _ _ _ hl hg hO hS=>zu2 hl hg hO hS
end Law
local macro_rules | `(tactic| walk_at "fh")=>`(tactic| (refine' Dp.zxm ?fa ?fl ?fc ?fk;(case fa=>k_is);(case fl=>k_is);(case fc=>k_is);(case fk=>k_is)))
open PySem PySem.W PyProof.Rows
namespace PySem.W.Fast
def tw16717153978050274968:=Prop
def tw12132708953311151391:=Prop
def tw14575484097376724239:=Prop
def tw3940192077266306382:=Prop
def tw18253876605279385914:=Prop
def tw3845917052048839243:=Prop
def tw13184300545689980283:=Prop
def tw12843518763503138201:=Prop
def tw10425312632104283941:=Prop
def tw15076910881502536178:=Prop
def tw10667066769457238214:=Prop
def tw648136735510638555:=Prop
def tw9441033058910057122:=Prop
def tw4109244041973403780:=Prop
def tw3241980262692255756:=Prop
def tw4150838719491276044:=Prop
def tw2935468360420258254:=Prop
def tw11039828743017507974:=Prop
def tw6675965419277747750:=Prop
def tw7971255520807363871:=Prop
def tw12119809813323572063:=Prop
def tw14401119762473521618:=Prop
def tw5033162510572460789:=Prop
def tw15742339686808244029:=Prop
def tw17131473424207760697:=Prop
def tw5330202987135572702:=Prop
def tw16135567399877500205:=Prop
def tw13950998536746010719:=Prop
def tw13944357324160716633:=Prop
def tw3969304274118296330:=Prop
def tw8686759445916597809:=Prop
def tw9936290173178768240:=Prop
def tw7652987358795283312:=Prop
def tw18388499513777183562:=Prop
def tw3294409203885352622:=Prop
def tw4733143392108937807:=Prop
def tw3543882846092033679:=Prop
def tw14760127698890787980:=Prop
def tw2324087144998412271:=Prop
def tw438659146779199307:=Prop
def tw4553757731812945073:=Prop
def tw7303157294066591819:=Prop
def tw3252404977686275657:=Prop
def tw15170810042242622757:=Prop
def tw4547303313262318975:=Prop
def tw180149897986752642:=Prop
def tw605644273060439777:=Prop
def tw8590576948654994270:=Prop
def tw5734178556929264888:=Prop
def tw11418349400753878898:=Prop
def tw3875425656362896161:=Prop
def tw15805349439573632617:=Prop
def tw15940141888731700186:=Prop
def tw14011370715777162554:=Prop
def tw8347927630767456812:=Prop
def tw6286199521359782559:=Prop
def tw16130131472334305860:=Prop
def tw10778942733506294596:=Prop
def tw14886713764318214489:=Prop
def tw6812454340019838211:=Prop
def tw8653019189617501827:=Prop
def tw17124137384124267259:=Prop
def tw6749115216716916391:=Prop
def tw17720904785274481587:=Prop
def tw7162099336884225662:=Prop
def tw3263793580314120729:=Prop
def tw4476418155472505667:=Prop
def tw17400388551900769839:=Prop
def tw15083225537004495074:=Prop
def tw15816594066312399417:=Prop
def tw17488524718054481393:=Prop
def tw479358691704577016:=Prop
def tw12328504581883555222:=Prop
def tw8902014502807126823:=Prop
def tw3573982214603595597:=Prop
def tw7944118162593796:=Prop
def tw12190383580456984703:=Prop
def tw2579892298038176451:=Prop
def tw13165149129965341770:=Prop
def tw13000841475275302232:=Prop
def tw393405820117128312:=Prop
def tw17695794151334052243:=Prop
def tw1534507987191064253:=Prop
def tw2289165711900631529:=Prop
def tw2018720631225341078:=Prop
def tw8339355902286035531:=Prop
def tw6782854423896053822:=Prop
def tw10469215496582623557:=Prop
def tw1273230873048348149:=Prop
def tw14499110784778974809:=Prop
def tw17654225809876338143:=Prop
def tw10811039869197723401:=Prop
def tw14844242452972493366:=Prop
def tw15300473928780118041:=Prop
def tw9238792305436961582:=Prop
def tw2815318733584363302:=Prop
def tw3564251762471534021:=Prop
def tw17078581427054202703:=Prop
def tw640106986477028330:=Prop
def tw15195577938848672321:=Prop
def tw8196135666458706310:=Prop
def tw9016502860165090454:=Prop
def tw14809697662199977044:=Prop
def tw10642054291329253615:=Prop
def tw2041674325093471236:=Prop
def tw12812831940210532766:=Prop
def tw13925126685029290213:=Prop
def tw15269139197268539189:=Prop
def tw14873423232450361135:=Prop
def tw17802723189700277258:=Prop
def tw6091637571169415763:=Prop
def tw13995743396682251534:=Prop
def tw12398140187229155610:=Prop
def tw15847815860509160640:=Prop
def tw6963035327915177166:=Prop
def tw8815544299471177969:=Prop
def tw6829544804821948770:=Prop
def tw1075081331471437723:=Prop
def tw7903368086728022127:=Prop
def tw12702496510705462731:=Prop
def tw13014722987426249463:=Prop
def tw13156515481325083355:=Prop
def tw16765910928908924254:=Prop
def tw15681560790718629994:=Prop
def tw3028492538680008863:=Prop
def tw1858269952808882552:=Prop
def tw12758361536951562570:=Prop
def tw3438363331682571679:=Prop
def tw3871020119898900279:=Prop
def tw13121326549912365667:=Prop
def tw11885552273918734881:=Prop
def tw13481340828177695004:=Prop
def tw3100034737602786976:=Prop
def tw14822422477226226031:=Prop
def tw12157124350859469358:=Prop
def tw5326049360463211322:=Prop
def tw16824670752166484694:=Prop
def tw3722406182915216852:=Prop
def tw18277163433264734856:=Prop
def tw12790796933563923364:=Prop
def tw16824472641362568103:=Prop
def tw1123373067218090012:=Prop
def tw6591098543592053183:=Prop
def tw13759586399047287461:=Prop
def tw4456749217965077930:=Prop
def tw10252841832761433386:=Prop
def tw2123773869278925643:=Prop
def tw10001566343574060778:=Prop
def tw2172246513724575028:=Prop
def tw7909963891247135637:=Prop
def tw9167505137748392637:=Prop
def tw14987138697995488312:=Prop
def tw5376273909875876436:=Prop
def tw11969847606389250908:=Prop
def tw12516858537927791940:=Prop
def tw12234004035948592137:=Prop
def tw15396915782427865825:=Prop
def tw5382467692670701770:=Prop
def tw10136462045036938124:=Prop
def tw15569060331787175966:=Prop
def tw6198726704514316738:=Prop
def tw15179802104643672824:=Prop
def tw7304072728302318851:=Prop
def tw12290142689074661620:=Prop
def tw3543107821415643288:=Prop
def tw14061162309501976152:=Prop
def tw4141791496346543805:=Prop
def tw8751615899623422465:=Prop
def tw14341601136834648848:=Prop
def tw4104929039293275667:=Prop
def tw9270453030986549381:=Prop
def tw18194537127519990413:=Prop
def tw14997570767823210626:=Prop
def tw9139388856561452351:=Prop
def tw8184128387883371548:=Prop
def tw4529909692075342883:=Prop
def tw2683931075513944299:=Prop
def tw14420498069779806599:=Prop
def tw16774106148431142026:=Prop
def tw2207569382970338590:=Prop
end PySem.W.Fast
set_option maxRecDepth 100000 in
set_option maxHeartbeats 0 in
theorem PySem.Challenge.cw_beaconvale_k70_hearing_hour_by_hour_holds : PySem.Challenge.rw_beaconvale_k70_hearing_hour_by_hour.Holds := by
 w_on; o_law; k_head; (case hw => w_witness2)
 k_fill
 refine Law.walk (l := PySem.Challenge.rw_beaconvale_k70_hearing_hour_by_hour) rfl rfl (fun w h Y => PySem.W.kIn_of Y) ?F
 case F =>
  intro w mg fa h KX G hmg
  refine' Law.all_mk KX G hmg ?ae ?af ?ah ?ai ?ao ?aq ?aw ?ax ?ay ?aA ?aB ?aC ?aD ?aE ?aF ?aG ?aH ?aI ?aJ ?aK ?aL ?aM ?aN ?aO ?aP ?aQ ?aR ?aS ?aT ?aU ?aV ?aW ?aX ?aY ?aZ ?a8 ?a9 ?be ?bf ?bh ?bi ?bp ?bq ?br ?bu ?bv ?bw ?bx ?bA ?bC ?bD ?bE ?bF ?bG ?bH ?bI ?bJ ?bK ?bM ?bN ?bO ?bP ?bQ ?bS ?bU ?bV ?bW ?bX ?bY ?bZ ?b7 ?b8 ?b9 ?cc ?ce ?cf ?cg ?cj ?ck ?cm ?cq ?cr ?cu ?cv ?cx ?cy ?cz ?cA ?cB ?cC ?cD ?cE ?cF ?cG ?cH ?cI ?cJ ?cK ?cL ?cM ?cN ?cO ?cP ?cQ ?cR ?cS ?cT ?cU ?cV ?cW ?cX ?cY ?cZ ?c6 ?c7 ?c8 ?c9 ?dc ?de ?df ?dg ?dh ?di ?dj ?dm ?dn ?dq ?dr ?du ?dv ?dw ?dz ?dA ?dD ?dE ?dF ?dG ?dH ?dI
  case cN|cP|ax|a8|aD|bi=>k_is
  case ae|af|ah|ai|ao|aq|aw=>walk_at "fh"
  case ay|aA|aB|aC|aE|aF|aG|aH|aI|aJ|aK=>k_is
  case aL|aM|aN|aO|aP|aQ|aR|aS|aT|aU|aV|aW|aX|aY|aZ=>walk_at "fh"
  case a9|be|bf|bh|bp|bq|br|bu|bv|bw|bx|bA|bC|bD|bE|bF|bG=>k_is
  case bH|bI|bJ|bK|bM|bN|bO|bP|bQ|bS|bU|bV|bW|bX|bY|bZ|b7|b8|b9|cc|ce|cf|cg|cj|ck|cm|cq|cr|cu|cv|cx|cy|cz|cA|cB|cC|cD|cE|cF|cG|cH|cI=>walk_at "fh"
  case cJ|cK|cL|cM=>k_is
  case cO|cQ=>kernel_rfl
  case cR|cS|cT|cU|cV|cW|cX|cY|cZ|c6|c7|c8|c9|dc|de|df|dg|dh|di|dj|dm|dn|dq|dr|du|dv|dw|dz|dA|dD|dE|dF|dG|dH|dI=>k_is
#print axioms PySem.Challenge.cw_beaconvale_k70_hearing_hour_by_hour_holds
