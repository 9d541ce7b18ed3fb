import PyProof.Rows.All
import Wide.All
import OpenK.AllK
import Wide.FinOn
import Lean
import PyProof.EqAt
import PyProof.EqKinds
import PyProof.TupleCall
import PyProof.NeData
import PyProof.P3Eq
import PyProof.StrLawsIn
import PyProof.StrLawsJoin
import PyProof.StrBlockL
import PyProof.Rows.StrSplitCount
import KE.KMinKey
import KE.KLam
import KE.KDictList
import PyProof.DictItems
import PyProof.FactsAll.dict_items
import PyProof.FactsAll.dict_itemiterator
import KE.KPairComp
import PySem.Challenge.RW_beaconvale_k82_beside_and_none
set_option Elab.async false
set_option linter.all false
set_option maxRecDepth 100000
set_option maxHeartbeats 4000000
set_option Elab.async false
set_option linter.all false
set_option maxRecDepth 100000
def Á (h:True:=by rfl):True:=h
def zy:Lean.Syntax:=Á._auto_1
def Ò (h:True:=by decide):True:=h
def zO:Lean.Syntax:=Ò._auto_1
def ģ (h:True:=by with_unfolding_all rfl):True:=h
def Vo:Lean.Syntax:=ģ._auto_1
def Β (h:True:=by first|exact .inl rfl|exact .inr rfl|assumption):True:=h
def RJ:Lean.Syntax:=Β._auto_1
def zyh (h:True:=by exact VD rfl):True:=h
def Q5:Lean.Syntax:=zyh._auto_1
def zzr (h:True:=by intro _;rfl):True:=h
def Qa:Lean.Syntax:=zzr._auto_1
def ġ (h:True:=by exact HD rfl):True:=h
def QB:Lean.Syntax:=ġ._auto_1
def zyf (h:True:=by exact U4 rfl):True:=h
def Nk:Lean.Syntax:=zyf._auto_1
def č (h:True:=by decide +kernel):True:=h
def Kl:Lean.Syntax:=č._auto_1
def zym (h:True:=by first|exact nobehind _ (by decide) (by decide)|rfl):True:=h
def pC:Lean.Syntax:=zym._auto_1
def zxR (h:True:=by intro _ _;rfl):True:=h
def wz:Lean.Syntax:=zxR._auto_1
def bH (h:True:=by first|exact Or.inl rfl|exact Or.inr rfl):True:=h
def p8:Lean.Syntax:=bH._auto_1
def jX (h:True:=by first|exact PassesOwn.never|exact PassesOwn.leaving):True:=h
def nH:Lean.Syntax:=jX._auto_1
def Ϥ (h:True:=by exact NT rfl rfl):True:=h
def uU:Lean.Syntax:=Ϥ._auto_1
def qa:=@List.length_map
def qb:=@List.getElem?_eq_getElem
def qc:=@PySem.Heap.get?_push_of_some
def qd:=@List.mem_of_getElem?
def qe:=@List.getElem?_append_right
def qf:=@List.getElem?_append_left
def qg:=@List.length_append
def qh:=@Nat.le_refl
def qi:=@List.mem_cons_of_mem
def qj:=@List.append_assoc
def qk:=@List.getElem?_map
def ql:=@List.mem_cons
def qo:=@PySem.Heap.get?_push_size
def qq:=@List.lookup_cons
def qr:=@Bool.and_eq_true
def qu:=@Bool.false_ne_true
def qv:=@PySem.Heap.lt_size
def qA:=@List.getElem?_eq_none
def qB:=@List.size_toArray
def qC:=@List.mem_append
def qD:=@List.map_append
def qE:=@List.mem_map
def qF:=@Nat.lt_of_lt_of_le
def qG:=@List.getD_eq_getElem?_getD
def qH:=@Option.some.inj
def qI:=@Nat.le_of_ble_eq_true
def qJ:=@List.mem_singleton
def qK:=@List.not_mem_nil
def qL:=@List.mem_append_right
def qM:=@List.length_replicate
def qN:=@List.getElem?_set_ne
def qO:=@List.mem_iff_getElem
def qP:=@List.mem_cons_self
def qQ:=@List.map_cons
def qR:=@List.length_singleton
def qS:=@List.append_nil
def qT:=@List.mem_append_left
def qU:=@Nat.ne_of_lt
def qV:=@Nat.lt_or_ge
def qW:=@List.getElem?_set_self
def qX:=@Nat.zero_le
def qY:=@List.length_cons
def qZ:=@Nat.le_trans
def XF:=@List.length_set
def Vq:=@List.getElem?_cons_succ
def Ua:=@List.getElem?_eq_some_iff
def W6:=@List.all_eq_true
def Yj:=@Nat.sub_self
def Xf:=@List.mem_filter
def Te:=@List.pairwise_iff_getElem
def X6:=@Nat.lt_irrefl
def U6:=@Array.length_toList
def VJ:=@List.nodup_append
def VP:=@List.take_length
def W0:=@PySem.Heap.size_push
def Xq:=@List.map_map
def Tt:=@Bool.false_eq_true
def UW:=@List.mem_filterMap
def VN:=@List.nodup_cons
def Vj:=@List.length_take
def Uu:=@Nat.lt_of_succ_lt
def VF:=@Bool.false_and
def R8:=@Int.emod_lt_of_pos
def QT:=@List.mem_of_mem_take
def VB:=@List.all_cons
def Wh:=@Nat.ne_of_gt
def Wf:=@Int.mul_comm
def UG:=@Int.emod_nonneg
def PN:=@Option.map_eq_some_iff
def Qt:=@List.set_append_right
def RP:=@List.filter_append
def PJ:=@List.mem_iff_getElem?
def Ob:=@List.length_filter_le
def Lq:=@Option.isSome_iff_exists
def Ti:=@Bool.eq_iff_iff
def O7:=@List.filterMap_cons
def Lf:=@List.getElem?_replicate
def KZ:=@List.filter_cons_of_pos
def Nu:=@List.filter_cons_of_neg
def V3:=@Prod.mk.inj
def QK:=@Nat.le_of_not_lt
def Vh:=@Int.neg_neg
def Vs:=@Int.le_refl
def TJ:=@List.all_map
def Oc:=@Option.isSome_map
def Qw:=@List.filter_congr
def N8:=@List.length_range
def Oo:=@List.prefix_refl
def T9:=@Int.mul_one
def J8:=@List.getElem?_take_of_lt
def Q6:=@Bool.not_true
def LK:=@List.lookup_append
def Qd:=@List.length_nil
def Im:=@Nat.add_sub_cancel_left
def K9:=@List.prefix_append
def Ql:=@Bool.or_eq_true
def Og:=@List.filter_map
def O9:=@Bool.and_false
def Rv:=@Int.le_of_lt
def RG:=@Int.mul_zero
def Ly:=@List.getElem_inj
def M8:=@Nat.lt_succ_self
def MJ:=@Nat.le_add_right
def JH:=@Int.natAbs_of_nonneg
def Qo:=@Nat.add_assoc
def Pa:=@Int.lt_irrefl
def K1:=@List.of_mem_zip
def JK:=@Option.some_ne_none
def Qh:=@List.map_nil
def J3:=@List.set_cons_succ
def M9:=@Int.natAbs_neg
def M5:=@List.forIn_nil
def Ng:=@List.mem_range
def Cp:=@List.mem_or_eq_of_mem_set
def MN:=@Nat.mul_le_mul
def Kv:=@Int.toNat_natCast
def Uh:=@Prod.ext
def KC:=@List.any_cons
def Ow:=@Int.sub_mul
def Pg:=@Int.mul_pos
def Gj:=@List.length_eq_zero_iff
def IW:=@List.length_drop
def Iu:=@List.getElem_mem
def Kw:=@List.cons_append
def Jj:=@List.getElem_map
def DY:=@List.take_of_length_le
def qbv:=@List.length_pos_of_mem
def Lx:=@Nat.le_of_lt
def Hq:=@Array.getElem?_toList
def Kr:=@List.forIn_cons
def CJ:=@List.getElem?_toArray
def Ms:=@Nat.zero_add
namespace L2
open PySem PySem.Spec PyProof.Rows
abbrev Key:=Sum Int Str
def Pu:Key->Value->Bool
 |.inl k,v=>Value.isInt k v
 |.inr x,v=>Value.isStrOf x v
def zy1 (w:World):Key->Int
 |.inl k=>hashInt k
 |.inr x=>hashStr w x
theorem Ux:∀ {k:Key} {v:Value},Pu k v=true->(∃ i t,k=Sum.inl i/\v=Value.int i t)\/(∃ x t,k=Sum.inr x/\v=Value.str x t)
 |.inl i,v,h=>by obtain⟨t,e⟩:=Value.isInt_shape (k:=i) (v:=v) h;exact .inl ⟨i,t,rfl,e⟩
 |.inr x,v,h=>by obtain⟨t,e⟩:=Value.isStrOf_shape (x:=x) (v:=v) h;exact .inr ⟨x,t,rfl,e⟩
def jd (i:Int)(t:Tok):Pu (.inl i) (.int i t)=true:=by simp[Pu,Value.isInt]
def zlT (x:Str)(t:Tok):Pu (.inr x) (.str x t)=true:=by simp[Pu,Value.isStrOf]
def zuH (a b:Int):decide ((Sum.inl a:Key)=Sum.inl b)=(a==b):=by
 by_cases e:a=b
 ·subst e;simp
 ·have h:¬ (Sum.inl a:Key)=Sum.inl b:=fun q=>e (Sum.inl.inj q)
  rw[decide_eq_false h];exact(beq_eq_false_iff_ne.mpr e).symm
def Ņ (a b:Str):decide ((Sum.inr a:Key)=Sum.inr b)=decide (a=b):=by
 by_cases e:a=b
 ·subst e;simp
 ·have h:¬ (Sum.inr a:Key)=Sum.inr b:=fun q=>e (Sum.inr.inj q)
  rw[decide_eq_false h,decide_eq_false e]
def ig (a:Int)(b:Str):decide ((Sum.inl a:Key)=Sum.inr b)=false:=decide_eq_false (fun q=>nomatch q)
def ö (a:Str)(b:Int):decide ((Sum.inr a:Key)=Sum.inl b)=false:=decide_eq_false (fun q=>nomatch q)
def zP (prog:Program)(w:World):PySem.KeyKind prog w Key where
  is:=Pu
  hash:=zy1 w
  inj:=fun v a b ha hb=>by
    rcases Ux ha with⟨i,t,rfl,rfl⟩|⟨x,t,rfl,rfl⟩
    . rcases Ux hb with⟨j,u,rfl,e⟩|⟨y,u,rfl,e⟩
      . injection e with e1 _;rw[e1]
      . exact nomatch e
    . rcases Ux hb with⟨j,u,rfl,e⟩|⟨y,u,rfl,e⟩
      . exact nomatch e
      . injection e with e1 _;rw[e1]
  byValue:=fun k v h=>by rcases Ux h with⟨i,t,rfl,rfl⟩|⟨x,t,rfl,rfl⟩<;>rfl
  pyHash:=fun hv h=>by
    rcases Ux hv with⟨i,t,rfl,rfl⟩|⟨x,t,rfl,rfl⟩
    . exact wpAny_pyHash_int h
    . exact wpAny_pyHash_str h
  eqBool:=fun hu hv h=>by
    rcases Ux hu with⟨i,t,rfl,rfl⟩|⟨x,t,rfl,rfl⟩
    . rcases Ux hv with⟨j,u,rfl,rfl⟩|⟨y,u,rfl,rfl⟩
      . rw[zuH]at h;exact wpAny_eqBool_int h
      . rw[ig]at h;exact SeqAt.EqAt.int_str i t y u _ _ _ _ h
    . rcases Ux hv with⟨j,u,rfl,rfl⟩|⟨y,u,rfl,rfl⟩
      . rw[ö]at h;exact SeqAt.EqAt.str_int x t j u _ _ _ _ h
      . rw[Ņ]at h;exact wpAny_eqBool_str h
  «strs»:=fun k x t v h=>by
    rcases Ux h with⟨i,u,rfl,e⟩|⟨y,u,rfl,e⟩
    . exact nomatch e
    . injection e with e1 _;subst e1;cases v<;>rfl
def Ñ (prog:Program)(w:World)(i:Int)(t:Tok):(zP prog w).is (.inl i) (.int i t)=true:=jd i t
def zkc (prog:Program)(w:World)(x:Str)(t:Tok):(zP prog w).is (.inr x) (.str x t)=true:=zlT x t
end L2
namespace My
open PySem PySem.Spec PyProof.Rows L2
section
variable {prog:Program}{w:World}{K:Type}[DecidableEq K](hk:HeapKind prog w K)
inductive Xk (h:Heap):List K->List Value->Prop
 |nil:Xk h [] []
 |cons {k:K} {b:Addr} {ks:List K} {vs:List Value}:hk.is h k b->Xk h ks vs->Xk h (k::ks) (.ref b::vs)
def Xr (h:Heap)(ks:List K)(a:Addr):Prop:=∃ o items n,h.get? a=some o/\o.cls=.type "tuple"/\o.data=.seq items n/\Xk hk h ks items.toList
variable {hk}
theorem Xk.inj (hx:Xk hk h x vs)(hy:Xk hk h y vs):x=y:=by
 induction hx generalizing y with
 |nil=>cases hy;rfl
 |cons h1 _ ih =>
  cases hy with
  |cons h2 t2=>rw[hk.inj h1 h2,ih t2]
theorem Xk.keeps {d:Addr}{o:Obj}{es ep}(x:Xk hk h ks vs)(ho:h.get? d=some o)(hd:o.data=.dict es ep)(hs:Heap.SameBut d h h'):Xk hk h' ks vs:=by
 induction x with
 |nil=>exact .nil
 |cons h1 _ ih=>exact .cons (hk.keeps h1 ho hd hs) ih
def Xr.typeIs {s:Shared}(x:Xr hk s.heap ks a):s.TypeIs (.ref a) "tuple":=by obtain⟨o,_,_,ho,hc,_⟩:=x;exact⟨o,ho,hc⟩
theorem Xr.inj (hx:Xr hk h x a)(hy:Xr hk h y a):x=y:=by obtain⟨o,items,n,ho,_,hd,hi⟩:=hx;obtain⟨o',items',n',ho',_,hd',hi'⟩:=hy;obtain rfl:o=o':=qH (ho.symm.trans ho');rw[hd]at hd';injection hd' with h1 _;subst h1;exact hi.inj hi'
theorem Xr.keeps {d:Addr}{o:Obj}{es ep}(x:Xr hk h ks a)(ho:h.get? d=some o)(hd:o.data=.dict es ep)(hs:Heap.SameBut d h h'):Xr hk h' ks a:=by
 obtain⟨o',items,n,ho',hc,hd',hi⟩:=x
 have hne:a≠d:=by rintro rfl;obtain rfl:o'=o:=qH (ho'.symm.trans ho);rw[hd]at hd';exact nomatch hd'
 exact⟨o',items,n,(hs.2 a hne).trans ho',hc,hd',hi.keeps ho hd hs⟩
def Dn (hk:HeapKind prog w K)(ks:List K):Int:=reduceHash (Builtin.Tuple.tupleHashOf (ks.map hk.hash))
def Gd (hk:HeapKind prog w K)(ks:List K):Nat:=(ks.map hk.draws).sum+1
variable {A:Around}{E:Value->Shared->Prop}{s:Shared}
def dZ {Q:Int->Shared->Prop}(hu:A.units<cLine)(hr:hk.room A.in1)(hi:Xr hk s.heap ks a)(h:Q (Dn hk ks) { s with toks:=s.toks+Gd hk ks }) :
  wpAny (model prog w) A (pyHash (.ref a)) Q E s:=by
 have hT:=hi.typeIs;obtain⟨o,items,n,ho,_,hd,hi⟩:=hi;unfold pyHash
 first|unfold pyHashByItsType|skip
 first|refine wpAny_bind (wpAny_cRoomFor_or (.inr hu) ?_)|skip
 refine wpAny_bind (wpAny_specialOf hT F.slot_tuple_hash.lookup ?_);show wpAny _ _ (if(some (Value.builtin "tuple.__hash__")==some Value.none)=true then _ else _) Q E s;rw[if_neg (by rw[beq_builtin_none];exact qu)];refine wpAny_bind (wpAny_specialOf hT F.slot_tuple_hash.lookup ?_);show wpAny _ _ (callSpecialIfBoundUnlessNone? (.ref a) "__hash__" _ >>= _) Q E s;refine wpAny_bind (wpAny_callSpecialIfBoundUnlessNone?_slot hT F.slot_tuple_hash (wpAny_call_entry F.slot_tuple_hash hT F.entry_tuple_hash ?_ (F.args_tuple_hash_1 _)));show wpAny _ _ (Builtin.Tuple.tupleItemsOf (.ref a) >>= _) _ _ s;refine wpAny_bind (wpAny_tupleItemsOf ho hd ?_);refine wpAny_bind ?_;rw[<- Array.forIn_toList]
 refine wpAny_forIn_list _
  (fun rest (b:Array Int) s'=>∃ done left,ks=done++left/\Xk hk s.heap left rest/\b.toList=done.map hk.hash/\s'={ s with toks:=s.toks+(done.map hk.draws).sum })
  _ ?_ ?_ _ _ ⟨[],ks,rfl,hi,rfl,rfl⟩
 ·rintro x rest b s' ⟨done,left,rfl,hl,hb,rfl⟩;cases hl with
  |@cons k c ks' _ h1 hl' =>
   refine wpAny_bind (hk.pyHash hr (s:={ s with toks:=s.toks+(done.map hk.draws).sum }) h1 ?_)
   first
    |exact wpAny_pure ⟨done++[k],ks',by simp,hl',by simp[hb],by simp[Qo]⟩
    |exact wpAny_bind (wpAny_pure (wpAny_pure ⟨done++[k],ks',by simp,hl',by simp[hb],by simp[Qo]⟩))
 ·rintro b s' ⟨done,left,rfl,hl,hb,rfl⟩;cases hl;rw[qS]at h;show wpAny _ _ (retInt (Builtin.Tuple.tupleHashOf b.toList)) _ _ _;rw[hb];refine wpAny_ret_mkInt ?_;show wpAny _ _ (if(decide (-(2:Int) ^ 63<=Builtin.Tuple.tupleHashOf (done.map hk.hash))&&decide (Builtin.Tuple.tupleHashOf (done.map hk.hash)<2 ^ 63))=true then _ else _) Q E _;unfold Dn reduceHash Gd at h;by_cases hr:(decide (-(2:Int) ^ 63<=Builtin.Tuple.tupleHashOf (done.map hk.hash))&&decide (Builtin.Tuple.tupleHashOf (done.map hk.hash)<2 ^ 63))=true
  ·rw[if_pos hr];rw[if_pos hr]at h;exact wpAny_pure (by simpa [Qo]using h)
  ·rw[if_neg hr];rw[if_neg hr]at h;exact wpAny_bind (wpAny_rule (wpAny_pure (by simpa [Qo]using h)))
def iV {P:Fin->Shared->Prop}(hr:hk.room A)(hx:Xr hk s.heap x a)(hy:Xr hk s.heap y b)(h:P (.done (.ret (.bool (decide (x=y))))) s) :
  wpAny (model prog w) A (Builtin.«tuple.__eq__» ⟨[.ref a,.ref b],[]⟩) P E s:=by
 have hTb:=hy.typeIs;obtain⟨oa,xs,na,hoa,_,hda,hia⟩:=hx;obtain⟨ob,ys,nb,hob,_,hdb,hib⟩:=hy;show wpAny _ _ (isInstance (.ref b) (.type "tuple") >>= _) _ _ s;refine wpAny_bind (wpAny_isInstance hTb isSubtype_tuple_tuple ?_);simp only[Q6,Tt,if_false];refine wpAny_bind (wpAny_tupleItemsOf hoa hda ?_);refine wpAny_bind (wpAny_tupleItemsOf hob hdb ?_);refine wpAny_bind ?_
 refine wpAny_forIn_list _
  (fun rest r s'=>r.1=none/\s'=s/\∃ x' y' xs' ys',rest=List.zip xs' ys'/\Xk hk s.heap x' xs'/\Xk hk s.heap y' ys'/\decide (x'=y')=decide (x=y)/\(xs'.length==ys'.length)=(xs.size==ys.size))
  _ ?_ ?_ _ _ ⟨rfl,rfl,x,y,xs.toList,ys.toList,rfl,hia,hib,rfl,by simp⟩
 ·rintro⟨u,v⟩ rest r s' ⟨hr',rfl,x',y',xs',ys',hz,hx',hy',hdec,hlen⟩;cases hx' with
  |nil=>simp at hz
  |@cons k1 u' x'' xs'' h1 hx'' =>
   cases hy' with
   |nil=>simp at hz
   |@cons k2 v' y'' ys'' h2 hy'' =>
    simp only[List.zip_cons_cons,List.cons.injEq,Prod.mk.injEq]at hz;obtain⟨⟨rfl,rfl⟩,rfl⟩:=hz;refine wpAny_bind (hk.eqBool hr (x:=k1) (y:=k2) h1 h2 ?_);by_cases hk:k1=k2
    ·subst hk;rw[decide_eq_true rfl];simp only[Q6,Tt,if_false];refine wpAny_pure ⟨rfl,rfl,x'',y'',xs'',ys'',rfl,hx'',hy'',?_,by simpa using hlen⟩;rw[<- hdec];by_cases hxy:x''=y''
     ·simp[hxy]
     ·simp[hxy]
    ·rw[decide_eq_false hk];simp only[Bool.not_false,if_true];have hf:decide (x=y)=false:=by rw[<- hdec];simp[hk]
     rw[hf]at h;exact wpAny_bind (wpAny_pure (wpAny_pure (wpAny_pure h)))
 ·rintro⟨r1,r2⟩ s' ⟨hr',rfl,x',y',xs',ys',hz,hx',hy',hdec,hlen⟩;simp only at hr';subst hr';refine wpAny_pure ?_
  have hfin:(xs.size==ys.size)=decide (x=y):=by
   rw[<- hdec,<- hlen];cases hx' with
   |nil =>
    cases hy' with
    |nil=>simp
    |cons _ _=>simp
   |cons _ _ =>
    cases hy' with
    |nil=>simp
    |cons _ _=>simp at hz
  show P (.done (.ret (.bool (xs.size==ys.size)))) s';rw[hfin];exact h
def bA {Q:Bool->Shared->Prop}(hu:A.units<cLine)(hr:hk.room A.in1)(hx:Xr hk s.heap x a)(hy:Xr hk s.heap y b)(h:Q (decide (x=y)) s) :
  wpAny (model prog w) A (eqBool (.ref a) (.ref b)) Q E s:=by
 unfold eqBool
 try with_reducible refine wpAny_holding ?_
 show wpAny _ _ (if(Value.ref a==Value.ref b)=true then _ else _) Q E s;by_cases hab:(Value.ref a==Value.ref b)=true
 ·rw[if_pos hab];have e:a=b:=by have:=eq_of_beq hab;injection this
  subst e;obtain rfl:=hx.inj hy;exact wpAny_bind (wpAny_rule (wpAny_pure (by simpa using h)))
 ·rw[if_neg hab]
  exact wpAny_bind (wpAny_richCompare_same_room (op:=.Eq) hx.typeIs hy.typeIs F.slot_tuple_eq
   (wpAny_call_entry F.slot_tuple_eq hx.typeIs F.entry_tuple_eq (iV hr hx hy ⟨_,rfl,(fun e=>nomatch e),wpAny_truthy_bool h⟩) (F.args_tuple_eq_2 _ _)) hu)
def cY {Q:Bool->Shared->Prop}(hq:∀ {k:K} {b:Addr},hk.is s.heap k b->∀ (Q:Bool->Shared->Prop),Q true s->wpAny (model prog w) A (eqIsQuiet 7 (.ref b)) Q E s)(hi:Xr hk s.heap ks a)(h:Q true s):wpAny (model prog w) A (eqIsQuiet 8 (.ref a)) Q E s:=by
 have hT:=hi.typeIs;obtain⟨o,items,n,ho,_,hd,hi⟩:=hi;unfold eqIsQuiet;refine wpAny_bind (wpAny_specialOf hT F.slot_tuple_eq.lookup ?_);show wpAny _ _ (isInstance (.ref a) (.type "tuple") >>= _) _ _ s;refine wpAny_bind (wpAny_isInstance hT isSubtype_tuple_tuple ?_);simp only[Q6,Tt,if_false];refine wpAny_bind (wpAny_seqItems ho hd ?_);refine wpAny_bind ?_;show wpAny _ _ (forIn items _ _) _ _ s;rw[<- Array.forIn_toList];refine wpAny_forIn_list _ (fun rest r s'=>r.1=none/\s'=s/\∃ left,Xk hk s.heap left rest) _ ?_ ?_ _ _ ⟨rfl,rfl,ks,hi⟩
 ·rintro v rest r s' ⟨hr,rfl,left,hall⟩;cases hall with
  |@cons k c ks' _ h1 hl' =>refine wpAny_bind (hq h1 _ ?_);simp only[Q6,Tt,if_false];exact wpAny_pure ⟨rfl,rfl,ks',hl'⟩
 ·rintro⟨r1,r2⟩ s' ⟨hr,rfl,_⟩;simp only at hr;subst hr;exact wpAny_pure h
end
section
variable {prog:Program}{w:World}{K:Type}[DecidableEq K]{knd:KeyKind prog w K}{A:Around}{E:Value->Shared->Prop}{s:Shared}
def aB (m:Nat){Q:Bool->Shared->Prop}(hk:IsTupleKey knd s.heap ks a)(h:Q true s):wpAny (model prog w) A (eqIsQuiet (m+1) (.ref a)) Q E s:=by
 have hT:=hk.typeIs;obtain⟨o,items,n,ho,_,hd,hi⟩:=hk;unfold eqIsQuiet;refine wpAny_bind (wpAny_specialOf hT F.slot_tuple_eq.lookup ?_);show wpAny _ _ (isInstance (.ref a) (.type "tuple") >>= _) _ _ s;refine wpAny_bind (wpAny_isInstance hT isSubtype_tuple_tuple ?_);simp only[Q6,Tt,if_false];refine wpAny_bind (wpAny_seqItems ho hd ?_);refine wpAny_bind ?_;show wpAny _ _ (forIn items _ _) _ _ s;rw[<- Array.forIn_toList];refine wpAny_forIn_list _ (fun rest r s'=>r.1=none/\s'=s/\∀ v∈rest,carriedByValue v=true) _ ?_ ?_ _ _ ⟨rfl,rfl,hi.byValue⟩
 ·rintro v rest r s' ⟨hr,rfl,hall⟩;rw[eqIsQuiet_byValue _ (hall v qP)];refine wpAny_bind (wpAny_pure ?_);simp only[Q6,Tt,if_false];exact wpAny_pure ⟨rfl,rfl,fun u hu'=>hall u (qi _ hu')⟩
 ·rintro⟨r1,r2⟩ s' ⟨hr,rfl,_⟩;simp only at hr;subst hr;exact wpAny_pure h
def Uq (knd:KeyKind prog w K):HeapKind prog w (List (List K)) where
 is:=Xr (tupleKind knd)
 hash:=Dn (tupleKind knd)
 draws:=Gd (tupleKind knd)
 room:=fun A=>A.units+1<cLine
 inj:=fun hx hy=>hx.inj hy
 keeps:=fun x ho hd hs=>x.keeps ho hd hs
 pyHash:=fun hu hk h=>dZ (Uu hu) hu hk h
 eqBool:=fun hu hx hy h=>bA (Uu hu) hu hx hy h
 quiet:=fun hk h=>cY (fun hb _ q=>aB 6 hb q) hk h
end
end My
namespace L2
open PySem PySem.Spec PyProof.Rows
inductive V where
 |non|bl (b:Bool)|int (i:Int)|str (x:Str)|byt (b:Array UInt8)|flt (b:UInt64)|ref (a:Addr)|ty (n:String)
 deriving DecidableEq
def RelV:V->Value->Prop
 |.non,u=>u=Value.none
 |.bl b,u=>u=Value.bool b
 |.int i,u=>∃ t,u=Value.int i t
 |.str x,u=>∃ t,u=Value.str x t
 |.byt b,u=>∃ t,u=Value.bytes b t
 |.flt b,u=>∃ t,u=Value.float b t
 |.ref a,u=>u=Value.ref a
 |.ty n,u=>u=Value.type n
abbrev Vals:List V->List Value->Prop:=Paired RelV
theorem Vals.length (r:Vals xs us):xs.length=us.length:=Paired.length r
theorem Vals.get:∀ {xs:List V} {us:List Value} {i:Nat} {x:V},Vals xs us->xs[i]?=some x->∃ u,us[i]?=some u/\RelV x u
 |_,_,_,_,.nil,e=>by simp at e
 |_,_,0,_,.cons r _,e=>by simp at e;subst e;exact⟨_,rfl,r⟩
 |_,_,i+1,x,.cons _ t,e=>by obtain⟨u,h1,h2⟩:=Vals.get (i:=i) (x:=x) t (by simpa using e);exact⟨u,by simpa using h1,h2⟩
theorem Vals.set (r:RelV x u):∀ {xs:List V} {us:List Value} (i:Nat),Vals xs us->Vals (xs.set i x) (us.set i u)
 |_,_,_,.nil=>.nil
 |_,_,0,.cons _ t=>.cons r t
 |_,_,i+1,.cons q t=>.cons q (Vals.set r i t)
theorem Vals.append:∀ {xs ys:List V} {us ws:List Value},Vals xs us->Vals ys ws->Vals (xs++ys) (us++ws)
 |_,_,_,_,.nil,s=>s
 |_,_,_,_,.cons r t,s=>.cons r (Vals.append t s)
theorem Vals.take:∀ {xs:List V} {us:List Value} (n:Nat),Vals xs us->Vals (xs.take n) (us.take n)
 |_,_,0,_=>.nil
 |_,_,_+1,.nil=>.nil
 |_,_,n+1,.cons r t=>.cons r (Vals.take n t)
theorem Vals.drop:∀ {xs:List V} {us:List Value} (n:Nat),Vals xs us->Vals (xs.drop n) (us.drop n)
 |_,_,0,r=>r
 |_,_,_+1,.nil=>.nil
 |_,_,n+1,.cons _ t=>Vals.drop n t
def Yb:Option V->Option Value->Prop
 |some v,some u=>RelV v u
 |none,none=>True
 |_,_=>False
def KV {κ:Type}:List (κ×V)->List (κ×Value)->Prop:=Paired fun (p:κ×V) (q:κ×Value)=>p.1=q.1/\RelV p.2 q.2
def kV:Key->V
 |.inl i=>.int i
 |.inr x=>.str x
inductive HO where
 |lst (xs:List V)
 |tup (xs:List V)
 |dK (Z8:List (Key×V))|dT (Z8:List (List Key×V))
 |dN (Z8:List (List (List Key)×V)) (ep:Nat)
 |set (S:Int->Bool) (n:Nat)
 |ins (C dx:Addr) (fs:List (Str×V))
 |own (x:Addr)
 |xd (fs:List (Str×V))
 |met (f x:Addr)
 |rng (lo hi:Int)
 |frz (o:Obj) (u:HO)
 |tbl (ps:Array Value)
 |ext (φ:Heap->Prop)
abbrev Hp:=Addr->Option HO
def upd (H:Hp)(a:Addr)(o:HO):Hp:=fun b=>if b=a then some o else H b
def zK {H:Hp}{a:Addr}{o:HO}:upd H a o a=some o:=by unfold upd;rw[if_pos rfl]
def zu {H:Hp}{a b:Addr}{o:HO}(h:b≠a):upd H a o b=H b:=by unfold upd;rw[if_neg h]
def VH {H:Hp}{o u:HO}(h:H a=some o)(h':H b=some u)(d:o≠u):a≠b:=by intro e;subst e;rw[h]at h';exact d (qH h')
def TF {H:Hp}{o:HO}(h:H a=some o)(h':H b=none):a≠b:=by intro e;subst e;rw[h]at h';cases h'
def WD (H:Hp)(b:Addr)(k:List (List Key)):Prop:=∃ bs:List Addr,H b=some (.tup (bs.map V.ref))/\Paired (fun (ks:List Key) (c:Addr)=>H c=some (.tup (ks.map kV))) k bs
section
variable (P:Program)(w:World)
def zZ (H:Hp)(h:Heap)(a:Addr):HO->Prop
 | .lst xs=>xs.length<=sizeLine/\∃ (its:List Value) (n:Nat),Vals xs its/\h.get? a=some { cls:=.type "list",data:=.seq its.toArray n }
 |.tup xs=>xs.length<=sizeLine/\∃ its:List Value,Vals xs its/\IsTup h a its.toArray
 |.dK Z8=>Z8.length<=sizeLine/\(a==sysModules)=false/\∃ vs,KV Z8 vs/\h.DictOf (zP P w) a vs
 |.dT Z8=>Z8.length<=sizeLine/\(a==sysModules)=false/\∃ xs:List (List Key×Addr×Value),
   Paired (fun (p:List Key×V) (q:List Key×Addr×Value)=>p.1=q.1/\H q.2.1=some (.tup (p.1.map kV))/\RelV p.2 q.2.2) Z8 xs /\
   ∃ o es ep,h.get? a=some o/\o.ExactDict/\o.data=.dict es ep/\es.toList=xs.map (entryOfKey (tupleKind (zP P w)))/\(xs.map (·.1)).Nodup
 |.dN Z8 ep=>Z8.length<=sizeLine/\(a==sysModules)=false/\∃ xs:List (List (List Key)×Addr×Value),
   Paired (fun (p:List (List Key)×V) (q:List (List Key)×Addr×Value)=>p.1=q.1/\WD H q.2.1 p.1/\RelV p.2 q.2.2) Z8 xs /\
   ∃ o es,h.get? a=some o/\o.ExactDict/\o.data=.dict es ep/\es.toList=xs.map (entryOfKey (My.Uq (zP P w)))/\(xs.map (·.1)).Nodup
 |.set S n=>h.SetOf (intKind P w) a S n
 |.ins C dx fs=>H dx=some (.own a)/\fs.length<=1000/\dx≠a/\h.get? a=some (PySem.W.instObj C dx) /\
   ∃ mA,h.Ns1 dx mA/\(∀ f,Yb (fs.lookup f) (mA f))/\PySem.Within mA (fs.map (·.1))
 |.own _=>∃ o,h.get? a=some o
 |.xd fs=>∃ mA,h.Ns1 a mA/\∀ f,Yb (fs.lookup f) (mA f)
 | .rng lo hi=>∃ t u v,h.get? a=some { cls:=.type "range",data:=.fields #[.int lo t,.int hi u,.int 1 v] }
 |.frz o u=>h.get? a=some o/\zZ H h a u
 |.tbl ps=>h.get? a=some { cls:=.none,data:=.fields ps }
 |.met f x=>h.get? a=some (PySem.W.methodObj (.ref f) (.ref x))
 |.ext φ=>φ h/\(∃ o,h.get? a=some o)/\∀ h1 h2:Heap,φ h1->(∀ o,h1.get? a=some o->h2.get? a=some o)->φ h2
def ZF (H:Hp)(h:Heap):Prop:=∀ a o,H a=some o->zZ P w H h a o
end
section
variable {P:Program}{w:World}{H H':Hp}{h h':Heap}{a:Addr}{o:HO}
theorem zZ.lt (x:zZ P w H h a o):a<h.objs.size:=by
 cases o with
 |lst xs=>obtain⟨_,_,_,_,e⟩:=x;exact qv e
 |tup xs=>obtain⟨_,_,_,p⟩:=x;exact p.lt
 |dK Z8=>obtain⟨_,_,_,_,o,_,_,e,_⟩:=x;exact qv e
 |dT Z8=>obtain⟨_,_,_,_,o,_,_,e,_⟩:=x;exact qv e
 |dN Z8 ep=>obtain⟨_,_,_,_,o,_,e,_⟩:=x;exact qv e
 |set S n=>obtain⟨o,_,_,_,e,_⟩:=x;exact qv e
 |ins C dx fs=>obtain⟨_,_,_,e,_⟩:=x;exact qv e
 |own y=>obtain⟨_,e⟩:=x;exact qv e
 |xd fs=>obtain⟨_,⟨_,_,_,e,_⟩,_⟩:=x;exact qv e
 |rng lo hi=>obtain⟨_,_,_,e⟩:=x;exact qv e
 |frz ob u=>obtain⟨e,_⟩:=x;exact qv e
 |tbl ps=>exact qv (show h.get? a=some _ from x)
 |met f y=>exact qv (show h.get? a=some _ from x)
 |ext φ=>obtain⟨_,⟨_,e⟩,_⟩:=x;exact qv e
theorem Paired.mapP {α β:Type}{F G:α->β->Prop}:∀ {l₁:List α} {l₂:List β},Paired F l₁ l₂->(∀ a b,F a b->G a b)->Paired G l₁ l₂
 |_,_,.nil,_=>.nil
 |_,_,.cons r t,f=>.cons (f _ _ r) (Paired.mapP t f)
def WD.keeps {H':Hp}{k:List (List Key)}(x:WD H b k)(ht:∀ b xs,H b=some (.tup xs)->H' b=some (.tup xs)):WD H' b k :=by obtain⟨bs,e,r⟩:=x;exact⟨bs,ht _ _ e,Paired.mapP r fun _ _ z=>ht _ _ z⟩
def zZ.stay (x:zZ P w H h a o)(k:∀ b u,(b=a\/H b=some (.own a))->h.get? b=some u->h'.get? b=some u)
  (ho:∀ b,H b=some (.own a)->H' b=some (.own a)) (ht:∀ b xs,H b=some (.tup xs)->H' b=some (.tup xs)):zZ P w H' h' a o:=by
 induction o with
 |lst xs=>obtain⟨z,its,n,r,e⟩:=x;exact⟨z,its,n,r,k _ _ (.inl rfl) e⟩
 |tup xs=>obtain⟨z,its,r,ob,e,c⟩:=x;exact⟨z,its,r,ob,k _ _ (.inl rfl) e,c⟩
 |dK Z8=>obtain⟨z,y,vs,r,ob,es,ep,e,c⟩:=x;exact⟨z,y,vs,r,ob,es,ep,k _ _ (.inl rfl) e,c⟩
 |dT Z8 =>obtain⟨z,y,xs,r,ob,es,ep,e,c⟩:=x;exact⟨z,y,xs,Paired.mapP r fun p q z=>⟨z.1,ht _ _ z.2.1,z.2.2⟩,ob,es,ep,k _ _ (.inl rfl) e,c⟩
 |dN Z8 ep =>obtain⟨z,y,xs,r,ob,es,e,c⟩:=x;exact⟨z,y,xs,Paired.mapP r fun p q z=>⟨z.1,z.2.1.keeps ht,z.2.2⟩,ob,es,k _ _ (.inl rfl) e,c⟩
 |set S n=>obtain⟨ob,es,ep,t,e,c⟩:=x;exact⟨ob,es,ep,t,k _ _ (.inl rfl) e,c⟩
 |ins C dx fs =>obtain⟨d,z,ne,e,mA,⟨od,es,ep,e2,c⟩,r⟩:=x;exact⟨ho _ d,z,ne,k _ _ (.inl rfl) e,mA,⟨od,es,ep,k _ _ (.inr d) e2,c⟩,r⟩
 |own y=>obtain⟨ob,e⟩:=x;exact⟨ob,k _ _ (.inl rfl) e⟩
 |xd fs=>obtain⟨mA,⟨od,es,ep,e,c⟩,r⟩:=x;exact⟨mA,⟨od,es,ep,k _ _ (.inl rfl) e,c⟩,r⟩
 |rng lo hi=>obtain⟨t,u,v,e⟩:=x;exact⟨t,u,v,k _ _ (.inl rfl) e⟩
 |frz ob u ih=>obtain⟨e,q⟩:=x;exact⟨k _ _ (.inl rfl) e,ih q⟩
 |tbl ps =>have e:h.get? a=some { cls:=.none,data:=.fields ps }:=x;show h'.get? a=some { cls:=.none,data:=.fields ps };exact k a _ (.inl rfl) e
 |met f y =>have e:h.get? a=some (PySem.W.methodObj (.ref f) (.ref y)):=x;show h'.get? a=some (PySem.W.methodObj (.ref f) (.ref y));exact k a _ (.inl rfl) e
 |ext φ=>obtain⟨p,⟨o,e⟩,st⟩:=x;exact⟨st _ _ p fun o q=>k _ _ (.inl rfl) q,⟨o,k _ _ (.inl rfl) e⟩,st⟩
theorem ZF.lt (x:ZF P w H h)(e:H a=some o):a<h.objs.size:=(x a o e).lt
def ZF.fresh (x:ZF P w H h)(e:h.objs.size<=a):H a=none:=by
 cases q:H a with
 |none=>rfl
 |some u=>exact absurd (qF (x.lt q) e) (X6 _)
def ZF.kept (x:ZF P w H h)(k:∀ b u,h.get? b=some u->h'.get? b=some u):ZF P w H h':=fun a o e =>(x a o e).stay (fun b u _ q=>k b u q) (fun _ q=>q) fun _ _ q=>q
def ZF.laid (x:ZF P w H h)(k:∀ b u,h.get? b=some u->h'.get? b=some u)(hp:h.objs.size<=a)(new:zZ P w (upd H a o) h' a o):ZF P w (upd H a o) h':=fun b u e=>by
 have hn:=x.fresh hp;by_cases hb:b=a
 ·subst hb;rw[zK]at e;cases e;exact new
 ·rw[zu hb]at e;exact(x b u e).stay (fun c v _ q=>k c v q) (fun c q=>by rw[zu (TF q hn)];exact q) fun c xs q=>by rw[zu (TF q hn)];exact q
end
def Rd (H:Hp)(a:Addr)(u:HO):Prop:=H a=some u\/∃ o,H a=some (.frz o u)
def Rd.ok (r:Rd H a u)(x:ZF P w H h):zZ P w H h a u:=by
 rcases r with r|⟨o,r⟩
 ·exact x a u r
 ·obtain⟨_,q⟩:=x a _ r;exact q
def Nz:Option HO->Prop
 |some (.lst _)=>True
 |some (.dK _)=>True
 |some (.dT _)=>True
 |some (.dN _ _)=>True
 |some (.set _ _)=>True
 |some (.ins _ _ _)=>True
 |some (.ext _)=>True
 |_=>False
section
variable {P:Program}{w:World}{H:Hp}{h h':Heap}{x e:Addr}{o':HO}
def ZF.write (ok:ZF P w H h)(mu:Nz (H x))(he:e=x\/H e=some (.own x))(k:∀ b u,b≠e->h.get? b=some u->h'.get? b=some u)(heo:∃ u,h'.get? e=some u)
  (new:zZ P w (upd H x o') h' x o'):ZF P w (upd H x o') h':=fun b u q=>by
 have nown:∀ c y,H c=some (.own y)->c≠x:=fun c y r z=>by subst z;rw[r]at mu;exact mu
 have ntup:∀ c xs,H c=some (.tup xs)->c≠x:=fun c xs r z=>by subst z;rw[r]at mu;exact mu
 by_cases hb:b=x
 ·subst hb;rw[zK]at q;cases q;exact new
 ·rw[zu hb]at q;by_cases hbe:b=e
  ·have q':H b=some (.own x):=by
    rcases he with z|z
    ·exact absurd (hbe.trans z) hb
    ·rw[hbe];exact z
   rw[q]at q';cases q';obtain⟨v,hv⟩:=heo;exact⟨v,by rw[hbe];exact hv⟩
  ·refine(ok b u q).stay (fun c v hc r=>k c v ?_ r) (fun c r=>by rw[zu (nown c b r)];exact r) fun c xs r=>by rw[zu (ntup c xs r)];exact r
   rcases hc with rfl|hc
   ·exact hbe
   ·rintro rfl;rcases he with z|z
    ·exact nown c b hc z
    ·rw[hc]at z;cases z;exact hb rfl
end
structure Un (fs ex:List Addr)(H H':Hp)(h h':Heap):Prop where
 keep:∀ b o,h.get? b=some o->H b=none->b∉fs->b∉ex->h'.get? b=some o
 slot:∀ b o,h.get? b=some o->H b=none->b∈fs->b∉ex->∃ sl,h'.get? b=some { o with slots:=sl }
 free:∀ b o,h.get? b=some o->H b=none->b∉ex->H' b=none
 there:∀ b o,h.get? b=some o->b∉ex->∃ o',h'.get? b=some o'
 tups:∀ b xs,H b=some (.tup xs)->H' b=some (.tup xs)
 frzs:∀ b o u,H b=some (.frz o u)->H' b=some (.frz o u)
 tbls:∀ b ps,H b=some (.tbl ps)->∃ more,H' b=some (.tbl (ps++more))
section
variable {fs fs' ex ex':List Addr}{H H1 H2:Hp}{h h1 h2 h':Heap}{a x e:Addr}{o:HO}
def Un.any (u:Un fs ex H H1 h h1){b:Addr}{ob:Obj}(q:h.get? b=some ob)(n:H b=none)(hx:b∉ex):∃ sl,h1.get? b=some { ob with slots:=sl }:=by
 by_cases hb:b∈fs
 ·exact u.slot b ob q n hb hx
 ·exact⟨ob.slots,u.keep b ob q n hb hx⟩
def Un.kept (k:∀ b u,h.get? b=some u->h'.get? b=some u):Un fs ex H H h h' :=⟨fun b ob q _ _ _=>k b ob q,fun b ob q _ _ _=>⟨ob.slots,k b ob q⟩,fun _ _ _ n _=>n,fun b ob q _=>⟨ob,k b ob q⟩,fun _ _ q=>q,fun _ _ _ q=>q,fun _ ps q=>⟨#[],by rw[q];simp⟩⟩
def Un.refl:Un fs ex H H h h:=Un.kept fun _ _ q=>q
def Un.laid (k:∀ b u,h.get? b=some u->h'.get? b=some u)(hp:h.objs.size<=a)(hn:H a=none):Un fs ex H (upd H a o) h h' where
 keep:=fun b u q _ _ _=>k b u q
 slot:=fun b u q _ _ _=>⟨u.slots,k b u q⟩
 free:=fun b u q n _=>by rw[zu (qU (qF (qv q) hp))];exact n
 there:=fun b u q _=>⟨u,k b u q⟩
 tups:=fun b xs q=>by rw[zu (TF q hn)];exact q
 frzs:=fun b u xs q=>by rw[zu (TF q hn)];exact q
 tbls:=fun b ps q=>⟨#[],by rw[zu (TF q hn),q];simp⟩
def Un.write (mu:Nz (H x))(he:e=x\/H e=some (.own x))(k:∀ b u,b≠e->h.get? b=some u->h'.get? b=some u)(heo:∃ u,h'.get? e=some u):Un fs ex H (upd H x o) h h':=by
 have hx:∀ b,H b=none->b≠x:=fun b n z=>by subst z;rw[n]at mu;exact mu
 have hb:∀ b,H b=none->b≠e:=fun b n z=>by
  subst z;rcases he with r|r
  ·exact hx b n r
  ·rw[n]at r;cases r
 have hm:∀ b u,H b=some u->¬ Nz (some u)->b≠x:=fun b u q nm z=>by subst z;rw[q]at mu;exact nm mu
 refine⟨fun b u q n _ _=>k b u (hb b n) q,fun b u q n _ _=>⟨u.slots,k b u (hb b n) q⟩,fun b u q n _=>by rw[zu (hx b n)];exact n,fun b u q _=>?_,
  fun b xs q=>by rw[zu (hm b _ q fun z=>z)];exact q,fun b u xs q=>by rw[zu (hm b _ q fun z=>z)];exact q,fun b ps q=>⟨#[],by rw[zu (hm b _ q fun z=>z),q];simp⟩⟩
 by_cases hbe:b=e
 ·subst hbe;exact heo
 ·exact⟨u,k b u hbe q⟩
end
def HJ (h:Heap)(H:Hp):List Addr:=(List.range h.objs.size).filter fun a=>(H a).isSome
def TY (h:Heap)(H:Hp):Heap:=PySem.W.hideAll h (HJ h H)
def jf (h:Heap)(H:Hp):(TY h H).objs.size=h.objs.size:=PySem.W.hideAll_size _ _
def ϻ {h:Heap}{H:Hp}{b:Addr}{o:Obj}(e:h.get? b=some o)(n:H b=none):(TY h H).get? b=some o :=
 PySem.W.hideAll_get _ e fun hm=>by have q:(H b).isSome=true:=(Xf.mp hm).2;rw[n]at q;simp at q
def lW {h:Heap}{H:Hp}{b:Addr}{o:Obj}(e:(TY h H).get? b=some o):h.get? b=some o/\H b=none:=by
 have e':h.get? b=some o:=PySem.W.of_hideAll (HJ h H) e;refine⟨e',?_⟩;cases q:H b with
 |none=>rfl
 |some x =>have hm:b∈HJ h H:=Xf.mpr ⟨List.mem_range.mpr (qv e'),by simp[q]⟩;have z:(TY h H).get? b=none:=PySem.W.hideAll_none (HJ h H) hm;rw[z]at e;cases e
def bD (g h:Heap)(L:Addr):List (Addr×Obj):=(List.range h.objs.size).filterMap fun a=>if a=L\/(g.get? a).isSome=true then none else(h.get? a).map fun o=>(a,o)
def rest (g h:Heap)(L d:Addr):List (Addr×Obj):=(bD g h L).filter fun p=>decide (p.1≠d)
structure Mod (K:PySem.W.Frag)(mg:Str->Option Value)(base:Heap):Prop where
 kin:K.In base
 glob:base.Ns mainGlobals mg
 blt:∃ mb,base.Ns builtinsNs mb/\∀ x:Str,x≠"__name__"->mb x=bootBuiltins x
 nolimit:base.NoLimit
/-- the context: a def's body (or a comprehension's block) running. base: fixed through the whole law; s₀, H₀: the entry; outer: the frames whose slots others may change (a def's callers); stack: all frames that run;
   ex: iterators that were made ahead of the entry and are walked here (a comprehension's);fn: the names whose cells were made at the entry (a def: all;a comprehension's block: its own);calm: not within an except suite;pn: Z9 that every state bears;xe: what is wanted of an exception that leaves the code -/
structure Cx where
 prog:Program
 w:World
 K:PySem.W.Frag
 mg:Str->Option Value
 base:Heap
 A:Around
 N:List Str
 s₀:Shared
 H₀:Hp
 env:Env
 outer:List Env
 stack:List Env
 ex:List Addr
 fn:Str->Bool
 calm:Bool
 pn:List (Addr×Obj)
 xe:Value->Shared->Prop
def frs (l:List Env):List Addr:=l.filterMap (·.frame)
abbrev Cx.fs (X:Cx):List Addr:=frs X.outer
def Vis (sc:Scope)(x:Str):Prop:=sc.names.lookup x=some .local\/sc.names.lookup x=some .cell\/sc.names.lookup x=some .free
def Loc (sc:Scope)(x:Str):Prop:=sc.names.lookup x=some .local\/sc.names.lookup x=some .cell
def Look (env:Env)(h:Heap)(m:Str->Option Value)(x:Str)(u:Value):Prop :=(env.kindOf x=some .local/\m x=some u)\/((env.kindOf x=some .cell\/env.kindOf x=some .free)/\∃ c,env.cells.lookup x=some c/\h.IsCell c (some u))
structure Cx.Ok (X:Cx):Prop where
 mod:Mod X.K X.mg X.base
 kind:X.env.scope.kind=.function
 glob:X.env.globals=mainGlobals
 blt:X.env.builtins=builtinsNs
 above:X.s₀.heap.objs.size<=X.env.locals
 inj:∀ x y c,X.env.cells.lookup x=some c->X.env.cells.lookup y=some c->x=y
 has:∀ x,(X.env.kindOf x=some .cell\/X.env.kindOf x=some .free)->∃ c,X.env.cells.lookup x=some c
 cab:∀ x c,X.fn x=true->X.env.cells.lookup x=some c->X.s₀.heap.objs.size<=c
 hd:X.calm=true->X.A.handled=none
 frames:X.A.frames=some X.stack
 stk:X.stack=X.outer\/(X.stack=X.env::X.outer/\X.env.frame=some X.env.locals)
 exf:∀ b∈X.ex,b≠X.env.locals/\∀ x c,X.env.cells.lookup x=some c->c≠b
 bs:∀ b o,X.base.get? b=some o->X.s₀.heap.get? b=some o/\X.H₀ b=none
 bsz:X.base.objs.size<=X.s₀.heap.objs.size
 noex:∀ b o,X.base.get? b=some o->b∉X.ex
 exfs:∀ b∈X.ex,b∉X.fs
 funs:X.s₀.heap.FunFrames X.base X.outer
 frf:∀ b∈X.fs,X.H₀ b=none
structure Inv (X:Cx)(Z9:List (Addr×Obj))(U:List (Option V))(H:Hp)(s:Shared):Prop where
 ok:X.Ok
 os:s.os=X.s₀.os
 bare:AllBare s.gens
 base:Un X.fs X.ex X.H₀ H X.s₀.heap s.heap
 loc:∃ m,s.heap.Ns X.env.locals m/\∀ (i:Nat) (x:Str) (v:V),X.N[i]?=some x->U[i]?=some (some v)->Vis X.env.scope x->∃ u,RelV v u/\Look X.env s.heap m x u
 cell:∀ x c,X.env.cells.lookup x=some c->∃ v,s.heap.IsCell c v
 free:H X.env.locals=none
 freeC:∀ x c,X.env.cells.lookup x=some c->H c=none
 pin:∀ p∈X.pn++Z9,s.heap.get? p.1=some p.2/\H p.1=none/\p.1≠X.env.locals/\p.1∉X.fs/\∀ v,p.2.data≠.cell v
 hok:ZF X.prog X.w H s.heap
 len:U.length=X.N.length
section
variable {X:Cx}{Z9:List (Addr×Obj)}{U:List (Option V)}{H H':Hp}{s:Shared}{h':Heap}
def Cx.Ok.nofr (ok:X.Ok){b:Addr}{o:Obj}(e:X.base.get? b=some o):b∉X.fs:=fun hb=>by have:=(ok.funs.mem hb).1;rw[e]at this;cases this
theorem Inv.bs (I:Inv X Z9 U H s):∀ b o,X.base.get? b=some o->s.heap.get? b=some o/\H b=none:=fun b o e =>⟨I.base.keep b o (I.ok.bs b o e).1 (I.ok.bs b o e).2 (I.ok.nofr e) (I.ok.noex b o e),I.base.free b o (I.ok.bs b o e).1 (I.ok.bs b o e).2 (I.ok.noex b o e)⟩
def Inv.bk (I:Inv X Z9 U H s):∀ b o,X.base.get? b=some o->s.heap.get? b=some o:=fun b o e=>(I.bs b o e).1
theorem Inv.mod (I:Inv X Z9 U H s):Mod X.K X.mg X.base:=I.ok.mod
def Inv.kIn (I:Inv X Z9 U H s):X.K.In s.heap:=I.ok.mod.kin.keeps I.bk
theorem Inv.lt (I:Inv X Z9 U H s):X.env.locals<s.heap.objs.size:=by obtain⟨_,hn,_⟩:=I.loc;exact hn.lt
def Inv.sz (I:Inv X Z9 U H s):X.s₀.heap.objs.size<=s.heap.objs.size:=qZ I.ok.above (Lx I.lt)
def Inv.nofs (I:Inv X Z9 U H s){a:Addr}(h:s.heap.objs.size<=a):a∉X.fs:=fun hb=>by obtain⟨_,o,ho,_⟩:=I.ok.funs.mem hb;exact absurd (qF (qv ho) (qZ I.sz h)) (X6 _)
def Inv.cne (I:Inv X Z9 U H s):∀ x c,X.env.cells.lookup x=some c->c≠X.env.locals:=fun x c e z=>by obtain⟨v,o,ho,hd⟩:=I.cell x c e;obtain⟨m,⟨o',es,ep,ho',hd',_⟩,_⟩:=I.loc;rw[z,ho']at ho;cases ho;rw[hd']at hd;cases hd
theorem Inv.funs (I:Inv X Z9 U H s):s.heap.FunFrames X.base X.outer:=by
 have all:∀ (l:List Env),(∀ b∈frs l,b∈X.fs)->X.s₀.heap.FunFrames X.base l->s.heap.FunFrames X.base l:=by
  intro l
  induction l with
  |nil=>intro _ _;trivial
  |cons env r ih =>
   intro hs hl;obtain⟨hk,⟨L,o,hf,hn,ho,hd⟩,hr⟩:=hl;have hL:L∈X.fs:=hs L (by unfold frs;rw[O7,hf];exact qP);obtain⟨sl,e⟩:=I.base.slot L o ho (I.ok.frf L hL) hL fun z=>I.ok.exfs L z hL
   exact⟨hk,⟨L,_,hf,hn,e,hd⟩,ih (fun b hb=>hs b (by unfold frs;rw[O7,hf];exact qi _ hb)) hr⟩
 exact all X.outer (fun _ hb=>hb) I.ok.funs
theorem Inv.stack (I:Inv X Z9 U H s):s.heap.FunFrames X.base X.stack:=by
 rcases I.ok.stk with e|⟨e,hf⟩
 ·rw[e];exact I.funs
 ·rw[e];obtain⟨m,hn,_⟩:=I.loc;refine .cons (by rw[I.ok.kind];decide) hf hn ?_ I.funs;exact Heap.get?_none_of_le (qZ I.ok.bsz I.ok.above)
def Inv.stkSub (I:Inv X Z9 U H s):∀ b∈frs X.stack,b∈X.env.locals::X.fs:=fun b hb=>by
 rcases I.ok.stk with e|⟨e,hf⟩
 ·rw[e]at hb;exact qi _ hb
 ·rw[e]at hb;unfold frs at hb;rw[O7,hf]at hb;exact hb
def Inv.stkFree (I:Inv X Z9 U H s):∀ b∈frs X.stack,H b=none:=fun b hb=>by
 rcases ql.mp (I.stkSub b hb)with e|hb
 ·rw[e];exact I.free
 ·obtain⟨_,o,ho,_⟩:=I.ok.funs.mem hb;exact I.base.free b o ho (I.ok.frf b hb) fun z=>I.ok.exfs b z hb
def Inv.step {t':Nat}{d':Drawn}{ch:List Addr}(I:Inv X Z9 U H s)(hch:∀ b∈ch,(b∈X.ex\/X.s₀.heap.objs.size<=b)/\b≠X.env.locals/\(∀ x c,X.env.cells.lookup x=some c->c≠b)/\∀ p∈X.pn++Z9,p.1≠b)(keep:∀ b o,b≠X.env.locals->b∉X.fs->b∉ch->s.heap.get? b=some o->H b=none->h'.get? b=some o)(slot:∀ b o,b≠X.env.locals->b∈X.fs->b∉ch->s.heap.get? b=some o->H b=none->∃ sl,h'.get? b=some { o with slots:=sl })(free:∀ b o,b∉ch->s.heap.get? b=some o->H b=none->H' b=none)(there:∀ b o,b∉ch->s.heap.get? b=some o->∃ o',h'.get? b=some o')(tups:∀ b xs,H b=some (.tup xs)->H' b=some (.tup xs))(frzs:∀ b o u,H b=some (.frz o u)->H' b=some (.frz o u))(tbls:∀ b ps,H b=some (.tbl ps)->∃ more,H' b=some (.tbl (ps++more)))(ns:∀ m,s.heap.Ns X.env.locals m->h'.Ns X.env.locals m)(hok:ZF X.prog X.w H' h')(hg:AllBare g') :
  Inv X Z9 U H' { s with heap:=h',gens:=g',drawn:=d',toks:=t' }:=by
 have neL:∀ b o,X.s₀.heap.get? b=some o->b≠X.env.locals:=fun b o e=>qU (qF (qv e) I.ok.above)
 have neC:∀ b o,X.s₀.heap.get? b=some o->b∉X.ex->b∉ch:=fun b o e hx hb=>by
  rcases(hch b hb).1 with z|z
  ·exact hx z
  ·exact absurd (qF (qv e) z) (X6 _)
 have cellK:∀ x c,X.env.cells.lookup x=some c->∀ v,s.heap.IsCell c v->h'.IsCell c v:=by
  rintro x c e v ⟨o,ho,hd⟩;have nch:c∉ch:=fun z=>(hch c z).2.2.1 x c e rfl
  by_cases hc:c∈X.fs
  ·obtain⟨sl,q⟩:=slot c o (I.cne x c e) hc nch ho (I.freeC x c e);exact⟨_,q,hd⟩
  ·exact⟨o,keep c o (I.cne x c e) hc nch ho (I.freeC x c e),hd⟩
 refine⟨I.ok,I.os,hg,⟨fun b o e n hb hx=>?_,fun b o e n hb hx=>?_,fun b o e n hx=>?_,fun b o e hx=>?_,fun b xs e=>tups b xs (I.base.tups b xs e),fun b o xs e=>frzs b o xs (I.base.frzs b o xs e),fun b ps e=>?_⟩,?_,fun x c e=>?_,?_,fun x c e=>?_,fun p hp=>?_,hok,I.len⟩
 ·exact keep b o (neL b o e) hb (neC b o e hx) (I.base.keep b o e n hb hx) (I.base.free b o e n hx)
 ·obtain⟨sl,e1⟩:=I.base.slot b o e n hb hx;obtain⟨sl',e2⟩:=slot b _ (neL b o e) hb (neC b o e hx) e1 (I.base.free b o e n hx);exact⟨sl',e2⟩
 ·obtain⟨o',e1⟩:=I.base.there b o e hx;exact free b o' (neC b o e hx) e1 (I.base.free b o e n hx)
 ·obtain⟨o',e1⟩:=I.base.there b o e hx;exact there b o' (neC b o e hx) e1
 ·obtain⟨m1,e1⟩:=I.base.tbls b ps e;obtain⟨m2,e2⟩:=tbls b _ e1;exact⟨m1++m2,by rw[e2,Array.append_assoc]⟩
 ·obtain⟨m,hn,hl⟩:=I.loc;refine⟨m,ns m hn,fun i x v e1 e2 e3=>?_⟩;obtain⟨u,r,l⟩:=hl i x v e1 e2 e3;refine⟨u,r,?_⟩;rcases l with l|⟨k,c,e,z⟩
  ·exact .inl l
  ·exact .inr ⟨k,c,e,cellK x c e _ z⟩
 ·obtain⟨v,z⟩:=I.cell x c e;exact⟨v,cellK x c e v z⟩
 ·obtain⟨m,⟨o,_,_,ho,_⟩,_⟩:=I.loc;exact free _ o (fun z=>(hch _ z).2.1 rfl) ho I.free
 ·obtain⟨v,o,ho,hd⟩:=I.cell x c e;exact free c o (fun z=>(hch c z).2.2.1 x c e rfl) ho (I.freeC x c e)
 ·obtain⟨e,n,ne,nf,d⟩:=I.pin p hp;have nch:p.1∉ch:=fun z=>(hch p.1 z).2.2.2 p hp rfl
  exact⟨keep p.1 p.2 ne nf nch e n,free p.1 p.2 nch e n,ne,nf,d⟩
def Inv.un {t':Nat}(I:Inv X Z9 U H s)(u:Un X.fs [] H H' s.heap h')(hok:ZF X.prog X.w H' h'):Inv X Z9 U H' { s with heap:=h',toks:=t' }:=by
 obtain⟨m,⟨o,es,ep,ho,r⟩,_⟩:=id I.loc;obtain⟨sl,hL⟩:=u.any ho I.free (by simp)
 exact I.step (g':=s.gens) (d':=s.drawn) (ch:=[]) (fun _ z=>nomatch z) (fun b o _ hb _ e n=>u.keep b o e n hb (by simp)) (fun b o _ hb _ e n=>u.slot b o e n hb (by simp)) (fun b o _ e n=>u.free b o e n (by simp)) (fun b o _ e=>u.there b o e (by simp)) u.tups u.frzs u.tbls (fun m' hm=>by obtain⟨o',es',ep',ho',r'⟩:=hm;rw[ho]at ho';cases ho';exact⟨_,es',ep',hL,r'⟩) hok I.bare
def Inv.call {t':Nat}{d':Drawn}(I:Inv X Z9 U H s)(u:Un (frs X.stack) ch H H' s.heap h')(hok:ZF X.prog X.w H' h')(hg:AllBare g')(hch:∀ b∈ch,(b∈X.ex\/X.s₀.heap.objs.size<=b)/\b≠X.env.locals/\(∀ x c,X.env.cells.lookup x=some c->c≠b)/\∀ p∈X.pn++Z9,p.1≠b) :
  Inv X Z9 U H' { s with heap:=h',gens:=g',drawn:=d',toks:=t' }:=by
 obtain⟨m,⟨o,es,ep,ho,r⟩,_⟩:=id I.loc;obtain⟨sl,hL⟩:=u.any ho I.free fun z=>(hch _ z).2.1 rfl
 exact I.step (ch:=ch) hch (fun b o hL hb hc e n=>u.keep b o e n (fun z=>(ql.mp (I.stkSub b z)).elim hL hb) hc) (fun b o _ _ hc e n=>u.any e n hc) (fun b o hc e n=>u.free b o e n hc) (fun b o hc e=>u.there b o e hc) u.tups u.frzs u.tbls (fun m' hm=>by obtain⟨o',es',ep',ho',r'⟩:=hm;rw[ho]at ho';cases ho';exact⟨_,es',ep',hL,r'⟩) hok hg
def Inv.turned {t':Nat}{it:Addr}(I:Inv X Z9 U H s)(k:∀ b o,b≠it->s.heap.get? b=some o->h'.get? b=some o)(hn:H it=none)(hL:it≠X.env.locals)
  (h1:it∈X.ex\/X.s₀.heap.objs.size<=it) (h2:∀ x c,X.env.cells.lookup x=some c->c≠it) (h3:∀ p∈X.pn++Z9,p.1≠it):Inv X Z9 U H { s with heap:=h',toks:=t' }:=by
 have nit:∀ b u,H b=some u->b≠it:=fun b u e z=>by rw[z,hn]at e;cases e
 refine I.step (g':=s.gens) (d':=s.drawn) (ch:=[it]) (fun b hb=>?_) (fun b o _ _ hc e _=>k b o (fun z=>hc (by simp[z])) e) (fun b o _ _ hc e _=>⟨o.slots,k b o (fun z=>hc (by simp[z])) e⟩) (fun _ _ _ _ n=>n)
  (fun b o hc e=>⟨o,k b o (fun z=>hc (by simp[z])) e⟩) (fun _ _ e=>e) (fun _ _ _ e=>e) (fun b ps e=>⟨#[],by rw[e];simp⟩) (fun m hm=>?_) (fun b u e=>?_) I.bare
 ·have e:b=it:=by simpa using hb
  subst e;exact⟨h1,hL,h2,h3⟩
 ·obtain⟨o,es,ep,ho,r⟩:=hm;exact⟨o,es,ep,k _ o (Ne.symm hL) ho,r⟩
 ·refine(I.hok b u e).stay (fun c v hc q=>k c v ?_ q) (fun _ q=>q) fun _ _ q=>q
  rcases hc with z|z
  ·rw[z];exact nit b u e
  ·exact nit c _ z
def Inv.tok (I:Inv X Z9 U H s)(t:Nat):Inv X Z9 U H { s with toks:=t }:=I.un (h':=s.heap) (t':=t) Un.refl I.hok
theorem Inv.kept {t':Nat}(I:Inv X Z9 U H s)(k:∀ b u,s.heap.get? b=some u->h'.get? b=some u):Inv X Z9 U H { s with heap:=h',toks:=t' }:=I.un (Un.kept k) (I.hok.kept k)
theorem Inv.laid {a:Addr}{o:HO}{t':Nat}(I:Inv X Z9 U H s)(k:∀ b u,s.heap.get? b=some u->h'.get? b=some u)(hp:s.heap.objs.size<=a)(new:zZ X.prog X.w (upd H a o) h' a o) :
  Inv X Z9 U (upd H a o) { s with heap:=h',toks:=t' }:=I.un (Un.laid k hp (I.hok.fresh hp)) (I.hok.laid k hp new)
theorem Inv.write {x e:Addr}{o:HO}{t':Nat}(I:Inv X Z9 U H s)(mu:Nz (H x))(he:e=x\/H e=some (.own x))(k:∀ b u,b≠e->s.heap.get? b=some u->h'.get? b=some u)(heo:∃ u,h'.get? e=some u)
  (new:zZ X.prog X.w (upd H x o) h' x o):Inv X Z9 U (upd H x o) { s with heap:=h',toks:=t' }:=I.un (Un.write mu he k heo) (I.hok.write mu he k heo new)
def Inv.weak {σ':List (Option V)}(I:Inv X Z9 U H s)(hl:σ'.length=U.length)(w:∀ (i:Nat) v,σ'[i]?=some (some v)->U[i]?=some (some v)):Inv X Z9 σ' H s :=⟨I.ok,I.os,I.bare,I.base,by obtain⟨m,hn,hl'⟩:=I.loc;exact⟨m,hn,fun i x v e1 e2 e3=>hl' i x v e1 (w i v e2) e3⟩,I.cell,I.free,I.freeC,I.pin,I.hok,hl.trans I.len⟩
def Inv.pins_of {pins':List (Addr×Obj)}(I:Inv X Z9 U H s)(h:∀ p∈pins',s.heap.get? p.1=some p.2/\H p.1=none/\p.1≠X.env.locals/\p.1∉X.fs/\∀ v,p.2.data≠.cell v):Inv X pins' U H s :=⟨I.ok,I.os,I.bare,I.base,I.loc,I.cell,I.free,I.freeC,fun p hp=>(qC.mp hp).elim (fun z=>I.pin p (qT _ z)) (h p),I.hok,I.len⟩
def Gn {N:List Str}(hN:N.Nodup){i j:Nat}{x:Str}(a:N[i]?=some x)(b:N[j]?=some x):i=j:=by obtain⟨h1,e1⟩:=Ua.mp a;obtain⟨h2,e2⟩:=Ua.mp b;exact(Ly hN).mp (e1.trans e2.symm)
def yP {M:Model}{A:Around}{E:Value->Shared->Prop}{i:Nat}{x:Str}{Q:Unit->Shared->Prop}(I:Inv X Z9 U H s)(hN:X.N.Nodup)(hi:X.N[i]?=some x)(hx:Loc X.env.scope x)(r:RelV v u)(h:∀ s',Inv X Z9 (U.set i (some v)) H s'->(∃ a,Heap.SameBut a s.heap s'.heap/\(a=X.env.locals\/X.env.cells.lookup x=some a))->Q () s')(hf:autoParam (X.fn x=true\/X.env.scope.names.lookup x=some .local) RJ):wpAny M A (storeName X.env x u) Q E s:=by
 obtain⟨m,hn,hl⟩:=id I.loc;have hcls:(X.env.scope.kind==.class||(X.env.scope.kind==.module&&X.env.locals != X.env.globals))=false:=by rw[I.ok.kind];rfl
 have hiσ:i<U.length:=by rw[I.len];exact(Ua.mp hi).1
 have cne:=I.cne
 have tracked:∀ {a:Addr} {h':Heap},(∃ o,s.heap.get? a=some o/\H a=none)->Heap.SameBut a s.heap h'->ZF X.prog X.w H h':=fun {a h'} ha hs b ob e=>by
  obtain⟨_,_,hfree⟩:=ha;refine(I.hok b ob e).stay (fun c w' hc q=>(hs.2 c ?_).trans q) (fun _ q=>q) fun _ _ q=>q
  rintro rfl;rcases hc with rfl|hc
  ·rw[hfree]at e;cases e
  ·rw[hfree]at hc;cases hc
 rcases hx with hk|hk
 ·refine wpAny_storeName_local hk hn (fun h' hn' hs=>?_) hcls;obtain⟨oL,_,_,hoL,_⟩:=id hn;refine h _ ⟨I.ok,I.os,I.bare,⟨fun b o e n hb hx=>?_,fun b o e n hb hx=>?_,I.base.free,fun b o e hx=>?_,I.base.tups,I.base.frzs,I.base.tbls⟩,⟨_,hn',fun j y v' e1 e2 e3=>?_⟩,fun y c e=>?_,I.free,I.freeC,fun p hp=>?_,tracked ⟨oL,hoL,I.free⟩ hs,by simpa using I.len⟩ ⟨_,hs,.inl rfl⟩
  ·exact(hs.2 b (qU (qF (qv e) I.ok.above))).trans (I.base.keep b o e n hb hx)
  ·obtain⟨sl,e1⟩:=I.base.slot b o e n hb hx;exact⟨sl,(hs.2 b (qU (qF (qv e) I.ok.above))).trans e1⟩
  ·obtain⟨o',e1⟩:=I.base.there b o e hx;exact⟨o',(hs.2 b (qU (qF (qv e) I.ok.above))).trans e1⟩
  ·by_cases hj:j=i
   ·subst hj;rw[hi]at e1;cases e1;rw[qW hiσ]at e2;cases e2;exact⟨u,r,.inl ⟨hk,by simp⟩⟩
   ·rw[qN (Ne.symm hj)]at e2;obtain⟨u',r',q⟩:=hl j y v' e1 e2 e3;refine⟨u',r',?_⟩;rcases q with⟨k,e⟩|⟨k,c,e,z⟩
    ·refine .inl ⟨k,?_⟩;have:y≠x:=fun e=>hj (Gn hN e1 (e▸hi))
     simp[this,e]
    ·exact .inr ⟨k,c,e,z.sameBut hs (cne y c e)⟩
  ·obtain⟨w',z⟩:=I.cell y c e;exact⟨w',z.sameBut hs (cne y c e)⟩
  ·obtain⟨e,n,ne,nf,d⟩:=I.pin p hp;exact⟨(hs.2 p.1 ne).trans e,n,ne,nf,d⟩
 ·have hfn:X.fn x=true:=by
   rcases hf with z|z
   ·exact z
   ·rw[z]at hk;cases hk
  obtain⟨c,hc⟩:=I.ok.has x (.inl hk);obtain⟨w',z⟩:=I.cell x c hc;refine wpAny_storeName_cell I.ok.kind hk hc z (fun h' hc' hs=>?_);obtain⟨oc,hoc,hocd⟩:=id z;refine h { s with heap:=h' } ⟨I.ok,I.os,I.bare,⟨fun b o e n hb hx=>?_,fun b o e n hb hx=>?_,I.base.free,fun b o e hx=>?_,I.base.tups,I.base.frzs,I.base.tbls⟩,⟨m,hn.sameBut hs (Ne.symm (cne x c hc)),fun j y v' e1 e2 e3=>?_⟩,fun y c' e=>?_,I.free,I.freeC,fun p hp=>?_,tracked ⟨oc,hoc,I.freeC x c hc⟩ hs,by simpa using I.len⟩ ⟨c,hs,.inr hc⟩
  ·exact(hs.2 b (qU (qF (qv e) (I.ok.cab x c hfn hc)))).trans (I.base.keep b o e n hb hx)
  ·obtain⟨sl,e1⟩:=I.base.slot b o e n hb hx;exact⟨sl,(hs.2 b (qU (qF (qv e) (I.ok.cab x c hfn hc)))).trans e1⟩
  ·obtain⟨o',e1⟩:=I.base.there b o e hx;exact⟨o',(hs.2 b (qU (qF (qv e) (I.ok.cab x c hfn hc)))).trans e1⟩
  ·by_cases hj:j=i
   ·subst hj;rw[hi]at e1;cases e1;rw[qW hiσ]at e2;cases e2;exact⟨u,r,.inr ⟨.inl hk,c,hc,hc'⟩⟩
   ·rw[qN (Ne.symm hj)]at e2;obtain⟨u',r',q⟩:=hl j y v' e1 e2 e3;refine⟨u',r',?_⟩;rcases q with q|⟨k,c',e,z'⟩
    ·exact .inl q
    ·refine .inr ⟨k,c',e,z'.sameBut hs ?_⟩;rintro rfl;exact hj (Gn hN e1 (I.ok.inj _ _ _ e hc▸hi))
  ·by_cases hcc:c'=c
   ·subst hcc;exact⟨_,hc'⟩
   ·obtain⟨w2,z2⟩:=I.cell y c' e;exact⟨w2,z2.sameBut hs hcc⟩
  ·obtain⟨e,n,ne,nf,d⟩:=I.pin p hp;refine⟨(hs.2 p.1 ?_).trans e,n,ne,nf,d⟩;intro q;rw[q,hoc]at e;have q':oc=p.2:=qH e;exact d w' (by rw[<- q'];exact hocd)
def Jb {M:Model}{A:Around}{E:Value->Shared->Prop}{i:Nat}{x:Str}{Q:Unit->Shared->Prop}(I:Inv X Z9 U H s)(hN:X.N.Nodup)(hi:X.N[i]?=some x)(hx:Loc X.env.scope x)(r:RelV v u)(h:∀ s',Inv X Z9 (U.set i (some v)) H s'->Q () s')(hf:autoParam (X.fn x=true\/X.env.scope.names.lookup x=some .local) RJ):wpAny M A (storeName X.env x u) Q E s :=yP I hN hi hx r (fun s' I' _=>h s' I') hf
def Inv.call' {s':Shared}(I:Inv X Z9 U H s)(ho:s'.os=s.os)(u:Un (frs X.stack) ch H H' s.heap s'.heap)(hok:ZF X.prog X.w H' s'.heap)(hg:AllBare s'.gens)(hch:∀ b∈ch,(b∈X.ex\/X.s₀.heap.objs.size<=b)/\b≠X.env.locals/\(∀ x c,X.env.cells.lookup x=some c->c≠b)/\∀ p∈X.pn++Z9,p.1≠b):Inv X Z9 U H' s':=by obtain⟨h',g',d',t',o'⟩:=s';have e:o'=s.os:=ho;subst e;exact I.call (g':=g') (t':=t') (d':=d') u hok hg hch
end
abbrev XK:=Value->Option Addr->Hp->Prop
abbrev St:=List (Option V)
abbrev VK:=V->Hp->Prop
abbrev TE:=St->Hp->VK->Prop
abbrev TT:=St->Hp->(Bool->Hp->Prop)->Prop
abbrev TA:=St->Hp->(List V->Hp->Prop)->Prop
structure Ends where
 nx:St->Hp->Prop
 rt:VK
 bk:St->Hp->Prop:=fun _ _=>False
 ct:St->Hp->Prop:=fun _ _=>False
abbrev TS:=Ends->St->Hp->Prop
def EP (X:Cx)(Z9:List (Addr×Obj))(U:St)(Q:VK)(u:Value)(s':Shared):Prop:=∃ v H',Inv X Z9 U H' s'/\RelV v u/\Q v H'
def TP (X:Cx)(Z9:List (Addr×Obj))(U:St)(Q:Bool->Hp->Prop)(b:Bool)(s':Shared):Prop:=∃ H',Inv X Z9 U H' s'/\Q b H'
def AP (X:Cx)(Z9:List (Addr×Obj))(U:St)(Q:List V->Hp->Prop)(us:List Value)(s':Shared):Prop:=∃ vs H',Inv X Z9 U H' s'/\Vals vs us/\Q vs H'
def SP (X:Cx)(Z9:List (Addr×Obj))(D:Ends)(f:Flow)(s':Shared):Prop :=
 match f with
 |.next=>∃ σ' H',Inv X Z9 σ' H' s'/\D.nx σ' H'
 |.brk=>∃ σ' H',Inv X Z9 σ' H' s'/\D.bk σ' H'
 |.cont=>∃ σ' H',Inv X Z9 σ' H' s'/\D.ct σ' H'
 |.ret u=>∃ v σ' H',Inv X Z9 σ' H' s'/\RelV v u/\D.rt v H'
def PE (X:Cx)(e:Expr)(t:TE):Prop :=∀ (Z9:List (Addr×Obj)) (s:Shared) (U:St) (H:Hp) (Q:VK),Inv X Z9 U H s->t U H Q->wpAny (model X.prog X.w) X.A (eval e X.env) (EP X Z9 U Q) X.xe s
def PT (X:Cx)(e:Expr)(t:TT):Prop :=∀ (Z9:List (Addr×Obj)) (s:Shared) (U:St) (H:Hp) (Q:Bool->Hp->Prop),Inv X Z9 U H s->t U H Q->wpAny (model X.prog X.w) X.A (isTrue e X.env (eval e X.env)) (TP X Z9 U Q) X.xe s
def PW (X:Cx)(e:Expr)(t:TT):Prop :=∀ (whole:Sem Value) (Z9:List (Addr×Obj)) (s:Shared) (U:St) (H:Hp) (Q:Bool->Hp->Prop),Inv X Z9 U H s->t U H Q->wpAny (model X.prog X.w) X.A (isTrue e X.env whole) (TP X Z9 U Q) X.xe s
def PA (X:Cx)(es:List Expr)(t:TA):Prop :=∀ (pos:Pos) (Z9:List (Addr×Obj)) (s:Shared) (U:St) (H:Hp) (Q:List V->Hp->Prop),Inv X Z9 U H s->t U H Q->wpAny (model X.prog X.w) X.A (spliced (backTo pos (starEach es X.env))) (AP X Z9 U Q) X.xe s
def PS (X:Cx)(st:Stmt)(t:TS):Prop :=∀ (Z9:List (Addr×Obj)) (s:Shared) (U:St) (H:Hp) (D:Ends),Inv X Z9 U H s->t D U H->wpAny (model X.prog X.w) X.A (exec st X.env) (SP X Z9 D) X.xe s
def XH (X:Cx)(st:List Stmt)(t:TS):Prop :=∀ (Z9:List (Addr×Obj)) (s:Shared) (U:St) (H:Hp) (D:Ends),Inv X Z9 U H s->t D U H->wpAny (model X.prog X.w) X.A (execs st X.env) (SP X Z9 D) X.xe s
def Z2 {α:Type}{t:Sem α}{Q Q':α->Shared->Prop}{M:Model}{A:Around}{E:Value->Shared->Prop}{s:Shared}(h:wpAny M A t Q E s)(hQ:∀ a s,Q a s->Q' a s):wpAny M A t Q' E s:=wpAny_mono h hQ fun _ _ x=>x
section
variable {X:Cx}
def uJ (i:Nat):TE:=fun U H Q=>∃ v,U[i]?=some (some v)/\Q v H
def tC (v:V):TE:=fun _ H Q=>Q v H
def cU {i:Nat}{x:Str}{pos:Pos}(hN:X.N[i]?=some x)(hv:Vis X.env.scope x)(hd:autoParam ((x==("__debug__":Str))=false) zO)(hcd:autoParam ((x==("__classdict__":Str))=false) zO):PE X (.Name x pos) (uJ i):=by
 intro Z9 s U H Q I h;obtain⟨v,e,h⟩:=h;obtain⟨m,hn,hl⟩:=I.loc;obtain⟨u,r,l⟩:=hl i x v hN e hv;have fin:EP X Z9 U Q u s:=⟨v,H,I,r,h⟩
 rcases l with⟨hk,hm⟩|⟨hk,c,hc,hcell⟩
 ·exact wpAny_Name (wpAny_loadName_local I.ok.kind hk hn hm fin) hd
 ·rcases hk with hk|hk
  ·exact wpAny_Name (wpAny_loadName_cell I.ok.kind hk hc hcell fin) hd
  ·exact wpAny_Name (wpAny_loadName_free I.ok.kind hk hc hcell fin hcd) hd
def Ea {i j pos}:PE X (.Constant (.int i) j pos) (tC (.int i)):=fun _ _ _ H _ I h=>wpAny_Constant_int ⟨.int i,H,I.tok _,⟨_,rfl⟩,h⟩
def zwI {b j pos}:PE X (.Constant (.bool b) j pos) (tC (.bl b)):=fun _ _ _ H _ I h=>Constant_bool ⟨.bl b,H,I,rfl,h⟩
def Ű {j pos}:PE X (.Constant .none j pos) (tC .non):=fun _ _ _ H _ I h=>Constant_none ⟨.non,H,I,rfl,h⟩
def gZ {x j pos}:PE X (.Constant (.str x) j pos) (tC (.str x)):=fun _ _ _ H _ I h=>Calls.Constant_str ⟨.str x,H,I.tok _,⟨_,rfl⟩,h⟩
def Gl (X:Cx)(x:Str):Prop:=X.env.kindOf x=some .globalImplicit
def Tn {E:Value->Shared->Prop}{u:Value}{pos:Pos}{Q:Value->Shared->Prop}(I:Inv X Z9 U H s)(hg:Gl X x)(hm:X.mg x=some u)(h:Q u s)(hd:autoParam ((x==("__debug__":Str))=false) zO):wpAny (model X.prog X.w) X.A (eval (.Name x pos) X.env) Q E s :=Calls.Name_function_global I.ok.kind hg (Calls.loadGlobal_global (by rw[I.ok.glob];exact I.mod.glob.keeps I.bk) hm h) hd
def VR {E:Value->Shared->Prop}{u:Value}{pos:Pos}{Q:Value->Shared->Prop}(I:Inv X Z9 U H s)(hg:Gl X x)(hm:X.mg x=none)(hv:bootBuiltins x=some u)(h:Q u s)(hn:autoParam (x≠"__name__") zO)(hd:autoParam ((x==("__debug__":Str))=false) zO):wpAny (model X.prog X.w) X.A (eval (.Name x pos) X.env) Q E s:=by obtain⟨mb,h1,h2⟩:=I.mod.blt;exact Calls.Name_function_global I.ok.kind hg (Calls.loadGlobal_builtin (by rw[I.ok.glob];exact I.mod.glob.keeps I.bk) hm (by rw[I.ok.blt];exact h1.keeps I.bk) ((h2 x hn).trans hv) h) hd
def u5 {u:Value}{pos:Pos}(hg:Gl X x)(hm:X.mg x=some u)(r:RelV v u)(hd:autoParam ((x==("__debug__":Str))=false) zO):PE X (.Name x pos) (tC v) :=fun _ _ _ H _ I h=>Tn I hg hm ⟨v,H,I,r,h⟩ hd
def mC {u:Value}{pos:Pos}(hg:Gl X x)(hm:X.mg x=none)(hv:bootBuiltins x=some u)(r:RelV v u)(hn:autoParam (x≠"__name__") zO)(hd:autoParam ((x==("__debug__":Str))=false) zO):PE X (.Name x pos) (tC v) :=fun _ _ _ H _ I h=>VR I hg hm hv ⟨v,H,I,r,h⟩ hn hd
variable {a b:Expr}{ta tb:TE}{pos:Pos}
def PC (X:Cx)(op:CmpOp)(a b:Expr)(t:TE):Prop :=
 ∀ (Z9:List (Addr×Obj)) (s:Shared) (U:St) (H:Hp) (Q:VK),Inv X Z9 U H s->t U H Q ->
  wpAny (model X.prog X.w) X.A (eval a X.env) (fun v s₁=>wpAny (model X.prog X.w) X.A (eval b X.env) (fun u s₂=>wpAny (model X.prog X.w) X.A (compareOp op v u) (EP X Z9 U Q) X.xe s₂) X.xe s₁) X.xe s
def tB (t:TE):TT:=fun U H Q=>t U H fun x H1=>∃ c,x=.bl c/\Q c H1
def rN {t:TE}(h:PC X op a b t)(h1:autoParam (behindInMarks op b=false) pC):PE X (.Compare a [op] [b] pos) t:=fun Z9 s U H Q I hw=>wpAny_Compare1 (h Z9 s U H Q I hw) h1
def wC {t:TE}(h:PC X op a b t)(h1:autoParam (behindInMarks op b=false) pC):PT X (.Compare a [op] [b] pos) (tB t):=by intro Z9 s U H Q I hw;refine wpAny_isTrue_Compare1 (Z2 (h Z9 s U H _ I hw) fun v s1 h1=>Z2 h1 fun u s2 h2=>Z2 h2 fun c s3 ⟨x,H1,I1,r1,q1⟩=>?_) h1;obtain⟨d,rfl,q⟩:=q1;cases r1;exact wpAny_truthy_bool ⟨H1,I1,q⟩
def Ł {e:Expr}{t:TE}(h:PE X e t)(he:autoParam (∀ whole,isTrue e X.env whole=(do let v <- whole;standAt e.pos;holding [v] (truthy v))) Qa):PT X e (tB t):=by intro Z9 s U H Q I hw;refine isTrue_plain (Z2 (h Z9 s U H _ I hw) fun v s1 ⟨x,H1,I1,r1,q1⟩=>?_) (he _);obtain⟨d,rfl,q⟩:=q1;cases r1;exact wpAny_truthy_bool ⟨H1,I1,q⟩
variable {tA tB':TT}{rest:List Expr}
def zzc (t u:TT):TT:=fun U H Q=>t U H fun c H1=>if c=true then u U H1 Q else Q false H1
def tOr (t u:TT):TT:=fun U H Q=>t U H fun c H1=>if c=true then Q true H1 else u U H1 Q
def zyG (t:TT):TT:=fun U H Q=>t U H fun c H1=>Q (!c) H1
def Ŵ (ha:PT X a tA):PW X (.BoolOp .And [a] pos) tA:=by
 intro wh Z9 s U H Q I h;refine isTrue_and (Z2 (ha Z9 s U H Q I h) fun c s1 e=>?_);cases c with
 |true=>exact isTrue_and_nil e
 |false=>exact e
def ztM (ha:PT X a tA):PW X (.BoolOp .Or [a] pos) tA:=by
 intro wh Z9 s U H Q I h;refine isTrue_or (Z2 (ha Z9 s U H Q I h) fun c s1 e=>?_);cases c with
 |false=>exact isTrue_or_nil e
 |true=>exact e
def ji (ha:PT X a tA)(hb:PW X (.BoolOp .And (b::rest) pos) tB'):PW X (.BoolOp .And (a::b::rest) pos) (zzc tA tB'):=by
 intro wh Z9 s U H Q I h;refine isTrue_and (Z2 (ha Z9 s U H _ I h) fun c s1 ⟨H1,I1,q1⟩=>?_);cases c with
 |true=>exact hb wh Z9 s1 U H1 Q I1 q1
 |false=>exact⟨H1,I1,q1⟩
def zwX (ha:PT X a tA)(hb:PW X (.BoolOp .Or (b::rest) pos) tB'):PW X (.BoolOp .Or (a::b::rest) pos) (tOr tA tB'):=by
 intro wh Z9 s U H Q I h;refine isTrue_or (Z2 (ha Z9 s U H _ I h) fun c s1 ⟨H1,I1,q1⟩=>?_);cases c with
 |true=>exact⟨H1,I1,q1⟩
 |false=>exact hb wh Z9 s1 U H1 Q I1 q1
def ztf (ha:PT X a tA):PT X (.UnaryOp .Not a pos) (zyG tA):=by intro Z9 s U H Q I h;exact isTrue_not (ha Z9 s U H (fun c H1=>Q (!c) H1) I h)
def j9 (ta tb:TE):TE:=fun U H Q=>ta U H fun x H1=>∃ c,x=.bl c/\if c=true then tb U H1 Q else Q (.bl false) H1
def Æ (ta tb:TE):TE:=fun U H Q=>ta U H fun x H1=>∃ c,x=.bl c/\if c=true then Q (.bl true) H1 else tb U H1 Q
def zxF (ta:TE):TE:=fun U H Q=>ta U H fun x H1=>∃ c,x=.bl c/\Q (.bl (!c)) H1
def ŧ {op}{t:TE}(h:PE X a t):PE X (.BoolOp op [a] pos) t:=fun Z9 s U H Q I hw=>BoolOp_one (h Z9 s U H Q I hw)
def zt5 (ha:PE X a ta)(hb:PE X (.BoolOp .And (b::rest) pos) tb):PE X (.BoolOp .And (a::b::rest) pos) (j9 ta tb):=by
 intro Z9 s U H Q I h;refine BoolOp_and (Z2 (ha Z9 s U H _ I h) fun v s1 ⟨x,H1,I1,r1,q1⟩=>?_);obtain⟨c,rfl,q1⟩:=q1;cases r1;refine wpAny_truthy_bool ?_;cases c with
 |true=>exact hb Z9 s1 U H1 Q I1 q1
 |false=>exact⟨.bl false,H1,I1,rfl,q1⟩
def ť (ha:PE X a ta)(hb:PE X (.BoolOp .Or (b::rest) pos) tb):PE X (.BoolOp .Or (a::b::rest) pos) (Æ ta tb):=by
 intro Z9 s U H Q I h;refine BoolOp_or (Z2 (ha Z9 s U H _ I h) fun v s1 ⟨x,H1,I1,r1,q1⟩=>?_);obtain⟨c,rfl,q1⟩:=q1;cases r1;refine wpAny_truthy_bool ?_;cases c with
 |false=>exact hb Z9 s1 U H1 Q I1 q1
 |true=>exact⟨.bl true,H1,I1,rfl,q1⟩
def İ (ha:PE X a ta):PE X (.UnaryOp .Not a pos) (zxF ta):=by intro Z9 s U H Q I h;refine UnaryOp_ (Z2 (ha Z9 s U H _ I h) fun v s1 ⟨x,H1,I1,r1,q1⟩=>?_);obtain⟨c,rfl,q1⟩:=q1;cases r1;exact not_of (wpAny_truthy_bool ⟨.bl (!c),H1,I1,rfl,q1⟩)
def tIf (t:TT)(ta tb:TE):TE:=fun U H Q=>t U H fun c H1=>if c=true then ta U H1 Q else tb U H1 Q
def ė (hc:PT X c tA)(ha:PE X a ta)(hb:PE X b tb):PE X (.IfExp c a b pos) (tIf tA ta tb):=by
 intro Z9 s U H Q I h;refine wpAny_IfExp (Z2 (hc Z9 s U H _ I h) fun d s1 ⟨H1,I1,q1⟩=>?_);cases d with
 |true=>exact ha Z9 s1 U H1 Q I1 q1
 |false=>exact hb Z9 s1 U H1 Q I1 q1
end
def Zz (K:PySem.W.Frag)(H:Hp)(a:Addr)(xs:List V):Prop :=
 Rd H a (.lst xs) \/
  ∃ (o:Obj) (its:Array Value) (n:Nat),K.lookup a=some o/\o.cls=.type "list"/\o.dict=none/\o.data=.seq its n/\its.size<=sizeLine/\Vals xs its.toList
def ZG (K:PySem.W.Frag)(H:Hp)(a:Addr)(xs:List V):Prop :=
 Rd H a (.tup xs) \/
  ∃ (o:Obj) (its:Array Value) (n:Nat),K.lookup a=some o/\o.cls=.type "tuple"/\o.data=.seq its n/\its.size<=sizeLine/\Vals xs its.toList
def zy0:Value->Option V
 |.none=>some .non
 |.bool b=>some (.bl b)
 |.int i _=>some (.int i)
 |.str x _=>some (.str x)
 |.bytes b _=>some (.byt b)
 |.float b _=>some (.flt b)
 |.ref a=>some (.ref a)
 |.type n=>some (.ty n)
 |_=>none
def RelV.abs (r:RelV x u):zy0 u=some x:=by
 cases x with
 |non=>cases r;rfl
 |bl _=>cases r;rfl
 |int _=>obtain⟨t,rfl⟩:=r;rfl
 |str _=>obtain⟨t,rfl⟩:=r;rfl
 |byt _=>obtain⟨t,rfl⟩:=r;rfl
 |flt _=>obtain⟨t,rfl⟩:=r;rfl
 |ref _=>cases r;rfl
 |ty _=>cases r;rfl
def RelV.inj (r:RelV x u)(q:RelV y u):x=y:=qH (r.abs.symm.trans q.abs)
theorem Vals.inj:∀ {xs ys:List V} {us:List Value},Vals xs us->Vals ys us->xs=ys
 |_,_,_,.nil,.nil=>rfl
 |_,_,_,.cons r t,.cons r' t'=>by rw[r.inj r',Vals.inj t t']
section
variable {X:Cx}{Z9:List (Addr×Obj)}{U:St}{H:Hp}{s:Shared}{a:Addr}{xs ys:List V}
def Zz.of {K:PySem.W.Frag}(h:H a=some (.lst xs)):Zz K H a xs:=.inl (.inl h)
def ZG.of {K:PySem.W.Frag}(h:H a=some (.tup xs)):ZG K H a xs:=.inl (.inl h)
def Inv.list (I:Inv X Z9 U H s)(h:Zz X.K H a xs):∃ its:List Value,Vals xs its/\PlainL s.heap a its.toArray/\xs.length<=sizeLine:=by
 rcases h with h|⟨o,its,n,hk,hc,hd,hs,hz,r⟩
 ·obtain⟨z,its,n,r,e⟩:=h.ok I.hok;exact⟨its,r,⟨_,n,e,rfl,rfl,rfl⟩,z⟩
 ·refine⟨its.toList,r,⟨o,n,I.kIn a o hk,hc,hd,by simpa using hs⟩,?_⟩;have e:=r.length;simp only[U6]at e;lia
def Inv.tuple (I:Inv X Z9 U H s)(h:ZG X.K H a xs):∃ its:List Value,Vals xs its/\IsTup s.heap a its.toArray/\xs.length<=sizeLine:=by
 rcases h with h|⟨o,its,n,hk,hc,hs,hz,r⟩
 ·obtain⟨z,its,r,p⟩:=h.ok I.hok;exact⟨its,r,p,z⟩
 ·refine⟨its.toList,r,⟨o,I.kIn a o hk,hc,n,by simpa using hs⟩,?_⟩;have e:=r.length;simp only[U6]at e;lia
def Inv.list_inj (I:Inv X Z9 U H s)(h:Zz X.K H a xs)(h':Zz X.K H a ys):xs=ys:=by
 obtain⟨its,r,⟨o,n,e,_,_,d⟩,_⟩:=I.list h;obtain⟨its',r',⟨o',n',e',_,_,d'⟩,_⟩:=I.list h';rw[e]at e';cases e';rw[d]at d';injection d' with d1 _;have:its=its':=by simpa using congrArg Array.toList d1
 subst this;exact r.inj r'
def Inv.tuple_inj (I:Inv X Z9 U H s)(h:ZG X.K H a xs)(h':ZG X.K H a ys):xs=ys:=by
 obtain⟨its,r,⟨o,e,_,n,d⟩,_⟩:=I.tuple h;obtain⟨its',r',⟨o',e',_,n',d'⟩,_⟩:=I.tuple h';rw[e]at e';cases e';rw[d]at d';injection d' with d1 _;have:its=its':=by simpa using congrArg Array.toList d1
 subst this;exact r.inj r'
end
abbrev Cx.wish (X:Cx)(E:Value->Shared->Prop):Cx:={ X with xe:=E }
abbrev Cx.nox (X:Cx):Cx:=X.wish fun _ _=>False
theorem Cx.Ok.wish {X:Cx}(ok:X.Ok)(E:Value->Shared->Prop):(X.wish E).Ok :=⟨ok.mod,ok.kind,ok.glob,ok.blt,ok.above,ok.inj,ok.has,ok.cab,ok.hd,ok.frames,ok.stk,ok.exf,ok.bs,ok.bsz,ok.noex,ok.exfs,ok.funs,ok.frf⟩
def Cx.Ok.unwish {X:Cx}{E:Value->Shared->Prop}(ok:(X.wish E).Ok):X.Ok :=⟨ok.mod,ok.kind,ok.glob,ok.blt,ok.above,ok.inj,ok.has,ok.cab,ok.hd,ok.frames,ok.stk,ok.exf,ok.bs,ok.bsz,ok.noex,ok.exfs,ok.funs,ok.frf⟩
section
variable {X:Cx}{Z9:List (Addr×Obj)}{U:St}{H:Hp}{s:Shared}{E:Value->Shared->Prop}
theorem Inv.wish (I:Inv X Z9 U H s)(E:Value->Shared->Prop):Inv (X.wish E) Z9 U H s:=⟨I.ok.wish E,I.os,I.bare,I.base,I.loc,I.cell,I.free,I.freeC,I.pin,I.hok,I.len⟩
theorem Inv.unwish (I:Inv (X.wish E) Z9 U H s):Inv X Z9 U H s:=⟨I.ok.unwish,I.os,I.bare,I.base,I.loc,I.cell,I.free,I.freeC,I.pin,I.hok,I.len⟩
theorem SP.unwish {D:Ends}(h:SP (X.wish E) Z9 D f s'):SP X Z9 D f s':=by
 cases f with
 |next=>obtain⟨σ',H',I,q⟩:=h;exact⟨σ',H',I.unwish,q⟩
 |brk=>obtain⟨σ',H',I,q⟩:=h;exact⟨σ',H',I.unwish,q⟩
 |cont=>obtain⟨σ',H',I,q⟩:=h;exact⟨σ',H',I.unwish,q⟩
 |ret u=>obtain⟨v,σ',H',I,r,q⟩:=h;exact⟨v,σ',H',I.unwish,r,q⟩
theorem XH.nox {st:List Stmt}{t:TS}(h:XH X.nox st t):XH X st t:=fun Z9 s U H D I hw =>wpAny_mono (h Z9 s U H D (I.wish _) hw) (fun _ _ q=>q.unwish) fun _ _ z=>False.elim z
end
section
variable {X:Cx}{st:Stmt}{rest:List Stmt}{t u:TS}{e:Expr}{te:TE}{pos:Pos}
def pY:TS:=fun D U H=>D.nx U H
def cC (t u:TS):TS:=fun D U H=>t { D with nx:=u D } U H
def zqC:XH X [] pY:=fun _ _ U H _ I h=>wpAny_execs_nil ⟨U,H,I,h⟩
def zoq (h1:PS X st t)(h2:XH X rest u):XH X (st::rest) (cC t u):=by
 intro Z9 s U H D I h;refine wpAny_execs_cons (Z2 (h1 Z9 s U H { D with nx:=u D } I h) fun f s1 q=>?_);cases f with
 |next =>obtain⟨σ',H',I',q⟩:=q;exact h2 Z9 s1 σ' H' D I' q
 |ret v=>exact q
 |brk=>exact q
 |cont=>exact q
def bN (h1:PS X st t):XH X [st] t:=by
 intro Z9 s U H D I h;refine wpAny_execs_cons (Z2 (h1 Z9 s U H D I h) fun f s1 q=>?_);cases f with
 |next=>exact wpAny_execs_nil q
 |ret v=>exact q
 |brk=>exact q
 |cont=>exact q
def eE:TS:=fun D U H=>D.bk U H
def ň:TS:=fun D U H=>D.ct U H
def ν:PS X (.Pass pos) pY:=fun _ _ U H _ I h=>wpAny_Pass ⟨U,H,I,h⟩
def Ŏ:PS X (.Break pos) eE:=fun _ _ U H _ I h=>wpAny_Break ⟨U,H,I,h⟩
def aN:PS X (.Continue pos) ň:=fun _ _ U H _ I h=>wpAny_Continue ⟨U,H,I,h⟩
def Inv.quiet (I:Inv X Z9 U H s):interactive X.env=false:=by simp[interactive,I.ok.kind]
def lY (te:TE):TS:=fun D U H=>te U H fun _ H1=>D.nx U H1
def dw (he:PE X e te)(hs:autoParam (swapsWith e none pos.line X.env=pure false) zy):PS X (.Expr e pos) (lY te):=by intro Z9 s U H D I h;exact wpAny_Expr_any (Z2 (he Z9 s U H _ I h) fun v s1 zq1=>by obtain⟨x,H1,I1,r1,q1⟩:=zq1;exact⟨U,H1,I1,q1⟩) I.quiet hs
def zyw (te:TE):TS:=fun D U H=>te U H D.rt
def zs8 (he:PE X e te):PS X (.Return (some e) pos) (zyw te):=by intro Z9 s U H D I h;exact wpAny_Return_some (Z2 (he Z9 s U H _ I h) fun v s1 zq2=>by obtain⟨x,H1,I1,r1,q1⟩:=zq2;exact⟨x,U,H1,I1,r1,q1⟩)
def zyN (c:TT)(t u:TS):TS:=fun D U H=>c U H fun b H1=>if b=true then t D U H1 else u D U H1
def zxH (hc:PT X c tc)(ha:XH X a t)(hb:XH X b u):PS X (.If c a b pos) (zyN tc t u):=by
 intro Z9 s U H D I h;refine wpAny_If (Z2 (hc Z9 s U H _ I h) fun d s1 ⟨H1,I1,q1⟩=>?_);cases d with
 |true=>exact ha Z9 s1 U H1 D I1 q1
 |false=>exact hb Z9 s1 U H1 D I1 q1
def eO:TS:=fun _ _ _=>False
def zof:PS X st eO:=fun _ _ _ _ _ _ h=>h.elim
end
abbrev TG:=V->St->Hp->(St->Hp->Prop)->Prop
abbrev QG:=List V->St->Hp->(St->Hp->Prop)->Prop
def PG (X:Cx)(target:Expr)(t:TG):Prop :=
 ∀ (Z9:List (Addr×Obj)) (s:Shared) (U:St) (H:Hp) (v:V) (u:Value) (Q:St->Hp->Prop),Inv X Z9 U H s->RelV v u->t v U H Q ->
  wpAny (model X.prog X.w) X.A (assign target X.env u) (fun _ s'=>∃ σ' H',Inv X Z9 σ' H' s'/\Q σ' H') X.xe s
def N5 (X:Cx)(ts:List Expr)(t:QG):Prop :=
 ∀ (Z9:List (Addr×Obj)) (s:Shared) (U:St) (H:Hp) (vs:List V) (us:List Value) (Q:St->Hp->Prop),Inv X Z9 U H s->Vals vs us->t vs U H Q ->
  wpAny (model X.prog X.w) X.A (assignInOrder ((assignEach ts X.env).map (·.2)) us) (fun _ s'=>∃ σ' H',Inv X Z9 σ' H' s'/\Q σ' H') X.xe s
abbrev Em:=V->V->V->Hp->(Hp->Prop)->Prop
def uL (X:Cx)(t:Em):Prop :=
 ∀ (Z9:List (Addr×Obj)) (s:Shared) (U:St) (H:Hp) (o i v:V) (ov iv u:Value) (Q:Hp->Prop),Inv X Z9 U H s->RelV o ov->RelV i iv->RelV v u->t o i v H Q ->
  wpAny (model X.prog X.w) X.A (setItem ov iv u) (fun _ s'=>∃ H',Inv X Z9 U H' s'/\Q H') X.xe s
abbrev Bp:=V->V->Hp->VK->Prop
def uR (X:Cx)(op:Operator)(t:Bp):Prop :=
 ∀ (Z9:List (Addr×Obj)) (s:Shared) (U:St) (H:Hp) (x y:V) (v u:Value) (Q:VK),Inv X Z9 U H s->RelV x v->RelV y u->t x y H Q ->
  wpAny (model X.prog X.w) X.A (inplaceOp op v u) (EP X Z9 U Q) X.xe s
section
variable {X:Cx}{pos:Pos}
def zR (i:Nat):TG:=fun v U H Q=>Q (U.set i (some v)) H
def zqH {i:Nat}{x:Str}(hN:X.N.Nodup)(hi:X.N[i]?=some x)(hx:Loc X.env.scope x)(hf:autoParam (X.fn x=true\/X.env.scope.names.lookup x=some .local) RJ):PG X (.Name x pos) (zR i):=by intro Z9 s U H v u Q I r h;exact wpAny_assign_Name (Jb I hN hi hx r (fun s' I'=>⟨_,H,I',h⟩) hf)
def YK:QG:=fun vs U H Q=>vs=[]/\Q U H
def zN (t:TG)(u:QG):QG:=fun vs U H Q=>∃ v r,vs=v::r/\t v U H fun σ' H'=>u r σ' H' Q
def Ę:N5 X [] YK:=by intro Z9 s U H vs us Q I r h;obtain⟨e,h⟩:=h;subst e;cases r;exact assignInOrder_nil ⟨U,H,I,h⟩
def Ó {e:Expr}{t:TG}(h1:PG X e t)(h2:N5 X es u)(hs:autoParam ((assignEach (e::es) X.env).map (·.2)=assign e X.env::(assignEach es X.env).map (·.2)) zy):N5 X (e::es) (zN t u):=by
 intro Z9 s U H vs us Q I r h;obtain⟨v,vr,e1,h⟩:=h;subst e1;cases r with
 |cons r rr =>rw[hs];refine assignInOrder_cons (Z2 (h1 Z9 s U H _ _ _ I r h) fun _ s1 ⟨σ1,H1,I1,q1⟩=>?_);exact h2 Z9 s1 σ1 H1 _ _ Q I1 rr q1
def YH (K:PySem.W.Frag)(n:Nat)(t:QG):TG:=fun v U H Q=>∃ a xs,v=.ref a/\ZG K H a xs/\xs.length=n/\t xs U H Q
def zsL {k:Nat}{t:QG}{n:Nat}(hc:X.calm=true)(h:N5 X es t)(hn:autoParam ((assignEach es X.env).length=n) zy)(hst:autoParam ((assignEach es X.env).findIdx? (·.1)=none) zy):PG X (.Tuple es k pos) (YH X.K n t):=by
 intro Z9 s U H v u Q I r hw;obtain⟨a,xs,e1,hq,hl,hw⟩:=hw;subst e1;cases r;obtain⟨its,rv,ht,hz⟩:=I.tuple hq;refine assign_Tuple_tuple (I.ok.hd hc) ht (by simp[hn,<- hl,rv.length]) hst fun h' hx=>?_
 have I1:Inv X Z9 U H { s with heap:=h' }:=I.kept (t':=s.toks) fun b o e=>hx b o (qU (qv e)) e
 exact h Z9 _ U H xs _ Q I1 (by simpa using rv) hw
def Qv (to ti:TE)(t:Em):TG:=fun v U H Q=>to U H fun o H1=>ti U H1 fun i H2=>t o i v H2 fun H3=>Q U H3
def zvX {t:Em}(ho:PE X o to)(hi:PE X i ti)(hs:uL X t)(ha:∀ v,assign (.Subscript o i pos) X.env v=(do
   let ov <- holding [v] (eval o X.env);let iv <- holding [v,ov] (eval i X.env)
   standAt pos
   holding [v,ov,iv] (setItem ov iv v)
   release [v,ov,iv] []):=by intro _;rfl):PG X (.Subscript o i pos) (Qv to ti t):=by
 intro Z9 s U H v u Q I r h;rw[ha];refine wpAny_bind (wpAny_holding (Z2 (ho Z9 s U H _ I h) fun ov s1 ⟨x,H1,I1,r1,q1⟩=>?_));refine wpAny_bind (wpAny_holding (Z2 (hi Z9 s1 U H1 _ I1 q1) fun iv s2 ⟨y,H2,I2,r2,q2⟩=>?_));refine wpAny_bind (wpAny_standAt (wpAny_bind (wpAny_holding (Z2 (hs Z9 s2 U H2 x y v ov iv u _ I2 r1 r2 r q2) fun _ s3 ⟨H3,I3,q3⟩=>?_))));exact wpAny_release ⟨U,H3,I3,q3⟩
def Hl (te:TE)(g:TG):TS:=fun D U H=>te U H fun x H1=>g x U H1 D.nx
def aK {e:Expr}(he:PE X e te)(hg:PG X tg g)(hs:autoParam (swapsWithSole [tg] e pos.line X.env=pure false) zy)(hw:autoParam (swappedStores [tg] e X.env=pure none) zy)(h1:autoParam ((assignEach [tg] X.env).map (·.2)=[assign tg X.env]) zy):PS X (.Assign [tg] e pos) (Hl te g):=by intro Z9 s U H D I h;refine wpAny_Assign_stores (Z2 (he Z9 s U H _ I h) fun v s1 ⟨x,H1,I1,r1,q1⟩=>?_) hs hw;rw[h1];exact Z2 (hg Z9 s1 U H1 x v _ I1 r1 q1) fun _ s2 q=>q
def ztW {i:Nat}{x:Str}{e:Expr}{pos':Pos}(hN:X.N.Nodup)(hi:X.N[i]?=some x)(hx:Loc X.env.scope x)(he:PE X e te)(hs:autoParam (swapsWith e (some (.Name x pos')) pos.line X.env=pure false) zy)(hf:autoParam (X.fn x=true\/X.env.scope.names.lookup x=some .local) RJ) :
  PS X (.Assign [.Name x pos'] e pos) (Hl te (zR i)):=by
 intro Z9 s U H D I h;refine wpAny_Assign_Name (Z2 (he Z9 s U H _ I h) fun v s1 ⟨y,H1,I1,r1,q1⟩=>?_) hs;exact Jb I1 hN hi hx r1 (fun s2 I2=>⟨_,H1,I2,q1⟩) hf
def Ϡ (i:Nat)(te:TE)(ti:Bp):TS:=fun D U H=>∃ x,U[i]?=some (some x)/\te U H fun y H1=>ti x y H1 fun z H2=>D.nx (U.set i (some z)) H2
def Ϝ {i:Nat}{x:Str}{e:Expr}{pos':Pos}(hN:X.N.Nodup)(hi:X.N[i]?=some x)(hx:Loc X.env.scope x)(he:PE X e te)(ho:uR X op ti)(hf:autoParam (X.fn x=true\/X.env.scope.names.lookup x=some .local) RJ) :
  PS X (.AugAssign (.Name x pos') op e pos) (Ϡ i te ti):=by
 intro Z9 s U H D I h;obtain⟨v,e1,h⟩:=h;obtain⟨m,hn,hl⟩:=I.loc;have vis:Vis X.env.scope x:=by rcases hx with k|k;exact .inl k;exact .inr (.inl k)
 obtain⟨u,r,l⟩:=hl i x v hi e1 vis;refine wpAny_AugAssign_Name ?_
 have go:wpAny (model X.prog X.w) X.A (eval e X.env) (fun w s₂=>wpAny (model X.prog X.w) X.A (inplaceOp op u w) (fun r s₃=>wpAny (model X.prog X.w) X.A (storeName X.env x r) (fun _=>SP X Z9 D .next) X.xe s₃) X.xe s₂) X.xe s:=by
  refine Z2 (he Z9 s U H _ I h) fun w s1 ⟨y,H1,I1,r1,q1⟩=>?_
  refine Z2 (ho Z9 s1 U H1 v y u w _ I1 r r1 q1) fun z s2 ⟨zv,H2,I2,r2,q2⟩=>?_
  exact Jb I2 hN hi hx r2 (fun s3 I3=>⟨_,H2,I3,q2⟩) hf
 rcases l with⟨hk,hm⟩|⟨hk,c,hc,hcell⟩
 ·exact wpAny_loadName_local I.ok.kind hk hn hm go
 ·rcases hk with hk|hk
  ·exact wpAny_loadName_cell I.ok.kind hk hc hcell go
  ·rcases hx with k|k
   ·have:X.env.scope.names.lookup x=some .free:=hk;rw[k]at this;cases this
   ·have:X.env.scope.names.lookup x=some .free:=hk;rw[k]at this;cases this
def τ (f:Int->Int->Int):Bp:=fun x y H Q=>∃ i j,x=.int i/\y=.int j/\Q (.int (f i j)) H
def zvR:uR X .Add (τ fun i j=>i+j):=by intro Z9 s U H x y v u Q I r1 r2 h;obtain⟨i,j,e1,e2,q⟩:=h;subst e1;subst e2;obtain⟨t,rfl⟩:=r1;obtain⟨t',rfl⟩:=r2;exact iadd_int ⟨.int _,H,I.tok _,⟨_,rfl⟩,q⟩
end
section
variable {X:Cx}{pos:Pos}
def ħ (c:TT)(tb:TS):TS:=fun D U H=>∃ W:Nat->St->Hp->Prop,(∃ m,W m U H)/\∀ m U H,W m U H ->
 c U H fun b H1=>if b=true then ∃ N:St->Hp->Prop,(∀ σ' H',N σ' H'->∃ m',m'<m/\W m' σ' H')/\tb { D with nx:=N,ct:=N,bk:=D.nx } U H1 else D.nx U H1
def gC (hp:PassesOwn (model X.prog X.w) X.A X.env X.xe)(hc:PT X c tc)(hb:XH X body tb):PS X (.While c body [] pos) (ħ tc tb):=by
 intro Z9 s U H D I h;obtain⟨W,⟨m0,w0⟩,turn⟩:=h;refine wpAny_While (codeAny_whileLoop (fun n s'=>∃ σ' H',Inv X Z9 σ' H' s'/\W n σ' H') ?_ m0 ⟨U,H,I,w0⟩);rintro n s1 ⟨σ1,H1,I1,w1⟩;refine wpAny_passesOwn hp (Z2 (hc Z9 s1 σ1 H1 _ I1 (turn n σ1 H1 w1)) fun b s2 ⟨H2,I2,q2⟩=>?_);cases b with
 |true =>
  obtain⟨N,hN,q2⟩:=q2;rw[if_pos rfl];refine wpAny_passesOwn hp (Z2 (hb Z9 s2 σ1 H2 _ I2 q2) fun f s3 q3=>?_);cases f with
  |next =>obtain⟨σ3,H3,I3,n3⟩:=q3;obtain⟨m',hm,w3⟩:=hN σ3 H3 n3;exact⟨m',hm,σ3,H3,I3,w3⟩
  |cont =>obtain⟨σ3,H3,I3,n3⟩:=q3;obtain⟨m',hm,w3⟩:=hN σ3 H3 n3;exact⟨m',hm,σ3,H3,I3,w3⟩
  |brk=>exact q3
  |ret v=>exact q3
 |false =>rw[if_neg qu];exact wpAny_execs_nil ⟨σ1,H2,I2,q2⟩
end
structure It where
 go:Nat->Hp->Prop
 yld:Nat->Hp->V->Hp->Prop
 stop:Nat->Hp->Prop
def VG (X:Cx)(Z9:List (Addr×Obj))(H:Hp)(b:Addr):Prop :=H b=none/\b≠X.env.locals/\b∉X.fs/\(b∈X.ex\/X.s₀.heap.objs.size<=b)/\(∀ x c,X.env.cells.lookup x=some c->c≠b)/\∀ p∈X.pn++Z9,p.1≠b
def Inv.fpOk {H':Hp}{b:Addr}(I:Inv X Z9 U H s)(hb:s.heap.objs.size<=b)(hn:H' b=none):VG X Z9 H' b:=by
 refine⟨hn,Wh (qF I.lt hb),I.nofs hb,.inr (qZ I.sz hb),fun x c e z=>?_,fun p hp z=>?_⟩
 ·obtain⟨v,q⟩:=I.cell x c e;exact absurd (qF q.lt (by rw[z];exact hb)) (X6 _)
 ·exact absurd (qF (qv (I.pin p hp).1) (by rw[z];exact hb)) (X6 _)
structure Turn (P:Program)(w:World)(K:PySem.W.Frag)(tg:Expr)(J:It)(fp:List Addr)(it:Addr)(tn:Nat->Heap->Prop):Prop where
 mem:it∈fp
 obj:∀ i h,tn i h->∀ b∈fp,∃ o,h.get? b=some o/\∀ v,o.data≠.cell v
 keep:∀ i h h',tn i h->(∀ b∈fp,∀ o,h.get? b=some o->h'.get? b=some o)->tn i h'
 item:∀ (X:Cx),X.prog=P->X.w=w->X.K=K->X.calm=true->∀ (i:Nat) (Z9:List (Addr×Obj)) (s:Shared) (U:St) (H:Hp) (E:Value->Shared->Prop),Inv X Z9 U H s->(∀ b∈fp,VG X Z9 H b)->tn i s.heap->J.go i H ->
  wpAny (model P w) X.A (pyNext (.ref it)) (fun r s1=>∃ u,r=some u /\
   wpAny (model P w) X.A (letOwnedTupleGo tg (.ref it) u) (fun _ s2=>∃ x H',Inv X Z9 U H' s2/\RelV x u/\J.yld i H x H'/\tn (i+1) s2.heap/\∀ b∈fp,H' b=none) E s1) E s
 done:∀ (X:Cx),X.prog=P->X.w=w->X.K=K->X.calm=true->∀ (i:Nat) (Z9:List (Addr×Obj)) (s:Shared) (U:St) (H:Hp) (E:Value->Shared->Prop),Inv X Z9 U H s->(∀ b∈fp,VG X Z9 H b)->tn i s.heap->J.stop i H ->
  wpAny (model P w) X.A (pyNext (.ref it)) (fun r s1=>r=none/\Inv X Z9 U H s1) E s
 self:∀ (A:Around) (i:Nat) (s:Shared) (Q:Value->Shared->Prop) (E:Value->Shared->Prop),tn i s.heap->Q (.ref it) s->wpAny (model P w) A (pyIter (.ref it)) Q E s
abbrev TI:=St->Hp->(It->Hp->Prop)->Prop
def PIE (X:Cx)(Z9:List (Addr×Obj))(U:St)(tg:Expr)(R:It->Hp->Prop)(itv:Value)(s2:Shared):Prop :=∃ (it:Addr) (fp:List Addr) (tn:Nat->Heap->Prop) (J:It) (H':Hp),itv=.ref it/\Inv X Z9 U H' s2/\Turn X.prog X.w X.K tg J fp it tn/\tn 0 s2.heap/\(∀ b∈fp,VG X Z9 H' b)/\R J H'
def PI (X:Cx)(tg iter:Expr)(wi:TI):Prop :=
 ∀ (Z9:List (Addr×Obj)) (s:Shared) (U:St) (H:Hp) (R:It->Hp->Prop),Inv X Z9 U H s->wi U H R ->
  wpAny (model X.prog X.w) X.A (eval iter X.env) (fun v s1=>wpAny (model X.prog X.w) X.A (pyIter v) (PIE X Z9 U tg R) X.xe s1) X.xe s
def Qi {M:Model}{A:Around}{E:Value->Shared->Prop}{s:Shared}{tg:Expr}{it:Addr}{u:Value}{o:Obj}{n:String}{vs:Array Value}{Q:Unit->Shared->Prop}(ho:s.heap.get? it=some o)(hc:o.cls=.type n)(hd:o.data=.fields vs)
    (hn:["enumerate","zip","dict_itemiterator","dict_reverseitemiterator","odict_iterator","itertools.zip_longest","itertools.pairwise"].contains n=false) (hQ:Q () s):wpAny M A (letOwnedTupleGo tg (.ref it) u) Q E s:=by
  unfold letOwnedTupleGo
  cases tg<;>first
    |exact wpAny_pure hQ
    | (cases u <;> first
        |exact wpAny_pure hQ
        | (refine wpAny_bind (wpAny_load ho ?_)
           rw[hc,hd];show wpAny M A (if(["enumerate","zip","dict_itemiterator","dict_reverseitemiterator","odict_iterator","itertools.zip_longest","itertools.pairwise"].contains n&&vs[0]?==some (rawInt _))=true then _ else _) Q E s;rw[if_neg (by intro h;rw[hn,VF]at h;cases h)];exact wpAny_pure hQ))
def DP (K:PySem.W.Frag)(a:Addr):It :=⟨fun i H=>∃ xs x,Zz K H a xs/\xs[i]?=some x,fun i H x H'=>H'=H/\∀ xs,Zz K H a xs->xs[i]?=some x,fun i H=>∃ xs,Zz K H a xs/\xs.length<=i⟩
def Dg (K:PySem.W.Frag)(a:Addr):It :=⟨fun i H=>∃ xs x,ZG K H a xs/\xs[i]?=some x,fun i H x H'=>H'=H/\∀ xs,ZG K H a xs->xs[i]?=some x,fun i H=>∃ xs,ZG K H a xs/\xs.length<=i⟩
def Ri (lo:Int)(n:Nat):It:=⟨fun i _=>i<n,fun i H x H'=>H'=H/\x=.int (lo+i),fun i _=>n<=i⟩
def ğ {P:Program}{w:World}{K:PySem.W.Frag}{tg:Expr}(a it:Addr):Turn P w K tg (DP K a) [it] it (fun i h=>h.IsListIter it a i) where
 mem:=by simp
 obj:=fun i h st b hb=>by
  have e:b=it:=by simpa using hb
  subst e;obtain⟨o,e,c,d⟩:=st;exact⟨o,e,fun v z=>by rw[d]at z;cases z⟩
 keep:=fun i h h' st k=>st.at fun o e=>k it (by simp) o e
 item:=by
  intro X hP hw hK hc i Z9 s U H E I hf st hg;subst hP hw hK;obtain⟨xs,x,hq,hx⟩:=hg;obtain⟨its,rv,p,hz⟩:=I.list hq;obtain⟨u,hu,ru⟩:=rv.get hx;obtain⟨f0,f1,f2,f3,f4,f5⟩:=hf it (by simp);refine wpAny_pyNext_list_item st p.isList (x:=u) (by simpa using hu) fun h' st' sb=>?_
  have I1:Inv X Z9 U H { s with heap:=h' }:=I.turned (t':=s.toks) (fun b o hb e=>(sb.2 b hb).trans e) f0 f1 f3 f4 f5;obtain⟨o,e,c,d⟩:=id st';exact⟨u,rfl,Qi (s:={ s with heap:=h' }) e c d (by decide) ⟨x,H,I1,ru,⟨rfl,fun ys hy=>by rw[I.list_inj hy hq];exact hx⟩,st',fun b hb=>(hf b hb).1⟩⟩
 done:=by intro X hP hw hK hc i Z9 s U H E I hf st hg;subst hP hw hK;obtain⟨xs,hq,hx⟩:=hg;obtain⟨its,rv,p,hz⟩:=I.list hq;obtain⟨f0,f1,f2,f3,f4,f5⟩:=hf it (by simp);have hl:=rv.length;exact wpAny_pyNext_list_end (I.ok.hd hc) st p.isList (by simp;lia) fun h' eb=>⟨rfl,I.turned (t':=s.toks) (fun b o hb e=>eb b o hb e) f0 f1 f3 f4 f5⟩
 self:=fun _ _ _ _ _ st h=>wpAny_pyIter_listiter st h
def zlm {P:Program}{w:World}{K:PySem.W.Frag}{tg:Expr}(a it:Addr):Turn P w K tg (Dg K a) [it] it (fun i h=>h.IsTupleIter it a i) where
 mem:=by simp
 obj:=fun i h st b hb=>by
  have e:b=it:=by simpa using hb
  subst e;obtain⟨o,e,c,d⟩:=st;exact⟨o,e,fun v z=>by rw[d]at z;cases z⟩
 keep:=fun i h h' st k=>st.at fun o e=>k it (by simp) o e
 item:=by
  intro X hP hw hK hc i Z9 s U H E I hf st hg;subst hP hw hK;obtain⟨xs,x,hq,hx⟩:=hg;obtain⟨its,rv,p,hz⟩:=I.tuple hq;obtain⟨u,hu,ru⟩:=rv.get hx;obtain⟨f0,f1,f2,f3,f4,f5⟩:=hf it (by simp);refine wpAny_pyNext_tuple_item st (show s.heap.IsTuple a its.toArray from p) (x:=u) (by simpa using hu) fun h' st' sb=>?_
  have I1:Inv X Z9 U H { s with heap:=h' }:=I.turned (t':=s.toks) (fun b o hb e=>(sb.2 b hb).trans e) f0 f1 f3 f4 f5;obtain⟨o,e,c,d⟩:=id st';exact⟨u,rfl,Qi (s:={ s with heap:=h' }) e c d (by decide) ⟨x,H,I1,ru,⟨rfl,fun ys hy=>by rw[I.tuple_inj hy hq];exact hx⟩,st',fun b hb=>(hf b hb).1⟩⟩
 done:=by intro X hP hw hK hc i Z9 s U H E I hf st hg;subst hP hw hK;obtain⟨xs,hq,hx⟩:=hg;obtain⟨its,rv,p,hz⟩:=I.tuple hq;obtain⟨f0,f1,f2,f3,f4,f5⟩:=hf it (by simp);have hl:=rv.length;exact wpAny_pyNext_tuple_end (I.ok.hd hc) st (show s.heap.IsTuple a its.toArray from p) (by simp;lia) fun h' eb=>⟨rfl,I.turned (t':=s.toks) (fun b o hb e=>eb b o hb e) f0 f1 f3 f4 f5⟩
 self:=fun _ _ _ _ _ st h=>wpAny_pyIter_tupleiter st h
def Aw {P:Program}{w:World}{K:PySem.W.Frag}{tg:Expr}(it:Addr)(lo:Int)(n:Nat):Turn P w K tg (Ri lo n) [it] it (fun i h=>IsRangeIter h it (lo+(i:Nat)*1) ((n:Int)-(i:Nat)) 1) where
 mem:=by simp
 obj:=fun i h st b hb=>by
  have e:b=it:=by simpa using hb
  subst e
  exact⟨_,st,fun v z=>by have z':Data.fields _=Data.cell v:=z;cases z'⟩
 keep:=fun i h h' st k=>k it (by simp) _ st
 item:=by
  intro X hP hw hK hc i Z9 s U H E I hf st hg;subst hP hw hK;obtain⟨f0,f1,f2,f3,f4,f5⟩:=hf it (by simp);have W:=Walks.range (prog:=X.prog) (w:=X.w) (I.ok.hd hc) it lo 1 n;refine W.item i s _ _ hg st fun v h' tk hv st' kk=>?_
  obtain⟨t,rfl⟩:=hv;have I1:Inv X Z9 U H { s with heap:=h',toks:=tk }:=I.turned (fun b o hb e=>kk b o (by simpa using hb) e) f0 f1 f3 f4 f5;refine⟨_,rfl,Qi (s:={ s with heap:=h',toks:=tk }) (n:="range_iterator") st' rfl rfl (by decide) ⟨.int (lo+i),H,I1,⟨t,?_⟩,⟨rfl,rfl⟩,st',fun b hb=>(hf b hb).1⟩⟩;rw[T9]
 done:=by intro X hP hw hK hc i Z9 s U H E I hf st hg;subst hP hw hK;obtain⟨f0,f1,f2,f3,f4,f5⟩:=hf it (by simp);exact wpAny_pyNext_range_end (I.ok.hd hc) st (by have:n<=i:=hg;lia) fun h' eb=>⟨rfl,I.turned (t':=s.toks) (fun b o hb e=>eb b o hb e) f0 f1 f3 f4 f5⟩
 self:=fun _ _ _ _ _ st h=>wpAny_pyIter_rangeiter st h
section
variable {X:Cx}{tg:Expr}
def zoZ {R:It->Hp->Prop}{E:Value->Shared->Prop}{lo hi:Int}{t u v:Tok}{tk:Nat}(I:Inv X Z9 U H s)(h1:-(2 ^ 62)<=lo)(h2:lo<2 ^ 62)(h3:-(2 ^ 62)<=hi)(h4:hi<2 ^ 62)(q:R (Ri lo (hi-lo).toNat) H):wpAny (model X.prog X.w) X.A (pyIter (.ref s.heap.objs.size)) (PIE X Z9 U tg R) E { s with heap:=s.heap.push { cls:=.type "range",data:=.fields #[.int lo t,.int hi u,.int 1 v] },toks:=tk }:=by
  refine wpAny_pyIter_range (IsRange.new ..) (small_one h1 h2 h3 h4) ?_;have I1:Inv X Z9 U H { s with heap:=s.heap.push { cls:=.type "range",data:=.fields #[.int lo t,.int hi u,.int 1 v] },toks:=tk }:=I.kept fun b o e=>qc _ e
  refine⟨(s.heap.push { cls:=.type "range",data:=.fields #[.int lo t,.int hi u,.int 1 v] }).objs.size,[(s.heap.push { cls:=.type "range",data:=.fields #[.int lo t,.int hi u,.int 1 v] }).objs.size],_,_,H,rfl,
    I1.kept (t':=tk) fun b o e=>qc _ e,Aw _ lo (hi-lo).toNat,?_,fun b hb=>?_,q⟩
  . have e1:lo+((0:Nat):Int)*1=lo:=by simp
    have e2:(((hi-lo).toNat:Nat):Int)-((0:Nat):Int)=Builtin.Range.rangeSize lo hi 1:=by rw[rangeSize_one];split<;>lia
    show IsRangeIter _ _ (lo+((0:Nat):Int)*1) ((((hi-lo).toNat:Nat):Int)-((0:Nat):Int)) 1;rw[e1,e2];exact qo _ rfl
  . have e:b=(s.heap.push { cls:=.type "range",data:=.fields #[.int lo t,.int hi u,.int 1 v] }).objs.size:=by simpa using hb
    subst e;exact I1.fpOk (qh _) (I1.hok.fresh (qh _))
def Sd (ta:TA):TI:=fun U H R=>ta U H fun vs H1=>∃ j:Int,vs=[.int j]/\-(2 ^ 62)<=j/\j<2 ^ 62/\R (Ri 0 j.toNat) H1
def znn {a:Expr}{ta:TA}{p pos:Pos}(hg:Gl X "range")(hm:X.mg "range"=none)(ha:PA X [a] ta)(hs:autoParam (starEach [a] X.env=[(false,eval a X.env)]) zy):PI X tg (.Call (.Name "range" p) [a] [] pos) (Sd ta):=by
 intro Z9 s U H R I h;refine Call_ (VR I hg hm boot_range (PyProof.Rows.callWith_type1 (Z2 (ha pos Z9 s U H _ I h) fun us s1 ⟨vs,H1,I1,r1,q1⟩=>?_) hs rfl));obtain⟨j,e,q1,q2,q⟩:=q1;subst e;cases r1 with
 |cons r rr =>cases rr;obtain⟨t,rfl⟩:=r;exact call_range_1 (zoZ I1 (by lia) (by lia) q1 q2 (by simpa using q))
def jJ (wi:TI)(g:TG)(tb:TS):TS:=fun D U H=>wi U H fun J H1=>∃ W:Nat->Nat->St->Hp->Prop,(∃ m,W 0 m U H1)/\∀ i m U H,W i m U H ->
 (J.stop i H/\D.nx U H)\/(J.go i H/\∃ N:St->Hp->Prop,(∀ σ' H',N σ' H'->∃ m',m'<m/\W (i+1) m' σ' H')/\∀ x H',J.yld i H x H'->g x U H' fun σ2 H2=>tb { D with nx:=N,ct:=N,bk:=D.nx } σ2 H2)
def KQ (fp:List Addr)(h:Heap):List (Addr×Obj):=fp.filterMap fun b=>(h.get? b).map fun o=>(b,o)
def Ie {fp:List Addr}{h:Heap}{b:Addr}{o:Obj}(hb:b∈fp)(e:h.get? b=some o):(b,o)∈KQ fp h:=UW.mpr ⟨b,hb,by rw[e];rfl⟩
def Ħ {fp:List Addr}{h:Heap}{p:Addr×Obj}(hp:p∈KQ fp h):p.1∈fp/\h.get? p.1=some p.2:=by
 obtain⟨b,hb,e⟩:=UW.mp hp;cases q:h.get? b with
 |none=>rw[q]at e;cases e
 |some o =>rw[q]at e;have e':(b,o)=p:=qH e;subst e';exact⟨hb,q⟩
def Inv.pinned {fp:List Addr}(I:Inv X Z9 U H s)(hf:∀ b∈fp,VG X Z9 H b)(ho:∀ b∈fp,∃ o,s.heap.get? b=some o/\∀ v,o.data≠.cell v):Inv X (Z9++KQ fp s.heap) U H s :=
 I.pins_of fun p hp=>(qC.mp hp).elim (fun z=>I.pin p (qL _ z)) fun z=>by obtain⟨hb,e⟩:=Ħ z;obtain⟨f0,f1,f2,_⟩:=hf p.1 hb;obtain⟨o,e',d⟩:=ho p.1 hb;rw[e]at e';cases e';exact⟨e,f0,f1,f2,d⟩
def Inv.unpinned {pl:List (Addr×Obj)}(I:Inv X (Z9++pl) U H s):Inv X Z9 U H s:=I.pins_of fun p hp=>I.pin p (qL _ (qT _ hp))
def zuf {pos:Pos}(hp:PassesOwn (model X.prog X.w) X.A X.env X.xe)(hc:X.calm=true)(hi:PI X tg iter wi)(hg:PG X tg g)(hb:XH X body tb)(hs:autoParam (∀ x,foldedSetIterable iter X.env x=pure x) Qa):PS X (.For tg iter body [] pos) (jJ wi g tb):=by
 intro Z9 s U H D I h;refine wpAny_For (Z2 (hi Z9 s U H _ I h) fun v s1 h1=>Z2 h1 fun itv s2 h2=>?_) hs;obtain⟨it,fp,tn,J,H2,e,I2,T,st2,f2,W,⟨m0,w0⟩,turn⟩:=h2;subst e;have stat:∀ {H':Hp},(∀ b∈fp,H' b=none)->∀ b∈fp,VG X Z9 H' b:=fun hn b hb=>⟨hn b hb,(f2 b hb).2⟩
 refine codeAny_forLoop_any (fun n s'=>∃ i σ' H',Inv X Z9 σ' H' s'/\tn i s'.heap/\(∀ b∈fp,H' b=none)/\W i n σ' H') ?_ m0 ⟨0,U,H2,I2,st2,fun b hb=>(f2 b hb).1,w0⟩;rintro n s3 ⟨i,σ3,H3,I3,st3,fr3,w3⟩;rcases turn i n σ3 H3 w3 with⟨stop,qn⟩|⟨go,N,hN,step⟩
 ·refine wpAny_passesOwn hp (Z2 (T.done X rfl rfl rfl hc i Z9 s3 σ3 H3 X.xe I3 (stat fr3) st3 stop) fun r s4 ⟨hr,I4⟩=>?_);subst hr;exact wpAny_execs_nil ⟨σ3,H3,I4,qn⟩
 ·refine wpAny_passesOwn hp (Z2 (T.item X rfl rfl rfl hc i Z9 s3 σ3 H3 X.xe I3 (stat fr3) st3 go) fun r s4 ⟨u,hr,h4⟩=>?_);subst hr;refine wpAny_passesOwn hp (Z2 h4 fun _ s5 ⟨x,H5,I5,r5,y5,st5,fr5⟩=>?_);have I5':=I5.pinned (stat fr5) (T.obj _ _ st5);refine wpAny_passesOwn hp (Z2 (hg _ s5 σ3 H5 x u _ I5' r5 (step x H5 y5)) fun _ s6 ⟨σ6,H6,I6,q6⟩=>?_);refine wpAny_passesOwn hp (Z2 (hb _ s6 σ6 H6 _ I6 q6) fun f s7 q7=>?_)
  have again:∀ {σ7:St} {H7:Hp},Inv X (Z9++KQ fp s5.heap) σ7 H7 s7->N σ7 H7->∃ m,m<n/\∃ i σ' H',Inv X Z9 σ' H' s7/\tn i s7.heap/\(∀ b∈fp,H' b=none)/\W i m σ' H':=fun {σ7 H7} I7 n7=>by obtain⟨m',hm,w7⟩:=hN σ7 H7 n7;refine⟨m',hm,i+1,σ7,H7,I7.unpinned,T.keep _ _ _ st5 fun b hb o e=>(I7.pin (b,o) (qL _ (qL _ (Ie hb e)))).1,fun b hb=>?_,w7⟩;obtain⟨o,e,d⟩:=T.obj _ _ st5 b hb;exact(I7.pin (b,o) (qL _ (qL _ (Ie hb e)))).2.1
  cases f with
  |next=>obtain⟨σ7,H7,I7,n7⟩:=q7;exact again I7 n7
  |cont=>obtain⟨σ7,H7,I7,n7⟩:=q7;exact again I7 n7
  |brk=>obtain⟨σ7,H7,I7,q7⟩:=q7;exact⟨σ7,H7,I7.unpinned,q7⟩
  |ret v=>obtain⟨x7,σ7,H7,I7,r7,q7⟩:=q7;exact⟨x7,σ7,H7,I7.unpinned,r7,q7⟩
end
abbrev R2:=V->V->Hp->VK->Prop
def ZJ (X:Cx)(f:Value->Value->Sem Value)(r:R2):Prop :=
 ∀ (Z9:List (Addr×Obj)) (s:Shared) (U:St) (H:Hp) (x y:V) (v u:Value) (Q:VK),Inv X Z9 U H s->RelV x v->RelV y u->r x y H Q ->
  wpAny (model X.prog X.w) X.A (f v u) (EP X Z9 U Q) X.xe s
def Hi (X:Cx)(f:Value->Sem Value)(r:V->Hp->VK->Prop):Prop :=
 ∀ (Z9:List (Addr×Obj)) (s:Shared) (U:St) (H:Hp) (x:V) (v:Value) (Q:VK),Inv X Z9 U H s->RelV x v->r x H Q ->
  wpAny (model X.prog X.w) X.A (f v) (EP X Z9 U Q) X.xe s
def Y4 (X:Cx)(f:Value)(r:List V->Hp->VK->Prop):Prop :=
 ∀ (Z9:List (Addr×Obj)) (s:Shared) (U:St) (H:Hp) (xs:List V) (us:List Value) (Q:VK),Inv X Z9 U H s->Vals xs us->r xs H Q ->
  wpAny (model X.prog X.w) X.A (call f us) (EP X Z9 U Q) X.xe s
def Mi (r:R2)(ta tb:TE):TE:=fun U H Q=>ta U H fun x H1=>tb U H1 fun y H2=>r x y H2 Q
def dG (r:V->Hp->VK->Prop)(ta:TE):TE:=fun U H Q=>ta U H fun x H1=>r x H1 Q
def rI (C:Int->Int->Prop)(g:Int->Int->V):R2:=fun x y H Q=>∃ i j,x=.int i/\y=.int j/\C i j/\Q (g i j) H
def Uw (g:Int->Int->V):R2:=fun x y H Q=>∃ i j,x=.int i/\y=.int j/\Q (g i j) H
def rU (g:Int->V):V->Hp->VK->Prop:=fun x H Q=>∃ i,x=.int i/\Q (g i) H
section
variable {X:Cx}{a b c:Expr}{ta tb tc:TE}{pos:Pos}
def Cd (ha:PE X a ta)(hb:PE X b tb){R:V->V->Hp->Prop}(I:Inv X Z9 U H s)(h:ta U H fun x H1=>tb U H1 fun y H2=>R x y H2){Q:Value->Shared->Prop}{f:Value->Value->Sem Value}(hf:∀ v u s2 x y H2,Inv X Z9 U H2 s2->RelV x v->RelV y u->R x y H2->wpAny (model X.prog X.w) X.A (f v u) Q X.xe s2) :
  wpAny (model X.prog X.w) X.A (eval a X.env) (fun v s₁=>wpAny (model X.prog X.w) X.A (eval b X.env) (fun u s₂=>wpAny (model X.prog X.w) X.A (f v u) Q X.xe s₂) X.xe s₁) X.xe s:=by
 refine Z2 (ha Z9 s U H _ I h) fun v s1 ⟨x,H1,I1,r1,q1⟩=>?_
 refine Z2 (hb Z9 s1 U H1 _ I1 q1) fun u s2 ⟨y,H2,I2,r2,q2⟩=>?_
 exact hf v u s2 x y H2 I2 r1 r2 q2
def oh {op:Operator}(ho:ZJ X (binaryOp op) r)(ha:PE X a ta)(hb:PE X b tb):PE X (.BinOp a op b pos) (Mi r ta tb):=by intro Z9 s U H Q I h;exact wpAny_BinOp (Cd ha hb I h fun v u s2 x y H2 I2 rx ry q=>ho Z9 s2 U H2 x y v u Q I2 rx ry q)
def zx2 {op:UnaryOp}(ho:Hi X (unaryOp op) r)(ha:PE X a ta):PE X (.UnaryOp op a pos) (dG r ta):=by intro Z9 s U H Q I h;exact UnaryOp_ (Z2 (ha Z9 s U H _ I h) fun v s1 zq3=>by obtain⟨x,H1,I1,r1,q1⟩:=zq3;exact ho Z9 s1 U H1 x v Q I1 r1 q1)
def Nm {f:Value->Value->Sem Value}{C:Int->Int->Prop}{g:Int->Int->Int}
  (rule:∀ (i j:Int) (t u:Tok) (s:Shared) (Q:Value->Shared->Prop) (E:Value->Shared->Prop),C i j->Q (.int (g i j) s.toks) { s with toks:=s.toks+1 }->wpAny (model X.prog X.w) X.A (f (.int i t) (.int j u)) Q E s) :
  ZJ X f (rI C fun i j=>.int (g i j)):=by
 intro Z9 s U H x y v u Q I rx ry h;obtain⟨i,j,rfl,rfl,hc,q⟩:=h;obtain⟨t,rfl⟩:=rx;obtain⟨t',rfl⟩:=ry;exact rule i j t t' s _ _ hc ⟨.int (g i j),H,I.tok _,⟨_,rfl⟩,q⟩
def Bc {f:Value->Value->Sem Value}{g:Int->Int->Int}
  (rule:∀ (i j:Int) (t u:Tok) (s:Shared) (Q:Value->Shared->Prop) (E:Value->Shared->Prop),Q (.int (g i j) s.toks) { s with toks:=s.toks+1 }->wpAny (model X.prog X.w) X.A (f (.int i t) (.int j u)) Q E s) :
  ZJ X f (Uw fun i j=>.int (g i j)):=by
 intro Z9 s U H x y v u Q I rx ry h;obtain⟨i,j,rfl,rfl,q⟩:=h;obtain⟨t,rfl⟩:=rx;obtain⟨t',rfl⟩:=ry;exact rule i j t t' s _ _ ⟨.int (g i j),H,I.tok _,⟨_,rfl⟩,q⟩
def Jw {f:Value->Value->Sem Value}{g:Int->Int->Bool}
  (rule:∀ (i j:Int) (t u:Tok) (s:Shared) (Q:Value->Shared->Prop) (E:Value->Shared->Prop),Q (.bool (g i j)) s->wpAny (model X.prog X.w) X.A (f (.int i t) (.int j u)) Q E s) :
  ZJ X f (Uw fun i j=>.bl (g i j)):=by
 intro Z9 s U H x y v u Q I rx ry h;obtain⟨i,j,rfl,rfl,q⟩:=h;obtain⟨t,rfl⟩:=rx;obtain⟨t',rfl⟩:=ry;exact rule i j t t' s _ _ ⟨.bl (g i j),H,I,rfl,q⟩
def jT (i j:Int):Prop:=0<=j/\j<=1000000/\i.natAbs<2 ^ 64
def Ih (i j:Int):Prop:=(-(2 ^ 64)<i/\i<2 ^ 64)\/(-(2 ^ 64)<j/\j<2 ^ 64)
def Ih.ok (h:Ih i j):IntMulOk i j:=by
 rcases h with⟨h1,h2⟩|⟨h1,h2⟩
 ·exact .of_left (intBits_le_64 h1 h2)
 ·exact .of_right (intBits_le_64 h1 h2)
def Â:ZJ X (binaryOp .Add) (Uw fun i j=>.int (i+j)):=Bc fun _ _ _ _ _ _ _ q=>add_int q
def ŷ:ZJ X (binaryOp .Sub) (Uw fun i j=>.int (i-j)):=Bc fun _ _ _ _ _ _ _ q=>sub_int q
def Ϸ:ZJ X (binaryOp .Mod) (rI (fun _ j=>j≠0) fun i j=>.int (i.fmod j)):=Nm fun _ _ _ _ _ _ _ hc q=>mod_int' hc q
def zvQ:ZJ X (binaryOp .Pow) (rI jT fun i j=>.int (i ^ j.toNat)):=Nm fun _ _ _ _ _ _ _ hc q=>pow_int_small hc.1 hc.2.1 hc.2.2 q
def gO {f:Value->Sem Value}{g:Int->Int}
  (rule:∀ (i:Int) (t:Tok) (s:Shared) (Q:Value->Shared->Prop) (E:Value->Shared->Prop),Q (.int (g i) s.toks) { s with toks:=s.toks+1 }->wpAny (model X.prog X.w) X.A (f (.int i t)) Q E s) :
  Hi X f (rU fun i=>.int (g i)):=by
 intro Z9 s U H x v Q I rx h;obtain⟨i,rfl,q⟩:=h;obtain⟨t,rfl⟩:=rx;exact rule i t s _ _ ⟨.int (g i),H,I.tok _,⟨_,rfl⟩,q⟩
def zvO:Hi X (unaryOp .USub) (rU fun i=>.int (-i)):=gO fun _ _ _ _ _ q=>neg_int q
end
section
variable {X:Cx}{a b c:Expr}{ta tb tc:TE}{pos:Pos}
def Jv {Q:VK}{k k':Bool}(I:Inv X Z9 U H s)(q:Q (.bl k) H)(e:k=k'):EP X Z9 U Q (.bool k') s:=by subst e;exact⟨.bl k,H,I,rfl,q⟩
def zwl:ZJ X (compareOp .Lt) (Uw fun i j=>.bl (decide (i<j))):=Jw fun _ _ _ _ _ _ _ q=>lt_int q
def ù:ZJ X (compareOp .LtE) (Uw fun i j=>.bl (decide (i<=j))):=Jw fun _ _ _ _ _ _ _ q=>le_int q
def zwT:ZJ X (compareOp .Gt) (Uw fun i j=>.bl (decide (j<i))):=Jw fun _ _ _ _ _ _ _ q=>gt_int q
def zw1:ZJ X (compareOp .GtE) (Uw fun i j=>.bl (decide (j<=i))):=Jw fun _ _ _ _ _ _ _ q=>ge_int q
def gD:ZJ X (compareOp .In) (fun x y H Q=>∃ i j,x=.str i/\y=.str j/\Q (.bl (!(Builtin.Str.occurrences j i 0 j.length 1).isEmpty)) H):=by intro Z9 s U H x y v u Q I rx ry h;obtain⟨i,j,rfl,rfl,q⟩:=h;obtain⟨t,rfl⟩:=rx;obtain⟨t',rfl⟩:=ry;exact in_str (Jv I q rfl)
def zsR:ZJ X (compareOp .Is) (fun x y H Q=>y=.non/\Q (.bl (decide (x=.non))) H):=by
  intro Z9 s U H x y v u Q I rx ry h;obtain⟨rfl,q⟩:=h;cases ry;refine is_none_gen (Jv I q ?_)
  cases x<;>first
    |(cases rx;rfl)
    |(obtain⟨t,rfl⟩:=rx;rfl)
def fV:ZJ X (compareOp .IsNot) (fun x y H Q=>y=.non/\Q (.bl (!decide (x=.non))) H):=by
  intro Z9 s U H x y v u Q I rx ry h;obtain⟨rfl,q⟩:=h;cases ry;refine isnot_none_gen (Jv I q ?_)
  cases x<;>first
    |(cases rx;rfl)
    |(obtain⟨t,rfl⟩:=rx;rfl)
def Ė:ZJ X (compareOp .NotIn) (fun x y H Q=>∃ i j,x=.str i/\y=.str j/\Q (.bl (!(!(Builtin.Str.occurrences j i 0 j.length 1).isEmpty))) H):=by intro Z9 s U H x y v u Q I rx ry h;obtain⟨i,j,rfl,rfl,q⟩:=h;obtain⟨t,rfl⟩:=rx;obtain⟨t',rfl⟩:=ry;exact notIn_str (Jv I q rfl)
def ZJ.or (h:ZJ X f r)(h':ZJ X f r'):ZJ X f (fun x y H Q=>r x y H Q\/r' x y H Q):=by
 intro Z9 s U H x y v u Q I rx ry q;rcases q with q|q
 ·exact h Z9 s U H x y v u Q I rx ry q
 ·exact h' Z9 s U H x y v u Q I rx ry q
def zsn {op:CmpOp}(ho:ZJ X (compareOp op) r)(ha:PE X a ta)(hb:PE X b tb)(hm:behindInMarks op b=false):PE X (.Compare a [op] [b] pos) (Mi r ta tb):=by intro Z9 s U H Q I h;exact wpAny_Compare1 (Cd ha hb I h fun v u s2 x y H2 I2 rx ry q=>ho Z9 s2 U H2 x y v u Q I2 rx ry q) hm
def mR (t:TE):TT:=fun U H Q=>t U H fun x H'=>∃ k,x=.bl k/\Q k H'
def ω {op:CmpOp}(ho:ZJ X (compareOp op) r)(ha:PE X a ta)(hb:PE X b tb)(hm:behindInMarks op b=false):PT X (.Compare a [op] [b] pos) (mR (Mi r ta tb)):=by
 intro Z9 s U H Q I h
 refine wpAny_isTrue_Compare1 (Z2 (ha Z9 s U H _ I h) fun v s1 ⟨x,H1,I1,r1,q1⟩=>Z2 (hb Z9 s1 U H1 _ I1 q1) fun u s2 ⟨y,H2,I2,r2,q2⟩ =>Z2 (ho Z9 s2 U H2 x y v u _ I2 r1 r2 q2) fun c s3 ⟨z,H3,I3,r3,k,e,q3⟩=>?_) hm
 subst e;cases r3;exact wpAny_truthy_bool ⟨H3,I3,q3⟩
def Hj (r r':R2)(ta tb tc:TE):TE:=fun U H Q=>ta U H fun x H1=>tb U H1 fun y H2=>r x y H2 fun z H3=>∃ k,z=.bl k /\
 (if k=true then tc U H3 fun w' H4=>r' y w' H4 Q else Q (.bl false) H3)
def zoc {op op':CmpOp}(ho:ZJ X (compareOp op) r)(ho':ZJ X (compareOp op') r')(ha:PE X a ta)(hb:PE X b tb)(hc:PE X c tc)(hm:autoParam (lastMarks [op,op'] [b,c]=false) Vo):PE X (.Compare a [op,op'] [b,c] pos) (Hj r r' ta tb tc):=by
 intro Z9 s U H Q I h
 refine Compare_chain (Z2 (ha Z9 s U H _ I h) fun v s1 ⟨x,H1,I1,r1,q1⟩=>chain_link (Z2 (hb Z9 s1 U H1 _ I1 q1) fun u s2 ⟨y,H2,I2,r2,q2⟩ =>Z2 (ho Z9 s2 U H2 x y v u _ I2 r1 r2 q2) fun d s3 ⟨z,H3,I3,r3,k,e,q3⟩=>?_)) hm
 subst e;cases r3;refine wpAny_truthy_bool ?_;cases k with
 |false=>exact ite_ff ⟨.bl false,H3,I3,rfl,q3⟩
 |true=>exact ite_tt (chain_last (Z2 (hc Z9 s3 U H3 _ I3 q3) fun w' s4 zq4=>by obtain⟨z',H4,I4,r4,q4⟩:=zq4;exact ho' Z9 s4 U H4 y z' u w' Q I4 r2 r4 q4))
def mF {op op':CmpOp}(ho:ZJ X (compareOp op) r)(ho':ZJ X (compareOp op') r')(ha:PE X a ta)(hb:PE X b tb)(hc:PE X c tc)(hm:autoParam (lastMarks [op,op'] [b,c]=false) Vo):PT X (.Compare a [op,op'] [b,c] pos) (mR (Hj r r' ta tb tc)):=by
 intro Z9 s U H Q I h
 refine isTrue_chain (Z2 (ha Z9 s U H _ I h) fun v s1 ⟨x,H1,I1,r1,q1⟩=>test_link (Z2 (hb Z9 s1 U H1 _ I1 q1) fun u s2 ⟨y,H2,I2,r2,q2⟩ =>Z2 (ho Z9 s2 U H2 x y v u _ I2 r1 r2 q2) fun d s3 ⟨z,H3,I3,r3,k,e,q3⟩=>?_)) hm
 subst e;cases r3;refine wpAny_truthy_bool ?_;cases k with
 |false =>obtain⟨k',e',q'⟩:=q3;cases e';exact ite_ff ⟨H3,I3,q'⟩
 |true =>refine ite_tt (test_last (Z2 (hc Z9 s3 U H3 _ I3 q3) fun w' s4 ⟨z',H4,I4,r4,q4⟩=>Z2 (ho' Z9 s4 U H4 y z' u w' _ I4 r2 r4 q4) fun d' s5 ⟨z2,H5,I5,r5,k2,e2,q5⟩=>?_));subst e2;cases r5;exact wpAny_truthy_bool ⟨H5,I5,q5⟩
def Qx:(sizeLine:Nat)<2 ^ 63:=by rw[sizeLine_eq];decide
def ý:ZJ X (binaryOp .Add) (fun x y H Q=>∃ i j,x=.str i/\y=.str j/\i.length+j.length<=sizeLine/\Q (.str (i++j)) H):=by intro Z9 s U H x y v u Q I rx ry h;obtain⟨i,j,rfl,rfl,hz,q⟩:=h;obtain⟨t,rfl⟩:=rx;obtain⟨t',rfl⟩:=ry;exact add_str (fun t' tk=>⟨.str (i++j),H,I.tok _,⟨_,rfl⟩,q⟩) hz
def vals1 {x:V}{us:List Value}(r:Vals [x] us):∃ u,us=[u]/\RelV x u:=by
 cases r with
 |cons r1 r2=>cases r2;exact⟨_,rfl,r1⟩
def vals2 {x y:V}{us:List Value}(r:Vals [x,y] us):∃ u w',us=[u,w']/\RelV x u/\RelV y w':=by
 cases r with
 |cons r1 r2 =>
  cases r2 with
  |cons r3 r4=>cases r4;exact⟨_,_,rfl,r1,r3⟩
def iW:Y4 X (.builtin "abs") (fun xs H Q=>∃ i,xs=[.int i]/\Q (.int (if i<0 then -i else i)) H):=by intro Z9 s U H xs us Q I r h;obtain⟨i,rfl,q⟩:=h;obtain⟨u,rfl,t,rfl⟩:=vals1 r;exact call_abs_int fun u tk=>⟨.int (if i<0 then -i else i),H,I.tok _,⟨_,rfl⟩,q⟩
def jP (hc:X.calm=true):Y4 X (.builtin "max") (fun xs H Q=>∃ i j,xs=[.int i,.int j]/\Q (.int (if j > i then j else i)) H):=by
 intro Z9 s U H xs us Q I r h;obtain⟨i,j,rfl,q⟩:=h;obtain⟨u,w',rfl,⟨t,rfl⟩,⟨t',rfl⟩⟩:=vals2 r;refine max_two_ints (I.ok.hd hc) fun h' tk k=>⟨_,H,I.kept k,?_,q⟩
 by_cases hj:j > i
 ·rw[if_pos hj,if_pos hj];exact⟨_,rfl⟩
 ·rw[if_neg hj,if_neg hj];exact⟨_,rfl⟩
def jz (hc:X.calm=true):Y4 X (.builtin "min") (fun xs H Q=>∃ i j,xs=[.int i,.int j]/\Q (.int (if j<i then j else i)) H):=by
 intro Z9 s U H xs us Q I r h;obtain⟨i,j,rfl,q⟩:=h;obtain⟨u,w',rfl,⟨t,rfl⟩,⟨t',rfl⟩⟩:=vals2 r;refine min_two_ints (I.ok.hd hc) fun h' tk k=>⟨_,H,I.kept k,?_,q⟩
 by_cases hj:j<i
 ·rw[if_pos hj,if_pos hj];exact⟨_,rfl⟩
 ·rw[if_neg hj,if_neg hj];exact⟨_,rfl⟩
def Ċ:Y4 X (.type "int") (fun xs H Q=>(∃ i,xs=[.int i]/\Q (.int i) H)\/∃ k,xs=[.bl k]/\Q (.int (if k then 1 else 0)) H):=by
 intro Z9 s U H xs us Q I r h;rcases h with⟨i,rfl,q⟩|⟨k,rfl,q⟩
 ·obtain⟨u,rfl,t,rfl⟩:=vals1 r;exact call_int_int ⟨.int i,H,I,⟨_,rfl⟩,q⟩
 ·obtain⟨u,rfl,r1⟩:=vals1 r;cases r1;exact call_int_bool ⟨.int (if k then 1 else 0),H,I.tok _,⟨_,rfl⟩,q⟩
end
structure Qs (h:Heap)(x dx C:Addr)(mA:Str->Option Value):Prop where
 obj:h.get? x=some (PySem.W.instObj C dx)
 ns:h.Ns1 dx mA
 ne:dx≠x
def gR {h:Heap}{dx:Addr}{mA:Str->Option Value}(n:h.Ns1 dx mA):∃ od,h.get? dx=some od/\∀ name,PySem.W.lookIn name od=some (mA name):=by
 obtain⟨o,es,ep,ho,hd,hk,_,hm⟩:=n;refine⟨o,ho,fun name=>?_⟩;have e:=hm name;unfold nsFind findBy at e;rw[<- Array.find?_toList]at e;unfold PySem.W.lookIn;rw[hd];dsimp only;split
 ·rename_i y q;rw[q]at e;exact congrArg some e
 ·rename_i q;rw[q]at e
  have a:es.toList.any (·.refKey)=false:=by rw[List.any_eq_false];intro y hy;obtain⟨z,t,hkey⟩:=hk y (Array.mem_toList_iff.mp hy);simp[DictEntry.refKey,hkey]
  have a':¬ es.toList.any (·.refKey)=true:=by rw[a];exact qu
  rw[if_neg a'];exact congrArg some e
def Qs.look {C:Addr}(I:Qs h x dx C mA):∃ od,PySem.W.InstAt h x (PySem.W.instObj C dx) C (some od)/\∀ name,PySem.W.lookIn name od=some (mA name) :=
 let ⟨od,ho,hl⟩:=gR I.ns
 ⟨od,⟨I.obj,rfl,rfl,ho⟩,hl⟩
section
variable {prog:Program}{w:World}{A:Around}{E:Value->Shared->Prop}{s:Shared}{K:PySem.W.Frag}{x dx C f:Addr}{mA:Str->Option Value}{name:Str}{v:Value}
def get_map {expr:Bool}{Q:Value->Shared->Prop}(X:K.In s.heap)(I:Qs s.heap x dx C mA)(hg:PySem.W.plainGet K C name=true)(hh:PySem.W.hasDictIn K C=true)
  (ha:PySem.W.findIn K (.ref C) name=some none) (hv:mA name=some v) (hv':PySem.W.handedIn v=true) (h:Q v { s with toks:=s.toks+1 }) :
  wpAny (model prog w) A (getAttr (.ref x) name expr) Q E s:=by
 obtain⟨od,J,hl⟩:=I.look;exact PySem.W.get_value X J (PySem.W.plainGet_of hg).1 (PySem.W.findObj_own hh ha rfl (by rw[hl,hv])) hv' h
def zrH {Q:Unit->Shared->Prop}(X:K.In s.heap)(I:Qs s.heap x dx C mA)(hs:PySem.W.findIn K (.ref C) "__setattr__"=some (some (.builtin "object.__setattr__")))(hp:PySem.W.plainOver K C=true)(ht:PySem.W.takerIn K C name=some none)(hh:PySem.W.hasDictIn K C=true)(hw:PySem.Within mA ns)(hsz:ns.length<=sizeLine)(h:∀ h',Qs h' x dx C (fun y=>if y=name then some v else mA y)->Heap.SameBut dx s.heap h'->Q () { s with heap:=h',toks:=s.toks+2 }) :
  wpAny (model prog w) A (setAttr (.ref x) name v) Q E s:=by
 obtain⟨od,J,hl⟩:=I.look;refine PySem.W.set_plain X J hs (PySem.W.osa_open (s:={ s with toks:=s.toks+1 }) (r:=none) X J hp ht fun b=>?_);obtain⟨cd,hc,hd'⟩:=PySem.W.any_some hh;have hx:s.heap.get? x=some ⟨.ref C,some dx,.plain,#[]⟩:=I.obj;refine wpAny_bind (wpAny_pure (wpAny_bind (wpAny_bind (wpAny_loadPart hx (wpAny_bind (PySem.W.Looks.here (s:={ s with toks:=s.toks+1 }) (PySem.W.looks_clsIn X hc) ?_))))));rw[hd'];refine wpAny_pure (a:=some dx) (wpAny_bind (wpAny_pure (wpAny_bind ?_)));refine wpAny_nsSet1 (s:={ s with toks:=s.toks+1 }) I.ns fun h' hn2 hs2=>?_
 obtain⟨oD,esD,epD,hoD,hdD,hcD⟩:=hn2.count (PySem.Within.cons name v hw);refine wpAny_bind (wpAny_lookBehind hoD (by rw[hdD];exact pastItsLine_dict (qZ hcD (by rw[qY];lia))) ?_);exact wpAny_pure (h _ ⟨(hs2.2 _ (Ne.symm I.ne)).trans I.obj,hn2,I.ne⟩ hs2)
def xG {R:Result->Shared->Prop}{vs:List Value}{kw:List (Str×Value)}(X:K.In s.heap)(hm:PySem.W.makesIn K C=true)
    (hi:PySem.W.findIn K (.ref C) "__init__"=some (some (.ref f))) (hf:PySem.W.typeIn K (.ref f)=some (.type "function"))
    (h:codeAny (model prog w) (A.under (.builtin "type.__call__" ⟨.ref C::vs,kw⟩)) (.call (.ref f) ⟨.ref (s.heap.objs.size+1)::vs,kw⟩) (PySem.W.InitBack (s.heap.objs.size+1) R)
      { s with heap:=(s.heap.push PySem.W.emptyDict).push (PySem.W.instObj C s.heap.objs.size) }) :
    codeAny (model prog w) A (.call (.ref C) ⟨vs,kw⟩) R s:=by
  obtain⟨hh,g,d,t,os⟩:=s;exact PySem.W.make_core (PySem.W.makes_of X hm) (PySem.W.looks_findIn X hi) (fun self=>PySem.W.bind_fn X self hf) (.inl rfl) h
end
def YC (f:Str)(v:V):List (Str×V)->List (Str×V)
 |[]=>[(f,v)]
 |(g,x)::r=>if g=f then(g,v)::r else(g,x)::YC f v r
theorem yq (f g:Str)(v:V):∀ fs:List (Str×V),(YC f v fs).lookup g=if g=f then some v else fs.lookup g
 |[]=>by
  show List.lookup g [(f,v)]=_;by_cases h:g=f
  ·have hb:(g==f)=true:=beq_iff_eq.mpr h;simp only[List.lookup,hb,if_pos h]
  ·have hb:(g==f)=false:=beq_eq_false_iff_ne.mpr h;simp only[List.lookup,hb,if_neg h]
 |(k,x)::r=>by
  have ih:=yq f g v r;rw[show YC f v ((k,x)::r)=(if k=f then(k,v)::r else(k,x)::YC f v r)from rfl];by_cases hk:k=f
  ·rw[if_pos hk];by_cases h:g=k
   ·have hb:(g==k)=true:=beq_iff_eq.mpr h;simp only[List.lookup,hb,if_pos (h.trans hk)]
   ·have hb:(g==k)=false:=beq_eq_false_iff_ne.mpr h;simp only[List.lookup,hb,if_neg (fun e:g=f=>h (e.trans hk.symm))]
  ·rw[if_neg hk];by_cases h:g=k
   ·have hb:(g==k)=true:=beq_iff_eq.mpr h;simp only[List.lookup,hb,if_neg (fun e:g=f=>hk (h.symm.trans e))]
   ·have hb:(g==k)=false:=beq_eq_false_iff_ne.mpr h;simp only[List.lookup,hb];exact ih
theorem Bx (f:Str)(v:V):∀ fs:List (Str×V),f∈(YC f v fs).map (·.1)/\∀ g,g∈fs.map (·.1)->g∈(YC f v fs).map (·.1)
 |[]=>⟨by simp[YC],fun g h=>by simp at h⟩
 |(k,x)::r=>by
  obtain⟨i1,i2⟩:=Bx f v r;rw[show YC f v ((k,x)::r)=(if k=f then(k,v)::r else(k,x)::YC f v r)from rfl];by_cases hk:k=f
  ·rw[if_pos hk];subst hk;exact⟨by simp,fun g h=>by simpa using h⟩
  ·rw[if_neg hk];refine⟨?_,fun g h=>?_⟩
   ·rw[qQ];exact qi _ i1
   ·rw[qQ]at h ⊢;rcases ql.mp h with e|e
    ·exact ql.mpr (.inl e)
    ·exact qi _ (i2 g e)
theorem yM (f:Str)(v:V):∀ fs:List (Str×V),(YC f v fs).length<=fs.length+1
 |[]=>by simp[YC]
 |(k,x)::r=>by
  have ih:=yM f v r;rw[show YC f v ((k,x)::r)=(if k=f then(k,v)::r else(k,x)::YC f v r)from rfl];by_cases hk:k=f
  ·rw[if_pos hk,qY,qY];lia
  ·rw[if_neg hk,qY,qY];lia
def Yb.some_of {v:V}(r:Yb (some v) o):∃ u,o=some u/\RelV v u:=by
 cases o with
 |none=>exact(show False from r).elim
 |some u=>exact⟨u,rfl,r⟩
def Ő (r:RelV v u):PySem.W.handedIn u=true:=by
 cases v with
 |non=>cases(show u=Value.none from r);rfl
 |bl b=>cases(show u=Value.bool b from r);rfl
 |int i=>obtain⟨t,e⟩:=(show ∃ t,u=Value.int i t from r);cases e;rfl
 |str x=>obtain⟨t,e⟩:=(show ∃ t,u=Value.str x t from r);cases e;rfl
 |byt b=>obtain⟨t,e⟩:=(show ∃ t,u=Value.bytes b t from r);cases e;rfl
 |flt b=>obtain⟨t,e⟩:=(show ∃ t,u=Value.float b t from r);cases e;rfl
 |ref a=>cases(show u=Value.ref a from r);rfl
 |ty n=>cases(show u=Value.type n from r);rfl
section
variable {P:Program}{w:World}{H H':Hp}{h h':Heap}{a C dx:Addr}{fs fs':List (Str×V)}
def Et (hok:ZF P w H h)(e:H a=some (.ins C dx fs)):∃ mA,Qs h a dx C mA/\(∀ f,Yb (fs.lookup f) (mA f))/\PySem.Within mA (fs.map (·.1))/\fs.length<=1000/\H dx=some (.own a):=by
 obtain⟨d,z,ne,ob,mA,n,r,q⟩:=(show zZ P w H h a (.ins C dx fs)from hok a _ e)
 exact⟨mA,⟨ob,n,ne⟩,r,q,z,d⟩
end
structure Cls (K:PySem.W.Frag)(C:Addr):Prop where
 pg:PySem.W.plainGet K C Str.empty=true
 hd:PySem.W.hasDictIn K C=true
 po:PySem.W.plainOver K C=true
 sa:PySem.W.findIn K (.ref C) "__setattr__"=some (some (.builtin "object.__setattr__"))
def Cls.get {K:PySem.W.Frag}{C:Addr}(c:Cls K C)(f:Str):PySem.W.plainGet K C f=true:=c.pg
def V2 (K:PySem.W.Frag)(C:Addr)(f:Str):Prop:=PySem.W.findIn K (.ref C) f=some none
def V2.taker {K:PySem.W.Frag}{C:Addr}(n:V2 K C f):PySem.W.takerIn K C f=some none:=by unfold PySem.W.takerIn;rw[show PySem.W.findIn K (.ref C) f=some none from n];rfl
section
variable {X:Cx}{Z9:List (Addr×Obj)}{U:St}{H:Hp}{s:Shared}{a C dx:Addr}{fs:List (Str×V)}{f:Str}{v:V}{A:Around}{E:Value->Shared->Prop}
def š {b:Bool}{Q:Value->Shared->Prop}(I:Inv X Z9 U H s)(e:H a=some (.ins C dx fs))(c:Cls X.K C)(n:V2 X.K C f)(l:fs.lookup f=some v)
  (h:∀ u s',Inv X Z9 U H s'->RelV v u->Q u s'):wpAny (model X.prog X.w) A (getAttr (.ref a) f b) Q E s:=by
 obtain⟨mA,O,r,_,_,_⟩:=Et I.hok e;obtain⟨u,hu,ru⟩:=Yb.some_of (v:=v) (o:=mA f) (by rw[<- l];exact r f);exact get_map I.kIn O (c.get f) c.hd n hu (Ő ru) (h u _ (I.tok _) ru)
def iI {Q:Unit->Shared->Prop}(I:Inv X Z9 U H s)(e:H a=some (.ins C dx fs))(c:Cls X.K C)(n:V2 X.K C f)(hl:fs.length<1000)(ry:RelV y u)(h:∀ s',Inv X Z9 U (upd H a (.ins C dx (YC f y fs))) s'->Q () s'):wpAny (model X.prog X.w) A (setAttr (.ref a) f u) Q E s:=by
 obtain⟨mA,O,r,wi,_,ho⟩:=Et I.hok e;have hz:(fs.map (·.1)).length<=sizeLine:=by rw[qa,sizeLine_eq];lia
 refine zrH I.kIn O c.sa c.po n.taker c.hd wi hz fun h' O' sb=>h _ ?_
 have hd:∃ o,h'.get? dx=some o:=let ⟨o,_,_,e',_⟩:=O'.ns;⟨o,e'⟩;refine I.write (x:=a) (e:=dx) (by rw[e];exact True.intro) (.inr ho) (fun b q hb z=>(sb.2 b hb).trans z) hd ?_;refine⟨by rw[zu O.ne];exact ho,?_,O.ne,O'.obj,_,O'.ns,fun g=>?_,fun g hg=>?_⟩
 ·have:=yM f y fs;lia
 ·show Yb ((YC f y fs).lookup g) (if g=f then some u else mA g);rw[yq];by_cases q:g=f
  ·rw[if_pos q,if_pos q];exact ry
  ·rw[if_neg q,if_neg q];exact r g
 ·by_cases q:g=f
  ·rw[q];exact(Bx f y fs).1
  ·refine(Bx f y fs).2 g (wi g fun z=>hg ?_);show(if g=f then some u else mA g)=none;rw[if_neg q];exact z
def Inv.made (I:Inv X Z9 U H s):Inv X Z9 U (upd (upd H s.heap.objs.size (.own (s.heap.objs.size+1))) (s.heap.objs.size+1) (.ins C s.heap.objs.size []))
    { s with heap:=(s.heap.push PySem.W.emptyDict).push (PySem.W.instObj C s.heap.objs.size) }:=by
  have e1:(s.heap.push PySem.W.emptyDict).get? s.heap.objs.size=some PySem.W.emptyDict:=qo s.heap rfl
  have e2:((s.heap.push PySem.W.emptyDict).push (PySem.W.instObj C s.heap.objs.size)).get? (s.heap.objs.size+1)=some (PySem.W.instObj C s.heap.objs.size):=by have:=qo (s.heap.push PySem.W.emptyDict) (o:=PySem.W.instObj C s.heap.objs.size) rfl;rwa[W0]at this
  have e3:(s.heap.push PySem.W.emptyDict).Ns s.heap.objs.size (fun _=>none):=⟨PySem.W.emptyDict,#[],_,e1,rfl,(fun e he=>absurd he (by simp)),fun _=>rfl⟩
  have I1:=I.laid (a:=s.heap.objs.size) (o:=.own (s.heap.objs.size+1)) (h':=s.heap.push PySem.W.emptyDict) (t':=s.toks) (fun b u q=>qc _ q) (qh _) ⟨_,e1⟩;refine I1.laid (a:=s.heap.objs.size+1) (o:=.ins C s.heap.objs.size []) (t':=s.toks) (fun b u q=>qc _ q) (Nat.le_of_eq (W0 _ _)) ?_;have ne:s.heap.objs.size≠s.heap.objs.size+1:=qU (M8 _);refine⟨by rw[zu ne,zK],qX _,ne,e2,fun _=>none,(Heap.Ns1.of_empty e3).at fun o q=>qc _ q,fun _=>True.intro,fun y hy=>absurd rfl hy⟩
def zqd {prog:Program}{w:World}{env:Env}{e:Expr}{f:Str}{pos:Pos}{s:Shared}{Q:Value->Shared->Prop}(hb:attributeBase e f env (eval e env)=eval e env)
  (h:wpAny (model prog w) A (eval e env) (fun o s₁=>wpAny (model prog w) A (getAttr o f true) Q E s₁) E s):wpAny (model prog w) A (eval (.Attribute e f pos) env) Q E s :=
 Attribute_any_ h (by rw[arm_eval_Attribute,hb])
end
def zyO (K:PySem.W.Frag)(ta:TE)(f:Str):TE:=fun U H Q=>ta U H fun x H1=>∃ a C dx fs v,x=.ref a/\H1 a=some (.ins C dx fs)/\Cls K C/\V2 K C f/\fs.lookup f=some v/\Q v H1
def gK (K:PySem.W.Frag)(ta tv:TE)(f:Str):TS:=fun D U H=>tv U H fun y H1=>ta U H1 fun x H2=>∃ a C dx fs,x=.ref a/\H2 a=some (.ins C dx fs)/\Cls K C/\V2 K C f/\fs.length<1000 /\
 D.nx U (upd H2 a (.ins C dx (YC f y fs)))
section
variable {X:Cx}{o e value:Expr}{f:Str}{pos pos' tpos:Pos}{ta tv:TE}
def zvL (he:PE X e ta)(hb:attributeBase e f X.env (eval e X.env)=eval e X.env):PE X (.Attribute e f pos) (zyO X.K ta f):=by intro Z9 s U H Q I h;refine zqd hb (Z2 (he Z9 s U H _ I h) fun u s1 ⟨x,H1,I1,rx,a,C,dx,fs,v,ex,ea,c,n,l,q⟩=>?_);subst ex;obtain rfl:u=Value.ref a:=rx;exact š I1 ea c n l fun u' s2 I2 ru=>⟨v,H1,I2,ru,q⟩
def ztk (ha:PE X o ta)(hv:PE X value tv)(hs:swapsWith value (some (.Attribute o f pos')) pos.line X.env=pure false):PS X (.Assign [.Attribute o f pos'] value pos) (gK X.K ta tv f):=by intro Z9 s U H D I h;refine plainObj_wpAny_Assign_Attribute (Z2 (hv Z9 s U H _ I h) fun u s1 ⟨y,H1,I1,ry,q⟩=>Z2 (ha Z9 s1 U H1 _ I1 q) fun ov s2 ⟨x,H2,I2,rx,a,C,dx,fs,ex,ea,c,n,l,q2⟩=>?_) hs;subst ex;obtain rfl:ov=Value.ref a:=rx;exact iI I2 ea c n l ry fun s3 I3=>⟨U,_,I3,q2⟩
end
section
variable {X:Cx}{Z9:List (Addr×Obj)}{U:St}{H:Hp}{s:Shared}{A:Around}{E:Value->Shared->Prop}{Q:Value->Shared->Prop}{c:Value}{b:Bool}
inductive WW (K:PySem.W.Frag)(H:Hp):V->Value->Prop where
 | non:WW K H .non (.type "NoneType")
 | bl (x:Bool):WW K H (.bl x) (.type "bool")
 | int (i:Int):WW K H (.int i) (.type "int")
 | str (x:Str):WW K H (.str x) (.type "str")
 | flt (x:UInt64):WW K H (.flt x) (.type "float")
 | lst {a:Addr} {xs:List V} (e:H a=some (.lst xs)):WW K H (.ref a) (.type "list")
 | frz {a:Addr} {o:Obj} {xs:List V} (e:H a=some (.frz o (.lst xs))):WW K H (.ref a) (.type "list")
 | tup {a:Addr} {xs:List V} (e:H a=some (.tup xs)):WW K H (.ref a) (.type "tuple")
 | dK {a:Addr} {Z8:List (Key×V)} (e:H a=some (.dK Z8)):WW K H (.ref a) (.type "dict")
 | dT {a:Addr} {Z8:List (List Key×V)} (e:H a=some (.dT Z8)):WW K H (.ref a) (.type "dict")
 | ins {a C dx:Addr} {fs:List (Str×V)} (e:H a=some (.ins C dx fs)) (cl:Cls K C) (ha:PySem.W.findIn K (.ref C) "__class__"=some (some (.builtin "object.__class__")))
   (hn:PySem.W.specialIn K (.builtin "object.__class__") "__get__"=some (some (.builtin "getset_descriptor.__get__"))) (htk:PySem.W.takesIn K (.builtin "object.__class__")=some true)
   (hm:PySem.W.mroIn K C (.type "object")=some true):WW K H (.ref a) (.ref C)
def zmb {t:Value}(I:Inv X Z9 U H s)(rx:RelV x u)(ty:WW X.K H x t)(e:PySem.W.kitOne X.K t c=some b)(h:∀ tk,Q (.bool b) { s with toks:=tk }) :
  wpAny (model X.prog X.w) A (call (.builtin "isinstance") [u,c]) Q E s:=by
 cases ty with
 |non=>cases(show u=Value.none from rx);exact PySem.W.kia_one PySem.W.kitx_none I.kIn True.intro e (fun z=>nomatch z) h
 |bl y=>cases(show u=Value.bool y from rx);exact PySem.W.kia_one PySem.W.kitx_bool I.kIn True.intro e (fun z=>nomatch z) h
 |int i=>obtain⟨t,q⟩:=(show ∃ t,u=Value.int i t from rx);cases q;exact PySem.W.kia_one PySem.W.kitx_int I.kIn True.intro e (fun z=>nomatch z) h
 |str y=>obtain⟨t,q⟩:=(show ∃ t,u=Value.str y t from rx);cases q;exact PySem.W.kia_one PySem.W.kitx_str I.kIn True.intro e (fun z=>nomatch z) h
 |flt y=>obtain⟨t,q⟩:=(show ∃ t,u=Value.float y t from rx);cases q;exact PySem.W.kia_one PySem.W.kitx_float I.kIn True.intro e (fun z=>nomatch z) h
 |@lst a xs ea =>
  cases(show u=Value.ref a from rx);obtain⟨_,_,n,_,h1⟩:=(show zZ X.prog X.w H s.heap a (.lst xs)from I.hok a _ ea)
  exact PySem.W.kia_one PySem.W.kitx_list I.kIn ⟨_,h1,rfl⟩ e (fun z=>nomatch z) h
 |@frz a ob xs ea =>
  cases(show u=Value.ref a from rx);obtain⟨_,_,_,n,_,h1⟩:=(show zZ X.prog X.w H s.heap a (.frz ob (.lst xs))from I.hok a _ ea)
  exact PySem.W.kia_one PySem.W.kitx_list I.kIn ⟨_,h1,rfl⟩ e (fun z=>nomatch z) h
 |@tup a xs ea =>
  cases(show u=Value.ref a from rx);obtain⟨_,_,_,p⟩:=(show zZ X.prog X.w H s.heap a (.tup xs)from I.hok a _ ea)
  obtain⟨o,h1,h2,_⟩:=p;exact PySem.W.kia_one PySem.W.kitx_tuple I.kIn ⟨o,h1,h2⟩ e (fun z=>nomatch z) h
 |@dK a Z8 ea =>
  cases(show u=Value.ref a from rx);obtain⟨_,_,vs,_,p⟩:=(show zZ X.prog X.w H s.heap a (.dK Z8)from I.hok a _ ea)
  obtain⟨o,es,ep,h1,h2,_⟩:=p;exact PySem.W.kia_one PySem.W.kitx_dict I.kIn ⟨o,h1,h2.1⟩ e (fun z=>nomatch z) h
 |@dT a Z8 ea =>
  cases(show u=Value.ref a from rx);obtain⟨_,_,xs,_,o,es,ep,h1,h2,_⟩:=(show zZ X.prog X.w H s.heap a (.dT Z8)from I.hok a _ ea)
  exact PySem.W.kia_one PySem.W.kitx_dict I.kIn ⟨o,h1,h2.1⟩ e (fun z=>nomatch z) h
 |@ins a C dx fs ea cl ha hn htk hm =>cases(show u=Value.ref a from rx);obtain⟨mA,O,_⟩:=Et I.hok ea;obtain⟨od,J,_⟩:=O.look;exact PySem.W.kia_one (PySem.W.kitx_own (cl.get _) cl.hd ha hn htk hm) I.kIn J e (fun z=>nomatch z) h
end
structure zQ (k:Nat)(A:Around):Prop where
 hd:A.handled=none
 dp:A.depth+3*k+5<recursionLimit
 un:A.units+16*k+200<cLine
def zQ.mono {j k:Nat}(r:zQ k A)(h:j<=k):zQ j A:=⟨r.hd,by have:=r.dp;lia,by have:=r.un;lia⟩
theorem zQ.deeper {k:Nat}(r:zQ (k+1) A)(env:Env):zQ k (A.deeper env) :=⟨r.hd,by have:=r.dp;show A.depth+1+3*k+5<_;lia,by have:=r.un;show A.units+3+16*k+200<_;lia⟩
def zlv {A:Around}{C:Addr}{us:List Value}{kw:List (Str×Value)}:(A.under (.builtin "type.__call__" ⟨.ref C::us,kw⟩)).depth=A.depth+1:=by first|rfl|simp[Around.under,Code.weight,Code.isCreation,Code.isGuard,Code.isCaller,Code.frames,Code.isFrame,guardIds]
def ě {A:Around}{C:Addr}{us:List Value}{kw:List (Str×Value)}:(A.under (.builtin "type.__call__" ⟨.ref C::us,kw⟩)).units=A.units+1:=by first|rfl|simp[Around.under,Code.cUnits,Code.frames,Code.isFrame]
def zQ.make {k:Nat}(r:zQ (k+1) A)(C:Addr)(us:List Value)(kw:List (Str×Value)):zQ k (A.under (.builtin "type.__call__" ⟨.ref C::us,kw⟩)) :=⟨r.hd,by have:=r.dp;rw[zlv];lia,by have:=r.un;rw[ě];lia⟩
theorem zQ.depth {k:Nat}(r:zQ k A):A.depth<recursionLimit:=by have:=r.dp;lia
theorem zQ.units {k:Nat}(r:zQ k A):A.units+64<cLine:=by have:=r.un;lia
def jC:TA:=fun _ H Q=>Q [] H
def zxK (ta:TE)(tr:TA):TA:=fun U H Q=>ta U H fun x H1=>tr U H1 fun xs H2=>Q (x::xs) H2
section
variable {X:Cx}{e:Expr}{es:List Expr}{te:TE}{t:TA}{pos:Pos}
def jY:PA X [] jC:=fun _ _ _ _ H Q I h=>Calls.spliced_nil ⟨[],H,I,.nil,h⟩
def zr2 (ha:PE X e te)(hr:PA X es t)(hs:autoParam (starEach (e::es) X.env=(false,eval e X.env)::starEach es X.env) zy):PA X (e::es) (zxK te t):=by intro pos Z9 s U H Q I h;rw[hs];show wpAny _ _ (spliced ((false,eval e X.env)::backTo pos (starEach es X.env))) _ _ s;refine Calls.spliced_cons (Z2 (ha Z9 s U H _ I h) fun u s1 ⟨x,H1,I1,r1,q1⟩=>?_);exact Z2 (hr pos Z9 s1 U H1 _ I1 q1) fun us s2 zq5=>by obtain⟨xs,H2,I2,r2,q2⟩:=zq5;exact⟨x::xs,H2,I2,.cons r1 r2,q2⟩
def zyq (t:TA):TE:=fun U H Q=>t U H fun xs H1=>xs.length<=sizeLine/\∀ p,H1 p=none->Q (.ref p) (upd H1 p (.tup xs))
def zyM (t:TA):TE:=fun U H Q=>t U H fun xs H1=>xs.length<=sizeLine/\∀ p,H1 p=none->Q (.ref p) (upd H1 p (.lst xs))
def bZ {x1}(h:PA X es t):PE X (.Tuple es x1 pos) (zyq t):=by intro Z9 s U H Q I hq;refine wpAny_Tuple_spliced (Z2 (h pos Z9 s U H _ I hq) fun us s1 ⟨xs,H1,I1,r,z,q⟩=>⟨by rw[<- r.length];exact z,?_⟩);have hf:H1 s1.heap.objs.size=none:=I1.hok.fresh (qh _);refine⟨.ref s1.heap.objs.size,upd H1 s1.heap.objs.size (.tup xs),I1.laid (t':=s1.toks) (fun b u e=>qc _ e) (qh _) ?_,rfl,q _ hf⟩;exact⟨z,us,r,⟨_,qo _ rfl,rfl,_,rfl⟩⟩
def Ĉ (h:PA X es t):PE X (.List es pos) (zyM t):=by intro Z9 s U H Q I hq;refine wpAny_List_spliced (Z2 (h pos Z9 s U H _ I hq) fun us s1 ⟨xs,H1,I1,r,z,q⟩=>⟨by rw[<- r.length];exact z,?_⟩);have hf:H1 s1.heap.objs.size=none:=I1.hok.fresh (qh _);refine⟨.ref s1.heap.objs.size,upd H1 s1.heap.objs.size (.lst xs),I1.laid (t':=s1.toks) (fun b u e=>qc _ e) (qh _) ?_,rfl,q _ hf⟩;exact⟨z,us,0,r,qo _ rfl⟩
end
abbrev Sp:=List V->Hp->VK->XK->Prop
abbrev V6:=List Env->Hp->Shared->XK->Value->Shared->Prop
structure Q7 (P:Program)(w:World)(K:PySem.W.Frag)(mg:Str->Option Value)(base:Heap)(A:Around)(outer:List Env)(s:Shared)(H:Hp):Prop where
 frames:A.frames=some outer
 mod:Mod K mg base
 bs:∀ b o,base.get? b=some o->s.heap.get? b=some o/\H b=none
 bsz:base.objs.size<=s.heap.objs.size
 funs:s.heap.FunFrames base outer
 frf:∀ b∈frs outer,H b=none
 hok:ZF P w H s.heap
 bare:AllBare s.gens
def CE (outer:List Env)(P:Program)(w:World)(H:Hp)(s:Shared)(Q:VK)(u:Value)(s':Shared):Prop :=∃ v H',s'.os=s.os/\AllBare s'.gens/\Un (frs outer) [] H H' s.heap s'.heap/\ZF P w H' s'.heap/\RelV v u/\Q v H'
def CR (CX:V6)(outer:List Env)(P:Program)(w:World)(H:Hp)(s:Shared)(Q:VK)(E:XK)(r:Result)(s':Shared):Prop :=
 match r with
 |.ok (.ret u)=>CE outer P w H s Q u s'
 |.ok _=>False
 |.error e=>CX outer H s E e s'
structure YJ (P:Program)(w:World)(K:PySem.W.Frag)(mg:Str->Option Value)(base:Heap)(CX:V6)(k:Nat)(f:Addr)(fd:FuncData)(ps:List Str)(sp:Sp):Prop where
 len:∀ vs H Q E,sp vs H Q E->vs.length=ps.length
 run:∀ (A:Around) (outer:List Env) (s:Shared) (H:Hp) (args:Args) (us:List Value) (vs:List V) (Q:VK) (E:XK),zQ k A->Q7 P w K mg base A outer s H->BindsTo s fd args (ps.zip us)->Vals vs us->sp vs H Q E ->
  codeAny (model P w) A (.call (.ref f) args) (CR CX outer P w H s Q E) s
theorem YJ.mono {K:PySem.W.Frag}{base:Heap}{k:Nat}{sp:Sp}(F:YJ P w K mg base CX j f fd ps sp)(h:j<=k) :
  YJ P w K mg base CX k f fd ps sp:=⟨F.len,fun A outer s H args us vs Q E hr=>F.run A outer s H args us vs Q E (hr.mono h)⟩
def Q7.make {K:PySem.W.Frag}{base:Heap}(e:Q7 P w K mg base A outer s H)(C:Addr)(us:List Value)(kw:List (Str×Value)) :
  Q7 P w K mg base (A.under (.builtin "type.__call__" ⟨.ref C::us,kw⟩)) outer s H:=⟨by first | exact e.frames | (simpa [Around.under,Code.envs,Code.isFrame,pushEnvs]using e.frames),e.mod,e.bs,e.bsz,e.funs,e.frf,e.hok,e.bare⟩
section
variable {X:Cx}{Z9:List (Addr×Obj)}{U:St}{H:Hp}{s s':Shared}
def Inv.env0 (I:Inv X Z9 U H s):Q7 X.prog X.w X.K X.mg X.base X.A X.stack s H :=⟨I.ok.frames,I.ok.mod,I.bs,qZ I.ok.bsz I.sz,I.stack,I.stkFree,I.hok,I.bare⟩
def Inv.after (I:Inv X Z9 U H s)(h:CE X.stack X.prog X.w H s Q u s'):EP X Z9 U Q u s':=by obtain⟨v,H',os,bare,un,hok,r,q⟩:=h;obtain⟨hh,g,d,t,os'⟩:=s';obtain rfl:os'=s.os:=os;exact⟨v,H',I.call (h':=hh) (g':=g) (d':=d) (t':=t) (ch:=[]) un hok bare (fun b z=>absurd z (by simp)),r,q⟩
end
def Ew (sp:Sp)(dvs:List V)(E:XK)(t:TA):TE:=fun U H Q=>t U H fun vs H1=>sp (vs++dvs) H1 Q E
def Binds (K:PySem.W.Frag)(fd:FuncData)(ps:List Str)(ds:List Value):Prop :=∀ (s:Shared) (us:List Value),K.In s.heap->(us++ds).length=ps.length->BindsTo s fd ⟨us,[]⟩ (ps.zip (us++ds))
def Binds.all {K:PySem.W.Frag}{fd:FuncData}{ps:List Str}(h:∀ us:List Value,us.length=ps.length->bindArgs fd ⟨us,[]⟩=pure (ps.zip us)):Binds K fd ps []:=fun s us _ hl=>by rw[qS]at hl ⊢;exact .of_eq (h us hl)
def Passes (CX:V6)(X:Cx)(E:XK):Prop:=∀ (Z9:List (Addr×Obj)) (U:St) (H:Hp) (s:Shared) (e:Value) (s':Shared),Inv X Z9 U H s->CX X.stack H s E e s'->X.xe e s'
section
variable {X:Cx}{CX:V6}{k:Nat}{f C:Addr}{fd:FuncData}{ps:List Str}{sp:Sp}{dvs:List V}{ds:List Value}{E:XK}{x m:Str}{p pos apos:Pos}{e o:Expr}{es:List Expr}{ta:TE}{t:TA}
def zsI {Q:VK}(F:YJ X.prog X.w X.K X.mg X.base CX k f fd ps sp)(hr:zQ k X.A)(hb:Binds X.K fd ps ds)(hd:Vals dvs ds)(hx:Passes CX X E)(I:Inv X Z9 U H s)(r:Vals vs us)(h:sp (vs++dvs) H Q E):wpAny (model X.prog X.w) X.A (call (.ref f) us) (EP X Z9 U Q) X.xe s:=by
 have r2:Vals (vs++dvs) (us++ds):=r.append hd;have hl:(us++ds).length=ps.length:=by rw[<- r2.length];exact F.len _ _ _ _ h
 refine wpAny_call (codeAny_mono (F.run X.A X.stack s H ⟨us,[]⟩ (us++ds) (vs++dvs) Q E hr I.env0 (hb s us I.kIn hl) r2 h) fun r s' hq=>?_);cases r with
 |error e=>exact hx Z9 U H s e s' I hq
 |ok fl =>
  cases fl with
  |ret u=>exact I.after hq
  |next=>exact False.elim hq
  |brk=>exact False.elim hq
  |cont=>exact False.elim hq
def Ϭ (F:YJ X.prog X.w X.K X.mg X.base CX k f fd ps sp)(hr:zQ k X.A)(hg:Gl X x)(hm:X.mg x=some (.ref f))(hk:PySem.W.keepIn X.K (.ref f)=true)(hb:Binds X.K fd ps ds)(hd:Vals dvs ds)(hx:Passes CX X E)
  (ha:PA X (e::es) t) (hdb:(x==("__debug__":Str))=false:=by decide) (he:starEach (e::es) X.env=(false,eval e X.env)::starEach es X.env:=by rfl) (hpl:(backTo pos (starEach es X.env)).any (·.1)=false:=by rfl) :
  PE X (.Call (.Name x p) (e::es) [] pos) (Ew sp dvs E t):=by
 intro Z9 s U H Q I h;refine wpAny_Call_Name_kw (Tn I hg hm ?_ hdb);refine PySem.W.callWith_K (h₀:=X.base) I.ok.mod.kin hk (Z2 (ha pos Z9 s U H _ I h) fun us s1 ⟨vs,H1,I1,r,q⟩=>⟨I1.kIn,?_⟩) he hpl;exact zsI F hr hb hd hx I1 r q
structure Mk (K:PySem.W.Frag)(C f:Addr):Prop where
 makes:PySem.W.makesIn K C=true
 init:PySem.W.findIn K (.ref C) "__init__"=some (some (.ref f))
 fn:PySem.W.isFn K (.ref f)=true
 kp:PySem.W.keepIn K (.ref C)=true
def znO {Q:VK}(M:Mk X.K C f)(F:YJ X.prog X.w X.K X.mg X.base CX k f fd ps sp)(hr:zQ (k+1) X.A)(hb:Binds X.K fd ps ds)(hd:Vals dvs ds)(hx:Passes CX X E)(I:Inv X Z9 U H s)(r:Vals vs us)(h:∀ x dx,H x=none->H dx=none->dx≠x->sp (.ref x::(vs++dvs)) (upd (upd H dx (.own x)) x (.ins C dx [])) (fun v H2=>v=.non/\Q (.ref x) H2) E) :
  wpAny (model X.prog X.w) X.A (call (.ref C) us) (EP X Z9 U Q) X.xe s:=by
 have hq:=h (s.heap.objs.size+1) s.heap.objs.size (I.hok.fresh (Nat.le_succ _)) (I.hok.fresh (qh _)) (qU (M8 _));have I2:=Inv.made (C:=C) I;have r2:Vals (V.ref (s.heap.objs.size+1)::(vs++dvs)) (Value.ref (s.heap.objs.size+1)::(us++ds)):=.cons rfl (r.append hd)
 have hl:(Value.ref (s.heap.objs.size+1)::us++ds).length=ps.length:=by have e:=r2.length;rw[F.len _ _ _ _ hq]at e;exact e.symm
 refine wpAny_call (xG (f:=f) I.kIn M.makes M.init (beq_iff_eq.mp M.fn) (codeAny_mono (F.run _ X.stack _ _ ⟨Value.ref (s.heap.objs.size+1)::us,[]⟩ (Value.ref (s.heap.objs.size+1)::(us++ds)) _ _ E (hr.make C us [])
  (I2.env0.make C us []) (hb _ (Value.ref (s.heap.objs.size+1)::us) I2.kIn hl) r2 hq) fun r s' hq'=>?_))
 cases r with
 |error e=>exact hx Z9 U _ _ e s' I2 hq'
 |ok fl =>
  cases fl with
  |ret u =>obtain⟨v,H',I3,rv,ev,q3⟩:=I2.after hq';subst ev;exact⟨rv,⟨V.ref (s.heap.objs.size+1),H',I3,rfl,q3⟩⟩
  |next=>exact False.elim hq'
  |brk=>exact False.elim hq'
  |cont=>exact False.elim hq'
end
section
variable {X:Cx}{CX:V6}{k:Nat}{f C:Addr}{fd:FuncData}{ps ks:List Str}{sp:Sp}{E:XK}{x m:Str}{p pos apos kpos:Pos}{e o:Expr}{es:List Expr}{kws:List Keyword}{te ta:TE}{t tk:TA}{nm:Option Str}
variable {g:List Value->List Value->List Value}{gV:List V->List V->List V}
end
structure Ph (N P:List Str)(sc:Scope):Prop where
 kind:sc.kind=.function
 co:sc.isCoroutine=false
 gen:sc.isGenerator=false
 nd:N.Nodup
 pre:N.take P.length=P
 par:∀ x∈P,sc.names.lookup x=some .local\/sc.names.lookup x=some .cell
 nofree:∀ y∈sc.names,y.2≠.free
theorem vq {kindOf:Str->Option NameKind}{x:Str}:∀ {binds:List (Str×Value)} {m:Str->Option Value},(∀ v,(x,v)∉binds)->bindL kindOf binds m x=m x
 |[],_,_=>rfl
 |(n,v)::r,m,h=>by
  unfold bindL;rw[vq fun w hw=>h w (qi _ hw)];split
  ·have:x≠n:=by rintro rfl;exact h v qP
   simp[this]
  ·rfl
theorem vU {kindOf:Str->Option NameKind}{x:Str}:∀ {binds:List (Str×Value)} {m:Str->Option Value},(∀ v,(x,v)∉binds)->bindC kindOf binds m x=m x
 |[],_,_=>rfl
 |(n,v)::r,m,h=>by
  unfold bindC;rw[vU fun w hw=>h w (qi _ hw)];split
  ·rfl
  ·have:x≠n:=by rintro rfl;exact h v qP
   simp[this]
theorem vo {kindOf:Str->Option NameKind}{x:Str}{v:Value}:∀ {P:List Str} {vs:List Value} {i:Nat} {m:Str->Option Value},P.Nodup->P[i]?=some x->vs[i]?=some v->kindOf x=some .local ->
  bindL kindOf (P.zip vs) m x=some v
 |[],_,_,_,_,h,_,_=>by simp at h
 |_::_,[],_,_,_,_,h,_=>by simp at h
 |p::P,w::vs,0,m,nd,h1,h2,hk=>by simp at h1 h2;subst h1;subst h2;show bindL kindOf ((p,w)::P.zip vs) m p=_;unfold bindL;rw[vq fun v hv=>(VN.mp nd).1 (K1 hv).1,if_pos hk];simp
 |p::P,w::vs,i+1,m,nd,h1,h2,hk=>by show bindL kindOf ((p,w)::P.zip vs) m x=_;unfold bindL;exact vo (i:=i) (VN.mp nd).2 (by simpa using h1) (by simpa using h2) hk
theorem sE {kindOf:Str->Option NameKind}{x:Str}{v:Value}:∀ {P:List Str} {vs:List Value} {i:Nat} {m:Str->Option Value},P.Nodup->P[i]?=some x->vs[i]?=some v->kindOf x≠some .local ->
  bindC kindOf (P.zip vs) m x=some v
 |[],_,_,_,_,h,_,_=>by simp at h
 |_::_,[],_,_,_,_,h,_=>by simp at h
 |p::P,w::vs,0,m,nd,h1,h2,hk=>by simp at h1 h2;subst h1;subst h2;show bindC kindOf ((p,w)::P.zip vs) m p=_;unfold bindC;rw[vU fun v hv=>(VN.mp nd).1 (K1 hv).1,if_neg hk];simp
 |p::P,w::vs,i+1,m,nd,h1,h2,hk=>by show bindC kindOf ((p,w)::P.zip vs) m x=_;unfold bindC;exact sE (i:=i) (VN.mp nd).2 (by simpa using h1) (by simpa using h2) hk
def start (N:List Str)(vs:List V):St:=vs.map some++List.replicate (N.length-vs.length) none
def Vk (CX:V6)(P:Program)(w:World)(K:PySem.W.Frag)(mg:Str->Option Value)(base:Heap)(N:List Str)(qual:Str)(scope:Scope)(f:Addr)(cd:Value)(A:Around)(outer:List Env)(s:Shared)(H:Hp)(E:XK):Cx where
 prog:=P
 w:=w
 K:=K
 mg:=mg
 base:=base
 A:=A.deeper (envOfC qual scope s.heap.objs.size f cd)
 N:=N
 s₀:=s
 H₀:=H
 env:=envOfC qual scope s.heap.objs.size f cd
 outer:=outer
 stack:=envOfC qual scope s.heap.objs.size f cd::outer
 ex:=[]
 calm:=true
 fn:=fun _=>true
 pn:=[]
 xe:=fun e s'=>wpAny (model P w) (A.deeper (envOfC qual scope s.heap.objs.size f cd)) (leaving (envOfC qual scope s.heap.objs.size f cd) e) (fun _ s''=>CX outer H s E e s'') (fun e' s''=>CX outer H s E e' s'') s'
def pq {sc:Scope}{n:Nat}{x:Str}(h:sc.names.lookup x=some .cell):∃ c,(cellsFrom n sc.names []).lookup x=some c:=by have q:=PySem.W.cellsFrom_some sc.names n [] (.inl h);exact Lq.mp q
def þ {CX:V6}{K:PySem.W.Frag}{base:Heap}{qual:Str}{f:Addr}{cd:Value}{A:Around}{s1:Shared}{E:XK}{vs:List V}(S:Ph N ps scope)(hd:A.handled=none)(e0:Q7 P w K mg base A outer s H)(hl:vs.length=ps.length)(r:Vals vs us)(x:InCallC s s.heap.objs.size (bindL (envOfC qual scope s.heap.objs.size f cd).kindOf (ps.zip us) fun _=>none) (cellsFrom (s.heap.objs.size+1) scope.names []) (bindC (envOfC qual scope s.heap.objs.size f cd).kindOf (ps.zip us) fun _=>none) s1) :
    Inv (Vk CX P w K mg base N qual scope f cd A outer s H E) [] (start N vs) H s1:=by
  have hpl:ps.length<=N.length:=by have:=congrArg List.length S.pre;rw[Vj]at this;lia
  obtain⟨h1,tk,rfl,hk⟩:=x.done;have noA:∀ b:Addr,b∉(Vk CX P w K mg base N qual scope f cd A outer s H E).ex:=fun b z=>absurd (show b∈([]:List Addr)from z) (by simp)
  refine⟨⟨e0.mod,S.kind,rfl,rfl,qh _,fun y z c h1 h2=>?_,fun y hy=>?_,fun y c _ h=>?_,fun _=>hd,Around.frames_deeper e0.frames,.inr ⟨rfl,rfl⟩,fun b z=>absurd z (noA b),e0.bs,e0.bsz,fun b _ _=>noA b,fun b z=>absurd z (noA b),e0.funs,e0.frf⟩,
    rfl,e0.bare,Un.kept hk,⟨_,x.toInCall.ns,fun i y v h1 h2 h3=>?_⟩,fun y c h=>⟨_,x.cell y c h⟩,e0.hok.fresh (qh _),fun y c h=>?_,fun p hp=>absurd (show p∈([]:List (Addr×Obj))from hp) (by simp),e0.hok.kept hk,?_⟩
  . exact name_of_addr x.apart (PySem.mem_of_lookup h1) (PySem.mem_of_lookup h2)
  . have hy:scope.names.lookup y=some .cell\/scope.names.lookup y=some .free:=hy;rcases hy with hy|hy
    . exact pq hy
    . exact absurd rfl (S.nofree _ (PySem.mem_of_lookup hy))
  . exact Lx (x.above y c (PySem.mem_of_lookup h))
  . have hi : i < vs.length := by
      unfold start at h2;by_cases hi:i<vs.length
      . exact hi
      . rw[qe (by simpa using hi)]at h2;rw[Lf]at h2;split at h2<;>cases h2
    have ha:vs[i]?=some v:=by
      unfold start at h2;rw[qf (by simpa using hi),qk]at h2;cases e:vs[i]? with
      |none=>rw[e]at h2;cases h2
      |some a=>rw[e]at h2;cases h2;rfl
    obtain⟨u,hu,rv⟩:=r.get ha
    have hp:ps[i]?=some y:=by rw[<- S.pre,J8 (by lia)];exact h1
    have ndP:ps.Nodup:=by rw[<- S.pre];exact S.nd.sublist (List.take_sublist _ _)
    refine⟨u,rv,?_⟩;rcases S.par y (qd hp)with k|k
    . exact .inl ⟨k,vo ndP hp hu k⟩
    . obtain⟨c,e⟩:=pq (n:=s.heap.objs.size+1) k;refine .inr ⟨.inl k,c,e,?_⟩;have q:=x.cell y c e;rw[sE ndP hp hu (by show scope.names.lookup y≠_;rw[k];decide)]at q;exact q
  . exact e0.hok.fresh (Lx (x.above y c (PySem.mem_of_lookup h)))
  . unfold start;show _=N.length;rw[qg,qa,qM];lia
def xM {CX:V6}{P:Program}{w:World}{K:PySem.W.Frag}{mg:Str->Option Value}{base:Heap}{k:Nat}{name qual:Str}{params:Arguments}{body:List Stmt}{scope:Scope}{dV kV doc pm cdv ct oc:Value}{an od:Option Addr}{osl:Array (Option Value)}{sp:Sp}(lk:K.lookup f=some ⟨oc,od,.func (PySem.W.fnOf name qual params body scope dV kV doc pm an cdv ct),osl⟩)(hcd:PySem.W.codeIn K cdv qual=true)(S:Ph N ps scope)(len:∀ vs H Q E,sp vs H Q E->vs.length=ps.length)(hbody:∀ (A:Around) (outer:List Env) (s:Shared) (H:Hp) (vs:List V) (Q:VK) (E:XK),zQ k (A.deeper (envOfC qual scope s.heap.objs.size f cdv))->sp vs H Q E ->
   ∃ t,XH (Vk CX P w K mg base N qual scope f cdv A outer s H E) body t/\t { nx:=fun _ H'=>Q .non H',rt:=Q } (start N vs) H) :
  YJ P w K mg base CX (k+1) f (PySem.W.fnOf name qual params body scope dV kV doc pm an cdv ct) ps sp:=by
 refine⟨len,fun A outer s H args us vs Q E hr e0 hb r hsp=>?_⟩;have hl:=len _ _ _ _ hsp;have KX:K.In s.heap:=e0.mod.kin.keeps fun b o e=>(e0.bs b o e).1
 have lim:s.heap.NoLimit:=e0.mod.nolimit.keeps fun b o e=>(e0.bs b o e).1
 have hkind:∀ y∈ps.zip us,scope.names.lookup y.1=some .local\/(scope.names.lookup y.1=some .cell/\((cellsFrom (s.heap.objs.size+1) scope.names []).lookup y.1).isSome=true):=by
  rintro⟨n,v⟩ hy;rcases S.par n (K1 hy).1 with q|q
  ·exact .inl q
  ·exact .inr ⟨q,PySem.W.cellsFrom_some _ _ _ (.inl q)⟩
 refine codeAny_call_function hr.depth (KX _ _ lk) rfl S.co S.gen rfl (PySem.W.codeRec_of KX hcd) (hb _ _ _ _ ?_);refine wpAny_newFunctionEnv_cells S.kind hkind fun env he s1 x=>?_
 subst he;refine⟨lim.keeps x.toInCall.keep,codeAny_func ?_⟩;obtain⟨t,ht,hq⟩:=hbody A outer s H vs Q E (hr.deeper _) hsp;have I:Inv (Vk CX P w K mg base N qual scope f cdv A outer s H E) [] (start N vs) H s1:=þ S hr.hd e0 hl r x;refine wpAny_mono (ht [] s1 (start N vs) H _ I hq) (fun fl s' hs=>?_) fun e s' hs=>hs
 have fin:∀ {σ':St} {H':Hp} {v:V} {u:Value},Inv (Vk CX P w K mg base N qual scope f cdv A outer s H E) [] σ' H' s'->RelV v u->Q v H'->CE outer P w H s Q u s' :=fun {σ' H' v u} J rv q=>⟨v,H',J.os,J.bare,J.base,J.hok,rv,q⟩
 cases fl with
 |ret u =>obtain⟨v,σ',H',J,rv,q⟩:=hs;exact fin J rv q
 |next =>obtain⟨σ',H',J,q⟩:=hs;exact fin (v:=V.non) (u:=Value.none) J rfl q
 |brk =>obtain⟨_,_,_,q⟩:=hs;exact False.elim q
 |cont =>obtain⟨_,_,_,q⟩:=hs;exact False.elim q
section
variable {X:Cx}{x:Str}{p pos:Pos}{e:Expr}{es:List Expr}{t:TA}{id T:String}{r:List V->Hp->VK->Prop}
def rK (r:List V->Hp->VK->Prop)(t:TA):TE:=fun U H Q=>t U H fun vs H1=>r vs H1 Q
def zoL (hc:Y4 X (.builtin id) r)(hg:Gl X x)(hm:X.mg x=none)(hv:bootBuiltins x=some (.builtin id))(ha:PA X (e::es) t)(hn:autoParam (x≠"__name__") zO)(hdb:autoParam ((x==("__debug__":Str))=false) zO)
  (he:starEach (e::es) X.env=(false,eval e X.env)::starEach es X.env:=by rfl) (hpl:(backTo pos (starEach es X.env)).any (·.1)=false:=by rfl):PE X (.Call (.Name x p) (e::es) [] pos) (rK r t):=by
 intro Z9 s U H Q I h;refine wpAny_Call_Name_kw (VR I hg hm hv ?_ hn hdb);exact PyProof.Rows.callWith_builtin1 (Z2 (ha pos Z9 s U H _ I h) fun us s1 zq7=>by obtain⟨vs,H1,I1,r1,q1⟩:=zq7;exact hc Z9 s1 U H1 vs us Q I1 r1 q1) he hpl
def zmJ (hc:Y4 X (.type T) r)(hg:Gl X x)(hm:X.mg x=none)(hv:bootBuiltins x=some (.type T))(ha:PA X (e::es) t)(hn:autoParam (x≠"__name__") zO)(hdb:autoParam ((x==("__debug__":Str))=false) zO)
  (he:starEach (e::es) X.env=(false,eval e X.env)::starEach es X.env:=by rfl) (hpl:(backTo pos (starEach es X.env)).any (·.1)=false:=by rfl):PE X (.Call (.Name x p) (e::es) [] pos) (rK r t):=by
 intro Z9 s U H Q I h;refine wpAny_Call_Name_kw (VR I hg hm hv ?_ hn hdb);exact PyProof.Rows.callWith_type1 (Z2 (ha pos Z9 s U H _ I h) fun us s1 zq8=>by obtain⟨vs,H1,I1,r1,q1⟩:=zq8;exact hc Z9 s1 U H1 vs us Q I1 r1 q1) he hpl
end
end L2
namespace HT
open PySem PyProof.Rows
section
open PySem.SeqAt
open PySem.AutoSeq1 (wpAny_loadPart')
open PySem.MeetsSeq PySem.MeetsSeq2 PySem.MeetsSeq3
end
section
variable {prog:Program}{w:World}{A:Around}{E:Value->Shared->Prop}{s:Shared}
def zqf {t:Addr}{vs ws:List Value}{Q:Value->Shared->Prop}(ht:IsTup s.heap t vs.toArray)(hb:IsTup s.heap b ws.toArray)(hv:vs≠[])(h1:ws=[]->Q (.ref t) s)(h2:ws≠[]->Q (.ref s.heap.objs.size) { s with heap:=s.heap.push { cls:=.type "tuple",data:=.seq (vs++ws).toArray } })(hsz:vs.length+ws.length<=sizeLine):wpAny (model prog w) A (binaryOp .Add (.ref t) (.ref b)) Q E s:=by
 obtain⟨⟨cls,dd,data,sl⟩,ho,hc,n,hd⟩:=id ht;obtain⟨⟨cls2,dd2,data2,sl2⟩,ho2,hc2,n2,hd2⟩:=id hb;simp only at hc hd hc2 hd2;subst hc hd hc2 hd2;have e:vs.toArray++ws.toArray=(vs++ws).toArray:=by simp
 by_cases hw:ws=[]
 ·exact concat_meets ⟨_,ho,rfl⟩ ⟨_,ho2,rfl⟩ noFill_tuple_add seq_tuple_add PySem.F.slot_tuple_add PySem.F.entry_tuple_add (PySem.F.args_tuple_add_2 _ _)
   (tuple_addW1 t b vs.toArray ws.toArray n n2 dd dd2 sl sl2 (by simpa using hv) (by simp[hw])) ⟨ho,ho2,h1 hw⟩
 ·refine concat_meets ⟨_,ho,rfl⟩ ⟨_,ho2,rfl⟩ noFill_tuple_add seq_tuple_add PySem.F.slot_tuple_add PySem.F.entry_tuple_add (PySem.F.args_tuple_add_2 _ _)
   (tuple_addW2 t b vs.toArray ws.toArray n n2 dd dd2 sl sl2 (by simpa using hv) (by simpa using hw) (by rw[qB,qB];exact hsz)) ⟨ho,ho2,?_⟩
  rw[e];exact h2 hw
def sIx (n d:Nat):Option Int->Nat
 |none=>d
 |some v=>if v<0 then(v+(n:Int)).toNat else min v.toNat n
def vY (n d:Nat)(hd:d<=n)(o:Option Int):sIx n d o<=n:=by
 cases o with
 |none=>exact hd
 |some v =>
  show(if v<0 then(v+(n:Int)).toNat else min v.toNat n)<=n;by_cases hv:v<0
  ·rw[if_pos hv];lia
  ·rw[if_neg hv];exact Nat.min_le_right _ _
def vX (v:Int)(n d:Nat):(if v<0 then max (v+(n:Int)) 0 else min v (n:Int))=((sIx n d (some v):Nat):Int):=by
 show(if v<0 then max (v+(n:Int)) 0 else min v (n:Int))=(((if v<0 then(v+(n:Int)).toNat else min v.toNat n):Nat):Int);by_cases hv:v<0
 ·simp only[if_pos hv];lia
 ·simp only[if_neg hv];lia
def Ö (lo hi:Option Int)(n:Nat):Builtin.Slice.sliceAdjust lo hi 1 (n:Int)=(((sIx n 0 lo:Nat):Int),((sIx n n hi:Nat):Int)):=by
 have h1:¬ ((1:Int)<0):=by lia
 unfold Builtin.Slice.sliceAdjust;simp only[h1,if_false];refine Uh ?_ ?_
 ·cases lo with
  |none=>rfl
  |some v=>exact vX v n 0
 ·cases hi with
  |none=>rfl
  |some v=>exact vX v n n
def zlk (i j:Nat):Builtin.Slice.slicePlaces (i:Int) (j:Int) 1=j-i:=by
  unfold Builtin.Slice.slicePlaces;have h1:(1:Int) > 0:=by lia
  simp only[h1,if_true,Int.ediv_one];split<;>lia
def su {Q:Option Int->Shared->Prop}(p:IsPart v o)(h:Q o s):wpAny (model prog w) A (Builtin.Slice.slicePartIndex v) Q E s:=by
 cases p with
 |none=>exact slicePart_none h
 |int i t=>exact slicePart_int h
def wJ {sl:Addr}{vl vu:Value}{lo:Option Int}{n:Nat}{Q:Int×Int×Nat->Shared->Prop}(hs:s.heap.IsSliceOf sl vl vu .none)(pl:IsPart vl lo)(pu:IsPart vu hi)(h:Q (((sIx n 0 lo:Nat):Int),1,sIx n n hi-sIx n 0 lo) s):wpAny (model prog w) A (Builtin.Slice.sliceApplied (.ref sl) (pure (n:Int))) Q E s:=by obtain⟨os,hos,hcs,hds⟩:=id hs;unfold Builtin.Slice.sliceApplied Builtin.Slice.sliceFields;refine wpAny_bind (wpAny_bind (wpAny_field hos hds (x:=vl) rfl (wpAny_bind (wpAny_field hos hds (x:=vu) rfl (wpAny_bind (wpAny_field hos hds (x:=.none) rfl (wpAny_pure ?_)))))));refine wpAny_bind (slicePart_none ?_);show wpAny _ _ (if((1:Int)==0)=true then _ else _) _ _ s;rw[if_neg (by decide)];refine wpAny_bind (su pl (wpAny_bind (su pu (wpAny_bind (wpAny_pure ?_)))));show wpAny _ _ (match Builtin.Slice.sliceAdjust lo hi 1 (n:Int)with|(lo,hi)=>pure (lo,(1:Int),Builtin.Slice.slicePlaces lo hi 1)) _ _ s;rw[Ö lo hi n];show wpAny _ _ (pure (((sIx n 0 lo:Nat):Int),(1:Int),Builtin.Slice.slicePlaces ((sIx n 0 lo:Nat):Int) ((sIx n n hi:Nat):Int) 1)) _ _ s;rw[zlk];exact wpAny_pure h
def Ž (xs:Array Value)(i k:Nat):((List.range k).filterMap fun (m:Nat)=>xs[((i:Int)+(m:Int)*1).toNat]?).toArray=((xs.toList.drop i).take k).toArray:=by
 have e:(fun (m:Nat)=>xs[((i:Int)+(m:Int)*1).toNat]?)=fun m=>xs[i+m]?:=by
  funext m;have:((i:Int)+(m:Int)*1).toNat=i+m:=by lia
  rw[this]
 rw[e];have:=pick_run xs i k;rw[List.filterMap_map]at this;have e2:((fun x=>xs[x]?) ∘ fun x=>i+x)=fun m=>xs[i+m]?:=rfl
 rw[e2]at this;rw[this]
def ς {t sl:Addr}{items:Array Value}{vl vu:Value}{lo:Option Int}{Q:Value->Shared->Prop}(ht:IsTup s.heap t items)(hs:s.heap.IsSliceOf sl vl vu .none)(pl:IsPart vl lo)(pu:IsPart vu hi)(hw:¬ (sIx items.size 0 lo=0/\sIx items.size items.size hi=items.size))(h:Q (.ref s.heap.objs.size) { s with heap:=s.heap.push { cls:=.type "tuple",data:=.seq ((items.toList.drop (sIx items.size 0 lo)).take (sIx items.size items.size hi-sIx items.size 0 lo)).toArray } })(hsz:items.size<=sizeLine):wpAny (model prog w) A (getItem (.ref t) (.ref sl)) Q E s:=by
 have htake:sizeOk (.seq ((items.toList.drop (sIx items.size 0 lo)).take (sIx items.size items.size hi-sIx items.size 0 lo)).toArray):=by show((items.toList.drop (sIx items.size 0 lo)).take (sIx items.size items.size hi-sIx items.size 0 lo)).toArray.size<=sizeLine;rw[qB,Vj,IW,U6];lia
 have hj:sIx items.size items.size hi<=items.size:=vY _ _ (qh _) hi;obtain⟨os,hos,hcs,hds⟩:=id hs;have hTs:s.TypeIs (.ref sl) "slice":=⟨os,hos,hcs⟩
 unfold getItem
 try with_reducible refine wpAny_holding ?_
 first|refine wpAny_bind (wpAny_pure ?_)|skip
 refine wpAny_bind (wpAny_sequenceKey ht.typeIs (by decide) ?_)
 refine wpAny_bind (wpAny_callSpecial?_slot (name:=Str.ofString "__getitem__") ht.typeIs PyProof.Rows.slot_tuple_getitem
  (wpAny_call_entry PyProof.Rows.slot_tuple_getitem ht.typeIs entry_tuple_getitem ?_ (args_tuple_getitem _ _)))
 show wpAny _ _ (Builtin.Tuple.tupleItemsOf (.ref t) >>= _) _ _ s;refine wpAny_bind (tupleItemsOf_ ht ?_);refine wpAny_bind (wpAny_typeOf hTs ?_);rw[if_pos (by decide)];refine wpAny_bind (wJ hs pl pu ?_)
 have hno:¬ ((((sIx items.size 0 lo:Nat):Int)==0&&(1:Int)==1&&(sIx items.size items.size hi-sIx items.size 0 lo)==items.size)=true):=by intro q;rw[qr,qr]at q;have q1:((sIx items.size 0 lo:Nat):Int)=0:=eq_of_beq q.1.1;have q2:sIx items.size items.size hi-sIx items.size 0 lo=items.size:=eq_of_beq q.2;exact hw ⟨by lia,by lia⟩
 show wpAny _ _ (if(((sIx items.size 0 lo:Nat):Int)==0&&(1:Int)==1&&(sIx items.size items.size hi-sIx items.size 0 lo)==items.size)=true then _ else _) _ _ s;rw[if_neg hno,Ž]
 first
  |exact wpAny_bind (m:=Builtin.Tuple.tupleExact _) (wpAny_newObj_type (wpAny_pure ⟨_,rfl,wpAny_pure h⟩) htake)
  |exact wpAny_bind (m:=Builtin.Tuple.tupleExact _) (wpAny_newObj_type (wpAny_bind (wpAny_pure (wpAny_pure ⟨_,rfl,wpAny_pure h⟩))) htake)
  |exact wpAny_bind (wpAny_bind (m:=Builtin.Tuple.tupleExact _) (wpAny_newObj_type (wpAny_pure (wpAny_pure ⟨_,rfl,wpAny_pure h⟩)) htake))
  |exact wpAny_bind (wpAny_bind (m:=Builtin.Tuple.tupleExact _) (wpAny_newObj_type (wpAny_pure ⟨_,rfl,wpAny_pure h⟩) htake))
end
end HT
namespace L2
open PySem PySem.Spec PyProof.Rows
abbrev TO:=St->Hp->(Option Int->Hp->Prop)->Prop
def PO (X:Cx)(e:Option Expr)(t:TO):Prop :=
 ∀ (Z9:List (Addr×Obj)) (s:Shared) (U:St) (H:Hp) (Q:Option Int->Hp->Prop),Inv X Z9 U H s->t U H Q ->
  wpAny (model X.prog X.w) X.A (evalPart e X.env) (fun u s'=>∃ o H',Inv X Z9 U H' s'/\IsPart u o/\Q o H') X.xe s
def ź:TO:=fun _ H Q=>Q none H
def ĝ (t:TE):TO:=fun U H Q=>t U H fun x H1=>∃ i,x=.int i/\Q (some i) H1
section
variable {X:Cx}{e:Expr}{te:TE}{lo hi:Option Expr}{tl th:TO}{pos p2:Pos}
def Š:PO X none ź:=by intro Z9 s U H Q I h;rw[evalPart_none];exact wpAny_pure ⟨none,H,I,.none,h⟩
def Ĕ (h:PE X e te):PO X (some e) (ĝ te):=by
 intro Z9 s U H Q I hw;rw[evalPart_some];refine Z2 (h Z9 s U H _ I hw) fun u s1 ⟨x,H1,I1,r1,q1⟩=>?_
 obtain⟨i,rfl,q⟩:=q1;obtain⟨t,rfl⟩:=r1;exact⟨some i,H1,I1,.int i t,q⟩
def Tj (X:Cx)(r:V->Option Int->Option Int->Hp->VK->Prop):Prop :=
 ∀ (Z9:List (Addr×Obj)) (s:Shared) (U:St) (H:Hp) (x:V) (v vl vu:Value) (lo hi:Option Int) (sl:Addr) (Q:VK),Inv X Z9 U H s->RelV x v->s.heap.IsSliceOf sl vl vu .none->IsPart vl lo->IsPart vu hi->r x lo hi H Q ->
  ∃ T id,typeLookup (.type T) "__getitem__"=pure (some (.builtin id))/\s.TypeIs v T/\wpAny (model X.prog X.w) X.A (getItem v (.ref sl)) (EP X Z9 U Q) X.xe s
def Tj.or (h:Tj X r)(h':Tj X r'):Tj X (fun x lo hi H Q=>r x lo hi H Q\/r' x lo hi H Q):=by
 intro Z9 s U H x v vl vu lo hi sl Q I rx hs pl pu q;rcases q with q|q
 ·exact h Z9 s U H x v vl vu lo hi sl Q I rx hs pl pu q
 ·exact h' Z9 s U H x v vl vu lo hi sl Q I rx hs pl pu q
def iT (r:V->Option Int->Option Int->Hp->VK->Prop)(te:TE)(tl th:TO):TE:=fun U H Q=>te U H fun x H1=>tl U H1 fun l H2=>th U H2 fun u H3=>r x l u H3 Q
def zn1 (hr:Tj X r)(he:PE X e te)(hl:PO X lo tl)(hu:PO X hi th):PE X (.Subscript e (.Slice lo hi none p2) pos) (iT r te tl th):=by
 intro Z9 s U H Q I h;refine Subscript_ (Z2 (he Z9 s U H _ I h) fun v s1 ⟨x,H1,I1,r1,q1⟩=>?_);refine wpAny_Slice (Z2 (hl Z9 s1 U H1 _ I1 q1) fun vl s2 ⟨l,H2,I2,pl,q2⟩=>Z2 (hu Z9 s2 U H2 _ I2 q2) fun vu s3 ⟨u,H3,I3,pu,q3⟩=>?_);rw[evalPart_none];refine wpAny_pure ?_;have I4:Inv X Z9 U H3 { s3 with heap:=s3.heap.push { cls:=.type "slice",data:=.fields #[vl,vu,.none] } }:=I3.kept (t':=s3.toks) fun b ob q=>qc _ q
 obtain⟨T,id,hT,ht,hg⟩:=hr Z9 { s3 with heap:=s3.heap.push { cls:=.type "slice",data:=.fields #[vl,vu,.none] } } U H3 x v vl vu l u s3.heap.objs.size Q I4 r1 (Heap.IsSliceOf.new ..) pl pu q3;show wpAny (model X.prog X.w) X.A (subscriptTail e (.Slice lo hi none p2) v (.ref s3.heap.objs.size)) (EP X Z9 U Q) X.xe { s3 with heap:=s3.heap.push { cls:=.type "slice",data:=.fields #[vl,vu,.none] } };exact tail_any (ops:=[.ref s3.heap.objs.size,v]) ht hT hg (by with_unfolding_all rfl)
def Ur (xs:List V)(lo hi:Option Int):List V:=(xs.drop (HT.sIx xs.length 0 lo)).take (HT.sIx xs.length xs.length hi-HT.sIx xs.length 0 lo)
def pO (xs:List V)(lo hi:Option Int):(Ur xs lo hi).length<=xs.length:=by unfold Ur;rw[Vj,IW];lia
def bU (K:PySem.W.Frag):V->Option Int->Option Int->Hp->VK->Prop:=fun x lo hi H Q=>∃ a xs,x=.ref a/\ZG K H a xs /\
 ¬ (HT.sIx xs.length 0 lo=0/\HT.sIx xs.length xs.length hi=xs.length)/\∀ p,H p=none->Q (.ref p) (upd H p (.tup (Ur xs lo hi)))
def dO:Tj X (bU X.K):=by
 intro Z9 s U H x v vl vu lo hi sl Q I rx hs pl pu h;obtain⟨a,xs,rfl,hx,hw,q⟩:=h;cases rx;obtain⟨its,r,ht,hz⟩:=I.tuple hx;have hlen:its.toArray.size=xs.length:=by rw[qB];exact r.length.symm
 refine⟨"tuple",_,PyProof.Rows.slot_tuple_getitem.lookup,ht.typeIs,?_⟩;refine HT.ς ht hs pl pu (by rw[hlen];exact hw) ?_ (by rw[hlen];exact hz);rw[hlen];refine⟨.ref s.heap.objs.size,_,I.laid (t':=s.toks) (o:=.tup (Ur xs lo hi)) (fun b ob q=>qc _ q) (qh _) ?_,rfl,q _ (I.hok.fresh (qh _))⟩;exact⟨qZ (pO xs lo hi) hz,_,(r.drop (HT.sIx xs.length 0 lo)).take (HT.sIx xs.length xs.length hi-HT.sIx xs.length 0 lo),IsTup.new _ _⟩
def jg (K:PySem.W.Frag):R2:=fun x y H Q=>∃ a b xs ys,x=.ref a/\y=.ref b/\ZG K H a xs/\ZG K H b ys/\xs≠[]/\xs.length+ys.length<=sizeLine /\
 (ys=[]->Q (.ref a) H)/\(ys≠[]->∀ p,H p=none->Q (.ref p) (upd H p (.tup (xs++ys))))
def Vals.nil_iff (r:Vals xs us):us=[]↔xs=[]:=by
 cases r with
 |nil=>simp
 |cons _ _=>simp
def zrj:ZJ X (binaryOp .Add) (jg X.K):=by intro Z9 s U H x y v u Q I rx ry h;obtain⟨a,b,xs,ys,rfl,rfl,ha,hb,hx,hz,q1,q2⟩:=h;cases rx;cases ry;obtain⟨its,r1,p1,_⟩:=I.tuple ha;obtain⟨its2,r2,p2,_⟩:=I.tuple hb;refine HT.zqf p1 p2 (fun z=>hx (r1.nil_iff.mp z)) (fun z=>⟨.ref a,H,I,rfl,q1 (r2.nil_iff.mp z)⟩) (fun z=>?_) (by rw[<- r1.length,<- r2.length];exact hz);refine⟨.ref s.heap.objs.size,_,I.laid (t':=s.toks) (o:=.tup (xs++ys)) (fun b ob q=>qc _ q) (qh _) ?_,rfl,q2 (fun w=>z (r2.nil_iff.mpr w)) _ (I.hok.fresh (qh _))⟩;exact⟨by rw[qg];exact hz,_,r1.append r2,IsTup.new _ _⟩
end
def Pn (n:Nat)(i:Int):Option Nat:=if 0<=i then(if i<n then some i.toNat else none)else if -(n:Int)<=i then some (i+n).toNat else none
def QZ (xs:List α)(i:Int):Option α:=(Pn xs.length i).bind fun j=>xs[j]?
def mW {n:Nat}{i:Int}{j:Nat}(h:Pn n i=some j):seqIndex? i n=some j/\j<n/\-(n:Int)<=i/\i<n:=by
 unfold Pn at h;by_cases h0:0<=i
 ·rw[if_pos h0]at h;by_cases h1:i<n
  ·rw[if_pos h1]at h;have e:i.toNat=j:=qH h;exact⟨by rw[seqIndex_of h0 h1,e],by lia,by lia,h1⟩
  ·rw[if_neg h1]at h;cases h
 ·rw[if_neg h0]at h;by_cases h1:-(n:Int)<=i
  ·rw[if_pos h1]at h;have e:(i+n).toNat=j:=qH h;exact⟨by rw[seqIndex_neg (by lia) h1,e],by lia,h1,by lia⟩
  ·rw[if_neg h1]at h;cases h
def Dq {α:Type}{xs:List α}{i:Int}{v:α}(h:QZ xs i=some v):∃ j,seqIndex? i xs.length=some j/\xs[j]?=some v/\j<xs.length/\-(xs.length:Int)<=i/\i<xs.length:=by
 unfold QZ at h;cases e:Pn xs.length i with
 |none=>rw[e]at h;cases h
 |some j =>rw[e]at h;obtain⟨h1,h2,h3,h4⟩:=mW e;exact⟨j,h1,h,h2,h3,h4⟩
def Es (b:Expr):Prop:=∀ o i,subscripted b false o i=operate [o,i] (getItem o i)
def Tq (X:Cx)(r:R2):Prop :=
 ∀ (value slice:Expr) (Z9:List (Addr×Obj)) (s:Shared) (U:St) (H:Hp) (x y:V) (v u:Value) (Q:VK),Inv X Z9 U H s->RelV x v->RelV y u->r x y H Q ->
  subscripted slice false v u=operate [v,u] (getItem v u)->wpAny (model X.prog X.w) X.A (subscriptTail value slice v u) (EP X Z9 U Q) X.xe s
def IK (X:Cx)(id:String)(r:V->List V->Hp->VK->Prop):Prop :=
 ∀ (Z9:List (Addr×Obj)) (s:Shared) (U:St) (H:Hp) (x:V) (xs:List V) (v:Value) (us:List Value) (Q:VK),Inv X Z9 U H s->RelV x v->Vals xs us->r x xs H Q ->
  wpAny (model X.prog X.w) X.A (call (.builtin id) (v::us)) (EP X Z9 U Q) X.xe s
section
variable {X:Cx}{a b:Expr}{ta tb:TE}{pos:Pos}
def Tq.or (h:Tq X r)(h':Tq X r'):Tq X (fun x y H Q=>r x y H Q\/r' x y H Q):=by
 intro value slice Z9 s U H x y v u Q I rx ry q hs;rcases q with q|q
 ·exact h value slice Z9 s U H x y v u Q I rx ry q hs
 ·exact h' value slice Z9 s U H x y v u Q I rx ry q hs
def zwm (hr:Tq X r)(ha:PE X a ta)(hb:PE X b tb)(hs:Es b):PE X (.Subscript a b pos) (Mi r ta tb):=by intro Z9 s U H Q I h;exact Subscript_ (Cd ha hb I h fun v u s2 x y H2 I2 rx ry q=>hr a b Z9 s2 U H2 x y v u Q I2 rx ry q (hs _ _))
def ď (K:PySem.W.Frag):R2:=fun x y H Q=>∃ p xs i v,x=.ref p/\y=.int i/\Zz K H p xs/\QZ xs i=some v/\Q v H
def jD (K:PySem.W.Frag):R2:=fun x y H Q=>∃ p xs i v,x=.ref p/\y=.int i/\ZG K H p xs/\QZ xs i=some v/\Q v H
def zzb:R2:=fun x y H Q=>∃ z i c,x=.str z/\y=.int i/\z.length<=sizeLine/\QZ z.cps.toList i=some c/\Q (.str ⟨#[c]⟩) H
def zqF:Tq X (ď X.K):=by
  intro value slice Z9 s U H x y v u Q I rx ry h hs;obtain⟨p,xs,i,z,rfl,rfl,hq,he,q⟩:=h;cases rx;obtain⟨t,rfl⟩:=ry;obtain⟨its,r,pl,hz⟩:=I.list hq;obtain⟨j,h1,h2,h3,h4,h5⟩:=Dq he;obtain⟨w,ew,rw'⟩:=r.get h2;have hl:=r.length;have hn:=Qx;have fin:EP X Z9 U Q w s:=⟨z,H,I,rw',q⟩
  by_cases h0:0<=i
  . have hj : i.toNat = j := by
      rw[seqIndex_of h0 h5]at h1;exact qH h1
    exact item_listR pl.isList h0 (by lia) (by rw[hj];simpa using ew) fin hs
  . have hj : (i + (its.toArray.size : Int)).toNat = j := by
      rw[seqIndex_neg (by lia) h4]at h1;rw[qB,<- hl];exact qH h1
    exact subscriptTail_builtinR (x:=w) pl.isList.typeIs slot_list_getitem.lookup
      (wpAny_getItem_list_neg (Q:=fun r s'=>r=w/\EP X Z9 U Q r s') pl.isList (by lia) (by rw[qB]<;>lia) (by lia) (by rw[hj];simpa using ew) ⟨rfl,fin⟩) hs
def cI:Tq X (jD X.K):=by
 intro value slice Z9 s U H x y v u Q I rx ry h hs;obtain⟨p,xs,i,z,rfl,rfl,hq,he,q⟩:=h;cases rx;obtain⟨t,rfl⟩:=ry;obtain⟨its,r,pl,hz⟩:=I.tuple hq;obtain⟨j,h1,h2,h3,h4,h5⟩:=Dq he;obtain⟨w,ew,rw'⟩:=r.get h2;have hl:=r.length;have hn:=Qx;have fin:EP X Z9 U Q w s:=⟨z,H,I,rw',q⟩
 exact subscriptTail_builtinR (x:=w) pl.typeIs slot_tuple_getitem.lookup
  (getItem_tuple (j:=j) (Q:=fun r s'=>r=w/\EP X Z9 U Q r s') pl (by lia) (by lia) (by rw[qB,<- hl];exact h1) (by simpa using ew) ⟨rfl,fin⟩) hs
def zsH:Tq X zzb:=by
 intro value slice Z9 s U H x y v u Q I rx ry h hs;obtain⟨z,i,c,rfl,rfl,hz,he,q⟩:=h;obtain⟨t,rfl⟩:=rx;obtain⟨t',rfl⟩:=ry;obtain⟨j,h1,h2,h3,h4,h5⟩:=Dq he;have hl:z.cps.toList.length=z.length:=by simp[Str.length]
 rw[hl]at h1 h4 h5;have hn:=Qx
 exact tail_any (typeIs_str s z t) slot_str_getitem.lookup (getItem_str (c:=c) (by have e1:decide (i < -(2 ^ 63:Int))=false:=decide_eq_false (by lia);have e2:decide (i ≥ 2 ^ 63)=false:=decide_eq_false (by lia);rw[e1,e2,Bool.or_false]) (by rw[h1];simpa using h2) ⟨.str ⟨#[c]⟩,H,I.tok _,⟨_,rfl⟩,q⟩) hs
def gM (its:List Value)(n j:Nat)(u:Value):Obj.mapSeq (·.setIfInBounds j u) { cls:=.type "list",data:=.seq its.toArray n }={ cls:=.type "list",data:=.seq (its.set j u).toArray n }:=by simp[Obj.mapSeq]
theorem Inv.lst {xs:List V}(I:Inv X Z9 U H s)(h:H p=some (.lst xs)) :
  ∃ (its:List Value) (n:Nat),Vals xs its/\s.heap.get? p=some { cls:=.type "list",data:=.seq its.toArray n }/\xs.length<=sizeLine:=by
 obtain⟨z,its,n,r,e⟩:=I.hok p _ h;exact⟨its,n,r,e,z⟩
def Inv.lstUpd {xs:List V}{its its':List Value}{n n':Nat}{f:Obj->Obj}(I:Inv X Z9 U H s)(h:H p=some (.lst xs))(ho:s.heap.get? p=some { cls:=.type "list",data:=.seq its.toArray n })(hf:f { cls:=.type "list",data:=.seq its.toArray n }={ cls:=.type "list",data:=.seq its'.toArray n' })(r:Vals ys its')(hz:ys.length<=sizeLine)(t:Nat) :
    Inv X Z9 U (upd H p (.lst ys)) { s with heap:=s.heap.update p f,toks:=t }:=by
  have e:(s.heap.update p f).get? p=some { cls:=.type "list",data:=.seq its'.toArray n' }:=by rw[Heap.get?_update_self f ho (by rw[hf]<;>rfl),hf]
  refine I.write (x:=p) (e:=p) (by rw[h];trivial) (.inl rfl) (fun b u hb q=>(Heap.get?_update_other _ _ (Ne.symm hb)).trans q) ⟨_,e⟩ ?_;exact⟨hz,its',n',r,e⟩
def ē:V->V->V->Hp->(Hp->Prop)->Prop:=fun o i v H Q=>∃ p xs k j,o=.ref p/\i=.int k/\H p=some (.lst xs)/\Pn xs.length k=some j/\Q (upd H p (.lst (xs.set j v)))
def set_list:uL X ē:=by
 intro Z9 s U H o i v ov iv u Q I ro ri rv h;obtain⟨p,xs,k,j,rfl,rfl,hp,hj,q⟩:=h;cases ro;obtain⟨t,rfl⟩:=ri;obtain⟨its,n,r,ho,hz⟩:=I.lst hp;obtain⟨h1,h2,h3,h4⟩:=mW hj;have hl:=r.length;have hn:=Qx
 have I':Inv X Z9 U (upd H p (.lst (xs.set j v))) { s with heap:=s.heap.update p (Obj.mapSeq (·.setIfInBounds j u)) } :=I.lstUpd hp ho (gM its n j u) (r.set rv j) (by rw[XF];exact hz) s.toks
 by_cases h0:0<=k
 ·have hk:k.toNat=j:=by
   rw[seqIndex_of h0 h4]at h1;exact qH h1
  exact PySem.W.ki_setAt ho h0 (by lia) (by rw[qB,<- hl];exact h4) (by rw[hk];exact⟨_,I',q⟩)
 ·have hk:(k+(its.toArray.size:Int)).toNat=j:=by
   rw[seqIndex_neg (by lia) h3]at h1;rw[qB,<- hl];exact qH h1
  exact PySem.W.ki_setBack ho (by lia) (by rw[qB,<- hl];exact h3) (by lia) (by rw[hk];exact⟨_,I',q⟩)
def ŋ (lo hi:Option Int)(n:Nat):(sliceBounds lo hi none n).1=((HT.sIx n 0 lo:Nat):Int)/\(sliceBounds lo hi none n).2.1=((HT.sIx n n hi:Nat):Int)/\(sliceBounds lo hi none n).2.2=1:=by
  refine⟨?_,?_,rfl⟩
  . cases lo with
    |none=>simp[sliceBounds,HT.sIx]
    |some i =>
      simp only[sliceBounds,HT.sIx,Option.getD_none,show(1:Int) > 0 by decide,if_true];by_cases h:i<0
      . simp only[h,if_true]<;>lia
      . simp only[h,if_false]<;>lia
  . cases hi with
    |none=>simp[sliceBounds,HT.sIx]
    |some i =>
      simp only[sliceBounds,HT.sIx,Option.getD_none,show(1:Int) > 0 by decide,if_true];by_cases h:i<0
      . simp only[h,if_true]<;>lia
      . simp only[h,if_false]<;>lia
def cX (its:List Value)(lo hi:Option Int):slicePick its.toArray lo hi none=((its.drop (HT.sIx its.length 0 lo)).take (HT.sIx its.length its.length hi-HT.sIx its.length 0 lo)).toArray:=by obtain⟨h1,h2,h3⟩:=ŋ lo hi its.toArray.size;unfold slicePick;rw[h1,h2,h3];simp only[sliceRange_one,pick_run,qB]<;>rfl
def zyE (K:PySem.W.Frag):V->Option Int->Option Int->Hp->VK->Prop:=fun x lo hi H Q=>∃ a xs,x=.ref a/\Zz K H a xs/\∀ p,H p=none->Q (.ref p) (upd H p (.lst (Ur xs lo hi)))
def zr6:Tj X (zyE X.K):=by intro Z9 s U H x v vl vu lo hi sl Q I rx hs pl pu h;obtain⟨a,xs,rfl,hx,q⟩:=h;cases rx;obtain⟨its,r,ht,hz⟩:=I.list hx;have hlen:=r.length;refine⟨"list",_,slot_list_getitem.lookup,ht.isList.typeIs,?_⟩;refine wpAny_getItem_list_slice ht.isList hs pl pu .none (by simp) ?_ (by rw[qB]<;>lia);rw[cX,<- hlen];refine⟨.ref s.heap.objs.size,_,I.laid (t':=s.toks) (o:=.lst (Ur xs lo hi)) (fun b ob q=>qc _ q) (qh _) ?_,rfl,q _ (I.hok.fresh (qh _))⟩;exact⟨qZ (pO xs lo hi) hz,_,0,(r.drop (HT.sIx xs.length 0 lo)).take (HT.sIx xs.length xs.length hi-HT.sIx xs.length 0 lo),qo _ rfl⟩
def zjE:Y4 X (.builtin "len") (fun xs H Q=>∃ p ys,xs=[.ref p]/\(Zz X.K H p ys\/ZG X.K H p ys)/\Q (.int ys.length) H):=by
  intro Z9 s U H xs us Q I r h;obtain⟨p,ys,rfl,hq,q⟩:=h;obtain⟨u,rfl,rx⟩:=vals1 r;cases rx;have hn:=Qx;rcases hq with hq|hq
  . obtain⟨its,r',pl,hz⟩:=I.list hq;have hlen:=r'.length;exact Calls.call_len_list pl.isList (by simp only[qB]<;>lia) ⟨.int ys.length,H,I.tok _,⟨s.toks+1,by rw[qB,hlen]⟩,q⟩
  . obtain⟨its,r',pl,hz⟩:=I.tuple hq;have hlen:=r'.length;exact len_tuple pl (by simp only[qB]<;>lia) ⟨.int ys.length,H,I.tok _,⟨s.toks+1,by rw[qB,hlen]⟩,q⟩
def ø:Y4 X (.builtin "len") (fun xs H Q=>∃ z,xs=[.str z]/\z.length<=sizeLine/\Q (.int z.length) H):=by intro Z9 s U H xs us Q I r h;obtain⟨z,rfl,hz,q⟩:=h;obtain⟨u,rfl,t,rfl⟩:=vals1 r;have hn:=Qx;exact len_str (by lia) ⟨.int z.length,H,I.tok _,⟨_,rfl⟩,q⟩
def Y4.or (h:Y4 X f r)(h':Y4 X f r'):Y4 X f (fun xs H Q=>r xs H Q\/r' xs H Q):=by
 intro Z9 s U H xs us Q I rs q;rcases q with q|q
 ·exact h Z9 s U H xs us Q I rs q
 ·exact h' Z9 s U H xs us Q I rs q
def ã:Y4 X (.type "list") (fun xs H Q=>∃ p ys,xs=[.ref p]/\(Zz X.K H p ys\/ZG X.K H p ys)/\∀ l,H l=none->Q (.ref l) (upd H l (.lst ys))):=by
  intro Z9 s U H xs us Q I r h;obtain⟨p,ys,rfl,hq,q⟩:=h;obtain⟨u,rfl,rx⟩:=vals1 r;cases rx
  have fin : ∀ (its : List Value), Vals ys its → ys.length ≤ sizeLine → ∀ (h' : Heap) (c' : Nat), (∀ b o', s.heap.get? b = some o' → h'.get? b = some o') →
      h'.get? s.heap.objs.size=some { cls:=.type "list",dict:=none,data:=.seq its.toArray c',slots:=#[] }->EP X Z9 U Q (.ref s.heap.objs.size) { s with heap:=h' }:=fun its r' hz h' c' kp e =>
    ⟨.ref s.heap.objs.size,_,I.laid (t':=s.toks) kp (qh _) (show zZ X.prog X.w _ h' _ (.lst ys)from ⟨hz,its,c',r',e⟩),rfl,q _ (I.hok.fresh (qh _))⟩
  rcases hq with hq|hq
  . obtain⟨its,r',pl,hz⟩:=I.list hq;have hlen:=r'.length;obtain⟨o,ho,hc,n,hd⟩:=pl.isList;exact call_list_seq p (.inl rfl) ho hc hd (fun h' c' kp e=>fin its r' hz h' c' kp e) (by simp only[qB]<;>lia)
  . obtain⟨its,r',pl,hz⟩:=I.tuple hq;have hlen:=r'.length;obtain⟨o,ho,hc,n,hd⟩:=pl;exact call_list_seq p (.inr rfl) ho hc hd (fun h' c' kp e=>fin its r' hz h' c' kp e) (by simp only[qB]<;>lia)
def Io (K:PySem.W.Frag)(T:String)(x:V)(H:Hp):Prop:=match x with
 | .str _=>T="str"
 | .int _=>T="int"
 | .ref p=>(T="list"/\∃ xs,Zz K H p xs)\/(T="tuple"/\∃ o,K.lookup p=some o/\o.cls=.type "tuple"/\o.dict=none) \/
   (T="dict"/\((∃ Z8,H p=some (.dK Z8))\/∃ Z8,H p=some (.dT Z8)))\/(T="set"/\∃ S n,H p=some (.set S n))
 |_=>False
def pN {T:String}(I:Inv X Z9 U H s)(r:RelV x v)(ty:Io X.K T x H) :
  s.TypeIs v T/\∀ a,v=.ref a->∃ ob,s.heap.get? a=some ob/\ob.dict=none:=by
 cases x with
 |str z =>obtain⟨t,rfl⟩:=r;cases(show T="str" from ty);exact⟨typeIs_str s z t,fun _ e=>nomatch e⟩
 |int i =>obtain⟨t,rfl⟩:=r;cases(show T="int" from ty);exact⟨typeIs_int s i t,fun _ e=>nomatch e⟩
 |ref p =>
  cases r;rcases ty with⟨rfl,xs,hq⟩|⟨rfl,o,hk,hc,hd⟩|⟨rfl,hk⟩|⟨rfl,S,n,hk⟩
  ·obtain⟨its,_,pl,_⟩:=I.list hq;refine⟨pl.isList.typeIs,fun a e=>?_⟩;cases e;obtain⟨o,n,e,c,hd,_⟩:=pl;exact⟨o,e,hd⟩
  ·refine⟨⟨o,I.kIn p o hk,hc⟩,fun a e=>?_⟩;cases e;exact⟨o,I.kIn _ o hk,hd⟩
  ·have z:∃ o,s.heap.get? p=some o/\o.ExactDict:=by
    rcases hk with⟨Z8,hk⟩|⟨Z8,hk⟩
    ·obtain⟨_,_,_,_,o,_,_,e,ex,_⟩:=I.hok p _ hk;exact⟨o,e,ex⟩
    ·obtain⟨_,_,_,_,o,_,_,e,ex,_⟩:=I.hok p _ hk;exact⟨o,e,ex⟩
   obtain⟨o,e,ex⟩:=z;refine⟨⟨o,e,ex.1⟩,fun a e2=>?_⟩;cases e2;exact⟨o,e,ex.2.1⟩
  ·obtain⟨o,_,_,_,e,ex,_⟩:=I.hok p _ hk;refine⟨⟨o,e,ex.1⟩,fun a e2=>?_⟩;cases e2;exact⟨o,e,ex.2.1⟩
 |_=>exact False.elim ty
def zyC (K:PySem.W.Frag)(T:String)(r:V->List V->Hp->VK->Prop)(to:TE):TE:=fun U H Q=>to U H fun x H1=>Io K T x H1/\r x [] H1 Q
def tBM (K:PySem.W.Frag)(T:String)(r:V->List V->Hp->VK->Prop)(to:TE)(t:TA):TE:=fun U H Q=>to U H fun x H1=>Io K T x H1/\t U H1 fun xs H2=>r x xs H2 Q
variable {o e:Expr}{es:List Expr}{to:TE}{t:TA}{name:Str}{apos cpos:Pos}{T id:String}{r:V->List V->Hp->VK->Prop}
def aA (pa:PlainAttrs T)(slot:Slot T name id)(hty:typeOf (.builtin id)=pure (.type "method_descriptor"))(hm:IK X id r)(ho:PE X o to)
  (hbase:attributeBase o name X.env (eval o X.env)=eval o X.env:=by rfl) (hline:(apos.endLine==cpos.line)=true:=by rfl):PE X (.Call (.Attribute o name apos) [] [] cpos) (zyC X.K T r to):=by
 intro Z9 s U H Q I h;refine wpAny_Call_method0_late hbase hline (Z2 (ho Z9 s U H _ I h) fun v s1 ⟨x,H1,I1,r1,ty,q1⟩=>?_);obtain⟨h1,h2⟩:=pN I1 r1 ty;exact⟨T,id,pa,slot,hty,h1,h2,Calls.callWith_builtin rfl (PySem.evalArgs_none (hm Z9 s1 U H1 x [] v [] Q I1 r1 .nil q1))⟩
def iB (pa:PlainAttrs T)(slot:Slot T name id)(hty:typeOf (.builtin id)=pure (.type "method_descriptor"))(hm:IK X id r)(ho:PE X o to)(ha:PA X (e::es) t)
    (hbase:attributeBase o name X.env (eval o X.env)=eval o X.env:=by rfl)
    (hfew:((backTo cpos (starEach (e::es) X.env)).all (fun x=>!x.1)&&(backToKw cpos (keywordEach [] X.env)).all (fun x=>x.1.isSome)
     &&decide ((e::es).length+([]:List Keyword).length+(if([]:List Keyword).isEmpty then 0 else 1)<30))=true:=by rfl)
    (hline:(apos.endLine==cpos.line)=true:=by rfl) (hs:starEach (e::es) X.env=(false,eval e X.env)::starEach es X.env:=by rfl) (hplain:(backTo cpos (starEach es X.env)).any (·.1)=false:=by rfl) :
    PE X (.Call (.Attribute o name apos) (e::es) [] cpos) (tBM X.K T r to t):=by
  intro Z9 s U H Q I h;refine wpAny_Call_method_late hbase hfew hline rfl (Z2 (ho Z9 s U H _ I h) fun v s1 ⟨x,H1,I1,r1,ty,q1⟩=>?_);obtain⟨h1,h2⟩:=pN I1 r1 ty;refine⟨T,id,pa,slot,hty,h1,h2,?_⟩;have hA:=ha cpos Z9 s1 U H1 _ I1 q1;rw[hs]at hA ⊢;refine Calls.callWith_builtin (by show(false||(backTo cpos (starEach es X.env)).any (·.1))=false;rw[hplain]<;>rfl) (Calls.evalArgs_plain ?_);exact Z2 hA fun us s2 zq9=>by obtain⟨vs,H2,I2,r2,q2⟩:=zq9;exact hm Z9 s2 U H2 x vs v us Q I2 r1 r2 q2
/- xs.append(e),list.index on a module's tuple .. are IK facts of 06m -/
end
def HY (X:Cx)(id:String)(r:V->List V->Hp->VK->Prop):Prop :=
 ∀ (Z9:List (Addr×Obj)) (s:Shared) (U:St) (H:Hp) (x:V) (xs:List V) (v:Value) (us:List Value) (Q:VK),Inv X Z9 U H s->RelV x v->Vals xs us->r x xs H Q ->
  wpAny (model X.prog X.w) X.A (call (.builtin id) (v::us)) (EP X Z9 U Q) X.xe s
theorem Vals.one:∀ {x:V} {us:List Value},Vals [x] us->∃ u,us=[u]/\RelV x u
 |_,_,.cons r .nil=>⟨_,rfl,r⟩
theorem Vals.eraseIdx:∀ {xs:List V} {us:List Value} (i:Nat),Vals xs us->Vals (xs.eraseIdx i) (us.eraseIdx i)
 |_,_,_,.nil=>.nil
 |_,_,0,.cons _ t=>t
 |_,_,i+1,.cons r t=>.cons r (Vals.eraseIdx i t)
theorem pL {α:Type}:∀ (l:List α) (i:Nat),(l.eraseIdx i).length<=l.length
 |[],_=>qh _
 |_::_,0=>Nat.le_succ _
 |_::r,i+1=>Nat.succ_le_succ (pL r i)
section
variable {X:Cx}{Z9:List (Addr×Obj)}{U:St}{H:Hp}{s:Shared}{l b:Addr}{xs ys zs:List V}
def Inv.lset {its its':List Value}{n:Nat}{f:Array Value->Array Value}{t':Nat}(I:Inv X Z9 U H s)(hH:H l=some (.lst xs))
  (e:s.heap.get? l=some { cls:=.type "list",data:=.seq its.toArray n }) (hf:f its.toArray=its'.toArray) (hv:Vals ys its') (hz:ys.length<=sizeLine) :
  Inv X Z9 U (upd H l (.lst ys)) { s with heap:=s.heap.update l (Obj.mapSeq f),toks:=t' }:=by
 have q:=PySem.IsL.update e f;rw[hf]at q;refine I.write (x:=l) (e:=l) (by rw[hH];exact trivial) (.inl rfl) (fun b' u hb hu=>(Heap.get?_update_other s.heap (Obj.mapSeq f) (Ne.symm hb)).trans hu) ⟨_,q⟩ ?_;exact⟨hz,its',_,hv,q⟩
def Inv.lnew {t':Nat}(I:Inv X Z9 U H s)(hv:Vals ys its)(hz:ys.length<=sizeLine) :
  Inv X Z9 U (upd H s.heap.objs.size (.lst ys)) { s with heap:=s.heap.push { cls:=.type "list",data:=.seq its.toArray },toks:=t' } :=
 I.laid (fun _ _ q=>qc _ q) (qh _) ⟨hz,its,0,hv,qo _ rfl⟩
theorem Inv.fresh (I:Inv X Z9 U H s):H s.heap.objs.size=none:=I.hok.fresh (qh _)
def Inv.lstM (I:Inv X Z9 U H s)(hH:H l=some (.lst xs)):xs.length<=sizeLine/\∃ (its:List Value) (n:Nat),Vals xs its/\xs.length=its.length/\s.heap.get? l=some { cls:=.type "list",data:=.seq its.toArray n }:=by obtain⟨z,its,n,r,e⟩:=I.hok l _ hH;exact⟨z,its,n,r,r.length,e⟩
end
section
variable {X:Cx}
def yI:V->List V->Hp->VK->Prop:=fun x vs H Q=>∃ l xs y,x=.ref l/\vs=[y]/\H l=some (.lst xs)/\xs.length<sizeLine/\Q .non (upd H l (.lst (xs++[y])))
def uE:HY X "list.append" yI:=by intro Z9 s U H x vs v us Q I rx rv h;obtain⟨l,xs,y,rfl,rfl,hH,hz,q⟩:=h;cases rx;obtain⟨u,rfl,ru⟩:=rv.one;obtain⟨z,its,n,r,hl,e⟩:=I.lstM hH;refine call_meets F.slot_list_append ⟨_,e,rfl⟩ F.entry_list_append (F.args_list_append_2 _ _) (PySem.list_append l its.toArray n u (by rw[qB];lia)) ⟨e,?_⟩;refine⟨.non,_,I.lset (its':=its++[u]) hH e (by simp) (r.append (.cons ru .nil)) ?_,rfl,q⟩;rw[qg,qR];lia
def dj:V->List V->Hp->VK->Prop:=fun x vs H Q=>∃ l xs i k y,x=.ref l/\vs=[.int i]/\H l=some (.lst xs)/\-(2 ^ 63)<=i/\i<2 ^ 63/\seqIndex? i xs.length=some k/\xs[k]?=some y/\Q y (upd H l (.lst (xs.eraseIdx k)))
def zpb:HY X "list.pop" dj:=by
 intro Z9 s U H x vs v us Q I rx rv h;obtain⟨l,xs,i,k,y,rfl,rfl,hH,h1,h2,hk,hy,q⟩:=h;cases rx;obtain⟨u,rfl,ru⟩:=rv.one;obtain⟨t,rfl⟩:=ru;obtain⟨z,its,n,r,hl,e⟩:=I.lstM hH;obtain⟨w,hw,rw'⟩:=r.get hy
 refine call_meets F.slot_list_pop ⟨_,e,rfl⟩ F.entry_list_pop (F.args_list_pop_2 _ _)
  (MeetsSeq.list_pop_at l its.toArray n i t k w (fitsIndex_both h1 h2) (by rw[qB,<- hl];exact hk) (by rw[<- Hq];exact hw) (by rw[qB];lia)) ⟨e,?_⟩
 refine⟨y,_,I.lset (its':=its.eraseIdx k) hH e ?_ (r.eraseIdx k) ?_,rw',q⟩
 ·show its.toArray.eraseIdxIfInBounds k=(its.eraseIdx k).toArray;rw[List.eraseIdxIfInBounds_toArray]
 ·have:=pL xs k;lia
end
section
variable {prog:Program}{w:World}{A:Around}{E:Value->Shared->Prop}{s:Shared}
end
section
variable {X:Cx}
end
end L2
namespace Att
open PySem PySem.W PySem.Calls PyProof.Rows
def π {P:Params}{h:Heap}:∀ (ns:List Int) (vs:List Value),WellAll P h vs (ns.map WData.int)->IntsAre vs ns:=by
 intro ns
 induction ns with
 |nil =>intro vs w;rw[Qh]at w;cases w;exact .nil
 |cons n ns ih =>
  intro vs w;rw[qQ]at w;cases w with
  |cons a b =>cases a;exact .cons _ _ (ih _ b)
def ú {l:OpenLaw}{n:Nat}(hn:l.most=some n){args:List WData}(hpre:l.row.toRowW.claim.pre args=true)(hwl:WellAll P h vals args) :
  ∃ a vs ns,vals=[Value.ref a]/\args=[WData.list (ns.map WData.int)]/\h.get? a=some { cls:=.type "list",data:=.seq vs.toArray }/\IntsAre vs ns/\ns.length<=n:=by
 have hsh:WShape.hasAll [] args [.list .int]=true:=(pre_splitW hpre).1;have hc:l.pre.holds [] { args:=args }=true:=(pre_splitW hpre).2;obtain⟨d,r,rfl,h1,h2⟩:=hasAllW_cons hsh;obtain rfl:=hasAllW_nil h2;obtain⟨xs,rfl,h3⟩:=hasW_list h1;obtain⟨ns,rfl⟩:=items_int h3
 have hlen:ns.length<=n:=by
  unfold OpenLaw.pre at hc
  have h4:(WTm.not (.lt (.lit (.int (n:Int))) (.len (.arg 0)))).holds [] { args:=[.list (ns.map .int)] }=true:=by have h4:=(holds_andW hc).1;rw[hn]at h4;exact h4
  have h5:=condW_of h4 (w_not (w_lt w_lit (w_len_list (w_arg rfl))));rw[qa]at h5;refine QK fun q=>?_
  have q':(n:Int)<((ns.length:Nat):Int):=by lia
  first
   |(rw[decide_eq_true q']at h5;exact absurd h5 (by decide))
   |(simp at h5;lia)
 cases hwl with
 |cons w1 w2 =>
  cases w2;cases w1 with
  |list ho hall=>exact⟨_,_,ns,rfl,rfl,ho,π ns _ hall,hlen⟩
def znp (l:OpenLaw)(args:List WData):l.row.toRowW.claim.post args (.bool true) args=true :=
 postW_of (r:=l.row.toRowW) (X:=(true==true))
  (show WShape.has [] (.bool true) .bool=true by first|rfl|decide|simp[WShape.has,WShape.arms,WShape.armsAll])
  (show(WTm.eq .res (.lit (.bool true))).value [] { args:=args,res:=some (.bool true),after:=args }=some (.bool (true==true))from w_eq_bool (w_res rfl) w_lit) rfl
section
variable {prog:Program}{w:World}{A:Around}{E:Value->Shared->Prop}{s:Shared}{K:Frag}
end
end Att
namespace L2
open PySem PySem.Spec PyProof.Rows
theorem yj:∀ {vs:List Value} {ns:List Int},IntsAre vs ns->Vals (ns.map V.int) vs
 |_,_,.nil=>.nil
 |_,_,.cons n t h=>.cons ⟨t,rfl⟩ (yj h)
def Only (H:Hp):Prop:=∀ b,H b=none\/∃ o xs,H b=some (.frz o (.lst xs))
def znZ {P:Program}{w:World}{K:PySem.W.Frag}{mg mb:Str->Option Value}{CX:V6}{k:Nat}{fa a:Addr}{fd:FuncData}{x:Str}{sp:Sp}{s₁:Shared}{vs:List Value}(KX:K.In s₁.heap)(hns:s₁.heap.Ns mainGlobals mg)(hb:s₁.heap.Ns builtinsNs mb)(hbb:∀ x:Str,x≠"__name__"->mb x=bootBuiltins x)(hlim:s₁.heap.NoLimit)(hg:s₁.gens=#[])(ha:s₁.heap.get? a=some { cls:=.type "list",data:=.seq vs.toArray })(hi:IntsAre vs ns)(hl:ns.length<=sizeLine)(hr:zQ k callerA)(F:∀ base:Heap,K.In base->base.Ns mainGlobals mg->YJ P w K mg base CX k fa fd [x] sp)(hbind:∀ (s:Shared) (u:Value),BindsTo s fd ⟨[u],[]⟩ [(x,u)])(hsp:∀ H:Hp,Only H->Zz K H a (ns.map V.int)->sp [.ref a] H (fun v _=>v=.bl true) fun _ _ _=>False)(hCX:∀ H e s',CX [] H s₁ (fun _ _ _=>False) e s'->False) :
  codeAny (model P w) callerA (.call (.ref fa) ⟨[.ref a],[]⟩) (fun r s'=>r=.ok (.ret (.bool true))/\OldK s₁.heap s'.heap/\s'.os=s₁.os/\AllBare s'.gens) s₁:=by
 have rv:=yj hi;have lenV:=hi.length
 have core:∀ H:Hp,Only H->Zz K H a (ns.map V.int)->ZF P w H s₁.heap->(∀ b,H b≠none->b=a)->(H a≠none->K.lookup a=none) ->
   codeAny (model P w) callerA (.call (.ref fa) ⟨[.ref a],[]⟩) (fun r s'=>r=.ok (.ret (.bool true))/\OldK s₁.heap s'.heap/\s'.os=s₁.os/\AllBare s'.gens) s₁:=by
  intro H hO hS hok hA hK;have base_of:∀ {b:Addr} {o:Obj},s₁.heap.get? b=some o->H b=none->(TY s₁.heap H).get? b=some o:=fun e n=>ϻ e n
  have noA:∀ {b:Addr} {o:Obj} {es:Array DictEntry} {ep:Nat},s₁.heap.get? b=some o->o.data=.dict es ep->H b=none:=fun {b o es ep} e d=>by
   cases q:H b with
   |none=>rfl
   |some u =>have e':b=a:=hA b (by rw[q];simp);subst e';rw[ha]at e;cases e;have d':Data.seq vs.toArray _=Data.dict es ep:=d;cases d'
  have nsK:∀ {b:Addr} {m:Str->Option Value},s₁.heap.Ns b m->(TY s₁.heap H).Ns b m:=fun {b m} ⟨o,es,ep,e,d,r⟩=>⟨o,es,ep,base_of e (noA e d),d,r⟩
  have hKb:K.In (TY s₁.heap H):=fun b o e=>base_of (KX b o e) (by
   cases q:H b with
   |none=>rfl
   |some u =>have e':b=a:=hA b (by rw[q];simp);subst e';rw[hK (by rw[q];simp)]at e;cases e)
  have hM:Mod K mg (TY s₁.heap H):=⟨hKb,nsK hns,⟨mb,nsK hb,hbb⟩,by obtain⟨mc,h1,h2⟩:=hlim;exact⟨mc,nsK h1,h2⟩⟩
  have e0:Q7 P w K mg (TY s₁.heap H) callerA [] s₁ H:=⟨rfl,hM,fun b o e=>lW e,Nat.le_of_eq (jf _ _),trivial,fun b hb=>absurd (show b∈([]:List Addr)from hb) (by simp),hok,.of_eq hg⟩
  refine codeAny_mono ((F _ hKb (nsK hns)).run callerA [] s₁ H ⟨[.ref a],[]⟩ [.ref a] [.ref a] _ _ hr e0 (hbind s₁ (.ref a)) (.cons rfl .nil) (hsp H hO hS)) fun r s' h=>?_
  cases r with
  |error e=>exact(hCX H e s' h).elim
  |ok fl =>
   cases fl with
   |next=>exact False.elim h
   |brk=>exact False.elim h
   |cont=>exact False.elim h
   |ret u =>
    obtain⟨v,H',os,bare,un,hok',r',q⟩:=h;have q':v=.bl true:=q;subst q';obtain rfl:u=Value.bool true:=r';refine⟨rfl,OldK.of_keep fun b o e=>?_,os,bare⟩;cases q:H b with
    |none=>exact un.keep b o e q (by intro z;exact absurd (show b∈([]:List Addr)from z) (by simp)) (by simp)
    |some u =>
     rcases hO b with z|⟨ob,xs,z⟩
     ·rw[q]at z;cases z
     ·have z2:=un.frzs b ob _ z;obtain⟨e1,_⟩:=hok b _ z;obtain⟨e2,_⟩:=hok' b _ z2;rw[e]at e1;cases e1;exact e2
 cases hk:K.lookup a with
 |some o =>have e:=KX a o hk;rw[ha]at e;cases e;refine core (fun _=>none) (fun _=>.inl rfl) (.inr ⟨_,vs.toArray,_,hk,rfl,rfl,rfl,by rw[qB,lenV];exact hl,by simpa using rv⟩) (fun b u z=>by have z':(none:Option HO)=some u:=z;cases z') (fun b z=>absurd rfl z) fun z=>absurd rfl z
 |none =>
  refine core (fun b=>if b=a then some (.frz { cls:=.type "list",data:=.seq vs.toArray } (.lst (ns.map V.int)))else none) (fun b=>?_) (.inl (.inr ⟨{ cls:=.type "list",data:=.seq vs.toArray },if_pos rfl⟩)) (fun b u z=>?_) (fun b z=>?_) fun _=>hk
  ·by_cases hb:b=a
   ·exact .inr ⟨_,_,if_pos hb⟩
   ·exact .inl (if_neg hb)
  ·by_cases hb:b=a
   ·have z':=(if_pos hb).symm.trans z;cases z';subst hb;exact⟨ha,by rw[qa];exact hl,vs,_,rv,ha⟩
   ·have z':=(if_neg hb).symm.trans z;cases z'
  ·by_cases hb:b=a
   ·exact hb
   ·exact absurd (if_neg hb) z
def inClass (s:Stmt)(j:Nat):Stmt:=match s with
 |.ClassDef _ _ _ body _ _ _ _ _ _ _=>body.getD j (.Pass ⟨0,0,0,0⟩)
 |_=>.Pass ⟨0,0,0,0⟩
def Xi (s:Stmt):Arguments:=match s with
 |.FunctionDef _ a _ _ _ _ _ _ _ _=>a
 |_=>{ posonlyargs:=[],args:=[],vararg:=none,kwonlyargs:=[],kw_defaults:=[],kwarg:=none,defaults:=[] }
def X5 (s:Stmt):List Stmt:=match s with
 |.FunctionDef _ _ b _ _ _ _ _ _ _=>b
 |_=>[]
def zJ (s:Stmt):Scope:=match s with
 |.FunctionDef _ _ _ _ _ _ sc _ _ _=>sc
 |_=>{ kind:=.function,names:=[],isGenerator:=false,isCoroutine:=false }
abbrev Wg:V6:=fun _ _ _ _ _ _=>False
abbrev E0:XK:=fun _ _ _=>False
def vC {X:Cx}:Passes Wg X E0:=fun _ _ _ _ _ _ _ h=>h.elim
structure Xa (K:PySem.W.Frag)(x qual:Str)(st:Stmt)(f:Addr)(fd:FuncData):Prop where
 ex:∃ (oc:Value) (od:Option Addr) (kV doc pm:Value) (an:Option Addr) (cdv ct:Value) (osl:Array (Option Value)),
  fd=PySem.W.fnOf x qual (Xi st) (X5 st) (zJ st) .none kV doc pm an cdv ct/\K.lookup f=some ⟨oc,od,.func fd,osl⟩/\PySem.W.codeIn K cdv qual=true
 kp:PySem.W.keepIn K (.ref f)=true
section
variable {P:Program}{w:World}{K:PySem.W.Frag}{mg:Str->Option Value}{base:Heap}
def Xa.ok {st:Stmt}{k:Nat}{sp:Sp}(F:Xa K x qual st f fd)(S:Ph N ps (zJ st))(len:∀ vs H Q E,sp vs H Q E->vs.length=ps.length)(hbody:∀ (cdv:Value) (A:Around) (outer:List Env) (s:Shared) (H:Hp) (vs:List V) (Q:VK) (E:XK),zQ k (A.deeper (envOfC qual (zJ st) s.heap.objs.size f cdv))->sp vs H Q E ->
   ∃ t,XH (Vk Wg P w K mg base N qual (zJ st) f cdv A outer s H E).nox (X5 st) t/\t { nx:=fun _ H'=>Q .non H',rt:=Q } (start N vs) H):YJ P w K mg base Wg (k+1) f fd ps sp:=by
 obtain⟨oc,od,kV,doc,pm,an,cdv,ct,osl,rfl,lk,hcd⟩:=F.ex;refine xM lk hcd S len fun A outer s H vs Q E hr hsp=>?_
 obtain⟨t,h,q⟩:=hbody cdv A outer s H vs Q E hr hsp;exact⟨t,h.nox,q⟩
def Xa.binds {st:Stmt}{ps:List Str}(F:Xa K x qual st f fd)(h:∀ (kV doc pm:Value) (an:Option Addr) (cdv ct:Value) (us:List Value),us.length=ps.length->bindArgs (PySem.W.fnOf x qual (Xi st) (X5 st) (zJ st) .none kV doc pm an cdv ct) ⟨us,[]⟩=pure (ps.zip us)):Binds K fd ps []:=by obtain⟨oc,od,kV,doc,pm,an,cdv,ct,osl,rfl,lk,hcd⟩:=F.ex;exact .all (h kV doc pm an cdv ct)
def vO {x qual:Str}{st:Stmt}{oc:Value}{od an:Option Addr}{osl:Array (Option Value)}{kV doc pm cdv ct:Value}(l:K.lookup f=some ⟨oc,od,.func (PySem.W.fnOf x qual (Xi st) (X5 st) (zJ st) .none kV doc pm an cdv ct),osl⟩)(c:PySem.W.codeIn K cdv qual=true)(k:PySem.W.keepIn K (.ref f)=true):Xa K x qual st f (PySem.W.fnOf x qual (Xi st) (X5 st) (zJ st) .none kV doc pm an cdv ct):=⟨⟨oc,od,kV,doc,pm,an,cdv,ct,osl,rfl,l,c⟩,k⟩
end
def Ul {k:Nat}(hr:zQ k A):A.units+2<cLine:=Nat.lt_of_le_of_lt (Nat.add_le_add_left (by decide:2<=64) _) hr.units
section
variable {X:Cx}
end
end L2
namespace My
def Bd (n:Nat)(x:Int):Prop:=x.natAbs<2 ^ n
def Bd.mono {n:Nat}(h:Bd m x)(hmn:m<=n):Bd n x:=qF h (Nat.pow_le_pow_right (by decide) hmn)
def Bd.add {n:Nat}(h:Bd n x)(h':Bd n y):Bd (n+1) (x+y) :=Nat.lt_of_le_of_lt (Int.natAbs_add_le x y) (by rw[Nat.pow_succ,Nat.mul_two];exact Nat.add_lt_add h h')
def Bd.neg {n:Nat}(h:Bd n x):Bd n (-x):=by unfold Bd;rw[M9];exact h
def Bd.sub {n:Nat}(h:Bd n x)(h':Bd n y):Bd (n+1) (x-y):=by rw[Int.sub_eq_add_neg];exact h.add h'.neg
def Bd.mul {n:Nat}(h:Bd m x)(h':Bd n y):Bd (m+n) (x*y):=by unfold Bd at *;rw[Int.natAbs_mul,Nat.pow_add];exact Nat.mul_lt_mul'' h h'
def Bd.of_le {n:Nat}{x:Int}(h:Bd n y)(h':x.natAbs<=y.natAbs):Bd n x:=Nat.lt_of_le_of_lt h' h
def Bd.dvd {n:Nat}{x:Int}(h:Bd n y)(h0:y≠0)(d:x ∣ y):Bd n x :=h.of_le (Nat.le_of_dvd (by lia) (Int.natAbs_dvd_natAbs.mpr d))
theorem Bd.fdiv {n:Nat}{y:Int}(h:Bd n x):Bd n (x.fdiv y):=h.of_le (Int.natAbs_fdiv_le_natAbs x y)
def Bd.lit {n:Nat}{x:Int}(h:x.natAbs<2 ^ 200)(hn:200<=n):Bd n x:=Bd.mono (m:=200) h hn
def zow (a b:Int):Int.gcd b (a.fmod b)=Int.gcd a b:=by
 have e:a.fmod b=a-b*a.fdiv b:=by have:=Int.mul_fdiv_add_fmod a b;lia
 rw[e,Int.gcd_sub_mul_left_right,Int.gcd_comm]
def pP {a b:Int}(h0:0<=a)(h:a<b):a.natAbs<b.natAbs:=by refine Int.ofNat_lt.mp ?_;rw[JH h0,JH (Rv (Int.lt_of_le_of_lt h0 h))];exact h
def Ξ {a b:Int}(h:b≠0):(a.fmod b).natAbs<b.natAbs:=by
 rcases Int.lt_or_gt_of_ne h with h1|h1
 ·have e:(-(-a)).fmod (-(-b))=-((-a).fmod (-b)):=Int.neg_fmod_neg (-a) (-b);rw[Vh,Vh]at e;have h2:=pP (Int.fmod_nonneg_of_pos (-a) (Int.neg_pos_of_neg h1)) (Int.fmod_lt_of_pos (-a) (Int.neg_pos_of_neg h1));rw[e,M9];rwa[M9 b]at h2
 ·exact pP (Int.fmod_nonneg_of_pos a h1) (Int.fmod_lt_of_pos a h1)
def gd (t b:Int):Int:=if b<0 then -((Int.gcd t b:Nat):Int)else((Int.gcd t b:Nat):Int)
def Vn (t b:Int):Int:=t.fdiv (gd t b)
def frB (t b:Int):Int:=b.fdiv (gd t b)
def uG {t b:Int}(h:b≠0):gd t b≠0:=by
  have:Int.gcd t b≠0:=fun e=>h (Int.gcd_eq_zero_iff.mp e).2
  unfold gd;split<;>lia
def zj3 (t b:Int):gd t b ∣ t:=by
 unfold gd;split
 ·exact Int.neg_dvd.mpr (Int.gcd_dvd_left ..)
 ·exact Int.gcd_dvd_left ..
def vR (t b:Int):gd t b ∣ b:=by
 unfold gd;split
 ·exact Int.neg_dvd.mpr (Int.gcd_dvd_right ..)
 ·exact Int.gcd_dvd_right ..
def vG (t b:Int):Vn t b*gd t b=t:=Int.fdiv_mul_cancel (zj3 t b)
def Eb (t b:Int):frB t b*gd t b=b:=Int.fdiv_mul_cancel (vR t b)
def fU (t b:Int):Vn t b*b=frB t b*t:=by have h1:=vG t b;have h2:=Eb t b;generalize Vn t b=x at *;generalize frB t b=y at *;generalize gd t b=g at *;subst h1 h2;rw[Wf y g,<- Int.mul_assoc,Wf (x*g) y]
def ϸ {t b:Int}(h:b≠0):1<=frB t b:=by
  have h2:=Eb t b;have h3:gd t b≠0:=uG h
  have h4:0<b->0<gd t b:=by intro hb;unfold gd at *;split<;>lia
  have h5:b<0->gd t b<0:=by intro hb;unfold gd at *;split<;>lia
  generalize frB t b=y at *;generalize gd t b=g at *;rcases Int.lt_or_gt_of_ne h with hb|hb
  . have hg:=h5 hb;rcases Int.lt_or_le y 1 with hy|hy
    . have:0<=y*g:=Int.mul_nonneg_of_nonpos_of_nonpos (by lia) (by lia);lia
    . exact hy
  . have hg:=h4 hb;rcases Int.lt_or_le y 1 with hy|hy
    . have:y*g<=0:=Int.mul_nonpos_of_nonpos_of_nonneg (by lia) (by lia);lia
    . exact hy
def zt6 {t b:Int}(h:b≠0):Int.gcd (Vn t b) (frB t b)=1:=by
  have h0:0<Int.gcd t b:=Nat.pos_of_ne_zero fun e=>h (Int.gcd_eq_zero_iff.mp e).2
  have h1:=vG t b;have h2:=Eb t b;have e:Int.gcd (Vn t b*gd t b) (frB t b*gd t b)=Int.gcd (Vn t b) (frB t b)*(gd t b).natAbs:=Int.gcd_mul_right ..;rw[h1,h2]at e;have e2:(gd t b).natAbs=Int.gcd t b:=by unfold gd;split<;>lia
  rw[e2]at e;exact Nat.eq_of_mul_eq_mul_right h0 (by lia)
def Ï {n:Nat}{t b:Int}(h:b≠0)(hb:Bd n b):Bd n (gd t b):=hb.dvd h (vR t b)
def zuQ {n:Nat}{t:Int}(hb:Bd n b):Bd n (frB t b):=hb.fdiv
def ô {n:Nat}{t b:Int}(hb:Bd n t):Bd n (Vn t b):=hb.fdiv
open PySem PySem.Spec PyProof.Rows L2
def zwo (_ j:Int):Prop:=j≠0/\Bd 8000 j
def Ϗ (_ j:Int):Prop:=j≠0
def Av (h:Bd 8000 j):j.natAbs.log2<9000:=by
 rcases Nat.eq_zero_or_pos j.natAbs with e|e
 ·rw[e];decide
 ·have:j.natAbs.log2<8000:=(Nat.log2_lt (Wh e)).mpr h;lia
def tR (h:Bd 8000 j):Builtin.Int.intBits j<=2 ^ 20:=by
 unfold Builtin.Int.intBits;split
 ·exact qX _
 ·have:=Av h;lia
section
variable {X:Cx}
def zod:ZJ X (binaryOp .FloorDiv) (rI zwo fun i j=>.int (i.fdiv j)):=Nm fun _ _ _ _ _ _ _ hc q=>floordiv_int hc.1 q (.inl (PyProof.noPylong_of_log2 (Av hc.2)))
def zqR:ZJ X (binaryOp .Mod) (rI Ϗ fun i j=>.int (i.fmod j)):=Ϸ
def Ac (g:Bool->Bool->V):R2:=fun x y H Q=>∃ i j,x=.bl i/\y=.bl j/\Q (g i j) H
def Ğ {i j:Int}{a b:Nat}{p1 p2 pos:Pos}(c:Int)(h:i ^ j.toNat=c)(h0:0<=j/\j<=1000000/\i.natAbs<2 ^ 64):PE X (.BinOp (.Constant (.int i) a p1) .Pow (.Constant (.int j) b p2) pos) (tC (.int c)):=by intro Z9 s U H Q I q;have q':Q (.int c) H:=q;rw[<- h]at q';exact oh zvQ Ea Ea Z9 s U H Q I ⟨i,j,rfl,rfl,h0,q'⟩
def zy8:List V->Hp->VK->Prop:=fun xs H Q=>∃ i,xs=[.int i]/\Q (.int (i.natAbs:Int)) H
def Ź:Y4 X (.builtin "abs") zy8:=fun Z9 s U H xs us Q I r h=>by
  obtain⟨i,e,q⟩:=h;refine iW Z9 s U H xs us Q I r ⟨i,e,?_⟩;have:(if i<0 then -i else i)=(i.natAbs:Int):=by split<;>lia
  rw[this];exact q
def fO (K:PySem.W.Frag):List V->Hp->VK->Prop:=fun xs H Q=>∃ p ys,xs=[.ref p]/\(Zz K H p ys\/ZG K H p ys)/\Q (.int ys.length) H
def jk:Y4 X (.builtin "len") (fO X.K):=zjE
def zww (K:PySem.W.Frag):List V->Hp->VK->Prop:=fun xs H Q=>∃ p ys,xs=[.ref p]/\(Zz K H p ys\/ZG K H p ys)/\∀ l,H l=none->Q (.ref l) (upd H l (.lst ys))
def zlP:Y4 X (.type "list") (zww X.K):=ã
def zyy:List V->Hp->VK->Prop:=fun xs H Q=>(∃ i,xs=[.int i]/\Q (.int i) H)\/∃ k,xs=[.bl k]/\Q (.int (if k then 1 else 0)) H
def zmz:Y4 X (.type "int") zyy:=Ċ
def zy6:List V->Hp->VK->Prop:=fun xs H Q=>∃ i j,xs=[.int i,.int j]/\Q (.int (if j > i then j else i)) H
def zl5 (hc:X.calm=true):Y4 X (.builtin "max") zy6:=jP hc
def zyb:List V->Hp->VK->Prop:=fun xs H Q=>∃ i j,xs=[.int i,.int j]/\Q (.int (if j<i then j else i)) H
def bI (hc:X.calm=true):Y4 X (.builtin "min") zyb:=jz hc
def χ {T:String}{pos:Pos}(hg:Gl X x)(hm:X.mg x=none)(hv:bootBuiltins x=some (.type T))(hn:autoParam (x≠"__name__") zO)(hd:autoParam ((x==("__debug__":Str))=false) zO):PE X (.Name x pos) (tC (.ty T)):=mC (v:=.ty T) hg hm hv rfl hn hd
def Ν (K:PySem.W.Frag):List V->Hp->VK->Prop:=fun xs H Q=>∃ x c t b,xs=[x,.ty c]/\WW K H x t/\PySem.W.kitOne K t (.type c)=some b/\Q (.bl b) H
def zoF:Y4 X (.builtin "isinstance") (Ν X.K):=fun Z9 s U H xs us Q I r h=>by obtain⟨x,c,t,b,rfl,ty,e,q⟩:=h;obtain⟨u,w',rfl,ru,rw'⟩:=vals2 r;cases rw';exact zmb I ru ty e fun tk=>⟨.bl b,H,I.tok _,rfl,q⟩
end
section
variable {X:Cx}{K:PySem.W.Frag}
end
structure Got (P:Program)(w:World)(K:PySem.W.Frag)(mg:Str->Option Value)(base:Heap)(k:Nat)(x:Str)(ps:List Str)(sp:Sp):Prop where
 ex:∃ f fd,YJ P w K mg base Wg k f fd ps sp/\Binds K fd ps []/\PySem.W.keepIn K (.ref f)=true/\mg x=some (.ref f)
def ztr {X:Cx}{k:Nat}{sp:Sp}{p pos:Pos}{e:Expr}{es:List Expr}{t:TA}(G:Got X.prog X.w X.K X.mg X.base k x ps sp)(hr:zQ j X.A)(hk:k<=j)(hg:Gl X x)(ha:PA X (e::es) t)(hdb:autoParam ((x==("__debug__":Str))=false) zO)(he:autoParam (starEach (e::es) X.env=(false,eval e X.env)::starEach es X.env) zy)(hpl:autoParam ((backTo pos (starEach es X.env)).any (·.1)=false) zy) :
  PE X (.Call (.Name x p) (e::es) [] pos) (Ew sp [] E0 t):=by
 intro Z9 s U H Q I h;obtain⟨f,fd,F,b,kp,m⟩:=G.ex;exact Ϭ (F.mono hk) hr hg m kp b .nil vC ha hdb he hpl Z9 s U H Q I h
section
variable {nx:L2.St->Hp->Prop}{rt:VK}{bk ct:L2.St->Hp->Prop}{U:L2.St}{H:Hp}{K:PySem.W.Frag}
end
section
variable {U:L2.St}{H:Hp}{K:PySem.W.Frag}
def aL:R2:=fun x y H Q=>y=.non/\Q (.bl (decide (x=.non))) H
def zwn:R2:=fun x y H Q=>y=.non/\Q (.bl (!decide (x=.non))) H
def zxB {X:Cx}:ZJ X (compareOp .Is) aL:=zsR
def ztb {X:Cx}:ZJ X (compareOp .IsNot) zwn:=fV
end
def Vd {H:Hp}{o u:HO}(hp:H p=none)(h:H b=some u):upd H p o b=some u:=by rw[zu (TF h hp)];exact h
theorem ō {prog:Program}{w:World}{A:Around}{R:Result->Shared->Prop}{s:Shared}{elt target iter:Expr}{ifs:List Expr}{scope:Scope}{pos:Pos}{it acc:Value}{env:Env}(I:Nat->Shared->Prop)
  (turn:∀ n s,I n s->wpAny (model prog w) A (pyNext it) (fun r s₁=>match r with
   |none=>R (.ok .next) s₁
   |some v=>wpAny (model prog w) A (letOwnedTupleGo target it v) (fun _ s₁'=>wpAny (model prog w) A (assign target env v) (fun _ s₂ =>
     wpAny (model prog w) A (forIn ifs true fun c r=>if r=true then do let ok <- isTrue c env (eval c env);pure (ForInStep.yield ok)else pure (ForInStep.yield r)) (fun ok s₃ =>
      if ok=true then wpAny (model prog w) A (eval elt env) (fun x s₄ =>wpAny (model prog w) A (call (.builtin "list.append") [acc,x]) (fun _ s₅=>∃ m,m<n/\I m s₅) (fun _ _=>False) s₄) (fun _ _=>False) s₃
      else ∃ m,m<n/\I m s₃) (fun _ _=>False) s₂) (fun _ _=>False) s₁') (fun _ _=>False) s₁) (fun _ _=>False) s)
  (n:Nat) (h:I n s):codeAny (model prog w) A (.compLoop (.ListComp elt [⟨target,iter,ifs,0⟩] scope pos) 0 it acc env) R s:=by
 refine codeAny_loop rfl I (fun n s hI=>?_) n h;show wpAny _ A ((compTurn (.ListComp elt [⟨target,iter,ifs,0⟩] scope pos) 0 it acc env).onRaise (fun x=>do noteFrame x env;theTreesLotGoes x)) _ _ s;refine wpAny_noted ?_;rw[compTurn_list];refine wpAny_bind (wpAny_standAt (wpAny_bind (wpAny_mono (turn n s hI) (fun r s₁ h₁=>?_) fun _ _ h'=>h'.elim)));cases r with
 |none=>exact wpAny_pure h₁
 |some v =>
  refine wpAny_bind (wpAny_mono h₁ (fun _ s₁' h₁'=>?_) fun _ _ h'=>h'.elim);refine wpAny_bind (wpAny_mono h₁' (fun _ s₂ h₂=>wpAny_bind (wpAny_mono h₂ (fun ok s₃ h₃=>?_) fun _ _ h'=>h'.elim)) fun _ _ h'=>h'.elim);cases ok with
  |false=>exact wpAny_pure ⟨rfl,h₃⟩
  |true =>exact wpAny_bind (wpAny_bind (wpAny_mono h₃ (fun x s₄ h₄=>wpAny_bind (wpAny_mono h₄ (fun _ s₅ h₅=>wpAny_pure (wpAny_pure ⟨rfl,h₅⟩)) fun _ _ h'=>h'.elim)) fun _ _ h'=>h'.elim))
def inner (X:Cx)(sc:Scope)(N:List Str)(cl:List (Str×Addr))(C:Addr)(s₀:Shared)(H₀:Hp)(ex:List Addr):Cx :={ X with N:=N,s₀:=s₀,H₀:=H₀,env:=compEnvC sc cl C X.env,outer:=X.stack,ex:=ex,fn:=fun x=>sc.names.lookup x==some .cell,pn:=[] }
def QM (X:Cx)(ifs:List Expr)(t:TT):Prop :=
 ∀ (Z9:List (Addr×Obj)) (s:Shared) (U:L2.St) (H:Hp) (Q:Bool->Hp->Prop),Inv X Z9 U H s->t U H Q ->
  wpAny (model X.prog X.w) X.A (forIn ifs true fun c r=>if r=true then do let ok <- isTrue c X.env (eval c X.env);pure (ForInStep.yield ok)else pure (ForInStep.yield r)) (TP X Z9 U Q) X.xe s
def Ρ:TT:=fun _ H Q=>Q true H
def Ĺ {X:Cx}:QM X [] Ρ:=fun _ _ _ H _ I h=>wpAny_tests_nil ⟨H,I,h⟩
def à {t:TT}(h:PT X c t):QM X [c] t:=fun Z9 s U H Q I q=>wpAny_tests_one (h Z9 s U H Q I q)
def Ve (X:Cx)(sc:Scope):List Str->List Nat->Prop
 |[],[]=>True
 |x::xs,j::js=>X.N[j]?=some x/\sc.names.lookup x=some .free/\X.env.kindOf x=some .cell/\Ve X sc xs js
 |_,_=>False
def Wy (P:Str->Prop):List (Str×NameKind)->Prop
 |[]=>True
 |(n,.free)::r=>P n/\Wy P r
 |_::r=>Wy P r
theorem Wy.of {P:Str->Prop}:∀ {l:List (Str×NameKind)},Wy P l->∀ y∈l,y.2=.free->P y.1
  |(n,k)::r,h,y,hy,e=>by
    rcases ql.mp hy with rfl|hy
    . dsimp only at e;subst e;exact h.1
    . refine Wy.of (l:=r) ?_ y hy e;cases k<;>first|exact h.2|exact h
def cst (own:List Str)(fv:List Nat)(U:L2.St):L2.St:=List.replicate own.length none++fv.map fun j=>(U[j]?).join
def X7:L2.St->L2.St->Prop
 |[],[]=>True
 |none::r,_::s=>X7 r s
 |some v::r,some w::s=>v=w/\X7 r s
 |_,_=>False
theorem X7.len:∀ {a b:L2.St},X7 a b->b.length=a.length
  |[],[],_=>rfl
  |none::r,_::s,h=>congrArg (· + 1) (X7.len (a:=r) (b:=s) h)
  |some v::r,some w::s,h=>congrArg (· + 1) (X7.len (a:=r) (b:=s) h.2)
theorem X7.get:∀ {a b:L2.St},X7 a b->∀ (i:Nat) (v:V),a[i]?=some (some v)->b[i]?=some (some v)
 |none::r,_::s,h,i,v,e=>by
  cases i with
  |zero=>simp at e
  |succ i=>simpa using X7.get (a:=r) (b:=s) h i v (by simpa using e)
 |some v'::r,some w::s,h,i,v,e=>by
  cases i with
  |zero=>simp at e;subst e;simp[h.1]
  |succ i=>simpa using X7.get (a:=r) (b:=s) h.2 i v (by simpa using e)
def CG (own:List Str)(fv:List Nat)(wi:TI)(g:TG)(tc:TT)(te:TE):TE:=fun U H Q=>wi U H fun J H1=>∀ p,H1 p=none ->
 ∃ W:Nat->Nat->Hp->Prop,(∃ m,W 0 m (upd H1 p (.lst [])))/\∀ i m H2,W i m H2 ->
  (J.stop i H2/\Q (.ref p) H2)\/(J.go i H2/\∀ x H',J.yld i H2 x H'->g x (cst own fv U) H' fun σ2 H3=>X7 (cst own fv U) σ2/\tc σ2 H3 fun b H4 =>
   if b=true then te σ2 H4 fun y H5=>∃ ys,H5 p=some (.lst ys)/\ys.length<sizeLine/\∃ m',m'<m/\W (i+1) m' (upd H5 p (.lst (ys++[y])))
   else ∃ m',m'<m/\W (i+1) m' H4)
def ċ {env:Env}{n:Str}{c:Addr}(h:env.cells.lookup n=some c):cellOf env n=pure c:=by unfold cellOf;rw[h]
theorem CK {env:Env}:∀ (names:List (Str×NameKind)) (cs:List (Str×Addr)),(∀ y∈names,y.2=.free->∃ c,env.cells.lookup y.1=some c)->(∀ x c,cs.lookup x=some c->env.cells.lookup x=some c) ->
    ∃ cl,(forIn names cs fun (x:Str×NameKind) (r:List (Str×Addr))=>if(x.2==NameKind.free)=true then do let a <- cellOf env x.1;pure (ForInStep.yield ((x.1,a)::r))else pure (ForInStep.yield r))=(pure cl:Sem (List (Str×Addr))) /\
      (∀ x c,cl.lookup x=some c->env.cells.lookup x=some c)/\(∀ x,(cs.lookup x).isSome=true->(cl.lookup x).isSome=true)/\∀ y∈names,y.2=.free->(cl.lookup y.1).isSome=true
  |[],cs,_,h2=>⟨cs,rfl,h2,fun _ h=>h,fun _ h=>nomatch h⟩
  |(n,k)::r,cs,h1,h2=>by
    rw[Kr];by_cases hk:k=.free
    . subst hk;obtain⟨c,hc⟩:=h1 (n,.free) qP rfl
      obtain⟨cl,e,a1,a2,a3⟩:=CK (env:=env) r ((n,c)::cs) (fun y hy=>h1 y (qi _ hy)) (fun x d hx=>by
        rw[qq]at hx;by_cases hxn:x=n
        . subst hxn;simp at hx;subst hx;exact hc
        . have:(x==n)=false:=by simpa using hxn
          rw[this]at hx;exact h2 x d hx)
      refine⟨cl,?_,a1,fun x hx=>a2 x ?_,fun y hy e'=>?_⟩
      . simp only[beq_self_eq_true,if_true,ċ hc];simpa using e
      . rw[qq];split<;>simp_all
      . rcases ql.mp hy with rfl|hy
        . exact a2 _ (by simp[qq])
        . exact a3 y hy e'
    . have hb:(k==NameKind.free)=false:=by simpa using hk
      obtain⟨cl,e,a1,a2,a3⟩:=CK (env:=env) r cs (fun y hy=>h1 y (qi _ hy)) h2;refine⟨cl,?_,a1,a2,fun y hy e'=>?_⟩
      . simp only[hb,Tt,if_false];simpa using e
      . rcases ql.mp hy with rfl|hy
        . exact absurd e' hk
        . exact a3 y hy e'
def rF {env:Env}{sc:Scope}(h:∀ y∈sc.names,y.2=.free->∃ c,env.cells.lookup y.1=some c) :
  ∃ cl,closureFor sc env=pure cl/\(∀ x c,cl.lookup x=some c->env.cells.lookup x=some c)/\∀ y∈sc.names,y.2=.free->(cl.lookup y.1).isSome=true:=by
 obtain⟨cl,e,a1,_,a3⟩:=CK (env:=env) sc.names [] h (fun x c hx=>by simp at hx);refine⟨cl,?_,a1,a3⟩;unfold closureFor;have e2:=e
 first
  |exact e2
  |(show(do let cs <- forIn sc.names [] _;pure cs)=_;rw[show(forIn sc.names [] _:Sem (List (Str×Addr)))=pure cl from e2];rfl)
  |simpa using e2
theorem Cw {env:Env}{x:Str}:∀ {names:List (Str×NameKind)},(names.map fun (n,k)=>if(k==NameKind.free&&env.scope.kind==.function&&env.kindOf n==some .cell)then(n,NameKind.cell)else(n,k)).lookup x =
    (names.lookup x).map fun k=>if(k==NameKind.free&&env.scope.kind==.function&&env.kindOf x==some .cell)then NameKind.cell else k
  |[]=>rfl
  |(n,k)::r=>by
    have ih:=Cw (env:=env) (x:=x) (names:=r);rw[qQ];by_cases hx:x=n
    . subst hx;dsimp only;split<;>simp_all [qq]
    . have hb:(x==n)=false:=by simpa using hx
      dsimp only;split<;>(rw[qq,qq,hb];exact ih)
theorem mem_of_lookup {β:Type}{x:Str}{k:β}:∀ {l:List (Str×β)},l.lookup x=some k->(x,k)∈l
 |(n,b)::r,h=>by
  rw[qq]at h;by_cases hx:x=n
  ·subst hx;simp at h;subst h;exact qP
  ·have hb:(x==n)=false:=by simpa using hx
   rw[hb]at h;exact qi _ (mem_of_lookup h)
theorem Rj:∀ (names:List (Str×NameKind)) (n:Nat) (acc:List (Str×Addr)),cellsFrom n names acc=cellsFrom n names []++acc
 |[],_,_=>rfl
 |(x,k)::r,n,acc=>by
  unfold cellsFrom;split
  ·rw[Rj r (n+1) ((x,n)::acc),Rj r (n+1) [(x,n)],qj];rfl
  ·exact Rj r n acc
theorem Di:∀ {names:List (Str×NameKind)} {n:Nat} {x:Str} {c:Addr},(x,c)∈cellsFrom n names []->(x,NameKind.cell)∈names
 |(y,k)::r,n,x,c,h=>by
  unfold cellsFrom at h;split at h
  ·rename_i hk;rw[Rj]at h;rcases qC.mp h with h|h
   ·exact qi _ (Di h)
   ·have e:(x,c)=(y,n):=by simpa using h
    cases e;rw[show k=NameKind.cell by simpa using hk];exact qP
  ·exact qi _ (Di h)
theorem Fo:∀ {names:List (Str×NameKind)} {n:Nat} {x:Str},(x,NameKind.cell)∈names->((cellsFrom n names []).lookup x).isSome=true
 |(y,k)::r,n,x,h=>by
  unfold cellsFrom;rcases ql.mp h with e|h
  ·cases e;rw[if_pos (by rfl),Rj,LK];cases(cellsFrom (n+1) r []).lookup y with
   |some c=>rfl
   |none=>simp
  ·have ih:=Fo (n:=n) h;have ih':=Fo (n:=n+1) h;split
   ·rw[Rj,LK];obtain⟨c,hc⟩:=Lq.mp ih';rw[hc];rfl
   ·exact ih
def aH {M:Model}{A:Around}{E:Value->Shared->Prop}{s:Shared}{scope:Scope}{globals:Addr}{closure:List (Str×Addr)}{qual:Str}{func:Option Addr}{code:Value}{env:Env}{Q:Env->Shared->Prop}
    (hQ:Q (newEnv scope s.heap.objs.size globals (cellsFrom (s.heap.objs.size+1) scope.names closure) qual func code (some env) builtinsNs) { s with heap:=pushCells (s.heap.push { cls:=.type "dict",data:=.dict #[] }) scope.names }) :
    wpAny M A (newFunctionEnv scope globals closure [] qual func code (some env)) Q E s:=by
  simp only[newFunctionEnv,Option.isSome_some,if_true];refine wpAny_bind (wpAny_alloc ?_);refine wpAny_bind (wpAny_layCells _ (fun name kind cells=>by cases hkc:kind==NameKind.cell<;>simp[hkc]) _ _ _ _ ?_);rw[show({ s with heap:=s.heap.push { cls:=.type "dict",data:=.dict #[] } }:Shared).heap.objs.size=s.heap.objs.size+1 from W0 ..];rw[M5];exact wpAny_bind (wpAny_pure (wpAny_pure hQ))
section
variable {X:Cx}{sc:Scope}{tg iter elt:Expr}{ifs:List Expr}{own free:List Str}{fv:List Nat}{wi:TI}{g:TG}{tc:TT}{te:TE}{pos:Pos}
theorem nM {U:L2.St}:∀ {free:List Str} {fv:List Nat},Ve X sc free fv->∀ (k:Nat) (x:Str) (v:V),free[k]?=some x->(fv.map fun j=>(U[j]?).join)[k]?=some (some v) ->
  ∃ j:Nat,X.N[j]?=some x/\U[j]?=some (some v)/\sc.names.lookup x=some .free/\X.env.kindOf x=some .cell
 |x'::xs,j::js,h,k,x,v,e1,e2=>by
  cases k with
  |zero =>
   simp at e1 e2;subst e1;refine⟨j,h.1,?_,h.2.1,h.2.2.1⟩;cases q:U[j]? with
   |none=>rw[q]at e2;simp at e2
   |some o=>rw[q]at e2;simp at e2;rw[e2]
  |succ k=>exact nM (free:=xs) (fv:=js) h.2.2.2 k x v (by simpa using e1) (by simpa using e2)
 |[],[],_,k,x,v,e1,_=>by simp at e1
theorem sV:∀ {free:List Str} {fv:List Nat},Ve X sc free fv->fv.length=free.length
  |[],[],_=>rfl
  |_::_,_::_,h=>congrArg (· + 1) (sV h.2.2.2)
def oO {RR : Value → Addr → Result → Shared → Prop} (hcalm : X.calm = true) (hxe : X.xe = fun _ _ => False) (hkind : sc.kind = .function) (hcell : ∀ y ∈ sc.names, y.2 = .cell → sc.names.lookup y.1 = some .cell) (hfr : Wy (fun x => X.env.kindOf x = some .cell) sc.names) (hfv : Ve X sc free fv) (hg : ∀ cl C s₀ H₀ ex, PG (inner X sc (own ++ free) cl C s₀ H₀ ex) tg g) (ht : ∀ cl C s₀ H₀ ex, QM (inner X sc (own ++ free) cl C s₀ H₀ ex) ifs tc) (he : ∀ cl C s₀ H₀ ex, PE (inner X sc (own ++ free) cl C s₀ H₀ ex) elt te) {Q : VK} (I2 : Inv X Z9 U H2 s2) (T : Turn X.prog X.w X.K tg J fp it tn) (st2 : tn 0 s2.heap) (f2 : ∀ b ∈ fp, VG X Z9 H2 b) (h : ∀ p, H2 p = none → ∃ W : Nat → Nat → Hp → Prop, (∃ m, W 0 m (upd H2 p (.lst []))) ∧ ∀ i m H2, W i m H2 →
      (J.stop i H2/\Q (.ref p) H2)\/(J.go i H2/\∀ x H',J.yld i H2 x H'->g x (cst own fv U) H' fun σ2 H3=>X7 (cst own fv U) σ2/\tc σ2 H3 fun b H4 =>
        if b=true then te σ2 H4 fun y H5=>∃ ys,H5 p=some (.lst ys)/\ys.length<sizeLine/\∃ m',m'<m/\W (i+1) m' (upd H5 p (.lst (ys++[y])))
        else ∃ m',m'<m/\W (i+1) m' H4)) {cl:List (Str×Addr)} (hcl1:∀ x c,cl.lookup x=some c->X.env.cells.lookup x=some c) (hcl2:∀ y∈sc.names,y.2=.free->(cl.lookup y.1).isSome=true) (hRR:∀ (p C:Addr) (m:Str->Option Value) (H':Hp) (s':Shared),s'.heap.Ns C m->Inv X Z9 U H' s'->H' C=none->C≠X.env.locals->X.s₀.heap.objs.size<=C->(∀ x c,X.env.cells.lookup x=some c->c≠C)->(∀ q∈X.pn++Z9,q.1≠C)->Q (.ref p) H' ->
      RR (.ref p) C (.ok .next) s') :
    wpAny (model X.prog X.w) X.A (newList []) (fun acc s3=>wpAny (model X.prog X.w) X.A (newFunctionEnv sc X.env.globals cl [] X.env.qual none .none (some X.env)) (fun cenv s4 =>codeAny (model X.prog X.w) X.A (.compStart (.ListComp elt [⟨tg,iter,ifs,0⟩] sc pos) 0 (.ref it) acc { cenv with scope:=relabel sc X.env }) (RR acc cenv.locals) s4) X.xe s3) X.xe s2:=by
  rw[hxe];refine wpAny_newObj_type ?_;have I3:Inv X Z9 U (upd H2 s2.heap.objs.size (.lst [])) { s2 with heap:=s2.heap.push { cls:=.type "list",data:=.seq ([]:List Value).toArray } }:=I2.lnew (t':=s2.toks) .nil (qX _);generalize hs3:({ s2 with heap:=s2.heap.push { cls:=.type "list",data:=.seq ([]:List Value).toArray } }:Shared)=s3 at I3 ⊢;have hp:H2 s2.heap.objs.size=none:=I2.fresh;obtain⟨W,⟨m0,w0⟩,turn⟩:=h s2.heap.objs.size hp;generalize hH3:upd H2 s2.heap.objs.size (.lst [])=H3 at I3 w0 ⊢;have hk3:∀ b o,s2.heap.get? b=some o->s3.heap.get? b=some o:=fun b o e=>by rw[<- hs3];exact qc _ e
  have hz3:s3.heap.objs.size=s2.heap.objs.size+1:=by rw[<- hs3];exact W0 ..
  have st3:tn 0 s3.heap:=T.keep _ _ _ st2 fun b _ o e=>hk3 b o e
  have hfpo:∀ b∈fp,∃ o,s3.heap.get? b=some o:=fun b hb=>by obtain⟨o,e,_⟩:=T.obj _ _ st3 b hb;exact⟨o,e⟩
  have hfpn:∀ b∈fp,b≠s2.heap.objs.size:=fun b hb e=>by obtain⟨o,e',_⟩:=T.obj _ _ st2 b hb;have:=qv e';rw[e]at this;exact X6 _ this
  have f3:∀ b∈fp,H3 b=none:=fun b hb=>by rw[<- hH3,zu (hfpn b hb)];exact(f2 b hb).1
  refine aH ?_;have cok:=cellsFrom_ok sc.names (s3.heap.push { cls:=.type "dict",data:=.dict #[] }) (s3.heap.objs.size+1) [] ⟨fun _ _ hm=>(nomatch hm),List.Pairwise.nil⟩ (by rw[W0];exact qh _);rw[W0]at cok;have hns1:(pushCells (s3.heap.push { cls:=.type "dict",data:=.dict #[] }) sc.names).Ns s3.heap.objs.size (fun _=>none):=(Heap.Ns.new s3.heap (.type "dict")).keeps (pushCells_keeps _ _);have old:∀ b o,s3.heap.get? b=some o->(pushCells (s3.heap.push { cls:=.type "dict",data:=.dict #[] }) sc.names).get? b=some o:=fun b o e=>pushCells_keeps _ _ b o (qc _ e)
  rw[Rj];have fmem:∀ {x c},(x,c)∈cellsFrom (s3.heap.objs.size+1) sc.names []->sc.names.lookup x=some .cell:=fun {x c} h=>hcell (x,.cell) (Di h) rfl
  have fhas:∀ {x},sc.names.lookup x=some .cell->∃ c,(cellsFrom (s3.heap.objs.size+1) sc.names []).lookup x=some c:=fun {x} h=>Lq.mp (Fo (mem_of_lookup h))
  generalize pushCells (s3.heap.push { cls:=.type "dict",data:=.dict #[] }) sc.names=h1 at cok hns1 old ⊢;generalize cellsFrom (s3.heap.objs.size+1) sc.names []=F at cok fmem fhas ⊢;have flt:∀ {x c},F.lookup x=some c->s3.heap.objs.size<c:=fun {x c} e=>(cok.empty x c (mem_of_lookup e)).2
  have cl':∀ {x c},(F++cl).lookup x=some c->F.lookup x=some c\/(F.lookup x=none/\cl.lookup x=some c):=fun {x c} e=>by
    rw[LK]at e;cases hF:F.lookup x with
    |some c'=>rw[hF]at e;exact .inl e
    |none=>rw[hF]at e;exact .inr ⟨rfl,e⟩
  have hC0:H3 s3.heap.objs.size=none:=I3.fresh;have hlow:X.s₀.heap.objs.size<=s3.heap.objs.size:=I3.sz;have hloc:X.env.locals<s3.heap.objs.size:=I3.lt
  have hcells:∀ x c,X.env.cells.lookup x=some c->c<s3.heap.objs.size:=fun x c e=>by obtain⟨v,o,ho,_⟩:=I3.cell x c e;exact qv ho
  have YOk:(inner X sc (own++free) (F++cl) s3.heap.objs.size s3 H3 fp).Ok:={
    mod:=I3.ok.mod
    kind:=by show(relabel sc X.env).kind=.function;exact hkind
    glob:=I3.ok.glob
    blt:=I3.ok.blt
    above:=qh _
    inj:=fun x y c hx hy=>by
      rcases cl' hx with h|⟨_,h⟩<;>rcases cl' hy with h'|⟨_,h'⟩
      . exact name_of_addr cok.apart (mem_of_lookup h) (mem_of_lookup h')
      . exact absurd (Nat.lt_trans (flt h) (hcells y c (hcl1 y c h'))) (X6 _)
      . exact absurd (Nat.lt_trans (flt h') (hcells x c (hcl1 x c h))) (X6 _)
      . exact I3.ok.inj x y c (hcl1 x c h) (hcl1 y c h')
    has:=fun x hx=>by
      show ∃ c,(F++cl).lookup x=some c;rw[LK];cases hF:F.lookup x with
      |some c=>exact⟨c,rfl⟩
      |none =>
      show ∃ c,cl.lookup x=some c
      have e : (sc.names.lookup x).map (fun k => if(k == NameKind.free && X.env.scope.kind == .function && X.env.kindOf x == some .cell)then NameKind.cell else k) = some .cell ∨
          (sc.names.lookup x).map (fun k=>if(k==NameKind.free&&X.env.scope.kind==.function&&X.env.kindOf x==some .cell)then NameKind.cell else k)=some .free:=by
        have:=@Cw X.env x sc.names;rcases hx with hx|hx
        . exact .inl (this.symm.trans hx)
        . exact .inr (this.symm.trans hx)
      cases q:sc.names.lookup x with
      |none=>rw[q]at e;simp at e
      |some k =>
        have hm:=mem_of_lookup q;by_cases hkf:k=.free
        . subst hkf;exact Lq.mp (hcl2 (x,.free) hm rfl)
        . have hkc : k ≠ .cell := fun ek => by
            subst ek;obtain⟨c,hc⟩:=fhas q;rw[hF]at hc;cases hc
          rw[q]at e;have hb:(k==NameKind.free)=false:=by simpa using hkf
          simp only[Option.map_some,hb,VF,Tt,if_false,Option.some.injEq]at e;rcases e with e|e
          . exact absurd e hkc
          . exact absurd e hkf
    cab:=fun x c hx hc=>by
      obtain⟨c',hc'⟩:=fhas (show sc.names.lookup x=some .cell from beq_iff_eq.mp hx);rcases cl' hc with h|⟨h,_⟩
      . exact Lx (flt h)
      . rw[hc']at h;cases h
    hd:=I3.ok.hd
    frames:=I3.ok.frames
    stk:=.inl rfl
    exf:=fun b hb=>⟨fun e=>by obtain⟨o,e'⟩:=hfpo b hb;have:=qv e';rw[e]at this;exact X6 _ this,fun x c hx=>by
      rcases cl' hx with h|⟨_,h⟩
      . obtain⟨o,e'⟩:=hfpo b hb;exact Wh (Nat.lt_trans (qv e') (flt h))
      . exact(f2 b hb).2.2.2.2.1 x c (hcl1 x c h)⟩
    bs:=I3.bs
    bsz:=qZ I3.ok.bsz I3.sz
    noex:=fun b o hb hm=>by
      rcases(f2 b hm).2.2.2.1 with hx|hx
      . exact I3.ok.noex b o hb hx
      . exact X6 _ (qF (qF (qv hb) I3.ok.bsz) hx)
    exfs:=fun b hb hm=>by
      rcases ql.mp (I3.stkSub b hm)with e|e
      . exact(f2 b hb).2.1 e
      . exact(f2 b hb).2.2.1 e
    funs:=I3.stack
    frf:=I3.stkFree }
  have hlen0:(cst own fv U).length=(own++free).length:=by unfold cst;rw[qg,qg,qM,qa,sV hfv]
  have I4:∀ tk,Inv (inner X sc (own++free) (F++cl) s3.heap.objs.size s3 H3 fp) [] (cst own fv U) H3 { s3 with heap:=h1,toks:=tk }:=fun tk=>{
    ok:=YOk
    os:=rfl
    bare:=I3.bare
    base:=Un.kept old
    loc:=by
      refine⟨_,hns1,fun i x v hN hσ _=>?_⟩;have hN':(own++free)[i]?=some x:=hN;have hσ':(List.replicate own.length none++fv.map fun j=>(U[j]?).join)[i]?=some (some v):=hσ;by_cases hi:i<own.length
      . rw[qf (by rw[qM];exact hi)]at hσ';rw[Lf]at hσ';split at hσ'<;>simp at hσ'
      . rw[qe (by lia)]at hN';rw[qe (by rw[qM];lia),qM]at hσ';obtain⟨j,hj,hσj,hsx,hkx⟩:=nM hfv _ x v hN' hσ';obtain⟨m,_,hall⟩:=I3.loc;obtain⟨u,ru,lk⟩:=hall j x v hj hσj (.inr (.inl hkx));refine⟨u,ru,.inr ⟨?_,?_⟩⟩
        . have:=@Cw X.env x sc.names;rw[hsx]at this;have e2:Env.kindOf (inner X sc (own++free) (F++cl) s3.heap.objs.size s3 H3 fp).env x=(sc.names.map fun (n,k)=>if(k==NameKind.free&&X.env.scope.kind==.function&&X.env.kindOf n==some .cell)then(n,NameKind.cell)else(n,k)).lookup x:=rfl;rw[e2,this];simp only[Option.map_some];split
          . exact .inl rfl
          . exact .inr rfl
        . rcases lk with⟨hl,_⟩|⟨_,c,hc,hcell'⟩
          . rw[hkx]at hl;cases hl
          . obtain⟨c',hc'⟩:=Lq.mp (hcl2 (x,.free) (mem_of_lookup hsx) rfl);have:=hcl1 x c' hc';rw[hc]at this;cases this;refine⟨c,?_,?_⟩
            . show(F++cl).lookup x=some c;rw[LK];cases hF:F.lookup x with
              |none=>exact hc'
              |some c2=>have:=fmem (mem_of_lookup hF);rw[hsx]at this;cases this
            obtain⟨o,ho,hd⟩:=hcell';exact⟨o,old _ _ ho,hd⟩
    cell:=fun x c hx=>by
      rcases cl' hx with h|⟨_,h⟩
      . exact⟨none,(cok.empty x c (mem_of_lookup h)).1⟩
      . obtain⟨v,o,ho,hd⟩:=I3.cell x c (hcl1 x c h);exact⟨v,o,old _ _ ho,hd⟩
    free:=hC0
    freeC:=fun x c hx=>by
      rcases cl' hx with h|⟨_,h⟩
      . exact I3.hok.fresh (Lx (flt h))
      . exact I3.freeC x c (hcl1 x c h)
    pin:=fun q hq=>nomatch hq
    hok:=I3.hok.kept old
    len:=hlen0 }
  have back:∀ (m:Str->Option Value) (H':Hp) (s':Shared),s'.heap.Ns s3.heap.objs.size m->Inv (inner X sc (own++free) (F++cl) s3.heap.objs.size s3 H3 fp) [] (cst own fv U) H' s'->Q (.ref s2.heap.objs.size) H'->RR (.ref s2.heap.objs.size) s3.heap.objs.size (.ok .next) s':=fun m H' s' hm IY q=>by
    have u1:Un (frs X.stack) fp H3 H' s3.heap s'.heap:=IY.base;have IX:Inv X Z9 U H' s':=I3.call' (ch:=fp) (IY.os) u1 IY.hok IY.bare fun b hb=>⟨(f2 b hb).2.2.2.1,(f2 b hb).2.1,(f2 b hb).2.2.2.2.1,(f2 b hb).2.2.2.2.2⟩
    refine hRR _ _ m H' s' hm IX IY.free (Wh hloc) hlow (fun x c hx=>qU (hcells x c hx)) (fun q' hq=>?_) q;have:=(I3.pin q' hq).1;exact qU (qv this)
  have stat:∀ {H':Hp},(∀ b∈fp,H' b=none)->∀ b∈fp,VG (inner X sc (own++free) (F++cl) s3.heap.objs.size s3 H3 fp) [] H' b:=fun hn b hb =>⟨hn b hb,(YOk.exf b hb).1,YOk.exfs b hb,.inl hb,(YOk.exf b hb).2,fun q hq=>nomatch hq⟩
  have hYxe:(inner X sc (own++free) (F++cl) s3.heap.objs.size s3 H3 fp).xe=fun _ _=>False:=hxe
  have loop:∀ tk,codeAny (model X.prog X.w) X.A (.compLoop (.ListComp elt [⟨tg,iter,ifs,0⟩] sc pos) 0 (.ref it) (.ref s2.heap.objs.size) (compEnvC sc (F++cl) s3.heap.objs.size X.env)) (RR (.ref s2.heap.objs.size) s3.heap.objs.size) { s3 with heap:=h1,toks:=tk }:=fun tk=>by
    refine ō (fun n s'=>∃ i H',Inv (inner X sc (own++free) (F++cl) s3.heap.objs.size s3 H3 fp) [] (cst own fv U) H' s'/\tn i s'.heap/\(∀ b∈fp,H' b=none)/\W i n H') ?_ m0 ⟨0,H3,I4 tk,T.keep _ _ _ st3 (fun b _ o e=>old b o e),f3,w0⟩;rintro n s5 ⟨i,H5,I5,st5,fr5,w5⟩;rcases turn i n H5 w5 with⟨stop,q⟩|⟨go,step⟩
    . refine Z2 (T.done (inner X sc (own++free) (F++cl) s3.heap.objs.size s3 H3 fp) rfl rfl rfl hcalm i [] s5 _ H5 _ I5 (stat fr5) st5 stop) fun r s6 ⟨hr,I6⟩=>?_
      subst hr;obtain⟨m,hm,_⟩:=I6.loc;exact back m H5 s6 hm I6 q
    . refine Z2 (T.item (inner X sc (own++free) (F++cl) s3.heap.objs.size s3 H3 fp) rfl rfl rfl hcalm i [] s5 _ H5 _ I5 (stat fr5) st5 go) fun r s6 ⟨u,hr,h6⟩=>?_
      subst hr;refine Z2 h6 fun _ s7 ⟨x,H7,I7,r7,y7,st7,fr7⟩=>?_
      have I7':=I7.pinned (stat fr7) (T.obj _ _ st7);have hg':=hg (F++cl) s3.heap.objs.size s3 H3 fp _ s7 _ H7 x u _ I7' r7 (step x H7 y7);have ht':=ht (F++cl) s3.heap.objs.size s3 H3 fp;have he':=he (F++cl) s3.heap.objs.size s3 H3 fp;have ap:HY (inner X sc (own++free) (F++cl) s3.heap.objs.size s3 H3 fp) "list.append" yI:=uE;unfold QM at ht';unfold PE at he';unfold HY at ap;rw[hYxe]at hg' ht' he' ap
      have again : ∀ {pl : List (Addr × Obj)} {σ8 : L2.St} {H8 : Hp} {s8 : Shared}, pl = KQ fp s7.heap → Inv (inner X sc (own ++ free) (F ++ cl) s3.heap.objs.size s3 H3 fp) ([] ++ pl) σ8 H8 s8 → X7 (cst own fv U) σ8 → (∃ m', m' < n ∧ W (i + 1) m' H8) →
          ∃ m,m<n/\∃ i H',Inv (inner X sc (own++free) (F++cl) s3.heap.objs.size s3 H3 fp) [] (cst own fv U) H' s8/\tn i s8.heap/\(∀ b∈fp,H' b=none)/\W i m H':=fun {pl σ8 H8 s8} hpl I8 ag zq10=>by
        obtain⟨m',hm,w8⟩:=zq10;subst hpl;refine⟨m',hm,i+1,H8,(I8.unpinned).weak ag.len.symm (fun j v e=>ag.get j v e),T.keep _ _ _ st7 fun b hb o e=>(I8.pin (b,o) (qL _ (qL _ (Ie hb e)))).1,fun b hb=>?_,w8⟩;obtain⟨o,e,d⟩:=T.obj _ _ st7 b hb;exact(I8.pin (b,o) (qL _ (qL _ (Ie hb e)))).2.1
      refine Z2 hg' fun _ s8 ⟨σ8,H8,I8,ag,q8⟩=>?_
      refine Z2 (ht' _ s8 σ8 H8 _ I8 q8) fun b s9 ⟨H9,I9,q9⟩=>?_
      cases b with
      |false =>rw[if_neg qu]at q9 ⊢;exact again rfl I9 ag q9
      |true =>
        rw[if_pos rfl]at q9 ⊢;refine Z2 (he' _ s9 σ8 H9 _ I9 q9) fun y s10 ⟨yv,H10,I10,ry,ys,hy,hlt,q10⟩=>?_
        refine Z2 (ap _ s10 σ8 H10 (.ref s2.heap.objs.size) [yv] (.ref s2.heap.objs.size) [y] (fun v H'=>v=.non/\H'=upd H10 s2.heap.objs.size (.lst (ys++[yv]))) I10 rfl (.cons ry .nil) ⟨_,ys,yv,rfl,rfl,hy,hlt,rfl,rfl⟩) fun z s11 ⟨v11,H11,I11,_,_,e11⟩=>?_
        subst e11;exact again rfl I11 ag q10
  refine codeAny_compStart_list (loop _) (T.self _ 0 _ _ _ (T.keep _ _ _ st3 fun b _ o e=>old b o e) (loop _))
def zwa (hcalm:X.calm=true)(hxe:X.xe=fun _ _=>False)(hkind:sc.kind=.function)(hcell:∀ y∈sc.names,y.2=.cell->sc.names.lookup y.1=some .cell)(hnames:∀ y∈sc.names,y.2=.local->sc.names.lookup y.1=some .local)
  (hfr:Wy (fun x=>X.env.kindOf x=some .cell) sc.names) (hfv:Ve X sc free fv) (hi:PI X tg iter wi)
  (hg:∀ cl C s₀ H₀ ex,PG (inner X sc (own++free) cl C s₀ H₀ ex) tg g) (ht:∀ cl C s₀ H₀ ex,QM (inner X sc (own++free) cl C s₀ H₀ ex) ifs tc) (he:∀ cl C s₀ H₀ ex,PE (inner X sc (own++free) cl C s₀ H₀ ex) elt te)
  (hs:∀ x,foldedSetIterable iter X.env x=pure x:=by intro _;rfl):PE X (.ListComp elt [⟨tg,iter,ifs,0⟩] sc pos) (CG own fv wi g tc te):=by
 intro Z9 s U H Q I q;obtain⟨cl,hclos,hcl1,hcl2⟩:=rF (env:=X.env) (sc:=sc) fun y hy e=>I.ok.has y.1 (.inl (hfr.of y hy e))
 rw[eval_ListComp];refine wpAny_comprehension_free (use:=none) rfl hs hclos hkind hnames (Z2 (hi Z9 s U H _ I q) fun v s1 h1=>Z2 h1 fun itv s2 h2=>?_);obtain⟨it,fp,tn,J,H2,e,I2,T,st2,f2,q2⟩:=h2;subst e;refine oO (RR:=fun acc C=>compPost (model X.prog X.w) X.A X.xe none (EP X Z9 U Q) acc C) hcalm hxe hkind hcell hfr hfv hg ht he I2 T st2 f2 q2 hcl1 hcl2 ?_;intro p C m H' s' hm I' hC hCl hC0 hCc hCp q';exact⟨m,hm,fun h' hs'=>⟨.ref p,H',I'.turned (t':=s'.toks) (fun b o hb e=>hs'.extBut b o hb e) hC hCl (.inr hC0) hCc hCp,rfl,q'⟩⟩
def zq0 {i:Nat}{y:Str}{py spos:Pos}(hN:X.N.Nodup)(hy:X.N[i]?=some y)(hyl:X.env.scope.names.lookup y=some .local)(hcalm:X.calm=true)(hxe:X.xe=fun _ _=>False)(hkind:sc.kind=.function)(hcell:∀ y∈sc.names,y.2=.cell->sc.names.lookup y.1=some .cell)(hnames:∀ y∈sc.names,y.2=.local->sc.names.lookup y.1=some .local)
  (hfr:Wy (fun x=>X.env.kindOf x=some .cell) sc.names) (hfv:Ve X sc free fv) (hi:PI X tg iter wi)
  (hg:∀ cl C s₀ H₀ ex,PG (inner X sc (own++free) cl C s₀ H₀ ex) tg g) (ht:∀ cl C s₀ H₀ ex,QM (inner X sc (own++free) cl C s₀ H₀ ex) ifs tc) (he:∀ cl C s₀ H₀ ex,PE (inner X sc (own++free) cl C s₀ H₀ ex) elt te)
  (hsw:swapsWith (.ListComp elt [⟨tg,iter,ifs,0⟩] sc pos) (some (.Name y py)) spos.line X.env=pure true:=by rfl)
  (hs:∀ x,foldedSetIterable iter X.env x=pure x:=by intro _;rfl):PS X (.Assign [.Name y py] (.ListComp elt [⟨tg,iter,ifs,0⟩] sc pos) spos) (Hl (CG own fv wi g tc te) (zR i)):=by
 intro Z9 s U H D I q;obtain⟨cl,hclos,hcl1,hcl2⟩:=rF (env:=X.env) (sc:=sc) fun y hy e=>I.ok.has y.1 (.inl (hfr.of y hy e))
 rw[exec_Assign_Name_used _ _ _ _ hsw];refine wpAny_bind (wpAny_standAt (wpAny_bind ?_));show wpAny _ X.A (do let _ <- comprehension (.ListComp elt [⟨tg,iter,ifs,0⟩] sc pos) sc X.env _ (newList []) false (eval iter X.env) (some (assign (.Name y py) X.env))) _ _ s
 refine wpAny_bind (wpAny_mono (wpAny_comprehension_free (use:=some (assign (.Name y py) X.env)) (Q:=fun _ s'=>SP X Z9 D .next s') rfl hs hclos hkind hnames
  (Z2 (hi Z9 s U H _ I q) fun v s1 h1=>Z2 h1 fun itv s2 h2=>?_)) (fun _ s' hq=>wpAny_pure (wpAny_pure hq)) fun _ _ e=>e)
 obtain⟨it,fp,tn,J,H2,e,I2,T,st2,f2,q2⟩:=h2;subst e;refine oO (RR:=fun acc C=>compPost (model X.prog X.w) X.A X.xe (some (assign (.Name y py) X.env)) (fun _ s'=>SP X Z9 D .next s') acc C) (Q:=fun x H1=>zR i x U H1 D.nx) hcalm hxe hkind hcell hfr hfv hg ht he I2 T st2 f2 q2 hcl1 hcl2 ?_;intro p C m H' s' hm I' hC hCl hC0 hCc hCp q';show wpAny _ X.A (assign (.Name y py) X.env (.ref p)) _ _ _;refine wpAny_assign_Name (yP (v:=.ref p) I' hN hy (.inl hyl) rfl (fun s'' I'' hsb=>?_) (.inr hyl));obtain⟨a,hsb,ha⟩:=hsb
 have hCa:C≠a:=by
  rcases ha with rfl|ha
  ·exact hCl
  ·exact fun e=>hCc _ _ ha e.symm
 refine⟨m,hm.sameBut hsb hCa,fun h' hs'=>⟨_,H',I''.turned (t':=s''.toks) (fun b o hb e=>hs'.extBut b o hb e) hC hCl (.inr hC0) hCc hCp,q'⟩⟩
end
section
variable {U:L2.St}{H:Hp}{K:PySem.W.Frag}
end
section
variable {X:Cx}{tg:Expr}
end
section
variable {X:Cx}{Z9:List (Addr×Obj)}{U:L2.St}{H:Hp}{s:Shared}
end
section
variable {X:Cx}{Z9:List (Addr×Obj)}{U:L2.St}{H:Hp}{s:Shared}
def _root_.L2.Inv.turnNew {h':Heap}{ch:List Addr}{a:Addr}{o:HO}{t':Nat}(I:Inv X Z9 U H s)(hf:∀ b∈ch,VG X Z9 H b)(k:∀ b u,b∉ch->s.heap.get? b=some u->h'.get? b=some u)(ha:s.heap.objs.size<=a)
  (new:zZ X.prog X.w (upd H a o) h' a o):Inv X Z9 U (upd H a o) { s with heap:=h',toks:=t' }:=by
 have lt:∀ b u,s.heap.get? b=some u->b≠a:=fun b u e z=>by have:=qv e;rw[z]at this;exact X6 _ (qF this ha)
 have ltH:∀ b u,H b=some u->b≠a:=fun b u e z=>by have:=I.hok.lt e;rw[z]at this;exact X6 _ (qF this ha)
 have nch:∀ b u,H b=some u->b∉ch:=fun b u e z=>by rw[(hf b z).1]at e;cases e
 refine I.step (g':=s.gens) (d':=s.drawn) (ch:=ch) (fun b hb=>⟨(hf b hb).2.2.2.1,(hf b hb).2.1,(hf b hb).2.2.2.2.1,(hf b hb).2.2.2.2.2⟩) (fun b u _ _ hc e _=>k b u hc e) (fun b u _ _ hc e _=>⟨u.slots,k b u hc e⟩)
  (fun b u _ e n=>by rw[zu (lt b u e)];exact n) (fun b u hc e=>⟨u,k b u hc e⟩) (fun b xs e=>by rw[zu (ltH b _ e)];exact e) (fun b u v e=>by rw[zu (ltH b _ e)];exact e)
  (fun b ps e=>⟨#[],by rw[zu (ltH b _ e),e];simp⟩) (fun m hm=>?_) (fun b u e=>?_) I.bare
 ·obtain⟨ob,es,ep,ho,r⟩:=hm;exact⟨ob,es,ep,k _ ob (fun z=>(hf _ z).2.1 rfl) ho,r⟩
 ·by_cases hb:b=a
  ·subst hb;rw[zK]at e;cases e;exact new
  ·rw[zu hb]at e;refine(I.hok b u e).stay (fun c v hc q=>k c v ?_ q) (fun c q=>by rw[zu (ltH c _ q)];exact q) fun c ys q=>by rw[zu (ltH c _ q)];exact q
   rcases hc with z|z
   ·rw[z];exact nch b u e
   ·exact nch c _ z
def _root_.L2.Inv.turnedL {h':Heap}{ch:List Addr}{t':Nat}(I:Inv X Z9 U H s)(hf:∀ b∈ch,VG X Z9 H b)(k:∀ b u,b∉ch->s.heap.get? b=some u->h'.get? b=some u):Inv X Z9 U H { s with heap:=h',toks:=t' }:=by
 have nch:∀ b u,H b=some u->b∉ch:=fun b u e z=>by rw[(hf b z).1]at e;cases e
 refine I.step (g':=s.gens) (d':=s.drawn) (ch:=ch) (fun b hb=>⟨(hf b hb).2.2.2.1,(hf b hb).2.1,(hf b hb).2.2.2.2.1,(hf b hb).2.2.2.2.2⟩) (fun b u _ _ hc e _=>k b u hc e) (fun b u _ _ hc e _=>⟨u.slots,k b u hc e⟩)
  (fun b u _ e n=>n) (fun b u hc e=>⟨u,k b u hc e⟩) (fun b xs e=>e) (fun b u v e=>e) (fun b ps e=>⟨#[],by rw[e];simp⟩) (fun m hm=>?_) (fun b u e=>?_) I.bare
 ·obtain⟨ob,es,ep,ho,r⟩:=hm;exact⟨ob,es,ep,k _ ob (fun z=>(hf _ z).2.1 rfl) ho,r⟩
 ·refine(I.hok b u e).stay (fun c v hc q=>k c v ?_ q) (fun c q=>q) fun c ys q=>q
  rcases hc with z|z
  ·rw[z];exact nch b u e
  ·exact nch c _ z
end
section
variable {X:Cx}
end
def Ite (K:PySem.W.Frag)(l:Addr):It :=
  ⟨fun i H=>∃ xs x,Zz K H l xs/\xs[i]?=some x,
   fun i H v H'=>∃ p,v=.ref p/\H p=none/\∀ xs x,Zz K H l xs->xs[i]?=some x->H'=upd H p (.tup [.int i,x]),
   fun i H=>∃ xs,Zz K H l xs/\xs.length<=i⟩
def zm7 {P:Program}{w:World}{K:PySem.W.Frag}{es:List Expr}{kk:Nat}{pos:Pos}{e it l:Addr}(hne:e≠it) :
  Turn P w K (.Tuple es kk pos) (Ite K l) [e,it] e (fun i h=>(∃ old,IsEnum h e it i old)/\h.IsListIter it l i) where
 mem:=by simp
 obj:=fun i h st b hb=>by
  obtain⟨⟨old,he⟩,⟨o1,h1,_,h1d⟩⟩:=st;simp only[ql,qK,or_false]at hb;rcases hb with rfl|rfl
  ·exact⟨_,he,fun v q=>by cases(show Data.fields _=Data.cell v from q)⟩
  ·exact⟨_,h1,fun v q=>by rw[h1d]at q;cases q⟩
 keep:=fun i h h' st k=>by obtain⟨⟨old,he⟩,h1⟩:=st;exact⟨⟨old,k e (by simp) _ he⟩,h1.at fun o q=>k it (by simp) o q⟩
 item:=by
  intro X hP hw hK hc i Z9 s U H E I hf st hg;subst hP hw hK;obtain⟨⟨old,he⟩,h1⟩:=st;obtain⟨xs,x,hx1,hx⟩:=hg;obtain⟨its,rx,px,zx⟩:=I.list hx1;obtain⟨u,hu,ru⟩:=Vals.get rx hx;refine wpAny_pyNext_enum_item he h1 px.isList (by simpa using hu) hne fun h' a1 a2 a3 a4 hk=>?_
  refine⟨_,rfl,wpAny_letOwnedTupleGo_enum (s:={ s with heap:=h',toks:=s.toks+1 }) a1 fun h'' he'' hs''=>?_⟩;have lt:∀ {c o},s.heap.get? c=some o->s.heap.objs.size≠c:=fun q=>Wh (qv q)
  have k2:∀ b u,b∉[e,it]->s.heap.get? b=some u->h''.get? b=some u:=fun b u hb q=>by simp only[ql,qK,or_false,not_or]at hb;exact hs''.extBut b u hb.1 (hk b u hb.1 hb.2 q)
  have new:h''.get? s.heap.objs.size=some { cls:=.type "tuple",data:=.seq #[.int i s.toks,u] }:=hs''.extBut _ _ (lt he) a3;refine⟨.ref s.heap.objs.size,upd H s.heap.objs.size (.tup [.int i,x]),I.turnNew (t':=s.toks+1) hf k2 (qh _) ⟨by show 2<=sizeLine;decide,[.int i s.toks,u],.cons ⟨_,rfl⟩ (.cons ru .nil),_,new,rfl,_,rfl⟩,rfl,⟨_,rfl,I.fresh,?_⟩,?_,fun b hb=>?_⟩
  ·intro xs' x' hx1' hx';cases I.list_inj hx1 hx1';rw[hx]at hx';cases hx';rfl
  ·exact⟨⟨_,he''⟩,a2.extBut hs''.extBut (Ne.symm hne)⟩
  ·have:∃ o,s.heap.get? b=some o:=by
    simp only[ql,qK,or_false]at hb;obtain⟨o1,e1,_⟩:=h1;rcases hb with rfl|rfl
    ·exact⟨_,he⟩
    ·exact⟨_,e1⟩
   obtain⟨o,q⟩:=this;rw[zu (lt q).symm];exact(hf b hb).1
 done:=by
  intro X hP hw hK hc i Z9 s U H E I hf st hg;subst hP hw hK;obtain⟨⟨old,he⟩,h1⟩:=st;obtain⟨xs,hx1,hl⟩:=hg;obtain⟨its,rx,px,zx⟩:=I.list hx1;have n1:=rx.length;refine wpAny_pyNext_enum_end (I.ok.hd hc) he h1 px.isList (by rw[CJ];exact qA (by lia)) fun h' hk=>⟨rfl,I.turnedL (t':=s.toks) hf fun b u hb q=>?_⟩
  simp only[ql,qK,or_false,not_or]at hb;exact hk b u hb.2 q
 self:=fun _ _ _ _ _ st h=>by obtain⟨⟨old,he⟩,_⟩:=st;exact wpAny_pyIter_enum he h
section
variable {X:Cx}
def Wm (K:PySem.W.Frag)(ta:TA):TI:=fun U H R=>ta U H fun vs H1=>∃ l,vs=[.ref l]/\(∃ xs,Zz K H1 l xs)/\R (Ite K l) H1
def zqA {es:List Expr}{kk:Nat}{tpos:Pos}{a:Expr}{ta:TA}{p pos:Pos}(hg:Gl X "enumerate")(hm:X.mg "enumerate"=none)(ha:PA X [a] ta)(hs:autoParam (starEach [a] X.env=[(false,eval a X.env)]) zy) :
    PI X (.Tuple es kk tpos) (.Call (.Name "enumerate" p) [a] [] pos) (Wm X.K ta):=by
  intro Z9 s U H R I h;refine Call_ (VR I hg hm boot_enumerate (PyProof.Rows.callWith_type1 (Z2 (ha pos Z9 s U H _ I h) fun us s1 ⟨vs,H1,I1,r1,q1⟩=>?_) hs rfl));obtain⟨l,e,⟨xs,hx⟩,q⟩:=q1;subst e;obtain⟨u,rfl,ru⟩:=vals1 r1;cases ru;obtain⟨its,rx,px,zx⟩:=I1.list hx;refine call_enumerate_list px.isList fun h' he hit hsz hk=>?_
  have I2:Inv X Z9 U H1 { s1 with heap:=h' }:=I1.kept (t':=s1.toks) hk;refine wpAny_pyIter_enum (s:={ s1 with heap:=h' }) he ?_;refine⟨_,_,_,_,H1,rfl,I2,zm7 (Wh (M8 _)),⟨⟨_,he⟩,hit⟩,fun b hb=>?_,q⟩
  have hb':s1.heap.objs.size<=b:=by simp only[ql,qK,or_false]at hb;rcases hb with rfl|rfl<;>first|exact MJ _ _|exact qh _
  exact I1.fpOk hb' (I1.hok.fresh hb')
end
def cx (cs:List (Int×Int))(k:Nat):Int:=(cs.getD k (0,0)).1
def hT (x1 z1 x2 z2 a b:Int):Int:=z1*(x2-x1)*b+(z2-z1)*(a-x1*b)
def hB (x1 x2 b:Int):Int:=(x2-x1)*b
section
variable {U:L2.St}{H:Hp}
end
structure GK (P:Program)(w:World)(K:PySem.W.Frag)(mg:Str->Option Value)(base:Heap)(k:Nat)(x:Str)(sp:Sp):Prop where
 ex:∃ (C f:Addr) (fd:FuncData) (ps:List Str) (sp0:Sp),Mk K C f/\YJ P w K mg base Wg k f fd ps sp0/\Binds K fd ps []/\mg x=some (.ref C) /\
  ∀ vs H Q,sp vs H Q E0->∀ x dx,H x=none->H dx=none->dx≠x->sp0 (.ref x::vs) (upd (upd H dx (.own x)) x (.ins C dx [])) (fun v H2=>v=.non/\Q (.ref x) H2) E0
def đ {X:Cx}{k:Nat}{sp:Sp}{p pos:Pos}{e:Expr}{es:List Expr}{t:TA}(G:GK X.prog X.w X.K X.mg X.base k x sp)(hr:zQ j X.A)(hk:k+1<=j)(hg:Gl X x)(ha:PA X (e::es) t)(hdb:autoParam ((x==("__debug__":Str))=false) zO)(he:autoParam (starEach (e::es) X.env=(false,eval e X.env)::starEach es X.env) zy)(hpl:autoParam ((backTo pos (starEach es X.env)).any (·.1)=false) zy) :
  PE X (.Call (.Name x p) (e::es) [] pos) (Ew sp [] E0 t):=by
 intro Z9 s U H Q I h;obtain⟨C,f,fd,ps,sp0,M,F,b,hm,imp⟩:=G.ex;refine wpAny_Call_Name_kw (Tn I hg hm ?_ hdb);refine PySem.W.callWith_K (h₀:=X.base) I.ok.mod.kin M.kp (Z2 (ha pos Z9 s U H _ I h) fun us s1 ⟨vs,H1,I1,r,q⟩=>⟨I1.kIn,?_⟩) he hpl;have q':sp (vs++[]) H1 Q E0:=q;rw[qS]at q';exact znO (dvs:=[]) (ds:=[]) M F (hr.mono hk) b .nil vC I1 r fun x dx h1 h2 h3=>by rw[qS];exact imp vs H1 Q q' x dx h1 h2 h3
def zqj {n:Int}{pos:Pos}(hg:Gl X x)(hm:∃ t,X.mg x=some (.int n t))(hd:autoParam ((x==("__debug__":Str))=false) zO):PE X (.Name x pos) (tC (.int n)):=by obtain⟨t,ht⟩:=hm;exact u5 (v:=.int n) hg ht ⟨t,rfl⟩ hd
section
variable {U:L2.St}{H:Hp}{K:PySem.W.Frag}
end
section
variable {X:Cx}{K:PySem.W.Frag}
def iU {its:List Value}(_:Inv X Z9 U H s)(pl:PlainL s.heap p its.toArray) :
  p<s.heap.objs.size/\(s.heap.push { cls:=.type "list_iterator",data:=.fields #[.ref p,.int 0 0] }).IsListIter s.heap.objs.size p 0:=by
 obtain⟨o,ho,_⟩:=pl.isList;exact⟨qv ho,_,qo _ rfl,rfl,rfl⟩
def iC {h':Heap}{tk:Nat}(I:Inv X Z9 U H s){o:Obj}(hk:∀ b u,b∉[s.heap.objs.size]->(s.heap.push o).get? b=some u->h'.get? b=some u) :
  Inv X Z9 U H { s with heap:=h',toks:=tk }:=I.kept (t':=tk) fun d u e=>hk d u (fun hm=>by
   have h1:d=s.heap.objs.size:=by simpa using hm
   have h2:=qv e;rw[h1]at h2;exact X6 _ h2) (qc _ e)
def zyx (K:PySem.W.Frag):List V->Hp->VK->Prop:=fun xs H Q=>∃ (p:Addr) (bs:List Bool),xs=[.ref p]/\Zz K H p (bs.map V.bl)/\Q (.bl (bs.all id)) H
def znW {bs:List Bool}(rv:Vals (bs.map V.bl) its){i:Nat}{v:Value}(h:its.toArray[i]?=some v):v=.bool (bs.getD i false):=by
 rw[<- Hq]at h
 have hi:i<its.length:=by
  rcases qV i its.length with g|g
  ·exact g
  ·rw[qA (by simpa using g)]at h;cases h
 have hl:=rv.length;rw[qa]at hl
 have e:(bs.map V.bl)[i]?=some (.bl (bs.getD i false)):=by rw[qk,qb (by lia)];simp[qG,qb (show i<bs.length by lia)]
 obtain⟨u,hu,ru⟩:=rv.get e;rw[show its.toArray.toList=its from rfl,hu]at h;cases h;exact ru
def all_range (bs:List Bool):(List.range bs.length).all (fun i=>bs.getD i false)=bs.all id:=by
 rw[Ti,W6,W6];constructor
 ·intro h b hb;obtain⟨i,hi,rfl⟩:=qO.mp hb;simpa [qG,qb hi]using h i (List.mem_range.mpr hi)
 ·intro h i hi;rw[Ng]at hi;have:=h bs[i] (Iu hi);simpa [qG,qb hi]using this
def zm9 (hK:X.K=K)(hc:X.calm=true):Y4 X (.builtin "all") (zyx K):=fun Z9 s U H xs us Q I r h=>by
 subst hK;obtain⟨p,bs,rfl,hS,q⟩:=h;obtain⟨u,rfl,ru⟩:=vals1 r;cases ru;obtain⟨its,rv,pl,hz⟩:=I.list hS;obtain⟨lt,st⟩:=iU I pl;have hl:=rv.length;rw[qa]at hl;have W:=Walks.list (prog:=X.prog) (w:=X.w) (A:=X.A.in1) (I.ok.hd hc) s.heap.objs.size p (qU lt) its.toArray;refine call_all_walk (wpAny_pyIter_list pl.isList ⟨s.heap.objs.size,[s.heap.objs.size,p],[s.heap.objs.size],_,_,_,fun i=>bs.getD i false,rfl,W,⟨st,pl.isList.push _⟩,?_,?_⟩)
 ·intro i v s' Q' E' hv hq;rw[znW rv hv];exact wpAny_truthy_bool hq
 ·intro h' tk hk;rw[qB,<- hl,all_range];exact⟨.bl _,H,iC (s:=s) I hk,rfl,q⟩
def zw0 (K:PySem.W.Frag):List V->Hp->VK->Prop:=fun xs H Q=>∃ (p:Addr) (ns:List Int),xs=[.ref p]/\Zz K H p (ns.map V.int)/\0<ns.length/\∀ m:Int,m∈ns->(∀ a∈ns,a<=m)->Q (.int m) H
def jx (K:PySem.W.Frag):List V->Hp->VK->Prop:=fun xs H Q=>∃ (p:Addr) (ns:List Int),xs=[.ref p]/\Zz K H p (ns.map V.int)/\0<ns.length/\∀ m:Int,m∈ns->(∀ a∈ns,m<=a)->Q (.int m) H
theorem DX:∀ {ns:List Int} {its:List Value},Vals (ns.map V.int) its->∃ xs:Array (Int×Tok),its.toArray=intItems xs/\xs.toList.map (·.1)=ns
 |[],_,h=>by cases h;exact⟨#[],by simp[intItems],rfl⟩
 |n::ns,_,h=>by
  cases h with
  |cons r t =>
   obtain⟨tk,rfl⟩:=r;obtain⟨xs,e1,e2⟩:=DX t;refine⟨#[(n,tk)]++xs,?_,?_⟩
   ·apply Array.toList_inj.mp;have:=congrArg Array.toList e1;simp[intItems]at this ⊢;exact this
   ·simp[e2]
def æ (hK:X.K=K)(hc:X.calm=true):Y4 X (.builtin "max") (zw0 K):=fun Z9 s U H xs us Q I r h=>by
 subst hK;obtain⟨p,ns,rfl,hS,hne,q⟩:=h;obtain⟨u,rfl,ru⟩:=vals1 r;cases ru;obtain⟨its,rv,pl,hz⟩:=I.list hS;obtain⟨xs,e1,e2⟩:=DX rv;have hsz:0<xs.size:=by rw[<- U6,<- qa (f:=(·.1)),e2];exact hne
 refine max_intList (I.ok.hd hc) (e1▸pl.isList) hsz fun v h' tk hv hk=>?_
 obtain⟨t,rfl⟩:=intItems_at hv;obtain⟨h1,h2⟩:=argBest_gt (numAt xs) (xs.size-1);refine⟨.int _,H,I.kept (t':=tk) hk,⟨t,rfl⟩,q _ ?_ fun a ha=>?_⟩
 ·rw[<- e2,numAt_eq];exact getD_mem (by rw[qa,U6];lia)
 ·rw[<- e2]at ha;obtain⟨j,hj,rfl⟩:=mem_getD ha;rw[qa,U6]at hj;rw[<- numAt_eq];exact h2 j (by lia)
def cW (hK:X.K=K)(hc:X.calm=true):Y4 X (.builtin "min") (jx K):=fun Z9 s U H xs us Q I r h=>by
 subst hK;obtain⟨p,ns,rfl,hS,hne,q⟩:=h;obtain⟨u,rfl,ru⟩:=vals1 r;cases ru;obtain⟨its,rv,pl,hz⟩:=I.list hS;obtain⟨xs,e1,e2⟩:=DX rv;have hsz:0<xs.size:=by rw[<- U6,<- qa (f:=(·.1)),e2];exact hne
 refine min_intList (I.ok.hd hc) (e1▸pl.isList) hsz fun v h' tk hv hk=>?_
 obtain⟨t,rfl⟩:=intItems_at hv;obtain⟨h1,h2⟩:=argBest_lt (numAt xs) (xs.size-1);refine⟨.int _,H,I.kept (t':=tk) hk,⟨t,rfl⟩,q _ ?_ fun a ha=>?_⟩
 ·rw[<- e2,numAt_eq];exact getD_mem (by rw[qa,U6];lia)
 ·rw[<- e2]at ha;obtain⟨j,hj,rfl⟩:=mem_getD ha;rw[qa,U6]at hj;rw[<- numAt_eq];exact h2 j (by lia)
end
section
variable {X:Cx}{K:PySem.W.Frag}
def ò (K:PySem.W.Frag):R2:=fun x y H Q=>∃ l b xs zs,x=.ref l/\y=.ref b/\Zz K H l xs/\Zz K H b zs/\xs.length+zs.length<=sizeLine/\∀ p,H p=none->Q (.ref p) (upd H p (.lst (xs++zs)))
def Δ (hK:X.K=K):ZJ X (binaryOp .Add) (ò K):=by
 subst hK;intro Z9 s U H x y v u Q I rx ry h;obtain⟨l,b,xs,zs,rfl,rfl,hH,hB,hz,q⟩:=h;cases rx;cases ry;obtain⟨its,r,pl,_⟩:=I.list hH;obtain⟨its2,r2,pl2,_⟩:=I.list hB;obtain⟨⟨cls,dd,data,sl⟩,ho,hc,n,hd⟩:=pl.isList;obtain⟨⟨cls2,dd2,data2,sl2⟩,ho2,hc2,n2,hd2⟩:=pl2.isList;simp only at hc hd hc2 hd2;subst hc hd hc2 hd2;have e1:=r.length;have e2:=r2.length;refine concat_meets ⟨_,ho,rfl⟩ ⟨_,ho2,rfl⟩ noFill_list_add seq_list_add PySem.F.slot_list_add PySem.F.entry_list_add (PySem.F.args_list_add_2 _ _) (list_addW l b its.toArray its2.toArray n n2 dd dd2 sl sl2 (by rw[qB,qB];lia)) ⟨ho,ho2,?_⟩;have ea:its.toArray++its2.toArray=(its++its2).toArray:=by simp
 rw[ea];exact⟨.ref _,_,I.lnew (t':=s.toks) (r.append r2) (by rw[qg];lia),rfl,q _ I.fresh⟩
end
section
variable {U:L2.St}{K:PySem.W.Frag}{own:List Str}{fv:List Nat}{g:TG}{tc:TT}{te:TE}{R:Hp->Prop}{H1:Hp}{p a:Addr}{xs:List V}
end
def Wo {α:Type}{xs:List α}{i:Nat}{x:α}(h:xs[i]?=some x):i<xs.length:=by
 rcases qV i xs.length with g|g
 ·exact g
 ·rw[qA g]at h;cases h
open PySem PySem.W PyProof.Rows
section
variable {lt:Nat->Nat->Bool}
abbrev ga (p:Array Nat)(i:Nat):Nat:=p.getD i 0
end
open PySem PySem.Spec PySem.W PyProof.Rows L2
section
variable {prog:Program}{w:World}{A:Around}{E:Value->Shared->Prop}{s:Shared}
end
section
variable {K:PySem.W.Frag}{H:Hp}
end
def ztg (K:PySem.W.Frag):R2:=fun x y H Q=>∃ a b xs ys,x=.ref a/\y=.ref b/\ZG K H a xs/\ZG K H b ys/\xs.length+ys.length<=sizeLine/\(xs=[]->Q (.ref b) H)/\(xs≠[]->ys=[]->Q (.ref a) H)/\(xs≠[]->ys≠[]->∀ p,H p=none->Q (.ref p) (upd H p (.tup (xs++ys))))
def j4 {X:Cx}{K:PySem.W.Frag}(hK:X.K=K):ZJ X (binaryOp .Add) (ztg K):=by
 subst hK;intro Z9 s U H x y v u Q I rx ry h;obtain⟨a,b,xs,ys,rfl,rfl,ha,hb,hz,q0,q1,q2⟩:=h;by_cases hx:xs=[]
 ·subst hx;cases rx;cases ry;obtain⟨its,r1,p1,_⟩:=I.tuple ha;obtain⟨its2,r2,p2,_⟩:=I.tuple hb;cases r1;obtain⟨⟨cls,dd,data,sl⟩,ho,hc,n,hd⟩:=id p1;obtain⟨⟨cls2,dd2,data2,sl2⟩,ho2,hc2,n2,hd2⟩:=id p2;simp only at hc hd hc2 hd2;subst hc hd hc2 hd2
  exact concat_meets ⟨_,ho,rfl⟩ ⟨_,ho2,rfl⟩ noFill_tuple_add seq_tuple_add PySem.F.slot_tuple_add PySem.F.entry_tuple_add (PySem.F.args_tuple_add_2 _ _)
   (tuple_addW0 a b _ its2.toArray n n2 dd dd2 sl sl2 (by simp)) ⟨ho,ho2,⟨.ref b,H,I,rfl,q0 rfl⟩⟩
 ·exact zrj Z9 s U H _ _ v u Q I rx ry ⟨a,b,xs,ys,rfl,rfl,ha,hb,hx,hz,q1 hx,q2 hx⟩
end My
namespace L2
open PySem PySem.Spec PyProof.Rows
section
variable {κ:Type}[DecidableEq κ]
def Ys (Z8:List (κ×V))(k:κ):Option V:=(Z8.find? fun kv=>decide (kv.1=k)).map (·.2)
def putK (Z8:List (κ×V))(k:κ)(v:V):List (κ×V) :=if(Z8.any fun kv=>decide (kv.1=k))=true then Z8.map (fun kv=>if kv.1=k then(kv.1,v)else kv)else Z8++[(k,v)]
def mO {k:κ}:Ys ([]:List (κ×V)) k=none:=rfl
def Pk {p:κ×V}{r:List (κ×V)}{k:κ}(e:p.1=k):Ys (p::r) k=some p.2:=by simp[Ys,List.find?_cons,e]
def Qn {p:κ×V}{r:List (κ×V)}{k:κ}(e:¬ p.1=k):Ys (p::r) k=Ys r k:=by simp[Ys,List.find?_cons,e]
theorem N7 (k:κ):∀ Z8:List (κ×V),(Z8.any fun kv=>decide (kv.1=k))=(Ys Z8 k).isSome
 |[]=>rfl
 |p::r=>by
  rw[KC];by_cases e:p.1=k
  ·simp only[Pk e,decide_eq_true e,Bool.true_or,Option.isSome_some]
  ·rw[Qn e,decide_eq_false e,Bool.false_or];exact N7 k r
def Jp (Z8:List (κ×V))(k:κ)(v:V):(putK Z8 k v).length<=Z8.length+1:=by
 unfold putK;split
 ·rw[qa];lia
 ·rw[qg,qY,Qd];lia
def Yb.isSome_eq (r:Yb o u):o.isSome=u.isSome:=by
 cases o with
 |none=>cases u with
  |none=>rfl
  |some _=>exact(show False from r).elim
 |some _=>cases u with
  |none=>exact(show False from r).elim
  |some _=>rfl
theorem Yb.getD (r:Yb o u)(rd:RelV d d'):RelV (o.getD d) (u.getD d'):=by
 cases o with
 |none=>cases u with
  |none=>exact rd
  |some _=>exact(show False from r).elim
 |some _=>cases u with
  |none=>exact(show False from r).elim
  |some _=>exact r
def KV.val (r:KV Z8 vs)(k:κ):Yb (Ys Z8 k) (valueAt vs k):=by
 unfold KV at r
 induction r with
 |nil=>exact True.intro
 |@cons p q ps qs h t ih =>
  obtain⟨h1,h2⟩:=h;by_cases e:p.1=k
  ·have e':q.1=k:=h1.symm.trans e;have b:valueAt (q::qs) k=some q.2:=by simp[valueAt,List.find?_cons,e']
   rw[Pk e,b];exact h2
  ·have e':¬ q.1=k:=fun z=>e (h1.trans z)
   have b:valueAt (q::qs) k=valueAt qs k:=by simp[valueAt,List.find?_cons,e']
   rw[Qn e,b];exact ih
theorem KV.any (r:KV Z8 vs)(k:κ):(Z8.any fun kv=>decide (kv.1=k))=vs.any fun kv=>decide (kv.1=k):=by
 unfold KV at r
 induction r with
 |nil=>rfl
 |cons h t ih=>rw[KC,KC,ih,h.1]
def KV.repl (r:KV Z8 vs)(k:κ)(ry:RelV y u) :
  KV (Z8.map fun kv=>if kv.1=k then(kv.1,y)else kv) (vs.map fun kv=>if kv.1=k then(kv.1,u)else kv):=by
 unfold KV at r ⊢
 induction r with
 |nil=>exact .nil
 |@cons p q ps qs h t ih =>
  rw[qQ,qQ];refine .cons ?_ ih;obtain⟨h1,h2⟩:=h;by_cases e:p.1=k
  ·rw[if_pos e,if_pos (h1.symm.trans e)];exact⟨h1,ry⟩
  ·rw[if_neg e,if_neg (fun z=>e (h1.trans z))];exact⟨h1,h2⟩
def KV.put (r:KV Z8 vs)(k:κ)(ry:RelV y u):KV (putK Z8 k y) (stored vs k u):=by
 unfold putK stored;rw[r.any k];by_cases e:(vs.any fun kv=>decide (kv.1=k))=true
 ·rw[if_pos e,if_pos e];exact r.repl k ry
 ·rw[if_neg e,if_neg e];exact Paired.snoc r ⟨rfl,ry⟩
theorem KV.length (r:KV Z8 vs):Z8.length=vs.length:=Paired.length r
end
def Rb {P:Program}{w:World}{k:Key}(r:RelV (kV k) u):(zP P w).is k u=true:=by
 cases k with
 |inl i=>obtain⟨t,e⟩:=(show ∃ t,u=Value.int i t from r);subst e;exact Ñ P w i t
 |inr x=>obtain⟨t,e⟩:=(show ∃ t,u=Value.str x t from r);subst e;exact zkc P w x t
theorem uq {P:Program}{w:World}:∀ {ks:List Key} {us:List Value},Vals (ks.map kV) us->ItemsAre (zP P w) ks us
 |[],_,r=>by rw[Qh]at r;cases r;exact .nil
 |k::ks,_,r=>by
  rw[qQ]at r;cases r with
  |cons h t=>exact .cons (Rb h) (uq t)
abbrev KT (H:Hp):List (List Key×V)->List (List Key×Addr×Value)->Prop:=Paired fun p q=>p.1=q.1/\H q.2.1=some (.tup (p.1.map kV))/\RelV p.2 q.2.2
def KT.val (r:KT H Z8 xs)(k:List Key):Yb (Ys Z8 k) ((atKey xs k).map (·.2)):=by
 induction r with
 |nil=>exact True.intro
 |@cons p q ps qs h t ih =>
  obtain⟨h1,_,h2⟩:=h;by_cases e:p.1=k
  ·have e':q.1=k:=h1.symm.trans e;have b:atKey (q::qs) k=some q.2:=by simp[atKey,List.find?_cons,e']
   rw[Pk e,b];exact h2
  ·have e':¬ q.1=k:=fun z=>e (h1.trans z)
   have b:atKey (q::qs) k=atKey qs k:=by simp[atKey,List.find?_cons,e']
   rw[Qn e,b];exact ih
def KT.repl (r:KT H Z8 xs)(k:List Key)(ry:RelV y u) :
  KT H (Z8.map fun kv=>if kv.1=k then(kv.1,y)else kv) (xs.map (putAt k u)):=by
 induction r with
 |nil=>exact .nil
 |@cons p q ps qs h t ih =>
  rw[qQ,qQ];refine .cons ?_ ih;obtain⟨h1,h2,h3⟩:=h;unfold putAt;by_cases e:p.1=k
  ·rw[if_pos e,if_pos (h1.symm.trans e)];exact⟨h1,h2,ry⟩
  ·rw[if_neg e,if_neg (fun z=>e (h1.trans z))];exact⟨h1,h2,h3⟩
def KT.put (r:KT H Z8 xs)(k:List Key)(hb:H b=some (.tup (k.map kV)))(ry:RelV y u) :
  KT H (putK Z8 k y) (storedH xs k b u):=by
 have e:(Z8.any fun kv=>decide (kv.1=k))=(atKey xs k).isSome:=by rw[N7,(r.val k).isSome_eq,Oc]
 unfold putK storedH;rw[e];by_cases q:(atKey xs k).isSome=true
 ·rw[if_pos q,if_pos q];exact r.repl k ry
 ·rw[if_neg q,if_neg q];exact Paired.snoc r ⟨rfl,hb,ry⟩
def KT.keeps {H':Hp}(r:KT H Z8 xs)(ht:∀ b ys,H b=some (.tup ys)->H' b=some (.tup ys)):KT H' Z8 xs :=Paired.mapP r fun _ _ z=>⟨z.1,ht _ _ z.2.1,z.2.2⟩
section
variable {P:Program}{w:World}{H:Hp}{h:Heap}{a:Addr}
def Cr (ok:ZF P w H h)(e:Rd H a u):zZ P w H h a u:=e.ok ok
def RD {Z8:List (Key×V)}(ok:ZF P w H h)(e:Rd H a (.dK Z8)):Z8.length<=sizeLine/\(a==sysModules)=false/\∃ vs,KV Z8 vs/\h.DictOf (zP P w) a vs :=show zZ P w H h a (.dK Z8)from Cr ok e
def nq {Z8:List (Key×V)}(ok:ZF P w H h)(e:H a=some (.dK Z8)):Z8.length<=sizeLine/\(a==sysModules)=false/\∃ vs,KV Z8 vs/\h.DictOf (zP P w) a vs:=RD ok (.inl e)
def SM {ks:List Key}(ok:ZF P w H h)(e:H a=some (.tup (ks.map kV))):(tupleKind (zP P w)).is h ks a:=by
 obtain⟨_,its,r,o,h1,h2,n,h3⟩:=(show zZ P w H h a (.tup (ks.map kV))from ok a _ e)
 exact⟨o,its.toArray,n,h1,h2,h3,by simpa using uq r⟩
def Ry {Z8:List (List Key×V)}(ok:ZF P w H h)(e:Rd H a (.dT Z8)):Z8.length<=sizeLine/\(a==sysModules)=false /\
  ∃ xs,KT H Z8 xs/\h.DictOfH (tupleKind (zP P w)) a xs:=by
 obtain⟨z,y,xs,r,o,es,ep,h1,h2,h3,h4,h5⟩:=(show zZ P w H h a (.dT Z8)from Cr ok e)
 refine⟨z,y,xs,r,o,es,ep,h1,h2,h3,h4,fun x hx=>?_,h5⟩
 have all:∀ {l:List (List Key×V)} {m:List (List Key×Addr×Value)},KT H l m->∀ x∈m,(tupleKind (zP P w)).is h x.1 x.2.1:=by
  intro l m q
  induction q with
  |nil=>intro x hx;exact nomatch hx
  |@cons p q ps qs hq t ih =>
   intro x hx;rcases ql.mp hx with e|hx
   ·subst e;exact SM ok (by rw[<- hq.1];exact hq.2.1)
   ·exact ih x hx
 exact all r x hx
def pH {Z8:List (List Key×V)}(ok:ZF P w H h)(e:H a=some (.dT Z8)):Z8.length<=sizeLine/\(a==sysModules)=false /\
  ∃ xs,KT H Z8 xs/\h.DictOfH (tupleKind (zP P w)) a xs:=Ry ok (.inl e)
end
abbrev KN (H:Hp):List (List (List Key)×V)->List (List (List Key)×Addr×Value)->Prop:=Paired fun p q=>p.1=q.1/\WD H q.2.1 p.1/\RelV p.2 q.2.2
def KN.val (r:KN H Z8 xs)(k:List (List Key)):Yb (Ys Z8 k) ((atKey xs k).map (·.2)):=by
 induction r with
 |nil=>exact True.intro
 |@cons p q ps qs h t ih =>
  obtain⟨h1,_,h2⟩:=h;by_cases e:p.1=k
  ·have e':q.1=k:=h1.symm.trans e;have b:atKey (q::qs) k=some q.2:=by simp[atKey,List.find?_cons,e']
   rw[Pk e,b];exact h2
  ·have e':¬ q.1=k:=fun z=>e (h1.trans z)
   have b:atKey (q::qs) k=atKey qs k:=by simp[atKey,List.find?_cons,e']
   rw[Qn e,b];exact ih
def KN.repl (r:KN H Z8 xs)(k:List (List Key))(ry:RelV y u) :
  KN H (Z8.map fun kv=>if kv.1=k then(kv.1,y)else kv) (xs.map (putAt k u)):=by
 induction r with
 |nil=>exact .nil
 |@cons p q ps qs h t ih =>
  rw[qQ,qQ];refine .cons ?_ ih;obtain⟨h1,h2,h3⟩:=h;unfold putAt;by_cases e:p.1=k
  ·rw[if_pos e,if_pos (h1.symm.trans e)];exact⟨h1,h2,ry⟩
  ·rw[if_neg e,if_neg (fun z=>e (h1.trans z))];exact⟨h1,h2,h3⟩
def KN.put (r:KN H Z8 xs)(k:List (List Key))(hb:WD H b k)(ry:RelV y u) :
  KN H (putK Z8 k y) (storedH xs k b u):=by
 have e:(Z8.any fun kv=>decide (kv.1=k))=(atKey xs k).isSome:=by rw[N7,(r.val k).isSome_eq,Oc]
 unfold putK storedH;rw[e];by_cases q:(atKey xs k).isSome=true
 ·rw[if_pos q,if_pos q];exact r.repl k ry
 ·rw[if_neg q,if_neg q];exact Paired.snoc r ⟨rfl,hb,ry⟩
theorem KN.keeps {H':Hp}(r:KN H Z8 xs)(ht:∀ b ys,H b=some (.tup ys)->H' b=some (.tup ys)):KN H' Z8 xs :=Paired.mapP r fun _ _ z=>⟨z.1,z.2.1.keeps ht,z.2.2⟩
section
variable {P:Program}{w:World}{H:Hp}{h:Heap}{a:Addr}
theorem yO (ok:ZF P w H h):∀ {ks:List (List Key)} {bs:List Addr} {us:List Value},Paired (fun (ks:List Key) (c:Addr)=>H c=some (.tup (ks.map kV))) ks bs->Vals (bs.map V.ref) us->My.Xk (tupleKind (zP P w)) h ks us
 |[],_,us,.nil,r=>by cases r;exact .nil
 |k::ks,_,us,.cons e t,r=>by
  cases r with
  |cons r1 r2=>cases r1;exact .cons (SM ok e) (yO ok t r2)
def Qy {k:List (List Key)}(ok:ZF P w H h)(e:WD H a k):(My.Uq (zP P w)).is h k a:=by
 obtain⟨bs,e,r⟩:=e;obtain⟨_,its,rv,o,h1,h2,n,h3⟩:=(show zZ P w H h a (.tup (bs.map V.ref))from ok a _ e)
 exact⟨o,its.toArray,n,h1,h2,h3,by simpa using yO ok r rv⟩
def Rp {Z8:List (List (List Key)×V)}{ep:Nat}(ok:ZF P w H h)(e:Rd H a (.dN Z8 ep)):Z8.length<=sizeLine/\(a==sysModules)=false /\
  ∃ xs,KN H Z8 xs/\h.DictOfH (My.Uq (zP P w)) a xs:=by
 obtain⟨z,y,xs,r,o,es,h1,h2,h3,h4,h5⟩:=(show zZ P w H h a (.dN Z8 ep)from Cr ok e)
 refine⟨z,y,xs,r,o,es,ep,h1,h2,h3,h4,fun x hx=>?_,h5⟩
 have all:∀ {l:List (List (List Key)×V)} {m:List (List (List Key)×Addr×Value)},KN H l m->∀ x∈m,(My.Uq (zP P w)).is h x.1 x.2.1:=by
  intro l m q
  induction q with
  |nil=>intro x hx;exact nomatch hx
  |@cons p q ps qs hq t ih =>
   intro x hx;rcases ql.mp hx with e|hx
   ·subst e;exact Qy ok (by rw[<- hq.1];exact hq.2.1)
   ·exact ih x hx
 exact all r x hx
def cu {Z8:List (List (List Key)×V)}{ep:Nat}(ok:ZF P w H h)(e:H a=some (.dN Z8 ep)):Z8.length<=sizeLine/\(a==sysModules)=false /\
  ∃ xs,KN H Z8 xs/\h.DictOfH (My.Uq (zP P w)) a xs:=Rp ok (.inl e)
def nest_room {A:Around}(hu:A.units+2<cLine):(My.Uq (zP P w)).room A.in1:=hu
end
def Yp (H:Hp)(a:Addr)(y:V)(r:Option V):Prop :=
 (∃ Z8 k,Rd H a (.dK Z8)/\y=kV k/\r=Ys Z8 k)\/(∃ Z8 k b,Rd H a (.dT Z8)/\y=.ref b/\H b=some (.tup (k.map kV))/\r=Ys Z8 k) \/
 ∃ Z8 ep k b,Rd H a (.dN Z8 ep)/\y=.ref b/\WD H b k/\r=Ys Z8 k
def SX (H:Hp)(a:Addr)(y v:V)(H':Hp):Prop :=
 (∃ Z8 k,H a=some (.dK Z8)/\y=kV k/\Z8.length<sizeLine/\H'=upd H a (.dK (putK Z8 k v))) \/
 ∃ Z8 k b,H a=some (.dT Z8)/\y=.ref b/\H b=some (.tup (k.map kV))/\Z8.length<sizeLine/\H'=upd H a (.dT (putK Z8 k v))
theorem Yp.k {H:Hp}{Z8:List (Key×V)}{k:Key}(e:H a=some (.dK Z8)):Yp H a (kV k) (Ys Z8 k):=.inl ⟨Z8,k,.inl e,rfl,rfl⟩
def Yp.t {H:Hp}{Z8:List (List Key×V)}{k:List Key}(e:H a=some (.dT Z8))(eb:H b=some (.tup (k.map kV))):Yp H a (.ref b) (Ys Z8 k):=.inr (.inl ⟨Z8,k,b,.inl e,rfl,eb,rfl⟩)
def Yp.n {H:Hp}{Z8:List (List (List Key)×V)}{ep:Nat}{k:List (List Key)}(e:H a=some (.dN Z8 ep))(eb:WD H b k):Yp H a (.ref b) (Ys Z8 k):=.inr (.inr ⟨Z8,ep,k,b,.inl e,rfl,eb,rfl⟩)
theorem SX.k {H:Hp}{Z8:List (Key×V)}{k:Key}{v:V}(e:H a=some (.dK Z8))(hl:Z8.length<sizeLine):SX H a (kV k) v (upd H a (.dK (putK Z8 k v))):=.inl ⟨Z8,k,e,rfl,hl,rfl⟩
def SX.t {H:Hp}{Z8:List (List Key×V)}{k:List Key}{v:V}(e:H a=some (.dT Z8))(eb:H b=some (.tup (k.map kV)))(hl:Z8.length<sizeLine) :
  SX H a (.ref b) v (upd H a (.dT (putK Z8 k v))):=.inr ⟨Z8,k,b,e,rfl,eb,hl,rfl⟩
section
variable {X:Cx}{Z9:List (Addr×Obj)}{U:St}{H:Hp}{s:Shared}{a:Addr}{y v:V}{u r:Value}{o:Option V}{A:Around}{E:Value->Shared->Prop}
def Inv.big (I:Inv X Z9 U H s):sysModules<s.heap.objs.size:=by have h:mainGlobals<s.heap.objs.size:=(I.mod.glob.keeps I.bk).lt;exact Nat.lt_trans (by decide) h
def Ĥ {Q:Value->Shared->Prop}(hu:A.units+2<cLine)(I:Inv X Z9 U H s)(g:Yp H a y (some v))(ry:RelV y u)(h:∀ w' s',Inv X Z9 U H s'->RelV v w'->Q w' s') :
  wpAny (model X.prog X.w) A (getItem (.ref a) u) Q E s:=by
 rcases g with⟨Z8,k,e,ey,l⟩|⟨Z8,k,b,e,ey,eb,l⟩|⟨Z8,ep,k,b,e,ey,eb,l⟩
 ·subst ey;obtain⟨z,hd,vs,rel,dd⟩:=RD I.hok e;obtain⟨w',hw,rw'⟩:=Yb.some_of (v:=v) (o:=valueAt vs k) (by rw[l];exact rel.val k);exact wpAny_getItem_of (Rb ry) dd.mapOf hw (h w' _ (I.tok _) rw')
 ·subst ey;cases(show u=Value.ref b from ry);obtain⟨z,hd,xs,rel,dd⟩:=Ry I.hok e;obtain⟨w',hw,rw'⟩:=Yb.some_of (v:=v) (o:=(atKey xs k).map (·.2)) (by rw[l];exact rel.val k);obtain⟨p,hp,hp2⟩:=PN.mp hw;refine wpAny_getItem_heap (tupleKind_room_in1 (Uu hu)) (SM I.hok eb) dd hp ?_;rw[hp2];exact h w' _ (I.tok _) rw'
 ·subst ey;cases(show u=Value.ref b from ry);obtain⟨z,hd,xs,rel,dd⟩:=Rp I.hok e;obtain⟨w',hw,rw'⟩:=Yb.some_of (v:=v) (o:=(atKey xs k).map (·.2)) (by rw[l];exact rel.val k);obtain⟨p,hp,hp2⟩:=PN.mp hw;refine wpAny_getItem_heap (nest_room hu) (Qy I.hok eb) dd hp ?_;rw[hp2];exact h w' _ (I.tok _) rw'
def zy2 {Q:Value->Shared->Prop}(hu:A.units+2<cLine)(I:Inv X Z9 U H s)(g:Yp H a y o)(ry:RelV y u)(h:∀ s',Inv X Z9 U H s'->Q (.bool o.isSome) s') :
  wpAny (model X.prog X.w) A (compareOp .In u (.ref a)) Q E s:=by
 rcases g with⟨Z8,k,e,ey,l⟩|⟨Z8,k,b,e,ey,eb,l⟩|⟨Z8,ep,k,b,e,ey,eb,l⟩
 ·subst ey;obtain⟨z,hd,vs,rel,dd⟩:=RD I.hok e;refine wpAny_in_of (Rb ry) hd dd.mapOf ?_;rw[<- (rel.val k).isSome_eq,<- l];exact h _ (I.tok _)
 ·subst ey;cases(show u=Value.ref b from ry);obtain⟨z,hd,xs,rel,dd⟩:=Ry I.hok e;refine wpAny_in_heap (tupleKind_room_in1 (Uu hu)) (SM I.hok eb) hd dd ?_;have q:=(rel.val k).isSome_eq;rw[Oc]at q;rw[<- q,<- l];exact h _ (I.tok _)
 ·subst ey;cases(show u=Value.ref b from ry);obtain⟨z,hd,xs,rel,dd⟩:=Rp I.hok e;refine wpAny_in_heap (nest_room hu) (Qy I.hok eb) hd dd ?_;have q:=(rel.val k).isSome_eq;rw[Oc]at q;rw[<- q,<- l];exact h _ (I.tok _)
def Í {Q:Value->Shared->Prop}(hu:A.units+2<cLine)(I:Inv X Z9 U H s)(g:Yp H a y o)(ry:RelV y u)(h:∀ s',Inv X Z9 U H s'->Q (.bool (!o.isSome)) s') :
  wpAny (model X.prog X.w) A (compareOp .NotIn u (.ref a)) Q E s:=by
 rcases g with⟨Z8,k,e,ey,l⟩|⟨Z8,k,b,e,ey,eb,l⟩|⟨Z8,ep,k,b,e,ey,eb,l⟩
 ·subst ey;obtain⟨z,hd,vs,rel,dd⟩:=RD I.hok e;refine wpAny_notIn_of (Rb ry) hd dd.mapOf ?_;rw[<- (rel.val k).isSome_eq,<- l];exact h _ (I.tok _)
 ·subst ey;cases(show u=Value.ref b from ry);obtain⟨z,hd,xs,rel,dd⟩:=Ry I.hok e;refine wpAny_notIn_heap (tupleKind_room_in1 (Uu hu)) (SM I.hok eb) hd dd ?_;have q:=(rel.val k).isSome_eq;rw[Oc]at q;rw[<- q,<- l];exact h _ (I.tok _)
 ·subst ey;cases(show u=Value.ref b from ry);obtain⟨z,hd,xs,rel,dd⟩:=Rp I.hok e;refine wpAny_notIn_heap (nest_room hu) (Qy I.hok eb) hd dd ?_;have q:=(rel.val k).isSome_eq;rw[Oc]at q;rw[<- q,<- l];exact h _ (I.tok _)
def K3 {t':Nat}{ob:HO}(I:Inv X Z9 U H s)(mu:Nz (H a))(hs:Heap.SameBut a s.heap h')(he:∃ q,h'.get? a=some q)(new:zZ X.prog X.w (upd H a ob) h' a ob) :
  Inv X Z9 U (upd H a ob) { s with heap:=h',toks:=t' } :=
 I.write (x:=a) (e:=a) mu (.inl rfl) (fun b q hb z=>(hs.2 b hb).trans z) he new
def uF {P:Program}{w:World}{H':Hp}{h':Heap}{Z8:List (Key×V)}(z:Z8.length<=sizeLine)(hd:(a==sysModules)=false)(rel:KV Z8 vs)(dd:h'.DictOf (zP P w) a vs) :
  zZ P w H' h' a (.dK Z8):=⟨z,hd,vs,rel,dd⟩
def znB {Q:Unit->Shared->Prop}(hu:A.units+2<cLine)(I:Inv X Z9 U H s)(g:SX H a y v H')(ry:RelV y u)(rv:RelV v r)(h:∀ s',Inv X Z9 U H' s'->Q () s') :
  wpAny (model X.prog X.w) A (setItem (.ref a) u r) Q E s:=by
 rcases g with⟨Z8,k,e,ey,l,eH⟩|⟨Z8,k,b,e,ey,eb,l,eH⟩
 ·subst ey eH;obtain⟨z,hd,vs,rel,dd⟩:=nq I.hok e;have hz:vs.length<=sizeLine:=by rw[<- rel.length];exact z
  have hl:(putK Z8 k v).length<=sizeLine:=by have:=Jp Z8 k v;lia
  refine wpAny_setItem_pairs (hsz:=hz) (Rb ry) dd fun h' dd' hs=>h _ ?_
  have he:∃ q,h'.get? a=some q:=let ⟨q,_,_,hq,_⟩:=dd';⟨q,hq⟩;exact K3 I (by rw[e];exact True.intro) hs he (uF hl hd (rel.put k rv) dd')
 ·subst ey eH;cases(show u=Value.ref b from ry);obtain⟨z,hd,xs,rel,dd⟩:=pH I.hok e;have hz:xs.length<=sizeLine:=by rw[<- Paired.length rel];exact z
  have hl:(putK Z8 k v).length<=sizeLine:=by have:=Jp Z8 k v;lia
  refine wpAny_setItem_heap (hsz:=hz) (tupleKind_room_in1 (Uu hu)) (SM I.hok eb) dd fun h' dd' hs=>h _ ?_
  obtain⟨q,es,ep,hq,h2,h3,h4,_,h5⟩:=dd';refine K3 I (by rw[e];exact True.intro) hs ⟨q,hq⟩ ⟨hl,hd,_,(rel.put k eb rv).keeps fun c ys ec=>?_,q,es,ep,hq,h2,h3,h4,h5⟩;rw[zu (VH ec e (fun z=>nomatch z))];exact ec
end
section
variable {X:Cx}{Z9:List (Addr×Obj)}{U:St}{H:Hp}{s:Shared}{a:Addr}{Z8:List (Key×V)}{k:Key}{u:Value}{A:Around}{E:Value->Shared->Prop}
end
def Iz (i:Expr):Prop:=∀ ov iv,subscripted i false ov iv=operate [ov,iv] (getItem ov iv)
def zro {prog:Program}{w:World}{A:Around}{E:Value->Shared->Prop}{s:Shared}{env:Env}{value:Expr}{pos:Pos}{T id:String}{Q:Value->Shared->Prop}(hl:typeLookup (.type T) "__getitem__"=pure (some (.builtin id)))(hs:Iz slice)(h:wpAny (model prog w) A (eval value env) (fun o s₁=>wpAny (model prog w) A (eval slice env) (fun i s₂=>s₂.TypeIs o T/\wpAny (model prog w) A (getItem o i) Q E s₂) E s₁) E s) :
  wpAny (model prog w) A (eval (.Subscript value slice pos) env) Q E s:=by
 refine Subscript_ (wpAny_mono h (fun o s₁ h₁=>wpAny_mono h₁ (fun i s₂ h₂=>?_) fun _ _ x=>x) fun _ _ x=>x);obtain⟨hT,h₂⟩:=h₂;unfold subscriptTail;refine wpAny_bind ?_;rw[getitemInPython_of_ne hT.not_modules];refine wpAny_bind (wpAny_specialOf hT hl ?_)
 have fin:wpAny (model prog w) A (subscripted slice false o i) (fun r s₃=>wpAny (model prog w) A (letTemporaryGo value o r >>= fun _=>pure r) Q E s₃) E s₂:=by rw[hs o i];exact wpAny_operating (wpAny_mono h₂ (fun r s₃ h₃=>wpAny_bind (wpAny_letTemporaryGo (wpAny_pure h₃))) fun _ _ x=>x)
 first
  |exact wpAny_pure (wpAny_bind fin)
  |exact wpAny_bind (wpAny_pure (wpAny_bind fin))
  |exact wpAny_bind fin
def zka (I:Inv X Z9 U H s)(g:Yp H a y o):s.TypeIs (.ref a) "dict":=by
 rcases g with⟨Z8,k,e,_,_⟩|⟨Z8,k,b,e,_,_,_⟩|⟨Z8,ep,k,b,e,_,_,_⟩
 ·obtain⟨_,_,vs,_,dd⟩:=RD I.hok e;exact dd.typeIs
 ·obtain⟨_,_,xs,_,dd⟩:=Ry I.hok e;exact dd.typeIs
 ·obtain⟨_,_,xs,_,dd⟩:=Rp I.hok e;exact dd.typeIs
def zx3 (td ty:TE):TE:=fun U H Q=>td U H fun x H1=>ty U H1 fun y H2=>∃ a v,x=.ref a/\Yp H2 a y (some v)/\Q v H2
def Ū (ty td:TE):TE:=fun U H Q=>ty U H fun y H1=>td U H1 fun x H2=>∃ a o,x=.ref a/\Yp H2 a y o/\Q (.bl o.isSome) H2
def Γ (ty td:TE):TE:=fun U H Q=>ty U H fun y H1=>td U H1 fun x H2=>∃ a o,x=.ref a/\Yp H2 a y o/\Q (.bl (!o.isSome)) H2
def Ş (td ty tv:TE):TS:=fun D U H=>tv U H fun v H1=>td U H1 fun x H2=>ty U H2 fun y H3=>∃ a H4,x=.ref a/\SX H3 a y v H4/\D.nx U H4
section
variable {X:Cx}{o i e value:Expr}{pos pos' tpos:Pos}{td ty tv:TE}
def jE (hu:X.A.units+2<cLine)(ho:PE X o td)(hi:PE X i ty)(hs:Iz i):PE X (.Subscript o i pos) (zx3 td ty):=by intro Z9 s U H Q I h;refine zro PySem.F.slot_dict_getitem.lookup hs (Z2 (ho Z9 s U H _ I h) fun u s1 ⟨x,H1,I1,rx,q1⟩=>Z2 (hi Z9 s1 U H1 _ I1 q1) fun iv s2 ⟨y,H2,I2,ry,a,v,ex,g,q2⟩=>?_);subst ex;obtain rfl:u=Value.ref a:=rx;exact⟨zka I2 g,Ĥ hu I2 g ry fun w' s3 I3 rw'=>⟨v,H2,I3,rw',q2⟩⟩
def vN (hu:X.A.units+2<cLine)(hi:PE X i ty)(ho:PE X o td):PC X .In i o (Ū ty td):=by
 intro Z9 s U H Q I h;refine Z2 (hi Z9 s U H _ I h) fun iv s1 ⟨y,H1,I1,ry,q1⟩=>Z2 (ho Z9 s1 U H1 _ I1 q1) fun u s2 ⟨x,H2,I2,rx,a,ov,ex,g,q2⟩=>?_
 subst ex;obtain rfl:u=Value.ref a:=rx;exact zy2 hu I2 g ry fun s3 I3=>⟨.bl ov.isSome,H2,I3,rfl,q2⟩
def tU (hu:X.A.units+2<cLine)(hi:PE X i ty)(ho:PE X o td):PC X .NotIn i o (Γ ty td):=by
 intro Z9 s U H Q I h;refine Z2 (hi Z9 s U H _ I h) fun iv s1 ⟨y,H1,I1,ry,q1⟩=>Z2 (ho Z9 s1 U H1 _ I1 q1) fun u s2 ⟨x,H2,I2,rx,a,ov,ex,g,q2⟩=>?_
 subst ex;obtain rfl:u=Value.ref a:=rx;exact Í hu I2 g ry fun s3 I3=>⟨.bl (!ov.isSome),H2,I3,rfl,q2⟩
def zqh (hu:X.A.units+2<cLine)(ho:PE X o td)(hi:PE X i ty)(hv:PE X value tv)(hs:swapsWith value (some (.Subscript o i pos')) pos.line X.env=pure false) :
  PS X (.Assign [.Subscript o i pos'] value pos) (Ş td ty tv):=by
 intro Z9 s U H D I h;refine wpAny_Assign_Subscript (Z2 (hv Z9 s U H _ I h) fun r s1 ⟨v,H1,I1,rv,q1⟩=>Z2 (ho Z9 s1 U H1 _ I1 q1) fun u s2 ⟨x,H2,I2,rx,q2⟩=>Z2 (hi Z9 s2 U H2 _ I2 q2) fun iv s3 ⟨y,H3,I3,ry,a,H4,ex,g,q3⟩=>?_) hs;subst ex;obtain rfl:u=Value.ref a:=rx;exact znB hu I3 g ry rv fun s4 I4=>⟨U,H4,I4,q3⟩
end
def tY {P:Program}{w:World}{H:Hp}(h:Heap)(hb:sysModules<h.objs.size):zZ P w H (h.push { cls:=.type "dict",data:=.dict #[] }) h.objs.size (.dK []) :=⟨qX _,beq_eq_false_iff_ne.mpr (Ne.symm (qU hb)),[],.nil,Heap.DictOf.new h⟩
def u6 {P:Program}{w:World}{H:Hp}(h:Heap)(hb:sysModules<h.objs.size):zZ P w H (h.push { cls:=.type "dict",data:=.dict #[] }) h.objs.size (.dT []) :=⟨qX _,beq_eq_false_iff_ne.mpr (Ne.symm (qU hb)),[],.nil,_,#[],0,qo _ rfl,⟨rfl,rfl,rfl⟩,rfl,rfl,List.nodup_nil⟩
def zvo:TE:=fun _ H Q=>∀ p,H p=none->Q (.ref p) (upd H p (.dK []))
def Ů:TE:=fun _ H Q=>∀ p,H p=none->Q (.ref p) (upd H p (.dT []))
section
variable {X:Cx}{pos:Pos}
def Ϻ:PE X (.Dict [] [] pos) zvo:=fun Z9 s U H Q I h =>wpAny_Dict_empty ⟨.ref s.heap.objs.size,_,I.laid (a:=s.heap.objs.size) (o:=.dK []) (t':=s.toks) (fun _ _ q=>qc _ q) (qh _) (tY s.heap I.big),rfl,h _ (I.hok.fresh (qh _))⟩
def kE:PE X (.Dict [] [] pos) Ů:=fun Z9 s U H Q I h =>wpAny_Dict_empty ⟨.ref s.heap.objs.size,_,I.laid (a:=s.heap.objs.size) (o:=.dT []) (t':=s.toks) (fun _ _ q=>qc _ q) (qh _) (u6 s.heap I.big),rfl,h _ (I.hok.fresh (qh _))⟩
end
def G7:List (TE×TE)->St->Hp->(List (V×V)->Hp->Prop)->Prop
 |[],_,H,Q=>Q [] H
 |(tk,tv)::r,U,H,Q=>tk U H fun x H1=>tv U H1 fun y H2=>G7 r U H2 fun ps H3=>Q ((x,y)::ps) H3
abbrev VV:List (V×V)->List (Value×Value)->Prop:=Paired fun p q=>RelV p.1 q.1/\RelV p.2 q.2
def Kp (X:Cx)(pos:Pos)(keys:List (Option Expr))(values:List Expr)(trs:List (TE×TE)):Prop :=
 ∀ (Z9:List (Addr×Obj)) (s:Shared) (U:St) (H:Hp) (Q:List (V×V)->Hp->Prop),Inv X Z9 U H s->G7 trs U H Q ->
  wpAny (model X.prog X.w) X.A (evalPairs (pairTrees keys values X.env pos)) (fun vs s'=>∃ ps H',Inv X Z9 U H' s'/\VV ps vs/\Q ps H') X.xe s
def gP {X:Cx}{pos:Pos}:Kp X pos [] [] []:=fun Z9 s U H Q I h=>pairTrees_nil_walk ⟨[],H,I,.nil,h⟩
def ĉ {k:Expr}{tk:TE}(hk:PE X k tk)(hv:PE X v tv)(hr:Kp X pos ks vs trs) :
  Kp X pos (some k::ks) (v::vs) ((tk,tv)::trs):=fun Z9 s U H Q I h =>
 pairTrees_cons_walk (Z2 (hk Z9 s U H _ I h) fun u s1 ⟨x,H1,I1,rx,q1⟩=>Z2 (hv Z9 s1 U H1 _ I1 q1) fun w2 s2 ⟨y,H2,I2,ry,q2⟩ =>Z2 (hr Z9 s2 U H2 _ I2 q2) fun ws s3 ⟨ps,H3,I3,rel,q3⟩=>⟨(x,y)::ps,H3,I3,.cons ⟨rx,ry⟩ rel,q3⟩)
def KJ (Z8 more:List (Key×V)):List (Key×V):=more.foldl (fun acc kv=>putK acc kv.1 kv.2) Z8
def KV.merge:∀ {more:List (Key×V)} {rs:List (Key×Value)} {Z8:List (Key×V)} {vs:List (Key×Value)},KV more rs->KV Z8 vs->KV (KJ Z8 more) (merged vs rs):=by
 intro more rs Z8 vs r;unfold KV at r
 induction r generalizing Z8 vs with
 |nil=>intro q;exact q
 |@cons p q ps qs h t ih =>
  intro r0
  have e:KV (putK Z8 p.1 p.2) (stored vs q.1 q.2):=by have:=r0.put p.1 h.2;rw[<- h.1];exact this
  exact ih e
theorem pA:∀ (more Z8:List (Key×V)),(KJ Z8 more).length<=Z8.length+more.length
 |[],Z8=>by show Z8.length<=Z8.length+0;lia
 |p::r,Z8=>by have h1:=pA r (putK Z8 p.1 p.2);have h2:=Jp Z8 p.1 p.2;show(KJ (putK Z8 p.1 p.2) r).length<=_;rw[qY];lia
theorem sO {P:Program}{w:World}:∀ {Z8:List (Key×V)} {ws:List (Value×Value)},VV (Z8.map fun kv=>(kV kv.1,kv.2)) ws->∃ rs,Carries (zP P w) ws rs/\KV Z8 rs
 |[],_,r=>by rw[Qh]at r;cases r;exact⟨[],True.intro,.nil⟩
 |p::Z8,_,r=>by
  rw[qQ]at r;cases r with
  |@cons a b as bs h t =>obtain⟨rs,c,q⟩:=sO (P:=P) (w:=w) t;obtain⟨b1,b2⟩:=b;exact⟨(p.1,b2)::rs,⟨Rb h.1,rfl,c⟩,.cons ⟨rfl,h.2⟩ q⟩
def zxM (trs:List (TE×TE)):TE:=fun U H Q=>∀ p,H p=none->G7 trs U (upd H p (.dK [])) fun ps H2=>H2 p=some (.dK [])/\∃ Z8:List (Key×V),ps=Z8.map (fun kv=>(kV kv.1,kv.2))/\Z8.length<=15/\Q (.ref p) (upd H2 p (.dK (KJ [] Z8)))
def zse (h:Kp X pos keys values trs)(hall:keys.all (·.isSome)=true)(hl:keys.length=values.length)(h0:keys≠[])(h15:keys.length<=15):PE X (.Dict keys values pos) (zxM trs):=by
 intro Z9 s U H Q I q;have hn:=I.hok.fresh (qh s.heap.objs.size);have I1:=I.laid (a:=s.heap.objs.size) (o:=.dK []) (h':=s.heap.push { cls:=.type "dict",data:=.dict #[] }) (t':=s.toks) (fun _ _ q=>qc _ q) (qh _) (tY s.heap I.big);refine wpAny_Dict_walk (knd:=zP X.prog X.w) hall hl h0 h15 (Z2 (h Z9 _ U _ _ I1 (q _ hn)) fun ws s2 ⟨ps,H2,I2,rel,e,Z8,ep,lk,q2⟩=>?_);subst ep;obtain⟨rs,c,rk⟩:=sO (P:=X.prog) (w:=X.w) rel;obtain⟨z,hd,vs0,r0,dd⟩:=nq I2.hok e;cases r0;refine⟨rs,c,dd,fun h' dd' hs=>⟨.ref s.heap.objs.size,_,?_,rfl,q2⟩⟩
 have hz:(KJ [] Z8).length<=sizeLine:=by have h1:=pA Z8 [];rw[Qd]at h1;rw[sizeLine_eq];lia
 have he:∃ q,h'.get? s.heap.objs.size=some q:=by obtain⟨q,_,_,hq,_⟩:=dd';exact⟨q,hq⟩
 exact K3 I2 (by rw[e];exact True.intro) hs he (uF hz hd (rk.merge .nil) dd')
structure M1 (X:Cx)(o:Expr)(m:Str)(apos:Pos)(e:Expr)(cpos:Pos):Prop where
 base:attributeBase o m X.env (eval o X.env)=eval o X.env
 few:((backTo cpos (starEach [e] X.env)).all (fun x=>!x.1)&&(backToKw cpos (keywordEach [] X.env)).all (fun x=>x.1.isSome)
 &&decide (([e]:List Expr).length+([]:List Keyword).length+(if([]:List Keyword).isEmpty then 0 else 1)<30))=true
 line:(apos.endLine==cpos.line)=true
 trees:backTo cpos (starEach [e] X.env)=[(false,eval e X.env)]
structure M2 (X:Cx)(o:Expr)(m:Str)(apos:Pos)(e f:Expr)(cpos:Pos):Prop where
 base:attributeBase o m X.env (eval o X.env)=eval o X.env
 few:((backTo cpos (starEach [e,f] X.env)).all (fun x=>!x.1)&&(backToKw cpos (keywordEach [] X.env)).all (fun x=>x.1.isSome)
 &&decide (([e,f]:List Expr).length+([]:List Keyword).length+(if([]:List Keyword).isEmpty then 0 else 1)<30))=true
 line:(apos.endLine==cpos.line)=true
 trees:backTo cpos (starEach [e,f] X.env)=[(false,eval e X.env),(false,eval f X.env)]
def FW (H:Hp)(a:Addr):Prop:=(∃ Z8,Rd H a (.dK Z8))\/(∃ Z8,Rd H a (.dT Z8))\/∃ Z8 ep,Rd H a (.dN Z8 ep)
def oJ (I:Inv X Z9 U H s)(d:FW H a) :
  s.TypeIs (.ref a) "dict"/\(∀ b,Value.ref a=.ref b->∃ ob,s.heap.get? b=some ob/\ob.dict=none)/\(a==sysModules)=false:=by
 rcases d with⟨Z8,e⟩|⟨Z8,e⟩|⟨Z8,ep,e⟩
 ·obtain⟨_,hd,vs,_,dd⟩:=RD I.hok e;refine⟨dd.typeIs,fun b q=>?_,hd⟩;cases q;obtain⟨ob,_,_,h1,h2,_⟩:=dd;exact⟨ob,h1,h2.2.1⟩
 ·obtain⟨_,hd,xs,_,dd⟩:=Ry I.hok e;refine⟨dd.typeIs,fun b q=>?_,hd⟩;cases q;obtain⟨ob,_,_,h1,h2,_⟩:=dd;exact⟨ob,h1,h2.2.1⟩
 ·obtain⟨_,hd,xs,_,dd⟩:=Rp I.hok e;refine⟨dd.typeIs,fun b q=>?_,hd⟩;cases q;obtain⟨ob,_,_,h1,h2,_⟩:=dd;exact⟨ob,h1,h2.2.1⟩
section
variable {X:Cx}{Z9:List (Addr×Obj)}{U:St}{H:Hp}{s:Shared}{a:Addr}{y d:V}{u r:Value}{o:Option V}{A:Around}{E:Value->Shared->Prop}
def jF {Q:Value->Shared->Prop}(hu:A.units+2<cLine)(I:Inv X Z9 U H s)(g:Yp H a y o)(ry:RelV y u)(rd:RelV d r)(h:∀ w' s',Inv X Z9 U H s'->RelV (o.getD d) w'->Q w' s') :
  wpAny (model X.prog X.w) A (call (.builtin "dict.get") [.ref a,u,r]) Q E s:=by
 rcases g with⟨Z8,k,e,ey,l⟩|⟨Z8,k,b,e,ey,eb,l⟩|⟨Z8,ep,k,b,e,ey,eb,l⟩
 ·subst ey;obtain⟨z,hd,vs,rel,dd⟩:=RD I.hok e;refine call_meetsIn PySem.F.slot_dict_get dd.typeIs PySem.F.entry_dict_get (PySem.F.args_dict_get_3 _ _ _) (meets_dict_get_default (zP X.prog X.w) a (Rb ry) hd r) ⟨_,dd.mapOf,h _ _ (I.tok _) ?_⟩;rw[l];exact(rel.val k).getD rd
 ·subst ey;cases(show u=Value.ref b from ry);obtain⟨z,hd,xs,rel,dd⟩:=Ry I.hok e;refine call_meetsIn PySem.F.slot_dict_get dd.typeIs PySem.F.entry_dict_get (PySem.F.args_dict_get_3 _ _ _) (meetsH_dict_get_default (tupleKind (zP X.prog X.w)) a b hd r) ⟨tupleKind_room_in1 (Uu hu),k,xs,SM I.hok eb,dd,h _ _ (I.tok _) ?_⟩;rw[l];exact(rel.val k).getD rd
 ·subst ey;cases(show u=Value.ref b from ry);obtain⟨z,hd,xs,rel,dd⟩:=Rp I.hok e;refine call_meetsIn PySem.F.slot_dict_get dd.typeIs PySem.F.entry_dict_get (PySem.F.args_dict_get_3 _ _ _) (meetsH_dict_get_default (My.Uq (zP X.prog X.w)) a b hd r) ⟨nest_room hu,k,xs,Qy I.hok eb,dd,h _ _ (I.tok _) ?_⟩;rw[l];exact(rel.val k).getD rd
end
def Κ (td ty tx:TE):TE:=fun U H Q=>td U H fun x H1=>∃ a,x=.ref a/\FW H1 a/\ty U H1 fun y H2=>tx U H2 fun z H3=>∃ o,Yp H3 a y o/\Q (o.getD z) H3
section
variable {X:Cx}{o e f:Expr}{apos cpos:Pos}{td ty tx:TE}
def bK (hu:X.A.units+2<cLine)(ho:PE X o td)(he:PE X e ty)(hf:PE X f tx)(m:M2 X o "get" apos e f cpos):PE X (.Call (.Attribute o "get" apos) [e,f] [] cpos) (Κ td ty tx):=by
 intro Z9 s U H Q I h;refine wpAny_Call_method m.base m.few m.line PySem.F.plainAttrs_dict PySem.F.slot_dict_get PySem.F.type_dict_get (Z2 (ho Z9 s U H _ I h) fun u s1 ⟨x,H1,I1,rx,a,ex,d,q1⟩=>?_);subst ex;obtain rfl:u=Value.ref a:=rx;obtain⟨t1,t2,_⟩:=oJ I1 d;refine⟨t1,t2,?_⟩;rw[m.trees]
 refine Calls.callWith_builtin rfl (Calls.evalArgs_plain (Calls.spliced_cons (Z2 (he Z9 s1 U H1 _ I1 q1) fun iv s2 ⟨y,H2,I2,ry,q2⟩ =>Calls.spliced_cons (Z2 (hf Z9 s2 U H2 _ I2 q2) fun fv s3 ⟨z,H3,I3,rz,ov,g,q3⟩=>Calls.spliced_nil ?_))))
 exact jF hu I3 g ry rz fun w' s4 I4 rw'=>⟨_,H3,I4,rw',q3⟩
end
section
variable {X:Cx}{Z9:List (Addr×Obj)}{U:St}{H:Hp}{s:Shared}{a:Addr}{Z8:List (Key×V)}{A:Around}{E:Value->Shared->Prop}
end
section
variable {X:Cx}{Z9:List (Addr×Obj)}{U:St}{H:Hp}{s:Shared}{a:Addr}{y:V}{u:Value}{A:Around}{E:Value->Shared->Prop}
end
def lH {P:Program}{w:World}{H:Hp}(h:Heap)(hb:sysModules<h.objs.size):zZ P w H (h.push { cls:=.type "dict",data:=.dict #[] }) h.objs.size (.dN [] 0) :=⟨qX _,beq_eq_false_iff_ne.mpr (Ne.symm (qU hb)),[],.nil,_,#[],qo _ rfl,⟨rfl,rfl,rfl⟩,rfl,rfl,List.nodup_nil⟩
def mD:TE:=fun _ H Q=>∀ p,H p=none->Q (.ref p) (upd H p (.dN [] 0))
section
variable {X:Cx}{pos:Pos}
def ŭ:PE X (.Dict [] [] pos) mD:=fun _ s _ _ _ I h =>wpAny_Dict_empty ⟨.ref s.heap.objs.size,_,I.laid (a:=s.heap.objs.size) (o:=.dN [] 0) (t':=s.toks) (fun _ _ q=>qc _ q) (qh _) (lH s.heap I.big),rfl,h _ (I.hok.fresh (qh _))⟩
def Θ {K:Type}[DecidableEq K]{prog:Program}{w:World}{knd:HeapKind prog w K}{A:Around}{E:Value->Shared->Prop}{s:Shared}{env:Env}{k v:Expr}{Q:Value->Shared->Prop}(hu:knd.room A)
  (h:wpAny (model prog w) A (eval k env) (fun kv s1=>wpAny (model prog w) A (eval v env) (fun vv s2=>∃ b x,kv=.ref b/\knd.is s2.heap x b/\s2.heap.DictOfH knd s.heap.objs.size [] /\
   ∀ h' t,h'.DictOfH knd s.heap.objs.size [(x,b,vv)]->Heap.SameBut s.heap.objs.size s2.heap h'->Q (.ref s.heap.objs.size) { s2 with heap:=h',toks:=t }) E s1) E { s with heap:=s.heap.push { cls:=.type "dict",data:=.dict #[] } }) :
  wpAny (model prog w) A (eval (.Dict [some k] [v] pos) env) Q E s:=by
 have n:(pairTrees [some k] [v] env pos).length=1:=pairTrees_length _ _ env pos rfl rfl;rw[arm_eval_Dict,zip_pairTrees _ _ env pos rfl rfl,dictDisplay_pairs _ (fun e=>by rw[e]at n;cases n) (by lia)];refine wpAny_bind (wpAny_standAt (wpAny_bind ?_));unfold subDict;refine wpAny_bind (wpAny_alloc (wpAny_bind (wpAny_holding ?_)));rw[if_pos (by lia)];refine wpAny_bind (pairTrees_cons_walk (wpAny_mono h (fun kv s1 h1=>wpAny_mono h1 (fun vv s2 h2=>pairTrees_nil_walk (wpAny_holding ?_)) fun _ _ e=>e) fun _ _ e=>e));obtain⟨b,x,rfl,hx,hd,q⟩:=h2;rw[Kr];refine wpAny_bind (wpAny_bind ?_);show wpAny _ _ (dictSet s.heap.objs.size (.ref b) vv >>= _) _ _ _;refine wpAny_bind (wpAny_dictSet_heap hu hx hd fun h' hd' sb=>wpAny_pure ?_);show wpAny _ _ (forIn [] _ _) _ _ _;rw[M5];exact wpAny_pure (wpAny_pure (wpAny_pure (wpAny_pure (q h' _ hd' sb))))
def zsZ (tk tv:TE):TE:=fun U H Q=>∀ p,H p=none->tk U (upd H p (.dT [])) fun x H1=>tv U H1 fun y H2=>∃ b ks,x=.ref b/\H2 b=some (.tup (ks.map kV))/\H2 p=some (.dT [])/\Q (.ref p) (upd H2 p (.dT [(ks,y)]))
def ζ {tk:TE}(hr:X.A.units+2<cLine)(hk:PE X a tk)(hv:PE X b tv):PE X (.Dict [some a] [b] pos) (zsZ tk tv):=by intro Z9 s U H Q I q;have I1:=I.laid (a:=s.heap.objs.size) (o:=.dT []) (h':=s.heap.push { cls:=.type "dict",data:=.dict #[] }) (t':=s.toks) (fun _ _ q=>qc _ q) (qh _) (u6 s.heap I.big);refine Θ (knd:=tupleKind (zP X.prog X.w)) (show X.A.units<cLine by lia) (Z2 (hk Z9 _ U _ _ I1 (q _ (I.hok.fresh (qh s.heap.objs.size)))) fun u s1 ⟨x,H1,I2,rx,q1⟩=>Z2 (hv Z9 s1 U H1 _ I2 q1) fun u2 s2 ⟨y,H2,I3,ry,c,ks,ex,hc,hp,q2⟩=>?_);subst ex;cases(show u=Value.ref c from rx);obtain⟨z,hd,xs,rel,dd⟩:=pH I3.hok hp;cases rel;refine⟨c,ks,rfl,SM I3.hok hc,dd,fun h' t dd' hs=>⟨.ref s.heap.objs.size,_,?_,rfl,q2⟩⟩;obtain⟨o,es,ep,ho,h2,h3,h4,_,h5⟩:=dd';refine K3 I3 (by rw[hp];exact True.intro) hs ⟨o,ho⟩ ⟨by rw[sizeLine_eq];exact qI rfl,hd,[(ks,c,u2)],.cons ⟨rfl,?_,ry⟩ .nil,o,es,ep,ho,h2,h3,h4,h5⟩;rw[zu (VH hc hp (fun z=>nomatch z))];exact hc
end
section
variable {prog:Program}{w:World}{A:Around}{E:Value->Shared->Prop}{s:Shared}{it d:Addr}{i ep:Nat}{es:Array DictEntry}{ok ov:Value}
def R5 (h:Heap)(d:Addr)(es:Array DictEntry)(ep:Nat):Prop:=∃ o,h.get? d=some o/\o.cls=.type "dict"/\o.data=.dict es ep
def R5.at {h':Heap}(x:R5 h d es ep)(e:∀ o,h.get? d=some o->h'.get? d=some o):R5 h' d es ep:=by obtain⟨o,a,b⟩:=x;exact⟨o,e _ a,b⟩
def zkb (d:Addr)(hd:(d==sysModules)=false):MeetsIn prog w (Builtin.«dict.items» ⟨[.ref d],[]⟩) (fun _ R s=>s.TypeIs (.ref d) "dict"/\R (.ok (.ret (.ref s.heap.objs.size))) { s with heap:=s.heap.push { cls:=.type "dict_items",data:=.fields #[.ref d] } }) :=
 .of_wp fun A R s zq11=>by obtain⟨t,h⟩:=zq11;unfold Builtin.«dict.items» Builtin.Dict.noArgs;refine wpAny_bind (wpAny_bind (wpAny_notOrdered_dict t (wpAny_pure ?_)));show wpAny _ _ (Builtin.Dict.showsAll d >>= _) _ _ s;unfold Builtin.Dict.showsAll;rw[hd,if_neg qu];exact wpAny_bind (wpAny_pure (wpAny_bind (wpAny_newObj_type (wpAny_pure ⟨_,rfl,h⟩))))
def CQ:Builtin.Dict_items.ownsTuple "dict_itemiterator"=true:=by decide
def ώ {v:Addr}{Q:Value->Shared->Prop}(hv:s.heap.IsItemsView v d)(hm:R5 s.heap d es ep)
  (hQ:Q (.ref s.heap.objs.size) { s with heap:=s.heap.push { cls:=.type "dict_itemiterator",data:=.fields #[.none,.bool false,.ref d,.int 0 0,.int es.size 0,.int ep 0,.none,.none] } }):wpAny (model prog w) A (pyIter (.ref v)) Q E s:=by
 obtain⟨_,v1,_,v3⟩:=id hv;obtain⟨o,m1,_,m2⟩:=hm;refine wpAny_pyIter_slot hv.typeIs F.slot_dict_items_iter (wpAny_call_entry F.slot_dict_items_iter hv.typeIs F.entry_dict_items_iter ?_ (F.args_dict_items_iter_1 _));unfold Builtin.«dict_items.__iter__» Builtin.Dict_items.dictOf Builtin.Dict_items.newIterator;refine wpAny_bind (wpAny_pure (wpAny_bind (wpAny_bind (wpAny_field v1 v3 (x:=.ref d) rfl (wpAny_pure ?_)))));refine wpAny_bind (wpAny_bind (wpAny_dictEntries m1 m2 (wpAny_bind (wpAny_dictEpoch m1 m2 ?_))));simp only[CQ,if_true];refine wpAny_newObj_type (wpAny_pure ⟨_,rfl,"dict_itemiterator",_,⟨_,qo _ rfl,rfl⟩,F.slot_dict_itemiterator_next.lookup,?_⟩) (by simp only[sizeOk,Builtin.Dict_items.ownedTupleFields,qB,qg,qY,Qd,sizeLine_eq];lia);simpa [rawInt,Builtin.Dict_items.ownedTupleFields]using hQ
def fH {e:DictEntry}{Q:Option Value->Shared->Prop}(hit:IsItemIter s.heap it d i es.size ep ok ov)(hm:R5 s.heap d es ep)(hx:es[i]?=some e)
  (hQ:∀ h',IsItemIterOut h' it d (i+1) es.size ep e.key e.val s.heap.objs.size->h'.get? s.heap.objs.size=some { cls:=.type "tuple",data:=.seq #[e.key,e.val] }->(∀ b o,b≠it->s.heap.get? b=some o->h'.get? b=some o)->Q (some (.ref s.heap.objs.size)) { s with heap:=h' }) :
  wpAny (model prog w) A (pyNext (.ref it)) Q E s:=by
 obtain⟨hp,g,dr,tk,os⟩:=s;obtain⟨o,m1,_,m2⟩:=hm;have t0:Shared.TypeIs ⟨hp,g,dr,tk,os⟩ (.ref it) "dict_itemiterator":=⟨_,hit,rfl⟩
 have li:i<es.size:=(Array.getElem?_eq_some_iff.mp hx).1;unfold pyNext;refine wpAny_bind (wpAny_attempt (wpAny_callSpecial?_slot (name:=Str.ofString "__next__") t0 F.slot_dict_itemiterator_next (wpAny_call_entry F.slot_dict_itemiterator_next t0 F.entry_dict_itemiterator_next ?_ (F.args_dict_itemiterator_next_1 _))));refine wpAny_bind (wpAny_pure (wpAny_bind (wpAny_bind ?_)));refine wpAny_bind (wpAny_typeNameOfWhole_itemiter t0 (wpAny_pure (wpAny_bind (wpAny_fieldsOf hit rfl ?_))));simp only[CQ,if_true];show wpAny _ _ (if(Value.ref d==Value.none)=true then _ else _) _ _ _;rw[if_neg (fun z:(Value.ref d==Value.none)=true=>qu z)];refine wpAny_bind (wpAny_pure (wpAny_bind (wpAny_dictEntries m1 m2 ?_)));rw[if_neg (by simp)];refine wpAny_bind (wpAny_pure (wpAny_bind (wpAny_dictEpoch m1 m2 ?_)));rw[if_neg (by simp)];refine wpAny_pure ?_;simp only[show ¬ ((i:Int)<0)from by lia,if_false,Kv,hx];refine wpAny_bind (wpAny_bind (wpAny_typeNameOfWhole_itemiter t0 (wpAny_pure (wpAny_bind (wpAny_isOneOf_itemiter t0 ?_)))));show wpAny _ _ (setField (.ref it) 3 (rawInt ((i:Int)+1)) >>= _) _ _ ⟨hp,g,dr,tk,os⟩;refine wpAny_bind (wpAny_setField_rec hit (by simp) fun h1 e1 s1=>?_);have s1':Heap.SameBut it hp h1:=s1
 have e1':IsItemIter h1 it d (i+1) es.size ep ok ov:=by
  have z:((i+1:Nat):Int)=(i:Int)+1:=by lia
  unfold IsItemIter;rw[z];simpa [rawInt]using e1
 have t1:Shared.TypeIs ⟨h1,g,dr,tk,os⟩ (.ref it) "dict_itemiterator":=⟨_,e1',rfl⟩
 refine wpAny_bind (wpAny_holding (wpAny_bind (wpAny_isOneOf_itemiter t1 (wpAny_bind (wpAny_isOneOf_itemiter t1 ?_)))));show wpAny _ _ (Builtin.Dict_items.pairFromOwner (.ref it) 6 e.key e.val) _ _ ⟨h1,g,dr,tk,os⟩;unfold Builtin.Dict_items.pairFromOwner;refine wpAny_bind (wpAny_newTuple ?_);have z1:h1.objs.size=hp.objs.size:=s1'.1;have e2:IsItemIter (h1.push { cls:=.type "tuple",data:=.seq #[e.key,e.val] }) it d (i+1) es.size ep ok ov:=qc _ e1';have p2:(h1.push { cls:=.type "tuple",data:=.seq #[e.key,e.val] }).get? hp.objs.size=some { cls:=.type "tuple",data:=.seq #[e.key,e.val] }:=by rw[<- z1];exact qo _ rfl
 have k2:∀ b o,b≠it->hp.get? b=some o->(h1.push { cls:=.type "tuple",data:=.seq #[e.key,e.val] }).get? b=some o:=fun b o hb q=>qc _ (s1'.extBut b o hb q)
 generalize h1.push { cls:=.type "tuple",data:=.seq #[e.key,e.val] }=h2 at e2 p2 k2;show wpAny _ _ (Builtin.Dict_items.ownedTupleIsFree (.ref it) >>= _) _ _ ⟨h2,g,dr,tk,os⟩;rw[z1];have ne:hp.objs.size≠it:=Wh (qv hit);unfold Builtin.Dict_items.ownedTupleIsFree;refine wpAny_bind (wpAny_bind (wpAny_field e2 rfl (x:=.none) rfl (wpAny_pure ?_)));simp only[if_true];refine wpAny_bind (wpAny_field e2 rfl (x:=ok) rfl (wpAny_bind (wpAny_field e2 rfl (x:=ov) rfl ?_)));refine wpAny_bind (wpAny_setField_rec e2 (by simp) fun h3 e3 s3=>wpAny_bind (wpAny_setField_rec (s:=⟨h3,g,dr,tk,os⟩) e3 (by simp) fun h4 e4 s4=>wpAny_bind (wpAny_setField_rec (s:=⟨h4,g,dr,tk,os⟩) e4 (by simp) fun h5 e5 s5=>wpAny_bind (wpAny_setField_rec (s:=⟨h5,g,dr,tk,os⟩) e5 (by simp) fun h6 e6 s6=>?_))));have up:∀ b o,b≠it->h2.get? b=some o->h6.get? b=some o:=fun b o hb q=>s6.extBut b o hb (s5.extBut b o hb (s4.extBut b o hb (s3.extBut b o hb q)))
 exact wpAny_bind (wpAny_letGo (wpAny_pure (wpAny_pure ⟨_,rfl,wpAny_pure (hQ h6 e6 (up _ _ ne p2) fun b o hb q=>up b o hb (k2 b o hb q))⟩)))
def ß {Q:Option Value->Shared->Prop}(hh:A.handled=none)(hit:IsItemIter s.heap it d es.size es.size ep ok ov)(hm:R5 s.heap d es ep)(hQ:∀ h',Heap.ExtBut it s.heap h'->Q none { s with heap:=h' }):wpAny (model prog w) A (pyNext (.ref it)) Q E s:=by
 obtain⟨o,m1,_,m2⟩:=hm;have t0:s.TypeIs (.ref it) "dict_itemiterator":=⟨_,hit,rfl⟩
 unfold pyNext;refine wpAny_bind (wpAny_attempt (wpAny_callSpecial?_slot (name:=Str.ofString "__next__") t0 F.slot_dict_itemiterator_next (wpAny_call_entry F.slot_dict_itemiterator_next t0 F.entry_dict_itemiterator_next ?_ (F.args_dict_itemiterator_next_1 _))));refine wpAny_bind (wpAny_pure (wpAny_bind (wpAny_bind ?_)));refine wpAny_bind (wpAny_typeNameOfWhole_itemiter t0 (wpAny_pure (wpAny_bind (wpAny_fieldsOf hit rfl ?_))));simp only[CQ,if_true];show wpAny _ _ (if(Value.ref d==Value.none)=true then _ else _) _ _ _;rw[if_neg (fun z:(Value.ref d==Value.none)=true=>qu z)];refine wpAny_bind (wpAny_pure (wpAny_bind (wpAny_dictEntries m1 m2 ?_)));rw[if_neg (by simp)];refine wpAny_bind (wpAny_pure (wpAny_bind (wpAny_dictEpoch m1 m2 ?_)));rw[if_neg (by simp)];refine wpAny_pure ?_;simp only[show ¬ ((es.size:Int)<0)from by lia,if_false,Kv,Array.getElem?_eq_none (qh es.size)];refine wpAny_bind (wpAny_bind (wpAny_typeNameOfWhole_itemiter t0 (wpAny_pure ?_)));show wpAny _ _ (setField (.ref it) 2 .none >>= _) _ _ s;refine wpAny_bind (wpAny_setField hit rfl (by simp) ?_);show wpAny _ _ (newExc (.type "StopIteration") [] >>= _) _ _ _;refine wpAny_bind ?_;simp only[newExc,newTuple];refine wpAny_bind (wpAny_newObj_type (wpAny_bind (m:=firstArgMember _ _) (wpAny_of_eq (a:=Value.none) (by first|rfl|(simp only[firstArgMember];rfl)) (wpAny_newObj_type ?_ (by size_fits)))) (by size_fits));simp only[raiseNew];refine wpAny_bind (wpAny_handled ?_);rw[show A.in1.handled=none from hh];refine wpAny_bind (wpAny_pure (wpAny_throw ?_));refine wpAny_bind (wpAny_isInstance (T:="StopIteration") (b:=true) ⟨_,qo _ rfl,rfl⟩ isSubtype_stop (wpAny_pure (hQ _ (((Heap.SameBut.update ..).extBut.push _).push _))))
end
def El (d n ep:Nat):It :=
  ⟨fun i H=>∃ Z8,H d=some (.dN Z8 ep)/\Z8.length=n/\i<n,
   fun i H v H'=>∃ p b k y,v=.ref p/\H p=none/\H'=upd H p (.tup [.ref b,y])/\WD H b k/\∀ Z8,H d=some (.dN Z8 ep)->Z8[i]?=some (k,y),
   fun i H=>∃ Z8,H d=some (.dN Z8 ep)/\Z8.length=n/\n=i⟩
def Ft {ep:Nat}{Z8:List (List (List Key)×V)}(ok:ZF P w H h)(e:H d=some (.dN Z8 ep)):(d==sysModules)=false/\∃ xs es,KN H Z8 xs/\R5 h d es ep/\es.toList=xs.map (entryOfKey (My.Uq (zP P w)))/\es.size=Z8.length :=
 let ⟨_,y,xs,r,o,es,h1,h2,h3,h4,_⟩:=(show zZ P w H h d (.dN Z8 ep)from ok d _ e)
 ⟨y,xs,es,r,⟨o,h1,h2.1,h3⟩,h4,by rw[size_of_entries h4,Paired.length r]⟩
def lV {α β:Type}{R:α->β->Prop}{xs:List α}{ys:List β}(p:Paired R xs ys):∀ {i:Nat} {a:α},xs[i]?=some a->∃ b,ys[i]?=some b/\R a b:=by
 induction p with
 |nil=>intro i a h;cases h
 |@cons a b as bs h t ih =>
  intro i x hx;cases i with
  |zero=>cases hx;exact⟨b,rfl,h⟩
  |succ i=>exact ih hx
def zlB {P:Program}{w:World}{K:PySem.W.Frag}{tg:List Expr}{kk:Nat}{pos:Pos}{d it n ep:Nat}:Turn P w K (.Tuple tg kk pos) (El d n ep) [it] it (fun i h=>∃ ok ov,IsItemIter h it d i n ep ok ov) where
 mem:=by simp
 obj:=by rintro i h ⟨ok,ov,st⟩ b hb;rw[qJ.mp hb];exact⟨_,st,fun v q=>by cases(show Data.fields _=Data.cell v from q)⟩
 keep:=fun i h h' ⟨ok,ov,st⟩ k=>⟨ok,ov,k it (by simp) _ st⟩
 item:=by
  intro X hP hw hK hc i Z9 s U H E I hf ⟨ok,ov,st⟩ ⟨Z8,hd,hn,hi⟩;subst hP hw hK hn;obtain⟨_,xs,es,r,ea,el,ez⟩:=Ft I.hok hd;obtain⟨⟨k,b,u⟩,hx,hk,hb,hu⟩:=lV r (qb hi);have hk:Z8[i].1=k:=hk;have hb:WD H b Z8[i].1:=hb;rw[hk]at hb;have he:es[i]?=some (entryOfKey (My.Uq (zP X.prog X.w)) (k,b,u)):=by rw[entry_at el,hx];rfl
  rw[<- ez]at st;refine fH st ea he fun h' e1 e2 e3=>?_
  refine⟨_,rfl,wpAny_letOwnedTupleGo_items (s:={ s with heap:=h' }) e1 fun h2 f1 f2=>?_⟩;have fr:s.heap.objs.size≠it:=Wh (qv st)
  have k2:∀ c o,c∉[it]->s.heap.get? c=some o->h2.get? c=some o:=fun c o hc q=>by
   have:c≠it:=fun z=>hc (qJ.mpr z)
   exact f2.extBut c o this (e3 c o this q)
  have new:h2.get? s.heap.objs.size=some { cls:=.type "tuple",data:=.seq #[.ref b,u] }:=f2.extBut _ _ fr e2;refine⟨.ref s.heap.objs.size,upd H s.heap.objs.size (.tup [.ref b,Z8[i].2]),I.turnNew (t':=s.toks) hf k2 (qh _) ⟨by show 2<=sizeLine;decide,[.ref b,u],.cons rfl (.cons hu .nil),_,new,rfl,_,rfl⟩,rfl,⟨_,b,k,_,rfl,I.fresh,rfl,hb,fun kvs' h'=>?_⟩,⟨_,_,ez▸f1⟩,fun c hc=>?_⟩
  ·rw[hd]at h';cases h';rw[qb hi,<- hk]
  ·rw[qJ.mp hc,zu fr.symm];exact(hf it (by simp)).1
 done:=by intro X hP hw hK hc i Z9 s U H E I hf ⟨ok,ov,st⟩ ⟨Z8,hd,hn,hi⟩;subst hP hw hK hi hn;obtain⟨_,xs,es,r,ea,el,ez⟩:=Ft I.hok hd;rw[<- ez]at st;obtain⟨f0,f1,f2,f3,f4,f5⟩:=hf it (by simp);exact ß (I.ok.hd hc) st ea fun h' eb=>⟨rfl,I.turned (t':=s.toks) (fun b o hb e=>eb b o hb e) f0 f1 f3 f4 f5⟩
 self:=by rintro _ _ _ _ _ ⟨_,_,hit⟩ h;exact PySem.W.kcp_self hit h
def ztY (td:TE):TI:=fun U H R=>td U H fun x H1=>∃ a Z8 ep,x=.ref a/\H1 a=some (.dN Z8 ep)/\R (El a Z8.length ep) H1
structure M0 (X:Cx)(o:Expr)(m:Str)(apos cpos:Pos):Prop where
 base:attributeBase o m X.env (eval o X.env)=eval o X.env
 few:((backTo cpos (starEach [] X.env)).all (fun x=>!x.1)&&(backToKw cpos (keywordEach [] X.env)).all (fun x=>x.1.isSome)&&decide (([]:List Expr).length+([]:List Keyword).length+(if([]:List Keyword).isEmpty then 0 else 1)<30))=true
 line:(apos.endLine==cpos.line)=true
def Ϧ {tg:List Expr}{kk:Nat}{tpos apos cpos:Pos}(ho:PE X o td)(m:M0 X o "items" apos cpos):PI X (.Tuple tg kk tpos) (.Call (.Attribute o "items" apos) [] [] cpos) (ztY td):=by
 intro Z9 s U H R I h;refine wpAny_Call_method m.base m.few m.line PySem.F.plainAttrs_dict PySem.F.slot_dict_items PySem.F.type_dict_items (Z2 (ho Z9 s U H _ I h) fun u s1 ⟨x,H1,I1,rx,a,Z8,ep,ex,hd,q1⟩=>?_);subst ex;obtain rfl:u=Value.ref a:=rx;obtain⟨t1,t2,t3⟩:=oJ I1 (.inr (.inr ⟨Z8,ep,.inl hd⟩));obtain⟨_,xs,es,r,ea,el,ez⟩:=Ft I1.hok hd;refine⟨t1,t2,?_⟩;refine PyProof.Rows.callWith_method0 (env:=X.env) ?_;refine call_meetsIn PySem.F.slot_dict_items t1 PySem.F.entry_dict_items (PySem.F.args_dict_items_1 _) (zkb a t3) ⟨t1,?_⟩;have ea2:R5 (s1.heap.push { cls:=.type "dict_items",data:=.fields #[.ref a] }) a es ep:=ea.at fun o e=>qc _ e
 refine ώ ⟨_,qo _ rfl,rfl,rfl⟩ ea2 ?_;have I2:=I1.kept (h':=s1.heap.push { cls:=.type "dict_items",data:=.fields #[.ref a] }) (t':=s1.toks) fun b o q=>qc _ q
 have I3:=I2.kept (h':=(s1.heap.push { cls:=.type "dict_items",data:=.fields #[.ref a] }).push { cls:=.type "dict_itemiterator",data:=.fields #[.none,.bool false,.ref a,.int 0 0,.int es.size 0,.int ep 0,.none,.none] }) (t':=s1.toks) fun b o q=>qc _ q
 refine⟨_,_,_,_,H1,rfl,I3,zlB (n:=Z8.length) (ep:=ep) (d:=a),⟨_,_,by rw[<- ez];exact qo _ rfl⟩,fun b hb=>?_,q1⟩;rw[qJ.mp hb];exact I2.fpOk (qh _) (I2.hok.fresh (qh _))
section
variable {X:Cx}{Z9:List (Addr×Obj)}{U:St}{H:Hp}{s:Shared}{a:Addr}{A:Around}{E:Value->Shared->Prop}
def ϗ (td ty tv:TE):TS:=fun D U H=>tv U H fun v H1=>td U H1 fun x H2=>ty U H2 fun y H3=>∃ a Z8 ep k b,x=.ref a/\H3 a=some (.dN Z8 ep)/\y=.ref b/\WD H3 b k/\Z8.length<sizeLine/\∀ e,D.nx U (upd H3 a (.dN (putK Z8 k v) e))
def Œ {ty:TE}{pos pos':Pos}(hu:X.A.units+2<cLine)(ho:PE X o td)(hi:PE X i ty)(hv:PE X value tv)(hs:swapsWith value (some (.Subscript o i pos')) pos.line X.env=pure false) :
  PS X (.Assign [.Subscript o i pos'] value pos) (ϗ td ty tv):=by
 intro Z9 s U H D I h;refine wpAny_Assign_Subscript (Z2 (hv Z9 s U H _ I h) fun r s1 ⟨v,H1,I1,rv,q1⟩=>Z2 (ho Z9 s1 U H1 _ I1 q1) fun u s2 ⟨x,H2,I2,rx,q2⟩=>Z2 (hi Z9 s2 U H2 _ I2 q2) fun iv s3 ⟨y,H3,I3,ry,a,Z8,ep,k,b,ex,hd,ey,hk,hl,q3⟩=>?_) hs;subst ex ey;obtain rfl:u=Value.ref a:=rx;obtain rfl:iv=Value.ref b:=ry;obtain⟨z,y,xs,rel,dd⟩:=cu I3.hok hd;refine wpAny_setItem_heap (hsz:=by rw[<- Paired.length rel];exact z) (nest_room hu) (Qy I3.hok hk) dd fun h' dd' hs=>?_
 obtain⟨q,es,ep',hq,h2,h3,h4,_,h5⟩:=dd';have:=Jp Z8 k v;refine⟨U,_,?_,q3 ep'⟩;refine K3 I3 (by rw[hd];exact True.intro) hs ⟨q,hq⟩ ⟨by lia,y,_,(rel.put k hk rv).keeps fun c ys ec=>?_,q,es,hq,h2,h3,h4,h5⟩;rw[zu (VH ec hd (fun z=>nomatch z))];exact ec
end
end L2
namespace Dp
open PySem
inductive D where
 |non|bl (b:Bool)|int (i:Int)|str (x:Str)|tup (xs:List D)|ref (n:Nat)|ty (n:String)|rl (xs:List D)|exn (c:Str)|kt (xs:List D)
 deriving Inhabited
inductive Cell where
 |lst (xs:List D)|ins (c:Str) (fs:List (Str×D))
 |dk (Z8:List (Str×D))|dt (Z8:List (List (Sum Int Str)×D))|dn (Z8:List (List (List (Sum Int Str))×D)) (ep:Nat)
 |tab (x:Str) (l c:Nat)
 deriving Inhabited
abbrev Z7:=List Cell
abbrev Z1:=List (Option D)
abbrev DK:=D->Z7->Prop
abbrev DE:=Z1->Z7->DK->Prop
abbrev DT:=Z1->Z7->(Bool->Z7->Prop)->Prop
abbrev DA:=Z1->Z7->(List D->Z7->Prop)->Prop
abbrev DG:=D->Z1->Z7->(Z1->Z7->Prop)->Prop
abbrev Vg:=List D->Z1->Z7->(Z1->Z7->Prop)->Prop
structure OJ where
 nx:Z1->Z7->Prop
 rt:DK
 bk:Z1->Z7->Prop:=fun _ _=>False
 ct:Z1->Z7->Prop:=fun _ _=>False
abbrev DS:=OJ->Z1->Z7->Prop
structure Tv where
 items:List D
 ok:Z7->Prop
abbrev DI:=Z1->Z7->(Tv->Z7->Prop)->Prop
abbrev ZV:=List D->Z7->DK->Prop
def big:Nat:=1000000
def fl:Nat->D->Bool
  |_,.ref _=>false
  |_,.ty _=>false
  |_,.rl _=>false
  |_,.exn _=>false
  |_,.kt _=>false
  |0,.tup _=>false
  |k+1,.tup xs=>xs.all (fl k)
  |_,.non=>true
  |_,.bl _=>true
  |_,.int _=>true
  |_,.str x=>x.cps.all (· < 0x110000)
mutual
def eqv:D->D->Bool
 |.non,.non=>true
 |.bl a,.bl b=>a==b
 |.bl a,.int j=>(if a then 1 else 0)==j
 |.int i,.bl b=>i==(if b then 1 else 0)
 |.int i,.int j=>decide (i=j)
 |.str x,.str y=>x==y
 |.tup xs,.tup ys=>eqvAll xs ys
 |_,_=>false
def eqvAll:List D->List D->Bool
 |[],[]=>true
 |x::xs,y::ys=>eqv x y&&eqvAll xs ys
 |_,_=>false
end
def Lst (S:Z7)(x:D)(xs:List D):Prop:=x=.rl xs\/∃ n,x=.ref n/\S[n]?=some (.lst xs)
def RZ (S:Z7)(x:D)(xs:List D):Prop:=x=.tup xs\/Lst S x xs
def Xz (n:Nat)(k:Int):Option Nat:=if 0<=k then(if k<n then some k.toNat else none)else if -(n:Int)<=k then some (k+n).toNat else none
def Zh (xs:List D)(k:Int):Option D:=(Xz xs.length k).bind fun j=>xs[j]?
def atS (z:Str)(k:Int):Option Nat:=(Xz z.cps.toList.length k).bind fun j=>z.cps.toList[j]?
def Xm (n:Nat)(d:Nat):Option Int->Nat
 |none=>d
 |some k=>if k<0 then(k+n).toNat else min k.toNat n
def cutD (xs:List α)(lo hi:Option Int):List α:=(xs.drop (Xm xs.length 0 lo)).take (Xm xs.length xs.length hi-Xm xs.length 0 lo)
def YM (i:Nat):DE:=fun Z S Q=>∃ d,Z[i]?=some (some d)/\Q d S
def dC (d:D):DE:=fun _ S Q=>Q d S
abbrev Zt:=D->D->Z7->DK->Prop
def Z6 (r:Zt)(ta tb:DE):DE:=fun Z S Q=>ta Z S fun x S1=>tb Z S1 fun y S2=>r x y S2 Q
def Wq (r:D->Z7->DK->Prop)(ta:DE):DE:=fun Z S Q=>ta Z S fun x S1=>r x S1 Q
def zm:DA:=fun _ S Q=>Q [] S
def zc (ta:DE)(tr:DA):DA:=fun Z S Q=>ta Z S fun x S1=>tr Z S1 fun xs S2=>Q (x::xs) S2
def dTup (t:DA):DE:=fun Z S Q=>t Z S fun xs S1=>xs.length<=big/\Q (.tup xs) S1
def Zk (t:DA):DE:=fun Z S Q=>t Z S fun xs S1=>xs.length<=big/\Q (.ref S1.length) (S1++[.lst xs])
def dCall (f:ZV)(t:DA):DE:=fun Z S Q=>t Z S fun xs S1=>f xs S1 Q
abbrev DB:=List D->Z7->DK->Prop
def dB (r:DB)(t:DA):DE:=fun Z S Q=>t Z S fun xs S1=>r xs S1 Q
def dT (t:DE):DT:=fun Z S Q=>t Z S fun x S1=>∃ b,x=.bl b/\Q b S1
def WY (t u:DT):DT:=fun Z S Q=>t Z S fun c S1=>if c=true then u Z S1 Q else Q false S1
def Xp (t u:DT):DT:=fun Z S Q=>t Z S fun c S1=>if c=true then Q true S1 else u Z S1 Q
def W9 (t:DT):DT:=fun Z S Q=>t Z S fun c S1=>Q (!c) S1
def Ro (t u:DE):DE:=fun Z S Q=>t Z S fun x S1=>∃ c,x=.bl c/\if c=true then u Z S1 Q else Q (.bl false) S1
def rQ (t u:DE):DE:=fun Z S Q=>t Z S fun x S1=>∃ c,x=.bl c/\if c=true then Q (.bl true) S1 else u Z S1 Q
def Rw (t:DE):DE:=fun Z S Q=>t Z S fun x S1=>∃ c,x=.bl c/\Q (.bl (!c)) S1
def Bg (c:DT)(ta tb:DE):DE:=fun Z S Q=>c Z S fun b S1=>if b=true then ta Z S1 Q else tb Z S1 Q
def Oj (r r':Zt)(ta tb tc:DE):DE:=fun Z S Q=>ta Z S fun x S1=>tb Z S1 fun y S2=>r x y S2 fun z S3=>∃ c,z=.bl c/\if c=true then tc Z S3 fun w S4=>r' y w S4 Q else Q (.bl false) S3
def T5:Option DE->Z1->Z7->(Option Int->Z7->Prop)->Prop
 |none=>fun _ S Q=>Q none S
 |some t=>fun Z S Q=>t Z S fun x S1=>∃ i,x=.int i/\Q (some i) S1
def Uo (r:D->Option Int->Option Int->Z7->DK->Prop)(ta:DE)(lo hi:Option DE):DE:=fun Z S Q=>ta Z S fun x S1=>T5 lo Z S1 fun l S2=>T5 hi Z S2 fun h S3=>r x l h S3 Q
def Ze (f:Str)(ta:DE):DE:=fun Z S Q=>ta Z S fun x S1=>∃ n c fs d,x=.ref n/\S1[n]?=some (.ins c fs)/\fs.lookup f=some d/\Q d S1
def putD (f:Str)(v:D):List (Str×D)->List (Str×D)
 |[]=>[(f,v)]
 |(g,x)::r=>if g=f then(g,v)::r else(g,x)::putD f v r
def R9 (c:Str)(init:ZV):ZV:=fun ds S Q=>init (.ref S.length::ds) (S++[.ins c []]) fun d S2=>d=.non/\Q (.ref S.length) S2
abbrev DM:=D->List D->Z7->DK->Prop
def dM (r:DM)(ta:DE)(t:DA):DE:=fun Z S Q=>ta Z S fun x S1=>(∃ n ys,x=.ref n/\S1[n]?=some (.lst ys))/\t Z S1 fun xs S2=>r x xs S2 Q
def oI (C:Int->Int->Prop)(g:Int->Int->D):Zt:=fun x y S Q=>∃ i j,x=.int i/\y=.int j/\C i j/\Q (g i j) S
def Qq (g:Int->Int->D):Zt:=fun x y S Q=>∃ i j,x=.int i/\y=.int j/\Q (g i j) S
def oU (g:Int->D):D->Z7->DK->Prop:=fun x S Q=>∃ i,x=.int i/\Q (g i) S
def YZ (i j:Int):Prop:=(My.Bd 8000 i/\My.Bd 8000 j)\/i.natAbs<2 ^ 64\/j.natAbs<2 ^ 64
def yg (_ j:Int):Prop:=j≠0/\My.Bd 8000 j
def Ο (_ j:Int):Prop:=j≠0
def zW:Zt:=fun x y S Q=>(∃ i j,x=.int i/\y=.int j/\Q (.int (i+j)) S)\/(∃ xs ys,x=.tup xs/\y=.tup ys/\xs.length+ys.length<=big/\Q (.tup (xs++ys)) S) \/
 (∃ xs ys,Lst S x xs/\Lst S y ys/\xs.length+ys.length<=big/\Q (.ref S.length) (S++[.lst (xs++ys)])) \/
 (∃ i j:Str,x=.str i/\y=.str j/\i.length+j.length<=big/\Q (.str (i++j)) S)
def Zm:Zt:=Qq fun i j=>.int (i-j)
def Jq (z:Str)(n:Int):Str:=if n<1 then Str.empty else if(n==1||z.length==0)=true then z else⟨(List.replicate n.toNat z.cps).foldl (·++·) #[]⟩
@[irreducible] def Hg (x:Int):Prop:=x.natAbs<2 ^ 1048576
def Y7:Zt:=fun x y S Q=>oI YZ (fun i j=>.int (i*j)) x y S Q\/(∃ (z:Str) (n:Int),x=.str z/\y=.int n/\z.length<=1000/\-1000<=n/\n<=1000/\Q (.str (Jq z n)) S)\/oI (fun i j=>Hg i/\Hg j) (fun i j=>.int (i*j)) x y S Q
def oDiv:Zt:=oI yg fun i j=>.int (i.fdiv j)
def oMod:Zt:=oI Ο fun i j=>.int (i.fmod j)
def Wa:D->Z7->DK->Prop:=oU fun i=>.int (-i)
def oLt:Zt:=Qq fun i j=>.bl (decide (i<j))
def oLe:Zt:=Qq fun i j=>.bl (decide (i<=j))
def Yk:Zt:=Qq fun i j=>.bl (decide (j<i))
def JD:Zt:=Qq fun i j=>.bl (decide (j<=i))
def zuu (S:Z7):List D->List (List D)->Prop
 |[],[]=>True
 |x::xs,z::zs=>Lst S x z/\zuu S xs zs
 |_,_=>False
def Ky (S:Z7)(x y:D)(b:Bool):Prop:=(fl 20 x=true/\fl 20 y=true/\b=eqv x y)\/(∃ xs ys,Lst S x xs/\Lst S y ys/\xs.all (fl 20)=true/\ys.all (fl 20)=true/\b=eqvAll xs ys) \/
 False
def oEq:Zt:=fun x y S Q=>∃ b,Ky S x y b/\Q (.bl b) S
def XS:Zt:=fun x y S Q=>∃ b,Ky S x y b/\Q (.bl (!b)) S
def Jh (S:Z7)(x y:D)(b:Bool):Prop:=∃ ys,RZ S y ys/\fl 20 x=true/\ys.all (fl 20)=true/\b=ys.any fun z=>eqv z x
def Uk:Zt:=fun x y S Q=>(∃ b,Jh S x y b/\Q (.bl b) S)\/(∃ (c:Nat) (z:Str),x=.str ⟨#[c]⟩/\y=.str z/\Q (.bl (decide (c∈z.cps.toList))) S)
def RL:Zt:=fun x y S Q=>(∃ b,Jh S x y b/\Q (.bl (!b)) S)\/(∃ (c:Nat) (z:Str),x=.str ⟨#[c]⟩/\y=.str z/\Q (.bl (!decide (c∈z.cps.toList))) S)
def YL:D->Bool
 |.non=>true
 |_=>false
def Rx:Zt:=fun x y S Q=>(y=.non/\Q (.bl (YL x)) S)\/(∃ a b,x=.bl a/\y=.bl b/\Q (.bl (a==b)) S)
def Wx:Zt:=fun x y S Q=>(y=.non/\Q (.bl (!YL x)) S)\/(∃ a b,x=.bl a/\y=.bl b/\Q (.bl (!(a==b))) S)
def ZQ:Zt:=fun x y S Q=>(∃ i xs d,y=.int i/\RZ S x xs/\Zh xs i=some d/\Q d S)\/(∃ (z:Str) (i:Int) (c:Nat),x=.str z/\y=.int i/\z.length<=big/\atS z i=some c/\Q (.str ⟨#[c]⟩) S)
def zzw (z:Str)(lo hi:Option Int):Str:=⟨(cutD z.cps.toList lo hi).toArray⟩
def Ut:D->Option Int->Option Int->Z7->DK->Prop:=fun x lo hi S Q=>(∃ xs,x=.tup xs/\Q (.tup (cutD xs lo hi)) S)\/(∃ xs,Lst S x xs/\Q (.ref S.length) (S++[.lst (cutD xs lo hi)]))\/False
def Za:DB:=fun vs S Q=>(∃ x xs,vs=[x]/\RZ S x xs/\Q (.int xs.length) S)\/(∃ z:Str,vs=[.str z]/\z.length<=big/\Q (.int z.length) S)
def Jy:DB:=fun vs S Q=>∃ i,vs=[.int i]/\Q (.int (i.natAbs:Int)) S
def RT:DB:=fun vs S Q=>∃ i j,vs=[.int i,.int j]/\Q (.int (max i j)) S
def Pb:DB:=fun vs S Q=>∃ i j,vs=[.int i,.int j]/\Q (.int (min i j)) S
def JT:DB:=fun vs S Q=>∃ x ns,vs=[x]/\Lst S x (List.map D.int ns)/\0<ns.length/\∀ m:Int,m∈ns->(∀ a∈ns,a<=m)->Q (.int m) S
def MF:DB:=fun vs S Q=>∃ x ns,vs=[x]/\Lst S x (List.map D.int ns)/\0<ns.length/\∀ m:Int,m∈ns->(∀ a∈ns,m<=a)->Q (.int m) S
def Wz:DB:=fun vs S Q=>∃ x bs,vs=[x]/\Lst S x (List.map D.bl bs)/\Q (.bl (bs.all id)) S
def O6:DB:=fun vs S Q=>∃ x xs,vs=[x]/\RZ S x xs/\Q (.ref S.length) (S++[.lst xs])
def Nt:DB:=fun vs S Q=>(∃ i,vs=[.int i]/\Q (.int i) S)\/∃ b,vs=[.bl b]/\Q (.int (if b then 1 else 0)) S
def Oh (t:String):Bool:=t=="int"||t=="bool"||t=="tuple"||t=="list"||t=="str"
def vL (S:Z7)(t:String)(d:D):Option Bool:=if(!Oh t)=true then none else match d with
 |.non=>some false
 | .bl _=>some (t=="bool"||t=="int")
 | .int _=>some (t=="int")
 | .str _=>some (t=="str")
 | .tup _=>some (t=="tuple")
 |.ref n=>match S[n]? with
  | some (.lst _)=>some (t=="list")
  |_=>none
 |.ty _=>none
 |.rl _=>none
 |.exn _=>none
 |.kt _=>none
def Tp:DB:=fun vs S Q=>∃ x t b,vs=[x,.ty t]/\vL S t x=some b/\Q (.bl b) S
abbrev p2 (c:Int×Int):D:=.tup [.int c.1,.int c.2]
def V1:DM:=fun x vs S Q=>∃ n xs y,x=.ref n/\vs=[y]/\S[n]?=some (.lst xs)/\xs.length<big/\Q .non (S.set n (.lst (xs++[y])))
def Km:DM:=fun x vs S Q=>∃ n xs y,x=.ref n/\vs=[.int 0]/\S[n]?=some (.lst (y::xs))/\Q y (S.set n (.lst xs))
def zR (i:Nat):DG:=fun d Z S Q=>Q (Z.set i (some d)) S
def YK:Vg:=fun ds Z S Q=>ds=[]/\Q Z S
def zN (t:DG)(u:Vg):Vg:=fun ds Z S Q=>∃ d r,ds=d::r/\t d Z S fun ρ' S'=>u r ρ' S' Q
def YH (n:Nat)(t:Vg):DG:=fun d Z S Q=>∃ xs,d=.tup xs/\xs.length=n/\t xs Z S Q
def Qv (to ti:DE):DG:=fun d Z S Q=>to Z S fun o S1=>ti Z S1 fun i S2=>∃ n xs k j,o=.ref n/\i=.int k/\S2[n]?=some (.lst xs)/\Xz xs.length k=some j/\Q Z (S2.set n (.lst (xs.set j d)))
def zf (t u:DS):DS:=fun E Z S=>t { E with nx:=u E } Z S
def zB:DS:=fun E Z S=>E.nx Z S
def zA (t:DE):DS:=fun E Z S=>t Z S E.rt
def Zb (t:DE):DS:=fun E Z S=>t Z S fun _ S1=>E.nx Z S1
def zq (t:DE)(g:DG):DS:=fun E Z S=>t Z S fun x S1=>g x Z S1 E.nx
def ZR (c:DT)(t u:DS):DS:=fun E Z S=>c Z S fun b S1=>if b=true then t E Z S1 else u E Z S1
def sJ (t:DS):DS:=fun E Z S=>∃ J:Z1->Z7->Prop,(∀ Z S,J Z S->E.nx Z S)/\t { E with nx:=J } Z S
def Yg:DS:=fun _ _ _=>False
def uW:DS:=fun E Z S=>E.bk Z S
def Ax:DS:=fun E Z S=>E.ct Z S
def V5 (c f:Str)(to tv:DE):DS:=fun E Z S=>tv Z S fun y S1=>to Z S1 fun x S2=>∃ n fs,x=.ref n/\S2[n]?=some (.ins c fs)/\fs.length<100/\E.nx Z (S2.set n (.ins c (putD f y fs)))
def Nh (i:Nat)(t:DE):DS:=fun E Z S=>∃ a,Z[i]?=some (some (.int a))/\t Z S fun y S1=>∃ b,y=.int b/\E.nx (Z.set i (some (.int (a+b)))) S1
def U8 (c:DT)(t:DS):DS:=fun E Z S=>∃ W:Nat->Z1->Z7->Prop,(∃ m,W m Z S)/\∀ m Z S,W m Z S ->
 c Z S fun b S1=>if b=true then ∃ N:Z1->Z7->Prop,(∀ ρ' S',N ρ' S'->∃ m',m'<m/\W m' ρ' S')/\t { E with nx:=N,ct:=N,bk:=E.nx } Z S1 else E.nx Z S1
def Y0 (wi:DI)(g:DG)(t:DS):DS:=fun E Z S=>wi Z S fun J S1=>∃ W:Nat->Z1->Z7->Prop,W 0 Z S1/\(∀ i Z S,W i Z S->J.ok S) /\
 (∀ i d Z S,J.items[i]?=some d->W i Z S->g d Z S fun ρ2 S2=>t { E with nx:=W (i+1),ct:=W (i+1),bk:=E.nx } ρ2 S2)/\∀ Z S,W J.items.length Z S->E.nx Z S
def signs (z:Str):List D:=z.cps.toList.map fun c=>.str ⟨#[c]⟩
def Lz (x:D)(S1:Z7)(R:Tv->Z7->Prop):Prop:=(∃ xs,x=.tup xs/\R ⟨xs,fun _=>True⟩ S1)\/(∃ xs,Lst S1 x xs/\R ⟨xs,fun S=>Lst S x xs⟩ S1)\/(∃ z:Str,x=.str z/\R ⟨signs z,fun _=>True⟩ S1)
def Zu (t:DE):DI:=fun Z S R=>t Z S fun x S1=>Lz x S1 R
def upto (lo:Int)(n:Nat):List D:=(List.range n).map fun k:Nat=>D.int (lo+(k:Int))
def Sd (t:DA):DI:=fun Z S R=>t Z S fun vs S1=>∃ j:Int,vs=[.int j]/\-(2 ^ 62)<=j/\j<2 ^ 62/\R ⟨upto 0 j.toNat,fun _=>True⟩ S1
def M4 (t:DA):DI:=fun Z S R=>t Z S fun vs S1=>∃ i j:Int,vs=[.int i,.int j]/\R ⟨upto i (j-i).toNat,fun _=>True⟩ S1
def U9:Nat->List D->List D
 |_,[]=>[]
 |k,x::xs=>.tup [.int (k:Nat),x]::U9 (k+1) xs
def Yi:List D->List D->List D
 |x::xs,y::ys=>.tup [x,y]::Yi xs ys
 |_,_=>[]
def Us (c:List Str)(z:Str):List Str:=if c.any (·==z)=true then c else c++[z]
def Yl (f:Nat->Str):Nat->List Str
 |0=>[]
 |i+1=>Us (Yl f i) (f i)
def LC (zs:List Str):Nat:=(Yl (fun i=>zs.getD i Str.empty) zs.length).length
def Mf:DB:=fun vs S Q=>∃ x,∃ zs:List Str,vs=[x]/\Lst S x (zs.map D.str)/\zs.length<=4000/\Q (.int (LC zs)) S
def J9 (R:Tv->Z7->Prop)(vs:List D)(S1:Z7):Prop:=∃ x xs,vs=[x]/\Lst S1 x xs/\R ⟨U9 0 xs,fun S=>Lst S x xs⟩ S1
def Wm (t:DA):DI:=fun Z S R=>t Z S (J9 R)
def Bo (R:Tv->Z7->Prop)(vs:List D)(S1:Z7):Prop:=(∃ x y xs ys,vs=[x,y]/\Lst S1 x xs/\Lst S1 y ys/\R ⟨Yi xs ys,fun S=>Lst S x xs/\Lst S y ys⟩ S1)\/(∃ xs ys,vs=[.tup xs,.tup ys]/\R ⟨Yi xs ys,fun _=>True⟩ S1)
def Ka (t:DA):DI:=fun Z S R=>t Z S (Bo R)
def RM (own:Nat)(fv:List Nat)(Z:Z1):Z1:=List.replicate own none++fv.map fun j=>(Z[j]?).join
def Yn:DT:=fun _ S Q=>Q true S
def Zi (own:Nat)(fv:List Nat)(wi:DI)(g:DG)(tc:DT)(te:DE):DE:=fun Z S Q=>wi Z S fun J S1=>J.items.length<=big/\∃ W:Nat->List D->Z7->Prop,W 0 [] S1/\(∀ i ys S,W i ys S->J.ok S) /\
 (∀ i d ys S,J.items[i]?=some d->W i ys S->g d (RM own fv Z) S fun ρ2 S2=>tc ρ2 S2 fun b S3=>if b=true then te ρ2 S3 fun y S4=>W (i+1) (ys++[y]) S4 else W (i+1) ys S3) /\
 ∀ ys S,W J.items.length ys S->Q (.ref S.length) (S++[.lst ys])
def kD:Sum Int Str->D
 |.inl i=>.int i
 |.inr x=>.str x
section
variable {κ:Type}[DecidableEq κ]
def dval (Z8:List (κ×D))(k:κ):Option D:=(Z8.find? fun kv=>decide (kv.1=k)).map (·.2)
def dput (Z8:List (κ×D))(k:κ)(v:D):List (κ×D):=if(Z8.any fun kv=>decide (kv.1=k))=true then Z8.map (fun kv=>if kv.1=k then(kv.1,v)else kv)else Z8++[(k,v)]
end
abbrev kN (k:List (Sum Int Str)):D:=.tup (k.map kD)
def Zr (S:Z7)(x y:D)(o:Option D):Prop:=(∃ n Z8 z,x=.ref n/\y=.str z/\S[n]?=some (.dk Z8)/\o=dval Z8 z)\/(∃ n Z8 ks,x=.ref n/\y=.tup (ks.map kD)/\S[n]?=some (.dt Z8)/\o=dval Z8 ks)\/(∃ n Z8 e ks,x=.ref n/\y=.tup (ks.map kN)/\S[n]?=some (.dn Z8 e)/\o=dval Z8 ks)
def Fb (S:Z7)(x:D):Prop:=∃ n,x=.ref n/\((∃ Z8,S[n]?=some (.dk Z8))\/(∃ Z8,S[n]?=some (.dt Z8))\/∃ Z8 e,S[n]?=some (.dn Z8 e))
def Lk:DE:=fun _ S Q=>Q (.ref S.length) (S++[.dk []])
def Hz:DE:=fun _ S Q=>Q (.ref S.length) (S++[.dt []])
def Ny:DE:=fun _ S Q=>Q (.ref S.length) (S++[.dn [] 0])
def Vt (td ti:DE):DE:=fun Z S Q=>td Z S fun x S1=>ti Z S1 fun y S2=>∃ d,Zr S2 x y (some d)/\Q d S2
def Oz (ti td:DE):DE:=fun Z S Q=>ti Z S fun y S1=>td Z S1 fun x S2=>∃ o,Zr S2 x y o/\Q (.bl o.isSome) S2
def SJ (ti td:DE):DE:=fun Z S Q=>ti Z S fun y S1=>td Z S1 fun x S2=>∃ o,Zr S2 x y o/\Q (.bl (!o.isSome)) S2
def M6 (td ti tz:DE):DE:=fun Z S Q=>td Z S fun x S1=>Fb S1 x/\ti Z S1 fun y S2=>tz Z S2 fun z S3=>∃ o,Zr S3 x y o/\Q (o.getD z) S3
def Gr (tk tv:DE):DE:=fun Z S Q=>tk Z (S++[.dk []]) fun x S1=>tv Z S1 fun y S2=>∃ z,x=.str z/\S2[S.length]?=some (.dk [])/\Q (.ref S.length) (S2.set S.length (.dk [(z,y)]))
def Lj (tk tv:DE):DE:=fun Z S Q=>tk Z (S++[.dt []]) fun x S1=>tv Z S1 fun y S2=>∃ ks,x=.tup (ks.map kD)/\S2[S.length]?=some (.dt [])/\Q (.ref S.length) (S2.set S.length (.dt [(ks,y)]))
def J6 (td:DE):DI:=fun Z S R=>td Z S fun x S1=>∃ n Z8 e,x=.ref n/\S1[n]?=some (.dn Z8 e)/\R ⟨Z8.map fun kv=>.tup [.tup (kv.1.map kN),kv.2],fun S=>S[n]?=some (.dn Z8 e)⟩ S1
def Tc (S:Z7)(x y v:D)(Q:Z7->Prop):Prop:=(∃ n Z8 z,x=.ref n/\y=.str z/\S[n]?=some (.dk Z8)/\Z8.length<big/\Q (S.set n (.dk (dput Z8 z v))))\/(∃ n Z8 ks,x=.ref n/\y=.tup (ks.map kD)/\S[n]?=some (.dt Z8)/\Z8.length<big/\Q (S.set n (.dt (dput Z8 ks v))))
def LR (td ti tv:DE):DS:=fun E Z S=>tv Z S fun v S1=>td Z S1 fun x S2=>ti Z S2 fun y S3=>Tc S3 x y v (E.nx Z)
def Ou (S:Z7)(x y v:D)(Q:Z7->Prop):Prop:=∃ n Z8 e ks,x=.ref n/\y=.tup (ks.map kN)/\S[n]?=some (.dn Z8 e)/\Z8.length<big/\∀ e',Q (S.set n (.dn (dput Z8 ks v) e'))
def SN (td ti tv:DE):DS:=fun E Z S=>tv Z S fun v S1=>td Z S1 fun x S2=>ti Z S2 fun y S3=>Ou S3 x y v (E.nx Z)
def fc:Cell->Bool
 |.lst xs=>xs.all (fl 20)
 |.ins _ _=>false
 |.dk _=>false
 |.dt _=>false
 |.dn _ _=>false
 |.tab _ _ _=>false
def Fin (S:Z7)(Q:DK):DK:=fun d S'=>Q d S'\/∃ S1,S1 <+: S'/\S.length<=S1.length/\(fl 20 d=true\/∃ n,d=.ref n/\n<S1.length)/\(∀ (n:Nat) c,S1[n]?=some c->S[n]?=some c\/fc c=true)/\Q d S1
def SQ (n:Nat)(ds:List D):Z1:=ds.map some++List.replicate (n-ds.length) none
def BodyOk (n:Nat)(b:DS)(f:ZV):Prop:=∀ ds S Q,f ds S Q->b ⟨fun _ S'=>Fin S Q .non S',Fin S Q,fun _ _=>False,fun _ _=>False⟩ (SQ n ds) S
abbrev XD:=Str->Z7->Prop
abbrev XR:=Z1->Str->Z7->Prop
abbrev Y6:=List D->Z7->DK->XD->Prop
def zV (f:Y6)(ex:XR)(t:DA):DE:=fun Z S Q=>t Z S fun xs S1=>f xs S1 Q (ex Z)
def xF:XR:=fun _ _ _=>False
def Uy (ex:XR)(c:Str):DS:=fun _ Z S=>ex Z c S
def TV (tbl:List (Str×Bool))(t:DE):DE:=fun Z S Q=>t Z S fun x S1=>∃ c b,x=.exn c/\tbl.lookup c=some b/\Q (.bl b) S1
def Jd (i:Nat)(ok:List Str)(b:XR->DS)(h:DS):DS:=fun E Z S =>b (fun ρ' c S'=>ok.contains c=true/\h { nx:=fun ρ2 S2=>E.nx (ρ2.set i none) S2,rt:=E.rt,bk:=fun _ _=>False,ct:=fun _ _=>False } (ρ'.set i (some (.exn c))) S') E Z S
def Dj (c:Str)(init:Y6):Y6:=fun ds S Q ex=>init (.ref S.length::ds) (S++[.ins c []]) (fun d S2=>d=.non/\Q (.ref S.length) S2) ex
def XQ (n:Nat)(b:XR->DS)(f:Y6):Prop:=∀ ds S Q ex,f ds S Q ex->b (fun _=>ex) ⟨fun _ S'=>Fin S Q .non S',Fin S Q,fun _ _=>False,fun _ _=>False⟩ (SQ n ds) S
def New (Q:DK)(S:Z7)(xs:List D):Prop:=Q (.ref S.length) (S++[.lst xs])
def Put (Q:Z7->Prop)(S:Z7)(n:Nat)(c:Cell):Prop:=Q (S.set n c)
def Cq (own:Nat)(fv:List Nat)(g:DG)(tc:DT)(te:DE)(Z:Z1)(Q:DK)(J:Tv)(S:Z7):Prop:=J.items.length<=big/\∃ W:Nat->List D->Z7->Prop,W 0 [] S/\(∀ i ys S,W i ys S->J.ok S) /\
 (∀ i d ys S,J.items[i]?=some d->W i ys S->g d (RM own fv Z) S fun ρ2 S2=>tc ρ2 S2 fun b S3=>if b=true then te ρ2 S3 fun y S4=>W (i+1) (ys++[y]) S4 else W (i+1) ys S3) /\
 ∀ ys S,W J.items.length ys S->New Q S ys
def Hs (d:D)(Z:Z1)(Q:Z1->Z7->Prop)(o i:D)(S2:Z7):Prop:=∃ n xs k j,o=.ref n/\i=.int k/\S2[n]?=some (.lst xs)/\Xz xs.length k=some j/\Q Z (S2.set n (.lst (xs.set j d)))
def Jr (nx:Z1->Z7->Prop)(rt:DK)(g:DG)(t:DS)(Z:Z1)(J:Tv)(S:Z7):Prop:=∃ W:Nat->Z1->Z7->Prop,W 0 Z S/\(∀ i Z S,W i Z S->J.ok S) /\
 (∀ i d Z S,J.items[i]?=some d->W i Z S->g d Z S fun ρ2 S2=>t ⟨W (i+1),rt,nx,W (i+1)⟩ ρ2 S2)/\∀ Z S,W J.items.length Z S->nx Z S
def wk (W:Nat->Z1->Z7->Prop)(m:Nat)(t:DS)(rt:DK)(nx:Z1->Z7->Prop)(Z:Z1)(S:Z7):Prop:=∃ N:Z1->Z7->Prop,(∀ ρ' S',N ρ' S'->∃ m',m'<m/\W m' ρ' S')/\t ⟨N,rt,nx,N⟩ Z S
def Le (N W:Z1->Z7->Prop):Prop:=∀ Z S,W Z S->N Z S
def rG (W:Z1->Z7->Prop)(P:(Z1->Z7->Prop)->(Z1->Z7->Prop)->Prop):Prop:=∀ N B,Le N W->P N B
def ī {W:Z1->Z7->Prop}{P:(Z1->Z7->Prop)->(Z1->Z7->Prop)->Prop}(h:∀ N B,Le N W->P N B):rG W P:=h
def jh (h:Le N W)(w:W Z S):N Z S:=h Z S w
def wW (J:Z1->Z7->Prop)(P:(Z1->Z7->Prop)->Prop):Prop:=∀ N,Le N J->P N
def î {J:Z1->Z7->Prop}{P:(Z1->Z7->Prop)->Prop}(h:∀ N,Le N J->P N):wW J P:=h
def Hr (N W:List D->Z7->Prop):Prop:=∀ ys S,W ys S->N ys S
def pU (W:List D->Z7->Prop)(P:(List D->Z7->Prop)->Prop):Prop:=∀ N,Hr N W->P N
def jt {W:List D->Z7->Prop}{P:(List D->Z7->Prop)->Prop}(h:∀ N,Hr N W->P N):pU W P:=h
def nxl (h:Hr N W)(w:W ys S):N ys S:=h ys S w
def Yq {nx:Z1->Z7->Prop}{rt:DK}{g:DG}{t:DS}{xs:List D}{ok:Z7->Prop}(W:Nat->Z1->Z7->Prop)(h0:W 0 Z S)(hok:∀ i Z S,W i Z S->ok S)(step:∀ i d Z S,xs[i]?=some d->W i Z S->rG (W (i+1)) fun N B=>g d Z S fun ρ2 S2=>t ⟨N,rt,B,N⟩ ρ2 S2)(fin:∀ Z S,W xs.length Z S->nx Z S):Jr nx rt g t Z ⟨xs,ok⟩ S:=⟨W,h0,hok,fun i d Z S e w=>step i d Z S e w (W (i+1)) nx fun _ _ h=>h,fin⟩
def u9 {nx:Z1->Z7->Prop}{rt:DK}{g:DG}{t:DS}{xs:List D}{ok:Z7->Prop}(W:Nat->Z1->Z7->Prop)(h0:W 0 Z S)(hok:∀ i Z S,W i Z S->ok S)(step:∀ i d Z S,xs[i]?=some d->W i Z S->g d Z S fun ρ2 S2=>t ⟨W (i+1),rt,nx,W (i+1)⟩ ρ2 S2)(fin:∀ Z S,W xs.length Z S->nx Z S):Jr nx rt g t Z ⟨xs,ok⟩ S:=⟨W,h0,hok,step,fin⟩
def υ {S:Z7}{Q:DK}{xs:List D}(h:Q (.ref S.length) (S++[.lst xs])):New Q S xs:=h
def Xh {S T:Z7}{Q:DK}{xs:List D}(h:Q (.ref (S.length+T.length)) (S++(T++[.lst xs]))):New Q (S++T) xs:=by unfold New;rw[qg,qj];exact h
section
variable {S:Z7}{Q:DK}{xs:List D}{a b c d e f:Cell}
def GD (h:Q (.ref (S.length+1)) (S++[a,.lst xs])):New Q (S++[a]) xs:=Xh h
def zxf (h:Q (.ref (S.length+2)) (S++[a,b,.lst xs])):New Q (S++[a,b]) xs:=Xh h
def zwv (h:Q (.ref (S.length+3)) (S++[a,b,c,.lst xs])):New Q (S++[a,b,c]) xs:=Xh h
def zxV (h:Q (.ref (S.length+4)) (S++[a,b,c,d,.lst xs])):New Q (S++[a,b,c,d]) xs:=Xh h
def cT (h:Q (.ref (S.length+5)) (S++[a,b,c,d,e,.lst xs])):New Q (S++[a,b,c,d,e]) xs:=Xh h
end
def uf {a:Cell}{T:Z7}{Q:Z7->Prop}{c:Cell}(h:Q (S++c::T)):Put Q (S++a::T) S.length c:=by unfold Put;rw[Qt _ _ (qh _),Yj];exact h
def Vy {S:Z7}{Q:Z7->Prop}{n:Nat}{c:Cell}(h:Q (S.set n c)):Put Q S n c:=h
def vI {T:Z7}{Q:Z7->Prop}{k:Nat}{c:Cell}(h:Q (S++T.set k c)):Put Q (S++T) (S.length+k) c:=by unfold Put;rw[Qt _ _ (MJ _ _),Im];exact h
def Aj (nx:Z1->Z7->Prop)(Z:Z1):DK:=fun _ S1=>nx Z S1
def vd (g:DG)(Z:Z1)(nx:Z1->Z7->Prop):DK:=fun x S1=>g x Z S1 nx
def nF (t u:DS)(E:OJ)(Z:Z1):Bool->Z7->Prop:=fun b S1=>if b=true then t E Z S1 else u E Z S1
def tH (u:Vg)(r:List D)(Q:Z1->Z7->Prop):Z1->Z7->Prop:=fun ρ' S'=>u r ρ' S' Q
def uN (ti:DE)(d:D)(Z:Z1)(Q:Z1->Z7->Prop):DK:=fun o S1=>ti Z S1 (Hs d Z Q o)
def Dt (r:Zt)(x:D)(Q:DK):DK:=fun y S2=>r x y S2 Q
def tQ (r:Zt)(tb:DE)(Z:Z1)(Q:DK):DK:=fun x S1=>tb Z S1 (Dt r x Q)
def yJ (r:D->Z7->DK->Prop)(Q:DK):DK:=fun x S1=>r x S1 Q
def Hf (x:D)(Q:List D->Z7->Prop):List D->Z7->Prop:=fun xs S2=>Q (x::xs) S2
def nQ (tr:DA)(Z:Z1)(Q:List D->Z7->Prop):DK:=fun x S1=>tr Z S1 (Hf x Q)
def mY (Q:DK):List D->Z7->Prop:=fun xs S1=>xs.length<=big/\Q (.tup xs) S1
def nD (Q:DK):List D->Z7->Prop:=fun xs S1=>xs.length<=big/\New Q S1 xs
def Gs (f:ZV)(Q:DK):List D->Z7->Prop:=fun xs S1=>f xs S1 Q
def Fd (r:DM)(x:D)(Q:DK):List D->Z7->Prop:=fun xs S2=>r x xs S2 Q
def kM (r:DM)(t:DA)(Z:Z1)(Q:DK):DK:=fun x S1=>(∃ n ys,x=.ref n/\S1[n]?=some (.lst ys))/\t Z S1 (Fd r x Q)
def kT (Q:Bool->Z7->Prop):DK:=fun x S1=>∃ b,x=.bl b/\Q b S1
def wG (u:DT)(Z:Z1)(Q:Bool->Z7->Prop):Bool->Z7->Prop:=fun c S1=>if c=true then u Z S1 Q else Q false S1
def kOr (u:DT)(Z:Z1)(Q:Bool->Z7->Prop):Bool->Z7->Prop:=fun c S1=>if c=true then Q true S1 else u Z S1 Q
def pB (Q:Bool->Z7->Prop):Bool->Z7->Prop:=fun c S1=>Q (!c) S1
def BP (r:D->Option Int->Option Int->Z7->DK->Prop)(x:D)(l:Option Int)(Q:DK):Option Int->Z7->Prop:=fun h S3=>r x l h S3 Q
def Ey (r:D->Option Int->Option Int->Z7->DK->Prop)(x:D)(hi:Option DE)(Z:Z1)(Q:DK):Option Int->Z7->Prop:=fun l S2=>T5 hi Z S2 (BP r x l Q)
def oA (r:D->Option Int->Option Int->Z7->DK->Prop)(lo hi:Option DE)(Z:Z1)(Q:DK):DK:=fun x S1=>T5 lo Z S1 (Ey r x hi Z Q)
section
variable {nx:Z1->Z7->Prop}{Z:Z1}{S:Z7}{Q:DK}{x y:D}{xs:List D}{E:OJ}
def k_drop (h:nx Z S):Aj nx Z x S:=h
def zwy {g:DG}(h:g x Z S nx):vd g Z nx x S:=h
def ϳ {t u:DS}{b:Bool}(h:if b=true then t E Z S else u E Z S):nF t u E Z b S:=h
def zzp {u:Vg}{r:List D}(h:u r Z S nx):tH u r nx Z S:=h
def zyK {ti:DE}{d:D}(h:ti Z S (Hs d Z nx x)):uN ti d Z nx x S:=h
def Χ {r:Zt}(h:r x y S Q):Dt r x Q y S:=h
def ϛ {r:Zt}{tb:DE}(h:tb Z S (Dt r x Q)):tQ r tb Z Q x S:=h
def eX {r:D->Z7->DK->Prop}(h:r x S Q):yJ r Q x S:=h
def mH {Q:List D->Z7->Prop}(h:Q (x::xs) S):Hf x Q xs S:=h
def Ũ {tr:DA}{Q:List D->Z7->Prop}(h:tr Z S (Hf x Q)):nQ tr Z Q x S:=h
def zzv (h:xs.length<=big/\Q (.tup xs) S):mY Q xs S:=h
def aV (h:xs.length<=big/\New Q S xs):nD Q xs S:=h
def zyj {f:ZV}(h:f xs S Q):Gs f Q xs S:=h
def Ĩ {r:DM}(h:r x xs S Q):Fd r x Q xs S:=h
def δ {r:DM}{t:DA}(h:(∃ n ys,x=.ref n/\S[n]?=some (.lst ys))/\t Z S (Fd r x Q)):kM r t Z Q x S:=h
def jK {Q:Bool->Z7->Prop}(h:Q b S):kT Q (.bl b) S:=⟨b,rfl,h⟩
def zzq {u:DT}{Q:Bool->Z7->Prop}{c:Bool}(h:if c=true then u Z S Q else Q false S):wG u Z Q c S:=h
def jB {u:DT}{Q:Bool->Z7->Prop}{c:Bool}(h:if c=true then Q true S else u Z S Q):kOr u Z Q c S:=h
def zzl {Q:Bool->Z7->Prop}{c:Bool}(h:Q (!c) S):pB Q c S:=h
def gH {r:D->Option Int->Option Int->Z7->DK->Prop}{l o:Option Int}(h:r x l o S Q):BP r x l Q o S:=h
def lg {r:D->Option Int->Option Int->Z7->DK->Prop}{l:Option Int}{hi:Option DE}(h:T5 hi Z S (BP r x l Q)):Ey r x hi Z Q l S:=h
def bV {r:D->Option Int->Option Int->Z7->DK->Prop}{lo hi:Option DE}(h:T5 lo Z S (Ey r x hi Z Q)):oA r lo hi Z Q x S:=h
end
section
variable {nx:Z1->Z7->Prop}{rt:DK}{bk ct:Z1->Z7->Prop}{Z:Z1}{S:Z7}
def Eu {t u:DS}(h:t ⟨u ⟨nx,rt,bk,ct⟩,rt,bk,ct⟩ Z S):zf t u ⟨nx,rt,bk,ct⟩ Z S:=h
def Ak {t:DS}(J:Z1->Z7->Prop)(h:wW J fun N=>t ⟨N,rt,bk,ct⟩ Z S)(hJ:∀ Z S,J Z S->nx Z S):sJ t ⟨nx,rt,bk,ct⟩ Z S:=⟨J,hJ,h J fun _ _ h=>h⟩
def Ù (h:nx Z S):zB ⟨nx,rt,bk,ct⟩ Z S:=h
def yD {t:DE}(h:t Z S rt):zA t ⟨nx,rt,bk,ct⟩ Z S:=h
def gQ {t:DE}(h:t Z S (Aj nx Z)):Zb t ⟨nx,rt,bk,ct⟩ Z S:=h
def um {t:DE}{g:DG}(h:t Z S (vd g Z nx)):zq t g ⟨nx,rt,bk,ct⟩ Z S:=h
def aq {c:DT}{t u:DS}(h:c Z S (nF t u ⟨nx,rt,bk,ct⟩ Z)):ZR c t u ⟨nx,rt,bk,ct⟩ Z S:=h
def œ {c f:Str}{to tv:DE}(h:tv Z S fun y S1=>to Z S1 fun x S2=>∃ n fs,x=.ref n/\S2[n]?=some (.ins c fs)/\fs.length<100/\nx Z (S2.set n (.ins c (putD f y fs)))):V5 c f to tv ⟨nx,rt,bk,ct⟩ Z S:=h
def ë {i:Nat}{t:DE}{a:Int}(e:Z[i]?=some (some (.int a)))(h:t Z S fun y S1=>∃ b,y=.int b/\nx (Z.set i (some (.int (a+b)))) S1):Nh i t ⟨nx,rt,bk,ct⟩ Z S:=⟨a,e,h⟩
def zxu {wi:DI}{g:DG}{t:DS}(h:wi Z S (Jr nx rt g t Z)):Y0 wi g t ⟨nx,rt,bk,ct⟩ Z S:=h
def RB {c:DT}{t:DS}(W:Nat->Z1->Z7->Prop)(m:Nat)(h0:W m Z S)(h:∀ m Z S,W m Z S->c Z S fun b S1=>if b=true then wk W m t rt nx Z S1 else nx Z S1):U8 c t ⟨nx,rt,bk,ct⟩ Z S:=⟨W,⟨m,h0⟩,h⟩
def oF {t:DS}{W:Nat->Z1->Z7->Prop}{m:Nat}(h:t ⟨fun ρ' S'=>∃ m',m'<m/\W m' ρ' S',rt,nx,fun ρ' S'=>∃ m',m'<m/\W m' ρ' S'⟩ Z S):wk W m t rt nx Z S:=⟨_,fun _ _ z=>z,h⟩
def ξ {i:Nat}{d:D}{Q:Z1->Z7->Prop}(h:Q (Z.set i (some d)) S):zR i d Z S Q:=h
def zvg {Q:Z1->Z7->Prop}(h:Q Z S):YK [] Z S Q:=⟨rfl,h⟩
def lX {t:DG}{u:Vg}{d:D}{r:List D}{Q:Z1->Z7->Prop}(h:t d Z S (tH u r Q)):zN t u (d::r) Z S Q:=⟨d,r,rfl,h⟩
def jN {n:Nat}{t:Vg}{xs:List D}{Q:Z1->Z7->Prop}(e:xs.length=n)(h:t xs Z S Q):YH n t (.tup xs) Z S Q:=⟨xs,rfl,e,h⟩
def cV {to ti:DE}{d:D}{Q:Z1->Z7->Prop}(h:to Z S (uN ti d Z Q)):Qv to ti d Z S Q:=h
def Q9 {i:Nat}{d:D}{Q:DK}(h:Z[i]?=some (some d))(q:Q d S):YM i Z S Q:=⟨d,h,q⟩
def ŗ {Q:DK}(q:Q d S):dC d Z S Q:=q
def Ja {r:Zt}{ta tb:DE}{Q:DK}(h:ta Z S (tQ r tb Z Q)):Z6 r ta tb Z S Q:=h
def Ϯ {r:D->Z7->DK->Prop}{ta:DE}{Q:DK}(h:ta Z S (yJ r Q)):Wq r ta Z S Q:=h
def zwd {Q:List D->Z7->Prop}(h:Q [] S):zm Z S Q:=h
def Bq {ta:DE}{tr:DA}{Q:List D->Z7->Prop}(h:ta Z S (nQ tr Z Q)):zc ta tr Z S Q:=h
def sH {t:DA}{Q:DK}(h:t Z S (mY Q)):dTup t Z S Q:=h
def ā {t:DA}{Q:DK}(h:t Z S (nD Q)):Zk t Z S Q:=h
def zxr {xs:List D}{P:Prop}(h:Nat.ble xs.length big=true)(q:P):xs.length<=big/\P:=⟨qI h,q⟩
def Ϛ {f:ZV}{t:DA}{Q:DK}(h:t Z S (Gs f Q)):dCall f t Z S Q:=h
def r_b {r:DB}{t:DA}{Q:DK}(h:t Z S (Gs r Q)):dB r t Z S Q:=h
def Ō {r:DM}{ta:DE}{t:DA}{Q:DK}(h:ta Z S (kM r t Z Q)):dM r ta t Z S Q:=h
def Fp {n:Nat}{ys:List D}{P:Prop}(h:S[n]?=some (.lst ys))(q:P):(∃ m ys,D.ref n=.ref m/\S[m]?=some (.lst ys))/\P:=⟨⟨n,ys,rfl,h⟩,q⟩
def r_t {t:DE}{Q:Bool->Z7->Prop}(h:t Z S (kT Q)):dT t Z S Q:=h
def ĩ {P:Bool->Prop}(h:P c):∃ b,D.bl c=D.bl b/\P b:=⟨c,rfl,h⟩
def zw5 {P:Int->Prop}(h:P c):∃ b,D.int c=D.int b/\P b:=⟨c,rfl,h⟩
def zxJ {t u:DT}{Q:Bool->Z7->Prop}(h:t Z S (wG u Z Q)):WY t u Z S Q:=h
def gw {t u:DT}{Q:Bool->Z7->Prop}(h:t Z S (kOr u Z Q)):Xp t u Z S Q:=h
def zwW {t:DT}{Q:Bool->Z7->Prop}(h:t Z S (pB Q)):W9 t Z S Q:=h
def lM {t u:DE}{Q:DK}(h:t Z S fun x S1=>∃ c,x=.bl c/\if c=true then u Z S1 Q else Q (.bl false) S1):Ro t u Z S Q:=h
def ztT {t:DE}{Q:DK}(h:t Z S fun x S1=>∃ c,x=.bl c/\Q (.bl (!c)) S1):Rw t Z S Q:=h
def ş {r r':Zt}{ta tb tc:DE}{Q:DK}(h:ta Z S fun x S1=>tb Z S1 fun y S2=>r x y S2 fun z S3=>∃ c,z=.bl c/\if c=true then tc Z S3 fun w S4=>r' y w S4 Q else Q (.bl false) S3):Oj r r' ta tb tc Z S Q:=h
def zxb {f:Str}{ta:DE}{Q:DK}(h:ta Z S fun x S1=>∃ n c fs d,x=.ref n/\S1[n]?=some (.ins c fs)/\fs.lookup f=some d/\Q d S1):Ze f ta Z S Q:=h
def Ø {r:D->Option Int->Option Int->Z7->DK->Prop}{ta:DE}{lo hi:Option DE}{Q:DK}(h:ta Z S (oA r lo hi Z Q)):Uo r ta lo hi Z S Q:=h
def zve {Q:Option Int->Z7->Prop}(h:Q none S):T5 none Z S Q:=h
def zvc {t:DE}{Q:Option Int->Z7->Prop}(h:t Z S fun x S1=>∃ i,x=.int i/\Q (some i) S1):T5 (some t) Z S Q:=h
def zvU {Q:Bool->Z7->Prop}(h:Q true S):Yn Z S Q:=h
end
section
variable {S:Z7}{Q:DK}
def zwU {i j:Int}(q:Q (.int (i+j)) S):zW (.int i) (.int j) S Q:=.inl ⟨i,j,rfl,rfl,q⟩
def lE {xs ys:List D}(h:xs.length+ys.length<=big)(q:Q (.tup (xs++ys)) S):zW (.tup xs) (.tup ys) S Q:=.inr (.inl ⟨xs,ys,rfl,rfl,h,q⟩)
def Cy (hx:Lst S x xs)(hy:Lst S y ys)(h:xs.length+ys.length<=big)(q:New Q S (xs++ys)):zW x y S Q:=.inr (.inr (.inl ⟨xs,ys,hx,hy,h,q⟩))
def ztx {i j:Str}(h:i.length+j.length<=big)(q:Q (.str (i++j)) S):zW (.str i) (.str j) S Q:=.inr (.inr (.inr ⟨i,j,rfl,rfl,h,q⟩))
def aJ {i j:Int}(q:Q (.int (i-j)) S):Zm (.int i) (.int j) S Q:=⟨i,j,rfl,rfl,q⟩
def aP (c:YZ i j)(q:Q (.int (i*j)) S):Y7 (.int i) (.int j) S Q:=.inl ⟨i,j,rfl,rfl,c,q⟩
def ę {z:Str}{n:Int}(hz:z.length<=1000)(h0:-1000<=n)(h1:n<=1000)(q:Q (.str (Jq z n)) S):Y7 (.str z) (.int n) S Q:=.inr (.inl ⟨z,n,rfl,rfl,hz,h0,h1,q⟩)
def ó {c:Nat}{z:Str}(q:Q (.bl (decide (c∈z.cps.toList))) S):Uk (.str ⟨#[c]⟩) (.str z) S Q:=.inr ⟨c,z,rfl,rfl,q⟩
def zxo {i j:Int}(c:0<j/\My.Bd 8000 j)(q:Q (.int (i/j)) S):oDiv (.int i) (.int j) S Q:=⟨i,j,rfl,rfl,⟨by lia,c.2⟩,by show Q (.int (i.fdiv j)) S;rw[Int.fdiv_eq_ediv_of_nonneg i (by lia)];exact q⟩
def Ê {i j:Int}(c:0<j)(q:Q (.int (i%j)) S):oMod (.int i) (.int j) S Q:=⟨i,j,rfl,rfl,(by show j≠0;lia),by show Q (.int (i.fmod j)) S;rw[Int.fmod_eq_emod_of_nonneg i (by lia)];exact q⟩
def nU (c:yg i j)(q:Q (.int (i.fdiv j)) S):oDiv (.int i) (.int j) S Q:=⟨i,j,rfl,rfl,c,q⟩
def ϝ {i j:Int}(c:j≠0)(q:Q (.int (i.fmod j)) S):oMod (.int i) (.int j) S Q:=⟨i,j,rfl,rfl,c,q⟩
def bY {i:Int}(q:Q (.int (-i)) S):Wa (.int i) S Q:=⟨i,rfl,q⟩
def Ĝ {i j:Int}(q:Q (.bl (decide (i<j))) S):oLt (.int i) (.int j) S Q:=⟨i,j,rfl,rfl,q⟩
def bC {i j:Int}(q:Q (.bl (decide (i<=j))) S):oLe (.int i) (.int j) S Q:=⟨i,j,rfl,rfl,q⟩
def zzn {i j:Int}(q:Q (.bl (decide (j<i))) S):Yk (.int i) (.int j) S Q:=⟨i,j,rfl,rfl,q⟩
def bO {i j:Int}(q:Q (.bl (decide (j<=i))) S):JD (.int i) (.int j) S Q:=⟨i,j,rfl,rfl,q⟩
def zwV {i j:Int}(q:Q (.bl (decide (i=j))) S):oEq (.int i) (.int j) S Q:=⟨_,.inl ⟨rfl,rfl,rfl⟩,q⟩
def θ {i j:Int}(q:Q (.bl (!decide (i=j))) S):XS (.int i) (.int j) S Q:=⟨_,.inl ⟨rfl,rfl,rfl⟩,q⟩
def jU {x:D}(q:Q (.bl (YL x)) S):Rx x .non S Q:=.inl ⟨rfl,q⟩
def ů (q:Q (.bl false) S):Wx .non .non S Q:=.inl ⟨rfl,q⟩
def Ķ {i:Int}(q:Q (.bl true) S):Wx (.int i) .non S Q:=.inl ⟨rfl,q⟩
def ztv {xs:List D}(q:Q (.bl true) S):Wx (.tup xs) .non S Q:=.inl ⟨rfl,q⟩
def zwj {x:D}(q:Q (.bl (!YL x)) S):Wx x .non S Q:=.inl ⟨rfl,q⟩
def zxS {xs:List D}{i:Int}{d:D}(e:Zh xs i=some d)(q:Q d S):ZQ (.tup xs) (.int i) S Q:=.inl ⟨i,xs,d,rfl,.inl rfl,e,q⟩
def zxG {i:Int}{d:D}(h:Lst S x xs)(e:Zh xs i=some d)(q:Q d S):ZQ x (.int i) S Q:=.inl ⟨i,xs,d,rfl,.inr h,e,q⟩
def jW {z:Str}{i:Int}{c:Nat}(hz:z.length<=big)(e:atS z i=some c)(q:Q (.str ⟨#[c]⟩) S):ZQ (.str z) (.int i) S Q:=.inr ⟨z,i,c,rfl,rfl,hz,e,q⟩
def lJ {lo hi:Option Int}(h:Lst S x xs)(q:New Q S (cutD xs lo hi)):Ut x lo hi S Q:=.inr (.inl ⟨xs,h,q⟩)
def Ã {xs:List D}(q:Q (.int xs.length) S):Za [.tup xs] S Q:=.inl ⟨_,xs,rfl,.inl rfl,q⟩
def zvS (h:Lst S x xs)(q:Q (.int xs.length) S):Za [x] S Q:=.inl ⟨_,xs,rfl,.inr h,q⟩
def xK {z:Str}(hz:z.length<=big)(q:Q (.int z.length) S):Za [.str z] S Q:=.inr ⟨z,rfl,hz,q⟩
def zwD {i:Int}(q:Q (.int (i.natAbs:Int)) S):Jy [.int i] S Q:=⟨i,rfl,q⟩
def zt1 {i j:Int}(q:Q (.int (max i j)) S):RT [.int i,.int j] S Q:=⟨i,j,rfl,q⟩
def kW {i j:Int}(q:Q (.int (min i j)) S):Pb [.int i,.int j] S Q:=⟨i,j,rfl,q⟩
def Ú {ns:List Int}(h:Lst S x (ns.map D.int))(h0:0<ns.length)(q:∀ m:Int,m∈ns->(∀ a∈ns,a<=m)->Q (.int m) S):JT [x] S Q:=⟨x,ns,rfl,h,h0,q⟩
def m8 {ns:List Int}(h:Lst S x (ns.map D.int))(h0:0<ns.length)(q:∀ m:Int,m∈ns->(∀ a∈ns,m<=a)->Q (.int m) S):MF [x] S Q:=⟨x,ns,rfl,h,h0,q⟩
def La {bs:List Bool}(h:Lst S x (bs.map D.bl))(q:Q (.bl (bs.all id)) S):Wz [x] S Q:=⟨x,bs,rfl,h,q⟩
def Ç (h:Lst S x xs)(q:New Q S xs):O6 [x] S Q:=⟨_,xs,rfl,.inr h,q⟩
def zta {b:Bool}(q:Q (.int (if b then 1 else 0)) S):Nt [.bl b] S Q:=.inr ⟨b,rfl,q⟩
def Je {n:Nat}{xs:List D}{y:D}(h:S[n]?=some (.lst xs))(hl:xs.length<big)(q:Put (Q .non) S n (.lst (xs++[y]))):V1 (.ref n) [y] S Q:=⟨n,xs,y,rfl,rfl,h,hl,q⟩
def iH {n:Nat}{xs:List D}{y:D}(h:S[n]?=some (.lst (y::xs)))(q:Put (Q y) S n (.lst xs)):Km (.ref n) [.int 0] S Q:=⟨n,xs,y,rfl,rfl,h,q⟩
def jc {n:Nat}{xs:List D}{k:Int}{j:Nat}{d:D}{Z:Z1}{Q:Z1->Z7->Prop}(h:S[n]?=some (.lst xs))(e:Xz xs.length k=some j)(q:Put (Q Z) S n (.lst (xs.set j d))):Hs d Z Q (.ref n) (.int k) S:=⟨n,xs,k,j,rfl,rfl,h,e,q⟩
end
section
variable {Z:Z1}{S:Z7}{R:Tv->Z7->Prop}
def zte {t:DE}(h:t Z S fun x S1=>Lz x S1 R):Zu t Z S R:=h
def zxy {xs:List D}(q:R ⟨xs,fun _=>True⟩ S):Lz (.tup xs) S R:=.inl ⟨xs,rfl,q⟩
def zxI (h:Lst S x xs)(q:R ⟨xs,fun S=>Lst S x xs⟩ S):Lz x S R:=.inr (.inl ⟨xs,h,q⟩)
def gB {z:Str}(q:R ⟨signs z,fun _=>True⟩ S):Lz (.str z) S R:=.inr (.inr ⟨z,rfl,q⟩)
def ztS {t:DA}(h:t Z S fun vs S1=>∃ j:Int,vs=[.int j]/\-(2 ^ 62)<=j/\j<2 ^ 62/\R ⟨upto 0 j.toNat,fun _=>True⟩ S1):Sd t Z S R:=h
def zsY {t:DA}(h:t Z S fun vs S1=>∃ i j:Int,vs=[.int i,.int j]/\R ⟨upto i (j-i).toNat,fun _=>True⟩ S1):M4 t Z S R:=h
def zuJ {t:DA}(h:t Z S (J9 R)):Wm t Z S R:=h
def RW (h:Lst S x xs)(q:R ⟨U9 0 xs,fun S=>Lst S x xs⟩ S):J9 R [x] S:=⟨x,xs,rfl,h,q⟩
def sY {Q:DK}{zs:List Str}(hx:Lst S x (zs.map D.str))(hl:zs.length<=4000)(q:Q (.int (LC zs)) S):Mf [x] S Q:=⟨x,zs,rfl,hx,hl,q⟩
def kO {t:DA}(h:t Z S (Bo R)):Ka t Z S R:=h
def zyT (hx:Lst S x xs)(hy:Lst S y ys)(q:R ⟨Yi xs ys,fun S=>Lst S x xs/\Lst S y ys⟩ S):Bo R [x,y] S:=.inl ⟨x,y,xs,ys,rfl,hx,hy,q⟩
def zyR {own:Nat}{fv:List Nat}{wi:DI}{g:DG}{tc:DT}{te:DE}{Q:DK}(h:wi Z S (Cq own fv g tc te Z Q)):Zi own fv wi g tc te Z S Q:=h
end
def Ej {A B:Prop}(h:B):if false=true then A else B:=by rw[if_neg qu];exact h
def Hw {A B:Prop}(h:A):if true=true then A else B:=by rw[if_pos rfl];exact h
def ZC {c A B:Prop}[Decidable c](h1:c->A)(h2:¬ c->B):if decide c=true then A else B:=by
 by_cases h:c
 ·rw[decide_eq_true h,if_pos rfl];exact h1 h
 ·rw[decide_eq_false h,if_neg qu];exact h2 h
def W8 {c A B:Prop}[Decidable c](h1:¬ c->A)(h2:c->B):if(!decide c)=true then A else B:=by
 by_cases h:c
 ·rw[decide_eq_true h];exact h2 h
 ·rw[decide_eq_false h];exact h1 h
def zM (S T:Z7)(k:Nat):(S++T)[S.length+k]?=T[k]?:=by rw[qe (MJ _ _),Im]
def zrk (S T:Z7):(S++T)[S.length]?=T[0]?:=zM S T 0
def zT {S T:Z7}{c:Cell}:(S++c::T)[S.length]?=some c:=(zM S (c::T) 0).trans rfl
def KY {S T:Z7}{c:Cell}:(S++(T++[c]))[S.length+T.length]?=some c:=by rw[zM,qe (qh _),Yj];rfl
def ń (S T:Z7)(k:Nat)(c:Cell):(S++T).set (S.length+k) c=S++T.set k c:=by rw[Qt _ _ (MJ _ _),Im]
def S9 (S T:Z7)(a c:Cell):(S++a::T).set S.length c=S++c::T:=ń S (a::T) 0 c
def zF {S T:Z7}{n:Nat}{c:Cell}(h:S[n]?=some c):(S++T)[n]?=some c:=by
 have:n<S.length:=by
  rcases qV n S.length with g|g
  ·exact g
  ·rw[qA g]at h;cases h
 rw[qf this];exact h
def Lst.old {T:Z7}(h:Lst S x xs):Lst (S++T) x xs:=h.imp id fun zq14=>by obtain⟨n,e,h⟩:=zq14;exact⟨n,e,zF h⟩
def Lst.at {S T:Z7}{k:Nat}{xs:List D}(h:T[k]?=some (.lst xs)):Lst (S++T) (.ref (S.length+k)) xs:=.inr ⟨_,rfl,by rw[zM];exact h⟩
def Lst.at0 {S T:Z7}{xs:List D}:Lst (S++.lst xs::T) (.ref S.length) xs:=.inr ⟨_,rfl,by rw[zrk];rfl⟩
def Lst.new {S T:Z7}{xs:List D}:Lst (S++(T++[.lst xs])) (.ref (S.length+T.length)) xs:=.inr ⟨_,rfl,KY⟩
theorem Lst.rl {S:Z7}{xs:List D}:Lst S (.rl xs) xs:=.inl rfl
def Lst.here {S:Z7}{n:Nat}{xs:List D}(h:S[n]?=some (.lst xs)):Lst S (.ref n) xs:=.inr ⟨n,rfl,h⟩
def Sq {T:Z7}{Q:DK}{d:D}(h:fl 20 d=true)(q:Q d S):Fin S Q d (S++T):=.inr ⟨S,K9 _ _,qh _,.inl h,fun _ _ e=>.inl e,q⟩
def fin_same {S:Z7}{Q:DK}(q:Q d S'):Fin S Q d S':=.inl q
section
variable {S:Z7}{Q:DK}
def cJ {i:Int}(q:Q (.bl true) S):Tp [.int i,.ty "int"] S Q:=⟨_,_,true,rfl,by rfl,q⟩
def zhJ {i:Int}(q:Q (.bl false) S):Tp [.int i,.ty "bool"] S Q:=⟨_,_,false,rfl,by rfl,q⟩
def zho {xs:List D}(q:Q (.bl true) S):Tp [.tup xs,.ty "tuple"] S Q:=⟨_,_,true,rfl,by rfl,q⟩
end
def zxD {A B:Prop}(h:B):if(!true)=true then A else B:=Ej h
def È {A B:Prop}(h:A):if(!false)=true then A else B:=Hw h
def K4 {Q:DK}{bs:List Bool}{b:Bool}(h:Lst S x (bs.map D.bl))(e:bs.all id=b)(q:Q (.bl b) S):Wz [x] S Q:=La h (by rw[e];exact q)
def Sx (S:Z7)(items:List D)(p:D->Bool)(f:D->D)(i:Nat)(ys:List D)(S':Z7):Prop:=S'=S/\ys=((items.take i).filter p).map f
def W7 {α:Type}{xs:List α}{i:Nat}{x:α}(h:xs[i]?=some x):xs.take (i+1)=xs.take i++[x]:=by rw[List.take_succ,h];rfl
def Xw {items:List D}{i:Nat}{d y:D}(hd:items[i]?=some d)(hw:Sx S items p f i ys S)(hp:p d=true)(hy:y=f d):Sx S items p f (i+1) (ys++[y]) S :=⟨rfl,by rw[W7 hd,RP,qD,<- hw.2,KZ hp,hy];rfl⟩
def RN {items:List D}{i:Nat}{d:D}(hd:items[i]?=some d)(hw:Sx S items p f i ys S)(hp:p d=false):Sx S items p f (i+1) ys S :=⟨rfl,by rw[W7 hd,RP,qD,<- hw.2,Nu (by rw[hp];exact qu)];simp⟩
def Xx {own:Nat}{fv:List Nat}{xs:List D}{ok:Z7->Prop}{g:DG}{tc:DT}{te:DE}{Z:Z1}{S:Z7}(p:D->Bool)(f:D->D)(hok:ok S)(hbig:xs.length<=big)(step:∀ i d ys,xs[i]?=some d->Sx S xs p f i ys S->g d (RM own fv Z) S fun ρ2 S2=>tc ρ2 S2 fun b S3=>if b=true then te ρ2 S3 fun y S4=>Sx S xs p f (i+1) (ys++[y]) S4 else Sx S xs p f (i+1) ys S3)(q:New Q S ((xs.filter p).map f)):Cq own fv g tc te Z Q ⟨xs,ok⟩ S:=by
 refine⟨hbig,Sx S xs p f,⟨rfl,by simp⟩,fun i ys S' h=>by rw[h.1];exact hok,fun i d ys S' hd h=>?_,fun ys S' h=>?_⟩
 ·obtain⟨rfl,_⟩:=id h;exact step i d ys hd h
 ·obtain⟨rfl,rfl⟩:=h;rw[VP];exact q
def filter_true (xs:List α):xs.filter (fun _=>true)=xs:=List.filter_eq_self.mpr fun _ _=>rfl
def RQ {ds:List D}{i:Nat}{d:D}(h:ds[i]?=some d):Zh ds (i:Int)=some d:=by
 have hl:i<ds.length:=by
  rcases qV i ds.length with g|g
  ·exact g
  ·rw[qA g]at h;cases h
 unfold Zh Xz;rw[if_pos (by lia),if_pos (by lia)];simpa using h
def LQ {lo:Int}{n i:Nat}{d:D}(h:(upto lo n)[i]?=some d):i<n/\d=.int (lo+i):=by
 unfold upto at h;rw[qk]at h;by_cases hi:i<n
 ·rw[List.getElem?_range hi]at h;exact⟨hi,by simpa using h.symm⟩
 ·rw[qA (by simpa using hi)]at h;cases h
def JQ (lo:Int)(n:Nat):(upto lo n).length=n:=by unfold upto;simp
def Ba {zs:List Int}{k:Int}(h0:0<=k)(h:k<zs.length):∃ z,z∈zs/\Zh (zs.map D.int) k=some (.int z):=by refine⟨zs[k.toNat]'(by lia),Iu _,?_⟩;unfold Zh Xz;rw[qa,if_pos h0,if_pos h];simp only[Option.bind_some];rw[qk,qb (by lia)];rfl
def ì {zs:List Int}{k:Int}(h0:0<=k)(h:k<zs.length):Xz (zs.map D.int).length k=some k.toNat:=by unfold Xz;rw[qa,if_pos h0,if_pos h]
def ą {zs:List Int}{i:Nat}{v z:Int}(h:z∈zs.set i v):z∈zs\/z=v:=by
 rcases Cp h with h|h
 ·exact .inl h
 ·exact .inr h
def R7 {zs:List Int}{i:Nat}{d:D}(h:(zs.map D.int)[i]?=some d):∃ z,zs[i]?=some z/\d=.int z:=by
 rw[qk]at h;cases e:zs[i]? with
 |none=>rw[e]at h;cases h
 |some p=>rw[e]at h;cases h;exact⟨p,rfl,rfl⟩
def Dz {cs:List (Int×Int)}{i:Nat}{d:D}(h:(cs.map p2)[i]?=some d):∃ c,cs[i]?=some c/\d=p2 c:=by
 rw[qk]at h;cases e:cs[i]? with
 |none=>rw[e]at h;cases h
 |some p=>rw[e]at h;cases h;exact⟨p,rfl,rfl⟩
def zL {α:Type}{xs:List α}{i:Nat}{x:α}(h:xs[i]?=some x):i<xs.length:=by
 rcases qV i xs.length with g|g
 ·exact g
 ·rw[qA g]at h;cases h
def Vf:Option Int->D
 |none=>.non
 |some v=>.int v
theorem Uz:∀ {xs:List D} {k i:Nat} {d:D},(U9 k xs)[i]?=some d->∃ x,xs[i]?=some x/\d=.tup [.int ((k+i:Nat):Int),x]
 |[],k,i,d,h=>by simp[U9]at h
 |x::xs,k,0,d,h=>⟨x,rfl,by simpa [U9]using h.symm⟩
 |x::xs,k,i+1,d,h=>by obtain⟨y,e1,e2⟩:=Uz (xs:=xs) (k:=k+1) (i:=i) (d:=d) (by simpa [U9]using h);exact⟨y,by simpa using e1,by rw[e2,show k+1+i=k+(i+1) by lia]⟩
theorem UL:∀ (k:Nat) (xs:List D),(U9 k xs).length=xs.length
  |_,[]=>rfl
  |k,x::xs=>congrArg (· + 1) (UL (k+1) xs)
theorem Il:∀ {xs ys:List D} {i:Nat} {d:D},(Yi xs ys)[i]?=some d->∃ x y,xs[i]?=some x/\ys[i]?=some y/\d=.tup [x,y]
 |[],ys,i,d,h=>by simp[Yi]at h
 |x::xs,[],i,d,h=>by simp[Yi]at h
 |x::xs,y::ys,0,d,h=>⟨x,y,rfl,rfl,by simpa [Yi]using h.symm⟩
 |x::xs,y::ys,i+1,d,h=>by obtain⟨a,b,e1,e2,e3⟩:=Il (xs:=xs) (ys:=ys) (i:=i) (d:=d) (by simpa [Yi]using h);exact⟨a,b,by simpa using e1,by simpa using e2,e3⟩
theorem Rc:∀ (xs ys:List D),(Yi xs ys).length=min xs.length ys.length
 |[],ys=>by simp[Yi]
 |x::xs,[]=>by simp[Yi]
 |x::xs,y::ys=>by show(Yi xs ys).length+1=min (xs.length+1) (ys.length+1);rw[Rc xs ys];lia
def spT (T:Z7):ZV:=fun ds S Q=>∃ ns:List Int,ds=[.rl (ns.map D.int)]/\(S=T/\∀ n∈ns,Hg n)/\ns.length<=63/\∀ S',Q (.bl true) S'
abbrev Qj:ZV:=spT []
def O8 {α β:Type}(f:α->β)(xs:List α)(lo hi:Option Int):cutD (xs.map f) lo hi=(cutD xs lo hi).map f:=by unfold cutD;rw[qa,List.map_take,List.map_drop]
def mj (xs:List α)(lo hi:Option Int):(cutD xs lo hi).length<=Xm xs.length xs.length hi-Xm xs.length 0 lo:=by unfold cutD;rw[Vj];lia
def mJ (f:Int->D):D->D
 |.int h=>f h
 |d=>d
def dz (f:Int->D)(hs:List Int):(hs.map D.int).map (mJ f)=hs.map f:=by rw[Xq];rfl
section
variable {nx:Z1->Z7->Prop}{rt:DK}{bk ct:Z1->Z7->Prop}{Z:Z1}{S:Z7}
def jo {f:Y6}{ex:XR}{t:DA}{Q:DK}(h:t Z S fun xs S1=>f xs S1 Q (ex Z)):zV f ex t Z S Q:=h
def lC {ex:XR}{c:Str}(h:ex Z c S):Uy ex c ⟨nx,rt,bk,ct⟩ Z S:=h
def zv6 {tbl:List (Str×Bool)}{t:DE}{Q:DK}(h:t Z S fun x S1=>∃ c b,x=.exn c/\tbl.lookup c=some b/\Q (.bl b) S1):TV tbl t Z S Q:=h
def zu6 {tbl:List (Str×Bool)}{c:Str}{b:Bool}{P:Bool->Prop}(e:tbl.lookup c=some b)(q:P b):∃ c' b',D.exn c=.exn c'/\tbl.lookup c'=some b'/\P b':=⟨c,b,rfl,e,q⟩
def lK {i:Nat}{ok:List Str}{b:XR->DS}{h:DS}(g:b (fun ρ' c S'=>ok.contains c=true/\h ⟨fun ρ2 S2=>nx (ρ2.set i none) S2,rt,fun _ _=>False,fun _ _=>False⟩ (ρ'.set i (some (.exn c))) S') ⟨nx,rt,bk,ct⟩ Z S):Jd i ok b h ⟨nx,rt,bk,ct⟩ Z S:=g
end
def zw4 {Q:DK}{b:Bool}(hx:Lst S x xs)(hy:Lst S y ys)(fx:xs.all (fl 20)=true)(fy:ys.all (fl 20)=true)(e:eqvAll xs ys=b)(q:Q (.bl b) S):oEq x y S Q:=⟨_,.inr (.inl ⟨xs,ys,hx,hy,fx,fy,rfl⟩),by rw[e];exact q⟩
def cG {Q:DK}{x y:Str}{b:Bool}(fx:fl 20 (.str x)=true)(fy:fl 20 (.str y)=true)(e:(x==y)=b)(q:Q (.bl b) S):oEq (.str x) (.str y) S Q:=⟨_,.inl ⟨fx,fy,rfl⟩,by show Q (.bl (x==y)) S;rw[e];exact q⟩
def zry {S:Z7}{Q:DK}{x y:Str}{b:Bool}(fx:fl 20 (.str x)=true)(fy:fl 20 (.str y)=true)(e:(x==y)=b)(q:Q (.bl (!b)) S):XS (.str x) (.str y) S Q:=⟨_,.inl ⟨fx,fy,rfl⟩,by show Q (.bl (!(x==y))) S;rw[e];exact q⟩
section
variable {nx:Z1->Z7->Prop}{rt:DK}{bk ct:Z1->Z7->Prop}{Z:Z1}{S:Z7}{Q:DK}{td ti tz tv:DE}
def fZ (h:Q (.ref S.length) (S++[.dk []])):Lk Z S Q:=h
def Ü (h:Q (.ref S.length) (S++[.dn [] 0])):Ny Z S Q:=h
def Ż {tk:DE}(h:tk Z (S++[.dt []]) fun x S1=>tv Z S1 fun y S2=>∃ ks,x=.tup (ks.map kD)/\S2[S.length]?=some (.dt [])/\Q (.ref S.length) (S2.set S.length (.dt [(ks,y)]))):Lj tk tv Z S Q:=h
def Ë {R:Tv->Z7->Prop}(h:td Z S fun x S1=>∃ n Z8 e,x=.ref n/\S1[n]?=some (.dn Z8 e)/\R ⟨Z8.map fun kv=>.tup [.tup (kv.1.map kN),kv.2],fun S=>S[n]?=some (.dn Z8 e)⟩ S1):J6 td Z S R:=h
def aR (h:td Z S fun x S1=>ti Z S1 fun y S2=>∃ d,Zr S2 x y (some d)/\Q d S2):Vt td ti Z S Q:=h
def zwL (h:ti Z S fun y S1=>td Z S1 fun x S2=>∃ o,Zr S2 x y o/\Q (.bl o.isSome) S2):Oz ti td Z S Q:=h
def ϫ (h:ti Z S fun y S1=>td Z S1 fun x S2=>∃ o,Zr S2 x y o/\Q (.bl (!o.isSome)) S2):SJ ti td Z S Q:=h
def zrP (h:td Z S fun x S1=>Fb S1 x/\ti Z S1 fun y S2=>tz Z S2 fun z S3=>∃ o,Zr S3 x y o/\Q (o.getD z) S3):M6 td ti tz Z S Q:=h
def zvl (h:tv Z S fun v S1=>td Z S1 fun x S2=>ti Z S2 fun y S3=>Tc S3 x y v (nx Z)):LR td ti tv ⟨nx,rt,bk,ct⟩ Z S:=h
def Zr.k {n:Nat}{Z8:List (Str×D)}{z:Str}{o:Option D}(h:S[n]?=some (.dk Z8))(e:dval Z8 z=o):Zr S (.ref n) (.str z) o:=.inl ⟨n,Z8,z,rfl,rfl,h,e.symm⟩
def Zr.t {n:Nat}{Z8:List (List (Sum Int Str)×D)}{ks:List (Sum Int Str)}{o:Option D}(h:S[n]?=some (.dt Z8))(e:dval Z8 ks=o):Zr S (.ref n) (.tup (ks.map kD)) o:=.inr (.inl ⟨n,Z8,ks,rfl,rfl,h,e.symm⟩)
theorem Zr.n {n:Nat}{Z8:List (List (List (Sum Int Str))×D)}{ks:List (List (Sum Int Str))}{o:Option D}{ep:Nat}(h:S[n]?=some (.dn Z8 ep))(e:dval Z8 ks=o):Zr S (.ref n) (.tup (ks.map kN)) o:=.inr (.inr ⟨n,Z8,ep,ks,rfl,rfl,h,e.symm⟩)
def Tc.k {n:Nat}{Z8:List (Str×D)}{z:Str}{v:D}(h:S[n]?=some (.dk Z8))(hl:Z8.length<big)(q:Put P S n (.dk (dput Z8 z v))):Tc S (.ref n) (.str z) v P:=.inl ⟨n,Z8,z,rfl,rfl,h,hl,q⟩
def Tc.t {n:Nat}{Z8:List (List (Sum Int Str)×D)}{ks:List (Sum Int Str)}{v:D}(h:S[n]?=some (.dt Z8))(hl:Z8.length<big)(q:Put P S n (.dt (dput Z8 ks v))):Tc S (.ref n) (.tup (ks.map kD)) v P:=.inr ⟨n,Z8,ks,rfl,rfl,h,hl,q⟩
theorem Ou.n {n:Nat}{Z8:List (List (List (Sum Int Str))×D)}{ks:List (List (Sum Int Str))}{v:D}{P:Z7->Prop}{e:Nat}(h:S[n]?=some (.dn Z8 e))(hl:Z8.length<big)(q:∀ e',Put P S n (.dn (dput Z8 ks v) e')):Ou S (.ref n) (.tup (ks.map kN)) v P:=⟨n,Z8,e,ks,rfl,rfl,h,hl,q⟩
def jV (h:tv Z S fun v S1=>td Z S1 fun x S2=>ti Z S2 fun y S3=>Ou S3 x y v (nx Z)):SN td ti tv ⟨nx,rt,bk,ct⟩ Z S:=h
end
section
variable {κ:Type}[DecidableEq κ]
def uX {k:κ}:dval ([]:List (κ×D)) k=none:=rfl
def Wc {p:κ×D}{Z8:List (κ×D)}{k:κ}:dval (p::Z8) k=if p.1=k then some p.2 else dval Z8 k:=by
 unfold dval;rw[List.find?_cons];by_cases h:p.1=k
 ·rw[if_pos h,decide_eq_true h];rfl
 ·rw[if_neg h,decide_eq_false h]
def Rg (Z8:List (κ×D))(k:κ):(Z8.any fun kv=>decide (kv.1=k))=(dval Z8 k).isSome:=by
 induction Z8 with
 |nil=>rfl
 |cons p Z8 ih =>
  rw[KC,Wc,ih];by_cases h:p.1=k
  ·rw[if_pos h,decide_eq_true h];rfl
  ·rw[if_neg h,decide_eq_false h];rfl
def G3 (Z8:List (κ×D))(k j:κ)(v:D):dval (Z8++[(k,v)]) j=(dval Z8 j).or (if k=j then some v else none):=by
 induction Z8 with
 |nil=>rw[List.nil_append,Wc,uX];simp
 |cons p Z8 ih =>
  rw[Kw,Wc,Wc,ih];by_cases h:p.1=j
  ·rw[if_pos h,if_pos h];rfl
  ·rw[if_neg h,if_neg h]
def μ (Z8:List (κ×D))(k j:κ)(v:D):dval (dput Z8 k v) j=if k=j then some v else dval Z8 j:=by
  unfold dput;rw[Rg];cases e:dval Z8 k with
  |none =>
    rw[show(none:Option D).isSome=false from rfl,if_neg qu,G3];by_cases h:k=j
    . subst h;rw[e,if_pos rfl];rfl
    . rw[if_neg h,if_neg h];cases dval Z8 j<;>rfl
  |some w =>
    rw[show(some w).isSome=true from rfl,if_pos rfl]
    have:∀ Z8:List (κ×D),dval (Z8.map fun kv=>if kv.1=k then(kv.1,v)else kv) j=if k=j then(dval Z8 j).map fun _=>v else dval Z8 j:=fun Z8=>by
      induction Z8 with
      |nil=>simp[uX]
      |cons p Z8 ih =>
        rw[qQ,Wc,Wc,ih];by_cases hp:p.1=k
        . rw[if_pos hp];by_cases h:k=j
          . rw[if_pos h,if_pos (hp.trans h),if_pos (hp.trans h)];simp[h]
          . have:¬ p.1=j:=fun z=>h (hp.symm.trans z)
            rw[if_neg this,if_neg this,if_neg h]
        . rw[if_neg hp];by_cases h:k=j
          . have:¬ p.1=j:=fun z=>hp (z.trans h.symm)
            rw[if_neg this,if_neg this]
          . rw[if_neg h,if_neg h]
    rw[this];by_cases h:k=j
    . subst h;rw[if_pos rfl,if_pos rfl,e];rfl
    . rw[if_neg h,if_neg h]
def zmN (Z8:List (κ×D))(k:κ)(v:D):(dput Z8 k v).map (·.1)=if(dval Z8 k).isSome=true then Z8.map (·.1)else Z8.map (·.1)++[k]:=by
  unfold dput;rw[Rg];split
  . rw[Xq];refine List.map_congr_left fun p _=>?_
    show(if p.1=k then(p.1,v)else p).1=p.1;split<;>rfl
  . rw[qD];rfl
end
def Jf (c:List Str)(z:Str):(Us c z).length=if c.any (·==z)then c.length else c.length+1:=by unfold Us;split<;>simp
def xP (c:List Str)(z y:Str):(Us c z).any (·==y)=(c.any (·==y)||decide (y=z)):=by
  unfold Us;by_cases h:c.any (·==z)=true
  . rw[if_pos h];by_cases e:y=z
    . subst e;rw[h];rfl
    . rw[decide_eq_false e,Bool.or_false]
  . rw[if_neg h,List.any_append];congr 1;by_cases e:y=z
    . subst e;simp
    . rw[decide_eq_false e];have:(z==y)=false:=beq_eq_false_iff_ne.mpr fun q=>e q.symm
      simp[this]
theorem Js (f:Nat->Str):∀ i,(Yl f i).length<=i
  |0=>qh _
  |i+1=>by have:=Js f i;show(Us (Yl f i) (f i)).length<=i+1;rw[Jf];split<;>lia
theorem Du (f:Nat->Str)(y:Str):∀ i,((Yl f i).any (·==y)=true↔∃ j,j<i/\f j=y)
  |0=>⟨fun h=>(by simp[Yl]at h),fun⟨j,hj,_⟩=>(by lia)⟩
  |i+1=>by
    show((Us (Yl f i) (f i)).any (·==y)=true)↔_;rw[xP,Ql,Du f y i,decide_eq_true_eq];constructor
    . rintro(⟨j,hj,e⟩|e)
      . exact⟨j,by lia,e⟩
      . exact⟨i,by lia,e.symm⟩
    . rintro⟨j,hj,e⟩;rcases qV j i with h|h
      . exact .inl ⟨j,h,e⟩
      . have:j=i:=by lia
        subst this;exact .inr e.symm
theorem rT (f:Nat->Str):∀ i,(∀ a b,a<b->b<i->f a≠f b)->(Yl f i).length=i
 |0,_=>rfl
 |i+1,h=>by show(Us (Yl f i) (f i)).length=i+1;rw[Jf,rT f i fun a b x y=>h a b x (by lia)];rw[if_neg];intro z;obtain⟨j,hj,e⟩:=(Du f (f i) i).mp z;exact h j i hj (by lia) e
theorem sy (f:Nat->Str){a b:Nat}(hab:a<b)(e:f a=f b):∀ i,b<i->(Yl f i).length<i
  |0,h=>by lia
  |i+1,h=>by
    show(Us (Yl f i) (f i)).length<i+1;rw[Jf];rcases qV b i with g|g
    . have:=sy f hab e i g;split<;>lia
    . have eb:b=i:=by lia
      subst eb;rw[if_pos ((Du f (f b) b).mpr ⟨a,hab,e⟩)];have:=Js f b;lia
def wA {zs:List Str}(h:zs.Nodup):LC zs=zs.length:=rT _ _ fun a b hab hb=>by show zs.getD a Str.empty≠zs.getD b Str.empty;rw[qG,qG,qb hb,qb (show a<zs.length by lia)];exact Te.mp h a b (by lia) hb hab
def ų {zs:List Str}{a b:Nat}{z:Str}(hab:a<b)(ha:zs[a]?=some z)(hb:zs[b]?=some z):LC zs<zs.length :=
 sy _ hab (by show zs.getD a Str.empty=zs.getD b Str.empty;rw[qG,qG,ha,hb]) _ (by
  rcases qV b zs.length with g|g
  ·exact g
  ·rw[qA g]at hb;cases hb)
end Dp
namespace Rm
structure Pc where
 lo:Int
 hi:Int
 to:Int
 st:Int
instance:DecidableEq Pc:=fun p q=>if h:p.lo=q.lo/\p.hi=q.hi/\p.to=q.to/\p.st=q.st then isTrue (by cases p;cases q;obtain⟨h1,h2,h3,h4⟩:=h;cases h1;cases h2;cases h3;cases h4;rfl)else isFalse (fun e=>h (by subst e;exact⟨rfl,rfl,rfl,rfl⟩))
def Pc.led (p:Pc)(h:Int):Int:=p.to+p.st*(h-p.lo)
def Pc.fin (p:Pc):Int:=p.led p.hi
def FZ (p:Pc)(h:Int):Prop:=p.lo<=h/\h<=p.hi
instance (p:Pc) (h:Int):Decidable (FZ p h):=by unfold FZ;infer_instance
def at':List Pc->Int->Option Int
 |[],_=>none
 |p::r,h=>if FZ p h then some (p.led h)else at' r h
end Rm
namespace Dp
open PySem Rm
open PySem Rm My
def zn5 {xs:List D}{x:D}:Xz (xs++[x]).length (-1)=some xs.length:=by
 have hl:((xs++[x]).length:Int)=xs.length+1:=by simp
 unfold Xz;rw[if_neg (by lia),if_pos (by lia)];congr 1;lia
def ä {xs:List D}{x:D}:Zh (xs++[x]) (-1)=some x:=by unfold Zh;rw[zn5];simp
end Dp
namespace Rm
open My Dp
end Rm
namespace Dp
open PySem Rm My
def iQ (f:Int×Int->D):D->D
 |.tup [.int a,.int b]=>f (a,b)
 |d=>d
def ind (b:Bool):Int:=if b=true then 1 else 0
end Dp
namespace Rm
open My Dp
def Zd (L R B T x1 z1 x2 z2:Int):List Int :=[(x2-x1)*(B-z1)-(z2-z1)*(L-x1),(x2-x1)*(T-z1)-(z2-z1)*(L-x1),(x2-x1)*(B-z1)-(z2-z1)*(R-x1),(x2-x1)*(T-z1)-(z2-z1)*(R-x1)]
def Ww (L R B T x1 z1 x2 z2:Int):Prop :=L<=(max x1 x2)/\(min x1 x2)<=R/\B<=(max z1 z2)/\(min z1 z2)<=T/\(∃ a∈Zd L R B T x1 z1 x2 z2,0<=a)/\∃ a∈Zd L R B T x1 z1 x2 z2,a<=0
def QX (lo hi st sp e1 e2 x1 x2:Int):Prop :=
 (sp=0/\lo<=st/\st<=hi/\e1=0/\e2=1/\x1=1/\x2=1)\/(sp=0/\(st<lo\/hi<st)/\e1=1/\e2=1/\x1=0/\x2=1) \/
 (0<sp/\e1=lo-st/\e2=sp/\x1=hi-st/\x2=sp)\/(sp<0/\e1=st-hi/\e2=-sp/\x1=st-lo/\x2=-sp)
def Ju (ea1 ea2 xa1 xa2 eu1 eu2 xu1 xu2:Int):Prop:=∀ e∈[((0:Int),(1:Int)),(ea1,ea2),(eu1,eu2)],∀ x∈[((1:Int),(1:Int)),(xa1,xa2),(xu1,xu2)],e.1*x.2<=x.1*e.2
def Tf {u a b:Int}(h:0<=u)(h':a<=b):u*a<=u*b:=Int.mul_le_mul_of_nonneg_left h' h
def zos {p r P R:Int}{L x:Int}:(∃ a∈[P-L,R-L,P-x,R-x],p<=a)↔(p<=P-L\/p<=R-L\/p<=P-x\/p<=R-x):=by simp
def znq {p P R:Int}{L x:Int}:(∃ a∈[P-L,R-L,P-x,R-x],a<=p)↔(P-L<=p\/R-L<=p\/P-x<=p\/R-x<=p):=by simp
def į {ea1 ea2 xa1 xa2 eu1 eu2 xu1 xu2:Int}:Ju ea1 ea2 xa1 xa2 eu1 eu2 xu1 xu2 ↔
  (0<=xa1/\0<=xu1)/\(ea1<=ea2/\ea1*xa2<=xa1*ea2/\ea1*xu2<=xu1*ea2)/\(eu1<=eu2/\eu1*xa2<=xa1*eu2/\eu1*xu2<=xu1*eu2):=by
 unfold Ju;simp
def Jl (lo hi st sp e1 e2 x1 x2:Int):Prop :=(sp=0/\lo<=st/\st<=hi/\e1=0/\e2=1/\x1=1/\x2=1)\/(sp=0/\(st<lo\/hi<st)/\e1=1/\e2=1/\x1=0/\x2=1)\/(0<sp/\e1=lo-st/\e2=sp/\x1=hi-st/\x2=sp)
def xW {lo st s t:Int}(h:QX lo hi st (t-s) e1 e2 x1 x2):Jl lo hi st (t-s) e1 e2 x1 x2\/Jl (-hi) (-lo) (-st) (-t - -s) e1 e2 x1 x2:=by
 rcases h with h|h|h|⟨h,rfl,rfl,rfl,rfl⟩
 ·exact .inl (.inl h)
 ·exact .inl (.inr (.inl h))
 ·exact .inl (.inr (.inr h))
 ·exact .inr (.inr (.inr ⟨by lia,by lia,by lia,by lia,by lia⟩))
def mU {as bs:List Int}(h:∀ a,a∈bs↔-a∈as):((∃ a∈bs,0<=a)↔∃ a∈as,a<=0)/\((∃ a∈bs,a<=0)↔∃ a∈as,0<=a):=by
  have back:∀ a,a∈as->-a∈bs:=fun a ha=>(h (-a)).mpr (by rw[Vh];exact ha)
  refine⟨⟨?_,?_⟩,?_,?_⟩<;>rintro⟨a,ha,h0⟩
  . exact⟨-a,(h a).mp ha,by lia⟩
  . exact⟨-a,back a ha,by lia⟩
  . exact⟨-a,(h a).mp ha,by lia⟩
  . exact⟨-a,back a ha,by lia⟩
def cM {a p q r t:Int}:a∈[-p,-q,-r,-t]↔-a∈[r,t,p,q]:=by
 have e:∀ x,a=-x↔-a=x:=fun x=>⟨fun h=>by rw[h,Vh],fun h=>by rw[<- h,Vh]⟩
 simp only[ql,qK,or_false,e];exact⟨fun h=>h.elim (fun h=>.inr (.inr (.inl h))) (fun h=>h.elim (fun h=>.inr (.inr (.inr h))) (fun h=>h.elim .inl (fun h=>.inr (.inl h)))),fun h=>h.elim (fun h=>.inr (.inr (.inl h))) (fun h=>h.elim (fun h=>.inr (.inr (.inr h))) (fun h=>h.elim .inl (fun h=>.inr (.inl h))))⟩
def aY (a b c d e:Int):(-a - -b)*c-d*(-e - -b)=-((a-b)*c-d*(e-b)):=by rw[show -a - -b=-(a-b) by lia,show -e - -b=-(e-b) by lia,Int.neg_mul,Int.mul_neg];lia
def ε (a b c d e:Int):c*(-a - -b)-(-d - -b)*e=-(c*(a-b)-(d-b)*e):=by rw[show -a - -b=-(a-b) by lia,show -d - -b=-(d-b) by lia,Int.neg_mul,Int.mul_neg];lia
def Gg (a b:Int):max (-a) (-b)=-(min a b):=by
 rcases Int.le_total a b with h|h
 ·rw[Int.min_eq_left h,Int.max_eq_left (Int.neg_le_neg h)]
 ·rw[Int.min_eq_right h,Int.max_eq_right (Int.neg_le_neg h)]
def yN (a b:Int):min (-a) (-b)=-(max a b):=by rw[<- Vh (min (-a) (-b)),<- Gg,Vh,Vh]
def rZ {L R B T x1 z1 x2 z2:Int}:Ww (-R) (-L) B T (-x1) z1 (-x2) z2↔Ww L R B T x1 z1 x2 z2:=by
 have e:Zd (-R) (-L) B T (-x1) z1 (-x2) z2=[-((x2-x1)*(B-z1)-(z2-z1)*(R-x1)),-((x2-x1)*(T-z1)-(z2-z1)*(R-x1)),-((x2-x1)*(B-z1)-(z2-z1)*(L-x1)),-((x2-x1)*(T-z1)-(z2-z1)*(L-x1))]:=by unfold Zd;simp only[aY]
 have k:=mU (as:=Zd L R B T x1 z1 x2 z2) (bs:=Zd (-R) (-L) B T (-x1) z1 (-x2) z2) (fun a=>by rw[e];exact cM);unfold Ww;rw[k.1,k.2,Gg,yN];generalize max x1 x2=a1;generalize min x1 x2=a2;generalize (∃ a∈Zd L R B T x1 z1 x2 z2,0<=a)=P;generalize (∃ a∈Zd L R B T x1 z1 x2 z2,a<=0)=Q;constructor
 ·rintro⟨h1,h2,h3,h4,h5,h6⟩;exact⟨by lia,by lia,h3,h4,h6,h5⟩
 ·rintro⟨h1,h2,h3,h4,h5,h6⟩;exact⟨by lia,by lia,h3,h4,h6,h5⟩
def ό {a p q r t:Int}:a∈[-p,-q,-r,-t]↔-a∈[q,p,t,r]:=by
 have e:∀ x,a=-x↔-a=x:=fun x=>⟨fun h=>by rw[h,Vh],fun h=>by rw[<- h,Vh]⟩
 simp only[ql,qK,or_false,e];exact⟨fun h=>h.elim (fun h=>.inr (.inl h)) (fun h=>h.elim .inl (fun h=>h.elim (fun h=>.inr (.inr (.inr h))) (fun h=>.inr (.inr (.inl h))))),fun h=>h.elim (fun h=>.inr (.inl h)) (fun h=>h.elim .inl (fun h=>h.elim (fun h=>.inr (.inr (.inr h))) (fun h=>.inr (.inr (.inl h)))))⟩
def Ad {L R B T x1 z1 x2 z2:Int}:Ww L R (-T) (-B) x1 (-z1) x2 (-z2)↔Ww L R B T x1 z1 x2 z2:=by
 have e:Zd L R (-T) (-B) x1 (-z1) x2 (-z2)=[-((x2-x1)*(T-z1)-(z2-z1)*(L-x1)),-((x2-x1)*(B-z1)-(z2-z1)*(L-x1)),-((x2-x1)*(T-z1)-(z2-z1)*(R-x1)),-((x2-x1)*(B-z1)-(z2-z1)*(R-x1))]:=by unfold Zd;simp only[ε]
 have k:=mU (as:=Zd L R B T x1 z1 x2 z2) (bs:=Zd L R (-T) (-B) x1 (-z1) x2 (-z2)) (fun a=>by rw[e];exact ό);unfold Ww;rw[k.1,k.2,Gg,yN];generalize max z1 z2=a1;generalize min z1 z2=a2;generalize (∃ a∈Zd L R B T x1 z1 x2 z2,0<=a)=P;generalize (∃ a∈Zd L R B T x1 z1 x2 z2,a<=0)=Q;constructor
 ·rintro⟨h1,h2,h3,h4,h5,h6⟩;exact⟨h1,h2,by lia,by lia,h6,h5⟩
 ·rintro⟨h1,h2,h3,h4,h5,h6⟩;exact⟨h1,h2,by lia,by lia,h6,h5⟩
def cL {P Q p q:Int}(h:P<=Q)(g:p<=q):(0<=P-p\/0<=Q-p\/0<=P-q\/0<=Q-q)↔p<=Q:=⟨fun k=>by rcases k with k|k|k|k<;>lia,fun k=>.inr (.inl (by lia))⟩
def zre {P Q p q:Int}(h:P<=Q)(g:p<=q):(P-p<=0\/Q-p<=0\/P-q<=0\/Q-q<=0)↔P<=q:=⟨fun k=>by rcases k with k|k|k|k<;>lia,fun k=>.inr (.inr (.inl (by lia)))⟩
def Kg {L R B T:Int}(hx:L<=R)(hz:B<=T)(pa:Jl L R x1 (x2-x1) ea1 ea2 xa1 xa2)(pu:Jl B T z1 (z2-z1) eu1 eu2 xu1 xu2) :
    Ju ea1 ea2 xa1 xa2 eu1 eu2 xu1 xu2↔Ww L R B T x1 z1 x2 z2:=by
  have u0:0<=x2-x1:=by rcases pa with h|h|h<;>lia
  have v0:0<=z2-z1:=by rcases pu with h|h|h<;>lia
  rw[į];unfold Ww Zd;rw[zos (r:=0),znq,show max x1 x2=x1+(x2-x1) by lia,show min x1 x2=x1 by lia,show max z1 z2=z1+(z2-z1) by lia,show min z1 z2=z1 by lia];generalize x2-x1=u at *;generalize z2-z1=v at *;have k1:=Tf u0 (show B-z1<=T-z1 by lia);have k2:=Tf v0 (show L-x1<=R-x1 by lia);rw[cL k1 k2,zre k1 k2];have c1:∀ s t:Int,(s-x1)*t=t*(s-x1):=fun s t=>Wf _ _
  have c3:∀ s t:Int,(s-z1)*t=t*(s-z1):=fun s t=>Wf _ _
  have k5:B<=z1->u*(B-z1)<=0:=fun h=>by have:=Tf u0 (show B-z1<=0 by lia);rwa[RG]at this
  have k6:z1<=T->0<=u*(T-z1):=fun h=>by have:=Tf u0 (show 0<=T-z1 by lia);rwa[RG]at this
  have k8:=Tf v0 (show B-z1<=T-z1 by lia);rcases pa with⟨hu,h1,h2,rfl,rfl,rfl,rfl⟩|⟨hu,h1,rfl,rfl,rfl,rfl⟩|⟨hu,rfl,rfl,rfl,rfl⟩
  . clear k5 k6;subst hu;have k3:=Tf v0 (show L-x1<=0 by lia);have k4:=Tf v0 (show 0<=R-x1 by lia);rcases pu with⟨hv,g1,g2,rfl,rfl,rfl,rfl⟩|⟨hv,g1,rfl,rfl,rfl,rfl⟩|⟨hv,rfl,rfl,rfl,rfl⟩ <;>
    simp only[c3,Int.zero_mul,RG,Int.one_mul,T9]at *<;>lia
  . simp only[Int.one_mul,T9];lia
  . have k7:=Tf u0 (show L-x1<=R-x1 by lia);rcases pu with⟨hv,g1,g2,rfl,rfl,rfl,rfl⟩|⟨hv,g1,rfl,rfl,rfl,rfl⟩|⟨hv,rfl,rfl,rfl,rfl⟩
    . subst hv;have k5:=k5 g1;have k6:=k6 g2;simp only[c1,c3,Int.zero_mul,RG,Int.one_mul,T9]at *;lia
    . simp only[Int.one_mul,T9];lia
    . simp only[c1,c3];exact⟨by rintro⟨⟨a,b⟩,⟨c,_,d⟩,e,f,_⟩;exact⟨by lia,by lia,by lia,by lia,d,f⟩,by rintro⟨a,b,c,d,e,f⟩;exact⟨⟨by lia,by lia⟩,⟨by lia,k7,e⟩,by lia,f,k8⟩⟩
def é {L R B T:Int}(hx:L<=R)(hz:B<=T)(pa:QX L R x1 (x2-x1) ea1 ea2 xa1 xa2)(pu:QX B T z1 (z2-z1) eu1 eu2 xu1 xu2) :
    Ju ea1 ea2 xa1 xa2 eu1 eu2 xu1 xu2↔Ww L R B T x1 z1 x2 z2:=by
  rcases xW pa with pa|pa<;>rcases xW pu with pu|pu
  . exact Kg hx hz pa pu
  . rw[<- Ad];exact Kg hx (by lia) pa pu
  . rw[<- rZ];exact Kg (by lia) hz pa pu
  . rw[<- rZ,<- Ad];exact Kg (by lia) (by lia) pa pu
def zoM {L R B T x1 z1 x2 z2 mx mn m:Int}(m1:mx∈Zd L R B T x1 z1 x2 z2)(m2:∀ a∈Zd L R B T x1 z1 x2 z2,a<=mx)(n1:mn∈Zd L R B T x1 z1 x2 z2)(n2:∀ a∈Zd L R B T x1 z1 x2 z2,mn<=a)
  (h1:m∈[(max x1 x2)-L,R-(min x1 x2),(max z1 z2)-B,T-(min z1 z2),mx,-mn])
  (h2:∀ a∈[(max x1 x2)-L,R-(min x1 x2),(max z1 z2)-B,T-(min z1 z2),mx,-mn],m<=a):0<=m↔Ww L R B T x1 z1 x2 z2:=by
 unfold Ww;have e1:(∃ a∈Zd L R B T x1 z1 x2 z2,0<=a)↔0<=mx:=⟨by rintro⟨a,ha,h⟩;exact Int.le_trans h (m2 a ha),fun h=>⟨mx,m1,h⟩⟩
 have e2:(∃ a∈Zd L R B T x1 z1 x2 z2,a<=0)↔mn<=0:=⟨by rintro⟨a,ha,h⟩;exact Int.le_trans (n2 a ha) h,fun h=>⟨mn,n1,h⟩⟩
 rw[e1,e2];generalize (max x1 x2)=q1 at *;generalize (min x1 x2)=q2 at *;generalize (max z1 z2)=q3 at *;generalize (min z1 z2)=q4 at *;have g1:=h2 (q1-L) (by simp);have g2:=h2 (R-q2) (by simp);have g3:=h2 (q3-B) (by simp);have g4:=h2 (T-q4) (by simp);have g5:=h2 mx (by simp);have g6:=h2 (-mn) (by simp);simp only[ql,qK,or_false]at h1;lia
def six (L R B T x1 z1 x2 z2 mx mn:Int):List Int:=[(max x1 x2)-L,R-(min x1 x2),(max z1 z2)-B,T-(min z1 z2),mx,-mn]
def QH (L R B T x1 z1 x2 z2:Int):Prop:=∃ p q:Int,0<q/\0<=p/\p<=q/\L*q<=x1*q+p*(x2-x1)/\x1*q+p*(x2-x1)<=R*q/\B*q<=z1*q+p*(z2-z1)/\z1*q+p*(z2-z1)<=T*q
def mulL {k a b:Int}(h:0<=k)(g:a<=b):k*a<=k*b:=Int.mul_le_mul_of_nonneg_left g h
def Bu {k a b:Int}(h:0<k)(g:k*a<=k*b):a<=b:=Int.le_of_mul_le_mul_left g h
def vB {a b c d e f:Int}(hb:0<=b)(hf:0<=f)(hd:0<d)(h1:a*d<=c*b)(h2:c*f<=e*d):a*f<=e*b:=by
 refine Bu hd ?_;have k1:=mulL hf h1;have k2:=mulL hb h2;have e1:d*(a*f)=f*(a*d):=by grind
 have e2:f*(c*b)=b*(c*f):=by grind
 have e3:b*(e*d)=d*(e*b):=by grind
 lia
theorem fmax:∀ {l:List (Int×Int)},l≠[]->(∀ e∈l,0<e.2)->∃ e∈l,∀ f∈l,f.1*e.2<=e.1*f.2
 |[],h,_=>absurd rfl h
 |[x],_,_=>⟨x,by simp,fun f hf=>by simp at hf;subst hf;exact Vs _⟩
 |x::y::l,_,h=>by
  obtain⟨m,hm,g⟩:=fmax (l:=y::l) (by simp) fun e he=>h e (by simp[he])
  have hx:=h x (by simp);have hm2:=h m (by simp[hm]);rcases Int.le_total (x.1*m.2) (m.1*x.2)with c|c
  ·refine⟨m,by simp[hm],fun f hf=>?_⟩;rcases ql.mp hf with rfl|hf
   ·exact c
   ·exact g f hf
  ·refine⟨x,by simp,fun f hf=>?_⟩;rcases ql.mp hf with rfl|hf
   ·exact Vs _
   ·exact vB (Rv (h f (by simp[hf]))) (Rv hx) hm2 (g f hf) c
def wR (lo hi st sp:Int):∃ e1 e2 x1 x2,QX lo hi st sp e1 e2 x1 x2/\0<e2/\0<x2:=by
 unfold QX;rcases Int.lt_trichotomy sp 0 with h|h|h
 ·exact⟨st-hi,-sp,st-lo,-sp,.inr (.inr (.inr ⟨h,rfl,rfl,rfl,rfl⟩)),by lia,by lia⟩
 ·by_cases g:lo<=st/\st<=hi
  ·exact⟨0,1,1,1,.inl ⟨h,g.1,g.2,rfl,rfl,rfl,rfl⟩,by lia,by lia⟩
  ·exact⟨1,1,0,1,.inr (.inl ⟨h,by lia,rfl,rfl,rfl,rfl⟩),by lia,by lia⟩
 ·exact⟨lo-st,sp,hi-st,sp,.inr (.inr (.inl ⟨h,rfl,rfl,rfl,rfl⟩)),h,h⟩
def rB {lo st sp p q:Int}(P:QX lo hi st sp e1 e2 x1 x2)(hq:0<q)(h0:0<=p)(h1:p<=q)(h2:e1*q<=p*e2)(h3:p*x2<=x1*q):lo*q<=st*q+p*sp/\st*q+p*sp<=hi*q:=by
 rcases P with⟨hu,g1,g2,rfl,rfl,rfl,rfl⟩|⟨hu,g1,rfl,rfl,rfl,rfl⟩|⟨hu,rfl,rfl,rfl,rfl⟩|⟨hu,rfl,rfl,rfl,rfl⟩
 ·subst hu;have k1:=mulL (Rv hq) g1;have k2:=mulL (Rv hq) g2;rw[Wf q,Wf q]at k1 k2;rw[RG];lia
 ·lia
 ·rw[Ow]at h2 h3;lia
 ·rw[Ow,Int.mul_neg]at h2 h3;lia
def uM {lo st sp p q:Int}(P:QX lo hi st sp e1 e2 x1 x2)(hq:0<q)(h0:0<=p)(h1:p<=q)(h2:lo*q<=st*q+p*sp)(h3:st*q+p*sp<=hi*q):e1*q<=p*e2/\p*x2<=x1*q:=by
 rcases P with⟨hu,g1,g2,rfl,rfl,rfl,rfl⟩|⟨hu,g1,rfl,rfl,rfl,rfl⟩|⟨hu,rfl,rfl,rfl,rfl⟩|⟨hu,rfl,rfl,rfl,rfl⟩
 ·lia
 ·subst hu;rw[RG,Int.add_zero,Wf lo,Wf st]at h2;rw[RG,Int.add_zero,Wf hi,Wf st]at h3;have k1:=Bu hq h2;have k2:=Bu hq h3;lia
 ·rw[Ow,Ow];lia
 ·rw[Ow,Ow,Int.mul_neg];lia
def ľ {L R B T x1 z1 x2 z2:Int}(hx:L<=R)(hz:B<=T):Ww L R B T x1 z1 x2 z2↔QH L R B T x1 z1 x2 z2:=by
  obtain⟨a1,a2,a3,a4,pa,ha2,ha4⟩:=wR L R x1 (x2-x1);obtain⟨u1,u2,u3,u4,pu,hu2,hu4⟩:=wR B T z1 (z2-z1);rw[<- é hx hz pa pu];constructor
  . intro h
    obtain⟨⟨p,q⟩,he,mx⟩:=fmax (l:=[((0:Int),(1:Int)),(a1,a2),(u1,u2)]) (by simp) (by
      intro e he;simp only[ql,qK,or_false]at he;rcases he with rfl|rfl|rfl
      . exact Int.one_pos
      . exact ha2
      . exact hu2)
    have hq:0<q:=by simp only[ql,qK,or_false,Prod.mk.injEq]at he;rcases he with he|he|he<;>lia
    have m0:=mx (0,1) (by simp);have m1:=mx (a1,a2) (by simp);have m2:=mx (u1,u2) (by simp);have n0:=h _ he (1,1) (by simp);have n1:=h _ he (a3,a4) (by simp);have n2:=h _ he (u3,u4) (by simp);dsimp only at m0 m1 m2 n0 n1 n2;have h0:0<=p:=by lia
    have h1:p<=q:=by lia
    obtain⟨k1,k2⟩:=rB pa hq h0 h1 m1 n1;obtain⟨k3,k4⟩:=rB pu hq h0 h1 m2 n2;exact⟨p,q,hq,h0,h1,k1,k2,k3,k4⟩
  . rintro⟨p,q,hq,h0,h1,k1,k2,k3,k4⟩;obtain⟨g1,g2⟩:=uM pa hq h0 h1 k1 k2;obtain⟨g3,g4⟩:=uM pu hq h0 h1 k3 k4;intro e he x hx
    have ee:0<e.2/\e.1*q<=p*e.2:=by
      simp only[ql,qK,or_false]at he;rcases he with rfl|rfl|rfl
      . exact⟨Int.one_pos,by lia⟩
      . exact⟨ha2,g1⟩
      . exact⟨hu2,g3⟩
    have xx:0<x.2/\p*x.2<=x.1*q:=by
      simp only[ql,qK,or_false]at hx;rcases hx with rfl|rfl|rfl
      . exact⟨Int.one_pos,by lia⟩
      . exact⟨ha4,g2⟩
      . exact⟨hu4,g4⟩
    exact vB (Rv ee.1) (Rv xx.1) hq ee.2 xx.2
end Rm
namespace Dp
open PySem Rm My
structure Fg where
 x0:Int
 x1:Int
 z0:Int
 z1:Int
 f:Int
 l:Int
 g:Int
 s:Int
abbrev Xo (F:Fg):D:=.tup [.int F.x0,.int F.x1,.int F.z0,.int F.z1,.int F.f,.int F.l,.int F.g,.int F.s]
structure ć (F:Fg):Prop where
 x:F.x0<=F.x1
 z:F.z0<=F.z1
 b0:Bd 600 F.x0
 b1:Bd 600 F.x1
 b2:Bd 600 F.z0
 b3:Bd 600 F.z1
 bg:Bd 200 F.g
 bs:Bd 200 F.s
def Vm (F:Fg)(px pz qx qz h:Int):Prop:=F.f<=h/\h<=F.l/\QH (F.x0+F.g*(h-F.f)) (F.x1+F.g*(h-F.f)) (F.z0+F.s*(h-F.f)) (F.z1+F.s*(h-F.f)) px pz qx qz
def sU {fs:List Fg}{i:Nat}{d:D}(h:(fs.map Xo)[i]?=some d):∃ F,fs[i]?=some F/\d=Xo F:=by
 rw[qk]at h;cases e:fs[i]? with
 |none=>rw[e]at h;cases h
 |some p=>rw[e]at h;cases h;exact⟨p,rfl,rfl⟩
def oX {a b:Int}(h0:0<=a)(h:a<=b):a.natAbs<=b.natAbs:=by refine Int.ofNat_le.mp ?_;rw[JH h0,JH (Int.le_trans h0 h)];exact h
def Bd.btw {n:Nat}{x:Int}(ha:Bd n a)(hb:Bd n b)(h1:a<=x)(h2:x<=b):Bd n x:=by
 rcases Int.le_total 0 x with h|h
 ·exact hb.of_le (oX h h2)
 ·refine ha.of_le ?_;rw[<- M9 x,<- M9 a];exact oX (Int.neg_nonneg_of_nonpos h) (Int.neg_le_neg h1)
def flt (a b:Int×Int):Bool:=decide (a.1*b.2<b.1*a.2)
abbrev St2:=(Int×Int)×(Int×Int)
def rk (R:Int×Int->Int)(s:St2):Int×Int:=(R s.1,R s.2)
def Ip {cs:List (Int×Int)}{k:Int}(h0:0<=k)(h:k<cs.length):∃ c,cs[k.toNat]?=some c/\Zh (cs.map p2) k=some (p2 c):=by
 have hk:k.toNat<cs.length:=by lia
 refine⟨cs[k.toNat],qb hk,?_⟩;have:=RQ (ds:=cs.map p2) (i:=k.toNat) (d:=p2 (cs[k.toNat])) (by rw[qk,qb hk];rfl);rwa[show((k.toNat:Nat):Int)=k by lia]at this
def lenV (ms:List (Int×Int)):Int:=(ms.map fun m=>m.2-m.1).sum
def Sv (c:Int×Int)(t b:Int):Prop:=0<c.2/\c.1*b=t*c.2
def PX (a b p:Int×Int):Int:=if 0<b.1-a.1 then a.2*(b.1-a.1)*p.2+(b.2-a.2)*(p.1-a.1*p.2)else -(a.2*(b.1-a.1)*p.2+(b.2-a.2)*(p.1-a.1*p.2))
def Ui (a b p:Int×Int):Int:=if 0<b.1-a.1 then(b.1-a.1)*p.2 else -((b.1-a.1)*p.2)
def Ϣ {a b p:Int×Int}(h:b.1≠a.1)(hp:0<p.2):0<Ui a b p:=by
 unfold Ui;split
 ·exact Pg (by lia) hp
 ·have:=Pg (show 0 < -(b.1-a.1) by lia) hp;rw[Int.neg_mul]at this;exact this
def dW {t b e:Int}(hb:0<b)(he:0<e)(hc:Sv c t b)(hd:Sv d u e):flt c d=decide (t*e<u*b):=by
 obtain⟨c0,c1⟩:=hc;obtain⟨d0,d1⟩:=hd;unfold flt;refine decide_eq_decide.mpr ?_;have hbe:0<b*e:=Pg hb he;have hcd:0<c.2*d.2:=Pg c0 d0;rw[<- Int.mul_lt_mul_right hbe,<- Int.mul_lt_mul_right (b:=t*e) (c:=u*b) hcd]
 have e1:c.1*d.2*(b*e)=t*e*(c.2*d.2):=by
  have:c.1*d.2*(b*e)=c.1*b*(d.2*e):=by grind
  rw[this,c1];grind
 have e2:d.1*c.2*(b*e)=u*b*(c.2*d.2):=by
  have:d.1*c.2*(b*e)=d.1*e*(c.2*b):=by grind
  rw[this,d1];grind
 rw[e1,e2]
structure WR (cs:List (Int×Int)):Prop where
 two:2<=cs.length
 most:cs.length<=40
 asc:cs.Pairwise fun a b=>a.1<b.1
 bd:∀ c∈cs,Bd 170 c.1/\Bd 190 c.2
def Pq (cs:List (Int×Int)):Int:=(cs.getD 0 (0,0)).1
def Q8 (cs:List (Int×Int)):Int:=(cs.getD (cs.length-1) (0,0)).1
def O2 (cs:List (Int×Int))(p:Int×Int):Prop:=Pq cs*p.2<=p.1/\p.1<=Q8 cs*p.2
def R3:List (Int×Int)->Int×Int->Option ((Int×Int)×(Int×Int))
 |a::b::r,p=>if p.1<=b.1*p.2 then some (a,b)else R3 (b::r) p
 |_,_=>none
theorem seg_at:∀ {cs:List (Int×Int)} {p:Int×Int} {k:Nat} {a b:Int×Int},cs[k]?=some a->cs[k+1]?=some b->p.1<=b.1*p.2->(∀ j c,1<=j->j<=k->cs[j]?=some c->c.1*p.2<p.1)->R3 cs p=some (a,b)
 |[],p,k,a,b,h,_,_,_=>by simp at h
 |[x],p,0,a,b,_,h,_,_=>by simp at h
 |[x],p,k+1,a,b,h,_,_,_=>by simp at h
 |x::y::r,p,0,a,b,h1,h2,h3,_=>by simp at h1 h2;subst h1 h2;unfold R3;rw[if_pos h3]
 |x::y::r,p,k+1,a,b,h1,h2,h3,h4=>by have:=h4 1 y (by lia) (by lia) rfl;unfold R3;rw[if_neg (by lia)];exact seg_at (by simpa using h1) (by simpa using h2) h3 fun j c j1 j2 hc=>h4 (j+1) c (by lia) (by lia) (by simpa using hc)
theorem yR:∀ {cs:List (Int×Int)} {p:Int×Int},2<=cs.length->p.1<=Q8 cs*p.2->∃ k a b,cs[k]?=some a/\cs[k+1]?=some b/\p.1<=b.1*p.2/\∀ j c,1<=j->j<=k->cs[j]?=some c->c.1*p.2<p.1
 |[],p,h,_=>by simp at h
 |[x],p,h,_=>by simp at h
 |[x,y],p,_,h=>⟨0,x,y,rfl,rfl,h,fun j c j1 j2=>by lia⟩
 |x::y::z::r,p,_,h=>by
  by_cases g:p.1<=y.1*p.2
  ·exact⟨0,x,y,rfl,rfl,g,fun j c j1 j2=>by lia⟩
  ·obtain⟨k,a,b,h1,h2,h3,h4⟩:=yR (cs:=y::z::r) (p:=p) (by simp) h;refine⟨k+1,a,b,by simpa using h1,by simpa using h2,h3,fun j c j1 j2 hc=>?_⟩;cases j with
   |zero=>lia
   |succ j =>
    cases j with
    |zero=>simp at hc;subst hc;lia
    |succ j=>exact h4 (j+1) c (by lia) (by lia) (by simpa using hc)
def wY (g:WR cs){i j:Nat}{a b:Int×Int}(hij:i<j)(ha:cs[i]?=some a)(hb:cs[j]?=some b):a.1<b.1:=by have h1:=zL ha;have h2:=zL hb;rw[qb h1]at ha;rw[qb h2]at hb;cases ha;cases hb;exact Te.mp g.asc i j h1 h2 hij
def dH (g:WR cs):∃ a,cs[0]?=some a/\Pq cs=a.1:=by
 have:=g.two;obtain⟨a,h⟩:∃ a,cs[0]?=some a:=⟨cs[0],qb (by lia)⟩
 exact⟨a,h,by unfold Pq;rw[qG,h];rfl⟩
def Ι (g:WR cs):∃ a,cs[cs.length-1]?=some a/\Q8 cs=a.1:=by
 have:=g.two;obtain⟨a,h⟩:∃ a,cs[cs.length-1]?=some a:=⟨cs[cs.length-1],qb (by lia)⟩
 exact⟨a,h,by unfold Q8;rw[qG,h];rfl⟩
def WQ (S:Z7)(g:D)(cs:List (Int×Int)):Prop:=∃ n l,g=.ref n/\S[n]?=some (.ins "Ground" [("corners",.ref l)])/\S[l]?=some (.lst (cs.map p2))
def WQ.old {T:Z7}(h:WQ S g cs):WQ (S++T) g cs:=by obtain⟨n,l,e,h1,h2⟩:=h;exact⟨n,l,e,zF h1,zF h2⟩
def zv5 {S:Z7}{P:D->Prop}{n l:Nat}(h:S[n]?=some (.ins "Ground" [("corners",.ref l)]))(q:P (.ref l)):∃ m c fs d,D.ref n=.ref m/\S[m]?=some (.ins c fs)/\fs.lookup ("corners":Str)=some d/\P d:=⟨n,_,_,_,rfl,h,by simp[qq],q⟩
def XJ (a b c:Int×Int):Int:=(c.2-a.2)*(b.1-a.1)-(c.1-a.1)*(b.2-a.2)
def Px (a b c:Int×Int):Int:=if 0<(if b.1-a.1<0 then -XJ a b c else XJ a b c)then 1 else if(if b.1-a.1<0 then -XJ a b c else XJ a b c)<0 then -1 else 0
def Std (cs:List (Int×Int))(s:Int×Int):Prop:=Bd 180 s.1/\Bd 200 s.2/\O2 cs (s.1,1)/\∀ a b,R3 cs (s.1,1)=some (a,b)->PX a b (s.1,1)<=s.2*Ui a b (s.1,1)
def Oe {own:Nat}{fv:List Nat}{xs:List D}{ok:Z7->Prop}{g:DG}{tc:DT}{te:DE}{Z:Z1}{S:Z7}{Q:DK}(W:Nat->List D->Z7->Prop)(h0:W 0 [] S)(hok:∀ i ys S,W i ys S->ok S)(hbig:xs.length<=big)
  (step:∀ i d ys S,xs[i]?=some d->W i ys S->pU (W (i+1)) fun N=>g d (RM own fv Z) S fun ρ2 S2=>tc ρ2 S2 fun b S3=>if b=true then te ρ2 S3 fun y S4=>N (ys++[y]) S4 else N ys S3)
  (fin:∀ ys S,W xs.length ys S->New Q S ys):Cq own fv g tc te Z Q ⟨xs,ok⟩ S:=⟨hbig,W,h0,hok,fun i d ys S e w=>step i d ys S e w (W (i+1)) fun _ _ h=>h,fin⟩
def ő {a b d:Int×Int}(h:a.1≠b.1):Px a b d=Px b a d:=by
 have e:(if b.1-a.1<0 then -XJ a b d else XJ a b d)=(if a.1-b.1<0 then -XJ b a d else XJ b a d):=by
  by_cases z:b.1-a.1<0
  ·rw[if_pos z,if_neg (by lia)];unfold XJ;grind
  ·rw[if_neg z,if_pos (by lia)];unfold XJ;grind
 unfold Px;rw[e]
def W4 (cs:List (Int×Int))(s:Int×Int):Prop:=O2 cs (s.1,1)/\∀ a b,R3 cs (s.1,1)=some (a,b)->PX a b (s.1,1)<=s.2*Ui a b (s.1,1)
def Std.of {s:Int×Int}(b1:Bd 180 s.1)(b2:Bd 200 s.2)(h:W4 cs s):Std cs s:=⟨b1,b2,h.1,h.2⟩
def Sh (cs:List (Int×Int))(x y:Int)(k:Nat):Bool:=decide (min x y<(cs.getD k (0,0)).1)&&decide ((cs.getD k (0,0)).1<max x y)
def Yr (cs:List (Int×Int))(x y:Int)(n:Nat):List Int:=((List.range n).filter (Sh cs x y)).map fun k:Nat=>(k:Int)
def gW {cs:List (Int×Int)}{x y:Int}{i:Nat}(h:Sh cs x y i=true):(Yr cs x y (i+1)).map D.int=(Yr cs x y i).map D.int++[.int (i:Int)]:=by unfold Yr;rw[List.range_succ,RP,KZ h];simp
def yZ {cs:List (Int×Int)}{x y:Int}{i:Nat}(h:Sh cs x y i=false):Yr cs x y (i+1)=Yr cs x y i:=by unfold Yr;rw[List.range_succ,RP,Nu (by rw[h];exact qu)];simp
def Mh (cs:List (Int×Int))(a b:Int×Int)(k:Int):Bool:=decide (0<Px a b (cs.getD k.toNat (0,0)))
def Vr (cs:List (Int×Int))(a b:Int×Int):Option Int:=(Yr cs a.1 b.1 cs.length).find? (Mh cs a b)
theorem yF {p:Int->Bool}:∀ {ks:List Int} {i:Nat} {k:Int},ks[i]?=some k->(∀ x∈ks.take i,p x=false)->p k=true->ks.find? p=some k
 |[],i,k,h,_,_=>by simp at h
 |x::ks,0,k,h,_,hp=>by
  have e:x=k:=by simpa using h
  rw[List.find?_cons,e,hp]
 |x::ks,i+1,k,h,hn,hp=>by rw[List.find?_cons,hn x (by simp)];exact yF (by simpa using h) (fun y hy=>hn y (by rw[List.take_succ_cons];exact qi _ hy)) hp
def jA {p:Int->Bool}{ks:List Int}(hn:∀ x∈ks,p x=false):ks.find? p=none:=List.find?_eq_none.mpr fun x hx=>by rw[hn x hx];exact qu
def zuo {cs:List (Int×Int)}{x y k:Int}{n:Nat}(h:k∈Yr cs x y n):0<=k/\k<n:=by unfold Yr at h;obtain⟨j,hj,rfl⟩:=qE.mp h;have:=Ng.mp (Xf.mp hj).1;lia
def À {cs:List (Int×Int)}{a b:Int×Int}:Vr cs a b=Vr cs b a:=by
 by_cases h:a.1=b.1
 ·have e:∀ x:Int×Int,x.1=x.1->Yr cs a.1 b.1 cs.length=[]:=fun _ _=>by
   unfold Yr;rw[List.filter_eq_nil_iff.mpr fun k _=>?_]
   ·rfl
   ·unfold Sh;rw[h];simp only[qr,decide_eq_true_eq];lia
  have e1:=e a rfl;have e2:Yr cs b.1 a.1 cs.length=[]:=by rw[h]at e1 ⊢;exact e1
  unfold Vr;rw[e1,e2];rfl
 ·have en:Yr cs a.1 b.1 cs.length=Yr cs b.1 a.1 cs.length:=by
   unfold Yr Sh;rw[Int.min_comm,Int.max_comm]
  unfold Vr;rw[en];congr 1;funext k;unfold Mh;rw[ő h]
def gx (g:Int)(p:Int×Int):Int:=g*p.1
section
variable {g:Int}{p q r s d t u v:Int×Int}
end
section
variable {cs:List (Int×Int)}{a b:Int×Int}{rp:List (Int×Int)}
end
section
variable {w h t m:Int}{cs:List (Int×Int)}
end
abbrev X8 (b:Str×(Int×Int)):D:=.tup [.str b.1,.int b.2.1,.int b.2.2]
def abc:List Nat:=List.range' 97 26
def zty:("abcdefghijklmnopqrstuvwxyz":Str).cps.toList=abc:=by decide +kernel
def nJ {c:Nat}:c∈abc↔97<=c/\c<=122:=by unfold abc;rw[List.mem_range'_1];lia
def Xb (z:Str):Bool:=decide (1<=z.length)&&(decide (z.length<=8)&&z.cps.toList.all fun c=>decide (c∈abc))
def Ij {z:Str}:Xb z=true↔1<=z.length/\z.length<=8/\∀ c∈z.cps.toList,c∈abc:=by unfold Xb;rw[qr,qr,decide_eq_true_eq,decide_eq_true_eq,W6];simp only[decide_eq_true_eq]
def uT {z:Str}(h:Xb z=true)(k:Nat):fl k (.str z)=true:=by
  have h3:=(Ij.mp h).2.2
  have:z.cps.all (· < 0x110000)=true:=by rw[Array.all_eq_true'];intro x hx;have:=nJ.mp (h3 x (Array.mem_toList_iff.mpr hx));simp;lia
  cases k<;>exact this
structure Vl where
 cs:List (Int×Int)
 bs:List (Str×(Int×Int))
 fs:List Fg
 hz:Option Int
 h0:Int
 h1:Int
 dl:Int
structure Ln (F:Fg):Prop where
 b:ć F
 o:F.f<=F.l
 f:Bd 300 F.f
 l:Bd 300 F.l
structure Zc (V:Vl):Prop where
 gr:WR V.cs
 b1:1<=V.bs.length
 b12:V.bs.length<=12
 nm:∀ b∈V.bs,Xb b.1=true
 nd:(V.bs.map (·.1)).Nodup
 st:∀ b∈V.bs,W4 V.cs b.2
 bd:∀ b∈V.bs,Bd 180 b.2.1/\Bd 200 b.2.2
 f12:V.fs.length<=12
 fg:∀ F∈V.fs,Ln F
 hz:∀ z,V.hz=some z->0<=z
 hh:V.h0<=V.h1
 b0:Bd 250 V.h0
 bl:Bd 250 V.h1
 dl:0<=V.dl
abbrev vF (g b f h a l d:D):List (Str×D):=[("ground",g),("beacons",b),("fogs",f),("haze",h),("first",a),("last",l),("delay",d)]
def ZD (S:Z7)(v:D)(V:Vl):Prop:=∃ n g b f,v=.ref n/\S[n]?=some (.ins "Valley" (vF (.ref g) (.ref b) (.ref f) (Vf V.hz) (.int V.h0) (.int V.h1) (.int V.dl)))/\WQ S (.ref g) V.cs/\S[b]?=some (.lst (V.bs.map X8))/\S[f]?=some (.lst (V.fs.map Xo))
theorem ZD.old {T:Z7}{V:Vl}(h:ZD S v V):ZD (S++T) v V:=by obtain⟨n,g,b,f,e,h1,h2,h3,h4⟩:=h;exact⟨n,g,b,f,e,zF h1,h2.old,zF h3,zF h4⟩
section
variable {S:Z7}{P:D->Prop}{n:Nat}{g b f h a l d:D}
def zoa (k:S[n]?=some (.ins "Valley" (vF g b f h a l d)))(q:P g):∃ m c fs x,D.ref n=.ref m/\S[m]?=some (.ins c fs)/\fs.lookup ("ground":Str)=some x/\P x:=⟨n,_,_,g,rfl,k,by simp[qq],q⟩
def ü (k:S[n]?=some (.ins "Valley" (vF g b f h a l d)))(q:P b):∃ m c fs x,D.ref n=.ref m/\S[m]?=some (.ins c fs)/\fs.lookup ("beacons":Str)=some x/\P x:=⟨n,_,_,b,rfl,k,by rw[qq,show((("beacons":Str)=="ground")=false) by decide +kernel];simp[qq],q⟩
def ju (k:S[n]?=some (.ins "Valley" (vF g b f h a l d)))(q:P f):∃ m c fs x,D.ref n=.ref m/\S[m]?=some (.ins c fs)/\fs.lookup ("fogs":Str)=some x/\P x:=⟨n,_,_,f,rfl,k,by rw[qq,show((("fogs":Str)=="ground")=false) by decide +kernel];dsimp only;rw[qq,show((("fogs":Str)=="beacons")=false) by decide +kernel];simp[qq],q⟩
def zur (k:S[n]?=some (.ins "Valley" (vF g b f h a l d)))(q:P h):∃ m c fs x,D.ref n=.ref m/\S[m]?=some (.ins c fs)/\fs.lookup ("haze":Str)=some x/\P x:=⟨n,_,_,h,rfl,k,by rw[qq,show((("haze":Str)=="ground")=false) by decide +kernel];dsimp only;rw[qq,show((("haze":Str)=="beacons")=false) by decide +kernel];dsimp only;rw[qq,show((("haze":Str)=="fogs")=false) by decide +kernel];simp[qq],q⟩
def cO (k:S[n]?=some (.ins "Valley" (vF g b f h a l d)))(q:P a):∃ m c fs x,D.ref n=.ref m/\S[m]?=some (.ins c fs)/\fs.lookup ("first":Str)=some x/\P x:=⟨n,_,_,a,rfl,k,by rw[qq,show((("first":Str)=="ground")=false) by decide +kernel];dsimp only;rw[qq,show((("first":Str)=="beacons")=false) by decide +kernel];dsimp only;rw[qq,show((("first":Str)=="fogs")=false) by decide +kernel];dsimp only;rw[qq,show((("first":Str)=="haze")=false) by decide +kernel];simp[qq],q⟩
def aZ (k:S[n]?=some (.ins "Valley" (vF g b f h a l d)))(q:P l):∃ m c fs x,D.ref n=.ref m/\S[m]?=some (.ins c fs)/\fs.lookup ("last":Str)=some x/\P x:=⟨n,_,_,l,rfl,k,by rw[qq,show((("last":Str)=="ground")=false) by decide +kernel];dsimp only;rw[qq,show((("last":Str)=="beacons")=false) by decide +kernel];dsimp only;rw[qq,show((("last":Str)=="fogs")=false) by decide +kernel];dsimp only;rw[qq,show((("last":Str)=="haze")=false) by decide +kernel];dsimp only;rw[qq,show((("last":Str)=="first")=false) by decide +kernel];simp[qq],q⟩
end
def Ig {bs:List (Str×(Int×Int))}{i:Nat}{d:D}(h:(bs.map X8)[i]?=some d):∃ b,bs[i]?=some b/\d=X8 b:=by
 rw[qk]at h;cases e:bs[i]? with
 |none=>rw[e]at h;cases h
 |some p=>rw[e]at h;cases h;exact⟨p,rfl,rfl⟩
def HW (f:Str×(Int×Int)->D):D->D
 |.tup [.str z,.int a,.int b]=>f (z,a,b)
 |d=>d
def DW (f:Str×(Int×Int)->D)(bs:List (Str×(Int×Int))):(bs.map X8).map (HW f)=bs.map f:=by rw[Xq];rfl
def Ue (a b:Int×Int):Int:=(b.1-a.1)*(b.1-a.1)+(b.2-a.2)*(b.2-a.2)
def Ϟ (a b:Int×Int):Ue a b=Ue b a:=by unfold Ue;grind
def hzy (z:Option Int)(q:Int):Bool:=match z with
 |some z=>decide (z<q)
 |none=>false
def Rf (V:Vl)(a b:Int×Int):D:=match Vr V.cs a b with
 | some k=>.tup [.str "ground",.int k]
 | none=>if hzy V.hz (Ue a b)=true then .tup [.str "haze",.int (Ue a b)]else .non
def QL (V:Vl)(a b:Int×Int):Prop:=Vr V.cs a b=none/\hzy V.hz (Ue a b)=false
def Cj {V:Vl}{a b:Int×Int}:Rf V a b=.non↔QL V a b:=by
 unfold Rf QL;cases Vr V.cs a b with
 |some k=>simp
 |none =>
  cases h:hzy V.hz (Ue a b)with
  |true=>simp
  |false=>simp
def Ss (V:Vl)(a b:Int×Int)(h:Int):Prop:=QL V a b/\¬ ∃ F∈V.fs,Vm F a.1 a.2 b.1 b.2 h
def Vx {V:Vl}(ok:Zc V){b c:Str×(Int×Int)}(hb:b∈V.bs)(hc:c∈V.bs)(e:b.1=c.1):b=c:=by
 obtain⟨i,hi,rfl⟩:=qO.mp hb;obtain⟨j,hj,rfl⟩:=qO.mp hc;have nd:=Te.mp ok.nd;rcases Nat.lt_trichotomy i j with h|h|h
 ·exact absurd (by rw[Jj,Jj];exact e) (nd i j (by simpa using hi) (by simpa using hj) h)
 ·subst h;rfl
 ·exact absurd (by rw[Jj,Jj];exact e.symm) (nd j i (by simpa using hj) (by simpa using hi) h)
def Gq {S A B X:Z7}(h:∃ T,A=S++T)(e:B=A++X):∃ T,B=S++T:=by obtain⟨T,h⟩:=h;exact⟨T++X,by rw[e,h,qj]⟩
def Λ {f:Str}{v:D}:putD f v []=[(f,v)]:=rfl
def YB {f g:Str}{v x:D}{r:List (Str×D)}(h:g≠f):putD f v ((g,x)::r)=(g,x)::putD f v r:=by show(if g=f then _ else _)=_;rw[if_neg h]
section
variable {g b f h a l d:D}
def vp2:putD "beacons" b ([("ground",g)]:List (Str×D))=([("ground",g),("beacons",b)]:List (Str×D)):=by rw[YB (by decide +kernel)];rfl
def jL:putD "fogs" f ([("ground",g),("beacons",b)]:List (Str×D))=([("ground",g),("beacons",b),("fogs",f)]:List (Str×D)):=by rw[YB (by decide +kernel),YB (by decide +kernel)];rfl
def vp4:putD "haze" h ([("ground",g),("beacons",b),("fogs",f)]:List (Str×D))=([("ground",g),("beacons",b),("fogs",f),("haze",h)]:List (Str×D)):=by rw[YB (by decide +kernel),YB (by decide +kernel),YB (by decide +kernel)];rfl
def kZ:putD "first" a ([("ground",g),("beacons",b),("fogs",f),("haze",h)]:List (Str×D))=([("ground",g),("beacons",b),("fogs",f),("haze",h),("first",a)]:List (Str×D)):=by rw[YB (by decide +kernel),YB (by decide +kernel),YB (by decide +kernel),YB (by decide +kernel)];rfl
def vp6:putD "last" l ([("ground",g),("beacons",b),("fogs",f),("haze",h),("first",a)]:List (Str×D))=([("ground",g),("beacons",b),("fogs",f),("haze",h),("first",a),("last",l)]:List (Str×D)):=by rw[YB (by decide +kernel),YB (by decide +kernel),YB (by decide +kernel),YB (by decide +kernel),YB (by decide +kernel)];rfl
def gq:putD "delay" d ([("ground",g),("beacons",b),("fogs",f),("haze",h),("first",a),("last",l)]:List (Str×D))=vF g b f h a l d:=by rw[YB (by decide +kernel),YB (by decide +kernel),YB (by decide +kernel),YB (by decide +kernel),YB (by decide +kernel),YB (by decide +kernel)];rfl
end
def zn7 {L R B T x1 z1 x2 z2:Int}:QH L R B T x2 z2 x1 z1↔QH L R B T x1 z1 x2 z2:=by
 have one:∀ {x1 z1 x2 z2:Int},QH L R B T x1 z1 x2 z2->QH L R B T x2 z2 x1 z1:=fun {x1 z1 x2 z2} zq19=>by
  obtain⟨p,q,h1,h2,h3,h4,h5,h6,h7⟩:=zq19;have e1:x2*q+(q-p)*(x1-x2)=x1*q+p*(x2-x1):=by grind
  have e2:z2*q+(q-p)*(z1-z2)=z1*q+p*(z2-z1):=by grind
  exact⟨q-p,q,h1,by lia,by lia,by rw[e1];exact h4,by rw[e1];exact h5,by rw[e2];exact h6,by rw[e2];exact h7⟩
 exact⟨one,one⟩
def zk1 {F:Fg}{a b:Int×Int}{h:Int}:Vm F b.1 b.2 a.1 a.2 h↔Vm F a.1 a.2 b.1 b.2 h:=by unfold Vm;rw[zn7]
def zmf {V:Vl}{a b:Int×Int}{h:Int}:Ss V b a h↔Ss V a b h:=by unfold Ss QL;rw[À,Ϟ b a];simp only[zk1]
def FP (xs:List α){k:Int}(h0:0<=k)(h1:k<=xs.length):cutD xs none (some k)=xs.take k.toNat:=by unfold cutD Xm;dsimp only;rw[if_neg (by lia),List.drop_zero,Nat.sub_zero,Nat.min_eq_left (by lia)]
def zol (xs:List α){k:Int}(h0:0<=k)(h1:k<=xs.length):cutD xs (some k) none=xs.drop k.toNat:=by unfold cutD Xm;dsimp only;rw[if_neg (by lia),Nat.min_eq_left (by lia)];exact DY (by rw[IW];exact qh _)
def zyH (fs:List Fg)(s t:Int×Int)(h:Int)(d:D):Prop:=(∃ (k:Nat) (F:Fg),fs[k]?=some F/\Vm F s.1 s.2 t.1 t.2 h/\(∀ (j:Nat) G,j<k->fs[j]?=some G->¬ Vm G s.1 s.2 t.1 t.2 h)/\d=.tup [.str "fog",.int k])\/((∀ F∈fs,¬ Vm F s.1 s.2 t.1 t.2 h)/\d=.non)
def Dv (V:Vl)(n m:Str)(s t:Int×Int)(h:Int)(d:D):Prop:=(n=m/\d=.non)\/(n≠m/\((¬ QL V s t/\d=Rf V s t)\/(QL V s t/\zyH V.fs s t h d)))
theorem Dv.non {V:Vl}{n:Str}{t:Int×Int}(a:Dv V n m s t h d):d=.non↔n=m\/Ss V s t h:=by
 rcases a with⟨a1,rfl⟩|⟨a1,⟨a2,rfl⟩|⟨a2,⟨k,F,hk,hF,hn,rfl⟩|⟨hn,rfl⟩⟩⟩
 ·exact⟨fun _=>.inl a1,fun _=>rfl⟩
 ·rw[Cj];exact⟨fun z=>absurd z a2,fun z=>z.elim (fun z=>absurd z a1) fun z=>absurd z.1 a2⟩
 ·exact⟨fun z=>(by cases z),fun z=>z.elim (fun z=>absurd z a1) fun z=>absurd ⟨F,qd hk,hF⟩ z.2⟩
 ·exact⟨fun _=>.inr ⟨a2,by rintro⟨F,hF,g⟩;exact hn F hF g⟩,fun _=>rfl⟩
theorem Ep (n:Str):∀ zs:List Str,((zs.map D.str).any fun z=>eqv z (.str n))=decide (n∈zs)
 |[]=>by simp
 |z::zs=>by rw[qQ,KC,Ep n zs];show((z==n)||decide (n∈zs))=decide (n∈z::zs);rw[Ti,Ql,beq_iff_eq,decide_eq_true_eq,decide_eq_true_eq,ql];exact⟨fun h=>h.imp (·.symm) id,fun h=>h.imp (·.symm) id⟩
def pZ {zs:List Str}(h:∀ z∈zs,fl 20 (.str z)=true):(zs.map D.str).all (fl 20)=true:=by rw[TJ,W6];exact h
def Kd {Q:DK}{zs:List Str}{n:Str}(hx:RZ S x (zs.map D.str))(hn:fl 20 (.str n)=true)(h:∀ z∈zs,fl 20 (.str z)=true)(q:Q (.bl (decide (n∈zs))) S):Uk (.str n) x S Q:=.inl ⟨_,⟨_,hx,hn,pZ h,rfl⟩,by rw[Ep];exact q⟩
def Ku {Q:DK}{zs:List Str}{n:Str}(hx:RZ S x (zs.map D.str))(hn:fl 20 (.str n)=true)(h:∀ z∈zs,fl 20 (.str z)=true)(q:Q (.bl (!decide (n∈zs))) S):RL (.str n) x S Q:=.inl ⟨_,⟨_,hx,hn,pZ h,rfl⟩,by rw[Ep];exact q⟩
def Zc.flN {V:Vl}(ok:Zc V):∀ z∈V.bs.map (·.1),fl 20 (.str z)=true:=fun z hz=>by obtain⟨b,hb,rfl⟩:=qE.mp hz;exact uT (ok.nm b hb) 20
def JX (p:Str->D):D->D
 |.str z=>p z
 |d=>d
def Ye {zs:List Str}{i:Nat}{d:D}(h:(zs.map D.str)[i]?=some d):∃ z,zs[i]?=some z/\d=.str z:=by
 rw[qk]at h;cases e:zs[i]? with
 |none=>rw[e]at h;cases h
 |some p=>rw[e]at h;cases h;exact⟨p,rfl,rfl⟩
def GX (f:Str->D)(zs:List Str):(zs.map D.str).map (JX f)=zs.map f:=by rw[Xq];rfl
def JZ {S:Z7}{Q:DK}{x y:Str}(fx:fl 20 (.str x)=true)(fy:fl 20 (.str y)=true)(q:Q (.bl (decide (x=y))) S):oEq (.str x) (.str y) S Q:=cG fx fy (by
 by_cases h:x=y
 ·subst h;rw[decide_eq_true rfl];exact beq_self_eq_true x
 ·rw[decide_eq_false h];exact beq_eq_false_iff_ne.mpr h) q
def prs:List Str->List (Str×Str)
 |[]=>[]
 |z::zs=>zs.map (fun y=>(z,y))++prs zs
abbrev WL (c:Str×Str):D:=.tup [.str c.1,.str c.2]
theorem NZ:∀ zs:List Str,(prs zs).length<=zs.length*zs.length
 |[]=>qh _
 |z::zs=>by have:=NZ zs;show(zs.map (fun y=>(z,y))++prs zs).length<=(zs.length+1)*(zs.length+1);rw[qg,qa,Nat.add_mul,Nat.mul_add];lia
theorem uy:∀ {zs:List Str} {i:Nat} {z:Str},zs[i]?=some z->∃ A,prs zs=A++(zs.drop (i+1)).map (fun y=>(z,y))++prs (zs.drop (i+1))/\prs zs=A++prs (zs.drop i)
 |[],i,z,h=>by simp at h
 |y::zs,0,z,h=>by
  have:y=z:=by simpa using h
  subst this;exact⟨[],by simp[prs],by simp⟩
 |y::zs,i+1,z,h=>by obtain⟨A,h1,h2⟩:=uy (zs:=zs) (i:=i) (z:=z) (by simpa using h);exact⟨zs.map (fun x=>(y,x))++A,by simp[prs,h1],by simp only[prs,List.drop_succ_cons];rw[h2,qj]⟩
def Ni (V:Vl)(h:Int)(ps qs:List (Str×Str)):Prop:=∃ f:Str×Str->Bool,qs=ps.filter f/\∀ p∈ps,∀ s t,(p.1,s)∈V.bs->(p.2,t)∈V.bs->(f p=true↔p.1=p.2\/Ss V s t h)
theorem V0:∀ {zs:List Str} {p:Str×Str},p∈prs zs->p.1∈zs/\p.2∈zs
 |[],p,h=>by simp[prs]at h
 |z::zs,p,h=>by
  rcases qC.mp h with h|h
  ·obtain⟨y,hy,rfl⟩:=qE.mp h;exact⟨by simp,qi _ hy⟩
  ·obtain⟨h1,h2⟩:=V0 h;exact⟨qi _ h1,qi _ h2⟩
def Bv {cs:List (Str×Str)}{i:Nat}{d:D}(h:(cs.map WL)[i]?=some d):∃ c,cs[i]?=some c/\d=WL c:=by
 rw[qk]at h;cases e:cs[i]? with
 |none=>rw[e]at h;cases h
 |some p=>rw[e]at h;cases h;exact⟨p,rfl,rfl⟩
def wQ {V:Vl}{ps qs':List (Str×Str)}{i:Nat}{p:Str×Str}{g:Bool}{s t:Int×Int}(hp:ps[i]?=some p)(hs:(p.1,s)∈V.bs)(ht:(p.2,t)∈V.bs)(hw:Ni V h (ps.take i) qs)(hg:∀ s t,(p.1,s)∈V.bs->(p.2,t)∈V.bs->(g=true↔p.1=p.2\/Ss V s t h))(e:qs'=if g=true then qs++[p]else qs):Ni V h (ps.take (i+1)) qs':=by
 obtain⟨f,hf,hfp⟩:=hw;rw[W7 hp];have efg:p∈ps.take i->f p=g:=fun z=>by rw[Ti,hfp p z s t hs ht,hg s t hs ht]
 have e1:(ps.take i).filter (fun x=>if x∈ps.take i then f x else g)=qs:=by rw[hf];exact Qw fun x hx=>by rw[if_pos hx]
 have e2:(if p∈ps.take i then f p else g)=g:=by
  split
  ·rename_i z;exact efg z
  ·rfl
 refine⟨fun x=>if x∈ps.take i then f x else g,?_,fun x hx s' t' hs' ht'=>?_⟩
 ·rw[RP,e1,e];cases g with
  |true=>rw[if_pos rfl,KZ (by exact e2)];rfl
  |false=>rw[if_neg (by decide),Nu (by rw[e2];decide)];simp
 ·dsimp only;by_cases z:x∈ps.take i
  ·rw[if_pos z];exact hfp x z s' t' hs' ht'
  ·rcases qC.mp hx with hx|hx
   ·exact absurd hx z
   ·have:x=p:=by simpa using hx
    subst this;rw[if_neg z];exact hg s' t' hs' ht'
def Y9 (V:Vl)(h:Int)(a b:Str):Prop:=∃ s t,(a,s)∈V.bs/\(b,t)∈V.bs/\(a=b\/Ss V s t h)
inductive XC (V:Vl)(h:Int)(bar:List Str)(n:Str):Str->Prop
 |refl:XC V h bar n n
 |step {a b:Str}:XC V h bar n a->Y9 V h a b->b∉bar->XC V h bar n b
theorem Qc:∀ {F N:List Str},F.Nodup->(∀ x∈F,x∈N)->F.length<=N.length
 |[],_,_,_=>qX _
 |x::F,N,nd,h=>by
  obtain⟨n1,n2⟩:=VN.mp nd;have hx:=h x (by simp);have:=Qc (F:=F) (N:=N.erase x) n2 fun y hy=>(List.mem_erase_of_ne (fun e:y=x=>n1 (e▸hy))).mpr (h y (qi _ hy))
  rw[List.length_erase_of_mem hx]at this;have:=qbv hx;rw[qY];lia
def cB (V:Vl)(h:Int)(bar:List Str)(n:Str)(zs:List Str):Prop:=∃ f:Str->Bool,zs=(V.bs.map (·.1)).filter f/\∀ z∈V.bs.map (·.1),(f z=true↔XC V h bar n z)
open Classical in
noncomputable def Ra (V:Vl) (h:Int) (p:Str×Str):Bool:=decide (Y9 V h p.1 p.2)
def Lp {V:Vl}{h:Int}{p:Str×Str}:Ra V h p=true↔Y9 V h p.1 p.2:=by unfold Ra;exact @decide_eq_true_iff _ (Classical.propDecidable _)
def Py {V:Vl}(w:Y9 V h a b):Y9 V h b a:=by obtain⟨s,t,hs,ht,e⟩:=w;exact⟨t,s,ht,hs,e.imp (·.symm) zmf.mpr⟩
def vH {V:Vl}(ok:Zc V){ps:List (Str×Str)}(hp:∀ p∈ps,p.1∈V.bs.map (·.1)/\p.2∈V.bs.map (·.1))(w:Ni V h ps qs):qs=ps.filter (Ra V h):=by
 obtain⟨f,rfl,hf⟩:=w;refine Qw fun p hpm=>?_
 obtain⟨m1,m2⟩:=hp p hpm;obtain⟨b,hb,eb⟩:=qE.mp m1;obtain⟨c,hc,ec⟩:=qE.mp m2;have hb':(p.1,b.2)∈V.bs:=by rw[<- eb];exact hb
 have hc':(p.2,c.2)∈V.bs:=by rw[<- ec];exact hc
 rw[Ti,hf p hpm b.2 c.2 hb' hc',Lp];constructor
 ·intro z;exact⟨_,_,hb',hc',z⟩
 ·rintro⟨s,t,hs,ht,z⟩;have es:s=b.2:=congrArg Prod.snd (Vx ok hs hb' rfl);have et:t=c.2:=congrArg Prod.snd (Vx ok ht hc' rfl);subst es et;exact z
def Tw {S:Z7}{Q:DK}{x y:Str}(fx:fl 20 (.str x)=true)(fy:fl 20 (.str y)=true)(q:Q (.bl (!decide (x=y))) S):XS (.str x) (.str y) S Q:=zry fx fy (by
 by_cases h:x=y
 ·subst h;rw[decide_eq_true rfl];exact beq_self_eq_true x
 ·rw[decide_eq_false h];exact beq_eq_false_iff_ne.mpr h) q
theorem KD:∀ {zs:List Str} {p:Str×Str},p∈prs zs↔∃ i j:Nat,i<j/\zs[i]?=some p.1/\zs[j]?=some p.2
 |[],p=>by simp[prs]
 |z::zs,p=>by
  show p∈zs.map (fun y=>(z,y))++prs zs↔_;rw[qC,KD (zs:=zs)];constructor
  ·rintro(h|⟨i,j,h,h1,h2⟩)
   ·obtain⟨y,hy,rfl⟩:=qE.mp h;obtain⟨j,hj,e⟩:=qO.mp hy;exact⟨0,j+1,by lia,rfl,by rw[Vq,qb hj,e]⟩
   ·exact⟨i+1,j+1,by lia,by rw[Vq];exact h1,by rw[Vq];exact h2⟩
  ·rintro⟨i,j,h,h1,h2⟩;obtain⟨j,rfl⟩:∃ k,j=k+1:=⟨j-1,by lia⟩
   rw[Vq]at h2;cases i with
   |zero =>
    left;have e:z=p.1:=by simpa using h1
    exact qE.mpr ⟨p.2,qd h2,by rw[e]⟩
   |succ i =>rw[Vq]at h1;exact .inr ⟨i,j,by lia,h1,h2⟩
def QC {zs:List Str}(nd:zs.Nodup){i j:Nat}{z:Str}(hi:zs[i]?=some z)(hj:zs[j]?=some z):i=j:=by
 have li:=zL hi;have lj:=zL hj;rw[qb li]at hi;rw[qb lj]at hj;have e:zs[i]=zs[j]:=qH (hi.trans hj.symm);have:=Te.mp nd;rcases Nat.lt_trichotomy i j with g|g|g
 ·exact absurd e (this i j li lj g)
 ·exact g
 ·exact absurd e.symm (this j i lj li g)
def m9 {zs:List Str}(nd:zs.Nodup){a b:Str}(h:(a,b)∈prs zs):(b,a)∉prs zs:=fun k=>by obtain⟨i,j,l,h1,h2⟩:=KD.mp h;obtain⟨i',j',l',h1',h2'⟩:=KD.mp k;have e1:=QC nd h1 h2';have e2:=QC nd h2 h1';lia
def Np {zs:List Str}(nd:zs.Nodup){a b:Str}(h:(a,b)∈prs zs):a≠b:=fun e=>by subst e;exact m9 nd h h
def pK {zs:List Str}{a b:Str}(ha:a∈zs)(hb:b∈zs)(h:a≠b):(a,b)∈prs zs\/(b,a)∈prs zs:=by
 obtain⟨i,hi,ei⟩:=qO.mp ha;obtain⟨j,hj,ej⟩:=qO.mp hb;have gi:zs[i]?=some a:=by rw[qb hi,ei]
 have gj:zs[j]?=some b:=by rw[qb hj,ej]
 rcases Nat.lt_trichotomy i j with g|g|g
 ·exact .inl (KD.mpr ⟨i,j,g,gi,gj⟩)
 ·subst g;rw[gi]at gj;exact absurd (qH gj) h
 ·exact .inr (KD.mpr ⟨j,i,g,gj,gi⟩)
theorem uK:∀ {zs:List Str},zs.Nodup->(prs zs).Nodup
 |[],_=>by simp[prs]
 |z::zs,nd=>by
  obtain⟨n1,n2⟩:=VN.mp nd;show(zs.map (fun y=>(z,y))++prs zs).Nodup;rw[VJ];refine⟨?_,uK n2,fun a ha b hb e=>?_⟩
  ·refine List.pairwise_map.mpr (n2.imp fun h e=>h (congrArg Prod.snd e))
  ·subst e;obtain⟨y,hy,rfl⟩:=qE.mp ha;exact n1 (V0 hb).1
def Mw {V:Vl}(w:Y9 V h a b):a∈V.bs.map (·.1)/\b∈V.bs.map (·.1):=by obtain⟨s,t,hs,ht,_⟩:=w;exact⟨qE.mpr ⟨_,hs,rfl⟩,qE.mpr ⟨_,ht,rfl⟩⟩
def TX (S:Z7)(x:D)(V:Vl)(h:Int):Prop:=∃ (n:Nat) (Z8:List (Str×D)),x=.ref n/\S[n]?=some (.dk Z8)/\∀ z∈V.bs.map (·.1),∃ (m:Nat) (ys:List Str),dval Z8 z=some (.ref m)/\S[m]?=some (.lst (ys.map D.str))/\ys.Nodup/\∀ y,y∈ys↔y≠z/\Y9 V h z y
def TX.old {T:Z7}{V:Vl}(w:TX S x V h):TX (S++T) x V h:=by obtain⟨n,Z8,e,hn,hk⟩:=w;refine⟨n,Z8,e,zF hn,fun z hz=>?_⟩;obtain⟨m,ys,h1,h2,h3,h4⟩:=hk z hz;exact⟨m,ys,h1,zF h2,h3,h4⟩
def TX.get {V:Vl}(w:TX S x V h){z:Str}(hz:z∈V.bs.map (·.1)):∃ (m:Nat) (ys:List Str),Zr S x (.str z) (some (.ref m))/\S[m]?=some (.lst (ys.map D.str))/\ys.Nodup/\∀ y,y∈ys↔y≠z/\Y9 V h z y:=by obtain⟨n,Z8,rfl,hn,hk⟩:=w;obtain⟨m,ys,h1,h2,h3,h4⟩:=hk z hz;exact⟨m,ys,Zr.k hn h1,h2,h3,h4⟩
structure BR (zs:List Str)(ps:List (Int×Int))(fs:List Fg)(hz f:Int):Prop where
 l2:2<=zs.length
 l8:zs.length<=8
 nm:∀ z∈zs,Xb z=true
 nd:zs.Nodup
 lp:ps.length=zs.length
 sp:∀ p∈ps,0<=p.1/\p.1<=4/\0<=p.2/\p.2<=3
 lf:fs.length<=4
 fg:∀ F∈fs,Ln F
 h0:0<=hz
 h1:hz<=10
 f0:-4<=f
 f1:f<=4
def Å {zs:List Str}(hd:∀ (i:Nat) z,zs[i]?=some z->z.cps.toList.head?=some (97+i)):zs.Nodup:=by
 refine Te.mpr fun i j hi hj hij e=>?_
 have h1:=hd i _ (qb hi);have h2:=hd j _ (qb hj);rw[e,h2]at h1;have:=qH h1;lia
def W3 (a b:Str)(zs:List Str):List Str:=zs.filter fun z=>decide (z≠a/\z≠b)
def Vi (p:Str->Bool):D->Bool
 |.str z=>p z
 |_=>false
def eZ (a b:Str)(zs:List Str):((zs.map D.str).filter (Vi fun z=>decide (z≠a/\z≠b))).map id=(W3 a b zs).map D.str:=by rw[List.map_id,Og];rfl
def yW (V:Vl)(h:Int)(a b:Str)(us:List Str):Prop:=us[0]?=some a/\us[us.length-1]?=some b/\us.Nodup/\(∀ u∈us,u∈V.bs.map (·.1))/\∀ (k:Nat) x y,us[k]?=some x->us[k+1]?=some y->Y9 V h x y
def uQ {us:List Str}:LC us<us.length↔¬ us.Nodup:=by
 constructor
 ·intro h nd;rw[wA nd]at h;exact X6 _ h
 ·intro h
  have:∃ i j,∃ (hi:i<us.length) (hj:j<us.length),i<j/\us[i]=us[j]:=by apply Classical.byContradiction;intro no;exact h (Te.mpr fun i j hi hj hij e=>no ⟨i,j,hi,hj,hij,e⟩)
  obtain⟨i,j,hi,hj,hij,e⟩:=this;exact ų hij (qb hi) (by rw[qb hj,e])
def vp {ds:List D}{d:D}(h:ds[ds.length-1]?=some d):Zh ds (-1)=some d:=by have hl:=zL h;unfold Zh Xz;rw[if_neg (by decide),if_pos (by lia)];show ds[((-1:Int)+(ds.length:Int)).toNat]?=some d;rw[show((-1:Int)+(ds.length:Int)).toNat=ds.length-1 by lia];exact h
def uY (p:Nat->Bool):D->D
 |.str z=>.bl (p (z.cps.toList.headD 0))
 |d=>d
def znt {z:Str}{i:Nat}{d:D}(h:(signs z)[i]?=some d):∃ c,z.cps.toList[i]?=some c/\d=.str ⟨#[c]⟩:=by
 unfold signs at h;rw[qk]at h;cases e:z.cps.toList[i]? with
 |none=>rw[e]at h;cases h
 |some p=>rw[e]at h;cases h;exact⟨p,rfl,rfl⟩
def Τ (p:Nat->Bool)(z:Str):(signs z).map (uY p)=(z.cps.toList.map p).map D.bl:=by unfold signs;rw[Xq,Xq];rfl
def ũ (z:Str):(signs z).length=z.length:=by unfold signs;rw[qa];exact U6
section
variable {see:Nat->Nat->Int->Prop}{dl:Int}{s:Nat}{h0:Int}
inductive Lt (see:Nat->Nat->Int->Prop)(dl:Int)(s:Nat)(h0:Int):Nat->Int->Prop
 |base:Lt see dl s h0 s h0
 |step {k j:Nat} {h u:Int}:Lt see dl s h0 k h->h<=u->see k j u->Lt see dl s h0 j (u+dl)
end
def hrs (V:Vl):List Int:=(List.range (V.h1-V.h0+1).toNat).map fun i:Nat=>V.h0+(i:Int)
section
variable {V:Vl}{is:List Nat}{v:Nat->D}
end
open Classical in
section
variable {V:Vl}{a j:Nat}{fi:List Nat}{f:Nat->En}{p:List Nat×(Nat->En)}{u:Int}
end
section
variable {see:Nat->Nat->Int->Prop}{dl:Int}{n s:Nat}{h:Int}{D D':Nat->Nat->Prop}{fi wi:List Nat}{f g:Nat->En}
end
def sm:Nat->(Nat->Int)->Int
 |0,_=>0
 |n+1,f=>sm n f+f n
def Kq {n:Nat}{f g:Nat->Int}(h:∀ i,i<n->f i=g i):sm n f=sm n g:=by
 induction n with
 |zero=>rfl
 |succ n ih=>show sm n f+f n=sm n g+g n;rw[ih fun i hi=>h i (by lia),h n (by lia)]
def Cz {n:Nat}{f g:Nat->Int}:sm n (fun i=>f i+g i)=sm n f+sm n g:=by
 induction n with
 |zero=>rfl
 |succ n ih=>show sm n _+(f n+g n)=sm n f+f n+(sm n g+g n);rw[ih];lia
def ŏ {n:Nat}{f:Nat->Int}:sm n (fun i=>-f i)=-sm n f:=by
 induction n with
 |zero=>rfl
 |succ n ih=>show sm n _ + -f n=-(sm n f+f n);rw[ih];lia
def Gb {n:Nat}{f:Nat->Int}(h:∀ i,i<n->f i=0):sm n f=0:=by
 induction n with
 |zero=>rfl
 |succ n ih=>show sm n f+f n=0;rw[ih fun i hi=>h i (by lia),h n (by lia)];rfl
def iK {n:Nat}{f:Nat->Int}(h:∀ i,i<n->0<=f i):0<=sm n f:=by
 induction n with
 |zero=>exact Vs _
 |succ n ih=>show 0<=sm n f+f n;have:=ih fun i hi=>h i (by lia);have:=h n (by lia);lia
def Gp {n j:Nat}{f:Nat->Int}(hj:j<n)(h:∀ i,i<n->i≠j->f i=0):sm n f=f j:=by
 induction n with
 |zero=>lia
 |succ n ih =>
  show sm n f+f n=f j;by_cases e:j=n
  ·subst e;rw[Gb fun i hi=>h i (by lia) (by lia)];lia
  ·rw[ih (by lia) fun i hi hn=>h i (by lia) hn,h n (by lia) (by lia)];lia
def NP {n j:Nat}{f:Nat->Int}(h:∀ i,i<n->0<=f i)(hj:j<n):f j<=sm n f:=by
 induction n with
 |zero=>lia
 |succ n ih =>
  show f j<=sm n f+f n;have h0:0<=sm n f:=iK fun i hi=>h i (by lia)
  have:=h n (by lia);by_cases e:j=n
  ·subst e;lia
  ·have:=ih (fun i hi=>h i (by lia)) (by lia);lia
def zu4 {n j k:Nat}{f:Nat->Int}(h:∀ i,i<n->0<=f i)(hj:j<n)(hk:k<n)(ne:j≠k):f j+f k<=sm n f:=by
 induction n with
 |zero=>lia
 |succ n ih =>
  show f j+f k<=sm n f+f n;have hn:=h n (by lia);have mem:∀ i,i<n->f i<=sm n f:=fun i hi=>NP (fun i hi=>h i (by lia)) hi
  by_cases e:j=n
  ·subst e;have:=mem k (by lia);lia
  ·by_cases e2:k=n
   ·subst e2;have:=mem j (by lia);lia
   ·have:=ih (fun i hi=>h i (by lia)) (by lia) (by lia);lia
def mG {n:Nat}{f:Nat->Int}(h:0<sm n f):∃ j,j<n/\0<f j:=by
 induction n with
 |zero=>exact absurd h (Pa 0)
 |succ n ih =>
  by_cases e:0<f n
  ·exact⟨n,by lia,e⟩
  ·obtain⟨j,hj,hp⟩:=ih (by have:0<sm n f+f n:=h;lia);exact⟨j,by lia,hp⟩
def dY {n:Nat}{p:Nat->Bool}:sm n (fun i=>if p i=true then 1 else 0)=(((List.range n).filter p).length:Int):=by
 induction n with
 |zero=>rfl
 |succ n ih =>
  show sm n _+_=_;rw[ih,List.range_succ,RP,qg];cases e:p n with
  |true=>rw[KZ e];simp[e]
  |false=>rw[Nu (by rw[e];exact qu)];simp[e]
abbrev Pt:=Nat×Bool
structure Wb where
 n:Nat
 adj:Nat->Nat->Bool
 s:Nat
 t:Nat
structure Yo (W:Wb):Prop where
 irr:∀ a,W.adj a a=false
 sym:∀ a b,W.adj a b=W.adj b a
 lt:∀ a b,W.adj a b=true->a<W.n/\b<W.n
 s:W.s<W.n
 t:W.t<W.n
 st:W.s≠W.t
 na:W.adj W.s W.t=false
def YF (W:Wb):Pt->Pt->Int
 |(v,false),(w,true)=>if v=w/\v≠W.s/\v≠W.t/\v<W.n then 1 else 0
 |(a,true),(b,false)=>if W.adj a b=true then(W.n:Int)else 0
 |_,_=>0
def sp (W:Wb)(f:Pt->Int):Int:=sm W.n fun v=>f (v,false)+f (v,true)
def src (W:Wb):Pt:=(W.s,true)
def Yc (W:Wb):Pt:=(W.t,false)
def Vu (W:Wb)(c:Pt->Pt->Int)(p:Pt):Int:=sp W fun q=>YF W p q-c p q
structure QV (W:Wb)(c:Pt->Pt->Int)(k:Int)(r:Pt):Prop where
 nn:∀ p q,0<=c p q
 an:∀ p q,c p q+c q p=YF W p q+YF W q p
 cs:∀ p:Pt,p.1<W.n->Vu W c p=(if p=src W then k else 0)-(if p=Yc W then k+1 else 0)+(if p=r then 1 else 0)
structure Zo (W:Wb)(c:Pt->Pt->Int)(k:Int):Prop where
 nn:∀ p q,0<=c p q
 an:∀ p q,c p q+c q p=YF W p q+YF W q p
 cs:∀ p:Pt,p.1<W.n->Vu W c p=(if p=src W then k else 0)-(if p=Yc W then k else 0)
def Zo.start {k:Int}(h:Zo W c k):QV W c k (Yc W):=by
 refine⟨h.nn,h.an,fun p hp=>?_⟩;rw[h.cs p hp];by_cases e:p=Yc W
 ·rw[if_pos e,if_pos e,if_pos e];lia
 ·rw[if_neg e,if_neg e,if_neg e];lia
def QV.end {k:Int}(h:QV W c k (src W)):Zo W c (k+1):=by
 refine⟨h.nn,h.an,fun p hp=>?_⟩;rw[h.cs p hp];by_cases e:p=src W
 ·rw[if_pos e,if_pos e,if_pos e];lia
 ·rw[if_neg e,if_neg e,if_neg e];lia
def tk (c:Pt->Pt->Int)(a b:Pt):Pt->Pt->Int:=fun p q=>if p=a/\q=b then c a b-1 else if p=b/\q=a then c b a+1 else c p q
def sS {W:Wb}{f:Pt->Int}{b:Pt}(hb:b.1<W.n)(h:∀ q,q.1<W.n->q≠b->f q=0):sp W f=f b:=by
 unfold sp;rw[Gp hb fun i hi' hi=>?_]
 ·obtain⟨v,s⟩:=b;cases s with
  |false=>show f (v,false)+f (v,true)=_;rw[h (v,true) hb (by simp)];lia
  |true=>show f (v,false)+f (v,true)=_;rw[h (v,false) hb (by simp)];lia
 ·rw[h (i,false) hi' (fun e=>hi (by rw[<- e])),h (i,true) hi' (fun e=>hi (by rw[<- e]))];rfl
def zvC {W:Wb}{f g:Pt->Int}:sp W (fun q=>f q+g q)=sp W f+sp W g:=by unfold sp;rw[<- Cz];exact Kq fun i _=>by dsimp only;lia
def bM {W:Wb}{f g:Pt->Int}(h:∀ q,f q=g q):sp W f=sp W g:=by rw[funext h]
def dD {W:Wb}{c:Pt->Pt->Int}{a b:Pt}(ha:a.1<W.n)(hb:b.1<W.n)(ne:a≠b)(p:Pt):Vu W (tk c a b) p=Vu W c p+(if p=a then 1 else 0)-(if p=b then 1 else 0):=by
 have e:Vu W (tk c a b) p=Vu W c p+sp W fun q=>c p q-tk c a b p q:=by unfold Vu;rw[<- zvC];exact bM fun q=>by lia
 rw[e];by_cases h1:p=a
 ·subst h1;rw[sS hb fun q _ hq=>?_,if_pos rfl,if_neg ne]
  ·unfold tk;rw[if_pos ⟨rfl,rfl⟩];lia
  ·unfold tk;rw[if_neg (fun z=>hq z.2),if_neg (fun z=>ne z.1)];lia
 ·by_cases h2:p=b
  ·subst h2;rw[sS ha fun q _ hq=>?_,if_neg h1,if_pos rfl]
   ·unfold tk;rw[if_neg (fun z=>h1 z.1),if_pos ⟨rfl,rfl⟩];lia
   ·unfold tk;rw[if_neg (fun z=>h1 z.1),if_neg (fun z=>hq z.2)];lia
  ·rw[if_neg h1,if_neg h2,show(sp W fun q=>c p q-tk c a b p q)=0 from Gb fun i _=>?_]
   ·lia
   ·have:∀ q,c p q-tk c a b p q=0:=fun q=>by unfold tk;rw[if_neg (fun z=>h1 z.1),if_neg (fun z=>h2 z.1)];lia
    show c p (i,false)-tk c a b p (i,false)+(c p (i,true)-tk c a b p (i,true))=0;rw[this,this];rfl
def QV.step {k:Int}{a:Pt}(h:QV W c k r)(ha:a.1<W.n)(hr:r.1<W.n)(ne:a≠r)(pos:0<c a r):QV W (tk c a r) k a:=by
 refine⟨fun p q=>?_,fun p q=>?_,fun p hp=>?_⟩
 ·have:=h.nn p q;have:=h.nn r a;unfold tk;by_cases e1:p=a/\q=r
  ·rw[if_pos e1];lia
  ·rw[if_neg e1];by_cases e2:p=r/\q=a
   ·rw[if_pos e2];lia
   ·rw[if_neg e2];exact h.nn p q
 ·have e:=h.an p q;unfold tk;by_cases e1:p=a/\q=r
  ·obtain⟨rfl,rfl⟩:=e1;rw[if_pos ⟨rfl,rfl⟩,if_neg (fun z=>ne z.1.symm),if_pos ⟨rfl,rfl⟩];lia
  ·by_cases e2:p=r/\q=a
   ·obtain⟨rfl,rfl⟩:=e2;rw[if_neg e1,if_pos ⟨rfl,rfl⟩,if_pos ⟨rfl,rfl⟩];lia
   ·rw[if_neg e1,if_neg e2,if_neg (fun z=>e2 ⟨z.2,z.1⟩),if_neg (fun z=>e1 ⟨z.2,z.1⟩)];exact e
 ·rw[dD ha hr ne p,h.cs p hp];lia
section
variable {W:Wb}{c:Pt->Pt->Int}{k:Int}
def Ot {a b:Nat}:YF W (a,true) (b,false)=if W.adj a b=true then(W.n:Int)else 0:=rfl
def Qp {v w:Nat}:YF W (v,false) (w,true)=if v=w/\v≠W.s/\v≠W.t/\v<W.n then 1 else 0:=rfl
def Dm {v w:Nat}:YF W (v,false) (w,false)=0:=rfl
def Fv {v w:Nat}:YF W (v,true) (w,true)=0:=rfl
def arc (c:Pt->Pt->Int)(a b:Nat):Int:=if a=b then 0 else c (b,false) (a,true)
def thr (c:Pt->Pt->Int)(v:Nat):Int:=c (v,true) (v,false)
def Oq (h:Zo W c k)(a b:Nat):0<=arc c a b:=by
 unfold arc;by_cases e:a=b
 ·rw[if_pos e];exact Vs _
 ·rw[if_neg e];exact h.nn _ _
def tL (h:Zo W c k){a b:Nat}(ne:a≠b):YF W (a,true) (b,false)-c (a,true) (b,false)=arc c a b:=by have e:=h.an (a,true) (b,false);rw[Qp (v:=b),if_neg (fun z=>ne z.1.symm)]at e;unfold arc;rw[if_neg ne];lia
def PK (ok:Yo W)(h:Zo W c k){a b:Nat}(p:0<arc c a b):W.adj a b=true/\a≠b:=by
 have ne:a≠b:=fun e=>by unfold arc at p;rw[if_pos e]at p;exact absurd p (Pa 0)
 refine⟨?_,ne⟩;have e:=tL h ne;have n0:=h.nn (a,true) (b,false);cases hc:W.adj a b with
 |true=>rfl
 |false=>rw[Ot,hc,if_neg qu]at e;lia
def Ae (ok:Yo W)(h:Zo W c k)(v:Nat):YF W (v,false) (v,true)-c (v,false) (v,true)=thr c v:=by have e:=h.an (v,false) (v,true);rw[Ot (a:=v),ok.irr,if_neg qu]at e;unfold thr;lia
def N6 (ok:Yo W)(h:Zo W c k)(v:Nat):0<=thr c v/\thr c v<=1/\(v=W.s\/v=W.t->thr c v=0):=by
 have e:=Ae ok h v;have n0:=h.nn (v,false) (v,true);have n1:0<=thr c v:=h.nn _ _;rw[Qp]at e;by_cases g:v=v/\v≠W.s/\v≠W.t/\v<W.n
 ·rw[if_pos g]at e;exact⟨n1,by lia,fun z=>by rcases z with z|z;exact absurd z g.2.1;exact absurd z g.2.2.1⟩
 ·rw[if_neg g]at e;exact⟨n1,by lia,fun _=>by lia⟩
def wX (h:Zo W c k){v w:Nat}{s:Bool}:c (v,s) (w,s)=0:=by
 have e:=h.an (v,s) (w,s);have:=h.nn (v,s) (w,s);have:=h.nn (w,s) (v,s);cases s with
 |false=>rw[Dm,Dm]at e;lia
 |true=>rw[Fv,Fv]at e;lia
def JL (ok:Yo W)(h:Zo W c k){v:Nat}(hv:v<W.n):sm W.n (fun a=>arc c a v)=thr c v+(if v=W.t then k else 0):=by
 have e:=h.cs (v,false) hv;unfold Vu sp at e
 have e2:(sm W.n fun w=>YF W (v,false) (w,false)-c (v,false) (w,false)+(YF W (v,false) (w,true)-c (v,false) (w,true)))=sm W.n (fun w=>-arc c w v)+sm W.n (fun w=>if w=v then thr c v else 0):=by
  rw[<- Cz];refine Kq fun w _=>?_
  rw[Dm,wX h];by_cases ew:w=v
  ·subst ew;rw[if_pos rfl,Ae ok h];unfold arc;rw[if_pos rfl];lia
  ·rw[if_neg ew,Qp,if_neg (fun z=>ew z.1.symm)];unfold arc;rw[if_neg ew];lia
 rw[e2,ŏ,Gp hv fun i _ hi=>if_neg hi,if_pos rfl]at e;rw[if_neg (show(v,false)≠src W by unfold src;simp)]at e;by_cases ev:v=W.t
 ·rw[if_pos (show(v,false)=Yc W by unfold Yc;rw[ev])]at e;rw[if_pos ev];lia
 ·rw[if_neg (show(v,false)≠Yc W by unfold Yc;intro z;exact ev (V3 z).1)]at e;rw[if_neg ev];lia
def DQ (ok:Yo W)(h:Zo W c k){v:Nat}(hv:v<W.n):sm W.n (arc c v)=thr c v+(if v=W.s then k else 0):=by
 have e:=h.cs (v,true) hv;unfold Vu sp at e
 have e2:(sm W.n fun w=>YF W (v,true) (w,false)-c (v,true) (w,false)+(YF W (v,true) (w,true)-c (v,true) (w,true)))=sm W.n (arc c v)+sm W.n (fun w=>if w=v then -thr c v else 0):=by
  rw[<- Cz];refine Kq fun w _=>?_
  rw[Fv,wX h];by_cases ew:w=v
  ·subst ew;rw[if_pos rfl,Ot,ok.irr,if_neg qu];unfold arc thr;rw[if_pos rfl];lia
  ·rw[if_neg ew,tL h (Ne.symm ew)];lia
 rw[e2,Gp hv fun i _ hi=>if_neg hi,if_pos rfl]at e;rw[if_neg (show(v,true)≠Yc W by unfold Yc;simp)]at e;by_cases ev:v=W.s
 ·rw[if_pos (show(v,true)=src W by unfold src;rw[ev])]at e;rw[if_pos ev];lia
 ·rw[if_neg (show(v,true)≠src W by unfold src;intro z;exact ev (V3 z).1)]at e;rw[if_neg ev];lia
def ê (ok:Yo W)(h:Zo W c k){a b:Nat}(ha:a<W.n)(hb:b<W.n):arc c a b<=1:=by
 have n1:∀ i,i<W.n->0<=arc c i b:=fun i _=>Oq h i b
 have n2:∀ i,i<W.n->0<=arc c a i:=fun i _=>Oq h a i
 by_cases e:b=W.t
 ·by_cases e2:a=W.s
  ·by_cases g:0<arc c a b
   ·have:=(PK ok h g).1;rw[e,e2,ok.na]at this;cases this
   ·lia
  ·have:=DQ ok h ha;rw[if_neg e2]at this;have:=(N6 ok h a).2.1;have:=NP n2 hb;lia
 ·have:=JL ok h hb;rw[if_neg e]at this;have:=(N6 ok h b).2.1;have:=NP n1 ha;lia
def ύ (ok:Yo W)(h:Zo W c k){a a' b:Nat}(hb:b≠W.t)(p:0<arc c a b)(p':0<arc c a' b):a=a':=by
 obtain⟨l1,l2⟩:=ok.lt _ _ (PK ok h p).1;obtain⟨l1',_⟩:=ok.lt _ _ (PK ok h p').1;have e:=JL ok h l2;rw[if_neg hb]at e;have:=(N6 ok h b).2.1;by_cases ne:a=a'
 ·exact ne
 ·have:=zu4 (fun i _=>Oq h i b) l1 l1' ne;lia
def Cv (ok:Yo W)(h:Zo W c k)(a:Nat):¬ 0<arc c a W.s:=fun p=>by obtain⟨l1,l2⟩:=ok.lt _ _ (PK ok h p).1;have e:=JL ok h l2;rw[if_neg ok.st,(N6 ok h W.s).2.2 (.inl rfl)]at e;have:=NP (fun i _=>Oq h i W.s) l1;lia
def zn0 (ok:Yo W)(h:Zo W c k){a b:Nat}(hb:b≠W.t)(p:0<arc c a b):∃ d,d<W.n/\0<arc c b d:=by
 obtain⟨l1,l2⟩:=ok.lt _ _ (PK ok h p).1;have e:=JL ok h l2;rw[if_neg hb]at e;have:=NP (fun i _=>Oq h i b) l1;have hs:b≠W.s:=fun z=>Cv ok h a (z▸p)
 have e2:=DQ ok h l2;rw[if_neg hs]at e2;exact mG (f:=arc c b) (by lia)
def begins (ok:Yo W)(h:Zo W c k):(((List.range W.n).filter fun b=>decide (0<arc c W.s b)).length:Int)=k:=by
 rw[<- dY];have e:=DQ ok h ok.s;rw[if_pos rfl,(N6 ok h W.s).2.2 (.inl rfl)]at e;rw[<- show sm W.n (arc c W.s)=k by lia];refine Kq fun b hb=>?_
 have l:=ê ok h ok.s hb;have n:=Oq h W.s b;by_cases g:0<arc c W.s b
 ·rw[if_pos (decide_eq_true g)];lia
 ·rw[if_neg (by rw[decide_eq_false g];exact qu)];lia
def Ý {f:Pt->Int}(h:∀ q,q.1<W.n->f q=0):sp W f=0:=Gb fun i hi=>by rw[h (i,false) hi,h (i,true) hi];rfl
def Kc (R:Pt->Bool)(v:Nat):Bool:=R (v,false)&&!R (v,true)
structure WX (W:Wb)(c:Pt->Pt->Int)(vs:List Nat):Prop where
 hd:vs[0]?=some W.s
 ch:∀ (i a b:Nat),vs[i]?=some a->vs[i+1]?=some b->0<arc c a b
 nt:∀ (i a:Nat),vs[i]?=some a->i+1<vs.length->a≠W.t
def WX.same (ok:Yo W)(h:Zo W c k)(A:WX W c vs)(B:WX W c ws):∀ (i j v:Nat),vs[i]?=some v->ws[j]?=some v->v≠W.t->i=j/\∀ m,m<=i->vs[m]?=ws[m]?:=by
 intro i
 induction i with
 |zero =>
  intro j v hi hj nt;have ev:v=W.s:=by rw[A.hd]at hi;exact(qH hi).symm
  cases j with
  |zero=>exact⟨rfl,fun m hm=>by rw[show m=0 by lia,A.hd,B.hd]⟩
  |succ j =>
   have lj:j<ws.length:=by
    rcases qV j ws.length with g|g
    ·exact g
    ·rw[qA (by lia)]at hj;cases hj
   have:=B.ch j _ v (qb lj) hj;rw[ev]at this;exact absurd this (Cv ok h _)
 |succ i ih =>
  intro j v hi hj nt
  have li:i+1<vs.length:=by
   rcases qV (i+1) vs.length with g|g
   ·exact g
   ·rw[qA g]at hi;cases hi
  have gi:vs[i]?=some (vs[i]'(by lia)):=qb (by lia);have a1:=A.ch i _ v gi hi;cases j with
  |zero =>
   have ev:v=W.s:=by rw[B.hd]at hj;exact(qH hj).symm
   rw[ev]at a1;exact absurd a1 (Cv ok h _)
  |succ j =>
   have lj:j+1<ws.length:=by
    rcases qV (j+1) ws.length with g|g
    ·exact g
    ·rw[qA g]at hj;cases hj
   have gj:ws[j]?=some (ws[j]'(by lia)):=qb (by lia);have a2:=B.ch j _ v gj hj;have e:=ύ ok h nt a1 a2;obtain⟨e1,e2⟩:=ih j _ gi (by rw[gj,e]) (A.nt i _ gi li);refine⟨by lia,fun m hm=>?_⟩;by_cases g:m<=i
   ·exact e2 m g
   ·rw[show m=i+1 by lia,hi,e1,hj]
def WX.nodup (ok:Yo W)(h:Zo W c k)(A:WX W c vs):vs.Nodup:=by
 refine Te.mpr fun i j hi hj l e=>?_
 have gi:vs[i]?=some vs[i]:=qb hi;have gj:vs[j]?=some vs[i]:=by rw[e];exact qb hj
 have:=(A.same ok h A i j _ gi gj (A.nt i _ gi (by lia))).1;lia
theorem WX.lt (ok:Yo W)(h:Zo W c k)(A:WX W c vs):∀ v∈vs,v<W.n:=by
 intro v hv;obtain⟨i,hi⟩:=PJ.mp hv;cases i with
 |zero=>rw[A.hd]at hi;cases hi;exact ok.s
 |succ i =>
  have li:i<vs.length:=by
   rcases qV i vs.length with g|g
   ·exact g
   ·rw[qA (by lia)]at hi;cases hi
  exact(ok.lt _ _ (PK ok h (A.ch i _ v (qb li) hi)).1).2
def WX.snoc (A:WX W c vs){a b:Nat}(hl:vs[vs.length-1]?=some a)(na:a≠W.t)(p:0<arc c a b):WX W c (vs++[b]):=by
 have pos:0<vs.length:=by
  rcases Nat.eq_zero_or_pos vs.length with g|g
  ·rw[qA (by lia)]at hl;cases hl
  ·exact g
 refine⟨by rw[qf pos];exact A.hd,fun i x y hx hy=>?_,fun i x hx hi=>?_⟩
 ·by_cases g:i+1<vs.length
  ·rw[qf (by lia)]at hx;rw[qf g]at hy;exact A.ch i x y hx hy
  ·have l:i+1<(vs++[b]).length:=by
    rcases qV (i+1) (vs++[b]).length with g|g
    ·exact g
    ·rw[qA g]at hy;cases hy
   have e:i+1=vs.length:=by rw[qg,qR]at l;lia
   rw[e,qe (qh _),Yj]at hy;have ey:b=y:=by simpa using hy
   rw[qf (by lia),show i=vs.length-1 by lia,hl]at hx;cases hx;rw[<- ey];exact p
 ·rw[qg,qR]at hi;rw[qf (by lia)]at hx;by_cases g:i+1<vs.length
  ·exact A.nt i x hx g
  ·rw[show i=vs.length-1 by lia,hl]at hx;cases hx;exact na
structure Bf (c:Pt->Pt->Int)(st:Pt)(fo:List (Pt×Option Pt))(wt:List Pt)(dn:Pt->Pt->Prop):Prop where
 hd:fo[0]?=some (st,none)
 nd:(fo.map (·.1)).Nodup
 pr:∀ (i:Nat) (p:Pt) (o:Option Pt),fo[i]?=some (p,o)->i≠0->∃ (j:Nat) (q:Pt) (o':Option Pt),j<i/\o=some q/\fo[j]?=some (q,o')/\0<c q p
 wn:wt.Nodup
 wf:∀ p∈wt,p∈fo.map (·.1)
 cl:∀ p∈fo.map (·.1),p∉wt->∀ q,dn p q->0<c p q->q∈fo.map (·.1)
def Bf.start {c:Pt->Pt->Int}{st:Pt}{dn:Pt->Pt->Prop}:Bf c st [(st,none)] [st] dn:=by
 refine⟨rfl,by simp,fun i p o h hi=>?_,by simp,fun p hp=>hp,fun p hp hn=>absurd hp hn⟩;cases i with
 |zero=>exact absurd rfl hi
 |succ i=>simp at h
def Bf.pop {st:Pt}{wt:List Pt}{dn:Pt->Pt->Prop}(B:Bf c st fo (p::wt) dn):Bf c st fo wt (fun a q=>a≠p/\dn a q)/\p∈fo.map (·.1)/\p∉wt:=by
 obtain⟨n1,n2⟩:=VN.mp B.wn;refine⟨⟨B.hd,B.nd,B.pr,n2,fun a ha=>B.wf a (qi _ ha),fun a ha hn q hd hc=>?_⟩,B.wf p (by simp),n1⟩;refine B.cl a ha (fun z=>?_) q hd.2 hc;rcases ql.mp z with z|z
 ·exact hd.1 z
 ·exact hn z
def Bf.add {st p q:Pt}{dn:Pt->Pt->Prop}(B:Bf c st fo wt dn)(hp:p∈fo.map (·.1))(hq:q∉fo.map (·.1))(hc:0<c p q):Bf c st (fo++[(q,some p)]) (wt++[q]) dn:=by
 have l0:0<fo.length:=by
  rcases Nat.eq_zero_or_pos fo.length with g|g
  ·have:=B.hd;rw[qA (by lia)]at this;cases this
  ·exact g
 have up:∀ {x:Pt},x∈fo.map (·.1)->x∈(fo++[(q,some p)]).map (·.1):=fun {x} hx=>by rw[qD];exact qT _ hx
 refine⟨by rw[qf l0];exact B.hd,?_,fun i a o h hi=>?_,?_,fun a ha=>?_,fun a ha hn b hd hc'=>?_⟩
 ·rw[qD,VJ];refine⟨B.nd,by simp,fun x hx y hy e=>hq ?_⟩;have:y=q:=by simpa using hy
  rw[<- this,<- e];exact hx
 ·by_cases g:i<fo.length
  ·rw[qf g]at h;obtain⟨j,u,o',l,e,hj,hc'⟩:=B.pr i a o h hi;exact⟨j,u,o',l,e,by rw[qf (by lia)];exact hj,hc'⟩
  ·have l:i<(fo++[(q,some p)]).length:=by
    rcases qV i (fo++[(q,some p)]).length with g|g
    ·exact g
    ·rw[qA g]at h;cases h
   have e:i=fo.length:=by rw[qg,qR]at l;lia
   rw[e,qe (qh _),Yj]at h;have h':(q,some p)=(a,o):=by simpa using h
   obtain⟨rfl,rfl⟩:=V3 h';obtain⟨⟨p',o'⟩,hm,rfl⟩:=qE.mp hp;obtain⟨j,hj⟩:=PJ.mp hm
   have lj:j<fo.length:=by
    rcases qV j fo.length with g|g
    ·exact g
    ·rw[qA g]at hj;cases hj
   exact⟨j,p',o',by lia,rfl,by rw[qf lj];exact hj,hc⟩
 ·rw[VJ];refine⟨B.wn,by simp,fun x hx y hy e=>hq ?_⟩;have:y=q:=by simpa using hy
  rw[<- this,<- e];exact B.wf x hx
 ·rcases qC.mp ha with ha|ha
  ·exact up (B.wf a ha)
  ·have:a=q:=by simpa using ha
   rw[this,qD];exact qL _ (by simp)
 ·have hn':a∉wt:=fun z=>hn (qT _ z)
  have ha':a∈fo.map (·.1):=by
   rw[qD]at ha;rcases qC.mp ha with ha|ha
   ·exact ha
   ·have:a=q:=by simpa using ha
    exact absurd (qL _ (by rw[this];simp)) hn
  exact up (B.cl a ha' hn' b hd hc')
structure O1 (W:Wb)(c c':Pt->Pt->Int)(k:Int)(fo:List (Pt×Option Pt))(i:Nat)(r:Pt)(o:Option Pt):Prop where
 p:QV W c' k r
 at':fo[i]?=some (r,o)
 kp:∀ p q,(∀ (j:Nat) o,fo[j]?=some (p,o)->j<=i)->(∀ (j:Nat) o,fo[j]?=some (q,o)->j<=i)->c' p q=c p q
def CP {fo:List (Pt×Option Pt)}(nd:(fo.map (·.1)).Nodup){i j:Nat}{p:Pt}{o o':Option Pt}(hi:fo[i]?=some (p,o))(hj:fo[j]?=some (p,o')):i=j:=by
 have hi':(fo.map (·.1))[i]?=some p:=by rw[qk,hi];rfl
 have hj':(fo.map (·.1))[j]?=some p:=by rw[qk,hj];rfl
 have li:i<(fo.map (·.1)).length:=by
  rcases qV i (fo.map (·.1)).length with g|g
  ·exact g
  ·rw[qA g]at hi';cases hi'
 have lj:j<(fo.map (·.1)).length:=by
  rcases qV j (fo.map (·.1)).length with g|g
  ·exact g
  ·rw[qA g]at hj';cases hj'
 rw[qb li]at hi';rw[qb lj]at hj';exact(Ly nd).mp (qH (hi'.trans hj'.symm))
theorem O1.step {st a:Pt}{dn:Pt->Pt->Prop}(B:Bf c st fo wt dn)(T:O1 W c c' k fo i r (some a))(lt:∀ p∈fo.map (·.1),p.1<W.n):∃ (j:Nat) (o:Option Pt),j<i/\a≠r/\c' a r=c a r/\0<c a r/\O1 W c (tk c' a r) k fo j a o:=by
 have i0:i≠0:=fun e=>by have:=B.hd;rw[<- e,T.at']at this;cases this
 obtain⟨j,q,o',l,e,hj,hc⟩:=B.pr i r _ T.at' i0;cases e;have mem:∀ {i:Nat} {p:Pt} {o:Option Pt},fo[i]?=some (p,o)->p∈fo.map (·.1):=fun h=>qE.mpr ⟨_,qd h,rfl⟩
 have ne:a≠r:=fun e=>by rw[e]at hj;have:=CP B.nd hj T.at';lia
 have ec:c' a r=c a r:=T.kp a r (fun m o h=>by have:=CP B.nd h hj;lia) (fun m o h=>by have:=CP B.nd h T.at';lia);refine⟨j,o',l,ne,ec,hc,T.p.step (lt _ (mem hj)) (lt _ (mem T.at')) ne (by rw[ec];exact hc),hj,fun p q hp hq=>?_⟩
 have hr:∀ {x:Pt},(∀ (m:Nat) o,fo[m]?=some (x,o)->m<=j)->x≠r:=fun hx e=>by have:=hx i _ (e▸T.at');lia
 unfold tk;rw[if_neg (fun z=>hr hq z.2),if_neg (fun z=>hr hp z.1)];exact T.kp p q (fun m o h=>by have:=hp m o h;lia) (fun m o h=>by have:=hq m o h;lia)
def O1.last {st:Pt}{dn:Pt->Pt->Prop}(B:Bf c st fo wt dn)(T:O1 W c c' k fo i r none):r=st:=by
 by_cases e:i=0
 ·have:=T.at';rw[e,B.hd]at this;cases this;rfl
 ·obtain⟨j,q,o',l,e',_⟩:=B.pr i r _ T.at' e;cases e'
def Μ (p q:Pt):0<=YF W p q:=by
  obtain⟨v,s⟩:=p;obtain⟨w,r⟩:=q;cases s<;>cases r
  . exact Vs _
  . rw[Qp];by_cases g:v=w/\v≠W.s/\v≠W.t/\v<W.n
    . rw[if_pos g];decide
    . rw[if_neg g];exact Vs _
  . rw[Ot];by_cases g:W.adj v w=true
    . rw[if_pos g];lia
    . rw[if_neg g];exact Vs _
  . exact Vs _
def Zo.zero:Zo W (YF W) 0:=by
 refine⟨Μ,fun _ _=>rfl,fun p _=>?_⟩;rw[show Vu W (YF W) p=0 from Ý fun q _=>Int.sub_self _];by_cases e1:p=src W
 ·rw[if_pos e1];by_cases e2:p=Yc W
  ·rw[if_pos e2];rfl
  ·rw[if_neg e2];rfl
 ·rw[if_neg e1];by_cases e2:p=Yc W
  ·rw[if_pos e2];rfl
  ·rw[if_neg e2];rfl
def Zo.few (ok:Yo W)(h:Zo W c k):0<=k/\k<=W.n:=by have e:=begins ok h;have l:=Ob (fun b=>decide (0<arc c W.s b)) (List.range W.n);rw[N8]at l;lia
end
abbrev SK:=Sum Int Str
def Z5 (zs:List Str)(i:Nat):Str:=zs.getD i Str.empty
def U5 (b:Bool):Int:=if b=true then 1 else 0
abbrev kp (zs:List Str)(p:Pt):List SK:=[.inr (Z5 zs p.1),.inl (U5 p.2)]
abbrev Zf (zs:List Str)(p:Pt):D:=.tup [.str (Z5 zs p.1),.int (U5 p.2)]
def Nr {zs:List Str}{i:Nat}{z:Str}(h:zs[i]?=some z):Z5 zs i=z:=by unfold Z5;rw[qG,h];rfl
def Ud {zs:List Str}{i:Nat}(h:i<zs.length):zs[i]?=some (Z5 zs i):=by rw[Nr (qb h)];exact qb h
def nO {a b:Bool}(h:U5 a=U5 b):a=b:=by cases a<;>cases b<;>first|rfl|cases h
def V4 {zs:List Str}(nd:zs.Nodup){i j:Nat}(hi:i<zs.length)(hj:j<zs.length)(e:Z5 zs i=Z5 zs j):i=j:=QC nd (Ud hi) (by rw[e];exact Ud hj)
def GC {zs:List Str}(nd:zs.Nodup){p q:Pt}(hp:p.1<zs.length)(hq:q.1<zs.length)(e:kp zs p=kp zs q):p=q:=by obtain⟨e1,e2⟩:=List.cons.inj e;have e3:=Sum.inl.inj (List.cons.inj e2).1;exact Uh (V4 nd hp hq (Sum.inr.inj e1)) (nO e3)
def Af {κ:Type}[DecidableEq κ]{Z8:List (κ×D)}{k:κ}{d:D}(h:dval Z8 k=some d):(k,d)∈Z8:=by
 induction Z8 with
 |nil=>cases h
 |cons p Z8 ih =>
  rw[Wc]at h;by_cases e:p.1=k
  ·rw[if_pos e]at h;cases h;rw[<- e];exact qP
  ·rw[if_neg e]at h;exact qi _ (ih h)
theorem Mz {α:Type}[DecidableEq α]:∀ {F N:List α},F.Nodup->(∀ x∈F,x∈N)->F.length<=N.length
 |[],_,_,_=>qX _
 |x::F,N,nd,h=>by
  obtain⟨n1,n2⟩:=VN.mp nd;have hx:=h x (by simp);have:=Mz (F:=F) (N:=N.erase x) n2 fun y hy=>(List.mem_erase_of_ne (fun e:y=x=>n1 (e▸hy))).mpr (h y (qi _ hy))
  rw[List.length_erase_of_mem hx]at this;have:=qbv hx;rw[qY];lia
def Va (n:Nat):List Pt:=(List.range n).map (fun v=>(v,false))++(List.range n).map fun v=>(v,true)
def Eh (n:Nat):(Va n).length=2*n:=by unfold Va;simp;lia
def FT {n:Nat}{p:Pt}(h:p.1<n):p∈Va n:=by
 obtain⟨v,s⟩:=p;unfold Va;cases s with
 |false=>exact qT _ (qE.mpr ⟨v,List.mem_range.mpr h,rfl⟩)
 |true=>exact qL _ (qE.mpr ⟨v,List.mem_range.mpr h,rfl⟩)
def VL (c:Pt->Pt->Int)(p q:Pt)(x:Int):Pt->Pt->Int:=fun p' q'=>if p'=p/\q'=q then x else c p' q'
structure Zj (zs:List Str)(Z8:List (List (List SK)×D))(c:Pt->Pt->Int):Prop where
 nd:(Z8.map (·.1)).Nodup
 ky:∀ x∈Z8,∃ p q:Pt,p.1<zs.length/\q.1<zs.length/\x=([kp zs p,kp zs q],.int (c p q))
 vl:∀ p q:Pt,p.1<zs.length->q.1<zs.length->dval Z8 [kp zs p,kp zs q]=none->c p q=0
section
variable {zs:List Str}{Z8:List (List (List SK)×D)}{c:Pt->Pt->Int}
def sI (nd:zs.Nodup){p q p' q':Pt}(hp:p.1<zs.length)(hq:q.1<zs.length)(hp':p'.1<zs.length)(hq':q'.1<zs.length)(e:[kp zs p,kp zs q]=[kp zs p',kp zs q']):p=p'/\q=q':=by obtain⟨e1,e2⟩:=List.cons.inj e;exact⟨GC nd hp hp' e1,GC nd hq hq' (List.cons.inj e2).1⟩
def Zj.len (R:Zj zs Z8 c)(h12:zs.length<=12):Z8.length<big:=by
 have h:=Mz (N:=(Va zs.length).flatMap fun p=>(Va zs.length).map fun q=>[kp zs p,kp zs q]) R.nd fun k hk=>by obtain⟨x,hx,rfl⟩:=qE.mp hk;obtain⟨p,q,hp,hq,rfl⟩:=R.ky x hx;exact List.mem_flatMap.mpr ⟨p,FT hp,qE.mpr ⟨q,FT hq,rfl⟩⟩
 rw[qa,List.length_flatMap]at h
 have e:((Va zs.length).map fun p=>((Va zs.length).map fun q=>[kp zs p,kp zs q]).length).sum<=24*24:=by
  have:∀ l:List Pt,(l.map fun p=>((Va zs.length).map fun q=>[kp zs p,kp zs q]).length).sum<=l.length*24:=fun l=>by
   induction l with
   |nil=>exact qh _
   |cons a l ih =>rw[qQ,List.sum_cons,qa,Eh,qY,Nat.succ_mul];lia
  have:=this (Va zs.length);rw[Eh]at this;lia
 unfold big;lia
def Zj.get (R:Zj zs Z8 c)(nd:zs.Nodup){p q:Pt}(hp:p.1<zs.length)(hq:q.1<zs.length):(dval Z8 [kp zs p,kp zs q]=none/\c p q=0)\/dval Z8 [kp zs p,kp zs q]=some (.int (c p q)):=by
 cases e:dval Z8 [kp zs p,kp zs q]with
 |none=>exact .inl ⟨rfl,R.vl p q hp hq e⟩
 |some d =>obtain⟨p',q',hp',hq',e'⟩:=R.ky _ (Af e);obtain⟨e1,e2⟩:=V3 e';obtain⟨rfl,rfl⟩:=sI nd hp hq hp' hq' e1;exact .inr (by rw[e2])
def Zj.put (R:Zj zs Z8 c)(nd:zs.Nodup){p q:Pt}(hp:p.1<zs.length)(hq:q.1<zs.length)(x:Int):Zj zs (dput Z8 [kp zs p,kp zs q] (.int x)) (VL c p q x):=by
 have ne:∀ {p' q':Pt},p'.1<zs.length->q'.1<zs.length->[kp zs p',kp zs q']≠[kp zs p,kp zs q]->VL c p q x p' q'=c p' q':=fun {p' q'} _ _ h=>if_neg fun e=>h (by rw[e.1,e.2])
 refine⟨?_,fun y hy=>?_,fun p' q' hp' hq' h=>?_⟩
 ·rw[zmN];by_cases e:(dval Z8 [kp zs p,kp zs q]).isSome=true
  ·rw[if_pos e];exact R.nd
  ·rw[if_neg e,VJ];refine⟨R.nd,by simp,fun a ha b hb hab=>e ?_⟩;have hb':b=[kp zs p,kp zs q]:=by simpa using hb
   subst hab hb';obtain⟨y,hy,ey⟩:=qE.mp ha;rw[<- Rg,List.any_eq_true];exact⟨y,hy,decide_eq_true ey⟩
 ·unfold dput at hy;split at hy
  ·obtain⟨y',hy',rfl⟩:=qE.mp hy;obtain⟨p',q',hp',hq',rfl⟩:=R.ky y' hy';by_cases e:[kp zs p',kp zs q']=[kp zs p,kp zs q]
   ·exact⟨p,q,hp,hq,by rw[if_pos e,e,show VL c p q x p q=x from if_pos ⟨rfl,rfl⟩]⟩
   ·exact⟨p',q',hp',hq',by rw[if_neg e,ne hp' hq' e]⟩
  ·rename_i hno;rcases qC.mp hy with hy|hy
   ·obtain⟨p',q',hp',hq',e⟩:=R.ky y hy;refine⟨p',q',hp',hq',?_⟩;rw[ne hp' hq' fun e2=>hno (List.any_eq_true.mpr ⟨y,hy,decide_eq_true (by rw[e,e2])⟩)];exact e
   ·have:y=([kp zs p,kp zs q],.int x):=by simpa using hy
    exact⟨p,q,hp,hq,by rw[this,show VL c p q x p q=x from if_pos ⟨rfl,rfl⟩]⟩
 ·rw[μ]at h;by_cases e:[kp zs p,kp zs q]=[kp zs p',kp zs q']
  ·rw[if_pos e]at h;cases h
  ·rw[if_neg e]at h;rw[ne hp' hq' (Ne.symm e)];exact R.vl p' q' hp' hq' h
def Zj.cg {c':Pt->Pt->Int}(R:Zj zs Z8 c)(h:∀ p q:Pt,p.1<zs.length->q.1<zs.length->c p q=c' p q):Zj zs Z8 c' :=⟨R.nd,fun x hx=>by obtain⟨p,q,hp,hq,e⟩:=R.ky x hx;exact⟨p,q,hp,hq,by rw[<- h p q hp hq];exact e⟩,fun p q hp hq e=>by rw[<- h p q hp hq];exact R.vl p q hp hq e⟩
def Zj.nil:Zj zs [] fun _ _=>0:=⟨by simp,fun x hx=>(by cases hx),fun _ _ _ _ _=>rfl⟩
def zxQ {a b:Pt}(ne:a≠b):VL (VL c a b (c a b-1)) b a (c b a+1)=tk c a b:=by
 funext p q;unfold VL tk;by_cases h1:p=a/\q=b
 ·rw[if_neg (fun z=>ne (h1.1.symm.trans z.1)),if_pos h1,if_pos h1]
 ·by_cases h2:p=b/\q=a
  ·rw[if_pos h2,if_neg h1,if_pos h2]
  ·rw[if_neg h2,if_neg h1,if_neg h1,if_neg h2]
def Qm {S T:Z7}{c c':Cell}:(S++c::T).set S.length c'=S++c'::T:=by simp
variable {S:Z7}{n e:Nat}
def Zj.puts (R:Zj zs Z8 c)(nd:zs.Nodup)(h12:zs.length<=12)(hn:S[n]?=some (.dn Z8 e)){p q:Pt}(hp:p.1<zs.length)(hq:q.1<zs.length){x:Int}{P:Z7->Prop}
  (k:∀ kvs' e',Zj zs kvs' (VL c p q x)->Put P S n (.dn kvs' e')):Ou S (.ref n) (.tup [Zf zs p,Zf zs q]) (.int x) P :=
 Ou.n (ks:=[kp zs p,kp zs q]) hn (R.len h12) fun e'=>k _ e' (R.put nd hp hq x)
def Zj.gets (R:Zj zs Z8 c)(nd:zs.Nodup)(hn:S[n]?=some (.dn Z8 e)){p q:Pt}(hp:p.1<zs.length)(hq:q.1<zs.length):∃ o,Zr S (.ref n) (.tup [Zf zs p,Zf zs q]) o/\o.getD (.int 0)=.int (c p q)/\(c p q≠0->o=some (.int (c p q))):=by
 refine⟨_,Zr.n (ks:=[kp zs p,kp zs q]) hn rfl,?_⟩;rcases R.get nd hp hq with⟨h1,h2⟩|h
 ·rw[h1,h2];exact⟨rfl,fun z=>absurd rfl z⟩
 ·rw[h];exact⟨rfl,fun _=>rfl⟩
end
def zun {zs:List Str}(nd:zs.Nodup){p q:Pt}(hp:p.1<zs.length)(hq:q.1<zs.length):eqv (Zf zs p) (Zf zs q)=decide (p=q):=by
 show((Z5 zs p.1==Z5 zs q.1)&&(decide (U5 p.2=U5 q.2)&&true))=_;rw[Bool.and_true];by_cases h:p=q
 ·subst h;simp
 ·rw[decide_eq_false h];by_cases h1:Z5 zs p.1=Z5 zs q.1
  ·have e1:=V4 nd hp hq h1;have:U5 p.2≠U5 q.2:=fun z=>h (Uh e1 (nO z))
   rw[decide_eq_false this,O9]
  ·rw[show(Z5 zs p.1==Z5 zs q.1)=false from beq_eq_false_iff_ne.mpr h1];rfl
def tE {zs:List Str}(fz:∀ z∈zs,fl 20 (.str z)=true){p:Pt}(hp:p.1<zs.length):fl 20 (Zf zs p)=true:=by have:=fz _ (qd (Ud hp));show([D.str (Z5 zs p.1),D.int (U5 p.2)]).all (fl 19)=true;simp only[VB,List.all_nil,Bool.and_true];show(fl 19 (.str (Z5 zs p.1))&&true)=true;rw[Bool.and_true];exact this
def aX {zs:List Str}(nd:zs.Nodup)(fz:∀ z∈zs,fl 20 (.str z)=true){S:Z7}{Q:DK}{p q:Pt}(hp:p.1<zs.length)(hq:q.1<zs.length)(k:Q (.bl (decide (p=q))) S):oEq (Zf zs p) (Zf zs q) S Q :=⟨_,.inl ⟨tE fz hp,tE fz hq,rfl⟩,by rw[zun nd hp hq];exact k⟩
def fk (zs:List Str)(x:Pt×Option Pt):List SK×D:=(kp zs x.1,match x.2 with|none=>.non|some q=>Zf zs q)
section
variable {zs:List Str}{fo:List (Pt×Option Pt)}{S:Z7}{n:Nat}
theorem T8 (nd:zs.Nodup){p:Pt}(hp:p.1<zs.length):∀ {fo:List (Pt×Option Pt)},(∀ x∈fo.map (·.1),x.1<zs.length)->(fo.map (·.1)).Nodup->∀ o:Option Pt,((p,o)∈fo->dval (fo.map (fk zs)) (kp zs p)=some (fk zs (p,o)).2)/\(p∉fo.map (·.1)->dval (fo.map (fk zs)) (kp zs p)=none)
 |[],_,_,o=>⟨fun h=>(by cases h),fun _=>rfl⟩
 |x::fo,lt,n1,o=>by
  obtain⟨n2,n3⟩:=VN.mp n1;have ih:=T8 nd hp (fo:=fo) (fun y hy=>lt y (qi _ hy)) n3 o;rw[qQ,Wc];by_cases e:x.1=p
  ·subst e;refine⟨fun h=>?_,fun h=>absurd (qP) h⟩;rw[if_pos (show(fk zs x).1=kp zs x.1 from rfl)];rcases ql.mp h with h|h
   ·rw[<- h]
   ·exact absurd (qE.mpr ⟨_,h,rfl⟩) n2
  ·have e2:¬ (fk zs x).1=kp zs p:=fun z=>e (GC nd (lt _ qP) hp z)
   rw[if_neg e2];refine⟨fun h=>ih.1 ?_,fun h=>ih.2 fun z=>h (qi _ z)⟩;rcases ql.mp h with h|h
   ·exact absurd (by rw[<- h]) e
   ·exact h
def Ð (nd:zs.Nodup){p q:Pt}(hp:p.1<zs.length)(lt:∀ x∈fo.map (·.1),x.1<zs.length)(n1:(fo.map (·.1)).Nodup)(h:p∉fo.map (·.1)):dput (fo.map (fk zs)) (kp zs p) (Zf zs q)=(fo++[(p,some q)]).map (fk zs):=by unfold dput;rw[Rg,(T8 nd hp lt n1 none).2 h,if_neg (by decide),qD];rfl
def Er {st:Pt}{dn:Pt->Pt->Prop}(B:Bf c st fo wt dn)(lt:∀ x∈fo.map (·.1),x.1<zs.length):fo.length<=2*zs.length:=by
 have:=Mz B.nd fun x hx=>FT (lt x hx)
 rw[qa,Eh]at this;exact this
def Bf.re {st:Pt}{dn dn':Pt->Pt->Prop}(B:Bf c st fo wt dn)(h:∀ a q,dn' a q->0<c a q->dn a q\/q∈fo.map (·.1)):Bf c st fo wt dn' :=⟨B.hd,B.nd,B.pr,B.wn,B.wf,fun a ha hn q hd hc=>(h a q hd hc).elim (fun z=>B.cl a ha hn q z hc) id⟩
def Bf.sub {st:Pt}(A:Bf c st fo [] fun _ _=>True)(B:Bf c st fo' [] fun _ _=>True):∀ (i:Nat) p o,fo[i]?=some (p,o)->p∈fo'.map (·.1):=by
 intro i
 induction i using Nat.strongRecOn with
 |ind i ih =>
  intro p o h;by_cases i0:i=0
  ·subst i0;rw[A.hd]at h;cases h;exact qE.mpr ⟨_,qd B.hd,rfl⟩
  ·obtain⟨j,q,o',l,_,hj,hc⟩:=A.pr i p o h i0;exact B.cl q (ih j l q o' hj) (by simp) p True.intro hc
def Bf.same {st:Pt}(A:Bf c st fo [] fun _ _=>True)(B:Bf c st fo' [] fun _ _=>True)(p:Pt):p∈fo.map (·.1)↔p∈fo'.map (·.1):=by
 have one:∀ {fo fo':List (Pt×Option Pt)},Bf c st fo [] (fun _ _=>True)->Bf c st fo' [] (fun _ _=>True)->p∈fo.map (·.1)->p∈fo'.map (·.1):=fun {fo fo'} A B h=>by obtain⟨⟨p',o⟩,hm,rfl⟩:=qE.mp h;obtain⟨i,hi⟩:=PJ.mp hm;exact A.sub B i _ o hi
 exact⟨one A B,one B A⟩
end
def Zo.rng {k:Int}(ok:Yo W)(h:Zo W c k){p q:Pt}(hc:0<c p q):p.1<W.n/\q.1<W.n:=by
  have e:=h.an p q;have n1:=h.nn q p
  have pos:∀ p q:Pt,0<YF W p q->p.1<W.n/\q.1<W.n:=fun p q z=>by
    obtain⟨v,s⟩:=p;obtain⟨w,t⟩:=q;cases s<;>cases t
    . exact absurd z (Pa 0)
    . rw[Qp]at z;split at z
      . rename_i g;exact⟨g.2.2.2,g.1▸g.2.2.2⟩
      . exact absurd z (Pa 0)
    . rw[Ot]at z;split at z
      . rename_i g;exact ok.lt _ _ g
      . exact absurd z (Pa 0)
    . exact absurd z (Pa 0)
  by_cases g:0<YF W p q
  . exact pos p q g
  . obtain⟨a,b⟩:=pos q p (by lia);exact⟨b,a⟩
noncomputable def YQ (V:Vl) (h:Int) (s t:Nat):Wb:={ n:=(V.bs.map (·.1)).length,adj:=fun a b=>decide (a≠b/\a<(V.bs.map (·.1)).length/\b<(V.bs.map (·.1)).length)&&Ra V h (Z5 (V.bs.map (·.1)) a,Z5 (V.bs.map (·.1)) b),s:=s,t:=t }
def RX {V:Vl}{h:Int}{s t a b:Nat}:(YQ V h s t).adj a b=true↔a≠b/\a<(V.bs.map (·.1)).length/\b<(V.bs.map (·.1)).length/\Y9 V h (Z5 (V.bs.map (·.1)) a) (Z5 (V.bs.map (·.1)) b):=by show(decide _&&Ra V h _)=true↔_;rw[qr,decide_eq_true_eq,Lp,and_assoc,and_assoc]
def tO {V:Vl}{h:Int}{s t:Nat}(hs:s<(V.bs.map (·.1)).length)(ht:t<(V.bs.map (·.1)).length)(no:¬ Y9 V h (Z5 (V.bs.map (·.1)) s) (Z5 (V.bs.map (·.1)) t)):Yo (YQ V h s t) where
 irr:=fun a=>by
  cases e:(YQ V h s t).adj a a with
  |false=>rfl
  |true=>exact absurd rfl (RX.mp e).1
 sym:=fun a b=>by rw[Ti,RX,RX];exact⟨by rintro⟨a,b,c,d⟩;exact⟨a.symm,c,b,Py d⟩,by rintro⟨a,b,c,d⟩;exact⟨a.symm,c,b,Py d⟩⟩
 lt:=fun a b e=>⟨(RX.mp e).2.1,(RX.mp e).2.2.1⟩
 s:=hs
 t:=ht
 st:=fun e=>no (by have e:s=t:=e;subst e;obtain⟨z,hz,ez⟩:=qE.mp (qd (Ud hs));exact⟨z.2,z.2,by rw[<- ez];exact hz,by rw[<- ez];exact hz,.inl rfl⟩)
 na:=by
  cases e:(YQ V h s t).adj (YQ V h s t).s (YQ V h s t).t with
  |false=>rfl
  |true=>exact absurd (RX.mp e).2.2.2 no
def stp (zs:List Str)(c:Pt->Pt->Int)(i:Nat):List Nat:=(List.range zs.length).filter fun j=>decide (0<arc c i j)
def vZ (zs:List Str):zs=(List.range zs.length).map (Z5 zs):=by
 refine List.ext_getElem? fun i=>?_
 rw[qk];by_cases h:i<zs.length
 ·rw[List.getElem?_range h,Ud h];rfl
 ·rw[qA (by lia),qA (by rw[N8];lia)];rfl
open Classical in
noncomputable def Wi (zs:List Str) (c:Pt->Pt->Int) (i:Nat) (z:Str):Bool:=decide (∃ j,j<zs.length/\Z5 zs j=z/\0<arc c i j)
def Ai {zs:List Str}(nd:zs.Nodup){c:Pt->Pt->Int}{i j:Nat}(hj:j<zs.length):Wi zs c i (Z5 zs j)=decide (0<arc c i j):=by
 rw[Ti];unfold Wi;simp only[decide_eq_true_eq];constructor
 ·rintro⟨k,hk,e,z⟩;rw[<- V4 nd hk hj e];exact z
 ·exact fun z=>⟨j,hj,rfl,z⟩
def Φ {zs:List Str}(nd:zs.Nodup)(c:Pt->Pt->Int)(i:Nat):zs.filter (Wi zs c i)=(stp zs c i).map (Z5 zs):=by
 have e:∀ f:Str->Bool,zs.filter f=((List.range zs.length).filter (f ∘ Z5 zs)).map (Z5 zs):=fun f=>by have:=congrArg (List.filter f) (vZ zs);rw[Og]at this;exact this
 rw[e];unfold stp;rw[Qw fun j hj=>?_];exact Ai nd (Ng.mp hj)
structure c7 (W:Wb)(zs:List Str)(c:Pt->Pt->Int)(rs:List (List Nat)):Prop where
 ln:rs.length=(stp zs c W.s).length
 rd:∀ (i:Nat) us,rs[i]?=some us->WX W c us/\us[us.length-1]?=some W.t/\us[1]?=(stp zs c W.s)[i]?/\2<=us.length
open Classical in
noncomputable def Rz (zs:List Str) (fo:List (Pt×Option Pt)) (z:Str):Bool:=decide (∃ j,j<zs.length/\Z5 zs j=z/\Kc (fun p=>decide (p∈fo.map (·.1))) j=true)
def mX {zs:List Str}(nd:zs.Nodup){fo:List (Pt×Option Pt)}{j:Nat}(hj:j<zs.length):Rz zs fo (Z5 zs j)=Kc (fun p=>decide (p∈fo.map (·.1))) j:=by
 rw[Ti];unfold Rz;rw[decide_eq_true_iff];constructor
 ·rintro⟨k,hk,e,z⟩;rw[<- V4 nd hk hj e];exact z
 ·exact fun z=>⟨j,hj,rfl,z⟩
def Ţ {zs:List Str}(nd:zs.Nodup)(fo:List (Pt×Option Pt)):zs.filter (Rz zs fo)=((List.range zs.length).filter (Kc fun p=>decide (p∈fo.map (·.1)))).map (Z5 zs):=by
 have e:∀ f:Str->Bool,zs.filter f=((List.range zs.length).filter (f ∘ Z5 zs)).map (Z5 zs):=fun f=>by have:=congrArg (List.filter f) (vZ zs);rw[Og]at this;exact this
 rw[e,Qw fun j hj=>?_];exact mX nd (Ng.mp hj)
section
variable {V:Vl}{h:Int}{s t:Nat}{zs:List Str}{rs:List (List Nat)}{ks:List Nat}
def vJ (hzs:zs=V.bs.map (·.1)){w:Str}(hw:w∈V.bs.map (·.1)):∃ j,j<zs.length/\Z5 zs j=w:=by rw[<- hzs]at hw;obtain⟨j,hj,e⟩:=qO.mp hw;exact⟨j,hj,Nr (by rw[qb hj,e])⟩
end
section
variable {V V':Vl}{h:Int}{s t:Nat}{zs:List Str}{rs:List (List Nat)}{ks:List Nat}{g:Str}
end
end Dp
namespace My
open PySem PySem.Spec PyProof.Rows L2
section
variable {prog:Program}{w:World}{A:Around}{E:Value->Shared->Prop}{s:Shared}
end
def vY (n:Nat)(o:Option Int)(d:Nat)(hd:d<=n):HT.sIx n d o<=n:=by
  cases o with
  |none=>exact hd
  |some i =>show(if i<0 then(i+n).toNat else min i.toNat n)<=n;split<;>lia
section
open AutoSeq1 (wpAny_loadPart')
variable {prog:Program}{w:World}{A:Around}{E:Value->Shared->Prop}{s:Shared}
def zlD {it t:Addr}{i:Nat}{items:Array Value}{x:Value}{Q:Value->Shared->Prop}(hit:s.heap.IsTupleIter it t i)(ht:s.heap.IsTuple t items)(hx:items[i]?=some x)
  (hQ:∀ h',h'.IsTupleIter it t (i+1)->Heap.SameBut it s.heap h'->Q x { s with heap:=h' }):wpAny (model prog w) A (Builtin.SmallTypes.nextOf (.ref it)) Q E s:=by
 obtain⟨o,ho,hc,hd⟩:=id hit;obtain⟨ol,hol,_,nl,hdl⟩:=ht;unfold Builtin.SmallTypes.nextOf;refine wpAny_bind (wpAny_callSpecial?_slot (name:=Str.ofString "__next__") hit.typeIs F.slot_tuple_iterator_next (wpAny_call_entry F.slot_tuple_iterator_next hit.typeIs F.entry_tuple_iterator_next ?_ (F.args_tuple_iterator_next_1 _)));show wpAny _ _ (field (.ref it) 0 >>= _) _ _ s;refine wpAny_bind (wpAny_field ho hd (x:=.ref t) rfl ?_);show wpAny _ _ (if(Value.ref t==Value.none)=true then _ else _) _ _ s;rw[if_neg (show ¬ ((Value.ref t==Value.none)=true)from qu)];show wpAny _ _ (field (.ref it) 1 >>= _) _ _ s;refine wpAny_bind (wpAny_field ho hd (x:=.int i 0) rfl ?_);show wpAny _ _ (seqItems? (.ref t) >>= _) _ _ s;refine wpAny_bind (wpAny_seqItems hol hdl ?_);simp only[Kv,hx];refine wpAny_bind (wpAny_setField ho hd (by simp) (wpAny_pure ⟨x,rfl,wpAny_pure (hQ _ ?_ (Heap.SameBut.update ..))⟩));exact⟨_,Heap.get?_update_self _ ho (Obj.isFreed_of_fields (Obj.data_mapFields hd _)),(Obj.cls_mapFields ..).trans hc,by rw[Obj.data_mapFields hd];simp[rawInt]⟩
def zna {it t:Addr}{i:Nat}{items:Array Value}{Q:Value->Shared->Prop}(hh:A.handled=none)(hit:s.heap.IsTupleIter it t i)(ht:s.heap.IsTuple t items)(hx:items[i]?=none)
  (hE:∀ h' e,Heap.ExtBut it s.heap h'->(∃ o,h'.get? e=some o/\o.cls=.type "StopIteration")->E (.ref e) { s with heap:=h' }):wpAny (model prog w) A (Builtin.SmallTypes.nextOf (.ref it)) Q E s:=by
 obtain⟨o,ho,hc,hd⟩:=id hit;obtain⟨ol,hol,_,nl,hdl⟩:=ht;unfold Builtin.SmallTypes.nextOf;refine wpAny_bind (wpAny_callSpecial?_slot (name:=Str.ofString "__next__") hit.typeIs F.slot_tuple_iterator_next (wpAny_call_entry F.slot_tuple_iterator_next hit.typeIs F.entry_tuple_iterator_next ?_ (F.args_tuple_iterator_next_1 _)));show wpAny _ _ (field (.ref it) 0 >>= _) _ _ s;refine wpAny_bind (wpAny_field ho hd (x:=.ref t) rfl ?_);show wpAny _ _ (if(Value.ref t==Value.none)=true then _ else _) _ _ s;rw[if_neg (show ¬ ((Value.ref t==Value.none)=true)from qu)];show wpAny _ _ (field (.ref it) 1 >>= _) _ _ s;refine wpAny_bind (wpAny_field ho hd (x:=.int i 0) rfl ?_);show wpAny _ _ (seqItems? (.ref t) >>= _) _ _ s;refine wpAny_bind (wpAny_seqItems hol hdl ?_);simp only[Kv,hx];refine wpAny_bind (wpAny_rule (wpAny_bind (wpAny_setField ho hd (by simp) ?_)));show wpAny _ _ (newExc (.type "StopIteration") [] >>= _) _ _ _;refine wpAny_bind ?_;simp only[newExc,newTuple];refine wpAny_bind (wpAny_newObj_type ?_ (by size_fits));refine wpAny_bind (m:=firstArgMember _ _) (wpAny_of_eq (a:=Value.none) (by first|rfl|(simp only[firstArgMember];rfl)) ?_);refine wpAny_newObj_type ?_ (by size_fits);simp only[raiseNew];refine wpAny_bind (wpAny_handled ?_)
 first|rw[show A.in1.handled=none from hh]|rw[hh]
 refine wpAny_bind (wpAny_pure (wpAny_throw ?_));exact hE _ _ (((Heap.SameBut.update ..).extBut.push _).push _) ⟨_,qo _ rfl,rfl⟩
end
section
variable {X:Cx}
end
def YW:Bool->Heap->Addr->Addr->Nat->Prop
 |true,h,it,l,k=>h.IsListIter it l k
 |false,h,it,l,k=>h.IsTupleIter it l k
def Yv:Bool->Heap->Addr->Array Value->Prop
 |true,h,l,xs=>h.IsList l xs
 |false,h,l,xs=>h.IsTuple l xs
def YW.grow {k:Nat}(x:YW b h it l k)(e:Heap.ExtBut c h h')(n:it≠c):YW b h' it l k:=by
 cases b
 ·exact Heap.IsTupleIter.extBut (show h.IsTupleIter it l k from x) e n
 ·exact Heap.IsListIter.extBut (show h.IsListIter it l k from x) e n
def Yv.grow (x:Yv b h l xs)(e:Heap.ExtBut c h h')(n:l≠c):Yv b h' l xs:=by
 cases b
 ·exact Heap.IsTuple.extBut (show h.IsTuple l xs from x) e n
 ·exact Heap.IsList.extBut (show h.IsList l xs from x) e n
def YW.obj {k:Nat}(x:YW b h it l k):∃ o,h.get? it=some o/\(o.cls=.type "list_iterator"\/o.cls=.type "tuple_iterator")/\∃ vs,o.data=.fields vs:=by
 cases b
 ·obtain⟨o,ho,hc,hd⟩:h.IsTupleIter it l k:=x;exact⟨o,ho,.inr hc,_,hd⟩
 ·obtain⟨o,ho,hc,hd⟩:h.IsListIter it l k:=x;exact⟨o,ho,.inl hc,_,hd⟩
def YW.at {h':Heap}{k:Nat}(x:YW b h it l k)(e:∀ o,h.get? it=some o->h'.get? it=some o):YW b h' it l k:=by
 cases b
 ·obtain⟨o,ho,hc,hd⟩:h.IsTupleIter it l k:=x;exact(⟨o,e o ho,hc,hd⟩:h'.IsTupleIter it l k)
 ·obtain⟨o,ho,hc,hd⟩:h.IsListIter it l k:=x;exact(⟨o,e o ho,hc,hd⟩:h'.IsListIter it l k)
def Yv.lt (x:Yv b h l xs):l<h.objs.size:=by
 cases b
 ·obtain⟨o,ho,_⟩:h.IsTuple l xs:=x;exact qv ho
 ·obtain⟨o,ho,_⟩:h.IsList l xs:=x;exact qv ho
section
variable {prog:Program}{w:World}{A:Around}{E:Value->Shared->Prop}{s:Shared}
def Br {t:Addr}{items:Array Value}{x:Value}{Q:Value->Shared->Prop}(hit:YW b s.heap it t i)(ht:Yv b s.heap t items)(hx:items[i]?=some x)(hQ:∀ h',YW b h' it t (i+1)->Heap.SameBut it s.heap h'->Q x { s with heap:=h' }):wpAny (model prog w) A (Builtin.SmallTypes.nextOf (.ref it)) Q E s:=by
 cases b
 ·exact zlD hit ht hx hQ
 ·exact wpAny_nextOf_list_item hit ht hx hQ
def mK {t:Addr}{items:Array Value}{Q:Value->Shared->Prop}(hh:A.handled=none)(hit:YW b s.heap it t i)(ht:Yv b s.heap t items)(hx:items[i]?=none)(hE:∀ h' e,Heap.ExtBut it s.heap h'->(∃ o,h'.get? e=some o/\o.cls=.type "StopIteration")->E (.ref e) { s with heap:=h' }):wpAny (model prog w) A (Builtin.SmallTypes.nextOf (.ref it)) Q E s:=by
 cases b
 ·exact zna hh hit ht hx hE
 ·exact wpAny_nextOf_list_end hh hit ht hx hE
def zk3 {TI TO:Addr}{k:Nat}{x y:Value}{Q:Option Value->Shared->Prop}(D:ZipApart z TI TO i1 i2 l1 l2)(hz:IsZip s.heap z TI TO .none)(hTI:IsPair s.heap TI (.ref i1) (.ref i2))(hTO:IsPair s.heap TO a b)(h1:YW b1 s.heap i1 l1 k)(h2:YW b2 s.heap i2 l2 k)(hl1:Yv b1 s.heap l1 xs)(hl2:Yv b2 s.heap l2 ys)(hx:xs[k]?=some x)(hy:ys[k]?=some y)(hQ:∀ h',IsZip h' z TI TO (rawInt s.heap.objs.size)->IsPair h' TO x y->YW b1 h' i1 l1 (k+1)->YW b2 h' i2 l2 (k+1)->IsPair h' s.heap.objs.size x y ->
   (∀ c o,c≠z->c≠TO->c≠i1->c≠i2->s.heap.get? c=some o->h'.get? c=some o)->Q (some (.ref s.heap.objs.size)) { s with heap:=h' }):wpAny (model prog w) A (pyNext (.ref z)) Q E s:=by
 have hT:s.TypeIs (.ref z) "zip":=⟨_,hz,rfl⟩
 unfold pyNext;refine wpAny_bind (wpAny_attempt (wpAny_callSpecial?_slot (name:=Str.ofString "__next__") hT F.slot_zip_next (wpAny_call_entry F.slot_zip_next hT F.entry_zip_next ?_ (F.args_zip_next_1 _))));show wpAny _ _ (field (.ref z) 2 >>= _) _ _ _;refine wpAny_bind (wpAny_field hz rfl (x:=.bool false) rfl ?_);show wpAny _ _ (field (.ref z) 3 >>= _) _ _ _;refine wpAny_bind (wpAny_field hz rfl (x:=.ref TI) rfl (wpAny_bind (wpAny_seqItems hTI rfl ?_)));show wpAny _ _ (Builtin.SmallTypes.ownedTupleIsFree (.ref z) >>= _) _ _ _;refine wpAny_bind ?_;unfold Builtin.SmallTypes.ownedTupleIsFree;refine wpAny_bind (wpAny_field hz rfl (x:=.none) rfl (wpAny_pure ?_));simp only[if_true];refine wpAny_bind (wpAny_rule (wpAny_bind (wpAny_field hz rfl (x:=.ref TO) rfl (wpAny_bind (wpAny_setField_rec hz (by simp) fun g1 z1 e1=>?_)))))
 replace z1:IsZip g1 z TI TO .ellipsis:=z1
 refine wpAny_bind ?_;simp only[List.zipIdx_cons,List.zipIdx_nil,Kr,M5];refine wpAny_bind (wpAny_bind (wpAny_onRaise ?_));show wpAny _ _ (Builtin.SmallTypes.nextOf (.ref i1) >>= _) _ _ _;refine wpAny_bind (Br (h1.grow e1.extBut D.i1z) (hl1.grow e1.extBut D.l1z) hx fun g2 t1 e2=>wpAny_pure ?_);have p2:IsPair g2 TO a b:=e2.extBut _ _ D.TOi1 (e1.extBut _ _ D.TOz hTO);refine wpAny_bind (wpAny_seqItems p2 rfl (wpAny_bind (wpAny_updateSeq_pair p2 fun g3 p3 e3=>wpAny_bind (wpAny_letGo (wpAny_pure ?_)))))
 replace p3:IsPair g3 TO x b:=p3
 refine wpAny_bind (wpAny_bind (wpAny_onRaise ?_));show wpAny _ _ (Builtin.SmallTypes.nextOf (.ref i2) >>= _) _ _ _;refine wpAny_bind (Br (((h2.grow e1.extBut D.i2z).grow e2.extBut D.i12.symm).grow e3.extBut D.TOi2.symm) (((hl2.grow e1.extBut D.l2z).grow e2.extBut D.l2i1).grow e3.extBut D.l2TO) hy fun g4 t2 e4=>wpAny_pure ?_);have p4:IsPair g4 TO x b:=e4.extBut _ _ D.TOi2 p3;refine wpAny_bind (wpAny_seqItems p4 rfl (wpAny_bind (wpAny_updateSeq_pair p4 fun g5 p5 e5=>wpAny_bind (wpAny_letGo (wpAny_pure (wpAny_pure ?_))))))
 replace p5:IsPair g5 TO x y:=p5
 refine wpAny_bind (wpAny_seqItems p5 rfl (wpAny_bind (wpAny_newTuple ?_)));have sz:g5.objs.size=s.heap.objs.size:=by rw[e5.1,e4.1,e3.1,e2.1,e1.1]
 have z5:IsZip g5 z TI TO .ellipsis:=e5.extBut _ _ D.TOz.symm (e4.extBut _ _ D.i2z.symm (e3.extBut _ _ D.TOz.symm (e2.extBut _ _ D.i1z.symm z1)));have k5:∀ c o,c≠z->c≠TO->c≠i1->c≠i2->s.heap.get? c=some o->g5.get? c=some o:=fun c o c1 c2 c3 c4 e=>e5.extBut _ _ c2 (e4.extBut _ _ c4 (e3.extBut _ _ c2 (e2.extBut _ _ c3 (e1.extBut _ _ c1 e))))
 have u1:YW b1 g5 i1 l1 (k+1):=((t1.grow e3.extBut D.TOi1.symm).grow e4.extBut D.i12).grow e5.extBut D.TOi1.symm;have u2:YW b2 g5 i2 l2 (k+1):=t2.grow e5.extBut D.TOi2.symm;have zl:z<g5.objs.size:=qv z5;show wpAny _ _ (Builtin.SmallTypes.ownedTupleHandOut (.ref z) (.ref g5.objs.size) >>= _) _ _ _;refine wpAny_bind ?_;unfold Builtin.SmallTypes.ownedTupleHandOut;have z6:IsZip (g5.push { cls:=.type "tuple",data:=.seq #[x,y] }) z TI TO .ellipsis:=qc _ z5;refine wpAny_bind (wpAny_setField_rec z6 (by simp) fun g7 z7 e7=>?_)
 replace z7:IsZip g7 z TI TO (rawInt g5.objs.size):=z7
 refine wpAny_setField_rec z7 (by simp) fun g8 z8 e8=>?_
 replace z8:IsZip g8 z TI TO (rawInt g5.objs.size):=z8
 have up:∀ c o,c≠z->g5.get? c=some o->g8.get? c=some o:=fun c o c1 e=>e8.extBut _ _ c1 (e7.extBut _ _ c1 (qc _ e))
 have t8:IsPair g8 g5.objs.size x y:=e8.extBut _ _ (Wh zl) (e7.extBut _ _ (Wh zl) (qo _ rfl));rw[sz]at z8 t8;refine wpAny_pure ⟨_,rfl,wpAny_pure ?_⟩;show Q (some (.ref g5.objs.size)) _;rw[sz];exact hQ g8 z8 (up _ _ D.TOz p5) (u1.at fun o e=>up _ o D.i1z e) (u2.at fun o e=>up _ o D.i2z e) t8 fun c o c1 c2 c3 c4 e=>up c o c1 (k5 c o c1 c2 c3 c4 e)
def znu {TI TO:Addr}{k:Nat}{Q:Option Value->Shared->Prop}(hh:A.handled=none)(D:ZipApart z TI TO i1 i2 l1 l2)(hz:IsZip s.heap z TI TO .none)(hTI:IsPair s.heap TI (.ref i1) (.ref i2))(hTO:IsPair s.heap TO a b)(h1:YW b1 s.heap i1 l1 k)(h2:YW b2 s.heap i2 l2 k)(hl1:Yv b1 s.heap l1 xs)(hl2:Yv b2 s.heap l2 ys)(hend:xs[k]?=none\/ys[k]?=none)(hQ:∀ h',(∀ c o,c≠z->c≠TO->c≠i1->c≠i2->s.heap.get? c=some o->h'.get? c=some o)->Q none { s with heap:=h' }):wpAny (model prog w) A (pyNext (.ref z)) Q E s:=by
 have hT:s.TypeIs (.ref z) "zip":=⟨_,hz,rfl⟩
 unfold pyNext;refine wpAny_bind (wpAny_attempt (wpAny_callSpecial?_slot (name:=Str.ofString "__next__") hT F.slot_zip_next (wpAny_call_entry F.slot_zip_next hT F.entry_zip_next ?_ (F.args_zip_next_1 _))))
 have out:∀ h' e,(∀ c o,c≠z->c≠TO->c≠i1->c≠i2->s.heap.get? c=some o->h'.get? c=some o)->(∃ o,h'.get? e=some o/\o.cls=.type "StopIteration") ->
   wpAny (model prog w) A ((isInstance (.ref e) (.type "StopIteration")) >>= fun b=>if b=true then pure none else throw (.ref e)) Q E { s with heap:=h' }:=fun h' e hk he=>by
  obtain⟨o,ho,hc⟩:=he;exact wpAny_bind (wpAny_isInstance (T:="StopIteration") (b:=true) ⟨o,ho,hc⟩ isSubtype_stop (wpAny_pure (hQ _ hk)))
 show wpAny _ _ (field (.ref z) 2 >>= _) _ _ _;refine wpAny_bind (wpAny_field hz rfl (x:=.bool false) rfl ?_);show wpAny _ _ (field (.ref z) 3 >>= _) _ _ _;refine wpAny_bind (wpAny_field hz rfl (x:=.ref TI) rfl (wpAny_bind (wpAny_seqItems hTI rfl ?_)));show wpAny _ _ (Builtin.SmallTypes.ownedTupleIsFree (.ref z) >>= _) _ _ _;refine wpAny_bind ?_;unfold Builtin.SmallTypes.ownedTupleIsFree;refine wpAny_bind (wpAny_field hz rfl (x:=.none) rfl (wpAny_pure ?_));simp only[if_true];refine wpAny_bind (wpAny_rule (wpAny_bind (wpAny_field hz rfl (x:=.ref TO) rfl (wpAny_bind (wpAny_setField_rec hz (by simp) fun g1 z1 e1=>?_)))))
 replace z1:IsZip g1 z TI TO .ellipsis:=z1
 refine wpAny_bind ?_;simp only[List.zipIdx_cons,List.zipIdx_nil,Kr,M5];refine wpAny_bind (wpAny_bind (wpAny_onRaise ?_));show wpAny _ _ (Builtin.SmallTypes.nextOf (.ref i1) >>= _) _ _ _;cases hx:xs[k]? with
 |none =>
  refine wpAny_bind (mK hh (h1.grow e1.extBut D.i1z) (hl1.grow e1.extBut D.l1z) hx fun g2 e e2 ⟨oe,hoe,hce⟩=>?_);have z2:IsZip g2 z TI TO .ellipsis:=e2 _ _ D.i1z.symm z1;have ne:e≠z:=fun q=>by subst q;rw[z2]at hoe;cases hoe;simp at hce
  exact wpAny_setField_rec z2 (by simp) fun g3 _ e3=>out g3 e (fun c o c1 _ c3 _ q=>e3.extBut _ _ c1 (e2 _ _ c3 (e1.extBut _ _ c1 q))) ⟨oe,e3.extBut _ _ ne hoe,hce⟩
 |some x =>
  have hy:ys[k]?=none:=by rcases hend with h|h;rw[hx]at h;cases h;exact h
  refine wpAny_bind (Br (h1.grow e1.extBut D.i1z) (hl1.grow e1.extBut D.l1z) hx fun g2 t1 e2=>wpAny_pure ?_);have p2:IsPair g2 TO a b:=e2.extBut _ _ D.TOi1 (e1.extBut _ _ D.TOz hTO);refine wpAny_bind (wpAny_seqItems p2 rfl (wpAny_bind (wpAny_updateSeq_pair p2 fun g3 p3 e3=>wpAny_bind (wpAny_letGo (wpAny_pure ?_)))));refine wpAny_bind (wpAny_bind (wpAny_onRaise ?_));show wpAny _ _ (Builtin.SmallTypes.nextOf (.ref i2) >>= _) _ _ _;refine wpAny_bind (mK hh (((h2.grow e1.extBut D.i2z).grow e2.extBut D.i12.symm).grow e3.extBut D.TOi2.symm) (((hl2.grow e1.extBut D.l2z).grow e2.extBut D.l2i1).grow e3.extBut D.l2TO) hy fun g4 e e4 ⟨oe,hoe,hce⟩=>?_);have z4:IsZip g4 z TI TO .ellipsis:=e4 _ _ D.i2z.symm (e3.extBut _ _ D.TOz.symm (e2.extBut _ _ D.i1z.symm z1));have ne:e≠z:=fun q=>by subst q;rw[z4]at hoe;cases hoe;simp at hce
  exact wpAny_setField_rec z4 (by simp) fun g5 _ e5=>out g5 e (fun c o c1 c2 c3 c4 q=>e5.extBut _ _ c1 (e4 _ _ c4 (e3.extBut _ _ c2 (e2.extBut _ _ c3 (e1.extBut _ _ c1 q))))) ⟨oe,e5.extBut _ _ ne hoe,hce⟩
end
abbrev xT (b:Bool):String:=if b=true then "list_iterator" else "tuple_iterator"
abbrev Pz (b:Bool)(h:Heap)(l:Addr):Heap:=h.push { cls:=.type (xT b),data:=.fields #[.ref l,.int 0 0] }
abbrev KH (b1 b2:Bool)(h:Heap)(l1 l2:Addr):Heap:=Pz b2 (Pz b1 h l1) l2
abbrev KR (b1 b2:Bool)(h:Heap)(l1 l2:Addr):Heap:=(KH b1 b2 h l1 l2).push { cls:=.type "tuple",data:=.seq #[.ref h.objs.size,.ref (Pz b1 h l1).objs.size] }
abbrev Jz (b1 b2:Bool)(h:Heap)(l1 l2:Addr):Heap:=(KR b1 b2 h l1 l2).push { cls:=.type "tuple",data:=.seq #[.none,.none] }
abbrev Uc (b1 b2:Bool)(h:Heap)(l1 l2:Addr):Heap:=(Jz b1 b2 h l1 l2).push { cls:=.type "zip",data:=.fields #[.none,.bool false,.bool false,.ref (KH b1 b2 h l1 l2).objs.size,.ref (KR b1 b2 h l1 l2).objs.size] }
theorem Yv.push (x:Yv b h l xs)(o:Obj):Yv b (h.push o) l xs:=by
 cases b
 ·obtain⟨u,hu,r⟩:h.IsTuple l xs:=x;exact(⟨u,qc _ hu,r⟩:(h.push o).IsTuple l xs)
 ·obtain⟨u,hu,r⟩:h.IsList l xs:=x;exact(⟨u,qc _ hu,r⟩:(h.push o).IsList l xs)
def ϙ (b:Bool)(l1 l2:Addr)(xs ys:Array Value) :
  Meets (Builtin.«zip.__new__» ⟨[.type "zip",.ref l1,.ref l2],[]⟩) (fun _ R s=>Yv b s.heap l1 xs/\Yv b s.heap l2 ys/\R (.ok (.ret (.ref (Jz b b s.heap l1 l2).objs.size))) { s with heap:=Uc b b s.heap l1 l2 }):=by
 cases b
 ·exact .of_wp fun prog w A R s h=>by
   obtain⟨hp,g,d,tk,os⟩:=s;obtain⟨h1,h2,h⟩:=h;have hsub:=sub_zip;have q1:Heap.IsTuple (Shared.heap ⟨hp,g,d,tk,os⟩) l1 xs:=h1;have q2:Heap.IsTuple (Shared.heap ⟨hp.push { cls:=.type "tuple_iterator",data:=.fields #[.ref l1,.int 0 0] },g,d,tk,os⟩) l2 ys:=Yv.push (b:=false) h2 _
   wp_walk using wpAny_pyIter_tuple q1,wpAny_pyIter_tuple q2
   exact⟨_,rfl,h⟩
 ·exact meets_zip_new l1 l2 xs ys
def wj {b:Bool}{h:Heap}{it l:Addr}(e:h.get? it=some { cls:=.type (xT b),data:=.fields #[.ref l,.int 0 0] }):YW b h it l 0:=by
 cases b
 ·exact(⟨_,e,rfl,rfl⟩:h.IsTupleIter it l 0)
 ·exact(⟨_,e,rfl,rfl⟩:h.IsListIter it l 0)
section
variable {prog:Program}{w:World}{A:Around}{E:Value->Shared->Prop}{s:Shared}
def zxT {Q:Value->Shared->Prop}(hl1:Yv b s.heap l1 xs)(hl2:Yv b s.heap l2 ys)(h:∀ h',IsZip h' (s.heap.objs.size+4) (s.heap.objs.size+2) (s.heap.objs.size+3) .none->IsPair h' (s.heap.objs.size+2) (.ref s.heap.objs.size) (.ref (s.heap.objs.size+1))->IsPair h' (s.heap.objs.size+3) .none .none->YW b h' s.heap.objs.size l1 0->YW b h' (s.heap.objs.size+1) l2 0 ->
   (∀ c o,s.heap.get? c=some o->h'.get? c=some o)->Q (.ref (s.heap.objs.size+4)) { s with heap:=h' }):wpAny (model prog w) A (call (.type "zip") [.ref l1,.ref l2]) Q E s:=by
 refine callType_new F.called_zip (by decide) (F.typeCall_zip_2 _ _) (F.newCall_zip_2 _ _) (fun obj=>F.args_object_init_3 obj _ _) F.entry_zip_new (ϙ b l1 l2 xs ys) ⟨hl1,hl2,?_⟩;have s1:(Pz b s.heap l1).objs.size=s.heap.objs.size+1:=W0 ..;have s2:(KH b b s.heap l1 l2).objs.size=s.heap.objs.size+2:=by rw[W0,s1]
 have s3:(KR b b s.heap l1 l2).objs.size=s.heap.objs.size+3:=by rw[W0,s2]
 have s4:(Jz b b s.heap l1 l2).objs.size=s.heap.objs.size+4:=by rw[W0,s3]
 have v1:(Uc b b s.heap l1 l2).get? s.heap.objs.size=some _:=(fun c o q=>qc _ (qc _ (qc _ (qc _ q))):∀ c o,(Pz b s.heap l1).get? c=some o->(Uc b b s.heap l1 l2).get? c=some o) _ _ (qo _ rfl);have v2:(Uc b b s.heap l1 l2).get? (Pz b s.heap l1).objs.size=some _:=(fun c o q=>qc _ (qc _ (qc _ q)):∀ c o,(KH b b s.heap l1 l2).get? c=some o->(Uc b b s.heap l1 l2).get? c=some o) _ _ (qo _ rfl);have v3:(Uc b b s.heap l1 l2).get? (KH b b s.heap l1 l2).objs.size=some _:=(fun c o q=>qc _ (qc _ q):∀ c o,(KR b b s.heap l1 l2).get? c=some o->(Uc b b s.heap l1 l2).get? c=some o) _ _ (qo _ rfl);have v4:(Uc b b s.heap l1 l2).get? (KR b b s.heap l1 l2).objs.size=some _:=qc _ (qo _ rfl);have v5:(Uc b b s.heap l1 l2).get? (Jz b b s.heap l1 l2).objs.size=some _:=qo _ rfl;show _/\_;rw[s2,s3,s4]at v5;rw[s1,s2]at v3;rw[s3]at v4;rw[s1]at v2;rw[s4];exact⟨⟨_,v5,rfl⟩,h _ v5 v3 v4 (wj v1) (wj v2) fun c o x=>qc _ (qc _ (qc _ (qc _ (qc _ x))))⟩
end
def W5 (K:PySem.W.Frag)(b:Bool)(H:Hp)(l:Addr)(xs:List V):Prop:=match b with
 |true=>Zz K H l xs
 |false=>ZG K H l xs
def W5.items (I:Inv X Z9 U H s)(h:W5 X.K b H l xs):∃ its:List Value,Vals xs its/\Yv b s.heap l its.toArray:=by
 cases b
 ·obtain⟨its,r,p,_⟩:=I.tuple (show ZG X.K H l xs from h);exact⟨its,r,p⟩
 ·obtain⟨its,r,p,_⟩:=I.list (show Zz X.K H l xs from h);exact⟨its,r,p.isList⟩
def W5.inj (I:Inv X Z9 U H s)(h:W5 X.K b H l xs)(h':W5 X.K b H l ys):xs=ys:=by
 cases b
 ·exact I.tuple_inj (show ZG X.K H l xs from h) h'
 ·exact I.list_inj (show Zz X.K H l xs from h) h'
def J7 (K:PySem.W.Frag)(b1 b2:Bool)(l1 l2:Addr):It :=
  ⟨fun i H=>∃ xs ys x y,W5 K b1 H l1 xs/\W5 K b2 H l2 ys/\xs[i]?=some x/\ys[i]?=some y,
   fun i H v H'=>∃ p,v=.ref p/\H p=none/\∀ xs ys x y,W5 K b1 H l1 xs->W5 K b2 H l2 ys->xs[i]?=some x->ys[i]?=some y->H'=upd H p (.tup [x,y]),
   fun i H=>∃ xs ys,W5 K b1 H l1 xs/\W5 K b2 H l2 ys/\(xs.length<=i\/ys.length<=i)⟩
def znF {P:Program}{w:World}{K:PySem.W.Frag}{es:List Expr}{kk:Nat}{pos:Pos}{b1 b2:Bool}{TI TO:Addr}(D:ZipApart z TI TO i1 i2 l1 l2) :
  Turn P w K (.Tuple es kk pos) (J7 K b1 b2 l1 l2) [z,TI,TO,i1,i2] z (fun i h=>IsZip h z TI TO .none/\IsPair h TI (.ref i1) (.ref i2)/\(∃ a b,IsPair h TO a b)/\YW b1 h i1 l1 i/\YW b2 h i2 l2 i) where
 mem:=by simp
 obj:=fun i h st b hb=>by
  obtain⟨hz,hTI,⟨a,c,hTO⟩,q1,q2⟩:=st;obtain⟨o1,g1,_,_,d1⟩:=q1.obj;obtain⟨o2,g2,_,_,d2⟩:=q2.obj;simp only[ql,qK,or_false]at hb;rcases hb with rfl|rfl|rfl|rfl|rfl
  ·exact⟨_,hz,fun v q=>by cases(show Data.fields _=Data.cell v from q)⟩
  ·exact⟨_,hTI,fun v q=>by cases(show Data.seq _ _=Data.cell v from q)⟩
  ·exact⟨_,hTO,fun v q=>by cases(show Data.seq _ _=Data.cell v from q)⟩
  ·exact⟨_,g1,fun v q=>by rw[d1]at q;cases q⟩
  ·exact⟨_,g2,fun v q=>by rw[d2]at q;cases q⟩
 keep:=fun i h h' st k=>by obtain⟨hz,hTI,⟨a,c,hTO⟩,q1,q2⟩:=st;exact⟨k z (by simp) _ hz,k TI (by simp) _ hTI,⟨a,c,k TO (by simp) _ hTO⟩,q1.at fun o e=>k i1 (by simp) o e,q2.at fun o e=>k i2 (by simp) o e⟩
 item:=by
  intro X hP hw hK hc i Z9 s U H E I hf st hg;subst hP hw hK;obtain⟨hz,hTI,⟨a,c,hTO⟩,q1,q2⟩:=st;obtain⟨xs,ys,x,y,hx1,hy1,hx,hy⟩:=hg;obtain⟨its,rx,px⟩:=hx1.items I;obtain⟨jts,ry,py⟩:=hy1.items I;obtain⟨u,hu,ru⟩:=Vals.get rx hx;obtain⟨v,hv,rv⟩:=Vals.get ry hy;refine zk3 D hz hTI hTO q1 q2 px py (by simpa using hu) (by simpa using hv) fun h' a1 a2 a3 a4 a5 hk=>?_
  refine⟨_,rfl,wpAny_letOwnedTupleGo_zip a1 fun h'' hz'' hs''=>?_⟩;have lt:∀ {c o},s.heap.get? c=some o->s.heap.objs.size≠c:=fun e=>Wh (qv e)
  have k2:∀ b u,b∉[z,TI,TO,i1,i2]->s.heap.get? b=some u->h''.get? b=some u:=fun b u hb e=>by simp only[ql,qK,or_false,not_or]at hb;exact hs''.extBut b u hb.1 (hk b u hb.1 hb.2.2.1 hb.2.2.2.1 hb.2.2.2.2 e)
  have new:h''.get? s.heap.objs.size=some { cls:=.type "tuple",data:=.seq #[u,v] }:=hs''.extBut _ _ (lt hz) a5;refine⟨.ref s.heap.objs.size,upd H s.heap.objs.size (.tup [x,y]),I.turnNew (t':=s.toks) hf k2 (qh _) ⟨by show 2<=sizeLine;decide,[u,v],.cons ru (.cons rv .nil),_,new,rfl,_,rfl⟩,rfl,⟨_,rfl,I.fresh,?_⟩,?_,fun b hb=>?_⟩
  ·intro xs' ys' x' y' hx1' hy1' hx' hy';cases hx1.inj I hx1';cases hy1.inj I hy1';rw[hx]at hx';rw[hy]at hy';cases hx';cases hy';rfl
  ·exact⟨hz'',hs''.extBut _ _ D.TIz (hk _ _ D.TIz D.TITO D.TIi1 D.TIi2 hTI),⟨_,_,hs''.extBut _ _ D.TOz a2⟩,a3.grow hs''.extBut D.i1z,a4.grow hs''.extBut D.i2z⟩
  ·have:∃ o,s.heap.get? b=some o:=by
    simp only[ql,qK,or_false]at hb;obtain⟨o1,e1,_⟩:=q1.obj;obtain⟨o2,e2,_⟩:=q2.obj;rcases hb with rfl|rfl|rfl|rfl|rfl
    ·exact⟨_,hz⟩
    ·exact⟨_,hTI⟩
    ·exact⟨_,hTO⟩
    ·exact⟨_,e1⟩
    ·exact⟨_,e2⟩
   obtain⟨o,e⟩:=this;rw[zu (lt e).symm];exact(hf b hb).1
 done:=by
  intro X hP hw hK hc i Z9 s U H E I hf st hg;subst hP hw hK;obtain⟨hz,hTI,⟨a,c,hTO⟩,q1,q2⟩:=st;obtain⟨xs,ys,hx1,hy1,hl⟩:=hg;obtain⟨its,rx,px⟩:=hx1.items I;obtain⟨jts,ry,py⟩:=hy1.items I;have n1:=rx.length;have n2:=ry.length;refine znu (I.ok.hd hc) D hz hTI hTO q1 q2 px py ?_ fun h' hk=>⟨rfl,I.turnedL (t':=s.toks) hf fun b u hb e=>?_⟩
  ·rcases hl with hl|hl
   ·exact .inl (by rw[CJ];exact qA (by lia))
   ·exact .inr (by rw[CJ];exact qA (by lia))
  ·simp only[ql,qK,or_false,not_or]at hb;exact hk b u hb.1 hb.2.2.1 hb.2.2.2.1 hb.2.2.2.2 e
 self:=fun _ _ _ _ _ st h=>wpAny_pyIter_zip st.1 h
section
variable {X:Cx}
def zwg (K:PySem.W.Frag)(ta:TA):TI:=fun U H R=>ta U H fun vs H1=>∃ b l1 l2,vs=[.ref l1,.ref l2]/\(∃ xs,W5 K b H1 l1 xs)/\(∃ ys,W5 K b H1 l2 ys)/\R (J7 K b b l1 l2) H1
def zqL {es:List Expr}{kk:Nat}{tpos:Pos}{a b:Expr}{ta:TA}{p pos:Pos}(hg:Gl X "zip")(hm:X.mg "zip"=none)(ha:PA X [a,b] ta)(hs:autoParam (starEach [a,b] X.env=[(false,eval a X.env),(false,eval b X.env)]) zy)(hs2:autoParam (starEach [b] X.env=[(false,eval b X.env)]) zy) :
    PI X (.Tuple es kk tpos) (.Call (.Name "zip" p) [a,b] [] pos) (zwg X.K ta):=by
  intro Z9 s U H R I h;refine Call_ (VR I hg hm boot_zip (PyProof.Rows.callWith_type1 (Z2 (ha pos Z9 s U H _ I h) fun us s1 ⟨vs,H1,I1,r1,q1⟩=>?_) (by rw[hs,hs2]) (by rw[hs2];rfl)));obtain⟨b',l1,l2,e,⟨xs,hx⟩,⟨ys,hy⟩,q⟩:=q1;subst e;obtain⟨u,v,rfl,ru,rv⟩:=vals2 r1;cases ru;cases rv;obtain⟨its,rx,px⟩:=hx.items I1;obtain⟨jts,ry,py⟩:=hy.items I1;refine zxT px py fun h' hz hTI hTO h1 h2 hk=>?_
  have I2:Inv X Z9 U H1 { s1 with heap:=h' }:=I1.kept (t':=s1.toks) hk;refine wpAny_pyIter_zip (s:={ s1 with heap:=h' }) hz ⟨_,_,_,_,H1,rfl,I2,znF (PyProof.Rows.zipApart_new px.lt py.lt),⟨hz,hTI,⟨_,_,hTO⟩,h1,h2⟩,fun b hb=>?_,q⟩
  have hb':s1.heap.objs.size<=b:=by simp only[ql,qK,or_false]at hb;rcases hb with rfl|rfl|rfl|rfl|rfl<;>first|exact MJ _ _|exact qh _
  exact I1.fpOk hb' (I1.hok.fresh hb')
end
section
end
section
variable {X:Cx}
end
section
variable {prog:Program}{w:World}{A:Around}{E:Value->Shared->Prop}{s:Shared}
end
section
variable {X:Cx}
end
section
variable {X:Cx}
end
section
variable {X:Cx}
end
section
variable {prog:Program}{w:World}{A:Around}{E:Value->Shared->Prop}{s:Shared}
end
section
variable {prog:Program}{w:World}{A:Around}{E:Value->Shared->Prop}{s:Shared}
end
section
variable {prog:Program}{w:World}{A:Around}{E:Value->Shared->Prop}{s:Shared}
end
section
variable {prog:Program}{w:World}{A:Around}{s:Shared}
abbrev U3 (prog:Program)(w:World)(h:Heap)(a:Addr)(c:List Str):Prop:=h.SetOf (PySem.strKind prog w) a (fun y=>c.any (·==y)) c.length
def U3.at {h':Heap}(x:U3 prog w h a c)(k:∀ o,h.get? a=some o->h'.get? a=some o):U3 prog w h' a c :=by obtain⟨o,es,ep,t,ho,r⟩:=x;exact⟨o,es,ep,t,k o ho,r⟩
theorem loopS {R:Result->Shared->Prop}{a:Addr}{wr:List Addr}{G:Array GenState->Array GenState->Prop}{n:Nat}{St:Nat->Shared->Prop}(W:WalksS prog w A.in1 it fp wr G n P St)(na:a∉fp)(f:Nat->Str)(hf:∀ i v,P i v->∃ t,v=.str (f i) t)(hb:n+1<scanBound) :
  ∀ (k i:Nat) (s:Shared),n-i=k->i<=n->St i s->U3 prog w s.heap a (Dp.Yl f i) ->
   (∀ s',Moved (a::wr) G s s'->U3 prog w s'.heap a (Dp.Yl f n)->R (.ok (.ret .none)) s') ->
   codeAny (model prog w) A (.builtin "set.update.loop" ⟨[.ref a,.ref it],[]⟩) R s
 |0,i,s,hk,hi,st,hS,hR=>by
  have e:i=n:=by lia
  subst e;refine codeAny_builtin PyProof.Rows.F.entry_set_update_loop ?_;rw[Around.under_plainId PyProof.Rows.F.plain_set_update_loop];show wpAny _ A.in1 (pyNext (.ref it) >>= _) _ _ _;refine wpAny_bind (W.done s _ _ st fun s' m=>wpAny_pure (hR s' (m.mono fun b q=>qi _ q) ?_));exact hS.at fun o q=>m.heap a o (fun z=>na (W.sub _ z)) q
 |k+1,i,s,hk,hi,st,hS,hR=>by
  refine codeAny_builtin PyProof.Rows.F.entry_set_update_loop ?_;rw[Around.under_plainId PyProof.Rows.F.plain_set_update_loop];show wpAny _ A.in1 (pyNext (.ref it) >>= _) _ _ _;refine wpAny_bind (W.item i s _ _ (by lia) st fun v s1 pv st1 m=>?_);obtain⟨t,rfl⟩:=hf i v pv;have h1:U3 prog w s1.heap a (Dp.Yl f i):=hS.at fun o q=>m.heap a o (fun z=>na (W.sub _ z)) q
  show wpAny _ A.in1 (holding [Value.str (f i) t] (setAdd a (Value.str (f i) t)) >>= _) _ _ _;refine wpAny_bind (wpAny_holding ?_);unfold setAdd;refine wpAny_holding (wpAny_bind ((PySem.strKind prog w).pyHash (k:=f i) (strKind_is _ _ _ _) ?_));have room:(Dp.Yl f i).length+1<scanBound:=by have:=Dp.Js f i;lia
  refine wpAny_setAddHashed_of (knd:=PySem.strKind prog w) (s:={ s1 with toks:=s1.toks+1 }) (strKind_is _ _ _ _) rfl h1 room fun h2 sb hS2=>?_
  have h3:U3 prog w h2 a (Dp.Yl f (i+1)):=SetOf_congr hS2 (fun y=>(Dp.xP _ _ _).symm) (Dp.Jf _ _).symm;refine wpAny_pure ⟨plainId_quiet PyProof.Rows.F.plain_set_update_loop _,loopS W na f hf hb k (i+1) _ (by lia) (by lia) (W.frame _ s1 _ _ st1 (Nat.le_succ _) fun b q o e=>?_) h3 fun s' m' hS'=>?_⟩
  ·exact(sb.2 b fun z=>na (z▸q)).trans e
  ·refine hR s' (Moved.trans W.gtrans ((m.mono fun b q=>qi _ q).then_heap (Nat.le_succ _) fun b o q e=>?_) m') hS';exact(sb.2 b fun z=>q (z▸qP)).trans e
end
section
variable {prog:Program}{w:World}{A:Around}{E:Value->Shared->Prop}{s:Shared}
abbrev Sy (led:Bool):Obj:={ cls:=.type "set",dict:=none,data:=.set #[] 0 (.fresh 0 0 led) }
def zm2 {l:Addr}{its:Array Value}(f:Nat->Str){Q:Value->Shared->Prop}(hh:A.handled=none)(hl:s.heap.IsList l its)(hf:∀ (i:Nat) v,its[i]?=some v->∃ t,v=.str (f i) t)(hb:its.size+1<scanBound)
    (h:∀ (h':Heap) (tk:Nat),U3 prog w h' s.heap.objs.size (Dp.Yl f its.size)->(∀ b o,b<s.heap.objs.size->s.heap.get? b=some o->h'.get? b=some o)->Q (.ref s.heap.objs.size) { s with heap:=h',toks:=tk }) :
    wpAny (model prog w) A (call (.type "set") [.ref l]) Q E s:=by
  have ft:=F.called_set;obtain⟨c,tl,hmro⟩:=ft.mro;have hmade:=ft.made;have hsub:=ft.sub;have h1:=ft.notType;have h2:=ft.canCreate;have hct:=F.typeCall_set_1 (.ref l);refine wpAny_call (codeAny_of_tree ?_);show wpAny _ _ (callAny (.type "set") _) _ _ s;refine wpAny_pure ⟨Code.quiet_builtin _ (by decide +kernel),codeAny_builtin F.entry_type_call ?_⟩;rw[Around.under_plain (weight_type_call_type "set" [Value.ref l] []) rfl]
  repeat (any_goals (first|assumption|wp_step))
  refine codeAny_mono (code_set_new_1 (.ref l) (E:=E) (Q₁:=fun v s1=>∃ led:Bool,v=.ref s.heap.objs.size/\s1={ s with heap:=s.heap.push (Sy led) }) fun led=>⟨led,rfl,rfl⟩) fun r s1 hr=>?_
  cases r with
  |error e=>exact hr
  |ok fl =>
    cases fl with
    |ret v =>
      obtain⟨led,rfl,rfl⟩:=hr;have e0:(s.heap.push (Sy led)).get? s.heap.objs.size=some (Sy led):=qo _ rfl;have hT:Shared.TypeIs { s with heap:=s.heap.push (Sy led) } (.ref s.heap.objs.size) "set":=⟨_,e0,rfl⟩
      have hli:=ft.init.lookup;have hbi:=ft.init.bind (.ref s.heap.objs.size)
      repeat (any_goals (first|assumption|wp_step))
      refine codeAny_mono (codeAny_call_builtin (R:=wants (fun r s2=>r=.none/\∃ h' tk,s2={ s with heap:=h',toks:=tk }/\U3 prog w h' s.heap.objs.size (Dp.Yl f its.size)/\∀ b o,b<s.heap.objs.size->s.heap.get? b=some o->h'.get? b=some o) E) ft.init.plain F.entry_set_init (check_set_init_1 hT ?_)) fun r2 s2 hr2=>?_
      . obtain⟨ol,hol,hcl,nl,hdl⟩:=hl;obtain⟨ocl,odi,oda,osl⟩:=ol;simp only at hcl hdl;subst hcl hdl;have hol2:(s.heap.push (Sy led)).get? l=some { cls:=.type "list",dict:=odi,data:=.seq its nl,slots:=osl }:=qc _ hol;have k1:=F.sub_list_set;have k2:=F.sub_list_frozenset;have k3:(Value.type "list"==Value.type "dict")=false:=by decide
        have hl1:(s.heap.push (Sy led)).IsList l its:=⟨_,hol2,rfl,nl,rfl⟩
        unfold Builtin.«set.__init__» noKeywords Builtin.Frozenset.updateFrom;generalize hPI:pyIter=PI
        wp_walk
        subst hPI;refine wpAny_pyIter_list hl1 (wpAny_bind (wpAny_runValue ?_));have ll:l<s.heap.objs.size:=qv hol;have n1:l≠(s.heap.push (Sy led)).objs.size:=by rw[W0];exact qU (Nat.lt_succ_of_lt ll)
        have n2:s.heap.objs.size∉[(s.heap.push (Sy led)).objs.size,l]:=by
          rw[W0];intro z;rcases ql.mp z with z|z
          . exact qU (M8 _) z
          . exact Wh ll (qJ.mp z)
        refine loopS ((Walks.list (show _=none by simp[hh]) _ l n1 its).toS) n2 f hf hb (its.size-0) 0 _ (by lia) (qX _) ⟨⟨_,qo _ rfl,rfl,rfl⟩,hl1.push _⟩ ?_ fun s' m hS'=>?_
        . exact SetOf_congr ((setObjOf_fresh (knd:=PySem.strKind prog w) led).setOf (qc _ e0) (by unfold scanBound;lia)) (fun _=>rfl) rfl
        . obtain⟨h',g',d',tk',os'⟩:=s';cases(show g'=s.gens from m.gens);cases(show d'=s.drawn from m.drawn);cases(show os'=s.os from m.os);show wpAny _ _ _ _ _ _;refine wpAny_pure (wpAny_pure ⟨rfl,h',tk',rfl,hS',fun b o q e=>?_⟩);refine m.heap b o (fun z=>?_) (qc _ (qc _ e));rcases ql.mp z with z|z
          . exact qU q z
          . have z':=qJ.mp z;rw[W0]at z';exact qU (Nat.lt_succ_of_lt q) z'
      . cases r2 with
        |error e=>exact hr2
        |ok fl2 =>
          cases fl2 with
          |ret r =>
            obtain⟨rfl,h',tk,rfl,hS',kp⟩:=hr2
            repeat (any_goals (first|assumption|wp_step))
            exact h _ _ hS' kp
          |_=>exact hr2.elim
    |_=>exact hr.elim
end
def zwb (K:PySem.W.Frag)(ta:TA):TE:=fun U H Q=>ta U H fun vs H1=>∃ l,∃ zs:List Str,vs=[.ref l]/\Zz K H1 l (zs.map V.str)/\zs.length<=4000/\Q (.int (Dp.Yl (fun i=>zs.getD i Str.empty) zs.length).length) H1
theorem wV:∀ {zs:List Str} {us:List Value},Vals (zs.map V.str) us->∀ (i:Nat) v,us[i]?=some v->∃ t,v=.str (zs.getD i Str.empty) t
 |[],_,.nil,i,v,e=>by simp at e
 |z::zs,_,.cons r t,0,v,e=>by obtain⟨t,rfl⟩:=r;simp at e;exact⟨t,e.symm⟩
 |z::zs,_,.cons r t,i+1,v,e=>by obtain⟨t,h⟩:=wV t i v (by simpa using e);exact⟨t,by rw[h];simp⟩
def eV {X:Cx}{a:Expr}{ta:TA}{p1 p2 pos1 pos2:Pos}(hc:X.calm=true)(hgl:Gl X "len")(hml:X.mg "len"=none)(hgr:Gl X "set")(hmr:X.mg "set"=none)(ha:PA X [a] ta)
  (hs:starEach [a] X.env=[(false,eval a X.env)]:=by rfl)
  (hs3:starEach [.Call (.Name "set" p2) [a] [] pos2] X.env=[(false,eval (.Call (.Name "set" p2) [a] [] pos2) X.env)]:=by rfl) :
  PE X (.Call (.Name "len" p1) [.Call (.Name "set" p2) [a] [] pos2] [] pos1) (zwb X.K ta):=by
 intro Z9 s U H Q I h;refine Call_ (VR I hgl hml boot_len (PyProof.Rows.callWith_builtin1 ?_ (by rw[hs3];rfl) (by rfl)));rw[hs3];show wpAny _ _ (spliced ((false,eval (.Call (.Name "set" p2) [a] [] pos2) X.env)::backTo pos1 [])) _ _ s;refine Calls.spliced_cons (Call_ (VR I hgr hmr boot_set (PyProof.Rows.callWith_type1 (Z2 (ha pos2 Z9 s U H _ I h) fun us s1 ⟨vs,H1,I1,r1,q1⟩=>?_) hs rfl)));obtain⟨l,zs,e,hx,h4,q⟩:=q1;subst e;obtain⟨u,rfl,ru⟩:=vals1 r1;cases ru;obtain⟨its,rx,px,zx⟩:=I1.list hx;have sz:its.toArray.size=zs.length:=by rw[qB,<- rx.length,qa]
 refine zm2 (fun i=>zs.getD i Str.empty) (show _=none from I1.ok.hd hc) px.isList (fun i v e=>wV rx i v (by simpa using e)) (by rw[sz];unfold scanBound;lia) fun h' tk hS kp=>Calls.spliced_nil ?_
 rw[sz]at hS;have le:=Dp.Js (fun i=>zs.getD i Str.empty) zs.length;obtain⟨o,es,ep,t,ho,hex,hd,_,_,_,hf,hn⟩:=hS;refine call_len_set ho hex hd hf (by lia) ?_;rw[hn];exact⟨.int _,H1,I1.kept (t':=tk+1+1) (fun b o q=>kp b o (qv q) q),⟨_,rfl⟩,q⟩
section
variable {X:Cx}{Z9:List (Addr×Obj)}{U:L2.St}{H H':Hp}{s:Shared}{a:Addr}
end
def mL:Bool->String
 | false=>"min.loop"
 | true=>"max.loop"
section
variable {X:Cx}{Z9:List (Addr×Obj)}{U:L2.St}{R:Result->Shared->Prop}{G:Hp->Prop}{l q I S:Addr}{oq:Obj}{vs:List Value}
end
def Ec (H:Hp)(cd:Value)(qual:Str):Prop:=∃ c oc vs t u,cd=.ref c/\H c=some (.frz oc u)/\oc.data=.fields vs/\vs[1]?=some (.str qual t)
section
variable {X:Cx}{Z9:List (Addr×Obj)}{U:L2.St}{G:Hp->Prop}{q:Addr}{name qual x:Str}{params:Arguments}{body:Expr}{sc:Scope}{cl:List (Str×Addr)}{pm cd ct:Value}{free:List Str}{fv:List Nat}{te:TE}
end
def bW (H:Hp)(ps:Array Value)(l c:Nat)(qual:Str):Prop:=ps=#[]\/∃ a,ps=#[rawInt l,rawInt c,.ref a]/\Ec H (.ref a) qual
end My
namespace Dp
open PySem PySem.Spec PyProof.Rows L2 My
def isStar:Expr->Bool
 |.Starred _ _=>true
 |_=>false
def VD {e:Expr}{es:List Expr}{env:Env}(h:isStar e=false):starEach (e::es) env=(false,eval e env)::starEach es env:=by cases e<;>first|rfl|cases h
theorem HD {pos:Pos}{env:Env}:∀ {es:List Expr},es.all (fun e=>!isStar e)=true->(backTo pos (starEach es env)).any (·.1)=false
 |[],_=>rfl
 |e::es,h=>by rw[VB,qr]at h;rw[VD (by simpa using h.1)];show(false||(backTo pos (starEach es env)).any (·.1))=false;rw[HD h.2];rfl
def U4 {e:Expr}{env:Env}(h:isStar e=false):starEach [e] env=[(false,eval e env)]:=VD h
def NT {e g:Expr}{env:Env}(h:isStar e=false)(k:isStar g=false):starEach [e,g] env=[(false,eval e env),(false,eval g env)]:=by rw[VD h,U4 k]
def QJ (K:PySem.W.Frag)(H:Hp)(a:Addr)(xs:List V):Prop :=(∃ o,H a=some (.frz o (.lst xs)))\/∃ (o:Obj) (its:Array Value) (n:Nat),K.lookup a=some o/\o.cls=.type "list"/\o.dict=none/\o.data=.seq its n/\its.size<=sizeLine/\Vals xs its.toList
def zyz (K:PySem.W.Frag)(a:Addr)(xs:List V):Prop:=∃ (o:Obj) (its:Array Value) (n:Nat),K.lookup a=some o/\o.cls=.type "tuple"/\o.data=.seq its n/\its.size<=sizeLine/\Vals xs its.toList
def QJ.sq {K:PySem.W.Frag}(h:QJ K H a xs):Zz K H a xs:=h.imp (fun h=>.inr h) id
mutual
inductive Rel (K:PySem.W.Frag)(aD:List Addr)(H:Hp):D->V->Prop
 |non:Rel K aD H .non .non
 |bl (b:Bool):Rel K aD H (.bl b) (.bl b)
 |int (i:Int):Rel K aD H (.int i) (.int i)
 |str (x:Str):Rel K aD H (.str x) (.str x)
 |ty (n:String):Rel K aD H (.ty n) (.ty n)
 |tup {a:Addr} {vs:List V} {ds:List D}:H a=some (.tup vs)->zj K aD H ds vs->Rel K aD H (.tup ds) (.ref a)
 |rl {a:Addr} {vs:List V} {ds:List D}:QJ K H a vs->zj K aD H ds vs->Rel K aD H (.rl ds) (.ref a)
 |ref {n:Nat} {a:Addr}:aD[n]?=some a->Rel K aD H (.ref n) (.ref a)
 |exn {c:Str} {a C:Addr} {o:Obj} {u:HO}:H a=some (.frz o u)->o.cls=.ref C->PySem.W.nsIn K mainGlobals c=some (some (.ref C))->Rel K aD H (.exn c) (.ref a)
 |kt {a:Addr} {vs:List V} {ds:List D}:zyz K a vs->zj K aD H ds vs->Rel K aD H (.kt ds) (.ref a)
inductive zj (K:PySem.W.Frag)(aD:List Addr)(H:Hp):List D->List V->Prop
 |nil:zj K aD H [] []
 |cons {d:D} {v:V} {ds:List D} {vs:List V}:Rel K aD H d v->zj K aD H ds vs->zj K aD H (d::ds) (v::vs)
end
structure Wd (aD:List Addr)(H:Hp)(aD':List Addr)(H':Hp):Prop where
 pre:aD <+: aD'
 keep:∀ b o,b∉aD->H b=some o->H' b=some o
 tup:∀ b xs,H b=some (.tup xs)->H' b=some (.tup xs)
 frz:∀ b o u,H b=some (.frz o u)->H' b=some (.frz o u)
 new:∀ b,b∈aD'->b∉aD->H b=none
def Wd.refl {aD:List Addr}{H:Hp}:Wd aD H aD H:=⟨Oo _,fun _ _ _ h=>h,fun _ _ h=>h,fun _ _ _ h=>h,fun _ h n=>absurd h n⟩
theorem Wd.trans (a:Wd aD H ad1 H1)(b:Wd ad1 H1 ad2 H2):Wd aD H ad2 H2 where
 pre:=a.pre.trans b.pre
 keep:=fun c o hc h=>b.keep c o (fun h1=>by rw[a.new c h1 hc]at h;cases h) (a.keep c o hc h)
 tup:=fun c xs h=>b.tup c xs (a.tup c xs h)
 frz:=fun c o u h=>b.frz c o u (a.frz c o u h)
 new:=fun c h2 hc=>by
  by_cases h1:c∈ad1
  ·exact a.new c h1 hc
  ·have n1:=b.new c h2 h1;cases e:H c with
   |none=>rfl
   |some o=>rw[a.keep c o hc e]at n1;cases n1
def Td {α:Type}{l l':List α}(h:l <+: l'){n:Nat}{a:α}(e:l[n]?=some a):l'[n]?=some a:=by obtain⟨t,rfl⟩:=h;rw[qf (My.Wo e)];exact e
structure Wr (aD:List Addr)(H:Hp)(aD':List Addr)(H':Hp):Prop where
 pre:aD <+: aD'
 tup:∀ b xs,H b=some (.tup xs)->H' b=some (.tup xs)
 frz:∀ b o u,H b=some (.frz o u)->H' b=some (.frz o u)
def Wd.wr (w:Wd aD H aD' H'):Wr aD H aD' H':=⟨w.pre,w.tup,w.frz⟩
def QJ.wr {K:PySem.W.Frag}(w:Wr aD H aD' H')(h:QJ K H a xs):QJ K H' a xs:=h.imp (by rintro⟨o,e⟩;exact⟨o,w.frz _ _ _ e⟩) id
mutual
theorem Rel.wr {K:PySem.W.Frag}{aD aD':List Addr}{H H':Hp}(w:Wr aD H aD' H'):∀ {d:D} {v:V},Rel K aD H d v->Rel K aD' H' d v
 |_,_,.non=>.non
 |_,_,.bl b=>.bl b
 |_,_,.int i=>.int i
 |_,_,.str x=>.str x
 |_,_,.ty n=>.ty n
 |_,_,.tup h r=>.tup (w.tup _ _ h) (zj.wr w r)
 |_,_,.rl h r=>.rl (h.wr w) (zj.wr w r)
 |_,_,.ref h=>.ref (Td w.pre h)
 |_,_,.exn h e n=>.exn (w.frz _ _ _ h) e n
 |_,_,.kt h r=>.kt h (zj.wr w r)
theorem zj.wr {K:PySem.W.Frag}{aD aD':List Addr}{H H':Hp}(w:Wr aD H aD' H'):∀ {ds:List D} {vs:List V},zj K aD H ds vs->zj K aD' H' ds vs
 |_,_,.nil=>.nil
 |_,_,.cons r t=>.cons (Rel.wr w r) (zj.wr w t)
end
def Rel.wd {K:PySem.W.Frag}(r:Rel K aD H d v)(w:Wd aD H aD' H'):Rel K aD' H' d v:=Rel.wr w.wr r
def zj.wd {K:PySem.W.Frag}(r:zj K aD H ds vs)(w:Wd aD H aD' H'):zj K aD' H' ds vs:=zj.wr w.wr r
section
variable {K:PySem.W.Frag}{aD:List Addr}{H:Hp}
theorem zj.length:∀ {ds:List D} {vs:List V},zj K aD H ds vs->ds.length=vs.length
  |_,_,.nil=>rfl
  |_,_,.cons _ t=>congrArg (· + 1) (zj.length t)
theorem zj.get:∀ {ds:List D} {vs:List V} {i:Nat} {d:D},zj K aD H ds vs->ds[i]?=some d->∃ v,vs[i]?=some v/\Rel K aD H d v
 |_,_,_,_,.nil,e=>by simp at e
 |_,_,0,_,.cons r _,e=>by simp at e;subst e;exact⟨_,rfl,r⟩
 |_,_,i+1,d,.cons _ t,e=>by obtain⟨v,h1,h2⟩:=zj.get (i:=i) (d:=d) t (by simpa using e);exact⟨v,by simpa using h1,h2⟩
theorem zj.append:∀ {ds es:List D} {vs us:List V},zj K aD H ds vs->zj K aD H es us->zj K aD H (ds++es) (vs++us)
 |_,_,_,_,.nil,s=>s
 |_,_,_,_,.cons r t,s=>.cons r (zj.append t s)
theorem zj.take:∀ {ds:List D} {vs:List V} (n:Nat),zj K aD H ds vs->zj K aD H (ds.take n) (vs.take n)
 |_,_,0,_=>.nil
 |_,_,_+1,.nil=>.nil
 |_,_,n+1,.cons r t=>.cons r (zj.take n t)
theorem zj.drop:∀ {ds:List D} {vs:List V} (n:Nat),zj K aD H ds vs->zj K aD H (ds.drop n) (vs.drop n)
 |_,_,0,r=>r
 |_,_,_+1,.nil=>.nil
 |_,_,n+1,.cons _ t=>zj.drop n t
theorem zj.set (r:Rel K aD H d v):∀ {ds:List D} {vs:List V} (i:Nat),zj K aD H ds vs->zj K aD H (ds.set i d) (vs.set i v)
 |_,_,_,.nil=>.nil
 |_,_,0,.cons _ t=>.cons r t
 |_,_,i+1,.cons q t=>.cons q (zj.set r i t)
theorem zj.ints:∀ {ns:List Int} {vs:List V},zj K aD H (ns.map D.int) vs->vs=ns.map V.int
 |[],_,.nil=>rfl
 |n::ns,_,.cons r t=>by cases r;rw[zj.ints t];rfl
theorem zj.bls:∀ {ns:List Bool} {vs:List V},zj K aD H (ns.map D.bl) vs->vs=ns.map V.bl
 |[],_,.nil=>rfl
 |n::ns,_,.cons r t=>by cases r;rw[zj.bls t];rfl
theorem zj.mk_ints:∀ (ns:List Int),zj K aD H (ns.map D.int) (ns.map V.int)
 |[]=>.nil
 |n::ns=>.cons (.int n) (zj.mk_ints ns)
end
inductive Zn (K:PySem.W.Frag)(aD:List Addr)(H:Hp):List (Str×D)->List (Str×V)->Prop
 |nil:Zn K aD H [] []
 |cons {f:Str} {d:D} {v:V} {fs:List (Str×D)} {vs:List (Str×V)}:Rel K aD H d v->Zn K aD H fs vs->Zn K aD H ((f,d)::fs) ((f,v)::vs)
theorem Zn.wr {K:PySem.W.Frag}(w:Wr aD H aD' H'):∀ {fs:List (Str×D)} {vs:List (Str×V)},Zn K aD H fs vs->Zn K aD' H' fs vs
 |_,_,.nil=>.nil
 |_,_,.cons r t=>.cons (Rel.wr w r) (Zn.wr w t)
theorem Zn.look {K:PySem.W.Frag}{aD:List Addr}{H:Hp}{f:Str}:∀ {fs:List (Str×D)} {vs:List (Str×V)} {d:D},Zn K aD H fs vs->fs.lookup f=some d->∃ v,vs.lookup f=some v/\Rel K aD H d v
 |_,_,d,.nil,e=>by simp at e
 |_,_,d,@Zn.cons _ _ _ g x v fs vs r t,e=>by
  rw[qq]at e ⊢;cases h:f==g with
  |true=>rw[h]at e;cases e;exact⟨v,rfl,r⟩
  |false=>rw[h]at e;exact Zn.look t e
theorem Zn.put {K:PySem.W.Frag}{f:Str}(rd:Rel K aD H d v):∀ {fs:List (Str×D)} {vs:List (Str×V)},Zn K aD H fs vs->Zn K aD H (putD f d fs) (YC f v vs)
 |_,_,.nil=>.cons rd .nil
 |_,_,@Zn.cons _ _ _ g x u fs vs r t=>by
  show Zn K aD H (if g=f then(g,d)::fs else(g,x)::putD f d fs) (if g=f then(g,v)::vs else(g,u)::YC f v vs);by_cases h:g=f
  ·rw[if_pos h,if_pos h];exact .cons rd t
  ·rw[if_neg h,if_neg h];exact .cons r (Zn.put rd t)
theorem Zn.length {K:PySem.W.Frag}{aD:List Addr}{H:Hp}:∀ {fs:List (Str×D)} {vs:List (Str×V)},Zn K aD H fs vs->fs.length=vs.length
  |_,_,.nil=>rfl
  |_,_,.cons _ t=>congrArg (· + 1) (Zn.length t)
theorem sW {f:Str}{d:D}{q:Str×D}:∀ {fs:List (Str×D)},q∈putD f d fs->q.1=f\/q∈fs
 |[],h=>by
  have:q=(f,d):=by simpa [putD]using h
  subst this;exact .inl rfl
 |(g,x)::fs,h=>by
  have h:q∈if g=f then(g,d)::fs else(g,x)::putD f d fs:=h
  by_cases e:g=f
  ·rw[if_pos e]at h;rcases ql.mp h with rfl|h
   ·exact .inl e
   ·exact .inr (qi _ h)
  ·rw[if_neg e]at h;rcases ql.mp h with rfl|h
   ·exact .inr (by simp)
   ·exact(sW h).imp id (qi _)
theorem vM {f:Str}{d:D}:∀ {fs:List (Str×D)},fs.lookup f=some d->∃ q∈fs,q.1=f
 |[],e=>by simp at e
 |(g,x)::fs,e=>by
  rw[qq]at e;cases h:f==g with
  |true=>exact⟨(g,x),by simp,(eq_of_beq h).symm⟩
  |false =>rw[h]at e;obtain⟨q,hq,e'⟩:=vM e;exact⟨q,qi _ hq,e'⟩
inductive RelK (K:PySem.W.Frag)(aD:List Addr)(H:Hp):List (Str×D)->List (Key×V)->Prop
 |nil:RelK K aD H [] []
 |cons {x:Str} {d:D} {v:V} {fs:List (Str×D)} {vs:List (Key×V)}:Rel K aD H d v->RelK K aD H fs vs->RelK K aD H ((x,d)::fs) ((.inr x,v)::vs)
inductive zU {κ:Type}(K:PySem.W.Frag)(aD:List Addr)(H:Hp):List (κ×D)->List (κ×V)->Prop
 |nil:zU K aD H [] []
 |cons {x:κ} {d:D} {v:V} {fs:List (κ×D)} {vs:List (κ×V)}:Rel K aD H d v->zU K aD H fs vs->zU K aD H ((x,d)::fs) ((x,v)::vs)
theorem RelK.wr {K:PySem.W.Frag}(w:Wr aD H aD' H'):∀ {fs:List (Str×D)} {vs:List (Key×V)},RelK K aD H fs vs->RelK K aD' H' fs vs
 |_,_,.nil=>.nil
 |_,_,.cons r t=>.cons (Rel.wr w r) (RelK.wr w t)
theorem zU.wr {κ:Type}{K:PySem.W.Frag}(w:Wr aD H aD' H'):∀ {fs:List (κ×D)} {vs:List (κ×V)},zU K aD H fs vs->zU K aD' H' fs vs
 |_,_,.nil=>.nil
 |_,_,.cons r t=>.cons (Rel.wr w r) (zU.wr w t)
def Wk (K:PySem.W.Frag)(aD:List Addr)(H:Hp)(a:Addr):Cell->Prop
 |.lst ds=>∃ vs,H a=some (.lst vs)/\zj K aD H ds vs
 |.ins c fs=>∃ C dx vs,H a=some (.ins C dx vs)/\Cls K C/\PySem.W.nsIn K mainGlobals c=some (some (.ref C))/\Zn K aD H fs vs/\∀ q∈fs,V2 K C q.1
 |.dk Z8=>∃ vs,H a=some (.dK vs)/\RelK K aD H Z8 vs
 |.dt Z8=>∃ vs,H a=some (.dT vs)/\zU K aD H Z8 vs
 |.dn Z8 ep=>∃ vs,H a=some (.dN vs ep)/\zU K aD H Z8 vs
 | .tab x l c=>∃ ps cd,H a=some (.tbl ps)/\PySem.W.tabIn K x=some (cd,a)/\bW H ps l c (x++".<locals>."++"<lambda>")
def iZ (g:Ec H v q)(w:Wr aD H aD' H'):Ec H' v q :=by obtain⟨c,oc,vs,t,u,e,h,r⟩:=g;exact⟨c,oc,vs,t,u,e,w.frz _ _ _ h,r⟩
class Bs where
 aD:List Addr
 H:Hp
structure zp [B:Bs](K:PySem.W.Frag)(aD:List Addr)(H:Hp)(S:Z7):Prop where
 wd:Wd B.aD B.H aD H
 len:aD.length=S.length
 nd:aD.Nodup
 cell:∀ (n:Nat) (a:Addr) (c:Cell),aD[n]?=some a->S[n]?=some c->Wk K aD H a c
structure zX (K:PySem.W.Frag)(aD:List Addr)(H:Hp)(Z:Z1)(U:L2.St):Prop where
 len:Z.length=U.length
 val:∀ (i:Nat) (d:D),Z[i]?=some (some d)->∃ v,U[i]?=some (some v)/\Rel K aD H d v
theorem zX.wd {K:PySem.W.Frag}(h:zX K aD H Z U)(w:Wd aD H aD' H'):zX K aD' H' Z U :=⟨h.len,fun i d e=>by obtain⟨v,e',r⟩:=h.val i d e;exact⟨v,e',r.wd w⟩⟩
variable [B:Bs]
section
variable {K:PySem.W.Frag}{aD:List Addr}{H:Hp}{S:Z7}
def zp.get (st:zp K aD H S){n:Nat}{c:Cell}(h:S[n]?=some c):∃ a,aD[n]?=some a/\Wk K aD H a c:=by
 have hn:n<aD.length:=by rw[st.len];exact My.Wo h
 exact⟨aD[n],qb hn,st.cell n _ c (qb hn) h⟩
theorem Wk.some (h:Wk K aD H a c):∃ o,H a=some o:=by
 cases c with
 |lst ds=>obtain⟨vs,e,_⟩:=h;exact⟨_,e⟩
 |ins c fs=>obtain⟨C,dx,vs,e,_⟩:=h;exact⟨_,e⟩
 |dk Z8=>obtain⟨vs,e,_⟩:=h;exact⟨_,e⟩
 |dt Z8=>obtain⟨vs,e,_⟩:=h;exact⟨_,e⟩
 |dn Z8 ep=>obtain⟨vs,e,_⟩:=h;exact⟨_,e⟩
 |tab x l c=>obtain⟨ps,cd,e,_⟩:=h;exact⟨_,e⟩
def zp.there (st:zp K aD H S){a:Addr}(h:a∈aD):∃ o,H a=some o:=by
 obtain⟨n,hn,e⟩:=qO.mp h;have e':aD[n]?=some a:=by rw[qb hn,e]
 have hs:n<S.length:=by rw[<- st.len];exact hn
 exact(st.cell n a S[n] e' (qb hs)).some
def zp.fresh (st:zp K aD H S)(h:H l=none):l∉aD:=fun m=>by obtain⟨o,e⟩:=st.there m;rw[h]at e;cases e
theorem Wk.wr (h:Wk K aD H a c)(w:Wr aD H aD' H')(same:H' a=H a):Wk K aD' H' a c:=by
 cases c with
 |lst ds=>obtain⟨vs,e,r⟩:=h;exact⟨vs,same.trans e,zj.wr w r⟩
 |ins c fs=>obtain⟨C,dx,vs,e,c1,c2,r,n⟩:=h;exact⟨C,dx,vs,same.trans e,c1,c2,Zn.wr w r,n⟩
 |dk Z8=>obtain⟨vs,e,r⟩:=h;exact⟨vs,same.trans e,RelK.wr w r⟩
 |dt Z8=>obtain⟨vs,e,r⟩:=h;exact⟨vs,same.trans e,zU.wr w r⟩
 |dn Z8 ep=>obtain⟨vs,e,r⟩:=h;exact⟨vs,same.trans e,zU.wr w r⟩
 |tab x l c=>obtain⟨ps,cd,e,t,g⟩:=h;exact⟨ps,cd,same.trans e,t,g.imp id fun zq24=>by obtain⟨c,e,g⟩:=zq24;exact⟨c,e,iZ g w⟩⟩
def Wk.wd (h:Wk K aD H a c)(w:Wd aD H aD' H')(same:H' a=H a):Wk K aD' H' a c:=h.wr w.wr same
def Wd.laid {o:HO}(h:H l=none):Wd aD H aD (upd H l o) :=⟨Oo _,fun b u _ e=>Vd h e,fun b u e=>Vd h e,fun b u w e=>Vd h e,fun _ m n=>absurd m n⟩
def zp.bfree (st:zp K aD H S)(h:H p=none):B.H p=none:=by
 cases e:B.H p with
 |none=>rfl
 |some o =>
  by_cases m:p∈B.aD
  ·obtain⟨u,hu⟩:=st.there (st.wd.pre.subset m);rw[h]at hu;cases hu
  ·rw[st.wd.keep p o m e]at h;cases h
theorem zp.laid (st:zp K aD H S){o:HO}(h:H l=none):zp K aD (upd H l o) S :=
 ⟨st.wd.trans (Wd.laid h),st.len,st.nd,fun n a c e1 e2=>(st.cell n a c e1 e2).wd (Wd.laid h) (by obtain⟨u,e⟩:=(st.cell n a c e1 e2).some;rw[Vd h e,e])⟩
def Wd.newL (st:zp K aD H S){o:HO}(h:H l=none):Wd aD H (aD++[l]) (upd H l o) :=
 ⟨K9 _ _,fun b u _ e=>Vd h e,fun b u e=>Vd h e,fun b u w e=>Vd h e,fun b m n=>by
  rcases qC.mp m with m|m
  ·exact absurd m n
  ·have:b=l:=by simpa using m
   subst this;exact h⟩
theorem zp.newL (st:zp K aD H S)(h:H l=none)(r:zj K aD H ds vs):zp K (aD++[l]) (upd H l (.lst vs)) (S++[.lst ds]) where
 wd:=st.wd.trans (Wd.newL st h)
 len:=by rw[qg,qg,st.len];rfl
 nd:=by
  rw[VJ];refine⟨st.nd,by simp,fun a ha b hb e=>?_⟩;have:b=l:=by simpa using hb
  subst this;subst e;exact st.fresh h ha
 cell:=fun n a c e1 e2=>by
  by_cases hn:n<aD.length
  ·rw[qf hn]at e1;rw[qf (by rw[<- st.len];exact hn)]at e2;have ok:=st.cell n a c e1 e2;obtain⟨u,e⟩:=ok.some;exact ok.wd (Wd.newL st h) (by rw[Vd h e,e])
  ·have hn':aD.length<=n:=QK hn;rw[qe hn']at e1;rw[qe (by rw[<- st.len];exact hn'),<- st.len]at e2;cases hk:n-aD.length with
   |zero =>
    rw[hk]at e1 e2;have e1':l=a:=by simpa using e1
    have e2':Cell.lst ds=c:=by simpa using e2
    subst e1' e2';exact⟨vs,zK,r.wd (Wd.newL st h)⟩
   |succ k=>rw[hk]at e1;simp at e1
def zp.newRef (st:zp K aD H S){l:Addr}{o:HO}:Rel K (aD++[l]) (upd H l o) (.ref S.length) (.ref l):=.ref (by rw[<- st.len,qe (qh _),Yj];rfl)
def Wd.put {n:Nat}{a:Addr}{vs ws:List V}(e:aD[n]?=some a)(h:H a=some (.lst vs)):Wd aD H aD (upd H a (.lst ws)) :=
 ⟨Oo _,fun b u hb q=>by
   have:b≠a:=fun z=>hb (by rw[z];exact qd e)
   rw[zu this];exact q,
  fun b xs q=>by rw[zu (VH q h (by intro z;cases z))];exact q,fun b o u q=>by rw[zu (VH q h (by intro z;cases z))];exact q,fun _ m n=>absurd m n⟩
theorem zp.put (st:zp K aD H S){n:Nat}{a:Addr}{vs:List V}(e:aD[n]?=some a)(h:H a=some (.lst vs))(r:zj K aD H ds ws):zp K aD (upd H a (.lst ws)) (S.set n (.lst ds)) where
 wd:=st.wd.trans (Wd.put e h)
 len:=by rw[XF];exact st.len
 nd:=st.nd
 cell:=fun m b c e1 e2=>by
  have w:=Wd.put (ws:=ws) e h;by_cases hm:m=n
  ·subst hm;rw[e]at e1;cases e1;rw[qW (by rw[<- st.len];exact My.Wo e)]at e2;cases e2;exact⟨ws,zK,r.wd w⟩
  ·rw[qN (Ne.symm hm)]at e2
   have ne:b≠a:=fun z=>by subst z;have h1:=My.Wo e1;have h2:=My.Wo e;have q1:=(Ua.mp e1).2;have q2:=(Ua.mp e).2;exact hm ((Ly st.nd).mp (q1.trans q2.symm))
   exact(st.cell m b c e1 e2).wd w (zu ne)
def zp.newI (st:zp K aD H S){C:Addr}(h:H x=none)(h2:H dx=none)(hne:dx≠x)(hc:Cls K C)(hn:PySem.W.nsIn K mainGlobals c=some (some (.ref C))) :
  Wd aD H (aD++[x]) (upd (upd H dx (.own x)) x (.ins C dx []))/\zp K (aD++[x]) (upd (upd H dx (.own x)) x (.ins C dx [])) (S++[.ins c []]):=by
 have st1:=st.laid (o:=.own x) h2;have hx:upd H dx (.own x) x=none:=by rw[zu (Ne.symm hne)];exact h
 have w1:Wd aD H aD (upd H dx (.own x)):=Wd.laid h2;have w2:Wd aD (upd H dx (.own x)) (aD++[x]) (upd (upd H dx (.own x)) x (.ins C dx [])):=Wd.newL st1 hx;refine⟨w1.trans w2,st.wd.trans (w1.trans w2),?_,?_,fun n a c' e1 e2=>?_⟩
 ·rw[qg,qg,st.len];rfl
 ·rw[VJ];refine⟨st.nd,by simp,fun a ha b hb e=>?_⟩;have:b=x:=by simpa using hb
  subst this;subst e;exact st.fresh h ha
 ·by_cases hn':n<aD.length
  ·rw[qf hn']at e1;rw[qf (by rw[<- st.len];exact hn')]at e2;have ok:=st1.cell n a c' e1 e2;obtain⟨u,e⟩:=ok.some;exact ok.wd w2 (by rw[Vd hx e,e])
  ·have hn':aD.length<=n:=QK hn';rw[qe hn']at e1;rw[qe (by rw[<- st.len];exact hn'),<- st.len]at e2;cases hk:n-aD.length with
   |zero =>
    rw[hk]at e1 e2;have e1':x=a:=by simpa using e1
    have e2':Cell.ins c []=c':=by simpa using e2
    subst e1' e2';exact⟨C,dx,[],zK,hc,hn,.nil,fun q hq=>by cases hq⟩
   |succ k=>rw[hk]at e1;simp at e1
def Wd.putI {n:Nat}{a C dx C' dx':Addr}{vs ws:List (Str×V)}(e:aD[n]?=some a)(h:H a=some (.ins C dx vs)):Wd aD H aD (upd H a (.ins C' dx' ws)) :=
 ⟨Oo _,fun b u hb q=>by
   have:b≠a:=fun z=>hb (by rw[z];exact qd e)
   rw[zu this];exact q,
  fun b xs q=>by rw[zu (VH q h (by intro z;cases z))];exact q,fun b o u q=>by rw[zu (VH q h (by intro z;cases z))];exact q,fun _ m n=>absurd m n⟩
theorem zp.putI (st:zp K aD H S){n:Nat}{a C dx:Addr}{vs:List (Str×V)}{fs:List (Str×D)}(e:aD[n]?=some a)(h:H a=some (.ins C dx vs))(hc:Cls K C)(hn:PySem.W.nsIn K mainGlobals c=some (some (.ref C)))(rf:Zn K aD H fs vs)(hna:∀ q∈fs,V2 K C q.1)(hf:V2 K C f)(r:Rel K aD H d v) :
  zp K aD (upd H a (.ins C dx (YC f v vs))) (S.set n (.ins c (putD f d fs))) where
 wd:=st.wd.trans (Wd.putI e h)
 len:=by rw[XF];exact st.len
 nd:=st.nd
 cell:=fun m b c' e1 e2=>by
  have w:Wd aD H aD (upd H a (.ins C dx (YC f v vs))):=Wd.putI e h;by_cases hm:m=n
  ·subst hm;rw[e]at e1;cases e1;rw[qW (by rw[<- st.len];exact My.Wo e)]at e2;cases e2;refine⟨C,dx,_,zK,hc,hn,Zn.wr w.wr (Zn.put r rf),fun q hq=>?_⟩;rcases sW hq with h1|h1
   ·rw[h1];exact hf
   ·exact hna q h1
  ·rw[qN (Ne.symm hm)]at e2
   have ne:b≠a:=fun z=>by subst z;have q1:=(Ua.mp e1).2;have q2:=(Ua.mp e).2;exact hm ((Ly st.nd).mp (q1.trans q2.symm))
   exact(st.cell m b c' e1 e2).wd w (zu ne)
def Wd.hid {o:HO}(w:Wd aD H aD' H')(hp:H p=none):Wd aD H aD' (upd H' p o) :=⟨w.pre,fun b u hb q=>by rw[zu (TF q hp)];exact w.keep b u hb q,fun b u q=>by rw[zu (TF q hp)];exact w.tup b u q,fun b u v q=>by rw[zu (TF q hp)];exact w.frz b u v q,w.new⟩
def Wr.hid {vs ws:List V}(h:H p=some (.lst vs)):Wr aD H aD (upd H p (.lst ws)) :=⟨Oo _,fun b xs q=>by rw[zu (VH q h (by intro z;cases z))];exact q,fun b o u q=>by rw[zu (VH q h (by intro z;cases z))];exact q⟩
theorem zp.hid (st:zp K aD H S){vs ws:List V}(h:H p=some (.lst vs))(hp:p∉aD)(hb:B.H p=none):zp K aD (upd H p (.lst ws)) S :=⟨st.wd.hid hb,st.len,st.nd,fun n a c e1 e2=>(st.cell n a c e1 e2).wr (Wr.hid h) (zu fun z=>hp (by rw[<- z];exact qd e1))⟩
def Wd.add (w:Wd aD H aD' H')(hp:H p=none):Wd aD H (aD'++[p]) H' :=
 ⟨w.pre.trans (K9 _ _),w.keep,w.tup,w.frz,fun b m n=>by
  rcases qC.mp m with m|m
  ·exact w.new b m n
  ·have:b=p:=by simpa using m
   subst this;exact hp⟩
theorem zp.add (st:zp K aD H S){vs:List V}(h:H p=some (.lst vs))(hp:p∉aD)(r:zj K aD H ds vs)(hb:B.H p=none):zp K (aD++[p]) H (S++[.lst ds]) where
 wd:=st.wd.add hb
 len:=by rw[qg,qg,st.len];rfl
 nd:=by
  rw[VJ];refine⟨st.nd,by simp,fun a ha b hb e=>?_⟩;have:b=p:=by simpa using hb
  subst this;subst e;exact hp ha
 cell:=fun n a c e1 e2=>by
  have w:Wr aD H (aD++[p]) H:=⟨K9 _ _,fun _ _ q=>q,fun _ _ _ q=>q⟩
  by_cases hn:n<aD.length
  ·rw[qf hn]at e1;rw[qf (by rw[<- st.len];exact hn)]at e2;exact(st.cell n a c e1 e2).wr w rfl
  ·have hn':aD.length<=n:=QK hn;rw[qe hn']at e1;rw[qe (by rw[<- st.len];exact hn'),<- st.len]at e2;cases hk:n-aD.length with
   |zero =>
    rw[hk]at e1 e2;have e1':p=a:=by simpa using e1
    have e2':Cell.lst ds=c:=by simpa using e2
    subst e1' e2';exact⟨vs,h,zj.wr w r⟩
   |succ k=>rw[hk]at e1;simp at e1
theorem Lst.sq (st:zp K aD H S)(h:Lst S x xs)(r:Rel K aD H x v):∃ a vs,v=.ref a/\Zz K H a vs/\zj K aD H xs vs:=by
 rcases h with rfl|⟨n,rfl,h⟩
 ·cases r with
  |rl h r=>exact⟨_,_,rfl,h.sq,r⟩
 ·cases r with
  |ref e =>obtain⟨vs,e2,r⟩:=st.cell n _ _ e h;exact⟨_,vs,rfl,Zz.of e2,r⟩
theorem RZ.sq (st:zp K aD H S)(h:RZ S x xs)(r:Rel K aD H x v):∃ a vs,v=.ref a/\(Zz K H a vs\/ZG K H a vs)/\zj K aD H xs vs:=by
 rcases h with rfl|h
 ·cases r with
  |tup h r=>exact⟨_,_,rfl,.inr (ZG.of h),r⟩
 ·obtain⟨a,vs,e,s,r⟩:=Lst.sq st h r;exact⟨a,vs,e,.inl s,r⟩
end
omit B in
def ZS {a b c d:Type}{p1 p2 p3 p4:a->b->c->d->Prop}{R:Prop}(h:∃ (x:a) (y:b) (z:c) (w:d),p1 x y z w/\p2 x y z w/\p3 x y z w/\p4 x y z w)(f:∀ (x:a) (y:b) (z:c) (w:d),p1 x y z w->p2 x y z w->p3 x y z w->p4 x y z w->R):R :=Exists.elim h fun x h=>Exists.elim h fun y h=>Exists.elim h fun z h=>Exists.elim h fun w h=>f x y z w h.1 h.2.1 h.2.2.1 h.2.2.2
def KK (K:PySem.W.Frag)(aD:List Addr)(H:Hp)(Q0:DK)(Q:VK):Prop:=∀ d S' v H' aD',Q0 d S'->Wd aD H aD' H'->zp K aD' H' S'->Rel K aD' H' d v->Q v H'
def KK.wd {K:PySem.W.Frag}(k:KK K aD H Q0 Q)(w:Wd aD H aD' H'):KK K aD' H' Q0 Q:=fun d S' v H' aD' q w'=>k d S' v H' aD' q (w.trans w')
def up (K:PySem.W.Frag)(t:DE):TE:=fun U H Q=>∃ aD Z S Q0,zp K aD H S/\zX K aD H Z U/\t Z S Q0/\KK K aD H Q0 Q
def Ov (K:PySem.W.Frag)(t:DT):TT:=fun U H Q=>∃ aD Z S Q0,zp K aD H S/\zX K aD H Z U/\t Z S Q0/\∀ b S' H' aD',Q0 b S'->Wd aD H aD' H'->zp K aD' H' S'->Q b H'
def upA (K:PySem.W.Frag)(t:DA):TA:=fun U H Q=>∃ aD Z S Q0,zp K aD H S/\zX K aD H Z U/\t Z S Q0/\∀ ds S' vs H' aD',Q0 ds S'->Wd aD H aD' H'->zp K aD' H' S'->zj K aD' H' ds vs->Q vs H'
def zp.base {K:PySem.W.Frag}(st:zp K aD H S):@zp ⟨aD,H⟩ K aD H S:=@zp.mk ⟨aD,H⟩ _ _ _ _ Wd.refl st.len st.nd st.cell
def zp.back {K:PySem.W.Frag}{aD':List Addr}{H':Hp}{S':Z7}(st:zp K aD H S)(st':@zp ⟨aD,H⟩ K aD' H' S'):zp K aD' H' S' :=⟨st.wd.trans (@zp.wd ⟨aD,H⟩ _ _ _ _ st'),@zp.len ⟨aD,H⟩ _ _ _ _ st',@zp.nd ⟨aD,H⟩ _ _ _ _ st',@zp.cell ⟨aD,H⟩ _ _ _ _ st'⟩
def KK.base {K:PySem.W.Frag}(st:zp K aD H S)(k:KK K aD H Q0 Q):@KK ⟨aD,H⟩ K aD H Q0 Q:=fun d S' v H' aD' q w st' r=>k d S' v H' aD' q w (st.back st') r
def Xl (K:PySem.W.Frag)(f:ZV):Sp:=fun vs H Q _=>∃ aD S ds Q0,@zp ⟨aD,H⟩ K aD H S/\zj K aD H ds vs/\f ds S Q0/\@KK ⟨aD,H⟩ K aD H Q0 Q
structure R4 (K:PySem.W.Frag)(aD:List Addr)(H:Hp)(E0:OJ)(E:Ends):Prop where
 nx:∀ Z S U H' aD',E0.nx Z S->Wd aD H aD' H'->zp K aD' H' S->zX K aD' H' Z U->E.nx U H'
 rt:KK K aD H E0.rt E.rt
 bk:∀ Z S U H' aD',E0.bk Z S->Wd aD H aD' H'->zp K aD' H' S->zX K aD' H' Z U->E.bk U H'
 ct:∀ Z S U H' aD',E0.ct Z S->Wd aD H aD' H'->zp K aD' H' S->zX K aD' H' Z U->E.ct U H'
theorem R4.wd {K:PySem.W.Frag}{E0:OJ}(k:R4 K aD H E0 E)(w:Wd aD H aD' H'):R4 K aD' H' E0 E :=⟨fun Z S U H' aD' q w'=>k.nx Z S U H' aD' q (w.trans w'),k.rt.wd w,fun Z S U H' aD' q w'=>k.bk Z S U H' aD' q (w.trans w'),fun Z S U H' aD' q w'=>k.ct Z S U H' aD' q (w.trans w')⟩
def yw (K:PySem.W.Frag)(t:DS):TS:=fun E U H=>∃ aD Z S E0,zp K aD H S/\zX K aD H Z U/\t E0 Z S/\R4 K aD H E0 E
@[irreducible] def PD (X:Cx)(e:Expr)(t:DE):Prop:=PE X e (up X.K t)
@[irreducible] def Yy (X:Cx)(e:Expr)(t:DT):Prop:=PT X e (Ov X.K t)
@[irreducible] def Ug (X:Cx)(e:Expr)(t:DT):Prop:=PW X e (Ov X.K t)
@[irreducible] def PAD (X:Cx)(es:List Expr)(t:DA):Prop:=PA X es (upA X.K t)
@[irreducible] def Zv (X:Cx)(st:Stmt)(t:DS):Prop:=PS X st (yw X.K t)
@[irreducible] def Xj (X:Cx)(st:List Stmt)(t:DS):Prop:=XH X st (yw X.K t)
def kY {e:Expr}{t t':TE}(h:PE X e t)(m:∀ U H Q,t' U H Q->t U H Q):PE X e t':=fun Z9 s U H Q I q=>h Z9 s U H Q I (m U H Q q)
def O4 {e:Expr}{t t':TT}(h:PT X e t)(m:∀ U H Q,t' U H Q->t U H Q):PT X e t':=fun Z9 s U H Q I q=>h Z9 s U H Q I (m U H Q q)
def xg {e:Expr}{t t':TT}(h:PW X e t)(m:∀ U H Q,t' U H Q->t U H Q):PW X e t':=fun wh Z9 s U H Q I q=>h wh Z9 s U H Q I (m U H Q q)
def uc {e:List Expr}{t t':TA}(h:PA X e t)(m:∀ U H Q,t' U H Q->t U H Q):PA X e t':=fun pos Z9 s U H Q I q=>h pos Z9 s U H Q I (m U H Q q)
def Yd {st:Stmt}{t t':TS}(h:PS X st t)(m:∀ D U H,t' D U H->t D U H):PS X st t':=fun Z9 s U H D I q=>h Z9 s U H D I (m D U H q)
def rH {st:List Stmt}{t t':TS}(h:XH X st t)(m:∀ D U H,t' D U H->t D U H):XH X st t':=fun Z9 s U H D I q=>h Z9 s U H D I (m D U H q)
section
variable {X:Cx}{a b c:Expr}{ta tb tc:DE}{pos:Pos}
def zY {e:Expr}{t:TE}{d:DE}(h:PE X e t)(m:∀ U H Q,up X.K d U H Q->t U H Q):PD X e d:=by with_unfolding_all exact(kY h m)
def cQ {e:Expr}{i:Nat}(h:PE X e (uJ i)):PD X e (YM i):=by with_unfolding_all exact(zY h fun U H Q zq25=>by obtain⟨aD,Z,S,Q0,st,rh,⟨d,e,q⟩,k⟩:=zq25;obtain⟨v,ev,r⟩:=rh.val i d e;exact⟨v,ev,k d S v H aD q Wd.refl st r⟩)
def Tr {e:Expr}{v:V}{d:D}(h:PE X e (tC v))(r:∀ aD H,Rel X.K aD H d v):PD X e (dC d):=by with_unfolding_all exact(zY h fun U H Q hh=>ZS hh fun aD Z S Q0 st rh q k=>k d S v H aD q Wd.refl st (r _ _))
def Ϙ {i j}:PD X (.Constant (.int i) j pos) (dC (.int i)):=by with_unfolding_all exact(Tr Ea fun _ _=>.int i)
def aW {b j}:PD X (.Constant (.bool b) j pos) (dC (.bl b)):=by with_unfolding_all exact(Tr zwI fun _ _=>.bl b)
def dU {j}:PD X (.Constant .none j pos) (dC .non):=by with_unfolding_all exact(Tr Ű fun _ _=>.non)
def xQ {x j}:PD X (.Constant (.str x) j pos) (dC (.str x)):=by with_unfolding_all exact(Tr gZ fun _ _=>.str x)
def zw9 {T:String}(hg:Gl X x)(hm:X.mg x=none)(hv:bootBuiltins x=some (.type T))(hn:autoParam (x≠"__name__") zO)(hd:autoParam ((x==("__debug__":Str))=false) zO):PD X (.Name x pos) (dC (.ty T)):=by with_unfolding_all exact(Tr (χ hg hm hv hn hd) fun _ _=>.ty T)
def fX {n:Int}(hg:Gl X x)(hm:∃ t,X.mg x=some (.int n t))(hd:autoParam ((x==("__debug__":Str))=false) zO):PD X (.Name x pos) (dC (.int n)):=by with_unfolding_all exact(Tr (zqj hg hm hd) fun _ _=>.int n)
def zsc {z:Str}(hg:Gl X x)(hm:∃ t,X.mg x=some (.str z t))(hd:autoParam ((x==("__debug__":Str))=false) zO):PD X (.Name x pos) (dC (.str z)):=by with_unfolding_all exact(Tr (by obtain⟨t,hm⟩:=hm;exact u5 (v:=.str z) hg hm ⟨t,rfl⟩ hd) fun _ _=>.str z)
def cH {i j:Int}{m n:Nat}{p1 p2:Pos}(c:Int)(h:i ^ j.toNat=c)(h0:0<=j/\j<=1000000/\i.natAbs<2 ^ 64):PD X (.BinOp (.Constant (.int i) m p1) .Pow (.Constant (.int j) n p2) pos) (dC (.int c)):=by with_unfolding_all exact(Tr (Ğ c h h0) fun _ _=>.int c)
def OD (K:PySem.W.Frag)(r':Zt)(r:R2):Prop:=∀ aD H S x y v u Q0 Q,zp K aD H S->Rel K aD H x v->Rel K aD H y u->r' x y S Q0->KK K aD H Q0 Q->r v u H Q
def HN {K:PySem.W.Frag}(o:OD K r' r){U:L2.St}{H:Hp}{Q:VK}(h:up K (Z6 r' ta tb) U H Q):Mi r (up K ta) (up K tb) U H Q:=by obtain⟨aD,Z,S,Q0,st,rh,q,k⟩:=h;refine⟨aD,Z,S,_,st,rh,q,fun x S1 v H1 ad1 q1 w1 st1 r1=>?_⟩;refine⟨ad1,Z,S1,_,st1,rh.wd w1,q1,fun y S2 u H2 ad2 q2 w2 st2 r2=>?_⟩;exact o ad2 H2 S2 x y v u Q0 Q st2 (r1.wd w2) r2 q2 (k.wd (w1.trans w2))
def Mj {op:Operator}(ho:ZJ X (binaryOp op) r)(o:OD X.K r' r)(ha:PD X a ta)(hb:PD X b tb):PD X (.BinOp a op b pos) (Z6 r' ta tb):=by with_unfolding_all exact(zY (oh ho ha hb) fun _ _ _=>HN o)
def Iw {K:PySem.W.Frag}{C C':Int->Int->Prop}{g:Int->Int->D}{g':Int->Int->V}(hc:∀ i j,C i j->C' i j)(hg:∀ aD H i j,Rel K aD H (g i j) (g' i j)):OD K (oI C g) (rI C' g'):=fun aD H S x y v u Q0 Q st rx ry zq26 k=>by obtain⟨i,j,ex,ey,c,q⟩:=zq26;subst ex ey;cases rx;cases ry;exact⟨i,j,rfl,rfl,hc i j c,k _ S _ H aD q Wd.refl st (hg aD H i j)⟩
def Nf {K:PySem.W.Frag}{g:Int->Int->D}{g':Int->Int->V}(hg:∀ aD H i j,Rel K aD H (g i j) (g' i j)):OD K (Qq g) (Uw g'):=fun aD H S x y v u Q0 Q st rx ry zq27 k=>by obtain⟨i,j,ex,ey,q⟩:=zq27;subst ex ey;cases rx;cases ry;exact⟨i,j,rfl,rfl,k _ S _ H aD q Wd.refl st (hg aD H i j)⟩
def oM {i:Int}(h:i.natAbs<2 ^ 64):-(2 ^ 64)<i/\i<2 ^ 64:=⟨by lia,by lia⟩
def û (i j:Int):Prop:=YZ i j
def Ų:ZJ X (binaryOp .Mult) (rI û fun i j=>.int (i*j)):=Nm fun i j _ _ _ _ _ hc q=>by
 rcases hc with h|h|h
 ·exact mul_int q (IntMulOk.of_bits (tR h.1) (tR h.2))
 ·exact mul_int q (Ih.ok (.inl (oM h)))
 ·exact mul_int q (Ih.ok (.inr (oM h)))
def zs9 (ha:PD X a ta)(hb:PD X b tb):PD X (.BinOp a .Sub b pos) (Z6 Zm ta tb):=by with_unfolding_all exact(Mj ŷ (Nf fun _ _ i j=>.int (i-j)) ha hb)
def ū {z:Str}{n:Int}(hz:z.length<=1000)(h0:-1000<=n)(h1:n<=1000):MulOk z n:=by
 refine⟨?_,fun _ _=>?_,fun h _=>?_⟩
 ·rw[decide_eq_false (by lia),decide_eq_false (by lia)];rfl
 ·have:(1000:Int)<=(2 ^ 63-1)/n\/n<1:=by
   rcases Int.lt_or_le n 1 with g|g
   ·exact .inr g
   ·exact .inl ((Int.le_ediv_iff_mul_le (by lia)).mpr (by lia))
  lia
 ·have:z.length*n.toNat<=1000*1000:=MN hz (by lia);have hs:z.length*n.toNat<=sizeLine:=qZ this (by decide)
  first
   |exact decide_eq_false (by lia)
   |(unfold tooLong;exact decide_eq_false (by lia))
   |simp[tooLong];lia
def dJ:ZJ X (binaryOp .Mult) (fun x y H Q=>∃ z n,x=.str z/\y=.int n/\MulOk z n/\Q (.str (Txt.mul z n)) H):=by intro Z9 s U H x y v u Q I rx ry h;obtain⟨z,n,rfl,rfl,ok,q⟩:=h;obtain⟨t,rfl⟩:=rx;obtain⟨t',rfl⟩:=ry;exact SB.mul ok fun t' k=>⟨.str (Txt.mul z n),H,I.tok _,⟨_,rfl⟩,q⟩
omit B in
def wu (h:Hg i):Builtin.Int.intBits i<=2 ^ 20:=by unfold Hg at h;exact intBits_le h
omit B in
def zsp (h:Builtin.Int.intBits i<=2 ^ 20):Hg i:=by unfold Hg;exact qF (natAbs_lt_pow_bits i) (Nat.pow_le_pow_right (by decide) h)
def ϡ:ZJ X (binaryOp .Mult) (rI (fun i j=>Hg i/\Hg j) fun i j=>.int (i*j)):=Nm fun i j _ _ _ _ _ hc q=>mul_int q (IntMulOk.of_bits (wu hc.1) (wu hc.2))
def Ā (ha:PD X a ta)(hb:PD X b tb):PD X (.BinOp a .Mult b pos) (Z6 Y7 ta tb):=by with_unfolding_all exact(Mj (Ų.or (dJ.or ϡ)) (fun aD H S x y v u Q0 Q st rx ry h k=>by
 rcases h with h|⟨z,n,rfl,rfl,hz,h0,h1,q⟩|h
 ·exact .inl (Iw (fun _ _ h=>h) (fun _ _ i j=>.int (i*j)) aD H S x y v u Q0 Q st rx ry h k)
 ·cases rx;cases ry;exact .inr (.inl ⟨z,n,rfl,rfl,ū hz h0 h1,k _ S _ H aD q Wd.refl st (.str _)⟩)
 ·exact .inr (.inr (Iw (fun _ _ h=>h) (fun _ _ i j=>.int (i*j)) aD H S x y v u Q0 Q st rx ry h k))) ha hb)
def ztX (ha:PD X a ta)(hb:PD X b tb):PD X (.BinOp a .FloorDiv b pos) (Z6 oDiv ta tb):=by with_unfolding_all exact(Mj zod (Iw (fun _ _ h=>h) fun _ _ i j=>.int (i.fdiv j)) ha hb)
def zvx (ha:PD X a ta)(hb:PD X b tb):PD X (.BinOp a .Mod b pos) (Z6 oMod ta tb):=by with_unfolding_all exact(Mj zqR (Iw (fun _ _ h=>h) fun _ _ i j=>.int (i.fmod j)) ha hb)
def QS {n:Nat}(h:n<=big):n<=sizeLine:=qZ h (by decide)
def Nx {n:Nat}(h:n<big):n<sizeLine:=qF h (by decide)
def JM {K:PySem.W.Frag}(st:zp K aD H S)(k:KK K aD H Q0 Q)(r:zj K aD H ds vs)(q:Q0 (.ref S.length) (S++[.lst ds]))(l:Addr)(h:H l=none):Q (.ref l) (upd H l (.lst vs)) :=k _ _ _ _ _ q (Wd.newL st h) (st.newL h r) st.newRef
def Fy {K:PySem.W.Frag}(st:zp K aD H S)(k:KK K aD H Q0 Q)(r:zj K aD H ds vs)(q:Q0 (.tup ds) S)(l:Addr)(h:H l=none):Q (.ref l) (upd H l (.tup vs)) :=k _ _ _ _ _ q (Wd.laid h) (st.laid h) (.tup zK (r.wd (Wd.laid h)))
def ztR (ha:PD X a ta)(hb:PD X b tb):PD X (.BinOp a .Add b pos) (Z6 zW ta tb):=by with_unfolding_all exact(Mj (Â.or ((j4 rfl).or ((Δ rfl).or ý))) (fun aD H S x y v u Q0 Q st rx ry h k=>by
  rcases h with⟨i,j,rfl,rfl,q⟩|⟨xs,ys,rfl,rfl,hz,q⟩|⟨xs,ys,hx,hy,hz,q⟩|⟨i,j,rfl,rfl,hz,q⟩
  ·cases rx;cases ry;exact .inl ⟨i,j,rfl,rfl,k _ S _ H aD q Wd.refl st (.int _)⟩
  ·cases rx with
   |tup h1 r1 =>
    cases ry with
    |tup h2 r2 =>
     have l1:=r1.length;have l2:=r2.length;refine .inr (.inl ⟨_,_,_,_,rfl,rfl,ZG.of h1,ZG.of h2,by rw[<- l1,<- l2];exact QS hz,fun e=>?_,fun _ e=>?_,fun _ _ p hp=>Fy st k (r1.append r2) q p hp⟩)
     ·have e':xs=[]:=Gj.mp (by rw[l1,e];rfl);subst e';exact k _ S _ H aD q Wd.refl st (.tup h2 r2)
     ·have e':ys=[]:=Gj.mp (by rw[l2,e];rfl);subst e';rw[qS]at q;exact k _ S _ H aD q Wd.refl st (.tup h1 r1)
  ·obtain⟨a1,vs1,rfl,s1,r1⟩:=hx.sq st rx;obtain⟨a2,vs2,rfl,s2,r2⟩:=hy.sq st ry;exact .inr (.inr (.inl ⟨_,_,_,_,rfl,rfl,s1,s2,by rw[<- r1.length,<- r2.length];exact QS hz,fun p hp=>JM st k (r1.append r2) q p hp⟩))
  ·cases rx;cases ry;exact .inr (.inr (.inr ⟨i,j,rfl,rfl,QS hz,k _ S _ H aD q Wd.refl st (.str _)⟩))) ha hb)
def ž (ha:PD X a ta):PD X (.UnaryOp .USub a pos) (Wq Wa ta):=by with_unfolding_all exact(zY (zx2 zvO ha) fun U H Q hh=>ZS hh fun aD Z S Q0 st rh q k=>by refine⟨aD,Z,S,_,st,rh,q,fun x S1 v H1 ad1 q1 w1 st1 r1=>?_⟩;obtain⟨i,rfl,q1⟩:=q1;cases r1;exact⟨i,rfl,k _ _ _ _ _ q1 w1 st1 (.int _)⟩)
def OC (X:Cx)(op:CmpOp)(r':Zt):Prop:=∃ r,ZJ X (compareOp op) r/\OD X.K r' r
def zx0:OC X .Lt oLt:=⟨_,zwl,Nf fun _ _ _ _=>.bl _⟩
def zwK:OC X .LtE oLe:=⟨_,ù,Nf fun _ _ _ _=>.bl _⟩
def zwY:OC X .Gt Yk:=⟨_,zwT,Nf fun _ _ _ _=>.bl _⟩
def zwE:OC X .GtE JD:=⟨_,zw1,Nf fun _ _ _ _=>.bl _⟩
mutual
def Yx:D->PyData
 |.non=>.none
 |.bl b=>.bool b
 |.int i=>.int i
 |.str x=>.str x
 |.tup xs=>.tuple (YX xs)
 |.ref _=>.none
 |.ty _=>.none
 |.rl _=>.none
 |.exn _=>.none
 |.kt _=>.none
def YX:List D->List PyData
 |[]=>[]
 |x::xs=>Yx x::YX xs
end
section
variable {Z9:List (Addr×Obj)}{U:L2.St}{H:Hp}{s:Shared}{aD:List Addr}
def Kh (I:Inv X Z9 U H s)(k:Nat)(h1:∀ d v u,fl k d=true->Rel X.K aD H d v->RelV v u->∃ as,Reads s.heap u (Yx d) as):∀ ds vs us,ds.all (fl k)=true->zj X.K aD H ds vs->Vals vs us->∃ as,ReadsAll s.heap us (YX ds) as:=by
 intro ds
 induction ds with
 |nil=>intro vs us _ r rv;cases r;cases rv;exact⟨_,.nil⟩
 |cons d ds ih =>
  intro vs us hf r rv;rw[VB,qr]at hf;cases r with
  |cons r t =>
   cases rv with
   |cons q qt =>obtain⟨as,ra⟩:=h1 d _ _ hf.1 r q;obtain⟨bs,rb⟩:=ih _ _ hf.2 t qt;exact⟨_,.cons ra rb⟩
def Rt (I:Inv X Z9 U H s):∀ (k:Nat) (d:D) (v:V) (u:Value),fl k d=true->Rel X.K aD H d v->RelV v u->∃ as,Reads s.heap u (Yx d) as:=by
 intro k
 induction k with
 |zero =>
  intro d v u hf r q;cases r with
  |non=>cases q;exact⟨_,.none⟩
  |bl b=>cases q;exact⟨_,.bool b⟩
  |int i=>obtain⟨t,rfl⟩:=q;exact⟨_,.int i t⟩
  |str x=>obtain⟨t,rfl⟩:=q;exact⟨_,.str x t⟩
  |ty n=>cases hf
  |tup h r=>cases hf
  |rl h r=>cases hf
  |kt h r=>cases hf
  |ref h=>cases hf
  |exn _ _ _=>cases hf
 |succ k ih =>
  intro d v u hf r q;cases r with
  |non=>cases q;exact⟨_,.none⟩
  |bl b=>cases q;exact⟨_,.bool b⟩
  |int i=>obtain⟨t,rfl⟩:=q;exact⟨_,.int i t⟩
  |str x=>obtain⟨t,rfl⟩:=q;exact⟨_,.str x t⟩
  |ty n=>cases hf
  |tup h r =>cases q;obtain⟨its,rv,ht,hz⟩:=I.tuple (ZG.of h);obtain⟨o,ho,hc,n,hd⟩:=ht;obtain⟨as,ra⟩:=Kh I k ih _ _ _ hf r rv;exact⟨_,.tuple ho hc hd (by simpa using ra)⟩
  |rl h r=>cases hf
  |kt h r=>cases hf
  |ref h=>cases hf
  |exn _ _ _=>cases hf
end
def HS:∀ (k:Nat) (d:D),fl k d=true->(Yx d).canLay0=true/\(Yx d).depth<=k:=by
 have all:∀ k,(∀ d,fl k d=true->(Yx d).canLay0=true/\(Yx d).depth<=k)->∀ ds:List D,ds.all (fl k)=true->PyData.canLayAll0 (YX ds)=true/\PyData.depthAll (YX ds)<=k:=by
  intro k h ds
  induction ds with
  |nil=>intro _;exact⟨rfl,qX _⟩
  |cons d ds ih =>
   intro hf;rw[VB,qr]at hf;obtain⟨a1,a2⟩:=h d hf.1;obtain⟨b1,b2⟩:=ih hf.2;refine⟨?_,?_⟩
   ·show(PyData.canLay0 (Yx d)&&PyData.canLayAll0 (YX ds))=true;rw[a1,b1];rfl
   ·show max (PyData.depth (Yx d)) (PyData.depthAll (YX ds))<=k;exact Nat.max_le.mpr ⟨a2,b2⟩
 intro k
 induction k with
 |zero =>
  intro d hf;cases d with
  |non=>exact⟨rfl,qX _⟩
  |bl b=>exact⟨rfl,qX _⟩
  |int i=>exact⟨rfl,qX _⟩
  |str x=>exact⟨hf,qX _⟩
  |tup xs=>cases hf
  |ref n=>cases hf
  |exn _=>cases hf
  |ty n=>cases hf
  |rl xs=>cases hf
  |kt xs=>cases hf
 |succ k ih =>
  intro d hf;cases d with
  |non=>exact⟨rfl,qX _⟩
  |bl b=>exact⟨rfl,qX _⟩
  |int i=>exact⟨rfl,qX _⟩
  |str x=>exact⟨hf,qX _⟩
  |tup xs =>obtain⟨h1,h2⟩:=all k ih xs hf;refine⟨h1,?_⟩;show PyData.depthAll (YX xs)+1<=k+1;lia
  |ref n=>cases hf
  |exn _=>cases hf
  |ty n=>cases hf
  |rl xs=>cases hf
  |kt xs=>cases hf
def EY (k:Nat):∀ ds:List D,ds.all (fl k)=true->PyData.canLayAll0 (YX ds)=true/\PyData.depthAll (YX ds)<=k:=by
 intro ds
 induction ds with
 |nil=>intro _;exact⟨rfl,qX _⟩
 |cons d ds ih =>
  intro hf;rw[VB,qr]at hf;obtain⟨a1,a2⟩:=HS k d hf.1;obtain⟨b1,b2⟩:=ih hf.2;refine⟨?_,?_⟩
  ·show(PyData.canLay0 (Yx d)&&PyData.canLayAll0 (YX ds))=true;rw[a1,b1];rfl
  ·show max (PyData.depth (Yx d)) (PyData.depthAll (YX ds))<=k;exact Nat.max_le.mpr ⟨a2,b2⟩
mutual
theorem Ca:∀ (k:Nat) (x y:D),fl k x=true->fl k y=true->PyData.eqv (Yx x) (Yx y)=eqv x y
  |k,.non,y,_,hy=>by cases y<;>first|rfl|(cases k<;>cases hy)
  |k,.bl a,y,_,hy=>by cases y<;>first|rfl|(cases k<;>cases hy)
  |k,.int i,y,_,hy=>by
    cases y with
    |int j=>show(i==j)=decide (i=j);rw[Bool.beq_eq_decide_eq]
    |ref n=>cases k<;>cases hy
    |exn n=>cases k<;>cases hy
    |ty n=>cases k<;>cases hy
    |rl n=>cases k<;>cases hy
    |kt n=>cases k<;>cases hy
    |_=>rfl
  |k,.str a,y,_,hy=>by cases y<;>first|rfl|(cases k<;>cases hy)
  |0,.tup xs,y,hx,_=>by cases hx
  |k+1,.tup xs,y,hx,hy=>by
    cases y with
    |tup ys=>exact CW k xs ys hx hy
    |ref n=>cases hy
    |ty n=>cases hy
    |rl n=>cases hy
    |kt n=>cases hy
    |_=>rfl
  |k,.ref n,y,hx,_=>by cases k<;>cases hx
  |k,.ty n,y,hx,_=>by cases k<;>cases hx
  |k,.rl n,y,hx,_=>by cases k<;>cases hx
  |k,.kt n,y,hx,_=>by cases k<;>cases hx
  |k,.exn n,y,hx,_=>by cases k<;>cases hx
theorem CW:∀ (k:Nat) (xs ys:List D),xs.all (fl k)=true->ys.all (fl k)=true->PyData.eqvAll (YX xs) (YX ys)=eqvAll xs ys
  |k,[],[],_,_=>rfl
  |k,[],y::ys,_,_=>rfl
  |k,x::xs,[],_,_=>rfl
  |k,x::xs,y::ys,hx,hy=>by rw[VB,qr]at hx hy;show(PyData.eqv (Yx x) (Yx y)&&PyData.eqvAll (YX xs) (YX ys))=(eqv x y&&eqvAll xs ys);rw[Ca k x y hx.1 hy.1,CW k xs ys hx.2 hy.2]
end
section
variable {Z9:List (Addr×Obj)}{U:L2.St}{H:Hp}{s:Shared}{aD:List Addr}{S:Z7}
end
def rE (X:Cx)(g:Bool->Bool):R2:=fun x y H Q=>∃ aD S dx dy b,zp X.K aD H S/\Rel X.K aD H dx x/\Rel X.K aD H dy y/\Ky S dx dy b/\Q (.bl (g b)) H
def ug {Z9:List (Addr×Obj)}{U:L2.St}{H:Hp}{s:Shared}{aD:List Addr}{S:Z7}{dx dy:D}{x y:V}{v u:Value}{b:Bool}(I:Inv X Z9 U H s)(st:zp X.K aD H S)(rx:Rel X.K aD H dx x)(ry:Rel X.K aD H dy y)(qx:RelV x v)(qy:RelV y u)(h:Ky S dx dy b) :
  ∃ px py as bs,Reads s.heap v px as/\Reads s.heap u py bs/\px.canLay0=true/\py.canLay0=true/\min px.depth py.depth<=60/\PyData.eqv px py=b:=by
 rcases h with⟨fx,fy,rfl⟩|⟨xs,ys,hx,hy,fx,fy,rfl⟩|h
 ·obtain⟨as,ra⟩:=Rt I 20 dx x v fx rx qx;obtain⟨bs,rb⟩:=Rt I 20 dy y u fy ry qy;obtain⟨c1,d1⟩:=HS 20 dx fx;obtain⟨c2,d2⟩:=HS 20 dy fy;exact⟨_,_,as,bs,ra,rb,c1,c2,by lia,Ca 20 dx dy fx fy⟩
 ·obtain⟨a1,vs1,rfl,s1,r1⟩:=hx.sq st rx;obtain⟨a2,vs2,rfl,s2,r2⟩:=hy.sq st ry;cases qx;cases qy;obtain⟨its,rv,ht,hz⟩:=I.list s1;obtain⟨its2,rv2,ht2,hz2⟩:=I.list s2;obtain⟨o,ho,hc,n,hd⟩:=ht.isList;obtain⟨o2,ho2,hc2,n2,hd2⟩:=ht2.isList;obtain⟨as,ra⟩:=Kh I 20 (Rt I 20) _ _ _ fx r1 rv;obtain⟨bs,rb⟩:=Kh I 20 (Rt I 20) _ _ _ fy r2 rv2;obtain⟨c1,d1⟩:=EY 20 xs fx;obtain⟨c2,d2⟩:=EY 20 ys fy;refine⟨.list (YX xs),.list (YX ys),_,_,.list ho hc hd (by simpa using ra),.list ho2 hc2 hd2 (by simpa using rb),c1,c2,?_,CW 20 xs ys fx fy⟩;show min (PyData.depthAll (YX xs)+1) (PyData.depthAll (YX ys)+1)<=60;lia
 ·exact h.elim
def Ĵ {k:Nat}(hr:zQ k X.A):OC X .Eq oEq:=⟨rE X id,by
  rintro Z9 s U H x y v u Q I qx qy ⟨aD,S,dx,dy,b,st,rx,ry,h,q⟩;obtain⟨px,py,as,bs,ra,rb,c1,c2,hd,e⟩:=ug I st rx ry qx qy h;have hu:=hr.units;exact PySem.SeqAt.rcAt_reads ra rb c1 c2 (by lia) X.prog X.w X.xe _ ⟨.bl _,H,I,by rw[e];rfl,q⟩,
 by rintro aD H S x y v u Q0 Q st rx ry ⟨b,h,q⟩ k;exact⟨aD,S,x,y,b,st,rx,ry,h,k _ S _ H aD q Wd.refl st (.bl _)⟩⟩
def ϋ {k:Nat}(hr:zQ k X.A):OC X .NotEq XS:=⟨rE X (!·),by
  rintro Z9 s U H x y v u Q I qx qy ⟨aD,S,dx,dy,b,st,rx,ry,h,q⟩;obtain⟨px,py,as,bs,ra,rb,c1,c2,hd,e⟩:=ug I st rx ry qx qy h;have hu:=hr.units;exact PySem.SeqAt.rcNeAt_reads ra rb c1 c2 (by lia) X.prog X.w X.xe _ ⟨.bl _,H,I,by rw[e];rfl,q⟩,
 by rintro aD H S x y v u Q0 Q st rx ry ⟨b,h,q⟩ k;exact⟨aD,S,x,y,b,st,rx,ry,h,k _ S _ H aD q Wd.refl st (.bl _)⟩⟩
def wN {K:PySem.W.Frag}(r:Rel K aD H d v):decide (v=.non)=YL d:=by cases r<;>rfl
def cR:ZJ X (compareOp .Is) (Ac fun i j=>.bl (i==j)):=fun Z9 s U H x y v u Q I rx ry zq32=>by obtain⟨i,j,ex,ey,q⟩:=zq32;subst ex ey;cases rx;cases ry;exact is_bool ⟨.bl _,H,I,rfl,q⟩
def zrm:ZJ X (compareOp .IsNot) (Ac fun i j=>.bl (!(i==j))):=fun Z9 s U H x y v u Q I rx ry zq33=>by obtain⟨i,j,ex,ey,q⟩:=zq33;subst ex ey;cases rx;cases ry;exact isnot_bool ⟨.bl _,H,I,rfl,q⟩
def zwC:OC X .Is Rx:=⟨_,zxB.or cR,fun aD H S x y v u Q0 Q st rx ry h k=>by
 rcases h with⟨rfl,q⟩|⟨a,b,rfl,rfl,q⟩
 ·cases ry;exact .inl ⟨rfl,by rw[wN rx];exact k _ S _ H aD q Wd.refl st (.bl _)⟩
 ·cases rx;cases ry;exact .inr ⟨a,b,rfl,rfl,k _ S _ H aD q Wd.refl st (.bl _)⟩⟩
def iJ:OC X .IsNot Wx:=⟨_,ztb.or zrm,fun aD H S x y v u Q0 Q st rx ry h k=>by
 rcases h with⟨rfl,q⟩|⟨a,b,rfl,rfl,q⟩
 ·cases ry;exact .inl ⟨rfl,by rw[wN rx];exact k _ S _ H aD q Wd.refl st (.bl _)⟩
 ·cases rx;cases ry;exact .inr ⟨a,b,rfl,rfl,k _ S _ H aD q Wd.refl st (.bl _)⟩⟩
def pG {K:PySem.W.Frag}(o1:OD K r1' r1)(o2:OD K r2' r2){U:L2.St}{H:Hp}{Q:VK}(h:up K (Oj r1' r2' ta tb tc) U H Q):Hj r1 r2 (up K ta) (up K tb) (up K tc) U H Q:=by
 obtain⟨aD,Z,S,Q0,st,rh,q,k⟩:=h;refine⟨aD,Z,S,_,st,rh,q,fun x S1 v H1 ad1 q1 w1 st1 rx=>?_⟩;refine⟨ad1,Z,S1,_,st1,rh.wd w1,q1,fun y S2 u H2 ad2 q2 w2 st2 ry=>?_⟩;refine o1 ad2 H2 S2 x y v u _ _ st2 (rx.wd w2) ry q2 fun z S3 z' H3 ad3 ⟨c,e,q3⟩ w3 st3 rz=>?_
 subst e;cases rz;refine⟨c,rfl,?_⟩;cases c with
 |true =>rw[if_pos rfl]at q3 ⊢;refine⟨ad3,Z,S3,_,st3,rh.wd ((w1.trans w2).trans w3),q3,fun z S4 z' H4 ad4 q4 w4 st4 rz=>?_⟩;exact o2 ad4 H4 S4 y z u z' Q0 Q st4 (ry.wd (w3.trans w4)) rz q4 (k.wd (((w1.trans w2).trans w3).trans w4))
 |false =>rw[if_neg qu]at q3 ⊢;exact k _ S3 _ H3 ad3 q3 ((w1.trans w2).trans w3) st3 (.bl _)
def dF (o1:OC X op r1)(o2:OC X op' r2)(ha:PD X a ta)(hb:PD X b tb)(hc:PD X c tc)(hm:autoParam (lastMarks [op,op'] [b,c]=false) Vo):PD X (.Compare a [op,op'] [b,c] pos) (Oj r1 r2 ta tb tc):=by
 with_unfolding_all
  obtain⟨s1,h1,d1⟩:=o1;obtain⟨s2,h2,d2⟩:=o2;exact zY (zoc h1 h2 ha hb hc hm) fun _ _ _=>pG d1 d2
def zrV {e:Expr}{t:DE}(h:PD X e t)(he:autoParam (∀ whole,isTrue e X.env whole=(do let v <- whole;standAt e.pos;holding [v] (truthy v))) Qa):Yy X e (dT t):=by with_unfolding_all exact(O4 (Ł h he) fun U H Q hh=>ZS hh fun aD Z S Q0 st rh q k =>
 ⟨aD,Z,S,_,st,rh,q,by rintro d S' v H' aD' ⟨b,e,q'⟩ w st' r;subst e;cases r;exact⟨b,rfl,k b S' H' aD' q' w st'⟩⟩)
def jR (o1:OC X op r1)(o2:OC X op' r2)(ha:PD X a ta)(hb:PD X b tb)(hc:PD X c tc)(hm:autoParam (lastMarks [op,op'] [b,c]=false) Vo):Yy X (.Compare a [op,op'] [b,c] pos) (dT (Oj r1 r2 ta tb tc)):=by
 with_unfolding_all
  obtain⟨s1,h1,d1⟩:=o1;obtain⟨s2,h2,d2⟩:=o2;refine O4 (mF h1 h2 ha hb hc hm) fun U H Q hh=>ZS hh fun aD Z S Q0 st rh q k=>?_
  refine pG (Q:=fun x H'=>∃ k,x=.bl k/\Q k H') d1 d2 ⟨aD,Z,S,_,st,rh,q,fun d S' v H' aD' ⟨b,e,q'⟩ w st' r=>?_⟩;subst e;cases r;exact⟨b,rfl,k b S' H' aD' q' w st'⟩
variable {tA tB':DT}{rest:List Expr}
def iY (h:Yy X a tA):Yy X (.UnaryOp .Not a pos) (W9 tA):=by with_unfolding_all exact(O4 (ztf h) fun U H Q hh=>ZS hh fun aD Z S Q0 st rh q k=>⟨aD,Z,S,_,st,rh,q,fun b S' H' aD' q' w st'=>k _ S' H' aD' q' w st'⟩)
theorem ztH {e:Expr}{t:DT}(h:Ug X e t):Yy X e t:=by with_unfolding_all exact(h _)
def fP (ha:Yy X a tA):Ug X (.BoolOp .And [a] pos) tA:=by with_unfolding_all exact(Ŵ ha)
def zrh (ha:Yy X a tA):Ug X (.BoolOp .Or [a] pos) tA:=by with_unfolding_all exact(ztM ha)
def jO (ha:Yy X a tA)(hb:Ug X (.BoolOp .And (b::rest) pos) tB'):Ug X (.BoolOp .And (a::b::rest) pos) (WY tA tB'):=by with_unfolding_all exact(xg (ji ha hb) fun U H Q hh=>ZS hh fun aD Z S Q0 st rh q k =>
 ⟨aD,Z,S,_,st,rh,q,fun b S' H' aD' q' w st'=>by
  cases b with
  |true=>rw[if_pos rfl]at q' ⊢;exact⟨aD',Z,S',Q0,st',rh.wd w,q',fun b S' H' aD' q w'=>k b S' H' aD' q (w.trans w')⟩
  |false=>rw[if_neg qu]at q' ⊢;exact k _ S' H' aD' q' w st'⟩)
def zu1 (ha:Yy X a tA)(hb:Ug X (.BoolOp .Or (b::rest) pos) tB'):Ug X (.BoolOp .Or (a::b::rest) pos) (Xp tA tB'):=by with_unfolding_all exact(xg (zwX ha hb) fun U H Q hh=>ZS hh fun aD Z S Q0 st rh q k =>
 ⟨aD,Z,S,_,st,rh,q,fun b S' H' aD' q' w st'=>by
  cases b with
  |false=>rw[if_neg qu]at q' ⊢;exact⟨aD',Z,S',Q0,st',rh.wd w,q',fun b S' H' aD' q w'=>k b S' H' aD' q (w.trans w')⟩
  |true=>rw[if_pos rfl]at q' ⊢;exact k _ S' H' aD' q' w st'⟩)
def ak {op}{t:DE}(h:PD X a t):PD X (.BoolOp op [a] pos) t:=by with_unfolding_all exact(ŧ h)
def zso (ha:PD X a ta)(hb:PD X (.BoolOp .And (b::rest) pos) tb):PD X (.BoolOp .And (a::b::rest) pos) (Ro ta tb):=by with_unfolding_all exact(zY (zt5 ha hb) fun U H Q hh=>ZS hh fun aD Z S Q0 st rh q k =>
 ⟨aD,Z,S,_,st,rh,q,by
  rintro d S' v H' aD' ⟨c,e,q'⟩ w st' r;subst e;cases r;refine⟨c,rfl,?_⟩;cases c with
  |true=>rw[if_pos rfl]at q' ⊢;exact⟨aD',Z,S',Q0,st',rh.wd w,q',k.wd w⟩
  |false=>rw[if_neg qu]at q' ⊢;exact k _ S' _ H' aD' q' w st' (.bl _)⟩)
def j5 (ha:PD X a ta)(hb:PD X (.BoolOp .Or (b::rest) pos) tb):PD X (.BoolOp .Or (a::b::rest) pos) (rQ ta tb):=by with_unfolding_all exact(zY (ť ha hb) fun U H Q hh=>ZS hh fun aD Z S Q0 st rh q k =>
 ⟨aD,Z,S,_,st,rh,q,by
  rintro d S' v H' aD' ⟨c,e,q'⟩ w st' r;subst e;cases r;refine⟨c,rfl,?_⟩;cases c with
  |false=>rw[if_neg qu]at q' ⊢;exact⟨aD',Z,S',Q0,st',rh.wd w,q',k.wd w⟩
  |true=>rw[if_pos rfl]at q' ⊢;exact k _ S' _ H' aD' q' w st' (.bl _)⟩)
def Ÿ (ha:PD X a ta):PD X (.UnaryOp .Not a pos) (Rw ta):=by with_unfolding_all exact(zY (İ ha) fun U H Q hh=>ZS hh fun aD Z S Q0 st rh q k =>
 ⟨aD,Z,S,_,st,rh,q,by rintro d S' v H' aD' ⟨c,e,q'⟩ w st' r;subst e;cases r;exact⟨c,rfl,k _ S' _ H' aD' q' w st' (.bl _)⟩⟩)
def fG (hc:Yy X c tA)(ha:PD X a ta)(hb:PD X b tb):PD X (.IfExp c a b pos) (Bg tA ta tb):=by with_unfolding_all exact(zY (ė hc ha hb) fun U H Q hh=>ZS hh fun aD Z S Q0 st rh q k =>
 ⟨aD,Z,S,_,st,rh,q,fun b S' H' aD' q' w st'=>by
  cases b with
  |true=>rw[if_pos rfl]at q' ⊢;exact⟨aD',Z,S',Q0,st',rh.wd w,q',k.wd w⟩
  |false=>rw[if_neg qu]at q' ⊢;exact⟨aD',Z,S',Q0,st',rh.wd w,q',k.wd w⟩⟩)
end
section
variable {X:Cx}{a b e:Expr}{es:List Expr}{ta tb te:DE}{t:DA}{pos:Pos}
def yu:PAD X [] zm:=by with_unfolding_all exact(uc jY fun U H Q hh=>ZS hh fun aD Z S Q0 st rh q k=>k [] S [] H aD q Wd.refl st .nil)
def rD (ha:PD X e te)(hr:PAD X es t)(hs:autoParam (starEach (e::es) X.env=(false,eval e X.env)::starEach es X.env) Q5):PAD X (e::es) (zc te t):=by with_unfolding_all exact(uc (zr2 ha hr hs) fun U H Q hh=>ZS hh fun aD Z S Q0 st rh q k =>⟨aD,Z,S,_,st,rh,q,fun d S1 v H1 ad1 q1 w1 st1 r1=>⟨ad1,Z,S1,_,st1,rh.wd w1,q1,fun ds S2 vs H2 ad2 q2 w2 st2 r2=>k _ S2 _ H2 ad2 q2 (w1.trans w2) st2 (.cons (r1.wd w2) r2)⟩⟩)
def zul {x1}(h:PAD X es t):PD X (.Tuple es x1 pos) (dTup t):=by with_unfolding_all exact(zY (bZ h) fun U H Q hh=>ZS hh fun aD Z S Q0 st rh q k =>⟨aD,Z,S,_,st,rh,q,by rintro ds S1 vs H1 ad1 ⟨hz,q1⟩ w1 st1 r1;exact⟨by rw[<- r1.length];exact QS hz,fun p hp=>Fy st1 (k.wd w1) r1 q1 p hp⟩⟩)
def zsX (h:PAD X es t):PD X (.List es pos) (Zk t):=by with_unfolding_all exact(zY (Ĉ h) fun U H Q hh=>ZS hh fun aD Z S Q0 st rh q k =>⟨aD,Z,S,_,st,rh,q,by rintro ds S1 vs H1 ad1 ⟨hz,q1⟩ w1 st1 r1;exact⟨by rw[<- r1.length];exact QS hz,fun p hp=>JM st1 (k.wd w1) r1 q1 p hp⟩⟩)
def å {xs:List D}{i:Int}{d:D}(h:Zh xs i=some d){K:PySem.W.Frag}(r:zj K aD H xs vs):∃ v,QZ vs i=some v/\Rel K aD H d v:=by
 have e:Pn vs.length i=Xz xs.length i:=by rw[r.length];rfl
 unfold Zh at h;unfold QZ;rw[e];cases q:Xz xs.length i with
 |none=>rw[q]at h;cases h
 |some j =>rw[q]at h;exact r.get h
def zxL (ha:PD X a ta)(hb:PD X b tb)(hs:autoParam (Es b) wz):PD X (.Subscript a b pos) (Z6 ZQ ta tb):=by with_unfolding_all exact(zY (zwm (zqF.or (cI.or zsH)) ha hb hs) fun _ _ _=>HN fun aD H S x y v u Q0 Q st rx ry h k=>by
 rcases h with⟨i,xs,d,ey,hx,e,q⟩|⟨z,i,c,rfl,rfl,hz,e,q⟩
 case inr =>cases rx;cases ry;exact .inr (.inr ⟨z,i,c,rfl,rfl,QS hz,e,k _ S _ H aD q Wd.refl st (.str _)⟩)
 subst ey;cases ry;obtain⟨p,vs,rfl,hs,r⟩:=hx.sq st rx;obtain⟨z,ez,rz⟩:=å e r;rcases hs with hs|hs
 ·exact .inl ⟨p,vs,i,z,rfl,rfl,hs,ez,k _ S _ H aD q Wd.refl st rz⟩
 ·exact .inr (.inl ⟨p,vs,i,z,rfl,rfl,hs,ez,k _ S _ H aD q Wd.refl st rz⟩))
def Mg (K:PySem.W.Frag)(t:Option DE):TO:=fun U H Q=>∃ aD Z S Q0,zp K aD H S/\zX K aD H Z U/\T5 t Z S Q0/\∀ o S' H' aD',Q0 o S'->Wd aD H aD' H'->zp K aD' H' S'->Q o H'
def zrN:PO X none (Mg X.K none):=fun Z9 s U H Q I hh=>ZS hh fun aD Z S Q0 st rh q k=>Š Z9 s U H Q I (k none S H aD q Wd.refl st)
def zsg {t:DE}(h:PD X e t):PO X (some e) (Mg X.K (some t)):=by with_unfolding_all exact(fun Z9 s U H Q I hh=>ZS hh fun aD Z S Q0 st rh q k=>Ĕ h Z9 s U H Q I ⟨aD,Z,S,_,st,rh,q,by rintro d S' v H' aD' ⟨i,e,q'⟩ w st' r;subst e;cases r;exact⟨i,rfl,k _ S' H' aD' q' w st'⟩⟩)
def Ah {K:PySem.W.Frag}(lo hi:Option Int)(r:zj K aD H xs vs):zj K aD H (cutD xs lo hi) (Ur vs lo hi):=by
  have e1:HT.sIx vs.length 0 lo=Xm xs.length 0 lo:=by
    rw[r.length];cases lo with
    |none=>rfl
    |some k=>show HT.sIx _ _ (some k)=_;unfold HT.sIx Xm;first|rfl|(simp only[];split<;>lia)
  have e2:HT.sIx vs.length vs.length hi=Xm xs.length xs.length hi:=by
    rw[r.length];cases hi with
    |none=>rfl
    |some k=>show HT.sIx _ _ (some k)=_;unfold HT.sIx Xm;first|rfl|(simp only[];split<;>lia)
  unfold cutD Ur;rw[e1,e2];exact(r.drop _).take _
def jy (K:PySem.W.Frag):V->Option Int->Option Int->Hp->VK->Prop:=fun x lo hi H Q=>∃ a xs,x=.ref a/\ZG K H a xs /\
 ((HT.sIx xs.length 0 lo=0/\HT.sIx xs.length xs.length hi=xs.length)->Q (.ref a) H)/\(¬ (HT.sIx xs.length 0 lo=0/\HT.sIx xs.length xs.length hi=xs.length)->∀ p,H p=none->Q (.ref p) (upd H p (.tup (Ur xs lo hi))))
def fj {prog:Program}{w:World}{A:Around}{E:Value->Shared->Prop}{s:Shared}{t sl:Addr}{items:Array Value}{vl vu:Value}{lo hi:Option Int}{Q:Value->Shared->Prop}(ht:IsTup s.heap t items)(hs:s.heap.IsSliceOf sl vl vu .none)(pl:IsPart vl lo)(pu:IsPart vu hi)
  (hw:HT.sIx items.size 0 lo=0/\HT.sIx items.size items.size hi=items.size) (h:Q (.ref t) s):wpAny (model prog w) A (getItem (.ref t) (.ref sl)) Q E s:=by
 obtain⟨os,hos,hcs,hds⟩:=id hs;have hTs:s.TypeIs (.ref sl) "slice":=⟨os,hos,hcs⟩
 unfold getItem
 try with_reducible refine wpAny_holding ?_
 first|refine wpAny_bind (wpAny_pure ?_)|skip
 refine wpAny_bind (wpAny_sequenceKey ht.typeIs (by decide) ?_)
 refine wpAny_bind (wpAny_callSpecial?_slot (name:=Str.ofString "__getitem__") ht.typeIs PyProof.Rows.slot_tuple_getitem
  (wpAny_call_entry PyProof.Rows.slot_tuple_getitem ht.typeIs PyProof.Rows.entry_tuple_getitem ?_ (PyProof.Rows.args_tuple_getitem _ _)))
 show wpAny _ _ (Builtin.Tuple.tupleItemsOf (.ref t) >>= _) _ _ s;refine wpAny_bind (tupleItemsOf_ ht ?_);refine wpAny_bind (wpAny_typeOf hTs ?_);rw[if_pos (by decide)];refine wpAny_bind (HT.wJ hs pl pu ?_);show wpAny _ _ (if(((HT.sIx items.size 0 lo:Nat):Int)==0&&(1:Int)==1&&(HT.sIx items.size items.size hi-HT.sIx items.size 0 lo)==items.size)=true then _ else _) _ _ s;rw[if_pos (by rw[hw.1,hw.2];simp)];unfold Builtin.Tuple.tupleIsExact;refine wpAny_bind (wpAny_bind (wpAny_typeOf ht.typeIs (wpAny_pure ?_)));rw[if_pos (by decide)];refine wpAny_bind (wpAny_rule ?_)
 first
  |exact wpAny_pure ⟨_,rfl,wpAny_pure h⟩
  |exact wpAny_bind (wpAny_pure ⟨_,rfl,wpAny_pure h⟩)
  |exact wpAny_bind (wpAny_pure (wpAny_pure ⟨_,rfl,wpAny_pure h⟩))
  |trace_state
def zrW:Tj X (jy X.K):=by
 intro Z9 s U H x v vl vu lo hi sl Q I rx hs pl pu h;obtain⟨a,xs,rfl,hx,q1,q2⟩:=h;by_cases hw:HT.sIx xs.length 0 lo=0/\HT.sIx xs.length xs.length hi=xs.length
 ·cases rx;obtain⟨its,r,ht,hz⟩:=I.tuple hx;have hlen:its.toArray.size=xs.length:=by rw[qB];exact r.length.symm
  refine⟨"tuple",_,PyProof.Rows.slot_tuple_getitem.lookup,ht.typeIs,?_⟩;exact fj ht hs pl pu (by rw[hlen];exact hw) ⟨.ref a,H,I,rfl,q1 hw⟩
 ·exact dO Z9 s U H (.ref a) v vl vu lo hi sl Q I rx hs pl pu ⟨a,xs,rfl,hx,hw,q2 hw⟩
def jw (xs:List α)(lo hi:Option Int)(h1:Xm xs.length 0 lo=0)(h2:Xm xs.length xs.length hi=xs.length):cutD xs lo hi=xs:=by unfold cutD;rw[h1,h2];simp
def ϭ (n d:Nat)(o:Option Int):HT.sIx n d o=Xm n d o:=by
 cases o with
 |none=>rfl
 |some k=>rfl
def ı {lo:Option Expr}{tl th:Option DE}{p2:Pos}(ha:PD X a ta)(hl:PO X lo (Mg X.K tl))(hh:PO X hi (Mg X.K th)):PD X (.Subscript a (.Slice lo hi none p2) pos) (Uo Ut ta tl th):=by with_unfolding_all exact(zY (zn1 (zr6.or zrW) ha hl hh) fun U H Q hh=>ZS hh fun aD Z S Q0 st rh q k =>
 ⟨aD,Z,S,_,st,rh,q,fun x S1 v H1 ad1 q1 w1 st1 r1=>⟨ad1,Z,S1,_,st1,rh.wd w1,q1,fun l S2 H2 ad2 q2 w2 st2=>⟨ad2,Z,S2,_,st2,rh.wd (w1.trans w2),q2,fun h S3 H3 ad3 q3 w3 st3=>by
  have r3:=r1.wd (w2.trans w3);have k3:=k.wd ((w1.trans w2).trans w3);rcases q3 with⟨xs,rfl,q3⟩|⟨xs,hx,q3⟩|q3
  ·cases r3 with
   |tup h1 r =>refine .inr ⟨_,_,rfl,ZG.of h1,fun⟨z1,z2⟩=>?_,fun _ p hp=>Fy st3 k3 (Ah _ _ r) q3 p hp⟩;rw[ϭ,<- r.length]at z1 z2;rw[jw xs _ _ z1 z2]at q3;exact k3 _ S3 _ H3 ad3 q3 Wd.refl st3 (.tup h1 r)
  ·obtain⟨p,vs,rfl,hs,r⟩:=hx.sq st3 r3;exact .inl ⟨p,vs,rfl,hs,fun l hl=>JM st3 k3 (Ah _ _ r) q3 l hl⟩
  ·exact q3.elim⟩⟩⟩)
end
end Dp
namespace Dp
open PySem PySem.Spec PyProof.Rows L2 My
variable [B:Bs]
section
variable {X:Cx}{a e:Expr}{es:List Expr}{ta te:DE}{t:DA}{pos p:Pos}
def Õ {k:Nat}{f:ZV}(G:Got X.prog X.w X.K X.mg X.base k x ps (Xl X.K f))(hr:zQ j X.A)(ha:PAD X (e::es) t)(hk:autoParam (k<=j) zO)(hg:autoParam (Gl X x) zy)(hdb:autoParam ((x==("__debug__":Str))=false) zO)(he:autoParam (starEach (e::es) X.env=(false,eval e X.env)::starEach es X.env) Q5)(hpl:autoParam ((backTo pos (starEach es X.env)).any (·.1)=false) QB) :
  PD X (.Call (.Name x p) (e::es) [] pos) (dCall f t):=by with_unfolding_all exact(zY (ztr G hr hk hg ha hdb he hpl) fun U H Q hh=>ZS hh fun aD Z S Q0 st rh q k =>
 ⟨aD,Z,S,_,st,rh,q,fun ds S1 vs H1 ad1 q1 w1 st1 r1=>by show Xl X.K f (vs++[]) H1 Q E0;rw[qS];exact⟨ad1,S1,ds,Q0,st1.base,r1,q1,(k.wd w1).base st1⟩⟩)
def BD (K:PySem.W.Frag)(r':DB)(r:List V->Hp->VK->Prop):Prop:=∀ aD H S ds vs Q0 Q,zp K aD H S->zj K aD H ds vs->r' ds S Q0->KK K aD H Q0 Q->r vs H Q
def BC (X:Cx)(f:Value)(r':DB):Prop:=∃ r,Y4 X f r/\BD X.K r' r
def zyV {id:String}(o:BC X (.builtin id) r')(hm:X.mg x=none)(hv:bootBuiltins x=some (.builtin id))(ha:PAD X (e::es) t)(hg:autoParam (Gl X x) zy)(hn:autoParam (x≠"__name__") zO)(hdb:autoParam ((x==("__debug__":Str))=false) zO)(he:autoParam (starEach (e::es) X.env=(false,eval e X.env)::starEach es X.env) Q5)(hpl:autoParam ((backTo pos (starEach es X.env)).any (·.1)=false) QB):PD X (.Call (.Name x p) (e::es) [] pos) (dB r' t):=by
 with_unfolding_all
  obtain⟨r,ho,od⟩:=o
  exact zY (zoL ho hg hm hv ha hn hdb he hpl) fun U H Q hh=>ZS hh fun aD Z S Q0 st rh q k =>⟨aD,Z,S,_,st,rh,q,fun ds S1 vs H1 ad1 q1 w1 st1 r1=>od ad1 H1 S1 ds vs Q0 Q st1 r1 q1 (k.wd w1)⟩
def bJ {T:String}(o:BC X (.type T) r')(hm:X.mg x=none)(hv:bootBuiltins x=some (.type T))(ha:PAD X (e::es) t)(hg:autoParam (Gl X x) zy)(hn:autoParam (x≠"__name__") zO)(hdb:autoParam ((x==("__debug__":Str))=false) zO)(he:autoParam (starEach (e::es) X.env=(false,eval e X.env)::starEach es X.env) Q5)(hpl:autoParam ((backTo pos (starEach es X.env)).any (·.1)=false) QB):PD X (.Call (.Name x p) (e::es) [] pos) (dB r' t):=by
 with_unfolding_all
  obtain⟨r,ho,od⟩:=o
  exact zY (zmJ ho hg hm hv ha hn hdb he hpl) fun U H Q hh=>ZS hh fun aD Z S Q0 st rh q k =>⟨aD,Z,S,_,st,rh,q,fun ds S1 vs H1 ad1 q1 w1 st1 r1=>od ad1 H1 S1 ds vs Q0 Q st1 r1 q1 (k.wd w1)⟩
def Xu {K:PySem.W.Frag}{d:D}{vs:List V}(r:zj K aD H [d] vs):∃ v,vs=[v]/\Rel K aD H d v:=by
 cases r with
 |cons r t=>cases t;exact⟨_,rfl,r⟩
def Od {K:PySem.W.Frag}{d e:D}{vs:List V}(r:zj K aD H [d,e] vs):∃ v u,vs=[v,u]/\Rel K aD H d v/\Rel K aD H e u:=by
 cases r with
 |cons r t =>obtain⟨u,rfl,r2⟩:=Xu t;exact⟨_,_,rfl,r,r2⟩
def Ω:BC X (.builtin "len") Za:=⟨_,jk.or ø,fun aD H S ds vs Q0 Q st r h k=>by
 rcases h with⟨x,xs,e,hx,q⟩|⟨z,e,hz,q⟩
 case inr =>subst e;obtain⟨v,rfl,rv⟩:=Xu r;cases rv;exact .inr ⟨z,rfl,QS hz,k _ S _ H aD q Wd.refl st (.int _)⟩
 subst e;obtain⟨v,rfl,rv⟩:=Xu r;obtain⟨a,ws,rfl,hs,rs⟩:=hx.sq st rv;exact .inl ⟨a,ws,rfl,hs,k _ S _ H aD (by rw[rs.length]at q;exact q) Wd.refl st (.int _)⟩⟩
def zub:BC X (.builtin "abs") Jy:=⟨_,Ź,by rintro aD H S ds vs Q0 Q st r ⟨i,e,q⟩ k;subst e;obtain⟨v,rfl,rv⟩:=Xu r;cases rv;exact⟨i,rfl,k _ S _ H aD q Wd.refl st (.int _)⟩⟩
def eF (i j:Int):(if j > i then j else i)=max i j:=by rw[Int.max_def];split<;>split<;>lia
def ϩ (i j:Int):(if j<i then j else i)=min i j:=by rw[Int.min_def];split<;>split<;>lia
def ο (hc:autoParam (X.calm=true) zy):BC X (.builtin "max") RT:=⟨_,zl5 hc,by rintro aD H S ds vs Q0 Q st r ⟨i,j,e,q⟩ k;subst e;obtain⟨v,u,rfl,rv,ru⟩:=Od r;cases rv;cases ru;exact⟨i,j,rfl,by rw[eF];exact k _ S _ H aD q Wd.refl st (.int _)⟩⟩
def zr1 (hc:autoParam (X.calm=true) zy):BC X (.builtin "min") Pb:=⟨_,bI hc,by rintro aD H S ds vs Q0 Q st r ⟨i,j,e,q⟩ k;subst e;obtain⟨v,u,rfl,rv,ru⟩:=Od r;cases rv;cases ru;exact⟨i,j,rfl,by rw[ϩ];exact k _ S _ H aD q Wd.refl st (.int _)⟩⟩
def zr5 (hc:autoParam (X.calm=true) zy):BC X (.builtin "max") JT:=⟨_,æ rfl hc,by rintro aD H S ds vs Q0 Q st r ⟨x,ns,e,hx,h0,q⟩ k;subst e;obtain⟨v,rfl,rv⟩:=Xu r;obtain⟨a,ws,rfl,hs,rs⟩:=hx.sq st rv;cases rs.ints;exact⟨a,ns,rfl,hs,h0,fun m h1 h2=>k _ S _ H aD (q m h1 h2) Wd.refl st (.int _)⟩⟩
def fY (hc:autoParam (X.calm=true) zy):BC X (.builtin "min") MF:=⟨_,cW rfl hc,by rintro aD H S ds vs Q0 Q st r ⟨x,ns,e,hx,h0,q⟩ k;subst e;obtain⟨v,rfl,rv⟩:=Xu r;obtain⟨a,ws,rfl,hs,rs⟩:=hx.sq st rv;cases rs.ints;exact⟨a,ns,rfl,hs,h0,fun m h1 h2=>k _ S _ H aD (q m h1 h2) Wd.refl st (.int _)⟩⟩
def Ŋ (hc:autoParam (X.calm=true) zy):BC X (.builtin "all") Wz:=⟨_,zm9 rfl hc,by rintro aD H S ds vs Q0 Q st r ⟨x,ns,e,hx,q⟩ k;subst e;obtain⟨v,rfl,rv⟩:=Xu r;obtain⟨a,ws,rfl,hs,rs⟩:=hx.sq st rv;cases rs.bls;exact⟨a,ns,rfl,hs,k _ S _ H aD q Wd.refl st (.bl _)⟩⟩
def Ń:BC X (.type "list") O6:=⟨_,zlP,by rintro aD H S ds vs Q0 Q st r ⟨x,xs,e,hx,q⟩ k;subst e;obtain⟨v,rfl,rv⟩:=Xu r;obtain⟨a,ws,rfl,hs,rs⟩:=hx.sq st rv;exact⟨a,ws,rfl,hs,fun l hl=>JM st k rs q l hl⟩⟩
def zt0:BC X (.type "int") Nt:=⟨_,zmz,fun aD H S ds vs Q0 Q st r h k=>by
 rcases h with⟨i,rfl,q⟩|⟨b,rfl,q⟩
 ·obtain⟨v,rfl,rv⟩:=Xu r;cases rv;exact .inl ⟨i,rfl,k _ S _ H aD q Wd.refl st (.int _)⟩
 ·obtain⟨v,rfl,rv⟩:=Xu r;cases rv;exact .inr ⟨b,rfl,k _ S _ H aD q Wd.refl st (.int _)⟩⟩
section
variable {K:PySem.W.Frag}
def fD (t:String)(h:Oh t=true):PySem.W.kitOne K (.type "NoneType") (.type t)=some false/\PySem.W.kitOne K (.type "bool") (.type t)=some (t=="bool"||t=="int")/\PySem.W.kitOne K (.type "int") (.type t)=some (t=="int") /\
  PySem.W.kitOne K (.type "str") (.type t)=some (t=="str")/\PySem.W.kitOne K (.type "tuple") (.type t)=some (t=="tuple")/\PySem.W.kitOne K (.type "list") (.type t)=some (t=="list"):=by
 unfold Oh at h;simp only[Ql,beq_iff_eq]at h;rcases h with(((rfl|rfl)|rfl)|rfl)|rfl
 ·exact⟨by kernel_rfl,by kernel_rfl,by kernel_rfl,by kernel_rfl,by kernel_rfl,by kernel_rfl⟩
 ·exact⟨by kernel_rfl,by kernel_rfl,by kernel_rfl,by kernel_rfl,by kernel_rfl,by kernel_rfl⟩
 ·exact⟨by kernel_rfl,by kernel_rfl,by kernel_rfl,by kernel_rfl,by kernel_rfl,by kernel_rfl⟩
 ·exact⟨by kernel_rfl,by kernel_rfl,by kernel_rfl,by kernel_rfl,by kernel_rfl,by kernel_rfl⟩
 ·exact⟨by kernel_rfl,by kernel_rfl,by kernel_rfl,by kernel_rfl,by kernel_rfl,by kernel_rfl⟩
end
def zu7:BC X (.builtin "isinstance") Tp:=⟨_,zoF,by
 rintro aD H S ds vs Q0 Q st r ⟨x,t,b,e,h,q⟩ k;subst e;obtain⟨v,u,rfl,rv,ru⟩:=Od r;cases ru;have fin:=k _ S _ H aD q Wd.refl st (.bl b);unfold vL at h;split at h
 ·cases h
 rename_i hty
 have hty':Oh t=true:=by
  cases hh:Oh t
  ·exact absurd (by show(!Oh t)=true;rw[hh];rfl) hty
  ·rfl
 obtain⟨k1,k2,k3,k4,k5,k6⟩:=fD (K:=X.K) t hty';cases rv with
 |non=>cases h;exact⟨_,_,_,_,rfl,.non,k1,fin⟩
 |bl c=>cases h;exact⟨_,_,_,_,rfl,.bl c,k2,fin⟩
 |int i=>cases h;exact⟨_,_,_,_,rfl,.int i,k3,fin⟩
 |str y=>cases h;exact⟨_,_,_,_,rfl,.str y,k4,fin⟩
 |ty n=>cases h
 |exn _ _ _=>cases h
 |tup ht rt=>cases h;exact⟨_,_,_,_,rfl,.tup ht,k5,fin⟩
 |rl hl rl=>cases h
 |kt hl rl=>cases h
 |@ref n a hn =>
  have h:(match S[n]? with | some (.lst _)=>some (t=="list") | _=>none)=some b:=h;cases hS:S[n]? with
  |none=>rw[hS]at h;cases h
  |some c =>
   rw[hS]at h;cases c with
   |ins c fs=>cases h
   |dk _=>cases h
   |dt _=>cases h
   |dn _ _=>cases h
   |tab _ _ _=>cases h
   |lst xs =>cases h;obtain⟨vs,hv,_⟩:=st.cell n a _ hn hS;exact⟨_,_,_,_,rfl,.lst hv,k6,fin⟩⟩
def MD (X:Cx)(id:String)(r':DM):Prop:=∃ r,IK X id r/\∀ aD H S x ds v vs Q0 Q,zp X.K aD H S->Rel X.K aD H x v->zj X.K aD H ds vs->r' x ds S Q0->KK X.K aD H Q0 Q->r v vs H Q
def xY {K:PySem.W.Frag}{x:D}(st:zp K aD H S)(h:∃ n ys,x=.ref n/\S[n]?=some (.lst ys))(r:Rel K aD H x v):Io K "list" v H:=by
 obtain⟨n,ys,rfl,h⟩:=h;cases r with
 |ref e =>obtain⟨vs,hv,_⟩:=st.cell n _ _ e h;exact .inl ⟨rfl,vs,Zz.of hv⟩
def zy9 {name:Str}{id:String}{apos cpos:Pos}(slot:Slot "list" name id)(hty:typeOf (.builtin id)=pure (.type "method_descriptor"))(hm:MD X id r')(ho:PD X o to)(ha:PAD X (e::es) t)(hbase:autoParam (attributeBase o name X.env (eval o X.env)=eval o X.env) zy)(hfew:((backTo cpos (starEach (e::es) X.env)).all (fun x=>!x.1)&&(backToKw cpos (keywordEach [] X.env)).all (fun x=>x.1.isSome)
  &&decide ((e::es).length+([]:List Keyword).length+(if([]:List Keyword).isEmpty then 0 else 1)<30))=true:=by rfl) (hline:(apos.endLine==cpos.line)=true:=by rfl) (hs:starEach (e::es) X.env=(false,eval e X.env)::starEach es X.env:=by exact VD rfl) (hplain:(backTo cpos (starEach es X.env)).any (·.1)=false:=by exact HD rfl) :
  PD X (.Call (.Attribute o name apos) (e::es) [] cpos) (dM r' to t):=by
 with_unfolding_all
  obtain⟨r,hr,od⟩:=hm
  exact zY (iB PySem.F.plainAttrs_list slot hty hr ho ha hbase hfew hline hs hplain) fun U H Q hh=>ZS hh fun aD Z S Q0 st rh q k =>
   ⟨aD,Z,S,_,st,rh,q,by rintro x S1 v H1 ad1 ⟨hl,q1⟩ w1 st1 r1;exact⟨xY st1 hl r1,ad1,Z,S1,_,st1,rh.wd w1,q1,fun ds S2 vs H2 ad2 q2 w2 st2 r2 =>od ad2 H2 S2 x ds v vs Q0 Q st2 (r1.wd w2) r2 q2 (k.wd (w1.trans w2))⟩⟩
def zwe {name:Str}{id:String}{apos cpos:Pos}(slot:Slot "list" name id)(hty:typeOf (.builtin id)=pure (.type "method_descriptor"))(hm:MD X id r')(ho:PD X o to)(hbase:autoParam (attributeBase o name X.env (eval o X.env)=eval o X.env) zy)(hline:autoParam ((apos.endLine==cpos.line)=true) zy):PD X (.Call (.Attribute o name apos) [] [] cpos) (dM r' to zm):=by
 with_unfolding_all
  obtain⟨r,hr,od⟩:=hm
  exact zY (aA PySem.F.plainAttrs_list slot hty hr ho hbase hline) fun U H Q hh=>ZS hh fun aD Z S Q0 st rh q k =>⟨aD,Z,S,_,st,rh,q,by rintro x S1 v H1 ad1 ⟨hl,q1⟩ w1 st1 r1;exact⟨xY st1 hl r1,od ad1 H1 S1 x [] v [] Q0 Q st1 r1 .nil q1 (k.wd w1)⟩⟩
def ñ:MD X "list.append" V1:=⟨_,uE,by
 rintro aD H S x ds v vs Q0 Q st rx r ⟨n,xs,y,ex,ey,hn,hl,q⟩ k;subst ex ey;obtain⟨u,rfl,ru⟩:=Xu r;cases rx with
 |ref e =>obtain⟨ws,hw,rw⟩:=st.cell n _ _ e hn;exact⟨_,ws,u,rfl,rfl,hw,by rw[<- rw.length];exact Nx hl,k _ _ _ _ aD q (Wd.put e hw) (st.put e hw (rw.append (.cons ru .nil))) .non⟩⟩
end
end Dp
namespace Dp
open PySem PySem.Spec PyProof.Rows L2 My
variable [B:Bs]
def Wj (K:PySem.W.Frag)(b:Nat)(g':DG)(g:TG):Prop:=∀ aD H S Z U d v Q0 Q,zp K aD H S->zX K aD H Z U->Rel K aD H d v->g' d Z S Q0 ->
 (∀ ρ' S' σ' H' aD',Q0 ρ' S'->Wd aD H aD' H'->zp K aD' H' S'->zX K aD' H' ρ' σ'->σ'.length=U.length->(∀ j,b<=j->σ'[j]?=U[j]?)->Q σ' H')->g v U H Q
def Ii (K:PySem.W.Frag)(b:Nat)(g':Vg)(g:QG):Prop:=∀ aD H S Z U ds vs Q0 Q,zp K aD H S->zX K aD H Z U->zj K aD H ds vs->g' ds Z S Q0 ->
 (∀ ρ' S' σ' H' aD',Q0 ρ' S'->Wd aD H aD' H'->zp K aD' H' S'->zX K aD' H' ρ' σ'->σ'.length=U.length->(∀ j,b<=j->σ'[j]?=U[j]?)->Q σ' H')->g vs U H Q
def K7 (X:Cx)(b:Nat)(tg:Expr)(g':DG):Prop:=∃ g,PG X tg g/\Wj X.K b g' g
theorem zX.set {K:PySem.W.Frag}(h:zX K aD H Z U)(r:Rel K aD H d v)(i:Nat):zX K aD H (Z.set i (some d)) (U.set i (some v)) where
 len:=by rw[XF,XF];exact h.len
 val:=fun j e q=>by
  by_cases hj:j=i
  ·subst hj;have hl:j<Z.length:=by have:=My.Wo q;rw[XF]at this;exact this
   rw[qW hl]at q;cases q;exact⟨v,qW (by rw[<- h.len];exact hl),r⟩
  ·rw[qN (Ne.symm hj)]at q;obtain⟨u,e1,r1⟩:=h.val j e q;exact⟨u,by rw[qN (Ne.symm hj)];exact e1,r1⟩
section
variable {X:Cx}{pos:Pos}{b:Nat}
def ϣ {K:PySem.W.Frag}(i:Nat)(hb:i<b):Wj K b (zR i) (L2.zR i):=fun aD H S Z U d v Q0 Q st rh r q k =>k _ S _ H aD q Wd.refl st (rh.set r i) (XF ..) fun j hj=>qN (by lia)
def zrr (ho:PD X o to)(hi:PD X i ti)(ha:∀ v,assign (.Subscript o i pos) X.env v=(do
   let ov <- holding [v] (eval o X.env);let iv <- holding [v,ov] (eval i X.env)
   standAt pos
   holding [v,ov,iv] (setItem ov iv v)
   release [v,ov,iv] []):=by intro _;rfl):K7 X b (.Subscript o i pos) (Qv to ti):=by with_unfolding_all exact(⟨_,zvX ho hi set_list ha,fun aD H S Z U d v Q0 Q st rh r q k=>⟨aD,Z,S,_,st,rh,q,fun x S1 u H1 ad1 q1 w1 st1 r1=>⟨ad1,Z,S1,_,st1,rh.wd w1,q1,fun y S2 z H2 ad2 q2 w2 st2 r2=>by
  obtain⟨n,xs,kk,j,ex,ey,hn,hj,q3⟩:=q2;subst ex ey;cases r2;cases r1 with
  |ref e =>have e2:=Td w2.pre e;obtain⟨ws,hw,rw⟩:=st2.cell n _ _ e2 hn;have rd:=r.wd (w1.trans w2);exact⟨_,ws,kk,j,rfl,rfl,hw,by rw[<- rw.length];exact hj,k Z _ U _ ad2 q3 ((w1.trans w2).trans (Wd.put e2 hw)) (st2.put e2 hw (rw.set rd j)) (rh.wd ((w1.trans w2).trans (Wd.put e2 hw))) rfl fun _ _=>rfl⟩⟩⟩⟩)
variable {st:Stmt}{sts:List Stmt}{t u:DS}{e:Expr}{te:DE}
def bw:Xj X [] zB:=by with_unfolding_all exact(rH zqC fun E U H hh=>ZS hh fun aD Z S E0 so rh q k=>k.nx Z S U H aD q Wd.refl so rh)
def jM (h:Zv X st t):Xj X [st] t:=by with_unfolding_all exact(bN h)
def Ŝ (h1:Zv X st t)(h2:Xj X sts u):Xj X (st::sts) (zf t u):=by with_unfolding_all exact(rH (zoq h1 h2) fun E U H hh=>ZS hh fun aD Z S E0 so rh q k =>⟨aD,Z,S,{ E0 with nx:=u E0 },so,rh,q,⟨fun ρ' S' σ' H' aD' q' w st' rh'=>⟨aD',ρ',S',E0,st',rh',q',k.wd w⟩,k.rt,k.bk,k.ct⟩⟩)
def zo7:Zv X (.Pass pos) zB:=by with_unfolding_all exact(Yd ν fun E U H hh=>ZS hh fun aD Z S E0 so rh q k=>k.nx Z S U H aD q Wd.refl so rh)
def ĺ:Zv X (.Break pos) uW:=by with_unfolding_all exact(Yd Ŏ fun E U H hh=>ZS hh fun aD Z S E0 so rh q k=>k.bk Z S U H aD q Wd.refl so rh)
def lG:Zv X (.Continue pos) Ax:=by with_unfolding_all exact(Yd aN fun E U H hh=>ZS hh fun aD Z S E0 so rh q k=>k.ct Z S U H aD q Wd.refl so rh)
def zE:Zv X st Yg:=by with_unfolding_all exact(Yd zof fun E U H hh=>ZS hh fun aD Z S E0 so rh q k=>q)
def aj (he:PD X e te)(hs:autoParam (swapsWith e none pos.line X.env=pure false) zy):Zv X (.Expr e pos) (Zb te):=by with_unfolding_all exact(Yd (dw he hs) fun E U H hh=>ZS hh fun aD Z S E0 so rh q k =>⟨aD,Z,S,_,so,rh,q,fun d S' v H' aD' q' w st' r=>k.nx Z S' U H' aD' q' w st' (rh.wd w)⟩)
def ϟ (he:PD X e te):Zv X (.Return (some e) pos) (zA te):=by with_unfolding_all exact(Yd (zs8 he) fun E U H hh=>ZS hh fun aD Z S E0 so rh q k=>⟨aD,Z,S,_,so,rh,q,k.rt⟩)
def zxO (h:Zv X st t):Zv X st (sJ t):=by with_unfolding_all exact(Yd h fun E U H zq52=>by obtain⟨aD,Z,S,E0,so,rh,⟨J,hJ,q⟩,k⟩:=zq52;exact 
 ⟨aD,Z,S,{ E0 with nx:=J },so,rh,q,⟨fun ρ' S' σ' H' aD' q' w st' rh'=>k.nx ρ' S' σ' H' aD' (hJ _ _ q') w st' rh',k.rt,k.bk,k.ct⟩⟩)
def iD {c:Expr}{a b:List Stmt}{tc:DT}(hc:Yy X c tc)(ha:Xj X a t)(hb:Xj X b u):Zv X (.If c a b pos) (ZR tc t u):=by with_unfolding_all exact(Yd (zxH hc ha hb) fun E U H hh=>ZS hh fun aD Z S E0 so rh q k =>
 ⟨aD,Z,S,_,so,rh,q,fun b S' H' aD' q' w st'=>by
  cases b with
  |true=>rw[if_pos rfl]at q' ⊢;exact⟨aD',Z,S',E0,st',rh.wd w,q',k.wd w⟩
  |false=>rw[if_neg qu]at q' ⊢;exact⟨aD',Z,S',E0,st',rh.wd w,q',k.wd w⟩⟩)
def tV {i:Nat}{x:Str}{pos':Pos}(hN:X.N.Nodup)(he:PD X e te)(hi:autoParam (X.N[i]?=some x) zy)(hx:autoParam (Loc X.env.scope x) p8)(hs:autoParam (swapsWith e (some (.Name x pos')) pos.line X.env=pure false) zy)(hf:autoParam (X.fn x=true\/X.env.scope.names.lookup x=some .local) RJ) :
  Zv X (.Assign [.Name x pos'] e pos) (zq te (zR i)):=by with_unfolding_all exact(Yd (ztW hN hi hx he hs hf) fun E U H hh=>ZS hh fun aD Z S E0 so rh q k =>
 ⟨aD,Z,S,_,so,rh,q,fun d S' v H' aD' q' w st' r=>k.nx _ S' _ H' aD' q' w st' ((rh.wd w).set r i)⟩)
def wK (he:PD X e te)(hg:K7 X 1000 tg g)(hs:autoParam (swapsWithSole [tg] e pos.line X.env=pure false) zy)(hw:autoParam (swappedStores [tg] e X.env=pure none) zy)(h1:autoParam ((assignEach [tg] X.env).map (·.2)=[assign tg X.env]) zy):Zv X (.Assign [tg] e pos) (zq te g):=by
 with_unfolding_all
  obtain⟨g',p,r⟩:=hg
  exact Yd (aK he p hs hw h1) fun E U H hh=>ZS hh fun aD Z S E0 so rh q k =>⟨aD,Z,S,_,so,rh,q,fun d S' v H' aD' q' w st' rv=>r aD' H' S' Z U d v _ _ st' (rh.wd w) rv q' fun ρ2 S2 σ2 H2 ad2 q2 w2 st2 rh2 _ _=>k.nx ρ2 S2 σ2 H2 ad2 q2 (w.trans w2) st2 rh2⟩
def zsy {i:Nat}{x:Str}{pos':Pos}(hN:X.N.Nodup)(he:PD X e te)(hi:autoParam (X.N[i]?=some x) zy)(hx:autoParam (Loc X.env.scope x) p8)(hf:autoParam (X.fn x=true\/X.env.scope.names.lookup x=some .local) RJ) :
  Zv X (.AugAssign (.Name x pos') .Add e pos) (Nh i te):=by with_unfolding_all exact(Yd (Ϝ hN hi hx he zvR hf) fun E U H zq53=>by
 obtain⟨aD,Z,S,E0,so,rh,⟨a,ea,q⟩,k⟩:=zq53;obtain⟨v,ev,rv⟩:=rh.val i _ ea;cases rv;refine⟨_,ev,aD,Z,S,_,so,rh,q,fun d S' v H' aD' ⟨b,eb,q'⟩ w st' r=>?_⟩;subst eb;cases r;exact⟨a,b,rfl,rfl,k.nx _ S' _ H' aD' q' w st' ((rh.wd w).set (.int _) i)⟩)
def ř (hc:Yy X c tc)(hb:Xj X body t)(hp:autoParam (PassesOwn (model X.prog X.w) X.A X.env X.xe) nH):Zv X (.While c body [] pos) (U8 tc t):=by with_unfolding_all exact(Yd (gC hp hc hb) fun E U H zq54=>by
 obtain⟨aD,Z,S,E0,so,rh,⟨W,⟨m0,w0⟩,turn⟩,k⟩:=zq54;refine⟨fun m σ' H'=>∃ aD' ρ' S',W m ρ' S'/\Wd aD H aD' H'/\zp X.K aD' H' S'/\zX X.K aD' H' ρ' σ',⟨m0,aD,Z,S,w0,Wd.refl,so,rh⟩,?_⟩;rintro m σ1 H1 ⟨ad1,ρ1,S1,w1,d1,st1,rh1⟩;refine⟨ad1,ρ1,S1,_,st1,rh1,turn m ρ1 S1 w1,fun b S2 H2 ad2 q2 d2 st2=>?_⟩;cases b with
 |true =>
  rw[if_pos rfl]at q2 ⊢;obtain⟨N,hN,q2⟩:=q2;refine⟨fun σ' H'=>∃ aD' ρ' S',N ρ' S'/\Wd aD H aD' H'/\zp X.K aD' H' S'/\zX X.K aD' H' ρ' σ',?_,ad2,ρ1,S2,{ E0 with nx:=N,ct:=N,bk:=E0.nx },st2,rh1.wd d2,q2,?_⟩
  ·rintro σ' H' ⟨aD',ρ',S',n',d',st',rh'⟩;obtain⟨m',hm,w'⟩:=hN ρ' S' n';exact⟨m',hm,aD',ρ',S',w',d',st',rh'⟩
  ·have d12:=d1.trans d2;exact⟨fun ρ' S' σ' H' aD' q' w' st' rh'=>⟨aD',ρ',S',q',d12.trans w',st',rh'⟩,k.rt.wd d12,fun ρ' S' σ' H' aD' q' w' st' rh'=>k.nx ρ' S' σ' H' aD' q' (d12.trans w') st' rh',fun ρ' S' σ' H' aD' q' w' st' rh'=>⟨aD',ρ',S',q',d12.trans w',st',rh'⟩⟩
 |false =>rw[if_neg qu]at q2 ⊢;exact k.nx ρ1 S2 σ1 H2 ad2 q2 (d1.trans d2) st2 (rh1.wd d2))
end
structure Ub (K:PySem.W.Frag)(ad0:List Addr)(H0:Hp)(J0:Tv)(J:It):Prop where
 go:∀ aD H S i,Wd ad0 H0 aD H->zp K aD H S->J0.ok S->i<J0.items.length->J.go i H
 yld:∀ aD H S i d x H',Wd ad0 H0 aD H->zp K aD H S->J0.ok S->J0.items[i]?=some d->J.yld i H x H'->Wd aD H aD H'/\zp K aD H' S/\Rel K aD H' d x
 stop:∀ aD H S,Wd ad0 H0 aD H->zp K aD H S->J0.ok S->J.stop J0.items.length H
def uD (K:PySem.W.Frag)(wi:DI):TI:=fun U H R=>∃ aD Z S R0,zp K aD H S/\zX K aD H Z U/\wi Z S R0/\∀ J0 S' J H' aD',R0 J0 S'->Wd aD H aD' H'->zp K aD' H' S'->Ub K aD' H' J0 J->R J H'
@[irreducible] def Xn (X:Cx)(tg iter:Expr)(wi:DI):Prop:=PI X tg iter (uD X.K wi)
def Lw {w':TI}(h:PI X tg iter w)(m:∀ U H R,w' U H R->w U H R):PI X tg iter w':=fun Z9 s U H R I q=>h Z9 s U H R I (m U H R q)
section
variable {X:Cx}{tg e:Expr}
def Its (z:Str):It:=⟨fun i _=>i<z.cps.size,fun i H x H'=>H'=H/\∃ c,z.cps[i]?=some c/\x=.str ⟨#[c]⟩,fun i _=>z.cps.size<=i⟩
def zl3 {P:Program}{w:World}{K:PySem.W.Frag}{tg:Expr}(z:Str)(t:Tok)(it:Addr):Turn P w K tg (Its z) [it] it (fun i h=>h.IsStrIter it "str_ascii_iterator" z t i) where
 mem:=by simp
 obj:=fun i h st b hb=>by
  have e:b=it:=by simpa using hb
  subst e;obtain⟨o,e,c,d⟩:=st;exact⟨o,e,fun v y=>by rw[d]at y;cases y⟩
 keep:=fun i h h' st k=>let ⟨o,e,r⟩:=st;⟨o,k it (by simp) o e,r⟩
 item:=by
  intro X hP hw hK hc i Z9 s U H E I hf st hg;subst hP hw hK;have hg:i<z.cps.size:=hg;obtain⟨f0,f1,f2,f3,f4,f5⟩:=hf it (by simp);refine wpAny_pyNext_ascii_item st (c:=z.cps[i]) (by simp[hg]) fun h' st' sb=>?_
  have I1:Inv X Z9 U H { s with heap:=h',toks:=s.toks+1 }:=I.turned (t':=s.toks+1) (fun b o hb e=>(sb.2 b hb).trans e) f0 f1 f3 f4 f5;obtain⟨o,e,c,d⟩:=id st';exact⟨_,rfl,Qi (s:={ s with heap:=h',toks:=s.toks+1 }) e c d (by decide) ⟨.str ⟨#[z.cps[i]]⟩,H,I1,⟨_,rfl⟩,⟨rfl,z.cps[i],by simp[hg],rfl⟩,st',fun b hb=>(hf b hb).1⟩⟩
 done:=by intro X hP hw hK hc i Z9 s U H E I hf st hg;subst hP hw hK;have hg:z.cps.size<=i:=hg;obtain⟨f0,f1,f2,f3,f4,f5⟩:=hf it (by simp);exact wpAny_pyNext_ascii_end (I.ok.hd hc) st (by simp[hg]) fun h' eb=>⟨rfl,I.turned (t':=s.toks) (fun b o hb e=>eb b o hb e) f0 f1 f3 f4 f5⟩
 self:=fun _ _ _ _ _ st hQ=>wpAny_pyIter_striter_ascii st hQ
def zmU {P:Program}{w:World}{K:PySem.W.Frag}{tg:Expr}(z:Str)(t:Tok)(it:Addr):Turn P w K tg (Its z) [it] it (fun i h=>h.IsStrIter it "str_iterator" z t i) where
 mem:=by simp
 obj:=fun i h st b hb=>by
  have e:b=it:=by simpa using hb
  subst e;obtain⟨o,e,c,d⟩:=st;exact⟨o,e,fun v y=>by rw[d]at y;cases y⟩
 keep:=fun i h h' st k=>let ⟨o,e,r⟩:=st;⟨o,k it (by simp) o e,r⟩
 item:=by
  intro X hP hw hK hc i Z9 s U H E I hf st hg;subst hP hw hK;have hg:i<z.cps.size:=hg;obtain⟨f0,f1,f2,f3,f4,f5⟩:=hf it (by simp);refine wpAny_pyNext_wide_item st (c:=z.cps[i]) (by simp[hg]) fun h' st' sb=>?_
  have I1:Inv X Z9 U H { s with heap:=h',toks:=s.toks+1 }:=I.turned (t':=s.toks+1) (fun b o hb e=>(sb.2 b hb).trans e) f0 f1 f3 f4 f5;obtain⟨o,e,c,d⟩:=id st';exact⟨_,rfl,Qi (s:={ s with heap:=h',toks:=s.toks+1 }) e c d (by decide) ⟨.str ⟨#[z.cps[i]]⟩,H,I1,⟨_,rfl⟩,⟨rfl,z.cps[i],by simp[hg],rfl⟩,st',fun b hb=>(hf b hb).1⟩⟩
 done:=by intro X hP hw hK hc i Z9 s U H E I hf st hg;subst hP hw hK;have hg:z.cps.size<=i:=hg;obtain⟨f0,f1,f2,f3,f4,f5⟩:=hf it (by simp);exact wpAny_pyNext_wide_end (I.ok.hd hc) st (by simp[hg]) fun h' eb=>⟨rfl,I.turned (t':=s.toks) (fun b o hb e=>eb b o hb e) f0 f1 f3 f4 f5⟩
 self:=fun _ _ _ _ _ st hQ=>wpAny_pyIter_striter_wide st hQ
def Ģ (K:PySem.W.Frag)(tl:TE):TI:=fun U H R=>tl U H fun x H1=>(∃ a,x=.ref a/\(((∃ xs,Zz K H1 a xs)/\R (DP K a) H1)\/((∃ xs,ZG K H1 a xs)/\R (Dg K a) H1)))\/(∃ z,x=.str z/\R (Its z) H1)
def j7 (hl:PE X l tl):PI X tg l (Ģ X.K tl):=by
  intro Z9 s U H R I h;refine Z2 (hl Z9 s U H _ I h) fun v s1 ⟨x,H1,I1,r1,q1⟩=>?_
  rcases q1 with⟨a,e,q1⟩|⟨z,e,q⟩
  case inr =>
    subst e;obtain⟨t,rfl⟩:=r1
    have fp:∀ b∈[s1.heap.objs.size],VG X Z9 H1 b:=fun b hb=>by
      have e:b=s1.heap.objs.size:=by simpa using hb
      subst e;exact I1.fpOk (qh _) (I1.hok.fresh (qh _))
    cases ha:z.cps.all (· < 128)with
    |true=>exact wpAny_pyIter_ascii ha ⟨s1.heap.objs.size,[s1.heap.objs.size],_,_,H1,rfl,I1.kept (t':=s1.toks) fun b o e=>qc _ e,zl3 z t _,⟨_,qo _ rfl,rfl,rfl⟩,fp,q⟩
    |false=>exact wpAny_pyIter_wide ha ⟨s1.heap.objs.size,[s1.heap.objs.size],_,_,H1,rfl,I1.kept (t':=s1.toks) fun b o e=>qc _ e,zmU z t _,⟨_,qo _ rfl,rfl,rfl⟩,fp,q⟩
  subst e;cases r1;rcases q1 with⟨⟨xs,hq⟩,q⟩|⟨⟨xs,hq⟩,q⟩
  . obtain⟨its,rv,p,hz⟩:=I1.list hq;refine wpAny_pyIter_list p.isList ?_;refine⟨s1.heap.objs.size,[s1.heap.objs.size],_,_,H1,rfl,I1.kept (t':=s1.toks) fun b o e=>qc _ e,ğ a _,⟨_,qo _ rfl,rfl,rfl⟩,fun b hb=>?_,q⟩;have e:b=s1.heap.objs.size:=by simpa using hb
    subst e;exact I1.fpOk (qh _) (I1.hok.fresh (qh _))
  . obtain⟨its,rv,p,hz⟩:=I1.tuple hq;refine wpAny_pyIter_tuple (show s1.heap.IsTuple a its.toArray from p) ?_;refine⟨s1.heap.objs.size,[s1.heap.objs.size],_,_,H1,rfl,I1.kept (t':=s1.toks) fun b o e=>qc _ e,zlm a _,⟨_,qo _ rfl,rfl,rfl⟩,fun b hb=>?_,q⟩;have e:b=s1.heap.objs.size:=by simpa using hb
    subst e;exact I1.fpOk (qh _) (I1.hok.fresh (qh _))
def ϥ {K:PySem.W.Frag}{aD:List Addr}{H:Hp}(z:Str):Ub K aD H ⟨signs z,fun _=>True⟩ (Its z) where
 go:=fun ad1 H1 S i w st _ hi=>by show i<z.cps.size;have:i<(signs z).length:=hi;unfold signs at this;rw[qa]at this;simpa using this
 yld:=by rintro ad1 H1 S i d x H' w st _ hd ⟨e,c,hc,hx⟩;subst e hx;have hd:(signs z)[i]?=some d:=hd;unfold signs at hd;rw[qk,Hq,hc]at hd;cases hd;exact⟨Wd.refl,st,.str _⟩
 stop:=fun ad1 H1 S w st _=>by show z.cps.size<=(signs z).length;unfold signs;rw[qa];simp
def Û {K:PySem.W.Frag}{H:Hp}{vs:List V}(h:H a=some (.tup vs))(r:zj K aD H ds vs):Ub K aD H ⟨ds,fun _=>True⟩ (Dg K a) where
 go:=fun ad1 H1 S i w st _ hi=>⟨vs,vs[i]'(by rw[<- r.length];exact hi),ZG.of (w.tup _ _ h),qb _⟩
 yld:=by rintro ad1 H1 S i d x H' w st _ hd ⟨e,hx⟩;subst e;obtain⟨v,ev,rv⟩:=r.get hd;rw[hx vs (ZG.of (w.tup _ _ h))]at ev;cases ev;exact⟨Wd.refl,st,rv.wd w⟩
 stop:=fun ad1 H1 S w st _=>⟨vs,ZG.of (w.tup _ _ h),by rw[<- r.length];exact qh _⟩
def zud {K:PySem.W.Frag}{a:Addr}{ds:List D}(r:Rel K aD H x (.ref a)):Ub K aD H ⟨ds,fun S=>Lst S x ds⟩ (DP K a) where
 go:=fun ad1 H1 S i w st ok hi=>by obtain⟨a',vs,e,s,rs⟩:=Lst.sq st ok (r.wd w);cases e;exact⟨vs,vs[i]'(by rw[<- rs.length];exact hi),s,qb _⟩
 yld:=by rintro ad1 H1 S i d y H' w st ok hd ⟨e,hx⟩;subst e;obtain⟨a',vs,e,s,rs⟩:=Lst.sq st ok (r.wd w);cases e;obtain⟨v,ev,rv⟩:=rs.get hd;rw[hx vs s]at ev;cases ev;exact⟨Wd.refl,st,rv⟩
 stop:=fun ad1 H1 S w st ok=>by obtain⟨a',vs,e,s,rs⟩:=Lst.sq st ok (r.wd w);cases e;exact⟨vs,s,by rw[<- rs.length];exact qh _⟩
def ţ {t:DE}(h:PD X e t):Xn X tg e (Zu t):=by with_unfolding_all exact(Lw (j7 h) fun U H R hh=>ZS hh fun aD Z S R0 st rh q k =>
 ⟨aD,Z,S,_,st,rh,q,fun x S1 v H1 ad1 q1 w1 st1 r1=>by
  rcases q1 with⟨xs,rfl,q1⟩|⟨xs,hx,q1⟩|⟨z,rfl,q1⟩
  ·cases r1 with
   |tup h1 rs=>exact .inl ⟨_,rfl,.inr ⟨⟨_,ZG.of h1⟩,k _ S1 _ H1 ad1 q1 w1 st1 (Û h1 rs)⟩⟩
  ·obtain⟨a,vs,rfl,s,rs⟩:=hx.sq st1 r1;exact .inl ⟨a,rfl,.inl ⟨⟨vs,s⟩,k _ S1 _ H1 ad1 q1 w1 st1 (zud r1)⟩⟩
  ·cases r1;exact .inr ⟨z,rfl,k _ S1 _ H1 ad1 q1 w1 st1 (ϥ z)⟩⟩)
def zor {lo:Int}{n i:Nat}{d:D}(h:(upto lo n)[i]?=some d):i<n/\d=.int (lo+i):=by
 unfold upto at h;rw[qk]at h;have hi:=My.Wo (xs:=List.range n) (i:=i) (x:=i);cases hr:(List.range n)[i]? with
 |none=>rw[hr]at h;cases h
 |some k =>rw[hr]at h;have h1:=My.Wo hr;rw[N8]at h1;have h2:(List.range n)[i]?=some i:=List.getElem?_range h1;rw[hr]at h2;cases h2;cases h;exact⟨h1,rfl⟩
def xV (lo:Int)(n:Nat):(upto lo n).length=n:=by unfold upto;rw[qa,N8]
def yt {K:PySem.W.Frag}{aD:List Addr}{H:Hp}(lo:Int)(n:Nat):Ub K aD H ⟨upto lo n,fun _=>True⟩ (Ri lo n) where
 go:=fun ad1 H1 S i w st _ hi=>by rw[xV]at hi;exact hi
 yld:=by rintro ad1 H1 S i d x H' w st _ hd ⟨e,hx⟩;subst e;obtain⟨_,rfl⟩:=zor hd;rw[hx];exact⟨Wd.refl,st,.int _⟩
 stop:=fun ad1 H1 S w st _=>by rw[xV];exact qh _
def zmB {P:Program}{w:World}{K:PySem.W.Frag}{tg:Expr}(it:Addr)(lo:Int)(n:Nat):Turn P w K tg (Ri lo n) [it] it (fun i h=>IsLongIter h it (lo+(i:Nat)*1) ((n:Int)-(i:Nat)) 1) where
 mem:=by simp
 obj:=fun i h st b hb=>by
  have e:b=it:=by simpa using hb
  subst e
  exact⟨_,st,fun v z=>by have z':Data.fields _=Data.cell v:=z;cases z'⟩
 keep:=fun i h h' st k=>k it (by simp) _ st
 item:=by
  intro X hP hw hK hc i Z9 s U H E I hf st' hg;subst hP hw hK;obtain⟨f0,f1,f2,f3,f4,f5⟩:=hf it (by simp);have W:=Walks.longrange (prog:=X.prog) (w:=X.w) (I.ok.hd hc) it lo 1 n;refine W.item i s _ _ hg st' fun v h' tk hv st'' kk=>?_
  obtain⟨t,rfl⟩:=hv;have I1:Inv X Z9 U H { s with heap:=h',toks:=tk }:=I.turned (fun b o hb e=>kk b o (by simpa using hb) e) f0 f1 f3 f4 f5;rw[T9];exact⟨_,rfl,Qi (s:={ s with heap:=h',toks:=tk }) (n:="longrange_iterator") st'' rfl rfl (by decide) ⟨.int (lo+i),H,I1,⟨t,rfl⟩,⟨rfl,rfl⟩,st'',fun b hb=>(hf b hb).1⟩⟩
 done:=by intro X hP hw hK hc i Z9 s U H E I hf st' hg;subst hP hw hK;obtain⟨f0,f1,f2,f3,f4,f5⟩:=hf it (by simp);exact wpAny_pyNext_long_end (I.ok.hd hc) st' (by have:n<=i:=hg;lia) fun h' eb=>⟨rfl,I.turned (t':=s.toks) (fun b o hb e=>eb b o hb e) f0 f1 f3 f4 f5⟩
 self:=fun _ _ _ _ _ st h=>wpAny_pyIter_longiter st h
def range_any {R:It->Hp->Prop}{E:Value->Shared->Prop}{lo hi:Int}{t u v:Tok}{tk:Nat}(I:Inv X Z9 U H s)(q:R (Ri lo (hi-lo).toNat) H):wpAny (model X.prog X.w) X.A (pyIter (.ref s.heap.objs.size)) (PIE X Z9 U tg R) E { s with heap:=s.heap.push { cls:=.type "range",data:=.fields #[.int lo t,.int hi u,.int 1 v] },toks:=tk }:=by
  have I1:Inv X Z9 U H { s with heap:=s.heap.push { cls:=.type "range",data:=.fields #[.int lo t,.int hi u,.int 1 v] },toks:=tk }:=I.kept fun b o e=>qc _ e
  have e1:lo+((0:Nat):Int)*1=lo:=by simp
  have e2:(((hi-lo).toNat:Nat):Int)-((0:Nat):Int)=Builtin.Range.rangeSize lo hi 1:=by rw[rangeSize_one];split<;>lia
  cases hsm:Builtin.Range.small lo hi 1 with
  |true =>
    refine wpAny_pyIter_range (IsRange.new ..) hsm ?_
    refine⟨(s.heap.push { cls:=.type "range",data:=.fields #[.int lo t,.int hi u,.int 1 v] }).objs.size,[(s.heap.push { cls:=.type "range",data:=.fields #[.int lo t,.int hi u,.int 1 v] }).objs.size],_,_,H,rfl,
      I1.kept (t':=tk) fun b o e=>qc _ e,Aw _ lo (hi-lo).toNat,?_,fun b hb=>?_,q⟩
    . show IsRangeIter _ _ (lo+((0:Nat):Int)*1) ((((hi-lo).toNat:Nat):Int)-((0:Nat):Int)) 1;rw[e1,e2];exact qo _ rfl
    . have e:b=(s.heap.push { cls:=.type "range",data:=.fields #[.int lo t,.int hi u,.int 1 v] }).objs.size:=by simpa using hb
      subst e;exact I1.fpOk (qh _) (I1.hok.fresh (qh _))
  |false =>
    refine wpAny_pyIter_longrange (IsRange.new ..) hsm ?_
    refine⟨(s.heap.push { cls:=.type "range",data:=.fields #[.int lo t,.int hi u,.int 1 v] }).objs.size,[(s.heap.push { cls:=.type "range",data:=.fields #[.int lo t,.int hi u,.int 1 v] }).objs.size],_,_,H,rfl,
      I1.kept (t':=tk) fun b o e=>qc _ e,zmB _ lo (hi-lo).toNat,?_,fun b hb=>?_,q⟩
    . show IsLongIter _ _ (lo+((0:Nat):Int)*1) ((((hi-lo).toNat:Nat):Int)-((0:Nat):Int)) 1;rw[e1,e2];exact qo _ rfl
    . have e:b=(s.heap.push { cls:=.type "range",data:=.fields #[.int lo t,.int hi u,.int 1 v] }).objs.size:=by simpa using hb
      subst e;exact I1.fpOk (qh _) (I1.hok.fresh (qh _))
def â {a:Expr}{t:DA}{p pos:Pos}(hm:X.mg "range"=none)(ha:PAD X [a] t)(hg:autoParam (Gl X "range") zy)(hs:autoParam (starEach [a] X.env=[(false,eval a X.env)]) Nk):Xn X tg (.Call (.Name "range" p) [a] [] pos) (Sd t):=by with_unfolding_all exact(Lw (znn hg hm ha hs) fun U H R hh=>ZS hh fun aD Z S R0 st rh q k =>
 ⟨aD,Z,S,_,st,rh,q,by rintro ds S1 vs H1 ad1 ⟨j,ed,b1,b2,q1⟩ w1 st1 r1;subst ed;obtain⟨v,rfl,rv⟩:=Xu r1;cases rv;exact⟨j,rfl,b1,b2,k _ S1 _ H1 ad1 q1 w1 st1 (yt 0 j.toNat)⟩⟩)
def zqp {a b:Expr}{t:DA}{p pos:Pos}(hm:X.mg "range"=none)(ha:PAD X [a,b] t)(hg:autoParam (Gl X "range") zy)(hs:autoParam (starEach [a,b] X.env=[(false,eval a X.env),(false,eval b X.env)]) uU)(hs2:autoParam (starEach [b] X.env=[(false,eval b X.env)]) Nk) :
  Xn X tg (.Call (.Name "range" p) [a,b] [] pos) (M4 t):=by
 with_unfolding_all
  rintro Z9 s U H R I ⟨aD,Z,S,R0,st,rh,q,k⟩
  refine Call_ (VR I hg hm boot_range (PyProof.Rows.callWith_type1 (Z2 (ha pos Z9 s U H (fun vs H1=>∃ i j:Int,vs=[.int i,.int j]/\R (Ri i (j-i).toNat) H1) I ⟨aD,Z,S,_,st,rh,q,by rintro ds S1 vs H1 ad1 ⟨i,j,ed,q1⟩ w1 st1 r1;subst ed;obtain⟨v,u,rfl,rv,ru⟩:=Od r1;cases rv;cases ru;exact⟨i,j,rfl,k _ S1 _ H1 ad1 q1 w1 st1 (yt i _)⟩⟩) fun us s1 ⟨vs,H1,I1,r1,q1⟩=>?_) (by rw[hs,hs2]) (by rw[hs2];rfl)))
  obtain⟨i,j,e,q⟩:=q1;subst e;cases r1 with
  |cons r rr =>
   cases rr with
   |cons r' rr =>cases rr;obtain⟨t,rfl⟩:=r;obtain⟨t',rfl⟩:=r';exact call_range_2 (range_any I1 q)
def lO {t:DS}{pos:Pos}(hi:Xn X tg iter wi)(hg:K7 X 1000 tg g)(hb:Xj X body t)(hp:autoParam (PassesOwn (model X.prog X.w) X.A X.env X.xe) nH)(hc:autoParam (X.calm=true) zy)(hs:autoParam (∀ x,foldedSetIterable iter X.env x=pure x) Qa):Zv X (.For tg iter body [] pos) (Y0 wi g t):=by
 with_unfolding_all
  obtain⟨g',pg,rg⟩:=hg;refine Yd (zuf hp hc hi pg hb hs) fun E U H hh=>ZS hh fun aD Z S E0 so rh q k=>?_
  refine⟨aD,Z,S,_,so,rh,q,fun J0 S1 J H1 ad1 ⟨W,w0,hok,step,fin⟩ d1 st1 it=>?_⟩;refine⟨fun i m σ' H'=>m=J0.items.length-i/\i<=J0.items.length/\∃ aD' ρ' S',W i ρ' S'/\Wd ad1 H1 aD' H'/\zp X.K aD' H' S'/\zX X.K aD' H' ρ' σ',⟨J0.items.length,rfl,qX _,ad1,Z,S1,w0,Wd.refl,st1,rh.wd d1⟩,?_⟩;rintro i m σ2 H2 ⟨rfl,hi2,ad2,ρ2,S2,w2,d2,st2,rh2⟩;by_cases hlt:i<J0.items.length
  ·have ed:J0.items[i]?=some J0.items[i]:=qb hlt;refine .inr ⟨it.go ad2 H2 S2 i d2 st2 (hok _ _ _ w2) hlt,fun σ' H'=>∃ aD' ρ' S',W (i+1) ρ' S'/\Wd ad1 H1 aD' H'/\zp X.K aD' H' S'/\zX X.K aD' H' ρ' σ',?_,fun x H' hy=>?_⟩
   ·rintro σ' H' ⟨aD',ρ',S',w',d',st',rh'⟩;exact⟨J0.items.length-(i+1),by lia,rfl,hlt,aD',ρ',S',w',d',st',rh'⟩
   ·obtain⟨d3,st3,r3⟩:=it.yld ad2 H2 S2 i _ x H' d2 st2 (hok _ _ _ w2) ed hy;refine rg ad2 H' S2 ρ2 σ2 _ x _ _ st3 (rh2.wd d3) r3 (step i _ ρ2 S2 ed w2) fun ρ4 S4 σ4 H4 ad4 q4 d4 st4 rh4 _ _=>?_
    have d14:=(d2.trans d3).trans d4;have d04:=d1.trans d14;exact⟨ad4,ρ4,S4,{ E0 with nx:=W (i+1),ct:=W (i+1),bk:=E0.nx },st4,rh4,q4,⟨fun ρ' S' σ' H' aD' q' w' st' rh'=>⟨aD',ρ',S',q',d14.trans w',st',rh'⟩,k.rt.wd d04,fun ρ' S' σ' H' aD' q' w' st' rh'=>k.nx ρ' S' σ' H' aD' q' (d04.trans w') st' rh',fun ρ' S' σ' H' aD' q' w' st' rh'=>⟨aD',ρ',S',q',d14.trans w',st',rh'⟩⟩⟩
  ·have e:i=J0.items.length:=by lia
   subst e;exact .inl ⟨it.stop ad2 H2 S2 d2 st2 (hok _ _ _ w2),k.nx ρ2 S2 σ2 H2 ad2 (fin ρ2 S2 w2) (d1.trans d2) st2 rh2⟩
end
theorem BL:∀ {a b:L2.St} (n:Nat),(∀ j,j<n->a[j]?=some none\/a.length<=j)->b.length=a.length->(∀ j,n<=j->b[j]?=a[j]?)->X7 a b
 |[],[],_,_,_,_=>True.intro
 |[],_::_,_,_,h,_=>by simp at h
 |_::_,[],_,_,h,_=>by simp at h
 |x::a,y::b,n,h0,hl,h=>by
  have hl':b.length=a.length:=by simpa using hl
  cases n with
  |zero =>
   have e:=h 0 (qh _);have e':y=x:=by simpa using e
   subst e';have rest:X7 a b:=BL 0 (fun j hj=>absurd hj (Nat.not_lt_zero _)) hl' fun j _=>by simpa using h (j+1) (qX _)
   cases y with
   |none=>exact rest
   |some v=>exact⟨rfl,rest⟩
  |succ n =>
   have rest:X7 a b:=BL n (fun j hj=>by
    rcases h0 (j+1) (by lia)with e|e
    ·exact .inl (by simpa using e)
    ·exact .inr (by simpa using e)) hl' fun j hj=>by simpa using h (j+1) (by lia)
   rcases h0 0 (Nat.succ_pos _)with e|e
   ·have e':x=none:=by simpa using e
    subst e';exact rest
   ·simp at e
def cP {K:PySem.W.Frag}(h:zX K aD H Z U)(own:List Str)(fv:List Nat):zX K aD H (RM own.length fv Z) (cst own fv U) where
  len:=by unfold RM cst;rw[qg,qg,qM,qM,qa,qa]
  val:=fun i d e=>by
    unfold RM at e;unfold cst;by_cases hi:i<own.length
    . rw[qf (by rw[qM];exact hi),Lf]at e;split at e<;>cases e
    . have hi':own.length<=i:=QK hi;rw[qe (by rw[qM];exact hi'),qM,qk]at e;rw[qe (by rw[qM];exact hi'),qM,qk];cases hf:fv[i-own.length]? with
      |none=>rw[hf]at e;cases e
      |some j =>
        rw[hf]at e;simp only[Option.map_some,Option.some.injEq]at e ⊢;cases hr:Z[j]? with
        |none=>rw[hr]at e;cases e
        |some o =>rw[hr]at e;have e':o=some d:=e;subst e';obtain⟨v,ev,rv⟩:=h.val j d hr;exact⟨v,by rw[ev];rfl,rv⟩
@[irreducible] def Mv (X:Cx)(ifs:List Expr)(t:DT):Prop:=QM X ifs (Ov X.K t)
def ű {X:Cx}:Mv X [] Yn:=by with_unfolding_all exact(fun Z9 s U H Q I hh=>ZS hh fun aD Z S Q0 st rh q k=>Ĺ Z9 s U H Q I (k true S H aD q Wd.refl st))
def fB {t:DT}(h:Yy X c t):Mv X [c] t:=by with_unfolding_all exact(à h)
def ofT {A B:Prop}(h:if true=true then A else B):A:=by rw[if_pos rfl]at h;exact h
def ofF {A B:Prop}(h:if false=true then A else B):B:=by rw[if_neg qu]at h;exact h
def xO {K:PySem.W.Frag}{own:List Str}{fv:List Nat}{wi:DI}{tc:DT}{te:DE}(rg:Wj K own.length g g'){U:L2.St}{H:Hp}{Q:VK}(h:up K (Zi own.length fv wi g tc te) U H Q):CG own fv (uD K wi) g' (Ov K tc) (up K te) U H Q:=by
 obtain⟨aD,Z,S,Q0,so,rh,q,k⟩:=h;refine⟨aD,Z,S,_,so,rh,q,fun J0 S1 J H1 ad1 ⟨hbig,W,w0,hok,step,fin⟩ d1 st1 it=>?_⟩;intro p hp
 refine⟨fun i m H'=>m=J0.items.length-i/\i<=J0.items.length/\∃ aD' S' ys vs,W i ys S'/\Wd ad1 H1 aD' H'/\zp K aD' H' S'/\p∉aD'/\H' p=some (.lst vs)/\zj K aD' H' ys vs/\vs.length<=i,
  ⟨J0.items.length,rfl,qX _,ad1,S1,[],[],w0,Wd.laid hp,st1.laid hp,st1.fresh hp,zK,.nil,qh _⟩,?_⟩
 rintro i m H2 ⟨rfl,hi2,ad2,S2,ys,vs,w2,d2,st2,hp2,hv2,r2,hl2⟩;by_cases hlt:i<J0.items.length
 ·have ed:J0.items[i]?=some J0.items[i]:=qb hlt;refine .inr ⟨it.go ad2 H2 S2 i d2 st2 (hok _ _ _ w2) hlt,fun x H' hy=>?_⟩;obtain⟨d3,st3,r3⟩:=it.yld ad2 H2 S2 i _ x H' d2 st2 (hok _ _ _ w2) ed hy;have rh3:=cP (rh.wd ((d1.trans d2).trans d3)) own fv;refine rg ad2 H' S2 _ _ _ x _ _ st3 rh3 r3 (step i _ ys S2 ed w2) fun ρ4 S4 σ4 H4 ad4 q4 d4 st4 rh4 l4 a4=>?_
  refine⟨BL own.length (fun j hj=>.inl ?_) l4 a4,ad4,ρ4,S4,_,st4,rh4,q4,fun b S5 H5 ad5 q5 d5 st5=>?_⟩
  ·unfold cst;rw[qf (by rw[qM];exact hj),Lf,if_pos hj]
  have fwd:∀ {ad9:List Addr} {H9:Hp},Wd ad2 H2 ad9 H9->p∉ad9/\H9 p=some (.lst vs):=fun {ad9 H9} w=>⟨(fun m=>by have z:=w.new p m hp2;rw[hv2]at z;cases z),w.keep p _ hp2 hv2⟩
  have d25:=(d3.trans d4).trans d5;cases b with
  |true =>refine Hw ?_;have q5:=Dp.ofT q5;refine⟨ad5,ρ4,S5,_,st5,rh4.wd d5,q5,fun y S6 v H6 ad6 q6 d6 st6 r6=>?_⟩;have d26:=d25.trans d6;obtain⟨n6,e6⟩:=fwd d26;have hw:Wr ad6 H6 ad6 (upd H6 p (.lst (vs++[v]))):=Wr.hid e6;have hvl:vs.length<sizeLine:=Nx (by lia);exact⟨vs,e6,hvl,J0.items.length-(i+1),by lia,rfl,hlt,ad6,S6,ys++[y],vs++[v],q6,(d2.trans d26).hid hp,st6.hid e6 n6 (st1.bfree hp),n6,zK,zj.wr hw ((r2.wd d26).append (.cons r6 .nil)),by rw[qg];exact Nat.succ_le_succ hl2⟩
  |false =>refine Ej ?_;have q5:=Dp.ofF q5;obtain⟨n5,e5⟩:=fwd d25;exact⟨J0.items.length-(i+1),by lia,rfl,hlt,ad5,S5,ys,vs,q5,d2.trans d25,st5,n5,e5,r2.wd d25,by lia⟩
 ·have e:i=J0.items.length:=by lia
  subst e;refine .inl ⟨it.stop ad2 H2 S2 d2 st2 (hok _ _ _ w2),?_⟩;exact k _ _ _ _ (ad2++[p]) (fin ys S2 w2) (d1.trans (d2.add hp)) (st2.add hv2 hp2 r2 (st1.bfree hp)) (.ref (by rw[<- st2.len,qe (qh _),Yj];rfl))
section
variable {X:Cx}{sc:Scope}{tg iter elt:Expr}{ifs:List Expr}{own free:List Str}{fv:List Nat}{wi:DI}{g:DG}{tc:DT}{te:DE}{pos:Pos}
def zwG (hfr:Wy (fun x=>X.env.kindOf x=some .cell) sc.names)(hfv:Ve X sc free fv)(hi:Xn X tg iter wi)(hg:Wj X.K own.length g g'/\∀ cl C s₀ H₀ ex,PG (inner X sc (own++free) cl C s₀ H₀ ex) tg g')(ht:∀ cl C s₀ H₀ ex,Mv (inner X sc (own++free) cl C s₀ H₀ ex) ifs tc)(he:∀ cl C s₀ H₀ ex,PD (inner X sc (own++free) cl C s₀ H₀ ex) elt te)(hcalm:autoParam (X.calm=true) zy)(hxe:autoParam ((X.xe=fun _ _=>False)) zy)(hkind:autoParam (sc.kind=.function) zy)(hcell:autoParam (∀ y∈sc.names,y.2=.cell->sc.names.lookup y.1=some .cell) Kl)(hnames:autoParam (∀ y∈sc.names,y.2=.local->sc.names.lookup y.1=some .local) Kl)(hs:autoParam (∀ x,foldedSetIterable iter X.env x=pure x) Qa):PD X (.ListComp elt [⟨tg,iter,ifs,0⟩] sc pos) (Zi own.length fv wi g tc te):=by with_unfolding_all exact(zY (zwa (tc:=Ov X.K tc) (te:=up X.K te) hcalm hxe hkind hcell hnames hfr hfv hi hg.2 ht he hs) fun _ _ _=>xO hg.1)
def Ě {i:Nat}{y:Str}{py spos:Pos}(hN:X.N.Nodup)(hfr:Wy (fun x=>X.env.kindOf x=some .cell) sc.names)(hfv:Ve X sc free fv)(hi:Xn X tg iter wi)(hg:Wj X.K own.length g g'/\∀ cl C s₀ H₀ ex,PG (inner X sc (own++free) cl C s₀ H₀ ex) tg g')(ht:∀ cl C s₀ H₀ ex,Mv (inner X sc (own++free) cl C s₀ H₀ ex) ifs tc)(he:∀ cl C s₀ H₀ ex,PD (inner X sc (own++free) cl C s₀ H₀ ex) elt te)(hy:autoParam (X.N[i]?=some y) zy)(hyl:autoParam (X.env.scope.names.lookup y=some .local) zy)(hcalm:autoParam (X.calm=true) zy)(hxe:autoParam ((X.xe=fun _ _=>False)) zy)(hkind:autoParam (sc.kind=.function) zy)(hcell:autoParam (∀ y∈sc.names,y.2=.cell->sc.names.lookup y.1=some .cell) Kl)(hnames:autoParam (∀ y∈sc.names,y.2=.local->sc.names.lookup y.1=some .local) Kl)(hsw:autoParam (swapsWith (.ListComp elt [⟨tg,iter,ifs,0⟩] sc pos) (some (.Name y py)) spos.line X.env=pure true) zy)(hs:autoParam (∀ x,foldedSetIterable iter X.env x=pure x) Qa):Zv X (.Assign [.Name y py] (.ListComp elt [⟨tg,iter,ifs,0⟩] sc pos) spos) (zq (Zi own.length fv wi g tc te) (zR i)):=by with_unfolding_all exact(Yd (zq0 (tc:=Ov X.K tc) (te:=up X.K te) hN hy hyl hcalm hxe hkind hcell hnames hfr hfv hi hg.2 ht he hsw hs) fun E U H hh=>ZS hh fun aD Z S E0 so rh q k =>xO (Q:=fun x H1=>L2.zR i x U H1 E.nx) hg.1 ⟨aD,Z,S,_,so,rh,q,fun d S' v H' aD' q' w st' r=>k.nx _ S' _ H' aD' q' w st' ((rh.wd w).set r i)⟩)
def zmI {K:PySem.W.Frag}{b:Nat}:Ii K b YK L2.YK:=fun aD H S Z U ds vs Q0 Q st rh r zq61 k=>by obtain⟨e,q⟩:=zq61;subst e;cases r;exact⟨rfl,k Z S U H aD q Wd.refl st rh rfl fun _ _=>rfl⟩
def jZ {K:PySem.W.Frag}{t:DG}(r1:Wj K b t t')(r2:Ii K b u u'):Ii K b (zN t u) (L2.zN t' u'):=fun aD H S Z U ds vs Q0 Q st rh r zq62 k=>by
 obtain⟨d,rs,ed,q⟩:=zq62;subst ed;cases r with
 |cons r t =>refine⟨_,_,rfl,r1 aD H S Z U d _ _ _ st rh r q fun ρ1 S1 σ1 H1 ad1 q1 w1 st1 rh1 l1 a1=>?_⟩;exact r2 ad1 H1 S1 ρ1 σ1 _ _ _ _ st1 rh1 (t.wd w1) q1 fun ρ2 S2 σ2 H2 ad2 q2 w2 st2 rh2 l2 a2=>k ρ2 S2 σ2 H2 ad2 q2 (w1.trans w2) st2 rh2 (l2.trans l1) fun j hj=>(a2 j hj).trans (a1 j hj)
def dI {K:PySem.W.Frag}{n:Nat}{t:Vg}(r:Ii K b t t'):Wj K b (YH n t) (L2.YH K n t'):=fun aD H S Z U d v Q0 Q st rh rv zq63 k=>by
 obtain⟨xs,ed,hl,q⟩:=zq63;subst ed;cases rv with
 |tup h1 rs=>exact⟨_,_,rfl,ZG.of h1,by rw[<- rs.length];exact hl,r aD H S Z U xs _ _ _ st rh rs q k⟩
end
def Aq {K:PySem.W.Frag}(N:List Str)(r:zj K aD H ds vs):zX K aD H (SQ N.length ds) (L2.start N vs) where
  len:=by unfold SQ L2.start;rw[qg,qg,qa,qa,qM,qM,r.length]
  val:=fun i d e=>by
    unfold SQ at e;unfold L2.start;by_cases hi:i<ds.length
    . rw[qf (by rw[qa];exact hi),qk]at e;rw[qf (by rw[qa,<- r.length];exact hi),qk];cases hd:ds[i]? with
      |none=>rw[hd]at e;cases e
      |some d' =>rw[hd]at e;cases e;obtain⟨v,ev,rv⟩:=r.get hd;exact⟨v,by rw[ev];rfl,rv⟩
    . rw[qe (by rw[qa];exact QK hi),Lf]at e;split at e<;>cases e
def zj.cut1 {K:PySem.W.Frag}{aD aD':List Addr}{H:Hp}(k:Nat)(h1:∀ d v,fl k d=true->Rel K aD H d v->Rel K aD' H d v):∀ ds vs,ds.all (fl k)=true->zj K aD H ds vs->zj K aD' H ds vs:=by
 intro ds
 induction ds with
 |nil=>intro vs _ r;cases r;exact .nil
 |cons d ds ih =>
  intro vs hf r;rw[VB,qr]at hf;cases r with
  |cons r t=>exact .cons (h1 d _ hf.1 r) (ih _ hf.2 t)
def Rel.cut {K:PySem.W.Frag}{aD aD':List Addr}{H:Hp}:∀ (k:Nat) (d:D) (v:V),fl k d=true->Rel K aD H d v->Rel K aD' H d v:=by
 intro k
 induction k with
 |zero =>
  intro d v hf r;cases r with
  |non=>exact .non
  |bl b=>exact .bl b
  |int i=>exact .int i
  |str x=>exact .str x
  |ty n=>cases hf
  |tup h r=>cases hf
  |rl h r=>cases hf
  |kt h r=>cases hf
  |ref h=>cases hf
  |exn _ _ _=>cases hf
 |succ k ih =>
  intro d v hf r;cases r with
  |non=>exact .non
  |bl b=>exact .bl b
  |int i=>exact .int i
  |str x=>exact .str x
  |ty n=>cases hf
  |tup h r=>exact .tup h (zj.cut1 k ih _ _ hf r)
  |rl h r=>cases hf
  |kt h r=>cases hf
  |ref h=>cases hf
  |exn _ _ _=>cases hf
theorem zj.cut {K:PySem.W.Frag}{aD':List Addr}(k:Nat)(ds:List D)(vs:List V)(hf:ds.all (fl k)=true)(r:zj K aD H ds vs):zj K aD' H ds vs:=zj.cut1 k (Rel.cut k) ds vs hf r
end Dp
namespace Dp
open PySem PySem.Spec PyProof.Rows L2 My
variable [B:Bs]
mutual
theorem Rel.low {K:PySem.W.Frag}{aD aD':List Addr}{H H':Hp}{m:Nat}(hm:aD.length<=m):∀ {d:D} {u v:V},Rel K aD H d u->Rel K aD' H' d v->Rel K (aD'.take m) H' d v
 |_,_,_,.non,r=>by cases r;exact .non
 |_,_,_,.bl b,r=>by cases r;exact .bl b
 |_,_,_,.int i,r=>by cases r;exact .int i
 |_,_,_,.str x,r=>by cases r;exact .str x
 |_,_,_,.ty n,r=>by cases r;exact .ty n
 |_,_,_,.tup _ t,r=>by
  cases r with
  |tup h t'=>exact .tup h (zj.low hm t t')
 |_,_,_,.rl _ t,r=>by
  cases r with
  |rl h t'=>exact .rl h (zj.low hm t t')
 |_,_,_,.kt _ t,r=>by
  cases r with
  |kt h t'=>exact .kt h (zj.low hm t t')
 |_,_,_,.exn _ _ _,r=>by
  cases r with
  |exn h e n=>exact .exn h e n
 |_,_,_,.ref h,r=>by
  cases r with
  |ref h'=>exact .ref (by rw[J8 (qF (My.Wo h) hm)];exact h')
theorem zj.low {K:PySem.W.Frag}{aD aD':List Addr}{H H':Hp}{m:Nat}(hm:aD.length<=m):∀ {ds:List D} {us vs:List V},zj K aD H ds us->zj K aD' H' ds vs->zj K (aD'.take m) H' ds vs
 |_,_,_,.nil,r=>by cases r;exact .nil
 |_,_,_,.cons r t,q=>by
  cases q with
  |cons r' t'=>exact .cons (Rel.low hm r r') (zj.low hm t t')
end
theorem Zn.low {K:PySem.W.Frag}{aD aD':List Addr}{H H':Hp}{m:Nat}(hm:aD.length<=m):∀ {fs:List (Str×D)} {us vs:List (Str×V)},Zn K aD H fs us->Zn K aD' H' fs vs->Zn K (aD'.take m) H' fs vs
 |_,_,_,.nil,r=>by cases r;exact .nil
 |_,_,_,.cons r t,q=>by
  cases q with
  |cons r' t'=>exact .cons (Rel.low hm r r') (Zn.low hm t t')
theorem RelK.low {K:PySem.W.Frag}{aD aD':List Addr}{H H':Hp}{m:Nat}(hm:aD.length<=m):∀ {fs:List (Str×D)} {us vs:List (Key×V)},RelK K aD H fs us->RelK K aD' H' fs vs->RelK K (aD'.take m) H' fs vs
 |_,_,_,.nil,r=>by cases r;exact .nil
 |_,_,_,.cons r t,q=>by
  cases q with
  |cons r' t'=>exact .cons (Rel.low hm r r') (RelK.low hm t t')
theorem zU.low {κ:Type}{K:PySem.W.Frag}{aD aD':List Addr}{H H':Hp}{m:Nat}(hm:aD.length<=m):∀ {fs:List (κ×D)} {us vs:List (κ×V)},zU K aD H fs us->zU K aD' H' fs vs->zU K (aD'.take m) H' fs vs
 |_,_,_,.nil,r=>by cases r;exact .nil
 |_,_,_,.cons r t,q=>by
  cases q with
  |cons r' t'=>exact .cons (Rel.low hm r r') (zU.low hm t t')
def HX {K:PySem.W.Frag}(st:zp K aD H S)(k:KK K aD H Q0 Q):KK K aD H (Fin S Q0) Q:=by
 intro d S' v H' aD' hf w st' r;rcases hf with q|⟨S1,pre,hlen,hd,hc,q⟩
 ·exact k d S' v H' aD' q w st' r
 have hS:S1.length<=S'.length:=pre.length_le;have had:aD.length<=S1.length:=by rw[st.len];exact hlen
 have htk:∀ {n:Nat} {a:Addr},(aD'.take S1.length)[n]?=some a->aD'[n]?=some a:=fun {n a} e=>by have hn:=My.Wo e;rw[Vj]at hn;rw[J8 (by lia)]at e;exact e
 have w1:Wd aD H (aD'.take S1.length) H':=by refine⟨?_,w.keep,w.tup,w.frz,fun b m n=>w.new b (QT m) n⟩;obtain⟨t,rfl⟩:=w.pre;rw[List.take_append,DY had];exact K9 _ _
 refine k d S1 v H' _ q w1 ⟨st.wd.trans w1,by rw[Vj,st'.len];lia,st'.nd.sublist (List.take_sublist _ _),fun n a c e1 e2=>?_⟩ ?_
 ·have e1':=htk e1;have ok:=st'.cell n a c e1' (Td pre e2);rcases hc n c e2 with h|h
  ·obtain⟨a0,ea,ok0⟩:=st.get h;cases c with
   |ins c fs =>obtain⟨C,dx,vs,hv,c1,c2,rv,hn⟩:=ok;obtain⟨_,_,us,_,_,_,ru,_⟩:=ok0;exact⟨C,dx,vs,hv,c1,c2,Zn.low had ru rv,hn⟩
   |dk Z8 =>obtain⟨vs,hv,rv⟩:=ok;obtain⟨us,hu,ru⟩:=ok0;exact⟨vs,hv,RelK.low had ru rv⟩
   |dt Z8 =>obtain⟨vs,hv,rv⟩:=ok;obtain⟨us,hu,ru⟩:=ok0;exact⟨vs,hv,zU.low had ru rv⟩
   |dn Z8 ep =>obtain⟨vs,hv,rv⟩:=ok;obtain⟨us,hu,ru⟩:=ok0;exact⟨vs,hv,zU.low had ru rv⟩
   |tab x l c=>exact ok
   |lst xs =>obtain⟨vs,hv,rv⟩:=ok;obtain⟨us,hu,ru⟩:=ok0;exact⟨vs,hv,zj.low had ru rv⟩
  ·cases c with
   |ins c fs=>cases h
   |dk _=>cases h
   |dt _=>cases h
   |dn _ _=>cases h
   |tab _ _ _=>cases h
   |lst xs =>obtain⟨vs,hv,rv⟩:=ok;exact⟨vs,hv,zj.cut 20 _ _ h rv⟩
 ·rcases hd with h|⟨n,rfl,hn⟩
  ·exact Rel.cut 20 _ _ h r
  ·cases r with
   |ref e=>exact .ref (by rw[J8 hn];exact e)
omit B in
def zrL {P:Program}{w:World}{K:PySem.W.Frag}{mg:Str->Option Value}{base:Heap}{st:Stmt}{k:Nat}{sp:ZV}(F:Xa K x qual st f fd)(S:Ph N ps (zJ st))(len:∀ ds So Q,sp ds So Q->ds.length=ps.length)(body:BodyOk N.length b sp)(term:∀ (cdv:Value) (A:Around) (outer:List Env) (s:Shared) (H:Hp) (E:XK),zQ k (A.deeper (envOfC qual (zJ st) s.heap.objs.size f cdv))->∀ [Bs],Xj (Vk Wg P w K mg base N qual (zJ st) f cdv A outer s H E).nox (X5 st) b) :
  YJ P w K mg base Wg (k+1) f fd ps (Xl K sp):=by
 with_unfolding_all
  refine F.ok S (by rintro vs H Q E ⟨aD,So,ds,Q0,so,r,hf,kk⟩;exact by rw[<- r.length];exact len ds So Q0 hf) fun cdv A outer s H vs Q E hr ⟨aD,So,ds,Q0,so,r,hf,kk⟩=>?_
  letI:Bs:=⟨aD,H⟩
  refine⟨_,term cdv A outer s H E hr,aD,SQ N.length ds,So,_,so,Aq N r,body ds So Q0 hf,⟨fun Z S' U H' aD' q w' st' rh=>HX so kk .non S' .non H' aD' q w' st' .non,HX so kk,fun _ _ _ _ _ q=>q.elim,fun _ _ _ _ _ q=>q.elim⟩⟩
omit B in
def iz {K:PySem.W.Frag}{ns:List Int}(hl:ns.length<=63)(hg:∀ n∈ns,Hg n)(hO:Only H)(hS:Zz K H a (ns.map V.int)):Xl K Qj [.ref a] H (fun v _=>v=.bl true) fun _ _ _=>False:=by
 have hr:QJ K H a (ns.map V.int):=by
  rcases hS with(h|h)|h
  ·rcases hO a with e|⟨o,xs,e⟩
   ·rw[h]at e;cases e
   ·rw[h]at e;cases e
  ·exact .inl h
  ·exact .inr h
 refine⟨[],[],[.rl (ns.map D.int)],fun d _=>d=.bl true,@zp.mk ⟨[],H⟩ _ _ _ _ Wd.refl rfl List.nodup_nil (fun n a c e=>by simp at e),.cons (.rl hr (zj.mk_ints ns)) .nil,⟨ns,rfl,⟨rfl,hg⟩,hl,fun _=>rfl⟩,fun d S' v H' aD' q w st' r=>?_⟩;have q':d=.bl true:=q;subst q';cases r;rfl
omit B in
theorem sZ:∀ {ns:List Int} {n:Int},n∈ns->PySem.W.WData.weight (.int n)<=PySem.W.WData.weightAll (ns.map PySem.W.WData.int)
 |m::ns,n,h=>by
  rw[qQ,PySem.W.WData.weightAll];rcases ql.mp h with rfl|h
  ·lia
  ·have:=sZ h;lia
omit B in
def bQ {l:PySem.W.OpenLaw}{n k:Nat}{q:Program}{loose:List Str}{XP:(Str->Option Value)->Heap->Prop}{YP:World->Heap->Prop}{d:DefRec}{K:Params->PySem.W.Frag}{sp:World->Sp}{x:Str}
  (hn:l.most=some n) (hn2:n<=sizeLine) (hdf:d.params.defaults=[]) (hr:zQ k callerA) (hY:∀ (w:World) (h:Heap),YP w h->(K w.params).In h)
  (F:∀ (w:World) (mg:Str->Option Value) (fa:Addr) (h:Heap),(K w.params).In h->h.Ns mainGlobals mg->mg d.name=some (.ref fa) ->
   ∃ fd:FuncData,(∀ (s:Shared) (u:Value),BindsTo s fd ⟨[u],[]⟩ [(x,u)])/\∀ base:Heap,(K w.params).In base->base.Ns mainGlobals mg->YJ l.prog w (K w.params) mg base Wg k fa fd [x] (sp w))
  (hsp:∀ (w:World) (H:Hp) (a:Addr) (ns:List Int),ns.length<=n->(∀ m∈ns,Hg m)->Only H->Zz (K w.params) H a (ns.map V.int)->sp w [.ref a] H (fun v _=>v=.bl true) fun _ _ _=>False) :
  PySem.W.WalkO q loose XP YP l.row.toRowW d [] (fun f vs=>PySem.call f vs):=by
 intro w s₀ s₁ mg mb G Y fa o pm cd doc dV kV ho hd hcd hD hmg hg args vals as hpre hlay hrd hwl hlo;obtain rfl:dV=.none:=PySem.W.Dflts.none hD hdf;obtain rfl:kV=.none:=PySem.W.Dflts.noKw hD;obtain⟨a,vs,ns,rfl,rfl,hobj,hints,hlen⟩:=Att.ú hn hpre hwl
 have hbits:∀ m∈ns,Hg m:=fun m hm=>by
  have h1:PySem.W.WData.layable (.list (ns.map .int))=true:=by simpa [PySem.W.WData.layableAll]using hlay
  have h2:PySem.W.WData.weight (.list (ns.map PySem.W.WData.int))<=2 ^ 20:=by unfold PySem.W.WData.layable at h1;rw[qr,decide_eq_true_eq]at h1;exact h1.2
  have h3:=qZ (sZ hm) (by simpa only[PySem.W.WData.weight]using h2);exact zsp (by simpa only[PySem.W.WData.weight,Builtin.Int.intBits]using h3)
 have KX:=hY w _ Y;obtain⟨fd,hb,hF⟩:=F w mg fa _ KX G.T.g hmg;refine PySem.W.enter_call (codeAny_mono (znZ KX G.T.g G.T.b G.T.builtins G.T.nolimit hg hobj hints (qZ hlen hn2) hr hF hb (fun H hO hS=>hsp w H a ns hlen hbits hO hS) fun _ _ _ z=>z) fun r s' hq=>?_);obtain⟨rfl,h2,h3,h4⟩:=hq;exact⟨.inl ⟨.bool true,.bool true,[],rfl,fun _=>rfl,.bool true,Att.znp l _,fun _=>⟨List.Pairwise.nil,fun _ hm=>(nomatch hm)⟩⟩,h2,h3,h4⟩
omit B in
def zw7 {α:Type}{us:List α}(hl:us.length=6):∃ a0 a1 a2 a3 a4 a5,us=[a0,a1,a2,a3,a4,a5]:=by
  cases us with
  |nil=>simp at hl
  |cons a0 us =>
  cases us with
  |nil=>simp at hl
  |cons a1 us =>
  cases us with
  |nil=>simp at hl
  |cons a2 us =>
  cases us with
  |nil=>simp at hl
  |cons a3 us =>
  cases us with
  |nil=>simp at hl
  |cons a4 us =>
  cases us with
  |nil=>simp at hl
  |cons a5 us =>
  cases us with
  |nil=>exact⟨a0,a1,a2,a3,a4,a5,rfl⟩
  |cons b us=>simp at hl
end Dp
namespace Dp
open PySem PySem.Spec PyProof.Rows L2 My
variable [B:Bs]
section
variable {X:Cx}
def ψ {K:PySem.W.Frag}{a:Addr}{ds:List D}(r:Rel K aD H x (.ref a)):Ub K aD H ⟨U9 0 ds,fun S=>Lst S x ds⟩ (Ite K a) where
 go:=fun ad1 H1 S i w st ok hi=>by
  obtain⟨a',vs,e,s,rs⟩:=Lst.sq st ok (r.wd w);cases e;have hi':i<ds.length:=by rw[<- UL 0 ds];exact hi
  exact⟨vs,vs[i]'(by rw[<- rs.length];exact hi'),s,qb _⟩
 yld:=by rintro ad1 H1 S i d y H' w st ok hd ⟨p,ey,hp,he⟩;obtain⟨a',vs,e,s,rs⟩:=Lst.sq st ok (r.wd w);cases e;obtain⟨z,hz,rfl⟩:=Uz hd;obtain⟨v,ev,rv⟩:=rs.get hz;rw[he vs v s ev,ey];refine⟨Wd.laid hp,st.laid hp,.tup zK (.cons ?_ (.cons (rv.wd (Wd.laid hp)) .nil))⟩;rw[Ms];exact .int _
 stop:=fun ad1 H1 S w st ok=>by obtain⟨a',vs,e,s,rs⟩:=Lst.sq st ok (r.wd w);cases e;exact⟨vs,s,by show _<=(U9 0 ds).length;rw[UL,rs.length];exact qh _⟩
def ziK {es:List Expr}{kk:Nat}{tpos:Pos}{a:Expr}{t:DA}{p pos:Pos}(hg:Gl X "enumerate")(hm:X.mg "enumerate"=none)(ha:PAD X [a] t)(hs:autoParam (starEach [a] X.env=[(false,eval a X.env)]) Nk) :
  Xn X (.Tuple es kk tpos) (.Call (.Name "enumerate" p) [a] [] pos) (Dp.Wm t):=by with_unfolding_all exact(Lw (zqA hg hm ha hs) fun U H R hh=>ZS hh fun aD Z S R0 st rh q k =>
 ⟨aD,Z,S,_,st,rh,q,fun ds S1 vs H1 ad1 q0 w1 st1 r1=>by obtain⟨x,xs,ed,hx,q1⟩:=q0;subst ed;obtain⟨v,rfl,rv⟩:=Xu r1;obtain⟨b,ws,rfl,s,rs⟩:=hx.sq st1 rv;exact⟨b,rfl,⟨ws,s⟩,k _ S1 _ H1 ad1 q1 w1 st1 (ψ rv)⟩⟩)
def zto {K:PySem.W.Frag}{a b:Addr}{ds es:List D}(r:Rel K aD H x (.ref a))(r2:Rel K aD H y (.ref b)):Ub K aD H ⟨Yi ds es,fun S=>Lst S x ds/\Lst S y es⟩ (J7 K true true a b) where
 go:=fun ad1 H1 S i w st ok hi=>by
  obtain⟨a',vs,e,s,rs⟩:=Lst.sq st ok.1 (r.wd w);obtain⟨b',us,e',s',rs'⟩:=Lst.sq st ok.2 (r2.wd w);cases e;cases e';have hi':i<min ds.length es.length:=by rw[<- Rc ds es];exact hi
  exact⟨vs,us,vs[i]'(by rw[<- rs.length];lia),us[i]'(by rw[<- rs'.length];lia),s,s',qb _,qb _⟩
 yld:=by rintro ad1 H1 S i d z H' w st ok hd ⟨p,ey,hp,he⟩;obtain⟨a',vs,e,s,rs⟩:=Lst.sq st ok.1 (r.wd w);obtain⟨b',us,e',s',rs'⟩:=Lst.sq st ok.2 (r2.wd w);cases e;cases e';obtain⟨u1,u2,h1,h2,rfl⟩:=Il hd;obtain⟨v,ev,rv⟩:=rs.get h1;obtain⟨u,eu,ru⟩:=rs'.get h2;rw[he vs us v u s s' ev eu,ey];exact⟨Wd.laid hp,st.laid hp,.tup zK (.cons (rv.wd (Wd.laid hp)) (.cons (ru.wd (Wd.laid hp)) .nil))⟩
 stop:=fun ad1 H1 S w st ok=>by obtain⟨a',vs,e,s,rs⟩:=Lst.sq st ok.1 (r.wd w);obtain⟨b',us,e',s',rs'⟩:=Lst.sq st ok.2 (r2.wd w);cases e;cases e';refine⟨vs,us,s,s',?_⟩;show vs.length<=(Yi ds es).length\/us.length<=(Yi ds es).length;rw[Rc,rs.length,rs'.length];lia
def zqO {K:PySem.W.Frag}{H:Hp}{vs us:List V}(h:H a=some (.tup vs))(r:zj K aD H ds vs)(h2:H b=some (.tup us))(r2:zj K aD H es us):Ub K aD H ⟨Yi ds es,fun _=>True⟩ (J7 K false false a b) where
 go:=fun ad1 H1 S i w st _ hi=>by
  have hi':i<min ds.length es.length:=by rw[<- Rc ds es];exact hi
  exact⟨vs,us,vs[i]'(by rw[<- r.length];lia),us[i]'(by rw[<- r2.length];lia),ZG.of (w.tup _ _ h),ZG.of (w.tup _ _ h2),qb _,qb _⟩
 yld:=by rintro ad1 H1 S i d z H' w st _ hd ⟨p,ey,hp,he⟩;obtain⟨u1,u2,h1,h2',rfl⟩:=Il hd;obtain⟨v,ev,rv⟩:=r.get h1;obtain⟨u,eu,ru⟩:=r2.get h2';rw[he vs us v u (ZG.of (w.tup _ _ h)) (ZG.of (w.tup _ _ h2)) ev eu,ey];exact⟨Wd.laid hp,st.laid hp,.tup zK (.cons ((rv.wd w).wd (Wd.laid hp)) (.cons ((ru.wd w).wd (Wd.laid hp)) .nil))⟩
 stop:=fun ad1 H1 S w st _=>by refine⟨vs,us,ZG.of (w.tup _ _ h),ZG.of (w.tup _ _ h2),?_⟩;show vs.length<=(Yi ds es).length\/us.length<=(Yi ds es).length;rw[Rc,r.length,r2.length];lia
def ð {es:List Expr}{kk:Nat}{tpos:Pos}{a b:Expr}{t:DA}{p pos:Pos}(hg:Gl X "zip")(hm:X.mg "zip"=none)(ha:PAD X [a,b] t)(hs:autoParam (starEach [a,b] X.env=[(false,eval a X.env),(false,eval b X.env)]) uU)(hs2:autoParam (starEach [b] X.env=[(false,eval b X.env)]) Nk) :
  Xn X (.Tuple es kk tpos) (.Call (.Name "zip" p) [a,b] [] pos) (Dp.Ka t):=by with_unfolding_all exact(Lw (zqL hg hm ha hs hs2) fun U H R hh=>ZS hh fun aD Z S R0 st rh q k =>
 ⟨aD,Z,S,_,st,rh,q,fun ds S1 vs H1 ad1 q0 w1 st1 r1=>by
  rcases q0 with⟨x,y,xs,ys,ed,hx,hy,q1⟩|⟨xs,ys,ed,q1⟩
  ·subst ed;obtain⟨v,u,rfl,rv,ru⟩:=Od r1;obtain⟨b1,ws,rfl,s,rs⟩:=hx.sq st1 rv;obtain⟨b2,ws2,rfl,s2,rs2⟩:=hy.sq st1 ru;exact⟨true,b1,b2,rfl,⟨ws,s⟩,⟨ws2,s2⟩,k _ S1 _ H1 ad1 q1 w1 st1 (zto rv ru)⟩
  ·subst ed;obtain⟨v,u,rfl,rv,ru⟩:=Od r1;cases rv with
   |tup h r =>
    cases ru with
    |tup h2 r2=>exact⟨false,_,_,rfl,⟨_,ZG.of h⟩,⟨_,ZG.of h2⟩,k _ S1 _ H1 ad1 q1 w1 st1 (zqO h r h2 r2)⟩⟩)
end
section
variable {X:Cx}{a b:Expr}{ta tb:DE}{pos:Pos}
theorem Cu (x:D)(hx:fl 20 x=true):∀ ys:List D,ys.all (fl 20)=true->((YX ys).any fun z=>PyData.eqv z (Yx x))=ys.any fun z=>eqv z x
 |[],_=>rfl
 |y::ys,h=>by rw[VB,qr]at h;show(PyData.eqv (Yx y) (Yx x)||(YX ys).any fun z=>PyData.eqv z (Yx x))=_;rw[Ca 20 y x h.1 hx,Cu x hx ys h.2];rfl
def xR (X:Cx)(g:Bool->Bool):R2:=fun x y H Q=>∃ aD S dx dy b,zp X.K aD H S/\Rel X.K aD H dx x/\Rel X.K aD H dy y/\Jh S dx dy b/\Q (.bl (g b)) H
def uP {Z9:List (Addr×Obj)}{U:L2.St}{H:Hp}{s:Shared}{aD:List Addr}{S:Z7}{dx dy:D}{x y:V}{v u:Value}{b:Bool}(I:Inv X Z9 U H s)(st:zp X.K aD H S)(rx:Rel X.K aD H dx x)(ry:Rel X.K aD H dy y)(qx:RelV x v)(qy:RelV y u)(h:Jh S dx dy b) :
  ∃ pd ps as bs,Reads s.heap v pd as/\(Reads s.heap u (.list ps) bs\/Reads s.heap u (.tuple ps) bs)/\pd.canLay0=true/\PyData.canLayAll0 ps=true/\min (PyData.depthAll ps) pd.depth<=60/\(ps.any fun z=>PyData.eqv z pd)=b:=by
 obtain⟨ys,hy,fx,fy,rfl⟩:=h;obtain⟨as,ra⟩:=Rt I 20 dx x v fx rx qx;obtain⟨c1,d1⟩:=HS 20 dx fx;obtain⟨c2,d2⟩:=EY 20 ys fy;rcases hy with rfl|hy
 ·obtain⟨bs,rb⟩:=Rt I 21 (.tup ys) y u fy ry qy;exact⟨Yx dx,YX ys,as,bs,ra,.inr rb,c1,c2,by lia,Cu dx fx ys fy⟩
 ·obtain⟨a2,vs2,rfl,s2,r2⟩:=hy.sq st ry;cases qy;obtain⟨its2,rv2,ht2,hz2⟩:=I.list s2;obtain⟨o2,ho2,hc2,n2,hd2⟩:=ht2.isList;obtain⟨bs,rb⟩:=Kh I 20 (Rt I 20) _ _ _ fy r2 rv2;exact⟨Yx dx,YX ys,as,_,ra,.inl (.list ho2 hc2 hd2 (by simpa using rb)),c1,c2,by lia,Cu dx fx ys fy⟩
def jj {k:Nat}(hr:zQ k X.A):OC X .In Uk:=⟨_,(ZJ.or (r:=xR X id) (by
  rintro Z9 s U H x y v u Q I qx qy ⟨aD,S,dx,dy,b,st,rx,ry,h,q⟩;obtain⟨pd,ps,as,bs,ra,rb,c1,c2,hd,e⟩:=uP I st rx ry qx qy h;have hu:=hr.units;rcases rb with rb|rb
  ·exact PySem.SeqAt.in_list_reads rb ra c2 c1 (by lia) ⟨.bl _,H,I,by rw[e];rfl,q⟩
  ·exact PySem.SeqAt.in_tuple_reads rb ra c2 c1 (by lia) ⟨.bl _,H,I,by rw[e];rfl,q⟩) gD),
 fun aD H S x y v u Q0 Q st rx ry h k=>by
  rcases h with⟨b,h,q⟩|⟨c,z,rfl,rfl,q⟩
  ·exact .inl ⟨aD,S,x,y,b,st,rx,ry,h,k _ S _ H aD q Wd.refl st (.bl _)⟩
  ·cases rx;cases ry;exact .inr ⟨_,z,rfl,rfl,by rw[PySem.StrLaws.found_one];exact k _ S _ H aD q Wd.refl st (.bl _)⟩⟩
def Đ {k:Nat}(hr:zQ k X.A):OC X .NotIn RL:=⟨_,(ZJ.or (r:=xR X (!·)) (by
  rintro Z9 s U H x y v u Q I qx qy ⟨aD,S,dx,dy,b,st,rx,ry,h,q⟩;obtain⟨pd,ps,as,bs,ra,rb,c1,c2,hd,e⟩:=uP I st rx ry qx qy h;have hu:=hr.units;rcases rb with rb|rb
  ·exact PySem.SeqAt.notIn_list_reads rb ra c2 c1 (by lia) ⟨.bl _,H,I,by rw[e];rfl,q⟩
  ·exact PySem.SeqAt.notIn_tuple_reads rb ra c2 c1 (by lia) ⟨.bl _,H,I,by rw[e];rfl,q⟩) Ė),
 fun aD H S x y v u Q0 Q st rx ry h k=>by
  rcases h with⟨b,h,q⟩|⟨c,z,rfl,rfl,q⟩
  ·exact .inl ⟨aD,S,x,y,b,st,rx,ry,h,k _ S _ H aD q Wd.refl st (.bl _)⟩
  ·cases rx;cases ry;exact .inr ⟨_,z,rfl,rfl,by rw[PySem.StrLaws.found_one];exact k _ S _ H aD q Wd.refl st (.bl _)⟩⟩
def zrb (o:OC X op r')(ha:PD X a ta)(hb:PD X b tb)(hm:autoParam (behindInMarks op b=false) Vo):PD X (.Compare a [op] [b] pos) (Z6 r' ta tb):=by
 with_unfolding_all
  obtain⟨r,ho,od⟩:=o;exact zY (zsn ho ha hb hm) fun _ _ _=>HN od
def Ś (o:OC X op r')(ha:PD X a ta)(hb:PD X b tb)(hm:autoParam (behindInMarks op b=false) Vo):Yy X (.Compare a [op] [b] pos) (dT (Z6 r' ta tb)):=by
 with_unfolding_all
  obtain⟨r,ho,od⟩:=o;refine O4 (ω ho ha hb hm) fun U H Q hh=>ZS hh fun aD Z S Q0 st rh q k=>?_
  refine HN (Q:=fun x H'=>∃ k,x=.bl k/\Q k H') od ⟨aD,Z,S,_,st,rh,q,fun d S' v H' aD' ⟨b,e,q'⟩ w st' r=>?_⟩;subst e;cases r;exact⟨b,rfl,k b S' H' aD' q' w st'⟩
end
section
variable {X:Cx}
end
section
variable {X:Cx}{e:Expr}{pos p2 p3:Pos}{lo:Option Expr}
end
theorem Aa {K:PySem.W.Frag}{aD:List Addr}{H:Hp}:∀ {zs:List Str} {vs:List V},zj K aD H (zs.map D.str) vs->vs=zs.map V.str
 |[],_,.nil=>rfl
 |z::zs,_,.cons r t=>by cases r;rw[Aa t];rfl
def d9 {a:Expr}{t:DA}{p1 p2 pos1 pos2:Pos}(hgl:Gl X "len")(hml:X.mg "len"=none)(hgr:Gl X "set")(hmr:X.mg "set"=none)(ha:PAD X [a] t)(hc:autoParam (X.calm=true) zy)(hs:autoParam (starEach [a] X.env=[(false,eval a X.env)]) Nk)(hs3:autoParam (starEach [.Call (.Name "set" p2) [a] [] pos2] X.env=[(false,eval (.Call (.Name "set" p2) [a] [] pos2) X.env)]) zy) :
  PD X (.Call (.Name "len" p1) [.Call (.Name "set" p2) [a] [] pos2] [] pos1) (dB Mf t):=by with_unfolding_all exact(zY (eV hc hgl hml hgr hmr ha hs hs3) fun U H Q hh=>ZS hh fun aD Z S Q0 st rh q k =>
  ⟨aD,Z,S,_,st,rh,q,by rintro ds S1 vs H1 ad1 ⟨x,zs,ed,hx,hl,q1⟩ w1 st1 r1;subst ed;obtain⟨v,rfl,rv⟩:=Xu r1;obtain⟨a1,ws,rfl,hs,rs⟩:=hx.sq st1 rv;cases Aa rs;exact⟨a1,zs,rfl,hs,hl,k _ S1 _ H1 ad1 q1 w1 st1 (.int _)⟩⟩)
section
variable {X:Cx}{e:Expr}{t:DA}{p pos kp cp:Pos}{j:Nat}
end
section
variable {X:Cx}{e o value:Expr}{te to tv:DE}{f c:Str}{pos pos':Pos}
def iG (he:PD X e te)(hb:attributeBase e f X.env (eval e X.env)=eval e X.env):PD X (.Attribute e f pos) (Ze f te):=by with_unfolding_all exact(zY (zvL he hb) fun U H Q hh=>ZS hh fun aD Z S Q0 st rh q k =>
  ⟨aD,Z,S,_,st,rh,q,by
   rintro x S1 v H1 ad1 ⟨n,c,fs,d,ex,hn,hl,q1⟩ w1 st1 r1;subst ex;cases r1 with
   |ref en =>obtain⟨C,dx,vs,h1,hc,hns,rf,hna⟩:=st1.cell n _ _ en hn;obtain⟨v,hv,rv⟩:=rf.look hl;obtain⟨q2,hq2,e2⟩:=vM hl;exact⟨_,C,dx,vs,v,rfl,h1,hc,e2▸hna q2 hq2,hv,k d S1 v H1 ad1 q1 w1 st1 rv⟩⟩)
def zsf (hna:∀ C,PySem.W.nsIn X.K mainGlobals c=some (some (.ref C))->V2 X.K C f)(ho:PD X o to)(hv:PD X value tv)(hs:autoParam (swapsWith value (some (.Attribute o f pos')) pos.line X.env=pure false) zy) :
  Zv X (.Assign [.Attribute o f pos'] value pos) (V5 c f to tv):=by with_unfolding_all exact(Yd (ztk ho hv hs) fun E U H hh=>ZS hh fun aD Z S E0 so rh q k =>
 ⟨aD,Z,S,_,so,rh,q,fun y S1 vy H1 ad1 q1 w1 st1 r1=>⟨ad1,Z,S1,_,st1,rh.wd w1,q1,by
  rintro x S2 vx H2 ad2 ⟨n,fs,ex,hn,hl,q2⟩ w2 st2 r2;subst ex;cases r2 with
  |ref en =>obtain⟨C,dx,vs,h1,hc,hns,rf,hna'⟩:=st2.cell n _ _ en hn;have w3:Wd ad2 H2 ad2 (upd H2 _ (.ins C dx (YC f vy vs))):=Wd.putI en h1;exact⟨_,C,dx,vs,rfl,h1,hc,hna C hns,by rw[<- rf.length];lia,k.nx Z _ U _ ad2 q2 ((w1.trans w2).trans w3) (st2.putI en h1 hc hns rf hna' (hna C hns) (r1.wd w2)) (((rh.wd w1).wd w2).wd w3)⟩⟩⟩)
omit B in
def jl {K:PySem.W.Frag}{C:Addr}{init:ZV}(hc:Cls K C)(hn:PySem.W.nsIn K mainGlobals c=some (some (.ref C))):∀ vs H Q,Xl K (R9 c init) vs H Q E0->∀ x dx,H x=none->H dx=none->dx≠x ->
  Xl K init (.ref x::vs) (upd (upd H dx (.own x)) x (.ins C dx [])) (fun v H2=>v=.non/\Q (.ref x) H2) E0:=by
 rintro vs H Q ⟨aD,S,ds,Q0,st,r,hf,k⟩ x dx hx hdx hne
 letI:Bs:=⟨aD,H⟩
 obtain⟨w,st'⟩:=st.newI (c:=c) hx hdx hne hc hn;have rx:Rel K (aD++[x]) (upd (upd H dx (.own x)) x (.ins C dx [])) (.ref S.length) (.ref x):=.ref (by rw[<- st.len,qe (qh _),Yj];rfl);have hf':init (.ref S.length::ds) (S++[.ins c []]) (fun d S2=>d=.non/\Q0 (.ref S.length) S2):=hf;refine⟨aD++[x],S++[.ins c []],.ref S.length::ds,_,st'.base,.cons rx (r.wd w),hf',fun d S' v H' aD' q w' st2 rv=>?_⟩;obtain⟨rfl,q⟩:=q;cases rv;exact⟨rfl,k _ S' _ H' aD' q (w.trans w') (st'.back st2) (rx.wd w')⟩
def zs4 {k:Nat}{e:Expr}{es:List Expr}{t:DA}{p:Pos}{f:ZV}(G:GK X.prog X.w X.K X.mg X.base k x (Xl X.K f))(hr:zQ j X.A)(ha:PAD X (e::es) t)(hk:autoParam (k+1<=j) zO)(hg:autoParam (Gl X x) zy)(hdb:autoParam ((x==("__debug__":Str))=false) zO)(he:autoParam (starEach (e::es) X.env=(false,eval e X.env)::starEach es X.env) Q5)(hpl:autoParam ((backTo pos (starEach es X.env)).any (·.1)=false) QB) :
  PD X (.Call (.Name x p) (e::es) [] pos) (dCall f t):=by with_unfolding_all exact(zY (đ G hr hk hg ha hdb he hpl) fun U H Q hh=>ZS hh fun aD Z S Q0 st rh q k =>
 ⟨aD,Z,S,_,st,rh,q,fun ds S1 vs H1 ad1 q1 w1 st1 r1=>by show Xl X.K f (vs++[]) H1 Q E0;rw[qS];exact⟨ad1,S1,ds,Q0,st1.base,r1,q1,(k.wd w1).base st1⟩⟩)
end
end Dp
namespace Dp
open PySem PySem.Spec PyProof.Rows L2 My
def Rk (h0 h:Heap)(e:Addr)(cls:Value)(H:Hp):Prop:=h0.get? e=none/\H e=none/\∃ (a0:Value) (oe:Obj) (vs:Array Value) (T:Addr) (oT:Obj) (ts:Array Value),h.get? e=some oe/\(oe.cls=cls/\vs[0]?=some a0)/\oe.data=.fields vs/\vs[1]?=some (.ref T)/\h0.get? T=none/\T≠e/\h.get? T=some oT/\oT.data=.fields ts/\ts[3]?=some .none/\H T=none
def Vv (P:Program)(w:World):V6:=fun outer H s E e s'=>∃ (a C:Addr) (H':Hp),e=.ref a/\s'.os=s.os/\AllBare s'.gens/\Un (frs outer) [] H H' s.heap s'.heap/\ZF P w H' s'.heap/\Rk s.heap s'.heap a (.ref C) H'/\E (.ref C) none H'
def XM (h:Heap)(p:Addr->Bool):Heap:={ h with objs:=h.objs.mapIdx fun i o=>if p i=true then o else { cls:=.none,data:=.freed } }
def Rr (h:Heap)(p:Addr->Bool)(b:Addr):(XM h p).get? b=if p b=true then h.get? b else none:=by
  unfold XM Heap.get?;dsimp only;rw[Array.getElem?_mapIdx];cases h.objs[b]? with
  |none=>cases p b<;>rfl
  |some o=>cases p b<;>rfl
def Bj (h:Heap)(p:Addr->Bool):(XM h p).StaysIn h:=fun b o e=>by
 rw[Rr]at e;split at e
 ·exact e
 ·cases e
theorem Ib {h base base':Heap}:∀ {l:List Env},h.FunFrames base l->(∀ L∈frs l,base'.get? L=none)->h.FunFrames base' l
 |[],_,_=>True.intro
 |env::l,⟨h1,⟨L,o,h2,h3,h4,h5⟩,h6⟩,hb=>⟨h1,⟨L,o,h2,hb L (UW.mpr ⟨env,by simp,h2⟩),h4,h5⟩,Ib h6 fun L' hL=>hb L' (by obtain⟨e',he,e2⟩:=UW.mp hL;exact UW.mpr ⟨e',qi _ he,e2⟩)⟩
section
variable {X:Cx}{Z9:List (Addr×Obj)}{U:L2.St}{H:Hp}{s:Shared}
def znN (I:Inv X Z9 U H s)(hex:X.ex=[]){b:Addr}{o:Obj}(e:X.s₀.heap.get? b=some o):∃ o',s.heap.get? b=some o':=I.base.there b o e (by rw[hex];simp)
def M7 (I:Inv X Z9 U H s)(hex:X.ex=[]){b:Addr}(e:s.heap.get? b=none):X.s₀.heap.get? b=none:=by
 cases q:X.s₀.heap.get? b with
 |none=>rfl
 |some o=>obtain⟨o',h⟩:=znN I hex q;rw[e]at h;cases h
def FN (I:Inv X Z9 U H s){b:Addr}(e:s.heap.get? b=none):H b=none:=by
 cases q:H b with
 |none=>rfl
 |some o =>
  have:=(I.hok b o q).lt;exfalso;cases o with
  |lst xs=>obtain⟨_,_,_,_,h⟩:=I.hok b _ q;rw[e]at h;cases h
  |tup xs=>obtain⟨_,_,_,ob,h,_⟩:=I.hok b _ q;rw[e]at h;cases h
  |dK Z8=>obtain⟨_,_,_,_,ob,_,_,h,_⟩:=I.hok b _ q;rw[e]at h;cases h
  |dT Z8=>obtain⟨_,_,_,_,ob,_,_,h,_⟩:=I.hok b _ q;rw[e]at h;cases h
  |dN Z8 ep=>obtain⟨_,_,_,_,ob,_,h,_⟩:=I.hok b _ q;rw[e]at h;cases h
  |set S n=>obtain⟨ob,_,_,_,h,_⟩:=I.hok b _ q;rw[e]at h;cases h
  |ins C dx fs=>obtain⟨_,_,_,h,_⟩:=I.hok b _ q;rw[e]at h;cases h
  |own y=>obtain⟨_,h⟩:=I.hok b _ q;rw[e]at h;cases h
  |xd fs=>obtain⟨_,⟨_,_,_,h,_⟩,_⟩:=I.hok b _ q;rw[e]at h;cases h
  |rng lo hi=>obtain⟨_,_,_,h⟩:=I.hok b _ q;rw[e]at h;cases h
  |frz ob u=>obtain⟨h,_⟩:=I.hok b _ q;rw[e]at h;cases h
  |tbl ps=>have h:s.heap.get? b=some _:=I.hok b _ q;rw[e]at h;cases h
  |met f y=>have h:s.heap.get? b=some _:=I.hok b _ q;rw[e]at h;cases h
  |ext φ=>obtain⟨_,⟨_,h⟩,_⟩:=I.hok b _ q;rw[e]at h;cases h
def xq (I:Inv X Z9 U H s)(hex:X.ex=[])(hst:X.stack=X.env::X.outer)(hfr:X.env.frame=some X.env.locals){e T0:Addr}{h':Heap}(he:X.s₀.heap.get? e=none)(hT:X.s₀.heap.get? T0=none)(He:H e=none)(HT:H T0=none)
  (hk:∀ b o,s.heap.get? b=some o->b≠e->b≠T0->b∉frs X.stack->h'.get? b=some o) (hs:∀ b∈frs X.stack,∀ o,s.heap.get? b=some o->∃ sl,h'.get? b=some { o with slots:=sl }) :
  Un X.fs [] X.H₀ H X.s₀.heap h'/\ZF X.prog X.w H h':=by
 have nfr:∀ {b:Addr} {o:Obj},X.s₀.heap.get? b=some o->b∉X.fs->b∉frs X.stack:=fun {b o} q n m=>by
  rw[hst]at m;obtain⟨e',h1,h2⟩:=UW.mp m;rcases ql.mp h1 with rfl|h1
  ·rw[hfr]at h2;cases h2;exact absurd (qv q) (Nat.not_lt.mpr I.ok.above)
  ·exact n (UW.mpr ⟨e',h1,h2⟩)
 have sub:∀ {b:Addr},b∈X.fs->b∈frs X.stack:=fun {b} m=>by obtain⟨e',h1,h2⟩:=UW.mp m;rw[hst];exact UW.mpr ⟨e',qi _ h1,h2⟩
 have nex:∀ b:Addr,b∉X.ex:=fun b=>by rw[hex];simp
 have ne:∀ {b:Addr} {o:Obj},X.s₀.heap.get? b=some o->b≠e/\b≠T0:=fun {b o} q=>⟨fun z=>(by rw[z,he]at q;cases q),fun z=>(by rw[z,hT]at q;cases q)⟩
 have ub:=I.base;refine⟨⟨fun b o q n m _=>?_,fun b o q n m _=>?_,fun b o q n _=>ub.free b o q n (nex b),fun b o q _=>?_,ub.tups,ub.frzs,ub.tbls⟩,fun a o q=>?_⟩
 ·exact hk b o (ub.keep b o q n m (nex b)) (ne q).1 (ne q).2 (nfr q m)
 ·obtain⟨sl,h1⟩:=ub.slot b o q n m (nex b);obtain⟨sl',h2⟩:=hs b (sub m) _ h1;exact⟨sl',h2⟩
 ·obtain⟨o',h1⟩:=ub.there b o q (nex b);by_cases m:b∈frs X.stack
  ·obtain⟨sl,h2⟩:=hs b m o' h1;exact⟨_,h2⟩
  ·exact⟨o',hk b o' h1 (ne q).1 (ne q).2 m⟩
 ·have inn:∀ {b:Addr},H b≠none->b≠e/\b≠T0/\b∉frs X.stack:=fun {b} n=>⟨fun z=>n (by rw[z];exact He),fun z=>n (by rw[z];exact HT),fun z=>n (I.stkFree b z)⟩
  refine(I.hok a o q).stay (fun b u hb r=>?_) (fun _ r=>r) fun _ _ r=>r
  have n:H b≠none:=by
   rcases hb with rfl|hb
   ·rw[q];exact JK _
   ·rw[hb];exact JK _
  obtain⟨n1,n2,n3⟩:=inn n;exact hk b u r n1 n2 n3
def Ē (I:Inv X Z9 U H s)(hex:X.ex=[])(hst:X.stack=X.env::X.outer)(hfr:X.env.frame=some X.env.locals){e C:Addr}{E:Value->Shared->Prop}{Q:Unit->Shared->Prop}(F:Rk X.s₀.heap s.heap e (.ref C) H)
  (hQ:∀ s':Shared,s'.os=X.s₀.os->AllBare s'.gens->Un X.fs [] X.H₀ H X.s₀.heap s'.heap->ZF X.prog X.w H s'.heap->Rk X.s₀.heap s'.heap e (.ref C) H->Q () s'):wpAny (model X.prog X.w) X.A (leaving X.env (.ref e)) Q E s:=by
 obtain⟨he,He,a0,oe,vs,T,oT,ts,f1,f2,f3,f4,f5,f6,f7,f8,f9,HT⟩:=F;have ff:s.heap.FunFrames X.base X.stack:=I.stack;obtain⟨p,hp⟩:∃ p:Addr->Bool,∀ b,p b=true↔b≠e/\b≠T/\b∉frs X.stack:=⟨fun b=>decide (b≠e/\b≠T/\b∉frs X.stack),fun b=>decide_eq_true_iff⟩
 have mno:∀ {b:Addr},¬ (b≠e/\b≠T/\b∉frs X.stack)->(XM s.heap p).get? b=none:=fun {b} n=>by rw[Rr,if_neg (fun z=>n ((hp b).mp z))]
 have myes:∀ {b:Addr} {o:Obj},s.heap.get? b=some o->b≠e->b≠T->b∉frs X.stack->(XM s.heap p).get? b=some o:=fun {b o} q n1 n2 n3=>by rw[Rr,if_pos ((hp b).mpr ⟨n1,n2,n3⟩)];exact q
 have fb:s.heap.FunFrames (XM s.heap p) X.stack:=Ib ff fun L hL=>mno fun z=>z.2.2 hL
 have fl:Heap.FlyingW (XM s.heap p) X.stack e (.ref C) a0 s.heap:=⟨Bj _ _,mno fun z=>z.1 rfl,fb,oe,vs,T,oT,ts,f1,f2,f3,f4,mno fun z=>z.2.1 rfl,f6,f7,f8,f9⟩
 have fr:=I.ok.frames;rw[hst]at fr;rw[hst]at fl;refine wpAny_leaves_onW fr hfr fl fun h' ⟨k1,k2,k3,oe',vs',T',oT',ts',g1,g2,g3,g4,g5,g6,g7,g8,g9⟩ us=>?_
 have hs:∀ b∈frs X.stack,∀ o,s.heap.get? b=some o->∃ sl,h'.get? b=some { o with slots:=sl }:=fun b hb o q=>by obtain⟨_,o',h1,h2⟩:=ff.mem hb;rw[q]at h1;cases h1;exact us b o q h2
 have hk:∀ b o,s.heap.get? b=some o->b≠e->b≠T->b∉frs X.stack->h'.get? b=some o:=fun b o q n1 n2 n3=>k1 b o (myes q n1 n2 n3)
 obtain⟨u1,u2⟩:=xq I hex hst hfr he f5 He HT hk hs
 have nT:X.s₀.heap.get? T'=none/\H T'=none:=by
  by_cases z1:T'=T
  ·rw[z1];exact⟨f5,HT⟩
  ·by_cases z2:T'∈frs X.stack
   ·exfalso;obtain⟨_,o',h1,h2⟩:=ff.mem z2;obtain⟨sl,h3⟩:=hs T' z2 o' h1;rw[g7]at h3;cases h3;exact h2 ts' g8
   ·have:s.heap.get? T'=none:=by
     cases q:s.heap.get? T' with
     |none=>rfl
     |some o=>rw[myes q g6 z1 z2]at g5;cases g5
    exact⟨M7 I hex this,FN I this⟩
 exact hQ _ I.os I.bare u1 u2 ⟨he,He,a0,oe',vs',T',oT',ts',g1,g2,g3,g4,nT.1,g6,g7,g8,g9,nT.2⟩
def dh (I:Inv X Z9 U H s)(hex:X.ex=[])(hst:X.stack=X.env::X.outer)(hfr:X.env.frame=some X.env.locals){e C:Addr}{args:List Value}{h1:Heap}{E:Value->Shared->Prop}{Q:Unit->Shared->Prop}(hx:s.heap.MadeExcOf h1 e (.ref C) args)
  (hQ:∀ s':Shared,s'.os=X.s₀.os->AllBare s'.gens->Un X.fs [] X.H₀ H X.s₀.heap s'.heap->ZF X.prog X.w H s'.heap->Rk X.s₀.heap s'.heap e (.ref C) H->Q () s'):wpAny (model X.prog X.w) X.A (leaving X.env (.ref e)) Q E { s with heap:=h1 }:=by
 have ff:s.heap.FunFrames X.base X.stack:=I.stack;obtain⟨p,hp⟩:∃ p:Addr->Bool,∀ b,p b=true↔b∉frs X.stack:=⟨fun b=>decide (b∉frs X.stack),fun b=>decide_eq_true_iff⟩
 have mno:∀ {b:Addr},b∈frs X.stack->(XM s.heap p).get? b=none:=fun {b} n=>by rw[Rr,if_neg (fun z=>(hp b).mp z n)]
 have myes:∀ {b:Addr} {o:Obj},s.heap.get? b=some o->b∉frs X.stack->(XM s.heap p).get? b=some o:=fun {b o} q n3=>by rw[Rr,if_pos ((hp b).mpr n3)];exact q
 have fb:s.heap.FunFrames (XM s.heap p) X.stack:=Ib ff fun L hL=>mno hL
 have fr:=I.ok.frames;rw[hst]at fr;rw[hst]at fb;refine wpAny_leaves_madeW (base:=XM s.heap p) (h:=s.heap) fr hfr (Bj _ _) fb hx fun h' t ⟨k1,k2,k3,oe',vs',T',oT',ts',g1,g2,g3,g4,g5,g6,g7,g8,g9⟩ _ _ us=>?_
 have us':s.heap.UpToSlots h':=fun b o q n=>us b o (hx.keeps b o q) n
 have hs:∀ b∈frs X.stack,∀ o,s.heap.get? b=some o->∃ sl,h'.get? b=some { o with slots:=sl }:=fun b hb o q=>by obtain⟨_,o',h1,h2⟩:=ff.mem hb;rw[q]at h1;cases h1;exact us' b o q h2
 have hk:∀ b o,s.heap.get? b=some o->b≠e->b≠e->b∉frs X.stack->h'.get? b=some o:=fun b o q _ _ n3=>k1 b o (myes q n3)
 have he:=M7 I hex hx.new;have He:=FN I hx.new;obtain⟨u1,u2⟩:=xq I hex hst hfr he he He He hk hs
 have nT:X.s₀.heap.get? T'=none/\H T'=none:=by
  by_cases z2:T'∈frs X.stack
  ·exfalso;obtain⟨_,o',h1,h2⟩:=ff.mem z2;obtain⟨sl,h3⟩:=hs T' z2 o' h1;rw[g7]at h3;cases h3;exact h2 ts' g8
  ·have:s.heap.get? T'=none:=by
    cases q:s.heap.get? T' with
    |none=>rfl
    |some o=>rw[myes q z2]at g5;cases g5
   exact⟨M7 I hex this,FN I this⟩
 exact hQ _ I.os I.bare u1 u2 ⟨he,He,_,oe',vs',T',oT',ts',g1,g2,g3,g4,nT.1,g6,g7,g8,g9,nT.2⟩
end
def Uj (K:PySem.W.Frag)(f:Y6):Sp:=fun vs H Q E=>∃ aD S ds Q0 X0,@zp ⟨aD,H⟩ K aD H S/\zj K aD H ds vs/\f ds S Q0 X0/\@KK ⟨aD,H⟩ K aD H Q0 Q /\
 ∀ (c:Str) (C:Addr) (S':Z7) (aD':List Addr) (H':Hp),X0 c S'->@zp ⟨aD,H⟩ K aD' H' S'->PySem.W.nsIn K mainGlobals c=some (some (.ref C))->E (.ref C) none H'
structure mQ (P:Program)(w:World)(K:PySem.W.Frag)(mg:Str->Option Value)(base:Heap)(k:Nat)(x:Str)(ps:List Str)(sp:Sp):Prop where
 ex:∃ f fd,YJ P w K mg base (Vv P w) k f fd ps sp/\Binds K fd ps []/\PySem.W.keepIn K (.ref f)=true/\mg x=some (.ref f)
def QW [B:Bs](X:Cx)(ex:XR):Prop:=∀ (Z9:List (Addr×Obj)) (U:L2.St) (H:Hp) (s s':Shared) (aD aD':List Addr) (Z:Z1) (S S':Z7) (c:Str) (C a:Addr) (H':Hp),Inv X Z9 U H s->zp X.K aD H S->zX X.K aD H Z U->ex Z c S'->zp X.K aD' H' S'->Wd aD H aD' H' ->
 PySem.W.nsIn X.K mainGlobals c=some (some (.ref C))->s'.os=s.os->AllBare s'.gens->Un (frs X.stack) [] H H' s.heap s'.heap->ZF X.prog X.w H' s'.heap->Rk s.heap s'.heap a (.ref C) H'->X.xe (.ref a) s'
def Ed [B:Bs](X:Cx)(ex:XR):Prop:=∀ (Z9:List (Addr×Obj)) (U:L2.St) (H:Hp) (s:Shared) (aD:List Addr) (Z:Z1) (S:Z7) (c:Str) (C e:Addr) (args:List Value) (h1:Heap),Inv X Z9 U H s->zp X.K aD H S->zX X.K aD H Z U->ex Z c S ->
 PySem.W.nsIn X.K mainGlobals c=some (some (.ref C))->s.heap.MadeExcOf h1 e (.ref C) args->X.xe (.ref e) { s with heap:=h1 }
section
variable [B:Bs]{X:Cx}
def cj {k:Nat}{f:Y6}{p pos:Pos}{e:Expr}{es:List Expr}{t:DA}(G:mQ X.prog X.w X.K X.mg X.base k x ps (Uj X.K f))(hX:QW X ex)(hr:zQ j X.A)(ha:PAD X (e::es) t)(hk:autoParam (k<=j) zO)(hg:autoParam (Gl X x) zy)(hdb:autoParam ((x==("__debug__":Str))=false) zO)(he:autoParam (starEach (e::es) X.env=(false,eval e X.env)::starEach es X.env) Q5)(hpl:autoParam ((backTo pos (starEach es X.env)).any (·.1)=false) QB) :
  PD X (.Call (.Name x p) (e::es) [] pos) (zV f ex t):=by
 with_unfolding_all
  intro Z9 s U H Q I h;obtain⟨aD,Z,S,Q0,st,rh,q,kk⟩:=h;obtain⟨fa,fd,F,b,kp,m⟩:=G.ex;have F:=F.mono hk;refine wpAny_Call_Name_kw (Tn I hg m ?_ hdb);have hA:=ha pos Z9 s U H (fun vs H1=>∃ ds S1 ad1,f ds S1 Q0 (ex Z)/\Wd aD H ad1 H1/\zp X.K ad1 H1 S1/\zj X.K ad1 H1 ds vs) I ⟨aD,Z,S,_,st,rh,q,fun ds S1 vs H1 ad1 q1 w1 st1 r1=>⟨ds,S1,ad1,q1,w1,st1,r1⟩⟩;refine PySem.W.callWith_K (h₀:=X.base) I.ok.mod.kin kp (Z2 hA fun us s1 ⟨vs,H1,I1,r,q1⟩=>⟨I1.kIn,?_⟩) he hpl;obtain⟨ds,S1,ad1,q1,w1,st1,r1⟩:=q1
  have hsp:Uj X.K f vs H1 Q (fun cls _ H'=>∃ c C S' aD',cls=Value.ref C/\ex Z c S'/\zp X.K aD' H' S'/\Wd ad1 H1 aD' H'/\PySem.W.nsIn X.K mainGlobals c=some (some (.ref C))) :=⟨ad1,S1,ds,Q0,ex Z,st1.base,r1,q1,(kk.wd w1).base st1,fun c C S' aD' H' hx st' hn=>⟨c,C,S',aD',rfl,hx,st1.back st',@zp.wd ⟨ad1,H1⟩ _ _ _ _ st',hn⟩⟩
  have hl:us.length=ps.length:=by rw[<- r.length];exact F.len _ _ _ _ hsp
  refine wpAny_call (codeAny_mono (F.run X.A X.stack s1 H1 ⟨us,[]⟩ us vs Q _ hr I1.env0 (by have:=b s1 us I1.kIn (by rw[qS];exact hl);rwa[qS]at this) r hsp) fun res s' hq=>?_);cases res with
  |error e =>obtain⟨a,C,H',rfl,os,bare,un,hok,fly,c,C',S',aD',hC,hx,st',wd',hn⟩:=hq;cases hC;exact hX Z9 U H1 s1 s' ad1 aD' Z S1 S' c C a H' I1 st1 (rh.wd w1) hx st' wd' hn os bare un hok fly
  |ok fl =>
   cases fl with
   |ret u=>exact I1.after hq
   |next=>exact False.elim hq
   |brk=>exact False.elim hq
   |cont=>exact False.elim hq
def Jc:QW X xF:=fun _ _ _ _ _ _ _ _ _ _ _ _ _ _ _ _ _ h=>h.elim
structure Ld (K:PySem.W.Frag)(C:Addr):Prop where
 ex:∃ nm q N bs bm hdct sn sub ab col dd k0 k1 k2 k3 k5,K.lookup C=some (excClassObj nm q C N bs bm hdct sn sub ab col dd k0 k1 k2 k3 k5 "ValueError.__new__")/\PySem.W.nsOkIn K N=true/\PySem.W.nsIn K N "__init__"=some none /\
  PySem.W.tailIn K [.type "ValueError",.type "Exception",.type "BaseException",.type "object"] bm=true
def fW {x:Str}{np cpos pos:Pos}{e:Expr}{t:DA}(hX:Ed X ex)(hc:X.calm=true)(hC:∀ C,PySem.W.nsIn X.K mainGlobals x=some (some (.ref C))->Ld X.K C)(hx:∃ C,PySem.W.nsIn X.K mainGlobals x=some (some (.ref C))/\X.mg x=some (.ref C))(hg:Gl X x)(ha:PAD X [e] t)(ht:∀ Z S Q,(∀ d,Q [d] S)->t Z S Q)(hdb:autoParam ((x==("__debug__":Str))=false) zO)(he:autoParam (starEach [e] X.env=(false,eval e X.env)::starEach [] X.env) zy) :
  Zv X (.Raise (some (.Call (.Name x np) [e] [] cpos)) none pos) (Uy ex x):=by
 with_unfolding_all
  intro Z9 s U H D I h;obtain⟨aD,Z,S,E0,st,rh,q,k⟩:=h;obtain⟨C,hn,hm⟩:=hx;obtain⟨nm,qn,N,bs,bm,hdct,sn,sub,ab,col,dd,k0,k1,k2,k3,k5,lk,no,ni,tl⟩:=(hC C hn).ex;have kin:=I.kIn;have T:=PySem.W.tail_of_in kin tl;have hv:=ha cpos Z9 s U H (fun vs H1=>vs.length=1/\∃ ad1,Wd aD H ad1 H1/\zp X.K ad1 H1 S) I ⟨aD,Z,S,fun ds S'=>ds.length=1/\S'=S,st,rh,ht _ _ _ (fun d=>⟨rfl,rfl⟩),fun ds S' vs H' aD' e' w' st' r'=>⟨by rw[<- r'.length];exact e'.1,aD',w',e'.2▸st'⟩⟩;refine wpAny_Raise_call_subT (C:=C) (nm:=nm) (q:=qn) (N:=N) (bs:=bs) (bm:=bm) (hdct:=hdct) (sn:=sn) (sub:=sub) (ab:=ab) (col:=col) (dd:=dd) (k0:=k0) (k1:=k1) (k2:=k2) (k3:=k3) (k5:=k5) PySem.F.excBase_ValueError (T.hasType PySem.F.excBase_ValueError.hasBase) (I.ok.hd hc) (by rw[he];rfl) (PySem.W.nsMap_none_of_in I.ok.mod.kin no ni) (Tn I hg hm ⟨rfl,?_⟩ hdb);rw[he]at hv ⊢;refine Calls.evalArgs_plain (wpAny_mono hv (fun us s1 hq=>?_) fun _ _ y=>y);obtain⟨vs,H1,I1,r,hl,ad1,w1,st1⟩:=hq;have k1':=I1.kIn;have hlen:us.length<=sizeLine:=by rw[<- r.length,hl];decide
  exact⟨rfl,hlen,k1' _ _ lk,(Heap.Ns.of_isNs (PySem.W.isNs_of_in I.ok.mod.kin no)).keeps I1.bk,PySem.W.tail_of_in k1' tl,fun h' e' hx=>hX Z9 U H1 s1 ad1 Z S x C e' us h' I1 st1 (rh.wd w1) q hn hx⟩
abbrev R6 (X:Cx):Cx:={ X with xe:=fun _ _=>False }
omit B in
def wF (I:Inv X Z9 U H s):Inv (R6 X) Z9 U H s :=⟨⟨I.ok.mod,I.ok.kind,I.ok.glob,I.ok.blt,I.ok.above,I.ok.inj,I.ok.has,I.ok.cab,I.ok.hd,I.ok.frames,I.ok.stk,I.ok.exf,I.ok.bs,I.ok.bsz,I.ok.noex,I.ok.exfs,I.ok.funs,I.ok.frf⟩,I.os,I.bare,I.base,I.loc,I.cell,I.free,I.freeC,I.pin,I.hok,I.len⟩
omit B in
def Nq (I:Inv (R6 X) Z9 U H s):Inv X Z9 U H s :=⟨⟨I.ok.mod,I.ok.kind,I.ok.glob,I.ok.blt,I.ok.above,I.ok.inj,I.ok.has,I.ok.cab,I.ok.hd,I.ok.frames,I.ok.stk,I.ok.exf,I.ok.bs,I.ok.bsz,I.ok.noex,I.ok.exfs,I.ok.funs,I.ok.frf⟩,I.os,I.bare,I.base,I.loc,I.cell,I.free,I.freeC,I.pin,I.hok,I.len⟩
def nZ {e:Expr}{t:DE}(h:PD (R6 X) e t):PD X e t:=by with_unfolding_all exact(fun Z9 s U H Q I q =>wpAny_mono (h Z9 s U H Q (wF I) q) (by rintro v s1 ⟨x,H1,I1,r⟩;exact⟨x,H1,Nq I1,r⟩) fun _ _ z=>z.elim)
def zpg {st:Stmt}{t:DS}(h:Zv (R6 X) st t):Zv X st t:=by with_unfolding_all exact(fun Z9 s U H D I q =>
 wpAny_mono (h Z9 s U H D (wF I) q) (fun f s1 hf=>by
  cases f with
  |next=>obtain⟨σ',H',I',q'⟩:=hf;exact⟨σ',H',Nq I',q'⟩
  |brk=>obtain⟨σ',H',I',q'⟩:=hf;exact⟨σ',H',Nq I',q'⟩
  |cont=>obtain⟨σ',H',I',q'⟩:=hf;exact⟨σ',H',Nq I',q'⟩
  |ret u=>obtain⟨v,σ',H',I',r,q'⟩:=hf;exact⟨v,σ',H',Nq I',r,q'⟩) fun _ _ z=>z.elim)
structure Bb (P:Program)(w:World)(K:PySem.W.Frag)(mg:Str->Option Value)(base:Heap)(k:Nat)(x c:Str)(init:Y6):Prop where
 ex:∃ (C f:Addr) (fd:FuncData) (ps:List Str),Mk K C f/\YJ P w K mg base (Vv P w) k f fd ps (Uj K init)/\Binds K fd ps []/\mg x=some (.ref C)/\Cls K C/\PySem.W.nsIn K mainGlobals c=some (some (.ref C))
def zqn {k:Nat}{p pos:Pos}{e:Expr}{es:List Expr}{t:DA}(G:Bb X.prog X.w X.K X.mg X.base k x c init)(hX:QW X ex)(hr:zQ j X.A)(ha:PAD X (e::es) t)(hk:autoParam (k+1<=j) zO)(hg:autoParam (Gl X x) zy)(hdb:autoParam ((x==("__debug__":Str))=false) zO)(he:autoParam (starEach (e::es) X.env=(false,eval e X.env)::starEach es X.env) Q5)(hpl:autoParam ((backTo pos (starEach es X.env)).any (·.1)=false) QB) :
  PD X (.Call (.Name x p) (e::es) [] pos) (zV (Dj c init) ex t):=by
 with_unfolding_all
  intro Z9 s U H Q I h;obtain⟨aD,Z,S,Q0,st,rh,q,kk⟩:=h;obtain⟨C,fa,fd,ps,M,F,b,m,hcl,hcn⟩:=G.ex;have hr':=hr.mono hk;refine wpAny_Call_Name_kw (Tn I hg m ?_ hdb);have hA:=ha pos Z9 s U H (fun vs H1=>∃ ds S1 ad1,Dj c init ds S1 Q0 (ex Z)/\Wd aD H ad1 H1/\zp X.K ad1 H1 S1/\zj X.K ad1 H1 ds vs) I ⟨aD,Z,S,_,st,rh,q,fun ds S1 vs H1 ad1 q1 w1 st1 r1=>⟨ds,S1,ad1,q1,w1,st1,r1⟩⟩;refine PySem.W.callWith_K (h₀:=X.base) I.ok.mod.kin M.kp (Z2 hA fun us s1 ⟨vs,H1,I1,r,q1⟩=>⟨I1.kIn,?_⟩) he hpl;obtain⟨ds,S1,ad1,q1,w1,st1,r1⟩:=q1;have f1:H1 (s1.heap.objs.size+1)=none:=I1.hok.fresh (Nat.le_succ _);have f2:H1 s1.heap.objs.size=none:=I1.hok.fresh (qh _);have f3:s1.heap.objs.size≠s1.heap.objs.size+1:=qU (M8 _);obtain⟨w2,st2⟩:=st1.newI (c:=c) f1 f2 f3 hcl hcn;have I2:=Inv.made (C:=C) I1;generalize hx0:s1.heap.objs.size+1=x0 at *;generalize hH2:upd (upd H1 s1.heap.objs.size (.own x0)) x0 (.ins C s1.heap.objs.size [])=H2 at *;have rx:Rel X.K (ad1++[x0]) H2 (.ref S1.length) (.ref x0):=.ref (by rw[<- st1.len,qe (qh _),Yj];rfl);have q2:init (.ref S1.length::ds) (S1++[.ins c []]) (fun d S2=>d=.non/\Q0 (.ref S1.length) S2) (ex Z):=q1
  have hsp:Uj X.K init (.ref x0::vs) H2 (fun v H3=>v=.non/\Q (.ref x0) H3) (fun cls _ H'=>∃ c C S' aD',cls=Value.ref C/\ex Z c S'/\zp X.K aD' H' S'/\Wd (ad1++[x0]) H2 aD' H'/\PySem.W.nsIn X.K mainGlobals c=some (some (.ref C))) :=
   ⟨ad1++[x0],S1++[.ins c []],.ref S1.length::ds,_,ex Z,st2.base,.cons rx (r1.wd w2),q2,fun d S' v H' aD' hq w' st' rv=>by obtain⟨rfl,hq⟩:=hq;cases rv;exact⟨rfl,kk _ S' _ H' aD' hq ((w1.trans w2).trans w') (st2.back st') (rx.wd w')⟩,fun c C S' aD' H' hx st' hn=>⟨c,C,S',aD',rfl,hx,st2.back st',@zp.wd ⟨ad1++[x0],H2⟩ _ _ _ _ st',hn⟩⟩
  have r2:Vals (V.ref x0::vs) (Value.ref x0::us):=.cons rfl r;have hl:(Value.ref x0::us).length=ps.length:=by rw[<- r2.length];exact F.len _ _ _ _ hsp
  have hb:=b _ (Value.ref x0::us) I2.kIn (by rw[qS];exact hl);rw[qS]at hb;subst hx0
  refine wpAny_call (xG (f:=fa) I1.kIn M.makes M.init (beq_iff_eq.mp M.fn) (codeAny_mono (F.run _ X.stack _ H2 ⟨Value.ref (s1.heap.objs.size+1)::us,[]⟩ (Value.ref (s1.heap.objs.size+1)::us) _ _ _ (hr'.make C us [])
   (I2.env0.make C us []) hb r2 hsp) fun res s' hq=>?_))
  cases res with
  |error e =>obtain⟨a,C',H',rfl,os,bare,un,hok,fly,c',C'',S',aD',hC,hx,st',wd',hn⟩:=hq;cases hC;exact hX Z9 U H2 _ s' (ad1++[s1.heap.objs.size+1]) aD' Z (S1++[.ins c []]) S' c' C' a H' I2 st2 ((rh.wd w1).wd w2) hx st' wd' hn os bare un hok fly
  |ok fl =>
   cases fl with
   |ret u =>obtain⟨v,H',I3,rv,ev,q3⟩:=I2.after hq;subst ev;exact⟨rv,⟨V.ref (s1.heap.objs.size+1),H',I3,rfl,q3⟩⟩
   |next=>exact False.elim hq
   |brk=>exact False.elim hq
   |cont=>exact False.elim hq
omit B in
def j8 {P:Program}{w:World}{K:PySem.W.Frag}{mg:Str->Option Value}{base:Heap}{st:Stmt}{k:Nat}{sp:Y6}(F:Xa K x qual st f fd)(S:Ph N ps (zJ st))(len:∀ ds So Q ex,sp ds So Q ex->ds.length=ps.length)(body:XQ N.length b sp)(term:∀ (cdv:Value) (A:Around) (outer:List Env) (s:Shared) (H:Hp) (E:XK),zQ k (A.deeper (envOfC qual (zJ st) s.heap.objs.size f cdv))->∀ [Bs] (ex:XR),QW (Vk (Vv P w) P w K mg base N qual (zJ st) f cdv A outer s H E) ex->Ed (Vk (Vv P w) P w K mg base N qual (zJ st) f cdv A outer s H E) ex->Xj (Vk (Vv P w) P w K mg base N qual (zJ st) f cdv A outer s H E) (X5 st) (b ex)) :
  YJ P w K mg base (Vv P w) (k+1) f fd ps (Uj K sp):=by
 with_unfolding_all
  obtain⟨oc,od,kV,doc,pm,an,cdv,ct,osl,rfl,lk,hcd⟩:=F.ex;refine xM lk hcd S (by rintro vs H Q E ⟨aD,So,ds,Q0,X0,so,r,hf,kk,kx⟩;exact by rw[<- r.length];exact len ds So Q0 X0 hf) fun A outer s H vs Q E hr ⟨aD,So,ds,Q0,X0,so,r,hf,kk,kx⟩=>?_
  letI:Bs:=⟨aD,H⟩
  have end1:∀ (c:Str) (C a:Addr) (S':Z7) (aD':List Addr) (H':Hp) (s':Shared),X0 c S'->zp K aD' H' S'->PySem.W.nsIn K mainGlobals c=some (some (.ref C))->s'.os=s.os->AllBare s'.gens->Un (frs outer) [] H H' s.heap s'.heap->ZF P w H' s'.heap->Rk s.heap s'.heap a (.ref C) H'->Vv P w outer H s E (.ref a) s' :=fun c C a S' aD' H' s' hx st' hn o1 o2 o3 o4 o5=>⟨a,C,H',rfl,o1,o2,o3,o4,o5,kx c C S' aD' H' hx st' hn⟩
  refine⟨_,term cdv A outer s H E hr (fun _=>X0) ?_ ?_,aD,SQ N.length ds,So,_,so,Aq N r,body ds So Q0 X0 hf,⟨fun Z S' U H' aD' q w' st' rh=>HX so kk .non S' .non H' aD' q w' st' .non,HX so kk,fun _ _ _ _ _ q=>q.elim,fun _ _ _ _ _ q=>q.elim⟩⟩
  ·intro Z9 U H1 s1 s' ad1 aD' Z S1 S' c C a H' I st1 rh hx st' wd' hn os bare un hok fly;have I':=I.call' (ch:=[]) os un hok bare (fun b z=>absurd z (by simp))
   have f0:Rk s.heap s'.heap a (.ref C) H':=by obtain⟨g1,g2,a0,oe,vs,T,oT,ts,h1,h2,h3,h4,h5,h6⟩:=fly;exact⟨M7 I rfl g1,g2,a0,oe,vs,T,oT,ts,h1,h2,h3,h4,M7 I rfl h5,h6⟩
   exact Ē I' rfl rfl rfl f0 fun s'' o1 o2 o3 o4 o5=>end1 c C a S' aD' H' s'' hx st' hn o1 o2 o3 o4 o5
  ·intro Z9 U H1 s1 ad1 Z S1 c C e args h1 I st1 rh hx hn hmade;exact dh I rfl rfl rfl hmade fun s'' o1 o2 o3 o4 o5=>end1 c C e S1 ad1 H1 s'' hx st1 hn o1 o2 o3 o4 o5
end
abbrev hand (X:Cx)(e:Addr):Cx:={ X with A:=X.A.mark (some (.ref e)),calm:=false,xe:=fun _ _=>False }
section
variable {X:Cx}{Z9:List (Addr×Obj)}{U:L2.St}{H H':Hp}{s s':Shared}
def xJ (I:L2.Inv X Z9 U H s)(e:Addr):L2.Inv (hand X e) Z9 U H s :=⟨⟨I.ok.mod,I.ok.kind,I.ok.glob,I.ok.blt,I.ok.above,I.ok.inj,I.ok.has,I.ok.cab,(fun z=>nomatch z),I.ok.frames,I.ok.stk,I.ok.exf,I.ok.bs,I.ok.bsz,I.ok.noex,I.ok.exfs,I.ok.funs,I.ok.frf⟩,I.os,I.bare,I.base,I.loc,I.cell,I.free,I.freeC,I.pin,I.hok,I.len⟩
def wO {e:Addr}(hd:X.calm=true->X.A.handled=none)(I:L2.Inv (hand X e) Z9 U H s):L2.Inv X Z9 U H s :=⟨⟨I.ok.mod,I.ok.kind,I.ok.glob,I.ok.blt,I.ok.above,I.ok.inj,I.ok.has,I.ok.cab,hd,I.ok.frames,I.ok.stk,I.ok.exf,I.ok.bs,I.ok.bsz,I.ok.noex,I.ok.exfs,I.ok.funs,I.ok.frf⟩,I.os,I.bare,I.base,I.loc,I.cell,I.free,I.freeC,I.pin,I.hok,I.len⟩
def vm (I:L2.Inv X Z9 U H s)(un:Un (frs X.stack) [] H H' s.heap s'.heap)(hok:ZF X.prog X.w H' s'.heap){e T:Addr}{h2:Heap}{oe:Obj}(he:s.heap.get? e=none)(hT:s.heap.get? T=none)(He:H' e=none)(HT:H' T=none)
  (stkF:∀ b∈frs X.stack,H' b=none)
  (hk:∀ b o,s'.heap.get? b=some o->b≠e->b≠T->b∉frs X.stack->h2.get? b=some o) (hs:∀ b∈frs X.stack,∀ o,s'.heap.get? b=some o->∃ sl,h2.get? b=some { o with slots:=sl }) (hoe:h2.get? e=some oe) :
  Un (frs X.stack) [] H (upd H' e (.frz oe (.ext fun _=>True))) s.heap h2/\ZF X.prog X.w (upd H' e (.frz oe (.ext fun _=>True))) h2:=by
 have ne:∀ {b:Addr} {o:Obj},s.heap.get? b=some o->b≠e/\b≠T:=fun {b o} q=>⟨fun z=>(by rw[z,he]at q;cases q),fun z=>(by rw[z,hT]at q;cases q)⟩
 have ne':∀ {b:Addr} {u:HO},H' b=some u->b≠e:=fun {b u} q z=>by rw[z,He]at q;cases q
 refine⟨⟨fun b o q n m x=>?_,fun b o q n m x=>?_,fun b o q n x=>?_,fun b o q x=>?_,fun b xs q=>?_,fun b o u q=>?_,fun b ps q=>?_⟩,fun a o q=>?_⟩
 ·exact hk b o (un.keep b o q n m x) (ne q).1 (ne q).2 m
 ·obtain⟨sl,h1⟩:=un.slot b o q n m x;obtain⟨sl',h3⟩:=hs b m _ h1;exact⟨sl',h3⟩
 ·rw[zu (ne q).1];exact un.free b o q n x
 ·obtain⟨o',h1⟩:=un.there b o q x;by_cases m:b∈frs X.stack
  ·obtain⟨sl,h3⟩:=hs b m o' h1;exact⟨_,h3⟩
  ·exact⟨o',hk b o' h1 (ne q).1 (ne q).2 m⟩
 ·have:=un.tups b xs q;rw[zu (ne' this)];exact this
 ·have:=un.frzs b o u q;rw[zu (ne' this)];exact this
 ·obtain⟨more,h1⟩:=un.tbls b ps q;exact⟨more,by rw[zu (ne' h1)];exact h1⟩
 ·by_cases ha:a=e
  ·subst ha;rw[zK]at q;cases q;exact⟨hoe,True.intro,⟨oe,hoe⟩,fun _ _ _ _=>True.intro⟩
  ·rw[zu ha]at q;refine(hok a o q).stay (fun b u hb r=>?_) (fun b r=>by rw[zu (ne' r)];exact r) fun b xs r=>by rw[zu (ne' r)];exact r
   have n:H' b≠none:=by
    rcases hb with rfl|hb
    ·rw[q];exact JK _
    ·rw[hb];exact JK _
   exact hk b u r (fun z=>n (by rw[z];exact He)) (fun z=>n (by rw[z];exact HT)) (fun z=>n (stkF b z))
def name_goes {M:Model}{A:Around}{E:Value->Shared->Prop}{i:Nat}{x:Str}{pos:Pos}{Q:Unit->Shared->Prop}(I:L2.Inv X Z9 U H s)(hN:X.N.Nodup)(hi:X.N[i]?=some x)(hx:X.env.scope.names.lookup x=some .local)
    (h:∀ s',L2.Inv X Z9 (U.set i none) H s'->Q () s'):wpAny M A (do bindName X.env x .none;unbindBehindTheSuite X.env x pos) Q E s:=by
  obtain⟨m,hn,hl⟩:=id I.loc;have lo:∀ {b:Addr} {o:Obj},X.s₀.heap.get? b=some o->b≠X.env.locals:=fun {b o} e=>qU (qF (qv e) I.ok.above)
  refine wpAny_nameGoes_keeps hx hn (by rw[I.ok.kind];rfl) fun h' v hn' hs=>h _ ⟨I.ok,I.os,I.bare,⟨fun b o e n hb hx=>(hs.2 b (lo e)).trans (I.base.keep b o e n hb hx),fun b o e n hb hx=>?_,I.base.free,fun b o e hx=>?_,I.base.tups,I.base.frzs,I.base.tbls⟩,⟨_,hn',fun j y w e1 e2 e3=>?_⟩,fun y c e=>?_,I.free,I.freeC,fun p hp=>?_,fun a o e=>?_,?_⟩
  . obtain⟨sl,e1⟩:=I.base.slot b o e n hb hx;exact⟨sl,(hs.2 b (lo e)).trans e1⟩
  . obtain⟨o',e1⟩:=I.base.there b o e hx;exact⟨o',(hs.2 b (lo e)).trans e1⟩
  . have hj : j ≠ i := fun z => by
      subst z;rw[List.getElem?_set]at e2;split at e2
      . split at e2<;>cases e2
      . exact absurd rfl ‹_›
    rw[qN (Ne.symm hj)]at e2;obtain⟨u',r',q⟩:=hl j y w e1 e2 e3;refine⟨u',r',?_⟩;rcases q with⟨k,e⟩|⟨k,c,e,z⟩
    . refine .inl ⟨k,?_⟩;have:y≠x:=fun e=>hj (Gn hN e1 (e▸hi))
      simp[this,e]
    . exact .inr ⟨k,c,e,z.sameBut hs (I.cne y c e)⟩
  . obtain⟨w,z⟩:=I.cell y c e;exact⟨w,z.sameBut hs (I.cne y c e)⟩
  . obtain⟨e,n,ne,nf,d⟩:=I.pin p hp;exact⟨(hs.2 p.1 ne).trans e,n,ne,nf,d⟩
  . refine(I.hok a o e).stay (fun c w hc q=>(hs.2 c ?_).trans q) (fun _ q=>q) fun _ _ q=>q
    rintro rfl;rcases hc with rfl|hc
    . rw[I.free]at e;cases e
    . rw[I.free]at hc;cases hc
  . rw[XF];exact I.len
variable [B:Bs]
def zX.unset {K:PySem.W.Frag}(h:zX K aD H Z U)(i:Nat):zX K aD H (Z.set i none) (U.set i none):=by
  refine⟨by rw[XF,XF];exact h.len,fun j d e=>?_⟩;rw[List.getElem?_set]at e;split at e
  . split at e<;>cases e
  . rename_i hj;obtain⟨v,ev,r⟩:=h.val j d e;exact⟨v,by rw[qN hj];exact ev,r⟩
abbrev Pr (X:Cx)(xe:Value->Shared->Prop)(pn:List (Addr×Obj)):Cx:={ X with xe:=xe,pn:=pn }
omit B in
def zqc (I:L2.Inv X Z9 U H s)(xe:Value->Shared->Prop):L2.Inv (Pr X xe (X.pn++Z9)) [] U H s :=⟨⟨I.ok.mod,I.ok.kind,I.ok.glob,I.ok.blt,I.ok.above,I.ok.inj,I.ok.has,I.ok.cab,I.ok.hd,I.ok.frames,I.ok.stk,I.ok.exf,I.ok.bs,I.ok.bsz,I.ok.noex,I.ok.exfs,I.ok.funs,I.ok.frf⟩,I.os,I.bare,I.base,I.loc,I.cell,I.free,I.freeC,fun p hp=>I.pin p (by rwa[qS]at hp),I.hok,I.len⟩
omit B in
def Nb {xe:Value->Shared->Prop}{pins':List (Addr×Obj)}(I:L2.Inv (Pr X xe (X.pn++Z9)) pins' U H s):L2.Inv X Z9 U H s :=⟨⟨I.ok.mod,I.ok.kind,I.ok.glob,I.ok.blt,I.ok.above,I.ok.inj,I.ok.has,I.ok.cab,I.ok.hd,I.ok.frames,I.ok.stk,I.ok.exf,I.ok.bs,I.ok.bsz,I.ok.noex,I.ok.exfs,I.ok.funs,I.ok.frf⟩,I.os,I.bare,I.base,I.loc,I.cell,I.free,I.freeC,fun p hp=>I.pin p (qT _ hp),I.hok,I.len⟩
theorem R4.base {K:PySem.W.Frag}{E0:OJ}(st:zp K aD H S)(k:R4 K aD H E0 E):@R4 ⟨aD,H⟩ K aD H E0 E :=@R4.mk ⟨aD,H⟩ _ _ _ _ _ (fun Z S U H' aD' q w st' r=>k.nx Z S U H' aD' q w (st.back st') r) (k.rt.base st) (fun Z S U H' aD' q w st' r=>k.bk Z S U H' aD' q w (st.back st') r) (fun Z S U H' aD' q w st' r=>k.ct Z S U H' aD' q w (st.back st') r)
def zrY {i:Nat}{x:Str}{ok:List Str}{b:XR->DS}{h:DS}{body:List Stmt}{b0:Stmt}{suite:List Stmt}{np hpos pos:Pos}(hst:X.stack=X.env::X.outer)(hfr:X.env.frame=some X.env.locals)(hN:X.N.Nodup)(hi:X.N[i]?=some x)(hx:X.env.scope.names.lookup x=some .local)(hg:Gl X cls)(hcls:∃ Cc,X.mg cls=some (.ref Cc)/\∀ c C,ok.contains c=true->PySem.W.nsIn X.K mainGlobals c=some (some (.ref C))->PySem.W.exmOne X.K (.ref C) (.ref Cc)=some true)(hb:∀ [Bs] (xe:Value->Shared->Prop) (pn:List (Addr×Obj)) (ex:XR),QW (Pr X xe pn) ex->Xj (Pr X xe pn) body (b ex))(hh:∀ e,Xj (hand X e) (b0::suite) h)(hdb:autoParam ((cls==("__debug__":Str))=false) zO) :
  Zv X (.Try body [.ExceptHandler (some (.Name cls np)) (some x) (b0::suite) hpos] [] [] pos) (Jd i ok b h):=by
 with_unfolding_all
  intro Z9 s U H D I hq;obtain⟨aD,Z,S,E0,st,rh,q,k⟩:=hq;obtain⟨Cc,hm,hexm⟩:=hcls;refine wpAny_Try_except ?_
  have hbody:=@hb ⟨aD,H⟩ (fun e s₁=>wpAny (model X.prog X.w) X.A (noteFrame e X.env) (fun _ s₂=>wpAny (model X.prog X.w) X.A (setFlight e none) (fun _ s₃=>wpAny (model X.prog X.w) X.A (handleBy e X.env [.ExceptHandler (some (.Name cls np)) (some x) (b0::suite) hpos]) (SP X Z9 D) X.xe s₃) X.xe s₂) X.xe s₁) (X.pn++Z9)
   (fun ρ' c S'=>ok.contains c=true/\h { nx:=fun ρ2 S2=>E0.nx (ρ2.set i none) S2,rt:=E0.rt,bk:=fun _ _=>False,ct:=fun _ _=>False } (ρ'.set i (some (.exn c))) S') ?hX
  ·refine wpAny_mono (hbody [] s U H D (zqc I _) ⟨aD,Z,S,E0,st.base,rh,q,k.base st⟩) (fun f s₁ hf=>?_) fun _ _ z=>z
   cases f with
   |next=>obtain⟨σ',H',I',q'⟩:=hf;exact wpAny_execs_nil ⟨σ',H',Nb I',q'⟩
   |brk=>obtain⟨σ',H',I',q'⟩:=hf;exact⟨σ',H',Nb I',q'⟩
   |cont=>obtain⟨σ',H',I',q'⟩:=hf;exact⟨σ',H',Nb I',q'⟩
   |ret u=>obtain⟨v,σ',H',I',r,q'⟩:=hf;exact⟨v,σ',H',Nb I',r,q'⟩
  intro pins' σ1 H1 s1 s' ad1 aD' ρ1 S1 S' c C a H' I1 st1 rh1 hx' st' wd' hn os bare un hok fly;obtain⟨hok',hh'⟩:=hx';obtain⟨he,He,a0,oe,vs,T,oT,ts,f1,f2,f3,f4,f5,f6,f7,f8,f9,HT⟩:=fly;have I0:L2.Inv X Z9 σ1 H1 s1:=Nb I1;have nil0:∀ b∈([]:List Addr),(b∈X.ex\/X.s₀.heap.objs.size<=b)/\b≠X.env.locals/\(∀ x c,X.env.cells.lookup x=some c->c≠b)/\∀ p∈X.pn++Z9,p.1≠b:=fun b z=>absurd z (by simp)
  have I':=I0.call' (ch:=[]) os un hok bare nil0;have ff:s'.heap.FunFrames X.base X.stack:=I'.stack;obtain⟨p,hp⟩:∃ p:Addr->Bool,∀ b,p b=true↔b≠a/\b≠T/\b∉frs X.stack:=⟨fun b=>decide (b≠a/\b≠T/\b∉frs X.stack),fun b=>decide_eq_true_iff⟩
  have mno:∀ {b:Addr},¬ (b≠a/\b≠T/\b∉frs X.stack)->(XM s'.heap p).get? b=none:=fun {b} n=>by rw[Rr,if_neg (fun z=>n ((hp b).mp z))]
  have myes:∀ {b:Addr} {o:Obj},s'.heap.get? b=some o->b≠a->b≠T->b∉frs X.stack->(XM s'.heap p).get? b=some o:=fun {b o} q n1 n2 n3=>by rw[Rr,if_pos ((hp b).mpr ⟨n1,n2,n3⟩)];exact q
  have fb:s'.heap.FunFrames (XM s'.heap p) X.stack:=Ib ff fun L hL=>mno fun z=>z.2.2 hL
  have fl:Heap.FlyingW (XM s'.heap p) X.stack a (.ref C) a0 s'.heap:=⟨Bj _ _,mno fun z=>z.1 rfl,fb,oe,vs,T,oT,ts,f1,f2,f3,f4,mno fun z=>z.2.1 rfl,f6,f7,f8,f9⟩
  have fr:=I.ok.frames;rw[hst]at fr;rw[hst]at fl;have keep:∀ {h2:Heap},(XM s'.heap p).StaysIn h2->∀ b o,s'.heap.get? b=some o->b≠a->b≠T->b∉frs X.stack->h2.get? b=some o:=fun {h2} k1 b o q n1 n2 n3=>k1 b o (myes q n1 n2 n3)
  have slot:∀ {h2:Heap},s'.heap.UpToSlots h2->∀ b∈frs X.stack,∀ o,s'.heap.get? b=some o->∃ sl,h2.get? b=some { o with slots:=sl }:=fun {h2} us b hb o q=>by obtain⟨_,o',h1,h2⟩:=ff.mem hb;rw[q]at h1;cases h1;exact us b o q h2
  show wpAny (model X.prog X.w) X.A (noteFrame (.ref a) X.env) _ _ s';refine wpAny_looks_onW fr hfr fl fun h1 hheld us1=>?_
  refine wpAny_landsW hheld fun h2 hfl2 us2=>?_
  obtain⟨k1,k2,k3,k4⟩:=id hfl2;obtain⟨oe2,vs2,T2,oT2,ts2,g1,g2,_⟩:=id k4;obtain⟨u2,hok2⟩:=vm I0 un hok he f5 He HT I'.stkFree (keep k1) (slot (us1.trans us2)) g1;have I2:=I0.call' (s':={ s' with heap:=h2 }) (ch:=[]) os u2 hok2 bare nil0;refine wpAny_handleBy_cons (codeAny_handlers_test (Tn (xJ I2 a) hg hm ?_ hdb)) (by intro z;cases z);have LT:PySem.W.Looks (model X.prog X.w) h2 (typeOf (.ref a)) (.ref C):=g2.1▸(PySem.W.Looks.ld g1).andThen .now;refine(PySem.W.exm_one (h:=h2) I2.kIn LT (hexm c C hok' hn)).here ?_;refine codeAny_handlers_suite_as ?_;refine wpAny_setFlight_noneW k1 k3 k4.at fun h3 b1 b2 b3 b4=>?_
  obtain⟨oe3,vs3,T3,oT3,ts3,e1,e2,_⟩:=id b3
  have us3:s'.heap.UpToSlots h3:=fun b o q n=>by obtain⟨sl,z⟩:=us1.trans us2 b o q n;exact⟨sl,b4 b _ z n⟩
  obtain⟨u3,hok3⟩:=vm I0 un hok he f5 He HT I'.stkFree (keep b1) (slot us3) e1;have I3:=I0.call' (s':={ s' with heap:=h3 }) (ch:=[]) os u3 hok3 bare nil0;refine Jb I3 hN hi (.inl hx) (show RelV (.ref a) (.ref a)from rfl) (fun s4 I4=>?_) (.inr hx);have wd0:Wd aD H aD' H':=@zp.wd ⟨aD,H⟩ _ _ _ _ st';have st3:zp X.K aD' (upd H' a (.frz oe3 (.ext fun _=>True))) S':=(st.back st').laid He;have w3:Wd aD' H' aD' (upd H' a (.frz oe3 (.ext fun _=>True))):=Wd.laid He;have rho:zX X.K aD' (upd H' a (.frz oe3 (.ext fun _=>True))) (ρ1.set i (some (.exn c))) (σ1.set i (some (.ref a))):=((rh1.wd wd').wd w3).set (.exn zK e2.1 hn) i;have wAll:=wd0.trans w3;have hs:=hh a Z9 s4 _ _ { nx:=fun σ2 H2=>D.nx (σ2.set i none) H2,rt:=D.rt,bk:=fun _ _=>False,ct:=fun _ _=>False } (xJ I4 a) ⟨aD',_,S',_,st3,rho,hh',⟨fun ρ2 S2 σ2 H2 ad2 q2 w2 st2 rh2=>k.nx (ρ2.set i none) S2 (σ2.set i none) H2 ad2 q2 (wAll.trans w2) st2 (rh2.unset i),k.rt.wd wAll,fun _ _ _ _ _ z=>z.elim,fun _ _ _ _ _ z=>z.elim⟩⟩;refine wpAny_mono hs (fun f s5 hf=>?_) fun _ _ z=>z.elim
  cases f with
  |next=>obtain⟨σ5,H5,I5,q5⟩:=hf;exact name_goes (wO I.ok.hd I5) hN hi hx fun s6 I6=>⟨_,H5,I6,q5⟩
  |brk=>obtain⟨_,_,_,z⟩:=hf;exact z.elim
  |cont=>obtain⟨_,_,_,z⟩:=hf;exact z.elim
  |ret u=>obtain⟨v,σ5,H5,I5,r5,q5⟩:=hf;exact name_goes (wO I.ok.hd I5) hN hi hx fun s6 I6=>⟨v,_,H5,I6,r5,q5⟩
end
structure V9 (K:PySem.W.Frag)(C:Addr):Prop where
 ga:PySem.W.findIn K (.ref C) "__getattribute__"=some (some (.builtin "BaseException.__getattribute__"))
 hk:PySem.W.findIn K (.ref C) "__getattr__"=some none
 cl:PySem.W.findIn K (.ref C) "__class__"=some (some (.builtin "object.__class__"))
 mo:PySem.W.mroIn K C (.type "object")=some true
 mb:PySem.W.mroIn K C (.type "BaseException")=some true
section
open PySem.W PySem.Builtin PySem.Builtin.ObjectAttr PySem.Builtin.Getset_descriptor
variable {prog:Program}{w:World}{A:Around}{E:Value->Shared->Prop}{s:Shared}{K:Frag}{x C:Addr}{o:Obj}
def ŕ {M:Model}(X:K.In h)(I:V9 K C):Looks M h (find (.ref x) (.ref C) "__class__") (.bind (.builtin "getset_descriptor.__get__") (.builtin "object.__class__")):=by have L1:=looks_findIn (M:=M) X I.cl;have L2:=looks_specialIn (M:=M) (v:=.builtin "object.__class__") (name:="__get__") (r:=some (.builtin "getset_descriptor.__get__")) X (by rfl);have L3:=looks_takesIn (M:=M) (a:=.builtin "object.__class__") (r:=true) X (by rfl);have L2':Looks M h (getOf (some (.builtin "object.__class__"))) (some (.builtin "getset_descriptor.__get__")):=L2;have L3':Looks M h (dataDescriptor? (some (.builtin "object.__class__")) (some (.builtin "getset_descriptor.__get__"))) (some (.builtin "getset_descriptor.__get__",.builtin "object.__class__")):=L3.andThen .now;exact L1.andThen (L2'.andThen (L3'.andThen (Looks.tag .now)))
def ÿ {tp:Value}{R:Result->Shared->Prop}(X:K.In s.heap)(I:V9 K C)(hx:s.heap.get? x=some o)(hc:o.cls=.ref C)(h:R (.ok (.ret (.ref C))) s) :
  codeAny (model prog w) A (.call (.builtin "getset_descriptor.__get__") ⟨[.builtin "object.__class__",.ref x,tp],[]⟩) R s:=by
 obtain⟨hh,g,dr,t,os⟩:=s;have L0:Looks (model prog w) hh (typeOf (.ref x)) (.ref C):=hc▸(Looks.ld hx).andThen .now;have L1:=looks_mroIn (M:=model prog w) X I.mo;refine codeAny_call_builtin KF.slot_gs.plain KF.entry_gs (KF.slot_gs.check _ _ _ _ _ _ _ _ KF.type_class (KF.args_gs _ _ _) ?_);unfold Builtin.«getset_descriptor.__get__» descrGet;rw[dga_obj];refine wpAny_bind (wpAny_pure ?_);unfold descrGetter descrCheckInstance descrNameAndClass isInstance;simp only[KF.owner_class]
 repeat lk
 refine⟨Code.quiet_builtin _ (by decide +kernel),codeAny_builtin KF.entry_class ?_⟩;unfold Builtin.«object.__class__» shownTypeOf
 repeat lk
 exact h
def zl8 {M:Model}{nameV:Value}{Q:Unit->Shared->Prop}(X:K.In s.heap)(I:V9 K C)(hx:s.heap.get? x=some o)(hc:o.cls=.ref C)(hq:Q () s):wpAny M A (checkBuiltinCall "BaseException.__getattribute__" ⟨[.ref x,nameV],[]⟩) Q E s:=by
  obtain⟨hh,g,dr,t,os⟩:=s;have L0:Looks M hh (typeOf (.ref x)) (.ref C):=hc▸(Looks.ld hx).andThen .now;have L1:=looks_mroIn (M:=M) X I.mb;have hk:builtinKind "BaseException.__getattribute__"=some .slot:=by decide +kernel
  have hsplit:splitId "BaseException.__getattribute__"=some ("BaseException","__getattribute__"):=by decide +kernel
  have ha:=F.args_bexc_ga (.ref x) nameV;simp only[checkBuiltinCall,hk,hsplit];refine wpAny_bind ((show Looks M hh (isInstance (.ref x) (.type "BaseException")) true from L0.andThen L1).at ?_)
  repeat (first|wp_step)
  exact hq
def zpn {Q:Option Value->Shared->Prop}(X:K.In s.heap)(I:V9 K C)(hx:s.heap.get? x=some o)(hc:o.cls=.ref C)(h:Q (some (.ref C)) { s with toks:=s.toks+1 }):wpAny (model prog w) A (getAttr? (.ref x) "__class__") Q E s:=by obtain⟨hh,g,d,t,os⟩:=s;have L0:Looks (model prog w) hh (typeOf (.ref x)) (.ref C):=hc▸(Looks.ld hx).andThen .now;have L1:=looks_findIn (M:=model prog w) X I.ga;have L2:=looks_findIn (M:=model prog w) X I.hk;have L3:=ŕ (M:=model prog w) (x:=x) X I;unfold getAttr? getAttrBy? getAttrBy;refine wpAny_bind (wpAny_mkText (wpAny_bind (wpAny_attempt (wpAny_holding (wpAny_bind (L0.at (wpAny_bind (L1.at ?_))))))));show wpAny _ _ (getAttrByItsOwn _ _ _ _ _ _) _ _ _;unfold getAttrByItsOwn;refine wpAny_bind (L2.at (wpAny_bind (wpAny_attempt (wpAny_holding ?_))));show wpAny _ _ (boundAndCalled _ _ _) _ _ _;unfold boundAndCalled;rw[F.excAttr_ValueError.ga.bind (.ref x)];refine wpAny_bind (wpAny_pure ?_);refine wpAny_call (codeAny_call_builtin F.excAttr_ValueError.ga.plain F.entry_bexc_ga (zl8 (s:=⟨hh,g,d,t+1,os⟩) X I hx hc ?_));unfold Builtin.«object.__getattribute__»;refine wpAny_bind (wpAny_pure (wpAny_bind (wpAny_pure (wpAny_bind (L0.at (wpAny_bind (L3.at ?_)))))));show wpAny _ _ (bindTo _ _ _ _) _ _ _;unfold bindTo;refine wpAny_bind (wpAny_holding (wpAny_call (ÿ (s:=⟨hh,g,d,t+1,os⟩) X I hx hc ?_)));refine wpAny_pure ?_;exact handed_on rfl (wpAny_pure h)
def dX (I:V9 K C):KitX K (.ref x) (.ref C) (fun h=>∃ o,h.get? x=some o/\o.cls=.ref C):=by
  obtain⟨cdD,hcD,_⟩:=Option.bind_eq_some_iff.mp I.mo;unfold clsIn at hcD;split at hcD
  . rename_i c' d' cd' sl' ho
    exact
      { ty:=fun M h _ ⟨o,h1,h2⟩=>h2▸(Looks.ld h1).andThen .now
        it:=fun _ _ X _=>by intro A' Q' E' s' k q;unfold isType loadHead;exact wpAny_bind (wpAny_loadPart (k _ _ (X _ _ ho)) (wpAny_pure q))
        ne:=fun h tp dd its n sl X htp=>by
          refine Bool.eq_false_iff.mpr fun q=>?_
          have e:C=tp:=Value.ref.inj (beq_iff_eq.mp q);subst e;have z:=(X _ _ ho).symm.trans htp;cases z
        ca:=fun X ⟨o,h1,h2⟩ k=>zpn X I h1 h2 k }
  . cases hcD
end
section
variable [B:Bs]{X:Cx}
def CV (X:Cx)(c:Str)(np:Pos)(cv:Value):Prop:=∀ (Z9:List (Addr×Obj)) (U:L2.St) (H:Hp) (s:Shared) (E:Value->Shared->Prop) (Q:Value->Shared->Prop),Inv X Z9 U H s->Q cv s->wpAny (model X.prog X.w) X.A (eval (.Name c np) X.env) Q E s
omit B in
def fC {np:Pos}{C:Addr}(hg:Gl X c)(hm:X.mg c=some (.ref C))(hd:autoParam ((c==("__debug__":Str))=false) zO):CV X c np (.ref C):=fun _ _ _ _ _ _ I q=>Tn I hg hm q hd
omit B in
def zxg {np:Pos}{T:String}(hg:Gl X c)(hm:X.mg c=none)(hv:bootBuiltins c=some (.type T))(hn:autoParam (c≠"__name__") zO)(hd:autoParam ((c==("__debug__":Str))=false) zO):CV X c np (.type T):=fun _ _ _ _ _ _ I q=>VR I hg hm hv q hn hd
def uO {e:Expr}{t:DE}{p pos:Pos}{tbl:List (Str×Bool)}(hg:Gl X "isinstance")(hm:X.mg "isinstance"=none)(he:PD X e t)(hc:CV X c np cv)(ht:∀ c' b C,tbl.lookup c'=some b->PySem.W.nsIn X.K mainGlobals c'=some (some (.ref C))->V9 X.K C/\PySem.W.kitOne X.K (.ref C) cv=some b)(hs:autoParam (starEach [e,.Name c np] X.env=(false,eval e X.env)::starEach [.Name c np] X.env) zy)(hpl:autoParam ((backTo pos (starEach [.Name c np] X.env)).any (·.1)=false) zy) :
  PD X (.Call (.Name "isinstance" p) [e,.Name c np] [] pos) (TV tbl t):=by
 with_unfolding_all
  intro Z9 s U H Q I h;obtain⟨aD,Z,S,Q0,st,rh,q,k⟩:=h;refine wpAny_Call_Name_kw (VR I hg hm boot_isinstance ?_)
  have hA:wpAny (model X.prog X.w) X.A (spliced (backTo pos (starEach [e,.Name c np] X.env))) (fun us s1=>∃ u,us=[u,cv]/\EP X Z9 U (fun v H1=>∃ c' b ad1,Rel X.K ad1 H1 (.exn c') v/\tbl.lookup c'=some b/\Q (.bl b) H1) u s1) X.xe s:=by rw[hs];show wpAny _ _ (spliced ((false,eval e X.env)::backTo pos (starEach [.Name c np] X.env))) _ _ s;have hv:=he Z9 s U H (fun v H1=>∃ c' b ad1,Rel X.K ad1 H1 (.exn c') v/\tbl.lookup c'=some b/\Q (.bl b) H1) I ⟨aD,Z,S,_,st,rh,q,by rintro x S1 v H1 ad1 ⟨c',b,ex,hl,q1⟩ w1 st1 r1;exact⟨c',b,ad1,ex▸r1,hl,k _ S1 _ H1 ad1 q1 w1 st1 (.bl b)⟩⟩;refine Calls.spliced_cons (Z2 hv fun u s1 hu=>?_);show wpAny _ _ (spliced ((false,eval (.Name c np) X.env)::[])) _ _ s1;obtain⟨v,H1,I1,r1,q1⟩:=hu;exact Calls.spliced_cons (hc Z9 U H1 s1 _ _ I1 (Calls.spliced_nil ⟨u,rfl,v,H1,I1,r1,q1⟩))
  refine PyProof.Rows.callWith_builtin1 (Z2 hA fun us s1 hu=>?_) hs hpl;obtain⟨u,rfl,v,H1,I1,r1,c',b,ad1,rel,hl,q1⟩:=hu;cases rel with
  |exn ha hcl hn =>
   cases r1;obtain⟨ic,ki⟩:=ht _ _ _ hl hn;refine PySem.W.kia_one (dX ic) I1.kIn ?_ ki (by intro z;cases z) fun tk=>⟨.bl b,H1,I1.tok _,rfl,q1⟩
   obtain⟨h1,_⟩:=I1.hok _ _ ha;exact⟨_,h1,hcl⟩
def aQ {e:Expr}{t:DE}{p np pos:Pos}{tbl:List (Str×Bool)}(hg:Gl X "isinstance")(hm:X.mg "isinstance"=none)(he:PD X e t)(hgc:Gl X c)(ht:∃ Cc,X.mg c=some (.ref Cc)/\∀ c' b C,tbl.lookup c'=some b->PySem.W.nsIn X.K mainGlobals c'=some (some (.ref C))->V9 X.K C/\PySem.W.kitOne X.K (.ref C) (.ref Cc)=some b)(hd:autoParam ((c==("__debug__":Str))=false) zO)(hs:autoParam (starEach [e,.Name c np] X.env=(false,eval e X.env)::starEach [.Name c np] X.env) zy)(hpl:autoParam ((backTo pos (starEach [.Name c np] X.env)).any (·.1)=false) zy) :
  PD X (.Call (.Name "isinstance" p) [e,.Name c np] [] pos) (TV tbl t):=by
 with_unfolding_all
  obtain⟨Cc,h1,h2⟩:=ht;exact uO hg hm he (fC hgc h1 hd) h2 hs hpl
def iy {e:Expr}{t:DE}{p np pos:Pos}{T:String}{tbl:List (Str×Bool)}(hg:Gl X "isinstance")(hm:X.mg "isinstance"=none)(he:PD X e t)(hgc:Gl X c)(ht:X.mg c=none/\∀ c' b C,tbl.lookup c'=some b->PySem.W.nsIn X.K mainGlobals c'=some (some (.ref C))->V9 X.K C/\PySem.W.kitOne X.K (.ref C) (.type T)=some b)(hv:bootBuiltins c=some (.type T))(hn:autoParam (c≠"__name__") zO)(hd:autoParam ((c==("__debug__":Str))=false) zO)(hs:autoParam (starEach [e,.Name c np] X.env=(false,eval e X.env)::starEach [.Name c np] X.env) zy)(hpl:autoParam ((backTo pos (starEach [.Name c np] X.env)).any (·.1)=false) zy) :
  PD X (.Call (.Name "isinstance" p) [e,.Name c np] [] pos) (TV tbl t):=by with_unfolding_all exact(uO hg hm he (zxg hgc ht.1 hv hn hd) ht.2 hs hpl)
end
def ud (K:PySem.W.Frag)(C:Addr)(sl:List (Option Value)):PySem.Data->Bool
 | .cls cd=>cd.mro.head?==some (.ref C)&&!cd.hasDel&&sl.length==6&&sl[4]?==some (some (.builtin "ValueError.__new__"))&&PySem.W.nsOkIn K cd.ns&&PySem.W.nsIn K cd.ns "__init__"==some none&&PySem.W.tailIn K [.type "ValueError",.type "Exception",.type "BaseException",.type "object"] cd.mro.tail
 |_=>false
def Jx (K:PySem.W.Frag)(C:Addr):Bool:=(K.lookup C).any fun o=>o.cls==.type "type"&&ud K C o.slots.toList o.data
def Ld.of {K:PySem.W.Frag}{C:Addr}(q:Jx K C=true):Ld K C:=by
 unfold Jx at q;cases ho:K.lookup C with
 |none=>rw[ho]at q;cases q
 |some o =>
  rw[ho]at q;obtain⟨c,dd,d,⟨sl⟩⟩:=o;have q':(c==.type "type"&&ud K C sl d)=true:=q;rw[qr,beq_iff_eq]at q';obtain⟨rfl,q⟩:=q';cases d with
  |cls cd =>
   obtain⟨nm,bs,mro,ns,qn,hd,sn,sub,ab,col,del⟩:=cd;have q':(mro.head?==some (.ref C)&&!del&&sl.length==6&&sl[4]?==some (some (.builtin "ValueError.__new__"))&&PySem.W.nsOkIn K ns&&PySem.W.nsIn K ns "__init__"==some none&&PySem.W.tailIn K [.type "ValueError",.type "Exception",.type "BaseException",.type "object"] mro.tail)=true:=q;simp only[qr,beq_iff_eq,Bool.not_eq_true']at q';obtain⟨⟨⟨⟨⟨⟨e1,rfl⟩,e2⟩,e3⟩,h1⟩,h2⟩,h3⟩:=q';cases mro with
   |nil=>cases e1
   |cons m bm =>cases e1;obtain⟨k0,k1,k2,k3,k4,k5,rfl⟩:=zw7 e2;cases e3;exact⟨nm,qn,ns,bs,bm,hd,sn,sub,ab,col,dd,k0,k1,k2,k3,k5,ho,h1,h2,h3⟩
  |_=>cases q
def isIn (K:PySem.W.Frag)(C:Addr):Bool:=PySem.W.findIn K (.ref C) "__getattribute__"==some (some (.builtin "BaseException.__getattribute__"))&&PySem.W.findIn K (.ref C) "__getattr__"==some none&&PySem.W.findIn K (.ref C) "__class__"==some (some (.builtin "object.__class__")) &&
 PySem.W.mroIn K C (.type "object")==some true&&PySem.W.mroIn K C (.type "BaseException")==some true
def V9.of {K:PySem.W.Frag}{C:Addr}(q:isIn K C=true):V9 K C:=by unfold isIn at q;simp only[qr,beq_iff_eq]at q;exact⟨q.1.1.1.1,q.1.1.1.2,q.1.1.2,q.1.2,q.2⟩
section
variable {X:Cx}[B:Bs]
def Ľ:MD X "list.pop" Km:=⟨_,zpb,by
 rintro aD H S x ds v vs Q0 Q st rx r ⟨n,xs,y,ex,ey,hn,q⟩ k;subst ex ey;obtain⟨u,rfl,ru⟩:=Xu r;cases ru;cases rx with
 |ref e =>
  obtain⟨ws,hw,rw⟩:=st.cell n _ _ e hn;cases rw with
  |@cons _ w _ ws' rw1 rw2 =>have w':=Wd.put (ws:=ws') e hw;exact⟨_,w::ws',0,0,w,rfl,rfl,hw,by decide,by decide,by unfold seqIndex?;simp,rfl,k _ _ _ _ aD q w' (st.put e hw rw2) (rw1.wd w')⟩⟩
end
section
variable {K:PySem.W.Frag}{aD:List Addr}{H:Hp}{S:Z7}[B:Bs]
omit B in
theorem RelK.val:∀ {fs:List (Str×D)} {vs:List (Key×V)} (z:Str),RelK K aD H fs vs->(dval fs z=none/\L2.Ys vs (Sum.inr z:Key)=none)\/∃ d v,dval fs z=some d/\L2.Ys vs (Sum.inr z:Key)=some v/\Rel K aD H d v
 |_,_,z,.nil=>.inl ⟨rfl,L2.mO⟩
 |_,_,z,@RelK.cons _ _ _ x d v fs vs r t=>by
  by_cases h:x=z
  ·exact .inr ⟨d,v,by rw[Wc,if_pos h],by rw[L2.Pk (by rw[h])],r⟩
  ·have h':¬ (Sum.inr x:Key)=Sum.inr z:=fun e=>h (Sum.inr.inj e)
   rw[Wc,if_neg h,L2.Qn h'];exact RelK.val z t
omit B in
theorem zU.val {κ:Type}[DecidableEq κ]:∀ {fs:List (κ×D)} {vs:List (κ×V)} (z:κ),zU K aD H fs vs->(dval fs z=none/\L2.Ys vs z=none)\/∃ d v,dval fs z=some d/\L2.Ys vs z=some v/\Rel K aD H d v
 |_,_,z,.nil=>.inl ⟨rfl,L2.mO⟩
 |_,_,z,@zU.cons _ _ _ _ x d v fs vs r t=>by
  by_cases h:x=z
  ·exact .inr ⟨d,v,by rw[Wc,if_pos h],by rw[L2.Pk h],r⟩
  ·rw[Wc,if_neg h,L2.Qn h];exact zU.val z t
omit B in
theorem RelK.snoc {x:Str}(rd:Rel K aD H d v):∀ {fs:List (Str×D)} {vs:List (Key×V)},RelK K aD H fs vs->RelK K aD H (fs++[(x,d)]) (vs++[(.inr x,v)])
 |_,_,.nil=>.cons rd .nil
 |_,_,.cons r t=>.cons r (RelK.snoc rd t)
omit B in
theorem zU.snoc {κ:Type}{x:κ}(rd:Rel K aD H d v):∀ {fs:List (κ×D)} {vs:List (κ×V)},zU K aD H fs vs->zU K aD H (fs++[(x,d)]) (vs++[(x,v)])
 |_,_,.nil=>.cons rd .nil
 |_,_,.cons r t=>.cons r (zU.snoc rd t)
omit B in
theorem RelK.repl {z:Str}(rd:Rel K aD H d v):∀ {fs:List (Str×D)} {vs:List (Key×V)},RelK K aD H fs vs->RelK K aD H (fs.map fun kv=>if kv.1=z then(kv.1,d)else kv) (vs.map fun kv=>if kv.1=(Sum.inr z:Key)then(kv.1,v)else kv)
 |_,_,.nil=>.nil
 |_,_,@RelK.cons _ _ _ x d' v' fs vs r t=>by
  rw[qQ,qQ];by_cases h:x=z
  ·rw[if_pos h,if_pos (by rw[h])];exact .cons rd (RelK.repl rd t)
  ·rw[if_neg h,if_neg (fun e=>h (Sum.inr.inj e))];exact .cons r (RelK.repl rd t)
omit B in
theorem zU.repl {κ:Type}[DecidableEq κ]{z:κ}(rd:Rel K aD H d v):∀ {fs:List (κ×D)} {vs:List (κ×V)},zU K aD H fs vs->zU K aD H (fs.map fun kv=>if kv.1=z then(kv.1,d)else kv) (vs.map fun kv=>if kv.1=z then(kv.1,v)else kv)
 |_,_,.nil=>.nil
 |_,_,@zU.cons _ _ _ _ x d' v' fs vs r t=>by
  rw[qQ,qQ];by_cases h:x=z
  ·rw[if_pos h,if_pos h];exact .cons rd (zU.repl rd t)
  ·rw[if_neg h,if_neg h];exact .cons r (zU.repl rd t)
omit B in
def RelK.put {z:Str}(rd:Rel K aD H d v){fs:List (Str×D)}(r:RelK K aD H fs vs):RelK K aD H (dput fs z d) (putK vs (Sum.inr z:Key) v):=by
 unfold dput putK;rw[Rg,L2.N7];rcases r.val z with⟨e1,e2⟩|⟨d',v',e1,e2,_⟩
 ·rw[e1,e2];rw[if_neg (by simp),if_neg (by simp)];exact r.snoc rd
 ·rw[e1,e2];rw[if_pos (by simp),if_pos (by simp)];exact r.repl rd
omit B in
def zU.put {κ:Type}[DecidableEq κ]{z:κ}{d:D}{v:V}(rd:Rel K aD H d v){fs:List (κ×D)}{vs:List (κ×V)}(r:zU K aD H fs vs):zU K aD H (dput fs z d) (putK vs z v):=by
 unfold dput putK;rw[Rg,L2.N7];rcases r.val z with⟨e1,e2⟩|⟨d',v',e1,e2,_⟩
 ·rw[e1,e2];rw[if_neg (by simp),if_neg (by simp)];exact r.snoc rd
 ·rw[e1,e2];rw[if_pos (by simp),if_pos (by simp)];exact r.repl rd
omit B in
theorem RelK.length:∀ {fs:List (Str×D)} {vs:List (Key×V)},RelK K aD H fs vs->fs.length=vs.length
  |_,_,.nil=>rfl
  |_,_,.cons _ t=>congrArg (· + 1) (RelK.length t)
omit B in
theorem zU.length {κ:Type}:∀ {fs:List (κ×D)} {vs:List (κ×V)},zU K aD H fs vs->fs.length=vs.length
  |_,_,.nil=>rfl
  |_,_,.cons _ t=>congrArg (· + 1) (zU.length t)
omit B in
theorem Pj:∀ {ks:List Key} {vs:List V},zj K aD H (ks.map kD) vs->vs=ks.map kV
 |[],_,.nil=>rfl
 |.inl i::ks,_,.cons r t=>by
  have e:∀ {d:D} {v:V},d=.int i->Rel K aD H d v->v=.int i:=fun e r=>by subst e;cases r;rfl
  rw[e rfl r,Pj t];rfl
 |.inr x::ks,_,.cons r t=>by
  have e:∀ {d:D} {v:V},d=.str x->Rel K aD H d v->v=.str x:=fun e r=>by subst e;cases r;rfl
  rw[e rfl r,Pj t];rfl
omit B in
theorem GP:∀ {ks:List (List Key)} {vs:List V},zj K aD H (ks.map kN) vs->∃ bs:List Addr,vs=bs.map V.ref/\Paired (fun (k:List Key) (c:Addr)=>H c=some (.tup (k.map kV))) ks bs
 |[],_,.nil=>⟨[],rfl,.nil⟩
 |k::ks,_,.cons r t=>by
  obtain⟨bs,e,p⟩:=GP t;cases r with
  |tup h q=>exact⟨_::bs,by rw[e];rfl,.cons (by rw[h,Pj q]) p⟩
def zp.newC (st:zp K aD H S){o:HO}(h:H l=none)(hc:Wk K (aD++[l]) (upd H l o) l c):zp K (aD++[l]) (upd H l o) (S++[c]) where
 wd:=st.wd.trans (Wd.newL st h)
 len:=by rw[qg,qg,st.len];rfl
 nd:=by
  rw[VJ];refine⟨st.nd,by simp,fun a ha b hb e=>?_⟩;have:b=l:=by simpa using hb
  subst this;subst e;exact st.fresh h ha
 cell:=fun n a c' e1 e2=>by
  by_cases hn:n<aD.length
  ·rw[qf hn]at e1;rw[qf (by rw[<- st.len];exact hn)]at e2;have ok:=st.cell n a c' e1 e2;obtain⟨u,e⟩:=ok.some;exact ok.wd (Wd.newL st h) (by rw[Vd h e,e])
  ·have hn':aD.length<=n:=QK hn;rw[qe hn']at e1;rw[qe (by rw[<- st.len];exact hn'),<- st.len]at e2;cases hk:n-aD.length with
   |zero =>
    rw[hk]at e1 e2;have e1':l=a:=by simpa using e1
    have e2':c=c':=by simpa using e2
    subst e1' e2';exact hc
   |succ k=>rw[hk]at e1;simp at e1
omit B in
def Wd.putC {n:Nat}{a:Addr}{o o':HO}(e:aD[n]?=some a)(h:H a=some o)(h1:∀ xs,o≠.tup xs)(h2:∀ q u,o≠.frz q u):Wd aD H aD (upd H a o') :=
 ⟨Oo _,fun b u hb q=>by
   have:b≠a:=fun z=>hb (by rw[z];exact qd e)
   rw[zu this];exact q,
  fun b xs q=>by rw[zu (VH q h (fun z=>h1 xs z.symm))];exact q,fun b o u q=>by rw[zu (VH q h (fun z=>h2 o u z.symm))];exact q,fun _ m n=>absurd m n⟩
theorem zp.putC (st:zp K aD H S){n:Nat}{a:Addr}{o o':HO}(e:aD[n]?=some a)(h:H a=some o)(h1:∀ xs,o≠.tup xs)(h2:∀ q u,o≠.frz q u)(hc:Wk K aD (upd H a o') a c):zp K aD (upd H a o') (S.set n c) where
 wd:=st.wd.trans (Wd.putC e h h1 h2)
 len:=by rw[XF];exact st.len
 nd:=st.nd
 cell:=fun m b c' e1 e2=>by
  have w:Wd aD H aD (upd H a o'):=Wd.putC e h h1 h2;by_cases hm:m=n
  ·subst hm;rw[e]at e1;cases e1;rw[qW (by rw[<- st.len];exact My.Wo e)]at e2;cases e2;exact hc
  ·rw[qN (Ne.symm hm)]at e2
   have ne:b≠a:=fun z=>by subst z;have q1:=(Ua.mp e1).2;have q2:=(Ua.mp e).2;exact hm ((Ly st.nd).mp (q1.trans q2.symm))
   exact(st.cell m b c' e1 e2).wd w (zu ne)
def Oi (st:zp K aD H S)(rx:Rel K aD H x v)(ry:Rel K aD H y u)(g:Zr S x y o):∃ a o',v=.ref a/\Yp H a u o'/\((o=none/\o'=none)\/∃ d w,o=some d/\o'=some w/\Rel K aD H d w):=by
 rcases g with⟨n,Z8,z,rfl,rfl,hn,rfl⟩|⟨n,Z8,ks,rfl,rfl,hn,rfl⟩|⟨n,Z8,ep,ks,rfl,rfl,hn,rfl⟩
 ·cases ry;cases rx with
  |ref e =>obtain⟨vs,hv,r⟩:=st.cell n _ _ e hn;exact⟨_,_,rfl,Yp.k (k:=Sum.inr z) hv,r.val z⟩
 ·cases rx with
  |ref e =>
   obtain⟨vs,hv,r⟩:=st.cell n _ _ e hn;cases ry with
   |tup hb rb =>have e2:=Pj rb;subst e2;exact⟨_,_,rfl,Yp.t hv hb,r.val ks⟩
 ·cases rx with
  |ref e =>
   obtain⟨vs,hv,r⟩:=st.cell n _ _ e hn;cases ry with
   |tup hb rb =>obtain⟨bs,rfl,p⟩:=GP rb;exact⟨_,_,rfl,Yp.n hv ⟨bs,hb,p⟩,r.val ks⟩
def gG (st:zp K aD H S)(rx:Rel K aD H x v)(g:Fb S x):∃ a,v=.ref a/\FW H a:=by
 obtain⟨n,rfl,g⟩:=g;cases rx with
 |ref e =>
  rcases g with⟨Z8,hn⟩|⟨Z8,hn⟩|⟨Z8,ep,hn⟩
  ·obtain⟨vs,hv,_⟩:=st.cell n _ _ e hn;exact⟨_,rfl,.inl ⟨vs,.inl hv⟩⟩
  ·obtain⟨vs,hv,_⟩:=st.cell n _ _ e hn;exact⟨_,rfl,.inr (.inl ⟨vs,.inl hv⟩)⟩
  ·obtain⟨vs,hv,_⟩:=st.cell n _ _ e hn;exact⟨_,rfl,.inr (.inr ⟨vs,ep,.inl hv⟩)⟩
end
section
variable {X:Cx}{a b c:Expr}{td ti tz tv:DE}{pos apos cpos:Pos}[B:Bs]
def iM:PD X (.Dict [] [] pos) Lk:=by with_unfolding_all exact(zY Ϻ fun U H Q hh=>ZS hh fun aD Z S Q0 st rh q k p hp =>k _ _ _ _ _ q (Wd.newL st hp) (st.newC hp ⟨[],zK,.nil⟩) st.newRef)
def Ī:PD X (.Dict [] [] pos) Hz:=by with_unfolding_all exact(zY kE fun U H Q hh=>ZS hh fun aD Z S Q0 st rh q k p hp =>k _ _ _ _ _ q (Wd.newL st hp) (st.newC hp ⟨[],zK,.nil⟩) st.newRef)
def zqq:PD X (.Dict [] [] pos) Ny:=by with_unfolding_all exact(zY ŭ fun U H Q hh=>ZS hh fun aD Z S Q0 st rh q k p hp =>k _ _ _ _ _ q (Wd.newL st hp) (st.newC hp ⟨[],zK,.nil⟩) st.newRef)
def zpm {tk:DE}(hr:zQ j X.A)(hk:PD X a tk)(hv:PD X b tv):PD X (.Dict [some a] [b] pos) (Lj tk tv):=by with_unfolding_all exact(zY (ζ (Ul hr) hk hv) fun U H Q hh=>ZS hh fun aD Z S Q0 st rh q k p hp =>
 ⟨aD++[p],Z,S++[.dt []],_,st.newC (c:=.dt []) hp ⟨[],zK,.nil⟩,rh.wd (Wd.newL st hp),(show tk Z (S++[.dt []]) _ from q),fun x S1 v H1 ad1 q1 w1 st1 r1=>⟨ad1,Z,S1,_,st1,(rh.wd (Wd.newL st hp)).wd w1,q1,by
  rintro y S2 u H2 ad2 ⟨ks,ex,hn,q2⟩ w2 st2 r2;subst ex;have w12:=(Wd.newL (o:=.dT []) st hp).trans (w1.trans w2)
  have e:ad2[S.length]?=some p:=by refine Td (w1.trans w2).pre ?_;rw[<- st.len,qe (qh _),Yj];rfl
  obtain⟨vs,hv',r⟩:=st2.cell S.length _ _ e hn;cases r;cases r1.wd w2 with
  |tup hb rb =>
   have e2:=Pj rb;subst e2;have h1:∀ xs,HO.dT []≠.tup xs:=fun _ z=>by cases z
   have h2:∀ q u,HO.dT []≠.frz q u:=fun _ _ z=>by cases z
   have w':=Wd.putC (o':=.dT [(ks,u)]) e hv' h1 h2;exact⟨_,ks,rfl,hb,hv',k _ _ _ _ _ q2 (w12.trans w') (st2.putC e hv' h1 h2 ⟨_,zK,.cons (r2.wd w') .nil⟩) (.ref e)⟩⟩⟩)
def zvi (hr:zQ j X.A)(ho:PD X a td)(hi:PD X b ti)(hs:autoParam (Iz b) wz):PD X (.Subscript a b pos) (Vt td ti):=by with_unfolding_all exact(zY (jE (Ul hr) ho hi hs) fun U H Q hh=>ZS hh fun aD Z S Q0 st rh q k =>
 ⟨aD,Z,S,_,st,rh,q,fun x S1 v H1 ad1 q1 w1 st1 r1=>⟨ad1,Z,S1,_,st1,rh.wd w1,q1,by
  rintro y S2 u H2 ad2 ⟨d,g,q2⟩ w2 st2 r2;obtain⟨p,o',rfl,g',h⟩:=Oi st2 (r1.wd w2) r2 g;rcases h with⟨e,_⟩|⟨d',w,e,rfl,rw'⟩
  ·cases e
  ·cases e;exact⟨p,w,rfl,g',k _ S2 _ H2 ad2 q2 (w1.trans w2) st2 rw'⟩⟩⟩)
def zoz (hr:zQ j X.A)(ho:PD X a td)(hi:PD X b ti)(hv:PD X c tv)(hs:autoParam (swapsWith c (some (.Subscript a b apos)) pos.line X.env=pure false) zy):Zv X (.Assign [.Subscript a b apos] c pos) (LR td ti tv):=by with_unfolding_all exact(Yd (zqh (Ul hr) ho hi hv hs) fun E U H hh=>ZS hh fun aD Z S E0 so rh q k =>
 ⟨aD,Z,S,_,so,rh,q,fun v S1 vv H1 ad1 q1 w1 st1 r1=>⟨ad1,Z,S1,_,st1,rh.wd w1,q1,fun x S2 vx H2 ad2 q2 w2 st2 r2=>⟨ad2,Z,S2,_,st2,rh.wd (w1.trans w2),q2,fun y S3 vy H3 ad3 q3 w3 st3 r3=>by
  have rx:=r2.wd w3;have rv:=r1.wd (w2.trans w3);have w13:=(w1.trans w2).trans w3;rcases q3 with⟨n,Z8,z,rfl,rfl,hn,hl,q3⟩|⟨n,Z8,ks,rfl,rfl,hn,hl,q3⟩
  ·cases r3;cases rx with
   |ref e =>
    obtain⟨vs,hv',r⟩:=st3.cell n _ _ e hn;have h1:∀ xs,HO.dK vs≠.tup xs:=fun _ z=>by cases z
    have h2:∀ q u,HO.dK vs≠.frz q u:=fun _ _ z=>by cases z
    have w:=Wd.putC (o':=.dK (putK vs (Sum.inr z:Key) vv)) e hv' h1 h2;refine⟨_,_,rfl,SX.k (k:=Sum.inr z) hv' (by rw[<- r.length];exact Nx hl),?_⟩;exact k.nx _ _ _ _ _ q3 (w13.trans w) (st3.putC e hv' h1 h2 ⟨_,zK,RelK.wr w.wr (r.put rv)⟩) (rh.wd (w13.trans w))
  ·cases rx with
   |ref e =>
    obtain⟨vs,hv',r⟩:=st3.cell n _ _ e hn;cases r3 with
    |tup hb rb =>
     have e2:=Pj rb;subst e2;have h1:∀ xs,HO.dT vs≠.tup xs:=fun _ z=>by cases z
     have h2:∀ q u,HO.dT vs≠.frz q u:=fun _ _ z=>by cases z
     have w:=Wd.putC (o':=.dT (putK vs ks vv)) e hv' h1 h2;refine⟨_,_,rfl,SX.t hv' hb (by rw[<- r.length];exact Nx hl),?_⟩;exact k.nx _ _ _ _ _ q3 (w13.trans w) (st3.putC e hv' h1 h2 ⟨_,zK,zU.wr w.wr (r.put rv)⟩) (rh.wd (w13.trans w))⟩⟩⟩)
def Ô (hr:zQ j X.A)(ho:PD X a td)(hi:PD X b ti)(hv:PD X c tv)(hs:autoParam (swapsWith c (some (.Subscript a b apos)) pos.line X.env=pure false) zy):Zv X (.Assign [.Subscript a b apos] c pos) (SN td ti tv):=by with_unfolding_all exact(Yd (Œ (Ul hr) ho hi hv hs) fun E U H hh=>ZS hh fun aD Z S E0 so rh q k =>
 ⟨aD,Z,S,_,so,rh,q,fun v S1 vv H1 ad1 q1 w1 st1 r1=>⟨ad1,Z,S1,_,st1,rh.wd w1,q1,fun x S2 vx H2 ad2 q2 w2 st2 r2=>⟨ad2,Z,S2,_,st2,rh.wd (w1.trans w2),q2,fun y S3 vy H3 ad3 q3 w3 st3 r3=>by
  have rx:=r2.wd w3;have rv:=r1.wd (w2.trans w3);have w13:=(w1.trans w2).trans w3;obtain⟨n,Z8,ep,ks,rfl,rfl,hn,hl,q3⟩:=q3;cases rx with
  |ref e =>
   obtain⟨vs,hv',r⟩:=st3.cell n _ _ e hn;cases r3 with
   |tup hb rb =>
    obtain⟨bs,rfl,p⟩:=GP rb;refine⟨_,vs,ep,ks,_,rfl,hv',rfl,⟨bs,hb,p⟩,by rw[<- r.length];exact Nx hl,fun e'=>?_⟩;have h1:∀ xs,HO.dN vs ep≠.tup xs:=fun _ z=>by cases z
    have h2:∀ q u,HO.dN vs ep≠.frz q u:=fun _ _ z=>by cases z
    have w:=Wd.putC (o':=.dN (putK vs ks vv) e') e hv' h1 h2;exact k.nx _ _ _ _ _ (q3 e') (w13.trans w) (st3.putC e hv' h1 h2 ⟨_,zK,zU.wr w.wr (r.put rv)⟩) (rh.wd (w13.trans w))⟩⟩⟩)
end
section
variable {K:PySem.W.Frag}{aD:List Addr}{H:Hp}{S:Z7}[B:Bs]
omit B in
theorem zU.gk {κ:Type}:∀ {fs:List (κ×D)} {vs:List (κ×V)} {i:Nat} {k:κ} {y:V},zU K aD H fs vs->vs[i]?=some (k,y)->∃ d,fs[i]?=some (k,d)/\Rel K aD H d y
 |_,_,_,_,_,.nil,h=>by cases h
 |_,_,0,_,_,.cons r _,h=>by cases h;exact⟨_,rfl,r⟩
 |_,_,i+1,_,_,.cons _ t,h=>let ⟨d,e,r⟩:=zU.gk (i:=i) t h;⟨d,e,r⟩
omit B in
def Î {k:List (List Key)}(h:WD H b k):Rel K aD H (.tup (k.map kN)) (.ref b):=by
 obtain⟨bs,e,p⟩:=h
 have kr:∀ k:Key,Rel K aD H (kD k) (kV k):=fun k=>by cases k with
  |inl i=>exact .int i
  |inr x=>exact .str x
 have ks:∀ l:List Key,zj K aD H (l.map kD) (l.map kV):=fun l=>by
  induction l with
  |nil=>exact .nil
  |cons x l ih=>exact .cons (kr x) ih
 refine .tup e ?_;clear e
 induction p with
 |nil=>exact .nil
 |cons h t ih=>exact .cons (.tup h (ks _)) ih
def ĥ {n:Nat}{a:Addr}{Z8:List (List (List Key)×D)}{ep:Nat}(e:aD[n]?=some a):Ub K aD H ⟨Z8.map fun kv=>.tup [.tup (kv.1.map kN),kv.2],fun S=>S[n]?=some (.dn Z8 ep)⟩ (El a Z8.length ep) where
 go:=fun ad1 H1 S i w st ok hi=>by obtain⟨vs,hv,r⟩:=st.cell n _ _ (Td w.pre e) ok;rw[qa]at hi;exact⟨vs,hv,r.length.symm,hi⟩
 yld:=by rintro ad1 H1 S i d x H' w st ok hd ⟨p,b,k,y,ex,hp,he,hb,hk⟩;obtain⟨vs,hv,r⟩:=st.cell n _ _ (Td w.pre e) ok;obtain⟨z,hz,rz⟩:=r.gk (hk vs hv);rw[qk,hz]at hd;cases hd;rw[he,ex];exact⟨Wd.laid hp,st.laid hp,.tup zK (.cons ((Î hb).wd (Wd.laid hp)) (.cons (rz.wd (Wd.laid hp)) .nil))⟩
 stop:=fun ad1 H1 S w st ok=>by obtain⟨vs,hv,r⟩:=st.cell n _ _ (Td w.pre e) ok;exact⟨vs,hv,r.length.symm,by rw[qa]⟩
end
section
variable {X:Cx}{a b c:Expr}{td ti tz tv:DE}{pos apos cpos:Pos}[B:Bs]
def kI {es:List Expr}{kk:Nat}{tpos:Pos}(ho:PD X a td)(m:M0 X a "items" apos cpos):Xn X (.Tuple es kk tpos) (.Call (.Attribute a "items" apos) [] [] cpos) (J6 td):=by with_unfolding_all exact(Lw (Ϧ ho m) fun U H R hh=>ZS hh fun aD Z S R0 st rh q k =>
 ⟨aD,Z,S,_,st,rh,q,by
  rintro x S1 v H1 ad1 ⟨n,Z8,ep,ex,hn,q1⟩ w1 st1 r1;subst ex;cases r1 with
  |ref e =>obtain⟨vs,hv,r⟩:=st1.cell n _ _ e hn;exact⟨_,vs,ep,rfl,hv,k _ S1 _ H1 ad1 q1 w1 st1 (by rw[<- r.length];exact ĥ e)⟩⟩)
end
structure FH (K:PySem.W.Frag)(n:Str)(st:Stmt)(f:Addr)(fd:FuncData):Prop where
 a:PySem.W.nsIn K mainGlobals n=some (some (.ref f))
 F:Xa K n n st f fd
section
variable {K:PySem.W.Frag}{n:Str}{st:Stmt}{f:Addr}{fd:FuncData}{mg:Str->Option Value}{k:Nat}{h:Heap}{ps:List Str}{sp:Sp}
def Ŧ {oc:Value}{od an:Option Addr}{osl:Array (Option Value)}{kV doc pm cdv ct:Value}(a:PySem.W.nsIn K mainGlobals n=some (some (.ref f)))
  (l:K.lookup f=some ⟨oc,od,.func (PySem.W.fnOf n n (Xi st) (X5 st) (zJ st) .none kV doc pm an cdv ct),osl⟩) (c:PySem.W.codeIn K cdv n=true) (k:PySem.W.keepIn K (.ref f)=true) :
  FH K n st f (PySem.W.fnOf n n (Xi st) (X5 st) (zJ st) .none kV doc pm an cdv ct):=⟨a,vO l c k⟩
end
section
variable {X:Cx}
def jq [B:Bs](i:Nat){x:Str}{pos:Pos}(hN:autoParam (X.N[i]?=some x) zy)(hv:L2.Vis X.env.scope x:=by first | exact Or.inl rfl | exact Or.inr (Or.inl rfl) | exact Or.inr (Or.inr rfl))(hd:autoParam ((x==("__debug__":Str))=false) zO)(hcd:autoParam ((x==("__classdict__":Str))=false) zO):PD X (.Name x pos) (YM i):=by with_unfolding_all exact(cQ (cU hN hv hd hcd))
end
section
variable {X:Cx}{a b c:Expr}{ta tb:DE}{td ti tz tv:DE}{pos apos cpos:Pos}[B:Bs]
def γ (hr:zQ j X.A)(hi:PD X b ti)(ho:PD X a td)(hm:autoParam (behindInMarks .In a=false) Vo):PD X (.Compare b [.In] [a] pos) (Oz ti td):=by with_unfolding_all exact(zY (rN (vN (Ul hr) hi ho) hm) fun U H Q hh=>ZS hh fun aD Z S Q0 st rh q k =>
  ⟨aD,Z,S,_,st,rh,q,fun y S1 u H1 ad1 q1 w1 st1 r1=>⟨ad1,Z,S1,_,st1,rh.wd w1,q1,by
    rintro x S2 v H2 ad2 ⟨o,g,q2⟩ w2 st2 r2;obtain⟨p,o',rfl,g',h⟩:=Oi st2 r2 (r1.wd w2) g;have e:o'.isSome=o.isSome:=by rcases h with⟨rfl,rfl⟩|⟨d',w,rfl,rfl,_⟩<;>rfl
    exact⟨p,o',rfl,g',by rw[e];exact k _ S2 _ H2 ad2 q2 (w1.trans w2) st2 (.bl _)⟩⟩⟩)
def j6 (hr:zQ j X.A)(hi:PD X b ti)(ho:PD X a td)(hm:autoParam (behindInMarks .NotIn a=false) Vo):PD X (.Compare b [.NotIn] [a] pos) (SJ ti td):=by with_unfolding_all exact(zY (rN (tU (Ul hr) hi ho) hm) fun U H Q hh=>ZS hh fun aD Z S Q0 st rh q k =>
  ⟨aD,Z,S,_,st,rh,q,fun y S1 u H1 ad1 q1 w1 st1 r1=>⟨ad1,Z,S1,_,st1,rh.wd w1,q1,by
    rintro x S2 v H2 ad2 ⟨o,g,q2⟩ w2 st2 r2;obtain⟨p,o',rfl,g',h⟩:=Oi st2 r2 (r1.wd w2) g;have e:o'.isSome=o.isSome:=by rcases h with⟨rfl,rfl⟩|⟨d',w,rfl,rfl,_⟩<;>rfl
    exact⟨p,o',rfl,g',by rw[e];exact k _ S2 _ H2 ad2 q2 (w1.trans w2) st2 (.bl _)⟩⟩⟩)
def zum (hr:zQ j X.A)(hi:PD X b ti)(ho:PD X a td)(hm:autoParam (behindInMarks .In a=false) Vo):Yy X (.Compare b [.In] [a] pos) (dT (Oz ti td)):=by with_unfolding_all exact(O4 (wC (vN (Ul hr) hi ho) hm) fun U H Q hh=>ZS hh fun aD Z S Q0 st rh q k =>
  ⟨aD,Z,S,_,st,rh,q,fun y S1 u H1 ad1 q1 w1 st1 r1=>⟨ad1,Z,S1,_,st1,rh.wd w1,q1,by
    rintro x S2 v H2 ad2 ⟨o,g,b',e',q2⟩ w2 st2 r2;obtain⟨p,o',rfl,g',h⟩:=Oi st2 r2 (r1.wd w2) g;have e:o'.isSome=o.isSome:=by rcases h with⟨rfl,rfl⟩|⟨d',w,rfl,rfl,_⟩<;>rfl
    cases e';exact⟨p,o',rfl,g',_,rfl,by rw[e];exact k _ S2 H2 ad2 q2 (w1.trans w2) st2⟩⟩⟩)
def znL (hr:zQ j X.A)(hi:PD X b ti)(ho:PD X a td)(hm:autoParam (behindInMarks .NotIn a=false) Vo):Yy X (.Compare b [.NotIn] [a] pos) (dT (SJ ti td)):=by with_unfolding_all exact(O4 (wC (tU (Ul hr) hi ho) hm) fun U H Q hh=>ZS hh fun aD Z S Q0 st rh q k =>
  ⟨aD,Z,S,_,st,rh,q,fun y S1 u H1 ad1 q1 w1 st1 r1=>⟨ad1,Z,S1,_,st1,rh.wd w1,q1,by
    rintro x S2 v H2 ad2 ⟨o,g,b',e',q2⟩ w2 st2 r2;obtain⟨p,o',rfl,g',h⟩:=Oi st2 r2 (r1.wd w2) g;have e:o'.isSome=o.isSome:=by rcases h with⟨rfl,rfl⟩|⟨d',w,rfl,rfl,_⟩<;>rfl
    cases e';exact⟨p,o',rfl,g',_,rfl,by rw[e];exact k _ S2 H2 ad2 q2 (w1.trans w2) st2⟩⟩⟩)
def ķ (hr:zQ j X.A)(ho:PD X a td)(hi:PD X b ti)(hz:PD X c tz)(m:M2 X a "get" apos b c cpos:=by exact⟨rfl,rfl,rfl,rfl⟩):PD X (.Call (.Attribute a "get" apos) [b,c] [] cpos) (M6 td ti tz):=by with_unfolding_all exact(zY (bK (Ul hr) ho hi hz m) fun U H Q hh=>ZS hh fun aD Z S Q0 st rh q k =>
 ⟨aD,Z,S,_,st,rh,q,by
  rintro x S1 v H1 ad1 ⟨hd,q1⟩ w1 st1 r1;obtain⟨p,rfl,hp⟩:=gG st1 r1 hd
  exact⟨p,rfl,hp,ad1,Z,S1,_,st1,rh.wd w1,q1,fun y S2 u H2 ad2 q2 w2 st2 r2=>⟨ad2,Z,S2,_,st2,rh.wd (w1.trans w2),q2,by
   rintro z S3 uz H3 ad3 ⟨o,g,q3⟩ w3 st3 r3;obtain⟨p',o',e,g',h⟩:=Oi st3 (r1.wd (w2.trans w3)) (r2.wd w3) g;cases e;refine⟨o',g',?_⟩;rcases h with⟨rfl,rfl⟩|⟨d',w,rfl,rfl,rw'⟩
   ·exact k _ S3 _ H3 ad3 q3 ((w1.trans w2).trans w3) st3 r3
   ·exact k _ S3 _ H3 ad3 q3 ((w1.trans w2).trans w3) st3 rw'⟩⟩⟩)
def ņ {tk:DE}(hk:PD X a tk)(hv:PD X b tv):PD X (.Dict [some a] [b] pos) (Gr tk tv):=by with_unfolding_all exact(zY (zse (ĉ hk hv gP) rfl rfl (by intro h;cases h) (qI rfl)) fun U H Q hh=>ZS hh fun aD Z S Q0 st rh q k p hp =>
 ⟨aD++[p],Z,S++[.dk []],_,st.newC (c:=.dk []) hp ⟨[],zK,.nil⟩,rh.wd (Wd.newL st hp),(show tk Z (S++[.dk []]) _ from q),fun x S1 v H1 ad1 q1 w1 st1 r1=>⟨ad1,Z,S1,_,st1,(rh.wd (Wd.newL st hp)).wd w1,q1,by
  rintro y S2 u H2 ad2 ⟨z,ex,hn,q2⟩ w2 st2 r2;subst ex;cases r1;have w12:=(Wd.newL (o:=.dK []) st hp).trans (w1.trans w2)
  have e:ad2[S.length]?=some p:=by refine Td (w1.trans w2).pre ?_;rw[<- st.len,qe (qh _),Yj];rfl
  obtain⟨vs,hv',r⟩:=st2.cell S.length _ _ e hn;cases r;have h1:∀ xs,HO.dK []≠.tup xs:=fun _ z=>by cases z
  have h2:∀ q u,HO.dK []≠.frz q u:=fun _ _ z=>by cases z
  have w':=Wd.putC (o':=.dK [((Sum.inr z:Key),u)]) e hv' h1 h2;exact⟨hv',[((Sum.inr z:Key),u)],rfl,qI rfl,k _ _ _ _ _ q2 (w12.trans w') (st2.putC e hv' h1 h2 ⟨_,zK,.cons (r2.wd w') .nil⟩) (.ref e)⟩⟩⟩)
end
section
variable {X:Cx}{a b:Expr}{ta tb:DE}{pos apos cpos:Pos}[B:Bs]
end
section
variable {X:Cx}{a b:Expr}{ta tb:DE}{pos apos cpos:Pos}[B:Bs]
end
section
variable {X:Cx}{a b:Expr}{ta tb:DE}{pos apos cpos:Pos}[B:Bs]
end
section
variable {X:Cx}{tg:Expr}{pos:Pos}{b:Nat}[B:Bs]
end
section
variable {X:Cx}{a:Expr}{pos:Pos}[B:Bs]
end
section
variable {X:Cx}{sc:Scope}{tg iter elt:Expr}{ifs:List Expr}{own free:List Str}{fv:List Nat}{pos:Pos}
variable [B:Bs]
end
end Dp
namespace My
open PySem PySem.Spec PyProof.Rows L2
section
variable {X:Cx}{Z9 pl:List (Addr×Obj)}{U:L2.St}{H H':Hp}{s:Shared}{a:Addr}{o:Obj}
end
end My
namespace Dp
open PySem PySem.Spec PyProof.Rows L2 My
section
variable {K:PySem.W.Frag}{aD:List Addr}{H H':Hp}{S:Z7}[B:Bs]
end
class Fl (α:Type) where
 fl:α
instance flP:Fl Prop:=⟨False⟩
instance flF {α β:Type} [Fl β]:Fl (α->β):=⟨fun _=>Fl.fl⟩
abbrev ZM {α:Type}[Fl α](b:Bool)(t:α):α:=match b with
 |true=>t
 |false=>Fl.fl
abbrev ob {β:Type}[Fl β](o:Option α)(f:α->β):β:=match o with
 |some a=>f a
 |none=>Fl.fl
def Wt {α:Type}[Fl α]{Q:α->Prop}{b:Bool}{t:α}(hf:Q Fl.fl)(h:b=true->Q t):Q (ZM b t):=by
 cases b with
 |true=>exact h rfl
 |false=>exact hf
def Ol {α β:Type}[Fl β]{Q:β->Prop}{o:Option α}{f:α->β}(hf:Q Fl.fl)(h:∀ a,o=some a->Q (f a)):Q (ob o f):=by
 cases o with
 |some a=>exact h a rfl
 |none=>exact hf
inductive Al {α:Type}(P:α->Prop):List α->Prop
 |nil:Al P []
 |cons {x:α} {l:List α} (h:P x) (t:Al P l):Al P (x::l)
def Al.mem {α:Type}{P:α->Prop}{l:List α}(a:Al P l):∀ x∈l,P x:=by
 induction a with
 |nil=>intro x h;cases h
 |cons h t ih =>
  intro x hx;rcases ql.mp hx with rfl|hx
  ·exact h
  ·exact ih x hx
def z9 {a b:Bool}(h:(a&&b)=true):a=true/\b=true:=by simpa using h
def Zw {a:Bool}(h:(!a)=true):a=false:=by simpa using h
def sh (x:Str):Nat:=x.cps.toList.foldl (fun a c=>a*977+c) 1
def se (a b:Str):Bool:=(sh a).beq (sh b)&&a==b
def Li {a b:Str}:se a b=(a==b):=by
 unfold se;cases h:a==b with
 |false=>rw[O9]
 |true=>rw[eq_of_beq h,Nat.beq_refl];rfl
def Tg {a b:Str}(h:se a b=true):a=b:=eq_of_beq (Li.symm.trans h)
def Zx {α:Type}(x:Str):List (Str×α)->Option α
 |[]=>none
 |(y,v)::r=>match se x y with
  |true=>some v
  |false=>Zx x r
theorem Um {α:Type}{x:Str}:∀ {l:List (Str×α)},Zx x l=l.lookup x
 |[]=>rfl
 |(y,v)::r=>by
  unfold Zx;rw[qq,Li];cases x==y with
  |true=>rfl
  |false=>exact Um
theorem RV {α:Type}{x:Str}{v:α}:∀ {l:List (Str×α)},Zx x l=some v->(x,v)∈l
 |(y,u)::r,h=>by
  unfold Zx at h;cases e:se x y with
  |true=>rw[e]at h;cases h;rw[Tg e];exact qP
  |false=>rw[e]at h;exact qi _ (RV h)
def slt (x:Str):List Str->Option Nat
  |[]=>none
  |y::r=>match se x y with
    |true=>some 0
    |false=>(slt x r).map (· + 1)
theorem Rq {x:Str}:∀ {l:List Str} {i:Nat},slt x l=some i->l[i]?=some x
 |y::r,i,h=>by
  unfold slt at h;cases e:se x y with
  |true=>rw[e]at h;cases h;rw[Tg e];rfl
  |false =>rw[e]at h;obtain⟨j,hj,rfl⟩:=PN.mp h;exact Rq (l:=r) hj
def has (x:Str):List Str->Bool
 |[]=>false
 |y::r=>se x y||has x r
inductive Bt where
 |len|abs|max|min|sum|any|all|isi|sorted|range|zip|enum|rev|set|tuple|list|int|bool|str
 deriving DecidableEq
def Bt.nm:Bt->Str
 | .len=>"len" | .abs=>"abs" | .max=>"max" | .min=>"min" | .sum=>"sum" | .any=>"any" | .all=>"all" | .isi=>"isinstance" | .sorted=>"sorted" | .range=>"range"
 | .zip=>"zip" | .enum=>"enumerate" | .rev=>"reversed" | .set=>"set" | .tuple=>"tuple" | .list=>"list" | .int=>"int" | .bool=>"bool" | .str=>"str"
def Bt.ty:Bt->Option String
 | .tuple=>some "tuple" | .list=>some "list" | .int=>some "int" | .bool=>some "bool" | .str=>some "str" | _=>none
def Bt.id:Bt->String
 | .len=>"len" | .abs=>"abs" | .max=>"max" | .min=>"min" | .sum=>"sum" | .any=>"any" | .all=>"all" | .isi=>"isinstance" | .sorted=>"sorted" | _=>""
inductive Y5 where
 |fn (k:Nat) (ps:List Str) (sp:ZV)
 |fx (k:Nat) (ps:List Str) (sp:Y6)
 |cl (k:Nat) (sp:ZV)
 |cx (k:Nat) (c:Str) (init:Y6)
 |int (n:Int)
 |str (z:Str)
 |kt (cs:List (List D))
 |blt (b:Bt)
structure Gm where
 g:List (Str×Y5)
 r:List Str:=[]
 t:List (Str×List Str):=[]
 i:List (Str×List (Str×Bool)):=[]
 f:List (Str×Str):=[]
structure RC where
 g:Gm
 nm:List (Str×NameKind)
 fl:List (Str×NameKind)
 N:List Str
 j:Nat
 ex:XR:=xF
 m:Nat:=0
 calm:Bool:=true
 top:Bool:=true
 d:List (Str×Option Bool):=[]
 it:Bool:=false
 dn:Option (Option Bool):=none
 cls:Str:=Str.empty
 xs:List Str:=[]
 lm:Option Str:=none
structure Zy where
 e:RC->Expr->DE
 t:RC->Expr->DT
 s:RC->List Stmt->DS
def IsL (K:PySem.W.Frag)(l:List (Str×Bool))(v:Value):Prop:=∀ c b C,l.lookup c=some b->PySem.W.nsIn K mainGlobals c=some (some (.ref C))->V9 K C/\PySem.W.kitOne K (.ref C) v=some b
section
variable (P:Program)(w:World)(K:PySem.W.Frag)(mg:Str->Option Value)(base:Heap)
def uH (j:Nat)(x:Str):Y5->Prop
 |.fn k ps sp=>k<=j->Got P w K mg base k x ps (Xl K sp)
 |.fx k ps sp=>k<=j->mQ P w K mg base k x ps (Uj K sp)
 |.cl k sp=>k+1<=j->GK P w K mg base k x (Xl K sp)
 |.cx k c init=>k+1<=j->Bb P w K mg base k x c init
 |.int n=>∃ t,mg x=some (.int n t)
 |.str z=>∃ t,mg x=some (.str z t)
 |.kt _=>False
 |.blt b=>x=b.nm/\mg x=none
structure UJ (j:Nat)(G:Gm):Prop where
 g:∀ x e,(x,e)∈G.g->uH P w K mg base j x e
 r:∀ x,x∈G.r->(∀ C,PySem.W.nsIn K mainGlobals x=some (some (.ref C))->Ld K C)/\∃ C,PySem.W.nsIn K mainGlobals x=some (some (.ref C))/\mg x=some (.ref C)
 t:∀ x (l:List Str),(x,l)∈G.t->∃ Cc,mg x=some (.ref Cc)/\∀ c C,l.contains c=true->PySem.W.nsIn K mainGlobals c=some (some (.ref C))->PySem.W.exmOne K (.ref C) (.ref Cc)=some true
 i:∀ x (l:List (Str×Bool)),(x,l)∈G.i->(∃ Cc,mg x=some (.ref Cc)/\IsL K l (.ref Cc))\/∃ T,mg x=none/\bootBuiltins x=some (.type T)/\IsL K l (.type T)
 f:∀ c f,(c,f)∈G.f->∀ C,PySem.W.nsIn K mainGlobals c=some (some (.ref C))->V2 K C f
end
def õ (X:Cx):Option Str->Prop
 |none=>True
 |some _=>False
structure RC.Ok0 (c:RC)(X:Cx):Prop where
 nm:X.env.scope.names=c.nm
 N:X.N=c.N
 nd:c.N.Nodup
 rm:c.calm=true->zQ c.j X.A
 fn:∀ x,Zx x c.fl=some .cell->X.fn x=true
 calm:c.calm=true->X.calm=true
 xe:c.m=0->X.xe=fun _ _=>False
 po:c.m<=1->PassesOwn (model X.prog X.w) X.A X.env X.xe
 kind:X.env.scope.kind=.function
 top:c.top=true->X.stack=X.env::X.outer/\X.env.frame=some X.env.locals
 gm:UJ X.prog X.w X.K X.mg X.base c.j c.g
 lm:õ X c.lm
structure RC.Ok [B:Bs](c:RC)(X:Cx):Prop extends RC.Ok0 c X where
 hX:QW X c.ex
 hM:c.m=1->Ed X c.ex
variable [B:Bs]
section
variable {X:Cx}{c:RC}
def RC.Ok.kd (ok:c.Ok X){x:Str}:X.env.kindOf x=Zx x c.nm:=by rw[Um,<- ok.nm];rfl
def Zq {e:Expr}:PD X e Fl.fl:=by
 with_unfolding_all
 exact by rintro Z9 s U H Q I ⟨_,_,_,_,_,_,h,_⟩;exact h.elim
def G6 {e:Expr}:Yy X e Fl.fl:=by
 with_unfolding_all
 exact by rintro Z9 s U H Q I ⟨_,_,_,_,_,_,h,_⟩;exact h.elim
def jG {e:Expr}:Ug X e Fl.fl:=by
 with_unfolding_all
 exact by rintro wh Z9 s U H Q I ⟨_,_,_,_,_,_,h,_⟩;exact h.elim
def gU {es:List Expr}:PAD X es Fl.fl:=by
 with_unfolding_all
 exact by rintro pos Z9 s U H Q I ⟨_,_,_,_,_,_,h,_⟩;exact h.elim
def Bm {st:Stmt}:Zv X st Fl.fl:=by
 with_unfolding_all
 exact by rintro Z9 s U H D I ⟨_,_,_,_,_,_,h,_⟩;exact h.elim
def Xg {e:Expr}{b:Bool}{t:DE}(h:b=true->PD X e t):PD X e (ZM b t):=Wt Zq h
def Ru {α:Type}{e:Expr}{o:Option α}{f:α->DE}(h:∀ a,o=some a->PD X e (f a)):PD X e (ob o f):=Ol Zq h
def Wv {e:Stmt}{b:Bool}{t:DS}(h:b=true->Zv X e t):Zv X e (ZM b t):=Wt Bm h
def JC {α:Type}{e:Stmt}{o:Option α}{f:α->DS}(h:∀ a,o=some a->Zv X e (f a)):Zv X e (ob o f):=Ol Bm h
def ztw {sts:List Stmt}:Xj X sts Fl.fl:=by
 with_unfolding_all
 exact by rintro Z9 s U H D I ⟨_,_,_,_,_,_,h,_⟩;exact h.elim
end
end Dp
namespace Dp
open PySem PySem.Spec PyProof.Rows L2 My
def Ma:Expr->Bool
 |.Slice _ _ _ _=>true
 |_=>false
def Rn:Expr->Bool
 |.Call _ [] [] _=>true
 |_=>false
def rJ:Expr->Bool
 |.UnaryOp .Not _ _=>true
 |.BoolOp _ _ _=>true
 |.IfExp _ _ _ _=>true
 |.Compare _ _ _ _=>true
 |_=>false
def isSet:Expr->Bool
 |.Set _ _ _=>true
 |_=>false
def Ck:Expr->Bool
 |.ListComp _ _ _ _=>true
 |.SetComp _ _ _ _=>true
 |.DictComp _ _ _ _ _=>true
 |_=>false
def isTup:Expr->Bool
 |.Tuple _ _ _=>true
 |_=>false
def Yw (es:List Expr):Bool:=es.all fun e=>!isStar e
def kids:Expr->List Expr
 |.BoolOp _ vs _=>vs
 |.BinOp a _ b _=>[a,b]
 |.UnaryOp _ a _=>[a]
 |.IfExp a b c _=>[a,b,c]
 |.Compare a _ bs _=>a::bs
 |.Call f as ks _=>f::as++ks.map fun k=>match k with|⟨_,v,_⟩=>v
 |.FormattedValue a _ _ _=>[a]
 |.JoinedStr vs _=>vs
 |.Attribute a _ _=>[a]
 |.Subscript a b _=>[a,b]
 |.List es _=>es
 |.Tuple es _ _=>es
 |.Slice a b c _=>a.toList++b.toList++c.toList
 |.Dict _ vs _=>vs
 |_=>[]
def nms:Nat->Expr->List Str
 |_,.Name x _=>[x]
 |n+1,.ListComp e [⟨tg,it,ifs,_⟩] _ _=>nms n it++((e::ifs).flatMap (nms n)).filter fun y=>!has y (nms n tg)
 |n+1,e=>(kids e).flatMap (nms n)
 |0,_=>[]
def K6:Nat->Expr->Bool
 |_,.IfExp _ _ _ _=>true
 |n+1,.ListComp e [⟨_,it,ifs,_⟩] _ _=>K6 n e||K6 n it||ifs.any (K6 n)
 |n+1,e=>(kids e).any (K6 n)
 |0,_=>false
def Kf:Nat->List Stmt->Bool
 |n+1,b=>match b.getLast? with
  |some (.Return _ _)=>false
  |some (.Raise _ _ _)=>false
  |some (.Continue _)=>false
  |some (.Break _)=>false
  |some (.If _ a o _)=>Kf n a||Kf n o
  |_=>true
 |0,_=>true
def oW:Stmt->Bool
 |.Assign _ (.BoolOp _ _ _) _=>true
 |.Assign _ v _=>K6 30 v
 |.If _ a b _=>Kf 30 a&&Kf 30 b
 |_=>false
def cop:CmpOp->Option Zt
 |.Eq=>some oEq
 |.NotEq=>some XS
 |.Lt=>some oLt
 |.LtE=>some oLe
 |.Gt=>some Yk
 |.GtE=>some JD
 |.Is=>some Rx
 |.IsNot=>some Wx
 |.In=>some Uk
 |.NotIn=>some RL
def xX:Operator->Option Zt
 |.Add=>some zW
 |.Sub=>some Zm
 |.Mult=>some Y7
 |.FloorDiv=>some oDiv
 |.Mod=>some oMod
 |_=>none
def Lb (it:Bool):Bt->Nat->Option DB
 |.len,1=>some Za
 |.abs,1=>some Jy
 |.max,2=>some RT
 |.min,2=>some Pb
 |.max,1=>some JT
 |.min,1=>some MF
 |.all,1=>some Wz
 |.list,1=>some O6
 |.int,1=>match it with
  |true=>none
  |false=>some Nt
 |.isi,2=>some Tp
 |_,_=>none
def HB:List (Str×Nat×DM):=[
 ("pop",9,Km),
 ("append",1,V1)]
def Nj (m:Str)(k:Nat):List (Str×Nat×DM)->Option DM
 |[]=>none
 |(y,j,r)::l=>match Nat.beq k j&&se m y with
  |true=>some r
  |false=>Nj m k l
def gl (c:RC)(x:Str):Bool:=Zx x c.nm==some .globalImplicit&&!se x "__debug__"&&!se x "__name__"
def vis (c:RC)(x:Str):Bool:=(Zx x c.nm==some .local||Zx x c.nm==some .cell||Zx x c.nm==some .free)&&!se x "__debug__"&&!se x "__classdict__"
def WM (c:RC)(x:Str):Bool:=Zx x c.nm==some .local||(Zx x c.nm==some .cell&&Zx x c.fl==some .cell)
def isD (c:RC):Expr->Bool
 |.Name x _=>(Zx x c.d).isSome
 |_=>false
abbrev RC.quiet (c:RC):RC:={ c with ex:=xF,m:=0 }
def rA (r:Zy)(c:RC):List Expr->DA
 |[]=>zm
 |e::es=>ZM (!isStar e) (zc (r.e c e) (rA r c es))
def JW (r:Zy)(c:RC)(op:BoolOp):List Expr->DE
 |[]=>Fl.fl
 |[a]=>r.e c a
 |a::b::l=>match op with
  |.And=>Ro (r.e c a) (JW r c op (b::l))
  |.Or=>rQ (r.e c a) (JW r c op (b::l))
def Iv (r:Zy)(c:RC)(op:BoolOp):List Expr->DT
 |[]=>Fl.fl
 |[a]=>r.t c a
 |a::b::l=>match op with
  |.And=>WY (r.t c a) (Iv r c op (b::l))
  |.Or=>Xp (r.t c a) (Iv r c op (b::l))
def Ge (c:RC)(x:Str):DE:=match slt x c.N with
 |some i=>ZM (vis c x) (YM i)
 |none=>ZM (gl c x) (ob (Zx x c.g.g) fun
  |.int n=>dC (.int n)
  |.str z=>dC (.str z)
  |.blt b=>ob b.ty fun T=>dC (.ty T)
  |_=>Fl.fl)
def BJ (r:Zy)(c:RC)(a:Expr)(op:Operator)(b:Expr):DE:=match a,op,b with
 |.Constant (.int i) _ _,.Pow,.Constant (.int j) _ _=>ZM (decide (0<=j/\j<=1000000/\i.natAbs<2 ^ 64)) (dC (.int (i ^ j.toNat)))
 |a,op,b=>ob (xX op) fun o=>Z6 o (r.e c a) (r.e c b)
def Fq (r:Zy)(c:RC)(a:Expr):List CmpOp->List Expr->DE
 |[op],[b]=>ZM (c.calm&&!behindInMarks op b) (match op,isD c b with
  |.In,true=>Oz (r.e c a) (r.e c b)
  |.NotIn,true=>SJ (r.e c a) (r.e c b)
  |_,_=>ob (cop op) fun o=>Z6 o (r.e c a) (r.e c b))
 |[op,op'],[b,d]=>ZM (c.calm&&!lastMarks [op,op'] [b,d]) (ob (cop op) fun o=>ob (cop op') fun o'=>Oj o o' (r.e c a) (r.e c b) (r.e c d))
 |_,_=>Fl.fl
def rO (r:Zy)(c:RC):Option Expr->Option DE
 |none=>none
 |some e=>some (r.e c e)
def wU (r:Zy)(c:RC)(a b:Expr):DE:=ZM (!Ma b&&c.calm) (match isD c a with
  |true=>Vt (r.e c a) (r.e c b)
  |false=>Z6 ZQ (r.e c a) (r.e c b))
def G5 (r:Zy)(c:RC)(a:Expr):Expr->DE
 |.Slice lo hi none _=>Uo Ut (r.e c a) (rO r c lo) (rO r c hi)
 |b=>wU r c a b
structure Zy.Ok (r:Zy):Prop where
 e:∀ [Bs] {c:RC} {X:Cx},c.Ok X->∀ e,PD X e (r.e c e)
 t:∀ [Bs] {c:RC} {X:Cx},c.Ok X->∀ e,Yy X e (r.t c e)
 s:∀ [Bs] {c:RC} {X:Cx},c.Ok X->∀ e,Xj X e (r.s c e)
section
variable {b o e:Expr}{env:Env}
def bG (h:Ma b=false):Es b:=by cases b<;>first|(intro _ _;rfl)|cases h
def eG (h:Ma b=false):Iz b:=by cases b<;>first|(intro _ _;rfl)|cases h
def Ox (h:Rn o=false){m:Str}{w:Sem Value}:attributeBase o m env w=w:=by
  cases o with
  |Call f a k p=>cases f<;>cases a<;>cases k<;>first|rfl|cases h
  |_=>rfl
def zxs (h:rJ e=false)(w:Sem Value):isTrue e env w=(do let v <- w;standAt e.pos;holding [v] (truthy v)):=by
  cases e with
  |UnaryOp op a p=>cases op<;>first|rfl|cases h
  |_=>first|rfl|cases h
def yd (h:isSet e=false)(x:Value):foldedSetIterable e env x=pure x:=by cases e<;>first|rfl|cases h
def pW (h:Ck e=false){t:Option Expr}{l:Nat}:swapsWith e t l env=pure false:=by cases e<;>first|rfl|cases h
def JB {es:List Expr}{pos:Pos}(h:Yw es=true):(backTo pos (starEach es env)).any (·.1)=false:=HD h
end
variable [B:Bs]
section
variable {X:Cx}{c:RC}{r:Zy}
def Oa (ok:c.Ok X){x:Str}(h:gl c x=true):Gl X x/\(x==("__debug__":Str))=false/\x≠"__name__":=by simp only[gl,qr]at h;obtain⟨⟨h1,h2⟩,h3⟩:=h;rw[Li]at h2 h3;exact⟨ok.kd.trans (eq_of_beq h1),Zw h2,fun e=>by rw[e]at h3;simp at h3⟩
def kJ (ok:c.Ok X){x:Str}(h:vis c x=true):L2.Vis X.env.scope x/\(x==("__debug__":Str))=false/\(x==("__classdict__":Str))=false:=by
 simp only[vis,qr]at h;obtain⟨⟨h1,h2⟩,h3⟩:=h;rw[Li]at h2 h3;refine⟨?_,Zw h2,Zw h3⟩;unfold L2.Vis;rw[ok.nm,<- Um];simp only[Ql,beq_iff_eq]at h1;rcases h1 with(h|h)|h
 ·exact .inl h
 ·exact .inr (.inl h)
 ·exact .inr (.inr h)
def Ke (ok:c.Ok X){x:Str}(h:WM c x=true):L2.Loc X.env.scope x/\(X.fn x=true\/X.env.scope.names.lookup x=some .local):=by
 unfold L2.Loc;rw[ok.nm,<- Um];simp only[WM,Ql,qr,beq_iff_eq]at h;rcases h with h|⟨h,h'⟩
 ·exact⟨.inl h,.inr h⟩
 ·exact⟨.inr h,.inl (ok.fn x h')⟩
theorem V8 (hr:r.Ok)(ok:c.Ok X):∀ {es:List Expr},PAD X es (rA r c es)
 |[]=>yu
 |e::es=>Wt (Q:=PAD X (e::es)) gU fun h=>rD (hr.e ok e) (V8 hr ok) (VD (Zw h))
theorem G9 (hr:r.Ok)(ok:c.Ok X){op:BoolOp}{pos:Pos}:∀ {es:List Expr},PD X (.BoolOp op es pos) (JW r c op es)
 |[]=>Zq
 |[a]=>ak (hr.e ok a)
 |a::b::l=>by
  cases op with
  |And=>exact zso (hr.e ok a) (G9 hr ok)
  |Or=>exact j5 (hr.e ok a) (G9 hr ok)
theorem DR (hr:r.Ok)(ok:c.Ok X){op:BoolOp}{pos:Pos}:∀ {es:List Expr},Ug X (.BoolOp op es pos) (Iv r c op es)
 |[]=>jG
 |[a]=>by
  cases op with
  |And=>exact fP (hr.t ok a)
  |Or=>exact zrh (hr.t ok a)
 |a::b::l=>by
  cases op with
  |And=>exact jO (hr.t ok a) (DR hr ok)
  |Or=>exact zu1 (hr.t ok a) (DR hr ok)
def bF {b:Bt}{T:String}(h:b.ty=some T):bootBuiltins b.nm=some (.type T):=by cases b<;>cases h<;>first|exact boot_tuple|exact boot_list|exact boot_int|exact boot_bool|exact boot_str
def gY (ok:c.Ok X){x:Str}{pos:Pos}:PD X (.Name x pos) (Ge c x):=by
 unfold Ge;cases hs:slt x c.N with
 |some i=>exact Xg fun h=>let ⟨h1,h2,h3⟩:=kJ ok h;jq i (ok.N.symm▸Rq hs) h1 h2 h3
 |none =>
  refine Xg fun h=>Ru fun en he=>?_
  obtain⟨h1,h2,h3⟩:=Oa ok h;have g:=ok.gm.g _ _ (RV he);cases en with
  |int n=>exact fX h1 g h2
  |str z=>exact zsc h1 g h2
  |blt b =>
   refine Ru fun T hT=>?_
   obtain⟨rfl,g⟩:=g;exact zw9 h1 g (bF hT) h3 h2
  |_=>exact Zq
def Ä {op:Operator}{o:Zt}(h:xX op=some o){pos:Pos}(ha:PD X a ta)(hb:PD X b tb):PD X (.BinOp a op b pos) (Z6 o ta tb):=by
 cases op with
 |Add=>cases h;exact ztR ha hb
 |Sub=>cases h;exact zs9 ha hb
 |Mult=>cases h;exact Ā ha hb
 |FloorDiv=>cases h;exact ztX ha hb
 |Mod=>cases h;exact zvx ha hb
 |_=>cases h
def fL (hr:r.Ok)(ok:c.Ok X){a b:Expr}{op:Operator}{pos:Pos}:PD X (.BinOp a op b pos) (BJ r c a op b):=by
 unfold BJ;split
 ·exact Xg fun h=>cH _ rfl (of_decide_eq_true h)
 ·exact Ru fun o h=>Ä h (hr.e ok _) (hr.e ok _)
theorem O5 {k:Nat}(hr:zQ k X.A):∀ {op:CmpOp} {o:Zt},cop op=some o->OC X op o
 |.Eq,_,rfl=>Ĵ hr
 |.NotEq,_,rfl=>ϋ hr
 |.Lt,_,rfl=>zx0
 |.LtE,_,rfl=>zwK
 |.Gt,_,rfl=>zwY
 |.GtE,_,rfl=>zwE
 |.Is,_,rfl=>zwC
 |.IsNot,_,rfl=>iJ
 |.In,_,rfl=>jj hr
 |.NotIn,_,rfl=>Đ hr
abbrev PB (X:Cx)(e:Expr)(t:DE):Prop:=PD X e t/\Yy X e (dT t)
def Wu {e:Expr}:PB X e Fl.fl:=⟨Zq,G6⟩
theorem yQ (hr:r.Ok)(ok:c.Ok X){a:Expr}{pos:Pos}:∀ {ops:List CmpOp} {bs:List Expr},PB X (.Compare a ops bs pos) (Fq r c a ops bs)
  |[op],[b]=>Wt (Q:=PB X _) Wu fun h=>by
    obtain⟨hc,hm⟩:=z9 h;have rm:=ok.rm hc;have ga:PB X (.Compare a [op] [b] pos) (ob (cop op) fun o=>Z6 o (r.e c a) (r.e c b)):=Ol (Q:=PB X _) Wu fun o ho=>⟨zrb (O5 rm ho) (hr.e ok a) (hr.e ok b) (Zw hm),Ś (O5 rm ho) (hr.e ok a) (hr.e ok b) (Zw hm)⟩
    cases hd:isD c b with
    |false=>cases op<;>exact ga
    |true =>
      cases op with
      |In=>exact⟨γ rm (hr.e ok a) (hr.e ok b) (Zw hm),zum rm (hr.e ok a) (hr.e ok b) (Zw hm)⟩
      |NotIn=>exact⟨j6 rm (hr.e ok a) (hr.e ok b) (Zw hm),znL rm (hr.e ok a) (hr.e ok b) (Zw hm)⟩
      |_=>exact ga
  |[op,op'],[b,d]=>Wt (Q:=PB X _) Wu fun h=>Ol (Q:=PB X _) Wu fun o ho=>Ol (Q:=PB X _) Wu fun o' ho'=>by obtain⟨hc,hm⟩:=z9 h;have rm:=ok.rm hc;exact⟨dF (O5 rm ho) (O5 rm ho') (hr.e ok a) (hr.e ok b) (hr.e ok d) (Zw hm),jR (O5 rm ho) (O5 rm ho') (hr.e ok a) (hr.e ok b) (hr.e ok d) (Zw hm)⟩
  |[],_=>Wu
  |[_],[]=>Wu
  |[_],_::_::_=>Wu
  |[_,_],[]=>Wu
  |[_,_],[_]=>Wu
  |[_,_],_::_::_::_=>Wu
  |_::_::_::_,_=>Wu
theorem v9 (hr:r.Ok)(ok:c.Ok X):∀ {e:Option Expr},PO X e (Mg X.K (rO r c e))
 |none=>zrN
 |some e=>zsg (hr.e ok e)
def Ĭ (hr:r.Ok)(ok:c.Ok X){a b:Expr}{pos:Pos}:PD X (.Subscript a b pos) (wU r c a b):=by
 refine Xg fun h=>?_
 obtain⟨h1,h2⟩:=z9 h;split
 ·exact zvi (ok.rm h2) (hr.e ok _) (hr.e ok _) (eG (Zw h1))
 ·exact zxL (hr.e ok _) (hr.e ok _) (bG (Zw h1))
def zrc (hr:r.Ok)(ok:c.Ok X){a b:Expr}{pos:Pos}:PD X (.Subscript a b pos) (G5 r c a b):=by
 unfold G5;split
 ·exact ı (hr.e ok a) (v9 hr ok) (v9 hr ok)
 ·exact Ĭ hr ok
end
end Dp
namespace Dp
open PySem PySem.Spec PyProof.Rows L2 My
def Rh (c:RC)(b:Nat):Nat->Expr->DG
 |_,.Name x _=>ob (slt x c.N) fun i=>ZM (Nat.blt i b&&WM c x) (zR i)
 |n+1,.Tuple es _ _=>ZM (Yw es&&c.calm) (YH es.length (es.foldr (fun e t=>zN (Rh c b n e) t) YK))
 |_,_=>Fl.fl
def Ir (K:PySem.W.Frag)(c:RC)(b:Nat):Nat->Expr->TG
 |_,.Name x _=>ob (slt x c.N) fun i=>ZM (Nat.blt i b&&WM c x) (L2.zR i)
 |n+1,.Tuple es _ _=>ZM (Yw es&&c.calm) (L2.YH K es.length (es.foldr (fun e t=>L2.zN (Ir K c b n e) t) L2.YK))
 |_,_=>Fl.fl
section
variable {env:Env}
def yU {e:Expr}{es:List Expr}(h:isStar e=false):assignEach (e::es) env=(false,assign e env)::assignEach es env:=by cases e<;>first|rfl|cases h
theorem Gv:∀ {es:List Expr},Yw es=true->(assignEach es env).length=es.length/\(assignEach es env).findIdx? (·.1)=none
 |[],_=>⟨rfl,rfl⟩
 |e::es,h=>by unfold Yw at h;rw[VB,qr]at h;obtain⟨h1,h2⟩:=Gv (es:=es) h.2;rw[yU (Zw h.1),qY,h1,List.findIdx?_cons,h2];exact⟨rfl,rfl⟩
end
section
variable [B:Bs]{K:PySem.W.Frag}{b:Nat}{c:RC}
def nC:∀ (n:Nat) (e:Expr),Wj K b (Rh c b n e) (Ir K c b n e):=by
 have fl:Wj K b (Fl.fl:DG) (Fl.fl:TG):=fun _ _ _ _ _ _ _ _ _ _ _ _ h _=>h
 have nm:∀ x,Wj K b (ob (slt x c.N) fun i=>ZM (Nat.blt i b&&WM c x) (zR i)) (ob (slt x c.N) fun i=>ZM (Nat.blt i b&&WM c x) (L2.zR i)):=fun x=>by
  cases slt x c.N with
  |none=>exact fl
  |some i =>
   show Wj K b (ZM (Nat.blt i b&&WM c x) (zR i)) (ZM (Nat.blt i b&&WM c x) (L2.zR i));cases h:Nat.blt i b&&WM c x with
   |false=>exact fl
   |true=>exact ϣ i (Nat.blt_eq.mp (z9 h).1)
 intro n
 induction n with
 |zero =>
  intro e;cases e with
  |Name x p=>exact nm x
  |_=>exact fl
 |succ n ih =>
  intro e;cases e with
  |Name x p=>exact nm x
  |Tuple es k p =>
   unfold Rh Ir;cases Yw es&&c.calm with
   |false=>exact fl
   |true =>
    refine dI ?_
    induction es with
    |nil=>exact zmI
    |cons e es ih2=>exact jZ (ih e) ih2
  |_=>exact fl
def Mq {X:Cx}{e:Expr}:PG X e Fl.fl:=fun _ _ _ _ _ _ _ _ _ h=>h.elim
theorem Ao {X:Cx}{f:Expr->TG}:∀ {es:List Expr},Yw es=true->(∀ e,PG X e (f e))->N5 X es (es.foldr (fun e t=>L2.zN (f e) t) L2.YK)
 |[],_,_=>Ę
 |e::es,h,hf=>by unfold Yw at h;rw[VB,qr]at h;exact Ó (hf e) (Ao h.2 hf) (by rw[yU (Zw h.1)];rfl)
def mV {X:Cx}(ok:c.Ok X):∀ (n:Nat) (e:Expr),PG X e (Ir X.K c b n e):=by
 have nm:∀ x p,PG X (.Name x p) (ob (slt x c.N) fun i=>ZM (Nat.blt i b&&WM c x) (L2.zR i)):=fun x p =>Ol (Q:=PG X _) Mq fun i hi=>Wt (Q:=PG X _) Mq fun h=>by obtain⟨h1,h2⟩:=Ke ok (z9 h).2;exact zqH (ok.N.symm▸ok.nd) (ok.N.symm▸Rq hi) h1 h2
 intro n
 induction n with
 |zero =>
  intro e;cases e with
  |Name x p=>exact nm x p
  |_=>exact Mq
 |succ n ih =>
  intro e;cases e with
  |Name x p=>exact nm x p
  |Tuple es k p=>exact Wt (Q:=PG X _) Mq fun h=>zsL (ok.calm (z9 h).2) (Ao (z9 h).1 ih) (Gv (z9 h).1).1 (Gv (z9 h).1).2
  |_=>exact Mq
def nu {X:Cx}(ok:c.Ok X)(n:Nat)(e:Expr):K7 X b e (Rh c b n e):=⟨_,mV ok n e,nC n e⟩
end
def Lg (c:RC):Expr->Option (Bt×List Expr)
 |.Call (.Name y _) as [] _=>match gl c y&&Yw as,Zx y c.g.g with
  |true,some (.blt b)=>some (b,as)
  |_,_=>none
 |_=>none
def jQ:List Expr->Bool
 |[.Constant (.int (.ofNat 0)) _ _]=>true
 |_=>false
def Ek (r:Zy)(c:RC)(a:Expr):Option DE:=match Lg c a with
 |some (.set,[x])=>some (dB Mf (rA r c.quiet [x]))
 |_=>none
def Bh (r:Zy)(c:RC)(a:Expr):Option DE:=match Lg c a with
 |_=>none
def CZ (r:Zy)(c:RC)(b:Bt)(es:List Expr):DE:=match b,es with
 |.len,[a]=>match isD c a,Ek r c a with
  |true,_=>Fl.fl
  |false,some t=>t
  |false,none=>dB Za (rA r c [a])
 |.list,[a]=>match Bh r c a with
  |some t=>t
  |none=>ob (Lb c.it .list 1) fun r'=>dB r' (rA r c [a])
 |b,es=>ob (Lb c.it b es.length) fun r'=>dB r' (rA r c es)
def Ht (r:Zy)(c:RC)(es:List Expr):Option DE:=match es with
 |[.Name e p,.Name T _]=>match has e c.xs&&gl c T with
  |true=>(Zx T c.g.i).map fun l=>TV l (r.e c (.Name e p))
  |false=>none
 |_=>none
def G4 (r:Zy)(c:RC)(b:Bt)(es:List Expr):DE:=match b,Ht r c es with
 |.isi,some t=>t
 |b,_=>ZM c.calm (CZ r c b es)
def yV (r:Zy)(c:RC)(es:List Expr):Y5->DE
 |.fn k _ sp=>ZM (k.ble c.j&&c.calm) (dCall sp (rA r c es))
 |.fx k _ sp=>ZM (k.ble c.j&&c.calm) (zV sp c.ex (rA r c es))
 |.cl k sp=>ZM ((k+1).ble c.j&&c.calm) (dCall sp (rA r c es))
 |.cx k n init=>ZM ((k+1).ble c.j&&c.calm) (zV (Dj n init) c.ex (rA r c es))
 |.blt b=>G4 r c b es
 |_=>Fl.fl
def BZ (r:Zy)(c:RC)(o:Expr)(m:Str)(es:List Expr):DE:=ob (Nj m (match jQ es&&se m "pop" with | true=>9 | false=>es.length) HB) fun r'=>dM r' (r.e c o) (rA r c es)
def Df (r:Zy)(c:RC)(o:Expr)(m:Str)(es:List Expr):DE:=match es with
 | [k]=>match se m "get" with
  |true=>Fl.fl
  |false=>Fl.fl
 | [k,z]=>ZM (se m "get") (M6 (r.e c o) (r.e c k) (r.e c z))
 |_=>Fl.fl
def vQ:List (Str×(DE->DE->DE)) :=[]
def uw (r:Zy)(c:RC)(o:Expr)(m:Str)(es:List Expr):DE:=match es with
 |[a]=>match Zx m vQ with
  |some t=>t (r.e c o) (r.e c a)
  |none=>BZ r c o m [a]
 |es=>BZ r c o m es
def wZ (r:Zy)(c:RC)(o:Expr)(m:Str)(ap:Pos)(es:List Expr)(cp:Pos):DE:=ZM (!Rn o&&(ap.endLine==cp.line)&&Yw es&&Nat.blt es.length 25&&c.calm) (match isD c o with
 |true=>Df r c o m es
 |false=>uw r c o m es)
variable [B:Bs]
section
variable {X:Cx}{c:RC}{r:Zy}
theorem RC.Ok.quiet (ok:c.Ok X):c.quiet.Ok (R6 X) :=⟨⟨ok.nm,ok.N,ok.nd,ok.rm,ok.fn,ok.calm,fun _=>rfl,fun _=>PassesOwn.never,ok.kind,ok.top,ok.gm,ok.lm⟩,Jc,(fun h=>nomatch h)⟩
def Mx (ok:c.Ok X){b:Bt}{e:Expr}{as:List Expr}(h:Lg c e=some (b,as)):∃ p q,e=.Call (.Name b.nm p) as [] q/\Yw as=true/\Gl X b.nm/\X.mg b.nm=none:=by
 unfold Lg at h;split at h
 ·rename_i y p as' q;split at h
  ·rename_i hb he;cases h;obtain⟨rfl,m⟩:=ok.gm.g _ _ (RV he);exact⟨p,q,rfl,(z9 hb).2,(Oa ok (z9 hb).1).1,m⟩
  ·cases h
 ·cases h
def lU {it:Bool}{b:Bt}{n:Nat}{r':DB}(hc:X.calm=true)(h:Lb it b n=some r'):(bootBuiltins b.nm=some (.builtin b.id)/\BC X (.builtin b.id) r')\/∃ T,bootBuiltins b.nm=some (.type T)/\BC X (.type T) r':=by
 unfold Lb at h;split at h
 ·cases h;exact .inl ⟨boot_len,Ω⟩
 ·cases h;exact .inl ⟨boot_abs,zub⟩
 ·cases h;exact .inl ⟨boot_max,ο hc⟩
 ·cases h;exact .inl ⟨boot_min,zr1 hc⟩
 ·cases h;exact .inl ⟨boot_max,zr5 hc⟩
 ·cases h;exact .inl ⟨boot_min,fY hc⟩
 ·cases h;exact .inl ⟨boot_all,Ŋ hc⟩
 ·cases h;exact .inr ⟨_,boot_list,Ń⟩
 ·cases it with
  |true=>cases h
  |false=>cases h;exact .inr ⟨_,boot_int,zt0⟩
 ·cases h;exact .inl ⟨boot_isinstance,zu7⟩
 ·cases h
theorem tX {m:Str}{k:Nat}{r':DM}:∀ {l:List (Str×Nat×DM)},Nj m k l=some r'->(m,k,r')∈l
 |(y,j,u)::l,h=>by
  unfold Nj at h;cases e:Nat.beq k j&&se m y with
  |true =>rw[e]at h;cases h;rw[Tg (z9 e).2,Nat.eq_of_beq_eq_true (z9 e).1];exact qP
  |false=>rw[e]at h;exact qi _ (tX h)
def kj (hr:zQ j X.A):Al (fun p=>∃ id,Slot "list" p.1 id/\typeOf (.builtin id)=pure (.type "method_descriptor")/\MD X id p.2.2) HB :=
 .cons ⟨_,PySem.F.slot_list_pop,PySem.F.type_list_pop,Ľ⟩ <|
 .cons ⟨_,PySem.F.slot_list_append,PySem.F.type_list_append,ñ⟩ .nil
def Ζ (hr:zQ j X.A){m:Str}{k:Nat}{r':DM}(h:Nj m k HB=some r'):∃ id,Slot "list" m id/\typeOf (.builtin id)=pure (.type "method_descriptor")/\MD X id r':=(kj hr).mem _ (tX h)
omit B in
def zH {e:Expr}{es:List Expr}(h:Yw (e::es)=true):isStar e=false/\Yw es=true:=by unfold Yw at h ⊢;rw[VB,qr]at h;exact⟨Zw h.1,h.2⟩
def Α (hr:r.Ok)(ok:c.Ok X)(hc:c.calm=true)(hg:Gl X "len")(hm:X.mg "len"=none){a:Expr}{t:DE}{p pos:Pos}(h:Ek r c a=some t):PD X (.Call (.Name "len" p) [a] [] pos) t:=by
 unfold Ek at h;split at h
 ·rename_i e1;cases h;obtain⟨p1,q1,rfl,n1,g1,m1⟩:=Mx ok e1;exact nZ (d9 (X:=R6 X) hg hm g1 m1 (V8 hr ok.quiet) (ok.calm hc) (U4 (zH n1).1))
 ·cases h
def í (hr:r.Ok)(ok:c.Ok X)(hc:c.calm=true)(hg:Gl X "list")(hm:X.mg "list"=none){a:Expr}{t:DE}{p pos:Pos}(h:Bh r c a=some t):PD X (.Call (.Name "list" p) [a] [] pos) t:=by
 have two:∀ {x y:Expr},Yw [x,y]=true->starEach [x,y] X.env=[(false,eval x X.env),(false,eval y X.env)]/\starEach [y] X.env=[(false,eval y X.env)]:=fun n=>by obtain⟨n1,n2⟩:=zH n;exact⟨NT n1 (zH n2).1,U4 (zH n2).1⟩
 unfold Bh at h;cases h
def zqt (hr:r.Ok)(ok:c.Ok X)(hc:c.calm=true){b:Bt}{x:Str}(hx:x=b.nm)(hg:Gl X x)(hm:X.mg x=none)(hn:x≠"__name__")(hd:(x==("__debug__":Str))=false){e:Expr}{es:List Expr}(hs:Yw (e::es)=true){p pos:Pos}:PD X (.Call (.Name x p) (e::es) [] pos) (CZ r c b (e::es)):=by
 obtain⟨s1,s2⟩:=zH hs;have he:starEach (e::es) X.env=(false,eval e X.env)::starEach es X.env:=VD s1;have hpl:(backTo pos (starEach es X.env)).any (·.1)=false:=JB s2
 have gen:∀ r',Lb c.it b (e::es).length=some r'->PD X (.Call (.Name x p) (e::es) [] pos) (dB r' (rA r c (e::es))):=fun r' h=>by
  rcases lU (ok.calm hc) h with⟨h1,h2⟩|⟨T,h1,h2⟩
  ·exact zyV h2 hm (hx▸h1) (V8 hr ok) hg hn hd he hpl
  ·exact bJ h2 hm (hx▸h1) (V8 hr ok) hg hn hd he hpl
 unfold CZ;split
 ·rename_i e0;cases e0;split
  ·exact Zq
  ·rename_i h;subst hx;exact Α hr ok hc hg hm h
  ·exact gen _ rfl
 ·rename_i e0;cases e0;split
  ·rename_i h;subst hx;exact í hr ok hc hg hm h
  ·exact Ru gen
 ·exact Ru gen
def zqX (hr:r.Ok)(ok:c.Ok X){es:List Expr}{t:DE}(h:Ht r c es=some t)(hg:Gl X "isinstance")(hm:X.mg "isinstance"=none){p pos:Pos}:PD X (.Call (.Name "isinstance" p) es [] pos) t:=by
 unfold Ht at h;split at h
 ·rename_i e p1 T p2;cases hb:has e c.xs&&gl c T with
  |false=>rw[hb]at h;cases h
  |true =>
   rw[hb]at h;obtain⟨l,hl,rfl⟩:=PN.mp h;obtain⟨g1,g2,g3⟩:=Oa ok (z9 hb).2;rcases ok.gm.i _ _ (RV hl)with⟨C,h1,h2⟩|⟨T',h0,h1,h2⟩
   ·exact aQ hg hm (hr.e ok _) g1 ⟨C,h1,h2⟩ g2
   ·exact iy hg hm (hr.e ok _) g1 ⟨h0,h2⟩ h1 g3 g2
 ·cases h
def ϊ (hr:r.Ok)(ok:c.Ok X){x:Str}(h:gl c x=true){e:Expr}{es:List Expr}(hs:Yw (e::es)=true){en:Y5}(he:Zx x c.g.g=some en){p pos:Pos}:PD X (.Call (.Name x p) (e::es) [] pos) (yV r c (e::es) en):=by
 obtain⟨h1,h2,h3⟩:=Oa ok h;obtain⟨s1,s2⟩:=zH hs;have hst:starEach (e::es) X.env=(false,eval e X.env)::starEach es X.env:=VD s1;have hpl:(backTo pos (starEach es X.env)).any (·.1)=false:=JB s2;have g:=ok.gm.g _ _ (RV he);have A:=V8 hr ok (es:=e::es);cases en with
 |fn k ps sp=>exact Xg fun q=>Õ (g (qI (z9 q).1)) (ok.rm (z9 q).2) A (qI (z9 q).1) h1 h2 hst hpl
 |fx k ps sp=>exact Xg fun q=>cj (g (qI (z9 q).1)) ok.hX (ok.rm (z9 q).2) A (qI (z9 q).1) h1 h2 hst hpl
 |cl k sp=>exact Xg fun q=>zs4 (g (qI (z9 q).1)) (ok.rm (z9 q).2) A (qI (z9 q).1) h1 h2 hst hpl
 |cx k n init=>exact Xg fun q=>zqn (g (qI (z9 q).1)) ok.hX (ok.rm (z9 q).2) A (qI (z9 q).1) h1 h2 hst hpl
 |int n=>exact Zq
 |str z=>exact Zq
 |kt cs=>exact Zq
 |blt b =>
  obtain⟨hx,hm⟩:=g;show PD X _ (G4 r c b (e::es));unfold G4;split
  ·rename_i ht;subst hx;exact zqX hr ok ht h1 hm
  ·exact Xg fun q=>zqt hr ok q hx h1 hm h3 h2 hs
omit B in
def GQ {env:Env}{pos:Pos}{es:List Expr}(hs:Yw es=true)(hl:es.length<25):((backTo pos (starEach es env)).all (fun x=>!x.1)&&(backToKw pos (keywordEach [] env)).all (fun x=>x.1.isSome)
  &&decide (es.length+([]:List Keyword).length+(if([]:List Keyword).isEmpty then 0 else 1)<30))=true:=by
 have h1:(backTo pos (starEach es env)).all (fun x=>!x.1)=true:=by have:=JB (env:=env) (pos:=pos) hs;rw[List.all_eq_not_any_not];simpa using this
 rw[h1];simp only[Bool.true_and];have:(backToKw pos (keywordEach [] env)).all (fun x=>x.1.isSome)=true:=rfl;rw[this,Bool.true_and];exact decide_eq_true (by show es.length+0+0<30;lia)
def wB (hr:r.Ok)(ok:c.Ok X){o:Expr}{m:Str}{es:List Expr}{ap cp:Pos}(h1:Rn o=false)(h2:(ap.endLine==cp.line)=true)(h3:Yw es=true)(h4:es.length<25)(h5:c.calm=true):PD X (.Call (.Attribute o m ap) es [] cp) (BZ r c o m es):=by
 refine Ru fun r' h=>?_
 obtain⟨id,sl,ty,md⟩:=Ζ (ok.rm h5) h;cases es with
 |nil=>exact zwe sl ty md (hr.e ok o) (Ox h1) h2
 |cons e es=>exact zy9 sl ty md (hr.e ok o) (V8 hr ok) (Ox h1) (GQ h3 h4) h2 (VD (zH h3).1) (JB (zH h3).2)
def zva (hr:r.Ok)(ok:c.Ok X){o:Expr}{m:Str}{es:List Expr}{ap cp:Pos}(h1:Rn o=false)(h2:(ap.endLine==cp.line)=true)(h3:Yw es=true)(h4:es.length<25)(h5:c.calm=true):PD X (.Call (.Attribute o m ap) es [] cp) (Df r c o m es):=by
 have rm:=ok.rm h5;unfold Df;split
 ·have s1:=U4 (env:=X.env) (zH h3).1;have M:∀ n,M1 X o n ap _ cp:=fun n=>⟨Ox h1,GQ h3 h4,h2,by rw[s1];rfl⟩
  split
  ·exact Zq
  ·exact Zq
 ·refine Xg fun e=>?_
  rw[Tg e];have s2:=NT (env:=X.env) (zH h3).1 (zH (zH h3).2).1;exact ķ rm (hr.e ok _) (hr.e ok _) (hr.e ok _) ⟨Ox h1,GQ h3 h4,h2,by rw[s2];rfl⟩
 ·exact Zq
def zsm:Al (fun p=>∀ {a b:Expr} {ta tb:DE} {ap cp:Pos},PD X a ta->PD X b tb->Rn a=false->isStar b=false->(ap.endLine==cp.line)=true->PD X (.Call (.Attribute a p.1 ap) [b] [] cp) (p.2 ta tb)) vQ :=.nil
def cA (hr:r.Ok)(ok:c.Ok X){o:Expr}{m:Str}{es:List Expr}{ap cp:Pos}:PD X (.Call (.Attribute o m ap) es [] cp) (wZ r c o m ap es cp):=by
 refine Xg fun h=>?_
 simp only[qr]at h;obtain⟨⟨⟨⟨h1,h2⟩,h3⟩,h4⟩,h5⟩:=h;have h4:=Nat.blt_eq.mp h4;have h1:=Zw h1;split
 ·exact zva hr ok h1 h2 h3 h4 h5
 ·unfold uw;split
  ·split
   ·rename_i e;exact zsm.mem _ (RV e) (hr.e ok _) (hr.e ok _) h1 (zH h3).1 h2
   ·exact wB hr ok h1 h2 h3 h4 h5
  ·exact wB hr ok h1 h2 h3 h4 h5
end
end Dp
namespace Dp
open PySem PySem.Spec PyProof.Rows L2 My
def JR (r:Zy)(c:RC)(tg it:Expr):DI:=match Lg c it with
 |some (.range,[a])=>Sd (rA r c [a])
 |some (.range,[a,b])=>M4 (rA r c [a,b])
 |some (.zip,[a,b])=>ZM (isTup tg) (Ka (rA r c [a,b]))
 |some (.enum,[a])=>ZM (isTup tg) (Wm (rA r c [a]))
 |_=>Zu (r.e c it)
def Nv (r:Zy)(c:RC)(tg:Expr):Expr->DI
 | .Call (.Attribute o m ap) es ks cp=>match se m "items" with
  |true=>ZM (isTup tg&&!Rn o&&(ap.endLine==cp.line)&&es.isEmpty&&ks.isEmpty) (J6 (r.e c o))
  |false=>JR r c tg (.Call (.Attribute o m ap) es ks cp)
 |it=>JR r c tg it
def rlb (y:Str×NameKind):Str×NameKind:=match y with
 |(n,.free)=>(n,.cell)
 |y=>y
def RC.inner (c:RC)(sc:Scope)(N:List Str):RC:={ c with nm:=sc.names.map rlb,fl:=sc.names,N:=N,ex:=xF,m:=0,top:=false,lm:=none }
def frees (own N:List Str)(l:List Str):List Str:=l.foldl (fun acc y=>match has y own||!has y N||has y acc with
 |true=>acc
 |false=>acc++[y]) []
def NK:List Str->Bool
 |[]=>true
 |x::l=>!has x l&&NK l
def Ik (c:RC)(sc:Scope):List Str->List Nat->Bool
 |[],[]=>true
 |x::xs,j::js=>slt x c.N==some j&&Zx x sc.names==some .free&&Zx x c.nm==some .cell&&Ik c sc xs js
 |_,_=>false
def oH (c:RC)(sc:Scope):Bool:=sc.kind==.function&&sc.names.all fun y=>match y.2 with
 |.free=>Zx y.1 c.nm==some .cell
 |.cell=>Zx y.1 sc.names==some .cell
 |.local=>Zx y.1 sc.names==some .local
 |_=>true
def Jt (r:Zy)(c ci:RC)(e tg it:Expr)(ifs:List Expr)(sc:Scope):DE :=
 let own:=nms 9 tg;let free:=frees own c.N ((e::ifs).flatMap (nms 30));let fv:=free.filterMap fun x=>slt x c.N
 let c1:=c.inner sc (own++free)
 ZM (oH c sc&&NK (own++free)&&Ik c sc free fv&&!isSet it&&c.calm) (Zi own.length fv (Nv r ci tg it) (Rh c1 own.length 9 tg) (match ifs with
  |[]=>Yn
  |[t]=>r.t c1 t
  |_=>Fl.fl) (r.e c1 e))
theorem Az {x:Str}:∀ {l:List Str},has x l=false->x∉l
 |[],_=>qK
 |y::r,h=>by
  unfold has at h;rw[Bool.or_eq_false_iff,Li]at h;intro m;rcases ql.mp m with e|m
  ·rw[e]at h;simp at h
  ·exact Az h.2 m
theorem Jm:∀ {l:List Str},NK l=true->l.Nodup
 |[],_=>List.nodup_nil
 |x::l,h=>VN.mpr ⟨Az (Zw (z9 h).1),Jm (z9 h).2⟩
variable [B:Bs]
section
variable {X:Cx}{c ci:RC}{r:Zy}
def Gy {tg e:Expr}:Xn X tg e Fl.fl:=by
 with_unfolding_all
 exact by rintro Z9 s U H R I ⟨_,_,_,_,_,_,h,_⟩;exact h.elim
def vV (hr:r.Ok)(ok:c.Ok X){tg it:Expr}:Xn X tg it (JR r c tg it):=by
 unfold JR;split
 ·rename_i e1;obtain⟨p,q,rfl,n1,g1,m1⟩:=Mx ok e1;exact â m1 (V8 hr ok) g1 (U4 (zH n1).1)
 ·rename_i e1;obtain⟨p,q,rfl,n1,g1,m1⟩:=Mx ok e1;exact zqp m1 (V8 hr ok) g1 (NT (zH n1).1 (zH (zH n1).2).1) (U4 (zH (zH n1).2).1)
 ·rename_i e1;obtain⟨p,q,rfl,n1,g1,m1⟩:=Mx ok e1;refine Wt (Q:=Xn X tg _) Gy fun h=>?_
  cases tg with
  |Tuple es k p=>exact ð g1 m1 (V8 hr ok) (NT (zH n1).1 (zH (zH n1).2).1) (U4 (zH (zH n1).2).1)
  |_=>cases h
 ·rename_i e1;obtain⟨p,q,rfl,n1,g1,m1⟩:=Mx ok e1;refine Wt (Q:=Xn X tg _) Gy fun h=>?_
  cases tg with
  |Tuple es k p=>exact ziK g1 m1 (V8 hr ok) (U4 (zH n1).1)
  |_=>cases h
 ·exact ţ (hr.e ok _)
def Gw (hr:r.Ok)(ok:c.Ok X){tg it:Expr}:Xn X tg it (Nv r c tg it):=by
 unfold Nv;split
 ·split
  ·rename_i o m ap es ks cp hm;refine Wt (Q:=Xn X tg _) Gy fun h=>?_
   simp only[qr]at h;obtain⟨⟨⟨⟨h1,h2⟩,h3⟩,h4⟩,h5⟩:=h;have e4:=List.isEmpty_iff.mp h4;have e5:=List.isEmpty_iff.mp h5;have e6:=Tg hm;subst e4 e5 e6;cases tg with
   |Tuple es k p=>exact kI (hr.e ok _) ⟨Ox (Zw h2),rfl,h3⟩
   |_=>cases h1
  ·exact vV hr ok
 ·exact vV hr ok
theorem uh (ok:c.Ok X){sc:Scope}:∀ {xs:List Str} {js:List Nat},Ik c sc xs js=true->Ve X sc xs js
 |[],[],_=>True.intro
 |x::xs,j::js,h=>by unfold Ik at h;simp only[qr]at h;obtain⟨⟨⟨h1,h2⟩,h3⟩,h4⟩:=h;exact⟨ok.N.symm▸Rq (eq_of_beq h1),Um.symm.trans (eq_of_beq h2),ok.kd.trans (eq_of_beq h3),uh ok h4⟩
structure Gi (X:Cx)(sc:Scope):Prop where
 kind:sc.kind=.function
 fr:Wy (fun x=>X.env.kindOf x=some .cell) sc.names
 cell:∀ y∈sc.names,y.2=.cell->sc.names.lookup y.1=some .cell
 loc:∀ y∈sc.names,y.2=.local->sc.names.lookup y.1=some .local
omit B in
theorem oE {P:Str->Prop}:∀ {l:List (Str×NameKind)},(∀ y∈l,y.2=.free->P y.1)->Wy P l
 |[],_=>True.intro
 |(n,k)::l,h=>by
  have t:=oE (l:=l) fun y hy=>h y (qi _ hy)
  cases k with
  |free=>exact⟨h _ qP rfl,t⟩
  |_=>exact t
def lZ (ok:c.Ok X){sc:Scope}(h:oH c sc=true):Gi X sc:=by
 obtain⟨h1,h2⟩:=z9 h;have g:=W6.mp h2;refine⟨eq_of_beq h1,oE fun y hy e=>?_,fun y hy e=>?_,fun y hy e=>?_⟩
 ·have:=g y hy;rw[e]at this;exact ok.kd.trans (eq_of_beq this)
 ·have:=g y hy;rw[e]at this;exact Um.symm.trans (eq_of_beq this)
 ·have:=g y hy;rw[e]at this;exact Um.symm.trans (eq_of_beq this)
theorem RC.Ok.inner (ok:c.Ok X)(hxe:X.xe=fun _ _=>False){N:List Str}(hs:Gi X sc)(hN:N.Nodup)(cl:List (Str×Addr))(C:Addr)(s₀:Shared)(H₀:Hp)(ex:List Addr):(c.inner sc N).Ok (My.inner X sc N cl C s₀ H₀ ex) where
 nm:=by
  refine List.map_congr_left fun y hy=>?_
  obtain⟨n,k⟩:=y;cases k with
  |free =>have:=Wy.of hs.fr _ hy rfl;show(if(NameKind.free==NameKind.free&&X.env.scope.kind==.function&&X.env.kindOf n==some .cell)=true then _ else _)=_;rw[if_pos (by rw[ok.kind,this];rfl)];rfl
  |_=>rfl
 N:=rfl
 nd:=hN
 rm:=ok.rm
 fn:=fun x h=>by rw[Um]at h;show(sc.names.lookup x==some .cell)=true;rw[show sc.names.lookup x=some .cell from h];rfl
 calm:=ok.calm
 xe:=fun _=>hxe
 hX:=Jc
 hM:=fun h=>nomatch h
 po:=fun _=>by show PassesOwn _ _ _ X.xe;rw[hxe];exact PassesOwn.never
 kind:=hs.kind
 top:=fun h=>nomatch h
 gm:=ok.gm
 lm:=trivial
structure LcH (X:Cx)(c ci:RC)(r:Zy)(e tg it:Expr)(ifs:List Expr)(sc:Scope)(own free:List Str)(fv:List Nat)(g:DG)(g':TG)(tc:DT)(te:DE):Prop where
 s:Gi X sc
 fv:Ve X sc free fv
 g:Wj X.K own.length g g'/\∀ cl C s₀ H₀ ex,PG (My.inner X sc (own++free) cl C s₀ H₀ ex) tg g'
 t:∀ cl C s₀ H₀ ex,Mv (My.inner X sc (own++free) cl C s₀ H₀ ex) ifs tc
 e:∀ cl C s₀ H₀ ex,PD (My.inner X sc (own++free) cl C s₀ H₀ ex) e te
 fs:∀ x,foldedSetIterable it X.env x=pure x
 ca:X.calm=true
def v8 (hr:r.Ok)(ok:c.Ok X)(hxe:X.xe=fun _ _=>False){Q:DE->Prop}(hf:Q Fl.fl){e tg it:Expr}{ifs:List Expr}{sc:Scope}(h:∀ own free fv g g' tc te,LcH X c ci r e tg it ifs sc own free fv g g' tc te->Q (Zi own.length fv (Nv r ci tg it) g tc te)):Q (Jt r c ci e tg it ifs sc):=by
 refine Wt hf fun b=>?_
 simp only[qr]at b;obtain⟨⟨⟨⟨h1,h2⟩,h3⟩,h4⟩,h5⟩:=b;have hs:=lZ ok h1;have inn:=fun cl C s₀ H₀ ex=>ok.inner hxe hs (Jm h2) cl C s₀ H₀ ex
 refine h _ _ _ _ _ _ _ ⟨hs,uh ok h3,⟨nC 9 tg,fun cl C s₀ H₀ ex=>mV (inn cl C s₀ H₀ ex) 9 tg⟩,fun cl C s₀ H₀ ex=>?_,fun cl C s₀ H₀ ex=>hr.e (inn cl C s₀ H₀ ex) e,yd (Zw h4),ok.calm h5⟩;have i:=inn cl C s₀ H₀ ex;split
 ·exact ű
 ·exact fB (hr.t i _)
 ·with_unfolding_all
  exact by rintro Z9 s U H Q I ⟨_,_,_,_,_,_,h,_⟩;exact h.elim
def fM (hr:r.Ok)(ok:c.Ok X)(oki:ci.Ok X)(hxe:X.xe=fun _ _=>False){e tg it:Expr}{ifs:List Expr}{sc:Scope}{pos:Pos}:PD X (.ListComp e [⟨tg,it,ifs,0⟩] sc pos) (Jt r c ci e tg it ifs sc) :=v8 (Q:=PD X _) hr ok hxe Zq fun _ _ _ _ _ _ _ h=>zwG h.s.fr h.fv (Gw hr oki) h.g h.t h.e h.ca hxe h.s.kind h.s.cell h.s.loc h.fs
end
def TQ (a:Arguments)(ps:List Str):Bool:=match a with
 |⟨[],as,none,[],[],none,[]⟩=>as.map (·.arg)==ps&&NK ps
 |_=>false
omit B in
theorem pF {α β:Type}{f g:α->Option β}:∀ {l:List α},(∀ x∈l,f x=g x)->l.filterMap f=l.filterMap g
 |[],_=>rfl
 |x::l,h=>by rw[O7,O7,h x qP,pF fun y hy=>h y (qi _ hy)]
omit B in
theorem yE:∀ {ps:List Str} {us:List Value},ps.Nodup->us.length=ps.length->ps.filterMap (fun n=>((ps.zip us).lookup n).map (n,·))=ps.zip us
 |[],_,_,_=>rfl
 |p::ps,[],_,h=>by simp at h
 |p::ps,u::us,nd,hl=>by
  obtain⟨n1,n2⟩:=VN.mp nd;have e:List.lookup p ((p,u)::ps.zip us)=some u:=by rw[qq,beq_self_eq_true]
  rw[List.zip_cons_cons,O7,e];show(p,u)::_=_;refine congrArg _ (Eq.trans ?_ (yE n2 (by simpa using hl)));refine pF fun x hx=>?_
  have:(x==p)=false:=beq_eq_false_iff_ne.mpr fun e=>n1 (e▸hx)
  rw[qq,this]
omit B in
theorem vA:∀ {ps:List Str} {us:List Value} {x:Str},us.length=ps.length->x∈ps->((ps.zip us).lookup x).isSome=true
 |p::ps,u::us,x,hl,hx=>by
  rw[List.zip_cons_cons,qq];cases e:x==p with
  |true=>rfl
  |false =>
   rcases ql.mp hx with rfl|hx
   ·simp at e
   ·exact vA (by simpa using hl) hx
 |p::ps,[],x,hl,hx=>by simp at hl
omit B in
def ux {fd:FuncData}{ps:List Str}{us:List Value}(hp:TQ fd.params ps=true)(hd:fd.defaults=.none)(hl:us.length=ps.length):bindArgs fd ⟨us,[]⟩=pure (ps.zip us):=by
 unfold TQ at hp;split at hp
 ·rename_i as e;obtain⟨h1,h2⟩:=z9 hp;have h1:=eq_of_beq h1;unfold bindArgs;rw[e,hd]
  have e1:(ps.filter fun n=>(List.lookup n (ps.zip us)).isNone)=[]:=by
   rw[List.filter_eq_nil_iff];intro x hx;have:=vA hl hx;cases e:(ps.zip us).lookup x with
   |none=>rw[e]at this;cases this
   |some _=>simp
  have e2:=yE (Jm h2) hl;have hs:seqItems? Value.none=pure none:=rfl;have g:∀ n:Nat,(decide (n<n))=false:=fun n=>decide_eq_false (X6 n)
  simp only[hs,h1,Qh,List.nil_append,qS,M5,pure_bind,Option.getD_none,Array.toList_empty,List.drop_nil,List.zip_nil_right,Qd,Nat.sub_zero,VP,e1,e2,List.isEmpty_nil,Q6,Tt,if_false,gt_iff_lt,hl,g,VF]
 ·cases hp
section
variable {X:Cx}{c:RC}{r:Zy}
end
def stE (r:Zy)(c:RC):Expr->DE
 |.Name x _=>Ge c x
 |.Constant (.int i) _ _=>dC (.int i)
 |.Constant (.str x) _ _=>dC (.str x)
 |.Constant (.bool b) _ _=>dC (.bl b)
 |.Constant .none _ _=>dC .non
 |.BinOp a op b _=>BJ r c a op b
 |.UnaryOp .Not a _=>Rw (r.e c a)
 |.UnaryOp .USub a _=>Wq Wa (r.e c a)
 |.BoolOp op es _=>JW r c op es
 |.Compare a ops bs _=>Fq r c a ops bs
 |.IfExp t a b _=>Bg (r.t c t) (r.e c a) (r.e c b)
 |.Tuple es _ _=>dTup (rA r c es)
 |.List es _=>Zk (rA r c es)
 |.Dict [] [] _=>match c.dn with
  |some (some true)=>Lk
  |some (some false)=>Hz
  |some none=>Ny
  |_=>Fl.fl
 |.Dict [some a] [b] _=>match c.dn with
  |some (some false)=>ZM c.calm (Lj (r.e c a) (r.e c b))
  |_=>Gr (r.e c a) (r.e c b)
 |.Subscript a b _=>G5 r c a b
 |.Attribute a f _=>ZM (!Rn a) (Ze f (r.e c a))
 |.Call (.Name x _) (a::as) [] _=>ZM (gl c x&&Yw (a::as)) (ob (Zx x c.g.g) (yV r c (a::as)))
 |.Call (.Attribute o m ap) es [] cp=>wZ r c o m ap es cp
 |.ListComp e [⟨tg,it,ifs,0⟩] sc _=>Jt r c.quiet c.quiet e tg it ifs sc
 |_=>Fl.fl
def Ei (r:Zy)(c:RC):Expr->DT
 |.Compare a ops bs _=>dT (Fq r c a ops bs)
 |.UnaryOp .Not a _=>W9 (r.t c a)
 |.BoolOp op es _=>Iv r c op es
 |e=>ZM (!rJ e) (dT (r.e c e))
section
variable {X:Cx}{c:RC}{r:Zy}
def zuX (hr:r.Ok)(ok:c.Ok X)(e:Expr):PD X e (stE r c e):=by
  cases e with
  |Name x p=>exact gY ok
  |Constant v k p=>cases v with
    |int i=>exact Ϙ
    |str x=>exact xQ
    |bool b=>exact aW
    |none=>exact dU
    |_=>exact Zq
  |BinOp a op b p=>exact fL hr ok
  |UnaryOp op a p=>cases op with
    |Not=>exact Ÿ (hr.e ok _)
    |USub=>exact ž (hr.e ok _)
    |_=>exact Zq
  |BoolOp op es p=>exact G9 hr ok
  |Compare a ops bs p=>exact(yQ hr ok).1
  |IfExp t a b p=>exact fG (hr.t ok _) (hr.e ok _) (hr.e ok _)
  |Tuple es k p=>exact zul (V8 hr ok)
  |List es p=>exact zsX (V8 hr ok)
  |Dict ks vs p=>cases ks with
    |nil=>cases vs with
      |nil =>
        show PD X _ (match c.dn with
          |some (some true)=>Lk
          |some (some false)=>Hz
          |some none=>Ny
          |_=>Fl.fl)
        split
        . exact iM
        . exact Ī
        . exact zqq
        . exact Zq
      |cons=>exact Zq
    |cons k ks=>cases k with
      |none=>exact Zq
      |some a=>cases ks with
        |cons=>exact Zq
        |nil=>cases vs with
          |nil=>exact Zq
          |cons b vs=>cases vs with
            |cons=>exact Zq
            |nil =>
              show PD X _ (match c.dn with
                |some (some false)=>ZM c.calm (Lj (r.e c a) (r.e c b))
                |_=>Gr (r.e c a) (r.e c b))
              split
              . exact Xg fun h=>zpm (ok.rm h) (hr.e ok _) (hr.e ok _)
              exact ņ (hr.e ok _) (hr.e ok _)
  |Subscript a b p=>exact zrc hr ok
  |Attribute a f p=>exact Xg fun h=>iG (hr.e ok _) (Ox (Zw h))
  |Call f as kws p=>cases f with
    |Name x p2=>cases as with
      |nil=>exact Zq
      |cons a as=>cases kws with
        |nil=>exact Xg fun h=>Ru fun en he=>ϊ hr ok (z9 h).1 (z9 h).2 he
        |cons kw kws =>
          obtain⟨arg,val,kp⟩:=kw;cases arg with
          |none=>cases as<;>exact Zq
          |some kw=>cases val with
            |_=>cases as<;>exact Zq
    |Attribute o m ap=>cases kws with
      |nil=>exact cA hr ok
      |cons=>exact Zq
    |_=>exact Zq
  |ListComp e gs sc p=>cases gs with
    |nil=>exact Zq
    |cons g gs =>
      obtain⟨tg,it,ifs,n⟩:=g;cases n with
      |negSucc=>exact Zq
      |ofNat n=>cases n with
        |succ=>exact Zq
        |zero=>cases gs with
          |nil=>exact nZ (fM hr ok.quiet ok.quiet rfl)
          |cons=>exact Zq
  |_=>exact Zq
def zvF (hr:r.Ok)(ok:c.Ok X)(e:Expr):Yy X e (Ei r c e):=by
 unfold Ei;split
 ·exact(yQ hr ok).2
 ·exact iY (hr.t ok _)
 ·exact ztH (DR hr ok)
 ·exact Wt (Q:=Yy X _) G6 fun h=>zrV (hr.e ok _) (zxs (Zw h))
end
end Dp
namespace Dp
open PySem PySem.Spec PyProof.Rows L2 My
def zx7 (c:RC)(e:Expr):Bool:=(nms 30 e).any fun y=>match Zx y c.g.g with
 |some (.fx _ _ _)=>true
 |some (.cx _ _ _)=>true
 |_=>false
def ļ (c:RC)(y:Str)(py lp:Pos)(sc:Scope):Bool:=Zx y c.nm==some .local&&py.line==lp.line&&!(sc.names.any fun (n,k)=>n==y&&(k==.local||k==.cell))
def mZ (r:Zy)(c:RC)(x:Str)(px:Pos)(v:Expr):DS:=ob (slt x c.N) fun i=>match v with
 |.ListComp e [⟨tg,it,ifs,0⟩] sc lp=>match ļ c x px lp sc with
  |true=>match c.m==0||!zx7 c it with
   |true=>zq (Jt r c.quiet c.quiet e tg it ifs sc) (zR i)
   |false=>Yg
  |false=>ZM (WM c x&&Zx x c.nm==some .cell) (zq (r.e { c with dn:=Zx x c.d } v) (zR i))
 |v=>ZM (WM c x&&!Ck v) (zq (r.e { c with dn:=Zx x c.d } v) (zR i))
def dkN (c:RC):Expr->Bool
 |.Name x _=>Zx x c.d==some none
 |_=>false
def GF (r:Zy)(c:RC)(v:Expr):Expr->DS
 |.Name x px=>mZ r c x px v
 |.Attribute o f _=>ZM (c.g.f.any fun p=>se c.cls p.1&&se f p.2) (V5 c.cls f (r.e c o) (r.e c v))
 |.Subscript o i _=>ZM (!Ma i) (match isD c o with
  |true=>ZM c.calm (match dkN c o with
   |true=>SN (r.e c o) (r.e c i) (r.e c v)
   |false=>LR (r.e c o) (r.e c i) (r.e c v))
  |false=>zq (r.e c v) (Qv (r.e c o) (r.e c i)))
 |.Tuple es k p=>match es,v with
  |es,v=>ZM (!isTup v) (zq (r.e c v) (Rh c 1000 9 (.Tuple es k p)))
 |_=>Yg
def Ce (c:RC)(it:Expr):Expr->DG
 |tg=>Rh c 1000 9 tg
def wL (c:RC)(x:List Str):RC:={ c with ex:=xF,m:=0,calm:=false,xs:=x++c.xs,lm:=none }
def rS (r:Zy)(c:RC):Stmt->DS
 |.Pass _=>zB
 |.Break _=>uW
 |.Continue _=>Ax
 |.Return (some e) _=>zA (r.e c e)
 |.Expr e _=>ZM (!Ck e) (Zb (r.e c e))
 |.If t a b _=>ZR (r.t c t) (r.s c a) (r.s c b)
 |.While t a [] _=>ZM (c.m.ble 1) (U8 (r.t c t) (r.s c a))
 |.For tg it a [] _=>ZM (c.m.ble 1&&c.calm&&!isSet it) (Y0 (Nv r c tg it) (Ce c it tg) (r.s c a))
 |.AugAssign (.Name x _) .Add e _=>ob (slt x c.N) fun i=>ZM (WM c x) (Nh i (r.e c e))
 |.Assign [tg] v _=>GF r c v tg
 |.Raise (some (.Call (.Name x _) [.Constant (.str _) _ _] [] _)) none _=>match c.m==1 with
  |true=>ZM (has x c.g.r&&gl c x&&c.calm) (Uy c.ex x)
  |false=>Yg
 |.Try a [.ExceptHandler (some (.Name T _)) (some x) (b0::b) _] [] [] _=>ob (Zx T c.g.t) fun l=>ob (slt x c.N) fun i=>ZM (c.top&&gl c T&&Zx x c.nm==some .local&&c.m==0) (Jd i l (fun ex=>r.s { c with ex:=ex,m:=2 } a) (r.s (wL c [x]) (b0::b)))
 |_=>Yg
def Fi (r:Zy)(c:RC):List Stmt->DS
 |[]=>zB
 |[st]=>rS r c st
 |st::s2::l=>zf (match oW st with
  |true=>sJ (rS r c st)
  |false=>rS r c st) (Fi r c (s2::l))
section
variable {env:Env}{v:Expr}
def oR {a b:Expr}{p:Pos}{l:Nat}:swapsWith v (some (.Subscript a b p)) l env=pure false:=by cases v<;>rfl
def zqZ {a b:Expr}{p:Pos}{l:Nat}:swapsWithSole [.Subscript a b p] v l env=pure false:=by cases v<;>rfl
def bf {a:Expr}{f:Str}{p:Pos}{l:Nat}:swapsWith v (some (.Attribute a f p)) l env=pure false:=by cases v<;>rfl
def lB {o i : Expr} {p : Pos} (h : Ma i = false) (v : Value) : assign (.Subscript o i p) env v = (do
      let ov <- holding [v] (eval o env);let iv <- holding [v,ov] (eval i env)
      standAt p
      holding [v,ov,iv] (setItem ov iv v)
      release [v,ov,iv] []):=by cases i<;>first|rfl|cases h
def zvv {es:List Expr}{k:Nat}{p:Pos}{l:Nat}:swapsWithSole [.Tuple es k p] v l env=pure false:=by cases v<;>rfl
def lD (h:isTup v=false){es:List Expr}{k:Nat}{p:Pos}:swappedStores [.Tuple es k p] v env=pure none:=by cases v<;>first|rfl|cases h
def iw {a b:Expr}{p:Pos}:swappedStores [.Subscript a b p] v env=pure none:=by cases v<;>rfl
def É {x:Str}{p:Pos}{l:Nat}(h:env.kindOf x=some .cell):swapsWith v (some (.Name x p)) l env=pure false:=by
 cases v with
 |ListComp=>show pure (env.blockKind==.function&&env.kindOf x==some .local&&_&&_)=_;rw[h,show((some NameKind.cell==some NameKind.local):Bool)=false from rfl,O9,VF,VF]
 |SetComp=>show pure (env.blockKind==.function&&env.kindOf x==some .local&&_&&_)=_;rw[h,show((some NameKind.cell==some NameKind.local):Bool)=false from rfl,O9,VF,VF]
 |DictComp=>show pure (env.blockKind==.function&&env.kindOf x==some .local&&_&&_)=_;rw[h,show((some NameKind.cell==some NameKind.local):Bool)=false from rfl,O9,VF,VF]
 |_=>rfl
def Ϩ (h:env.scope.kind=.function):env.blockKind=.function:=by unfold Env.blockKind;rw[h];rfl
def ĵ {x:Str}{p lp:Pos}{l:Nat}{e:Expr}{gs:List Comprehension}{sc:Scope}(hk:env.scope.kind=.function)(h:env.kindOf x=some .local)(hl:(p.line==lp.line)=true)(hn:(sc.names.any fun (n,k)=>n==x&&(k==.local||k==.cell))=false):swapsWith (.ListComp e gs sc lp) (some (.Name x p)) l env=pure true:=by show pure (env.blockKind==.function&&env.kindOf x==some .local&&p.line==lp.line&&!(sc.names.any fun (n,k)=>n==x&&(k==.local||k==.cell)))=_;rw[Ϩ hk,h,hl,hn];rfl
end
variable [B:Bs]
section
variable {X:Cx}{c:RC}{r:Zy}
theorem RC.Ok.dn (ok:c.Ok X){d:Option (Option Bool)}:RC.Ok { c with dn:=d } X:=⟨⟨ok.nm,ok.N,ok.nd,ok.rm,ok.fn,ok.calm,ok.xe,ok.po,ok.kind,ok.top,ok.gm,ok.lm⟩,ok.hX,ok.hM⟩
def RC.Ok.hd (ok:c.Ok X){x:List Str}(e:Addr):(wL c x).Ok (hand X e):=⟨⟨ok.nm,ok.N,ok.nd,(fun h=>nomatch h),ok.fn,(fun h=>nomatch h),fun _=>rfl,fun _=>PassesOwn.never,ok.kind,ok.top,ok.gm,trivial⟩,Jc,(fun h=>nomatch h)⟩
omit B in
def RC.Ok0.tr (ok:c.Ok0 X)(xe:Value->Shared->Prop)(pn:List (Addr×Obj)){B':Bs}{ex:XR}(hX:QW (Pr X xe pn) ex):RC.Ok { c with ex:=ex,m:=2 } (Pr X xe pn) :=⟨⟨ok.nm,ok.N,ok.nd,ok.rm,ok.fn,ok.calm,(fun h=>nomatch h),(fun h:2<=1=>absurd h (by decide)),ok.kind,ok.top,ok.gm,ok.lm⟩,hX,(fun h=>nomatch h)⟩
omit B in
theorem xH {x:Str}:∀ {l:List Str},has x l=true->x∈l
 |y::r,h=>by
  unfold has at h;rcases(Ql _ _).mp h with h|h
  ·rw[Tg h];exact qP
  ·exact qi _ (xH h)
def ŝ (ok:c.Ok X){it tg:Expr}:K7 X 1000 tg (Ce c it tg):=by unfold Ce;exact nu ok 9 _
def zsa (hr:r.Ok)(ok:c.Ok X){x:Str}{px pos:Pos}{v:Expr}:Zv X (.Assign [.Name x px] v pos) (mZ r c x px v):=by
 refine JC fun i hi=>?_
 have hi:=ok.N.symm▸Rq hi;have nd:=ok.N.symm▸ok.nd;split
 ·rename_i e tg it ifs sc lp;split
  ·rename_i hb;obtain⟨h,h3⟩:=z9 hb;obtain⟨h1,h2⟩:=z9 h;have hl:=eq_of_beq h1;have hsw:=ĵ (l:=pos.line) (e:=e) (gs:=[⟨tg,it,ifs,0⟩]) ok.kind (ok.kd.trans hl) h2 (Zw h3);have hl':X.env.scope.names.lookup x=some .local:=ok.kd.trans hl;split
   ·exact zpg (v8 (Q:=fun t=>Zv (R6 X) _ (zq t (zR i))) hr ok.quiet rfl Bm fun _ _ _ _ _ _ _ h=>Ě (X:=R6 X) nd h.s.fr h.fv (Gw hr ok.quiet) h.g h.t h.e hi hl' h.ca rfl h.s.kind h.s.cell h.s.loc hsw h.fs)
   ·exact zE
  ·refine Wv fun h=>?_
   obtain⟨h1,h2⟩:=z9 h;obtain⟨s1,s2⟩:=Ke ok h1;exact tV nd (hr.e ok.dn _) hi s1 (É (ok.kd.trans (eq_of_beq h2))) s2
 ·refine Wv fun h=>?_
  obtain⟨h1,h2⟩:=z9 h;obtain⟨s1,s2⟩:=Ke ok h1;exact tV nd (hr.e ok.dn _) hi s1 (pW (Zw h2)) s2
def zrX (hr:r.Ok)(ok:c.Ok X){tg v:Expr}{pos:Pos}:Zv X (.Assign [tg] v pos) (GF r c v tg):=by
 have nd:=ok.N.symm▸ok.nd;unfold GF;split
 ·exact zsa hr ok
 ·refine Wv fun h=>?_
  obtain⟨⟨a,b⟩,hp,h⟩:=List.any_eq_true.mp h;obtain⟨h1,h2⟩:=z9 h;exact zsf (ok.gm.f _ _ (by rw[Tg h1,Tg h2];exact hp)) (hr.e ok _) (hr.e ok _) bf
 ·refine Wv fun h=>?_
  split
  ·refine Wv fun h2=>?_
   split
   ·exact Ô (ok.rm h2) (hr.e ok _) (hr.e ok _) (hr.e ok _) oR
   exact zoz (ok.rm h2) (hr.e ok _) (hr.e ok _) (hr.e ok _) oR
  ·exact wK (hr.e ok _) (zrr (hr.e ok _) (hr.e ok _) (lB (Zw h))) zqZ iw
 ·exact Wv fun h=>wK (hr.e ok _) (nu ok 9 _) zvv (lD (Zw h))
 ·exact zE
def Bw (hr:r.Ok)(ok:c.Ok X)(st:Stmt):Zv X st (rS r c st):=by
 have nd:=ok.N.symm▸ok.nd;cases st with
 |Pass p=>exact zo7
 |Break p=>exact ĺ
 |Continue p=>exact lG
 |Return v p=>cases v with
  |none=>exact zE
  |some e=>exact ϟ (hr.e ok _)
 |Expr e p=>exact Wv fun h=>aj (hr.e ok _) (pW (Zw h))
 |If t a b p=>exact iD (hr.t ok _) (hr.s ok _) (hr.s ok _)
 |While t a o p=>cases o with
  |nil=>exact Wv fun h=>ř (hr.t ok _) (hr.s ok _) (ok.po (qI h))
  |cons=>exact zE
 |For tg it a o p=>cases o with
  |cons=>exact zE
  |nil =>
   refine Wv fun h=>?_
   simp only[qr]at h;obtain⟨⟨h1,h2⟩,h3⟩:=h;exact lO (Gw hr ok) (ŝ ok) (hr.s ok _) (ok.po (qI h1)) (ok.calm h2) (yd (Zw h3))
 |AugAssign tg op e p=>cases tg with
  |Name x p2=>cases op with
   |Add =>
    refine JC fun i hi=>Wv fun h=>?_
    obtain⟨s1,s2⟩:=Ke ok h;exact zsy nd (hr.e ok _) (ok.N.symm▸Rq hi) s1 s2
   |_=>exact zE
  |_=>exact zE
 |Assign ts v p=>cases ts with
  |nil=>exact zE
  |cons tg ts=>cases ts with
   |nil=>exact zrX hr ok
   |cons=>exact zE
 |Raise ex ca p=>cases ex with
  |none=>exact zE
  |some ex=>cases ex with
   |Call f as kws p2=>cases f with
    |Name x p3=>cases as with
     |nil=>exact zE
     |cons a as=>cases a with
      |Constant v k p4=>cases v with
       |str z=>cases as with
        |cons=>exact zE
        |nil=>cases kws with
         |cons=>exact zE
         |nil=>cases ca with
          |some=>exact zE
          |none =>
           show Zv X _ (match c.m==1 with
            |true=>ZM (has x c.g.r&&gl c x&&c.calm) (Uy c.ex x)
            |false=>Yg)
           cases hm:c.m==1 with
           |true =>
            refine Wv fun h=>?_
            simp only[qr]at h;obtain⟨⟨h1,h2⟩,h3⟩:=h;obtain⟨g1,g2,g3⟩:=Oa ok h2;obtain⟨r1,r2⟩:=ok.gm.r _ (xH h1);exact fW (ok.hM (eq_of_beq hm)) (ok.calm h3) r1 r2 g1 (rD xQ yu (VD rfl)) (fun _ _ _ h=>h _) g2 (VD rfl)
           |false=>exact zE
       |_=>exact zE
      |_=>exact zE
    |_=>exact zE
   |_=>exact zE
 |Try a hs o f p=>cases hs with
  |nil=>exact zE
  |cons h hs=>cases h with
   |ExceptHandler ty nm b p2=>cases ty with
    |none=>exact zE
    |some T=>cases T with
     |Name T p3 =>
      cases nm
      case some x=>cases b with
       |nil=>exact zE
       |cons b0 b=>cases hs with
        |cons=>exact zE
        |nil=>cases o with
         |cons=>exact zE
         |nil=>cases f with
          |cons=>exact zE
          |nil =>
           refine JC fun l hl=>JC fun i hi=>Wv fun h=>?_
           simp only[qr]at h;obtain⟨⟨⟨h1,h2⟩,h3⟩,h4⟩:=h;obtain⟨g1,g2,g3⟩:=Oa ok h2;have o:=ok.toOk0;exact zrY (ok.top h1).1 (ok.top h1).2 nd (ok.N.symm▸Rq hi) (ok.kd.trans (eq_of_beq h3)) g1 (ok.gm.t _ _ (RV hl)) (fun xe pn ex hX=>hr.s (o.tr xe pn hX) _) (fun e=>hr.s (ok.hd e) _) g2
      all_goals exact zE
     |_=>exact zE
 |_=>exact zE
theorem uo (hr:r.Ok)(ok:c.Ok X):∀ (l:List Stmt),Xj X l (Fi r c l)
 |[]=>bw
 |[st]=>jM (Bw hr ok st)
 |st::s2::l=>by
  refine Ŝ ?_ (uo hr ok (s2::l));cases oW st with
  |true=>exact zxO (Bw hr ok st)
  |false=>exact Bw hr ok st
end
noncomputable def rd (n:Nat):Zy:=Nat.rec ⟨fun _ _=>Fl.fl,fun _ _=>Fl.fl,fun _ _=>Fl.fl⟩ (fun _ r=>⟨stE r,Ei r,Fi r⟩) n
omit B in
theorem K8:∀ n,(rd n).Ok
 |0=>⟨fun _ _=>Zq,fun _ _=>G6,fun _ _=>ztw⟩
 |n+1=>⟨fun ok e=>zuX (K8 n) ok e,fun ok e=>zvF (K8 n) ok e,fun ok l=>uo (K8 n) ok l⟩
end Dp
namespace Dp
open PySem PySem.Spec PyProof.Rows L2 My
def Sg (N ps:List Str)(st:Stmt):Bool:=(zJ st).kind==.function&&!(zJ st).isCoroutine&&!(zJ st).isGenerator&&NK N&&ps.all (fun x=>Zx x (zJ st).names==some .local||Zx x (zJ st).names==some .cell)&&(zJ st).names.all (fun y=>!(y.2==.free))&&TQ (Xi st) ps
def pX {M ps:List Str}{st:Stmt}(h:Sg (ps++M) ps st=true):Ph (ps++M) ps (zJ st):=by
 simp only[Sg,qr]at h;obtain⟨⟨⟨⟨⟨⟨h1,h2⟩,h3⟩,h4⟩,h5⟩,h6⟩,_⟩:=h;refine⟨eq_of_beq h1,Zw h2,Zw h3,Jm h4,List.take_left,fun x hx=>?_,fun y hy e=>?_⟩
 ·have:=W6.mp h5 x hx;simpa [Um]using this
 ·have:=W6.mp h6 y hy;rw[e]at this;cases this
def Lh (_:PySem.W.Frag)(_:Str->Option Value)(_:Heap)(_:List Str):Prop:=True
def MK (G:Gm)(xs:List Str)(x:Str)(st:Stmt):Y5->Prop
 |.fn (k+1) ps sp=>TQ (Xi st) ps=true/\∀ P w K mg base f fd,Lh K mg base xs->UJ P w K mg base k G->FH K x st f fd->YJ P w K mg base Wg (k+1) f fd ps (Xl K sp)
 |.fx (k+1) ps sp=>TQ (Xi st) ps=true/\∀ P w K mg base f fd,Lh K mg base xs->UJ P w K mg base k G->FH K x st f fd->YJ P w K mg base (Vv P w) (k+1) f fd ps (Uj K sp)
 |_=>False
def RowC (G:Gm)(c:Str)(st:Stmt):Y5->Prop
 | .cl (k+1) sp=>∃ ps init,sp=R9 c init/\TQ (Xi st) ps=true/\∀ P w K mg base q f fd,UJ P w K mg base k G->Xa K "__init__" q st f fd->YJ P w K mg base Wg (k+1) f fd ps (Xl K init)
 | .cx (k+1) c' init=>c'=c/\∃ ps,TQ (Xi st) ps=true/\∀ P w K mg base q f fd,UJ P w K mg base k G->Xa K "__init__" q st f fd->YJ P w K mg base (Vv P w) (k+1) f fd ps (Uj K init)
 |_=>False
def pI (K:PySem.W.Frag)(c:Str)(st:Stmt):Prop:=∃ C f fd,PySem.W.nsIn K mainGlobals c=some (some (.ref C))/\Mk K C f/\Cls K C/\∃ q,Xa K "__init__" q st f fd
abbrev K5 (G:Gm)(st:Stmt)(N:List Str)(k m:Nat)(ex:XR)(d:List (Str×Option Bool))(it:Bool)(cls:Str)(lm:Option Str):RC:={ g:=G,nm:=(zJ st).names,fl:=(zJ st).names,N:=N,j:=k,ex:=ex,m:=m,d:=d,it:=it,cls:=cls,lm:=lm }
section
variable {G:Gm}{xs:List Str}{x qual c:Str}{st:Stmt}{k:Nat}{ps M:List Str}{sp:ZV}{sx:Y6}{b:DS}{bx:XR->DS}{d:List (Str×Option Bool)}{it:Bool}{cls:Str}
def sX {K:PySem.W.Frag}{base:Heap}(body:BodyOk (ps++M).length b sp)(len:∀ ds So Q,sp ds So Q->ds.length=ps.length)(h:(Sg (ps++M) ps st,(rd 60).s (K5 G st (ps++M) k 0 xF d it cls none) (X5 st))=(true,b))(hG:UJ P w K mg base k G)(F:Xa K x qual st f fd):YJ P w K mg base Wg (k+1) f fd ps (Xl K sp):=by
 obtain⟨h1,h2⟩:=V3 h;have S:=pX h1;refine zrL F S len body fun cdv A outer s H E hr _=>?_
 rw[<- h2];exact(K8 60).s ⟨⟨rfl,rfl,S.nd,fun _=>hr,fun _ _=>rfl,fun _=>rfl,fun _=>rfl,fun _=>PassesOwn.never,S.kind,fun _=>⟨rfl,rfl⟩,hG,by exact trivial⟩,Jc,(fun h=>by cases h)⟩ _
def ι {K:PySem.W.Frag}{base:Heap}(body:XQ (ps++M).length bx sx)(len:∀ ds So Q ex,sx ds So Q ex->ds.length=ps.length)(h:(Sg (ps++M) ps st,fun ex=>(rd 60).s (K5 G st (ps++M) k 1 ex d it cls none) (X5 st))=(true,bx))(hG:UJ P w K mg base k G)(F:Xa K x qual st f fd):YJ P w K mg base (Vv P w) (k+1) f fd ps (Uj K sx):=by
 obtain⟨h1,h2⟩:=V3 h;have S:=pX h1;refine j8 F S len body fun cdv A outer s H E hr _ ex hX hM=>?_
 rw[<- h2];exact(K8 60).s ⟨⟨rfl,rfl,S.nd,fun _=>hr,fun _ _=>rfl,fun _=>rfl,(fun h=>by cases h),fun _=>PassesOwn.leaving,S.kind,fun _=>⟨rfl,rfl⟩,hG,by exact trivial⟩,hX,fun _=>hM⟩ _
def Fx (h:Sg (ps++M) ps st=true):TQ (Xi st) ps=true:=(z9 h).2
theorem MK.fn (body:BodyOk (ps++M).length b sp)(d:List (Str×Option Bool))(it:Bool)(h:(Sg (ps++M) ps st,(rd 60).s (K5 G st (ps++M) k 0 xF d it Str.empty none) (X5 st))=(true,b))
    (len:∀ ds So Q,sp ds So Q->ds.length=ps.length:=by (intros;rename_i h;repeat (first|(obtain⟨e,_⟩:=h;subst e;rfl)|obtain⟨_,h⟩:=h))):MK G xs x st (.fn (k+1) ps sp) :=
  ⟨Fx (V3 h).1,fun P w K mg base f fd _ hG F=>sX body len h hG F.F⟩
theorem MK.fx (body:XQ (ps++M).length bx sx)(d:List (Str×Option Bool))(it:Bool)(h:(Sg (ps++M) ps st,fun ex=>(rd 60).s (K5 G st (ps++M) k 1 ex d it Str.empty none) (X5 st))=(true,bx))
    (len:∀ ds So Q ex,sx ds So Q ex->ds.length=ps.length:=by (intros;rename_i h;repeat (first|(obtain⟨e,_⟩:=h;subst e;rfl)|obtain⟨_,h⟩:=h))):MK G xs x st (.fx (k+1) ps sx) :=
  ⟨Fx (V3 h).1,fun P w K mg base f fd _ hG F=>ι body len h hG F.F⟩
theorem RowC.cl {init:ZV}(body:BodyOk (ps++M).length b init)(h:(Sg (ps++M) ps st,(rd 60).s (K5 G st (ps++M) k 0 xF [] false c none) (X5 st))=(true,b))
    (len:∀ ds So Q,init ds So Q->ds.length=ps.length:=by (intros;rename_i h;repeat (first|(obtain⟨e,_⟩:=h;subst e;rfl)|obtain⟨_,h⟩:=h))):RowC G c st (.cl (k+1) (R9 c init)) :=
  ⟨ps,init,rfl,Fx (V3 h).1,fun P w K mg base _ f fd hG F=>sX body len h hG F⟩
end
def Kz (K:PySem.W.Frag)(x:Str):Y5->Prop
 |.blt b=>x=b.nm/\PySem.W.nsIn K mainGlobals x=some none
 |.int n=>∃ t,PySem.W.nsIn K mainGlobals x=some (some (.int n t))
 |.str z=>∃ t,PySem.W.nsIn K mainGlobals x=some (some (.str z t))
 |_=>False
def oN (K:PySem.W.Frag)(x:Str):Prop:=∃ C,PySem.W.nsIn K mainGlobals x=some (some (.ref C))/\Jx K C=true
def yX (K:PySem.W.Frag)(q:Str×List Str):Prop:=∃ D,PySem.W.nsIn K mainGlobals q.1=some (some (.ref D))/\Al (fun c=>∃ C,PySem.W.nsIn K mainGlobals c=some (some (.ref C))/\PySem.W.exmOne K (.ref C) (.ref D)=some true) q.2
def PL (K:PySem.W.Frag)(v:Value)(l:List (Str×Bool)):Prop:=Al (fun q=>∃ C,PySem.W.nsIn K mainGlobals q.1=some (some (.ref C))/\isIn K C=true/\PySem.W.kitOne K (.ref C) v=some q.2) l
def Bk (K:PySem.W.Frag)(q:Str×List (Str×Bool)):Prop:=(∃ D,PySem.W.nsIn K mainGlobals q.1=some (some (.ref D))/\PL K (.ref D) q.2)\/∃ T,PySem.W.nsIn K mainGlobals q.1=some none/\bootBuiltins q.1=some (.type T)/\PL K (.type T) q.2
def tW (K:PySem.W.Frag)(q:Str×Str):Prop:=∃ C,PySem.W.nsIn K mainGlobals q.1=some (some (.ref C))/\PySem.W.findIn K (.ref C) q.2=some none
abbrev zG (x:Str)(st:Stmt)(e:Y5):Str×Stmt×Y5:=(x,st,e)
abbrev ent (x:Str)(e:Y5):Str×Y5:=(x,e)
structure Jk (G:Gm)(xs:List Str)(bs:List (Str×Y5))(F C:List (Str×Stmt×Y5)):Prop where
 g:G.g=bs++(F++C).map fun r=>(r.1,r.2.2)
 f:Al (fun r=>MK G xs r.1 r.2.1 r.2.2) F
 c:Al (fun r=>RowC G r.1 r.2.1 r.2.2) C
structure Dh (K:PySem.W.Frag)(G:Gm)(bs:List (Str×Y5))(F C:List (Str×Stmt×Y5)):Prop where
 b:Al (fun q=>Kz K q.1 q.2) bs
 f:Al (fun r=>∃ f fd,FH K r.1 r.2.1 f fd) F
 c:Al (fun r=>pI K r.1 r.2.1) C
 r:Al (oN K) G.r
 t:Al (yX K) G.t
 i:Al (Bk K) G.i
 w:Al (tW K) G.f
section
variable {P:Program}{w:World}{K:PySem.W.Frag}{mg:Str->Option Value}{base h:Heap}{G:Gm}{xs:List Str}{bs:List (Str×Y5)}{F C:List (Str×Stmt×Y5)}
def J5 {st:Stmt}{ps:List Str}(F:Xa K x qual st f fd)(h:TQ (Xi st) ps=true):Binds K fd ps []:=F.binds fun _ _ _ _ _ _ us hl=>ux h rfl hl
def vP (h:PL K v l):IsL K l v:=by
 unfold PL at h
 induction h with
 |nil=>intro c b C e;cases e
 |@cons q l h t ih =>
  intro c b C e hn;obtain⟨C',h1,h2,h3⟩:=h;rw[qq]at e;cases hc:c==q.1 with
  |true =>rw[hc]at e;cases e;rw[eq_of_beq hc,h1]at hn;cases hn;exact⟨V9.of h2,h3⟩
  |false=>rw[hc]at e;exact ih c b C e hn
def d8 (R:Jk G xs bs F C)(X:K.In h)(N:h.Ns mainGlobals mg)(T:Lh K mg base xs)(S:Dh K G bs F C):∀ j,UJ P w K mg base j G:=by
 have rest:∀ j,(∀ x e,(x,e)∈G.g->uH P w K mg base j x e)->UJ P w K mg base j G:=fun j hg=>{
  g:=hg
  r:=fun x hx=>by obtain⟨D,h1,h2⟩:=S.r.mem x hx;exact⟨fun D' hn=>by rw[h1]at hn;cases hn;exact Ld.of h2,D,h1,PySem.W.mg_of X N h1⟩
  t:=fun x l hx=>by obtain⟨D,h1,h2⟩:=S.t.mem _ hx;refine⟨D,PySem.W.mg_of X N h1,fun c E hc hn=>?_⟩;obtain⟨E',h3,h4⟩:=h2.mem c (by simpa using hc);rw[h3]at hn;cases hn;exact h4
  i:=fun x l hx=>by
   rcases S.i.mem _ hx with⟨D,h1,h2⟩|⟨T',h1,h2,h3⟩
   ·exact .inl ⟨D,PySem.W.mg_of X N h1,vP h2⟩
   ·exact .inr ⟨T',PySem.W.mg_none_of X N h1,h2,vP h3⟩
  f:=fun c f hx D hn=>by obtain⟨D',h1,h2⟩:=S.w.mem _ hx;rw[h1]at hn;cases hn;exact h2 }
 refine fun j=>Nat.strongRecOn j fun j ih=>rest j fun x e he=>?_
 rw[R.g]at he;rcases qC.mp he with hb|hb
 ·have b:=S.b.mem _ hb;cases e with
  |int n=>obtain⟨t,b⟩:=b;exact⟨t,PySem.W.mg_of X N b⟩
  |str z=>obtain⟨t,b⟩:=b;exact⟨t,PySem.W.mg_of X N b⟩
  |blt b'=>exact⟨b.1,PySem.W.mg_none_of X N b.2⟩
  |_=>exact b.elim
 ·obtain⟨⟨y,st,e⟩,hr,e'⟩:=qE.mp hb;cases e';rcases qC.mp hr with hr|hr
  ·have q:=R.f.mem _ hr;obtain⟨f,fd,H⟩:=S.f.mem _ hr;cases e with
   |fn k ps sp=>cases k with
    |zero=>exact q.elim
    |succ k=>exact fun z=>⟨⟨f,fd,q.2 _ _ _ _ _ _ _ T (ih k z) H,J5 H.F q.1,H.F.kp,PySem.W.mg_of X N H.a⟩⟩
   |fx k ps sp=>cases k with
    |zero=>exact q.elim
    |succ k=>exact fun z=>⟨⟨f,fd,q.2 _ _ _ _ _ _ _ T (ih k z) H,J5 H.F q.1,H.F.kp,PySem.W.mg_of X N H.a⟩⟩
   |_=>exact q.elim
  ·have q:=R.c.mem _ hr;obtain⟨D,f,fd,h1,h2,h3,_,h4⟩:=S.c.mem _ hr;cases e with
   |cl k sp=>cases k with
    |zero=>exact q.elim
    |succ k =>obtain⟨ps,init,e1,ha,q⟩:=q;have e1:sp=R9 y init:=e1;subst e1;exact fun z=>⟨⟨D,f,fd,ps,_,h2,q _ _ _ _ _ _ _ _ (ih k (Uu z)) h4,J5 h4 ha,PySem.W.mg_of X N h1,jl h3 h1⟩⟩
   |cx k c' sp=>cases k with
    |zero=>exact q.elim
    |succ k =>obtain⟨e1,ps,ha,q⟩:=q;have e1:c'=y:=e1;subst e1;exact fun z=>⟨⟨D,f,fd,ps,h2,q _ _ _ _ _ _ _ _ (ih k (Uu z)) h4,J5 h4 ha,PySem.W.mg_of X N h1,h3,h1⟩⟩
   |_=>exact q.elim
def Ć {L:Nat}{st:Stmt}{sp:ZV}{fa:Addr}{P:Program}{w:World}(R:Jk G xs bs F C)(hl:(("law":Str),st,Y5.fn (L+1) ["script"] sp)∈F)(X:K.In h)(N:h.Ns mainGlobals mg)(S:Dh K G bs F C)(hfa:mg "law"=some (.ref fa)) :
  ∃ fd:FuncData,(∀ (s:Shared) (u:Value),BindsTo s fd ⟨[u],[]⟩ [("script",u)])/\∀ base:Heap,K.In base->base.Ns mainGlobals mg->Lh K mg base xs->YJ P w K mg base Wg (L+1) fa fd ["script"] (Xl K sp):=by
 obtain⟨f,fd,H⟩:=S.f.mem _ hl;have q:=R.f.mem _ hl;have e:=hfa.symm.trans (PySem.W.mg_of X N H.a);cases e;obtain⟨oc,od,kV,doc,pm,an,cdv,ct,osl,rfl,Zx,hcd⟩:=H.F.ex;exact⟨_,fun s u=>.of_eq (ux (ps:=["script"]) q.1 rfl rfl),fun base hb hn T=>q.2 _ _ _ _ _ _ _ T (d8 R X N T S L) H⟩
end
section
variable {K:PySem.W.Frag}{x c:Str}{st:Stmt}
def Υ {b:Bt}(e:x=b.nm)(h:PySem.W.nsIn K mainGlobals x=some none):Kz K x (.blt b):=⟨e,h⟩
def Ŗ {n:Int}{t:Tok}(h:PySem.W.nsIn K mainGlobals x=some (some (.int n t))):Kz K x (.int n):=⟨t,h⟩
def lR {z:Str}{t:Tok}(h:PySem.W.nsIn K mainGlobals x=some (some (.str z t))):Kz K x (.str z):=⟨t,h⟩
def Ă {f:Addr}{oc:Value}{od an:Option Addr}{osl:Array (Option Value)}{kV doc pm cdv ct:Value}(a:PySem.W.nsIn K mainGlobals x=some (some (.ref f)))
  (l:K.lookup f=some ⟨oc,od,.func (PySem.W.fnOf x x (Xi st) (X5 st) (zJ st) .none kV doc pm an cdv ct),osl⟩) (c:PySem.W.codeIn K cdv x=true) (k:PySem.W.keepIn K (.ref f)=true):∃ f fd,FH K x st f fd:=⟨f,_,Ŧ a l c k⟩
def ł {q:Str}{C f:Addr}{oc kV dc pm cd ct:Value}{od an:Option Addr}{sl:Array (Option Value)}(a:PySem.W.nsIn K mainGlobals c=some (some (.ref C)))(q2:PySem.W.findIn K (.ref C) "__init__"=some (some (.ref f)))
  (l:K.lookup f=some ⟨oc,od,.func (PySem.W.fnOf "__init__" q (Xi st) (X5 st) (zJ st) .none kV dc pm an cd ct),sl⟩) (cc:PySem.W.codeIn K cd q=true) (k:PySem.W.keepIn K (.ref f)=true)
  (q1:PySem.W.makesIn K C=true) (q3:PySem.W.isFn K (.ref f)=true) (q4:PySem.W.keepIn K (.ref C)=true) (q5:PySem.W.plainGet K C Str.empty=true) (q6:PySem.W.hasDictIn K C=true) (q7:PySem.W.plainOver K C=true) (q8:PySem.W.findIn K (.ref C) "__setattr__"=some (some (.builtin "object.__setattr__"))):pI K c st :=
 ⟨C,f,_,a,⟨q1,q2,q3,q4⟩,⟨q5,q6,q7,q8⟩,q,vO l cc k⟩
def ï {C:Addr}(a:PySem.W.nsIn K mainGlobals x=some (some (.ref C)))(h:Jx K C=true):oN K x:=⟨C,a,h⟩
def jr {l:List Str}{D:Addr}(a:PySem.W.nsIn K mainGlobals x=some (some (.ref D)))(h:Al (fun c=>∃ C,PySem.W.nsIn K mainGlobals c=some (some (.ref C))/\PySem.W.exmOne K (.ref C) (.ref D)=some true) l):yX K (x,l):=⟨D,a,h⟩
def zt2 {C:Addr}(a:PySem.W.nsIn K mainGlobals x=some (some (.ref C)))(h:PySem.W.exmOne K (.ref C) v=some true):∃ C,PySem.W.nsIn K mainGlobals x=some (some (.ref C))/\PySem.W.exmOne K (.ref C) v=some true:=⟨C,a,h⟩
def d7 {D:Addr}(a:PySem.W.nsIn K mainGlobals x=some (some (.ref D)))(h:PL K (.ref D) l):Bk K (x,l):=.inl ⟨D,a,h⟩
def zqw {T:String}(a:PySem.W.nsIn K mainGlobals x=some none)(b:bootBuiltins x=some (.type T))(h:PL K (.type T) l):Bk K (x,l):=.inr ⟨T,a,b,h⟩
def zuT {b:Bool}{C:Addr}(a:PySem.W.nsIn K mainGlobals x=some (some (.ref C)))(i:isIn K C=true)(h:PySem.W.kitOne K (.ref C) v=some b):∃ C,PySem.W.nsIn K mainGlobals x=some (some (.ref C))/\isIn K C=true/\PySem.W.kitOne K (.ref C) v=some b:=⟨C,a,i,h⟩
def Η {C:Addr}(a:PySem.W.nsIn K mainGlobals x=some (some (.ref C)))(h:PySem.W.findIn K (.ref C) f=some none):tW K (x,f):=⟨C,a,h⟩
end
section
variable {l:PySem.W.OpenLaw}{q:Program}{loose:List Str}{XP:(Str->Option Value)->Heap->Prop}{YP:World->Heap->Prop}{d:DefRec}{K:Params->PySem.W.Frag}{G:Gm}{bs:List (Str×Y5)}{F C:List (Str×Stmt×Y5)}{st:Stmt}
def ŵ {K:PySem.W.Frag}{mg:Str->Option Value}{base:Heap}:Lh K mg base []:=trivial
def Ġ (L:Nat)(hn:l.most=some 63)(hdf:d.params.defaults=[])(hd:d.name="law")(hr:zQ (L+1) callerA)(hY:∀ (w:World) (h:Heap),YP w h->(K w.params).In h)
  (R:Jk G [] bs F C) (hl:(("law":Str),st,Y5.fn (L+1) ["script"] Qj)∈F) (S:∀ w:World,Dh (K w.params) G bs F C):PySem.W.WalkO q loose XP YP l.row.toRowW d [] (fun f vs=>PySem.call f vs) :=
 bQ (n:=63) (sp:=fun w=>Xl (K w.params) Qj) hn (by decide) hdf hr hY (fun w mg fa h KX N hfa=>by obtain⟨fd,hb,hF⟩:=Ć R hl KX N (S w) (hd▸hfa);exact⟨fd,hb,fun base b n=>hF base b n ŵ⟩) fun _ _ _ _ hl hg hO hS=>iz hl hg hO hS
end
end Dp
open PySem Dp
local macro_rules | `(tactic| walk_at"dat")=>`(tactic| first | assumption | exact zT | exact KY | (refine(zM _ _ _).trans ?_;exact rfl) | exact zF (by assumption))
local macro_rules | `(tactic| walk_at"l")=>`(tactic| first | assumption | exact Lst.rl | exact Lst.at0 | exact Lst.new | (refine Lst.at ?_;exact rfl) | exact Lst.old (by assumption) | exact Lst.here (by assumption) | exact Lst.here (zF (by assumption)))
local macro_rules | `(tactic| walk_at"dseq")=>`(tactic| first | exact Or.inl rfl | (refine Or.inr ?_;walk_at"l"))
local macro_rules | `(tactic| walk_at"d")=>`(tactic| first | assumption | exact My.Bd.mono (by assumption) (by decide) | exact My.Bd.lit (by decide) (by decide) | (refine My.Bd.add ?_ ?_<;>walk_at"d") | (refine My.Bd.sub ?_ ?_<;>walk_at"d") | (refine My.Bd.neg ?_;walk_at"d") | (refine My.Bd.mulH ?_ ?_<;>walk_at"d") | (refine My.Bd.emod (by first | decide | lia) ?_;walk_at"d") | (refine My.Bd.ediv ?_;walk_at"d"))
local macro_rules | `(tactic| walk_at"dmul")=>`(tactic| first | assumption | exact Or.inr (Or.inl (by first | decide | lia)) | exact Or.inr (Or.inr (by first | decide | lia)) | exact Or.inl ⟨by walk_at"d",by walk_at"d"⟩)
local macro_rules | `(tactic| walk_at"ddiv")=>`(tactic| first | assumption | exact⟨by first | decide | lia,by walk_at"d"⟩)
local macro_rules | `(tactic| walk_at"dr1")=>`(tactic| first|(with_reducible refine ī fun _ _ _=>?_)|(with_reducible refine î fun _ _=>?_)|(with_reducible refine jt fun _ _=>?_)|((with_reducible refine jh (W:=?rvw) ?rvk ?_);(case rvk=>assumption))|((with_reducible refine nxl (W:=?rvw) ?rvk ?_);(case rvk=>assumption)))
local macro_rules | `(tactic| walk_at"dr1")=>`(tactic| with_reducible first|refine Ż ?_|refine Ë ?_|refine jV ?_)
local macro_rules | `(tactic| walk_at"dr1")=>`(tactic| with_reducible first|refine ztS ?_|refine zsY ?_|refine zuJ ?_|refine kO ?_|refine zyR ?_|refine fZ ?_|refine aR ?_|refine zvl ?_|refine zwL ?_|refine ϫ ?_|refine zrP ?_|refine Ü ?_)
local macro_rules | `(tactic| walk_at"dr1")=>`(tactic| first|((with_reducible refine zxI (xs:=?rvx) ?rvl ?_);(case rvl=>walk_at"l")))
local macro_rules | `(tactic| walk_at"dr1")=>`(tactic| with_reducible first|refine Hw ?_|refine Ej ?_|refine zxD ?_|refine È ?_|refine zxu ?_|refine oF ?_|refine zte ?_|refine zxy ?_|refine gB ?_)
local macro_rules | `(tactic| walk_at"dr1")=>`(tactic| first|((with_reducible refine lJ (xs:=?rvx) ?rvl ?_);(case rvl=>walk_at"l"))|((with_reducible refine ë (a:=?rvv) ?rvk ?_);(case rvk=>exact rfl))|((with_reducible refine Je (xs:=?rvx) ?rvk ?rvl ?_);(case rvk=>walk_at"dat");(case rvl=>first | exact Nat.lt_of_ble_eq_true rfl | assumption | (simp only[big,qg,qY,Qd,qa]at *;lia))))
local macro_rules | `(tactic| walk_at"dr1")=>`(tactic| with_reducible first|refine cV ?_|refine zvU ?_|refine ů ?_|refine Ķ ?_|refine ztv ?_|refine jU ?_|refine zwj ?_|refine Ø ?_|refine zve ?_|refine zvc ?_)
local macro_rules | `(tactic| walk_at"dr1")=>`(tactic| first|((with_reducible refine jN ?rvk ?_);(case rvk=>exact rfl)))
local macro_rules | `(tactic| walk_at"dr1")=>`(tactic| with_reducible first|refine cJ ?_|refine zhJ ?_|refine zho ?_|refine zvg ?_|refine lX ?_)
local macro_rules | `(tactic| walk_at"dr1")=>`(tactic| first|((with_reducible refine Ç (xs:=?rvx) ?rvl ?_);(case rvl=>walk_at"l")))
local macro_rules | `(tactic| walk_at"dr1")=>`(tactic| with_reducible first|refine zta ?_)
local macro_rules | `(tactic| walk_at"dr1")=>`(tactic| first|((with_reducible refine zvS (xs:=?rvx) ?rvl ?_);(case rvl=>walk_at"l")))
local macro_rules | `(tactic| walk_at"dr1")=>`(tactic| with_reducible first|refine kW ?_|refine Ã ?_)
local macro_rules | `(tactic| walk_at"dr1")=>`(tactic| with_reducible first|refine GD ?_|refine zxf ?_|refine zwv ?_|refine zxV ?_|refine cT ?_|refine Xh ?_|refine υ ?_|refine uf ?_|refine vI ?_|refine Vy ?_|refine zwD ?_|refine zt1 ?_)
local macro_rules | `(tactic| walk_at"dr1")=>`(tactic| first|((with_reducible refine Fp (ys:=?rvx) ?rvk ?_);(case rvk=>walk_at"dat")))
local macro_rules | `(tactic| walk_at"dr1")=>`(tactic| with_reducible first|refine r_b ?_|refine Ō ?_)
local macro_rules | `(tactic| walk_at"dr1")=>`(tactic| first|((with_reducible refine zu6 (b:=?rvv) ?rvk ?_);(case rvk=>exact rfl)))
local macro_rules | `(tactic| walk_at"dr1")=>`(tactic| with_reducible first|refine Ϛ ?_|refine jo ?_|refine zv6 ?_)
local macro_rules | `(tactic| walk_at"dr1")=>`(tactic| first|((with_reducible refine zxr ?rvk ?_);(case rvk=>exact rfl)))
local macro_rules | `(tactic| walk_at"dr1")=>`(tactic| with_reducible first|refine ā ?_)
local macro_rules | `(tactic| walk_at"dr1")=>`(tactic| with_reducible first|refine r_t ?_|refine ĩ ?_|refine zw5 ?_|refine zwW ?_|refine gw ?_|refine zxJ ?_|refine lM ?_|refine ztT ?_|refine ş ?_|refine zwd ?_|refine Bq ?_|refine sH ?_)
local macro_rules | `(tactic| walk_at"dr1")=>`(tactic| first|((with_reducible refine aP ?rvk ?_);(case rvk=>walk_at"dmul"))|((with_reducible refine zxo ?rvk ?_);(case rvk=>walk_at"ddiv"))|((with_reducible refine Ê ?rvk ?_);(case rvk=>first | assumption | decide | lia))|((with_reducible refine zxS (d:=?rvv) ?rvk ?_);(case rvk=>first | assumption | exact rfl))|((with_reducible refine zxG (xs:=?rvx) (d:=?rvv) ?rvl ?rvk ?_);(case rvl=>walk_at"l");(case rvk=>first | assumption | exact rfl)))
local macro_rules | `(tactic| walk_at"dr1")=>`(tactic| with_reducible first|refine bY ?_)
local macro_rules | `(tactic| walk_at"dr1")=>`(tactic| with_reducible first|refine ŗ ?_|refine Ja ?_|refine Ϯ ?_|refine zwU ?_|refine ó ?_|refine aJ ?_|refine Ĝ ?_|refine bC ?_|refine zzn ?_|refine bO ?_|refine zwV ?_|refine θ ?_)
local macro_rules | `(tactic| walk_at"dr1")=>`(tactic| first|((with_reducible refine Q9 (d:=?rvv) ?rvk ?_);(case rvk=>exact rfl)))
local macro_rules | `(tactic| walk_at"dr1")=>`(tactic| with_reducible first|refine aq ?_|refine ξ ?_)
local macro_rules | `(tactic| walk_at"dr1")=>`(tactic| first|((with_reducible refine cO (g:=?rv1) (b:=?rv2) (f:=?rv3) (h:=?rv4) (a:=?rv5) (l:=?rv6) (d:=?rv7) ?rvk ?_);(case rvk=>walk_at"dat"))|((with_reducible refine aZ (g:=?rv1) (b:=?rv2) (f:=?rv3) (h:=?rv4) (a:=?rv5) (l:=?rv6) (d:=?rv7) ?rvk ?_);(case rvk=>walk_at"dat")))
local macro_rules | `(tactic| walk_at"dr1")=>`(tactic| first|((with_reducible refine zv5 (l:=?rvx) ?rvk ?_);(case rvk=>walk_at"dat"))|((with_reducible refine zoa (g:=?rv1) (b:=?rv2) (f:=?rv3) (h:=?rv4) (a:=?rv5) (l:=?rv6) (d:=?rv7) ?rvk ?_);(case rvk=>walk_at"dat"))|((with_reducible refine ü (g:=?rv1) (b:=?rv2) (f:=?rv3) (h:=?rv4) (a:=?rv5) (l:=?rv6) (d:=?rv7) ?rvk ?_);(case rvk=>walk_at"dat"))|((with_reducible refine ju (g:=?rv1) (b:=?rv2) (f:=?rv3) (h:=?rv4) (a:=?rv5) (l:=?rv6) (d:=?rv7) ?rvk ?_);(case rvk=>walk_at"dat"))|((with_reducible refine zur (g:=?rv1) (b:=?rv2) (f:=?rv3) (h:=?rv4) (a:=?rv5) (l:=?rv6) (d:=?rv7) ?rvk ?_);(case rvk=>walk_at"dat")))
local macro_rules | `(tactic| walk_at"dr1")=>`(tactic| with_reducible first|refine yD ?_|refine lC ?_|refine lK ?_|refine gQ ?_|refine um ?_|refine œ ?_|refine zxb ?_)
local macro_rules | `(tactic| walk_at"dr1")=>`(tactic| with_reducible first|refine zzp ?_|refine k_drop ?_|refine eX ?_|refine zzv ?_|refine aV ?_|refine δ ?_|refine Ĩ ?_|refine zzq ?_|refine jB ?_|refine zzl ?_|refine Eu ?_|refine Ù ?_)
local macro_rules | `(tactic| walk_at"dr1")=>`(tactic| with_reducible first|refine ϛ ?_|refine Χ ?_|refine Ũ ?_|refine mH ?_|refine zwy ?_|refine zyj ?_|refine jK ?_|refine ϳ ?_|refine gH ?_|refine lg ?_|refine bV ?_|refine zyK ?_)
local macro_rules | `(tactic| walk_at"g")=>`(tactic| repeat walk_at"dr1")
local macro_rules | `(tactic| walk_at"h")=>`(tactic| simp only[SQ,qQ,Qh,qY,Qd,Nat.reduceSub,Nat.reduceAdd,List.replicate,Kw,List.nil_append,List.set_cons_zero,J3])
local macro_rules | `(tactic| walk_at"j")=>`(tactic| simp only[List.set_cons_zero,J3])
namespace Dp
open PySem Rm My
def J1:ZV:=fun ds S Q=>∃ (ns:List Int) (k:Int),ds=[.rl (ns.map D.int),.int k]/\0<=k/\∀ v,Q (.int v) S
abbrev YT:DG:=zR 0
abbrev Vz:DG:=zR 1
abbrev Yh:DG:=zR 2
abbrev Ym:DG:=zR 3
abbrev Yt:DG:=zR 4
abbrev YG:DG:=zR 5
abbrev Wn:DG:=zR 6
abbrev U0:DG:=zR 7
abbrev Mp:DG:=zR 8
abbrev HF:DG:=zR 9
abbrev tG:DG:=zR 10
abbrev pQ:DG:=zR 11
abbrev Þ:DG:=zR 12
abbrev Z4:DE:=YM 0
abbrev Z0:DE:=YM 1
abbrev ZX:DE:=YM 2
abbrev ZW:DE:=YM 3
abbrev ZP:DE:=YM 4
abbrev Y8:DE:=YM 5
abbrev YS:DE:=YM 6
abbrev Xc:DE:=YM 7
abbrev Uv:DE:=YM 8
abbrev QF:DE:=YM 9
abbrev U7:DE:=YM 10
abbrev JG:DE:=YM 11
abbrev ϯ:DE:=YM 12
abbrev ZK:DE:=dC (.int 0)
abbrev ZL:DE:=dC (.int 1)
abbrev W2:DE:=dC (.int 2)
abbrev Qg:DE:=dC (.int 3)
abbrev WT:DE:=dC (.int 4)
abbrev RK:DE:=dC (.int 5)
abbrev Qz:DE:=dC (.int 6)
abbrev Gz:DE:=dC (.int 7)
abbrev J4:DE:=dC (.int 8)
abbrev Fz:DE:=dC (.int 9)
abbrev Xd:DE:=Z6 ZQ Z4 ZK
abbrev Ws:DE:=Z6 ZQ Z4 ZL
abbrev Mu:DE:=Z6 ZQ Z4 W2
abbrev MP:DE:=Z6 ZQ Z4 Qg
abbrev Dr:DE:=Z6 ZQ Z4 WT
abbrev vK:DE:=Z6 ZQ Z4 RK
abbrev Ŕ:DE:=Z6 ZQ Z4 Qz
abbrev Ď:DE:=Z6 ZQ Z4 Gz
abbrev V7:DE:=Z6 ZQ Z0 ZK
abbrev Tz:DE:=Z6 ZQ Z0 ZL
abbrev T6:DE:=Z6 ZQ ZX ZK
abbrev Sw:DE:=Z6 ZQ ZX ZL
abbrev cF:DE:=Z6 ZQ ZX W2
abbrev zx1:DE:=Z6 ZQ ZW ZK
abbrev zw3:DE:=Z6 ZQ ZW ZL
abbrev zw8:DE:=Z6 ZQ ZP ZK
abbrev eY:DE:=Z6 ZQ Y8 ZK
abbrev Gk:DE:=Z6 ZQ Y8 ZL
abbrev Zg:DA:=zc Z4 zm
abbrev Yu:DA:=zc Z0 zm
abbrev YD:DA:=zc ZX zm
abbrev Yz:DA:=zc ZW zm
abbrev WK:DA:=zc ZP zm
abbrev Ml:DA:=zc Y8 zm
abbrev Om:DA:=zc YS zm
abbrev IV:DA:=zc Xc zm
abbrev Ψ:DA:=zc QF zm
abbrev wM:DA:=zc U7 zm
abbrev vW:DS :=
    (zf (ZR (dT (Z6 oLt Z0 (dB Za Zg))) (zA (Z6 ZQ Z4 Z0)) zB)
 (zA ZK))
def zhu:BodyOk 2 vW J1:=by
 rintro ds S Q ⟨ns,k,rfl,h0,q⟩;unfold vW;walk_at"g";rw[qa];refine ZC (fun g=>?_) (fun g=>?_)
 ·obtain⟨v,_,av⟩:=Ba (zs:=ns) h0 (by lia);walk_at"g";exact fin_same (q _)
 ·walk_at"g";exact fin_same (q _)
def Mr:ZV:=fun ds S Q=>∃ (c k:Int),ds=[.int c,.int k]/\0<=k/\k<3000/\∀ v,0<=v->v<1000000000000000000000000000000000000000000000000000000000033->Q (.int v) S
abbrev pD:DS :=
    (zf (zq (Z6 Y7 (Z6 zW (Z6 oMod Z4 (dC (.int 1000000000000000000000000000000000000000000000000000000000000))) Qg) (Z6 zW (dC (.int 16180339887498948482045868343656381177203)) (Z6 Y7 (Z6 Y7 W2 Z0) Z0))) Yh)
 (zf (zq (Z6 zW ZX (Z6 Y7 (dC (.int 6151)) Z0)) Yh)
 (zA (Z6 oMod (Z6 Y7 ZX ZX) (Z6 zW (dC (.int 1000000000000000000000000000000000000000000000000000000000000)) (dC (.int 33)))))))
def fJ:BodyOk 3 pD Mr:=by
 rintro ds S Q ⟨c,k,rfl,h0,hk,q⟩;unfold pD
 have b1:My.Bd 300 (c%1000000000000000000000000000000000000000000000000000000000000+3):=by have h1:=UG c (b:=1000000000000000000000000000000000000000000000000000000000000) (by decide);have h2:=R8 c (b:=1000000000000000000000000000000000000000000000000000000000000) (by decide);show _<2 ^ 300;lia
 have hk2:0<=2*k*k/\2*k*k<=18000000:=⟨Int.mul_nonneg (by lia) h0,Int.le_trans (Int.mul_le_mul (show 2*k<=6000 by lia) (show k<=3000 by lia) h0 (by decide)) (by decide)⟩
 have b2:My.Bd 300 (16180339887498948482045868343656381177203+2*k*k):=by show _<2 ^ 300;lia
 have cm1:YZ (c%1000000000000000000000000000000000000000000000000000000000000+3) (16180339887498948482045868343656381177203+2*k*k):=.inl ⟨b1.mono (by decide),b2.mono (by decide)⟩
 have b3:My.Bd 700 ((c%1000000000000000000000000000000000000000000000000000000000000+3)*(16180339887498948482045868343656381177203+2*k*k)+6151*k):=(My.Bd.add (n:=600) (My.Bd.mul b1 b2) (by show _<2 ^ 600;lia)).mono (by decide)
 have cm2:YZ ((c%1000000000000000000000000000000000000000000000000000000000000+3)*(16180339887498948482045868343656381177203+2*k*k)+6151*k) ((c%1000000000000000000000000000000000000000000000000000000000000+3)*(16180339887498948482045868343656381177203+2*k*k)+6151*k):=.inl ⟨b3.mono (by decide),b3.mono (by decide)⟩;walk_at"g";exact fin_same (q _ (UG _ (by decide)) (R8 _ (by decide)))
def Dd:ZV:=fun ds S Q=>∃ (x:D) (ns:List Int) (most:Int),ds=[x,.int most]/\Lst S x (ns.map D.int)/\ns.length<=63/\1<=most/\most<=60/\∀ zs:List Int,(zs.length:Int)=most->(∀ z∈zs,0<=z/\z<1000000000000000000000000000000000000000000000000000000000033)->New Q S (zs.map D.int)
abbrev vh:DS :=
    (zf (zq (Zi 1 [] (Sd Yu) YT Yn (dCall Mr (zc Z4 (zc (dC (.int 40)) zm)))) Yh)
 (zf (Y0 (Wm Zg) (YH 2 (zN Ym (zN Yt YK))) (zf (zq (Z6 oMod ZW Z0) YG)
 (zq (dCall Mr (zc (Z6 zW (Z6 ZQ ZX Y8) (Z6 oMod ZP (dC (.int 1000000000000000000000000000000000000000000000000000000000000)))) (zc (Z6 oMod ZW (dC (.int 37))) zm))) (Qv ZX Y8))))
 (zA ZX)))
def ziX:BodyOk 6 vh Dd:=by
 rintro ds S Q ⟨x,ns,most,rfl,hx,hl,h1,h2,q⟩;unfold vh;walk_at"g";refine⟨_,rfl,by lia,by lia,?_⟩;refine⟨by rw[JQ];unfold big;lia,fun i ys S'=>S'=S/\∃ zs:List Int,ys=zs.map D.int/\zs.length=i/\∀ z∈zs,0<=z/\z<1000000000000000000000000000000000000000000000000000000000033,⟨rfl,[],rfl,rfl,by simp⟩,fun _ _ _ _=>True.intro,?_,?_⟩
 ·rintro i d ys S' hd ⟨rfl,zs,rfl,hz,hb⟩;obtain⟨hi,rfl⟩:=LQ hd;walk_at"g";refine⟨_,_,rfl,by decide,by decide,fun v v0 v1=>?_⟩;refine⟨rfl,zs++[v],by rw[qD];rfl,by simp[hz],fun z hz'=>?_⟩;rcases qC.mp hz' with h|h
  ·exact hb z h
  ·have:z=v:=by simpa using h
   subst this;exact⟨v0,v1⟩
 rintro ys S' ⟨rfl,zs,rfl,hz,hb⟩;rw[JQ]at hz;have hz:(zs.length:Int)=most:=by lia
 walk_at"g";refine RW (xs:=ns.map D.int) hx.old ?_
 refine Yq (fun i Z S''=>∃ (zs:List Int) (w1 w2 w3:Option D),Z=[some x,some (.int most),some (.ref S'.length),w1,w2,w3]/\S''=S'++[.lst (zs.map D.int)]/\(zs.length:Int)=most/\∀ z∈zs,0<=z/\z<1000000000000000000000000000000000000000000000000000000000033)
  ⟨zs,_,_,_,rfl,rfl,hz,hb⟩ (by rintro i Z S'' ⟨zs,w1,w2,w3,_,e,_⟩;exact e▸hx.old) ?_ ?_
 ·rintro i d Z S'' hd ⟨zs,w1,w2,w3,rfl,rfl,hz,hb⟩;obtain⟨y,hy,rfl⟩:=Uz hd;obtain⟨n,_,rfl⟩:=R7 hy;have m1:=UG ((0+i:Nat):Int) (show most≠0 by lia);have m2:=R8 ((0+i:Nat):Int) (show 0<most by lia);obtain⟨u,hu,au⟩:=Ba (zs:=zs) (k:=((0+i:Nat):Int)%most) m1 (by lia);have iu:=ì (zs:=zs) (k:=((0+i:Nat):Int)%most) m1 (by lia);have k1:=UG ((0+i:Nat):Int) (show(37:Int)≠0 by decide);have k2:=R8 ((0+i:Nat):Int) (show(0:Int)<37 by decide);walk_at"g";refine⟨_,_,rfl,k1,by lia,fun v v0 v1=>?_⟩;walk_at"g";refine jc zT iu ?_;walk_at"g";refine⟨zs.set _ v,_,_,_,rfl,by rw[List.map_set],by simpa using hz,fun z hz'=>?_⟩;rcases ą hz' with h|h
  ·exact hb z h
  ·subst h;exact⟨v0,v1⟩
 ·rintro Z S'' ⟨zs,w1,w2,w3,rfl,rfl,hz,hb⟩;walk_at"g";exact fin_same (q zs hz hb)
def Vb (j:Int):Str:=if j=0 then "" else if j=1 then "b" else if j=2 then "xx" else "light"
def Qe (k:Nat)(j:Int):Str:=(⟨#[97+k]⟩:Str)++Vb j
def gA (j:Int)(h0:0<=j)(h1:j<4):Zh [.str "",.str "b",.str "xx",.str "light"] j=some (.str (Vb j)):=by
  have:j=0\/j=1\/j=2\/j=3:=by lia
  rcases this with rfl|rfl|rfl|rfl<;>rfl
def rY (j:Int):(Vb j).length<=5/\∀ c∈(Vb j).cps.toList,c∈abc:=by
  unfold Vb;split
  . decide +kernel
  . split
    . decide +kernel
    . split<;>decide +kernel
def nR (k:Nat)(j:Int):(Qe k j).cps.toList=(97+k)::(Vb j).cps.toList:=by show((#[97+k]:Array Nat)++(Vb j).cps).toList=_;simp
def Ť {k:Nat}{j:Int}(hk:k<9):Xb (Qe k j)=true:=by
 obtain⟨h1,h2⟩:=rY j
 have hl:(Qe k j).length=(Vb j).length+1:=by show((#[97+k]:Array Nat)++(Vb j).cps).size=(Vb j).cps.size+1;simp;lia
 rw[Ij,hl];refine⟨by lia,by lia,fun c hc=>?_⟩;rw[nR]at hc;rcases ql.mp hc with rfl|hc
 ·exact nJ.mpr (by lia)
 ·exact h2 c hc
def zuw (i:Nat)(h1:i<9):atS "abcdefghi" (i:Int)=some (97+i):=by
 have:∀ j:_root_.Fin 9,atS "abcdefghi" ((j.val:Nat):Int)=some (97+j.val):=by decide +kernel
 exact this ⟨i,h1⟩
def Hx:ZV:=fun ds S Q=>∃ (ns:List Int),ds=[.rl (ns.map D.int)]/\ns.length<=63/\∀ (T:Z7) (a b c:D) (zs:List Str) (ps:List (Int×Int)) (fs:List Fg) (hz f:Int),BR zs ps fs hz f->Lst (S++T) a (zs.map D.str)->Lst (S++T) b (ps.map p2)->Lst (S++T) c (fs.map Xo)->Q (.tup [a,b,c,.int hz,.int f,.int (f+5)]) (S++T)
abbrev Ab:DS :=
    (zf (zq (Z6 oMod (dCall J1 (zc Z4 (zc ZK zm))) (dC (.int 1000000000000000000000000000000))) Vz)
 (zf (zq (Z6 zW W2 (Z6 oMod Z0 Gz)) Yh)
 (zf (zq (dCall Dd (zc (Uo Ut Z4 (some W2) none) (zc Fz zm))) Ym)
 (zf (zq (Zi 1 [] (Zu (Uo Ut ZW none (some ZX))) YT Yn (dTup (zc (Z6 oMod (Z6 oDiv Z4 RK) RK) (zc (Z6 oMod (Z6 oDiv Z4 (dC (.int 40))) WT) zm)))) Yt)
 (zf (zq (Zi 2 [] (Wm (zc (Uo Ut ZW none (some ZX)) zm)) (YH 2 (zN YT (zN Vz YK))) Yn (Z6 zW (Z6 ZQ (dC (.str "abcdefghi")) Z4) (Z6 ZQ (Zk (zc (dC (.str "")) (zc (dC (.str "b")) (zc (dC (.str "xx")) (zc (dC (.str "light")) zm))))) (Z6 oMod (Z6 oDiv Z0 (dC (.int 400))) WT)))) YG)
 (zf (zq (Z6 ZQ (Zk (zc ZL (zc W2 (zc WT (zc RK (zc J4 (zc (dC (.int 10)) zm))))))) (Z6 oMod (Z6 oDiv Z0 Gz) Qz)) Wn)
 (zf (zq (Z6 Zm (Z6 oMod (Z6 oDiv Z0 (dC (.int 42))) Fz) WT) U0)
 (zf (zq (Zk zm) Mp)
 (zf (Y0 (Zu (Uo Ut ZW none (some (Z6 oMod (Z6 oDiv Z0 (dC (.int 378))) WT)))) HF (zf (zq (dCall Mr (zc QF (zc (dC (.int 72)) zm))) tG)
 (zf (zq (Z6 zW Xc (Z6 oMod (Z6 oDiv U7 WT) Qz)) pQ)
 (zf (zq (dTup (zc (Z6 oMod (Z6 oDiv U7 (dC (.int 24))) RK) (zc (Z6 zW (Z6 oMod (Z6 oDiv U7 (dC (.int 24))) RK) (Z6 oMod (Z6 oDiv U7 (dC (.int 120))) W2)) (zc (Z6 oMod (Z6 oDiv U7 (dC (.int 240))) WT) (zc (Z6 zW (Z6 oMod (Z6 oDiv U7 (dC (.int 240))) WT) (Z6 oMod (Z6 oDiv U7 (dC (.int 960))) W2)) zm))))) Þ)
 (Zb (dM V1 Uv (zc (Z6 zW ϯ (dTup (zc JG (zc (Z6 zW JG (Z6 oMod (Z6 oDiv U7 (dC (.int 1920))) Qz)) (zc (Z6 Zm (Z6 oMod (Z6 oDiv U7 (dC (.int 11520))) Qg) ZL) (zc ZK zm)))))) zm)))))))
 (zA (dTup (zc Y8 (zc ZP (zc Uv (zc YS (zc Xc (zc (Z6 zW Xc RK) zm)))))))))))))))))
def dR:BodyOk 13 Ab Hx:=by
  rintro ds S Q ⟨ns,rfl,hl,q⟩;unfold Ab;walk_at"g";refine⟨ns,0,rfl,by decide,fun c0=>?_⟩;have e0:=UG c0 (b:=1000000000000000000000000000000) (by decide);have e1:=R8 c0 (b:=1000000000000000000000000000000) (by decide);walk_at"g";generalize c0%1000000000000000000000000000000=hd at e0 e1;rw[O8];have cl:(cutD ns (some 2) none).length<=63:=qZ (mj _ _ _) (by unfold Xm;dsimp only;lia);generalize cutD ns (some 2) none=cn at cl;walk_at"g";refine⟨_,cn,9,rfl,Lst.at0,cl,by decide,by decide,fun sd sl sb=>?_⟩;walk_at"g";have n1:0<=hd%7/\hd%7<7:=by lia
  rw[O8,FP _ (by lia) (by lia)];have tl:(sd.take (2+hd%7).toNat).length=(2+hd%7).toNat:=by rw[Vj];lia
  obtain⟨sc,hsc⟩:∃ sc,sc=sd.take (2+hd%7).toNat:=⟨_,rfl⟩
  rw[<- hsc]at tl ⊢;walk_at"g";refine Xx (fun _=>true) (mJ fun k=>p2 (k/5%5,k/40%4)) (by exact Lst.at (k:=2) rfl) (by rw[qa];unfold big;lia) (fun i d ys hd' hw=>?_) ?_
  . obtain⟨z,_,rfl⟩:=R7 hd';walk_at"g";exact Xw hd' hw rfl rfl
  rw[filter_true,dz];walk_at"g";rw[O8,FP _ (by lia) (by lia),<- hsc];walk_at"g";refine RW (xs:=sc.map D.int) (Lst.at (k:=4) rfl) ?_;obtain⟨S5,hS5⟩:∃ S5:Z7,S5=S++[Cell.lst (cn.map D.int),.lst (sd.map D.int),.lst (sc.map D.int),.lst (sc.map fun k=>p2 (k/5%5,k/40%4)),.lst (sc.map D.int)]:=⟨_,rfl⟩
  rw[<- hS5];have k5:Lst S5 (.ref (S.length+4)) (sc.map D.int):=hS5▸Lst.at (k:=4) rfl;have ksd:S5[S.length+1]?=some (.lst (sd.map D.int)):=hS5▸(zM _ _ 1).trans rfl;have ksp:S5[S.length+3]?=some (.lst (sc.map fun k=>p2 (k/5%5,k/40%4))):=hS5▸(zM _ _ 3).trans rfl;have eS5:∃ T,S5=S++T:=⟨_,hS5⟩
  clear hS5;refine Oe (fun i ys S'=>∃ (G:Z7) (zs:List Str),S'=S5++G/\ys=zs.map D.str/\zs.length=i/\(∀ z∈zs,Xb z=true)/\∀ (j:Nat) z,zs[j]?=some z->z.cps.toList.head?=some (97+j)) ⟨[],[],by simp,rfl,rfl,by simp,fun j z h=>by simp at h⟩ (by rintro i ys S' ⟨G,zs,e,_⟩;exact e▸k5.old) (by rw[UL,qa];unfold big;lia) ?_ ?_
  . rintro i d ys S' hd' ⟨G,zs,rfl,rfl,hz,hn,hh⟩;obtain⟨y,hy,rfl⟩:=Uz hd';have hi:=zL hy;rw[qa]at hi;obtain⟨z,_,rfl⟩:=R7 hy;rw[Ms];walk_at"g";refine jW (c:=97+i) (by decide +kernel) (zuw i (by lia)) ?_;have sa:=gA (z/400%4) (by lia) (by lia);walk_at"g";obtain⟨s1,_⟩:=rY (z/400%4);refine ztx (by show 1+_<=big;unfold big;lia) ?_;walk_at"g";refine⟨G++[_],zs++[Qe i (z/400%4)],rfl,by rw[qD];rfl,by simp[hz],fun x hx=>?_,fun j x hx=>?_⟩
    . rcases qC.mp hx with hx|hx
      . exact hn x hx
      . have:x=Qe i (z/400%4):=by simpa using hx
        rw[this];exact Ť (by lia)
    . rcases qV j zs.length with g|g
      . rw[qf g]at hx;exact hh j x hx
      . have lj:=zL hx;rw[qg]at lj;have:j=zs.length:=by simp at lj;lia
        subst this;rw[qe (qh _),Yj]at hx;have:Qe i (z/400%4)=x:=by simpa using hx
        subst this;rw[nR,hz];rfl
  rintro ys S' ⟨G,zs,rfl,rfl,hz,hn,hh⟩;rw[UL,qa,tl]at hz;obtain⟨S6,hS6⟩:∃ S6:Z7,S6=S5++G:=⟨_,rfl⟩
  rw[<- hS6];have ksd6:S6[S.length+1]?=some (.lst (sd.map D.int)):=hS6▸zF ksd;have ksp6:S6[S.length+3]?=some (.lst (sc.map fun k=>p2 (k/5%5,k/40%4))):=hS6▸zF ksp;have eS6:∃ T,S6=S++T:=Gq eS5 hS6;clear hS6 ksd ksp k5 eS5;walk_at"g"
  have ah:∃ w,0<=w/\w<=10/\Zh [.int 1,.int 2,.int 4,.int 5,.int 8,.int 10] (hd/7%6)=some (.int w):=by
    have:hd/7%6=0\/hd/7%6=1\/hd/7%6=2\/hd/7%6=3\/hd/7%6=4\/hd/7%6=5:=by lia
    rcases this with e|e|e|e|e|e<;>rw[e]
    . exact⟨1,by decide,by decide,rfl⟩
    . exact⟨2,by decide,by decide,rfl⟩
    . exact⟨4,by decide,by decide,rfl⟩
    . exact⟨5,by decide,by decide,rfl⟩
    . exact⟨8,by decide,by decide,rfl⟩
    . exact⟨10,by decide,by decide,rfl⟩
  obtain⟨hw,hw0,hw1,aw⟩:=ah;walk_at"g";rw[O8,FP _ (by lia) (by lia)];have tl2:(sd.take (hd/378%4).toNat).length<=4:=by rw[Vj];lia
  generalize sd.take (hd/378%4).toNat=se at tl2;have f0:-4<=hd/42%9-4/\hd/42%9-4<=4:=by lia
  generalize hd/42%9-4=f at f0;obtain⟨S7,hS7⟩:∃ S7:Z7,S7=S6++[Cell.lst (zs.map D.str),.lst [.int 1,.int 2,.int 4,.int 5,.int 8,.int 10]]:=⟨_,rfl⟩
  have kz:S7[S6.length]?=some (.lst (zs.map D.str)):=hS7▸zT;have ksd7:S7[S.length+1]?=some (.lst (sd.map D.int)):=hS7▸zF ksd6;have ksp7:S7[S.length+3]?=some (.lst (sc.map fun k=>p2 (k/5%5,k/40%4))):=hS7▸zF ksp6;have eS7:∃ T,S7=S++T:=Gq eS6 hS7;rw[show S6++[Cell.lst (zs.map D.str),.lst [.int 1,.int 2,.int 4,.int 5,.int 8,.int 10],.lst [],.lst (se.map D.int)]=S7++[.lst [],.lst (se.map D.int)] by rw[hS7];simp,show S6.length+2=S7.length by rw[hS7];simp,show S6.length+3=S7.length+1 by rw[hS7];simp];generalize S6.length=nz at kz;clear hS7 ksd6 ksp6 eS6;walk_at"h";refine Yq (fun i Z S'=>∃ (fs:List Fg) (w9 w10 w11 w12:Option D),S'=S7++[.lst (fs.map Xo),.lst (se.map D.int)]/\Z=[some (.rl (ns.map D.int)),some (.int hd),some (.int (2+hd%7)),some (.ref (S.length+1)),some (.ref (S.length+3)),some (.ref nz),some (.int hw),some (.int f),some (.ref S7.length),w9,w10,w11,w12]/\fs.length=i/\∀ F∈fs,Ln F) ⟨[],_,_,_,_,rfl,rfl,rfl,by simp⟩ (by rintro i Z S' ⟨fs,_,_,_,_,e,_⟩;exact e▸Lst.at (k:=1) rfl) ?_ ?_
  . rintro i d Z S' hd' ⟨fs,w9,w10,w11,w12,rfl,rfl,hi,hf⟩;have li:=zL hd';rw[qa]at li;obtain⟨z,_,rfl⟩:=R7 hd';walk_at"g";refine⟨z,72,rfl,by decide,by decide,fun m m0 m1=>?_⟩;walk_at"g";refine lE (by show 4+4<=big;decide) ?_;have hlim:(fs.map Xo).length<big:=by rw[qa];unfold big;lia
    walk_at"g";have sm:∀ {n:Nat} {x:Int},200<=n->-100<=x->x<=100->Bd n x:=fun {n x} hn h1 h2=>(show Bd 7 x by show _<2 ^ 7;lia).mono (by lia)
    refine⟨fs++[⟨m/24%5,m/24%5+m/120%2,m/240%4,m/240%4+m/960%2,f+m/4%6,f+m/4%6+m/1920%6,m/11520%3-1,0⟩],_,_,_,_,by rw[qD];rfl,rfl,by simp[hi],fun F hF=>?_⟩;rcases qC.mp hF with hF|hF
    . exact hf F hF
    . have e:=qJ.mp hF;subst e;exact⟨⟨by dsimp only;lia,by dsimp only;lia,sm (by decide) (by dsimp only;lia) (by dsimp only;lia),sm (by decide) (by dsimp only;lia) (by dsimp only;lia),sm (by decide) (by dsimp only;lia) (by dsimp only;lia),sm (by decide) (by dsimp only;lia) (by dsimp only;lia),sm (by decide) (by dsimp only;lia) (by dsimp only;lia),sm (by decide) (by dsimp only;lia) (by dsimp only;lia)⟩,by dsimp only;lia,sm (by decide) (by dsimp only;lia) (by dsimp only;lia),sm (by decide) (by dsimp only;lia) (by dsimp only;lia)⟩
  . rintro Z S' ⟨fs,w9,w10,w11,w12,rfl,rfl,hi,hf⟩;rw[qa]at hi;walk_at"g";obtain⟨T7,rfl⟩:=eS7;rw[qj]
    have w:BR zs (sc.map fun k=>(k/5%5,k/40%4)) fs hw f:=⟨by lia,by lia,hn,Å hh,by rw[qa];lia,fun p hp=>by obtain⟨k,_,rfl⟩:=qE.mp hp;dsimp only;lia,by lia,hf,hw0,hw1,f0.1,f0.2⟩
    refine fin_same (q _ _ _ _ zs _ fs hw f w ?_ ?_ ?_)
    . rw[<- qj];exact Lst.here (zF kz)
    . rw[<- qj,Xq];exact Lst.here (zF ksp7)
    . rw[<- qj];exact Lst.at0
def Hh:ZV:=fun ds S Q=>∃ (x:D) (cs:List (Int×Int)),ds=[x]/\Lst S x (cs.map p2)/\WR cs/\Q .non S
abbrev uV:DS :=
    (zf (ZR (Xp (dT (Z6 oLt (dB Za Zg) W2)) (dT (Z6 Yk (dB Za Zg) (dC (.int 40))))) Yg zB)
 (Y0 (M4 (zc ZL (zc (dB Za Zg) zm))) Vz (ZR (dT (Z6 oLe (Z6 ZQ (Z6 ZQ Z4 Z0) ZK) (Z6 ZQ (Z6 ZQ Z4 (Z6 Zm Z0 ZL)) ZK))) Yg zB)))
def gJ:BodyOk 2 uV Hh:=by
 rintro ds S Q ⟨x,cs,rfl,hx,g,q⟩;unfold uV;have g1:=g.two;have g2:=g.most;walk_at"g";rw[qa];refine ZC (fun z=>absurd z (by lia)) (fun _=>?_);walk_at"g";rw[qa];refine ZC (fun z=>absurd z (by lia)) (fun _=>?_);walk_at"g";rw[qa];refine⟨_,_,rfl,?_⟩;refine Yq (fun i Z S'=>S'=S/\∃ w:Option D,Z=[some x,w]) ⟨rfl,none,rfl⟩ (fun _ _ _ _=>True.intro) ?_ ?_
 ·rintro i d Z S' hd ⟨rfl,w,rfl⟩;obtain⟨hi,rfl⟩:=LQ hd;obtain⟨a,ha,aa⟩:=Ip (cs:=cs) (k:=1+(i:Int)) (by lia) (by lia);obtain⟨b,hb,ab⟩:=Ip (cs:=cs) (k:=1+(i:Int)-1) (by lia) (by lia);have hlt:=wY g (show(1+(i:Int)-1).toNat<(1+(i:Int)).toNat by lia) hb ha;walk_at"g";refine ZC (fun z=>absurd z (by lia)) (fun _=>?_);walk_at"g";exact⟨rfl,_,rfl⟩
 ·rintro Z S' ⟨rfl,w,rfl⟩;exact fin_same q
def Hy:ZV:=fun ds S Q=>∃ (S0:Z7) (x:D) (cs:List (Int×Int)),ds=[.ref S0.length,x]/\S=S0++[.ins "Ground" []]/\Lst S0 x (cs.map p2)/\WR cs/\Q .non (S0++[.ins "Ground" [("corners",.ref (S0.length+1))],.lst (cs.map p2)])
abbrev uI:DS :=
    (zf (Zb (dCall Hh Yu))
 (V5 "Ground" "corners" Z4 (dB O6 Yu)))
def zhC:BodyOk 2 uI Hy:=by rintro ds S Q ⟨S0,x,cs,rfl,rfl,hx,g,q⟩;unfold uI;have hx':Lst (S0++[.ins "Ground" []]) x (cs.map p2):=hx.old;walk_at"g";refine⟨x,cs,rfl,hx',g,?_⟩;walk_at"g";refine⟨S0.length,[],rfl,zT,by decide,?_⟩;rw[S9];exact fin_same q
def tM:ZV:=R9 "Ground" Hy
def Gu:ZV:=fun ds S Q=>∃ (x y:D) (xs ys:List D),ds=[x,y]/\Lst S x xs/\Lst S y ys/\1<=xs.length/\xs.length<=12/\ys.length<=12/\Q .non S
abbrev yr:DS :=
    (zf (ZR (Xp (dT (Z6 oLt (dB Za Zg) ZL)) (dT (Z6 Yk (dB Za Zg) (dC (.int 12))))) Yg zB)
 (ZR (dT (Z6 Yk (dB Za Yu) (dC (.int 12)))) Yg zB))
def Ŷ:BodyOk 2 yr Gu:=by rintro ds S Q ⟨x,y,xs,ys,rfl,hx,hy,h1,h2,h3,q⟩;unfold yr;walk_at"g";rw[decide_eq_false (show ¬ ((xs.length:Int)<1) by lia)];walk_at"g";rw[decide_eq_false (show ¬ ((12:Int)<xs.length) by lia)];walk_at"g";rw[decide_eq_false (show ¬ ((12:Int)<ys.length) by lia)];walk_at"g";exact fin_same q
def Ga:ZV:=fun ds S Q=>∃ z:Str,ds=[.str z]/\z.length<=1000/\Q (.bl (Xb z)) S
abbrev pJ:DS :=
    (zf (ZR (Xp (dT (Z6 oLt (dB Za Zg) ZL)) (dT (Z6 Yk (dB Za Zg) J4))) (zA (dC (.bl false))) zB)
 (zA (dB Wz (zc (Zi 1 [] (Zu Z4) YT Yn (Z6 Uk Z4 (dC (.str "abcdefghijklmnopqrstuvwxyz")))) zm))))
def Ì:BodyOk 1 pJ Ga:=by
 rintro ds S Q ⟨z,rfl,hz,q⟩;unfold pJ;have hb:z.length<=big:=by unfold big;lia
 walk_at"g";refine xK hb ?_;walk_at"g";unfold Xb at q;refine ZC (fun h=>?_) (fun h=>?_)
 ·walk_at"g";rw[decide_eq_false (show ¬ 1<=z.length by lia)]at q;exact fin_same q
 rw[decide_eq_true (show 1<=z.length by lia)]at q;walk_at"g";refine xK hb ?_;walk_at"g";refine ZC (fun h=>?_) (fun h=>?_)
 ·walk_at"g";rw[decide_eq_false (show ¬ z.length<=8 by lia)]at q;exact fin_same q
 rw[decide_eq_true (show z.length<=8 by lia)]at q;walk_at"g";refine Xx (fun _=>true) (uY fun c=>decide (c∈abc)) True.intro (by rw[ũ];exact hb) (fun i d ys hd hw=>?_) ?_
 ·obtain⟨c,_,rfl⟩:=znt hd;walk_at"g";rw[zty];exact Xw hd hw rfl rfl
 rw[filter_true,Τ];walk_at"g";refine K4 Lst.at0 rfl ?_;refine Sq rfl ?_;rw[TJ];exact q
def CN:ZV:=fun ds S Q=>∃ (x:D) (zs:List Str),ds=[x]/\Lst S x (zs.map D.str)/\zs.length<=100/\(∀ z∈zs,Xb z=true)/\zs.Nodup/\Q .non S
abbrev oY:DS :=
    (zf (ZR (W9 (dT (dB Wz (zc (Zi 1 [] (Zu Z4) YT Yn (dCall Ga Zg)) zm)))) Yg zB)
 (ZR (dT (Z6 oLt (dB Mf Zg) (dB Za Zg))) Yg zB))
def jH:BodyOk 1 oY CN:=by
 rintro ds S Q ⟨x,zs,rfl,hx,hl,hn,nd,q⟩;unfold oY;walk_at"g";refine Xx (fun _=>true) (JX fun z=>.bl (Xb z)) hx (by rw[qa];unfold big;lia) (fun i d ys hd hw=>?_) ?_
 ·obtain⟨z,hz,rfl⟩:=Ye hd;walk_at"g";refine⟨z,rfl,by have:=(Ij.mp (hn z (qd hz))).2.1;lia,?_⟩;exact Xw hd hw rfl rfl
 rw[filter_true,GX,show zs.map (fun z=>D.bl (Xb z))=(zs.map Xb).map D.bl by rw[Xq];rfl];walk_at"g";refine K4 (b:=true) Lst.at0 (by rw[TJ,W6];exact hn) ?_;walk_at"g";refine sY (zs:=zs) hx.old (by lia) ?_;rw[wA nd];have hx1:Lst (S++[Cell.lst ((zs.map Xb).map D.bl)]) x (zs.map D.str):=hx.old;walk_at"g";rw[qa,decide_eq_false (show ¬ ((zs.length:Int)<zs.length) by lia)];walk_at"g";exact Sq rfl q
def P0:ZV:=fun ds S Q=>∃ (a b:Int×Int),ds=[p2 a,p2 b]/\YZ a.1 b.2/\YZ b.1 a.2/\Q (.bl (flt a b)) S
abbrev tK:DS :=(zA (Z6 oLt (Z6 Y7 Xd Tz) (Z6 Y7 V7 Ws)))
def ĭ:BodyOk 2 tK P0:=by rintro ds S Q ⟨a,b,rfl,c1,c2,q⟩;unfold tK;walk_at"g";exact fin_same q
def Ia:ZV:=fun ds S Q=>∃ (g:D) (cs:List (Int×Int)) (p:Int×Int),ds=[g,p2 p]/\WQ S g cs/\WR cs/\Bd 1000 p.1/\Bd 1000 p.2/\Q (.bl (decide (Pq cs*p.2<=p.1)&&decide (p.1<=Q8 cs*p.2))) S
abbrev yH:DS :=
    (zf (zq (dTup (zc (Z6 ZQ (Z6 ZQ (Ze "corners" Z4) ZK) ZK) (zc ZL zm))) Yh)
 (zf (zq (dTup (zc (Z6 ZQ (Z6 ZQ (Ze "corners" Z4) (Wq Wa ZL)) ZK) (zc ZL zm))) Ym)
 (zA (Ro (Rw (dCall P0 (zc Z0 YD))) (Rw (dCall P0 (zc ZW Yu)))))))
def znY:BodyOk 4 yH Ia:=by
 rintro ds S Q ⟨g,cs,p,rfl,⟨n,l,rfl,hn,hl⟩,gr,b1,b2,q⟩;unfold yH;have g1:=gr.two;obtain⟨a,ha,ea⟩:=dH gr;obtain⟨z,hz,ez⟩:=Ι gr;have aa:Zh (cs.map p2) 0=some (p2 a):=RQ (i:=0) (by rw[qk,ha];rfl)
 have az:Zh (cs.map p2) (-1)=some (p2 z):=by
  have hne:cs≠[]:=fun e=>by rw[e]at g1;simp at g1
  have en:cs=cs.dropLast++[z]:=by
   have h2:=List.dropLast_concat_getLast hne
   have h3:cs.getLast hne=z:=by rw[List.getLast_eq_getElem];have hl':=zL hz;rw[qb hl']at hz;cases hz;rfl
   rw[h3]at h2;exact h2.symm
  rw[en,qD];exact ä
 obtain⟨ba,_⟩:=gr.bd a (qd ha);obtain⟨bz,_⟩:=gr.bd z (qd hz);rw[ea,ez]at q;have e1:flt p (a.1,1)=decide (p.1<a.1*p.2):=by unfold flt;dsimp only;rw[T9]
 have e2:flt (z.1,1) p=decide (z.1*p.2<p.1):=by unfold flt;dsimp only;rw[T9]
 have c1:YZ a.1 p.2:=.inl ⟨ba.mono (by decide),b2.mono (by decide)⟩;have c2:YZ z.1 p.2:=.inl ⟨bz.mono (by decide),b2.mono (by decide)⟩;have c3:∀ u:Int,YZ u 1:=fun u=>.inr (.inr (by decide))
 walk_at"g";refine⟨p,(a.1,1),rfl,c3 _,c1,?_⟩;rw[e1];walk_at"g";refine W8 (fun g=>?_) (fun g=>?_)
 ·walk_at"g";refine⟨(z.1,1),p,rfl,c2,c3 _,?_⟩;rw[e2];walk_at"g";rw[decide_eq_true (show a.1*p.2<=p.1 by lia),Bool.true_and]at q;rw[show(!decide (z.1*p.2<p.1))=decide (p.1<=z.1*p.2) by rw[<- decide_not];exact decide_eq_decide.mpr (by lia)];exact fin_same q
 ·rw[decide_eq_false (show ¬ a.1*p.2<=p.1 by lia),VF]at q;exact fin_same q
def Ef:ZV:=fun ds S Q=>∃ (t b:Int),ds=[.int t,.int b]/\Q (.int ((Int.gcd t b:Nat):Int)) S
abbrev wI:DS :=
    (zf (U8 (dT (Z6 XS Z0 ZK)) (zf (zq (Z6 oMod Z4 Z0) Yh)
 (zf (zq Z0 YT)
 (zq ZX Vz))))
 (zA (dB Jy Zg)))
def zf3:BodyOk 3 wI Ef:=by
 rintro ds S Q ⟨t,b,rfl,q⟩;unfold wI;refine Dp.Eu ?_;refine RB (fun m Z S'=>S'=S/\∃ (x y:Int) (w:Option D),Z=[some (.int x),some (.int y),w]/\m=y.natAbs/\Int.gcd x y=Int.gcd t b) b.natAbs ⟨rfl,_,_,none,rfl,rfl,rfl⟩ ?_;rintro m Z S' ⟨rfl,x,y,w,rfl,rfl,e⟩;walk_at"g";refine W8 (fun h0=>?_) (fun h0=>?_)
 ·refine oF ?_;refine Dp.Eu ?_;refine Dp.um ?_;refine Dp.Ja ?_;refine Dp.Q9 rfl ?_;refine Dp.Q9 rfl ?_;refine ϝ h0 ?_;walk_at"g";exact⟨_,Ξ h0,rfl,_,_,_,rfl,rfl,(zow x y).trans e⟩
 ·subst h0;rw[Int.gcd_zero]at e;walk_at"g";rw[<- e]at q;exact fin_same q
def Gf:ZV:=fun ds S Q=>∃ (t b:Int),ds=[.int t,.int b]/\b≠0/\Bd 8000 b/\Q (p2 (Vn t b,frB t b)) S
abbrev o7:DS :=
    (zf (zq (dCall Ef (zc Z4 Yu)) Yh)
 (zf (sJ (ZR (dT (Z6 oLt Z0 ZK)) (zq (Wq Wa ZX) Yh) zB))
 (zA (dTup (zc (Z6 oDiv Z4 ZX) (zc (Z6 oDiv Z0 ZX) zm))))))
def á:BodyOk 3 o7 Gf:=by
 rintro ds S Q ⟨t,b,rfl,hb,bb,q⟩;unfold o7;have hgn:=uG (t:=t) (b:=b) hb;have hgb:=Ï (t:=t) (b:=b) hb bb;walk_at"g";refine⟨t,b,rfl,?_⟩;walk_at"g";refine Ak (fun Z S'=>S'=S/\Z=[some (.int t),some (.int b),some (.int (gd t b))]) ?_ ?_
 ·walk_at"g";refine ZC (fun g=>?_) (fun g=>?_)
  ·have hg:gd t b=-((Int.gcd t b:Nat):Int):=if_pos g;walk_at"g";exact⟨rfl,by rw[hg];rfl⟩
  ·have hg:gd t b=((Int.gcd t b:Nat):Int):=if_neg g;walk_at"g";exact⟨rfl,by rw[hg];rfl⟩
 rintro Z S' ⟨rfl,rfl⟩;refine Dp.yD ?_;refine Dp.sH ?_;refine Dp.Bq ?_;refine Dp.Ja ?_;refine Dp.Q9 rfl ?_;refine Dp.Q9 rfl ?_;refine nU ⟨hgn,hgb⟩ ?_;refine Dp.Bq ?_;refine Dp.Ja ?_;refine Dp.Q9 rfl ?_;refine Dp.Q9 rfl ?_;refine nU ⟨hgn,hgb⟩ ?_;walk_at"g";exact fin_same q
def Cg:ZV:=fun ds S Q=>∃ (a b p:Int×Int),ds=[p2 a,p2 b,p2 p]/\b.1≠a.1/\0<p.2/\Bd 180 a.1/\Bd 200 a.2/\Bd 180 b.1/\Bd 200 b.2/\Bd 1000 p.1/\Bd 1000 p.2/\∀ c:Int×Int,Sv c (PX a b p) (Ui a b p)->Int.gcd c.1 c.2=1->Bd 1400 c.1->Bd 1400 c.2->Q (p2 c) S
def fK {t b:Int}(hb:b≠0):Sv (Vn t b,frB t b) (if 0<b then t else -t) (if 0<b then b else -b):=by
 have h1:=fU t b;have h2:=ϸ (t:=t) hb;refine⟨by show 0<frB t b;lia,?_⟩;show Vn t b*_=_*frB t b;split
 ·rw[h1,Wf]
 ·rw[Int.mul_neg,h1,Int.neg_mul,Wf]
abbrev yx:DS :=
    (zf (zq (Z6 Zm V7 Xd) Ym)
 (zf (zq (Z6 Zm Tz Ws) Yt)
 (zf (zq (Z6 zW (Z6 Y7 (Z6 Y7 Ws ZW) Sw) (Z6 Y7 ZP (Z6 Zm T6 (Z6 Y7 Xd Sw)))) YG)
 (zA (dCall Gf (zc Y8 (zc (Z6 Y7 ZW Sw) zm)))))))
def aG:BodyOk 6 yx Cg:=by
 rintro ds S Q ⟨a,b,p,rfl,hne,hp,b1,b2,b3,b4,b5,b6,q⟩;unfold yx;have r1:Bd 181 (b.1-a.1):=Bd.sub b3 b1;have r2:Bd 201 (b.2-a.2):=Bd.sub b4 b2;have m1:Bd 381 (a.2*(b.1-a.1)):=Bd.mul b2 r1;have m2:Bd 1381 (a.2*(b.1-a.1)*p.2):=Bd.mul m1 b6;have m3:Bd 1180 (a.1*p.2):=Bd.mul b1 b6;have m4:Bd 1181 (p.1-a.1*p.2):=Bd.sub (b5.mono (by decide)) m3;have m5:Bd 1382 ((b.2-a.2)*(p.1-a.1*p.2)):=Bd.mul r2 m4;have m6:Bd 1181 ((b.1-a.1)*p.2):=Bd.mul r1 b6;have bT:Bd 1400 (a.2*(b.1-a.1)*p.2+(b.2-a.2)*(p.1-a.1*p.2)):=(Bd.add (n:=1382) (m2.mono (by decide)) m5).mono (by decide);have c1:YZ a.2 (b.1-a.1):=.inl ⟨b2.mono (by decide),r1.mono (by decide)⟩;have c2:YZ (a.2*(b.1-a.1)) p.2:=.inl ⟨m1.mono (by decide),b6.mono (by decide)⟩;have c3:YZ a.1 p.2:=.inl ⟨b1.mono (by decide),b6.mono (by decide)⟩;have c4:YZ (b.2-a.2) (p.1-a.1*p.2):=.inl ⟨r2.mono (by decide),m4.mono (by decide)⟩;have c5:YZ (b.1-a.1) p.2:=.inl ⟨r1.mono (by decide),b6.mono (by decide)⟩;walk_at"g";have hr:(b.1-a.1)*p.2≠0:=Int.mul_ne_zero (by lia) (by lia);refine⟨_,_,rfl,hr,m6.mono (by decide),?_⟩;refine fin_same (q _ ?_ (zt6 hr) (ô bT) ((zuQ m6).mono (by decide)));have hs:=fK (t:=a.2*(b.1-a.1)*p.2+(b.2-a.2)*(p.1-a.1*p.2)) hr;unfold PX Ui;by_cases g:0<b.1-a.1
 ·have:0<(b.1-a.1)*p.2:=Pg g hp;rw[if_pos this,if_pos this]at hs;rw[if_pos g,if_pos g];exact hs
 ·have:¬ 0<(b.1-a.1)*p.2:=fun z=>by
   have:=Pg (show 0 < -(b.1-a.1) by lia) hp;rw[Int.neg_mul]at this;lia
  rw[if_neg this,if_neg this]at hs;rw[if_neg g,if_neg g];exact hs
def Eo:Y6:=fun ds S Q ex=>∃ (g:D) (cs:List (Int×Int)) (p:Int×Int),ds=[g,p2 p]/\WQ S g cs/\WR cs/\0<p.2/\Bd 1000 p.1/\Bd 1000 p.2/\(¬ O2 cs p->ex "OffGround" S)/\(O2 cs p->∀ a b c:Int×Int,R3 cs p=some (a,b)->Sv c (PX a b p) (Ui a b p)->0<Ui a b p->Int.gcd c.1 c.2=1->Bd 1400 c.1->Bd 1400 c.2->Q (p2 c) S)
abbrev oK (ex : XR) : DS :=
    (zf (ZR (W9 (dT (dCall Ia (zc Z4 Yu)))) (Uy ex "OffGround") zB)
 (zf (zq (Ze "corners" Z4) Yh)
 (zf (zq ZL Ym)
 (zf (U8 (dT (dCall P0 (zc (dTup (zc (Z6 ZQ (Z6 ZQ ZX ZW) ZK) (zc ZL zm))) Yu))) (Nh 3 ZL))
 (zA (dCall Cg (zc (Z6 ZQ ZX (Z6 Zm ZW ZL)) (zc (Z6 ZQ ZX ZW) Yu))))))))
def iR:XQ 4 oK Eo:=by
 rintro ds S Q ex ⟨g,cs,p,rfl,hg,gr,hp,b1,b2,hx,q⟩;unfold oK;obtain⟨n,l,rfl,hn,hl⟩:=id hg;walk_at"g";refine⟨_,cs,p,rfl,hg,gr,b1,b2,?_⟩;by_cases on:O2 cs p
 case neg =>
  have e:(decide (Pq cs*p.2<=p.1)&&decide (p.1<=Q8 cs*p.2))=false:=Bool.eq_false_iff.mpr fun z=>on (by rw[qr,decide_eq_true_eq,decide_eq_true_eq]at z;exact z)
  rw[e];walk_at"g";exact hx on
 have q:=q on;obtain⟨kk,a,b,ha,hb,hle,hlt⟩:=yR gr.two on.2;have seg:=seg_at ha hb hle hlt;have hk:=zL hb;rw[decide_eq_true on.1,decide_eq_true on.2,show(true&&true)=true from rfl];walk_at"g";refine RB (fun m Z S'=>S'=S/\∃ j:Nat,Z=[some (.ref n),some (p2 p),some (.ref l),some (.int ((j:Int)+1))]/\m=kk-j/\j<=kk) kk ⟨rfl,0,rfl,rfl,by lia⟩ ?_;rintro m Z S' ⟨rfl,j,rfl,rfl,hj⟩;obtain⟨c,hc,ac⟩:=Ip (cs:=cs) (k:=(j:Int)+1) (by lia) (by lia);have hc':cs[j+1]?=some c:=by rwa[show((j:Int)+1).toNat=j+1 by lia]at hc
 obtain⟨bc,bc2⟩:=gr.bd c (qd hc);have e1:flt (c.1,1) p=decide (c.1*p.2<p.1):=by unfold flt;dsimp only;rw[T9]
 walk_at"g";refine⟨(c.1,1),p,rfl,.inl ⟨bc.mono (by decide),b2.mono (by decide)⟩,.inr (.inr (show(1:Int).natAbs<2 ^ 64 by decide)),?_⟩;rw[e1];walk_at"g";refine ZC (fun h=>?_) (fun h=>?_)
 ·walk_at"g"
  have hjk:j<kk:=by
   rcases qV j kk with z|z
   ·exact z
   ·have:j=kk:=by lia
    subst this;rw[hb]at hc';cases hc';lia
  exact⟨kk-(j+1),by lia,rfl,j+1,by simp,rfl,by lia⟩
 ·have hjk:j=kk:=by
   rcases qV j kk with z|z
   ·have:=hlt (j+1) c (by lia) (by lia) hc';lia
   ·lia
  subst hjk;rw[hb]at hc';cases hc'
  have aa:Zh (cs.map p2) ((j:Int)+1-1)=some (p2 a):=by rw[show(j:Int)+1-1=(j:Int) by lia];exact RQ (by rw[qk,ha];rfl)
  obtain⟨ba1,ba2⟩:=gr.bd a (qd ha);have hab:=wY gr (show j<j+1 by lia) ha hb;walk_at"g";refine⟨a,b,p,rfl,by lia,hp,ba1.mono (by decide),ba2.mono (by decide),bc.mono (by decide),bc2.mono (by decide),b1,b2,fun c hs hg d1 d2=>?_⟩;exact fin_same (q a b c seg hs (Ϣ (by lia) hp) hg d1 d2)
def Jg:ZV:=fun ds S Q=>∃ (g:D) (cs:List (Int×Int)) (s:Int×Int),ds=[g,p2 s]/\WQ S g cs/\WR cs/\Bd 180 s.1/\Bd 200 s.2/\∀ b:Bool,(b=true↔W4 cs s)->Q (.bl b) S
abbrev xr:DS :=
    (zf (zq (dTup (zc V7 (zc ZL zm))) Yh)
 (zf (ZR (W9 (dT (dCall Ia (zc Z4 YD)))) (zA (dC (.bl false))) zB)
 (zA (Rw (dCall P0 (zc (dTup (zc Tz (zc ZL zm))) (zc (zV Eo xF (zc Z4 YD)) zm)))))))
def eU:BodyOk 3 xr Jg:=by
 rintro ds S Q ⟨g,cs,s,rfl,hg,gr,b1,b2,q⟩;unfold xr;have bo:Bd 1000 (1:Int):=Bd.lit (by decide) (by decide);walk_at"g";refine⟨g,cs,(s.1,1),rfl,hg,gr,b1.mono (by decide),bo,?_⟩;by_cases on:O2 cs (s.1,1)
 case neg =>
  have e:(decide (Pq cs*(s.1,(1:Int)).2<=(s.1,(1:Int)).1)&&decide ((s.1,(1:Int)).1<=Q8 cs*(s.1,(1:Int)).2))=false:=Bool.eq_false_iff.mpr fun z=>on (by rw[qr,decide_eq_true_eq,decide_eq_true_eq]at z;exact z)
  rw[e];walk_at"g";exact fin_same (q false ⟨fun z=>(by cases z),fun z=>absurd z.1 on⟩)
 rw[decide_eq_true on.1,decide_eq_true on.2,show(true&&true)=true from rfl];walk_at"g";refine⟨g,cs,(s.1,1),rfl,hg,gr,(show(0:Int)<1 by decide),b1.mono (by decide),bo,fun off=>absurd on off,fun _ a b c seg sv hb hgcd d1 d2=>?_⟩;walk_at"g";refine⟨(s.2,1),c,rfl,.inl ⟨b2.mono (by decide),d2.mono (by decide)⟩,.inr (.inr (show(1:Int).natAbs<2 ^ 64 by decide)),?_⟩;rw[dW (t:=s.2) (b:=1) (by decide) hb ⟨(show(0:Int)<1 by decide),rfl⟩ sv];walk_at"g";refine fin_same (q _ ?_);rw[Bool.not_eq_true',decide_eq_false_iff_not];constructor
 ·intro h;refine⟨on,fun a' b' seg'=>?_⟩;rw[seg]at seg';cases seg';lia
 ·intro h;have:=h.2 a b seg;lia
def Dc:ZV:=fun ds S Q=>∃ (g y:D) (cs:List (Int×Int)) (bs:List (Str×(Int×Int))),ds=[g,y]/\WQ S g cs/\WR cs/\Lst S y (bs.map X8)/\bs.length<=100/\(∀ b∈bs,W4 cs b.2/\Bd 180 b.2.1/\Bd 200 b.2.2)/\Q .non S
abbrev rW:DS :=(ZR (W9 (dT (dB Wz (zc (Zi 3 [0] (Zu Z0) (YH 3 (zN YT (zN Vz (zN Yh YK)))) Yn (dCall Jg (zc ZW (zc (dTup (zc Z0 YD)) zm)))) zm)))) Yg zB)
def zfD:BodyOk 2 rW Dc:=by
 rintro ds S Q ⟨g,y,cs,bs,rfl,hg,gr,hy,hl,hb,q⟩;unfold rW;walk_at"g";refine Xx (fun _=>true) (HW fun _=>.bl true) hy (by rw[qa];unfold big;lia) (fun i d ys hd hw=>?_) ?_
 ·obtain⟨b,hbi,rfl⟩:=Ig hd;obtain⟨s1,s2,s3⟩:=hb b (qd hbi);walk_at"g";refine⟨g,cs,b.2,rfl,hg,gr,s2,s3,fun r hr=>?_⟩;rw[hr.mpr s1];exact Xw hd hw rfl rfl
 rw[filter_true,DW,show bs.map (fun _=>D.bl true)=(bs.map fun _=>true).map D.bl by rw[Xq];rfl];walk_at"g";refine K4 (b:=true) Lst.at0 (by rw[TJ,W6];intro _ _;rfl) ?_;walk_at"g";exact Sq rfl q
def CT:ZV:=fun ds S Q=>∃ i:Int,ds=[.int i]/\Q (.bl true) S
abbrev Am:DS :=(zA (Ro (dB Tp (zc Z4 (zc (dC (.ty "int")) zm))) (Rw (dB Tp (zc Z4 (zc (dC (.ty "bool")) zm))))))
def gF:BodyOk 1 Am CT:=by rintro ds S Q ⟨i,rfl,q⟩;unfold Am;walk_at"g";exact fin_same q
def GZ:ZV:=fun ds S Q=>∃ F:Fg,ds=[Xo F]/\F.x0<=F.x1/\F.z0<=F.z1/\F.f<=F.l/\Q (.bl true) S
abbrev vD:DS :=
    (zf (ZR (Xp (W9 (dT (dB Tp (zc Z4 (zc (dC (.ty "tuple")) zm))))) (dT (Z6 XS (dB Za Zg) J4))) (zA (dC (.bl false))) zB)
 (zf (ZR (W9 (dT (dB Wz (zc (Zi 1 [] (Zu Z4) YT Yn (dCall CT Zg)) zm)))) (zA (dC (.bl false))) zB)
 (zA (Ro (Z6 oLe Xd Ws) (Ro (Z6 oLe Mu MP) (Z6 oLe Dr vK))))))
def zl2:BodyOk 1 vD GZ:=by
 rintro ds S Q ⟨F,rfl,h1,h2,h3,q⟩;unfold vD;walk_at"g";rw[show(!decide ((([D.int F.x0,D.int F.x1,D.int F.z0,D.int F.z1,D.int F.f,D.int F.l,D.int F.g,D.int F.s]:List D).length:Int)=8))=false by rfl];walk_at"g";refine Xx (fun _=>true) (fun _=>.bl true) True.intro (by show 8<=big;unfold big;decide) (fun i d ys hd hw=>?_) ?_
 ·obtain⟨z,_,rfl⟩:=R7 (zs:=[F.x0,F.x1,F.z0,F.z1,F.f,F.l,F.g,F.s]) hd;walk_at"g";refine⟨z,rfl,?_⟩;exact Xw hd hw rfl rfl
 walk_at"g";refine K4 (bs:=List.replicate 8 true) (b:=true) Lst.at0 rfl ?_;walk_at"g";rw[decide_eq_true h1];walk_at"g";rw[decide_eq_true h2];walk_at"g";rw[decide_eq_true h3];exact Sq rfl q
def ϧ (xs:List α)(f:α->D):(xs.map f).map (fun _=>D.bl true)=(xs.map fun _=>true).map D.bl:=by rw[Xq,Xq];rfl
def FJ:ZV:=fun ds S Q=>∃ (z:D) (fs:List Fg),ds=[z]/\Lst S z (fs.map Xo)/\fs.length<=100/\(∀ F∈fs,Ln F)/\Q .non S
abbrev tD:DS :=(ZR (W9 (dT (dB Wz (zc (Zi 1 [] (Zu Z4) YT Yn (dCall GZ Zg)) zm)))) Yg zB)
def cZ:BodyOk 1 tD FJ:=by
 rintro ds S Q ⟨z,fs,rfl,hz,hl,hf,q⟩;unfold tD;walk_at"g";refine Xx (fun _=>true) (fun _=>.bl true) hz (by rw[qa];unfold big;lia) (fun i d ys hd hw=>?_) ?_
 ·obtain⟨F,hF,rfl⟩:=sU hd;have k:=hf F (qd hF);walk_at"g";refine⟨F,rfl,k.b.x,k.b.z,k.o,?_⟩;exact Xw hd hw rfl rfl
 rw[filter_true,ϧ];walk_at"g";refine K4 (b:=true) Lst.at0 (by rw[TJ,W6];intro _ _;rfl) ?_;walk_at"g";exact Sq rfl q
def Ci:ZV:=fun ds S Q=>∃ (hz:Option Int) (a b d:Int),ds=[Vf hz,.int a,.int b,.int d]/\a<=b/\0<=d/\(∀ z,hz=some z->0<=z)/\Q .non S
abbrev xu:DS :=
    (zf (ZR (dT (Z6 Yk Z0 ZX)) Yg zB)
 (zf (ZR (dT (Z6 oLt ZW ZK)) Yg zB)
 (ZR (WY (dT (Z6 Wx Z4 (dC .non))) (dT (Z6 oLt Z4 ZK))) Yg zB)))
def cD:BodyOk 4 xu Ci:=by
 rintro ds S Q ⟨hz,a,b,d,rfl,hab,hd,hh,q⟩;unfold xu;walk_at"g";rw[decide_eq_false (show ¬ b<a by lia)];walk_at"g";rw[decide_eq_false (show ¬ d<0 by lia)];cases hz with
 |none =>walk_at"g";exact fin_same q
 |some z =>have:=hh z rfl;unfold Vf;walk_at"g";rw[decide_eq_false (show ¬ z<0 by lia)];walk_at"g";exact fin_same q
def Dk:ZV:=fun ds S Q=>∃ (S0:Z7) (g y z:D) (V:Vl),ds=[.ref S0.length,g,y,z,Vf V.hz,.int V.h0,.int V.h1,.int V.dl]/\S=S0++[.ins "Valley" []]/\WQ S0 g V.cs/\Lst S0 y (V.bs.map X8)/\Lst S0 z (V.fs.map Xo)/\Zc V/\∀ T,ZD (S0++T) (.ref S0.length) V->Q .non (S0++T)
abbrev yC:DS :=
    (zf (Zb (dCall Gu (zc ZX Yz)))
 (zf (Zb (dCall CN (zc (Zi 1 [] (Zu ZX) YT Yn Xd) zm)))
 (zf (Zb (dCall Dc (zc Z0 YD)))
 (zf (Zb (dCall FJ Yz))
 (zf (Zb (dCall Ci (zc ZP (zc Y8 (zc YS IV)))))
 (zf (V5 "Valley" "ground" Z4 (dCall tM (zc (Ze "corners" Z0) zm)))
 (zf (V5 "Valley" "beacons" Z4 (dB O6 YD))
 (zf (V5 "Valley" "fogs" Z4 (dB O6 Yz))
 (zf (V5 "Valley" "haze" Z4 ZP)
 (zf (V5 "Valley" "first" Z4 Y8)
 (zf (V5 "Valley" "last" Z4 YS)
 (V5 "Valley" "delay" Z4 Xc))))))))))))
def ĕ:BodyOk 8 yC Dk:=by
 rintro ds S Q ⟨S0,g,y,z,V,rfl,rfl,hg,hy,hz,ok,q⟩;unfold yC;obtain⟨Sa,hSa⟩:∃ Sa:Z7,Sa=S0++[.ins "Valley" []]:=⟨_,rfl⟩
 have hya:Lst Sa y (V.bs.map X8):=hSa▸hy.old;have hza:Lst Sa z (V.fs.map Xo):=hSa▸hz.old;rw[<- hSa];walk_at"g";refine⟨y,z,_,_,rfl,hya,hza,by rw[qa];exact ok.b1,by rw[qa];exact ok.b12,by rw[qa];exact ok.f12,?_⟩;walk_at"g";have b12:=ok.b12;have f12:=ok.f12;refine Xx (fun _=>true) (HW fun b=>.str b.1) hya (by rw[qa];unfold big;lia) (fun i d ys hd hw=>?_) ?_
 ·obtain⟨b,_,rfl⟩:=Ig hd;walk_at"g";exact Xw hd hw rfl rfl
 rw[filter_true,DW,show V.bs.map (fun b=>D.str b.1)=(V.bs.map (·.1)).map D.str by rw[Xq];rfl,hSa];walk_at"g";refine⟨_,V.bs.map (·.1),rfl,Lst.at rfl,by rw[qa];lia,fun n hn=>?_,ok.nd,?_⟩
 ·obtain⟨b,hb,rfl⟩:=qE.mp hn;exact ok.nm b hb
 walk_at"g";generalize (V.bs.map (·.1)).map D.str=nms;refine⟨g,y,V.cs,V.bs,rfl,hg.old,ok.gr,hy.old,by lia,fun b hb=>⟨ok.st b hb,ok.bd b hb⟩,?_⟩;walk_at"g";refine⟨z,V.fs,rfl,hz.old,by lia,ok.fg,?_⟩;walk_at"g";refine⟨V.hz,_,_,_,rfl,ok.hh,ok.dl,ok.hz,?_⟩;obtain⟨gn,gl,rfl,hgn,hgl⟩:=hg;have hgn1:(S0++[.ins "Valley" [],.lst nms])[gn]?=some (.ins "Ground" [("corners",.ref gl)]):=zF hgn;walk_at"g";refine⟨_,_,V.cs,rfl,rfl,.inr ⟨gl,rfl,zF hgl⟩,ok.gr,⟨rfl,?_⟩⟩;rw[qj,show(S0++[Cell.ins "Valley" [],.lst nms]).length=S0.length+2 by simp,show([Cell.ins "Valley" [],.lst nms]:Z7)++[.ins "Ground" [("corners",.ref (S0.length+2+1))],.lst (V.cs.map p2)]=[.ins "Valley" [],.lst nms,.ins "Ground" [("corners",.ref (S0.length+3))],.lst (V.cs.map p2)]from rfl];walk_at"g";refine⟨S0.length,[],rfl,zT,by decide,?_⟩;rw[S9,Λ];have hy2:∀ T,Lst (S0++T) y (V.bs.map X8):=fun T=>hy.old
 have hz2:∀ T,Lst (S0++T) z (V.fs.map Xo):=fun T=>hz.old
 walk_at"g";refine⟨S0.length,_,rfl,zT,by simp,?_⟩;rw[S9,vp2];walk_at"g";refine⟨S0.length,_,rfl,zT,by simp,?_⟩;rw[S9,jL];walk_at"g";refine⟨S0.length,_,rfl,zT,by simp,?_⟩;rw[S9,vp4];walk_at"g";refine⟨S0.length,_,rfl,zT,by simp,?_⟩;rw[S9,kZ];walk_at"g";refine⟨S0.length,_,rfl,zT,by simp,?_⟩;rw[S9,vp6];walk_at"g";refine⟨S0.length,_,rfl,zT,by simp,?_⟩;rw[S9,gq];refine fin_same (q _ ⟨S0.length,_,_,_,rfl,zT,⟨_,_,rfl,(zM _ _ 2).trans rfl,(zM _ _ 3).trans rfl⟩,(zM _ _ 4).trans rfl,(zM _ _ 5).trans rfl⟩)
def fQ:ZV:=R9 "Valley" Dk
def Xv:List (Int×Int):=[(-3,-1),(8,0)]
def xZ:WR Xv where
  two:=by decide
  most:=by decide
  asc:=by unfold Xv;simp
  bd:=fun c hc=>by
    have:c=(-3,-1)\/c=(8,0):=by simpa [Xv]using hc
    rcases this with rfl|rfl<;>exact⟨(by show _<2 ^ 170;decide),(by show _<2 ^ 190;decide)⟩
def stN {s:Int×Int}(h0:0<=s.1)(h1:s.1<=4)(h2:0<=s.2):W4 Xv s:=by
 refine⟨⟨?_,?_⟩,fun a b h=>?_⟩
 ·show(-3:Int)*1<=s.1;lia
 ·show s.1<=(8:Int)*1;lia
 ·have e:R3 Xv (s.1,1)=some ((-3,-1),(8,0)):=by
   show(if s.1<=(8:Int)*1 then _ else _)=_;rw[if_pos (by lia)]
  rw[e]at h;cases h;unfold PX Ui;simp;lia
def Gx:ZV:=fun ds S Q=>∃ (a b c:D) (zs:List Str) (ps:List (Int×Int)) (fs:List Fg) (hz f:Int),ds=[.tup [a,b,c,.int hz,.int f,.int (f+5)]]/\BR zs ps fs hz f/\Lst S a (zs.map D.str)/\Lst S b (ps.map p2)/\Lst S c (fs.map Xo)/\∀ (T:Z7) (v:D) (V:Vl),ZD (S++T) v V->Zc V->V.bs.map (·.1)=zs->V.h0=f->V.h1=f+5->Q v (S++T)
abbrev v7:DS :=
    (zf (zq Z4 (YH 6 (zN Vz (zN Yh (zN Ym (zN Yt (zN YG (zN Wn YK))))))))
 (zf (zq (Zi 2 [] (Ka (zc Z0 YD)) (YH 2 (zN YT (zN Vz YK))) Yn (dTup (zc Z4 (zc V7 (zc Tz zm))))) U0)
 (zA (dCall fQ (zc (dCall tM (zc (Zk (zc (dTup (zc (Wq Wa Qg) (zc (Wq Wa ZL) zm))) (zc (dTup (zc J4 (zc ZK zm))) zm))) zm)) (zc Xc (zc ZW (zc ZP (zc Y8 (zc YS (zc ZL zm)))))))))))
def Ϫ:BodyOk 8 v7 Gx:=by
  rintro ds S Q ⟨a,b,c,zs,ps,fs,hz,f,rfl,w,ha,hb,hc,q⟩;unfold v7;have l8:=w.l8;have l2:=w.l2;have lp:=w.lp;walk_at"g";refine zyT ha hb ?_;refine Oe (fun i ys S'=>S'=S/\ys=((zs.zip ps).take i).map X8) ⟨rfl,rfl⟩ (fun i ys S' e=>e.1▸⟨ha,hb⟩) (by rw[Rc,qa,qa];unfold big;lia) ?_ ?_
  . rintro i d ys S' hd ⟨rfl,rfl⟩;obtain⟨x,y,hx,hy,rfl⟩:=Il hd;obtain⟨z,hz',rfl⟩:=Ye hx;obtain⟨p,hp,rfl⟩:=Dz hy;walk_at"g";refine⟨rfl,?_⟩;rw[W7 (x:=(z,p)) (by rw[List.getElem?_zip_eq_some];exact⟨hz',hp⟩),qD];rfl
  rintro ys S' ⟨rfl,rfl⟩;rw[Rc,qa,qa,lp,Nat.min_self,DY (by rw[List.length_zip];lia)];obtain⟨bs,hbs⟩:∃ bs:List (Str×(Int×Int)),bs=zs.zip ps:=⟨_,rfl⟩
  have bn:bs.map (·.1)=zs:=by rw[hbs];exact List.map_fst_zip (by lia)
  have bl:bs.length=zs.length:=by rw[<- bn,qa]
  have bsp:∀ b∈bs,b.1∈zs/\b.2∈ps:=fun b hb=>by rw[hbs]at hb;exact⟨(K1 hb).1,(K1 hb).2⟩
  rw[<- hbs];clear hbs;have sm:∀ {n:Nat} {x:Int},170<=n->-100<=x->x<=100->Bd n x:=fun {n x} hn h1 h2=>(show Bd 7 x by show _<2 ^ 7;lia).mono (by lia)
  have f0:=w.f0;have f1:=w.f1
  have ok:Zc ⟨Xv,bs,fs,some hz,f,f+5,1⟩ :=
    { gr:=xZ,b1:=(by show 1<=bs.length;lia),b12:=(by show bs.length<=12;lia),nm:=fun b hb=>w.nm _ (bsp b hb).1,nd:=(by show(bs.map (·.1)).Nodup;rw[bn];exact w.nd)
      st:=fun b hb=>by have:=w.sp _ (bsp b hb).2;exact stN (by lia) (by lia) (by lia)
      bd:=fun b hb=>by have:=w.sp _ (bsp b hb).2;exact⟨sm (by decide) (by lia) (by lia),sm (by decide) (by lia) (by lia)⟩
      f12:=(by have:=w.lf;show fs.length<=12;lia),fg:=w.fg,hz:=(fun z e=>by have e':hz=z:=qH e;subst e';exact w.h0),hh:=(by show f<=f+5;lia),b0:=sm (by decide) (by show -100<=f;lia) (by show f<=100;lia),bl:=sm (by decide) (by show -100<=f+5;lia) (by show f+5<=100;lia),dl:=(by show(0:Int)<=1;decide) }
  walk_at"g";refine⟨S'++[.lst (bs.map X8),.lst (Xv.map p2)],_,Xv,by simp,by simp;rfl,Lst.at (k:=1) rfl,xZ,⟨rfl,?_⟩⟩;obtain⟨Sb,hSb⟩:∃ Sb:Z7,Sb=S'++[.lst (bs.map X8),.lst (Xv.map p2)]++[.ins "Ground" [("corners",.ref ((S'++[Cell.lst (bs.map X8),.lst (Xv.map p2)]).length+1))],.lst (Xv.map p2)]:=⟨_,rfl⟩
  have hg:WQ Sb (.ref ((S'++[Cell.lst (bs.map X8),.lst (Xv.map p2)]).length)) Xv:=hSb▸⟨_,_,rfl,zT,(zM _ _ 1).trans rfl⟩;have hbb:Lst Sb (.ref S'.length) (bs.map X8):=hSb▸Lst.old Lst.at0;have e1:∃ T,Sb=S'++T:=Gq ⟨_,rfl⟩ hSb;have hcc:Lst Sb c (fs.map Xo):=by obtain⟨T,rfl⟩:=e1;exact hc.old
  rw[<- hSb];have eg:(S'++[Cell.lst (bs.map X8),Cell.lst [p2 (-3,-1),p2 (8,0)]]).length=(S'++[Cell.lst (bs.map X8),.lst (Xv.map p2)]).length:=rfl;clear hSb;walk_at"g";refine⟨Sb,_,_,_,⟨Xv,bs,fs,some hz,f,f+5,1⟩,rfl,rfl,hg,hbb,hcc,ok,fun T hv=>⟨rfl,?_⟩⟩;obtain⟨T1,rfl⟩:=e1;rw[qj]at hv ⊢;exact fin_same (q _ _ _ hv ok bn rfl rfl)
def J2:Y6:=fun ds S Q ex=>∃ (v:D) (V:Vl) (h:Int),ds=[v,.int h]/\ZD S v V/\(¬ (V.h0<=h/\h<=V.h1)->ex "BadHour" S)/\(V.h0<=h->h<=V.h1->Q .non S)
abbrev wg (ex:XR):DS :=(ZR (Xp (dT (Z6 oLt Z0 (Ze "first" Z4))) (dT (Z6 Yk Z0 (Ze "last" Z4)))) (Uy ex "BadHour") zB)
def jm:XQ 2 wg J2:=by
 rintro ds S Q ex ⟨v,V,h,rfl,hv,hx,q⟩;unfold wg;obtain⟨m,g,b',f,rfl,hm,hg,hb,_⟩:=hv;walk_at"g";refine ZC (fun h1=>?_) (fun h1=>?_)
 ·walk_at"g";exact hx (by lia)
 walk_at"g";refine ZC (fun h2=>?_) (fun h2=>?_)
 ·walk_at"g";exact hx (by lia)
 walk_at"g";exact fin_same (q (by lia) (by lia))
def Vp:ZV:=fun ds S Q=>∃ (v:D) (V:Vl),ds=[v]/\ZD S v V/\V.bs.length<=100/\New Q S ((V.bs.map (·.1)).map D.str)
abbrev yh:DS :=(zA (Zi 1 [] (Zu (Ze "beacons" Z4)) YT Yn Xd))
def ao:BodyOk 1 yh Vp:=by
 rintro ds S Q ⟨v,V,rfl,hv,hl,q⟩;unfold yh;obtain⟨m,g,b',f,rfl,hm,hg,hb,_⟩:=hv;walk_at"g";refine Xx (fun _=>true) (HW fun b=>.str b.1) (Lst.here hb) (by rw[qa];unfold big;lia) (fun i d ys hd hw=>?_) ?_
 ·obtain⟨b,_,rfl⟩:=Ig hd;walk_at"g";exact Xw hd hw rfl rfl
 rw[filter_true,DW,show V.bs.map (fun b=>D.str b.1)=(V.bs.map (·.1)).map D.str by rw[Xq];rfl];exact fin_same q
def Dl:ZV:=fun ds S Q=>∃ (v:D) (V:Vl),ds=[v]/\ZD S v V/\Zc V/\∀ (T:Z7) (n:Nat),(S++T)[n]?=some (.lst ((prs (V.bs.map (·.1))).map WL))->Q (.ref n) (S++T)
abbrev p7:DS :=
    (zf (zq (dCall Vp Zg) Vz)
 (zf (zq (Zk zm) Yh)
 (zf (Y0 (Wm Yu) (YH 2 (zN Ym (zN Yt YK))) (Y0 (Zu (Uo Ut Z0 (some (Z6 zW ZW ZL)) none)) YG (Zb (dM V1 ZX (zc (dTup (zc ZP Ml)) zm)))))
 (zA ZX))))
def cN:BodyOk 6 p7 Dl:=by
 rintro ds S Q ⟨v,V,rfl,hv,ok,q⟩;unfold p7;have b12:=ok.b12;walk_at"g";refine⟨v,V,rfl,hv,by lia,?_⟩;have hz:∀ z∈V.bs.map (·.1),fl 20 (.str z)=true:=ok.flN;have zl:(V.bs.map (·.1)).length<=12:=by rw[qa];exact b12
 generalize V.bs.map (·.1)=zs at q hz zl;walk_at"g";refine RW Lst.at0 ?_;refine u9 (fun i Z S'=>∃ (G:Z7) (w3 w4 w5:Option D) (A:List (Str×Str)),S'=S++Cell.lst (zs.map D.str)::Cell.lst (A.map WL)::G/\Z=[some v,some (.ref S.length),some (.ref (S.length+1)),w3,w4,w5]/\prs zs=A++prs (zs.drop i)) ⟨[],_,_,_,[],rfl,rfl,by simp⟩ (by rintro i Z S' ⟨G,_,_,_,A,e,_⟩;exact e▸Lst.at0) ?_ ?_
 ·rintro i d Z S' hd ⟨G,w3,w4,w5,A,rfl,rfl,hA⟩;obtain⟨y,hy,rfl⟩:=Uz hd;obtain⟨z,hzi,rfl⟩:=Ye hy;have hi:=zL hzi;obtain⟨A',h1,h2⟩:=uy hzi;have eA:A=A':=List.append_cancel_right (hA.symm.trans h2);subst eA;have kz:Lst (S++Cell.lst (zs.map D.str)::Cell.lst (A.map WL)::G) (.ref S.length) (zs.map D.str):=Lst.at0;walk_at"g";rw[Ms,O8,zol _ (by lia) (by lia),show((i:Int)+1).toNat=i+1 by lia]
  have lA:A.length<=144:=by have:=NZ zs;have h3:=congrArg List.length hA;rw[qg]at h3;have:zs.length*zs.length<=12*12:=MN zl zl;lia
  have ll:(zs.drop (i+1)).length<=12:=by rw[IW];lia
  generalize zs.drop (i+1)=rs at h1 ll;refine u9 (fun j Z S'=>∃ (w5:Option D),S'=S++Cell.lst (zs.map D.str)::Cell.lst ((A++(rs.take j).map fun y=>(z,y)).map WL)::(G++[.lst (rs.map D.str)])/\Z=[some v,some (.ref S.length),some (.ref (S.length+1)),some (.int (i:Int)),some (.str z),w5]) ⟨w5,by simp,by rfl⟩ (fun j Z S' ⟨w5,e,_⟩=>by rw[e];exact .inr ⟨_,rfl,by show(S++([_,_]++(G++_)))[S.length+([Cell.lst (zs.map D.str),Cell.lst (A.map WL)]++G).length]?=_;rw[zM,<- qj,qe (by simp)];simp⟩) ?_ ?_
  ·rintro j d Z S' hd' ⟨w5,rfl,rfl⟩;obtain⟨x,hx,rfl⟩:=Ye hd';have hj:=zL hx
   have hlim:((A++(rs.take j).map fun y=>(z,y)).map WL).length<big:=by rw[qa,qg,qa,Vj];unfold big;lia
   walk_at"g";refine⟨_,?_,rfl⟩;rw[W7 hx];simp only[J3,List.set_cons_zero,qD,qj,qQ,Qh]
  ·rintro Z S' ⟨w5,rfl,rfl⟩;rw[qa,VP];refine⟨_,_,_,_,_,rfl,rfl,h1⟩
 ·rintro Z S' ⟨G,w3,w4,w5,A,rfl,rfl,hA⟩;rw[UL,qa,List.drop_of_length_le (qh _)]at hA;have eA:prs zs=A:=by rw[hA];simp[prs]
  walk_at"g";subst eA;exact fin_same (q _ _ ((zM _ _ 1).trans rfl))
def Jo:Y6:=fun ds S Q ex=>∃ (v:D) (V:Vl) (n:Str),ds=[v,.str n]/\ZD S v V/\Zc V/\fl 20 (.str n)=true/\((∀ b∈V.bs,b.1≠n)->ex "NoBeacon" S)/\∀ s,(n,s)∈V.bs->Q (p2 s) S
abbrev ou (ex : XR) : DS :=
    (zf (Y0 (Zu (Ze "beacons" Z4)) Yh (ZR (dT (Z6 oEq T6 Z0)) (zA (dTup (zc Sw (zc cF zm)))) zB))
 (Uy ex "NoBeacon"))
def zlC:XQ 3 ou Jo:=by
 rintro ds S Q ex ⟨v,V,n,rfl,hv,ok,hn,hx,q⟩;unfold ou;obtain⟨m,g,b',f,rfl,hm,hg,hb,_⟩:=hv;walk_at"g";refine Yq (fun i Z S'=>S'=S/\(∃ w,Z=[some (.ref m),some (.str n),w])/\∀ b∈V.bs.take i,b.1≠n) ⟨rfl,⟨none,rfl⟩,by simp⟩ (fun i Z S' h=>h.1▸Lst.here hb) ?_ ?_
 ·rintro i d Z S' hd ⟨rfl,⟨w,rfl⟩,hno⟩;obtain⟨b,hbi,rfl⟩:=Ig hd;have mb:=qd hbi;walk_at"g";refine JZ (uT (ok.nm b mb) 20) hn ?_;walk_at"g";refine ZC (fun h=>?_) (fun h=>?_)
  ·walk_at"g";exact fin_same (q b.2 (by rw[<- h];exact mb))
  ·walk_at"g";refine⟨rfl,⟨_,rfl⟩,fun c hc=>?_⟩;rw[W7 hbi]at hc;rcases qC.mp hc with hc|hc
   ·exact hno c hc
   ·have:c=b:=by simpa using hc
    subst this;exact h
 ·rintro Z S' ⟨rfl,⟨w,rfl⟩,hno⟩;rw[qa,VP]at hno;walk_at"g";exact hx hno
def Ji:Y6:=fun ds S Q ex=>∃ (g:D) (cs:List (Int×Int)) (s:Int×Int),ds=[g,p2 s]/\WQ S g cs/\WR cs/\Bd 180 s.1/\Bd 200 s.2/\(¬ W4 cs s->ex "OffGround" S)/\(W4 cs s->Q .non S)
abbrev Ay (ex:XR):DS :=(ZR (W9 (dT (dCall Jg (zc Z4 Yu)))) (Uy ex "OffGround") zB)
def ś:XQ 2 Ay Ji:=by
 rintro ds S Q ex ⟨g,cs,s,rfl,hg,gr,b1,b2,hx,q⟩;unfold Ay;walk_at"g";refine⟨g,cs,s,rfl,hg,gr,b1,b2,fun b hb=>?_⟩;cases b with
 | true=>walk_at"g";exact fin_same (q (hb.mp rfl))
 | false=>walk_at"g";exact hx fun z=>(by have:=hb.mpr z;cases this)
def FQ:ZV:=fun ds S Q=>∃ (g:D) (cs:List (Int×Int)) (x y:Int),ds=[g,.int x,.int y]/\WQ S g cs/\cs.length<=40/\New Q S ((Yr cs x y cs.length).map D.int)
abbrev rP:DS :=
    (zf (zq (dB Pb (zc Z0 YD)) Ym)
 (zf (zq (dB RT (zc Z0 YD)) Yt)
 (zA (Zi 2 [3,4] (Wm (zc (Ze "corners" Z4) zm)) (YH 2 (zN YT (zN Vz YK))) (dT (Oj oLt oLt ZX V7 ZW)) Z4))))
def zfu:BodyOk 5 rP FQ:=by
 rintro ds S Q ⟨g,cs,x,y,rfl,⟨n,l,rfl,hn,hl⟩,h40,q⟩;unfold rP;walk_at"g";refine RW (xs:=cs.map p2) (Lst.here hl) ?_;refine⟨by rw[UL,qa];unfold big;lia,fun i ys S'=>S'=S/\ys=(Yr cs x y i).map D.int,⟨rfl,rfl⟩,by rintro i ys S' ⟨e,_⟩;exact e▸Lst.here hl,?_,?_⟩
 ·rintro i d ys S' hd ⟨rfl,rfl⟩;obtain⟨u,hu,rfl⟩:=Uz hd;obtain⟨c,hc,rfl⟩:=Dz hu;have e0:((0+i:Nat):Int)=(i:Int):=by lia
  have eg:cs.getD i (0,0)=c:=by rw[qG,hc];rfl
  rw[e0];walk_at"g";refine ZC (fun g1=>?_) (fun g1=>?_)
  ·walk_at"g";refine ZC (fun g2=>?_) (fun g2=>?_)
   ·walk_at"g";exact⟨rfl,(gW (by unfold Sh;rw[eg,decide_eq_true g1,decide_eq_true g2];rfl)).symm⟩
   ·walk_at"g";exact⟨rfl,by rw[yZ (by unfold Sh;rw[eg,decide_eq_false g2,O9])]⟩
  ·walk_at"g";exact⟨rfl,by rw[yZ (by unfold Sh;rw[eg,decide_eq_false g1,VF])]⟩
 ·rintro ys S' ⟨rfl,rfl⟩;rw[UL,qa];exact fin_same q
def Fe:ZV:=fun ds S Q=>∃ (a b c:Int×Int),ds=[p2 a,p2 b,p2 c]/\YZ (c.2-a.2) (b.1-a.1)/\YZ (c.1-a.1) (b.2-a.2)/\Q (.int (Px a b c)) S
abbrev yS:DS :=
    (zf (zq (Z6 Zm V7 Xd) Ym)
 (zf (zq (Z6 Zm Tz Ws) Yt)
 (zf (zq (Z6 Zm (Z6 Y7 (Z6 Zm Sw Ws) ZW) (Z6 Y7 (Z6 Zm T6 Xd) ZP)) YG)
 (zf (sJ (ZR (dT (Z6 oLt ZW ZK)) (zq (Wq Wa Y8) YG) zB))
 (zf (ZR (dT (Z6 Yk Y8 ZK)) (zA ZL) zB)
 (zf (ZR (dT (Z6 oLt Y8 ZK)) (zA (Wq Wa ZL)) zB)
 (zA ZK)))))))
def zkY:BodyOk 6 yS Fe:=by
 rintro ds S Q ⟨a,b,c,rfl,c1,c2,q⟩;unfold yS;walk_at"g";unfold Px at q
 have key:∀ o:Int,o=(if b.1-a.1<0 then -XJ a b c else XJ a b c)->(if 0<o then Q (.int 1) S else if o<0 then Q (.int (-1)) S else Q (.int 0) S):=fun o e=>by
  rw[<- e]at q;by_cases h:0<o
  ·rw[if_pos h]at q ⊢;exact q
  ·rw[if_neg h]at q ⊢;by_cases h2:o<0
   ·rw[if_pos h2]at q ⊢;exact q
   ·rw[if_neg h2]at q ⊢;exact q
 refine Ak (fun Z S'=>S'=S/\Z=[some (p2 a),some (p2 b),some (p2 c),some (.int (b.1-a.1)),some (.int (b.2-a.2)),some (.int (if b.1-a.1<0 then -XJ a b c else XJ a b c))]) ?_ ?_
 ·walk_at"g";refine ZC (fun g=>?_) (fun g=>?_)
  ·walk_at"g";exact⟨rfl,by rw[if_pos g];rfl⟩
  ·walk_at"g";exact⟨rfl,by rw[if_neg g];rfl⟩
 rintro Z S' ⟨rfl,rfl⟩;have k:=key _ rfl;generalize (if b.1-a.1<0 then -XJ a b c else XJ a b c)=o at k;walk_at"g";refine ZC (fun g=>?_) (fun g=>?_)
 ·rw[if_pos g]at k;walk_at"g";exact fin_same k
 ·rw[if_neg g]at k;walk_at"g";refine ZC (fun g2=>?_) (fun g2=>?_)
  ·rw[if_pos g2]at k;walk_at"g";exact fin_same k
  ·rw[if_neg g2]at k;walk_at"g";exact fin_same k
def BX:Y6:=fun ds S Q ex=>∃ (g:D) (cs:List (Int×Int)) (a b:Int×Int),ds=[g,p2 a,p2 b]/\WQ S g cs/\WR cs/\(Bd 180 a.1/\Bd 200 a.2)/\(Bd 180 b.1/\Bd 200 b.2)/\(¬ (W4 cs a/\W4 cs b)->ex "OffGround" S)/\(W4 cs a->W4 cs b->Q (Vf (Vr cs a b)) S)
abbrev rR (ex : XR) : DS :=
    (zf (Zb (zV Ji ex (zc Z4 Yu)))
 (zf (Zb (zV Ji ex (zc Z4 YD)))
 (zf (Y0 (Zu (dCall FQ (zc Z4 (zc V7 (zc T6 zm))))) Ym (ZR (dT (Z6 Yk (dCall Fe (zc Z0 (zc ZX (zc (Z6 ZQ (Ze "corners" Z4) ZW) zm)))) ZK)) (zA ZW) zB))
 (zA (dC .non)))))
def zmK:XQ 4 rR BX:=by
 rintro ds S Q ex ⟨g,cs,a,b,rfl,hg,gr,ba,bb,hx,q⟩;unfold rR;walk_at"g";refine⟨g,cs,a,rfl,hg,gr,ba.1,ba.2,fun z=>hx fun y=>z y.1,fun za=>?_⟩;walk_at"g";refine⟨g,cs,b,rfl,hg,gr,bb.1,bb.2,fun z=>hx fun y=>z y.2,fun zb=>?_⟩;have sa:=Std.of ba.1 ba.2 za;have sb:=Std.of bb.1 bb.2 zb;have q:=q za zb;walk_at"g";refine⟨g,cs,_,_,rfl,hg,gr.most,?_⟩;have kl:∀ k∈Yr cs a.1 b.1 cs.length,0<=k/\k<cs.length:=fun k hk=>zuo hk
 unfold Vr at q;generalize Yr cs a.1 b.1 cs.length=ks at q kl;unfold New;walk_at"g";refine Yq (fun i Z S'=>∃ w1,Z=[some g,some (p2 a),some (p2 b),w1]/\S'=S++[.lst (ks.map D.int)]/\∀ x∈ks.take i,Mh cs a b x=false) ⟨none,rfl,rfl,by simp⟩ (by rintro i Z S' ⟨w1,_,e,_⟩;exact e▸Lst.at0) ?_ ?_
 ·rintro i d Z S' hd ⟨w1,rfl,rfl,hn⟩;obtain⟨k,hk,rfl⟩:=R7 hd;obtain⟨k0,k1⟩:=kl k (qd hk);obtain⟨c,hc,ac⟩:=Ip (cs:=cs) k0 k1;have eg:cs.getD k.toNat (0,0)=c:=by rw[qG,hc];rfl
  obtain⟨bc1,bc2⟩:=gr.bd c (qd hc);obtain⟨n,l,rfl,hgn,hgl⟩:=hg.old (T:=[.lst (ks.map D.int)]);walk_at"g";refine⟨a,b,c,rfl,.inl ⟨(Bd.sub (bc2.mono (by decide:(190:Nat)<=200)) sa.2.1).mono (by decide),(Bd.sub sb.1 sa.1).mono (by decide)⟩,.inl ⟨(Bd.sub (bc1.mono (by decide:(170:Nat)<=180)) sa.1).mono (by decide),(Bd.sub sb.2.1 sa.2.1).mono (by decide)⟩,?_⟩;walk_at"g";refine ZC (fun g1=>?_) (fun g1=>?_)
  ·walk_at"g";rw[yF hk hn (by unfold Mh;rw[eg];exact decide_eq_true g1)]at q;exact Sq rfl q
  ·walk_at"g";refine⟨_,rfl,rfl,fun x hx=>?_⟩;rw[W7 hk]at hx;rcases qC.mp hx with hx|hx
   ·exact hn x hx
   ·have:x=k:=by simpa using hx
    subst this;unfold Mh;rw[eg];exact decide_eq_false g1
 ·rintro Z S' ⟨w1,rfl,rfl,hn⟩;rw[qa,VP]at hn;rw[jA hn]at q;walk_at"g";exact Sq rfl q
def Dw:ZV:=fun ds S Q=>∃ (a b:Int×Int),ds=[p2 a,p2 b]/\(Bd 180 a.1/\Bd 200 a.2)/\(Bd 180 b.1/\Bd 200 b.2)/\Q (.int (Ue a b)) S
abbrev nj:DS :=
    (zf (zq (Z6 Zm V7 Xd) Yh)
 (zf (zq (Z6 Zm Tz Ws) Ym)
 (zA (Z6 zW (Z6 Y7 ZX ZX) (Z6 Y7 ZW ZW)))))
def Į:BodyOk 4 nj Dw:=by rintro ds S Q ⟨a,b,rfl,⟨a1,a2⟩,⟨b1,b2⟩,q⟩;unfold nj;have c1:Bd 8000 (b.1-a.1):=(Bd.sub b1 a1).mono (by decide);have c2:Bd 8000 (b.2-a.2):=(Bd.sub b2 a2).mono (by decide);have m1:YZ (b.1-a.1) (b.1-a.1):=.inl ⟨c1,c1⟩;have m2:YZ (b.2-a.2) (b.2-a.2):=.inl ⟨c2,c2⟩;walk_at"g";exact fin_same q
def Gh:ZV:=fun ds S Q=>∃ (v:D) (V:Vl) (a b:Int×Int),ds=[v,p2 a,p2 b]/\ZD S v V/\Zc V/\((Bd 180 a.1/\Bd 200 a.2)/\W4 V.cs a)/\((Bd 180 b.1/\Bd 200 b.2)/\W4 V.cs b)/\Q (Rf V a b) S
abbrev uZ:DS :=
    (zf (zq (zV BX xF (zc (Ze "ground" Z4) (zc Z0 YD))) Ym)
 (zf (ZR (dT (Z6 Wx ZW (dC .non))) (zA (dTup (zc (dC (.str "ground")) Yz))) zB)
 (zf (zq (dCall Dw (zc Z0 YD)) Yt)
 (zf (ZR (WY (dT (Z6 Wx (Ze "haze" Z4) (dC .non))) (dT (Z6 Yk ZP (Ze "haze" Z4)))) (zA (dTup (zc (dC (.str "haze")) WK))) zB)
 (zA (dC .non))))))
def zgx:BodyOk 5 uZ Gh:=by
 rintro ds S Q ⟨v,V,a,b,rfl,hv,ok,⟨ba,sa⟩,⟨bb,sb⟩,q⟩;unfold uZ;obtain⟨n,g,bb',f,rfl,hn,hg,_,_⟩:=hv;walk_at"g";refine⟨_,V.cs,a,b,rfl,hg,ok.gr,ba,bb,fun no=>(no ⟨sa,sb⟩).elim,fun _ _=>?_⟩;unfold Rf at q;cases e:Vr V.cs a b with
 |some k =>rw[e]at q;unfold Vf;walk_at"g";exact fin_same q
 |none =>
  rw[e]at q;unfold Vf;walk_at"g";refine⟨a,b,rfl,ba,bb,?_⟩;dsimp only at q;have hn':S[n]?=some (.ins "Valley" (vF (.ref g) (.ref bb') (.ref f) (Vf V.hz) (.int V.h0) (.int V.h1) (.int V.dl))):=hn;generalize Ue a b=sq at q;generalize V.hz=hz at q hn';cases hz with
  |none =>have q2:Q .non S:=q;unfold Vf at hn';walk_at"g";exact fin_same q2
  |some z =>
   have q2:Q (if decide (z<sq)=true then .tup [.str "haze",.int sq]else .non) S:=q;unfold Vf at hn';walk_at"g";refine ZC (fun h=>?_) (fun h=>?_)
   ·rw[if_pos (decide_eq_true h)]at q2;walk_at"g";exact fin_same q2
   ·rw[if_neg (by rw[decide_eq_false h];decide)]at q2;walk_at"g";exact fin_same q2
def GJ:ZV:=fun ds S Q=>∃ (F:Fg) (h:Int),ds=[Xo F,.int h]/\YZ F.g h/\YZ F.s h/\Q (.tup [.int (F.x0+F.g*h),.int (F.x1+F.g*h),.int (F.z0+F.s*h),.int (F.z1+F.s*h)]) S
abbrev xU:DS :=
    (zf (zq (Z6 Y7 Ŕ Z0) Yh)
 (zf (zq (Z6 Y7 Ď Z0) Ym)
 (zA (dTup (zc (Z6 zW Xd ZX) (zc (Z6 zW Ws ZX) (zc (Z6 zW Mu ZW) (zc (Z6 zW MP ZW) zm))))))))
def Č:BodyOk 4 xU GJ:=by rintro ds S Q ⟨F,h,rfl,c1,c2,q⟩;unfold xU;walk_at"g";exact fin_same q
def Ho:ZV:=fun ds S Q=>∃ (F:Fg) (h:Int),ds=[Xo F,.int h]/\Ln F/\Bd 300 h/\(¬ (F.f<=h/\h<=F.l)->Q .non S)/\(F.f<=h->h<=F.l->Q (.tup [.int (F.x0+F.g*(h-F.f)),.int (F.x1+F.g*(h-F.f)),.int (F.z0+F.s*(h-F.f)),.int (F.z1+F.s*(h-F.f))]) S)
abbrev o9:DS :=
    (zf (ZR (Xp (dT (Z6 oLt Z0 Dr)) (dT (Z6 Yk Z0 vK))) (zA (dC .non)) zB)
 (zA (dCall GJ (zc Z4 (zc (Z6 Zm Z0 Dr) zm)))))
def aM:BodyOk 2 o9 Ho:=by
 rintro ds S Q ⟨F,h,rfl,ok,bh,q0,q⟩;unfold o9;walk_at"g";refine ZC (fun h1=>?_) (fun h1=>?_)
 ·walk_at"g";exact fin_same (q0 (by lia))
 walk_at"g";refine ZC (fun h2=>?_) (fun h2=>?_)
 ·walk_at"g";exact fin_same (q0 (by lia))
 walk_at"g";have bk:Bd 301 (h-F.f):=Bd.sub bh ok.f;refine⟨F,_,rfl,.inl ⟨ok.b.bg.mono (by decide),bk.mono (by decide)⟩,.inl ⟨ok.b.bs.mono (by decide),bk.mono (by decide)⟩,?_⟩;exact fin_same (q (by lia) (by lia))
def Cm:ZV:=fun ds S Q=>∃ (L R B T x1 z1 x2 z2:Int),ds=[.tup [.int L,.int R,.int B,.int T],.tup [.int x1,.int z1],.tup [.int x2,.int z2]]/\Bd 1000 L/\Bd 1000 R/\Bd 1000 B/\Bd 1000 T/\Bd 1000 x1/\Bd 1000 z1/\Bd 1000 x2/\Bd 1000 z2 /\
 ∀ (ca cb:Cell) (mx mn:Int),mx∈Zd L R B T x1 z1 x2 z2->(∀ a∈Zd L R B T x1 z1 x2 z2,a<=mx)->mn∈Zd L R B T x1 z1 x2 z2->(∀ a∈Zd L R B T x1 z1 x2 z2,mn<=a)->Q (.ref (S.length+2)) (S++[ca,cb,.lst ((six L R B T x1 z1 x2 z2 mx mn).map D.int)])
abbrev wD:DS :=
    (zf (zq (Z6 Zm T6 V7) Ym)
 (zf (zq (Z6 Zm Sw Tz) Yt)
 (zf (zq (Zk (zc (dTup (zc Xd (zc Mu zm))) (zc (dTup (zc Xd (zc MP zm))) (zc (dTup (zc Ws (zc Mu zm))) (zc (dTup (zc Ws (zc MP zm))) zm))))) YG)
 (zf (zq (Zi 2 [3,1,4] (Zu Y8) (YH 2 (zN YT (zN Vz YK))) Yn (Z6 Zm (Z6 Y7 ZX (Z6 Zm Z0 zw3)) (Z6 Y7 ZP (Z6 Zm Z4 zx1)))) Wn)
 (zA (Zk (zc (Z6 Zm (dB RT (zc V7 (zc T6 zm))) Xd) (zc (Z6 Zm Ws (dB Pb (zc V7 (zc T6 zm)))) (zc (Z6 Zm (dB RT (zc Tz (zc Sw zm))) Mu) (zc (Z6 Zm MP (dB Pb (zc Tz (zc Sw zm)))) (zc (dB JT Om) (zc (Wq Wa (dB MF Om)) zm))))))))))))
def aO:BodyOk 7 wD Cm:=by
 rintro ds S Q ⟨L,R,B,T,x1,z1,x2,z2,rfl,bL,bR,bB,bT,b1,b2,b3,b4,q⟩;unfold wD;walk_at"g";refine Xx (fun _=>true) (iQ fun c=>.int ((x2-x1)*(c.2-z1)-(z2-z1)*(c.1-x1))) (by walk_at"l") (qI rfl) (fun i d ys hd hw=>?_) ?_
 ·obtain⟨c,hc,rfl⟩:=Dz (cs:=[(L,B),(L,T),(R,B),(R,T)]) hd;have hm:=qd hc
  have hb:Bd 1000 c.1/\Bd 1000 c.2:=by
   simp only[ql,qK,or_false]at hm;rcases hm with rfl|rfl|rfl|rfl
   ·exact⟨bL,bB⟩
   ·exact⟨bL,bT⟩
   ·exact⟨bR,bB⟩
   ·exact⟨bR,bT⟩
  have hb1:=hb.1;have hb2:=hb.2;have c1:YZ (x2-x1) (c.2-z1):=.inl ⟨(Bd.sub b3 b1).mono (by decide),(Bd.sub hb2 b2).mono (by decide)⟩;have c2:YZ (z2-z1) (c.1-x1):=.inl ⟨(Bd.sub b4 b2).mono (by decide),(Bd.sub hb1 b1).mono (by decide)⟩;walk_at"g";exact Xw hd hw rfl rfl
 rw[filter_true];show New _ _ ((Zd L R B T x1 z1 x2 z2).map D.int);walk_at"g";refine Ú (ns:=Zd L R B T x1 z1 x2 z2) (by walk_at"l") (qI rfl) fun mx m1 m2=>?_
 walk_at"g";refine m8 (ns:=Zd L R B T x1 z1 x2 z2) (by walk_at"l") (qI rfl) fun mn n1 n2=>?_
 walk_at"g";exact fin_same (q _ _ mx mn m1 m2 n1 n2)
def Dy:ZV:=fun ds S Q=>∃ (L R B T:Int) (a b:Int×Int),ds=[.tup [.int L,.int R,.int B,.int T],p2 a,p2 b]/\L<=R/\B<=T/\(Bd 700 L/\Bd 700 R/\Bd 700 B/\Bd 700 T)/\(Bd 700 a.1/\Bd 700 a.2)/\(Bd 700 b.1/\Bd 700 b.2)/\∀ r:Bool,(r=true↔QH L R B T a.1 a.2 b.1 b.2)->Q (.bl r) S
abbrev tZ:DS :=(zA (Z6 JD (dB MF (zc (dCall Cm (zc Z4 (zc Z0 YD))) zm)) ZK))
def è:BodyOk 3 tZ Dy:=by
 rintro ds S Q ⟨L,R,B,T,a,b,rfl,hx,hz,⟨bL,bR,bB,bT⟩,⟨ba1,ba2⟩,⟨bb1,bb2⟩,q⟩;unfold tZ;walk_at"g";refine⟨L,R,B,T,a.1,a.2,b.1,b.2,rfl,bL.mono (by decide),bR.mono (by decide),bB.mono (by decide),bT.mono (by decide),ba1.mono (by decide),ba2.mono (by decide),bb1.mono (by decide),bb2.mono (by decide),fun ca cb mx mn m1 m2 n1 n2=>?_⟩;walk_at"g";refine m8 (ns:=six L R B T a.1 a.2 b.1 b.2 mx mn) (Lst.at (k:=2) rfl) (by show 0<6;decide) fun m w1 w2=>?_
 walk_at"g";refine Sq rfl (q _ ?_);rw[decide_eq_true_eq,<- ľ hx hz];exact zoM m1 m2 n1 n2 w1 w2
def Qu:Y6:=fun ds S Q ex=>∃ (v:D) (V:Vl) (n m:Str) (h:Int),ds=[v,.str n,.str m,.int h]/\ZD S v V/\Zc V/\fl 20 (.str n)=true/\fl 20 (.str m)=true/\((∀ b∈V.bs,b.1≠n)\/(∀ b∈V.bs,b.1≠m)->ex "NoBeacon" S) /\
 ∀ s t,(n,s)∈V.bs->(m,t)∈V.bs->(¬ (V.h0<=h/\h<=V.h1)->ex "BadHour" S)/\(V.h0<=h->h<=V.h1->∀ d,Dv V n m s t h d->Q d S)
abbrev tu (ex : XR) : DS :=
    (zf (zq (zV Jo ex (zc Z4 Yu)) Yt)
 (zf (zq (zV Jo ex (zc Z4 YD)) YG)
 (zf (Zb (zV J2 ex (zc Z4 Yz)))
 (zf (ZR (dT (Z6 oEq Z0 ZX)) (zA (dC .non)) zB)
 (zf (zq (dCall Gh (zc Z4 (zc ZP Ml))) Wn)
 (zf (ZR (dT (Z6 Wx YS (dC .non))) (zA YS) zB)
 (zf (Y0 (Wm (zc (Ze "fogs" Z4) zm)) (YH 2 (zN U0 (zN Mp YK))) (zf (zq (dCall Ho (zc Uv Yz)) HF)
 (ZR (WY (dT (Z6 Wx QF (dC .non))) (dT (dCall Dy (zc QF (zc ZP Ml))))) (zA (dTup (zc (dC (.str "fog")) IV))) zB)))
 (zA (dC .non)))))))))
def Ą:XQ 10 tu Qu:=by
 rintro ds S Q ex ⟨v,V,n,m,h,rfl,hv,ok,hn,hm,hx,q⟩;unfold tu;walk_at"g";refine⟨v,V,n,rfl,hv,ok,hn,fun no=>hx (.inl no),fun s hs=>?_⟩;walk_at"g";refine⟨v,V,m,rfl,hv,ok,hm,fun no=>hx (.inr no),fun t ht=>?_⟩;obtain⟨q1,q2⟩:=q s t hs ht;clear hx q;have bs:=ok.bd _ hs;have bt:=ok.bd _ ht;have ss:=ok.st _ hs;have st:=ok.st _ ht;walk_at"g";refine⟨v,V,h,rfl,hv,q1,fun h0 h1=>?_⟩;have q':=q2 h0 h1;clear q1 q2;have bh:Bd 300 h:=(Bd.btw (n:=250) ok.b0 ok.bl h0 h1).mono (by decide);obtain⟨a,g,b',f,rfl,ha,hg,hb,hf⟩:=id hv;walk_at"g";refine JZ hn hm ?_;walk_at"g";refine ZC (fun e=>?_) (fun e=>?_)
 ·walk_at"g";exact fin_same (q' .non (.inl ⟨e,rfl⟩))
 walk_at"g";refine⟨_,V,s,t,rfl,hv,ok,⟨bs,ss⟩,⟨bt,st⟩,?_⟩;walk_at"g";by_cases al:QL V s t
 case neg =>
  have en:YL (Rf V s t)=false:=by
   cases h:Rf V s t with
   |non=>exact absurd (Cj.mp h) al
   |_=>rfl
  rw[en];walk_at"g";exact fin_same (q' _ (.inr ⟨e,.inl ⟨al,rfl⟩⟩))
 rw[Cj.mpr al,show YL D.non=true from rfl];walk_at"g";refine RW (Lst.here hf) ?_;have f12:=ok.f12;refine Yq (fun i Z S'=>S'=S/\(∃ w1 w2 w3:Option D,Z=[some (.ref a),some (.str n),some (.str m),some (.int h),some (p2 s),some (p2 t),some .non,w1,w2,w3])/\∀ (j:Nat) G,j<i->V.fs[j]?=some G->¬ Vm G s.1 s.2 t.1 t.2 h) ⟨rfl,⟨_,_,_,rfl⟩,fun j G hj=>by lia⟩ (fun i Z S' w=>w.1▸Lst.here hf) ?_ ?_
 ·rintro i d Z S' hd ⟨rfl,⟨w1,w2,w3,rfl⟩,hno⟩;obtain⟨y,hy,rfl⟩:=Uz hd;obtain⟨F,hF,rfl⟩:=sU hy;have okF:=ok.fg F (qd hF)
  have nxt:¬ Vm F s.1 s.2 t.1 t.2 h->∀ (j:Nat) G,j<i+1->V.fs[j]?=some G->¬ Vm G s.1 s.2 t.1 t.2 h:=fun z j G hj hG=>by
   rcases qV j i with g|g
   ·exact hno j G g hG
   ·have:j=i:=by lia
    subst this;rw[hF]at hG;cases hG;exact z
  walk_at"g";refine⟨F,h,rfl,okF,bh,fun no=>?_,fun k0 k1=>?_⟩
  ·walk_at"g";exact⟨rfl,⟨_,_,_,rfl⟩,nxt fun z=>no ⟨z.1,z.2.1⟩⟩
  ·walk_at"g";have bk:Bd 301 (h-F.f):=Bd.sub bh okF.f;have p1:Bd 501 (F.g*(h-F.f)):=Bd.mul okF.b.bg bk;have p2':Bd 501 (F.s*(h-F.f)):=Bd.mul okF.b.bs bk;have aD:∀ {x y:Int},Bd 600 x->Bd 501 y->Bd 700 (x+y):=fun hx hy=>(Bd.add (n:=600) hx (hy.mono (by decide))).mono (by decide)
   refine⟨_,_,_,_,s,t,rfl,by have:=okF.b.x;lia,by have:=okF.b.z;lia,⟨aD okF.b.b0 p1,aD okF.b.b1 p1,aD okF.b.b2 p2',aD okF.b.b3 p2'⟩,⟨bs.1.mono (by decide),bs.2.mono (by decide)⟩,⟨bt.1.mono (by decide),bt.2.mono (by decide)⟩,fun r hr=>?_⟩;cases r with
   |true =>walk_at"g";rw[Ms];exact fin_same (q' _ (.inr ⟨e,.inr ⟨al,.inl ⟨i,F,hF,⟨k0,k1,hr.mp rfl⟩,hno,rfl⟩⟩⟩))
   |false =>walk_at"g";exact⟨rfl,⟨_,_,_,rfl⟩,nxt fun z=>absurd (hr.mpr z.2.2) (by decide)⟩
 ·rintro Z S' ⟨rfl,⟨w1,w2,w3,rfl⟩,hno⟩;rw[UL,qa]at hno;walk_at"g";refine fin_same (q' _ (.inr ⟨e,.inr ⟨al,.inr ⟨fun F hF=>?_,rfl⟩⟩⟩));obtain⟨j,hj,e⟩:=qO.mp hF;exact hno j F hj (by rw[qb hj,e])
def JN:Y6:=fun ds S Q ex=>∃ (v:D) (V:Vl) (h:Int),ds=[v,.int h]/\ZD S v V/\Zc V/\(¬ (V.h0<=h/\h<=V.h1)->ex "BadHour" S)/\(V.h0<=h->h<=V.h1->∀ (T:Z7) (n:Nat) (qs:List (Str×Str)),Ni V h (prs (V.bs.map (·.1))) qs->(S++T)[n]?=some (.lst (qs.map WL))->S.length<=n->Q (.ref n) (S++T))
abbrev n8 (ex : XR) : DS :=
    (zf (Zb (zV J2 ex (zc Z4 Yu)))
 (zA (Zi 1 [0,1] (Zu (dCall Dl Zg)) YT (dT (Z6 Rx (zV Qu xF (zc Z0 (zc Xd (zc Ws YD)))) (dC .non))) Z4)))
def zmi:XQ 2 n8 JN:=by
  rintro ds S Q ex ⟨v,V,h,rfl,hv,ok,hx,q⟩;unfold n8;walk_at"g";refine⟨v,V,h,rfl,hv,hx,fun h0 h1=>?_⟩;have q':=q h0 h1;clear q hx;walk_at"g";refine⟨v,V,rfl,hv,ok,fun T n hn=>?_⟩;walk_at"g";have hv1:ZD (S++T) v V:=hv.old;have b12:=ok.b12;have hpm:∀ p∈prs (V.bs.map (·.1)),p.1∈V.bs.map (·.1)/\p.2∈V.bs.map (·.1):=fun p hp=>V0 hp
  have lp:(prs (V.bs.map (·.1))).length<=144:=by have:=NZ (V.bs.map (·.1));rw[qa]at this;have:V.bs.length*V.bs.length<=12*12:=MN b12 b12;lia
  generalize prs (V.bs.map (·.1))=ps at q' hn hpm lp;refine Oe (fun i ys S'=>S'=S++T/\∃ qs,ys=qs.map WL/\Ni V h (ps.take i) qs) ⟨rfl,[],rfl,fun _=>true,rfl,fun p hp=>by simp at hp⟩ (fun i ys S' w=>w.1▸Lst.here hn) (by rw[qa];unfold big;lia) ?_ ?_
  . rintro i d ys S' hd ⟨rfl,qs,rfl,hw⟩;obtain⟨p,hp,rfl⟩:=Bv hd;obtain⟨m1,m2⟩:=hpm p (qd hp);obtain⟨b,hb,eb⟩:=qE.mp m1;obtain⟨c,hc,ec⟩:=qE.mp m2;obtain⟨f,hf,hfp⟩:=hw;walk_at"g";refine⟨v,V,p.1,p.2,h,rfl,hv1,ok,ok.flN _ m1,ok.flN _ m2,fun no=>?_,fun s t hs ht=>⟨fun no=>absurd ⟨h0,h1⟩ no,fun _ _ e he=>?_⟩⟩
    . rcases no with no|no
      . exact no b hb eb
      . exact no c hc ec
    have en:YL e=true↔p.1=p.2\/Ss V s t h:=by rw[<- he.non];cases e<;>simp[YL]
    have ubc:∀ s' t',(p.1,s')∈V.bs->(p.2,t')∈V.bs->s'=s/\t'=t:=fun s' t' h1 h2=>⟨congrArg Prod.snd (Vx ok h1 hs rfl),congrArg Prod.snd (Vx ok h2 ht rfl)⟩
    walk_at"g";cases hg:YL e with
    |true =>walk_at"g";refine⟨rfl,qs++[p],by rw[qD];rfl,?_⟩;exact wQ hp hs ht ⟨f,hf,hfp⟩ (fun s' t' h1 h2=>by obtain⟨rfl,rfl⟩:=ubc s' t' h1 h2;exact⟨fun _=>en.mp hg,fun _=>rfl⟩) (by rw[if_pos rfl])
    |false =>walk_at"g";refine⟨rfl,qs,rfl,?_⟩;exact wQ (g:=false) hp hs ht ⟨f,hf,hfp⟩ (fun s' t' h1 h2=>by obtain⟨rfl,rfl⟩:=ubc s' t' h1 h2;exact⟨fun z=>(by cases z),fun z=>by rw[hg]at en;exact absurd (en.mpr z) (by decide)⟩) (by rw[if_neg (by decide)])
  . rintro ys S' ⟨rfl,qs,rfl,hw⟩;rw[qa,VP]at hw;refine Xh (fin_same (q' _ _ qs hw KY (by lia)))
def Xy (b:Nat)(zs:List Str):Nat->List (Str×D)
 |0=>[]
 |i+1=>Xy b zs i++[(zs.getD i Str.empty,.ref (b+i))]
theorem nP (b:Nat)(zs:List Str):∀ i,(Xy b zs i).length=i
 |0=>rfl
 |i+1=>by show(Xy b zs i++_).length=_;rw[qg,nP b zs i];rfl
theorem DN {b:Nat}{zs:List Str}(nd:zs.Nodup):∀ (i:Nat),i<=zs.length->∀ (j:Nat) z,zs[j]?=some z->dval (Xy b zs i) z=if j<i then some (.ref (b+j))else none
 |0,_,j,z,_=>by rw[if_neg (by lia)];rfl
 |i+1,hi,j,z,hz=>by
  have gi:zs[i]?=some (zs.getD i Str.empty):=by rw[qG,qb (by lia)];rfl
  show dval (Xy b zs i++[(zs.getD i Str.empty,.ref (b+i))]) z=_;rw[G3,DN nd i (by lia) j z hz];by_cases e:j<i
  ·rw[if_pos e,if_pos (show j<i+1 by lia)];rfl
  ·rw[if_neg e];by_cases e2:j=i
   ·subst e2;rw[gi]at hz;rw[if_pos (qH hz),if_pos (show j<j+1 by lia)];rfl
   ·rw[if_neg (fun w=>e2 (QC nd hz (by rw[<- w];exact gi))),if_neg (show ¬ j<i+1 by lia)];rfl
structure Ar (zs:List Str)(qs:List (Str×Str))(Ls:List (List Str)):Prop where
 len:Ls.length=zs.length
 nd:∀ ys∈Ls,ys.Nodup
 iff:∀ (j:Nat) z ys,zs[j]?=some z->Ls[j]?=some ys->∀ y,y∈ys↔(z,y)∈qs\/(y,z)∈qs
abbrev Xe (Ls:List (List Str)):Z7:=Ls.map fun ys=>Cell.lst (ys.map D.str)
theorem oV {b:Nat}{zs:List Str}{z:Str}(h:z∉zs):∀ i,i<=zs.length->dval (Xy b zs i) z=none
 |0,_=>rfl
 |i+1,hi=>by
  show dval (Xy b zs i++[(zs.getD i Str.empty,.ref (b+i))]) z=_
  rw[G3,oV h i (by lia),if_neg fun e=>h (by rw[<- e,qG,qb (by lia)];exact Iu (by lia))];rfl
def QD (S:Z7)(x:D)(V:Vl):Prop:=∃ (n:Nat) (Z8:List (Str×D)),x=.ref n/\S[n]?=some (.dk Z8)/\∀ z,z∉V.bs.map (·.1)->dval Z8 z=none
def QD.old {T:Z7}{V:Vl}(w:QD S x V):QD (S++T) x V:=by obtain⟨n,k,e,h,a⟩:=w;exact⟨n,k,e,zF h,a⟩
def QD.get {V:Vl}(w:QD S x V){z:Str}(hz:z∉V.bs.map (·.1)):Zr S x (.str z) none:=by obtain⟨n,k,rfl,h,a⟩:=w;exact Zr.k h (a z hz)
def Ks:ZV:=fun ds S Q=>∃ (v:D) (V:Vl) (h:Int) (x:D) (zs:List Str),ds=[v,.int h,x]/\ZD S v V/\Zc V/\V.bs.map (·.1)=zs/\Lst S x (zs.map D.str)/\V.h0<=h/\h<=V.h1/\∀ (T:Z7) (y:D),TX (S++T) y V h->QD (S++T) y V->Q y (S++T)
abbrev sG:DS :=
    (zf (zq (Lk) Ym)
 (zf (Y0 (Zu ZX) Yt (LR ZW ZP (Zk zm)))
 (zf (Y0 (Zu (zV JN xF (zc Z4 Yu))) (YH 2 (zN YG (zN Wn YK))) (zf (Zb (dM V1 (Vt ZW Y8) Om))
 (Zb (dM V1 (Vt ZW YS) Ml))))
 (zA ZW))))
def zke:BodyOk 7 sG Ks:=by
 rintro ds S Q ⟨v,V,h,x,zs,rfl,hv,ok,hzs,hx,h0,h1,q⟩;unfold sG;have nd:zs.Nodup:=hzs▸ok.nd;have b12:zs.length<=12:=by rw[<- hzs,qa];exact ok.b12
 walk_at"g";have hx1:∀ T,Lst (S++T) x (zs.map D.str):=fun T=>hx.old
 have hx2:=hx1 [.dk []];walk_at"g";walk_at"h";refine Yq (fun i Z S'=>i<=zs.length/\∃ w4:Option D,S'=S++Cell.dk (Xy (S.length+1) zs i)::Xe (List.replicate i [])/\Z=[some v,some (.int h),some x,some (.ref S.length),w4,none,none]) ⟨qX _,none,rfl,rfl⟩ (by rintro i Z S' ⟨_,_,e,_⟩;exact e▸hx.old) ?_ ?_
 ·rintro i d Z S' hd ⟨hi,w4,rfl,rfl⟩;obtain⟨z,hz,rfl⟩:=Ye hd;have li:=zL hz;have gz:zs.getD i Str.empty=z:=by rw[qG,hz];rfl
  walk_at"g";have e1:S.length+(Cell.dk (Xy (S.length+1) zs i)::Xe (List.replicate i [])).length=S.length+1+i:=by simp;lia
  rw[e1];refine Tc.k (Z8:=Xy (S.length+1) zs i) zT (by rw[nP];unfold big;lia) ?_;refine uf ?_;walk_at"g";refine⟨by lia,_,?_,rfl⟩;have hv0:dval (Xy (S.length+1) zs i) z=none:=by rw[DN nd i hi i z hz,if_neg (X6 i)]
  have e2:dput (Xy (S.length+1) zs i) z (.ref (S.length+1+i))=Xy (S.length+1) zs (i+1):=by unfold dput;rw[Rg,hv0,if_neg (by simp)];show Xy (S.length+1) zs i++[(z,_)]=Xy (S.length+1) zs i++[(zs.getD i Str.empty,_)];rw[gz]
  have e3:Xe (List.replicate i [])++[Cell.lst []]=Xe (List.replicate (i+1) []):=by rw[List.replicate_succ'];exact(qD (f:=fun ys:List Str=>Cell.lst (ys.map D.str)) (l₁:=List.replicate i []) (l₂:=[[]])).symm
  rw[e2,<- e3];rfl
 ·rintro Z S' ⟨_,w4,rfl,rfl⟩;rw[qa];obtain⟨kv,hkv⟩:∃ kv,kv=Xy (S.length+1) zs zs.length:=⟨_,rfl⟩
  have vn:∀ z,z∉zs->dval kv z=none:=fun z hz=>by rw[hkv];exact oV hz _ (qh _)
  have vl:∀ (j:Nat) z,zs[j]?=some z->dval kv z=some (.ref (S.length+1+j)):=fun j z hz=>by rw[hkv,DN nd _ (qh _) j z hz,if_pos (zL hz)]
  rw[<- hkv];clear hkv;walk_at"g";refine⟨v,V,h,rfl,hv.old,ok,fun no=>absurd ⟨h0,h1⟩ no,fun _ _ T n qs hq hn ln=>?_⟩;have hmem:∀ p∈prs zs,p.1∈V.bs.map (·.1)/\p.2∈V.bs.map (·.1):=fun p hp=>hzs▸V0 hp
  rw[hzs]at hq;have eq:=vH ok hmem hq;have qnd:qs.Nodup:=eq▸(uK nd).filter _
  have qp:∀ p∈qs,p∈prs zs/\Y9 V h p.1 p.2:=fun p hp=>by rw[eq]at hp;obtain⟨h1,h2⟩:=Xf.mp hp;exact⟨h1,Lp.mp h2⟩
  have qm:∀ p∈prs zs,Y9 V h p.1 p.2->p∈qs:=fun p hp had=>by rw[eq];exact Xf.mpr ⟨hp,Lp.mpr had⟩
  obtain⟨Ls0,hL0⟩:∃ Ls0:List (List Str),Ls0=List.replicate zs.length []:=⟨_,rfl⟩
  rw[<- hL0]at hn ln ⊢
  have n0:Ar zs [] Ls0:=⟨by rw[hL0];simp,fun ys hy=>by rw[hL0]at hy;rw[List.eq_of_mem_replicate hy];simp,fun j z ys hz hs y=>by rw[hL0]at hs;rw[List.eq_of_mem_replicate (qd hs)];simp⟩
  have lL0:=n0.len
  have kq:∀ Ls:List (List Str),Ls.length=zs.length->Lst (S++Cell.dk kv::(Xe Ls++T)) (.ref n) (qs.map WL):=fun Ls hl=>by
   refine .inr ⟨n,rfl,?_⟩
   have ln':S.length+(1+zs.length)<=n:=by
    have:(S++Cell.dk kv::Xe Ls0).length=S.length+(1+zs.length):=by simp;lia
    lia
   obtain⟨k,rfl⟩:∃ k,n=S.length+(1+zs.length+k):=⟨n-(S.length+(1+zs.length)),by lia⟩
   rw[qj,Kw,zM,show 1+zs.length+k=(zs.length+k)+1 by lia,Vq,qe (by simp;lia)]at hn;rw[zM,show 1+zs.length+k=(zs.length+k)+1 by lia,Vq,qe (by simp;lia)];rw[<- hn];congr 1;simp;lia
  rw[show S++Cell.dk kv::Xe Ls0++T=S++Cell.dk kv::(Xe Ls0++T) by simp];have kq0:=kq Ls0 lL0;clear hn hL0
  have bq:qs.length<=144:=by have h2:=Ob (Ra V h) (prs zs);have h3:=NZ zs;have:zs.length*zs.length<=12*12:=MN b12 b12;rw[eq];lia
  walk_at"g";refine Yq (fun i Z S'=>∃ (Ls:List (List Str)) (w5 w6:Option D),S'=S++Cell.dk kv::(Xe Ls++T)/\Z=[some v,some (.int h),some x,some (.ref S.length),w4,w5,w6]/\Ar zs (qs.take i) Ls) ⟨Ls0,_,_,rfl,rfl,by simpa using n0⟩ (by rintro i Z S' ⟨Ls,_,_,e,_,w⟩;exact e▸kq Ls w.len) ?_ ?_
  ·rintro i d Z S' hd ⟨Ls,w5,w6,rfl,rfl,w⟩;obtain⟨⟨a,b⟩,hp,rfl⟩:=Bv hd;have mp:=qd hp;obtain⟨pp,_⟩:=qp _ mp;obtain⟨ma,mb⟩:=V0 pp;have nab:a≠b:=Np nd pp;obtain⟨ia,hia,ea⟩:=qO.mp ma;obtain⟨ib,hib,eb⟩:=qO.mp mb;have ga:zs[ia]?=some a:=by rw[qb hia,ea]
   have gb:zs[ib]?=some b:=by rw[qb hib,eb]
   have wl:=w.len;obtain⟨ya,hya⟩:∃ ya,Ls[ia]?=some ya:=⟨_,qb (by lia)⟩
   have Zw:(a,b)∉qs.take i:=fun z=>by obtain⟨j,hj,ej⟩:=qO.mp z;rw[List.getElem_take]at ej;rw[Vj]at hj;have li:=zL hp;rw[qb li]at hp;have:=Te.mp qnd j i (by lia) li (by lia);exact this (ej.trans (qH hp).symm)
   have not2:(b,a)∉qs.take i:=fun z=>m9 nd pp (qp _ (QT z)).1
   have no1:b∉ya:=fun z=>((w.iff ia a ya ga hya b).mp z).elim Zw not2
   have at1:∀ (Ls:List (List Str)) (j:Nat) (ys:List Str),Ls[j]?=some ys->(S++Cell.dk kv::(Xe Ls++T))[S.length+1+j]?=some (.lst (ys.map D.str)):=fun Ls j ys hj=>by rw[Qo,zM,show 1+j=j+1 by lia,Vq,qf (by rw[qa];exact zL hj),qk,hj];rfl
   have put1:∀ (Ls:List (List Str)) (j:Nat) (ys:List Str),j<Ls.length->(S++Cell.dk kv::(Xe Ls++T)).set (S.length+1+j) (.lst (ys.map D.str))=S++Cell.dk kv::(Xe (Ls.set j ys)++T):=fun Ls j ys hj=>by rw[Qt _ _ (by lia),show S.length+1+j-S.length=j+1 by lia,J3,List.set_append_left _ _ (by rw[qa];exact hj),show Xe (Ls.set j ys)=(Xe Ls).set j (.lst (ys.map D.str))from List.map_set]
   have lya:ya.length<=12:=qZ (Qc (N:=zs) (w.nd ya (qd hya)) fun y hy=>by
    rcases(w.iff ia a ya ga hya y).mp hy with z|z
    ·exact(V0 (qp _ (QT z)).1).2
    ·exact(V0 (qp _ (QT z)).1).1) b12
   walk_at"g";refine⟨_,Zr.k zT (vl ia a ga),?_⟩;refine Fp (at1 Ls ia ya hya) ?_;walk_at"g";refine Je (at1 Ls ia ya hya) (by rw[qa];unfold big;lia) ?_;refine Vy ?_;rw[show ya.map D.str++[D.str b]=(ya++[b]).map D.str by rw[qD];rfl,put1 _ _ _ (by lia)];obtain⟨yb,hyb⟩:∃ yb,(Ls.set ia (ya++[b]))[ib]?=some yb:=⟨_,qb (by rw[XF];lia)⟩
   have hyb':Ls[ib]?=some yb:=by rwa[qN (fun e=>nab (by subst e;rw[ga]at gb;exact qH gb))]at hyb
   have no2:a∉yb:=fun z=>((w.iff ib b yb gb hyb' a).mp z).elim not2 Zw
   have lyb:yb.length<=12:=qZ (Qc (N:=zs) (w.nd yb (qd hyb')) fun y hy=>by
    rcases(w.iff ib b yb gb hyb' y).mp hy with z|z
    ·exact(V0 (qp _ (QT z)).1).2
    ·exact(V0 (qp _ (QT z)).1).1) b12
   walk_at"g";refine⟨_,Zr.k zT (vl ib b gb),?_⟩;refine Fp (at1 _ ib yb hyb) ?_;walk_at"g";refine Je (at1 _ ib yb hyb) (by rw[qa];unfold big;lia) ?_;refine Vy ?_;rw[show yb.map D.str++[D.str a]=(yb++[a]).map D.str by rw[qD];rfl,put1 _ _ _ (by rw[XF];lia)];walk_at"g";refine⟨_,_,_,rfl,rfl,?_⟩;rw[W7 hp];have len2:((Ls.set ia (ya++[b])).set ib (yb++[a])).length=zs.length:=by rw[XF,XF];exact wl
   refine⟨len2,fun ys hy=>?_,fun j z ys hz hs y=>?_⟩
   ·have snd:∀ {l:List Str} {c:Str},l.Nodup->c∉l->(l++[c]).Nodup:=fun {l c} h1 h2=>by
     rw[VJ];refine⟨h1,by simp,fun u hu v' hv' e=>?_⟩;have:v'=c:=by simpa using hv'
     subst this;subst e;exact h2 hu
    rcases Cp hy with hy|rfl
    ·rcases Cp hy with hy|rfl
     ·exact w.nd ys hy
     ·exact snd (w.nd _ (qd hya)) no1
    ·exact snd (w.nd _ (qd hyb')) no2
   ·have mem2:∀ u t:Str,(u,t)∈qs.take i++[(a,b)]↔(u,t)∈qs.take i\/(u=a/\t=b):=fun u t=>by rw[qC,qJ,Prod.mk.injEq]
    rw[mem2,mem2];by_cases e2:ib=j
    ·subst e2;rw[qW (by rw[XF];lia)]at hs;cases hs;rw[gb]at hz;cases hz;rw[qC,qJ,w.iff ib b yb gb hyb' y];constructor
     ·rintro((z|z)|z)
      ·exact .inl (.inl z)
      ·exact .inr (.inl z)
      ·exact .inr (.inr ⟨z,rfl⟩)
     ·rintro((z|z)|(z|z))
      ·exact .inl (.inl z)
      ·exact absurd z.1.symm nab
      ·exact .inl (.inr z)
      ·exact .inr z.1
    ·rw[qN e2]at hs;by_cases e1:ia=j
     ·subst e1;rw[qW (by lia)]at hs;cases hs;rw[ga]at hz;cases hz;rw[qC,qJ,w.iff ia a ya ga hya y];constructor
      ·rintro((z|z)|z)
       ·exact .inl (.inl z)
       ·exact .inr (.inl z)
       ·exact .inl (.inr ⟨rfl,z⟩)
      ·rintro((z|z)|(z|z))
       ·exact .inl (.inl z)
       ·exact .inr z.2
       ·exact .inl (.inr z)
       ·exact absurd z.2 nab
     ·rw[qN e1]at hs;rw[w.iff j z ys hz hs y];have nz1:z≠a:=fun e=>by subst e;exact e1 (QC nd ga hz)
      have nz2:z≠b:=fun e=>by subst e;exact e2 (QC nd gb hz)
      constructor
      ·exact fun z=>z.imp .inl .inl
      ·rintro((z|z)|(z|z))
       ·exact .inl z
       ·exact absurd z.1 nz1
       ·exact .inr z
       ·exact absurd z.2 nz2
  ·rintro Z S' ⟨Ls,w5,w6,rfl,rfl,w⟩;rw[qa,VP]at w;walk_at"g";refine fin_same (q _ _ ⟨S.length,kv,rfl,zT,fun z hz=>?_⟩ ⟨S.length,kv,rfl,zT,fun z hz=>vn z (hzs▸hz)⟩);rw[hzs]at hz;obtain⟨j,hj,ej⟩:=qO.mp hz;have gj:zs[j]?=some z:=by rw[qb hj,ej]
   have wl:=w.len;obtain⟨ys,hys⟩:∃ ys,Ls[j]?=some ys:=⟨_,qb (by lia)⟩
   refine⟨S.length+1+j,ys,vl j z gj,?_,w.nd ys (qd hys),fun y=>?_⟩
   ·rw[Qo,zM,show 1+j=j+1 by lia,Vq,qf (by rw[qa];exact zL hys),qk,hys];rfl
   ·rw[w.iff j z ys gj hys y];constructor
    ·rintro(z'|z')
     ·obtain⟨p1,p2⟩:=qp _ z';exact⟨(Np nd p1).symm,p2⟩
     ·obtain⟨p1,p2⟩:=qp _ z';exact⟨Np nd p1,Py p2⟩
    ·rintro⟨ne,aD⟩;have my:=(Mw aD).2;rw[hzs]at my;rcases pK hz my (Ne.symm ne)with z'|z'
     ·exact .inl (qm _ z' aD)
     ·exact .inr (qm _ z' (Py aD))
structure Vw (V:Vl)(h:Int)(a b:Str)(ex:Str->Prop)(P:Prop):Prop where
 nb:a∉V.bs.map (·.1)\/b∉V.bs.map (·.1)->ex "NoBeacon"
 hr:a∈V.bs.map (·.1)->b∈V.bs.map (·.1)->¬ (V.h0<=h/\h<=V.h1)->ex "BadHour"
 bs:a∈V.bs.map (·.1)->b∈V.bs.map (·.1)->V.h0<=h->h<=V.h1->Y9 V h a b->ex "Beside"
 ok:a∈V.bs.map (·.1)->b∈V.bs.map (·.1)->V.h0<=h->h<=V.h1->¬ Y9 V h a b->P
def Vw.imp {V:Vl}{P':Prop}(A:Vw V h a b ex P)(f:a∈V.bs.map (·.1)->b∈V.bs.map (·.1)->V.h0<=h->h<=V.h1->¬ Y9 V h a b->P->P'):Vw V h a b ex P' :=⟨A.nb,A.hr,A.bs,fun x1 x2 x3 x4 x5=>f x1 x2 x3 x4 x5 (A.ok x1 x2 x3 x4 x5)⟩
def Qk:Y6:=fun ds S Q ex=>∃ (v:D) (V:Vl) (h:Int) (a b:Str),ds=[v,.int h,.str a,.str b]/\ZD S v V/\Zc V/\fl 20 (.str a)=true/\fl 20 (.str b)=true/\Vw V h a b (fun c=>ex c S) (Q .non S)
abbrev rM (ex:XR):DS :=(ZR (dT (Z6 Rx (zV Qu ex (zc Z4 (zc ZX (zc ZW Yu)))) (dC .non))) (Uy ex "Beside") zB)
def η:XQ 4 rM Qk:=by
  rintro ds S Q ex ⟨v,V,h,a,b,rfl,hv,ok,fa,fb,A⟩;unfold rM;walk_at"g";refine⟨v,V,_,_,h,rfl,hv,ok,fa,fb,fun n=>A.nb ?_,fun s t hs ht=>?_⟩
  . refine n.imp (fun n z=>?_) fun n z=>?_
    . obtain⟨x,hx,e⟩:=qE.mp z;exact n x hx e
    . obtain⟨x,hx,e⟩:=qE.mp z;exact n x hx e
  have ma:a∈V.bs.map (·.1):=qE.mpr ⟨_,hs,rfl⟩;have mb:b∈V.bs.map (·.1):=qE.mpr ⟨_,ht,rfl⟩;refine⟨fun n=>A.hr ma mb n,fun h0 h1 e he=>?_⟩;have e1:YL e=true↔e=.non:=by cases e<;>simp[YL]
  walk_at"g";cases hg:YL e with
  |true =>walk_at"g";exact A.bs ma mb h0 h1 ⟨s,t,hs,ht,he.non.mp (e1.mp hg)⟩
  |false =>walk_at"g";refine fin_same (A.ok ma mb h0 h1 fun⟨s',t',hs',ht',w⟩=>?_);have es:s'=s:=congrArg Prod.snd (Vx ok hs' hs rfl);have et:t'=t:=congrArg Prod.snd (Vx ok ht' ht rfl);subst es et;rw[e1.mpr (he.non.mpr w)]at hg;cases hg
def NQ:ZV:=fun ds S Q=>∃ (v:D) (V:Vl) (a b:Str),ds=[v,.str a,.str b]/\ZD S v V/\Zc V/\fl 20 (.str a)=true/\fl 20 (.str b)=true/\∀ (T:Z7) (n:Nat),(S++T)[n]?=some (.lst ((W3 a b (V.bs.map (·.1))).map D.str))->S.length<=n->Q (.ref n) (S++T)
abbrev yG:DS :=(zA (Zi 1 [1,2] (Zu (dCall Vp Zg)) YT (WY (dT (Z6 XS Z4 Z0)) (dT (Z6 XS Z4 ZX))) Z4))
def zhz:BodyOk 3 yG NQ:=by
 rintro ds S Q ⟨v,V,a,b,rfl,hv,ok,fa,fb,q⟩;unfold yG;have b12:=ok.b12;have flz:=ok.flN;walk_at"g";refine⟨v,V,rfl,hv,by lia,?_⟩;have lz:(V.bs.map (·.1)).length<=12:=by rw[qa];exact b12
 generalize V.bs.map (·.1)=zs at flz lz q;walk_at"g";refine Xx (Vi fun z=>decide (z≠a/\z≠b)) id Lst.at0 (by rw[qa];unfold big;lia) (fun j d zs' hd' hw=>?_) ?_
 ·obtain⟨z,hz,rfl⟩:=Ye hd';have mz:=qd hz;walk_at"g";refine Tw (flz z mz) fa ?_;walk_at"g";refine W8 (fun e=>?_) (fun e=>?_)
  ·walk_at"g";refine Tw (flz z mz) fb ?_;walk_at"g";refine W8 (fun e2=>?_) (fun e2=>?_)
   ·walk_at"g";exact Xw hd' hw (decide_eq_true ⟨e,e2⟩) rfl
   ·walk_at"g";exact RN hd' hw (decide_eq_false fun w=>w.2 e2)
  ·walk_at"g";exact RN hd' hw (decide_eq_false fun w=>w.1 e)
 rw[eZ];exact GD (fin_same (q _ _ ((zM _ _ 1).trans rfl) (by lia)))
def Ez:ZV:=fun ds S Q=>∃ (v:D) (V:Vl) (h:Int) (s t:Nat) (zs:List Str),ds=[v,.int h,.str (Z5 zs s),.str (Z5 zs t)]/\ZD S v V/\Zc V/\zs=V.bs.map (·.1)/\s<zs.length/\t<zs.length/\V.h0<=h/\h<=V.h1 /\
 ∀ (T:Z7) (n e:Nat) Z8,Zj zs Z8 (YF (YQ V h s t))->(S++T)[n]?=some (.dn Z8 e)->S.length<=n->Q (.ref n) (S++T)
def Mt (zs os:List Str):Pt->Pt->Int:=fun p q=>if p.2=false/\q.2=true/\p.1=q.1/\Z5 zs p.1∈os then 1 else 0
def JF (zs os:List Str)(qs:List (Str×Str)):Pt->Pt->Int:=fun p q=>if p.2=true/\q.2=false/\((Z5 zs p.1,Z5 zs q.1)∈qs\/(Z5 zs q.1,Z5 zs p.1)∈qs)then zs.length else Mt zs os p q
abbrev yK:DS :=
    (zf (zq (Ny) Yt)
 (zf (Y0 (Zu (dCall NQ (zc Z4 (zc ZX Yz)))) YG (SN ZP (dTup (zc (dTup (zc Y8 (zc ZK zm))) (zc (dTup (zc Y8 (zc ZL zm))) zm))) ZL))
 (zf (zq (dB Za (zc (dCall Vp Zg) zm)) Wn)
 (zf (Y0 (Zu (zV JN xF (zc Z4 Yu))) (YH 2 (zN U0 (zN Mp YK))) (zf (SN ZP (dTup (zc (dTup (zc Xc (zc ZL zm))) (zc (dTup (zc Uv (zc ZK zm))) zm))) YS)
 (SN ZP (dTup (zc (dTup (zc Uv (zc ZL zm))) (zc (dTup (zc Xc (zc ZK zm))) zm))) YS)))
 (zA ZP)))))
def Ļ:BodyOk 9 yK Ez:=by
  rintro ds S Q ⟨v,V,h,s,t,zs,rfl,hv,ok,hzs,hs,ht,h0,h1,q⟩;unfold yK;have nd:zs.Nodup:=hzs▸ok.nd;have flz:∀ z∈zs,fl 20 (.str z)=true:=hzs▸ok.flN;have h12:zs.length<=12:=by rw[hzs,qa];exact ok.b12
  have mz:∀ {i},i<zs.length->Z5 zs i∈zs:=fun hi=>qd (Ud hi)
  have ix:∀ {z},z∈zs->∃ j,j<zs.length/\Z5 zs j=z:=fun hz=>by obtain⟨j,hj,e⟩:=qO.mp hz;exact⟨j,hj,Nr (by rw[qb hj,e])⟩
  walk_at"g";refine⟨v,V,_,_,rfl,hv.old,ok,flz _ (mz hs),flz _ (mz ht),fun T n hn ln=>?_⟩;rw[<- hzs]at hn;have mo:∀ z,z∈W3 (Z5 zs s) (Z5 zs t) zs↔z∈zs/\z≠Z5 zs s/\z≠Z5 zs t:=fun z=>by unfold W3;rw[Xf,decide_eq_true_eq]
  have lo:(W3 (Z5 zs s) (Z5 zs t) zs).length<=12:=qZ (Ob _ _) h12;generalize W3 (Z5 zs s) (Z5 zs t) zs=os at hn mo lo;obtain⟨m,rfl⟩:∃ m,n=S.length+(m+1):=⟨n-S.length-1,by simp at ln;lia⟩
  rw[qj,zM]at hn;have hT:T[m]?=some (.lst (os.map D.str)):=hn;clear hn ln;have ko:∀ c G,Lst (S++c::(T++G)) (.ref (S.length+(m+1))) (os.map D.str):=fun c G=>Lst.here (by rw[zM];exact zF hT)
  have hv1:∀ c G,ZD (S++c::G) v V:=fun c G=>hv.old
  walk_at"g";rw[qj];have ko0:=ko (.dn [] 0) [];rw[qS]at ko0;walk_at"g";walk_at"h";refine Yq (fun i Z S'=>∃ Z8 e,S'=S++.dn Z8 e::T/\(∃ w5 w6 w7 w8,Z=[some v,some (.int h),some (.str (Z5 zs s)),some (.str (Z5 zs t)),some (.ref S.length),w5,w6,w7,w8])/\Zj zs Z8 (Mt zs (os.take i))) ⟨[],0,rfl,⟨_,_,_,_,rfl⟩,Zj.nil.cg fun p q _ _=>by unfold Mt;rw[if_neg (by simp)]⟩ (by rintro i Z S' ⟨Z8,e,e1,_⟩;exact by rw[e1];have:=ko (.dn Z8 e) [];rwa[qS]at this) ?_ ?_
  . rintro i d Z S' hd ⟨Z8,e,rfl,⟨w5,w6,w7,w8,rfl⟩,R⟩;obtain⟨z,hz,rfl⟩:=Ye hd;obtain⟨m1,_⟩:=(mo z).mp (qd hz);obtain⟨j,hj,rfl⟩:=ix m1;walk_at"g";refine R.puts (p:=(j,false)) (q:=(j,true)) nd h12 zT hj hj fun kvs' e' R'=>?_
    refine Vy ?_;rw[Qm];walk_at"g";refine⟨kvs',e',rfl,⟨_,_,_,_,rfl⟩,R'.cg fun p q hp hq=>?_⟩;unfold VL Mt;rw[W7 hz];by_cases e1:p=(j,false)/\q=(j,true)
    . obtain⟨rfl,rfl⟩:=e1;rw[if_pos ⟨rfl,rfl⟩,if_pos ⟨rfl,rfl,rfl,by simp⟩]
    . rw[if_neg e1];by_cases e2:p.2=false/\q.2=true/\p.1=q.1/\Z5 zs p.1∈os.take i
      . rw[if_pos e2,if_pos ⟨e2.1,e2.2.1,e2.2.2.1,qT _ e2.2.2.2⟩]
      . rw[if_neg e2,if_neg];rintro⟨g1,g2,g3,g4⟩;rcases qC.mp g4 with g4|g4
        . exact e2 ⟨g1,g2,g3,g4⟩
        . have e3:=V4 nd hp hj (qJ.mp g4);exact e1 ⟨Uh e3 g1,Uh (g3▸e3) g2⟩
  . rintro Z S' ⟨Z8,e,rfl,⟨w5,w6,w7,w8,rfl⟩,R⟩;rw[qa,VP]at R;walk_at"g";refine⟨v,V,rfl,hv1 _ _,by have:=ok.b12;lia,?_⟩;rw[<- hzs];walk_at"g";refine⟨v,V,h,rfl,hv1 _ _,ok,fun no=>absurd ⟨h0,h1⟩ no,fun _ _ T2 n2 qs hq hn2 ln2=>?_⟩;rw[<- hzs]at hq;have hq:=vH ok (fun p hp=>hzs▸V0 hp) hq;have mq:∀ p,p∈qs↔p∈prs zs/\Y9 V h p.1 p.2:=fun p=>by rw[hq,Xf,Lp]
    have lq:qs.length<=144:=by have a1:=Ob (Ra V h) (prs zs);have a2:=NZ zs;have a3:zs.length*zs.length<=12*12:=MN h12 h12;rw[<- hq]at a1;lia
    clear hq;obtain⟨G,hG⟩:∃ G:Z7,T++([Cell.lst (zs.map D.str)]++T2)=G:=⟨_,rfl⟩
    have eS:∀ c:Cell,S++(c::T++[Cell.lst (zs.map D.str)])++T2=S++c::G:=fun c=>by rw[<- hG];simp
    rw[eS]at hn2 ⊢;obtain⟨m2,rfl⟩:∃ m,n2=S.length+(m+1):=⟨n2-S.length-1,by simp at ln2;lia⟩
    rw[zM]at hn2;have hT2:G[m2]?=some (.lst (qs.map WL)):=hn2;have kq:∀ c,Lst (S++c::G) (.ref (S.length+(m2+1))) (qs.map WL):=fun c=>Lst.here (by rw[zM];exact hT2)
    have kq0:=kq (.dn Z8 e);clear hn2 ln2 hG eS hT ko ko0;walk_at"g";walk_at"h";refine Yq (fun i Z S'=>∃ Z8 e,S'=S++.dn Z8 e::G/\(∃ w7 w8,Z=[some v,some (.int h),some (.str (Z5 zs s)),some (.str (Z5 zs t)),some (.ref S.length),w5,some (.int zs.length),w7,w8])/\Zj zs Z8 (JF zs os (qs.take i))) ⟨Z8,e,rfl,⟨_,_,by rw[qa]⟩,R.cg fun p q _ _=>by unfold JF;rw[if_neg (by simp)]⟩ (by rintro i Z S' ⟨Z8,e,e1,_⟩;exact by rw[e1];exact kq _) ?_ ?_
    . rintro i d Z S' hd ⟨Z8,e,rfl,⟨w7,w8,rfl⟩,R⟩;obtain⟨⟨x,y⟩,hp,rfl⟩:=Bv hd;obtain⟨m1,m3⟩:=V0 ((mq _).mp (qd hp)).1;obtain⟨j,hj,rfl⟩:=ix m1;obtain⟨k,hk,rfl⟩:=ix m3;walk_at"g";refine R.puts (p:=(j,true)) (q:=(k,false)) nd h12 zT hj hk fun kvs1 e1 R1=>?_
      refine Vy ?_;rw[Qm];walk_at"g";refine R1.puts (p:=(k,true)) (q:=(j,false)) nd h12 zT hk hj fun kvs2 e2 R2=>?_
      refine Vy ?_;rw[Qm];walk_at"g";refine⟨kvs2,e2,rfl,⟨_,_,rfl⟩,R2.cg fun p q hp' hq'=>?_⟩;unfold VL JF;rw[W7 hp];have inj:∀ {a b:Nat},a<zs.length->b<zs.length->Z5 zs a=Z5 zs b->a=b:=fun ha hb=>V4 nd ha hb
      by_cases g1:p=(k,true)/\q=(j,false)
      . obtain⟨rfl,rfl⟩:=g1;rw[if_pos ⟨rfl,rfl⟩,if_pos ⟨rfl,rfl,.inr (by simp)⟩]
      rw[if_neg g1];by_cases g2:p=(j,true)/\q=(k,false)
      . obtain⟨rfl,rfl⟩:=g2;rw[if_pos ⟨rfl,rfl⟩,if_pos ⟨rfl,rfl,.inl (by simp)⟩]
      rw[if_neg g2];by_cases g3:p.2=true/\q.2=false/\((Z5 zs p.1,Z5 zs q.1)∈qs.take i\/(Z5 zs q.1,Z5 zs p.1)∈qs.take i)
      . rw[if_pos g3,if_pos ⟨g3.1,g3.2.1,g3.2.2.imp (fun z=>qT _ z) fun z=>qT _ z⟩]
      . rw[if_neg g3,if_neg];rintro⟨c1,c2,c3⟩;rcases c3 with c3|c3
        . rcases qC.mp c3 with c3|c3
          . exact g3 ⟨c1,c2,.inl c3⟩
          . obtain⟨d1,d2⟩:=V3 (qJ.mp c3);exact g2 ⟨Uh (inj hp' hj d1) c1,Uh (inj hq' hk d2) c2⟩
        . rcases qC.mp c3 with c3|c3
          . exact g3 ⟨c1,c2,.inr c3⟩
          . obtain⟨d1,d2⟩:=V3 (qJ.mp c3);exact g1 ⟨Uh (inj hp' hk d2) c1,Uh (inj hq' hj d1) c2⟩
    . rintro Z S' ⟨Z8,e,rfl,⟨w7,w8,rfl⟩,R⟩;rw[qa,VP]at R;walk_at"g";refine fin_same (q _ _ e Z8 (R.cg fun p q hp hq=>?_) zT (qh _));obtain⟨a,x⟩:=p;obtain⟨b,y⟩:=q;have hp:a<zs.length:=hp;have hq:b<zs.length:=hq;unfold JF Mt;cases x<;>cases y
      . rw[if_neg (by simp),if_neg (by simp)];rfl
      . rw[if_neg (by simp),Qp]
        have:(a=b/\Z5 zs a∈os)↔(a=b/\a≠s/\a≠t/\a<zs.length):=and_congr_right fun _=>by rw[mo];exact⟨fun z=>⟨fun e=>z.2.1 (by rw[e]),fun e=>z.2.2 (by rw[e]),hp⟩,fun z=>⟨mz hp,fun e=>z.1 (V4 nd hp hs e),fun e=>z.2.1 (V4 nd hp ht e)⟩⟩
        by_cases g:a=b/\Z5 zs a∈os
        . rw[if_pos ⟨rfl,rfl,g⟩,if_pos (by have:=this.mp g;rw[hzs]at this;exact this)]
        . rw[if_neg (fun z=>g z.2.2),if_neg (fun z=>g (this.mpr (by rw[hzs];exact z)))]
      . rw[Ot]
        have:((Z5 zs a,Z5 zs b)∈qs\/(Z5 zs b,Z5 zs a)∈qs)↔(YQ V h s t).adj a b=true:=by
          rw[RX,<- hzs,mq,mq];constructor
          . rintro(⟨z1,z2⟩|⟨z1,z2⟩)
            . exact⟨fun e=>Np nd z1 (by rw[e]),hp,hq,z2⟩
            . exact⟨fun e=>Np nd z1 (by rw[e]),hp,hq,Py z2⟩
          . rintro⟨z1,_,_,z2⟩;exact(pK (mz hp) (mz hq) fun e=>z1 (V4 nd hp hq e)).imp (fun z=>⟨z,z2⟩) fun z=>⟨z,Py z2⟩
        by_cases g:(Z5 zs a,Z5 zs b)∈qs\/(Z5 zs b,Z5 zs a)∈qs
        . rw[if_pos ⟨rfl,rfl,g⟩,if_pos (this.mp g),hzs];rfl
        . rw[if_neg (fun z=>g z.2.2),if_neg (by simp),if_neg (fun z=>g (this.mpr z))]
      . rw[if_neg (by simp),if_neg (by simp)];rfl
def Lr:ZV:=fun ds S Q=>∃ (r e:Nat) (Z8:List (List (List SK)×D)) (zs:List Str) (c:Pt->Pt->Int) (st:Pt),ds=[.ref r,Zf zs st]/\S[r]?=some (.dn Z8 e)/\Zj zs Z8 c/\zs.Nodup/\zs.length<=12/\(∀ z∈zs,fl 20 (.str z)=true)/\st.1<zs.length/\(∀ p q,0<c p q->p.1<zs.length/\q.1<zs.length) /\
 ∀ (T:Z7) (n:Nat) (fo:List (Pt×Option Pt)),Bf c st fo [] (fun _ _=>True)->(∀ x∈fo.map (·.1),x.1<zs.length)->(S++T)[n]?=some (.dt (fo.map (fk zs)))->S.length<=n->Q (.ref n) (S++T)
abbrev ur:DS :=
    (zf (zq (Lj Z0 (dC .non)) Yh)
 (zf (zq (Zk Yu) Ym)
 (zf (U8 (dT (Z6 Yk (dB Za Yz) ZK)) (zf (zq (dM Km ZW (zc ZK zm)) Yt)
 (Y0 (J6 Z4) (YH 2 (zN YG (zN Wn YK))) (ZR (WY (dT (Z6 oEq eY ZP)) (WY (dT (Z6 Yk YS ZK)) (dT (SJ Gk ZX)))) (zf (LR ZX Gk ZP)
 (Zb (dM V1 ZW (zc Gk zm)))) zB))))
 (zA ZX))))
def Ŭ:BodyOk 7 ur Lr:=by
 rintro ds S Q ⟨r,e,Z8,zs,c,st,rfl,hr,R,nd,h12,flz,hst,rng,q⟩;unfold ur;have hrT:∀ T,(S++T)[r]?=some (.dn Z8 e):=fun T=>zF hr
 have s21:∀ a b c:Cell,[a,b].set 1 c=[a,c]:=fun _ _ _=>rfl
 have k1:∀ c d:Cell,(S++[c,d])[S.length+1]?=some d:=fun c d=>(zM _ _ 1).trans rfl
 walk_at"g";refine⟨kp zs st,rfl,zT,?_⟩;rw[Qm];walk_at"g";walk_at"h";refine RB (fun m Z S'=>∃ (fo:List (Pt×Option Pt)) (wt:List Pt),S'=S++[.dt (fo.map (fk zs)),.lst (wt.map (Zf zs))]/\(∃ w4 w5 w6,Z=[some (.ref r),some (Zf zs st),some (.ref S.length),some (.ref (S.length+1)),w4,w5,w6])/\Bf c st fo wt (fun _ _=>True)/\(∀ x∈fo.map (·.1),x.1<zs.length)/\m=2*(2*zs.length-fo.length)+wt.length) _ ⟨[(st,none)],[st],rfl,⟨_,_,_,rfl⟩,Bf.start,fun x hx=>by rw[qJ.mp hx];exact hst,rfl⟩ ?_;rintro m Z S' ⟨fo,wt,rfl,⟨w4,w5,w6,rfl⟩,B,lt,rfl⟩;walk_at"g";refine ZC (fun c0=>?_) (fun c0=>?_)
 case refine_2 =>have e0:wt=[]:=Gj.mp (by rw[qa]at c0;lia);subst e0;walk_at"g";exact fin_same (q _ _ fo B lt zT (qh _))
 obtain⟨p,wt,rfl⟩:∃ p w,wt=p::w:=by
  cases wt with
  |nil=>exact absurd c0 (by simp)
  |cons p w=>exact⟨p,w,rfl⟩
 obtain⟨B1,mp,np⟩:=B.pop;have hp:=lt p mp;walk_at"g";refine iH (xs:=wt.map (Zf zs)) ((zM _ _ 1).trans rfl) (vI ?_);rw[s21];walk_at"g";refine⟨r,Z8,e,rfl,hrT _,?_⟩;walk_at"h";have fl2:=Er B lt;obtain⟨fo',hfo'⟩:∃ fo':List (Pt×Option Pt),fo'=fo:=⟨_,rfl⟩
 refine Yq (fun i Z S'=>∃ (fo:List (Pt×Option Pt)) (wt':List Pt),S'=S++[.dt (fo.map (fk zs)),.lst (wt'.map (Zf zs))]/\(∃ w5 w6,Z=[some (.ref r),some (Zf zs st),some (.ref S.length),some (.ref (S.length+1)),some (Zf zs p),w5,w6])/\Bf c st fo wt' (fun a b=>a≠p\/∃ (k:Nat) (x:List (List SK)×D),k<i/\Z8[k]?=some x/\x.1=[kp zs a,kp zs b])/\p∈fo.map (·.1)/\(∀ x∈fo.map (·.1),x.1<zs.length)/\2*(2*zs.length-fo.length)+wt'.length+1<=2*(2*zs.length-fo'.length)+(wt.length+1)) ⟨fo,wt,rfl,⟨_,_,rfl⟩,B1.re fun a q hd _=>.inl ?_,mp,lt,by rw[hfo'];lia⟩ (by rintro i Z S' ⟨_,_,e1,_⟩;exact by rw[e1];exact hrT _) ?_ ?_
 ·rcases hd with z|⟨k,x,hk,_⟩
  ·exact⟨z,True.intro⟩
  ·exact absurd hk (Nat.not_lt_zero _)
 ·clear B B1 lt mp np fl2 c0;rintro i d Z S' hd ⟨fo,wt',rfl,⟨w5,w6,rfl⟩,B,mp,lt,hm⟩;rw[qk]at hd;obtain⟨x,hx,ed⟩:=PN.mp hd;obtain⟨a,b,ha,hb,rfl⟩:=R.ky x (qd hx);have ed:d=.tup [.tup [Zf zs a,Zf zs b],.int (c a b)]:=ed.symm;subst ed;have fl2:=Er B lt
  have nx:∀ {fo2:List (Pt×Option Pt)} {wt2:List Pt},Bf c st fo2 wt2 (fun a b=>a≠p\/∃ (k:Nat) (x:List (List SK)×D),k<i/\Z8[k]?=some x/\x.1=[kp zs a,kp zs b])->(a=p->0<c a b->b∈fo2.map (·.1))->Bf c st fo2 wt2 (fun a b=>a≠p\/∃ (k:Nat) (x:List (List SK)×D),k<i+1/\Z8[k]?=some x/\x.1=[kp zs a,kp zs b]):=fun {fo2 wt2} B2 h2=>B2.re fun a' b' hd hc=>by
   rcases hd with z|⟨k,x,hk,hx',ex⟩
   ·exact .inl (.inl z)
   ·by_cases g:k<i
    ·exact .inl (.inr ⟨k,x,g,hx',ex⟩)
    ·have:k=i:=by lia
     subst this;rw[hx]at hx';cases hx';obtain⟨l1,l2⟩:=rng _ _ hc;obtain⟨rfl,rfl⟩:=sI nd ha hb l1 l2 ex;by_cases g2:a=p
     ·exact .inr (h2 g2 hc)
     ·exact .inl (.inl g2)
  walk_at"g";refine aX nd flz ha hp ?_;walk_at"g";have skip:(a=p->0<c a b->b∈fo.map (·.1))->_:=fun z=>nx B z
  refine ZC (fun g1=>?_) (fun g1=>?_)
  case refine_2 =>walk_at"g";exact⟨fo,wt',rfl,⟨_,_,rfl⟩,nx B fun z=>absurd z g1,mp,lt,hm⟩
  subst g1;walk_at"g";refine ZC (fun g2=>?_) (fun g2=>?_)
  case refine_2 =>walk_at"g";exact⟨fo,wt',rfl,⟨_,_,rfl⟩,nx B fun _ z=>absurd z g2,mp,lt,hm⟩
  walk_at"g";by_cases g3:b∈fo.map (·.1)
  ·obtain⟨⟨b',o⟩,hmem,eb⟩:=qE.mp g3;have eb:b'=b:=eb;subst eb;refine⟨_,Zr.t (ks:=kp zs b') zT ((T8 nd hb lt B.nd o).1 hmem),?_⟩;walk_at"g";rw[if_neg (by simp)];walk_at"g";exact⟨fo,wt',rfl,⟨_,_,rfl⟩,nx B fun _ _=>g3,mp,lt,hm⟩
  ·refine⟨_,Zr.t (ks:=kp zs b) zT ((T8 nd hb lt B.nd none).2 g3),?_⟩;walk_at"g";rw[if_pos (by rfl)];walk_at"g";have lfo:(fo.map (fk zs)).length<big:=by rw[qa];unfold big;lia
   have lwt:(wt'.map (Zf zs)).length<big:=by have:=Mz B.wn B.wf;rw[qa]at this;rw[qa];unfold big;lia
   refine Tc.t (ks:=kp zs b) zT lfo ?_;rw[Ð nd hb lt B.nd g3];refine Vy ?_;rw[Qm];walk_at"g";rw[s21];have B2:=B.add mp g3 g2;refine⟨fo++[(b,some a)],wt'++[b],by rw[qD (l₁:=wt')];rfl,⟨_,_,rfl⟩,nx B2 fun _ _=>?_,?_,?_,?_⟩
   ·rw[qD];exact qL _ (by simp)
   ·rw[qD];exact qT _ mp
   ·intro x hx';rw[qD]at hx';rcases qC.mp hx' with z|z
    ·exact lt x z
    ·have:x=b:=by simpa using z
     rw[this];exact hb
   ·have:=Er B2 (zs:=zs) (fun x hx'=>by
     rw[qD]at hx';rcases qC.mp hx' with z|z
     ·exact lt x z
     ·have:x=b:=by simpa using z
      rw[this];exact hb)
    rw[qg,qR]at this ⊢;rw[qg,qR];lia
 ·rintro Z S' ⟨fo,wt',rfl,⟨w5,w6,rfl⟩,B,mp,lt,hm⟩;rw[qa]at B;walk_at"g";refine⟨_,?_,fo,wt',rfl,⟨_,_,_,rfl⟩,B.re fun a q _ hc=>.inl ?_,lt,rfl⟩
  ·rw[<- hfo'];lia
  ·by_cases g:a=p
   ·right;subst g;obtain⟨l1,l2⟩:=rng _ _ hc;rcases R.get nd l1 l2 with⟨_,z⟩|z
    ·lia
    ·obtain⟨k,hk⟩:=PJ.mp (Af z);exact⟨k,_,zL hk,hk,rfl⟩
   ·exact .inl g
def Fj:ZV:=fun ds S Q=>∃ (r f e:Nat) (Z8:List (List (List SK)×D)) (zs:List Str) (W:Wb) (c:Pt->Pt->Int) (k:Int) (fo:List (Pt×Option Pt)),ds=[.ref r,.ref f,Zf zs (Yc W)]/\S[r]?=some (.dn Z8 e)/\S[f]?=some (.dt (fo.map (fk zs)))/\Zj zs Z8 c/\zs.Nodup/\zs.length<=12/\W.n=zs.length/\Zo W c k/\Bf c (src W) fo [] (fun _ _=>True)/\(∀ x∈fo.map (·.1),x.1<zs.length)/\Yc W∈fo.map (·.1) /\
 ∀ kvs' e' c',Zj zs kvs' c'->Zo W c' (k+1)->Q .non (S.set r (.dn kvs' e'))
abbrev m7:DS :=
    (zf (zq ZX Ym)
 (U8 (dT (Z6 Wx (Vt Z0 ZW) (dC .non))) (zf (zq (Vt Z0 ZW) Yt)
 (zf (SN Z4 (dTup (zc ZP Yz)) (Z6 Zm (Vt Z4 (dTup (zc ZP Yz))) ZL))
 (zf (SN Z4 (dTup (zc ZW WK)) (Z6 zW (M6 Z4 (dTup (zc ZW WK)) ZK) ZL))
 (zq ZP Ym))))))
def lQ:BodyOk 5 m7 Fj:=by
 rintro ds S Q ⟨r,f,e,Z8,zs,W,c,k,fo,rfl,hr,hf,R,nd,h12,hW,F,B,lt,mg,q⟩;unfold m7;have lr:=zL hr;have ne:r≠f:=fun e=>by subst e;rw[hr]at hf;cases hf
 have hr1:∀ x:Cell,(S.set r x)[r]?=some x:=fun x=>qW lr
 have hf1:∀ x:Cell,(S.set r x)[f]?=some (.dt (fo.map (fk zs))):=fun x=>by rw[qN ne];exact hf
 have s2:∀ x y:Cell,(S.set r x).set r y=S.set r y:=fun x y=>List.set_set ..
 have e0:S=S.set r (.dn Z8 e):=by
  refine List.ext_getElem? fun i=>?_
  by_cases h:i=r
  ·subst h;rw[hr1,hr]
  ·rw[qN (Ne.symm h)]
 obtain⟨⟨g,o⟩,hm,eg⟩:=qE.mp mg;obtain⟨i,hi⟩:=PJ.mp hm;have eg:g=Yc W:=eg;subst eg;walk_at"g";walk_at"h";refine RB (fun m Z S'=>∃ (kvs':List (List (List SK)×D)) (e':Nat) (c':Pt->Pt->Int) (p:Pt) (o:Option Pt),S'=S.set r (.dn kvs' e')/\(∃ w4,Z=[some (.ref r),some (.ref f),some (Zf zs (Yc W)),some (Zf zs p),w4])/\Zj zs kvs' c'/\O1 W c c' k fo m p o) i ⟨Z8,e,c,Yc W,o,e0,⟨_,rfl⟩,R,⟨F.start,hi,fun _ _ _ _=>rfl⟩⟩ ?_;rintro m Z S' ⟨kvs',e',c',p,o,rfl,⟨w4,rfl⟩,R',T⟩;have mp:p∈fo.map (·.1):=qE.mpr ⟨_,qd T.at',rfl⟩;have hp:=lt p mp;have hg:∀ x:Cell,Zr (S.set r x) (.ref f) (Zf zs p) (some (fk zs (p,o)).2):=fun x=>Zr.t (ks:=kp zs p) (hf1 x) ((T8 nd hp lt B.nd o).1 (qd T.at'))
 walk_at"g";refine⟨_,hg _,?_⟩;cases o with
 |none =>walk_at"g";have e1:=T.last B;subst e1;exact fin_same (q _ _ _ R' T.p.end)
 |some a =>
  obtain⟨j,o',l,na,ec,hc,T'⟩:=T.step B (fun x hx=>by rw[hW];exact lt x hx);have ha:a.1<zs.length:=lt a (qE.mpr ⟨_,qd T'.at',rfl⟩);walk_at"g";have hv:(fk zs (p,some a)).2=Zf zs a:=rfl;rw[hv]at hg ⊢;rw[show YL (Zf zs a)=false from rfl];walk_at"g";refine⟨_,hg _,?_⟩;walk_at"g";obtain⟨o1,g1,_,g2⟩:=R'.gets nd (hr1 (.dn kvs' e')) ha hp;have g2:=g2 (by rw[ec];lia);subst g2;refine⟨_,g1,?_⟩;walk_at"g";refine R'.puts (p:=a) (q:=p) nd h12 (hr1 _) ha hp fun kvs1 e1 R1=>?_
  refine Vy ?_;rw[s2];walk_at"g";refine⟨⟨r,rfl,.inr (.inr ⟨kvs1,e1,hr1 _⟩)⟩,?_⟩;walk_at"g";obtain⟨o2,g3,g4,_⟩:=R1.gets nd (hr1 (.dn kvs1 e1)) hp ha;refine⟨_,g3,?_⟩;rw[g4,show VL c' a p (c' a p-1) p a=c' p a from if_neg fun z=>na z.2];walk_at"g";refine R1.puts (p:=p) (q:=a) nd h12 (hr1 _) hp ha fun kvs2 e2 R2=>?_
  refine Vy ?_;rw[s2];rw[zxQ na]at R2;walk_at"g";exact⟨j,l,kvs2,e2,_,a,o',rfl,⟨_,rfl⟩,R2,T'⟩
def Hu:ZV:=fun ds S Q=>∃ (v:D) (V:Vl) (h:Int) (s t:Nat) (zs:List Str),ds=[v,.int h,.str (Z5 zs s),.str (Z5 zs t)]/\ZD S v V/\Zc V/\zs=V.bs.map (·.1)/\s<zs.length/\t<zs.length/\V.h0<=h/\h<=V.h1/\¬ Y9 V h (Z5 zs s) (Z5 zs t) /\
 ∀ (T:Z7) (n e:Nat) Z8 c k,Zj zs Z8 c->Zo (YQ V h s t) c k->(∀ fo,Bf c (s,true) fo [] (fun _ _=>True)->(t,false)∉fo.map (·.1))->(S++T)[n]?=some (.dn Z8 e)->S.length<=n->Q (.ref n) (S++T)
abbrev yL:DS :=
    (zf (zq (dCall Ez (zc Z4 (zc Z0 (zc ZX Yz)))) Yt)
 (zf (zq (dCall Lr (zc ZP (zc (dTup (zc ZX (zc ZL zm))) zm))) YG)
 (zf (U8 (dT (Oz (dTup (zc ZW (zc ZK zm))) Y8)) (zf (Zb (dCall Fj (zc ZP (zc Y8 (zc (dTup (zc ZW (zc ZK zm))) zm)))))
 (zq (dCall Lr (zc ZP (zc (dTup (zc ZX (zc ZL zm))) zm))) YG)))
 (zA ZP))))
def aU:BodyOk 6 yL Hu:=by
 rintro ds S Q ⟨v,V,h,s,t,zs,rfl,hv,ok,hzs,hs,ht,h0,h1,no,q⟩;unfold yL;have nd:zs.Nodup:=hzs▸ok.nd;have flz:∀ z∈zs,fl 20 (.str z)=true:=hzs▸ok.flN;have h12:zs.length<=12:=by rw[hzs,qa];exact ok.b12
 have okW:Yo (YQ V h s t):=tO (hzs▸hs) (hzs▸ht) (hzs▸no);have nW:(YQ V h s t).n=zs.length:=by rw[hzs];rfl
 walk_at"g";refine⟨v,V,h,s,t,zs,rfl,hv,ok,hzs,hs,ht,h0,h1,fun T n e Z8 R hn ln=>?_⟩;have F:=Zo.zero (W:=YQ V h s t);walk_at"g";refine⟨n,e,Z8,zs,_,(s,true),rfl,hn,R,nd,h12,flz,hs,fun p q z=>nW▸F.rng okW z,fun T2 f fo B lt hf lf=>?_⟩;rw[qj]at hf ⊢;have hn2:(S++(T++T2))[n]?=some (.dn Z8 e):=by rw[<- qj];exact zF hn
 generalize YF (YQ V h s t)=c at R F B;generalize T++T2=G at hf hn2;clear hn;walk_at"g";walk_at"h";refine RB (fun m Z S'=>∃ (G:Z7) (Z8:List (List (List SK)×D)) (e f:Nat) (c:Pt->Pt->Int) (k:Int) (fo:List (Pt×Option Pt)),S'=S++G/\Z=[some v,some (.int h),some (.str (Z5 zs s)),some (.str (Z5 zs t)),some (.ref n),some (.ref f)]/\(S++G)[n]?=some (.dn Z8 e)/\(S++G)[f]?=some (.dt (fo.map (fk zs)))/\Zj zs Z8 c/\Zo (YQ V h s t) c k/\Bf c (s,true) fo [] (fun _ _=>True)/\(∀ x∈fo.map (·.1),x.1<zs.length)/\m=((zs.length:Int)-k).toNat) _ ⟨G,Z8,e,f,c,0,fo,rfl,rfl,hn2,hf,R,F,B,lt,rfl⟩ ?_;clear F B R lt hf hn2;rintro m Z S' ⟨G,Z8,e,f,c,k,fo,rfl,rfl,hn,hf,R,F,B,lt,rfl⟩;have hp:(t,false).1<zs.length:=ht;walk_at"g";by_cases g:(t,false)∈fo.map (·.1)
 ·obtain⟨⟨p,o⟩,hm,ep⟩:=qE.mp g;have ep:p=(t,false):=ep;subst ep;refine⟨_,Zr.t (ks:=kp zs (t,false)) hf ((T8 nd hp lt B.nd o).1 hm),?_⟩;walk_at"g";rw[if_pos (by rfl)];walk_at"g";refine⟨n,f,e,Z8,zs,YQ V h s t,c,k,fo,rfl,hn,hf,R,nd,h12,nW,F,B,lt,g,fun kvs' e' c' R' F'=>?_⟩;rw[Qt _ _ ln]
  have hn':(S++G.set (n-S.length) (.dn kvs' e'))[n]?=some (.dn kvs' e'):=by rw[<- Qt _ _ ln];exact qW (zL hn)
  generalize G.set (n-S.length) (.dn kvs' e')=G' at hn';walk_at"g";refine⟨n,e',kvs',zs,c',(s,true),rfl,hn',R',nd,h12,flz,hs,fun p q z=>nW▸F'.rng okW z,fun T2 f' fo' B' lt' hf' lf'=>?_⟩;walk_at"g";have fw:=F'.few okW;have f0:=F.few okW;rw[nW]at fw;exact⟨_,by lia,G'++T2,kvs',e',f',c',k+1,fo',by rw[qj],rfl,by rw[<- qj];exact zF hn',by rw[<- qj];exact hf',R',F',B',lt',rfl⟩
 ·refine⟨_,Zr.t (ks:=kp zs (t,false)) hf ((T8 nd hp lt B.nd none).2 g),?_⟩;walk_at"g";rw[if_neg (by simp)];walk_at"g";exact fin_same (q G n e Z8 c k R F (fun fo2 B2=>fun z=>g ((B2.same B _).mp z)) hn ln)
def JV:ZV:=fun ds S Q=>∃ (v:D) (V:Vl) (zs:List Str) (r e:Nat) (Z8:List (List (List SK)×D)) (c:Pt->Pt->Int) (i:Nat),ds=[v,.ref r,.str (Z5 zs i)]/\ZD S v V/\Zc V/\zs=V.bs.map (·.1)/\i<zs.length/\S[r]?=some (.dn Z8 e)/\Zj zs Z8 c /\
 ∀ (T:Z7) (n:Nat),(S++T)[n]?=some (.lst (((stp zs c i).map (Z5 zs)).map D.str))->S.length<=n->Q (.ref n) (S++T)
abbrev oG:DS :=(zA (Zi 1 [2,1] (Zu (dCall Vp Zg)) YT (WY (dT (Z6 XS Z4 Z0)) (dT (Z6 Yk (M6 ZX (dTup (zc (dTup (zc Z4 (zc ZK zm))) (zc (dTup (zc Z0 (zc ZL zm))) zm))) ZK) ZK))) Z4))
def ż:BodyOk 3 oG JV:=by
 rintro ds S Q ⟨v,V,zs,r,e,Z8,c,i,rfl,hv,ok,hzs,hi,hr,R,q⟩;unfold oG;have nd:zs.Nodup:=hzs▸ok.nd;have flz:∀ z∈zs,fl 20 (.str z)=true:=hzs▸ok.flN;have h12:zs.length<=12:=by rw[hzs,qa];exact ok.b12
 have mz:∀ {i},i<zs.length->Z5 zs i∈zs:=fun hi=>qd (Ud hi)
 walk_at"g";refine⟨v,V,rfl,hv,by have:=ok.b12;lia,?_⟩;rw[<- hzs];have hr1:(S++[Cell.lst (zs.map D.str)])[r]?=some (.dn Z8 e):=zF hr;walk_at"g";refine Xx (Vi (Wi zs c i)) id Lst.at0 (by rw[qa];unfold big;lia) (fun k d ys hd hw=>?_) ?_
 ·obtain⟨z,hz,rfl⟩:=Ye hd;have hk:=zL hz;have ez:=Nr hz;subst ez;have eb:=Ai (c:=c) (i:=i) nd hk;walk_at"g";refine Tw (flz _ (mz hk)) (flz _ (mz hi)) ?_;walk_at"g";refine W8 (fun e=>?_) (fun e=>?_)
  ·walk_at"g";refine⟨⟨r,rfl,.inr (.inr ⟨Z8,_,hr1⟩)⟩,?_⟩;walk_at"g";have hk1:((k,false):Pt).1<zs.length:=hk;have hi1:((i,true):Pt).1<zs.length:=hi;obtain⟨o,g,g1,_⟩:=R.gets nd hr1 hk1 hi1;refine⟨_,g,?_⟩;rw[g1];have ea:arc c i k=c (k,false) (i,true):=by unfold arc;rw[if_neg (fun z=>e (by rw[z]))]
   walk_at"g";refine ZC (fun g=>?_) (fun g=>?_)
   ·walk_at"g";exact Xw hd hw (by rw[show Vi (Wi zs c i) (.str (Z5 zs k))=Wi zs c i (Z5 zs k)from rfl,eb,ea];exact decide_eq_true g) rfl
   ·walk_at"g";exact RN hd hw (by rw[show Vi (Wi zs c i) (.str (Z5 zs k))=Wi zs c i (Z5 zs k)from rfl,eb,ea];exact decide_eq_false g)
  ·walk_at"g";have:k=i:=V4 nd hk hi e;subst this;exact RN hd hw (by rw[show Vi (Wi zs c k) (.str (Z5 zs k))=Wi zs c k (Z5 zs k)from rfl,eb];unfold arc;rw[if_pos rfl];rfl)
 rw[List.map_id,Og,show(Vi (Wi zs c i) ∘ D.str)=Wi zs c i from rfl,Φ nd];exact GD (fin_same (q _ _ ((zM _ _ 1).trans rfl) (by lia)))
def Hv:ZV:=fun ds S Q=>∃ (v:D) (V:Vl) (h:Int) (s t:Nat) (zs:List Str) (r e:Nat) (Z8:List (List (List SK)×D)) (c:Pt->Pt->Int) (k:Int),ds=[v,.ref r,.str (Z5 zs s),.str (Z5 zs t)]/\ZD S v V/\Zc V/\zs=V.bs.map (·.1)/\s<zs.length/\t<zs.length/\Yo (YQ V h s t)/\S[r]?=some (.dn Z8 e)/\Zj zs Z8 c/\Zo (YQ V h s t) c k /\
 ∀ (T:Z7) (rs:List (List Nat)) (js:List Nat),c7 (YQ V h s t) zs c rs->js.length=rs.length->js.Nodup->(∀ (i:Nat) j us,js[i]?=some j->rs[i]?=some us->T[j]?=some (.lst ((us.map (Z5 zs)).map D.str)))->Q (.ref S.length) (S++.lst (js.map fun j=>.ref (S.length+(j+1)))::T)
abbrev o8:DS :=
    (zf (zq (Zk zm) Yt)
 (zf (Y0 (Zu (dCall JV (zc Z4 (zc Z0 YD)))) YG (zf (zq (Zk YD) Wn)
 (zf (zq Y8 U0)
 (zf (U8 (dT (Z6 XS Xc ZW)) (zf (Zb (dM V1 YS IV))
 (zq (Z6 ZQ (dCall JV (zc Z4 (zc Z0 IV))) ZK) U0)))
 (Zb (dM V1 ZP (zc (Z6 zW YS (Zk Yz)) zm)))))))
 (zA ZP)))
def je:BodyOk 8 o8 Hv:=by
  rintro ds S Q ⟨v,V,h,s,t,zs,r,e,Z8,c,k,rfl,hv,ok,hzs,hs,ht,okW,hr,R,F,q⟩;unfold o8;have nd:zs.Nodup:=hzs▸ok.nd;have flz:∀ z∈zs,fl 20 (.str z)=true:=hzs▸ok.flN;have h12:zs.length<=12:=by rw[hzs,qa];exact ok.b12
  have nW:(YQ V h s t).n=zs.length:=by rw[hzs];rfl
  have mz:∀ {i},i<zs.length->Z5 zs i∈zs:=fun hi=>qd (Ud hi)
  have hst:s≠t:=okW.st;have hrT:∀ T,(S++T)[r]?=some (.dn Z8 e):=fun T=>zF hr
  have mst:∀ {i j},j∈stp zs c i↔j<zs.length/\0<arc c i j:=fun {i j}=>by unfold stp;rw[Xf,Ng,decide_eq_true_eq]
  have lst:∀ i,(stp zs c i).length<=12:=fun i=>by have:=Ob (fun j=>decide (0<arc c i j)) (List.range zs.length);rw[N8]at this;unfold stp;lia
  walk_at"g";refine⟨v,V,zs,r,e,Z8,c,s,rfl,hv.old,ok,hzs,hs,hrT _,R,fun T n hn ln=>?_⟩;obtain⟨m,rfl⟩:∃ m,n=S.length+(m+1):=⟨n-S.length-1,by simp at ln;lia⟩
  rw[qj,zM]at hn;have hT:T[m]?=some (.lst (((stp zs c s).map (Z5 zs)).map D.str)):=hn;have kT:∀ (x:Cell) (G:Z7),Lst (S++x::(T++G)) (.ref (S.length+(m+1))) (((stp zs c s).map (Z5 zs)).map D.str):=fun x G=>Lst.here (by rw[zM];exact zF hT)
  rw[qj];walk_at"h";have kT0:=kT (.lst []) [];rw[qS]at kT0;walk_at"g"
  refine Yq (fun i Z S'=>∃ (rs:List (List Nat)) (js:List Nat) (G:Z7) (w5 w6 w7:Option D),S'=S++.lst (js.map fun j=>.ref (S.length+(j+1)))::(T++G)/\Z=[some v,some (.ref r),some (.str (Z5 zs s)),some (.str (Z5 zs t)),some (.ref S.length),w5,w6,w7]/\rs.length=i/\js.length=i/\js.Nodup /\
    (∀ (a:Nat) j us,js[a]?=some j->rs[a]?=some us->(T++G)[j]?=some (.lst ((us.map (Z5 zs)).map D.str)))/\(∀ (a:Nat) us,rs[a]?=some us->WX (YQ V h s t) c us/\us[us.length-1]?=some t/\us[1]?=(stp zs c s)[a]?/\2<=us.length)) ⟨[],[],[],_,_,_,by simp,rfl,rfl,rfl,by simp,fun a j us h=>by simp at h,fun a us h=>by simp at h⟩ (by rintro i Z S' ⟨rs,js,G,_,_,_,e1,_⟩;exact e1▸kT _ G) ?_ ?_
  . rintro i d Z S' hd ⟨rs,js,G,w5,w6,w7,rfl,rfl,l1,l2,jn,hj,hrd⟩;obtain⟨z,hz,rfl⟩:=Ye hd;rw[qk]at hz;obtain⟨b,hb,rfl⟩:=PN.mp hz;obtain⟨lb,pb⟩:=mst.mp (qd hb);have li:=zL hb;have l12:=lst s
    have hjl:∀ j∈js,j<(T++G).length:=fun j hj'=>by obtain⟨a,ha⟩:=PJ.mp hj';have la:=zL ha;exact zL (hj a j _ ha (qb (by lia)))
    obtain⟨H,hH⟩:∃ H:Z7,H=T++G:=⟨_,rfl⟩
    rw[<- hH]at hj hjl ⊢;obtain⟨S2,hS2⟩:∃ S2:Z7,S2=S++.lst (js.map fun j=>.ref (S.length+(j+1)))::H:=⟨_,rfl⟩
    have hv2:ZD S2 v V:=hS2▸hv.old;have hr2:S2[r]?=some (.dn Z8 e):=hS2▸hrT _;rw[<- hS2];walk_at"g";refine RB (fun m Z S'=>∃ (us:List Nat) (x:Nat) (G2:Z7),S'=S2++.lst ((us.map (Z5 zs)).map D.str)::G2/\Z=[some v,some (.ref r),some (.str (Z5 zs s)),some (.str (Z5 zs t)),some (.ref S.length),some (.str (Z5 zs b)),some (.ref S2.length),some (.str (Z5 zs x))]/\0<us.length/\WX (YQ V h s t) c (us++[x])/\(us++[x])[1]?=some b/\m=zs.length-us.length) _ ⟨[s],b,[],rfl,rfl,by simp,⟨rfl,fun i a b' ha hb'=>?_,fun i a ha hi=>?_⟩,rfl,rfl⟩ ?_
    . cases i with
      |zero =>
        have e1:s=a:=by simpa using ha
        have e2:b=b':=by simpa using hb'
        rw[<- e1,<- e2];exact pb
      |succ i=>cases i<;>simp at hb'
    . cases i with
      |zero =>
        have e1:s=a:=by simpa using ha
        rw[<- e1];exact hst
      |succ i =>have:i+1+1<2:=hi;lia
    rintro m' Z S' ⟨us,x,G2,rfl,rfl,pos,A,hb1,rfl⟩;have hx:x<zs.length:=nW▸A.lt okW F x (by simp)
    have lu:us.length+1<=zs.length:=by
      have:=Mz (N:=List.range zs.length) (A.nodup okW F) fun y hy=>List.mem_range.mpr (nW▸A.lt okW F y hy)
      rw[qg,qR,N8]at this;exact this
    walk_at"g";refine Tw (flz _ (mz hx)) (flz _ (mz ht)) ?_;walk_at"g";refine W8 (fun g=>?_) (fun g=>?_)
    . have nx:x≠t:=fun z=>g (by rw[z])
      have hv3:∀ y:Cell,ZD (S2++y::G2) v V:=fun y=>hv2.old
      have hr3:∀ y:Cell,(S2++y::G2)[r]?=some (.dn Z8 e):=fun y=>zF hr2
      have lus:((us.map (Z5 zs)).map D.str).length<big:=by rw[qa,qa];unfold big;lia
      walk_at"g";refine⟨v,V,zs,r,e,Z8,c,x,rfl,hv3 _,ok,hzs,hx,hr3 _,R,fun T2 n2 hn2 ln2=>?_⟩;have k2:=Lst.here hn2;obtain⟨p,hp⟩:∃ p,us[us.length-1]?=some p:=⟨_,qb (by lia)⟩
      have hp1:(us++[x])[us.length-1]?=some p:=by rw[qf (by lia)];exact hp
      have hx1:(us++[x])[us.length-1+1]?=some x:=by rw[show us.length-1+1=us.length by lia,qe (qh _),Yj];rfl
      obtain⟨d,hd1,hd2⟩:=zn0 okW F nx (A.ch _ p x hp1 hx1)
      obtain⟨y,hy⟩:∃ y,(stp zs c x)[0]?=some y:=by have:d∈stp zs c x:=mst.mpr ⟨nW▸hd1,hd2⟩;have:=qbv this;exact⟨_,qb this⟩
      obtain⟨_,py⟩:=mst.mp (qd hy);have ly:0<(stp zs c x).length:=zL hy
      have hat:Zh (((stp zs c x).map (Z5 zs)).map D.str) 0=some (.str (Z5 zs y)):=by unfold Zh Xz;rw[if_pos (by decide),if_pos (by rw[qa,qa];lia)];show(((stp zs c x).map (Z5 zs)).map D.str)[0]?=_;rw[qk,qk,hy];rfl
      walk_at"g"
      have lx:(us++[x])[(us++[x]).length-1]?=some x:=by rw[qg,qR,Nat.add_sub_cancel,qe (qh _),Yj];rfl
      refine⟨_,?_,us++[x],y,G2++T2,?_,rfl,by simp,A.snoc lx nx py,?_,rfl⟩
      . rw[qg,qR];lia
      . simp
      . rw[qf (by simp;lia)];exact hb1
    . have gx:x=t:=V4 nd hx ht g;subst gx;have lus:((us.map (Z5 zs)).map D.str).length+[D.str (Z5 zs x)].length<=big:=by rw[qa,qa];unfold big;simp;lia
      have k1:Lst (S2++(.lst ((us.map (Z5 zs)).map D.str)::G2++[.lst [.str (Z5 zs x)]])) (.ref S2.length) ((us.map (Z5 zs)).map D.str):=Lst.at0;have hroads:∀ G,(S2++G)[S.length]?=some (.lst (js.map fun j=>.ref (S.length+(j+1)))):=fun G=>by rw[hS2,qj];exact zT
      walk_at"g";refine⟨⟨_,_,rfl,hroads _⟩,?_⟩;walk_at"g";refine Cy k1 Lst.new lus ?_;walk_at"g";refine Je (hroads _) (by rw[qa];unfold big;lia) (Vy ?_);obtain⟨X,hX⟩:∃ X:Z7,X=Cell.lst ((us.map (Z5 zs)).map D.str)::G2++[.lst [.str (Z5 zs x)]]:=⟨_,rfl⟩
      rw[<- hX];have e1:S2.length+X.length=S.length+(H.length+X.length+1):=by rw[hS2,qg,qY];lia
      have e2:∀ c':Cell,(S2++(X++[c'])).set S.length (.lst ((js.map fun j=>D.ref (S.length+(j+1)))++[.ref (S2.length+X.length)]))=S++.lst ((js++[H.length+X.length]).map fun j=>.ref (S.length+(j+1)))::(T++(G++(X++[c']))):=fun c'=>by rw[e1,hS2,qj,Kw,Qm,hH,qD,qj];rfl
      rw[e2];walk_at"g";refine⟨rs++[us++[x]],js++[H.length+X.length],G++(X++[.lst ((us.map (Z5 zs)).map D.str++[.str (Z5 zs x)])]),_,_,_,rfl,rfl,by rw[qg,l1];rfl,by rw[qg,l2];rfl,?_,fun a j vs ha hv'=>?_,fun a vs hv'=>?_⟩
      . rw[VJ];refine⟨jn,by simp,fun a ha b' hb' e=>?_⟩;have:=hjl a ha;have:b'=H.length+X.length:=by simpa using hb'
        lia
      . rw[<- qj,<- hH];by_cases ga:a<i
        . rw[qf (by lia)]at ha hv';exact zF (hj a j vs ha hv')
        . have la:=zL ha;rw[qg,qR]at la;have:a=i:=by lia
          subst this;rw[qe (by lia),l2,Yj]at ha;rw[qe (by lia),l1,Yj]at hv';have ea:H.length+X.length=j:=by simpa using ha
          have ev:us++[x]=vs:=by simpa using hv'
          rw[<- ea,<- ev,qe (by lia),Im,qe (qh _),Yj,qD,qD];rfl
      . by_cases ga:a<i
        . rw[qf (by lia)]at hv';exact hrd a vs hv'
        . have la:=zL hv';rw[qg,qR]at la;have:a=i:=by lia
          subst this;rw[qe (by lia),l1,Yj]at hv';have ev:us++[x]=vs:=by simpa using hv'
          rw[<- ev];refine⟨A,?_,by rw[hb1,hb],by rw[qg,qR];lia⟩;rw[qg,qR,Nat.add_sub_cancel,qe (qh _),Yj];rfl
  . rintro Z S' ⟨rs,js,G,w5,w6,w7,rfl,rfl,l1,l2,jn,hj,hrd⟩;rw[qa,qa]at l1 l2;walk_at"g";exact fin_same (q (T++G) rs js ⟨l1,hrd⟩ (by lia) jn hj)
def Fw:Y6:=fun ds S Q ex=>∃ (v:D) (V:Vl) (h:Int) (a b:Str),ds=[v,.int h,.str a,.str b]/\ZD S v V/\Zc V/\fl 20 (.str a)=true/\fl 20 (.str b)=true/\Vw V h a b (fun c=>ex c S) (∀ (T:Z7) d,Q d (S++T))
abbrev nA (ex : XR) : DS :=
    (zf (Zb (zV Qk ex (zc Z4 (zc Z0 (zc ZX Yz)))))
 (zf (zq (dCall Hu (zc Z4 (zc Z0 (zc ZX Yz)))) Yt)
 (zf (zq (dCall Lr (zc ZP (zc (dTup (zc ZX (zc ZL zm))) zm))) YG)
 (zf (zq (Zi 1 [5] (Zu (dCall Vp Zg)) YT (WY (dT (Oz (dTup (zc Z4 (zc ZK zm))) Z0)) (dT (SJ (dTup (zc Z4 (zc ZL zm))) Z0))) Z4) Wn)
 (zA (dTup (zc (dCall Hv (zc Z4 (zc ZP (zc ZX Yz)))) Om)))))))
def aC:XQ 7 nA Fw:=by
 rintro ds S Q ex ⟨v,V,h,a,b,rfl,hv,ok,fa,fb,hX⟩;unfold nA;walk_at"g";refine⟨v,V,h,a,b,rfl,hv,ok,fa,fb,hX.imp fun ma mb h0 h1 no q=>?_⟩;obtain⟨zs,hzs⟩:∃ zs,zs=V.bs.map (·.1):=⟨_,rfl⟩
 obtain⟨s,hs,rfl⟩:=vJ hzs ma;obtain⟨t,ht,rfl⟩:=vJ hzs mb;have nd:zs.Nodup:=hzs▸ok.nd;have flz:∀ z∈zs,fl 20 (.str z)=true:=hzs▸ok.flN;have h12:zs.length<=12:=by rw[hzs,qa];exact ok.b12
 have okW:Yo (YQ V h s t):=tO (hzs▸hs) (hzs▸ht) (hzs▸no);have nW:(YQ V h s t).n=zs.length:=by rw[hzs];rfl
 have mz:∀ {i},i<zs.length->Z5 zs i∈zs:=fun hi=>qd (Ud hi)
 walk_at"g";refine⟨v,V,h,s,t,zs,rfl,hv,ok,hzs,hs,ht,h0,h1,no,fun T r e Z8 c k R F nr hr lr=>?_⟩;walk_at"g";refine⟨r,e,Z8,zs,c,(s,true),rfl,hr,R,nd,h12,flz,hs,fun p q z=>nW▸F.rng okW z,fun T2 f fo B lt hf lf=>?_⟩;have hr2:(S++T++T2)[r]?=some (.dn Z8 e):=zF hr;have hv2:ZD (S++T++T2) v V:=hv.old.old;rw[qj]at hf hr2 hv2 ⊢;generalize T++T2=G at hf hr2 hv2;walk_at"g";refine⟨v,V,rfl,hv2,by have:=ok.b12;lia,?_⟩;rw[<- hzs];have hf3:(S++(G++[Cell.lst (zs.map D.str)]))[f]?=some (.dt (fo.map (fk zs))):=by rw[<- qj];exact zF hf
 walk_at"g";refine Xx (Vi (Rz zs fo)) id (by walk_at"l") (by rw[qa];unfold big;lia) (fun i d ys hd hw=>?_) ?_
 ·obtain⟨z,hz,rfl⟩:=Ye hd;have hk:=zL hz;have ez:=Nr hz;subst ez;have eb:=mX (fo:=fo) nd hk
  have dg:∀ b:Bool,∃ o,Zr (S++(G++[Cell.lst (zs.map D.str)])) (.ref f) (Zf zs (i,b)) o/\o.isSome=decide ((i,b)∈fo.map (·.1)):=fun b=>by
   have hp:((i,b):Pt).1<zs.length:=hk;refine⟨_,Zr.t (ks:=kp zs (i,b)) hf3 rfl,?_⟩;by_cases g:(i,b)∈fo.map (·.1)
   ·obtain⟨⟨p,o⟩,hm,ep⟩:=qE.mp g;have ep:p=(i,b):=ep;subst ep;rw[(T8 nd hp lt B.nd o).1 hm,decide_eq_true g];rfl
   ·rw[(T8 nd hp lt B.nd none).2 g,decide_eq_false g];rfl
  obtain⟨o1,d1,e1⟩:=dg false;obtain⟨o2,d2,e2⟩:=dg true;walk_at"g";refine⟨o1,d1,?_⟩;rw[e1];have ek:Vi (Rz zs fo) (.str (Z5 zs i))=(decide ((i,false)∈fo.map (·.1))&&!decide ((i,true)∈fo.map (·.1))):=eb;walk_at"g";refine ZC (fun g1=>?_) (fun g1=>?_)
  ·walk_at"g";refine⟨o2,d2,?_⟩;rw[e2];walk_at"g";refine W8 (fun g2=>?_) (fun g2=>?_)
   ·walk_at"g";exact Xw hd hw (by rw[ek,decide_eq_true g1,decide_eq_false g2];rfl) rfl
   ·walk_at"g";exact RN hd hw (by rw[ek,decide_eq_true g1,decide_eq_true g2];rfl)
  ·walk_at"g";exact RN hd hw (by rw[ek,decide_eq_false g1];rfl)
 rw[List.map_id,Og,show(Vi (Rz zs fo) ∘ D.str)=Rz zs fo from rfl,Ţ nd];obtain⟨ks,hks⟩:∃ ks,ks=(List.range zs.length).filter (Kc fun p=>decide (p∈fo.map (·.1))):=⟨_,rfl⟩
 rw[<- hks];refine Xh ?_;obtain⟨S3,hS3⟩:∃ S3:Z7,S3=S++(G++[Cell.lst (zs.map D.str)]):=⟨_,rfl⟩
 have e3:S++(G++[Cell.lst (zs.map D.str)]++[Cell.lst ((ks.map (Z5 zs)).map D.str)])=S3++[Cell.lst ((ks.map (Z5 zs)).map D.str)]:=by rw[hS3];simp
 have l3:S.length+(G++[Cell.lst (zs.map D.str)]).length=S3.length:=by rw[hS3,<- qg]
 have ls3:S.length<=S3.length:=by lia
 have hv3:ZD (S3++[Cell.lst ((ks.map (Z5 zs)).map D.str)]) v V:=by rw[hS3,<- qj];exact hv2.old.old
 have hr3:(S3++[Cell.lst ((ks.map (Z5 zs)).map D.str)])[r]?=some (.dn Z8 e):=by rw[hS3,<- qj];exact zF (zF hr2)
 have e4:∃ T,S3=S++T:=⟨_,hS3⟩
 rw[e3,l3];clear e3 l3 hf hf3 hr2 hv2 hS3;walk_at"g";refine⟨v,V,h,s,t,zs,r,e,Z8,c,k,rfl,hv3,ok,hzs,hs,ht,okW,hr3,R,F,fun T3 rs js hrs ljs ndj hat=>?_⟩;walk_at"g";obtain⟨T4,rfl⟩:=e4;obtain⟨S5,hS5⟩:∃ S5:Z7,S5=S++T4++[Cell.lst ((ks.map (Z5 zs)).map D.str)]:=⟨_,rfl⟩
 have hk5:S5[(S++T4).length]?=some (.lst ((ks.map (Z5 zs)).map D.str)):=hS5▸zT;have l5:S5.length=(S++T4).length+1:=by rw[hS5,qg];rfl
 have gen:∀ c':Cell,S5++c'::T3=S++(T4++[Cell.lst ((ks.map (Z5 zs)).map D.str)]++c'::T3):=fun c'=>by rw[hS5];simp
 obtain⟨X,hX⟩:∃ X:Z7,S5++Cell.lst (js.map fun j=>D.ref (S5.length+(j+1)))::T3=S++X:=⟨_,gen _⟩
 rw[<- hS5];rw[hX];exact fin_same (q _ _)
def BK:Y6:=fun ds S Q ex=>∃ (v:D) (V:Vl) (h:Int) (a b:Str) (x:D) (us:List Str),ds=[v,.int h,.str a,.str b,x]/\ZD S v V/\Zc V/\fl 20 (.str a)=true/\fl 20 (.str b)=true/\Lst S x (us.map D.str)/\us.length<=100/\(∀ u∈us,fl 20 (.str u)=true)/\Vw V h a b (fun c=>ex c S) (∀ (T:Z7) (r:Bool),(r=true↔yW V h a b us)->Q (.bl r) (S++T))
abbrev pR (ex : XR) : DS :=
    (zf (Zb (zV Qk ex (zc Z4 (zc Z0 (zc ZX Yz)))))
 (zf (zq (dCall Vp Zg) YG)
 (zf (ZR (Xp (dT (Z6 oEq (dB Za WK) ZK)) (Xp (dT (Z6 XS zw8 ZX)) (dT (Z6 XS (Z6 ZQ ZP (Wq Wa ZL)) ZW)))) (zA (dC (.bl false))) zB)
 (zf (ZR (Xp (dT (Z6 oLt (dB Mf WK) (dB Za WK))) (W9 (dT (dB Wz (zc (Zi 1 [5] (Zu ZP) YT Yn (Z6 Uk Z4 Z0)) zm))))) (zA (dC (.bl false))) zB)
 (zA (dB Wz (zc (Zi 1 [0,4,1] (M4 (zc ZL (zc (dB Za WK) zm))) YT Yn (Z6 Rx (zV Qu xF (zc Z0 (zc (Z6 ZQ ZX (Z6 Zm Z4 ZL)) (zc (Z6 ZQ ZX Z4) Yz)))) (dC .non))) zm)))))))
def zhT:XQ 6 pR BK:=by
  rintro ds S Q ex ⟨v,V,h,a,b,x,us,rfl,hv,ok,fa,fb,hx,lx,fu,hX⟩;unfold pR;have b12:=ok.b12;have flz:=ok.flN;walk_at"g";refine⟨v,V,h,a,b,rfl,hv,ok,fa,fb,hX.imp fun ma mb h0 h1 no q=>?_⟩;have bad:∀ T,¬ yW V h a b us->Q (.bl false) (S++T):=fun T n=>q T false ⟨fun z=>absurd z (by decide),fun z=>absurd z n⟩
  walk_at"g";refine⟨v,V,rfl,hv,by lia,?_⟩
  have hmem:∀ z∈V.bs.map (·.1),∃ s,(z,s)∈V.bs:=fun z hz=>by obtain⟨b,hb,rfl⟩:=qE.mp hz;exact⟨b.2,hb⟩
  obtain⟨zs,hzs⟩:∃ zs,zs=V.bs.map (·.1):=⟨_,rfl⟩
  rw[<- hzs]at hmem flz ma mb ⊢;have kx:Lst (S++[Cell.lst (zs.map D.str)]) x (us.map D.str):=hx.old;have kz:Lst (S++[Cell.lst (zs.map D.str)]) (.ref S.length) (zs.map D.str):=Lst.at0;walk_at"g";rw[qa];cases us with
  |nil =>walk_at"g";exact fin_same (bad _ fun z=>by have:=z.1;simp at this)
  |cons u0 us' =>
    obtain⟨us,hus⟩:∃ us,us=u0::us':=⟨_,rfl⟩
    have g0:us[0]?=some u0:=by rw[hus];rfl
    have lp:0<us.length:=by rw[hus];simp
    rw[<- hus]at kx fu lx bad q ⊢;refine ZC (fun e=>absurd e (by lia)) (fun _=>?_);have a0:Zh (us.map D.str) 0=some (.str u0):=RQ (i:=0) (by rw[qk,g0];rfl);walk_at"g";refine Tw (fu u0 (qd g0)) (flz a ma) ?_;walk_at"g";refine W8 (fun e=>?_) (fun e=>?_)
    . walk_at"g";exact fin_same (bad _ fun z=>by have:=z.1;rw[g0]at this;exact e (qH this))
    subst e;obtain⟨ul,gl⟩:∃ ul,us[us.length-1]?=some ul:=⟨_,qb (by lia)⟩
    have al:Zh (us.map D.str) (-1)=some (.str ul):=vp (by rw[qk,qa,gl];rfl);walk_at"g";refine Tw (fu ul (qd gl)) (flz b mb) ?_;walk_at"g";refine W8 (fun e=>?_) (fun e=>?_)
    . walk_at"g";exact fin_same (bad _ fun z=>by have:=z.2.1;rw[gl]at this;exact e (qH this))
    subst e;walk_at"g";refine sY kx (by lia) ?_;walk_at"g";rw[qa];refine ZC (fun e=>?_) (fun e=>?_)
    . walk_at"g";exact fin_same (bad _ fun z=>uQ.mp (by lia) z.2.2.1)
    have und:us.Nodup:=Classical.byContradiction fun n=>e (by have:=uQ.mpr n;lia)
    walk_at"g";refine Xx (fun _=>true) (JX fun z=>.bl (decide (z∈zs))) kx (by rw[qa];unfold big;lia) (fun i d ys hd hw=>?_) ?_
    . obtain⟨z,hz,rfl⟩:=Ye hd;walk_at"g";refine Kd (.inr kz) (fu z (qd hz)) flz ?_;exact Xw hd hw rfl rfl
    rw[filter_true,GX,show(us.map fun z=>D.bl (decide (z∈zs)))=(us.map fun z=>decide (z∈zs)).map D.bl by rw[Xq];rfl];walk_at"g";refine La (Lst.at (k:=1) rfl) ?_;walk_at"g";cases hg:(us.map fun z=>decide (z∈zs)).all id with
    |false =>
      walk_at"g";refine fin_same (bad _ fun z=>?_)
      have:(us.map fun z=>decide (z∈zs)).all id=true:=by rw[TJ,W6];intro w hw;exact decide_eq_true (hzs▸z.2.2.2.1 w hw)
      rw[hg]at this;cases this
    |true =>
      have hall:∀ u∈us,u∈zs:=fun u hu=>by rw[TJ,W6]at hg;exact of_decide_eq_true (hg u hu)
      have kx2:Lst (S++[Cell.lst (zs.map D.str),.lst ((us.map fun z=>decide (z∈zs)).map D.bl)]) x (us.map D.str):=by rw[hus];exact hx.old
      generalize ([Cell.lst (zs.map D.str),.lst ((us.map fun z=>decide (z∈zs)).map D.bl)]:Z7)=T1 at kx2;walk_at"g";rw[qa];refine⟨_,_,rfl,?_⟩;refine Oe (fun i ys S'=>S'=S++T1/\∃ bs:List Bool,ys=bs.map D.bl/\(bs.all id=true↔∀ (k:Nat) x y,k<i->us[k]?=some x->us[k+1]?=some y->Y9 V h x y)) ⟨rfl,[],rfl,⟨fun _ k x y hk=>by lia,fun _=>rfl⟩⟩ (fun _ _ _ _=>True.intro) (by rw[JQ];unfold big;lia) ?_ ?_
      . rintro i d ys S' hd ⟨rfl,bs,rfl,hbs⟩;obtain⟨hi,rfl⟩:=LQ hd;have hi':i+1<us.length:=by lia
        have g1:us[i]?=some (us[i]'(by lia)):=qb (by lia);have g2:us[i+1]?=some (us[i+1]'hi'):=qb hi';generalize us[i]'(by lia)=w1 at g1;generalize us[i+1]'hi'=w2 at g2
        have aa1:Zh (us.map D.str) (1+(i:Int)-1)=some (.str w1):=by rw[show(1:Int)+(i:Int)-1=((i:Nat):Int) by lia];exact RQ (by rw[qk,g1];rfl)
        have aa2:Zh (us.map D.str) (1+(i:Int))=some (.str w2):=by rw[show(1:Int)+(i:Int)=((i+1:Nat):Int) by lia];exact RQ (by rw[qk,g2];rfl)
        have mw1:=qd g1;have mw2:=qd g2;obtain⟨s1,hs1⟩:=hmem w1 (hall w1 mw1);obtain⟨s2,hs2⟩:=hmem w2 (hall w2 mw2);walk_at"g";refine⟨v,V,w1,w2,h,rfl,hv.old,ok,fu w1 mw1,fu w2 mw2,fun n=>?_,fun s t hs ht=>⟨fun n=>absurd ⟨h0,h1⟩ n,fun _ _ e he=>?_⟩⟩
        . rcases n with n|n
          . exact n _ hs1 rfl
          . exact n _ hs2 rfl
        have en:YL e=true↔Y9 V h w1 w2:=by
          have e1:YL e=true↔e=.non:=by cases e<;>simp[YL]
          rw[e1,he.non];constructor
          . intro w;exact⟨s,t,hs,ht,w⟩
          . rintro⟨s',t',hs',ht',w⟩;have es:s'=s:=congrArg Prod.snd (Vx ok hs' hs rfl);have et:t'=t:=congrArg Prod.snd (Vx ok ht' ht rfl);subst es et;exact w
        walk_at"g";refine⟨rfl,bs++[YL e],by rw[qD];rfl,?_⟩;rw[List.all_append,qr,hbs];show(_/\(YL e&&true)=true)↔_;rw[Bool.and_true,en];constructor
        . rintro⟨w,w'⟩ k x y hk gx gy;rcases qV k i with g|g
          . exact w k x y g gx gy
          . have:k=i:=by lia
            subst this;rw[g1]at gx;rw[g2]at gy;cases gx;cases gy;exact w'
        . intro w;exact⟨fun k x y hk=>w k x y (by lia),w i w1 w2 (by lia) g1 g2⟩
      rintro ys S' ⟨rfl,bs,rfl,hbs⟩;rw[JQ]at hbs;refine Xh ?_;walk_at"g";refine La Lst.new ?_;refine fin_same (q _ _ ?_);rw[hbs];constructor
      . intro w;exact⟨g0,gl,und,fun u hu=>hzs▸hall u hu,fun k x y gx gy=>w k x y (by have:=zL gy;lia) gx gy⟩
      . intro w k x y _ gx gy;exact w.2.2.2.2 k x y gx gy
def Ko:ZV:=fun ds S Q=>∃ (v:D) (V:Vl) (h:Int) (n:Str) (y:D) (bar:List Str),ds=[v,.int h,.str n,y]/\ZD S v V/\Zc V/\n∈V.bs.map (·.1)/\Lst S y (bar.map D.str)/\(∀ z∈bar,fl 20 (.str z)=true)/\V.h0<=h/\h<=V.h1/\∀ (T:Z7) (k:Nat) (zs:List Str),cB V h bar n zs->(S++T)[k]?=some (.lst (zs.map D.str))->S.length<=k->Q (.ref k) (S++T)
abbrev yp:DS :=
    (zf (zq (Zk YD) Yt)
 (zf (zq ZK YG)
 (zf (U8 (dT (Z6 oLt Y8 (dB Za WK))) (zf (Y0 (Zu (dCall Vp Zg)) Wn (ZR (WY (dT (Z6 RL YS ZP)) (WY (dT (Z6 RL YS ZW)) (dT (Z6 Rx (zV Qu xF (zc Z4 (zc (Z6 ZQ ZP Y8) (zc YS Yu)))) (dC .non))))) (Zb (dM V1 ZP Om)) zB))
 (Nh 5 ZL)))
 (zA (Zi 1 [4] (Zu (dCall Vp Zg)) YT (dT (Z6 Uk Z4 Z0)) Z4)))))
def Ε:BodyOk 7 yp Ko:=by
  rintro ds S Q ⟨v,V,h,n,y,bar,rfl,hv,ok,hn,hy,hbar,h0,h1,q⟩;unfold yp;have b12:=ok.b12;obtain⟨zs,hzs⟩:∃ zs:List Str,zs=V.bs.map (·.1):=⟨_,rfl⟩
  have flz:∀ z∈zs,fl 20 (.str z)=true:=hzs▸ok.flN;have zl:zs.length<=12:=by rw[hzs,qa];exact b12
  have hmem:∀ z∈zs,∃ s,(z,s)∈V.bs:=fun z hz=>by rw[hzs]at hz;obtain⟨b,hb,rfl⟩:=qE.mp hz;exact⟨b.2,hb⟩
  rw[<- hzs]at hn;walk_at"g";walk_at"h"
  have ini:∀ z∈[n],z∈zs/\XC V h bar n z:=fun z hz=>by
    have:z=n:=by simpa using hz
    subst this;exact⟨hn,.refl⟩
  refine RB (fun m Z S'=>∃ (F:List Str) (G:Z7) (k:Nat) (w6:Option D),S'=S++Cell.lst (F.map D.str)::G/\Z=[some v,some (.int h),some (.str n),some y,some (.ref S.length),some (.int (k:Int)),w6]/\m+k=20/\F.Nodup/\(∀ z∈F,z∈zs/\XC V h bar n z)/\n∈F/\k<=F.length/\∀ (j:Nat) a b,j<k->F[j]?=some a->Y9 V h a b->b∉bar->b∈F) 20 ⟨[n],[],0,none,rfl,rfl,rfl,by simp,ini,by simp,by simp,fun j a b hj=>by lia⟩ ?_;rintro m Z S' ⟨F,G,k,w6,rfl,rfl,hm,nd,hF,hnF,hk,hcl⟩;have lF:F.length<=12:=qZ (Qc nd fun x hx=>(hF x hx).1) zl;walk_at"g";rw[qa];refine ZC (fun hlt=>?_) (fun hge=>?_)
  . obtain⟨a,ha⟩:∃ a,F[k]?=some a:=⟨F[k]'(by lia),qb (by lia)⟩
    have ma:=qd ha;walk_at"g";refine⟨v,V,rfl,hv.old,by lia,?_⟩;rw[<- hzs];walk_at"g";obtain⟨s0,hs0⟩:=hmem a (hF a ma).1
    have kz:∀ (F':List Str),Lst (S++Cell.lst (F'.map D.str)::(G++[.lst (zs.map D.str)])) (.ref (S.length+(Cell.lst (F.map D.str)::G).length)) (zs.map D.str):=fun F'=>by refine .inr ⟨_,rfl,?_⟩;rw[zM];show(Cell.lst (F'.map D.str)::(G++[.lst (zs.map D.str)]))[G.length+1]?=_;rw[Vq,qe (qh _),Yj];rfl
    refine Yq (fun i Z S'=>∃ (F':List Str) (w6:Option D),S'=S++Cell.lst (F'.map D.str)::(G++[.lst (zs.map D.str)])/\Z=[some v,some (.int h),some (.str n),some y,some (.ref S.length),some (.int (k:Int)),w6]/\F'.Nodup/\(∀ z∈F',z∈zs/\XC V h bar n z)/\(∃ A,F'=F++A)/\∀ b∈zs.take i,Y9 V h a b->b∉bar->b∈F') ⟨F,w6,rfl,rfl,nd,hF,⟨[],by simp⟩,by simp⟩ (by rintro i Z S' ⟨F',w,e,_⟩;exact e▸kz F') ?_ ?_
    . rintro i d Z S' hd ⟨F',w,rfl,rfl,nd',hF',⟨A,eA⟩,hin⟩;obtain⟨z,hz,rfl⟩:=Ye hd;have mz:=qd hz;obtain⟨t0,ht0⟩:=hmem z mz;have lF':F'.length<=12:=qZ (Qc nd' fun x hx=>(hF' x hx).1) zl;have flF:∀ x∈F',fl 20 (.str x)=true:=fun x hx=>flz x (hF' x hx).1
      have nxt:(Y9 V h a z->z∉bar->z∈F')->∀ b∈zs.take (i+1),Y9 V h a b->b∉bar->b∈F':=fun hq b hb=>by
        rw[W7 hz]at hb;rcases qC.mp hb with hb|hb
        . exact hin b hb
        . have:b=z:=by simpa using hb
          subst this;exact hq
      have kF:Lst (S++Cell.lst (F'.map D.str)::(G++[.lst (zs.map D.str)])) (.ref S.length) (F'.map D.str):=Lst.at0;have ky:Lst (S++Cell.lst (F'.map D.str)::(G++[.lst (zs.map D.str)])) y (bar.map D.str):=hy.old;walk_at"g";refine Ku (.inr kF) (flz z mz) flF ?_;walk_at"g";refine W8 (fun hzF=>?_) (fun hzF=>?_)
      case refine_2 =>walk_at"g";exact⟨F',_,rfl,rfl,nd',hF',⟨A,eA⟩,nxt fun _ _=>hzF⟩
      walk_at"g";refine Ku (.inr ky) (flz z mz) hbar ?_;walk_at"g";refine W8 (fun hzb=>?_) (fun hzb=>?_)
      case refine_2 =>walk_at"g";exact⟨F',_,rfl,rfl,nd',hF',⟨A,eA⟩,nxt fun _ no=>absurd hzb no⟩
      have aF:Zh (F'.map D.str) (k:Int)=some (.str a):=RQ (by rw[qk,eA,qf (by lia),ha];rfl);walk_at"g";refine⟨v,V,a,z,h,rfl,hv.old,ok,flz a (hF a ma).1,flz z mz,fun no=>?_,fun s t hs ht=>⟨fun no=>absurd ⟨h0,h1⟩ no,fun _ _ e he=>?_⟩⟩
      . rcases no with no|no
        . exact no _ hs0 rfl
        . exact no _ ht0 rfl
      have en:YL e=true↔Y9 V h a z:=by
        have e1:YL e=true↔e=.non:=by cases e<;>simp[YL]
        rw[e1,he.non];constructor
        . intro w;exact⟨s,t,hs,ht,w⟩
        . rintro⟨s',t',hs',ht',w⟩;have es:s'=s:=congrArg Prod.snd (Vx ok hs' hs rfl);have et:t'=t:=congrArg Prod.snd (Vx ok ht' ht rfl);subst es et;exact w
      walk_at"g";cases hg:YL e with
      |true =>
        have hlim:(F'.map D.str).length<big:=by rw[qa];unfold big;lia
        walk_at"g";refine⟨F'++[z],_,by rw[qD];rfl,rfl,?_,?_,⟨A++[z],by rw[eA,qj]⟩,?_⟩
        . rw[VJ];refine⟨nd',by simp,fun x hx y' hy' e=>?_⟩;have:y'=z:=by simpa using hy'
          subst this;subst e;exact hzF hx
        . intro x hx;rcases qC.mp hx with hx|hx
          . exact hF' x hx
          . have:x=z:=by simpa using hx
            subst this;exact⟨mz,.step (hF a ma).2 (en.mp hg) hzb⟩
        . intro b hb aD nb;rw[W7 hz]at hb;rcases qC.mp hb with hb|hb
          . exact qT _ (hin b hb aD nb)
          . exact qL _ hb
      |false =>walk_at"g";exact⟨F',_,rfl,rfl,nd',hF',⟨A,eA⟩,nxt fun aD _=>absurd (en.mpr aD) (by rw[hg];decide)⟩
    . rintro Z S' ⟨F',w,rfl,rfl,nd',hF',⟨A,eA⟩,hin⟩;rw[qa,VP]at hin;walk_at"g";refine⟨m-1,by lia,F',_,k+1,w,rfl,by rfl,by lia,nd',hF',by rw[eA];exact qT _ hnF,by rw[eA,qg];lia,fun j a' b hj ha' aD nb=>?_⟩;rcases qV j k with g|g
      . rw[eA,qf (by lia)]at ha';rw[eA];exact qT _ (hcl j a' b g ha' aD nb)
      . have:j=k:=by lia
        subst this;rw[eA,qf (by lia),ha]at ha';cases ha';obtain⟨s',t',h1',h2',_⟩:=id aD;refine hin b ?_ aD nb;rw[hzs];exact qE.mpr ⟨_,h2',rfl⟩
  . walk_at"g";refine⟨v,V,rfl,hv.old,by lia,?_⟩;rw[<- hzs];walk_at"g";have hkl:k=F.length:=by lia
    have all:∀ z,XC V h bar n z->z∈F:=fun z hz=>by
      induction hz with
      |refl=>exact hnF
      |step c aD nb ih =>obtain⟨j,hj,e⟩:=qO.mp ih;exact hcl j _ _ (by lia) (by rw[qb hj,e]) aD nb
    have flF:∀ x∈F,fl 20 (.str x)=true:=fun x hx=>flz x (hF x hx).1
    have kF:Lst (S++(Cell.lst (F.map D.str)::G++[Cell.lst (zs.map D.str)])) (.ref S.length) (F.map D.str):=Lst.at0;refine Xx (fun d=>match d with|.str z=>decide (z∈F)|_=>false) id Lst.new (by rw[qa];unfold big;lia) (fun i d ys hd hw=>?_) ?_
    . obtain⟨z,hz,rfl⟩:=Ye hd;walk_at"g";refine Kd (.inr kF) (flz z (qd hz)) flF ?_;walk_at"g";refine ZC (fun h1=>?_) (fun h1=>?_)
      . walk_at"g";exact Xw hd hw (decide_eq_true h1) rfl
      . exact RN hd hw (decide_eq_false h1)
    have ef:((zs.map D.str).filter (fun d=>match d with|.str z=>decide (z∈F)|_=>false)).map id=(zs.filter fun z=>decide (z∈F)).map D.str:=by rw[List.map_id,Og];rfl
    rw[ef];refine Xh (fin_same (q _ _ (zs.filter fun z=>decide (z∈F)) ⟨fun z=>decide (z∈F),by rw[hzs],fun z _=>?_⟩ KY (by lia)));rw[decide_eq_true_eq];exact⟨fun w=>(hF z w).2,all z⟩
def Ag {os bar:List Str}:((bar.map fun z=>decide (z∈os)).all id=true)↔∀ z∈bar,z∈os:=by rw[TJ,W6];simp
def G8:Y6:=fun ds S Q ex=>∃ (v:D) (V:Vl) (h:Int) (a b:Str) (y:D) (bar:List Str),ds=[v,.int h,.str a,.str b,y]/\ZD S v V/\Zc V/\fl 20 (.str a)=true/\fl 20 (.str b)=true/\Lst S y (bar.map D.str)/\bar.length<=100/\(∀ z∈bar,fl 20 (.str z)=true)/\Vw V h a b (fun c=>ex c S) (∀ (T:Z7) (r:Bool),(r=true↔(∀ z∈bar,z∈V.bs.map (·.1)/\z≠a/\z≠b)/\¬ XC V h bar a b)->Q (.bl r) (S++T))
abbrev oZ (ex : XR) : DS :=
    (zf (Zb (zV Qk ex (zc Z4 (zc Z0 (zc ZX Yz)))))
 (zf (zq (dCall NQ (zc Z4 (zc ZX Yz))) YG)
 (zf (ZR (W9 (dT (dB Wz (zc (Zi 1 [5] (Zu ZP) YT Yn (Z6 Uk Z4 Z0)) zm)))) (zA (dC (.bl false))) zB)
 (zA (Z6 RL ZW (dCall Ko (zc Z4 (zc Z0 (zc ZX WK)))))))))
def Ň:XQ 6 oZ G8:=by
 rintro ds S Q ex ⟨v,V,h,a,b,y,bar,rfl,hv,ok,fa,fb,hy,ly,fy,hX⟩;unfold oZ;have b12:=ok.b12;have flz:=ok.flN;walk_at"g";refine⟨v,V,h,a,b,rfl,hv,ok,fa,fb,hX.imp fun ma mb h0 h1 no q=>?_⟩;walk_at"g";refine⟨v,V,a,b,rfl,hv,ok,flz a ma,flz b mb,fun T n hn ln=>?_⟩;have mo:∀ z,z∈W3 a b (V.bs.map (·.1))↔z∈V.bs.map (·.1)/\z≠a/\z≠b:=fun z=>by unfold W3;rw[Xf,decide_eq_true_eq]
 generalize W3 a b (V.bs.map (·.1))=os at hn mo;have ko:Lst (S++T) (.ref n) (os.map D.str):=Lst.here hn;have ky:Lst (S++T) y (bar.map D.str):=hy.old;have fo:∀ z∈os,fl 20 (.str z)=true:=fun z hz=>flz z ((mo z).mp hz).1
 walk_at"g";refine Xx (fun _=>true) (JX fun z=>.bl (decide (z∈os))) ky (by rw[qa];unfold big;lia) (fun i d ys hd hw=>?_) ?_
 ·obtain⟨z,hz,rfl⟩:=Ye hd;walk_at"g";refine Kd (.inr ko) (fy z (qd hz)) fo ?_;exact Xw hd hw rfl rfl
 rw[filter_true,GX,show(bar.map fun z=>D.bl (decide (z∈os)))=(bar.map fun z=>decide (z∈os)).map D.bl by rw[Xq];rfl];walk_at"g";refine La Lst.new ?_;walk_at"g";cases hg:(bar.map fun z=>decide (z∈os)).all id with
 |false =>
  walk_at"g";refine fin_same (q (T++[.lst ((bar.map fun z=>decide (z∈os)).map D.bl)]) false ⟨fun z=>absurd z (by decide),fun z=>?_⟩);have:=Ag.mpr fun w hw=>(mo w).mpr (z.1 w hw)
  rw[hg]at this;cases this
 |true =>
  have hall:=Ag.mp hg;walk_at"g";refine⟨v,V,h,a,y,bar,rfl,hv.old,ok,ma,hy.old,fy,h0,h1,fun T2 k zs hc hk lk=>?_⟩;obtain⟨g,rfl,hg'⟩:=hc;have fz:∀ w∈(V.bs.map (·.1)).filter g,fl 20 (.str w)=true:=fun w hw=>flz w (Xf.mp hw).1
  refine Ku (.inr (Lst.here hk)) (flz b mb) fz ?_;rw[qj];refine fin_same (q _ _ ?_);rw[Bool.not_eq_true',decide_eq_false_iff_not,Xf,hg' b mb];exact⟨fun w=>⟨fun z hz=>(mo z).mp (hall z hz),fun c=>w ⟨mb,c⟩⟩,fun w c=>w.2 c.2⟩
def BW:Y6:=fun ds S Q ex=>∃ (v:D) (V:Vl) (h:Int) (a b:Str),ds=[v,.int h,.str a,.str b]/\ZD S v V/\Zc V/\fl 20 (.str a)=true/\fl 20 (.str b)=true/\Vw V h a b (fun c=>ex c S) (∀ (T:Z7) (n:Nat) (f:Str->Bool),(∀ w∈V.bs.map (·.1),(f w=true↔¬ XC V h [w] a b))->(S++T)[n]?=some (.lst (((W3 a b (V.bs.map (·.1))).filter f).map D.str))->S.length<=n->Q (.ref n) (S++T))
abbrev nG (ex : XR) : DS :=
    (zf (Zb (zV Qk ex (zc Z4 (zc Z0 (zc ZX Yz)))))
 (zf (zq (dCall NQ (zc Z4 (zc ZX Yz))) Yt)
 (zA (Zi 1 [3,0,1,2] (Zu ZP) YT (dT (Z6 RL Z0 (dCall Ko (zc ZX (zc ZW (zc ZP (zc (Zk Zg) zm))))))) Z4))))
def Ř:XQ 5 nG BW:=by
 rintro ds S Q ex ⟨v,V,h,a,b,rfl,hv,ok,fa,fb,hX⟩;unfold nG;have b12:=ok.b12;have flz:=ok.flN;walk_at"g";refine⟨v,V,h,a,b,rfl,hv,ok,fa,fb,hX.imp fun ma mb h0 h1 no q=>?_⟩;walk_at"g";refine⟨v,V,a,b,rfl,hv,ok,flz a ma,flz b mb,fun T n hn ln=>?_⟩;have lo:(W3 a b (V.bs.map (·.1))).length<=12:=qZ (Ob _ _) (by rw[qa];exact b12);have mo:∀ z∈W3 a b (V.bs.map (·.1)),z∈V.bs.map (·.1):=fun z hz=>(Xf.mp hz).1
 generalize W3 a b (V.bs.map (·.1))=os at hn lo mo q;have ko:Lst (S++T) (.ref n) (os.map D.str):=Lst.here hn;walk_at"g";refine Oe (fun i ys S'=>∃ (G:Z7) (f:Str->Bool),S'=S++(T++G)/\ys=((os.take i).filter f).map D.str/\∀ w∈os.take i,(f w=true↔¬ XC V h [w] a b)) ⟨[],fun _=>true,by simp,rfl,by simp⟩ (by rintro i ys S' ⟨G,_,e,_⟩;exact by rw[e,<- qj];exact ko.old) (by rw[qa];unfold big;lia) ?_ ?_
 ·rintro i d ys S' hd ⟨G,f,rfl,rfl,hf⟩;obtain⟨z,hz,rfl⟩:=Ye hd;have mz:=mo z (qd hz);walk_at"g";refine⟨v,V,h,a,_,[z],rfl,?_,ok,ma,Lst.new,fun w hw=>by rw[qJ.mp hw];exact flz z mz,h0,h1,fun T2 k zs hc hk lk=>?_⟩
  ·exact hv.old
  obtain⟨g,rfl,hg⟩:=hc;have fz:∀ w∈(V.bs.map (·.1)).filter g,fl 20 (.str w)=true:=fun w hw=>flz w (Xf.mp hw).1
  refine Ku (.inr (Lst.here hk)) (flz b mb) fz ?_;have key:b∉(V.bs.map (·.1)).filter g↔¬ XC V h [z] a b:=by rw[Xf,hg b mb];exact⟨fun w c=>w ⟨mb,c⟩,fun w c=>w c.2⟩
  have snoc:∀ (g':Bool) (ys':List Str),(g'=true↔¬ XC V h [z] a b)->ys'=(if g'=true then(os.take i).filter f++[z]else(os.take i).filter f)->∃ f':Str->Bool,ys'=(os.take (i+1)).filter f'/\∀ w∈os.take (i+1),(f' w=true↔¬ XC V h [w] a b):=fun g' ys' hg' e=>by
   have e1:(os.take i).filter (fun x=>if x∈os.take i then f x else g')=(os.take i).filter f:=Qw fun x hx=>by rw[if_pos hx]
   have e2:(if z∈os.take i then f z else g')=g':=by
    split
    ·rename_i w;rw[Ti,hf z w,hg']
    ·rfl
   refine⟨fun x=>if x∈os.take i then f x else g',?_,fun w hw=>?_⟩
   ·rw[W7 hz,RP,e1,e];cases g' with
    |true=>rw[if_pos rfl,KZ (by exact e2)];rfl
    |false=>rw[if_neg (by decide),Nu (by rw[e2];decide)];simp
   ·dsimp only;by_cases hx:w∈os.take i
    ·rw[if_pos hx];exact hf w hx
    ·rw[W7 hz]at hw;rcases qC.mp hw with hw|hw
     ·exact absurd hw hx
     ·rw[if_neg hx,qJ.mp hw];exact hg'
  walk_at"g";refine W8 (fun e=>?_) (fun e=>?_)
  ·obtain⟨f',e1,e2⟩:=snoc true _ ⟨fun _=>key.mp e,fun _=>rfl⟩ rfl;walk_at"g";refine⟨G++[Cell.lst [D.str z]]++T2,f',?_,?_,e2⟩
   ·simp
   ·rw[<- e1,if_pos rfl,qD];rfl
  ·obtain⟨f',e1,e2⟩:=snoc false _ ⟨fun w=>(by cases w),fun w=>absurd (key.mpr w) (fun u=>u e)⟩ rfl;walk_at"g";refine⟨G++[Cell.lst [D.str z]]++T2,f',?_,?_,e2⟩
   ·simp
   ·rw[<- e1,if_neg (by decide)]
 rintro ys S' ⟨G,f,rfl,rfl,hf⟩;rw[qa,VP]at hf ⊢
 obtain⟨f',hf'⟩:∃ f':Str->Bool,∀ w,(w∈os->f' w=f w)/\(w∉os->(f' w=true↔¬ XC V h [w] a b)):=by
  classical
  refine⟨fun w=>if w∈os then f w else decide (¬ XC V h [w] a b),fun w=>⟨fun m=>if_pos m,fun m=>?_⟩⟩;dsimp only;rw[if_neg m,decide_eq_true_eq]
 refine Xh (fin_same (q _ _ f' (fun w _=>?_) ?_ (by lia)))
 ·by_cases m:w∈os
  ·rw[(hf' w).1 m];exact hf w m
  ·exact(hf' w).2 m
 ·rw[show os.filter f'=os.filter f from Qw fun w hw=>(hf' w).1 hw];exact KY
def GR:Y6:=fun ds S Q ex=>∃ (dd:Int) (v:D) (V:Vl) (h:Int) (a b:Str),ds=[.int dd,v,.int h,.str a,.str b]/\ZD S v V/\Zc V/\fl 20 (.str a)=true/\fl 20 (.str b)=true/\Vw V h a b (fun c=>∀ T,ex c (S++T)) (∀ (T:Z7) d,Q d (S++T))
abbrev rC (ex : XR) : DS :=
    (zf (ZR (dT (Z6 oEq Z4 ZK)) (zA (zV Fw ex (zc Z0 (zc ZX (zc ZW WK))))) zB)
 (zf (ZR (dT (Z6 oEq Z4 ZL)) (zA (zV BK ex (zc Z0 (zc ZX (zc ZW (zc ZP (zc (Zk (zc ZW WK)) zm))))))) zB)
 (zf (ZR (dT (Z6 oEq Z4 W2)) (zA (zV G8 ex (zc Z0 (zc ZX (zc ZW (zc ZP (zc (Zk zm) zm))))))) zB)
 (zA (zV BW ex (zc Z0 (zc ZX (zc ZW WK))))))))
def ziN:XQ 5 rC GR:=by
 rintro ds S Q ex ⟨dd,v,V,h,a,b,rfl,hv,ok,fa,fb,hX⟩;unfold rC;have hX0:Vw V h a b (fun c=>ex c S) (∀ (T:Z7) d,Q d (S++T)):=⟨fun n=>by simpa using hX.nb n [],fun a b n=>by simpa using hX.hr a b n [],fun a b c d e=>by simpa using hX.bs a b c d e [],hX.ok⟩
 walk_at"g";refine ZC (fun g=>?_) (fun g=>?_)
 ·walk_at"g";exact⟨v,V,h,a,b,rfl,hv,ok,fa,fb,hX0.imp fun _ _ _ _ _ q T d=>fin_same (q T d)⟩
 walk_at"g";refine ZC (fun g=>?_) (fun g=>?_)
 ·walk_at"g";refine⟨v,V,h,a,b,_,[a,b],rfl,hv.old,ok,fa,fb,Lst.at0,by simp,fun u hu=>?_,⟨fun n=>hX.nb n _,fun a b n=>hX.hr a b n _,fun a b c d e=>hX.bs a b c d e _,fun x1 x2 x3 x4 x5 T r _=>?_⟩⟩
  ·rcases ql.mp hu with rfl|hu
   ·exact fa
   ·rw[qJ.mp hu];exact fb
  ·rw[qj];exact fin_same (hX.ok x1 x2 x3 x4 x5 _ _)
 walk_at"g";refine ZC (fun g=>?_) (fun g=>?_)
 ·walk_at"g";refine⟨v,V,h,a,b,_,[],rfl,hv.old,ok,fa,fb,Lst.at0,by simp,by simp,⟨fun n=>hX.nb n _,fun a b n=>hX.hr a b n _,fun a b c d e=>hX.bs a b c d e _,fun x1 x2 x3 x4 x5 T r _=>?_⟩⟩;rw[qj];exact fin_same (hX.ok x1 x2 x3 x4 x5 _ _)
 walk_at"g";exact⟨v,V,h,a,b,rfl,hv,ok,fa,fb,hX0.imp fun _ _ _ _ _ q T n f _ _ _=>fin_same (q T _)⟩
def Vc (V:Vl)(h:Int)(a b:Str)(w:Str):Prop:=((a∉V.bs.map (·.1)\/b∉V.bs.map (·.1))/\w="name")\/(a∈V.bs.map (·.1)/\b∈V.bs.map (·.1)/\¬ (V.h0<=h/\h<=V.h1)/\w="hour")\/(a∈V.bs.map (·.1)/\b∈V.bs.map (·.1)/\V.h0<=h/\h<=V.h1/\Y9 V h a b/\w="beside")\/(a∈V.bs.map (·.1)/\b∈V.bs.map (·.1)/\V.h0<=h/\h<=V.h1/\¬ Y9 V h a b/\w="told")
def Qf:ZV:=fun ds S Q=>∃ (dd:Int) (v:D) (V:Vl) (h:Int) (a b:Str),ds=[.int dd,v,.int h,.str a,.str b]/\ZD S v V/\Zc V/\fl 20 (.str a)=true/\fl 20 (.str b)=true/\∀ (T:Z7) (w:Str),Vc V h a b w->Q (.str w) (S++T)
def ç (bs:List Bool)(w:Str)(m:Nat):Prop:=(bs=[true,true,false,false]/\w="name"/\m=0)\/(bs=[true,false,true,false]/\w="hour"/\m=1)\/(bs=[true,false,false,true]/\w="beside"/\m=2)\/(bs=[]/\w="told"/\m=3)
abbrev nY:DS :=
    (zf (zq (Zk zm) YG)
 (zf (Jd 6 ["BadGround","OffGround","BadFog","BadName","Twice","TooMany","BadHour","NoBeacon","Beside"] (fun ex=>(Zb (zV GR ex (zc Z4 (zc Z0 (zc ZX (zc ZW WK))))))) (zq (Zk (zc (TV [("BadGround",true),("OffGround",true),("BadFog",true),("BadName",true),("Twice",true),("TooMany",true),("BadHour",true),("NoBeacon",true),("Beside",true)] YS) (zc (TV [("BadGround",false),("OffGround",false),("BadFog",false),("BadName",false),("Twice",false),("TooMany",false),("BadHour",false),("NoBeacon",true),("Beside",false)] YS) (zc (TV [("BadGround",false),("OffGround",false),("BadFog",false),("BadName",false),("Twice",false),("TooMany",false),("BadHour",true),("NoBeacon",false),("Beside",false)] YS) (zc (TV [("BadGround",false),("OffGround",false),("BadFog",false),("BadName",false),("Twice",false),("TooMany",false),("BadHour",false),("NoBeacon",false),("Beside",true)] YS) zm))))) YG))
 (zf (Y0 (Wm (zc (Zk (zc (dC (.str "name")) (zc (dC (.str "hour")) (zc (dC (.str "beside")) zm)))) zm)) (YH 2 (zN U0 (zN Mp YK))) (ZR (dT (Z6 oEq Y8 (Zk (zc (dC (.bl true)) (zc (Z6 oEq Xc ZK) (zc (Z6 oEq Xc ZL) (zc (Z6 oEq Xc W2) zm))))))) (zA Uv) zB))
 (zA (Z6 ZQ (Zk (zc (dC (.str "told")) (zc (dC (.str "other")) zm))) (dB Nt (zc (Z6 Yk (dB Za Ml) ZK) zm)))))))
def lN:BodyOk 9 nY Qf:=by
  rintro ds S Q ⟨dd,v,V,h,a,b,rfl,hv,ok,fa,fb,q⟩;unfold nY
  have rest : ∀ (X : Z7) (kn wn : Nat) (bs : List Bool) (w : Str) (m : Nat) (r0 r1 r2 r3 r4 r6 r7 r8 : Option D), ç bs w m → (∀ T, Q (.str w) (X ++ T)) → X[kn]? = some (.lst (bs.map D.bl)) → X[wn]? = some (.lst [.str "name", .str "hour", .str "beside"]) → J9
      (Jr
        (zA
          (Z6 ZQ (Zk (zc (dC (D.str "told")) (zc (dC (D.str "other")) zm)))
            (dB Nt (zc (Z6 Yk (dB Za (zc (YM 5) zm)) (dC (D.int 0))) zm)))
          { nx:=fun x S'=>Fin S Q D.non S',rt:=Fin S Q })
        (Fin S Q) (YH 2 (zN (zR 7) (zN (zR 8) YK)))
        (ZR
          (dT
            (Z6 oEq (YM 5)
              (Zk
                (zc (dC (D.bl true))
                  (zc (Z6 oEq (YM 7) (dC (D.int 0)))
                    (zc (Z6 oEq (YM 7) (dC (D.int 1))) (zc (Z6 oEq (YM 7) (dC (D.int 2))) zm)))))))
          (zA (YM 8)) zB)
        [r0,r1,r2,r3,r4,some (.ref kn),r6,r7,r8])
      [D.ref wn] X:=fun X kn wn bs w m r0 r1 r2 r3 r4 r6 r7 r8 hw qw hk hwn=>by
    have kk:∀ G,Lst (X++G) (.ref kn) (bs.map D.bl):=fun G=>Lst.here (zF hk)
    have flb:(bs.map D.bl).all (fl 20)=true:=by rw[TJ,W6];intro x _;rfl
    have fw:fl 20 (.str w)=true:=by rcases hw with⟨_,rfl,_⟩|⟨_,rfl,_⟩|⟨_,rfl,_⟩|⟨_,rfl,_⟩<;>decide +kernel
    refine RW (Lst.here hwn) ?_;refine Yq (fun i Z S'=>∃ (G:Z7) (w7 w8:Option D),S'=X++G/\Z=[r0,r1,r2,r3,r4,some (.ref kn),r6,w7,w8]/\i<=m) ⟨[],_,_,by simp,rfl,qX _⟩ (by rintro i Z S' ⟨G,_,_,e,_⟩;exact e▸Lst.here (zF hwn)) ?_ ?_
    . rintro i d Z S' hd ⟨G,w7,w8,rfl,rfl,im⟩;obtain⟨y,hy,rfl⟩:=Uz hd;have li:=zL hy;have kg:=kk (G++[.lst [.bl true,.bl (decide (((0+i:Nat):Int)=0)),.bl (decide (((0+i:Nat):Int)=1)),.bl (decide (((0+i:Nat):Int)=2))]])
      have ey:i=m->y=.str w:=fun e=>by
        subst e;rcases hw with⟨_,rfl,rfl⟩|⟨_,rfl,rfl⟩|⟨_,rfl,rfl⟩|⟨_,rfl,rfl⟩
        . exact(qH hy).symm
        . exact(qH hy).symm
        . exact(qH hy).symm
        . exact absurd li (by decide)
      have eb:eqvAll (bs.map D.bl) [.bl true,.bl (decide (((0+i:Nat):Int)=0)),.bl (decide (((0+i:Nat):Int)=1)),.bl (decide (((0+i:Nat):Int)=2))]=decide (i=m):=by
        have:i=0\/i=1\/i=2:=by have:i<3:=li;lia
        rcases hw with⟨rfl,_,rfl⟩|⟨rfl,_,rfl⟩|⟨rfl,_,rfl⟩|⟨rfl,_,rfl⟩<;>rcases this with rfl|rfl|rfl<;>rfl
      walk_at"g";refine zw4 kg Lst.new flb rfl eb ?_;walk_at"g";refine ZC (fun e=>?_) (fun e=>?_)
      . rw[ey e];walk_at"g";exact fin_same (qw _)
      . walk_at"g";exact⟨_,_,_,rfl,rfl,by lia⟩
    . rintro Z S' ⟨G,w7,w8,rfl,rfl,im⟩;have im:3<=m:=im;rcases hw with⟨_,_,rfl⟩|⟨_,_,rfl⟩|⟨_,_,rfl⟩|⟨rfl,rfl,rfl⟩
      . exact absurd im (by decide)
      . exact absurd im (by decide)
      . exact absurd im (by decide)
      . have kg:=kk (G++[.lst [.str "told",.str "other"]]);walk_at"g";exact fin_same (qw _)
  have fin:∀ (T T2:Z7) (w:Str),Vc V h a b w->Q (.str w) (S++[Cell.lst []]++T++T2):=fun T T2 w hw=>by rw[qj,qj];exact q _ w hw
  walk_at"g";refine⟨dd,v,V,h,a,b,rfl,hv.old,ok,fa,fb,⟨fun n T=>⟨rfl,?_⟩,fun m1 m2 n T=>⟨rfl,?_⟩,fun m1 m2 h0 h1 n T=>⟨rfl,?_⟩,fun m1 m2 h0 h1 n T d=>?_⟩⟩
  . walk_at"g";exact rest _ _ _ [true,true,false,false] "name" 0 _ _ _ _ _ _ _ _ (.inl ⟨rfl,rfl,rfl⟩) (fun T2=>fin _ _ _ (.inl ⟨n,rfl⟩)) ((zM _ _ _).trans (by simp)) ((zM _ _ _).trans (by simp))
  . walk_at"g";exact rest _ _ _ [true,false,true,false] "hour" 1 _ _ _ _ _ _ _ _ (.inr (.inl ⟨rfl,rfl,rfl⟩)) (fun T2=>fin _ _ _ (.inr (.inl ⟨m1,m2,n,rfl⟩))) ((zM _ _ _).trans (by simp)) ((zM _ _ _).trans (by simp))
  . walk_at"g";exact rest _ _ _ [true,false,false,true] "beside" 2 _ _ _ _ _ _ _ _ (.inr (.inr (.inl ⟨rfl,rfl,rfl⟩))) (fun T2=>fin _ _ _ (.inr (.inr (.inl ⟨m1,m2,h0,h1,n,rfl⟩)))) ((zM _ _ _).trans (by simp)) ((zM _ _ _).trans (by simp))
  . walk_at"g";exact rest _ _ _ [] "told" 3 _ _ _ _ _ _ _ _ (.inr (.inr (.inr ⟨rfl,rfl,rfl⟩))) (fun T2=>fin _ _ _ (.inr (.inr (.inr ⟨m1,m2,h0,h1,n,rfl⟩)))) (by rw[qj];exact zT) ((zM _ _ _).trans (by simp))
def Ds:ZV:=fun ds S Q=>∃ (v y:D) (V:Vl) (h h':Int) (a b:Str),ds=[v,y,.int h,.str a,.str b]/\ZD S v V/\Zc V/\fl 20 (.str a)=true/\fl 20 (.str b)=true/\TX S y V h'/\QD S y V/\(V.h0<=h->h'=h)/\∀ (T:Z7) (w:Str),Vc V h a b w->Q (.str w) (S++T)
abbrev wH:DS :=
    (zf (ZR (Xp (dT (SJ ZW Z0)) (dT (SJ ZP Z0))) (zA (dC (.str "name"))) zB)
 (zf (ZR (Xp (dT (Z6 oLt ZX (Ze "first" Z4))) (dT (Z6 Yk ZX (Ze "last" Z4)))) (zA (dC (.str "hour"))) zB)
 (zf (ZR (Xp (dT (Z6 oEq ZW ZP)) (dT (Z6 Uk ZP (Vt Z0 ZW)))) (zA (dC (.str "beside"))) zB)
 (zA (dC (.str "told"))))))
def zle:BodyOk 5 wH Ds:=by
 rintro ds S Q ⟨v,y,V,h,h',a,b,rfl,hv,ok,fa,fb,hn,hk,hh,q⟩;unfold wH;have q0:∀ w,Vc V h a b w->Q (.str w) S:=fun w hw=>by simpa using q [] w hw
 have flz:=ok.flN
 have dg:∀ z:Str,∃ o,Zr S y (.str z) o/\o.isSome=decide (z∈V.bs.map (·.1)):=fun z=>by
  by_cases g:z∈V.bs.map (·.1)
  ·obtain⟨m,ys,h1,_⟩:=hn.get g;exact⟨_,h1,by rw[decide_eq_true g];rfl⟩
  ·exact⟨_,hk.get g,by rw[decide_eq_false g];rfl⟩
 obtain⟨o1,d1,e1⟩:=dg a;obtain⟨o2,d2,e2⟩:=dg b;obtain⟨vn,vg,vb,vf,rfl,hv1,hv2⟩:=id hv;walk_at"g";refine⟨o1,d1,?_⟩;rw[e1];walk_at"g";refine W8 (fun n1=>?_) (fun m1=>?_)
 ·walk_at"g";exact fin_same (q0 _ (.inl ⟨.inl n1,rfl⟩))
 walk_at"g";refine⟨o2,d2,?_⟩;rw[e2];walk_at"g";refine W8 (fun n2=>?_) (fun m2=>?_)
 ·walk_at"g";exact fin_same (q0 _ (.inl ⟨.inr n2,rfl⟩))
 walk_at"g";refine ZC (fun g1=>?_) (fun g1=>?_)
 ·walk_at"g";exact fin_same (q0 _ (.inr (.inl ⟨m1,m2,by lia,rfl⟩)))
 walk_at"g";refine ZC (fun g2=>?_) (fun g2=>?_)
 ·walk_at"g";exact fin_same (q0 _ (.inr (.inl ⟨m1,m2,by lia,rfl⟩)))
 have h0:V.h0<=h:=by lia
 have h1:h<=V.h1:=by lia
 have eh:=hh h0;subst eh;walk_at"g";refine JZ fa fb ?_;walk_at"g";refine ZC (fun e=>?_) (fun e=>?_)
 ·walk_at"g";subst e;obtain⟨x,hx,ex⟩:=qE.mp m1;exact fin_same (q0 _ (.inr (.inr (.inl ⟨m1,m2,h0,h1,⟨x.2,x.2,by rw[<- ex];exact hx,by rw[<- ex];exact hx,.inl rfl⟩,rfl⟩))))
 obtain⟨m,ys,hg,hm,ynd,hy⟩:=hn.get m1;have fly:∀ z∈ys,fl 20 (.str z)=true:=fun z hz=>flz z (Mw ((hy z).mp hz).2).2
 walk_at"g";refine⟨_,hg,?_⟩;walk_at"g";refine Kd (.inr (Lst.here hm)) fb fly ?_;walk_at"g";refine ZC (fun g=>?_) (fun g=>?_)
 ·walk_at"g";exact fin_same (q0 _ (.inr (.inr (.inl ⟨m1,m2,h0,h1,((hy b).mp g).2,rfl⟩))))
 ·walk_at"g";exact fin_same (q0 _ (.inr (.inr (.inr ⟨m1,m2,h0,h1,fun aD=>g ((hy b).mpr ⟨Ne.symm e,aD⟩),rfl⟩))))
def Bl {zs:List Str}{k:Int}(h0:0<=k)(h:k<zs.length):∃ z,z∈zs/\Zh (zs.map D.str) k=some (.str z):=by
 have l:k.toNat<zs.length:=by lia
 refine⟨zs[k.toNat],Iu l,?_⟩;unfold Zh Xz;rw[if_pos h0,if_pos (by rw[qa];exact h)];show(zs.map D.str)[k.toNat]?=_;rw[qk,qb l];rfl
def Vc.uniq {V:Vl}(x:Vc V h a b w)(y:Vc V h a b w'):w=w':=by unfold Vc at x y;rcases x with⟨n,rfl⟩|⟨m1,m2,r,rfl⟩|⟨m1,m2,h0,h1,aD,rfl⟩|⟨m1,m2,h0,h1,aD,rfl⟩<;>rcases y with⟨n',rfl⟩|⟨m1',m2',r',rfl⟩|⟨m1',m2',h0',h1',aD',rfl⟩|⟨m1',m2',h0',h1',aD',rfl⟩<;>first|rfl|(exfalso;grind)
theorem Vc.fl {V:Vl}(x:Vc V h a b w):fl 20 (.str w)=true:=by rcases x with⟨_,rfl⟩|⟨_,_,_,rfl⟩|⟨_,_,_,_,_,rfl⟩|⟨_,_,_,_,_,rfl⟩<;>decide +kernel
abbrev yc:DS :=
    (zf (zq (dCall Hx Zg) Vz)
 (zf (zq V7 Yh)
 (zf (zq (dCall Gx Yu) Ym)
 (zf (zq (Z6 oMod (dCall J1 (zc Z4 (zc ZL zm))) (dC (.int 1000000000000000000000000000000))) Yt)
 (zf (Y0 (Wm (zc (Zk (zc (Z6 zW (Ze "first" ZW) (Z6 oMod ZP Qz)) (zc (Ze "first" ZW) (zc (Ze "last" ZW) (zc (Z6 Zm (Z6 Zm (Ze "first" ZW) ZL) (Z6 oMod ZP Qg)) zm))))) zm)) (YH 2 (zN YG (zN Wn YK))) (zf (zq (dCall Ks (zc ZW (zc (dB RT (zc (Ze "first" ZW) Om)) YD))) U0)
 (Y0 (Sd (zc WT zm)) Mp (zf (zq (Z6 ZQ (Z6 zW ZX (Zk (zc (dC (.str "nobody")) zm))) (Z6 oMod (Z6 zW (Z6 zW (Z6 oDiv ZP Qz) Y8) Uv) (Z6 zW (dB Za YD) ZL))) HF)
 (zf (zq (Z6 ZQ (Z6 zW ZX (Zk (zc (dC (.str "")) Ψ))) (Z6 oMod (Z6 zW (Z6 zW (Z6 oDiv ZP (dC (.int 60))) (Z6 Y7 Qg Y8)) Uv) (Z6 zW (dB Za YD) W2))) tG)
 (ZR (dT (Z6 XS (dCall Qf (zc (Z6 oMod (Z6 zW Y8 Uv) WT) (zc ZW (zc YS (zc QF wM))))) (dCall Ds (zc ZW (zc Xc (zc YS (zc QF wM))))))) (zA (dC (.bl false))) zB))))))
 (zf (zq (dCall Ks (zc ZW (zc (Ze "last" ZW) YD))) U0)
 (zf (Y0 (Zu (Zk (zc (Z6 zW (Ze "last" ZW) ZL) (zc (Z6 zW (Z6 zW (Ze "last" ZW) ZL) ZP) zm)))) Wn (Y0 (Sd (zc WT zm)) pQ (zf (ZR (dT (Z6 XS (dCall Qf (zc JG (zc ZW (zc YS (zc T6 (zc (Z6 ZQ ZX (Wq Wa ZL)) zm)))))) (dC (.str "hour")))) (zA (dC (.bl false))) zB)
 (ZR (dT (Z6 XS (dCall Qf (zc JG (zc ZW (zc YS (zc T6 (zc (Z6 Y7 (dC (.str "x")) Fz) zm)))))) (dC (.str "name")))) (zA (dC (.bl false))) zB))))
 (zf (Y0 (Zu (Uo Ut ZX none (some W2))) HF (ZR (W9 (dT (dB Wz (zc (Zi 1 [4,3,9] (Zu (Vt Xc QF)) YT Yn (Z6 oEq (dCall Qf (zc (Z6 oMod Z0 WT) (zc ZX (zc (Ze "last" ZX) (zc ZW Zg))))) (dC (.str "beside")))) zm)))) (zA (dC (.bl false))) zB))
 (zA (dC (.bl true)))))))))))
def ă:BodyOk 12 yc Qj:=by
  rintro ds S Q ⟨ns,rfl,⟨_,hg⟩,hl,q⟩;unfold yc;walk_at"g";refine⟨ns,rfl,hl,fun T a b c zs ps fs hz f w ha hb hc=>?_⟩;walk_at"g";refine⟨a,b,c,zs,ps,fs,hz,f,rfl,w,ha,hb,hc,fun T2 v V hv ok hzs hf0 hf1=>?_⟩;have ha2:Lst (S++T++T2) a (zs.map D.str):=ha.old;generalize S++T++T2=S2 at hv ha2;walk_at"g";refine⟨ns,1,rfl,by decide,fun c1=>?_⟩;obtain⟨vn,vg,vb,vf,rfl,hv1,hv2⟩:=id hv;walk_at"g";have t0:=UG (c1%1000000000000000000000000000000) (b:=6) (by decide);have t1:=R8 (c1%1000000000000000000000000000000) (b:=6) (by decide);have tn:=UG c1 (b:=1000000000000000000000000000000) (by decide);generalize c1%1000000000000000000000000000000=t at t0 t1 tn;have nd:zs.Nodup:=by rw[<- hzs];exact ok.nd
  have flz:∀ z∈zs,fl 20 (.str z)=true:=hzs▸ok.flN;walk_at"h";obtain⟨hours,hhs⟩:∃ hours:List Int,hours=[V.h0+t%6,V.h0,V.h1,V.h0-1-t%3]:=⟨_,rfl⟩
  have hle:∀ x∈hours,x<=V.h1:=fun x hx=>by rw[hhs]at hx;simp only[ql,qK,or_false]at hx;rcases hx with rfl|rfl|rfl|rfl<;>lia
  rw[show[D.int (V.h0+t%6),D.int V.h0,D.int V.h1,D.int (V.h0-1-t%3)]=hours.map D.int by rw[hhs];rfl];have kh:∀ G,Lst (S2++Cell.lst (hours.map D.int)::G) (.ref S2.length) (hours.map D.int):=fun G=>Lst.at0
  have lh:hours.length=4:=by rw[hhs];rfl
  clear hhs;obtain⟨tl,htl⟩:∃ tl:D,tl=.tup [a,b,c,.int hz,.int f,.int (f+5)]:=⟨_,rfl⟩
  refine RW (kh []) ?_;refine Yq (fun i Z S'=>∃ (G:Z7) (w5 w6 w7 w8 w9 w10 w11:Option D),S'=S2++Cell.lst (hours.map D.int)::G/\Z=[some (.rl (ns.map D.int)),some (.tup [a,b,c,.int hz,.int f,.int (f+5)]),some a,some (.ref vn),some (.int t),w5,w6,w7,w8,w9,w10,w11]) ⟨[],_,_,_,_,_,_,_,rfl,rfl⟩ (by rintro i Z S' ⟨G,_,_,_,_,_,_,_,e,_⟩;exact e▸kh G) ?_ ?_
  . rintro i d Z S' hd ⟨G,w5,w6,w7,w8,w9,w10,w11,rfl,rfl⟩;obtain⟨y,hy,rfl⟩:=Uz hd;obtain⟨hr,hm,rfl⟩:=R7 hy;have hr1:=hle hr (qd hm);have li:i<4:=by have:=zL hm;lia
    have hv5:ZD (S2++Cell.lst (hours.map D.int)::G) (.ref vn) V:=hv.old;have ha5:Lst (S2++Cell.lst (hours.map D.int)::G) a (zs.map D.str):=ha2.old;obtain⟨S3,hS3⟩:∃ S3:Z7,S3=S2++Cell.lst (hours.map D.int)::G:=⟨_,rfl⟩
    have e3:∃ G',S3=S2++Cell.lst (hours.map D.int)::G':=⟨G,hS3⟩
    rw[<- hS3]at hv5 ha5 ⊢;obtain⟨vn',vg',vb',vf',e',hv3,hv4⟩:=id hv5;cases e';walk_at"g";have hhh:=ok.hh;refine⟨_,V,max V.h0 hr,a,zs,rfl,hv5,ok,hzs,ha5,by lia,by lia,fun T3 y hn hk=>?_⟩;have hv6:ZD (S3++T3) (.ref vn) V:=hv5.old;have ha6:Lst (S3++T3) a (zs.map D.str):=ha5.old;have e6:∃ G',S3++T3=S2++Cell.lst (hours.map D.int)::G':=by obtain⟨G',rfl⟩:=e3;exact⟨G'++T3,by simp⟩
    generalize S3++T3=S6 at hn hk hv6 ha6 e6;clear hv5 ha5 e3 hS3 G;walk_at"g";refine⟨_,rfl,by decide,by decide,?_⟩;refine Yq (fun j Z S'=>∃ (G:Z7) (w8 w9 w10:Option D),S'=S6++G/\Z=[some (.rl (ns.map D.int)),some (.tup [a,b,c,.int hz,.int f,.int (f+5)]),some a,some (.ref vn),some (.int t),some (.int i),some (.int hr),some y,w8,w9,w10,w11]) ⟨[],_,_,_,by simp,by rw[Ms];rfl⟩ (fun _ _ _ _=>True.intro) ?_ ?_
    . rintro j d Z S' hd ⟨G,w8,w9,w10,rfl,rfl⟩;obtain⟨hj,rfl⟩:=LQ hd;have ha7:Lst (S6++G) a (zs.map D.str):=ha6.old;have hv7:ZD (S6++G) (.ref vn) V:=hv6.old;walk_at"g";have lz:zs.length<=12:=by rw[<- hzs,qa];exact ok.b12
      have ha8:∀ G,Lst (S6++G) a (zs.map D.str):=fun G=>ha6.old
      refine Cy (ha8 _) Lst.new (by rw[qa];unfold big;simp;lia) ?_;rw[show zs.map D.str++[D.str "nobody"]=(zs++[("nobody":Str)]).map D.str by rw[qD];rfl];have l1:(zs++[("nobody":Str)]).length=zs.length+1:=by rw[qg];rfl
      have fl1:∀ z∈zs++[("nobody":Str)],fl 20 (.str z)=true:=fun z hz=>by
        rcases qC.mp hz with h|h
        . exact flz z h
        . rw[qJ.mp h];decide +kernel
      generalize zs++[("nobody":Str)]=z1 at l1 fl1;refine Xh ?_;obtain⟨X1,hX1⟩:∃ X1:Z7,X1=G++[Cell.lst [D.str "nobody"]]:=⟨_,rfl⟩
      rw[<- hX1];have kz1:Lst (S6++(X1++[Cell.lst (z1.map D.str)])) (.ref (S6.length+X1.length)) (z1.map D.str):=Lst.new;have ha9:=ha8 (X1++[Cell.lst (z1.map D.str)]);have lp:(0:Int)<((zs.map D.str).length:Nat)+1:=by lia
      walk_at"g";rw[qa];have p1:=UG (t/6+(i:Int)+(0+(j:Int))) (show((zs.length:Nat):Int)+1≠0 by lia);have p2:=R8 (t/6+(i:Int)+(0+(j:Int))) (show(0:Int)<((zs.length:Nat):Int)+1 by lia);generalize (t/6+(i:Int)+(0+(j:Int)))%((zs.length:Int)+1)=x1 at p1 p2;obtain⟨one,mo,at1⟩:=Bl (zs:=z1) p1 (by lia);have fo:=fl1 one mo;have e7:∀ T,S6++(X1++[Cell.lst (z1.map D.str)]++T)=S6++(X1++([Cell.lst (z1.map D.str)]++T)):=fun T=>by rw[qj X1]
      walk_at"g";obtain⟨X2,hX2⟩:∃ X2:Z7,X2=X1++[Cell.lst (z1.map D.str)]:=⟨_,rfl⟩
      rw[<- hX2];refine Cy (ha8 _) Lst.new (by rw[qa];unfold big;simp;lia) ?_;rw[show zs.map D.str++[D.str "",D.str one]=(zs++[("":Str),one]).map D.str by rw[qD];rfl];have l2:(zs++[("":Str),one]).length=zs.length+2:=by rw[qg];rfl
      have fl2:∀ z∈zs++[("":Str),one],fl 20 (.str z)=true:=fun z hz=>by
        rcases qC.mp hz with h|h
        . exact flz z h
        . rcases ql.mp h with h|h
          . rw[h];decide +kernel
          . rw[qJ.mp h];exact fo
      generalize zs++[("":Str),one]=z2 at l2 fl2;refine Xh ?_;obtain⟨X3,hX3⟩:∃ X3:Z7,X3=X2++[Cell.lst [D.str "",D.str one]]:=⟨_,rfl⟩
      rw[<- hX3];have kz2:Lst (S6++(X3++[Cell.lst (z2.map D.str)])) (.ref (S6.length+X3.length)) (z2.map D.str):=Lst.new;have ha10:=ha8 (X3++[Cell.lst (z2.map D.str)]);have lp2:(0:Int)<((zs.map D.str).length:Nat)+2:=by lia
      have cm:YZ 3 (i:Int):=.inr (.inl (by decide));walk_at"g";rw[qa];have p3:=UG (t/60+3*(i:Int)+(0+(j:Int))) (show((zs.length:Nat):Int)+2≠0 by lia);have p4:=R8 (t/60+3*(i:Int)+(0+(j:Int))) (show(0:Int)<((zs.length:Nat):Int)+2 by lia);generalize (t/60+3*(i:Int)+(0+(j:Int)))%((zs.length:Int)+2)=x2 at p3 p4;obtain⟨two,mt,at2⟩:=Bl (zs:=z2) p3 (by lia);have ft:=fl2 two mt;walk_at"g";obtain⟨X4,hX4⟩:∃ X4:Z7,X4=X3++[Cell.lst (z2.map D.str)]:=⟨_,rfl⟩
      rw[<- hX4];refine⟨_,_,V,hr,one,two,rfl,hv6.old,ok,fo,ft,fun T w1 d1=>?_⟩;walk_at"g";refine⟨_,y,V,hr,max V.h0 hr,one,two,rfl,hv6.old.old,ok,fo,ft,hn.old.old,hk.old.old,fun h=>by lia,fun T2 w2 d2=>?_⟩;have ew:=d1.uniq d2;subst ew;refine Tw d1.fl d1.fl ?_;rw[decide_eq_true rfl];walk_at"g";exact⟨X4++T++T2,_,_,_,by simp,rfl⟩
    . rintro Z S' ⟨G,w8,w9,w10,rfl,rfl⟩;obtain⟨G',rfl⟩:=e6;walk_at"g";exact⟨G'++G,_,_,_,_,_,_,_,by simp,rfl⟩
  . rintro Z S' ⟨G,w5,w6,w7,w8,w9,w10,w11,rfl,rfl⟩;have hv5:ZD (S2++Cell.lst (hours.map D.int)::G) (.ref vn) V:=hv.old;have ha5:Lst (S2++Cell.lst (hours.map D.int)::G) a (zs.map D.str):=ha2.old;generalize S2++Cell.lst (hours.map D.int)::G=S3 at hv5 ha5;clear kh hle lh hv1 hv2;obtain⟨vn',vg',vb',vf',e',hv3,hv4⟩:=id hv5;cases e';walk_at"g";refine⟨_,V,V.h1,a,zs,rfl,hv5,ok,hzs,ha5,ok.hh,Vs _,fun T3 y hn hk=>?_⟩;have hv6:ZD (S3++T3) (.ref vn) V:=hv5.old;have ha6:Lst (S3++T3) a (zs.map D.str):=ha5.old;generalize S3++T3=S6 at hn hk hv6 ha6;clear hv5 ha5 hv3 hv4;obtain⟨vn',vg',vb',vf',e',hv3,hv4⟩:=id hv6;cases e';have lz:zs.length<=12:=by rw[<- hzs,qa];exact ok.b12
    have l2:=w.l2;obtain⟨z0,m0,a0⟩:=Bl (zs:=zs) (k:=0) (by decide) (by lia);obtain⟨z1,g1⟩:∃ z,zs[zs.length-1]?=some z:=⟨_,qb (by lia)⟩
    have m1:=qd g1;have a1:Zh (zs.map D.str) (-1)=some (.str z1):=vp (by rw[qa,qk,g1];rfl)
    have nx:(Jq "x" 9)∉V.bs.map (·.1):=fun z=>by obtain⟨b,hb,e⟩:=qE.mp z;have:=(Ij.mp (ok.nm b hb)).2.1;rw[e]at this;exact absurd this (by decide +kernel)
    have fx:fl 20 (.str (Jq "x" 9))=true:=by decide +kernel
    have fh:fl 20 (.str "hour")=true:=by decide +kernel
    have fn:fl 20 (.str "name")=true:=by decide +kernel
    have fb:fl 20 (.str "beside")=true:=by decide +kernel
    walk_at"g";rw[show[D.int (V.h1+1),D.int (V.h1+1+t)]=[V.h1+1,V.h1+1+t].map D.int from rfl];obtain⟨hrs,hhr⟩:∃ hrs:List Int,hrs=[V.h1+1,V.h1+1+t]:=⟨_,rfl⟩
    have hgt:∀ x∈hrs,V.h1<x:=fun x hx=>by rw[hhr]at hx;simp only[ql,qK,or_false]at hx;rcases hx with rfl|rfl<;>lia
    rw[<- hhr];have kr:∀ G,Lst (S6++Cell.lst (hrs.map D.int)::G) (.ref S6.length) (hrs.map D.int):=fun G=>Lst.at0
    clear hhr;refine Yq (fun i Z S'=>∃ (G:Z7) (w6 w11:Option D),S'=S6++Cell.lst (hrs.map D.int)::G/\Z=[some (.rl (ns.map D.int)),some (.tup [a,b,c,.int hz,.int f,.int (f+5)]),some a,some (.ref vn),some (.int t),w5,w6,some y,w8,w9,w10,w11]) ⟨[],_,_,rfl,rfl⟩ (by rintro i Z S' ⟨G,_,_,e,_⟩;exact e▸kr G) ?_ ?_
    . rintro i d Z S' hd ⟨G,w6,w11,rfl,rfl⟩;obtain⟨hr,hm,rfl⟩:=R7 hd;have hr1:=hgt hr (qd hm);walk_at"g";refine⟨_,rfl,by decide,by decide,?_⟩;refine Yq (fun j Z S'=>∃ (G:Z7) (w11:Option D),S'=S6++Cell.lst (hrs.map D.int)::G/\Z=[some (.rl (ns.map D.int)),some (.tup [a,b,c,.int hz,.int f,.int (f+5)]),some a,some (.ref vn),some (.int t),w5,some (.int hr),some y,w8,w9,w10,w11]) ⟨G,_,rfl,rfl⟩ (fun _ _ _ _=>True.intro) ?_ ?_
      . clear G w11;rintro j d Z S' hd ⟨G,w11,rfl,rfl⟩;obtain⟨hj,rfl⟩:=LQ hd;have hv7:ZD (S6++Cell.lst (hrs.map D.int)::G) (.ref vn) V:=hv6.old;have ha7:∀ T,Lst (S6++Cell.lst (hrs.map D.int)::G++T) a (zs.map D.str):=fun T=>ha6.old.old
        have ha8:=ha7 [];rw[qS]at ha8;walk_at"g";refine⟨_,_,V,hr,_,_,rfl,hv7,ok,flz _ m0,flz _ m1,fun T w1 d1=>?_⟩;have e1:w1="hour":=d1.uniq (.inr (.inl ⟨hzs.symm▸m0,hzs.symm▸m1,fun z=>by lia,rfl⟩));subst e1;have ha9:=ha7 T;walk_at"g";refine Tw fh fh ?_;rw[decide_eq_true rfl];walk_at"g";refine ę (by decide +kernel) (by decide) (by decide) ?_;walk_at"g";refine⟨_,_,V,hr,_,_,rfl,hv7.old,ok,flz _ m0,fx,fun T2 w2 d2=>?_⟩;have e2:w2="name":=d2.uniq (.inl ⟨.inr nx,rfl⟩);subst e2;walk_at"g";refine Tw fn fn ?_;rw[decide_eq_true rfl];walk_at"g";exact⟨G++T++T2,_,by simp,rfl⟩
      . rintro Z S' ⟨G,w11,rfl,rfl⟩;walk_at"g";exact⟨G,_,_,rfl,rfl⟩
    . rintro Z S' ⟨G,w6,w11,rfl,rfl⟩;have ha7:Lst (S6++Cell.lst (hrs.map D.int)::G) a (zs.map D.str):=ha6.old;have hv7:ZD (S6++Cell.lst (hrs.map D.int)::G) (.ref vn) V:=hv6.old;have hn7:TX (S6++Cell.lst (hrs.map D.int)::G) y V V.h1:=hn.old;generalize S6++Cell.lst (hrs.map D.int)::G=S7 at ha7 hv7 hn7;walk_at"g";rw[O8];obtain⟨L,hL⟩:∃ L,L=cutD zs none (some 2):=⟨_,rfl⟩
      have mL:∀ z∈L,z∈zs:=fun z hz=>by rw[hL]at hz;exact List.mem_of_mem_drop (QT hz)
      rw[<- hL];have kL:∀ G,Lst (S7++Cell.lst (L.map D.str)::G) (.ref S7.length) (L.map D.str):=fun G=>Lst.at0
      refine Yq (fun i Z S'=>∃ (G:Z7) (w9:Option D),S'=S7++Cell.lst (L.map D.str)::G/\Z=[some (.rl (ns.map D.int)),some (.tup [a,b,c,.int hz,.int f,.int (f+5)]),some a,some (.ref vn),some (.int t),w5,w6,some y,w8,w9,w10,w11]) ⟨[],_,rfl,rfl⟩ (by rintro i Z S' ⟨G,_,e,_⟩;exact e▸kL G) ?_ ?_
      . clear G;rintro i d Z S' hd ⟨G,w9,rfl,rfl⟩;obtain⟨one,ho,rfl⟩:=Ye hd;have mo:=mL one (qd ho);obtain⟨m,ys,hg,hm,ynd,hy⟩:=TX.get (hn7.old (T:=Cell.lst (L.map D.str)::G)) (hzs.symm▸mo);have hv8:ZD (S7++Cell.lst (L.map D.str)::G) (.ref vn) V:=hv7.old;obtain⟨S8,hS8⟩:∃ S8:Z7,S8=S7++Cell.lst (L.map D.str)::G:=⟨_,rfl⟩
        rw[<- hS8]at hg hm hv8 ⊢;have ly:ys.length<=12:=qZ (Qc (N:=zs) ynd fun z hz=>hzs▸(Mw ((hy z).mp hz).2).2) lz;have km:∀ T,Lst (S8++T) (.ref m) (ys.map D.str):=fun T=>Lst.here (zF hm)
        have km0:=km [];rw[qS]at km0;walk_at"g";refine⟨_,hg,?_⟩;walk_at"g";refine Oe (fun k us S'=>∃ G2:Z7,S'=S8++G2/\us=(List.replicate k true).map D.bl) ⟨[],by simp,rfl⟩ (by rintro k us S' ⟨G2,e,_⟩;exact e▸km G2) (by rw[qa];unfold big;lia) ?_ ?_
        . rintro k d us S' hd' ⟨G2,rfl,rfl⟩;obtain⟨two,h2,rfl⟩:=Ye hd';obtain⟨ne,aD⟩:=(hy two).mp (qd h2);have hv9:ZD (S8++G2) (.ref vn) V:=hv8.old;obtain⟨vn',vg',vb',vf',e',hv10,hv11⟩:=id hv9;cases e';walk_at"g";refine⟨_,_,V,V.h1,_,_,rfl,hv9,ok,flz _ mo,ok.flN _ (Mw aD).2,fun T w1 d1=>?_⟩;have e1:w1="beside":=d1.uniq (.inr (.inr (.inl ⟨hzs.symm▸mo,(Mw aD).2,ok.hh,Vs _,aD,rfl⟩)));subst e1;walk_at"g";refine JZ fb fb ?_;rw[decide_eq_true rfl];walk_at"g";exact⟨G2++T,by rw[qj],by rw[show List.replicate (k+1) true=List.replicate k true++[true]from List.replicate_succ',qD];rfl⟩
        rintro us S' ⟨G2,rfl,rfl⟩;refine Xh ?_;walk_at"g";refine La Lst.new ?_;rw[show((List.replicate (ys.map D.str).length true)).all id=true by simp];walk_at"g";exact⟨G++(G2++[Cell.lst ((List.replicate (ys.map D.str).length true).map D.bl)]),_,by rw[hS8];simp,rfl⟩
      . rintro Z S' ⟨G,w9,rfl,rfl⟩;walk_at"g";exact fin_same (q _)
end Dp
namespace Law
open PySem PySem.Spec PyProof.Rows L2 My Dp
def top (i:Nat):Stmt:=PySem.Challenge.pw_beaconvale_k82_beside_and_none.main.body.getD i (.Pass ⟨0,0,0,0⟩)
def bs:List (Str×Y5):=[ent "len" (.blt .len),
 ent "range" (.blt .range),
 ent "enumerate" (.blt .enum),
 ent "list" (.blt .list),
 ent "all" (.blt .all),
 ent "set" (.blt .set),
 ent "abs" (.blt .abs),
 ent "int" (.blt .int),
 ent "isinstance" (.blt .isi),
 ent "bool" (.blt .bool),
 ent "tuple" (.blt .tuple),
 ent "zip" (.blt .zip),
 ent "min" (.blt .min),
 ent "max" (.blt .max),
 ent "LEAST_CORNERS" (.int 2),
 ent "MOST_CORNERS" (.int 40),
 ent "MOST_BEACONS" (.int 12),
 ent "MOST_FOGS" (.int 12),
 ent "MOST_LETTERS" (.int 8),
 ent "LETTERS" (.str "abcdefghijklmnopqrstuvwxyz"),
 ent "NUMBERS" (.int 8),
 ent "LEFT" (.int 0),
 ent "RIGHT" (.int 1),
 ent "LOW" (.int 2),
 ent "HIGH" (.int 3),
 ent "FIRST" (.int 4),
 ent "LAST" (.int 5),
 ent "DRIFT" (.int 6),
 ent "RISE" (.int 7),
 ent "INWARD" (.int 0),
 ent "OUTWARD" (.int 1)]
def F:List (Str×Stmt×Y5):=[zG "_law_cell_at" (top 82) (.fn 1 ["script","k"] J1),
 zG "_law_mixed" (top 83) (.fn 1 ["cell","k"] Mr),
 zG "_law_seeds" (top 84) (.fn 2 ["cells","most"] Dd),
 zG "_law_web_parts" (top 85) (.fn 3 ["script"] Hx),
 zG "refuse_bad_corners" (top 37) (.fn 1 ["corners"] Hh),
 zG "refuse_bad_numbers" (top 51) (.fn 1 ["beacons","fogs"] Gu),
 zG "is_name" (top 50) (.fn 1 ["text"] Ga),
 zG "refuse_bad_names" (top 52) (.fn 2 ["names"] CN),
 zG "less" (top 31) (.fn 1 ["one","other"] P0),
 zG "is_on" (top 39) (.fn 2 ["ground","place"] Ia),
 zG "common_divisor" (top 29) (.fn 1 ["one","other"] Ef),
 zG "fraction" (top 30) (.fn 2 ["top","bottom"] Gf),
 zG "height_on" (top 33) (.fn 3 ["one","other","place"] Cg),
 zG "ground_at" (top 40) (.fx 4 ["ground","place"] Eo),
 zG "stands" (top 41) (.fn 5 ["ground","spot"] Jg),
 zG "refuse_bad_tops" (top 53) (.fn 6 ["ground","beacons"] Dc),
 zG "is_whole" (top 12) (.fn 1 ["value"] CT),
 zG "is_fog" (top 23) (.fn 2 ["value"] GZ),
 zG "refuse_bad_fogs" (top 54) (.fn 3 ["fogs"] FJ),
 zG "refuse_bad_hours" (top 55) (.fn 1 ["haze","first","last","delay"] Ci),
 zG "_law_valley" (top 86) (.fn 9 ["parts"] Gx),
 zG "refuse_no_hour" (top 60) (.fx 1 ["valley","hour"] J2),
 zG "names_of" (top 57) (.fn 1 ["valley"] Vp),
 zG "pairs_of" (top 58) (.fn 2 ["valley"] Dl),
 zG "spot_of" (top 59) (.fx 1 ["valley","name"] Jo),
 zG "refuse_not_standing" (top 42) (.fx 6 ["ground","spot"] Ji),
 zG "numbers_between" (top 43) (.fn 1 ["ground","x","other_x"] FQ),
 zG "side_of" (top 32) (.fn 1 ["one","other","spot"] Fe),
 zG "hinder" (top 44) (.fx 7 ["ground","one","other"] BX),
 zG "square_between" (top 61) (.fn 1 ["one","other"] Dw),
 zG "hidden_always" (top 62) (.fn 8 ["valley","one","other"] Gh),
 zG "moved" (top 24) (.fn 1 ["fog","hours"] GJ),
 zG "box_at" (top 25) (.fn 2 ["fog","hour"] Ho),
 zG "margins" (top 26) (.fn 1 ["box","one","other"] Cm),
 zG "meets" (top 27) (.fn 2 ["box","one","other"] Dy),
 zG "hidden" (top 63) (.fx 9 ["valley","name","other","hour"] Qu),
 zG "web_at" (top 64) (.fx 10 ["valley","hour"] JN),
 zG "_law_near" (top 87) (.fn 11 ["valley","hour","names"] Ks),
 zG "refuse_beside" (top 69) (.fx 10 ["valley","hour","name","other"] Qk),
 zG "others_than" (top 70) (.fn 2 ["valley","name","other"] NQ),
 zG "room_at_first" (top 71) (.fn 11 ["valley","hour","name","other"] Ez),
 zG "points_from" (top 72) (.fn 1 ["room","start"] Lr),
 zG "take_road" (top 73) (.fn 1 ["room","found","goal"] Fj),
 zG "room_at_last" (top 74) (.fn 12 ["valley","hour","name","other"] Hu),
 zG "steps_taken" (top 75) (.fn 2 ["valley","room","one"] JV),
 zG "roads_taken" (top 76) (.fn 3 ["valley","room","name","other"] Hv),
 zG "roads_and_keepers" (top 77) (.fx 13 ["valley","hour","name","other"] Fw),
 zG "road_stands" (top 78) (.fx 11 ["valley","hour","name","other","road"] BK),
 zG "company_without" (top 65) (.fn 10 ["valley","hour","name","barred"] Ko),
 zG "keeps_apart" (top 79) (.fx 11 ["valley","hour","name","other","names"] G8),
 zG "lone_keepers" (top 80) (.fx 11 ["valley","hour","name","other"] BW),
 zG "_law_asked" (top 89) (.fx 14 ["deed","valley","hour","one","two"] GR),
 zG "_law_told" (top 90) (.fn 15 ["deed","valley","hour","one","two"] Qf),
 zG "_law_due" (top 91) (.fn 1 ["valley","near","hour","one","two"] Ds),
 zG "law" (top 92) (.fn 16 ["script"] Qj)]
def C:List (Str×Stmt×Y5):=[zG "Ground" (inClass (top 38) 0) (.cl 2 (R9 "Ground" Hy)),
 zG "Valley" (inClass (top 56) 0) (.cl 7 (R9 "Valley" Dk))]
def G:Gm:={ g:=bs++(F++C).map fun r=>(r.1,r.2.2),r:=["OffGround","BadHour","NoBeacon","Beside"],t:=[("ValeError",["BadGround","OffGround","BadFog","BadName","Twice","TooMany","BadHour","NoBeacon","Beside"])],i:=[("ValueError",[("BadGround",true),("OffGround",true),("BadFog",true),("BadName",true),("Twice",true),("TooMany",true),("BadHour",true),("NoBeacon",true),("Beside",true)]),("NoBeacon",[("BadGround",false),("OffGround",false),("BadFog",false),("BadName",false),("Twice",false),("TooMany",false),("BadHour",false),("NoBeacon",true),("Beside",false)]),("BadHour",[("BadGround",false),("OffGround",false),("BadFog",false),("BadName",false),("Twice",false),("TooMany",false),("BadHour",true),("NoBeacon",false),("Beside",false)]),("Beside",[("BadGround",false),("OffGround",false),("BadFog",false),("BadName",false),("Twice",false),("TooMany",false),("BadHour",false),("NoBeacon",false),("Beside",true)])],f:=[("Ground","corners"),("Valley","ground"),("Valley","beacons"),("Valley","fogs"),("Valley","haze"),("Valley","first"),("Valley","last"),("Valley","delay")] }
def R:Jk G [] bs F C:=⟨rfl,
 .cons (.fn (M:=[]) zhu [] false (by kernel_rfl)) <|
 .cons (.fn (M:=["big"]) fJ [] false (by kernel_rfl)) <|
 .cons (.fn (M:=["seeds","k","cell","at"]) ziX [] false (by kernel_rfl)) <|
 .cons (.fn (M:=["head","count","seeds","spots","names","haze","first","fogs","seed","m","begin","box"]) dR [] false (by kernel_rfl)) <|
 .cons (.fn (M:=["k"]) gJ [] false (by kernel_rfl)) <|
 .cons (.fn (M:=[]) Ŷ [] false (by kernel_rfl)) <|
 .cons (.fn (M:=[]) Ì [] false (by kernel_rfl)) <|
 .cons (.fn (M:=[]) jH [] false (by kernel_rfl)) <|
 .cons (.fn (M:=[]) ĭ [] false (by kernel_rfl)) <|
 .cons (.fn (M:=["first","last"]) znY [] false (by kernel_rfl)) <|
 .cons (.fn (M:=["rest"]) zf3 [] false (by kernel_rfl)) <|
 .cons (.fn (M:=["divisor"]) á [] false (by kernel_rfl)) <|
 .cons (.fn (M:=["run","rise","top"]) aG [] false (by kernel_rfl)) <|
 .cons (.fx (M:=["corners","k"]) iR [] false (by kernel_rfl)) <|
 .cons (.fn (M:=["place"]) eU [] false (by kernel_rfl)) <|
 .cons (.fn (M:=[]) zfD [] false (by kernel_rfl)) <|
 .cons (.fn (M:=[]) gF [] false (by kernel_rfl)) <|
 .cons (.fn (M:=[]) zl2 [] false (by kernel_rfl)) <|
 .cons (.fn (M:=[]) cZ [] false (by kernel_rfl)) <|
 .cons (.fn (M:=[]) cD [] false (by kernel_rfl)) <|
 .cons (.fn (M:=["names","spots","fogs","haze","first","last","beacons"]) Ϫ [] false (by kernel_rfl)) <|
 .cons (.fx (M:=[]) jm [] false (by kernel_rfl)) <|
 .cons (.fn (M:=[]) ao [] false (by kernel_rfl)) <|
 .cons (.fn (M:=["names","found","k","name","other"]) cN [] false (by kernel_rfl)) <|
 .cons (.fx (M:=["beacon"]) zlC [] false (by kernel_rfl)) <|
 .cons (.fx (M:=[]) ś [] false (by kernel_rfl)) <|
 .cons (.fn (M:=["low","high"]) zfu [] false (by kernel_rfl)) <|
 .cons (.fn (M:=["run","rise","over"]) zkY [] false (by kernel_rfl)) <|
 .cons (.fx (M:=["k"]) zmK [] false (by kernel_rfl)) <|
 .cons (.fn (M:=["run","climb"]) Į [] false (by kernel_rfl)) <|
 .cons (.fn (M:=["corner","square"]) zgx [] false (by kernel_rfl)) <|
 .cons (.fn (M:=["along","upwards"]) Č [] false (by kernel_rfl)) <|
 .cons (.fn (M:=[]) aM [] false (by kernel_rfl)) <|
 .cons (.fn (M:=["run","climb","corners","across"]) aO [] false (by kernel_rfl)) <|
 .cons (.fn (M:=[]) è [] false (by kernel_rfl)) <|
 .cons (.fx (M:=["one_top","other_top","found","k","fog","box"]) Ą [] false (by kernel_rfl)) <|
 .cons (.fx (M:=[]) zmi [] false (by kernel_rfl)) <|
 .cons (.fn (M:=["near","name","one","two"]) zke [("near",some true)] false (by kernel_rfl)) <|
 .cons (.fx (M:=[]) η [] false (by kernel_rfl)) <|
 .cons (.fn (M:=[]) zhz [] false (by kernel_rfl)) <|
 .cons (.fn (M:=["room","each","plenty","one","another"]) Ļ [("room",none)] false (by kernel_rfl)) <|
 .cons (.fn (M:=["found","waiting","point","step","left"]) Ŭ [("room",none),("found",some false)] false (by kernel_rfl)) <|
 .cons (.fn (M:=["point","ahead"]) lQ [("room",none),("found",some false)] false (by kernel_rfl)) <|
 .cons (.fn (M:=["room","found"]) aU [("room",none),("found",some false)] false (by kernel_rfl)) <|
 .cons (.fn (M:=[]) ż [("room",none)] false (by kernel_rfl)) <|
 .cons (.fn (M:=["roads","start","road","each"]) je [("room",none)] false (by kernel_rfl)) <|
 .cons (.fx (M:=["room","found","keepers"]) aC [("room",none),("found",some false)] false (by kernel_rfl)) <|
 .cons (.fx (M:=["names"]) zhT [] false (by kernel_rfl)) <|
 .cons (.fn (M:=["found","k","other"]) Ε [] false (by kernel_rfl)) <|
 .cons (.fx (M:=["others"]) Ň [] false (by kernel_rfl)) <|
 .cons (.fx (M:=["others"]) Ř [] false (by kernel_rfl)) <|
 .cons (.fx (M:=[]) ziN [] false (by kernel_rfl)) <|
 .cons (.fn (M:=["kinds","e","k","word"]) lN [] false (by kernel_rfl)) <|
 .cons (.fn (M:=[]) zle [("near",some true)] false (by kernel_rfl)) <|
 .cons (.fn (M:=["parts","names","valley","turn","k","hour","near","j","one","two","deed"]) ă [("near",some true)] false (by kernel_rfl)) <| .nil,
 .cons (.cl (ps:=["self","corners"]) (M:=[]) zhC (by kernel_rfl)) <|
 .cons (.cl (ps:=["self","ground","beacons","fogs","haze","first","last","delay"]) (M:=[]) ĕ (by kernel_rfl)) <| .nil⟩
def eN:(("law":Str),top 92,Y5.fn 16 ["script"] Qj)∈F:=by simp[F]
end Law
local macro_rules | `(tactic| walk_at"al")=>`(tactic| first | exact Dp.Al.nil | (refine Dp.Al.cons ?_ ?_;((try dsimp only[Dp.zG,Dp.ent]);walk_at"a1");walk_at"al"))
local macro_rules | `(tactic| walk_at"a1")=>`(tactic| first | (refine Dp.Υ rfl ?_;k_is) | (refine' Dp.Ŗ ?a;(case a=>k_is)) | (refine' Dp.lR ?a;(case a=>k_is)) | (refine' Dp.Ă ?fa ?fl ?fc ?fk;(case fa=>k_is);(case fl=>k_is);(case fc=>k_is);(case fk=>k_is)) | (refine' Dp.ł ?a ?q2 ?l ?cc ?k ?q1 ?q3 ?q4 ?q5 ?q6 ?q7 ?q8;(case a=>k_is);(case q2=>k_is);(case l=>k_is);(case cc=>k_is);(case k=>k_is);(case q1=>k_is);(case q3=>k_is);(case q4=>k_is);(case q5=>k_is);(case q6=>k_is);(case q7=>k_is);(case q8=>k_is)) | (refine' Dp.ï ?a ?b;(case a=>k_is);(case b=>kernel_rfl)) | (refine' Dp.Η ?a ?b;(case a=>k_is);(case b=>k_is)) | (refine' Dp.jr ?a ?b;(case a=>k_is);(case b=>walk_at"al")) | (refine' Dp.zt2 ?a ?b;(case a=>k_is);(case b=>kernel_rfl)) | (refine' Dp.d7 ?a ?b;(case a=>k_is);(case b=>walk_at"al")) | (refine' Dp.zqw ?a ?b ?c;(case a=>k_is);(case b=>rfl);(case c=>walk_at"al")) | (refine' Dp.zuT ?a ?b ?c;(case a=>k_is);(case b=>kernel_rfl);(case c=>kernel_rfl)))
open PySem PySem.W PyProof.Rows
namespace PySem.W.Fast
def tw7748552762115304635:=Prop
def tw4906769968371811158:=Prop
def tw14342039498896897764:=Prop
def tw12229136793393460324:=Prop
def tw8344584783046568955:=Prop
def tw5970102536290448028:=Prop
def tw8372269062282150286:=Prop
def tw4299659815812507060:=Prop
def tw16217619779328527910:=Prop
def tw8943240254803964314:=Prop
def tw6276553020027595677:=Prop
def tw17195761414651118615:=Prop
def tw3709195893261996244:=Prop
def tw3410842817085796347:=Prop
def tw17153612537960381025:=Prop
def tw3525999718316779345:=Prop
def tw16973580781644777540:=Prop
def tw4256688487185235835:=Prop
def tw9261193145796995137:=Prop
def tw15129275703888241573:=Prop
def tw17476152719860567423:=Prop
def tw14331052266922253186:=Prop
def tw14207726959321924012:=Prop
def tw11390935751069872895:=Prop
def tw3456280253356030887:=Prop
def tw9965005482856913992:=Prop
def tw17464104230596243883:=Prop
def tw8035297075046449144:=Prop
def tw17599821906909806726:=Prop
def tw1444280487202281381:=Prop
def tw9103364595439666088:=Prop
def tw692145462087282195:=Prop
def tw14264652806792654651:=Prop
def tw17832360438187170144:=Prop
def tw13883772759229578194:=Prop
def tw2542576458074682858:=Prop
def tw6150536184355713678:=Prop
def tw9595235075832964856:=Prop
def tw10412465186743505606:=Prop
def tw235342985579176905:=Prop
def tw9157303638659570132:=Prop
def tw1122958882035945852:=Prop
def tw6069861157816845079:=Prop
def tw5464082072814834248:=Prop
def tw8773429460854178366:=Prop
def tw6647956501629387230:=Prop
def tw13396959692653484723:=Prop
def tw16898113699871807149:=Prop
def tw3570215498692284653:=Prop
def tw4023625869276988195:=Prop
def tw1845584169492383154:=Prop
def tw1201854357250588858:=Prop
def tw10159821928218194625:=Prop
def tw12355451083374476580:=Prop
def tw13647790514287826537:=Prop
def tw16537633345943383139:=Prop
def tw1024010176140384357:=Prop
def tw10624870629951692210:=Prop
def tw15100372367980486981:=Prop
def tw18248428909275419548:=Prop
def tw143998342417798653:=Prop
def tw4414555521075351993:=Prop
def tw18417096723060504262:=Prop
def tw14386837940496149859:=Prop
def tw13137587116877007179:=Prop
def tw6481645511106093006:=Prop
def tw18418132748770206000:=Prop
def tw10137462316656006614:=Prop
def tw16944240115111243031:=Prop
def tw4773578130088572376:=Prop
def tw8857168272794110959:=Prop
def tw2015599683851604762:=Prop
def tw14737481788778850662:=Prop
def tw6073365702005313589:=Prop
def tw6210225999872394280:=Prop
def tw11948563060258704105:=Prop
def tw4936996232769825640:=Prop
def tw12477012264311050971:=Prop
def tw9513046142225810906:=Prop
def tw5809313378975249481:=Prop
def tw18408528244108015688:=Prop
def tw4335943684699748800:=Prop
def tw2963745051216921889:=Prop
def tw399415976908667077:=Prop
def tw16759271090419411094:=Prop
def tw17772454997783961266:=Prop
def tw535640515317676356:=Prop
def tw8138972199768654202:=Prop
def tw10067351579673821568:=Prop
def tw16680285358942568694:=Prop
def tw17509602157374994145:=Prop
def tw9159144427026935642:=Prop
def tw9248776918596499807:=Prop
def tw15330155269689609124:=Prop
def tw2177034166799175372:=Prop
def tw8075819898264683679:=Prop
def tw6163637452183514036:=Prop
def tw10364793416094932945:=Prop
def tw3519084304625591034:=Prop
def tw5538127416775055242:=Prop
def tw4438090271952426010:=Prop
def tw6035078963532249587:=Prop
def tw17286449615750782223:=Prop
def tw16461655599713902162:=Prop
def tw16184693382005680248:=Prop
def tw4366709518545019464:=Prop
def tw8566521613479871728:=Prop
def tw7133930364108044833:=Prop
def tw14418705379273490121:=Prop
def tw6408516027090717276:=Prop
def tw4488015653194429490:=Prop
def tw6727501517535292739:=Prop
def tw12332720279520465718:=Prop
def tw791522894252327785:=Prop
def tw11761696048100255272:=Prop
def tw367435638064562007:=Prop
def tw8771721093054033817:=Prop
def tw8346157173837743043:=Prop
def tw13978027032269803238:=Prop
def tw11792218800031694224:=Prop
def tw12160168918194780907:=Prop
def tw17921112445026592668:=Prop
def tw281810350985019882:=Prop
def tw5358115042643472029:=Prop
def tw6945671305492459657:=Prop
def tw1262679063305385693:=Prop
def tw7218587749400164742:=Prop
def tw18265983190028541021:=Prop
def tw6351694859536863573:=Prop
def tw3066627523604127864:=Prop
def tw10907148307365004375:=Prop
def tw10281558770556088122:=Prop
def tw7646054499307627011:=Prop
def tw16336607395172714205:=Prop
def tw17188968799653124224:=Prop
def tw7173931315314917170:=Prop
def tw8520485737987312608:=Prop
def tw12361794558306932851:=Prop
def tw3851722892179688299:=Prop
def tw16930755845455133783:=Prop
def tw14849169133050413474:=Prop
def tw16819212061959188292:=Prop
def tw13223580830399983943:=Prop
def tw17855003949596931291:=Prop
def tw8024111026325444810:=Prop
def tw6241525353477020245:=Prop
def tw17536037519020473920:=Prop
def tw11402828894065749240:=Prop
def tw114177649097799469:=Prop
def tw11188380762379074400:=Prop
def tw10965784552121150424:=Prop
def tw1146751451707584158:=Prop
def tw9496070011873927140:=Prop
def tw6294661819654474905:=Prop
def tw1344725754595694748:=Prop
def tw11066614566138615081:=Prop
def tw8933917864779842315:=Prop
def tw7206096898916108524:=Prop
def tw15862743456605006551:=Prop
def tw13170202634053877505:=Prop
def tw7386659561657198372:=Prop
def tw13410809948656749281:=Prop
def tw6114738154864351732:=Prop
def tw11432657011827419266:=Prop
def tw14258462446260378685:=Prop
def tw109538565251438974:=Prop
def tw12973209307297353467:=Prop
def tw8327967992429168825:=Prop
def tw5130792744684726403:=Prop
def tw7620202065839929986:=Prop
def tw10494793106676099310:=Prop
def tw18241004606633938848:=Prop
def tw17146126360035331561:=Prop
def tw8936577353608019633:=Prop
def tw671352832975724326:=Prop
def tw65114559982871187:=Prop
def tw15546515329897525010:=Prop
def tw10026136046207334168:=Prop
def tw8467270345645973325:=Prop
def tw2548517061685997474:=Prop
def tw16560728757432345335:=Prop
def tw13736035968197857186:=Prop
def tw17326021877699535781:=Prop
def tw8590708783338493853:=Prop
def tw7576858222966594260:=Prop
def tw6769593805850444186:=Prop
def tw18014889323085126758:=Prop
def tw17566053861543297596:=Prop
def tw17483429862584002013:=Prop
def tw13322772870246600017:=Prop
def tw11347190033900112492:=Prop
def tw10615830918652989658:=Prop
def tw7429003335016889099:=Prop
def tw12902459943948960237:=Prop
def tw15745150647032381162:=Prop
def tw16723583339726523475:=Prop
def tw2562793495583169393:=Prop
def tw8695740758439241949:=Prop
def tw3398205755374646200:=Prop
def tw9028112452540950639:=Prop
def tw4623613175538264135:=Prop
def tw12869144402587334554:=Prop
def tw1898715834836564575:=Prop
def tw5827931853173241072:=Prop
def tw2877467481070420891:=Prop
def tw4592449601365110331:=Prop
def tw5645160216740029515:=Prop
def tw8982017450798477307:=Prop
def tw7520046560040768902:=Prop
def tw6501448275123321133:=Prop
def tw4986240932994236109:=Prop
def tw13462052976560659467:=Prop
def tw6852654501047792563:=Prop
def tw2943654592739942932:=Prop
def tw1306642616893518154:=Prop
def tw12706122347311857408:=Prop
def tw9025379381604212631:=Prop
def tw18309438842682012234:=Prop
def tw3515078635269395375:=Prop
def tw872062191707693377:=Prop
def tw7610910099500706689:=Prop
def tw3387076639055489308:=Prop
def tw3331312054279027142:=Prop
def tw2156806897127071695:=Prop
def tw10099058971163575613:=Prop
def tw8383837065679530428:=Prop
def tw12012371813153434107:=Prop
def tw6381297650229377812:=Prop
def tw18374985061669395236:=Prop
def tw14588895101206473954:=Prop
def tw7739383179465625375:=Prop
def tw5919795206100378807:=Prop
def tw14774712267931094541:=Prop
def tw1080984939624370346:=Prop
def tw8973289190698470343:=Prop
def tw10802228128355258221:=Prop
def tw13053787293859875881:=Prop
def tw740142445791587947:=Prop
def tw4012792225736656380:=Prop
def tw17928793589640204973:=Prop
def tw4068825938077091813:=Prop
def tw8423889326629762749:=Prop
def tw5446502119221336745:=Prop
def tw4700175723039258004:=Prop
def tw3337338830818243865:=Prop
def tw10166164142961125388:=Prop
def tw4307437254685746651:=Prop
def tw10474242029237290583:=Prop
def tw17470365489246261261:=Prop
def tw18115455621113386742:=Prop
def tw17709979649729316844:=Prop
def tw3813303610005189132:=Prop
def tw16191136976943252008:=Prop
def tw16354189993752025093:=Prop
def tw2580415919729074027:=Prop
def tw2175599324293006058:=Prop
def tw1754589339453847558:=Prop
def tw17086686200581574515:=Prop
def tw2064784524999033718:=Prop
def tw10660370595408410815:=Prop
def tw10107598306953574488:=Prop
def tw864623373883027620:=Prop
def tw61069276058094604:=Prop
def tw1184188533674014946:=Prop
def tw10851389253661122931:=Prop
def tw2036710736945829867:=Prop
def tw13872364534787818348:=Prop
def tw11842352139724994526:=Prop
def tw1241127483377960733:=Prop
def tw7966291367669410706:=Prop
def tw2122662174153483868:=Prop
def tw3410131966572253665:=Prop
def tw8961365960729864242:=Prop
def tw13631819345729190389:=Prop
def tw3363488740092219634:=Prop
def tw13648266085294165369:=Prop
def tw9459334785371201724:=Prop
def tw5928017895167651563:=Prop
def tw3122910600707100126:=Prop
def tw15144962188006413779:=Prop
def tw6546006992790590279:=Prop
def tw4602699564152400358:=Prop
def tw4354936283390020316:=Prop
def tw15118056498768595417:=Prop
def tw14869829724494226873:=Prop
def tw4279121413327896004:=Prop
def tw17313061019010812841:=Prop
def tw11497842666225455017:=Prop
def tw15876827278671430630:=Prop
def tw12748702995903988685:=Prop
def tw7289941117453875458:=Prop
def tw1831099379864252266:=Prop
def tw10929726832897173562:=Prop
def tw8444015584176364752:=Prop
def tw1447993229181284853:=Prop
def tw15588970168598318360:=Prop
def tw13118193877419142974:=Prop
def tw3083158128138612998:=Prop
def tw4641543872407914367:=Prop
def tw2134092233921471890:=Prop
def tw4638032840184532389:=Prop
def tw8339412908821888994:=Prop
def tw4936911626373600149:=Prop
def tw10800306261943981547:=Prop
def tw15931830442610621445:=Prop
def tw4476645154466951248:=Prop
def tw4296828080963634922:=Prop
def tw3576046445891556774:=Prop
def tw13558643624344735517:=Prop
def tw7128609984990558643:=Prop
def tw10081850895728448663:=Prop
def tw5312734066622293534:=Prop
def tw2505099000415387037:=Prop
def tw7624481338714266941:=Prop
def tw7254563439063265503:=Prop
def tw1675897993977706796:=Prop
def tw11199338560086070045:=Prop
def tw10179033230120733308:=Prop
def tw3519657844269558262:=Prop
def tw5376454191299482717:=Prop
def tw2485575863117908804:=Prop
def tw14531790121201803374:=Prop
def tw13711550855536342699:=Prop
def tw13314767987963586421:=Prop
def tw13150579498171724851:=Prop
def tw13123028411824666501:=Prop
def tw13070324311031824650:=Prop
def tw12014264212162293808:=Prop
def tw10555992714796543176:=Prop
def tw1533881304596542293:=Prop
def tw6513212080269371635:=Prop
def tw16066062385086861393:=Prop
def tw1313047613642399380:=Prop
def tw17761926593169188853:=Prop
def tw15032570658838532205:=Prop
def tw3563238337460052207:=Prop
def tw16901058461492382865:=Prop
def tw16880739947937749398:=Prop
def tw8936302047996999225:=Prop
def tw927384312814144147:=Prop
def tw1393990497000932427:=Prop
def tw12224959302594613731:=Prop
def tw15171550292593447254:=Prop
def tw11972846470564601548:=Prop
def tw16000246868075290324:=Prop
def tw17460085314767256307:=Prop
def tw5253581230833658256:=Prop
def tw8866570898365414320:=Prop
def tw8134313222601544232:=Prop
def tw5861056524519570670:=Prop
def tw5728488787037642786:=Prop
def tw5266058844883009051:=Prop
def tw4878945909538552328:=Prop
def tw2562981454102637498:=Prop
def tw18106398848886467345:=Prop
def tw1562296322002724722:=Prop
def tw1221972173199690498:=Prop
def tw12095315092437544100:=Prop
def tw11263603700376916341:=Prop
def tw9702914782938150934:=Prop
def tw865726643485997187:=Prop
def tw6123619143437076258:=Prop
def tw5829847342361938196:=Prop
def tw5139750705727242780:=Prop
def tw2816043096889926005:=Prop
def tw2449405770933620427:=Prop
def tw18326801126879248727:=Prop
def tw18044252257032726486:=Prop
def tw16656259801118848159:=Prop
def tw13302623878130944167:=Prop
def tw10094726454324530829:=Prop
def tw15690362903972716046:=Prop
end PySem.W.Fast
set_option maxRecDepth 100000 in
set_option maxHeartbeats 0 in
theorem PySem.Challenge.cw_beaconvale_k82_beside_and_none_holds : PySem.Challenge.rw_beaconvale_k82_beside_and_none.Holds := by
  w_on; o_law; k_head; (case hw => w_witness2)
  k_fill
  refine Dp.Ġ (l := PySem.Challenge.rw_beaconvale_k82_beside_and_none) 15 rfl rfl rfl ⟨rfl, by decide, by decide⟩ (fun w h Y => PySem.W.kIn_of Y) Law.R Law.eN fun w => ?_
  constructor <;> walk_at "al"
#print axioms PySem.Challenge.cw_beaconvale_k82_beside_and_none_holds
