import PyProof.Rows.All
import Wide.All
import OpenK.AllK
import Wide.FinOn
import Lean
import PyProof.EqAt
import PyProof.EqKinds
import PyProof.TupleCall
import PyProof.NeData
import PyProof.P3Eq
import PyProof.StrLawsIn
import PyProof.StrLawsJoin
import PyProof.StrBlockL
import PyProof.Rows.StrSplitCount
import KE.KMinKey
import KE.KLam
import KE.KDictList
import PyProof.DictItems
import PyProof.FactsAll.dict_items
import PyProof.FactsAll.dict_itemiterator
import KE.KPairComp
import PySem.Challenge.RW_beaconvale_k79_whole_roads_and_keepers
set_option Elab.async false
set_option linter.all false
set_option maxRecDepth 100000
set_option maxHeartbeats 4000000
set_option Elab.async false
set_option linter.all false
set_option maxRecDepth 100000
def Ô (h:True:=by rfl):True:=h
def zy:Lean.Syntax:=Ô._auto_1
def lW (h:True:=by decide):True:=h
def zQ:Lean.Syntax:=lW._auto_1
def Ő (h:True:=by with_unfolding_all rfl):True:=h
def Vy:Lean.Syntax:=Ő._auto_1
def ϣ (h:True:=by first|exact .inl rfl|exact .inr rfl|assumption):True:=h
def Rf:Lean.Syntax:=ϣ._auto_1
def d9 (h:True:=by exact V0 rfl):True:=h
def QT:Lean.Syntax:=d9._auto_1
def Ħ (h:True:=by intro _;rfl):True:=h
def Qj:Lean.Syntax:=Ħ._auto_1
def zxP (h:True:=by exact JD rfl):True:=h
def Py:Lean.Syntax:=zxP._auto_1
def iY (h:True:=by exact Uv rfl):True:=h
def Ni:Lean.Syntax:=iY._auto_1
def zyo (h:True:=by decide +kernel):True:=h
def IV:Lean.Syntax:=zyo._auto_1
def kh (h:True:=by first|exact nobehind _ (by decide) (by decide)|rfl):True:=h
def v8:Lean.Syntax:=kh._auto_1
def zw4 (h:True:=by intro _ _;rfl):True:=h
def vh:Lean.Syntax:=zw4._auto_1
def ô (h:True:=by first|exact Or.inl rfl|exact Or.inr rfl):True:=h
def nY:Lean.Syntax:=ô._auto_1
def zwh (h:True:=by first|exact PassesOwn.never|exact PassesOwn.leaving):True:=h
def rQ:Lean.Syntax:=zwh._auto_1
def å (h:True:=by exact Nm rfl rfl):True:=h
def sO:Lean.Syntax:=å._auto_1
def qa:=@List.length_map
def qb:=@List.getElem?_eq_getElem
def qc:=@List.mem_of_getElem?
def qd:=@PySem.Heap.get?_push_of_some
def qe:=@List.getElem?_append_right
def qf:=@List.length_append
def qg:=@List.getElem?_append_left
def qh:=@Nat.le_refl
def qi:=@List.mem_cons_of_mem
def qj:=@List.getElem?_map
def qk:=@List.size_toArray
def ql:=@PySem.Heap.get?_push_size
def qo:=@Bool.false_ne_true
def qq:=@List.append_assoc
def qr:=@List.lookup_cons
def qu:=@List.mem_cons
def qv:=@Bool.and_eq_true
def qw:=@List.mem_map
def qA:=@PySem.Heap.lt_size
def qB:=@List.getElem?_eq_none
def qC:=@List.mem_append
def qD:=@List.map_append
def qE:=@Nat.lt_of_lt_of_le
def qF:=@Option.some.inj
def qG:=@Nat.le_of_ble_eq_true
def qH:=@List.mem_iff_getElem
def qI:=@List.mem_singleton
def qJ:=@List.getD_eq_getElem?_getD
def qK:=@List.length_replicate
def qL:=@List.mem_append_right
def qM:=@List.not_mem_nil
def qN:=@List.mem_cons_self
def qO:=@List.map_cons
def qP:=@List.length_singleton
def qQ:=@List.getElem?_set_ne
def qR:=@List.getElem?_set_self
def qS:=@Nat.ne_of_lt
def qT:=@List.length_cons
def qU:=@List.mem_filter
def qV:=@Nat.le_trans
def qW:=@Nat.lt_or_ge
def qX:=@List.getElem?_eq_some_iff
def qY:=@Nat.zero_le
def qZ:=@Option.map_eq_some_iff
def VR:=@List.mem_append_left
def Xn:=@List.append_nil
def W2:=@List.nodup_append
def Uz:=@List.getElem?_cons_succ
def WX:=@List.length_take
def Yp:=@Nat.sub_self
def Vb:=@Array.length_toList
def WY:=@List.length_set
def Xq:=@Nat.lt_irrefl
def XF:=@List.map_map
def RJ:=@List.pairwise_iff_getElem
def W6:=@PySem.Heap.size_push
def Td:=@List.mem_iff_getElem?
def Vu:=@List.length_range
def U9:=@Bool.false_eq_true
def U3:=@List.mem_filterMap
def V4:=@List.nodup_cons
def Vk:=@List.all_eq_true
def Ve:=@List.take_length
def Ua:=@Nat.lt_of_succ_lt
def VJ:=@Bool.false_and
def Wg:=@List.all_cons
def Rh:=@List.length_filter_le
def RP:=@List.mem_of_mem_take
def Wt:=@Nat.ne_of_gt
def Wy:=@Int.mul_comm
def Uy:=@List.filter_map
def Pu:=@List.set_append_right
def Rv:=@Int.emod_lt_of_pos
def Ov:=@Option.isSome_iff_exists
def Oa:=@List.getElem?_take_of_lt
def Te:=@Bool.eq_iff_iff
def Qi:=@List.filterMap_cons
def M5:=@List.getElem?_replicate
def V1:=@Prod.mk.inj
def Q8:=@List.getElem_inj
def Rc:=@Nat.le_of_not_lt
def SQ:=@Bool.and_false
def R9:=@List.mem_range
def Ph:=@List.filter_append
def Vi:=@Int.neg_neg
def RX:=@Int.emod_nonneg
def Pa:=@Option.isSome_map
def O7:=@List.length_drop
def Pb:=@List.prefix_refl
def U5:=@Int.mul_one
def RW:=@Bool.not_true
def Ow:=@List.lookup_append
def OJ:=@List.length_nil
def Jm:=@Nat.add_sub_cancel_left
def Oi:=@List.prefix_append
def Kp:=@List.filter_cons_of_pos
def Kw:=@List.filter_cons_of_neg
def Ql:=@Bool.or_eq_true
def Mv:=@Int.toNat_natCast
def TQ:=@Int.le_refl
def Ln:=@List.filter_congr
def QW:=@Int.le_of_lt
def Q7:=@Int.mul_zero
def MJ:=@Nat.lt_succ_self
def Od:=@Nat.le_add_right
def Mi:=@List.cons_append
def J6:=@Int.natAbs_of_nonneg
def QJ:=@Nat.add_assoc
def Qf:=@Int.lt_irrefl
def Mh:=@List.of_mem_zip
def QD:=@List.map_nil
def K5:=@List.set_cons_succ
def Oe:=@Int.natAbs_neg
def NK:=@List.forIn_nil
def Df:=@List.mem_or_eq_of_mem_set
def Og:=@Nat.mul_le_mul
def Uh:=@Prod.ext
def Mj:=@List.any_cons
def Qe:=@Int.sub_mul
def P0:=@Int.mul_pos
def HY:=@List.length_eq_zero_iff
def Kz:=@List.getElem_map
def Dj:=@List.take_of_length_le
def Di:=@List.length_pos_of_mem
def Mq:=@Nat.le_of_lt
def Dc:=@Array.getElem?_toList
def KC:=@List.forIn_cons
def qbv:=@List.getElem?_toArray
def M7:=@List.all_map
def Ng:=@Nat.zero_add
namespace L2
open PySem PySem.Spec PyProof.Rows
abbrev Key:=Sum Int Str
def QB:Key->Value->Bool
 |.inl k,v=>Value.isInt k v
 |.inr x,v=>Value.isStrOf x v
def ł (w:World):Key->Int
 |.inl k=>hashInt k
 |.inr x=>hashStr w x
theorem Uo:∀ {k:Key} {v:Value},QB k v=true->(∃ i t,k=Sum.inl i/\v=Value.int i t)\/(∃ x t,k=Sum.inr x/\v=Value.str x t)
 |.inl i,v,h=>by obtain⟨t,e⟩:=Value.isInt_shape (k:=i) (v:=v) h;exact .inl ⟨i,t,rfl,e⟩
 |.inr x,v,h=>by obtain⟨t,e⟩:=Value.isStrOf_shape (x:=x) (v:=v) h;exact .inr ⟨x,t,rfl,e⟩
def ϻ (i:Int)(t:Tok):QB (.inl i) (.int i t)=true:=by simp[QB,Value.isInt]
def gq (x:Str)(t:Tok):QB (.inr x) (.str x t)=true:=by simp[QB,Value.isStrOf]
def cV (a b:Int):decide ((Sum.inl a:Key)=Sum.inl b)=(a==b):=by
 by_cases e:a=b
 ·subst e;simp
 ·have h:¬ (Sum.inl a:Key)=Sum.inl b:=fun q=>e (Sum.inl.inj q)
  rw[decide_eq_false h];exact(beq_eq_false_iff_ne.mpr e).symm
def ztM (a b:Str):decide ((Sum.inr a:Key)=Sum.inr b)=decide (a=b):=by
 by_cases e:a=b
 ·subst e;simp
 ·have h:¬ (Sum.inr a:Key)=Sum.inr b:=fun q=>e (Sum.inr.inj q)
  rw[decide_eq_false h,decide_eq_false e]
def ξ (a:Int)(b:Str):decide ((Sum.inl a:Key)=Sum.inr b)=false:=decide_eq_false (fun q=>nomatch q)
def ę (a:Str)(b:Int):decide ((Sum.inr a:Key)=Sum.inl b)=false:=decide_eq_false (fun q=>nomatch q)
def zN (prog:Program)(w:World):PySem.KeyKind prog w Key where
  is:=QB
  hash:=ł w
  inj:=fun v a b ha hb=>by
    rcases Uo ha with⟨i,t,rfl,rfl⟩|⟨x,t,rfl,rfl⟩
    . rcases Uo hb with⟨j,u,rfl,e⟩|⟨y,u,rfl,e⟩
      . injection e with e1 _;rw[e1]
      . exact nomatch e
    . rcases Uo hb with⟨j,u,rfl,e⟩|⟨y,u,rfl,e⟩
      . exact nomatch e
      . injection e with e1 _;rw[e1]
  byValue:=fun k v h=>by rcases Uo h with⟨i,t,rfl,rfl⟩|⟨x,t,rfl,rfl⟩<;>rfl
  pyHash:=fun hv h=>by
    rcases Uo hv with⟨i,t,rfl,rfl⟩|⟨x,t,rfl,rfl⟩
    . exact wpAny_pyHash_int h
    . exact wpAny_pyHash_str h
  eqBool:=fun hu hv h=>by
    rcases Uo hu with⟨i,t,rfl,rfl⟩|⟨x,t,rfl,rfl⟩
    . rcases Uo hv with⟨j,u,rfl,rfl⟩|⟨y,u,rfl,rfl⟩
      . rw[cV]at h;exact wpAny_eqBool_int h
      . rw[ξ]at h;exact SeqAt.EqAt.int_str i t y u _ _ _ _ h
    . rcases Uo hv with⟨j,u,rfl,rfl⟩|⟨y,u,rfl,rfl⟩
      . rw[ę]at h;exact SeqAt.EqAt.str_int x t j u _ _ _ _ h
      . rw[ztM]at h;exact wpAny_eqBool_str h
  «strs»:=fun k x t v h=>by
    rcases Uo h with⟨i,u,rfl,e⟩|⟨y,u,rfl,e⟩
    . exact nomatch e
    . injection e with e1 _;subst e1;cases v<;>rfl
def lN (prog:Program)(w:World)(i:Int)(t:Tok):(zN prog w).is (.inl i) (.int i t)=true:=ϻ i t
def zj2 (prog:Program)(w:World)(x:Str)(t:Tok):(zN prog w).is (.inr x) (.str x t)=true:=gq x t
end L2
namespace My
open PySem PySem.Spec PyProof.Rows L2
section
variable {prog:Program}{w:World}{K:Type}[DecidableEq K](hk:HeapKind prog w K)
inductive Xi (h:Heap):List K->List Value->Prop
 |nil:Xi h [] []
 |cons {k:K} {b:Addr} {ks:List K} {vs:List Value}:hk.is h k b->Xi h ks vs->Xi h (k::ks) (.ref b::vs)
def Xu (h:Heap)(ks:List K)(a:Addr):Prop:=∃ o items n,h.get? a=some o/\o.cls=.type "tuple"/\o.data=.seq items n/\Xi hk h ks items.toList
variable {hk}
theorem Xi.inj (hx:Xi hk h x vs)(hy:Xi hk h y vs):x=y:=by
 induction hx generalizing y with
 |nil=>cases hy;rfl
 |cons h1 _ ih =>
  cases hy with
  |cons h2 t2=>rw[hk.inj h1 h2,ih t2]
theorem Xi.keeps {d:Addr}{o:Obj}{es ep}(x:Xi hk h ks vs)(ho:h.get? d=some o)(hd:o.data=.dict es ep)(hs:Heap.SameBut d h h'):Xi hk h' ks vs:=by
 induction x with
 |nil=>exact .nil
 |cons h1 _ ih=>exact .cons (hk.keeps h1 ho hd hs) ih
def Xu.typeIs {s:Shared}(x:Xu hk s.heap ks a):s.TypeIs (.ref a) "tuple":=by obtain⟨o,_,_,ho,hc,_⟩:=x;exact⟨o,ho,hc⟩
theorem Xu.inj (hx:Xu hk h x a)(hy:Xu hk h y a):x=y:=by obtain⟨o,items,n,ho,_,hd,hi⟩:=hx;obtain⟨o',items',n',ho',_,hd',hi'⟩:=hy;obtain rfl:o=o':=qF (ho.symm.trans ho');rw[hd]at hd';injection hd' with h1 _;subst h1;exact hi.inj hi'
theorem Xu.keeps {d:Addr}{o:Obj}{es ep}(x:Xu hk h ks a)(ho:h.get? d=some o)(hd:o.data=.dict es ep)(hs:Heap.SameBut d h h'):Xu hk h' ks a:=by
 obtain⟨o',items,n,ho',hc,hd',hi⟩:=x
 have hne:a≠d:=by rintro rfl;obtain rfl:o'=o:=qF (ho'.symm.trans ho);rw[hd]at hd';exact nomatch hd'
 exact⟨o',items,n,(hs.2 a hne).trans ho',hc,hd',hi.keeps ho hd hs⟩
def Gn (hk:HeapKind prog w K)(ks:List K):Int:=reduceHash (Builtin.Tuple.tupleHashOf (ks.map hk.hash))
def CZ (hk:HeapKind prog w K)(ks:List K):Nat:=(ks.map hk.draws).sum+1
variable {A:Around}{E:Value->Shared->Prop}{s:Shared}
def zpi {Q:Int->Shared->Prop}(hu:A.units<cLine)(hr:hk.room A.in1)(hi:Xu hk s.heap ks a)(h:Q (Gn hk ks) { s with toks:=s.toks+CZ hk ks }) :
  wpAny (model prog w) A (pyHash (.ref a)) Q E s:=by
 have hT:=hi.typeIs;obtain⟨o,items,n,ho,_,hd,hi⟩:=hi;unfold pyHash
 first|unfold pyHashByItsType|skip
 first|refine wpAny_bind (wpAny_cRoomFor_or (.inr hu) ?_)|skip
 refine wpAny_bind (wpAny_specialOf hT F.slot_tuple_hash.lookup ?_);show wpAny _ _ (if(some (Value.builtin "tuple.__hash__")==some Value.none)=true then _ else _) Q E s;rw[if_neg (by rw[beq_builtin_none];exact qo)];refine wpAny_bind (wpAny_specialOf hT F.slot_tuple_hash.lookup ?_);show wpAny _ _ (callSpecialIfBoundUnlessNone? (.ref a) "__hash__" _ >>= _) Q E s;refine wpAny_bind (wpAny_callSpecialIfBoundUnlessNone?_slot hT F.slot_tuple_hash (wpAny_call_entry F.slot_tuple_hash hT F.entry_tuple_hash ?_ (F.args_tuple_hash_1 _)));show wpAny _ _ (Builtin.Tuple.tupleItemsOf (.ref a) >>= _) _ _ s;refine wpAny_bind (wpAny_tupleItemsOf ho hd ?_);refine wpAny_bind ?_;rw[<- Array.forIn_toList]
 refine wpAny_forIn_list _
  (fun rest (b:Array Int) s'=>∃ done left,ks=done++left/\Xi hk s.heap left rest/\b.toList=done.map hk.hash/\s'={ s with toks:=s.toks+(done.map hk.draws).sum })
  _ ?_ ?_ _ _ ⟨[],ks,rfl,hi,rfl,rfl⟩
 ·rintro x rest b s' ⟨done,left,rfl,hl,hb,rfl⟩;cases hl with
  |@cons k c ks' _ h1 hl' =>
   refine wpAny_bind (hk.pyHash hr (s:={ s with toks:=s.toks+(done.map hk.draws).sum }) h1 ?_)
   first
    |exact wpAny_pure ⟨done++[k],ks',by simp,hl',by simp[hb],by simp[QJ]⟩
    |exact wpAny_bind (wpAny_pure (wpAny_pure ⟨done++[k],ks',by simp,hl',by simp[hb],by simp[QJ]⟩))
 ·rintro b s' ⟨done,left,rfl,hl,hb,rfl⟩;cases hl;rw[Xn]at h;show wpAny _ _ (retInt (Builtin.Tuple.tupleHashOf b.toList)) _ _ _;rw[hb];refine wpAny_ret_mkInt ?_;show wpAny _ _ (if(decide (-(2:Int) ^ 63<=Builtin.Tuple.tupleHashOf (done.map hk.hash))&&decide (Builtin.Tuple.tupleHashOf (done.map hk.hash)<2 ^ 63))=true then _ else _) Q E _;unfold Gn reduceHash CZ at h;by_cases hr:(decide (-(2:Int) ^ 63<=Builtin.Tuple.tupleHashOf (done.map hk.hash))&&decide (Builtin.Tuple.tupleHashOf (done.map hk.hash)<2 ^ 63))=true
  ·rw[if_pos hr];rw[if_pos hr]at h;exact wpAny_pure (by simpa [QJ]using h)
  ·rw[if_neg hr];rw[if_neg hr]at h;exact wpAny_bind (wpAny_rule (wpAny_pure (by simpa [QJ]using h)))
def zmq {P:Fin->Shared->Prop}(hr:hk.room A)(hx:Xu hk s.heap x a)(hy:Xu hk s.heap y b)(h:P (.done (.ret (.bool (decide (x=y))))) s) :
  wpAny (model prog w) A (Builtin.«tuple.__eq__» ⟨[.ref a,.ref b],[]⟩) P E s:=by
 have hTb:=hy.typeIs;obtain⟨oa,xs,na,hoa,_,hda,hia⟩:=hx;obtain⟨ob,ys,nb,hob,_,hdb,hib⟩:=hy;show wpAny _ _ (isInstance (.ref b) (.type "tuple") >>= _) _ _ s;refine wpAny_bind (wpAny_isInstance hTb isSubtype_tuple_tuple ?_);simp only[RW,U9,if_false];refine wpAny_bind (wpAny_tupleItemsOf hoa hda ?_);refine wpAny_bind (wpAny_tupleItemsOf hob hdb ?_);refine wpAny_bind ?_
 refine wpAny_forIn_list _
  (fun rest r s'=>r.1=none/\s'=s/\∃ x' y' xs' ys',rest=List.zip xs' ys'/\Xi hk s.heap x' xs'/\Xi hk s.heap y' ys'/\decide (x'=y')=decide (x=y)/\(xs'.length==ys'.length)=(xs.size==ys.size))
  _ ?_ ?_ _ _ ⟨rfl,rfl,x,y,xs.toList,ys.toList,rfl,hia,hib,rfl,by simp⟩
 ·rintro⟨u,v⟩ rest r s' ⟨hr',rfl,x',y',xs',ys',hz,hx',hy',hdec,hlen⟩;cases hx' with
  |nil=>simp at hz
  |@cons k1 u' x'' xs'' h1 hx'' =>
   cases hy' with
   |nil=>simp at hz
   |@cons k2 v' y'' ys'' h2 hy'' =>
    simp only[List.zip_cons_cons,List.cons.injEq,Prod.mk.injEq]at hz;obtain⟨⟨rfl,rfl⟩,rfl⟩:=hz;refine wpAny_bind (hk.eqBool hr (x:=k1) (y:=k2) h1 h2 ?_);by_cases hk:k1=k2
    ·subst hk;rw[decide_eq_true rfl];simp only[RW,U9,if_false];refine wpAny_pure ⟨rfl,rfl,x'',y'',xs'',ys'',rfl,hx'',hy'',?_,by simpa using hlen⟩;rw[<- hdec];by_cases hxy:x''=y''
     ·simp[hxy]
     ·simp[hxy]
    ·rw[decide_eq_false hk];simp only[Bool.not_false,if_true];have hf:decide (x=y)=false:=by rw[<- hdec];simp[hk]
     rw[hf]at h;exact wpAny_bind (wpAny_pure (wpAny_pure (wpAny_pure h)))
 ·rintro⟨r1,r2⟩ s' ⟨hr',rfl,x',y',xs',ys',hz,hx',hy',hdec,hlen⟩;simp only at hr';subst hr';refine wpAny_pure ?_
  have hfin:(xs.size==ys.size)=decide (x=y):=by
   rw[<- hdec,<- hlen];cases hx' with
   |nil =>
    cases hy' with
    |nil=>simp
    |cons _ _=>simp
   |cons _ _ =>
    cases hy' with
    |nil=>simp
    |cons _ _=>simp at hz
  show P (.done (.ret (.bool (xs.size==ys.size)))) s';rw[hfin];exact h
def zn2 {Q:Bool->Shared->Prop}(hu:A.units<cLine)(hr:hk.room A.in1)(hx:Xu hk s.heap x a)(hy:Xu hk s.heap y b)(h:Q (decide (x=y)) s) :
  wpAny (model prog w) A (eqBool (.ref a) (.ref b)) Q E s:=by
 unfold eqBool
 try with_reducible refine wpAny_holding ?_
 show wpAny _ _ (if(Value.ref a==Value.ref b)=true then _ else _) Q E s;by_cases hab:(Value.ref a==Value.ref b)=true
 ·rw[if_pos hab];have e:a=b:=by have:=eq_of_beq hab;injection this
  subst e;obtain rfl:=hx.inj hy;exact wpAny_bind (wpAny_rule (wpAny_pure (by simpa using h)))
 ·rw[if_neg hab]
  exact wpAny_bind (wpAny_richCompare_same_room (op:=.Eq) hx.typeIs hy.typeIs F.slot_tuple_eq
   (wpAny_call_entry F.slot_tuple_eq hx.typeIs F.entry_tuple_eq (zmq hr hx hy ⟨_,rfl,(fun e=>nomatch e),wpAny_truthy_bool h⟩) (F.args_tuple_eq_2 _ _)) hu)
def Ţ {Q:Bool->Shared->Prop}(hq:∀ {k:K} {b:Addr},hk.is s.heap k b->∀ (Q:Bool->Shared->Prop),Q true s->wpAny (model prog w) A (eqIsQuiet 7 (.ref b)) Q E s)(hi:Xu hk s.heap ks a)(h:Q true s):wpAny (model prog w) A (eqIsQuiet 8 (.ref a)) Q E s:=by
 have hT:=hi.typeIs;obtain⟨o,items,n,ho,_,hd,hi⟩:=hi;unfold eqIsQuiet;refine wpAny_bind (wpAny_specialOf hT F.slot_tuple_eq.lookup ?_);show wpAny _ _ (isInstance (.ref a) (.type "tuple") >>= _) _ _ s;refine wpAny_bind (wpAny_isInstance hT isSubtype_tuple_tuple ?_);simp only[RW,U9,if_false];refine wpAny_bind (wpAny_seqItems ho hd ?_);refine wpAny_bind ?_;show wpAny _ _ (forIn items _ _) _ _ s;rw[<- Array.forIn_toList];refine wpAny_forIn_list _ (fun rest r s'=>r.1=none/\s'=s/\∃ left,Xi hk s.heap left rest) _ ?_ ?_ _ _ ⟨rfl,rfl,ks,hi⟩
 ·rintro v rest r s' ⟨hr,rfl,left,hall⟩;cases hall with
  |@cons k c ks' _ h1 hl' =>refine wpAny_bind (hq h1 _ ?_);simp only[RW,U9,if_false];exact wpAny_pure ⟨rfl,rfl,ks',hl'⟩
 ·rintro⟨r1,r2⟩ s' ⟨hr,rfl,_⟩;simp only at hr;subst hr;exact wpAny_pure h
end
section
variable {prog:Program}{w:World}{K:Type}[DecidableEq K]{knd:KeyKind prog w K}{A:Around}{E:Value->Shared->Prop}{s:Shared}
def zr7 (m:Nat){Q:Bool->Shared->Prop}(hk:IsTupleKey knd s.heap ks a)(h:Q true s):wpAny (model prog w) A (eqIsQuiet (m+1) (.ref a)) Q E s:=by
 have hT:=hk.typeIs;obtain⟨o,items,n,ho,_,hd,hi⟩:=hk;unfold eqIsQuiet;refine wpAny_bind (wpAny_specialOf hT F.slot_tuple_eq.lookup ?_);show wpAny _ _ (isInstance (.ref a) (.type "tuple") >>= _) _ _ s;refine wpAny_bind (wpAny_isInstance hT isSubtype_tuple_tuple ?_);simp only[RW,U9,if_false];refine wpAny_bind (wpAny_seqItems ho hd ?_);refine wpAny_bind ?_;show wpAny _ _ (forIn items _ _) _ _ s;rw[<- Array.forIn_toList];refine wpAny_forIn_list _ (fun rest r s'=>r.1=none/\s'=s/\∀ v∈rest,carriedByValue v=true) _ ?_ ?_ _ _ ⟨rfl,rfl,hi.byValue⟩
 ·rintro v rest r s' ⟨hr,rfl,hall⟩;rw[eqIsQuiet_byValue _ (hall v qN)];refine wpAny_bind (wpAny_pure ?_);simp only[RW,U9,if_false];exact wpAny_pure ⟨rfl,rfl,fun u hu'=>hall u (qi _ hu')⟩
 ·rintro⟨r1,r2⟩ s' ⟨hr,rfl,_⟩;simp only at hr;subst hr;exact wpAny_pure h
def Ur (knd:KeyKind prog w K):HeapKind prog w (List (List K)) where
 is:=Xu (tupleKind knd)
 hash:=Gn (tupleKind knd)
 draws:=CZ (tupleKind knd)
 room:=fun A=>A.units+1<cLine
 inj:=fun hx hy=>hx.inj hy
 keeps:=fun x ho hd hs=>x.keeps ho hd hs
 pyHash:=fun hu hk h=>zpi (Ua hu) hu hk h
 eqBool:=fun hu hx hy h=>zn2 (Ua hu) hu hx hy h
 quiet:=fun hk h=>Ţ (fun hb _ q=>zr7 6 hb q) hk h
end
end My
namespace L2
open PySem PySem.Spec PyProof.Rows
inductive V where
 |non|bl (b:Bool)|int (i:Int)|str (x:Str)|byt (b:Array UInt8)|flt (b:UInt64)|ref (a:Addr)|ty (n:String)
 deriving DecidableEq
def RelV:V->Value->Prop
 |.non,u=>u=Value.none
 |.bl b,u=>u=Value.bool b
 |.int i,u=>∃ t,u=Value.int i t
 |.str x,u=>∃ t,u=Value.str x t
 |.byt b,u=>∃ t,u=Value.bytes b t
 |.flt b,u=>∃ t,u=Value.float b t
 |.ref a,u=>u=Value.ref a
 |.ty n,u=>u=Value.type n
abbrev Vals:List V->List Value->Prop:=Paired RelV
theorem Vals.length (r:Vals xs us):xs.length=us.length:=Paired.length r
theorem Vals.get:∀ {xs:List V} {us:List Value} {i:Nat} {x:V},Vals xs us->xs[i]?=some x->∃ u,us[i]?=some u/\RelV x u
 |_,_,_,_,.nil,e=>by simp at e
 |_,_,0,_,.cons r _,e=>by simp at e;subst e;exact⟨_,rfl,r⟩
 |_,_,i+1,x,.cons _ t,e=>by obtain⟨u,h1,h2⟩:=Vals.get (i:=i) (x:=x) t (by simpa using e);exact⟨u,by simpa using h1,h2⟩
theorem Vals.set (r:RelV x u):∀ {xs:List V} {us:List Value} (i:Nat),Vals xs us->Vals (xs.set i x) (us.set i u)
 |_,_,_,.nil=>.nil
 |_,_,0,.cons _ t=>.cons r t
 |_,_,i+1,.cons q t=>.cons q (Vals.set r i t)
theorem Vals.append:∀ {xs ys:List V} {us ws:List Value},Vals xs us->Vals ys ws->Vals (xs++ys) (us++ws)
 |_,_,_,_,.nil,s=>s
 |_,_,_,_,.cons r t,s=>.cons r (Vals.append t s)
theorem Vals.take:∀ {xs:List V} {us:List Value} (n:Nat),Vals xs us->Vals (xs.take n) (us.take n)
 |_,_,0,_=>.nil
 |_,_,_+1,.nil=>.nil
 |_,_,n+1,.cons r t=>.cons r (Vals.take n t)
theorem Vals.drop:∀ {xs:List V} {us:List Value} (n:Nat),Vals xs us->Vals (xs.drop n) (us.drop n)
 |_,_,0,r=>r
 |_,_,_+1,.nil=>.nil
 |_,_,n+1,.cons _ t=>Vals.drop n t
def X7:Option V->Option Value->Prop
 |some v,some u=>RelV v u
 |none,none=>True
 |_,_=>False
def KV {κ:Type}:List (κ×V)->List (κ×Value)->Prop:=Paired fun (p:κ×V) (q:κ×Value)=>p.1=q.1/\RelV p.2 q.2
def kV:Key->V
 |.inl i=>.int i
 |.inr x=>.str x
inductive HO where
 |lst (xs:List V)
 |tup (xs:List V)
 |dK (Z8:List (Key×V))|dT (Z8:List (List Key×V))
 |dN (Z8:List (List (List Key)×V)) (ep:Nat)
 |set (S:Int->Bool) (n:Nat)
 |ins (C dx:Addr) (fs:List (Str×V))
 |own (x:Addr)
 |xd (fs:List (Str×V))
 |met (f x:Addr)
 |rng (lo hi:Int)
 |frz (o:Obj) (u:HO)
 |tbl (ps:Array Value)
 |ext (φ:Heap->Prop)
abbrev Hp:=Addr->Option HO
def upd (H:Hp)(a:Addr)(o:HO):Hp:=fun b=>if b=a then some o else H b
def zL {H:Hp}{a:Addr}{o:HO}:upd H a o a=some o:=by unfold upd;rw[if_pos rfl]
def zu {H:Hp}{a b:Addr}{o:HO}(h:b≠a):upd H a o b=H b:=by unfold upd;rw[if_neg h]
def VP {H:Hp}{o u:HO}(h:H a=some o)(h':H b=some u)(d:o≠u):a≠b:=by intro e;subst e;rw[h]at h';exact d (qF h')
def Ut {H:Hp}{o:HO}(h:H a=some o)(h':H b=none):a≠b:=by intro e;subst e;rw[h]at h';cases h'
def WR (H:Hp)(b:Addr)(k:List (List Key)):Prop:=∃ bs:List Addr,H b=some (.tup (bs.map V.ref))/\Paired (fun (ks:List Key) (c:Addr)=>H c=some (.tup (ks.map kV))) k bs
section
variable (P:Program)(w:World)
def zU (H:Hp)(h:Heap)(a:Addr):HO->Prop
 | .lst xs=>xs.length<=sizeLine/\∃ (its:List Value) (n:Nat),Vals xs its/\h.get? a=some { cls:=.type "list",data:=.seq its.toArray n }
 |.tup xs=>xs.length<=sizeLine/\∃ its:List Value,Vals xs its/\IsTup h a its.toArray
 |.dK Z8=>Z8.length<=sizeLine/\(a==sysModules)=false/\∃ vs,KV Z8 vs/\h.DictOf (zN P w) a vs
 |.dT Z8=>Z8.length<=sizeLine/\(a==sysModules)=false/\∃ xs:List (List Key×Addr×Value),
   Paired (fun (p:List Key×V) (q:List Key×Addr×Value)=>p.1=q.1/\H q.2.1=some (.tup (p.1.map kV))/\RelV p.2 q.2.2) Z8 xs /\
   ∃ o es ep,h.get? a=some o/\o.ExactDict/\o.data=.dict es ep/\es.toList=xs.map (entryOfKey (tupleKind (zN P w)))/\(xs.map (·.1)).Nodup
 |.dN Z8 ep=>Z8.length<=sizeLine/\(a==sysModules)=false/\∃ xs:List (List (List Key)×Addr×Value),
   Paired (fun (p:List (List Key)×V) (q:List (List Key)×Addr×Value)=>p.1=q.1/\WR H q.2.1 p.1/\RelV p.2 q.2.2) Z8 xs /\
   ∃ o es,h.get? a=some o/\o.ExactDict/\o.data=.dict es ep/\es.toList=xs.map (entryOfKey (My.Ur (zN P w)))/\(xs.map (·.1)).Nodup
 |.set S n=>h.SetOf (intKind P w) a S n
 |.ins C dx fs=>H dx=some (.own a)/\fs.length<=1000/\dx≠a/\h.get? a=some (PySem.W.instObj C dx) /\
   ∃ mA,h.Ns1 dx mA/\(∀ f,X7 (fs.lookup f) (mA f))/\PySem.Within mA (fs.map (·.1))
 |.own _=>∃ o,h.get? a=some o
 |.xd fs=>∃ mA,h.Ns1 a mA/\∀ f,X7 (fs.lookup f) (mA f)
 | .rng lo hi=>∃ t u v,h.get? a=some { cls:=.type "range",data:=.fields #[.int lo t,.int hi u,.int 1 v] }
 |.frz o u=>h.get? a=some o/\zU H h a u
 |.tbl ps=>h.get? a=some { cls:=.none,data:=.fields ps }
 |.met f x=>h.get? a=some (PySem.W.methodObj (.ref f) (.ref x))
 |.ext φ=>φ h/\(∃ o,h.get? a=some o)/\∀ h1 h2:Heap,φ h1->(∀ o,h1.get? a=some o->h2.get? a=some o)->φ h2
def ZD (H:Hp)(h:Heap):Prop:=∀ a o,H a=some o->zU P w H h a o
end
section
variable {P:Program}{w:World}{H H':Hp}{h h':Heap}{a:Addr}{o:HO}
theorem zU.lt (x:zU P w H h a o):a<h.objs.size:=by
 cases o with
 |lst xs=>obtain⟨_,_,_,_,e⟩:=x;exact qA e
 |tup xs=>obtain⟨_,_,_,p⟩:=x;exact p.lt
 |dK Z8=>obtain⟨_,_,_,_,o,_,_,e,_⟩:=x;exact qA e
 |dT Z8=>obtain⟨_,_,_,_,o,_,_,e,_⟩:=x;exact qA e
 |dN Z8 ep=>obtain⟨_,_,_,_,o,_,e,_⟩:=x;exact qA e
 |set S n=>obtain⟨o,_,_,_,e,_⟩:=x;exact qA e
 |ins C dx fs=>obtain⟨_,_,_,e,_⟩:=x;exact qA e
 |own y=>obtain⟨_,e⟩:=x;exact qA e
 |xd fs=>obtain⟨_,⟨_,_,_,e,_⟩,_⟩:=x;exact qA e
 |rng lo hi=>obtain⟨_,_,_,e⟩:=x;exact qA e
 |frz ob u=>obtain⟨e,_⟩:=x;exact qA e
 |tbl ps=>exact qA (show h.get? a=some _ from x)
 |met f y=>exact qA (show h.get? a=some _ from x)
 |ext φ=>obtain⟨_,⟨_,e⟩,_⟩:=x;exact qA e
theorem Paired.mapP {α β:Type}{F G:α->β->Prop}:∀ {l₁:List α} {l₂:List β},Paired F l₁ l₂->(∀ a b,F a b->G a b)->Paired G l₁ l₂
 |_,_,.nil,_=>.nil
 |_,_,.cons r t,f=>.cons (f _ _ r) (Paired.mapP t f)
def WR.keeps {H':Hp}{k:List (List Key)}(x:WR H b k)(ht:∀ b xs,H b=some (.tup xs)->H' b=some (.tup xs)):WR H' b k :=by obtain⟨bs,e,r⟩:=x;exact⟨bs,ht _ _ e,Paired.mapP r fun _ _ z=>ht _ _ z⟩
def zU.stay (x:zU P w H h a o)(k:∀ b u,(b=a\/H b=some (.own a))->h.get? b=some u->h'.get? b=some u)
  (ho:∀ b,H b=some (.own a)->H' b=some (.own a)) (ht:∀ b xs,H b=some (.tup xs)->H' b=some (.tup xs)):zU P w H' h' a o:=by
 induction o with
 |lst xs=>obtain⟨z,its,n,r,e⟩:=x;exact⟨z,its,n,r,k _ _ (.inl rfl) e⟩
 |tup xs=>obtain⟨z,its,r,ob,e,c⟩:=x;exact⟨z,its,r,ob,k _ _ (.inl rfl) e,c⟩
 |dK Z8=>obtain⟨z,y,vs,r,ob,es,ep,e,c⟩:=x;exact⟨z,y,vs,r,ob,es,ep,k _ _ (.inl rfl) e,c⟩
 |dT Z8 =>obtain⟨z,y,xs,r,ob,es,ep,e,c⟩:=x;exact⟨z,y,xs,Paired.mapP r fun p q z=>⟨z.1,ht _ _ z.2.1,z.2.2⟩,ob,es,ep,k _ _ (.inl rfl) e,c⟩
 |dN Z8 ep =>obtain⟨z,y,xs,r,ob,es,e,c⟩:=x;exact⟨z,y,xs,Paired.mapP r fun p q z=>⟨z.1,z.2.1.keeps ht,z.2.2⟩,ob,es,k _ _ (.inl rfl) e,c⟩
 |set S n=>obtain⟨ob,es,ep,t,e,c⟩:=x;exact⟨ob,es,ep,t,k _ _ (.inl rfl) e,c⟩
 |ins C dx fs =>obtain⟨d,z,ne,e,mA,⟨od,es,ep,e2,c⟩,r⟩:=x;exact⟨ho _ d,z,ne,k _ _ (.inl rfl) e,mA,⟨od,es,ep,k _ _ (.inr d) e2,c⟩,r⟩
 |own y=>obtain⟨ob,e⟩:=x;exact⟨ob,k _ _ (.inl rfl) e⟩
 |xd fs=>obtain⟨mA,⟨od,es,ep,e,c⟩,r⟩:=x;exact⟨mA,⟨od,es,ep,k _ _ (.inl rfl) e,c⟩,r⟩
 |rng lo hi=>obtain⟨t,u,v,e⟩:=x;exact⟨t,u,v,k _ _ (.inl rfl) e⟩
 |frz ob u ih=>obtain⟨e,q⟩:=x;exact⟨k _ _ (.inl rfl) e,ih q⟩
 |tbl ps =>have e:h.get? a=some { cls:=.none,data:=.fields ps }:=x;show h'.get? a=some { cls:=.none,data:=.fields ps };exact k a _ (.inl rfl) e
 |met f y =>have e:h.get? a=some (PySem.W.methodObj (.ref f) (.ref y)):=x;show h'.get? a=some (PySem.W.methodObj (.ref f) (.ref y));exact k a _ (.inl rfl) e
 |ext φ=>obtain⟨p,⟨o,e⟩,st⟩:=x;exact⟨st _ _ p fun o q=>k _ _ (.inl rfl) q,⟨o,k _ _ (.inl rfl) e⟩,st⟩
theorem ZD.lt (x:ZD P w H h)(e:H a=some o):a<h.objs.size:=(x a o e).lt
def ZD.fresh (x:ZD P w H h)(e:h.objs.size<=a):H a=none:=by
 cases q:H a with
 |none=>rfl
 |some u=>exact absurd (qE (x.lt q) e) (Xq _)
def ZD.kept (x:ZD P w H h)(k:∀ b u,h.get? b=some u->h'.get? b=some u):ZD P w H h':=fun a o e =>(x a o e).stay (fun b u _ q=>k b u q) (fun _ q=>q) fun _ _ q=>q
def ZD.laid (x:ZD P w H h)(k:∀ b u,h.get? b=some u->h'.get? b=some u)(hp:h.objs.size<=a)(new:zU P w (upd H a o) h' a o):ZD P w (upd H a o) h':=fun b u e=>by
 have hn:=x.fresh hp;by_cases hb:b=a
 ·subst hb;rw[zL]at e;cases e;exact new
 ·rw[zu hb]at e;exact(x b u e).stay (fun c v _ q=>k c v q) (fun c q=>by rw[zu (Ut q hn)];exact q) fun c xs q=>by rw[zu (Ut q hn)];exact q
end
def Rd (H:Hp)(a:Addr)(u:HO):Prop:=H a=some u\/∃ o,H a=some (.frz o u)
def Rd.ok (r:Rd H a u)(x:ZD P w H h):zU P w H h a u:=by
 rcases r with r|⟨o,r⟩
 ·exact x a u r
 ·obtain⟨_,q⟩:=x a _ r;exact q
def Mx:Option HO->Prop
 |some (.lst _)=>True
 |some (.dK _)=>True
 |some (.dT _)=>True
 |some (.dN _ _)=>True
 |some (.set _ _)=>True
 |some (.ins _ _ _)=>True
 |some (.ext _)=>True
 |_=>False
section
variable {P:Program}{w:World}{H:Hp}{h h':Heap}{x e:Addr}{o':HO}
def ZD.write (ok:ZD P w H h)(mu:Mx (H x))(he:e=x\/H e=some (.own x))(k:∀ b u,b≠e->h.get? b=some u->h'.get? b=some u)(heo:∃ u,h'.get? e=some u)
  (new:zU P w (upd H x o') h' x o'):ZD P w (upd H x o') h':=fun b u q=>by
 have nown:∀ c y,H c=some (.own y)->c≠x:=fun c y r z=>by subst z;rw[r]at mu;exact mu
 have ntup:∀ c xs,H c=some (.tup xs)->c≠x:=fun c xs r z=>by subst z;rw[r]at mu;exact mu
 by_cases hb:b=x
 ·subst hb;rw[zL]at q;cases q;exact new
 ·rw[zu hb]at q;by_cases hbe:b=e
  ·have q':H b=some (.own x):=by
    rcases he with z|z
    ·exact absurd (hbe.trans z) hb
    ·rw[hbe];exact z
   rw[q]at q';cases q';obtain⟨v,hv⟩:=heo;exact⟨v,by rw[hbe];exact hv⟩
  ·refine(ok b u q).stay (fun c v hc r=>k c v ?_ r) (fun c r=>by rw[zu (nown c b r)];exact r) fun c xs r=>by rw[zu (ntup c xs r)];exact r
   rcases hc with rfl|hc
   ·exact hbe
   ·rintro rfl;rcases he with z|z
    ·exact nown c b hc z
    ·rw[hc]at z;cases z;exact hb rfl
end
structure Un (fs ex:List Addr)(H H':Hp)(h h':Heap):Prop where
 keep:∀ b o,h.get? b=some o->H b=none->b∉fs->b∉ex->h'.get? b=some o
 slot:∀ b o,h.get? b=some o->H b=none->b∈fs->b∉ex->∃ sl,h'.get? b=some { o with slots:=sl }
 free:∀ b o,h.get? b=some o->H b=none->b∉ex->H' b=none
 there:∀ b o,h.get? b=some o->b∉ex->∃ o',h'.get? b=some o'
 tups:∀ b xs,H b=some (.tup xs)->H' b=some (.tup xs)
 frzs:∀ b o u,H b=some (.frz o u)->H' b=some (.frz o u)
 tbls:∀ b ps,H b=some (.tbl ps)->∃ more,H' b=some (.tbl (ps++more))
section
variable {fs fs' ex ex':List Addr}{H H1 H2:Hp}{h h1 h2 h':Heap}{a x e:Addr}{o:HO}
def Un.any (u:Un fs ex H H1 h h1){b:Addr}{ob:Obj}(q:h.get? b=some ob)(n:H b=none)(hx:b∉ex):∃ sl,h1.get? b=some { ob with slots:=sl }:=by
 by_cases hb:b∈fs
 ·exact u.slot b ob q n hb hx
 ·exact⟨ob.slots,u.keep b ob q n hb hx⟩
def Un.kept (k:∀ b u,h.get? b=some u->h'.get? b=some u):Un fs ex H H h h' :=⟨fun b ob q _ _ _=>k b ob q,fun b ob q _ _ _=>⟨ob.slots,k b ob q⟩,fun _ _ _ n _=>n,fun b ob q _=>⟨ob,k b ob q⟩,fun _ _ q=>q,fun _ _ _ q=>q,fun _ ps q=>⟨#[],by rw[q];simp⟩⟩
def Un.refl:Un fs ex H H h h:=Un.kept fun _ _ q=>q
def Un.laid (k:∀ b u,h.get? b=some u->h'.get? b=some u)(hp:h.objs.size<=a)(hn:H a=none):Un fs ex H (upd H a o) h h' where
 keep:=fun b u q _ _ _=>k b u q
 slot:=fun b u q _ _ _=>⟨u.slots,k b u q⟩
 free:=fun b u q n _=>by rw[zu (qS (qE (qA q) hp))];exact n
 there:=fun b u q _=>⟨u,k b u q⟩
 tups:=fun b xs q=>by rw[zu (Ut q hn)];exact q
 frzs:=fun b u xs q=>by rw[zu (Ut q hn)];exact q
 tbls:=fun b ps q=>⟨#[],by rw[zu (Ut q hn),q];simp⟩
def Un.write (mu:Mx (H x))(he:e=x\/H e=some (.own x))(k:∀ b u,b≠e->h.get? b=some u->h'.get? b=some u)(heo:∃ u,h'.get? e=some u):Un fs ex H (upd H x o) h h':=by
 have hx:∀ b,H b=none->b≠x:=fun b n z=>by subst z;rw[n]at mu;exact mu
 have hb:∀ b,H b=none->b≠e:=fun b n z=>by
  subst z;rcases he with r|r
  ·exact hx b n r
  ·rw[n]at r;cases r
 have hm:∀ b u,H b=some u->¬ Mx (some u)->b≠x:=fun b u q nm z=>by subst z;rw[q]at mu;exact nm mu
 refine⟨fun b u q n _ _=>k b u (hb b n) q,fun b u q n _ _=>⟨u.slots,k b u (hb b n) q⟩,fun b u q n _=>by rw[zu (hx b n)];exact n,fun b u q _=>?_,
  fun b xs q=>by rw[zu (hm b _ q fun z=>z)];exact q,fun b u xs q=>by rw[zu (hm b _ q fun z=>z)];exact q,fun b ps q=>⟨#[],by rw[zu (hm b _ q fun z=>z),q];simp⟩⟩
 by_cases hbe:b=e
 ·subst hbe;exact heo
 ·exact⟨u,k b u hbe q⟩
end
def Kv (h:Heap)(H:Hp):List Addr:=(List.range h.objs.size).filter fun a=>(H a).isSome
def Uc (h:Heap)(H:Hp):Heap:=PySem.W.hideAll h (Kv h H)
def zl4 (h:Heap)(H:Hp):(Uc h H).objs.size=h.objs.size:=PySem.W.hideAll_size _ _
def zpm {h:Heap}{H:Hp}{b:Addr}{o:Obj}(e:h.get? b=some o)(n:H b=none):(Uc h H).get? b=some o :=
 PySem.W.hideAll_get _ e fun hm=>by have q:(H b).isSome=true:=(qU.mp hm).2;rw[n]at q;simp at q
def zsh {h:Heap}{H:Hp}{b:Addr}{o:Obj}(e:(Uc h H).get? b=some o):h.get? b=some o/\H b=none:=by
 have e':h.get? b=some o:=PySem.W.of_hideAll (Kv h H) e;refine⟨e',?_⟩;cases q:H b with
 |none=>rfl
 |some x =>have hm:b∈Kv h H:=qU.mpr ⟨List.mem_range.mpr (qA e'),by simp[q]⟩;have z:(Uc h H).get? b=none:=PySem.W.hideAll_none (Kv h H) hm;rw[z]at e;cases e
def Ŏ (g h:Heap)(L:Addr):List (Addr×Obj):=(List.range h.objs.size).filterMap fun a=>if a=L\/(g.get? a).isSome=true then none else(h.get? a).map fun o=>(a,o)
def rest (g h:Heap)(L d:Addr):List (Addr×Obj):=(Ŏ g h L).filter fun p=>decide (p.1≠d)
structure Mod (K:PySem.W.Frag)(mg:Str->Option Value)(base:Heap):Prop where
 kin:K.In base
 glob:base.Ns mainGlobals mg
 blt:∃ mb,base.Ns builtinsNs mb/\∀ x:Str,x≠"__name__"->mb x=bootBuiltins x
 nolimit:base.NoLimit
/-- the context: a def's body (or a comprehension's block) running. base: fixed through the whole law; s₀, H₀: the entry; outer: the frames whose slots others may change (a def's callers); stack: all frames that run;
   ex: iterators that were made ahead of the entry and are walked here (a comprehension's);fn: the names whose cells were made at the entry (a def: all;a comprehension's block: its own);calm: not within an except suite;pn: Z9 that every state bears;xe: what is wanted of an exception that leaves the code -/
structure Cx where
 prog:Program
 w:World
 K:PySem.W.Frag
 mg:Str->Option Value
 base:Heap
 A:Around
 N:List Str
 s₀:Shared
 H₀:Hp
 env:Env
 outer:List Env
 stack:List Env
 ex:List Addr
 fn:Str->Bool
 calm:Bool
 pn:List (Addr×Obj)
 xe:Value->Shared->Prop
def frs (l:List Env):List Addr:=l.filterMap (·.frame)
abbrev Cx.fs (X:Cx):List Addr:=frs X.outer
def Vis (sc:Scope)(x:Str):Prop:=sc.names.lookup x=some .local\/sc.names.lookup x=some .cell\/sc.names.lookup x=some .free
def Loc (sc:Scope)(x:Str):Prop:=sc.names.lookup x=some .local\/sc.names.lookup x=some .cell
def Look (env:Env)(h:Heap)(m:Str->Option Value)(x:Str)(u:Value):Prop :=(env.kindOf x=some .local/\m x=some u)\/((env.kindOf x=some .cell\/env.kindOf x=some .free)/\∃ c,env.cells.lookup x=some c/\h.IsCell c (some u))
structure Cx.Ok (X:Cx):Prop where
 mod:Mod X.K X.mg X.base
 kind:X.env.scope.kind=.function
 glob:X.env.globals=mainGlobals
 blt:X.env.builtins=builtinsNs
 above:X.s₀.heap.objs.size<=X.env.locals
 inj:∀ x y c,X.env.cells.lookup x=some c->X.env.cells.lookup y=some c->x=y
 has:∀ x,(X.env.kindOf x=some .cell\/X.env.kindOf x=some .free)->∃ c,X.env.cells.lookup x=some c
 cab:∀ x c,X.fn x=true->X.env.cells.lookup x=some c->X.s₀.heap.objs.size<=c
 hd:X.calm=true->X.A.handled=none
 frames:X.A.frames=some X.stack
 stk:X.stack=X.outer\/(X.stack=X.env::X.outer/\X.env.frame=some X.env.locals)
 exf:∀ b∈X.ex,b≠X.env.locals/\∀ x c,X.env.cells.lookup x=some c->c≠b
 bs:∀ b o,X.base.get? b=some o->X.s₀.heap.get? b=some o/\X.H₀ b=none
 bsz:X.base.objs.size<=X.s₀.heap.objs.size
 noex:∀ b o,X.base.get? b=some o->b∉X.ex
 exfs:∀ b∈X.ex,b∉X.fs
 funs:X.s₀.heap.FunFrames X.base X.outer
 frf:∀ b∈X.fs,X.H₀ b=none
structure Inv (X:Cx)(Z9:List (Addr×Obj))(U:List (Option V))(H:Hp)(s:Shared):Prop where
 ok:X.Ok
 os:s.os=X.s₀.os
 bare:AllBare s.gens
 base:Un X.fs X.ex X.H₀ H X.s₀.heap s.heap
 loc:∃ m,s.heap.Ns X.env.locals m/\∀ (i:Nat) (x:Str) (v:V),X.N[i]?=some x->U[i]?=some (some v)->Vis X.env.scope x->∃ u,RelV v u/\Look X.env s.heap m x u
 cell:∀ x c,X.env.cells.lookup x=some c->∃ v,s.heap.IsCell c v
 free:H X.env.locals=none
 freeC:∀ x c,X.env.cells.lookup x=some c->H c=none
 pin:∀ p∈X.pn++Z9,s.heap.get? p.1=some p.2/\H p.1=none/\p.1≠X.env.locals/\p.1∉X.fs/\∀ v,p.2.data≠.cell v
 hok:ZD X.prog X.w H s.heap
 len:U.length=X.N.length
section
variable {X:Cx}{Z9:List (Addr×Obj)}{U:List (Option V)}{H H':Hp}{s:Shared}{h':Heap}
def Cx.Ok.nofr (ok:X.Ok){b:Addr}{o:Obj}(e:X.base.get? b=some o):b∉X.fs:=fun hb=>by have:=(ok.funs.mem hb).1;rw[e]at this;cases this
theorem Inv.bs (I:Inv X Z9 U H s):∀ b o,X.base.get? b=some o->s.heap.get? b=some o/\H b=none:=fun b o e =>⟨I.base.keep b o (I.ok.bs b o e).1 (I.ok.bs b o e).2 (I.ok.nofr e) (I.ok.noex b o e),I.base.free b o (I.ok.bs b o e).1 (I.ok.bs b o e).2 (I.ok.noex b o e)⟩
def Inv.bk (I:Inv X Z9 U H s):∀ b o,X.base.get? b=some o->s.heap.get? b=some o:=fun b o e=>(I.bs b o e).1
theorem Inv.mod (I:Inv X Z9 U H s):Mod X.K X.mg X.base:=I.ok.mod
def Inv.kIn (I:Inv X Z9 U H s):X.K.In s.heap:=I.ok.mod.kin.keeps I.bk
theorem Inv.lt (I:Inv X Z9 U H s):X.env.locals<s.heap.objs.size:=by obtain⟨_,hn,_⟩:=I.loc;exact hn.lt
def Inv.sz (I:Inv X Z9 U H s):X.s₀.heap.objs.size<=s.heap.objs.size:=qV I.ok.above (Mq I.lt)
def Inv.nofs (I:Inv X Z9 U H s){a:Addr}(h:s.heap.objs.size<=a):a∉X.fs:=fun hb=>by obtain⟨_,o,ho,_⟩:=I.ok.funs.mem hb;exact absurd (qE (qA ho) (qV I.sz h)) (Xq _)
def Inv.cne (I:Inv X Z9 U H s):∀ x c,X.env.cells.lookup x=some c->c≠X.env.locals:=fun x c e z=>by obtain⟨v,o,ho,hd⟩:=I.cell x c e;obtain⟨m,⟨o',es,ep,ho',hd',_⟩,_⟩:=I.loc;rw[z,ho']at ho;cases ho;rw[hd']at hd;cases hd
theorem Inv.funs (I:Inv X Z9 U H s):s.heap.FunFrames X.base X.outer:=by
 have all:∀ (l:List Env),(∀ b∈frs l,b∈X.fs)->X.s₀.heap.FunFrames X.base l->s.heap.FunFrames X.base l:=by
  intro l
  induction l with
  |nil=>intro _ _;trivial
  |cons env r ih =>
   intro hs hl;obtain⟨hk,⟨L,o,hf,hn,ho,hd⟩,hr⟩:=hl;have hL:L∈X.fs:=hs L (by unfold frs;rw[Qi,hf];exact qN);obtain⟨sl,e⟩:=I.base.slot L o ho (I.ok.frf L hL) hL fun z=>I.ok.exfs L z hL
   exact⟨hk,⟨L,_,hf,hn,e,hd⟩,ih (fun b hb=>hs b (by unfold frs;rw[Qi,hf];exact qi _ hb)) hr⟩
 exact all X.outer (fun _ hb=>hb) I.ok.funs
theorem Inv.stack (I:Inv X Z9 U H s):s.heap.FunFrames X.base X.stack:=by
 rcases I.ok.stk with e|⟨e,hf⟩
 ·rw[e];exact I.funs
 ·rw[e];obtain⟨m,hn,_⟩:=I.loc;refine .cons (by rw[I.ok.kind];decide) hf hn ?_ I.funs;exact Heap.get?_none_of_le (qV I.ok.bsz I.ok.above)
def Inv.stkSub (I:Inv X Z9 U H s):∀ b∈frs X.stack,b∈X.env.locals::X.fs:=fun b hb=>by
 rcases I.ok.stk with e|⟨e,hf⟩
 ·rw[e]at hb;exact qi _ hb
 ·rw[e]at hb;unfold frs at hb;rw[Qi,hf]at hb;exact hb
def Inv.stkFree (I:Inv X Z9 U H s):∀ b∈frs X.stack,H b=none:=fun b hb=>by
 rcases qu.mp (I.stkSub b hb)with e|hb
 ·rw[e];exact I.free
 ·obtain⟨_,o,ho,_⟩:=I.ok.funs.mem hb;exact I.base.free b o ho (I.ok.frf b hb) fun z=>I.ok.exfs b z hb
def Inv.step {t':Nat}{d':Drawn}{ch:List Addr}(I:Inv X Z9 U H s)(hch:∀ b∈ch,(b∈X.ex\/X.s₀.heap.objs.size<=b)/\b≠X.env.locals/\(∀ x c,X.env.cells.lookup x=some c->c≠b)/\∀ p∈X.pn++Z9,p.1≠b)(keep:∀ b o,b≠X.env.locals->b∉X.fs->b∉ch->s.heap.get? b=some o->H b=none->h'.get? b=some o)(slot:∀ b o,b≠X.env.locals->b∈X.fs->b∉ch->s.heap.get? b=some o->H b=none->∃ sl,h'.get? b=some { o with slots:=sl })(free:∀ b o,b∉ch->s.heap.get? b=some o->H b=none->H' b=none)(there:∀ b o,b∉ch->s.heap.get? b=some o->∃ o',h'.get? b=some o')(tups:∀ b xs,H b=some (.tup xs)->H' b=some (.tup xs))(frzs:∀ b o u,H b=some (.frz o u)->H' b=some (.frz o u))(tbls:∀ b ps,H b=some (.tbl ps)->∃ more,H' b=some (.tbl (ps++more)))(ns:∀ m,s.heap.Ns X.env.locals m->h'.Ns X.env.locals m)(hok:ZD X.prog X.w H' h')(hg:AllBare g') :
  Inv X Z9 U H' { s with heap:=h',gens:=g',drawn:=d',toks:=t' }:=by
 have neL:∀ b o,X.s₀.heap.get? b=some o->b≠X.env.locals:=fun b o e=>qS (qE (qA e) I.ok.above)
 have neC:∀ b o,X.s₀.heap.get? b=some o->b∉X.ex->b∉ch:=fun b o e hx hb=>by
  rcases(hch b hb).1 with z|z
  ·exact hx z
  ·exact absurd (qE (qA e) z) (Xq _)
 have cellK:∀ x c,X.env.cells.lookup x=some c->∀ v,s.heap.IsCell c v->h'.IsCell c v:=by
  rintro x c e v ⟨o,ho,hd⟩;have nch:c∉ch:=fun z=>(hch c z).2.2.1 x c e rfl
  by_cases hc:c∈X.fs
  ·obtain⟨sl,q⟩:=slot c o (I.cne x c e) hc nch ho (I.freeC x c e);exact⟨_,q,hd⟩
  ·exact⟨o,keep c o (I.cne x c e) hc nch ho (I.freeC x c e),hd⟩
 refine⟨I.ok,I.os,hg,⟨fun b o e n hb hx=>?_,fun b o e n hb hx=>?_,fun b o e n hx=>?_,fun b o e hx=>?_,fun b xs e=>tups b xs (I.base.tups b xs e),fun b o xs e=>frzs b o xs (I.base.frzs b o xs e),fun b ps e=>?_⟩,?_,fun x c e=>?_,?_,fun x c e=>?_,fun p hp=>?_,hok,I.len⟩
 ·exact keep b o (neL b o e) hb (neC b o e hx) (I.base.keep b o e n hb hx) (I.base.free b o e n hx)
 ·obtain⟨sl,e1⟩:=I.base.slot b o e n hb hx;obtain⟨sl',e2⟩:=slot b _ (neL b o e) hb (neC b o e hx) e1 (I.base.free b o e n hx);exact⟨sl',e2⟩
 ·obtain⟨o',e1⟩:=I.base.there b o e hx;exact free b o' (neC b o e hx) e1 (I.base.free b o e n hx)
 ·obtain⟨o',e1⟩:=I.base.there b o e hx;exact there b o' (neC b o e hx) e1
 ·obtain⟨m1,e1⟩:=I.base.tbls b ps e;obtain⟨m2,e2⟩:=tbls b _ e1;exact⟨m1++m2,by rw[e2,Array.append_assoc]⟩
 ·obtain⟨m,hn,hl⟩:=I.loc;refine⟨m,ns m hn,fun i x v e1 e2 e3=>?_⟩;obtain⟨u,r,l⟩:=hl i x v e1 e2 e3;refine⟨u,r,?_⟩;rcases l with l|⟨k,c,e,z⟩
  ·exact .inl l
  ·exact .inr ⟨k,c,e,cellK x c e _ z⟩
 ·obtain⟨v,z⟩:=I.cell x c e;exact⟨v,cellK x c e v z⟩
 ·obtain⟨m,⟨o,_,_,ho,_⟩,_⟩:=I.loc;exact free _ o (fun z=>(hch _ z).2.1 rfl) ho I.free
 ·obtain⟨v,o,ho,hd⟩:=I.cell x c e;exact free c o (fun z=>(hch c z).2.2.1 x c e rfl) ho (I.freeC x c e)
 ·obtain⟨e,n,ne,nf,d⟩:=I.pin p hp;have nch:p.1∉ch:=fun z=>(hch p.1 z).2.2.2 p hp rfl
  exact⟨keep p.1 p.2 ne nf nch e n,free p.1 p.2 nch e n,ne,nf,d⟩
def Inv.un {t':Nat}(I:Inv X Z9 U H s)(u:Un X.fs [] H H' s.heap h')(hok:ZD X.prog X.w H' h'):Inv X Z9 U H' { s with heap:=h',toks:=t' }:=by
 obtain⟨m,⟨o,es,ep,ho,r⟩,_⟩:=id I.loc;obtain⟨sl,hL⟩:=u.any ho I.free (by simp)
 exact I.step (g':=s.gens) (d':=s.drawn) (ch:=[]) (fun _ z=>nomatch z) (fun b o _ hb _ e n=>u.keep b o e n hb (by simp)) (fun b o _ hb _ e n=>u.slot b o e n hb (by simp)) (fun b o _ e n=>u.free b o e n (by simp)) (fun b o _ e=>u.there b o e (by simp)) u.tups u.frzs u.tbls (fun m' hm=>by obtain⟨o',es',ep',ho',r'⟩:=hm;rw[ho]at ho';cases ho';exact⟨_,es',ep',hL,r'⟩) hok I.bare
def Inv.call {t':Nat}{d':Drawn}(I:Inv X Z9 U H s)(u:Un (frs X.stack) ch H H' s.heap h')(hok:ZD X.prog X.w H' h')(hg:AllBare g')(hch:∀ b∈ch,(b∈X.ex\/X.s₀.heap.objs.size<=b)/\b≠X.env.locals/\(∀ x c,X.env.cells.lookup x=some c->c≠b)/\∀ p∈X.pn++Z9,p.1≠b) :
  Inv X Z9 U H' { s with heap:=h',gens:=g',drawn:=d',toks:=t' }:=by
 obtain⟨m,⟨o,es,ep,ho,r⟩,_⟩:=id I.loc;obtain⟨sl,hL⟩:=u.any ho I.free fun z=>(hch _ z).2.1 rfl
 exact I.step (ch:=ch) hch (fun b o hL hb hc e n=>u.keep b o e n (fun z=>(qu.mp (I.stkSub b z)).elim hL hb) hc) (fun b o _ _ hc e n=>u.any e n hc) (fun b o hc e n=>u.free b o e n hc) (fun b o hc e=>u.there b o e hc) u.tups u.frzs u.tbls (fun m' hm=>by obtain⟨o',es',ep',ho',r'⟩:=hm;rw[ho]at ho';cases ho';exact⟨_,es',ep',hL,r'⟩) hok hg
def Inv.turned {t':Nat}{it:Addr}(I:Inv X Z9 U H s)(k:∀ b o,b≠it->s.heap.get? b=some o->h'.get? b=some o)(hn:H it=none)(hL:it≠X.env.locals)
  (h1:it∈X.ex\/X.s₀.heap.objs.size<=it) (h2:∀ x c,X.env.cells.lookup x=some c->c≠it) (h3:∀ p∈X.pn++Z9,p.1≠it):Inv X Z9 U H { s with heap:=h',toks:=t' }:=by
 have nit:∀ b u,H b=some u->b≠it:=fun b u e z=>by rw[z,hn]at e;cases e
 refine I.step (g':=s.gens) (d':=s.drawn) (ch:=[it]) (fun b hb=>?_) (fun b o _ _ hc e _=>k b o (fun z=>hc (by simp[z])) e) (fun b o _ _ hc e _=>⟨o.slots,k b o (fun z=>hc (by simp[z])) e⟩) (fun _ _ _ _ n=>n)
  (fun b o hc e=>⟨o,k b o (fun z=>hc (by simp[z])) e⟩) (fun _ _ e=>e) (fun _ _ _ e=>e) (fun b ps e=>⟨#[],by rw[e];simp⟩) (fun m hm=>?_) (fun b u e=>?_) I.bare
 ·have e:b=it:=by simpa using hb
  subst e;exact⟨h1,hL,h2,h3⟩
 ·obtain⟨o,es,ep,ho,r⟩:=hm;exact⟨o,es,ep,k _ o (Ne.symm hL) ho,r⟩
 ·refine(I.hok b u e).stay (fun c v hc q=>k c v ?_ q) (fun _ q=>q) fun _ _ q=>q
  rcases hc with z|z
  ·rw[z];exact nit b u e
  ·exact nit c _ z
def Inv.tok (I:Inv X Z9 U H s)(t:Nat):Inv X Z9 U H { s with toks:=t }:=I.un (h':=s.heap) (t':=t) Un.refl I.hok
theorem Inv.kept {t':Nat}(I:Inv X Z9 U H s)(k:∀ b u,s.heap.get? b=some u->h'.get? b=some u):Inv X Z9 U H { s with heap:=h',toks:=t' }:=I.un (Un.kept k) (I.hok.kept k)
theorem Inv.laid {a:Addr}{o:HO}{t':Nat}(I:Inv X Z9 U H s)(k:∀ b u,s.heap.get? b=some u->h'.get? b=some u)(hp:s.heap.objs.size<=a)(new:zU X.prog X.w (upd H a o) h' a o) :
  Inv X Z9 U (upd H a o) { s with heap:=h',toks:=t' }:=I.un (Un.laid k hp (I.hok.fresh hp)) (I.hok.laid k hp new)
theorem Inv.write {x e:Addr}{o:HO}{t':Nat}(I:Inv X Z9 U H s)(mu:Mx (H x))(he:e=x\/H e=some (.own x))(k:∀ b u,b≠e->s.heap.get? b=some u->h'.get? b=some u)(heo:∃ u,h'.get? e=some u)
  (new:zU X.prog X.w (upd H x o) h' x o):Inv X Z9 U (upd H x o) { s with heap:=h',toks:=t' }:=I.un (Un.write mu he k heo) (I.hok.write mu he k heo new)
def Inv.weak {σ':List (Option V)}(I:Inv X Z9 U H s)(hl:σ'.length=U.length)(w:∀ (i:Nat) v,σ'[i]?=some (some v)->U[i]?=some (some v)):Inv X Z9 σ' H s :=⟨I.ok,I.os,I.bare,I.base,by obtain⟨m,hn,hl'⟩:=I.loc;exact⟨m,hn,fun i x v e1 e2 e3=>hl' i x v e1 (w i v e2) e3⟩,I.cell,I.free,I.freeC,I.pin,I.hok,hl.trans I.len⟩
def Inv.pins_of {pins':List (Addr×Obj)}(I:Inv X Z9 U H s)(h:∀ p∈pins',s.heap.get? p.1=some p.2/\H p.1=none/\p.1≠X.env.locals/\p.1∉X.fs/\∀ v,p.2.data≠.cell v):Inv X pins' U H s :=⟨I.ok,I.os,I.bare,I.base,I.loc,I.cell,I.free,I.freeC,fun p hp=>(qC.mp hp).elim (fun z=>I.pin p (VR _ z)) (h p),I.hok,I.len⟩
def Bj {N:List Str}(hN:N.Nodup){i j:Nat}{x:Str}(a:N[i]?=some x)(b:N[j]?=some x):i=j:=by obtain⟨h1,e1⟩:=qX.mp a;obtain⟨h2,e2⟩:=qX.mp b;exact(Q8 hN).mp (e1.trans e2.symm)
def xR {M:Model}{A:Around}{E:Value->Shared->Prop}{i:Nat}{x:Str}{Q:Unit->Shared->Prop}(I:Inv X Z9 U H s)(hN:X.N.Nodup)(hi:X.N[i]?=some x)(hx:Loc X.env.scope x)(r:RelV v u)(h:∀ s',Inv X Z9 (U.set i (some v)) H s'->(∃ a,Heap.SameBut a s.heap s'.heap/\(a=X.env.locals\/X.env.cells.lookup x=some a))->Q () s')(hf:autoParam (X.fn x=true\/X.env.scope.names.lookup x=some .local) Rf):wpAny M A (storeName X.env x u) Q E s:=by
 obtain⟨m,hn,hl⟩:=id I.loc;have hcls:(X.env.scope.kind==.class||(X.env.scope.kind==.module&&X.env.locals != X.env.globals))=false:=by rw[I.ok.kind];rfl
 have hiσ:i<U.length:=by rw[I.len];exact(qX.mp hi).1
 have cne:=I.cne
 have tracked:∀ {a:Addr} {h':Heap},(∃ o,s.heap.get? a=some o/\H a=none)->Heap.SameBut a s.heap h'->ZD X.prog X.w H h':=fun {a h'} ha hs b ob e=>by
  obtain⟨_,_,hfree⟩:=ha;refine(I.hok b ob e).stay (fun c w' hc q=>(hs.2 c ?_).trans q) (fun _ q=>q) fun _ _ q=>q
  rintro rfl;rcases hc with rfl|hc
  ·rw[hfree]at e;cases e
  ·rw[hfree]at hc;cases hc
 rcases hx with hk|hk
 ·refine wpAny_storeName_local hk hn (fun h' hn' hs=>?_) hcls;obtain⟨oL,_,_,hoL,_⟩:=id hn;refine h _ ⟨I.ok,I.os,I.bare,⟨fun b o e n hb hx=>?_,fun b o e n hb hx=>?_,I.base.free,fun b o e hx=>?_,I.base.tups,I.base.frzs,I.base.tbls⟩,⟨_,hn',fun j y v' e1 e2 e3=>?_⟩,fun y c e=>?_,I.free,I.freeC,fun p hp=>?_,tracked ⟨oL,hoL,I.free⟩ hs,by simpa using I.len⟩ ⟨_,hs,.inl rfl⟩
  ·exact(hs.2 b (qS (qE (qA e) I.ok.above))).trans (I.base.keep b o e n hb hx)
  ·obtain⟨sl,e1⟩:=I.base.slot b o e n hb hx;exact⟨sl,(hs.2 b (qS (qE (qA e) I.ok.above))).trans e1⟩
  ·obtain⟨o',e1⟩:=I.base.there b o e hx;exact⟨o',(hs.2 b (qS (qE (qA e) I.ok.above))).trans e1⟩
  ·by_cases hj:j=i
   ·subst hj;rw[hi]at e1;cases e1;rw[qR hiσ]at e2;cases e2;exact⟨u,r,.inl ⟨hk,by simp⟩⟩
   ·rw[qQ (Ne.symm hj)]at e2;obtain⟨u',r',q⟩:=hl j y v' e1 e2 e3;refine⟨u',r',?_⟩;rcases q with⟨k,e⟩|⟨k,c,e,z⟩
    ·refine .inl ⟨k,?_⟩;have:y≠x:=fun e=>hj (Bj hN e1 (e▸hi))
     simp[this,e]
    ·exact .inr ⟨k,c,e,z.sameBut hs (cne y c e)⟩
  ·obtain⟨w',z⟩:=I.cell y c e;exact⟨w',z.sameBut hs (cne y c e)⟩
  ·obtain⟨e,n,ne,nf,d⟩:=I.pin p hp;exact⟨(hs.2 p.1 ne).trans e,n,ne,nf,d⟩
 ·have hfn:X.fn x=true:=by
   rcases hf with z|z
   ·exact z
   ·rw[z]at hk;cases hk
  obtain⟨c,hc⟩:=I.ok.has x (.inl hk);obtain⟨w',z⟩:=I.cell x c hc;refine wpAny_storeName_cell I.ok.kind hk hc z (fun h' hc' hs=>?_);obtain⟨oc,hoc,hocd⟩:=id z;refine h { s with heap:=h' } ⟨I.ok,I.os,I.bare,⟨fun b o e n hb hx=>?_,fun b o e n hb hx=>?_,I.base.free,fun b o e hx=>?_,I.base.tups,I.base.frzs,I.base.tbls⟩,⟨m,hn.sameBut hs (Ne.symm (cne x c hc)),fun j y v' e1 e2 e3=>?_⟩,fun y c' e=>?_,I.free,I.freeC,fun p hp=>?_,tracked ⟨oc,hoc,I.freeC x c hc⟩ hs,by simpa using I.len⟩ ⟨c,hs,.inr hc⟩
  ·exact(hs.2 b (qS (qE (qA e) (I.ok.cab x c hfn hc)))).trans (I.base.keep b o e n hb hx)
  ·obtain⟨sl,e1⟩:=I.base.slot b o e n hb hx;exact⟨sl,(hs.2 b (qS (qE (qA e) (I.ok.cab x c hfn hc)))).trans e1⟩
  ·obtain⟨o',e1⟩:=I.base.there b o e hx;exact⟨o',(hs.2 b (qS (qE (qA e) (I.ok.cab x c hfn hc)))).trans e1⟩
  ·by_cases hj:j=i
   ·subst hj;rw[hi]at e1;cases e1;rw[qR hiσ]at e2;cases e2;exact⟨u,r,.inr ⟨.inl hk,c,hc,hc'⟩⟩
   ·rw[qQ (Ne.symm hj)]at e2;obtain⟨u',r',q⟩:=hl j y v' e1 e2 e3;refine⟨u',r',?_⟩;rcases q with q|⟨k,c',e,z'⟩
    ·exact .inl q
    ·refine .inr ⟨k,c',e,z'.sameBut hs ?_⟩;rintro rfl;exact hj (Bj hN e1 (I.ok.inj _ _ _ e hc▸hi))
  ·by_cases hcc:c'=c
   ·subst hcc;exact⟨_,hc'⟩
   ·obtain⟨w2,z2⟩:=I.cell y c' e;exact⟨w2,z2.sameBut hs hcc⟩
  ·obtain⟨e,n,ne,nf,d⟩:=I.pin p hp;refine⟨(hs.2 p.1 ?_).trans e,n,ne,nf,d⟩;intro q;rw[q,hoc]at e;have q':oc=p.2:=qF e;exact d w' (by rw[<- q'];exact hocd)
def Ce {M:Model}{A:Around}{E:Value->Shared->Prop}{i:Nat}{x:Str}{Q:Unit->Shared->Prop}(I:Inv X Z9 U H s)(hN:X.N.Nodup)(hi:X.N[i]?=some x)(hx:Loc X.env.scope x)(r:RelV v u)(h:∀ s',Inv X Z9 (U.set i (some v)) H s'->Q () s')(hf:autoParam (X.fn x=true\/X.env.scope.names.lookup x=some .local) Rf):wpAny M A (storeName X.env x u) Q E s :=xR I hN hi hx r (fun s' I' _=>h s' I') hf
def Inv.call' {s':Shared}(I:Inv X Z9 U H s)(ho:s'.os=s.os)(u:Un (frs X.stack) ch H H' s.heap s'.heap)(hok:ZD X.prog X.w H' s'.heap)(hg:AllBare s'.gens)(hch:∀ b∈ch,(b∈X.ex\/X.s₀.heap.objs.size<=b)/\b≠X.env.locals/\(∀ x c,X.env.cells.lookup x=some c->c≠b)/\∀ p∈X.pn++Z9,p.1≠b):Inv X Z9 U H' s':=by obtain⟨h',g',d',t',o'⟩:=s';have e:o'=s.os:=ho;subst e;exact I.call (g':=g') (t':=t') (d':=d') u hok hg hch
end
abbrev XK:=Value->Option Addr->Hp->Prop
abbrev St:=List (Option V)
abbrev VK:=V->Hp->Prop
abbrev TE:=St->Hp->VK->Prop
abbrev TT:=St->Hp->(Bool->Hp->Prop)->Prop
abbrev TA:=St->Hp->(List V->Hp->Prop)->Prop
structure Ends where
 nx:St->Hp->Prop
 rt:VK
 bk:St->Hp->Prop:=fun _ _=>False
 ct:St->Hp->Prop:=fun _ _=>False
abbrev TS:=Ends->St->Hp->Prop
def EP (X:Cx)(Z9:List (Addr×Obj))(U:St)(Q:VK)(u:Value)(s':Shared):Prop:=∃ v H',Inv X Z9 U H' s'/\RelV v u/\Q v H'
def TP (X:Cx)(Z9:List (Addr×Obj))(U:St)(Q:Bool->Hp->Prop)(b:Bool)(s':Shared):Prop:=∃ H',Inv X Z9 U H' s'/\Q b H'
def AP (X:Cx)(Z9:List (Addr×Obj))(U:St)(Q:List V->Hp->Prop)(us:List Value)(s':Shared):Prop:=∃ vs H',Inv X Z9 U H' s'/\Vals vs us/\Q vs H'
def SP (X:Cx)(Z9:List (Addr×Obj))(D:Ends)(f:Flow)(s':Shared):Prop :=
 match f with
 |.next=>∃ σ' H',Inv X Z9 σ' H' s'/\D.nx σ' H'
 |.brk=>∃ σ' H',Inv X Z9 σ' H' s'/\D.bk σ' H'
 |.cont=>∃ σ' H',Inv X Z9 σ' H' s'/\D.ct σ' H'
 |.ret u=>∃ v σ' H',Inv X Z9 σ' H' s'/\RelV v u/\D.rt v H'
def PE (X:Cx)(e:Expr)(t:TE):Prop :=∀ (Z9:List (Addr×Obj)) (s:Shared) (U:St) (H:Hp) (Q:VK),Inv X Z9 U H s->t U H Q->wpAny (model X.prog X.w) X.A (eval e X.env) (EP X Z9 U Q) X.xe s
def PT (X:Cx)(e:Expr)(t:TT):Prop :=∀ (Z9:List (Addr×Obj)) (s:Shared) (U:St) (H:Hp) (Q:Bool->Hp->Prop),Inv X Z9 U H s->t U H Q->wpAny (model X.prog X.w) X.A (isTrue e X.env (eval e X.env)) (TP X Z9 U Q) X.xe s
def PW (X:Cx)(e:Expr)(t:TT):Prop :=∀ (whole:Sem Value) (Z9:List (Addr×Obj)) (s:Shared) (U:St) (H:Hp) (Q:Bool->Hp->Prop),Inv X Z9 U H s->t U H Q->wpAny (model X.prog X.w) X.A (isTrue e X.env whole) (TP X Z9 U Q) X.xe s
def PA (X:Cx)(es:List Expr)(t:TA):Prop :=∀ (pos:Pos) (Z9:List (Addr×Obj)) (s:Shared) (U:St) (H:Hp) (Q:List V->Hp->Prop),Inv X Z9 U H s->t U H Q->wpAny (model X.prog X.w) X.A (spliced (backTo pos (starEach es X.env))) (AP X Z9 U Q) X.xe s
def PS (X:Cx)(st:Stmt)(t:TS):Prop :=∀ (Z9:List (Addr×Obj)) (s:Shared) (U:St) (H:Hp) (D:Ends),Inv X Z9 U H s->t D U H->wpAny (model X.prog X.w) X.A (exec st X.env) (SP X Z9 D) X.xe s
def XS (X:Cx)(st:List Stmt)(t:TS):Prop :=∀ (Z9:List (Addr×Obj)) (s:Shared) (U:St) (H:Hp) (D:Ends),Inv X Z9 U H s->t D U H->wpAny (model X.prog X.w) X.A (execs st X.env) (SP X Z9 D) X.xe s
def Z2 {α:Type}{t:Sem α}{Q Q':α->Shared->Prop}{M:Model}{A:Around}{E:Value->Shared->Prop}{s:Shared}(h:wpAny M A t Q E s)(hQ:∀ a s,Q a s->Q' a s):wpAny M A t Q' E s:=wpAny_mono h hQ fun _ _ x=>x
section
variable {X:Cx}
def rD (i:Nat):TE:=fun U H Q=>∃ v,U[i]?=some (some v)/\Q v H
def tC (v:V):TE:=fun _ H Q=>Q v H
def Ģ {i:Nat}{x:Str}{pos:Pos}(hN:X.N[i]?=some x)(hv:Vis X.env.scope x)(hd:autoParam ((x==("__debug__":Str))=false) zQ)(hcd:autoParam ((x==("__classdict__":Str))=false) zQ):PE X (.Name x pos) (rD i):=by
 intro Z9 s U H Q I h;obtain⟨v,e,h⟩:=h;obtain⟨m,hn,hl⟩:=I.loc;obtain⟨u,r,l⟩:=hl i x v hN e hv;have fin:EP X Z9 U Q u s:=⟨v,H,I,r,h⟩
 rcases l with⟨hk,hm⟩|⟨hk,c,hc,hcell⟩
 ·exact wpAny_Name (wpAny_loadName_local I.ok.kind hk hn hm fin) hd
 ·rcases hk with hk|hk
  ·exact wpAny_Name (wpAny_loadName_cell I.ok.kind hk hc hcell fin) hd
  ·exact wpAny_Name (wpAny_loadName_free I.ok.kind hk hc hcell fin hcd) hd
def Cq {i j pos}:PE X (.Constant (.int i) j pos) (tC (.int i)):=fun _ _ _ H _ I h=>wpAny_Constant_int ⟨.int i,H,I.tok _,⟨_,rfl⟩,h⟩
def iH {b j pos}:PE X (.Constant (.bool b) j pos) (tC (.bl b)):=fun _ _ _ H _ I h=>Constant_bool ⟨.bl b,H,I,rfl,h⟩
def zuJ {j pos}:PE X (.Constant .none j pos) (tC .non):=fun _ _ _ H _ I h=>Constant_none ⟨.non,H,I,rfl,h⟩
def ĭ {x j pos}:PE X (.Constant (.str x) j pos) (tC (.str x)):=fun _ _ _ H _ I h=>Calls.Constant_str ⟨.str x,H,I.tok _,⟨_,rfl⟩,h⟩
def Gl (X:Cx)(x:Str):Prop:=X.env.kindOf x=some .globalImplicit
def Oz {E:Value->Shared->Prop}{u:Value}{pos:Pos}{Q:Value->Shared->Prop}(I:Inv X Z9 U H s)(hg:Gl X x)(hm:X.mg x=some u)(h:Q u s)(hd:autoParam ((x==("__debug__":Str))=false) zQ):wpAny (model X.prog X.w) X.A (eval (.Name x pos) X.env) Q E s :=Calls.Name_function_global I.ok.kind hg (Calls.loadGlobal_global (by rw[I.ok.glob];exact I.mod.glob.keeps I.bk) hm h) hd
def T8 {E:Value->Shared->Prop}{u:Value}{pos:Pos}{Q:Value->Shared->Prop}(I:Inv X Z9 U H s)(hg:Gl X x)(hm:X.mg x=none)(hv:bootBuiltins x=some u)(h:Q u s)(hn:autoParam (x≠"__name__") zQ)(hd:autoParam ((x==("__debug__":Str))=false) zQ):wpAny (model X.prog X.w) X.A (eval (.Name x pos) X.env) Q E s:=by obtain⟨mb,h1,h2⟩:=I.mod.blt;exact Calls.Name_function_global I.ok.kind hg (Calls.loadGlobal_builtin (by rw[I.ok.glob];exact I.mod.glob.keeps I.bk) hm (by rw[I.ok.blt];exact h1.keeps I.bk) ((h2 x hn).trans hv) h) hd
def pI {u:Value}{pos:Pos}(hg:Gl X x)(hm:X.mg x=some u)(r:RelV v u)(hd:autoParam ((x==("__debug__":Str))=false) zQ):PE X (.Name x pos) (tC v) :=fun _ _ _ H _ I h=>Oz I hg hm ⟨v,H,I,r,h⟩ hd
def ι {u:Value}{pos:Pos}(hg:Gl X x)(hm:X.mg x=none)(hv:bootBuiltins x=some u)(r:RelV v u)(hn:autoParam (x≠"__name__") zQ)(hd:autoParam ((x==("__debug__":Str))=false) zQ):PE X (.Name x pos) (tC v) :=fun _ _ _ H _ I h=>T8 I hg hm hv ⟨v,H,I,r,h⟩ hn hd
variable {a b:Expr}{ta tb:TE}{pos:Pos}
def PC (X:Cx)(op:CmpOp)(a b:Expr)(t:TE):Prop :=
 ∀ (Z9:List (Addr×Obj)) (s:Shared) (U:St) (H:Hp) (Q:VK),Inv X Z9 U H s->t U H Q ->
  wpAny (model X.prog X.w) X.A (eval a X.env) (fun v s₁=>wpAny (model X.prog X.w) X.A (eval b X.env) (fun u s₂=>wpAny (model X.prog X.w) X.A (compareOp op v u) (EP X Z9 U Q) X.xe s₂) X.xe s₁) X.xe s
def tB (t:TE):TT:=fun U H Q=>t U H fun x H1=>∃ c,x=.bl c/\Q c H1
def rT {t:TE}(h:PC X op a b t)(h1:autoParam (behindInMarks op b=false) v8):PE X (.Compare a [op] [b] pos) t:=fun Z9 s U H Q I hw=>wpAny_Compare1 (h Z9 s U H Q I hw) h1
def xT {t:TE}(h:PC X op a b t)(h1:autoParam (behindInMarks op b=false) v8):PT X (.Compare a [op] [b] pos) (tB t):=by intro Z9 s U H Q I hw;refine wpAny_isTrue_Compare1 (Z2 (h Z9 s U H _ I hw) fun v s1 h1=>Z2 h1 fun u s2 h2=>Z2 h2 fun c s3 ⟨x,H1,I1,r1,q1⟩=>?_) h1;obtain⟨d,rfl,q⟩:=q1;cases r1;exact wpAny_truthy_bool ⟨H1,I1,q⟩
def zuP {e:Expr}{t:TE}(h:PE X e t)(he:autoParam (∀ whole,isTrue e X.env whole=(do let v <- whole;standAt e.pos;holding [v] (truthy v))) Qj):PT X e (tB t):=by intro Z9 s U H Q I hw;refine isTrue_plain (Z2 (h Z9 s U H _ I hw) fun v s1 ⟨x,H1,I1,r1,q1⟩=>?_) (he _);obtain⟨d,rfl,q⟩:=q1;cases r1;exact wpAny_truthy_bool ⟨H1,I1,q⟩
variable {tA tB':TT}{rest:List Expr}
def fO (t u:TT):TT:=fun U H Q=>t U H fun c H1=>if c=true then u U H1 Q else Q false H1
def ψ (t u:TT):TT:=fun U H Q=>t U H fun c H1=>if c=true then Q true H1 else u U H1 Q
def zyF (t:TT):TT:=fun U H Q=>t U H fun c H1=>Q (!c) H1
def zrN (ha:PT X a tA):PW X (.BoolOp .And [a] pos) tA:=by
 intro wh Z9 s U H Q I h;refine isTrue_and (Z2 (ha Z9 s U H Q I h) fun c s1 e=>?_);cases c with
 |true=>exact isTrue_and_nil e
 |false=>exact e
def zu6 (ha:PT X a tA):PW X (.BoolOp .Or [a] pos) tA:=by
 intro wh Z9 s U H Q I h;refine isTrue_or (Z2 (ha Z9 s U H Q I h) fun c s1 e=>?_);cases c with
 |false=>exact isTrue_or_nil e
 |true=>exact e
def Ϝ (ha:PT X a tA)(hb:PW X (.BoolOp .And (b::rest) pos) tB'):PW X (.BoolOp .And (a::b::rest) pos) (fO tA tB'):=by
 intro wh Z9 s U H Q I h;refine isTrue_and (Z2 (ha Z9 s U H _ I h) fun c s1 ⟨H1,I1,q1⟩=>?_);cases c with
 |true=>exact hb wh Z9 s1 U H1 Q I1 q1
 |false=>exact⟨H1,I1,q1⟩
def nj (ha:PT X a tA)(hb:PW X (.BoolOp .Or (b::rest) pos) tB'):PW X (.BoolOp .Or (a::b::rest) pos) (ψ tA tB'):=by
 intro wh Z9 s U H Q I h;refine isTrue_or (Z2 (ha Z9 s U H _ I h) fun c s1 ⟨H1,I1,q1⟩=>?_);cases c with
 |true=>exact⟨H1,I1,q1⟩
 |false=>exact hb wh Z9 s1 U H1 Q I1 q1
def fY (ha:PT X a tA):PT X (.UnaryOp .Not a pos) (zyF tA):=by intro Z9 s U H Q I h;exact isTrue_not (ha Z9 s U H (fun c H1=>Q (!c) H1) I h)
def É (ta tb:TE):TE:=fun U H Q=>ta U H fun x H1=>∃ c,x=.bl c/\if c=true then tb U H1 Q else Q (.bl false) H1
def zxN (ta tb:TE):TE:=fun U H Q=>ta U H fun x H1=>∃ c,x=.bl c/\if c=true then Q (.bl true) H1 else tb U H1 Q
def dY (ta:TE):TE:=fun U H Q=>ta U H fun x H1=>∃ c,x=.bl c/\Q (.bl (!c)) H1
def zt7 {op}{t:TE}(h:PE X a t):PE X (.BoolOp op [a] pos) t:=fun Z9 s U H Q I hw=>BoolOp_one (h Z9 s U H Q I hw)
def Ŷ (ha:PE X a ta)(hb:PE X (.BoolOp .And (b::rest) pos) tb):PE X (.BoolOp .And (a::b::rest) pos) (É ta tb):=by
 intro Z9 s U H Q I h;refine BoolOp_and (Z2 (ha Z9 s U H _ I h) fun v s1 ⟨x,H1,I1,r1,q1⟩=>?_);obtain⟨c,rfl,q1⟩:=q1;cases r1;refine wpAny_truthy_bool ?_;cases c with
 |true=>exact hb Z9 s1 U H1 Q I1 q1
 |false=>exact⟨.bl false,H1,I1,rfl,q1⟩
def zwT (ha:PE X a ta)(hb:PE X (.BoolOp .Or (b::rest) pos) tb):PE X (.BoolOp .Or (a::b::rest) pos) (zxN ta tb):=by
 intro Z9 s U H Q I h;refine BoolOp_or (Z2 (ha Z9 s U H _ I h) fun v s1 ⟨x,H1,I1,r1,q1⟩=>?_);obtain⟨c,rfl,q1⟩:=q1;cases r1;refine wpAny_truthy_bool ?_;cases c with
 |false=>exact hb Z9 s1 U H1 Q I1 q1
 |true=>exact⟨.bl true,H1,I1,rfl,q1⟩
def Ŝ (ha:PE X a ta):PE X (.UnaryOp .Not a pos) (dY ta):=by intro Z9 s U H Q I h;refine UnaryOp_ (Z2 (ha Z9 s U H _ I h) fun v s1 ⟨x,H1,I1,r1,q1⟩=>?_);obtain⟨c,rfl,q1⟩:=q1;cases r1;exact not_of (wpAny_truthy_bool ⟨.bl (!c),H1,I1,rfl,q1⟩)
def tIf (t:TT)(ta tb:TE):TE:=fun U H Q=>t U H fun c H1=>if c=true then ta U H1 Q else tb U H1 Q
def znO (hc:PT X c tA)(ha:PE X a ta)(hb:PE X b tb):PE X (.IfExp c a b pos) (tIf tA ta tb):=by
 intro Z9 s U H Q I h;refine wpAny_IfExp (Z2 (hc Z9 s U H _ I h) fun d s1 ⟨H1,I1,q1⟩=>?_);cases d with
 |true=>exact ha Z9 s1 U H1 Q I1 q1
 |false=>exact hb Z9 s1 U H1 Q I1 q1
end
def ZC (K:PySem.W.Frag)(H:Hp)(a:Addr)(xs:List V):Prop :=
 Rd H a (.lst xs) \/
  ∃ (o:Obj) (its:Array Value) (n:Nat),K.lookup a=some o/\o.cls=.type "list"/\o.dict=none/\o.data=.seq its n/\its.size<=sizeLine/\Vals xs its.toList
def ZQ (K:PySem.W.Frag)(H:Hp)(a:Addr)(xs:List V):Prop :=
 Rd H a (.tup xs) \/
  ∃ (o:Obj) (its:Array Value) (n:Nat),K.lookup a=some o/\o.cls=.type "tuple"/\o.data=.seq its n/\its.size<=sizeLine/\Vals xs its.toList
def zyB:Value->Option V
 |.none=>some .non
 |.bool b=>some (.bl b)
 |.int i _=>some (.int i)
 |.str x _=>some (.str x)
 |.bytes b _=>some (.byt b)
 |.float b _=>some (.flt b)
 |.ref a=>some (.ref a)
 |.type n=>some (.ty n)
 |_=>none
def RelV.abs (r:RelV x u):zyB u=some x:=by
 cases x with
 |non=>cases r;rfl
 |bl _=>cases r;rfl
 |int _=>obtain⟨t,rfl⟩:=r;rfl
 |str _=>obtain⟨t,rfl⟩:=r;rfl
 |byt _=>obtain⟨t,rfl⟩:=r;rfl
 |flt _=>obtain⟨t,rfl⟩:=r;rfl
 |ref _=>cases r;rfl
 |ty _=>cases r;rfl
def RelV.inj (r:RelV x u)(q:RelV y u):x=y:=qF (r.abs.symm.trans q.abs)
theorem Vals.inj:∀ {xs ys:List V} {us:List Value},Vals xs us->Vals ys us->xs=ys
 |_,_,_,.nil,.nil=>rfl
 |_,_,_,.cons r t,.cons r' t'=>by rw[r.inj r',Vals.inj t t']
section
variable {X:Cx}{Z9:List (Addr×Obj)}{U:St}{H:Hp}{s:Shared}{a:Addr}{xs ys:List V}
def ZC.of {K:PySem.W.Frag}(h:H a=some (.lst xs)):ZC K H a xs:=.inl (.inl h)
def ZQ.of {K:PySem.W.Frag}(h:H a=some (.tup xs)):ZQ K H a xs:=.inl (.inl h)
def Inv.list (I:Inv X Z9 U H s)(h:ZC X.K H a xs):∃ its:List Value,Vals xs its/\PlainL s.heap a its.toArray/\xs.length<=sizeLine:=by
 rcases h with h|⟨o,its,n,hk,hc,hd,hs,hz,r⟩
 ·obtain⟨z,its,n,r,e⟩:=h.ok I.hok;exact⟨its,r,⟨_,n,e,rfl,rfl,rfl⟩,z⟩
 ·refine⟨its.toList,r,⟨o,n,I.kIn a o hk,hc,hd,by simpa using hs⟩,?_⟩;have e:=r.length;simp only[Vb]at e;lia
def Inv.tuple (I:Inv X Z9 U H s)(h:ZQ X.K H a xs):∃ its:List Value,Vals xs its/\IsTup s.heap a its.toArray/\xs.length<=sizeLine:=by
 rcases h with h|⟨o,its,n,hk,hc,hs,hz,r⟩
 ·obtain⟨z,its,r,p⟩:=h.ok I.hok;exact⟨its,r,p,z⟩
 ·refine⟨its.toList,r,⟨o,I.kIn a o hk,hc,n,by simpa using hs⟩,?_⟩;have e:=r.length;simp only[Vb]at e;lia
def Inv.list_inj (I:Inv X Z9 U H s)(h:ZC X.K H a xs)(h':ZC X.K H a ys):xs=ys:=by
 obtain⟨its,r,⟨o,n,e,_,_,d⟩,_⟩:=I.list h;obtain⟨its',r',⟨o',n',e',_,_,d'⟩,_⟩:=I.list h';rw[e]at e';cases e';rw[d]at d';injection d' with d1 _;have:its=its':=by simpa using congrArg Array.toList d1
 subst this;exact r.inj r'
def Inv.tuple_inj (I:Inv X Z9 U H s)(h:ZQ X.K H a xs)(h':ZQ X.K H a ys):xs=ys:=by
 obtain⟨its,r,⟨o,e,_,n,d⟩,_⟩:=I.tuple h;obtain⟨its',r',⟨o',e',_,n',d'⟩,_⟩:=I.tuple h';rw[e]at e';cases e';rw[d]at d';injection d' with d1 _;have:its=its':=by simpa using congrArg Array.toList d1
 subst this;exact r.inj r'
end
abbrev Cx.wish (X:Cx)(E:Value->Shared->Prop):Cx:={ X with xe:=E }
abbrev Cx.nox (X:Cx):Cx:=X.wish fun _ _=>False
theorem Cx.Ok.wish {X:Cx}(ok:X.Ok)(E:Value->Shared->Prop):(X.wish E).Ok :=⟨ok.mod,ok.kind,ok.glob,ok.blt,ok.above,ok.inj,ok.has,ok.cab,ok.hd,ok.frames,ok.stk,ok.exf,ok.bs,ok.bsz,ok.noex,ok.exfs,ok.funs,ok.frf⟩
def Cx.Ok.unwish {X:Cx}{E:Value->Shared->Prop}(ok:(X.wish E).Ok):X.Ok :=⟨ok.mod,ok.kind,ok.glob,ok.blt,ok.above,ok.inj,ok.has,ok.cab,ok.hd,ok.frames,ok.stk,ok.exf,ok.bs,ok.bsz,ok.noex,ok.exfs,ok.funs,ok.frf⟩
section
variable {X:Cx}{Z9:List (Addr×Obj)}{U:St}{H:Hp}{s:Shared}{E:Value->Shared->Prop}
theorem Inv.wish (I:Inv X Z9 U H s)(E:Value->Shared->Prop):Inv (X.wish E) Z9 U H s:=⟨I.ok.wish E,I.os,I.bare,I.base,I.loc,I.cell,I.free,I.freeC,I.pin,I.hok,I.len⟩
theorem Inv.unwish (I:Inv (X.wish E) Z9 U H s):Inv X Z9 U H s:=⟨I.ok.unwish,I.os,I.bare,I.base,I.loc,I.cell,I.free,I.freeC,I.pin,I.hok,I.len⟩
theorem SP.unwish {D:Ends}(h:SP (X.wish E) Z9 D f s'):SP X Z9 D f s':=by
 cases f with
 |next=>obtain⟨σ',H',I,q⟩:=h;exact⟨σ',H',I.unwish,q⟩
 |brk=>obtain⟨σ',H',I,q⟩:=h;exact⟨σ',H',I.unwish,q⟩
 |cont=>obtain⟨σ',H',I,q⟩:=h;exact⟨σ',H',I.unwish,q⟩
 |ret u=>obtain⟨v,σ',H',I,r,q⟩:=h;exact⟨v,σ',H',I.unwish,r,q⟩
theorem XS.nox {st:List Stmt}{t:TS}(h:XS X.nox st t):XS X st t:=fun Z9 s U H D I hw =>wpAny_mono (h Z9 s U H D (I.wish _) hw) (fun _ _ q=>q.unwish) fun _ _ z=>False.elim z
end
section
variable {X:Cx}{st:Stmt}{rest:List Stmt}{t u:TS}{e:Expr}{te:TE}{pos:Pos}
def Bv:TS:=fun D U H=>D.nx U H
def mO (t u:TS):TS:=fun D U H=>t { D with nx:=u D } U H
def ÿ:XS X [] Bv:=fun _ _ U H _ I h=>wpAny_execs_nil ⟨U,H,I,h⟩
def Ç (h1:PS X st t)(h2:XS X rest u):XS X (st::rest) (mO t u):=by
 intro Z9 s U H D I h;refine wpAny_execs_cons (Z2 (h1 Z9 s U H { D with nx:=u D } I h) fun f s1 q=>?_);cases f with
 |next =>obtain⟨σ',H',I',q⟩:=q;exact h2 Z9 s1 σ' H' D I' q
 |ret v=>exact q
 |brk=>exact q
 |cont=>exact q
def zqz (h1:PS X st t):XS X [st] t:=by
 intro Z9 s U H D I h;refine wpAny_execs_cons (Z2 (h1 Z9 s U H D I h) fun f s1 q=>?_);cases f with
 |next=>exact wpAny_execs_nil q
 |ret v=>exact q
 |brk=>exact q
 |cont=>exact q
def ō:TS:=fun D U H=>D.bk U H
def iw:TS:=fun D U H=>D.ct U H
def Đ:PS X (.Pass pos) Bv:=fun _ _ U H _ I h=>wpAny_Pass ⟨U,H,I,h⟩
def ji:PS X (.Break pos) ō:=fun _ _ U H _ I h=>wpAny_Break ⟨U,H,I,h⟩
def ù:PS X (.Continue pos) iw:=fun _ _ U H _ I h=>wpAny_Continue ⟨U,H,I,h⟩
def Inv.quiet (I:Inv X Z9 U H s):interactive X.env=false:=by simp[interactive,I.ok.kind]
def zxm (te:TE):TS:=fun D U H=>te U H fun _ H1=>D.nx U H1
def cL (he:PE X e te)(hs:autoParam (swapsWith e none pos.line X.env=pure false) zy):PS X (.Expr e pos) (zxm te):=by intro Z9 s U H D I h;exact wpAny_Expr_any (Z2 (he Z9 s U H _ I h) fun v s1 zq1=>by obtain⟨x,H1,I1,r1,q1⟩:=zq1;exact⟨U,H1,I1,q1⟩) I.quiet hs
def â (te:TE):TS:=fun D U H=>te U H D.rt
def Θ (he:PE X e te):PS X (.Return (some e) pos) (â te):=by intro Z9 s U H D I h;exact wpAny_Return_some (Z2 (he Z9 s U H _ I h) fun v s1 zq2=>by obtain⟨x,H1,I1,r1,q1⟩:=zq2;exact⟨x,U,H1,I1,r1,q1⟩)
def č (c:TT)(t u:TS):TS:=fun D U H=>c U H fun b H1=>if b=true then t D U H1 else u D U H1
def Ń (hc:PT X c tc)(ha:XS X a t)(hb:XS X b u):PS X (.If c a b pos) (č tc t u):=by
 intro Z9 s U H D I h;refine wpAny_If (Z2 (hc Z9 s U H _ I h) fun d s1 ⟨H1,I1,q1⟩=>?_);cases d with
 |true=>exact ha Z9 s1 U H1 D I1 q1
 |false=>exact hb Z9 s1 U H1 D I1 q1
def ztH:TS:=fun _ _ _=>False
def mC:PS X st ztH:=fun _ _ _ _ _ _ h=>h.elim
end
abbrev TG:=V->St->Hp->(St->Hp->Prop)->Prop
abbrev Rn:=List V->St->Hp->(St->Hp->Prop)->Prop
def PG (X:Cx)(target:Expr)(t:TG):Prop :=
 ∀ (Z9:List (Addr×Obj)) (s:Shared) (U:St) (H:Hp) (v:V) (u:Value) (Q:St->Hp->Prop),Inv X Z9 U H s->RelV v u->t v U H Q ->
  wpAny (model X.prog X.w) X.A (assign target X.env u) (fun _ s'=>∃ σ' H',Inv X Z9 σ' H' s'/\Q σ' H') X.xe s
def Lh (X:Cx)(ts:List Expr)(t:Rn):Prop :=
 ∀ (Z9:List (Addr×Obj)) (s:Shared) (U:St) (H:Hp) (vs:List V) (us:List Value) (Q:St->Hp->Prop),Inv X Z9 U H s->Vals vs us->t vs U H Q ->
  wpAny (model X.prog X.w) X.A (assignInOrder ((assignEach ts X.env).map (·.2)) us) (fun _ s'=>∃ σ' H',Inv X Z9 σ' H' s'/\Q σ' H') X.xe s
abbrev Dl:=V->V->V->Hp->(Hp->Prop)->Prop
def pH (X:Cx)(t:Dl):Prop :=
 ∀ (Z9:List (Addr×Obj)) (s:Shared) (U:St) (H:Hp) (o i v:V) (ov iv u:Value) (Q:Hp->Prop),Inv X Z9 U H s->RelV o ov->RelV i iv->RelV v u->t o i v H Q ->
  wpAny (model X.prog X.w) X.A (setItem ov iv u) (fun _ s'=>∃ H',Inv X Z9 U H' s'/\Q H') X.xe s
abbrev Gf:=V->V->Hp->VK->Prop
def yu (X:Cx)(op:Operator)(t:Gf):Prop :=
 ∀ (Z9:List (Addr×Obj)) (s:Shared) (U:St) (H:Hp) (x y:V) (v u:Value) (Q:VK),Inv X Z9 U H s->RelV x v->RelV y u->t x y H Q ->
  wpAny (model X.prog X.w) X.A (inplaceOp op v u) (EP X Z9 U Q) X.xe s
section
variable {X:Cx}{pos:Pos}
def zR (i:Nat):TG:=fun v U H Q=>Q (U.set i (some v)) H
def zp6 {i:Nat}{x:Str}(hN:X.N.Nodup)(hi:X.N[i]?=some x)(hx:Loc X.env.scope x)(hf:autoParam (X.fn x=true\/X.env.scope.names.lookup x=some .local) Rf):PG X (.Name x pos) (zR i):=by intro Z9 s U H v u Q I r h;exact wpAny_assign_Name (Ce I hN hi hx r (fun s' I'=>⟨_,H,I',h⟩) hf)
def YW:Rn:=fun vs U H Q=>vs=[]/\Q U H
def zK (t:TG)(u:Rn):Rn:=fun vs U H Q=>∃ v r,vs=v::r/\t v U H fun σ' H'=>u r σ' H' Q
def Ϧ:Lh X [] YW:=by intro Z9 s U H vs us Q I r h;obtain⟨e,h⟩:=h;subst e;cases r;exact assignInOrder_nil ⟨U,H,I,h⟩
def Ĝ {e:Expr}{t:TG}(h1:PG X e t)(h2:Lh X es u)(hs:autoParam ((assignEach (e::es) X.env).map (·.2)=assign e X.env::(assignEach es X.env).map (·.2)) zy):Lh X (e::es) (zK t u):=by
 intro Z9 s U H vs us Q I r h;obtain⟨v,vr,e1,h⟩:=h;subst e1;cases r with
 |cons r rr =>rw[hs];refine assignInOrder_cons (Z2 (h1 Z9 s U H _ _ _ I r h) fun _ s1 ⟨σ1,H1,I1,q1⟩=>?_);exact h2 Z9 s1 σ1 H1 _ _ Q I1 rr q1
def YL (K:PySem.W.Frag)(n:Nat)(t:Rn):TG:=fun v U H Q=>∃ a xs,v=.ref a/\ZQ K H a xs/\xs.length=n/\t xs U H Q
def zuw {k:Nat}{t:Rn}{n:Nat}(hc:X.calm=true)(h:Lh X es t)(hn:autoParam ((assignEach es X.env).length=n) zy)(hst:autoParam ((assignEach es X.env).findIdx? (·.1)=none) zy):PG X (.Tuple es k pos) (YL X.K n t):=by
 intro Z9 s U H v u Q I r hw;obtain⟨a,xs,e1,hq,hl,hw⟩:=hw;subst e1;cases r;obtain⟨its,rv,ht,hz⟩:=I.tuple hq;refine assign_Tuple_tuple (I.ok.hd hc) ht (by simp[hn,<- hl,rv.length]) hst fun h' hx=>?_
 have I1:Inv X Z9 U H { s with heap:=h' }:=I.kept (t':=s.toks) fun b o e=>hx b o (qS (qA e)) e
 exact h Z9 _ U H xs _ Q I1 (by simpa using rv) hw
def Qy (to ti:TE)(t:Dl):TG:=fun v U H Q=>to U H fun o H1=>ti U H1 fun i H2=>t o i v H2 fun H3=>Q U H3
def zuF {t:Dl}(ho:PE X o to)(hi:PE X i ti)(hs:pH X t)(ha:∀ v,assign (.Subscript o i pos) X.env v=(do
   let ov <- holding [v] (eval o X.env);let iv <- holding [v,ov] (eval i X.env)
   standAt pos
   holding [v,ov,iv] (setItem ov iv v)
   release [v,ov,iv] []):=by intro _;rfl):PG X (.Subscript o i pos) (Qy to ti t):=by
 intro Z9 s U H v u Q I r h;rw[ha];refine wpAny_bind (wpAny_holding (Z2 (ho Z9 s U H _ I h) fun ov s1 ⟨x,H1,I1,r1,q1⟩=>?_));refine wpAny_bind (wpAny_holding (Z2 (hi Z9 s1 U H1 _ I1 q1) fun iv s2 ⟨y,H2,I2,r2,q2⟩=>?_));refine wpAny_bind (wpAny_standAt (wpAny_bind (wpAny_holding (Z2 (hs Z9 s2 U H2 x y v ov iv u _ I2 r1 r2 r q2) fun _ s3 ⟨H3,I3,q3⟩=>?_))));exact wpAny_release ⟨U,H3,I3,q3⟩
def Gh (te:TE)(g:TG):TS:=fun D U H=>te U H fun x H1=>g x U H1 D.nx
def Ϩ {e:Expr}(he:PE X e te)(hg:PG X tg g)(hs:autoParam (swapsWithSole [tg] e pos.line X.env=pure false) zy)(hw:autoParam (swappedStores [tg] e X.env=pure none) zy)(h1:autoParam ((assignEach [tg] X.env).map (·.2)=[assign tg X.env]) zy):PS X (.Assign [tg] e pos) (Gh te g):=by intro Z9 s U H D I h;refine wpAny_Assign_stores (Z2 (he Z9 s U H _ I h) fun v s1 ⟨x,H1,I1,r1,q1⟩=>?_) hs hw;rw[h1];exact Z2 (hg Z9 s1 U H1 x v _ I1 r1 q1) fun _ s2 q=>q
def jd {i:Nat}{x:Str}{e:Expr}{pos':Pos}(hN:X.N.Nodup)(hi:X.N[i]?=some x)(hx:Loc X.env.scope x)(he:PE X e te)(hs:autoParam (swapsWith e (some (.Name x pos')) pos.line X.env=pure false) zy)(hf:autoParam (X.fn x=true\/X.env.scope.names.lookup x=some .local) Rf) :
  PS X (.Assign [.Name x pos'] e pos) (Gh te (zR i)):=by
 intro Z9 s U H D I h;refine wpAny_Assign_Name (Z2 (he Z9 s U H _ I h) fun v s1 ⟨y,H1,I1,r1,q1⟩=>?_) hs;exact Ce I1 hN hi hx r1 (fun s2 I2=>⟨_,H1,I2,q1⟩) hf
def zxU (i:Nat)(te:TE)(ti:Gf):TS:=fun D U H=>∃ x,U[i]?=some (some x)/\te U H fun y H1=>ti x y H1 fun z H2=>D.nx (U.set i (some z)) H2
def ň {i:Nat}{x:Str}{e:Expr}{pos':Pos}(hN:X.N.Nodup)(hi:X.N[i]?=some x)(hx:Loc X.env.scope x)(he:PE X e te)(ho:yu X op ti)(hf:autoParam (X.fn x=true\/X.env.scope.names.lookup x=some .local) Rf) :
  PS X (.AugAssign (.Name x pos') op e pos) (zxU i te ti):=by
 intro Z9 s U H D I h;obtain⟨v,e1,h⟩:=h;obtain⟨m,hn,hl⟩:=I.loc;have vis:Vis X.env.scope x:=by rcases hx with k|k;exact .inl k;exact .inr (.inl k)
 obtain⟨u,r,l⟩:=hl i x v hi e1 vis;refine wpAny_AugAssign_Name ?_
 have go:wpAny (model X.prog X.w) X.A (eval e X.env) (fun w s₂=>wpAny (model X.prog X.w) X.A (inplaceOp op u w) (fun r s₃=>wpAny (model X.prog X.w) X.A (storeName X.env x r) (fun _=>SP X Z9 D .next) X.xe s₃) X.xe s₂) X.xe s:=by
  refine Z2 (he Z9 s U H _ I h) fun w s1 ⟨y,H1,I1,r1,q1⟩=>?_
  refine Z2 (ho Z9 s1 U H1 v y u w _ I1 r r1 q1) fun z s2 ⟨zv,H2,I2,r2,q2⟩=>?_
  exact Ce I2 hN hi hx r2 (fun s3 I3=>⟨_,H2,I3,q2⟩) hf
 rcases l with⟨hk,hm⟩|⟨hk,c,hc,hcell⟩
 ·exact wpAny_loadName_local I.ok.kind hk hn hm go
 ·rcases hk with hk|hk
  ·exact wpAny_loadName_cell I.ok.kind hk hc hcell go
  ·rcases hx with k|k
   ·have:X.env.scope.names.lookup x=some .free:=hk;rw[k]at this;cases this
   ·have:X.env.scope.names.lookup x=some .free:=hk;rw[k]at this;cases this
def ipI (f:Int->Int->Int):Gf:=fun x y H Q=>∃ i j,x=.int i/\y=.int j/\Q (.int (f i j)) H
def aR:yu X .Add (ipI fun i j=>i+j):=by intro Z9 s U H x y v u Q I r1 r2 h;obtain⟨i,j,e1,e2,q⟩:=h;subst e1;subst e2;obtain⟨t,rfl⟩:=r1;obtain⟨t',rfl⟩:=r2;exact iadd_int ⟨.int _,H,I.tok _,⟨_,rfl⟩,q⟩
end
section
variable {X:Cx}{pos:Pos}
def gM (c:TT)(tb:TS):TS:=fun D U H=>∃ W:Nat->St->Hp->Prop,(∃ m,W m U H)/\∀ m U H,W m U H ->
 c U H fun b H1=>if b=true then ∃ N:St->Hp->Prop,(∀ σ' H',N σ' H'->∃ m',m'<m/\W m' σ' H')/\tb { D with nx:=N,ct:=N,bk:=D.nx } U H1 else D.nx U H1
def zob (hp:PassesOwn (model X.prog X.w) X.A X.env X.xe)(hc:PT X c tc)(hb:XS X body tb):PS X (.While c body [] pos) (gM tc tb):=by
 intro Z9 s U H D I h;obtain⟨W,⟨m0,w0⟩,turn⟩:=h;refine wpAny_While (codeAny_whileLoop (fun n s'=>∃ σ' H',Inv X Z9 σ' H' s'/\W n σ' H') ?_ m0 ⟨U,H,I,w0⟩);rintro n s1 ⟨σ1,H1,I1,w1⟩;refine wpAny_passesOwn hp (Z2 (hc Z9 s1 σ1 H1 _ I1 (turn n σ1 H1 w1)) fun b s2 ⟨H2,I2,q2⟩=>?_);cases b with
 |true =>
  obtain⟨N,hN,q2⟩:=q2;rw[if_pos rfl];refine wpAny_passesOwn hp (Z2 (hb Z9 s2 σ1 H2 _ I2 q2) fun f s3 q3=>?_);cases f with
  |next =>obtain⟨σ3,H3,I3,n3⟩:=q3;obtain⟨m',hm,w3⟩:=hN σ3 H3 n3;exact⟨m',hm,σ3,H3,I3,w3⟩
  |cont =>obtain⟨σ3,H3,I3,n3⟩:=q3;obtain⟨m',hm,w3⟩:=hN σ3 H3 n3;exact⟨m',hm,σ3,H3,I3,w3⟩
  |brk=>exact q3
  |ret v=>exact q3
 |false =>rw[if_neg qo];exact wpAny_execs_nil ⟨σ1,H2,I2,q2⟩
end
structure It where
 go:Nat->Hp->Prop
 yld:Nat->Hp->V->Hp->Prop
 stop:Nat->Hp->Prop
def V5 (X:Cx)(Z9:List (Addr×Obj))(H:Hp)(b:Addr):Prop :=H b=none/\b≠X.env.locals/\b∉X.fs/\(b∈X.ex\/X.s₀.heap.objs.size<=b)/\(∀ x c,X.env.cells.lookup x=some c->c≠b)/\∀ p∈X.pn++Z9,p.1≠b
def Inv.fpOk {H':Hp}{b:Addr}(I:Inv X Z9 U H s)(hb:s.heap.objs.size<=b)(hn:H' b=none):V5 X Z9 H' b:=by
 refine⟨hn,Wt (qE I.lt hb),I.nofs hb,.inr (qV I.sz hb),fun x c e z=>?_,fun p hp z=>?_⟩
 ·obtain⟨v,q⟩:=I.cell x c e;exact absurd (qE q.lt (by rw[z];exact hb)) (Xq _)
 ·exact absurd (qE (qA (I.pin p hp).1) (by rw[z];exact hb)) (Xq _)
structure Turn (P:Program)(w:World)(K:PySem.W.Frag)(tg:Expr)(J:It)(fp:List Addr)(it:Addr)(tn:Nat->Heap->Prop):Prop where
 mem:it∈fp
 obj:∀ i h,tn i h->∀ b∈fp,∃ o,h.get? b=some o/\∀ v,o.data≠.cell v
 keep:∀ i h h',tn i h->(∀ b∈fp,∀ o,h.get? b=some o->h'.get? b=some o)->tn i h'
 item:∀ (X:Cx),X.prog=P->X.w=w->X.K=K->X.calm=true->∀ (i:Nat) (Z9:List (Addr×Obj)) (s:Shared) (U:St) (H:Hp) (E:Value->Shared->Prop),Inv X Z9 U H s->(∀ b∈fp,V5 X Z9 H b)->tn i s.heap->J.go i H ->
  wpAny (model P w) X.A (pyNext (.ref it)) (fun r s1=>∃ u,r=some u /\
   wpAny (model P w) X.A (letOwnedTupleGo tg (.ref it) u) (fun _ s2=>∃ x H',Inv X Z9 U H' s2/\RelV x u/\J.yld i H x H'/\tn (i+1) s2.heap/\∀ b∈fp,H' b=none) E s1) E s
 done:∀ (X:Cx),X.prog=P->X.w=w->X.K=K->X.calm=true->∀ (i:Nat) (Z9:List (Addr×Obj)) (s:Shared) (U:St) (H:Hp) (E:Value->Shared->Prop),Inv X Z9 U H s->(∀ b∈fp,V5 X Z9 H b)->tn i s.heap->J.stop i H ->
  wpAny (model P w) X.A (pyNext (.ref it)) (fun r s1=>r=none/\Inv X Z9 U H s1) E s
 self:∀ (A:Around) (i:Nat) (s:Shared) (Q:Value->Shared->Prop) (E:Value->Shared->Prop),tn i s.heap->Q (.ref it) s->wpAny (model P w) A (pyIter (.ref it)) Q E s
abbrev TI:=St->Hp->(It->Hp->Prop)->Prop
def PIE (X:Cx)(Z9:List (Addr×Obj))(U:St)(tg:Expr)(R:It->Hp->Prop)(itv:Value)(s2:Shared):Prop :=∃ (it:Addr) (fp:List Addr) (tn:Nat->Heap->Prop) (J:It) (H':Hp),itv=.ref it/\Inv X Z9 U H' s2/\Turn X.prog X.w X.K tg J fp it tn/\tn 0 s2.heap/\(∀ b∈fp,V5 X Z9 H' b)/\R J H'
def PI (X:Cx)(tg iter:Expr)(wi:TI):Prop :=
 ∀ (Z9:List (Addr×Obj)) (s:Shared) (U:St) (H:Hp) (R:It->Hp->Prop),Inv X Z9 U H s->wi U H R ->
  wpAny (model X.prog X.w) X.A (eval iter X.env) (fun v s1=>wpAny (model X.prog X.w) X.A (pyIter v) (PIE X Z9 U tg R) X.xe s1) X.xe s
def Qp {M:Model}{A:Around}{E:Value->Shared->Prop}{s:Shared}{tg:Expr}{it:Addr}{u:Value}{o:Obj}{n:String}{vs:Array Value}{Q:Unit->Shared->Prop}(ho:s.heap.get? it=some o)(hc:o.cls=.type n)(hd:o.data=.fields vs)
    (hn:["enumerate","zip","dict_itemiterator","dict_reverseitemiterator","odict_iterator","itertools.zip_longest","itertools.pairwise"].contains n=false) (hQ:Q () s):wpAny M A (letOwnedTupleGo tg (.ref it) u) Q E s:=by
  unfold letOwnedTupleGo
  cases tg<;>first
    |exact wpAny_pure hQ
    | (cases u <;> first
        |exact wpAny_pure hQ
        | (refine wpAny_bind (wpAny_load ho ?_)
           rw[hc,hd];show wpAny M A (if(["enumerate","zip","dict_itemiterator","dict_reverseitemiterator","odict_iterator","itertools.zip_longest","itertools.pairwise"].contains n&&vs[0]?==some (rawInt _))=true then _ else _) Q E s;rw[if_neg (by intro h;rw[hn,VJ]at h;cases h)];exact wpAny_pure hQ))
def FZ (K:PySem.W.Frag)(a:Addr):It :=⟨fun i H=>∃ xs x,ZC K H a xs/\xs[i]?=some x,fun i H x H'=>H'=H/\∀ xs,ZC K H a xs->xs[i]?=some x,fun i H=>∃ xs,ZC K H a xs/\xs.length<=i⟩
def Gz (K:PySem.W.Frag)(a:Addr):It :=⟨fun i H=>∃ xs x,ZQ K H a xs/\xs[i]?=some x,fun i H x H'=>H'=H/\∀ xs,ZQ K H a xs->xs[i]?=some x,fun i H=>∃ xs,ZQ K H a xs/\xs.length<=i⟩
def Q5 (lo:Int)(n:Nat):It:=⟨fun i _=>i<n,fun i H x H'=>H'=H/\x=.int (lo+i),fun i _=>n<=i⟩
def cI {P:Program}{w:World}{K:PySem.W.Frag}{tg:Expr}(a it:Addr):Turn P w K tg (FZ K a) [it] it (fun i h=>h.IsListIter it a i) where
 mem:=by simp
 obj:=fun i h st b hb=>by
  have e:b=it:=by simpa using hb
  subst e;obtain⟨o,e,c,d⟩:=st;exact⟨o,e,fun v z=>by rw[d]at z;cases z⟩
 keep:=fun i h h' st k=>st.at fun o e=>k it (by simp) o e
 item:=by
  intro X hP hw hK hc i Z9 s U H E I hf st hg;subst hP hw hK;obtain⟨xs,x,hq,hx⟩:=hg;obtain⟨its,rv,p,hz⟩:=I.list hq;obtain⟨u,hu,ru⟩:=rv.get hx;obtain⟨f0,f1,f2,f3,f4,f5⟩:=hf it (by simp);refine wpAny_pyNext_list_item st p.isList (x:=u) (by simpa using hu) fun h' st' sb=>?_
  have I1:Inv X Z9 U H { s with heap:=h' }:=I.turned (t':=s.toks) (fun b o hb e=>(sb.2 b hb).trans e) f0 f1 f3 f4 f5;obtain⟨o,e,c,d⟩:=id st';exact⟨u,rfl,Qp (s:={ s with heap:=h' }) e c d (by decide) ⟨x,H,I1,ru,⟨rfl,fun ys hy=>by rw[I.list_inj hy hq];exact hx⟩,st',fun b hb=>(hf b hb).1⟩⟩
 done:=by intro X hP hw hK hc i Z9 s U H E I hf st hg;subst hP hw hK;obtain⟨xs,hq,hx⟩:=hg;obtain⟨its,rv,p,hz⟩:=I.list hq;obtain⟨f0,f1,f2,f3,f4,f5⟩:=hf it (by simp);have hl:=rv.length;exact wpAny_pyNext_list_end (I.ok.hd hc) st p.isList (by simp;lia) fun h' eb=>⟨rfl,I.turned (t':=s.toks) (fun b o hb e=>eb b o hb e) f0 f1 f3 f4 f5⟩
 self:=fun _ _ _ _ _ st h=>wpAny_pyIter_listiter st h
def ß {P:Program}{w:World}{K:PySem.W.Frag}{tg:Expr}(a it:Addr):Turn P w K tg (Gz K a) [it] it (fun i h=>h.IsTupleIter it a i) where
 mem:=by simp
 obj:=fun i h st b hb=>by
  have e:b=it:=by simpa using hb
  subst e;obtain⟨o,e,c,d⟩:=st;exact⟨o,e,fun v z=>by rw[d]at z;cases z⟩
 keep:=fun i h h' st k=>st.at fun o e=>k it (by simp) o e
 item:=by
  intro X hP hw hK hc i Z9 s U H E I hf st hg;subst hP hw hK;obtain⟨xs,x,hq,hx⟩:=hg;obtain⟨its,rv,p,hz⟩:=I.tuple hq;obtain⟨u,hu,ru⟩:=rv.get hx;obtain⟨f0,f1,f2,f3,f4,f5⟩:=hf it (by simp);refine wpAny_pyNext_tuple_item st (show s.heap.IsTuple a its.toArray from p) (x:=u) (by simpa using hu) fun h' st' sb=>?_
  have I1:Inv X Z9 U H { s with heap:=h' }:=I.turned (t':=s.toks) (fun b o hb e=>(sb.2 b hb).trans e) f0 f1 f3 f4 f5;obtain⟨o,e,c,d⟩:=id st';exact⟨u,rfl,Qp (s:={ s with heap:=h' }) e c d (by decide) ⟨x,H,I1,ru,⟨rfl,fun ys hy=>by rw[I.tuple_inj hy hq];exact hx⟩,st',fun b hb=>(hf b hb).1⟩⟩
 done:=by intro X hP hw hK hc i Z9 s U H E I hf st hg;subst hP hw hK;obtain⟨xs,hq,hx⟩:=hg;obtain⟨its,rv,p,hz⟩:=I.tuple hq;obtain⟨f0,f1,f2,f3,f4,f5⟩:=hf it (by simp);have hl:=rv.length;exact wpAny_pyNext_tuple_end (I.ok.hd hc) st (show s.heap.IsTuple a its.toArray from p) (by simp;lia) fun h' eb=>⟨rfl,I.turned (t':=s.toks) (fun b o hb e=>eb b o hb e) f0 f1 f3 f4 f5⟩
 self:=fun _ _ _ _ _ st h=>wpAny_pyIter_tupleiter st h
def wD {P:Program}{w:World}{K:PySem.W.Frag}{tg:Expr}(it:Addr)(lo:Int)(n:Nat):Turn P w K tg (Q5 lo n) [it] it (fun i h=>IsRangeIter h it (lo+(i:Nat)*1) ((n:Int)-(i:Nat)) 1) where
 mem:=by simp
 obj:=fun i h st b hb=>by
  have e:b=it:=by simpa using hb
  subst e
  exact⟨_,st,fun v z=>by have z':Data.fields _=Data.cell v:=z;cases z'⟩
 keep:=fun i h h' st k=>k it (by simp) _ st
 item:=by
  intro X hP hw hK hc i Z9 s U H E I hf st hg;subst hP hw hK;obtain⟨f0,f1,f2,f3,f4,f5⟩:=hf it (by simp);have W:=Walks.range (prog:=X.prog) (w:=X.w) (I.ok.hd hc) it lo 1 n;refine W.item i s _ _ hg st fun v h' tk hv st' kk=>?_
  obtain⟨t,rfl⟩:=hv;have I1:Inv X Z9 U H { s with heap:=h',toks:=tk }:=I.turned (fun b o hb e=>kk b o (by simpa using hb) e) f0 f1 f3 f4 f5;refine⟨_,rfl,Qp (s:={ s with heap:=h',toks:=tk }) (n:="range_iterator") st' rfl rfl (by decide) ⟨.int (lo+i),H,I1,⟨t,?_⟩,⟨rfl,rfl⟩,st',fun b hb=>(hf b hb).1⟩⟩;rw[U5]
 done:=by intro X hP hw hK hc i Z9 s U H E I hf st hg;subst hP hw hK;obtain⟨f0,f1,f2,f3,f4,f5⟩:=hf it (by simp);exact wpAny_pyNext_range_end (I.ok.hd hc) st (by have:n<=i:=hg;lia) fun h' eb=>⟨rfl,I.turned (t':=s.toks) (fun b o hb e=>eb b o hb e) f0 f1 f3 f4 f5⟩
 self:=fun _ _ _ _ _ st h=>wpAny_pyIter_rangeiter st h
section
variable {X:Cx}{tg:Expr}
def zoy {R:It->Hp->Prop}{E:Value->Shared->Prop}{lo hi:Int}{t u v:Tok}{tk:Nat}(I:Inv X Z9 U H s)(h1:-(2 ^ 62)<=lo)(h2:lo<2 ^ 62)(h3:-(2 ^ 62)<=hi)(h4:hi<2 ^ 62)(q:R (Q5 lo (hi-lo).toNat) H):wpAny (model X.prog X.w) X.A (pyIter (.ref s.heap.objs.size)) (PIE X Z9 U tg R) E { s with heap:=s.heap.push { cls:=.type "range",data:=.fields #[.int lo t,.int hi u,.int 1 v] },toks:=tk }:=by
  refine wpAny_pyIter_range (IsRange.new ..) (small_one h1 h2 h3 h4) ?_;have I1:Inv X Z9 U H { s with heap:=s.heap.push { cls:=.type "range",data:=.fields #[.int lo t,.int hi u,.int 1 v] },toks:=tk }:=I.kept fun b o e=>qd _ e
  refine⟨(s.heap.push { cls:=.type "range",data:=.fields #[.int lo t,.int hi u,.int 1 v] }).objs.size,[(s.heap.push { cls:=.type "range",data:=.fields #[.int lo t,.int hi u,.int 1 v] }).objs.size],_,_,H,rfl,
    I1.kept (t':=tk) fun b o e=>qd _ e,wD _ lo (hi-lo).toNat,?_,fun b hb=>?_,q⟩
  . have e1:lo+((0:Nat):Int)*1=lo:=by simp
    have e2:(((hi-lo).toNat:Nat):Int)-((0:Nat):Int)=Builtin.Range.rangeSize lo hi 1:=by rw[rangeSize_one];split<;>lia
    show IsRangeIter _ _ (lo+((0:Nat):Int)*1) ((((hi-lo).toNat:Nat):Int)-((0:Nat):Int)) 1;rw[e1,e2];exact ql _ rfl
  . have e:b=(s.heap.push { cls:=.type "range",data:=.fields #[.int lo t,.int hi u,.int 1 v] }).objs.size:=by simpa using hb
    subst e;exact I1.fpOk (qh _) (I1.hok.fresh (qh _))
def Rk (ta:TA):TI:=fun U H R=>ta U H fun vs H1=>∃ j:Int,vs=[.int j]/\-(2 ^ 62)<=j/\j<2 ^ 62/\R (Q5 0 j.toNat) H1
def mK {a:Expr}{ta:TA}{p pos:Pos}(hg:Gl X "range")(hm:X.mg "range"=none)(ha:PA X [a] ta)(hs:autoParam (starEach [a] X.env=[(false,eval a X.env)]) zy):PI X tg (.Call (.Name "range" p) [a] [] pos) (Rk ta):=by
 intro Z9 s U H R I h;refine Call_ (T8 I hg hm boot_range (PyProof.Rows.callWith_type1 (Z2 (ha pos Z9 s U H _ I h) fun us s1 ⟨vs,H1,I1,r1,q1⟩=>?_) hs rfl));obtain⟨j,e,q1,q2,q⟩:=q1;subst e;cases r1 with
 |cons r rr =>cases rr;obtain⟨t,rfl⟩:=r;exact call_range_1 (zoy I1 (by lia) (by lia) q1 q2 (by simpa using q))
def nG (wi:TI)(g:TG)(tb:TS):TS:=fun D U H=>wi U H fun J H1=>∃ W:Nat->Nat->St->Hp->Prop,(∃ m,W 0 m U H1)/\∀ i m U H,W i m U H ->
 (J.stop i H/\D.nx U H)\/(J.go i H/\∃ N:St->Hp->Prop,(∀ σ' H',N σ' H'->∃ m',m'<m/\W (i+1) m' σ' H')/\∀ x H',J.yld i H x H'->g x U H' fun σ2 H2=>tb { D with nx:=N,ct:=N,bk:=D.nx } σ2 H2)
def Mt (fp:List Addr)(h:Heap):List (Addr×Obj):=fp.filterMap fun b=>(h.get? b).map fun o=>(b,o)
def JR {fp:List Addr}{h:Heap}{b:Addr}{o:Obj}(hb:b∈fp)(e:h.get? b=some o):(b,o)∈Mt fp h:=U3.mpr ⟨b,hb,by rw[e];rfl⟩
def ϧ {fp:List Addr}{h:Heap}{p:Addr×Obj}(hp:p∈Mt fp h):p.1∈fp/\h.get? p.1=some p.2:=by
 obtain⟨b,hb,e⟩:=U3.mp hp;cases q:h.get? b with
 |none=>rw[q]at e;cases e
 |some o =>rw[q]at e;have e':(b,o)=p:=qF e;subst e';exact⟨hb,q⟩
def Inv.pinned {fp:List Addr}(I:Inv X Z9 U H s)(hf:∀ b∈fp,V5 X Z9 H b)(ho:∀ b∈fp,∃ o,s.heap.get? b=some o/\∀ v,o.data≠.cell v):Inv X (Z9++Mt fp s.heap) U H s :=
 I.pins_of fun p hp=>(qC.mp hp).elim (fun z=>I.pin p (qL _ z)) fun z=>by obtain⟨hb,e⟩:=ϧ z;obtain⟨f0,f1,f2,_⟩:=hf p.1 hb;obtain⟨o,e',d⟩:=ho p.1 hb;rw[e]at e';cases e';exact⟨e,f0,f1,f2,d⟩
def Inv.unpinned {pl:List (Addr×Obj)}(I:Inv X (Z9++pl) U H s):Inv X Z9 U H s:=I.pins_of fun p hp=>I.pin p (qL _ (VR _ hp))
def ϩ {pos:Pos}(hp:PassesOwn (model X.prog X.w) X.A X.env X.xe)(hc:X.calm=true)(hi:PI X tg iter wi)(hg:PG X tg g)(hb:XS X body tb)(hs:autoParam (∀ x,foldedSetIterable iter X.env x=pure x) Qj):PS X (.For tg iter body [] pos) (nG wi g tb):=by
 intro Z9 s U H D I h;refine wpAny_For (Z2 (hi Z9 s U H _ I h) fun v s1 h1=>Z2 h1 fun itv s2 h2=>?_) hs;obtain⟨it,fp,tn,J,H2,e,I2,T,st2,f2,W,⟨m0,w0⟩,turn⟩:=h2;subst e;have stat:∀ {H':Hp},(∀ b∈fp,H' b=none)->∀ b∈fp,V5 X Z9 H' b:=fun hn b hb=>⟨hn b hb,(f2 b hb).2⟩
 refine codeAny_forLoop_any (fun n s'=>∃ i σ' H',Inv X Z9 σ' H' s'/\tn i s'.heap/\(∀ b∈fp,H' b=none)/\W i n σ' H') ?_ m0 ⟨0,U,H2,I2,st2,fun b hb=>(f2 b hb).1,w0⟩;rintro n s3 ⟨i,σ3,H3,I3,st3,fr3,w3⟩;rcases turn i n σ3 H3 w3 with⟨stop,qn⟩|⟨go,N,hN,step⟩
 ·refine wpAny_passesOwn hp (Z2 (T.done X rfl rfl rfl hc i Z9 s3 σ3 H3 X.xe I3 (stat fr3) st3 stop) fun r s4 ⟨hr,I4⟩=>?_);subst hr;exact wpAny_execs_nil ⟨σ3,H3,I4,qn⟩
 ·refine wpAny_passesOwn hp (Z2 (T.item X rfl rfl rfl hc i Z9 s3 σ3 H3 X.xe I3 (stat fr3) st3 go) fun r s4 ⟨u,hr,h4⟩=>?_);subst hr;refine wpAny_passesOwn hp (Z2 h4 fun _ s5 ⟨x,H5,I5,r5,y5,st5,fr5⟩=>?_);have I5':=I5.pinned (stat fr5) (T.obj _ _ st5);refine wpAny_passesOwn hp (Z2 (hg _ s5 σ3 H5 x u _ I5' r5 (step x H5 y5)) fun _ s6 ⟨σ6,H6,I6,q6⟩=>?_);refine wpAny_passesOwn hp (Z2 (hb _ s6 σ6 H6 _ I6 q6) fun f s7 q7=>?_)
  have again:∀ {σ7:St} {H7:Hp},Inv X (Z9++Mt fp s5.heap) σ7 H7 s7->N σ7 H7->∃ m,m<n/\∃ i σ' H',Inv X Z9 σ' H' s7/\tn i s7.heap/\(∀ b∈fp,H' b=none)/\W i m σ' H':=fun {σ7 H7} I7 n7=>by obtain⟨m',hm,w7⟩:=hN σ7 H7 n7;refine⟨m',hm,i+1,σ7,H7,I7.unpinned,T.keep _ _ _ st5 fun b hb o e=>(I7.pin (b,o) (qL _ (qL _ (JR hb e)))).1,fun b hb=>?_,w7⟩;obtain⟨o,e,d⟩:=T.obj _ _ st5 b hb;exact(I7.pin (b,o) (qL _ (qL _ (JR hb e)))).2.1
  cases f with
  |next=>obtain⟨σ7,H7,I7,n7⟩:=q7;exact again I7 n7
  |cont=>obtain⟨σ7,H7,I7,n7⟩:=q7;exact again I7 n7
  |brk=>obtain⟨σ7,H7,I7,q7⟩:=q7;exact⟨σ7,H7,I7.unpinned,q7⟩
  |ret v=>obtain⟨x7,σ7,H7,I7,r7,q7⟩:=q7;exact⟨x7,σ7,H7,I7.unpinned,r7,q7⟩
end
abbrev R2:=V->V->Hp->VK->Prop
def ZL (X:Cx)(f:Value->Value->Sem Value)(r:R2):Prop :=
 ∀ (Z9:List (Addr×Obj)) (s:Shared) (U:St) (H:Hp) (x y:V) (v u:Value) (Q:VK),Inv X Z9 U H s->RelV x v->RelV y u->r x y H Q ->
  wpAny (model X.prog X.w) X.A (f v u) (EP X Z9 U Q) X.xe s
def Dz (X:Cx)(f:Value->Sem Value)(r:V->Hp->VK->Prop):Prop :=
 ∀ (Z9:List (Addr×Obj)) (s:Shared) (U:St) (H:Hp) (x:V) (v:Value) (Q:VK),Inv X Z9 U H s->RelV x v->r x H Q ->
  wpAny (model X.prog X.w) X.A (f v) (EP X Z9 U Q) X.xe s
def YM (X:Cx)(f:Value)(r:List V->Hp->VK->Prop):Prop :=
 ∀ (Z9:List (Addr×Obj)) (s:Shared) (U:St) (H:Hp) (xs:List V) (us:List Value) (Q:VK),Inv X Z9 U H s->Vals xs us->r xs H Q ->
  wpAny (model X.prog X.w) X.A (call f us) (EP X Z9 U Q) X.xe s
def Nh (r:R2)(ta tb:TE):TE:=fun U H Q=>ta U H fun x H1=>tb U H1 fun y H2=>r x y H2 Q
def jW (r:V->Hp->VK->Prop)(ta:TE):TE:=fun U H Q=>ta U H fun x H1=>r x H1 Q
def rI (C:Int->Int->Prop)(g:Int->Int->V):R2:=fun x y H Q=>∃ i j,x=.int i/\y=.int j/\C i j/\Q (g i j) H
def U0 (g:Int->Int->V):R2:=fun x y H Q=>∃ i j,x=.int i/\y=.int j/\Q (g i j) H
def rU (g:Int->V):V->Hp->VK->Prop:=fun x H Q=>∃ i,x=.int i/\Q (g i) H
section
variable {X:Cx}{a b c:Expr}{ta tb tc:TE}{pos:Pos}
def G7 (ha:PE X a ta)(hb:PE X b tb){R:V->V->Hp->Prop}(I:Inv X Z9 U H s)(h:ta U H fun x H1=>tb U H1 fun y H2=>R x y H2){Q:Value->Shared->Prop}{f:Value->Value->Sem Value}(hf:∀ v u s2 x y H2,Inv X Z9 U H2 s2->RelV x v->RelV y u->R x y H2->wpAny (model X.prog X.w) X.A (f v u) Q X.xe s2) :
  wpAny (model X.prog X.w) X.A (eval a X.env) (fun v s₁=>wpAny (model X.prog X.w) X.A (eval b X.env) (fun u s₂=>wpAny (model X.prog X.w) X.A (f v u) Q X.xe s₂) X.xe s₁) X.xe s:=by
 refine Z2 (ha Z9 s U H _ I h) fun v s1 ⟨x,H1,I1,r1,q1⟩=>?_
 refine Z2 (hb Z9 s1 U H1 _ I1 q1) fun u s2 ⟨y,H2,I2,r2,q2⟩=>?_
 exact hf v u s2 x y H2 I2 r1 r2 q2
def oA {op:Operator}(ho:ZL X (binaryOp op) r)(ha:PE X a ta)(hb:PE X b tb):PE X (.BinOp a op b pos) (Nh r ta tb):=by intro Z9 s U H Q I h;exact wpAny_BinOp (G7 ha hb I h fun v u s2 x y H2 I2 rx ry q=>ho Z9 s2 U H2 x y v u Q I2 rx ry q)
def zwn {op:UnaryOp}(ho:Dz X (unaryOp op) r)(ha:PE X a ta):PE X (.UnaryOp op a pos) (jW r ta):=by intro Z9 s U H Q I h;exact UnaryOp_ (Z2 (ha Z9 s U H _ I h) fun v s1 zq3=>by obtain⟨x,H1,I1,r1,q1⟩:=zq3;exact ho Z9 s1 U H1 x v Q I1 r1 q1)
def Oq {f:Value->Value->Sem Value}{C:Int->Int->Prop}{g:Int->Int->Int}
  (rule:∀ (i j:Int) (t u:Tok) (s:Shared) (Q:Value->Shared->Prop) (E:Value->Shared->Prop),C i j->Q (.int (g i j) s.toks) { s with toks:=s.toks+1 }->wpAny (model X.prog X.w) X.A (f (.int i t) (.int j u)) Q E s) :
  ZL X f (rI C fun i j=>.int (g i j)):=by
 intro Z9 s U H x y v u Q I rx ry h;obtain⟨i,j,rfl,rfl,hc,q⟩:=h;obtain⟨t,rfl⟩:=rx;obtain⟨t',rfl⟩:=ry;exact rule i j t t' s _ _ hc ⟨.int (g i j),H,I.tok _,⟨_,rfl⟩,q⟩
def uw {f:Value->Value->Sem Value}{g:Int->Int->Int}
  (rule:∀ (i j:Int) (t u:Tok) (s:Shared) (Q:Value->Shared->Prop) (E:Value->Shared->Prop),Q (.int (g i j) s.toks) { s with toks:=s.toks+1 }->wpAny (model X.prog X.w) X.A (f (.int i t) (.int j u)) Q E s) :
  ZL X f (U0 fun i j=>.int (g i j)):=by
 intro Z9 s U H x y v u Q I rx ry h;obtain⟨i,j,rfl,rfl,q⟩:=h;obtain⟨t,rfl⟩:=rx;obtain⟨t',rfl⟩:=ry;exact rule i j t t' s _ _ ⟨.int (g i j),H,I.tok _,⟨_,rfl⟩,q⟩
def J9 {f:Value->Value->Sem Value}{g:Int->Int->Bool}
  (rule:∀ (i j:Int) (t u:Tok) (s:Shared) (Q:Value->Shared->Prop) (E:Value->Shared->Prop),Q (.bool (g i j)) s->wpAny (model X.prog X.w) X.A (f (.int i t) (.int j u)) Q E s) :
  ZL X f (U0 fun i j=>.bl (g i j)):=by
 intro Z9 s U H x y v u Q I rx ry h;obtain⟨i,j,rfl,rfl,q⟩:=h;obtain⟨t,rfl⟩:=rx;obtain⟨t',rfl⟩:=ry;exact rule i j t t' s _ _ ⟨.bl (g i j),H,I,rfl,q⟩
def zyq (i j:Int):Prop:=0<=j/\j<=1000000/\i.natAbs<2 ^ 64
def J5 (i j:Int):Prop:=(-(2 ^ 64)<i/\i<2 ^ 64)\/(-(2 ^ 64)<j/\j<2 ^ 64)
def J5.ok (h:J5 i j):IntMulOk i j:=by
 rcases h with⟨h1,h2⟩|⟨h1,h2⟩
 ·exact .of_left (intBits_le_64 h1 h2)
 ·exact .of_right (intBits_le_64 h1 h2)
def ztA:ZL X (binaryOp .Add) (U0 fun i j=>.int (i+j)):=uw fun _ _ _ _ _ _ _ q=>add_int q
def bC:ZL X (binaryOp .Sub) (U0 fun i j=>.int (i-j)):=uw fun _ _ _ _ _ _ _ q=>sub_int q
def à:ZL X (binaryOp .Mod) (rI (fun _ j=>j≠0) fun i j=>.int (i.fmod j)):=Oq fun _ _ _ _ _ _ _ hc q=>mod_int' hc q
def ztO:ZL X (binaryOp .Pow) (rI zyq fun i j=>.int (i ^ j.toNat)):=Oq fun _ _ _ _ _ _ _ hc q=>pow_int_small hc.1 hc.2.1 hc.2.2 q
def ų {f:Value->Sem Value}{g:Int->Int}
  (rule:∀ (i:Int) (t:Tok) (s:Shared) (Q:Value->Shared->Prop) (E:Value->Shared->Prop),Q (.int (g i) s.toks) { s with toks:=s.toks+1 }->wpAny (model X.prog X.w) X.A (f (.int i t)) Q E s) :
  Dz X f (rU fun i=>.int (g i)):=by
 intro Z9 s U H x v Q I rx h;obtain⟨i,rfl,q⟩:=h;obtain⟨t,rfl⟩:=rx;exact rule i t s _ _ ⟨.int (g i),H,I.tok _,⟨_,rfl⟩,q⟩
def jy:Dz X (unaryOp .USub) (rU fun i=>.int (-i)):=ų fun _ _ _ _ _ q=>neg_int q
end
section
variable {X:Cx}{a b c:Expr}{ta tb tc:TE}{pos:Pos}
def Kl {Q:VK}{k k':Bool}(I:Inv X Z9 U H s)(q:Q (.bl k) H)(e:k=k'):EP X Z9 U Q (.bool k') s:=by subst e;exact⟨.bl k,H,I,rfl,q⟩
def zxx:ZL X (compareOp .Lt) (U0 fun i j=>.bl (decide (i<j))):=J9 fun _ _ _ _ _ _ _ q=>lt_int q
def ď:ZL X (compareOp .LtE) (U0 fun i j=>.bl (decide (i<=j))):=J9 fun _ _ _ _ _ _ _ q=>le_int q
def zwg:ZL X (compareOp .Gt) (U0 fun i j=>.bl (decide (j<i))):=J9 fun _ _ _ _ _ _ _ q=>gt_int q
def zvR:ZL X (compareOp .GtE) (U0 fun i j=>.bl (decide (j<=i))):=J9 fun _ _ _ _ _ _ _ q=>ge_int q
def ó:ZL X (compareOp .In) (fun x y H Q=>∃ i j,x=.str i/\y=.str j/\Q (.bl (!(Builtin.Str.occurrences j i 0 j.length 1).isEmpty)) H):=by intro Z9 s U H x y v u Q I rx ry h;obtain⟨i,j,rfl,rfl,q⟩:=h;obtain⟨t,rfl⟩:=rx;obtain⟨t',rfl⟩:=ry;exact in_str (Kl I q rfl)
def jC:ZL X (compareOp .Is) (fun x y H Q=>y=.non/\Q (.bl (decide (x=.non))) H):=by
  intro Z9 s U H x y v u Q I rx ry h;obtain⟨rfl,q⟩:=h;cases ry;refine is_none_gen (Kl I q ?_)
  cases x<;>first
    |(cases rx;rfl)
    |(obtain⟨t,rfl⟩:=rx;rfl)
def zrv:ZL X (compareOp .IsNot) (fun x y H Q=>y=.non/\Q (.bl (!decide (x=.non))) H):=by
  intro Z9 s U H x y v u Q I rx ry h;obtain⟨rfl,q⟩:=h;cases ry;refine isnot_none_gen (Kl I q ?_)
  cases x<;>first
    |(cases rx;rfl)
    |(obtain⟨t,rfl⟩:=rx;rfl)
def lO:ZL X (compareOp .NotIn) (fun x y H Q=>∃ i j,x=.str i/\y=.str j/\Q (.bl (!(!(Builtin.Str.occurrences j i 0 j.length 1).isEmpty))) H):=by intro Z9 s U H x y v u Q I rx ry h;obtain⟨i,j,rfl,rfl,q⟩:=h;obtain⟨t,rfl⟩:=rx;obtain⟨t',rfl⟩:=ry;exact notIn_str (Kl I q rfl)
def ZL.or (h:ZL X f r)(h':ZL X f r'):ZL X f (fun x y H Q=>r x y H Q\/r' x y H Q):=by
 intro Z9 s U H x y v u Q I rx ry q;rcases q with q|q
 ·exact h Z9 s U H x y v u Q I rx ry q
 ·exact h' Z9 s U H x y v u Q I rx ry q
def zqj {op:CmpOp}(ho:ZL X (compareOp op) r)(ha:PE X a ta)(hb:PE X b tb)(hm:behindInMarks op b=false):PE X (.Compare a [op] [b] pos) (Nh r ta tb):=by intro Z9 s U H Q I h;exact wpAny_Compare1 (G7 ha hb I h fun v u s2 x y H2 I2 rx ry q=>ho Z9 s2 U H2 x y v u Q I2 rx ry q) hm
def xW (t:TE):TT:=fun U H Q=>t U H fun x H'=>∃ k,x=.bl k/\Q k H'
def Ξ {op:CmpOp}(ho:ZL X (compareOp op) r)(ha:PE X a ta)(hb:PE X b tb)(hm:behindInMarks op b=false):PT X (.Compare a [op] [b] pos) (xW (Nh r ta tb)):=by
 intro Z9 s U H Q I h
 refine wpAny_isTrue_Compare1 (Z2 (ha Z9 s U H _ I h) fun v s1 ⟨x,H1,I1,r1,q1⟩=>Z2 (hb Z9 s1 U H1 _ I1 q1) fun u s2 ⟨y,H2,I2,r2,q2⟩ =>Z2 (ho Z9 s2 U H2 x y v u _ I2 r1 r2 q2) fun c s3 ⟨z,H3,I3,r3,k,e,q3⟩=>?_) hm
 subst e;cases r3;exact wpAny_truthy_bool ⟨H3,I3,q3⟩
def Gk (r r':R2)(ta tb tc:TE):TE:=fun U H Q=>ta U H fun x H1=>tb U H1 fun y H2=>r x y H2 fun z H3=>∃ k,z=.bl k /\
 (if k=true then tc U H3 fun w' H4=>r' y w' H4 Q else Q (.bl false) H3)
def dZ {op op':CmpOp}(ho:ZL X (compareOp op) r)(ho':ZL X (compareOp op') r')(ha:PE X a ta)(hb:PE X b tb)(hc:PE X c tc)(hm:autoParam (lastMarks [op,op'] [b,c]=false) Vy):PE X (.Compare a [op,op'] [b,c] pos) (Gk r r' ta tb tc):=by
 intro Z9 s U H Q I h
 refine Compare_chain (Z2 (ha Z9 s U H _ I h) fun v s1 ⟨x,H1,I1,r1,q1⟩=>chain_link (Z2 (hb Z9 s1 U H1 _ I1 q1) fun u s2 ⟨y,H2,I2,r2,q2⟩ =>Z2 (ho Z9 s2 U H2 x y v u _ I2 r1 r2 q2) fun d s3 ⟨z,H3,I3,r3,k,e,q3⟩=>?_)) hm
 subst e;cases r3;refine wpAny_truthy_bool ?_;cases k with
 |false=>exact ite_ff ⟨.bl false,H3,I3,rfl,q3⟩
 |true=>exact ite_tt (chain_last (Z2 (hc Z9 s3 U H3 _ I3 q3) fun w' s4 zq4=>by obtain⟨z',H4,I4,r4,q4⟩:=zq4;exact ho' Z9 s4 U H4 y z' u w' Q I4 r2 r4 q4))
def Ľ {op op':CmpOp}(ho:ZL X (compareOp op) r)(ho':ZL X (compareOp op') r')(ha:PE X a ta)(hb:PE X b tb)(hc:PE X c tc)(hm:autoParam (lastMarks [op,op'] [b,c]=false) Vy):PT X (.Compare a [op,op'] [b,c] pos) (xW (Gk r r' ta tb tc)):=by
 intro Z9 s U H Q I h
 refine isTrue_chain (Z2 (ha Z9 s U H _ I h) fun v s1 ⟨x,H1,I1,r1,q1⟩=>test_link (Z2 (hb Z9 s1 U H1 _ I1 q1) fun u s2 ⟨y,H2,I2,r2,q2⟩ =>Z2 (ho Z9 s2 U H2 x y v u _ I2 r1 r2 q2) fun d s3 ⟨z,H3,I3,r3,k,e,q3⟩=>?_)) hm
 subst e;cases r3;refine wpAny_truthy_bool ?_;cases k with
 |false =>obtain⟨k',e',q'⟩:=q3;cases e';exact ite_ff ⟨H3,I3,q'⟩
 |true =>refine ite_tt (test_last (Z2 (hc Z9 s3 U H3 _ I3 q3) fun w' s4 ⟨z',H4,I4,r4,q4⟩=>Z2 (ho' Z9 s4 U H4 y z' u w' _ I4 r2 r4 q4) fun d' s5 ⟨z2,H5,I5,r5,k2,e2,q5⟩=>?_));subst e2;cases r5;exact wpAny_truthy_bool ⟨H5,I5,q5⟩
def Qo:(sizeLine:Nat)<2 ^ 63:=by rw[sizeLine_eq];decide
def dJ:ZL X (binaryOp .Add) (fun x y H Q=>∃ i j,x=.str i/\y=.str j/\i.length+j.length<=sizeLine/\Q (.str (i++j)) H):=by intro Z9 s U H x y v u Q I rx ry h;obtain⟨i,j,rfl,rfl,hz,q⟩:=h;obtain⟨t,rfl⟩:=rx;obtain⟨t',rfl⟩:=ry;exact add_str (fun t' tk=>⟨.str (i++j),H,I.tok _,⟨_,rfl⟩,q⟩) hz
def vals1 {x:V}{us:List Value}(r:Vals [x] us):∃ u,us=[u]/\RelV x u:=by
 cases r with
 |cons r1 r2=>cases r2;exact⟨_,rfl,r1⟩
def vals2 {x y:V}{us:List Value}(r:Vals [x,y] us):∃ u w',us=[u,w']/\RelV x u/\RelV y w':=by
 cases r with
 |cons r1 r2 =>
  cases r2 with
  |cons r3 r4=>cases r4;exact⟨_,_,rfl,r1,r3⟩
def zpg:YM X (.builtin "abs") (fun xs H Q=>∃ i,xs=[.int i]/\Q (.int (if i<0 then -i else i)) H):=by intro Z9 s U H xs us Q I r h;obtain⟨i,rfl,q⟩:=h;obtain⟨u,rfl,t,rfl⟩:=vals1 r;exact call_abs_int fun u tk=>⟨.int (if i<0 then -i else i),H,I.tok _,⟨_,rfl⟩,q⟩
def znz (hc:X.calm=true):YM X (.builtin "max") (fun xs H Q=>∃ i j,xs=[.int i,.int j]/\Q (.int (if j > i then j else i)) H):=by
 intro Z9 s U H xs us Q I r h;obtain⟨i,j,rfl,q⟩:=h;obtain⟨u,w',rfl,⟨t,rfl⟩,⟨t',rfl⟩⟩:=vals2 r;refine max_two_ints (I.ok.hd hc) fun h' tk k=>⟨_,H,I.kept k,?_,q⟩
 by_cases hj:j > i
 ·rw[if_pos hj,if_pos hj];exact⟨_,rfl⟩
 ·rw[if_neg hj,if_neg hj];exact⟨_,rfl⟩
def zmw (hc:X.calm=true):YM X (.builtin "min") (fun xs H Q=>∃ i j,xs=[.int i,.int j]/\Q (.int (if j<i then j else i)) H):=by
 intro Z9 s U H xs us Q I r h;obtain⟨i,j,rfl,q⟩:=h;obtain⟨u,w',rfl,⟨t,rfl⟩,⟨t',rfl⟩⟩:=vals2 r;refine min_two_ints (I.ok.hd hc) fun h' tk k=>⟨_,H,I.kept k,?_,q⟩
 by_cases hj:j<i
 ·rw[if_pos hj,if_pos hj];exact⟨_,rfl⟩
 ·rw[if_neg hj,if_neg hj];exact⟨_,rfl⟩
end
structure Qw (h:Heap)(x dx C:Addr)(mA:Str->Option Value):Prop where
 obj:h.get? x=some (PySem.W.instObj C dx)
 ns:h.Ns1 dx mA
 ne:dx≠x
def Ζ {h:Heap}{dx:Addr}{mA:Str->Option Value}(n:h.Ns1 dx mA):∃ od,h.get? dx=some od/\∀ name,PySem.W.lookIn name od=some (mA name):=by
 obtain⟨o,es,ep,ho,hd,hk,_,hm⟩:=n;refine⟨o,ho,fun name=>?_⟩;have e:=hm name;unfold nsFind findBy at e;rw[<- Array.find?_toList]at e;unfold PySem.W.lookIn;rw[hd];dsimp only;split
 ·rename_i y q;rw[q]at e;exact congrArg some e
 ·rename_i q;rw[q]at e
  have a:es.toList.any (·.refKey)=false:=by rw[List.any_eq_false];intro y hy;obtain⟨z,t,hkey⟩:=hk y (Array.mem_toList_iff.mp hy);simp[DictEntry.refKey,hkey]
  have a':¬ es.toList.any (·.refKey)=true:=by rw[a];exact qo
  rw[if_neg a'];exact congrArg some e
def Qw.look {C:Addr}(I:Qw h x dx C mA):∃ od,PySem.W.InstAt h x (PySem.W.instObj C dx) C (some od)/\∀ name,PySem.W.lookIn name od=some (mA name) :=
 let ⟨od,ho,hl⟩:=Ζ I.ns
 ⟨od,⟨I.obj,rfl,rfl,ho⟩,hl⟩
section
variable {prog:Program}{w:World}{A:Around}{E:Value->Shared->Prop}{s:Shared}{K:PySem.W.Frag}{x dx C f:Addr}{mA:Str->Option Value}{name:Str}{v:Value}
def get_map {expr:Bool}{Q:Value->Shared->Prop}(X:K.In s.heap)(I:Qw s.heap x dx C mA)(hg:PySem.W.plainGet K C name=true)(hh:PySem.W.hasDictIn K C=true)
  (ha:PySem.W.findIn K (.ref C) name=some none) (hv:mA name=some v) (hv':PySem.W.handedIn v=true) (h:Q v { s with toks:=s.toks+1 }) :
  wpAny (model prog w) A (getAttr (.ref x) name expr) Q E s:=by
 obtain⟨od,J,hl⟩:=I.look;exact PySem.W.get_value X J (PySem.W.plainGet_of hg).1 (PySem.W.findObj_own hh ha rfl (by rw[hl,hv])) hv' h
def zrM {Q:Unit->Shared->Prop}(X:K.In s.heap)(I:Qw s.heap x dx C mA)(hs:PySem.W.findIn K (.ref C) "__setattr__"=some (some (.builtin "object.__setattr__")))(hp:PySem.W.plainOver K C=true)(ht:PySem.W.takerIn K C name=some none)(hh:PySem.W.hasDictIn K C=true)(hw:PySem.Within mA ns)(hsz:ns.length<=sizeLine)(h:∀ h',Qw h' x dx C (fun y=>if y=name then some v else mA y)->Heap.SameBut dx s.heap h'->Q () { s with heap:=h',toks:=s.toks+2 }) :
  wpAny (model prog w) A (setAttr (.ref x) name v) Q E s:=by
 obtain⟨od,J,hl⟩:=I.look;refine PySem.W.set_plain X J hs (PySem.W.osa_open (s:={ s with toks:=s.toks+1 }) (r:=none) X J hp ht fun b=>?_);obtain⟨cd,hc,hd'⟩:=PySem.W.any_some hh;have hx:s.heap.get? x=some ⟨.ref C,some dx,.plain,#[]⟩:=I.obj;refine wpAny_bind (wpAny_pure (wpAny_bind (wpAny_bind (wpAny_loadPart hx (wpAny_bind (PySem.W.Looks.here (s:={ s with toks:=s.toks+1 }) (PySem.W.looks_clsIn X hc) ?_))))));rw[hd'];refine wpAny_pure (a:=some dx) (wpAny_bind (wpAny_pure (wpAny_bind ?_)));refine wpAny_nsSet1 (s:={ s with toks:=s.toks+1 }) I.ns fun h' hn2 hs2=>?_
 obtain⟨oD,esD,epD,hoD,hdD,hcD⟩:=hn2.count (PySem.Within.cons name v hw);refine wpAny_bind (wpAny_lookBehind hoD (by rw[hdD];exact pastItsLine_dict (qV hcD (by rw[qT];lia))) ?_);exact wpAny_pure (h _ ⟨(hs2.2 _ (Ne.symm I.ne)).trans I.obj,hn2,I.ne⟩ hs2)
def pW {R:Result->Shared->Prop}{vs:List Value}{kw:List (Str×Value)}(X:K.In s.heap)(hm:PySem.W.makesIn K C=true)
    (hi:PySem.W.findIn K (.ref C) "__init__"=some (some (.ref f))) (hf:PySem.W.typeIn K (.ref f)=some (.type "function"))
    (h:codeAny (model prog w) (A.under (.builtin "type.__call__" ⟨.ref C::vs,kw⟩)) (.call (.ref f) ⟨.ref (s.heap.objs.size+1)::vs,kw⟩) (PySem.W.InitBack (s.heap.objs.size+1) R)
      { s with heap:=(s.heap.push PySem.W.emptyDict).push (PySem.W.instObj C s.heap.objs.size) }) :
    codeAny (model prog w) A (.call (.ref C) ⟨vs,kw⟩) R s:=by
  obtain⟨hh,g,d,t,os⟩:=s;exact PySem.W.make_core (PySem.W.makes_of X hm) (PySem.W.looks_findIn X hi) (fun self=>PySem.W.bind_fn X self hf) (.inl rfl) h
end
def YF (f:Str)(v:V):List (Str×V)->List (Str×V)
 |[]=>[(f,v)]
 |(g,x)::r=>if g=f then(g,v)::r else(g,x)::YF f v r
theorem rC (f g:Str)(v:V):∀ fs:List (Str×V),(YF f v fs).lookup g=if g=f then some v else fs.lookup g
 |[]=>by
  show List.lookup g [(f,v)]=_;by_cases h:g=f
  ·have hb:(g==f)=true:=beq_iff_eq.mpr h;simp only[List.lookup,hb,if_pos h]
  ·have hb:(g==f)=false:=beq_eq_false_iff_ne.mpr h;simp only[List.lookup,hb,if_neg h]
 |(k,x)::r=>by
  have ih:=rC f g v r;rw[show YF f v ((k,x)::r)=(if k=f then(k,v)::r else(k,x)::YF f v r)from rfl];by_cases hk:k=f
  ·rw[if_pos hk];by_cases h:g=k
   ·have hb:(g==k)=true:=beq_iff_eq.mpr h;simp only[List.lookup,hb,if_pos (h.trans hk)]
   ·have hb:(g==k)=false:=beq_eq_false_iff_ne.mpr h;simp only[List.lookup,hb,if_neg (fun e:g=f=>h (e.trans hk.symm))]
  ·rw[if_neg hk];by_cases h:g=k
   ·have hb:(g==k)=true:=beq_iff_eq.mpr h;simp only[List.lookup,hb,if_neg (fun e:g=f=>hk (h.symm.trans e))]
   ·have hb:(g==k)=false:=beq_eq_false_iff_ne.mpr h;simp only[List.lookup,hb];exact ih
theorem Ib (f:Str)(v:V):∀ fs:List (Str×V),f∈(YF f v fs).map (·.1)/\∀ g,g∈fs.map (·.1)->g∈(YF f v fs).map (·.1)
 |[]=>⟨by simp[YF],fun g h=>by simp at h⟩
 |(k,x)::r=>by
  obtain⟨i1,i2⟩:=Ib f v r;rw[show YF f v ((k,x)::r)=(if k=f then(k,v)::r else(k,x)::YF f v r)from rfl];by_cases hk:k=f
  ·rw[if_pos hk];subst hk;exact⟨by simp,fun g h=>by simpa using h⟩
  ·rw[if_neg hk];refine⟨?_,fun g h=>?_⟩
   ·rw[qO];exact qi _ i1
   ·rw[qO]at h ⊢;rcases qu.mp h with e|e
    ·exact qu.mpr (.inl e)
    ·exact qi _ (i2 g e)
theorem uY (f:Str)(v:V):∀ fs:List (Str×V),(YF f v fs).length<=fs.length+1
 |[]=>by simp[YF]
 |(k,x)::r=>by
  have ih:=uY f v r;rw[show YF f v ((k,x)::r)=(if k=f then(k,v)::r else(k,x)::YF f v r)from rfl];by_cases hk:k=f
  ·rw[if_pos hk,qT,qT];lia
  ·rw[if_neg hk,qT,qT];lia
def X7.some_of {v:V}(r:X7 (some v) o):∃ u,o=some u/\RelV v u:=by
 cases o with
 |none=>exact(show False from r).elim
 |some u=>exact⟨u,rfl,r⟩
def Ϯ (r:RelV v u):PySem.W.handedIn u=true:=by
 cases v with
 |non=>cases(show u=Value.none from r);rfl
 |bl b=>cases(show u=Value.bool b from r);rfl
 |int i=>obtain⟨t,e⟩:=(show ∃ t,u=Value.int i t from r);cases e;rfl
 |str x=>obtain⟨t,e⟩:=(show ∃ t,u=Value.str x t from r);cases e;rfl
 |byt b=>obtain⟨t,e⟩:=(show ∃ t,u=Value.bytes b t from r);cases e;rfl
 |flt b=>obtain⟨t,e⟩:=(show ∃ t,u=Value.float b t from r);cases e;rfl
 |ref a=>cases(show u=Value.ref a from r);rfl
 |ty n=>cases(show u=Value.type n from r);rfl
section
variable {P:Program}{w:World}{H H':Hp}{h h':Heap}{a C dx:Addr}{fs fs':List (Str×V)}
def Hl (hok:ZD P w H h)(e:H a=some (.ins C dx fs)):∃ mA,Qw h a dx C mA/\(∀ f,X7 (fs.lookup f) (mA f))/\PySem.Within mA (fs.map (·.1))/\fs.length<=1000/\H dx=some (.own a):=by
 obtain⟨d,z,ne,ob,mA,n,r,q⟩:=(show zU P w H h a (.ins C dx fs)from hok a _ e)
 exact⟨mA,⟨ob,n,ne⟩,r,q,z,d⟩
end
structure Cls (K:PySem.W.Frag)(C:Addr):Prop where
 pg:PySem.W.plainGet K C Str.empty=true
 hd:PySem.W.hasDictIn K C=true
 po:PySem.W.plainOver K C=true
 sa:PySem.W.findIn K (.ref C) "__setattr__"=some (some (.builtin "object.__setattr__"))
def Cls.get {K:PySem.W.Frag}{C:Addr}(c:Cls K C)(f:Str):PySem.W.plainGet K C f=true:=c.pg
def VD (K:PySem.W.Frag)(C:Addr)(f:Str):Prop:=PySem.W.findIn K (.ref C) f=some none
def VD.taker {K:PySem.W.Frag}{C:Addr}(n:VD K C f):PySem.W.takerIn K C f=some none:=by unfold PySem.W.takerIn;rw[show PySem.W.findIn K (.ref C) f=some none from n];rfl
section
variable {X:Cx}{Z9:List (Addr×Obj)}{U:St}{H:Hp}{s:Shared}{a C dx:Addr}{fs:List (Str×V)}{f:Str}{v:V}{A:Around}{E:Value->Shared->Prop}
def Δ {b:Bool}{Q:Value->Shared->Prop}(I:Inv X Z9 U H s)(e:H a=some (.ins C dx fs))(c:Cls X.K C)(n:VD X.K C f)(l:fs.lookup f=some v)
  (h:∀ u s',Inv X Z9 U H s'->RelV v u->Q u s'):wpAny (model X.prog X.w) A (getAttr (.ref a) f b) Q E s:=by
 obtain⟨mA,O,r,_,_,_⟩:=Hl I.hok e;obtain⟨u,hu,ru⟩:=X7.some_of (v:=v) (o:=mA f) (by rw[<- l];exact r f);exact get_map I.kIn O (c.get f) c.hd n hu (Ϯ ru) (h u _ (I.tok _) ru)
def zlp {Q:Unit->Shared->Prop}(I:Inv X Z9 U H s)(e:H a=some (.ins C dx fs))(c:Cls X.K C)(n:VD X.K C f)(hl:fs.length<1000)(ry:RelV y u)(h:∀ s',Inv X Z9 U (upd H a (.ins C dx (YF f y fs))) s'->Q () s'):wpAny (model X.prog X.w) A (setAttr (.ref a) f u) Q E s:=by
 obtain⟨mA,O,r,wi,_,ho⟩:=Hl I.hok e;have hz:(fs.map (·.1)).length<=sizeLine:=by rw[qa,sizeLine_eq];lia
 refine zrM I.kIn O c.sa c.po n.taker c.hd wi hz fun h' O' sb=>h _ ?_
 have hd:∃ o,h'.get? dx=some o:=let ⟨o,_,_,e',_⟩:=O'.ns;⟨o,e'⟩;refine I.write (x:=a) (e:=dx) (by rw[e];exact True.intro) (.inr ho) (fun b q hb z=>(sb.2 b hb).trans z) hd ?_;refine⟨by rw[zu O.ne];exact ho,?_,O.ne,O'.obj,_,O'.ns,fun g=>?_,fun g hg=>?_⟩
 ·have:=uY f y fs;lia
 ·show X7 ((YF f y fs).lookup g) (if g=f then some u else mA g);rw[rC];by_cases q:g=f
  ·rw[if_pos q,if_pos q];exact ry
  ·rw[if_neg q,if_neg q];exact r g
 ·by_cases q:g=f
  ·rw[q];exact(Ib f y fs).1
  ·refine(Ib f y fs).2 g (wi g fun z=>hg ?_);show(if g=f then some u else mA g)=none;rw[if_neg q];exact z
def Inv.made (I:Inv X Z9 U H s):Inv X Z9 U (upd (upd H s.heap.objs.size (.own (s.heap.objs.size+1))) (s.heap.objs.size+1) (.ins C s.heap.objs.size []))
    { s with heap:=(s.heap.push PySem.W.emptyDict).push (PySem.W.instObj C s.heap.objs.size) }:=by
  have e1:(s.heap.push PySem.W.emptyDict).get? s.heap.objs.size=some PySem.W.emptyDict:=ql s.heap rfl
  have e2:((s.heap.push PySem.W.emptyDict).push (PySem.W.instObj C s.heap.objs.size)).get? (s.heap.objs.size+1)=some (PySem.W.instObj C s.heap.objs.size):=by have:=ql (s.heap.push PySem.W.emptyDict) (o:=PySem.W.instObj C s.heap.objs.size) rfl;rwa[W6]at this
  have e3:(s.heap.push PySem.W.emptyDict).Ns s.heap.objs.size (fun _=>none):=⟨PySem.W.emptyDict,#[],_,e1,rfl,(fun e he=>absurd he (by simp)),fun _=>rfl⟩
  have I1:=I.laid (a:=s.heap.objs.size) (o:=.own (s.heap.objs.size+1)) (h':=s.heap.push PySem.W.emptyDict) (t':=s.toks) (fun b u q=>qd _ q) (qh _) ⟨_,e1⟩;refine I1.laid (a:=s.heap.objs.size+1) (o:=.ins C s.heap.objs.size []) (t':=s.toks) (fun b u q=>qd _ q) (Nat.le_of_eq (W6 _ _)) ?_;have ne:s.heap.objs.size≠s.heap.objs.size+1:=qS (MJ _);refine⟨by rw[zu ne,zL],qY _,ne,e2,fun _=>none,(Heap.Ns1.of_empty e3).at fun o q=>qd _ q,fun _=>True.intro,fun y hy=>absurd rfl hy⟩
def c7 {prog:Program}{w:World}{env:Env}{e:Expr}{f:Str}{pos:Pos}{s:Shared}{Q:Value->Shared->Prop}(hb:attributeBase e f env (eval e env)=eval e env)
  (h:wpAny (model prog w) A (eval e env) (fun o s₁=>wpAny (model prog w) A (getAttr o f true) Q E s₁) E s):wpAny (model prog w) A (eval (.Attribute e f pos) env) Q E s :=
 Attribute_any_ h (by rw[arm_eval_Attribute,hb])
end
def zxY (K:PySem.W.Frag)(ta:TE)(f:Str):TE:=fun U H Q=>ta U H fun x H1=>∃ a C dx fs v,x=.ref a/\H1 a=some (.ins C dx fs)/\Cls K C/\VD K C f/\fs.lookup f=some v/\Q v H1
def j9 (K:PySem.W.Frag)(ta tv:TE)(f:Str):TS:=fun D U H=>tv U H fun y H1=>ta U H1 fun x H2=>∃ a C dx fs,x=.ref a/\H2 a=some (.ins C dx fs)/\Cls K C/\VD K C f/\fs.length<1000 /\
 D.nx U (upd H2 a (.ins C dx (YF f y fs)))
section
variable {X:Cx}{o e value:Expr}{f:Str}{pos pos' tpos:Pos}{ta tv:TE}
def ztj (he:PE X e ta)(hb:attributeBase e f X.env (eval e X.env)=eval e X.env):PE X (.Attribute e f pos) (zxY X.K ta f):=by intro Z9 s U H Q I h;refine c7 hb (Z2 (he Z9 s U H _ I h) fun u s1 ⟨x,H1,I1,rx,a,C,dx,fs,v,ex,ea,c,n,l,q⟩=>?_);subst ex;obtain rfl:u=Value.ref a:=rx;exact Δ I1 ea c n l fun u' s2 I2 ru=>⟨v,H1,I2,ru,q⟩
def Ż (ha:PE X o ta)(hv:PE X value tv)(hs:swapsWith value (some (.Attribute o f pos')) pos.line X.env=pure false):PS X (.Assign [.Attribute o f pos'] value pos) (j9 X.K ta tv f):=by intro Z9 s U H D I h;refine plainObj_wpAny_Assign_Attribute (Z2 (hv Z9 s U H _ I h) fun u s1 ⟨y,H1,I1,ry,q⟩=>Z2 (ha Z9 s1 U H1 _ I1 q) fun ov s2 ⟨x,H2,I2,rx,a,C,dx,fs,ex,ea,c,n,l,q2⟩=>?_) hs;subst ex;obtain rfl:ov=Value.ref a:=rx;exact zlp I2 ea c n l ry fun s3 I3=>⟨U,_,I3,q2⟩
end
section
variable {X:Cx}{Z9:List (Addr×Obj)}{U:St}{H:Hp}{s:Shared}{A:Around}{E:Value->Shared->Prop}{Q:Value->Shared->Prop}{c:Value}{b:Bool}
inductive W4 (K:PySem.W.Frag)(H:Hp):V->Value->Prop where
 | non:W4 K H .non (.type "NoneType")
 | bl (x:Bool):W4 K H (.bl x) (.type "bool")
 | int (i:Int):W4 K H (.int i) (.type "int")
 | str (x:Str):W4 K H (.str x) (.type "str")
 | flt (x:UInt64):W4 K H (.flt x) (.type "float")
 | lst {a:Addr} {xs:List V} (e:H a=some (.lst xs)):W4 K H (.ref a) (.type "list")
 | frz {a:Addr} {o:Obj} {xs:List V} (e:H a=some (.frz o (.lst xs))):W4 K H (.ref a) (.type "list")
 | tup {a:Addr} {xs:List V} (e:H a=some (.tup xs)):W4 K H (.ref a) (.type "tuple")
 | dK {a:Addr} {Z8:List (Key×V)} (e:H a=some (.dK Z8)):W4 K H (.ref a) (.type "dict")
 | dT {a:Addr} {Z8:List (List Key×V)} (e:H a=some (.dT Z8)):W4 K H (.ref a) (.type "dict")
 | ins {a C dx:Addr} {fs:List (Str×V)} (e:H a=some (.ins C dx fs)) (cl:Cls K C) (ha:PySem.W.findIn K (.ref C) "__class__"=some (some (.builtin "object.__class__")))
   (hn:PySem.W.specialIn K (.builtin "object.__class__") "__get__"=some (some (.builtin "getset_descriptor.__get__"))) (htk:PySem.W.takesIn K (.builtin "object.__class__")=some true)
   (hm:PySem.W.mroIn K C (.type "object")=some true):W4 K H (.ref a) (.ref C)
def zmn {t:Value}(I:Inv X Z9 U H s)(rx:RelV x u)(ty:W4 X.K H x t)(e:PySem.W.kitOne X.K t c=some b)(h:∀ tk,Q (.bool b) { s with toks:=tk }) :
  wpAny (model X.prog X.w) A (call (.builtin "isinstance") [u,c]) Q E s:=by
 cases ty with
 |non=>cases(show u=Value.none from rx);exact PySem.W.kia_one PySem.W.kitx_none I.kIn True.intro e (fun z=>nomatch z) h
 |bl y=>cases(show u=Value.bool y from rx);exact PySem.W.kia_one PySem.W.kitx_bool I.kIn True.intro e (fun z=>nomatch z) h
 |int i=>obtain⟨t,q⟩:=(show ∃ t,u=Value.int i t from rx);cases q;exact PySem.W.kia_one PySem.W.kitx_int I.kIn True.intro e (fun z=>nomatch z) h
 |str y=>obtain⟨t,q⟩:=(show ∃ t,u=Value.str y t from rx);cases q;exact PySem.W.kia_one PySem.W.kitx_str I.kIn True.intro e (fun z=>nomatch z) h
 |flt y=>obtain⟨t,q⟩:=(show ∃ t,u=Value.float y t from rx);cases q;exact PySem.W.kia_one PySem.W.kitx_float I.kIn True.intro e (fun z=>nomatch z) h
 |@lst a xs ea =>
  cases(show u=Value.ref a from rx);obtain⟨_,_,n,_,h1⟩:=(show zU X.prog X.w H s.heap a (.lst xs)from I.hok a _ ea)
  exact PySem.W.kia_one PySem.W.kitx_list I.kIn ⟨_,h1,rfl⟩ e (fun z=>nomatch z) h
 |@frz a ob xs ea =>
  cases(show u=Value.ref a from rx);obtain⟨_,_,_,n,_,h1⟩:=(show zU X.prog X.w H s.heap a (.frz ob (.lst xs))from I.hok a _ ea)
  exact PySem.W.kia_one PySem.W.kitx_list I.kIn ⟨_,h1,rfl⟩ e (fun z=>nomatch z) h
 |@tup a xs ea =>
  cases(show u=Value.ref a from rx);obtain⟨_,_,_,p⟩:=(show zU X.prog X.w H s.heap a (.tup xs)from I.hok a _ ea)
  obtain⟨o,h1,h2,_⟩:=p;exact PySem.W.kia_one PySem.W.kitx_tuple I.kIn ⟨o,h1,h2⟩ e (fun z=>nomatch z) h
 |@dK a Z8 ea =>
  cases(show u=Value.ref a from rx);obtain⟨_,_,vs,_,p⟩:=(show zU X.prog X.w H s.heap a (.dK Z8)from I.hok a _ ea)
  obtain⟨o,es,ep,h1,h2,_⟩:=p;exact PySem.W.kia_one PySem.W.kitx_dict I.kIn ⟨o,h1,h2.1⟩ e (fun z=>nomatch z) h
 |@dT a Z8 ea =>
  cases(show u=Value.ref a from rx);obtain⟨_,_,xs,_,o,es,ep,h1,h2,_⟩:=(show zU X.prog X.w H s.heap a (.dT Z8)from I.hok a _ ea)
  exact PySem.W.kia_one PySem.W.kitx_dict I.kIn ⟨o,h1,h2.1⟩ e (fun z=>nomatch z) h
 |@ins a C dx fs ea cl ha hn htk hm =>cases(show u=Value.ref a from rx);obtain⟨mA,O,_⟩:=Hl I.hok ea;obtain⟨od,J,_⟩:=O.look;exact PySem.W.kia_one (PySem.W.kitx_own (cl.get _) cl.hd ha hn htk hm) I.kIn J e (fun z=>nomatch z) h
end
structure zO (k:Nat)(A:Around):Prop where
 hd:A.handled=none
 dp:A.depth+3*k+5<recursionLimit
 un:A.units+16*k+200<cLine
def zO.mono {j k:Nat}(r:zO k A)(h:j<=k):zO j A:=⟨r.hd,by have:=r.dp;lia,by have:=r.un;lia⟩
theorem zO.deeper {k:Nat}(r:zO (k+1) A)(env:Env):zO k (A.deeper env) :=⟨r.hd,by have:=r.dp;show A.depth+1+3*k+5<_;lia,by have:=r.un;show A.units+3+16*k+200<_;lia⟩
def ş {A:Around}{C:Addr}{us:List Value}{kw:List (Str×Value)}:(A.under (.builtin "type.__call__" ⟨.ref C::us,kw⟩)).depth=A.depth+1:=by first|rfl|simp[Around.under,Code.weight,Code.isCreation,Code.isGuard,Code.isCaller,Code.frames,Code.isFrame,guardIds]
def zla {A:Around}{C:Addr}{us:List Value}{kw:List (Str×Value)}:(A.under (.builtin "type.__call__" ⟨.ref C::us,kw⟩)).units=A.units+1:=by first|rfl|simp[Around.under,Code.cUnits,Code.frames,Code.isFrame]
def zO.make {k:Nat}(r:zO (k+1) A)(C:Addr)(us:List Value)(kw:List (Str×Value)):zO k (A.under (.builtin "type.__call__" ⟨.ref C::us,kw⟩)) :=⟨r.hd,by have:=r.dp;rw[ş];lia,by have:=r.un;rw[zla];lia⟩
theorem zO.depth {k:Nat}(r:zO k A):A.depth<recursionLimit:=by have:=r.dp;lia
theorem zO.units {k:Nat}(r:zO k A):A.units+64<cLine:=by have:=r.un;lia
def Ĥ:TA:=fun _ H Q=>Q [] H
def zwv (ta:TE)(tr:TA):TA:=fun U H Q=>ta U H fun x H1=>tr U H1 fun xs H2=>Q (x::xs) H2
section
variable {X:Cx}{e:Expr}{es:List Expr}{te:TE}{t:TA}{pos:Pos}
def ŕ:PA X [] Ĥ:=fun _ _ _ _ H Q I h=>Calls.spliced_nil ⟨[],H,I,.nil,h⟩
def nu (ha:PE X e te)(hr:PA X es t)(hs:autoParam (starEach (e::es) X.env=(false,eval e X.env)::starEach es X.env) zy):PA X (e::es) (zwv te t):=by intro pos Z9 s U H Q I h;rw[hs];show wpAny _ _ (spliced ((false,eval e X.env)::backTo pos (starEach es X.env))) _ _ s;refine Calls.spliced_cons (Z2 (ha Z9 s U H _ I h) fun u s1 ⟨x,H1,I1,r1,q1⟩=>?_);exact Z2 (hr pos Z9 s1 U H1 _ I1 q1) fun us s2 zq5=>by obtain⟨xs,H2,I2,r2,q2⟩:=zq5;exact⟨x::xs,H2,I2,.cons r1 r2,q2⟩
def ż (t:TA):TE:=fun U H Q=>t U H fun xs H1=>xs.length<=sizeLine/\∀ p,H1 p=none->Q (.ref p) (upd H1 p (.tup xs))
def Ϻ (t:TA):TE:=fun U H Q=>t U H fun xs H1=>xs.length<=sizeLine/\∀ p,H1 p=none->Q (.ref p) (upd H1 p (.lst xs))
def ķ {x1}(h:PA X es t):PE X (.Tuple es x1 pos) (ż t):=by intro Z9 s U H Q I hq;refine wpAny_Tuple_spliced (Z2 (h pos Z9 s U H _ I hq) fun us s1 ⟨xs,H1,I1,r,z,q⟩=>⟨by rw[<- r.length];exact z,?_⟩);have hf:H1 s1.heap.objs.size=none:=I1.hok.fresh (qh _);refine⟨.ref s1.heap.objs.size,upd H1 s1.heap.objs.size (.tup xs),I1.laid (t':=s1.toks) (fun b u e=>qd _ e) (qh _) ?_,rfl,q _ hf⟩;exact⟨z,us,r,⟨_,ql _ rfl,rfl,_,rfl⟩⟩
def bJ (h:PA X es t):PE X (.List es pos) (Ϻ t):=by intro Z9 s U H Q I hq;refine wpAny_List_spliced (Z2 (h pos Z9 s U H _ I hq) fun us s1 ⟨xs,H1,I1,r,z,q⟩=>⟨by rw[<- r.length];exact z,?_⟩);have hf:H1 s1.heap.objs.size=none:=I1.hok.fresh (qh _);refine⟨.ref s1.heap.objs.size,upd H1 s1.heap.objs.size (.lst xs),I1.laid (t':=s1.toks) (fun b u e=>qd _ e) (qh _) ?_,rfl,q _ hf⟩;exact⟨z,us,0,r,ql _ rfl⟩
end
abbrev Sp:=List V->Hp->VK->XK->Prop
abbrev V7:=List Env->Hp->Shared->XK->Value->Shared->Prop
structure Rx (P:Program)(w:World)(K:PySem.W.Frag)(mg:Str->Option Value)(base:Heap)(A:Around)(outer:List Env)(s:Shared)(H:Hp):Prop where
 frames:A.frames=some outer
 mod:Mod K mg base
 bs:∀ b o,base.get? b=some o->s.heap.get? b=some o/\H b=none
 bsz:base.objs.size<=s.heap.objs.size
 funs:s.heap.FunFrames base outer
 frf:∀ b∈frs outer,H b=none
 hok:ZD P w H s.heap
 bare:AllBare s.gens
def CE (outer:List Env)(P:Program)(w:World)(H:Hp)(s:Shared)(Q:VK)(u:Value)(s':Shared):Prop :=∃ v H',s'.os=s.os/\AllBare s'.gens/\Un (frs outer) [] H H' s.heap s'.heap/\ZD P w H' s'.heap/\RelV v u/\Q v H'
def CR (CX:V7)(outer:List Env)(P:Program)(w:World)(H:Hp)(s:Shared)(Q:VK)(E:XK)(r:Result)(s':Shared):Prop :=
 match r with
 |.ok (.ret u)=>CE outer P w H s Q u s'
 |.ok _=>False
 |.error e=>CX outer H s E e s'
structure YT (P:Program)(w:World)(K:PySem.W.Frag)(mg:Str->Option Value)(base:Heap)(CX:V7)(k:Nat)(f:Addr)(fd:FuncData)(ps:List Str)(sp:Sp):Prop where
 len:∀ vs H Q E,sp vs H Q E->vs.length=ps.length
 run:∀ (A:Around) (outer:List Env) (s:Shared) (H:Hp) (args:Args) (us:List Value) (vs:List V) (Q:VK) (E:XK),zO k A->Rx P w K mg base A outer s H->BindsTo s fd args (ps.zip us)->Vals vs us->sp vs H Q E ->
  codeAny (model P w) A (.call (.ref f) args) (CR CX outer P w H s Q E) s
theorem YT.mono {K:PySem.W.Frag}{base:Heap}{k:Nat}{sp:Sp}(F:YT P w K mg base CX j f fd ps sp)(h:j<=k) :
  YT P w K mg base CX k f fd ps sp:=⟨F.len,fun A outer s H args us vs Q E hr=>F.run A outer s H args us vs Q E (hr.mono h)⟩
def Rx.make {K:PySem.W.Frag}{base:Heap}(e:Rx P w K mg base A outer s H)(C:Addr)(us:List Value)(kw:List (Str×Value)) :
  Rx P w K mg base (A.under (.builtin "type.__call__" ⟨.ref C::us,kw⟩)) outer s H:=⟨by first | exact e.frames | (simpa [Around.under,Code.envs,Code.isFrame,pushEnvs]using e.frames),e.mod,e.bs,e.bsz,e.funs,e.frf,e.hok,e.bare⟩
section
variable {X:Cx}{Z9:List (Addr×Obj)}{U:St}{H:Hp}{s s':Shared}
def Inv.env0 (I:Inv X Z9 U H s):Rx X.prog X.w X.K X.mg X.base X.A X.stack s H :=⟨I.ok.frames,I.ok.mod,I.bs,qV I.ok.bsz I.sz,I.stack,I.stkFree,I.hok,I.bare⟩
def Inv.after (I:Inv X Z9 U H s)(h:CE X.stack X.prog X.w H s Q u s'):EP X Z9 U Q u s':=by obtain⟨v,H',os,bare,un,hok,r,q⟩:=h;obtain⟨hh,g,d,t,os'⟩:=s';obtain rfl:os'=s.os:=os;exact⟨v,H',I.call (h':=hh) (g':=g) (d':=d) (t':=t) (ch:=[]) un hok bare (fun b z=>absurd z (by simp)),r,q⟩
end
def GZ (sp:Sp)(dvs:List V)(E:XK)(t:TA):TE:=fun U H Q=>t U H fun vs H1=>sp (vs++dvs) H1 Q E
def Binds (K:PySem.W.Frag)(fd:FuncData)(ps:List Str)(ds:List Value):Prop :=∀ (s:Shared) (us:List Value),K.In s.heap->(us++ds).length=ps.length->BindsTo s fd ⟨us,[]⟩ (ps.zip (us++ds))
def Binds.all {K:PySem.W.Frag}{fd:FuncData}{ps:List Str}(h:∀ us:List Value,us.length=ps.length->bindArgs fd ⟨us,[]⟩=pure (ps.zip us)):Binds K fd ps []:=fun s us _ hl=>by rw[Xn]at hl ⊢;exact .of_eq (h us hl)
def Passes (CX:V7)(X:Cx)(E:XK):Prop:=∀ (Z9:List (Addr×Obj)) (U:St) (H:Hp) (s:Shared) (e:Value) (s':Shared),Inv X Z9 U H s->CX X.stack H s E e s'->X.xe e s'
section
variable {X:Cx}{CX:V7}{k:Nat}{f C:Addr}{fd:FuncData}{ps:List Str}{sp:Sp}{dvs:List V}{ds:List Value}{E:XK}{x m:Str}{p pos apos:Pos}{e o:Expr}{es:List Expr}{ta:TE}{t:TA}
def cN {Q:VK}(F:YT X.prog X.w X.K X.mg X.base CX k f fd ps sp)(hr:zO k X.A)(hb:Binds X.K fd ps ds)(hd:Vals dvs ds)(hx:Passes CX X E)(I:Inv X Z9 U H s)(r:Vals vs us)(h:sp (vs++dvs) H Q E):wpAny (model X.prog X.w) X.A (call (.ref f) us) (EP X Z9 U Q) X.xe s:=by
 have r2:Vals (vs++dvs) (us++ds):=r.append hd;have hl:(us++ds).length=ps.length:=by rw[<- r2.length];exact F.len _ _ _ _ h
 refine wpAny_call (codeAny_mono (F.run X.A X.stack s H ⟨us,[]⟩ (us++ds) (vs++dvs) Q E hr I.env0 (hb s us I.kIn hl) r2 h) fun r s' hq=>?_);cases r with
 |error e=>exact hx Z9 U H s e s' I hq
 |ok fl =>
  cases fl with
  |ret u=>exact I.after hq
  |next=>exact False.elim hq
  |brk=>exact False.elim hq
  |cont=>exact False.elim hq
def zqR (F:YT X.prog X.w X.K X.mg X.base CX k f fd ps sp)(hr:zO k X.A)(hg:Gl X x)(hm:X.mg x=some (.ref f))(hk:PySem.W.keepIn X.K (.ref f)=true)(hb:Binds X.K fd ps ds)(hd:Vals dvs ds)(hx:Passes CX X E)
  (ha:PA X (e::es) t) (hdb:(x==("__debug__":Str))=false:=by decide) (he:starEach (e::es) X.env=(false,eval e X.env)::starEach es X.env:=by rfl) (hpl:(backTo pos (starEach es X.env)).any (·.1)=false:=by rfl) :
  PE X (.Call (.Name x p) (e::es) [] pos) (GZ sp dvs E t):=by
 intro Z9 s U H Q I h;refine wpAny_Call_Name_kw (Oz I hg hm ?_ hdb);refine PySem.W.callWith_K (h₀:=X.base) I.ok.mod.kin hk (Z2 (ha pos Z9 s U H _ I h) fun us s1 ⟨vs,H1,I1,r,q⟩=>⟨I1.kIn,?_⟩) he hpl;exact cN F hr hb hd hx I1 r q
structure Mk (K:PySem.W.Frag)(C f:Addr):Prop where
 makes:PySem.W.makesIn K C=true
 init:PySem.W.findIn K (.ref C) "__init__"=some (some (.ref f))
 fn:PySem.W.isFn K (.ref f)=true
 kp:PySem.W.keepIn K (.ref C)=true
def zom {Q:VK}(M:Mk X.K C f)(F:YT X.prog X.w X.K X.mg X.base CX k f fd ps sp)(hr:zO (k+1) X.A)(hb:Binds X.K fd ps ds)(hd:Vals dvs ds)(hx:Passes CX X E)(I:Inv X Z9 U H s)(r:Vals vs us)(h:∀ x dx,H x=none->H dx=none->dx≠x->sp (.ref x::(vs++dvs)) (upd (upd H dx (.own x)) x (.ins C dx [])) (fun v H2=>v=.non/\Q (.ref x) H2) E) :
  wpAny (model X.prog X.w) X.A (call (.ref C) us) (EP X Z9 U Q) X.xe s:=by
 have hq:=h (s.heap.objs.size+1) s.heap.objs.size (I.hok.fresh (Nat.le_succ _)) (I.hok.fresh (qh _)) (qS (MJ _));have I2:=Inv.made (C:=C) I;have r2:Vals (V.ref (s.heap.objs.size+1)::(vs++dvs)) (Value.ref (s.heap.objs.size+1)::(us++ds)):=.cons rfl (r.append hd)
 have hl:(Value.ref (s.heap.objs.size+1)::us++ds).length=ps.length:=by have e:=r2.length;rw[F.len _ _ _ _ hq]at e;exact e.symm
 refine wpAny_call (pW (f:=f) I.kIn M.makes M.init (beq_iff_eq.mp M.fn) (codeAny_mono (F.run _ X.stack _ _ ⟨Value.ref (s.heap.objs.size+1)::us,[]⟩ (Value.ref (s.heap.objs.size+1)::(us++ds)) _ _ E (hr.make C us [])
  (I2.env0.make C us []) (hb _ (Value.ref (s.heap.objs.size+1)::us) I2.kIn hl) r2 hq) fun r s' hq'=>?_))
 cases r with
 |error e=>exact hx Z9 U _ _ e s' I2 hq'
 |ok fl =>
  cases fl with
  |ret u =>obtain⟨v,H',I3,rv,ev,q3⟩:=I2.after hq';subst ev;exact⟨rv,⟨V.ref (s.heap.objs.size+1),H',I3,rfl,q3⟩⟩
  |next=>exact False.elim hq'
  |brk=>exact False.elim hq'
  |cont=>exact False.elim hq'
end
section
variable {X:Cx}{CX:V7}{k:Nat}{f C:Addr}{fd:FuncData}{ps ks:List Str}{sp:Sp}{E:XK}{x m:Str}{p pos apos kpos:Pos}{e o:Expr}{es:List Expr}{kws:List Keyword}{te ta:TE}{t tk:TA}{nm:Option Str}
variable {g:List Value->List Value->List Value}{gV:List V->List V->List V}
end
structure Pk (N P:List Str)(sc:Scope):Prop where
 kind:sc.kind=.function
 co:sc.isCoroutine=false
 gen:sc.isGenerator=false
 nd:N.Nodup
 pre:N.take P.length=P
 par:∀ x∈P,sc.names.lookup x=some .local\/sc.names.lookup x=some .cell
 nofree:∀ y∈sc.names,y.2≠.free
theorem ou {kindOf:Str->Option NameKind}{x:Str}:∀ {binds:List (Str×Value)} {m:Str->Option Value},(∀ v,(x,v)∉binds)->bindL kindOf binds m x=m x
 |[],_,_=>rfl
 |(n,v)::r,m,h=>by
  unfold bindL;rw[ou fun w hw=>h w (qi _ hw)];split
  ·have:x≠n:=by rintro rfl;exact h v qN
   simp[this]
  ·rfl
theorem ur {kindOf:Str->Option NameKind}{x:Str}:∀ {binds:List (Str×Value)} {m:Str->Option Value},(∀ v,(x,v)∉binds)->bindC kindOf binds m x=m x
 |[],_,_=>rfl
 |(n,v)::r,m,h=>by
  unfold bindC;rw[ur fun w hw=>h w (qi _ hw)];split
  ·rfl
  ·have:x≠n:=by rintro rfl;exact h v qN
   simp[this]
theorem vo {kindOf:Str->Option NameKind}{x:Str}{v:Value}:∀ {P:List Str} {vs:List Value} {i:Nat} {m:Str->Option Value},P.Nodup->P[i]?=some x->vs[i]?=some v->kindOf x=some .local ->
  bindL kindOf (P.zip vs) m x=some v
 |[],_,_,_,_,h,_,_=>by simp at h
 |_::_,[],_,_,_,_,h,_=>by simp at h
 |p::P,w::vs,0,m,nd,h1,h2,hk=>by simp at h1 h2;subst h1;subst h2;show bindL kindOf ((p,w)::P.zip vs) m p=_;unfold bindL;rw[ou fun v hv=>(V4.mp nd).1 (Mh hv).1,if_pos hk];simp
 |p::P,w::vs,i+1,m,nd,h1,h2,hk=>by show bindL kindOf ((p,w)::P.zip vs) m x=_;unfold bindL;exact vo (i:=i) (V4.mp nd).2 (by simpa using h1) (by simpa using h2) hk
theorem wI {kindOf:Str->Option NameKind}{x:Str}{v:Value}:∀ {P:List Str} {vs:List Value} {i:Nat} {m:Str->Option Value},P.Nodup->P[i]?=some x->vs[i]?=some v->kindOf x≠some .local ->
  bindC kindOf (P.zip vs) m x=some v
 |[],_,_,_,_,h,_,_=>by simp at h
 |_::_,[],_,_,_,_,h,_=>by simp at h
 |p::P,w::vs,0,m,nd,h1,h2,hk=>by simp at h1 h2;subst h1;subst h2;show bindC kindOf ((p,w)::P.zip vs) m p=_;unfold bindC;rw[ur fun v hv=>(V4.mp nd).1 (Mh hv).1,if_neg hk];simp
 |p::P,w::vs,i+1,m,nd,h1,h2,hk=>by show bindC kindOf ((p,w)::P.zip vs) m x=_;unfold bindC;exact wI (i:=i) (V4.mp nd).2 (by simpa using h1) (by simpa using h2) hk
def start (N:List Str)(vs:List V):St:=vs.map some++List.replicate (N.length-vs.length) none
def Vx (CX:V7)(P:Program)(w:World)(K:PySem.W.Frag)(mg:Str->Option Value)(base:Heap)(N:List Str)(qual:Str)(scope:Scope)(f:Addr)(cd:Value)(A:Around)(outer:List Env)(s:Shared)(H:Hp)(E:XK):Cx where
 prog:=P
 w:=w
 K:=K
 mg:=mg
 base:=base
 A:=A.deeper (envOfC qual scope s.heap.objs.size f cd)
 N:=N
 s₀:=s
 H₀:=H
 env:=envOfC qual scope s.heap.objs.size f cd
 outer:=outer
 stack:=envOfC qual scope s.heap.objs.size f cd::outer
 ex:=[]
 calm:=true
 fn:=fun _=>true
 pn:=[]
 xe:=fun e s'=>wpAny (model P w) (A.deeper (envOfC qual scope s.heap.objs.size f cd)) (leaving (envOfC qual scope s.heap.objs.size f cd) e) (fun _ s''=>CX outer H s E e s'') (fun e' s''=>CX outer H s E e' s'') s'
def su {sc:Scope}{n:Nat}{x:Str}(h:sc.names.lookup x=some .cell):∃ c,(cellsFrom n sc.names []).lookup x=some c:=by have q:=PySem.W.cellsFrom_some sc.names n [] (.inl h);exact Ov.mp q
def iW {CX:V7}{K:PySem.W.Frag}{base:Heap}{qual:Str}{f:Addr}{cd:Value}{A:Around}{s1:Shared}{E:XK}{vs:List V}(S:Pk N ps scope)(hd:A.handled=none)(e0:Rx P w K mg base A outer s H)(hl:vs.length=ps.length)(r:Vals vs us)(x:InCallC s s.heap.objs.size (bindL (envOfC qual scope s.heap.objs.size f cd).kindOf (ps.zip us) fun _=>none) (cellsFrom (s.heap.objs.size+1) scope.names []) (bindC (envOfC qual scope s.heap.objs.size f cd).kindOf (ps.zip us) fun _=>none) s1) :
    Inv (Vx CX P w K mg base N qual scope f cd A outer s H E) [] (start N vs) H s1:=by
  have hpl:ps.length<=N.length:=by have:=congrArg List.length S.pre;rw[WX]at this;lia
  obtain⟨h1,tk,rfl,hk⟩:=x.done;have noA:∀ b:Addr,b∉(Vx CX P w K mg base N qual scope f cd A outer s H E).ex:=fun b z=>absurd (show b∈([]:List Addr)from z) (by simp)
  refine⟨⟨e0.mod,S.kind,rfl,rfl,qh _,fun y z c h1 h2=>?_,fun y hy=>?_,fun y c _ h=>?_,fun _=>hd,Around.frames_deeper e0.frames,.inr ⟨rfl,rfl⟩,fun b z=>absurd z (noA b),e0.bs,e0.bsz,fun b _ _=>noA b,fun b z=>absurd z (noA b),e0.funs,e0.frf⟩,
    rfl,e0.bare,Un.kept hk,⟨_,x.toInCall.ns,fun i y v h1 h2 h3=>?_⟩,fun y c h=>⟨_,x.cell y c h⟩,e0.hok.fresh (qh _),fun y c h=>?_,fun p hp=>absurd (show p∈([]:List (Addr×Obj))from hp) (by simp),e0.hok.kept hk,?_⟩
  . exact name_of_addr x.apart (PySem.mem_of_lookup h1) (PySem.mem_of_lookup h2)
  . have hy:scope.names.lookup y=some .cell\/scope.names.lookup y=some .free:=hy;rcases hy with hy|hy
    . exact su hy
    . exact absurd rfl (S.nofree _ (PySem.mem_of_lookup hy))
  . exact Mq (x.above y c (PySem.mem_of_lookup h))
  . have hi : i < vs.length := by
      unfold start at h2;by_cases hi:i<vs.length
      . exact hi
      . rw[qe (by simpa using hi)]at h2;rw[M5]at h2;split at h2<;>cases h2
    have ha:vs[i]?=some v:=by
      unfold start at h2;rw[qg (by simpa using hi),qj]at h2;cases e:vs[i]? with
      |none=>rw[e]at h2;cases h2
      |some a=>rw[e]at h2;cases h2;rfl
    obtain⟨u,hu,rv⟩:=r.get ha
    have hp:ps[i]?=some y:=by rw[<- S.pre,Oa (by lia)];exact h1
    have ndP:ps.Nodup:=by rw[<- S.pre];exact S.nd.sublist (List.take_sublist _ _)
    refine⟨u,rv,?_⟩;rcases S.par y (qc hp)with k|k
    . exact .inl ⟨k,vo ndP hp hu k⟩
    . obtain⟨c,e⟩:=su (n:=s.heap.objs.size+1) k;refine .inr ⟨.inl k,c,e,?_⟩;have q:=x.cell y c e;rw[wI ndP hp hu (by show scope.names.lookup y≠_;rw[k];decide)]at q;exact q
  . exact e0.hok.fresh (Mq (x.above y c (PySem.mem_of_lookup h)))
  . unfold start;show _=N.length;rw[qf,qa,qK];lia
def yr {CX:V7}{P:Program}{w:World}{K:PySem.W.Frag}{mg:Str->Option Value}{base:Heap}{k:Nat}{name qual:Str}{params:Arguments}{body:List Stmt}{scope:Scope}{dV kV doc pm cdv ct oc:Value}{an od:Option Addr}{osl:Array (Option Value)}{sp:Sp}(lk:K.lookup f=some ⟨oc,od,.func (PySem.W.fnOf name qual params body scope dV kV doc pm an cdv ct),osl⟩)(hcd:PySem.W.codeIn K cdv qual=true)(S:Pk N ps scope)(len:∀ vs H Q E,sp vs H Q E->vs.length=ps.length)(hbody:∀ (A:Around) (outer:List Env) (s:Shared) (H:Hp) (vs:List V) (Q:VK) (E:XK),zO k (A.deeper (envOfC qual scope s.heap.objs.size f cdv))->sp vs H Q E ->
   ∃ t,XS (Vx CX P w K mg base N qual scope f cdv A outer s H E) body t/\t { nx:=fun _ H'=>Q .non H',rt:=Q } (start N vs) H) :
  YT P w K mg base CX (k+1) f (PySem.W.fnOf name qual params body scope dV kV doc pm an cdv ct) ps sp:=by
 refine⟨len,fun A outer s H args us vs Q E hr e0 hb r hsp=>?_⟩;have hl:=len _ _ _ _ hsp;have KX:K.In s.heap:=e0.mod.kin.keeps fun b o e=>(e0.bs b o e).1
 have lim:s.heap.NoLimit:=e0.mod.nolimit.keeps fun b o e=>(e0.bs b o e).1
 have hkind:∀ y∈ps.zip us,scope.names.lookup y.1=some .local\/(scope.names.lookup y.1=some .cell/\((cellsFrom (s.heap.objs.size+1) scope.names []).lookup y.1).isSome=true):=by
  rintro⟨n,v⟩ hy;rcases S.par n (Mh hy).1 with q|q
  ·exact .inl q
  ·exact .inr ⟨q,PySem.W.cellsFrom_some _ _ _ (.inl q)⟩
 refine codeAny_call_function hr.depth (KX _ _ lk) rfl S.co S.gen rfl (PySem.W.codeRec_of KX hcd) (hb _ _ _ _ ?_);refine wpAny_newFunctionEnv_cells S.kind hkind fun env he s1 x=>?_
 subst he;refine⟨lim.keeps x.toInCall.keep,codeAny_func ?_⟩;obtain⟨t,ht,hq⟩:=hbody A outer s H vs Q E (hr.deeper _) hsp;have I:Inv (Vx CX P w K mg base N qual scope f cdv A outer s H E) [] (start N vs) H s1:=iW S hr.hd e0 hl r x;refine wpAny_mono (ht [] s1 (start N vs) H _ I hq) (fun fl s' hs=>?_) fun e s' hs=>hs
 have fin:∀ {σ':St} {H':Hp} {v:V} {u:Value},Inv (Vx CX P w K mg base N qual scope f cdv A outer s H E) [] σ' H' s'->RelV v u->Q v H'->CE outer P w H s Q u s' :=fun {σ' H' v u} J rv q=>⟨v,H',J.os,J.bare,J.base,J.hok,rv,q⟩
 cases fl with
 |ret u =>obtain⟨v,σ',H',J,rv,q⟩:=hs;exact fin J rv q
 |next =>obtain⟨σ',H',J,q⟩:=hs;exact fin (v:=V.non) (u:=Value.none) J rfl q
 |brk =>obtain⟨_,_,_,q⟩:=hs;exact False.elim q
 |cont =>obtain⟨_,_,_,q⟩:=hs;exact False.elim q
section
variable {X:Cx}{x:Str}{p pos:Pos}{e:Expr}{es:List Expr}{t:TA}{id T:String}{r:List V->Hp->VK->Prop}
def pN (r:List V->Hp->VK->Prop)(t:TA):TE:=fun U H Q=>t U H fun vs H1=>r vs H1 Q
def lZ (hc:YM X (.builtin id) r)(hg:Gl X x)(hm:X.mg x=none)(hv:bootBuiltins x=some (.builtin id))(ha:PA X (e::es) t)(hn:autoParam (x≠"__name__") zQ)(hdb:autoParam ((x==("__debug__":Str))=false) zQ)
  (he:starEach (e::es) X.env=(false,eval e X.env)::starEach es X.env:=by rfl) (hpl:(backTo pos (starEach es X.env)).any (·.1)=false:=by rfl):PE X (.Call (.Name x p) (e::es) [] pos) (pN r t):=by
 intro Z9 s U H Q I h;refine wpAny_Call_Name_kw (T8 I hg hm hv ?_ hn hdb);exact PyProof.Rows.callWith_builtin1 (Z2 (ha pos Z9 s U H _ I h) fun us s1 zq7=>by obtain⟨vs,H1,I1,r1,q1⟩:=zq7;exact hc Z9 s1 U H1 vs us Q I1 r1 q1) he hpl
def Ř (hc:YM X (.type T) r)(hg:Gl X x)(hm:X.mg x=none)(hv:bootBuiltins x=some (.type T))(ha:PA X (e::es) t)(hn:autoParam (x≠"__name__") zQ)(hdb:autoParam ((x==("__debug__":Str))=false) zQ)
  (he:starEach (e::es) X.env=(false,eval e X.env)::starEach es X.env:=by rfl) (hpl:(backTo pos (starEach es X.env)).any (·.1)=false:=by rfl):PE X (.Call (.Name x p) (e::es) [] pos) (pN r t):=by
 intro Z9 s U H Q I h;refine wpAny_Call_Name_kw (T8 I hg hm hv ?_ hn hdb);exact PyProof.Rows.callWith_type1 (Z2 (ha pos Z9 s U H _ I h) fun us s1 zq8=>by obtain⟨vs,H1,I1,r1,q1⟩:=zq8;exact hc Z9 s1 U H1 vs us Q I1 r1 q1) he hpl
end
end L2
namespace HT
open PySem PyProof.Rows
section
open PySem.SeqAt
open PySem.AutoSeq1 (wpAny_loadPart')
open PySem.MeetsSeq PySem.MeetsSeq2 PySem.MeetsSeq3
end
section
variable {prog:Program}{w:World}{A:Around}{E:Value->Shared->Prop}{s:Shared}
def Ø {t:Addr}{vs ws:List Value}{Q:Value->Shared->Prop}(ht:IsTup s.heap t vs.toArray)(hb:IsTup s.heap b ws.toArray)(hv:vs≠[])(h1:ws=[]->Q (.ref t) s)(h2:ws≠[]->Q (.ref s.heap.objs.size) { s with heap:=s.heap.push { cls:=.type "tuple",data:=.seq (vs++ws).toArray } })(hsz:vs.length+ws.length<=sizeLine):wpAny (model prog w) A (binaryOp .Add (.ref t) (.ref b)) Q E s:=by
 obtain⟨⟨cls,dd,data,sl⟩,ho,hc,n,hd⟩:=id ht;obtain⟨⟨cls2,dd2,data2,sl2⟩,ho2,hc2,n2,hd2⟩:=id hb;simp only at hc hd hc2 hd2;subst hc hd hc2 hd2;have e:vs.toArray++ws.toArray=(vs++ws).toArray:=by simp
 by_cases hw:ws=[]
 ·exact concat_meets ⟨_,ho,rfl⟩ ⟨_,ho2,rfl⟩ noFill_tuple_add seq_tuple_add PySem.F.slot_tuple_add PySem.F.entry_tuple_add (PySem.F.args_tuple_add_2 _ _)
   (tuple_addW1 t b vs.toArray ws.toArray n n2 dd dd2 sl sl2 (by simpa using hv) (by simp[hw])) ⟨ho,ho2,h1 hw⟩
 ·refine concat_meets ⟨_,ho,rfl⟩ ⟨_,ho2,rfl⟩ noFill_tuple_add seq_tuple_add PySem.F.slot_tuple_add PySem.F.entry_tuple_add (PySem.F.args_tuple_add_2 _ _)
   (tuple_addW2 t b vs.toArray ws.toArray n n2 dd dd2 sl sl2 (by simpa using hv) (by simpa using hw) (by rw[qk,qk];exact hsz)) ⟨ho,ho2,?_⟩
  rw[e];exact h2 hw
def sIx (n d:Nat):Option Int->Nat
 |none=>d
 |some v=>if v<0 then(v+(n:Int)).toNat else min v.toNat n
def uq (n d:Nat)(hd:d<=n)(o:Option Int):sIx n d o<=n:=by
 cases o with
 |none=>exact hd
 |some v =>
  show(if v<0 then(v+(n:Int)).toNat else min v.toNat n)<=n;by_cases hv:v<0
  ·rw[if_pos hv];lia
  ·rw[if_neg hv];exact Nat.min_le_right _ _
def nQ (v:Int)(n d:Nat):(if v<0 then max (v+(n:Int)) 0 else min v (n:Int))=((sIx n d (some v):Nat):Int):=by
 show(if v<0 then max (v+(n:Int)) 0 else min v (n:Int))=(((if v<0 then(v+(n:Int)).toNat else min v.toNat n):Nat):Int);by_cases hv:v<0
 ·simp only[if_pos hv];lia
 ·simp only[if_neg hv];lia
def zkU (lo hi:Option Int)(n:Nat):Builtin.Slice.sliceAdjust lo hi 1 (n:Int)=(((sIx n 0 lo:Nat):Int),((sIx n n hi:Nat):Int)):=by
 have h1:¬ ((1:Int)<0):=by lia
 unfold Builtin.Slice.sliceAdjust;simp only[h1,if_false];refine Uh ?_ ?_
 ·cases lo with
  |none=>rfl
  |some v=>exact nQ v n 0
 ·cases hi with
  |none=>rfl
  |some v=>exact nQ v n n
def zlt (i j:Nat):Builtin.Slice.slicePlaces (i:Int) (j:Int) 1=j-i:=by
  unfold Builtin.Slice.slicePlaces;have h1:(1:Int) > 0:=by lia
  simp only[h1,if_true,Int.ediv_one];split<;>lia
def yQ {Q:Option Int->Shared->Prop}(p:IsPart v o)(h:Q o s):wpAny (model prog w) A (Builtin.Slice.slicePartIndex v) Q E s:=by
 cases p with
 |none=>exact slicePart_none h
 |int i t=>exact slicePart_int h
def pA {sl:Addr}{vl vu:Value}{lo:Option Int}{n:Nat}{Q:Int×Int×Nat->Shared->Prop}(hs:s.heap.IsSliceOf sl vl vu .none)(pl:IsPart vl lo)(pu:IsPart vu hi)(h:Q (((sIx n 0 lo:Nat):Int),1,sIx n n hi-sIx n 0 lo) s):wpAny (model prog w) A (Builtin.Slice.sliceApplied (.ref sl) (pure (n:Int))) Q E s:=by obtain⟨os,hos,hcs,hds⟩:=id hs;unfold Builtin.Slice.sliceApplied Builtin.Slice.sliceFields;refine wpAny_bind (wpAny_bind (wpAny_field hos hds (x:=vl) rfl (wpAny_bind (wpAny_field hos hds (x:=vu) rfl (wpAny_bind (wpAny_field hos hds (x:=.none) rfl (wpAny_pure ?_)))))));refine wpAny_bind (slicePart_none ?_);show wpAny _ _ (if((1:Int)==0)=true then _ else _) _ _ s;rw[if_neg (by decide)];refine wpAny_bind (yQ pl (wpAny_bind (yQ pu (wpAny_bind (wpAny_pure ?_)))));show wpAny _ _ (match Builtin.Slice.sliceAdjust lo hi 1 (n:Int)with|(lo,hi)=>pure (lo,(1:Int),Builtin.Slice.slicePlaces lo hi 1)) _ _ s;rw[zkU lo hi n];show wpAny _ _ (pure (((sIx n 0 lo:Nat):Int),(1:Int),Builtin.Slice.slicePlaces ((sIx n 0 lo:Nat):Int) ((sIx n n hi:Nat):Int) 1)) _ _ s;rw[zlt];exact wpAny_pure h
def ju (xs:Array Value)(i k:Nat):((List.range k).filterMap fun (m:Nat)=>xs[((i:Int)+(m:Int)*1).toNat]?).toArray=((xs.toList.drop i).take k).toArray:=by
 have e:(fun (m:Nat)=>xs[((i:Int)+(m:Int)*1).toNat]?)=fun m=>xs[i+m]?:=by
  funext m;have:((i:Int)+(m:Int)*1).toNat=i+m:=by lia
  rw[this]
 rw[e];have:=pick_run xs i k;rw[List.filterMap_map]at this;have e2:((fun x=>xs[x]?) ∘ fun x=>i+x)=fun m=>xs[i+m]?:=rfl
 rw[e2]at this;rw[this]
def ŏ {t sl:Addr}{items:Array Value}{vl vu:Value}{lo:Option Int}{Q:Value->Shared->Prop}(ht:IsTup s.heap t items)(hs:s.heap.IsSliceOf sl vl vu .none)(pl:IsPart vl lo)(pu:IsPart vu hi)(hw:¬ (sIx items.size 0 lo=0/\sIx items.size items.size hi=items.size))(h:Q (.ref s.heap.objs.size) { s with heap:=s.heap.push { cls:=.type "tuple",data:=.seq ((items.toList.drop (sIx items.size 0 lo)).take (sIx items.size items.size hi-sIx items.size 0 lo)).toArray } })(hsz:items.size<=sizeLine):wpAny (model prog w) A (getItem (.ref t) (.ref sl)) Q E s:=by
 have htake:sizeOk (.seq ((items.toList.drop (sIx items.size 0 lo)).take (sIx items.size items.size hi-sIx items.size 0 lo)).toArray):=by show((items.toList.drop (sIx items.size 0 lo)).take (sIx items.size items.size hi-sIx items.size 0 lo)).toArray.size<=sizeLine;rw[qk,WX,O7,Vb];lia
 have hj:sIx items.size items.size hi<=items.size:=uq _ _ (qh _) hi;obtain⟨os,hos,hcs,hds⟩:=id hs;have hTs:s.TypeIs (.ref sl) "slice":=⟨os,hos,hcs⟩
 unfold getItem
 try with_reducible refine wpAny_holding ?_
 first|refine wpAny_bind (wpAny_pure ?_)|skip
 refine wpAny_bind (wpAny_sequenceKey ht.typeIs (by decide) ?_)
 refine wpAny_bind (wpAny_callSpecial?_slot (name:=Str.ofString "__getitem__") ht.typeIs PyProof.Rows.slot_tuple_getitem
  (wpAny_call_entry PyProof.Rows.slot_tuple_getitem ht.typeIs entry_tuple_getitem ?_ (args_tuple_getitem _ _)))
 show wpAny _ _ (Builtin.Tuple.tupleItemsOf (.ref t) >>= _) _ _ s;refine wpAny_bind (tupleItemsOf_ ht ?_);refine wpAny_bind (wpAny_typeOf hTs ?_);rw[if_pos (by decide)];refine wpAny_bind (pA hs pl pu ?_)
 have hno:¬ ((((sIx items.size 0 lo:Nat):Int)==0&&(1:Int)==1&&(sIx items.size items.size hi-sIx items.size 0 lo)==items.size)=true):=by intro q;rw[qv,qv]at q;have q1:((sIx items.size 0 lo:Nat):Int)=0:=eq_of_beq q.1.1;have q2:sIx items.size items.size hi-sIx items.size 0 lo=items.size:=eq_of_beq q.2;exact hw ⟨by lia,by lia⟩
 show wpAny _ _ (if(((sIx items.size 0 lo:Nat):Int)==0&&(1:Int)==1&&(sIx items.size items.size hi-sIx items.size 0 lo)==items.size)=true then _ else _) _ _ s;rw[if_neg hno,ju]
 first
  |exact wpAny_bind (m:=Builtin.Tuple.tupleExact _) (wpAny_newObj_type (wpAny_pure ⟨_,rfl,wpAny_pure h⟩) htake)
  |exact wpAny_bind (m:=Builtin.Tuple.tupleExact _) (wpAny_newObj_type (wpAny_bind (wpAny_pure (wpAny_pure ⟨_,rfl,wpAny_pure h⟩))) htake)
  |exact wpAny_bind (wpAny_bind (m:=Builtin.Tuple.tupleExact _) (wpAny_newObj_type (wpAny_pure (wpAny_pure ⟨_,rfl,wpAny_pure h⟩)) htake))
  |exact wpAny_bind (wpAny_bind (m:=Builtin.Tuple.tupleExact _) (wpAny_newObj_type (wpAny_pure ⟨_,rfl,wpAny_pure h⟩) htake))
end
end HT
namespace L2
open PySem PySem.Spec PyProof.Rows
abbrev TO:=St->Hp->(Option Int->Hp->Prop)->Prop
def PO (X:Cx)(e:Option Expr)(t:TO):Prop :=
 ∀ (Z9:List (Addr×Obj)) (s:Shared) (U:St) (H:Hp) (Q:Option Int->Hp->Prop),Inv X Z9 U H s->t U H Q ->
  wpAny (model X.prog X.w) X.A (evalPart e X.env) (fun u s'=>∃ o H',Inv X Z9 U H' s'/\IsPart u o/\Q o H') X.xe s
def Ō:TO:=fun _ H Q=>Q none H
def Ϭ (t:TE):TO:=fun U H Q=>t U H fun x H1=>∃ i,x=.int i/\Q (some i) H1
section
variable {X:Cx}{e:Expr}{te:TE}{lo hi:Option Expr}{tl th:TO}{pos p2:Pos}
def zr8:PO X none Ō:=by intro Z9 s U H Q I h;rw[evalPart_none];exact wpAny_pure ⟨none,H,I,.none,h⟩
def zrC (h:PE X e te):PO X (some e) (Ϭ te):=by
 intro Z9 s U H Q I hw;rw[evalPart_some];refine Z2 (h Z9 s U H _ I hw) fun u s1 ⟨x,H1,I1,r1,q1⟩=>?_
 obtain⟨i,rfl,q⟩:=q1;obtain⟨t,rfl⟩:=r1;exact⟨some i,H1,I1,.int i t,q⟩
def Tn (X:Cx)(r:V->Option Int->Option Int->Hp->VK->Prop):Prop :=
 ∀ (Z9:List (Addr×Obj)) (s:Shared) (U:St) (H:Hp) (x:V) (v vl vu:Value) (lo hi:Option Int) (sl:Addr) (Q:VK),Inv X Z9 U H s->RelV x v->s.heap.IsSliceOf sl vl vu .none->IsPart vl lo->IsPart vu hi->r x lo hi H Q ->
  ∃ T id,typeLookup (.type T) "__getitem__"=pure (some (.builtin id))/\s.TypeIs v T/\wpAny (model X.prog X.w) X.A (getItem v (.ref sl)) (EP X Z9 U Q) X.xe s
def Tn.or (h:Tn X r)(h':Tn X r'):Tn X (fun x lo hi H Q=>r x lo hi H Q\/r' x lo hi H Q):=by
 intro Z9 s U H x v vl vu lo hi sl Q I rx hs pl pu q;rcases q with q|q
 ·exact h Z9 s U H x v vl vu lo hi sl Q I rx hs pl pu q
 ·exact h' Z9 s U H x v vl vu lo hi sl Q I rx hs pl pu q
def eV (r:V->Option Int->Option Int->Hp->VK->Prop)(te:TE)(tl th:TO):TE:=fun U H Q=>te U H fun x H1=>tl U H1 fun l H2=>th U H2 fun u H3=>r x l u H3 Q
def cA (hr:Tn X r)(he:PE X e te)(hl:PO X lo tl)(hu:PO X hi th):PE X (.Subscript e (.Slice lo hi none p2) pos) (eV r te tl th):=by
 intro Z9 s U H Q I h;refine Subscript_ (Z2 (he Z9 s U H _ I h) fun v s1 ⟨x,H1,I1,r1,q1⟩=>?_);refine wpAny_Slice (Z2 (hl Z9 s1 U H1 _ I1 q1) fun vl s2 ⟨l,H2,I2,pl,q2⟩=>Z2 (hu Z9 s2 U H2 _ I2 q2) fun vu s3 ⟨u,H3,I3,pu,q3⟩=>?_);rw[evalPart_none];refine wpAny_pure ?_;have I4:Inv X Z9 U H3 { s3 with heap:=s3.heap.push { cls:=.type "slice",data:=.fields #[vl,vu,.none] } }:=I3.kept (t':=s3.toks) fun b ob q=>qd _ q
 obtain⟨T,id,hT,ht,hg⟩:=hr Z9 { s3 with heap:=s3.heap.push { cls:=.type "slice",data:=.fields #[vl,vu,.none] } } U H3 x v vl vu l u s3.heap.objs.size Q I4 r1 (Heap.IsSliceOf.new ..) pl pu q3;show wpAny (model X.prog X.w) X.A (subscriptTail e (.Slice lo hi none p2) v (.ref s3.heap.objs.size)) (EP X Z9 U Q) X.xe { s3 with heap:=s3.heap.push { cls:=.type "slice",data:=.fields #[vl,vu,.none] } };exact tail_any (ops:=[.ref s3.heap.objs.size,v]) ht hT hg (by with_unfolding_all rfl)
def U8 (xs:List V)(lo hi:Option Int):List V:=(xs.drop (HT.sIx xs.length 0 lo)).take (HT.sIx xs.length xs.length hi-HT.sIx xs.length 0 lo)
def vO (xs:List V)(lo hi:Option Int):(U8 xs lo hi).length<=xs.length:=by unfold U8;rw[WX,O7];lia
def j5 (K:PySem.W.Frag):V->Option Int->Option Int->Hp->VK->Prop:=fun x lo hi H Q=>∃ a xs,x=.ref a/\ZQ K H a xs /\
 ¬ (HT.sIx xs.length 0 lo=0/\HT.sIx xs.length xs.length hi=xs.length)/\∀ p,H p=none->Q (.ref p) (upd H p (.tup (U8 xs lo hi)))
def ztn:Tn X (j5 X.K):=by
 intro Z9 s U H x v vl vu lo hi sl Q I rx hs pl pu h;obtain⟨a,xs,rfl,hx,hw,q⟩:=h;cases rx;obtain⟨its,r,ht,hz⟩:=I.tuple hx;have hlen:its.toArray.size=xs.length:=by rw[qk];exact r.length.symm
 refine⟨"tuple",_,PyProof.Rows.slot_tuple_getitem.lookup,ht.typeIs,?_⟩;refine HT.ŏ ht hs pl pu (by rw[hlen];exact hw) ?_ (by rw[hlen];exact hz);rw[hlen];refine⟨.ref s.heap.objs.size,_,I.laid (t':=s.toks) (o:=.tup (U8 xs lo hi)) (fun b ob q=>qd _ q) (qh _) ?_,rfl,q _ (I.hok.fresh (qh _))⟩;exact⟨qV (vO xs lo hi) hz,_,(r.drop (HT.sIx xs.length 0 lo)).take (HT.sIx xs.length xs.length hi-HT.sIx xs.length 0 lo),IsTup.new _ _⟩
def zvM (K:PySem.W.Frag):R2:=fun x y H Q=>∃ a b xs ys,x=.ref a/\y=.ref b/\ZQ K H a xs/\ZQ K H b ys/\xs≠[]/\xs.length+ys.length<=sizeLine /\
 (ys=[]->Q (.ref a) H)/\(ys≠[]->∀ p,H p=none->Q (.ref p) (upd H p (.tup (xs++ys))))
def Vals.nil_iff (r:Vals xs us):us=[]↔xs=[]:=by
 cases r with
 |nil=>simp
 |cons _ _=>simp
def dU:ZL X (binaryOp .Add) (zvM X.K):=by intro Z9 s U H x y v u Q I rx ry h;obtain⟨a,b,xs,ys,rfl,rfl,ha,hb,hx,hz,q1,q2⟩:=h;cases rx;cases ry;obtain⟨its,r1,p1,_⟩:=I.tuple ha;obtain⟨its2,r2,p2,_⟩:=I.tuple hb;refine HT.Ø p1 p2 (fun z=>hx (r1.nil_iff.mp z)) (fun z=>⟨.ref a,H,I,rfl,q1 (r2.nil_iff.mp z)⟩) (fun z=>?_) (by rw[<- r1.length,<- r2.length];exact hz);refine⟨.ref s.heap.objs.size,_,I.laid (t':=s.toks) (o:=.tup (xs++ys)) (fun b ob q=>qd _ q) (qh _) ?_,rfl,q2 (fun w=>z (r2.nil_iff.mpr w)) _ (I.hok.fresh (qh _))⟩;exact⟨by rw[qf];exact hz,_,r1.append r2,IsTup.new _ _⟩
end
def O5 (n:Nat)(i:Int):Option Nat:=if 0<=i then(if i<n then some i.toNat else none)else if -(n:Int)<=i then some (i+n).toNat else none
def Rz (xs:List α)(i:Int):Option α:=(O5 xs.length i).bind fun j=>xs[j]?
def sW {n:Nat}{i:Int}{j:Nat}(h:O5 n i=some j):seqIndex? i n=some j/\j<n/\-(n:Int)<=i/\i<n:=by
 unfold O5 at h;by_cases h0:0<=i
 ·rw[if_pos h0]at h;by_cases h1:i<n
  ·rw[if_pos h1]at h;have e:i.toNat=j:=qF h;exact⟨by rw[seqIndex_of h0 h1,e],by lia,by lia,h1⟩
  ·rw[if_neg h1]at h;cases h
 ·rw[if_neg h0]at h;by_cases h1:-(n:Int)<=i
  ·rw[if_pos h1]at h;have e:(i+n).toNat=j:=qF h;exact⟨by rw[seqIndex_neg (by lia) h1,e],by lia,h1,by lia⟩
  ·rw[if_neg h1]at h;cases h
def Dy {α:Type}{xs:List α}{i:Int}{v:α}(h:Rz xs i=some v):∃ j,seqIndex? i xs.length=some j/\xs[j]?=some v/\j<xs.length/\-(xs.length:Int)<=i/\i<xs.length:=by
 unfold Rz at h;cases e:O5 xs.length i with
 |none=>rw[e]at h;cases h
 |some j =>rw[e]at h;obtain⟨h1,h2,h3,h4⟩:=sW e;exact⟨j,h1,h,h2,h3,h4⟩
def Ga (b:Expr):Prop:=∀ o i,subscripted b false o i=operate [o,i] (getItem o i)
def S9 (X:Cx)(r:R2):Prop :=
 ∀ (value slice:Expr) (Z9:List (Addr×Obj)) (s:Shared) (U:St) (H:Hp) (x y:V) (v u:Value) (Q:VK),Inv X Z9 U H s->RelV x v->RelV y u->r x y H Q ->
  subscripted slice false v u=operate [v,u] (getItem v u)->wpAny (model X.prog X.w) X.A (subscriptTail value slice v u) (EP X Z9 U Q) X.xe s
def Kh (X:Cx)(id:String)(r:V->List V->Hp->VK->Prop):Prop :=
 ∀ (Z9:List (Addr×Obj)) (s:Shared) (U:St) (H:Hp) (x:V) (xs:List V) (v:Value) (us:List Value) (Q:VK),Inv X Z9 U H s->RelV x v->Vals xs us->r x xs H Q ->
  wpAny (model X.prog X.w) X.A (call (.builtin id) (v::us)) (EP X Z9 U Q) X.xe s
section
variable {X:Cx}{a b:Expr}{ta tb:TE}{pos:Pos}
def S9.or (h:S9 X r)(h':S9 X r'):S9 X (fun x y H Q=>r x y H Q\/r' x y H Q):=by
 intro value slice Z9 s U H x y v u Q I rx ry q hs;rcases q with q|q
 ·exact h value slice Z9 s U H x y v u Q I rx ry q hs
 ·exact h' value slice Z9 s U H x y v u Q I rx ry q hs
def Φ (hr:S9 X r)(ha:PE X a ta)(hb:PE X b tb)(hs:Ga b):PE X (.Subscript a b pos) (Nh r ta tb):=by intro Z9 s U H Q I h;exact Subscript_ (G7 ha hb I h fun v u s2 x y H2 I2 rx ry q=>hr a b Z9 s2 U H2 x y v u Q I2 rx ry q (hs _ _))
def ļ (K:PySem.W.Frag):R2:=fun x y H Q=>∃ p xs i v,x=.ref p/\y=.int i/\ZC K H p xs/\Rz xs i=some v/\Q v H
def zyI (K:PySem.W.Frag):R2:=fun x y H Q=>∃ p xs i v,x=.ref p/\y=.int i/\ZQ K H p xs/\Rz xs i=some v/\Q v H
def jY:R2:=fun x y H Q=>∃ z i c,x=.str z/\y=.int i/\z.length<=sizeLine/\Rz z.cps.toList i=some c/\Q (.str ⟨#[c]⟩) H
def zsm:S9 X (ļ X.K):=by
  intro value slice Z9 s U H x y v u Q I rx ry h hs;obtain⟨p,xs,i,z,rfl,rfl,hq,he,q⟩:=h;cases rx;obtain⟨t,rfl⟩:=ry;obtain⟨its,r,pl,hz⟩:=I.list hq;obtain⟨j,h1,h2,h3,h4,h5⟩:=Dy he;obtain⟨w,ew,rw'⟩:=r.get h2;have hl:=r.length;have hn:=Qo;have fin:EP X Z9 U Q w s:=⟨z,H,I,rw',q⟩
  by_cases h0:0<=i
  . have hj : i.toNat = j := by
      rw[seqIndex_of h0 h5]at h1;exact qF h1
    exact item_listR pl.isList h0 (by lia) (by rw[hj];simpa using ew) fin hs
  . have hj : (i + (its.toArray.size : Int)).toNat = j := by
      rw[seqIndex_neg (by lia) h4]at h1;rw[qk,<- hl];exact qF h1
    exact subscriptTail_builtinR (x:=w) pl.isList.typeIs slot_list_getitem.lookup
      (wpAny_getItem_list_neg (Q:=fun r s'=>r=w/\EP X Z9 U Q r s') pl.isList (by lia) (by rw[qk]<;>lia) (by lia) (by rw[hj];simpa using ew) ⟨rfl,fin⟩) hs
def lV:S9 X (zyI X.K):=by
 intro value slice Z9 s U H x y v u Q I rx ry h hs;obtain⟨p,xs,i,z,rfl,rfl,hq,he,q⟩:=h;cases rx;obtain⟨t,rfl⟩:=ry;obtain⟨its,r,pl,hz⟩:=I.tuple hq;obtain⟨j,h1,h2,h3,h4,h5⟩:=Dy he;obtain⟨w,ew,rw'⟩:=r.get h2;have hl:=r.length;have hn:=Qo;have fin:EP X Z9 U Q w s:=⟨z,H,I,rw',q⟩
 exact subscriptTail_builtinR (x:=w) pl.typeIs slot_tuple_getitem.lookup
  (getItem_tuple (j:=j) (Q:=fun r s'=>r=w/\EP X Z9 U Q r s') pl (by lia) (by lia) (by rw[qk,<- hl];exact h1) (by simpa using ew) ⟨rfl,fin⟩) hs
def ztK:S9 X jY:=by
 intro value slice Z9 s U H x y v u Q I rx ry h hs;obtain⟨z,i,c,rfl,rfl,hz,he,q⟩:=h;obtain⟨t,rfl⟩:=rx;obtain⟨t',rfl⟩:=ry;obtain⟨j,h1,h2,h3,h4,h5⟩:=Dy he;have hl:z.cps.toList.length=z.length:=by simp[Str.length]
 rw[hl]at h1 h4 h5;have hn:=Qo
 exact tail_any (typeIs_str s z t) slot_str_getitem.lookup (getItem_str (c:=c) (by have e1:decide (i < -(2 ^ 63:Int))=false:=decide_eq_false (by lia);have e2:decide (i ≥ 2 ^ 63)=false:=decide_eq_false (by lia);rw[e1,e2,Bool.or_false]) (by rw[h1];simpa using h2) ⟨.str ⟨#[c]⟩,H,I.tok _,⟨_,rfl⟩,q⟩) hs
def zlH (its:List Value)(n j:Nat)(u:Value):Obj.mapSeq (·.setIfInBounds j u) { cls:=.type "list",data:=.seq its.toArray n }={ cls:=.type "list",data:=.seq (its.set j u).toArray n }:=by simp[Obj.mapSeq]
theorem Inv.lst {xs:List V}(I:Inv X Z9 U H s)(h:H p=some (.lst xs)) :
  ∃ (its:List Value) (n:Nat),Vals xs its/\s.heap.get? p=some { cls:=.type "list",data:=.seq its.toArray n }/\xs.length<=sizeLine:=by
 obtain⟨z,its,n,r,e⟩:=I.hok p _ h;exact⟨its,n,r,e,z⟩
def Inv.lstUpd {xs:List V}{its its':List Value}{n n':Nat}{f:Obj->Obj}(I:Inv X Z9 U H s)(h:H p=some (.lst xs))(ho:s.heap.get? p=some { cls:=.type "list",data:=.seq its.toArray n })(hf:f { cls:=.type "list",data:=.seq its.toArray n }={ cls:=.type "list",data:=.seq its'.toArray n' })(r:Vals ys its')(hz:ys.length<=sizeLine)(t:Nat) :
    Inv X Z9 U (upd H p (.lst ys)) { s with heap:=s.heap.update p f,toks:=t }:=by
  have e:(s.heap.update p f).get? p=some { cls:=.type "list",data:=.seq its'.toArray n' }:=by rw[Heap.get?_update_self f ho (by rw[hf]<;>rfl),hf]
  refine I.write (x:=p) (e:=p) (by rw[h];trivial) (.inl rfl) (fun b u hb q=>(Heap.get?_update_other _ _ (Ne.symm hb)).trans q) ⟨_,e⟩ ?_;exact⟨hz,its',n',r,e⟩
def zxs:V->V->V->Hp->(Hp->Prop)->Prop:=fun o i v H Q=>∃ p xs k j,o=.ref p/\i=.int k/\H p=some (.lst xs)/\O5 xs.length k=some j/\Q (upd H p (.lst (xs.set j v)))
def set_list:pH X zxs:=by
 intro Z9 s U H o i v ov iv u Q I ro ri rv h;obtain⟨p,xs,k,j,rfl,rfl,hp,hj,q⟩:=h;cases ro;obtain⟨t,rfl⟩:=ri;obtain⟨its,n,r,ho,hz⟩:=I.lst hp;obtain⟨h1,h2,h3,h4⟩:=sW hj;have hl:=r.length;have hn:=Qo
 have I':Inv X Z9 U (upd H p (.lst (xs.set j v))) { s with heap:=s.heap.update p (Obj.mapSeq (·.setIfInBounds j u)) } :=I.lstUpd hp ho (zlH its n j u) (r.set rv j) (by rw[WY];exact hz) s.toks
 by_cases h0:0<=k
 ·have hk:k.toNat=j:=by
   rw[seqIndex_of h0 h4]at h1;exact qF h1
  exact PySem.W.ki_setAt ho h0 (by lia) (by rw[qk,<- hl];exact h4) (by rw[hk];exact⟨_,I',q⟩)
 ·have hk:(k+(its.toArray.size:Int)).toNat=j:=by
   rw[seqIndex_neg (by lia) h3]at h1;rw[qk,<- hl];exact qF h1
  exact PySem.W.ki_setBack ho (by lia) (by rw[qk,<- hl];exact h3) (by lia) (by rw[hk];exact⟨_,I',q⟩)
def Å (lo hi:Option Int)(n:Nat):(sliceBounds lo hi none n).1=((HT.sIx n 0 lo:Nat):Int)/\(sliceBounds lo hi none n).2.1=((HT.sIx n n hi:Nat):Int)/\(sliceBounds lo hi none n).2.2=1:=by
  refine⟨?_,?_,rfl⟩
  . cases lo with
    |none=>simp[sliceBounds,HT.sIx]
    |some i =>
      simp only[sliceBounds,HT.sIx,Option.getD_none,show(1:Int) > 0 by decide,if_true];by_cases h:i<0
      . simp only[h,if_true]<;>lia
      . simp only[h,if_false]<;>lia
  . cases hi with
    |none=>simp[sliceBounds,HT.sIx]
    |some i =>
      simp only[sliceBounds,HT.sIx,Option.getD_none,show(1:Int) > 0 by decide,if_true];by_cases h:i<0
      . simp only[h,if_true]<;>lia
      . simp only[h,if_false]<;>lia
def zia (its:List Value)(lo hi:Option Int):slicePick its.toArray lo hi none=((its.drop (HT.sIx its.length 0 lo)).take (HT.sIx its.length its.length hi-HT.sIx its.length 0 lo)).toArray:=by obtain⟨h1,h2,h3⟩:=Å lo hi its.toArray.size;unfold slicePick;rw[h1,h2,h3];simp only[sliceRange_one,pick_run,qk]<;>rfl
def iZ (K:PySem.W.Frag):V->Option Int->Option Int->Hp->VK->Prop:=fun x lo hi H Q=>∃ a xs,x=.ref a/\ZC K H a xs/\∀ p,H p=none->Q (.ref p) (upd H p (.lst (U8 xs lo hi)))
def Ē:Tn X (iZ X.K):=by intro Z9 s U H x v vl vu lo hi sl Q I rx hs pl pu h;obtain⟨a,xs,rfl,hx,q⟩:=h;cases rx;obtain⟨its,r,ht,hz⟩:=I.list hx;have hlen:=r.length;refine⟨"list",_,slot_list_getitem.lookup,ht.isList.typeIs,?_⟩;refine wpAny_getItem_list_slice ht.isList hs pl pu .none (by simp) ?_ (by rw[qk]<;>lia);rw[zia,<- hlen];refine⟨.ref s.heap.objs.size,_,I.laid (t':=s.toks) (o:=.lst (U8 xs lo hi)) (fun b ob q=>qd _ q) (qh _) ?_,rfl,q _ (I.hok.fresh (qh _))⟩;exact⟨qV (vO xs lo hi) hz,_,0,(r.drop (HT.sIx xs.length 0 lo)).take (HT.sIx xs.length xs.length hi-HT.sIx xs.length 0 lo),ql _ rfl⟩
def ziv:YM X (.builtin "len") (fun xs H Q=>∃ p ys,xs=[.ref p]/\(ZC X.K H p ys\/ZQ X.K H p ys)/\Q (.int ys.length) H):=by
  intro Z9 s U H xs us Q I r h;obtain⟨p,ys,rfl,hq,q⟩:=h;obtain⟨u,rfl,rx⟩:=vals1 r;cases rx;have hn:=Qo;rcases hq with hq|hq
  . obtain⟨its,r',pl,hz⟩:=I.list hq;have hlen:=r'.length;exact Calls.call_len_list pl.isList (by simp only[qk]<;>lia) ⟨.int ys.length,H,I.tok _,⟨s.toks+1,by rw[qk,hlen]⟩,q⟩
  . obtain⟨its,r',pl,hz⟩:=I.tuple hq;have hlen:=r'.length;exact len_tuple pl (by simp only[qk]<;>lia) ⟨.int ys.length,H,I.tok _,⟨s.toks+1,by rw[qk,hlen]⟩,q⟩
def eF:YM X (.builtin "len") (fun xs H Q=>∃ z,xs=[.str z]/\z.length<=sizeLine/\Q (.int z.length) H):=by intro Z9 s U H xs us Q I r h;obtain⟨z,rfl,hz,q⟩:=h;obtain⟨u,rfl,t,rfl⟩:=vals1 r;have hn:=Qo;exact len_str (by lia) ⟨.int z.length,H,I.tok _,⟨_,rfl⟩,q⟩
def YM.or (h:YM X f r)(h':YM X f r'):YM X f (fun xs H Q=>r xs H Q\/r' xs H Q):=by
 intro Z9 s U H xs us Q I rs q;rcases q with q|q
 ·exact h Z9 s U H xs us Q I rs q
 ·exact h' Z9 s U H xs us Q I rs q
def eO:YM X (.type "list") (fun xs H Q=>∃ p ys,xs=[.ref p]/\(ZC X.K H p ys\/ZQ X.K H p ys)/\∀ l,H l=none->Q (.ref l) (upd H l (.lst ys))):=by
  intro Z9 s U H xs us Q I r h;obtain⟨p,ys,rfl,hq,q⟩:=h;obtain⟨u,rfl,rx⟩:=vals1 r;cases rx
  have fin : ∀ (its : List Value), Vals ys its → ys.length ≤ sizeLine → ∀ (h' : Heap) (c' : Nat), (∀ b o', s.heap.get? b = some o' → h'.get? b = some o') →
      h'.get? s.heap.objs.size=some { cls:=.type "list",dict:=none,data:=.seq its.toArray c',slots:=#[] }->EP X Z9 U Q (.ref s.heap.objs.size) { s with heap:=h' }:=fun its r' hz h' c' kp e =>
    ⟨.ref s.heap.objs.size,_,I.laid (t':=s.toks) kp (qh _) (show zU X.prog X.w _ h' _ (.lst ys)from ⟨hz,its,c',r',e⟩),rfl,q _ (I.hok.fresh (qh _))⟩
  rcases hq with hq|hq
  . obtain⟨its,r',pl,hz⟩:=I.list hq;have hlen:=r'.length;obtain⟨o,ho,hc,n,hd⟩:=pl.isList;exact call_list_seq p (.inl rfl) ho hc hd (fun h' c' kp e=>fin its r' hz h' c' kp e) (by simp only[qk]<;>lia)
  . obtain⟨its,r',pl,hz⟩:=I.tuple hq;have hlen:=r'.length;obtain⟨o,ho,hc,n,hd⟩:=pl;exact call_list_seq p (.inr rfl) ho hc hd (fun h' c' kp e=>fin its r' hz h' c' kp e) (by simp only[qk]<;>lia)
def Iz (K:PySem.W.Frag)(T:String)(x:V)(H:Hp):Prop:=match x with
 | .str _=>T="str"
 | .int _=>T="int"
 | .ref p=>(T="list"/\∃ xs,ZC K H p xs)\/(T="tuple"/\∃ o,K.lookup p=some o/\o.cls=.type "tuple"/\o.dict=none) \/
   (T="dict"/\((∃ Z8,H p=some (.dK Z8))\/∃ Z8,H p=some (.dT Z8)))\/(T="set"/\∃ S n,H p=some (.set S n))
 |_=>False
def xu {T:String}(I:Inv X Z9 U H s)(r:RelV x v)(ty:Iz X.K T x H) :
  s.TypeIs v T/\∀ a,v=.ref a->∃ ob,s.heap.get? a=some ob/\ob.dict=none:=by
 cases x with
 |str z =>obtain⟨t,rfl⟩:=r;cases(show T="str" from ty);exact⟨typeIs_str s z t,fun _ e=>nomatch e⟩
 |int i =>obtain⟨t,rfl⟩:=r;cases(show T="int" from ty);exact⟨typeIs_int s i t,fun _ e=>nomatch e⟩
 |ref p =>
  cases r;rcases ty with⟨rfl,xs,hq⟩|⟨rfl,o,hk,hc,hd⟩|⟨rfl,hk⟩|⟨rfl,S,n,hk⟩
  ·obtain⟨its,_,pl,_⟩:=I.list hq;refine⟨pl.isList.typeIs,fun a e=>?_⟩;cases e;obtain⟨o,n,e,c,hd,_⟩:=pl;exact⟨o,e,hd⟩
  ·refine⟨⟨o,I.kIn p o hk,hc⟩,fun a e=>?_⟩;cases e;exact⟨o,I.kIn _ o hk,hd⟩
  ·have z:∃ o,s.heap.get? p=some o/\o.ExactDict:=by
    rcases hk with⟨Z8,hk⟩|⟨Z8,hk⟩
    ·obtain⟨_,_,_,_,o,_,_,e,ex,_⟩:=I.hok p _ hk;exact⟨o,e,ex⟩
    ·obtain⟨_,_,_,_,o,_,_,e,ex,_⟩:=I.hok p _ hk;exact⟨o,e,ex⟩
   obtain⟨o,e,ex⟩:=z;refine⟨⟨o,e,ex.1⟩,fun a e2=>?_⟩;cases e2;exact⟨o,e,ex.2.1⟩
  ·obtain⟨o,_,_,_,e,ex,_⟩:=I.hok p _ hk;refine⟨⟨o,e,ex.1⟩,fun a e2=>?_⟩;cases e2;exact⟨o,e,ex.2.1⟩
 |_=>exact False.elim ty
def fZ (K:PySem.W.Frag)(T:String)(r:V->List V->Hp->VK->Prop)(to:TE):TE:=fun U H Q=>to U H fun x H1=>Iz K T x H1/\r x [] H1 Q
def ü (K:PySem.W.Frag)(T:String)(r:V->List V->Hp->VK->Prop)(to:TE)(t:TA):TE:=fun U H Q=>to U H fun x H1=>Iz K T x H1/\t U H1 fun xs H2=>r x xs H2 Q
variable {o e:Expr}{es:List Expr}{to:TE}{t:TA}{name:Str}{apos cpos:Pos}{T id:String}{r:V->List V->Hp->VK->Prop}
def zvz (pa:PlainAttrs T)(slot:Slot T name id)(hty:typeOf (.builtin id)=pure (.type "method_descriptor"))(hm:Kh X id r)(ho:PE X o to)
  (hbase:attributeBase o name X.env (eval o X.env)=eval o X.env:=by rfl) (hline:(apos.endLine==cpos.line)=true:=by rfl):PE X (.Call (.Attribute o name apos) [] [] cpos) (fZ X.K T r to):=by
 intro Z9 s U H Q I h;refine wpAny_Call_method0_late hbase hline (Z2 (ho Z9 s U H _ I h) fun v s1 ⟨x,H1,I1,r1,ty,q1⟩=>?_);obtain⟨h1,h2⟩:=xu I1 r1 ty;exact⟨T,id,pa,slot,hty,h1,h2,Calls.callWith_builtin rfl (PySem.evalArgs_none (hm Z9 s1 U H1 x [] v [] Q I1 r1 .nil q1))⟩
def Ϟ (pa:PlainAttrs T)(slot:Slot T name id)(hty:typeOf (.builtin id)=pure (.type "method_descriptor"))(hm:Kh X id r)(ho:PE X o to)(ha:PA X (e::es) t)
    (hbase:attributeBase o name X.env (eval o X.env)=eval o X.env:=by rfl)
    (hfew:((backTo cpos (starEach (e::es) X.env)).all (fun x=>!x.1)&&(backToKw cpos (keywordEach [] X.env)).all (fun x=>x.1.isSome)
     &&decide ((e::es).length+([]:List Keyword).length+(if([]:List Keyword).isEmpty then 0 else 1)<30))=true:=by rfl)
    (hline:(apos.endLine==cpos.line)=true:=by rfl) (hs:starEach (e::es) X.env=(false,eval e X.env)::starEach es X.env:=by rfl) (hplain:(backTo cpos (starEach es X.env)).any (·.1)=false:=by rfl) :
    PE X (.Call (.Attribute o name apos) (e::es) [] cpos) (ü X.K T r to t):=by
  intro Z9 s U H Q I h;refine wpAny_Call_method_late hbase hfew hline rfl (Z2 (ho Z9 s U H _ I h) fun v s1 ⟨x,H1,I1,r1,ty,q1⟩=>?_);obtain⟨h1,h2⟩:=xu I1 r1 ty;refine⟨T,id,pa,slot,hty,h1,h2,?_⟩;have hA:=ha cpos Z9 s1 U H1 _ I1 q1;rw[hs]at hA ⊢;refine Calls.callWith_builtin (by show(false||(backTo cpos (starEach es X.env)).any (·.1))=false;rw[hplain]<;>rfl) (Calls.evalArgs_plain ?_);exact Z2 hA fun us s2 zq9=>by obtain⟨vs,H2,I2,r2,q2⟩:=zq9;exact hm Z9 s2 U H2 x vs v us Q I2 r1 r2 q2
/- xs.append(e),list.index on a module's tuple .. are Kh facts of 06m -/
end
def PX (X:Cx)(id:String)(r:V->List V->Hp->VK->Prop):Prop :=
 ∀ (Z9:List (Addr×Obj)) (s:Shared) (U:St) (H:Hp) (x:V) (xs:List V) (v:Value) (us:List Value) (Q:VK),Inv X Z9 U H s->RelV x v->Vals xs us->r x xs H Q ->
  wpAny (model X.prog X.w) X.A (call (.builtin id) (v::us)) (EP X Z9 U Q) X.xe s
theorem Vals.one:∀ {x:V} {us:List Value},Vals [x] us->∃ u,us=[u]/\RelV x u
 |_,_,.cons r .nil=>⟨_,rfl,r⟩
theorem Vals.eraseIdx:∀ {xs:List V} {us:List Value} (i:Nat),Vals xs us->Vals (xs.eraseIdx i) (us.eraseIdx i)
 |_,_,_,.nil=>.nil
 |_,_,0,.cons _ t=>t
 |_,_,i+1,.cons r t=>.cons r (Vals.eraseIdx i t)
theorem uO {α:Type}:∀ (l:List α) (i:Nat),(l.eraseIdx i).length<=l.length
 |[],_=>qh _
 |_::_,0=>Nat.le_succ _
 |_::r,i+1=>Nat.succ_le_succ (uO r i)
section
variable {X:Cx}{Z9:List (Addr×Obj)}{U:St}{H:Hp}{s:Shared}{l b:Addr}{xs ys zs:List V}
def Inv.lset {its its':List Value}{n:Nat}{f:Array Value->Array Value}{t':Nat}(I:Inv X Z9 U H s)(hH:H l=some (.lst xs))
  (e:s.heap.get? l=some { cls:=.type "list",data:=.seq its.toArray n }) (hf:f its.toArray=its'.toArray) (hv:Vals ys its') (hz:ys.length<=sizeLine) :
  Inv X Z9 U (upd H l (.lst ys)) { s with heap:=s.heap.update l (Obj.mapSeq f),toks:=t' }:=by
 have q:=PySem.IsL.update e f;rw[hf]at q;refine I.write (x:=l) (e:=l) (by rw[hH];exact trivial) (.inl rfl) (fun b' u hb hu=>(Heap.get?_update_other s.heap (Obj.mapSeq f) (Ne.symm hb)).trans hu) ⟨_,q⟩ ?_;exact⟨hz,its',_,hv,q⟩
def Inv.lnew {t':Nat}(I:Inv X Z9 U H s)(hv:Vals ys its)(hz:ys.length<=sizeLine) :
  Inv X Z9 U (upd H s.heap.objs.size (.lst ys)) { s with heap:=s.heap.push { cls:=.type "list",data:=.seq its.toArray },toks:=t' } :=
 I.laid (fun _ _ q=>qd _ q) (qh _) ⟨hz,its,0,hv,ql _ rfl⟩
theorem Inv.fresh (I:Inv X Z9 U H s):H s.heap.objs.size=none:=I.hok.fresh (qh _)
def Inv.lstM (I:Inv X Z9 U H s)(hH:H l=some (.lst xs)):xs.length<=sizeLine/\∃ (its:List Value) (n:Nat),Vals xs its/\xs.length=its.length/\s.heap.get? l=some { cls:=.type "list",data:=.seq its.toArray n }:=by obtain⟨z,its,n,r,e⟩:=I.hok l _ hH;exact⟨z,its,n,r,r.length,e⟩
def uK {n:Nat}(h:n<=sizeLine):Builtin.List.listTooLong n=false:=by unfold Builtin.List.listTooLong;exact decide_eq_false (by lia)
end
section
variable {X:Cx}
def pR:V->List V->Hp->VK->Prop:=fun x vs H Q=>∃ l xs y,x=.ref l/\vs=[y]/\H l=some (.lst xs)/\xs.length<sizeLine/\Q .non (upd H l (.lst (xs++[y])))
def rN:PX X "list.append" pR:=by intro Z9 s U H x vs v us Q I rx rv h;obtain⟨l,xs,y,rfl,rfl,hH,hz,q⟩:=h;cases rx;obtain⟨u,rfl,ru⟩:=rv.one;obtain⟨z,its,n,r,hl,e⟩:=I.lstM hH;refine call_meets F.slot_list_append ⟨_,e,rfl⟩ F.entry_list_append (F.args_list_append_2 _ _) (PySem.list_append l its.toArray n u (by rw[qk];lia)) ⟨e,?_⟩;refine⟨.non,_,I.lset (its':=its++[u]) hH e (by simp) (r.append (.cons ru .nil)) ?_,rfl,q⟩;rw[qf,qP];lia
def vG:V->List V->Hp->VK->Prop:=fun x vs H Q=>∃ l b xs zs,x=.ref l/\vs=[.ref b]/\H l=some (.lst xs)/\H b=some (.lst zs)/\xs.length+zs.length<=sizeLine/\Q .non (upd H l (.lst (xs++zs)))
def zm5:PX X "list.extend" vG:=by
 intro Z9 s U H x vs v us Q I rx rv h;obtain⟨l,b,xs,zs,rfl,rfl,hH,hB,hz,q⟩:=h;cases rx;obtain⟨u,rfl,ru⟩:=rv.one;cases ru;obtain⟨z,its,n,r,hl,e⟩:=I.lstM hH;obtain⟨z2,its2,n2,r2,hl2,e2⟩:=I.lstM hB;have hsz:its.toArray.size+its2.toArray.size<=sizeLine:=by rw[qk,qk];lia
 have hlong:¬ (!its.toArray.isEmpty&&Builtin.List.listTooLong (its.toArray.size+its2.toArray.size))=true:=by rw[uK hsz,SQ];exact qo
 refine call_meets F.slot_list_extend ⟨_,e,rfl⟩ F.entry_list_extend (F.args_list_extend_2 _ _)
  (AutoSeq1.list_extend_list_list_0 l its.toArray n b its2.toArray n2 hlong (by rw[qk];lia) (by lia)) ⟨e,e2,?_⟩
 refine⟨.non,_,I.lset (its':=its++its2) hH e (by simp) (r.append r2) ?_,rfl,q⟩;rw[qf];lia
def δ:V->List V->Hp->VK->Prop:=fun x vs H Q=>∃ l xs i k y,x=.ref l/\vs=[.int i]/\H l=some (.lst xs)/\-(2 ^ 63)<=i/\i<2 ^ 63/\seqIndex? i xs.length=some k/\xs[k]?=some y/\Q y (upd H l (.lst (xs.eraseIdx k)))
def lU:PX X "list.pop" δ:=by
 intro Z9 s U H x vs v us Q I rx rv h;obtain⟨l,xs,i,k,y,rfl,rfl,hH,h1,h2,hk,hy,q⟩:=h;cases rx;obtain⟨u,rfl,ru⟩:=rv.one;obtain⟨t,rfl⟩:=ru;obtain⟨z,its,n,r,hl,e⟩:=I.lstM hH;obtain⟨w,hw,rw'⟩:=r.get hy
 refine call_meets F.slot_list_pop ⟨_,e,rfl⟩ F.entry_list_pop (F.args_list_pop_2 _ _)
  (MeetsSeq.list_pop_at l its.toArray n i t k w (fitsIndex_both h1 h2) (by rw[qk,<- hl];exact hk) (by rw[<- Dc];exact hw) (by rw[qk];lia)) ⟨e,?_⟩
 refine⟨y,_,I.lset (its':=its.eraseIdx k) hH e ?_ (r.eraseIdx k) ?_,rw',q⟩
 ·show its.toArray.eraseIdxIfInBounds k=(its.eraseIdx k).toArray;rw[List.eraseIdxIfInBounds_toArray]
 ·have:=uO xs k;lia
end
section
variable {prog:Program}{w:World}{A:Around}{E:Value->Shared->Prop}{s:Shared}
end
section
variable {X:Cx}
end
end L2
namespace Att
open PySem PySem.W PySem.Calls PyProof.Rows
def zgV {P:Params}{h:Heap}:∀ (ns:List Int) (vs:List Value),WellAll P h vs (ns.map WData.int)->IntsAre vs ns:=by
 intro ns
 induction ns with
 |nil =>intro vs w;rw[QD]at w;cases w;exact .nil
 |cons n ns ih =>
  intro vs w;rw[qO]at w;cases w with
  |cons a b =>cases a;exact .cons _ _ (ih _ b)
def lR {l:OpenLaw}{n:Nat}(hn:l.most=some n){args:List WData}(hpre:l.row.toRowW.claim.pre args=true)(hwl:WellAll P h vals args) :
  ∃ a vs ns,vals=[Value.ref a]/\args=[WData.list (ns.map WData.int)]/\h.get? a=some { cls:=.type "list",data:=.seq vs.toArray }/\IntsAre vs ns/\ns.length<=n:=by
 have hsh:WShape.hasAll [] args [.list .int]=true:=(pre_splitW hpre).1;have hc:l.pre.holds [] { args:=args }=true:=(pre_splitW hpre).2;obtain⟨d,r,rfl,h1,h2⟩:=hasAllW_cons hsh;obtain rfl:=hasAllW_nil h2;obtain⟨xs,rfl,h3⟩:=hasW_list h1;obtain⟨ns,rfl⟩:=items_int h3
 have hlen:ns.length<=n:=by
  unfold OpenLaw.pre at hc
  have h4:(WTm.not (.lt (.lit (.int (n:Int))) (.len (.arg 0)))).holds [] { args:=[.list (ns.map .int)] }=true:=by have h4:=(holds_andW hc).1;rw[hn]at h4;exact h4
  have h5:=condW_of h4 (w_not (w_lt w_lit (w_len_list (w_arg rfl))));rw[qa]at h5;refine Rc fun q=>?_
  have q':(n:Int)<((ns.length:Nat):Int):=by lia
  first
   |(rw[decide_eq_true q']at h5;exact absurd h5 (by decide))
   |(simp at h5;lia)
 cases hwl with
 |cons w1 w2 =>
  cases w2;cases w1 with
  |list ho hall=>exact⟨_,_,ns,rfl,rfl,ho,zgV ns _ hall,hlen⟩
def fQ (l:OpenLaw)(args:List WData):l.row.toRowW.claim.post args (.bool true) args=true :=
 postW_of (r:=l.row.toRowW) (X:=(true==true))
  (show WShape.has [] (.bool true) .bool=true by first|rfl|decide|simp[WShape.has,WShape.arms,WShape.armsAll])
  (show(WTm.eq .res (.lit (.bool true))).value [] { args:=args,res:=some (.bool true),after:=args }=some (.bool (true==true))from w_eq_bool (w_res rfl) w_lit) rfl
section
variable {prog:Program}{w:World}{A:Around}{E:Value->Shared->Prop}{s:Shared}{K:Frag}
end
end Att
namespace L2
open PySem PySem.Spec PyProof.Rows
theorem n8:∀ {vs:List Value} {ns:List Int},IntsAre vs ns->Vals (ns.map V.int) vs
 |_,_,.nil=>.nil
 |_,_,.cons n t h=>.cons ⟨t,rfl⟩ (n8 h)
def Only (H:Hp):Prop:=∀ b,H b=none\/∃ o xs,H b=some (.frz o (.lst xs))
def kZ {P:Program}{w:World}{K:PySem.W.Frag}{mg mb:Str->Option Value}{CX:V7}{k:Nat}{fa a:Addr}{fd:FuncData}{x:Str}{sp:Sp}{s₁:Shared}{vs:List Value}(KX:K.In s₁.heap)(hns:s₁.heap.Ns mainGlobals mg)(hb:s₁.heap.Ns builtinsNs mb)(hbb:∀ x:Str,x≠"__name__"->mb x=bootBuiltins x)(hlim:s₁.heap.NoLimit)(hg:s₁.gens=#[])(ha:s₁.heap.get? a=some { cls:=.type "list",data:=.seq vs.toArray })(hi:IntsAre vs ns)(hl:ns.length<=sizeLine)(hr:zO k callerA)(F:∀ base:Heap,K.In base->base.Ns mainGlobals mg->YT P w K mg base CX k fa fd [x] sp)(hbind:∀ (s:Shared) (u:Value),BindsTo s fd ⟨[u],[]⟩ [(x,u)])(hsp:∀ H:Hp,Only H->ZC K H a (ns.map V.int)->sp [.ref a] H (fun v _=>v=.bl true) fun _ _ _=>False)(hCX:∀ H e s',CX [] H s₁ (fun _ _ _=>False) e s'->False) :
  codeAny (model P w) callerA (.call (.ref fa) ⟨[.ref a],[]⟩) (fun r s'=>r=.ok (.ret (.bool true))/\OldK s₁.heap s'.heap/\s'.os=s₁.os/\AllBare s'.gens) s₁:=by
 have rv:=n8 hi;have lenV:=hi.length
 have core:∀ H:Hp,Only H->ZC K H a (ns.map V.int)->ZD P w H s₁.heap->(∀ b,H b≠none->b=a)->(H a≠none->K.lookup a=none) ->
   codeAny (model P w) callerA (.call (.ref fa) ⟨[.ref a],[]⟩) (fun r s'=>r=.ok (.ret (.bool true))/\OldK s₁.heap s'.heap/\s'.os=s₁.os/\AllBare s'.gens) s₁:=by
  intro H hO hS hok hA hK;have base_of:∀ {b:Addr} {o:Obj},s₁.heap.get? b=some o->H b=none->(Uc s₁.heap H).get? b=some o:=fun e n=>zpm e n
  have noA:∀ {b:Addr} {o:Obj} {es:Array DictEntry} {ep:Nat},s₁.heap.get? b=some o->o.data=.dict es ep->H b=none:=fun {b o es ep} e d=>by
   cases q:H b with
   |none=>rfl
   |some u =>have e':b=a:=hA b (by rw[q];simp);subst e';rw[ha]at e;cases e;have d':Data.seq vs.toArray _=Data.dict es ep:=d;cases d'
  have nsK:∀ {b:Addr} {m:Str->Option Value},s₁.heap.Ns b m->(Uc s₁.heap H).Ns b m:=fun {b m} ⟨o,es,ep,e,d,r⟩=>⟨o,es,ep,base_of e (noA e d),d,r⟩
  have hKb:K.In (Uc s₁.heap H):=fun b o e=>base_of (KX b o e) (by
   cases q:H b with
   |none=>rfl
   |some u =>have e':b=a:=hA b (by rw[q];simp);subst e';rw[hK (by rw[q];simp)]at e;cases e)
  have hM:Mod K mg (Uc s₁.heap H):=⟨hKb,nsK hns,⟨mb,nsK hb,hbb⟩,by obtain⟨mc,h1,h2⟩:=hlim;exact⟨mc,nsK h1,h2⟩⟩
  have e0:Rx P w K mg (Uc s₁.heap H) callerA [] s₁ H:=⟨rfl,hM,fun b o e=>zsh e,Nat.le_of_eq (zl4 _ _),trivial,fun b hb=>absurd (show b∈([]:List Addr)from hb) (by simp),hok,.of_eq hg⟩
  refine codeAny_mono ((F _ hKb (nsK hns)).run callerA [] s₁ H ⟨[.ref a],[]⟩ [.ref a] [.ref a] _ _ hr e0 (hbind s₁ (.ref a)) (.cons rfl .nil) (hsp H hO hS)) fun r s' h=>?_
  cases r with
  |error e=>exact(hCX H e s' h).elim
  |ok fl =>
   cases fl with
   |next=>exact False.elim h
   |brk=>exact False.elim h
   |cont=>exact False.elim h
   |ret u =>
    obtain⟨v,H',os,bare,un,hok',r',q⟩:=h;have q':v=.bl true:=q;subst q';obtain rfl:u=Value.bool true:=r';refine⟨rfl,OldK.of_keep fun b o e=>?_,os,bare⟩;cases q:H b with
    |none=>exact un.keep b o e q (by intro z;exact absurd (show b∈([]:List Addr)from z) (by simp)) (by simp)
    |some u =>
     rcases hO b with z|⟨ob,xs,z⟩
     ·rw[q]at z;cases z
     ·have z2:=un.frzs b ob _ z;obtain⟨e1,_⟩:=hok b _ z;obtain⟨e2,_⟩:=hok' b _ z2;rw[e]at e1;cases e1;exact e2
 cases hk:K.lookup a with
 |some o =>have e:=KX a o hk;rw[ha]at e;cases e;refine core (fun _=>none) (fun _=>.inl rfl) (.inr ⟨_,vs.toArray,_,hk,rfl,rfl,rfl,by rw[qk,lenV];exact hl,by simpa using rv⟩) (fun b u z=>by have z':(none:Option HO)=some u:=z;cases z') (fun b z=>absurd rfl z) fun z=>absurd rfl z
 |none =>
  refine core (fun b=>if b=a then some (.frz { cls:=.type "list",data:=.seq vs.toArray } (.lst (ns.map V.int)))else none) (fun b=>?_) (.inl (.inr ⟨{ cls:=.type "list",data:=.seq vs.toArray },if_pos rfl⟩)) (fun b u z=>?_) (fun b z=>?_) fun _=>hk
  ·by_cases hb:b=a
   ·exact .inr ⟨_,_,if_pos hb⟩
   ·exact .inl (if_neg hb)
  ·by_cases hb:b=a
   ·have z':=(if_pos hb).symm.trans z;cases z';subst hb;exact⟨ha,by rw[qa];exact hl,vs,_,rv,ha⟩
   ·have z':=(if_neg hb).symm.trans z;cases z'
  ·by_cases hb:b=a
   ·exact hb
   ·exact absurd (if_neg hb) z
def inClass (s:Stmt)(j:Nat):Stmt:=match s with
 |.ClassDef _ _ _ body _ _ _ _ _ _ _=>body.getD j (.Pass ⟨0,0,0,0⟩)
 |_=>.Pass ⟨0,0,0,0⟩
def Xj (s:Stmt):Arguments:=match s with
 |.FunctionDef _ a _ _ _ _ _ _ _ _=>a
 |_=>{ posonlyargs:=[],args:=[],vararg:=none,kwonlyargs:=[],kw_defaults:=[],kwarg:=none,defaults:=[] }
def XC (s:Stmt):List Stmt:=match s with
 |.FunctionDef _ _ b _ _ _ _ _ _ _=>b
 |_=>[]
def zH (s:Stmt):Scope:=match s with
 |.FunctionDef _ _ _ _ _ _ sc _ _ _=>sc
 |_=>{ kind:=.function,names:=[],isGenerator:=false,isCoroutine:=false }
abbrev Wn:V7:=fun _ _ _ _ _ _=>False
abbrev E0:XK:=fun _ _ _=>False
def uM {X:Cx}:Passes Wn X E0:=fun _ _ _ _ _ _ _ h=>h.elim
structure Xc (K:PySem.W.Frag)(x qual:Str)(st:Stmt)(f:Addr)(fd:FuncData):Prop where
 ex:∃ (oc:Value) (od:Option Addr) (kV doc pm:Value) (an:Option Addr) (cdv ct:Value) (osl:Array (Option Value)),
  fd=PySem.W.fnOf x qual (Xj st) (XC st) (zH st) .none kV doc pm an cdv ct/\K.lookup f=some ⟨oc,od,.func fd,osl⟩/\PySem.W.codeIn K cdv qual=true
 kp:PySem.W.keepIn K (.ref f)=true
section
variable {P:Program}{w:World}{K:PySem.W.Frag}{mg:Str->Option Value}{base:Heap}
def Xc.ok {st:Stmt}{k:Nat}{sp:Sp}(F:Xc K x qual st f fd)(S:Pk N ps (zH st))(len:∀ vs H Q E,sp vs H Q E->vs.length=ps.length)(hbody:∀ (cdv:Value) (A:Around) (outer:List Env) (s:Shared) (H:Hp) (vs:List V) (Q:VK) (E:XK),zO k (A.deeper (envOfC qual (zH st) s.heap.objs.size f cdv))->sp vs H Q E ->
   ∃ t,XS (Vx Wn P w K mg base N qual (zH st) f cdv A outer s H E).nox (XC st) t/\t { nx:=fun _ H'=>Q .non H',rt:=Q } (start N vs) H):YT P w K mg base Wn (k+1) f fd ps sp:=by
 obtain⟨oc,od,kV,doc,pm,an,cdv,ct,osl,rfl,lk,hcd⟩:=F.ex;refine yr lk hcd S len fun A outer s H vs Q E hr hsp=>?_
 obtain⟨t,h,q⟩:=hbody cdv A outer s H vs Q E hr hsp;exact⟨t,h.nox,q⟩
def Xc.binds {st:Stmt}{ps:List Str}(F:Xc K x qual st f fd)(h:∀ (kV doc pm:Value) (an:Option Addr) (cdv ct:Value) (us:List Value),us.length=ps.length->bindArgs (PySem.W.fnOf x qual (Xj st) (XC st) (zH st) .none kV doc pm an cdv ct) ⟨us,[]⟩=pure (ps.zip us)):Binds K fd ps []:=by obtain⟨oc,od,kV,doc,pm,an,cdv,ct,osl,rfl,lk,hcd⟩:=F.ex;exact .all (h kV doc pm an cdv ct)
def uX {x qual:Str}{st:Stmt}{oc:Value}{od an:Option Addr}{osl:Array (Option Value)}{kV doc pm cdv ct:Value}(l:K.lookup f=some ⟨oc,od,.func (PySem.W.fnOf x qual (Xj st) (XC st) (zH st) .none kV doc pm an cdv ct),osl⟩)(c:PySem.W.codeIn K cdv qual=true)(k:PySem.W.keepIn K (.ref f)=true):Xc K x qual st f (PySem.W.fnOf x qual (Xj st) (XC st) (zH st) .none kV doc pm an cdv ct):=⟨⟨oc,od,kV,doc,pm,an,cdv,ct,osl,rfl,l,c⟩,k⟩
end
def Ud {k:Nat}(hr:zO k A):A.units+2<cLine:=Nat.lt_of_le_of_lt (Nat.add_le_add_left (by decide:2<=64) _) hr.units
section
variable {X:Cx}
end
end L2
namespace My
def Bd (n:Nat)(x:Int):Prop:=x.natAbs<2 ^ n
def Bd.mono {n:Nat}(h:Bd m x)(hmn:m<=n):Bd n x:=qE h (Nat.pow_le_pow_right (by decide) hmn)
def Bd.add {n:Nat}(h:Bd n x)(h':Bd n y):Bd (n+1) (x+y) :=Nat.lt_of_le_of_lt (Int.natAbs_add_le x y) (by rw[Nat.pow_succ,Nat.mul_two];exact Nat.add_lt_add h h')
def Bd.neg {n:Nat}(h:Bd n x):Bd n (-x):=by unfold Bd;rw[Oe];exact h
def Bd.sub {n:Nat}(h:Bd n x)(h':Bd n y):Bd (n+1) (x-y):=by rw[Int.sub_eq_add_neg];exact h.add h'.neg
def Bd.mul {n:Nat}(h:Bd m x)(h':Bd n y):Bd (m+n) (x*y):=by unfold Bd at *;rw[Int.natAbs_mul,Nat.pow_add];exact Nat.mul_lt_mul'' h h'
def Bd.of_le {n:Nat}{x:Int}(h:Bd n y)(h':x.natAbs<=y.natAbs):Bd n x:=Nat.lt_of_le_of_lt h' h
def Bd.dvd {n:Nat}{x:Int}(h:Bd n y)(h0:y≠0)(d:x ∣ y):Bd n x :=h.of_le (Nat.le_of_dvd (by lia) (Int.natAbs_dvd_natAbs.mpr d))
theorem Bd.fdiv {n:Nat}{y:Int}(h:Bd n x):Bd n (x.fdiv y):=h.of_le (Int.natAbs_fdiv_le_natAbs x y)
def Bd.lit {n:Nat}{x:Int}(h:x.natAbs<2 ^ 200)(hn:200<=n):Bd n x:=Bd.mono (m:=200) h hn
def jB (a b:Int):Int.gcd b (a.fmod b)=Int.gcd a b:=by
 have e:a.fmod b=a-b*a.fdiv b:=by have:=Int.mul_fdiv_add_fmod a b;lia
 rw[e,Int.gcd_sub_mul_left_right,Int.gcd_comm]
def yI {a b:Int}(h0:0<=a)(h:a<b):a.natAbs<b.natAbs:=by refine Int.ofNat_lt.mp ?_;rw[J6 h0,J6 (QW (Int.lt_of_le_of_lt h0 h))];exact h
def eZ {a b:Int}(h:b≠0):(a.fmod b).natAbs<b.natAbs:=by
 rcases Int.lt_or_gt_of_ne h with h1|h1
 ·have e:(-(-a)).fmod (-(-b))=-((-a).fmod (-b)):=Int.neg_fmod_neg (-a) (-b);rw[Vi,Vi]at e;have h2:=yI (Int.fmod_nonneg_of_pos (-a) (Int.neg_pos_of_neg h1)) (Int.fmod_lt_of_pos (-a) (Int.neg_pos_of_neg h1));rw[e,Oe];rwa[Oe b]at h2
 ·exact yI (Int.fmod_nonneg_of_pos a h1) (Int.fmod_lt_of_pos a h1)
def gd (t b:Int):Int:=if b<0 then -((Int.gcd t b:Nat):Int)else((Int.gcd t b:Nat):Int)
def Vz (t b:Int):Int:=t.fdiv (gd t b)
def frB (t b:Int):Int:=b.fdiv (gd t b)
def oJ {t b:Int}(h:b≠0):gd t b≠0:=by
  have:Int.gcd t b≠0:=fun e=>h (Int.gcd_eq_zero_iff.mp e).2
  unfold gd;split<;>lia
def ϟ (t b:Int):gd t b ∣ t:=by
 unfold gd;split
 ·exact Int.neg_dvd.mpr (Int.gcd_dvd_left ..)
 ·exact Int.gcd_dvd_left ..
def vd (t b:Int):gd t b ∣ b:=by
 unfold gd;split
 ·exact Int.neg_dvd.mpr (Int.gcd_dvd_right ..)
 ·exact Int.gcd_dvd_right ..
def Av (t b:Int):Vz t b*gd t b=t:=Int.fdiv_mul_cancel (ϟ t b)
def BP (t b:Int):frB t b*gd t b=b:=Int.fdiv_mul_cancel (vd t b)
def j8 (t b:Int):Vz t b*b=frB t b*t:=by have h1:=Av t b;have h2:=BP t b;generalize Vz t b=x at *;generalize frB t b=y at *;generalize gd t b=g at *;subst h1 h2;rw[Wy y g,<- Int.mul_assoc,Wy (x*g) y]
def Ū {t b:Int}(h:b≠0):1<=frB t b:=by
  have h2:=BP t b;have h3:gd t b≠0:=oJ h
  have h4:0<b->0<gd t b:=by intro hb;unfold gd at *;split<;>lia
  have h5:b<0->gd t b<0:=by intro hb;unfold gd at *;split<;>lia
  generalize frB t b=y at *;generalize gd t b=g at *;rcases Int.lt_or_gt_of_ne h with hb|hb
  . have hg:=h5 hb;rcases Int.lt_or_le y 1 with hy|hy
    . have:0<=y*g:=Int.mul_nonneg_of_nonpos_of_nonpos (by lia) (by lia);lia
    . exact hy
  . have hg:=h4 hb;rcases Int.lt_or_le y 1 with hy|hy
    . have:y*g<=0:=Int.mul_nonpos_of_nonpos_of_nonneg (by lia) (by lia);lia
    . exact hy
def mG {t b:Int}(h:b≠0):Int.gcd (Vz t b) (frB t b)=1:=by
  have h0:0<Int.gcd t b:=Nat.pos_of_ne_zero fun e=>h (Int.gcd_eq_zero_iff.mp e).2
  have h1:=Av t b;have h2:=BP t b;have e:Int.gcd (Vz t b*gd t b) (frB t b*gd t b)=Int.gcd (Vz t b) (frB t b)*(gd t b).natAbs:=Int.gcd_mul_right ..;rw[h1,h2]at e;have e2:(gd t b).natAbs=Int.gcd t b:=by unfold gd;split<;>lia
  rw[e2]at e;exact Nat.eq_of_mul_eq_mul_right h0 (by lia)
def cB {n:Nat}{t b:Int}(h:b≠0)(hb:Bd n b):Bd n (gd t b):=hb.dvd h (vd t b)
def gD {n:Nat}{t:Int}(hb:Bd n b):Bd n (frB t b):=hb.fdiv
def aN {n:Nat}{t b:Int}(hb:Bd n t):Bd n (Vz t b):=hb.fdiv
open PySem PySem.Spec PyProof.Rows L2
def Ğ (_ j:Int):Prop:=j≠0/\Bd 8000 j
def ig (_ j:Int):Prop:=j≠0
def uT (h:Bd 8000 j):j.natAbs.log2<9000:=by
 rcases Nat.eq_zero_or_pos j.natAbs with e|e
 ·rw[e];decide
 ·have:j.natAbs.log2<8000:=(Nat.log2_lt (Wt e)).mpr h;lia
def vJ (h:Bd 8000 j):Builtin.Int.intBits j<=2 ^ 20:=by
 unfold Builtin.Int.intBits;split
 ·exact qY _
 ·have:=uT h;lia
section
variable {X:Cx}
def š:ZL X (binaryOp .FloorDiv) (rI Ğ fun i j=>.int (i.fdiv j)):=Oq fun _ _ _ _ _ _ _ hc q=>floordiv_int hc.1 q (.inl (PyProof.noPylong_of_log2 (uT hc.2)))
def iK:ZL X (binaryOp .Mod) (rI ig fun i j=>.int (i.fmod j)):=à
def wV (g:Bool->Bool->V):R2:=fun x y H Q=>∃ i j,x=.bl i/\y=.bl j/\Q (g i j) H
def cM {i j:Int}{a b:Nat}{p1 p2 pos:Pos}(c:Int)(h:i ^ j.toNat=c)(h0:0<=j/\j<=1000000/\i.natAbs<2 ^ 64):PE X (.BinOp (.Constant (.int i) a p1) .Pow (.Constant (.int j) b p2) pos) (tC (.int c)):=by intro Z9 s U H Q I q;have q':Q (.int c) H:=q;rw[<- h]at q';exact oA ztO Cq Cq Z9 s U H Q I ⟨i,j,rfl,rfl,h0,q'⟩
def Ó:List V->Hp->VK->Prop:=fun xs H Q=>∃ i,xs=[.int i]/\Q (.int (i.natAbs:Int)) H
def znB:YM X (.builtin "abs") Ó:=fun Z9 s U H xs us Q I r h=>by
  obtain⟨i,e,q⟩:=h;refine zpg Z9 s U H xs us Q I r ⟨i,e,?_⟩;have:(if i<0 then -i else i)=(i.natAbs:Int):=by split<;>lia
  rw[this];exact q
def zx5 (K:PySem.W.Frag):List V->Hp->VK->Prop:=fun xs H Q=>∃ p ys,xs=[.ref p]/\(ZC K H p ys\/ZQ K H p ys)/\Q (.int ys.length) H
def jF:YM X (.builtin "len") (zx5 X.K):=ziv
def m8 (K:PySem.W.Frag):List V->Hp->VK->Prop:=fun xs H Q=>∃ p ys,xs=[.ref p]/\(ZC K H p ys\/ZQ K H p ys)/\∀ l,H l=none->Q (.ref l) (upd H l (.lst ys))
def Î:YM X (.type "list") (m8 X.K):=eO
def ź:List V->Hp->VK->Prop:=fun xs H Q=>∃ i j,xs=[.int i,.int j]/\Q (.int (if j > i then j else i)) H
def ò (hc:X.calm=true):YM X (.builtin "max") ź:=znz hc
def zxD:List V->Hp->VK->Prop:=fun xs H Q=>∃ i j,xs=[.int i,.int j]/\Q (.int (if j<i then j else i)) H
def znc (hc:X.calm=true):YM X (.builtin "min") zxD:=zmw hc
def ϯ {T:String}{pos:Pos}(hg:Gl X x)(hm:X.mg x=none)(hv:bootBuiltins x=some (.type T))(hn:autoParam (x≠"__name__") zQ)(hd:autoParam ((x==("__debug__":Str))=false) zQ):PE X (.Name x pos) (tC (.ty T)):=ι (v:=.ty T) hg hm hv rfl hn hd
def zyW (K:PySem.W.Frag):List V->Hp->VK->Prop:=fun xs H Q=>∃ x c t b,xs=[x,.ty c]/\W4 K H x t/\PySem.W.kitOne K t (.type c)=some b/\Q (.bl b) H
def znN:YM X (.builtin "isinstance") (zyW X.K):=fun Z9 s U H xs us Q I r h=>by obtain⟨x,c,t,b,rfl,ty,e,q⟩:=h;obtain⟨u,w',rfl,ru,rw'⟩:=vals2 r;cases rw';exact zmn I ru ty e fun tk=>⟨.bl b,H,I.tok _,rfl,q⟩
end
section
variable {X:Cx}{K:PySem.W.Frag}
end
structure Got (P:Program)(w:World)(K:PySem.W.Frag)(mg:Str->Option Value)(base:Heap)(k:Nat)(x:Str)(ps:List Str)(sp:Sp):Prop where
 ex:∃ f fd,YT P w K mg base Wn k f fd ps sp/\Binds K fd ps []/\PySem.W.keepIn K (.ref f)=true/\mg x=some (.ref f)
def zsp {X:Cx}{k:Nat}{sp:Sp}{p pos:Pos}{e:Expr}{es:List Expr}{t:TA}(G:Got X.prog X.w X.K X.mg X.base k x ps sp)(hr:zO j X.A)(hk:k<=j)(hg:Gl X x)(ha:PA X (e::es) t)(hdb:autoParam ((x==("__debug__":Str))=false) zQ)(he:autoParam (starEach (e::es) X.env=(false,eval e X.env)::starEach es X.env) zy)(hpl:autoParam ((backTo pos (starEach es X.env)).any (·.1)=false) zy) :
  PE X (.Call (.Name x p) (e::es) [] pos) (GZ sp [] E0 t):=by
 intro Z9 s U H Q I h;obtain⟨f,fd,F,b,kp,m⟩:=G.ex;exact zqR (F.mono hk) hr hg m kp b .nil uM ha hdb he hpl Z9 s U H Q I h
section
variable {nx:L2.St->Hp->Prop}{rt:VK}{bk ct:L2.St->Hp->Prop}{U:L2.St}{H:Hp}{K:PySem.W.Frag}
end
section
variable {U:L2.St}{H:Hp}{K:PySem.W.Frag}
def zyy:R2:=fun x y H Q=>y=.non/\Q (.bl (decide (x=.non))) H
def zwN:R2:=fun x y H Q=>y=.non/\Q (.bl (!decide (x=.non))) H
def zwW {X:Cx}:ZL X (compareOp .Is) zyy:=jC
def gP {X:Cx}:ZL X (compareOp .IsNot) zwN:=zrv
end
def Vv {H:Hp}{o u:HO}(hp:H p=none)(h:H b=some u):upd H p o b=some u:=by rw[zu (Ut h hp)];exact h
theorem je {prog:Program}{w:World}{A:Around}{R:Result->Shared->Prop}{s:Shared}{elt target iter:Expr}{ifs:List Expr}{scope:Scope}{pos:Pos}{it acc:Value}{env:Env}(I:Nat->Shared->Prop)
  (turn:∀ n s,I n s->wpAny (model prog w) A (pyNext it) (fun r s₁=>match r with
   |none=>R (.ok .next) s₁
   |some v=>wpAny (model prog w) A (letOwnedTupleGo target it v) (fun _ s₁'=>wpAny (model prog w) A (assign target env v) (fun _ s₂ =>
     wpAny (model prog w) A (forIn ifs true fun c r=>if r=true then do let ok <- isTrue c env (eval c env);pure (ForInStep.yield ok)else pure (ForInStep.yield r)) (fun ok s₃ =>
      if ok=true then wpAny (model prog w) A (eval elt env) (fun x s₄ =>wpAny (model prog w) A (call (.builtin "list.append") [acc,x]) (fun _ s₅=>∃ m,m<n/\I m s₅) (fun _ _=>False) s₄) (fun _ _=>False) s₃
      else ∃ m,m<n/\I m s₃) (fun _ _=>False) s₂) (fun _ _=>False) s₁') (fun _ _=>False) s₁) (fun _ _=>False) s)
  (n:Nat) (h:I n s):codeAny (model prog w) A (.compLoop (.ListComp elt [⟨target,iter,ifs,0⟩] scope pos) 0 it acc env) R s:=by
 refine codeAny_loop rfl I (fun n s hI=>?_) n h;show wpAny _ A ((compTurn (.ListComp elt [⟨target,iter,ifs,0⟩] scope pos) 0 it acc env).onRaise (fun x=>do noteFrame x env;theTreesLotGoes x)) _ _ s;refine wpAny_noted ?_;rw[compTurn_list];refine wpAny_bind (wpAny_standAt (wpAny_bind (wpAny_mono (turn n s hI) (fun r s₁ h₁=>?_) fun _ _ h'=>h'.elim)));cases r with
 |none=>exact wpAny_pure h₁
 |some v =>
  refine wpAny_bind (wpAny_mono h₁ (fun _ s₁' h₁'=>?_) fun _ _ h'=>h'.elim);refine wpAny_bind (wpAny_mono h₁' (fun _ s₂ h₂=>wpAny_bind (wpAny_mono h₂ (fun ok s₃ h₃=>?_) fun _ _ h'=>h'.elim)) fun _ _ h'=>h'.elim);cases ok with
  |false=>exact wpAny_pure ⟨rfl,h₃⟩
  |true =>exact wpAny_bind (wpAny_bind (wpAny_mono h₃ (fun x s₄ h₄=>wpAny_bind (wpAny_mono h₄ (fun _ s₅ h₅=>wpAny_pure (wpAny_pure ⟨rfl,h₅⟩)) fun _ _ h'=>h'.elim)) fun _ _ h'=>h'.elim))
def inner (X:Cx)(sc:Scope)(N:List Str)(cl:List (Str×Addr))(C:Addr)(s₀:Shared)(H₀:Hp)(ex:List Addr):Cx :={ X with N:=N,s₀:=s₀,H₀:=H₀,env:=compEnvC sc cl C X.env,outer:=X.stack,ex:=ex,fn:=fun x=>sc.names.lookup x==some .cell,pn:=[] }
def QL (X:Cx)(ifs:List Expr)(t:TT):Prop :=
 ∀ (Z9:List (Addr×Obj)) (s:Shared) (U:L2.St) (H:Hp) (Q:Bool->Hp->Prop),Inv X Z9 U H s->t U H Q ->
  wpAny (model X.prog X.w) X.A (forIn ifs true fun c r=>if r=true then do let ok <- isTrue c X.env (eval c X.env);pure (ForInStep.yield ok)else pure (ForInStep.yield r)) (TP X Z9 U Q) X.xe s
def iI:TT:=fun _ H Q=>Q true H
def Œ {X:Cx}:QL X [] iI:=fun _ _ _ H _ I h=>wpAny_tests_nil ⟨H,I,h⟩
def zvu {t:TT}(h:PT X c t):QL X [c] t:=fun Z9 s U H Q I q=>wpAny_tests_one (h Z9 s U H Q I q)
def Vs (X:Cx)(sc:Scope):List Str->List Nat->Prop
 |[],[]=>True
 |x::xs,j::js=>X.N[j]?=some x/\sc.names.lookup x=some .free/\X.env.kindOf x=some .cell/\Vs X sc xs js
 |_,_=>False
def WQ (P:Str->Prop):List (Str×NameKind)->Prop
 |[]=>True
 |(n,.free)::r=>P n/\WQ P r
 |_::r=>WQ P r
theorem WQ.of {P:Str->Prop}:∀ {l:List (Str×NameKind)},WQ P l->∀ y∈l,y.2=.free->P y.1
  |(n,k)::r,h,y,hy,e=>by
    rcases qu.mp hy with rfl|hy
    . dsimp only at e;subst e;exact h.1
    . refine WQ.of (l:=r) ?_ y hy e;cases k<;>first|exact h.2|exact h
def cst (own:List Str)(fv:List Nat)(U:L2.St):L2.St:=List.replicate own.length none++fv.map fun j=>(U[j]?).join
def XM:L2.St->L2.St->Prop
 |[],[]=>True
 |none::r,_::s=>XM r s
 |some v::r,some w::s=>v=w/\XM r s
 |_,_=>False
theorem XM.len:∀ {a b:L2.St},XM a b->b.length=a.length
  |[],[],_=>rfl
  |none::r,_::s,h=>congrArg (· + 1) (XM.len (a:=r) (b:=s) h)
  |some v::r,some w::s,h=>congrArg (· + 1) (XM.len (a:=r) (b:=s) h.2)
theorem XM.get:∀ {a b:L2.St},XM a b->∀ (i:Nat) (v:V),a[i]?=some (some v)->b[i]?=some (some v)
 |none::r,_::s,h,i,v,e=>by
  cases i with
  |zero=>simp at e
  |succ i=>simpa using XM.get (a:=r) (b:=s) h i v (by simpa using e)
 |some v'::r,some w::s,h,i,v,e=>by
  cases i with
  |zero=>simp at e;subst e;simp[h.1]
  |succ i=>simpa using XM.get (a:=r) (b:=s) h.2 i v (by simpa using e)
def GJ (own:List Str)(fv:List Nat)(wi:TI)(g:TG)(tc:TT)(te:TE):TE:=fun U H Q=>wi U H fun J H1=>∀ p,H1 p=none ->
 ∃ W:Nat->Nat->Hp->Prop,(∃ m,W 0 m (upd H1 p (.lst [])))/\∀ i m H2,W i m H2 ->
  (J.stop i H2/\Q (.ref p) H2)\/(J.go i H2/\∀ x H',J.yld i H2 x H'->g x (cst own fv U) H' fun σ2 H3=>XM (cst own fv U) σ2/\tc σ2 H3 fun b H4 =>
   if b=true then te σ2 H4 fun y H5=>∃ ys,H5 p=some (.lst ys)/\ys.length<sizeLine/\∃ m',m'<m/\W (i+1) m' (upd H5 p (.lst (ys++[y])))
   else ∃ m',m'<m/\W (i+1) m' H4)
def Þ {env:Env}{n:Str}{c:Addr}(h:env.cells.lookup n=some c):cellOf env n=pure c:=by unfold cellOf;rw[h]
theorem Dn {env:Env}:∀ (names:List (Str×NameKind)) (cs:List (Str×Addr)),(∀ y∈names,y.2=.free->∃ c,env.cells.lookup y.1=some c)->(∀ x c,cs.lookup x=some c->env.cells.lookup x=some c) ->
    ∃ cl,(forIn names cs fun (x:Str×NameKind) (r:List (Str×Addr))=>if(x.2==NameKind.free)=true then do let a <- cellOf env x.1;pure (ForInStep.yield ((x.1,a)::r))else pure (ForInStep.yield r))=(pure cl:Sem (List (Str×Addr))) /\
      (∀ x c,cl.lookup x=some c->env.cells.lookup x=some c)/\(∀ x,(cs.lookup x).isSome=true->(cl.lookup x).isSome=true)/\∀ y∈names,y.2=.free->(cl.lookup y.1).isSome=true
  |[],cs,_,h2=>⟨cs,rfl,h2,fun _ h=>h,fun _ h=>nomatch h⟩
  |(n,k)::r,cs,h1,h2=>by
    rw[KC];by_cases hk:k=.free
    . subst hk;obtain⟨c,hc⟩:=h1 (n,.free) qN rfl
      obtain⟨cl,e,a1,a2,a3⟩:=Dn (env:=env) r ((n,c)::cs) (fun y hy=>h1 y (qi _ hy)) (fun x d hx=>by
        rw[qr]at hx;by_cases hxn:x=n
        . subst hxn;simp at hx;subst hx;exact hc
        . have:(x==n)=false:=by simpa using hxn
          rw[this]at hx;exact h2 x d hx)
      refine⟨cl,?_,a1,fun x hx=>a2 x ?_,fun y hy e'=>?_⟩
      . simp only[beq_self_eq_true,if_true,Þ hc];simpa using e
      . rw[qr];split<;>simp_all
      . rcases qu.mp hy with rfl|hy
        . exact a2 _ (by simp[qr])
        . exact a3 y hy e'
    . have hb:(k==NameKind.free)=false:=by simpa using hk
      obtain⟨cl,e,a1,a2,a3⟩:=Dn (env:=env) r cs (fun y hy=>h1 y (qi _ hy)) h2;refine⟨cl,?_,a1,a2,fun y hy e'=>?_⟩
      . simp only[hb,U9,if_false];simpa using e
      . rcases qu.mp hy with rfl|hy
        . exact absurd e' hk
        . exact a3 y hy e'
def ud {env:Env}{sc:Scope}(h:∀ y∈sc.names,y.2=.free->∃ c,env.cells.lookup y.1=some c) :
  ∃ cl,closureFor sc env=pure cl/\(∀ x c,cl.lookup x=some c->env.cells.lookup x=some c)/\∀ y∈sc.names,y.2=.free->(cl.lookup y.1).isSome=true:=by
 obtain⟨cl,e,a1,_,a3⟩:=Dn (env:=env) sc.names [] h (fun x c hx=>by simp at hx);refine⟨cl,?_,a1,a3⟩;unfold closureFor;have e2:=e
 first
  |exact e2
  |(show(do let cs <- forIn sc.names [] _;pure cs)=_;rw[show(forIn sc.names [] _:Sem (List (Str×Addr)))=pure cl from e2];rfl)
  |simpa using e2
theorem Fq {env:Env}{x:Str}:∀ {names:List (Str×NameKind)},(names.map fun (n,k)=>if(k==NameKind.free&&env.scope.kind==.function&&env.kindOf n==some .cell)then(n,NameKind.cell)else(n,k)).lookup x =
    (names.lookup x).map fun k=>if(k==NameKind.free&&env.scope.kind==.function&&env.kindOf x==some .cell)then NameKind.cell else k
  |[]=>rfl
  |(n,k)::r=>by
    have ih:=Fq (env:=env) (x:=x) (names:=r);rw[qO];by_cases hx:x=n
    . subst hx;dsimp only;split<;>simp_all [qr]
    . have hb:(x==n)=false:=by simpa using hx
      dsimp only;split<;>(rw[qr,qr,hb];exact ih)
theorem mem_of_lookup {β:Type}{x:Str}{k:β}:∀ {l:List (Str×β)},l.lookup x=some k->(x,k)∈l
 |(n,b)::r,h=>by
  rw[qr]at h;by_cases hx:x=n
  ·subst hx;simp at h;subst h;exact qN
  ·have hb:(x==n)=false:=by simpa using hx
   rw[hb]at h;exact qi _ (mem_of_lookup h)
theorem RQ:∀ (names:List (Str×NameKind)) (n:Nat) (acc:List (Str×Addr)),cellsFrom n names acc=cellsFrom n names []++acc
 |[],_,_=>rfl
 |(x,k)::r,n,acc=>by
  unfold cellsFrom;split
  ·rw[RQ r (n+1) ((x,n)::acc),RQ r (n+1) [(x,n)],qq];rfl
  ·exact RQ r n acc
theorem Fy:∀ {names:List (Str×NameKind)} {n:Nat} {x:Str} {c:Addr},(x,c)∈cellsFrom n names []->(x,NameKind.cell)∈names
 |(y,k)::r,n,x,c,h=>by
  unfold cellsFrom at h;split at h
  ·rename_i hk;rw[RQ]at h;rcases qC.mp h with h|h
   ·exact qi _ (Fy h)
   ·have e:(x,c)=(y,n):=by simpa using h
    cases e;rw[show k=NameKind.cell by simpa using hk];exact qN
  ·exact qi _ (Fy h)
theorem DW:∀ {names:List (Str×NameKind)} {n:Nat} {x:Str},(x,NameKind.cell)∈names->((cellsFrom n names []).lookup x).isSome=true
 |(y,k)::r,n,x,h=>by
  unfold cellsFrom;rcases qu.mp h with e|h
  ·cases e;rw[if_pos (by rfl),RQ,Ow];cases(cellsFrom (n+1) r []).lookup y with
   |some c=>rfl
   |none=>simp
  ·have ih:=DW (n:=n) h;have ih':=DW (n:=n+1) h;split
   ·rw[RQ,Ow];obtain⟨c,hc⟩:=Ov.mp ih';rw[hc];rfl
   ·exact ih
def jQ {M:Model}{A:Around}{E:Value->Shared->Prop}{s:Shared}{scope:Scope}{globals:Addr}{closure:List (Str×Addr)}{qual:Str}{func:Option Addr}{code:Value}{env:Env}{Q:Env->Shared->Prop}
    (hQ:Q (newEnv scope s.heap.objs.size globals (cellsFrom (s.heap.objs.size+1) scope.names closure) qual func code (some env) builtinsNs) { s with heap:=pushCells (s.heap.push { cls:=.type "dict",data:=.dict #[] }) scope.names }) :
    wpAny M A (newFunctionEnv scope globals closure [] qual func code (some env)) Q E s:=by
  simp only[newFunctionEnv,Option.isSome_some,if_true];refine wpAny_bind (wpAny_alloc ?_);refine wpAny_bind (wpAny_layCells _ (fun name kind cells=>by cases hkc:kind==NameKind.cell<;>simp[hkc]) _ _ _ _ ?_);rw[show({ s with heap:=s.heap.push { cls:=.type "dict",data:=.dict #[] } }:Shared).heap.objs.size=s.heap.objs.size+1 from W6 ..];rw[NK];exact wpAny_bind (wpAny_pure (wpAny_pure hQ))
section
variable {X:Cx}{sc:Scope}{tg iter elt:Expr}{ifs:List Expr}{own free:List Str}{fv:List Nat}{wi:TI}{g:TG}{tc:TT}{te:TE}{pos:Pos}
theorem oH {U:L2.St}:∀ {free:List Str} {fv:List Nat},Vs X sc free fv->∀ (k:Nat) (x:Str) (v:V),free[k]?=some x->(fv.map fun j=>(U[j]?).join)[k]?=some (some v) ->
  ∃ j:Nat,X.N[j]?=some x/\U[j]?=some (some v)/\sc.names.lookup x=some .free/\X.env.kindOf x=some .cell
 |x'::xs,j::js,h,k,x,v,e1,e2=>by
  cases k with
  |zero =>
   simp at e1 e2;subst e1;refine⟨j,h.1,?_,h.2.1,h.2.2.1⟩;cases q:U[j]? with
   |none=>rw[q]at e2;simp at e2
   |some o=>rw[q]at e2;simp at e2;rw[e2]
  |succ k=>exact oH (free:=xs) (fv:=js) h.2.2.2 k x v (by simpa using e1) (by simpa using e2)
 |[],[],_,k,x,v,e1,_=>by simp at e1
theorem uN:∀ {free:List Str} {fv:List Nat},Vs X sc free fv->fv.length=free.length
  |[],[],_=>rfl
  |_::_,_::_,h=>congrArg (· + 1) (uN h.2.2.2)
def xP {RR : Value → Addr → Result → Shared → Prop} (hcalm : X.calm = true) (hxe : X.xe = fun _ _ => False) (hkind : sc.kind = .function) (hcell : ∀ y ∈ sc.names, y.2 = .cell → sc.names.lookup y.1 = some .cell) (hfr : WQ (fun x => X.env.kindOf x = some .cell) sc.names) (hfv : Vs X sc free fv) (hg : ∀ cl C s₀ H₀ ex, PG (inner X sc (own ++ free) cl C s₀ H₀ ex) tg g) (ht : ∀ cl C s₀ H₀ ex, QL (inner X sc (own ++ free) cl C s₀ H₀ ex) ifs tc) (he : ∀ cl C s₀ H₀ ex, PE (inner X sc (own ++ free) cl C s₀ H₀ ex) elt te) {Q : VK} (I2 : Inv X Z9 U H2 s2) (T : Turn X.prog X.w X.K tg J fp it tn) (st2 : tn 0 s2.heap) (f2 : ∀ b ∈ fp, V5 X Z9 H2 b) (h : ∀ p, H2 p = none → ∃ W : Nat → Nat → Hp → Prop, (∃ m, W 0 m (upd H2 p (.lst []))) ∧ ∀ i m H2, W i m H2 →
      (J.stop i H2/\Q (.ref p) H2)\/(J.go i H2/\∀ x H',J.yld i H2 x H'->g x (cst own fv U) H' fun σ2 H3=>XM (cst own fv U) σ2/\tc σ2 H3 fun b H4 =>
        if b=true then te σ2 H4 fun y H5=>∃ ys,H5 p=some (.lst ys)/\ys.length<sizeLine/\∃ m',m'<m/\W (i+1) m' (upd H5 p (.lst (ys++[y])))
        else ∃ m',m'<m/\W (i+1) m' H4)) {cl:List (Str×Addr)} (hcl1:∀ x c,cl.lookup x=some c->X.env.cells.lookup x=some c) (hcl2:∀ y∈sc.names,y.2=.free->(cl.lookup y.1).isSome=true) (hRR:∀ (p C:Addr) (m:Str->Option Value) (H':Hp) (s':Shared),s'.heap.Ns C m->Inv X Z9 U H' s'->H' C=none->C≠X.env.locals->X.s₀.heap.objs.size<=C->(∀ x c,X.env.cells.lookup x=some c->c≠C)->(∀ q∈X.pn++Z9,q.1≠C)->Q (.ref p) H' ->
      RR (.ref p) C (.ok .next) s') :
    wpAny (model X.prog X.w) X.A (newList []) (fun acc s3=>wpAny (model X.prog X.w) X.A (newFunctionEnv sc X.env.globals cl [] X.env.qual none .none (some X.env)) (fun cenv s4 =>codeAny (model X.prog X.w) X.A (.compStart (.ListComp elt [⟨tg,iter,ifs,0⟩] sc pos) 0 (.ref it) acc { cenv with scope:=relabel sc X.env }) (RR acc cenv.locals) s4) X.xe s3) X.xe s2:=by
  rw[hxe];refine wpAny_newObj_type ?_;have I3:Inv X Z9 U (upd H2 s2.heap.objs.size (.lst [])) { s2 with heap:=s2.heap.push { cls:=.type "list",data:=.seq ([]:List Value).toArray } }:=I2.lnew (t':=s2.toks) .nil (qY _);generalize hs3:({ s2 with heap:=s2.heap.push { cls:=.type "list",data:=.seq ([]:List Value).toArray } }:Shared)=s3 at I3 ⊢;have hp:H2 s2.heap.objs.size=none:=I2.fresh;obtain⟨W,⟨m0,w0⟩,turn⟩:=h s2.heap.objs.size hp;generalize hH3:upd H2 s2.heap.objs.size (.lst [])=H3 at I3 w0 ⊢;have hk3:∀ b o,s2.heap.get? b=some o->s3.heap.get? b=some o:=fun b o e=>by rw[<- hs3];exact qd _ e
  have hz3:s3.heap.objs.size=s2.heap.objs.size+1:=by rw[<- hs3];exact W6 ..
  have st3:tn 0 s3.heap:=T.keep _ _ _ st2 fun b _ o e=>hk3 b o e
  have hfpo:∀ b∈fp,∃ o,s3.heap.get? b=some o:=fun b hb=>by obtain⟨o,e,_⟩:=T.obj _ _ st3 b hb;exact⟨o,e⟩
  have hfpn:∀ b∈fp,b≠s2.heap.objs.size:=fun b hb e=>by obtain⟨o,e',_⟩:=T.obj _ _ st2 b hb;have:=qA e';rw[e]at this;exact Xq _ this
  have f3:∀ b∈fp,H3 b=none:=fun b hb=>by rw[<- hH3,zu (hfpn b hb)];exact(f2 b hb).1
  refine jQ ?_;have cok:=cellsFrom_ok sc.names (s3.heap.push { cls:=.type "dict",data:=.dict #[] }) (s3.heap.objs.size+1) [] ⟨fun _ _ hm=>(nomatch hm),List.Pairwise.nil⟩ (by rw[W6];exact qh _);rw[W6]at cok;have hns1:(pushCells (s3.heap.push { cls:=.type "dict",data:=.dict #[] }) sc.names).Ns s3.heap.objs.size (fun _=>none):=(Heap.Ns.new s3.heap (.type "dict")).keeps (pushCells_keeps _ _);have old:∀ b o,s3.heap.get? b=some o->(pushCells (s3.heap.push { cls:=.type "dict",data:=.dict #[] }) sc.names).get? b=some o:=fun b o e=>pushCells_keeps _ _ b o (qd _ e)
  rw[RQ];have fmem:∀ {x c},(x,c)∈cellsFrom (s3.heap.objs.size+1) sc.names []->sc.names.lookup x=some .cell:=fun {x c} h=>hcell (x,.cell) (Fy h) rfl
  have fhas:∀ {x},sc.names.lookup x=some .cell->∃ c,(cellsFrom (s3.heap.objs.size+1) sc.names []).lookup x=some c:=fun {x} h=>Ov.mp (DW (mem_of_lookup h))
  generalize pushCells (s3.heap.push { cls:=.type "dict",data:=.dict #[] }) sc.names=h1 at cok hns1 old ⊢;generalize cellsFrom (s3.heap.objs.size+1) sc.names []=F at cok fmem fhas ⊢;have flt:∀ {x c},F.lookup x=some c->s3.heap.objs.size<c:=fun {x c} e=>(cok.empty x c (mem_of_lookup e)).2
  have cl':∀ {x c},(F++cl).lookup x=some c->F.lookup x=some c\/(F.lookup x=none/\cl.lookup x=some c):=fun {x c} e=>by
    rw[Ow]at e;cases hF:F.lookup x with
    |some c'=>rw[hF]at e;exact .inl e
    |none=>rw[hF]at e;exact .inr ⟨rfl,e⟩
  have hC0:H3 s3.heap.objs.size=none:=I3.fresh;have hlow:X.s₀.heap.objs.size<=s3.heap.objs.size:=I3.sz;have hloc:X.env.locals<s3.heap.objs.size:=I3.lt
  have hcells:∀ x c,X.env.cells.lookup x=some c->c<s3.heap.objs.size:=fun x c e=>by obtain⟨v,o,ho,_⟩:=I3.cell x c e;exact qA ho
  have YOk:(inner X sc (own++free) (F++cl) s3.heap.objs.size s3 H3 fp).Ok:={
    mod:=I3.ok.mod
    kind:=by show(relabel sc X.env).kind=.function;exact hkind
    glob:=I3.ok.glob
    blt:=I3.ok.blt
    above:=qh _
    inj:=fun x y c hx hy=>by
      rcases cl' hx with h|⟨_,h⟩<;>rcases cl' hy with h'|⟨_,h'⟩
      . exact name_of_addr cok.apart (mem_of_lookup h) (mem_of_lookup h')
      . exact absurd (Nat.lt_trans (flt h) (hcells y c (hcl1 y c h'))) (Xq _)
      . exact absurd (Nat.lt_trans (flt h') (hcells x c (hcl1 x c h))) (Xq _)
      . exact I3.ok.inj x y c (hcl1 x c h) (hcl1 y c h')
    has:=fun x hx=>by
      show ∃ c,(F++cl).lookup x=some c;rw[Ow];cases hF:F.lookup x with
      |some c=>exact⟨c,rfl⟩
      |none =>
      show ∃ c,cl.lookup x=some c
      have e : (sc.names.lookup x).map (fun k => if(k == NameKind.free && X.env.scope.kind == .function && X.env.kindOf x == some .cell)then NameKind.cell else k) = some .cell ∨
          (sc.names.lookup x).map (fun k=>if(k==NameKind.free&&X.env.scope.kind==.function&&X.env.kindOf x==some .cell)then NameKind.cell else k)=some .free:=by
        have:=@Fq X.env x sc.names;rcases hx with hx|hx
        . exact .inl (this.symm.trans hx)
        . exact .inr (this.symm.trans hx)
      cases q:sc.names.lookup x with
      |none=>rw[q]at e;simp at e
      |some k =>
        have hm:=mem_of_lookup q;by_cases hkf:k=.free
        . subst hkf;exact Ov.mp (hcl2 (x,.free) hm rfl)
        . have hkc : k ≠ .cell := fun ek => by
            subst ek;obtain⟨c,hc⟩:=fhas q;rw[hF]at hc;cases hc
          rw[q]at e;have hb:(k==NameKind.free)=false:=by simpa using hkf
          simp only[Option.map_some,hb,VJ,U9,if_false,Option.some.injEq]at e;rcases e with e|e
          . exact absurd e hkc
          . exact absurd e hkf
    cab:=fun x c hx hc=>by
      obtain⟨c',hc'⟩:=fhas (show sc.names.lookup x=some .cell from beq_iff_eq.mp hx);rcases cl' hc with h|⟨h,_⟩
      . exact Mq (flt h)
      . rw[hc']at h;cases h
    hd:=I3.ok.hd
    frames:=I3.ok.frames
    stk:=.inl rfl
    exf:=fun b hb=>⟨fun e=>by obtain⟨o,e'⟩:=hfpo b hb;have:=qA e';rw[e]at this;exact Xq _ this,fun x c hx=>by
      rcases cl' hx with h|⟨_,h⟩
      . obtain⟨o,e'⟩:=hfpo b hb;exact Wt (Nat.lt_trans (qA e') (flt h))
      . exact(f2 b hb).2.2.2.2.1 x c (hcl1 x c h)⟩
    bs:=I3.bs
    bsz:=qV I3.ok.bsz I3.sz
    noex:=fun b o hb hm=>by
      rcases(f2 b hm).2.2.2.1 with hx|hx
      . exact I3.ok.noex b o hb hx
      . exact Xq _ (qE (qE (qA hb) I3.ok.bsz) hx)
    exfs:=fun b hb hm=>by
      rcases qu.mp (I3.stkSub b hm)with e|e
      . exact(f2 b hb).2.1 e
      . exact(f2 b hb).2.2.1 e
    funs:=I3.stack
    frf:=I3.stkFree }
  have hlen0:(cst own fv U).length=(own++free).length:=by unfold cst;rw[qf,qf,qK,qa,uN hfv]
  have I4:∀ tk,Inv (inner X sc (own++free) (F++cl) s3.heap.objs.size s3 H3 fp) [] (cst own fv U) H3 { s3 with heap:=h1,toks:=tk }:=fun tk=>{
    ok:=YOk
    os:=rfl
    bare:=I3.bare
    base:=Un.kept old
    loc:=by
      refine⟨_,hns1,fun i x v hN hσ _=>?_⟩;have hN':(own++free)[i]?=some x:=hN;have hσ':(List.replicate own.length none++fv.map fun j=>(U[j]?).join)[i]?=some (some v):=hσ;by_cases hi:i<own.length
      . rw[qg (by rw[qK];exact hi)]at hσ';rw[M5]at hσ';split at hσ'<;>simp at hσ'
      . rw[qe (by lia)]at hN';rw[qe (by rw[qK];lia),qK]at hσ';obtain⟨j,hj,hσj,hsx,hkx⟩:=oH hfv _ x v hN' hσ';obtain⟨m,_,hall⟩:=I3.loc;obtain⟨u,ru,lk⟩:=hall j x v hj hσj (.inr (.inl hkx));refine⟨u,ru,.inr ⟨?_,?_⟩⟩
        . have:=@Fq X.env x sc.names;rw[hsx]at this;have e2:Env.kindOf (inner X sc (own++free) (F++cl) s3.heap.objs.size s3 H3 fp).env x=(sc.names.map fun (n,k)=>if(k==NameKind.free&&X.env.scope.kind==.function&&X.env.kindOf n==some .cell)then(n,NameKind.cell)else(n,k)).lookup x:=rfl;rw[e2,this];simp only[Option.map_some];split
          . exact .inl rfl
          . exact .inr rfl
        . rcases lk with⟨hl,_⟩|⟨_,c,hc,hcell'⟩
          . rw[hkx]at hl;cases hl
          . obtain⟨c',hc'⟩:=Ov.mp (hcl2 (x,.free) (mem_of_lookup hsx) rfl);have:=hcl1 x c' hc';rw[hc]at this;cases this;refine⟨c,?_,?_⟩
            . show(F++cl).lookup x=some c;rw[Ow];cases hF:F.lookup x with
              |none=>exact hc'
              |some c2=>have:=fmem (mem_of_lookup hF);rw[hsx]at this;cases this
            obtain⟨o,ho,hd⟩:=hcell';exact⟨o,old _ _ ho,hd⟩
    cell:=fun x c hx=>by
      rcases cl' hx with h|⟨_,h⟩
      . exact⟨none,(cok.empty x c (mem_of_lookup h)).1⟩
      . obtain⟨v,o,ho,hd⟩:=I3.cell x c (hcl1 x c h);exact⟨v,o,old _ _ ho,hd⟩
    free:=hC0
    freeC:=fun x c hx=>by
      rcases cl' hx with h|⟨_,h⟩
      . exact I3.hok.fresh (Mq (flt h))
      . exact I3.freeC x c (hcl1 x c h)
    pin:=fun q hq=>nomatch hq
    hok:=I3.hok.kept old
    len:=hlen0 }
  have back:∀ (m:Str->Option Value) (H':Hp) (s':Shared),s'.heap.Ns s3.heap.objs.size m->Inv (inner X sc (own++free) (F++cl) s3.heap.objs.size s3 H3 fp) [] (cst own fv U) H' s'->Q (.ref s2.heap.objs.size) H'->RR (.ref s2.heap.objs.size) s3.heap.objs.size (.ok .next) s':=fun m H' s' hm IY q=>by
    have u1:Un (frs X.stack) fp H3 H' s3.heap s'.heap:=IY.base;have IX:Inv X Z9 U H' s':=I3.call' (ch:=fp) (IY.os) u1 IY.hok IY.bare fun b hb=>⟨(f2 b hb).2.2.2.1,(f2 b hb).2.1,(f2 b hb).2.2.2.2.1,(f2 b hb).2.2.2.2.2⟩
    refine hRR _ _ m H' s' hm IX IY.free (Wt hloc) hlow (fun x c hx=>qS (hcells x c hx)) (fun q' hq=>?_) q;have:=(I3.pin q' hq).1;exact qS (qA this)
  have stat:∀ {H':Hp},(∀ b∈fp,H' b=none)->∀ b∈fp,V5 (inner X sc (own++free) (F++cl) s3.heap.objs.size s3 H3 fp) [] H' b:=fun hn b hb =>⟨hn b hb,(YOk.exf b hb).1,YOk.exfs b hb,.inl hb,(YOk.exf b hb).2,fun q hq=>nomatch hq⟩
  have hYxe:(inner X sc (own++free) (F++cl) s3.heap.objs.size s3 H3 fp).xe=fun _ _=>False:=hxe
  have loop:∀ tk,codeAny (model X.prog X.w) X.A (.compLoop (.ListComp elt [⟨tg,iter,ifs,0⟩] sc pos) 0 (.ref it) (.ref s2.heap.objs.size) (compEnvC sc (F++cl) s3.heap.objs.size X.env)) (RR (.ref s2.heap.objs.size) s3.heap.objs.size) { s3 with heap:=h1,toks:=tk }:=fun tk=>by
    refine je (fun n s'=>∃ i H',Inv (inner X sc (own++free) (F++cl) s3.heap.objs.size s3 H3 fp) [] (cst own fv U) H' s'/\tn i s'.heap/\(∀ b∈fp,H' b=none)/\W i n H') ?_ m0 ⟨0,H3,I4 tk,T.keep _ _ _ st3 (fun b _ o e=>old b o e),f3,w0⟩;rintro n s5 ⟨i,H5,I5,st5,fr5,w5⟩;rcases turn i n H5 w5 with⟨stop,q⟩|⟨go,step⟩
    . refine Z2 (T.done (inner X sc (own++free) (F++cl) s3.heap.objs.size s3 H3 fp) rfl rfl rfl hcalm i [] s5 _ H5 _ I5 (stat fr5) st5 stop) fun r s6 ⟨hr,I6⟩=>?_
      subst hr;obtain⟨m,hm,_⟩:=I6.loc;exact back m H5 s6 hm I6 q
    . refine Z2 (T.item (inner X sc (own++free) (F++cl) s3.heap.objs.size s3 H3 fp) rfl rfl rfl hcalm i [] s5 _ H5 _ I5 (stat fr5) st5 go) fun r s6 ⟨u,hr,h6⟩=>?_
      subst hr;refine Z2 h6 fun _ s7 ⟨x,H7,I7,r7,y7,st7,fr7⟩=>?_
      have I7':=I7.pinned (stat fr7) (T.obj _ _ st7);have hg':=hg (F++cl) s3.heap.objs.size s3 H3 fp _ s7 _ H7 x u _ I7' r7 (step x H7 y7);have ht':=ht (F++cl) s3.heap.objs.size s3 H3 fp;have he':=he (F++cl) s3.heap.objs.size s3 H3 fp;have ap:PX (inner X sc (own++free) (F++cl) s3.heap.objs.size s3 H3 fp) "list.append" pR:=rN;unfold QL at ht';unfold PE at he';unfold PX at ap;rw[hYxe]at hg' ht' he' ap
      have again : ∀ {pl : List (Addr × Obj)} {σ8 : L2.St} {H8 : Hp} {s8 : Shared}, pl = Mt fp s7.heap → Inv (inner X sc (own ++ free) (F ++ cl) s3.heap.objs.size s3 H3 fp) ([] ++ pl) σ8 H8 s8 → XM (cst own fv U) σ8 → (∃ m', m' < n ∧ W (i + 1) m' H8) →
          ∃ m,m<n/\∃ i H',Inv (inner X sc (own++free) (F++cl) s3.heap.objs.size s3 H3 fp) [] (cst own fv U) H' s8/\tn i s8.heap/\(∀ b∈fp,H' b=none)/\W i m H':=fun {pl σ8 H8 s8} hpl I8 ag zq10=>by
        obtain⟨m',hm,w8⟩:=zq10;subst hpl;refine⟨m',hm,i+1,H8,(I8.unpinned).weak ag.len.symm (fun j v e=>ag.get j v e),T.keep _ _ _ st7 fun b hb o e=>(I8.pin (b,o) (qL _ (qL _ (JR hb e)))).1,fun b hb=>?_,w8⟩;obtain⟨o,e,d⟩:=T.obj _ _ st7 b hb;exact(I8.pin (b,o) (qL _ (qL _ (JR hb e)))).2.1
      refine Z2 hg' fun _ s8 ⟨σ8,H8,I8,ag,q8⟩=>?_
      refine Z2 (ht' _ s8 σ8 H8 _ I8 q8) fun b s9 ⟨H9,I9,q9⟩=>?_
      cases b with
      |false =>rw[if_neg qo]at q9 ⊢;exact again rfl I9 ag q9
      |true =>
        rw[if_pos rfl]at q9 ⊢;refine Z2 (he' _ s9 σ8 H9 _ I9 q9) fun y s10 ⟨yv,H10,I10,ry,ys,hy,hlt,q10⟩=>?_
        refine Z2 (ap _ s10 σ8 H10 (.ref s2.heap.objs.size) [yv] (.ref s2.heap.objs.size) [y] (fun v H'=>v=.non/\H'=upd H10 s2.heap.objs.size (.lst (ys++[yv]))) I10 rfl (.cons ry .nil) ⟨_,ys,yv,rfl,rfl,hy,hlt,rfl,rfl⟩) fun z s11 ⟨v11,H11,I11,_,_,e11⟩=>?_
        subst e11;exact again rfl I11 ag q10
  refine codeAny_compStart_list (loop _) (T.self _ 0 _ _ _ (T.keep _ _ _ st3 fun b _ o e=>old b o e) (loop _))
def ώ (hcalm:X.calm=true)(hxe:X.xe=fun _ _=>False)(hkind:sc.kind=.function)(hcell:∀ y∈sc.names,y.2=.cell->sc.names.lookup y.1=some .cell)(hnames:∀ y∈sc.names,y.2=.local->sc.names.lookup y.1=some .local)
  (hfr:WQ (fun x=>X.env.kindOf x=some .cell) sc.names) (hfv:Vs X sc free fv) (hi:PI X tg iter wi)
  (hg:∀ cl C s₀ H₀ ex,PG (inner X sc (own++free) cl C s₀ H₀ ex) tg g) (ht:∀ cl C s₀ H₀ ex,QL (inner X sc (own++free) cl C s₀ H₀ ex) ifs tc) (he:∀ cl C s₀ H₀ ex,PE (inner X sc (own++free) cl C s₀ H₀ ex) elt te)
  (hs:∀ x,foldedSetIterable iter X.env x=pure x:=by intro _;rfl):PE X (.ListComp elt [⟨tg,iter,ifs,0⟩] sc pos) (GJ own fv wi g tc te):=by
 intro Z9 s U H Q I q;obtain⟨cl,hclos,hcl1,hcl2⟩:=ud (env:=X.env) (sc:=sc) fun y hy e=>I.ok.has y.1 (.inl (hfr.of y hy e))
 rw[eval_ListComp];refine wpAny_comprehension_free (use:=none) rfl hs hclos hkind hnames (Z2 (hi Z9 s U H _ I q) fun v s1 h1=>Z2 h1 fun itv s2 h2=>?_);obtain⟨it,fp,tn,J,H2,e,I2,T,st2,f2,q2⟩:=h2;subst e;refine xP (RR:=fun acc C=>compPost (model X.prog X.w) X.A X.xe none (EP X Z9 U Q) acc C) hcalm hxe hkind hcell hfr hfv hg ht he I2 T st2 f2 q2 hcl1 hcl2 ?_;intro p C m H' s' hm I' hC hCl hC0 hCc hCp q';exact⟨m,hm,fun h' hs'=>⟨.ref p,H',I'.turned (t':=s'.toks) (fun b o hb e=>hs'.extBut b o hb e) hC hCl (.inr hC0) hCc hCp,rfl,q'⟩⟩
def zra {i:Nat}{y:Str}{py spos:Pos}(hN:X.N.Nodup)(hy:X.N[i]?=some y)(hyl:X.env.scope.names.lookup y=some .local)(hcalm:X.calm=true)(hxe:X.xe=fun _ _=>False)(hkind:sc.kind=.function)(hcell:∀ y∈sc.names,y.2=.cell->sc.names.lookup y.1=some .cell)(hnames:∀ y∈sc.names,y.2=.local->sc.names.lookup y.1=some .local)
  (hfr:WQ (fun x=>X.env.kindOf x=some .cell) sc.names) (hfv:Vs X sc free fv) (hi:PI X tg iter wi)
  (hg:∀ cl C s₀ H₀ ex,PG (inner X sc (own++free) cl C s₀ H₀ ex) tg g) (ht:∀ cl C s₀ H₀ ex,QL (inner X sc (own++free) cl C s₀ H₀ ex) ifs tc) (he:∀ cl C s₀ H₀ ex,PE (inner X sc (own++free) cl C s₀ H₀ ex) elt te)
  (hsw:swapsWith (.ListComp elt [⟨tg,iter,ifs,0⟩] sc pos) (some (.Name y py)) spos.line X.env=pure true:=by rfl)
  (hs:∀ x,foldedSetIterable iter X.env x=pure x:=by intro _;rfl):PS X (.Assign [.Name y py] (.ListComp elt [⟨tg,iter,ifs,0⟩] sc pos) spos) (Gh (GJ own fv wi g tc te) (zR i)):=by
 intro Z9 s U H D I q;obtain⟨cl,hclos,hcl1,hcl2⟩:=ud (env:=X.env) (sc:=sc) fun y hy e=>I.ok.has y.1 (.inl (hfr.of y hy e))
 rw[exec_Assign_Name_used _ _ _ _ hsw];refine wpAny_bind (wpAny_standAt (wpAny_bind ?_));show wpAny _ X.A (do let _ <- comprehension (.ListComp elt [⟨tg,iter,ifs,0⟩] sc pos) sc X.env _ (newList []) false (eval iter X.env) (some (assign (.Name y py) X.env))) _ _ s
 refine wpAny_bind (wpAny_mono (wpAny_comprehension_free (use:=some (assign (.Name y py) X.env)) (Q:=fun _ s'=>SP X Z9 D .next s') rfl hs hclos hkind hnames
  (Z2 (hi Z9 s U H _ I q) fun v s1 h1=>Z2 h1 fun itv s2 h2=>?_)) (fun _ s' hq=>wpAny_pure (wpAny_pure hq)) fun _ _ e=>e)
 obtain⟨it,fp,tn,J,H2,e,I2,T,st2,f2,q2⟩:=h2;subst e;refine xP (RR:=fun acc C=>compPost (model X.prog X.w) X.A X.xe (some (assign (.Name y py) X.env)) (fun _ s'=>SP X Z9 D .next s') acc C) (Q:=fun x H1=>zR i x U H1 D.nx) hcalm hxe hkind hcell hfr hfv hg ht he I2 T st2 f2 q2 hcl1 hcl2 ?_;intro p C m H' s' hm I' hC hCl hC0 hCc hCp q';show wpAny _ X.A (assign (.Name y py) X.env (.ref p)) _ _ _;refine wpAny_assign_Name (xR (v:=.ref p) I' hN hy (.inl hyl) rfl (fun s'' I'' hsb=>?_) (.inr hyl));obtain⟨a,hsb,ha⟩:=hsb
 have hCa:C≠a:=by
  rcases ha with rfl|ha
  ·exact hCl
  ·exact fun e=>hCc _ _ ha e.symm
 refine⟨m,hm.sameBut hsb hCa,fun h' hs'=>⟨_,H',I''.turned (t':=s''.toks) (fun b o hb e=>hs'.extBut b o hb e) hC hCl (.inr hC0) hCc hCp,q'⟩⟩
end
section
variable {U:L2.St}{H:Hp}{K:PySem.W.Frag}
end
section
variable {X:Cx}{tg:Expr}
end
section
variable {X:Cx}{Z9:List (Addr×Obj)}{U:L2.St}{H:Hp}{s:Shared}
end
section
variable {X:Cx}{Z9:List (Addr×Obj)}{U:L2.St}{H:Hp}{s:Shared}
def _root_.L2.Inv.turnNew {h':Heap}{ch:List Addr}{a:Addr}{o:HO}{t':Nat}(I:Inv X Z9 U H s)(hf:∀ b∈ch,V5 X Z9 H b)(k:∀ b u,b∉ch->s.heap.get? b=some u->h'.get? b=some u)(ha:s.heap.objs.size<=a)
  (new:zU X.prog X.w (upd H a o) h' a o):Inv X Z9 U (upd H a o) { s with heap:=h',toks:=t' }:=by
 have lt:∀ b u,s.heap.get? b=some u->b≠a:=fun b u e z=>by have:=qA e;rw[z]at this;exact Xq _ (qE this ha)
 have ltH:∀ b u,H b=some u->b≠a:=fun b u e z=>by have:=I.hok.lt e;rw[z]at this;exact Xq _ (qE this ha)
 have nch:∀ b u,H b=some u->b∉ch:=fun b u e z=>by rw[(hf b z).1]at e;cases e
 refine I.step (g':=s.gens) (d':=s.drawn) (ch:=ch) (fun b hb=>⟨(hf b hb).2.2.2.1,(hf b hb).2.1,(hf b hb).2.2.2.2.1,(hf b hb).2.2.2.2.2⟩) (fun b u _ _ hc e _=>k b u hc e) (fun b u _ _ hc e _=>⟨u.slots,k b u hc e⟩)
  (fun b u _ e n=>by rw[zu (lt b u e)];exact n) (fun b u hc e=>⟨u,k b u hc e⟩) (fun b xs e=>by rw[zu (ltH b _ e)];exact e) (fun b u v e=>by rw[zu (ltH b _ e)];exact e)
  (fun b ps e=>⟨#[],by rw[zu (ltH b _ e),e];simp⟩) (fun m hm=>?_) (fun b u e=>?_) I.bare
 ·obtain⟨ob,es,ep,ho,r⟩:=hm;exact⟨ob,es,ep,k _ ob (fun z=>(hf _ z).2.1 rfl) ho,r⟩
 ·by_cases hb:b=a
  ·subst hb;rw[zL]at e;cases e;exact new
  ·rw[zu hb]at e;refine(I.hok b u e).stay (fun c v hc q=>k c v ?_ q) (fun c q=>by rw[zu (ltH c _ q)];exact q) fun c ys q=>by rw[zu (ltH c _ q)];exact q
   rcases hc with z|z
   ·rw[z];exact nch b u e
   ·exact nch c _ z
def _root_.L2.Inv.turnedL {h':Heap}{ch:List Addr}{t':Nat}(I:Inv X Z9 U H s)(hf:∀ b∈ch,V5 X Z9 H b)(k:∀ b u,b∉ch->s.heap.get? b=some u->h'.get? b=some u):Inv X Z9 U H { s with heap:=h',toks:=t' }:=by
 have nch:∀ b u,H b=some u->b∉ch:=fun b u e z=>by rw[(hf b z).1]at e;cases e
 refine I.step (g':=s.gens) (d':=s.drawn) (ch:=ch) (fun b hb=>⟨(hf b hb).2.2.2.1,(hf b hb).2.1,(hf b hb).2.2.2.2.1,(hf b hb).2.2.2.2.2⟩) (fun b u _ _ hc e _=>k b u hc e) (fun b u _ _ hc e _=>⟨u.slots,k b u hc e⟩)
  (fun b u _ e n=>n) (fun b u hc e=>⟨u,k b u hc e⟩) (fun b xs e=>e) (fun b u v e=>e) (fun b ps e=>⟨#[],by rw[e];simp⟩) (fun m hm=>?_) (fun b u e=>?_) I.bare
 ·obtain⟨ob,es,ep,ho,r⟩:=hm;exact⟨ob,es,ep,k _ ob (fun z=>(hf _ z).2.1 rfl) ho,r⟩
 ·refine(I.hok b u e).stay (fun c v hc q=>k c v ?_ q) (fun c q=>q) fun c ys q=>q
  rcases hc with z|z
  ·rw[z];exact nch b u e
  ·exact nch c _ z
end
section
variable {X:Cx}
end
def Ite (K:PySem.W.Frag)(l:Addr):It :=
  ⟨fun i H=>∃ xs x,ZC K H l xs/\xs[i]?=some x,
   fun i H v H'=>∃ p,v=.ref p/\H p=none/\∀ xs x,ZC K H l xs->xs[i]?=some x->H'=upd H p (.tup [.int i,x]),
   fun i H=>∃ xs,ZC K H l xs/\xs.length<=i⟩
def d8 {P:Program}{w:World}{K:PySem.W.Frag}{es:List Expr}{kk:Nat}{pos:Pos}{e it l:Addr}(hne:e≠it) :
  Turn P w K (.Tuple es kk pos) (Ite K l) [e,it] e (fun i h=>(∃ old,IsEnum h e it i old)/\h.IsListIter it l i) where
 mem:=by simp
 obj:=fun i h st b hb=>by
  obtain⟨⟨old,he⟩,⟨o1,h1,_,h1d⟩⟩:=st;simp only[qu,qM,or_false]at hb;rcases hb with rfl|rfl
  ·exact⟨_,he,fun v q=>by cases(show Data.fields _=Data.cell v from q)⟩
  ·exact⟨_,h1,fun v q=>by rw[h1d]at q;cases q⟩
 keep:=fun i h h' st k=>by obtain⟨⟨old,he⟩,h1⟩:=st;exact⟨⟨old,k e (by simp) _ he⟩,h1.at fun o q=>k it (by simp) o q⟩
 item:=by
  intro X hP hw hK hc i Z9 s U H E I hf st hg;subst hP hw hK;obtain⟨⟨old,he⟩,h1⟩:=st;obtain⟨xs,x,hx1,hx⟩:=hg;obtain⟨its,rx,px,zx⟩:=I.list hx1;obtain⟨u,hu,ru⟩:=Vals.get rx hx;refine wpAny_pyNext_enum_item he h1 px.isList (by simpa using hu) hne fun h' a1 a2 a3 a4 hk=>?_
  refine⟨_,rfl,wpAny_letOwnedTupleGo_enum (s:={ s with heap:=h',toks:=s.toks+1 }) a1 fun h'' he'' hs''=>?_⟩;have lt:∀ {c o},s.heap.get? c=some o->s.heap.objs.size≠c:=fun q=>Wt (qA q)
  have k2:∀ b u,b∉[e,it]->s.heap.get? b=some u->h''.get? b=some u:=fun b u hb q=>by simp only[qu,qM,or_false,not_or]at hb;exact hs''.extBut b u hb.1 (hk b u hb.1 hb.2 q)
  have new:h''.get? s.heap.objs.size=some { cls:=.type "tuple",data:=.seq #[.int i s.toks,u] }:=hs''.extBut _ _ (lt he) a3;refine⟨.ref s.heap.objs.size,upd H s.heap.objs.size (.tup [.int i,x]),I.turnNew (t':=s.toks+1) hf k2 (qh _) ⟨by show 2<=sizeLine;decide,[.int i s.toks,u],.cons ⟨_,rfl⟩ (.cons ru .nil),_,new,rfl,_,rfl⟩,rfl,⟨_,rfl,I.fresh,?_⟩,?_,fun b hb=>?_⟩
  ·intro xs' x' hx1' hx';cases I.list_inj hx1 hx1';rw[hx]at hx';cases hx';rfl
  ·exact⟨⟨_,he''⟩,a2.extBut hs''.extBut (Ne.symm hne)⟩
  ·have:∃ o,s.heap.get? b=some o:=by
    simp only[qu,qM,or_false]at hb;obtain⟨o1,e1,_⟩:=h1;rcases hb with rfl|rfl
    ·exact⟨_,he⟩
    ·exact⟨_,e1⟩
   obtain⟨o,q⟩:=this;rw[zu (lt q).symm];exact(hf b hb).1
 done:=by
  intro X hP hw hK hc i Z9 s U H E I hf st hg;subst hP hw hK;obtain⟨⟨old,he⟩,h1⟩:=st;obtain⟨xs,hx1,hl⟩:=hg;obtain⟨its,rx,px,zx⟩:=I.list hx1;have n1:=rx.length;refine wpAny_pyNext_enum_end (I.ok.hd hc) he h1 px.isList (by rw[qbv];exact qB (by lia)) fun h' hk=>⟨rfl,I.turnedL (t':=s.toks) hf fun b u hb q=>?_⟩
  simp only[qu,qM,or_false,not_or]at hb;exact hk b u hb.2 q
 self:=fun _ _ _ _ _ st h=>by obtain⟨⟨old,he⟩,_⟩:=st;exact wpAny_pyIter_enum he h
section
variable {X:Cx}
def V6 (K:PySem.W.Frag)(ta:TA):TI:=fun U H R=>ta U H fun vs H1=>∃ l,vs=[.ref l]/\(∃ xs,ZC K H1 l xs)/\R (Ite K l) H1
def zrx {es:List Expr}{kk:Nat}{tpos:Pos}{a:Expr}{ta:TA}{p pos:Pos}(hg:Gl X "enumerate")(hm:X.mg "enumerate"=none)(ha:PA X [a] ta)(hs:autoParam (starEach [a] X.env=[(false,eval a X.env)]) zy) :
    PI X (.Tuple es kk tpos) (.Call (.Name "enumerate" p) [a] [] pos) (V6 X.K ta):=by
  intro Z9 s U H R I h;refine Call_ (T8 I hg hm boot_enumerate (PyProof.Rows.callWith_type1 (Z2 (ha pos Z9 s U H _ I h) fun us s1 ⟨vs,H1,I1,r1,q1⟩=>?_) hs rfl));obtain⟨l,e,⟨xs,hx⟩,q⟩:=q1;subst e;obtain⟨u,rfl,ru⟩:=vals1 r1;cases ru;obtain⟨its,rx,px,zx⟩:=I1.list hx;refine call_enumerate_list px.isList fun h' he hit hsz hk=>?_
  have I2:Inv X Z9 U H1 { s1 with heap:=h' }:=I1.kept (t':=s1.toks) hk;refine wpAny_pyIter_enum (s:={ s1 with heap:=h' }) he ?_;refine⟨_,_,_,_,H1,rfl,I2,d8 (Wt (MJ _)),⟨⟨_,he⟩,hit⟩,fun b hb=>?_,q⟩
  have hb':s1.heap.objs.size<=b:=by simp only[qu,qM,or_false]at hb;rcases hb with rfl|rfl<;>first|exact Od _ _|exact qh _
  exact I1.fpOk hb' (I1.hok.fresh hb')
end
def cx (cs:List (Int×Int))(k:Nat):Int:=(cs.getD k (0,0)).1
def hT (x1 z1 x2 z2 a b:Int):Int:=z1*(x2-x1)*b+(z2-z1)*(a-x1*b)
def hB (x1 x2 b:Int):Int:=(x2-x1)*b
section
variable {U:L2.St}{H:Hp}
end
structure Ig (P:Program)(w:World)(K:PySem.W.Frag)(mg:Str->Option Value)(base:Heap)(k:Nat)(x:Str)(sp:Sp):Prop where
 ex:∃ (C f:Addr) (fd:FuncData) (ps:List Str) (sp0:Sp),Mk K C f/\YT P w K mg base Wn k f fd ps sp0/\Binds K fd ps []/\mg x=some (.ref C) /\
  ∀ vs H Q,sp vs H Q E0->∀ x dx,H x=none->H dx=none->dx≠x->sp0 (.ref x::vs) (upd (upd H dx (.own x)) x (.ins C dx [])) (fun v H2=>v=.non/\Q (.ref x) H2) E0
def bI {X:Cx}{k:Nat}{sp:Sp}{p pos:Pos}{e:Expr}{es:List Expr}{t:TA}(G:Ig X.prog X.w X.K X.mg X.base k x sp)(hr:zO j X.A)(hk:k+1<=j)(hg:Gl X x)(ha:PA X (e::es) t)(hdb:autoParam ((x==("__debug__":Str))=false) zQ)(he:autoParam (starEach (e::es) X.env=(false,eval e X.env)::starEach es X.env) zy)(hpl:autoParam ((backTo pos (starEach es X.env)).any (·.1)=false) zy) :
  PE X (.Call (.Name x p) (e::es) [] pos) (GZ sp [] E0 t):=by
 intro Z9 s U H Q I h;obtain⟨C,f,fd,ps,sp0,M,F,b,hm,imp⟩:=G.ex;refine wpAny_Call_Name_kw (Oz I hg hm ?_ hdb);refine PySem.W.callWith_K (h₀:=X.base) I.ok.mod.kin M.kp (Z2 (ha pos Z9 s U H _ I h) fun us s1 ⟨vs,H1,I1,r,q⟩=>⟨I1.kIn,?_⟩) he hpl;have q':sp (vs++[]) H1 Q E0:=q;rw[Xn]at q';exact zom (dvs:=[]) (ds:=[]) M F (hr.mono hk) b .nil uM I1 r fun x dx h1 h2 h3=>by rw[Xn];exact imp vs H1 Q q' x dx h1 h2 h3
def Ě {n:Int}{pos:Pos}(hg:Gl X x)(hm:∃ t,X.mg x=some (.int n t))(hd:autoParam ((x==("__debug__":Str))=false) zQ):PE X (.Name x pos) (tC (.int n)):=by obtain⟨t,ht⟩:=hm;exact pI (v:=.int n) hg ht ⟨t,rfl⟩ hd
section
variable {U:L2.St}{H:Hp}{K:PySem.W.Frag}
end
section
variable {X:Cx}{K:PySem.W.Frag}
def jj {its:List Value}(_:Inv X Z9 U H s)(pl:PlainL s.heap p its.toArray) :
  p<s.heap.objs.size/\(s.heap.push { cls:=.type "list_iterator",data:=.fields #[.ref p,.int 0 0] }).IsListIter s.heap.objs.size p 0:=by
 obtain⟨o,ho,_⟩:=pl.isList;exact⟨qA ho,_,ql _ rfl,rfl,rfl⟩
def zuT {h':Heap}{tk:Nat}(I:Inv X Z9 U H s){o:Obj}(hk:∀ b u,b∉[s.heap.objs.size]->(s.heap.push o).get? b=some u->h'.get? b=some u) :
  Inv X Z9 U H { s with heap:=h',toks:=tk }:=I.kept (t':=tk) fun d u e=>hk d u (fun hm=>by
   have h1:d=s.heap.objs.size:=by simpa using hm
   have h2:=qA e;rw[h1]at h2;exact Xq _ h2) (qd _ e)
def ĉ (K:PySem.W.Frag):List V->Hp->VK->Prop:=fun xs H Q=>∃ (p:Addr) (bs:List Bool),xs=[.ref p]/\ZC K H p (bs.map V.bl)/\Q (.bl (bs.all id)) H
def znZ {bs:List Bool}(rv:Vals (bs.map V.bl) its){i:Nat}{v:Value}(h:its.toArray[i]?=some v):v=.bool (bs.getD i false):=by
 rw[<- Dc]at h
 have hi:i<its.length:=by
  rcases qW i its.length with g|g
  ·exact g
  ·rw[qB (by simpa using g)]at h;cases h
 have hl:=rv.length;rw[qa]at hl
 have e:(bs.map V.bl)[i]?=some (.bl (bs.getD i false)):=by rw[qj,qb (by lia)];simp[qJ,qb (show i<bs.length by lia)]
 obtain⟨u,hu,ru⟩:=rv.get e;rw[show its.toArray.toList=its from rfl,hu]at h;cases h;exact ru
def all_range (bs:List Bool):(List.range bs.length).all (fun i=>bs.getD i false)=bs.all id:=by
 rw[Te,Vk,Vk];constructor
 ·intro h b hb;obtain⟨i,hi,rfl⟩:=qH.mp hb;simpa [qJ,qb hi]using h i (List.mem_range.mpr hi)
 ·intro h i hi;rw[R9]at hi;have:=h bs[i] (List.getElem_mem hi);simpa [qJ,qb hi]using this
def Ď (hK:X.K=K)(hc:X.calm=true):YM X (.builtin "all") (ĉ K):=fun Z9 s U H xs us Q I r h=>by
 subst hK;obtain⟨p,bs,rfl,hS,q⟩:=h;obtain⟨u,rfl,ru⟩:=vals1 r;cases ru;obtain⟨its,rv,pl,hz⟩:=I.list hS;obtain⟨lt,st⟩:=jj I pl;have hl:=rv.length;rw[qa]at hl;have W:=Walks.list (prog:=X.prog) (w:=X.w) (A:=X.A.in1) (I.ok.hd hc) s.heap.objs.size p (qS lt) its.toArray;refine call_all_walk (wpAny_pyIter_list pl.isList ⟨s.heap.objs.size,[s.heap.objs.size,p],[s.heap.objs.size],_,_,_,fun i=>bs.getD i false,rfl,W,⟨st,pl.isList.push _⟩,?_,?_⟩)
 ·intro i v s' Q' E' hv hq;rw[znZ rv hv];exact wpAny_truthy_bool hq
 ·intro h' tk hk;rw[qk,<- hl,all_range];exact⟨.bl _,H,zuT (s:=s) I hk,rfl,q⟩
def Ň (K:PySem.W.Frag):List V->Hp->VK->Prop:=fun xs H Q=>∃ (p:Addr) (ns:List Int),xs=[.ref p]/\ZC K H p (ns.map V.int)/\0<ns.length/\∀ m:Int,m∈ns->(∀ a∈ns,a<=m)->Q (.int m) H
def jH (K:PySem.W.Frag):List V->Hp->VK->Prop:=fun xs H Q=>∃ (p:Addr) (ns:List Int),xs=[.ref p]/\ZC K H p (ns.map V.int)/\0<ns.length/\∀ m:Int,m∈ns->(∀ a∈ns,m<=a)->Q (.int m) H
theorem Hs:∀ {ns:List Int} {its:List Value},Vals (ns.map V.int) its->∃ xs:Array (Int×Tok),its.toArray=intItems xs/\xs.toList.map (·.1)=ns
 |[],_,h=>by cases h;exact⟨#[],by simp[intItems],rfl⟩
 |n::ns,_,h=>by
  cases h with
  |cons r t =>
   obtain⟨tk,rfl⟩:=r;obtain⟨xs,e1,e2⟩:=Hs t;refine⟨#[(n,tk)]++xs,?_,?_⟩
   ·apply Array.toList_inj.mp;have:=congrArg Array.toList e1;simp[intItems]at this ⊢;exact this
   ·simp[e2]
def ö (hK:X.K=K)(hc:X.calm=true):YM X (.builtin "max") (Ň K):=fun Z9 s U H xs us Q I r h=>by
 subst hK;obtain⟨p,ns,rfl,hS,hne,q⟩:=h;obtain⟨u,rfl,ru⟩:=vals1 r;cases ru;obtain⟨its,rv,pl,hz⟩:=I.list hS;obtain⟨xs,e1,e2⟩:=Hs rv;have hsz:0<xs.size:=by rw[<- Vb,<- qa (f:=(·.1)),e2];exact hne
 refine max_intList (I.ok.hd hc) (e1▸pl.isList) hsz fun v h' tk hv hk=>?_
 obtain⟨t,rfl⟩:=intItems_at hv;obtain⟨h1,h2⟩:=argBest_gt (numAt xs) (xs.size-1);refine⟨.int _,H,I.kept (t':=tk) hk,⟨t,rfl⟩,q _ ?_ fun a ha=>?_⟩
 ·rw[<- e2,numAt_eq];exact getD_mem (by rw[qa,Vb];lia)
 ·rw[<- e2]at ha;obtain⟨j,hj,rfl⟩:=mem_getD ha;rw[qa,Vb]at hj;rw[<- numAt_eq];exact h2 j (by lia)
def ø (hK:X.K=K)(hc:X.calm=true):YM X (.builtin "min") (jH K):=fun Z9 s U H xs us Q I r h=>by
 subst hK;obtain⟨p,ns,rfl,hS,hne,q⟩:=h;obtain⟨u,rfl,ru⟩:=vals1 r;cases ru;obtain⟨its,rv,pl,hz⟩:=I.list hS;obtain⟨xs,e1,e2⟩:=Hs rv;have hsz:0<xs.size:=by rw[<- Vb,<- qa (f:=(·.1)),e2];exact hne
 refine min_intList (I.ok.hd hc) (e1▸pl.isList) hsz fun v h' tk hv hk=>?_
 obtain⟨t,rfl⟩:=intItems_at hv;obtain⟨h1,h2⟩:=argBest_lt (numAt xs) (xs.size-1);refine⟨.int _,H,I.kept (t':=tk) hk,⟨t,rfl⟩,q _ ?_ fun a ha=>?_⟩
 ·rw[<- e2,numAt_eq];exact getD_mem (by rw[qa,Vb];lia)
 ·rw[<- e2]at ha;obtain⟨j,hj,rfl⟩:=mem_getD ha;rw[qa,Vb]at hj;rw[<- numAt_eq];exact h2 j (by lia)
end
section
variable {X:Cx}{K:PySem.W.Frag}
def zws (K:PySem.W.Frag):R2:=fun x y H Q=>∃ l b xs zs,x=.ref l/\y=.ref b/\ZC K H l xs/\ZC K H b zs/\xs.length+zs.length<=sizeLine/\∀ p,H p=none->Q (.ref p) (upd H p (.lst (xs++zs)))
def ĥ (hK:X.K=K):ZL X (binaryOp .Add) (zws K):=by
 subst hK;intro Z9 s U H x y v u Q I rx ry h;obtain⟨l,b,xs,zs,rfl,rfl,hH,hB,hz,q⟩:=h;cases rx;cases ry;obtain⟨its,r,pl,_⟩:=I.list hH;obtain⟨its2,r2,pl2,_⟩:=I.list hB;obtain⟨⟨cls,dd,data,sl⟩,ho,hc,n,hd⟩:=pl.isList;obtain⟨⟨cls2,dd2,data2,sl2⟩,ho2,hc2,n2,hd2⟩:=pl2.isList;simp only at hc hd hc2 hd2;subst hc hd hc2 hd2;have e1:=r.length;have e2:=r2.length;refine concat_meets ⟨_,ho,rfl⟩ ⟨_,ho2,rfl⟩ noFill_list_add seq_list_add PySem.F.slot_list_add PySem.F.entry_list_add (PySem.F.args_list_add_2 _ _) (list_addW l b its.toArray its2.toArray n n2 dd dd2 sl sl2 (by rw[qk,qk];lia)) ⟨ho,ho2,?_⟩;have ea:its.toArray++its2.toArray=(its++its2).toArray:=by simp
 rw[ea];exact⟨.ref _,_,I.lnew (t':=s.toks) (r.append r2) (by rw[qf];lia),rfl,q _ I.fresh⟩
end
section
variable {U:L2.St}{K:PySem.W.Frag}{own:List Str}{fv:List Nat}{g:TG}{tc:TT}{te:TE}{R:Hp->Prop}{H1:Hp}{p a:Addr}{xs:List V}
end
def Wk {α:Type}{xs:List α}{i:Nat}{x:α}(h:xs[i]?=some x):i<xs.length:=by
 rcases qW i xs.length with g|g
 ·exact g
 ·rw[qB g]at h;cases h
open PySem PySem.W PyProof.Rows
section
variable {lt:Nat->Nat->Bool}
abbrev ga (p:Array Nat)(i:Nat):Nat:=p.getD i 0
end
open PySem PySem.Spec PySem.W PyProof.Rows L2
section
variable {prog:Program}{w:World}{A:Around}{E:Value->Shared->Prop}{s:Shared}
end
section
variable {K:PySem.W.Frag}{H:Hp}
end
def iV (K:PySem.W.Frag):R2:=fun x y H Q=>∃ a b xs ys,x=.ref a/\y=.ref b/\ZQ K H a xs/\ZQ K H b ys/\xs.length+ys.length<=sizeLine/\(xs=[]->Q (.ref b) H)/\(xs≠[]->ys=[]->Q (.ref a) H)/\(xs≠[]->ys≠[]->∀ p,H p=none->Q (.ref p) (upd H p (.tup (xs++ys))))
def ĺ {X:Cx}{K:PySem.W.Frag}(hK:X.K=K):ZL X (binaryOp .Add) (iV K):=by
 subst hK;intro Z9 s U H x y v u Q I rx ry h;obtain⟨a,b,xs,ys,rfl,rfl,ha,hb,hz,q0,q1,q2⟩:=h;by_cases hx:xs=[]
 ·subst hx;cases rx;cases ry;obtain⟨its,r1,p1,_⟩:=I.tuple ha;obtain⟨its2,r2,p2,_⟩:=I.tuple hb;cases r1;obtain⟨⟨cls,dd,data,sl⟩,ho,hc,n,hd⟩:=id p1;obtain⟨⟨cls2,dd2,data2,sl2⟩,ho2,hc2,n2,hd2⟩:=id p2;simp only at hc hd hc2 hd2;subst hc hd hc2 hd2
  exact concat_meets ⟨_,ho,rfl⟩ ⟨_,ho2,rfl⟩ noFill_tuple_add seq_tuple_add PySem.F.slot_tuple_add PySem.F.entry_tuple_add (PySem.F.args_tuple_add_2 _ _)
   (tuple_addW0 a b _ its2.toArray n n2 dd dd2 sl sl2 (by simp)) ⟨ho,ho2,⟨.ref b,H,I,rfl,q0 rfl⟩⟩
 ·exact dU Z9 s U H _ _ v u Q I rx ry ⟨a,b,xs,ys,rfl,rfl,ha,hb,hx,hz,q1 hx,q2 hx⟩
end My
namespace L2
open PySem PySem.Spec PyProof.Rows
section
variable {κ:Type}[DecidableEq κ]
def YC (Z8:List (κ×V))(k:κ):Option V:=(Z8.find? fun kv=>decide (kv.1=k)).map (·.2)
def putK (Z8:List (κ×V))(k:κ)(v:V):List (κ×V) :=if(Z8.any fun kv=>decide (kv.1=k))=true then Z8.map (fun kv=>if kv.1=k then(kv.1,v)else kv)else Z8++[(k,v)]
def uW {k:κ}:YC ([]:List (κ×V)) k=none:=rfl
def Qx {p:κ×V}{r:List (κ×V)}{k:κ}(e:p.1=k):YC (p::r) k=some p.2:=by simp[YC,List.find?_cons,e]
def Qm {p:κ×V}{r:List (κ×V)}{k:κ}(e:¬ p.1=k):YC (p::r) k=YC r k:=by simp[YC,List.find?_cons,e]
theorem Ma (k:κ):∀ Z8:List (κ×V),(Z8.any fun kv=>decide (kv.1=k))=(YC Z8 k).isSome
 |[]=>rfl
 |p::r=>by
  rw[Mj];by_cases e:p.1=k
  ·simp only[Qx e,decide_eq_true e,Bool.true_or,Option.isSome_some]
  ·rw[Qm e,decide_eq_false e,Bool.false_or];exact Ma k r
def JT (Z8:List (κ×V))(k:κ)(v:V):(putK Z8 k v).length<=Z8.length+1:=by
 unfold putK;split
 ·rw[qa];lia
 ·rw[qf,qT,OJ];lia
def X7.isSome_eq (r:X7 o u):o.isSome=u.isSome:=by
 cases o with
 |none=>cases u with
  |none=>rfl
  |some _=>exact(show False from r).elim
 |some _=>cases u with
  |none=>exact(show False from r).elim
  |some _=>rfl
theorem X7.getD (r:X7 o u)(rd:RelV d d'):RelV (o.getD d) (u.getD d'):=by
 cases o with
 |none=>cases u with
  |none=>exact rd
  |some _=>exact(show False from r).elim
 |some _=>cases u with
  |none=>exact(show False from r).elim
  |some _=>exact r
def KV.val (r:KV Z8 vs)(k:κ):X7 (YC Z8 k) (valueAt vs k):=by
 unfold KV at r
 induction r with
 |nil=>exact True.intro
 |@cons p q ps qs h t ih =>
  obtain⟨h1,h2⟩:=h;by_cases e:p.1=k
  ·have e':q.1=k:=h1.symm.trans e;have b:valueAt (q::qs) k=some q.2:=by simp[valueAt,List.find?_cons,e']
   rw[Qx e,b];exact h2
  ·have e':¬ q.1=k:=fun z=>e (h1.trans z)
   have b:valueAt (q::qs) k=valueAt qs k:=by simp[valueAt,List.find?_cons,e']
   rw[Qm e,b];exact ih
theorem KV.any (r:KV Z8 vs)(k:κ):(Z8.any fun kv=>decide (kv.1=k))=vs.any fun kv=>decide (kv.1=k):=by
 unfold KV at r
 induction r with
 |nil=>rfl
 |cons h t ih=>rw[Mj,Mj,ih,h.1]
def KV.repl (r:KV Z8 vs)(k:κ)(ry:RelV y u) :
  KV (Z8.map fun kv=>if kv.1=k then(kv.1,y)else kv) (vs.map fun kv=>if kv.1=k then(kv.1,u)else kv):=by
 unfold KV at r ⊢
 induction r with
 |nil=>exact .nil
 |@cons p q ps qs h t ih =>
  rw[qO,qO];refine .cons ?_ ih;obtain⟨h1,h2⟩:=h;by_cases e:p.1=k
  ·rw[if_pos e,if_pos (h1.symm.trans e)];exact⟨h1,ry⟩
  ·rw[if_neg e,if_neg (fun z=>e (h1.trans z))];exact⟨h1,h2⟩
def KV.put (r:KV Z8 vs)(k:κ)(ry:RelV y u):KV (putK Z8 k y) (stored vs k u):=by
 unfold putK stored;rw[r.any k];by_cases e:(vs.any fun kv=>decide (kv.1=k))=true
 ·rw[if_pos e,if_pos e];exact r.repl k ry
 ·rw[if_neg e,if_neg e];exact Paired.snoc r ⟨rfl,ry⟩
theorem KV.length (r:KV Z8 vs):Z8.length=vs.length:=Paired.length r
end
def Ru {P:Program}{w:World}{k:Key}(r:RelV (kV k) u):(zN P w).is k u=true:=by
 cases k with
 |inl i=>obtain⟨t,e⟩:=(show ∃ t,u=Value.int i t from r);subst e;exact lN P w i t
 |inr x=>obtain⟨t,e⟩:=(show ∃ t,u=Value.str x t from r);subst e;exact zj2 P w x t
theorem wk {P:Program}{w:World}:∀ {ks:List Key} {us:List Value},Vals (ks.map kV) us->ItemsAre (zN P w) ks us
 |[],_,r=>by rw[QD]at r;cases r;exact .nil
 |k::ks,_,r=>by
  rw[qO]at r;cases r with
  |cons h t=>exact .cons (Ru h) (wk t)
abbrev KT (H:Hp):List (List Key×V)->List (List Key×Addr×Value)->Prop:=Paired fun p q=>p.1=q.1/\H q.2.1=some (.tup (p.1.map kV))/\RelV p.2 q.2.2
def KT.val (r:KT H Z8 xs)(k:List Key):X7 (YC Z8 k) ((atKey xs k).map (·.2)):=by
 induction r with
 |nil=>exact True.intro
 |@cons p q ps qs h t ih =>
  obtain⟨h1,_,h2⟩:=h;by_cases e:p.1=k
  ·have e':q.1=k:=h1.symm.trans e;have b:atKey (q::qs) k=some q.2:=by simp[atKey,List.find?_cons,e']
   rw[Qx e,b];exact h2
  ·have e':¬ q.1=k:=fun z=>e (h1.trans z)
   have b:atKey (q::qs) k=atKey qs k:=by simp[atKey,List.find?_cons,e']
   rw[Qm e,b];exact ih
def KT.repl (r:KT H Z8 xs)(k:List Key)(ry:RelV y u) :
  KT H (Z8.map fun kv=>if kv.1=k then(kv.1,y)else kv) (xs.map (putAt k u)):=by
 induction r with
 |nil=>exact .nil
 |@cons p q ps qs h t ih =>
  rw[qO,qO];refine .cons ?_ ih;obtain⟨h1,h2,h3⟩:=h;unfold putAt;by_cases e:p.1=k
  ·rw[if_pos e,if_pos (h1.symm.trans e)];exact⟨h1,h2,ry⟩
  ·rw[if_neg e,if_neg (fun z=>e (h1.trans z))];exact⟨h1,h2,h3⟩
def KT.put (r:KT H Z8 xs)(k:List Key)(hb:H b=some (.tup (k.map kV)))(ry:RelV y u) :
  KT H (putK Z8 k y) (storedH xs k b u):=by
 have e:(Z8.any fun kv=>decide (kv.1=k))=(atKey xs k).isSome:=by rw[Ma,(r.val k).isSome_eq,Pa]
 unfold putK storedH;rw[e];by_cases q:(atKey xs k).isSome=true
 ·rw[if_pos q,if_pos q];exact r.repl k ry
 ·rw[if_neg q,if_neg q];exact Paired.snoc r ⟨rfl,hb,ry⟩
def KT.keeps {H':Hp}(r:KT H Z8 xs)(ht:∀ b ys,H b=some (.tup ys)->H' b=some (.tup ys)):KT H' Z8 xs :=Paired.mapP r fun _ _ z=>⟨z.1,ht _ _ z.2.1,z.2.2⟩
section
variable {P:Program}{w:World}{H:Hp}{h:Heap}{a:Addr}
def Hf (ok:ZD P w H h)(e:Rd H a u):zU P w H h a u:=e.ok ok
def Ri {Z8:List (Key×V)}(ok:ZD P w H h)(e:Rd H a (.dK Z8)):Z8.length<=sizeLine/\(a==sysModules)=false/\∃ vs,KV Z8 vs/\h.DictOf (zN P w) a vs :=show zU P w H h a (.dK Z8)from Hf ok e
def vV {Z8:List (Key×V)}(ok:ZD P w H h)(e:H a=some (.dK Z8)):Z8.length<=sizeLine/\(a==sysModules)=false/\∃ vs,KV Z8 vs/\h.DictOf (zN P w) a vs:=Ri ok (.inl e)
def Tw {ks:List Key}(ok:ZD P w H h)(e:H a=some (.tup (ks.map kV))):(tupleKind (zN P w)).is h ks a:=by
 obtain⟨_,its,r,o,h1,h2,n,h3⟩:=(show zU P w H h a (.tup (ks.map kV))from ok a _ e)
 exact⟨o,its.toArray,n,h1,h2,h3,by simpa using wk r⟩
def R3 {Z8:List (List Key×V)}(ok:ZD P w H h)(e:Rd H a (.dT Z8)):Z8.length<=sizeLine/\(a==sysModules)=false /\
  ∃ xs,KT H Z8 xs/\h.DictOfH (tupleKind (zN P w)) a xs:=by
 obtain⟨z,y,xs,r,o,es,ep,h1,h2,h3,h4,h5⟩:=(show zU P w H h a (.dT Z8)from Hf ok e)
 refine⟨z,y,xs,r,o,es,ep,h1,h2,h3,h4,fun x hx=>?_,h5⟩
 have all:∀ {l:List (List Key×V)} {m:List (List Key×Addr×Value)},KT H l m->∀ x∈m,(tupleKind (zN P w)).is h x.1 x.2.1:=by
  intro l m q
  induction q with
  |nil=>intro x hx;exact nomatch hx
  |@cons p q ps qs hq t ih =>
   intro x hx;rcases qu.mp hx with e|hx
   ·subst e;exact Tw ok (by rw[<- hq.1];exact hq.2.1)
   ·exact ih x hx
 exact all r x hx
def tL {Z8:List (List Key×V)}(ok:ZD P w H h)(e:H a=some (.dT Z8)):Z8.length<=sizeLine/\(a==sysModules)=false /\
  ∃ xs,KT H Z8 xs/\h.DictOfH (tupleKind (zN P w)) a xs:=R3 ok (.inl e)
end
abbrev KN (H:Hp):List (List (List Key)×V)->List (List (List Key)×Addr×Value)->Prop:=Paired fun p q=>p.1=q.1/\WR H q.2.1 p.1/\RelV p.2 q.2.2
def KN.val (r:KN H Z8 xs)(k:List (List Key)):X7 (YC Z8 k) ((atKey xs k).map (·.2)):=by
 induction r with
 |nil=>exact True.intro
 |@cons p q ps qs h t ih =>
  obtain⟨h1,_,h2⟩:=h;by_cases e:p.1=k
  ·have e':q.1=k:=h1.symm.trans e;have b:atKey (q::qs) k=some q.2:=by simp[atKey,List.find?_cons,e']
   rw[Qx e,b];exact h2
  ·have e':¬ q.1=k:=fun z=>e (h1.trans z)
   have b:atKey (q::qs) k=atKey qs k:=by simp[atKey,List.find?_cons,e']
   rw[Qm e,b];exact ih
def KN.repl (r:KN H Z8 xs)(k:List (List Key))(ry:RelV y u) :
  KN H (Z8.map fun kv=>if kv.1=k then(kv.1,y)else kv) (xs.map (putAt k u)):=by
 induction r with
 |nil=>exact .nil
 |@cons p q ps qs h t ih =>
  rw[qO,qO];refine .cons ?_ ih;obtain⟨h1,h2,h3⟩:=h;unfold putAt;by_cases e:p.1=k
  ·rw[if_pos e,if_pos (h1.symm.trans e)];exact⟨h1,h2,ry⟩
  ·rw[if_neg e,if_neg (fun z=>e (h1.trans z))];exact⟨h1,h2,h3⟩
def KN.put (r:KN H Z8 xs)(k:List (List Key))(hb:WR H b k)(ry:RelV y u) :
  KN H (putK Z8 k y) (storedH xs k b u):=by
 have e:(Z8.any fun kv=>decide (kv.1=k))=(atKey xs k).isSome:=by rw[Ma,(r.val k).isSome_eq,Pa]
 unfold putK storedH;rw[e];by_cases q:(atKey xs k).isSome=true
 ·rw[if_pos q,if_pos q];exact r.repl k ry
 ·rw[if_neg q,if_neg q];exact Paired.snoc r ⟨rfl,hb,ry⟩
theorem KN.keeps {H':Hp}(r:KN H Z8 xs)(ht:∀ b ys,H b=some (.tup ys)->H' b=some (.tup ys)):KN H' Z8 xs :=Paired.mapP r fun _ _ z=>⟨z.1,z.2.1.keeps ht,z.2.2⟩
section
variable {P:Program}{w:World}{H:Hp}{h:Heap}{a:Addr}
theorem pX (ok:ZD P w H h):∀ {ks:List (List Key)} {bs:List Addr} {us:List Value},Paired (fun (ks:List Key) (c:Addr)=>H c=some (.tup (ks.map kV))) ks bs->Vals (bs.map V.ref) us->My.Xi (tupleKind (zN P w)) h ks us
 |[],_,us,.nil,r=>by cases r;exact .nil
 |k::ks,_,us,.cons e t,r=>by
  cases r with
  |cons r1 r2=>cases r1;exact .cons (Tw ok e) (pX ok t r2)
def QC {k:List (List Key)}(ok:ZD P w H h)(e:WR H a k):(My.Ur (zN P w)).is h k a:=by
 obtain⟨bs,e,r⟩:=e;obtain⟨_,its,rv,o,h1,h2,n,h3⟩:=(show zU P w H h a (.tup (bs.map V.ref))from ok a _ e)
 exact⟨o,its.toArray,n,h1,h2,h3,by simpa using pX ok r rv⟩
def Rw {Z8:List (List (List Key)×V)}{ep:Nat}(ok:ZD P w H h)(e:Rd H a (.dN Z8 ep)):Z8.length<=sizeLine/\(a==sysModules)=false /\
  ∃ xs,KN H Z8 xs/\h.DictOfH (My.Ur (zN P w)) a xs:=by
 obtain⟨z,y,xs,r,o,es,h1,h2,h3,h4,h5⟩:=(show zU P w H h a (.dN Z8 ep)from Hf ok e)
 refine⟨z,y,xs,r,o,es,ep,h1,h2,h3,h4,fun x hx=>?_,h5⟩
 have all:∀ {l:List (List (List Key)×V)} {m:List (List (List Key)×Addr×Value)},KN H l m->∀ x∈m,(My.Ur (zN P w)).is h x.1 x.2.1:=by
  intro l m q
  induction q with
  |nil=>intro x hx;exact nomatch hx
  |@cons p q ps qs hq t ih =>
   intro x hx;rcases qu.mp hx with e|hx
   ·subst e;exact QC ok (by rw[<- hq.1];exact hq.2.1)
   ·exact ih x hx
 exact all r x hx
def zxt {Z8:List (List (List Key)×V)}{ep:Nat}(ok:ZD P w H h)(e:H a=some (.dN Z8 ep)):Z8.length<=sizeLine/\(a==sysModules)=false /\
  ∃ xs,KN H Z8 xs/\h.DictOfH (My.Ur (zN P w)) a xs:=Rw ok (.inl e)
def nest_room {A:Around}(hu:A.units+2<cLine):(My.Ur (zN P w)).room A.in1:=hu
end
def Yq (H:Hp)(a:Addr)(y:V)(r:Option V):Prop :=
 (∃ Z8 k,Rd H a (.dK Z8)/\y=kV k/\r=YC Z8 k)\/(∃ Z8 k b,Rd H a (.dT Z8)/\y=.ref b/\H b=some (.tup (k.map kV))/\r=YC Z8 k) \/
 ∃ Z8 ep k b,Rd H a (.dN Z8 ep)/\y=.ref b/\WR H b k/\r=YC Z8 k
def Tc (H:Hp)(a:Addr)(y v:V)(H':Hp):Prop :=
 (∃ Z8 k,H a=some (.dK Z8)/\y=kV k/\Z8.length<sizeLine/\H'=upd H a (.dK (putK Z8 k v))) \/
 ∃ Z8 k b,H a=some (.dT Z8)/\y=.ref b/\H b=some (.tup (k.map kV))/\Z8.length<sizeLine/\H'=upd H a (.dT (putK Z8 k v))
theorem Yq.k {H:Hp}{Z8:List (Key×V)}{k:Key}(e:H a=some (.dK Z8)):Yq H a (kV k) (YC Z8 k):=.inl ⟨Z8,k,.inl e,rfl,rfl⟩
def Yq.t {H:Hp}{Z8:List (List Key×V)}{k:List Key}(e:H a=some (.dT Z8))(eb:H b=some (.tup (k.map kV))):Yq H a (.ref b) (YC Z8 k):=.inr (.inl ⟨Z8,k,b,.inl e,rfl,eb,rfl⟩)
def Yq.n {H:Hp}{Z8:List (List (List Key)×V)}{ep:Nat}{k:List (List Key)}(e:H a=some (.dN Z8 ep))(eb:WR H b k):Yq H a (.ref b) (YC Z8 k):=.inr (.inr ⟨Z8,ep,k,b,.inl e,rfl,eb,rfl⟩)
theorem Tc.k {H:Hp}{Z8:List (Key×V)}{k:Key}{v:V}(e:H a=some (.dK Z8))(hl:Z8.length<sizeLine):Tc H a (kV k) v (upd H a (.dK (putK Z8 k v))):=.inl ⟨Z8,k,e,rfl,hl,rfl⟩
def Tc.t {H:Hp}{Z8:List (List Key×V)}{k:List Key}{v:V}(e:H a=some (.dT Z8))(eb:H b=some (.tup (k.map kV)))(hl:Z8.length<sizeLine) :
  Tc H a (.ref b) v (upd H a (.dT (putK Z8 k v))):=.inr ⟨Z8,k,b,e,rfl,eb,hl,rfl⟩
section
variable {X:Cx}{Z9:List (Addr×Obj)}{U:St}{H:Hp}{s:Shared}{a:Addr}{y v:V}{u r:Value}{o:Option V}{A:Around}{E:Value->Shared->Prop}
def Inv.big (I:Inv X Z9 U H s):sysModules<s.heap.objs.size:=by have h:mainGlobals<s.heap.objs.size:=(I.mod.glob.keeps I.bk).lt;exact Nat.lt_trans (by decide) h
def aC {Q:Value->Shared->Prop}(hu:A.units+2<cLine)(I:Inv X Z9 U H s)(g:Yq H a y (some v))(ry:RelV y u)(h:∀ w' s',Inv X Z9 U H s'->RelV v w'->Q w' s') :
  wpAny (model X.prog X.w) A (getItem (.ref a) u) Q E s:=by
 rcases g with⟨Z8,k,e,ey,l⟩|⟨Z8,k,b,e,ey,eb,l⟩|⟨Z8,ep,k,b,e,ey,eb,l⟩
 ·subst ey;obtain⟨z,hd,vs,rel,dd⟩:=Ri I.hok e;obtain⟨w',hw,rw'⟩:=X7.some_of (v:=v) (o:=valueAt vs k) (by rw[l];exact rel.val k);exact wpAny_getItem_of (Ru ry) dd.mapOf hw (h w' _ (I.tok _) rw')
 ·subst ey;cases(show u=Value.ref b from ry);obtain⟨z,hd,xs,rel,dd⟩:=R3 I.hok e;obtain⟨w',hw,rw'⟩:=X7.some_of (v:=v) (o:=(atKey xs k).map (·.2)) (by rw[l];exact rel.val k);obtain⟨p,hp,hp2⟩:=qZ.mp hw;refine wpAny_getItem_heap (tupleKind_room_in1 (Ua hu)) (Tw I.hok eb) dd hp ?_;rw[hp2];exact h w' _ (I.tok _) rw'
 ·subst ey;cases(show u=Value.ref b from ry);obtain⟨z,hd,xs,rel,dd⟩:=Rw I.hok e;obtain⟨w',hw,rw'⟩:=X7.some_of (v:=v) (o:=(atKey xs k).map (·.2)) (by rw[l];exact rel.val k);obtain⟨p,hp,hp2⟩:=qZ.mp hw;refine wpAny_getItem_heap (nest_room hu) (QC I.hok eb) dd hp ?_;rw[hp2];exact h w' _ (I.tok _) rw'
def mR {Q:Value->Shared->Prop}(hu:A.units+2<cLine)(I:Inv X Z9 U H s)(g:Yq H a y o)(ry:RelV y u)(h:∀ s',Inv X Z9 U H s'->Q (.bool o.isSome) s') :
  wpAny (model X.prog X.w) A (compareOp .In u (.ref a)) Q E s:=by
 rcases g with⟨Z8,k,e,ey,l⟩|⟨Z8,k,b,e,ey,eb,l⟩|⟨Z8,ep,k,b,e,ey,eb,l⟩
 ·subst ey;obtain⟨z,hd,vs,rel,dd⟩:=Ri I.hok e;refine wpAny_in_of (Ru ry) hd dd.mapOf ?_;rw[<- (rel.val k).isSome_eq,<- l];exact h _ (I.tok _)
 ·subst ey;cases(show u=Value.ref b from ry);obtain⟨z,hd,xs,rel,dd⟩:=R3 I.hok e;refine wpAny_in_heap (tupleKind_room_in1 (Ua hu)) (Tw I.hok eb) hd dd ?_;have q:=(rel.val k).isSome_eq;rw[Pa]at q;rw[<- q,<- l];exact h _ (I.tok _)
 ·subst ey;cases(show u=Value.ref b from ry);obtain⟨z,hd,xs,rel,dd⟩:=Rw I.hok e;refine wpAny_in_heap (nest_room hu) (QC I.hok eb) hd dd ?_;have q:=(rel.val k).isSome_eq;rw[Pa]at q;rw[<- q,<- l];exact h _ (I.tok _)
def cC {Q:Value->Shared->Prop}(hu:A.units+2<cLine)(I:Inv X Z9 U H s)(g:Yq H a y o)(ry:RelV y u)(h:∀ s',Inv X Z9 U H s'->Q (.bool (!o.isSome)) s') :
  wpAny (model X.prog X.w) A (compareOp .NotIn u (.ref a)) Q E s:=by
 rcases g with⟨Z8,k,e,ey,l⟩|⟨Z8,k,b,e,ey,eb,l⟩|⟨Z8,ep,k,b,e,ey,eb,l⟩
 ·subst ey;obtain⟨z,hd,vs,rel,dd⟩:=Ri I.hok e;refine wpAny_notIn_of (Ru ry) hd dd.mapOf ?_;rw[<- (rel.val k).isSome_eq,<- l];exact h _ (I.tok _)
 ·subst ey;cases(show u=Value.ref b from ry);obtain⟨z,hd,xs,rel,dd⟩:=R3 I.hok e;refine wpAny_notIn_heap (tupleKind_room_in1 (Ua hu)) (Tw I.hok eb) hd dd ?_;have q:=(rel.val k).isSome_eq;rw[Pa]at q;rw[<- q,<- l];exact h _ (I.tok _)
 ·subst ey;cases(show u=Value.ref b from ry);obtain⟨z,hd,xs,rel,dd⟩:=Rw I.hok e;refine wpAny_notIn_heap (nest_room hu) (QC I.hok eb) hd dd ?_;have q:=(rel.val k).isSome_eq;rw[Pa]at q;rw[<- q,<- l];exact h _ (I.tok _)
def Nb {t':Nat}{ob:HO}(I:Inv X Z9 U H s)(mu:Mx (H a))(hs:Heap.SameBut a s.heap h')(he:∃ q,h'.get? a=some q)(new:zU X.prog X.w (upd H a ob) h' a ob) :
  Inv X Z9 U (upd H a ob) { s with heap:=h',toks:=t' } :=
 I.write (x:=a) (e:=a) mu (.inl rfl) (fun b q hb z=>(hs.2 b hb).trans z) he new
def Bq {P:Program}{w:World}{H':Hp}{h':Heap}{Z8:List (Key×V)}(z:Z8.length<=sizeLine)(hd:(a==sysModules)=false)(rel:KV Z8 vs)(dd:h'.DictOf (zN P w) a vs) :
  zU P w H' h' a (.dK Z8):=⟨z,hd,vs,rel,dd⟩
def aQ {Q:Unit->Shared->Prop}(hu:A.units+2<cLine)(I:Inv X Z9 U H s)(g:Tc H a y v H')(ry:RelV y u)(rv:RelV v r)(h:∀ s',Inv X Z9 U H' s'->Q () s') :
  wpAny (model X.prog X.w) A (setItem (.ref a) u r) Q E s:=by
 rcases g with⟨Z8,k,e,ey,l,eH⟩|⟨Z8,k,b,e,ey,eb,l,eH⟩
 ·subst ey eH;obtain⟨z,hd,vs,rel,dd⟩:=vV I.hok e;have hz:vs.length<=sizeLine:=by rw[<- rel.length];exact z
  have hl:(putK Z8 k v).length<=sizeLine:=by have:=JT Z8 k v;lia
  refine wpAny_setItem_pairs (hsz:=hz) (Ru ry) dd fun h' dd' hs=>h _ ?_
  have he:∃ q,h'.get? a=some q:=let ⟨q,_,_,hq,_⟩:=dd';⟨q,hq⟩;exact Nb I (by rw[e];exact True.intro) hs he (Bq hl hd (rel.put k rv) dd')
 ·subst ey eH;cases(show u=Value.ref b from ry);obtain⟨z,hd,xs,rel,dd⟩:=tL I.hok e;have hz:xs.length<=sizeLine:=by rw[<- Paired.length rel];exact z
  have hl:(putK Z8 k v).length<=sizeLine:=by have:=JT Z8 k v;lia
  refine wpAny_setItem_heap (hsz:=hz) (tupleKind_room_in1 (Ua hu)) (Tw I.hok eb) dd fun h' dd' hs=>h _ ?_
  obtain⟨q,es,ep,hq,h2,h3,h4,_,h5⟩:=dd';refine Nb I (by rw[e];exact True.intro) hs ⟨q,hq⟩ ⟨hl,hd,_,(rel.put k eb rv).keeps fun c ys ec=>?_,q,es,ep,hq,h2,h3,h4,h5⟩;rw[zu (VP ec e (fun z=>nomatch z))];exact ec
end
section
variable {X:Cx}{Z9:List (Addr×Obj)}{U:St}{H:Hp}{s:Shared}{a:Addr}{Z8:List (Key×V)}{k:Key}{u:Value}{A:Around}{E:Value->Shared->Prop}
end
def Kq (i:Expr):Prop:=∀ ov iv,subscripted i false ov iv=operate [ov,iv] (getItem ov iv)
def zqJ {prog:Program}{w:World}{A:Around}{E:Value->Shared->Prop}{s:Shared}{env:Env}{value:Expr}{pos:Pos}{T id:String}{Q:Value->Shared->Prop}(hl:typeLookup (.type T) "__getitem__"=pure (some (.builtin id)))(hs:Kq slice)(h:wpAny (model prog w) A (eval value env) (fun o s₁=>wpAny (model prog w) A (eval slice env) (fun i s₂=>s₂.TypeIs o T/\wpAny (model prog w) A (getItem o i) Q E s₂) E s₁) E s) :
  wpAny (model prog w) A (eval (.Subscript value slice pos) env) Q E s:=by
 refine Subscript_ (wpAny_mono h (fun o s₁ h₁=>wpAny_mono h₁ (fun i s₂ h₂=>?_) fun _ _ x=>x) fun _ _ x=>x);obtain⟨hT,h₂⟩:=h₂;unfold subscriptTail;refine wpAny_bind ?_;rw[getitemInPython_of_ne hT.not_modules];refine wpAny_bind (wpAny_specialOf hT hl ?_)
 have fin:wpAny (model prog w) A (subscripted slice false o i) (fun r s₃=>wpAny (model prog w) A (letTemporaryGo value o r >>= fun _=>pure r) Q E s₃) E s₂:=by rw[hs o i];exact wpAny_operating (wpAny_mono h₂ (fun r s₃ h₃=>wpAny_bind (wpAny_letTemporaryGo (wpAny_pure h₃))) fun _ _ x=>x)
 first
  |exact wpAny_pure (wpAny_bind fin)
  |exact wpAny_bind (wpAny_pure (wpAny_bind fin))
  |exact wpAny_bind fin
def zj6 (I:Inv X Z9 U H s)(g:Yq H a y o):s.TypeIs (.ref a) "dict":=by
 rcases g with⟨Z8,k,e,_,_⟩|⟨Z8,k,b,e,_,_,_⟩|⟨Z8,ep,k,b,e,_,_,_⟩
 ·obtain⟨_,_,vs,_,dd⟩:=Ri I.hok e;exact dd.typeIs
 ·obtain⟨_,_,xs,_,dd⟩:=R3 I.hok e;exact dd.typeIs
 ·obtain⟨_,_,xs,_,dd⟩:=Rw I.hok e;exact dd.typeIs
def kW (td ty:TE):TE:=fun U H Q=>td U H fun x H1=>ty U H1 fun y H2=>∃ a v,x=.ref a/\Yq H2 a y (some v)/\Q v H2
def zxX (ty td:TE):TE:=fun U H Q=>ty U H fun y H1=>td U H1 fun x H2=>∃ a o,x=.ref a/\Yq H2 a y o/\Q (.bl o.isSome) H2
def eY (ty td:TE):TE:=fun U H Q=>ty U H fun y H1=>td U H1 fun x H2=>∃ a o,x=.ref a/\Yq H2 a y o/\Q (.bl (!o.isSome)) H2
def Ī (td ty tv:TE):TS:=fun D U H=>tv U H fun v H1=>td U H1 fun x H2=>ty U H2 fun y H3=>∃ a H4,x=.ref a/\Tc H3 a y v H4/\D.nx U H4
section
variable {X:Cx}{o i e value:Expr}{pos pos' tpos:Pos}{td ty tv:TE}
def zrb (hu:X.A.units+2<cLine)(ho:PE X o td)(hi:PE X i ty)(hs:Kq i):PE X (.Subscript o i pos) (kW td ty):=by intro Z9 s U H Q I h;refine zqJ PySem.F.slot_dict_getitem.lookup hs (Z2 (ho Z9 s U H _ I h) fun u s1 ⟨x,H1,I1,rx,q1⟩=>Z2 (hi Z9 s1 U H1 _ I1 q1) fun iv s2 ⟨y,H2,I2,ry,a,v,ex,g,q2⟩=>?_);subst ex;obtain rfl:u=Value.ref a:=rx;exact⟨zj6 I2 g,aC hu I2 g ry fun w' s3 I3 rw'=>⟨v,H2,I3,rw',q2⟩⟩
def oh (hu:X.A.units+2<cLine)(hi:PE X i ty)(ho:PE X o td):PC X .In i o (zxX ty td):=by
 intro Z9 s U H Q I h;refine Z2 (hi Z9 s U H _ I h) fun iv s1 ⟨y,H1,I1,ry,q1⟩=>Z2 (ho Z9 s1 U H1 _ I1 q1) fun u s2 ⟨x,H2,I2,rx,a,ov,ex,g,q2⟩=>?_
 subst ex;obtain rfl:u=Value.ref a:=rx;exact mR hu I2 g ry fun s3 I3=>⟨.bl ov.isSome,H2,I3,rfl,q2⟩
def rH (hu:X.A.units+2<cLine)(hi:PE X i ty)(ho:PE X o td):PC X .NotIn i o (eY ty td):=by
 intro Z9 s U H Q I h;refine Z2 (hi Z9 s U H _ I h) fun iv s1 ⟨y,H1,I1,ry,q1⟩=>Z2 (ho Z9 s1 U H1 _ I1 q1) fun u s2 ⟨x,H2,I2,rx,a,ov,ex,g,q2⟩=>?_
 subst ex;obtain rfl:u=Value.ref a:=rx;exact cC hu I2 g ry fun s3 I3=>⟨.bl (!ov.isSome),H2,I3,rfl,q2⟩
def ć (hu:X.A.units+2<cLine)(ho:PE X o td)(hi:PE X i ty)(hv:PE X value tv)(hs:swapsWith value (some (.Subscript o i pos')) pos.line X.env=pure false) :
  PS X (.Assign [.Subscript o i pos'] value pos) (Ī td ty tv):=by
 intro Z9 s U H D I h;refine wpAny_Assign_Subscript (Z2 (hv Z9 s U H _ I h) fun r s1 ⟨v,H1,I1,rv,q1⟩=>Z2 (ho Z9 s1 U H1 _ I1 q1) fun u s2 ⟨x,H2,I2,rx,q2⟩=>Z2 (hi Z9 s2 U H2 _ I2 q2) fun iv s3 ⟨y,H3,I3,ry,a,H4,ex,g,q3⟩=>?_) hs;subst ex;obtain rfl:u=Value.ref a:=rx;exact aQ hu I3 g ry rv fun s4 I4=>⟨U,H4,I4,q3⟩
end
def yX {P:Program}{w:World}{H:Hp}(h:Heap)(hb:sysModules<h.objs.size):zU P w H (h.push { cls:=.type "dict",data:=.dict #[] }) h.objs.size (.dK []) :=⟨qY _,beq_eq_false_iff_ne.mpr (Ne.symm (qS hb)),[],.nil,Heap.DictOf.new h⟩
def wL {P:Program}{w:World}{H:Hp}(h:Heap)(hb:sysModules<h.objs.size):zU P w H (h.push { cls:=.type "dict",data:=.dict #[] }) h.objs.size (.dT []) :=⟨qY _,beq_eq_false_iff_ne.mpr (Ne.symm (qS hb)),[],.nil,_,#[],0,ql _ rfl,⟨rfl,rfl,rfl⟩,rfl,rfl,List.nodup_nil⟩
def jh:TE:=fun _ H Q=>∀ p,H p=none->Q (.ref p) (upd H p (.dK []))
def mL:TE:=fun _ H Q=>∀ p,H p=none->Q (.ref p) (upd H p (.dT []))
section
variable {X:Cx}{pos:Pos}
def bF:PE X (.Dict [] [] pos) jh:=fun Z9 s U H Q I h =>wpAny_Dict_empty ⟨.ref s.heap.objs.size,_,I.laid (a:=s.heap.objs.size) (o:=.dK []) (t':=s.toks) (fun _ _ q=>qd _ q) (qh _) (yX s.heap I.big),rfl,h _ (I.hok.fresh (qh _))⟩
def ϊ:PE X (.Dict [] [] pos) mL:=fun Z9 s U H Q I h =>wpAny_Dict_empty ⟨.ref s.heap.objs.size,_,I.laid (a:=s.heap.objs.size) (o:=.dT []) (t':=s.toks) (fun _ _ q=>qd _ q) (qh _) (wL s.heap I.big),rfl,h _ (I.hok.fresh (qh _))⟩
end
def FP:List (TE×TE)->St->Hp->(List (V×V)->Hp->Prop)->Prop
 |[],_,H,Q=>Q [] H
 |(tk,tv)::r,U,H,Q=>tk U H fun x H1=>tv U H1 fun y H2=>FP r U H2 fun ps H3=>Q ((x,y)::ps) H3
abbrev VV:List (V×V)->List (Value×Value)->Prop:=Paired fun p q=>RelV p.1 q.1/\RelV p.2 q.2
def KQ (X:Cx)(pos:Pos)(keys:List (Option Expr))(values:List Expr)(trs:List (TE×TE)):Prop :=
 ∀ (Z9:List (Addr×Obj)) (s:Shared) (U:St) (H:Hp) (Q:List (V×V)->Hp->Prop),Inv X Z9 U H s->FP trs U H Q ->
  wpAny (model X.prog X.w) X.A (evalPairs (pairTrees keys values X.env pos)) (fun vs s'=>∃ ps H',Inv X Z9 U H' s'/\VV ps vs/\Q ps H') X.xe s
def fX {X:Cx}{pos:Pos}:KQ X pos [] [] []:=fun Z9 s U H Q I h=>pairTrees_nil_walk ⟨[],H,I,.nil,h⟩
def Ö {k:Expr}{tk:TE}(hk:PE X k tk)(hv:PE X v tv)(hr:KQ X pos ks vs trs) :
  KQ X pos (some k::ks) (v::vs) ((tk,tv)::trs):=fun Z9 s U H Q I h =>
 pairTrees_cons_walk (Z2 (hk Z9 s U H _ I h) fun u s1 ⟨x,H1,I1,rx,q1⟩=>Z2 (hv Z9 s1 U H1 _ I1 q1) fun w2 s2 ⟨y,H2,I2,ry,q2⟩ =>Z2 (hr Z9 s2 U H2 _ I2 q2) fun ws s3 ⟨ps,H3,I3,rel,q3⟩=>⟨(x,y)::ps,H3,I3,.cons ⟨rx,ry⟩ rel,q3⟩)
def Le (Z8 more:List (Key×V)):List (Key×V):=more.foldl (fun acc kv=>putK acc kv.1 kv.2) Z8
def KV.merge:∀ {more:List (Key×V)} {rs:List (Key×Value)} {Z8:List (Key×V)} {vs:List (Key×Value)},KV more rs->KV Z8 vs->KV (Le Z8 more) (merged vs rs):=by
 intro more rs Z8 vs r;unfold KV at r
 induction r generalizing Z8 vs with
 |nil=>intro q;exact q
 |@cons p q ps qs h t ih =>
  intro r0
  have e:KV (putK Z8 p.1 p.2) (stored vs q.1 q.2):=by have:=r0.put p.1 h.2;rw[<- h.1];exact this
  exact ih e
theorem sy:∀ (more Z8:List (Key×V)),(Le Z8 more).length<=Z8.length+more.length
 |[],Z8=>by show Z8.length<=Z8.length+0;lia
 |p::r,Z8=>by have h1:=sy r (putK Z8 p.1 p.2);have h2:=JT Z8 p.1 p.2;show(Le (putK Z8 p.1 p.2) r).length<=_;rw[qT];lia
theorem vq {P:Program}{w:World}:∀ {Z8:List (Key×V)} {ws:List (Value×Value)},VV (Z8.map fun kv=>(kV kv.1,kv.2)) ws->∃ rs,Carries (zN P w) ws rs/\KV Z8 rs
 |[],_,r=>by rw[QD]at r;cases r;exact⟨[],True.intro,.nil⟩
 |p::Z8,_,r=>by
  rw[qO]at r;cases r with
  |@cons a b as bs h t =>obtain⟨rs,c,q⟩:=vq (P:=P) (w:=w) t;obtain⟨b1,b2⟩:=b;exact⟨(p.1,b2)::rs,⟨Ru h.1,rfl,c⟩,.cons ⟨rfl,h.2⟩ q⟩
def nq (trs:List (TE×TE)):TE:=fun U H Q=>∀ p,H p=none->FP trs U (upd H p (.dK [])) fun ps H2=>H2 p=some (.dK [])/\∃ Z8:List (Key×V),ps=Z8.map (fun kv=>(kV kv.1,kv.2))/\Z8.length<=15/\Q (.ref p) (upd H2 p (.dK (Le [] Z8)))
def zp3 (h:KQ X pos keys values trs)(hall:keys.all (·.isSome)=true)(hl:keys.length=values.length)(h0:keys≠[])(h15:keys.length<=15):PE X (.Dict keys values pos) (nq trs):=by
 intro Z9 s U H Q I q;have hn:=I.hok.fresh (qh s.heap.objs.size);have I1:=I.laid (a:=s.heap.objs.size) (o:=.dK []) (h':=s.heap.push { cls:=.type "dict",data:=.dict #[] }) (t':=s.toks) (fun _ _ q=>qd _ q) (qh _) (yX s.heap I.big);refine wpAny_Dict_walk (knd:=zN X.prog X.w) hall hl h0 h15 (Z2 (h Z9 _ U _ _ I1 (q _ hn)) fun ws s2 ⟨ps,H2,I2,rel,e,Z8,ep,lk,q2⟩=>?_);subst ep;obtain⟨rs,c,rk⟩:=vq (P:=X.prog) (w:=X.w) rel;obtain⟨z,hd,vs0,r0,dd⟩:=vV I2.hok e;cases r0;refine⟨rs,c,dd,fun h' dd' hs=>⟨.ref s.heap.objs.size,_,?_,rfl,q2⟩⟩
 have hz:(Le [] Z8).length<=sizeLine:=by have h1:=sy Z8 [];rw[OJ]at h1;rw[sizeLine_eq];lia
 have he:∃ q,h'.get? s.heap.objs.size=some q:=by obtain⟨q,_,_,hq,_⟩:=dd';exact⟨q,hq⟩
 exact Nb I2 (by rw[e];exact True.intro) hs he (Bq hz hd (rk.merge .nil) dd')
structure M1 (X:Cx)(o:Expr)(m:Str)(apos:Pos)(e:Expr)(cpos:Pos):Prop where
 base:attributeBase o m X.env (eval o X.env)=eval o X.env
 few:((backTo cpos (starEach [e] X.env)).all (fun x=>!x.1)&&(backToKw cpos (keywordEach [] X.env)).all (fun x=>x.1.isSome)
 &&decide (([e]:List Expr).length+([]:List Keyword).length+(if([]:List Keyword).isEmpty then 0 else 1)<30))=true
 line:(apos.endLine==cpos.line)=true
 trees:backTo cpos (starEach [e] X.env)=[(false,eval e X.env)]
structure M2 (X:Cx)(o:Expr)(m:Str)(apos:Pos)(e f:Expr)(cpos:Pos):Prop where
 base:attributeBase o m X.env (eval o X.env)=eval o X.env
 few:((backTo cpos (starEach [e,f] X.env)).all (fun x=>!x.1)&&(backToKw cpos (keywordEach [] X.env)).all (fun x=>x.1.isSome)
 &&decide (([e,f]:List Expr).length+([]:List Keyword).length+(if([]:List Keyword).isEmpty then 0 else 1)<30))=true
 line:(apos.endLine==cpos.line)=true
 trees:backTo cpos (starEach [e,f] X.env)=[(false,eval e X.env),(false,eval f X.env)]
def GD (H:Hp)(a:Addr):Prop:=(∃ Z8,Rd H a (.dK Z8))\/(∃ Z8,Rd H a (.dT Z8))\/∃ Z8 ep,Rd H a (.dN Z8 ep)
def uP (I:Inv X Z9 U H s)(d:GD H a) :
  s.TypeIs (.ref a) "dict"/\(∀ b,Value.ref a=.ref b->∃ ob,s.heap.get? b=some ob/\ob.dict=none)/\(a==sysModules)=false:=by
 rcases d with⟨Z8,e⟩|⟨Z8,e⟩|⟨Z8,ep,e⟩
 ·obtain⟨_,hd,vs,_,dd⟩:=Ri I.hok e;refine⟨dd.typeIs,fun b q=>?_,hd⟩;cases q;obtain⟨ob,_,_,h1,h2,_⟩:=dd;exact⟨ob,h1,h2.2.1⟩
 ·obtain⟨_,hd,xs,_,dd⟩:=R3 I.hok e;refine⟨dd.typeIs,fun b q=>?_,hd⟩;cases q;obtain⟨ob,_,_,h1,h2,_⟩:=dd;exact⟨ob,h1,h2.2.1⟩
 ·obtain⟨_,hd,xs,_,dd⟩:=Rw I.hok e;refine⟨dd.typeIs,fun b q=>?_,hd⟩;cases q;obtain⟨ob,_,_,h1,h2,_⟩:=dd;exact⟨ob,h1,h2.2.1⟩
section
variable {X:Cx}{Z9:List (Addr×Obj)}{U:St}{H:Hp}{s:Shared}{a:Addr}{y d:V}{u r:Value}{o:Option V}{A:Around}{E:Value->Shared->Prop}
def mJ {Q:Value->Shared->Prop}(hu:A.units+2<cLine)(I:Inv X Z9 U H s)(g:Yq H a y o)(ry:RelV y u)(rd:RelV d r)(h:∀ w' s',Inv X Z9 U H s'->RelV (o.getD d) w'->Q w' s') :
  wpAny (model X.prog X.w) A (call (.builtin "dict.get") [.ref a,u,r]) Q E s:=by
 rcases g with⟨Z8,k,e,ey,l⟩|⟨Z8,k,b,e,ey,eb,l⟩|⟨Z8,ep,k,b,e,ey,eb,l⟩
 ·subst ey;obtain⟨z,hd,vs,rel,dd⟩:=Ri I.hok e;refine call_meetsIn PySem.F.slot_dict_get dd.typeIs PySem.F.entry_dict_get (PySem.F.args_dict_get_3 _ _ _) (meets_dict_get_default (zN X.prog X.w) a (Ru ry) hd r) ⟨_,dd.mapOf,h _ _ (I.tok _) ?_⟩;rw[l];exact(rel.val k).getD rd
 ·subst ey;cases(show u=Value.ref b from ry);obtain⟨z,hd,xs,rel,dd⟩:=R3 I.hok e;refine call_meetsIn PySem.F.slot_dict_get dd.typeIs PySem.F.entry_dict_get (PySem.F.args_dict_get_3 _ _ _) (meetsH_dict_get_default (tupleKind (zN X.prog X.w)) a b hd r) ⟨tupleKind_room_in1 (Ua hu),k,xs,Tw I.hok eb,dd,h _ _ (I.tok _) ?_⟩;rw[l];exact(rel.val k).getD rd
 ·subst ey;cases(show u=Value.ref b from ry);obtain⟨z,hd,xs,rel,dd⟩:=Rw I.hok e;refine call_meetsIn PySem.F.slot_dict_get dd.typeIs PySem.F.entry_dict_get (PySem.F.args_dict_get_3 _ _ _) (meetsH_dict_get_default (My.Ur (zN X.prog X.w)) a b hd r) ⟨nest_room hu,k,xs,QC I.hok eb,dd,h _ _ (I.tok _) ?_⟩;rw[l];exact(rel.val k).getD rd
end
def jP (td ty tx:TE):TE:=fun U H Q=>td U H fun x H1=>∃ a,x=.ref a/\GD H1 a/\ty U H1 fun y H2=>tx U H2 fun z H3=>∃ o,Yq H3 a y o/\Q (o.getD z) H3
section
variable {X:Cx}{o e f:Expr}{apos cpos:Pos}{td ty tx:TE}
def ς (hu:X.A.units+2<cLine)(ho:PE X o td)(he:PE X e ty)(hf:PE X f tx)(m:M2 X o "get" apos e f cpos):PE X (.Call (.Attribute o "get" apos) [e,f] [] cpos) (jP td ty tx):=by
 intro Z9 s U H Q I h;refine wpAny_Call_method m.base m.few m.line PySem.F.plainAttrs_dict PySem.F.slot_dict_get PySem.F.type_dict_get (Z2 (ho Z9 s U H _ I h) fun u s1 ⟨x,H1,I1,rx,a,ex,d,q1⟩=>?_);subst ex;obtain rfl:u=Value.ref a:=rx;obtain⟨t1,t2,_⟩:=uP I1 d;refine⟨t1,t2,?_⟩;rw[m.trees]
 refine Calls.callWith_builtin rfl (Calls.evalArgs_plain (Calls.spliced_cons (Z2 (he Z9 s1 U H1 _ I1 q1) fun iv s2 ⟨y,H2,I2,ry,q2⟩ =>Calls.spliced_cons (Z2 (hf Z9 s2 U H2 _ I2 q2) fun fv s3 ⟨z,H3,I3,rz,ov,g,q3⟩=>Calls.spliced_nil ?_))))
 exact mJ hu I3 g ry rz fun w' s4 I4 rw'=>⟨_,H3,I4,rw',q3⟩
end
section
variable {X:Cx}{Z9:List (Addr×Obj)}{U:St}{H:Hp}{s:Shared}{a:Addr}{Z8:List (Key×V)}{A:Around}{E:Value->Shared->Prop}
end
section
variable {X:Cx}{Z9:List (Addr×Obj)}{U:St}{H:Hp}{s:Shared}{a:Addr}{y:V}{u:Value}{A:Around}{E:Value->Shared->Prop}
end
def Ú {P:Program}{w:World}{H:Hp}(h:Heap)(hb:sysModules<h.objs.size):zU P w H (h.push { cls:=.type "dict",data:=.dict #[] }) h.objs.size (.dN [] 0) :=⟨qY _,beq_eq_false_iff_ne.mpr (Ne.symm (qS hb)),[],.nil,_,#[],ql _ rfl,⟨rfl,rfl,rfl⟩,rfl,rfl,List.nodup_nil⟩
def gW:TE:=fun _ H Q=>∀ p,H p=none->Q (.ref p) (upd H p (.dN [] 0))
section
variable {X:Cx}{pos:Pos}
def jq:PE X (.Dict [] [] pos) gW:=fun _ s _ _ _ I h =>wpAny_Dict_empty ⟨.ref s.heap.objs.size,_,I.laid (a:=s.heap.objs.size) (o:=.dN [] 0) (t':=s.toks) (fun _ _ q=>qd _ q) (qh _) (Ú s.heap I.big),rfl,h _ (I.hok.fresh (qh _))⟩
def ũ {K:Type}[DecidableEq K]{prog:Program}{w:World}{knd:HeapKind prog w K}{A:Around}{E:Value->Shared->Prop}{s:Shared}{env:Env}{k v:Expr}{Q:Value->Shared->Prop}(hu:knd.room A)
  (h:wpAny (model prog w) A (eval k env) (fun kv s1=>wpAny (model prog w) A (eval v env) (fun vv s2=>∃ b x,kv=.ref b/\knd.is s2.heap x b/\s2.heap.DictOfH knd s.heap.objs.size [] /\
   ∀ h' t,h'.DictOfH knd s.heap.objs.size [(x,b,vv)]->Heap.SameBut s.heap.objs.size s2.heap h'->Q (.ref s.heap.objs.size) { s2 with heap:=h',toks:=t }) E s1) E { s with heap:=s.heap.push { cls:=.type "dict",data:=.dict #[] } }) :
  wpAny (model prog w) A (eval (.Dict [some k] [v] pos) env) Q E s:=by
 have n:(pairTrees [some k] [v] env pos).length=1:=pairTrees_length _ _ env pos rfl rfl;rw[arm_eval_Dict,zip_pairTrees _ _ env pos rfl rfl,dictDisplay_pairs _ (fun e=>by rw[e]at n;cases n) (by lia)];refine wpAny_bind (wpAny_standAt (wpAny_bind ?_));unfold subDict;refine wpAny_bind (wpAny_alloc (wpAny_bind (wpAny_holding ?_)));rw[if_pos (by lia)];refine wpAny_bind (pairTrees_cons_walk (wpAny_mono h (fun kv s1 h1=>wpAny_mono h1 (fun vv s2 h2=>pairTrees_nil_walk (wpAny_holding ?_)) fun _ _ e=>e) fun _ _ e=>e));obtain⟨b,x,rfl,hx,hd,q⟩:=h2;rw[KC];refine wpAny_bind (wpAny_bind ?_);show wpAny _ _ (dictSet s.heap.objs.size (.ref b) vv >>= _) _ _ _;refine wpAny_bind (wpAny_dictSet_heap hu hx hd fun h' hd' sb=>wpAny_pure ?_);show wpAny _ _ (forIn [] _ _) _ _ _;rw[NK];exact wpAny_pure (wpAny_pure (wpAny_pure (wpAny_pure (q h' _ hd' sb))))
def aH (tk tv:TE):TE:=fun U H Q=>∀ p,H p=none->tk U (upd H p (.dT [])) fun x H1=>tv U H1 fun y H2=>∃ b ks,x=.ref b/\H2 b=some (.tup (ks.map kV))/\H2 p=some (.dT [])/\Q (.ref p) (upd H2 p (.dT [(ks,y)]))
def ī {tk:TE}(hr:X.A.units+2<cLine)(hk:PE X a tk)(hv:PE X b tv):PE X (.Dict [some a] [b] pos) (aH tk tv):=by intro Z9 s U H Q I q;have I1:=I.laid (a:=s.heap.objs.size) (o:=.dT []) (h':=s.heap.push { cls:=.type "dict",data:=.dict #[] }) (t':=s.toks) (fun _ _ q=>qd _ q) (qh _) (wL s.heap I.big);refine ũ (knd:=tupleKind (zN X.prog X.w)) (show X.A.units<cLine by lia) (Z2 (hk Z9 _ U _ _ I1 (q _ (I.hok.fresh (qh s.heap.objs.size)))) fun u s1 ⟨x,H1,I2,rx,q1⟩=>Z2 (hv Z9 s1 U H1 _ I2 q1) fun u2 s2 ⟨y,H2,I3,ry,c,ks,ex,hc,hp,q2⟩=>?_);subst ex;cases(show u=Value.ref c from rx);obtain⟨z,hd,xs,rel,dd⟩:=tL I3.hok hp;cases rel;refine⟨c,ks,rfl,Tw I3.hok hc,dd,fun h' t dd' hs=>⟨.ref s.heap.objs.size,_,?_,rfl,q2⟩⟩;obtain⟨o,es,ep,ho,h2,h3,h4,_,h5⟩:=dd';refine Nb I3 (by rw[hp];exact True.intro) hs ⟨o,ho⟩ ⟨by rw[sizeLine_eq];exact qG rfl,hd,[(ks,c,u2)],.cons ⟨rfl,?_,ry⟩ .nil,o,es,ep,ho,h2,h3,h4,h5⟩;rw[zu (VP hc hp (fun z=>nomatch z))];exact hc
end
section
variable {prog:Program}{w:World}{A:Around}{E:Value->Shared->Prop}{s:Shared}{it d:Addr}{i ep:Nat}{es:Array DictEntry}{ok ov:Value}
def Sg (h:Heap)(d:Addr)(es:Array DictEntry)(ep:Nat):Prop:=∃ o,h.get? d=some o/\o.cls=.type "dict"/\o.data=.dict es ep
def Sg.at {h':Heap}(x:Sg h d es ep)(e:∀ o,h.get? d=some o->h'.get? d=some o):Sg h' d es ep:=by obtain⟨o,a,b⟩:=x;exact⟨o,e _ a,b⟩
def fK (d:Addr)(hd:(d==sysModules)=false):MeetsIn prog w (Builtin.«dict.items» ⟨[.ref d],[]⟩) (fun _ R s=>s.TypeIs (.ref d) "dict"/\R (.ok (.ret (.ref s.heap.objs.size))) { s with heap:=s.heap.push { cls:=.type "dict_items",data:=.fields #[.ref d] } }) :=
 .of_wp fun A R s zq11=>by obtain⟨t,h⟩:=zq11;unfold Builtin.«dict.items» Builtin.Dict.noArgs;refine wpAny_bind (wpAny_bind (wpAny_notOrdered_dict t (wpAny_pure ?_)));show wpAny _ _ (Builtin.Dict.showsAll d >>= _) _ _ s;unfold Builtin.Dict.showsAll;rw[hd,if_neg qo];exact wpAny_bind (wpAny_pure (wpAny_bind (wpAny_newObj_type (wpAny_pure ⟨_,rfl,h⟩))))
def BR:Builtin.Dict_items.ownsTuple "dict_itemiterator"=true:=by decide
def Ŗ {v:Addr}{Q:Value->Shared->Prop}(hv:s.heap.IsItemsView v d)(hm:Sg s.heap d es ep)
  (hQ:Q (.ref s.heap.objs.size) { s with heap:=s.heap.push { cls:=.type "dict_itemiterator",data:=.fields #[.none,.bool false,.ref d,.int 0 0,.int es.size 0,.int ep 0,.none,.none] } }):wpAny (model prog w) A (pyIter (.ref v)) Q E s:=by
 obtain⟨_,v1,_,v3⟩:=id hv;obtain⟨o,m1,_,m2⟩:=hm;refine wpAny_pyIter_slot hv.typeIs F.slot_dict_items_iter (wpAny_call_entry F.slot_dict_items_iter hv.typeIs F.entry_dict_items_iter ?_ (F.args_dict_items_iter_1 _));unfold Builtin.«dict_items.__iter__» Builtin.Dict_items.dictOf Builtin.Dict_items.newIterator;refine wpAny_bind (wpAny_pure (wpAny_bind (wpAny_bind (wpAny_field v1 v3 (x:=.ref d) rfl (wpAny_pure ?_)))));refine wpAny_bind (wpAny_bind (wpAny_dictEntries m1 m2 (wpAny_bind (wpAny_dictEpoch m1 m2 ?_))));simp only[BR,if_true];refine wpAny_newObj_type (wpAny_pure ⟨_,rfl,"dict_itemiterator",_,⟨_,ql _ rfl,rfl⟩,F.slot_dict_itemiterator_next.lookup,?_⟩) (by simp only[sizeOk,Builtin.Dict_items.ownedTupleFields,qk,qf,qT,OJ,sizeLine_eq];lia);simpa [rawInt,Builtin.Dict_items.ownedTupleFields]using hQ
def zkX {e:DictEntry}{Q:Option Value->Shared->Prop}(hit:IsItemIter s.heap it d i es.size ep ok ov)(hm:Sg s.heap d es ep)(hx:es[i]?=some e)
  (hQ:∀ h',IsItemIterOut h' it d (i+1) es.size ep e.key e.val s.heap.objs.size->h'.get? s.heap.objs.size=some { cls:=.type "tuple",data:=.seq #[e.key,e.val] }->(∀ b o,b≠it->s.heap.get? b=some o->h'.get? b=some o)->Q (some (.ref s.heap.objs.size)) { s with heap:=h' }) :
  wpAny (model prog w) A (pyNext (.ref it)) Q E s:=by
 obtain⟨hp,g,dr,tk,os⟩:=s;obtain⟨o,m1,_,m2⟩:=hm;have t0:Shared.TypeIs ⟨hp,g,dr,tk,os⟩ (.ref it) "dict_itemiterator":=⟨_,hit,rfl⟩
 have li:i<es.size:=(Array.getElem?_eq_some_iff.mp hx).1;unfold pyNext;refine wpAny_bind (wpAny_attempt (wpAny_callSpecial?_slot (name:=Str.ofString "__next__") t0 F.slot_dict_itemiterator_next (wpAny_call_entry F.slot_dict_itemiterator_next t0 F.entry_dict_itemiterator_next ?_ (F.args_dict_itemiterator_next_1 _))));refine wpAny_bind (wpAny_pure (wpAny_bind (wpAny_bind ?_)));refine wpAny_bind (wpAny_typeNameOfWhole_itemiter t0 (wpAny_pure (wpAny_bind (wpAny_fieldsOf hit rfl ?_))));simp only[BR,if_true];show wpAny _ _ (if(Value.ref d==Value.none)=true then _ else _) _ _ _;rw[if_neg (fun z:(Value.ref d==Value.none)=true=>qo z)];refine wpAny_bind (wpAny_pure (wpAny_bind (wpAny_dictEntries m1 m2 ?_)));rw[if_neg (by simp)];refine wpAny_bind (wpAny_pure (wpAny_bind (wpAny_dictEpoch m1 m2 ?_)));rw[if_neg (by simp)];refine wpAny_pure ?_;simp only[show ¬ ((i:Int)<0)from by lia,if_false,Mv,hx];refine wpAny_bind (wpAny_bind (wpAny_typeNameOfWhole_itemiter t0 (wpAny_pure (wpAny_bind (wpAny_isOneOf_itemiter t0 ?_)))));show wpAny _ _ (setField (.ref it) 3 (rawInt ((i:Int)+1)) >>= _) _ _ ⟨hp,g,dr,tk,os⟩;refine wpAny_bind (wpAny_setField_rec hit (by simp) fun h1 e1 s1=>?_);have s1':Heap.SameBut it hp h1:=s1
 have e1':IsItemIter h1 it d (i+1) es.size ep ok ov:=by
  have z:((i+1:Nat):Int)=(i:Int)+1:=by lia
  unfold IsItemIter;rw[z];simpa [rawInt]using e1
 have t1:Shared.TypeIs ⟨h1,g,dr,tk,os⟩ (.ref it) "dict_itemiterator":=⟨_,e1',rfl⟩
 refine wpAny_bind (wpAny_holding (wpAny_bind (wpAny_isOneOf_itemiter t1 (wpAny_bind (wpAny_isOneOf_itemiter t1 ?_)))));show wpAny _ _ (Builtin.Dict_items.pairFromOwner (.ref it) 6 e.key e.val) _ _ ⟨h1,g,dr,tk,os⟩;unfold Builtin.Dict_items.pairFromOwner;refine wpAny_bind (wpAny_newTuple ?_);have z1:h1.objs.size=hp.objs.size:=s1'.1;have e2:IsItemIter (h1.push { cls:=.type "tuple",data:=.seq #[e.key,e.val] }) it d (i+1) es.size ep ok ov:=qd _ e1';have p2:(h1.push { cls:=.type "tuple",data:=.seq #[e.key,e.val] }).get? hp.objs.size=some { cls:=.type "tuple",data:=.seq #[e.key,e.val] }:=by rw[<- z1];exact ql _ rfl
 have k2:∀ b o,b≠it->hp.get? b=some o->(h1.push { cls:=.type "tuple",data:=.seq #[e.key,e.val] }).get? b=some o:=fun b o hb q=>qd _ (s1'.extBut b o hb q)
 generalize h1.push { cls:=.type "tuple",data:=.seq #[e.key,e.val] }=h2 at e2 p2 k2;show wpAny _ _ (Builtin.Dict_items.ownedTupleIsFree (.ref it) >>= _) _ _ ⟨h2,g,dr,tk,os⟩;rw[z1];have ne:hp.objs.size≠it:=Wt (qA hit);unfold Builtin.Dict_items.ownedTupleIsFree;refine wpAny_bind (wpAny_bind (wpAny_field e2 rfl (x:=.none) rfl (wpAny_pure ?_)));simp only[if_true];refine wpAny_bind (wpAny_field e2 rfl (x:=ok) rfl (wpAny_bind (wpAny_field e2 rfl (x:=ov) rfl ?_)));refine wpAny_bind (wpAny_setField_rec e2 (by simp) fun h3 e3 s3=>wpAny_bind (wpAny_setField_rec (s:=⟨h3,g,dr,tk,os⟩) e3 (by simp) fun h4 e4 s4=>wpAny_bind (wpAny_setField_rec (s:=⟨h4,g,dr,tk,os⟩) e4 (by simp) fun h5 e5 s5=>wpAny_bind (wpAny_setField_rec (s:=⟨h5,g,dr,tk,os⟩) e5 (by simp) fun h6 e6 s6=>?_))));have up:∀ b o,b≠it->h2.get? b=some o->h6.get? b=some o:=fun b o hb q=>s6.extBut b o hb (s5.extBut b o hb (s4.extBut b o hb (s3.extBut b o hb q)))
 exact wpAny_bind (wpAny_letGo (wpAny_pure (wpAny_pure ⟨_,rfl,wpAny_pure (hQ h6 e6 (up _ _ ne p2) fun b o hb q=>up b o hb (k2 b o hb q))⟩)))
def Μ {Q:Option Value->Shared->Prop}(hh:A.handled=none)(hit:IsItemIter s.heap it d es.size es.size ep ok ov)(hm:Sg s.heap d es ep)(hQ:∀ h',Heap.ExtBut it s.heap h'->Q none { s with heap:=h' }):wpAny (model prog w) A (pyNext (.ref it)) Q E s:=by
 obtain⟨o,m1,_,m2⟩:=hm;have t0:s.TypeIs (.ref it) "dict_itemiterator":=⟨_,hit,rfl⟩
 unfold pyNext;refine wpAny_bind (wpAny_attempt (wpAny_callSpecial?_slot (name:=Str.ofString "__next__") t0 F.slot_dict_itemiterator_next (wpAny_call_entry F.slot_dict_itemiterator_next t0 F.entry_dict_itemiterator_next ?_ (F.args_dict_itemiterator_next_1 _))));refine wpAny_bind (wpAny_pure (wpAny_bind (wpAny_bind ?_)));refine wpAny_bind (wpAny_typeNameOfWhole_itemiter t0 (wpAny_pure (wpAny_bind (wpAny_fieldsOf hit rfl ?_))));simp only[BR,if_true];show wpAny _ _ (if(Value.ref d==Value.none)=true then _ else _) _ _ _;rw[if_neg (fun z:(Value.ref d==Value.none)=true=>qo z)];refine wpAny_bind (wpAny_pure (wpAny_bind (wpAny_dictEntries m1 m2 ?_)));rw[if_neg (by simp)];refine wpAny_bind (wpAny_pure (wpAny_bind (wpAny_dictEpoch m1 m2 ?_)));rw[if_neg (by simp)];refine wpAny_pure ?_;simp only[show ¬ ((es.size:Int)<0)from by lia,if_false,Mv,Array.getElem?_eq_none (qh es.size)];refine wpAny_bind (wpAny_bind (wpAny_typeNameOfWhole_itemiter t0 (wpAny_pure ?_)));show wpAny _ _ (setField (.ref it) 2 .none >>= _) _ _ s;refine wpAny_bind (wpAny_setField hit rfl (by simp) ?_);show wpAny _ _ (newExc (.type "StopIteration") [] >>= _) _ _ _;refine wpAny_bind ?_;simp only[newExc,newTuple];refine wpAny_bind (wpAny_newObj_type (wpAny_bind (m:=firstArgMember _ _) (wpAny_of_eq (a:=Value.none) (by first|rfl|(simp only[firstArgMember];rfl)) (wpAny_newObj_type ?_ (by size_fits)))) (by size_fits));simp only[raiseNew];refine wpAny_bind (wpAny_handled ?_);rw[show A.in1.handled=none from hh];refine wpAny_bind (wpAny_pure (wpAny_throw ?_));refine wpAny_bind (wpAny_isInstance (T:="StopIteration") (b:=true) ⟨_,ql _ rfl,rfl⟩ isSubtype_stop (wpAny_pure (hQ _ (((Heap.SameBut.update ..).extBut.push _).push _))))
end
def BX (d n ep:Nat):It :=
  ⟨fun i H=>∃ Z8,H d=some (.dN Z8 ep)/\Z8.length=n/\i<n,
   fun i H v H'=>∃ p b k y,v=.ref p/\H p=none/\H'=upd H p (.tup [.ref b,y])/\WR H b k/\∀ Z8,H d=some (.dN Z8 ep)->Z8[i]?=some (k,y),
   fun i H=>∃ Z8,H d=some (.dN Z8 ep)/\Z8.length=n/\n=i⟩
def Eb {ep:Nat}{Z8:List (List (List Key)×V)}(ok:ZD P w H h)(e:H d=some (.dN Z8 ep)):(d==sysModules)=false/\∃ xs es,KN H Z8 xs/\Sg h d es ep/\es.toList=xs.map (entryOfKey (My.Ur (zN P w)))/\es.size=Z8.length :=
 let ⟨_,y,xs,r,o,es,h1,h2,h3,h4,_⟩:=(show zU P w H h d (.dN Z8 ep)from ok d _ e)
 ⟨y,xs,es,r,⟨o,h1,h2.1,h3⟩,h4,by rw[size_of_entries h4,Paired.length r]⟩
def aV {α β:Type}{R:α->β->Prop}{xs:List α}{ys:List β}(p:Paired R xs ys):∀ {i:Nat} {a:α},xs[i]?=some a->∃ b,ys[i]?=some b/\R a b:=by
 induction p with
 |nil=>intro i a h;cases h
 |@cons a b as bs h t ih =>
  intro i x hx;cases i with
  |zero=>cases hx;exact⟨b,rfl,h⟩
  |succ i=>exact ih hx
def õ {P:Program}{w:World}{K:PySem.W.Frag}{tg:List Expr}{kk:Nat}{pos:Pos}{d it n ep:Nat}:Turn P w K (.Tuple tg kk pos) (BX d n ep) [it] it (fun i h=>∃ ok ov,IsItemIter h it d i n ep ok ov) where
 mem:=by simp
 obj:=by rintro i h ⟨ok,ov,st⟩ b hb;rw[qI.mp hb];exact⟨_,st,fun v q=>by cases(show Data.fields _=Data.cell v from q)⟩
 keep:=fun i h h' ⟨ok,ov,st⟩ k=>⟨ok,ov,k it (by simp) _ st⟩
 item:=by
  intro X hP hw hK hc i Z9 s U H E I hf ⟨ok,ov,st⟩ ⟨Z8,hd,hn,hi⟩;subst hP hw hK hn;obtain⟨_,xs,es,r,ea,el,ez⟩:=Eb I.hok hd;obtain⟨⟨k,b,u⟩,hx,hk,hb,hu⟩:=aV r (qb hi);have hk:Z8[i].1=k:=hk;have hb:WR H b Z8[i].1:=hb;rw[hk]at hb;have he:es[i]?=some (entryOfKey (My.Ur (zN X.prog X.w)) (k,b,u)):=by rw[entry_at el,hx];rfl
  rw[<- ez]at st;refine zkX st ea he fun h' e1 e2 e3=>?_
  refine⟨_,rfl,wpAny_letOwnedTupleGo_items (s:={ s with heap:=h' }) e1 fun h2 f1 f2=>?_⟩;have fr:s.heap.objs.size≠it:=Wt (qA st)
  have k2:∀ c o,c∉[it]->s.heap.get? c=some o->h2.get? c=some o:=fun c o hc q=>by
   have:c≠it:=fun z=>hc (qI.mpr z)
   exact f2.extBut c o this (e3 c o this q)
  have new:h2.get? s.heap.objs.size=some { cls:=.type "tuple",data:=.seq #[.ref b,u] }:=f2.extBut _ _ fr e2;refine⟨.ref s.heap.objs.size,upd H s.heap.objs.size (.tup [.ref b,Z8[i].2]),I.turnNew (t':=s.toks) hf k2 (qh _) ⟨by show 2<=sizeLine;decide,[.ref b,u],.cons rfl (.cons hu .nil),_,new,rfl,_,rfl⟩,rfl,⟨_,b,k,_,rfl,I.fresh,rfl,hb,fun kvs' h'=>?_⟩,⟨_,_,ez▸f1⟩,fun c hc=>?_⟩
  ·rw[hd]at h';cases h';rw[qb hi,<- hk]
  ·rw[qI.mp hc,zu fr.symm];exact(hf it (by simp)).1
 done:=by intro X hP hw hK hc i Z9 s U H E I hf ⟨ok,ov,st⟩ ⟨Z8,hd,hn,hi⟩;subst hP hw hK hi hn;obtain⟨_,xs,es,r,ea,el,ez⟩:=Eb I.hok hd;rw[<- ez]at st;obtain⟨f0,f1,f2,f3,f4,f5⟩:=hf it (by simp);exact Μ (I.ok.hd hc) st ea fun h' eb=>⟨rfl,I.turned (t':=s.toks) (fun b o hb e=>eb b o hb e) f0 f1 f3 f4 f5⟩
 self:=by rintro _ _ _ _ _ ⟨_,_,hit⟩ h;exact PySem.W.kcp_self hit h
def aq (td:TE):TI:=fun U H R=>td U H fun x H1=>∃ a Z8 ep,x=.ref a/\H1 a=some (.dN Z8 ep)/\R (BX a Z8.length ep) H1
structure M0 (X:Cx)(o:Expr)(m:Str)(apos cpos:Pos):Prop where
 base:attributeBase o m X.env (eval o X.env)=eval o X.env
 few:((backTo cpos (starEach [] X.env)).all (fun x=>!x.1)&&(backToKw cpos (keywordEach [] X.env)).all (fun x=>x.1.isSome)&&decide (([]:List Expr).length+([]:List Keyword).length+(if([]:List Keyword).isEmpty then 0 else 1)<30))=true
 line:(apos.endLine==cpos.line)=true
def zoA {tg:List Expr}{kk:Nat}{tpos apos cpos:Pos}(ho:PE X o td)(m:M0 X o "items" apos cpos):PI X (.Tuple tg kk tpos) (.Call (.Attribute o "items" apos) [] [] cpos) (aq td):=by
 intro Z9 s U H R I h;refine wpAny_Call_method m.base m.few m.line PySem.F.plainAttrs_dict PySem.F.slot_dict_items PySem.F.type_dict_items (Z2 (ho Z9 s U H _ I h) fun u s1 ⟨x,H1,I1,rx,a,Z8,ep,ex,hd,q1⟩=>?_);subst ex;obtain rfl:u=Value.ref a:=rx;obtain⟨t1,t2,t3⟩:=uP I1 (.inr (.inr ⟨Z8,ep,.inl hd⟩));obtain⟨_,xs,es,r,ea,el,ez⟩:=Eb I1.hok hd;refine⟨t1,t2,?_⟩;refine PyProof.Rows.callWith_method0 (env:=X.env) ?_;refine call_meetsIn PySem.F.slot_dict_items t1 PySem.F.entry_dict_items (PySem.F.args_dict_items_1 _) (fK a t3) ⟨t1,?_⟩;have ea2:Sg (s1.heap.push { cls:=.type "dict_items",data:=.fields #[.ref a] }) a es ep:=ea.at fun o e=>qd _ e
 refine Ŗ ⟨_,ql _ rfl,rfl,rfl⟩ ea2 ?_;have I2:=I1.kept (h':=s1.heap.push { cls:=.type "dict_items",data:=.fields #[.ref a] }) (t':=s1.toks) fun b o q=>qd _ q
 have I3:=I2.kept (h':=(s1.heap.push { cls:=.type "dict_items",data:=.fields #[.ref a] }).push { cls:=.type "dict_itemiterator",data:=.fields #[.none,.bool false,.ref a,.int 0 0,.int es.size 0,.int ep 0,.none,.none] }) (t':=s1.toks) fun b o q=>qd _ q
 refine⟨_,_,_,_,H1,rfl,I3,õ (n:=Z8.length) (ep:=ep) (d:=a),⟨_,_,by rw[<- ez];exact ql _ rfl⟩,fun b hb=>?_,q1⟩;rw[qI.mp hb];exact I2.fpOk (qh _) (I2.hok.fresh (qh _))
section
variable {X:Cx}{Z9:List (Addr×Obj)}{U:St}{H:Hp}{s:Shared}{a:Addr}{A:Around}{E:Value->Shared->Prop}
def zsW (td ty tv:TE):TS:=fun D U H=>tv U H fun v H1=>td U H1 fun x H2=>ty U H2 fun y H3=>∃ a Z8 ep k b,x=.ref a/\H3 a=some (.dN Z8 ep)/\y=.ref b/\WR H3 b k/\Z8.length<sizeLine/\∀ e,D.nx U (upd H3 a (.dN (putK Z8 k v) e))
def ı {ty:TE}{pos pos':Pos}(hu:X.A.units+2<cLine)(ho:PE X o td)(hi:PE X i ty)(hv:PE X value tv)(hs:swapsWith value (some (.Subscript o i pos')) pos.line X.env=pure false) :
  PS X (.Assign [.Subscript o i pos'] value pos) (zsW td ty tv):=by
 intro Z9 s U H D I h;refine wpAny_Assign_Subscript (Z2 (hv Z9 s U H _ I h) fun r s1 ⟨v,H1,I1,rv,q1⟩=>Z2 (ho Z9 s1 U H1 _ I1 q1) fun u s2 ⟨x,H2,I2,rx,q2⟩=>Z2 (hi Z9 s2 U H2 _ I2 q2) fun iv s3 ⟨y,H3,I3,ry,a,Z8,ep,k,b,ex,hd,ey,hk,hl,q3⟩=>?_) hs;subst ex ey;obtain rfl:u=Value.ref a:=rx;obtain rfl:iv=Value.ref b:=ry;obtain⟨z,y,xs,rel,dd⟩:=zxt I3.hok hd;refine wpAny_setItem_heap (hsz:=by rw[<- Paired.length rel];exact z) (nest_room hu) (QC I3.hok hk) dd fun h' dd' hs=>?_
 obtain⟨q,es,ep',hq,h2,h3,h4,_,h5⟩:=dd';have:=JT Z8 k v;refine⟨U,_,?_,q3 ep'⟩;refine Nb I3 (by rw[hd];exact True.intro) hs ⟨q,hq⟩ ⟨by lia,y,_,(rel.put k hk rv).keeps fun c ys ec=>?_,q,es,hq,h2,h3,h4,h5⟩;rw[zu (VP ec hd (fun z=>nomatch z))];exact ec
end
end L2
namespace Dp
open PySem
inductive D where
 |non|bl (b:Bool)|int (i:Int)|str (x:Str)|tup (xs:List D)|ref (n:Nat)|ty (n:String)|rl (xs:List D)|exn (c:Str)|kt (xs:List D)
 deriving Inhabited
inductive Cell where
 |lst (xs:List D)|ins (c:Str) (fs:List (Str×D))
 |dk (Z8:List (Str×D))|dt (Z8:List (List (Sum Int Str)×D))|dn (Z8:List (List (List (Sum Int Str))×D)) (ep:Nat)
 |tab (x:Str) (l c:Nat)
 deriving Inhabited
abbrev Z7:=List Cell
abbrev Z1:=List (Option D)
abbrev DK:=D->Z7->Prop
abbrev DE:=Z1->Z7->DK->Prop
abbrev DT:=Z1->Z7->(Bool->Z7->Prop)->Prop
abbrev DA:=Z1->Z7->(List D->Z7->Prop)->Prop
abbrev DG:=D->Z1->Z7->(Z1->Z7->Prop)->Prop
abbrev Vc:=List D->Z1->Z7->(Z1->Z7->Prop)->Prop
structure Lg where
 nx:Z1->Z7->Prop
 rt:DK
 bk:Z1->Z7->Prop:=fun _ _=>False
 ct:Z1->Z7->Prop:=fun _ _=>False
abbrev DS:=Lg->Z1->Z7->Prop
structure UG where
 items:List D
 ok:Z7->Prop
abbrev DI:=Z1->Z7->(UG->Z7->Prop)->Prop
abbrev ZX:=List D->Z7->DK->Prop
def big:Nat:=1000000
def fl:Nat->D->Bool
  |_,.ref _=>false
  |_,.ty _=>false
  |_,.rl _=>false
  |_,.exn _=>false
  |_,.kt _=>false
  |0,.tup _=>false
  |k+1,.tup xs=>xs.all (fl k)
  |_,.non=>true
  |_,.bl _=>true
  |_,.int _=>true
  |_,.str x=>x.cps.all (· < 0x110000)
mutual
def eqv:D->D->Bool
 |.non,.non=>true
 |.bl a,.bl b=>a==b
 |.bl a,.int j=>(if a then 1 else 0)==j
 |.int i,.bl b=>i==(if b then 1 else 0)
 |.int i,.int j=>decide (i=j)
 |.str x,.str y=>x==y
 |.tup xs,.tup ys=>eqvAll xs ys
 |_,_=>false
def eqvAll:List D->List D->Bool
 |[],[]=>true
 |x::xs,y::ys=>eqv x y&&eqvAll xs ys
 |_,_=>false
end
def Lst (S:Z7)(x:D)(xs:List D):Prop:=x=.rl xs\/∃ n,x=.ref n/\S[n]?=some (.lst xs)
def Ss (S:Z7)(x:D)(xs:List D):Prop:=x=.tup xs\/Lst S x xs
def Xv (n:Nat)(k:Int):Option Nat:=if 0<=k then(if k<n then some k.toNat else none)else if -(n:Int)<=k then some (k+n).toNat else none
def Zb (xs:List D)(k:Int):Option D:=(Xv xs.length k).bind fun j=>xs[j]?
def atS (z:Str)(k:Int):Option Nat:=(Xv z.cps.toList.length k).bind fun j=>z.cps.toList[j]?
def XH (n:Nat)(d:Nat):Option Int->Nat
 |none=>d
 |some k=>if k<0 then(k+n).toNat else min k.toNat n
def cutD (xs:List α)(lo hi:Option Int):List α:=(xs.drop (XH xs.length 0 lo)).take (XH xs.length xs.length hi-XH xs.length 0 lo)
def X6 (i:Nat):DE:=fun Z S Q=>∃ d,Z[i]?=some (some d)/\Q d S
def dC (d:D):DE:=fun _ S Q=>Q d S
abbrev Zu:=D->D->Z7->DK->Prop
def Z6 (r:Zu)(ta tb:DE):DE:=fun Z S Q=>ta Z S fun x S1=>tb Z S1 fun y S2=>r x y S2 Q
def Wu (r:D->Z7->DK->Prop)(ta:DE):DE:=fun Z S Q=>ta Z S fun x S1=>r x S1 Q
def zm:DA:=fun _ S Q=>Q [] S
def zc (ta:DE)(tr:DA):DA:=fun Z S Q=>ta Z S fun x S1=>tr Z S1 fun xs S2=>Q (x::xs) S2
def dTup (t:DA):DE:=fun Z S Q=>t Z S fun xs S1=>xs.length<=big/\Q (.tup xs) S1
def Yn (t:DA):DE:=fun Z S Q=>t Z S fun xs S1=>xs.length<=big/\Q (.ref S1.length) (S1++[.lst xs])
def dCall (f:ZX)(t:DA):DE:=fun Z S Q=>t Z S fun xs S1=>f xs S1 Q
abbrev DB:=List D->Z7->DK->Prop
def dB (r:DB)(t:DA):DE:=fun Z S Q=>t Z S fun xs S1=>r xs S1 Q
def dT (t:DE):DT:=fun Z S Q=>t Z S fun x S1=>∃ b,x=.bl b/\Q b S1
def Xb (t u:DT):DT:=fun Z S Q=>t Z S fun c S1=>if c=true then u Z S1 Q else Q false S1
def Yz (t u:DT):DT:=fun Z S Q=>t Z S fun c S1=>if c=true then Q true S1 else u Z S1 Q
def Yu (t:DT):DT:=fun Z S Q=>t Z S fun c S1=>Q (!c) S1
def QZ (t u:DE):DE:=fun Z S Q=>t Z S fun x S1=>∃ c,x=.bl c/\if c=true then u Z S1 Q else Q (.bl false) S1
def tZ (t u:DE):DE:=fun Z S Q=>t Z S fun x S1=>∃ c,x=.bl c/\if c=true then Q (.bl true) S1 else u Z S1 Q
def QV (t:DE):DE:=fun Z S Q=>t Z S fun x S1=>∃ c,x=.bl c/\Q (.bl (!c)) S1
def wG (c:DT)(ta tb:DE):DE:=fun Z S Q=>c Z S fun b S1=>if b=true then ta Z S1 Q else tb Z S1 Q
def QG (r r':Zu)(ta tb tc:DE):DE:=fun Z S Q=>ta Z S fun x S1=>tb Z S1 fun y S2=>r x y S2 fun z S3=>∃ c,z=.bl c/\if c=true then tc Z S3 fun w S4=>r' y w S4 Q else Q (.bl false) S3
def Ui:Option DE->Z1->Z7->(Option Int->Z7->Prop)->Prop
 |none=>fun _ S Q=>Q none S
 |some t=>fun Z S Q=>t Z S fun x S1=>∃ i,x=.int i/\Q (some i) S1
def Vm (r:D->Option Int->Option Int->Z7->DK->Prop)(ta:DE)(lo hi:Option DE):DE:=fun Z S Q=>ta Z S fun x S1=>Ui lo Z S1 fun l S2=>Ui hi Z S2 fun h S3=>r x l h S3 Q
def Yl (f:Str)(ta:DE):DE:=fun Z S Q=>ta Z S fun x S1=>∃ n c fs d,x=.ref n/\S1[n]?=some (.ins c fs)/\fs.lookup f=some d/\Q d S1
def putD (f:Str)(v:D):List (Str×D)->List (Str×D)
 |[]=>[(f,v)]
 |(g,x)::r=>if g=f then(g,v)::r else(g,x)::putD f v r
def SX (c:Str)(init:ZX):ZX:=fun ds S Q=>init (.ref S.length::ds) (S++[.ins c []]) fun d S2=>d=.non/\Q (.ref S.length) S2
abbrev DM:=D->List D->Z7->DK->Prop
def dM (r:DM)(ta:DE)(t:DA):DE:=fun Z S Q=>ta Z S fun x S1=>(∃ n ys,x=.ref n/\S1[n]?=some (.lst ys))/\t Z S1 fun xs S2=>r x xs S2 Q
def oI (C:Int->Int->Prop)(g:Int->Int->D):Zu:=fun x y S Q=>∃ i j,x=.int i/\y=.int j/\C i j/\Q (g i j) S
def PL (g:Int->Int->D):Zu:=fun x y S Q=>∃ i j,x=.int i/\y=.int j/\Q (g i j) S
def oU (g:Int->D):D->Z7->DK->Prop:=fun x S Q=>∃ i,x=.int i/\Q (g i) S
def Y4 (i j:Int):Prop:=(My.Bd 8000 i/\My.Bd 8000 j)\/i.natAbs<2 ^ 64\/j.natAbs<2 ^ 64
def oG (_ j:Int):Prop:=j≠0/\My.Bd 8000 j
def aB (_ j:Int):Prop:=j≠0
def Zr:Zu:=fun x y S Q=>(∃ i j,x=.int i/\y=.int j/\Q (.int (i+j)) S)\/(∃ xs ys,x=.tup xs/\y=.tup ys/\xs.length+ys.length<=big/\Q (.tup (xs++ys)) S) \/
 (∃ xs ys,Lst S x xs/\Lst S y ys/\xs.length+ys.length<=big/\Q (.ref S.length) (S++[.lst (xs++ys)])) \/
 (∃ i j:Str,x=.str i/\y=.str j/\i.length+j.length<=big/\Q (.str (i++j)) S)
def Zm:Zu:=PL fun i j=>.int (i-j)
def dD (z:Str)(n:Int):Str:=if n<1 then Str.empty else if(n==1||z.length==0)=true then z else⟨(List.replicate n.toNat z.cps).foldl (·++·) #[]⟩
@[irreducible] def Hg (x:Int):Prop:=x.natAbs<2 ^ 1048576
def Y5:Zu:=fun x y S Q=>oI Y4 (fun i j=>.int (i*j)) x y S Q\/(∃ (z:Str) (n:Int),x=.str z/\y=.int n/\z.length<=1000/\-1000<=n/\n<=1000/\Q (.str (dD z n)) S)\/oI (fun i j=>Hg i/\Hg j) (fun i j=>.int (i*j)) x y S Q
def oDiv:Zu:=oI oG fun i j=>.int (i.fdiv j)
def oMod:Zu:=oI aB fun i j=>.int (i.fmod j)
def Wq:D->Z7->DK->Prop:=oU fun i=>.int (-i)
def oLt:Zu:=PL fun i j=>.bl (decide (i<j))
def oLe:Zu:=PL fun i j=>.bl (decide (i<=j))
def Yg:Zu:=PL fun i j=>.bl (decide (j<i))
def KD:Zu:=PL fun i j=>.bl (decide (j<=i))
def j7 (S:Z7):List D->List (List D)->Prop
 |[],[]=>True
 |x::xs,z::zs=>Lst S x z/\j7 S xs zs
 |_,_=>False
def Jd (S:Z7)(x y:D)(b:Bool):Prop:=(fl 20 x=true/\fl 20 y=true/\b=eqv x y)\/(∃ xs ys,Lst S x xs/\Lst S y ys/\xs.all (fl 20)=true/\ys.all (fl 20)=true/\b=eqvAll xs ys) \/
 False
def oEq:Zu:=fun x y S Q=>∃ b,Jd S x y b/\Q (.bl b) S
def Yv:Zu:=fun x y S Q=>∃ b,Jd S x y b/\Q (.bl (!b)) S
def Jv (S:Z7)(x y:D)(b:Bool):Prop:=∃ ys,Ss S y ys/\fl 20 x=true/\ys.all (fl 20)=true/\b=ys.any fun z=>eqv z x
def Vh:Zu:=fun x y S Q=>(∃ b,Jv S x y b/\Q (.bl b) S)\/(∃ (c:Nat) (z:Str),x=.str ⟨#[c]⟩/\y=.str z/\Q (.bl (decide (c∈z.cps.toList))) S)
def Sq:Zu:=fun x y S Q=>(∃ b,Jv S x y b/\Q (.bl (!b)) S)\/(∃ (c:Nat) (z:Str),x=.str ⟨#[c]⟩/\y=.str z/\Q (.bl (!decide (c∈z.cps.toList))) S)
def Xh:D->Bool
 |.non=>true
 |_=>false
def N7:Zu:=fun x y S Q=>(y=.non/\Q (.bl (Xh x)) S)\/(∃ a b,x=.bl a/\y=.bl b/\Q (.bl (a==b)) S)
def Wv:Zu:=fun x y S Q=>(y=.non/\Q (.bl (!Xh x)) S)\/(∃ a b,x=.bl a/\y=.bl b/\Q (.bl (!(a==b))) S)
def ZR:Zu:=fun x y S Q=>(∃ i xs d,y=.int i/\Ss S x xs/\Zb xs i=some d/\Q d S)\/(∃ (z:Str) (i:Int) (c:Nat),x=.str z/\y=.int i/\z.length<=big/\atS z i=some c/\Q (.str ⟨#[c]⟩) S)
def zy2 (z:Str)(lo hi:Option Int):Str:=⟨(cutD z.cps.toList lo hi).toArray⟩
def Vr:D->Option Int->Option Int->Z7->DK->Prop:=fun x lo hi S Q=>(∃ xs,x=.tup xs/\Q (.tup (cutD xs lo hi)) S)\/(∃ xs,Lst S x xs/\Q (.ref S.length) (S++[.lst (cutD xs lo hi)]))\/False
def Zc:DB:=fun vs S Q=>(∃ x xs,vs=[x]/\Ss S x xs/\Q (.int xs.length) S)\/(∃ z:Str,vs=[.str z]/\z.length<=big/\Q (.int z.length) S)
def JQ:DB:=fun vs S Q=>∃ i,vs=[.int i]/\Q (.int (i.natAbs:Int)) S
def Qg:DB:=fun vs S Q=>∃ i j,vs=[.int i,.int j]/\Q (.int (max i j)) S
def RG:DB:=fun vs S Q=>∃ i j,vs=[.int i,.int j]/\Q (.int (min i j)) S
def K7:DB:=fun vs S Q=>∃ x ns,vs=[x]/\Lst S x (List.map D.int ns)/\0<ns.length/\∀ m:Int,m∈ns->(∀ a∈ns,a<=m)->Q (.int m) S
def Ly:DB:=fun vs S Q=>∃ x ns,vs=[x]/\Lst S x (List.map D.int ns)/\0<ns.length/\∀ m:Int,m∈ns->(∀ a∈ns,m<=a)->Q (.int m) S
def Vf:DB:=fun vs S Q=>∃ x bs,vs=[x]/\Lst S x (List.map D.bl bs)/\Q (.bl (bs.all id)) S
def Qk:DB:=fun vs S Q=>∃ x xs,vs=[x]/\Ss S x xs/\Q (.ref S.length) (S++[.lst xs])
def O6 (t:String):Bool:=t=="int"||t=="bool"||t=="tuple"||t=="list"||t=="str"
def DX (S:Z7)(t:String)(d:D):Option Bool:=if(!O6 t)=true then none else match d with
 |.non=>some false
 | .bl _=>some (t=="bool"||t=="int")
 | .int _=>some (t=="int")
 | .str _=>some (t=="str")
 | .tup _=>some (t=="tuple")
 |.ref n=>match S[n]? with
  | some (.lst _)=>some (t=="list")
  |_=>none
 |.ty _=>none
 |.rl _=>none
 |.exn _=>none
 |.kt _=>none
def Xk:DB:=fun vs S Q=>∃ x t b,vs=[x,.ty t]/\DX S t x=some b/\Q (.bl b) S
abbrev p2 (c:Int×Int):D:=.tup [.int c.1,.int c.2]
def Wf:DM:=fun x vs S Q=>∃ n xs y,x=.ref n/\vs=[y]/\S[n]?=some (.lst xs)/\xs.length<big/\Q .non (S.set n (.lst (xs++[y])))
def ū:DM:=fun x vs S Q=>∃ n xs m ys,x=.ref n/\vs=[.ref m]/\S[n]?=some (.lst xs)/\S[m]?=some (.lst ys)/\m≠n/\xs.length+ys.length<=big/\Q .non (S.set n (.lst (xs++ys)))
def Mu:DM:=fun x vs S Q=>ū x vs S Q\/∃ n xs ys,x=.ref n/\vs=[.tup ys]/\S[n]?=some (.lst xs)/\xs.length+ys.length<=big/\Q .non (S.set n (.lst (xs++ys)))
def J3:DM:=fun x vs S Q=>∃ n xs y,x=.ref n/\vs=[.int 0]/\S[n]?=some (.lst (y::xs))/\Q y (S.set n (.lst xs))
def zR (i:Nat):DG:=fun d Z S Q=>Q (Z.set i (some d)) S
def YW:Vc:=fun ds Z S Q=>ds=[]/\Q Z S
def zK (t:DG)(u:Vc):Vc:=fun ds Z S Q=>∃ d r,ds=d::r/\t d Z S fun ρ' S'=>u r ρ' S' Q
def YL (n:Nat)(t:Vc):DG:=fun d Z S Q=>∃ xs,d=.tup xs/\xs.length=n/\t xs Z S Q
def Qy (to ti:DE):DG:=fun d Z S Q=>to Z S fun o S1=>ti Z S1 fun i S2=>∃ n xs k j,o=.ref n/\i=.int k/\S2[n]?=some (.lst xs)/\Xv xs.length k=some j/\Q Z (S2.set n (.lst (xs.set j d)))
def zj (t u:DS):DS:=fun E Z S=>t { E with nx:=u E } Z S
def zF:DS:=fun E Z S=>E.nx Z S
def zB (t:DE):DS:=fun E Z S=>t Z S E.rt
def Za (t:DE):DS:=fun E Z S=>t Z S fun _ S1=>E.nx Z S1
def zq (t:DE)(g:DG):DS:=fun E Z S=>t Z S fun x S1=>g x Z S1 E.nx
def ZM (c:DT)(t u:DS):DS:=fun E Z S=>c Z S fun b S1=>if b=true then t E Z S1 else u E Z S1
def sJ (t:DS):DS:=fun E Z S=>∃ J:Z1->Z7->Prop,(∀ Z S,J Z S->E.nx Z S)/\t { E with nx:=J } Z S
def Yj:DS:=fun _ _ _=>False
def vW:DS:=fun E Z S=>E.bk Z S
def sU:DS:=fun E Z S=>E.ct Z S
def VG (c f:Str)(to tv:DE):DS:=fun E Z S=>tv Z S fun y S1=>to Z S1 fun x S2=>∃ n fs,x=.ref n/\S2[n]?=some (.ins c fs)/\fs.length<100/\E.nx Z (S2.set n (.ins c (putD f y fs)))
def Jp (i:Nat)(t:DE):DS:=fun E Z S=>∃ a,Z[i]?=some (some (.int a))/\t Z S fun y S1=>∃ b,y=.int b/\E.nx (Z.set i (some (.int (a+b)))) S1
def Vd (c:DT)(t:DS):DS:=fun E Z S=>∃ W:Nat->Z1->Z7->Prop,(∃ m,W m Z S)/\∀ m Z S,W m Z S ->
 c Z S fun b S1=>if b=true then ∃ N:Z1->Z7->Prop,(∀ ρ' S',N ρ' S'->∃ m',m'<m/\W m' ρ' S')/\t { E with nx:=N,ct:=N,bk:=E.nx } Z S1 else E.nx Z S1
def YQ (wi:DI)(g:DG)(t:DS):DS:=fun E Z S=>wi Z S fun J S1=>∃ W:Nat->Z1->Z7->Prop,W 0 Z S1/\(∀ i Z S,W i Z S->J.ok S) /\
 (∀ i d Z S,J.items[i]?=some d->W i Z S->g d Z S fun ρ2 S2=>t { E with nx:=W (i+1),ct:=W (i+1),bk:=E.nx } ρ2 S2)/\∀ Z S,W J.items.length Z S->E.nx Z S
def signs (z:Str):List D:=z.cps.toList.map fun c=>.str ⟨#[c]⟩
def MF (x:D)(S1:Z7)(R:UG->Z7->Prop):Prop:=(∃ xs,x=.tup xs/\R ⟨xs,fun _=>True⟩ S1)\/(∃ xs,Lst S1 x xs/\R ⟨xs,fun S=>Lst S x xs⟩ S1)\/(∃ z:Str,x=.str z/\R ⟨signs z,fun _=>True⟩ S1)
def z9 (t:DE):DI:=fun Z S R=>t Z S fun x S1=>MF x S1 R
def upto (lo:Int)(n:Nat):List D:=(List.range n).map fun k:Nat=>D.int (lo+(k:Int))
def Rk (t:DA):DI:=fun Z S R=>t Z S fun vs S1=>∃ j:Int,vs=[.int j]/\-(2 ^ 62)<=j/\j<2 ^ 62/\R ⟨upto 0 j.toNat,fun _=>True⟩ S1
def Jh (t:DA):DI:=fun Z S R=>t Z S fun vs S1=>∃ i j:Int,vs=[.int i,.int j]/\R ⟨upto i (j-i).toNat,fun _=>True⟩ S1
def Vq:Nat->List D->List D
 |_,[]=>[]
 |k,x::xs=>.tup [.int (k:Nat),x]::Vq (k+1) xs
def Yr:List D->List D->List D
 |x::xs,y::ys=>.tup [x,y]::Yr xs ys
 |_,_=>[]
def Sx (c:List Str)(z:Str):List Str:=if c.any (·==z)=true then c else c++[z]
def X8 (f:Nat->Str):Nat->List Str
 |0=>[]
 |i+1=>Sx (X8 f i) (f i)
def Gq (zs:List Str):Nat:=(X8 (fun i=>zs.getD i Str.empty) zs.length).length
def Jr:DB:=fun vs S Q=>∃ x,∃ zs:List Str,vs=[x]/\Lst S x (zs.map D.str)/\zs.length<=4000/\Q (.int (Gq zs)) S
def Ii (R:UG->Z7->Prop)(vs:List D)(S1:Z7):Prop:=∃ x xs,vs=[x]/\Lst S1 x xs/\R ⟨Vq 0 xs,fun S=>Lst S x xs⟩ S1
def V6 (t:DA):DI:=fun Z S R=>t Z S (Ii R)
def Cv (R:UG->Z7->Prop)(vs:List D)(S1:Z7):Prop:=(∃ x y xs ys,vs=[x,y]/\Lst S1 x xs/\Lst S1 y ys/\R ⟨Yr xs ys,fun S=>Lst S x xs/\Lst S y ys⟩ S1)\/(∃ xs ys,vs=[.tup xs,.tup ys]/\R ⟨Yr xs ys,fun _=>True⟩ S1)
def Ke (t:DA):DI:=fun Z S R=>t Z S (Cv R)
def Rr (own:Nat)(fv:List Nat)(Z:Z1):Z1:=List.replicate own none++fv.map fun j=>(Z[j]?).join
def Yc:DT:=fun _ S Q=>Q true S
def Zg (own:Nat)(fv:List Nat)(wi:DI)(g:DG)(tc:DT)(te:DE):DE:=fun Z S Q=>wi Z S fun J S1=>J.items.length<=big/\∃ W:Nat->List D->Z7->Prop,W 0 [] S1/\(∀ i ys S,W i ys S->J.ok S) /\
 (∀ i d ys S,J.items[i]?=some d->W i ys S->g d (Rr own fv Z) S fun ρ2 S2=>tc ρ2 S2 fun b S3=>if b=true then te ρ2 S3 fun y S4=>W (i+1) (ys++[y]) S4 else W (i+1) ys S3) /\
 ∀ ys S,W J.items.length ys S->Q (.ref S.length) (S++[.lst ys])
def kD:Sum Int Str->D
 |.inl i=>.int i
 |.inr x=>.str x
section
variable {κ:Type}[DecidableEq κ]
def dval (Z8:List (κ×D))(k:κ):Option D:=(Z8.find? fun kv=>decide (kv.1=k)).map (·.2)
def dput (Z8:List (κ×D))(k:κ)(v:D):List (κ×D):=if(Z8.any fun kv=>decide (kv.1=k))=true then Z8.map (fun kv=>if kv.1=k then(kv.1,v)else kv)else Z8++[(k,v)]
end
abbrev kN (k:List (Sum Int Str)):D:=.tup (k.map kD)
def Zj (S:Z7)(x y:D)(o:Option D):Prop:=(∃ n Z8 z,x=.ref n/\y=.str z/\S[n]?=some (.dk Z8)/\o=dval Z8 z)\/(∃ n Z8 ks,x=.ref n/\y=.tup (ks.map kD)/\S[n]?=some (.dt Z8)/\o=dval Z8 ks)\/(∃ n Z8 e ks,x=.ref n/\y=.tup (ks.map kN)/\S[n]?=some (.dn Z8 e)/\o=dval Z8 ks)
def Er (S:Z7)(x:D):Prop:=∃ n,x=.ref n/\((∃ Z8,S[n]?=some (.dk Z8))\/(∃ Z8,S[n]?=some (.dt Z8))\/∃ Z8 e,S[n]?=some (.dn Z8 e))
def Jl:DE:=fun _ S Q=>Q (.ref S.length) (S++[.dk []])
def tV:DE:=fun _ S Q=>Q (.ref S.length) (S++[.dt []])
def J4:DE:=fun _ S Q=>Q (.ref S.length) (S++[.dn [] 0])
def V2 (td ti:DE):DE:=fun Z S Q=>td Z S fun x S1=>ti Z S1 fun y S2=>∃ d,Zj S2 x y (some d)/\Q d S2
def Qv (ti td:DE):DE:=fun Z S Q=>ti Z S fun y S1=>td Z S1 fun x S2=>∃ o,Zj S2 x y o/\Q (.bl o.isSome) S2
def Qq (ti td:DE):DE:=fun Z S Q=>ti Z S fun y S1=>td Z S1 fun x S2=>∃ o,Zj S2 x y o/\Q (.bl (!o.isSome)) S2
def Nk (td ti tz:DE):DE:=fun Z S Q=>td Z S fun x S1=>Er S1 x/\ti Z S1 fun y S2=>tz Z S2 fun z S3=>∃ o,Zj S3 x y o/\Q (o.getD z) S3
def uf (tk tv:DE):DE:=fun Z S Q=>tk Z (S++[.dk []]) fun x S1=>tv Z S1 fun y S2=>∃ z,x=.str z/\S2[S.length]?=some (.dk [])/\Q (.ref S.length) (S2.set S.length (.dk [(z,y)]))
def J8 (tk tv:DE):DE:=fun Z S Q=>tk Z (S++[.dt []]) fun x S1=>tv Z S1 fun y S2=>∃ ks,x=.tup (ks.map kD)/\S2[S.length]?=some (.dt [])/\Q (.ref S.length) (S2.set S.length (.dt [(ks,y)]))
def JN (td:DE):DI:=fun Z S R=>td Z S fun x S1=>∃ n Z8 e,x=.ref n/\S1[n]?=some (.dn Z8 e)/\R ⟨Z8.map fun kv=>.tup [.tup (kv.1.map kN),kv.2],fun S=>S[n]?=some (.dn Z8 e)⟩ S1
def SM (S:Z7)(x y v:D)(Q:Z7->Prop):Prop:=(∃ n Z8 z,x=.ref n/\y=.str z/\S[n]?=some (.dk Z8)/\Z8.length<big/\Q (S.set n (.dk (dput Z8 z v))))\/(∃ n Z8 ks,x=.ref n/\y=.tup (ks.map kD)/\S[n]?=some (.dt Z8)/\Z8.length<big/\Q (S.set n (.dt (dput Z8 ks v))))
def Oj (td ti tv:DE):DS:=fun E Z S=>tv Z S fun v S1=>td Z S1 fun x S2=>ti Z S2 fun y S3=>SM S3 x y v (E.nx Z)
def QH (S:Z7)(x y v:D)(Q:Z7->Prop):Prop:=∃ n Z8 e ks,x=.ref n/\y=.tup (ks.map kN)/\S[n]?=some (.dn Z8 e)/\Z8.length<big/\∀ e',Q (S.set n (.dn (dput Z8 ks v) e'))
def S8 (td ti tv:DE):DS:=fun E Z S=>tv Z S fun v S1=>td Z S1 fun x S2=>ti Z S2 fun y S3=>QH S3 x y v (E.nx Z)
def fc:Cell->Bool
 |.lst xs=>xs.all (fl 20)
 |.ins _ _=>false
 |.dk _=>false
 |.dt _=>false
 |.dn _ _=>false
 |.tab _ _ _=>false
def Fin (S:Z7)(Q:DK):DK:=fun d S'=>Q d S'\/∃ S1,S1 <+: S'/\S.length<=S1.length/\(fl 20 d=true\/∃ n,d=.ref n/\n<S1.length)/\(∀ (n:Nat) c,S1[n]?=some c->S[n]?=some c\/fc c=true)/\Q d S1
def Tp (n:Nat)(ds:List D):Z1:=ds.map some++List.replicate (n-ds.length) none
def BodyOk (n:Nat)(b:DS)(f:ZX):Prop:=∀ ds S Q,f ds S Q->b ⟨fun _ S'=>Fin S Q .non S',Fin S Q,fun _ _=>False,fun _ _=>False⟩ (Tp n ds) S
abbrev XD:=Str->Z7->Prop
abbrev XR:=Z1->Str->Z7->Prop
abbrev Ys:=List D->Z7->DK->XD->Prop
def Yk (f:Ys)(ex:XR)(t:DA):DE:=fun Z S Q=>t Z S fun xs S1=>f xs S1 Q (ex Z)
def xF:XR:=fun _ _ _=>False
def RN (ex:XR)(c:Str):DS:=fun _ Z S=>ex Z c S
def Ek (c:Str)(init:Ys):Ys:=fun ds S Q ex=>init (.ref S.length::ds) (S++[.ins c []]) (fun d S2=>d=.non/\Q (.ref S.length) S2) ex
def Vj (n:Nat)(b:XR->DS)(f:Ys):Prop:=∀ ds S Q ex,f ds S Q ex->b (fun _=>ex) ⟨fun _ S'=>Fin S Q .non S',Fin S Q,fun _ _=>False,fun _ _=>False⟩ (Tp n ds) S
def New (Q:DK)(S:Z7)(xs:List D):Prop:=Q (.ref S.length) (S++[.lst xs])
def Put (Q:Z7->Prop)(S:Z7)(n:Nat)(c:Cell):Prop:=Q (S.set n c)
def Hw (own:Nat)(fv:List Nat)(g:DG)(tc:DT)(te:DE)(Z:Z1)(Q:DK)(J:UG)(S:Z7):Prop:=J.items.length<=big/\∃ W:Nat->List D->Z7->Prop,W 0 [] S/\(∀ i ys S,W i ys S->J.ok S) /\
 (∀ i d ys S,J.items[i]?=some d->W i ys S->g d (Rr own fv Z) S fun ρ2 S2=>tc ρ2 S2 fun b S3=>if b=true then te ρ2 S3 fun y S4=>W (i+1) (ys++[y]) S4 else W (i+1) ys S3) /\
 ∀ ys S,W J.items.length ys S->New Q S ys
def Ih (d:D)(Z:Z1)(Q:Z1->Z7->Prop)(o i:D)(S2:Z7):Prop:=∃ n xs k j,o=.ref n/\i=.int k/\S2[n]?=some (.lst xs)/\Xv xs.length k=some j/\Q Z (S2.set n (.lst (xs.set j d)))
def Eo (nx:Z1->Z7->Prop)(rt:DK)(g:DG)(t:DS)(Z:Z1)(J:UG)(S:Z7):Prop:=∃ W:Nat->Z1->Z7->Prop,W 0 Z S/\(∀ i Z S,W i Z S->J.ok S) /\
 (∀ i d Z S,J.items[i]?=some d->W i Z S->g d Z S fun ρ2 S2=>t ⟨W (i+1),rt,nx,W (i+1)⟩ ρ2 S2)/\∀ Z S,W J.items.length Z S->nx Z S
def oW (W:Nat->Z1->Z7->Prop)(m:Nat)(t:DS)(rt:DK)(nx:Z1->Z7->Prop)(Z:Z1)(S:Z7):Prop:=∃ N:Z1->Z7->Prop,(∀ ρ' S',N ρ' S'->∃ m',m'<m/\W m' ρ' S')/\t ⟨N,rt,nx,N⟩ Z S
def Ny (N W:Z1->Z7->Prop):Prop:=∀ Z S,W Z S->N Z S
def Bb (W:Z1->Z7->Prop)(P:(Z1->Z7->Prop)->(Z1->Z7->Prop)->Prop):Prop:=∀ N B,Ny N W->P N B
def ĵ {W:Z1->Z7->Prop}{P:(Z1->Z7->Prop)->(Z1->Z7->Prop)->Prop}(h:∀ N B,Ny N W->P N B):Bb W P:=h
def Ĉ (h:Ny N W)(w:W Z S):N Z S:=h Z S w
def yE (J:Z1->Z7->Prop)(P:(Z1->Z7->Prop)->Prop):Prop:=∀ N,Ny N J->P N
def zyr {J:Z1->Z7->Prop}{P:(Z1->Z7->Prop)->Prop}(h:∀ N,Ny N J->P N):yE J P:=h
def GK (N W:List D->Z7->Prop):Prop:=∀ ys S,W ys S->N ys S
def Bk (W:List D->Z7->Prop)(P:(List D->Z7->Prop)->Prop):Prop:=∀ N,GK N W->P N
def ν {W:List D->Z7->Prop}{P:(List D->Z7->Prop)->Prop}(h:∀ N,GK N W->P N):Bk W P:=h
def dR (h:GK N W)(w:W ys S):N ys S:=h ys S w
def Yi {nx:Z1->Z7->Prop}{rt:DK}{g:DG}{t:DS}{xs:List D}{ok:Z7->Prop}(W:Nat->Z1->Z7->Prop)(h0:W 0 Z S)(hok:∀ i Z S,W i Z S->ok S)(step:∀ i d Z S,xs[i]?=some d->W i Z S->Bb (W (i+1)) fun N B=>g d Z S fun ρ2 S2=>t ⟨N,rt,B,N⟩ ρ2 S2)(fin:∀ Z S,W xs.length Z S->nx Z S):Eo nx rt g t Z ⟨xs,ok⟩ S:=⟨W,h0,hok,fun i d Z S e w=>step i d Z S e w (W (i+1)) nx fun _ _ h=>h,fin⟩
def wg {nx:Z1->Z7->Prop}{rt:DK}{g:DG}{t:DS}{xs:List D}{ok:Z7->Prop}(W:Nat->Z1->Z7->Prop)(h0:W 0 Z S)(hok:∀ i Z S,W i Z S->ok S)(step:∀ i d Z S,xs[i]?=some d->W i Z S->g d Z S fun ρ2 S2=>t ⟨W (i+1),rt,nx,W (i+1)⟩ ρ2 S2)(fin:∀ Z S,W xs.length Z S->nx Z S):Eo nx rt g t Z ⟨xs,ok⟩ S:=⟨W,h0,hok,step,fin⟩
def zwQ {S:Z7}{Q:DK}{xs:List D}(h:Q (.ref S.length) (S++[.lst xs])):New Q S xs:=h
def Wo {S T:Z7}{Q:DK}{xs:List D}(h:Q (.ref (S.length+T.length)) (S++(T++[.lst xs]))):New Q (S++T) xs:=by unfold New;rw[qf,qq];exact h
section
variable {S:Z7}{Q:DK}{xs:List D}{a b c d e f:Cell}
def Fb (h:Q (.ref (S.length+1)) (S++[a,.lst xs])):New Q (S++[a]) xs:=Wo h
def Ã (h:Q (.ref (S.length+2)) (S++[a,b,.lst xs])):New Q (S++[a,b]) xs:=Wo h
def gR (h:Q (.ref (S.length+3)) (S++[a,b,c,.lst xs])):New Q (S++[a,b,c]) xs:=Wo h
def Ł (h:Q (.ref (S.length+4)) (S++[a,b,c,d,.lst xs])):New Q (S++[a,b,c,d]) xs:=Wo h
def cJ (h:Q (.ref (S.length+5)) (S++[a,b,c,d,e,.lst xs])):New Q (S++[a,b,c,d,e]) xs:=Wo h
end
def Dh {a:Cell}{T:Z7}{Q:Z7->Prop}{c:Cell}(h:Q (S++c::T)):Put Q (S++a::T) S.length c:=by unfold Put;rw[Pu _ _ (qh _),Yp];exact h
def Ê {a:Cell}{G T:Z7}{Q:Z7->Prop}{c:Cell}(h:Q (S++c::(G++T))):Put Q (S++(a::G++T)) S.length c:=Dh h
def Vo {S:Z7}{Q:Z7->Prop}{n:Nat}{c:Cell}(h:Q (S.set n c)):Put Q S n c:=h
def wW {T:Z7}{Q:Z7->Prop}{k:Nat}{c:Cell}(h:Q (S++T.set k c)):Put Q (S++T) (S.length+k) c:=by unfold Put;rw[Pu _ _ (Od _ _),Jm];exact h
def Aa (nx:Z1->Z7->Prop)(Z:Z1):DK:=fun _ S1=>nx Z S1
def vC (g:DG)(Z:Z1)(nx:Z1->Z7->Prop):DK:=fun x S1=>g x Z S1 nx
def uR (t u:DS)(E:Lg)(Z:Z1):Bool->Z7->Prop:=fun b S1=>if b=true then t E Z S1 else u E Z S1
def rF (u:Vc)(r:List D)(Q:Z1->Z7->Prop):Z1->Z7->Prop:=fun ρ' S'=>u r ρ' S' Q
def oM (ti:DE)(d:D)(Z:Z1)(Q:Z1->Z7->Prop):DK:=fun o S1=>ti Z S1 (Ih d Z Q o)
def CJ (r:Zu)(x:D)(Q:DK):DK:=fun y S2=>r x y S2 Q
def wO (r:Zu)(tb:DE)(Z:Z1)(Q:DK):DK:=fun x S1=>tb Z S1 (CJ r x Q)
def nZ (r:D->Z7->DK->Prop)(Q:DK):DK:=fun x S1=>r x S1 Q
def Ht (x:D)(Q:List D->Z7->Prop):List D->Z7->Prop:=fun xs S2=>Q (x::xs) S2
def wR (tr:DA)(Z:Z1)(Q:List D->Z7->Prop):DK:=fun x S1=>tr Z S1 (Ht x Q)
def xg (Q:DK):List D->Z7->Prop:=fun xs S1=>xs.length<=big/\Q (.tup xs) S1
def wQ (Q:DK):List D->Z7->Prop:=fun xs S1=>xs.length<=big/\New Q S1 xs
def Dg (f:ZX)(Q:DK):List D->Z7->Prop:=fun xs S1=>f xs S1 Q
def Ej (r:DM)(x:D)(Q:DK):List D->Z7->Prop:=fun xs S2=>r x xs S2 Q
def kM (r:DM)(t:DA)(Z:Z1)(Q:DK):DK:=fun x S1=>(∃ n ys,x=.ref n/\S1[n]?=some (.lst ys))/\t Z S1 (Ej r x Q)
def kT (Q:Bool->Z7->Prop):DK:=fun x S1=>∃ b,x=.bl b/\Q b S1
def yF (u:DT)(Z:Z1)(Q:Bool->Z7->Prop):Bool->Z7->Prop:=fun c S1=>if c=true then u Z S1 Q else Q false S1
def kOr (u:DT)(Z:Z1)(Q:Bool->Z7->Prop):Bool->Z7->Prop:=fun c S1=>if c=true then Q true S1 else u Z S1 Q
def yZ (Q:Bool->Z7->Prop):Bool->Z7->Prop:=fun c S1=>Q (!c) S1
def Gy (r:D->Option Int->Option Int->Z7->DK->Prop)(x:D)(l:Option Int)(Q:DK):Option Int->Z7->Prop:=fun h S3=>r x l h S3 Q
def Cr (r:D->Option Int->Option Int->Z7->DK->Prop)(x:D)(hi:Option DE)(Z:Z1)(Q:DK):Option Int->Z7->Prop:=fun l S2=>Ui hi Z S2 (Gy r x l Q)
def vm (r:D->Option Int->Option Int->Z7->DK->Prop)(lo hi:Option DE)(Z:Z1)(Q:DK):DK:=fun x S1=>Ui lo Z S1 (Cr r x hi Z Q)
section
variable {nx:Z1->Z7->Prop}{Z:Z1}{S:Z7}{Q:DK}{x y:D}{xs:List D}{E:Lg}
def k_drop (h:nx Z S):Aa nx Z x S:=h
def Ķ {g:DG}(h:g x Z S nx):vC g Z nx x S:=h
def bA {t u:DS}{b:Bool}(h:if b=true then t E Z S else u E Z S):uR t u E Z b S:=h
def Υ {u:Vc}{r:List D}(h:u r Z S nx):rF u r nx Z S:=h
def fj {ti:DE}{d:D}(h:ti Z S (Ih d Z nx x)):oM ti d Z nx x S:=h
def Í {r:Zu}(h:r x y S Q):CJ r x Q y S:=h
def zx1 {r:Zu}{tb:DE}(h:tb Z S (CJ r x Q)):wO r tb Z Q x S:=h
def zyp {r:D->Z7->DK->Prop}(h:r x S Q):nZ r Q x S:=h
def zyX {Q:List D->Z7->Prop}(h:Q (x::xs) S):Ht x Q xs S:=h
def zyz {tr:DA}{Q:List D->Z7->Prop}(h:tr Z S (Ht x Q)):wR tr Z Q x S:=h
def Ν (h:xs.length<=big/\Q (.tup xs) S):xg Q xs S:=h
def zyL (h:xs.length<=big/\New Q S xs):wQ Q xs S:=h
def jL {f:ZX}(h:f xs S Q):Dg f Q xs S:=h
def m9 {r:DM}(h:r x xs S Q):Ej r x Q xs S:=h
def k_m {r:DM}{t:DA}(h:(∃ n ys,x=.ref n/\S[n]?=some (.lst ys))/\t Z S (Ej r x Q)):kM r t Z Q x S:=h
def bD {Q:Bool->Z7->Prop}(h:Q b S):kT Q (.bl b) S:=⟨b,rfl,h⟩
def ā {u:DT}{Q:Bool->Z7->Prop}{c:Bool}(h:if c=true then u Z S Q else Q false S):yF u Z Q c S:=h
def zyS {u:DT}{Q:Bool->Z7->Prop}{c:Bool}(h:if c=true then Q true S else u Z S Q):kOr u Z Q c S:=h
def Ę {Q:Bool->Z7->Prop}{c:Bool}(h:Q (!c) S):yZ Q c S:=h
def aM {r:D->Option Int->Option Int->Z7->DK->Prop}{l o:Option Int}(h:r x l o S Q):Gy r x l Q o S:=h
def û {r:D->Option Int->Option Int->Z7->DK->Prop}{l:Option Int}{hi:Option DE}(h:Ui hi Z S (Gy r x l Q)):Cr r x hi Z Q l S:=h
def eU {r:D->Option Int->Option Int->Z7->DK->Prop}{lo hi:Option DE}(h:Ui lo Z S (Cr r x hi Z Q)):vm r lo hi Z Q x S:=h
end
section
variable {nx:Z1->Z7->Prop}{rt:DK}{bk ct:Z1->Z7->Prop}{Z:Z1}{S:Z7}
def EY {t u:DS}(h:t ⟨u ⟨nx,rt,bk,ct⟩,rt,bk,ct⟩ Z S):zj t u ⟨nx,rt,bk,ct⟩ Z S:=h
def rY {t:DS}(J:Z1->Z7->Prop)(h:yE J fun N=>t ⟨N,rt,bk,ct⟩ Z S)(hJ:∀ Z S,J Z S->nx Z S):sJ t ⟨nx,rt,bk,ct⟩ Z S:=⟨J,hJ,h J fun _ _ h=>h⟩
def ċ (h:nx Z S):zF ⟨nx,rt,bk,ct⟩ Z S:=h
def uF {t:DE}(h:t Z S rt):zB t ⟨nx,rt,bk,ct⟩ Z S:=h
def î {t:DE}(h:t Z S (Aa nx Z)):Za t ⟨nx,rt,bk,ct⟩ Z S:=h
def sG {t:DE}{g:DG}(h:t Z S (vC g Z nx)):zq t g ⟨nx,rt,bk,ct⟩ Z S:=h
def jU {c:DT}{t u:DS}(h:c Z S (uR t u ⟨nx,rt,bk,ct⟩ Z)):ZM c t u ⟨nx,rt,bk,ct⟩ Z S:=h
def cX {c f:Str}{to tv:DE}(h:tv Z S fun y S1=>to Z S1 fun x S2=>∃ n fs,x=.ref n/\S2[n]?=some (.ins c fs)/\fs.length<100/\nx Z (S2.set n (.ins c (putD f y fs)))):VG c f to tv ⟨nx,rt,bk,ct⟩ Z S:=h
def zwR {i:Nat}{t:DE}{a:Int}(e:Z[i]?=some (some (.int a)))(h:t Z S fun y S1=>∃ b,y=.int b/\nx (Z.set i (some (.int (a+b)))) S1):Jp i t ⟨nx,rt,bk,ct⟩ Z S:=⟨a,e,h⟩
def zvL {wi:DI}{g:DG}{t:DS}(h:wi Z S (Eo nx rt g t Z)):YQ wi g t ⟨nx,rt,bk,ct⟩ Z S:=h
def RZ {c:DT}{t:DS}(W:Nat->Z1->Z7->Prop)(m:Nat)(h0:W m Z S)(h:∀ m Z S,W m Z S->c Z S fun b S1=>if b=true then oW W m t rt nx Z S1 else nx Z S1):Vd c t ⟨nx,rt,bk,ct⟩ Z S:=⟨W,⟨m,h0⟩,h⟩
def rR {t:DS}{W:Nat->Z1->Z7->Prop}{m:Nat}(h:t ⟨fun ρ' S'=>∃ m',m'<m/\W m' ρ' S',rt,nx,fun ρ' S'=>∃ m',m'<m/\W m' ρ' S'⟩ Z S):oW W m t rt nx Z S:=⟨_,fun _ _ z=>z,h⟩
def nD {i:Nat}{d:D}{Q:Z1->Z7->Prop}(h:Q (Z.set i (some d)) S):zR i d Z S Q:=h
def ztN {Q:Z1->Z7->Prop}(h:Q Z S):YW [] Z S Q:=⟨rfl,h⟩
def zqF {t:DG}{u:Vc}{d:D}{r:List D}{Q:Z1->Z7->Prop}(h:t d Z S (rF u r Q)):zK t u (d::r) Z S Q:=⟨d,r,rfl,h⟩
def Ė {n:Nat}{t:Vc}{xs:List D}{Q:Z1->Z7->Prop}(e:xs.length=n)(h:t xs Z S Q):YL n t (.tup xs) Z S Q:=⟨xs,rfl,e,h⟩
def zub {to ti:DE}{d:D}{Q:Z1->Z7->Prop}(h:to Z S (oM ti d Z Q)):Qy to ti d Z S Q:=h
def Ra {i:Nat}{d:D}{Q:DK}(h:Z[i]?=some (some d))(q:Q d S):X6 i Z S Q:=⟨d,h,q⟩
def r_c {Q:DK}(q:Q d S):dC d Z S Q:=q
def IK {r:Zu}{ta tb:DE}{Q:DK}(h:ta Z S (wO r tb Z Q)):Z6 r ta tb Z S Q:=h
def jA {r:D->Z7->DK->Prop}{ta:DE}{Q:DK}(h:ta Z S (nZ r Q)):Wu r ta Z S Q:=h
def fM {Q:List D->Z7->Prop}(h:Q [] S):zm Z S Q:=h
def Cm {ta:DE}{tr:DA}{Q:List D->Z7->Prop}(h:ta Z S (wR tr Z Q)):zc ta tr Z S Q:=h
def wB {t:DA}{Q:DK}(h:t Z S (xg Q)):dTup t Z S Q:=h
def Ù {t:DA}{Q:DK}(h:t Z S (wQ Q)):Yn t Z S Q:=h
def zvH {xs:List D}{P:Prop}(h:Nat.ble xs.length big=true)(q:P):xs.length<=big/\P:=⟨qG h,q⟩
def bV {f:ZX}{t:DA}{Q:DK}(h:t Z S (Dg f Q)):dCall f t Z S Q:=h
def Ņ {r:DB}{t:DA}{Q:DK}(h:t Z S (Dg r Q)):dB r t Z S Q:=h
def jc {r:DM}{ta:DE}{t:DA}{Q:DK}(h:ta Z S (kM r t Z Q)):dM r ta t Z S Q:=h
def Ij {n:Nat}{ys:List D}{P:Prop}(h:S[n]?=some (.lst ys))(q:P):(∃ m ys,D.ref n=.ref m/\S[m]?=some (.lst ys))/\P:=⟨⟨n,ys,rfl,h⟩,q⟩
def r_t {t:DE}{Q:Bool->Z7->Prop}(h:t Z S (kT Q)):dT t Z S Q:=h
def lC {P:Bool->Prop}(h:P c):∃ b,D.bl c=D.bl b/\P b:=⟨c,rfl,h⟩
def Ρ {P:Int->Prop}(h:P c):∃ b,D.int c=D.int b/\P b:=⟨c,rfl,h⟩
def zvQ {t u:DT}{Q:Bool->Z7->Prop}(h:t Z S (yF u Z Q)):Xb t u Z S Q:=h
def zyD {t u:DT}{Q:Bool->Z7->Prop}(h:t Z S (kOr u Z Q)):Yz t u Z S Q:=h
def zwP {t:DT}{Q:Bool->Z7->Prop}(h:t Z S (yZ Q)):Yu t Z S Q:=h
def jf {t u:DE}{Q:DK}(h:t Z S fun x S1=>∃ c,x=.bl c/\if c=true then u Z S1 Q else Q (.bl false) S1):QZ t u Z S Q:=h
def jD {t:DE}{Q:DK}(h:t Z S fun x S1=>∃ c,x=.bl c/\Q (.bl (!c)) S1):QV t Z S Q:=h
def lD {r r':Zu}{ta tb tc:DE}{Q:DK}(h:ta Z S fun x S1=>tb Z S1 fun y S2=>r x y S2 fun z S3=>∃ c,z=.bl c/\if c=true then tc Z S3 fun w S4=>r' y w S4 Q else Q (.bl false) S3):QG r r' ta tb tc Z S Q:=h
def zxb {f:Str}{ta:DE}{Q:DK}(h:ta Z S fun x S1=>∃ n c fs d,x=.ref n/\S1[n]?=some (.ins c fs)/\fs.lookup f=some d/\Q d S1):Yl f ta Z S Q:=h
def zxH {r:D->Option Int->Option Int->Z7->DK->Prop}{ta:DE}{lo hi:Option DE}{Q:DK}(h:ta Z S (vm r lo hi Z Q)):Vm r ta lo hi Z S Q:=h
def ϭ {Q:Option Int->Z7->Prop}(h:Q none S):Ui none Z S Q:=h
def zuH {t:DE}{Q:Option Int->Z7->Prop}(h:t Z S fun x S1=>∃ i,x=.int i/\Q (some i) S1):Ui (some t) Z S Q:=h
def zug {Q:Bool->Z7->Prop}(h:Q true S):Yc Z S Q:=h
end
section
variable {S:Z7}{Q:DK}
def jZ {i j:Int}(q:Q (.int (i+j)) S):Zr (.int i) (.int j) S Q:=.inl ⟨i,j,rfl,rfl,q⟩
def zuY {xs ys:List D}(h:xs.length+ys.length<=big)(q:Q (.tup (xs++ys)) S):Zr (.tup xs) (.tup ys) S Q:=.inr (.inl ⟨xs,ys,rfl,rfl,h,q⟩)
def ń (hx:Lst S x xs)(hy:Lst S y ys)(h:xs.length+ys.length<=big)(q:New Q S (xs++ys)):Zr x y S Q:=.inr (.inr (.inl ⟨xs,ys,hx,hy,h,q⟩))
def ϡ {i j:Str}(h:i.length+j.length<=big)(q:Q (.str (i++j)) S):Zr (.str i) (.str j) S Q:=.inr (.inr (.inr ⟨i,j,rfl,rfl,h,q⟩))
def Χ {i j:Int}(q:Q (.int (i-j)) S):Zm (.int i) (.int j) S Q:=⟨i,j,rfl,rfl,q⟩
def Ϥ (c:Y4 i j)(q:Q (.int (i*j)) S):Y5 (.int i) (.int j) S Q:=.inl ⟨i,j,rfl,rfl,c,q⟩
def zxh {c:Nat}{z:Str}(q:Q (.bl (decide (c∈z.cps.toList))) S):Vh (.str ⟨#[c]⟩) (.str z) S Q:=.inr ⟨c,z,rfl,rfl,q⟩
def ϥ {i j:Int}(c:0<j/\My.Bd 8000 j)(q:Q (.int (i/j)) S):oDiv (.int i) (.int j) S Q:=⟨i,j,rfl,rfl,⟨by lia,c.2⟩,by show Q (.int (i.fdiv j)) S;rw[Int.fdiv_eq_ediv_of_nonneg i (by lia)];exact q⟩
def zwZ {i j:Int}(c:0<j)(q:Q (.int (i%j)) S):oMod (.int i) (.int j) S Q:=⟨i,j,rfl,rfl,(by show j≠0;lia),by show Q (.int (i.fmod j)) S;rw[Int.fmod_eq_emod_of_nonneg i (by lia)];exact q⟩
def pK (c:oG i j)(q:Q (.int (i.fdiv j)) S):oDiv (.int i) (.int j) S Q:=⟨i,j,rfl,rfl,c,q⟩
def jo {i j:Int}(c:j≠0)(q:Q (.int (i.fmod j)) S):oMod (.int i) (.int j) S Q:=⟨i,j,rfl,rfl,c,q⟩
def aX {i:Int}(q:Q (.int (-i)) S):Wq (.int i) S Q:=⟨i,rfl,q⟩
def zyJ {i j:Int}(q:Q (.bl (decide (i<j))) S):oLt (.int i) (.int j) S Q:=⟨i,j,rfl,rfl,q⟩
def jl {i j:Int}(q:Q (.bl (decide (i<=j))) S):oLe (.int i) (.int j) S Q:=⟨i,j,rfl,rfl,q⟩
def ă {i j:Int}(q:Q (.bl (decide (j<i))) S):Yg (.int i) (.int j) S Q:=⟨i,j,rfl,rfl,q⟩
def zxI {i j:Int}(q:Q (.bl (decide (j<=i))) S):KD (.int i) (.int j) S Q:=⟨i,j,rfl,rfl,q⟩
def iD {i j:Int}(q:Q (.bl (!decide (i=j))) S):Yv (.int i) (.int j) S Q:=⟨_,.inl ⟨rfl,rfl,rfl⟩,q⟩
def zyY {x:D}(q:Q (.bl (Xh x)) S):N7 x .non S Q:=.inl ⟨rfl,q⟩
def ztx (q:Q (.bl false) S):Wv .non .non S Q:=.inl ⟨rfl,q⟩
def lJ {i:Int}(q:Q (.bl true) S):Wv (.int i) .non S Q:=.inl ⟨rfl,q⟩
def jR {xs:List D}(q:Q (.bl true) S):Wv (.tup xs) .non S Q:=.inl ⟨rfl,q⟩
def zv7 {x:D}(q:Q (.bl (!Xh x)) S):Wv x .non S Q:=.inl ⟨rfl,q⟩
def zwy {xs:List D}{i:Int}{d:D}(e:Zb xs i=some d)(q:Q d S):ZR (.tup xs) (.int i) S Q:=.inl ⟨i,xs,d,rfl,.inl rfl,e,q⟩
def lB {i:Int}{d:D}(h:Lst S x xs)(e:Zb xs i=some d)(q:Q d S):ZR x (.int i) S Q:=.inl ⟨i,xs,d,rfl,.inr h,e,q⟩
def zw1 {z:Str}{i:Int}{c:Nat}(hz:z.length<=big)(e:atS z i=some c)(q:Q (.str ⟨#[c]⟩) S):ZR (.str z) (.int i) S Q:=.inr ⟨z,i,c,rfl,rfl,hz,e,q⟩
def aA {lo hi:Option Int}(h:Lst S x xs)(q:New Q S (cutD xs lo hi)):Vr x lo hi S Q:=.inr (.inl ⟨xs,h,q⟩)
def ē {xs:List D}(q:Q (.int xs.length) S):Zc [.tup xs] S Q:=.inl ⟨_,xs,rfl,.inl rfl,q⟩
def zuk (h:Lst S x xs)(q:Q (.int xs.length) S):Zc [x] S Q:=.inl ⟨_,xs,rfl,.inr h,q⟩
def vp {z:Str}(hz:z.length<=big)(q:Q (.int z.length) S):Zc [.str z] S Q:=.inr ⟨z,rfl,hz,q⟩
def gZ {i:Int}(q:Q (.int (i.natAbs:Int)) S):JQ [.int i] S Q:=⟨i,rfl,q⟩
def zuI {i j:Int}(q:Q (.int (max i j)) S):Qg [.int i,.int j] S Q:=⟨i,j,rfl,q⟩
def đ {i j:Int}(q:Q (.int (min i j)) S):RG [.int i,.int j] S Q:=⟨i,j,rfl,q⟩
def mU {ns:List Int}(h:Lst S x (ns.map D.int))(h0:0<ns.length)(q:∀ m:Int,m∈ns->(∀ a∈ns,a<=m)->Q (.int m) S):K7 [x] S Q:=⟨x,ns,rfl,h,h0,q⟩
def uo {ns:List Int}(h:Lst S x (ns.map D.int))(h0:0<ns.length)(q:∀ m:Int,m∈ns->(∀ a∈ns,m<=a)->Q (.int m) S):Ly [x] S Q:=⟨x,ns,rfl,h,h0,q⟩
def BL {bs:List Bool}(h:Lst S x (bs.map D.bl))(q:Q (.bl (bs.all id)) S):Vf [x] S Q:=⟨x,bs,rfl,h,q⟩
def zr1 (h:Lst S x xs)(q:New Q S xs):Qk [x] S Q:=⟨_,xs,rfl,.inr h,q⟩
def Jo {n:Nat}{xs:List D}{y:D}(h:S[n]?=some (.lst xs))(hl:xs.length<big)(q:Put (Q .non) S n (.lst (xs++[y]))):Wf (.ref n) [y] S Q:=⟨n,xs,y,rfl,rfl,h,hl,q⟩
def nU {n m:Nat}{xs ys:List D}(h:S[n]?=some (.lst xs))(hy:S[m]?=some (.lst ys))(hn:m≠n)(hl:xs.length+ys.length<=big)(q:Put (Q .non) S n (.lst (xs++ys))):Mu (.ref n) [.ref m] S Q:=.inl ⟨n,xs,m,ys,rfl,rfl,h,hy,hn,hl,q⟩
def cj {n:Nat}{xs:List D}{y:D}(h:S[n]?=some (.lst (y::xs)))(q:Put (Q y) S n (.lst xs)):J3 (.ref n) [.int 0] S Q:=⟨n,xs,y,rfl,rfl,h,q⟩
def zwd {n:Nat}{xs:List D}{k:Int}{j:Nat}{d:D}{Z:Z1}{Q:Z1->Z7->Prop}(h:S[n]?=some (.lst xs))(e:Xv xs.length k=some j)(q:Put (Q Z) S n (.lst (xs.set j d))):Ih d Z Q (.ref n) (.int k) S:=⟨n,xs,k,j,rfl,rfl,h,e,q⟩
end
section
variable {Z:Z1}{S:Z7}{R:UG->Z7->Prop}
def Ϣ {t:DE}(h:t Z S fun x S1=>MF x S1 R):z9 t Z S R:=h
def mH {xs:List D}(q:R ⟨xs,fun _=>True⟩ S):MF (.tup xs) S R:=.inl ⟨xs,rfl,q⟩
def zw2 (h:Lst S x xs)(q:R ⟨xs,fun S=>Lst S x xs⟩ S):MF x S R:=.inr (.inl ⟨xs,h,q⟩)
def fU {z:Str}(q:R ⟨signs z,fun _=>True⟩ S):MF (.str z) S R:=.inr (.inr ⟨z,rfl,q⟩)
def Į {t:DA}(h:t Z S fun vs S1=>∃ j:Int,vs=[.int j]/\-(2 ^ 62)<=j/\j<2 ^ 62/\R ⟨upto 0 j.toNat,fun _=>True⟩ S1):Rk t Z S R:=h
def Ź {t:DA}(h:t Z S fun vs S1=>∃ i j:Int,vs=[.int i,.int j]/\R ⟨upto i (j-i).toNat,fun _=>True⟩ S1):Jh t Z S R:=h
def zuj {t:DA}(h:t Z S (Ii R)):V6 t Z S R:=h
def Pr (h:Lst S x xs)(q:R ⟨Vq 0 xs,fun S=>Lst S x xs⟩ S):Ii R [x] S:=⟨x,xs,rfl,h,q⟩
def zsv {Q:DK}{zs:List Str}(hx:Lst S x (zs.map D.str))(hl:zs.length<=4000)(q:Q (.int (Gq zs)) S):Jr [x] S Q:=⟨x,zs,rfl,hx,hl,q⟩
def zwB {t:DA}(h:t Z S (Cv R)):Ke t Z S R:=h
def zxO (hx:Lst S x xs)(hy:Lst S y ys)(q:R ⟨Yr xs ys,fun S=>Lst S x xs/\Lst S y ys⟩ S):Cv R [x,y] S:=.inl ⟨x,y,xs,ys,rfl,hx,hy,q⟩
def jG {own:Nat}{fv:List Nat}{wi:DI}{g:DG}{tc:DT}{te:DE}{Q:DK}(h:wi Z S (Hw own fv g tc te Z Q)):Zg own fv wi g tc te Z S Q:=h
end
def GP {A B:Prop}(h:B):if false=true then A else B:=by rw[if_neg qo];exact h
def Ck {A B:Prop}(h:A):if true=true then A else B:=by rw[if_pos rfl];exact h
def Zo {c A B:Prop}[Decidable c](h1:c->A)(h2:¬ c->B):if decide c=true then A else B:=by
 by_cases h:c
 ·rw[decide_eq_true h,if_pos rfl];exact h1 h
 ·rw[decide_eq_false h,if_neg qo];exact h2 h
def Xf {c A B:Prop}[Decidable c](h1:¬ c->A)(h2:c->B):if(!decide c)=true then A else B:=by
 by_cases h:c
 ·rw[decide_eq_true h];exact h2 h
 ·rw[decide_eq_false h];exact h1 h
def zP (S T:Z7)(k:Nat):(S++T)[S.length+k]?=T[k]?:=by rw[qe (Od _ _),Jm]
def zqt (S T:Z7):(S++T)[S.length]?=T[0]?:=zP S T 0
def zM {S T:Z7}{c:Cell}:(S++c::T)[S.length]?=some c:=(zP S (c::T) 0).trans rfl
def Nv {S T:Z7}{c:Cell}:(S++(T++[c]))[S.length+T.length]?=some c:=by rw[zP,qe (qh _),Yp];rfl
def Ũ (S T:Z7)(k:Nat)(c:Cell):(S++T).set (S.length+k) c=S++T.set k c:=by rw[Pu _ _ (Od _ _),Jm]
def Sh (S T:Z7)(a c:Cell):(S++a::T).set S.length c=S++c::T:=Ũ S (a::T) 0 c
def zE {S T:Z7}{n:Nat}{c:Cell}(h:S[n]?=some c):(S++T)[n]?=some c:=by
 have:n<S.length:=by
  rcases qW n S.length with g|g
  ·exact g
  ·rw[qB g]at h;cases h
 rw[qg this];exact h
def Lst.old {T:Z7}(h:Lst S x xs):Lst (S++T) x xs:=h.imp id fun zq14=>by obtain⟨n,e,h⟩:=zq14;exact⟨n,e,zE h⟩
def Lst.at {S T:Z7}{k:Nat}{xs:List D}(h:T[k]?=some (.lst xs)):Lst (S++T) (.ref (S.length+k)) xs:=.inr ⟨_,rfl,by rw[zP];exact h⟩
def Lst.at0 {S T:Z7}{xs:List D}:Lst (S++.lst xs::T) (.ref S.length) xs:=.inr ⟨_,rfl,by rw[zqt];rfl⟩
def Lst.new {S T:Z7}{xs:List D}:Lst (S++(T++[.lst xs])) (.ref (S.length+T.length)) xs:=.inr ⟨_,rfl,Nv⟩
theorem Lst.rl {S:Z7}{xs:List D}:Lst S (.rl xs) xs:=.inl rfl
def Lst.here {S:Z7}{n:Nat}{xs:List D}(h:S[n]?=some (.lst xs)):Lst S (.ref n) xs:=.inr ⟨n,rfl,h⟩
def SJ {T:Z7}{Q:DK}{d:D}(h:fl 20 d=true)(q:Q d S):Fin S Q d (S++T):=.inr ⟨S,Oi _ _,qh _,.inl h,fun _ _ e=>.inl e,q⟩
def fin_same {S:Z7}{Q:DK}(q:Q d S'):Fin S Q d S':=.inl q
section
variable {S:Z7}{Q:DK}
def aU {i:Int}(q:Q (.bl true) S):Xk [.int i,.ty "int"] S Q:=⟨_,_,true,rfl,by rfl,q⟩
def jX {i:Int}(q:Q (.bl false) S):Xk [.int i,.ty "bool"] S Q:=⟨_,_,false,rfl,by rfl,q⟩
def Β {xs:List D}(q:Q (.bl true) S):Xk [.tup xs,.ty "tuple"] S Q:=⟨_,_,true,rfl,by rfl,q⟩
def zib {x:Str}(q:Q (.bl true) S):Xk [.str x,.ty "str"] S Q:=⟨_,_,true,rfl,by rfl,q⟩
def cG {n:Nat}{xs:List D}(h:S[n]?=some (.lst xs))(q:Q (.bl true) S):Xk [.ref n,.ty "list"] S Q:=⟨_,_,true,rfl,by unfold DX;rw[if_neg (by decide)];simp only[h];rfl,q⟩
end
def kO {A B:Prop}(h:B):if(!true)=true then A else B:=GP h
def zwc {A B:Prop}(h:A):if(!false)=true then A else B:=Ck h
def Mw {Q:DK}{bs:List Bool}{b:Bool}(h:Lst S x (bs.map D.bl))(e:bs.all id=b)(q:Q (.bl b) S):Vf [x] S Q:=BL h (by rw[e];exact q)
def TJ (S:Z7)(items:List D)(p:D->Bool)(f:D->D)(i:Nat)(ys:List D)(S':Z7):Prop:=S'=S/\ys=((items.take i).filter p).map f
def V8 {α:Type}{xs:List α}{i:Nat}{x:α}(h:xs[i]?=some x):xs.take (i+1)=xs.take i++[x]:=by rw[List.take_succ,h];rfl
def Xm {items:List D}{i:Nat}{d y:D}(hd:items[i]?=some d)(hw:TJ S items p f i ys S)(hp:p d=true)(hy:y=f d):TJ S items p f (i+1) (ys++[y]) S :=⟨rfl,by rw[V8 hd,Ph,qD,<- hw.2,Kp hp,hy];rfl⟩
def VF {items:List D}{i:Nat}{d:D}(hd:items[i]?=some d)(hw:TJ S items p f i ys S)(hp:p d=false):TJ S items p f (i+1) ys S :=⟨rfl,by rw[V8 hd,Ph,qD,<- hw.2,Kw (by rw[hp];exact qo)];simp⟩
def Xy {own:Nat}{fv:List Nat}{xs:List D}{ok:Z7->Prop}{g:DG}{tc:DT}{te:DE}{Z:Z1}{S:Z7}(p:D->Bool)(f:D->D)(hok:ok S)(hbig:xs.length<=big)(step:∀ i d ys,xs[i]?=some d->TJ S xs p f i ys S->g d (Rr own fv Z) S fun ρ2 S2=>tc ρ2 S2 fun b S3=>if b=true then te ρ2 S3 fun y S4=>TJ S xs p f (i+1) (ys++[y]) S4 else TJ S xs p f (i+1) ys S3)(q:New Q S ((xs.filter p).map f)):Hw own fv g tc te Z Q ⟨xs,ok⟩ S:=by
 refine⟨hbig,TJ S xs p f,⟨rfl,by simp⟩,fun i ys S' h=>by rw[h.1];exact hok,fun i d ys S' hd h=>?_,fun ys S' h=>?_⟩
 ·obtain⟨rfl,_⟩:=id h;exact step i d ys hd h
 ·obtain⟨rfl,rfl⟩:=h;rw[Ve];exact q
def filter_true (xs:List α):xs.filter (fun _=>true)=xs:=List.filter_eq_self.mpr fun _ _=>rfl
def Rt {ds:List D}{i:Nat}{d:D}(h:ds[i]?=some d):Zb ds (i:Int)=some d:=by
 have hl:i<ds.length:=by
  rcases qW i ds.length with g|g
  ·exact g
  ·rw[qB g]at h;cases h
 unfold Zb Xv;rw[if_pos (by lia),if_pos (by lia)];simpa using h
def Em {lo:Int}{n i:Nat}{d:D}(h:(upto lo n)[i]?=some d):i<n/\d=.int (lo+i):=by
 unfold upto at h;rw[qj]at h;by_cases hi:i<n
 ·rw[List.getElem?_range hi]at h;exact⟨hi,by simpa using h.symm⟩
 ·rw[qB (by simpa using hi)]at h;cases h
def Im (lo:Int)(n:Nat):(upto lo n).length=n:=by unfold upto;simp
def pP {zs:List Int}{k:Int}(h0:0<=k)(h:k<zs.length):∃ z,z∈zs/\Zb (zs.map D.int) k=some (.int z):=by refine⟨zs[k.toNat]'(by lia),List.getElem_mem _,?_⟩;unfold Zb Xv;rw[qa,if_pos h0,if_pos h];simp only[Option.bind_some];rw[qj,qb (by lia)];rfl
def zum {zs:List Int}{k:Int}(h0:0<=k)(h:k<zs.length):Xv (zs.map D.int).length k=some k.toNat:=by unfold Xv;rw[qa,if_pos h0,if_pos h]
def bQ {zs:List Int}{i:Nat}{v z:Int}(h:z∈zs.set i v):z∈zs\/z=v:=by
 rcases Df h with h|h
 ·exact .inl h
 ·exact .inr h
def PN {zs:List Int}{i:Nat}{d:D}(h:(zs.map D.int)[i]?=some d):∃ z,zs[i]?=some z/\d=.int z:=by
 rw[qj]at h;cases e:zs[i]? with
 |none=>rw[e]at h;cases h
 |some p=>rw[e]at h;cases h;exact⟨p,rfl,rfl⟩
def Dm {cs:List (Int×Int)}{i:Nat}{d:D}(h:(cs.map p2)[i]?=some d):∃ c,cs[i]?=some c/\d=p2 c:=by
 rw[qj]at h;cases e:cs[i]? with
 |none=>rw[e]at h;cases h
 |some p=>rw[e]at h;cases h;exact⟨p,rfl,rfl⟩
def zA {α:Type}{xs:List α}{i:Nat}{x:α}(h:xs[i]?=some x):i<xs.length:=by
 rcases qW i xs.length with g|g
 ·exact g
 ·rw[qB g]at h;cases h
def Vn:Option Int->D
 |none=>.non
 |some v=>.int v
theorem R8:∀ {xs:List D} {k i:Nat} {d:D},(Vq k xs)[i]?=some d->∃ x,xs[i]?=some x/\d=.tup [.int ((k+i:Nat):Int),x]
 |[],k,i,d,h=>by simp[Vq]at h
 |x::xs,k,0,d,h=>⟨x,rfl,by simpa [Vq]using h.symm⟩
 |x::xs,k,i+1,d,h=>by obtain⟨y,e1,e2⟩:=R8 (xs:=xs) (k:=k+1) (i:=i) (d:=d) (by simpa [Vq]using h);exact⟨y,by simpa using e1,by rw[e2,show k+1+i=k+(i+1) by lia]⟩
theorem VB:∀ (k:Nat) (xs:List D),(Vq k xs).length=xs.length
  |_,[]=>rfl
  |k,x::xs=>congrArg (· + 1) (VB (k+1) xs)
theorem JX:∀ {xs ys:List D} {i:Nat} {d:D},(Yr xs ys)[i]?=some d->∃ x y,xs[i]?=some x/\ys[i]?=some y/\d=.tup [x,y]
 |[],ys,i,d,h=>by simp[Yr]at h
 |x::xs,[],i,d,h=>by simp[Yr]at h
 |x::xs,y::ys,0,d,h=>⟨x,y,rfl,rfl,by simpa [Yr]using h.symm⟩
 |x::xs,y::ys,i+1,d,h=>by obtain⟨a,b,e1,e2,e3⟩:=JX (xs:=xs) (ys:=ys) (i:=i) (d:=d) (by simpa [Yr]using h);exact⟨a,b,by simpa using e1,by simpa using e2,e3⟩
theorem R7:∀ (xs ys:List D),(Yr xs ys).length=min xs.length ys.length
 |[],ys=>by simp[Yr]
 |x::xs,[]=>by simp[Yr]
 |x::xs,y::ys=>by show(Yr xs ys).length+1=min (xs.length+1) (ys.length+1);rw[R7 xs ys];lia
def spT (T:Z7):ZX:=fun ds S Q=>∃ ns:List Int,ds=[.rl (ns.map D.int)]/\(S=T/\∀ n∈ns,Hg n)/\ns.length<=63/\∀ S',Q (.bl true) S'
abbrev PK:ZX:=spT []
def Tt {α β:Type}(f:α->β)(xs:List α)(lo hi:Option Int):cutD (xs.map f) lo hi=(cutD xs lo hi).map f:=by unfold cutD;rw[qa,List.map_take,List.map_drop]
def gU (xs:List α)(lo hi:Option Int):(cutD xs lo hi).length<=XH xs.length xs.length hi-XH xs.length 0 lo:=by unfold cutD;rw[WX];lia
def yq (f:Int->D):D->D
 |.int h=>f h
 |d=>d
def dI (f:Int->D)(hs:List Int):(hs.map D.int).map (yq f)=hs.map f:=by rw[XF];rfl
section
variable {nx:Z1->Z7->Prop}{rt:DK}{bk ct:Z1->Z7->Prop}{Z:Z1}{S:Z7}
def aL {f:Ys}{ex:XR}{t:DA}{Q:DK}(h:t Z S fun xs S1=>f xs S1 Q (ex Z)):Yk f ex t Z S Q:=h
def Λ {ex:XR}{c:Str}(h:ex Z c S):RN ex c ⟨nx,rt,bk,ct⟩ Z S:=h
end
def zvN {Q:DK}{b:Bool}(hx:Lst S x xs)(hy:Lst S y ys)(fx:xs.all (fl 20)=true)(fy:ys.all (fl 20)=true)(e:eqvAll xs ys=b)(q:Q (.bl (!b)) S):Yv x y S Q:=⟨_,.inr (.inl ⟨xs,ys,hx,hy,fx,fy,rfl⟩),by rw[e];exact q⟩
def zrn {Q:DK}{x y:Str}{b:Bool}(fx:fl 20 (.str x)=true)(fy:fl 20 (.str y)=true)(e:(x==y)=b)(q:Q (.bl b) S):oEq (.str x) (.str y) S Q:=⟨_,.inl ⟨fx,fy,rfl⟩,by show Q (.bl (x==y)) S;rw[e];exact q⟩
def ú {S:Z7}{Q:DK}{x y:Str}{b:Bool}(fx:fl 20 (.str x)=true)(fy:fl 20 (.str y)=true)(e:(x==y)=b)(q:Q (.bl (!b)) S):Yv (.str x) (.str y) S Q:=⟨_,.inl ⟨fx,fy,rfl⟩,by show Q (.bl (!(x==y))) S;rw[e];exact q⟩
section
variable {nx:Z1->Z7->Prop}{rt:DK}{bk ct:Z1->Z7->Prop}{Z:Z1}{S:Z7}{Q:DK}{td ti tz tv:DE}
def zsE (h:Q (.ref S.length) (S++[.dk []])):Jl Z S Q:=h
def zvd (h:Q (.ref S.length) (S++[.dn [] 0])):J4 Z S Q:=h
def zsc {tk:DE}(h:tk Z (S++[.dt []]) fun x S1=>tv Z S1 fun y S2=>∃ ks,x=.tup (ks.map kD)/\S2[S.length]?=some (.dt [])/\Q (.ref S.length) (S2.set S.length (.dt [(ks,y)]))):J8 tk tv Z S Q:=h
def aO {R:UG->Z7->Prop}(h:td Z S fun x S1=>∃ n Z8 e,x=.ref n/\S1[n]?=some (.dn Z8 e)/\R ⟨Z8.map fun kv=>.tup [.tup (kv.1.map kN),kv.2],fun S=>S[n]?=some (.dn Z8 e)⟩ S1):JN td Z S R:=h
def Ž (h:td Z S fun x S1=>ti Z S1 fun y S2=>∃ d,Zj S2 x y (some d)/\Q d S2):V2 td ti Z S Q:=h
def zxv (h:ti Z S fun y S1=>td Z S1 fun x S2=>∃ o,Zj S2 x y o/\Q (.bl o.isSome) S2):Qv ti td Z S Q:=h
def iz (h:ti Z S fun y S1=>td Z S1 fun x S2=>∃ o,Zj S2 x y o/\Q (.bl (!o.isSome)) S2):Qq ti td Z S Q:=h
def ħ (h:td Z S fun x S1=>Er S1 x/\ti Z S1 fun y S2=>tz Z S2 fun z S3=>∃ o,Zj S3 x y o/\Q (o.getD z) S3):Nk td ti tz Z S Q:=h
def Ĭ (h:tv Z S fun v S1=>td Z S1 fun x S2=>ti Z S2 fun y S3=>SM S3 x y v (nx Z)):Oj td ti tv ⟨nx,rt,bk,ct⟩ Z S:=h
def Zj.k {n:Nat}{Z8:List (Str×D)}{z:Str}{o:Option D}(h:S[n]?=some (.dk Z8))(e:dval Z8 z=o):Zj S (.ref n) (.str z) o:=.inl ⟨n,Z8,z,rfl,rfl,h,e.symm⟩
def Zj.t {n:Nat}{Z8:List (List (Sum Int Str)×D)}{ks:List (Sum Int Str)}{o:Option D}(h:S[n]?=some (.dt Z8))(e:dval Z8 ks=o):Zj S (.ref n) (.tup (ks.map kD)) o:=.inr (.inl ⟨n,Z8,ks,rfl,rfl,h,e.symm⟩)
theorem Zj.n {n:Nat}{Z8:List (List (List (Sum Int Str))×D)}{ks:List (List (Sum Int Str))}{o:Option D}{ep:Nat}(h:S[n]?=some (.dn Z8 ep))(e:dval Z8 ks=o):Zj S (.ref n) (.tup (ks.map kN)) o:=.inr (.inr ⟨n,Z8,ep,ks,rfl,rfl,h,e.symm⟩)
def SM.k {n:Nat}{Z8:List (Str×D)}{z:Str}{v:D}(h:S[n]?=some (.dk Z8))(hl:Z8.length<big)(q:Put P S n (.dk (dput Z8 z v))):SM S (.ref n) (.str z) v P:=.inl ⟨n,Z8,z,rfl,rfl,h,hl,q⟩
def SM.t {n:Nat}{Z8:List (List (Sum Int Str)×D)}{ks:List (Sum Int Str)}{v:D}(h:S[n]?=some (.dt Z8))(hl:Z8.length<big)(q:Put P S n (.dt (dput Z8 ks v))):SM S (.ref n) (.tup (ks.map kD)) v P:=.inr ⟨n,Z8,ks,rfl,rfl,h,hl,q⟩
theorem QH.n {n:Nat}{Z8:List (List (List (Sum Int Str))×D)}{ks:List (List (Sum Int Str))}{v:D}{P:Z7->Prop}{e:Nat}(h:S[n]?=some (.dn Z8 e))(hl:Z8.length<big)(q:∀ e',Put P S n (.dn (dput Z8 ks v) e')):QH S (.ref n) (.tup (ks.map kN)) v P:=⟨n,Z8,e,ks,rfl,rfl,h,hl,q⟩
def zty (h:tv Z S fun v S1=>td Z S1 fun x S2=>ti Z S2 fun y S3=>QH S3 x y v (nx Z)):S8 td ti tv ⟨nx,rt,bk,ct⟩ Z S:=h
end
section
variable {κ:Type}[DecidableEq κ]
def Ao {k:κ}:dval ([]:List (κ×D)) k=none:=rfl
def WL {p:κ×D}{Z8:List (κ×D)}{k:κ}:dval (p::Z8) k=if p.1=k then some p.2 else dval Z8 k:=by
 unfold dval;rw[List.find?_cons];by_cases h:p.1=k
 ·rw[if_pos h,decide_eq_true h];rfl
 ·rw[if_neg h,decide_eq_false h]
def R4 (Z8:List (κ×D))(k:κ):(Z8.any fun kv=>decide (kv.1=k))=(dval Z8 k).isSome:=by
 induction Z8 with
 |nil=>rfl
 |cons p Z8 ih =>
  rw[Mj,WL,ih];by_cases h:p.1=k
  ·rw[if_pos h,decide_eq_true h];rfl
  ·rw[if_neg h,decide_eq_false h];rfl
def uc (Z8:List (κ×D))(k j:κ)(v:D):dval (Z8++[(k,v)]) j=(dval Z8 j).or (if k=j then some v else none):=by
 induction Z8 with
 |nil=>rw[List.nil_append,WL,Ao];simp
 |cons p Z8 ih =>
  rw[Mi,WL,WL,ih];by_cases h:p.1=j
  ·rw[if_pos h,if_pos h];rfl
  ·rw[if_neg h,if_neg h]
def bN (Z8:List (κ×D))(k j:κ)(v:D):dval (dput Z8 k v) j=if k=j then some v else dval Z8 j:=by
  unfold dput;rw[R4];cases e:dval Z8 k with
  |none =>
    rw[show(none:Option D).isSome=false from rfl,if_neg qo,uc];by_cases h:k=j
    . subst h;rw[e,if_pos rfl];rfl
    . rw[if_neg h,if_neg h];cases dval Z8 j<;>rfl
  |some w =>
    rw[show(some w).isSome=true from rfl,if_pos rfl]
    have:∀ Z8:List (κ×D),dval (Z8.map fun kv=>if kv.1=k then(kv.1,v)else kv) j=if k=j then(dval Z8 j).map fun _=>v else dval Z8 j:=fun Z8=>by
      induction Z8 with
      |nil=>simp[Ao]
      |cons p Z8 ih =>
        rw[qO,WL,WL,ih];by_cases hp:p.1=k
        . rw[if_pos hp];by_cases h:k=j
          . rw[if_pos h,if_pos (hp.trans h),if_pos (hp.trans h)];simp[h]
          . have:¬ p.1=j:=fun z=>h (hp.symm.trans z)
            rw[if_neg this,if_neg this,if_neg h]
        . rw[if_neg hp];by_cases h:k=j
          . have:¬ p.1=j:=fun z=>hp (z.trans h.symm)
            rw[if_neg this,if_neg this]
          . rw[if_neg h,if_neg h]
    rw[this];by_cases h:k=j
    . subst h;rw[if_pos rfl,if_pos rfl,e];rfl
    . rw[if_neg h,if_neg h]
def gJ (Z8:List (κ×D))(k:κ)(v:D):(dput Z8 k v).map (·.1)=if(dval Z8 k).isSome=true then Z8.map (·.1)else Z8.map (·.1)++[k]:=by
  unfold dput;rw[R4];split
  . rw[XF];refine List.map_congr_left fun p _=>?_
    show(if p.1=k then(p.1,v)else p).1=p.1;split<;>rfl
  . rw[qD];rfl
end
def Hv (c:List Str)(z:Str):(Sx c z).length=if c.any (·==z)then c.length else c.length+1:=by unfold Sx;split<;>simp
def p8 (c:List Str)(z y:Str):(Sx c z).any (·==y)=(c.any (·==y)||decide (y=z)):=by
  unfold Sx;by_cases h:c.any (·==z)=true
  . rw[if_pos h];by_cases e:y=z
    . subst e;rw[h];rfl
    . rw[decide_eq_false e,Bool.or_false]
  . rw[if_neg h,List.any_append];congr 1;by_cases e:y=z
    . subst e;simp
    . rw[decide_eq_false e];have:(z==y)=false:=beq_eq_false_iff_ne.mpr fun q=>e q.symm
      simp[this]
theorem Gd (f:Nat->Str):∀ i,(X8 f i).length<=i
  |0=>qh _
  |i+1=>by have:=Gd f i;show(Sx (X8 f i) (f i)).length<=i+1;rw[Hv];split<;>lia
theorem wZ (f:Nat->Str)(y:Str):∀ i,((X8 f i).any (·==y)=true↔∃ j,j<i/\f j=y)
  |0=>⟨fun h=>(by simp[X8]at h),fun⟨j,hj,_⟩=>(by lia)⟩
  |i+1=>by
    show((Sx (X8 f i) (f i)).any (·==y)=true)↔_;rw[p8,Ql,wZ f y i,decide_eq_true_eq];constructor
    . rintro(⟨j,hj,e⟩|e)
      . exact⟨j,by lia,e⟩
      . exact⟨i,by lia,e.symm⟩
    . rintro⟨j,hj,e⟩;rcases qW j i with h|h
      . exact .inl ⟨j,h,e⟩
      . have:j=i:=by lia
        subst this;exact .inr e.symm
theorem tM (f:Nat->Str):∀ i,(∀ a b,a<b->b<i->f a≠f b)->(X8 f i).length=i
 |0,_=>rfl
 |i+1,h=>by show(Sx (X8 f i) (f i)).length=i+1;rw[Hv,tM f i fun a b x y=>h a b x (by lia)];rw[if_neg];intro z;obtain⟨j,hj,e⟩:=(wZ f (f i) i).mp z;exact h j i hj (by lia) e
def Ω {zs:List Str}(h:zs.Nodup):Gq zs=zs.length:=tM _ _ fun a b hab hb=>by show zs.getD a Str.empty≠zs.getD b Str.empty;rw[qJ,qJ,qb hb,qb (show a<zs.length by lia)];exact RJ.mp h a b (by lia) hb hab
end Dp
namespace Rm
structure Pc where
 lo:Int
 hi:Int
 to:Int
 st:Int
instance:DecidableEq Pc:=fun p q=>if h:p.lo=q.lo/\p.hi=q.hi/\p.to=q.to/\p.st=q.st then isTrue (by cases p;cases q;obtain⟨h1,h2,h3,h4⟩:=h;cases h1;cases h2;cases h3;cases h4;rfl)else isFalse (fun e=>h (by subst e;exact⟨rfl,rfl,rfl,rfl⟩))
def Pc.led (p:Pc)(h:Int):Int:=p.to+p.st*(h-p.lo)
def Pc.fin (p:Pc):Int:=p.led p.hi
def Cj (p:Pc)(h:Int):Prop:=p.lo<=h/\h<=p.hi
instance (p:Pc) (h:Int):Decidable (Cj p h):=by unfold Cj;infer_instance
def at':List Pc->Int->Option Int
 |[],_=>none
 |p::r,h=>if Cj p h then some (p.led h)else at' r h
end Rm
namespace Dp
open PySem Rm
open PySem Rm My
def mZ {xs:List D}{x:D}:Xv (xs++[x]).length (-1)=some xs.length:=by
 have hl:((xs++[x]).length:Int)=xs.length+1:=by simp
 unfold Xv;rw[if_neg (by lia),if_pos (by lia)];congr 1;lia
def zoK {xs:List D}{x:D}:Zb (xs++[x]) (-1)=some x:=by unfold Zb;rw[mZ];simp
end Dp
namespace Rm
open My Dp
end Rm
namespace Dp
open PySem Rm My
def Γ (f:Int×Int->D):D->D
 |.tup [.int a,.int b]=>f (a,b)
 |d=>d
def ind (b:Bool):Int:=if b=true then 1 else 0
end Dp
namespace Rm
open My Dp
def Zh (L R B T x1 z1 x2 z2:Int):List Int :=[(x2-x1)*(B-z1)-(z2-z1)*(L-x1),(x2-x1)*(T-z1)-(z2-z1)*(L-x1),(x2-x1)*(B-z1)-(z2-z1)*(R-x1),(x2-x1)*(T-z1)-(z2-z1)*(R-x1)]
def WK (L R B T x1 z1 x2 z2:Int):Prop :=L<=(max x1 x2)/\(min x1 x2)<=R/\B<=(max z1 z2)/\(min z1 z2)<=T/\(∃ a∈Zh L R B T x1 z1 x2 z2,0<=a)/\∃ a∈Zh L R B T x1 z1 x2 z2,a<=0
def Ro (lo hi st sp e1 e2 x1 x2:Int):Prop :=
 (sp=0/\lo<=st/\st<=hi/\e1=0/\e2=1/\x1=1/\x2=1)\/(sp=0/\(st<lo\/hi<st)/\e1=1/\e2=1/\x1=0/\x2=1) \/
 (0<sp/\e1=lo-st/\e2=sp/\x1=hi-st/\x2=sp)\/(sp<0/\e1=st-hi/\e2=-sp/\x1=st-lo/\x2=-sp)
def Jc (ea1 ea2 xa1 xa2 eu1 eu2 xu1 xu2:Int):Prop:=∀ e∈[((0:Int),(1:Int)),(ea1,ea2),(eu1,eu2)],∀ x∈[((1:Int),(1:Int)),(xa1,xa2),(xu1,xu2)],e.1*x.2<=x.1*e.2
def TF {u a b:Int}(h:0<=u)(h':a<=b):u*a<=u*b:=Int.mul_le_mul_of_nonneg_left h' h
def ð {p r P R:Int}{L x:Int}:(∃ a∈[P-L,R-L,P-x,R-x],p<=a)↔(p<=P-L\/p<=R-L\/p<=P-x\/p<=R-x):=by simp
def ε {p P R:Int}{L x:Int}:(∃ a∈[P-L,R-L,P-x,R-x],a<=p)↔(P-L<=p\/R-L<=p\/P-x<=p\/R-x<=p):=by simp
def zm9 {ea1 ea2 xa1 xa2 eu1 eu2 xu1 xu2:Int}:Jc ea1 ea2 xa1 xa2 eu1 eu2 xu1 xu2 ↔
  (0<=xa1/\0<=xu1)/\(ea1<=ea2/\ea1*xa2<=xa1*ea2/\ea1*xu2<=xu1*ea2)/\(eu1<=eu2/\eu1*xa2<=xa1*eu2/\eu1*xu2<=xu1*eu2):=by
 unfold Jc;simp
def JC (lo hi st sp e1 e2 x1 x2:Int):Prop :=(sp=0/\lo<=st/\st<=hi/\e1=0/\e2=1/\x1=1/\x2=1)\/(sp=0/\(st<lo\/hi<st)/\e1=1/\e2=1/\x1=0/\x2=1)\/(0<sp/\e1=lo-st/\e2=sp/\x1=hi-st/\x2=sp)
def oV {lo st s t:Int}(h:Ro lo hi st (t-s) e1 e2 x1 x2):JC lo hi st (t-s) e1 e2 x1 x2\/JC (-hi) (-lo) (-st) (-t - -s) e1 e2 x1 x2:=by
 rcases h with h|h|h|⟨h,rfl,rfl,rfl,rfl⟩
 ·exact .inl (.inl h)
 ·exact .inl (.inr (.inl h))
 ·exact .inl (.inr (.inr h))
 ·exact .inr (.inr (.inr ⟨by lia,by lia,by lia,by lia,by lia⟩))
def yc {as bs:List Int}(h:∀ a,a∈bs↔-a∈as):((∃ a∈bs,0<=a)↔∃ a∈as,a<=0)/\((∃ a∈bs,a<=0)↔∃ a∈as,0<=a):=by
  have back:∀ a,a∈as->-a∈bs:=fun a ha=>(h (-a)).mpr (by rw[Vi];exact ha)
  refine⟨⟨?_,?_⟩,?_,?_⟩<;>rintro⟨a,ha,h0⟩
  . exact⟨-a,(h a).mp ha,by lia⟩
  . exact⟨-a,back a ha,by lia⟩
  . exact⟨-a,(h a).mp ha,by lia⟩
  . exact⟨-a,back a ha,by lia⟩
def zon {a p q r t:Int}:a∈[-p,-q,-r,-t]↔-a∈[r,t,p,q]:=by
 have e:∀ x,a=-x↔-a=x:=fun x=>⟨fun h=>by rw[h,Vi],fun h=>by rw[<- h,Vi]⟩
 simp only[qu,qM,or_false,e];exact⟨fun h=>h.elim (fun h=>.inr (.inr (.inl h))) (fun h=>h.elim (fun h=>.inr (.inr (.inr h))) (fun h=>h.elim .inl (fun h=>.inr (.inl h)))),fun h=>h.elim (fun h=>.inr (.inr (.inl h))) (fun h=>h.elim (fun h=>.inr (.inr (.inr h))) (fun h=>h.elim .inl (fun h=>.inr (.inl h))))⟩
def zyb (a b c d e:Int):(-a - -b)*c-d*(-e - -b)=-((a-b)*c-d*(e-b)):=by rw[show -a - -b=-(a-b) by lia,show -e - -b=-(e-b) by lia,Int.neg_mul,Int.mul_neg];lia
def zyj (a b c d e:Int):c*(-a - -b)-(-d - -b)*e=-(c*(a-b)-(d-b)*e):=by rw[show -a - -b=-(a-b) by lia,show -d - -b=-(d-b) by lia,Int.neg_mul,Int.mul_neg];lia
def FT (a b:Int):max (-a) (-b)=-(min a b):=by
 rcases Int.le_total a b with h|h
 ·rw[Int.min_eq_left h,Int.max_eq_left (Int.neg_le_neg h)]
 ·rw[Int.min_eq_right h,Int.max_eq_right (Int.neg_le_neg h)]
def nH (a b:Int):min (-a) (-b)=-(max a b):=by rw[<- Vi (min (-a) (-b)),<- FT,Vi,Vi]
def tO {L R B T x1 z1 x2 z2:Int}:WK (-R) (-L) B T (-x1) z1 (-x2) z2↔WK L R B T x1 z1 x2 z2:=by
 have e:Zh (-R) (-L) B T (-x1) z1 (-x2) z2=[-((x2-x1)*(B-z1)-(z2-z1)*(R-x1)),-((x2-x1)*(T-z1)-(z2-z1)*(R-x1)),-((x2-x1)*(B-z1)-(z2-z1)*(L-x1)),-((x2-x1)*(T-z1)-(z2-z1)*(L-x1))]:=by unfold Zh;simp only[zyb]
 have k:=yc (as:=Zh L R B T x1 z1 x2 z2) (bs:=Zh (-R) (-L) B T (-x1) z1 (-x2) z2) (fun a=>by rw[e];exact zon);unfold WK;rw[k.1,k.2,FT,nH];generalize max x1 x2=a1;generalize min x1 x2=a2;generalize (∃ a∈Zh L R B T x1 z1 x2 z2,0<=a)=P;generalize (∃ a∈Zh L R B T x1 z1 x2 z2,a<=0)=Q;constructor
 ·rintro⟨h1,h2,h3,h4,h5,h6⟩;exact⟨by lia,by lia,h3,h4,h6,h5⟩
 ·rintro⟨h1,h2,h3,h4,h5,h6⟩;exact⟨by lia,by lia,h3,h4,h6,h5⟩
def fB {a p q r t:Int}:a∈[-p,-q,-r,-t]↔-a∈[q,p,t,r]:=by
 have e:∀ x,a=-x↔-a=x:=fun x=>⟨fun h=>by rw[h,Vi],fun h=>by rw[<- h,Vi]⟩
 simp only[qu,qM,or_false,e];exact⟨fun h=>h.elim (fun h=>.inr (.inl h)) (fun h=>h.elim .inl (fun h=>h.elim (fun h=>.inr (.inr (.inr h))) (fun h=>.inr (.inr (.inl h))))),fun h=>h.elim (fun h=>.inr (.inl h)) (fun h=>h.elim .inl (fun h=>h.elim (fun h=>.inr (.inr (.inr h))) (fun h=>.inr (.inr (.inl h)))))⟩
def vH {L R B T x1 z1 x2 z2:Int}:WK L R (-T) (-B) x1 (-z1) x2 (-z2)↔WK L R B T x1 z1 x2 z2:=by
 have e:Zh L R (-T) (-B) x1 (-z1) x2 (-z2)=[-((x2-x1)*(T-z1)-(z2-z1)*(L-x1)),-((x2-x1)*(B-z1)-(z2-z1)*(L-x1)),-((x2-x1)*(T-z1)-(z2-z1)*(R-x1)),-((x2-x1)*(B-z1)-(z2-z1)*(R-x1))]:=by unfold Zh;simp only[zyj]
 have k:=yc (as:=Zh L R B T x1 z1 x2 z2) (bs:=Zh L R (-T) (-B) x1 (-z1) x2 (-z2)) (fun a=>by rw[e];exact fB);unfold WK;rw[k.1,k.2,FT,nH];generalize max z1 z2=a1;generalize min z1 z2=a2;generalize (∃ a∈Zh L R B T x1 z1 x2 z2,0<=a)=P;generalize (∃ a∈Zh L R B T x1 z1 x2 z2,a<=0)=Q;constructor
 ·rintro⟨h1,h2,h3,h4,h5,h6⟩;exact⟨h1,h2,by lia,by lia,h6,h5⟩
 ·rintro⟨h1,h2,h3,h4,h5,h6⟩;exact⟨h1,h2,by lia,by lia,h6,h5⟩
def γ {P Q p q:Int}(h:P<=Q)(g:p<=q):(0<=P-p\/0<=Q-p\/0<=P-q\/0<=Q-q)↔p<=Q:=⟨fun k=>by rcases k with k|k|k|k<;>lia,fun k=>.inr (.inl (by lia))⟩
def eX {P Q p q:Int}(h:P<=Q)(g:p<=q):(P-p<=0\/Q-p<=0\/P-q<=0\/Q-q<=0)↔P<=q:=⟨fun k=>by rcases k with k|k|k|k<;>lia,fun k=>.inr (.inr (.inl (by lia)))⟩
def JW {L R B T:Int}(hx:L<=R)(hz:B<=T)(pa:JC L R x1 (x2-x1) ea1 ea2 xa1 xa2)(pu:JC B T z1 (z2-z1) eu1 eu2 xu1 xu2) :
    Jc ea1 ea2 xa1 xa2 eu1 eu2 xu1 xu2↔WK L R B T x1 z1 x2 z2:=by
  have u0:0<=x2-x1:=by rcases pa with h|h|h<;>lia
  have v0:0<=z2-z1:=by rcases pu with h|h|h<;>lia
  rw[zm9];unfold WK Zh;rw[ð (r:=0),ε,show max x1 x2=x1+(x2-x1) by lia,show min x1 x2=x1 by lia,show max z1 z2=z1+(z2-z1) by lia,show min z1 z2=z1 by lia];generalize x2-x1=u at *;generalize z2-z1=v at *;have k1:=TF u0 (show B-z1<=T-z1 by lia);have k2:=TF v0 (show L-x1<=R-x1 by lia);rw[γ k1 k2,eX k1 k2];have c1:∀ s t:Int,(s-x1)*t=t*(s-x1):=fun s t=>Wy _ _
  have c3:∀ s t:Int,(s-z1)*t=t*(s-z1):=fun s t=>Wy _ _
  have k5:B<=z1->u*(B-z1)<=0:=fun h=>by have:=TF u0 (show B-z1<=0 by lia);rwa[Q7]at this
  have k6:z1<=T->0<=u*(T-z1):=fun h=>by have:=TF u0 (show 0<=T-z1 by lia);rwa[Q7]at this
  have k8:=TF v0 (show B-z1<=T-z1 by lia);rcases pa with⟨hu,h1,h2,rfl,rfl,rfl,rfl⟩|⟨hu,h1,rfl,rfl,rfl,rfl⟩|⟨hu,rfl,rfl,rfl,rfl⟩
  . clear k5 k6;subst hu;have k3:=TF v0 (show L-x1<=0 by lia);have k4:=TF v0 (show 0<=R-x1 by lia);rcases pu with⟨hv,g1,g2,rfl,rfl,rfl,rfl⟩|⟨hv,g1,rfl,rfl,rfl,rfl⟩|⟨hv,rfl,rfl,rfl,rfl⟩ <;>
    simp only[c3,Int.zero_mul,Q7,Int.one_mul,U5]at *<;>lia
  . simp only[Int.one_mul,U5];lia
  . have k7:=TF u0 (show L-x1<=R-x1 by lia);rcases pu with⟨hv,g1,g2,rfl,rfl,rfl,rfl⟩|⟨hv,g1,rfl,rfl,rfl,rfl⟩|⟨hv,rfl,rfl,rfl,rfl⟩
    . subst hv;have k5:=k5 g1;have k6:=k6 g2;simp only[c1,c3,Int.zero_mul,Q7,Int.one_mul,U5]at *;lia
    . simp only[Int.one_mul,U5];lia
    . simp only[c1,c3];exact⟨by rintro⟨⟨a,b⟩,⟨c,_,d⟩,e,f,_⟩;exact⟨by lia,by lia,by lia,by lia,d,f⟩,by rintro⟨a,b,c,d,e,f⟩;exact⟨⟨by lia,by lia⟩,⟨by lia,k7,e⟩,by lia,f,k8⟩⟩
def dj {L R B T:Int}(hx:L<=R)(hz:B<=T)(pa:Ro L R x1 (x2-x1) ea1 ea2 xa1 xa2)(pu:Ro B T z1 (z2-z1) eu1 eu2 xu1 xu2) :
    Jc ea1 ea2 xa1 xa2 eu1 eu2 xu1 xu2↔WK L R B T x1 z1 x2 z2:=by
  rcases oV pa with pa|pa<;>rcases oV pu with pu|pu
  . exact JW hx hz pa pu
  . rw[<- vH];exact JW hx (by lia) pa pu
  . rw[<- tO];exact JW (by lia) hz pa pu
  . rw[<- tO,<- vH];exact JW (by lia) (by lia) pa pu
def ϛ {L R B T x1 z1 x2 z2 mx mn m:Int}(m1:mx∈Zh L R B T x1 z1 x2 z2)(m2:∀ a∈Zh L R B T x1 z1 x2 z2,a<=mx)(n1:mn∈Zh L R B T x1 z1 x2 z2)(n2:∀ a∈Zh L R B T x1 z1 x2 z2,mn<=a)
  (h1:m∈[(max x1 x2)-L,R-(min x1 x2),(max z1 z2)-B,T-(min z1 z2),mx,-mn])
  (h2:∀ a∈[(max x1 x2)-L,R-(min x1 x2),(max z1 z2)-B,T-(min z1 z2),mx,-mn],m<=a):0<=m↔WK L R B T x1 z1 x2 z2:=by
 unfold WK;have e1:(∃ a∈Zh L R B T x1 z1 x2 z2,0<=a)↔0<=mx:=⟨by rintro⟨a,ha,h⟩;exact Int.le_trans h (m2 a ha),fun h=>⟨mx,m1,h⟩⟩
 have e2:(∃ a∈Zh L R B T x1 z1 x2 z2,a<=0)↔mn<=0:=⟨by rintro⟨a,ha,h⟩;exact Int.le_trans (n2 a ha) h,fun h=>⟨mn,n1,h⟩⟩
 rw[e1,e2];generalize (max x1 x2)=q1 at *;generalize (min x1 x2)=q2 at *;generalize (max z1 z2)=q3 at *;generalize (min z1 z2)=q4 at *;have g1:=h2 (q1-L) (by simp);have g2:=h2 (R-q2) (by simp);have g3:=h2 (q3-B) (by simp);have g4:=h2 (T-q4) (by simp);have g5:=h2 mx (by simp);have g6:=h2 (-mn) (by simp);simp only[qu,qM,or_false]at h1;lia
def six (L R B T x1 z1 x2 z2 mx mn:Int):List Int:=[(max x1 x2)-L,R-(min x1 x2),(max z1 z2)-B,T-(min z1 z2),mx,-mn]
def RV (L R B T x1 z1 x2 z2:Int):Prop:=∃ p q:Int,0<q/\0<=p/\p<=q/\L*q<=x1*q+p*(x2-x1)/\x1*q+p*(x2-x1)<=R*q/\B*q<=z1*q+p*(z2-z1)/\z1*q+p*(z2-z1)<=T*q
def mulL {k a b:Int}(h:0<=k)(g:a<=b):k*a<=k*b:=Int.mul_le_mul_of_nonneg_left g h
def Fd {k a b:Int}(h:0<k)(g:k*a<=k*b):a<=b:=Int.le_of_mul_le_mul_left g h
def pY {a b c d e f:Int}(hb:0<=b)(hf:0<=f)(hd:0<d)(h1:a*d<=c*b)(h2:c*f<=e*d):a*f<=e*b:=by
 refine Fd hd ?_;have k1:=mulL hf h1;have k2:=mulL hb h2;have e1:d*(a*f)=f*(a*d):=by grind
 have e2:f*(c*b)=b*(c*f):=by grind
 have e3:b*(e*d)=d*(e*b):=by grind
 lia
theorem fmax:∀ {l:List (Int×Int)},l≠[]->(∀ e∈l,0<e.2)->∃ e∈l,∀ f∈l,f.1*e.2<=e.1*f.2
 |[],h,_=>absurd rfl h
 |[x],_,_=>⟨x,by simp,fun f hf=>by simp at hf;subst hf;exact TQ _⟩
 |x::y::l,_,h=>by
  obtain⟨m,hm,g⟩:=fmax (l:=y::l) (by simp) fun e he=>h e (by simp[he])
  have hx:=h x (by simp);have hm2:=h m (by simp[hm]);rcases Int.le_total (x.1*m.2) (m.1*x.2)with c|c
  ·refine⟨m,by simp[hm],fun f hf=>?_⟩;rcases qu.mp hf with rfl|hf
   ·exact c
   ·exact g f hf
  ·refine⟨x,by simp,fun f hf=>?_⟩;rcases qu.mp hf with rfl|hf
   ·exact TQ _
   ·exact pY (QW (h f (by simp[hf]))) (QW hx) hm2 (g f hf) c
def vX (lo hi st sp:Int):∃ e1 e2 x1 x2,Ro lo hi st sp e1 e2 x1 x2/\0<e2/\0<x2:=by
 unfold Ro;rcases Int.lt_trichotomy sp 0 with h|h|h
 ·exact⟨st-hi,-sp,st-lo,-sp,.inr (.inr (.inr ⟨h,rfl,rfl,rfl,rfl⟩)),by lia,by lia⟩
 ·by_cases g:lo<=st/\st<=hi
  ·exact⟨0,1,1,1,.inl ⟨h,g.1,g.2,rfl,rfl,rfl,rfl⟩,by lia,by lia⟩
  ·exact⟨1,1,0,1,.inr (.inl ⟨h,by lia,rfl,rfl,rfl,rfl⟩),by lia,by lia⟩
 ·exact⟨lo-st,sp,hi-st,sp,.inr (.inr (.inl ⟨h,rfl,rfl,rfl,rfl⟩)),h,h⟩
def vN {lo st sp p q:Int}(P:Ro lo hi st sp e1 e2 x1 x2)(hq:0<q)(h0:0<=p)(h1:p<=q)(h2:e1*q<=p*e2)(h3:p*x2<=x1*q):lo*q<=st*q+p*sp/\st*q+p*sp<=hi*q:=by
 rcases P with⟨hu,g1,g2,rfl,rfl,rfl,rfl⟩|⟨hu,g1,rfl,rfl,rfl,rfl⟩|⟨hu,rfl,rfl,rfl,rfl⟩|⟨hu,rfl,rfl,rfl,rfl⟩
 ·subst hu;have k1:=mulL (QW hq) g1;have k2:=mulL (QW hq) g2;rw[Wy q,Wy q]at k1 k2;rw[Q7];lia
 ·lia
 ·rw[Qe]at h2 h3;lia
 ·rw[Qe,Int.mul_neg]at h2 h3;lia
def xH {lo st sp p q:Int}(P:Ro lo hi st sp e1 e2 x1 x2)(hq:0<q)(h0:0<=p)(h1:p<=q)(h2:lo*q<=st*q+p*sp)(h3:st*q+p*sp<=hi*q):e1*q<=p*e2/\p*x2<=x1*q:=by
 rcases P with⟨hu,g1,g2,rfl,rfl,rfl,rfl⟩|⟨hu,g1,rfl,rfl,rfl,rfl⟩|⟨hu,rfl,rfl,rfl,rfl⟩|⟨hu,rfl,rfl,rfl,rfl⟩
 ·lia
 ·subst hu;rw[Q7,Int.add_zero,Wy lo,Wy st]at h2;rw[Q7,Int.add_zero,Wy hi,Wy st]at h3;have k1:=Fd hq h2;have k2:=Fd hq h3;lia
 ·rw[Qe,Qe];lia
 ·rw[Qe,Qe,Int.mul_neg];lia
def zr0 {L R B T x1 z1 x2 z2:Int}(hx:L<=R)(hz:B<=T):WK L R B T x1 z1 x2 z2↔RV L R B T x1 z1 x2 z2:=by
  obtain⟨a1,a2,a3,a4,pa,ha2,ha4⟩:=vX L R x1 (x2-x1);obtain⟨u1,u2,u3,u4,pu,hu2,hu4⟩:=vX B T z1 (z2-z1);rw[<- dj hx hz pa pu];constructor
  . intro h
    obtain⟨⟨p,q⟩,he,mx⟩:=fmax (l:=[((0:Int),(1:Int)),(a1,a2),(u1,u2)]) (by simp) (by
      intro e he;simp only[qu,qM,or_false]at he;rcases he with rfl|rfl|rfl
      . exact Int.one_pos
      . exact ha2
      . exact hu2)
    have hq:0<q:=by simp only[qu,qM,or_false,Prod.mk.injEq]at he;rcases he with he|he|he<;>lia
    have m0:=mx (0,1) (by simp);have m1:=mx (a1,a2) (by simp);have m2:=mx (u1,u2) (by simp);have n0:=h _ he (1,1) (by simp);have n1:=h _ he (a3,a4) (by simp);have n2:=h _ he (u3,u4) (by simp);dsimp only at m0 m1 m2 n0 n1 n2;have h0:0<=p:=by lia
    have h1:p<=q:=by lia
    obtain⟨k1,k2⟩:=vN pa hq h0 h1 m1 n1;obtain⟨k3,k4⟩:=vN pu hq h0 h1 m2 n2;exact⟨p,q,hq,h0,h1,k1,k2,k3,k4⟩
  . rintro⟨p,q,hq,h0,h1,k1,k2,k3,k4⟩;obtain⟨g1,g2⟩:=xH pa hq h0 h1 k1 k2;obtain⟨g3,g4⟩:=xH pu hq h0 h1 k3 k4;intro e he x hx
    have ee:0<e.2/\e.1*q<=p*e.2:=by
      simp only[qu,qM,or_false]at he;rcases he with rfl|rfl|rfl
      . exact⟨Int.one_pos,by lia⟩
      . exact⟨ha2,g1⟩
      . exact⟨hu2,g3⟩
    have xx:0<x.2/\p*x.2<=x.1*q:=by
      simp only[qu,qM,or_false]at hx;rcases hx with rfl|rfl|rfl
      . exact⟨Int.one_pos,by lia⟩
      . exact⟨ha4,g2⟩
      . exact⟨hu4,g4⟩
    exact pY (QW ee.1) (QW xx.1) hq ee.2 xx.2
end Rm
namespace Dp
open PySem Rm My
structure Fg where
 x0:Int
 x1:Int
 z0:Int
 z1:Int
 f:Int
 l:Int
 g:Int
 s:Int
abbrev Xx (F:Fg):D:=.tup [.int F.x0,.int F.x1,.int F.z0,.int F.z1,.int F.f,.int F.l,.int F.g,.int F.s]
structure Ű (F:Fg):Prop where
 x:F.x0<=F.x1
 z:F.z0<=F.z1
 b0:Bd 600 F.x0
 b1:Bd 600 F.x1
 b2:Bd 600 F.z0
 b3:Bd 600 F.z1
 bg:Bd 200 F.g
 bs:Bd 200 F.s
def Vp (F:Fg)(px pz qx qz h:Int):Prop:=F.f<=h/\h<=F.l/\RV (F.x0+F.g*(h-F.f)) (F.x1+F.g*(h-F.f)) (F.z0+F.s*(h-F.f)) (F.z1+F.s*(h-F.f)) px pz qx qz
def nJ {fs:List Fg}{i:Nat}{d:D}(h:(fs.map Xx)[i]?=some d):∃ F,fs[i]?=some F/\d=Xx F:=by
 rw[qj]at h;cases e:fs[i]? with
 |none=>rw[e]at h;cases h
 |some p=>rw[e]at h;cases h;exact⟨p,rfl,rfl⟩
def uh {a b:Int}(h0:0<=a)(h:a<=b):a.natAbs<=b.natAbs:=by refine Int.ofNat_le.mp ?_;rw[J6 h0,J6 (Int.le_trans h0 h)];exact h
def Bd.btw {n:Nat}{x:Int}(ha:Bd n a)(hb:Bd n b)(h1:a<=x)(h2:x<=b):Bd n x:=by
 rcases Int.le_total 0 x with h|h
 ·exact hb.of_le (uh h h2)
 ·refine ha.of_le ?_;rw[<- Oe x,<- Oe a];exact uh (Int.neg_nonneg_of_nonpos h) (Int.neg_le_neg h1)
def flt (a b:Int×Int):Bool:=decide (a.1*b.2<b.1*a.2)
abbrev ğ:=(Int×Int)×(Int×Int)
def rk (R:Int×Int->Int)(s:ğ):Int×Int:=(R s.1,R s.2)
def Ku {cs:List (Int×Int)}{k:Int}(h0:0<=k)(h:k<cs.length):∃ c,cs[k.toNat]?=some c/\Zb (cs.map p2) k=some (p2 c):=by
 have hk:k.toNat<cs.length:=by lia
 refine⟨cs[k.toNat],qb hk,?_⟩;have:=Rt (ds:=cs.map p2) (i:=k.toNat) (d:=p2 (cs[k.toNat])) (by rw[qj,qb hk];rfl);rwa[show((k.toNat:Nat):Int)=k by lia]at this
def lenV (ms:List (Int×Int)):Int:=(ms.map fun m=>m.2-m.1).sum
def Sv (c:Int×Int)(t b:Int):Prop:=0<c.2/\c.1*b=t*c.2
def Qs (a b p:Int×Int):Int:=if 0<b.1-a.1 then a.2*(b.1-a.1)*p.2+(b.2-a.2)*(p.1-a.1*p.2)else -(a.2*(b.1-a.1)*p.2+(b.2-a.2)*(p.1-a.1*p.2))
def Ul (a b p:Int×Int):Int:=if 0<b.1-a.1 then(b.1-a.1)*p.2 else -((b.1-a.1)*p.2)
def cW {a b p:Int×Int}(h:b.1≠a.1)(hp:0<p.2):0<Ul a b p:=by
 unfold Ul;split
 ·exact P0 (by lia) hp
 ·have:=P0 (show 0 < -(b.1-a.1) by lia) hp;rw[Int.neg_mul]at this;exact this
def ŧ {t b e:Int}(hb:0<b)(he:0<e)(hc:Sv c t b)(hd:Sv d u e):flt c d=decide (t*e<u*b):=by
 obtain⟨c0,c1⟩:=hc;obtain⟨d0,d1⟩:=hd;unfold flt;refine decide_eq_decide.mpr ?_;have hbe:0<b*e:=P0 hb he;have hcd:0<c.2*d.2:=P0 c0 d0;rw[<- Int.mul_lt_mul_right hbe,<- Int.mul_lt_mul_right (b:=t*e) (c:=u*b) hcd]
 have e1:c.1*d.2*(b*e)=t*e*(c.2*d.2):=by
  have:c.1*d.2*(b*e)=c.1*b*(d.2*e):=by grind
  rw[this,c1];grind
 have e2:d.1*c.2*(b*e)=u*b*(c.2*d.2):=by
  have:d.1*c.2*(b*e)=d.1*e*(c.2*b):=by grind
  rw[this,d1];grind
 rw[e1,e2]
structure W8 (cs:List (Int×Int)):Prop where
 two:2<=cs.length
 most:cs.length<=40
 asc:cs.Pairwise fun a b=>a.1<b.1
 bd:∀ c∈cs,Bd 170 c.1/\Bd 190 c.2
def Qz (cs:List (Int×Int)):Int:=(cs.getD 0 (0,0)).1
def RB (cs:List (Int×Int)):Int:=(cs.getD (cs.length-1) (0,0)).1
def Qh (cs:List (Int×Int))(p:Int×Int):Prop:=Qz cs*p.2<=p.1/\p.1<=RB cs*p.2
def Tv:List (Int×Int)->Int×Int->Option ((Int×Int)×(Int×Int))
 |a::b::r,p=>if p.1<=b.1*p.2 then some (a,b)else Tv (b::r) p
 |_,_=>none
theorem seg_at:∀ {cs:List (Int×Int)} {p:Int×Int} {k:Nat} {a b:Int×Int},cs[k]?=some a->cs[k+1]?=some b->p.1<=b.1*p.2->(∀ j c,1<=j->j<=k->cs[j]?=some c->c.1*p.2<p.1)->Tv cs p=some (a,b)
 |[],p,k,a,b,h,_,_,_=>by simp at h
 |[x],p,0,a,b,_,h,_,_=>by simp at h
 |[x],p,k+1,a,b,h,_,_,_=>by simp at h
 |x::y::r,p,0,a,b,h1,h2,h3,_=>by simp at h1 h2;subst h1 h2;unfold Tv;rw[if_pos h3]
 |x::y::r,p,k+1,a,b,h1,h2,h3,h4=>by have:=h4 1 y (by lia) (by lia) rfl;unfold Tv;rw[if_neg (by lia)];exact seg_at (by simpa using h1) (by simpa using h2) h3 fun j c j1 j2 hc=>h4 (j+1) c (by lia) (by lia) (by simpa using hc)
theorem rM:∀ {cs:List (Int×Int)} {p:Int×Int},2<=cs.length->p.1<=RB cs*p.2->∃ k a b,cs[k]?=some a/\cs[k+1]?=some b/\p.1<=b.1*p.2/\∀ j c,1<=j->j<=k->cs[j]?=some c->c.1*p.2<p.1
 |[],p,h,_=>by simp at h
 |[x],p,h,_=>by simp at h
 |[x,y],p,_,h=>⟨0,x,y,rfl,rfl,h,fun j c j1 j2=>by lia⟩
 |x::y::z::r,p,_,h=>by
  by_cases g:p.1<=y.1*p.2
  ·exact⟨0,x,y,rfl,rfl,g,fun j c j1 j2=>by lia⟩
  ·obtain⟨k,a,b,h1,h2,h3,h4⟩:=rM (cs:=y::z::r) (p:=p) (by simp) h;refine⟨k+1,a,b,by simpa using h1,by simpa using h2,h3,fun j c j1 j2 hc=>?_⟩;cases j with
   |zero=>lia
   |succ j =>
    cases j with
    |zero=>simp at hc;subst hc;lia
    |succ j=>exact h4 (j+1) c (by lia) (by lia) (by simpa using hc)
def sS (g:W8 cs){i j:Nat}{a b:Int×Int}(hij:i<j)(ha:cs[i]?=some a)(hb:cs[j]?=some b):a.1<b.1:=by have h1:=zA ha;have h2:=zA hb;rw[qb h1]at ha;rw[qb h2]at hb;cases ha;cases hb;exact RJ.mp g.asc i j h1 h2 hij
def iQ (g:W8 cs):∃ a,cs[0]?=some a/\Qz cs=a.1:=by
 have:=g.two;obtain⟨a,h⟩:∃ a,cs[0]?=some a:=⟨cs[0],qb (by lia)⟩
 exact⟨a,h,by unfold Qz;rw[qJ,h];rfl⟩
def Č (g:W8 cs):∃ a,cs[cs.length-1]?=some a/\RB cs=a.1:=by
 have:=g.two;obtain⟨a,h⟩:∃ a,cs[cs.length-1]?=some a:=⟨cs[cs.length-1],qb (by lia)⟩
 exact⟨a,h,by unfold RB;rw[qJ,h];rfl⟩
def WW (S:Z7)(g:D)(cs:List (Int×Int)):Prop:=∃ n l,g=.ref n/\S[n]?=some (.ins "Ground" [("corners",.ref l)])/\S[l]?=some (.lst (cs.map p2))
def WW.old {T:Z7}(h:WW S g cs):WW (S++T) g cs:=by obtain⟨n,l,e,h1,h2⟩:=h;exact⟨n,l,e,zE h1,zE h2⟩
def cQ {S:Z7}{P:D->Prop}{n l:Nat}(h:S[n]?=some (.ins "Ground" [("corners",.ref l)]))(q:P (.ref l)):∃ m c fs d,D.ref n=.ref m/\S[m]?=some (.ins c fs)/\fs.lookup ("corners":Str)=some d/\P d:=⟨n,_,_,_,rfl,h,by simp[qr],q⟩
def XJ (a b c:Int×Int):Int:=(c.2-a.2)*(b.1-a.1)-(c.1-a.1)*(b.2-a.2)
def O8 (a b c:Int×Int):Int:=if 0<(if b.1-a.1<0 then -XJ a b c else XJ a b c)then 1 else if(if b.1-a.1<0 then -XJ a b c else XJ a b c)<0 then -1 else 0
def Std (cs:List (Int×Int))(s:Int×Int):Prop:=Bd 180 s.1/\Bd 200 s.2/\Qh cs (s.1,1)/\∀ a b,Tv cs (s.1,1)=some (a,b)->Qs a b (s.1,1)<=s.2*Ul a b (s.1,1)
def Nq {own:Nat}{fv:List Nat}{xs:List D}{ok:Z7->Prop}{g:DG}{tc:DT}{te:DE}{Z:Z1}{S:Z7}{Q:DK}(W:Nat->List D->Z7->Prop)(h0:W 0 [] S)(hok:∀ i ys S,W i ys S->ok S)(hbig:xs.length<=big)
  (step:∀ i d ys S,xs[i]?=some d->W i ys S->Bk (W (i+1)) fun N=>g d (Rr own fv Z) S fun ρ2 S2=>tc ρ2 S2 fun b S3=>if b=true then te ρ2 S3 fun y S4=>N (ys++[y]) S4 else N ys S3)
  (fin:∀ ys S,W xs.length ys S->New Q S ys):Hw own fv g tc te Z Q ⟨xs,ok⟩ S:=⟨hbig,W,h0,hok,fun i d ys S e w=>step i d ys S e w (W (i+1)) fun _ _ h=>h,fin⟩
def cD {a b d:Int×Int}(h:a.1≠b.1):O8 a b d=O8 b a d:=by
 have e:(if b.1-a.1<0 then -XJ a b d else XJ a b d)=(if a.1-b.1<0 then -XJ b a d else XJ b a d):=by
  by_cases z:b.1-a.1<0
  ·rw[if_pos z,if_neg (by lia)];unfold XJ;grind
  ·rw[if_neg z,if_pos (by lia)];unfold XJ;grind
 unfold O8;rw[e]
def WT (cs:List (Int×Int))(s:Int×Int):Prop:=Qh cs (s.1,1)/\∀ a b,Tv cs (s.1,1)=some (a,b)->Qs a b (s.1,1)<=s.2*Ul a b (s.1,1)
def Std.of {s:Int×Int}(b1:Bd 180 s.1)(b2:Bd 200 s.2)(h:WT cs s):Std cs s:=⟨b1,b2,h.1,h.2⟩
def Tq (cs:List (Int×Int))(x y:Int)(k:Nat):Bool:=decide (min x y<(cs.getD k (0,0)).1)&&decide ((cs.getD k (0,0)).1<max x y)
def Yt (cs:List (Int×Int))(x y:Int)(n:Nat):List Int:=((List.range n).filter (Tq cs x y)).map fun k:Nat=>(k:Int)
def zvT {cs:List (Int×Int)}{x y:Int}{i:Nat}(h:Tq cs x y i=true):(Yt cs x y (i+1)).map D.int=(Yt cs x y i).map D.int++[.int (i:Int)]:=by unfold Yt;rw[List.range_succ,Ph,Kp h];simp
def xU {cs:List (Int×Int)}{x y:Int}{i:Nat}(h:Tq cs x y i=false):Yt cs x y (i+1)=Yt cs x y i:=by unfold Yt;rw[List.range_succ,Ph,Kw (by rw[h];exact qo)];simp
def LR (cs:List (Int×Int))(a b:Int×Int)(k:Int):Bool:=decide (0<O8 a b (cs.getD k.toNat (0,0)))
def Vt (cs:List (Int×Int))(a b:Int×Int):Option Int:=(Yt cs a.1 b.1 cs.length).find? (LR cs a b)
theorem wC {p:Int->Bool}:∀ {ks:List Int} {i:Nat} {k:Int},ks[i]?=some k->(∀ x∈ks.take i,p x=false)->p k=true->ks.find? p=some k
 |[],i,k,h,_,_=>by simp at h
 |x::ks,0,k,h,_,hp=>by
  have e:x=k:=by simpa using h
  rw[List.find?_cons,e,hp]
 |x::ks,i+1,k,h,hn,hp=>by rw[List.find?_cons,hn x (by simp)];exact wC (by simpa using h) (fun y hy=>hn y (by rw[List.take_succ_cons];exact qi _ hy)) hp
def ř {p:Int->Bool}{ks:List Int}(hn:∀ x∈ks,p x=false):ks.find? p=none:=List.find?_eq_none.mpr fun x hx=>by rw[hn x hx];exact qo
def zsx {cs:List (Int×Int)}{x y k:Int}{n:Nat}(h:k∈Yt cs x y n):0<=k/\k<n:=by unfold Yt at h;obtain⟨j,hj,rfl⟩:=qw.mp h;have:=R9.mp (qU.mp hj).1;lia
def cF {cs:List (Int×Int)}{a b:Int×Int}:Vt cs a b=Vt cs b a:=by
 by_cases h:a.1=b.1
 ·have e:∀ x:Int×Int,x.1=x.1->Yt cs a.1 b.1 cs.length=[]:=fun _ _=>by
   unfold Yt;rw[List.filter_eq_nil_iff.mpr fun k _=>?_]
   ·rfl
   ·unfold Tq;rw[h];simp only[qv,decide_eq_true_eq];lia
  have e1:=e a rfl;have e2:Yt cs b.1 a.1 cs.length=[]:=by rw[h]at e1 ⊢;exact e1
  unfold Vt;rw[e1,e2];rfl
 ·have en:Yt cs a.1 b.1 cs.length=Yt cs b.1 a.1 cs.length:=by
   unfold Yt Tq;rw[Int.min_comm,Int.max_comm]
  unfold Vt;rw[en];congr 1;funext k;unfold LR;rw[cD h]
def gx (g:Int)(p:Int×Int):Int:=g*p.1
section
variable {g:Int}{p q r s d t u v:Int×Int}
end
section
variable {cs:List (Int×Int)}{a b:Int×Int}{rp:List (Int×Int)}
end
section
variable {w h t m:Int}{cs:List (Int×Int)}
end
abbrev X3 (b:Str×(Int×Int)):D:=.tup [.str b.1,.int b.2.1,.int b.2.2]
def abc:List Nat:=List.range' 97 26
def Ť:("abcdefghijklmnopqrstuvwxyz":Str).cps.toList=abc:=by decide +kernel
def uL {c:Nat}:c∈abc↔97<=c/\c<=122:=by unfold abc;rw[List.mem_range'_1];lia
def Xe (z:Str):Bool:=decide (1<=z.length)&&(decide (z.length<=8)&&z.cps.toList.all fun c=>decide (c∈abc))
def Ie {z:Str}:Xe z=true↔1<=z.length/\z.length<=8/\∀ c∈z.cps.toList,c∈abc:=by unfold Xe;rw[qv,qv,decide_eq_true_eq,decide_eq_true_eq,Vk];simp only[decide_eq_true_eq]
def uy {z:Str}(h:Xe z=true)(k:Nat):fl k (.str z)=true:=by
  have h3:=(Ie.mp h).2.2
  have:z.cps.all (· < 0x110000)=true:=by rw[Array.all_eq_true'];intro x hx;have:=uL.mp (h3 x (Array.mem_toList_iff.mpr hx));simp;lia
  cases k<;>exact this
structure Vl where
 cs:List (Int×Int)
 bs:List (Str×(Int×Int))
 fs:List Fg
 hz:Option Int
 h0:Int
 h1:Int
 dl:Int
structure LC (F:Fg):Prop where
 b:Ű F
 o:F.f<=F.l
 f:Bd 300 F.f
 l:Bd 300 F.l
structure Y8 (V:Vl):Prop where
 gr:W8 V.cs
 b1:1<=V.bs.length
 b12:V.bs.length<=12
 nm:∀ b∈V.bs,Xe b.1=true
 nd:(V.bs.map (·.1)).Nodup
 st:∀ b∈V.bs,WT V.cs b.2
 bd:∀ b∈V.bs,Bd 180 b.2.1/\Bd 200 b.2.2
 f12:V.fs.length<=12
 fg:∀ F∈V.fs,LC F
 hz:∀ z,V.hz=some z->0<=z
 hh:V.h0<=V.h1
 b0:Bd 250 V.h0
 bl:Bd 250 V.h1
 dl:0<=V.dl
abbrev vF (g b f h a l d:D):List (Str×D):=[("ground",g),("beacons",b),("fogs",f),("haze",h),("first",a),("last",l),("delay",d)]
def Zk (S:Z7)(v:D)(V:Vl):Prop:=∃ n g b f,v=.ref n/\S[n]?=some (.ins "Valley" (vF (.ref g) (.ref b) (.ref f) (Vn V.hz) (.int V.h0) (.int V.h1) (.int V.dl)))/\WW S (.ref g) V.cs/\S[b]?=some (.lst (V.bs.map X3))/\S[f]?=some (.lst (V.fs.map Xx))
theorem Zk.old {T:Z7}{V:Vl}(h:Zk S v V):Zk (S++T) v V:=by obtain⟨n,g,b,f,e,h1,h2,h3,h4⟩:=h;exact⟨n,g,b,f,e,zE h1,h2.old,zE h3,zE h4⟩
section
variable {S:Z7}{P:D->Prop}{n:Nat}{g b f h a l d:D}
def zox (k:S[n]?=some (.ins "Valley" (vF g b f h a l d)))(q:P g):∃ m c fs x,D.ref n=.ref m/\S[m]?=some (.ins c fs)/\fs.lookup ("ground":Str)=some x/\P x:=⟨n,_,_,g,rfl,k,by simp[qr],q⟩
def ϸ (k:S[n]?=some (.ins "Valley" (vF g b f h a l d)))(q:P b):∃ m c fs x,D.ref n=.ref m/\S[m]?=some (.ins c fs)/\fs.lookup ("beacons":Str)=some x/\P x:=⟨n,_,_,b,rfl,k,by rw[qr,show((("beacons":Str)=="ground")=false) by decide +kernel];simp[qr],q⟩
def lQ (k:S[n]?=some (.ins "Valley" (vF g b f h a l d)))(q:P f):∃ m c fs x,D.ref n=.ref m/\S[m]?=some (.ins c fs)/\fs.lookup ("fogs":Str)=some x/\P x:=⟨n,_,_,f,rfl,k,by rw[qr,show((("fogs":Str)=="ground")=false) by decide +kernel];dsimp only;rw[qr,show((("fogs":Str)=="beacons")=false) by decide +kernel];simp[qr],q⟩
def jk (k:S[n]?=some (.ins "Valley" (vF g b f h a l d)))(q:P h):∃ m c fs x,D.ref n=.ref m/\S[m]?=some (.ins c fs)/\fs.lookup ("haze":Str)=some x/\P x:=⟨n,_,_,h,rfl,k,by rw[qr,show((("haze":Str)=="ground")=false) by decide +kernel];dsimp only;rw[qr,show((("haze":Str)=="beacons")=false) by decide +kernel];dsimp only;rw[qr,show((("haze":Str)=="fogs")=false) by decide +kernel];simp[qr],q⟩
def zqU (k:S[n]?=some (.ins "Valley" (vF g b f h a l d)))(q:P a):∃ m c fs x,D.ref n=.ref m/\S[m]?=some (.ins c fs)/\fs.lookup ("first":Str)=some x/\P x:=⟨n,_,_,a,rfl,k,by rw[qr,show((("first":Str)=="ground")=false) by decide +kernel];dsimp only;rw[qr,show((("first":Str)=="beacons")=false) by decide +kernel];dsimp only;rw[qr,show((("first":Str)=="fogs")=false) by decide +kernel];dsimp only;rw[qr,show((("first":Str)=="haze")=false) by decide +kernel];simp[qr],q⟩
def Ĵ (k:S[n]?=some (.ins "Valley" (vF g b f h a l d)))(q:P l):∃ m c fs x,D.ref n=.ref m/\S[m]?=some (.ins c fs)/\fs.lookup ("last":Str)=some x/\P x:=⟨n,_,_,l,rfl,k,by rw[qr,show((("last":Str)=="ground")=false) by decide +kernel];dsimp only;rw[qr,show((("last":Str)=="beacons")=false) by decide +kernel];dsimp only;rw[qr,show((("last":Str)=="fogs")=false) by decide +kernel];dsimp only;rw[qr,show((("last":Str)=="haze")=false) by decide +kernel];dsimp only;rw[qr,show((("last":Str)=="first")=false) by decide +kernel];simp[qr],q⟩
end
def K1 {bs:List (Str×(Int×Int))}{i:Nat}{d:D}(h:(bs.map X3)[i]?=some d):∃ b,bs[i]?=some b/\d=X3 b:=by
 rw[qj]at h;cases e:bs[i]? with
 |none=>rw[e]at h;cases h
 |some p=>rw[e]at h;cases h;exact⟨p,rfl,rfl⟩
def Iw (f:Str×(Int×Int)->D):D->D
 |.tup [.str z,.int a,.int b]=>f (z,a,b)
 |d=>d
def Hj (f:Str×(Int×Int)->D)(bs:List (Str×(Int×Int))):(bs.map X3).map (Iw f)=bs.map f:=by rw[XF];rfl
def UL (a b:Int×Int):Int:=(b.1-a.1)*(b.1-a.1)+(b.2-a.2)*(b.2-a.2)
def znR (a b:Int×Int):UL a b=UL b a:=by unfold UL;grind
def hzy (z:Option Int)(q:Int):Bool:=match z with
 |some z=>decide (z<q)
 |none=>false
def QS (V:Vl)(a b:Int×Int):D:=match Vt V.cs a b with
 | some k=>.tup [.str "ground",.int k]
 | none=>if hzy V.hz (UL a b)=true then .tup [.str "haze",.int (UL a b)]else .non
def Rq (V:Vl)(a b:Int×Int):Prop:=Vt V.cs a b=none/\hzy V.hz (UL a b)=false
def CW {V:Vl}{a b:Int×Int}:QS V a b=.non↔Rq V a b:=by
 unfold QS Rq;cases Vt V.cs a b with
 |some k=>simp
 |none =>
  cases h:hzy V.hz (UL a b)with
  |true=>simp
  |false=>simp
def Sd (V:Vl)(a b:Int×Int)(h:Int):Prop:=Rq V a b/\¬ ∃ F∈V.fs,Vp F a.1 a.2 b.1 b.2 h
def J2 {V:Vl}(ok:Y8 V){b c:Str×(Int×Int)}(hb:b∈V.bs)(hc:c∈V.bs)(e:b.1=c.1):b=c:=by
 obtain⟨i,hi,rfl⟩:=qH.mp hb;obtain⟨j,hj,rfl⟩:=qH.mp hc;have nd:=RJ.mp ok.nd;rcases Nat.lt_trichotomy i j with h|h|h
 ·exact absurd (by rw[Kz,Kz];exact e) (nd i j (by simpa using hi) (by simpa using hj) h)
 ·subst h;rfl
 ·exact absurd (by rw[Kz,Kz];exact e.symm) (nd j i (by simpa using hj) (by simpa using hi) h)
def G9 {S A B X:Z7}(h:∃ T,A=S++T)(e:B=A++X):∃ T,B=S++T:=by obtain⟨T,h⟩:=h;exact⟨T++X,by rw[e,h,qq]⟩
def Û {f:Str}{v:D}:putD f v []=[(f,v)]:=rfl
def zW {f g:Str}{v x:D}{r:List (Str×D)}(h:g≠f):putD f v ((g,x)::r)=(g,x)::putD f v r:=by show(if g=f then _ else _)=_;rw[if_neg h]
section
variable {g b f h a l d:D}
def vp2:putD "beacons" b ([("ground",g)]:List (Str×D))=([("ground",g),("beacons",b)]:List (Str×D)):=by rw[zW (by decide +kernel)];rfl
def lg:putD "fogs" f ([("ground",g),("beacons",b)]:List (Str×D))=([("ground",g),("beacons",b),("fogs",f)]:List (Str×D)):=by rw[zW (by decide +kernel),zW (by decide +kernel)];rfl
def jm:putD "haze" h ([("ground",g),("beacons",b),("fogs",f)]:List (Str×D))=([("ground",g),("beacons",b),("fogs",f),("haze",h)]:List (Str×D)):=by rw[zW (by decide +kernel),zW (by decide +kernel),zW (by decide +kernel)];rfl
def Ŧ:putD "first" a ([("ground",g),("beacons",b),("fogs",f),("haze",h)]:List (Str×D))=([("ground",g),("beacons",b),("fogs",f),("haze",h),("first",a)]:List (Str×D)):=by rw[zW (by decide +kernel),zW (by decide +kernel),zW (by decide +kernel),zW (by decide +kernel)];rfl
def vp6:putD "last" l ([("ground",g),("beacons",b),("fogs",f),("haze",h),("first",a)]:List (Str×D))=([("ground",g),("beacons",b),("fogs",f),("haze",h),("first",a),("last",l)]:List (Str×D)):=by rw[zW (by decide +kernel),zW (by decide +kernel),zW (by decide +kernel),zW (by decide +kernel),zW (by decide +kernel)];rfl
def jr:putD "delay" d ([("ground",g),("beacons",b),("fogs",f),("haze",h),("first",a),("last",l)]:List (Str×D))=vF g b f h a l d:=by rw[zW (by decide +kernel),zW (by decide +kernel),zW (by decide +kernel),zW (by decide +kernel),zW (by decide +kernel),zW (by decide +kernel)];rfl
end
def fD {L R B T x1 z1 x2 z2:Int}:RV L R B T x2 z2 x1 z1↔RV L R B T x1 z1 x2 z2:=by
 have one:∀ {x1 z1 x2 z2:Int},RV L R B T x1 z1 x2 z2->RV L R B T x2 z2 x1 z1:=fun {x1 z1 x2 z2} zq19=>by
  obtain⟨p,q,h1,h2,h3,h4,h5,h6,h7⟩:=zq19;have e1:x2*q+(q-p)*(x1-x2)=x1*q+p*(x2-x1):=by grind
  have e2:z2*q+(q-p)*(z1-z2)=z1*q+p*(z2-z1):=by grind
  exact⟨q-p,q,h1,by lia,by lia,by rw[e1];exact h4,by rw[e1];exact h5,by rw[e2];exact h6,by rw[e2];exact h7⟩
 exact⟨one,one⟩
def bW {F:Fg}{a b:Int×Int}{h:Int}:Vp F b.1 b.2 a.1 a.2 h↔Vp F a.1 a.2 b.1 b.2 h:=by unfold Vp;rw[fD]
def zmQ {V:Vl}{a b:Int×Int}{h:Int}:Sd V b a h↔Sd V a b h:=by unfold Sd Rq;rw[cF,znR b a];simp only[bW]
def KJ (xs:List α){k:Int}(h0:0<=k)(h1:k<=xs.length):cutD xs none (some k)=xs.take k.toNat:=by unfold cutD XH;dsimp only;rw[if_neg (by lia),List.drop_zero,Nat.sub_zero,Nat.min_eq_left (by lia)]
def zpj (xs:List α){k:Int}(h0:0<=k)(h1:k<=xs.length):cutD xs (some k) none=xs.drop k.toNat:=by unfold cutD XH;dsimp only;rw[if_neg (by lia),Nat.min_eq_left (by lia)];exact Dj (by rw[O7];exact qh _)
def zx4 (fs:List Fg)(s t:Int×Int)(h:Int)(d:D):Prop:=(∃ (k:Nat) (F:Fg),fs[k]?=some F/\Vp F s.1 s.2 t.1 t.2 h/\(∀ (j:Nat) G,j<k->fs[j]?=some G->¬ Vp G s.1 s.2 t.1 t.2 h)/\d=.tup [.str "fog",.int k])\/((∀ F∈fs,¬ Vp F s.1 s.2 t.1 t.2 h)/\d=.non)
def Gs (V:Vl)(n m:Str)(s t:Int×Int)(h:Int)(d:D):Prop:=(n=m/\d=.non)\/(n≠m/\((¬ Rq V s t/\d=QS V s t)\/(Rq V s t/\zx4 V.fs s t h d)))
theorem Gs.non {V:Vl}{n:Str}{t:Int×Int}(a:Gs V n m s t h d):d=.non↔n=m\/Sd V s t h:=by
 rcases a with⟨a1,rfl⟩|⟨a1,⟨a2,rfl⟩|⟨a2,⟨k,F,hk,hF,hn,rfl⟩|⟨hn,rfl⟩⟩⟩
 ·exact⟨fun _=>.inl a1,fun _=>rfl⟩
 ·rw[CW];exact⟨fun z=>absurd z a2,fun z=>z.elim (fun z=>absurd z a1) fun z=>absurd z.1 a2⟩
 ·exact⟨fun z=>(by cases z),fun z=>z.elim (fun z=>absurd z a1) fun z=>absurd ⟨F,qc hk,hF⟩ z.2⟩
 ·exact⟨fun _=>.inr ⟨a2,by rintro⟨F,hF,g⟩;exact hn F hF g⟩,fun _=>rfl⟩
theorem Dt (n:Str):∀ zs:List Str,((zs.map D.str).any fun z=>eqv z (.str n))=decide (n∈zs)
 |[]=>by simp
 |z::zs=>by rw[qO,Mj,Dt n zs];show((z==n)||decide (n∈zs))=decide (n∈z::zs);rw[Te,Ql,beq_iff_eq,decide_eq_true_eq,decide_eq_true_eq,qu];exact⟨fun h=>h.imp (·.symm) id,fun h=>h.imp (·.symm) id⟩
def Cz {zs:List Str}(h:∀ z∈zs,fl 20 (.str z)=true):(zs.map D.str).all (fl 20)=true:=by rw[M7,Vk];exact h
def MK {Q:DK}{zs:List Str}{n:Str}(hx:Ss S x (zs.map D.str))(hn:fl 20 (.str n)=true)(h:∀ z∈zs,fl 20 (.str z)=true)(q:Q (.bl (decide (n∈zs))) S):Vh (.str n) x S Q:=.inl ⟨_,⟨_,hx,hn,Cz h,rfl⟩,by rw[Dt];exact q⟩
def Np {Q:DK}{zs:List Str}{n:Str}(hx:Ss S x (zs.map D.str))(hn:fl 20 (.str n)=true)(h:∀ z∈zs,fl 20 (.str z)=true)(q:Q (.bl (!decide (n∈zs))) S):Sq (.str n) x S Q:=.inl ⟨_,⟨_,hx,hn,Cz h,rfl⟩,by rw[Dt];exact q⟩
def Y8.flN {V:Vl}(ok:Y8 V):∀ z∈V.bs.map (·.1),fl 20 (.str z)=true:=fun z hz=>by obtain⟨b,hb,rfl⟩:=qw.mp hz;exact uy (ok.nm b hb) 20
mutual
theorem eqv_refl:∀ (k:Nat) (d:D),fl k d=true->eqv d d=true
  |_,.non,_=>rfl
  |_,.bl b,_=>by show(b==b)=true;simp
  |_,.int i,_=>by show decide (i=i)=true;simp
  |_,.str x,_=>by show(x==x)=true;simp
  |0,.tup _,h=>by cases h
  |k+1,.tup xs,h=>eqvAll_refl k xs h
  |k,.ref _,h=>by cases k<;>cases h
  |k,.ty _,h=>by cases k<;>cases h
  |k,.rl _,h=>by cases k<;>cases h
  |k,.kt _,h=>by cases k<;>cases h
  |k,.exn _,h=>by cases k<;>cases h
theorem eqvAll_refl:∀ (k:Nat) (xs:List D),xs.all (fl k)=true->eqvAll xs xs=true
  |_,[],_=>rfl
  |k,x::xs,h=>by rw[Wg,qv]at h;show(eqv x x&&eqvAll xs xs)=true;rw[eqv_refl k x h.1,eqvAll_refl k xs h.2];rfl
end
def jM {Q:DK}(hx:Lst S x xs)(hy:Lst S y xs)(f:xs.all (fl 20)=true)(q:Q (.bl false) S):Yv x y S Q:=zvN hx hy f f (eqvAll_refl 20 xs f) q
def Ka (p:Str->D):D->D
 |.str z=>p z
 |d=>d
def Xl {zs:List Str}{i:Nat}{d:D}(h:(zs.map D.str)[i]?=some d):∃ z,zs[i]?=some z/\d=.str z:=by
 rw[qj]at h;cases e:zs[i]? with
 |none=>rw[e]at h;cases h
 |some p=>rw[e]at h;cases h;exact⟨p,rfl,rfl⟩
def zqG (f:Str->D)(zs:List Str):(zs.map D.str).map (Ka f)=zs.map f:=by rw[XF];rfl
def oN {S:Z7}{Q:DK}{x y:Str}(fx:fl 20 (.str x)=true)(fy:fl 20 (.str y)=true)(q:Q (.bl (decide (x=y))) S):oEq (.str x) (.str y) S Q:=zrn fx fy (by
 by_cases h:x=y
 ·subst h;rw[decide_eq_true rfl];exact beq_self_eq_true x
 ·rw[decide_eq_false h];exact beq_eq_false_iff_ne.mpr h) q
def prs:List Str->List (Str×Str)
 |[]=>[]
 |z::zs=>zs.map (fun y=>(z,y))++prs zs
abbrev Zx (c:Str×Str):D:=.tup [.str c.1,.str c.2]
theorem N5:∀ zs:List Str,(prs zs).length<=zs.length*zs.length
 |[]=>qh _
 |z::zs=>by have:=N5 zs;show(zs.map (fun y=>(z,y))++prs zs).length<=(zs.length+1)*(zs.length+1);rw[qf,qa,Nat.add_mul,Nat.mul_add];lia
theorem Ae:∀ {zs:List Str} {i:Nat} {z:Str},zs[i]?=some z->∃ A,prs zs=A++(zs.drop (i+1)).map (fun y=>(z,y))++prs (zs.drop (i+1))/\prs zs=A++prs (zs.drop i)
 |[],i,z,h=>by simp at h
 |y::zs,0,z,h=>by
  have:y=z:=by simpa using h
  subst this;exact⟨[],by simp[prs],by simp⟩
 |y::zs,i+1,z,h=>by obtain⟨A,h1,h2⟩:=Ae (zs:=zs) (i:=i) (z:=z) (by simpa using h);exact⟨zs.map (fun x=>(y,x))++A,by simp[prs,h1],by simp only[prs,List.drop_succ_cons];rw[h2,qq]⟩
def Lp (V:Vl)(h:Int)(ps qs:List (Str×Str)):Prop:=∃ f:Str×Str->Bool,qs=ps.filter f/\∀ p∈ps,∀ s t,(p.1,s)∈V.bs->(p.2,t)∈V.bs->(f p=true↔p.1=p.2\/Sd V s t h)
theorem V3:∀ {zs:List Str} {p:Str×Str},p∈prs zs->p.1∈zs/\p.2∈zs
 |[],p,h=>by simp[prs]at h
 |z::zs,p,h=>by
  rcases qC.mp h with h|h
  ·obtain⟨y,hy,rfl⟩:=qw.mp h;exact⟨by simp,qi _ hy⟩
  ·obtain⟨h1,h2⟩:=V3 h;exact⟨qi _ h1,qi _ h2⟩
def JZ {cs:List (Str×Str)}{i:Nat}{d:D}(h:(cs.map Zx)[i]?=some d):∃ c,cs[i]?=some c/\d=Zx c:=by
 rw[qj]at h;cases e:cs[i]? with
 |none=>rw[e]at h;cases h
 |some p=>rw[e]at h;cases h;exact⟨p,rfl,rfl⟩
def yU {V:Vl}{ps qs':List (Str×Str)}{i:Nat}{p:Str×Str}{g:Bool}{s t:Int×Int}(hp:ps[i]?=some p)(hs:(p.1,s)∈V.bs)(ht:(p.2,t)∈V.bs)(hw:Lp V h (ps.take i) qs)(hg:∀ s t,(p.1,s)∈V.bs->(p.2,t)∈V.bs->(g=true↔p.1=p.2\/Sd V s t h))(e:qs'=if g=true then qs++[p]else qs):Lp V h (ps.take (i+1)) qs':=by
 obtain⟨f,hf,hfp⟩:=hw;rw[V8 hp];have efg:p∈ps.take i->f p=g:=fun z=>by rw[Te,hfp p z s t hs ht,hg s t hs ht]
 have e1:(ps.take i).filter (fun x=>if x∈ps.take i then f x else g)=qs:=by rw[hf];exact Ln fun x hx=>by rw[if_pos hx]
 have e2:(if p∈ps.take i then f p else g)=g:=by
  split
  ·rename_i z;exact efg z
  ·rfl
 refine⟨fun x=>if x∈ps.take i then f x else g,?_,fun x hx s' t' hs' ht'=>?_⟩
 ·rw[Ph,e1,e];cases g with
  |true=>rw[if_pos rfl,Kp (by exact e2)];rfl
  |false=>rw[if_neg (by decide),Kw (by rw[e2];decide)];simp
 ·dsimp only;by_cases z:x∈ps.take i
  ·rw[if_pos z];exact hfp x z s' t' hs' ht'
  ·rcases qC.mp hx with hx|hx
   ·exact absurd hx z
   ·have:x=p:=by simpa using hx
    subst this;rw[if_neg z];exact hg s' t' hs' ht'
def YZ (V:Vl)(h:Int)(a b:Str):Prop:=∃ s t,(a,s)∈V.bs/\(b,t)∈V.bs/\(a=b\/Sd V s t h)
inductive Sw (V:Vl)(h:Int)(bar:List Str)(n:Str):Str->Prop
 |refl:Sw V h bar n n
 |step {a b:Str}:Sw V h bar n a->YZ V h a b->b∉bar->Sw V h bar n b
theorem Nf:∀ {F N:List Str},F.Nodup->(∀ x∈F,x∈N)->F.length<=N.length
 |[],_,_,_=>qY _
 |x::F,N,nd,h=>by
  obtain⟨n1,n2⟩:=V4.mp nd;have hx:=h x (by simp);have:=Nf (F:=F) (N:=N.erase x) n2 fun y hy=>(List.mem_erase_of_ne (fun e:y=x=>n1 (e▸hy))).mpr (h y (qi _ hy))
  rw[List.length_erase_of_mem hx]at this;have:=Di hx;rw[qT];lia
open Classical in
noncomputable def Q9 (V:Vl) (h:Int) (p:Str×Str):Bool:=decide (YZ V h p.1 p.2)
def Lr {V:Vl}{h:Int}{p:Str×Str}:Q9 V h p=true↔YZ V h p.1 p.2:=by unfold Q9;exact @decide_eq_true_iff _ (Classical.propDecidable _)
def O4 {V:Vl}(w:YZ V h a b):YZ V h b a:=by obtain⟨s,t,hs,ht,e⟩:=w;exact⟨t,s,ht,hs,e.imp (·.symm) zmQ.mpr⟩
def ug {V:Vl}(ok:Y8 V){ps:List (Str×Str)}(hp:∀ p∈ps,p.1∈V.bs.map (·.1)/\p.2∈V.bs.map (·.1))(w:Lp V h ps qs):qs=ps.filter (Q9 V h):=by
 obtain⟨f,rfl,hf⟩:=w;refine Ln fun p hpm=>?_
 obtain⟨m1,m2⟩:=hp p hpm;obtain⟨b,hb,eb⟩:=qw.mp m1;obtain⟨c,hc,ec⟩:=qw.mp m2;have hb':(p.1,b.2)∈V.bs:=by rw[<- eb];exact hb
 have hc':(p.2,c.2)∈V.bs:=by rw[<- ec];exact hc
 rw[Te,hf p hpm b.2 c.2 hb' hc',Lr];constructor
 ·intro z;exact⟨_,_,hb',hc',z⟩
 ·rintro⟨s,t,hs,ht,z⟩;have es:s=b.2:=congrArg Prod.snd (J2 ok hs hb' rfl);have et:t=c.2:=congrArg Prod.snd (J2 ok ht hc' rfl);subst es et;exact z
def RT {S:Z7}{Q:DK}{x y:Str}(fx:fl 20 (.str x)=true)(fy:fl 20 (.str y)=true)(q:Q (.bl (!decide (x=y))) S):Yv (.str x) (.str y) S Q:=ú fx fy (by
 by_cases h:x=y
 ·subst h;rw[decide_eq_true rfl];exact beq_self_eq_true x
 ·rw[decide_eq_false h];exact beq_eq_false_iff_ne.mpr h) q
theorem Lf:∀ {zs:List Str} {p:Str×Str},p∈prs zs↔∃ i j:Nat,i<j/\zs[i]?=some p.1/\zs[j]?=some p.2
 |[],p=>by simp[prs]
 |z::zs,p=>by
  show p∈zs.map (fun y=>(z,y))++prs zs↔_;rw[qC,Lf (zs:=zs)];constructor
  ·rintro(h|⟨i,j,h,h1,h2⟩)
   ·obtain⟨y,hy,rfl⟩:=qw.mp h;obtain⟨j,hj,e⟩:=qH.mp hy;exact⟨0,j+1,by lia,rfl,by rw[Uz,qb hj,e]⟩
   ·exact⟨i+1,j+1,by lia,by rw[Uz];exact h1,by rw[Uz];exact h2⟩
  ·rintro⟨i,j,h,h1,h2⟩;obtain⟨j,rfl⟩:∃ k,j=k+1:=⟨j-1,by lia⟩
   rw[Uz]at h2;cases i with
   |zero =>
    left;have e:z=p.1:=by simpa using h1
    exact qw.mpr ⟨p.2,qc h2,by rw[e]⟩
   |succ i =>rw[Uz]at h1;exact .inr ⟨i,j,by lia,h1,h2⟩
def TV {zs:List Str}(nd:zs.Nodup){i j:Nat}{z:Str}(hi:zs[i]?=some z)(hj:zs[j]?=some z):i=j:=by
 have li:=zA hi;have lj:=zA hj;rw[qb li]at hi;rw[qb lj]at hj;have e:zs[i]=zs[j]:=qF (hi.trans hj.symm);have:=RJ.mp nd;rcases Nat.lt_trichotomy i j with g|g|g
 ·exact absurd e (this i j li lj g)
 ·exact g
 ·exact absurd e.symm (this j i lj li g)
def pB {zs:List Str}(nd:zs.Nodup){a b:Str}(h:(a,b)∈prs zs):(b,a)∉prs zs:=fun k=>by obtain⟨i,j,l,h1,h2⟩:=Lf.mp h;obtain⟨i',j',l',h1',h2'⟩:=Lf.mp k;have e1:=TV nd h1 h2';have e2:=TV nd h2 h1';lia
def M8 {zs:List Str}(nd:zs.Nodup){a b:Str}(h:(a,b)∈prs zs):a≠b:=fun e=>by subst e;exact pB nd h h
def yG {zs:List Str}{a b:Str}(ha:a∈zs)(hb:b∈zs)(h:a≠b):(a,b)∈prs zs\/(b,a)∈prs zs:=by
 obtain⟨i,hi,ei⟩:=qH.mp ha;obtain⟨j,hj,ej⟩:=qH.mp hb;have gi:zs[i]?=some a:=by rw[qb hi,ei]
 have gj:zs[j]?=some b:=by rw[qb hj,ej]
 rcases Nat.lt_trichotomy i j with g|g|g
 ·exact .inl (Lf.mpr ⟨i,j,g,gi,gj⟩)
 ·subst g;rw[gi]at gj;exact absurd (qF gj) h
 ·exact .inr (Lf.mpr ⟨j,i,g,gj,gi⟩)
theorem v7:∀ {zs:List Str},zs.Nodup->(prs zs).Nodup
 |[],_=>by simp[prs]
 |z::zs,nd=>by
  obtain⟨n1,n2⟩:=V4.mp nd;show(zs.map (fun y=>(z,y))++prs zs).Nodup;rw[W2];refine⟨?_,v7 n2,fun a ha b hb e=>?_⟩
  ·refine List.pairwise_map.mpr (n2.imp fun h e=>h (congrArg Prod.snd e))
  ·subst e;obtain⟨y,hy,rfl⟩:=qw.mp ha;exact n1 (V3 hb).1
def R6 {V:Vl}(w:YZ V h a b):a∈V.bs.map (·.1)/\b∈V.bs.map (·.1):=by obtain⟨s,t,hs,ht,_⟩:=w;exact⟨qw.mpr ⟨_,hs,rfl⟩,qw.mpr ⟨_,ht,rfl⟩⟩
def xY {V:Vl}{a:Str}(ha:a∈V.bs.map (·.1))(c:Sw V h bar a b):b∈V.bs.map (·.1):=by
 induction c with
 |refl=>exact ha
 |step _ aD _ _=>exact(R6 aD).2
def Xw (S:Z7)(x:D)(V:Vl)(h:Int):Prop:=∃ (n:Nat) (Z8:List (Str×D)),x=.ref n/\S[n]?=some (.dk Z8)/\∀ z∈V.bs.map (·.1),∃ (m:Nat) (ys:List Str),dval Z8 z=some (.ref m)/\S[m]?=some (.lst (ys.map D.str))/\ys.Nodup/\∀ y,y∈ys↔y≠z/\YZ V h z y
def Xw.old {T:Z7}{V:Vl}(w:Xw S x V h):Xw (S++T) x V h:=by obtain⟨n,Z8,e,hn,hk⟩:=w;refine⟨n,Z8,e,zE hn,fun z hz=>?_⟩;obtain⟨m,ys,h1,h2,h3,h4⟩:=hk z hz;exact⟨m,ys,h1,zE h2,h3,h4⟩
def Xw.get {V:Vl}(w:Xw S x V h){z:Str}(hz:z∈V.bs.map (·.1)):∃ (m:Nat) (ys:List Str),Zj S x (.str z) (some (.ref m))/\S[m]?=some (.lst (ys.map D.str))/\ys.Nodup/\∀ y,y∈ys↔y≠z/\YZ V h z y:=by obtain⟨n,Z8,rfl,hn,hk⟩:=w;obtain⟨m,ys,h1,h2,h3,h4⟩:=hk z hz;exact⟨m,ys,Zj.k hn h1,h2,h3,h4⟩
structure Mz (zs:List Str)(ps:List (Int×Int))(fs:List Fg)(hz f:Int):Prop where
 l2:2<=zs.length
 l8:zs.length<=8
 nm:∀ z∈zs,Xe z=true
 hd:∀ (i:Nat) z,zs[i]?=some z->z.cps.toList.head?=some (97+i)
 lp:ps.length=zs.length
 sp:∀ p∈ps,0<=p.1/\p.1<=4/\0<=p.2/\p.2<=3
 lf:fs.length<=4
 fg:∀ F∈fs,LC F
 h0:0<=hz
 h1:hz<=10
 f0:-4<=f
 f1:f<=4
def Mz.nd {fs:List Fg}(w:Mz zs ps fs hz f):zs.Nodup:=by
 refine RJ.mpr fun i j hi hj hij e=>?_
 have h1:=w.hd i _ (qb hi);have h2:=w.hd j _ (qb hj);rw[e,h2]at h1;have:=qF h1;lia
def Pz (a b:Str)(zs:List Str):List Str:=zs.filter fun z=>decide (z≠a/\z≠b)
def X4 (p:Str->Bool):D->Bool
 |.str z=>p z
 |_=>false
def fJ (a b:Str)(zs:List Str):((zs.map D.str).filter (X4 fun z=>decide (z≠a/\z≠b))).map id=(Pz a b zs).map D.str:=by rw[List.map_id,Uy];rfl
def Js (V:Vl)(h:Int)(a b:Str)(us:List Str):Prop:=us[0]?=some a/\us[us.length-1]?=some b/\us.Nodup/\(∀ u∈us,u∈V.bs.map (·.1))/\∀ (k:Nat) x y,us[k]?=some x->us[k+1]?=some y->YZ V h x y
def zo4 {ds:List D}{d:D}(h:ds[ds.length-1]?=some d):Zb ds (-1)=some d:=by have hl:=zA h;unfold Zb Xv;rw[if_neg (by decide),if_pos (by lia)];show ds[((-1:Int)+(ds.length:Int)).toNat]?=some d;rw[show((-1:Int)+(ds.length:Int)).toNat=ds.length-1 by lia];exact h
def vP (p:Nat->Bool):D->D
 |.str z=>.bl (p (z.cps.toList.headD 0))
 |d=>d
def cu {z:Str}{i:Nat}{d:D}(h:(signs z)[i]?=some d):∃ c,z.cps.toList[i]?=some c/\d=.str ⟨#[c]⟩:=by
 unfold signs at h;rw[qj]at h;cases e:z.cps.toList[i]? with
 |none=>rw[e]at h;cases h
 |some p=>rw[e]at h;cases h;exact⟨p,rfl,rfl⟩
def mj (p:Nat->Bool)(z:Str):(signs z).map (vP p)=(z.cps.toList.map p).map D.bl:=by unfold signs;rw[XF,XF];rfl
def zmJ (z:Str):(signs z).length=z.length:=by unfold signs;rw[qa];exact Vb
section
variable {see:Nat->Nat->Int->Prop}{dl:Int}{s:Nat}{h0:Int}
inductive Lt (see:Nat->Nat->Int->Prop)(dl:Int)(s:Nat)(h0:Int):Nat->Int->Prop
 |base:Lt see dl s h0 s h0
 |step {k j:Nat} {h u:Int}:Lt see dl s h0 k h->h<=u->see k j u->Lt see dl s h0 j (u+dl)
end
def hrs (V:Vl):List Int:=(List.range (V.h1-V.h0+1).toNat).map fun i:Nat=>V.h0+(i:Int)
section
variable {V:Vl}{is:List Nat}{v:Nat->D}
end
open Classical in
section
variable {V:Vl}{a j:Nat}{fi:List Nat}{f:Nat->En}{p:List Nat×(Nat->En)}{u:Int}
end
section
variable {see:Nat->Nat->Int->Prop}{dl:Int}{n s:Nat}{h:Int}{D D':Nat->Nat->Prop}{fi wi:List Nat}{f g:Nat->En}
end
def sm:Nat->(Nat->Int)->Int
 |0,_=>0
 |n+1,f=>sm n f+f n
def Ug {n:Nat}{f g:Nat->Int}(h:∀ i,i<n->f i=g i):sm n f=sm n g:=by
 induction n with
 |zero=>rfl
 |succ n ih=>show sm n f+f n=sm n g+g n;rw[ih fun i hi=>h i (by lia),h n (by lia)]
def MP {n:Nat}{f g:Nat->Int}:sm n (fun i=>f i+g i)=sm n f+sm n g:=by
 induction n with
 |zero=>rfl
 |succ n ih=>show sm n _+(f n+g n)=sm n f+f n+(sm n g+g n);rw[ih];lia
def wY {n:Nat}{f:Nat->Int}:sm n (fun i=>-f i)=-sm n f:=by
 induction n with
 |zero=>rfl
 |succ n ih=>show sm n _ + -f n=-(sm n f+f n);rw[ih];lia
def Ja {n:Nat}{f:Nat->Int}(h:∀ i,i<n->f i=0):sm n f=0:=by
 induction n with
 |zero=>rfl
 |succ n ih=>show sm n f+f n=0;rw[ih fun i hi=>h i (by lia),h n (by lia)];rfl
def Ų {n:Nat}{f:Nat->Int}(h:∀ i,i<n->0<=f i):0<=sm n f:=by
 induction n with
 |zero=>exact TQ _
 |succ n ih=>show 0<=sm n f+f n;have:=ih fun i hi=>h i (by lia);have:=h n (by lia);lia
def CV {n j:Nat}{f:Nat->Int}(hj:j<n)(h:∀ i,i<n->i≠j->f i=0):sm n f=f j:=by
 induction n with
 |zero=>lia
 |succ n ih =>
  show sm n f+f n=f j;by_cases e:j=n
  ·subst e;rw[Ja fun i hi=>h i (by lia) (by lia)];lia
  ·rw[ih (by lia) fun i hi hn=>h i (by lia) hn,h n (by lia) (by lia)];lia
def LQ {n j:Nat}{f:Nat->Int}(h:∀ i,i<n->0<=f i)(hj:j<n):f j<=sm n f:=by
 induction n with
 |zero=>lia
 |succ n ih =>
  show f j<=sm n f+f n;have h0:0<=sm n f:=Ų fun i hi=>h i (by lia)
  have:=h n (by lia);by_cases e:j=n
  ·subst e;lia
  ·have:=ih (fun i hi=>h i (by lia)) (by lia);lia
def Ŋ {n j k:Nat}{f:Nat->Int}(h:∀ i,i<n->0<=f i)(hj:j<n)(hk:k<n)(ne:j≠k):f j+f k<=sm n f:=by
 induction n with
 |zero=>lia
 |succ n ih =>
  show f j+f k<=sm n f+f n;have hn:=h n (by lia);have mem:∀ i,i<n->f i<=sm n f:=fun i hi=>LQ (fun i hi=>h i (by lia)) hi
  by_cases e:j=n
  ·subst e;have:=mem k (by lia);lia
  ·by_cases e2:k=n
   ·subst e2;have:=mem j (by lia);lia
   ·have:=ih (fun i hi=>h i (by lia)) (by lia) (by lia);lia
def iR {n:Nat}{f:Nat->Int}(h:0<sm n f):∃ j,j<n/\0<f j:=by
 induction n with
 |zero=>exact absurd h (Qf 0)
 |succ n ih =>
  by_cases e:0<f n
  ·exact⟨n,by lia,e⟩
  ·obtain⟨j,hj,hp⟩:=ih (by have:0<sm n f+f n:=h;lia);exact⟨j,by lia,hp⟩
def È {n m:Nat}{f:Nat->Nat->Int}:sm n (fun i=>sm m fun j=>f i j)=sm m fun j=>sm n fun i=>f i j:=by
 induction n with
 |zero=>exact(Ja fun _ _=>rfl).symm
 |succ n ih=>show sm n _+sm m _=sm m fun j=>(sm n fun i=>f i j)+f n j;rw[ih,MP]
def xK {n:Nat}{p:Nat->Bool}:sm n (fun i=>if p i=true then 1 else 0)=(((List.range n).filter p).length:Int):=by
 induction n with
 |zero=>rfl
 |succ n ih =>
  show sm n _+_=_;rw[ih,List.range_succ,Ph,qf];cases e:p n with
  |true=>rw[Kp e];simp[e]
  |false=>rw[Kw (by rw[e];exact qo)];simp[e]
abbrev Pt:=Nat×Bool
structure Wb where
 n:Nat
 adj:Nat->Nat->Bool
 s:Nat
 t:Nat
structure Zt (W:Wb):Prop where
 irr:∀ a,W.adj a a=false
 sym:∀ a b,W.adj a b=W.adj b a
 lt:∀ a b,W.adj a b=true->a<W.n/\b<W.n
 s:W.s<W.n
 t:W.t<W.n
 st:W.s≠W.t
 na:W.adj W.s W.t=false
def Ze (W:Wb):Pt->Pt->Int
 |(v,false),(w,true)=>if v=w/\v≠W.s/\v≠W.t/\v<W.n then 1 else 0
 |(a,true),(b,false)=>if W.adj a b=true then(W.n:Int)else 0
 |_,_=>0
def sp (W:Wb)(f:Pt->Int):Int:=sm W.n fun v=>f (v,false)+f (v,true)
def src (W:Wb):Pt:=(W.s,true)
def YX (W:Wb):Pt:=(W.t,false)
def W0 (W:Wb)(c:Pt->Pt->Int)(p:Pt):Int:=sp W fun q=>Ze W p q-c p q
structure RL (W:Wb)(c:Pt->Pt->Int)(k:Int)(r:Pt):Prop where
 nn:∀ p q,0<=c p q
 an:∀ p q,c p q+c q p=Ze W p q+Ze W q p
 cs:∀ p:Pt,p.1<W.n->W0 W c p=(if p=src W then k else 0)-(if p=YX W then k+1 else 0)+(if p=r then 1 else 0)
structure Zz (W:Wb)(c:Pt->Pt->Int)(k:Int):Prop where
 nn:∀ p q,0<=c p q
 an:∀ p q,c p q+c q p=Ze W p q+Ze W q p
 cs:∀ p:Pt,p.1<W.n->W0 W c p=(if p=src W then k else 0)-(if p=YX W then k else 0)
def Zz.start {k:Int}(h:Zz W c k):RL W c k (YX W):=by
 refine⟨h.nn,h.an,fun p hp=>?_⟩;rw[h.cs p hp];by_cases e:p=YX W
 ·rw[if_pos e,if_pos e,if_pos e];lia
 ·rw[if_neg e,if_neg e,if_neg e];lia
def RL.end {k:Int}(h:RL W c k (src W)):Zz W c (k+1):=by
 refine⟨h.nn,h.an,fun p hp=>?_⟩;rw[h.cs p hp];by_cases e:p=src W
 ·rw[if_pos e,if_pos e,if_pos e];lia
 ·rw[if_neg e,if_neg e,if_neg e];lia
def tk (c:Pt->Pt->Int)(a b:Pt):Pt->Pt->Int:=fun p q=>if p=a/\q=b then c a b-1 else if p=b/\q=a then c b a+1 else c p q
def KH {W:Wb}{f:Pt->Int}{b:Pt}(hb:b.1<W.n)(h:∀ q,q.1<W.n->q≠b->f q=0):sp W f=f b:=by
 unfold sp;rw[CV hb fun i hi' hi=>?_]
 ·obtain⟨v,s⟩:=b;cases s with
  |false=>show f (v,false)+f (v,true)=_;rw[h (v,true) hb (by simp)];lia
  |true=>show f (v,false)+f (v,true)=_;rw[h (v,false) hb (by simp)];lia
 ·rw[h (i,false) hi' (fun e=>hi (by rw[<- e])),h (i,true) hi' (fun e=>hi (by rw[<- e]))];rfl
def Ci {W:Wb}{f g:Pt->Int}:sp W (fun q=>f q+g q)=sp W f+sp W g:=by unfold sp;rw[<- MP];exact Ug fun i _=>by dsimp only;lia
def Lx {W:Wb}{f g:Pt->Int}(h:∀ q,f q=g q):sp W f=sp W g:=by rw[funext h]
def Õ {W:Wb}{c:Pt->Pt->Int}{a b:Pt}(ha:a.1<W.n)(hb:b.1<W.n)(ne:a≠b)(p:Pt):W0 W (tk c a b) p=W0 W c p+(if p=a then 1 else 0)-(if p=b then 1 else 0):=by
 have e:W0 W (tk c a b) p=W0 W c p+sp W fun q=>c p q-tk c a b p q:=by unfold W0;rw[<- Ci];exact Lx fun q=>by lia
 rw[e];by_cases h1:p=a
 ·subst h1;rw[KH hb fun q _ hq=>?_,if_pos rfl,if_neg ne]
  ·unfold tk;rw[if_pos ⟨rfl,rfl⟩];lia
  ·unfold tk;rw[if_neg (fun z=>hq z.2),if_neg (fun z=>ne z.1)];lia
 ·by_cases h2:p=b
  ·subst h2;rw[KH ha fun q _ hq=>?_,if_neg h1,if_pos rfl]
   ·unfold tk;rw[if_neg (fun z=>h1 z.1),if_pos ⟨rfl,rfl⟩];lia
   ·unfold tk;rw[if_neg (fun z=>h1 z.1),if_neg (fun z=>hq z.2)];lia
  ·rw[if_neg h1,if_neg h2,show(sp W fun q=>c p q-tk c a b p q)=0 from Ja fun i _=>?_]
   ·lia
   ·have:∀ q,c p q-tk c a b p q=0:=fun q=>by unfold tk;rw[if_neg (fun z=>h1 z.1),if_neg (fun z=>h2 z.1)];lia
    show c p (i,false)-tk c a b p (i,false)+(c p (i,true)-tk c a b p (i,true))=0;rw[this,this];rfl
def RL.step {k:Int}{a:Pt}(h:RL W c k r)(ha:a.1<W.n)(hr:r.1<W.n)(ne:a≠r)(pos:0<c a r):RL W (tk c a r) k a:=by
 refine⟨fun p q=>?_,fun p q=>?_,fun p hp=>?_⟩
 ·have:=h.nn p q;have:=h.nn r a;unfold tk;by_cases e1:p=a/\q=r
  ·rw[if_pos e1];lia
  ·rw[if_neg e1];by_cases e2:p=r/\q=a
   ·rw[if_pos e2];lia
   ·rw[if_neg e2];exact h.nn p q
 ·have e:=h.an p q;unfold tk;by_cases e1:p=a/\q=r
  ·obtain⟨rfl,rfl⟩:=e1;rw[if_pos ⟨rfl,rfl⟩,if_neg (fun z=>ne z.1.symm),if_pos ⟨rfl,rfl⟩];lia
  ·by_cases e2:p=r/\q=a
   ·obtain⟨rfl,rfl⟩:=e2;rw[if_neg e1,if_pos ⟨rfl,rfl⟩,if_pos ⟨rfl,rfl⟩];lia
   ·rw[if_neg e1,if_neg e2,if_neg (fun z=>e2 ⟨z.2,z.1⟩),if_neg (fun z=>e1 ⟨z.2,z.1⟩)];exact e
 ·rw[Õ ha hr ne p,h.cs p hp];lia
section
variable {W:Wb}{c:Pt->Pt->Int}{k:Int}
def U6 {a b:Nat}:Ze W (a,true) (b,false)=if W.adj a b=true then(W.n:Int)else 0:=rfl
def Sy {v w:Nat}:Ze W (v,false) (w,true)=if v=w/\v≠W.s/\v≠W.t/\v<W.n then 1 else 0:=rfl
def Kf {v w:Nat}:Ze W (v,false) (w,false)=0:=rfl
def J7 {v w:Nat}:Ze W (v,true) (w,true)=0:=rfl
def arc (c:Pt->Pt->Int)(a b:Nat):Int:=if a=b then 0 else c (b,false) (a,true)
def thr (c:Pt->Pt->Int)(v:Nat):Int:=c (v,true) (v,false)
def PJ (h:Zz W c k)(a b:Nat):0<=arc c a b:=by
 unfold arc;by_cases e:a=b
 ·rw[if_pos e];exact TQ _
 ·rw[if_neg e];exact h.nn _ _
def Jq (h:Zz W c k){a b:Nat}(ne:a≠b):Ze W (a,true) (b,false)-c (a,true) (b,false)=arc c a b:=by have e:=h.an (a,true) (b,false);rw[Sy (v:=b),if_neg (fun z=>ne z.1.symm)]at e;unfold arc;rw[if_neg ne];lia
def RK (ok:Zt W)(h:Zz W c k){a b:Nat}(p:0<arc c a b):W.adj a b=true/\a≠b:=by
 have ne:a≠b:=fun e=>by unfold arc at p;rw[if_pos e]at p;exact absurd p (Qf 0)
 refine⟨?_,ne⟩;have e:=Jq h ne;have n0:=h.nn (a,true) (b,false);cases hc:W.adj a b with
 |true=>rfl
 |false=>rw[U6,hc,if_neg qo]at e;lia
def yC (ok:Zt W)(h:Zz W c k)(v:Nat):Ze W (v,false) (v,true)-c (v,false) (v,true)=thr c v:=by have e:=h.an (v,false) (v,true);rw[U6 (a:=v),ok.irr,if_neg qo]at e;unfold thr;lia
def Nx (ok:Zt W)(h:Zz W c k)(v:Nat):0<=thr c v/\thr c v<=1/\(v=W.s\/v=W.t->thr c v=0):=by
 have e:=yC ok h v;have n0:=h.nn (v,false) (v,true);have n1:0<=thr c v:=h.nn _ _;rw[Sy]at e;by_cases g:v=v/\v≠W.s/\v≠W.t/\v<W.n
 ·rw[if_pos g]at e;exact⟨n1,by lia,fun z=>by rcases z with z|z;exact absurd z g.2.1;exact absurd z g.2.2.1⟩
 ·rw[if_neg g]at e;exact⟨n1,by lia,fun _=>by lia⟩
def tK (h:Zz W c k){v w:Nat}{s:Bool}:c (v,s) (w,s)=0:=by
 have e:=h.an (v,s) (w,s);have:=h.nn (v,s) (w,s);have:=h.nn (w,s) (v,s);cases s with
 |false=>rw[Kf,Kf]at e;lia
 |true=>rw[J7,J7]at e;lia
def Km (ok:Zt W)(h:Zz W c k){v:Nat}(hv:v<W.n):sm W.n (fun a=>arc c a v)=thr c v+(if v=W.t then k else 0):=by
 have e:=h.cs (v,false) hv;unfold W0 sp at e
 have e2:(sm W.n fun w=>Ze W (v,false) (w,false)-c (v,false) (w,false)+(Ze W (v,false) (w,true)-c (v,false) (w,true)))=sm W.n (fun w=>-arc c w v)+sm W.n (fun w=>if w=v then thr c v else 0):=by
  rw[<- MP];refine Ug fun w _=>?_
  rw[Kf,tK h];by_cases ew:w=v
  ·subst ew;rw[if_pos rfl,yC ok h];unfold arc;rw[if_pos rfl];lia
  ·rw[if_neg ew,Sy,if_neg (fun z=>ew z.1.symm)];unfold arc;rw[if_neg ew];lia
 rw[e2,wY,CV hv fun i _ hi=>if_neg hi,if_pos rfl]at e;rw[if_neg (show(v,false)≠src W by unfold src;simp)]at e;by_cases ev:v=W.t
 ·rw[if_pos (show(v,false)=YX W by unfold YX;rw[ev])]at e;rw[if_pos ev];lia
 ·rw[if_neg (show(v,false)≠YX W by unfold YX;intro z;exact ev (V1 z).1)]at e;rw[if_neg ev];lia
def Hx (ok:Zt W)(h:Zz W c k){v:Nat}(hv:v<W.n):sm W.n (arc c v)=thr c v+(if v=W.s then k else 0):=by
 have e:=h.cs (v,true) hv;unfold W0 sp at e
 have e2:(sm W.n fun w=>Ze W (v,true) (w,false)-c (v,true) (w,false)+(Ze W (v,true) (w,true)-c (v,true) (w,true)))=sm W.n (arc c v)+sm W.n (fun w=>if w=v then -thr c v else 0):=by
  rw[<- MP];refine Ug fun w _=>?_
  rw[J7,tK h];by_cases ew:w=v
  ·subst ew;rw[if_pos rfl,U6,ok.irr,if_neg qo];unfold arc thr;rw[if_pos rfl];lia
  ·rw[if_neg ew,Jq h (Ne.symm ew)];lia
 rw[e2,CV hv fun i _ hi=>if_neg hi,if_pos rfl]at e;rw[if_neg (show(v,true)≠YX W by unfold YX;simp)]at e;by_cases ev:v=W.s
 ·rw[if_pos (show(v,true)=src W by unfold src;rw[ev])]at e;rw[if_pos ev];lia
 ·rw[if_neg (show(v,true)≠src W by unfold src;intro z;exact ev (V1 z).1)]at e;rw[if_neg ev];lia
def GQ (ok:Zt W)(h:Zz W c k){a b:Nat}(ha:a<W.n)(hb:b<W.n):arc c a b<=1:=by
 have n1:∀ i,i<W.n->0<=arc c i b:=fun i _=>PJ h i b
 have n2:∀ i,i<W.n->0<=arc c a i:=fun i _=>PJ h a i
 by_cases e:b=W.t
 ·by_cases e2:a=W.s
  ·by_cases g:0<arc c a b
   ·have:=(RK ok h g).1;rw[e,e2,ok.na]at this;cases this
   ·lia
  ·have:=Hx ok h ha;rw[if_neg e2]at this;have:=(Nx ok h a).2.1;have:=LQ n2 hb;lia
 ·have:=Km ok h hb;rw[if_neg e]at this;have:=(Nx ok h b).2.1;have:=LQ n1 ha;lia
def ľ (ok:Zt W)(h:Zz W c k){a a' b:Nat}(hb:b≠W.t)(p:0<arc c a b)(p':0<arc c a' b):a=a':=by
 obtain⟨l1,l2⟩:=ok.lt _ _ (RK ok h p).1;obtain⟨l1',_⟩:=ok.lt _ _ (RK ok h p').1;have e:=Km ok h l2;rw[if_neg hb]at e;have:=(Nx ok h b).2.1;by_cases ne:a=a'
 ·exact ne
 ·have:=Ŋ (fun i _=>PJ h i b) l1 l1' ne;lia
def Dv (ok:Zt W)(h:Zz W c k)(a:Nat):¬ 0<arc c a W.s:=fun p=>by obtain⟨l1,l2⟩:=ok.lt _ _ (RK ok h p).1;have e:=Km ok h l2;rw[if_neg ok.st,(Nx ok h W.s).2.2 (.inl rfl)]at e;have:=LQ (fun i _=>PJ h i W.s) l1;lia
def mF (ok:Zt W)(h:Zz W c k){a b:Nat}(hb:b≠W.t)(p:0<arc c a b):∃ d,d<W.n/\0<arc c b d:=by
 obtain⟨l1,l2⟩:=ok.lt _ _ (RK ok h p).1;have e:=Km ok h l2;rw[if_neg hb]at e;have:=LQ (fun i _=>PJ h i b) l1;have hs:b≠W.s:=fun z=>Dv ok h a (z▸p)
 have e2:=Hx ok h l2;rw[if_neg hs]at e2;exact iR (f:=arc c b) (by lia)
def begins (ok:Zt W)(h:Zz W c k):(((List.range W.n).filter fun b=>decide (0<arc c W.s b)).length:Int)=k:=by
 rw[<- xK];have e:=Hx ok h ok.s;rw[if_pos rfl,(Nx ok h W.s).2.2 (.inl rfl)]at e;rw[<- show sm W.n (arc c W.s)=k by lia];refine Ug fun b hb=>?_
 have l:=GQ ok h ok.s hb;have n:=PJ h W.s b;by_cases g:0<arc c W.s b
 ·rw[if_pos (decide_eq_true g)];lia
 ·rw[if_neg (by rw[decide_eq_false g];exact qo)];lia
def iy {f:Pt->Pt->Int}:sp W (fun p=>sp W fun q=>f p q)=sp W fun q=>sp W fun p=>f p q:=by
 unfold sp;have e:∀ g:Pt->Pt->Int,(sm W.n fun v=>(sm W.n fun w=>g (v,false) (w,false)+g (v,false) (w,true))+sm W.n fun w=>g (v,true) (w,false)+g (v,true) (w,true))=sm W.n fun v=>sm W.n fun w=>(g (v,false) (w,false)+g (v,false) (w,true))+(g (v,true) (w,false)+g (v,true) (w,true)):=fun g=>Ug fun v _=>MP.symm
 rw[e,e (fun q p=>f p q),È];exact Ug fun w _=>Ug fun v _=>by lia
def yW {f:Pt->Int}:sp W (fun q=>-f q)=-sp W f:=by unfold sp;rw[<- wY];exact Ug fun i _=>by dsimp only;lia
def Iu {f:Pt->Int}(h:∀ q,q.1<W.n->f q=0):sp W f=0:=Ja fun i hi=>by rw[h (i,false) hi,h (i,true) hi];rfl
structure Nu (W:Wb)(c:Pt->Pt->Int)(R:Pt->Bool):Prop where
 s:R (src W)=true
 t:R (YX W)=false
 cl:∀ p q,R p=true->0<c p q->R q=true
def Yd (R:Pt->Bool)(v:Nat):Bool:=R (v,false)&&!R (v,true)
def fH (ok:Zt W)(h:Zz W c k){R:Pt->Bool}(hR:Nu W c R)(n2:2<=W.n)(v:Nat)(hv:v<W.n) :
  (sp W fun q=>if R (v,false)=true/\R q=false then Ze W (v,false) q-c (v,false) q else 0)+(sp W fun q=>if R (v,true)=true/\R q=false then Ze W (v,true) q-c (v,true) q else 0)=if Yd R v=true then 1 else 0:=by
 have z:∀ p q,R p=true->R q=false->c p q=0:=fun p q hp hq=>by
  have:=h.nn p q;by_cases g:0<c p q
  ·rw[hR.cl p q hp g]at hq;cases hq
  ·lia
 have e2:(sp W fun q=>if R (v,true)=true/\R q=false then Ze W (v,true) q-c (v,true) q else 0)=0:=Iu fun q hq=>by
  by_cases g:R (v,true)=true/\R q=false
  ·rw[if_pos g,z _ _ g.1 g.2];obtain⟨w,s⟩:=q;cases s with
   |true=>rw[J7];rfl
   |false =>
    rw[U6];by_cases ha:W.adj v w=true
    ·have ne:v≠w:=fun e=>by rw[e,ok.irr]at ha;cases ha
     have e:=Jq h ne;have l:arc c v w<=1:=GQ ok h hv hq;rw[z _ _ g.1 g.2,U6,if_pos ha]at e;lia
    ·rw[if_neg ha];rfl
  ·rw[if_neg g]
 rw[e2,KH (b:=(v,true)) hv fun q _ hq=>?_]
 ·unfold Yd;by_cases g:R (v,false)=true/\R (v,true)=false
  ·have h1:v≠W.s:=fun e=>by
    have:=hR.s;unfold src at this;rw[<- e,g.2]at this;cases this
   have h2:v≠W.t:=fun e=>by have:=hR.t;unfold YX at this;rw[<- e,g.1]at this;cases this
   rw[if_pos g,z _ _ g.1 g.2,if_pos (by rw[g.1,g.2];rfl),Sy,if_pos ⟨rfl,h1,h2,hv⟩];rfl
  ·have h1:¬ (R (v,false)&&!R (v,true))=true:=fun e=>g (by
    rw[qv,Bool.not_eq_true']at e;exact e)
   rw[if_neg g,if_neg h1];rfl
 ·by_cases g:R (v,false)=true/\R q=false
  ·rw[if_pos g,z _ _ g.1 g.2];obtain⟨w,s⟩:=q;cases s with
   |false=>rw[Kf];rfl
   |true=>rw[Sy,if_neg (fun e=>hq (by rw[e.1]))];rfl
  ·rw[if_neg g]
def keepers (ok:Zt W)(h:Zz W c k){R:Pt->Bool}(hR:Nu W c R):(((List.range W.n).filter (Yd R)).length:Int)=k:=by
 have n2:2<=W.n:=by have:=ok.s;have:=ok.t;have:=ok.st;lia
 rw[<- xK]
 have a1:(sp W fun p=>if R p=true then W0 W c p else 0)=k:=by
  rw[KH (b:=src W) ok.s fun p g hp=>?_,if_pos hR.s,h.cs _ ok.s,if_pos rfl,if_neg (by unfold src YX;simp)]
  ·lia
  ·by_cases r:R p=true
   ·rw[if_pos r,h.cs p g,if_neg hp,if_neg (fun e=>by rw[e,hR.t]at r;cases r)];rfl
   ·rw[if_neg r]
 obtain⟨F,hF⟩:∃ F:Pt->Pt->Int,F=fun p q=>Ze W p q-c p q:=⟨_,rfl⟩
 have anti:∀ p q,F q p=-F p q:=fun p q=>by rw[hF];have:=h.an p q;dsimp only;lia
 have a2:(sp W fun p=>if R p=true then W0 W c p else 0)=(sp W fun p=>sp W fun q=>if R p=true/\R q=true then F p q else 0)+sp W fun p=>sp W fun q=>if R p=true/\R q=false then F p q else 0:=by
  rw[<- Ci];refine Lx fun p=>?_
  rw[<- Ci];by_cases r:R p=true
  ·rw[if_pos r];unfold W0;refine Lx fun q=>?_
   rw[hF];cases e:R q with
   |true=>rw[if_pos ⟨r,rfl⟩,if_neg (fun z=>by cases z.2)];dsimp only;lia
   |false=>rw[if_neg (fun z=>by cases z.2),if_pos ⟨r,rfl⟩];dsimp only;lia
  ·rw[if_neg r,Iu fun q _=>?_];rw[if_neg (fun z=>r z.1),if_neg (fun z=>r z.1)];rfl
 have a3:(sp W fun p=>sp W fun q=>if R p=true/\R q=true then F p q else 0)=0:=by
  have e:(sp W fun p=>sp W fun q=>if R p=true/\R q=true then F p q else 0)=-(sp W fun p=>sp W fun q=>if R p=true/\R q=true then F p q else 0):=by
   conv=>lhs;rw[iy]
   rw[<- yW];refine Lx fun q=>?_
   rw[<- yW];refine Lx fun p=>?_
   by_cases g:R p=true/\R q=true
   ·rw[if_pos g,if_pos ⟨g.2,g.1⟩,anti q p]
   ·rw[if_neg g,if_neg (fun z=>g ⟨z.2,z.1⟩)];rfl
  lia
 rw[a3,Int.zero_add,a1]at a2;rw[a2];unfold sp;refine Ug fun v hv=>?_
 rw[<- fH ok h hR n2 v hv,hF];rfl
def zoh (ok:Zt W)(h:Zz W c k){R:Pt->Bool}(hR:Nu W c R)(hv:R (v,true)=true)(ha:W.adj v w=true):R (w,false)=true/\w≠W.t/\(Yd R w=false->R (w,true)=true):=by
 have n2:2<=W.n:=by have:=ok.s;have:=ok.t;have:=ok.st;lia
 obtain⟨l1,l2⟩:=ok.lt _ _ ha;have ne:v≠w:=fun e=>by rw[e,ok.irr]at ha;cases ha
 have e:=Jq h ne;have l:=GQ ok h l1 l2;rw[U6,if_pos ha]at e;have r:R (w,false)=true:=hR.cl _ _ hv (by lia);refine⟨r,fun z=>?_,fun k'=>?_⟩
 ·have:=hR.t;unfold YX at this;rw[<- z,r]at this;cases this
 ·unfold Yd at k';rw[r,Bool.true_and]at k';cases e2:R (w,true)with
  |true=>rfl
  |false=>rw[e2]at k';cases k'
def ao (h:Nu W c R):Yd R W.s=false/\Yd R W.t=false:=by have h1:=h.s;have h2:=h.t;unfold src at h1;unfold YX at h2;unfold Yd;rw[h1,h2];exact⟨by simp,rfl⟩
structure XQ (W:Wb)(c:Pt->Pt->Int)(vs:List Nat):Prop where
 hd:vs[0]?=some W.s
 ch:∀ (i a b:Nat),vs[i]?=some a->vs[i+1]?=some b->0<arc c a b
 nt:∀ (i a:Nat),vs[i]?=some a->i+1<vs.length->a≠W.t
def XQ.same (ok:Zt W)(h:Zz W c k)(A:XQ W c vs)(B:XQ W c ws):∀ (i j v:Nat),vs[i]?=some v->ws[j]?=some v->v≠W.t->i=j/\∀ m,m<=i->vs[m]?=ws[m]?:=by
 intro i
 induction i with
 |zero =>
  intro j v hi hj nt;have ev:v=W.s:=by rw[A.hd]at hi;exact(qF hi).symm
  cases j with
  |zero=>exact⟨rfl,fun m hm=>by rw[show m=0 by lia,A.hd,B.hd]⟩
  |succ j =>
   have lj:j<ws.length:=by
    rcases qW j ws.length with g|g
    ·exact g
    ·rw[qB (by lia)]at hj;cases hj
   have:=B.ch j _ v (qb lj) hj;rw[ev]at this;exact absurd this (Dv ok h _)
 |succ i ih =>
  intro j v hi hj nt
  have li:i+1<vs.length:=by
   rcases qW (i+1) vs.length with g|g
   ·exact g
   ·rw[qB g]at hi;cases hi
  have gi:vs[i]?=some (vs[i]'(by lia)):=qb (by lia);have a1:=A.ch i _ v gi hi;cases j with
  |zero =>
   have ev:v=W.s:=by rw[B.hd]at hj;exact(qF hj).symm
   rw[ev]at a1;exact absurd a1 (Dv ok h _)
  |succ j =>
   have lj:j+1<ws.length:=by
    rcases qW (j+1) ws.length with g|g
    ·exact g
    ·rw[qB g]at hj;cases hj
   have gj:ws[j]?=some (ws[j]'(by lia)):=qb (by lia);have a2:=B.ch j _ v gj hj;have e:=ľ ok h nt a1 a2;obtain⟨e1,e2⟩:=ih j _ gi (by rw[gj,e]) (A.nt i _ gi li);refine⟨by lia,fun m hm=>?_⟩;by_cases g:m<=i
   ·exact e2 m g
   ·rw[show m=i+1 by lia,hi,e1,hj]
def XQ.nodup (ok:Zt W)(h:Zz W c k)(A:XQ W c vs):vs.Nodup:=by
 refine RJ.mpr fun i j hi hj l e=>?_
 have gi:vs[i]?=some vs[i]:=qb hi;have gj:vs[j]?=some vs[i]:=by rw[e];exact qb hj
 have:=(A.same ok h A i j _ gi gj (A.nt i _ gi (by lia))).1;lia
theorem XQ.lt (ok:Zt W)(h:Zz W c k)(A:XQ W c vs):∀ v∈vs,v<W.n:=by
 intro v hv;obtain⟨i,hi⟩:=Td.mp hv;cases i with
 |zero=>rw[A.hd]at hi;cases hi;exact ok.s
 |succ i =>
  have li:i<vs.length:=by
   rcases qW i vs.length with g|g
   ·exact g
   ·rw[qB (by lia)]at hi;cases hi
  exact(ok.lt _ _ (RK ok h (A.ch i _ v (qb li) hi)).1).2
def XQ.apart (ok:Zt W)(h:Zz W c k)(A:XQ W c vs)(B:XQ W c ws)(ne:vs[1]?≠ws[1]?){v:Nat}(hv:v∈vs)(hw:v∈ws):v=W.s\/v=W.t:=by
 by_cases nt:v=W.t
 ·exact .inr nt
 ·obtain⟨i,hi⟩:=Td.mp hv;obtain⟨j,hj⟩:=Td.mp hw;obtain⟨_,e⟩:=A.same ok h B i j v hi hj nt;cases i with
  |zero=>rw[A.hd]at hi;cases hi;exact .inl rfl
  |succ i=>exact absurd (e 1 (by lia)) ne
def XQ.snoc (A:XQ W c vs){a b:Nat}(hl:vs[vs.length-1]?=some a)(na:a≠W.t)(p:0<arc c a b):XQ W c (vs++[b]):=by
 have pos:0<vs.length:=by
  rcases Nat.eq_zero_or_pos vs.length with g|g
  ·rw[qB (by lia)]at hl;cases hl
  ·exact g
 refine⟨by rw[qg pos];exact A.hd,fun i x y hx hy=>?_,fun i x hx hi=>?_⟩
 ·by_cases g:i+1<vs.length
  ·rw[qg (by lia)]at hx;rw[qg g]at hy;exact A.ch i x y hx hy
  ·have l:i+1<(vs++[b]).length:=by
    rcases qW (i+1) (vs++[b]).length with g|g
    ·exact g
    ·rw[qB g]at hy;cases hy
   have e:i+1=vs.length:=by rw[qf,qP]at l;lia
   rw[e,qe (qh _),Yp]at hy;have ey:b=y:=by simpa using hy
   rw[qg (by lia),show i=vs.length-1 by lia,hl]at hx;cases hx;rw[<- ey];exact p
 ·rw[qf,qP]at hi;rw[qg (by lia)]at hx;by_cases g:i+1<vs.length
  ·exact A.nt i x hx g
  ·rw[show i=vs.length-1 by lia,hl]at hx;cases hx;exact na
structure Bf (c:Pt->Pt->Int)(st:Pt)(fo:List (Pt×Option Pt))(wt:List Pt)(dn:Pt->Pt->Prop):Prop where
 hd:fo[0]?=some (st,none)
 nd:(fo.map (·.1)).Nodup
 pr:∀ (i:Nat) (p:Pt) (o:Option Pt),fo[i]?=some (p,o)->i≠0->∃ (j:Nat) (q:Pt) (o':Option Pt),j<i/\o=some q/\fo[j]?=some (q,o')/\0<c q p
 wn:wt.Nodup
 wf:∀ p∈wt,p∈fo.map (·.1)
 cl:∀ p∈fo.map (·.1),p∉wt->∀ q,dn p q->0<c p q->q∈fo.map (·.1)
def Bf.start {c:Pt->Pt->Int}{st:Pt}{dn:Pt->Pt->Prop}:Bf c st [(st,none)] [st] dn:=by
 refine⟨rfl,by simp,fun i p o h hi=>?_,by simp,fun p hp=>hp,fun p hp hn=>absurd hp hn⟩;cases i with
 |zero=>exact absurd rfl hi
 |succ i=>simp at h
def Bf.pop {st:Pt}{wt:List Pt}{dn:Pt->Pt->Prop}(B:Bf c st fo (p::wt) dn):Bf c st fo wt (fun a q=>a≠p/\dn a q)/\p∈fo.map (·.1)/\p∉wt:=by
 obtain⟨n1,n2⟩:=V4.mp B.wn;refine⟨⟨B.hd,B.nd,B.pr,n2,fun a ha=>B.wf a (qi _ ha),fun a ha hn q hd hc=>?_⟩,B.wf p (by simp),n1⟩;refine B.cl a ha (fun z=>?_) q hd.2 hc;rcases qu.mp z with z|z
 ·exact hd.1 z
 ·exact hn z
def Bf.add {st p q:Pt}{dn:Pt->Pt->Prop}(B:Bf c st fo wt dn)(hp:p∈fo.map (·.1))(hq:q∉fo.map (·.1))(hc:0<c p q):Bf c st (fo++[(q,some p)]) (wt++[q]) dn:=by
 have l0:0<fo.length:=by
  rcases Nat.eq_zero_or_pos fo.length with g|g
  ·have:=B.hd;rw[qB (by lia)]at this;cases this
  ·exact g
 have up:∀ {x:Pt},x∈fo.map (·.1)->x∈(fo++[(q,some p)]).map (·.1):=fun {x} hx=>by rw[qD];exact VR _ hx
 refine⟨by rw[qg l0];exact B.hd,?_,fun i a o h hi=>?_,?_,fun a ha=>?_,fun a ha hn b hd hc'=>?_⟩
 ·rw[qD,W2];refine⟨B.nd,by simp,fun x hx y hy e=>hq ?_⟩;have:y=q:=by simpa using hy
  rw[<- this,<- e];exact hx
 ·by_cases g:i<fo.length
  ·rw[qg g]at h;obtain⟨j,u,o',l,e,hj,hc'⟩:=B.pr i a o h hi;exact⟨j,u,o',l,e,by rw[qg (by lia)];exact hj,hc'⟩
  ·have l:i<(fo++[(q,some p)]).length:=by
    rcases qW i (fo++[(q,some p)]).length with g|g
    ·exact g
    ·rw[qB g]at h;cases h
   have e:i=fo.length:=by rw[qf,qP]at l;lia
   rw[e,qe (qh _),Yp]at h;have h':(q,some p)=(a,o):=by simpa using h
   obtain⟨rfl,rfl⟩:=V1 h';obtain⟨⟨p',o'⟩,hm,rfl⟩:=qw.mp hp;obtain⟨j,hj⟩:=Td.mp hm
   have lj:j<fo.length:=by
    rcases qW j fo.length with g|g
    ·exact g
    ·rw[qB g]at hj;cases hj
   exact⟨j,p',o',by lia,rfl,by rw[qg lj];exact hj,hc⟩
 ·rw[W2];refine⟨B.wn,by simp,fun x hx y hy e=>hq ?_⟩;have:y=q:=by simpa using hy
  rw[<- this,<- e];exact B.wf x hx
 ·rcases qC.mp ha with ha|ha
  ·exact up (B.wf a ha)
  ·have:a=q:=by simpa using ha
   rw[this,qD];exact qL _ (by simp)
 ·have hn':a∉wt:=fun z=>hn (VR _ z)
  have ha':a∈fo.map (·.1):=by
   rw[qD]at ha;rcases qC.mp ha with ha|ha
   ·exact ha
   ·have:a=q:=by simpa using ha
    exact absurd (qL _ (by rw[this];simp)) hn
  exact up (B.cl a ha' hn' b hd hc')
structure Qu (W:Wb)(c c':Pt->Pt->Int)(k:Int)(fo:List (Pt×Option Pt))(i:Nat)(r:Pt)(o:Option Pt):Prop where
 p:RL W c' k r
 at':fo[i]?=some (r,o)
 kp:∀ p q,(∀ (j:Nat) o,fo[j]?=some (p,o)->j<=i)->(∀ (j:Nat) o,fo[j]?=some (q,o)->j<=i)->c' p q=c p q
def HJ {fo:List (Pt×Option Pt)}(nd:(fo.map (·.1)).Nodup){i j:Nat}{p:Pt}{o o':Option Pt}(hi:fo[i]?=some (p,o))(hj:fo[j]?=some (p,o')):i=j:=by
 have hi':(fo.map (·.1))[i]?=some p:=by rw[qj,hi];rfl
 have hj':(fo.map (·.1))[j]?=some p:=by rw[qj,hj];rfl
 have li:i<(fo.map (·.1)).length:=by
  rcases qW i (fo.map (·.1)).length with g|g
  ·exact g
  ·rw[qB g]at hi';cases hi'
 have lj:j<(fo.map (·.1)).length:=by
  rcases qW j (fo.map (·.1)).length with g|g
  ·exact g
  ·rw[qB g]at hj';cases hj'
 rw[qb li]at hi';rw[qb lj]at hj';exact(Q8 nd).mp (qF (hi'.trans hj'.symm))
theorem Qu.step {st a:Pt}{dn:Pt->Pt->Prop}(B:Bf c st fo wt dn)(T:Qu W c c' k fo i r (some a))(lt:∀ p∈fo.map (·.1),p.1<W.n):∃ (j:Nat) (o:Option Pt),j<i/\a≠r/\c' a r=c a r/\0<c a r/\Qu W c (tk c' a r) k fo j a o:=by
 have i0:i≠0:=fun e=>by have:=B.hd;rw[<- e,T.at']at this;cases this
 obtain⟨j,q,o',l,e,hj,hc⟩:=B.pr i r _ T.at' i0;cases e;have mem:∀ {i:Nat} {p:Pt} {o:Option Pt},fo[i]?=some (p,o)->p∈fo.map (·.1):=fun h=>qw.mpr ⟨_,qc h,rfl⟩
 have ne:a≠r:=fun e=>by rw[e]at hj;have:=HJ B.nd hj T.at';lia
 have ec:c' a r=c a r:=T.kp a r (fun m o h=>by have:=HJ B.nd h hj;lia) (fun m o h=>by have:=HJ B.nd h T.at';lia);refine⟨j,o',l,ne,ec,hc,T.p.step (lt _ (mem hj)) (lt _ (mem T.at')) ne (by rw[ec];exact hc),hj,fun p q hp hq=>?_⟩
 have hr:∀ {x:Pt},(∀ (m:Nat) o,fo[m]?=some (x,o)->m<=j)->x≠r:=fun hx e=>by have:=hx i _ (e▸T.at');lia
 unfold tk;rw[if_neg (fun z=>hr hq z.2),if_neg (fun z=>hr hp z.1)];exact T.kp p q (fun m o h=>by have:=hp m o h;lia) (fun m o h=>by have:=hq m o h;lia)
def Qu.last {st:Pt}{dn:Pt->Pt->Prop}(B:Bf c st fo wt dn)(T:Qu W c c' k fo i r none):r=st:=by
 by_cases e:i=0
 ·have:=T.at';rw[e,B.hd]at this;cases this;rfl
 ·obtain⟨j,q,o',l,e',_⟩:=B.pr i r _ T.at' e;cases e'
def Ş (p q:Pt):0<=Ze W p q:=by
  obtain⟨v,s⟩:=p;obtain⟨w,r⟩:=q;cases s<;>cases r
  . exact TQ _
  . rw[Sy];by_cases g:v=w/\v≠W.s/\v≠W.t/\v<W.n
    . rw[if_pos g];decide
    . rw[if_neg g];exact TQ _
  . rw[U6];by_cases g:W.adj v w=true
    . rw[if_pos g];lia
    . rw[if_neg g];exact TQ _
  . exact TQ _
def Zz.zero:Zz W (Ze W) 0:=by
 refine⟨Ş,fun _ _=>rfl,fun p _=>?_⟩;rw[show W0 W (Ze W) p=0 from Iu fun q _=>Int.sub_self _];by_cases e1:p=src W
 ·rw[if_pos e1];by_cases e2:p=YX W
  ·rw[if_pos e2];rfl
  ·rw[if_neg e2];rfl
 ·rw[if_neg e1];by_cases e2:p=YX W
  ·rw[if_pos e2];rfl
  ·rw[if_neg e2];rfl
def Zz.few (ok:Zt W)(h:Zz W c k):0<=k/\k<=W.n:=by have e:=begins ok h;have l:=Rh (fun b=>decide (0<arc c W.s b)) (List.range W.n);rw[Vu]at l;lia
def Bf.cls (B:Bf c (src W) fo [] fun _ _=>True)(ng:YX W∉fo.map (·.1)):Nu W c fun p=>decide (p∈fo.map (·.1)):=by refine⟨decide_eq_true (qw.mpr ⟨_,qc B.hd,rfl⟩),decide_eq_false ng,fun p q hp hc=>decide_eq_true (B.cl p (of_decide_eq_true hp) (by simp) q True.intro hc)⟩
end
abbrev SK:=Sum Int Str
def Z5 (zs:List Str)(i:Nat):Str:=zs.getD i Str.empty
def Ux (b:Bool):Int:=if b=true then 1 else 0
abbrev kp (zs:List Str)(p:Pt):List SK:=[.inr (Z5 zs p.1),.inl (Ux p.2)]
abbrev Zi (zs:List Str)(p:Pt):D:=.tup [.str (Z5 zs p.1),.int (Ux p.2)]
def Ld {zs:List Str}{i:Nat}{z:Str}(h:zs[i]?=some z):Z5 zs i=z:=by unfold Z5;rw[qJ,h];rfl
def Ws {zs:List Str}{i:Nat}(h:i<zs.length):zs[i]?=some (Z5 zs i):=by rw[Ld (qb h)];exact qb h
def Ak {a b:Bool}(h:Ux a=Ux b):a=b:=by cases a<;>cases b<;>first|rfl|cases h
def Yb {zs:List Str}(nd:zs.Nodup){i j:Nat}(hi:i<zs.length)(hj:j<zs.length)(e:Z5 zs i=Z5 zs j):i=j:=TV nd (Ws hi) (by rw[e];exact Ws hj)
def Fx {zs:List Str}(nd:zs.Nodup){p q:Pt}(hp:p.1<zs.length)(hq:q.1<zs.length)(e:kp zs p=kp zs q):p=q:=by obtain⟨e1,e2⟩:=List.cons.inj e;have e3:=Sum.inl.inj (List.cons.inj e2).1;exact Uh (Yb nd hp hq (Sum.inr.inj e1)) (Ak e3)
def Ag {κ:Type}[DecidableEq κ]{Z8:List (κ×D)}{k:κ}{d:D}(h:dval Z8 k=some d):(k,d)∈Z8:=by
 induction Z8 with
 |nil=>cases h
 |cons p Z8 ih =>
  rw[WL]at h;by_cases e:p.1=k
  ·rw[if_pos e]at h;cases h;rw[<- e];exact qN
  ·rw[if_neg e]at h;exact qi _ (ih h)
theorem Uq {α:Type}[DecidableEq α]:∀ {F N:List α},F.Nodup->(∀ x∈F,x∈N)->F.length<=N.length
 |[],_,_,_=>qY _
 |x::F,N,nd,h=>by
  obtain⟨n1,n2⟩:=V4.mp nd;have hx:=h x (by simp);have:=Uq (F:=F) (N:=N.erase x) n2 fun y hy=>(List.mem_erase_of_ne (fun e:y=x=>n1 (e▸hy))).mpr (h y (qi _ hy))
  rw[List.length_erase_of_mem hx]at this;have:=Di hx;rw[qT];lia
def Vw (n:Nat):List Pt:=(List.range n).map (fun v=>(v,false))++(List.range n).map fun v=>(v,true)
def Fi (n:Nat):(Vw n).length=2*n:=by unfold Vw;simp;lia
def Ik {n:Nat}{p:Pt}(h:p.1<n):p∈Vw n:=by
 obtain⟨v,s⟩:=p;unfold Vw;cases s with
 |false=>exact VR _ (qw.mpr ⟨v,List.mem_range.mpr h,rfl⟩)
 |true=>exact qL _ (qw.mpr ⟨v,List.mem_range.mpr h,rfl⟩)
def VL (c:Pt->Pt->Int)(p q:Pt)(x:Int):Pt->Pt->Int:=fun p' q'=>if p'=p/\q'=q then x else c p' q'
structure Zn (zs:List Str)(Z8:List (List (List SK)×D))(c:Pt->Pt->Int):Prop where
 nd:(Z8.map (·.1)).Nodup
 ky:∀ x∈Z8,∃ p q:Pt,p.1<zs.length/\q.1<zs.length/\x=([kp zs p,kp zs q],.int (c p q))
 vl:∀ p q:Pt,p.1<zs.length->q.1<zs.length->dval Z8 [kp zs p,kp zs q]=none->c p q=0
section
variable {zs:List Str}{Z8:List (List (List SK)×D)}{c:Pt->Pt->Int}
def rJ (nd:zs.Nodup){p q p' q':Pt}(hp:p.1<zs.length)(hq:q.1<zs.length)(hp':p'.1<zs.length)(hq':q'.1<zs.length)(e:[kp zs p,kp zs q]=[kp zs p',kp zs q']):p=p'/\q=q':=by obtain⟨e1,e2⟩:=List.cons.inj e;exact⟨Fx nd hp hp' e1,Fx nd hq hq' (List.cons.inj e2).1⟩
def Zn.len (R:Zn zs Z8 c)(h12:zs.length<=12):Z8.length<big:=by
 have h:=Uq (N:=(Vw zs.length).flatMap fun p=>(Vw zs.length).map fun q=>[kp zs p,kp zs q]) R.nd fun k hk=>by obtain⟨x,hx,rfl⟩:=qw.mp hk;obtain⟨p,q,hp,hq,rfl⟩:=R.ky x hx;exact List.mem_flatMap.mpr ⟨p,Ik hp,qw.mpr ⟨q,Ik hq,rfl⟩⟩
 rw[qa,List.length_flatMap]at h
 have e:((Vw zs.length).map fun p=>((Vw zs.length).map fun q=>[kp zs p,kp zs q]).length).sum<=24*24:=by
  have:∀ l:List Pt,(l.map fun p=>((Vw zs.length).map fun q=>[kp zs p,kp zs q]).length).sum<=l.length*24:=fun l=>by
   induction l with
   |nil=>exact qh _
   |cons a l ih =>rw[qO,List.sum_cons,qa,Fi,qT,Nat.succ_mul];lia
  have:=this (Vw zs.length);rw[Fi]at this;lia
 unfold big;lia
def Zn.get (R:Zn zs Z8 c)(nd:zs.Nodup){p q:Pt}(hp:p.1<zs.length)(hq:q.1<zs.length):(dval Z8 [kp zs p,kp zs q]=none/\c p q=0)\/dval Z8 [kp zs p,kp zs q]=some (.int (c p q)):=by
 cases e:dval Z8 [kp zs p,kp zs q]with
 |none=>exact .inl ⟨rfl,R.vl p q hp hq e⟩
 |some d =>obtain⟨p',q',hp',hq',e'⟩:=R.ky _ (Ag e);obtain⟨e1,e2⟩:=V1 e';obtain⟨rfl,rfl⟩:=rJ nd hp hq hp' hq' e1;exact .inr (by rw[e2])
def Zn.put (R:Zn zs Z8 c)(nd:zs.Nodup){p q:Pt}(hp:p.1<zs.length)(hq:q.1<zs.length)(x:Int):Zn zs (dput Z8 [kp zs p,kp zs q] (.int x)) (VL c p q x):=by
 have ne:∀ {p' q':Pt},p'.1<zs.length->q'.1<zs.length->[kp zs p',kp zs q']≠[kp zs p,kp zs q]->VL c p q x p' q'=c p' q':=fun {p' q'} _ _ h=>if_neg fun e=>h (by rw[e.1,e.2])
 refine⟨?_,fun y hy=>?_,fun p' q' hp' hq' h=>?_⟩
 ·rw[gJ];by_cases e:(dval Z8 [kp zs p,kp zs q]).isSome=true
  ·rw[if_pos e];exact R.nd
  ·rw[if_neg e,W2];refine⟨R.nd,by simp,fun a ha b hb hab=>e ?_⟩;have hb':b=[kp zs p,kp zs q]:=by simpa using hb
   subst hab hb';obtain⟨y,hy,ey⟩:=qw.mp ha;rw[<- R4,List.any_eq_true];exact⟨y,hy,decide_eq_true ey⟩
 ·unfold dput at hy;split at hy
  ·obtain⟨y',hy',rfl⟩:=qw.mp hy;obtain⟨p',q',hp',hq',rfl⟩:=R.ky y' hy';by_cases e:[kp zs p',kp zs q']=[kp zs p,kp zs q]
   ·exact⟨p,q,hp,hq,by rw[if_pos e,e,show VL c p q x p q=x from if_pos ⟨rfl,rfl⟩]⟩
   ·exact⟨p',q',hp',hq',by rw[if_neg e,ne hp' hq' e]⟩
  ·rename_i hno;rcases qC.mp hy with hy|hy
   ·obtain⟨p',q',hp',hq',e⟩:=R.ky y hy;refine⟨p',q',hp',hq',?_⟩;rw[ne hp' hq' fun e2=>hno (List.any_eq_true.mpr ⟨y,hy,decide_eq_true (by rw[e,e2])⟩)];exact e
   ·have:y=([kp zs p,kp zs q],.int x):=by simpa using hy
    exact⟨p,q,hp,hq,by rw[this,show VL c p q x p q=x from if_pos ⟨rfl,rfl⟩]⟩
 ·rw[bN]at h;by_cases e:[kp zs p,kp zs q]=[kp zs p',kp zs q']
  ·rw[if_pos e]at h;cases h
  ·rw[if_neg e]at h;rw[ne hp' hq' (Ne.symm e)];exact R.vl p' q' hp' hq' h
def Zn.cg {c':Pt->Pt->Int}(R:Zn zs Z8 c)(h:∀ p q:Pt,p.1<zs.length->q.1<zs.length->c p q=c' p q):Zn zs Z8 c' :=⟨R.nd,fun x hx=>by obtain⟨p,q,hp,hq,e⟩:=R.ky x hx;exact⟨p,q,hp,hq,by rw[<- h p q hp hq];exact e⟩,fun p q hp hq e=>by rw[<- h p q hp hq];exact R.vl p q hp hq e⟩
def Zn.nil:Zn zs [] fun _ _=>0:=⟨by simp,fun x hx=>(by cases hx),fun _ _ _ _ _=>rfl⟩
def ů {a b:Pt}(ne:a≠b):VL (VL c a b (c a b-1)) b a (c b a+1)=tk c a b:=by
 funext p q;unfold VL tk;by_cases h1:p=a/\q=b
 ·rw[if_neg (fun z=>ne (h1.1.symm.trans z.1)),if_pos h1,if_pos h1]
 ·by_cases h2:p=b/\q=a
  ·rw[if_pos h2,if_neg h1,if_pos h2]
  ·rw[if_neg h2,if_neg h1,if_neg h1,if_neg h2]
def O9 {S T:Z7}{c c':Cell}:(S++c::T).set S.length c'=S++c'::T:=by simp
variable {S:Z7}{n e:Nat}
def Zn.puts (R:Zn zs Z8 c)(nd:zs.Nodup)(h12:zs.length<=12)(hn:S[n]?=some (.dn Z8 e)){p q:Pt}(hp:p.1<zs.length)(hq:q.1<zs.length){x:Int}{P:Z7->Prop}
  (k:∀ kvs' e',Zn zs kvs' (VL c p q x)->Put P S n (.dn kvs' e')):QH S (.ref n) (.tup [Zi zs p,Zi zs q]) (.int x) P :=
 QH.n (ks:=[kp zs p,kp zs q]) hn (R.len h12) fun e'=>k _ e' (R.put nd hp hq x)
def Zn.gets (R:Zn zs Z8 c)(nd:zs.Nodup)(hn:S[n]?=some (.dn Z8 e)){p q:Pt}(hp:p.1<zs.length)(hq:q.1<zs.length):∃ o,Zj S (.ref n) (.tup [Zi zs p,Zi zs q]) o/\o.getD (.int 0)=.int (c p q)/\(c p q≠0->o=some (.int (c p q))):=by
 refine⟨_,Zj.n (ks:=[kp zs p,kp zs q]) hn rfl,?_⟩;rcases R.get nd hp hq with⟨h1,h2⟩|h
 ·rw[h1,h2];exact⟨rfl,fun z=>absurd rfl z⟩
 ·rw[h];exact⟨rfl,fun _=>rfl⟩
end
def Ą {zs:List Str}(nd:zs.Nodup){p q:Pt}(hp:p.1<zs.length)(hq:q.1<zs.length):eqv (Zi zs p) (Zi zs q)=decide (p=q):=by
 show((Z5 zs p.1==Z5 zs q.1)&&(decide (Ux p.2=Ux q.2)&&true))=_;rw[Bool.and_true];by_cases h:p=q
 ·subst h;simp
 ·rw[decide_eq_false h];by_cases h1:Z5 zs p.1=Z5 zs q.1
  ·have e1:=Yb nd hp hq h1;have:Ux p.2≠Ux q.2:=fun z=>h (Uh e1 (Ak z))
   rw[decide_eq_false this,SQ]
  ·rw[show(Z5 zs p.1==Z5 zs q.1)=false from beq_eq_false_iff_ne.mpr h1];rfl
def Ba {zs:List Str}(fz:∀ z∈zs,fl 20 (.str z)=true){p:Pt}(hp:p.1<zs.length):fl 20 (Zi zs p)=true:=by have:=fz _ (qc (Ws hp));show([D.str (Z5 zs p.1),D.int (Ux p.2)]).all (fl 19)=true;simp only[Wg,List.all_nil,Bool.and_true];show(fl 19 (.str (Z5 zs p.1))&&true)=true;rw[Bool.and_true];exact this
def zs9 {zs:List Str}(nd:zs.Nodup)(fz:∀ z∈zs,fl 20 (.str z)=true){S:Z7}{Q:DK}{p q:Pt}(hp:p.1<zs.length)(hq:q.1<zs.length)(k:Q (.bl (decide (p=q))) S):oEq (Zi zs p) (Zi zs q) S Q :=⟨_,.inl ⟨Ba fz hp,Ba fz hq,rfl⟩,by rw[Ą nd hp hq];exact k⟩
def fk (zs:List Str)(x:Pt×Option Pt):List SK×D:=(kp zs x.1,match x.2 with|none=>.non|some q=>Zi zs q)
section
variable {zs:List Str}{fo:List (Pt×Option Pt)}{S:Z7}{n:Nat}
theorem U7 (nd:zs.Nodup){p:Pt}(hp:p.1<zs.length):∀ {fo:List (Pt×Option Pt)},(∀ x∈fo.map (·.1),x.1<zs.length)->(fo.map (·.1)).Nodup->∀ o:Option Pt,((p,o)∈fo->dval (fo.map (fk zs)) (kp zs p)=some (fk zs (p,o)).2)/\(p∉fo.map (·.1)->dval (fo.map (fk zs)) (kp zs p)=none)
 |[],_,_,o=>⟨fun h=>(by cases h),fun _=>rfl⟩
 |x::fo,lt,n1,o=>by
  obtain⟨n2,n3⟩:=V4.mp n1;have ih:=U7 nd hp (fo:=fo) (fun y hy=>lt y (qi _ hy)) n3 o;rw[qO,WL];by_cases e:x.1=p
  ·subst e;refine⟨fun h=>?_,fun h=>absurd (qN) h⟩;rw[if_pos (show(fk zs x).1=kp zs x.1 from rfl)];rcases qu.mp h with h|h
   ·rw[<- h]
   ·exact absurd (qw.mpr ⟨_,h,rfl⟩) n2
  ·have e2:¬ (fk zs x).1=kp zs p:=fun z=>e (Fx nd (lt _ qN) hp z)
   rw[if_neg e2];refine⟨fun h=>ih.1 ?_,fun h=>ih.2 fun z=>h (qi _ z)⟩;rcases qu.mp h with h|h
   ·exact absurd (by rw[<- h]) e
   ·exact h
def lK (nd:zs.Nodup){p q:Pt}(hp:p.1<zs.length)(lt:∀ x∈fo.map (·.1),x.1<zs.length)(n1:(fo.map (·.1)).Nodup)(h:p∉fo.map (·.1)):dput (fo.map (fk zs)) (kp zs p) (Zi zs q)=(fo++[(p,some q)]).map (fk zs):=by unfold dput;rw[R4,(U7 nd hp lt n1 none).2 h,if_neg (by decide),qD];rfl
def G5 {st:Pt}{dn:Pt->Pt->Prop}(B:Bf c st fo wt dn)(lt:∀ x∈fo.map (·.1),x.1<zs.length):fo.length<=2*zs.length:=by
 have:=Uq B.nd fun x hx=>Ik (lt x hx)
 rw[qa,Fi]at this;exact this
def Bf.re {st:Pt}{dn dn':Pt->Pt->Prop}(B:Bf c st fo wt dn)(h:∀ a q,dn' a q->0<c a q->dn a q\/q∈fo.map (·.1)):Bf c st fo wt dn' :=⟨B.hd,B.nd,B.pr,B.wn,B.wf,fun a ha hn q hd hc=>(h a q hd hc).elim (fun z=>B.cl a ha hn q z hc) id⟩
def Bf.sub {st:Pt}(A:Bf c st fo [] fun _ _=>True)(B:Bf c st fo' [] fun _ _=>True):∀ (i:Nat) p o,fo[i]?=some (p,o)->p∈fo'.map (·.1):=by
 intro i
 induction i using Nat.strongRecOn with
 |ind i ih =>
  intro p o h;by_cases i0:i=0
  ·subst i0;rw[A.hd]at h;cases h;exact qw.mpr ⟨_,qc B.hd,rfl⟩
  ·obtain⟨j,q,o',l,_,hj,hc⟩:=A.pr i p o h i0;exact B.cl q (ih j l q o' hj) (by simp) p True.intro hc
def Bf.same {st:Pt}(A:Bf c st fo [] fun _ _=>True)(B:Bf c st fo' [] fun _ _=>True)(p:Pt):p∈fo.map (·.1)↔p∈fo'.map (·.1):=by
 have one:∀ {fo fo':List (Pt×Option Pt)},Bf c st fo [] (fun _ _=>True)->Bf c st fo' [] (fun _ _=>True)->p∈fo.map (·.1)->p∈fo'.map (·.1):=fun {fo fo'} A B h=>by obtain⟨⟨p',o⟩,hm,rfl⟩:=qw.mp h;obtain⟨i,hi⟩:=Td.mp hm;exact A.sub B i _ o hi
 exact⟨one A B,one B A⟩
end
def Zz.rng {k:Int}(ok:Zt W)(h:Zz W c k){p q:Pt}(hc:0<c p q):p.1<W.n/\q.1<W.n:=by
  have e:=h.an p q;have n1:=h.nn q p
  have pos:∀ p q:Pt,0<Ze W p q->p.1<W.n/\q.1<W.n:=fun p q z=>by
    obtain⟨v,s⟩:=p;obtain⟨w,t⟩:=q;cases s<;>cases t
    . exact absurd z (Qf 0)
    . rw[Sy]at z;split at z
      . rename_i g;exact⟨g.2.2.2,g.1▸g.2.2.2⟩
      . exact absurd z (Qf 0)
    . rw[U6]at z;split at z
      . rename_i g;exact ok.lt _ _ g
      . exact absurd z (Qf 0)
    . exact absurd z (Qf 0)
  by_cases g:0<Ze W p q
  . exact pos p q g
  . obtain⟨a,b⟩:=pos q p (by lia);exact⟨b,a⟩
noncomputable def ZG (V:Vl) (h:Int) (s t:Nat):Wb:={ n:=(V.bs.map (·.1)).length,adj:=fun a b=>decide (a≠b/\a<(V.bs.map (·.1)).length/\b<(V.bs.map (·.1)).length)&&Q9 V h (Z5 (V.bs.map (·.1)) a,Z5 (V.bs.map (·.1)) b),s:=s,t:=t }
def UW {V:Vl}{h:Int}{s t a b:Nat}:(ZG V h s t).adj a b=true↔a≠b/\a<(V.bs.map (·.1)).length/\b<(V.bs.map (·.1)).length/\YZ V h (Z5 (V.bs.map (·.1)) a) (Z5 (V.bs.map (·.1)) b):=by show(decide _&&Q9 V h _)=true↔_;rw[qv,decide_eq_true_eq,Lr,and_assoc,and_assoc]
def FJ {V:Vl}{h:Int}{s t:Nat}(hs:s<(V.bs.map (·.1)).length)(ht:t<(V.bs.map (·.1)).length)(no:¬ YZ V h (Z5 (V.bs.map (·.1)) s) (Z5 (V.bs.map (·.1)) t)):Zt (ZG V h s t) where
 irr:=fun a=>by
  cases e:(ZG V h s t).adj a a with
  |false=>rfl
  |true=>exact absurd rfl (UW.mp e).1
 sym:=fun a b=>by rw[Te,UW,UW];exact⟨by rintro⟨a,b,c,d⟩;exact⟨a.symm,c,b,O4 d⟩,by rintro⟨a,b,c,d⟩;exact⟨a.symm,c,b,O4 d⟩⟩
 lt:=fun a b e=>⟨(UW.mp e).2.1,(UW.mp e).2.2.1⟩
 s:=hs
 t:=ht
 st:=fun e=>no (by have e:s=t:=e;subst e;obtain⟨z,hz,ez⟩:=qw.mp (qc (Ws hs));exact⟨z.2,z.2,by rw[<- ez];exact hz,by rw[<- ez];exact hz,.inl rfl⟩)
 na:=by
  cases e:(ZG V h s t).adj (ZG V h s t).s (ZG V h s t).t with
  |false=>rfl
  |true=>exact absurd (UW.mp e).2.2.2 no
def stp (zs:List Str)(c:Pt->Pt->Int)(i:Nat):List Nat:=(List.range zs.length).filter fun j=>decide (0<arc c i j)
def Et (zs:List Str):zs=(List.range zs.length).map (Z5 zs):=by
 refine List.ext_getElem? fun i=>?_
 rw[qj];by_cases h:i<zs.length
 ·rw[List.getElem?_range h,Ws h];rfl
 ·rw[qB (by lia),qB (by rw[Vu];lia)];rfl
open Classical in
noncomputable def Wz (zs:List Str) (c:Pt->Pt->Int) (i:Nat) (z:Str):Bool:=decide (∃ j,j<zs.length/\Z5 zs j=z/\0<arc c i j)
def tR {zs:List Str}(nd:zs.Nodup){c:Pt->Pt->Int}{i j:Nat}(hj:j<zs.length):Wz zs c i (Z5 zs j)=decide (0<arc c i j):=by
 rw[Te];unfold Wz;simp only[decide_eq_true_eq];constructor
 ·rintro⟨k,hk,e,z⟩;rw[<- Yb nd hk hj e];exact z
 ·exact fun z=>⟨j,hj,rfl,z⟩
def Ï {zs:List Str}(nd:zs.Nodup)(c:Pt->Pt->Int)(i:Nat):zs.filter (Wz zs c i)=(stp zs c i).map (Z5 zs):=by
 have e:∀ f:Str->Bool,zs.filter f=((List.range zs.length).filter (f ∘ Z5 zs)).map (Z5 zs):=fun f=>by have:=congrArg (List.filter f) (Et zs);rw[Uy]at this;exact this
 rw[e];unfold stp;rw[Ln fun j hj=>?_];exact tR nd (R9.mp hj)
structure yH (W:Wb)(zs:List Str)(c:Pt->Pt->Int)(rs:List (List Nat)):Prop where
 ln:rs.length=(stp zs c W.s).length
 rd:∀ (i:Nat) us,rs[i]?=some us->XQ W c us/\us[us.length-1]?=some W.t/\us[1]?=(stp zs c W.s)[i]?/\2<=us.length
def Yh (V:Vl)(h:Int)(s t:Nat)(zs:List Str)(rs:List (List Nat))(ks:List Nat):Prop:=∃ (c:Pt->Pt->Int) (k:Int) (fo:List (Pt×Option Pt)),Zz (ZG V h s t) c k/\yH (ZG V h s t) zs c rs/\Bf c (s,true) fo [] (fun _ _=>True)/\(t,false)∉fo.map (·.1)/\ks=(List.range zs.length).filter (Yd fun p=>decide (p∈fo.map (·.1)))
structure Oh (S:Z7)(m n:Nat)(zs:List Str)(rs:List (List Nat))(ks:List Nat)(js:List Nat):Prop where
 r:S[m]?=some (.lst (js.map fun j=>.ref (m+(j+1))))
 k:S[n]?=some (.lst ((ks.map (Z5 zs)).map D.str))
 l:js.length=rs.length
 nd:js.Nodup
 lt:n<m
 at':∀ (i:Nat) j us,js[i]?=some j->rs[i]?=some us->S[m+(j+1)]?=some (.lst ((us.map (Z5 zs)).map D.str))
open Classical in
noncomputable def Rp (zs:List Str) (fo:List (Pt×Option Pt)) (z:Str):Bool:=decide (∃ j,j<zs.length/\Z5 zs j=z/\Yd (fun p=>decide (p∈fo.map (·.1))) j=true)
def pU {zs:List Str}(nd:zs.Nodup){fo:List (Pt×Option Pt)}{j:Nat}(hj:j<zs.length):Rp zs fo (Z5 zs j)=Yd (fun p=>decide (p∈fo.map (·.1))) j:=by
 rw[Te];unfold Rp;rw[decide_eq_true_iff];constructor
 ·rintro⟨k,hk,e,z⟩;rw[<- Yb nd hk hj e];exact z
 ·exact fun z=>⟨j,hj,rfl,z⟩
def bO {zs:List Str}(nd:zs.Nodup)(fo:List (Pt×Option Pt)):zs.filter (Rp zs fo)=((List.range zs.length).filter (Yd fun p=>decide (p∈fo.map (·.1)))).map (Z5 zs):=by
 have e:∀ f:Str->Bool,zs.filter f=((List.range zs.length).filter (f ∘ Z5 zs)).map (Z5 zs):=fun f=>by have:=congrArg (List.filter f) (Et zs);rw[Uy]at this;exact this
 rw[e,Ln fun j hj=>?_];exact pU nd (R9.mp hj)
section
variable {V:Vl}{h:Int}{s t:Nat}{zs:List Str}{rs:List (List Nat)}{ks:List Nat}
def Yh.len (hzs:zs=V.bs.map (·.1))(okW:Zt (ZG V h s t))(A:Yh V h s t zs rs ks):rs.length=ks.length:=by
 obtain⟨c,k,fo,F,R,B,ng,rfl⟩:=A;have nW:(ZG V h s t).n=zs.length:=by rw[hzs];rfl
 have h1:=begins okW F;have h2:=keepers okW F (B.cls ng);rw[nW]at h1 h2;have h3:rs.length=((List.range zs.length).filter fun b=>decide (0<arc c s b)).length:=R.ln;have h1:(((List.range zs.length).filter fun b=>decide (0<arc c s b)).length:Int)=k:=h1;lia
def Yh.idx (hzs:zs=V.bs.map (·.1))(okW:Zt (ZG V h s t))(A:Yh V h s t zs rs ks){i:Nat}{us:List Nat}(hi:rs[i]?=some us):us[0]?=some s/\us[us.length-1]?=some t/\2<=us.length/\us.Nodup/\(∀ u∈us,u<zs.length)/\∀ (k a b:Nat),us[k]?=some a->us[k+1]?=some b->a≠b/\YZ V h (Z5 zs a) (Z5 zs b):=by
 obtain⟨c,k,fo,F,R,B,ng,rfl⟩:=A;have nW:(ZG V h s t).n=zs.length:=by rw[hzs];rfl
 obtain⟨D,e1,e2,l2⟩:=R.rd i us hi;refine⟨D.hd,e1,l2,D.nodup okW F,fun u hu=>nW▸D.lt okW F u hu,fun k a b ha hb=>?_⟩;obtain⟨p,q⟩:=RK okW F (D.ch k a b ha hb);rw[UW,<- hzs]at p;exact⟨q,p.2.2.2⟩
def jN (nd:zs.Nodup){us:List Nat}(n1:us.Nodup)(lt:∀ u∈us,u<zs.length):(us.map (Z5 zs)).Nodup:=by refine List.pairwise_map.mpr (n1.imp_of_mem fun {a b} ha hb hab e=>hab (Yb nd (lt a ha) (lt b hb) e))
def Yh.road (nd:zs.Nodup)(hzs:zs=V.bs.map (·.1))(okW:Zt (ZG V h s t))(A:Yh V h s t zs rs ks){i:Nat}{us:List Nat}(hi:rs[i]?=some us):Js V h (Z5 zs s) (Z5 zs t) (us.map (Z5 zs)):=by
 obtain⟨h0,h1,h2,h3,h4,h5⟩:=A.idx hzs okW hi;refine⟨by rw[qj,h0];rfl,by rw[qa,qj,h1];rfl,jN nd h3 h4,fun u hu=>?_,fun k x y hx hy=>?_⟩
 ·obtain⟨j,hj,rfl⟩:=qw.mp hu;exact hzs▸qc (Ws (h4 j hj))
 ·rw[qj]at hx hy;obtain⟨a,ha,rfl⟩:=qZ.mp hx;obtain⟨b,hb,rfl⟩:=qZ.mp hy;exact(h5 k a b ha hb).2
theorem Yh.apart (okW:Zt (ZG V h s t))(A:Yh V h s t zs rs ks){i j:Nat}{us vs:List Nat}(hi:rs[i]?=some us)(hj:rs[j]?=some vs)(ne:i≠j){u:Nat}(hu:u∈us)(hv:u∈vs):u=s\/u=t:=by
 obtain⟨c,k,fo,F,R,B,ng,rfl⟩:=A;obtain⟨D1,_,e1,l1⟩:=R.rd i us hi;obtain⟨D2,_,e2,_⟩:=R.rd j vs hj;refine D1.apart okW F D2 (fun z=>ne ?_) hu hv;rw[e1,e2]at z;have li:i<(stp zs c s).length:=by have:=zA hi;have:=R.ln;show i<(stp zs c (ZG V h s t).s).length;lia
 have n1:(stp zs c s).Nodup:=(List.nodup_range).filter _;have g1:(stp zs c s)[i]?=some ((stp zs c s)[i]'li):=qb li;have z:(stp zs c s)[i]?=(stp zs c s)[j]?:=z;rw[g1]at z;have lj:j<(stp zs c s).length:=zA z.symm;rw[qb lj]at z;exact(Q8 n1).mp (qF z)
def Yh.ends (okW:Zt (ZG V h s t))(A:Yh V h s t zs rs ks):s∉ks/\t∉ks/\(∀ k∈ks,k<zs.length)/\ks.Nodup:=by
 obtain⟨c,k,fo,F,R,B,ng,rfl⟩:=A;obtain⟨h1,h2⟩:=ao (B.cls (W:=ZG V h s t) ng);refine⟨fun z=>?_,fun z=>?_,fun k hk=>R9.mp (qU.mp hk).1,(List.nodup_range).filter _⟩
 ·have:=(qU.mp z).2;have h1:Yd (fun p=>decide (p∈fo.map (·.1))) s=false:=h1;rw[h1]at this;cases this
 ·have:=(qU.mp z).2;have h2:Yd (fun p=>decide (p∈fo.map (·.1))) t=false:=h2;rw[h2]at this;cases this
def Yh.kflt (nd:zs.Nodup)(A:Yh V h s t zs rs ks):zs.filter (fun z=>decide (z∈ks.map (Z5 zs)))=ks.map (Z5 zs):=by
 obtain⟨c,k,fo,F,R,B,ng,rfl⟩:=A
 have e:∀ f:Str->Bool,zs.filter f=((List.range zs.length).filter (f ∘ Z5 zs)).map (Z5 zs):=fun f=>by have:=congrArg (List.filter f) (Et zs);rw[Uy]at this;exact this
 rw[e,Ln fun j hj=>?_];have hj:=R9.mp hj;rw[Te];show decide _=true↔_;rw[decide_eq_true_iff,qw];constructor
 ·rintro⟨i,hi,e⟩;obtain⟨h1,h2⟩:=qU.mp hi;rw[<- Yb nd (R9.mp h1) hj e];exact h2
 ·exact fun z=>⟨j,qU.mpr ⟨List.mem_range.mpr hj,z⟩,rfl⟩
def Ds (hzs:zs=V.bs.map (·.1)){w:Str}(hw:w∈V.bs.map (·.1)):∃ j,j<zs.length/\Z5 zs j=w:=by rw[<- hzs]at hw;obtain⟨j,hj,e⟩:=qH.mp hw;exact⟨j,hj,Ld (by rw[qb hj,e])⟩
def Yh.cut (nd:zs.Nodup)(hzs:zs=V.bs.map (·.1))(okW:Zt (ZG V h s t))(A:Yh V h s t zs rs ks):¬ Sw V h (ks.map (Z5 zs)) (Z5 zs s) (Z5 zs t):=by
 obtain⟨c,k,fo,F,R,B,ng,rfl⟩:=A;have nW:(ZG V h s t).n=zs.length:=by rw[hzs];rfl
 have hs:s<zs.length:=nW▸okW.s;have ht:t<zs.length:=nW▸okW.t;have hR:=B.cls (W:=ZG V h s t) ng
 have key:∀ w,Sw V h (((List.range zs.length).filter (Yd fun p=>decide (p∈fo.map (·.1)))).map (Z5 zs)) (Z5 zs s) w->∃ j,j<zs.length/\Z5 zs j=w/\j≠t/\decide ((j,true)∈fo.map (·.1))=true:=fun w C=>by
  induction C with
  |refl=>exact⟨s,hs,rfl,okW.st,hR.s⟩
  |@step a b C aD nb ih =>
   obtain⟨j,hj,rfl,nt,rj⟩:=ih;obtain⟨i,hi,rfl⟩:=Ds hzs (R6 aD).2;by_cases e:j=i
   ·subst e;exact⟨j,hj,rfl,nt,rj⟩
   ·have aj:(ZG V h s t).adj j i=true:=UW.mpr ⟨e,hzs▸hj,hzs▸hi,hzs▸aD⟩;obtain⟨r1,r2,r3⟩:=zoh okW F hR rj aj;refine⟨i,hi,rfl,r2,r3 ?_⟩;cases g:Yd (fun p=>decide (p∈fo.map (·.1))) i with
    |false=>rfl
    |true=>exact absurd (qw.mpr ⟨i,qU.mpr ⟨List.mem_range.mpr hi,g⟩,rfl⟩) nb
 intro C;obtain⟨j,hj,e,nt,_⟩:=key _ C;exact nt (Yb nd hj ht e)
end
end Dp
namespace My
open PySem PySem.Spec PyProof.Rows L2
section
variable {prog:Program}{w:World}{A:Around}{E:Value->Shared->Prop}{s:Shared}
end
def uq (n:Nat)(o:Option Int)(d:Nat)(hd:d<=n):HT.sIx n d o<=n:=by
  cases o with
  |none=>exact hd
  |some i =>show(if i<0 then(i+n).toNat else min i.toNat n)<=n;split<;>lia
section
open AutoSeq1 (wpAny_loadPart')
variable {prog:Program}{w:World}{A:Around}{E:Value->Shared->Prop}{s:Shared}
def Ŭ {it t:Addr}{i:Nat}{items:Array Value}{x:Value}{Q:Value->Shared->Prop}(hit:s.heap.IsTupleIter it t i)(ht:s.heap.IsTuple t items)(hx:items[i]?=some x)
  (hQ:∀ h',h'.IsTupleIter it t (i+1)->Heap.SameBut it s.heap h'->Q x { s with heap:=h' }):wpAny (model prog w) A (Builtin.SmallTypes.nextOf (.ref it)) Q E s:=by
 obtain⟨o,ho,hc,hd⟩:=id hit;obtain⟨ol,hol,_,nl,hdl⟩:=ht;unfold Builtin.SmallTypes.nextOf;refine wpAny_bind (wpAny_callSpecial?_slot (name:=Str.ofString "__next__") hit.typeIs F.slot_tuple_iterator_next (wpAny_call_entry F.slot_tuple_iterator_next hit.typeIs F.entry_tuple_iterator_next ?_ (F.args_tuple_iterator_next_1 _)));show wpAny _ _ (field (.ref it) 0 >>= _) _ _ s;refine wpAny_bind (wpAny_field ho hd (x:=.ref t) rfl ?_);show wpAny _ _ (if(Value.ref t==Value.none)=true then _ else _) _ _ s;rw[if_neg (show ¬ ((Value.ref t==Value.none)=true)from qo)];show wpAny _ _ (field (.ref it) 1 >>= _) _ _ s;refine wpAny_bind (wpAny_field ho hd (x:=.int i 0) rfl ?_);show wpAny _ _ (seqItems? (.ref t) >>= _) _ _ s;refine wpAny_bind (wpAny_seqItems hol hdl ?_);simp only[Mv,hx];refine wpAny_bind (wpAny_setField ho hd (by simp) (wpAny_pure ⟨x,rfl,wpAny_pure (hQ _ ?_ (Heap.SameBut.update ..))⟩));exact⟨_,Heap.get?_update_self _ ho (Obj.isFreed_of_fields (Obj.data_mapFields hd _)),(Obj.cls_mapFields ..).trans hc,by rw[Obj.data_mapFields hd];simp[rawInt]⟩
def gO {it t:Addr}{i:Nat}{items:Array Value}{Q:Value->Shared->Prop}(hh:A.handled=none)(hit:s.heap.IsTupleIter it t i)(ht:s.heap.IsTuple t items)(hx:items[i]?=none)
  (hE:∀ h' e,Heap.ExtBut it s.heap h'->(∃ o,h'.get? e=some o/\o.cls=.type "StopIteration")->E (.ref e) { s with heap:=h' }):wpAny (model prog w) A (Builtin.SmallTypes.nextOf (.ref it)) Q E s:=by
 obtain⟨o,ho,hc,hd⟩:=id hit;obtain⟨ol,hol,_,nl,hdl⟩:=ht;unfold Builtin.SmallTypes.nextOf;refine wpAny_bind (wpAny_callSpecial?_slot (name:=Str.ofString "__next__") hit.typeIs F.slot_tuple_iterator_next (wpAny_call_entry F.slot_tuple_iterator_next hit.typeIs F.entry_tuple_iterator_next ?_ (F.args_tuple_iterator_next_1 _)));show wpAny _ _ (field (.ref it) 0 >>= _) _ _ s;refine wpAny_bind (wpAny_field ho hd (x:=.ref t) rfl ?_);show wpAny _ _ (if(Value.ref t==Value.none)=true then _ else _) _ _ s;rw[if_neg (show ¬ ((Value.ref t==Value.none)=true)from qo)];show wpAny _ _ (field (.ref it) 1 >>= _) _ _ s;refine wpAny_bind (wpAny_field ho hd (x:=.int i 0) rfl ?_);show wpAny _ _ (seqItems? (.ref t) >>= _) _ _ s;refine wpAny_bind (wpAny_seqItems hol hdl ?_);simp only[Mv,hx];refine wpAny_bind (wpAny_rule (wpAny_bind (wpAny_setField ho hd (by simp) ?_)));show wpAny _ _ (newExc (.type "StopIteration") [] >>= _) _ _ _;refine wpAny_bind ?_;simp only[newExc,newTuple];refine wpAny_bind (wpAny_newObj_type ?_ (by size_fits));refine wpAny_bind (m:=firstArgMember _ _) (wpAny_of_eq (a:=Value.none) (by first|rfl|(simp only[firstArgMember];rfl)) ?_);refine wpAny_newObj_type ?_ (by size_fits);simp only[raiseNew];refine wpAny_bind (wpAny_handled ?_)
 first|rw[show A.in1.handled=none from hh]|rw[hh]
 refine wpAny_bind (wpAny_pure (wpAny_throw ?_));exact hE _ _ (((Heap.SameBut.update ..).extBut.push _).push _) ⟨_,ql _ rfl,rfl⟩
end
section
variable {X:Cx}
end
def Y7:Bool->Heap->Addr->Addr->Nat->Prop
 |true,h,it,l,k=>h.IsListIter it l k
 |false,h,it,l,k=>h.IsTupleIter it l k
def Yy:Bool->Heap->Addr->Array Value->Prop
 |true,h,l,xs=>h.IsList l xs
 |false,h,l,xs=>h.IsTuple l xs
def Y7.grow {k:Nat}(x:Y7 b h it l k)(e:Heap.ExtBut c h h')(n:it≠c):Y7 b h' it l k:=by
 cases b
 ·exact Heap.IsTupleIter.extBut (show h.IsTupleIter it l k from x) e n
 ·exact Heap.IsListIter.extBut (show h.IsListIter it l k from x) e n
def Yy.grow (x:Yy b h l xs)(e:Heap.ExtBut c h h')(n:l≠c):Yy b h' l xs:=by
 cases b
 ·exact Heap.IsTuple.extBut (show h.IsTuple l xs from x) e n
 ·exact Heap.IsList.extBut (show h.IsList l xs from x) e n
def Y7.obj {k:Nat}(x:Y7 b h it l k):∃ o,h.get? it=some o/\(o.cls=.type "list_iterator"\/o.cls=.type "tuple_iterator")/\∃ vs,o.data=.fields vs:=by
 cases b
 ·obtain⟨o,ho,hc,hd⟩:h.IsTupleIter it l k:=x;exact⟨o,ho,.inr hc,_,hd⟩
 ·obtain⟨o,ho,hc,hd⟩:h.IsListIter it l k:=x;exact⟨o,ho,.inl hc,_,hd⟩
def Y7.at {h':Heap}{k:Nat}(x:Y7 b h it l k)(e:∀ o,h.get? it=some o->h'.get? it=some o):Y7 b h' it l k:=by
 cases b
 ·obtain⟨o,ho,hc,hd⟩:h.IsTupleIter it l k:=x;exact(⟨o,e o ho,hc,hd⟩:h'.IsTupleIter it l k)
 ·obtain⟨o,ho,hc,hd⟩:h.IsListIter it l k:=x;exact(⟨o,e o ho,hc,hd⟩:h'.IsListIter it l k)
def Yy.lt (x:Yy b h l xs):l<h.objs.size:=by
 cases b
 ·obtain⟨o,ho,_⟩:h.IsTuple l xs:=x;exact qA ho
 ·obtain⟨o,ho,_⟩:h.IsList l xs:=x;exact qA ho
section
variable {prog:Program}{w:World}{A:Around}{E:Value->Shared->Prop}{s:Shared}
def Ey {t:Addr}{items:Array Value}{x:Value}{Q:Value->Shared->Prop}(hit:Y7 b s.heap it t i)(ht:Yy b s.heap t items)(hx:items[i]?=some x)(hQ:∀ h',Y7 b h' it t (i+1)->Heap.SameBut it s.heap h'->Q x { s with heap:=h' }):wpAny (model prog w) A (Builtin.SmallTypes.nextOf (.ref it)) Q E s:=by
 cases b
 ·exact Ŭ hit ht hx hQ
 ·exact wpAny_nextOf_list_item hit ht hx hQ
def yD {t:Addr}{items:Array Value}{Q:Value->Shared->Prop}(hh:A.handled=none)(hit:Y7 b s.heap it t i)(ht:Yy b s.heap t items)(hx:items[i]?=none)(hE:∀ h' e,Heap.ExtBut it s.heap h'->(∃ o,h'.get? e=some o/\o.cls=.type "StopIteration")->E (.ref e) { s with heap:=h' }):wpAny (model prog w) A (Builtin.SmallTypes.nextOf (.ref it)) Q E s:=by
 cases b
 ·exact gO hh hit ht hx hE
 ·exact wpAny_nextOf_list_end hh hit ht hx hE
def fV {TI TO:Addr}{k:Nat}{x y:Value}{Q:Option Value->Shared->Prop}(D:ZipApart z TI TO i1 i2 l1 l2)(hz:IsZip s.heap z TI TO .none)(hTI:IsPair s.heap TI (.ref i1) (.ref i2))(hTO:IsPair s.heap TO a b)(h1:Y7 b1 s.heap i1 l1 k)(h2:Y7 b2 s.heap i2 l2 k)(hl1:Yy b1 s.heap l1 xs)(hl2:Yy b2 s.heap l2 ys)(hx:xs[k]?=some x)(hy:ys[k]?=some y)(hQ:∀ h',IsZip h' z TI TO (rawInt s.heap.objs.size)->IsPair h' TO x y->Y7 b1 h' i1 l1 (k+1)->Y7 b2 h' i2 l2 (k+1)->IsPair h' s.heap.objs.size x y ->
   (∀ c o,c≠z->c≠TO->c≠i1->c≠i2->s.heap.get? c=some o->h'.get? c=some o)->Q (some (.ref s.heap.objs.size)) { s with heap:=h' }):wpAny (model prog w) A (pyNext (.ref z)) Q E s:=by
 have hT:s.TypeIs (.ref z) "zip":=⟨_,hz,rfl⟩
 unfold pyNext;refine wpAny_bind (wpAny_attempt (wpAny_callSpecial?_slot (name:=Str.ofString "__next__") hT F.slot_zip_next (wpAny_call_entry F.slot_zip_next hT F.entry_zip_next ?_ (F.args_zip_next_1 _))));show wpAny _ _ (field (.ref z) 2 >>= _) _ _ _;refine wpAny_bind (wpAny_field hz rfl (x:=.bool false) rfl ?_);show wpAny _ _ (field (.ref z) 3 >>= _) _ _ _;refine wpAny_bind (wpAny_field hz rfl (x:=.ref TI) rfl (wpAny_bind (wpAny_seqItems hTI rfl ?_)));show wpAny _ _ (Builtin.SmallTypes.ownedTupleIsFree (.ref z) >>= _) _ _ _;refine wpAny_bind ?_;unfold Builtin.SmallTypes.ownedTupleIsFree;refine wpAny_bind (wpAny_field hz rfl (x:=.none) rfl (wpAny_pure ?_));simp only[if_true];refine wpAny_bind (wpAny_rule (wpAny_bind (wpAny_field hz rfl (x:=.ref TO) rfl (wpAny_bind (wpAny_setField_rec hz (by simp) fun g1 z1 e1=>?_)))))
 replace z1:IsZip g1 z TI TO .ellipsis:=z1
 refine wpAny_bind ?_;simp only[List.zipIdx_cons,List.zipIdx_nil,KC,NK];refine wpAny_bind (wpAny_bind (wpAny_onRaise ?_));show wpAny _ _ (Builtin.SmallTypes.nextOf (.ref i1) >>= _) _ _ _;refine wpAny_bind (Ey (h1.grow e1.extBut D.i1z) (hl1.grow e1.extBut D.l1z) hx fun g2 t1 e2=>wpAny_pure ?_);have p2:IsPair g2 TO a b:=e2.extBut _ _ D.TOi1 (e1.extBut _ _ D.TOz hTO);refine wpAny_bind (wpAny_seqItems p2 rfl (wpAny_bind (wpAny_updateSeq_pair p2 fun g3 p3 e3=>wpAny_bind (wpAny_letGo (wpAny_pure ?_)))))
 replace p3:IsPair g3 TO x b:=p3
 refine wpAny_bind (wpAny_bind (wpAny_onRaise ?_));show wpAny _ _ (Builtin.SmallTypes.nextOf (.ref i2) >>= _) _ _ _;refine wpAny_bind (Ey (((h2.grow e1.extBut D.i2z).grow e2.extBut D.i12.symm).grow e3.extBut D.TOi2.symm) (((hl2.grow e1.extBut D.l2z).grow e2.extBut D.l2i1).grow e3.extBut D.l2TO) hy fun g4 t2 e4=>wpAny_pure ?_);have p4:IsPair g4 TO x b:=e4.extBut _ _ D.TOi2 p3;refine wpAny_bind (wpAny_seqItems p4 rfl (wpAny_bind (wpAny_updateSeq_pair p4 fun g5 p5 e5=>wpAny_bind (wpAny_letGo (wpAny_pure (wpAny_pure ?_))))))
 replace p5:IsPair g5 TO x y:=p5
 refine wpAny_bind (wpAny_seqItems p5 rfl (wpAny_bind (wpAny_newTuple ?_)));have sz:g5.objs.size=s.heap.objs.size:=by rw[e5.1,e4.1,e3.1,e2.1,e1.1]
 have z5:IsZip g5 z TI TO .ellipsis:=e5.extBut _ _ D.TOz.symm (e4.extBut _ _ D.i2z.symm (e3.extBut _ _ D.TOz.symm (e2.extBut _ _ D.i1z.symm z1)));have k5:∀ c o,c≠z->c≠TO->c≠i1->c≠i2->s.heap.get? c=some o->g5.get? c=some o:=fun c o c1 c2 c3 c4 e=>e5.extBut _ _ c2 (e4.extBut _ _ c4 (e3.extBut _ _ c2 (e2.extBut _ _ c3 (e1.extBut _ _ c1 e))))
 have u1:Y7 b1 g5 i1 l1 (k+1):=((t1.grow e3.extBut D.TOi1.symm).grow e4.extBut D.i12).grow e5.extBut D.TOi1.symm;have u2:Y7 b2 g5 i2 l2 (k+1):=t2.grow e5.extBut D.TOi2.symm;have zl:z<g5.objs.size:=qA z5;show wpAny _ _ (Builtin.SmallTypes.ownedTupleHandOut (.ref z) (.ref g5.objs.size) >>= _) _ _ _;refine wpAny_bind ?_;unfold Builtin.SmallTypes.ownedTupleHandOut;have z6:IsZip (g5.push { cls:=.type "tuple",data:=.seq #[x,y] }) z TI TO .ellipsis:=qd _ z5;refine wpAny_bind (wpAny_setField_rec z6 (by simp) fun g7 z7 e7=>?_)
 replace z7:IsZip g7 z TI TO (rawInt g5.objs.size):=z7
 refine wpAny_setField_rec z7 (by simp) fun g8 z8 e8=>?_
 replace z8:IsZip g8 z TI TO (rawInt g5.objs.size):=z8
 have up:∀ c o,c≠z->g5.get? c=some o->g8.get? c=some o:=fun c o c1 e=>e8.extBut _ _ c1 (e7.extBut _ _ c1 (qd _ e))
 have t8:IsPair g8 g5.objs.size x y:=e8.extBut _ _ (Wt zl) (e7.extBut _ _ (Wt zl) (ql _ rfl));rw[sz]at z8 t8;refine wpAny_pure ⟨_,rfl,wpAny_pure ?_⟩;show Q (some (.ref g5.objs.size)) _;rw[sz];exact hQ g8 z8 (up _ _ D.TOz p5) (u1.at fun o e=>up _ o D.i1z e) (u2.at fun o e=>up _ o D.i2z e) t8 fun c o c1 c2 c3 c4 e=>up c o c1 (k5 c o c1 c2 c3 c4 e)
def znx {TI TO:Addr}{k:Nat}{Q:Option Value->Shared->Prop}(hh:A.handled=none)(D:ZipApart z TI TO i1 i2 l1 l2)(hz:IsZip s.heap z TI TO .none)(hTI:IsPair s.heap TI (.ref i1) (.ref i2))(hTO:IsPair s.heap TO a b)(h1:Y7 b1 s.heap i1 l1 k)(h2:Y7 b2 s.heap i2 l2 k)(hl1:Yy b1 s.heap l1 xs)(hl2:Yy b2 s.heap l2 ys)(hend:xs[k]?=none\/ys[k]?=none)(hQ:∀ h',(∀ c o,c≠z->c≠TO->c≠i1->c≠i2->s.heap.get? c=some o->h'.get? c=some o)->Q none { s with heap:=h' }):wpAny (model prog w) A (pyNext (.ref z)) Q E s:=by
 have hT:s.TypeIs (.ref z) "zip":=⟨_,hz,rfl⟩
 unfold pyNext;refine wpAny_bind (wpAny_attempt (wpAny_callSpecial?_slot (name:=Str.ofString "__next__") hT F.slot_zip_next (wpAny_call_entry F.slot_zip_next hT F.entry_zip_next ?_ (F.args_zip_next_1 _))))
 have out:∀ h' e,(∀ c o,c≠z->c≠TO->c≠i1->c≠i2->s.heap.get? c=some o->h'.get? c=some o)->(∃ o,h'.get? e=some o/\o.cls=.type "StopIteration") ->
   wpAny (model prog w) A ((isInstance (.ref e) (.type "StopIteration")) >>= fun b=>if b=true then pure none else throw (.ref e)) Q E { s with heap:=h' }:=fun h' e hk he=>by
  obtain⟨o,ho,hc⟩:=he;exact wpAny_bind (wpAny_isInstance (T:="StopIteration") (b:=true) ⟨o,ho,hc⟩ isSubtype_stop (wpAny_pure (hQ _ hk)))
 show wpAny _ _ (field (.ref z) 2 >>= _) _ _ _;refine wpAny_bind (wpAny_field hz rfl (x:=.bool false) rfl ?_);show wpAny _ _ (field (.ref z) 3 >>= _) _ _ _;refine wpAny_bind (wpAny_field hz rfl (x:=.ref TI) rfl (wpAny_bind (wpAny_seqItems hTI rfl ?_)));show wpAny _ _ (Builtin.SmallTypes.ownedTupleIsFree (.ref z) >>= _) _ _ _;refine wpAny_bind ?_;unfold Builtin.SmallTypes.ownedTupleIsFree;refine wpAny_bind (wpAny_field hz rfl (x:=.none) rfl (wpAny_pure ?_));simp only[if_true];refine wpAny_bind (wpAny_rule (wpAny_bind (wpAny_field hz rfl (x:=.ref TO) rfl (wpAny_bind (wpAny_setField_rec hz (by simp) fun g1 z1 e1=>?_)))))
 replace z1:IsZip g1 z TI TO .ellipsis:=z1
 refine wpAny_bind ?_;simp only[List.zipIdx_cons,List.zipIdx_nil,KC,NK];refine wpAny_bind (wpAny_bind (wpAny_onRaise ?_));show wpAny _ _ (Builtin.SmallTypes.nextOf (.ref i1) >>= _) _ _ _;cases hx:xs[k]? with
 |none =>
  refine wpAny_bind (yD hh (h1.grow e1.extBut D.i1z) (hl1.grow e1.extBut D.l1z) hx fun g2 e e2 ⟨oe,hoe,hce⟩=>?_);have z2:IsZip g2 z TI TO .ellipsis:=e2 _ _ D.i1z.symm z1;have ne:e≠z:=fun q=>by subst q;rw[z2]at hoe;cases hoe;simp at hce
  exact wpAny_setField_rec z2 (by simp) fun g3 _ e3=>out g3 e (fun c o c1 _ c3 _ q=>e3.extBut _ _ c1 (e2 _ _ c3 (e1.extBut _ _ c1 q))) ⟨oe,e3.extBut _ _ ne hoe,hce⟩
 |some x =>
  have hy:ys[k]?=none:=by rcases hend with h|h;rw[hx]at h;cases h;exact h
  refine wpAny_bind (Ey (h1.grow e1.extBut D.i1z) (hl1.grow e1.extBut D.l1z) hx fun g2 t1 e2=>wpAny_pure ?_);have p2:IsPair g2 TO a b:=e2.extBut _ _ D.TOi1 (e1.extBut _ _ D.TOz hTO);refine wpAny_bind (wpAny_seqItems p2 rfl (wpAny_bind (wpAny_updateSeq_pair p2 fun g3 p3 e3=>wpAny_bind (wpAny_letGo (wpAny_pure ?_)))));refine wpAny_bind (wpAny_bind (wpAny_onRaise ?_));show wpAny _ _ (Builtin.SmallTypes.nextOf (.ref i2) >>= _) _ _ _;refine wpAny_bind (yD hh (((h2.grow e1.extBut D.i2z).grow e2.extBut D.i12.symm).grow e3.extBut D.TOi2.symm) (((hl2.grow e1.extBut D.l2z).grow e2.extBut D.l2i1).grow e3.extBut D.l2TO) hy fun g4 e e4 ⟨oe,hoe,hce⟩=>?_);have z4:IsZip g4 z TI TO .ellipsis:=e4 _ _ D.i2z.symm (e3.extBut _ _ D.TOz.symm (e2.extBut _ _ D.i1z.symm z1));have ne:e≠z:=fun q=>by subst q;rw[z4]at hoe;cases hoe;simp at hce
  exact wpAny_setField_rec z4 (by simp) fun g5 _ e5=>out g5 e (fun c o c1 c2 c3 c4 q=>e5.extBut _ _ c1 (e4 _ _ c4 (e3.extBut _ _ c2 (e2.extBut _ _ c3 (e1.extBut _ _ c1 q))))) ⟨oe,e5.extBut _ _ ne hoe,hce⟩
end
abbrev tQ (b:Bool):String:=if b=true then "list_iterator" else "tuple_iterator"
abbrev QF (b:Bool)(h:Heap)(l:Addr):Heap:=h.push { cls:=.type (tQ b),data:=.fields #[.ref l,.int 0 0] }
abbrev LK (b1 b2:Bool)(h:Heap)(l1 l2:Addr):Heap:=QF b2 (QF b1 h l1) l2
abbrev Lq (b1 b2:Bool)(h:Heap)(l1 l2:Addr):Heap:=(LK b1 b2 h l1 l2).push { cls:=.type "tuple",data:=.seq #[.ref h.objs.size,.ref (QF b1 h l1).objs.size] }
abbrev K8 (b1 b2:Bool)(h:Heap)(l1 l2:Addr):Heap:=(Lq b1 b2 h l1 l2).push { cls:=.type "tuple",data:=.seq #[.none,.none] }
abbrev Ub (b1 b2:Bool)(h:Heap)(l1 l2:Addr):Heap:=(K8 b1 b2 h l1 l2).push { cls:=.type "zip",data:=.fields #[.none,.bool false,.bool false,.ref (LK b1 b2 h l1 l2).objs.size,.ref (Lq b1 b2 h l1 l2).objs.size] }
theorem Yy.push (x:Yy b h l xs)(o:Obj):Yy b (h.push o) l xs:=by
 cases b
 ·obtain⟨u,hu,r⟩:h.IsTuple l xs:=x;exact(⟨u,qd _ hu,r⟩:(h.push o).IsTuple l xs)
 ·obtain⟨u,hu,r⟩:h.IsList l xs:=x;exact(⟨u,qd _ hu,r⟩:(h.push o).IsList l xs)
def zyK (b:Bool)(l1 l2:Addr)(xs ys:Array Value) :
  Meets (Builtin.«zip.__new__» ⟨[.type "zip",.ref l1,.ref l2],[]⟩) (fun _ R s=>Yy b s.heap l1 xs/\Yy b s.heap l2 ys/\R (.ok (.ret (.ref (K8 b b s.heap l1 l2).objs.size))) { s with heap:=Ub b b s.heap l1 l2 }):=by
 cases b
 ·exact .of_wp fun prog w A R s h=>by
   obtain⟨hp,g,d,tk,os⟩:=s;obtain⟨h1,h2,h⟩:=h;have hsub:=sub_zip;have q1:Heap.IsTuple (Shared.heap ⟨hp,g,d,tk,os⟩) l1 xs:=h1;have q2:Heap.IsTuple (Shared.heap ⟨hp.push { cls:=.type "tuple_iterator",data:=.fields #[.ref l1,.int 0 0] },g,d,tk,os⟩) l2 ys:=Yy.push (b:=false) h2 _
   wp_walk using wpAny_pyIter_tuple q1,wpAny_pyIter_tuple q2
   exact⟨_,rfl,h⟩
 ·exact meets_zip_new l1 l2 xs ys
def uE {b:Bool}{h:Heap}{it l:Addr}(e:h.get? it=some { cls:=.type (tQ b),data:=.fields #[.ref l,.int 0 0] }):Y7 b h it l 0:=by
 cases b
 ·exact(⟨_,e,rfl,rfl⟩:h.IsTupleIter it l 0)
 ·exact(⟨_,e,rfl,rfl⟩:h.IsListIter it l 0)
section
variable {prog:Program}{w:World}{A:Around}{E:Value->Shared->Prop}{s:Shared}
def ŷ {Q:Value->Shared->Prop}(hl1:Yy b s.heap l1 xs)(hl2:Yy b s.heap l2 ys)(h:∀ h',IsZip h' (s.heap.objs.size+4) (s.heap.objs.size+2) (s.heap.objs.size+3) .none->IsPair h' (s.heap.objs.size+2) (.ref s.heap.objs.size) (.ref (s.heap.objs.size+1))->IsPair h' (s.heap.objs.size+3) .none .none->Y7 b h' s.heap.objs.size l1 0->Y7 b h' (s.heap.objs.size+1) l2 0 ->
   (∀ c o,s.heap.get? c=some o->h'.get? c=some o)->Q (.ref (s.heap.objs.size+4)) { s with heap:=h' }):wpAny (model prog w) A (call (.type "zip") [.ref l1,.ref l2]) Q E s:=by
 refine callType_new F.called_zip (by decide) (F.typeCall_zip_2 _ _) (F.newCall_zip_2 _ _) (fun obj=>F.args_object_init_3 obj _ _) F.entry_zip_new (zyK b l1 l2 xs ys) ⟨hl1,hl2,?_⟩;have s1:(QF b s.heap l1).objs.size=s.heap.objs.size+1:=W6 ..;have s2:(LK b b s.heap l1 l2).objs.size=s.heap.objs.size+2:=by rw[W6,s1]
 have s3:(Lq b b s.heap l1 l2).objs.size=s.heap.objs.size+3:=by rw[W6,s2]
 have s4:(K8 b b s.heap l1 l2).objs.size=s.heap.objs.size+4:=by rw[W6,s3]
 have v1:(Ub b b s.heap l1 l2).get? s.heap.objs.size=some _:=(fun c o q=>qd _ (qd _ (qd _ (qd _ q))):∀ c o,(QF b s.heap l1).get? c=some o->(Ub b b s.heap l1 l2).get? c=some o) _ _ (ql _ rfl);have v2:(Ub b b s.heap l1 l2).get? (QF b s.heap l1).objs.size=some _:=(fun c o q=>qd _ (qd _ (qd _ q)):∀ c o,(LK b b s.heap l1 l2).get? c=some o->(Ub b b s.heap l1 l2).get? c=some o) _ _ (ql _ rfl);have v3:(Ub b b s.heap l1 l2).get? (LK b b s.heap l1 l2).objs.size=some _:=(fun c o q=>qd _ (qd _ q):∀ c o,(Lq b b s.heap l1 l2).get? c=some o->(Ub b b s.heap l1 l2).get? c=some o) _ _ (ql _ rfl);have v4:(Ub b b s.heap l1 l2).get? (Lq b b s.heap l1 l2).objs.size=some _:=qd _ (ql _ rfl);have v5:(Ub b b s.heap l1 l2).get? (K8 b b s.heap l1 l2).objs.size=some _:=ql _ rfl;show _/\_;rw[s2,s3,s4]at v5;rw[s1,s2]at v3;rw[s3]at v4;rw[s1]at v2;rw[s4];exact⟨⟨_,v5,rfl⟩,h _ v5 v3 v4 (uE v1) (uE v2) fun c o x=>qd _ (qd _ (qd _ (qd _ (qd _ x))))⟩
end
def W5 (K:PySem.W.Frag)(b:Bool)(H:Hp)(l:Addr)(xs:List V):Prop:=match b with
 |true=>ZC K H l xs
 |false=>ZQ K H l xs
def W5.items (I:Inv X Z9 U H s)(h:W5 X.K b H l xs):∃ its:List Value,Vals xs its/\Yy b s.heap l its.toArray:=by
 cases b
 ·obtain⟨its,r,p,_⟩:=I.tuple (show ZQ X.K H l xs from h);exact⟨its,r,p⟩
 ·obtain⟨its,r,p,_⟩:=I.list (show ZC X.K H l xs from h);exact⟨its,r,p.isList⟩
def W5.inj (I:Inv X Z9 U H s)(h:W5 X.K b H l xs)(h':W5 X.K b H l ys):xs=ys:=by
 cases b
 ·exact I.tuple_inj (show ZQ X.K H l xs from h) h'
 ·exact I.list_inj (show ZC X.K H l xs from h) h'
def Ky (K:PySem.W.Frag)(b1 b2:Bool)(l1 l2:Addr):It :=
  ⟨fun i H=>∃ xs ys x y,W5 K b1 H l1 xs/\W5 K b2 H l2 ys/\xs[i]?=some x/\ys[i]?=some y,
   fun i H v H'=>∃ p,v=.ref p/\H p=none/\∀ xs ys x y,W5 K b1 H l1 xs->W5 K b2 H l2 ys->xs[i]?=some x->ys[i]?=some y->H'=upd H p (.tup [x,y]),
   fun i H=>∃ xs ys,W5 K b1 H l1 xs/\W5 K b2 H l2 ys/\(xs.length<=i\/ys.length<=i)⟩
def ύ {P:Program}{w:World}{K:PySem.W.Frag}{es:List Expr}{kk:Nat}{pos:Pos}{b1 b2:Bool}{TI TO:Addr}(D:ZipApart z TI TO i1 i2 l1 l2) :
  Turn P w K (.Tuple es kk pos) (Ky K b1 b2 l1 l2) [z,TI,TO,i1,i2] z (fun i h=>IsZip h z TI TO .none/\IsPair h TI (.ref i1) (.ref i2)/\(∃ a b,IsPair h TO a b)/\Y7 b1 h i1 l1 i/\Y7 b2 h i2 l2 i) where
 mem:=by simp
 obj:=fun i h st b hb=>by
  obtain⟨hz,hTI,⟨a,c,hTO⟩,q1,q2⟩:=st;obtain⟨o1,g1,_,_,d1⟩:=q1.obj;obtain⟨o2,g2,_,_,d2⟩:=q2.obj;simp only[qu,qM,or_false]at hb;rcases hb with rfl|rfl|rfl|rfl|rfl
  ·exact⟨_,hz,fun v q=>by cases(show Data.fields _=Data.cell v from q)⟩
  ·exact⟨_,hTI,fun v q=>by cases(show Data.seq _ _=Data.cell v from q)⟩
  ·exact⟨_,hTO,fun v q=>by cases(show Data.seq _ _=Data.cell v from q)⟩
  ·exact⟨_,g1,fun v q=>by rw[d1]at q;cases q⟩
  ·exact⟨_,g2,fun v q=>by rw[d2]at q;cases q⟩
 keep:=fun i h h' st k=>by obtain⟨hz,hTI,⟨a,c,hTO⟩,q1,q2⟩:=st;exact⟨k z (by simp) _ hz,k TI (by simp) _ hTI,⟨a,c,k TO (by simp) _ hTO⟩,q1.at fun o e=>k i1 (by simp) o e,q2.at fun o e=>k i2 (by simp) o e⟩
 item:=by
  intro X hP hw hK hc i Z9 s U H E I hf st hg;subst hP hw hK;obtain⟨hz,hTI,⟨a,c,hTO⟩,q1,q2⟩:=st;obtain⟨xs,ys,x,y,hx1,hy1,hx,hy⟩:=hg;obtain⟨its,rx,px⟩:=hx1.items I;obtain⟨jts,ry,py⟩:=hy1.items I;obtain⟨u,hu,ru⟩:=Vals.get rx hx;obtain⟨v,hv,rv⟩:=Vals.get ry hy;refine fV D hz hTI hTO q1 q2 px py (by simpa using hu) (by simpa using hv) fun h' a1 a2 a3 a4 a5 hk=>?_
  refine⟨_,rfl,wpAny_letOwnedTupleGo_zip a1 fun h'' hz'' hs''=>?_⟩;have lt:∀ {c o},s.heap.get? c=some o->s.heap.objs.size≠c:=fun e=>Wt (qA e)
  have k2:∀ b u,b∉[z,TI,TO,i1,i2]->s.heap.get? b=some u->h''.get? b=some u:=fun b u hb e=>by simp only[qu,qM,or_false,not_or]at hb;exact hs''.extBut b u hb.1 (hk b u hb.1 hb.2.2.1 hb.2.2.2.1 hb.2.2.2.2 e)
  have new:h''.get? s.heap.objs.size=some { cls:=.type "tuple",data:=.seq #[u,v] }:=hs''.extBut _ _ (lt hz) a5;refine⟨.ref s.heap.objs.size,upd H s.heap.objs.size (.tup [x,y]),I.turnNew (t':=s.toks) hf k2 (qh _) ⟨by show 2<=sizeLine;decide,[u,v],.cons ru (.cons rv .nil),_,new,rfl,_,rfl⟩,rfl,⟨_,rfl,I.fresh,?_⟩,?_,fun b hb=>?_⟩
  ·intro xs' ys' x' y' hx1' hy1' hx' hy';cases hx1.inj I hx1';cases hy1.inj I hy1';rw[hx]at hx';rw[hy]at hy';cases hx';cases hy';rfl
  ·exact⟨hz'',hs''.extBut _ _ D.TIz (hk _ _ D.TIz D.TITO D.TIi1 D.TIi2 hTI),⟨_,_,hs''.extBut _ _ D.TOz a2⟩,a3.grow hs''.extBut D.i1z,a4.grow hs''.extBut D.i2z⟩
  ·have:∃ o,s.heap.get? b=some o:=by
    simp only[qu,qM,or_false]at hb;obtain⟨o1,e1,_⟩:=q1.obj;obtain⟨o2,e2,_⟩:=q2.obj;rcases hb with rfl|rfl|rfl|rfl|rfl
    ·exact⟨_,hz⟩
    ·exact⟨_,hTI⟩
    ·exact⟨_,hTO⟩
    ·exact⟨_,e1⟩
    ·exact⟨_,e2⟩
   obtain⟨o,e⟩:=this;rw[zu (lt e).symm];exact(hf b hb).1
 done:=by
  intro X hP hw hK hc i Z9 s U H E I hf st hg;subst hP hw hK;obtain⟨hz,hTI,⟨a,c,hTO⟩,q1,q2⟩:=st;obtain⟨xs,ys,hx1,hy1,hl⟩:=hg;obtain⟨its,rx,px⟩:=hx1.items I;obtain⟨jts,ry,py⟩:=hy1.items I;have n1:=rx.length;have n2:=ry.length;refine znx (I.ok.hd hc) D hz hTI hTO q1 q2 px py ?_ fun h' hk=>⟨rfl,I.turnedL (t':=s.toks) hf fun b u hb e=>?_⟩
  ·rcases hl with hl|hl
   ·exact .inl (by rw[qbv];exact qB (by lia))
   ·exact .inr (by rw[qbv];exact qB (by lia))
  ·simp only[qu,qM,or_false,not_or]at hb;exact hk b u hb.1 hb.2.2.1 hb.2.2.2.1 hb.2.2.2.2 e
 self:=fun _ _ _ _ _ st h=>wpAny_pyIter_zip st.1 h
section
variable {X:Cx}
def zw9 (K:PySem.W.Frag)(ta:TA):TI:=fun U H R=>ta U H fun vs H1=>∃ b l1 l2,vs=[.ref l1,.ref l2]/\(∃ xs,W5 K b H1 l1 xs)/\(∃ ys,W5 K b H1 l2 ys)/\R (Ky K b b l1 l2) H1
def eN {es:List Expr}{kk:Nat}{tpos:Pos}{a b:Expr}{ta:TA}{p pos:Pos}(hg:Gl X "zip")(hm:X.mg "zip"=none)(ha:PA X [a,b] ta)(hs:autoParam (starEach [a,b] X.env=[(false,eval a X.env),(false,eval b X.env)]) zy)(hs2:autoParam (starEach [b] X.env=[(false,eval b X.env)]) zy) :
    PI X (.Tuple es kk tpos) (.Call (.Name "zip" p) [a,b] [] pos) (zw9 X.K ta):=by
  intro Z9 s U H R I h;refine Call_ (T8 I hg hm boot_zip (PyProof.Rows.callWith_type1 (Z2 (ha pos Z9 s U H _ I h) fun us s1 ⟨vs,H1,I1,r1,q1⟩=>?_) (by rw[hs,hs2]) (by rw[hs2];rfl)));obtain⟨b',l1,l2,e,⟨xs,hx⟩,⟨ys,hy⟩,q⟩:=q1;subst e;obtain⟨u,v,rfl,ru,rv⟩:=vals2 r1;cases ru;cases rv;obtain⟨its,rx,px⟩:=hx.items I1;obtain⟨jts,ry,py⟩:=hy.items I1;refine ŷ px py fun h' hz hTI hTO h1 h2 hk=>?_
  have I2:Inv X Z9 U H1 { s1 with heap:=h' }:=I1.kept (t':=s1.toks) hk;refine wpAny_pyIter_zip (s:={ s1 with heap:=h' }) hz ⟨_,_,_,_,H1,rfl,I2,ύ (PyProof.Rows.zipApart_new px.lt py.lt),⟨hz,hTI,⟨_,_,hTO⟩,h1,h2⟩,fun b hb=>?_,q⟩
  have hb':s1.heap.objs.size<=b:=by simp only[qu,qM,or_false]at hb;rcases hb with rfl|rfl|rfl|rfl|rfl<;>first|exact Od _ _|exact qh _
  exact I1.fpOk hb' (I1.hok.fresh hb')
end
section
def zx8 (l:Addr)(items:Array Value)(n:Nat)(b:Addr)(items2:Array Value)(n2:Nat)(dct:Option Addr)(sl:Array (Option Value))(hs0:¬(!items.isEmpty&&Builtin.List.listTooLong (items.size+items2.size))=true)(hs1:items.size<=sizeLine)(hs2:items.size+items2.size<=sizeLine+1) :
  Meets (Builtin.«list.extend» ⟨[.ref l,.ref b],[]⟩) (fun _ R s=>s.heap.get? l=some { cls:=.type "list",dict:=none,data:=.seq items n,slots:=#[] }/\s.heap.get? b=some { cls:=.type "tuple",dict:=dct,data:=.seq items2 n2,slots:=sl }/\R (.ok (.ret Value.none)) { s with heap:=s.heap.update l (Obj.mapSeq fun x=>x++items2),toks:=s.toks }) :=
 .of_wp fun prog w A R s h=>by
  obtain⟨hp,g,d,tk,os⟩:=s;obtain⟨hl,hb,h⟩:=h;have f1:=AutoSeq1.idx_int;have f2:=AutoSeq1.sub_tuple_tuple;have f3:=AutoSeq1.sub_list_list;have f4:=AutoSeq1.sub_tuple_list;have f5:=AutoSeq1.sub_list_tuple;have hz':(items++items2).size<=sizeLine+1:=by rw[Array.size_append];exact hs2
  wp_walk using (wpAny_updateSeq hl rfl (hz:=hs1) (_hz':=hz')),wpAny_loadPart' hl,wpAny_loadPart' hb
  exact⟨_,rfl,h⟩
end
section
variable {X:Cx}
def Α (K:PySem.W.Frag):V->List V->Hp->VK->Prop:=fun x vs H Q=>vG x vs H Q\/∃ l b xs zs,x=.ref l/\vs=[.ref b]/\H l=some (.lst xs)/\ZQ K H b zs/\xs.length+zs.length<=sizeLine/\Q .non (upd H l (.lst (xs++zs)))
def Ι:PX X "list.extend" (Α X.K):=by
 intro Z9 s U H x vs v us Q I rx rv h;rcases h with h|⟨l,b,xs,zs,rfl,rfl,hH,hB,hz,q⟩
 ·exact zm5 Z9 s U H x vs v us Q I rx rv h
 cases rx;obtain⟨u,rfl,ru⟩:=rv.one;cases ru;obtain⟨z,its,n,r,hl,e⟩:=I.lstM hH;obtain⟨its2,r2,⟨⟨c,dct,dt,sl⟩,e2,hc,n2,hd⟩,z2⟩:=I.tuple hB
 replace hc:c=.type "tuple":=hc
 replace hd:dt=.seq its2.toArray n2:=hd
 subst hc hd;have hl2:=r2.length;have hsz:its.toArray.size+its2.toArray.size<=sizeLine:=by rw[qk,qk];lia
 have hlong:¬ (!its.toArray.isEmpty&&Builtin.List.listTooLong (its.toArray.size+its2.toArray.size))=true:=by rw[uK hsz,SQ];exact qo
 refine call_meets F.slot_list_extend ⟨_,e,rfl⟩ F.entry_list_extend (F.args_list_extend_2 _ _)
  (zx8 l its.toArray n b its2.toArray n2 dct sl hlong (by rw[qk];lia) (by lia)) ⟨e,e2,?_⟩
 refine⟨.non,_,I.lset (its':=its++its2) hH e (by simp) (r.append r2) ?_,rfl,q⟩;rw[qf];lia
end
section
variable {prog:Program}{w:World}{A:Around}{E:Value->Shared->Prop}{s:Shared}
end
section
variable {X:Cx}
end
section
variable {X:Cx}
end
section
variable {X:Cx}
end
section
variable {prog:Program}{w:World}{A:Around}{E:Value->Shared->Prop}{s:Shared}
end
section
variable {prog:Program}{w:World}{A:Around}{E:Value->Shared->Prop}{s:Shared}
end
section
variable {prog:Program}{w:World}{A:Around}{E:Value->Shared->Prop}{s:Shared}
end
section
variable {prog:Program}{w:World}{A:Around}{s:Shared}
abbrev Ue (prog:Program)(w:World)(h:Heap)(a:Addr)(c:List Str):Prop:=h.SetOf (PySem.strKind prog w) a (fun y=>c.any (·==y)) c.length
def Ue.at {h':Heap}(x:Ue prog w h a c)(k:∀ o,h.get? a=some o->h'.get? a=some o):Ue prog w h' a c :=by obtain⟨o,es,ep,t,ho,r⟩:=x;exact⟨o,es,ep,t,k o ho,r⟩
theorem loopS {R:Result->Shared->Prop}{a:Addr}{wr:List Addr}{G:Array GenState->Array GenState->Prop}{n:Nat}{St:Nat->Shared->Prop}(W:WalksS prog w A.in1 it fp wr G n P St)(na:a∉fp)(f:Nat->Str)(hf:∀ i v,P i v->∃ t,v=.str (f i) t)(hb:n+1<scanBound) :
  ∀ (k i:Nat) (s:Shared),n-i=k->i<=n->St i s->Ue prog w s.heap a (Dp.X8 f i) ->
   (∀ s',Moved (a::wr) G s s'->Ue prog w s'.heap a (Dp.X8 f n)->R (.ok (.ret .none)) s') ->
   codeAny (model prog w) A (.builtin "set.update.loop" ⟨[.ref a,.ref it],[]⟩) R s
 |0,i,s,hk,hi,st,hS,hR=>by
  have e:i=n:=by lia
  subst e;refine codeAny_builtin PyProof.Rows.F.entry_set_update_loop ?_;rw[Around.under_plainId PyProof.Rows.F.plain_set_update_loop];show wpAny _ A.in1 (pyNext (.ref it) >>= _) _ _ _;refine wpAny_bind (W.done s _ _ st fun s' m=>wpAny_pure (hR s' (m.mono fun b q=>qi _ q) ?_));exact hS.at fun o q=>m.heap a o (fun z=>na (W.sub _ z)) q
 |k+1,i,s,hk,hi,st,hS,hR=>by
  refine codeAny_builtin PyProof.Rows.F.entry_set_update_loop ?_;rw[Around.under_plainId PyProof.Rows.F.plain_set_update_loop];show wpAny _ A.in1 (pyNext (.ref it) >>= _) _ _ _;refine wpAny_bind (W.item i s _ _ (by lia) st fun v s1 pv st1 m=>?_);obtain⟨t,rfl⟩:=hf i v pv;have h1:Ue prog w s1.heap a (Dp.X8 f i):=hS.at fun o q=>m.heap a o (fun z=>na (W.sub _ z)) q
  show wpAny _ A.in1 (holding [Value.str (f i) t] (setAdd a (Value.str (f i) t)) >>= _) _ _ _;refine wpAny_bind (wpAny_holding ?_);unfold setAdd;refine wpAny_holding (wpAny_bind ((PySem.strKind prog w).pyHash (k:=f i) (strKind_is _ _ _ _) ?_));have room:(Dp.X8 f i).length+1<scanBound:=by have:=Dp.Gd f i;lia
  refine wpAny_setAddHashed_of (knd:=PySem.strKind prog w) (s:={ s1 with toks:=s1.toks+1 }) (strKind_is _ _ _ _) rfl h1 room fun h2 sb hS2=>?_
  have h3:Ue prog w h2 a (Dp.X8 f (i+1)):=SetOf_congr hS2 (fun y=>(Dp.p8 _ _ _).symm) (Dp.Hv _ _).symm;refine wpAny_pure ⟨plainId_quiet PyProof.Rows.F.plain_set_update_loop _,loopS W na f hf hb k (i+1) _ (by lia) (by lia) (W.frame _ s1 _ _ st1 (Nat.le_succ _) fun b q o e=>?_) h3 fun s' m' hS'=>?_⟩
  ·exact(sb.2 b fun z=>na (z▸q)).trans e
  ·refine hR s' (Moved.trans W.gtrans ((m.mono fun b q=>qi _ q).then_heap (Nat.le_succ _) fun b o q e=>?_) m') hS';exact(sb.2 b fun z=>q (z▸qN)).trans e
end
section
variable {prog:Program}{w:World}{A:Around}{E:Value->Shared->Prop}{s:Shared}
abbrev SN (led:Bool):Obj:={ cls:=.type "set",dict:=none,data:=.set #[] 0 (.fresh 0 0 led) }
def zmD {l:Addr}{its:Array Value}(f:Nat->Str){Q:Value->Shared->Prop}(hh:A.handled=none)(hl:s.heap.IsList l its)(hf:∀ (i:Nat) v,its[i]?=some v->∃ t,v=.str (f i) t)(hb:its.size+1<scanBound)
    (h:∀ (h':Heap) (tk:Nat),Ue prog w h' s.heap.objs.size (Dp.X8 f its.size)->(∀ b o,b<s.heap.objs.size->s.heap.get? b=some o->h'.get? b=some o)->Q (.ref s.heap.objs.size) { s with heap:=h',toks:=tk }) :
    wpAny (model prog w) A (call (.type "set") [.ref l]) Q E s:=by
  have ft:=F.called_set;obtain⟨c,tl,hmro⟩:=ft.mro;have hmade:=ft.made;have hsub:=ft.sub;have h1:=ft.notType;have h2:=ft.canCreate;have hct:=F.typeCall_set_1 (.ref l);refine wpAny_call (codeAny_of_tree ?_);show wpAny _ _ (callAny (.type "set") _) _ _ s;refine wpAny_pure ⟨Code.quiet_builtin _ (by decide +kernel),codeAny_builtin F.entry_type_call ?_⟩;rw[Around.under_plain (weight_type_call_type "set" [Value.ref l] []) rfl]
  repeat (any_goals (first|assumption|wp_step))
  refine codeAny_mono (code_set_new_1 (.ref l) (E:=E) (Q₁:=fun v s1=>∃ led:Bool,v=.ref s.heap.objs.size/\s1={ s with heap:=s.heap.push (SN led) }) fun led=>⟨led,rfl,rfl⟩) fun r s1 hr=>?_
  cases r with
  |error e=>exact hr
  |ok fl =>
    cases fl with
    |ret v =>
      obtain⟨led,rfl,rfl⟩:=hr;have e0:(s.heap.push (SN led)).get? s.heap.objs.size=some (SN led):=ql _ rfl;have hT:Shared.TypeIs { s with heap:=s.heap.push (SN led) } (.ref s.heap.objs.size) "set":=⟨_,e0,rfl⟩
      have hli:=ft.init.lookup;have hbi:=ft.init.bind (.ref s.heap.objs.size)
      repeat (any_goals (first|assumption|wp_step))
      refine codeAny_mono (codeAny_call_builtin (R:=wants (fun r s2=>r=.none/\∃ h' tk,s2={ s with heap:=h',toks:=tk }/\Ue prog w h' s.heap.objs.size (Dp.X8 f its.size)/\∀ b o,b<s.heap.objs.size->s.heap.get? b=some o->h'.get? b=some o) E) ft.init.plain F.entry_set_init (check_set_init_1 hT ?_)) fun r2 s2 hr2=>?_
      . obtain⟨ol,hol,hcl,nl,hdl⟩:=hl;obtain⟨ocl,odi,oda,osl⟩:=ol;simp only at hcl hdl;subst hcl hdl;have hol2:(s.heap.push (SN led)).get? l=some { cls:=.type "list",dict:=odi,data:=.seq its nl,slots:=osl }:=qd _ hol;have k1:=F.sub_list_set;have k2:=F.sub_list_frozenset;have k3:(Value.type "list"==Value.type "dict")=false:=by decide
        have hl1:(s.heap.push (SN led)).IsList l its:=⟨_,hol2,rfl,nl,rfl⟩
        unfold Builtin.«set.__init__» noKeywords Builtin.Frozenset.updateFrom;generalize hPI:pyIter=PI
        wp_walk
        subst hPI;refine wpAny_pyIter_list hl1 (wpAny_bind (wpAny_runValue ?_));have ll:l<s.heap.objs.size:=qA hol;have n1:l≠(s.heap.push (SN led)).objs.size:=by rw[W6];exact qS (Nat.lt_succ_of_lt ll)
        have n2:s.heap.objs.size∉[(s.heap.push (SN led)).objs.size,l]:=by
          rw[W6];intro z;rcases qu.mp z with z|z
          . exact qS (MJ _) z
          . exact Wt ll (qI.mp z)
        refine loopS ((Walks.list (show _=none by simp[hh]) _ l n1 its).toS) n2 f hf hb (its.size-0) 0 _ (by lia) (qY _) ⟨⟨_,ql _ rfl,rfl,rfl⟩,hl1.push _⟩ ?_ fun s' m hS'=>?_
        . exact SetOf_congr ((setObjOf_fresh (knd:=PySem.strKind prog w) led).setOf (qd _ e0) (by unfold scanBound;lia)) (fun _=>rfl) rfl
        . obtain⟨h',g',d',tk',os'⟩:=s';cases(show g'=s.gens from m.gens);cases(show d'=s.drawn from m.drawn);cases(show os'=s.os from m.os);show wpAny _ _ _ _ _ _;refine wpAny_pure (wpAny_pure ⟨rfl,h',tk',rfl,hS',fun b o q e=>?_⟩);refine m.heap b o (fun z=>?_) (qd _ (qd _ e));rcases qu.mp z with z|z
          . exact qS q z
          . have z':=qI.mp z;rw[W6]at z';exact qS (Nat.lt_succ_of_lt q) z'
      . cases r2 with
        |error e=>exact hr2
        |ok fl2 =>
          cases fl2 with
          |ret r =>
            obtain⟨rfl,h',tk,rfl,hS',kp⟩:=hr2
            repeat (any_goals (first|assumption|wp_step))
            exact h _ _ hS' kp
          |_=>exact hr2.elim
    |_=>exact hr.elim
end
def zv3 (K:PySem.W.Frag)(ta:TA):TE:=fun U H Q=>ta U H fun vs H1=>∃ l,∃ zs:List Str,vs=[.ref l]/\ZC K H1 l (zs.map V.str)/\zs.length<=4000/\Q (.int (Dp.X8 (fun i=>zs.getD i Str.empty) zs.length).length) H1
theorem sI:∀ {zs:List Str} {us:List Value},Vals (zs.map V.str) us->∀ (i:Nat) v,us[i]?=some v->∃ t,v=.str (zs.getD i Str.empty) t
 |[],_,.nil,i,v,e=>by simp at e
 |z::zs,_,.cons r t,0,v,e=>by obtain⟨t,rfl⟩:=r;simp at e;exact⟨t,e.symm⟩
 |z::zs,_,.cons r t,i+1,v,e=>by obtain⟨t,h⟩:=sI t i v (by simpa using e);exact⟨t,by rw[h];simp⟩
def zqk {X:Cx}{a:Expr}{ta:TA}{p1 p2 pos1 pos2:Pos}(hc:X.calm=true)(hgl:Gl X "len")(hml:X.mg "len"=none)(hgr:Gl X "set")(hmr:X.mg "set"=none)(ha:PA X [a] ta)
  (hs:starEach [a] X.env=[(false,eval a X.env)]:=by rfl)
  (hs3:starEach [.Call (.Name "set" p2) [a] [] pos2] X.env=[(false,eval (.Call (.Name "set" p2) [a] [] pos2) X.env)]:=by rfl) :
  PE X (.Call (.Name "len" p1) [.Call (.Name "set" p2) [a] [] pos2] [] pos1) (zv3 X.K ta):=by
 intro Z9 s U H Q I h;refine Call_ (T8 I hgl hml boot_len (PyProof.Rows.callWith_builtin1 ?_ (by rw[hs3];rfl) (by rfl)));rw[hs3];show wpAny _ _ (spliced ((false,eval (.Call (.Name "set" p2) [a] [] pos2) X.env)::backTo pos1 [])) _ _ s;refine Calls.spliced_cons (Call_ (T8 I hgr hmr boot_set (PyProof.Rows.callWith_type1 (Z2 (ha pos2 Z9 s U H _ I h) fun us s1 ⟨vs,H1,I1,r1,q1⟩=>?_) hs rfl)));obtain⟨l,zs,e,hx,h4,q⟩:=q1;subst e;obtain⟨u,rfl,ru⟩:=vals1 r1;cases ru;obtain⟨its,rx,px,zx⟩:=I1.list hx;have sz:its.toArray.size=zs.length:=by rw[qk,<- rx.length,qa]
 refine zmD (fun i=>zs.getD i Str.empty) (show _=none from I1.ok.hd hc) px.isList (fun i v e=>sI rx i v (by simpa using e)) (by rw[sz];unfold scanBound;lia) fun h' tk hS kp=>Calls.spliced_nil ?_
 rw[sz]at hS;have le:=Dp.Gd (fun i=>zs.getD i Str.empty) zs.length;obtain⟨o,es,ep,t,ho,hex,hd,_,_,_,hf,hn⟩:=hS;refine call_len_set ho hex hd hf (by lia) ?_;rw[hn];exact⟨.int _,H1,I1.kept (t':=tk+1+1) (fun b o q=>kp b o (qA q) q),⟨_,rfl⟩,q⟩
section
variable {X:Cx}{Z9:List (Addr×Obj)}{U:L2.St}{H H':Hp}{s:Shared}{a:Addr}
end
section
variable {X:Cx}{Z9:List (Addr×Obj)}{U:L2.St}{R:Result->Shared->Prop}{G:Hp->Prop}{l q I S:Addr}{oq:Obj}{vs:List Value}
end
def Fw (H:Hp)(cd:Value)(qual:Str):Prop:=∃ c oc vs t u,cd=.ref c/\H c=some (.frz oc u)/\oc.data=.fields vs/\vs[1]?=some (.str qual t)
section
variable {X:Cx}{Z9:List (Addr×Obj)}{U:L2.St}{G:Hp->Prop}{q:Addr}{name qual x:Str}{params:Arguments}{body:Expr}{sc:Scope}{cl:List (Str×Addr)}{pm cd ct:Value}{free:List Str}{fv:List Nat}{te:TE}
end
def ï (H:Hp)(ps:Array Value)(l c:Nat)(qual:Str):Prop:=ps=#[]\/∃ a,ps=#[rawInt l,rawInt c,.ref a]/\Fw H (.ref a) qual
end My
namespace Dp
open PySem PySem.Spec PyProof.Rows L2 My
def isStar:Expr->Bool
 |.Starred _ _=>true
 |_=>false
def V0 {e:Expr}{es:List Expr}{env:Env}(h:isStar e=false):starEach (e::es) env=(false,eval e env)::starEach es env:=by cases e<;>first|rfl|cases h
theorem JD {pos:Pos}{env:Env}:∀ {es:List Expr},es.all (fun e=>!isStar e)=true->(backTo pos (starEach es env)).any (·.1)=false
 |[],_=>rfl
 |e::es,h=>by rw[Wg,qv]at h;rw[V0 (by simpa using h.1)];show(false||(backTo pos (starEach es env)).any (·.1))=false;rw[JD h.2];rfl
def Uv {e:Expr}{env:Env}(h:isStar e=false):starEach [e] env=[(false,eval e env)]:=V0 h
def Nm {e g:Expr}{env:Env}(h:isStar e=false)(k:isStar g=false):starEach [e,g] env=[(false,eval e env),(false,eval g env)]:=by rw[V0 h,Uv k]
def RD (K:PySem.W.Frag)(H:Hp)(a:Addr)(xs:List V):Prop :=(∃ o,H a=some (.frz o (.lst xs)))\/∃ (o:Obj) (its:Array Value) (n:Nat),K.lookup a=some o/\o.cls=.type "list"/\o.dict=none/\o.data=.seq its n/\its.size<=sizeLine/\Vals xs its.toList
def zyN (K:PySem.W.Frag)(a:Addr)(xs:List V):Prop:=∃ (o:Obj) (its:Array Value) (n:Nat),K.lookup a=some o/\o.cls=.type "tuple"/\o.data=.seq its n/\its.size<=sizeLine/\Vals xs its.toList
def RD.sq {K:PySem.W.Frag}(h:RD K H a xs):ZC K H a xs:=h.imp (fun h=>.inr h) id
mutual
inductive Rel (K:PySem.W.Frag)(aD:List Addr)(H:Hp):D->V->Prop
 |non:Rel K aD H .non .non
 |bl (b:Bool):Rel K aD H (.bl b) (.bl b)
 |int (i:Int):Rel K aD H (.int i) (.int i)
 |str (x:Str):Rel K aD H (.str x) (.str x)
 |ty (n:String):Rel K aD H (.ty n) (.ty n)
 |tup {a:Addr} {vs:List V} {ds:List D}:H a=some (.tup vs)->zf K aD H ds vs->Rel K aD H (.tup ds) (.ref a)
 |rl {a:Addr} {vs:List V} {ds:List D}:RD K H a vs->zf K aD H ds vs->Rel K aD H (.rl ds) (.ref a)
 |ref {n:Nat} {a:Addr}:aD[n]?=some a->Rel K aD H (.ref n) (.ref a)
 |exn {c:Str} {a C:Addr} {o:Obj} {u:HO}:H a=some (.frz o u)->o.cls=.ref C->PySem.W.nsIn K mainGlobals c=some (some (.ref C))->Rel K aD H (.exn c) (.ref a)
 |kt {a:Addr} {vs:List V} {ds:List D}:zyN K a vs->zf K aD H ds vs->Rel K aD H (.kt ds) (.ref a)
inductive zf (K:PySem.W.Frag)(aD:List Addr)(H:Hp):List D->List V->Prop
 |nil:zf K aD H [] []
 |cons {d:D} {v:V} {ds:List D} {vs:List V}:Rel K aD H d v->zf K aD H ds vs->zf K aD H (d::ds) (v::vs)
end
structure Wd (aD:List Addr)(H:Hp)(aD':List Addr)(H':Hp):Prop where
 pre:aD <+: aD'
 keep:∀ b o,b∉aD->H b=some o->H' b=some o
 tup:∀ b xs,H b=some (.tup xs)->H' b=some (.tup xs)
 frz:∀ b o u,H b=some (.frz o u)->H' b=some (.frz o u)
 new:∀ b,b∈aD'->b∉aD->H b=none
def Wd.refl {aD:List Addr}{H:Hp}:Wd aD H aD H:=⟨Pb _,fun _ _ _ h=>h,fun _ _ h=>h,fun _ _ _ h=>h,fun _ h n=>absurd h n⟩
theorem Wd.trans (a:Wd aD H ad1 H1)(b:Wd ad1 H1 ad2 H2):Wd aD H ad2 H2 where
 pre:=a.pre.trans b.pre
 keep:=fun c o hc h=>b.keep c o (fun h1=>by rw[a.new c h1 hc]at h;cases h) (a.keep c o hc h)
 tup:=fun c xs h=>b.tup c xs (a.tup c xs h)
 frz:=fun c o u h=>b.frz c o u (a.frz c o u h)
 new:=fun c h2 hc=>by
  by_cases h1:c∈ad1
  ·exact a.new c h1 hc
  ·have n1:=b.new c h2 h1;cases e:H c with
   |none=>rfl
   |some o=>rw[a.keep c o hc e]at n1;cases n1
def Tr {α:Type}{l l':List α}(h:l <+: l'){n:Nat}{a:α}(e:l[n]?=some a):l'[n]?=some a:=by obtain⟨t,rfl⟩:=h;rw[qg (My.Wk e)];exact e
structure Wr (aD:List Addr)(H:Hp)(aD':List Addr)(H':Hp):Prop where
 pre:aD <+: aD'
 tup:∀ b xs,H b=some (.tup xs)->H' b=some (.tup xs)
 frz:∀ b o u,H b=some (.frz o u)->H' b=some (.frz o u)
def Wd.wr (w:Wd aD H aD' H'):Wr aD H aD' H':=⟨w.pre,w.tup,w.frz⟩
def RD.wr {K:PySem.W.Frag}(w:Wr aD H aD' H')(h:RD K H a xs):RD K H' a xs:=h.imp (by rintro⟨o,e⟩;exact⟨o,w.frz _ _ _ e⟩) id
mutual
theorem Rel.wr {K:PySem.W.Frag}{aD aD':List Addr}{H H':Hp}(w:Wr aD H aD' H'):∀ {d:D} {v:V},Rel K aD H d v->Rel K aD' H' d v
 |_,_,.non=>.non
 |_,_,.bl b=>.bl b
 |_,_,.int i=>.int i
 |_,_,.str x=>.str x
 |_,_,.ty n=>.ty n
 |_,_,.tup h r=>.tup (w.tup _ _ h) (zf.wr w r)
 |_,_,.rl h r=>.rl (h.wr w) (zf.wr w r)
 |_,_,.ref h=>.ref (Tr w.pre h)
 |_,_,.exn h e n=>.exn (w.frz _ _ _ h) e n
 |_,_,.kt h r=>.kt h (zf.wr w r)
theorem zf.wr {K:PySem.W.Frag}{aD aD':List Addr}{H H':Hp}(w:Wr aD H aD' H'):∀ {ds:List D} {vs:List V},zf K aD H ds vs->zf K aD' H' ds vs
 |_,_,.nil=>.nil
 |_,_,.cons r t=>.cons (Rel.wr w r) (zf.wr w t)
end
def Rel.wd {K:PySem.W.Frag}(r:Rel K aD H d v)(w:Wd aD H aD' H'):Rel K aD' H' d v:=Rel.wr w.wr r
def zf.wd {K:PySem.W.Frag}(r:zf K aD H ds vs)(w:Wd aD H aD' H'):zf K aD' H' ds vs:=zf.wr w.wr r
section
variable {K:PySem.W.Frag}{aD:List Addr}{H:Hp}
theorem zf.length:∀ {ds:List D} {vs:List V},zf K aD H ds vs->ds.length=vs.length
  |_,_,.nil=>rfl
  |_,_,.cons _ t=>congrArg (· + 1) (zf.length t)
theorem zf.get:∀ {ds:List D} {vs:List V} {i:Nat} {d:D},zf K aD H ds vs->ds[i]?=some d->∃ v,vs[i]?=some v/\Rel K aD H d v
 |_,_,_,_,.nil,e=>by simp at e
 |_,_,0,_,.cons r _,e=>by simp at e;subst e;exact⟨_,rfl,r⟩
 |_,_,i+1,d,.cons _ t,e=>by obtain⟨v,h1,h2⟩:=zf.get (i:=i) (d:=d) t (by simpa using e);exact⟨v,by simpa using h1,h2⟩
theorem zf.append:∀ {ds es:List D} {vs us:List V},zf K aD H ds vs->zf K aD H es us->zf K aD H (ds++es) (vs++us)
 |_,_,_,_,.nil,s=>s
 |_,_,_,_,.cons r t,s=>.cons r (zf.append t s)
theorem zf.take:∀ {ds:List D} {vs:List V} (n:Nat),zf K aD H ds vs->zf K aD H (ds.take n) (vs.take n)
 |_,_,0,_=>.nil
 |_,_,_+1,.nil=>.nil
 |_,_,n+1,.cons r t=>.cons r (zf.take n t)
theorem zf.drop:∀ {ds:List D} {vs:List V} (n:Nat),zf K aD H ds vs->zf K aD H (ds.drop n) (vs.drop n)
 |_,_,0,r=>r
 |_,_,_+1,.nil=>.nil
 |_,_,n+1,.cons _ t=>zf.drop n t
theorem zf.set (r:Rel K aD H d v):∀ {ds:List D} {vs:List V} (i:Nat),zf K aD H ds vs->zf K aD H (ds.set i d) (vs.set i v)
 |_,_,_,.nil=>.nil
 |_,_,0,.cons _ t=>.cons r t
 |_,_,i+1,.cons q t=>.cons q (zf.set r i t)
theorem zf.ints:∀ {ns:List Int} {vs:List V},zf K aD H (ns.map D.int) vs->vs=ns.map V.int
 |[],_,.nil=>rfl
 |n::ns,_,.cons r t=>by cases r;rw[zf.ints t];rfl
theorem zf.bls:∀ {ns:List Bool} {vs:List V},zf K aD H (ns.map D.bl) vs->vs=ns.map V.bl
 |[],_,.nil=>rfl
 |n::ns,_,.cons r t=>by cases r;rw[zf.bls t];rfl
theorem zf.mk_ints:∀ (ns:List Int),zf K aD H (ns.map D.int) (ns.map V.int)
 |[]=>.nil
 |n::ns=>.cons (.int n) (zf.mk_ints ns)
end
inductive Zq (K:PySem.W.Frag)(aD:List Addr)(H:Hp):List (Str×D)->List (Str×V)->Prop
 |nil:Zq K aD H [] []
 |cons {f:Str} {d:D} {v:V} {fs:List (Str×D)} {vs:List (Str×V)}:Rel K aD H d v->Zq K aD H fs vs->Zq K aD H ((f,d)::fs) ((f,v)::vs)
theorem Zq.wr {K:PySem.W.Frag}(w:Wr aD H aD' H'):∀ {fs:List (Str×D)} {vs:List (Str×V)},Zq K aD H fs vs->Zq K aD' H' fs vs
 |_,_,.nil=>.nil
 |_,_,.cons r t=>.cons (Rel.wr w r) (Zq.wr w t)
theorem Zq.look {K:PySem.W.Frag}{aD:List Addr}{H:Hp}{f:Str}:∀ {fs:List (Str×D)} {vs:List (Str×V)} {d:D},Zq K aD H fs vs->fs.lookup f=some d->∃ v,vs.lookup f=some v/\Rel K aD H d v
 |_,_,d,.nil,e=>by simp at e
 |_,_,d,@Zq.cons _ _ _ g x v fs vs r t,e=>by
  rw[qr]at e ⊢;cases h:f==g with
  |true=>rw[h]at e;cases e;exact⟨v,rfl,r⟩
  |false=>rw[h]at e;exact Zq.look t e
theorem Zq.put {K:PySem.W.Frag}{f:Str}(rd:Rel K aD H d v):∀ {fs:List (Str×D)} {vs:List (Str×V)},Zq K aD H fs vs->Zq K aD H (putD f d fs) (YF f v vs)
 |_,_,.nil=>.cons rd .nil
 |_,_,@Zq.cons _ _ _ g x u fs vs r t=>by
  show Zq K aD H (if g=f then(g,d)::fs else(g,x)::putD f d fs) (if g=f then(g,v)::vs else(g,u)::YF f v vs);by_cases h:g=f
  ·rw[if_pos h,if_pos h];exact .cons rd t
  ·rw[if_neg h,if_neg h];exact .cons r (Zq.put rd t)
theorem Zq.length {K:PySem.W.Frag}{aD:List Addr}{H:Hp}:∀ {fs:List (Str×D)} {vs:List (Str×V)},Zq K aD H fs vs->fs.length=vs.length
  |_,_,.nil=>rfl
  |_,_,.cons _ t=>congrArg (· + 1) (Zq.length t)
theorem yx {f:Str}{d:D}{q:Str×D}:∀ {fs:List (Str×D)},q∈putD f d fs->q.1=f\/q∈fs
 |[],h=>by
  have:q=(f,d):=by simpa [putD]using h
  subst this;exact .inl rfl
 |(g,x)::fs,h=>by
  have h:q∈if g=f then(g,d)::fs else(g,x)::putD f d fs:=h
  by_cases e:g=f
  ·rw[if_pos e]at h;rcases qu.mp h with rfl|h
   ·exact .inl e
   ·exact .inr (qi _ h)
  ·rw[if_neg e]at h;rcases qu.mp h with rfl|h
   ·exact .inr (by simp)
   ·exact(yx h).imp id (qi _)
theorem xZ {f:Str}{d:D}:∀ {fs:List (Str×D)},fs.lookup f=some d->∃ q∈fs,q.1=f
 |[],e=>by simp at e
 |(g,x)::fs,e=>by
  rw[qr]at e;cases h:f==g with
  |true=>exact⟨(g,x),by simp,(eq_of_beq h).symm⟩
  |false =>rw[h]at e;obtain⟨q,hq,e'⟩:=xZ e;exact⟨q,qi _ hq,e'⟩
inductive RelK (K:PySem.W.Frag)(aD:List Addr)(H:Hp):List (Str×D)->List (Key×V)->Prop
 |nil:RelK K aD H [] []
 |cons {x:Str} {d:D} {v:V} {fs:List (Str×D)} {vs:List (Key×V)}:Rel K aD H d v->RelK K aD H fs vs->RelK K aD H ((x,d)::fs) ((.inr x,v)::vs)
inductive zT {κ:Type}(K:PySem.W.Frag)(aD:List Addr)(H:Hp):List (κ×D)->List (κ×V)->Prop
 |nil:zT K aD H [] []
 |cons {x:κ} {d:D} {v:V} {fs:List (κ×D)} {vs:List (κ×V)}:Rel K aD H d v->zT K aD H fs vs->zT K aD H ((x,d)::fs) ((x,v)::vs)
theorem RelK.wr {K:PySem.W.Frag}(w:Wr aD H aD' H'):∀ {fs:List (Str×D)} {vs:List (Key×V)},RelK K aD H fs vs->RelK K aD' H' fs vs
 |_,_,.nil=>.nil
 |_,_,.cons r t=>.cons (Rel.wr w r) (RelK.wr w t)
theorem zT.wr {κ:Type}{K:PySem.W.Frag}(w:Wr aD H aD' H'):∀ {fs:List (κ×D)} {vs:List (κ×V)},zT K aD H fs vs->zT K aD' H' fs vs
 |_,_,.nil=>.nil
 |_,_,.cons r t=>.cons (Rel.wr w r) (zT.wr w t)
def Wm (K:PySem.W.Frag)(aD:List Addr)(H:Hp)(a:Addr):Cell->Prop
 |.lst ds=>∃ vs,H a=some (.lst vs)/\zf K aD H ds vs
 |.ins c fs=>∃ C dx vs,H a=some (.ins C dx vs)/\Cls K C/\PySem.W.nsIn K mainGlobals c=some (some (.ref C))/\Zq K aD H fs vs/\∀ q∈fs,VD K C q.1
 |.dk Z8=>∃ vs,H a=some (.dK vs)/\RelK K aD H Z8 vs
 |.dt Z8=>∃ vs,H a=some (.dT vs)/\zT K aD H Z8 vs
 |.dn Z8 ep=>∃ vs,H a=some (.dN vs ep)/\zT K aD H Z8 vs
 | .tab x l c=>∃ ps cd,H a=some (.tbl ps)/\PySem.W.tabIn K x=some (cd,a)/\ï H ps l c (x++".<locals>."++"<lambda>")
def zqQ (g:Fw H v q)(w:Wr aD H aD' H'):Fw H' v q :=by obtain⟨c,oc,vs,t,u,e,h,r⟩:=g;exact⟨c,oc,vs,t,u,e,w.frz _ _ _ h,r⟩
class Bs where
 aD:List Addr
 H:Hp
structure zp [B:Bs](K:PySem.W.Frag)(aD:List Addr)(H:Hp)(S:Z7):Prop where
 wd:Wd B.aD B.H aD H
 len:aD.length=S.length
 nd:aD.Nodup
 cell:∀ (n:Nat) (a:Addr) (c:Cell),aD[n]?=some a->S[n]?=some c->Wm K aD H a c
structure zY (K:PySem.W.Frag)(aD:List Addr)(H:Hp)(Z:Z1)(U:L2.St):Prop where
 len:Z.length=U.length
 val:∀ (i:Nat) (d:D),Z[i]?=some (some d)->∃ v,U[i]?=some (some v)/\Rel K aD H d v
theorem zY.wd {K:PySem.W.Frag}(h:zY K aD H Z U)(w:Wd aD H aD' H'):zY K aD' H' Z U :=⟨h.len,fun i d e=>by obtain⟨v,e',r⟩:=h.val i d e;exact⟨v,e',r.wd w⟩⟩
variable [B:Bs]
section
variable {K:PySem.W.Frag}{aD:List Addr}{H:Hp}{S:Z7}
def zp.get (st:zp K aD H S){n:Nat}{c:Cell}(h:S[n]?=some c):∃ a,aD[n]?=some a/\Wm K aD H a c:=by
 have hn:n<aD.length:=by rw[st.len];exact My.Wk h
 exact⟨aD[n],qb hn,st.cell n _ c (qb hn) h⟩
theorem Wm.some (h:Wm K aD H a c):∃ o,H a=some o:=by
 cases c with
 |lst ds=>obtain⟨vs,e,_⟩:=h;exact⟨_,e⟩
 |ins c fs=>obtain⟨C,dx,vs,e,_⟩:=h;exact⟨_,e⟩
 |dk Z8=>obtain⟨vs,e,_⟩:=h;exact⟨_,e⟩
 |dt Z8=>obtain⟨vs,e,_⟩:=h;exact⟨_,e⟩
 |dn Z8 ep=>obtain⟨vs,e,_⟩:=h;exact⟨_,e⟩
 |tab x l c=>obtain⟨ps,cd,e,_⟩:=h;exact⟨_,e⟩
def zp.there (st:zp K aD H S){a:Addr}(h:a∈aD):∃ o,H a=some o:=by
 obtain⟨n,hn,e⟩:=qH.mp h;have e':aD[n]?=some a:=by rw[qb hn,e]
 have hs:n<S.length:=by rw[<- st.len];exact hn
 exact(st.cell n a S[n] e' (qb hs)).some
def zp.fresh (st:zp K aD H S)(h:H l=none):l∉aD:=fun m=>by obtain⟨o,e⟩:=st.there m;rw[h]at e;cases e
theorem Wm.wr (h:Wm K aD H a c)(w:Wr aD H aD' H')(same:H' a=H a):Wm K aD' H' a c:=by
 cases c with
 |lst ds=>obtain⟨vs,e,r⟩:=h;exact⟨vs,same.trans e,zf.wr w r⟩
 |ins c fs=>obtain⟨C,dx,vs,e,c1,c2,r,n⟩:=h;exact⟨C,dx,vs,same.trans e,c1,c2,Zq.wr w r,n⟩
 |dk Z8=>obtain⟨vs,e,r⟩:=h;exact⟨vs,same.trans e,RelK.wr w r⟩
 |dt Z8=>obtain⟨vs,e,r⟩:=h;exact⟨vs,same.trans e,zT.wr w r⟩
 |dn Z8 ep=>obtain⟨vs,e,r⟩:=h;exact⟨vs,same.trans e,zT.wr w r⟩
 |tab x l c=>obtain⟨ps,cd,e,t,g⟩:=h;exact⟨ps,cd,same.trans e,t,g.imp id fun zq24=>by obtain⟨c,e,g⟩:=zq24;exact⟨c,e,zqQ g w⟩⟩
def Wm.wd (h:Wm K aD H a c)(w:Wd aD H aD' H')(same:H' a=H a):Wm K aD' H' a c:=h.wr w.wr same
def Wd.laid {o:HO}(h:H l=none):Wd aD H aD (upd H l o) :=⟨Pb _,fun b u _ e=>Vv h e,fun b u e=>Vv h e,fun b u w e=>Vv h e,fun _ m n=>absurd m n⟩
def zp.bfree (st:zp K aD H S)(h:H p=none):B.H p=none:=by
 cases e:B.H p with
 |none=>rfl
 |some o =>
  by_cases m:p∈B.aD
  ·obtain⟨u,hu⟩:=st.there (st.wd.pre.subset m);rw[h]at hu;cases hu
  ·rw[st.wd.keep p o m e]at h;cases h
theorem zp.laid (st:zp K aD H S){o:HO}(h:H l=none):zp K aD (upd H l o) S :=
 ⟨st.wd.trans (Wd.laid h),st.len,st.nd,fun n a c e1 e2=>(st.cell n a c e1 e2).wd (Wd.laid h) (by obtain⟨u,e⟩:=(st.cell n a c e1 e2).some;rw[Vv h e,e])⟩
def Wd.newL (st:zp K aD H S){o:HO}(h:H l=none):Wd aD H (aD++[l]) (upd H l o) :=
 ⟨Oi _ _,fun b u _ e=>Vv h e,fun b u e=>Vv h e,fun b u w e=>Vv h e,fun b m n=>by
  rcases qC.mp m with m|m
  ·exact absurd m n
  ·have:b=l:=by simpa using m
   subst this;exact h⟩
theorem zp.newL (st:zp K aD H S)(h:H l=none)(r:zf K aD H ds vs):zp K (aD++[l]) (upd H l (.lst vs)) (S++[.lst ds]) where
 wd:=st.wd.trans (Wd.newL st h)
 len:=by rw[qf,qf,st.len];rfl
 nd:=by
  rw[W2];refine⟨st.nd,by simp,fun a ha b hb e=>?_⟩;have:b=l:=by simpa using hb
  subst this;subst e;exact st.fresh h ha
 cell:=fun n a c e1 e2=>by
  by_cases hn:n<aD.length
  ·rw[qg hn]at e1;rw[qg (by rw[<- st.len];exact hn)]at e2;have ok:=st.cell n a c e1 e2;obtain⟨u,e⟩:=ok.some;exact ok.wd (Wd.newL st h) (by rw[Vv h e,e])
  ·have hn':aD.length<=n:=Rc hn;rw[qe hn']at e1;rw[qe (by rw[<- st.len];exact hn'),<- st.len]at e2;cases hk:n-aD.length with
   |zero =>
    rw[hk]at e1 e2;have e1':l=a:=by simpa using e1
    have e2':Cell.lst ds=c:=by simpa using e2
    subst e1' e2';exact⟨vs,zL,r.wd (Wd.newL st h)⟩
   |succ k=>rw[hk]at e1;simp at e1
def zp.newRef (st:zp K aD H S){l:Addr}{o:HO}:Rel K (aD++[l]) (upd H l o) (.ref S.length) (.ref l):=.ref (by rw[<- st.len,qe (qh _),Yp];rfl)
def Wd.put {n:Nat}{a:Addr}{vs ws:List V}(e:aD[n]?=some a)(h:H a=some (.lst vs)):Wd aD H aD (upd H a (.lst ws)) :=
 ⟨Pb _,fun b u hb q=>by
   have:b≠a:=fun z=>hb (by rw[z];exact qc e)
   rw[zu this];exact q,
  fun b xs q=>by rw[zu (VP q h (by intro z;cases z))];exact q,fun b o u q=>by rw[zu (VP q h (by intro z;cases z))];exact q,fun _ m n=>absurd m n⟩
theorem zp.put (st:zp K aD H S){n:Nat}{a:Addr}{vs:List V}(e:aD[n]?=some a)(h:H a=some (.lst vs))(r:zf K aD H ds ws):zp K aD (upd H a (.lst ws)) (S.set n (.lst ds)) where
 wd:=st.wd.trans (Wd.put e h)
 len:=by rw[WY];exact st.len
 nd:=st.nd
 cell:=fun m b c e1 e2=>by
  have w:=Wd.put (ws:=ws) e h;by_cases hm:m=n
  ·subst hm;rw[e]at e1;cases e1;rw[qR (by rw[<- st.len];exact My.Wk e)]at e2;cases e2;exact⟨ws,zL,r.wd w⟩
  ·rw[qQ (Ne.symm hm)]at e2
   have ne:b≠a:=fun z=>by subst z;have h1:=My.Wk e1;have h2:=My.Wk e;have q1:=(qX.mp e1).2;have q2:=(qX.mp e).2;exact hm ((Q8 st.nd).mp (q1.trans q2.symm))
   exact(st.cell m b c e1 e2).wd w (zu ne)
def zp.newI (st:zp K aD H S){C:Addr}(h:H x=none)(h2:H dx=none)(hne:dx≠x)(hc:Cls K C)(hn:PySem.W.nsIn K mainGlobals c=some (some (.ref C))) :
  Wd aD H (aD++[x]) (upd (upd H dx (.own x)) x (.ins C dx []))/\zp K (aD++[x]) (upd (upd H dx (.own x)) x (.ins C dx [])) (S++[.ins c []]):=by
 have st1:=st.laid (o:=.own x) h2;have hx:upd H dx (.own x) x=none:=by rw[zu (Ne.symm hne)];exact h
 have w1:Wd aD H aD (upd H dx (.own x)):=Wd.laid h2;have w2:Wd aD (upd H dx (.own x)) (aD++[x]) (upd (upd H dx (.own x)) x (.ins C dx [])):=Wd.newL st1 hx;refine⟨w1.trans w2,st.wd.trans (w1.trans w2),?_,?_,fun n a c' e1 e2=>?_⟩
 ·rw[qf,qf,st.len];rfl
 ·rw[W2];refine⟨st.nd,by simp,fun a ha b hb e=>?_⟩;have:b=x:=by simpa using hb
  subst this;subst e;exact st.fresh h ha
 ·by_cases hn':n<aD.length
  ·rw[qg hn']at e1;rw[qg (by rw[<- st.len];exact hn')]at e2;have ok:=st1.cell n a c' e1 e2;obtain⟨u,e⟩:=ok.some;exact ok.wd w2 (by rw[Vv hx e,e])
  ·have hn':aD.length<=n:=Rc hn';rw[qe hn']at e1;rw[qe (by rw[<- st.len];exact hn'),<- st.len]at e2;cases hk:n-aD.length with
   |zero =>
    rw[hk]at e1 e2;have e1':x=a:=by simpa using e1
    have e2':Cell.ins c []=c':=by simpa using e2
    subst e1' e2';exact⟨C,dx,[],zL,hc,hn,.nil,fun q hq=>by cases hq⟩
   |succ k=>rw[hk]at e1;simp at e1
def Wd.putI {n:Nat}{a C dx C' dx':Addr}{vs ws:List (Str×V)}(e:aD[n]?=some a)(h:H a=some (.ins C dx vs)):Wd aD H aD (upd H a (.ins C' dx' ws)) :=
 ⟨Pb _,fun b u hb q=>by
   have:b≠a:=fun z=>hb (by rw[z];exact qc e)
   rw[zu this];exact q,
  fun b xs q=>by rw[zu (VP q h (by intro z;cases z))];exact q,fun b o u q=>by rw[zu (VP q h (by intro z;cases z))];exact q,fun _ m n=>absurd m n⟩
theorem zp.putI (st:zp K aD H S){n:Nat}{a C dx:Addr}{vs:List (Str×V)}{fs:List (Str×D)}(e:aD[n]?=some a)(h:H a=some (.ins C dx vs))(hc:Cls K C)(hn:PySem.W.nsIn K mainGlobals c=some (some (.ref C)))(rf:Zq K aD H fs vs)(hna:∀ q∈fs,VD K C q.1)(hf:VD K C f)(r:Rel K aD H d v) :
  zp K aD (upd H a (.ins C dx (YF f v vs))) (S.set n (.ins c (putD f d fs))) where
 wd:=st.wd.trans (Wd.putI e h)
 len:=by rw[WY];exact st.len
 nd:=st.nd
 cell:=fun m b c' e1 e2=>by
  have w:Wd aD H aD (upd H a (.ins C dx (YF f v vs))):=Wd.putI e h;by_cases hm:m=n
  ·subst hm;rw[e]at e1;cases e1;rw[qR (by rw[<- st.len];exact My.Wk e)]at e2;cases e2;refine⟨C,dx,_,zL,hc,hn,Zq.wr w.wr (Zq.put r rf),fun q hq=>?_⟩;rcases yx hq with h1|h1
   ·rw[h1];exact hf
   ·exact hna q h1
  ·rw[qQ (Ne.symm hm)]at e2
   have ne:b≠a:=fun z=>by subst z;have q1:=(qX.mp e1).2;have q2:=(qX.mp e).2;exact hm ((Q8 st.nd).mp (q1.trans q2.symm))
   exact(st.cell m b c' e1 e2).wd w (zu ne)
def Wd.hid {o:HO}(w:Wd aD H aD' H')(hp:H p=none):Wd aD H aD' (upd H' p o) :=⟨w.pre,fun b u hb q=>by rw[zu (Ut q hp)];exact w.keep b u hb q,fun b u q=>by rw[zu (Ut q hp)];exact w.tup b u q,fun b u v q=>by rw[zu (Ut q hp)];exact w.frz b u v q,w.new⟩
def Wr.hid {vs ws:List V}(h:H p=some (.lst vs)):Wr aD H aD (upd H p (.lst ws)) :=⟨Pb _,fun b xs q=>by rw[zu (VP q h (by intro z;cases z))];exact q,fun b o u q=>by rw[zu (VP q h (by intro z;cases z))];exact q⟩
theorem zp.hid (st:zp K aD H S){vs ws:List V}(h:H p=some (.lst vs))(hp:p∉aD)(hb:B.H p=none):zp K aD (upd H p (.lst ws)) S :=⟨st.wd.hid hb,st.len,st.nd,fun n a c e1 e2=>(st.cell n a c e1 e2).wr (Wr.hid h) (zu fun z=>hp (by rw[<- z];exact qc e1))⟩
def Wd.add (w:Wd aD H aD' H')(hp:H p=none):Wd aD H (aD'++[p]) H' :=
 ⟨w.pre.trans (Oi _ _),w.keep,w.tup,w.frz,fun b m n=>by
  rcases qC.mp m with m|m
  ·exact w.new b m n
  ·have:b=p:=by simpa using m
   subst this;exact hp⟩
theorem zp.add (st:zp K aD H S){vs:List V}(h:H p=some (.lst vs))(hp:p∉aD)(r:zf K aD H ds vs)(hb:B.H p=none):zp K (aD++[p]) H (S++[.lst ds]) where
 wd:=st.wd.add hb
 len:=by rw[qf,qf,st.len];rfl
 nd:=by
  rw[W2];refine⟨st.nd,by simp,fun a ha b hb e=>?_⟩;have:b=p:=by simpa using hb
  subst this;subst e;exact hp ha
 cell:=fun n a c e1 e2=>by
  have w:Wr aD H (aD++[p]) H:=⟨Oi _ _,fun _ _ q=>q,fun _ _ _ q=>q⟩
  by_cases hn:n<aD.length
  ·rw[qg hn]at e1;rw[qg (by rw[<- st.len];exact hn)]at e2;exact(st.cell n a c e1 e2).wr w rfl
  ·have hn':aD.length<=n:=Rc hn;rw[qe hn']at e1;rw[qe (by rw[<- st.len];exact hn'),<- st.len]at e2;cases hk:n-aD.length with
   |zero =>
    rw[hk]at e1 e2;have e1':p=a:=by simpa using e1
    have e2':Cell.lst ds=c:=by simpa using e2
    subst e1' e2';exact⟨vs,h,zf.wr w r⟩
   |succ k=>rw[hk]at e1;simp at e1
theorem Lst.sq (st:zp K aD H S)(h:Lst S x xs)(r:Rel K aD H x v):∃ a vs,v=.ref a/\ZC K H a vs/\zf K aD H xs vs:=by
 rcases h with rfl|⟨n,rfl,h⟩
 ·cases r with
  |rl h r=>exact⟨_,_,rfl,h.sq,r⟩
 ·cases r with
  |ref e =>obtain⟨vs,e2,r⟩:=st.cell n _ _ e h;exact⟨_,vs,rfl,ZC.of e2,r⟩
theorem Ss.sq (st:zp K aD H S)(h:Ss S x xs)(r:Rel K aD H x v):∃ a vs,v=.ref a/\(ZC K H a vs\/ZQ K H a vs)/\zf K aD H xs vs:=by
 rcases h with rfl|h
 ·cases r with
  |tup h r=>exact⟨_,_,rfl,.inr (ZQ.of h),r⟩
 ·obtain⟨a,vs,e,s,r⟩:=Lst.sq st h r;exact⟨a,vs,e,.inl s,r⟩
end
omit B in
def ZV {a b c d:Type}{p1 p2 p3 p4:a->b->c->d->Prop}{R:Prop}(h:∃ (x:a) (y:b) (z:c) (w:d),p1 x y z w/\p2 x y z w/\p3 x y z w/\p4 x y z w)(f:∀ (x:a) (y:b) (z:c) (w:d),p1 x y z w->p2 x y z w->p3 x y z w->p4 x y z w->R):R :=Exists.elim h fun x h=>Exists.elim h fun y h=>Exists.elim h fun z h=>Exists.elim h fun w h=>f x y z w h.1 h.2.1 h.2.2.1 h.2.2.2
def KK (K:PySem.W.Frag)(aD:List Addr)(H:Hp)(Q0:DK)(Q:VK):Prop:=∀ d S' v H' aD',Q0 d S'->Wd aD H aD' H'->zp K aD' H' S'->Rel K aD' H' d v->Q v H'
def KK.wd {K:PySem.W.Frag}(k:KK K aD H Q0 Q)(w:Wd aD H aD' H'):KK K aD' H' Q0 Q:=fun d S' v H' aD' q w'=>k d S' v H' aD' q (w.trans w')
def up (K:PySem.W.Frag)(t:DE):TE:=fun U H Q=>∃ aD Z S Q0,zp K aD H S/\zY K aD H Z U/\t Z S Q0/\KK K aD H Q0 Q
def Ox (K:PySem.W.Frag)(t:DT):TT:=fun U H Q=>∃ aD Z S Q0,zp K aD H S/\zY K aD H Z U/\t Z S Q0/\∀ b S' H' aD',Q0 b S'->Wd aD H aD' H'->zp K aD' H' S'->Q b H'
def Η (K:PySem.W.Frag)(t:DA):TA:=fun U H Q=>∃ aD Z S Q0,zp K aD H S/\zY K aD H Z U/\t Z S Q0/\∀ ds S' vs H' aD',Q0 ds S'->Wd aD H aD' H'->zp K aD' H' S'->zf K aD' H' ds vs->Q vs H'
def zp.base {K:PySem.W.Frag}(st:zp K aD H S):@zp ⟨aD,H⟩ K aD H S:=@zp.mk ⟨aD,H⟩ _ _ _ _ Wd.refl st.len st.nd st.cell
def zp.back {K:PySem.W.Frag}{aD':List Addr}{H':Hp}{S':Z7}(st:zp K aD H S)(st':@zp ⟨aD,H⟩ K aD' H' S'):zp K aD' H' S' :=⟨st.wd.trans (@zp.wd ⟨aD,H⟩ _ _ _ _ st'),@zp.len ⟨aD,H⟩ _ _ _ _ st',@zp.nd ⟨aD,H⟩ _ _ _ _ st',@zp.cell ⟨aD,H⟩ _ _ _ _ st'⟩
def KK.base {K:PySem.W.Frag}(st:zp K aD H S)(k:KK K aD H Q0 Q):@KK ⟨aD,H⟩ K aD H Q0 Q:=fun d S' v H' aD' q w st' r=>k d S' v H' aD' q w (st.back st') r
def Xr (K:PySem.W.Frag)(f:ZX):Sp:=fun vs H Q _=>∃ aD S ds Q0,@zp ⟨aD,H⟩ K aD H S/\zf K aD H ds vs/\f ds S Q0/\@KK ⟨aD,H⟩ K aD H Q0 Q
structure JL (K:PySem.W.Frag)(aD:List Addr)(H:Hp)(E0:Lg)(E:Ends):Prop where
 nx:∀ Z S U H' aD',E0.nx Z S->Wd aD H aD' H'->zp K aD' H' S->zY K aD' H' Z U->E.nx U H'
 rt:KK K aD H E0.rt E.rt
 bk:∀ Z S U H' aD',E0.bk Z S->Wd aD H aD' H'->zp K aD' H' S->zY K aD' H' Z U->E.bk U H'
 ct:∀ Z S U H' aD',E0.ct Z S->Wd aD H aD' H'->zp K aD' H' S->zY K aD' H' Z U->E.ct U H'
theorem JL.wd {K:PySem.W.Frag}{E0:Lg}(k:JL K aD H E0 E)(w:Wd aD H aD' H'):JL K aD' H' E0 E :=⟨fun Z S U H' aD' q w'=>k.nx Z S U H' aD' q (w.trans w'),k.rt.wd w,fun Z S U H' aD' q w'=>k.bk Z S U H' aD' q (w.trans w'),fun Z S U H' aD' q w'=>k.ct Z S U H' aD' q (w.trans w')⟩
def wj (K:PySem.W.Frag)(t:DS):TS:=fun E U H=>∃ aD Z S E0,zp K aD H S/\zY K aD H Z U/\t E0 Z S/\JL K aD H E0 E
@[irreducible] def PD (X:Cx)(e:Expr)(t:DE):Prop:=PE X e (up X.K t)
@[irreducible] def YK (X:Cx)(e:Expr)(t:DT):Prop:=PT X e (Ox X.K t)
@[irreducible] def Us (X:Cx)(e:Expr)(t:DT):Prop:=PW X e (Ox X.K t)
@[irreducible] def PAD (X:Cx)(es:List Expr)(t:DA):Prop:=PA X es (Η X.K t)
@[irreducible] def Zv (X:Cx)(st:Stmt)(t:DS):Prop:=PS X st (wj X.K t)
@[irreducible] def W3 (X:Cx)(st:List Stmt)(t:DS):Prop:=XS X st (wj X.K t)
def zqK {e:Expr}{t t':TE}(h:PE X e t)(m:∀ U H Q,t' U H Q->t U H Q):PE X e t':=fun Z9 s U H Q I q=>h Z9 s U H Q I (m U H Q q)
def Qt {e:Expr}{t t':TT}(h:PT X e t)(m:∀ U H Q,t' U H Q->t U H Q):PT X e t':=fun Z9 s U H Q I q=>h Z9 s U H Q I (m U H Q q)
def wK {e:Expr}{t t':TT}(h:PW X e t)(m:∀ U H Q,t' U H Q->t U H Q):PW X e t':=fun wh Z9 s U H Q I q=>h wh Z9 s U H Q I (m U H Q q)
def Ay {e:List Expr}{t t':TA}(h:PA X e t)(m:∀ U H Q,t' U H Q->t U H Q):PA X e t':=fun pos Z9 s U H Q I q=>h pos Z9 s U H Q I (m U H Q q)
def Ye {st:Stmt}{t t':TS}(h:PS X st t)(m:∀ D U H,t' D U H->t D U H):PS X st t':=fun Z9 s U H D I q=>h Z9 s U H D I (m D U H q)
def rG {st:List Stmt}{t t':TS}(h:XS X st t)(m:∀ D U H,t' D U H->t D U H):XS X st t':=fun Z9 s U H D I q=>h Z9 s U H D I (m D U H q)
section
variable {X:Cx}{a b c:Expr}{ta tb tc:DE}{pos:Pos}
def zV {e:Expr}{t:TE}{d:DE}(h:PE X e t)(m:∀ U H Q,up X.K d U H Q->t U H Q):PD X e d:=by with_unfolding_all exact(zqK h m)
def Ü {e:Expr}{i:Nat}(h:PE X e (rD i)):PD X e (X6 i):=by with_unfolding_all exact(zV h fun U H Q zq25=>by obtain⟨aD,Z,S,Q0,st,rh,⟨d,e,q⟩,k⟩:=zq25;obtain⟨v,ev,r⟩:=rh.val i d e;exact⟨v,ev,k d S v H aD q Wd.refl st r⟩)
def Tz {e:Expr}{v:V}{d:D}(h:PE X e (tC v))(r:∀ aD H,Rel X.K aD H d v):PD X e (dC d):=by with_unfolding_all exact(zV h fun U H Q hh=>ZV hh fun aD Z S Q0 st rh q k=>k d S v H aD q Wd.refl st (r _ _))
def ś {i j}:PD X (.Constant (.int i) j pos) (dC (.int i)):=by with_unfolding_all exact(Tz Cq fun _ _=>.int i)
def zv2 {b j}:PD X (.Constant (.bool b) j pos) (dC (.bl b)):=by with_unfolding_all exact(Tz iH fun _ _=>.bl b)
def Ů {j}:PD X (.Constant .none j pos) (dC .non):=by with_unfolding_all exact(Tz zuJ fun _ _=>.non)
def wH {x j}:PD X (.Constant (.str x) j pos) (dC (.str x)):=by with_unfolding_all exact(Tz ĭ fun _ _=>.str x)
def Ϛ {T:String}(hg:Gl X x)(hm:X.mg x=none)(hv:bootBuiltins x=some (.type T))(hn:autoParam (x≠"__name__") zQ)(hd:autoParam ((x==("__debug__":Str))=false) zQ):PD X (.Name x pos) (dC (.ty T)):=by with_unfolding_all exact(Tz (ϯ hg hm hv hn hd) fun _ _=>.ty T)
def aP {n:Int}(hg:Gl X x)(hm:∃ t,X.mg x=some (.int n t))(hd:autoParam ((x==("__debug__":Str))=false) zQ):PD X (.Name x pos) (dC (.int n)):=by with_unfolding_all exact(Tz (Ě hg hm hd) fun _ _=>.int n)
def zrK {z:Str}(hg:Gl X x)(hm:∃ t,X.mg x=some (.str z t))(hd:autoParam ((x==("__debug__":Str))=false) zQ):PD X (.Name x pos) (dC (.str z)):=by with_unfolding_all exact(Tz (by obtain⟨t,hm⟩:=hm;exact pI (v:=.str z) hg hm ⟨t,rfl⟩ hd) fun _ _=>.str z)
def Ä {i j:Int}{m n:Nat}{p1 p2:Pos}(c:Int)(h:i ^ j.toNat=c)(h0:0<=j/\j<=1000000/\i.natAbs<2 ^ 64):PD X (.BinOp (.Constant (.int i) m p1) .Pow (.Constant (.int j) n p2) pos) (dC (.int c)):=by with_unfolding_all exact(Tz (cM c h h0) fun _ _=>.int c)
def OD (K:PySem.W.Frag)(r':Zu)(r:R2):Prop:=∀ aD H S x y v u Q0 Q,zp K aD H S->Rel K aD H x v->Rel K aD H y u->r' x y S Q0->KK K aD H Q0 Q->r v u H Q
def JB {K:PySem.W.Frag}(o:OD K r' r){U:L2.St}{H:Hp}{Q:VK}(h:up K (Z6 r' ta tb) U H Q):Nh r (up K ta) (up K tb) U H Q:=by obtain⟨aD,Z,S,Q0,st,rh,q,k⟩:=h;refine⟨aD,Z,S,_,st,rh,q,fun x S1 v H1 ad1 q1 w1 st1 r1=>?_⟩;refine⟨ad1,Z,S1,_,st1,rh.wd w1,q1,fun y S2 u H2 ad2 q2 w2 st2 r2=>?_⟩;exact o ad2 H2 S2 x y v u Q0 Q st2 (r1.wd w2) r2 q2 (k.wd (w1.trans w2))
def Mf {op:Operator}(ho:ZL X (binaryOp op) r)(o:OD X.K r' r)(ha:PD X a ta)(hb:PD X b tb):PD X (.BinOp a op b pos) (Z6 r' ta tb):=by with_unfolding_all exact(zV (oA ho ha hb) fun _ _ _=>JB o)
def JH {K:PySem.W.Frag}{C C':Int->Int->Prop}{g:Int->Int->D}{g':Int->Int->V}(hc:∀ i j,C i j->C' i j)(hg:∀ aD H i j,Rel K aD H (g i j) (g' i j)):OD K (oI C g) (rI C' g'):=fun aD H S x y v u Q0 Q st rx ry zq26 k=>by obtain⟨i,j,ex,ey,c,q⟩:=zq26;subst ex ey;cases rx;cases ry;exact⟨i,j,rfl,rfl,hc i j c,k _ S _ H aD q Wd.refl st (hg aD H i j)⟩
def Nj {K:PySem.W.Frag}{g:Int->Int->D}{g':Int->Int->V}(hg:∀ aD H i j,Rel K aD H (g i j) (g' i j)):OD K (PL g) (U0 g'):=fun aD H S x y v u Q0 Q st rx ry zq27 k=>by obtain⟨i,j,ex,ey,q⟩:=zq27;subst ex ey;cases rx;cases ry;exact⟨i,j,rfl,rfl,k _ S _ H aD q Wd.refl st (hg aD H i j)⟩
def Bx {i:Int}(h:i.natAbs<2 ^ 64):-(2 ^ 64)<i/\i<2 ^ 64:=⟨by lia,by lia⟩
def Ÿ (i j:Int):Prop:=Y4 i j
def iB:ZL X (binaryOp .Mult) (rI Ÿ fun i j=>.int (i*j)):=Oq fun i j _ _ _ _ _ hc q=>by
 rcases hc with h|h|h
 ·exact mul_int q (IntMulOk.of_bits (vJ h.1) (vJ h.2))
 ·exact mul_int q (J5.ok (.inl (Bx h)))
 ·exact mul_int q (J5.ok (.inr (Bx h)))
def zt3 (ha:PD X a ta)(hb:PD X b tb):PD X (.BinOp a .Sub b pos) (Z6 Zm ta tb):=by with_unfolding_all exact(Mf bC (Nj fun _ _ i j=>.int (i-j)) ha hb)
def Ċ {z:Str}{n:Int}(hz:z.length<=1000)(h0:-1000<=n)(h1:n<=1000):MulOk z n:=by
 refine⟨?_,fun _ _=>?_,fun h _=>?_⟩
 ·rw[decide_eq_false (by lia),decide_eq_false (by lia)];rfl
 ·have:(1000:Int)<=(2 ^ 63-1)/n\/n<1:=by
   rcases Int.lt_or_le n 1 with g|g
   ·exact .inr g
   ·exact .inl ((Int.le_ediv_iff_mul_le (by lia)).mpr (by lia))
  lia
 ·have:z.length*n.toNat<=1000*1000:=Og hz (by lia);have hs:z.length*n.toNat<=sizeLine:=qV this (by decide)
  first
   |exact decide_eq_false (by lia)
   |(unfold tooLong;exact decide_eq_false (by lia))
   |simp[tooLong];lia
def zqN:ZL X (binaryOp .Mult) (fun x y H Q=>∃ z n,x=.str z/\y=.int n/\MulOk z n/\Q (.str (Txt.mul z n)) H):=by intro Z9 s U H x y v u Q I rx ry h;obtain⟨z,n,rfl,rfl,ok,q⟩:=h;obtain⟨t,rfl⟩:=rx;obtain⟨t',rfl⟩:=ry;exact SB.mul ok fun t' k=>⟨.str (Txt.mul z n),H,I.tok _,⟨_,rfl⟩,q⟩
omit B in
def rP (h:Hg i):Builtin.Int.intBits i<=2 ^ 20:=by unfold Hg at h;exact intBits_le h
omit B in
def iT (h:Builtin.Int.intBits i<=2 ^ 20):Hg i:=by unfold Hg;exact qE (natAbs_lt_pow_bits i) (Nat.pow_le_pow_right (by decide) h)
def œ:ZL X (binaryOp .Mult) (rI (fun i j=>Hg i/\Hg j) fun i j=>.int (i*j)):=Oq fun i j _ _ _ _ _ hc q=>mul_int q (IntMulOk.of_bits (rP hc.1) (rP hc.2))
def zt2 (ha:PD X a ta)(hb:PD X b tb):PD X (.BinOp a .Mult b pos) (Z6 Y5 ta tb):=by with_unfolding_all exact(Mf (iB.or (zqN.or œ)) (fun aD H S x y v u Q0 Q st rx ry h k=>by
 rcases h with h|⟨z,n,rfl,rfl,hz,h0,h1,q⟩|h
 ·exact .inl (JH (fun _ _ h=>h) (fun _ _ i j=>.int (i*j)) aD H S x y v u Q0 Q st rx ry h k)
 ·cases rx;cases ry;exact .inr (.inl ⟨z,n,rfl,rfl,Ċ hz h0 h1,k _ S _ H aD q Wd.refl st (.str _)⟩)
 ·exact .inr (.inr (JH (fun _ _ h=>h) (fun _ _ i j=>.int (i*j)) aD H S x y v u Q0 Q st rx ry h k))) ha hb)
def zs4 (ha:PD X a ta)(hb:PD X b tb):PD X (.BinOp a .FloorDiv b pos) (Z6 oDiv ta tb):=by with_unfolding_all exact(Mf š (JH (fun _ _ h=>h) fun _ _ i j=>.int (i.fdiv j)) ha hb)
def cU (ha:PD X a ta)(hb:PD X b tb):PD X (.BinOp a .Mod b pos) (Z6 oMod ta tb):=by with_unfolding_all exact(Mf iK (JH (fun _ _ h=>h) fun _ _ i j=>.int (i.fmod j)) ha hb)
def Uk {n:Nat}(h:n<=big):n<=sizeLine:=qV h (by decide)
def Mg {n:Nat}(h:n<big):n<sizeLine:=qE h (by decide)
def K3 {K:PySem.W.Frag}(st:zp K aD H S)(k:KK K aD H Q0 Q)(r:zf K aD H ds vs)(q:Q0 (.ref S.length) (S++[.lst ds]))(l:Addr)(h:H l=none):Q (.ref l) (upd H l (.lst vs)) :=k _ _ _ _ _ q (Wd.newL st h) (st.newL h r) st.newRef
def Hr {K:PySem.W.Frag}(st:zp K aD H S)(k:KK K aD H Q0 Q)(r:zf K aD H ds vs)(q:Q0 (.tup ds) S)(l:Addr)(h:H l=none):Q (.ref l) (upd H l (.tup vs)) :=k _ _ _ _ _ q (Wd.laid h) (st.laid h) (.tup zL (r.wd (Wd.laid h)))
def zsM (ha:PD X a ta)(hb:PD X b tb):PD X (.BinOp a .Add b pos) (Z6 Zr ta tb):=by with_unfolding_all exact(Mf (ztA.or ((ĺ rfl).or ((ĥ rfl).or dJ))) (fun aD H S x y v u Q0 Q st rx ry h k=>by
  rcases h with⟨i,j,rfl,rfl,q⟩|⟨xs,ys,rfl,rfl,hz,q⟩|⟨xs,ys,hx,hy,hz,q⟩|⟨i,j,rfl,rfl,hz,q⟩
  ·cases rx;cases ry;exact .inl ⟨i,j,rfl,rfl,k _ S _ H aD q Wd.refl st (.int _)⟩
  ·cases rx with
   |tup h1 r1 =>
    cases ry with
    |tup h2 r2 =>
     have l1:=r1.length;have l2:=r2.length;refine .inr (.inl ⟨_,_,_,_,rfl,rfl,ZQ.of h1,ZQ.of h2,by rw[<- l1,<- l2];exact Uk hz,fun e=>?_,fun _ e=>?_,fun _ _ p hp=>Hr st k (r1.append r2) q p hp⟩)
     ·have e':xs=[]:=HY.mp (by rw[l1,e];rfl);subst e';exact k _ S _ H aD q Wd.refl st (.tup h2 r2)
     ·have e':ys=[]:=HY.mp (by rw[l2,e];rfl);subst e';rw[Xn]at q;exact k _ S _ H aD q Wd.refl st (.tup h1 r1)
  ·obtain⟨a1,vs1,rfl,s1,r1⟩:=hx.sq st rx;obtain⟨a2,vs2,rfl,s2,r2⟩:=hy.sq st ry;exact .inr (.inr (.inl ⟨_,_,_,_,rfl,rfl,s1,s2,by rw[<- r1.length,<- r2.length];exact Uk hz,fun p hp=>K3 st k (r1.append r2) q p hp⟩))
  ·cases rx;cases ry;exact .inr (.inr (.inr ⟨i,j,rfl,rfl,Uk hz,k _ S _ H aD q Wd.refl st (.str _)⟩))) ha hb)
def cO (ha:PD X a ta):PD X (.UnaryOp .USub a pos) (Wu Wq ta):=by with_unfolding_all exact(zV (zwn jy ha) fun U H Q hh=>ZV hh fun aD Z S Q0 st rh q k=>by refine⟨aD,Z,S,_,st,rh,q,fun x S1 v H1 ad1 q1 w1 st1 r1=>?_⟩;obtain⟨i,rfl,q1⟩:=q1;cases r1;exact⟨i,rfl,k _ _ _ _ _ q1 w1 st1 (.int _)⟩)
def OC (X:Cx)(op:CmpOp)(r':Zu):Prop:=∃ r,ZL X (compareOp op) r/\OD X.K r' r
def ç:OC X .Lt oLt:=⟨_,zxx,Nj fun _ _ _ _=>.bl _⟩
def ġ:OC X .LtE oLe:=⟨_,ď,Nj fun _ _ _ _=>.bl _⟩
def kY:OC X .Gt Yg:=⟨_,zwg,Nj fun _ _ _ _=>.bl _⟩
def kE:OC X .GtE KD:=⟨_,zvR,Nj fun _ _ _ _=>.bl _⟩
mutual
def YG:D->PyData
 |.non=>.none
 |.bl b=>.bool b
 |.int i=>.int i
 |.str x=>.str x
 |.tup xs=>.tuple (Y6 xs)
 |.ref _=>.none
 |.ty _=>.none
 |.rl _=>.none
 |.exn _=>.none
 |.kt _=>.none
def Y6:List D->List PyData
 |[]=>[]
 |x::xs=>YG x::Y6 xs
end
section
variable {Z9:List (Addr×Obj)}{U:L2.St}{H:Hp}{s:Shared}{aD:List Addr}
def Kg (I:Inv X Z9 U H s)(k:Nat)(h1:∀ d v u,fl k d=true->Rel X.K aD H d v->RelV v u->∃ as,Reads s.heap u (YG d) as):∀ ds vs us,ds.all (fl k)=true->zf X.K aD H ds vs->Vals vs us->∃ as,ReadsAll s.heap us (Y6 ds) as:=by
 intro ds
 induction ds with
 |nil=>intro vs us _ r rv;cases r;cases rv;exact⟨_,.nil⟩
 |cons d ds ih =>
  intro vs us hf r rv;rw[Wg,qv]at hf;cases r with
  |cons r t =>
   cases rv with
   |cons q qt =>obtain⟨as,ra⟩:=h1 d _ _ hf.1 r q;obtain⟨bs,rb⟩:=ih _ _ hf.2 t qt;exact⟨_,.cons ra rb⟩
def RM (I:Inv X Z9 U H s):∀ (k:Nat) (d:D) (v:V) (u:Value),fl k d=true->Rel X.K aD H d v->RelV v u->∃ as,Reads s.heap u (YG d) as:=by
 intro k
 induction k with
 |zero =>
  intro d v u hf r q;cases r with
  |non=>cases q;exact⟨_,.none⟩
  |bl b=>cases q;exact⟨_,.bool b⟩
  |int i=>obtain⟨t,rfl⟩:=q;exact⟨_,.int i t⟩
  |str x=>obtain⟨t,rfl⟩:=q;exact⟨_,.str x t⟩
  |ty n=>cases hf
  |tup h r=>cases hf
  |rl h r=>cases hf
  |kt h r=>cases hf
  |ref h=>cases hf
  |exn _ _ _=>cases hf
 |succ k ih =>
  intro d v u hf r q;cases r with
  |non=>cases q;exact⟨_,.none⟩
  |bl b=>cases q;exact⟨_,.bool b⟩
  |int i=>obtain⟨t,rfl⟩:=q;exact⟨_,.int i t⟩
  |str x=>obtain⟨t,rfl⟩:=q;exact⟨_,.str x t⟩
  |ty n=>cases hf
  |tup h r =>cases q;obtain⟨its,rv,ht,hz⟩:=I.tuple (ZQ.of h);obtain⟨o,ho,hc,n,hd⟩:=ht;obtain⟨as,ra⟩:=Kg I k ih _ _ _ hf r rv;exact⟨_,.tuple ho hc hd (by simpa using ra)⟩
  |rl h r=>cases hf
  |kt h r=>cases hf
  |ref h=>cases hf
  |exn _ _ _=>cases hf
end
def Ko:∀ (k:Nat) (d:D),fl k d=true->(YG d).canLay0=true/\(YG d).depth<=k:=by
 have all:∀ k,(∀ d,fl k d=true->(YG d).canLay0=true/\(YG d).depth<=k)->∀ ds:List D,ds.all (fl k)=true->PyData.canLayAll0 (Y6 ds)=true/\PyData.depthAll (Y6 ds)<=k:=by
  intro k h ds
  induction ds with
  |nil=>intro _;exact⟨rfl,qY _⟩
  |cons d ds ih =>
   intro hf;rw[Wg,qv]at hf;obtain⟨a1,a2⟩:=h d hf.1;obtain⟨b1,b2⟩:=ih hf.2;refine⟨?_,?_⟩
   ·show(PyData.canLay0 (YG d)&&PyData.canLayAll0 (Y6 ds))=true;rw[a1,b1];rfl
   ·show max (PyData.depth (YG d)) (PyData.depthAll (Y6 ds))<=k;exact Nat.max_le.mpr ⟨a2,b2⟩
 intro k
 induction k with
 |zero =>
  intro d hf;cases d with
  |non=>exact⟨rfl,qY _⟩
  |bl b=>exact⟨rfl,qY _⟩
  |int i=>exact⟨rfl,qY _⟩
  |str x=>exact⟨hf,qY _⟩
  |tup xs=>cases hf
  |ref n=>cases hf
  |exn _=>cases hf
  |ty n=>cases hf
  |rl xs=>cases hf
  |kt xs=>cases hf
 |succ k ih =>
  intro d hf;cases d with
  |non=>exact⟨rfl,qY _⟩
  |bl b=>exact⟨rfl,qY _⟩
  |int i=>exact⟨rfl,qY _⟩
  |str x=>exact⟨hf,qY _⟩
  |tup xs =>obtain⟨h1,h2⟩:=all k ih xs hf;refine⟨h1,?_⟩;show PyData.depthAll (Y6 xs)+1<=k+1;lia
  |ref n=>cases hf
  |exn _=>cases hf
  |ty n=>cases hf
  |rl xs=>cases hf
  |kt xs=>cases hf
def Gx (k:Nat):∀ ds:List D,ds.all (fl k)=true->PyData.canLayAll0 (Y6 ds)=true/\PyData.depthAll (Y6 ds)<=k:=by
 intro ds
 induction ds with
 |nil=>intro _;exact⟨rfl,qY _⟩
 |cons d ds ih =>
  intro hf;rw[Wg,qv]at hf;obtain⟨a1,a2⟩:=Ko k d hf.1;obtain⟨b1,b2⟩:=ih hf.2;refine⟨?_,?_⟩
  ·show(PyData.canLay0 (YG d)&&PyData.canLayAll0 (Y6 ds))=true;rw[a1,b1];rfl
  ·show max (PyData.depth (YG d)) (PyData.depthAll (Y6 ds))<=k;exact Nat.max_le.mpr ⟨a2,b2⟩
mutual
theorem Cd:∀ (k:Nat) (x y:D),fl k x=true->fl k y=true->PyData.eqv (YG x) (YG y)=eqv x y
  |k,.non,y,_,hy=>by cases y<;>first|rfl|(cases k<;>cases hy)
  |k,.bl a,y,_,hy=>by cases y<;>first|rfl|(cases k<;>cases hy)
  |k,.int i,y,_,hy=>by
    cases y with
    |int j=>show(i==j)=decide (i=j);rw[Bool.beq_eq_decide_eq]
    |ref n=>cases k<;>cases hy
    |exn n=>cases k<;>cases hy
    |ty n=>cases k<;>cases hy
    |rl n=>cases k<;>cases hy
    |kt n=>cases k<;>cases hy
    |_=>rfl
  |k,.str a,y,_,hy=>by cases y<;>first|rfl|(cases k<;>cases hy)
  |0,.tup xs,y,hx,_=>by cases hx
  |k+1,.tup xs,y,hx,hy=>by
    cases y with
    |tup ys=>exact Cy k xs ys hx hy
    |ref n=>cases hy
    |ty n=>cases hy
    |rl n=>cases hy
    |kt n=>cases hy
    |_=>rfl
  |k,.ref n,y,hx,_=>by cases k<;>cases hx
  |k,.ty n,y,hx,_=>by cases k<;>cases hx
  |k,.rl n,y,hx,_=>by cases k<;>cases hx
  |k,.kt n,y,hx,_=>by cases k<;>cases hx
  |k,.exn n,y,hx,_=>by cases k<;>cases hx
theorem Cy:∀ (k:Nat) (xs ys:List D),xs.all (fl k)=true->ys.all (fl k)=true->PyData.eqvAll (Y6 xs) (Y6 ys)=eqvAll xs ys
  |k,[],[],_,_=>rfl
  |k,[],y::ys,_,_=>rfl
  |k,x::xs,[],_,_=>rfl
  |k,x::xs,y::ys,hx,hy=>by rw[Wg,qv]at hx hy;show(PyData.eqv (YG x) (YG y)&&PyData.eqvAll (Y6 xs) (Y6 ys))=(eqv x y&&eqvAll xs ys);rw[Cd k x y hx.1 hy.1,Cy k xs ys hx.2 hy.2]
end
section
variable {Z9:List (Addr×Obj)}{U:L2.St}{H:Hp}{s:Shared}{aD:List Addr}{S:Z7}
end
def o8 (X:Cx)(g:Bool->Bool):R2:=fun x y H Q=>∃ aD S dx dy b,zp X.K aD H S/\Rel X.K aD H dx x/\Rel X.K aD H dy y/\Jd S dx dy b/\Q (.bl (g b)) H
def Bu {Z9:List (Addr×Obj)}{U:L2.St}{H:Hp}{s:Shared}{aD:List Addr}{S:Z7}{dx dy:D}{x y:V}{v u:Value}{b:Bool}(I:Inv X Z9 U H s)(st:zp X.K aD H S)(rx:Rel X.K aD H dx x)(ry:Rel X.K aD H dy y)(qx:RelV x v)(qy:RelV y u)(h:Jd S dx dy b) :
  ∃ px py as bs,Reads s.heap v px as/\Reads s.heap u py bs/\px.canLay0=true/\py.canLay0=true/\min px.depth py.depth<=60/\PyData.eqv px py=b:=by
 rcases h with⟨fx,fy,rfl⟩|⟨xs,ys,hx,hy,fx,fy,rfl⟩|h
 ·obtain⟨as,ra⟩:=RM I 20 dx x v fx rx qx;obtain⟨bs,rb⟩:=RM I 20 dy y u fy ry qy;obtain⟨c1,d1⟩:=Ko 20 dx fx;obtain⟨c2,d2⟩:=Ko 20 dy fy;exact⟨_,_,as,bs,ra,rb,c1,c2,by lia,Cd 20 dx dy fx fy⟩
 ·obtain⟨a1,vs1,rfl,s1,r1⟩:=hx.sq st rx;obtain⟨a2,vs2,rfl,s2,r2⟩:=hy.sq st ry;cases qx;cases qy;obtain⟨its,rv,ht,hz⟩:=I.list s1;obtain⟨its2,rv2,ht2,hz2⟩:=I.list s2;obtain⟨o,ho,hc,n,hd⟩:=ht.isList;obtain⟨o2,ho2,hc2,n2,hd2⟩:=ht2.isList;obtain⟨as,ra⟩:=Kg I 20 (RM I 20) _ _ _ fx r1 rv;obtain⟨bs,rb⟩:=Kg I 20 (RM I 20) _ _ _ fy r2 rv2;obtain⟨c1,d1⟩:=Gx 20 xs fx;obtain⟨c2,d2⟩:=Gx 20 ys fy;refine⟨.list (Y6 xs),.list (Y6 ys),_,_,.list ho hc hd (by simpa using ra),.list ho2 hc2 hd2 (by simpa using rb),c1,c2,?_,Cy 20 xs ys fx fy⟩;show min (PyData.depthAll (Y6 xs)+1) (PyData.depthAll (Y6 ys)+1)<=60;lia
 ·exact h.elim
def ţ {k:Nat}(hr:zO k X.A):OC X .Eq oEq:=⟨o8 X id,by
  rintro Z9 s U H x y v u Q I qx qy ⟨aD,S,dx,dy,b,st,rx,ry,h,q⟩;obtain⟨px,py,as,bs,ra,rb,c1,c2,hd,e⟩:=Bu I st rx ry qx qy h;have hu:=hr.units;exact PySem.SeqAt.rcAt_reads ra rb c1 c2 (by lia) X.prog X.w X.xe _ ⟨.bl _,H,I,by rw[e];rfl,q⟩,
 by rintro aD H S x y v u Q0 Q st rx ry ⟨b,h,q⟩ k;exact⟨aD,S,x,y,b,st,rx,ry,h,k _ S _ H aD q Wd.refl st (.bl _)⟩⟩
def zwO {k:Nat}(hr:zO k X.A):OC X .NotEq Yv:=⟨o8 X (!·),by
  rintro Z9 s U H x y v u Q I qx qy ⟨aD,S,dx,dy,b,st,rx,ry,h,q⟩;obtain⟨px,py,as,bs,ra,rb,c1,c2,hd,e⟩:=Bu I st rx ry qx qy h;have hu:=hr.units;exact PySem.SeqAt.rcNeAt_reads ra rb c1 c2 (by lia) X.prog X.w X.xe _ ⟨.bl _,H,I,by rw[e];rfl,q⟩,
 by rintro aD H S x y v u Q0 Q st rx ry ⟨b,h,q⟩ k;exact⟨aD,S,x,y,b,st,rx,ry,h,k _ S _ H aD q Wd.refl st (.bl _)⟩⟩
def Aj {K:PySem.W.Frag}(r:Rel K aD H d v):decide (v=.non)=Xh d:=by cases r<;>rfl
def ņ:ZL X (compareOp .Is) (wV fun i j=>.bl (i==j)):=fun Z9 s U H x y v u Q I rx ry zq32=>by obtain⟨i,j,ex,ey,q⟩:=zq32;subst ex ey;cases rx;cases ry;exact is_bool ⟨.bl _,H,I,rfl,q⟩
def zq0:ZL X (compareOp .IsNot) (wV fun i j=>.bl (!(i==j))):=fun Z9 s U H x y v u Q I rx ry zq33=>by obtain⟨i,j,ex,ey,q⟩:=zq33;subst ex ey;cases rx;cases ry;exact isnot_bool ⟨.bl _,H,I,rfl,q⟩
def lY:OC X .Is N7:=⟨_,zwW.or ņ,fun aD H S x y v u Q0 Q st rx ry h k=>by
 rcases h with⟨rfl,q⟩|⟨a,b,rfl,rfl,q⟩
 ·cases ry;exact .inl ⟨rfl,by rw[Aj rx];exact k _ S _ H aD q Wd.refl st (.bl _)⟩
 ·cases rx;cases ry;exact .inr ⟨a,b,rfl,rfl,k _ S _ H aD q Wd.refl st (.bl _)⟩⟩
def ñ:OC X .IsNot Wv:=⟨_,gP.or zq0,fun aD H S x y v u Q0 Q st rx ry h k=>by
 rcases h with⟨rfl,q⟩|⟨a,b,rfl,rfl,q⟩
 ·cases ry;exact .inl ⟨rfl,by rw[Aj rx];exact k _ S _ H aD q Wd.refl st (.bl _)⟩
 ·cases rx;cases ry;exact .inr ⟨a,b,rfl,rfl,k _ S _ H aD q Wd.refl st (.bl _)⟩⟩
def Am {K:PySem.W.Frag}(o1:OD K r1' r1)(o2:OD K r2' r2){U:L2.St}{H:Hp}{Q:VK}(h:up K (QG r1' r2' ta tb tc) U H Q):Gk r1 r2 (up K ta) (up K tb) (up K tc) U H Q:=by
 obtain⟨aD,Z,S,Q0,st,rh,q,k⟩:=h;refine⟨aD,Z,S,_,st,rh,q,fun x S1 v H1 ad1 q1 w1 st1 rx=>?_⟩;refine⟨ad1,Z,S1,_,st1,rh.wd w1,q1,fun y S2 u H2 ad2 q2 w2 st2 ry=>?_⟩;refine o1 ad2 H2 S2 x y v u _ _ st2 (rx.wd w2) ry q2 fun z S3 z' H3 ad3 ⟨c,e,q3⟩ w3 st3 rz=>?_
 subst e;cases rz;refine⟨c,rfl,?_⟩;cases c with
 |true =>rw[if_pos rfl]at q3 ⊢;refine⟨ad3,Z,S3,_,st3,rh.wd ((w1.trans w2).trans w3),q3,fun z S4 z' H4 ad4 q4 w4 st4 rz=>?_⟩;exact o2 ad4 H4 S4 y z u z' Q0 Q st4 (ry.wd (w3.trans w4)) rz q4 (k.wd (((w1.trans w2).trans w3).trans w4))
 |false =>rw[if_neg qo]at q3 ⊢;exact k _ S3 _ H3 ad3 q3 ((w1.trans w2).trans w3) st3 (.bl _)
def znT (o1:OC X op r1)(o2:OC X op' r2)(ha:PD X a ta)(hb:PD X b tb)(hc:PD X c tc)(hm:autoParam (lastMarks [op,op'] [b,c]=false) Vy):PD X (.Compare a [op,op'] [b,c] pos) (QG r1 r2 ta tb tc):=by
 with_unfolding_all
  obtain⟨s1,h1,d1⟩:=o1;obtain⟨s2,h2,d2⟩:=o2;exact zV (dZ h1 h2 ha hb hc hm) fun _ _ _=>Am d1 d2
def zp2 {e:Expr}{t:DE}(h:PD X e t)(he:autoParam (∀ whole,isTrue e X.env whole=(do let v <- whole;standAt e.pos;holding [v] (truthy v))) Qj):YK X e (dT t):=by with_unfolding_all exact(Qt (zuP h he) fun U H Q hh=>ZV hh fun aD Z S Q0 st rh q k =>
 ⟨aD,Z,S,_,st,rh,q,by rintro d S' v H' aD' ⟨b,e,q'⟩ w st' r;subst e;cases r;exact⟨b,rfl,k b S' H' aD' q' w st'⟩⟩)
def zl5 (o1:OC X op r1)(o2:OC X op' r2)(ha:PD X a ta)(hb:PD X b tb)(hc:PD X c tc)(hm:autoParam (lastMarks [op,op'] [b,c]=false) Vy):YK X (.Compare a [op,op'] [b,c] pos) (dT (QG r1 r2 ta tb tc)):=by
 with_unfolding_all
  obtain⟨s1,h1,d1⟩:=o1;obtain⟨s2,h2,d2⟩:=o2;refine Qt (Ľ h1 h2 ha hb hc hm) fun U H Q hh=>ZV hh fun aD Z S Q0 st rh q k=>?_
  refine Am (Q:=fun x H'=>∃ k,x=.bl k/\Q k H') d1 d2 ⟨aD,Z,S,_,st,rh,q,fun d S' v H' aD' ⟨b,e,q'⟩ w st' r=>?_⟩;subst e;cases r;exact⟨b,rfl,k b S' H' aD' q' w st'⟩
variable {tA tB':DT}{rest:List Expr}
def İ (h:YK X a tA):YK X (.UnaryOp .Not a pos) (Yu tA):=by with_unfolding_all exact(Qt (fY h) fun U H Q hh=>ZV hh fun aD Z S Q0 st rh q k=>⟨aD,Z,S,_,st,rh,q,fun b S' H' aD' q' w st'=>k _ S' H' aD' q' w st'⟩)
theorem aW {e:Expr}{t:DT}(h:Us X e t):YK X e t:=by with_unfolding_all exact(h _)
def znW (ha:YK X a tA):Us X (.BoolOp .And [a] pos) tA:=by with_unfolding_all exact(zrN ha)
def jt (ha:YK X a tA):Us X (.BoolOp .Or [a] pos) tA:=by with_unfolding_all exact(zu6 ha)
def zqX (ha:YK X a tA)(hb:Us X (.BoolOp .And (b::rest) pos) tB'):Us X (.BoolOp .And (a::b::rest) pos) (Xb tA tB'):=by with_unfolding_all exact(wK (Ϝ ha hb) fun U H Q hh=>ZV hh fun aD Z S Q0 st rh q k =>
 ⟨aD,Z,S,_,st,rh,q,fun b S' H' aD' q' w st'=>by
  cases b with
  |true=>rw[if_pos rfl]at q' ⊢;exact⟨aD',Z,S',Q0,st',rh.wd w,q',fun b S' H' aD' q w'=>k b S' H' aD' q (w.trans w')⟩
  |false=>rw[if_neg qo]at q' ⊢;exact k _ S' H' aD' q' w st'⟩)
def Τ (ha:YK X a tA)(hb:Us X (.BoolOp .Or (b::rest) pos) tB'):Us X (.BoolOp .Or (a::b::rest) pos) (Yz tA tB'):=by with_unfolding_all exact(wK (nj ha hb) fun U H Q hh=>ZV hh fun aD Z S Q0 st rh q k =>
 ⟨aD,Z,S,_,st,rh,q,fun b S' H' aD' q' w st'=>by
  cases b with
  |false=>rw[if_neg qo]at q' ⊢;exact⟨aD',Z,S',Q0,st',rh.wd w,q',fun b S' H' aD' q w'=>k b S' H' aD' q (w.trans w')⟩
  |true=>rw[if_pos rfl]at q' ⊢;exact k _ S' H' aD' q' w st'⟩)
def Ò {op}{t:DE}(h:PD X a t):PD X (.BoolOp op [a] pos) t:=by with_unfolding_all exact(zt7 h)
def zqd (ha:PD X a ta)(hb:PD X (.BoolOp .And (b::rest) pos) tb):PD X (.BoolOp .And (a::b::rest) pos) (QZ ta tb):=by with_unfolding_all exact(zV (Ŷ ha hb) fun U H Q hh=>ZV hh fun aD Z S Q0 st rh q k =>
 ⟨aD,Z,S,_,st,rh,q,by
  rintro d S' v H' aD' ⟨c,e,q'⟩ w st' r;subst e;cases r;refine⟨c,rfl,?_⟩;cases c with
  |true=>rw[if_pos rfl]at q' ⊢;exact⟨aD',Z,S',Q0,st',rh.wd w,q',k.wd w⟩
  |false=>rw[if_neg qo]at q' ⊢;exact k _ S' _ H' aD' q' w st' (.bl _)⟩)
def ϳ (ha:PD X a ta)(hb:PD X (.BoolOp .Or (b::rest) pos) tb):PD X (.BoolOp .Or (a::b::rest) pos) (tZ ta tb):=by with_unfolding_all exact(zV (zwT ha hb) fun U H Q hh=>ZV hh fun aD Z S Q0 st rh q k =>
 ⟨aD,Z,S,_,st,rh,q,by
  rintro d S' v H' aD' ⟨c,e,q'⟩ w st' r;subst e;cases r;refine⟨c,rfl,?_⟩;cases c with
  |false=>rw[if_neg qo]at q' ⊢;exact⟨aD',Z,S',Q0,st',rh.wd w,q',k.wd w⟩
  |true=>rw[if_pos rfl]at q' ⊢;exact k _ S' _ H' aD' q' w st' (.bl _)⟩)
def jw (ha:PD X a ta):PD X (.UnaryOp .Not a pos) (QV ta):=by with_unfolding_all exact(zV (Ŝ ha) fun U H Q hh=>ZV hh fun aD Z S Q0 st rh q k =>
 ⟨aD,Z,S,_,st,rh,q,by rintro d S' v H' aD' ⟨c,e,q'⟩ w st' r;subst e;cases r;exact⟨c,rfl,k _ S' _ H' aD' q' w st' (.bl _)⟩⟩)
def zta (hc:YK X c tA)(ha:PD X a ta)(hb:PD X b tb):PD X (.IfExp c a b pos) (wG tA ta tb):=by with_unfolding_all exact(zV (znO hc ha hb) fun U H Q hh=>ZV hh fun aD Z S Q0 st rh q k =>
 ⟨aD,Z,S,_,st,rh,q,fun b S' H' aD' q' w st'=>by
  cases b with
  |true=>rw[if_pos rfl]at q' ⊢;exact⟨aD',Z,S',Q0,st',rh.wd w,q',k.wd w⟩
  |false=>rw[if_neg qo]at q' ⊢;exact⟨aD',Z,S',Q0,st',rh.wd w,q',k.wd w⟩⟩)
end
section
variable {X:Cx}{a b e:Expr}{es:List Expr}{ta tb te:DE}{t:DA}{pos:Pos}
def rK:PAD X [] zm:=by with_unfolding_all exact(Ay ŕ fun U H Q hh=>ZV hh fun aD Z S Q0 st rh q k=>k [] S [] H aD q Wd.refl st .nil)
def u9 (ha:PD X e te)(hr:PAD X es t)(hs:autoParam (starEach (e::es) X.env=(false,eval e X.env)::starEach es X.env) QT):PAD X (e::es) (zc te t):=by with_unfolding_all exact(Ay (nu ha hr hs) fun U H Q hh=>ZV hh fun aD Z S Q0 st rh q k =>⟨aD,Z,S,_,st,rh,q,fun d S1 v H1 ad1 q1 w1 st1 r1=>⟨ad1,Z,S1,_,st1,rh.wd w1,q1,fun ds S2 vs H2 ad2 q2 w2 st2 r2=>k _ S2 _ H2 ad2 q2 (w1.trans w2) st2 (.cons (r1.wd w2) r2)⟩⟩)
def ĩ {x1}(h:PAD X es t):PD X (.Tuple es x1 pos) (dTup t):=by with_unfolding_all exact(zV (ķ h) fun U H Q hh=>ZV hh fun aD Z S Q0 st rh q k =>⟨aD,Z,S,_,st,rh,q,by rintro ds S1 vs H1 ad1 ⟨hz,q1⟩ w1 st1 r1;exact⟨by rw[<- r1.length];exact Uk hz,fun p hp=>Hr st1 (k.wd w1) r1 q1 p hp⟩⟩)
def ζ (h:PAD X es t):PD X (.List es pos) (Yn t):=by with_unfolding_all exact(zV (bJ h) fun U H Q hh=>ZV hh fun aD Z S Q0 st rh q k =>⟨aD,Z,S,_,st,rh,q,by rintro ds S1 vs H1 ad1 ⟨hz,q1⟩ w1 st1 r1;exact⟨by rw[<- r1.length];exact Uk hz,fun p hp=>K3 st1 (k.wd w1) r1 q1 p hp⟩⟩)
def gY {xs:List D}{i:Int}{d:D}(h:Zb xs i=some d){K:PySem.W.Frag}(r:zf K aD H xs vs):∃ v,Rz vs i=some v/\Rel K aD H d v:=by
 have e:O5 vs.length i=Xv xs.length i:=by rw[r.length];rfl
 unfold Zb at h;unfold Rz;rw[e];cases q:Xv xs.length i with
 |none=>rw[q]at h;cases h
 |some j =>rw[q]at h;exact r.get h
def Ŕ (ha:PD X a ta)(hb:PD X b tb)(hs:autoParam (Ga b) vh):PD X (.Subscript a b pos) (Z6 ZR ta tb):=by with_unfolding_all exact(zV (Φ (zsm.or (lV.or ztK)) ha hb hs) fun _ _ _=>JB fun aD H S x y v u Q0 Q st rx ry h k=>by
 rcases h with⟨i,xs,d,ey,hx,e,q⟩|⟨z,i,c,rfl,rfl,hz,e,q⟩
 case inr =>cases rx;cases ry;exact .inr (.inr ⟨z,i,c,rfl,rfl,Uk hz,e,k _ S _ H aD q Wd.refl st (.str _)⟩)
 subst ey;cases ry;obtain⟨p,vs,rfl,hs,r⟩:=hx.sq st rx;obtain⟨z,ez,rz⟩:=gY e r;rcases hs with hs|hs
 ·exact .inl ⟨p,vs,i,z,rfl,rfl,hs,ez,k _ S _ H aD q Wd.refl st rz⟩
 ·exact .inr (.inl ⟨p,vs,i,z,rfl,rfl,hs,ez,k _ S _ H aD q Wd.refl st rz⟩))
def Ml (K:PySem.W.Frag)(t:Option DE):TO:=fun U H Q=>∃ aD Z S Q0,zp K aD H S/\zY K aD H Z U/\Ui t Z S Q0/\∀ o S' H' aD',Q0 o S'->Wd aD H aD' H'->zp K aD' H' S'->Q o H'
def fW:PO X none (Ml X.K none):=fun Z9 s U H Q I hh=>ZV hh fun aD Z S Q0 st rh q k=>zr8 Z9 s U H Q I (k none S H aD q Wd.refl st)
def iC {t:DE}(h:PD X e t):PO X (some e) (Ml X.K (some t)):=by with_unfolding_all exact(fun Z9 s U H Q I hh=>ZV hh fun aD Z S Q0 st rh q k=>zrC h Z9 s U H Q I ⟨aD,Z,S,_,st,rh,q,by rintro d S' v H' aD' ⟨i,e,q'⟩ w st' r;subst e;cases r;exact⟨i,rfl,k _ S' H' aD' q' w st'⟩⟩)
def wN {K:PySem.W.Frag}(lo hi:Option Int)(r:zf K aD H xs vs):zf K aD H (cutD xs lo hi) (U8 vs lo hi):=by
  have e1:HT.sIx vs.length 0 lo=XH xs.length 0 lo:=by
    rw[r.length];cases lo with
    |none=>rfl
    |some k=>show HT.sIx _ _ (some k)=_;unfold HT.sIx XH;first|rfl|(simp only[];split<;>lia)
  have e2:HT.sIx vs.length vs.length hi=XH xs.length xs.length hi:=by
    rw[r.length];cases hi with
    |none=>rfl
    |some k=>show HT.sIx _ _ (some k)=_;unfold HT.sIx XH;first|rfl|(simp only[];split<;>lia)
  unfold cutD U8;rw[e1,e2];exact(r.drop _).take _
def zwC (K:PySem.W.Frag):V->Option Int->Option Int->Hp->VK->Prop:=fun x lo hi H Q=>∃ a xs,x=.ref a/\ZQ K H a xs /\
 ((HT.sIx xs.length 0 lo=0/\HT.sIx xs.length xs.length hi=xs.length)->Q (.ref a) H)/\(¬ (HT.sIx xs.length 0 lo=0/\HT.sIx xs.length xs.length hi=xs.length)->∀ p,H p=none->Q (.ref p) (upd H p (.tup (U8 xs lo hi))))
def ë {prog:Program}{w:World}{A:Around}{E:Value->Shared->Prop}{s:Shared}{t sl:Addr}{items:Array Value}{vl vu:Value}{lo hi:Option Int}{Q:Value->Shared->Prop}(ht:IsTup s.heap t items)(hs:s.heap.IsSliceOf sl vl vu .none)(pl:IsPart vl lo)(pu:IsPart vu hi)
  (hw:HT.sIx items.size 0 lo=0/\HT.sIx items.size items.size hi=items.size) (h:Q (.ref t) s):wpAny (model prog w) A (getItem (.ref t) (.ref sl)) Q E s:=by
 obtain⟨os,hos,hcs,hds⟩:=id hs;have hTs:s.TypeIs (.ref sl) "slice":=⟨os,hos,hcs⟩
 unfold getItem
 try with_reducible refine wpAny_holding ?_
 first|refine wpAny_bind (wpAny_pure ?_)|skip
 refine wpAny_bind (wpAny_sequenceKey ht.typeIs (by decide) ?_)
 refine wpAny_bind (wpAny_callSpecial?_slot (name:=Str.ofString "__getitem__") ht.typeIs PyProof.Rows.slot_tuple_getitem
  (wpAny_call_entry PyProof.Rows.slot_tuple_getitem ht.typeIs PyProof.Rows.entry_tuple_getitem ?_ (PyProof.Rows.args_tuple_getitem _ _)))
 show wpAny _ _ (Builtin.Tuple.tupleItemsOf (.ref t) >>= _) _ _ s;refine wpAny_bind (tupleItemsOf_ ht ?_);refine wpAny_bind (wpAny_typeOf hTs ?_);rw[if_pos (by decide)];refine wpAny_bind (HT.pA hs pl pu ?_);show wpAny _ _ (if(((HT.sIx items.size 0 lo:Nat):Int)==0&&(1:Int)==1&&(HT.sIx items.size items.size hi-HT.sIx items.size 0 lo)==items.size)=true then _ else _) _ _ s;rw[if_pos (by rw[hw.1,hw.2];simp)];unfold Builtin.Tuple.tupleIsExact;refine wpAny_bind (wpAny_bind (wpAny_typeOf ht.typeIs (wpAny_pure ?_)));rw[if_pos (by decide)];refine wpAny_bind (wpAny_rule ?_)
 first
  |exact wpAny_pure ⟨_,rfl,wpAny_pure h⟩
  |exact wpAny_bind (wpAny_pure ⟨_,rfl,wpAny_pure h⟩)
  |exact wpAny_bind (wpAny_pure (wpAny_pure ⟨_,rfl,wpAny_pure h⟩))
  |trace_state
def zqV:Tn X (zwC X.K):=by
 intro Z9 s U H x v vl vu lo hi sl Q I rx hs pl pu h;obtain⟨a,xs,rfl,hx,q1,q2⟩:=h;by_cases hw:HT.sIx xs.length 0 lo=0/\HT.sIx xs.length xs.length hi=xs.length
 ·cases rx;obtain⟨its,r,ht,hz⟩:=I.tuple hx;have hlen:its.toArray.size=xs.length:=by rw[qk];exact r.length.symm
  refine⟨"tuple",_,PyProof.Rows.slot_tuple_getitem.lookup,ht.typeIs,?_⟩;exact ë ht hs pl pu (by rw[hlen];exact hw) ⟨.ref a,H,I,rfl,q1 hw⟩
 ·exact ztn Z9 s U H (.ref a) v vl vu lo hi sl Q I rx hs pl pu ⟨a,xs,rfl,hx,hw,q2 hw⟩
def jJ (xs:List α)(lo hi:Option Int)(h1:XH xs.length 0 lo=0)(h2:XH xs.length xs.length hi=xs.length):cutD xs lo hi=xs:=by unfold cutD;rw[h1,h2];simp
def dh (n d:Nat)(o:Option Int):HT.sIx n d o=XH n d o:=by
 cases o with
 |none=>rfl
 |some k=>rfl
def Ð {lo:Option Expr}{tl th:Option DE}{p2:Pos}(ha:PD X a ta)(hl:PO X lo (Ml X.K tl))(hh:PO X hi (Ml X.K th)):PD X (.Subscript a (.Slice lo hi none p2) pos) (Vm Vr ta tl th):=by with_unfolding_all exact(zV (cA (Ē.or zqV) ha hl hh) fun U H Q hh=>ZV hh fun aD Z S Q0 st rh q k =>
 ⟨aD,Z,S,_,st,rh,q,fun x S1 v H1 ad1 q1 w1 st1 r1=>⟨ad1,Z,S1,_,st1,rh.wd w1,q1,fun l S2 H2 ad2 q2 w2 st2=>⟨ad2,Z,S2,_,st2,rh.wd (w1.trans w2),q2,fun h S3 H3 ad3 q3 w3 st3=>by
  have r3:=r1.wd (w2.trans w3);have k3:=k.wd ((w1.trans w2).trans w3);rcases q3 with⟨xs,rfl,q3⟩|⟨xs,hx,q3⟩|q3
  ·cases r3 with
   |tup h1 r =>refine .inr ⟨_,_,rfl,ZQ.of h1,fun⟨z1,z2⟩=>?_,fun _ p hp=>Hr st3 k3 (wN _ _ r) q3 p hp⟩;rw[dh,<- r.length]at z1 z2;rw[jJ xs _ _ z1 z2]at q3;exact k3 _ S3 _ H3 ad3 q3 Wd.refl st3 (.tup h1 r)
  ·obtain⟨p,vs,rfl,hs,r⟩:=hx.sq st3 r3;exact .inl ⟨p,vs,rfl,hs,fun l hl=>K3 st3 k3 (wN _ _ r) q3 l hl⟩
  ·exact q3.elim⟩⟩⟩)
end
end Dp
namespace Dp
open PySem PySem.Spec PyProof.Rows L2 My
variable [B:Bs]
section
variable {X:Cx}{a e:Expr}{es:List Expr}{ta te:DE}{t:DA}{pos p:Pos}
def π {k:Nat}{f:ZX}(G:Got X.prog X.w X.K X.mg X.base k x ps (Xr X.K f))(hr:zO j X.A)(ha:PAD X (e::es) t)(hk:autoParam (k<=j) zQ)(hg:autoParam (Gl X x) zy)(hdb:autoParam ((x==("__debug__":Str))=false) zQ)(he:autoParam (starEach (e::es) X.env=(false,eval e X.env)::starEach es X.env) QT)(hpl:autoParam ((backTo pos (starEach es X.env)).any (·.1)=false) Py) :
  PD X (.Call (.Name x p) (e::es) [] pos) (dCall f t):=by with_unfolding_all exact(zV (zsp G hr hk hg ha hdb he hpl) fun U H Q hh=>ZV hh fun aD Z S Q0 st rh q k =>
 ⟨aD,Z,S,_,st,rh,q,fun ds S1 vs H1 ad1 q1 w1 st1 r1=>by show Xr X.K f (vs++[]) H1 Q E0;rw[Xn];exact⟨ad1,S1,ds,Q0,st1.base,r1,q1,(k.wd w1).base st1⟩⟩)
def BD (K:PySem.W.Frag)(r':DB)(r:List V->Hp->VK->Prop):Prop:=∀ aD H S ds vs Q0 Q,zp K aD H S->zf K aD H ds vs->r' ds S Q0->KK K aD H Q0 Q->r vs H Q
def BC (X:Cx)(f:Value)(r':DB):Prop:=∃ r,YM X f r/\BD X.K r' r
def zy1 {id:String}(o:BC X (.builtin id) r')(hm:X.mg x=none)(hv:bootBuiltins x=some (.builtin id))(ha:PAD X (e::es) t)(hg:autoParam (Gl X x) zy)(hn:autoParam (x≠"__name__") zQ)(hdb:autoParam ((x==("__debug__":Str))=false) zQ)(he:autoParam (starEach (e::es) X.env=(false,eval e X.env)::starEach es X.env) QT)(hpl:autoParam ((backTo pos (starEach es X.env)).any (·.1)=false) Py):PD X (.Call (.Name x p) (e::es) [] pos) (dB r' t):=by
 with_unfolding_all
  obtain⟨r,ho,od⟩:=o
  exact zV (lZ ho hg hm hv ha hn hdb he hpl) fun U H Q hh=>ZV hh fun aD Z S Q0 st rh q k =>⟨aD,Z,S,_,st,rh,q,fun ds S1 vs H1 ad1 q1 w1 st1 r1=>od ad1 H1 S1 ds vs Q0 Q st1 r1 q1 (k.wd w1)⟩
def cP {T:String}(o:BC X (.type T) r')(hm:X.mg x=none)(hv:bootBuiltins x=some (.type T))(ha:PAD X (e::es) t)(hg:autoParam (Gl X x) zy)(hn:autoParam (x≠"__name__") zQ)(hdb:autoParam ((x==("__debug__":Str))=false) zQ)(he:autoParam (starEach (e::es) X.env=(false,eval e X.env)::starEach es X.env) QT)(hpl:autoParam ((backTo pos (starEach es X.env)).any (·.1)=false) Py):PD X (.Call (.Name x p) (e::es) [] pos) (dB r' t):=by
 with_unfolding_all
  obtain⟨r,ho,od⟩:=o
  exact zV (Ř ho hg hm hv ha hn hdb he hpl) fun U H Q hh=>ZV hh fun aD Z S Q0 st rh q k =>⟨aD,Z,S,_,st,rh,q,fun ds S1 vs H1 ad1 q1 w1 st1 r1=>od ad1 H1 S1 ds vs Q0 Q st1 r1 q1 (k.wd w1)⟩
def Xz {K:PySem.W.Frag}{d:D}{vs:List V}(r:zf K aD H [d] vs):∃ v,vs=[v]/\Rel K aD H d v:=by
 cases r with
 |cons r t=>cases t;exact⟨_,rfl,r⟩
def Pj {K:PySem.W.Frag}{d e:D}{vs:List V}(r:zf K aD H [d,e] vs):∃ v u,vs=[v,u]/\Rel K aD H d v/\Rel K aD H e u:=by
 cases r with
 |cons r t =>obtain⟨u,rfl,r2⟩:=Xz t;exact⟨_,_,rfl,r,r2⟩
def zvn:BC X (.builtin "len") Zc:=⟨_,jF.or eF,fun aD H S ds vs Q0 Q st r h k=>by
 rcases h with⟨x,xs,e,hx,q⟩|⟨z,e,hz,q⟩
 case inr =>subst e;obtain⟨v,rfl,rv⟩:=Xz r;cases rv;exact .inr ⟨z,rfl,Uk hz,k _ S _ H aD q Wd.refl st (.int _)⟩
 subst e;obtain⟨v,rfl,rv⟩:=Xz r;obtain⟨a,ws,rfl,hs,rs⟩:=hx.sq st rv;exact .inl ⟨a,ws,rfl,hs,k _ S _ H aD (by rw[rs.length]at q;exact q) Wd.refl st (.int _)⟩⟩
def ŗ:BC X (.builtin "abs") JQ:=⟨_,znB,by rintro aD H S ds vs Q0 Q st r ⟨i,e,q⟩ k;subst e;obtain⟨v,rfl,rv⟩:=Xz r;cases rv;exact⟨i,rfl,k _ S _ H aD q Wd.refl st (.int _)⟩⟩
def zu5 (i j:Int):(if j > i then j else i)=max i j:=by rw[Int.max_def];split<;>split<;>lia
def zuC (i j:Int):(if j<i then j else i)=min i j:=by rw[Int.min_def];split<;>split<;>lia
def bf (hc:autoParam (X.calm=true) zy):BC X (.builtin "max") Qg:=⟨_,ò hc,by rintro aD H S ds vs Q0 Q st r ⟨i,j,e,q⟩ k;subst e;obtain⟨v,u,rfl,rv,ru⟩:=Pj r;cases rv;cases ru;exact⟨i,j,rfl,by rw[zu5];exact k _ S _ H aD q Wd.refl st (.int _)⟩⟩
def Ë (hc:autoParam (X.calm=true) zy):BC X (.builtin "min") RG:=⟨_,znc hc,by rintro aD H S ds vs Q0 Q st r ⟨i,j,e,q⟩ k;subst e;obtain⟨v,u,rfl,rv,ru⟩:=Pj r;cases rv;cases ru;exact⟨i,j,rfl,by rw[zuC];exact k _ S _ H aD q Wd.refl st (.int _)⟩⟩
def bK (hc:autoParam (X.calm=true) zy):BC X (.builtin "max") K7:=⟨_,ö rfl hc,by rintro aD H S ds vs Q0 Q st r ⟨x,ns,e,hx,h0,q⟩ k;subst e;obtain⟨v,rfl,rv⟩:=Xz r;obtain⟨a,ws,rfl,hs,rs⟩:=hx.sq st rv;cases rs.ints;exact⟨a,ns,rfl,hs,h0,fun m h1 h2=>k _ S _ H aD (q m h1 h2) Wd.refl st (.int _)⟩⟩
def cR (hc:autoParam (X.calm=true) zy):BC X (.builtin "min") Ly:=⟨_,ø rfl hc,by rintro aD H S ds vs Q0 Q st r ⟨x,ns,e,hx,h0,q⟩ k;subst e;obtain⟨v,rfl,rv⟩:=Xz r;obtain⟨a,ws,rfl,hs,rs⟩:=hx.sq st rv;cases rs.ints;exact⟨a,ns,rfl,hs,h0,fun m h1 h2=>k _ S _ H aD (q m h1 h2) Wd.refl st (.int _)⟩⟩
def Ĩ (hc:autoParam (X.calm=true) zy):BC X (.builtin "all") Vf:=⟨_,Ď rfl hc,by rintro aD H S ds vs Q0 Q st r ⟨x,ns,e,hx,q⟩ k;subst e;obtain⟨v,rfl,rv⟩:=Xz r;obtain⟨a,ws,rfl,hs,rs⟩:=hx.sq st rv;cases rs.bls;exact⟨a,ns,rfl,hs,k _ S _ H aD q Wd.refl st (.bl _)⟩⟩
def μ:BC X (.type "list") Qk:=⟨_,Î,by rintro aD H S ds vs Q0 Q st r ⟨x,xs,e,hx,q⟩ k;subst e;obtain⟨v,rfl,rv⟩:=Xz r;obtain⟨a,ws,rfl,hs,rs⟩:=hx.sq st rv;exact⟨a,ws,rfl,hs,fun l hl=>K3 st k rs q l hl⟩⟩
section
variable {K:PySem.W.Frag}
def bM (t:String)(h:O6 t=true):PySem.W.kitOne K (.type "NoneType") (.type t)=some false/\PySem.W.kitOne K (.type "bool") (.type t)=some (t=="bool"||t=="int")/\PySem.W.kitOne K (.type "int") (.type t)=some (t=="int") /\
  PySem.W.kitOne K (.type "str") (.type t)=some (t=="str")/\PySem.W.kitOne K (.type "tuple") (.type t)=some (t=="tuple")/\PySem.W.kitOne K (.type "list") (.type t)=some (t=="list"):=by
 unfold O6 at h;simp only[Ql,beq_iff_eq]at h;rcases h with(((rfl|rfl)|rfl)|rfl)|rfl
 ·exact⟨by kernel_rfl,by kernel_rfl,by kernel_rfl,by kernel_rfl,by kernel_rfl,by kernel_rfl⟩
 ·exact⟨by kernel_rfl,by kernel_rfl,by kernel_rfl,by kernel_rfl,by kernel_rfl,by kernel_rfl⟩
 ·exact⟨by kernel_rfl,by kernel_rfl,by kernel_rfl,by kernel_rfl,by kernel_rfl,by kernel_rfl⟩
 ·exact⟨by kernel_rfl,by kernel_rfl,by kernel_rfl,by kernel_rfl,by kernel_rfl,by kernel_rfl⟩
 ·exact⟨by kernel_rfl,by kernel_rfl,by kernel_rfl,by kernel_rfl,by kernel_rfl,by kernel_rfl⟩
end
def dw:BC X (.builtin "isinstance") Xk:=⟨_,znN,by
 rintro aD H S ds vs Q0 Q st r ⟨x,t,b,e,h,q⟩ k;subst e;obtain⟨v,u,rfl,rv,ru⟩:=Pj r;cases ru;have fin:=k _ S _ H aD q Wd.refl st (.bl b);unfold DX at h;split at h
 ·cases h
 rename_i hty
 have hty':O6 t=true:=by
  cases hh:O6 t
  ·exact absurd (by show(!O6 t)=true;rw[hh];rfl) hty
  ·rfl
 obtain⟨k1,k2,k3,k4,k5,k6⟩:=bM (K:=X.K) t hty';cases rv with
 |non=>cases h;exact⟨_,_,_,_,rfl,.non,k1,fin⟩
 |bl c=>cases h;exact⟨_,_,_,_,rfl,.bl c,k2,fin⟩
 |int i=>cases h;exact⟨_,_,_,_,rfl,.int i,k3,fin⟩
 |str y=>cases h;exact⟨_,_,_,_,rfl,.str y,k4,fin⟩
 |ty n=>cases h
 |exn _ _ _=>cases h
 |tup ht rt=>cases h;exact⟨_,_,_,_,rfl,.tup ht,k5,fin⟩
 |rl hl rl=>cases h
 |kt hl rl=>cases h
 |@ref n a hn =>
  have h:(match S[n]? with | some (.lst _)=>some (t=="list") | _=>none)=some b:=h;cases hS:S[n]? with
  |none=>rw[hS]at h;cases h
  |some c =>
   rw[hS]at h;cases c with
   |ins c fs=>cases h
   |dk _=>cases h
   |dt _=>cases h
   |dn _ _=>cases h
   |tab _ _ _=>cases h
   |lst xs =>cases h;obtain⟨vs,hv,_⟩:=st.cell n a _ hn hS;exact⟨_,_,_,_,rfl,.lst hv,k6,fin⟩⟩
def MD (X:Cx)(id:String)(r':DM):Prop:=∃ r,Kh X id r/\∀ aD H S x ds v vs Q0 Q,zp X.K aD H S->Rel X.K aD H x v->zf X.K aD H ds vs->r' x ds S Q0->KK X.K aD H Q0 Q->r v vs H Q
def yM {K:PySem.W.Frag}{x:D}(st:zp K aD H S)(h:∃ n ys,x=.ref n/\S[n]?=some (.lst ys))(r:Rel K aD H x v):Iz K "list" v H:=by
 obtain⟨n,ys,rfl,h⟩:=h;cases r with
 |ref e =>obtain⟨vs,hv,_⟩:=st.cell n _ _ e h;exact .inl ⟨rfl,vs,ZC.of hv⟩
def aG {name:Str}{id:String}{apos cpos:Pos}(slot:Slot "list" name id)(hty:typeOf (.builtin id)=pure (.type "method_descriptor"))(hm:MD X id r')(ho:PD X o to)(ha:PAD X (e::es) t)(hbase:autoParam (attributeBase o name X.env (eval o X.env)=eval o X.env) zy)(hfew:((backTo cpos (starEach (e::es) X.env)).all (fun x=>!x.1)&&(backToKw cpos (keywordEach [] X.env)).all (fun x=>x.1.isSome)
  &&decide ((e::es).length+([]:List Keyword).length+(if([]:List Keyword).isEmpty then 0 else 1)<30))=true:=by rfl) (hline:(apos.endLine==cpos.line)=true:=by rfl) (hs:starEach (e::es) X.env=(false,eval e X.env)::starEach es X.env:=by exact V0 rfl) (hplain:(backTo cpos (starEach es X.env)).any (·.1)=false:=by exact JD rfl) :
  PD X (.Call (.Attribute o name apos) (e::es) [] cpos) (dM r' to t):=by
 with_unfolding_all
  obtain⟨r,hr,od⟩:=hm
  exact zV (Ϟ PySem.F.plainAttrs_list slot hty hr ho ha hbase hfew hline hs hplain) fun U H Q hh=>ZV hh fun aD Z S Q0 st rh q k =>
   ⟨aD,Z,S,_,st,rh,q,by rintro x S1 v H1 ad1 ⟨hl,q1⟩ w1 st1 r1;exact⟨yM st1 hl r1,ad1,Z,S1,_,st1,rh.wd w1,q1,fun ds S2 vs H2 ad2 q2 w2 st2 r2 =>od ad2 H2 S2 x ds v vs Q0 Q st2 (r1.wd w2) r2 q2 (k.wd (w1.trans w2))⟩⟩
def zwK {name:Str}{id:String}{apos cpos:Pos}(slot:Slot "list" name id)(hty:typeOf (.builtin id)=pure (.type "method_descriptor"))(hm:MD X id r')(ho:PD X o to)(hbase:autoParam (attributeBase o name X.env (eval o X.env)=eval o X.env) zy)(hline:autoParam ((apos.endLine==cpos.line)=true) zy):PD X (.Call (.Attribute o name apos) [] [] cpos) (dM r' to zm):=by
 with_unfolding_all
  obtain⟨r,hr,od⟩:=hm
  exact zV (zvz PySem.F.plainAttrs_list slot hty hr ho hbase hline) fun U H Q hh=>ZV hh fun aD Z S Q0 st rh q k =>⟨aD,Z,S,_,st,rh,q,by rintro x S1 v H1 ad1 ⟨hl,q1⟩ w1 st1 r1;exact⟨yM st1 hl r1,od ad1 H1 S1 x [] v [] Q0 Q st1 r1 .nil q1 (k.wd w1)⟩⟩
def zl8:MD X "list.append" Wf:=⟨_,rN,by
 rintro aD H S x ds v vs Q0 Q st rx r ⟨n,xs,y,ex,ey,hn,hl,q⟩ k;subst ex ey;obtain⟨u,rfl,ru⟩:=Xz r;cases rx with
 |ref e =>obtain⟨ws,hw,rw⟩:=st.cell n _ _ e hn;exact⟨_,ws,u,rfl,rfl,hw,by rw[<- rw.length];exact Mg hl,k _ _ _ _ aD q (Wd.put e hw) (st.put e hw (rw.append (.cons ru .nil))) .non⟩⟩
def ŵ:MD X "list.extend" Mu:=⟨_,Ι,fun aD H S x ds v vs Q0 Q st rx r h k=>by
 rcases h with⟨n,xs,m,ys,ex,ey,hn,hm,hne,hl,q⟩|⟨n,xs,ys,ex,ey,hn,hl,q⟩
 ·subst ex ey;obtain⟨u,rfl,ru⟩:=Xz r;cases rx with
  |ref e =>
   cases ru with
   |ref e2 =>obtain⟨ws,hw,rw⟩:=st.cell n _ _ e hn;obtain⟨ws2,hw2,rw2⟩:=st.cell m _ _ e2 hm;exact .inl ⟨_,_,ws,ws2,rfl,rfl,hw,hw2,by rw[<- rw.length,<- rw2.length];exact Uk hl,k _ _ _ _ aD q (Wd.put e hw) (st.put e hw (rw.append rw2)) .non⟩
 ·subst ex ey;obtain⟨u,rfl,ru⟩:=Xz r;cases rx with
  |ref e =>
   cases ru with
   |tup h2 rw2 =>obtain⟨ws,hw,rw⟩:=st.cell n _ _ e hn;exact .inr ⟨_,_,ws,_,rfl,rfl,hw,ZQ.of h2,by rw[<- rw.length,<- rw2.length];exact Uk hl,k _ _ _ _ aD q (Wd.put e hw) (st.put e hw (rw.append rw2)) .non⟩⟩
end
end Dp
namespace Dp
open PySem PySem.Spec PyProof.Rows L2 My
variable [B:Bs]
def Wj (K:PySem.W.Frag)(b:Nat)(g':DG)(g:TG):Prop:=∀ aD H S Z U d v Q0 Q,zp K aD H S->zY K aD H Z U->Rel K aD H d v->g' d Z S Q0 ->
 (∀ ρ' S' σ' H' aD',Q0 ρ' S'->Wd aD H aD' H'->zp K aD' H' S'->zY K aD' H' ρ' σ'->σ'.length=U.length->(∀ j,b<=j->σ'[j]?=U[j]?)->Q σ' H')->g v U H Q
def Je (K:PySem.W.Frag)(b:Nat)(g':Vc)(g:Rn):Prop:=∀ aD H S Z U ds vs Q0 Q,zp K aD H S->zY K aD H Z U->zf K aD H ds vs->g' ds Z S Q0 ->
 (∀ ρ' S' σ' H' aD',Q0 ρ' S'->Wd aD H aD' H'->zp K aD' H' S'->zY K aD' H' ρ' σ'->σ'.length=U.length->(∀ j,b<=j->σ'[j]?=U[j]?)->Q σ' H')->g vs U H Q
def Ou (X:Cx)(b:Nat)(tg:Expr)(g':DG):Prop:=∃ g,PG X tg g/\Wj X.K b g' g
theorem zY.set {K:PySem.W.Frag}(h:zY K aD H Z U)(r:Rel K aD H d v)(i:Nat):zY K aD H (Z.set i (some d)) (U.set i (some v)) where
 len:=by rw[WY,WY];exact h.len
 val:=fun j e q=>by
  by_cases hj:j=i
  ·subst hj;have hl:j<Z.length:=by have:=My.Wk q;rw[WY]at this;exact this
   rw[qR hl]at q;cases q;exact⟨v,qR (by rw[<- h.len];exact hl),r⟩
  ·rw[qQ (Ne.symm hj)]at q;obtain⟨u,e1,r1⟩:=h.val j e q;exact⟨u,by rw[qQ (Ne.symm hj)];exact e1,r1⟩
section
variable {X:Cx}{pos:Pos}{b:Nat}
def zma {K:PySem.W.Frag}(i:Nat)(hb:i<b):Wj K b (zR i) (L2.zR i):=fun aD H S Z U d v Q0 Q st rh r q k =>k _ S _ H aD q Wd.refl st (rh.set r i) (WY ..) fun j hj=>qQ (by lia)
def zqc (ho:PD X o to)(hi:PD X i ti)(ha:∀ v,assign (.Subscript o i pos) X.env v=(do
   let ov <- holding [v] (eval o X.env);let iv <- holding [v,ov] (eval i X.env)
   standAt pos
   holding [v,ov,iv] (setItem ov iv v)
   release [v,ov,iv] []):=by intro _;rfl):Ou X b (.Subscript o i pos) (Qy to ti):=by with_unfolding_all exact(⟨_,zuF ho hi set_list ha,fun aD H S Z U d v Q0 Q st rh r q k=>⟨aD,Z,S,_,st,rh,q,fun x S1 u H1 ad1 q1 w1 st1 r1=>⟨ad1,Z,S1,_,st1,rh.wd w1,q1,fun y S2 z H2 ad2 q2 w2 st2 r2=>by
  obtain⟨n,xs,kk,j,ex,ey,hn,hj,q3⟩:=q2;subst ex ey;cases r2;cases r1 with
  |ref e =>have e2:=Tr w2.pre e;obtain⟨ws,hw,rw⟩:=st2.cell n _ _ e2 hn;have rd:=r.wd (w1.trans w2);exact⟨_,ws,kk,j,rfl,rfl,hw,by rw[<- rw.length];exact hj,k Z _ U _ ad2 q3 ((w1.trans w2).trans (Wd.put e2 hw)) (st2.put e2 hw (rw.set rd j)) (rh.wd ((w1.trans w2).trans (Wd.put e2 hw))) rfl fun _ _=>rfl⟩⟩⟩⟩)
variable {st:Stmt}{sts:List Stmt}{t u:DS}{e:Expr}{te:DE}
def m7:W3 X [] zF:=by with_unfolding_all exact(rG ÿ fun E U H hh=>ZV hh fun aD Z S E0 so rh q k=>k.nx Z S U H aD q Wd.refl so rh)
def lE (h:Zv X st t):W3 X [st] t:=by with_unfolding_all exact(zqz h)
def nC (h1:Zv X st t)(h2:W3 X sts u):W3 X (st::sts) (zj t u):=by with_unfolding_all exact(rG (Ç h1 h2) fun E U H hh=>ZV hh fun aD Z S E0 so rh q k =>⟨aD,Z,S,{ E0 with nx:=u E0 },so,rh,q,⟨fun ρ' S' σ' H' aD' q' w st' rh'=>⟨aD',ρ',S',E0,st',rh',q',k.wd w⟩,k.rt,k.bk,k.ct⟩⟩)
def Ļ:Zv X (.Pass pos) zF:=by with_unfolding_all exact(Ye Đ fun E U H hh=>ZV hh fun aD Z S E0 so rh q k=>k.nx Z S U H aD q Wd.refl so rh)
def jK:Zv X (.Break pos) vW:=by with_unfolding_all exact(Ye ji fun E U H hh=>ZV hh fun aD Z S E0 so rh q k=>k.bk Z S U H aD q Wd.refl so rh)
def Š:Zv X (.Continue pos) sU:=by with_unfolding_all exact(Ye ù fun E U H hh=>ZV hh fun aD Z S E0 so rh q k=>k.ct Z S U H aD q Wd.refl so rh)
def K4:Zv X st Yj:=by with_unfolding_all exact(Ye mC fun E U H hh=>ZV hh fun aD Z S E0 so rh q k=>q)
def jT (he:PD X e te)(hs:autoParam (swapsWith e none pos.line X.env=pure false) zy):Zv X (.Expr e pos) (Za te):=by with_unfolding_all exact(Ye (cL he hs) fun E U H hh=>ZV hh fun aD Z S E0 so rh q k =>⟨aD,Z,S,_,so,rh,q,fun d S' v H' aD' q' w st' r=>k.nx Z S' U H' aD' q' w st' (rh.wd w)⟩)
def bG (he:PD X e te):Zv X (.Return (some e) pos) (zB te):=by with_unfolding_all exact(Ye (Θ he) fun E U H hh=>ZV hh fun aD Z S E0 so rh q k=>⟨aD,Z,S,_,so,rh,q,k.rt⟩)
def zw8 (h:Zv X st t):Zv X st (sJ t):=by with_unfolding_all exact(Ye h fun E U H zq52=>by obtain⟨aD,Z,S,E0,so,rh,⟨J,hJ,q⟩,k⟩:=zq52;exact 
 ⟨aD,Z,S,{ E0 with nx:=J },so,rh,q,⟨fun ρ' S' σ' H' aD' q' w st' rh'=>k.nx ρ' S' σ' H' aD' (hJ _ _ q') w st' rh',k.rt,k.bk,k.ct⟩⟩)
def zus {c:Expr}{a b:List Stmt}{tc:DT}(hc:YK X c tc)(ha:W3 X a t)(hb:W3 X b u):Zv X (.If c a b pos) (ZM tc t u):=by with_unfolding_all exact(Ye (Ń hc ha hb) fun E U H hh=>ZV hh fun aD Z S E0 so rh q k =>
 ⟨aD,Z,S,_,so,rh,q,fun b S' H' aD' q' w st'=>by
  cases b with
  |true=>rw[if_pos rfl]at q' ⊢;exact⟨aD',Z,S',E0,st',rh.wd w,q',k.wd w⟩
  |false=>rw[if_neg qo]at q' ⊢;exact⟨aD',Z,S',E0,st',rh.wd w,q',k.wd w⟩⟩)
def oX {i:Nat}{x:Str}{pos':Pos}(hN:X.N.Nodup)(he:PD X e te)(hi:autoParam (X.N[i]?=some x) zy)(hx:autoParam (Loc X.env.scope x) nY)(hs:autoParam (swapsWith e (some (.Name x pos')) pos.line X.env=pure false) zy)(hf:autoParam (X.fn x=true\/X.env.scope.names.lookup x=some .local) Rf) :
  Zv X (.Assign [.Name x pos'] e pos) (zq te (zR i)):=by with_unfolding_all exact(Ye (jd hN hi hx he hs hf) fun E U H hh=>ZV hh fun aD Z S E0 so rh q k =>
 ⟨aD,Z,S,_,so,rh,q,fun d S' v H' aD' q' w st' r=>k.nx _ S' _ H' aD' q' w st' ((rh.wd w).set r i)⟩)
def Az (he:PD X e te)(hg:Ou X 1000 tg g)(hs:autoParam (swapsWithSole [tg] e pos.line X.env=pure false) zy)(hw:autoParam (swappedStores [tg] e X.env=pure none) zy)(h1:autoParam ((assignEach [tg] X.env).map (·.2)=[assign tg X.env]) zy):Zv X (.Assign [tg] e pos) (zq te g):=by
 with_unfolding_all
  obtain⟨g',p,r⟩:=hg
  exact Ye (Ϩ he p hs hw h1) fun E U H hh=>ZV hh fun aD Z S E0 so rh q k =>⟨aD,Z,S,_,so,rh,q,fun d S' v H' aD' q' w st' rv=>r aD' H' S' Z U d v _ _ st' (rh.wd w) rv q' fun ρ2 S2 σ2 H2 ad2 q2 w2 st2 rh2 _ _=>k.nx ρ2 S2 σ2 H2 ad2 q2 (w.trans w2) st2 rh2⟩
def cZ {i:Nat}{x:Str}{pos':Pos}(hN:X.N.Nodup)(he:PD X e te)(hi:autoParam (X.N[i]?=some x) zy)(hx:autoParam (Loc X.env.scope x) nY)(hf:autoParam (X.fn x=true\/X.env.scope.names.lookup x=some .local) Rf) :
  Zv X (.AugAssign (.Name x pos') .Add e pos) (Jp i te):=by with_unfolding_all exact(Ye (ň hN hi hx he aR hf) fun E U H zq53=>by
 obtain⟨aD,Z,S,E0,so,rh,⟨a,ea,q⟩,k⟩:=zq53;obtain⟨v,ev,rv⟩:=rh.val i _ ea;cases rv;refine⟨_,ev,aD,Z,S,_,so,rh,q,fun d S' v H' aD' ⟨b,eb,q'⟩ w st' r=>?_⟩;subst eb;cases r;exact⟨a,b,rfl,rfl,k.nx _ S' _ H' aD' q' w st' ((rh.wd w).set (.int _) i)⟩)
def zlY (hc:YK X c tc)(hb:W3 X body t)(hp:autoParam (PassesOwn (model X.prog X.w) X.A X.env X.xe) rQ):Zv X (.While c body [] pos) (Vd tc t):=by with_unfolding_all exact(Ye (zob hp hc hb) fun E U H zq54=>by
 obtain⟨aD,Z,S,E0,so,rh,⟨W,⟨m0,w0⟩,turn⟩,k⟩:=zq54;refine⟨fun m σ' H'=>∃ aD' ρ' S',W m ρ' S'/\Wd aD H aD' H'/\zp X.K aD' H' S'/\zY X.K aD' H' ρ' σ',⟨m0,aD,Z,S,w0,Wd.refl,so,rh⟩,?_⟩;rintro m σ1 H1 ⟨ad1,ρ1,S1,w1,d1,st1,rh1⟩;refine⟨ad1,ρ1,S1,_,st1,rh1,turn m ρ1 S1 w1,fun b S2 H2 ad2 q2 d2 st2=>?_⟩;cases b with
 |true =>
  rw[if_pos rfl]at q2 ⊢;obtain⟨N,hN,q2⟩:=q2;refine⟨fun σ' H'=>∃ aD' ρ' S',N ρ' S'/\Wd aD H aD' H'/\zp X.K aD' H' S'/\zY X.K aD' H' ρ' σ',?_,ad2,ρ1,S2,{ E0 with nx:=N,ct:=N,bk:=E0.nx },st2,rh1.wd d2,q2,?_⟩
  ·rintro σ' H' ⟨aD',ρ',S',n',d',st',rh'⟩;obtain⟨m',hm,w'⟩:=hN ρ' S' n';exact⟨m',hm,aD',ρ',S',w',d',st',rh'⟩
  ·have d12:=d1.trans d2;exact⟨fun ρ' S' σ' H' aD' q' w' st' rh'=>⟨aD',ρ',S',q',d12.trans w',st',rh'⟩,k.rt.wd d12,fun ρ' S' σ' H' aD' q' w' st' rh'=>k.nx ρ' S' σ' H' aD' q' (d12.trans w') st' rh',fun ρ' S' σ' H' aD' q' w' st' rh'=>⟨aD',ρ',S',q',d12.trans w',st',rh'⟩⟩
 |false =>rw[if_neg qo]at q2 ⊢;exact k.nx ρ1 S2 σ1 H2 ad2 q2 (d1.trans d2) st2 (rh1.wd d2))
end
structure TY (K:PySem.W.Frag)(ad0:List Addr)(H0:Hp)(J0:UG)(J:It):Prop where
 go:∀ aD H S i,Wd ad0 H0 aD H->zp K aD H S->J0.ok S->i<J0.items.length->J.go i H
 yld:∀ aD H S i d x H',Wd ad0 H0 aD H->zp K aD H S->J0.ok S->J0.items[i]?=some d->J.yld i H x H'->Wd aD H aD H'/\zp K aD H' S/\Rel K aD H' d x
 stop:∀ aD H S,Wd ad0 H0 aD H->zp K aD H S->J0.ok S->J.stop J0.items.length H
def sH (K:PySem.W.Frag)(wi:DI):TI:=fun U H R=>∃ aD Z S R0,zp K aD H S/\zY K aD H Z U/\wi Z S R0/\∀ J0 S' J H' aD',R0 J0 S'->Wd aD H aD' H'->zp K aD' H' S'->TY K aD' H' J0 J->R J H'
@[irreducible] def Xp (X:Cx)(tg iter:Expr)(wi:DI):Prop:=PI X tg iter (sH X.K wi)
def Lw {w':TI}(h:PI X tg iter w)(m:∀ U H R,w' U H R->w U H R):PI X tg iter w':=fun Z9 s U H R I q=>h Z9 s U H R I (m U H R q)
section
variable {X:Cx}{tg e:Expr}
def Its (z:Str):It:=⟨fun i _=>i<z.cps.size,fun i H x H'=>H'=H/\∃ c,z.cps[i]?=some c/\x=.str ⟨#[c]⟩,fun i _=>z.cps.size<=i⟩
def ė {P:Program}{w:World}{K:PySem.W.Frag}{tg:Expr}(z:Str)(t:Tok)(it:Addr):Turn P w K tg (Its z) [it] it (fun i h=>h.IsStrIter it "str_ascii_iterator" z t i) where
 mem:=by simp
 obj:=fun i h st b hb=>by
  have e:b=it:=by simpa using hb
  subst e;obtain⟨o,e,c,d⟩:=st;exact⟨o,e,fun v y=>by rw[d]at y;cases y⟩
 keep:=fun i h h' st k=>let ⟨o,e,r⟩:=st;⟨o,k it (by simp) o e,r⟩
 item:=by
  intro X hP hw hK hc i Z9 s U H E I hf st hg;subst hP hw hK;have hg:i<z.cps.size:=hg;obtain⟨f0,f1,f2,f3,f4,f5⟩:=hf it (by simp);refine wpAny_pyNext_ascii_item st (c:=z.cps[i]) (by simp[hg]) fun h' st' sb=>?_
  have I1:Inv X Z9 U H { s with heap:=h',toks:=s.toks+1 }:=I.turned (t':=s.toks+1) (fun b o hb e=>(sb.2 b hb).trans e) f0 f1 f3 f4 f5;obtain⟨o,e,c,d⟩:=id st';exact⟨_,rfl,Qp (s:={ s with heap:=h',toks:=s.toks+1 }) e c d (by decide) ⟨.str ⟨#[z.cps[i]]⟩,H,I1,⟨_,rfl⟩,⟨rfl,z.cps[i],by simp[hg],rfl⟩,st',fun b hb=>(hf b hb).1⟩⟩
 done:=by intro X hP hw hK hc i Z9 s U H E I hf st hg;subst hP hw hK;have hg:z.cps.size<=i:=hg;obtain⟨f0,f1,f2,f3,f4,f5⟩:=hf it (by simp);exact wpAny_pyNext_ascii_end (I.ok.hd hc) st (by simp[hg]) fun h' eb=>⟨rfl,I.turned (t':=s.toks) (fun b o hb e=>eb b o hb e) f0 f1 f3 f4 f5⟩
 self:=fun _ _ _ _ _ st hQ=>wpAny_pyIter_striter_ascii st hQ
def bZ {P:Program}{w:World}{K:PySem.W.Frag}{tg:Expr}(z:Str)(t:Tok)(it:Addr):Turn P w K tg (Its z) [it] it (fun i h=>h.IsStrIter it "str_iterator" z t i) where
 mem:=by simp
 obj:=fun i h st b hb=>by
  have e:b=it:=by simpa using hb
  subst e;obtain⟨o,e,c,d⟩:=st;exact⟨o,e,fun v y=>by rw[d]at y;cases y⟩
 keep:=fun i h h' st k=>let ⟨o,e,r⟩:=st;⟨o,k it (by simp) o e,r⟩
 item:=by
  intro X hP hw hK hc i Z9 s U H E I hf st hg;subst hP hw hK;have hg:i<z.cps.size:=hg;obtain⟨f0,f1,f2,f3,f4,f5⟩:=hf it (by simp);refine wpAny_pyNext_wide_item st (c:=z.cps[i]) (by simp[hg]) fun h' st' sb=>?_
  have I1:Inv X Z9 U H { s with heap:=h',toks:=s.toks+1 }:=I.turned (t':=s.toks+1) (fun b o hb e=>(sb.2 b hb).trans e) f0 f1 f3 f4 f5;obtain⟨o,e,c,d⟩:=id st';exact⟨_,rfl,Qp (s:={ s with heap:=h',toks:=s.toks+1 }) e c d (by decide) ⟨.str ⟨#[z.cps[i]]⟩,H,I1,⟨_,rfl⟩,⟨rfl,z.cps[i],by simp[hg],rfl⟩,st',fun b hb=>(hf b hb).1⟩⟩
 done:=by intro X hP hw hK hc i Z9 s U H E I hf st hg;subst hP hw hK;have hg:z.cps.size<=i:=hg;obtain⟨f0,f1,f2,f3,f4,f5⟩:=hf it (by simp);exact wpAny_pyNext_wide_end (I.ok.hd hc) st (by simp[hg]) fun h' eb=>⟨rfl,I.turned (t':=s.toks) (fun b o hb e=>eb b o hb e) f0 f1 f3 f4 f5⟩
 self:=fun _ _ _ _ _ st hQ=>wpAny_pyIter_striter_wide st hQ
def gH (K:PySem.W.Frag)(tl:TE):TI:=fun U H R=>tl U H fun x H1=>(∃ a,x=.ref a/\(((∃ xs,ZC K H1 a xs)/\R (FZ K a) H1)\/((∃ xs,ZQ K H1 a xs)/\R (Gz K a) H1)))\/(∃ z,x=.str z/\R (Its z) H1)
def zmL (hl:PE X l tl):PI X tg l (gH X.K tl):=by
  intro Z9 s U H R I h;refine Z2 (hl Z9 s U H _ I h) fun v s1 ⟨x,H1,I1,r1,q1⟩=>?_
  rcases q1 with⟨a,e,q1⟩|⟨z,e,q⟩
  case inr =>
    subst e;obtain⟨t,rfl⟩:=r1
    have fp:∀ b∈[s1.heap.objs.size],V5 X Z9 H1 b:=fun b hb=>by
      have e:b=s1.heap.objs.size:=by simpa using hb
      subst e;exact I1.fpOk (qh _) (I1.hok.fresh (qh _))
    cases ha:z.cps.all (· < 128)with
    |true=>exact wpAny_pyIter_ascii ha ⟨s1.heap.objs.size,[s1.heap.objs.size],_,_,H1,rfl,I1.kept (t':=s1.toks) fun b o e=>qd _ e,ė z t _,⟨_,ql _ rfl,rfl,rfl⟩,fp,q⟩
    |false=>exact wpAny_pyIter_wide ha ⟨s1.heap.objs.size,[s1.heap.objs.size],_,_,H1,rfl,I1.kept (t':=s1.toks) fun b o e=>qd _ e,bZ z t _,⟨_,ql _ rfl,rfl,rfl⟩,fp,q⟩
  subst e;cases r1;rcases q1 with⟨⟨xs,hq⟩,q⟩|⟨⟨xs,hq⟩,q⟩
  . obtain⟨its,rv,p,hz⟩:=I1.list hq;refine wpAny_pyIter_list p.isList ?_;refine⟨s1.heap.objs.size,[s1.heap.objs.size],_,_,H1,rfl,I1.kept (t':=s1.toks) fun b o e=>qd _ e,cI a _,⟨_,ql _ rfl,rfl,rfl⟩,fun b hb=>?_,q⟩;have e:b=s1.heap.objs.size:=by simpa using hb
    subst e;exact I1.fpOk (qh _) (I1.hok.fresh (qh _))
  . obtain⟨its,rv,p,hz⟩:=I1.tuple hq;refine wpAny_pyIter_tuple (show s1.heap.IsTuple a its.toArray from p) ?_;refine⟨s1.heap.objs.size,[s1.heap.objs.size],_,_,H1,rfl,I1.kept (t':=s1.toks) fun b o e=>qd _ e,ß a _,⟨_,ql _ rfl,rfl,rfl⟩,fun b hb=>?_,q⟩;have e:b=s1.heap.objs.size:=by simpa using hb
    subst e;exact I1.fpOk (qh _) (I1.hok.fresh (qh _))
def dF {K:PySem.W.Frag}{aD:List Addr}{H:Hp}(z:Str):TY K aD H ⟨signs z,fun _=>True⟩ (Its z) where
 go:=fun ad1 H1 S i w st _ hi=>by show i<z.cps.size;have:i<(signs z).length:=hi;unfold signs at this;rw[qa]at this;simpa using this
 yld:=by rintro ad1 H1 S i d x H' w st _ hd ⟨e,c,hc,hx⟩;subst e hx;have hd:(signs z)[i]?=some d:=hd;unfold signs at hd;rw[qj,Dc,hc]at hd;cases hd;exact⟨Wd.refl,st,.str _⟩
 stop:=fun ad1 H1 S w st _=>by show z.cps.size<=(signs z).length;unfold signs;rw[qa];simp
def Ŵ {K:PySem.W.Frag}{H:Hp}{vs:List V}(h:H a=some (.tup vs))(r:zf K aD H ds vs):TY K aD H ⟨ds,fun _=>True⟩ (Gz K a) where
 go:=fun ad1 H1 S i w st _ hi=>⟨vs,vs[i]'(by rw[<- r.length];exact hi),ZQ.of (w.tup _ _ h),qb _⟩
 yld:=by rintro ad1 H1 S i d x H' w st _ hd ⟨e,hx⟩;subst e;obtain⟨v,ev,rv⟩:=r.get hd;rw[hx vs (ZQ.of (w.tup _ _ h))]at ev;cases ev;exact⟨Wd.refl,st,rv.wd w⟩
 stop:=fun ad1 H1 S w st _=>⟨vs,ZQ.of (w.tup _ _ h),by rw[<- r.length];exact qh _⟩
def zvp {K:PySem.W.Frag}{a:Addr}{ds:List D}(r:Rel K aD H x (.ref a)):TY K aD H ⟨ds,fun S=>Lst S x ds⟩ (FZ K a) where
 go:=fun ad1 H1 S i w st ok hi=>by obtain⟨a',vs,e,s,rs⟩:=Lst.sq st ok (r.wd w);cases e;exact⟨vs,vs[i]'(by rw[<- rs.length];exact hi),s,qb _⟩
 yld:=by rintro ad1 H1 S i d y H' w st ok hd ⟨e,hx⟩;subst e;obtain⟨a',vs,e,s,rs⟩:=Lst.sq st ok (r.wd w);cases e;obtain⟨v,ev,rv⟩:=rs.get hd;rw[hx vs s]at ev;cases ev;exact⟨Wd.refl,st,rv⟩
 stop:=fun ad1 H1 S w st ok=>by obtain⟨a',vs,e,s,rs⟩:=Lst.sq st ok (r.wd w);cases e;exact⟨vs,s,by rw[<- rs.length];exact qh _⟩
def zuZ {t:DE}(h:PD X e t):Xp X tg e (z9 t):=by with_unfolding_all exact(Lw (zmL h) fun U H R hh=>ZV hh fun aD Z S R0 st rh q k =>
 ⟨aD,Z,S,_,st,rh,q,fun x S1 v H1 ad1 q1 w1 st1 r1=>by
  rcases q1 with⟨xs,rfl,q1⟩|⟨xs,hx,q1⟩|⟨z,rfl,q1⟩
  ·cases r1 with
   |tup h1 rs=>exact .inl ⟨_,rfl,.inr ⟨⟨_,ZQ.of h1⟩,k _ S1 _ H1 ad1 q1 w1 st1 (Ŵ h1 rs)⟩⟩
  ·obtain⟨a,vs,rfl,s,rs⟩:=hx.sq st1 r1;exact .inl ⟨a,rfl,.inl ⟨⟨vs,s⟩,k _ S1 _ H1 ad1 q1 w1 st1 (zvp r1)⟩⟩
  ·cases r1;exact .inr ⟨z,rfl,k _ S1 _ H1 ad1 q1 w1 st1 (dF z)⟩⟩)
def gA {lo:Int}{n i:Nat}{d:D}(h:(upto lo n)[i]?=some d):i<n/\d=.int (lo+i):=by
 unfold upto at h;rw[qj]at h;have hi:=My.Wk (xs:=List.range n) (i:=i) (x:=i);cases hr:(List.range n)[i]? with
 |none=>rw[hr]at h;cases h
 |some k =>rw[hr]at h;have h1:=My.Wk hr;rw[Vu]at h1;have h2:(List.range n)[i]?=some i:=List.getElem?_range h1;rw[hr]at h2;cases h2;cases h;exact⟨h1,rfl⟩
def oY (lo:Int)(n:Nat):(upto lo n).length=n:=by unfold upto;rw[qa,Vu]
def uI {K:PySem.W.Frag}{aD:List Addr}{H:Hp}(lo:Int)(n:Nat):TY K aD H ⟨upto lo n,fun _=>True⟩ (Q5 lo n) where
 go:=fun ad1 H1 S i w st _ hi=>by rw[oY]at hi;exact hi
 yld:=by rintro ad1 H1 S i d x H' w st _ hd ⟨e,hx⟩;subst e;obtain⟨_,rfl⟩:=gA hd;rw[hx];exact⟨Wd.refl,st,.int _⟩
 stop:=fun ad1 H1 S w st _=>by rw[oY];exact qh _
def eG {P:Program}{w:World}{K:PySem.W.Frag}{tg:Expr}(it:Addr)(lo:Int)(n:Nat):Turn P w K tg (Q5 lo n) [it] it (fun i h=>IsLongIter h it (lo+(i:Nat)*1) ((n:Int)-(i:Nat)) 1) where
 mem:=by simp
 obj:=fun i h st b hb=>by
  have e:b=it:=by simpa using hb
  subst e
  exact⟨_,st,fun v z=>by have z':Data.fields _=Data.cell v:=z;cases z'⟩
 keep:=fun i h h' st k=>k it (by simp) _ st
 item:=by
  intro X hP hw hK hc i Z9 s U H E I hf st' hg;subst hP hw hK;obtain⟨f0,f1,f2,f3,f4,f5⟩:=hf it (by simp);have W:=Walks.longrange (prog:=X.prog) (w:=X.w) (I.ok.hd hc) it lo 1 n;refine W.item i s _ _ hg st' fun v h' tk hv st'' kk=>?_
  obtain⟨t,rfl⟩:=hv;have I1:Inv X Z9 U H { s with heap:=h',toks:=tk }:=I.turned (fun b o hb e=>kk b o (by simpa using hb) e) f0 f1 f3 f4 f5;rw[U5];exact⟨_,rfl,Qp (s:={ s with heap:=h',toks:=tk }) (n:="longrange_iterator") st'' rfl rfl (by decide) ⟨.int (lo+i),H,I1,⟨t,rfl⟩,⟨rfl,rfl⟩,st'',fun b hb=>(hf b hb).1⟩⟩
 done:=by intro X hP hw hK hc i Z9 s U H E I hf st' hg;subst hP hw hK;obtain⟨f0,f1,f2,f3,f4,f5⟩:=hf it (by simp);exact wpAny_pyNext_long_end (I.ok.hd hc) st' (by have:n<=i:=hg;lia) fun h' eb=>⟨rfl,I.turned (t':=s.toks) (fun b o hb e=>eb b o hb e) f0 f1 f3 f4 f5⟩
 self:=fun _ _ _ _ _ st h=>wpAny_pyIter_longiter st h
def range_any {R:It->Hp->Prop}{E:Value->Shared->Prop}{lo hi:Int}{t u v:Tok}{tk:Nat}(I:Inv X Z9 U H s)(q:R (Q5 lo (hi-lo).toNat) H):wpAny (model X.prog X.w) X.A (pyIter (.ref s.heap.objs.size)) (PIE X Z9 U tg R) E { s with heap:=s.heap.push { cls:=.type "range",data:=.fields #[.int lo t,.int hi u,.int 1 v] },toks:=tk }:=by
  have I1:Inv X Z9 U H { s with heap:=s.heap.push { cls:=.type "range",data:=.fields #[.int lo t,.int hi u,.int 1 v] },toks:=tk }:=I.kept fun b o e=>qd _ e
  have e1:lo+((0:Nat):Int)*1=lo:=by simp
  have e2:(((hi-lo).toNat:Nat):Int)-((0:Nat):Int)=Builtin.Range.rangeSize lo hi 1:=by rw[rangeSize_one];split<;>lia
  cases hsm:Builtin.Range.small lo hi 1 with
  |true =>
    refine wpAny_pyIter_range (IsRange.new ..) hsm ?_
    refine⟨(s.heap.push { cls:=.type "range",data:=.fields #[.int lo t,.int hi u,.int 1 v] }).objs.size,[(s.heap.push { cls:=.type "range",data:=.fields #[.int lo t,.int hi u,.int 1 v] }).objs.size],_,_,H,rfl,
      I1.kept (t':=tk) fun b o e=>qd _ e,wD _ lo (hi-lo).toNat,?_,fun b hb=>?_,q⟩
    . show IsRangeIter _ _ (lo+((0:Nat):Int)*1) ((((hi-lo).toNat:Nat):Int)-((0:Nat):Int)) 1;rw[e1,e2];exact ql _ rfl
    . have e:b=(s.heap.push { cls:=.type "range",data:=.fields #[.int lo t,.int hi u,.int 1 v] }).objs.size:=by simpa using hb
      subst e;exact I1.fpOk (qh _) (I1.hok.fresh (qh _))
  |false =>
    refine wpAny_pyIter_longrange (IsRange.new ..) hsm ?_
    refine⟨(s.heap.push { cls:=.type "range",data:=.fields #[.int lo t,.int hi u,.int 1 v] }).objs.size,[(s.heap.push { cls:=.type "range",data:=.fields #[.int lo t,.int hi u,.int 1 v] }).objs.size],_,_,H,rfl,
      I1.kept (t':=tk) fun b o e=>qd _ e,eG _ lo (hi-lo).toNat,?_,fun b hb=>?_,q⟩
    . show IsLongIter _ _ (lo+((0:Nat):Int)*1) ((((hi-lo).toNat:Nat):Int)-((0:Nat):Int)) 1;rw[e1,e2];exact ql _ rfl
    . have e:b=(s.heap.push { cls:=.type "range",data:=.fields #[.int lo t,.int hi u,.int 1 v] }).objs.size:=by simpa using hb
      subst e;exact I1.fpOk (qh _) (I1.hok.fresh (qh _))
def zr6 {a:Expr}{t:DA}{p pos:Pos}(hm:X.mg "range"=none)(ha:PAD X [a] t)(hg:autoParam (Gl X "range") zy)(hs:autoParam (starEach [a] X.env=[(false,eval a X.env)]) Ni):Xp X tg (.Call (.Name "range" p) [a] [] pos) (Rk t):=by with_unfolding_all exact(Lw (mK hg hm ha hs) fun U H R hh=>ZV hh fun aD Z S R0 st rh q k =>
 ⟨aD,Z,S,_,st,rh,q,by rintro ds S1 vs H1 ad1 ⟨j,ed,b1,b2,q1⟩ w1 st1 r1;subst ed;obtain⟨v,rfl,rv⟩:=Xz r1;cases rv;exact⟨j,rfl,b1,b2,k _ S1 _ H1 ad1 q1 w1 st1 (uI 0 j.toNat)⟩⟩)
def mW {a b:Expr}{t:DA}{p pos:Pos}(hm:X.mg "range"=none)(ha:PAD X [a,b] t)(hg:autoParam (Gl X "range") zy)(hs:autoParam (starEach [a,b] X.env=[(false,eval a X.env),(false,eval b X.env)]) sO)(hs2:autoParam (starEach [b] X.env=[(false,eval b X.env)]) Ni) :
  Xp X tg (.Call (.Name "range" p) [a,b] [] pos) (Jh t):=by
 with_unfolding_all
  rintro Z9 s U H R I ⟨aD,Z,S,R0,st,rh,q,k⟩
  refine Call_ (T8 I hg hm boot_range (PyProof.Rows.callWith_type1 (Z2 (ha pos Z9 s U H (fun vs H1=>∃ i j:Int,vs=[.int i,.int j]/\R (Q5 i (j-i).toNat) H1) I ⟨aD,Z,S,_,st,rh,q,by rintro ds S1 vs H1 ad1 ⟨i,j,ed,q1⟩ w1 st1 r1;subst ed;obtain⟨v,u,rfl,rv,ru⟩:=Pj r1;cases rv;cases ru;exact⟨i,j,rfl,k _ S1 _ H1 ad1 q1 w1 st1 (uI i _)⟩⟩) fun us s1 ⟨vs,H1,I1,r1,q1⟩=>?_) (by rw[hs,hs2]) (by rw[hs2];rfl)))
  obtain⟨i,j,e,q⟩:=q1;subst e;cases r1 with
  |cons r rr =>
   cases rr with
   |cons r' rr =>cases rr;obtain⟨t,rfl⟩:=r;obtain⟨t',rfl⟩:=r';exact call_range_2 (range_any I1 q)
def zqP {t:DS}{pos:Pos}(hi:Xp X tg iter wi)(hg:Ou X 1000 tg g)(hb:W3 X body t)(hp:autoParam (PassesOwn (model X.prog X.w) X.A X.env X.xe) rQ)(hc:autoParam (X.calm=true) zy)(hs:autoParam (∀ x,foldedSetIterable iter X.env x=pure x) Qj):Zv X (.For tg iter body [] pos) (YQ wi g t):=by
 with_unfolding_all
  obtain⟨g',pg,rg⟩:=hg;refine Ye (ϩ hp hc hi pg hb hs) fun E U H hh=>ZV hh fun aD Z S E0 so rh q k=>?_
  refine⟨aD,Z,S,_,so,rh,q,fun J0 S1 J H1 ad1 ⟨W,w0,hok,step,fin⟩ d1 st1 it=>?_⟩;refine⟨fun i m σ' H'=>m=J0.items.length-i/\i<=J0.items.length/\∃ aD' ρ' S',W i ρ' S'/\Wd ad1 H1 aD' H'/\zp X.K aD' H' S'/\zY X.K aD' H' ρ' σ',⟨J0.items.length,rfl,qY _,ad1,Z,S1,w0,Wd.refl,st1,rh.wd d1⟩,?_⟩;rintro i m σ2 H2 ⟨rfl,hi2,ad2,ρ2,S2,w2,d2,st2,rh2⟩;by_cases hlt:i<J0.items.length
  ·have ed:J0.items[i]?=some J0.items[i]:=qb hlt;refine .inr ⟨it.go ad2 H2 S2 i d2 st2 (hok _ _ _ w2) hlt,fun σ' H'=>∃ aD' ρ' S',W (i+1) ρ' S'/\Wd ad1 H1 aD' H'/\zp X.K aD' H' S'/\zY X.K aD' H' ρ' σ',?_,fun x H' hy=>?_⟩
   ·rintro σ' H' ⟨aD',ρ',S',w',d',st',rh'⟩;exact⟨J0.items.length-(i+1),by lia,rfl,hlt,aD',ρ',S',w',d',st',rh'⟩
   ·obtain⟨d3,st3,r3⟩:=it.yld ad2 H2 S2 i _ x H' d2 st2 (hok _ _ _ w2) ed hy;refine rg ad2 H' S2 ρ2 σ2 _ x _ _ st3 (rh2.wd d3) r3 (step i _ ρ2 S2 ed w2) fun ρ4 S4 σ4 H4 ad4 q4 d4 st4 rh4 _ _=>?_
    have d14:=(d2.trans d3).trans d4;have d04:=d1.trans d14;exact⟨ad4,ρ4,S4,{ E0 with nx:=W (i+1),ct:=W (i+1),bk:=E0.nx },st4,rh4,q4,⟨fun ρ' S' σ' H' aD' q' w' st' rh'=>⟨aD',ρ',S',q',d14.trans w',st',rh'⟩,k.rt.wd d04,fun ρ' S' σ' H' aD' q' w' st' rh'=>k.nx ρ' S' σ' H' aD' q' (d04.trans w') st' rh',fun ρ' S' σ' H' aD' q' w' st' rh'=>⟨aD',ρ',S',q',d14.trans w',st',rh'⟩⟩⟩
  ·have e:i=J0.items.length:=by lia
   subst e;exact .inl ⟨it.stop ad2 H2 S2 d2 st2 (hok _ _ _ w2),k.nx ρ2 S2 σ2 H2 ad2 (fin ρ2 S2 w2) (d1.trans d2) st2 rh2⟩
end
theorem Ge:∀ {a b:L2.St} (n:Nat),(∀ j,j<n->a[j]?=some none\/a.length<=j)->b.length=a.length->(∀ j,n<=j->b[j]?=a[j]?)->XM a b
 |[],[],_,_,_,_=>True.intro
 |[],_::_,_,_,h,_=>by simp at h
 |_::_,[],_,_,h,_=>by simp at h
 |x::a,y::b,n,h0,hl,h=>by
  have hl':b.length=a.length:=by simpa using hl
  cases n with
  |zero =>
   have e:=h 0 (qh _);have e':y=x:=by simpa using e
   subst e';have rest:XM a b:=Ge 0 (fun j hj=>absurd hj (Nat.not_lt_zero _)) hl' fun j _=>by simpa using h (j+1) (qY _)
   cases y with
   |none=>exact rest
   |some v=>exact⟨rfl,rest⟩
  |succ n =>
   have rest:XM a b:=Ge n (fun j hj=>by
    rcases h0 (j+1) (by lia)with e|e
    ·exact .inl (by simpa using e)
    ·exact .inr (by simpa using e)) hl' fun j hj=>by simpa using h (j+1) (by lia)
   rcases h0 0 (Nat.succ_pos _)with e|e
   ·have e':x=none:=by simpa using e
    subst e';exact rest
   ·simp at e
def ό {K:PySem.W.Frag}(h:zY K aD H Z U)(own:List Str)(fv:List Nat):zY K aD H (Rr own.length fv Z) (cst own fv U) where
  len:=by unfold Rr cst;rw[qf,qf,qK,qK,qa,qa]
  val:=fun i d e=>by
    unfold Rr at e;unfold cst;by_cases hi:i<own.length
    . rw[qg (by rw[qK];exact hi),M5]at e;split at e<;>cases e
    . have hi':own.length<=i:=Rc hi;rw[qe (by rw[qK];exact hi'),qK,qj]at e;rw[qe (by rw[qK];exact hi'),qK,qj];cases hf:fv[i-own.length]? with
      |none=>rw[hf]at e;cases e
      |some j =>
        rw[hf]at e;simp only[Option.map_some,Option.some.injEq]at e ⊢;cases hr:Z[j]? with
        |none=>rw[hr]at e;cases e
        |some o =>rw[hr]at e;have e':o=some d:=e;subst e';obtain⟨v,ev,rv⟩:=h.val j d hr;exact⟨v,by rw[ev];rfl,rv⟩
@[irreducible] def Ms (X:Cx)(ifs:List Expr)(t:DT):Prop:=QL X ifs (Ox X.K t)
def Ο {X:Cx}:Ms X [] Yc:=by with_unfolding_all exact(fun Z9 s U H Q I hh=>ZV hh fun aD Z S Q0 st rh q k=>Œ Z9 s U H Q I (k true S H aD q Wd.refl st))
def Ć {t:DT}(h:YK X c t):Ms X [c] t:=by with_unfolding_all exact(zvu h)
def ofT {A B:Prop}(h:if true=true then A else B):A:=by rw[if_pos rfl]at h;exact h
def ofF {A B:Prop}(h:if false=true then A else B):B:=by rw[if_neg qo]at h;exact h
def wz {K:PySem.W.Frag}{own:List Str}{fv:List Nat}{wi:DI}{tc:DT}{te:DE}(rg:Wj K own.length g g'){U:L2.St}{H:Hp}{Q:VK}(h:up K (Zg own.length fv wi g tc te) U H Q):GJ own fv (sH K wi) g' (Ox K tc) (up K te) U H Q:=by
 obtain⟨aD,Z,S,Q0,so,rh,q,k⟩:=h;refine⟨aD,Z,S,_,so,rh,q,fun J0 S1 J H1 ad1 ⟨hbig,W,w0,hok,step,fin⟩ d1 st1 it=>?_⟩;intro p hp
 refine⟨fun i m H'=>m=J0.items.length-i/\i<=J0.items.length/\∃ aD' S' ys vs,W i ys S'/\Wd ad1 H1 aD' H'/\zp K aD' H' S'/\p∉aD'/\H' p=some (.lst vs)/\zf K aD' H' ys vs/\vs.length<=i,
  ⟨J0.items.length,rfl,qY _,ad1,S1,[],[],w0,Wd.laid hp,st1.laid hp,st1.fresh hp,zL,.nil,qh _⟩,?_⟩
 rintro i m H2 ⟨rfl,hi2,ad2,S2,ys,vs,w2,d2,st2,hp2,hv2,r2,hl2⟩;by_cases hlt:i<J0.items.length
 ·have ed:J0.items[i]?=some J0.items[i]:=qb hlt;refine .inr ⟨it.go ad2 H2 S2 i d2 st2 (hok _ _ _ w2) hlt,fun x H' hy=>?_⟩;obtain⟨d3,st3,r3⟩:=it.yld ad2 H2 S2 i _ x H' d2 st2 (hok _ _ _ w2) ed hy;have rh3:=ό (rh.wd ((d1.trans d2).trans d3)) own fv;refine rg ad2 H' S2 _ _ _ x _ _ st3 rh3 r3 (step i _ ys S2 ed w2) fun ρ4 S4 σ4 H4 ad4 q4 d4 st4 rh4 l4 a4=>?_
  refine⟨Ge own.length (fun j hj=>.inl ?_) l4 a4,ad4,ρ4,S4,_,st4,rh4,q4,fun b S5 H5 ad5 q5 d5 st5=>?_⟩
  ·unfold cst;rw[qg (by rw[qK];exact hj),M5,if_pos hj]
  have fwd:∀ {ad9:List Addr} {H9:Hp},Wd ad2 H2 ad9 H9->p∉ad9/\H9 p=some (.lst vs):=fun {ad9 H9} w=>⟨(fun m=>by have z:=w.new p m hp2;rw[hv2]at z;cases z),w.keep p _ hp2 hv2⟩
  have d25:=(d3.trans d4).trans d5;cases b with
  |true =>refine Ck ?_;have q5:=Dp.ofT q5;refine⟨ad5,ρ4,S5,_,st5,rh4.wd d5,q5,fun y S6 v H6 ad6 q6 d6 st6 r6=>?_⟩;have d26:=d25.trans d6;obtain⟨n6,e6⟩:=fwd d26;have hw:Wr ad6 H6 ad6 (upd H6 p (.lst (vs++[v]))):=Wr.hid e6;have hvl:vs.length<sizeLine:=Mg (by lia);exact⟨vs,e6,hvl,J0.items.length-(i+1),by lia,rfl,hlt,ad6,S6,ys++[y],vs++[v],q6,(d2.trans d26).hid hp,st6.hid e6 n6 (st1.bfree hp),n6,zL,zf.wr hw ((r2.wd d26).append (.cons r6 .nil)),by rw[qf];exact Nat.succ_le_succ hl2⟩
  |false =>refine GP ?_;have q5:=Dp.ofF q5;obtain⟨n5,e5⟩:=fwd d25;exact⟨J0.items.length-(i+1),by lia,rfl,hlt,ad5,S5,ys,vs,q5,d2.trans d25,st5,n5,e5,r2.wd d25,by lia⟩
 ·have e:i=J0.items.length:=by lia
  subst e;refine .inl ⟨it.stop ad2 H2 S2 d2 st2 (hok _ _ _ w2),?_⟩;exact k _ _ _ _ (ad2++[p]) (fin ys S2 w2) (d1.trans (d2.add hp)) (st2.add hv2 hp2 r2 (st1.bfree hp)) (.ref (by rw[<- st2.len,qe (qh _),Yp];rfl))
section
variable {X:Cx}{sc:Scope}{tg iter elt:Expr}{ifs:List Expr}{own free:List Str}{fv:List Nat}{wi:DI}{g:DG}{tc:DT}{te:DE}{pos:Pos}
def zxe (hfr:WQ (fun x=>X.env.kindOf x=some .cell) sc.names)(hfv:Vs X sc free fv)(hi:Xp X tg iter wi)(hg:Wj X.K own.length g g'/\∀ cl C s₀ H₀ ex,PG (inner X sc (own++free) cl C s₀ H₀ ex) tg g')(ht:∀ cl C s₀ H₀ ex,Ms (inner X sc (own++free) cl C s₀ H₀ ex) ifs tc)(he:∀ cl C s₀ H₀ ex,PD (inner X sc (own++free) cl C s₀ H₀ ex) elt te)(hcalm:autoParam (X.calm=true) zy)(hxe:autoParam ((X.xe=fun _ _=>False)) zy)(hkind:autoParam (sc.kind=.function) zy)(hcell:autoParam (∀ y∈sc.names,y.2=.cell->sc.names.lookup y.1=some .cell) IV)(hnames:autoParam (∀ y∈sc.names,y.2=.local->sc.names.lookup y.1=some .local) IV)(hs:autoParam (∀ x,foldedSetIterable iter X.env x=pure x) Qj):PD X (.ListComp elt [⟨tg,iter,ifs,0⟩] sc pos) (Zg own.length fv wi g tc te):=by with_unfolding_all exact(zV (ώ (tc:=Ox X.K tc) (te:=up X.K te) hcalm hxe hkind hcell hnames hfr hfv hi hg.2 ht he hs) fun _ _ _=>wz hg.1)
def zoS {i:Nat}{y:Str}{py spos:Pos}(hN:X.N.Nodup)(hfr:WQ (fun x=>X.env.kindOf x=some .cell) sc.names)(hfv:Vs X sc free fv)(hi:Xp X tg iter wi)(hg:Wj X.K own.length g g'/\∀ cl C s₀ H₀ ex,PG (inner X sc (own++free) cl C s₀ H₀ ex) tg g')(ht:∀ cl C s₀ H₀ ex,Ms (inner X sc (own++free) cl C s₀ H₀ ex) ifs tc)(he:∀ cl C s₀ H₀ ex,PD (inner X sc (own++free) cl C s₀ H₀ ex) elt te)(hy:autoParam (X.N[i]?=some y) zy)(hyl:autoParam (X.env.scope.names.lookup y=some .local) zy)(hcalm:autoParam (X.calm=true) zy)(hxe:autoParam ((X.xe=fun _ _=>False)) zy)(hkind:autoParam (sc.kind=.function) zy)(hcell:autoParam (∀ y∈sc.names,y.2=.cell->sc.names.lookup y.1=some .cell) IV)(hnames:autoParam (∀ y∈sc.names,y.2=.local->sc.names.lookup y.1=some .local) IV)(hsw:autoParam (swapsWith (.ListComp elt [⟨tg,iter,ifs,0⟩] sc pos) (some (.Name y py)) spos.line X.env=pure true) zy)(hs:autoParam (∀ x,foldedSetIterable iter X.env x=pure x) Qj):Zv X (.Assign [.Name y py] (.ListComp elt [⟨tg,iter,ifs,0⟩] sc pos) spos) (zq (Zg own.length fv wi g tc te) (zR i)):=by with_unfolding_all exact(Ye (zra (tc:=Ox X.K tc) (te:=up X.K te) hN hy hyl hcalm hxe hkind hcell hnames hfr hfv hi hg.2 ht he hsw hs) fun E U H hh=>ZV hh fun aD Z S E0 so rh q k =>wz (Q:=fun x H1=>L2.zR i x U H1 E.nx) hg.1 ⟨aD,Z,S,_,so,rh,q,fun d S' v H' aD' q' w st' r=>k.nx _ S' _ H' aD' q' w st' ((rh.wd w).set r i)⟩)
def ģ {K:PySem.W.Frag}{b:Nat}:Je K b YW L2.YW:=fun aD H S Z U ds vs Q0 Q st rh r zq61 k=>by obtain⟨e,q⟩:=zq61;subst e;cases r;exact⟨rfl,k Z S U H aD q Wd.refl st rh rfl fun _ _=>rfl⟩
def Ϗ {K:PySem.W.Frag}{t:DG}(r1:Wj K b t t')(r2:Je K b u u'):Je K b (zK t u) (L2.zK t' u'):=fun aD H S Z U ds vs Q0 Q st rh r zq62 k=>by
 obtain⟨d,rs,ed,q⟩:=zq62;subst ed;cases r with
 |cons r t =>refine⟨_,_,rfl,r1 aD H S Z U d _ _ _ st rh r q fun ρ1 S1 σ1 H1 ad1 q1 w1 st1 rh1 l1 a1=>?_⟩;exact r2 ad1 H1 S1 ρ1 σ1 _ _ _ _ st1 rh1 (t.wd w1) q1 fun ρ2 S2 σ2 H2 ad2 q2 w2 st2 rh2 l2 a2=>k ρ2 S2 σ2 H2 ad2 q2 (w1.trans w2) st2 rh2 (l2.trans l1) fun j hj=>(a2 j hj).trans (a1 j hj)
def Ϸ {K:PySem.W.Frag}{n:Nat}{t:Vc}(r:Je K b t t'):Wj K b (YL n t) (L2.YL K n t'):=fun aD H S Z U d v Q0 Q st rh rv zq63 k=>by
 obtain⟨xs,ed,hl,q⟩:=zq63;subst ed;cases rv with
 |tup h1 rs=>exact⟨_,_,rfl,ZQ.of h1,by rw[<- rs.length];exact hl,r aD H S Z U xs _ _ _ st rh rs q k⟩
end
def Ab {K:PySem.W.Frag}(N:List Str)(r:zf K aD H ds vs):zY K aD H (Tp N.length ds) (L2.start N vs) where
  len:=by unfold Tp L2.start;rw[qf,qf,qa,qa,qK,qK,r.length]
  val:=fun i d e=>by
    unfold Tp at e;unfold L2.start;by_cases hi:i<ds.length
    . rw[qg (by rw[qa];exact hi),qj]at e;rw[qg (by rw[qa,<- r.length];exact hi),qj];cases hd:ds[i]? with
      |none=>rw[hd]at e;cases e
      |some d' =>rw[hd]at e;cases e;obtain⟨v,ev,rv⟩:=r.get hd;exact⟨v,by rw[ev];rfl,rv⟩
    . rw[qe (by rw[qa];exact Rc hi),M5]at e;split at e<;>cases e
def zf.cut1 {K:PySem.W.Frag}{aD aD':List Addr}{H:Hp}(k:Nat)(h1:∀ d v,fl k d=true->Rel K aD H d v->Rel K aD' H d v):∀ ds vs,ds.all (fl k)=true->zf K aD H ds vs->zf K aD' H ds vs:=by
 intro ds
 induction ds with
 |nil=>intro vs _ r;cases r;exact .nil
 |cons d ds ih =>
  intro vs hf r;rw[Wg,qv]at hf;cases r with
  |cons r t=>exact .cons (h1 d _ hf.1 r) (ih _ hf.2 t)
def Rel.cut {K:PySem.W.Frag}{aD aD':List Addr}{H:Hp}:∀ (k:Nat) (d:D) (v:V),fl k d=true->Rel K aD H d v->Rel K aD' H d v:=by
 intro k
 induction k with
 |zero =>
  intro d v hf r;cases r with
  |non=>exact .non
  |bl b=>exact .bl b
  |int i=>exact .int i
  |str x=>exact .str x
  |ty n=>cases hf
  |tup h r=>cases hf
  |rl h r=>cases hf
  |kt h r=>cases hf
  |ref h=>cases hf
  |exn _ _ _=>cases hf
 |succ k ih =>
  intro d v hf r;cases r with
  |non=>exact .non
  |bl b=>exact .bl b
  |int i=>exact .int i
  |str x=>exact .str x
  |ty n=>cases hf
  |tup h r=>exact .tup h (zf.cut1 k ih _ _ hf r)
  |rl h r=>cases hf
  |kt h r=>cases hf
  |ref h=>cases hf
  |exn _ _ _=>cases hf
theorem zf.cut {K:PySem.W.Frag}{aD':List Addr}(k:Nat)(ds:List D)(vs:List V)(hf:ds.all (fl k)=true)(r:zf K aD H ds vs):zf K aD' H ds vs:=zf.cut1 k (Rel.cut k) ds vs hf r
end Dp
namespace Dp
open PySem PySem.Spec PyProof.Rows L2 My
variable [B:Bs]
mutual
theorem Rel.low {K:PySem.W.Frag}{aD aD':List Addr}{H H':Hp}{m:Nat}(hm:aD.length<=m):∀ {d:D} {u v:V},Rel K aD H d u->Rel K aD' H' d v->Rel K (aD'.take m) H' d v
 |_,_,_,.non,r=>by cases r;exact .non
 |_,_,_,.bl b,r=>by cases r;exact .bl b
 |_,_,_,.int i,r=>by cases r;exact .int i
 |_,_,_,.str x,r=>by cases r;exact .str x
 |_,_,_,.ty n,r=>by cases r;exact .ty n
 |_,_,_,.tup _ t,r=>by
  cases r with
  |tup h t'=>exact .tup h (zf.low hm t t')
 |_,_,_,.rl _ t,r=>by
  cases r with
  |rl h t'=>exact .rl h (zf.low hm t t')
 |_,_,_,.kt _ t,r=>by
  cases r with
  |kt h t'=>exact .kt h (zf.low hm t t')
 |_,_,_,.exn _ _ _,r=>by
  cases r with
  |exn h e n=>exact .exn h e n
 |_,_,_,.ref h,r=>by
  cases r with
  |ref h'=>exact .ref (by rw[Oa (qE (My.Wk h) hm)];exact h')
theorem zf.low {K:PySem.W.Frag}{aD aD':List Addr}{H H':Hp}{m:Nat}(hm:aD.length<=m):∀ {ds:List D} {us vs:List V},zf K aD H ds us->zf K aD' H' ds vs->zf K (aD'.take m) H' ds vs
 |_,_,_,.nil,r=>by cases r;exact .nil
 |_,_,_,.cons r t,q=>by
  cases q with
  |cons r' t'=>exact .cons (Rel.low hm r r') (zf.low hm t t')
end
theorem Zq.low {K:PySem.W.Frag}{aD aD':List Addr}{H H':Hp}{m:Nat}(hm:aD.length<=m):∀ {fs:List (Str×D)} {us vs:List (Str×V)},Zq K aD H fs us->Zq K aD' H' fs vs->Zq K (aD'.take m) H' fs vs
 |_,_,_,.nil,r=>by cases r;exact .nil
 |_,_,_,.cons r t,q=>by
  cases q with
  |cons r' t'=>exact .cons (Rel.low hm r r') (Zq.low hm t t')
theorem RelK.low {K:PySem.W.Frag}{aD aD':List Addr}{H H':Hp}{m:Nat}(hm:aD.length<=m):∀ {fs:List (Str×D)} {us vs:List (Key×V)},RelK K aD H fs us->RelK K aD' H' fs vs->RelK K (aD'.take m) H' fs vs
 |_,_,_,.nil,r=>by cases r;exact .nil
 |_,_,_,.cons r t,q=>by
  cases q with
  |cons r' t'=>exact .cons (Rel.low hm r r') (RelK.low hm t t')
theorem zT.low {κ:Type}{K:PySem.W.Frag}{aD aD':List Addr}{H H':Hp}{m:Nat}(hm:aD.length<=m):∀ {fs:List (κ×D)} {us vs:List (κ×V)},zT K aD H fs us->zT K aD' H' fs vs->zT K (aD'.take m) H' fs vs
 |_,_,_,.nil,r=>by cases r;exact .nil
 |_,_,_,.cons r t,q=>by
  cases q with
  |cons r' t'=>exact .cons (Rel.low hm r r') (zT.low hm t t')
def JM {K:PySem.W.Frag}(st:zp K aD H S)(k:KK K aD H Q0 Q):KK K aD H (Fin S Q0) Q:=by
 intro d S' v H' aD' hf w st' r;rcases hf with q|⟨S1,pre,hlen,hd,hc,q⟩
 ·exact k d S' v H' aD' q w st' r
 have hS:S1.length<=S'.length:=pre.length_le;have had:aD.length<=S1.length:=by rw[st.len];exact hlen
 have htk:∀ {n:Nat} {a:Addr},(aD'.take S1.length)[n]?=some a->aD'[n]?=some a:=fun {n a} e=>by have hn:=My.Wk e;rw[WX]at hn;rw[Oa (by lia)]at e;exact e
 have w1:Wd aD H (aD'.take S1.length) H':=by refine⟨?_,w.keep,w.tup,w.frz,fun b m n=>w.new b (RP m) n⟩;obtain⟨t,rfl⟩:=w.pre;rw[List.take_append,Dj had];exact Oi _ _
 refine k d S1 v H' _ q w1 ⟨st.wd.trans w1,by rw[WX,st'.len];lia,st'.nd.sublist (List.take_sublist _ _),fun n a c e1 e2=>?_⟩ ?_
 ·have e1':=htk e1;have ok:=st'.cell n a c e1' (Tr pre e2);rcases hc n c e2 with h|h
  ·obtain⟨a0,ea,ok0⟩:=st.get h;cases c with
   |ins c fs =>obtain⟨C,dx,vs,hv,c1,c2,rv,hn⟩:=ok;obtain⟨_,_,us,_,_,_,ru,_⟩:=ok0;exact⟨C,dx,vs,hv,c1,c2,Zq.low had ru rv,hn⟩
   |dk Z8 =>obtain⟨vs,hv,rv⟩:=ok;obtain⟨us,hu,ru⟩:=ok0;exact⟨vs,hv,RelK.low had ru rv⟩
   |dt Z8 =>obtain⟨vs,hv,rv⟩:=ok;obtain⟨us,hu,ru⟩:=ok0;exact⟨vs,hv,zT.low had ru rv⟩
   |dn Z8 ep =>obtain⟨vs,hv,rv⟩:=ok;obtain⟨us,hu,ru⟩:=ok0;exact⟨vs,hv,zT.low had ru rv⟩
   |tab x l c=>exact ok
   |lst xs =>obtain⟨vs,hv,rv⟩:=ok;obtain⟨us,hu,ru⟩:=ok0;exact⟨vs,hv,zf.low had ru rv⟩
  ·cases c with
   |ins c fs=>cases h
   |dk _=>cases h
   |dt _=>cases h
   |dn _ _=>cases h
   |tab _ _ _=>cases h
   |lst xs =>obtain⟨vs,hv,rv⟩:=ok;exact⟨vs,hv,zf.cut 20 _ _ h rv⟩
 ·rcases hd with h|⟨n,rfl,hn⟩
  ·exact Rel.cut 20 _ _ h r
  ·cases r with
   |ref e=>exact .ref (by rw[Oa hn];exact e)
omit B in
def zqE {P:Program}{w:World}{K:PySem.W.Frag}{mg:Str->Option Value}{base:Heap}{st:Stmt}{k:Nat}{sp:ZX}(F:Xc K x qual st f fd)(S:Pk N ps (zH st))(len:∀ ds So Q,sp ds So Q->ds.length=ps.length)(body:BodyOk N.length b sp)(term:∀ (cdv:Value) (A:Around) (outer:List Env) (s:Shared) (H:Hp) (E:XK),zO k (A.deeper (envOfC qual (zH st) s.heap.objs.size f cdv))->∀ [Bs],W3 (Vx Wn P w K mg base N qual (zH st) f cdv A outer s H E).nox (XC st) b) :
  YT P w K mg base Wn (k+1) f fd ps (Xr K sp):=by
 with_unfolding_all
  refine F.ok S (by rintro vs H Q E ⟨aD,So,ds,Q0,so,r,hf,kk⟩;exact by rw[<- r.length];exact len ds So Q0 hf) fun cdv A outer s H vs Q E hr ⟨aD,So,ds,Q0,so,r,hf,kk⟩=>?_
  letI:Bs:=⟨aD,H⟩
  refine⟨_,term cdv A outer s H E hr,aD,Tp N.length ds,So,_,so,Ab N r,body ds So Q0 hf,⟨fun Z S' U H' aD' q w' st' rh=>JM so kk .non S' .non H' aD' q w' st' .non,JM so kk,fun _ _ _ _ _ q=>q.elim,fun _ _ _ _ _ q=>q.elim⟩⟩
omit B in
def fC {K:PySem.W.Frag}{ns:List Int}(hl:ns.length<=63)(hg:∀ n∈ns,Hg n)(hO:Only H)(hS:ZC K H a (ns.map V.int)):Xr K PK [.ref a] H (fun v _=>v=.bl true) fun _ _ _=>False:=by
 have hr:RD K H a (ns.map V.int):=by
  rcases hS with(h|h)|h
  ·rcases hO a with e|⟨o,xs,e⟩
   ·rw[h]at e;cases e
   ·rw[h]at e;cases e
  ·exact .inl h
  ·exact .inr h
 refine⟨[],[],[.rl (ns.map D.int)],fun d _=>d=.bl true,@zp.mk ⟨[],H⟩ _ _ _ _ Wd.refl rfl List.nodup_nil (fun n a c e=>by simp at e),.cons (.rl hr (zf.mk_ints ns)) .nil,⟨ns,rfl,⟨rfl,hg⟩,hl,fun _=>rfl⟩,fun d S' v H' aD' q w st' r=>?_⟩;have q':d=.bl true:=q;subst q';cases r;rfl
omit B in
theorem tW:∀ {ns:List Int} {n:Int},n∈ns->PySem.W.WData.weight (.int n)<=PySem.W.WData.weightAll (ns.map PySem.W.WData.int)
 |m::ns,n,h=>by
  rw[qO,PySem.W.WData.weightAll];rcases qu.mp h with rfl|h
  ·lia
  ·have:=tW h;lia
omit B in
def cT {l:PySem.W.OpenLaw}{n k:Nat}{q:Program}{loose:List Str}{XP:(Str->Option Value)->Heap->Prop}{YP:World->Heap->Prop}{d:DefRec}{K:Params->PySem.W.Frag}{sp:World->Sp}{x:Str}
  (hn:l.most=some n) (hn2:n<=sizeLine) (hdf:d.params.defaults=[]) (hr:zO k callerA) (hY:∀ (w:World) (h:Heap),YP w h->(K w.params).In h)
  (F:∀ (w:World) (mg:Str->Option Value) (fa:Addr) (h:Heap),(K w.params).In h->h.Ns mainGlobals mg->mg d.name=some (.ref fa) ->
   ∃ fd:FuncData,(∀ (s:Shared) (u:Value),BindsTo s fd ⟨[u],[]⟩ [(x,u)])/\∀ base:Heap,(K w.params).In base->base.Ns mainGlobals mg->YT l.prog w (K w.params) mg base Wn k fa fd [x] (sp w))
  (hsp:∀ (w:World) (H:Hp) (a:Addr) (ns:List Int),ns.length<=n->(∀ m∈ns,Hg m)->Only H->ZC (K w.params) H a (ns.map V.int)->sp w [.ref a] H (fun v _=>v=.bl true) fun _ _ _=>False) :
  PySem.W.WalkO q loose XP YP l.row.toRowW d [] (fun f vs=>PySem.call f vs):=by
 intro w s₀ s₁ mg mb G Y fa o pm cd doc dV kV ho hd hcd hD hmg hg args vals as hpre hlay hrd hwl hlo;obtain rfl:dV=.none:=PySem.W.Dflts.none hD hdf;obtain rfl:kV=.none:=PySem.W.Dflts.noKw hD;obtain⟨a,vs,ns,rfl,rfl,hobj,hints,hlen⟩:=Att.lR hn hpre hwl
 have hbits:∀ m∈ns,Hg m:=fun m hm=>by
  have h1:PySem.W.WData.layable (.list (ns.map .int))=true:=by simpa [PySem.W.WData.layableAll]using hlay
  have h2:PySem.W.WData.weight (.list (ns.map PySem.W.WData.int))<=2 ^ 20:=by unfold PySem.W.WData.layable at h1;rw[qv,decide_eq_true_eq]at h1;exact h1.2
  have h3:=qV (tW hm) (by simpa only[PySem.W.WData.weight]using h2);exact iT (by simpa only[PySem.W.WData.weight,Builtin.Int.intBits]using h3)
 have KX:=hY w _ Y;obtain⟨fd,hb,hF⟩:=F w mg fa _ KX G.T.g hmg;refine PySem.W.enter_call (codeAny_mono (kZ KX G.T.g G.T.b G.T.builtins G.T.nolimit hg hobj hints (qV hlen hn2) hr hF hb (fun H hO hS=>hsp w H a ns hlen hbits hO hS) fun _ _ _ z=>z) fun r s' hq=>?_);obtain⟨rfl,h2,h3,h4⟩:=hq;exact⟨.inl ⟨.bool true,.bool true,[],rfl,fun _=>rfl,.bool true,Att.fQ l _,fun _=>⟨List.Pairwise.nil,fun _ hm=>(nomatch hm)⟩⟩,h2,h3,h4⟩
omit B in
def jx {α:Type}{us:List α}(hl:us.length=6):∃ a0 a1 a2 a3 a4 a5,us=[a0,a1,a2,a3,a4,a5]:=by
  cases us with
  |nil=>simp at hl
  |cons a0 us =>
  cases us with
  |nil=>simp at hl
  |cons a1 us =>
  cases us with
  |nil=>simp at hl
  |cons a2 us =>
  cases us with
  |nil=>simp at hl
  |cons a3 us =>
  cases us with
  |nil=>simp at hl
  |cons a4 us =>
  cases us with
  |nil=>simp at hl
  |cons a5 us =>
  cases us with
  |nil=>exact⟨a0,a1,a2,a3,a4,a5,rfl⟩
  |cons b us=>simp at hl
end Dp
namespace Dp
open PySem PySem.Spec PyProof.Rows L2 My
variable [B:Bs]
section
variable {X:Cx}
def zrr {K:PySem.W.Frag}{a:Addr}{ds:List D}(r:Rel K aD H x (.ref a)):TY K aD H ⟨Vq 0 ds,fun S=>Lst S x ds⟩ (Ite K a) where
 go:=fun ad1 H1 S i w st ok hi=>by
  obtain⟨a',vs,e,s,rs⟩:=Lst.sq st ok (r.wd w);cases e;have hi':i<ds.length:=by rw[<- VB 0 ds];exact hi
  exact⟨vs,vs[i]'(by rw[<- rs.length];exact hi'),s,qb _⟩
 yld:=by rintro ad1 H1 S i d y H' w st ok hd ⟨p,ey,hp,he⟩;obtain⟨a',vs,e,s,rs⟩:=Lst.sq st ok (r.wd w);cases e;obtain⟨z,hz,rfl⟩:=R8 hd;obtain⟨v,ev,rv⟩:=rs.get hz;rw[he vs v s ev,ey];refine⟨Wd.laid hp,st.laid hp,.tup zL (.cons ?_ (.cons (rv.wd (Wd.laid hp)) .nil))⟩;rw[Ng];exact .int _
 stop:=fun ad1 H1 S w st ok=>by obtain⟨a',vs,e,s,rs⟩:=Lst.sq st ok (r.wd w);cases e;exact⟨vs,s,by show _<=(Vq 0 ds).length;rw[VB,rs.length];exact qh _⟩
def è {es:List Expr}{kk:Nat}{tpos:Pos}{a:Expr}{t:DA}{p pos:Pos}(hg:Gl X "enumerate")(hm:X.mg "enumerate"=none)(ha:PAD X [a] t)(hs:autoParam (starEach [a] X.env=[(false,eval a X.env)]) Ni) :
  Xp X (.Tuple es kk tpos) (.Call (.Name "enumerate" p) [a] [] pos) (Dp.V6 t):=by with_unfolding_all exact(Lw (zrx hg hm ha hs) fun U H R hh=>ZV hh fun aD Z S R0 st rh q k =>
 ⟨aD,Z,S,_,st,rh,q,fun ds S1 vs H1 ad1 q0 w1 st1 r1=>by obtain⟨x,xs,ed,hx,q1⟩:=q0;subst ed;obtain⟨v,rfl,rv⟩:=Xz r1;obtain⟨b,ws,rfl,s,rs⟩:=hx.sq st1 rv;exact⟨b,rfl,⟨ws,s⟩,k _ S1 _ H1 ad1 q1 w1 st1 (zrr rv)⟩⟩)
def ϗ {K:PySem.W.Frag}{a b:Addr}{ds es:List D}(r:Rel K aD H x (.ref a))(r2:Rel K aD H y (.ref b)):TY K aD H ⟨Yr ds es,fun S=>Lst S x ds/\Lst S y es⟩ (Ky K true true a b) where
 go:=fun ad1 H1 S i w st ok hi=>by
  obtain⟨a',vs,e,s,rs⟩:=Lst.sq st ok.1 (r.wd w);obtain⟨b',us,e',s',rs'⟩:=Lst.sq st ok.2 (r2.wd w);cases e;cases e';have hi':i<min ds.length es.length:=by rw[<- R7 ds es];exact hi
  exact⟨vs,us,vs[i]'(by rw[<- rs.length];lia),us[i]'(by rw[<- rs'.length];lia),s,s',qb _,qb _⟩
 yld:=by rintro ad1 H1 S i d z H' w st ok hd ⟨p,ey,hp,he⟩;obtain⟨a',vs,e,s,rs⟩:=Lst.sq st ok.1 (r.wd w);obtain⟨b',us,e',s',rs'⟩:=Lst.sq st ok.2 (r2.wd w);cases e;cases e';obtain⟨u1,u2,h1,h2,rfl⟩:=JX hd;obtain⟨v,ev,rv⟩:=rs.get h1;obtain⟨u,eu,ru⟩:=rs'.get h2;rw[he vs us v u s s' ev eu,ey];exact⟨Wd.laid hp,st.laid hp,.tup zL (.cons (rv.wd (Wd.laid hp)) (.cons (ru.wd (Wd.laid hp)) .nil))⟩
 stop:=fun ad1 H1 S w st ok=>by obtain⟨a',vs,e,s,rs⟩:=Lst.sq st ok.1 (r.wd w);obtain⟨b',us,e',s',rs'⟩:=Lst.sq st ok.2 (r2.wd w);cases e;cases e';refine⟨vs,us,s,s',?_⟩;show vs.length<=(Yr ds es).length\/us.length<=(Yr ds es).length;rw[R7,rs.length,rs'.length];lia
def zqv {K:PySem.W.Frag}{H:Hp}{vs us:List V}(h:H a=some (.tup vs))(r:zf K aD H ds vs)(h2:H b=some (.tup us))(r2:zf K aD H es us):TY K aD H ⟨Yr ds es,fun _=>True⟩ (Ky K false false a b) where
 go:=fun ad1 H1 S i w st _ hi=>by
  have hi':i<min ds.length es.length:=by rw[<- R7 ds es];exact hi
  exact⟨vs,us,vs[i]'(by rw[<- r.length];lia),us[i]'(by rw[<- r2.length];lia),ZQ.of (w.tup _ _ h),ZQ.of (w.tup _ _ h2),qb _,qb _⟩
 yld:=by rintro ad1 H1 S i d z H' w st _ hd ⟨p,ey,hp,he⟩;obtain⟨u1,u2,h1,h2',rfl⟩:=JX hd;obtain⟨v,ev,rv⟩:=r.get h1;obtain⟨u,eu,ru⟩:=r2.get h2';rw[he vs us v u (ZQ.of (w.tup _ _ h)) (ZQ.of (w.tup _ _ h2)) ev eu,ey];exact⟨Wd.laid hp,st.laid hp,.tup zL (.cons ((rv.wd w).wd (Wd.laid hp)) (.cons ((ru.wd w).wd (Wd.laid hp)) .nil))⟩
 stop:=fun ad1 H1 S w st _=>by refine⟨vs,us,ZQ.of (w.tup _ _ h),ZQ.of (w.tup _ _ h2),?_⟩;show vs.length<=(Yr ds es).length\/us.length<=(Yr ds es).length;rw[R7,r.length,r2.length];lia
def zsA {es:List Expr}{kk:Nat}{tpos:Pos}{a b:Expr}{t:DA}{p pos:Pos}(hg:Gl X "zip")(hm:X.mg "zip"=none)(ha:PAD X [a,b] t)(hs:autoParam (starEach [a,b] X.env=[(false,eval a X.env),(false,eval b X.env)]) sO)(hs2:autoParam (starEach [b] X.env=[(false,eval b X.env)]) Ni) :
  Xp X (.Tuple es kk tpos) (.Call (.Name "zip" p) [a,b] [] pos) (Dp.Ke t):=by with_unfolding_all exact(Lw (eN hg hm ha hs hs2) fun U H R hh=>ZV hh fun aD Z S R0 st rh q k =>
 ⟨aD,Z,S,_,st,rh,q,fun ds S1 vs H1 ad1 q0 w1 st1 r1=>by
  rcases q0 with⟨x,y,xs,ys,ed,hx,hy,q1⟩|⟨xs,ys,ed,q1⟩
  ·subst ed;obtain⟨v,u,rfl,rv,ru⟩:=Pj r1;obtain⟨b1,ws,rfl,s,rs⟩:=hx.sq st1 rv;obtain⟨b2,ws2,rfl,s2,rs2⟩:=hy.sq st1 ru;exact⟨true,b1,b2,rfl,⟨ws,s⟩,⟨ws2,s2⟩,k _ S1 _ H1 ad1 q1 w1 st1 (ϗ rv ru)⟩
  ·subst ed;obtain⟨v,u,rfl,rv,ru⟩:=Pj r1;cases rv with
   |tup h r =>
    cases ru with
    |tup h2 r2=>exact⟨false,_,_,rfl,⟨_,ZQ.of h⟩,⟨_,ZQ.of h2⟩,k _ S1 _ H1 ad1 q1 w1 st1 (zqv h r h2 r2)⟩⟩)
end
section
variable {X:Cx}{a b:Expr}{ta tb:DE}{pos:Pos}
theorem FW (x:D)(hx:fl 20 x=true):∀ ys:List D,ys.all (fl 20)=true->((Y6 ys).any fun z=>PyData.eqv z (YG x))=ys.any fun z=>eqv z x
 |[],_=>rfl
 |y::ys,h=>by rw[Wg,qv]at h;show(PyData.eqv (YG y) (YG x)||(Y6 ys).any fun z=>PyData.eqv z (YG x))=_;rw[Cd 20 y x h.1 hx,FW x hx ys h.2];rfl
def yg (X:Cx)(g:Bool->Bool):R2:=fun x y H Q=>∃ aD S dx dy b,zp X.K aD H S/\Rel X.K aD H dx x/\Rel X.K aD H dy y/\Jv S dx dy b/\Q (.bl (g b)) H
def vL {Z9:List (Addr×Obj)}{U:L2.St}{H:Hp}{s:Shared}{aD:List Addr}{S:Z7}{dx dy:D}{x y:V}{v u:Value}{b:Bool}(I:Inv X Z9 U H s)(st:zp X.K aD H S)(rx:Rel X.K aD H dx x)(ry:Rel X.K aD H dy y)(qx:RelV x v)(qy:RelV y u)(h:Jv S dx dy b) :
  ∃ pd ps as bs,Reads s.heap v pd as/\(Reads s.heap u (.list ps) bs\/Reads s.heap u (.tuple ps) bs)/\pd.canLay0=true/\PyData.canLayAll0 ps=true/\min (PyData.depthAll ps) pd.depth<=60/\(ps.any fun z=>PyData.eqv z pd)=b:=by
 obtain⟨ys,hy,fx,fy,rfl⟩:=h;obtain⟨as,ra⟩:=RM I 20 dx x v fx rx qx;obtain⟨c1,d1⟩:=Ko 20 dx fx;obtain⟨c2,d2⟩:=Gx 20 ys fy;rcases hy with rfl|hy
 ·obtain⟨bs,rb⟩:=RM I 21 (.tup ys) y u fy ry qy;exact⟨YG dx,Y6 ys,as,bs,ra,.inr rb,c1,c2,by lia,FW dx fx ys fy⟩
 ·obtain⟨a2,vs2,rfl,s2,r2⟩:=hy.sq st ry;cases qy;obtain⟨its2,rv2,ht2,hz2⟩:=I.list s2;obtain⟨o2,ho2,hc2,n2,hd2⟩:=ht2.isList;obtain⟨bs,rb⟩:=Kg I 20 (RM I 20) _ _ _ fy r2 rv2;exact⟨YG dx,Y6 ys,as,_,ra,.inl (.list ho2 hc2 hd2 (by simpa using rb)),c1,c2,by lia,FW dx fx ys fy⟩
def zwp {k:Nat}(hr:zO k X.A):OC X .In Vh:=⟨_,(ZL.or (r:=yg X id) (by
  rintro Z9 s U H x y v u Q I qx qy ⟨aD,S,dx,dy,b,st,rx,ry,h,q⟩;obtain⟨pd,ps,as,bs,ra,rb,c1,c2,hd,e⟩:=vL I st rx ry qx qy h;have hu:=hr.units;rcases rb with rb|rb
  ·exact PySem.SeqAt.in_list_reads rb ra c2 c1 (by lia) ⟨.bl _,H,I,by rw[e];rfl,q⟩
  ·exact PySem.SeqAt.in_tuple_reads rb ra c2 c1 (by lia) ⟨.bl _,H,I,by rw[e];rfl,q⟩) ó),
 fun aD H S x y v u Q0 Q st rx ry h k=>by
  rcases h with⟨b,h,q⟩|⟨c,z,rfl,rfl,q⟩
  ·exact .inl ⟨aD,S,x,y,b,st,rx,ry,h,k _ S _ H aD q Wd.refl st (.bl _)⟩
  ·cases rx;cases ry;exact .inr ⟨_,z,rfl,rfl,by rw[PySem.StrLaws.found_one];exact k _ S _ H aD q Wd.refl st (.bl _)⟩⟩
def kJ {k:Nat}(hr:zO k X.A):OC X .NotIn Sq:=⟨_,(ZL.or (r:=yg X (!·)) (by
  rintro Z9 s U H x y v u Q I qx qy ⟨aD,S,dx,dy,b,st,rx,ry,h,q⟩;obtain⟨pd,ps,as,bs,ra,rb,c1,c2,hd,e⟩:=vL I st rx ry qx qy h;have hu:=hr.units;rcases rb with rb|rb
  ·exact PySem.SeqAt.notIn_list_reads rb ra c2 c1 (by lia) ⟨.bl _,H,I,by rw[e];rfl,q⟩
  ·exact PySem.SeqAt.notIn_tuple_reads rb ra c2 c1 (by lia) ⟨.bl _,H,I,by rw[e];rfl,q⟩) lO),
 fun aD H S x y v u Q0 Q st rx ry h k=>by
  rcases h with⟨b,h,q⟩|⟨c,z,rfl,rfl,q⟩
  ·exact .inl ⟨aD,S,x,y,b,st,rx,ry,h,k _ S _ H aD q Wd.refl st (.bl _)⟩
  ·cases rx;cases ry;exact .inr ⟨_,z,rfl,rfl,by rw[PySem.StrLaws.found_one];exact k _ S _ H aD q Wd.refl st (.bl _)⟩⟩
def zqs (o:OC X op r')(ha:PD X a ta)(hb:PD X b tb)(hm:autoParam (behindInMarks op b=false) Vy):PD X (.Compare a [op] [b] pos) (Z6 r' ta tb):=by
 with_unfolding_all
  obtain⟨r,ho,od⟩:=o;exact zV (zqj ho ha hb hm) fun _ _ _=>JB od
def gF (o:OC X op r')(ha:PD X a ta)(hb:PD X b tb)(hm:autoParam (behindInMarks op b=false) Vy):YK X (.Compare a [op] [b] pos) (dT (Z6 r' ta tb)):=by
 with_unfolding_all
  obtain⟨r,ho,od⟩:=o;refine Qt (Ξ ho ha hb hm) fun U H Q hh=>ZV hh fun aD Z S Q0 st rh q k=>?_
  refine JB (Q:=fun x H'=>∃ k,x=.bl k/\Q k H') od ⟨aD,Z,S,_,st,rh,q,fun d S' v H' aD' ⟨b,e,q'⟩ w st' r=>?_⟩;subst e;cases r;exact⟨b,rfl,k b S' H' aD' q' w st'⟩
end
section
variable {X:Cx}
end
section
variable {X:Cx}{e:Expr}{pos p2 p3:Pos}{lo:Option Expr}
end
theorem Bm {K:PySem.W.Frag}{aD:List Addr}{H:Hp}:∀ {zs:List Str} {vs:List V},zf K aD H (zs.map D.str) vs->vs=zs.map V.str
 |[],_,.nil=>rfl
 |z::zs,_,.cons r t=>by cases r;rw[Bm t];rfl
def zry {a:Expr}{t:DA}{p1 p2 pos1 pos2:Pos}(hgl:Gl X "len")(hml:X.mg "len"=none)(hgr:Gl X "set")(hmr:X.mg "set"=none)(ha:PAD X [a] t)(hc:autoParam (X.calm=true) zy)(hs:autoParam (starEach [a] X.env=[(false,eval a X.env)]) Ni)(hs3:autoParam (starEach [.Call (.Name "set" p2) [a] [] pos2] X.env=[(false,eval (.Call (.Name "set" p2) [a] [] pos2) X.env)]) zy) :
  PD X (.Call (.Name "len" p1) [.Call (.Name "set" p2) [a] [] pos2] [] pos1) (dB Jr t):=by with_unfolding_all exact(zV (zqk hc hgl hml hgr hmr ha hs hs3) fun U H Q hh=>ZV hh fun aD Z S Q0 st rh q k =>
  ⟨aD,Z,S,_,st,rh,q,by rintro ds S1 vs H1 ad1 ⟨x,zs,ed,hx,hl,q1⟩ w1 st1 r1;subst ed;obtain⟨v,rfl,rv⟩:=Xz r1;obtain⟨a1,ws,rfl,hs,rs⟩:=hx.sq st1 rv;cases Bm rs;exact⟨a1,zs,rfl,hs,hl,k _ S1 _ H1 ad1 q1 w1 st1 (.int _)⟩⟩)
section
variable {X:Cx}{e:Expr}{t:DA}{p pos kp cp:Pos}{j:Nat}
end
section
variable {X:Cx}{e o value:Expr}{te to tv:DE}{f c:Str}{pos pos':Pos}
def ϙ (he:PD X e te)(hb:attributeBase e f X.env (eval e X.env)=eval e X.env):PD X (.Attribute e f pos) (Yl f te):=by with_unfolding_all exact(zV (ztj he hb) fun U H Q hh=>ZV hh fun aD Z S Q0 st rh q k =>
  ⟨aD,Z,S,_,st,rh,q,by
   rintro x S1 v H1 ad1 ⟨n,c,fs,d,ex,hn,hl,q1⟩ w1 st1 r1;subst ex;cases r1 with
   |ref en =>obtain⟨C,dx,vs,h1,hc,hns,rf,hna⟩:=st1.cell n _ _ en hn;obtain⟨v,hv,rv⟩:=rf.look hl;obtain⟨q2,hq2,e2⟩:=xZ hl;exact⟨_,C,dx,vs,v,rfl,h1,hc,e2▸hna q2 hq2,hv,k d S1 v H1 ad1 q1 w1 st1 rv⟩⟩)
def Κ (hna:∀ C,PySem.W.nsIn X.K mainGlobals c=some (some (.ref C))->VD X.K C f)(ho:PD X o to)(hv:PD X value tv)(hs:autoParam (swapsWith value (some (.Attribute o f pos')) pos.line X.env=pure false) zy) :
  Zv X (.Assign [.Attribute o f pos'] value pos) (VG c f to tv):=by with_unfolding_all exact(Ye (Ż ho hv hs) fun E U H hh=>ZV hh fun aD Z S E0 so rh q k =>
 ⟨aD,Z,S,_,so,rh,q,fun y S1 vy H1 ad1 q1 w1 st1 r1=>⟨ad1,Z,S1,_,st1,rh.wd w1,q1,by
  rintro x S2 vx H2 ad2 ⟨n,fs,ex,hn,hl,q2⟩ w2 st2 r2;subst ex;cases r2 with
  |ref en =>obtain⟨C,dx,vs,h1,hc,hns,rf,hna'⟩:=st2.cell n _ _ en hn;have w3:Wd ad2 H2 ad2 (upd H2 _ (.ins C dx (YF f vy vs))):=Wd.putI en h1;exact⟨_,C,dx,vs,rfl,h1,hc,hna C hns,by rw[<- rf.length];lia,k.nx Z _ U _ ad2 q2 ((w1.trans w2).trans w3) (st2.putI en h1 hc hns rf hna' (hna C hns) (r1.wd w2)) (((rh.wd w1).wd w2).wd w3)⟩⟩⟩)
omit B in
def bw {K:PySem.W.Frag}{C:Addr}{init:ZX}(hc:Cls K C)(hn:PySem.W.nsIn K mainGlobals c=some (some (.ref C))):∀ vs H Q,Xr K (SX c init) vs H Q E0->∀ x dx,H x=none->H dx=none->dx≠x ->
  Xr K init (.ref x::vs) (upd (upd H dx (.own x)) x (.ins C dx [])) (fun v H2=>v=.non/\Q (.ref x) H2) E0:=by
 rintro vs H Q ⟨aD,S,ds,Q0,st,r,hf,k⟩ x dx hx hdx hne
 letI:Bs:=⟨aD,H⟩
 obtain⟨w,st'⟩:=st.newI (c:=c) hx hdx hne hc hn;have rx:Rel K (aD++[x]) (upd (upd H dx (.own x)) x (.ins C dx [])) (.ref S.length) (.ref x):=.ref (by rw[<- st.len,qe (qh _),Yp];rfl);have hf':init (.ref S.length::ds) (S++[.ins c []]) (fun d S2=>d=.non/\Q0 (.ref S.length) S2):=hf;refine⟨aD++[x],S++[.ins c []],.ref S.length::ds,_,st'.base,.cons rx (r.wd w),hf',fun d S' v H' aD' q w' st2 rv=>?_⟩;obtain⟨rfl,q⟩:=q;cases rv;exact⟨rfl,k _ S' _ H' aD' q (w.trans w') (st'.back st2) (rx.wd w')⟩
def zud {k:Nat}{e:Expr}{es:List Expr}{t:DA}{p:Pos}{f:ZX}(G:Ig X.prog X.w X.K X.mg X.base k x (Xr X.K f))(hr:zO j X.A)(ha:PAD X (e::es) t)(hk:autoParam (k+1<=j) zQ)(hg:autoParam (Gl X x) zy)(hdb:autoParam ((x==("__debug__":Str))=false) zQ)(he:autoParam (starEach (e::es) X.env=(false,eval e X.env)::starEach es X.env) QT)(hpl:autoParam ((backTo pos (starEach es X.env)).any (·.1)=false) Py) :
  PD X (.Call (.Name x p) (e::es) [] pos) (dCall f t):=by with_unfolding_all exact(zV (bI G hr hk hg ha hdb he hpl) fun U H Q hh=>ZV hh fun aD Z S Q0 st rh q k =>
 ⟨aD,Z,S,_,st,rh,q,fun ds S1 vs H1 ad1 q1 w1 st1 r1=>by show Xr X.K f (vs++[]) H1 Q E0;rw[Xn];exact⟨ad1,S1,ds,Q0,st1.base,r1,q1,(k.wd w1).base st1⟩⟩)
end
end Dp
namespace Dp
open PySem PySem.Spec PyProof.Rows L2 My
def R5 (h0 h:Heap)(e:Addr)(cls:Value)(H:Hp):Prop:=h0.get? e=none/\H e=none/\∃ (a0:Value) (oe:Obj) (vs:Array Value) (T:Addr) (oT:Obj) (ts:Array Value),h.get? e=some oe/\(oe.cls=cls/\vs[0]?=some a0)/\oe.data=.fields vs/\vs[1]?=some (.ref T)/\h0.get? T=none/\T≠e/\h.get? T=some oT/\oT.data=.fields ts/\ts[3]?=some .none/\H T=none
def Va (P:Program)(w:World):V7:=fun outer H s E e s'=>∃ (a C:Addr) (H':Hp),e=.ref a/\s'.os=s.os/\AllBare s'.gens/\Un (frs outer) [] H H' s.heap s'.heap/\ZD P w H' s'.heap/\R5 s.heap s'.heap a (.ref C) H'/\E (.ref C) none H'
def V9 (h:Heap)(p:Addr->Bool):Heap:={ h with objs:=h.objs.mapIdx fun i o=>if p i=true then o else { cls:=.none,data:=.freed } }
def NT (h:Heap)(p:Addr->Bool)(b:Addr):(V9 h p).get? b=if p b=true then h.get? b else none:=by
  unfold V9 Heap.get?;dsimp only;rw[Array.getElem?_mapIdx];cases h.objs[b]? with
  |none=>cases p b<;>rfl
  |some o=>cases p b<;>rfl
def uH (h:Heap)(p:Addr->Bool):(V9 h p).StaysIn h:=fun b o e=>by
 rw[NT]at e;split at e
 ·exact e
 ·cases e
theorem G3 {h base base':Heap}:∀ {l:List Env},h.FunFrames base l->(∀ L∈frs l,base'.get? L=none)->h.FunFrames base' l
 |[],_,_=>True.intro
 |env::l,⟨h1,⟨L,o,h2,h3,h4,h5⟩,h6⟩,hb=>⟨h1,⟨L,o,h2,hb L (U3.mpr ⟨env,by simp,h2⟩),h4,h5⟩,G3 h6 fun L' hL=>hb L' (by obtain⟨e',he,e2⟩:=U3.mp hL;exact U3.mpr ⟨e',qi _ he,e2⟩)⟩
section
variable {X:Cx}{Z9:List (Addr×Obj)}{U:L2.St}{H:Hp}{s:Shared}
def dG (I:Inv X Z9 U H s)(hex:X.ex=[]){b:Addr}{o:Obj}(e:X.s₀.heap.get? b=some o):∃ o',s.heap.get? b=some o':=I.base.there b o e (by rw[hex];simp)
def Lz (I:Inv X Z9 U H s)(hex:X.ex=[]){b:Addr}(e:s.heap.get? b=none):X.s₀.heap.get? b=none:=by
 cases q:X.s₀.heap.get? b with
 |none=>rfl
 |some o=>obtain⟨o',h⟩:=dG I hex q;rw[e]at h;cases h
def DR (I:Inv X Z9 U H s){b:Addr}(e:s.heap.get? b=none):H b=none:=by
 cases q:H b with
 |none=>rfl
 |some o =>
  have:=(I.hok b o q).lt;exfalso;cases o with
  |lst xs=>obtain⟨_,_,_,_,h⟩:=I.hok b _ q;rw[e]at h;cases h
  |tup xs=>obtain⟨_,_,_,ob,h,_⟩:=I.hok b _ q;rw[e]at h;cases h
  |dK Z8=>obtain⟨_,_,_,_,ob,_,_,h,_⟩:=I.hok b _ q;rw[e]at h;cases h
  |dT Z8=>obtain⟨_,_,_,_,ob,_,_,h,_⟩:=I.hok b _ q;rw[e]at h;cases h
  |dN Z8 ep=>obtain⟨_,_,_,_,ob,_,h,_⟩:=I.hok b _ q;rw[e]at h;cases h
  |set S n=>obtain⟨ob,_,_,_,h,_⟩:=I.hok b _ q;rw[e]at h;cases h
  |ins C dx fs=>obtain⟨_,_,_,h,_⟩:=I.hok b _ q;rw[e]at h;cases h
  |own y=>obtain⟨_,h⟩:=I.hok b _ q;rw[e]at h;cases h
  |xd fs=>obtain⟨_,⟨_,_,_,h,_⟩,_⟩:=I.hok b _ q;rw[e]at h;cases h
  |rng lo hi=>obtain⟨_,_,_,h⟩:=I.hok b _ q;rw[e]at h;cases h
  |frz ob u=>obtain⟨h,_⟩:=I.hok b _ q;rw[e]at h;cases h
  |tbl ps=>have h:s.heap.get? b=some _:=I.hok b _ q;rw[e]at h;cases h
  |met f y=>have h:s.heap.get? b=some _:=I.hok b _ q;rw[e]at h;cases h
  |ext φ=>obtain⟨_,⟨_,h⟩,_⟩:=I.hok b _ q;rw[e]at h;cases h
def yJ (I:Inv X Z9 U H s)(hex:X.ex=[])(hst:X.stack=X.env::X.outer)(hfr:X.env.frame=some X.env.locals){e T0:Addr}{h':Heap}(he:X.s₀.heap.get? e=none)(hT:X.s₀.heap.get? T0=none)(He:H e=none)(HT:H T0=none)
  (hk:∀ b o,s.heap.get? b=some o->b≠e->b≠T0->b∉frs X.stack->h'.get? b=some o) (hs:∀ b∈frs X.stack,∀ o,s.heap.get? b=some o->∃ sl,h'.get? b=some { o with slots:=sl }) :
  Un X.fs [] X.H₀ H X.s₀.heap h'/\ZD X.prog X.w H h':=by
 have nfr:∀ {b:Addr} {o:Obj},X.s₀.heap.get? b=some o->b∉X.fs->b∉frs X.stack:=fun {b o} q n m=>by
  rw[hst]at m;obtain⟨e',h1,h2⟩:=U3.mp m;rcases qu.mp h1 with rfl|h1
  ·rw[hfr]at h2;cases h2;exact absurd (qA q) (Nat.not_lt.mpr I.ok.above)
  ·exact n (U3.mpr ⟨e',h1,h2⟩)
 have sub:∀ {b:Addr},b∈X.fs->b∈frs X.stack:=fun {b} m=>by obtain⟨e',h1,h2⟩:=U3.mp m;rw[hst];exact U3.mpr ⟨e',qi _ h1,h2⟩
 have nex:∀ b:Addr,b∉X.ex:=fun b=>by rw[hex];simp
 have ne:∀ {b:Addr} {o:Obj},X.s₀.heap.get? b=some o->b≠e/\b≠T0:=fun {b o} q=>⟨fun z=>(by rw[z,he]at q;cases q),fun z=>(by rw[z,hT]at q;cases q)⟩
 have ub:=I.base;refine⟨⟨fun b o q n m _=>?_,fun b o q n m _=>?_,fun b o q n _=>ub.free b o q n (nex b),fun b o q _=>?_,ub.tups,ub.frzs,ub.tbls⟩,fun a o q=>?_⟩
 ·exact hk b o (ub.keep b o q n m (nex b)) (ne q).1 (ne q).2 (nfr q m)
 ·obtain⟨sl,h1⟩:=ub.slot b o q n m (nex b);obtain⟨sl',h2⟩:=hs b (sub m) _ h1;exact⟨sl',h2⟩
 ·obtain⟨o',h1⟩:=ub.there b o q (nex b);by_cases m:b∈frs X.stack
  ·obtain⟨sl,h2⟩:=hs b m o' h1;exact⟨_,h2⟩
  ·exact⟨o',hk b o' h1 (ne q).1 (ne q).2 m⟩
 ·have inn:∀ {b:Addr},H b≠none->b≠e/\b≠T0/\b∉frs X.stack:=fun {b} n=>⟨fun z=>n (by rw[z];exact He),fun z=>n (by rw[z];exact HT),fun z=>n (I.stkFree b z)⟩
  refine(I.hok a o q).stay (fun b u hb r=>?_) (fun _ r=>r) fun _ _ r=>r
  have n:H b≠none:=by
   rcases hb with rfl|hb
   ·rw[q];exact Option.some_ne_none _
   ·rw[hb];exact Option.some_ne_none _
  obtain⟨n1,n2,n3⟩:=inn n;exact hk b u r n1 n2 n3
def ĕ (I:Inv X Z9 U H s)(hex:X.ex=[])(hst:X.stack=X.env::X.outer)(hfr:X.env.frame=some X.env.locals){e C:Addr}{E:Value->Shared->Prop}{Q:Unit->Shared->Prop}(F:R5 X.s₀.heap s.heap e (.ref C) H)
  (hQ:∀ s':Shared,s'.os=X.s₀.os->AllBare s'.gens->Un X.fs [] X.H₀ H X.s₀.heap s'.heap->ZD X.prog X.w H s'.heap->R5 X.s₀.heap s'.heap e (.ref C) H->Q () s'):wpAny (model X.prog X.w) X.A (leaving X.env (.ref e)) Q E s:=by
 obtain⟨he,He,a0,oe,vs,T,oT,ts,f1,f2,f3,f4,f5,f6,f7,f8,f9,HT⟩:=F;have ff:s.heap.FunFrames X.base X.stack:=I.stack;obtain⟨p,hp⟩:∃ p:Addr->Bool,∀ b,p b=true↔b≠e/\b≠T/\b∉frs X.stack:=⟨fun b=>decide (b≠e/\b≠T/\b∉frs X.stack),fun b=>decide_eq_true_iff⟩
 have mno:∀ {b:Addr},¬ (b≠e/\b≠T/\b∉frs X.stack)->(V9 s.heap p).get? b=none:=fun {b} n=>by rw[NT,if_neg (fun z=>n ((hp b).mp z))]
 have myes:∀ {b:Addr} {o:Obj},s.heap.get? b=some o->b≠e->b≠T->b∉frs X.stack->(V9 s.heap p).get? b=some o:=fun {b o} q n1 n2 n3=>by rw[NT,if_pos ((hp b).mpr ⟨n1,n2,n3⟩)];exact q
 have fb:s.heap.FunFrames (V9 s.heap p) X.stack:=G3 ff fun L hL=>mno fun z=>z.2.2 hL
 have fl:Heap.FlyingW (V9 s.heap p) X.stack e (.ref C) a0 s.heap:=⟨uH _ _,mno fun z=>z.1 rfl,fb,oe,vs,T,oT,ts,f1,f2,f3,f4,mno fun z=>z.2.1 rfl,f6,f7,f8,f9⟩
 have fr:=I.ok.frames;rw[hst]at fr;rw[hst]at fl;refine wpAny_leaves_onW fr hfr fl fun h' ⟨k1,k2,k3,oe',vs',T',oT',ts',g1,g2,g3,g4,g5,g6,g7,g8,g9⟩ us=>?_
 have hs:∀ b∈frs X.stack,∀ o,s.heap.get? b=some o->∃ sl,h'.get? b=some { o with slots:=sl }:=fun b hb o q=>by obtain⟨_,o',h1,h2⟩:=ff.mem hb;rw[q]at h1;cases h1;exact us b o q h2
 have hk:∀ b o,s.heap.get? b=some o->b≠e->b≠T->b∉frs X.stack->h'.get? b=some o:=fun b o q n1 n2 n3=>k1 b o (myes q n1 n2 n3)
 obtain⟨u1,u2⟩:=yJ I hex hst hfr he f5 He HT hk hs
 have nT:X.s₀.heap.get? T'=none/\H T'=none:=by
  by_cases z1:T'=T
  ·rw[z1];exact⟨f5,HT⟩
  ·by_cases z2:T'∈frs X.stack
   ·exfalso;obtain⟨_,o',h1,h2⟩:=ff.mem z2;obtain⟨sl,h3⟩:=hs T' z2 o' h1;rw[g7]at h3;cases h3;exact h2 ts' g8
   ·have:s.heap.get? T'=none:=by
     cases q:s.heap.get? T' with
     |none=>rfl
     |some o=>rw[myes q g6 z1 z2]at g5;cases g5
    exact⟨Lz I hex this,DR I this⟩
 exact hQ _ I.os I.bare u1 u2 ⟨he,He,a0,oe',vs',T',oT',ts',g1,g2,g3,g4,nT.1,g6,g7,g8,g9,nT.2⟩
def Æ (I:Inv X Z9 U H s)(hex:X.ex=[])(hst:X.stack=X.env::X.outer)(hfr:X.env.frame=some X.env.locals){e C:Addr}{args:List Value}{h1:Heap}{E:Value->Shared->Prop}{Q:Unit->Shared->Prop}(hx:s.heap.MadeExcOf h1 e (.ref C) args)
  (hQ:∀ s':Shared,s'.os=X.s₀.os->AllBare s'.gens->Un X.fs [] X.H₀ H X.s₀.heap s'.heap->ZD X.prog X.w H s'.heap->R5 X.s₀.heap s'.heap e (.ref C) H->Q () s'):wpAny (model X.prog X.w) X.A (leaving X.env (.ref e)) Q E { s with heap:=h1 }:=by
 have ff:s.heap.FunFrames X.base X.stack:=I.stack;obtain⟨p,hp⟩:∃ p:Addr->Bool,∀ b,p b=true↔b∉frs X.stack:=⟨fun b=>decide (b∉frs X.stack),fun b=>decide_eq_true_iff⟩
 have mno:∀ {b:Addr},b∈frs X.stack->(V9 s.heap p).get? b=none:=fun {b} n=>by rw[NT,if_neg (fun z=>(hp b).mp z n)]
 have myes:∀ {b:Addr} {o:Obj},s.heap.get? b=some o->b∉frs X.stack->(V9 s.heap p).get? b=some o:=fun {b o} q n3=>by rw[NT,if_pos ((hp b).mpr n3)];exact q
 have fb:s.heap.FunFrames (V9 s.heap p) X.stack:=G3 ff fun L hL=>mno hL
 have fr:=I.ok.frames;rw[hst]at fr;rw[hst]at fb;refine wpAny_leaves_madeW (base:=V9 s.heap p) (h:=s.heap) fr hfr (uH _ _) fb hx fun h' t ⟨k1,k2,k3,oe',vs',T',oT',ts',g1,g2,g3,g4,g5,g6,g7,g8,g9⟩ _ _ us=>?_
 have us':s.heap.UpToSlots h':=fun b o q n=>us b o (hx.keeps b o q) n
 have hs:∀ b∈frs X.stack,∀ o,s.heap.get? b=some o->∃ sl,h'.get? b=some { o with slots:=sl }:=fun b hb o q=>by obtain⟨_,o',h1,h2⟩:=ff.mem hb;rw[q]at h1;cases h1;exact us' b o q h2
 have hk:∀ b o,s.heap.get? b=some o->b≠e->b≠e->b∉frs X.stack->h'.get? b=some o:=fun b o q _ _ n3=>k1 b o (myes q n3)
 have he:=Lz I hex hx.new;have He:=DR I hx.new;obtain⟨u1,u2⟩:=yJ I hex hst hfr he he He He hk hs
 have nT:X.s₀.heap.get? T'=none/\H T'=none:=by
  by_cases z2:T'∈frs X.stack
  ·exfalso;obtain⟨_,o',h1,h2⟩:=ff.mem z2;obtain⟨sl,h3⟩:=hs T' z2 o' h1;rw[g7]at h3;cases h3;exact h2 ts' g8
  ·have:s.heap.get? T'=none:=by
    cases q:s.heap.get? T' with
    |none=>rfl
    |some o=>rw[myes q z2]at g5;cases g5
   exact⟨Lz I hex this,DR I this⟩
 exact hQ _ I.os I.bare u1 u2 ⟨he,He,_,oe',vs',T',oT',ts',g1,g2,g3,g4,nT.1,g6,g7,g8,g9,nT.2⟩
end
def Um (K:PySem.W.Frag)(f:Ys):Sp:=fun vs H Q E=>∃ aD S ds Q0 X0,@zp ⟨aD,H⟩ K aD H S/\zf K aD H ds vs/\f ds S Q0 X0/\@KK ⟨aD,H⟩ K aD H Q0 Q /\
 ∀ (c:Str) (C:Addr) (S':Z7) (aD':List Addr) (H':Hp),X0 c S'->@zp ⟨aD,H⟩ K aD' H' S'->PySem.W.nsIn K mainGlobals c=some (some (.ref C))->E (.ref C) none H'
structure xr (P:Program)(w:World)(K:PySem.W.Frag)(mg:Str->Option Value)(base:Heap)(k:Nat)(x:Str)(ps:List Str)(sp:Sp):Prop where
 ex:∃ f fd,YT P w K mg base (Va P w) k f fd ps sp/\Binds K fd ps []/\PySem.W.keepIn K (.ref f)=true/\mg x=some (.ref f)
def Ot [B:Bs](X:Cx)(ex:XR):Prop:=∀ (Z9:List (Addr×Obj)) (U:L2.St) (H:Hp) (s s':Shared) (aD aD':List Addr) (Z:Z1) (S S':Z7) (c:Str) (C a:Addr) (H':Hp),Inv X Z9 U H s->zp X.K aD H S->zY X.K aD H Z U->ex Z c S'->zp X.K aD' H' S'->Wd aD H aD' H' ->
 PySem.W.nsIn X.K mainGlobals c=some (some (.ref C))->s'.os=s.os->AllBare s'.gens->Un (frs X.stack) [] H H' s.heap s'.heap->ZD X.prog X.w H' s'.heap->R5 s.heap s'.heap a (.ref C) H'->X.xe (.ref a) s'
def Gr [B:Bs](X:Cx)(ex:XR):Prop:=∀ (Z9:List (Addr×Obj)) (U:L2.St) (H:Hp) (s:Shared) (aD:List Addr) (Z:Z1) (S:Z7) (c:Str) (C e:Addr) (args:List Value) (h1:Heap),Inv X Z9 U H s->zp X.K aD H S->zY X.K aD H Z U->ex Z c S ->
 PySem.W.nsIn X.K mainGlobals c=some (some (.ref C))->s.heap.MadeExcOf h1 e (.ref C) args->X.xe (.ref e) { s with heap:=h1 }
section
variable [B:Bs]{X:Cx}
def bU {k:Nat}{f:Ys}{p pos:Pos}{e:Expr}{es:List Expr}{t:DA}(G:xr X.prog X.w X.K X.mg X.base k x ps (Um X.K f))(hX:Ot X ex)(hr:zO j X.A)(ha:PAD X (e::es) t)(hk:autoParam (k<=j) zQ)(hg:autoParam (Gl X x) zy)(hdb:autoParam ((x==("__debug__":Str))=false) zQ)(he:autoParam (starEach (e::es) X.env=(false,eval e X.env)::starEach es X.env) QT)(hpl:autoParam ((backTo pos (starEach es X.env)).any (·.1)=false) Py) :
  PD X (.Call (.Name x p) (e::es) [] pos) (Yk f ex t):=by
 with_unfolding_all
  intro Z9 s U H Q I h;obtain⟨aD,Z,S,Q0,st,rh,q,kk⟩:=h;obtain⟨fa,fd,F,b,kp,m⟩:=G.ex;have F:=F.mono hk;refine wpAny_Call_Name_kw (Oz I hg m ?_ hdb);have hA:=ha pos Z9 s U H (fun vs H1=>∃ ds S1 ad1,f ds S1 Q0 (ex Z)/\Wd aD H ad1 H1/\zp X.K ad1 H1 S1/\zf X.K ad1 H1 ds vs) I ⟨aD,Z,S,_,st,rh,q,fun ds S1 vs H1 ad1 q1 w1 st1 r1=>⟨ds,S1,ad1,q1,w1,st1,r1⟩⟩;refine PySem.W.callWith_K (h₀:=X.base) I.ok.mod.kin kp (Z2 hA fun us s1 ⟨vs,H1,I1,r,q1⟩=>⟨I1.kIn,?_⟩) he hpl;obtain⟨ds,S1,ad1,q1,w1,st1,r1⟩:=q1
  have hsp:Um X.K f vs H1 Q (fun cls _ H'=>∃ c C S' aD',cls=Value.ref C/\ex Z c S'/\zp X.K aD' H' S'/\Wd ad1 H1 aD' H'/\PySem.W.nsIn X.K mainGlobals c=some (some (.ref C))) :=⟨ad1,S1,ds,Q0,ex Z,st1.base,r1,q1,(kk.wd w1).base st1,fun c C S' aD' H' hx st' hn=>⟨c,C,S',aD',rfl,hx,st1.back st',@zp.wd ⟨ad1,H1⟩ _ _ _ _ st',hn⟩⟩
  have hl:us.length=ps.length:=by rw[<- r.length];exact F.len _ _ _ _ hsp
  refine wpAny_call (codeAny_mono (F.run X.A X.stack s1 H1 ⟨us,[]⟩ us vs Q _ hr I1.env0 (by have:=b s1 us I1.kIn (by rw[Xn];exact hl);rwa[Xn]at this) r hsp) fun res s' hq=>?_);cases res with
  |error e =>obtain⟨a,C,H',rfl,os,bare,un,hok,fly,c,C',S',aD',hC,hx,st',wd',hn⟩:=hq;cases hC;exact hX Z9 U H1 s1 s' ad1 aD' Z S1 S' c C a H' I1 st1 (rh.wd w1) hx st' wd' hn os bare un hok fly
  |ok fl =>
   cases fl with
   |ret u=>exact I1.after hq
   |next=>exact False.elim hq
   |brk=>exact False.elim hq
   |cont=>exact False.elim hq
def Gw:Ot X xF:=fun _ _ _ _ _ _ _ _ _ _ _ _ _ _ _ _ _ h=>h.elim
structure Om (K:PySem.W.Frag)(C:Addr):Prop where
 ex:∃ nm q N bs bm hdct sn sub ab col dd k0 k1 k2 k3 k5,K.lookup C=some (excClassObj nm q C N bs bm hdct sn sub ab col dd k0 k1 k2 k3 k5 "ValueError.__new__")/\PySem.W.nsOkIn K N=true/\PySem.W.nsIn K N "__init__"=some none /\
  PySem.W.tailIn K [.type "ValueError",.type "Exception",.type "BaseException",.type "object"] bm=true
def θ {x:Str}{np cpos pos:Pos}{e:Expr}{t:DA}(hX:Gr X ex)(hc:X.calm=true)(hC:∀ C,PySem.W.nsIn X.K mainGlobals x=some (some (.ref C))->Om X.K C)(hx:∃ C,PySem.W.nsIn X.K mainGlobals x=some (some (.ref C))/\X.mg x=some (.ref C))(hg:Gl X x)(ha:PAD X [e] t)(ht:∀ Z S Q,(∀ d,Q [d] S)->t Z S Q)(hdb:autoParam ((x==("__debug__":Str))=false) zQ)(he:autoParam (starEach [e] X.env=(false,eval e X.env)::starEach [] X.env) zy) :
  Zv X (.Raise (some (.Call (.Name x np) [e] [] cpos)) none pos) (RN ex x):=by
 with_unfolding_all
  intro Z9 s U H D I h;obtain⟨aD,Z,S,E0,st,rh,q,k⟩:=h;obtain⟨C,hn,hm⟩:=hx;obtain⟨nm,qn,N,bs,bm,hdct,sn,sub,ab,col,dd,k0,k1,k2,k3,k5,lk,no,ni,tl⟩:=(hC C hn).ex;have kin:=I.kIn;have T:=PySem.W.tail_of_in kin tl;have hv:=ha cpos Z9 s U H (fun vs H1=>vs.length=1/\∃ ad1,Wd aD H ad1 H1/\zp X.K ad1 H1 S) I ⟨aD,Z,S,fun ds S'=>ds.length=1/\S'=S,st,rh,ht _ _ _ (fun d=>⟨rfl,rfl⟩),fun ds S' vs H' aD' e' w' st' r'=>⟨by rw[<- r'.length];exact e'.1,aD',w',e'.2▸st'⟩⟩;refine wpAny_Raise_call_subT (C:=C) (nm:=nm) (q:=qn) (N:=N) (bs:=bs) (bm:=bm) (hdct:=hdct) (sn:=sn) (sub:=sub) (ab:=ab) (col:=col) (dd:=dd) (k0:=k0) (k1:=k1) (k2:=k2) (k3:=k3) (k5:=k5) PySem.F.excBase_ValueError (T.hasType PySem.F.excBase_ValueError.hasBase) (I.ok.hd hc) (by rw[he];rfl) (PySem.W.nsMap_none_of_in I.ok.mod.kin no ni) (Oz I hg hm ⟨rfl,?_⟩ hdb);rw[he]at hv ⊢;refine Calls.evalArgs_plain (wpAny_mono hv (fun us s1 hq=>?_) fun _ _ y=>y);obtain⟨vs,H1,I1,r,hl,ad1,w1,st1⟩:=hq;have k1':=I1.kIn;have hlen:us.length<=sizeLine:=by rw[<- r.length,hl];decide
  exact⟨rfl,hlen,k1' _ _ lk,(Heap.Ns.of_isNs (PySem.W.isNs_of_in I.ok.mod.kin no)).keeps I1.bk,PySem.W.tail_of_in k1' tl,fun h' e' hx=>hX Z9 U H1 s1 ad1 Z S x C e' us h' I1 st1 (rh.wd w1) q hn hx⟩
abbrev Ti (X:Cx):Cx:={ X with xe:=fun _ _=>False }
omit B in
def Bo (I:Inv X Z9 U H s):Inv (Ti X) Z9 U H s :=⟨⟨I.ok.mod,I.ok.kind,I.ok.glob,I.ok.blt,I.ok.above,I.ok.inj,I.ok.has,I.ok.cab,I.ok.hd,I.ok.frames,I.ok.stk,I.ok.exf,I.ok.bs,I.ok.bsz,I.ok.noex,I.ok.exfs,I.ok.funs,I.ok.frf⟩,I.os,I.bare,I.base,I.loc,I.cell,I.free,I.freeC,I.pin,I.hok,I.len⟩
omit B in
def Oo (I:Inv (Ti X) Z9 U H s):Inv X Z9 U H s :=⟨⟨I.ok.mod,I.ok.kind,I.ok.glob,I.ok.blt,I.ok.above,I.ok.inj,I.ok.has,I.ok.cab,I.ok.hd,I.ok.frames,I.ok.stk,I.ok.exf,I.ok.bs,I.ok.bsz,I.ok.noex,I.ok.exfs,I.ok.funs,I.ok.frf⟩,I.os,I.bare,I.base,I.loc,I.cell,I.free,I.freeC,I.pin,I.hok,I.len⟩
def pZ {e:Expr}{t:DE}(h:PD (Ti X) e t):PD X e t:=by with_unfolding_all exact(fun Z9 s U H Q I q =>wpAny_mono (h Z9 s U H Q (Bo I) q) (by rintro v s1 ⟨x,H1,I1,r⟩;exact⟨x,H1,Oo I1,r⟩) fun _ _ z=>z.elim)
def zo0 {st:Stmt}{t:DS}(h:Zv (Ti X) st t):Zv X st t:=by with_unfolding_all exact(fun Z9 s U H D I q =>
 wpAny_mono (h Z9 s U H D (Bo I) q) (fun f s1 hf=>by
  cases f with
  |next=>obtain⟨σ',H',I',q'⟩:=hf;exact⟨σ',H',Oo I',q'⟩
  |brk=>obtain⟨σ',H',I',q'⟩:=hf;exact⟨σ',H',Oo I',q'⟩
  |cont=>obtain⟨σ',H',I',q'⟩:=hf;exact⟨σ',H',Oo I',q'⟩
  |ret u=>obtain⟨v,σ',H',I',r,q'⟩:=hf;exact⟨v,σ',H',Oo I',r,q'⟩) fun _ _ z=>z.elim)
structure pL (P:Program)(w:World)(K:PySem.W.Frag)(mg:Str->Option Value)(base:Heap)(k:Nat)(x c:Str)(init:Ys):Prop where
 ex:∃ (C f:Addr) (fd:FuncData) (ps:List Str),Mk K C f/\YT P w K mg base (Va P w) k f fd ps (Um K init)/\Binds K fd ps []/\mg x=some (.ref C)/\Cls K C/\PySem.W.nsIn K mainGlobals c=some (some (.ref C))
def zrL {k:Nat}{p pos:Pos}{e:Expr}{es:List Expr}{t:DA}(G:pL X.prog X.w X.K X.mg X.base k x c init)(hX:Ot X ex)(hr:zO j X.A)(ha:PAD X (e::es) t)(hk:autoParam (k+1<=j) zQ)(hg:autoParam (Gl X x) zy)(hdb:autoParam ((x==("__debug__":Str))=false) zQ)(he:autoParam (starEach (e::es) X.env=(false,eval e X.env)::starEach es X.env) QT)(hpl:autoParam ((backTo pos (starEach es X.env)).any (·.1)=false) Py) :
  PD X (.Call (.Name x p) (e::es) [] pos) (Yk (Ek c init) ex t):=by
 with_unfolding_all
  intro Z9 s U H Q I h;obtain⟨aD,Z,S,Q0,st,rh,q,kk⟩:=h;obtain⟨C,fa,fd,ps,M,F,b,m,hcl,hcn⟩:=G.ex;have hr':=hr.mono hk;refine wpAny_Call_Name_kw (Oz I hg m ?_ hdb);have hA:=ha pos Z9 s U H (fun vs H1=>∃ ds S1 ad1,Ek c init ds S1 Q0 (ex Z)/\Wd aD H ad1 H1/\zp X.K ad1 H1 S1/\zf X.K ad1 H1 ds vs) I ⟨aD,Z,S,_,st,rh,q,fun ds S1 vs H1 ad1 q1 w1 st1 r1=>⟨ds,S1,ad1,q1,w1,st1,r1⟩⟩;refine PySem.W.callWith_K (h₀:=X.base) I.ok.mod.kin M.kp (Z2 hA fun us s1 ⟨vs,H1,I1,r,q1⟩=>⟨I1.kIn,?_⟩) he hpl;obtain⟨ds,S1,ad1,q1,w1,st1,r1⟩:=q1;have f1:H1 (s1.heap.objs.size+1)=none:=I1.hok.fresh (Nat.le_succ _);have f2:H1 s1.heap.objs.size=none:=I1.hok.fresh (qh _);have f3:s1.heap.objs.size≠s1.heap.objs.size+1:=qS (MJ _);obtain⟨w2,st2⟩:=st1.newI (c:=c) f1 f2 f3 hcl hcn;have I2:=Inv.made (C:=C) I1;generalize hx0:s1.heap.objs.size+1=x0 at *;generalize hH2:upd (upd H1 s1.heap.objs.size (.own x0)) x0 (.ins C s1.heap.objs.size [])=H2 at *;have rx:Rel X.K (ad1++[x0]) H2 (.ref S1.length) (.ref x0):=.ref (by rw[<- st1.len,qe (qh _),Yp];rfl);have q2:init (.ref S1.length::ds) (S1++[.ins c []]) (fun d S2=>d=.non/\Q0 (.ref S1.length) S2) (ex Z):=q1
  have hsp:Um X.K init (.ref x0::vs) H2 (fun v H3=>v=.non/\Q (.ref x0) H3) (fun cls _ H'=>∃ c C S' aD',cls=Value.ref C/\ex Z c S'/\zp X.K aD' H' S'/\Wd (ad1++[x0]) H2 aD' H'/\PySem.W.nsIn X.K mainGlobals c=some (some (.ref C))) :=
   ⟨ad1++[x0],S1++[.ins c []],.ref S1.length::ds,_,ex Z,st2.base,.cons rx (r1.wd w2),q2,fun d S' v H' aD' hq w' st' rv=>by obtain⟨rfl,hq⟩:=hq;cases rv;exact⟨rfl,kk _ S' _ H' aD' hq ((w1.trans w2).trans w') (st2.back st') (rx.wd w')⟩,fun c C S' aD' H' hx st' hn=>⟨c,C,S',aD',rfl,hx,st2.back st',@zp.wd ⟨ad1++[x0],H2⟩ _ _ _ _ st',hn⟩⟩
  have r2:Vals (V.ref x0::vs) (Value.ref x0::us):=.cons rfl r;have hl:(Value.ref x0::us).length=ps.length:=by rw[<- r2.length];exact F.len _ _ _ _ hsp
  have hb:=b _ (Value.ref x0::us) I2.kIn (by rw[Xn];exact hl);rw[Xn]at hb;subst hx0
  refine wpAny_call (pW (f:=fa) I1.kIn M.makes M.init (beq_iff_eq.mp M.fn) (codeAny_mono (F.run _ X.stack _ H2 ⟨Value.ref (s1.heap.objs.size+1)::us,[]⟩ (Value.ref (s1.heap.objs.size+1)::us) _ _ _ (hr'.make C us [])
   (I2.env0.make C us []) hb r2 hsp) fun res s' hq=>?_))
  cases res with
  |error e =>obtain⟨a,C',H',rfl,os,bare,un,hok,fly,c',C'',S',aD',hC,hx,st',wd',hn⟩:=hq;cases hC;exact hX Z9 U H2 _ s' (ad1++[s1.heap.objs.size+1]) aD' Z (S1++[.ins c []]) S' c' C' a H' I2 st2 ((rh.wd w1).wd w2) hx st' wd' hn os bare un hok fly
  |ok fl =>
   cases fl with
   |ret u =>obtain⟨v,H',I3,rv,ev,q3⟩:=I2.after hq;subst ev;exact⟨rv,⟨V.ref (s1.heap.objs.size+1),H',I3,rfl,q3⟩⟩
   |next=>exact False.elim hq
   |brk=>exact False.elim hq
   |cont=>exact False.elim hq
omit B in
def zoQ {P:Program}{w:World}{K:PySem.W.Frag}{mg:Str->Option Value}{base:Heap}{st:Stmt}{k:Nat}{sp:Ys}(F:Xc K x qual st f fd)(S:Pk N ps (zH st))(len:∀ ds So Q ex,sp ds So Q ex->ds.length=ps.length)(body:Vj N.length b sp)(term:∀ (cdv:Value) (A:Around) (outer:List Env) (s:Shared) (H:Hp) (E:XK),zO k (A.deeper (envOfC qual (zH st) s.heap.objs.size f cdv))->∀ [Bs] (ex:XR),Ot (Vx (Va P w) P w K mg base N qual (zH st) f cdv A outer s H E) ex->Gr (Vx (Va P w) P w K mg base N qual (zH st) f cdv A outer s H E) ex->W3 (Vx (Va P w) P w K mg base N qual (zH st) f cdv A outer s H E) (XC st) (b ex)) :
  YT P w K mg base (Va P w) (k+1) f fd ps (Um K sp):=by
 with_unfolding_all
  obtain⟨oc,od,kV,doc,pm,an,cdv,ct,osl,rfl,lk,hcd⟩:=F.ex;refine yr lk hcd S (by rintro vs H Q E ⟨aD,So,ds,Q0,X0,so,r,hf,kk,kx⟩;exact by rw[<- r.length];exact len ds So Q0 X0 hf) fun A outer s H vs Q E hr ⟨aD,So,ds,Q0,X0,so,r,hf,kk,kx⟩=>?_
  letI:Bs:=⟨aD,H⟩
  have end1:∀ (c:Str) (C a:Addr) (S':Z7) (aD':List Addr) (H':Hp) (s':Shared),X0 c S'->zp K aD' H' S'->PySem.W.nsIn K mainGlobals c=some (some (.ref C))->s'.os=s.os->AllBare s'.gens->Un (frs outer) [] H H' s.heap s'.heap->ZD P w H' s'.heap->R5 s.heap s'.heap a (.ref C) H'->Va P w outer H s E (.ref a) s' :=fun c C a S' aD' H' s' hx st' hn o1 o2 o3 o4 o5=>⟨a,C,H',rfl,o1,o2,o3,o4,o5,kx c C S' aD' H' hx st' hn⟩
  refine⟨_,term cdv A outer s H E hr (fun _=>X0) ?_ ?_,aD,Tp N.length ds,So,_,so,Ab N r,body ds So Q0 X0 hf,⟨fun Z S' U H' aD' q w' st' rh=>JM so kk .non S' .non H' aD' q w' st' .non,JM so kk,fun _ _ _ _ _ q=>q.elim,fun _ _ _ _ _ q=>q.elim⟩⟩
  ·intro Z9 U H1 s1 s' ad1 aD' Z S1 S' c C a H' I st1 rh hx st' wd' hn os bare un hok fly;have I':=I.call' (ch:=[]) os un hok bare (fun b z=>absurd z (by simp))
   have f0:R5 s.heap s'.heap a (.ref C) H':=by obtain⟨g1,g2,a0,oe,vs,T,oT,ts,h1,h2,h3,h4,h5,h6⟩:=fly;exact⟨Lz I rfl g1,g2,a0,oe,vs,T,oT,ts,h1,h2,h3,h4,Lz I rfl h5,h6⟩
   exact ĕ I' rfl rfl rfl f0 fun s'' o1 o2 o3 o4 o5=>end1 c C a S' aD' H' s'' hx st' hn o1 o2 o3 o4 o5
  ·intro Z9 U H1 s1 ad1 Z S1 c C e args h1 I st1 rh hx hn hmade;exact Æ I rfl rfl rfl hmade fun s'' o1 o2 o3 o4 o5=>end1 c C e S1 ad1 H1 s'' hx st1 hn o1 o2 o3 o4 o5
end
section
variable {X:Cx}{Z9:List (Addr×Obj)}{U:L2.St}{H H':Hp}{s s':Shared}
variable [B:Bs]
end
section
open PySem.W PySem.Builtin PySem.Builtin.ObjectAttr PySem.Builtin.Getset_descriptor
variable {prog:Program}{w:World}{A:Around}{E:Value->Shared->Prop}{s:Shared}{K:Frag}{x C:Addr}{o:Obj}
end
section
variable [B:Bs]{X:Cx}
end
def wM (K:PySem.W.Frag)(C:Addr)(sl:List (Option Value)):PySem.Data->Bool
 | .cls cd=>cd.mro.head?==some (.ref C)&&!cd.hasDel&&sl.length==6&&sl[4]?==some (some (.builtin "ValueError.__new__"))&&PySem.W.nsOkIn K cd.ns&&PySem.W.nsIn K cd.ns "__init__"==some none&&PySem.W.tailIn K [.type "ValueError",.type "Exception",.type "BaseException",.type "object"] cd.mro.tail
 |_=>false
def Ju (K:PySem.W.Frag)(C:Addr):Bool:=(K.lookup C).any fun o=>o.cls==.type "type"&&wM K C o.slots.toList o.data
def Om.of {K:PySem.W.Frag}{C:Addr}(q:Ju K C=true):Om K C:=by
 unfold Ju at q;cases ho:K.lookup C with
 |none=>rw[ho]at q;cases q
 |some o =>
  rw[ho]at q;obtain⟨c,dd,d,⟨sl⟩⟩:=o;have q':(c==.type "type"&&wM K C sl d)=true:=q;rw[qv,beq_iff_eq]at q';obtain⟨rfl,q⟩:=q';cases d with
  |cls cd =>
   obtain⟨nm,bs,mro,ns,qn,hd,sn,sub,ab,col,del⟩:=cd;have q':(mro.head?==some (.ref C)&&!del&&sl.length==6&&sl[4]?==some (some (.builtin "ValueError.__new__"))&&PySem.W.nsOkIn K ns&&PySem.W.nsIn K ns "__init__"==some none&&PySem.W.tailIn K [.type "ValueError",.type "Exception",.type "BaseException",.type "object"] mro.tail)=true:=q;simp only[qv,beq_iff_eq,Bool.not_eq_true']at q';obtain⟨⟨⟨⟨⟨⟨e1,rfl⟩,e2⟩,e3⟩,h1⟩,h2⟩,h3⟩:=q';cases mro with
   |nil=>cases e1
   |cons m bm =>cases e1;obtain⟨k0,k1,k2,k3,k4,k5,rfl⟩:=jx e2;cases e3;exact⟨nm,qn,ns,bs,bm,hd,sn,sub,ab,col,dd,k0,k1,k2,k3,k5,ho,h1,h2,h3⟩
  |_=>cases q
section
variable {X:Cx}[B:Bs]
def zr2:MD X "list.pop" J3:=⟨_,lU,by
 rintro aD H S x ds v vs Q0 Q st rx r ⟨n,xs,y,ex,ey,hn,q⟩ k;subst ex ey;obtain⟨u,rfl,ru⟩:=Xz r;cases ru;cases rx with
 |ref e =>
  obtain⟨ws,hw,rw⟩:=st.cell n _ _ e hn;cases rw with
  |@cons _ w _ ws' rw1 rw2 =>have w':=Wd.put (ws:=ws') e hw;exact⟨_,w::ws',0,0,w,rfl,rfl,hw,by decide,by decide,by unfold seqIndex?;simp,rfl,k _ _ _ _ aD q w' (st.put e hw rw2) (rw1.wd w')⟩⟩
end
section
variable {K:PySem.W.Frag}{aD:List Addr}{H:Hp}{S:Z7}[B:Bs]
omit B in
theorem RelK.val:∀ {fs:List (Str×D)} {vs:List (Key×V)} (z:Str),RelK K aD H fs vs->(dval fs z=none/\L2.YC vs (Sum.inr z:Key)=none)\/∃ d v,dval fs z=some d/\L2.YC vs (Sum.inr z:Key)=some v/\Rel K aD H d v
 |_,_,z,.nil=>.inl ⟨rfl,L2.uW⟩
 |_,_,z,@RelK.cons _ _ _ x d v fs vs r t=>by
  by_cases h:x=z
  ·exact .inr ⟨d,v,by rw[WL,if_pos h],by rw[L2.Qx (by rw[h])],r⟩
  ·have h':¬ (Sum.inr x:Key)=Sum.inr z:=fun e=>h (Sum.inr.inj e)
   rw[WL,if_neg h,L2.Qm h'];exact RelK.val z t
omit B in
theorem zT.val {κ:Type}[DecidableEq κ]:∀ {fs:List (κ×D)} {vs:List (κ×V)} (z:κ),zT K aD H fs vs->(dval fs z=none/\L2.YC vs z=none)\/∃ d v,dval fs z=some d/\L2.YC vs z=some v/\Rel K aD H d v
 |_,_,z,.nil=>.inl ⟨rfl,L2.uW⟩
 |_,_,z,@zT.cons _ _ _ _ x d v fs vs r t=>by
  by_cases h:x=z
  ·exact .inr ⟨d,v,by rw[WL,if_pos h],by rw[L2.Qx h],r⟩
  ·rw[WL,if_neg h,L2.Qm h];exact zT.val z t
omit B in
theorem RelK.snoc {x:Str}(rd:Rel K aD H d v):∀ {fs:List (Str×D)} {vs:List (Key×V)},RelK K aD H fs vs->RelK K aD H (fs++[(x,d)]) (vs++[(.inr x,v)])
 |_,_,.nil=>.cons rd .nil
 |_,_,.cons r t=>.cons r (RelK.snoc rd t)
omit B in
theorem zT.snoc {κ:Type}{x:κ}(rd:Rel K aD H d v):∀ {fs:List (κ×D)} {vs:List (κ×V)},zT K aD H fs vs->zT K aD H (fs++[(x,d)]) (vs++[(x,v)])
 |_,_,.nil=>.cons rd .nil
 |_,_,.cons r t=>.cons r (zT.snoc rd t)
omit B in
theorem RelK.repl {z:Str}(rd:Rel K aD H d v):∀ {fs:List (Str×D)} {vs:List (Key×V)},RelK K aD H fs vs->RelK K aD H (fs.map fun kv=>if kv.1=z then(kv.1,d)else kv) (vs.map fun kv=>if kv.1=(Sum.inr z:Key)then(kv.1,v)else kv)
 |_,_,.nil=>.nil
 |_,_,@RelK.cons _ _ _ x d' v' fs vs r t=>by
  rw[qO,qO];by_cases h:x=z
  ·rw[if_pos h,if_pos (by rw[h])];exact .cons rd (RelK.repl rd t)
  ·rw[if_neg h,if_neg (fun e=>h (Sum.inr.inj e))];exact .cons r (RelK.repl rd t)
omit B in
theorem zT.repl {κ:Type}[DecidableEq κ]{z:κ}(rd:Rel K aD H d v):∀ {fs:List (κ×D)} {vs:List (κ×V)},zT K aD H fs vs->zT K aD H (fs.map fun kv=>if kv.1=z then(kv.1,d)else kv) (vs.map fun kv=>if kv.1=z then(kv.1,v)else kv)
 |_,_,.nil=>.nil
 |_,_,@zT.cons _ _ _ _ x d' v' fs vs r t=>by
  rw[qO,qO];by_cases h:x=z
  ·rw[if_pos h,if_pos h];exact .cons rd (zT.repl rd t)
  ·rw[if_neg h,if_neg h];exact .cons r (zT.repl rd t)
omit B in
def RelK.put {z:Str}(rd:Rel K aD H d v){fs:List (Str×D)}(r:RelK K aD H fs vs):RelK K aD H (dput fs z d) (putK vs (Sum.inr z:Key) v):=by
 unfold dput putK;rw[R4,L2.Ma];rcases r.val z with⟨e1,e2⟩|⟨d',v',e1,e2,_⟩
 ·rw[e1,e2];rw[if_neg (by simp),if_neg (by simp)];exact r.snoc rd
 ·rw[e1,e2];rw[if_pos (by simp),if_pos (by simp)];exact r.repl rd
omit B in
def zT.put {κ:Type}[DecidableEq κ]{z:κ}{d:D}{v:V}(rd:Rel K aD H d v){fs:List (κ×D)}{vs:List (κ×V)}(r:zT K aD H fs vs):zT K aD H (dput fs z d) (putK vs z v):=by
 unfold dput putK;rw[R4,L2.Ma];rcases r.val z with⟨e1,e2⟩|⟨d',v',e1,e2,_⟩
 ·rw[e1,e2];rw[if_neg (by simp),if_neg (by simp)];exact r.snoc rd
 ·rw[e1,e2];rw[if_pos (by simp),if_pos (by simp)];exact r.repl rd
omit B in
theorem RelK.length:∀ {fs:List (Str×D)} {vs:List (Key×V)},RelK K aD H fs vs->fs.length=vs.length
  |_,_,.nil=>rfl
  |_,_,.cons _ t=>congrArg (· + 1) (RelK.length t)
omit B in
theorem zT.length {κ:Type}:∀ {fs:List (κ×D)} {vs:List (κ×V)},zT K aD H fs vs->fs.length=vs.length
  |_,_,.nil=>rfl
  |_,_,.cons _ t=>congrArg (· + 1) (zT.length t)
omit B in
theorem O2:∀ {ks:List Key} {vs:List V},zf K aD H (ks.map kD) vs->vs=ks.map kV
 |[],_,.nil=>rfl
 |.inl i::ks,_,.cons r t=>by
  have e:∀ {d:D} {v:V},d=.int i->Rel K aD H d v->v=.int i:=fun e r=>by subst e;cases r;rfl
  rw[e rfl r,O2 t];rfl
 |.inr x::ks,_,.cons r t=>by
  have e:∀ {d:D} {v:V},d=.str x->Rel K aD H d v->v=.str x:=fun e r=>by subst e;cases r;rfl
  rw[e rfl r,O2 t];rfl
omit B in
theorem Dr:∀ {ks:List (List Key)} {vs:List V},zf K aD H (ks.map kN) vs->∃ bs:List Addr,vs=bs.map V.ref/\Paired (fun (k:List Key) (c:Addr)=>H c=some (.tup (k.map kV))) ks bs
 |[],_,.nil=>⟨[],rfl,.nil⟩
 |k::ks,_,.cons r t=>by
  obtain⟨bs,e,p⟩:=Dr t;cases r with
  |tup h q=>exact⟨_::bs,by rw[e];rfl,.cons (by rw[h,O2 q]) p⟩
def zp.newC (st:zp K aD H S){o:HO}(h:H l=none)(hc:Wm K (aD++[l]) (upd H l o) l c):zp K (aD++[l]) (upd H l o) (S++[c]) where
 wd:=st.wd.trans (Wd.newL st h)
 len:=by rw[qf,qf,st.len];rfl
 nd:=by
  rw[W2];refine⟨st.nd,by simp,fun a ha b hb e=>?_⟩;have:b=l:=by simpa using hb
  subst this;subst e;exact st.fresh h ha
 cell:=fun n a c' e1 e2=>by
  by_cases hn:n<aD.length
  ·rw[qg hn]at e1;rw[qg (by rw[<- st.len];exact hn)]at e2;have ok:=st.cell n a c' e1 e2;obtain⟨u,e⟩:=ok.some;exact ok.wd (Wd.newL st h) (by rw[Vv h e,e])
  ·have hn':aD.length<=n:=Rc hn;rw[qe hn']at e1;rw[qe (by rw[<- st.len];exact hn'),<- st.len]at e2;cases hk:n-aD.length with
   |zero =>
    rw[hk]at e1 e2;have e1':l=a:=by simpa using e1
    have e2':c=c':=by simpa using e2
    subst e1' e2';exact hc
   |succ k=>rw[hk]at e1;simp at e1
omit B in
def Wd.putC {n:Nat}{a:Addr}{o o':HO}(e:aD[n]?=some a)(h:H a=some o)(h1:∀ xs,o≠.tup xs)(h2:∀ q u,o≠.frz q u):Wd aD H aD (upd H a o') :=
 ⟨Pb _,fun b u hb q=>by
   have:b≠a:=fun z=>hb (by rw[z];exact qc e)
   rw[zu this];exact q,
  fun b xs q=>by rw[zu (VP q h (fun z=>h1 xs z.symm))];exact q,fun b o u q=>by rw[zu (VP q h (fun z=>h2 o u z.symm))];exact q,fun _ m n=>absurd m n⟩
theorem zp.putC (st:zp K aD H S){n:Nat}{a:Addr}{o o':HO}(e:aD[n]?=some a)(h:H a=some o)(h1:∀ xs,o≠.tup xs)(h2:∀ q u,o≠.frz q u)(hc:Wm K aD (upd H a o') a c):zp K aD (upd H a o') (S.set n c) where
 wd:=st.wd.trans (Wd.putC e h h1 h2)
 len:=by rw[WY];exact st.len
 nd:=st.nd
 cell:=fun m b c' e1 e2=>by
  have w:Wd aD H aD (upd H a o'):=Wd.putC e h h1 h2;by_cases hm:m=n
  ·subst hm;rw[e]at e1;cases e1;rw[qR (by rw[<- st.len];exact My.Wk e)]at e2;cases e2;exact hc
  ·rw[qQ (Ne.symm hm)]at e2
   have ne:b≠a:=fun z=>by subst z;have q1:=(qX.mp e1).2;have q2:=(qX.mp e).2;exact hm ((Q8 st.nd).mp (q1.trans q2.symm))
   exact(st.cell m b c' e1 e2).wd w (zu ne)
def Pn (st:zp K aD H S)(rx:Rel K aD H x v)(ry:Rel K aD H y u)(g:Zj S x y o):∃ a o',v=.ref a/\Yq H a u o'/\((o=none/\o'=none)\/∃ d w,o=some d/\o'=some w/\Rel K aD H d w):=by
 rcases g with⟨n,Z8,z,rfl,rfl,hn,rfl⟩|⟨n,Z8,ks,rfl,rfl,hn,rfl⟩|⟨n,Z8,ep,ks,rfl,rfl,hn,rfl⟩
 ·cases ry;cases rx with
  |ref e =>obtain⟨vs,hv,r⟩:=st.cell n _ _ e hn;exact⟨_,_,rfl,Yq.k (k:=Sum.inr z) hv,r.val z⟩
 ·cases rx with
  |ref e =>
   obtain⟨vs,hv,r⟩:=st.cell n _ _ e hn;cases ry with
   |tup hb rb =>have e2:=O2 rb;subst e2;exact⟨_,_,rfl,Yq.t hv hb,r.val ks⟩
 ·cases rx with
  |ref e =>
   obtain⟨vs,hv,r⟩:=st.cell n _ _ e hn;cases ry with
   |tup hb rb =>obtain⟨bs,rfl,p⟩:=Dr rb;exact⟨_,_,rfl,Yq.n hv ⟨bs,hb,p⟩,r.val ks⟩
def zmb (st:zp K aD H S)(rx:Rel K aD H x v)(g:Er S x):∃ a,v=.ref a/\GD H a:=by
 obtain⟨n,rfl,g⟩:=g;cases rx with
 |ref e =>
  rcases g with⟨Z8,hn⟩|⟨Z8,hn⟩|⟨Z8,ep,hn⟩
  ·obtain⟨vs,hv,_⟩:=st.cell n _ _ e hn;exact⟨_,rfl,.inl ⟨vs,.inl hv⟩⟩
  ·obtain⟨vs,hv,_⟩:=st.cell n _ _ e hn;exact⟨_,rfl,.inr (.inl ⟨vs,.inl hv⟩)⟩
  ·obtain⟨vs,hv,_⟩:=st.cell n _ _ e hn;exact⟨_,rfl,.inr (.inr ⟨vs,ep,.inl hv⟩)⟩
end
section
variable {X:Cx}{a b c:Expr}{td ti tz tv:DE}{pos apos cpos:Pos}[B:Bs]
def zsf:PD X (.Dict [] [] pos) Jl:=by with_unfolding_all exact(zV bF fun U H Q hh=>ZV hh fun aD Z S Q0 st rh q k p hp =>k _ _ _ _ _ q (Wd.newL st hp) (st.newC hp ⟨[],zL,.nil⟩) st.newRef)
def j4:PD X (.Dict [] [] pos) tV:=by with_unfolding_all exact(zV ϊ fun U H Q hh=>ZV hh fun aD Z S Q0 st rh q k p hp =>k _ _ _ _ _ q (Wd.newL st hp) (st.newC hp ⟨[],zL,.nil⟩) st.newRef)
def ő:PD X (.Dict [] [] pos) J4:=by with_unfolding_all exact(zV jq fun U H Q hh=>ZV hh fun aD Z S Q0 st rh q k p hp =>k _ _ _ _ _ q (Wd.newL st hp) (st.newC hp ⟨[],zL,.nil⟩) st.newRef)
def ű {tk:DE}(hr:zO j X.A)(hk:PD X a tk)(hv:PD X b tv):PD X (.Dict [some a] [b] pos) (J8 tk tv):=by with_unfolding_all exact(zV (ī (Ud hr) hk hv) fun U H Q hh=>ZV hh fun aD Z S Q0 st rh q k p hp =>
 ⟨aD++[p],Z,S++[.dt []],_,st.newC (c:=.dt []) hp ⟨[],zL,.nil⟩,rh.wd (Wd.newL st hp),(show tk Z (S++[.dt []]) _ from q),fun x S1 v H1 ad1 q1 w1 st1 r1=>⟨ad1,Z,S1,_,st1,(rh.wd (Wd.newL st hp)).wd w1,q1,by
  rintro y S2 u H2 ad2 ⟨ks,ex,hn,q2⟩ w2 st2 r2;subst ex;have w12:=(Wd.newL (o:=.dT []) st hp).trans (w1.trans w2)
  have e:ad2[S.length]?=some p:=by refine Tr (w1.trans w2).pre ?_;rw[<- st.len,qe (qh _),Yp];rfl
  obtain⟨vs,hv',r⟩:=st2.cell S.length _ _ e hn;cases r;cases r1.wd w2 with
  |tup hb rb =>
   have e2:=O2 rb;subst e2;have h1:∀ xs,HO.dT []≠.tup xs:=fun _ z=>by cases z
   have h2:∀ q u,HO.dT []≠.frz q u:=fun _ _ z=>by cases z
   have w':=Wd.putC (o':=.dT [(ks,u)]) e hv' h1 h2;exact⟨_,ks,rfl,hb,hv',k _ _ _ _ _ q2 (w12.trans w') (st2.putC e hv' h1 h2 ⟨_,zL,.cons (r2.wd w') .nil⟩) (.ref e)⟩⟩⟩)
def zt4 (hr:zO j X.A)(ho:PD X a td)(hi:PD X b ti)(hs:autoParam (Kq b) vh):PD X (.Subscript a b pos) (V2 td ti):=by with_unfolding_all exact(zV (zrb (Ud hr) ho hi hs) fun U H Q hh=>ZV hh fun aD Z S Q0 st rh q k =>
 ⟨aD,Z,S,_,st,rh,q,fun x S1 v H1 ad1 q1 w1 st1 r1=>⟨ad1,Z,S1,_,st1,rh.wd w1,q1,by
  rintro y S2 u H2 ad2 ⟨d,g,q2⟩ w2 st2 r2;obtain⟨p,o',rfl,g',h⟩:=Pn st2 (r1.wd w2) r2 g;rcases h with⟨e,_⟩|⟨d',w,e,rfl,rw'⟩
  ·cases e
  ·cases e;exact⟨p,w,rfl,g',k _ S2 _ H2 ad2 q2 (w1.trans w2) st2 rw'⟩⟩⟩)
def iU (hr:zO j X.A)(ho:PD X a td)(hi:PD X b ti)(hv:PD X c tv)(hs:autoParam (swapsWith c (some (.Subscript a b apos)) pos.line X.env=pure false) zy):Zv X (.Assign [.Subscript a b apos] c pos) (Oj td ti tv):=by with_unfolding_all exact(Ye (ć (Ud hr) ho hi hv hs) fun E U H hh=>ZV hh fun aD Z S E0 so rh q k =>
 ⟨aD,Z,S,_,so,rh,q,fun v S1 vv H1 ad1 q1 w1 st1 r1=>⟨ad1,Z,S1,_,st1,rh.wd w1,q1,fun x S2 vx H2 ad2 q2 w2 st2 r2=>⟨ad2,Z,S2,_,st2,rh.wd (w1.trans w2),q2,fun y S3 vy H3 ad3 q3 w3 st3 r3=>by
  have rx:=r2.wd w3;have rv:=r1.wd (w2.trans w3);have w13:=(w1.trans w2).trans w3;rcases q3 with⟨n,Z8,z,rfl,rfl,hn,hl,q3⟩|⟨n,Z8,ks,rfl,rfl,hn,hl,q3⟩
  ·cases r3;cases rx with
   |ref e =>
    obtain⟨vs,hv',r⟩:=st3.cell n _ _ e hn;have h1:∀ xs,HO.dK vs≠.tup xs:=fun _ z=>by cases z
    have h2:∀ q u,HO.dK vs≠.frz q u:=fun _ _ z=>by cases z
    have w:=Wd.putC (o':=.dK (putK vs (Sum.inr z:Key) vv)) e hv' h1 h2;refine⟨_,_,rfl,Tc.k (k:=Sum.inr z) hv' (by rw[<- r.length];exact Mg hl),?_⟩;exact k.nx _ _ _ _ _ q3 (w13.trans w) (st3.putC e hv' h1 h2 ⟨_,zL,RelK.wr w.wr (r.put rv)⟩) (rh.wd (w13.trans w))
  ·cases rx with
   |ref e =>
    obtain⟨vs,hv',r⟩:=st3.cell n _ _ e hn;cases r3 with
    |tup hb rb =>
     have e2:=O2 rb;subst e2;have h1:∀ xs,HO.dT vs≠.tup xs:=fun _ z=>by cases z
     have h2:∀ q u,HO.dT vs≠.frz q u:=fun _ _ z=>by cases z
     have w:=Wd.putC (o':=.dT (putK vs ks vv)) e hv' h1 h2;refine⟨_,_,rfl,Tc.t hv' hb (by rw[<- r.length];exact Mg hl),?_⟩;exact k.nx _ _ _ _ _ q3 (w13.trans w) (st3.putC e hv' h1 h2 ⟨_,zL,zT.wr w.wr (r.put rv)⟩) (rh.wd (w13.trans w))⟩⟩⟩)
def gC (hr:zO j X.A)(ho:PD X a td)(hi:PD X b ti)(hv:PD X c tv)(hs:autoParam (swapsWith c (some (.Subscript a b apos)) pos.line X.env=pure false) zy):Zv X (.Assign [.Subscript a b apos] c pos) (S8 td ti tv):=by with_unfolding_all exact(Ye (ı (Ud hr) ho hi hv hs) fun E U H hh=>ZV hh fun aD Z S E0 so rh q k =>
 ⟨aD,Z,S,_,so,rh,q,fun v S1 vv H1 ad1 q1 w1 st1 r1=>⟨ad1,Z,S1,_,st1,rh.wd w1,q1,fun x S2 vx H2 ad2 q2 w2 st2 r2=>⟨ad2,Z,S2,_,st2,rh.wd (w1.trans w2),q2,fun y S3 vy H3 ad3 q3 w3 st3 r3=>by
  have rx:=r2.wd w3;have rv:=r1.wd (w2.trans w3);have w13:=(w1.trans w2).trans w3;obtain⟨n,Z8,ep,ks,rfl,rfl,hn,hl,q3⟩:=q3;cases rx with
  |ref e =>
   obtain⟨vs,hv',r⟩:=st3.cell n _ _ e hn;cases r3 with
   |tup hb rb =>
    obtain⟨bs,rfl,p⟩:=Dr rb;refine⟨_,vs,ep,ks,_,rfl,hv',rfl,⟨bs,hb,p⟩,by rw[<- r.length];exact Mg hl,fun e'=>?_⟩;have h1:∀ xs,HO.dN vs ep≠.tup xs:=fun _ z=>by cases z
    have h2:∀ q u,HO.dN vs ep≠.frz q u:=fun _ _ z=>by cases z
    have w:=Wd.putC (o':=.dN (putK vs ks vv) e') e hv' h1 h2;exact k.nx _ _ _ _ _ (q3 e') (w13.trans w) (st3.putC e hv' h1 h2 ⟨_,zL,zT.wr w.wr (r.put rv)⟩) (rh.wd (w13.trans w))⟩⟩⟩)
end
section
variable {K:PySem.W.Frag}{aD:List Addr}{H:Hp}{S:Z7}[B:Bs]
omit B in
theorem zT.gk {κ:Type}:∀ {fs:List (κ×D)} {vs:List (κ×V)} {i:Nat} {k:κ} {y:V},zT K aD H fs vs->vs[i]?=some (k,y)->∃ d,fs[i]?=some (k,d)/\Rel K aD H d y
 |_,_,_,_,_,.nil,h=>by cases h
 |_,_,0,_,_,.cons r _,h=>by cases h;exact⟨_,rfl,r⟩
 |_,_,i+1,_,_,.cons _ t,h=>let ⟨d,e,r⟩:=zT.gk (i:=i) t h;⟨d,e,r⟩
omit B in
def Á {k:List (List Key)}(h:WR H b k):Rel K aD H (.tup (k.map kN)) (.ref b):=by
 obtain⟨bs,e,p⟩:=h
 have kr:∀ k:Key,Rel K aD H (kD k) (kV k):=fun k=>by cases k with
  |inl i=>exact .int i
  |inr x=>exact .str x
 have ks:∀ l:List Key,zf K aD H (l.map kD) (l.map kV):=fun l=>by
  induction l with
  |nil=>exact .nil
  |cons x l ih=>exact .cons (kr x) ih
 refine .tup e ?_;clear e
 induction p with
 |nil=>exact .nil
 |cons h t ih=>exact .cons (.tup h (ks _)) ih
def zpl {n:Nat}{a:Addr}{Z8:List (List (List Key)×D)}{ep:Nat}(e:aD[n]?=some a):TY K aD H ⟨Z8.map fun kv=>.tup [.tup (kv.1.map kN),kv.2],fun S=>S[n]?=some (.dn Z8 ep)⟩ (BX a Z8.length ep) where
 go:=fun ad1 H1 S i w st ok hi=>by obtain⟨vs,hv,r⟩:=st.cell n _ _ (Tr w.pre e) ok;rw[qa]at hi;exact⟨vs,hv,r.length.symm,hi⟩
 yld:=by rintro ad1 H1 S i d x H' w st ok hd ⟨p,b,k,y,ex,hp,he,hb,hk⟩;obtain⟨vs,hv,r⟩:=st.cell n _ _ (Tr w.pre e) ok;obtain⟨z,hz,rz⟩:=r.gk (hk vs hv);rw[qj,hz]at hd;cases hd;rw[he,ex];exact⟨Wd.laid hp,st.laid hp,.tup zL (.cons ((Á hb).wd (Wd.laid hp)) (.cons (rz.wd (Wd.laid hp)) .nil))⟩
 stop:=fun ad1 H1 S w st ok=>by obtain⟨vs,hv,r⟩:=st.cell n _ _ (Tr w.pre e) ok;exact⟨vs,hv,r.length.symm,by rw[qa]⟩
end
section
variable {X:Cx}{a b c:Expr}{td ti tz tv:DE}{pos apos cpos:Pos}[B:Bs]
def ŭ {es:List Expr}{kk:Nat}{tpos:Pos}(ho:PD X a td)(m:M0 X a "items" apos cpos):Xp X (.Tuple es kk tpos) (.Call (.Attribute a "items" apos) [] [] cpos) (JN td):=by with_unfolding_all exact(Lw (zoA ho m) fun U H R hh=>ZV hh fun aD Z S R0 st rh q k =>
 ⟨aD,Z,S,_,st,rh,q,by
  rintro x S1 v H1 ad1 ⟨n,Z8,ep,ex,hn,q1⟩ w1 st1 r1;subst ex;cases r1 with
  |ref e =>obtain⟨vs,hv,r⟩:=st1.cell n _ _ e hn;exact⟨_,vs,ep,rfl,hv,k _ S1 _ H1 ad1 q1 w1 st1 (by rw[<- r.length];exact zpl e)⟩⟩)
end
structure FH (K:PySem.W.Frag)(n:Str)(st:Stmt)(f:Addr)(fd:FuncData):Prop where
 a:PySem.W.nsIn K mainGlobals n=some (some (.ref f))
 F:Xc K n n st f fd
section
variable {K:PySem.W.Frag}{n:Str}{st:Stmt}{f:Addr}{fd:FuncData}{mg:Str->Option Value}{k:Nat}{h:Heap}{ps:List Str}{sp:Sp}
def zwA {oc:Value}{od an:Option Addr}{osl:Array (Option Value)}{kV doc pm cdv ct:Value}(a:PySem.W.nsIn K mainGlobals n=some (some (.ref f)))
  (l:K.lookup f=some ⟨oc,od,.func (PySem.W.fnOf n n (Xj st) (XC st) (zH st) .none kV doc pm an cdv ct),osl⟩) (c:PySem.W.codeIn K cdv n=true) (k:PySem.W.keepIn K (.ref f)=true) :
  FH K n st f (PySem.W.fnOf n n (Xj st) (XC st) (zH st) .none kV doc pm an cdv ct):=⟨a,uX l c k⟩
end
section
variable {X:Cx}
def Ϙ [B:Bs](i:Nat){x:Str}{pos:Pos}(hN:autoParam (X.N[i]?=some x) zy)(hv:L2.Vis X.env.scope x:=by first | exact Or.inl rfl | exact Or.inr (Or.inl rfl) | exact Or.inr (Or.inr rfl))(hd:autoParam ((x==("__debug__":Str))=false) zQ)(hcd:autoParam ((x==("__classdict__":Str))=false) zQ):PD X (.Name x pos) (X6 i):=by with_unfolding_all exact(Ü (Ģ hN hv hd hcd))
end
section
variable {X:Cx}{a b c:Expr}{ta tb:DE}{td ti tz tv:DE}{pos apos cpos:Pos}[B:Bs]
def cY (hr:zO j X.A)(hi:PD X b ti)(ho:PD X a td)(hm:autoParam (behindInMarks .In a=false) Vy):PD X (.Compare b [.In] [a] pos) (Qv ti td):=by with_unfolding_all exact(zV (rT (oh (Ud hr) hi ho) hm) fun U H Q hh=>ZV hh fun aD Z S Q0 st rh q k =>
  ⟨aD,Z,S,_,st,rh,q,fun y S1 u H1 ad1 q1 w1 st1 r1=>⟨ad1,Z,S1,_,st1,rh.wd w1,q1,by
    rintro x S2 v H2 ad2 ⟨o,g,q2⟩ w2 st2 r2;obtain⟨p,o',rfl,g',h⟩:=Pn st2 r2 (r1.wd w2) g;have e:o'.isSome=o.isSome:=by rcases h with⟨rfl,rfl⟩|⟨d',w,rfl,rfl,_⟩<;>rfl
    exact⟨p,o',rfl,g',by rw[e];exact k _ S2 _ H2 ad2 q2 (w1.trans w2) st2 (.bl _)⟩⟩⟩)
def Ϫ (hr:zO j X.A)(hi:PD X b ti)(ho:PD X a td)(hm:autoParam (behindInMarks .NotIn a=false) Vy):PD X (.Compare b [.NotIn] [a] pos) (Qq ti td):=by with_unfolding_all exact(zV (rT (rH (Ud hr) hi ho) hm) fun U H Q hh=>ZV hh fun aD Z S Q0 st rh q k =>
  ⟨aD,Z,S,_,st,rh,q,fun y S1 u H1 ad1 q1 w1 st1 r1=>⟨ad1,Z,S1,_,st1,rh.wd w1,q1,by
    rintro x S2 v H2 ad2 ⟨o,g,q2⟩ w2 st2 r2;obtain⟨p,o',rfl,g',h⟩:=Pn st2 r2 (r1.wd w2) g;have e:o'.isSome=o.isSome:=by rcases h with⟨rfl,rfl⟩|⟨d',w,rfl,rfl,_⟩<;>rfl
    exact⟨p,o',rfl,g',by rw[e];exact k _ S2 _ H2 ad2 q2 (w1.trans w2) st2 (.bl _)⟩⟩⟩)
def zuL (hr:zO j X.A)(hi:PD X b ti)(ho:PD X a td)(hm:autoParam (behindInMarks .In a=false) Vy):YK X (.Compare b [.In] [a] pos) (dT (Qv ti td)):=by with_unfolding_all exact(Qt (xT (oh (Ud hr) hi ho) hm) fun U H Q hh=>ZV hh fun aD Z S Q0 st rh q k =>
  ⟨aD,Z,S,_,st,rh,q,fun y S1 u H1 ad1 q1 w1 st1 r1=>⟨ad1,Z,S1,_,st1,rh.wd w1,q1,by
    rintro x S2 v H2 ad2 ⟨o,g,b',e',q2⟩ w2 st2 r2;obtain⟨p,o',rfl,g',h⟩:=Pn st2 r2 (r1.wd w2) g;have e:o'.isSome=o.isSome:=by rcases h with⟨rfl,rfl⟩|⟨d',w,rfl,rfl,_⟩<;>rfl
    cases e';exact⟨p,o',rfl,g',_,rfl,by rw[e];exact k _ S2 H2 ad2 q2 (w1.trans w2) st2⟩⟩⟩)
def zmk (hr:zO j X.A)(hi:PD X b ti)(ho:PD X a td)(hm:autoParam (behindInMarks .NotIn a=false) Vy):YK X (.Compare b [.NotIn] [a] pos) (dT (Qq ti td)):=by with_unfolding_all exact(Qt (xT (rH (Ud hr) hi ho) hm) fun U H Q hh=>ZV hh fun aD Z S Q0 st rh q k =>
  ⟨aD,Z,S,_,st,rh,q,fun y S1 u H1 ad1 q1 w1 st1 r1=>⟨ad1,Z,S1,_,st1,rh.wd w1,q1,by
    rintro x S2 v H2 ad2 ⟨o,g,b',e',q2⟩ w2 st2 r2;obtain⟨p,o',rfl,g',h⟩:=Pn st2 r2 (r1.wd w2) g;have e:o'.isSome=o.isSome:=by rcases h with⟨rfl,rfl⟩|⟨d',w,rfl,rfl,_⟩<;>rfl
    cases e';exact⟨p,o',rfl,g',_,rfl,by rw[e];exact k _ S2 H2 ad2 q2 (w1.trans w2) st2⟩⟩⟩)
def dX (hr:zO j X.A)(ho:PD X a td)(hi:PD X b ti)(hz:PD X c tz)(m:M2 X a "get" apos b c cpos:=by exact⟨rfl,rfl,rfl,rfl⟩):PD X (.Call (.Attribute a "get" apos) [b,c] [] cpos) (Nk td ti tz):=by with_unfolding_all exact(zV (ς (Ud hr) ho hi hz m) fun U H Q hh=>ZV hh fun aD Z S Q0 st rh q k =>
 ⟨aD,Z,S,_,st,rh,q,by
  rintro x S1 v H1 ad1 ⟨hd,q1⟩ w1 st1 r1;obtain⟨p,rfl,hp⟩:=zmb st1 r1 hd
  exact⟨p,rfl,hp,ad1,Z,S1,_,st1,rh.wd w1,q1,fun y S2 u H2 ad2 q2 w2 st2 r2=>⟨ad2,Z,S2,_,st2,rh.wd (w1.trans w2),q2,by
   rintro z S3 uz H3 ad3 ⟨o,g,q3⟩ w3 st3 r3;obtain⟨p',o',e,g',h⟩:=Pn st3 (r1.wd (w2.trans w3)) (r2.wd w3) g;cases e;refine⟨o',g',?_⟩;rcases h with⟨rfl,rfl⟩|⟨d',w,rfl,rfl,rw'⟩
   ·exact k _ S3 _ H3 ad3 q3 ((w1.trans w2).trans w3) st3 r3
   ·exact k _ S3 _ H3 ad3 q3 ((w1.trans w2).trans w3) st3 rw'⟩⟩⟩)
def gw {tk:DE}(hk:PD X a tk)(hv:PD X b tv):PD X (.Dict [some a] [b] pos) (uf tk tv):=by with_unfolding_all exact(zV (zp3 (Ö hk hv fX) rfl rfl (by intro h;cases h) (qG rfl)) fun U H Q hh=>ZV hh fun aD Z S Q0 st rh q k p hp =>
 ⟨aD++[p],Z,S++[.dk []],_,st.newC (c:=.dk []) hp ⟨[],zL,.nil⟩,rh.wd (Wd.newL st hp),(show tk Z (S++[.dk []]) _ from q),fun x S1 v H1 ad1 q1 w1 st1 r1=>⟨ad1,Z,S1,_,st1,(rh.wd (Wd.newL st hp)).wd w1,q1,by
  rintro y S2 u H2 ad2 ⟨z,ex,hn,q2⟩ w2 st2 r2;subst ex;cases r1;have w12:=(Wd.newL (o:=.dK []) st hp).trans (w1.trans w2)
  have e:ad2[S.length]?=some p:=by refine Tr (w1.trans w2).pre ?_;rw[<- st.len,qe (qh _),Yp];rfl
  obtain⟨vs,hv',r⟩:=st2.cell S.length _ _ e hn;cases r;have h1:∀ xs,HO.dK []≠.tup xs:=fun _ z=>by cases z
  have h2:∀ q u,HO.dK []≠.frz q u:=fun _ _ z=>by cases z
  have w':=Wd.putC (o':=.dK [((Sum.inr z:Key),u)]) e hv' h1 h2;exact⟨hv',[((Sum.inr z:Key),u)],rfl,qG rfl,k _ _ _ _ _ q2 (w12.trans w') (st2.putC e hv' h1 h2 ⟨_,zL,.cons (r2.wd w') .nil⟩) (.ref e)⟩⟩⟩)
end
section
variable {X:Cx}{a b:Expr}{ta tb:DE}{pos apos cpos:Pos}[B:Bs]
end
section
variable {X:Cx}{a b:Expr}{ta tb:DE}{pos apos cpos:Pos}[B:Bs]
end
section
variable {X:Cx}{a b:Expr}{ta tb:DE}{pos apos cpos:Pos}[B:Bs]
end
section
variable {X:Cx}{tg:Expr}{pos:Pos}{b:Nat}[B:Bs]
end
section
variable {X:Cx}{a:Expr}{pos:Pos}[B:Bs]
end
section
variable {X:Cx}{sc:Scope}{tg iter elt:Expr}{ifs:List Expr}{own free:List Str}{fv:List Nat}{pos:Pos}
variable [B:Bs]
end
end Dp
namespace My
open PySem PySem.Spec PyProof.Rows L2
section
variable {X:Cx}{Z9 pl:List (Addr×Obj)}{U:L2.St}{H H':Hp}{s:Shared}{a:Addr}{o:Obj}
end
end My
namespace Dp
open PySem PySem.Spec PyProof.Rows L2 My
section
variable {K:PySem.W.Frag}{aD:List Addr}{H H':Hp}{S:Z7}[B:Bs]
end
class Fl (α:Type) where
 fl:α
instance flP:Fl Prop:=⟨False⟩
instance flF {α β:Type} [Fl β]:Fl (α->β):=⟨fun _=>Fl.fl⟩
abbrev ZP {α:Type}[Fl α](b:Bool)(t:α):α:=match b with
 |true=>t
 |false=>Fl.fl
abbrev ob {β:Type}[Fl β](o:Option α)(f:α->β):β:=match o with
 |some a=>f a
 |none=>Fl.fl
def Wi {α:Type}[Fl α]{Q:α->Prop}{b:Bool}{t:α}(hf:Q Fl.fl)(h:b=true->Q t):Q (ZP b t):=by
 cases b with
 |true=>exact h rfl
 |false=>exact hf
def Pg {α β:Type}[Fl β]{Q:β->Prop}{o:Option α}{f:α->β}(hf:Q Fl.fl)(h:∀ a,o=some a->Q (f a)):Q (ob o f):=by
 cases o with
 |some a=>exact h a rfl
 |none=>exact hf
inductive Al {α:Type}(P:α->Prop):List α->Prop
 |nil:Al P []
 |cons {x:α} {l:List α} (h:P x) (t:Al P l):Al P (x::l)
def Al.mem {α:Type}{P:α->Prop}{l:List α}(a:Al P l):∀ x∈l,P x:=by
 induction a with
 |nil=>intro x h;cases h
 |cons h t ih =>
  intro x hx;rcases qu.mp hx with rfl|hx
  ·exact h
  ·exact ih x hx
def zX {a b:Bool}(h:(a&&b)=true):a=true/\b=true:=by simpa using h
def zZ {a:Bool}(h:(!a)=true):a=false:=by simpa using h
def sh (x:Str):Nat:=x.cps.toList.foldl (fun a c=>a*977+c) 1
def se (a b:Str):Bool:=(sh a).beq (sh b)&&a==b
def Ol {a b:Str}:se a b=(a==b):=by
 unfold se;cases h:a==b with
 |false=>rw[SQ]
 |true=>rw[eq_of_beq h,Nat.beq_refl];rfl
def Tf {a b:Str}(h:se a b=true):a=b:=eq_of_beq (Ol.symm.trans h)
def Zw {α:Type}(x:Str):List (Str×α)->Option α
 |[]=>none
 |(y,v)::r=>match se x y with
  |true=>some v
  |false=>Zw x r
theorem UJ {α:Type}{x:Str}:∀ {l:List (Str×α)},Zw x l=l.lookup x
 |[]=>rfl
 |(y,v)::r=>by
  unfold Zw;rw[qr,Ol];cases x==y with
  |true=>rfl
  |false=>exact UJ
theorem N6 {α:Type}{x:Str}{v:α}:∀ {l:List (Str×α)},Zw x l=some v->(x,v)∈l
 |(y,u)::r,h=>by
  unfold Zw at h;cases e:se x y with
  |true=>rw[e]at h;cases h;rw[Tf e];exact qN
  |false=>rw[e]at h;exact qi _ (N6 h)
def slt (x:Str):List Str->Option Nat
  |[]=>none
  |y::r=>match se x y with
    |true=>some 0
    |false=>(slt x r).map (· + 1)
theorem Pq {x:Str}:∀ {l:List Str} {i:Nat},slt x l=some i->l[i]?=some x
 |y::r,i,h=>by
  unfold slt at h;cases e:se x y with
  |true=>rw[e]at h;cases h;rw[Tf e];rfl
  |false =>rw[e]at h;obtain⟨j,hj,rfl⟩:=qZ.mp h;exact Pq (l:=r) hj
def has (x:Str):List Str->Bool
 |[]=>false
 |y::r=>se x y||has x r
inductive Bt where
 |len|abs|max|min|sum|any|all|isi|sorted|range|zip|enum|rev|set|tuple|list|int|bool|str
 deriving DecidableEq
def Bt.nm:Bt->Str
 | .len=>"len" | .abs=>"abs" | .max=>"max" | .min=>"min" | .sum=>"sum" | .any=>"any" | .all=>"all" | .isi=>"isinstance" | .sorted=>"sorted" | .range=>"range"
 | .zip=>"zip" | .enum=>"enumerate" | .rev=>"reversed" | .set=>"set" | .tuple=>"tuple" | .list=>"list" | .int=>"int" | .bool=>"bool" | .str=>"str"
def Bt.ty:Bt->Option String
 | .tuple=>some "tuple" | .list=>some "list" | .int=>some "int" | .bool=>some "bool" | .str=>some "str" | _=>none
def Bt.id:Bt->String
 | .len=>"len" | .abs=>"abs" | .max=>"max" | .min=>"min" | .sum=>"sum" | .any=>"any" | .all=>"all" | .isi=>"isinstance" | .sorted=>"sorted" | _=>""
inductive Y9 where
 |fn (k:Nat) (ps:List Str) (sp:ZX)
 |fx (k:Nat) (ps:List Str) (sp:Ys)
 |cl (k:Nat) (sp:ZX)
 |cx (k:Nat) (c:Str) (init:Ys)
 |int (n:Int)
 |str (z:Str)
 |kt (cs:List (List D))
 |blt (b:Bt)
structure Gm where
 g:List (Str×Y9)
 r:List Str:=[]
 t:List (Str×List Str):=[]
 i:List (Str×List (Str×Bool)):=[]
 f:List (Str×Str):=[]
structure RC where
 g:Gm
 nm:List (Str×NameKind)
 fl:List (Str×NameKind)
 N:List Str
 j:Nat
 ex:XR:=xF
 m:Nat:=0
 calm:Bool:=true
 top:Bool:=true
 d:List (Str×Option Bool):=[]
 it:Bool:=false
 dn:Option (Option Bool):=none
 cls:Str:=Str.empty
 xs:List Str:=[]
 lm:Option Str:=none
structure Zy where
 e:RC->Expr->DE
 t:RC->Expr->DT
 s:RC->List Stmt->DS
section
variable (P:Program)(w:World)(K:PySem.W.Frag)(mg:Str->Option Value)(base:Heap)
def tG (j:Nat)(x:Str):Y9->Prop
 |.fn k ps sp=>k<=j->Got P w K mg base k x ps (Xr K sp)
 |.fx k ps sp=>k<=j->xr P w K mg base k x ps (Um K sp)
 |.cl k sp=>k+1<=j->Ig P w K mg base k x (Xr K sp)
 |.cx k c init=>k+1<=j->pL P w K mg base k x c init
 |.int n=>∃ t,mg x=some (.int n t)
 |.str z=>∃ t,mg x=some (.str z t)
 |.kt _=>False
 |.blt b=>x=b.nm/\mg x=none
structure Uw (j:Nat)(G:Gm):Prop where
 g:∀ x e,(x,e)∈G.g->tG P w K mg base j x e
 r:∀ x,x∈G.r->(∀ C,PySem.W.nsIn K mainGlobals x=some (some (.ref C))->Om K C)/\∃ C,PySem.W.nsIn K mainGlobals x=some (some (.ref C))/\mg x=some (.ref C)
 f:∀ c f,(c,f)∈G.f->∀ C,PySem.W.nsIn K mainGlobals c=some (some (.ref C))->VD K C f
end
def bH (X:Cx):Option Str->Prop
 |none=>True
 |some _=>False
structure RC.Ok0 (c:RC)(X:Cx):Prop where
 nm:X.env.scope.names=c.nm
 N:X.N=c.N
 nd:c.N.Nodup
 rm:c.calm=true->zO c.j X.A
 fn:∀ x,Zw x c.fl=some .cell->X.fn x=true
 calm:c.calm=true->X.calm=true
 xe:c.m=0->X.xe=fun _ _=>False
 po:c.m<=1->PassesOwn (model X.prog X.w) X.A X.env X.xe
 kind:X.env.scope.kind=.function
 top:c.top=true->X.stack=X.env::X.outer/\X.env.frame=some X.env.locals
 gm:Uw X.prog X.w X.K X.mg X.base c.j c.g
 lm:bH X c.lm
structure RC.Ok [B:Bs](c:RC)(X:Cx):Prop extends RC.Ok0 c X where
 hX:Ot X c.ex
 hM:c.m=1->Gr X c.ex
variable [B:Bs]
section
variable {X:Cx}{c:RC}
def RC.Ok.kd (ok:c.Ok X){x:Str}:X.env.kindOf x=Zw x c.nm:=by rw[UJ,<- ok.nm];rfl
def X5 {e:Expr}:PD X e Fl.fl:=by
 with_unfolding_all
 exact by rintro Z9 s U H Q I ⟨_,_,_,_,_,_,h,_⟩;exact h.elim
def Ep {e:Expr}:YK X e Fl.fl:=by
 with_unfolding_all
 exact by rintro Z9 s U H Q I ⟨_,_,_,_,_,_,h,_⟩;exact h.elim
def kI {e:Expr}:Us X e Fl.fl:=by
 with_unfolding_all
 exact by rintro wh Z9 s U H Q I ⟨_,_,_,_,_,_,h,_⟩;exact h.elim
def τ {es:List Expr}:PAD X es Fl.fl:=by
 with_unfolding_all
 exact by rintro pos Z9 s U H Q I ⟨_,_,_,_,_,_,h,_⟩;exact h.elim
def Gj {st:Stmt}:Zv X st Fl.fl:=by
 with_unfolding_all
 exact by rintro Z9 s U H D I ⟨_,_,_,_,_,_,h,_⟩;exact h.elim
def Xg {e:Expr}{b:Bool}{t:DE}(h:b=true->PD X e t):PD X e (ZP b t):=Wi X5 h
def Ry {α:Type}{e:Expr}{o:Option α}{f:α->DE}(h:∀ a,o=some a->PD X e (f a)):PD X e (ob o f):=Pg X5 h
def VH {e:Stmt}{b:Bool}{t:DS}(h:b=true->Zv X e t):Zv X e (ZP b t):=Wi Gj h
def Bp {α:Type}{e:Stmt}{o:Option α}{f:α->DS}(h:∀ a,o=some a->Zv X e (f a)):Zv X e (ob o f):=Pg Gj h
def æ {sts:List Stmt}:W3 X sts Fl.fl:=by
 with_unfolding_all
 exact by rintro Z9 s U H D I ⟨_,_,_,_,_,_,h,_⟩;exact h.elim
end
end Dp
namespace Dp
open PySem PySem.Spec PyProof.Rows L2 My
def Nr:Expr->Bool
 |.Slice _ _ _ _=>true
 |_=>false
def Rb:Expr->Bool
 |.Call _ [] [] _=>true
 |_=>false
def vD:Expr->Bool
 |.UnaryOp .Not _ _=>true
 |.BoolOp _ _ _=>true
 |.IfExp _ _ _ _=>true
 |.Compare _ _ _ _=>true
 |_=>false
def isSet:Expr->Bool
 |.Set _ _ _=>true
 |_=>false
def Ea:Expr->Bool
 |.ListComp _ _ _ _=>true
 |.SetComp _ _ _ _=>true
 |.DictComp _ _ _ _ _=>true
 |_=>false
def isTup:Expr->Bool
 |.Tuple _ _ _=>true
 |_=>false
def YD (es:List Expr):Bool:=es.all fun e=>!isStar e
def kids:Expr->List Expr
 |.BoolOp _ vs _=>vs
 |.BinOp a _ b _=>[a,b]
 |.UnaryOp _ a _=>[a]
 |.IfExp a b c _=>[a,b,c]
 |.Compare a _ bs _=>a::bs
 |.Call f as ks _=>f::as++ks.map fun k=>match k with|⟨_,v,_⟩=>v
 |.FormattedValue a _ _ _=>[a]
 |.JoinedStr vs _=>vs
 |.Attribute a _ _=>[a]
 |.Subscript a b _=>[a,b]
 |.List es _=>es
 |.Tuple es _ _=>es
 |.Slice a b c _=>a.toList++b.toList++c.toList
 |.Dict _ vs _=>vs
 |_=>[]
def nms:Nat->Expr->List Str
 |_,.Name x _=>[x]
 |n+1,.ListComp e [⟨tg,it,ifs,_⟩] _ _=>nms n it++((e::ifs).flatMap (nms n)).filter fun y=>!has y (nms n tg)
 |n+1,e=>(kids e).flatMap (nms n)
 |0,_=>[]
def M6:Nat->Expr->Bool
 |_,.IfExp _ _ _ _=>true
 |n+1,.ListComp e [⟨_,it,ifs,_⟩] _ _=>M6 n e||M6 n it||ifs.any (M6 n)
 |n+1,e=>(kids e).any (M6 n)
 |0,_=>false
def JG:Nat->List Stmt->Bool
 |n+1,b=>match b.getLast? with
  |some (.Return _ _)=>false
  |some (.Raise _ _ _)=>false
  |some (.Continue _)=>false
  |some (.Break _)=>false
  |some (.If _ a o _)=>JG n a||JG n o
  |_=>true
 |0,_=>true
def yK:Stmt->Bool
 |.Assign _ (.BoolOp _ _ _) _=>true
 |.Assign _ v _=>M6 30 v
 |.If _ a b _=>JG 30 a&&JG 30 b
 |_=>false
def cop:CmpOp->Option Zu
 |.Eq=>some oEq
 |.NotEq=>some Yv
 |.Lt=>some oLt
 |.LtE=>some oLe
 |.Gt=>some Yg
 |.GtE=>some KD
 |.Is=>some N7
 |.IsNot=>some Wv
 |.In=>some Vh
 |.NotIn=>some Sq
def rB:Operator->Option Zu
 |.Add=>some Zr
 |.Sub=>some Zm
 |.Mult=>some Y5
 |.FloorDiv=>some oDiv
 |.Mod=>some oMod
 |_=>none
def NQ (it:Bool):Bt->Nat->Option DB
 |.len,1=>some Zc
 |.abs,1=>some JQ
 |.max,2=>some Qg
 |.min,2=>some RG
 |.max,1=>some K7
 |.min,1=>some Ly
 |.all,1=>some Vf
 |.list,1=>some Qk
 |.isi,2=>some Xk
 |_,_=>none
def GX:List (Str×Nat×DM):=[
 ("extend",1,Mu),
 ("pop",9,J3),
 ("append",1,Wf)]
def N8 (m:Str)(k:Nat):List (Str×Nat×DM)->Option DM
 |[]=>none
 |(y,j,r)::l=>match Nat.beq k j&&se m y with
  |true=>some r
  |false=>N8 m k l
def gl (c:RC)(x:Str):Bool:=Zw x c.nm==some .globalImplicit&&!se x "__debug__"&&!se x "__name__"
def vis (c:RC)(x:Str):Bool:=(Zw x c.nm==some .local||Zw x c.nm==some .cell||Zw x c.nm==some .free)&&!se x "__debug__"&&!se x "__classdict__"
def W7 (c:RC)(x:Str):Bool:=Zw x c.nm==some .local||(Zw x c.nm==some .cell&&Zw x c.fl==some .cell)
def isD (c:RC):Expr->Bool
 |.Name x _=>(Zw x c.d).isSome
 |_=>false
abbrev RC.quiet (c:RC):RC:={ c with ex:=xF,m:=0 }
def rA (r:Zy)(c:RC):List Expr->DA
 |[]=>zm
 |e::es=>ZP (!isStar e) (zc (r.e c e) (rA r c es))
def K9 (r:Zy)(c:RC)(op:BoolOp):List Expr->DE
 |[]=>Fl.fl
 |[a]=>r.e c a
 |a::b::l=>match op with
  |.And=>QZ (r.e c a) (K9 r c op (b::l))
  |.Or=>tZ (r.e c a) (K9 r c op (b::l))
def Kc (r:Zy)(c:RC)(op:BoolOp):List Expr->DT
 |[]=>Fl.fl
 |[a]=>r.t c a
 |a::b::l=>match op with
  |.And=>Xb (r.t c a) (Kc r c op (b::l))
  |.Or=>Yz (r.t c a) (Kc r c op (b::l))
def Eh (c:RC)(x:Str):DE:=match slt x c.N with
 |some i=>ZP (vis c x) (X6 i)
 |none=>ZP (gl c x) (ob (Zw x c.g.g) fun
  |.int n=>dC (.int n)
  |.str z=>dC (.str z)
  |.blt b=>ob b.ty fun T=>dC (.ty T)
  |_=>Fl.fl)
def Ec (r:Zy)(c:RC)(a:Expr)(op:Operator)(b:Expr):DE:=match a,op,b with
 |.Constant (.int i) _ _,.Pow,.Constant (.int j) _ _=>ZP (decide (0<=j/\j<=1000000/\i.natAbs<2 ^ 64)) (dC (.int (i ^ j.toNat)))
 |a,op,b=>ob (rB op) fun o=>Z6 o (r.e c a) (r.e c b)
def Gg (r:Zy)(c:RC)(a:Expr):List CmpOp->List Expr->DE
 |[op],[b]=>ZP (c.calm&&!behindInMarks op b) (match op,isD c b with
  |.In,true=>Qv (r.e c a) (r.e c b)
  |.NotIn,true=>Qq (r.e c a) (r.e c b)
  |_,_=>ob (cop op) fun o=>Z6 o (r.e c a) (r.e c b))
 |[op,op'],[b,d]=>ZP (c.calm&&!lastMarks [op,op'] [b,d]) (ob (cop op) fun o=>ob (cop op') fun o'=>QG o o' (r.e c a) (r.e c b) (r.e c d))
 |_,_=>Fl.fl
def rO (r:Zy)(c:RC):Option Expr->Option DE
 |none=>none
 |some e=>some (r.e c e)
def wF (r:Zy)(c:RC)(a b:Expr):DE:=ZP (!Nr b&&c.calm) (match isD c a with
  |true=>V2 (r.e c a) (r.e c b)
  |false=>Z6 ZR (r.e c a) (r.e c b))
def FN (r:Zy)(c:RC)(a:Expr):Expr->DE
 |.Slice lo hi none _=>Vm Vr (r.e c a) (rO r c lo) (rO r c hi)
 |b=>wF r c a b
structure Zy.Ok (r:Zy):Prop where
 e:∀ [Bs] {c:RC} {X:Cx},c.Ok X->∀ e,PD X e (r.e c e)
 t:∀ [Bs] {c:RC} {X:Cx},c.Ok X->∀ e,YK X e (r.t c e)
 s:∀ [Bs] {c:RC} {X:Cx},c.Ok X->∀ e,W3 X e (r.s c e)
section
variable {b o e:Expr}{env:Env}
def nF (h:Nr b=false):Ga b:=by cases b<;>first|(intro _ _;rfl)|cases h
def zxr (h:Nr b=false):Kq b:=by cases b<;>first|(intro _ _;rfl)|cases h
def O1 (h:Rb o=false){m:Str}{w:Sem Value}:attributeBase o m env w=w:=by
  cases o with
  |Call f a k p=>cases f<;>cases a<;>cases k<;>first|rfl|cases h
  |_=>rfl
def ŝ (h:vD e=false)(w:Sem Value):isTrue e env w=(do let v <- w;standAt e.pos;holding [v] (truthy v)):=by
  cases e with
  |UnaryOp op a p=>cases op<;>first|rfl|cases h
  |_=>first|rfl|cases h
def xQ (h:isSet e=false)(x:Value):foldedSetIterable e env x=pure x:=by cases e<;>first|rfl|cases h
def pD (h:Ea e=false){t:Option Expr}{l:Nat}:swapsWith e t l env=pure false:=by cases e<;>first|rfl|cases h
def Iv {es:List Expr}{pos:Pos}(h:YD es=true):(backTo pos (starEach es env)).any (·.1)=false:=JD h
end
variable [B:Bs]
section
variable {X:Cx}{c:RC}{r:Zy}
def J1 (ok:c.Ok X){x:Str}(h:gl c x=true):Gl X x/\(x==("__debug__":Str))=false/\x≠"__name__":=by simp only[gl,qv]at h;obtain⟨⟨h1,h2⟩,h3⟩:=h;rw[Ol]at h2 h3;exact⟨ok.kd.trans (eq_of_beq h1),zZ h2,fun e=>by rw[e]at h3;simp at h3⟩
def jO (ok:c.Ok X){x:Str}(h:vis c x=true):L2.Vis X.env.scope x/\(x==("__debug__":Str))=false/\(x==("__classdict__":Str))=false:=by
 simp only[vis,qv]at h;obtain⟨⟨h1,h2⟩,h3⟩:=h;rw[Ol]at h2 h3;refine⟨?_,zZ h2,zZ h3⟩;unfold L2.Vis;rw[ok.nm,<- UJ];simp only[Ql,beq_iff_eq]at h1;rcases h1 with(h|h)|h
 ·exact .inl h
 ·exact .inr (.inl h)
 ·exact .inr (.inr h)
def JV (ok:c.Ok X){x:Str}(h:W7 c x=true):L2.Loc X.env.scope x/\(X.fn x=true\/X.env.scope.names.lookup x=some .local):=by
 unfold L2.Loc;rw[ok.nm,<- UJ];simp only[W7,Ql,qv,beq_iff_eq]at h;rcases h with h|⟨h,h'⟩
 ·exact⟨.inl h,.inr h⟩
 ·exact⟨.inr h,.inl (ok.fn x h')⟩
theorem Wx (hr:r.Ok)(ok:c.Ok X):∀ {es:List Expr},PAD X es (rA r c es)
 |[]=>rK
 |e::es=>Wi (Q:=PAD X (e::es)) τ fun h=>u9 (hr.e ok e) (Wx hr ok) (V0 (zZ h))
theorem Eu (hr:r.Ok)(ok:c.Ok X){op:BoolOp}{pos:Pos}:∀ {es:List Expr},PD X (.BoolOp op es pos) (K9 r c op es)
 |[]=>X5
 |[a]=>Ò (hr.e ok a)
 |a::b::l=>by
  cases op with
  |And=>exact zqd (hr.e ok a) (Eu hr ok)
  |Or=>exact ϳ (hr.e ok a) (Eu hr ok)
theorem HB (hr:r.Ok)(ok:c.Ok X){op:BoolOp}{pos:Pos}:∀ {es:List Expr},Us X (.BoolOp op es pos) (Kc r c op es)
 |[]=>kI
 |[a]=>by
  cases op with
  |And=>exact znW (hr.t ok a)
  |Or=>exact jt (hr.t ok a)
 |a::b::l=>by
  cases op with
  |And=>exact zqX (hr.t ok a) (HB hr ok)
  |Or=>exact Τ (hr.t ok a) (HB hr ok)
def ì {b:Bt}{T:String}(h:b.ty=some T):bootBuiltins b.nm=some (.type T):=by cases b<;>cases h<;>first|exact boot_tuple|exact boot_list|exact boot_int|exact boot_bool|exact boot_str
def ŋ (ok:c.Ok X){x:Str}{pos:Pos}:PD X (.Name x pos) (Eh c x):=by
 unfold Eh;cases hs:slt x c.N with
 |some i=>exact Xg fun h=>let ⟨h1,h2,h3⟩:=jO ok h;Ϙ i (ok.N.symm▸Pq hs) h1 h2 h3
 |none =>
  refine Xg fun h=>Ry fun en he=>?_
  obtain⟨h1,h2,h3⟩:=J1 ok h;have g:=ok.gm.g _ _ (N6 he);cases en with
  |int n=>exact aP h1 g h2
  |str z=>exact zrK h1 g h2
  |blt b =>
   refine Ry fun T hT=>?_
   obtain⟨rfl,g⟩:=g;exact Ϛ h1 g (ì hT) h3 h2
  |_=>exact X5
def zvi {op:Operator}{o:Zu}(h:rB op=some o){pos:Pos}(ha:PD X a ta)(hb:PD X b tb):PD X (.BinOp a op b pos) (Z6 o ta tb):=by
 cases op with
 |Add=>cases h;exact zsM ha hb
 |Sub=>cases h;exact zt3 ha hb
 |Mult=>cases h;exact zt2 ha hb
 |FloorDiv=>cases h;exact zs4 ha hb
 |Mod=>cases h;exact cU ha hb
 |_=>cases h
def zrp (hr:r.Ok)(ok:c.Ok X){a b:Expr}{op:Operator}{pos:Pos}:PD X (.BinOp a op b pos) (Ec r c a op b):=by
 unfold Ec;split
 ·exact Xg fun h=>Ä _ rfl (of_decide_eq_true h)
 ·exact Ry fun o h=>zvi h (hr.e ok _) (hr.e ok _)
theorem Qa {k:Nat}(hr:zO k X.A):∀ {op:CmpOp} {o:Zu},cop op=some o->OC X op o
 |.Eq,_,rfl=>ţ hr
 |.NotEq,_,rfl=>zwO hr
 |.Lt,_,rfl=>ç
 |.LtE,_,rfl=>ġ
 |.Gt,_,rfl=>kY
 |.GtE,_,rfl=>kE
 |.Is,_,rfl=>lY
 |.IsNot,_,rfl=>ñ
 |.In,_,rfl=>zwp hr
 |.NotIn,_,rfl=>kJ hr
abbrev PB (X:Cx)(e:Expr)(t:DE):Prop:=PD X e t/\YK X e (dT t)
def WM {e:Expr}:PB X e Fl.fl:=⟨X5,Ep⟩
theorem sV (hr:r.Ok)(ok:c.Ok X){a:Expr}{pos:Pos}:∀ {ops:List CmpOp} {bs:List Expr},PB X (.Compare a ops bs pos) (Gg r c a ops bs)
  |[op],[b]=>Wi (Q:=PB X _) WM fun h=>by
    obtain⟨hc,hm⟩:=zX h;have rm:=ok.rm hc;have ga:PB X (.Compare a [op] [b] pos) (ob (cop op) fun o=>Z6 o (r.e c a) (r.e c b)):=Pg (Q:=PB X _) WM fun o ho=>⟨zqs (Qa rm ho) (hr.e ok a) (hr.e ok b) (zZ hm),gF (Qa rm ho) (hr.e ok a) (hr.e ok b) (zZ hm)⟩
    cases hd:isD c b with
    |false=>cases op<;>exact ga
    |true =>
      cases op with
      |In=>exact⟨cY rm (hr.e ok a) (hr.e ok b) (zZ hm),zuL rm (hr.e ok a) (hr.e ok b) (zZ hm)⟩
      |NotIn=>exact⟨Ϫ rm (hr.e ok a) (hr.e ok b) (zZ hm),zmk rm (hr.e ok a) (hr.e ok b) (zZ hm)⟩
      |_=>exact ga
  |[op,op'],[b,d]=>Wi (Q:=PB X _) WM fun h=>Pg (Q:=PB X _) WM fun o ho=>Pg (Q:=PB X _) WM fun o' ho'=>by obtain⟨hc,hm⟩:=zX h;have rm:=ok.rm hc;exact⟨znT (Qa rm ho) (Qa rm ho') (hr.e ok a) (hr.e ok b) (hr.e ok d) (zZ hm),zl5 (Qa rm ho) (Qa rm ho') (hr.e ok a) (hr.e ok b) (hr.e ok d) (zZ hm)⟩
  |[],_=>WM
  |[_],[]=>WM
  |[_],_::_::_=>WM
  |[_,_],[]=>WM
  |[_,_],[_]=>WM
  |[_,_],_::_::_::_=>WM
  |_::_::_::_,_=>WM
theorem sE (hr:r.Ok)(ok:c.Ok X):∀ {e:Option Expr},PO X e (Ml X.K (rO r c e))
 |none=>fW
 |some e=>iC (hr.e ok e)
def Ϡ (hr:r.Ok)(ok:c.Ok X){a b:Expr}{pos:Pos}:PD X (.Subscript a b pos) (wF r c a b):=by
 refine Xg fun h=>?_
 obtain⟨h1,h2⟩:=zX h;split
 ·exact zt4 (ok.rm h2) (hr.e ok _) (hr.e ok _) (zxr (zZ h1))
 ·exact Ŕ (hr.e ok _) (hr.e ok _) (nF (zZ h1))
def gG (hr:r.Ok)(ok:c.Ok X){a b:Expr}{pos:Pos}:PD X (.Subscript a b pos) (FN r c a b):=by
 unfold FN;split
 ·exact Ð (hr.e ok a) (sE hr ok) (sE hr ok)
 ·exact Ϡ hr ok
end
end Dp
namespace Dp
open PySem PySem.Spec PyProof.Rows L2 My
def QM (c:RC)(b:Nat):Nat->Expr->DG
 |_,.Name x _=>ob (slt x c.N) fun i=>ZP (Nat.blt i b&&W7 c x) (zR i)
 |n+1,.Tuple es _ _=>ZP (YD es&&c.calm) (YL es.length (es.foldr (fun e t=>zK (QM c b n e) t) YW))
 |_,_=>Fl.fl
def Jb (K:PySem.W.Frag)(c:RC)(b:Nat):Nat->Expr->TG
 |_,.Name x _=>ob (slt x c.N) fun i=>ZP (Nat.blt i b&&W7 c x) (L2.zR i)
 |n+1,.Tuple es _ _=>ZP (YD es&&c.calm) (L2.YL K es.length (es.foldr (fun e t=>L2.zK (Jb K c b n e) t) L2.YW))
 |_,_=>Fl.fl
section
variable {env:Env}
def Ad {e:Expr}{es:List Expr}(h:isStar e=false):assignEach (e::es) env=(false,assign e env)::assignEach es env:=by cases e<;>first|rfl|cases h
theorem Ca:∀ {es:List Expr},YD es=true->(assignEach es env).length=es.length/\(assignEach es env).findIdx? (·.1)=none
 |[],_=>⟨rfl,rfl⟩
 |e::es,h=>by unfold YD at h;rw[Wg,qv]at h;obtain⟨h1,h2⟩:=Ca (es:=es) h.2;rw[Ad (zZ h.1),qT,h1,List.findIdx?_cons,h2];exact⟨rfl,rfl⟩
end
section
variable [B:Bs]{K:PySem.W.Frag}{b:Nat}{c:RC}
def wu:∀ (n:Nat) (e:Expr),Wj K b (QM c b n e) (Jb K c b n e):=by
 have fl:Wj K b (Fl.fl:DG) (Fl.fl:TG):=fun _ _ _ _ _ _ _ _ _ _ _ _ h _=>h
 have nm:∀ x,Wj K b (ob (slt x c.N) fun i=>ZP (Nat.blt i b&&W7 c x) (zR i)) (ob (slt x c.N) fun i=>ZP (Nat.blt i b&&W7 c x) (L2.zR i)):=fun x=>by
  cases slt x c.N with
  |none=>exact fl
  |some i =>
   show Wj K b (ZP (Nat.blt i b&&W7 c x) (zR i)) (ZP (Nat.blt i b&&W7 c x) (L2.zR i));cases h:Nat.blt i b&&W7 c x with
   |false=>exact fl
   |true=>exact zma i (Nat.blt_eq.mp (zX h).1)
 intro n
 induction n with
 |zero =>
  intro e;cases e with
  |Name x p=>exact nm x
  |_=>exact fl
 |succ n ih =>
  intro e;cases e with
  |Name x p=>exact nm x
  |Tuple es k p =>
   unfold QM Jb;cases YD es&&c.calm with
   |false=>exact fl
   |true =>
    refine Ϸ ?_
    induction es with
    |nil=>exact ģ
    |cons e es ih2=>exact Ϗ (ih e) ih2
  |_=>exact fl
def Mr {X:Cx}{e:Expr}:PG X e Fl.fl:=fun _ _ _ _ _ _ _ _ _ h=>h.elim
theorem vA {X:Cx}{f:Expr->TG}:∀ {es:List Expr},YD es=true->(∀ e,PG X e (f e))->Lh X es (es.foldr (fun e t=>L2.zK (f e) t) L2.YW)
 |[],_,_=>Ϧ
 |e::es,h,hf=>by unfold YD at h;rw[Wg,qv]at h;exact Ĝ (hf e) (vA h.2 hf) (by rw[Ad (zZ h.1)];rfl)
def pG {X:Cx}(ok:c.Ok X):∀ (n:Nat) (e:Expr),PG X e (Jb X.K c b n e):=by
 have nm:∀ x p,PG X (.Name x p) (ob (slt x c.N) fun i=>ZP (Nat.blt i b&&W7 c x) (L2.zR i)):=fun x p =>Pg (Q:=PG X _) Mr fun i hi=>Wi (Q:=PG X _) Mr fun h=>by obtain⟨h1,h2⟩:=JV ok (zX h).2;exact zp6 (ok.N.symm▸ok.nd) (ok.N.symm▸Pq hi) h1 h2
 intro n
 induction n with
 |zero =>
  intro e;cases e with
  |Name x p=>exact nm x p
  |_=>exact Mr
 |succ n ih =>
  intro e;cases e with
  |Name x p=>exact nm x p
  |Tuple es k p=>exact Wi (Q:=PG X _) Mr fun h=>zuw (ok.calm (zX h).2) (vA (zX h).1 ih) (Ca (zX h).1).1 (Ca (zX h).1).2
  |_=>exact Mr
def o9 {X:Cx}(ok:c.Ok X)(n:Nat)(e:Expr):Ou X b e (QM c b n e):=⟨_,pG ok n e,wu n e⟩
end
def Mp (c:RC):Expr->Option (Bt×List Expr)
 |.Call (.Name y _) as [] _=>match gl c y&&YD as,Zw y c.g.g with
  |true,some (.blt b)=>some (b,as)
  |_,_=>none
 |_=>none
def Ā:List Expr->Bool
 |[.Constant (.int (.ofNat 0)) _ _]=>true
 |_=>false
def Gb (r:Zy)(c:RC)(a:Expr):Option DE:=match Mp c a with
 |some (.set,[x])=>some (dB Jr (rA r c.quiet [x]))
 |_=>none
def Du (r:Zy)(c:RC)(a:Expr):Option DE:=match Mp c a with
 |_=>none
def DN (r:Zy)(c:RC)(b:Bt)(es:List Expr):DE:=match b,es with
 |.len,[a]=>match isD c a,Gb r c a with
  |true,_=>Fl.fl
  |false,some t=>t
  |false,none=>dB Zc (rA r c [a])
 |.list,[a]=>match Du r c a with
  |some t=>t
  |none=>ob (NQ c.it .list 1) fun r'=>dB r' (rA r c [a])
 |b,es=>ob (NQ c.it b es.length) fun r'=>dB r' (rA r c es)
def Hi (r:Zy)(c:RC)(b:Bt)(es:List Expr):DE:=ZP c.calm (DN r c b es)
def xO (r:Zy)(c:RC)(es:List Expr):Y9->DE
 |.fn k _ sp=>ZP (k.ble c.j&&c.calm) (dCall sp (rA r c es))
 |.fx k _ sp=>ZP (k.ble c.j&&c.calm) (Yk sp c.ex (rA r c es))
 |.cl k sp=>ZP ((k+1).ble c.j&&c.calm) (dCall sp (rA r c es))
 |.cx k n init=>ZP ((k+1).ble c.j&&c.calm) (Yk (Ek n init) c.ex (rA r c es))
 |.blt b=>Hi r c b es
 |_=>Fl.fl
def HD (r:Zy)(c:RC)(o:Expr)(m:Str)(es:List Expr):DE:=ob (N8 m (match Ā es&&se m "pop" with | true=>9 | false=>es.length) GX) fun r'=>dM r' (r.e c o) (rA r c es)
def Ft (r:Zy)(c:RC)(o:Expr)(m:Str)(es:List Expr):DE:=match es with
 | [k]=>match se m "get" with
  |true=>Fl.fl
  |false=>Fl.fl
 | [k,z]=>ZP (se m "get") (Nk (r.e c o) (r.e c k) (r.e c z))
 |_=>Fl.fl
def xV:List (Str×(DE->DE->DE)) :=[]
def tD (r:Zy)(c:RC)(o:Expr)(m:Str)(es:List Expr):DE:=match es with
 |[a]=>match Zw m xV with
  |some t=>t (r.e c o) (r.e c a)
  |none=>HD r c o m [a]
 |es=>HD r c o m es
def yt (r:Zy)(c:RC)(o:Expr)(m:Str)(ap:Pos)(es:List Expr)(cp:Pos):DE:=ZP (!Rb o&&(ap.endLine==cp.line)&&YD es&&Nat.blt es.length 25&&c.calm) (match isD c o with
 |true=>Ft r c o m es
 |false=>tD r c o m es)
variable [B:Bs]
section
variable {X:Cx}{c:RC}{r:Zy}
theorem RC.Ok.quiet (ok:c.Ok X):c.quiet.Ok (Ti X) :=⟨⟨ok.nm,ok.N,ok.nd,ok.rm,ok.fn,ok.calm,fun _=>rfl,fun _=>PassesOwn.never,ok.kind,ok.top,ok.gm,ok.lm⟩,Gw,(fun h=>nomatch h)⟩
def Nt (ok:c.Ok X){b:Bt}{e:Expr}{as:List Expr}(h:Mp c e=some (b,as)):∃ p q,e=.Call (.Name b.nm p) as [] q/\YD as=true/\Gl X b.nm/\X.mg b.nm=none:=by
 unfold Mp at h;split at h
 ·rename_i y p as' q;split at h
  ·rename_i hb he;cases h;obtain⟨rfl,m⟩:=ok.gm.g _ _ (N6 he);exact⟨p,q,rfl,(zX hb).2,(J1 ok (zX hb).1).1,m⟩
  ·cases h
 ·cases h
def zti {it:Bool}{b:Bt}{n:Nat}{r':DB}(hc:X.calm=true)(h:NQ it b n=some r'):(bootBuiltins b.nm=some (.builtin b.id)/\BC X (.builtin b.id) r')\/∃ T,bootBuiltins b.nm=some (.type T)/\BC X (.type T) r':=by
 unfold NQ at h;split at h
 ·cases h;exact .inl ⟨boot_len,zvn⟩
 ·cases h;exact .inl ⟨boot_abs,ŗ⟩
 ·cases h;exact .inl ⟨boot_max,bf hc⟩
 ·cases h;exact .inl ⟨boot_min,Ë hc⟩
 ·cases h;exact .inl ⟨boot_max,bK hc⟩
 ·cases h;exact .inl ⟨boot_min,cR hc⟩
 ·cases h;exact .inl ⟨boot_all,Ĩ hc⟩
 ·cases h;exact .inr ⟨_,boot_list,μ⟩
 ·cases h;exact .inl ⟨boot_isinstance,dw⟩
 ·cases h
theorem xG {m:Str}{k:Nat}{r':DM}:∀ {l:List (Str×Nat×DM)},N8 m k l=some r'->(m,k,r')∈l
 |(y,j,u)::l,h=>by
  unfold N8 at h;cases e:Nat.beq k j&&se m y with
  |true =>rw[e]at h;cases h;rw[Tf (zX e).2,Nat.eq_of_beq_eq_true (zX e).1];exact qN
  |false=>rw[e]at h;exact qi _ (xG h)
def zrj (hr:zO j X.A):Al (fun p=>∃ id,Slot "list" p.1 id/\typeOf (.builtin id)=pure (.type "method_descriptor")/\MD X id p.2.2) GX :=
 .cons ⟨_,PySem.F.slot_list_extend,PySem.F.type_list_extend,ŵ⟩ <|
 .cons ⟨_,PySem.F.slot_list_pop,PySem.F.type_list_pop,zr2⟩ <|
 .cons ⟨_,PySem.F.slot_list_append,PySem.F.type_list_append,zl8⟩ .nil
def dW (hr:zO j X.A){m:Str}{k:Nat}{r':DM}(h:N8 m k GX=some r'):∃ id,Slot "list" m id/\typeOf (.builtin id)=pure (.type "method_descriptor")/\MD X id r':=(zrj hr).mem _ (xG h)
omit B in
def zG {e:Expr}{es:List Expr}(h:YD (e::es)=true):isStar e=false/\YD es=true:=by unfold YD at h ⊢;rw[Wg,qv]at h;exact⟨zZ h.1,h.2⟩
def zsq (hr:r.Ok)(ok:c.Ok X)(hc:c.calm=true)(hg:Gl X "len")(hm:X.mg "len"=none){a:Expr}{t:DE}{p pos:Pos}(h:Gb r c a=some t):PD X (.Call (.Name "len" p) [a] [] pos) t:=by
 unfold Gb at h;split at h
 ·rename_i e1;cases h;obtain⟨p1,q1,rfl,n1,g1,m1⟩:=Nt ok e1;exact pZ (zry (X:=Ti X) hg hm g1 m1 (Wx hr ok.quiet) (ok.calm hc) (Uv (zG n1).1))
 ·cases h
def zvv (hr:r.Ok)(ok:c.Ok X)(hc:c.calm=true)(hg:Gl X "list")(hm:X.mg "list"=none){a:Expr}{t:DE}{p pos:Pos}(h:Du r c a=some t):PD X (.Call (.Name "list" p) [a] [] pos) t:=by
 have two:∀ {x y:Expr},YD [x,y]=true->starEach [x,y] X.env=[(false,eval x X.env),(false,eval y X.env)]/\starEach [y] X.env=[(false,eval y X.env)]:=fun n=>by obtain⟨n1,n2⟩:=zG n;exact⟨Nm n1 (zG n2).1,Uv (zG n2).1⟩
 unfold Du at h;cases h
def χ (hr:r.Ok)(ok:c.Ok X)(hc:c.calm=true){b:Bt}{x:Str}(hx:x=b.nm)(hg:Gl X x)(hm:X.mg x=none)(hn:x≠"__name__")(hd:(x==("__debug__":Str))=false){e:Expr}{es:List Expr}(hs:YD (e::es)=true){p pos:Pos}:PD X (.Call (.Name x p) (e::es) [] pos) (DN r c b (e::es)):=by
 obtain⟨s1,s2⟩:=zG hs;have he:starEach (e::es) X.env=(false,eval e X.env)::starEach es X.env:=V0 s1;have hpl:(backTo pos (starEach es X.env)).any (·.1)=false:=Iv s2
 have gen:∀ r',NQ c.it b (e::es).length=some r'->PD X (.Call (.Name x p) (e::es) [] pos) (dB r' (rA r c (e::es))):=fun r' h=>by
  rcases zti (ok.calm hc) h with⟨h1,h2⟩|⟨T,h1,h2⟩
  ·exact zy1 h2 hm (hx▸h1) (Wx hr ok) hg hn hd he hpl
  ·exact cP h2 hm (hx▸h1) (Wx hr ok) hg hn hd he hpl
 unfold DN;split
 ·rename_i e0;cases e0;split
  ·exact X5
  ·rename_i h;subst hx;exact zsq hr ok hc hg hm h
  ·exact gen _ rfl
 ·rename_i e0;cases e0;split
  ·rename_i h;subst hx;exact zvv hr ok hc hg hm h
  ·exact Ry gen
 ·exact Ry gen
def jg (hr:r.Ok)(ok:c.Ok X){x:Str}(h:gl c x=true){e:Expr}{es:List Expr}(hs:YD (e::es)=true){en:Y9}(he:Zw x c.g.g=some en){p pos:Pos}:PD X (.Call (.Name x p) (e::es) [] pos) (xO r c (e::es) en):=by
 obtain⟨h1,h2,h3⟩:=J1 ok h;obtain⟨s1,s2⟩:=zG hs;have hst:starEach (e::es) X.env=(false,eval e X.env)::starEach es X.env:=V0 s1;have hpl:(backTo pos (starEach es X.env)).any (·.1)=false:=Iv s2;have g:=ok.gm.g _ _ (N6 he);have A:=Wx hr ok (es:=e::es);cases en with
 |fn k ps sp=>exact Xg fun q=>π (g (qG (zX q).1)) (ok.rm (zX q).2) A (qG (zX q).1) h1 h2 hst hpl
 |fx k ps sp=>exact Xg fun q=>bU (g (qG (zX q).1)) ok.hX (ok.rm (zX q).2) A (qG (zX q).1) h1 h2 hst hpl
 |cl k sp=>exact Xg fun q=>zud (g (qG (zX q).1)) (ok.rm (zX q).2) A (qG (zX q).1) h1 h2 hst hpl
 |cx k n init=>exact Xg fun q=>zrL (g (qG (zX q).1)) ok.hX (ok.rm (zX q).2) A (qG (zX q).1) h1 h2 hst hpl
 |int n=>exact X5
 |str z=>exact X5
 |kt cs=>exact X5
 |blt b =>obtain⟨hx,hm⟩:=g;show PD X _ (Hi r c b (e::es));unfold Hi;exact Xg fun q=>χ hr ok q hx h1 hm h3 h2 hs
omit B in
def Ia {env:Env}{pos:Pos}{es:List Expr}(hs:YD es=true)(hl:es.length<25):((backTo pos (starEach es env)).all (fun x=>!x.1)&&(backToKw pos (keywordEach [] env)).all (fun x=>x.1.isSome)
  &&decide (es.length+([]:List Keyword).length+(if([]:List Keyword).isEmpty then 0 else 1)<30))=true:=by
 have h1:(backTo pos (starEach es env)).all (fun x=>!x.1)=true:=by have:=Iv (env:=env) (pos:=pos) hs;rw[List.all_eq_not_any_not];simpa using this
 rw[h1];simp only[Bool.true_and];have:(backToKw pos (keywordEach [] env)).all (fun x=>x.1.isSome)=true:=rfl;rw[this,Bool.true_and];exact decide_eq_true (by show es.length+0+0<30;lia)
def tY (hr:r.Ok)(ok:c.Ok X){o:Expr}{m:Str}{es:List Expr}{ap cp:Pos}(h1:Rb o=false)(h2:(ap.endLine==cp.line)=true)(h3:YD es=true)(h4:es.length<25)(h5:c.calm=true):PD X (.Call (.Attribute o m ap) es [] cp) (HD r c o m es):=by
 refine Ry fun r' h=>?_
 obtain⟨id,sl,ty,md⟩:=dW (ok.rm h5) h;cases es with
 |nil=>exact zwK sl ty md (hr.e ok o) (O1 h1) h2
 |cons e es=>exact aG sl ty md (hr.e ok o) (Wx hr ok) (O1 h1) (Ia h3 h4) h2 (V0 (zG h3).1) (Iv (zG h3).2)
def zu8 (hr:r.Ok)(ok:c.Ok X){o:Expr}{m:Str}{es:List Expr}{ap cp:Pos}(h1:Rb o=false)(h2:(ap.endLine==cp.line)=true)(h3:YD es=true)(h4:es.length<25)(h5:c.calm=true):PD X (.Call (.Attribute o m ap) es [] cp) (Ft r c o m es):=by
 have rm:=ok.rm h5;unfold Ft;split
 ·have s1:=Uv (env:=X.env) (zG h3).1;have M:∀ n,M1 X o n ap _ cp:=fun n=>⟨O1 h1,Ia h3 h4,h2,by rw[s1];rfl⟩
  split
  ·exact X5
  ·exact X5
 ·refine Xg fun e=>?_
  rw[Tf e];have s2:=Nm (env:=X.env) (zG h3).1 (zG (zG h3).2).1;exact dX rm (hr.e ok _) (hr.e ok _) (hr.e ok _) ⟨O1 h1,Ia h3 h4,h2,by rw[s2];rfl⟩
 ·exact X5
def zrk:Al (fun p=>∀ {a b:Expr} {ta tb:DE} {ap cp:Pos},PD X a ta->PD X b tb->Rb a=false->isStar b=false->(ap.endLine==cp.line)=true->PD X (.Call (.Attribute a p.1 ap) [b] [] cp) (p.2 ta tb)) xV :=.nil
def znM (hr:r.Ok)(ok:c.Ok X){o:Expr}{m:Str}{es:List Expr}{ap cp:Pos}:PD X (.Call (.Attribute o m ap) es [] cp) (yt r c o m ap es cp):=by
 refine Xg fun h=>?_
 simp only[qv]at h;obtain⟨⟨⟨⟨h1,h2⟩,h3⟩,h4⟩,h5⟩:=h;have h4:=Nat.blt_eq.mp h4;have h1:=zZ h1;split
 ·exact zu8 hr ok h1 h2 h3 h4 h5
 ·unfold tD;split
  ·split
   ·rename_i e;exact zrk.mem _ (N6 e) (hr.e ok _) (hr.e ok _) h1 (zG h3).1 h2
   ·exact tY hr ok h1 h2 h3 h4 h5
  ·exact tY hr ok h1 h2 h3 h4 h5
end
end Dp
namespace Dp
open PySem PySem.Spec PyProof.Rows L2 My
def Jf (r:Zy)(c:RC)(tg it:Expr):DI:=match Mp c it with
 |some (.range,[a])=>Rk (rA r c [a])
 |some (.range,[a,b])=>Jh (rA r c [a,b])
 |some (.zip,[a,b])=>ZP (isTup tg) (Ke (rA r c [a,b]))
 |some (.enum,[a])=>ZP (isTup tg) (V6 (rA r c [a]))
 |_=>z9 (r.e c it)
def MN (r:Zy)(c:RC)(tg:Expr):Expr->DI
 | .Call (.Attribute o m ap) es ks cp=>match se m "items" with
  |true=>ZP (isTup tg&&!Rb o&&(ap.endLine==cp.line)&&es.isEmpty&&ks.isEmpty) (JN (r.e c o))
  |false=>Jf r c tg (.Call (.Attribute o m ap) es ks cp)
 |it=>Jf r c tg it
def rlb (y:Str×NameKind):Str×NameKind:=match y with
 |(n,.free)=>(n,.cell)
 |y=>y
def RC.inner (c:RC)(sc:Scope)(N:List Str):RC:={ c with nm:=sc.names.map rlb,fl:=sc.names,N:=N,ex:=xF,m:=0,top:=false,lm:=none }
def frees (own N:List Str)(l:List Str):List Str:=l.foldl (fun acc y=>match has y own||!has y N||has y acc with
 |true=>acc
 |false=>acc++[y]) []
def Lk:List Str->Bool
 |[]=>true
 |x::l=>!has x l&&Lk l
def JF (c:RC)(sc:Scope):List Str->List Nat->Bool
 |[],[]=>true
 |x::xs,j::js=>slt x c.N==some j&&Zw x sc.names==some .free&&Zw x c.nm==some .cell&&JF c sc xs js
 |_,_=>false
def yO (c:RC)(sc:Scope):Bool:=sc.kind==.function&&sc.names.all fun y=>match y.2 with
 |.free=>Zw y.1 c.nm==some .cell
 |.cell=>Zw y.1 sc.names==some .cell
 |.local=>Zw y.1 sc.names==some .local
 |_=>true
def Ji (r:Zy)(c ci:RC)(e tg it:Expr)(ifs:List Expr)(sc:Scope):DE :=
 let own:=nms 9 tg;let free:=frees own c.N ((e::ifs).flatMap (nms 30));let fv:=free.filterMap fun x=>slt x c.N
 let c1:=c.inner sc (own++free)
 ZP (yO c sc&&Lk (own++free)&&JF c sc free fv&&!isSet it&&c.calm) (Zg own.length fv (MN r ci tg it) (QM c1 own.length 9 tg) (match ifs with
  |[]=>Yc
  |[t]=>r.t c1 t
  |_=>Fl.fl) (r.e c1 e))
theorem vQ {x:Str}:∀ {l:List Str},has x l=false->x∉l
 |[],_=>qM
 |y::r,h=>by
  unfold has at h;rw[Bool.or_eq_false_iff,Ol]at h;intro m;rcases qu.mp m with e|m
  ·rw[e]at h;simp at h
  ·exact vQ h.2 m
theorem Jw:∀ {l:List Str},Lk l=true->l.Nodup
 |[],_=>List.nodup_nil
 |x::l,h=>V4.mpr ⟨vQ (zZ (zX h).1),Jw (zX h).2⟩
variable [B:Bs]
section
variable {X:Cx}{c ci:RC}{r:Zy}
def G6 {tg e:Expr}:Xp X tg e Fl.fl:=by
 with_unfolding_all
 exact by rintro Z9 s U H R I ⟨_,_,_,_,_,_,h,_⟩;exact h.elim
def yP (hr:r.Ok)(ok:c.Ok X){tg it:Expr}:Xp X tg it (Jf r c tg it):=by
 unfold Jf;split
 ·rename_i e1;obtain⟨p,q,rfl,n1,g1,m1⟩:=Nt ok e1;exact zr6 m1 (Wx hr ok) g1 (Uv (zG n1).1)
 ·rename_i e1;obtain⟨p,q,rfl,n1,g1,m1⟩:=Nt ok e1;exact mW m1 (Wx hr ok) g1 (Nm (zG n1).1 (zG (zG n1).2).1) (Uv (zG (zG n1).2).1)
 ·rename_i e1;obtain⟨p,q,rfl,n1,g1,m1⟩:=Nt ok e1;refine Wi (Q:=Xp X tg _) G6 fun h=>?_
  cases tg with
  |Tuple es k p=>exact zsA g1 m1 (Wx hr ok) (Nm (zG n1).1 (zG (zG n1).2).1) (Uv (zG (zG n1).2).1)
  |_=>cases h
 ·rename_i e1;obtain⟨p,q,rfl,n1,g1,m1⟩:=Nt ok e1;refine Wi (Q:=Xp X tg _) G6 fun h=>?_
  cases tg with
  |Tuple es k p=>exact è g1 m1 (Wx hr ok) (Uv (zG n1).1)
  |_=>cases h
 ·exact zuZ (hr.e ok _)
def G8 (hr:r.Ok)(ok:c.Ok X){tg it:Expr}:Xp X tg it (MN r c tg it):=by
 unfold MN;split
 ·split
  ·rename_i o m ap es ks cp hm;refine Wi (Q:=Xp X tg _) G6 fun h=>?_
   simp only[qv]at h;obtain⟨⟨⟨⟨h1,h2⟩,h3⟩,h4⟩,h5⟩:=h;have e4:=List.isEmpty_iff.mp h4;have e5:=List.isEmpty_iff.mp h5;have e6:=Tf hm;subst e4 e5 e6;cases tg with
   |Tuple es k p=>exact ŭ (hr.e ok _) ⟨O1 (zZ h2),rfl,h3⟩
   |_=>cases h1
  ·exact yP hr ok
 ·exact yP hr ok
theorem pJ (ok:c.Ok X){sc:Scope}:∀ {xs:List Str} {js:List Nat},JF c sc xs js=true->Vs X sc xs js
 |[],[],_=>True.intro
 |x::xs,j::js,h=>by unfold JF at h;simp only[qv]at h;obtain⟨⟨⟨h1,h2⟩,h3⟩,h4⟩:=h;exact⟨ok.N.symm▸Pq (eq_of_beq h1),UJ.symm.trans (eq_of_beq h2),ok.kd.trans (eq_of_beq h3),pJ ok h4⟩
structure Hh (X:Cx)(sc:Scope):Prop where
 kind:sc.kind=.function
 fr:WQ (fun x=>X.env.kindOf x=some .cell) sc.names
 cell:∀ y∈sc.names,y.2=.cell->sc.names.lookup y.1=some .cell
 loc:∀ y∈sc.names,y.2=.local->sc.names.lookup y.1=some .local
omit B in
theorem yV {P:Str->Prop}:∀ {l:List (Str×NameKind)},(∀ y∈l,y.2=.free->P y.1)->WQ P l
 |[],_=>True.intro
 |(n,k)::l,h=>by
  have t:=yV (l:=l) fun y hy=>h y (qi _ hy)
  cases k with
  |free=>exact⟨h _ qN rfl,t⟩
  |_=>exact t
def á (ok:c.Ok X){sc:Scope}(h:yO c sc=true):Hh X sc:=by
 obtain⟨h1,h2⟩:=zX h;have g:=Vk.mp h2;refine⟨eq_of_beq h1,yV fun y hy e=>?_,fun y hy e=>?_,fun y hy e=>?_⟩
 ·have:=g y hy;rw[e]at this;exact ok.kd.trans (eq_of_beq this)
 ·have:=g y hy;rw[e]at this;exact UJ.symm.trans (eq_of_beq this)
 ·have:=g y hy;rw[e]at this;exact UJ.symm.trans (eq_of_beq this)
theorem RC.Ok.inner (ok:c.Ok X)(hxe:X.xe=fun _ _=>False){N:List Str}(hs:Hh X sc)(hN:N.Nodup)(cl:List (Str×Addr))(C:Addr)(s₀:Shared)(H₀:Hp)(ex:List Addr):(c.inner sc N).Ok (My.inner X sc N cl C s₀ H₀ ex) where
 nm:=by
  refine List.map_congr_left fun y hy=>?_
  obtain⟨n,k⟩:=y;cases k with
  |free =>have:=WQ.of hs.fr _ hy rfl;show(if(NameKind.free==NameKind.free&&X.env.scope.kind==.function&&X.env.kindOf n==some .cell)=true then _ else _)=_;rw[if_pos (by rw[ok.kind,this];rfl)];rfl
  |_=>rfl
 N:=rfl
 nd:=hN
 rm:=ok.rm
 fn:=fun x h=>by rw[UJ]at h;show(sc.names.lookup x==some .cell)=true;rw[show sc.names.lookup x=some .cell from h];rfl
 calm:=ok.calm
 xe:=fun _=>hxe
 hX:=Gw
 hM:=fun h=>nomatch h
 po:=fun _=>by show PassesOwn _ _ _ X.xe;rw[hxe];exact PassesOwn.never
 kind:=hs.kind
 top:=fun h=>nomatch h
 gm:=ok.gm
 lm:=trivial
structure LcH (X:Cx)(c ci:RC)(r:Zy)(e tg it:Expr)(ifs:List Expr)(sc:Scope)(own free:List Str)(fv:List Nat)(g:DG)(g':TG)(tc:DT)(te:DE):Prop where
 s:Hh X sc
 fv:Vs X sc free fv
 g:Wj X.K own.length g g'/\∀ cl C s₀ H₀ ex,PG (My.inner X sc (own++free) cl C s₀ H₀ ex) tg g'
 t:∀ cl C s₀ H₀ ex,Ms (My.inner X sc (own++free) cl C s₀ H₀ ex) ifs tc
 e:∀ cl C s₀ H₀ ex,PD (My.inner X sc (own++free) cl C s₀ H₀ ex) e te
 fs:∀ x,foldedSetIterable it X.env x=pure x
 ca:X.calm=true
def yL (hr:r.Ok)(ok:c.Ok X)(hxe:X.xe=fun _ _=>False){Q:DE->Prop}(hf:Q Fl.fl){e tg it:Expr}{ifs:List Expr}{sc:Scope}(h:∀ own free fv g g' tc te,LcH X c ci r e tg it ifs sc own free fv g g' tc te->Q (Zg own.length fv (MN r ci tg it) g tc te)):Q (Ji r c ci e tg it ifs sc):=by
 refine Wi hf fun b=>?_
 simp only[qv]at b;obtain⟨⟨⟨⟨h1,h2⟩,h3⟩,h4⟩,h5⟩:=b;have hs:=á ok h1;have inn:=fun cl C s₀ H₀ ex=>ok.inner hxe hs (Jw h2) cl C s₀ H₀ ex
 refine h _ _ _ _ _ _ _ ⟨hs,pJ ok h3,⟨wu 9 tg,fun cl C s₀ H₀ ex=>pG (inn cl C s₀ H₀ ex) 9 tg⟩,fun cl C s₀ H₀ ex=>?_,fun cl C s₀ H₀ ex=>hr.e (inn cl C s₀ H₀ ex) e,xQ (zZ h4),ok.calm h5⟩;have i:=inn cl C s₀ H₀ ex;split
 ·exact Ο
 ·exact Ć (hr.t i _)
 ·with_unfolding_all
  exact by rintro Z9 s U H Q I ⟨_,_,_,_,_,_,h,_⟩;exact h.elim
def fL (hr:r.Ok)(ok:c.Ok X)(oki:ci.Ok X)(hxe:X.xe=fun _ _=>False){e tg it:Expr}{ifs:List Expr}{sc:Scope}{pos:Pos}:PD X (.ListComp e [⟨tg,it,ifs,0⟩] sc pos) (Ji r c ci e tg it ifs sc) :=yL (Q:=PD X _) hr ok hxe X5 fun _ _ _ _ _ _ _ h=>zxe h.s.fr h.fv (G8 hr oki) h.g h.t h.e h.ca hxe h.s.kind h.s.cell h.s.loc h.fs
end
def Uu (a:Arguments)(ps:List Str):Bool:=match a with
 |⟨[],as,none,[],[],none,[]⟩=>as.map (·.arg)==ps&&Lk ps
 |_=>false
omit B in
theorem Af {α β:Type}{f g:α->Option β}:∀ {l:List α},(∀ x∈l,f x=g x)->l.filterMap f=l.filterMap g
 |[],_=>rfl
 |x::l,h=>by rw[Qi,Qi,h x qN,Af fun y hy=>h y (qi _ hy)]
omit B in
theorem vI:∀ {ps:List Str} {us:List Value},ps.Nodup->us.length=ps.length->ps.filterMap (fun n=>((ps.zip us).lookup n).map (n,·))=ps.zip us
 |[],_,_,_=>rfl
 |p::ps,[],_,h=>by simp at h
 |p::ps,u::us,nd,hl=>by
  obtain⟨n1,n2⟩:=V4.mp nd;have e:List.lookup p ((p,u)::ps.zip us)=some u:=by rw[qr,beq_self_eq_true]
  rw[List.zip_cons_cons,Qi,e];show(p,u)::_=_;refine congrArg _ (Eq.trans ?_ (vI n2 (by simpa using hl)));refine Af fun x hx=>?_
  have:(x==p)=false:=beq_eq_false_iff_ne.mpr fun e=>n1 (e▸hx)
  rw[qr,this]
omit B in
theorem nR:∀ {ps:List Str} {us:List Value} {x:Str},us.length=ps.length->x∈ps->((ps.zip us).lookup x).isSome=true
 |p::ps,u::us,x,hl,hx=>by
  rw[List.zip_cons_cons,qr];cases e:x==p with
  |true=>rfl
  |false =>
   rcases qu.mp hx with rfl|hx
   ·simp at e
   ·exact nR (by simpa using hl) hx
 |p::ps,[],x,hl,hx=>by simp at hl
omit B in
def vM {fd:FuncData}{ps:List Str}{us:List Value}(hp:Uu fd.params ps=true)(hd:fd.defaults=.none)(hl:us.length=ps.length):bindArgs fd ⟨us,[]⟩=pure (ps.zip us):=by
 unfold Uu at hp;split at hp
 ·rename_i as e;obtain⟨h1,h2⟩:=zX hp;have h1:=eq_of_beq h1;unfold bindArgs;rw[e,hd]
  have e1:(ps.filter fun n=>(List.lookup n (ps.zip us)).isNone)=[]:=by
   rw[List.filter_eq_nil_iff];intro x hx;have:=nR hl hx;cases e:(ps.zip us).lookup x with
   |none=>rw[e]at this;cases this
   |some _=>simp
  have e2:=vI (Jw h2) hl;have hs:seqItems? Value.none=pure none:=rfl;have g:∀ n:Nat,(decide (n<n))=false:=fun n=>decide_eq_false (Xq n)
  simp only[hs,h1,QD,List.nil_append,Xn,NK,pure_bind,Option.getD_none,Array.toList_empty,List.drop_nil,List.zip_nil_right,OJ,Nat.sub_zero,Ve,e1,e2,List.isEmpty_nil,RW,U9,if_false,gt_iff_lt,hl,g,VJ]
 ·cases hp
section
variable {X:Cx}{c:RC}{r:Zy}
end
def stE (r:Zy)(c:RC):Expr->DE
 |.Name x _=>Eh c x
 |.Constant (.int i) _ _=>dC (.int i)
 |.Constant (.str x) _ _=>dC (.str x)
 |.Constant (.bool b) _ _=>dC (.bl b)
 |.Constant .none _ _=>dC .non
 |.BinOp a op b _=>Ec r c a op b
 |.UnaryOp .Not a _=>QV (r.e c a)
 |.UnaryOp .USub a _=>Wu Wq (r.e c a)
 |.BoolOp op es _=>K9 r c op es
 |.Compare a ops bs _=>Gg r c a ops bs
 |.IfExp t a b _=>wG (r.t c t) (r.e c a) (r.e c b)
 |.Tuple es _ _=>dTup (rA r c es)
 |.List es _=>Yn (rA r c es)
 |.Dict [] [] _=>match c.dn with
  |some (some true)=>Jl
  |some (some false)=>tV
  |some none=>J4
  |_=>Fl.fl
 |.Dict [some a] [b] _=>match c.dn with
  |some (some false)=>ZP c.calm (J8 (r.e c a) (r.e c b))
  |_=>uf (r.e c a) (r.e c b)
 |.Subscript a b _=>FN r c a b
 |.Attribute a f _=>ZP (!Rb a) (Yl f (r.e c a))
 |.Call (.Name x _) (a::as) [] _=>ZP (gl c x&&YD (a::as)) (ob (Zw x c.g.g) (xO r c (a::as)))
 |.Call (.Attribute o m ap) es [] cp=>yt r c o m ap es cp
 |.ListComp e [⟨tg,it,ifs,0⟩] sc _=>Ji r c.quiet c.quiet e tg it ifs sc
 |_=>Fl.fl
def Gi (r:Zy)(c:RC):Expr->DT
 |.Compare a ops bs _=>dT (Gg r c a ops bs)
 |.UnaryOp .Not a _=>Yu (r.t c a)
 |.BoolOp op es _=>Kc r c op es
 |e=>ZP (!vD e) (dT (r.e c e))
section
variable {X:Cx}{c:RC}{r:Zy}
def dO (hr:r.Ok)(ok:c.Ok X)(e:Expr):PD X e (stE r c e):=by
 unfold stE;split
 ·exact ŋ ok
 ·exact ś
 ·exact wH
 ·exact zv2
 ·exact Ů
 ·exact zrp hr ok
 ·exact jw (hr.e ok _)
 ·exact cO (hr.e ok _)
 ·exact Eu hr ok
 ·exact(sV hr ok).1
 ·exact zta (hr.t ok _) (hr.e ok _) (hr.e ok _)
 ·exact ĩ (Wx hr ok)
 ·exact ζ (Wx hr ok)
 ·split
  ·exact zsf
  ·exact j4
  ·exact ő
  ·exact X5
 ·split
  ·exact Xg fun h=>ű (ok.rm h) (hr.e ok _) (hr.e ok _)
  exact gw (hr.e ok _) (hr.e ok _)
 ·exact gG hr ok
 ·exact Xg fun h=>ϙ (hr.e ok _) (O1 (zZ h))
 ·exact Xg fun h=>Ry fun en he=>jg hr ok (zX h).1 (zX h).2 he
 ·exact znM hr ok
 ·exact pZ (fL hr ok.quiet ok.quiet rfl)
 ·exact X5
def í (hr:r.Ok)(ok:c.Ok X)(e:Expr):YK X e (Gi r c e):=by
 unfold Gi;split
 ·exact(sV hr ok).2
 ·exact İ (hr.t ok _)
 ·exact aW (HB hr ok)
 ·exact Wi (Q:=YK X _) Ep fun h=>zp2 (hr.e ok _) (ŝ (zZ h))
end
end Dp
namespace Dp
open PySem PySem.Spec PyProof.Rows L2 My
def zyH (c:RC)(e:Expr):Bool:=(nms 30 e).any fun y=>match Zw y c.g.g with
 |some (.fx _ _ _)=>true
 |some (.cx _ _ _)=>true
 |_=>false
def swB (c:RC)(y:Str)(py lp:Pos)(sc:Scope):Bool:=Zw y c.nm==some .local&&py.line==lp.line&&!(sc.names.any fun (n,k)=>n==y&&(k==.local||k==.cell))
def ux (r:Zy)(c:RC)(x:Str)(px:Pos)(v:Expr):DS:=ob (slt x c.N) fun i=>match v with
 |.ListComp e [⟨tg,it,ifs,0⟩] sc lp=>match swB c x px lp sc with
  |true=>match c.m==0||!zyH c it with
   |true=>zq (Ji r c.quiet c.quiet e tg it ifs sc) (zR i)
   |false=>Yj
  |false=>ZP (W7 c x&&Zw x c.nm==some .cell) (zq (r.e { c with dn:=Zw x c.d } v) (zR i))
 |v=>ZP (W7 c x&&!Ea v) (zq (r.e { c with dn:=Zw x c.d } v) (zR i))
def mV (c:RC):Expr->Bool
 |.Name x _=>Zw x c.d==some none
 |_=>false
def GC (r:Zy)(c:RC)(v:Expr):Expr->DS
 |.Name x px=>ux r c x px v
 |.Attribute o f _=>ZP (c.g.f.any fun p=>se c.cls p.1&&se f p.2) (VG c.cls f (r.e c o) (r.e c v))
 |.Subscript o i _=>ZP (!Nr i) (match isD c o with
  |true=>ZP c.calm (match mV c o with
   |true=>S8 (r.e c o) (r.e c i) (r.e c v)
   |false=>Oj (r.e c o) (r.e c i) (r.e c v))
  |false=>zq (r.e c v) (Qy (r.e c o) (r.e c i)))
 |.Tuple es k p=>match es,v with
  |es,v=>ZP (!isTup v) (zq (r.e c v) (QM c 1000 9 (.Tuple es k p)))
 |_=>Yj
def FQ (c:RC)(it:Expr):Expr->DG
 |tg=>QM c 1000 9 tg
def rS (r:Zy)(c:RC):Stmt->DS
 |.Pass _=>zF
 |.Break _=>vW
 |.Continue _=>sU
 |.Return (some e) _=>zB (r.e c e)
 |.Expr e _=>ZP (!Ea e) (Za (r.e c e))
 |.If t a b _=>ZM (r.t c t) (r.s c a) (r.s c b)
 |.While t a [] _=>ZP (c.m.ble 1) (Vd (r.t c t) (r.s c a))
 |.For tg it a [] _=>ZP (c.m.ble 1&&c.calm&&!isSet it) (YQ (MN r c tg it) (FQ c it tg) (r.s c a))
 |.AugAssign (.Name x _) .Add e _=>ob (slt x c.N) fun i=>ZP (W7 c x) (Jp i (r.e c e))
 |.Assign [tg] v _=>GC r c v tg
 |.Raise (some (.Call (.Name x _) [.Constant (.str _) _ _] [] _)) none _=>match c.m==1 with
  |true=>ZP (has x c.g.r&&gl c x&&c.calm) (RN c.ex x)
  |false=>Yj
 |_=>Yj
def GR (r:Zy)(c:RC):List Stmt->DS
 |[]=>zF
 |[st]=>rS r c st
 |st::s2::l=>zj (match yK st with
  |true=>sJ (rS r c st)
  |false=>rS r c st) (GR r c (s2::l))
section
variable {env:Env}{v:Expr}
def oK {a b:Expr}{p:Pos}{l:Nat}:swapsWith v (some (.Subscript a b p)) l env=pure false:=by cases v<;>rfl
def zqf {a b:Expr}{p:Pos}{l:Nat}:swapsWithSole [.Subscript a b p] v l env=pure false:=by cases v<;>rfl
def jV {a:Expr}{f:Str}{p:Pos}{l:Nat}:swapsWith v (some (.Attribute a f p)) l env=pure false:=by cases v<;>rfl
def zrP {o i : Expr} {p : Pos} (h : Nr i = false) (v : Value) : assign (.Subscript o i p) env v = (do
      let ov <- holding [v] (eval o env);let iv <- holding [v,ov] (eval i env)
      standAt p
      holding [v,ov,iv] (setItem ov iv v)
      release [v,ov,iv] []):=by cases i<;>first|rfl|cases h
def zvy {es:List Expr}{k:Nat}{p:Pos}{l:Nat}:swapsWithSole [.Tuple es k p] v l env=pure false:=by cases v<;>rfl
def ak (h:isTup v=false){es:List Expr}{k:Nat}{p:Pos}:swappedStores [.Tuple es k p] v env=pure none:=by cases v<;>first|rfl|cases h
def zrl {a b:Expr}{p:Pos}:swappedStores [.Subscript a b p] v env=pure none:=by cases v<;>rfl
def zr4 {x:Str}{p:Pos}{l:Nat}(h:env.kindOf x=some .cell):swapsWith v (some (.Name x p)) l env=pure false:=by
 cases v with
 |ListComp=>show pure (env.blockKind==.function&&env.kindOf x==some .local&&_&&_)=_;rw[h,show((some NameKind.cell==some NameKind.local):Bool)=false from rfl,SQ,VJ,VJ]
 |SetComp=>show pure (env.blockKind==.function&&env.kindOf x==some .local&&_&&_)=_;rw[h,show((some NameKind.cell==some NameKind.local):Bool)=false from rfl,SQ,VJ,VJ]
 |DictComp=>show pure (env.blockKind==.function&&env.kindOf x==some .local&&_&&_)=_;rw[h,show((some NameKind.cell==some NameKind.local):Bool)=false from rfl,SQ,VJ,VJ]
 |_=>rfl
def dz (h:env.scope.kind=.function):env.blockKind=.function:=by unfold Env.blockKind;rw[h];rfl
def zod {x:Str}{p lp:Pos}{l:Nat}{e:Expr}{gs:List Comprehension}{sc:Scope}(hk:env.scope.kind=.function)(h:env.kindOf x=some .local)(hl:(p.line==lp.line)=true)(hn:(sc.names.any fun (n,k)=>n==x&&(k==.local||k==.cell))=false):swapsWith (.ListComp e gs sc lp) (some (.Name x p)) l env=pure true:=by show pure (env.blockKind==.function&&env.kindOf x==some .local&&p.line==lp.line&&!(sc.names.any fun (n,k)=>n==x&&(k==.local||k==.cell)))=_;rw[dz hk,h,hl,hn];rfl
end
variable [B:Bs]
section
variable {X:Cx}{c:RC}{r:Zy}
theorem RC.Ok.dn (ok:c.Ok X){d:Option (Option Bool)}:RC.Ok { c with dn:=d } X:=⟨⟨ok.nm,ok.N,ok.nd,ok.rm,ok.fn,ok.calm,ok.xe,ok.po,ok.kind,ok.top,ok.gm,ok.lm⟩,ok.hX,ok.hM⟩
omit B in
theorem yN {x:Str}:∀ {l:List Str},has x l=true->x∈l
 |y::r,h=>by
  unfold has at h;rcases(Ql _ _).mp h with h|h
  ·rw[Tf h];exact qN
  ·exact qi _ (yN h)
def zro (ok:c.Ok X){it tg:Expr}:Ou X 1000 tg (FQ c it tg):=by unfold FQ;exact o9 ok 9 _
def zr9 (hr:r.Ok)(ok:c.Ok X){x:Str}{px pos:Pos}{v:Expr}:Zv X (.Assign [.Name x px] v pos) (ux r c x px v):=by
 refine Bp fun i hi=>?_
 have hi:=ok.N.symm▸Pq hi;have nd:=ok.N.symm▸ok.nd;split
 ·rename_i e tg it ifs sc lp;split
  ·rename_i hb;obtain⟨h,h3⟩:=zX hb;obtain⟨h1,h2⟩:=zX h;have hl:=eq_of_beq h1;have hsw:=zod (l:=pos.line) (e:=e) (gs:=[⟨tg,it,ifs,0⟩]) ok.kind (ok.kd.trans hl) h2 (zZ h3);have hl':X.env.scope.names.lookup x=some .local:=ok.kd.trans hl;split
   ·exact zo0 (yL (Q:=fun t=>Zv (Ti X) _ (zq t (zR i))) hr ok.quiet rfl Gj fun _ _ _ _ _ _ _ h=>zoS (X:=Ti X) nd h.s.fr h.fv (G8 hr ok.quiet) h.g h.t h.e hi hl' h.ca rfl h.s.kind h.s.cell h.s.loc hsw h.fs)
   ·exact K4
  ·refine VH fun h=>?_
   obtain⟨h1,h2⟩:=zX h;obtain⟨s1,s2⟩:=JV ok h1;exact oX nd (hr.e ok.dn _) hi s1 (zr4 (ok.kd.trans (eq_of_beq h2))) s2
 ·refine VH fun h=>?_
  obtain⟨h1,h2⟩:=zX h;obtain⟨s1,s2⟩:=JV ok h1;exact oX nd (hr.e ok.dn _) hi s1 (pD (zZ h2)) s2
def zp5 (hr:r.Ok)(ok:c.Ok X){tg v:Expr}{pos:Pos}:Zv X (.Assign [tg] v pos) (GC r c v tg):=by
 have nd:=ok.N.symm▸ok.nd;unfold GC;split
 ·exact zr9 hr ok
 ·refine VH fun h=>?_
  obtain⟨⟨a,b⟩,hp,h⟩:=List.any_eq_true.mp h;obtain⟨h1,h2⟩:=zX h;exact Κ (ok.gm.f _ _ (by rw[Tf h1,Tf h2];exact hp)) (hr.e ok _) (hr.e ok _) jV
 ·refine VH fun h=>?_
  split
  ·refine VH fun h2=>?_
   split
   ·exact gC (ok.rm h2) (hr.e ok _) (hr.e ok _) (hr.e ok _) oK
   exact iU (ok.rm h2) (hr.e ok _) (hr.e ok _) (hr.e ok _) oK
  ·exact Az (hr.e ok _) (zqc (hr.e ok _) (hr.e ok _) (zrP (zZ h))) zqf zrl
 ·exact VH fun h=>Az (hr.e ok _) (o9 ok 9 _) zvy (ak (zZ h))
 ·exact K4
def Fz (hr:r.Ok)(ok:c.Ok X)(st:Stmt):Zv X st (rS r c st):=by
 have nd:=ok.N.symm▸ok.nd;unfold rS;split
 ·exact Ļ
 ·exact jK
 ·exact Š
 ·exact bG (hr.e ok _)
 ·exact VH fun h=>jT (hr.e ok _) (pD (zZ h))
 ·exact zus (hr.t ok _) (hr.s ok _) (hr.s ok _)
 ·exact VH fun h=>zlY (hr.t ok _) (hr.s ok _) (ok.po (qG h))
 ·refine VH fun h=>?_
  simp only[qv]at h;obtain⟨⟨h1,h2⟩,h3⟩:=h;exact zqP (G8 hr ok) (zro ok) (hr.s ok _) (ok.po (qG h1)) (ok.calm h2) (xQ (zZ h3))
 ·refine Bp fun i hi=>VH fun h=>?_
  obtain⟨s1,s2⟩:=JV ok h;exact cZ nd (hr.e ok _) (ok.N.symm▸Pq hi) s1 s2
 ·exact zp5 hr ok
 ·split
  ·rename_i hm;refine VH fun h=>?_
   simp only[qv]at h;obtain⟨⟨h1,h2⟩,h3⟩:=h;obtain⟨g1,g2,g3⟩:=J1 ok h2;obtain⟨r1,r2⟩:=ok.gm.r _ (yN h1);exact θ (ok.hM (eq_of_beq hm)) (ok.calm h3) r1 r2 g1 (u9 wH rK (V0 rfl)) (fun _ _ _ h=>h _) g2 (V0 rfl)
  ·exact K4
 ·exact K4
theorem u6 (hr:r.Ok)(ok:c.Ok X):∀ (l:List Stmt),W3 X l (GR r c l)
 |[]=>m7
 |[st]=>lE (Fz hr ok st)
 |st::s2::l=>by
  refine nC ?_ (u6 hr ok (s2::l));cases yK st with
  |true=>exact zw8 (Fz hr ok st)
  |false=>exact Fz hr ok st
end
noncomputable def rd (n:Nat):Zy:=Nat.rec ⟨fun _ _=>Fl.fl,fun _ _=>Fl.fl,fun _ _=>Fl.fl⟩ (fun _ r=>⟨stE r,Gi r,GR r⟩) n
omit B in
theorem M9:∀ n,(rd n).Ok
 |0=>⟨fun _ _=>X5,fun _ _=>Ep,fun _ _=>æ⟩
 |n+1=>⟨fun ok e=>dO (M9 n) ok e,fun ok e=>í (M9 n) ok e,fun ok l=>u6 (M9 n) ok l⟩
end Dp
namespace Dp
open PySem PySem.Spec PyProof.Rows L2 My
def Tj (N ps:List Str)(st:Stmt):Bool:=(zH st).kind==.function&&!(zH st).isCoroutine&&!(zH st).isGenerator&&Lk N&&ps.all (fun x=>Zw x (zH st).names==some .local||Zw x (zH st).names==some .cell)&&(zH st).names.all (fun y=>!(y.2==.free))&&Uu (Xj st) ps
def Ah {M ps:List Str}{st:Stmt}(h:Tj (ps++M) ps st=true):Pk (ps++M) ps (zH st):=by
 simp only[Tj,qv]at h;obtain⟨⟨⟨⟨⟨⟨h1,h2⟩,h3⟩,h4⟩,h5⟩,h6⟩,_⟩:=h;refine⟨eq_of_beq h1,zZ h2,zZ h3,Jw h4,List.take_left,fun x hx=>?_,fun y hy e=>?_⟩
 ·have:=Vk.mp h5 x hx;simpa [UJ]using this
 ·have:=Vk.mp h6 y hy;rw[e]at this;cases this
def Lj (_:PySem.W.Frag)(_:Str->Option Value)(_:Heap)(_:List Str):Prop:=True
def Li (G:Gm)(xs:List Str)(x:Str)(st:Stmt):Y9->Prop
 |.fn (k+1) ps sp=>Uu (Xj st) ps=true/\∀ P w K mg base f fd,Lj K mg base xs->Uw P w K mg base k G->FH K x st f fd->YT P w K mg base Wn (k+1) f fd ps (Xr K sp)
 |.fx (k+1) ps sp=>Uu (Xj st) ps=true/\∀ P w K mg base f fd,Lj K mg base xs->Uw P w K mg base k G->FH K x st f fd->YT P w K mg base (Va P w) (k+1) f fd ps (Um K sp)
 |_=>False
def RowC (G:Gm)(c:Str)(st:Stmt):Y9->Prop
 | .cl (k+1) sp=>∃ ps init,sp=SX c init/\Uu (Xj st) ps=true/\∀ P w K mg base q f fd,Uw P w K mg base k G->Xc K "__init__" q st f fd->YT P w K mg base Wn (k+1) f fd ps (Xr K init)
 | .cx (k+1) c' init=>c'=c/\∃ ps,Uu (Xj st) ps=true/\∀ P w K mg base q f fd,Uw P w K mg base k G->Xc K "__init__" q st f fd->YT P w K mg base (Va P w) (k+1) f fd ps (Um K init)
 |_=>False
def oR (K:PySem.W.Frag)(c:Str)(st:Stmt):Prop:=∃ C f fd,PySem.W.nsIn K mainGlobals c=some (some (.ref C))/\Mk K C f/\Cls K C/\∃ q,Xc K "__init__" q st f fd
abbrev NP (G:Gm)(st:Stmt)(N:List Str)(k m:Nat)(ex:XR)(d:List (Str×Option Bool))(it:Bool)(cls:Str)(lm:Option Str):RC:={ g:=G,nm:=(zH st).names,fl:=(zH st).names,N:=N,j:=k,ex:=ex,m:=m,d:=d,it:=it,cls:=cls,lm:=lm }
section
variable {G:Gm}{xs:List Str}{x qual c:Str}{st:Stmt}{k:Nat}{ps M:List Str}{sp:ZX}{sx:Ys}{b:DS}{bx:XR->DS}{d:List (Str×Option Bool)}{it:Bool}{cls:Str}
def oF {K:PySem.W.Frag}{base:Heap}(body:BodyOk (ps++M).length b sp)(len:∀ ds So Q,sp ds So Q->ds.length=ps.length)(h:(Tj (ps++M) ps st,(rd 60).s (NP G st (ps++M) k 0 xF d it cls none) (XC st))=(true,b))(hG:Uw P w K mg base k G)(F:Xc K x qual st f fd):YT P w K mg base Wn (k+1) f fd ps (Xr K sp):=by
 obtain⟨h1,h2⟩:=V1 h;have S:=Ah h1;refine zqE F S len body fun cdv A outer s H E hr _=>?_
 rw[<- h2];exact(M9 60).s ⟨⟨rfl,rfl,S.nd,fun _=>hr,fun _ _=>rfl,fun _=>rfl,fun _=>rfl,fun _=>PassesOwn.never,S.kind,fun _=>⟨rfl,rfl⟩,hG,by exact trivial⟩,Gw,(fun h=>by cases h)⟩ _
def jE {K:PySem.W.Frag}{base:Heap}(body:Vj (ps++M).length bx sx)(len:∀ ds So Q ex,sx ds So Q ex->ds.length=ps.length)(h:(Tj (ps++M) ps st,fun ex=>(rd 60).s (NP G st (ps++M) k 1 ex d it cls none) (XC st))=(true,bx))(hG:Uw P w K mg base k G)(F:Xc K x qual st f fd):YT P w K mg base (Va P w) (k+1) f fd ps (Um K sx):=by
 obtain⟨h1,h2⟩:=V1 h;have S:=Ah h1;refine zoQ F S len body fun cdv A outer s H E hr _ ex hX hM=>?_
 rw[<- h2];exact(M9 60).s ⟨⟨rfl,rfl,S.nd,fun _=>hr,fun _ _=>rfl,fun _=>rfl,(fun h=>by cases h),fun _=>PassesOwn.leaving,S.kind,fun _=>⟨rfl,rfl⟩,hG,by exact trivial⟩,hX,fun _=>hM⟩ _
def Hq (h:Tj (ps++M) ps st=true):Uu (Xj st) ps=true:=(zX h).2
theorem Li.fn (body:BodyOk (ps++M).length b sp)(d:List (Str×Option Bool))(it:Bool)(h:(Tj (ps++M) ps st,(rd 60).s (NP G st (ps++M) k 0 xF d it Str.empty none) (XC st))=(true,b))
    (len:∀ ds So Q,sp ds So Q->ds.length=ps.length:=by (intros;rename_i h;repeat (first|(obtain⟨e,_⟩:=h;subst e;rfl)|obtain⟨_,h⟩:=h))):Li G xs x st (.fn (k+1) ps sp) :=
  ⟨Hq (V1 h).1,fun P w K mg base f fd _ hG F=>oF body len h hG F.F⟩
theorem Li.fx (body:Vj (ps++M).length bx sx)(d:List (Str×Option Bool))(it:Bool)(h:(Tj (ps++M) ps st,fun ex=>(rd 60).s (NP G st (ps++M) k 1 ex d it Str.empty none) (XC st))=(true,bx))
    (len:∀ ds So Q ex,sx ds So Q ex->ds.length=ps.length:=by (intros;rename_i h;repeat (first|(obtain⟨e,_⟩:=h;subst e;rfl)|obtain⟨_,h⟩:=h))):Li G xs x st (.fx (k+1) ps sx) :=
  ⟨Hq (V1 h).1,fun P w K mg base f fd _ hG F=>jE body len h hG F.F⟩
theorem RowC.cl {init:ZX}(body:BodyOk (ps++M).length b init)(h:(Tj (ps++M) ps st,(rd 60).s (NP G st (ps++M) k 0 xF [] false c none) (XC st))=(true,b))
    (len:∀ ds So Q,init ds So Q->ds.length=ps.length:=by (intros;rename_i h;repeat (first|(obtain⟨e,_⟩:=h;subst e;rfl)|obtain⟨_,h⟩:=h))):RowC G c st (.cl (k+1) (SX c init)) :=
  ⟨ps,init,rfl,Hq (V1 h).1,fun P w K mg base _ f fd hG F=>oF body len h hG F⟩
end
def Jz (K:PySem.W.Frag)(x:Str):Y9->Prop
 |.blt b=>x=b.nm/\PySem.W.nsIn K mainGlobals x=some none
 |.int n=>∃ t,PySem.W.nsIn K mainGlobals x=some (some (.int n t))
 |.str z=>∃ t,PySem.W.nsIn K mainGlobals x=some (some (.str z t))
 |_=>False
def Ax (K:PySem.W.Frag)(x:Str):Prop:=∃ C,PySem.W.nsIn K mainGlobals x=some (some (.ref C))/\Ju K C=true
def rE (K:PySem.W.Frag)(q:Str×Str):Prop:=∃ C,PySem.W.nsIn K mainGlobals q.1=some (some (.ref C))/\PySem.W.findIn K (.ref C) q.2=some none
abbrev zJ (x:Str)(st:Stmt)(e:Y9):Str×Stmt×Y9:=(x,st,e)
abbrev ent (x:Str)(e:Y9):Str×Y9:=(x,e)
structure IW (G:Gm)(xs:List Str)(bs:List (Str×Y9))(F C:List (Str×Stmt×Y9)):Prop where
 g:G.g=bs++(F++C).map fun r=>(r.1,r.2.2)
 f:Al (fun r=>Li G xs r.1 r.2.1 r.2.2) F
 c:Al (fun r=>RowC G r.1 r.2.1 r.2.2) C
structure HX (K:PySem.W.Frag)(G:Gm)(bs:List (Str×Y9))(F C:List (Str×Stmt×Y9)):Prop where
 b:Al (fun q=>Jz K q.1 q.2) bs
 f:Al (fun r=>∃ f fd,FH K r.1 r.2.1 f fd) F
 c:Al (fun r=>oR K r.1 r.2.1) C
 r:Al (Ax K) G.r
 w:Al (rE K) G.f
section
variable {P:Program}{w:World}{K:PySem.W.Frag}{mg:Str->Option Value}{base h:Heap}{G:Gm}{xs:List Str}{bs:List (Str×Y9)}{F C:List (Str×Stmt×Y9)}
def La {st:Stmt}{ps:List Str}(F:Xc K x qual st f fd)(h:Uu (Xj st) ps=true):Binds K fd ps []:=F.binds fun _ _ _ _ _ _ us hl=>vM h rfl hl
def nA (R:IW G xs bs F C)(X:K.In h)(N:h.Ns mainGlobals mg)(T:Lj K mg base xs)(S:HX K G bs F C):∀ j,Uw P w K mg base j G:=by
 have rest:∀ j,(∀ x e,(x,e)∈G.g->tG P w K mg base j x e)->Uw P w K mg base j G:=fun j hg=>{
  g:=hg
  r:=fun x hx=>by obtain⟨D,h1,h2⟩:=S.r.mem x hx;exact⟨fun D' hn=>by rw[h1]at hn;cases hn;exact Om.of h2,D,h1,PySem.W.mg_of X N h1⟩
  f:=fun c f hx D hn=>by obtain⟨D',h1,h2⟩:=S.w.mem _ hx;rw[h1]at hn;cases hn;exact h2 }
 refine fun j=>Nat.strongRecOn j fun j ih=>rest j fun x e he=>?_
 rw[R.g]at he;rcases qC.mp he with hb|hb
 ·have b:=S.b.mem _ hb;cases e with
  |int n=>obtain⟨t,b⟩:=b;exact⟨t,PySem.W.mg_of X N b⟩
  |str z=>obtain⟨t,b⟩:=b;exact⟨t,PySem.W.mg_of X N b⟩
  |blt b'=>exact⟨b.1,PySem.W.mg_none_of X N b.2⟩
  |_=>exact b.elim
 ·obtain⟨⟨y,st,e⟩,hr,e'⟩:=qw.mp hb;cases e';rcases qC.mp hr with hr|hr
  ·have q:=R.f.mem _ hr;obtain⟨f,fd,H⟩:=S.f.mem _ hr;cases e with
   |fn k ps sp=>cases k with
    |zero=>exact q.elim
    |succ k=>exact fun z=>⟨⟨f,fd,q.2 _ _ _ _ _ _ _ T (ih k z) H,La H.F q.1,H.F.kp,PySem.W.mg_of X N H.a⟩⟩
   |fx k ps sp=>cases k with
    |zero=>exact q.elim
    |succ k=>exact fun z=>⟨⟨f,fd,q.2 _ _ _ _ _ _ _ T (ih k z) H,La H.F q.1,H.F.kp,PySem.W.mg_of X N H.a⟩⟩
   |_=>exact q.elim
  ·have q:=R.c.mem _ hr;obtain⟨D,f,fd,h1,h2,h3,_,h4⟩:=S.c.mem _ hr;cases e with
   |cl k sp=>cases k with
    |zero=>exact q.elim
    |succ k =>obtain⟨ps,init,e1,ha,q⟩:=q;have e1:sp=SX y init:=e1;subst e1;exact fun z=>⟨⟨D,f,fd,ps,_,h2,q _ _ _ _ _ _ _ _ (ih k (Ua z)) h4,La h4 ha,PySem.W.mg_of X N h1,bw h3 h1⟩⟩
   |cx k c' sp=>cases k with
    |zero=>exact q.elim
    |succ k =>obtain⟨e1,ps,ha,q⟩:=q;have e1:c'=y:=e1;subst e1;exact fun z=>⟨⟨D,f,fd,ps,h2,q _ _ _ _ _ _ _ _ (ih k (Ua z)) h4,La h4 ha,PySem.W.mg_of X N h1,h3,h1⟩⟩
   |_=>exact q.elim
def ê {L:Nat}{st:Stmt}{sp:ZX}{fa:Addr}{P:Program}{w:World}(R:IW G xs bs F C)(hl:(("law":Str),st,Y9.fn (L+1) ["script"] sp)∈F)(X:K.In h)(N:h.Ns mainGlobals mg)(S:HX K G bs F C)(hfa:mg "law"=some (.ref fa)) :
  ∃ fd:FuncData,(∀ (s:Shared) (u:Value),BindsTo s fd ⟨[u],[]⟩ [("script",u)])/\∀ base:Heap,K.In base->base.Ns mainGlobals mg->Lj K mg base xs->YT P w K mg base Wn (L+1) fa fd ["script"] (Xr K sp):=by
 obtain⟨f,fd,H⟩:=S.f.mem _ hl;have q:=R.f.mem _ hl;have e:=hfa.symm.trans (PySem.W.mg_of X N H.a);cases e;obtain⟨oc,od,kV,doc,pm,an,cdv,ct,osl,rfl,Zw,hcd⟩:=H.F.ex;exact⟨_,fun s u=>.of_eq (vM (ps:=["script"]) q.1 rfl rfl),fun base hb hn T=>q.2 _ _ _ _ _ _ _ T (nA R X N T S L) H⟩
end
section
variable {K:PySem.W.Frag}{x c:Str}{st:Stmt}
def gB {b:Bt}(e:x=b.nm)(h:PySem.W.nsIn K mainGlobals x=some none):Jz K x (.blt b):=⟨e,h⟩
def ϫ {n:Int}{t:Tok}(h:PySem.W.nsIn K mainGlobals x=some (some (.int n t))):Jz K x (.int n):=⟨t,h⟩
def þ {z:Str}{t:Tok}(h:PySem.W.nsIn K mainGlobals x=some (some (.str z t))):Jz K x (.str z):=⟨t,h⟩
def lH {f:Addr}{oc:Value}{od an:Option Addr}{osl:Array (Option Value)}{kV doc pm cdv ct:Value}(a:PySem.W.nsIn K mainGlobals x=some (some (.ref f)))
  (l:K.lookup f=some ⟨oc,od,.func (PySem.W.fnOf x x (Xj st) (XC st) (zH st) .none kV doc pm an cdv ct),osl⟩) (c:PySem.W.codeIn K cdv x=true) (k:PySem.W.keepIn K (.ref f)=true):∃ f fd,FH K x st f fd:=⟨f,_,zwA a l c k⟩
def zsC {q:Str}{C f:Addr}{oc kV dc pm cd ct:Value}{od an:Option Addr}{sl:Array (Option Value)}(a:PySem.W.nsIn K mainGlobals c=some (some (.ref C)))(q2:PySem.W.findIn K (.ref C) "__init__"=some (some (.ref f)))
  (l:K.lookup f=some ⟨oc,od,.func (PySem.W.fnOf "__init__" q (Xj st) (XC st) (zH st) .none kV dc pm an cd ct),sl⟩) (cc:PySem.W.codeIn K cd q=true) (k:PySem.W.keepIn K (.ref f)=true)
  (q1:PySem.W.makesIn K C=true) (q3:PySem.W.isFn K (.ref f)=true) (q4:PySem.W.keepIn K (.ref C)=true) (q5:PySem.W.plainGet K C Str.empty=true) (q6:PySem.W.hasDictIn K C=true) (q7:PySem.W.plainOver K C=true) (q8:PySem.W.findIn K (.ref C) "__setattr__"=some (some (.builtin "object.__setattr__"))):oR K c st :=
 ⟨C,f,_,a,⟨q1,q2,q3,q4⟩,⟨q5,q6,q7,q8⟩,q,uX l cc k⟩
def ztm {C:Addr}(a:PySem.W.nsIn K mainGlobals x=some (some (.ref C)))(h:Ju K C=true):Ax K x:=⟨C,a,h⟩
def Ì {C:Addr}(a:PySem.W.nsIn K mainGlobals x=some (some (.ref C)))(h:PySem.W.findIn K (.ref C) f=some none):rE K (x,f):=⟨C,a,h⟩
end
section
variable {l:PySem.W.OpenLaw}{q:Program}{loose:List Str}{XP:(Str->Option Value)->Heap->Prop}{YP:World->Heap->Prop}{d:DefRec}{K:Params->PySem.W.Frag}{G:Gm}{bs:List (Str×Y9)}{F C:List (Str×Stmt×Y9)}{st:Stmt}
def eE {K:PySem.W.Frag}{mg:Str->Option Value}{base:Heap}:Lj K mg base []:=trivial
def Ý (L:Nat)(hn:l.most=some 63)(hdf:d.params.defaults=[])(hd:d.name="law")(hr:zO (L+1) callerA)(hY:∀ (w:World) (h:Heap),YP w h->(K w.params).In h)
  (R:IW G [] bs F C) (hl:(("law":Str),st,Y9.fn (L+1) ["script"] PK)∈F) (S:∀ w:World,HX (K w.params) G bs F C):PySem.W.WalkO q loose XP YP l.row.toRowW d [] (fun f vs=>PySem.call f vs) :=
 cT (n:=63) (sp:=fun w=>Xr (K w.params) PK) hn (by decide) hdf hr hY (fun w mg fa h KX N hfa=>by obtain⟨fd,hb,hF⟩:=ê R hl KX N (S w) (hd▸hfa);exact⟨fd,hb,fun base b n=>hF base b n eE⟩) fun _ _ _ _ hl hg hO hS=>fC hl hg hO hS
end
end Dp
open PySem Dp
local macro_rules | `(tactic| walk_at"dat")=>`(tactic| first | assumption | exact zM | exact Nv | (refine(zP _ _ _).trans ?_;exact rfl) | exact zE (by assumption))
local macro_rules | `(tactic| walk_at"l")=>`(tactic| first | assumption | exact Lst.rl | exact Lst.at0 | exact Lst.new | (refine Lst.at ?_;exact rfl) | exact Lst.old (by assumption) | exact Lst.here (by assumption) | exact Lst.here (zE (by assumption)))
local macro_rules | `(tactic| walk_at"dseq")=>`(tactic| first | exact Or.inl rfl | (refine Or.inr ?_;walk_at"l"))
local macro_rules | `(tactic| walk_at"d")=>`(tactic| first | assumption | exact My.Bd.mono (by assumption) (by decide) | exact My.Bd.lit (by decide) (by decide) | (refine My.Bd.add ?_ ?_<;>walk_at"d") | (refine My.Bd.sub ?_ ?_<;>walk_at"d") | (refine My.Bd.neg ?_;walk_at"d") | (refine My.Bd.mulH ?_ ?_<;>walk_at"d") | (refine My.Bd.emod (by first | decide | lia) ?_;walk_at"d") | (refine My.Bd.ediv ?_;walk_at"d"))
local macro_rules | `(tactic| walk_at"dmul")=>`(tactic| first | assumption | exact Or.inr (Or.inl (by first | decide | lia)) | exact Or.inr (Or.inr (by first | decide | lia)) | exact Or.inl ⟨by walk_at"d",by walk_at"d"⟩)
local macro_rules | `(tactic| walk_at"ddiv")=>`(tactic| first | assumption | exact⟨by first | decide | lia,by walk_at"d"⟩)
local macro_rules | `(tactic| walk_at"dr1")=>`(tactic| first|(with_reducible refine ĵ fun _ _ _=>?_)|(with_reducible refine zyr fun _ _=>?_)|(with_reducible refine ν fun _ _=>?_)|((with_reducible refine Ĉ (W:=?rvw) ?rvk ?_);(case rvk=>assumption))|((with_reducible refine dR (W:=?rvw) ?rvk ?_);(case rvk=>assumption)))
local macro_rules | `(tactic| walk_at"dr1")=>`(tactic| with_reducible first|refine zsc ?_|refine aO ?_|refine zty ?_)
local macro_rules | `(tactic| walk_at"dr1")=>`(tactic| with_reducible first|refine Į ?_|refine Ź ?_|refine zuj ?_|refine zwB ?_|refine jG ?_|refine zsE ?_|refine Ž ?_|refine Ĭ ?_|refine zxv ?_|refine iz ?_|refine ħ ?_|refine zvd ?_)
local macro_rules | `(tactic| walk_at"dr1")=>`(tactic| first|((with_reducible refine zw2 (xs:=?rvx) ?rvl ?_);(case rvl=>walk_at"l")))
local macro_rules | `(tactic| walk_at"dr1")=>`(tactic| with_reducible first|refine Ck ?_|refine GP ?_|refine kO ?_|refine zwc ?_|refine zvL ?_|refine rR ?_|refine Ϣ ?_|refine mH ?_|refine fU ?_)
local macro_rules | `(tactic| walk_at"dr1")=>`(tactic| first|((with_reducible refine aA (xs:=?rvx) ?rvl ?_);(case rvl=>walk_at"l"))|((with_reducible refine zwR (a:=?rvv) ?rvk ?_);(case rvk=>exact rfl))|((with_reducible refine Jo (xs:=?rvx) ?rvk ?rvl ?_);(case rvk=>walk_at"dat");(case rvl=>first | exact Nat.lt_of_ble_eq_true rfl | assumption | (simp only[big,qf,qT,OJ,qa]at *;lia))))
local macro_rules | `(tactic| walk_at"dr1")=>`(tactic| with_reducible first|refine zub ?_|refine zug ?_|refine ztx ?_|refine lJ ?_|refine jR ?_|refine zyY ?_|refine zv7 ?_|refine zxH ?_|refine ϭ ?_|refine zuH ?_)
local macro_rules | `(tactic| walk_at"dr1")=>`(tactic| first|((with_reducible refine Ė ?rvk ?_);(case rvk=>exact rfl)))
local macro_rules | `(tactic| walk_at"dr1")=>`(tactic| with_reducible first|refine ztN ?_|refine zqF ?_)
local macro_rules | `(tactic| walk_at"dr1")=>`(tactic| first|((with_reducible refine cG (xs:=?rvx) ?rvl ?_);(case rvl=>walk_at"dat")))
local macro_rules | `(tactic| walk_at"dr1")=>`(tactic| with_reducible first|refine aU ?_|refine jX ?_|refine Β ?_|refine zib ?_)
local macro_rules | `(tactic| walk_at"dr1")=>`(tactic| first|((with_reducible refine zuk (xs:=?rvx) ?rvl ?_);(case rvl=>walk_at"l"))|((with_reducible refine zr1 (xs:=?rvx) ?rvl ?_);(case rvl=>walk_at"l")))
local macro_rules | `(tactic| walk_at"dr1")=>`(tactic| with_reducible first|refine zuI ?_|refine đ ?_|refine ē ?_)
local macro_rules | `(tactic| walk_at"dr1")=>`(tactic| with_reducible first|refine Fb ?_|refine Ã ?_|refine gR ?_|refine Ł ?_|refine cJ ?_|refine Wo ?_|refine zwQ ?_|refine Dh ?_|refine Ê ?_|refine wW ?_|refine Vo ?_|refine gZ ?_)
local macro_rules | `(tactic| walk_at"dr1")=>`(tactic| first|((with_reducible refine Ij (ys:=?rvx) ?rvk ?_);(case rvk=>walk_at"dat")))
local macro_rules | `(tactic| walk_at"dr1")=>`(tactic| with_reducible first|refine bV ?_|refine aL ?_|refine Ņ ?_|refine jc ?_)
local macro_rules | `(tactic| walk_at"dr1")=>`(tactic| first|((with_reducible refine zvH ?rvk ?_);(case rvk=>exact rfl)))
local macro_rules | `(tactic| walk_at"dr1")=>`(tactic| with_reducible first|refine Ù ?_)
local macro_rules | `(tactic| walk_at"dr1")=>`(tactic| with_reducible first|refine r_t ?_|refine lC ?_|refine Ρ ?_|refine zwP ?_|refine zyD ?_|refine zvQ ?_|refine jf ?_|refine jD ?_|refine lD ?_|refine fM ?_|refine Cm ?_|refine wB ?_)
local macro_rules | `(tactic| walk_at"dr1")=>`(tactic| first|((with_reducible refine Ϥ ?rvk ?_);(case rvk=>walk_at"dmul"))|((with_reducible refine ϥ ?rvk ?_);(case rvk=>walk_at"ddiv"))|((with_reducible refine zwZ ?rvk ?_);(case rvk=>first | assumption | decide | lia))|((with_reducible refine zwy (d:=?rvv) ?rvk ?_);(case rvk=>first | assumption | exact rfl))|((with_reducible refine lB (xs:=?rvx) (d:=?rvv) ?rvl ?rvk ?_);(case rvl=>walk_at"l");(case rvk=>first | assumption | exact rfl)))
local macro_rules | `(tactic| walk_at"dr1")=>`(tactic| with_reducible first|refine r_c ?_|refine IK ?_|refine jA ?_|refine jZ ?_|refine zxh ?_|refine Χ ?_|refine zyJ ?_|refine jl ?_|refine ă ?_|refine zxI ?_|refine iD ?_|refine aX ?_)
local macro_rules | `(tactic| walk_at"dr1")=>`(tactic| first|((with_reducible refine Ra (d:=?rvv) ?rvk ?_);(case rvk=>exact rfl)))
local macro_rules | `(tactic| walk_at"dr1")=>`(tactic| with_reducible first|refine jU ?_|refine nD ?_)
local macro_rules | `(tactic| walk_at"dr1")=>`(tactic| first|((with_reducible refine zqU (g:=?rv1) (b:=?rv2) (f:=?rv3) (h:=?rv4) (a:=?rv5) (l:=?rv6) (d:=?rv7) ?rvk ?_);(case rvk=>walk_at"dat"))|((with_reducible refine Ĵ (g:=?rv1) (b:=?rv2) (f:=?rv3) (h:=?rv4) (a:=?rv5) (l:=?rv6) (d:=?rv7) ?rvk ?_);(case rvk=>walk_at"dat")))
local macro_rules | `(tactic| walk_at"dr1")=>`(tactic| first|((with_reducible refine cQ (l:=?rvx) ?rvk ?_);(case rvk=>walk_at"dat"))|((with_reducible refine zox (g:=?rv1) (b:=?rv2) (f:=?rv3) (h:=?rv4) (a:=?rv5) (l:=?rv6) (d:=?rv7) ?rvk ?_);(case rvk=>walk_at"dat"))|((with_reducible refine ϸ (g:=?rv1) (b:=?rv2) (f:=?rv3) (h:=?rv4) (a:=?rv5) (l:=?rv6) (d:=?rv7) ?rvk ?_);(case rvk=>walk_at"dat"))|((with_reducible refine lQ (g:=?rv1) (b:=?rv2) (f:=?rv3) (h:=?rv4) (a:=?rv5) (l:=?rv6) (d:=?rv7) ?rvk ?_);(case rvk=>walk_at"dat"))|((with_reducible refine jk (g:=?rv1) (b:=?rv2) (f:=?rv3) (h:=?rv4) (a:=?rv5) (l:=?rv6) (d:=?rv7) ?rvk ?_);(case rvk=>walk_at"dat")))
local macro_rules | `(tactic| walk_at"dr1")=>`(tactic| with_reducible first|refine uF ?_|refine Λ ?_|refine î ?_|refine sG ?_|refine cX ?_|refine zxb ?_)
local macro_rules | `(tactic| walk_at"dr1")=>`(tactic| with_reducible first|refine Υ ?_|refine k_drop ?_|refine zyp ?_|refine Ν ?_|refine zyL ?_|refine k_m ?_|refine m9 ?_|refine ā ?_|refine zyS ?_|refine Ę ?_|refine EY ?_|refine ċ ?_)
local macro_rules | `(tactic| walk_at"dr1")=>`(tactic| with_reducible first|refine zx1 ?_|refine Í ?_|refine zyz ?_|refine zyX ?_|refine Ķ ?_|refine jL ?_|refine bD ?_|refine bA ?_|refine aM ?_|refine û ?_|refine eU ?_|refine fj ?_)
local macro_rules | `(tactic| walk_at"g")=>`(tactic| repeat walk_at"dr1")
local macro_rules | `(tactic| walk_at"h")=>`(tactic| simp only[Tp,qO,QD,qT,OJ,Nat.reduceSub,Nat.reduceAdd,List.replicate,Mi,List.nil_append,List.set_cons_zero,K5])
local macro_rules | `(tactic| walk_at"j")=>`(tactic| simp only[List.set_cons_zero,K5])
namespace Dp
open PySem Rm My
def KR:ZX:=fun ds S Q=>∃ (ns:List Int) (k:Int),ds=[.rl (ns.map D.int),.int k]/\0<=k/\∀ v,Q (.int v) S
abbrev Y0:DG:=zR 0
abbrev Ww:DG:=zR 1
abbrev YB:DG:=zR 2
abbrev YS:DG:=zR 3
abbrev YH:DG:=zR 4
abbrev Yx:DG:=zR 5
abbrev VN:DG:=zR 6
abbrev Q6:DG:=zR 7
abbrev Jy:DG:=zR 8
abbrev wJ:DG:=zR 9
abbrev d7:DG:=zR 10
abbrev zyP:DG:=zR 11
abbrev zy0:DG:=zR 12
abbrev Z4:DE:=X6 0
abbrev Z0:DE:=X6 1
abbrev ZW:DE:=X6 2
abbrev ZS:DE:=X6 3
abbrev ZJ:DE:=X6 4
abbrev Zf:DE:=X6 5
abbrev Yo:DE:=X6 6
abbrev Wa:DE:=X6 7
abbrev Rg:DE:=X6 8
abbrev Ip:DE:=X6 9
abbrev U4:DE:=X6 10
abbrev pQ:DE:=X6 11
abbrev Ñ:DE:=X6 12
abbrev ZF:DE:=dC (.int 0)
abbrev ZK:DE:=dC (.int 1)
abbrev Wc:DE:=dC (.int 2)
abbrev JK:DE:=dC (.int 3)
abbrev Uj:DE:=dC (.int 4)
abbrev TX:DE:=dC (.int 5)
abbrev Qn:DE:=dC (.int 6)
abbrev Dw:DE:=dC (.int 7)
abbrev Jx:DE:=dC (.int 8)
abbrev uV:DE:=dC (.int 9)
abbrev Xd:DE:=Z6 ZR Z4 ZF
abbrev Wh:DE:=Z6 ZR Z4 ZK
abbrev M4:DE:=Z6 ZR Z4 Wc
abbrev Oc:DE:=Z6 ZR Z4 JK
abbrev Fv:DE:=Z6 ZR Z4 Uj
abbrev Bg:DE:=Z6 ZR Z4 TX
abbrev bY:DE:=Z6 ZR Z4 Qn
abbrev zvI:DE:=Z6 ZR Z4 Dw
abbrev WD:DE:=Z6 ZR Z0 ZF
abbrev T9:DE:=Z6 ZR Z0 ZK
abbrev QX:DE:=Z6 ZR ZW ZF
abbrev Tg:DE:=Z6 ZR ZW ZK
abbrev fP:DE:=Z6 ZR ZW Wc
abbrev sY:DE:=Z6 ZR ZS ZF
abbrev zvO:DE:=Z6 ZR ZS ZK
abbrev Ĕ:DE:=Z6 ZR Zf ZF
abbrev CN:DE:=Z6 ZR Zf ZK
abbrev Zd:DA:=zc Z4 zm
abbrev YJ:DA:=zc Z0 zm
abbrev Ym:DA:=zc ZW zm
abbrev Yw:DA:=zc ZS zm
abbrev Kr:DA:=zc ZJ zm
abbrev Qc:DA:=zc Zf zm
abbrev QK:DA:=zc Yo zm
abbrev KY:DA:=zc Wa zm
abbrev ua8:DA:=zc Rg zm
abbrev u5:DS :=
    (zj (ZM (dT (Z6 oLt Z0 (dB Zc Zd))) (zB (Z6 ZR Z4 Z0)) zF)
 (zB ZF))
def ϋ:BodyOk 2 u5 KR:=by
 rintro ds S Q ⟨ns,k,rfl,h0,q⟩;unfold u5;walk_at"g";rw[qa];refine Zo (fun g=>?_) (fun g=>?_)
 ·obtain⟨v,_,av⟩:=pP (zs:=ns) h0 (by lia);walk_at"g";exact fin_same (q _)
 ·walk_at"g";exact fin_same (q _)
def Nz:ZX:=fun ds S Q=>∃ (c k:Int),ds=[.int c,.int k]/\0<=k/\k<3000/\∀ v,0<=v->v<1000000000000000000000000000000000000000000000000000000000033->Q (.int v) S
abbrev BK:DS :=
    (zj (zq (Z6 Y5 (Z6 Zr (Z6 oMod Z4 (dC (.int 1000000000000000000000000000000000000000000000000000000000000))) JK) (Z6 Zr (dC (.int 16180339887498948482045868343656381177203)) (Z6 Y5 (Z6 Y5 Wc Z0) Z0))) YB)
 (zj (zq (Z6 Zr ZW (Z6 Y5 (dC (.int 6151)) Z0)) YB)
 (zB (Z6 oMod (Z6 Y5 ZW ZW) (Z6 Zr (dC (.int 1000000000000000000000000000000000000000000000000000000000000)) (dC (.int 33)))))))
def zjx:BodyOk 3 BK Nz:=by
 rintro ds S Q ⟨c,k,rfl,h0,hk,q⟩;unfold BK
 have b1:My.Bd 300 (c%1000000000000000000000000000000000000000000000000000000000000+3):=by have h1:=RX c (b:=1000000000000000000000000000000000000000000000000000000000000) (by decide);have h2:=Rv c (b:=1000000000000000000000000000000000000000000000000000000000000) (by decide);show _<2 ^ 300;lia
 have hk2:0<=2*k*k/\2*k*k<=18000000:=⟨Int.mul_nonneg (by lia) h0,Int.le_trans (Int.mul_le_mul (show 2*k<=6000 by lia) (show k<=3000 by lia) h0 (by decide)) (by decide)⟩
 have b2:My.Bd 300 (16180339887498948482045868343656381177203+2*k*k):=by show _<2 ^ 300;lia
 have cm1:Y4 (c%1000000000000000000000000000000000000000000000000000000000000+3) (16180339887498948482045868343656381177203+2*k*k):=.inl ⟨b1.mono (by decide),b2.mono (by decide)⟩
 have b3:My.Bd 700 ((c%1000000000000000000000000000000000000000000000000000000000000+3)*(16180339887498948482045868343656381177203+2*k*k)+6151*k):=(My.Bd.add (n:=600) (My.Bd.mul b1 b2) (by show _<2 ^ 600;lia)).mono (by decide)
 have cm2:Y4 ((c%1000000000000000000000000000000000000000000000000000000000000+3)*(16180339887498948482045868343656381177203+2*k*k)+6151*k) ((c%1000000000000000000000000000000000000000000000000000000000000+3)*(16180339887498948482045868343656381177203+2*k*k)+6151*k):=.inl ⟨b3.mono (by decide),b3.mono (by decide)⟩;walk_at"g";exact fin_same (q _ (RX _ (by decide)) (Rv _ (by decide)))
def HS:ZX:=fun ds S Q=>∃ (x:D) (ns:List Int) (most:Int),ds=[x,.int most]/\Lst S x (ns.map D.int)/\ns.length<=63/\1<=most/\most<=60/\∀ zs:List Int,(zs.length:Int)=most->(∀ z∈zs,0<=z/\z<1000000000000000000000000000000000000000000000000000000000033)->New Q S (zs.map D.int)
abbrev uZ:DS :=
    (zj (zq (Zg 1 [] (Rk YJ) Y0 Yc (dCall Nz (zc Z4 (zc (dC (.int 40)) zm)))) YB)
 (zj (YQ (V6 Zd) (YL 2 (zK YS (zK YH YW))) (zj (zq (Z6 oMod ZS Z0) Yx)
 (zq (dCall Nz (zc (Z6 Zr (Z6 ZR ZW Zf) (Z6 oMod ZJ (dC (.int 1000000000000000000000000000000000000000000000000000000000000)))) (zc (Z6 oMod ZS (dC (.int 37))) zm))) (Qy ZW Zf))))
 (zB ZW)))
def zje:BodyOk 6 uZ HS:=by
 rintro ds S Q ⟨x,ns,most,rfl,hx,hl,h1,h2,q⟩;unfold uZ;walk_at"g";refine⟨_,rfl,by lia,by lia,?_⟩;refine⟨by rw[Im];unfold big;lia,fun i ys S'=>S'=S/\∃ zs:List Int,ys=zs.map D.int/\zs.length=i/\∀ z∈zs,0<=z/\z<1000000000000000000000000000000000000000000000000000000000033,⟨rfl,[],rfl,rfl,by simp⟩,fun _ _ _ _=>True.intro,?_,?_⟩
 ·rintro i d ys S' hd ⟨rfl,zs,rfl,hz,hb⟩;obtain⟨hi,rfl⟩:=Em hd;walk_at"g";refine⟨_,_,rfl,by decide,by decide,fun v v0 v1=>?_⟩;refine⟨rfl,zs++[v],by rw[qD];rfl,by simp[hz],fun z hz'=>?_⟩;rcases qC.mp hz' with h|h
  ·exact hb z h
  ·have:z=v:=by simpa using h
   subst this;exact⟨v0,v1⟩
 rintro ys S' ⟨rfl,zs,rfl,hz,hb⟩;rw[Im]at hz;have hz:(zs.length:Int)=most:=by lia
 walk_at"g";refine Pr (xs:=ns.map D.int) hx.old ?_
 refine Yi (fun i Z S''=>∃ (zs:List Int) (w1 w2 w3:Option D),Z=[some x,some (.int most),some (.ref S'.length),w1,w2,w3]/\S''=S'++[.lst (zs.map D.int)]/\(zs.length:Int)=most/\∀ z∈zs,0<=z/\z<1000000000000000000000000000000000000000000000000000000000033)
  ⟨zs,_,_,_,rfl,rfl,hz,hb⟩ (by rintro i Z S'' ⟨zs,w1,w2,w3,_,e,_⟩;exact e▸hx.old) ?_ ?_
 ·rintro i d Z S'' hd ⟨zs,w1,w2,w3,rfl,rfl,hz,hb⟩;obtain⟨y,hy,rfl⟩:=R8 hd;obtain⟨n,_,rfl⟩:=PN hy;have m1:=RX ((0+i:Nat):Int) (show most≠0 by lia);have m2:=Rv ((0+i:Nat):Int) (show 0<most by lia);obtain⟨u,hu,au⟩:=pP (zs:=zs) (k:=((0+i:Nat):Int)%most) m1 (by lia);have iu:=zum (zs:=zs) (k:=((0+i:Nat):Int)%most) m1 (by lia);have k1:=RX ((0+i:Nat):Int) (show(37:Int)≠0 by decide);have k2:=Rv ((0+i:Nat):Int) (show(0:Int)<37 by decide);walk_at"g";refine⟨_,_,rfl,k1,by lia,fun v v0 v1=>?_⟩;walk_at"g";refine zwd zM iu ?_;walk_at"g";refine⟨zs.set _ v,_,_,_,rfl,by rw[List.map_set],by simpa using hz,fun z hz'=>?_⟩;rcases bQ hz' with h|h
  ·exact hb z h
  ·subst h;exact⟨v0,v1⟩
 ·rintro Z S'' ⟨zs,w1,w2,w3,rfl,rfl,hz,hb⟩;walk_at"g";exact fin_same (q zs hz hb)
def Vg (j:Int):Str:=if j=0 then "" else if j=1 then "b" else if j=2 then "xx" else "light"
def Px (k:Nat)(j:Int):Str:=(⟨#[97+k]⟩:Str)++Vg j
def aY (j:Int)(h0:0<=j)(h1:j<4):Zb [.str "",.str "b",.str "xx",.str "light"] j=some (.str (Vg j)):=by
  have:j=0\/j=1\/j=2\/j=3:=by lia
  rcases this with rfl|rfl|rfl|rfl<;>rfl
def vY (j:Int):(Vg j).length<=5/\∀ c∈(Vg j).cps.toList,c∈abc:=by
  unfold Vg;split
  . decide +kernel
  . split
    . decide +kernel
    . split<;>decide +kernel
def Ar (k:Nat)(j:Int):(Px k j).cps.toList=(97+k)::(Vg j).cps.toList:=by show((#[97+k]:Array Nat)++(Vg j).cps).toList=_;simp
def ã {k:Nat}{j:Int}(hk:k<9):Xe (Px k j)=true:=by
 obtain⟨h1,h2⟩:=vY j
 have hl:(Px k j).length=(Vg j).length+1:=by show((#[97+k]:Array Nat)++(Vg j).cps).size=(Vg j).cps.size+1;simp;lia
 rw[Ie,hl];refine⟨by lia,by lia,fun c hc=>?_⟩;rw[Ar]at hc;rcases qu.mp hc with rfl|hc
 ·exact uL.mpr (by lia)
 ·exact h2 c hc
def zuu (i:Nat)(h1:i<9):atS "abcdefghi" (i:Int)=some (97+i):=by
 have:∀ j:_root_.Fin 9,atS "abcdefghi" ((j.val:Nat):Int)=some (97+j.val):=by decide +kernel
 exact this ⟨i,h1⟩
def Hy:ZX:=fun ds S Q=>∃ (ns:List Int),ds=[.rl (ns.map D.int)]/\ns.length<=63/\∀ (T:Z7) (a b c:D) (zs:List Str) (ps:List (Int×Int)) (fs:List Fg) (hz f:Int),Mz zs ps fs hz f->Lst (S++T) a (zs.map D.str)->Lst (S++T) b (ps.map p2)->Lst (S++T) c (fs.map Xx)->Q (.tup [a,b,c,.int hz,.int f,.int (f+5)]) (S++T)
abbrev uU:DS :=
    (zj (zq (Z6 oMod (dCall KR (zc Z4 (zc ZF zm))) (dC (.int 1000000000000000000000000000000))) Ww)
 (zj (zq (Z6 Zr Wc (Z6 oMod Z0 Dw)) YB)
 (zj (zq (dCall HS (zc (Vm Vr Z4 (some Wc) none) (zc uV zm))) YS)
 (zj (zq (Zg 1 [] (z9 (Vm Vr ZS none (some ZW))) Y0 Yc (dTup (zc (Z6 oMod (Z6 oDiv Z4 TX) TX) (zc (Z6 oMod (Z6 oDiv Z4 (dC (.int 40))) Uj) zm)))) YH)
 (zj (zq (Zg 2 [] (V6 (zc (Vm Vr ZS none (some ZW)) zm)) (YL 2 (zK Y0 (zK Ww YW))) Yc (Z6 Zr (Z6 ZR (dC (.str "abcdefghi")) Z4) (Z6 ZR (Yn (zc (dC (.str "")) (zc (dC (.str "b")) (zc (dC (.str "xx")) (zc (dC (.str "light")) zm))))) (Z6 oMod (Z6 oDiv Z0 (dC (.int 400))) Uj)))) Yx)
 (zj (zq (Z6 ZR (Yn (zc ZK (zc Wc (zc Uj (zc TX (zc Jx (zc (dC (.int 10)) zm))))))) (Z6 oMod (Z6 oDiv Z0 Dw) Qn)) VN)
 (zj (zq (Z6 Zm (Z6 oMod (Z6 oDiv Z0 (dC (.int 42))) uV) Uj) Q6)
 (zj (zq (Yn zm) Jy)
 (zj (YQ (z9 (Vm Vr ZS none (some (Z6 oMod (Z6 oDiv Z0 (dC (.int 378))) Uj)))) wJ (zj (zq (dCall Nz (zc Ip (zc (dC (.int 72)) zm))) d7)
 (zj (zq (Z6 Zr Wa (Z6 oMod (Z6 oDiv U4 Uj) Qn)) zyP)
 (zj (zq (dTup (zc (Z6 oMod (Z6 oDiv U4 (dC (.int 24))) TX) (zc (Z6 Zr (Z6 oMod (Z6 oDiv U4 (dC (.int 24))) TX) (Z6 oMod (Z6 oDiv U4 (dC (.int 120))) Wc)) (zc (Z6 oMod (Z6 oDiv U4 (dC (.int 240))) Uj) (zc (Z6 Zr (Z6 oMod (Z6 oDiv U4 (dC (.int 240))) Uj) (Z6 oMod (Z6 oDiv U4 (dC (.int 960))) Wc)) zm))))) zy0)
 (Za (dM Wf Rg (zc (Z6 Zr Ñ (dTup (zc pQ (zc (Z6 Zr pQ (Z6 oMod (Z6 oDiv U4 (dC (.int 1920))) Qn)) (zc (Z6 Zm (Z6 oMod (Z6 oDiv U4 (dC (.int 11520))) JK) ZK) (zc ZF zm)))))) zm)))))))
 (zB (dTup (zc Zf (zc ZJ (zc Rg (zc Yo (zc Wa (zc (Z6 Zr Wa TX) zm)))))))))))))))))
def cH:BodyOk 13 uU Hy:=by
  rintro ds S Q ⟨ns,rfl,hl,q⟩;unfold uU;walk_at"g";refine⟨ns,0,rfl,by decide,fun c0=>?_⟩;have e0:=RX c0 (b:=1000000000000000000000000000000) (by decide);have e1:=Rv c0 (b:=1000000000000000000000000000000) (by decide);walk_at"g";generalize c0%1000000000000000000000000000000=hd at e0 e1;rw[Tt];have cl:(cutD ns (some 2) none).length<=63:=qV (gU _ _ _) (by unfold XH;dsimp only;lia);generalize cutD ns (some 2) none=cn at cl;walk_at"g";refine⟨_,cn,9,rfl,Lst.at0,cl,by decide,by decide,fun sd sl sb=>?_⟩;walk_at"g";have n1:0<=hd%7/\hd%7<7:=by lia
  rw[Tt,KJ _ (by lia) (by lia)];have tl:(sd.take (2+hd%7).toNat).length=(2+hd%7).toNat:=by rw[WX];lia
  obtain⟨sc,hsc⟩:∃ sc,sc=sd.take (2+hd%7).toNat:=⟨_,rfl⟩
  rw[<- hsc]at tl ⊢;walk_at"g";refine Xy (fun _=>true) (yq fun k=>p2 (k/5%5,k/40%4)) (by exact Lst.at (k:=2) rfl) (by rw[qa];unfold big;lia) (fun i d ys hd' hw=>?_) ?_
  . obtain⟨z,_,rfl⟩:=PN hd';walk_at"g";exact Xm hd' hw rfl rfl
  rw[filter_true,dI];walk_at"g";rw[Tt,KJ _ (by lia) (by lia),<- hsc];walk_at"g";refine Pr (xs:=sc.map D.int) (Lst.at (k:=4) rfl) ?_;obtain⟨S5,hS5⟩:∃ S5:Z7,S5=S++[Cell.lst (cn.map D.int),.lst (sd.map D.int),.lst (sc.map D.int),.lst (sc.map fun k=>p2 (k/5%5,k/40%4)),.lst (sc.map D.int)]:=⟨_,rfl⟩
  rw[<- hS5];have k5:Lst S5 (.ref (S.length+4)) (sc.map D.int):=hS5▸Lst.at (k:=4) rfl;have ksd:S5[S.length+1]?=some (.lst (sd.map D.int)):=hS5▸(zP _ _ 1).trans rfl;have ksp:S5[S.length+3]?=some (.lst (sc.map fun k=>p2 (k/5%5,k/40%4))):=hS5▸(zP _ _ 3).trans rfl;have eS5:∃ T,S5=S++T:=⟨_,hS5⟩
  clear hS5;refine Nq (fun i ys S'=>∃ (G:Z7) (zs:List Str),S'=S5++G/\ys=zs.map D.str/\zs.length=i/\(∀ z∈zs,Xe z=true)/\∀ (j:Nat) z,zs[j]?=some z->z.cps.toList.head?=some (97+j)) ⟨[],[],by simp,rfl,rfl,by simp,fun j z h=>by simp at h⟩ (by rintro i ys S' ⟨G,zs,e,_⟩;exact e▸k5.old) (by rw[VB,qa];unfold big;lia) ?_ ?_
  . rintro i d ys S' hd' ⟨G,zs,rfl,rfl,hz,hn,hh⟩;obtain⟨y,hy,rfl⟩:=R8 hd';have hi:=zA hy;rw[qa]at hi;obtain⟨z,_,rfl⟩:=PN hy;rw[Ng];walk_at"g";refine zw1 (c:=97+i) (by decide +kernel) (zuu i (by lia)) ?_;have sa:=aY (z/400%4) (by lia) (by lia);walk_at"g";obtain⟨s1,_⟩:=vY (z/400%4);refine ϡ (by show 1+_<=big;unfold big;lia) ?_;walk_at"g";refine⟨G++[_],zs++[Px i (z/400%4)],rfl,by rw[qD];rfl,by simp[hz],fun x hx=>?_,fun j x hx=>?_⟩
    . rcases qC.mp hx with hx|hx
      . exact hn x hx
      . have:x=Px i (z/400%4):=by simpa using hx
        rw[this];exact ã (by lia)
    . rcases qW j zs.length with g|g
      . rw[qg g]at hx;exact hh j x hx
      . have lj:=zA hx;rw[qf]at lj;have:j=zs.length:=by simp at lj;lia
        subst this;rw[qe (qh _),Yp]at hx;have:Px i (z/400%4)=x:=by simpa using hx
        subst this;rw[Ar,hz];rfl
  rintro ys S' ⟨G,zs,rfl,rfl,hz,hn,hh⟩;rw[VB,qa,tl]at hz;obtain⟨S6,hS6⟩:∃ S6:Z7,S6=S5++G:=⟨_,rfl⟩
  rw[<- hS6];have ksd6:S6[S.length+1]?=some (.lst (sd.map D.int)):=hS6▸zE ksd;have ksp6:S6[S.length+3]?=some (.lst (sc.map fun k=>p2 (k/5%5,k/40%4))):=hS6▸zE ksp;have eS6:∃ T,S6=S++T:=G9 eS5 hS6;clear hS6 ksd ksp k5 eS5;walk_at"g"
  have ah:∃ w,0<=w/\w<=10/\Zb [.int 1,.int 2,.int 4,.int 5,.int 8,.int 10] (hd/7%6)=some (.int w):=by
    have:hd/7%6=0\/hd/7%6=1\/hd/7%6=2\/hd/7%6=3\/hd/7%6=4\/hd/7%6=5:=by lia
    rcases this with e|e|e|e|e|e<;>rw[e]
    . exact⟨1,by decide,by decide,rfl⟩
    . exact⟨2,by decide,by decide,rfl⟩
    . exact⟨4,by decide,by decide,rfl⟩
    . exact⟨5,by decide,by decide,rfl⟩
    . exact⟨8,by decide,by decide,rfl⟩
    . exact⟨10,by decide,by decide,rfl⟩
  obtain⟨hw,hw0,hw1,aw⟩:=ah;walk_at"g";rw[Tt,KJ _ (by lia) (by lia)];have tl2:(sd.take (hd/378%4).toNat).length<=4:=by rw[WX];lia
  generalize sd.take (hd/378%4).toNat=se at tl2;have f0:-4<=hd/42%9-4/\hd/42%9-4<=4:=by lia
  generalize hd/42%9-4=f at f0;obtain⟨S7,hS7⟩:∃ S7:Z7,S7=S6++[Cell.lst (zs.map D.str),.lst [.int 1,.int 2,.int 4,.int 5,.int 8,.int 10]]:=⟨_,rfl⟩
  have kz:S7[S6.length]?=some (.lst (zs.map D.str)):=hS7▸zM;have ksd7:S7[S.length+1]?=some (.lst (sd.map D.int)):=hS7▸zE ksd6;have ksp7:S7[S.length+3]?=some (.lst (sc.map fun k=>p2 (k/5%5,k/40%4))):=hS7▸zE ksp6;have eS7:∃ T,S7=S++T:=G9 eS6 hS7;rw[show S6++[Cell.lst (zs.map D.str),.lst [.int 1,.int 2,.int 4,.int 5,.int 8,.int 10],.lst [],.lst (se.map D.int)]=S7++[.lst [],.lst (se.map D.int)] by rw[hS7];simp,show S6.length+2=S7.length by rw[hS7];simp,show S6.length+3=S7.length+1 by rw[hS7];simp];generalize S6.length=nz at kz;clear hS7 ksd6 ksp6 eS6;walk_at"h";refine Yi (fun i Z S'=>∃ (fs:List Fg) (w9 w10 w11 w12:Option D),S'=S7++[.lst (fs.map Xx),.lst (se.map D.int)]/\Z=[some (.rl (ns.map D.int)),some (.int hd),some (.int (2+hd%7)),some (.ref (S.length+1)),some (.ref (S.length+3)),some (.ref nz),some (.int hw),some (.int f),some (.ref S7.length),w9,w10,w11,w12]/\fs.length=i/\∀ F∈fs,LC F) ⟨[],_,_,_,_,rfl,rfl,rfl,by simp⟩ (by rintro i Z S' ⟨fs,_,_,_,_,e,_⟩;exact e▸Lst.at (k:=1) rfl) ?_ ?_
  . rintro i d Z S' hd' ⟨fs,w9,w10,w11,w12,rfl,rfl,hi,hf⟩;have li:=zA hd';rw[qa]at li;obtain⟨z,_,rfl⟩:=PN hd';walk_at"g";refine⟨z,72,rfl,by decide,by decide,fun m m0 m1=>?_⟩;walk_at"g";refine zuY (by show 4+4<=big;decide) ?_;have hlim:(fs.map Xx).length<big:=by rw[qa];unfold big;lia
    walk_at"g";have sm:∀ {n:Nat} {x:Int},200<=n->-100<=x->x<=100->Bd n x:=fun {n x} hn h1 h2=>(show Bd 7 x by show _<2 ^ 7;lia).mono (by lia)
    refine⟨fs++[⟨m/24%5,m/24%5+m/120%2,m/240%4,m/240%4+m/960%2,f+m/4%6,f+m/4%6+m/1920%6,m/11520%3-1,0⟩],_,_,_,_,by rw[qD];rfl,rfl,by simp[hi],fun F hF=>?_⟩;rcases qC.mp hF with hF|hF
    . exact hf F hF
    . have e:=qI.mp hF;subst e;exact⟨⟨by dsimp only;lia,by dsimp only;lia,sm (by decide) (by dsimp only;lia) (by dsimp only;lia),sm (by decide) (by dsimp only;lia) (by dsimp only;lia),sm (by decide) (by dsimp only;lia) (by dsimp only;lia),sm (by decide) (by dsimp only;lia) (by dsimp only;lia),sm (by decide) (by dsimp only;lia) (by dsimp only;lia),sm (by decide) (by dsimp only;lia) (by dsimp only;lia)⟩,by dsimp only;lia,sm (by decide) (by dsimp only;lia) (by dsimp only;lia),sm (by decide) (by dsimp only;lia) (by dsimp only;lia)⟩
  . rintro Z S' ⟨fs,w9,w10,w11,w12,rfl,rfl,hi,hf⟩;rw[qa]at hi;walk_at"g";obtain⟨T7,rfl⟩:=eS7;rw[qq]
    have w:Mz zs (sc.map fun k=>(k/5%5,k/40%4)) fs hw f:=⟨by lia,by lia,hn,hh,by rw[qa];lia,fun p hp=>by obtain⟨k,_,rfl⟩:=qw.mp hp;dsimp only;lia,by lia,hf,hw0,hw1,f0.1,f0.2⟩
    refine fin_same (q _ _ _ _ zs _ fs hw f w ?_ ?_ ?_)
    . rw[<- qq];exact Lst.here (zE kz)
    . rw[<- qq,XF];exact Lst.here (zE ksp7)
    . rw[<- qq];exact Lst.at0
def El:ZX:=fun ds S Q=>∃ (x:D) (cs:List (Int×Int)),ds=[x]/\Lst S x (cs.map p2)/\W8 cs/\Q .non S
abbrev xX:DS :=
    (zj (ZM (Yz (dT (Z6 oLt (dB Zc Zd) Wc)) (dT (Z6 Yg (dB Zc Zd) (dC (.int 40))))) Yj zF)
 (YQ (Jh (zc ZK (zc (dB Zc Zd) zm))) Ww (ZM (dT (Z6 oLe (Z6 ZR (Z6 ZR Z4 Z0) ZF) (Z6 ZR (Z6 ZR Z4 (Z6 Zm Z0 ZK)) ZF))) Yj zF)))
def zea:BodyOk 2 xX El:=by
 rintro ds S Q ⟨x,cs,rfl,hx,g,q⟩;unfold xX;have g1:=g.two;have g2:=g.most;walk_at"g";rw[qa];refine Zo (fun z=>absurd z (by lia)) (fun _=>?_);walk_at"g";rw[qa];refine Zo (fun z=>absurd z (by lia)) (fun _=>?_);walk_at"g";rw[qa];refine⟨_,_,rfl,?_⟩;refine Yi (fun i Z S'=>S'=S/\∃ w:Option D,Z=[some x,w]) ⟨rfl,none,rfl⟩ (fun _ _ _ _=>True.intro) ?_ ?_
 ·rintro i d Z S' hd ⟨rfl,w,rfl⟩;obtain⟨hi,rfl⟩:=Em hd;obtain⟨a,ha,aa⟩:=Ku (cs:=cs) (k:=1+(i:Int)) (by lia) (by lia);obtain⟨b,hb,ab⟩:=Ku (cs:=cs) (k:=1+(i:Int)-1) (by lia) (by lia);have hlt:=sS g (show(1+(i:Int)-1).toNat<(1+(i:Int)).toNat by lia) hb ha;walk_at"g";refine Zo (fun z=>absurd z (by lia)) (fun _=>?_);walk_at"g";exact⟨rfl,_,rfl⟩
 ·rintro Z S' ⟨rfl,w,rfl⟩;exact fin_same q
def Hu:ZX:=fun ds S Q=>∃ (S0:Z7) (x:D) (cs:List (Int×Int)),ds=[.ref S0.length,x]/\S=S0++[.ins "Ground" []]/\Lst S0 x (cs.map p2)/\W8 cs/\Q .non (S0++[.ins "Ground" [("corners",.ref (S0.length+1))],.lst (cs.map p2)])
abbrev wU:DS :=
    (zj (Za (dCall El YJ))
 (VG "Ground" "corners" Z4 (dB Qk YJ)))
def ě:BodyOk 2 wU Hu:=by rintro ds S Q ⟨S0,x,cs,rfl,rfl,hx,g,q⟩;unfold wU;have hx':Lst (S0++[.ins "Ground" []]) x (cs.map p2):=hx.old;walk_at"g";refine⟨x,cs,rfl,hx',g,?_⟩;walk_at"g";refine⟨S0.length,[],rfl,zM,by decide,?_⟩;rw[Sh];exact fin_same q
def uJ:ZX:=SX "Ground" Hu
def Cw:ZX:=fun ds S Q=>∃ (x y:D) (xs ys:List D),ds=[x,y]/\Lst S x xs/\Lst S y ys/\1<=xs.length/\xs.length<=12/\ys.length<=12/\Q .non S
abbrev BJ:DS :=
    (zj (ZM (Yz (dT (Z6 oLt (dB Zc Zd) ZK)) (dT (Z6 Yg (dB Zc Zd) (dC (.int 12))))) Yj zF)
 (ZM (dT (Z6 Yg (dB Zc YJ) (dC (.int 12)))) Yj zF))
def lG:BodyOk 2 BJ Cw:=by rintro ds S Q ⟨x,y,xs,ys,rfl,hx,hy,h1,h2,h3,q⟩;unfold BJ;walk_at"g";rw[decide_eq_false (show ¬ ((xs.length:Int)<1) by lia)];walk_at"g";rw[decide_eq_false (show ¬ ((12:Int)<xs.length) by lia)];walk_at"g";rw[decide_eq_false (show ¬ ((12:Int)<ys.length) by lia)];walk_at"g";exact fin_same q
def CP:ZX:=fun ds S Q=>∃ z:Str,ds=[.str z]/\z.length<=1000/\Q (.bl (Xe z)) S
abbrev Br:DS :=
    (zj (ZM (Yz (dT (Z6 oLt (dB Zc Zd) ZK)) (dT (Z6 Yg (dB Zc Zd) Jx))) (zB (dC (.bl false))) zF)
 (zB (dB Vf (zc (Zg 1 [] (z9 Z4) Y0 Yc (Z6 Vh Z4 (dC (.str "abcdefghijklmnopqrstuvwxyz")))) zm))))
def υ:BodyOk 1 Br CP:=by
 rintro ds S Q ⟨z,rfl,hz,q⟩;unfold Br;have hb:z.length<=big:=by unfold big;lia
 walk_at"g";refine vp hb ?_;walk_at"g";unfold Xe at q;refine Zo (fun h=>?_) (fun h=>?_)
 ·walk_at"g";rw[decide_eq_false (show ¬ 1<=z.length by lia)]at q;exact fin_same q
 rw[decide_eq_true (show 1<=z.length by lia)]at q;walk_at"g";refine vp hb ?_;walk_at"g";refine Zo (fun h=>?_) (fun h=>?_)
 ·walk_at"g";rw[decide_eq_false (show ¬ z.length<=8 by lia)]at q;exact fin_same q
 rw[decide_eq_true (show z.length<=8 by lia)]at q;walk_at"g";refine Xy (fun _=>true) (vP fun c=>decide (c∈abc)) True.intro (by rw[zmJ];exact hb) (fun i d ys hd hw=>?_) ?_
 ·obtain⟨c,_,rfl⟩:=cu hd;walk_at"g";rw[Ť];exact Xm hd hw rfl rfl
 rw[filter_true,mj];walk_at"g";refine Mw Lst.at0 rfl ?_;refine SJ rfl ?_;rw[M7];exact q
def CT:ZX:=fun ds S Q=>∃ (x:D) (zs:List Str),ds=[x]/\Lst S x (zs.map D.str)/\zs.length<=100/\(∀ z∈zs,Xe z=true)/\zs.Nodup/\Q .non S
abbrev yj:DS :=
    (zj (ZM (Yu (dT (dB Vf (zc (Zg 1 [] (z9 Z4) Y0 Yc (dCall CP Zd)) zm)))) Yj zF)
 (ZM (dT (Z6 oLt (dB Jr Zd) (dB Zc Zd))) Yj zF))
def iJ:BodyOk 1 yj CT:=by
 rintro ds S Q ⟨x,zs,rfl,hx,hl,hn,nd,q⟩;unfold yj;walk_at"g";refine Xy (fun _=>true) (Ka fun z=>.bl (Xe z)) hx (by rw[qa];unfold big;lia) (fun i d ys hd hw=>?_) ?_
 ·obtain⟨z,hz,rfl⟩:=Xl hd;walk_at"g";refine⟨z,rfl,by have:=(Ie.mp (hn z (qc hz))).2.1;lia,?_⟩;exact Xm hd hw rfl rfl
 rw[filter_true,zqG,show zs.map (fun z=>D.bl (Xe z))=(zs.map Xe).map D.bl by rw[XF];rfl];walk_at"g";refine Mw (b:=true) Lst.at0 (by rw[M7,Vk];exact hn) ?_;walk_at"g";refine zsv (zs:=zs) hx.old (by lia) ?_;rw[Ω nd];have hx1:Lst (S++[Cell.lst ((zs.map Xe).map D.bl)]) x (zs.map D.str):=hx.old;walk_at"g";rw[qa,decide_eq_false (show ¬ ((zs.length:Int)<zs.length) by lia)];walk_at"g";exact SJ rfl q
def Qd:ZX:=fun ds S Q=>∃ (a b:Int×Int),ds=[p2 a,p2 b]/\Y4 a.1 b.2/\Y4 b.1 a.2/\Q (.bl (flt a b)) S
abbrev uQ:DS :=(zB (Z6 oLt (Z6 Y5 Xd T9) (Z6 Y5 WD Wh)))
def η:BodyOk 2 uQ Qd:=by rintro ds S Q ⟨a,b,rfl,c1,c2,q⟩;unfold uQ;walk_at"g";exact fin_same q
def K6:ZX:=fun ds S Q=>∃ (g:D) (cs:List (Int×Int)) (p:Int×Int),ds=[g,p2 p]/\WW S g cs/\W8 cs/\Bd 1000 p.1/\Bd 1000 p.2/\Q (.bl (decide (Qz cs*p.2<=p.1)&&decide (p.1<=RB cs*p.2))) S
abbrev wX:DS :=
    (zj (zq (dTup (zc (Z6 ZR (Z6 ZR (Yl "corners" Z4) ZF) ZF) (zc ZK zm))) YB)
 (zj (zq (dTup (zc (Z6 ZR (Z6 ZR (Yl "corners" Z4) (Wu Wq ZK)) ZF) (zc ZK zm))) YS)
 (zB (QZ (QV (dCall Qd (zc Z0 Ym))) (QV (dCall Qd (zc ZS YJ)))))))
def ť:BodyOk 4 wX K6:=by
 rintro ds S Q ⟨g,cs,p,rfl,⟨n,l,rfl,hn,hl⟩,gr,b1,b2,q⟩;unfold wX;have g1:=gr.two;obtain⟨a,ha,ea⟩:=iQ gr;obtain⟨z,hz,ez⟩:=Č gr;have aa:Zb (cs.map p2) 0=some (p2 a):=Rt (i:=0) (by rw[qj,ha];rfl)
 have az:Zb (cs.map p2) (-1)=some (p2 z):=by
  have hne:cs≠[]:=fun e=>by rw[e]at g1;simp at g1
  have en:cs=cs.dropLast++[z]:=by
   have h2:=List.dropLast_concat_getLast hne
   have h3:cs.getLast hne=z:=by rw[List.getLast_eq_getElem];have hl':=zA hz;rw[qb hl']at hz;cases hz;rfl
   rw[h3]at h2;exact h2.symm
  rw[en,qD];exact zoK
 obtain⟨ba,_⟩:=gr.bd a (qc ha);obtain⟨bz,_⟩:=gr.bd z (qc hz);rw[ea,ez]at q;have e1:flt p (a.1,1)=decide (p.1<a.1*p.2):=by unfold flt;dsimp only;rw[U5]
 have e2:flt (z.1,1) p=decide (z.1*p.2<p.1):=by unfold flt;dsimp only;rw[U5]
 have c1:Y4 a.1 p.2:=.inl ⟨ba.mono (by decide),b2.mono (by decide)⟩;have c2:Y4 z.1 p.2:=.inl ⟨bz.mono (by decide),b2.mono (by decide)⟩;have c3:∀ u:Int,Y4 u 1:=fun u=>.inr (.inr (by decide))
 walk_at"g";refine⟨p,(a.1,1),rfl,c3 _,c1,?_⟩;rw[e1];walk_at"g";refine Xf (fun g=>?_) (fun g=>?_)
 ·walk_at"g";refine⟨(z.1,1),p,rfl,c2,c3 _,?_⟩;rw[e2];walk_at"g";rw[decide_eq_true (show a.1*p.2<=p.1 by lia),Bool.true_and]at q;rw[show(!decide (z.1*p.2<p.1))=decide (p.1<=z.1*p.2) by rw[<- decide_not];exact decide_eq_decide.mpr (by lia)];exact fin_same q
 ·rw[decide_eq_false (show ¬ a.1*p.2<=p.1 by lia),VJ]at q;exact fin_same q
def Hz:ZX:=fun ds S Q=>∃ (t b:Int),ds=[.int t,.int b]/\Q (.int ((Int.gcd t b:Nat):Int)) S
abbrev sZ:DS :=
    (zj (Vd (dT (Z6 Yv Z0 ZF)) (zj (zq (Z6 oMod Z4 Z0) YB)
 (zj (zq Z0 Y0)
 (zq ZW Ww))))
 (zB (dB JQ Zd)))
def gQ:BodyOk 3 sZ Hz:=by
 rintro ds S Q ⟨t,b,rfl,q⟩;unfold sZ;refine Dp.EY ?_;refine RZ (fun m Z S'=>S'=S/\∃ (x y:Int) (w:Option D),Z=[some (.int x),some (.int y),w]/\m=y.natAbs/\Int.gcd x y=Int.gcd t b) b.natAbs ⟨rfl,_,_,none,rfl,rfl,rfl⟩ ?_;rintro m Z S' ⟨rfl,x,y,w,rfl,rfl,e⟩;walk_at"g";refine Xf (fun h0=>?_) (fun h0=>?_)
 ·refine rR ?_;refine Dp.EY ?_;refine Dp.sG ?_;refine Dp.IK ?_;refine Dp.Ra rfl ?_;refine Dp.Ra rfl ?_;refine jo h0 ?_;walk_at"g";exact⟨_,eZ h0,rfl,_,_,_,rfl,rfl,(jB x y).trans e⟩
 ·subst h0;rw[Int.gcd_zero]at e;walk_at"g";rw[<- e]at q;exact fin_same q
def DQ:ZX:=fun ds S Q=>∃ (t b:Int),ds=[.int t,.int b]/\b≠0/\Bd 8000 b/\Q (p2 (Vz t b,frB t b)) S
abbrev Aw:DS :=
    (zj (zq (dCall Hz (zc Z4 YJ)) YB)
 (zj (sJ (ZM (dT (Z6 oLt Z0 ZF)) (zq (Wu Wq ZW) YB) zF))
 (zB (dTup (zc (Z6 oDiv Z4 ZW) (zc (Z6 oDiv Z0 ZW) zm))))))
def lM:BodyOk 3 Aw DQ:=by
 rintro ds S Q ⟨t,b,rfl,hb,bb,q⟩;unfold Aw;have hgn:=oJ (t:=t) (b:=b) hb;have hgb:=cB (t:=t) (b:=b) hb bb;walk_at"g";refine⟨t,b,rfl,?_⟩;walk_at"g";refine rY (fun Z S'=>S'=S/\Z=[some (.int t),some (.int b),some (.int (gd t b))]) ?_ ?_
 ·walk_at"g";refine Zo (fun g=>?_) (fun g=>?_)
  ·have hg:gd t b=-((Int.gcd t b:Nat):Int):=if_pos g;walk_at"g";exact⟨rfl,by rw[hg];rfl⟩
  ·have hg:gd t b=((Int.gcd t b:Nat):Int):=if_neg g;walk_at"g";exact⟨rfl,by rw[hg];rfl⟩
 rintro Z S' ⟨rfl,rfl⟩;refine Dp.uF ?_;refine Dp.wB ?_;refine Dp.Cm ?_;refine Dp.IK ?_;refine Dp.Ra rfl ?_;refine Dp.Ra rfl ?_;refine pK ⟨hgn,hgb⟩ ?_;refine Dp.Cm ?_;refine Dp.IK ?_;refine Dp.Ra rfl ?_;refine Dp.Ra rfl ?_;refine pK ⟨hgn,hgb⟩ ?_;walk_at"g";exact fin_same q
def Cu:ZX:=fun ds S Q=>∃ (a b p:Int×Int),ds=[p2 a,p2 b,p2 p]/\b.1≠a.1/\0<p.2/\Bd 180 a.1/\Bd 200 a.2/\Bd 180 b.1/\Bd 200 b.2/\Bd 1000 p.1/\Bd 1000 p.2/\∀ c:Int×Int,Sv c (Qs a b p) (Ul a b p)->Int.gcd c.1 c.2=1->Bd 1400 c.1->Bd 1400 c.2->Q (p2 c) S
def zwk {t b:Int}(hb:b≠0):Sv (Vz t b,frB t b) (if 0<b then t else -t) (if 0<b then b else -b):=by
 have h1:=j8 t b;have h2:=Ū (t:=t) hb;refine⟨by show 0<frB t b;lia,?_⟩;show Vz t b*_=_*frB t b;split
 ·rw[h1,Wy]
 ·rw[Int.mul_neg,h1,Int.neg_mul,Wy]
abbrev nO:DS :=
    (zj (zq (Z6 Zm WD Xd) YS)
 (zj (zq (Z6 Zm T9 Wh) YH)
 (zj (zq (Z6 Zr (Z6 Y5 (Z6 Y5 Wh ZS) Tg) (Z6 Y5 ZJ (Z6 Zm QX (Z6 Y5 Xd Tg)))) Yx)
 (zB (dCall DQ (zc Zf (zc (Z6 Y5 ZS Tg) zm)))))))
def ziL:BodyOk 6 nO Cu:=by
 rintro ds S Q ⟨a,b,p,rfl,hne,hp,b1,b2,b3,b4,b5,b6,q⟩;unfold nO;have r1:Bd 181 (b.1-a.1):=Bd.sub b3 b1;have r2:Bd 201 (b.2-a.2):=Bd.sub b4 b2;have m1:Bd 381 (a.2*(b.1-a.1)):=Bd.mul b2 r1;have m2:Bd 1381 (a.2*(b.1-a.1)*p.2):=Bd.mul m1 b6;have m3:Bd 1180 (a.1*p.2):=Bd.mul b1 b6;have m4:Bd 1181 (p.1-a.1*p.2):=Bd.sub (b5.mono (by decide)) m3;have m5:Bd 1382 ((b.2-a.2)*(p.1-a.1*p.2)):=Bd.mul r2 m4;have m6:Bd 1181 ((b.1-a.1)*p.2):=Bd.mul r1 b6;have bT:Bd 1400 (a.2*(b.1-a.1)*p.2+(b.2-a.2)*(p.1-a.1*p.2)):=(Bd.add (n:=1382) (m2.mono (by decide)) m5).mono (by decide);have c1:Y4 a.2 (b.1-a.1):=.inl ⟨b2.mono (by decide),r1.mono (by decide)⟩;have c2:Y4 (a.2*(b.1-a.1)) p.2:=.inl ⟨m1.mono (by decide),b6.mono (by decide)⟩;have c3:Y4 a.1 p.2:=.inl ⟨b1.mono (by decide),b6.mono (by decide)⟩;have c4:Y4 (b.2-a.2) (p.1-a.1*p.2):=.inl ⟨r2.mono (by decide),m4.mono (by decide)⟩;have c5:Y4 (b.1-a.1) p.2:=.inl ⟨r1.mono (by decide),b6.mono (by decide)⟩;walk_at"g";have hr:(b.1-a.1)*p.2≠0:=Int.mul_ne_zero (by lia) (by lia);refine⟨_,_,rfl,hr,m6.mono (by decide),?_⟩;refine fin_same (q _ ?_ (mG hr) (aN bT) ((gD m6).mono (by decide)));have hs:=zwk (t:=a.2*(b.1-a.1)*p.2+(b.2-a.2)*(p.1-a.1*p.2)) hr;unfold Qs Ul;by_cases g:0<b.1-a.1
 ·have:0<(b.1-a.1)*p.2:=P0 g hp;rw[if_pos this,if_pos this]at hs;rw[if_pos g,if_pos g];exact hs
 ·have:¬ 0<(b.1-a.1)*p.2:=fun z=>by
   have:=P0 (show 0 < -(b.1-a.1) by lia) hp;rw[Int.neg_mul]at this;lia
  rw[if_neg this,if_neg this]at hs;rw[if_neg g,if_neg g];exact hs
def CG:Ys:=fun ds S Q ex=>∃ (g:D) (cs:List (Int×Int)) (p:Int×Int),ds=[g,p2 p]/\WW S g cs/\W8 cs/\0<p.2/\Bd 1000 p.1/\Bd 1000 p.2/\(¬ Qh cs p->ex "OffGround" S)/\(Qh cs p->∀ a b c:Int×Int,Tv cs p=some (a,b)->Sv c (Qs a b p) (Ul a b p)->0<Ul a b p->Int.gcd c.1 c.2=1->Bd 1400 c.1->Bd 1400 c.2->Q (p2 c) S)
abbrev tH (ex : XR) : DS :=
    (zj (ZM (Yu (dT (dCall K6 (zc Z4 YJ)))) (RN ex "OffGround") zF)
 (zj (zq (Yl "corners" Z4) YB)
 (zj (zq ZK YS)
 (zj (Vd (dT (dCall Qd (zc (dTup (zc (Z6 ZR (Z6 ZR ZW ZS) ZF) (zc ZK zm))) YJ))) (Jp 3 ZK))
 (zB (dCall Cu (zc (Z6 ZR ZW (Z6 Zm ZS ZK)) (zc (Z6 ZR ZW ZS) YJ))))))))
def À:Vj 4 tH CG:=by
 rintro ds S Q ex ⟨g,cs,p,rfl,hg,gr,hp,b1,b2,hx,q⟩;unfold tH;obtain⟨n,l,rfl,hn,hl⟩:=id hg;walk_at"g";refine⟨_,cs,p,rfl,hg,gr,b1,b2,?_⟩;by_cases on:Qh cs p
 case neg =>
  have e:(decide (Qz cs*p.2<=p.1)&&decide (p.1<=RB cs*p.2))=false:=Bool.eq_false_iff.mpr fun z=>on (by rw[qv,decide_eq_true_eq,decide_eq_true_eq]at z;exact z)
  rw[e];walk_at"g";exact hx on
 have q:=q on;obtain⟨kk,a,b,ha,hb,hle,hlt⟩:=rM gr.two on.2;have seg:=seg_at ha hb hle hlt;have hk:=zA hb;rw[decide_eq_true on.1,decide_eq_true on.2,show(true&&true)=true from rfl];walk_at"g";refine RZ (fun m Z S'=>S'=S/\∃ j:Nat,Z=[some (.ref n),some (p2 p),some (.ref l),some (.int ((j:Int)+1))]/\m=kk-j/\j<=kk) kk ⟨rfl,0,rfl,rfl,by lia⟩ ?_;rintro m Z S' ⟨rfl,j,rfl,rfl,hj⟩;obtain⟨c,hc,ac⟩:=Ku (cs:=cs) (k:=(j:Int)+1) (by lia) (by lia);have hc':cs[j+1]?=some c:=by rwa[show((j:Int)+1).toNat=j+1 by lia]at hc
 obtain⟨bc,bc2⟩:=gr.bd c (qc hc);have e1:flt (c.1,1) p=decide (c.1*p.2<p.1):=by unfold flt;dsimp only;rw[U5]
 walk_at"g";refine⟨(c.1,1),p,rfl,.inl ⟨bc.mono (by decide),b2.mono (by decide)⟩,.inr (.inr (show(1:Int).natAbs<2 ^ 64 by decide)),?_⟩;rw[e1];walk_at"g";refine Zo (fun h=>?_) (fun h=>?_)
 ·walk_at"g"
  have hjk:j<kk:=by
   rcases qW j kk with z|z
   ·exact z
   ·have:j=kk:=by lia
    subst this;rw[hb]at hc';cases hc';lia
  exact⟨kk-(j+1),by lia,rfl,j+1,by simp,rfl,by lia⟩
 ·have hjk:j=kk:=by
   rcases qW j kk with z|z
   ·have:=hlt (j+1) c (by lia) (by lia) hc';lia
   ·lia
  subst hjk;rw[hb]at hc';cases hc'
  have aa:Zb (cs.map p2) ((j:Int)+1-1)=some (p2 a):=by rw[show(j:Int)+1-1=(j:Int) by lia];exact Rt (by rw[qj,ha];rfl)
  obtain⟨ba1,ba2⟩:=gr.bd a (qc ha);have hab:=sS gr (show j<j+1 by lia) ha hb;walk_at"g";refine⟨a,b,p,rfl,by lia,hp,ba1.mono (by decide),ba2.mono (by decide),bc.mono (by decide),bc2.mono (by decide),b1,b2,fun c hs hg d1 d2=>?_⟩;exact fin_same (q a b c seg hs (cW (by lia) hp) hg d1 d2)
def Kd:ZX:=fun ds S Q=>∃ (g:D) (cs:List (Int×Int)) (s:Int×Int),ds=[g,p2 s]/\WW S g cs/\W8 cs/\Bd 180 s.1/\Bd 200 s.2/\∀ b:Bool,(b=true↔WT cs s)->Q (.bl b) S
abbrev yS:DS :=
    (zj (zq (dTup (zc WD (zc ZK zm))) YB)
 (zj (ZM (Yu (dT (dCall K6 (zc Z4 Ym)))) (zB (dC (.bl false))) zF)
 (zB (QV (dCall Qd (zc (dTup (zc T9 (zc ZK zm))) (zc (Yk CG xF (zc Z4 Ym)) zm)))))))
def į:BodyOk 3 yS Kd:=by
 rintro ds S Q ⟨g,cs,s,rfl,hg,gr,b1,b2,q⟩;unfold yS;have bo:Bd 1000 (1:Int):=Bd.lit (by decide) (by decide);walk_at"g";refine⟨g,cs,(s.1,1),rfl,hg,gr,b1.mono (by decide),bo,?_⟩;by_cases on:Qh cs (s.1,1)
 case neg =>
  have e:(decide (Qz cs*(s.1,(1:Int)).2<=(s.1,(1:Int)).1)&&decide ((s.1,(1:Int)).1<=RB cs*(s.1,(1:Int)).2))=false:=Bool.eq_false_iff.mpr fun z=>on (by rw[qv,decide_eq_true_eq,decide_eq_true_eq]at z;exact z)
  rw[e];walk_at"g";exact fin_same (q false ⟨fun z=>(by cases z),fun z=>absurd z.1 on⟩)
 rw[decide_eq_true on.1,decide_eq_true on.2,show(true&&true)=true from rfl];walk_at"g";refine⟨g,cs,(s.1,1),rfl,hg,gr,(show(0:Int)<1 by decide),b1.mono (by decide),bo,fun off=>absurd on off,fun _ a b c seg sv hb hgcd d1 d2=>?_⟩;walk_at"g";refine⟨(s.2,1),c,rfl,.inl ⟨b2.mono (by decide),d2.mono (by decide)⟩,.inr (.inr (show(1:Int).natAbs<2 ^ 64 by decide)),?_⟩;rw[ŧ (t:=s.2) (b:=1) (by decide) hb ⟨(show(0:Int)<1 by decide),rfl⟩ sv];walk_at"g";refine fin_same (q _ ?_);rw[Bool.not_eq_true',decide_eq_false_iff_not];constructor
 ·intro h;refine⟨on,fun a' b' seg'=>?_⟩;rw[seg]at seg';cases seg';lia
 ·intro h;have:=h.2 a b seg;lia
def Fj:ZX:=fun ds S Q=>∃ (g y:D) (cs:List (Int×Int)) (bs:List (Str×(Int×Int))),ds=[g,y]/\WW S g cs/\W8 cs/\Lst S y (bs.map X3)/\bs.length<=100/\(∀ b∈bs,WT cs b.2/\Bd 180 b.2.1/\Bd 200 b.2.2)/\Q .non S
abbrev p7:DS :=(ZM (Yu (dT (dB Vf (zc (Zg 3 [0] (z9 Z0) (YL 3 (zK Y0 (zK Ww (zK YB YW)))) Yc (dCall Kd (zc ZS (zc (dTup (zc Z0 Ym)) zm)))) zm)))) Yj zF)
def ϝ:BodyOk 2 p7 Fj:=by
 rintro ds S Q ⟨g,y,cs,bs,rfl,hg,gr,hy,hl,hb,q⟩;unfold p7;walk_at"g";refine Xy (fun _=>true) (Iw fun _=>.bl true) hy (by rw[qa];unfold big;lia) (fun i d ys hd hw=>?_) ?_
 ·obtain⟨b,hbi,rfl⟩:=K1 hd;obtain⟨s1,s2,s3⟩:=hb b (qc hbi);walk_at"g";refine⟨g,cs,b.2,rfl,hg,gr,s2,s3,fun r hr=>?_⟩;rw[hr.mpr s1];exact Xm hd hw rfl rfl
 rw[filter_true,Hj,show bs.map (fun _=>D.bl true)=(bs.map fun _=>true).map D.bl by rw[XF];rfl];walk_at"g";refine Mw (b:=true) Lst.at0 (by rw[M7,Vk];intro _ _;rfl) ?_;walk_at"g";exact SJ rfl q
def Es:ZX:=fun ds S Q=>∃ i:Int,ds=[.int i]/\Q (.bl true) S
abbrev xM:DS :=(zB (QZ (dB Xk (zc Z4 (zc (dC (.ty "int")) zm))) (QV (dB Xk (zc Z4 (zc (dC (.ty "bool")) zm))))))
def j6:BodyOk 1 xM Es:=by rintro ds S Q ⟨i,rfl,q⟩;unfold xM;walk_at"g";exact fin_same q
def Dd:ZX:=fun ds S Q=>∃ F:Fg,ds=[Xx F]/\F.x0<=F.x1/\F.z0<=F.z1/\F.f<=F.l/\Q (.bl true) S
abbrev tX:DS :=
    (zj (ZM (Yz (Yu (dT (dB Xk (zc Z4 (zc (dC (.ty "tuple")) zm))))) (dT (Z6 Yv (dB Zc Zd) Jx))) (zB (dC (.bl false))) zF)
 (zj (ZM (Yu (dT (dB Vf (zc (Zg 1 [] (z9 Z4) Y0 Yc (dCall Es Zd)) zm)))) (zB (dC (.bl false))) zF)
 (zB (QZ (Z6 oLe Xd Wh) (QZ (Z6 oLe M4 Oc) (Z6 oLe Fv Bg))))))
def é:BodyOk 1 tX Dd:=by
 rintro ds S Q ⟨F,rfl,h1,h2,h3,q⟩;unfold tX;walk_at"g";rw[show(!decide ((([D.int F.x0,D.int F.x1,D.int F.z0,D.int F.z1,D.int F.f,D.int F.l,D.int F.g,D.int F.s]:List D).length:Int)=8))=false by rfl];walk_at"g";refine Xy (fun _=>true) (fun _=>.bl true) True.intro (by show 8<=big;unfold big;decide) (fun i d ys hd hw=>?_) ?_
 ·obtain⟨z,_,rfl⟩:=PN (zs:=[F.x0,F.x1,F.z0,F.z1,F.f,F.l,F.g,F.s]) hd;walk_at"g";refine⟨z,rfl,?_⟩;exact Xm hd hw rfl rfl
 walk_at"g";refine Mw (bs:=List.replicate 8 true) (b:=true) Lst.at0 rfl ?_;walk_at"g";rw[decide_eq_true h1];walk_at"g";rw[decide_eq_true h2];walk_at"g";rw[decide_eq_true h3];exact SJ rfl q
def Ψ (xs:List α)(f:α->D):(xs.map f).map (fun _=>D.bl true)=(xs.map fun _=>true).map D.bl:=by rw[XF,XF];rfl
def Cg:ZX:=fun ds S Q=>∃ (z:D) (fs:List Fg),ds=[z]/\Lst S z (fs.map Xx)/\fs.length<=100/\(∀ F∈fs,LC F)/\Q .non S
abbrev oO:DS :=(ZM (Yu (dT (dB Vf (zc (Zg 1 [] (z9 Z4) Y0 Yc (dCall Dd Zd)) zm)))) Yj zF)
def ze5:BodyOk 1 oO Cg:=by
 rintro ds S Q ⟨z,fs,rfl,hz,hl,hf,q⟩;unfold oO;walk_at"g";refine Xy (fun _=>true) (fun _=>.bl true) hz (by rw[qa];unfold big;lia) (fun i d ys hd hw=>?_) ?_
 ·obtain⟨F,hF,rfl⟩:=nJ hd;have k:=hf F (qc hF);walk_at"g";refine⟨F,rfl,k.b.x,k.b.z,k.o,?_⟩;exact Xm hd hw rfl rfl
 rw[filter_true,Ψ];walk_at"g";refine Mw (b:=true) Lst.at0 (by rw[M7,Vk];intro _ _;rfl) ?_;walk_at"g";exact SJ rfl q
def GF:ZX:=fun ds S Q=>∃ (hz:Option Int) (a b d:Int),ds=[Vn hz,.int a,.int b,.int d]/\a<=b/\0<=d/\(∀ z,hz=some z->0<=z)/\Q .non S
abbrev v9:DS :=
    (zj (ZM (dT (Z6 Yg Z0 ZW)) Yj zF)
 (zj (ZM (dT (Z6 oLt ZS ZF)) Yj zF)
 (ZM (Xb (dT (Z6 Wv Z4 (dC .non))) (dT (Z6 oLt Z4 ZF))) Yj zF)))
def ze0:BodyOk 4 v9 GF:=by
 rintro ds S Q ⟨hz,a,b,d,rfl,hab,hd,hh,q⟩;unfold v9;walk_at"g";rw[decide_eq_false (show ¬ b<a by lia)];walk_at"g";rw[decide_eq_false (show ¬ d<0 by lia)];cases hz with
 |none =>walk_at"g";exact fin_same q
 |some z =>have:=hh z rfl;unfold Vn;walk_at"g";rw[decide_eq_false (show ¬ z<0 by lia)];walk_at"g";exact fin_same q
def Il:ZX:=fun ds S Q=>∃ (S0:Z7) (g y z:D) (V:Vl),ds=[.ref S0.length,g,y,z,Vn V.hz,.int V.h0,.int V.h1,.int V.dl]/\S=S0++[.ins "Valley" []]/\WW S0 g V.cs/\Lst S0 y (V.bs.map X3)/\Lst S0 z (V.fs.map Xx)/\Y8 V/\∀ T,Zk (S0++T) (.ref S0.length) V->Q .non (S0++T)
abbrev uD:DS :=
    (zj (Za (dCall Cw (zc ZW Yw)))
 (zj (Za (dCall CT (zc (Zg 1 [] (z9 ZW) Y0 Yc Xd) zm)))
 (zj (Za (dCall Fj (zc Z0 Ym)))
 (zj (Za (dCall Cg Yw))
 (zj (Za (dCall GF (zc ZJ (zc Zf (zc Yo KY)))))
 (zj (VG "Valley" "ground" Z4 (dCall uJ (zc (Yl "corners" Z0) zm)))
 (zj (VG "Valley" "beacons" Z4 (dB Qk Ym))
 (zj (VG "Valley" "fogs" Z4 (dB Qk Yw))
 (zj (VG "Valley" "haze" Z4 ZJ)
 (zj (VG "Valley" "first" Z4 Zf)
 (zj (VG "Valley" "last" Z4 Yo)
 (VG "Valley" "delay" Z4 Wa))))))))))))
def gK:BodyOk 8 uD Il:=by
 rintro ds S Q ⟨S0,g,y,z,V,rfl,rfl,hg,hy,hz,ok,q⟩;unfold uD;obtain⟨Sa,hSa⟩:∃ Sa:Z7,Sa=S0++[.ins "Valley" []]:=⟨_,rfl⟩
 have hya:Lst Sa y (V.bs.map X3):=hSa▸hy.old;have hza:Lst Sa z (V.fs.map Xx):=hSa▸hz.old;rw[<- hSa];walk_at"g";refine⟨y,z,_,_,rfl,hya,hza,by rw[qa];exact ok.b1,by rw[qa];exact ok.b12,by rw[qa];exact ok.f12,?_⟩;walk_at"g";have b12:=ok.b12;have f12:=ok.f12;refine Xy (fun _=>true) (Iw fun b=>.str b.1) hya (by rw[qa];unfold big;lia) (fun i d ys hd hw=>?_) ?_
 ·obtain⟨b,_,rfl⟩:=K1 hd;walk_at"g";exact Xm hd hw rfl rfl
 rw[filter_true,Hj,show V.bs.map (fun b=>D.str b.1)=(V.bs.map (·.1)).map D.str by rw[XF];rfl,hSa];walk_at"g";refine⟨_,V.bs.map (·.1),rfl,Lst.at rfl,by rw[qa];lia,fun n hn=>?_,ok.nd,?_⟩
 ·obtain⟨b,hb,rfl⟩:=qw.mp hn;exact ok.nm b hb
 walk_at"g";generalize (V.bs.map (·.1)).map D.str=nms;refine⟨g,y,V.cs,V.bs,rfl,hg.old,ok.gr,hy.old,by lia,fun b hb=>⟨ok.st b hb,ok.bd b hb⟩,?_⟩;walk_at"g";refine⟨z,V.fs,rfl,hz.old,by lia,ok.fg,?_⟩;walk_at"g";refine⟨V.hz,_,_,_,rfl,ok.hh,ok.dl,ok.hz,?_⟩;obtain⟨gn,gl,rfl,hgn,hgl⟩:=hg;have hgn1:(S0++[.ins "Valley" [],.lst nms])[gn]?=some (.ins "Ground" [("corners",.ref gl)]):=zE hgn;walk_at"g";refine⟨_,_,V.cs,rfl,rfl,.inr ⟨gl,rfl,zE hgl⟩,ok.gr,⟨rfl,?_⟩⟩;rw[qq,show(S0++[Cell.ins "Valley" [],.lst nms]).length=S0.length+2 by simp,show([Cell.ins "Valley" [],.lst nms]:Z7)++[.ins "Ground" [("corners",.ref (S0.length+2+1))],.lst (V.cs.map p2)]=[.ins "Valley" [],.lst nms,.ins "Ground" [("corners",.ref (S0.length+3))],.lst (V.cs.map p2)]from rfl];walk_at"g";refine⟨S0.length,[],rfl,zM,by decide,?_⟩;rw[Sh,Û];have hy2:∀ T,Lst (S0++T) y (V.bs.map X3):=fun T=>hy.old
 have hz2:∀ T,Lst (S0++T) z (V.fs.map Xx):=fun T=>hz.old
 walk_at"g";refine⟨S0.length,_,rfl,zM,by simp,?_⟩;rw[Sh,vp2];walk_at"g";refine⟨S0.length,_,rfl,zM,by simp,?_⟩;rw[Sh,lg];walk_at"g";refine⟨S0.length,_,rfl,zM,by simp,?_⟩;rw[Sh,jm];walk_at"g";refine⟨S0.length,_,rfl,zM,by simp,?_⟩;rw[Sh,Ŧ];walk_at"g";refine⟨S0.length,_,rfl,zM,by simp,?_⟩;rw[Sh,vp6];walk_at"g";refine⟨S0.length,_,rfl,zM,by simp,?_⟩;rw[Sh,jr];refine fin_same (q _ ⟨S0.length,_,_,_,rfl,zM,⟨_,_,rfl,(zP _ _ 2).trans rfl,(zP _ _ 3).trans rfl⟩,(zP _ _ 4).trans rfl,(zP _ _ 5).trans rfl⟩)
def ο:ZX:=SX "Valley" Il
def Xo:List (Int×Int):=[(-3,-1),(8,0)]
def sX:W8 Xo where
  two:=by decide
  most:=by decide
  asc:=by unfold Xo;simp
  bd:=fun c hc=>by
    have:c=(-3,-1)\/c=(8,0):=by simpa [Xo]using hc
    rcases this with rfl|rfl<;>exact⟨(by show _<2 ^ 170;decide),(by show _<2 ^ 190;decide)⟩
def stN {s:Int×Int}(h0:0<=s.1)(h1:s.1<=4)(h2:0<=s.2):WT Xo s:=by
 refine⟨⟨?_,?_⟩,fun a b h=>?_⟩
 ·show(-3:Int)*1<=s.1;lia
 ·show s.1<=(8:Int)*1;lia
 ·have e:Tv Xo (s.1,1)=some ((-3,-1),(8,0)):=by
   show(if s.1<=(8:Int)*1 then _ else _)=_;rw[if_pos (by lia)]
  rw[e]at h;cases h;unfold Qs Ul;simp;lia
def Ir:ZX:=fun ds S Q=>∃ (a b c:D) (zs:List Str) (ps:List (Int×Int)) (fs:List Fg) (hz f:Int),ds=[.tup [a,b,c,.int hz,.int f,.int (f+5)]]/\Mz zs ps fs hz f/\Lst S a (zs.map D.str)/\Lst S b (ps.map p2)/\Lst S c (fs.map Xx)/\∀ (T:Z7) (v:D) (V:Vl),Zk (S++T) v V->Y8 V->V.bs.map (·.1)=zs->V.h0=f->V.h1=f+5->Q v (S++T)
abbrev o7:DS :=
    (zj (zq Z4 (YL 6 (zK Ww (zK YB (zK YS (zK YH (zK Yx (zK VN YW))))))))
 (zj (zq (Zg 2 [] (Ke (zc Z0 Ym)) (YL 2 (zK Y0 (zK Ww YW))) Yc (dTup (zc Z4 (zc WD (zc T9 zm))))) Q6)
 (zB (dCall ο (zc (dCall uJ (zc (Yn (zc (dTup (zc (Wu Wq JK) (zc (Wu Wq ZK) zm))) (zc (dTup (zc Jx (zc ZF zm))) zm))) zm)) (zc Wa (zc ZS (zc ZJ (zc Zf (zc Yo (zc ZK zm)))))))))))
def aK:BodyOk 8 o7 Ir:=by
  rintro ds S Q ⟨a,b,c,zs,ps,fs,hz,f,rfl,w,ha,hb,hc,q⟩;unfold o7;have l8:=w.l8;have l2:=w.l2;have lp:=w.lp;walk_at"g";refine zxO ha hb ?_;refine Nq (fun i ys S'=>S'=S/\ys=((zs.zip ps).take i).map X3) ⟨rfl,rfl⟩ (fun i ys S' e=>e.1▸⟨ha,hb⟩) (by rw[R7,qa,qa];unfold big;lia) ?_ ?_
  . rintro i d ys S' hd ⟨rfl,rfl⟩;obtain⟨x,y,hx,hy,rfl⟩:=JX hd;obtain⟨z,hz',rfl⟩:=Xl hx;obtain⟨p,hp,rfl⟩:=Dm hy;walk_at"g";refine⟨rfl,?_⟩;rw[V8 (x:=(z,p)) (by rw[List.getElem?_zip_eq_some];exact⟨hz',hp⟩),qD];rfl
  rintro ys S' ⟨rfl,rfl⟩;rw[R7,qa,qa,lp,Nat.min_self,Dj (by rw[List.length_zip];lia)];obtain⟨bs,hbs⟩:∃ bs:List (Str×(Int×Int)),bs=zs.zip ps:=⟨_,rfl⟩
  have bn:bs.map (·.1)=zs:=by rw[hbs];exact List.map_fst_zip (by lia)
  have bl:bs.length=zs.length:=by rw[<- bn,qa]
  have bsp:∀ b∈bs,b.1∈zs/\b.2∈ps:=fun b hb=>by rw[hbs]at hb;exact⟨(Mh hb).1,(Mh hb).2⟩
  rw[<- hbs];clear hbs;have sm:∀ {n:Nat} {x:Int},170<=n->-100<=x->x<=100->Bd n x:=fun {n x} hn h1 h2=>(show Bd 7 x by show _<2 ^ 7;lia).mono (by lia)
  have f0:=w.f0;have f1:=w.f1
  have ok:Y8 ⟨Xo,bs,fs,some hz,f,f+5,1⟩ :=
    { gr:=sX,b1:=(by show 1<=bs.length;lia),b12:=(by show bs.length<=12;lia),nm:=fun b hb=>w.nm _ (bsp b hb).1,nd:=(by show(bs.map (·.1)).Nodup;rw[bn];exact w.nd)
      st:=fun b hb=>by have:=w.sp _ (bsp b hb).2;exact stN (by lia) (by lia) (by lia)
      bd:=fun b hb=>by have:=w.sp _ (bsp b hb).2;exact⟨sm (by decide) (by lia) (by lia),sm (by decide) (by lia) (by lia)⟩
      f12:=(by have:=w.lf;show fs.length<=12;lia),fg:=w.fg,hz:=(fun z e=>by have e':hz=z:=qF e;subst e';exact w.h0),hh:=(by show f<=f+5;lia),b0:=sm (by decide) (by show -100<=f;lia) (by show f<=100;lia),bl:=sm (by decide) (by show -100<=f+5;lia) (by show f+5<=100;lia),dl:=(by show(0:Int)<=1;decide) }
  walk_at"g";refine⟨S'++[.lst (bs.map X3),.lst (Xo.map p2)],_,Xo,by simp,by simp;rfl,Lst.at (k:=1) rfl,sX,⟨rfl,?_⟩⟩;obtain⟨Sb,hSb⟩:∃ Sb:Z7,Sb=S'++[.lst (bs.map X3),.lst (Xo.map p2)]++[.ins "Ground" [("corners",.ref ((S'++[Cell.lst (bs.map X3),.lst (Xo.map p2)]).length+1))],.lst (Xo.map p2)]:=⟨_,rfl⟩
  have hg:WW Sb (.ref ((S'++[Cell.lst (bs.map X3),.lst (Xo.map p2)]).length)) Xo:=hSb▸⟨_,_,rfl,zM,(zP _ _ 1).trans rfl⟩;have hbb:Lst Sb (.ref S'.length) (bs.map X3):=hSb▸Lst.old Lst.at0;have e1:∃ T,Sb=S'++T:=G9 ⟨_,rfl⟩ hSb;have hcc:Lst Sb c (fs.map Xx):=by obtain⟨T,rfl⟩:=e1;exact hc.old
  rw[<- hSb];have eg:(S'++[Cell.lst (bs.map X3),Cell.lst [p2 (-3,-1),p2 (8,0)]]).length=(S'++[Cell.lst (bs.map X3),.lst (Xo.map p2)]).length:=rfl;clear hSb;walk_at"g";refine⟨Sb,_,_,_,⟨Xo,bs,fs,some hz,f,f+5,1⟩,rfl,rfl,hg,hbb,hcc,ok,fun T hv=>⟨rfl,?_⟩⟩;obtain⟨T1,rfl⟩:=e1;rw[qq]at hv ⊢;exact fin_same (q _ _ _ hv ok bn rfl rfl)
def Ks:Ys:=fun ds S Q ex=>∃ (v:D) (V:Vl) (h:Int),ds=[v,.int h]/\Zk S v V/\(¬ (V.h0<=h/\h<=V.h1)->ex "BadHour" S)/\(V.h0<=h->h<=V.h1->Q .non S)
abbrev Bw (ex:XR):DS :=(ZM (Yz (dT (Z6 oLt Z0 (Yl "first" Z4))) (dT (Z6 Yg Z0 (Yl "last" Z4)))) (RN ex "BadHour") zF)
def zfK:Vj 2 Bw Ks:=by
 rintro ds S Q ex ⟨v,V,h,rfl,hv,hx,q⟩;unfold Bw;obtain⟨m,g,b',f,rfl,hm,hg,hb,_⟩:=hv;walk_at"g";refine Zo (fun h1=>?_) (fun h1=>?_)
 ·walk_at"g";exact hx (by lia)
 walk_at"g";refine Zo (fun h2=>?_) (fun h2=>?_)
 ·walk_at"g";exact hx (by lia)
 walk_at"g";exact fin_same (q (by lia) (by lia))
def Rj:ZX:=fun ds S Q=>∃ (v:D) (V:Vl),ds=[v]/\Zk S v V/\V.bs.length<=100/\New Q S ((V.bs.map (·.1)).map D.str)
abbrev tu:DS :=(zB (Zg 1 [] (z9 (Yl "beacons" Z4)) Y0 Yc Xd))
def zkc:BodyOk 1 tu Rj:=by
 rintro ds S Q ⟨v,V,rfl,hv,hl,q⟩;unfold tu;obtain⟨m,g,b',f,rfl,hm,hg,hb,_⟩:=hv;walk_at"g";refine Xy (fun _=>true) (Iw fun b=>.str b.1) (Lst.here hb) (by rw[qa];unfold big;lia) (fun i d ys hd hw=>?_) ?_
 ·obtain⟨b,_,rfl⟩:=K1 hd;walk_at"g";exact Xm hd hw rfl rfl
 rw[filter_true,Hj,show V.bs.map (fun b=>D.str b.1)=(V.bs.map (·.1)).map D.str by rw[XF];rfl];exact fin_same q
def Dq:ZX:=fun ds S Q=>∃ (v:D) (V:Vl),ds=[v]/\Zk S v V/\Y8 V/\∀ (T:Z7) (n:Nat),(S++T)[n]?=some (.lst ((prs (V.bs.map (·.1))).map Zx))->Q (.ref n) (S++T)
abbrev nM:DS :=
    (zj (zq (dCall Rj Zd) Ww)
 (zj (zq (Yn zm) YB)
 (zj (YQ (V6 YJ) (YL 2 (zK YS (zK YH YW))) (YQ (z9 (Vm Vr Z0 (some (Z6 Zr ZS ZK)) none)) Yx (Za (dM Wf ZW (zc (dTup (zc ZJ Qc)) zm)))))
 (zB ZW))))
def ä:BodyOk 6 nM Dq:=by
 rintro ds S Q ⟨v,V,rfl,hv,ok,q⟩;unfold nM;have b12:=ok.b12;walk_at"g";refine⟨v,V,rfl,hv,by lia,?_⟩;have hz:∀ z∈V.bs.map (·.1),fl 20 (.str z)=true:=ok.flN;have zl:(V.bs.map (·.1)).length<=12:=by rw[qa];exact b12
 generalize V.bs.map (·.1)=zs at q hz zl;walk_at"g";refine Pr Lst.at0 ?_;refine wg (fun i Z S'=>∃ (G:Z7) (w3 w4 w5:Option D) (A:List (Str×Str)),S'=S++Cell.lst (zs.map D.str)::Cell.lst (A.map Zx)::G/\Z=[some v,some (.ref S.length),some (.ref (S.length+1)),w3,w4,w5]/\prs zs=A++prs (zs.drop i)) ⟨[],_,_,_,[],rfl,rfl,by simp⟩ (by rintro i Z S' ⟨G,_,_,_,A,e,_⟩;exact e▸Lst.at0) ?_ ?_
 ·rintro i d Z S' hd ⟨G,w3,w4,w5,A,rfl,rfl,hA⟩;obtain⟨y,hy,rfl⟩:=R8 hd;obtain⟨z,hzi,rfl⟩:=Xl hy;have hi:=zA hzi;obtain⟨A',h1,h2⟩:=Ae hzi;have eA:A=A':=List.append_cancel_right (hA.symm.trans h2);subst eA;have kz:Lst (S++Cell.lst (zs.map D.str)::Cell.lst (A.map Zx)::G) (.ref S.length) (zs.map D.str):=Lst.at0;walk_at"g";rw[Ng,Tt,zpj _ (by lia) (by lia),show((i:Int)+1).toNat=i+1 by lia]
  have lA:A.length<=144:=by have:=N5 zs;have h3:=congrArg List.length hA;rw[qf]at h3;have:zs.length*zs.length<=12*12:=Og zl zl;lia
  have ll:(zs.drop (i+1)).length<=12:=by rw[O7];lia
  generalize zs.drop (i+1)=rs at h1 ll;refine wg (fun j Z S'=>∃ (w5:Option D),S'=S++Cell.lst (zs.map D.str)::Cell.lst ((A++(rs.take j).map fun y=>(z,y)).map Zx)::(G++[.lst (rs.map D.str)])/\Z=[some v,some (.ref S.length),some (.ref (S.length+1)),some (.int (i:Int)),some (.str z),w5]) ⟨w5,by simp,by rfl⟩ (fun j Z S' ⟨w5,e,_⟩=>by rw[e];exact .inr ⟨_,rfl,by show(S++([_,_]++(G++_)))[S.length+([Cell.lst (zs.map D.str),Cell.lst (A.map Zx)]++G).length]?=_;rw[zP,<- qq,qe (by simp)];simp⟩) ?_ ?_
  ·rintro j d Z S' hd' ⟨w5,rfl,rfl⟩;obtain⟨x,hx,rfl⟩:=Xl hd';have hj:=zA hx
   have hlim:((A++(rs.take j).map fun y=>(z,y)).map Zx).length<big:=by rw[qa,qf,qa,WX];unfold big;lia
   walk_at"g";refine⟨_,?_,rfl⟩;rw[V8 hx];simp only[K5,List.set_cons_zero,qD,qq,qO,QD]
  ·rintro Z S' ⟨w5,rfl,rfl⟩;rw[qa,Ve];refine⟨_,_,_,_,_,rfl,rfl,h1⟩
 ·rintro Z S' ⟨G,w3,w4,w5,A,rfl,rfl,hA⟩;rw[VB,qa,List.drop_of_length_le (qh _)]at hA;have eA:prs zs=A:=by rw[hA];simp[prs]
  walk_at"g";subst eA;exact fin_same (q _ _ ((zP _ _ 1).trans rfl))
def Lb:Ys:=fun ds S Q ex=>∃ (v:D) (V:Vl) (n:Str),ds=[v,.str n]/\Zk S v V/\Y8 V/\fl 20 (.str n)=true/\((∀ b∈V.bs,b.1≠n)->ex "NoBeacon" S)/\∀ s,(n,s)∈V.bs->Q (p2 s) S
abbrev pF (ex : XR) : DS :=
    (zj (YQ (z9 (Yl "beacons" Z4)) YB (ZM (dT (Z6 oEq QX Z0)) (zB (dTup (zc Tg (zc fP zm)))) zF))
 (RN ex "NoBeacon"))
def zk6:Vj 3 pF Lb:=by
 rintro ds S Q ex ⟨v,V,n,rfl,hv,ok,hn,hx,q⟩;unfold pF;obtain⟨m,g,b',f,rfl,hm,hg,hb,_⟩:=hv;walk_at"g";refine Yi (fun i Z S'=>S'=S/\(∃ w,Z=[some (.ref m),some (.str n),w])/\∀ b∈V.bs.take i,b.1≠n) ⟨rfl,⟨none,rfl⟩,by simp⟩ (fun i Z S' h=>h.1▸Lst.here hb) ?_ ?_
 ·rintro i d Z S' hd ⟨rfl,⟨w,rfl⟩,hno⟩;obtain⟨b,hbi,rfl⟩:=K1 hd;have mb:=qc hbi;walk_at"g";refine oN (uy (ok.nm b mb) 20) hn ?_;walk_at"g";refine Zo (fun h=>?_) (fun h=>?_)
  ·walk_at"g";exact fin_same (q b.2 (by rw[<- h];exact mb))
  ·walk_at"g";refine⟨rfl,⟨_,rfl⟩,fun c hc=>?_⟩;rw[V8 hbi]at hc;rcases qC.mp hc with hc|hc
   ·exact hno c hc
   ·have:c=b:=by simpa using hc
    subst this;exact h
 ·rintro Z S' ⟨rfl,⟨w,rfl⟩,hno⟩;rw[qa,Ve]at hno;walk_at"g";exact hx hno
def Jg:Ys:=fun ds S Q ex=>∃ (g:D) (cs:List (Int×Int)) (s:Int×Int),ds=[g,p2 s]/\WW S g cs/\W8 cs/\Bd 180 s.1/\Bd 200 s.2/\(¬ WT cs s->ex "OffGround" S)/\(WT cs s->Q .non S)
abbrev Bh (ex:XR):DS :=(ZM (Yu (dT (dCall Kd (zc Z4 YJ)))) (RN ex "OffGround") zF)
def aJ:Vj 2 Bh Jg:=by
 rintro ds S Q ex ⟨g,cs,s,rfl,hg,gr,b1,b2,hx,q⟩;unfold Bh;walk_at"g";refine⟨g,cs,s,rfl,hg,gr,b1,b2,fun b hb=>?_⟩;cases b with
 | true=>walk_at"g";exact fin_same (q (hb.mp rfl))
 | false=>walk_at"g";exact hx fun z=>(by have:=hb.mpr z;cases this)
def Gv:ZX:=fun ds S Q=>∃ (g:D) (cs:List (Int×Int)) (x y:Int),ds=[g,.int x,.int y]/\WW S g cs/\cs.length<=40/\New Q S ((Yt cs x y cs.length).map D.int)
abbrev uG:DS :=
    (zj (zq (dB RG (zc Z0 Ym)) YS)
 (zj (zq (dB Qg (zc Z0 Ym)) YH)
 (zB (Zg 2 [3,4] (V6 (zc (Yl "corners" Z4) zm)) (YL 2 (zK Y0 (zK Ww YW))) (dT (QG oLt oLt ZW WD ZS)) Z4))))
def zfn:BodyOk 5 uG Gv:=by
 rintro ds S Q ⟨g,cs,x,y,rfl,⟨n,l,rfl,hn,hl⟩,h40,q⟩;unfold uG;walk_at"g";refine Pr (xs:=cs.map p2) (Lst.here hl) ?_;refine⟨by rw[VB,qa];unfold big;lia,fun i ys S'=>S'=S/\ys=(Yt cs x y i).map D.int,⟨rfl,rfl⟩,by rintro i ys S' ⟨e,_⟩;exact e▸Lst.here hl,?_,?_⟩
 ·rintro i d ys S' hd ⟨rfl,rfl⟩;obtain⟨u,hu,rfl⟩:=R8 hd;obtain⟨c,hc,rfl⟩:=Dm hu;have e0:((0+i:Nat):Int)=(i:Int):=by lia
  have eg:cs.getD i (0,0)=c:=by rw[qJ,hc];rfl
  rw[e0];walk_at"g";refine Zo (fun g1=>?_) (fun g1=>?_)
  ·walk_at"g";refine Zo (fun g2=>?_) (fun g2=>?_)
   ·walk_at"g";exact⟨rfl,(zvT (by unfold Tq;rw[eg,decide_eq_true g1,decide_eq_true g2];rfl)).symm⟩
   ·walk_at"g";exact⟨rfl,by rw[xU (by unfold Tq;rw[eg,decide_eq_false g2,SQ])]⟩
  ·walk_at"g";exact⟨rfl,by rw[xU (by unfold Tq;rw[eg,decide_eq_false g1,VJ])]⟩
 ·rintro ys S' ⟨rfl,rfl⟩;rw[VB,qa];exact fin_same q
def Gp:ZX:=fun ds S Q=>∃ (a b c:Int×Int),ds=[p2 a,p2 b,p2 c]/\Y4 (c.2-a.2) (b.1-a.1)/\Y4 (c.1-a.1) (b.2-a.2)/\Q (.int (O8 a b c)) S
abbrev pO:DS :=
    (zj (zq (Z6 Zm WD Xd) YS)
 (zj (zq (Z6 Zm T9 Wh) YH)
 (zj (zq (Z6 Zm (Z6 Y5 (Z6 Zm Tg Wh) ZS) (Z6 Y5 (Z6 Zm QX Xd) ZJ)) Yx)
 (zj (sJ (ZM (dT (Z6 oLt ZS ZF)) (zq (Wu Wq Zf) Yx) zF))
 (zj (ZM (dT (Z6 Yg Zf ZF)) (zB ZK) zF)
 (zj (ZM (dT (Z6 oLt Zf ZF)) (zB (Wu Wq ZK)) zF)
 (zB ZF)))))))
def mD:BodyOk 6 pO Gp:=by
 rintro ds S Q ⟨a,b,c,rfl,c1,c2,q⟩;unfold pO;walk_at"g";unfold O8 at q
 have key:∀ o:Int,o=(if b.1-a.1<0 then -XJ a b c else XJ a b c)->(if 0<o then Q (.int 1) S else if o<0 then Q (.int (-1)) S else Q (.int 0) S):=fun o e=>by
  rw[<- e]at q;by_cases h:0<o
  ·rw[if_pos h]at q ⊢;exact q
  ·rw[if_neg h]at q ⊢;by_cases h2:o<0
   ·rw[if_pos h2]at q ⊢;exact q
   ·rw[if_neg h2]at q ⊢;exact q
 refine rY (fun Z S'=>S'=S/\Z=[some (p2 a),some (p2 b),some (p2 c),some (.int (b.1-a.1)),some (.int (b.2-a.2)),some (.int (if b.1-a.1<0 then -XJ a b c else XJ a b c))]) ?_ ?_
 ·walk_at"g";refine Zo (fun g=>?_) (fun g=>?_)
  ·walk_at"g";exact⟨rfl,by rw[if_pos g];rfl⟩
  ·walk_at"g";exact⟨rfl,by rw[if_neg g];rfl⟩
 rintro Z S' ⟨rfl,rfl⟩;have k:=key _ rfl;generalize (if b.1-a.1<0 then -XJ a b c else XJ a b c)=o at k;walk_at"g";refine Zo (fun g=>?_) (fun g=>?_)
 ·rw[if_pos g]at k;walk_at"g";exact fin_same k
 ·rw[if_neg g]at k;walk_at"g";refine Zo (fun g2=>?_) (fun g2=>?_)
  ·rw[if_pos g2]at k;walk_at"g";exact fin_same k
  ·rw[if_neg g2]at k;walk_at"g";exact fin_same k
def Fo:Ys:=fun ds S Q ex=>∃ (g:D) (cs:List (Int×Int)) (a b:Int×Int),ds=[g,p2 a,p2 b]/\WW S g cs/\W8 cs/\(Bd 180 a.1/\Bd 200 a.2)/\(Bd 180 b.1/\Bd 200 b.2)/\(¬ (WT cs a/\WT cs b)->ex "OffGround" S)/\(WT cs a->WT cs b->Q (Vn (Vt cs a b)) S)
abbrev yw (ex : XR) : DS :=
    (zj (Za (Yk Jg ex (zc Z4 YJ)))
 (zj (Za (Yk Jg ex (zc Z4 Ym)))
 (zj (YQ (z9 (dCall Gv (zc Z4 (zc WD (zc QX zm))))) YS (ZM (dT (Z6 Yg (dCall Gp (zc Z0 (zc ZW (zc (Z6 ZR (Yl "corners" Z4) ZS) zm)))) ZF)) (zB ZS) zF))
 (zB (dC .non)))))
def Ś:Vj 4 yw Fo:=by
 rintro ds S Q ex ⟨g,cs,a,b,rfl,hg,gr,ba,bb,hx,q⟩;unfold yw;walk_at"g";refine⟨g,cs,a,rfl,hg,gr,ba.1,ba.2,fun z=>hx fun y=>z y.1,fun za=>?_⟩;walk_at"g";refine⟨g,cs,b,rfl,hg,gr,bb.1,bb.2,fun z=>hx fun y=>z y.2,fun zb=>?_⟩;have sa:=Std.of ba.1 ba.2 za;have sb:=Std.of bb.1 bb.2 zb;have q:=q za zb;walk_at"g";refine⟨g,cs,_,_,rfl,hg,gr.most,?_⟩;have kl:∀ k∈Yt cs a.1 b.1 cs.length,0<=k/\k<cs.length:=fun k hk=>zsx hk
 unfold Vt at q;generalize Yt cs a.1 b.1 cs.length=ks at q kl;unfold New;walk_at"g";refine Yi (fun i Z S'=>∃ w1,Z=[some g,some (p2 a),some (p2 b),w1]/\S'=S++[.lst (ks.map D.int)]/\∀ x∈ks.take i,LR cs a b x=false) ⟨none,rfl,rfl,by simp⟩ (by rintro i Z S' ⟨w1,_,e,_⟩;exact e▸Lst.at0) ?_ ?_
 ·rintro i d Z S' hd ⟨w1,rfl,rfl,hn⟩;obtain⟨k,hk,rfl⟩:=PN hd;obtain⟨k0,k1⟩:=kl k (qc hk);obtain⟨c,hc,ac⟩:=Ku (cs:=cs) k0 k1;have eg:cs.getD k.toNat (0,0)=c:=by rw[qJ,hc];rfl
  obtain⟨bc1,bc2⟩:=gr.bd c (qc hc);obtain⟨n,l,rfl,hgn,hgl⟩:=hg.old (T:=[.lst (ks.map D.int)]);walk_at"g";refine⟨a,b,c,rfl,.inl ⟨(Bd.sub (bc2.mono (by decide:(190:Nat)<=200)) sa.2.1).mono (by decide),(Bd.sub sb.1 sa.1).mono (by decide)⟩,.inl ⟨(Bd.sub (bc1.mono (by decide:(170:Nat)<=180)) sa.1).mono (by decide),(Bd.sub sb.2.1 sa.2.1).mono (by decide)⟩,?_⟩;walk_at"g";refine Zo (fun g1=>?_) (fun g1=>?_)
  ·walk_at"g";rw[wC hk hn (by unfold LR;rw[eg];exact decide_eq_true g1)]at q;exact SJ rfl q
  ·walk_at"g";refine⟨_,rfl,rfl,fun x hx=>?_⟩;rw[V8 hk]at hx;rcases qC.mp hx with hx|hx
   ·exact hn x hx
   ·have:x=k:=by simpa using hx
    subst this;unfold LR;rw[eg];exact decide_eq_false g1
 ·rintro Z S' ⟨w1,rfl,rfl,hn⟩;rw[qa,Ve]at hn;rw[ř hn]at q;walk_at"g";exact SJ rfl q
def Ed:ZX:=fun ds S Q=>∃ (a b:Int×Int),ds=[p2 a,p2 b]/\(Bd 180 a.1/\Bd 200 a.2)/\(Bd 180 b.1/\Bd 200 b.2)/\Q (.int (UL a b)) S
abbrev Bl:DS :=
    (zj (zq (Z6 Zm WD Xd) YB)
 (zj (zq (Z6 Zm T9 Wh) YS)
 (zB (Z6 Zr (Z6 Y5 ZW ZW) (Z6 Y5 ZS ZS)))))
def mX:BodyOk 4 Bl Ed:=by rintro ds S Q ⟨a,b,rfl,⟨a1,a2⟩,⟨b1,b2⟩,q⟩;unfold Bl;have c1:Bd 8000 (b.1-a.1):=(Bd.sub b1 a1).mono (by decide);have c2:Bd 8000 (b.2-a.2):=(Bd.sub b2 a2).mono (by decide);have m1:Y4 (b.1-a.1) (b.1-a.1):=.inl ⟨c1,c1⟩;have m2:Y4 (b.2-a.2) (b.2-a.2):=.inl ⟨c2,c2⟩;walk_at"g";exact fin_same q
def Ef:ZX:=fun ds S Q=>∃ (v:D) (V:Vl) (a b:Int×Int),ds=[v,p2 a,p2 b]/\Zk S v V/\Y8 V/\((Bd 180 a.1/\Bd 200 a.2)/\WT V.cs a)/\((Bd 180 b.1/\Bd 200 b.2)/\WT V.cs b)/\Q (QS V a b) S
abbrev oE:DS :=
    (zj (zq (Yk Fo xF (zc (Yl "ground" Z4) (zc Z0 Ym))) YS)
 (zj (ZM (dT (Z6 Wv ZS (dC .non))) (zB (dTup (zc (dC (.str "ground")) Yw))) zF)
 (zj (zq (dCall Ed (zc Z0 Ym)) YH)
 (zj (ZM (Xb (dT (Z6 Wv (Yl "haze" Z4) (dC .non))) (dT (Z6 Yg ZJ (Yl "haze" Z4)))) (zB (dTup (zc (dC (.str "haze")) Kr))) zF)
 (zB (dC .non))))))
def zga:BodyOk 5 oE Ef:=by
 rintro ds S Q ⟨v,V,a,b,rfl,hv,ok,⟨ba,sa⟩,⟨bb,sb⟩,q⟩;unfold oE;obtain⟨n,g,bb',f,rfl,hn,hg,_,_⟩:=hv;walk_at"g";refine⟨_,V.cs,a,b,rfl,hg,ok.gr,ba,bb,fun no=>(no ⟨sa,sb⟩).elim,fun _ _=>?_⟩;unfold QS at q;cases e:Vt V.cs a b with
 |some k =>rw[e]at q;unfold Vn;walk_at"g";exact fin_same q
 |none =>
  rw[e]at q;unfold Vn;walk_at"g";refine⟨a,b,rfl,ba,bb,?_⟩;dsimp only at q;have hn':S[n]?=some (.ins "Valley" (vF (.ref g) (.ref bb') (.ref f) (Vn V.hz) (.int V.h0) (.int V.h1) (.int V.dl))):=hn;generalize UL a b=sq at q;generalize V.hz=hz at q hn';cases hz with
  |none =>have q2:Q .non S:=q;unfold Vn at hn';walk_at"g";exact fin_same q2
  |some z =>
   have q2:Q (if decide (z<sq)=true then .tup [.str "haze",.int sq]else .non) S:=q;unfold Vn at hn';walk_at"g";refine Zo (fun h=>?_) (fun h=>?_)
   ·rw[if_pos (decide_eq_true h)]at q2;walk_at"g";exact fin_same q2
   ·rw[if_neg (by rw[decide_eq_false h];decide)]at q2;walk_at"g";exact fin_same q2
def DY:ZX:=fun ds S Q=>∃ (F:Fg) (h:Int),ds=[Xx F,.int h]/\Y4 F.g h/\Y4 F.s h/\Q (.tup [.int (F.x0+F.g*h),.int (F.x1+F.g*h),.int (F.z0+F.s*h),.int (F.z1+F.s*h)]) S
abbrev vU:DS :=
    (zj (zq (Z6 Y5 bY Z0) YB)
 (zj (zq (Z6 Y5 zvI Z0) YS)
 (zB (dTup (zc (Z6 Zr Xd ZW) (zc (Z6 Zr Wh ZW) (zc (Z6 Zr M4 ZS) (zc (Z6 Zr Oc ZS) zm))))))))
def fG:BodyOk 4 vU DY:=by rintro ds S Q ⟨F,h,rfl,c1,c2,q⟩;unfold vU;walk_at"g";exact fin_same q
def CQ:ZX:=fun ds S Q=>∃ (F:Fg) (h:Int),ds=[Xx F,.int h]/\LC F/\Bd 300 h/\(¬ (F.f<=h/\h<=F.l)->Q .non S)/\(F.f<=h->h<=F.l->Q (.tup [.int (F.x0+F.g*(h-F.f)),.int (F.x1+F.g*(h-F.f)),.int (F.z0+F.s*(h-F.f)),.int (F.z1+F.s*(h-F.f))]) S)
abbrev xJ:DS :=
    (zj (ZM (Yz (dT (Z6 oLt Z0 Fv)) (dT (Z6 Yg Z0 Bg))) (zB (dC .non)) zF)
 (zB (dCall DY (zc Z4 (zc (Z6 Zm Z0 Fv) zm)))))
def znk:BodyOk 2 xJ CQ:=by
 rintro ds S Q ⟨F,h,rfl,ok,bh,q0,q⟩;unfold xJ;walk_at"g";refine Zo (fun h1=>?_) (fun h1=>?_)
 ·walk_at"g";exact fin_same (q0 (by lia))
 walk_at"g";refine Zo (fun h2=>?_) (fun h2=>?_)
 ·walk_at"g";exact fin_same (q0 (by lia))
 walk_at"g";have bk:Bd 301 (h-F.f):=Bd.sub bh ok.f;refine⟨F,_,rfl,.inl ⟨ok.b.bg.mono (by decide),bk.mono (by decide)⟩,.inl ⟨ok.b.bs.mono (by decide),bk.mono (by decide)⟩,?_⟩;exact fin_same (q (by lia) (by lia))
def Ez:ZX:=fun ds S Q=>∃ (L R B T x1 z1 x2 z2:Int),ds=[.tup [.int L,.int R,.int B,.int T],.tup [.int x1,.int z1],.tup [.int x2,.int z2]]/\Bd 1000 L/\Bd 1000 R/\Bd 1000 B/\Bd 1000 T/\Bd 1000 x1/\Bd 1000 z1/\Bd 1000 x2/\Bd 1000 z2 /\
 ∀ (ca cb:Cell) (mx mn:Int),mx∈Zh L R B T x1 z1 x2 z2->(∀ a∈Zh L R B T x1 z1 x2 z2,a<=mx)->mn∈Zh L R B T x1 z1 x2 z2->(∀ a∈Zh L R B T x1 z1 x2 z2,mn<=a)->Q (.ref (S.length+2)) (S++[ca,cb,.lst ((six L R B T x1 z1 x2 z2 mx mn).map D.int)])
abbrev yd:DS :=
    (zj (zq (Z6 Zm QX WD) YS)
 (zj (zq (Z6 Zm Tg T9) YH)
 (zj (zq (Yn (zc (dTup (zc Xd (zc M4 zm))) (zc (dTup (zc Xd (zc Oc zm))) (zc (dTup (zc Wh (zc M4 zm))) (zc (dTup (zc Wh (zc Oc zm))) zm))))) Yx)
 (zj (zq (Zg 2 [3,1,4] (z9 Zf) (YL 2 (zK Y0 (zK Ww YW))) Yc (Z6 Zm (Z6 Y5 ZW (Z6 Zm Z0 zvO)) (Z6 Y5 ZJ (Z6 Zm Z4 sY)))) VN)
 (zB (Yn (zc (Z6 Zm (dB Qg (zc WD (zc QX zm))) Xd) (zc (Z6 Zm Wh (dB RG (zc WD (zc QX zm)))) (zc (Z6 Zm (dB Qg (zc T9 (zc Tg zm))) M4) (zc (Z6 Zm Oc (dB RG (zc T9 (zc Tg zm)))) (zc (dB K7 QK) (zc (Wu Wq (dB Ly QK)) zm))))))))))))
def zlq:BodyOk 7 yd Ez:=by
 rintro ds S Q ⟨L,R,B,T,x1,z1,x2,z2,rfl,bL,bR,bB,bT,b1,b2,b3,b4,q⟩;unfold yd;walk_at"g";refine Xy (fun _=>true) (Γ fun c=>.int ((x2-x1)*(c.2-z1)-(z2-z1)*(c.1-x1))) (by walk_at"l") (qG rfl) (fun i d ys hd hw=>?_) ?_
 ·obtain⟨c,hc,rfl⟩:=Dm (cs:=[(L,B),(L,T),(R,B),(R,T)]) hd;have hm:=qc hc
  have hb:Bd 1000 c.1/\Bd 1000 c.2:=by
   simp only[qu,qM,or_false]at hm;rcases hm with rfl|rfl|rfl|rfl
   ·exact⟨bL,bB⟩
   ·exact⟨bL,bT⟩
   ·exact⟨bR,bB⟩
   ·exact⟨bR,bT⟩
  have hb1:=hb.1;have hb2:=hb.2;have c1:Y4 (x2-x1) (c.2-z1):=.inl ⟨(Bd.sub b3 b1).mono (by decide),(Bd.sub hb2 b2).mono (by decide)⟩;have c2:Y4 (z2-z1) (c.1-x1):=.inl ⟨(Bd.sub b4 b2).mono (by decide),(Bd.sub hb1 b1).mono (by decide)⟩;walk_at"g";exact Xm hd hw rfl rfl
 rw[filter_true];show New _ _ ((Zh L R B T x1 z1 x2 z2).map D.int);walk_at"g";refine mU (ns:=Zh L R B T x1 z1 x2 z2) (by walk_at"l") (qG rfl) fun mx m1 m2=>?_
 walk_at"g";refine uo (ns:=Zh L R B T x1 z1 x2 z2) (by walk_at"l") (qG rfl) fun mn n1 n2=>?_
 walk_at"g";exact fin_same (q _ _ mx mn m1 m2 n1 n2)
def HW:ZX:=fun ds S Q=>∃ (L R B T:Int) (a b:Int×Int),ds=[.tup [.int L,.int R,.int B,.int T],p2 a,p2 b]/\L<=R/\B<=T/\(Bd 700 L/\Bd 700 R/\Bd 700 B/\Bd 700 T)/\(Bd 700 a.1/\Bd 700 a.2)/\(Bd 700 b.1/\Bd 700 b.2)/\∀ r:Bool,(r=true↔RV L R B T a.1 a.2 b.1 b.2)->Q (.bl r) S
abbrev Bc:DS :=(zB (Z6 KD (dB Ly (zc (dCall Ez (zc Z4 (zc Z0 Ym))) zm)) ZF))
def jz:BodyOk 3 Bc HW:=by
 rintro ds S Q ⟨L,R,B,T,a,b,rfl,hx,hz,⟨bL,bR,bB,bT⟩,⟨ba1,ba2⟩,⟨bb1,bb2⟩,q⟩;unfold Bc;walk_at"g";refine⟨L,R,B,T,a.1,a.2,b.1,b.2,rfl,bL.mono (by decide),bR.mono (by decide),bB.mono (by decide),bT.mono (by decide),ba1.mono (by decide),ba2.mono (by decide),bb1.mono (by decide),bb2.mono (by decide),fun ca cb mx mn m1 m2 n1 n2=>?_⟩;walk_at"g";refine uo (ns:=six L R B T a.1 a.2 b.1 b.2 mx mn) (Lst.at (k:=2) rfl) (by show 0<6;decide) fun m w1 w2=>?_
 walk_at"g";refine SJ rfl (q _ ?_);rw[decide_eq_true_eq,<- zr0 hx hz];exact ϛ m1 m2 n1 n2 w1 w2
def KZ:Ys:=fun ds S Q ex=>∃ (v:D) (V:Vl) (n m:Str) (h:Int),ds=[v,.str n,.str m,.int h]/\Zk S v V/\Y8 V/\fl 20 (.str n)=true/\fl 20 (.str m)=true/\((∀ b∈V.bs,b.1≠n)\/(∀ b∈V.bs,b.1≠m)->ex "NoBeacon" S) /\
 ∀ s t,(n,s)∈V.bs->(m,t)∈V.bs->(¬ (V.h0<=h/\h<=V.h1)->ex "BadHour" S)/\(V.h0<=h->h<=V.h1->∀ d,Gs V n m s t h d->Q d S)
abbrev vZ (ex : XR) : DS :=
    (zj (zq (Yk Lb ex (zc Z4 YJ)) YH)
 (zj (zq (Yk Lb ex (zc Z4 Ym)) Yx)
 (zj (Za (Yk Ks ex (zc Z4 Yw)))
 (zj (ZM (dT (Z6 oEq Z0 ZW)) (zB (dC .non)) zF)
 (zj (zq (dCall Ef (zc Z4 (zc ZJ Qc))) VN)
 (zj (ZM (dT (Z6 Wv Yo (dC .non))) (zB Yo) zF)
 (zj (YQ (V6 (zc (Yl "fogs" Z4) zm)) (YL 2 (zK Q6 (zK Jy YW))) (zj (zq (dCall CQ (zc Rg Yw)) wJ)
 (ZM (Xb (dT (Z6 Wv Ip (dC .non))) (dT (dCall HW (zc Ip (zc ZJ Qc))))) (zB (dTup (zc (dC (.str "fog")) KY))) zF)))
 (zB (dC .non)))))))))
def Ġ:Vj 10 vZ KZ:=by
 rintro ds S Q ex ⟨v,V,n,m,h,rfl,hv,ok,hn,hm,hx,q⟩;unfold vZ;walk_at"g";refine⟨v,V,n,rfl,hv,ok,hn,fun no=>hx (.inl no),fun s hs=>?_⟩;walk_at"g";refine⟨v,V,m,rfl,hv,ok,hm,fun no=>hx (.inr no),fun t ht=>?_⟩;obtain⟨q1,q2⟩:=q s t hs ht;clear hx q;have bs:=ok.bd _ hs;have bt:=ok.bd _ ht;have ss:=ok.st _ hs;have st:=ok.st _ ht;walk_at"g";refine⟨v,V,h,rfl,hv,q1,fun h0 h1=>?_⟩;have q':=q2 h0 h1;clear q1 q2;have bh:Bd 300 h:=(Bd.btw (n:=250) ok.b0 ok.bl h0 h1).mono (by decide);obtain⟨a,g,b',f,rfl,ha,hg,hb,hf⟩:=id hv;walk_at"g";refine oN hn hm ?_;walk_at"g";refine Zo (fun e=>?_) (fun e=>?_)
 ·walk_at"g";exact fin_same (q' .non (.inl ⟨e,rfl⟩))
 walk_at"g";refine⟨_,V,s,t,rfl,hv,ok,⟨bs,ss⟩,⟨bt,st⟩,?_⟩;walk_at"g";by_cases al:Rq V s t
 case neg =>
  have en:Xh (QS V s t)=false:=by
   cases h:QS V s t with
   |non=>exact absurd (CW.mp h) al
   |_=>rfl
  rw[en];walk_at"g";exact fin_same (q' _ (.inr ⟨e,.inl ⟨al,rfl⟩⟩))
 rw[CW.mpr al,show Xh D.non=true from rfl];walk_at"g";refine Pr (Lst.here hf) ?_;have f12:=ok.f12;refine Yi (fun i Z S'=>S'=S/\(∃ w1 w2 w3:Option D,Z=[some (.ref a),some (.str n),some (.str m),some (.int h),some (p2 s),some (p2 t),some .non,w1,w2,w3])/\∀ (j:Nat) G,j<i->V.fs[j]?=some G->¬ Vp G s.1 s.2 t.1 t.2 h) ⟨rfl,⟨_,_,_,rfl⟩,fun j G hj=>by lia⟩ (fun i Z S' w=>w.1▸Lst.here hf) ?_ ?_
 ·rintro i d Z S' hd ⟨rfl,⟨w1,w2,w3,rfl⟩,hno⟩;obtain⟨y,hy,rfl⟩:=R8 hd;obtain⟨F,hF,rfl⟩:=nJ hy;have okF:=ok.fg F (qc hF)
  have nxt:¬ Vp F s.1 s.2 t.1 t.2 h->∀ (j:Nat) G,j<i+1->V.fs[j]?=some G->¬ Vp G s.1 s.2 t.1 t.2 h:=fun z j G hj hG=>by
   rcases qW j i with g|g
   ·exact hno j G g hG
   ·have:j=i:=by lia
    subst this;rw[hF]at hG;cases hG;exact z
  walk_at"g";refine⟨F,h,rfl,okF,bh,fun no=>?_,fun k0 k1=>?_⟩
  ·walk_at"g";exact⟨rfl,⟨_,_,_,rfl⟩,nxt fun z=>no ⟨z.1,z.2.1⟩⟩
  ·walk_at"g";have bk:Bd 301 (h-F.f):=Bd.sub bh okF.f;have p1:Bd 501 (F.g*(h-F.f)):=Bd.mul okF.b.bg bk;have p2':Bd 501 (F.s*(h-F.f)):=Bd.mul okF.b.bs bk;have aD:∀ {x y:Int},Bd 600 x->Bd 501 y->Bd 700 (x+y):=fun hx hy=>(Bd.add (n:=600) hx (hy.mono (by decide))).mono (by decide)
   refine⟨_,_,_,_,s,t,rfl,by have:=okF.b.x;lia,by have:=okF.b.z;lia,⟨aD okF.b.b0 p1,aD okF.b.b1 p1,aD okF.b.b2 p2',aD okF.b.b3 p2'⟩,⟨bs.1.mono (by decide),bs.2.mono (by decide)⟩,⟨bt.1.mono (by decide),bt.2.mono (by decide)⟩,fun r hr=>?_⟩;cases r with
   |true =>walk_at"g";rw[Ng];exact fin_same (q' _ (.inr ⟨e,.inr ⟨al,.inl ⟨i,F,hF,⟨k0,k1,hr.mp rfl⟩,hno,rfl⟩⟩⟩))
   |false =>walk_at"g";exact⟨rfl,⟨_,_,_,rfl⟩,nxt fun z=>absurd (hr.mpr z.2.2) (by decide)⟩
 ·rintro Z S' ⟨rfl,⟨w1,w2,w3,rfl⟩,hno⟩;rw[VB,qa]at hno;walk_at"g";refine fin_same (q' _ (.inr ⟨e,.inr ⟨al,.inr ⟨fun F hF=>?_,rfl⟩⟩⟩));obtain⟨j,hj,e⟩:=qH.mp hF;exact hno j F hj (by rw[qb hj,e])
def Jt:Ys:=fun ds S Q ex=>∃ (v:D) (V:Vl) (h:Int),ds=[v,.int h]/\Zk S v V/\Y8 V/\(¬ (V.h0<=h/\h<=V.h1)->ex "BadHour" S)/\(V.h0<=h->h<=V.h1->∀ (T:Z7) (n:Nat) (qs:List (Str×Str)),Lp V h (prs (V.bs.map (·.1))) qs->(S++T)[n]?=some (.lst (qs.map Zx))->S.length<=n->Q (.ref n) (S++T))
abbrev yR (ex : XR) : DS :=
    (zj (Za (Yk Ks ex (zc Z4 YJ)))
 (zB (Zg 1 [0,1] (z9 (dCall Dq Zd)) Y0 (dT (Z6 N7 (Yk KZ xF (zc Z0 (zc Xd (zc Wh Ym)))) (dC .non))) Z4)))
def iM:Vj 2 yR Jt:=by
  rintro ds S Q ex ⟨v,V,h,rfl,hv,ok,hx,q⟩;unfold yR;walk_at"g";refine⟨v,V,h,rfl,hv,hx,fun h0 h1=>?_⟩;have q':=q h0 h1;clear q hx;walk_at"g";refine⟨v,V,rfl,hv,ok,fun T n hn=>?_⟩;walk_at"g";have hv1:Zk (S++T) v V:=hv.old;have b12:=ok.b12;have hpm:∀ p∈prs (V.bs.map (·.1)),p.1∈V.bs.map (·.1)/\p.2∈V.bs.map (·.1):=fun p hp=>V3 hp
  have lp:(prs (V.bs.map (·.1))).length<=144:=by have:=N5 (V.bs.map (·.1));rw[qa]at this;have:V.bs.length*V.bs.length<=12*12:=Og b12 b12;lia
  generalize prs (V.bs.map (·.1))=ps at q' hn hpm lp;refine Nq (fun i ys S'=>S'=S++T/\∃ qs,ys=qs.map Zx/\Lp V h (ps.take i) qs) ⟨rfl,[],rfl,fun _=>true,rfl,fun p hp=>by simp at hp⟩ (fun i ys S' w=>w.1▸Lst.here hn) (by rw[qa];unfold big;lia) ?_ ?_
  . rintro i d ys S' hd ⟨rfl,qs,rfl,hw⟩;obtain⟨p,hp,rfl⟩:=JZ hd;obtain⟨m1,m2⟩:=hpm p (qc hp);obtain⟨b,hb,eb⟩:=qw.mp m1;obtain⟨c,hc,ec⟩:=qw.mp m2;obtain⟨f,hf,hfp⟩:=hw;walk_at"g";refine⟨v,V,p.1,p.2,h,rfl,hv1,ok,ok.flN _ m1,ok.flN _ m2,fun no=>?_,fun s t hs ht=>⟨fun no=>absurd ⟨h0,h1⟩ no,fun _ _ e he=>?_⟩⟩
    . rcases no with no|no
      . exact no b hb eb
      . exact no c hc ec
    have en:Xh e=true↔p.1=p.2\/Sd V s t h:=by rw[<- he.non];cases e<;>simp[Xh]
    have ubc:∀ s' t',(p.1,s')∈V.bs->(p.2,t')∈V.bs->s'=s/\t'=t:=fun s' t' h1 h2=>⟨congrArg Prod.snd (J2 ok h1 hs rfl),congrArg Prod.snd (J2 ok h2 ht rfl)⟩
    walk_at"g";cases hg:Xh e with
    |true =>walk_at"g";refine⟨rfl,qs++[p],by rw[qD];rfl,?_⟩;exact yU hp hs ht ⟨f,hf,hfp⟩ (fun s' t' h1 h2=>by obtain⟨rfl,rfl⟩:=ubc s' t' h1 h2;exact⟨fun _=>en.mp hg,fun _=>rfl⟩) (by rw[if_pos rfl])
    |false =>walk_at"g";refine⟨rfl,qs,rfl,?_⟩;exact yU (g:=false) hp hs ht ⟨f,hf,hfp⟩ (fun s' t' h1 h2=>by obtain⟨rfl,rfl⟩:=ubc s' t' h1 h2;exact⟨fun z=>(by cases z),fun z=>by rw[hg]at en;exact absurd (en.mpr z) (by decide)⟩) (by rw[if_neg (by decide)])
  . rintro ys S' ⟨rfl,qs,rfl,hw⟩;rw[qa,Ve]at hw;refine Wo (fin_same (q' _ _ qs hw Nv (by lia)))
def W9 (b:Nat)(zs:List Str):Nat->List (Str×D)
 |0=>[]
 |i+1=>W9 b zs i++[(zs.getD i Str.empty,.ref (b+i))]
theorem vK (b:Nat)(zs:List Str):∀ i,(W9 b zs i).length=i
 |0=>rfl
 |i+1=>by show(W9 b zs i++_).length=_;rw[qf,vK b zs i];rfl
theorem HF {b:Nat}{zs:List Str}(nd:zs.Nodup):∀ (i:Nat),i<=zs.length->∀ (j:Nat) z,zs[j]?=some z->dval (W9 b zs i) z=if j<i then some (.ref (b+j))else none
 |0,_,j,z,_=>by rw[if_neg (by lia)];rfl
 |i+1,hi,j,z,hz=>by
  have gi:zs[i]?=some (zs.getD i Str.empty):=by rw[qJ,qb (by lia)];rfl
  show dval (W9 b zs i++[(zs.getD i Str.empty,.ref (b+i))]) z=_;rw[uc,HF nd i (by lia) j z hz];by_cases e:j<i
  ·rw[if_pos e,if_pos (show j<i+1 by lia)];rfl
  ·rw[if_neg e];by_cases e2:j=i
   ·subst e2;rw[gi]at hz;rw[if_pos (qF hz),if_pos (show j<j+1 by lia)];rfl
   ·rw[if_neg (fun w=>e2 (TV nd hz (by rw[<- w];exact gi))),if_neg (show ¬ j<i+1 by lia)];rfl
structure pq (zs:List Str)(qs:List (Str×Str))(Ls:List (List Str)):Prop where
 len:Ls.length=zs.length
 nd:∀ ys∈Ls,ys.Nodup
 iff:∀ (j:Nat) z ys,zs[j]?=some z->Ls[j]?=some ys->∀ y,y∈ys↔(z,y)∈qs\/(y,z)∈qs
abbrev Xa (Ls:List (List Str)):Z7:=Ls.map fun ys=>Cell.lst (ys.map D.str)
def BW:ZX:=fun ds S Q=>∃ (v:D) (V:Vl) (h:Int) (x:D) (zs:List Str),ds=[v,.int h,x]/\Zk S v V/\Y8 V/\V.bs.map (·.1)=zs/\Lst S x (zs.map D.str)/\V.h0<=h/\h<=V.h1/\∀ (T:Z7) (y:D),Xw (S++T) y V h->Q y (S++T)
abbrev tE:DS :=
    (zj (zq (Jl) YS)
 (zj (YQ (z9 ZW) YH (Oj ZS ZJ (Yn zm)))
 (zj (YQ (z9 (Yk Jt xF (zc Z4 YJ))) (YL 2 (zK Yx (zK VN YW))) (zj (Za (dM Wf (V2 ZS Zf) QK))
 (Za (dM Wf (V2 ZS Yo) Qc))))
 (zB ZS))))
def Ĺ:BodyOk 7 tE BW:=by
 rintro ds S Q ⟨v,V,h,x,zs,rfl,hv,ok,hzs,hx,h0,h1,q⟩;unfold tE;have nd:zs.Nodup:=hzs▸ok.nd;have b12:zs.length<=12:=by rw[<- hzs,qa];exact ok.b12
 walk_at"g";have hx1:∀ T,Lst (S++T) x (zs.map D.str):=fun T=>hx.old
 have hx2:=hx1 [.dk []];walk_at"g";walk_at"h";refine Yi (fun i Z S'=>i<=zs.length/\∃ w4:Option D,S'=S++Cell.dk (W9 (S.length+1) zs i)::Xa (List.replicate i [])/\Z=[some v,some (.int h),some x,some (.ref S.length),w4,none,none]) ⟨qY _,none,rfl,rfl⟩ (by rintro i Z S' ⟨_,_,e,_⟩;exact e▸hx.old) ?_ ?_
 ·rintro i d Z S' hd ⟨hi,w4,rfl,rfl⟩;obtain⟨z,hz,rfl⟩:=Xl hd;have li:=zA hz;have gz:zs.getD i Str.empty=z:=by rw[qJ,hz];rfl
  walk_at"g";have e1:S.length+(Cell.dk (W9 (S.length+1) zs i)::Xa (List.replicate i [])).length=S.length+1+i:=by simp;lia
  rw[e1];refine SM.k (Z8:=W9 (S.length+1) zs i) zM (by rw[vK];unfold big;lia) ?_;refine Dh ?_;walk_at"g";refine⟨by lia,_,?_,rfl⟩;have hv0:dval (W9 (S.length+1) zs i) z=none:=by rw[HF nd i hi i z hz,if_neg (Xq i)]
  have e2:dput (W9 (S.length+1) zs i) z (.ref (S.length+1+i))=W9 (S.length+1) zs (i+1):=by unfold dput;rw[R4,hv0,if_neg (by simp)];show W9 (S.length+1) zs i++[(z,_)]=W9 (S.length+1) zs i++[(zs.getD i Str.empty,_)];rw[gz]
  have e3:Xa (List.replicate i [])++[Cell.lst []]=Xa (List.replicate (i+1) []):=by rw[List.replicate_succ'];exact(qD (f:=fun ys:List Str=>Cell.lst (ys.map D.str)) (l₁:=List.replicate i []) (l₂:=[[]])).symm
  rw[e2,<- e3];rfl
 ·rintro Z S' ⟨_,w4,rfl,rfl⟩;rw[qa];obtain⟨kv,hkv⟩:∃ kv,kv=W9 (S.length+1) zs zs.length:=⟨_,rfl⟩
  have vl:∀ (j:Nat) z,zs[j]?=some z->dval kv z=some (.ref (S.length+1+j)):=fun j z hz=>by rw[hkv,HF nd _ (qh _) j z hz,if_pos (zA hz)]
  rw[<- hkv];clear hkv;walk_at"g";refine⟨v,V,h,rfl,hv.old,ok,fun no=>absurd ⟨h0,h1⟩ no,fun _ _ T n qs hq hn ln=>?_⟩;have hmem:∀ p∈prs zs,p.1∈V.bs.map (·.1)/\p.2∈V.bs.map (·.1):=fun p hp=>hzs▸V3 hp
  rw[hzs]at hq;have eq:=ug ok hmem hq;have qnd:qs.Nodup:=eq▸(v7 nd).filter _
  have qp:∀ p∈qs,p∈prs zs/\YZ V h p.1 p.2:=fun p hp=>by rw[eq]at hp;obtain⟨h1,h2⟩:=qU.mp hp;exact⟨h1,Lr.mp h2⟩
  have qm:∀ p∈prs zs,YZ V h p.1 p.2->p∈qs:=fun p hp had=>by rw[eq];exact qU.mpr ⟨hp,Lr.mpr had⟩
  obtain⟨Ls0,hL0⟩:∃ Ls0:List (List Str),Ls0=List.replicate zs.length []:=⟨_,rfl⟩
  rw[<- hL0]at hn ln ⊢
  have n0:pq zs [] Ls0:=⟨by rw[hL0];simp,fun ys hy=>by rw[hL0]at hy;rw[List.eq_of_mem_replicate hy];simp,fun j z ys hz hs y=>by rw[hL0]at hs;rw[List.eq_of_mem_replicate (qc hs)];simp⟩
  have lL0:=n0.len
  have kq:∀ Ls:List (List Str),Ls.length=zs.length->Lst (S++Cell.dk kv::(Xa Ls++T)) (.ref n) (qs.map Zx):=fun Ls hl=>by
   refine .inr ⟨n,rfl,?_⟩
   have ln':S.length+(1+zs.length)<=n:=by
    have:(S++Cell.dk kv::Xa Ls0).length=S.length+(1+zs.length):=by simp;lia
    lia
   obtain⟨k,rfl⟩:∃ k,n=S.length+(1+zs.length+k):=⟨n-(S.length+(1+zs.length)),by lia⟩
   rw[qq,Mi,zP,show 1+zs.length+k=(zs.length+k)+1 by lia,Uz,qe (by simp;lia)]at hn;rw[zP,show 1+zs.length+k=(zs.length+k)+1 by lia,Uz,qe (by simp;lia)];rw[<- hn];congr 1;simp;lia
  rw[show S++Cell.dk kv::Xa Ls0++T=S++Cell.dk kv::(Xa Ls0++T) by simp];have kq0:=kq Ls0 lL0;clear hn hL0
  have bq:qs.length<=144:=by have h2:=Rh (Q9 V h) (prs zs);have h3:=N5 zs;have:zs.length*zs.length<=12*12:=Og b12 b12;rw[eq];lia
  walk_at"g";refine Yi (fun i Z S'=>∃ (Ls:List (List Str)) (w5 w6:Option D),S'=S++Cell.dk kv::(Xa Ls++T)/\Z=[some v,some (.int h),some x,some (.ref S.length),w4,w5,w6]/\pq zs (qs.take i) Ls) ⟨Ls0,_,_,rfl,rfl,by simpa using n0⟩ (by rintro i Z S' ⟨Ls,_,_,e,_,w⟩;exact e▸kq Ls w.len) ?_ ?_
  ·rintro i d Z S' hd ⟨Ls,w5,w6,rfl,rfl,w⟩;obtain⟨⟨a,b⟩,hp,rfl⟩:=JZ hd;have mp:=qc hp;obtain⟨pp,_⟩:=qp _ mp;obtain⟨ma,mb⟩:=V3 pp;have nab:a≠b:=M8 nd pp;obtain⟨ia,hia,ea⟩:=qH.mp ma;obtain⟨ib,hib,eb⟩:=qH.mp mb;have ga:zs[ia]?=some a:=by rw[qb hia,ea]
   have gb:zs[ib]?=some b:=by rw[qb hib,eb]
   have wl:=w.len;obtain⟨ya,hya⟩:∃ ya,Ls[ia]?=some ya:=⟨_,qb (by lia)⟩
   have zZ:(a,b)∉qs.take i:=fun z=>by obtain⟨j,hj,ej⟩:=qH.mp z;rw[List.getElem_take]at ej;rw[WX]at hj;have li:=zA hp;rw[qb li]at hp;have:=RJ.mp qnd j i (by lia) li (by lia);exact this (ej.trans (qF hp).symm)
   have not2:(b,a)∉qs.take i:=fun z=>pB nd pp (qp _ (RP z)).1
   have no1:b∉ya:=fun z=>((w.iff ia a ya ga hya b).mp z).elim zZ not2
   have at1:∀ (Ls:List (List Str)) (j:Nat) (ys:List Str),Ls[j]?=some ys->(S++Cell.dk kv::(Xa Ls++T))[S.length+1+j]?=some (.lst (ys.map D.str)):=fun Ls j ys hj=>by rw[QJ,zP,show 1+j=j+1 by lia,Uz,qg (by rw[qa];exact zA hj),qj,hj];rfl
   have put1:∀ (Ls:List (List Str)) (j:Nat) (ys:List Str),j<Ls.length->(S++Cell.dk kv::(Xa Ls++T)).set (S.length+1+j) (.lst (ys.map D.str))=S++Cell.dk kv::(Xa (Ls.set j ys)++T):=fun Ls j ys hj=>by rw[Pu _ _ (by lia),show S.length+1+j-S.length=j+1 by lia,K5,List.set_append_left _ _ (by rw[qa];exact hj),show Xa (Ls.set j ys)=(Xa Ls).set j (.lst (ys.map D.str))from List.map_set]
   have lya:ya.length<=12:=qV (Nf (N:=zs) (w.nd ya (qc hya)) fun y hy=>by
    rcases(w.iff ia a ya ga hya y).mp hy with z|z
    ·exact(V3 (qp _ (RP z)).1).2
    ·exact(V3 (qp _ (RP z)).1).1) b12
   walk_at"g";refine⟨_,Zj.k zM (vl ia a ga),?_⟩;refine Ij (at1 Ls ia ya hya) ?_;walk_at"g";refine Jo (at1 Ls ia ya hya) (by rw[qa];unfold big;lia) ?_;refine Vo ?_;rw[show ya.map D.str++[D.str b]=(ya++[b]).map D.str by rw[qD];rfl,put1 _ _ _ (by lia)];obtain⟨yb,hyb⟩:∃ yb,(Ls.set ia (ya++[b]))[ib]?=some yb:=⟨_,qb (by rw[WY];lia)⟩
   have hyb':Ls[ib]?=some yb:=by rwa[qQ (fun e=>nab (by subst e;rw[ga]at gb;exact qF gb))]at hyb
   have no2:a∉yb:=fun z=>((w.iff ib b yb gb hyb' a).mp z).elim not2 zZ
   have lyb:yb.length<=12:=qV (Nf (N:=zs) (w.nd yb (qc hyb')) fun y hy=>by
    rcases(w.iff ib b yb gb hyb' y).mp hy with z|z
    ·exact(V3 (qp _ (RP z)).1).2
    ·exact(V3 (qp _ (RP z)).1).1) b12
   walk_at"g";refine⟨_,Zj.k zM (vl ib b gb),?_⟩;refine Ij (at1 _ ib yb hyb) ?_;walk_at"g";refine Jo (at1 _ ib yb hyb) (by rw[qa];unfold big;lia) ?_;refine Vo ?_;rw[show yb.map D.str++[D.str a]=(yb++[a]).map D.str by rw[qD];rfl,put1 _ _ _ (by rw[WY];lia)];walk_at"g";refine⟨_,_,_,rfl,rfl,?_⟩;rw[V8 hp];have len2:((Ls.set ia (ya++[b])).set ib (yb++[a])).length=zs.length:=by rw[WY,WY];exact wl
   refine⟨len2,fun ys hy=>?_,fun j z ys hz hs y=>?_⟩
   ·have snd:∀ {l:List Str} {c:Str},l.Nodup->c∉l->(l++[c]).Nodup:=fun {l c} h1 h2=>by
     rw[W2];refine⟨h1,by simp,fun u hu v' hv' e=>?_⟩;have:v'=c:=by simpa using hv'
     subst this;subst e;exact h2 hu
    rcases Df hy with hy|rfl
    ·rcases Df hy with hy|rfl
     ·exact w.nd ys hy
     ·exact snd (w.nd _ (qc hya)) no1
    ·exact snd (w.nd _ (qc hyb')) no2
   ·have mem2:∀ u t:Str,(u,t)∈qs.take i++[(a,b)]↔(u,t)∈qs.take i\/(u=a/\t=b):=fun u t=>by rw[qC,qI,Prod.mk.injEq]
    rw[mem2,mem2];by_cases e2:ib=j
    ·subst e2;rw[qR (by rw[WY];lia)]at hs;cases hs;rw[gb]at hz;cases hz;rw[qC,qI,w.iff ib b yb gb hyb' y];constructor
     ·rintro((z|z)|z)
      ·exact .inl (.inl z)
      ·exact .inr (.inl z)
      ·exact .inr (.inr ⟨z,rfl⟩)
     ·rintro((z|z)|(z|z))
      ·exact .inl (.inl z)
      ·exact absurd z.1.symm nab
      ·exact .inl (.inr z)
      ·exact .inr z.1
    ·rw[qQ e2]at hs;by_cases e1:ia=j
     ·subst e1;rw[qR (by lia)]at hs;cases hs;rw[ga]at hz;cases hz;rw[qC,qI,w.iff ia a ya ga hya y];constructor
      ·rintro((z|z)|z)
       ·exact .inl (.inl z)
       ·exact .inr (.inl z)
       ·exact .inl (.inr ⟨rfl,z⟩)
      ·rintro((z|z)|(z|z))
       ·exact .inl (.inl z)
       ·exact .inr z.2
       ·exact .inl (.inr z)
       ·exact absurd z.2 nab
     ·rw[qQ e1]at hs;rw[w.iff j z ys hz hs y];have nz1:z≠a:=fun e=>by subst e;exact e1 (TV nd ga hz)
      have nz2:z≠b:=fun e=>by subst e;exact e2 (TV nd gb hz)
      constructor
      ·exact fun z=>z.imp .inl .inl
      ·rintro((z|z)|(z|z))
       ·exact .inl z
       ·exact absurd z.1 nz1
       ·exact .inr z
       ·exact absurd z.2 nz2
  ·rintro Z S' ⟨Ls,w5,w6,rfl,rfl,w⟩;rw[qa,Ve]at w;walk_at"g";refine fin_same (q _ _ ⟨S.length,kv,rfl,zM,fun z hz=>?_⟩);rw[hzs]at hz;obtain⟨j,hj,ej⟩:=qH.mp hz;have gj:zs[j]?=some z:=by rw[qb hj,ej]
   have wl:=w.len;obtain⟨ys,hys⟩:∃ ys,Ls[j]?=some ys:=⟨_,qb (by lia)⟩
   refine⟨S.length+1+j,ys,vl j z gj,?_,w.nd ys (qc hys),fun y=>?_⟩
   ·rw[QJ,zP,show 1+j=j+1 by lia,Uz,qg (by rw[qa];exact zA hys),qj,hys];rfl
   ·rw[w.iff j z ys gj hys y];constructor
    ·rintro(z'|z')
     ·obtain⟨p1,p2⟩:=qp _ z';exact⟨(M8 nd p1).symm,p2⟩
     ·obtain⟨p1,p2⟩:=qp _ z';exact⟨M8 nd p1,O4 p2⟩
    ·rintro⟨ne,aD⟩;have my:=(R6 aD).2;rw[hzs]at my;rcases yG hz my (Ne.symm ne)with z'|z'
     ·exact .inl (qm _ z' aD)
     ·exact .inr (qm _ z' (O4 aD))
def DP:ZX:=fun ds S Q=>∃ (x:D) (zs:List Str) (y:D) (V:Vl) (h:Int),ds=[x,y]/\Lst S x (zs.map D.str)/\Y8 V/\V.bs.map (·.1)=zs/\Xw S y V h/\∀ (T:Z7) (n:Nat) (ps:List (Str×Str)),(∀ p∈ps,p.1∈zs/\p.2∈zs/\p.1≠p.2/\¬ YZ V h p.1 p.2)->ps.length<=144->(S++T)[n]?=some (.lst (ps.map Zx))->Q (.ref n) (S++T)
abbrev vB:DS :=
    (zj (zq (Yn zm) YB)
 (zj (YQ (z9 Z4) YS (Za (dM Mu ZW (zc (Zg 1 [3,1] (z9 Z4) Y0 (Xb (dT (Z6 Yv Z4 Z0)) (dT (Z6 Sq Z4 (V2 ZW Z0)))) (dTup (zc Z0 Zd))) zm))))
 (zB ZW)))
def zjk:BodyOk 4 vB DP:=by
 rintro ds S Q ⟨x,zs,y,V,h,rfl,hx,ok,hzs,hn,q⟩;unfold vB;have b12:zs.length<=12:=by rw[<- hzs,qa];exact ok.b12
 have flz:∀ z∈zs,fl 20 (.str z)=true:=hzs▸ok.flN;have hx1:∀ T,Lst (S++T) x (zs.map D.str):=fun T=>hx.old
 walk_at"g";have hx2:=hx1 [.lst []];walk_at"g";walk_at"h";refine Yi (fun i Z S'=>∃ (ps:List (Str×Str)) (G:Z7) (w3:Option D),S'=S++Cell.lst (ps.map Zx)::G/\Z=[some x,some y,some (.ref S.length),w3]/\ps.length<=12*i/\∀ p∈ps,p.1∈zs/\p.2∈zs/\p.1≠p.2/\¬ YZ V h p.1 p.2) ⟨[],[],none,rfl,rfl,by simp,by simp⟩ (by rintro i Z S' ⟨_,_,_,e,_⟩;exact e▸hx.old) ?_ ?_
 ·rintro i d Z S' hd ⟨ps,G,w3,rfl,rfl,hl,hp⟩;obtain⟨a,ha,rfl⟩:=Xl hd;have ma:=qc ha;have li:=zA ha;obtain⟨m,ys,hg,hm,ynd,hy⟩:=Xw.get (hn.old (T:=Cell.lst (ps.map Zx)::G)) (hzs.symm▸ma);have fly:∀ z∈ys,fl 20 (.str z)=true:=fun z hz=>flz z (hzs▸(R6 ((hy z).mp hz).2).2)
  have kx:=hx1 (Cell.lst (ps.map Zx)::G);obtain⟨S1,hS1⟩:∃ S1:Z7,S1=S++Cell.lst (ps.map Zx)::G:=⟨_,rfl⟩
  walk_at"g";rw[<- hS1]at kx hg hm ⊢;refine Xy (X4 fun z=>decide (z≠a/\z∉ys)) (Ka fun z=>Zx (a,z)) kx (by rw[qa];unfold big;lia) (fun j d zs' hd' hw=>?_) ?_
  ·obtain⟨z,hz,rfl⟩:=Xl hd';have mz:=qc hz;walk_at"g";refine RT (flz z mz) (flz a ma) ?_;walk_at"g";refine Xf (fun e=>?_) (fun e=>?_)
   ·walk_at"g";refine⟨_,hg,?_⟩;refine Np (.inr (Lst.here hm)) (flz z mz) fly ?_;walk_at"g";refine Xf (fun e2=>?_) (fun e2=>?_)
    ·walk_at"g";exact Xm hd' hw (decide_eq_true ⟨e,e2⟩) rfl
    ·walk_at"g";exact VF hd' hw (decide_eq_false fun w=>w.2 e2)
   ·walk_at"g";exact VF hd' hw (decide_eq_false fun w=>w.1 e)
  have ef:((zs.map D.str).filter (X4 fun z=>decide (z≠a/\z∉ys))).map (Ka fun z=>Zx (a,z))=((zs.filter fun z=>decide (z≠a/\z∉ys)).map fun z=>(a,z)).map Zx:=by rw[Uy,XF,XF];rfl
  rw[ef];obtain⟨rs,hrs⟩:∃ rs:List (Str×Str),rs=(zs.filter fun z=>decide (z≠a/\z∉ys)).map fun z=>(a,z):=⟨_,rfl⟩
  have lr:rs.length<=12:=by rw[hrs,qa];exact qV (Rh _ _) b12
  have mr:∀ p∈rs,p.1∈zs/\p.2∈zs/\p.1≠p.2/\¬ YZ V h p.1 p.2:=fun p hp'=>by rw[hrs]at hp';obtain⟨z,hz,rfl⟩:=qw.mp hp';obtain⟨mz,e⟩:=qU.mp hz;have e:=of_decide_eq_true e;exact⟨ma,mz,Ne.symm e.1,fun aD=>e.2 ((hy z).mpr ⟨e.1,aD⟩)⟩
  rw[<- hrs,hS1];clear hrs ef;refine Wo ?_;walk_at"g";refine nU (xs:=ps.map Zx) (ys:=rs.map Zx) zM Nv (by simp) (by rw[qa,qa];unfold big;lia) ?_;walk_at"g";refine⟨ps++rs,_,_,by rw[qD],rfl,by rw[qf];lia,fun p hp'=>?_⟩;rcases qC.mp hp' with z|z
  ·exact hp p z
  ·exact mr p z
 ·rintro Z S' ⟨ps,G,w3,rfl,rfl,hl,hp⟩;rw[qa]at hl;walk_at"g";exact fin_same (q _ _ ps hp (by lia) zM)
def HN:ZX:=fun ds S Q=>∃ (x:D) (ps:List (Str×Str)) (t m:Int),ds=[x,.int t,.int m]/\Lst S x (ps.map Zx)/\0<=m/\m<=10/\∀ qs:List (Str×Str),(∀ q∈qs,q∈ps)->New Q S (qs.map Zx)
abbrev rW:DS :=(zB (Zg 1 [0,1] (Rk (zc (dB RG (zc ZW (zc (dB Zc Zd) zm))) zm)) Y0 Yc (Z6 ZR Z0 (Z6 oMod (Z6 Zr (Z6 oDiv ZW Qn) (Z6 Y5 TX Z4)) (dB Zc YJ)))))
def zjY:BodyOk 3 rW HN:=by
 rintro ds S Q ⟨x,ps,t,m,rfl,hx,h0,h1,q⟩;unfold rW;walk_at"g";rw[qa];refine⟨_,rfl,by lia,by lia,?_⟩;refine Nq (fun i ys S'=>S'=S/\∃ qs:List (Str×Str),ys=qs.map Zx/\∀ q∈qs,q∈ps) ⟨rfl,[],rfl,by simp⟩ (fun _ _ _ _=>True.intro) (by rw[Im];unfold big;lia) ?_ ?_
 ·rintro i d ys S' hd ⟨rfl,qs,rfl,hq⟩;obtain⟨hi,rfl⟩:=Em hd;have hp:0<ps.length:=by lia
  have cm:Y4 5 (0+(i:Int)):=.inr (.inl (by decide));have m1:=RX (t/6+5*(0+(i:Int))) (show((ps.length:Nat):Int)≠0 by lia);have m2:=Rv (t/6+5*(0+(i:Int))) (show(0:Int)<((ps.length:Nat):Int) by lia);have hpl:(0:Int)<((ps.map Zx).length:Nat):=by rw[qa];lia
  walk_at"g";rw[qa];obtain⟨j,hj⟩:∃ j:Nat,(t/6+5*(0+(i:Int)))%(ps.length:Int)=(j:Nat):=⟨_,(Int.toNat_of_nonneg m1).symm⟩
  rw[hj]at m2 ⊢;have gj:ps[j]?=some (ps[j]'(by lia)):=qb (by lia);have aj:Zb (ps.map Zx) (j:Int)=some (Zx (ps[j]'(by lia))):=Rt (by rw[qj,gj];rfl);walk_at"g";refine⟨rfl,qs++[ps[j]'(by lia)],by rw[qD];rfl,fun p hp'=>?_⟩;rcases qC.mp hp' with z|z
  ·exact hq p z
  ·have:p=_:=qI.mp z;rw[this];exact qc gj
 rintro ys S' ⟨rfl,qs,rfl,hq⟩;exact fin_same (q qs hq)
def Gu:ZX:=fun ds S Q=>∃ (v:D) (V:Vl) (h:Int) (a b:Str),ds=[v,.int h,.str a,.str b]/\Zk S v V/\Y8 V/\a∈V.bs.map (·.1)/\b∈V.bs.map (·.1)/\V.h0<=h/\h<=V.h1/\¬ YZ V h a b/\Q .non S
abbrev Aq:DS :=(ZM (dT (Z6 N7 (Yk KZ xF (zc Z4 (zc ZW (zc ZS YJ)))) (dC .non))) Yj zF)
def iG:BodyOk 4 Aq Gu:=by
  rintro ds S Q ⟨v,V,h,a,b,rfl,hv,ok,ma,mb,h0,h1,no,q⟩;unfold Aq;obtain⟨ba,hba,rfl⟩:=qw.mp ma;obtain⟨bb,hbb,rfl⟩:=qw.mp mb;walk_at"g";refine⟨v,V,_,_,h,rfl,hv,ok,ok.flN _ ma,ok.flN _ mb,fun n=>?_,fun s t hs ht=>⟨fun n=>absurd ⟨h0,h1⟩ n,fun _ _ e he=>?_⟩⟩
  . rcases n with n|n
    . exact n _ hba rfl
    . exact n _ hbb rfl
  have en:Xh e=false:=by
    have e1:Xh e=true↔e=.non:=by cases e<;>simp[Xh]
    cases hg:Xh e with
    |false=>rfl
    |true=>exact absurd ⟨s,t,hs,ht,he.non.mp (e1.mp hg)⟩ no
  walk_at"g";rw[en];walk_at"g";exact fin_same q
def Cp:ZX:=fun ds S Q=>∃ (v:D) (V:Vl) (a b:Str),ds=[v,.str a,.str b]/\Zk S v V/\Y8 V/\fl 20 (.str a)=true/\fl 20 (.str b)=true/\∀ (T:Z7) (n:Nat),(S++T)[n]?=some (.lst ((Pz a b (V.bs.map (·.1))).map D.str))->S.length<=n->Q (.ref n) (S++T)
abbrev vR:DS :=(zB (Zg 1 [1,2] (z9 (dCall Rj Zd)) Y0 (Xb (dT (Z6 Yv Z4 Z0)) (dT (Z6 Yv Z4 ZW))) Z4))
def kj:BodyOk 3 vR Cp:=by
 rintro ds S Q ⟨v,V,a,b,rfl,hv,ok,fa,fb,q⟩;unfold vR;have b12:=ok.b12;have flz:=ok.flN;walk_at"g";refine⟨v,V,rfl,hv,by lia,?_⟩;have lz:(V.bs.map (·.1)).length<=12:=by rw[qa];exact b12
 generalize V.bs.map (·.1)=zs at flz lz q;walk_at"g";refine Xy (X4 fun z=>decide (z≠a/\z≠b)) id Lst.at0 (by rw[qa];unfold big;lia) (fun j d zs' hd' hw=>?_) ?_
 ·obtain⟨z,hz,rfl⟩:=Xl hd';have mz:=qc hz;walk_at"g";refine RT (flz z mz) fa ?_;walk_at"g";refine Xf (fun e=>?_) (fun e=>?_)
  ·walk_at"g";refine RT (flz z mz) fb ?_;walk_at"g";refine Xf (fun e2=>?_) (fun e2=>?_)
   ·walk_at"g";exact Xm hd' hw (decide_eq_true ⟨e,e2⟩) rfl
   ·walk_at"g";exact VF hd' hw (decide_eq_false fun w=>w.2 e2)
  ·walk_at"g";exact VF hd' hw (decide_eq_false fun w=>w.1 e)
 rw[fJ];exact Fb (fin_same (q _ _ ((zP _ _ 1).trans rfl) (by lia)))
def G4:ZX:=fun ds S Q=>∃ (v:D) (V:Vl) (h:Int) (s t:Nat) (zs:List Str),ds=[v,.int h,.str (Z5 zs s),.str (Z5 zs t)]/\Zk S v V/\Y8 V/\zs=V.bs.map (·.1)/\s<zs.length/\t<zs.length/\V.h0<=h/\h<=V.h1 /\
 ∀ (T:Z7) (n e:Nat) Z8,Zn zs Z8 (Ze (ZG V h s t))->(S++T)[n]?=some (.dn Z8 e)->S.length<=n->Q (.ref n) (S++T)
def Ob (zs os:List Str):Pt->Pt->Int:=fun p q=>if p.2=false/\q.2=true/\p.1=q.1/\Z5 zs p.1∈os then 1 else 0
def Jk (zs os:List Str)(qs:List (Str×Str)):Pt->Pt->Int:=fun p q=>if p.2=true/\q.2=false/\((Z5 zs p.1,Z5 zs q.1)∈qs\/(Z5 zs q.1,Z5 zs p.1)∈qs)then zs.length else Ob zs os p q
abbrev Ai:DS :=
    (zj (zq (J4) YH)
 (zj (YQ (z9 (dCall Cp (zc Z4 (zc ZW Yw)))) Yx (S8 ZJ (dTup (zc (dTup (zc Zf (zc ZF zm))) (zc (dTup (zc Zf (zc ZK zm))) zm))) ZK))
 (zj (zq (dB Zc (zc (dCall Rj Zd) zm)) VN)
 (zj (YQ (z9 (Yk Jt xF (zc Z4 YJ))) (YL 2 (zK Q6 (zK Jy YW))) (zj (S8 ZJ (dTup (zc (dTup (zc Wa (zc ZK zm))) (zc (dTup (zc Rg (zc ZF zm))) zm))) Yo)
 (S8 ZJ (dTup (zc (dTup (zc Rg (zc ZK zm))) (zc (dTup (zc Wa (zc ZF zm))) zm))) Yo)))
 (zB ZJ)))))
def ž:BodyOk 9 Ai G4:=by
  rintro ds S Q ⟨v,V,h,s,t,zs,rfl,hv,ok,hzs,hs,ht,h0,h1,q⟩;unfold Ai;have nd:zs.Nodup:=hzs▸ok.nd;have flz:∀ z∈zs,fl 20 (.str z)=true:=hzs▸ok.flN;have h12:zs.length<=12:=by rw[hzs,qa];exact ok.b12
  have mz:∀ {i},i<zs.length->Z5 zs i∈zs:=fun hi=>qc (Ws hi)
  have ix:∀ {z},z∈zs->∃ j,j<zs.length/\Z5 zs j=z:=fun hz=>by obtain⟨j,hj,e⟩:=qH.mp hz;exact⟨j,hj,Ld (by rw[qb hj,e])⟩
  walk_at"g";refine⟨v,V,_,_,rfl,hv.old,ok,flz _ (mz hs),flz _ (mz ht),fun T n hn ln=>?_⟩;rw[<- hzs]at hn;have mo:∀ z,z∈Pz (Z5 zs s) (Z5 zs t) zs↔z∈zs/\z≠Z5 zs s/\z≠Z5 zs t:=fun z=>by unfold Pz;rw[qU,decide_eq_true_eq]
  have lo:(Pz (Z5 zs s) (Z5 zs t) zs).length<=12:=qV (Rh _ _) h12;generalize Pz (Z5 zs s) (Z5 zs t) zs=os at hn mo lo;obtain⟨m,rfl⟩:∃ m,n=S.length+(m+1):=⟨n-S.length-1,by simp at ln;lia⟩
  rw[qq,zP]at hn;have hT:T[m]?=some (.lst (os.map D.str)):=hn;clear hn ln;have ko:∀ c G,Lst (S++c::(T++G)) (.ref (S.length+(m+1))) (os.map D.str):=fun c G=>Lst.here (by rw[zP];exact zE hT)
  have hv1:∀ c G,Zk (S++c::G) v V:=fun c G=>hv.old
  walk_at"g";rw[qq];have ko0:=ko (.dn [] 0) [];rw[Xn]at ko0;walk_at"g";walk_at"h";refine Yi (fun i Z S'=>∃ Z8 e,S'=S++.dn Z8 e::T/\(∃ w5 w6 w7 w8,Z=[some v,some (.int h),some (.str (Z5 zs s)),some (.str (Z5 zs t)),some (.ref S.length),w5,w6,w7,w8])/\Zn zs Z8 (Ob zs (os.take i))) ⟨[],0,rfl,⟨_,_,_,_,rfl⟩,Zn.nil.cg fun p q _ _=>by unfold Ob;rw[if_neg (by simp)]⟩ (by rintro i Z S' ⟨Z8,e,e1,_⟩;exact by rw[e1];have:=ko (.dn Z8 e) [];rwa[Xn]at this) ?_ ?_
  . rintro i d Z S' hd ⟨Z8,e,rfl,⟨w5,w6,w7,w8,rfl⟩,R⟩;obtain⟨z,hz,rfl⟩:=Xl hd;obtain⟨m1,_⟩:=(mo z).mp (qc hz);obtain⟨j,hj,rfl⟩:=ix m1;walk_at"g";refine R.puts (p:=(j,false)) (q:=(j,true)) nd h12 zM hj hj fun kvs' e' R'=>?_
    refine Vo ?_;rw[O9];walk_at"g";refine⟨kvs',e',rfl,⟨_,_,_,_,rfl⟩,R'.cg fun p q hp hq=>?_⟩;unfold VL Ob;rw[V8 hz];by_cases e1:p=(j,false)/\q=(j,true)
    . obtain⟨rfl,rfl⟩:=e1;rw[if_pos ⟨rfl,rfl⟩,if_pos ⟨rfl,rfl,rfl,by simp⟩]
    . rw[if_neg e1];by_cases e2:p.2=false/\q.2=true/\p.1=q.1/\Z5 zs p.1∈os.take i
      . rw[if_pos e2,if_pos ⟨e2.1,e2.2.1,e2.2.2.1,VR _ e2.2.2.2⟩]
      . rw[if_neg e2,if_neg];rintro⟨g1,g2,g3,g4⟩;rcases qC.mp g4 with g4|g4
        . exact e2 ⟨g1,g2,g3,g4⟩
        . have e3:=Yb nd hp hj (qI.mp g4);exact e1 ⟨Uh e3 g1,Uh (g3▸e3) g2⟩
  . rintro Z S' ⟨Z8,e,rfl,⟨w5,w6,w7,w8,rfl⟩,R⟩;rw[qa,Ve]at R;walk_at"g";refine⟨v,V,rfl,hv1 _ _,by have:=ok.b12;lia,?_⟩;rw[<- hzs];walk_at"g";refine⟨v,V,h,rfl,hv1 _ _,ok,fun no=>absurd ⟨h0,h1⟩ no,fun _ _ T2 n2 qs hq hn2 ln2=>?_⟩;rw[<- hzs]at hq;have hq:=ug ok (fun p hp=>hzs▸V3 hp) hq;have mq:∀ p,p∈qs↔p∈prs zs/\YZ V h p.1 p.2:=fun p=>by rw[hq,qU,Lr]
    have lq:qs.length<=144:=by have a1:=Rh (Q9 V h) (prs zs);have a2:=N5 zs;have a3:zs.length*zs.length<=12*12:=Og h12 h12;rw[<- hq]at a1;lia
    clear hq;obtain⟨G,hG⟩:∃ G:Z7,T++([Cell.lst (zs.map D.str)]++T2)=G:=⟨_,rfl⟩
    have eS:∀ c:Cell,S++(c::T++[Cell.lst (zs.map D.str)])++T2=S++c::G:=fun c=>by rw[<- hG];simp
    rw[eS]at hn2 ⊢;obtain⟨m2,rfl⟩:∃ m,n2=S.length+(m+1):=⟨n2-S.length-1,by simp at ln2;lia⟩
    rw[zP]at hn2;have hT2:G[m2]?=some (.lst (qs.map Zx)):=hn2;have kq:∀ c,Lst (S++c::G) (.ref (S.length+(m2+1))) (qs.map Zx):=fun c=>Lst.here (by rw[zP];exact hT2)
    have kq0:=kq (.dn Z8 e);clear hn2 ln2 hG eS hT ko ko0;walk_at"g";walk_at"h";refine Yi (fun i Z S'=>∃ Z8 e,S'=S++.dn Z8 e::G/\(∃ w7 w8,Z=[some v,some (.int h),some (.str (Z5 zs s)),some (.str (Z5 zs t)),some (.ref S.length),w5,some (.int zs.length),w7,w8])/\Zn zs Z8 (Jk zs os (qs.take i))) ⟨Z8,e,rfl,⟨_,_,by rw[qa]⟩,R.cg fun p q _ _=>by unfold Jk;rw[if_neg (by simp)]⟩ (by rintro i Z S' ⟨Z8,e,e1,_⟩;exact by rw[e1];exact kq _) ?_ ?_
    . rintro i d Z S' hd ⟨Z8,e,rfl,⟨w7,w8,rfl⟩,R⟩;obtain⟨⟨x,y⟩,hp,rfl⟩:=JZ hd;obtain⟨m1,m3⟩:=V3 ((mq _).mp (qc hp)).1;obtain⟨j,hj,rfl⟩:=ix m1;obtain⟨k,hk,rfl⟩:=ix m3;walk_at"g";refine R.puts (p:=(j,true)) (q:=(k,false)) nd h12 zM hj hk fun kvs1 e1 R1=>?_
      refine Vo ?_;rw[O9];walk_at"g";refine R1.puts (p:=(k,true)) (q:=(j,false)) nd h12 zM hk hj fun kvs2 e2 R2=>?_
      refine Vo ?_;rw[O9];walk_at"g";refine⟨kvs2,e2,rfl,⟨_,_,rfl⟩,R2.cg fun p q hp' hq'=>?_⟩;unfold VL Jk;rw[V8 hp];have inj:∀ {a b:Nat},a<zs.length->b<zs.length->Z5 zs a=Z5 zs b->a=b:=fun ha hb=>Yb nd ha hb
      by_cases g1:p=(k,true)/\q=(j,false)
      . obtain⟨rfl,rfl⟩:=g1;rw[if_pos ⟨rfl,rfl⟩,if_pos ⟨rfl,rfl,.inr (by simp)⟩]
      rw[if_neg g1];by_cases g2:p=(j,true)/\q=(k,false)
      . obtain⟨rfl,rfl⟩:=g2;rw[if_pos ⟨rfl,rfl⟩,if_pos ⟨rfl,rfl,.inl (by simp)⟩]
      rw[if_neg g2];by_cases g3:p.2=true/\q.2=false/\((Z5 zs p.1,Z5 zs q.1)∈qs.take i\/(Z5 zs q.1,Z5 zs p.1)∈qs.take i)
      . rw[if_pos g3,if_pos ⟨g3.1,g3.2.1,g3.2.2.imp (fun z=>VR _ z) fun z=>VR _ z⟩]
      . rw[if_neg g3,if_neg];rintro⟨c1,c2,c3⟩;rcases c3 with c3|c3
        . rcases qC.mp c3 with c3|c3
          . exact g3 ⟨c1,c2,.inl c3⟩
          . obtain⟨d1,d2⟩:=V1 (qI.mp c3);exact g2 ⟨Uh (inj hp' hj d1) c1,Uh (inj hq' hk d2) c2⟩
        . rcases qC.mp c3 with c3|c3
          . exact g3 ⟨c1,c2,.inr c3⟩
          . obtain⟨d1,d2⟩:=V1 (qI.mp c3);exact g1 ⟨Uh (inj hp' hk d2) c1,Uh (inj hq' hj d1) c2⟩
    . rintro Z S' ⟨Z8,e,rfl,⟨w7,w8,rfl⟩,R⟩;rw[qa,Ve]at R;walk_at"g";refine fin_same (q _ _ e Z8 (R.cg fun p q hp hq=>?_) zM (qh _));obtain⟨a,x⟩:=p;obtain⟨b,y⟩:=q;have hp:a<zs.length:=hp;have hq:b<zs.length:=hq;unfold Jk Ob;cases x<;>cases y
      . rw[if_neg (by simp),if_neg (by simp)];rfl
      . rw[if_neg (by simp),Sy]
        have:(a=b/\Z5 zs a∈os)↔(a=b/\a≠s/\a≠t/\a<zs.length):=and_congr_right fun _=>by rw[mo];exact⟨fun z=>⟨fun e=>z.2.1 (by rw[e]),fun e=>z.2.2 (by rw[e]),hp⟩,fun z=>⟨mz hp,fun e=>z.1 (Yb nd hp hs e),fun e=>z.2.1 (Yb nd hp ht e)⟩⟩
        by_cases g:a=b/\Z5 zs a∈os
        . rw[if_pos ⟨rfl,rfl,g⟩,if_pos (by have:=this.mp g;rw[hzs]at this;exact this)]
        . rw[if_neg (fun z=>g z.2.2),if_neg (fun z=>g (this.mpr (by rw[hzs];exact z)))]
      . rw[U6]
        have:((Z5 zs a,Z5 zs b)∈qs\/(Z5 zs b,Z5 zs a)∈qs)↔(ZG V h s t).adj a b=true:=by
          rw[UW,<- hzs,mq,mq];constructor
          . rintro(⟨z1,z2⟩|⟨z1,z2⟩)
            . exact⟨fun e=>M8 nd z1 (by rw[e]),hp,hq,z2⟩
            . exact⟨fun e=>M8 nd z1 (by rw[e]),hp,hq,O4 z2⟩
          . rintro⟨z1,_,_,z2⟩;exact(yG (mz hp) (mz hq) fun e=>z1 (Yb nd hp hq e)).imp (fun z=>⟨z,z2⟩) fun z=>⟨z,O4 z2⟩
        by_cases g:(Z5 zs a,Z5 zs b)∈qs\/(Z5 zs b,Z5 zs a)∈qs
        . rw[if_pos ⟨rfl,rfl,g⟩,if_pos (this.mp g),hzs];rfl
        . rw[if_neg (fun z=>g z.2.2),if_neg (by simp),if_neg (fun z=>g (this.mpr z))]
      . rw[if_neg (by simp),if_neg (by simp)];rfl
def NZ:ZX:=fun ds S Q=>∃ (r e:Nat) (Z8:List (List (List SK)×D)) (zs:List Str) (c:Pt->Pt->Int) (st:Pt),ds=[.ref r,Zi zs st]/\S[r]?=some (.dn Z8 e)/\Zn zs Z8 c/\zs.Nodup/\zs.length<=12/\(∀ z∈zs,fl 20 (.str z)=true)/\st.1<zs.length/\(∀ p q,0<c p q->p.1<zs.length/\q.1<zs.length) /\
 ∀ (T:Z7) (n:Nat) (fo:List (Pt×Option Pt)),Bf c st fo [] (fun _ _=>True)->(∀ x∈fo.map (·.1),x.1<zs.length)->(S++T)[n]?=some (.dt (fo.map (fk zs)))->S.length<=n->Q (.ref n) (S++T)
abbrev nP:DS :=
    (zj (zq (J8 Z0 (dC .non)) YB)
 (zj (zq (Yn YJ) YS)
 (zj (Vd (dT (Z6 Yg (dB Zc Yw) ZF)) (zj (zq (dM J3 ZS (zc ZF zm)) YH)
 (YQ (JN Z4) (YL 2 (zK Yx (zK VN YW))) (ZM (Xb (dT (Z6 oEq Ĕ ZJ)) (Xb (dT (Z6 Yg Yo ZF)) (dT (Qq CN ZW)))) (zj (Oj ZW CN ZJ)
 (Za (dM Wf ZS (zc CN zm)))) zF))))
 (zB ZW))))
def Ε:BodyOk 7 nP NZ:=by
 rintro ds S Q ⟨r,e,Z8,zs,c,st,rfl,hr,R,nd,h12,flz,hst,rng,q⟩;unfold nP;have hrT:∀ T,(S++T)[r]?=some (.dn Z8 e):=fun T=>zE hr
 have s21:∀ a b c:Cell,[a,b].set 1 c=[a,c]:=fun _ _ _=>rfl
 have k1:∀ c d:Cell,(S++[c,d])[S.length+1]?=some d:=fun c d=>(zP _ _ 1).trans rfl
 walk_at"g";refine⟨kp zs st,rfl,zM,?_⟩;rw[O9];walk_at"g";walk_at"h";refine RZ (fun m Z S'=>∃ (fo:List (Pt×Option Pt)) (wt:List Pt),S'=S++[.dt (fo.map (fk zs)),.lst (wt.map (Zi zs))]/\(∃ w4 w5 w6,Z=[some (.ref r),some (Zi zs st),some (.ref S.length),some (.ref (S.length+1)),w4,w5,w6])/\Bf c st fo wt (fun _ _=>True)/\(∀ x∈fo.map (·.1),x.1<zs.length)/\m=2*(2*zs.length-fo.length)+wt.length) _ ⟨[(st,none)],[st],rfl,⟨_,_,_,rfl⟩,Bf.start,fun x hx=>by rw[qI.mp hx];exact hst,rfl⟩ ?_;rintro m Z S' ⟨fo,wt,rfl,⟨w4,w5,w6,rfl⟩,B,lt,rfl⟩;walk_at"g";refine Zo (fun c0=>?_) (fun c0=>?_)
 case refine_2 =>have e0:wt=[]:=HY.mp (by rw[qa]at c0;lia);subst e0;walk_at"g";exact fin_same (q _ _ fo B lt zM (qh _))
 obtain⟨p,wt,rfl⟩:∃ p w,wt=p::w:=by
  cases wt with
  |nil=>exact absurd c0 (by simp)
  |cons p w=>exact⟨p,w,rfl⟩
 obtain⟨B1,mp,np⟩:=B.pop;have hp:=lt p mp;walk_at"g";refine cj (xs:=wt.map (Zi zs)) ((zP _ _ 1).trans rfl) (wW ?_);rw[s21];walk_at"g";refine⟨r,Z8,e,rfl,hrT _,?_⟩;walk_at"h";have fl2:=G5 B lt;obtain⟨fo',hfo'⟩:∃ fo':List (Pt×Option Pt),fo'=fo:=⟨_,rfl⟩
 refine Yi (fun i Z S'=>∃ (fo:List (Pt×Option Pt)) (wt':List Pt),S'=S++[.dt (fo.map (fk zs)),.lst (wt'.map (Zi zs))]/\(∃ w5 w6,Z=[some (.ref r),some (Zi zs st),some (.ref S.length),some (.ref (S.length+1)),some (Zi zs p),w5,w6])/\Bf c st fo wt' (fun a b=>a≠p\/∃ (k:Nat) (x:List (List SK)×D),k<i/\Z8[k]?=some x/\x.1=[kp zs a,kp zs b])/\p∈fo.map (·.1)/\(∀ x∈fo.map (·.1),x.1<zs.length)/\2*(2*zs.length-fo.length)+wt'.length+1<=2*(2*zs.length-fo'.length)+(wt.length+1)) ⟨fo,wt,rfl,⟨_,_,rfl⟩,B1.re fun a q hd _=>.inl ?_,mp,lt,by rw[hfo'];lia⟩ (by rintro i Z S' ⟨_,_,e1,_⟩;exact by rw[e1];exact hrT _) ?_ ?_
 ·rcases hd with z|⟨k,x,hk,_⟩
  ·exact⟨z,True.intro⟩
  ·exact absurd hk (Nat.not_lt_zero _)
 ·clear B B1 lt mp np fl2 c0;rintro i d Z S' hd ⟨fo,wt',rfl,⟨w5,w6,rfl⟩,B,mp,lt,hm⟩;rw[qj]at hd;obtain⟨x,hx,ed⟩:=qZ.mp hd;obtain⟨a,b,ha,hb,rfl⟩:=R.ky x (qc hx);have ed:d=.tup [.tup [Zi zs a,Zi zs b],.int (c a b)]:=ed.symm;subst ed;have fl2:=G5 B lt
  have nx:∀ {fo2:List (Pt×Option Pt)} {wt2:List Pt},Bf c st fo2 wt2 (fun a b=>a≠p\/∃ (k:Nat) (x:List (List SK)×D),k<i/\Z8[k]?=some x/\x.1=[kp zs a,kp zs b])->(a=p->0<c a b->b∈fo2.map (·.1))->Bf c st fo2 wt2 (fun a b=>a≠p\/∃ (k:Nat) (x:List (List SK)×D),k<i+1/\Z8[k]?=some x/\x.1=[kp zs a,kp zs b]):=fun {fo2 wt2} B2 h2=>B2.re fun a' b' hd hc=>by
   rcases hd with z|⟨k,x,hk,hx',ex⟩
   ·exact .inl (.inl z)
   ·by_cases g:k<i
    ·exact .inl (.inr ⟨k,x,g,hx',ex⟩)
    ·have:k=i:=by lia
     subst this;rw[hx]at hx';cases hx';obtain⟨l1,l2⟩:=rng _ _ hc;obtain⟨rfl,rfl⟩:=rJ nd ha hb l1 l2 ex;by_cases g2:a=p
     ·exact .inr (h2 g2 hc)
     ·exact .inl (.inl g2)
  walk_at"g";refine zs9 nd flz ha hp ?_;walk_at"g";have skip:(a=p->0<c a b->b∈fo.map (·.1))->_:=fun z=>nx B z
  refine Zo (fun g1=>?_) (fun g1=>?_)
  case refine_2 =>walk_at"g";exact⟨fo,wt',rfl,⟨_,_,rfl⟩,nx B fun z=>absurd z g1,mp,lt,hm⟩
  subst g1;walk_at"g";refine Zo (fun g2=>?_) (fun g2=>?_)
  case refine_2 =>walk_at"g";exact⟨fo,wt',rfl,⟨_,_,rfl⟩,nx B fun _ z=>absurd z g2,mp,lt,hm⟩
  walk_at"g";by_cases g3:b∈fo.map (·.1)
  ·obtain⟨⟨b',o⟩,hmem,eb⟩:=qw.mp g3;have eb:b'=b:=eb;subst eb;refine⟨_,Zj.t (ks:=kp zs b') zM ((U7 nd hb lt B.nd o).1 hmem),?_⟩;walk_at"g";rw[if_neg (by simp)];walk_at"g";exact⟨fo,wt',rfl,⟨_,_,rfl⟩,nx B fun _ _=>g3,mp,lt,hm⟩
  ·refine⟨_,Zj.t (ks:=kp zs b) zM ((U7 nd hb lt B.nd none).2 g3),?_⟩;walk_at"g";rw[if_pos (by rfl)];walk_at"g";have lfo:(fo.map (fk zs)).length<big:=by rw[qa];unfold big;lia
   have lwt:(wt'.map (Zi zs)).length<big:=by have:=Uq B.wn B.wf;rw[qa]at this;rw[qa];unfold big;lia
   refine SM.t (ks:=kp zs b) zM lfo ?_;rw[lK nd hb lt B.nd g3];refine Vo ?_;rw[O9];walk_at"g";rw[s21];have B2:=B.add mp g3 g2;refine⟨fo++[(b,some a)],wt'++[b],by rw[qD (l₁:=wt')];rfl,⟨_,_,rfl⟩,nx B2 fun _ _=>?_,?_,?_,?_⟩
   ·rw[qD];exact qL _ (by simp)
   ·rw[qD];exact VR _ mp
   ·intro x hx';rw[qD]at hx';rcases qC.mp hx' with z|z
    ·exact lt x z
    ·have:x=b:=by simpa using z
     rw[this];exact hb
   ·have:=G5 B2 (zs:=zs) (fun x hx'=>by
     rw[qD]at hx';rcases qC.mp hx' with z|z
     ·exact lt x z
     ·have:x=b:=by simpa using z
      rw[this];exact hb)
    rw[qf,qP]at this ⊢;rw[qf,qP];lia
 ·rintro Z S' ⟨fo,wt',rfl,⟨w5,w6,rfl⟩,B,mp,lt,hm⟩;rw[qa]at B;walk_at"g";refine⟨_,?_,fo,wt',rfl,⟨_,_,_,rfl⟩,B.re fun a q _ hc=>.inl ?_,lt,rfl⟩
  ·rw[<- hfo'];lia
  ·by_cases g:a=p
   ·right;subst g;obtain⟨l1,l2⟩:=rng _ _ hc;rcases R.get nd l1 l2 with⟨_,z⟩|z
    ·lia
    ·obtain⟨k,hk⟩:=Td.mp (Ag z);exact⟨k,_,zA hk,hk,rfl⟩
   ·exact .inl g
def Ei:ZX:=fun ds S Q=>∃ (r f e:Nat) (Z8:List (List (List SK)×D)) (zs:List Str) (W:Wb) (c:Pt->Pt->Int) (k:Int) (fo:List (Pt×Option Pt)),ds=[.ref r,.ref f,Zi zs (YX W)]/\S[r]?=some (.dn Z8 e)/\S[f]?=some (.dt (fo.map (fk zs)))/\Zn zs Z8 c/\zs.Nodup/\zs.length<=12/\W.n=zs.length/\Zz W c k/\Bf c (src W) fo [] (fun _ _=>True)/\(∀ x∈fo.map (·.1),x.1<zs.length)/\YX W∈fo.map (·.1) /\
 ∀ kvs' e' c',Zn zs kvs' c'->Zz W c' (k+1)->Q .non (S.set r (.dn kvs' e'))
abbrev wA:DS :=
    (zj (zq ZW YS)
 (Vd (dT (Z6 Wv (V2 Z0 ZS) (dC .non))) (zj (zq (V2 Z0 ZS) YH)
 (zj (S8 Z4 (dTup (zc ZJ Yw)) (Z6 Zm (V2 Z4 (dTup (zc ZJ Yw))) ZK))
 (zj (S8 Z4 (dTup (zc ZS Kr)) (Z6 Zr (Nk Z4 (dTup (zc ZS Kr)) ZF) ZK))
 (zq ZJ YS))))))
def aZ:BodyOk 5 wA Ei:=by
 rintro ds S Q ⟨r,f,e,Z8,zs,W,c,k,fo,rfl,hr,hf,R,nd,h12,hW,F,B,lt,mg,q⟩;unfold wA;have lr:=zA hr;have ne:r≠f:=fun e=>by subst e;rw[hr]at hf;cases hf
 have hr1:∀ x:Cell,(S.set r x)[r]?=some x:=fun x=>qR lr
 have hf1:∀ x:Cell,(S.set r x)[f]?=some (.dt (fo.map (fk zs))):=fun x=>by rw[qQ ne];exact hf
 have s2:∀ x y:Cell,(S.set r x).set r y=S.set r y:=fun x y=>List.set_set ..
 have e0:S=S.set r (.dn Z8 e):=by
  refine List.ext_getElem? fun i=>?_
  by_cases h:i=r
  ·subst h;rw[hr1,hr]
  ·rw[qQ (Ne.symm h)]
 obtain⟨⟨g,o⟩,hm,eg⟩:=qw.mp mg;obtain⟨i,hi⟩:=Td.mp hm;have eg:g=YX W:=eg;subst eg;walk_at"g";walk_at"h";refine RZ (fun m Z S'=>∃ (kvs':List (List (List SK)×D)) (e':Nat) (c':Pt->Pt->Int) (p:Pt) (o:Option Pt),S'=S.set r (.dn kvs' e')/\(∃ w4,Z=[some (.ref r),some (.ref f),some (Zi zs (YX W)),some (Zi zs p),w4])/\Zn zs kvs' c'/\Qu W c c' k fo m p o) i ⟨Z8,e,c,YX W,o,e0,⟨_,rfl⟩,R,⟨F.start,hi,fun _ _ _ _=>rfl⟩⟩ ?_;rintro m Z S' ⟨kvs',e',c',p,o,rfl,⟨w4,rfl⟩,R',T⟩;have mp:p∈fo.map (·.1):=qw.mpr ⟨_,qc T.at',rfl⟩;have hp:=lt p mp;have hg:∀ x:Cell,Zj (S.set r x) (.ref f) (Zi zs p) (some (fk zs (p,o)).2):=fun x=>Zj.t (ks:=kp zs p) (hf1 x) ((U7 nd hp lt B.nd o).1 (qc T.at'))
 walk_at"g";refine⟨_,hg _,?_⟩;cases o with
 |none =>walk_at"g";have e1:=T.last B;subst e1;exact fin_same (q _ _ _ R' T.p.end)
 |some a =>
  obtain⟨j,o',l,na,ec,hc,T'⟩:=T.step B (fun x hx=>by rw[hW];exact lt x hx);have ha:a.1<zs.length:=lt a (qw.mpr ⟨_,qc T'.at',rfl⟩);walk_at"g";have hv:(fk zs (p,some a)).2=Zi zs a:=rfl;rw[hv]at hg ⊢;rw[show Xh (Zi zs a)=false from rfl];walk_at"g";refine⟨_,hg _,?_⟩;walk_at"g";obtain⟨o1,g1,_,g2⟩:=R'.gets nd (hr1 (.dn kvs' e')) ha hp;have g2:=g2 (by rw[ec];lia);subst g2;refine⟨_,g1,?_⟩;walk_at"g";refine R'.puts (p:=a) (q:=p) nd h12 (hr1 _) ha hp fun kvs1 e1 R1=>?_
  refine Vo ?_;rw[s2];walk_at"g";refine⟨⟨r,rfl,.inr (.inr ⟨kvs1,e1,hr1 _⟩)⟩,?_⟩;walk_at"g";obtain⟨o2,g3,g4,_⟩:=R1.gets nd (hr1 (.dn kvs1 e1)) hp ha;refine⟨_,g3,?_⟩;rw[g4,show VL c' a p (c' a p-1) p a=c' p a from if_neg fun z=>na z.2];walk_at"g";refine R1.puts (p:=p) (q:=a) nd h12 (hr1 _) hp ha fun kvs2 e2 R2=>?_
  refine Vo ?_;rw[s2];rw[ů na]at R2;walk_at"g";exact⟨j,l,kvs2,e2,_,a,o',rfl,⟨_,rfl⟩,R2,T'⟩
def BZ:ZX:=fun ds S Q=>∃ (v:D) (V:Vl) (h:Int) (s t:Nat) (zs:List Str),ds=[v,.int h,.str (Z5 zs s),.str (Z5 zs t)]/\Zk S v V/\Y8 V/\zs=V.bs.map (·.1)/\s<zs.length/\t<zs.length/\V.h0<=h/\h<=V.h1/\¬ YZ V h (Z5 zs s) (Z5 zs t) /\
 ∀ (T:Z7) (n e:Nat) Z8 c k,Zn zs Z8 c->Zz (ZG V h s t) c k->(∀ fo,Bf c (s,true) fo [] (fun _ _=>True)->(t,false)∉fo.map (·.1))->(S++T)[n]?=some (.dn Z8 e)->S.length<=n->Q (.ref n) (S++T)
abbrev oZ:DS :=
    (zj (zq (dCall G4 (zc Z4 (zc Z0 (zc ZW Yw)))) YH)
 (zj (zq (dCall NZ (zc ZJ (zc (dTup (zc ZW (zc ZK zm))) zm))) Yx)
 (zj (Vd (dT (Qv (dTup (zc ZS (zc ZF zm))) Zf)) (zj (Za (dCall Ei (zc ZJ (zc Zf (zc (dTup (zc ZS (zc ZF zm))) zm)))))
 (zq (dCall NZ (zc ZJ (zc (dTup (zc ZW (zc ZK zm))) zm))) Yx)))
 (zB ZJ))))
def dH:BodyOk 6 oZ BZ:=by
 rintro ds S Q ⟨v,V,h,s,t,zs,rfl,hv,ok,hzs,hs,ht,h0,h1,no,q⟩;unfold oZ;have nd:zs.Nodup:=hzs▸ok.nd;have flz:∀ z∈zs,fl 20 (.str z)=true:=hzs▸ok.flN;have h12:zs.length<=12:=by rw[hzs,qa];exact ok.b12
 have okW:Zt (ZG V h s t):=FJ (hzs▸hs) (hzs▸ht) (hzs▸no);have nW:(ZG V h s t).n=zs.length:=by rw[hzs];rfl
 walk_at"g";refine⟨v,V,h,s,t,zs,rfl,hv,ok,hzs,hs,ht,h0,h1,fun T n e Z8 R hn ln=>?_⟩;have F:=Zz.zero (W:=ZG V h s t);walk_at"g";refine⟨n,e,Z8,zs,_,(s,true),rfl,hn,R,nd,h12,flz,hs,fun p q z=>nW▸F.rng okW z,fun T2 f fo B lt hf lf=>?_⟩;rw[qq]at hf ⊢;have hn2:(S++(T++T2))[n]?=some (.dn Z8 e):=by rw[<- qq];exact zE hn
 generalize Ze (ZG V h s t)=c at R F B;generalize T++T2=G at hf hn2;clear hn;walk_at"g";walk_at"h";refine RZ (fun m Z S'=>∃ (G:Z7) (Z8:List (List (List SK)×D)) (e f:Nat) (c:Pt->Pt->Int) (k:Int) (fo:List (Pt×Option Pt)),S'=S++G/\Z=[some v,some (.int h),some (.str (Z5 zs s)),some (.str (Z5 zs t)),some (.ref n),some (.ref f)]/\(S++G)[n]?=some (.dn Z8 e)/\(S++G)[f]?=some (.dt (fo.map (fk zs)))/\Zn zs Z8 c/\Zz (ZG V h s t) c k/\Bf c (s,true) fo [] (fun _ _=>True)/\(∀ x∈fo.map (·.1),x.1<zs.length)/\m=((zs.length:Int)-k).toNat) _ ⟨G,Z8,e,f,c,0,fo,rfl,rfl,hn2,hf,R,F,B,lt,rfl⟩ ?_;clear F B R lt hf hn2;rintro m Z S' ⟨G,Z8,e,f,c,k,fo,rfl,rfl,hn,hf,R,F,B,lt,rfl⟩;have hp:(t,false).1<zs.length:=ht;walk_at"g";by_cases g:(t,false)∈fo.map (·.1)
 ·obtain⟨⟨p,o⟩,hm,ep⟩:=qw.mp g;have ep:p=(t,false):=ep;subst ep;refine⟨_,Zj.t (ks:=kp zs (t,false)) hf ((U7 nd hp lt B.nd o).1 hm),?_⟩;walk_at"g";rw[if_pos (by rfl)];walk_at"g";refine⟨n,f,e,Z8,zs,ZG V h s t,c,k,fo,rfl,hn,hf,R,nd,h12,nW,F,B,lt,g,fun kvs' e' c' R' F'=>?_⟩;rw[Pu _ _ ln]
  have hn':(S++G.set (n-S.length) (.dn kvs' e'))[n]?=some (.dn kvs' e'):=by rw[<- Pu _ _ ln];exact qR (zA hn)
  generalize G.set (n-S.length) (.dn kvs' e')=G' at hn';walk_at"g";refine⟨n,e',kvs',zs,c',(s,true),rfl,hn',R',nd,h12,flz,hs,fun p q z=>nW▸F'.rng okW z,fun T2 f' fo' B' lt' hf' lf'=>?_⟩;walk_at"g";have fw:=F'.few okW;have f0:=F.few okW;rw[nW]at fw;exact⟨_,by lia,G'++T2,kvs',e',f',c',k+1,fo',by rw[qq],rfl,by rw[<- qq];exact zE hn',by rw[<- qq];exact hf',R',F',B',lt',rfl⟩
 ·refine⟨_,Zj.t (ks:=kp zs (t,false)) hf ((U7 nd hp lt B.nd none).2 g),?_⟩;walk_at"g";rw[if_neg (by simp)];walk_at"g";exact fin_same (q G n e Z8 c k R F (fun fo2 B2=>fun z=>g ((B2.same B _).mp z)) hn ln)
def Jj:ZX:=fun ds S Q=>∃ (v:D) (V:Vl) (zs:List Str) (r e:Nat) (Z8:List (List (List SK)×D)) (c:Pt->Pt->Int) (i:Nat),ds=[v,.ref r,.str (Z5 zs i)]/\Zk S v V/\Y8 V/\zs=V.bs.map (·.1)/\i<zs.length/\S[r]?=some (.dn Z8 e)/\Zn zs Z8 c /\
 ∀ (T:Z7) (n:Nat),(S++T)[n]?=some (.lst (((stp zs c i).map (Z5 zs)).map D.str))->S.length<=n->Q (.ref n) (S++T)
abbrev um:DS :=(zB (Zg 1 [2,1] (z9 (dCall Rj Zd)) Y0 (Xb (dT (Z6 Yv Z4 Z0)) (dT (Z6 Yg (Nk ZW (dTup (zc (dTup (zc Z4 (zc ZF zm))) (zc (dTup (zc Z0 (zc ZK zm))) zm))) ZF) ZF))) Z4))
def ω:BodyOk 3 um Jj:=by
 rintro ds S Q ⟨v,V,zs,r,e,Z8,c,i,rfl,hv,ok,hzs,hi,hr,R,q⟩;unfold um;have nd:zs.Nodup:=hzs▸ok.nd;have flz:∀ z∈zs,fl 20 (.str z)=true:=hzs▸ok.flN;have h12:zs.length<=12:=by rw[hzs,qa];exact ok.b12
 have mz:∀ {i},i<zs.length->Z5 zs i∈zs:=fun hi=>qc (Ws hi)
 walk_at"g";refine⟨v,V,rfl,hv,by have:=ok.b12;lia,?_⟩;rw[<- hzs];have hr1:(S++[Cell.lst (zs.map D.str)])[r]?=some (.dn Z8 e):=zE hr;walk_at"g";refine Xy (X4 (Wz zs c i)) id Lst.at0 (by rw[qa];unfold big;lia) (fun k d ys hd hw=>?_) ?_
 ·obtain⟨z,hz,rfl⟩:=Xl hd;have hk:=zA hz;have ez:=Ld hz;subst ez;have eb:=tR (c:=c) (i:=i) nd hk;walk_at"g";refine RT (flz _ (mz hk)) (flz _ (mz hi)) ?_;walk_at"g";refine Xf (fun e=>?_) (fun e=>?_)
  ·walk_at"g";refine⟨⟨r,rfl,.inr (.inr ⟨Z8,_,hr1⟩)⟩,?_⟩;walk_at"g";have hk1:((k,false):Pt).1<zs.length:=hk;have hi1:((i,true):Pt).1<zs.length:=hi;obtain⟨o,g,g1,_⟩:=R.gets nd hr1 hk1 hi1;refine⟨_,g,?_⟩;rw[g1];have ea:arc c i k=c (k,false) (i,true):=by unfold arc;rw[if_neg (fun z=>e (by rw[z]))]
   walk_at"g";refine Zo (fun g=>?_) (fun g=>?_)
   ·walk_at"g";exact Xm hd hw (by rw[show X4 (Wz zs c i) (.str (Z5 zs k))=Wz zs c i (Z5 zs k)from rfl,eb,ea];exact decide_eq_true g) rfl
   ·walk_at"g";exact VF hd hw (by rw[show X4 (Wz zs c i) (.str (Z5 zs k))=Wz zs c i (Z5 zs k)from rfl,eb,ea];exact decide_eq_false g)
  ·walk_at"g";have:k=i:=Yb nd hk hi e;subst this;exact VF hd hw (by rw[show X4 (Wz zs c k) (.str (Z5 zs k))=Wz zs c k (Z5 zs k)from rfl,eb];unfold arc;rw[if_pos rfl];rfl)
 rw[List.map_id,Uy,show(X4 (Wz zs c i) ∘ D.str)=Wz zs c i from rfl,Ï nd];exact Fb (fin_same (q _ _ ((zP _ _ 1).trans rfl) (by lia)))
def Io:ZX:=fun ds S Q=>∃ (v:D) (V:Vl) (h:Int) (s t:Nat) (zs:List Str) (r e:Nat) (Z8:List (List (List SK)×D)) (c:Pt->Pt->Int) (k:Int),ds=[v,.ref r,.str (Z5 zs s),.str (Z5 zs t)]/\Zk S v V/\Y8 V/\zs=V.bs.map (·.1)/\s<zs.length/\t<zs.length/\Zt (ZG V h s t)/\S[r]?=some (.dn Z8 e)/\Zn zs Z8 c/\Zz (ZG V h s t) c k /\
 ∀ (T:Z7) (rs:List (List Nat)) (js:List Nat),yH (ZG V h s t) zs c rs->js.length=rs.length->js.Nodup->(∀ (i:Nat) j us,js[i]?=some j->rs[i]?=some us->T[j]?=some (.lst ((us.map (Z5 zs)).map D.str)))->Q (.ref S.length) (S++.lst (js.map fun j=>.ref (S.length+(j+1)))::T)
abbrev yh:DS :=
    (zj (zq (Yn zm) YH)
 (zj (YQ (z9 (dCall Jj (zc Z4 (zc Z0 Ym)))) Yx (zj (zq (Yn Ym) VN)
 (zj (zq Zf Q6)
 (zj (Vd (dT (Z6 Yv Wa ZS)) (zj (Za (dM Wf Yo KY))
 (zq (Z6 ZR (dCall Jj (zc Z4 (zc Z0 KY))) ZF) Q6)))
 (Za (dM Wf ZJ (zc (Z6 Zr Yo (Yn Yw)) zm)))))))
 (zB ZJ)))
def ý:BodyOk 8 yh Io:=by
  rintro ds S Q ⟨v,V,h,s,t,zs,r,e,Z8,c,k,rfl,hv,ok,hzs,hs,ht,okW,hr,R,F,q⟩;unfold yh;have nd:zs.Nodup:=hzs▸ok.nd;have flz:∀ z∈zs,fl 20 (.str z)=true:=hzs▸ok.flN;have h12:zs.length<=12:=by rw[hzs,qa];exact ok.b12
  have nW:(ZG V h s t).n=zs.length:=by rw[hzs];rfl
  have mz:∀ {i},i<zs.length->Z5 zs i∈zs:=fun hi=>qc (Ws hi)
  have hst:s≠t:=okW.st;have hrT:∀ T,(S++T)[r]?=some (.dn Z8 e):=fun T=>zE hr
  have mst:∀ {i j},j∈stp zs c i↔j<zs.length/\0<arc c i j:=fun {i j}=>by unfold stp;rw[qU,R9,decide_eq_true_eq]
  have lst:∀ i,(stp zs c i).length<=12:=fun i=>by have:=Rh (fun j=>decide (0<arc c i j)) (List.range zs.length);rw[Vu]at this;unfold stp;lia
  walk_at"g";refine⟨v,V,zs,r,e,Z8,c,s,rfl,hv.old,ok,hzs,hs,hrT _,R,fun T n hn ln=>?_⟩;obtain⟨m,rfl⟩:∃ m,n=S.length+(m+1):=⟨n-S.length-1,by simp at ln;lia⟩
  rw[qq,zP]at hn;have hT:T[m]?=some (.lst (((stp zs c s).map (Z5 zs)).map D.str)):=hn;have kT:∀ (x:Cell) (G:Z7),Lst (S++x::(T++G)) (.ref (S.length+(m+1))) (((stp zs c s).map (Z5 zs)).map D.str):=fun x G=>Lst.here (by rw[zP];exact zE hT)
  rw[qq];walk_at"h";have kT0:=kT (.lst []) [];rw[Xn]at kT0;walk_at"g"
  refine Yi (fun i Z S'=>∃ (rs:List (List Nat)) (js:List Nat) (G:Z7) (w5 w6 w7:Option D),S'=S++.lst (js.map fun j=>.ref (S.length+(j+1)))::(T++G)/\Z=[some v,some (.ref r),some (.str (Z5 zs s)),some (.str (Z5 zs t)),some (.ref S.length),w5,w6,w7]/\rs.length=i/\js.length=i/\js.Nodup /\
    (∀ (a:Nat) j us,js[a]?=some j->rs[a]?=some us->(T++G)[j]?=some (.lst ((us.map (Z5 zs)).map D.str)))/\(∀ (a:Nat) us,rs[a]?=some us->XQ (ZG V h s t) c us/\us[us.length-1]?=some t/\us[1]?=(stp zs c s)[a]?/\2<=us.length)) ⟨[],[],[],_,_,_,by simp,rfl,rfl,rfl,by simp,fun a j us h=>by simp at h,fun a us h=>by simp at h⟩ (by rintro i Z S' ⟨rs,js,G,_,_,_,e1,_⟩;exact e1▸kT _ G) ?_ ?_
  . rintro i d Z S' hd ⟨rs,js,G,w5,w6,w7,rfl,rfl,l1,l2,jn,hj,hrd⟩;obtain⟨z,hz,rfl⟩:=Xl hd;rw[qj]at hz;obtain⟨b,hb,rfl⟩:=qZ.mp hz;obtain⟨lb,pb⟩:=mst.mp (qc hb);have li:=zA hb;have l12:=lst s
    have hjl:∀ j∈js,j<(T++G).length:=fun j hj'=>by obtain⟨a,ha⟩:=Td.mp hj';have la:=zA ha;exact zA (hj a j _ ha (qb (by lia)))
    obtain⟨H,hH⟩:∃ H:Z7,H=T++G:=⟨_,rfl⟩
    rw[<- hH]at hj hjl ⊢;obtain⟨S2,hS2⟩:∃ S2:Z7,S2=S++.lst (js.map fun j=>.ref (S.length+(j+1)))::H:=⟨_,rfl⟩
    have hv2:Zk S2 v V:=hS2▸hv.old;have hr2:S2[r]?=some (.dn Z8 e):=hS2▸hrT _;rw[<- hS2];walk_at"g";refine RZ (fun m Z S'=>∃ (us:List Nat) (x:Nat) (G2:Z7),S'=S2++.lst ((us.map (Z5 zs)).map D.str)::G2/\Z=[some v,some (.ref r),some (.str (Z5 zs s)),some (.str (Z5 zs t)),some (.ref S.length),some (.str (Z5 zs b)),some (.ref S2.length),some (.str (Z5 zs x))]/\0<us.length/\XQ (ZG V h s t) c (us++[x])/\(us++[x])[1]?=some b/\m=zs.length-us.length) _ ⟨[s],b,[],rfl,rfl,by simp,⟨rfl,fun i a b' ha hb'=>?_,fun i a ha hi=>?_⟩,rfl,rfl⟩ ?_
    . cases i with
      |zero =>
        have e1:s=a:=by simpa using ha
        have e2:b=b':=by simpa using hb'
        rw[<- e1,<- e2];exact pb
      |succ i=>cases i<;>simp at hb'
    . cases i with
      |zero =>
        have e1:s=a:=by simpa using ha
        rw[<- e1];exact hst
      |succ i =>have:i+1+1<2:=hi;lia
    rintro m' Z S' ⟨us,x,G2,rfl,rfl,pos,A,hb1,rfl⟩;have hx:x<zs.length:=nW▸A.lt okW F x (by simp)
    have lu:us.length+1<=zs.length:=by
      have:=Uq (N:=List.range zs.length) (A.nodup okW F) fun y hy=>List.mem_range.mpr (nW▸A.lt okW F y hy)
      rw[qf,qP,Vu]at this;exact this
    walk_at"g";refine RT (flz _ (mz hx)) (flz _ (mz ht)) ?_;walk_at"g";refine Xf (fun g=>?_) (fun g=>?_)
    . have nx:x≠t:=fun z=>g (by rw[z])
      have hv3:∀ y:Cell,Zk (S2++y::G2) v V:=fun y=>hv2.old
      have hr3:∀ y:Cell,(S2++y::G2)[r]?=some (.dn Z8 e):=fun y=>zE hr2
      have lus:((us.map (Z5 zs)).map D.str).length<big:=by rw[qa,qa];unfold big;lia
      walk_at"g";refine⟨v,V,zs,r,e,Z8,c,x,rfl,hv3 _,ok,hzs,hx,hr3 _,R,fun T2 n2 hn2 ln2=>?_⟩;have k2:=Lst.here hn2;obtain⟨p,hp⟩:∃ p,us[us.length-1]?=some p:=⟨_,qb (by lia)⟩
      have hp1:(us++[x])[us.length-1]?=some p:=by rw[qg (by lia)];exact hp
      have hx1:(us++[x])[us.length-1+1]?=some x:=by rw[show us.length-1+1=us.length by lia,qe (qh _),Yp];rfl
      obtain⟨d,hd1,hd2⟩:=mF okW F nx (A.ch _ p x hp1 hx1)
      obtain⟨y,hy⟩:∃ y,(stp zs c x)[0]?=some y:=by have:d∈stp zs c x:=mst.mpr ⟨nW▸hd1,hd2⟩;have:=Di this;exact⟨_,qb this⟩
      obtain⟨_,py⟩:=mst.mp (qc hy);have ly:0<(stp zs c x).length:=zA hy
      have hat:Zb (((stp zs c x).map (Z5 zs)).map D.str) 0=some (.str (Z5 zs y)):=by unfold Zb Xv;rw[if_pos (by decide),if_pos (by rw[qa,qa];lia)];show(((stp zs c x).map (Z5 zs)).map D.str)[0]?=_;rw[qj,qj,hy];rfl
      walk_at"g"
      have lx:(us++[x])[(us++[x]).length-1]?=some x:=by rw[qf,qP,Nat.add_sub_cancel,qe (qh _),Yp];rfl
      refine⟨_,?_,us++[x],y,G2++T2,?_,rfl,by simp,A.snoc lx nx py,?_,rfl⟩
      . rw[qf,qP];lia
      . simp
      . rw[qg (by simp;lia)];exact hb1
    . have gx:x=t:=Yb nd hx ht g;subst gx;have lus:((us.map (Z5 zs)).map D.str).length+[D.str (Z5 zs x)].length<=big:=by rw[qa,qa];unfold big;simp;lia
      have k1:Lst (S2++(.lst ((us.map (Z5 zs)).map D.str)::G2++[.lst [.str (Z5 zs x)]])) (.ref S2.length) ((us.map (Z5 zs)).map D.str):=Lst.at0;have hroads:∀ G,(S2++G)[S.length]?=some (.lst (js.map fun j=>.ref (S.length+(j+1)))):=fun G=>by rw[hS2,qq];exact zM
      walk_at"g";refine⟨⟨_,_,rfl,hroads _⟩,?_⟩;walk_at"g";refine ń k1 Lst.new lus ?_;walk_at"g";refine Jo (hroads _) (by rw[qa];unfold big;lia) (Vo ?_);obtain⟨X,hX⟩:∃ X:Z7,X=Cell.lst ((us.map (Z5 zs)).map D.str)::G2++[.lst [.str (Z5 zs x)]]:=⟨_,rfl⟩
      rw[<- hX];have e1:S2.length+X.length=S.length+(H.length+X.length+1):=by rw[hS2,qf,qT];lia
      have e2:∀ c':Cell,(S2++(X++[c'])).set S.length (.lst ((js.map fun j=>D.ref (S.length+(j+1)))++[.ref (S2.length+X.length)]))=S++.lst ((js++[H.length+X.length]).map fun j=>.ref (S.length+(j+1)))::(T++(G++(X++[c']))):=fun c'=>by rw[e1,hS2,qq,Mi,O9,hH,qD,qq];rfl
      rw[e2];walk_at"g";refine⟨rs++[us++[x]],js++[H.length+X.length],G++(X++[.lst ((us.map (Z5 zs)).map D.str++[.str (Z5 zs x)])]),_,_,_,rfl,rfl,by rw[qf,l1];rfl,by rw[qf,l2];rfl,?_,fun a j vs ha hv'=>?_,fun a vs hv'=>?_⟩
      . rw[W2];refine⟨jn,by simp,fun a ha b' hb' e=>?_⟩;have:=hjl a ha;have:b'=H.length+X.length:=by simpa using hb'
        lia
      . rw[<- qq,<- hH];by_cases ga:a<i
        . rw[qg (by lia)]at ha hv';exact zE (hj a j vs ha hv')
        . have la:=zA ha;rw[qf,qP]at la;have:a=i:=by lia
          subst this;rw[qe (by lia),l2,Yp]at ha;rw[qe (by lia),l1,Yp]at hv';have ea:H.length+X.length=j:=by simpa using ha
          have ev:us++[x]=vs:=by simpa using hv'
          rw[<- ea,<- ev,qe (by lia),Jm,qe (qh _),Yp,qD,qD];rfl
      . by_cases ga:a<i
        . rw[qg (by lia)]at hv';exact hrd a vs hv'
        . have la:=zA hv';rw[qf,qP]at la;have:a=i:=by lia
          subst this;rw[qe (by lia),l1,Yp]at hv';have ev:us++[x]=vs:=by simpa using hv'
          rw[<- ev];refine⟨A,?_,by rw[hb1,hb],by rw[qf,qP];lia⟩;rw[qf,qP,Nat.add_sub_cancel,qe (qh _),Yp];rfl
  . rintro Z S' ⟨rs,js,G,w5,w6,w7,rfl,rfl,l1,l2,jn,hj,hrd⟩;rw[qa,qa]at l1 l2;walk_at"g";exact fin_same (q (T++G) rs js ⟨l1,hrd⟩ (by lia) jn hj)
def Dk:ZX:=fun ds S Q=>∃ (v:D) (V:Vl) (h:Int) (s t:Nat) (zs:List Str),ds=[v,.int h,.str (Z5 zs s),.str (Z5 zs t)]/\Zk S v V/\Y8 V/\zs=V.bs.map (·.1)/\s<zs.length/\t<zs.length/\V.h0<=h/\h<=V.h1/\¬ YZ V h (Z5 zs s) (Z5 zs t) /\
 ∀ (T:Z7) (m n:Nat) (rs:List (List Nat)) (ks js:List Nat),Yh V h s t zs rs ks->Oh (S++T) m n zs rs ks js->S.length<=n->Q (.tup [.ref m,.ref n]) (S++T)
abbrev pC:DS :=
    (zj (Za (dCall Gu (zc Z4 (zc Z0 (zc ZW Yw)))))
 (zj (zq (dCall BZ (zc Z4 (zc Z0 (zc ZW Yw)))) YH)
 (zj (zq (dCall NZ (zc ZJ (zc (dTup (zc ZW (zc ZK zm))) zm))) Yx)
 (zj (zq (Zg 1 [5] (z9 (dCall Rj Zd)) Y0 (Xb (dT (Qv (dTup (zc Z4 (zc ZF zm))) Z0)) (dT (Qq (dTup (zc Z4 (zc ZK zm))) Z0))) Z4) VN)
 (zB (dTup (zc (dCall Io (zc Z4 (zc ZJ (zc ZW Yw)))) QK)))))))
def mQ:BodyOk 7 pC Dk:=by
 rintro ds S Q ⟨v,V,h,s,t,zs,rfl,hv,ok,hzs,hs,ht,h0,h1,no,q⟩;unfold pC;have nd:zs.Nodup:=hzs▸ok.nd;have flz:∀ z∈zs,fl 20 (.str z)=true:=hzs▸ok.flN;have h12:zs.length<=12:=by rw[hzs,qa];exact ok.b12
 have okW:Zt (ZG V h s t):=FJ (hzs▸hs) (hzs▸ht) (hzs▸no);have nW:(ZG V h s t).n=zs.length:=by rw[hzs];rfl
 have mz:∀ {i},i<zs.length->Z5 zs i∈zs:=fun hi=>qc (Ws hi)
 walk_at"g";refine⟨v,V,h,_,_,rfl,hv,ok,hzs▸mz hs,hzs▸mz ht,h0,h1,no,?_⟩;walk_at"g";refine⟨v,V,h,s,t,zs,rfl,hv,ok,hzs,hs,ht,h0,h1,no,fun T r e Z8 c k R F nr hr lr=>?_⟩;walk_at"g";refine⟨r,e,Z8,zs,c,(s,true),rfl,hr,R,nd,h12,flz,hs,fun p q z=>nW▸F.rng okW z,fun T2 f fo B lt hf lf=>?_⟩;have hr2:(S++T++T2)[r]?=some (.dn Z8 e):=zE hr;have hv2:Zk (S++T++T2) v V:=hv.old.old;rw[qq]at hf hr2 hv2 ⊢;generalize T++T2=G at hf hr2 hv2;walk_at"g";refine⟨v,V,rfl,hv2,by have:=ok.b12;lia,?_⟩;rw[<- hzs];have hf3:(S++(G++[Cell.lst (zs.map D.str)]))[f]?=some (.dt (fo.map (fk zs))):=by rw[<- qq];exact zE hf
 walk_at"g";refine Xy (X4 (Rp zs fo)) id (by walk_at"l") (by rw[qa];unfold big;lia) (fun i d ys hd hw=>?_) ?_
 ·obtain⟨z,hz,rfl⟩:=Xl hd;have hk:=zA hz;have ez:=Ld hz;subst ez;have eb:=pU (fo:=fo) nd hk
  have dg:∀ b:Bool,∃ o,Zj (S++(G++[Cell.lst (zs.map D.str)])) (.ref f) (Zi zs (i,b)) o/\o.isSome=decide ((i,b)∈fo.map (·.1)):=fun b=>by
   have hp:((i,b):Pt).1<zs.length:=hk;refine⟨_,Zj.t (ks:=kp zs (i,b)) hf3 rfl,?_⟩;by_cases g:(i,b)∈fo.map (·.1)
   ·obtain⟨⟨p,o⟩,hm,ep⟩:=qw.mp g;have ep:p=(i,b):=ep;subst ep;rw[(U7 nd hp lt B.nd o).1 hm,decide_eq_true g];rfl
   ·rw[(U7 nd hp lt B.nd none).2 g,decide_eq_false g];rfl
  obtain⟨o1,d1,e1⟩:=dg false;obtain⟨o2,d2,e2⟩:=dg true;walk_at"g";refine⟨o1,d1,?_⟩;rw[e1];have ek:X4 (Rp zs fo) (.str (Z5 zs i))=(decide ((i,false)∈fo.map (·.1))&&!decide ((i,true)∈fo.map (·.1))):=eb;walk_at"g";refine Zo (fun g1=>?_) (fun g1=>?_)
  ·walk_at"g";refine⟨o2,d2,?_⟩;rw[e2];walk_at"g";refine Xf (fun g2=>?_) (fun g2=>?_)
   ·walk_at"g";exact Xm hd hw (by rw[ek,decide_eq_true g1,decide_eq_false g2];rfl) rfl
   ·walk_at"g";exact VF hd hw (by rw[ek,decide_eq_true g1,decide_eq_true g2];rfl)
  ·walk_at"g";exact VF hd hw (by rw[ek,decide_eq_false g1];rfl)
 rw[List.map_id,Uy,show(X4 (Rp zs fo) ∘ D.str)=Rp zs fo from rfl,bO nd];obtain⟨ks,hks⟩:∃ ks,ks=(List.range zs.length).filter (Yd fun p=>decide (p∈fo.map (·.1))):=⟨_,rfl⟩
 rw[<- hks];refine Wo ?_;obtain⟨S3,hS3⟩:∃ S3:Z7,S3=S++(G++[Cell.lst (zs.map D.str)]):=⟨_,rfl⟩
 have e3:S++(G++[Cell.lst (zs.map D.str)]++[Cell.lst ((ks.map (Z5 zs)).map D.str)])=S3++[Cell.lst ((ks.map (Z5 zs)).map D.str)]:=by rw[hS3];simp
 have l3:S.length+(G++[Cell.lst (zs.map D.str)]).length=S3.length:=by rw[hS3,<- qf]
 have ls3:S.length<=S3.length:=by lia
 have hv3:Zk (S3++[Cell.lst ((ks.map (Z5 zs)).map D.str)]) v V:=by rw[hS3,<- qq];exact hv2.old.old
 have hr3:(S3++[Cell.lst ((ks.map (Z5 zs)).map D.str)])[r]?=some (.dn Z8 e):=by rw[hS3,<- qq];exact zE (zE hr2)
 have e4:∃ T,S3=S++T:=⟨_,hS3⟩
 rw[e3,l3];clear e3 l3 hf hf3 hr2 hv2 hS3;walk_at"g";refine⟨v,V,h,s,t,zs,r,e,Z8,c,k,rfl,hv3,ok,hzs,hs,ht,okW,hr3,R,F,fun T3 rs js hrs ljs ndj hat=>?_⟩;walk_at"g";obtain⟨T4,rfl⟩:=e4;obtain⟨S5,hS5⟩:∃ S5:Z7,S5=S++T4++[Cell.lst ((ks.map (Z5 zs)).map D.str)]:=⟨_,rfl⟩
 have hk5:S5[(S++T4).length]?=some (.lst ((ks.map (Z5 zs)).map D.str)):=hS5▸zM;have l5:S5.length=(S++T4).length+1:=by rw[hS5,qf];rfl
 have gen:∀ c':Cell,S5++c'::T3=S++(T4++[Cell.lst ((ks.map (Z5 zs)).map D.str)]++c'::T3):=fun c'=>by rw[hS5];simp
 obtain⟨X,hX⟩:∃ X:Z7,S5++Cell.lst (js.map fun j=>D.ref (S5.length+(j+1)))::T3=S++X:=⟨_,gen _⟩
 rw[<- hS5];have A:Oh (S5++Cell.lst (js.map fun j=>D.ref (S5.length+(j+1)))::T3) S5.length (S++T4).length zs rs ks js:=⟨zM,zE hk5,ljs,ndj,by lia,fun i j us hj hu=>by rw[zP];exact hat i j us hj hu⟩
 rw[hX]at A ⊢;exact fin_same (q _ _ _ rs ks js ⟨c,k,fo,F,hrs,B,nr fo B,hks⟩ A ls3)
def Fp:ZX:=fun ds S Q=>∃ (y:D) (V:Vl) (h:Int) (a b:Str) (n:Nat) (us:List Str),ds=[y,.str a,.str b,.ref n]/\Y8 V/\Xw S y V h/\fl 20 (.str a)=true/\fl 20 (.str b)=true/\a≠b/\S[n]?=some (.lst (us.map D.str))/\us.length<=100/\(∀ u∈us,u∈V.bs.map (·.1))/\∀ (T:Z7) (r:Bool),(r=true↔Js V h a b us)->Q (.bl r) (S++T)
abbrev xq:DS :=
    (zj (ZM (Yz (Yu (dT (dB Xk (zc ZS (zc (dC (.ty "list")) zm))))) (Yz (dT (Z6 oLt (dB Zc Yw) Wc)) (Yz (dT (Z6 Yv sY Z0)) (dT (Z6 Yv (Z6 ZR ZS (Wu Wq ZK)) ZW))))) (zB (dC (.bl false))) zF)
 (zj (YQ (V6 Yw) (YL 2 (zK YH (zK Yx YW))) (ZM (Yz (Yu (dT (dB Xk (zc Zf (zc (dC (.ty "str")) zm))))) (Yz (dT (Z6 Vh Zf (Vm Vr ZS none (some ZJ)))) (Xb (dT (Z6 Yg ZJ ZF)) (dT (Z6 Sq Zf (V2 Z4 (Z6 ZR ZS (Z6 Zm ZJ ZK)))))))) (zB (dC (.bl false))) zF))
 (zB (dC (.bl true)))))
def ĝ:BodyOk 6 xq Fp:=by
 rintro ds S Q ⟨y,V,h,a,b,n,us,rfl,ok,hn,fa,fb,nab,hx,lx,mu,q⟩;unfold xq;have flz:=ok.flN;have fu:∀ u∈us,fl 20 (.str u)=true:=fun u hu=>flz u (mu u hu)
 have bad:∀ T,¬ Js V h a b us->Q (.bl false) (S++T):=fun T n=>q T false ⟨fun z=>absurd z (by decide),fun z=>absurd z n⟩
 have bad0:¬ Js V h a b us->Q (.bl false) S:=fun n=>by simpa using bad [] n
 have kx:Lst S (.ref n) (us.map D.str):=Lst.here hx;walk_at"g";rw[qa];refine Zo (fun e=>?_) (fun e=>?_)
 ·walk_at"g";refine fin_same (bad0 fun z=>?_);have h1:=z.1;have h2:=z.2.1;have l0:=zA h1;rw[show us.length-1=0 by lia,h1]at h2;exact nab (qF h2)
 obtain⟨u0,g0⟩:∃ u0,us[0]?=some u0:=⟨_,qb (by lia)⟩
 obtain⟨ul,gl⟩:∃ ul,us[us.length-1]?=some ul:=⟨_,qb (by lia)⟩
 have a0:Zb (us.map D.str) 0=some (.str u0):=Rt (i:=0) (by rw[qj,g0];rfl);have al:Zb (us.map D.str) (-1)=some (.str ul):=zo4 (by rw[qj,qa,gl];rfl);walk_at"g";refine RT (fu u0 (qc g0)) fa ?_;walk_at"g";refine Xf (fun e=>?_) (fun e=>?_)
 ·walk_at"g";exact fin_same (bad0 fun z=>by have:=z.1;rw[g0]at this;exact e (qF this))
 subst e;walk_at"g";refine RT (fu ul (qc gl)) fb ?_;walk_at"g";refine Xf (fun e=>?_) (fun e=>?_)
 ·walk_at"g";exact fin_same (bad0 fun z=>by have:=z.2.1;rw[gl]at this;exact e (qF this))
 subst e;walk_at"g";walk_at"h";refine Pr (xs:=us.map D.str) kx ?_;refine Yi (fun i Z S'=>∃ (T:Z7) (w4 w5:Option D),S'=S++T/\Z=[some y,some (.str u0),some (.str ul),some (.ref n),w4,w5]/\(us.take i).Nodup/\∀ (k:Nat) x y,k+1<i->us[k]?=some x->us[k+1]?=some y->YZ V h x y) ⟨[],none,none,by simp,rfl,by simp,fun k x y hk=>by lia⟩ (by rintro i Z S' ⟨T,_,_,e,_⟩;exact e▸kx.old) ?_ ?_
 ·rintro i d Z S' hd ⟨T,w4,w5,rfl,rfl,und,hadj⟩;obtain⟨yy,hy,rfl⟩:=R8 hd;obtain⟨u,hu,rfl⟩:=Xl hy;have hi:=zA hu;rw[Ng];have kx1:Lst (S++T) (.ref n) (us.map D.str):=kx.old;walk_at"g";rw[Tt,KJ _ (by lia) (by lia),Mv];refine MK (.inr Lst.new) (fu u (qc hu)) (fun z hz=>fu z (RP hz)) ?_;walk_at"g";refine Zo (fun e=>?_) (fun e=>?_)
  ·walk_at"g";refine fin_same (bad _ fun z=>?_);obtain⟨j,hj,ej⟩:=qH.mp e;rw[WX]at hj;rw[List.getElem_take]at ej;have:=TV z.2.2.1 (qb (show j<us.length by lia)) (by rw[ej];exact hu);lia
  have und':(us.take (i+1)).Nodup:=by
   rw[V8 hu,W2];refine⟨und,by simp,fun x hx' y' hy' e'=>?_⟩;have:y'=u:=by simpa using hy'
   subst this;subst e';exact e hx'
  walk_at"g";refine Zo (fun e1=>?_) (fun e1=>?_)
  ·obtain⟨w,hw⟩:∃ w,us[i-1]?=some w:=⟨_,qb (by lia)⟩
   have aw:Zb (us.map D.str) ((i:Int)-1)=some (.str w):=by rw[show(i:Int)-1=((i-1:Nat):Int) by lia];exact Rt (by rw[qj,hw];rfl)
   have kx2:Lst (S++(T++[Cell.lst ((us.take i).map D.str)])) (.ref n) (us.map D.str):=kx.old;walk_at"g";obtain⟨m,ys,hg,hm,ynd,hyy⟩:=Xw.get (hn.old (T:=T++[Cell.lst ((us.take i).map D.str)])) (mu w (qc hw));refine⟨_,hg,?_⟩;refine Np (.inr (Lst.here hm)) (fu u (qc hu)) (fun z hz=>flz z (R6 ((hyy z).mp hz).2).2) ?_;walk_at"g";refine Xf (fun e2=>?_) (fun e2=>?_)
   ·walk_at"g";refine fin_same (bad _ fun z=>e2 ((hyy u).mpr ⟨fun e3=>?_,z.2.2.2.2 (i-1) w u hw (by rw[show i-1+1=i by lia];exact hu)⟩));subst e3;have:=TV z.2.2.1 hw hu;lia
   ·walk_at"g";refine⟨_,_,_,rfl,rfl,und',fun k x' y' hk gx gy=>?_⟩;rcases qW (k+1) i with g|g
    ·exact hadj k x' y' g gx gy
    ·have:k=i-1:=by lia
     subst this;rw[show i-1+1=i by lia]at gy;rw[hw]at gx;rw[hu]at gy;cases gx;cases gy;exact((hyy _).mp e2).2
  ·walk_at"g";exact⟨_,_,_,rfl,rfl,und',fun k x' y' hk gx gy=>by lia⟩
 ·rintro Z S' ⟨T,w4,w5,rfl,rfl,und,hadj⟩;rw[VB,qa]at und hadj;rw[Ve]at und;walk_at"g";refine fin_same (q _ true ⟨fun _=>⟨g0,gl,und,mu,fun k x y gx gy=>hadj k x y (zA gy) gx gy⟩,fun _=>rfl⟩)
def Ho:ZX:=fun ds S Q=>∃ (V:Vl) (h:Int) (s t:Nat) (zs:List Str) (rs:List (List Nat)) (ks js:List Nat) (mn:Nat×Nat),ds=[.ref mn.1]/\Y8 V/\zs=V.bs.map (·.1)/\Zt (ZG V h s t)/\Yh V h s t zs rs ks/\Oh S mn.1 mn.2 zs rs ks js/\∀ T,Q (.bl true) (S++T)
def zqZ (us:List Nat)(h:2<=us.length):cutD us (some 1) (some (-1))=(us.drop 1).take (us.length-2):=by unfold cutD XH;dsimp only;rw[if_neg (show ¬ (1:Int)<0 by decide),if_pos (show(-1:Int)<0 by decide)];rw[show min (Int.toNat 1) us.length=1 by show min 1 _=1;lia,show((-1:Int)+(us.length:Int)).toNat-1=us.length-2 by lia]
def Ew {us:List Nat}{k x:Nat}(h:((us.drop 1).take (us.length-2))[k]?=some x):us[k+1]?=some x/\k+2<us.length:=by have l:=zA h;rw[WX,O7]at l;rw[Oa (by lia),List.getElem?_drop,Nat.add_comm]at h;exact⟨h,by lia⟩
abbrev rZ:DS :=
    (zj (zq (Yn zm) Ww)
 (zj (YQ (z9 Z4) YB (YQ (z9 (Vm Vr ZW (some ZK) (some (Wu Wq ZK)))) YS (zj (ZM (dT (Z6 Vh ZS Z0)) (zB (dC (.bl false))) zF)
 (Za (dM Wf Z0 Yw)))))
 (zB (dC (.bl true)))))
def Â:BodyOk 4 rZ Ho:=by
 rintro ds S Q ⟨V,h,s,t,zs,rs,ks,js,⟨m,n⟩,rfl,ok,hzs,okW,A,At,q⟩;unfold rZ;have nd:zs.Nodup:=hzs▸ok.nd;have flz:∀ z∈zs,fl 20 (.str z)=true:=hzs▸ok.flN;have h12:zs.length<=12:=by rw[hzs,qa];exact ok.b12
 have mz:∀ {i},i<zs.length->Z5 zs i∈zs:=fun hi=>qc (Ws hi)
 have kr:∀ G,Lst (S++G) (.ref m) (js.map fun j=>.ref (m+(j+1))):=fun G=>Lst.here (zE At.r)
 walk_at"g";have kr0:=kr [.lst []];walk_at"g";walk_at"h";refine Yi (fun i Z S'=>∃ (ns:List Nat) (G:Z7) (w2 w3:Option D),S'=S++.lst ((ns.map (Z5 zs)).map D.str)::G/\Z=[some (.ref m),some (.ref S.length),w2,w3]/\ns.Nodup/\(∀ y∈ns,y<zs.length)/\∀ y∈ns,∃ a us,a<i/\rs[a]?=some us/\y∈us) ⟨[],[],_,_,rfl,rfl,by simp,by simp,by simp⟩ (by rintro i Z S' ⟨_,_,_,_,e,_⟩;exact e▸kr _) ?_ ?_
 ·rintro i d Z S' hd ⟨ns,G,w2,w3,rfl,rfl,n1,nl,nr⟩;rw[qj]at hd;obtain⟨j,hj,rfl⟩:=qZ.mp hd;have lj:=zA hj;have ll:=At.l;obtain⟨us,hus⟩:∃ us,rs[i]?=some us:=⟨_,qb (by lia)⟩
  obtain⟨i0,i1,i2,i3,i4,_⟩:=A.idx hzs okW hus;have ku:∀ G,Lst (S++G) (.ref (m+(j+1))) ((us.map (Z5 zs)).map D.str):=fun G=>Lst.here (zE (At.at' i j us hj hus))
  have ku0:=ku (.lst ((ns.map (Z5 zs)).map D.str)::G);walk_at"g";rw[Tt,Tt,zqZ us i2]
  have lus:us.length<=zs.length:=by
   have:=Uq (N:=List.range zs.length) i3 fun y hy=>List.mem_range.mpr (i4 y hy)
   rwa[Vu]at this
  obtain⟨mid,hmid⟩:∃ mid,mid=(us.drop 1).take (us.length-2):=⟨_,rfl⟩
  have lmid:mid.length<=12:=by rw[hmid,WX,O7];lia
  rw[<- hmid];obtain⟨X,hX⟩:∃ X:Z7,X=G++[.lst ((mid.map (Z5 zs)).map D.str)]:=⟨_,rfl⟩
  have kx:∀ c:Cell,Lst (S++c::X) (.ref (S.length+(c::G).length)) ((mid.map (Z5 zs)).map D.str):=fun c=>by rw[hX];exact Lst.here ((zP _ _ _).trans (by simp))
  rw[Mi,<- hX];walk_at"g";refine Yi (fun k Z S'=>∃ (ns2:List Nat) (w3:Option D),S'=S++.lst ((ns2.map (Z5 zs)).map D.str)::X/\Z=[some (.ref m),some (.ref S.length),some (.ref (m+(j+1))),w3]/\ns2.Nodup/\(∀ y∈ns2,y<zs.length)/\∀ y∈ns2,(∃ a us,a<i/\rs[a]?=some us/\y∈us)\/∃ k',k'<k/\mid[k']?=some y) ⟨ns,_,rfl,rfl,n1,nl,fun y hy=>.inl (nr y hy)⟩ (by rintro k Z S' ⟨_,_,e,_⟩;exact e▸kx _) ?_ ?_
  ·clear nr n1 nl ku0 w2 w3;rintro k d Z S' hd ⟨ns2,w3,rfl,rfl,n1,nl,nr⟩;rw[XF,qj]at hd;obtain⟨x,hx,ed⟩:=qZ.mp hd;have ed:d=.str (Z5 zs x):=ed.symm;subst ed;have hx':=hx;rw[hmid]at hx';obtain⟨x1,x2⟩:=Ew hx';have xl:x<zs.length:=i4 x (qc x1)
   have ixu:∀ {a b y:Nat},us[a]?=some y->us[b]?=some y->a=b:=fun {a b y} ha hb=>by have la:=zA ha;have lb:=zA hb;rw[qb la]at ha;rw[qb lb]at hb;exact(Q8 i3).mp (qF (ha.trans hb.symm))
   have xs:x≠s:=fun e=>by subst e;have:=ixu x1 i0;lia
   have xt:x≠t:=fun e=>by subst e;have:=ixu x1 i1;lia
   have fresh:Z5 zs x∉ns2.map (Z5 zs):=fun z=>by
    obtain⟨y,hy,e⟩:=qw.mp z;have:=Yb nd (nl y hy) xl e;subst this;rcases nr y hy with⟨a,vs,la,hvs,my⟩|⟨k',lk,hk'⟩
    ·rcases A.apart okW hus hvs (by lia) (qc x1) my with e|e
     ·exact xs e
     ·exact xt e
    ·rw[hmid]at hk';have:=ixu x1 (Ew hk').1;lia
   have lns:ns2.length<=12:=by
    have:=Uq (N:=List.range zs.length) n1 fun y hy=>List.mem_range.mpr (nl y hy)
    rw[Vu]at this;lia
   walk_at"g"
   refine MK (.inr Lst.at0) (flz _ (mz xl)) (fun z hz=>by obtain⟨y,hy,rfl⟩:=qw.mp hz;exact flz _ (mz (nl y hy))) ?_
   rw[decide_eq_false fresh];have lns':((ns2.map (Z5 zs)).map D.str).length<big:=by rw[qa,qa];unfold big;lia
   walk_at"g";refine⟨ns2++[x],_,by rw[qD,qD];rfl,rfl,?_,fun y hy=>?_,fun y hy=>?_⟩
   ·rw[W2];refine⟨n1,by simp,fun a ha b hb e=>fresh ?_⟩;have:b=x:=by simpa using hb
    subst this;subst e;exact qw.mpr ⟨a,ha,rfl⟩
   ·rcases qC.mp hy with z|z
    ·exact nl y z
    ·rw[qI.mp z];exact xl
   ·rcases qC.mp hy with z|z
    ·exact(nr y z).imp id fun⟨k',l,e⟩=>⟨k',by lia,e⟩
    ·rw[qI.mp z];exact .inr ⟨k,by lia,hx⟩
  ·rintro Z S' ⟨ns2,w3,rfl,rfl,n1,nl,nr⟩;walk_at"g";refine⟨ns2,X,_,_,rfl,rfl,n1,nl,fun y hy=>?_⟩;rcases nr y hy with⟨a,vs,la,hvs,my⟩|⟨k',lk,hk'⟩
   ·exact⟨a,vs,by lia,hvs,my⟩
   ·rw[hmid]at hk';exact⟨i,us,by lia,hus,qc (Ew hk').1⟩
 ·rintro Z S' ⟨ns,G,w2,w3,rfl,rfl,n1,nl,nr⟩;walk_at"g";exact fin_same (q _)
def Fe:ZX:=fun ds S Q=>∃ (y:D) (V:Vl) (h:Int) (n:Str) (z:D) (bar:List Str),ds=[y,.str n,z]/\Y8 V/\Xw S y V h/\n∈V.bs.map (·.1)/\Lst S z (bar.map D.str)/\(∀ w∈bar,fl 20 (.str w)=true)/\∀ (T:Z7) (k:Nat) (ms:List Str),(∀ w,w∈ms↔Sw V h bar n w)->(S++T)[k]?=some (.lst (ms.map D.str))->Q (.ref k) (S++T)
abbrev tU:DS :=
    (zj (zq (Yn YJ) YS)
 (zj (zq ZF YH)
 (zj (Vd (dT (Z6 oLt ZJ (dB Zc Yw))) (zj (Za (dM Mu ZS (zc (Zg 1 [3,2] (z9 (V2 Z4 (Z6 ZR ZS ZJ))) Y0 (Xb (dT (Z6 Sq Z4 Z0)) (dT (Z6 Sq Z4 ZW))) Z4) zm)))
 (zq (Z6 Zr ZJ ZK) YH)))
 (zB ZS))))
def ą:BodyOk 5 tU Fe:=by
 rintro ds S Q ⟨y,V,h,n,z,bar,rfl,ok,hn,mn,hz,hbar,q⟩;unfold tU;have b12:(V.bs.map (·.1)).length<=12:=by rw[qa];exact ok.b12
 have flz:=ok.flN;walk_at"g";walk_at"h";refine RZ (fun m Z S'=>∃ (F:List Str) (G:Z7) (k:Nat),S'=S++Cell.lst (F.map D.str)::G/\Z=[some y,some (.str n),some z,some (.ref S.length),some (.int (k:Int))]/\m+k=20/\F.Nodup/\(∀ w∈F,Sw V h bar n w)/\n∈F/\k<=F.length/\∀ (j:Nat) a b,j<k->F[j]?=some a->YZ V h a b->b∉bar->b∈F) 20 ⟨[n],[],0,rfl,rfl,rfl,by simp,fun w hw=>by rw[qI.mp hw];exact .refl,by simp,by simp,fun j a b hj=>by lia⟩ ?_;rintro m Z S' ⟨F,G,k,rfl,rfl,hm,nd,hF,hnF,hk,hcl⟩;have hFm:∀ w∈F,w∈V.bs.map (·.1):=fun w hw=>xY mn (hF w hw)
 have lF:F.length<=12:=qV (Nf nd hFm) b12;have flF:∀ x∈F,fl 20 (.str x)=true:=fun x hx=>flz x (hFm x hx)
 walk_at"g";rw[qa];refine Zo (fun hlt=>?_) (fun hge=>?_)
 ·obtain⟨a,ha⟩:∃ a,F[k]?=some a:=⟨F[k]'(by lia),qb (by lia)⟩
  have ma:=qc ha;have aF:Zb (F.map D.str) (k:Int)=some (.str a):=Rt (by rw[qj,ha];rfl);obtain⟨mi,ys,hg,hmi,ynd,hy⟩:=Xw.get (hn.old (T:=Cell.lst (F.map D.str)::G)) (hFm a ma);have fly:∀ w∈ys,fl 20 (.str w)=true:=fun w hw=>flz w (R6 ((hy w).mp hw).2).2
  have ly:ys.length<=12:=qV (Nf ynd fun w hw=>(R6 ((hy w).mp hw).2).2) b12;have kF:Lst (S++Cell.lst (F.map D.str)::G) (.ref S.length) (F.map D.str):=Lst.at0;have kz:Lst (S++Cell.lst (F.map D.str)::G) z (bar.map D.str):=hz.old;walk_at"g";refine⟨_,hg,?_⟩;have ky:Lst (S++Cell.lst (F.map D.str)::G) (.ref mi) (ys.map D.str):=Lst.here hmi;walk_at"g";refine Xy (X4 fun w=>decide (w∉F/\w∉bar)) id ky (by rw[qa];unfold big;lia) (fun j d zs' hd' hw=>?_) ?_
  ·obtain⟨w,hw',rfl⟩:=Xl hd';have mw:=qc hw';walk_at"g";refine Np (.inr kF) (fly w mw) flF ?_;walk_at"g";refine Xf (fun e=>?_) (fun e=>?_)
   ·walk_at"g";refine Np (.inr kz) (fly w mw) hbar ?_;walk_at"g";refine Xf (fun e2=>?_) (fun e2=>?_)
    ·walk_at"g";exact Xm hd' hw (decide_eq_true ⟨e,e2⟩) rfl
    ·walk_at"g";exact VF hd' hw (decide_eq_false fun w=>w.2 e2)
   ·walk_at"g";exact VF hd' hw (decide_eq_false fun w=>w.1 e)
  have ef:((ys.map D.str).filter (X4 fun w=>decide (w∉F/\w∉bar))).map id=(ys.filter fun w=>decide (w∉F/\w∉bar)).map D.str:=by rw[List.map_id,Uy];rfl
  rw[ef];obtain⟨rs,hrs⟩:∃ rs:List Str,rs=ys.filter fun w=>decide (w∉F/\w∉bar):=⟨_,rfl⟩
  have mr:∀ w,w∈rs↔w∈ys/\w∉F/\w∉bar:=fun w=>by rw[hrs,qU,decide_eq_true_eq]
  have rnd:rs.Nodup:=hrs▸ynd.filter _;have lr:rs.length<=12:=by rw[hrs];exact qV (Rh _ _) ly
  rw[<- hrs];clear hrs ef;refine Wo ?_;walk_at"g";refine nU (xs:=F.map D.str) (ys:=rs.map D.str) zM Nv (by simp) (by rw[qa,qa];unfold big;lia) ?_;walk_at"g";rw[<- qD];refine⟨m-1,by lia,F++rs,_,k+1,rfl,rfl,by lia,?_,fun w hw=>?_,VR _ hnF,by rw[qf];lia,fun j a' b hj ha' aD nb=>?_⟩
  ·rw[W2];exact⟨nd,rnd,fun u hu v hv e=>((mr v).mp hv).2.1 (e▸hu)⟩
  ·rcases qC.mp hw with hw|hw
   ·exact hF w hw
   ·obtain⟨w1,w2,w3⟩:=(mr w).mp hw;exact .step (hF a ma) ((hy w).mp w1).2 w3
  ·rcases qW j k with g|g
   ·rw[qg (by lia)]at ha';exact VR _ (hcl j a' b g ha' aD nb)
   ·have:j=k:=by lia
    subst this;rw[qg (by lia),ha]at ha';cases ha';rw[qC];by_cases e:b∈F
    ·exact .inl e
    ·exact .inr ((mr b).mpr ⟨(hy b).mpr ⟨fun z=>e (z▸ma),aD⟩,e,nb⟩)
 ·walk_at"g";have hkl:k=F.length:=by lia
  refine fin_same (q _ _ F (fun w=>⟨hF w,fun c=>?_⟩) zM)
  induction c with
  |refl=>exact hnF
  |step c aD nb ih =>obtain⟨j,hj,e⟩:=qH.mp ih;exact hcl j _ _ (by lia) (by rw[qb hj,e]) aD nb
def CK:ZX:=fun ds S Q=>∃ (x y:D) (V:Vl) (h:Int) (s t:Nat) (zs:List Str) (A0:List (List Nat)×List Nat×List Nat) (mn:Nat×Nat),ds=[x,y,.str (Z5 zs s),.str (Z5 zs t),.tup [.ref mn.1,.ref mn.2]]/\Y8 V/\zs=V.bs.map (·.1)/\Lst S x (zs.map D.str)/\Xw S y V h/\s<zs.length/\t<zs.length/\Zt (ZG V h s t)/\Yh V h s t zs A0.1 A0.2.1/\Oh S mn.1 mn.2 zs A0.1 A0.2.1 A0.2.2/\∀ T,Q (.bl true) (S++T)
abbrev yp:DS :=
    (zj (ZM (Yz (Yu (dT (dB Xk (zc ZJ (zc (dC (.ty "tuple")) zm))))) (dT (Z6 Yv (dB Zc Kr) Wc))) (zB (dC (.bl false))) zF)
 (zj (zq ZJ (YL 2 (zK Yx (zK VN YW))))
 (zj (ZM (Yz (Yu (dT (dB Xk (zc Zf (zc (dC (.ty "list")) zm))))) (Yz (Yu (dT (dB Xk (zc Yo (zc (dC (.ty "list")) zm))))) (dT (Z6 Yv (dB Zc Qc) (dB Zc QK))))) (zB (dC (.bl false))) zF)
 (zj (ZM (Yz (Yu (dT (dB Vf (zc (Zg 1 [1,2,3] (z9 Zf) Y0 Yc (dCall Fp (zc Z0 (zc ZW (zc ZS Zd))))) zm)))) (Yu (dT (dCall Ho Qc)))) (zB (dC (.bl false))) zF)
 (zj (ZM (Yz (dT (Z6 Yv Yo (Zg 1 [6] (z9 Z4) Y0 (dT (Z6 Vh Z4 Z0)) Z4))) (Yz (dT (Z6 Vh ZW Yo)) (dT (Z6 Vh ZS Yo)))) (zB (dC (.bl false))) zF)
 (zB (Z6 Sq ZS (dCall Fe (zc Z0 (zc ZW QK))))))))))
def Ă:BodyOk 7 yp CK:=by
 rintro ds S Q ⟨x,y,V,h,s,t,zs,⟨rs,ks,js⟩,⟨m,n⟩,rfl,ok,hzs,hx,hn,hs,ht,okW,A,At,q⟩;unfold yp;have nd:zs.Nodup:=hzs▸ok.nd;have flz:∀ z∈zs,fl 20 (.str z)=true:=hzs▸ok.flN;have h12:zs.length<=12:=by rw[hzs,qa];exact ok.b12
 have mz:∀ {i},i<zs.length->Z5 zs i∈zs:=fun hi=>qc (Ws hi)
 have hm:=At.r;have hk:=At.k;dsimp only at hm hk q At A;have km:Lst S (.ref m) (js.map fun j=>.ref (m+(j+1))):=Lst.here hm;have kk:Lst S (.ref n) ((ks.map (Z5 zs)).map D.str):=Lst.here hk
 have el:(js.map fun j=>D.ref (m+(j+1))).length=((ks.map (Z5 zs)).map D.str).length:=by rw[qa,qa,qa,At.l,A.len hzs okW]
 walk_at"g";rw[if_neg (by simp)];walk_at"g";rw[el];rw[if_neg (by simp)];walk_at"g"
 have ljs:js.length<=12:=by
  have h1:=(A.ends okW).2.2;have:=Uq (N:=List.range zs.length) h1.2 fun y hy=>List.mem_range.mpr (h1.1 y hy)
  rw[Vu]at this;rw[At.l,A.len hzs okW];lia
 refine Nq (fun i ys S'=>∃ G:Z7,S'=S++G/\ys=(List.replicate i true).map D.bl) ⟨[],by simp,rfl⟩ (by rintro i ys S' ⟨G,e,_⟩;exact e▸km.old) (by rw[qa];unfold big;lia) ?_ ?_
 ·rintro i d ys S' hd ⟨G,rfl,rfl⟩;rw[qj]at hd;obtain⟨j,hj,ed⟩:=qZ.mp hd;have ed:d=.ref (m+(j+1)):=ed.symm;subst ed;have lj:=zA hj;have ll:=At.l;obtain⟨us,hus⟩:∃ us,rs[i]?=some us:=⟨_,qb (by lia)⟩
  obtain⟨i0,i1,i2,i3,i4,_⟩:=A.idx hzs okW hus
  have lus:us.length<=zs.length:=by
   have:=Uq (N:=List.range zs.length) i3 fun y hy=>List.mem_range.mpr (i4 y hy)
   rwa[Vu]at this
  walk_at"g";refine⟨y,V,h,_,_,_,us.map (Z5 zs),rfl,ok,hn.old,flz _ (mz hs),flz _ (mz ht),fun e=>okW.st (Yb nd hs ht e),zE (At.at' i j us hj hus),by rw[qa];lia,fun u hu=>?_,fun T r hr=>?_⟩
  ·obtain⟨k,hk',rfl⟩:=qw.mp hu;exact hzs▸mz (i4 k hk')
  have er:r=true:=hr.mpr (A.road nd hzs okW hus);subst er;walk_at"g";exact⟨G++T,by rw[qq],by rw[show List.replicate (i+1) true=List.replicate i true++[true]from List.replicate_succ',qD];rfl⟩
 rintro ys S' ⟨G,rfl,rfl⟩;rw[qa];refine Wo ?_;walk_at"g";refine BL Lst.new ?_;rw[show(List.replicate js.length true).all id=true by simp];walk_at"g";obtain⟨G1,hG1⟩:∃ G1:Z7,G1=G++[.lst ((List.replicate js.length true).map D.bl)]:=⟨_,rfl⟩
 rw[<- hG1];have At1:Oh (S++G1) m n zs rs ks js:=⟨zE At.r,zE At.k,At.l,At.nd,At.lt,fun i j us a b=>zE (At.at' i j us a b)⟩
 refine⟨V,h,s,t,zs,rs,ks,js,(m,n),rfl,ok,hzs,okW,A,At1,fun T=>?_⟩;rw[qq];have hx1:Lst (S++(G1++T)) x (zs.map D.str):=hx.old;have kk1:Lst (S++(G1++T)) (.ref n) ((ks.map (Z5 zs)).map D.str):=kk.old;walk_at"g"
 have flk:∀ z∈ks.map (Z5 zs),fl 20 (.str z)=true:=fun z hz=>by obtain⟨k,hk',rfl⟩:=qw.mp hz;exact flz _ (mz ((A.ends okW).2.2.1 k hk'))
 refine Xy (X4 fun z=>decide (z∈ks.map (Z5 zs))) id hx1 (by rw[qa];unfold big;lia) (fun i d ys hd hw=>?_) ?_
 ·obtain⟨z,hz,rfl⟩:=Xl hd;walk_at"g";refine MK (.inr kk1) (flz z (qc hz)) flk ?_;walk_at"g";refine Zo (fun e=>?_) (fun e=>?_)
  ·walk_at"g";exact Xm hd hw (decide_eq_true e) rfl
  ·walk_at"g";exact VF hd hw (decide_eq_false e)
 rw[List.map_id,Uy,show(X4 (fun z=>decide (z∈ks.map (Z5 zs))) ∘ D.str)=fun z=>decide (z∈ks.map (Z5 zs))from rfl,A.kflt nd];refine Wo ?_;have kk2:∀ G,Lst (S++G) (.ref n) ((ks.map (Z5 zs)).map D.str):=fun G=>kk.old
 obtain⟨e1,e2,_⟩:=A.ends okW
 have nks:∀ {i},i<zs.length->i∉ks->Z5 zs i∉ks.map (Z5 zs):=fun hi h z=>by obtain⟨k,hk',e⟩:=qw.mp z;exact h (Yb nd ((A.ends okW).2.2.1 k hk') hi e▸hk')
 walk_at"g";refine jM (kk2 _) Lst.new (Cz flk) ?_;walk_at"g";refine MK (.inr (kk2 _)) (flz _ (mz hs)) flk ?_;rw[decide_eq_false (nks hs e1)];walk_at"g";refine MK (.inr (kk2 _)) (flz _ (mz ht)) flk ?_;rw[decide_eq_false (nks ht e2)];walk_at"g";refine⟨y,V,h,_,_,ks.map (Z5 zs),rfl,ok,hn.old,hzs▸mz hs,kk2 _,flk,fun T2 k ms hms hk'=>?_⟩;rw[qq]at hk' ⊢;have fm:∀ w∈ms,fl 20 (.str w)=true:=fun w hw=>flz w (by rw[hzs];exact xY (hzs▸mz hs) ((hms w).mp hw))
 walk_at"g";refine Np (.inr (Lst.here hk')) (flz _ (mz ht)) fm ?_;rw[decide_eq_false fun z=>A.cut nd hzs okW ((hms _).mp z)];walk_at"g";exact fin_same (q _)
abbrev Ac:DS :=
    (zj (zq (dCall Hy Zd) Ww)
 (zj (zq WD YB)
 (zj (zq (dCall Ir YJ) YS)
 (zj (zq (Z6 oMod (dCall KR (zc Z4 (zc ZK zm))) (dC (.int 1000000000000000000000000000000))) YH)
 (zj (zq (Z6 Zr (Yl "first" ZS) (Z6 oMod ZJ Qn)) Yx)
 (zj (zq (dCall BW (zc ZS (zc Zf Ym))) VN)
 (zj (YQ (z9 (dCall HN (zc (dCall DP (zc ZW QK)) (zc ZJ (zc TX zm))))) (YL 2 (zK Q6 (zK Jy YW))) (ZM (Yu (dT (dCall CK (zc ZW (zc Yo (zc Wa (zc Rg (zc (dCall Dk (zc ZS (zc Zf (zc Wa ua8)))) zm)))))))) (zB (dC (.bl false))) zF))
 (zB (dC (.bl true))))))))))
def lX:BodyOk 9 Ac PK:=by
 rintro ds S Q ⟨ns,rfl,⟨_,hg⟩,hl,q⟩;unfold Ac;walk_at"g";refine⟨ns,rfl,hl,fun T a b c zs ps fs hz f w ha hb hc=>?_⟩;walk_at"g";refine⟨a,b,c,zs,ps,fs,hz,f,rfl,w,ha,hb,hc,fun T2 v V hv ok hzs hf0 hf1=>?_⟩;have ha2:Lst (S++T++T2) a (zs.map D.str):=ha.old;generalize S++T++T2=S2 at hv ha2;walk_at"g";refine⟨ns,1,rfl,by decide,fun c1=>?_⟩;obtain⟨vn,vg,vb,vf,rfl,hv1,hv2⟩:=id hv;walk_at"g";have t0:=RX (c1%1000000000000000000000000000000) (b:=6) (by decide);have t1:=Rv (c1%1000000000000000000000000000000) (b:=6) (by decide);generalize c1%1000000000000000000000000000000=t at t0 t1;have hh0:V.h0<=V.h0+t%6:=by lia
 have hh1:V.h0+t%6<=V.h1:=by lia
 generalize V.h0+t%6=hour at hh0 hh1;refine⟨_,V,hour,a,zs,rfl,hv,ok,hzs,ha2,hh0,hh1,fun T3 y hn=>?_⟩;have hv3:Zk (S2++T3) (.ref vn) V:=hv.old;have ha3:Lst (S2++T3) a (zs.map D.str):=ha2.old;generalize S2++T3=S3 at hn hv3 ha3;clear hv ha2 hv1 hv2;walk_at"g";refine⟨a,zs,y,V,hour,rfl,ha3,ok,hzs,hn,fun T4 n4 prs4 hp4 lp4 hn4=>?_⟩;have hv4:Zk (S3++T4) (.ref vn) V:=hv3.old;have ha4:Lst (S3++T4) a (zs.map D.str):=ha3.old;have hn4':Xw (S3++T4) y V hour:=hn.old;generalize S3++T4=S4 at hn4 hv4 ha4 hn4';clear hn hv3 ha3;walk_at"g";refine⟨_,prs4,t,5,rfl,Lst.here hn4,by decide,by decide,fun qs hq=>?_⟩;walk_at"g";walk_at"h";have kq:∀ G,Lst (S4++Cell.lst (qs.map Zx)::G) (.ref S4.length) (qs.map Zx):=fun G=>Lst.at0
 have nd:zs.Nodup:=by rw[<- hzs];exact ok.nd
 refine Yi (fun i Z S'=>∃ (G:Z7) (w7 w8:Option D),S'=S4++Cell.lst (qs.map Zx)::G/\Z=[some (.rl (ns.map D.int)),some (.tup [a,b,c,.int hz,.int f,.int (f+5)]),some a,some (.ref vn),some (.int t),some (.int hour),some y,w7,w8]) ⟨[],_,_,rfl,rfl⟩ (by rintro i Z S' ⟨G,_,_,e,_⟩;exact e▸kq G) ?_ ?_
 ·rintro i d Z S' hd ⟨G,w7,w8,rfl,rfl⟩;obtain⟨⟨one,two⟩,hp,rfl⟩:=JZ hd;obtain⟨m1,m2,ne,nad⟩:=hp4 _ (hq _ (qc hp));obtain⟨s,hs,rfl⟩:=Ds hzs.symm (hzs.symm▸m1);obtain⟨t',ht,rfl⟩:=Ds hzs.symm (hzs.symm▸m2);have okW:Zt (ZG V hour s t'):=FJ (hzs.symm▸hs) (hzs.symm▸ht) (hzs.symm▸nad);have hv5:Zk (S4++Cell.lst (qs.map Zx)::G) (.ref vn) V:=hv4.old;have ha5:Lst (S4++Cell.lst (qs.map Zx)::G) a (zs.map D.str):=ha4.old;have hn5:Xw (S4++Cell.lst (qs.map Zx)::G) y V hour:=hn4'.old;walk_at"g";refine⟨_,V,hour,s,t',zs,rfl,hv5,ok,hzs.symm,hs,ht,hh0,hh1,nad,fun T5 m n rs ks js A At ln=>?_⟩;walk_at"g";refine⟨a,y,V,hour,s,t',zs,(rs,ks,js),(m,n),rfl,ok,hzs.symm,ha5.old,hn5.old,hs,ht,okW,A,At,fun T6=>?_⟩;walk_at"g";exact⟨G++T5++T6,_,_,by simp,rfl⟩
 ·rintro Z S' ⟨G,w7,w8,rfl,rfl⟩;walk_at"g";exact fin_same (q _)
end Dp
namespace Law
open PySem PySem.Spec PyProof.Rows L2 My Dp
def top (i:Nat):Stmt:=PySem.Challenge.pw_beaconvale_k79_whole_roads_and_keepers.main.body.getD i (.Pass ⟨0,0,0,0⟩)
def bs:List (Str×Y9):=[ent "len" (.blt .len),
 ent "range" (.blt .range),
 ent "enumerate" (.blt .enum),
 ent "list" (.blt .list),
 ent "all" (.blt .all),
 ent "set" (.blt .set),
 ent "abs" (.blt .abs),
 ent "int" (.blt .int),
 ent "isinstance" (.blt .isi),
 ent "bool" (.blt .bool),
 ent "tuple" (.blt .tuple),
 ent "zip" (.blt .zip),
 ent "min" (.blt .min),
 ent "max" (.blt .max),
 ent "str" (.blt .str),
 ent "LEAST_CORNERS" (.int 2),
 ent "MOST_CORNERS" (.int 40),
 ent "MOST_BEACONS" (.int 12),
 ent "MOST_FOGS" (.int 12),
 ent "MOST_LETTERS" (.int 8),
 ent "LETTERS" (.str "abcdefghijklmnopqrstuvwxyz"),
 ent "NUMBERS" (.int 8),
 ent "LEFT" (.int 0),
 ent "RIGHT" (.int 1),
 ent "LOW" (.int 2),
 ent "HIGH" (.int 3),
 ent "FIRST" (.int 4),
 ent "LAST" (.int 5),
 ent "DRIFT" (.int 6),
 ent "RISE" (.int 7),
 ent "INWARD" (.int 0),
 ent "OUTWARD" (.int 1)]
def F:List (Str×Stmt×Y9):=[zJ "_law_cell_at" (top 78) (.fn 1 ["script","k"] KR),
 zJ "_law_mixed" (top 79) (.fn 1 ["cell","k"] Nz),
 zJ "_law_seeds" (top 80) (.fn 2 ["cells","most"] HS),
 zJ "_law_web_parts" (top 81) (.fn 3 ["script"] Hy),
 zJ "refuse_bad_corners" (top 37) (.fn 1 ["corners"] El),
 zJ "refuse_bad_numbers" (top 51) (.fn 1 ["beacons","fogs"] Cw),
 zJ "is_name" (top 50) (.fn 1 ["text"] CP),
 zJ "refuse_bad_names" (top 52) (.fn 2 ["names"] CT),
 zJ "less" (top 31) (.fn 1 ["one","other"] Qd),
 zJ "is_on" (top 39) (.fn 2 ["ground","place"] K6),
 zJ "common_divisor" (top 29) (.fn 1 ["one","other"] Hz),
 zJ "fraction" (top 30) (.fn 2 ["top","bottom"] DQ),
 zJ "height_on" (top 33) (.fn 3 ["one","other","place"] Cu),
 zJ "ground_at" (top 40) (.fx 4 ["ground","place"] CG),
 zJ "stands" (top 41) (.fn 5 ["ground","spot"] Kd),
 zJ "refuse_bad_tops" (top 53) (.fn 6 ["ground","beacons"] Fj),
 zJ "is_whole" (top 12) (.fn 1 ["value"] Es),
 zJ "is_fog" (top 23) (.fn 2 ["value"] Dd),
 zJ "refuse_bad_fogs" (top 54) (.fn 3 ["fogs"] Cg),
 zJ "refuse_bad_hours" (top 55) (.fn 1 ["haze","first","last","delay"] GF),
 zJ "_law_valley" (top 82) (.fn 9 ["parts"] Ir),
 zJ "refuse_no_hour" (top 60) (.fx 1 ["valley","hour"] Ks),
 zJ "names_of" (top 57) (.fn 1 ["valley"] Rj),
 zJ "pairs_of" (top 58) (.fn 2 ["valley"] Dq),
 zJ "spot_of" (top 59) (.fx 1 ["valley","name"] Lb),
 zJ "refuse_not_standing" (top 42) (.fx 6 ["ground","spot"] Jg),
 zJ "numbers_between" (top 43) (.fn 1 ["ground","x","other_x"] Gv),
 zJ "side_of" (top 32) (.fn 1 ["one","other","spot"] Gp),
 zJ "hinder" (top 44) (.fx 7 ["ground","one","other"] Fo),
 zJ "square_between" (top 61) (.fn 1 ["one","other"] Ed),
 zJ "hidden_always" (top 62) (.fn 8 ["valley","one","other"] Ef),
 zJ "moved" (top 24) (.fn 1 ["fog","hours"] DY),
 zJ "box_at" (top 25) (.fn 2 ["fog","hour"] CQ),
 zJ "margins" (top 26) (.fn 1 ["box","one","other"] Ez),
 zJ "meets" (top 27) (.fn 2 ["box","one","other"] HW),
 zJ "hidden" (top 63) (.fx 9 ["valley","name","other","hour"] KZ),
 zJ "web_at" (top 64) (.fx 10 ["valley","hour"] Jt),
 zJ "_law_near" (top 83) (.fn 11 ["valley","hour","names"] BW),
 zJ "_law_pairs" (top 85) (.fn 1 ["names","near"] DP),
 zJ "_law_some" (top 90) (.fn 1 ["pairs","turn","most"] HN),
 zJ "refuse_beside" (top 68) (.fn 10 ["valley","hour","name","other"] Gu),
 zJ "others_than" (top 69) (.fn 2 ["valley","name","other"] Cp),
 zJ "room_at_first" (top 70) (.fn 11 ["valley","hour","name","other"] G4),
 zJ "points_from" (top 71) (.fn 1 ["room","start"] NZ),
 zJ "take_road" (top 72) (.fn 1 ["room","found","goal"] Ei),
 zJ "room_at_last" (top 73) (.fn 12 ["valley","hour","name","other"] BZ),
 zJ "steps_taken" (top 74) (.fn 2 ["valley","room","one"] Jj),
 zJ "roads_taken" (top 75) (.fn 3 ["valley","room","name","other"] Io),
 zJ "roads_and_keepers" (top 76) (.fn 13 ["valley","hour","name","other"] Dk),
 zJ "_law_road" (top 87) (.fn 1 ["near","one","two","road"] Fp),
 zJ "_law_share_nobody" (top 88) (.fn 1 ["roads"] Ho),
 zJ "_law_met" (top 84) (.fn 1 ["near","name","shut"] Fe),
 zJ "_law_good" (top 89) (.fn 2 ["names","near","one","two","found"] CK),
 zJ "law" (top 91) (.fn 14 ["script"] PK)]
def C:List (Str×Stmt×Y9):=[zJ "Ground" (inClass (top 38) 0) (.cl 2 (SX "Ground" Hu)),
 zJ "Valley" (inClass (top 56) 0) (.cl 7 (SX "Valley" Il))]
def G:Gm:={ g:=bs++(F++C).map fun r=>(r.1,r.2.2),r:=["OffGround","BadHour","NoBeacon"],t:=[],i:=[],f:=[("Ground","corners"),("Valley","ground"),("Valley","beacons"),("Valley","fogs"),("Valley","haze"),("Valley","first"),("Valley","last"),("Valley","delay")] }
def R:IW G [] bs F C:=⟨rfl,
 .cons (.fn (M:=[]) ϋ [] false (by kernel_rfl)) <|
 .cons (.fn (M:=["big"]) zjx [] false (by kernel_rfl)) <|
 .cons (.fn (M:=["seeds","k","cell","at"]) zje [] false (by kernel_rfl)) <|
 .cons (.fn (M:=["head","count","seeds","spots","names","haze","first","fogs","seed","m","begin","box"]) cH [] false (by kernel_rfl)) <|
 .cons (.fn (M:=["k"]) zea [] false (by kernel_rfl)) <|
 .cons (.fn (M:=[]) lG [] false (by kernel_rfl)) <|
 .cons (.fn (M:=[]) υ [] false (by kernel_rfl)) <|
 .cons (.fn (M:=[]) iJ [] false (by kernel_rfl)) <|
 .cons (.fn (M:=[]) η [] false (by kernel_rfl)) <|
 .cons (.fn (M:=["first","last"]) ť [] false (by kernel_rfl)) <|
 .cons (.fn (M:=["rest"]) gQ [] false (by kernel_rfl)) <|
 .cons (.fn (M:=["divisor"]) lM [] false (by kernel_rfl)) <|
 .cons (.fn (M:=["run","rise","top"]) ziL [] false (by kernel_rfl)) <|
 .cons (.fx (M:=["corners","k"]) À [] false (by kernel_rfl)) <|
 .cons (.fn (M:=["place"]) į [] false (by kernel_rfl)) <|
 .cons (.fn (M:=[]) ϝ [] false (by kernel_rfl)) <|
 .cons (.fn (M:=[]) j6 [] false (by kernel_rfl)) <|
 .cons (.fn (M:=[]) é [] false (by kernel_rfl)) <|
 .cons (.fn (M:=[]) ze5 [] false (by kernel_rfl)) <|
 .cons (.fn (M:=[]) ze0 [] false (by kernel_rfl)) <|
 .cons (.fn (M:=["names","spots","fogs","haze","first","last","beacons"]) aK [] false (by kernel_rfl)) <|
 .cons (.fx (M:=[]) zfK [] false (by kernel_rfl)) <|
 .cons (.fn (M:=[]) zkc [] false (by kernel_rfl)) <|
 .cons (.fn (M:=["names","found","k","name","other"]) ä [] false (by kernel_rfl)) <|
 .cons (.fx (M:=["beacon"]) zk6 [] false (by kernel_rfl)) <|
 .cons (.fx (M:=[]) aJ [] false (by kernel_rfl)) <|
 .cons (.fn (M:=["low","high"]) zfn [] false (by kernel_rfl)) <|
 .cons (.fn (M:=["run","rise","over"]) mD [] false (by kernel_rfl)) <|
 .cons (.fx (M:=["k"]) Ś [] false (by kernel_rfl)) <|
 .cons (.fn (M:=["run","climb"]) mX [] false (by kernel_rfl)) <|
 .cons (.fn (M:=["corner","square"]) zga [] false (by kernel_rfl)) <|
 .cons (.fn (M:=["along","upwards"]) fG [] false (by kernel_rfl)) <|
 .cons (.fn (M:=[]) znk [] false (by kernel_rfl)) <|
 .cons (.fn (M:=["run","climb","corners","across"]) zlq [] false (by kernel_rfl)) <|
 .cons (.fn (M:=[]) jz [] false (by kernel_rfl)) <|
 .cons (.fx (M:=["one_top","other_top","found","k","fog","box"]) Ġ [] false (by kernel_rfl)) <|
 .cons (.fx (M:=[]) iM [] false (by kernel_rfl)) <|
 .cons (.fn (M:=["near","name","one","two"]) Ĺ [("near",some true)] false (by kernel_rfl)) <|
 .cons (.fn (M:=["told","one"]) zjk [("near",some true)] false (by kernel_rfl)) <|
 .cons (.fn (M:=[]) zjY [] false (by kernel_rfl)) <|
 .cons (.fn (M:=[]) iG [] false (by kernel_rfl)) <|
 .cons (.fn (M:=[]) kj [] false (by kernel_rfl)) <|
 .cons (.fn (M:=["room","each","plenty","one","another"]) ž [("room",none)] false (by kernel_rfl)) <|
 .cons (.fn (M:=["found","waiting","point","step","left"]) Ε [("room",none),("found",some false)] false (by kernel_rfl)) <|
 .cons (.fn (M:=["point","ahead"]) aZ [("room",none),("found",some false)] false (by kernel_rfl)) <|
 .cons (.fn (M:=["room","found"]) dH [("room",none),("found",some false)] false (by kernel_rfl)) <|
 .cons (.fn (M:=[]) ω [("room",none)] false (by kernel_rfl)) <|
 .cons (.fn (M:=["roads","start","road","each"]) ý [("room",none)] false (by kernel_rfl)) <|
 .cons (.fn (M:=["room","found","keepers"]) mQ [("room",none),("found",some false)] false (by kernel_rfl)) <|
 .cons (.fn (M:=["k","name"]) ĝ [("near",some true)] false (by kernel_rfl)) <|
 .cons (.fn (M:=["met","road","name"]) Â [] false (by kernel_rfl)) <|
 .cons (.fn (M:=["met","at"]) ą [("near",some true)] false (by kernel_rfl)) <|
 .cons (.fn (M:=["roads","keepers"]) Ă [] false (by kernel_rfl)) <|
 .cons (.fn (M:=["parts","names","valley","turn","hour","near","one","two"]) lX [("near",some true)] false (by kernel_rfl)) <| .nil,
 .cons (.cl (ps:=["self","corners"]) (M:=[]) ě (by kernel_rfl)) <|
 .cons (.cl (ps:=["self","ground","beacons","fogs","haze","first","last","delay"]) (M:=[]) gK (by kernel_rfl)) <| .nil⟩
def mY:(("law":Str),top 91,Y9.fn 14 ["script"] PK)∈F:=by simp[F]
end Law
local macro_rules | `(tactic| walk_at"al")=>`(tactic| first | exact Dp.Al.nil | (refine Dp.Al.cons ?_ ?_;((try dsimp only[Dp.zJ,Dp.ent]);walk_at"a1");walk_at"al"))
local macro_rules | `(tactic| walk_at"a1")=>`(tactic| first | (refine Dp.gB rfl ?_;k_is) | (refine' Dp.ϫ ?a;(case a=>k_is)) | (refine' Dp.þ ?a;(case a=>k_is)) | (refine' Dp.lH ?fa ?fl ?fc ?fk;(case fa=>k_is);(case fl=>k_is);(case fc=>k_is);(case fk=>k_is)) | (refine' Dp.zsC ?a ?q2 ?l ?cc ?k ?q1 ?q3 ?q4 ?q5 ?q6 ?q7 ?q8;(case a=>k_is);(case q2=>k_is);(case l=>k_is);(case cc=>k_is);(case k=>k_is);(case q1=>k_is);(case q3=>k_is);(case q4=>k_is);(case q5=>k_is);(case q6=>k_is);(case q7=>k_is);(case q8=>k_is)) | (refine' Dp.ztm ?a ?b;(case a=>k_is);(case b=>kernel_rfl)) | (refine' Dp.Ì ?a ?b;(case a=>k_is);(case b=>k_is)))
open PySem PySem.W PyProof.Rows
namespace PySem.W.Fast
def tw2396177390496501431:=Prop
def tw16479964671495392492:=Prop
def tw18267550259814900254:=Prop
def tw9571669196654827143:=Prop
def tw16515251933357842833:=Prop
def tw11830951566112448402:=Prop
def tw8271299778511147798:=Prop
def tw9860695618096977310:=Prop
def tw18441120375959724604:=Prop
def tw6210211433137358256:=Prop
def tw16210769728407246727:=Prop
def tw17997743098287380370:=Prop
def tw1145800185206985892:=Prop
def tw8664462285400189705:=Prop
def tw4639516473408958667:=Prop
def tw10668851610945651515:=Prop
def tw8326349872228249262:=Prop
def tw16622501358148331563:=Prop
def tw9434041566631662479:=Prop
def tw4790552498437265173:=Prop
def tw14181687706851046680:=Prop
def tw15673811094547066262:=Prop
def tw14024506116356521109:=Prop
def tw15981640893398947506:=Prop
def tw2685136029906466402:=Prop
def tw12353189033509997084:=Prop
def tw4040066572039411599:=Prop
def tw8406825236368632338:=Prop
def tw15734974944446831987:=Prop
def tw11427714074840060753:=Prop
def tw13332936711146422957:=Prop
def tw956012606828023784:=Prop
def tw3117673067299830656:=Prop
def tw11301523690852590432:=Prop
def tw10168652140772897270:=Prop
def tw11920473708560245090:=Prop
def tw11748865033483739418:=Prop
def tw11305106561618354908:=Prop
def tw15394930123984051174:=Prop
def tw2987340931678455981:=Prop
def tw17313272082972957652:=Prop
def tw5776430292238477554:=Prop
def tw9243380355549786379:=Prop
def tw14084628505960675188:=Prop
def tw7683574923137249132:=Prop
def tw4253140403067440407:=Prop
def tw9628285286840651987:=Prop
def tw12806013441654262070:=Prop
def tw3842645428824736434:=Prop
def tw3221812973757108884:=Prop
def tw16339108297260763976:=Prop
def tw2004156807099328636:=Prop
def tw17227161160989591435:=Prop
def tw8999043650288799865:=Prop
def tw1991969568454885071:=Prop
def tw10674069111205198798:=Prop
def tw4843542426524533028:=Prop
def tw2021228875139765735:=Prop
def tw13868019561563654517:=Prop
def tw15502621601891289123:=Prop
def tw10474765950293970716:=Prop
def tw12586225832182043557:=Prop
def tw13306110134844480807:=Prop
def tw17417595727902698732:=Prop
def tw4097369727196375788:=Prop
def tw15381857567013266882:=Prop
def tw12336937322469687912:=Prop
def tw10860723500958611641:=Prop
def tw16476062700919167647:=Prop
def tw3640661098837640919:=Prop
def tw1666182801101391580:=Prop
def tw9775704776709067505:=Prop
def tw8509535001156735027:=Prop
def tw7174524951678729072:=Prop
def tw5796861277336639314:=Prop
def tw9283774417980699620:=Prop
def tw9262834164463985839:=Prop
def tw13652747121565695148:=Prop
def tw1948050007056946248:=Prop
def tw6139723287074496430:=Prop
def tw14484213835562415920:=Prop
def tw767581808584894442:=Prop
def tw1472472575980817444:=Prop
def tw10223656945781489932:=Prop
def tw5258645648533188939:=Prop
def tw670931000486116025:=Prop
def tw1507922462359004400:=Prop
def tw420606989107201550:=Prop
def tw15389659113495531165:=Prop
def tw2737868375820590645:=Prop
def tw2892579378674227102:=Prop
def tw14595673959763348411:=Prop
def tw5470672911278389008:=Prop
def tw13870100053043367200:=Prop
def tw2243521898107598896:=Prop
def tw9468322366020181285:=Prop
def tw6167802035347767177:=Prop
def tw2848659754326774707:=Prop
def tw5105837957492514738:=Prop
def tw11398786542616601314:=Prop
def tw15872667225546086578:=Prop
def tw17619760261481123674:=Prop
def tw9455562096899934941:=Prop
def tw1222261856851717673:=Prop
def tw18072417278787001011:=Prop
def tw7393886655908497990:=Prop
def tw9981819633614891464:=Prop
def tw7581093819756152537:=Prop
def tw14979139979952336076:=Prop
def tw15757104913333849555:=Prop
def tw16437974653180255378:=Prop
def tw14902144188548681581:=Prop
def tw10820244352426245857:=Prop
def tw12231127729818541401:=Prop
def tw8623113724519033210:=Prop
def tw18384412401250922527:=Prop
def tw7105820872411512961:=Prop
def tw17484876212921863686:=Prop
def tw5465194365182674816:=Prop
def tw6231759663952874119:=Prop
def tw12005102414523295475:=Prop
def tw11135930282224840007:=Prop
def tw9125396514484513506:=Prop
def tw2764738309250918087:=Prop
def tw18446449695697158463:=Prop
def tw2463797714576328272:=Prop
def tw13669318940060898413:=Prop
def tw16469030704231822544:=Prop
def tw11438908318732107452:=Prop
def tw15639622659050598937:=Prop
def tw13254266317610384711:=Prop
def tw13625607741974957802:=Prop
def tw2960076518696618184:=Prop
def tw12091774885525916618:=Prop
def tw7300343313555774985:=Prop
def tw14108860547618481409:=Prop
def tw4584126950335368405:=Prop
def tw3538193133033438317:=Prop
def tw3872242456726245816:=Prop
def tw15248923262994475438:=Prop
def tw16127865942739634417:=Prop
def tw14129196211707357408:=Prop
def tw2253356107897374090:=Prop
def tw10514189132167399999:=Prop
def tw17255833288079523370:=Prop
def tw13221088906380677986:=Prop
def tw6871412816404922775:=Prop
def tw7687397009650563914:=Prop
def tw2660416834902415298:=Prop
def tw4992067598428951193:=Prop
def tw12201938564271768244:=Prop
def tw9371746138762427523:=Prop
def tw3851181698569608456:=Prop
def tw6656982218000569619:=Prop
def tw3033843271480136481:=Prop
def tw16695888729188395757:=Prop
def tw11978747093001781078:=Prop
def tw10215174868674476395:=Prop
def tw7378750711599423886:=Prop
def tw1263497802279753035:=Prop
def tw9364598590904505438:=Prop
def tw16654285377949728457:=Prop
def tw8319984310606955175:=Prop
def tw10792497850829421972:=Prop
def tw5821258516164637574:=Prop
def tw10562565823601885980:=Prop
def tw12750364460450871449:=Prop
def tw5611597986271117336:=Prop
def tw13239018593136495876:=Prop
def tw3113387955570838026:=Prop
def tw10651196865910965331:=Prop
def tw9918691114330882876:=Prop
def tw2496748126682941723:=Prop
def tw6268693510594479785:=Prop
def tw13736722477175829672:=Prop
def tw8081415655296188802:=Prop
def tw2306970201398959927:=Prop
def tw12199190771452716432:=Prop
def tw15753660700401178765:=Prop
def tw12985603815879435192:=Prop
def tw10600750200520340139:=Prop
def tw8251809887858729031:=Prop
def tw7751857077956920944:=Prop
def tw4813270952393135536:=Prop
def tw3614812174079704379:=Prop
def tw2870321955956950230:=Prop
def tw17240930992914449287:=Prop
def tw16379988506760310310:=Prop
def tw14946240289749324094:=Prop
def tw14464624450243028476:=Prop
def tw2922395699430243105:=Prop
def tw16731458478207156695:=Prop
def tw1029524129375670022:=Prop
def tw12955097052765496809:=Prop
def tw10500784813997258587:=Prop
def tw16749481027132158791:=Prop
def tw11075262355523952546:=Prop
def tw5813050474074980869:=Prop
def tw9290768772538468272:=Prop
def tw10028784302853840349:=Prop
def tw14626480402513246837:=Prop
def tw10748096906250354522:=Prop
def tw15382781241907399985:=Prop
def tw13883740843424846417:=Prop
def tw15632051162860755425:=Prop
def tw17072342491809031569:=Prop
def tw17238962983692853020:=Prop
def tw12490180974201626519:=Prop
def tw2294964828722522807:=Prop
def tw18361034438143257633:=Prop
def tw9207772502666429385:=Prop
def tw3638207938268295043:=Prop
def tw13383921512741209440:=Prop
def tw14660723064483149162:=Prop
def tw15276952341661984267:=Prop
def tw5167040791829494061:=Prop
def tw10411283791765679868:=Prop
def tw3420939357055914949:=Prop
def tw13705070543359549739:=Prop
def tw15351859858787411301:=Prop
def tw11389448496947891676:=Prop
def tw14154276331873083883:=Prop
def tw10036726445312162727:=Prop
def tw4707818638959822246:=Prop
def tw11440394385998398353:=Prop
def tw1660088304457102:=Prop
def tw13457321129585179390:=Prop
def tw17663744596029441656:=Prop
def tw6824915028095131840:=Prop
def tw4809118212418374501:=Prop
def tw14742383929280424117:=Prop
def tw1372750152140203409:=Prop
def tw14932213564333303133:=Prop
def tw13664042369091354455:=Prop
def tw2580904275397470227:=Prop
def tw613985785366006098:=Prop
def tw570159794151462068:=Prop
def tw14602651271451365967:=Prop
def tw8874468234902986409:=Prop
def tw15664177108483929347:=Prop
def tw11260287620362996230:=Prop
def tw10449983421766566284:=Prop
def tw2888152630508950958:=Prop
def tw11457811460887550573:=Prop
def tw12347923512260749732:=Prop
def tw7182548219037356630:=Prop
def tw12192538687757862351:=Prop
def tw6567194136621398273:=Prop
def tw5251350130937190519:=Prop
def tw15845057473684697977:=Prop
def tw10690842929138228352:=Prop
def tw16573148350159877807:=Prop
def tw12634267833538619276:=Prop
def tw4046217412792006722:=Prop
def tw5281585918476553206:=Prop
def tw4093755068961614601:=Prop
def tw15451361737594851717:=Prop
def tw11867730577427540750:=Prop
def tw9731157665611550081:=Prop
def tw17646032422472696180:=Prop
def tw11819536120864258518:=Prop
def tw10950890953858145086:=Prop
def tw10945596764993242887:=Prop
def tw9473108200113655840:=Prop
def tw7325868980103397847:=Prop
def tw12293958931167491368:=Prop
def tw7726607591745167742:=Prop
def tw4904741199208424927:=Prop
def tw13181159792791608776:=Prop
def tw3545572844308899986:=Prop
def tw9920585517017740552:=Prop
def tw3945764282735917411:=Prop
def tw9295519368596098214:=Prop
def tw2470487482243150977:=Prop
def tw2727490776270297961:=Prop
def tw17943997461126034318:=Prop
def tw1826528886554493820:=Prop
def tw13839161243889518813:=Prop
def tw7896196801334873123:=Prop
def tw6604914046173645510:=Prop
def tw46519768924377711:=Prop
def tw15494401546121822275:=Prop
def tw7460781053167615946:=Prop
def tw1554971525180652435:=Prop
def tw4333772574653108115:=Prop
def tw17402328590492387708:=Prop
def tw12759492100051136439:=Prop
def tw7685164059580261632:=Prop
def tw2477574304867467928:=Prop
def tw17049901989496664528:=Prop
def tw3032436938885379757:=Prop
def tw16501234617177220922:=Prop
def tw6722434262737601410:=Prop
def tw12899307308473378004:=Prop
def tw14057532215852496540:=Prop
def tw2929913060097621269:=Prop
def tw1272413869014014760:=Prop
def tw6427481154404411791:=Prop
def tw12553368086937630072:=Prop
def tw8002756002974756737:=Prop
def tw12206692446119922175:=Prop
def tw1217117546302994031:=Prop
def tw5475860149202392762:=Prop
def tw3042297809387266176:=Prop
def tw13719039872676346300:=Prop
def tw12253344925809409799:=Prop
def tw17220916452545356862:=Prop
def tw12649028316376161737:=Prop
def tw723789038316926516:=Prop
def tw10964888329141681543:=Prop
def tw8136151467000841127:=Prop
def tw9311591325427921141:=Prop
def tw3145490958319270166:=Prop
def tw8657513916796162823:=Prop
def tw7184314371949839590:=Prop
def tw536952555952983564:=Prop
def tw15201051805359972142:=Prop
def tw9712010316185589166:=Prop
def tw9450505760096067716:=Prop
def tw8787057572842141377:=Prop
def tw7845234767862848538:=Prop
def tw4358399359375580655:=Prop
def tw18152363098182981705:=Prop
def tw16345894102402450271:=Prop
def tw16106730550529717920:=Prop
def tw12558726384783762226:=Prop
def tw3701451154973335359:=Prop
def tw5661615241568553598:=Prop
def tw4847622894292602939:=Prop
def tw1716808064914665097:=Prop
def tw729459275605120991:=Prop
def tw11294135553421791319:=Prop
def tw7427815433550898821:=Prop
def tw5019068456090578348:=Prop
def tw3138046254940641019:=Prop
def tw1842949754548646051:=Prop
def tw9307842248327101655:=Prop
def tw17814679410338396641:=Prop
def tw7095436823540322809:=Prop
def tw12848473353057638124:=Prop
def tw3548757153589877046:=Prop
def tw1122127273931117886:=Prop
def tw7639900226219201673:=Prop
def tw5582226710418670970:=Prop
def tw9492880617351798840:=Prop
def tw9340786231383935880:=Prop
def tw8431978948988057746:=Prop
def tw6254132162408732146:=Prop
def tw5882115090479130382:=Prop
def tw4715683233885376664:=Prop
def tw2334450871365128543:=Prop
def tw16526304072221905156:=Prop
def tw15129645405264163152:=Prop
def tw14602628120918280113:=Prop
def tw12691502856289713050:=Prop
def tw11814561550149039483:=Prop
def tw9893516658146355334:=Prop
def tw8747442337410489708:=Prop
def tw7044140229235920445:=Prop
def tw5690578044212712813:=Prop
def tw5407861609751558188:=Prop
def tw3407673275939329848:=Prop
def tw17558659305764095223:=Prop
def tw1637702820994173081:=Prop
def tw15980242920200451326:=Prop
def tw12705178778754195807:=Prop
def tw12154865566996991541:=Prop
def tw10842030546054382689:=Prop
def tw15675574641724314532:=Prop
end PySem.W.Fast
set_option maxRecDepth 100000 in
set_option maxHeartbeats 0 in
theorem PySem.Challenge.cw_beaconvale_k79_whole_roads_and_keepers_holds : PySem.Challenge.rw_beaconvale_k79_whole_roads_and_keepers.Holds := by
  w_on; o_law; k_head; (case hw => w_witness2)
  k_fill
  refine Dp.Ý (l := PySem.Challenge.rw_beaconvale_k79_whole_roads_and_keepers) 13 rfl rfl rfl ⟨rfl, by decide, by decide⟩ (fun w h Y => PySem.W.kIn_of Y) Law.R Law.mY fun w => ?_
  constructor <;> walk_at "al"
#print axioms PySem.Challenge.cw_beaconvale_k79_whole_roads_and_keepers_holds
