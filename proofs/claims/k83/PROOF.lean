import PyProof.Rows.All
import Wide.All
import OpenK.AllK
import Wide.FinOn
import Lean
import PyProof.EqAt
import PyProof.EqKinds
import PyProof.TupleCall
import PyProof.NeData
import PyProof.P3Eq
import PyProof.StrLawsIn
import PyProof.StrLawsJoin
import PyProof.StrBlockL
import PyProof.Rows.StrSplitCount
import KE.KMinKey
import KE.KLam
import KE.KDictList
import PyProof.DictItems
import PyProof.FactsAll.dict_items
import PyProof.FactsAll.dict_itemiterator
import KE.KPairComp
import PySem.Challenge.RW_beaconvale_k83_whole_one_beacon_fewer
set_option Elab.async false
set_option linter.all false
set_option maxRecDepth 100000
set_option maxHeartbeats 4000000
set_option Elab.async false
set_option linter.all false
set_option maxRecDepth 100000
def bH (h:True:=by rfl):True:=h
def zy:Lean.Syntax:=bH._auto_1
def zyc (h:True:=by decide):True:=h
def zR:Lean.Syntax:=zyc._auto_1
def mj (h:True:=by with_unfolding_all rfl):True:=h
def Vk:Lean.Syntax:=mj._auto_1
def jZ (h:True:=by first|exact .inl rfl|exact .inr rfl|assumption):True:=h
def QH:Lean.Syntax:=jZ._auto_1
def zzj (h:True:=by exact VB rfl):True:=h
def Q8:Lean.Syntax:=zzj._auto_1
def eN (h:True:=by intro _;rfl):True:=h
def Qv:Lean.Syntax:=eN._auto_1
def χ (h:True:=by exact J9 rfl):True:=h
def Qp:Lean.Syntax:=χ._auto_1
def iQ (h:True:=by exact TF rfl):True:=h
def Nh:Lean.Syntax:=iQ._auto_1
def ĥ (h:True:=by decide +kernel):True:=h
def Jz:Lean.Syntax:=ĥ._auto_1
def zy5 (h:True:=by first|exact nobehind _ (by decide) (by decide)|rfl):True:=h
def yP:Lean.Syntax:=zy5._auto_1
def ϊ (h:True:=by intro _ _;rfl):True:=h
def uM:Lean.Syntax:=ϊ._auto_1
def cP (h:True:=by first|exact Or.inl rfl|exact Or.inr rfl):True:=h
def rF:Lean.Syntax:=cP._auto_1
def dI (h:True:=by first|exact PassesOwn.never|exact PassesOwn.leaving):True:=h
def nJ:Lean.Syntax:=dI._auto_1
def zwl (h:True:=by exact KD rfl rfl):True:=h
def wA:Lean.Syntax:=zwl._auto_1
def qa:=@List.length_map
def qb:=@List.getElem?_eq_getElem
def qc:=@List.mem_of_getElem?
def qd:=@PySem.Heap.get?_push_of_some
def qe:=@List.getElem?_append_right
def qf:=@List.length_append
def qg:=@List.getElem?_append_left
def qh:=@Nat.le_refl
def qi:=@List.getElem?_map
def qj:=@List.mem_cons_of_mem
def qk:=@List.append_assoc
def ql:=@List.mem_cons
def qo:=@List.size_toArray
def qq:=@PySem.Heap.get?_push_size
def qr:=@Bool.false_ne_true
def qu:=@List.lookup_cons
def qv:=@List.mem_map
def qw:=@Bool.and_eq_true
def qA:=@List.map_append
def qB:=@List.getElem?_eq_none
def qC:=@PySem.Heap.lt_size
def qD:=@List.mem_append
def qE:=@Nat.lt_of_lt_of_le
def qF:=@Option.some.inj
def qG:=@List.getD_eq_getElem?_getD
def qH:=@Nat.le_of_ble_eq_true
def qI:=@List.mem_cons_self
def qJ:=@List.not_mem_nil
def qK:=@List.mem_singleton
def qL:=@List.mem_append_right
def qM:=@List.length_replicate
def qN:=@List.mem_iff_getElem
def qO:=@List.mem_filter
def qP:=@List.map_cons
def qQ:=@List.length_singleton
def qR:=@List.length_cons
def qS:=@List.getElem?_set_ne
def qT:=@Nat.lt_or_ge
def qU:=@List.getElem?_set_self
def qV:=@Nat.ne_of_lt
def qW:=@Nat.le_trans
def qX:=@List.mem_append_left
def qY:=@Nat.zero_le
def qZ:=@List.getElem?_cons_succ
def Uo:=@List.getElem?_eq_some_iff
def Ut:=@List.pairwise_iff_getElem
def U6:=@Option.map_eq_some_iff
def Xn:=@List.append_nil
def Yp:=@Nat.sub_self
def Vv:=@List.mem_iff_getElem?
def Xz:=@Nat.lt_irrefl
def Va:=@Array.length_toList
def W8:=@List.length_set
def WM:=@List.all_eq_true
def VR:=@List.nodup_append
def XF:=@List.map_map
def Wa:=@List.take_length
def W0:=@PySem.Heap.size_push
def Uv:=@Bool.false_eq_true
def UW:=@List.mem_filterMap
def VH:=@List.nodup_cons
def Vb:=@List.length_take
def Uy:=@Nat.lt_of_succ_lt
def V5:=@Bool.false_and
def Rg:=@List.length_filter_le
def RX:=@Int.emod_lt_of_pos
def V1:=@List.all_cons
def Wu:=@Nat.ne_of_gt
def Wg:=@Int.mul_comm
def Tn:=@List.length_range
def T8:=@Int.emod_nonneg
def Le:=@List.length_eraseIdx_of_lt
def Pq:=@List.set_append_right
def Rr:=@List.filter_append
def Qw:=@List.mem_of_mem_take
def NP:=@Option.isSome_iff_exists
def S8:=@Bool.eq_iff_iff
def Pu:=@List.filterMap_cons
def K7:=@List.getElem?_replicate
def Nq:=@List.filter_cons_of_pos
def Ng:=@List.filter_cons_of_neg
def VD:=@Prod.mk.inj
def Rv:=@Nat.le_of_not_lt
def SX:=@Bool.and_false
def K1:=@List.length_pos_of_mem
def U7:=@Int.neg_neg
def Rz:=@List.filter_map
def Pa:=@Option.isSome_map
def Ot:=@Int.toNat_natCast
def Oz:=@List.filter_congr
def Rf:=@List.mem_range
def P0:=@List.getElem_inj
def O9:=@List.prefix_refl
def Ud:=@Int.mul_one
def Jb:=@List.getElem?_take_of_lt
def J1:=@List.length_erase_of_mem
def Ri:=@Bool.not_true
def N5:=@List.lookup_append
def Qo:=@List.length_nil
def Kd:=@Nat.add_sub_cancel_left
def Mp:=@List.prefix_append
def PL:=@Bool.or_eq_true
def JQ:=@List.take_of_length_le
def SM:=@Int.le_refl
def Bx:=@List.eraseIdx_eq_take_drop_succ
def RG:=@Int.le_of_lt
def Ry:=@Int.mul_zero
def QS:=@List.all_map
def La:=@Nat.lt_succ_self
def K5:=@List.length_drop
def Ly:=@Nat.le_add_right
def Jx:=@Int.natAbs_of_nonneg
def JG:=@List.mem_erase_of_ne
def Py:=@Nat.add_assoc
def Qy:=@Int.lt_irrefl
def Np:=@List.of_mem_zip
def Qe:=@List.map_nil
def Jj:=@List.set_cons_succ
def Mv:=@Int.natAbs_neg
def Oe:=@List.forIn_nil
def Eu:=@List.mem_or_eq_of_mem_set
def Mu:=@Nat.mul_le_mul
def Uc:=@Prod.ext
def Lb:=@List.any_cons
def Qc:=@Int.sub_mul
def O4:=@Int.mul_pos
def CQ:=@List.length_eq_zero_iff
def qbv:=@List.cons_append
def JR:=@List.getElem_map
def Lh:=@Nat.le_of_lt
def Gi:=@Array.getElem?_toList
def J8:=@List.forIn_cons
def Hh:=@List.getElem?_toArray
def JT:=@Nat.min_eq_left
namespace L2
open PySem PySem.Spec PyProof.Rows
abbrev Key:=Sum Int Str
def QC:Key->Value->Bool
 |.inl k,v=>Value.isInt k v
 |.inr x,v=>Value.isStrOf x v
def jU (w:World):Key->Int
 |.inl k=>hashInt k
 |.inr x=>hashStr w x
theorem Uh:∀ {k:Key} {v:Value},QC k v=true->(∃ i t,k=Sum.inl i/\v=Value.int i t)\/(∃ x t,k=Sum.inr x/\v=Value.str x t)
 |.inl i,v,h=>by obtain⟨t,e⟩:=Value.isInt_shape (k:=i) (v:=v) h;exact .inl ⟨i,t,rfl,e⟩
 |.inr x,v,h=>by obtain⟨t,e⟩:=Value.isStrOf_shape (x:=x) (v:=v) h;exact .inr ⟨x,t,rfl,e⟩
def Ŗ (i:Int)(t:Tok):QC (.inl i) (.int i t)=true:=by simp[QC,Value.isInt]
def ń (x:Str)(t:Tok):QC (.inr x) (.str x t)=true:=by simp[QC,Value.isStrOf]
def İ (a b:Int):decide ((Sum.inl a:Key)=Sum.inl b)=(a==b):=by
 by_cases e:a=b
 ·subst e;simp
 ·have h:¬ (Sum.inl a:Key)=Sum.inl b:=fun q=>e (Sum.inl.inj q)
  rw[decide_eq_false h];exact(beq_eq_false_iff_ne.mpr e).symm
def Ć (a b:Str):decide ((Sum.inr a:Key)=Sum.inr b)=decide (a=b):=by
 by_cases e:a=b
 ·subst e;simp
 ·have h:¬ (Sum.inr a:Key)=Sum.inr b:=fun q=>e (Sum.inr.inj q)
  rw[decide_eq_false h,decide_eq_false e]
def jF (a:Int)(b:Str):decide ((Sum.inl a:Key)=Sum.inr b)=false:=decide_eq_false (fun q=>nomatch q)
def ztv (a:Str)(b:Int):decide ((Sum.inr a:Key)=Sum.inl b)=false:=decide_eq_false (fun q=>nomatch q)
def zM (prog:Program)(w:World):PySem.KeyKind prog w Key where
  is:=QC
  hash:=jU w
  inj:=fun v a b ha hb=>by
    rcases Uh ha with⟨i,t,rfl,rfl⟩|⟨x,t,rfl,rfl⟩
    . rcases Uh hb with⟨j,u,rfl,e⟩|⟨y,u,rfl,e⟩
      . injection e with e1 _;rw[e1]
      . exact nomatch e
    . rcases Uh hb with⟨j,u,rfl,e⟩|⟨y,u,rfl,e⟩
      . exact nomatch e
      . injection e with e1 _;rw[e1]
  byValue:=fun k v h=>by rcases Uh h with⟨i,t,rfl,rfl⟩|⟨x,t,rfl,rfl⟩<;>rfl
  pyHash:=fun hv h=>by
    rcases Uh hv with⟨i,t,rfl,rfl⟩|⟨x,t,rfl,rfl⟩
    . exact wpAny_pyHash_int h
    . exact wpAny_pyHash_str h
  eqBool:=fun hu hv h=>by
    rcases Uh hu with⟨i,t,rfl,rfl⟩|⟨x,t,rfl,rfl⟩
    . rcases Uh hv with⟨j,u,rfl,rfl⟩|⟨y,u,rfl,rfl⟩
      . rw[İ]at h;exact wpAny_eqBool_int h
      . rw[jF]at h;exact SeqAt.EqAt.int_str i t y u _ _ _ _ h
    . rcases Uh hv with⟨j,u,rfl,rfl⟩|⟨y,u,rfl,rfl⟩
      . rw[ztv]at h;exact SeqAt.EqAt.str_int x t j u _ _ _ _ h
      . rw[Ć]at h;exact wpAny_eqBool_str h
  «strs»:=fun k x t v h=>by
    rcases Uh h with⟨i,u,rfl,e⟩|⟨y,u,rfl,e⟩
    . exact nomatch e
    . injection e with e1 _;subst e1;cases v<;>rfl
def é (prog:Program)(w:World)(i:Int)(t:Tok):(zM prog w).is (.inl i) (.int i t)=true:=Ŗ i t
def Ħ (prog:Program)(w:World)(x:Str)(t:Tok):(zM prog w).is (.inr x) (.str x t)=true:=ń x t
end L2
namespace My
open PySem PySem.Spec PyProof.Rows L2
section
variable {prog:Program}{w:World}{K:Type}[DecidableEq K](hk:HeapKind prog w K)
inductive Xj (h:Heap):List K->List Value->Prop
 |nil:Xj h [] []
 |cons {k:K} {b:Addr} {ks:List K} {vs:List Value}:hk.is h k b->Xj h ks vs->Xj h (k::ks) (.ref b::vs)
def Xo (h:Heap)(ks:List K)(a:Addr):Prop:=∃ o items n,h.get? a=some o/\o.cls=.type "tuple"/\o.data=.seq items n/\Xj hk h ks items.toList
variable {hk}
theorem Xj.inj (hx:Xj hk h x vs)(hy:Xj hk h y vs):x=y:=by
 induction hx generalizing y with
 |nil=>cases hy;rfl
 |cons h1 _ ih =>
  cases hy with
  |cons h2 t2=>rw[hk.inj h1 h2,ih t2]
theorem Xj.keeps {d:Addr}{o:Obj}{es ep}(x:Xj hk h ks vs)(ho:h.get? d=some o)(hd:o.data=.dict es ep)(hs:Heap.SameBut d h h'):Xj hk h' ks vs:=by
 induction x with
 |nil=>exact .nil
 |cons h1 _ ih=>exact .cons (hk.keeps h1 ho hd hs) ih
def Xo.typeIs {s:Shared}(x:Xo hk s.heap ks a):s.TypeIs (.ref a) "tuple":=by obtain⟨o,_,_,ho,hc,_⟩:=x;exact⟨o,ho,hc⟩
theorem Xo.inj (hx:Xo hk h x a)(hy:Xo hk h y a):x=y:=by obtain⟨o,items,n,ho,_,hd,hi⟩:=hx;obtain⟨o',items',n',ho',_,hd',hi'⟩:=hy;obtain rfl:o=o':=qF (ho.symm.trans ho');rw[hd]at hd';injection hd' with h1 _;subst h1;exact hi.inj hi'
theorem Xo.keeps {d:Addr}{o:Obj}{es ep}(x:Xo hk h ks a)(ho:h.get? d=some o)(hd:o.data=.dict es ep)(hs:Heap.SameBut d h h'):Xo hk h' ks a:=by
 obtain⟨o',items,n,ho',hc,hd',hi⟩:=x
 have hne:a≠d:=by rintro rfl;obtain rfl:o'=o:=qF (ho'.symm.trans ho);rw[hd]at hd';exact nomatch hd'
 exact⟨o',items,n,(hs.2 a hne).trans ho',hc,hd',hi.keeps ho hd hs⟩
def Fj (hk:HeapKind prog w K)(ks:List K):Int:=reduceHash (Builtin.Tuple.tupleHashOf (ks.map hk.hash))
def Dg (hk:HeapKind prog w K)(ks:List K):Nat:=(ks.map hk.draws).sum+1
variable {A:Around}{E:Value->Shared->Prop}{s:Shared}
def Į {Q:Int->Shared->Prop}(hu:A.units<cLine)(hr:hk.room A.in1)(hi:Xo hk s.heap ks a)(h:Q (Fj hk ks) { s with toks:=s.toks+Dg hk ks }) :
  wpAny (model prog w) A (pyHash (.ref a)) Q E s:=by
 have hT:=hi.typeIs;obtain⟨o,items,n,ho,_,hd,hi⟩:=hi;unfold pyHash
 first|unfold pyHashByItsType|skip
 first|refine wpAny_bind (wpAny_cRoomFor_or (.inr hu) ?_)|skip
 refine wpAny_bind (wpAny_specialOf hT F.slot_tuple_hash.lookup ?_);show wpAny _ _ (if(some (Value.builtin "tuple.__hash__")==some Value.none)=true then _ else _) Q E s;rw[if_neg (by rw[beq_builtin_none];exact qr)];refine wpAny_bind (wpAny_specialOf hT F.slot_tuple_hash.lookup ?_);show wpAny _ _ (callSpecialIfBoundUnlessNone? (.ref a) "__hash__" _ >>= _) Q E s;refine wpAny_bind (wpAny_callSpecialIfBoundUnlessNone?_slot hT F.slot_tuple_hash (wpAny_call_entry F.slot_tuple_hash hT F.entry_tuple_hash ?_ (F.args_tuple_hash_1 _)));show wpAny _ _ (Builtin.Tuple.tupleItemsOf (.ref a) >>= _) _ _ s;refine wpAny_bind (wpAny_tupleItemsOf ho hd ?_);refine wpAny_bind ?_;rw[<- Array.forIn_toList]
 refine wpAny_forIn_list _
  (fun rest (b:Array Int) s'=>∃ done left,ks=done++left/\Xj hk s.heap left rest/\b.toList=done.map hk.hash/\s'={ s with toks:=s.toks+(done.map hk.draws).sum })
  _ ?_ ?_ _ _ ⟨[],ks,rfl,hi,rfl,rfl⟩
 ·rintro x rest b s' ⟨done,left,rfl,hl,hb,rfl⟩;cases hl with
  |@cons k c ks' _ h1 hl' =>
   refine wpAny_bind (hk.pyHash hr (s:={ s with toks:=s.toks+(done.map hk.draws).sum }) h1 ?_)
   first
    |exact wpAny_pure ⟨done++[k],ks',by simp,hl',by simp[hb],by simp[Py]⟩
    |exact wpAny_bind (wpAny_pure (wpAny_pure ⟨done++[k],ks',by simp,hl',by simp[hb],by simp[Py]⟩))
 ·rintro b s' ⟨done,left,rfl,hl,hb,rfl⟩;cases hl;rw[Xn]at h;show wpAny _ _ (retInt (Builtin.Tuple.tupleHashOf b.toList)) _ _ _;rw[hb];refine wpAny_ret_mkInt ?_;show wpAny _ _ (if(decide (-(2:Int) ^ 63<=Builtin.Tuple.tupleHashOf (done.map hk.hash))&&decide (Builtin.Tuple.tupleHashOf (done.map hk.hash)<2 ^ 63))=true then _ else _) Q E _;unfold Fj reduceHash Dg at h;by_cases hr:(decide (-(2:Int) ^ 63<=Builtin.Tuple.tupleHashOf (done.map hk.hash))&&decide (Builtin.Tuple.tupleHashOf (done.map hk.hash)<2 ^ 63))=true
  ·rw[if_pos hr];rw[if_pos hr]at h;exact wpAny_pure (by simpa [Py]using h)
  ·rw[if_neg hr];rw[if_neg hr]at h;exact wpAny_bind (wpAny_rule (wpAny_pure (by simpa [Py]using h)))
def znK {P:Fin->Shared->Prop}(hr:hk.room A)(hx:Xo hk s.heap x a)(hy:Xo hk s.heap y b)(h:P (.done (.ret (.bool (decide (x=y))))) s) :
  wpAny (model prog w) A (Builtin.«tuple.__eq__» ⟨[.ref a,.ref b],[]⟩) P E s:=by
 have hTb:=hy.typeIs;obtain⟨oa,xs,na,hoa,_,hda,hia⟩:=hx;obtain⟨ob,ys,nb,hob,_,hdb,hib⟩:=hy;show wpAny _ _ (isInstance (.ref b) (.type "tuple") >>= _) _ _ s;refine wpAny_bind (wpAny_isInstance hTb isSubtype_tuple_tuple ?_);simp only[Ri,Uv,if_false];refine wpAny_bind (wpAny_tupleItemsOf hoa hda ?_);refine wpAny_bind (wpAny_tupleItemsOf hob hdb ?_);refine wpAny_bind ?_
 refine wpAny_forIn_list _
  (fun rest r s'=>r.1=none/\s'=s/\∃ x' y' xs' ys',rest=List.zip xs' ys'/\Xj hk s.heap x' xs'/\Xj hk s.heap y' ys'/\decide (x'=y')=decide (x=y)/\(xs'.length==ys'.length)=(xs.size==ys.size))
  _ ?_ ?_ _ _ ⟨rfl,rfl,x,y,xs.toList,ys.toList,rfl,hia,hib,rfl,by simp⟩
 ·rintro⟨u,v⟩ rest r s' ⟨hr',rfl,x',y',xs',ys',hz,hx',hy',hdec,hlen⟩;cases hx' with
  |nil=>simp at hz
  |@cons k1 u' x'' xs'' h1 hx'' =>
   cases hy' with
   |nil=>simp at hz
   |@cons k2 v' y'' ys'' h2 hy'' =>
    simp only[List.zip_cons_cons,List.cons.injEq,Prod.mk.injEq]at hz;obtain⟨⟨rfl,rfl⟩,rfl⟩:=hz;refine wpAny_bind (hk.eqBool hr (x:=k1) (y:=k2) h1 h2 ?_);by_cases hk:k1=k2
    ·subst hk;rw[decide_eq_true rfl];simp only[Ri,Uv,if_false];refine wpAny_pure ⟨rfl,rfl,x'',y'',xs'',ys'',rfl,hx'',hy'',?_,by simpa using hlen⟩;rw[<- hdec];by_cases hxy:x''=y''
     ·simp[hxy]
     ·simp[hxy]
    ·rw[decide_eq_false hk];simp only[Bool.not_false,if_true];have hf:decide (x=y)=false:=by rw[<- hdec];simp[hk]
     rw[hf]at h;exact wpAny_bind (wpAny_pure (wpAny_pure (wpAny_pure h)))
 ·rintro⟨r1,r2⟩ s' ⟨hr',rfl,x',y',xs',ys',hz,hx',hy',hdec,hlen⟩;simp only at hr';subst hr';refine wpAny_pure ?_
  have hfin:(xs.size==ys.size)=decide (x=y):=by
   rw[<- hdec,<- hlen];cases hx' with
   |nil =>
    cases hy' with
    |nil=>simp
    |cons _ _=>simp
   |cons _ _ =>
    cases hy' with
    |nil=>simp
    |cons _ _=>simp at hz
  show P (.done (.ret (.bool (xs.size==ys.size)))) s';rw[hfin];exact h
def jr {Q:Bool->Shared->Prop}(hu:A.units<cLine)(hr:hk.room A.in1)(hx:Xo hk s.heap x a)(hy:Xo hk s.heap y b)(h:Q (decide (x=y)) s) :
  wpAny (model prog w) A (eqBool (.ref a) (.ref b)) Q E s:=by
 unfold eqBool
 try with_reducible refine wpAny_holding ?_
 show wpAny _ _ (if(Value.ref a==Value.ref b)=true then _ else _) Q E s;by_cases hab:(Value.ref a==Value.ref b)=true
 ·rw[if_pos hab];have e:a=b:=by have:=eq_of_beq hab;injection this
  subst e;obtain rfl:=hx.inj hy;exact wpAny_bind (wpAny_rule (wpAny_pure (by simpa using h)))
 ·rw[if_neg hab]
  exact wpAny_bind (wpAny_richCompare_same_room (op:=.Eq) hx.typeIs hy.typeIs F.slot_tuple_eq
   (wpAny_call_entry F.slot_tuple_eq hx.typeIs F.entry_tuple_eq (znK hr hx hy ⟨_,rfl,(fun e=>nomatch e),wpAny_truthy_bool h⟩) (F.args_tuple_eq_2 _ _)) hu)
def dw {Q:Bool->Shared->Prop}(hq:∀ {k:K} {b:Addr},hk.is s.heap k b->∀ (Q:Bool->Shared->Prop),Q true s->wpAny (model prog w) A (eqIsQuiet 7 (.ref b)) Q E s)(hi:Xo hk s.heap ks a)(h:Q true s):wpAny (model prog w) A (eqIsQuiet 8 (.ref a)) Q E s:=by
 have hT:=hi.typeIs;obtain⟨o,items,n,ho,_,hd,hi⟩:=hi;unfold eqIsQuiet;refine wpAny_bind (wpAny_specialOf hT F.slot_tuple_eq.lookup ?_);show wpAny _ _ (isInstance (.ref a) (.type "tuple") >>= _) _ _ s;refine wpAny_bind (wpAny_isInstance hT isSubtype_tuple_tuple ?_);simp only[Ri,Uv,if_false];refine wpAny_bind (wpAny_seqItems ho hd ?_);refine wpAny_bind ?_;show wpAny _ _ (forIn items _ _) _ _ s;rw[<- Array.forIn_toList];refine wpAny_forIn_list _ (fun rest r s'=>r.1=none/\s'=s/\∃ left,Xj hk s.heap left rest) _ ?_ ?_ _ _ ⟨rfl,rfl,ks,hi⟩
 ·rintro v rest r s' ⟨hr,rfl,left,hall⟩;cases hall with
  |@cons k c ks' _ h1 hl' =>refine wpAny_bind (hq h1 _ ?_);simp only[Ri,Uv,if_false];exact wpAny_pure ⟨rfl,rfl,ks',hl'⟩
 ·rintro⟨r1,r2⟩ s' ⟨hr,rfl,_⟩;simp only at hr;subst hr;exact wpAny_pure h
end
section
variable {prog:Program}{w:World}{K:Type}[DecidableEq K]{knd:KeyKind prog w K}{A:Around}{E:Value->Shared->Prop}{s:Shared}
def Î (m:Nat){Q:Bool->Shared->Prop}(hk:IsTupleKey knd s.heap ks a)(h:Q true s):wpAny (model prog w) A (eqIsQuiet (m+1) (.ref a)) Q E s:=by
 have hT:=hk.typeIs;obtain⟨o,items,n,ho,_,hd,hi⟩:=hk;unfold eqIsQuiet;refine wpAny_bind (wpAny_specialOf hT F.slot_tuple_eq.lookup ?_);show wpAny _ _ (isInstance (.ref a) (.type "tuple") >>= _) _ _ s;refine wpAny_bind (wpAny_isInstance hT isSubtype_tuple_tuple ?_);simp only[Ri,Uv,if_false];refine wpAny_bind (wpAny_seqItems ho hd ?_);refine wpAny_bind ?_;show wpAny _ _ (forIn items _ _) _ _ s;rw[<- Array.forIn_toList];refine wpAny_forIn_list _ (fun rest r s'=>r.1=none/\s'=s/\∀ v∈rest,carriedByValue v=true) _ ?_ ?_ _ _ ⟨rfl,rfl,hi.byValue⟩
 ·rintro v rest r s' ⟨hr,rfl,hall⟩;rw[eqIsQuiet_byValue _ (hall v qI)];refine wpAny_bind (wpAny_pure ?_);simp only[Ri,Uv,if_false];exact wpAny_pure ⟨rfl,rfl,fun u hu'=>hall u (qj _ hu')⟩
 ·rintro⟨r1,r2⟩ s' ⟨hr,rfl,_⟩;simp only at hr;subst hr;exact wpAny_pure h
def Us (knd:KeyKind prog w K):HeapKind prog w (List (List K)) where
 is:=Xo (tupleKind knd)
 hash:=Fj (tupleKind knd)
 draws:=Dg (tupleKind knd)
 room:=fun A=>A.units+1<cLine
 inj:=fun hx hy=>hx.inj hy
 keeps:=fun x ho hd hs=>x.keeps ho hd hs
 pyHash:=fun hu hk h=>Į (Uy hu) hu hk h
 eqBool:=fun hu hx hy h=>jr (Uy hu) hu hx hy h
 quiet:=fun hk h=>dw (fun hb _ q=>Î 6 hb q) hk h
end
end My
namespace L2
open PySem PySem.Spec PyProof.Rows
inductive V where
 |non|bl (b:Bool)|int (i:Int)|str (x:Str)|byt (b:Array UInt8)|flt (b:UInt64)|ref (a:Addr)|ty (n:String)
 deriving DecidableEq
def RelV:V->Value->Prop
 |.non,u=>u=Value.none
 |.bl b,u=>u=Value.bool b
 |.int i,u=>∃ t,u=Value.int i t
 |.str x,u=>∃ t,u=Value.str x t
 |.byt b,u=>∃ t,u=Value.bytes b t
 |.flt b,u=>∃ t,u=Value.float b t
 |.ref a,u=>u=Value.ref a
 |.ty n,u=>u=Value.type n
abbrev Vals:List V->List Value->Prop:=Paired RelV
theorem Vals.length (r:Vals xs us):xs.length=us.length:=Paired.length r
theorem Vals.get:∀ {xs:List V} {us:List Value} {i:Nat} {x:V},Vals xs us->xs[i]?=some x->∃ u,us[i]?=some u/\RelV x u
 |_,_,_,_,.nil,e=>by simp at e
 |_,_,0,_,.cons r _,e=>by simp at e;subst e;exact⟨_,rfl,r⟩
 |_,_,i+1,x,.cons _ t,e=>by obtain⟨u,h1,h2⟩:=Vals.get (i:=i) (x:=x) t (by simpa using e);exact⟨u,by simpa using h1,h2⟩
theorem Vals.set (r:RelV x u):∀ {xs:List V} {us:List Value} (i:Nat),Vals xs us->Vals (xs.set i x) (us.set i u)
 |_,_,_,.nil=>.nil
 |_,_,0,.cons _ t=>.cons r t
 |_,_,i+1,.cons q t=>.cons q (Vals.set r i t)
theorem Vals.append:∀ {xs ys:List V} {us ws:List Value},Vals xs us->Vals ys ws->Vals (xs++ys) (us++ws)
 |_,_,_,_,.nil,s=>s
 |_,_,_,_,.cons r t,s=>.cons r (Vals.append t s)
theorem Vals.take:∀ {xs:List V} {us:List Value} (n:Nat),Vals xs us->Vals (xs.take n) (us.take n)
 |_,_,0,_=>.nil
 |_,_,_+1,.nil=>.nil
 |_,_,n+1,.cons r t=>.cons r (Vals.take n t)
theorem Vals.drop:∀ {xs:List V} {us:List Value} (n:Nat),Vals xs us->Vals (xs.drop n) (us.drop n)
 |_,_,0,r=>r
 |_,_,_+1,.nil=>.nil
 |_,_,n+1,.cons _ t=>Vals.drop n t
def X4:Option V->Option Value->Prop
 |some v,some u=>RelV v u
 |none,none=>True
 |_,_=>False
def KV {κ:Type}:List (κ×V)->List (κ×Value)->Prop:=Paired fun (p:κ×V) (q:κ×Value)=>p.1=q.1/\RelV p.2 q.2
def kV:Key->V
 |.inl i=>.int i
 |.inr x=>.str x
inductive HO where
 |lst (xs:List V)
 |tup (xs:List V)
 |dK (Z8:List (Key×V))|dT (Z8:List (List Key×V))
 |dN (Z8:List (List (List Key)×V)) (ep:Nat)
 |set (S:Int->Bool) (n:Nat)
 |ins (C dx:Addr) (fs:List (Str×V))
 |own (x:Addr)
 |xd (fs:List (Str×V))
 |met (f x:Addr)
 |rng (lo hi:Int)
 |frz (o:Obj) (u:HO)
 |tbl (ps:Array Value)
 |ext (φ:Heap->Prop)
abbrev Hp:=Addr->Option HO
def upd (H:Hp)(a:Addr)(o:HO):Hp:=fun b=>if b=a then some o else H b
def zL {H:Hp}{a:Addr}{o:HO}:upd H a o a=some o:=by unfold upd;rw[if_pos rfl]
def zu {H:Hp}{a b:Addr}{o:HO}(h:b≠a):upd H a o b=H b:=by unfold upd;rw[if_neg h]
def VF {H:Hp}{o u:HO}(h:H a=some o)(h':H b=some u)(d:o≠u):a≠b:=by intro e;subst e;rw[h]at h';exact d (qF h')
def Um {H:Hp}{o:HO}(h:H a=some o)(h':H b=none):a≠b:=by intro e;subst e;rw[h]at h';cases h'
def WX (H:Hp)(b:Addr)(k:List (List Key)):Prop:=∃ bs:List Addr,H b=some (.tup (bs.map V.ref))/\Paired (fun (ks:List Key) (c:Addr)=>H c=some (.tup (ks.map kV))) k bs
section
variable (P:Program)(w:World)
def zW (H:Hp)(h:Heap)(a:Addr):HO->Prop
 | .lst xs=>xs.length<=sizeLine/\∃ (its:List Value) (n:Nat),Vals xs its/\h.get? a=some { cls:=.type "list",data:=.seq its.toArray n }
 |.tup xs=>xs.length<=sizeLine/\∃ its:List Value,Vals xs its/\IsTup h a its.toArray
 |.dK Z8=>Z8.length<=sizeLine/\(a==sysModules)=false/\∃ vs,KV Z8 vs/\h.DictOf (zM P w) a vs
 |.dT Z8=>Z8.length<=sizeLine/\(a==sysModules)=false/\∃ xs:List (List Key×Addr×Value),
   Paired (fun (p:List Key×V) (q:List Key×Addr×Value)=>p.1=q.1/\H q.2.1=some (.tup (p.1.map kV))/\RelV p.2 q.2.2) Z8 xs /\
   ∃ o es ep,h.get? a=some o/\o.ExactDict/\o.data=.dict es ep/\es.toList=xs.map (entryOfKey (tupleKind (zM P w)))/\(xs.map (·.1)).Nodup
 |.dN Z8 ep=>Z8.length<=sizeLine/\(a==sysModules)=false/\∃ xs:List (List (List Key)×Addr×Value),
   Paired (fun (p:List (List Key)×V) (q:List (List Key)×Addr×Value)=>p.1=q.1/\WX H q.2.1 p.1/\RelV p.2 q.2.2) Z8 xs /\
   ∃ o es,h.get? a=some o/\o.ExactDict/\o.data=.dict es ep/\es.toList=xs.map (entryOfKey (My.Us (zM P w)))/\(xs.map (·.1)).Nodup
 |.set S n=>h.SetOf (intKind P w) a S n
 |.ins C dx fs=>H dx=some (.own a)/\fs.length<=1000/\dx≠a/\h.get? a=some (PySem.W.instObj C dx) /\
   ∃ mA,h.Ns1 dx mA/\(∀ f,X4 (fs.lookup f) (mA f))/\PySem.Within mA (fs.map (·.1))
 |.own _=>∃ o,h.get? a=some o
 |.xd fs=>∃ mA,h.Ns1 a mA/\∀ f,X4 (fs.lookup f) (mA f)
 | .rng lo hi=>∃ t u v,h.get? a=some { cls:=.type "range",data:=.fields #[.int lo t,.int hi u,.int 1 v] }
 |.frz o u=>h.get? a=some o/\zW H h a u
 |.tbl ps=>h.get? a=some { cls:=.none,data:=.fields ps }
 |.met f x=>h.get? a=some (PySem.W.methodObj (.ref f) (.ref x))
 |.ext φ=>φ h/\(∃ o,h.get? a=some o)/\∀ h1 h2:Heap,φ h1->(∀ o,h1.get? a=some o->h2.get? a=some o)->φ h2
def ZD (H:Hp)(h:Heap):Prop:=∀ a o,H a=some o->zW P w H h a o
end
section
variable {P:Program}{w:World}{H H':Hp}{h h':Heap}{a:Addr}{o:HO}
theorem zW.lt (x:zW P w H h a o):a<h.objs.size:=by
 cases o with
 |lst xs=>obtain⟨_,_,_,_,e⟩:=x;exact qC e
 |tup xs=>obtain⟨_,_,_,p⟩:=x;exact p.lt
 |dK Z8=>obtain⟨_,_,_,_,o,_,_,e,_⟩:=x;exact qC e
 |dT Z8=>obtain⟨_,_,_,_,o,_,_,e,_⟩:=x;exact qC e
 |dN Z8 ep=>obtain⟨_,_,_,_,o,_,e,_⟩:=x;exact qC e
 |set S n=>obtain⟨o,_,_,_,e,_⟩:=x;exact qC e
 |ins C dx fs=>obtain⟨_,_,_,e,_⟩:=x;exact qC e
 |own y=>obtain⟨_,e⟩:=x;exact qC e
 |xd fs=>obtain⟨_,⟨_,_,_,e,_⟩,_⟩:=x;exact qC e
 |rng lo hi=>obtain⟨_,_,_,e⟩:=x;exact qC e
 |frz ob u=>obtain⟨e,_⟩:=x;exact qC e
 |tbl ps=>exact qC (show h.get? a=some _ from x)
 |met f y=>exact qC (show h.get? a=some _ from x)
 |ext φ=>obtain⟨_,⟨_,e⟩,_⟩:=x;exact qC e
theorem Paired.mapP {α β:Type}{F G:α->β->Prop}:∀ {l₁:List α} {l₂:List β},Paired F l₁ l₂->(∀ a b,F a b->G a b)->Paired G l₁ l₂
 |_,_,.nil,_=>.nil
 |_,_,.cons r t,f=>.cons (f _ _ r) (Paired.mapP t f)
def WX.keeps {H':Hp}{k:List (List Key)}(x:WX H b k)(ht:∀ b xs,H b=some (.tup xs)->H' b=some (.tup xs)):WX H' b k :=by obtain⟨bs,e,r⟩:=x;exact⟨bs,ht _ _ e,Paired.mapP r fun _ _ z=>ht _ _ z⟩
def zW.stay (x:zW P w H h a o)(k:∀ b u,(b=a\/H b=some (.own a))->h.get? b=some u->h'.get? b=some u)
  (ho:∀ b,H b=some (.own a)->H' b=some (.own a)) (ht:∀ b xs,H b=some (.tup xs)->H' b=some (.tup xs)):zW P w H' h' a o:=by
 induction o with
 |lst xs=>obtain⟨z,its,n,r,e⟩:=x;exact⟨z,its,n,r,k _ _ (.inl rfl) e⟩
 |tup xs=>obtain⟨z,its,r,ob,e,c⟩:=x;exact⟨z,its,r,ob,k _ _ (.inl rfl) e,c⟩
 |dK Z8=>obtain⟨z,y,vs,r,ob,es,ep,e,c⟩:=x;exact⟨z,y,vs,r,ob,es,ep,k _ _ (.inl rfl) e,c⟩
 |dT Z8 =>obtain⟨z,y,xs,r,ob,es,ep,e,c⟩:=x;exact⟨z,y,xs,Paired.mapP r fun p q z=>⟨z.1,ht _ _ z.2.1,z.2.2⟩,ob,es,ep,k _ _ (.inl rfl) e,c⟩
 |dN Z8 ep =>obtain⟨z,y,xs,r,ob,es,e,c⟩:=x;exact⟨z,y,xs,Paired.mapP r fun p q z=>⟨z.1,z.2.1.keeps ht,z.2.2⟩,ob,es,k _ _ (.inl rfl) e,c⟩
 |set S n=>obtain⟨ob,es,ep,t,e,c⟩:=x;exact⟨ob,es,ep,t,k _ _ (.inl rfl) e,c⟩
 |ins C dx fs =>obtain⟨d,z,ne,e,mA,⟨od,es,ep,e2,c⟩,r⟩:=x;exact⟨ho _ d,z,ne,k _ _ (.inl rfl) e,mA,⟨od,es,ep,k _ _ (.inr d) e2,c⟩,r⟩
 |own y=>obtain⟨ob,e⟩:=x;exact⟨ob,k _ _ (.inl rfl) e⟩
 |xd fs=>obtain⟨mA,⟨od,es,ep,e,c⟩,r⟩:=x;exact⟨mA,⟨od,es,ep,k _ _ (.inl rfl) e,c⟩,r⟩
 |rng lo hi=>obtain⟨t,u,v,e⟩:=x;exact⟨t,u,v,k _ _ (.inl rfl) e⟩
 |frz ob u ih=>obtain⟨e,q⟩:=x;exact⟨k _ _ (.inl rfl) e,ih q⟩
 |tbl ps =>have e:h.get? a=some { cls:=.none,data:=.fields ps }:=x;show h'.get? a=some { cls:=.none,data:=.fields ps };exact k a _ (.inl rfl) e
 |met f y =>have e:h.get? a=some (PySem.W.methodObj (.ref f) (.ref y)):=x;show h'.get? a=some (PySem.W.methodObj (.ref f) (.ref y));exact k a _ (.inl rfl) e
 |ext φ=>obtain⟨p,⟨o,e⟩,st⟩:=x;exact⟨st _ _ p fun o q=>k _ _ (.inl rfl) q,⟨o,k _ _ (.inl rfl) e⟩,st⟩
theorem ZD.lt (x:ZD P w H h)(e:H a=some o):a<h.objs.size:=(x a o e).lt
def ZD.fresh (x:ZD P w H h)(e:h.objs.size<=a):H a=none:=by
 cases q:H a with
 |none=>rfl
 |some u=>exact absurd (qE (x.lt q) e) (Xz _)
def ZD.kept (x:ZD P w H h)(k:∀ b u,h.get? b=some u->h'.get? b=some u):ZD P w H h':=fun a o e =>(x a o e).stay (fun b u _ q=>k b u q) (fun _ q=>q) fun _ _ q=>q
def ZD.laid (x:ZD P w H h)(k:∀ b u,h.get? b=some u->h'.get? b=some u)(hp:h.objs.size<=a)(new:zW P w (upd H a o) h' a o):ZD P w (upd H a o) h':=fun b u e=>by
 have hn:=x.fresh hp;by_cases hb:b=a
 ·subst hb;rw[zL]at e;cases e;exact new
 ·rw[zu hb]at e;exact(x b u e).stay (fun c v _ q=>k c v q) (fun c q=>by rw[zu (Um q hn)];exact q) fun c xs q=>by rw[zu (Um q hn)];exact q
end
def Rd (H:Hp)(a:Addr)(u:HO):Prop:=H a=some u\/∃ o,H a=some (.frz o u)
def Rd.ok (r:Rd H a u)(x:ZD P w H h):zW P w H h a u:=by
 rcases r with r|⟨o,r⟩
 ·exact x a u r
 ·obtain⟨_,q⟩:=x a _ r;exact q
def Li:Option HO->Prop
 |some (.lst _)=>True
 |some (.dK _)=>True
 |some (.dT _)=>True
 |some (.dN _ _)=>True
 |some (.set _ _)=>True
 |some (.ins _ _ _)=>True
 |some (.ext _)=>True
 |_=>False
section
variable {P:Program}{w:World}{H:Hp}{h h':Heap}{x e:Addr}{o':HO}
def ZD.write (ok:ZD P w H h)(mu:Li (H x))(he:e=x\/H e=some (.own x))(k:∀ b u,b≠e->h.get? b=some u->h'.get? b=some u)(heo:∃ u,h'.get? e=some u)
  (new:zW P w (upd H x o') h' x o'):ZD P w (upd H x o') h':=fun b u q=>by
 have nown:∀ c y,H c=some (.own y)->c≠x:=fun c y r z=>by subst z;rw[r]at mu;exact mu
 have ntup:∀ c xs,H c=some (.tup xs)->c≠x:=fun c xs r z=>by subst z;rw[r]at mu;exact mu
 by_cases hb:b=x
 ·subst hb;rw[zL]at q;cases q;exact new
 ·rw[zu hb]at q;by_cases hbe:b=e
  ·have q':H b=some (.own x):=by
    rcases he with z|z
    ·exact absurd (hbe.trans z) hb
    ·rw[hbe];exact z
   rw[q]at q';cases q';obtain⟨v,hv⟩:=heo;exact⟨v,by rw[hbe];exact hv⟩
  ·refine(ok b u q).stay (fun c v hc r=>k c v ?_ r) (fun c r=>by rw[zu (nown c b r)];exact r) fun c xs r=>by rw[zu (ntup c xs r)];exact r
   rcases hc with rfl|hc
   ·exact hbe
   ·rintro rfl;rcases he with z|z
    ·exact nown c b hc z
    ·rw[hc]at z;cases z;exact hb rfl
end
structure Un (fs ex:List Addr)(H H':Hp)(h h':Heap):Prop where
 keep:∀ b o,h.get? b=some o->H b=none->b∉fs->b∉ex->h'.get? b=some o
 slot:∀ b o,h.get? b=some o->H b=none->b∈fs->b∉ex->∃ sl,h'.get? b=some { o with slots:=sl }
 free:∀ b o,h.get? b=some o->H b=none->b∉ex->H' b=none
 there:∀ b o,h.get? b=some o->b∉ex->∃ o',h'.get? b=some o'
 tups:∀ b xs,H b=some (.tup xs)->H' b=some (.tup xs)
 frzs:∀ b o u,H b=some (.frz o u)->H' b=some (.frz o u)
 tbls:∀ b ps,H b=some (.tbl ps)->∃ more,H' b=some (.tbl (ps++more))
section
variable {fs fs' ex ex':List Addr}{H H1 H2:Hp}{h h1 h2 h':Heap}{a x e:Addr}{o:HO}
def Un.any (u:Un fs ex H H1 h h1){b:Addr}{ob:Obj}(q:h.get? b=some ob)(n:H b=none)(hx:b∉ex):∃ sl,h1.get? b=some { ob with slots:=sl }:=by
 by_cases hb:b∈fs
 ·exact u.slot b ob q n hb hx
 ·exact⟨ob.slots,u.keep b ob q n hb hx⟩
def Un.kept (k:∀ b u,h.get? b=some u->h'.get? b=some u):Un fs ex H H h h' :=⟨fun b ob q _ _ _=>k b ob q,fun b ob q _ _ _=>⟨ob.slots,k b ob q⟩,fun _ _ _ n _=>n,fun b ob q _=>⟨ob,k b ob q⟩,fun _ _ q=>q,fun _ _ _ q=>q,fun _ ps q=>⟨#[],by rw[q];simp⟩⟩
def Un.refl:Un fs ex H H h h:=Un.kept fun _ _ q=>q
def Un.laid (k:∀ b u,h.get? b=some u->h'.get? b=some u)(hp:h.objs.size<=a)(hn:H a=none):Un fs ex H (upd H a o) h h' where
 keep:=fun b u q _ _ _=>k b u q
 slot:=fun b u q _ _ _=>⟨u.slots,k b u q⟩
 free:=fun b u q n _=>by rw[zu (qV (qE (qC q) hp))];exact n
 there:=fun b u q _=>⟨u,k b u q⟩
 tups:=fun b xs q=>by rw[zu (Um q hn)];exact q
 frzs:=fun b u xs q=>by rw[zu (Um q hn)];exact q
 tbls:=fun b ps q=>⟨#[],by rw[zu (Um q hn),q];simp⟩
def Un.write (mu:Li (H x))(he:e=x\/H e=some (.own x))(k:∀ b u,b≠e->h.get? b=some u->h'.get? b=some u)(heo:∃ u,h'.get? e=some u):Un fs ex H (upd H x o) h h':=by
 have hx:∀ b,H b=none->b≠x:=fun b n z=>by subst z;rw[n]at mu;exact mu
 have hb:∀ b,H b=none->b≠e:=fun b n z=>by
  subst z;rcases he with r|r
  ·exact hx b n r
  ·rw[n]at r;cases r
 have hm:∀ b u,H b=some u->¬ Li (some u)->b≠x:=fun b u q nm z=>by subst z;rw[q]at mu;exact nm mu
 refine⟨fun b u q n _ _=>k b u (hb b n) q,fun b u q n _ _=>⟨u.slots,k b u (hb b n) q⟩,fun b u q n _=>by rw[zu (hx b n)];exact n,fun b u q _=>?_,
  fun b xs q=>by rw[zu (hm b _ q fun z=>z)];exact q,fun b u xs q=>by rw[zu (hm b _ q fun z=>z)];exact q,fun b ps q=>⟨#[],by rw[zu (hm b _ q fun z=>z),q];simp⟩⟩
 by_cases hbe:b=e
 ·subst hbe;exact heo
 ·exact⟨u,k b u hbe q⟩
end
def Ip (h:Heap)(H:Hp):List Addr:=(List.range h.objs.size).filter fun a=>(H a).isSome
def U5 (h:Heap)(H:Hp):Heap:=PySem.W.hideAll h (Ip h H)
def znE (h:Heap)(H:Hp):(U5 h H).objs.size=h.objs.size:=PySem.W.hideAll_size _ _
def zo4 {h:Heap}{H:Hp}{b:Addr}{o:Obj}(e:h.get? b=some o)(n:H b=none):(U5 h H).get? b=some o :=
 PySem.W.hideAll_get _ e fun hm=>by have q:(H b).isSome=true:=(qO.mp hm).2;rw[n]at q;simp at q
def zqu {h:Heap}{H:Hp}{b:Addr}{o:Obj}(e:(U5 h H).get? b=some o):h.get? b=some o/\H b=none:=by
 have e':h.get? b=some o:=PySem.W.of_hideAll (Ip h H) e;refine⟨e',?_⟩;cases q:H b with
 |none=>rfl
 |some x =>have hm:b∈Ip h H:=qO.mpr ⟨List.mem_range.mpr (qC e'),by simp[q]⟩;have z:(U5 h H).get? b=none:=PySem.W.hideAll_none (Ip h H) hm;rw[z]at e;cases e
def zqC (g h:Heap)(L:Addr):List (Addr×Obj):=(List.range h.objs.size).filterMap fun a=>if a=L\/(g.get? a).isSome=true then none else(h.get? a).map fun o=>(a,o)
def rest (g h:Heap)(L d:Addr):List (Addr×Obj):=(zqC g h L).filter fun p=>decide (p.1≠d)
structure Mod (K:PySem.W.Frag)(mg:Str->Option Value)(base:Heap):Prop where
 kin:K.In base
 glob:base.Ns mainGlobals mg
 blt:∃ mb,base.Ns builtinsNs mb/\∀ x:Str,x≠"__name__"->mb x=bootBuiltins x
 nolimit:base.NoLimit
/-- the context: a def's body (or a comprehension's block) running. base: fixed through the whole law; s₀, H₀: the entry; outer: the frames whose slots others may change (a def's callers); stack: all frames that run;
   ex: iterators that were made ahead of the entry and are walked here (a comprehension's);fn: the names whose cells were made at the entry (a def: all;a comprehension's block: its own);calm: not within an except suite;pn: Z9 that every state bears;xe: what is wanted of an exception that leaves the code -/
structure Cx where
 prog:Program
 w:World
 K:PySem.W.Frag
 mg:Str->Option Value
 base:Heap
 A:Around
 N:List Str
 s₀:Shared
 H₀:Hp
 env:Env
 outer:List Env
 stack:List Env
 ex:List Addr
 fn:Str->Bool
 calm:Bool
 pn:List (Addr×Obj)
 xe:Value->Shared->Prop
def frs (l:List Env):List Addr:=l.filterMap (·.frame)
abbrev Cx.fs (X:Cx):List Addr:=frs X.outer
def Vis (sc:Scope)(x:Str):Prop:=sc.names.lookup x=some .local\/sc.names.lookup x=some .cell\/sc.names.lookup x=some .free
def Loc (sc:Scope)(x:Str):Prop:=sc.names.lookup x=some .local\/sc.names.lookup x=some .cell
def Look (env:Env)(h:Heap)(m:Str->Option Value)(x:Str)(u:Value):Prop :=(env.kindOf x=some .local/\m x=some u)\/((env.kindOf x=some .cell\/env.kindOf x=some .free)/\∃ c,env.cells.lookup x=some c/\h.IsCell c (some u))
structure Cx.Ok (X:Cx):Prop where
 mod:Mod X.K X.mg X.base
 kind:X.env.scope.kind=.function
 glob:X.env.globals=mainGlobals
 blt:X.env.builtins=builtinsNs
 above:X.s₀.heap.objs.size<=X.env.locals
 inj:∀ x y c,X.env.cells.lookup x=some c->X.env.cells.lookup y=some c->x=y
 has:∀ x,(X.env.kindOf x=some .cell\/X.env.kindOf x=some .free)->∃ c,X.env.cells.lookup x=some c
 cab:∀ x c,X.fn x=true->X.env.cells.lookup x=some c->X.s₀.heap.objs.size<=c
 hd:X.calm=true->X.A.handled=none
 frames:X.A.frames=some X.stack
 stk:X.stack=X.outer\/(X.stack=X.env::X.outer/\X.env.frame=some X.env.locals)
 exf:∀ b∈X.ex,b≠X.env.locals/\∀ x c,X.env.cells.lookup x=some c->c≠b
 bs:∀ b o,X.base.get? b=some o->X.s₀.heap.get? b=some o/\X.H₀ b=none
 bsz:X.base.objs.size<=X.s₀.heap.objs.size
 noex:∀ b o,X.base.get? b=some o->b∉X.ex
 exfs:∀ b∈X.ex,b∉X.fs
 funs:X.s₀.heap.FunFrames X.base X.outer
 frf:∀ b∈X.fs,X.H₀ b=none
structure Inv (X:Cx)(Z9:List (Addr×Obj))(U:List (Option V))(H:Hp)(s:Shared):Prop where
 ok:X.Ok
 os:s.os=X.s₀.os
 bare:AllBare s.gens
 base:Un X.fs X.ex X.H₀ H X.s₀.heap s.heap
 loc:∃ m,s.heap.Ns X.env.locals m/\∀ (i:Nat) (x:Str) (v:V),X.N[i]?=some x->U[i]?=some (some v)->Vis X.env.scope x->∃ u,RelV v u/\Look X.env s.heap m x u
 cell:∀ x c,X.env.cells.lookup x=some c->∃ v,s.heap.IsCell c v
 free:H X.env.locals=none
 freeC:∀ x c,X.env.cells.lookup x=some c->H c=none
 pin:∀ p∈X.pn++Z9,s.heap.get? p.1=some p.2/\H p.1=none/\p.1≠X.env.locals/\p.1∉X.fs/\∀ v,p.2.data≠.cell v
 hok:ZD X.prog X.w H s.heap
 len:U.length=X.N.length
section
variable {X:Cx}{Z9:List (Addr×Obj)}{U:List (Option V)}{H H':Hp}{s:Shared}{h':Heap}
def Cx.Ok.nofr (ok:X.Ok){b:Addr}{o:Obj}(e:X.base.get? b=some o):b∉X.fs:=fun hb=>by have:=(ok.funs.mem hb).1;rw[e]at this;cases this
theorem Inv.bs (I:Inv X Z9 U H s):∀ b o,X.base.get? b=some o->s.heap.get? b=some o/\H b=none:=fun b o e =>⟨I.base.keep b o (I.ok.bs b o e).1 (I.ok.bs b o e).2 (I.ok.nofr e) (I.ok.noex b o e),I.base.free b o (I.ok.bs b o e).1 (I.ok.bs b o e).2 (I.ok.noex b o e)⟩
def Inv.bk (I:Inv X Z9 U H s):∀ b o,X.base.get? b=some o->s.heap.get? b=some o:=fun b o e=>(I.bs b o e).1
theorem Inv.mod (I:Inv X Z9 U H s):Mod X.K X.mg X.base:=I.ok.mod
def Inv.kIn (I:Inv X Z9 U H s):X.K.In s.heap:=I.ok.mod.kin.keeps I.bk
theorem Inv.lt (I:Inv X Z9 U H s):X.env.locals<s.heap.objs.size:=by obtain⟨_,hn,_⟩:=I.loc;exact hn.lt
def Inv.sz (I:Inv X Z9 U H s):X.s₀.heap.objs.size<=s.heap.objs.size:=qW I.ok.above (Lh I.lt)
def Inv.nofs (I:Inv X Z9 U H s){a:Addr}(h:s.heap.objs.size<=a):a∉X.fs:=fun hb=>by obtain⟨_,o,ho,_⟩:=I.ok.funs.mem hb;exact absurd (qE (qC ho) (qW I.sz h)) (Xz _)
def Inv.cne (I:Inv X Z9 U H s):∀ x c,X.env.cells.lookup x=some c->c≠X.env.locals:=fun x c e z=>by obtain⟨v,o,ho,hd⟩:=I.cell x c e;obtain⟨m,⟨o',es,ep,ho',hd',_⟩,_⟩:=I.loc;rw[z,ho']at ho;cases ho;rw[hd']at hd;cases hd
theorem Inv.funs (I:Inv X Z9 U H s):s.heap.FunFrames X.base X.outer:=by
 have all:∀ (l:List Env),(∀ b∈frs l,b∈X.fs)->X.s₀.heap.FunFrames X.base l->s.heap.FunFrames X.base l:=by
  intro l
  induction l with
  |nil=>intro _ _;trivial
  |cons env r ih =>
   intro hs hl;obtain⟨hk,⟨L,o,hf,hn,ho,hd⟩,hr⟩:=hl;have hL:L∈X.fs:=hs L (by unfold frs;rw[Pu,hf];exact qI);obtain⟨sl,e⟩:=I.base.slot L o ho (I.ok.frf L hL) hL fun z=>I.ok.exfs L z hL
   exact⟨hk,⟨L,_,hf,hn,e,hd⟩,ih (fun b hb=>hs b (by unfold frs;rw[Pu,hf];exact qj _ hb)) hr⟩
 exact all X.outer (fun _ hb=>hb) I.ok.funs
theorem Inv.stack (I:Inv X Z9 U H s):s.heap.FunFrames X.base X.stack:=by
 rcases I.ok.stk with e|⟨e,hf⟩
 ·rw[e];exact I.funs
 ·rw[e];obtain⟨m,hn,_⟩:=I.loc;refine .cons (by rw[I.ok.kind];decide) hf hn ?_ I.funs;exact Heap.get?_none_of_le (qW I.ok.bsz I.ok.above)
def Inv.stkSub (I:Inv X Z9 U H s):∀ b∈frs X.stack,b∈X.env.locals::X.fs:=fun b hb=>by
 rcases I.ok.stk with e|⟨e,hf⟩
 ·rw[e]at hb;exact qj _ hb
 ·rw[e]at hb;unfold frs at hb;rw[Pu,hf]at hb;exact hb
def Inv.stkFree (I:Inv X Z9 U H s):∀ b∈frs X.stack,H b=none:=fun b hb=>by
 rcases ql.mp (I.stkSub b hb)with e|hb
 ·rw[e];exact I.free
 ·obtain⟨_,o,ho,_⟩:=I.ok.funs.mem hb;exact I.base.free b o ho (I.ok.frf b hb) fun z=>I.ok.exfs b z hb
def Inv.step {t':Nat}{d':Drawn}{ch:List Addr}(I:Inv X Z9 U H s)(hch:∀ b∈ch,(b∈X.ex\/X.s₀.heap.objs.size<=b)/\b≠X.env.locals/\(∀ x c,X.env.cells.lookup x=some c->c≠b)/\∀ p∈X.pn++Z9,p.1≠b)(keep:∀ b o,b≠X.env.locals->b∉X.fs->b∉ch->s.heap.get? b=some o->H b=none->h'.get? b=some o)(slot:∀ b o,b≠X.env.locals->b∈X.fs->b∉ch->s.heap.get? b=some o->H b=none->∃ sl,h'.get? b=some { o with slots:=sl })(free:∀ b o,b∉ch->s.heap.get? b=some o->H b=none->H' b=none)(there:∀ b o,b∉ch->s.heap.get? b=some o->∃ o',h'.get? b=some o')(tups:∀ b xs,H b=some (.tup xs)->H' b=some (.tup xs))(frzs:∀ b o u,H b=some (.frz o u)->H' b=some (.frz o u))(tbls:∀ b ps,H b=some (.tbl ps)->∃ more,H' b=some (.tbl (ps++more)))(ns:∀ m,s.heap.Ns X.env.locals m->h'.Ns X.env.locals m)(hok:ZD X.prog X.w H' h')(hg:AllBare g') :
  Inv X Z9 U H' { s with heap:=h',gens:=g',drawn:=d',toks:=t' }:=by
 have neL:∀ b o,X.s₀.heap.get? b=some o->b≠X.env.locals:=fun b o e=>qV (qE (qC e) I.ok.above)
 have neC:∀ b o,X.s₀.heap.get? b=some o->b∉X.ex->b∉ch:=fun b o e hx hb=>by
  rcases(hch b hb).1 with z|z
  ·exact hx z
  ·exact absurd (qE (qC e) z) (Xz _)
 have cellK:∀ x c,X.env.cells.lookup x=some c->∀ v,s.heap.IsCell c v->h'.IsCell c v:=by
  rintro x c e v ⟨o,ho,hd⟩;have nch:c∉ch:=fun z=>(hch c z).2.2.1 x c e rfl
  by_cases hc:c∈X.fs
  ·obtain⟨sl,q⟩:=slot c o (I.cne x c e) hc nch ho (I.freeC x c e);exact⟨_,q,hd⟩
  ·exact⟨o,keep c o (I.cne x c e) hc nch ho (I.freeC x c e),hd⟩
 refine⟨I.ok,I.os,hg,⟨fun b o e n hb hx=>?_,fun b o e n hb hx=>?_,fun b o e n hx=>?_,fun b o e hx=>?_,fun b xs e=>tups b xs (I.base.tups b xs e),fun b o xs e=>frzs b o xs (I.base.frzs b o xs e),fun b ps e=>?_⟩,?_,fun x c e=>?_,?_,fun x c e=>?_,fun p hp=>?_,hok,I.len⟩
 ·exact keep b o (neL b o e) hb (neC b o e hx) (I.base.keep b o e n hb hx) (I.base.free b o e n hx)
 ·obtain⟨sl,e1⟩:=I.base.slot b o e n hb hx;obtain⟨sl',e2⟩:=slot b _ (neL b o e) hb (neC b o e hx) e1 (I.base.free b o e n hx);exact⟨sl',e2⟩
 ·obtain⟨o',e1⟩:=I.base.there b o e hx;exact free b o' (neC b o e hx) e1 (I.base.free b o e n hx)
 ·obtain⟨o',e1⟩:=I.base.there b o e hx;exact there b o' (neC b o e hx) e1
 ·obtain⟨m1,e1⟩:=I.base.tbls b ps e;obtain⟨m2,e2⟩:=tbls b _ e1;exact⟨m1++m2,by rw[e2,Array.append_assoc]⟩
 ·obtain⟨m,hn,hl⟩:=I.loc;refine⟨m,ns m hn,fun i x v e1 e2 e3=>?_⟩;obtain⟨u,r,l⟩:=hl i x v e1 e2 e3;refine⟨u,r,?_⟩;rcases l with l|⟨k,c,e,z⟩
  ·exact .inl l
  ·exact .inr ⟨k,c,e,cellK x c e _ z⟩
 ·obtain⟨v,z⟩:=I.cell x c e;exact⟨v,cellK x c e v z⟩
 ·obtain⟨m,⟨o,_,_,ho,_⟩,_⟩:=I.loc;exact free _ o (fun z=>(hch _ z).2.1 rfl) ho I.free
 ·obtain⟨v,o,ho,hd⟩:=I.cell x c e;exact free c o (fun z=>(hch c z).2.2.1 x c e rfl) ho (I.freeC x c e)
 ·obtain⟨e,n,ne,nf,d⟩:=I.pin p hp;have nch:p.1∉ch:=fun z=>(hch p.1 z).2.2.2 p hp rfl
  exact⟨keep p.1 p.2 ne nf nch e n,free p.1 p.2 nch e n,ne,nf,d⟩
def Inv.un {t':Nat}(I:Inv X Z9 U H s)(u:Un X.fs [] H H' s.heap h')(hok:ZD X.prog X.w H' h'):Inv X Z9 U H' { s with heap:=h',toks:=t' }:=by
 obtain⟨m,⟨o,es,ep,ho,r⟩,_⟩:=id I.loc;obtain⟨sl,hL⟩:=u.any ho I.free (by simp)
 exact I.step (g':=s.gens) (d':=s.drawn) (ch:=[]) (fun _ z=>nomatch z) (fun b o _ hb _ e n=>u.keep b o e n hb (by simp)) (fun b o _ hb _ e n=>u.slot b o e n hb (by simp)) (fun b o _ e n=>u.free b o e n (by simp)) (fun b o _ e=>u.there b o e (by simp)) u.tups u.frzs u.tbls (fun m' hm=>by obtain⟨o',es',ep',ho',r'⟩:=hm;rw[ho]at ho';cases ho';exact⟨_,es',ep',hL,r'⟩) hok I.bare
def Inv.call {t':Nat}{d':Drawn}(I:Inv X Z9 U H s)(u:Un (frs X.stack) ch H H' s.heap h')(hok:ZD X.prog X.w H' h')(hg:AllBare g')(hch:∀ b∈ch,(b∈X.ex\/X.s₀.heap.objs.size<=b)/\b≠X.env.locals/\(∀ x c,X.env.cells.lookup x=some c->c≠b)/\∀ p∈X.pn++Z9,p.1≠b) :
  Inv X Z9 U H' { s with heap:=h',gens:=g',drawn:=d',toks:=t' }:=by
 obtain⟨m,⟨o,es,ep,ho,r⟩,_⟩:=id I.loc;obtain⟨sl,hL⟩:=u.any ho I.free fun z=>(hch _ z).2.1 rfl
 exact I.step (ch:=ch) hch (fun b o hL hb hc e n=>u.keep b o e n (fun z=>(ql.mp (I.stkSub b z)).elim hL hb) hc) (fun b o _ _ hc e n=>u.any e n hc) (fun b o hc e n=>u.free b o e n hc) (fun b o hc e=>u.there b o e hc) u.tups u.frzs u.tbls (fun m' hm=>by obtain⟨o',es',ep',ho',r'⟩:=hm;rw[ho]at ho';cases ho';exact⟨_,es',ep',hL,r'⟩) hok hg
def Inv.turned {t':Nat}{it:Addr}(I:Inv X Z9 U H s)(k:∀ b o,b≠it->s.heap.get? b=some o->h'.get? b=some o)(hn:H it=none)(hL:it≠X.env.locals)
  (h1:it∈X.ex\/X.s₀.heap.objs.size<=it) (h2:∀ x c,X.env.cells.lookup x=some c->c≠it) (h3:∀ p∈X.pn++Z9,p.1≠it):Inv X Z9 U H { s with heap:=h',toks:=t' }:=by
 have nit:∀ b u,H b=some u->b≠it:=fun b u e z=>by rw[z,hn]at e;cases e
 refine I.step (g':=s.gens) (d':=s.drawn) (ch:=[it]) (fun b hb=>?_) (fun b o _ _ hc e _=>k b o (fun z=>hc (by simp[z])) e) (fun b o _ _ hc e _=>⟨o.slots,k b o (fun z=>hc (by simp[z])) e⟩) (fun _ _ _ _ n=>n)
  (fun b o hc e=>⟨o,k b o (fun z=>hc (by simp[z])) e⟩) (fun _ _ e=>e) (fun _ _ _ e=>e) (fun b ps e=>⟨#[],by rw[e];simp⟩) (fun m hm=>?_) (fun b u e=>?_) I.bare
 ·have e:b=it:=by simpa using hb
  subst e;exact⟨h1,hL,h2,h3⟩
 ·obtain⟨o,es,ep,ho,r⟩:=hm;exact⟨o,es,ep,k _ o (Ne.symm hL) ho,r⟩
 ·refine(I.hok b u e).stay (fun c v hc q=>k c v ?_ q) (fun _ q=>q) fun _ _ q=>q
  rcases hc with z|z
  ·rw[z];exact nit b u e
  ·exact nit c _ z
def Inv.tok (I:Inv X Z9 U H s)(t:Nat):Inv X Z9 U H { s with toks:=t }:=I.un (h':=s.heap) (t':=t) Un.refl I.hok
theorem Inv.kept {t':Nat}(I:Inv X Z9 U H s)(k:∀ b u,s.heap.get? b=some u->h'.get? b=some u):Inv X Z9 U H { s with heap:=h',toks:=t' }:=I.un (Un.kept k) (I.hok.kept k)
theorem Inv.laid {a:Addr}{o:HO}{t':Nat}(I:Inv X Z9 U H s)(k:∀ b u,s.heap.get? b=some u->h'.get? b=some u)(hp:s.heap.objs.size<=a)(new:zW X.prog X.w (upd H a o) h' a o) :
  Inv X Z9 U (upd H a o) { s with heap:=h',toks:=t' }:=I.un (Un.laid k hp (I.hok.fresh hp)) (I.hok.laid k hp new)
theorem Inv.write {x e:Addr}{o:HO}{t':Nat}(I:Inv X Z9 U H s)(mu:Li (H x))(he:e=x\/H e=some (.own x))(k:∀ b u,b≠e->s.heap.get? b=some u->h'.get? b=some u)(heo:∃ u,h'.get? e=some u)
  (new:zW X.prog X.w (upd H x o) h' x o):Inv X Z9 U (upd H x o) { s with heap:=h',toks:=t' }:=I.un (Un.write mu he k heo) (I.hok.write mu he k heo new)
def Inv.weak {σ':List (Option V)}(I:Inv X Z9 U H s)(hl:σ'.length=U.length)(w:∀ (i:Nat) v,σ'[i]?=some (some v)->U[i]?=some (some v)):Inv X Z9 σ' H s :=⟨I.ok,I.os,I.bare,I.base,by obtain⟨m,hn,hl'⟩:=I.loc;exact⟨m,hn,fun i x v e1 e2 e3=>hl' i x v e1 (w i v e2) e3⟩,I.cell,I.free,I.freeC,I.pin,I.hok,hl.trans I.len⟩
def Inv.pins_of {pins':List (Addr×Obj)}(I:Inv X Z9 U H s)(h:∀ p∈pins',s.heap.get? p.1=some p.2/\H p.1=none/\p.1≠X.env.locals/\p.1∉X.fs/\∀ v,p.2.data≠.cell v):Inv X pins' U H s :=⟨I.ok,I.os,I.bare,I.base,I.loc,I.cell,I.free,I.freeC,fun p hp=>(qD.mp hp).elim (fun z=>I.pin p (qX _ z)) (h p),I.hok,I.len⟩
def yN {N:List Str}(hN:N.Nodup){i j:Nat}{x:Str}(a:N[i]?=some x)(b:N[j]?=some x):i=j:=by obtain⟨h1,e1⟩:=Uo.mp a;obtain⟨h2,e2⟩:=Uo.mp b;exact(P0 hN).mp (e1.trans e2.symm)
def rY {M:Model}{A:Around}{E:Value->Shared->Prop}{i:Nat}{x:Str}{Q:Unit->Shared->Prop}(I:Inv X Z9 U H s)(hN:X.N.Nodup)(hi:X.N[i]?=some x)(hx:Loc X.env.scope x)(r:RelV v u)(h:∀ s',Inv X Z9 (U.set i (some v)) H s'->(∃ a,Heap.SameBut a s.heap s'.heap/\(a=X.env.locals\/X.env.cells.lookup x=some a))->Q () s')(hf:autoParam (X.fn x=true\/X.env.scope.names.lookup x=some .local) QH):wpAny M A (storeName X.env x u) Q E s:=by
 obtain⟨m,hn,hl⟩:=id I.loc;have hcls:(X.env.scope.kind==.class||(X.env.scope.kind==.module&&X.env.locals != X.env.globals))=false:=by rw[I.ok.kind];rfl
 have hiσ:i<U.length:=by rw[I.len];exact(Uo.mp hi).1
 have cne:=I.cne
 have tracked:∀ {a:Addr} {h':Heap},(∃ o,s.heap.get? a=some o/\H a=none)->Heap.SameBut a s.heap h'->ZD X.prog X.w H h':=fun {a h'} ha hs b ob e=>by
  obtain⟨_,_,hfree⟩:=ha;refine(I.hok b ob e).stay (fun c w' hc q=>(hs.2 c ?_).trans q) (fun _ q=>q) fun _ _ q=>q
  rintro rfl;rcases hc with rfl|hc
  ·rw[hfree]at e;cases e
  ·rw[hfree]at hc;cases hc
 rcases hx with hk|hk
 ·refine wpAny_storeName_local hk hn (fun h' hn' hs=>?_) hcls;obtain⟨oL,_,_,hoL,_⟩:=id hn;refine h _ ⟨I.ok,I.os,I.bare,⟨fun b o e n hb hx=>?_,fun b o e n hb hx=>?_,I.base.free,fun b o e hx=>?_,I.base.tups,I.base.frzs,I.base.tbls⟩,⟨_,hn',fun j y v' e1 e2 e3=>?_⟩,fun y c e=>?_,I.free,I.freeC,fun p hp=>?_,tracked ⟨oL,hoL,I.free⟩ hs,by simpa using I.len⟩ ⟨_,hs,.inl rfl⟩
  ·exact(hs.2 b (qV (qE (qC e) I.ok.above))).trans (I.base.keep b o e n hb hx)
  ·obtain⟨sl,e1⟩:=I.base.slot b o e n hb hx;exact⟨sl,(hs.2 b (qV (qE (qC e) I.ok.above))).trans e1⟩
  ·obtain⟨o',e1⟩:=I.base.there b o e hx;exact⟨o',(hs.2 b (qV (qE (qC e) I.ok.above))).trans e1⟩
  ·by_cases hj:j=i
   ·subst hj;rw[hi]at e1;cases e1;rw[qU hiσ]at e2;cases e2;exact⟨u,r,.inl ⟨hk,by simp⟩⟩
   ·rw[qS (Ne.symm hj)]at e2;obtain⟨u',r',q⟩:=hl j y v' e1 e2 e3;refine⟨u',r',?_⟩;rcases q with⟨k,e⟩|⟨k,c,e,z⟩
    ·refine .inl ⟨k,?_⟩;have:y≠x:=fun e=>hj (yN hN e1 (e▸hi))
     simp[this,e]
    ·exact .inr ⟨k,c,e,z.sameBut hs (cne y c e)⟩
  ·obtain⟨w',z⟩:=I.cell y c e;exact⟨w',z.sameBut hs (cne y c e)⟩
  ·obtain⟨e,n,ne,nf,d⟩:=I.pin p hp;exact⟨(hs.2 p.1 ne).trans e,n,ne,nf,d⟩
 ·have hfn:X.fn x=true:=by
   rcases hf with z|z
   ·exact z
   ·rw[z]at hk;cases hk
  obtain⟨c,hc⟩:=I.ok.has x (.inl hk);obtain⟨w',z⟩:=I.cell x c hc;refine wpAny_storeName_cell I.ok.kind hk hc z (fun h' hc' hs=>?_);obtain⟨oc,hoc,hocd⟩:=id z;refine h { s with heap:=h' } ⟨I.ok,I.os,I.bare,⟨fun b o e n hb hx=>?_,fun b o e n hb hx=>?_,I.base.free,fun b o e hx=>?_,I.base.tups,I.base.frzs,I.base.tbls⟩,⟨m,hn.sameBut hs (Ne.symm (cne x c hc)),fun j y v' e1 e2 e3=>?_⟩,fun y c' e=>?_,I.free,I.freeC,fun p hp=>?_,tracked ⟨oc,hoc,I.freeC x c hc⟩ hs,by simpa using I.len⟩ ⟨c,hs,.inr hc⟩
  ·exact(hs.2 b (qV (qE (qC e) (I.ok.cab x c hfn hc)))).trans (I.base.keep b o e n hb hx)
  ·obtain⟨sl,e1⟩:=I.base.slot b o e n hb hx;exact⟨sl,(hs.2 b (qV (qE (qC e) (I.ok.cab x c hfn hc)))).trans e1⟩
  ·obtain⟨o',e1⟩:=I.base.there b o e hx;exact⟨o',(hs.2 b (qV (qE (qC e) (I.ok.cab x c hfn hc)))).trans e1⟩
  ·by_cases hj:j=i
   ·subst hj;rw[hi]at e1;cases e1;rw[qU hiσ]at e2;cases e2;exact⟨u,r,.inr ⟨.inl hk,c,hc,hc'⟩⟩
   ·rw[qS (Ne.symm hj)]at e2;obtain⟨u',r',q⟩:=hl j y v' e1 e2 e3;refine⟨u',r',?_⟩;rcases q with q|⟨k,c',e,z'⟩
    ·exact .inl q
    ·refine .inr ⟨k,c',e,z'.sameBut hs ?_⟩;rintro rfl;exact hj (yN hN e1 (I.ok.inj _ _ _ e hc▸hi))
  ·by_cases hcc:c'=c
   ·subst hcc;exact⟨_,hc'⟩
   ·obtain⟨w2,z2⟩:=I.cell y c' e;exact⟨w2,z2.sameBut hs hcc⟩
  ·obtain⟨e,n,ne,nf,d⟩:=I.pin p hp;refine⟨(hs.2 p.1 ?_).trans e,n,ne,nf,d⟩;intro q;rw[q,hoc]at e;have q':oc=p.2:=qF e;exact d w' (by rw[<- q'];exact hocd)
def Gh {M:Model}{A:Around}{E:Value->Shared->Prop}{i:Nat}{x:Str}{Q:Unit->Shared->Prop}(I:Inv X Z9 U H s)(hN:X.N.Nodup)(hi:X.N[i]?=some x)(hx:Loc X.env.scope x)(r:RelV v u)(h:∀ s',Inv X Z9 (U.set i (some v)) H s'->Q () s')(hf:autoParam (X.fn x=true\/X.env.scope.names.lookup x=some .local) QH):wpAny M A (storeName X.env x u) Q E s :=rY I hN hi hx r (fun s' I' _=>h s' I') hf
def Inv.call' {s':Shared}(I:Inv X Z9 U H s)(ho:s'.os=s.os)(u:Un (frs X.stack) ch H H' s.heap s'.heap)(hok:ZD X.prog X.w H' s'.heap)(hg:AllBare s'.gens)(hch:∀ b∈ch,(b∈X.ex\/X.s₀.heap.objs.size<=b)/\b≠X.env.locals/\(∀ x c,X.env.cells.lookup x=some c->c≠b)/\∀ p∈X.pn++Z9,p.1≠b):Inv X Z9 U H' s':=by obtain⟨h',g',d',t',o'⟩:=s';have e:o'=s.os:=ho;subst e;exact I.call (g':=g') (t':=t') (d':=d') u hok hg hch
end
abbrev XK:=Value->Option Addr->Hp->Prop
abbrev St:=List (Option V)
abbrev VK:=V->Hp->Prop
abbrev TE:=St->Hp->VK->Prop
abbrev TT:=St->Hp->(Bool->Hp->Prop)->Prop
abbrev TA:=St->Hp->(List V->Hp->Prop)->Prop
structure Ends where
 nx:St->Hp->Prop
 rt:VK
 bk:St->Hp->Prop:=fun _ _=>False
 ct:St->Hp->Prop:=fun _ _=>False
abbrev TS:=Ends->St->Hp->Prop
def EP (X:Cx)(Z9:List (Addr×Obj))(U:St)(Q:VK)(u:Value)(s':Shared):Prop:=∃ v H',Inv X Z9 U H' s'/\RelV v u/\Q v H'
def TP (X:Cx)(Z9:List (Addr×Obj))(U:St)(Q:Bool->Hp->Prop)(b:Bool)(s':Shared):Prop:=∃ H',Inv X Z9 U H' s'/\Q b H'
def AP (X:Cx)(Z9:List (Addr×Obj))(U:St)(Q:List V->Hp->Prop)(us:List Value)(s':Shared):Prop:=∃ vs H',Inv X Z9 U H' s'/\Vals vs us/\Q vs H'
def SP (X:Cx)(Z9:List (Addr×Obj))(D:Ends)(f:Flow)(s':Shared):Prop :=
 match f with
 |.next=>∃ σ' H',Inv X Z9 σ' H' s'/\D.nx σ' H'
 |.brk=>∃ σ' H',Inv X Z9 σ' H' s'/\D.bk σ' H'
 |.cont=>∃ σ' H',Inv X Z9 σ' H' s'/\D.ct σ' H'
 |.ret u=>∃ v σ' H',Inv X Z9 σ' H' s'/\RelV v u/\D.rt v H'
def PE (X:Cx)(e:Expr)(t:TE):Prop :=∀ (Z9:List (Addr×Obj)) (s:Shared) (U:St) (H:Hp) (Q:VK),Inv X Z9 U H s->t U H Q->wpAny (model X.prog X.w) X.A (eval e X.env) (EP X Z9 U Q) X.xe s
def PT (X:Cx)(e:Expr)(t:TT):Prop :=∀ (Z9:List (Addr×Obj)) (s:Shared) (U:St) (H:Hp) (Q:Bool->Hp->Prop),Inv X Z9 U H s->t U H Q->wpAny (model X.prog X.w) X.A (isTrue e X.env (eval e X.env)) (TP X Z9 U Q) X.xe s
def PW (X:Cx)(e:Expr)(t:TT):Prop :=∀ (whole:Sem Value) (Z9:List (Addr×Obj)) (s:Shared) (U:St) (H:Hp) (Q:Bool->Hp->Prop),Inv X Z9 U H s->t U H Q->wpAny (model X.prog X.w) X.A (isTrue e X.env whole) (TP X Z9 U Q) X.xe s
def PA (X:Cx)(es:List Expr)(t:TA):Prop :=∀ (pos:Pos) (Z9:List (Addr×Obj)) (s:Shared) (U:St) (H:Hp) (Q:List V->Hp->Prop),Inv X Z9 U H s->t U H Q->wpAny (model X.prog X.w) X.A (spliced (backTo pos (starEach es X.env))) (AP X Z9 U Q) X.xe s
def PS (X:Cx)(st:Stmt)(t:TS):Prop :=∀ (Z9:List (Addr×Obj)) (s:Shared) (U:St) (H:Hp) (D:Ends),Inv X Z9 U H s->t D U H->wpAny (model X.prog X.w) X.A (exec st X.env) (SP X Z9 D) X.xe s
def Xw (X:Cx)(st:List Stmt)(t:TS):Prop :=∀ (Z9:List (Addr×Obj)) (s:Shared) (U:St) (H:Hp) (D:Ends),Inv X Z9 U H s->t D U H->wpAny (model X.prog X.w) X.A (execs st X.env) (SP X Z9 D) X.xe s
def Z2 {α:Type}{t:Sem α}{Q Q':α->Shared->Prop}{M:Model}{A:Around}{E:Value->Shared->Prop}{s:Shared}(h:wpAny M A t Q E s)(hQ:∀ a s,Q a s->Q' a s):wpAny M A t Q' E s:=wpAny_mono h hQ fun _ _ x=>x
section
variable {X:Cx}
def v7 (i:Nat):TE:=fun U H Q=>∃ v,U[i]?=some (some v)/\Q v H
def tC (v:V):TE:=fun _ H Q=>Q v H
def cX {i:Nat}{x:Str}{pos:Pos}(hN:X.N[i]?=some x)(hv:Vis X.env.scope x)(hd:autoParam ((x==("__debug__":Str))=false) zR)(hcd:autoParam ((x==("__classdict__":Str))=false) zR):PE X (.Name x pos) (v7 i):=by
 intro Z9 s U H Q I h;obtain⟨v,e,h⟩:=h;obtain⟨m,hn,hl⟩:=I.loc;obtain⟨u,r,l⟩:=hl i x v hN e hv;have fin:EP X Z9 U Q u s:=⟨v,H,I,r,h⟩
 rcases l with⟨hk,hm⟩|⟨hk,c,hc,hcell⟩
 ·exact wpAny_Name (wpAny_loadName_local I.ok.kind hk hn hm fin) hd
 ·rcases hk with hk|hk
  ·exact wpAny_Name (wpAny_loadName_cell I.ok.kind hk hc hcell fin) hd
  ·exact wpAny_Name (wpAny_loadName_free I.ok.kind hk hc hcell fin hcd) hd
def Br {i j pos}:PE X (.Constant (.int i) j pos) (tC (.int i)):=fun _ _ _ H _ I h=>wpAny_Constant_int ⟨.int i,H,I.tok _,⟨_,rfl⟩,h⟩
def jE {b j pos}:PE X (.Constant (.bool b) j pos) (tC (.bl b)):=fun _ _ _ H _ I h=>Constant_bool ⟨.bl b,H,I,rfl,h⟩
def jB {j pos}:PE X (.Constant .none j pos) (tC .non):=fun _ _ _ H _ I h=>Constant_none ⟨.non,H,I,rfl,h⟩
def eO {x j pos}:PE X (.Constant (.str x) j pos) (tC (.str x)):=fun _ _ _ H _ I h=>Calls.Constant_str ⟨.str x,H,I.tok _,⟨_,rfl⟩,h⟩
def Gl (X:Cx)(x:Str):Prop:=X.env.kindOf x=some .globalImplicit
def Ql {E:Value->Shared->Prop}{u:Value}{pos:Pos}{Q:Value->Shared->Prop}(I:Inv X Z9 U H s)(hg:Gl X x)(hm:X.mg x=some u)(h:Q u s)(hd:autoParam ((x==("__debug__":Str))=false) zR):wpAny (model X.prog X.w) X.A (eval (.Name x pos) X.env) Q E s :=Calls.Name_function_global I.ok.kind hg (Calls.loadGlobal_global (by rw[I.ok.glob];exact I.mod.glob.keeps I.bk) hm h) hd
def Ua {E:Value->Shared->Prop}{u:Value}{pos:Pos}{Q:Value->Shared->Prop}(I:Inv X Z9 U H s)(hg:Gl X x)(hm:X.mg x=none)(hv:bootBuiltins x=some u)(h:Q u s)(hn:autoParam (x≠"__name__") zR)(hd:autoParam ((x==("__debug__":Str))=false) zR):wpAny (model X.prog X.w) X.A (eval (.Name x pos) X.env) Q E s:=by obtain⟨mb,h1,h2⟩:=I.mod.blt;exact Calls.Name_function_global I.ok.kind hg (Calls.loadGlobal_builtin (by rw[I.ok.glob];exact I.mod.glob.keeps I.bk) hm (by rw[I.ok.blt];exact h1.keeps I.bk) ((h2 x hn).trans hv) h) hd
def su {u:Value}{pos:Pos}(hg:Gl X x)(hm:X.mg x=some u)(r:RelV v u)(hd:autoParam ((x==("__debug__":Str))=false) zR):PE X (.Name x pos) (tC v) :=fun _ _ _ H _ I h=>Ql I hg hm ⟨v,H,I,r,h⟩ hd
def zrf {u:Value}{pos:Pos}(hg:Gl X x)(hm:X.mg x=none)(hv:bootBuiltins x=some u)(r:RelV v u)(hn:autoParam (x≠"__name__") zR)(hd:autoParam ((x==("__debug__":Str))=false) zR):PE X (.Name x pos) (tC v) :=fun _ _ _ H _ I h=>Ua I hg hm hv ⟨v,H,I,r,h⟩ hn hd
variable {a b:Expr}{ta tb:TE}{pos:Pos}
def PC (X:Cx)(op:CmpOp)(a b:Expr)(t:TE):Prop :=
 ∀ (Z9:List (Addr×Obj)) (s:Shared) (U:St) (H:Hp) (Q:VK),Inv X Z9 U H s->t U H Q ->
  wpAny (model X.prog X.w) X.A (eval a X.env) (fun v s₁=>wpAny (model X.prog X.w) X.A (eval b X.env) (fun u s₂=>wpAny (model X.prog X.w) X.A (compareOp op v u) (EP X Z9 U Q) X.xe s₂) X.xe s₁) X.xe s
def tB (t:TE):TT:=fun U H Q=>t U H fun x H1=>∃ c,x=.bl c/\Q c H1
def yX {t:TE}(h:PC X op a b t)(h1:autoParam (behindInMarks op b=false) yP):PE X (.Compare a [op] [b] pos) t:=fun Z9 s U H Q I hw=>wpAny_Compare1 (h Z9 s U H Q I hw) h1
def yW {t:TE}(h:PC X op a b t)(h1:autoParam (behindInMarks op b=false) yP):PT X (.Compare a [op] [b] pos) (tB t):=by intro Z9 s U H Q I hw;refine wpAny_isTrue_Compare1 (Z2 (h Z9 s U H _ I hw) fun v s1 h1=>Z2 h1 fun u s2 h2=>Z2 h2 fun c s3 ⟨x,H1,I1,r1,q1⟩=>?_) h1;obtain⟨d,rfl,q⟩:=q1;cases r1;exact wpAny_truthy_bool ⟨H1,I1,q⟩
def eY {e:Expr}{t:TE}(h:PE X e t)(he:autoParam (∀ whole,isTrue e X.env whole=(do let v <- whole;standAt e.pos;holding [v] (truthy v))) Qv):PT X e (tB t):=by intro Z9 s U H Q I hw;refine isTrue_plain (Z2 (h Z9 s U H _ I hw) fun v s1 ⟨x,H1,I1,r1,q1⟩=>?_) (he _);obtain⟨d,rfl,q⟩:=q1;cases r1;exact wpAny_truthy_bool ⟨H1,I1,q⟩
variable {tA tB':TT}{rest:List Expr}
def lH (t u:TT):TT:=fun U H Q=>t U H fun c H1=>if c=true then u U H1 Q else Q false H1
def aV (t u:TT):TT:=fun U H Q=>t U H fun c H1=>if c=true then Q true H1 else u U H1 Q
def lV (t:TT):TT:=fun U H Q=>t U H fun c H1=>Q (!c) H1
def zqr (ha:PT X a tA):PW X (.BoolOp .And [a] pos) tA:=by
 intro wh Z9 s U H Q I h;refine isTrue_and (Z2 (ha Z9 s U H Q I h) fun c s1 e=>?_);cases c with
 |true=>exact isTrue_and_nil e
 |false=>exact e
def d8 (ha:PT X a tA):PW X (.BoolOp .Or [a] pos) tA:=by
 intro wh Z9 s U H Q I h;refine isTrue_or (Z2 (ha Z9 s U H Q I h) fun c s1 e=>?_);cases c with
 |false=>exact isTrue_or_nil e
 |true=>exact e
def zvG (ha:PT X a tA)(hb:PW X (.BoolOp .And (b::rest) pos) tB'):PW X (.BoolOp .And (a::b::rest) pos) (lH tA tB'):=by
 intro wh Z9 s U H Q I h;refine isTrue_and (Z2 (ha Z9 s U H _ I h) fun c s1 ⟨H1,I1,q1⟩=>?_);cases c with
 |true=>exact hb wh Z9 s1 U H1 Q I1 q1
 |false=>exact⟨H1,I1,q1⟩
def gM (ha:PT X a tA)(hb:PW X (.BoolOp .Or (b::rest) pos) tB'):PW X (.BoolOp .Or (a::b::rest) pos) (aV tA tB'):=by
 intro wh Z9 s U H Q I h;refine isTrue_or (Z2 (ha Z9 s U H _ I h) fun c s1 ⟨H1,I1,q1⟩=>?_);cases c with
 |true=>exact⟨H1,I1,q1⟩
 |false=>exact hb wh Z9 s1 U H1 Q I1 q1
def j6 (ha:PT X a tA):PT X (.UnaryOp .Not a pos) (lV tA):=by intro Z9 s U H Q I h;exact isTrue_not (ha Z9 s U H (fun c H1=>Q (!c) H1) I h)
def è (ta tb:TE):TE:=fun U H Q=>ta U H fun x H1=>∃ c,x=.bl c/\if c=true then tb U H1 Q else Q (.bl false) H1
def Ğ (ta tb:TE):TE:=fun U H Q=>ta U H fun x H1=>∃ c,x=.bl c/\if c=true then Q (.bl true) H1 else tb U H1 Q
def lG (ta:TE):TE:=fun U H Q=>ta U H fun x H1=>∃ c,x=.bl c/\Q (.bl (!c)) H1
def bO {op}{t:TE}(h:PE X a t):PE X (.BoolOp op [a] pos) t:=fun Z9 s U H Q I hw=>BoolOp_one (h Z9 s U H Q I hw)
def iD (ha:PE X a ta)(hb:PE X (.BoolOp .And (b::rest) pos) tb):PE X (.BoolOp .And (a::b::rest) pos) (è ta tb):=by
 intro Z9 s U H Q I h;refine BoolOp_and (Z2 (ha Z9 s U H _ I h) fun v s1 ⟨x,H1,I1,r1,q1⟩=>?_);obtain⟨c,rfl,q1⟩:=q1;cases r1;refine wpAny_truthy_bool ?_;cases c with
 |true=>exact hb Z9 s1 U H1 Q I1 q1
 |false=>exact⟨.bl false,H1,I1,rfl,q1⟩
def ŏ (ha:PE X a ta)(hb:PE X (.BoolOp .Or (b::rest) pos) tb):PE X (.BoolOp .Or (a::b::rest) pos) (Ğ ta tb):=by
 intro Z9 s U H Q I h;refine BoolOp_or (Z2 (ha Z9 s U H _ I h) fun v s1 ⟨x,H1,I1,r1,q1⟩=>?_);obtain⟨c,rfl,q1⟩:=q1;cases r1;refine wpAny_truthy_bool ?_;cases c with
 |false=>exact hb Z9 s1 U H1 Q I1 q1
 |true=>exact⟨.bl true,H1,I1,rfl,q1⟩
def ju (ha:PE X a ta):PE X (.UnaryOp .Not a pos) (lG ta):=by intro Z9 s U H Q I h;refine UnaryOp_ (Z2 (ha Z9 s U H _ I h) fun v s1 ⟨x,H1,I1,r1,q1⟩=>?_);obtain⟨c,rfl,q1⟩:=q1;cases r1;exact not_of (wpAny_truthy_bool ⟨.bl (!c),H1,I1,rfl,q1⟩)
def tIf (t:TT)(ta tb:TE):TE:=fun U H Q=>t U H fun c H1=>if c=true then ta U H1 Q else tb U H1 Q
def cZ (hc:PT X c tA)(ha:PE X a ta)(hb:PE X b tb):PE X (.IfExp c a b pos) (tIf tA ta tb):=by
 intro Z9 s U H Q I h;refine wpAny_IfExp (Z2 (hc Z9 s U H _ I h) fun d s1 ⟨H1,I1,q1⟩=>?_);cases d with
 |true=>exact ha Z9 s1 U H1 Q I1 q1
 |false=>exact hb Z9 s1 U H1 Q I1 q1
end
def ZC (K:PySem.W.Frag)(H:Hp)(a:Addr)(xs:List V):Prop :=
 Rd H a (.lst xs) \/
  ∃ (o:Obj) (its:Array Value) (n:Nat),K.lookup a=some o/\o.cls=.type "list"/\o.dict=none/\o.data=.seq its n/\its.size<=sizeLine/\Vals xs its.toList
def ZM (K:PySem.W.Frag)(H:Hp)(a:Addr)(xs:List V):Prop :=
 Rd H a (.tup xs) \/
  ∃ (o:Obj) (its:Array Value) (n:Nat),K.lookup a=some o/\o.cls=.type "tuple"/\o.data=.seq its n/\its.size<=sizeLine/\Vals xs its.toList
def Õ:Value->Option V
 |.none=>some .non
 |.bool b=>some (.bl b)
 |.int i _=>some (.int i)
 |.str x _=>some (.str x)
 |.bytes b _=>some (.byt b)
 |.float b _=>some (.flt b)
 |.ref a=>some (.ref a)
 |.type n=>some (.ty n)
 |_=>none
def RelV.abs (r:RelV x u):Õ u=some x:=by
 cases x with
 |non=>cases r;rfl
 |bl _=>cases r;rfl
 |int _=>obtain⟨t,rfl⟩:=r;rfl
 |str _=>obtain⟨t,rfl⟩:=r;rfl
 |byt _=>obtain⟨t,rfl⟩:=r;rfl
 |flt _=>obtain⟨t,rfl⟩:=r;rfl
 |ref _=>cases r;rfl
 |ty _=>cases r;rfl
def RelV.inj (r:RelV x u)(q:RelV y u):x=y:=qF (r.abs.symm.trans q.abs)
theorem Vals.inj:∀ {xs ys:List V} {us:List Value},Vals xs us->Vals ys us->xs=ys
 |_,_,_,.nil,.nil=>rfl
 |_,_,_,.cons r t,.cons r' t'=>by rw[r.inj r',Vals.inj t t']
section
variable {X:Cx}{Z9:List (Addr×Obj)}{U:St}{H:Hp}{s:Shared}{a:Addr}{xs ys:List V}
def ZC.of {K:PySem.W.Frag}(h:H a=some (.lst xs)):ZC K H a xs:=.inl (.inl h)
def ZM.of {K:PySem.W.Frag}(h:H a=some (.tup xs)):ZM K H a xs:=.inl (.inl h)
def Inv.list (I:Inv X Z9 U H s)(h:ZC X.K H a xs):∃ its:List Value,Vals xs its/\PlainL s.heap a its.toArray/\xs.length<=sizeLine:=by
 rcases h with h|⟨o,its,n,hk,hc,hd,hs,hz,r⟩
 ·obtain⟨z,its,n,r,e⟩:=h.ok I.hok;exact⟨its,r,⟨_,n,e,rfl,rfl,rfl⟩,z⟩
 ·refine⟨its.toList,r,⟨o,n,I.kIn a o hk,hc,hd,by simpa using hs⟩,?_⟩;have e:=r.length;simp only[Va]at e;lia
def Inv.tuple (I:Inv X Z9 U H s)(h:ZM X.K H a xs):∃ its:List Value,Vals xs its/\IsTup s.heap a its.toArray/\xs.length<=sizeLine:=by
 rcases h with h|⟨o,its,n,hk,hc,hs,hz,r⟩
 ·obtain⟨z,its,r,p⟩:=h.ok I.hok;exact⟨its,r,p,z⟩
 ·refine⟨its.toList,r,⟨o,I.kIn a o hk,hc,n,by simpa using hs⟩,?_⟩;have e:=r.length;simp only[Va]at e;lia
def Inv.list_inj (I:Inv X Z9 U H s)(h:ZC X.K H a xs)(h':ZC X.K H a ys):xs=ys:=by
 obtain⟨its,r,⟨o,n,e,_,_,d⟩,_⟩:=I.list h;obtain⟨its',r',⟨o',n',e',_,_,d'⟩,_⟩:=I.list h';rw[e]at e';cases e';rw[d]at d';injection d' with d1 _;have:its=its':=by simpa using congrArg Array.toList d1
 subst this;exact r.inj r'
def Inv.tuple_inj (I:Inv X Z9 U H s)(h:ZM X.K H a xs)(h':ZM X.K H a ys):xs=ys:=by
 obtain⟨its,r,⟨o,e,_,n,d⟩,_⟩:=I.tuple h;obtain⟨its',r',⟨o',e',_,n',d'⟩,_⟩:=I.tuple h';rw[e]at e';cases e';rw[d]at d';injection d' with d1 _;have:its=its':=by simpa using congrArg Array.toList d1
 subst this;exact r.inj r'
end
abbrev Cx.wish (X:Cx)(E:Value->Shared->Prop):Cx:={ X with xe:=E }
abbrev Cx.nox (X:Cx):Cx:=X.wish fun _ _=>False
theorem Cx.Ok.wish {X:Cx}(ok:X.Ok)(E:Value->Shared->Prop):(X.wish E).Ok :=⟨ok.mod,ok.kind,ok.glob,ok.blt,ok.above,ok.inj,ok.has,ok.cab,ok.hd,ok.frames,ok.stk,ok.exf,ok.bs,ok.bsz,ok.noex,ok.exfs,ok.funs,ok.frf⟩
def Cx.Ok.unwish {X:Cx}{E:Value->Shared->Prop}(ok:(X.wish E).Ok):X.Ok :=⟨ok.mod,ok.kind,ok.glob,ok.blt,ok.above,ok.inj,ok.has,ok.cab,ok.hd,ok.frames,ok.stk,ok.exf,ok.bs,ok.bsz,ok.noex,ok.exfs,ok.funs,ok.frf⟩
section
variable {X:Cx}{Z9:List (Addr×Obj)}{U:St}{H:Hp}{s:Shared}{E:Value->Shared->Prop}
theorem Inv.wish (I:Inv X Z9 U H s)(E:Value->Shared->Prop):Inv (X.wish E) Z9 U H s:=⟨I.ok.wish E,I.os,I.bare,I.base,I.loc,I.cell,I.free,I.freeC,I.pin,I.hok,I.len⟩
theorem Inv.unwish (I:Inv (X.wish E) Z9 U H s):Inv X Z9 U H s:=⟨I.ok.unwish,I.os,I.bare,I.base,I.loc,I.cell,I.free,I.freeC,I.pin,I.hok,I.len⟩
theorem SP.unwish {D:Ends}(h:SP (X.wish E) Z9 D f s'):SP X Z9 D f s':=by
 cases f with
 |next=>obtain⟨σ',H',I,q⟩:=h;exact⟨σ',H',I.unwish,q⟩
 |brk=>obtain⟨σ',H',I,q⟩:=h;exact⟨σ',H',I.unwish,q⟩
 |cont=>obtain⟨σ',H',I,q⟩:=h;exact⟨σ',H',I.unwish,q⟩
 |ret u=>obtain⟨v,σ',H',I,r,q⟩:=h;exact⟨v,σ',H',I.unwish,r,q⟩
theorem Xw.nox {st:List Stmt}{t:TS}(h:Xw X.nox st t):Xw X st t:=fun Z9 s U H D I hw =>wpAny_mono (h Z9 s U H D (I.wish _) hw) (fun _ _ q=>q.unwish) fun _ _ z=>False.elim z
end
section
variable {X:Cx}{st:Stmt}{rest:List Stmt}{t u:TS}{e:Expr}{te:TE}{pos:Pos}
def Ac:TS:=fun D U H=>D.nx U H
def zyo (t u:TS):TS:=fun D U H=>t { D with nx:=u D } U H
def Ι:Xw X [] Ac:=fun _ _ U H _ I h=>wpAny_execs_nil ⟨U,H,I,h⟩
def zo1 (h1:PS X st t)(h2:Xw X rest u):Xw X (st::rest) (zyo t u):=by
 intro Z9 s U H D I h;refine wpAny_execs_cons (Z2 (h1 Z9 s U H { D with nx:=u D } I h) fun f s1 q=>?_);cases f with
 |next =>obtain⟨σ',H',I',q⟩:=q;exact h2 Z9 s1 σ' H' D I' q
 |ret v=>exact q
 |brk=>exact q
 |cont=>exact q
def zsc (h1:PS X st t):Xw X [st] t:=by
 intro Z9 s U H D I h;refine wpAny_execs_cons (Z2 (h1 Z9 s U H D I h) fun f s1 q=>?_);cases f with
 |next=>exact wpAny_execs_nil q
 |ret v=>exact q
 |brk=>exact q
 |cont=>exact q
def ś:TS:=fun D U H=>D.bk U H
def cC:TS:=fun D U H=>D.ct U H
def iU:PS X (.Pass pos) Ac:=fun _ _ U H _ I h=>wpAny_Pass ⟨U,H,I,h⟩
def č:PS X (.Break pos) ś:=fun _ _ U H _ I h=>wpAny_Break ⟨U,H,I,h⟩
def Ð:PS X (.Continue pos) cC:=fun _ _ U H _ I h=>wpAny_Continue ⟨U,H,I,h⟩
def Inv.quiet (I:Inv X Z9 U H s):interactive X.env=false:=by simp[interactive,I.ok.kind]
def iT (te:TE):TS:=fun D U H=>te U H fun _ H1=>D.nx U H1
def zrM (he:PE X e te)(hs:autoParam (swapsWith e none pos.line X.env=pure false) zy):PS X (.Expr e pos) (iT te):=by intro Z9 s U H D I h;exact wpAny_Expr_any (Z2 (he Z9 s U H _ I h) fun v s1 zq1=>by obtain⟨x,H1,I1,r1,q1⟩:=zq1;exact⟨U,H1,I1,q1⟩) I.quiet hs
def Þ (te:TE):TS:=fun D U H=>te U H D.rt
def iz (he:PE X e te):PS X (.Return (some e) pos) (Þ te):=by intro Z9 s U H D I h;exact wpAny_Return_some (Z2 (he Z9 s U H _ I h) fun v s1 zq2=>by obtain⟨x,H1,I1,r1,q1⟩:=zq2;exact⟨x,U,H1,I1,r1,q1⟩)
def š (c:TT)(t u:TS):TS:=fun D U H=>c U H fun b H1=>if b=true then t D U H1 else u D U H1
def zv9 (hc:PT X c tc)(ha:Xw X a t)(hb:Xw X b u):PS X (.If c a b pos) (š tc t u):=by
 intro Z9 s U H D I h;refine wpAny_If (Z2 (hc Z9 s U H _ I h) fun d s1 ⟨H1,I1,q1⟩=>?_);cases d with
 |true=>exact ha Z9 s1 U H1 D I1 q1
 |false=>exact hb Z9 s1 U H1 D I1 q1
def zte:TS:=fun _ _ _=>False
def zoe:PS X st zte:=fun _ _ _ _ _ _ h=>h.elim
end
abbrev TG:=V->St->Hp->(St->Hp->Prop)->Prop
abbrev Ra:=List V->St->Hp->(St->Hp->Prop)->Prop
def PG (X:Cx)(target:Expr)(t:TG):Prop :=
 ∀ (Z9:List (Addr×Obj)) (s:Shared) (U:St) (H:Hp) (v:V) (u:Value) (Q:St->Hp->Prop),Inv X Z9 U H s->RelV v u->t v U H Q ->
  wpAny (model X.prog X.w) X.A (assign target X.env u) (fun _ s'=>∃ σ' H',Inv X Z9 σ' H' s'/\Q σ' H') X.xe s
def K4 (X:Cx)(ts:List Expr)(t:Ra):Prop :=
 ∀ (Z9:List (Addr×Obj)) (s:Shared) (U:St) (H:Hp) (vs:List V) (us:List Value) (Q:St->Hp->Prop),Inv X Z9 U H s->Vals vs us->t vs U H Q ->
  wpAny (model X.prog X.w) X.A (assignInOrder ((assignEach ts X.env).map (·.2)) us) (fun _ s'=>∃ σ' H',Inv X Z9 σ' H' s'/\Q σ' H') X.xe s
abbrev Dj:=V->V->V->Hp->(Hp->Prop)->Prop
def rT (X:Cx)(t:Dj):Prop :=
 ∀ (Z9:List (Addr×Obj)) (s:Shared) (U:St) (H:Hp) (o i v:V) (ov iv u:Value) (Q:Hp->Prop),Inv X Z9 U H s->RelV o ov->RelV i iv->RelV v u->t o i v H Q ->
  wpAny (model X.prog X.w) X.A (setItem ov iv u) (fun _ s'=>∃ H',Inv X Z9 U H' s'/\Q H') X.xe s
abbrev FJ:=V->V->Hp->VK->Prop
def wB (X:Cx)(op:Operator)(t:FJ):Prop :=
 ∀ (Z9:List (Addr×Obj)) (s:Shared) (U:St) (H:Hp) (x y:V) (v u:Value) (Q:VK),Inv X Z9 U H s->RelV x v->RelV y u->t x y H Q ->
  wpAny (model X.prog X.w) X.A (inplaceOp op v u) (EP X Z9 U Q) X.xe s
section
variable {X:Cx}{pos:Pos}
def zT (i:Nat):TG:=fun v U H Q=>Q (U.set i (some v)) H
def zrn {i:Nat}{x:Str}(hN:X.N.Nodup)(hi:X.N[i]?=some x)(hx:Loc X.env.scope x)(hf:autoParam (X.fn x=true\/X.env.scope.names.lookup x=some .local) QH):PG X (.Name x pos) (zT i):=by intro Z9 s U H v u Q I r h;exact wpAny_assign_Name (Gh I hN hi hx r (fun s' I'=>⟨_,H,I',h⟩) hf)
def YM:Ra:=fun vs U H Q=>vs=[]/\Q U H
def zF (t:TG)(u:Ra):Ra:=fun vs U H Q=>∃ v r,vs=v::r/\t v U H fun σ' H'=>u r σ' H' Q
def bw:K4 X [] YM:=by intro Z9 s U H vs us Q I r h;obtain⟨e,h⟩:=h;subst e;cases r;exact assignInOrder_nil ⟨U,H,I,h⟩
def cR {e:Expr}{t:TG}(h1:PG X e t)(h2:K4 X es u)(hs:autoParam ((assignEach (e::es) X.env).map (·.2)=assign e X.env::(assignEach es X.env).map (·.2)) zy):K4 X (e::es) (zF t u):=by
 intro Z9 s U H vs us Q I r h;obtain⟨v,vr,e1,h⟩:=h;subst e1;cases r with
 |cons r rr =>rw[hs];refine assignInOrder_cons (Z2 (h1 Z9 s U H _ _ _ I r h) fun _ s1 ⟨σ1,H1,I1,q1⟩=>?_);exact h2 Z9 s1 σ1 H1 _ _ Q I1 rr q1
def YH (K:PySem.W.Frag)(n:Nat)(t:Ra):TG:=fun v U H Q=>∃ a xs,v=.ref a/\ZM K H a xs/\xs.length=n/\t xs U H Q
def zta {k:Nat}{t:Ra}{n:Nat}(hc:X.calm=true)(h:K4 X es t)(hn:autoParam ((assignEach es X.env).length=n) zy)(hst:autoParam ((assignEach es X.env).findIdx? (·.1)=none) zy):PG X (.Tuple es k pos) (YH X.K n t):=by
 intro Z9 s U H v u Q I r hw;obtain⟨a,xs,e1,hq,hl,hw⟩:=hw;subst e1;cases r;obtain⟨its,rv,ht,hz⟩:=I.tuple hq;refine assign_Tuple_tuple (I.ok.hd hc) ht (by simp[hn,<- hl,rv.length]) hst fun h' hx=>?_
 have I1:Inv X Z9 U H { s with heap:=h' }:=I.kept (t':=s.toks) fun b o e=>hx b o (qV (qC e)) e
 exact h Z9 _ U H xs _ Q I1 (by simpa using rv) hw
def Qi (to ti:TE)(t:Dj):TG:=fun v U H Q=>to U H fun o H1=>ti U H1 fun i H2=>t o i v H2 fun H3=>Q U H3
def ë {t:Dj}(ho:PE X o to)(hi:PE X i ti)(hs:rT X t)(ha:∀ v,assign (.Subscript o i pos) X.env v=(do
   let ov <- holding [v] (eval o X.env);let iv <- holding [v,ov] (eval i X.env)
   standAt pos
   holding [v,ov,iv] (setItem ov iv v)
   release [v,ov,iv] []):=by intro _;rfl):PG X (.Subscript o i pos) (Qi to ti t):=by
 intro Z9 s U H v u Q I r h;rw[ha];refine wpAny_bind (wpAny_holding (Z2 (ho Z9 s U H _ I h) fun ov s1 ⟨x,H1,I1,r1,q1⟩=>?_));refine wpAny_bind (wpAny_holding (Z2 (hi Z9 s1 U H1 _ I1 q1) fun iv s2 ⟨y,H2,I2,r2,q2⟩=>?_));refine wpAny_bind (wpAny_standAt (wpAny_bind (wpAny_holding (Z2 (hs Z9 s2 U H2 x y v ov iv u _ I2 r1 r2 r q2) fun _ s3 ⟨H3,I3,q3⟩=>?_))));exact wpAny_release ⟨U,H3,I3,q3⟩
def Dm (te:TE)(g:TG):TS:=fun D U H=>te U H fun x H1=>g x U H1 D.nx
def ztb {e:Expr}(he:PE X e te)(hg:PG X tg g)(hs:autoParam (swapsWithSole [tg] e pos.line X.env=pure false) zy)(hw:autoParam (swappedStores [tg] e X.env=pure none) zy)(h1:autoParam ((assignEach [tg] X.env).map (·.2)=[assign tg X.env]) zy):PS X (.Assign [tg] e pos) (Dm te g):=by intro Z9 s U H D I h;refine wpAny_Assign_stores (Z2 (he Z9 s U H _ I h) fun v s1 ⟨x,H1,I1,r1,q1⟩=>?_) hs hw;rw[h1];exact Z2 (hg Z9 s1 U H1 x v _ I1 r1 q1) fun _ s2 q=>q
def ę {i:Nat}{x:Str}{e:Expr}{pos':Pos}(hN:X.N.Nodup)(hi:X.N[i]?=some x)(hx:Loc X.env.scope x)(he:PE X e te)(hs:autoParam (swapsWith e (some (.Name x pos')) pos.line X.env=pure false) zy)(hf:autoParam (X.fn x=true\/X.env.scope.names.lookup x=some .local) QH) :
  PS X (.Assign [.Name x pos'] e pos) (Dm te (zT i)):=by
 intro Z9 s U H D I h;refine wpAny_Assign_Name (Z2 (he Z9 s U H _ I h) fun v s1 ⟨y,H1,I1,r1,q1⟩=>?_) hs;exact Gh I1 hN hi hx r1 (fun s2 I2=>⟨_,H1,I2,q1⟩) hf
def ō (i:Nat)(te:TE)(ti:FJ):TS:=fun D U H=>∃ x,U[i]?=some (some x)/\te U H fun y H1=>ti x y H1 fun z H2=>D.nx (U.set i (some z)) H2
def zt8 {i:Nat}{x:Str}{e:Expr}{pos':Pos}(hN:X.N.Nodup)(hi:X.N[i]?=some x)(hx:Loc X.env.scope x)(he:PE X e te)(ho:wB X op ti)(hf:autoParam (X.fn x=true\/X.env.scope.names.lookup x=some .local) QH) :
  PS X (.AugAssign (.Name x pos') op e pos) (ō i te ti):=by
 intro Z9 s U H D I h;obtain⟨v,e1,h⟩:=h;obtain⟨m,hn,hl⟩:=I.loc;have vis:Vis X.env.scope x:=by rcases hx with k|k;exact .inl k;exact .inr (.inl k)
 obtain⟨u,r,l⟩:=hl i x v hi e1 vis;refine wpAny_AugAssign_Name ?_
 have go:wpAny (model X.prog X.w) X.A (eval e X.env) (fun w s₂=>wpAny (model X.prog X.w) X.A (inplaceOp op u w) (fun r s₃=>wpAny (model X.prog X.w) X.A (storeName X.env x r) (fun _=>SP X Z9 D .next) X.xe s₃) X.xe s₂) X.xe s:=by
  refine Z2 (he Z9 s U H _ I h) fun w s1 ⟨y,H1,I1,r1,q1⟩=>?_
  refine Z2 (ho Z9 s1 U H1 v y u w _ I1 r r1 q1) fun z s2 ⟨zv,H2,I2,r2,q2⟩=>?_
  exact Gh I2 hN hi hx r2 (fun s3 I3=>⟨_,H2,I3,q2⟩) hf
 rcases l with⟨hk,hm⟩|⟨hk,c,hc,hcell⟩
 ·exact wpAny_loadName_local I.ok.kind hk hn hm go
 ·rcases hk with hk|hk
  ·exact wpAny_loadName_cell I.ok.kind hk hc hcell go
  ·rcases hx with k|k
   ·have:X.env.scope.names.lookup x=some .free:=hk;rw[k]at this;cases this
   ·have:X.env.scope.names.lookup x=some .free:=hk;rw[k]at this;cases this
def Û (f:Int->Int->Int):FJ:=fun x y H Q=>∃ i j,x=.int i/\y=.int j/\Q (.int (f i j)) H
def zty:wB X .Add (Û fun i j=>i+j):=by intro Z9 s U H x y v u Q I r1 r2 h;obtain⟨i,j,e1,e2,q⟩:=h;subst e1;subst e2;obtain⟨t,rfl⟩:=r1;obtain⟨t',rfl⟩:=r2;exact iadd_int ⟨.int _,H,I.tok _,⟨_,rfl⟩,q⟩
end
section
variable {X:Cx}{pos:Pos}
def zsT (c:TT)(tb:TS):TS:=fun D U H=>∃ W:Nat->St->Hp->Prop,(∃ m,W m U H)/\∀ m U H,W m U H ->
 c U H fun b H1=>if b=true then ∃ N:St->Hp->Prop,(∀ σ' H',N σ' H'->∃ m',m'<m/\W m' σ' H')/\tb { D with nx:=N,ct:=N,bk:=D.nx } U H1 else D.nx U H1
def Κ (hp:PassesOwn (model X.prog X.w) X.A X.env X.xe)(hc:PT X c tc)(hb:Xw X body tb):PS X (.While c body [] pos) (zsT tc tb):=by
 intro Z9 s U H D I h;obtain⟨W,⟨m0,w0⟩,turn⟩:=h;refine wpAny_While (codeAny_whileLoop (fun n s'=>∃ σ' H',Inv X Z9 σ' H' s'/\W n σ' H') ?_ m0 ⟨U,H,I,w0⟩);rintro n s1 ⟨σ1,H1,I1,w1⟩;refine wpAny_passesOwn hp (Z2 (hc Z9 s1 σ1 H1 _ I1 (turn n σ1 H1 w1)) fun b s2 ⟨H2,I2,q2⟩=>?_);cases b with
 |true =>
  obtain⟨N,hN,q2⟩:=q2;rw[if_pos rfl];refine wpAny_passesOwn hp (Z2 (hb Z9 s2 σ1 H2 _ I2 q2) fun f s3 q3=>?_);cases f with
  |next =>obtain⟨σ3,H3,I3,n3⟩:=q3;obtain⟨m',hm,w3⟩:=hN σ3 H3 n3;exact⟨m',hm,σ3,H3,I3,w3⟩
  |cont =>obtain⟨σ3,H3,I3,n3⟩:=q3;obtain⟨m',hm,w3⟩:=hN σ3 H3 n3;exact⟨m',hm,σ3,H3,I3,w3⟩
  |brk=>exact q3
  |ret v=>exact q3
 |false =>rw[if_neg qr];exact wpAny_execs_nil ⟨σ1,H2,I2,q2⟩
end
structure It where
 go:Nat->Hp->Prop
 yld:Nat->Hp->V->Hp->Prop
 stop:Nat->Hp->Prop
def Vx (X:Cx)(Z9:List (Addr×Obj))(H:Hp)(b:Addr):Prop :=H b=none/\b≠X.env.locals/\b∉X.fs/\(b∈X.ex\/X.s₀.heap.objs.size<=b)/\(∀ x c,X.env.cells.lookup x=some c->c≠b)/\∀ p∈X.pn++Z9,p.1≠b
def Inv.fpOk {H':Hp}{b:Addr}(I:Inv X Z9 U H s)(hb:s.heap.objs.size<=b)(hn:H' b=none):Vx X Z9 H' b:=by
 refine⟨hn,Wu (qE I.lt hb),I.nofs hb,.inr (qW I.sz hb),fun x c e z=>?_,fun p hp z=>?_⟩
 ·obtain⟨v,q⟩:=I.cell x c e;exact absurd (qE q.lt (by rw[z];exact hb)) (Xz _)
 ·exact absurd (qE (qC (I.pin p hp).1) (by rw[z];exact hb)) (Xz _)
structure Turn (P:Program)(w:World)(K:PySem.W.Frag)(tg:Expr)(J:It)(fp:List Addr)(it:Addr)(tn:Nat->Heap->Prop):Prop where
 mem:it∈fp
 obj:∀ i h,tn i h->∀ b∈fp,∃ o,h.get? b=some o/\∀ v,o.data≠.cell v
 keep:∀ i h h',tn i h->(∀ b∈fp,∀ o,h.get? b=some o->h'.get? b=some o)->tn i h'
 item:∀ (X:Cx),X.prog=P->X.w=w->X.K=K->X.calm=true->∀ (i:Nat) (Z9:List (Addr×Obj)) (s:Shared) (U:St) (H:Hp) (E:Value->Shared->Prop),Inv X Z9 U H s->(∀ b∈fp,Vx X Z9 H b)->tn i s.heap->J.go i H ->
  wpAny (model P w) X.A (pyNext (.ref it)) (fun r s1=>∃ u,r=some u /\
   wpAny (model P w) X.A (letOwnedTupleGo tg (.ref it) u) (fun _ s2=>∃ x H',Inv X Z9 U H' s2/\RelV x u/\J.yld i H x H'/\tn (i+1) s2.heap/\∀ b∈fp,H' b=none) E s1) E s
 done:∀ (X:Cx),X.prog=P->X.w=w->X.K=K->X.calm=true->∀ (i:Nat) (Z9:List (Addr×Obj)) (s:Shared) (U:St) (H:Hp) (E:Value->Shared->Prop),Inv X Z9 U H s->(∀ b∈fp,Vx X Z9 H b)->tn i s.heap->J.stop i H ->
  wpAny (model P w) X.A (pyNext (.ref it)) (fun r s1=>r=none/\Inv X Z9 U H s1) E s
 self:∀ (A:Around) (i:Nat) (s:Shared) (Q:Value->Shared->Prop) (E:Value->Shared->Prop),tn i s.heap->Q (.ref it) s->wpAny (model P w) A (pyIter (.ref it)) Q E s
abbrev TI:=St->Hp->(It->Hp->Prop)->Prop
def PIE (X:Cx)(Z9:List (Addr×Obj))(U:St)(tg:Expr)(R:It->Hp->Prop)(itv:Value)(s2:Shared):Prop :=∃ (it:Addr) (fp:List Addr) (tn:Nat->Heap->Prop) (J:It) (H':Hp),itv=.ref it/\Inv X Z9 U H' s2/\Turn X.prog X.w X.K tg J fp it tn/\tn 0 s2.heap/\(∀ b∈fp,Vx X Z9 H' b)/\R J H'
def PI (X:Cx)(tg iter:Expr)(wi:TI):Prop :=
 ∀ (Z9:List (Addr×Obj)) (s:Shared) (U:St) (H:Hp) (R:It->Hp->Prop),Inv X Z9 U H s->wi U H R ->
  wpAny (model X.prog X.w) X.A (eval iter X.env) (fun v s1=>wpAny (model X.prog X.w) X.A (pyIter v) (PIE X Z9 U tg R) X.xe s1) X.xe s
def Qh {M:Model}{A:Around}{E:Value->Shared->Prop}{s:Shared}{tg:Expr}{it:Addr}{u:Value}{o:Obj}{n:String}{vs:Array Value}{Q:Unit->Shared->Prop}(ho:s.heap.get? it=some o)(hc:o.cls=.type n)(hd:o.data=.fields vs)
    (hn:["enumerate","zip","dict_itemiterator","dict_reverseitemiterator","odict_iterator","itertools.zip_longest","itertools.pairwise"].contains n=false) (hQ:Q () s):wpAny M A (letOwnedTupleGo tg (.ref it) u) Q E s:=by
  unfold letOwnedTupleGo
  cases tg<;>first
    |exact wpAny_pure hQ
    | (cases u <;> first
        |exact wpAny_pure hQ
        | (refine wpAny_bind (wpAny_load ho ?_)
           rw[hc,hd];show wpAny M A (if(["enumerate","zip","dict_itemiterator","dict_reverseitemiterator","odict_iterator","itertools.zip_longest","itertools.pairwise"].contains n&&vs[0]?==some (rawInt _))=true then _ else _) Q E s;rw[if_neg (by intro h;rw[hn,V5]at h;cases h)];exact wpAny_pure hQ))
def Ft (K:PySem.W.Frag)(a:Addr):It :=⟨fun i H=>∃ xs x,ZC K H a xs/\xs[i]?=some x,fun i H x H'=>H'=H/\∀ xs,ZC K H a xs->xs[i]?=some x,fun i H=>∃ xs,ZC K H a xs/\xs.length<=i⟩
def Cy (K:PySem.W.Frag)(a:Addr):It :=⟨fun i H=>∃ xs x,ZM K H a xs/\xs[i]?=some x,fun i H x H'=>H'=H/\∀ xs,ZM K H a xs->xs[i]?=some x,fun i H=>∃ xs,ZM K H a xs/\xs.length<=i⟩
def RL (lo:Int)(n:Nat):It:=⟨fun i _=>i<n,fun i H x H'=>H'=H/\x=.int (lo+i),fun i _=>n<=i⟩
def gB {P:Program}{w:World}{K:PySem.W.Frag}{tg:Expr}(a it:Addr):Turn P w K tg (Ft K a) [it] it (fun i h=>h.IsListIter it a i) where
 mem:=by simp
 obj:=fun i h st b hb=>by
  have e:b=it:=by simpa using hb
  subst e;obtain⟨o,e,c,d⟩:=st;exact⟨o,e,fun v z=>by rw[d]at z;cases z⟩
 keep:=fun i h h' st k=>st.at fun o e=>k it (by simp) o e
 item:=by
  intro X hP hw hK hc i Z9 s U H E I hf st hg;subst hP hw hK;obtain⟨xs,x,hq,hx⟩:=hg;obtain⟨its,rv,p,hz⟩:=I.list hq;obtain⟨u,hu,ru⟩:=rv.get hx;obtain⟨f0,f1,f2,f3,f4,f5⟩:=hf it (by simp);refine wpAny_pyNext_list_item st p.isList (x:=u) (by simpa using hu) fun h' st' sb=>?_
  have I1:Inv X Z9 U H { s with heap:=h' }:=I.turned (t':=s.toks) (fun b o hb e=>(sb.2 b hb).trans e) f0 f1 f3 f4 f5;obtain⟨o,e,c,d⟩:=id st';exact⟨u,rfl,Qh (s:={ s with heap:=h' }) e c d (by decide) ⟨x,H,I1,ru,⟨rfl,fun ys hy=>by rw[I.list_inj hy hq];exact hx⟩,st',fun b hb=>(hf b hb).1⟩⟩
 done:=by intro X hP hw hK hc i Z9 s U H E I hf st hg;subst hP hw hK;obtain⟨xs,hq,hx⟩:=hg;obtain⟨its,rv,p,hz⟩:=I.list hq;obtain⟨f0,f1,f2,f3,f4,f5⟩:=hf it (by simp);have hl:=rv.length;exact wpAny_pyNext_list_end (I.ok.hd hc) st p.isList (by simp;lia) fun h' eb=>⟨rfl,I.turned (t':=s.toks) (fun b o hb e=>eb b o hb e) f0 f1 f3 f4 f5⟩
 self:=fun _ _ _ _ _ st h=>wpAny_pyIter_listiter st h
def zlS {P:Program}{w:World}{K:PySem.W.Frag}{tg:Expr}(a it:Addr):Turn P w K tg (Cy K a) [it] it (fun i h=>h.IsTupleIter it a i) where
 mem:=by simp
 obj:=fun i h st b hb=>by
  have e:b=it:=by simpa using hb
  subst e;obtain⟨o,e,c,d⟩:=st;exact⟨o,e,fun v z=>by rw[d]at z;cases z⟩
 keep:=fun i h h' st k=>st.at fun o e=>k it (by simp) o e
 item:=by
  intro X hP hw hK hc i Z9 s U H E I hf st hg;subst hP hw hK;obtain⟨xs,x,hq,hx⟩:=hg;obtain⟨its,rv,p,hz⟩:=I.tuple hq;obtain⟨u,hu,ru⟩:=rv.get hx;obtain⟨f0,f1,f2,f3,f4,f5⟩:=hf it (by simp);refine wpAny_pyNext_tuple_item st (show s.heap.IsTuple a its.toArray from p) (x:=u) (by simpa using hu) fun h' st' sb=>?_
  have I1:Inv X Z9 U H { s with heap:=h' }:=I.turned (t':=s.toks) (fun b o hb e=>(sb.2 b hb).trans e) f0 f1 f3 f4 f5;obtain⟨o,e,c,d⟩:=id st';exact⟨u,rfl,Qh (s:={ s with heap:=h' }) e c d (by decide) ⟨x,H,I1,ru,⟨rfl,fun ys hy=>by rw[I.tuple_inj hy hq];exact hx⟩,st',fun b hb=>(hf b hb).1⟩⟩
 done:=by intro X hP hw hK hc i Z9 s U H E I hf st hg;subst hP hw hK;obtain⟨xs,hq,hx⟩:=hg;obtain⟨its,rv,p,hz⟩:=I.tuple hq;obtain⟨f0,f1,f2,f3,f4,f5⟩:=hf it (by simp);have hl:=rv.length;exact wpAny_pyNext_tuple_end (I.ok.hd hc) st (show s.heap.IsTuple a its.toArray from p) (by simp;lia) fun h' eb=>⟨rfl,I.turned (t':=s.toks) (fun b o hb e=>eb b o hb e) f0 f1 f3 f4 f5⟩
 self:=fun _ _ _ _ _ st h=>wpAny_pyIter_tupleiter st h
def yS {P:Program}{w:World}{K:PySem.W.Frag}{tg:Expr}(it:Addr)(lo:Int)(n:Nat):Turn P w K tg (RL lo n) [it] it (fun i h=>IsRangeIter h it (lo+(i:Nat)*1) ((n:Int)-(i:Nat)) 1) where
 mem:=by simp
 obj:=fun i h st b hb=>by
  have e:b=it:=by simpa using hb
  subst e
  exact⟨_,st,fun v z=>by have z':Data.fields _=Data.cell v:=z;cases z'⟩
 keep:=fun i h h' st k=>k it (by simp) _ st
 item:=by
  intro X hP hw hK hc i Z9 s U H E I hf st hg;subst hP hw hK;obtain⟨f0,f1,f2,f3,f4,f5⟩:=hf it (by simp);have W:=Walks.range (prog:=X.prog) (w:=X.w) (I.ok.hd hc) it lo 1 n;refine W.item i s _ _ hg st fun v h' tk hv st' kk=>?_
  obtain⟨t,rfl⟩:=hv;have I1:Inv X Z9 U H { s with heap:=h',toks:=tk }:=I.turned (fun b o hb e=>kk b o (by simpa using hb) e) f0 f1 f3 f4 f5;refine⟨_,rfl,Qh (s:={ s with heap:=h',toks:=tk }) (n:="range_iterator") st' rfl rfl (by decide) ⟨.int (lo+i),H,I1,⟨t,?_⟩,⟨rfl,rfl⟩,st',fun b hb=>(hf b hb).1⟩⟩;rw[Ud]
 done:=by intro X hP hw hK hc i Z9 s U H E I hf st hg;subst hP hw hK;obtain⟨f0,f1,f2,f3,f4,f5⟩:=hf it (by simp);exact wpAny_pyNext_range_end (I.ok.hd hc) st (by have:n<=i:=hg;lia) fun h' eb=>⟨rfl,I.turned (t':=s.toks) (fun b o hb e=>eb b o hb e) f0 f1 f3 f4 f5⟩
 self:=fun _ _ _ _ _ st h=>wpAny_pyIter_rangeiter st h
section
variable {X:Cx}{tg:Expr}
def zoo {R:It->Hp->Prop}{E:Value->Shared->Prop}{lo hi:Int}{t u v:Tok}{tk:Nat}(I:Inv X Z9 U H s)(h1:-(2 ^ 62)<=lo)(h2:lo<2 ^ 62)(h3:-(2 ^ 62)<=hi)(h4:hi<2 ^ 62)(q:R (RL lo (hi-lo).toNat) H):wpAny (model X.prog X.w) X.A (pyIter (.ref s.heap.objs.size)) (PIE X Z9 U tg R) E { s with heap:=s.heap.push { cls:=.type "range",data:=.fields #[.int lo t,.int hi u,.int 1 v] },toks:=tk }:=by
  refine wpAny_pyIter_range (IsRange.new ..) (small_one h1 h2 h3 h4) ?_;have I1:Inv X Z9 U H { s with heap:=s.heap.push { cls:=.type "range",data:=.fields #[.int lo t,.int hi u,.int 1 v] },toks:=tk }:=I.kept fun b o e=>qd _ e
  refine⟨(s.heap.push { cls:=.type "range",data:=.fields #[.int lo t,.int hi u,.int 1 v] }).objs.size,[(s.heap.push { cls:=.type "range",data:=.fields #[.int lo t,.int hi u,.int 1 v] }).objs.size],_,_,H,rfl,
    I1.kept (t':=tk) fun b o e=>qd _ e,yS _ lo (hi-lo).toNat,?_,fun b hb=>?_,q⟩
  . have e1:lo+((0:Nat):Int)*1=lo:=by simp
    have e2:(((hi-lo).toNat:Nat):Int)-((0:Nat):Int)=Builtin.Range.rangeSize lo hi 1:=by rw[rangeSize_one];split<;>lia
    show IsRangeIter _ _ (lo+((0:Nat):Int)*1) ((((hi-lo).toNat:Nat):Int)-((0:Nat):Int)) 1;rw[e1,e2];exact qq _ rfl
  . have e:b=(s.heap.push { cls:=.type "range",data:=.fields #[.int lo t,.int hi u,.int 1 v] }).objs.size:=by simpa using hb
    subst e;exact I1.fpOk (qh _) (I1.hok.fresh (qh _))
def RZ (ta:TA):TI:=fun U H R=>ta U H fun vs H1=>∃ j:Int,vs=[.int j]/\-(2 ^ 62)<=j/\j<2 ^ 62/\R (RL 0 j.toNat) H1
def Ų {a:Expr}{ta:TA}{p pos:Pos}(hg:Gl X "range")(hm:X.mg "range"=none)(ha:PA X [a] ta)(hs:autoParam (starEach [a] X.env=[(false,eval a X.env)]) zy):PI X tg (.Call (.Name "range" p) [a] [] pos) (RZ ta):=by
 intro Z9 s U H R I h;refine Call_ (Ua I hg hm boot_range (PyProof.Rows.callWith_type1 (Z2 (ha pos Z9 s U H _ I h) fun us s1 ⟨vs,H1,I1,r1,q1⟩=>?_) hs rfl));obtain⟨j,e,q1,q2,q⟩:=q1;subst e;cases r1 with
 |cons r rr =>cases rr;obtain⟨t,rfl⟩:=r;exact call_range_1 (zoo I1 (by lia) (by lia) q1 q2 (by simpa using q))
def á (wi:TI)(g:TG)(tb:TS):TS:=fun D U H=>wi U H fun J H1=>∃ W:Nat->Nat->St->Hp->Prop,(∃ m,W 0 m U H1)/\∀ i m U H,W i m U H ->
 (J.stop i H/\D.nx U H)\/(J.go i H/\∃ N:St->Hp->Prop,(∀ σ' H',N σ' H'->∃ m',m'<m/\W (i+1) m' σ' H')/\∀ x H',J.yld i H x H'->g x U H' fun σ2 H2=>tb { D with nx:=N,ct:=N,bk:=D.nx } σ2 H2)
def MJ (fp:List Addr)(h:Heap):List (Addr×Obj):=fp.filterMap fun b=>(h.get? b).map fun o=>(b,o)
def Ie {fp:List Addr}{h:Heap}{b:Addr}{o:Obj}(hb:b∈fp)(e:h.get? b=some o):(b,o)∈MJ fp h:=UW.mpr ⟨b,hb,by rw[e];rfl⟩
def π {fp:List Addr}{h:Heap}{p:Addr×Obj}(hp:p∈MJ fp h):p.1∈fp/\h.get? p.1=some p.2:=by
 obtain⟨b,hb,e⟩:=UW.mp hp;cases q:h.get? b with
 |none=>rw[q]at e;cases e
 |some o =>rw[q]at e;have e':(b,o)=p:=qF e;subst e';exact⟨hb,q⟩
def Inv.pinned {fp:List Addr}(I:Inv X Z9 U H s)(hf:∀ b∈fp,Vx X Z9 H b)(ho:∀ b∈fp,∃ o,s.heap.get? b=some o/\∀ v,o.data≠.cell v):Inv X (Z9++MJ fp s.heap) U H s :=
 I.pins_of fun p hp=>(qD.mp hp).elim (fun z=>I.pin p (qL _ z)) fun z=>by obtain⟨hb,e⟩:=π z;obtain⟨f0,f1,f2,_⟩:=hf p.1 hb;obtain⟨o,e',d⟩:=ho p.1 hb;rw[e]at e';cases e';exact⟨e,f0,f1,f2,d⟩
def Inv.unpinned {pl:List (Addr×Obj)}(I:Inv X (Z9++pl) U H s):Inv X Z9 U H s:=I.pins_of fun p hp=>I.pin p (qL _ (qX _ hp))
def dJ {pos:Pos}(hp:PassesOwn (model X.prog X.w) X.A X.env X.xe)(hc:X.calm=true)(hi:PI X tg iter wi)(hg:PG X tg g)(hb:Xw X body tb)(hs:autoParam (∀ x,foldedSetIterable iter X.env x=pure x) Qv):PS X (.For tg iter body [] pos) (á wi g tb):=by
 intro Z9 s U H D I h;refine wpAny_For (Z2 (hi Z9 s U H _ I h) fun v s1 h1=>Z2 h1 fun itv s2 h2=>?_) hs;obtain⟨it,fp,tn,J,H2,e,I2,T,st2,f2,W,⟨m0,w0⟩,turn⟩:=h2;subst e;have stat:∀ {H':Hp},(∀ b∈fp,H' b=none)->∀ b∈fp,Vx X Z9 H' b:=fun hn b hb=>⟨hn b hb,(f2 b hb).2⟩
 refine codeAny_forLoop_any (fun n s'=>∃ i σ' H',Inv X Z9 σ' H' s'/\tn i s'.heap/\(∀ b∈fp,H' b=none)/\W i n σ' H') ?_ m0 ⟨0,U,H2,I2,st2,fun b hb=>(f2 b hb).1,w0⟩;rintro n s3 ⟨i,σ3,H3,I3,st3,fr3,w3⟩;rcases turn i n σ3 H3 w3 with⟨stop,qn⟩|⟨go,N,hN,step⟩
 ·refine wpAny_passesOwn hp (Z2 (T.done X rfl rfl rfl hc i Z9 s3 σ3 H3 X.xe I3 (stat fr3) st3 stop) fun r s4 ⟨hr,I4⟩=>?_);subst hr;exact wpAny_execs_nil ⟨σ3,H3,I4,qn⟩
 ·refine wpAny_passesOwn hp (Z2 (T.item X rfl rfl rfl hc i Z9 s3 σ3 H3 X.xe I3 (stat fr3) st3 go) fun r s4 ⟨u,hr,h4⟩=>?_);subst hr;refine wpAny_passesOwn hp (Z2 h4 fun _ s5 ⟨x,H5,I5,r5,y5,st5,fr5⟩=>?_);have I5':=I5.pinned (stat fr5) (T.obj _ _ st5);refine wpAny_passesOwn hp (Z2 (hg _ s5 σ3 H5 x u _ I5' r5 (step x H5 y5)) fun _ s6 ⟨σ6,H6,I6,q6⟩=>?_);refine wpAny_passesOwn hp (Z2 (hb _ s6 σ6 H6 _ I6 q6) fun f s7 q7=>?_)
  have again:∀ {σ7:St} {H7:Hp},Inv X (Z9++MJ fp s5.heap) σ7 H7 s7->N σ7 H7->∃ m,m<n/\∃ i σ' H',Inv X Z9 σ' H' s7/\tn i s7.heap/\(∀ b∈fp,H' b=none)/\W i m σ' H':=fun {σ7 H7} I7 n7=>by obtain⟨m',hm,w7⟩:=hN σ7 H7 n7;refine⟨m',hm,i+1,σ7,H7,I7.unpinned,T.keep _ _ _ st5 fun b hb o e=>(I7.pin (b,o) (qL _ (qL _ (Ie hb e)))).1,fun b hb=>?_,w7⟩;obtain⟨o,e,d⟩:=T.obj _ _ st5 b hb;exact(I7.pin (b,o) (qL _ (qL _ (Ie hb e)))).2.1
  cases f with
  |next=>obtain⟨σ7,H7,I7,n7⟩:=q7;exact again I7 n7
  |cont=>obtain⟨σ7,H7,I7,n7⟩:=q7;exact again I7 n7
  |brk=>obtain⟨σ7,H7,I7,q7⟩:=q7;exact⟨σ7,H7,I7.unpinned,q7⟩
  |ret v=>obtain⟨x7,σ7,H7,I7,r7,q7⟩:=q7;exact⟨x7,σ7,H7,I7.unpinned,r7,q7⟩
end
abbrev R2:=V->V->Hp->VK->Prop
def ZF (X:Cx)(f:Value->Value->Sem Value)(r:R2):Prop :=
 ∀ (Z9:List (Addr×Obj)) (s:Shared) (U:St) (H:Hp) (x y:V) (v u:Value) (Q:VK),Inv X Z9 U H s->RelV x v->RelV y u->r x y H Q ->
  wpAny (model X.prog X.w) X.A (f v u) (EP X Z9 U Q) X.xe s
def Eh (X:Cx)(f:Value->Sem Value)(r:V->Hp->VK->Prop):Prop :=
 ∀ (Z9:List (Addr×Obj)) (s:Shared) (U:St) (H:Hp) (x:V) (v:Value) (Q:VK),Inv X Z9 U H s->RelV x v->r x H Q ->
  wpAny (model X.prog X.w) X.A (f v) (EP X Z9 U Q) X.xe s
def YJ (X:Cx)(f:Value)(r:List V->Hp->VK->Prop):Prop :=
 ∀ (Z9:List (Addr×Obj)) (s:Shared) (U:St) (H:Hp) (xs:List V) (us:List Value) (Q:VK),Inv X Z9 U H s->Vals xs us->r xs H Q ->
  wpAny (model X.prog X.w) X.A (call f us) (EP X Z9 U Q) X.xe s
def Ms (r:R2)(ta tb:TE):TE:=fun U H Q=>ta U H fun x H1=>tb U H1 fun y H2=>r x y H2 Q
def j4 (r:V->Hp->VK->Prop)(ta:TE):TE:=fun U H Q=>ta U H fun x H1=>r x H1 Q
def rI (C:Int->Int->Prop)(g:Int->Int->V):R2:=fun x y H Q=>∃ i j,x=.int i/\y=.int j/\C i j/\Q (g i j) H
def Ug (g:Int->Int->V):R2:=fun x y H Q=>∃ i j,x=.int i/\y=.int j/\Q (g i j) H
def rU (g:Int->V):V->Hp->VK->Prop:=fun x H Q=>∃ i,x=.int i/\Q (g i) H
section
variable {X:Cx}{a b c:Expr}{ta tb tc:TE}{pos:Pos}
def Eb (ha:PE X a ta)(hb:PE X b tb){R:V->V->Hp->Prop}(I:Inv X Z9 U H s)(h:ta U H fun x H1=>tb U H1 fun y H2=>R x y H2){Q:Value->Shared->Prop}{f:Value->Value->Sem Value}(hf:∀ v u s2 x y H2,Inv X Z9 U H2 s2->RelV x v->RelV y u->R x y H2->wpAny (model X.prog X.w) X.A (f v u) Q X.xe s2) :
  wpAny (model X.prog X.w) X.A (eval a X.env) (fun v s₁=>wpAny (model X.prog X.w) X.A (eval b X.env) (fun u s₂=>wpAny (model X.prog X.w) X.A (f v u) Q X.xe s₂) X.xe s₁) X.xe s:=by
 refine Z2 (ha Z9 s U H _ I h) fun v s1 ⟨x,H1,I1,r1,q1⟩=>?_
 refine Z2 (hb Z9 s1 U H1 _ I1 q1) fun u s2 ⟨y,H2,I2,r2,q2⟩=>?_
 exact hf v u s2 x y H2 I2 r1 r2 q2
def oW {op:Operator}(ho:ZF X (binaryOp op) r)(ha:PE X a ta)(hb:PE X b tb):PE X (.BinOp a op b pos) (Ms r ta tb):=by intro Z9 s U H Q I h;exact wpAny_BinOp (Eb ha hb I h fun v u s2 x y H2 I2 rx ry q=>ho Z9 s2 U H2 x y v u Q I2 rx ry q)
def bZ {op:UnaryOp}(ho:Eh X (unaryOp op) r)(ha:PE X a ta):PE X (.UnaryOp op a pos) (j4 r ta):=by intro Z9 s U H Q I h;exact UnaryOp_ (Z2 (ha Z9 s U H _ I h) fun v s1 zq3=>by obtain⟨x,H1,I1,r1,q1⟩:=zq3;exact ho Z9 s1 U H1 x v Q I1 r1 q1)
def Nj {f:Value->Value->Sem Value}{C:Int->Int->Prop}{g:Int->Int->Int}
  (rule:∀ (i j:Int) (t u:Tok) (s:Shared) (Q:Value->Shared->Prop) (E:Value->Shared->Prop),C i j->Q (.int (g i j) s.toks) { s with toks:=s.toks+1 }->wpAny (model X.prog X.w) X.A (f (.int i t) (.int j u)) Q E s) :
  ZF X f (rI C fun i j=>.int (g i j)):=by
 intro Z9 s U H x y v u Q I rx ry h;obtain⟨i,j,rfl,rfl,hc,q⟩:=h;obtain⟨t,rfl⟩:=rx;obtain⟨t',rfl⟩:=ry;exact rule i j t t' s _ _ hc ⟨.int (g i j),H,I.tok _,⟨_,rfl⟩,q⟩
def yQ {f:Value->Value->Sem Value}{g:Int->Int->Int}
  (rule:∀ (i j:Int) (t u:Tok) (s:Shared) (Q:Value->Shared->Prop) (E:Value->Shared->Prop),Q (.int (g i j) s.toks) { s with toks:=s.toks+1 }->wpAny (model X.prog X.w) X.A (f (.int i t) (.int j u)) Q E s) :
  ZF X f (Ug fun i j=>.int (g i j)):=by
 intro Z9 s U H x y v u Q I rx ry h;obtain⟨i,j,rfl,rfl,q⟩:=h;obtain⟨t,rfl⟩:=rx;obtain⟨t',rfl⟩:=ry;exact rule i j t t' s _ _ ⟨.int (g i j),H,I.tok _,⟨_,rfl⟩,q⟩
def Kv {f:Value->Value->Sem Value}{g:Int->Int->Bool}
  (rule:∀ (i j:Int) (t u:Tok) (s:Shared) (Q:Value->Shared->Prop) (E:Value->Shared->Prop),Q (.bool (g i j)) s->wpAny (model X.prog X.w) X.A (f (.int i t) (.int j u)) Q E s) :
  ZF X f (Ug fun i j=>.bl (g i j)):=by
 intro Z9 s U H x y v u Q I rx ry h;obtain⟨i,j,rfl,rfl,q⟩:=h;obtain⟨t,rfl⟩:=rx;obtain⟨t',rfl⟩:=ry;exact rule i j t t' s _ _ ⟨.bl (g i j),H,I,rfl,q⟩
def lE (i j:Int):Prop:=0<=j/\j<=1000000/\i.natAbs<2 ^ 64
def JK (i j:Int):Prop:=(-(2 ^ 64)<i/\i<2 ^ 64)\/(-(2 ^ 64)<j/\j<2 ^ 64)
def JK.ok (h:JK i j):IntMulOk i j:=by
 rcases h with⟨h1,h2⟩|⟨h1,h2⟩
 ·exact .of_left (intBits_le_64 h1 h2)
 ·exact .of_right (intBits_le_64 h1 h2)
def bQ:ZF X (binaryOp .Add) (Ug fun i j=>.int (i+j)):=yQ fun _ _ _ _ _ _ _ q=>add_int q
def Μ:ZF X (binaryOp .Sub) (Ug fun i j=>.int (i-j)):=yQ fun _ _ _ _ _ _ _ q=>sub_int q
def í:ZF X (binaryOp .Mod) (rI (fun _ j=>j≠0) fun i j=>.int (i.fmod j)):=Nj fun _ _ _ _ _ _ _ hc q=>mod_int' hc q
def zvF:ZF X (binaryOp .Pow) (rI lE fun i j=>.int (i ^ j.toNat)):=Nj fun _ _ _ _ _ _ _ hc q=>pow_int_small hc.1 hc.2.1 hc.2.2 q
def unI {f:Value->Sem Value}{g:Int->Int}
  (rule:∀ (i:Int) (t:Tok) (s:Shared) (Q:Value->Shared->Prop) (E:Value->Shared->Prop),Q (.int (g i) s.toks) { s with toks:=s.toks+1 }->wpAny (model X.prog X.w) X.A (f (.int i t)) Q E s) :
  Eh X f (rU fun i=>.int (g i)):=by
 intro Z9 s U H x v Q I rx h;obtain⟨i,rfl,q⟩:=h;obtain⟨t,rfl⟩:=rx;exact rule i t s _ _ ⟨.int (g i),H,I.tok _,⟨_,rfl⟩,q⟩
def ż:Eh X (unaryOp .USub) (rU fun i=>.int (-i)):=unI fun _ _ _ _ _ q=>neg_int q
end
section
variable {X:Cx}{a b c:Expr}{ta tb tc:TE}{pos:Pos}
def Kf {Q:VK}{k k':Bool}(I:Inv X Z9 U H s)(q:Q (.bl k) H)(e:k=k'):EP X Z9 U Q (.bool k') s:=by subst e;exact⟨.bl k,H,I,rfl,q⟩
def zvU:ZF X (compareOp .Lt) (Ug fun i j=>.bl (decide (i<j))):=Kv fun _ _ _ _ _ _ _ q=>lt_int q
def ġ:ZF X (compareOp .LtE) (Ug fun i j=>.bl (decide (i<=j))):=Kv fun _ _ _ _ _ _ _ q=>le_int q
def cV:ZF X (compareOp .Gt) (Ug fun i j=>.bl (decide (j<i))):=Kv fun _ _ _ _ _ _ _ q=>gt_int q
def zxD:ZF X (compareOp .GtE) (Ug fun i j=>.bl (decide (j<=i))):=Kv fun _ _ _ _ _ _ _ q=>ge_int q
def bW:ZF X (compareOp .In) (fun x y H Q=>∃ i j,x=.str i/\y=.str j/\Q (.bl (!(Builtin.Str.occurrences j i 0 j.length 1).isEmpty)) H):=by intro Z9 s U H x y v u Q I rx ry h;obtain⟨i,j,rfl,rfl,q⟩:=h;obtain⟨t,rfl⟩:=rx;obtain⟨t',rfl⟩:=ry;exact in_str (Kf I q rfl)
def aH:ZF X (compareOp .Is) (fun x y H Q=>y=.non/\Q (.bl (decide (x=.non))) H):=by
  intro Z9 s U H x y v u Q I rx ry h;obtain⟨rfl,q⟩:=h;cases ry;refine is_none_gen (Kf I q ?_)
  cases x<;>first
    |(cases rx;rfl)
    |(obtain⟨t,rfl⟩:=rx;rfl)
def jY:ZF X (compareOp .IsNot) (fun x y H Q=>y=.non/\Q (.bl (!decide (x=.non))) H):=by
  intro Z9 s U H x y v u Q I rx ry h;obtain⟨rfl,q⟩:=h;cases ry;refine isnot_none_gen (Kf I q ?_)
  cases x<;>first
    |(cases rx;rfl)
    |(obtain⟨t,rfl⟩:=rx;rfl)
def À:ZF X (compareOp .NotIn) (fun x y H Q=>∃ i j,x=.str i/\y=.str j/\Q (.bl (!(!(Builtin.Str.occurrences j i 0 j.length 1).isEmpty))) H):=by intro Z9 s U H x y v u Q I rx ry h;obtain⟨i,j,rfl,rfl,q⟩:=h;obtain⟨t,rfl⟩:=rx;obtain⟨t',rfl⟩:=ry;exact notIn_str (Kf I q rfl)
def ZF.or (h:ZF X f r)(h':ZF X f r'):ZF X f (fun x y H Q=>r x y H Q\/r' x y H Q):=by
 intro Z9 s U H x y v u Q I rx ry q;rcases q with q|q
 ·exact h Z9 s U H x y v u Q I rx ry q
 ·exact h' Z9 s U H x y v u Q I rx ry q
def ĝ {op:CmpOp}(ho:ZF X (compareOp op) r)(ha:PE X a ta)(hb:PE X b tb)(hm:behindInMarks op b=false):PE X (.Compare a [op] [b] pos) (Ms r ta tb):=by intro Z9 s U H Q I h;exact wpAny_Compare1 (Eb ha hb I h fun v u s2 x y H2 I2 rx ry q=>ho Z9 s2 U H2 x y v u Q I2 rx ry q) hm
def o7 (t:TE):TT:=fun U H Q=>t U H fun x H'=>∃ k,x=.bl k/\Q k H'
def zrZ {op:CmpOp}(ho:ZF X (compareOp op) r)(ha:PE X a ta)(hb:PE X b tb)(hm:behindInMarks op b=false):PT X (.Compare a [op] [b] pos) (o7 (Ms r ta tb)):=by
 intro Z9 s U H Q I h
 refine wpAny_isTrue_Compare1 (Z2 (ha Z9 s U H _ I h) fun v s1 ⟨x,H1,I1,r1,q1⟩=>Z2 (hb Z9 s1 U H1 _ I1 q1) fun u s2 ⟨y,H2,I2,r2,q2⟩ =>Z2 (ho Z9 s2 U H2 x y v u _ I2 r1 r2 q2) fun c s3 ⟨z,H3,I3,r3,k,e,q3⟩=>?_) hm
 subst e;cases r3;exact wpAny_truthy_bool ⟨H3,I3,q3⟩
def Hq (r r':R2)(ta tb tc:TE):TE:=fun U H Q=>ta U H fun x H1=>tb U H1 fun y H2=>r x y H2 fun z H3=>∃ k,z=.bl k /\
 (if k=true then tc U H3 fun w' H4=>r' y w' H4 Q else Q (.bl false) H3)
def ũ {op op':CmpOp}(ho:ZF X (compareOp op) r)(ho':ZF X (compareOp op') r')(ha:PE X a ta)(hb:PE X b tb)(hc:PE X c tc)(hm:autoParam (lastMarks [op,op'] [b,c]=false) Vk):PE X (.Compare a [op,op'] [b,c] pos) (Hq r r' ta tb tc):=by
 intro Z9 s U H Q I h
 refine Compare_chain (Z2 (ha Z9 s U H _ I h) fun v s1 ⟨x,H1,I1,r1,q1⟩=>chain_link (Z2 (hb Z9 s1 U H1 _ I1 q1) fun u s2 ⟨y,H2,I2,r2,q2⟩ =>Z2 (ho Z9 s2 U H2 x y v u _ I2 r1 r2 q2) fun d s3 ⟨z,H3,I3,r3,k,e,q3⟩=>?_)) hm
 subst e;cases r3;refine wpAny_truthy_bool ?_;cases k with
 |false=>exact ite_ff ⟨.bl false,H3,I3,rfl,q3⟩
 |true=>exact ite_tt (chain_last (Z2 (hc Z9 s3 U H3 _ I3 q3) fun w' s4 zq4=>by obtain⟨z',H4,I4,r4,q4⟩:=zq4;exact ho' Z9 s4 U H4 y z' u w' Q I4 r2 r4 q4))
def ó {op op':CmpOp}(ho:ZF X (compareOp op) r)(ho':ZF X (compareOp op') r')(ha:PE X a ta)(hb:PE X b tb)(hc:PE X c tc)(hm:autoParam (lastMarks [op,op'] [b,c]=false) Vk):PT X (.Compare a [op,op'] [b,c] pos) (o7 (Hq r r' ta tb tc)):=by
 intro Z9 s U H Q I h
 refine isTrue_chain (Z2 (ha Z9 s U H _ I h) fun v s1 ⟨x,H1,I1,r1,q1⟩=>test_link (Z2 (hb Z9 s1 U H1 _ I1 q1) fun u s2 ⟨y,H2,I2,r2,q2⟩ =>Z2 (ho Z9 s2 U H2 x y v u _ I2 r1 r2 q2) fun d s3 ⟨z,H3,I3,r3,k,e,q3⟩=>?_)) hm
 subst e;cases r3;refine wpAny_truthy_bool ?_;cases k with
 |false =>obtain⟨k',e',q'⟩:=q3;cases e';exact ite_ff ⟨H3,I3,q'⟩
 |true =>refine ite_tt (test_last (Z2 (hc Z9 s3 U H3 _ I3 q3) fun w' s4 ⟨z',H4,I4,r4,q4⟩=>Z2 (ho' Z9 s4 U H4 y z' u w' _ I4 r2 r4 q4) fun d' s5 ⟨z2,H5,I5,r5,k2,e2,q5⟩=>?_));subst e2;cases r5;exact wpAny_truthy_bool ⟨H5,I5,q5⟩
def PX:(sizeLine:Nat)<2 ^ 63:=by rw[sizeLine_eq];decide
def zlE:ZF X (binaryOp .Add) (fun x y H Q=>∃ i j,x=.str i/\y=.str j/\i.length+j.length<=sizeLine/\Q (.str (i++j)) H):=by intro Z9 s U H x y v u Q I rx ry h;obtain⟨i,j,rfl,rfl,hz,q⟩:=h;obtain⟨t,rfl⟩:=rx;obtain⟨t',rfl⟩:=ry;exact add_str (fun t' tk=>⟨.str (i++j),H,I.tok _,⟨_,rfl⟩,q⟩) hz
def vals1 {x:V}{us:List Value}(r:Vals [x] us):∃ u,us=[u]/\RelV x u:=by
 cases r with
 |cons r1 r2=>cases r2;exact⟨_,rfl,r1⟩
def vals2 {x y:V}{us:List Value}(r:Vals [x,y] us):∃ u w',us=[u,w']/\RelV x u/\RelV y w':=by
 cases r with
 |cons r1 r2 =>
  cases r2 with
  |cons r3 r4=>cases r4;exact⟨_,_,rfl,r1,r3⟩
def cH:YJ X (.builtin "abs") (fun xs H Q=>∃ i,xs=[.int i]/\Q (.int (if i<0 then -i else i)) H):=by intro Z9 s U H xs us Q I r h;obtain⟨i,rfl,q⟩:=h;obtain⟨u,rfl,t,rfl⟩:=vals1 r;exact call_abs_int fun u tk=>⟨.int (if i<0 then -i else i),H,I.tok _,⟨_,rfl⟩,q⟩
def znM (hc:X.calm=true):YJ X (.builtin "max") (fun xs H Q=>∃ i j,xs=[.int i,.int j]/\Q (.int (if j > i then j else i)) H):=by
 intro Z9 s U H xs us Q I r h;obtain⟨i,j,rfl,q⟩:=h;obtain⟨u,w',rfl,⟨t,rfl⟩,⟨t',rfl⟩⟩:=vals2 r;refine max_two_ints (I.ok.hd hc) fun h' tk k=>⟨_,H,I.kept k,?_,q⟩
 by_cases hj:j > i
 ·rw[if_pos hj,if_pos hj];exact⟨_,rfl⟩
 ·rw[if_neg hj,if_neg hj];exact⟨_,rfl⟩
def znl (hc:X.calm=true):YJ X (.builtin "min") (fun xs H Q=>∃ i j,xs=[.int i,.int j]/\Q (.int (if j<i then j else i)) H):=by
 intro Z9 s U H xs us Q I r h;obtain⟨i,j,rfl,q⟩:=h;obtain⟨u,w',rfl,⟨t,rfl⟩,⟨t',rfl⟩⟩:=vals2 r;refine min_two_ints (I.ok.hd hc) fun h' tk k=>⟨_,H,I.kept k,?_,q⟩
 by_cases hj:j<i
 ·rw[if_pos hj,if_pos hj];exact⟨_,rfl⟩
 ·rw[if_neg hj,if_neg hj];exact⟨_,rfl⟩
end
structure Qa (h:Heap)(x dx C:Addr)(mA:Str->Option Value):Prop where
 obj:h.get? x=some (PySem.W.instObj C dx)
 ns:h.Ns1 dx mA
 ne:dx≠x
def ϝ {h:Heap}{dx:Addr}{mA:Str->Option Value}(n:h.Ns1 dx mA):∃ od,h.get? dx=some od/\∀ name,PySem.W.lookIn name od=some (mA name):=by
 obtain⟨o,es,ep,ho,hd,hk,_,hm⟩:=n;refine⟨o,ho,fun name=>?_⟩;have e:=hm name;unfold nsFind findBy at e;rw[<- Array.find?_toList]at e;unfold PySem.W.lookIn;rw[hd];dsimp only;split
 ·rename_i y q;rw[q]at e;exact congrArg some e
 ·rename_i q;rw[q]at e
  have a:es.toList.any (·.refKey)=false:=by rw[List.any_eq_false];intro y hy;obtain⟨z,t,hkey⟩:=hk y (Array.mem_toList_iff.mp hy);simp[DictEntry.refKey,hkey]
  have a':¬ es.toList.any (·.refKey)=true:=by rw[a];exact qr
  rw[if_neg a'];exact congrArg some e
def Qa.look {C:Addr}(I:Qa h x dx C mA):∃ od,PySem.W.InstAt h x (PySem.W.instObj C dx) C (some od)/\∀ name,PySem.W.lookIn name od=some (mA name) :=
 let ⟨od,ho,hl⟩:=ϝ I.ns
 ⟨od,⟨I.obj,rfl,rfl,ho⟩,hl⟩
section
variable {prog:Program}{w:World}{A:Around}{E:Value->Shared->Prop}{s:Shared}{K:PySem.W.Frag}{x dx C f:Addr}{mA:Str->Option Value}{name:Str}{v:Value}
def get_map {expr:Bool}{Q:Value->Shared->Prop}(X:K.In s.heap)(I:Qa s.heap x dx C mA)(hg:PySem.W.plainGet K C name=true)(hh:PySem.W.hasDictIn K C=true)
  (ha:PySem.W.findIn K (.ref C) name=some none) (hv:mA name=some v) (hv':PySem.W.handedIn v=true) (h:Q v { s with toks:=s.toks+1 }) :
  wpAny (model prog w) A (getAttr (.ref x) name expr) Q E s:=by
 obtain⟨od,J,hl⟩:=I.look;exact PySem.W.get_value X J (PySem.W.plainGet_of hg).1 (PySem.W.findObj_own hh ha rfl (by rw[hl,hv])) hv' h
def zsw {Q:Unit->Shared->Prop}(X:K.In s.heap)(I:Qa s.heap x dx C mA)(hs:PySem.W.findIn K (.ref C) "__setattr__"=some (some (.builtin "object.__setattr__")))(hp:PySem.W.plainOver K C=true)(ht:PySem.W.takerIn K C name=some none)(hh:PySem.W.hasDictIn K C=true)(hw:PySem.Within mA ns)(hsz:ns.length<=sizeLine)(h:∀ h',Qa h' x dx C (fun y=>if y=name then some v else mA y)->Heap.SameBut dx s.heap h'->Q () { s with heap:=h',toks:=s.toks+2 }) :
  wpAny (model prog w) A (setAttr (.ref x) name v) Q E s:=by
 obtain⟨od,J,hl⟩:=I.look;refine PySem.W.set_plain X J hs (PySem.W.osa_open (s:={ s with toks:=s.toks+1 }) (r:=none) X J hp ht fun b=>?_);obtain⟨cd,hc,hd'⟩:=PySem.W.any_some hh;have hx:s.heap.get? x=some ⟨.ref C,some dx,.plain,#[]⟩:=I.obj;refine wpAny_bind (wpAny_pure (wpAny_bind (wpAny_bind (wpAny_loadPart hx (wpAny_bind (PySem.W.Looks.here (s:={ s with toks:=s.toks+1 }) (PySem.W.looks_clsIn X hc) ?_))))));rw[hd'];refine wpAny_pure (a:=some dx) (wpAny_bind (wpAny_pure (wpAny_bind ?_)));refine wpAny_nsSet1 (s:={ s with toks:=s.toks+1 }) I.ns fun h' hn2 hs2=>?_
 obtain⟨oD,esD,epD,hoD,hdD,hcD⟩:=hn2.count (PySem.Within.cons name v hw);refine wpAny_bind (wpAny_lookBehind hoD (by rw[hdD];exact pastItsLine_dict (qW hcD (by rw[qR];lia))) ?_);exact wpAny_pure (h _ ⟨(hs2.2 _ (Ne.symm I.ne)).trans I.obj,hn2,I.ne⟩ hs2)
def vD {R:Result->Shared->Prop}{vs:List Value}{kw:List (Str×Value)}(X:K.In s.heap)(hm:PySem.W.makesIn K C=true)
    (hi:PySem.W.findIn K (.ref C) "__init__"=some (some (.ref f))) (hf:PySem.W.typeIn K (.ref f)=some (.type "function"))
    (h:codeAny (model prog w) (A.under (.builtin "type.__call__" ⟨.ref C::vs,kw⟩)) (.call (.ref f) ⟨.ref (s.heap.objs.size+1)::vs,kw⟩) (PySem.W.InitBack (s.heap.objs.size+1) R)
      { s with heap:=(s.heap.push PySem.W.emptyDict).push (PySem.W.instObj C s.heap.objs.size) }) :
    codeAny (model prog w) A (.call (.ref C) ⟨vs,kw⟩) R s:=by
  obtain⟨hh,g,d,t,os⟩:=s;exact PySem.W.make_core (PySem.W.makes_of X hm) (PySem.W.looks_findIn X hi) (fun self=>PySem.W.bind_fn X self hf) (.inl rfl) h
end
def YF (f:Str)(v:V):List (Str×V)->List (Str×V)
 |[]=>[(f,v)]
 |(g,x)::r=>if g=f then(g,v)::r else(g,x)::YF f v r
theorem rJ (f g:Str)(v:V):∀ fs:List (Str×V),(YF f v fs).lookup g=if g=f then some v else fs.lookup g
 |[]=>by
  show List.lookup g [(f,v)]=_;by_cases h:g=f
  ·have hb:(g==f)=true:=beq_iff_eq.mpr h;simp only[List.lookup,hb,if_pos h]
  ·have hb:(g==f)=false:=beq_eq_false_iff_ne.mpr h;simp only[List.lookup,hb,if_neg h]
 |(k,x)::r=>by
  have ih:=rJ f g v r;rw[show YF f v ((k,x)::r)=(if k=f then(k,v)::r else(k,x)::YF f v r)from rfl];by_cases hk:k=f
  ·rw[if_pos hk];by_cases h:g=k
   ·have hb:(g==k)=true:=beq_iff_eq.mpr h;simp only[List.lookup,hb,if_pos (h.trans hk)]
   ·have hb:(g==k)=false:=beq_eq_false_iff_ne.mpr h;simp only[List.lookup,hb,if_neg (fun e:g=f=>h (e.trans hk.symm))]
  ·rw[if_neg hk];by_cases h:g=k
   ·have hb:(g==k)=true:=beq_iff_eq.mpr h;simp only[List.lookup,hb,if_neg (fun e:g=f=>hk (h.symm.trans e))]
   ·have hb:(g==k)=false:=beq_eq_false_iff_ne.mpr h;simp only[List.lookup,hb];exact ih
theorem Gj (f:Str)(v:V):∀ fs:List (Str×V),f∈(YF f v fs).map (·.1)/\∀ g,g∈fs.map (·.1)->g∈(YF f v fs).map (·.1)
 |[]=>⟨by simp[YF],fun g h=>by simp at h⟩
 |(k,x)::r=>by
  obtain⟨i1,i2⟩:=Gj f v r;rw[show YF f v ((k,x)::r)=(if k=f then(k,v)::r else(k,x)::YF f v r)from rfl];by_cases hk:k=f
  ·rw[if_pos hk];subst hk;exact⟨by simp,fun g h=>by simpa using h⟩
  ·rw[if_neg hk];refine⟨?_,fun g h=>?_⟩
   ·rw[qP];exact qj _ i1
   ·rw[qP]at h ⊢;rcases ql.mp h with e|e
    ·exact ql.mpr (.inl e)
    ·exact qj _ (i2 g e)
theorem nD (f:Str)(v:V):∀ fs:List (Str×V),(YF f v fs).length<=fs.length+1
 |[]=>by simp[YF]
 |(k,x)::r=>by
  have ih:=nD f v r;rw[show YF f v ((k,x)::r)=(if k=f then(k,v)::r else(k,x)::YF f v r)from rfl];by_cases hk:k=f
  ·rw[if_pos hk,qR,qR];lia
  ·rw[if_neg hk,qR,qR];lia
def X4.some_of {v:V}(r:X4 (some v) o):∃ u,o=some u/\RelV v u:=by
 cases o with
 |none=>exact(show False from r).elim
 |some u=>exact⟨u,rfl,r⟩
def zm1 (r:RelV v u):PySem.W.handedIn u=true:=by
 cases v with
 |non=>cases(show u=Value.none from r);rfl
 |bl b=>cases(show u=Value.bool b from r);rfl
 |int i=>obtain⟨t,e⟩:=(show ∃ t,u=Value.int i t from r);cases e;rfl
 |str x=>obtain⟨t,e⟩:=(show ∃ t,u=Value.str x t from r);cases e;rfl
 |byt b=>obtain⟨t,e⟩:=(show ∃ t,u=Value.bytes b t from r);cases e;rfl
 |flt b=>obtain⟨t,e⟩:=(show ∃ t,u=Value.float b t from r);cases e;rfl
 |ref a=>cases(show u=Value.ref a from r);rfl
 |ty n=>cases(show u=Value.type n from r);rfl
section
variable {P:Program}{w:World}{H H':Hp}{h h':Heap}{a C dx:Addr}{fs fs':List (Str×V)}
def Hl (hok:ZD P w H h)(e:H a=some (.ins C dx fs)):∃ mA,Qa h a dx C mA/\(∀ f,X4 (fs.lookup f) (mA f))/\PySem.Within mA (fs.map (·.1))/\fs.length<=1000/\H dx=some (.own a):=by
 obtain⟨d,z,ne,ob,mA,n,r,q⟩:=(show zW P w H h a (.ins C dx fs)from hok a _ e)
 exact⟨mA,⟨ob,n,ne⟩,r,q,z,d⟩
end
structure Cls (K:PySem.W.Frag)(C:Addr):Prop where
 pg:PySem.W.plainGet K C Str.empty=true
 hd:PySem.W.hasDictIn K C=true
 po:PySem.W.plainOver K C=true
 sa:PySem.W.findIn K (.ref C) "__setattr__"=some (some (.builtin "object.__setattr__"))
def Cls.get {K:PySem.W.Frag}{C:Addr}(c:Cls K C)(f:Str):PySem.W.plainGet K C f=true:=c.pg
def VG (K:PySem.W.Frag)(C:Addr)(f:Str):Prop:=PySem.W.findIn K (.ref C) f=some none
def VG.taker {K:PySem.W.Frag}{C:Addr}(n:VG K C f):PySem.W.takerIn K C f=some none:=by unfold PySem.W.takerIn;rw[show PySem.W.findIn K (.ref C) f=some none from n];rfl
section
variable {X:Cx}{Z9:List (Addr×Obj)}{U:St}{H:Hp}{s:Shared}{a C dx:Addr}{fs:List (Str×V)}{f:Str}{v:V}{A:Around}{E:Value->Shared->Prop}
def ŷ {b:Bool}{Q:Value->Shared->Prop}(I:Inv X Z9 U H s)(e:H a=some (.ins C dx fs))(c:Cls X.K C)(n:VG X.K C f)(l:fs.lookup f=some v)
  (h:∀ u s',Inv X Z9 U H s'->RelV v u->Q u s'):wpAny (model X.prog X.w) A (getAttr (.ref a) f b) Q E s:=by
 obtain⟨mA,O,r,_,_,_⟩:=Hl I.hok e;obtain⟨u,hu,ru⟩:=X4.some_of (v:=v) (o:=mA f) (by rw[<- l];exact r f);exact get_map I.kIn O (c.get f) c.hd n hu (zm1 ru) (h u _ (I.tok _) ru)
def lX {Q:Unit->Shared->Prop}(I:Inv X Z9 U H s)(e:H a=some (.ins C dx fs))(c:Cls X.K C)(n:VG X.K C f)(hl:fs.length<1000)(ry:RelV y u)(h:∀ s',Inv X Z9 U (upd H a (.ins C dx (YF f y fs))) s'->Q () s'):wpAny (model X.prog X.w) A (setAttr (.ref a) f u) Q E s:=by
 obtain⟨mA,O,r,wi,_,ho⟩:=Hl I.hok e;have hz:(fs.map (·.1)).length<=sizeLine:=by rw[qa,sizeLine_eq];lia
 refine zsw I.kIn O c.sa c.po n.taker c.hd wi hz fun h' O' sb=>h _ ?_
 have hd:∃ o,h'.get? dx=some o:=let ⟨o,_,_,e',_⟩:=O'.ns;⟨o,e'⟩;refine I.write (x:=a) (e:=dx) (by rw[e];exact True.intro) (.inr ho) (fun b q hb z=>(sb.2 b hb).trans z) hd ?_;refine⟨by rw[zu O.ne];exact ho,?_,O.ne,O'.obj,_,O'.ns,fun g=>?_,fun g hg=>?_⟩
 ·have:=nD f y fs;lia
 ·show X4 ((YF f y fs).lookup g) (if g=f then some u else mA g);rw[rJ];by_cases q:g=f
  ·rw[if_pos q,if_pos q];exact ry
  ·rw[if_neg q,if_neg q];exact r g
 ·by_cases q:g=f
  ·rw[q];exact(Gj f y fs).1
  ·refine(Gj f y fs).2 g (wi g fun z=>hg ?_);show(if g=f then some u else mA g)=none;rw[if_neg q];exact z
def Inv.made (I:Inv X Z9 U H s):Inv X Z9 U (upd (upd H s.heap.objs.size (.own (s.heap.objs.size+1))) (s.heap.objs.size+1) (.ins C s.heap.objs.size []))
    { s with heap:=(s.heap.push PySem.W.emptyDict).push (PySem.W.instObj C s.heap.objs.size) }:=by
  have e1:(s.heap.push PySem.W.emptyDict).get? s.heap.objs.size=some PySem.W.emptyDict:=qq s.heap rfl
  have e2:((s.heap.push PySem.W.emptyDict).push (PySem.W.instObj C s.heap.objs.size)).get? (s.heap.objs.size+1)=some (PySem.W.instObj C s.heap.objs.size):=by have:=qq (s.heap.push PySem.W.emptyDict) (o:=PySem.W.instObj C s.heap.objs.size) rfl;rwa[W0]at this
  have e3:(s.heap.push PySem.W.emptyDict).Ns s.heap.objs.size (fun _=>none):=⟨PySem.W.emptyDict,#[],_,e1,rfl,(fun e he=>absurd he (by simp)),fun _=>rfl⟩
  have I1:=I.laid (a:=s.heap.objs.size) (o:=.own (s.heap.objs.size+1)) (h':=s.heap.push PySem.W.emptyDict) (t':=s.toks) (fun b u q=>qd _ q) (qh _) ⟨_,e1⟩;refine I1.laid (a:=s.heap.objs.size+1) (o:=.ins C s.heap.objs.size []) (t':=s.toks) (fun b u q=>qd _ q) (Nat.le_of_eq (W0 _ _)) ?_;have ne:s.heap.objs.size≠s.heap.objs.size+1:=qV (La _);refine⟨by rw[zu ne,zL],qY _,ne,e2,fun _=>none,(Heap.Ns1.of_empty e3).at fun o q=>qd _ q,fun _=>True.intro,fun y hy=>absurd rfl hy⟩
def ψ {prog:Program}{w:World}{env:Env}{e:Expr}{f:Str}{pos:Pos}{s:Shared}{Q:Value->Shared->Prop}(hb:attributeBase e f env (eval e env)=eval e env)
  (h:wpAny (model prog w) A (eval e env) (fun o s₁=>wpAny (model prog w) A (getAttr o f true) Q E s₁) E s):wpAny (model prog w) A (eval (.Attribute e f pos) env) Q E s :=
 Attribute_any_ h (by rw[arm_eval_Attribute,hb])
end
def Ī (K:PySem.W.Frag)(ta:TE)(f:Str):TE:=fun U H Q=>ta U H fun x H1=>∃ a C dx fs v,x=.ref a/\H1 a=some (.ins C dx fs)/\Cls K C/\VG K C f/\fs.lookup f=some v/\Q v H1
def zyr (K:PySem.W.Frag)(ta tv:TE)(f:Str):TS:=fun D U H=>tv U H fun y H1=>ta U H1 fun x H2=>∃ a C dx fs,x=.ref a/\H2 a=some (.ins C dx fs)/\Cls K C/\VG K C f/\fs.length<1000 /\
 D.nx U (upd H2 a (.ins C dx (YF f y fs)))
section
variable {X:Cx}{o e value:Expr}{f:Str}{pos pos' tpos:Pos}{ta tv:TE}
def aJ (he:PE X e ta)(hb:attributeBase e f X.env (eval e X.env)=eval e X.env):PE X (.Attribute e f pos) (Ī X.K ta f):=by intro Z9 s U H Q I h;refine ψ hb (Z2 (he Z9 s U H _ I h) fun u s1 ⟨x,H1,I1,rx,a,C,dx,fs,v,ex,ea,c,n,l,q⟩=>?_);subst ex;obtain rfl:u=Value.ref a:=rx;exact ŷ I1 ea c n l fun u' s2 I2 ru=>⟨v,H1,I2,ru,q⟩
def fj (ha:PE X o ta)(hv:PE X value tv)(hs:swapsWith value (some (.Attribute o f pos')) pos.line X.env=pure false):PS X (.Assign [.Attribute o f pos'] value pos) (zyr X.K ta tv f):=by intro Z9 s U H D I h;refine plainObj_wpAny_Assign_Attribute (Z2 (hv Z9 s U H _ I h) fun u s1 ⟨y,H1,I1,ry,q⟩=>Z2 (ha Z9 s1 U H1 _ I1 q) fun ov s2 ⟨x,H2,I2,rx,a,C,dx,fs,ex,ea,c,n,l,q2⟩=>?_) hs;subst ex;obtain rfl:ov=Value.ref a:=rx;exact lX I2 ea c n l ry fun s3 I3=>⟨U,_,I3,q2⟩
end
section
variable {X:Cx}{Z9:List (Addr×Obj)}{U:St}{H:Hp}{s:Shared}{A:Around}{E:Value->Shared->Prop}{Q:Value->Shared->Prop}{c:Value}{b:Bool}
inductive WQ (K:PySem.W.Frag)(H:Hp):V->Value->Prop where
 | non:WQ K H .non (.type "NoneType")
 | bl (x:Bool):WQ K H (.bl x) (.type "bool")
 | int (i:Int):WQ K H (.int i) (.type "int")
 | str (x:Str):WQ K H (.str x) (.type "str")
 | flt (x:UInt64):WQ K H (.flt x) (.type "float")
 | lst {a:Addr} {xs:List V} (e:H a=some (.lst xs)):WQ K H (.ref a) (.type "list")
 | frz {a:Addr} {o:Obj} {xs:List V} (e:H a=some (.frz o (.lst xs))):WQ K H (.ref a) (.type "list")
 | tup {a:Addr} {xs:List V} (e:H a=some (.tup xs)):WQ K H (.ref a) (.type "tuple")
 | dK {a:Addr} {Z8:List (Key×V)} (e:H a=some (.dK Z8)):WQ K H (.ref a) (.type "dict")
 | dT {a:Addr} {Z8:List (List Key×V)} (e:H a=some (.dT Z8)):WQ K H (.ref a) (.type "dict")
 | ins {a C dx:Addr} {fs:List (Str×V)} (e:H a=some (.ins C dx fs)) (cl:Cls K C) (ha:PySem.W.findIn K (.ref C) "__class__"=some (some (.builtin "object.__class__")))
   (hn:PySem.W.specialIn K (.builtin "object.__class__") "__get__"=some (some (.builtin "getset_descriptor.__get__"))) (htk:PySem.W.takesIn K (.builtin "object.__class__")=some true)
   (hm:PySem.W.mroIn K C (.type "object")=some true):WQ K H (.ref a) (.ref C)
def ŗ {t:Value}(I:Inv X Z9 U H s)(rx:RelV x u)(ty:WQ X.K H x t)(e:PySem.W.kitOne X.K t c=some b)(h:∀ tk,Q (.bool b) { s with toks:=tk }) :
  wpAny (model X.prog X.w) A (call (.builtin "isinstance") [u,c]) Q E s:=by
 cases ty with
 |non=>cases(show u=Value.none from rx);exact PySem.W.kia_one PySem.W.kitx_none I.kIn True.intro e (fun z=>nomatch z) h
 |bl y=>cases(show u=Value.bool y from rx);exact PySem.W.kia_one PySem.W.kitx_bool I.kIn True.intro e (fun z=>nomatch z) h
 |int i=>obtain⟨t,q⟩:=(show ∃ t,u=Value.int i t from rx);cases q;exact PySem.W.kia_one PySem.W.kitx_int I.kIn True.intro e (fun z=>nomatch z) h
 |str y=>obtain⟨t,q⟩:=(show ∃ t,u=Value.str y t from rx);cases q;exact PySem.W.kia_one PySem.W.kitx_str I.kIn True.intro e (fun z=>nomatch z) h
 |flt y=>obtain⟨t,q⟩:=(show ∃ t,u=Value.float y t from rx);cases q;exact PySem.W.kia_one PySem.W.kitx_float I.kIn True.intro e (fun z=>nomatch z) h
 |@lst a xs ea =>
  cases(show u=Value.ref a from rx);obtain⟨_,_,n,_,h1⟩:=(show zW X.prog X.w H s.heap a (.lst xs)from I.hok a _ ea)
  exact PySem.W.kia_one PySem.W.kitx_list I.kIn ⟨_,h1,rfl⟩ e (fun z=>nomatch z) h
 |@frz a ob xs ea =>
  cases(show u=Value.ref a from rx);obtain⟨_,_,_,n,_,h1⟩:=(show zW X.prog X.w H s.heap a (.frz ob (.lst xs))from I.hok a _ ea)
  exact PySem.W.kia_one PySem.W.kitx_list I.kIn ⟨_,h1,rfl⟩ e (fun z=>nomatch z) h
 |@tup a xs ea =>
  cases(show u=Value.ref a from rx);obtain⟨_,_,_,p⟩:=(show zW X.prog X.w H s.heap a (.tup xs)from I.hok a _ ea)
  obtain⟨o,h1,h2,_⟩:=p;exact PySem.W.kia_one PySem.W.kitx_tuple I.kIn ⟨o,h1,h2⟩ e (fun z=>nomatch z) h
 |@dK a Z8 ea =>
  cases(show u=Value.ref a from rx);obtain⟨_,_,vs,_,p⟩:=(show zW X.prog X.w H s.heap a (.dK Z8)from I.hok a _ ea)
  obtain⟨o,es,ep,h1,h2,_⟩:=p;exact PySem.W.kia_one PySem.W.kitx_dict I.kIn ⟨o,h1,h2.1⟩ e (fun z=>nomatch z) h
 |@dT a Z8 ea =>
  cases(show u=Value.ref a from rx);obtain⟨_,_,xs,_,o,es,ep,h1,h2,_⟩:=(show zW X.prog X.w H s.heap a (.dT Z8)from I.hok a _ ea)
  exact PySem.W.kia_one PySem.W.kitx_dict I.kIn ⟨o,h1,h2.1⟩ e (fun z=>nomatch z) h
 |@ins a C dx fs ea cl ha hn htk hm =>cases(show u=Value.ref a from rx);obtain⟨mA,O,_⟩:=Hl I.hok ea;obtain⟨od,J,_⟩:=O.look;exact PySem.W.kia_one (PySem.W.kitx_own (cl.get _) cl.hd ha hn htk hm) I.kIn J e (fun z=>nomatch z) h
end
structure zN (k:Nat)(A:Around):Prop where
 hd:A.handled=none
 dp:A.depth+3*k+5<recursionLimit
 un:A.units+16*k+200<cLine
def zN.mono {j k:Nat}(r:zN k A)(h:j<=k):zN j A:=⟨r.hd,by have:=r.dp;lia,by have:=r.un;lia⟩
theorem zN.deeper {k:Nat}(r:zN (k+1) A)(env:Env):zN k (A.deeper env) :=⟨r.hd,by have:=r.dp;show A.depth+1+3*k+5<_;lia,by have:=r.un;show A.units+3+16*k+200<_;lia⟩
def zlH {A:Around}{C:Addr}{us:List Value}{kw:List (Str×Value)}:(A.under (.builtin "type.__call__" ⟨.ref C::us,kw⟩)).depth=A.depth+1:=by first|rfl|simp[Around.under,Code.weight,Code.isCreation,Code.isGuard,Code.isCaller,Code.frames,Code.isFrame,guardIds]
def Ċ {A:Around}{C:Addr}{us:List Value}{kw:List (Str×Value)}:(A.under (.builtin "type.__call__" ⟨.ref C::us,kw⟩)).units=A.units+1:=by first|rfl|simp[Around.under,Code.cUnits,Code.frames,Code.isFrame]
def zN.make {k:Nat}(r:zN (k+1) A)(C:Addr)(us:List Value)(kw:List (Str×Value)):zN k (A.under (.builtin "type.__call__" ⟨.ref C::us,kw⟩)) :=⟨r.hd,by have:=r.dp;rw[zlH];lia,by have:=r.un;rw[Ċ];lia⟩
theorem zN.depth {k:Nat}(r:zN k A):A.depth<recursionLimit:=by have:=r.dp;lia
theorem zN.units {k:Nat}(r:zN k A):A.units+64<cLine:=by have:=r.un;lia
def cA:TA:=fun _ H Q=>Q [] H
def zwj (ta:TE)(tr:TA):TA:=fun U H Q=>ta U H fun x H1=>tr U H1 fun xs H2=>Q (x::xs) H2
section
variable {X:Cx}{e:Expr}{es:List Expr}{te:TE}{t:TA}{pos:Pos}
def μ:PA X [] cA:=fun _ _ _ _ H Q I h=>Calls.spliced_nil ⟨[],H,I,.nil,h⟩
def zrE (ha:PE X e te)(hr:PA X es t)(hs:autoParam (starEach (e::es) X.env=(false,eval e X.env)::starEach es X.env) zy):PA X (e::es) (zwj te t):=by intro pos Z9 s U H Q I h;rw[hs];show wpAny _ _ (spliced ((false,eval e X.env)::backTo pos (starEach es X.env))) _ _ s;refine Calls.spliced_cons (Z2 (ha Z9 s U H _ I h) fun u s1 ⟨x,H1,I1,r1,q1⟩=>?_);exact Z2 (hr pos Z9 s1 U H1 _ I1 q1) fun us s2 zq5=>by obtain⟨xs,H2,I2,r2,q2⟩:=zq5;exact⟨x::xs,H2,I2,.cons r1 r2,q2⟩
def zxX (t:TA):TE:=fun U H Q=>t U H fun xs H1=>xs.length<=sizeLine/\∀ p,H1 p=none->Q (.ref p) (upd H1 p (.tup xs))
def zx1 (t:TA):TE:=fun U H Q=>t U H fun xs H1=>xs.length<=sizeLine/\∀ p,H1 p=none->Q (.ref p) (upd H1 p (.lst xs))
def zsQ {x1}(h:PA X es t):PE X (.Tuple es x1 pos) (zxX t):=by intro Z9 s U H Q I hq;refine wpAny_Tuple_spliced (Z2 (h pos Z9 s U H _ I hq) fun us s1 ⟨xs,H1,I1,r,z,q⟩=>⟨by rw[<- r.length];exact z,?_⟩);have hf:H1 s1.heap.objs.size=none:=I1.hok.fresh (qh _);refine⟨.ref s1.heap.objs.size,upd H1 s1.heap.objs.size (.tup xs),I1.laid (t':=s1.toks) (fun b u e=>qd _ e) (qh _) ?_,rfl,q _ hf⟩;exact⟨z,us,r,⟨_,qq _ rfl,rfl,_,rfl⟩⟩
def jH (h:PA X es t):PE X (.List es pos) (zx1 t):=by intro Z9 s U H Q I hq;refine wpAny_List_spliced (Z2 (h pos Z9 s U H _ I hq) fun us s1 ⟨xs,H1,I1,r,z,q⟩=>⟨by rw[<- r.length];exact z,?_⟩);have hf:H1 s1.heap.objs.size=none:=I1.hok.fresh (qh _);refine⟨.ref s1.heap.objs.size,upd H1 s1.heap.objs.size (.lst xs),I1.laid (t':=s1.toks) (fun b u e=>qd _ e) (qh _) ?_,rfl,q _ hf⟩;exact⟨z,us,0,r,qq _ rfl⟩
end
abbrev Sp:=List V->Hp->VK->XK->Prop
abbrev V8:=List Env->Hp->Shared->XK->Value->Shared->Prop
structure RD (P:Program)(w:World)(K:PySem.W.Frag)(mg:Str->Option Value)(base:Heap)(A:Around)(outer:List Env)(s:Shared)(H:Hp):Prop where
 frames:A.frames=some outer
 mod:Mod K mg base
 bs:∀ b o,base.get? b=some o->s.heap.get? b=some o/\H b=none
 bsz:base.objs.size<=s.heap.objs.size
 funs:s.heap.FunFrames base outer
 frf:∀ b∈frs outer,H b=none
 hok:ZD P w H s.heap
 bare:AllBare s.gens
def CE (outer:List Env)(P:Program)(w:World)(H:Hp)(s:Shared)(Q:VK)(u:Value)(s':Shared):Prop :=∃ v H',s'.os=s.os/\AllBare s'.gens/\Un (frs outer) [] H H' s.heap s'.heap/\ZD P w H' s'.heap/\RelV v u/\Q v H'
def CR (CX:V8)(outer:List Env)(P:Program)(w:World)(H:Hp)(s:Shared)(Q:VK)(E:XK)(r:Result)(s':Shared):Prop :=
 match r with
 |.ok (.ret u)=>CE outer P w H s Q u s'
 |.ok _=>False
 |.error e=>CX outer H s E e s'
structure YK (P:Program)(w:World)(K:PySem.W.Frag)(mg:Str->Option Value)(base:Heap)(CX:V8)(k:Nat)(f:Addr)(fd:FuncData)(ps:List Str)(sp:Sp):Prop where
 len:∀ vs H Q E,sp vs H Q E->vs.length=ps.length
 run:∀ (A:Around) (outer:List Env) (s:Shared) (H:Hp) (args:Args) (us:List Value) (vs:List V) (Q:VK) (E:XK),zN k A->RD P w K mg base A outer s H->BindsTo s fd args (ps.zip us)->Vals vs us->sp vs H Q E ->
  codeAny (model P w) A (.call (.ref f) args) (CR CX outer P w H s Q E) s
theorem YK.mono {K:PySem.W.Frag}{base:Heap}{k:Nat}{sp:Sp}(F:YK P w K mg base CX j f fd ps sp)(h:j<=k) :
  YK P w K mg base CX k f fd ps sp:=⟨F.len,fun A outer s H args us vs Q E hr=>F.run A outer s H args us vs Q E (hr.mono h)⟩
def RD.make {K:PySem.W.Frag}{base:Heap}(e:RD P w K mg base A outer s H)(C:Addr)(us:List Value)(kw:List (Str×Value)) :
  RD P w K mg base (A.under (.builtin "type.__call__" ⟨.ref C::us,kw⟩)) outer s H:=⟨by first | exact e.frames | (simpa [Around.under,Code.envs,Code.isFrame,pushEnvs]using e.frames),e.mod,e.bs,e.bsz,e.funs,e.frf,e.hok,e.bare⟩
section
variable {X:Cx}{Z9:List (Addr×Obj)}{U:St}{H:Hp}{s s':Shared}
def Inv.env0 (I:Inv X Z9 U H s):RD X.prog X.w X.K X.mg X.base X.A X.stack s H :=⟨I.ok.frames,I.ok.mod,I.bs,qW I.ok.bsz I.sz,I.stack,I.stkFree,I.hok,I.bare⟩
def Inv.after (I:Inv X Z9 U H s)(h:CE X.stack X.prog X.w H s Q u s'):EP X Z9 U Q u s':=by obtain⟨v,H',os,bare,un,hok,r,q⟩:=h;obtain⟨hh,g,d,t,os'⟩:=s';obtain rfl:os'=s.os:=os;exact⟨v,H',I.call (h':=hh) (g':=g) (d':=d) (t':=t) (ch:=[]) un hok bare (fun b z=>absurd z (by simp)),r,q⟩
end
def Df (sp:Sp)(dvs:List V)(E:XK)(t:TA):TE:=fun U H Q=>t U H fun vs H1=>sp (vs++dvs) H1 Q E
def Binds (K:PySem.W.Frag)(fd:FuncData)(ps:List Str)(ds:List Value):Prop :=∀ (s:Shared) (us:List Value),K.In s.heap->(us++ds).length=ps.length->BindsTo s fd ⟨us,[]⟩ (ps.zip (us++ds))
def Binds.all {K:PySem.W.Frag}{fd:FuncData}{ps:List Str}(h:∀ us:List Value,us.length=ps.length->bindArgs fd ⟨us,[]⟩=pure (ps.zip us)):Binds K fd ps []:=fun s us _ hl=>by rw[Xn]at hl ⊢;exact .of_eq (h us hl)
def Passes (CX:V8)(X:Cx)(E:XK):Prop:=∀ (Z9:List (Addr×Obj)) (U:St) (H:Hp) (s:Shared) (e:Value) (s':Shared),Inv X Z9 U H s->CX X.stack H s E e s'->X.xe e s'
section
variable {X:Cx}{CX:V8}{k:Nat}{f C:Addr}{fd:FuncData}{ps:List Str}{sp:Sp}{dvs:List V}{ds:List Value}{E:XK}{x m:Str}{p pos apos:Pos}{e o:Expr}{es:List Expr}{ta:TE}{t:TA}
def zsY {Q:VK}(F:YK X.prog X.w X.K X.mg X.base CX k f fd ps sp)(hr:zN k X.A)(hb:Binds X.K fd ps ds)(hd:Vals dvs ds)(hx:Passes CX X E)(I:Inv X Z9 U H s)(r:Vals vs us)(h:sp (vs++dvs) H Q E):wpAny (model X.prog X.w) X.A (call (.ref f) us) (EP X Z9 U Q) X.xe s:=by
 have r2:Vals (vs++dvs) (us++ds):=r.append hd;have hl:(us++ds).length=ps.length:=by rw[<- r2.length];exact F.len _ _ _ _ h
 refine wpAny_call (codeAny_mono (F.run X.A X.stack s H ⟨us,[]⟩ (us++ds) (vs++dvs) Q E hr I.env0 (hb s us I.kIn hl) r2 h) fun r s' hq=>?_);cases r with
 |error e=>exact hx Z9 U H s e s' I hq
 |ok fl =>
  cases fl with
  |ret u=>exact I.after hq
  |next=>exact False.elim hq
  |brk=>exact False.elim hq
  |cont=>exact False.elim hq
def zsx (F:YK X.prog X.w X.K X.mg X.base CX k f fd ps sp)(hr:zN k X.A)(hg:Gl X x)(hm:X.mg x=some (.ref f))(hk:PySem.W.keepIn X.K (.ref f)=true)(hb:Binds X.K fd ps ds)(hd:Vals dvs ds)(hx:Passes CX X E)
  (ha:PA X (e::es) t) (hdb:(x==("__debug__":Str))=false:=by decide) (he:starEach (e::es) X.env=(false,eval e X.env)::starEach es X.env:=by rfl) (hpl:(backTo pos (starEach es X.env)).any (·.1)=false:=by rfl) :
  PE X (.Call (.Name x p) (e::es) [] pos) (Df sp dvs E t):=by
 intro Z9 s U H Q I h;refine wpAny_Call_Name_kw (Ql I hg hm ?_ hdb);refine PySem.W.callWith_K (h₀:=X.base) I.ok.mod.kin hk (Z2 (ha pos Z9 s U H _ I h) fun us s1 ⟨vs,H1,I1,r,q⟩=>⟨I1.kIn,?_⟩) he hpl;exact zsY F hr hb hd hx I1 r q
structure Mk (K:PySem.W.Frag)(C f:Addr):Prop where
 makes:PySem.W.makesIn K C=true
 init:PySem.W.findIn K (.ref C) "__init__"=some (some (.ref f))
 fn:PySem.W.isFn K (.ref f)=true
 kp:PySem.W.keepIn K (.ref C)=true
def Ż {Q:VK}(M:Mk X.K C f)(F:YK X.prog X.w X.K X.mg X.base CX k f fd ps sp)(hr:zN (k+1) X.A)(hb:Binds X.K fd ps ds)(hd:Vals dvs ds)(hx:Passes CX X E)(I:Inv X Z9 U H s)(r:Vals vs us)(h:∀ x dx,H x=none->H dx=none->dx≠x->sp (.ref x::(vs++dvs)) (upd (upd H dx (.own x)) x (.ins C dx [])) (fun v H2=>v=.non/\Q (.ref x) H2) E) :
  wpAny (model X.prog X.w) X.A (call (.ref C) us) (EP X Z9 U Q) X.xe s:=by
 have hq:=h (s.heap.objs.size+1) s.heap.objs.size (I.hok.fresh (Nat.le_succ _)) (I.hok.fresh (qh _)) (qV (La _));have I2:=Inv.made (C:=C) I;have r2:Vals (V.ref (s.heap.objs.size+1)::(vs++dvs)) (Value.ref (s.heap.objs.size+1)::(us++ds)):=.cons rfl (r.append hd)
 have hl:(Value.ref (s.heap.objs.size+1)::us++ds).length=ps.length:=by have e:=r2.length;rw[F.len _ _ _ _ hq]at e;exact e.symm
 refine wpAny_call (vD (f:=f) I.kIn M.makes M.init (beq_iff_eq.mp M.fn) (codeAny_mono (F.run _ X.stack _ _ ⟨Value.ref (s.heap.objs.size+1)::us,[]⟩ (Value.ref (s.heap.objs.size+1)::(us++ds)) _ _ E (hr.make C us [])
  (I2.env0.make C us []) (hb _ (Value.ref (s.heap.objs.size+1)::us) I2.kIn hl) r2 hq) fun r s' hq'=>?_))
 cases r with
 |error e=>exact hx Z9 U _ _ e s' I2 hq'
 |ok fl =>
  cases fl with
  |ret u =>obtain⟨v,H',I3,rv,ev,q3⟩:=I2.after hq';subst ev;exact⟨rv,⟨V.ref (s.heap.objs.size+1),H',I3,rfl,q3⟩⟩
  |next=>exact False.elim hq'
  |brk=>exact False.elim hq'
  |cont=>exact False.elim hq'
end
section
variable {X:Cx}{CX:V8}{k:Nat}{f C:Addr}{fd:FuncData}{ps ks:List Str}{sp:Sp}{E:XK}{x m:Str}{p pos apos kpos:Pos}{e o:Expr}{es:List Expr}{kws:List Keyword}{te ta:TE}{t tk:TA}{nm:Option Str}
variable {g:List Value->List Value->List Value}{gV:List V->List V->List V}
end
structure Ph (N P:List Str)(sc:Scope):Prop where
 kind:sc.kind=.function
 co:sc.isCoroutine=false
 gen:sc.isGenerator=false
 nd:N.Nodup
 pre:N.take P.length=P
 par:∀ x∈P,sc.names.lookup x=some .local\/sc.names.lookup x=some .cell
 nofree:∀ y∈sc.names,y.2≠.free
theorem v8 {kindOf:Str->Option NameKind}{x:Str}:∀ {binds:List (Str×Value)} {m:Str->Option Value},(∀ v,(x,v)∉binds)->bindL kindOf binds m x=m x
 |[],_,_=>rfl
 |(n,v)::r,m,h=>by
  unfold bindL;rw[v8 fun w hw=>h w (qj _ hw)];split
  ·have:x≠n:=by rintro rfl;exact h v qI
   simp[this]
  ·rfl
theorem oF {kindOf:Str->Option NameKind}{x:Str}:∀ {binds:List (Str×Value)} {m:Str->Option Value},(∀ v,(x,v)∉binds)->bindC kindOf binds m x=m x
 |[],_,_=>rfl
 |(n,v)::r,m,h=>by
  unfold bindC;rw[oF fun w hw=>h w (qj _ hw)];split
  ·rfl
  ·have:x≠n:=by rintro rfl;exact h v qI
   simp[this]
theorem xQ {kindOf:Str->Option NameKind}{x:Str}{v:Value}:∀ {P:List Str} {vs:List Value} {i:Nat} {m:Str->Option Value},P.Nodup->P[i]?=some x->vs[i]?=some v->kindOf x=some .local ->
  bindL kindOf (P.zip vs) m x=some v
 |[],_,_,_,_,h,_,_=>by simp at h
 |_::_,[],_,_,_,_,h,_=>by simp at h
 |p::P,w::vs,0,m,nd,h1,h2,hk=>by simp at h1 h2;subst h1;subst h2;show bindL kindOf ((p,w)::P.zip vs) m p=_;unfold bindL;rw[v8 fun v hv=>(VH.mp nd).1 (Np hv).1,if_pos hk];simp
 |p::P,w::vs,i+1,m,nd,h1,h2,hk=>by show bindL kindOf ((p,w)::P.zip vs) m x=_;unfold bindL;exact xQ (i:=i) (VH.mp nd).2 (by simpa using h1) (by simpa using h2) hk
theorem oJ {kindOf:Str->Option NameKind}{x:Str}{v:Value}:∀ {P:List Str} {vs:List Value} {i:Nat} {m:Str->Option Value},P.Nodup->P[i]?=some x->vs[i]?=some v->kindOf x≠some .local ->
  bindC kindOf (P.zip vs) m x=some v
 |[],_,_,_,_,h,_,_=>by simp at h
 |_::_,[],_,_,_,_,h,_=>by simp at h
 |p::P,w::vs,0,m,nd,h1,h2,hk=>by simp at h1 h2;subst h1;subst h2;show bindC kindOf ((p,w)::P.zip vs) m p=_;unfold bindC;rw[oF fun v hv=>(VH.mp nd).1 (Np hv).1,if_neg hk];simp
 |p::P,w::vs,i+1,m,nd,h1,h2,hk=>by show bindC kindOf ((p,w)::P.zip vs) m x=_;unfold bindC;exact oJ (i:=i) (VH.mp nd).2 (by simpa using h1) (by simpa using h2) hk
def start (N:List Str)(vs:List V):St:=vs.map some++List.replicate (N.length-vs.length) none
def Vr (CX:V8)(P:Program)(w:World)(K:PySem.W.Frag)(mg:Str->Option Value)(base:Heap)(N:List Str)(qual:Str)(scope:Scope)(f:Addr)(cd:Value)(A:Around)(outer:List Env)(s:Shared)(H:Hp)(E:XK):Cx where
 prog:=P
 w:=w
 K:=K
 mg:=mg
 base:=base
 A:=A.deeper (envOfC qual scope s.heap.objs.size f cd)
 N:=N
 s₀:=s
 H₀:=H
 env:=envOfC qual scope s.heap.objs.size f cd
 outer:=outer
 stack:=envOfC qual scope s.heap.objs.size f cd::outer
 ex:=[]
 calm:=true
 fn:=fun _=>true
 pn:=[]
 xe:=fun e s'=>wpAny (model P w) (A.deeper (envOfC qual scope s.heap.objs.size f cd)) (leaving (envOfC qual scope s.heap.objs.size f cd) e) (fun _ s''=>CX outer H s E e s'') (fun e' s''=>CX outer H s E e' s'') s'
def wI {sc:Scope}{n:Nat}{x:Str}(h:sc.names.lookup x=some .cell):∃ c,(cellsFrom n sc.names []).lookup x=some c:=by have q:=PySem.W.cellsFrom_some sc.names n [] (.inl h);exact NP.mp q
def zm5 {CX:V8}{K:PySem.W.Frag}{base:Heap}{qual:Str}{f:Addr}{cd:Value}{A:Around}{s1:Shared}{E:XK}{vs:List V}(S:Ph N ps scope)(hd:A.handled=none)(e0:RD P w K mg base A outer s H)(hl:vs.length=ps.length)(r:Vals vs us)(x:InCallC s s.heap.objs.size (bindL (envOfC qual scope s.heap.objs.size f cd).kindOf (ps.zip us) fun _=>none) (cellsFrom (s.heap.objs.size+1) scope.names []) (bindC (envOfC qual scope s.heap.objs.size f cd).kindOf (ps.zip us) fun _=>none) s1) :
    Inv (Vr CX P w K mg base N qual scope f cd A outer s H E) [] (start N vs) H s1:=by
  have hpl:ps.length<=N.length:=by have:=congrArg List.length S.pre;rw[Vb]at this;lia
  obtain⟨h1,tk,rfl,hk⟩:=x.done;have noA:∀ b:Addr,b∉(Vr CX P w K mg base N qual scope f cd A outer s H E).ex:=fun b z=>absurd (show b∈([]:List Addr)from z) (by simp)
  refine⟨⟨e0.mod,S.kind,rfl,rfl,qh _,fun y z c h1 h2=>?_,fun y hy=>?_,fun y c _ h=>?_,fun _=>hd,Around.frames_deeper e0.frames,.inr ⟨rfl,rfl⟩,fun b z=>absurd z (noA b),e0.bs,e0.bsz,fun b _ _=>noA b,fun b z=>absurd z (noA b),e0.funs,e0.frf⟩,
    rfl,e0.bare,Un.kept hk,⟨_,x.toInCall.ns,fun i y v h1 h2 h3=>?_⟩,fun y c h=>⟨_,x.cell y c h⟩,e0.hok.fresh (qh _),fun y c h=>?_,fun p hp=>absurd (show p∈([]:List (Addr×Obj))from hp) (by simp),e0.hok.kept hk,?_⟩
  . exact name_of_addr x.apart (PySem.mem_of_lookup h1) (PySem.mem_of_lookup h2)
  . have hy:scope.names.lookup y=some .cell\/scope.names.lookup y=some .free:=hy;rcases hy with hy|hy
    . exact wI hy
    . exact absurd rfl (S.nofree _ (PySem.mem_of_lookup hy))
  . exact Lh (x.above y c (PySem.mem_of_lookup h))
  . have hi : i < vs.length := by
      unfold start at h2;by_cases hi:i<vs.length
      . exact hi
      . rw[qe (by simpa using hi)]at h2;rw[K7]at h2;split at h2<;>cases h2
    have ha:vs[i]?=some v:=by
      unfold start at h2;rw[qg (by simpa using hi),qi]at h2;cases e:vs[i]? with
      |none=>rw[e]at h2;cases h2
      |some a=>rw[e]at h2;cases h2;rfl
    obtain⟨u,hu,rv⟩:=r.get ha
    have hp:ps[i]?=some y:=by rw[<- S.pre,Jb (by lia)];exact h1
    have ndP:ps.Nodup:=by rw[<- S.pre];exact S.nd.sublist (List.take_sublist _ _)
    refine⟨u,rv,?_⟩;rcases S.par y (qc hp)with k|k
    . exact .inl ⟨k,xQ ndP hp hu k⟩
    . obtain⟨c,e⟩:=wI (n:=s.heap.objs.size+1) k;refine .inr ⟨.inl k,c,e,?_⟩;have q:=x.cell y c e;rw[oJ ndP hp hu (by show scope.names.lookup y≠_;rw[k];decide)]at q;exact q
  . exact e0.hok.fresh (Lh (x.above y c (PySem.mem_of_lookup h)))
  . unfold start;show _=N.length;rw[qf,qa,qM];lia
def uq {CX:V8}{P:Program}{w:World}{K:PySem.W.Frag}{mg:Str->Option Value}{base:Heap}{k:Nat}{name qual:Str}{params:Arguments}{body:List Stmt}{scope:Scope}{dV kV doc pm cdv ct oc:Value}{an od:Option Addr}{osl:Array (Option Value)}{sp:Sp}(lk:K.lookup f=some ⟨oc,od,.func (PySem.W.fnOf name qual params body scope dV kV doc pm an cdv ct),osl⟩)(hcd:PySem.W.codeIn K cdv qual=true)(S:Ph N ps scope)(len:∀ vs H Q E,sp vs H Q E->vs.length=ps.length)(hbody:∀ (A:Around) (outer:List Env) (s:Shared) (H:Hp) (vs:List V) (Q:VK) (E:XK),zN k (A.deeper (envOfC qual scope s.heap.objs.size f cdv))->sp vs H Q E ->
   ∃ t,Xw (Vr CX P w K mg base N qual scope f cdv A outer s H E) body t/\t { nx:=fun _ H'=>Q .non H',rt:=Q } (start N vs) H) :
  YK P w K mg base CX (k+1) f (PySem.W.fnOf name qual params body scope dV kV doc pm an cdv ct) ps sp:=by
 refine⟨len,fun A outer s H args us vs Q E hr e0 hb r hsp=>?_⟩;have hl:=len _ _ _ _ hsp;have KX:K.In s.heap:=e0.mod.kin.keeps fun b o e=>(e0.bs b o e).1
 have lim:s.heap.NoLimit:=e0.mod.nolimit.keeps fun b o e=>(e0.bs b o e).1
 have hkind:∀ y∈ps.zip us,scope.names.lookup y.1=some .local\/(scope.names.lookup y.1=some .cell/\((cellsFrom (s.heap.objs.size+1) scope.names []).lookup y.1).isSome=true):=by
  rintro⟨n,v⟩ hy;rcases S.par n (Np hy).1 with q|q
  ·exact .inl q
  ·exact .inr ⟨q,PySem.W.cellsFrom_some _ _ _ (.inl q)⟩
 refine codeAny_call_function hr.depth (KX _ _ lk) rfl S.co S.gen rfl (PySem.W.codeRec_of KX hcd) (hb _ _ _ _ ?_);refine wpAny_newFunctionEnv_cells S.kind hkind fun env he s1 x=>?_
 subst he;refine⟨lim.keeps x.toInCall.keep,codeAny_func ?_⟩;obtain⟨t,ht,hq⟩:=hbody A outer s H vs Q E (hr.deeper _) hsp;have I:Inv (Vr CX P w K mg base N qual scope f cdv A outer s H E) [] (start N vs) H s1:=zm5 S hr.hd e0 hl r x;refine wpAny_mono (ht [] s1 (start N vs) H _ I hq) (fun fl s' hs=>?_) fun e s' hs=>hs
 have fin:∀ {σ':St} {H':Hp} {v:V} {u:Value},Inv (Vr CX P w K mg base N qual scope f cdv A outer s H E) [] σ' H' s'->RelV v u->Q v H'->CE outer P w H s Q u s' :=fun {σ' H' v u} J rv q=>⟨v,H',J.os,J.bare,J.base,J.hok,rv,q⟩
 cases fl with
 |ret u =>obtain⟨v,σ',H',J,rv,q⟩:=hs;exact fin J rv q
 |next =>obtain⟨σ',H',J,q⟩:=hs;exact fin (v:=V.non) (u:=Value.none) J rfl q
 |brk =>obtain⟨_,_,_,q⟩:=hs;exact False.elim q
 |cont =>obtain⟨_,_,_,q⟩:=hs;exact False.elim q
section
variable {X:Cx}{x:Str}{p pos:Pos}{e:Expr}{es:List Expr}{t:TA}{id T:String}{r:List V->Hp->VK->Prop}
def pG (r:List V->Hp->VK->Prop)(t:TA):TE:=fun U H Q=>t U H fun vs H1=>r vs H1 Q
def zoc (hc:YJ X (.builtin id) r)(hg:Gl X x)(hm:X.mg x=none)(hv:bootBuiltins x=some (.builtin id))(ha:PA X (e::es) t)(hn:autoParam (x≠"__name__") zR)(hdb:autoParam ((x==("__debug__":Str))=false) zR)
  (he:starEach (e::es) X.env=(false,eval e X.env)::starEach es X.env:=by rfl) (hpl:(backTo pos (starEach es X.env)).any (·.1)=false:=by rfl):PE X (.Call (.Name x p) (e::es) [] pos) (pG r t):=by
 intro Z9 s U H Q I h;refine wpAny_Call_Name_kw (Ua I hg hm hv ?_ hn hdb);exact PyProof.Rows.callWith_builtin1 (Z2 (ha pos Z9 s U H _ I h) fun us s1 zq7=>by obtain⟨vs,H1,I1,r1,q1⟩:=zq7;exact hc Z9 s1 U H1 vs us Q I1 r1 q1) he hpl
def à (hc:YJ X (.type T) r)(hg:Gl X x)(hm:X.mg x=none)(hv:bootBuiltins x=some (.type T))(ha:PA X (e::es) t)(hn:autoParam (x≠"__name__") zR)(hdb:autoParam ((x==("__debug__":Str))=false) zR)
  (he:starEach (e::es) X.env=(false,eval e X.env)::starEach es X.env:=by rfl) (hpl:(backTo pos (starEach es X.env)).any (·.1)=false:=by rfl):PE X (.Call (.Name x p) (e::es) [] pos) (pG r t):=by
 intro Z9 s U H Q I h;refine wpAny_Call_Name_kw (Ua I hg hm hv ?_ hn hdb);exact PyProof.Rows.callWith_type1 (Z2 (ha pos Z9 s U H _ I h) fun us s1 zq8=>by obtain⟨vs,H1,I1,r1,q1⟩:=zq8;exact hc Z9 s1 U H1 vs us Q I1 r1 q1) he hpl
end
end L2
namespace HT
open PySem PyProof.Rows
section
open PySem.SeqAt
open PySem.AutoSeq1 (wpAny_loadPart')
open PySem.MeetsSeq PySem.MeetsSeq2 PySem.MeetsSeq3
end
section
variable {prog:Program}{w:World}{A:Around}{E:Value->Shared->Prop}{s:Shared}
def zqE {t:Addr}{vs ws:List Value}{Q:Value->Shared->Prop}(ht:IsTup s.heap t vs.toArray)(hb:IsTup s.heap b ws.toArray)(hv:vs≠[])(h1:ws=[]->Q (.ref t) s)(h2:ws≠[]->Q (.ref s.heap.objs.size) { s with heap:=s.heap.push { cls:=.type "tuple",data:=.seq (vs++ws).toArray } })(hsz:vs.length+ws.length<=sizeLine):wpAny (model prog w) A (binaryOp .Add (.ref t) (.ref b)) Q E s:=by
 obtain⟨⟨cls,dd,data,sl⟩,ho,hc,n,hd⟩:=id ht;obtain⟨⟨cls2,dd2,data2,sl2⟩,ho2,hc2,n2,hd2⟩:=id hb;simp only at hc hd hc2 hd2;subst hc hd hc2 hd2;have e:vs.toArray++ws.toArray=(vs++ws).toArray:=by simp
 by_cases hw:ws=[]
 ·exact concat_meets ⟨_,ho,rfl⟩ ⟨_,ho2,rfl⟩ noFill_tuple_add seq_tuple_add PySem.F.slot_tuple_add PySem.F.entry_tuple_add (PySem.F.args_tuple_add_2 _ _)
   (tuple_addW1 t b vs.toArray ws.toArray n n2 dd dd2 sl sl2 (by simpa using hv) (by simp[hw])) ⟨ho,ho2,h1 hw⟩
 ·refine concat_meets ⟨_,ho,rfl⟩ ⟨_,ho2,rfl⟩ noFill_tuple_add seq_tuple_add PySem.F.slot_tuple_add PySem.F.entry_tuple_add (PySem.F.args_tuple_add_2 _ _)
   (tuple_addW2 t b vs.toArray ws.toArray n n2 dd dd2 sl sl2 (by simpa using hv) (by simpa using hw) (by rw[qo,qo];exact hsz)) ⟨ho,ho2,?_⟩
  rw[e];exact h2 hw
def sIx (n d:Nat):Option Int->Nat
 |none=>d
 |some v=>if v<0 then(v+(n:Int)).toNat else min v.toNat n
def xO (n d:Nat)(hd:d<=n)(o:Option Int):sIx n d o<=n:=by
 cases o with
 |none=>exact hd
 |some v =>
  show(if v<0 then(v+(n:Int)).toNat else min v.toNat n)<=n;by_cases hv:v<0
  ·rw[if_pos hv];lia
  ·rw[if_neg hv];exact Nat.min_le_right _ _
def pO (v:Int)(n d:Nat):(if v<0 then max (v+(n:Int)) 0 else min v (n:Int))=((sIx n d (some v):Nat):Int):=by
 show(if v<0 then max (v+(n:Int)) 0 else min v (n:Int))=(((if v<0 then(v+(n:Int)).toNat else min v.toNat n):Nat):Int);by_cases hv:v<0
 ·simp only[if_pos hv];lia
 ·simp only[if_neg hv];lia
def Ϙ (lo hi:Option Int)(n:Nat):Builtin.Slice.sliceAdjust lo hi 1 (n:Int)=(((sIx n 0 lo:Nat):Int),((sIx n n hi:Nat):Int)):=by
 have h1:¬ ((1:Int)<0):=by lia
 unfold Builtin.Slice.sliceAdjust;simp only[h1,if_false];refine Uc ?_ ?_
 ·cases lo with
  |none=>rfl
  |some v=>exact pO v n 0
 ·cases hi with
  |none=>rfl
  |some v=>exact pO v n n
def zlI (i j:Nat):Builtin.Slice.slicePlaces (i:Int) (j:Int) 1=j-i:=by
  unfold Builtin.Slice.slicePlaces;have h1:(1:Int) > 0:=by lia
  simp only[h1,if_true,Int.ediv_one];split<;>lia
def Av {Q:Option Int->Shared->Prop}(p:IsPart v o)(h:Q o s):wpAny (model prog w) A (Builtin.Slice.slicePartIndex v) Q E s:=by
 cases p with
 |none=>exact slicePart_none h
 |int i t=>exact slicePart_int h
def uJ {sl:Addr}{vl vu:Value}{lo:Option Int}{n:Nat}{Q:Int×Int×Nat->Shared->Prop}(hs:s.heap.IsSliceOf sl vl vu .none)(pl:IsPart vl lo)(pu:IsPart vu hi)(h:Q (((sIx n 0 lo:Nat):Int),1,sIx n n hi-sIx n 0 lo) s):wpAny (model prog w) A (Builtin.Slice.sliceApplied (.ref sl) (pure (n:Int))) Q E s:=by obtain⟨os,hos,hcs,hds⟩:=id hs;unfold Builtin.Slice.sliceApplied Builtin.Slice.sliceFields;refine wpAny_bind (wpAny_bind (wpAny_field hos hds (x:=vl) rfl (wpAny_bind (wpAny_field hos hds (x:=vu) rfl (wpAny_bind (wpAny_field hos hds (x:=.none) rfl (wpAny_pure ?_)))))));refine wpAny_bind (slicePart_none ?_);show wpAny _ _ (if((1:Int)==0)=true then _ else _) _ _ s;rw[if_neg (by decide)];refine wpAny_bind (Av pl (wpAny_bind (Av pu (wpAny_bind (wpAny_pure ?_)))));show wpAny _ _ (match Builtin.Slice.sliceAdjust lo hi 1 (n:Int)with|(lo,hi)=>pure (lo,(1:Int),Builtin.Slice.slicePlaces lo hi 1)) _ _ s;rw[Ϙ lo hi n];show wpAny _ _ (pure (((sIx n 0 lo:Nat):Int),(1:Int),Builtin.Slice.slicePlaces ((sIx n 0 lo:Nat):Int) ((sIx n n hi:Nat):Int) 1)) _ _ s;rw[zlI];exact wpAny_pure h
def aB (xs:Array Value)(i k:Nat):((List.range k).filterMap fun (m:Nat)=>xs[((i:Int)+(m:Int)*1).toNat]?).toArray=((xs.toList.drop i).take k).toArray:=by
 have e:(fun (m:Nat)=>xs[((i:Int)+(m:Int)*1).toNat]?)=fun m=>xs[i+m]?:=by
  funext m;have:((i:Int)+(m:Int)*1).toNat=i+m:=by lia
  rw[this]
 rw[e];have:=pick_run xs i k;rw[List.filterMap_map]at this;have e2:((fun x=>xs[x]?) ∘ fun x=>i+x)=fun m=>xs[i+m]?:=rfl
 rw[e2]at this;rw[this]
def zfV {t sl:Addr}{items:Array Value}{vl vu:Value}{lo:Option Int}{Q:Value->Shared->Prop}(ht:IsTup s.heap t items)(hs:s.heap.IsSliceOf sl vl vu .none)(pl:IsPart vl lo)(pu:IsPart vu hi)(hw:¬ (sIx items.size 0 lo=0/\sIx items.size items.size hi=items.size))(h:Q (.ref s.heap.objs.size) { s with heap:=s.heap.push { cls:=.type "tuple",data:=.seq ((items.toList.drop (sIx items.size 0 lo)).take (sIx items.size items.size hi-sIx items.size 0 lo)).toArray } })(hsz:items.size<=sizeLine):wpAny (model prog w) A (getItem (.ref t) (.ref sl)) Q E s:=by
 have htake:sizeOk (.seq ((items.toList.drop (sIx items.size 0 lo)).take (sIx items.size items.size hi-sIx items.size 0 lo)).toArray):=by show((items.toList.drop (sIx items.size 0 lo)).take (sIx items.size items.size hi-sIx items.size 0 lo)).toArray.size<=sizeLine;rw[qo,Vb,K5,Va];lia
 have hj:sIx items.size items.size hi<=items.size:=xO _ _ (qh _) hi;obtain⟨os,hos,hcs,hds⟩:=id hs;have hTs:s.TypeIs (.ref sl) "slice":=⟨os,hos,hcs⟩
 unfold getItem
 try with_reducible refine wpAny_holding ?_
 first|refine wpAny_bind (wpAny_pure ?_)|skip
 refine wpAny_bind (wpAny_sequenceKey ht.typeIs (by decide) ?_)
 refine wpAny_bind (wpAny_callSpecial?_slot (name:=Str.ofString "__getitem__") ht.typeIs PyProof.Rows.slot_tuple_getitem
  (wpAny_call_entry PyProof.Rows.slot_tuple_getitem ht.typeIs entry_tuple_getitem ?_ (args_tuple_getitem _ _)))
 show wpAny _ _ (Builtin.Tuple.tupleItemsOf (.ref t) >>= _) _ _ s;refine wpAny_bind (tupleItemsOf_ ht ?_);refine wpAny_bind (wpAny_typeOf hTs ?_);rw[if_pos (by decide)];refine wpAny_bind (uJ hs pl pu ?_)
 have hno:¬ ((((sIx items.size 0 lo:Nat):Int)==0&&(1:Int)==1&&(sIx items.size items.size hi-sIx items.size 0 lo)==items.size)=true):=by intro q;rw[qw,qw]at q;have q1:((sIx items.size 0 lo:Nat):Int)=0:=eq_of_beq q.1.1;have q2:sIx items.size items.size hi-sIx items.size 0 lo=items.size:=eq_of_beq q.2;exact hw ⟨by lia,by lia⟩
 show wpAny _ _ (if(((sIx items.size 0 lo:Nat):Int)==0&&(1:Int)==1&&(sIx items.size items.size hi-sIx items.size 0 lo)==items.size)=true then _ else _) _ _ s;rw[if_neg hno,aB]
 first
  |exact wpAny_bind (m:=Builtin.Tuple.tupleExact _) (wpAny_newObj_type (wpAny_pure ⟨_,rfl,wpAny_pure h⟩) htake)
  |exact wpAny_bind (m:=Builtin.Tuple.tupleExact _) (wpAny_newObj_type (wpAny_bind (wpAny_pure (wpAny_pure ⟨_,rfl,wpAny_pure h⟩))) htake)
  |exact wpAny_bind (wpAny_bind (m:=Builtin.Tuple.tupleExact _) (wpAny_newObj_type (wpAny_pure (wpAny_pure ⟨_,rfl,wpAny_pure h⟩)) htake))
  |exact wpAny_bind (wpAny_bind (m:=Builtin.Tuple.tupleExact _) (wpAny_newObj_type (wpAny_pure ⟨_,rfl,wpAny_pure h⟩) htake))
end
end HT
namespace L2
open PySem PySem.Spec PyProof.Rows
abbrev TO:=St->Hp->(Option Int->Hp->Prop)->Prop
def PO (X:Cx)(e:Option Expr)(t:TO):Prop :=
 ∀ (Z9:List (Addr×Obj)) (s:Shared) (U:St) (H:Hp) (Q:Option Int->Hp->Prop),Inv X Z9 U H s->t U H Q ->
  wpAny (model X.prog X.w) X.A (evalPart e X.env) (fun u s'=>∃ o H',Inv X Z9 U H' s'/\IsPart u o/\Q o H') X.xe s
def zqG:TO:=fun _ H Q=>Q none H
def zwi (t:TE):TO:=fun U H Q=>t U H fun x H1=>∃ i,x=.int i/\Q (some i) H1
section
variable {X:Cx}{e:Expr}{te:TE}{lo hi:Option Expr}{tl th:TO}{pos p2:Pos}
def zq6:PO X none zqG:=by intro Z9 s U H Q I h;rw[evalPart_none];exact wpAny_pure ⟨none,H,I,.none,h⟩
def jX (h:PE X e te):PO X (some e) (zwi te):=by
 intro Z9 s U H Q I hw;rw[evalPart_some];refine Z2 (h Z9 s U H _ I hw) fun u s1 ⟨x,H1,I1,r1,q1⟩=>?_
 obtain⟨i,rfl,q⟩:=q1;obtain⟨t,rfl⟩:=r1;exact⟨some i,H1,I1,.int i t,q⟩
def Sh (X:Cx)(r:V->Option Int->Option Int->Hp->VK->Prop):Prop :=
 ∀ (Z9:List (Addr×Obj)) (s:Shared) (U:St) (H:Hp) (x:V) (v vl vu:Value) (lo hi:Option Int) (sl:Addr) (Q:VK),Inv X Z9 U H s->RelV x v->s.heap.IsSliceOf sl vl vu .none->IsPart vl lo->IsPart vu hi->r x lo hi H Q ->
  ∃ T id,typeLookup (.type T) "__getitem__"=pure (some (.builtin id))/\s.TypeIs v T/\wpAny (model X.prog X.w) X.A (getItem v (.ref sl)) (EP X Z9 U Q) X.xe s
def Sh.or (h:Sh X r)(h':Sh X r'):Sh X (fun x lo hi H Q=>r x lo hi H Q\/r' x lo hi H Q):=by
 intro Z9 s U H x v vl vu lo hi sl Q I rx hs pl pu q;rcases q with q|q
 ·exact h Z9 s U H x v vl vu lo hi sl Q I rx hs pl pu q
 ·exact h' Z9 s U H x v vl vu lo hi sl Q I rx hs pl pu q
def tSl (r:V->Option Int->Option Int->Hp->VK->Prop)(te:TE)(tl th:TO):TE:=fun U H Q=>te U H fun x H1=>tl U H1 fun l H2=>th U H2 fun u H3=>r x l u H3 Q
def aU (hr:Sh X r)(he:PE X e te)(hl:PO X lo tl)(hu:PO X hi th):PE X (.Subscript e (.Slice lo hi none p2) pos) (tSl r te tl th):=by
 intro Z9 s U H Q I h;refine Subscript_ (Z2 (he Z9 s U H _ I h) fun v s1 ⟨x,H1,I1,r1,q1⟩=>?_);refine wpAny_Slice (Z2 (hl Z9 s1 U H1 _ I1 q1) fun vl s2 ⟨l,H2,I2,pl,q2⟩=>Z2 (hu Z9 s2 U H2 _ I2 q2) fun vu s3 ⟨u,H3,I3,pu,q3⟩=>?_);rw[evalPart_none];refine wpAny_pure ?_;have I4:Inv X Z9 U H3 { s3 with heap:=s3.heap.push { cls:=.type "slice",data:=.fields #[vl,vu,.none] } }:=I3.kept (t':=s3.toks) fun b ob q=>qd _ q
 obtain⟨T,id,hT,ht,hg⟩:=hr Z9 { s3 with heap:=s3.heap.push { cls:=.type "slice",data:=.fields #[vl,vu,.none] } } U H3 x v vl vu l u s3.heap.objs.size Q I4 r1 (Heap.IsSliceOf.new ..) pl pu q3;show wpAny (model X.prog X.w) X.A (subscriptTail e (.Slice lo hi none p2) v (.ref s3.heap.objs.size)) (EP X Z9 U Q) X.xe { s3 with heap:=s3.heap.push { cls:=.type "slice",data:=.fields #[vl,vu,.none] } };exact tail_any (ops:=[.ref s3.heap.objs.size,v]) ht hT hg (by with_unfolding_all rfl)
def U0 (xs:List V)(lo hi:Option Int):List V:=(xs.drop (HT.sIx xs.length 0 lo)).take (HT.sIx xs.length xs.length hi-HT.sIx xs.length 0 lo)
def nG (xs:List V)(lo hi:Option Int):(U0 xs lo hi).length<=xs.length:=by unfold U0;rw[Vb,K5];lia
def ł (K:PySem.W.Frag):V->Option Int->Option Int->Hp->VK->Prop:=fun x lo hi H Q=>∃ a xs,x=.ref a/\ZM K H a xs /\
 ¬ (HT.sIx xs.length 0 lo=0/\HT.sIx xs.length xs.length hi=xs.length)/\∀ p,H p=none->Q (.ref p) (upd H p (.tup (U0 xs lo hi)))
def zuP:Sh X (ł X.K):=by
 intro Z9 s U H x v vl vu lo hi sl Q I rx hs pl pu h;obtain⟨a,xs,rfl,hx,hw,q⟩:=h;cases rx;obtain⟨its,r,ht,hz⟩:=I.tuple hx;have hlen:its.toArray.size=xs.length:=by rw[qo];exact r.length.symm
 refine⟨"tuple",_,PyProof.Rows.slot_tuple_getitem.lookup,ht.typeIs,?_⟩;refine HT.zfV ht hs pl pu (by rw[hlen];exact hw) ?_ (by rw[hlen];exact hz);rw[hlen];refine⟨.ref s.heap.objs.size,_,I.laid (t':=s.toks) (o:=.tup (U0 xs lo hi)) (fun b ob q=>qd _ q) (qh _) ?_,rfl,q _ (I.hok.fresh (qh _))⟩;exact⟨qW (nG xs lo hi) hz,_,(r.drop (HT.sIx xs.length 0 lo)).take (HT.sIx xs.length xs.length hi-HT.sIx xs.length 0 lo),IsTup.new _ _⟩
def mD (K:PySem.W.Frag):R2:=fun x y H Q=>∃ a b xs ys,x=.ref a/\y=.ref b/\ZM K H a xs/\ZM K H b ys/\xs≠[]/\xs.length+ys.length<=sizeLine /\
 (ys=[]->Q (.ref a) H)/\(ys≠[]->∀ p,H p=none->Q (.ref p) (upd H p (.tup (xs++ys))))
def Vals.nil_iff (r:Vals xs us):us=[]↔xs=[]:=by
 cases r with
 |nil=>simp
 |cons _ _=>simp
def î:ZF X (binaryOp .Add) (mD X.K):=by intro Z9 s U H x y v u Q I rx ry h;obtain⟨a,b,xs,ys,rfl,rfl,ha,hb,hx,hz,q1,q2⟩:=h;cases rx;cases ry;obtain⟨its,r1,p1,_⟩:=I.tuple ha;obtain⟨its2,r2,p2,_⟩:=I.tuple hb;refine HT.zqE p1 p2 (fun z=>hx (r1.nil_iff.mp z)) (fun z=>⟨.ref a,H,I,rfl,q1 (r2.nil_iff.mp z)⟩) (fun z=>?_) (by rw[<- r1.length,<- r2.length];exact hz);refine⟨.ref s.heap.objs.size,_,I.laid (t':=s.toks) (o:=.tup (xs++ys)) (fun b ob q=>qd _ q) (qh _) ?_,rfl,q2 (fun w=>z (r2.nil_iff.mpr w)) _ (I.hok.fresh (qh _))⟩;exact⟨by rw[qf];exact hz,_,r1.append r2,IsTup.new _ _⟩
end
def Pn (n:Nat)(i:Int):Option Nat:=if 0<=i then(if i<n then some i.toNat else none)else if -(n:Int)<=i then some (i+n).toNat else none
def Rx (xs:List α)(i:Int):Option α:=(Pn xs.length i).bind fun j=>xs[j]?
def xY {n:Nat}{i:Int}{j:Nat}(h:Pn n i=some j):seqIndex? i n=some j/\j<n/\-(n:Int)<=i/\i<n:=by
 unfold Pn at h;by_cases h0:0<=i
 ·rw[if_pos h0]at h;by_cases h1:i<n
  ·rw[if_pos h1]at h;have e:i.toNat=j:=qF h;exact⟨by rw[seqIndex_of h0 h1,e],by lia,by lia,h1⟩
  ·rw[if_neg h1]at h;cases h
 ·rw[if_neg h0]at h;by_cases h1:-(n:Int)<=i
  ·rw[if_pos h1]at h;have e:(i+n).toNat=j:=qF h;exact⟨by rw[seqIndex_neg (by lia) h1,e],by lia,h1,by lia⟩
  ·rw[if_neg h1]at h;cases h
def DN {α:Type}{xs:List α}{i:Int}{v:α}(h:Rx xs i=some v):∃ j,seqIndex? i xs.length=some j/\xs[j]?=some v/\j<xs.length/\-(xs.length:Int)<=i/\i<xs.length:=by
 unfold Rx at h;cases e:Pn xs.length i with
 |none=>rw[e]at h;cases h
 |some j =>rw[e]at h;obtain⟨h1,h2,h3,h4⟩:=xY e;exact⟨j,h1,h,h2,h3,h4⟩
def G7 (b:Expr):Prop:=∀ o i,subscripted b false o i=operate [o,i] (getItem o i)
def Tg (X:Cx)(r:R2):Prop :=
 ∀ (value slice:Expr) (Z9:List (Addr×Obj)) (s:Shared) (U:St) (H:Hp) (x y:V) (v u:Value) (Q:VK),Inv X Z9 U H s->RelV x v->RelV y u->r x y H Q ->
  subscripted slice false v u=operate [v,u] (getItem v u)->wpAny (model X.prog X.w) X.A (subscriptTail value slice v u) (EP X Z9 U Q) X.xe s
def Ij (X:Cx)(id:String)(r:V->List V->Hp->VK->Prop):Prop :=
 ∀ (Z9:List (Addr×Obj)) (s:Shared) (U:St) (H:Hp) (x:V) (xs:List V) (v:Value) (us:List Value) (Q:VK),Inv X Z9 U H s->RelV x v->Vals xs us->r x xs H Q ->
  wpAny (model X.prog X.w) X.A (call (.builtin id) (v::us)) (EP X Z9 U Q) X.xe s
section
variable {X:Cx}{a b:Expr}{ta tb:TE}{pos:Pos}
def Tg.or (h:Tg X r)(h':Tg X r'):Tg X (fun x y H Q=>r x y H Q\/r' x y H Q):=by
 intro value slice Z9 s U H x y v u Q I rx ry q hs;rcases q with q|q
 ·exact h value slice Z9 s U H x y v u Q I rx ry q hs
 ·exact h' value slice Z9 s U H x y v u Q I rx ry q hs
def zwu (hr:Tg X r)(ha:PE X a ta)(hb:PE X b tb)(hs:G7 b):PE X (.Subscript a b pos) (Ms r ta tb):=by intro Z9 s U H Q I h;exact Subscript_ (Eb ha hb I h fun v u s2 x y H2 I2 rx ry q=>hr a b Z9 s2 U H2 x y v u Q I2 rx ry q (hs _ _))
def zy6 (K:PySem.W.Frag):R2:=fun x y H Q=>∃ p xs i v,x=.ref p/\y=.int i/\ZC K H p xs/\Rx xs i=some v/\Q v H
def gP (K:PySem.W.Frag):R2:=fun x y H Q=>∃ p xs i v,x=.ref p/\y=.int i/\ZM K H p xs/\Rx xs i=some v/\Q v H
def zyA:R2:=fun x y H Q=>∃ z i c,x=.str z/\y=.int i/\z.length<=sizeLine/\Rx z.cps.toList i=some c/\Q (.str ⟨#[c]⟩) H
def zqn:Tg X (zy6 X.K):=by
  intro value slice Z9 s U H x y v u Q I rx ry h hs;obtain⟨p,xs,i,z,rfl,rfl,hq,he,q⟩:=h;cases rx;obtain⟨t,rfl⟩:=ry;obtain⟨its,r,pl,hz⟩:=I.list hq;obtain⟨j,h1,h2,h3,h4,h5⟩:=DN he;obtain⟨w,ew,rw'⟩:=r.get h2;have hl:=r.length;have hn:=PX;have fin:EP X Z9 U Q w s:=⟨z,H,I,rw',q⟩
  by_cases h0:0<=i
  . have hj : i.toNat = j := by
      rw[seqIndex_of h0 h5]at h1;exact qF h1
    exact item_listR pl.isList h0 (by lia) (by rw[hj];simpa using ew) fin hs
  . have hj : (i + (its.toArray.size : Int)).toNat = j := by
      rw[seqIndex_neg (by lia) h4]at h1;rw[qo,<- hl];exact qF h1
    exact subscriptTail_builtinR (x:=w) pl.isList.typeIs slot_list_getitem.lookup
      (wpAny_getItem_list_neg (Q:=fun r s'=>r=w/\EP X Z9 U Q r s') pl.isList (by lia) (by rw[qo]<;>lia) (by lia) (by rw[hj];simpa using ew) ⟨rfl,fin⟩) hs
def ş:Tg X (gP X.K):=by
 intro value slice Z9 s U H x y v u Q I rx ry h hs;obtain⟨p,xs,i,z,rfl,rfl,hq,he,q⟩:=h;cases rx;obtain⟨t,rfl⟩:=ry;obtain⟨its,r,pl,hz⟩:=I.tuple hq;obtain⟨j,h1,h2,h3,h4,h5⟩:=DN he;obtain⟨w,ew,rw'⟩:=r.get h2;have hl:=r.length;have hn:=PX;have fin:EP X Z9 U Q w s:=⟨z,H,I,rw',q⟩
 exact subscriptTail_builtinR (x:=w) pl.typeIs slot_tuple_getitem.lookup
  (getItem_tuple (j:=j) (Q:=fun r s'=>r=w/\EP X Z9 U Q r s') pl (by lia) (by lia) (by rw[qo,<- hl];exact h1) (by simpa using ew) ⟨rfl,fin⟩) hs
def Ŏ:Tg X zyA:=by
 intro value slice Z9 s U H x y v u Q I rx ry h hs;obtain⟨z,i,c,rfl,rfl,hz,he,q⟩:=h;obtain⟨t,rfl⟩:=rx;obtain⟨t',rfl⟩:=ry;obtain⟨j,h1,h2,h3,h4,h5⟩:=DN he;have hl:z.cps.toList.length=z.length:=by simp[Str.length]
 rw[hl]at h1 h4 h5;have hn:=PX
 exact tail_any (typeIs_str s z t) slot_str_getitem.lookup (getItem_str (c:=c) (by have e1:decide (i < -(2 ^ 63:Int))=false:=decide_eq_false (by lia);have e2:decide (i ≥ 2 ^ 63)=false:=decide_eq_false (by lia);rw[e1,e2,Bool.or_false]) (by rw[h1];simpa using h2) ⟨.str ⟨#[c]⟩,H,I.tok _,⟨_,rfl⟩,q⟩) hs
def zlZ (its:List Value)(n j:Nat)(u:Value):Obj.mapSeq (·.setIfInBounds j u) { cls:=.type "list",data:=.seq its.toArray n }={ cls:=.type "list",data:=.seq (its.set j u).toArray n }:=by simp[Obj.mapSeq]
theorem Inv.lst {xs:List V}(I:Inv X Z9 U H s)(h:H p=some (.lst xs)) :
  ∃ (its:List Value) (n:Nat),Vals xs its/\s.heap.get? p=some { cls:=.type "list",data:=.seq its.toArray n }/\xs.length<=sizeLine:=by
 obtain⟨z,its,n,r,e⟩:=I.hok p _ h;exact⟨its,n,r,e,z⟩
def Inv.lstUpd {xs:List V}{its its':List Value}{n n':Nat}{f:Obj->Obj}(I:Inv X Z9 U H s)(h:H p=some (.lst xs))(ho:s.heap.get? p=some { cls:=.type "list",data:=.seq its.toArray n })(hf:f { cls:=.type "list",data:=.seq its.toArray n }={ cls:=.type "list",data:=.seq its'.toArray n' })(r:Vals ys its')(hz:ys.length<=sizeLine)(t:Nat) :
    Inv X Z9 U (upd H p (.lst ys)) { s with heap:=s.heap.update p f,toks:=t }:=by
  have e:(s.heap.update p f).get? p=some { cls:=.type "list",data:=.seq its'.toArray n' }:=by rw[Heap.get?_update_self f ho (by rw[hf]<;>rfl),hf]
  refine I.write (x:=p) (e:=p) (by rw[h];trivial) (.inl rfl) (fun b u hb q=>(Heap.get?_update_other _ _ (Ne.symm hb)).trans q) ⟨_,e⟩ ?_;exact⟨hz,its',n',r,e⟩
def zwY:V->V->V->Hp->(Hp->Prop)->Prop:=fun o i v H Q=>∃ p xs k j,o=.ref p/\i=.int k/\H p=some (.lst xs)/\Pn xs.length k=some j/\Q (upd H p (.lst (xs.set j v)))
def set_list:rT X zwY:=by
 intro Z9 s U H o i v ov iv u Q I ro ri rv h;obtain⟨p,xs,k,j,rfl,rfl,hp,hj,q⟩:=h;cases ro;obtain⟨t,rfl⟩:=ri;obtain⟨its,n,r,ho,hz⟩:=I.lst hp;obtain⟨h1,h2,h3,h4⟩:=xY hj;have hl:=r.length;have hn:=PX
 have I':Inv X Z9 U (upd H p (.lst (xs.set j v))) { s with heap:=s.heap.update p (Obj.mapSeq (·.setIfInBounds j u)) } :=I.lstUpd hp ho (zlZ its n j u) (r.set rv j) (by rw[W8];exact hz) s.toks
 by_cases h0:0<=k
 ·have hk:k.toNat=j:=by
   rw[seqIndex_of h0 h4]at h1;exact qF h1
  exact PySem.W.ki_setAt ho h0 (by lia) (by rw[qo,<- hl];exact h4) (by rw[hk];exact⟨_,I',q⟩)
 ·have hk:(k+(its.toArray.size:Int)).toNat=j:=by
   rw[seqIndex_neg (by lia) h3]at h1;rw[qo,<- hl];exact qF h1
  exact PySem.W.ki_setBack ho (by lia) (by rw[qo,<- hl];exact h3) (by lia) (by rw[hk];exact⟨_,I',q⟩)
def cI (lo hi:Option Int)(n:Nat):(sliceBounds lo hi none n).1=((HT.sIx n 0 lo:Nat):Int)/\(sliceBounds lo hi none n).2.1=((HT.sIx n n hi:Nat):Int)/\(sliceBounds lo hi none n).2.2=1:=by
  refine⟨?_,?_,rfl⟩
  . cases lo with
    |none=>simp[sliceBounds,HT.sIx]
    |some i =>
      simp only[sliceBounds,HT.sIx,Option.getD_none,show(1:Int) > 0 by decide,if_true];by_cases h:i<0
      . simp only[h,if_true]<;>lia
      . simp only[h,if_false]<;>lia
  . cases hi with
    |none=>simp[sliceBounds,HT.sIx]
    |some i =>
      simp only[sliceBounds,HT.sIx,Option.getD_none,show(1:Int) > 0 by decide,if_true];by_cases h:i<0
      . simp only[h,if_true]<;>lia
      . simp only[h,if_false]<;>lia
def Š (its:List Value)(lo hi:Option Int):slicePick its.toArray lo hi none=((its.drop (HT.sIx its.length 0 lo)).take (HT.sIx its.length its.length hi-HT.sIx its.length 0 lo)).toArray:=by obtain⟨h1,h2,h3⟩:=cI lo hi its.toArray.size;unfold slicePick;rw[h1,h2,h3];simp only[sliceRange_one,pick_run,qo]<;>rfl
def zyz (K:PySem.W.Frag):V->Option Int->Option Int->Hp->VK->Prop:=fun x lo hi H Q=>∃ a xs,x=.ref a/\ZC K H a xs/\∀ p,H p=none->Q (.ref p) (upd H p (.lst (U0 xs lo hi)))
def ľ:Sh X (zyz X.K):=by intro Z9 s U H x v vl vu lo hi sl Q I rx hs pl pu h;obtain⟨a,xs,rfl,hx,q⟩:=h;cases rx;obtain⟨its,r,ht,hz⟩:=I.list hx;have hlen:=r.length;refine⟨"list",_,slot_list_getitem.lookup,ht.isList.typeIs,?_⟩;refine wpAny_getItem_list_slice ht.isList hs pl pu .none (by simp) ?_ (by rw[qo]<;>lia);rw[Š,<- hlen];refine⟨.ref s.heap.objs.size,_,I.laid (t':=s.toks) (o:=.lst (U0 xs lo hi)) (fun b ob q=>qd _ q) (qh _) ?_,rfl,q _ (I.hok.fresh (qh _))⟩;exact⟨qW (nG xs lo hi) hz,_,0,(r.drop (HT.sIx xs.length 0 lo)).take (HT.sIx xs.length xs.length hi-HT.sIx xs.length 0 lo),qq _ rfl⟩
def ziV:YJ X (.builtin "len") (fun xs H Q=>∃ p ys,xs=[.ref p]/\(ZC X.K H p ys\/ZM X.K H p ys)/\Q (.int ys.length) H):=by
  intro Z9 s U H xs us Q I r h;obtain⟨p,ys,rfl,hq,q⟩:=h;obtain⟨u,rfl,rx⟩:=vals1 r;cases rx;have hn:=PX;rcases hq with hq|hq
  . obtain⟨its,r',pl,hz⟩:=I.list hq;have hlen:=r'.length;exact Calls.call_len_list pl.isList (by simp only[qo]<;>lia) ⟨.int ys.length,H,I.tok _,⟨s.toks+1,by rw[qo,hlen]⟩,q⟩
  . obtain⟨its,r',pl,hz⟩:=I.tuple hq;have hlen:=r'.length;exact len_tuple pl (by simp only[qo]<;>lia) ⟨.int ys.length,H,I.tok _,⟨s.toks+1,by rw[qo,hlen]⟩,q⟩
def Ű:YJ X (.builtin "len") (fun xs H Q=>∃ z,xs=[.str z]/\z.length<=sizeLine/\Q (.int z.length) H):=by intro Z9 s U H xs us Q I r h;obtain⟨z,rfl,hz,q⟩:=h;obtain⟨u,rfl,t,rfl⟩:=vals1 r;have hn:=PX;exact len_str (by lia) ⟨.int z.length,H,I.tok _,⟨_,rfl⟩,q⟩
def YJ.or (h:YJ X f r)(h':YJ X f r'):YJ X f (fun xs H Q=>r xs H Q\/r' xs H Q):=by
 intro Z9 s U H xs us Q I rs q;rcases q with q|q
 ·exact h Z9 s U H xs us Q I rs q
 ·exact h' Z9 s U H xs us Q I rs q
def ē:YJ X (.type "list") (fun xs H Q=>∃ p ys,xs=[.ref p]/\(ZC X.K H p ys\/ZM X.K H p ys)/\∀ l,H l=none->Q (.ref l) (upd H l (.lst ys))):=by
  intro Z9 s U H xs us Q I r h;obtain⟨p,ys,rfl,hq,q⟩:=h;obtain⟨u,rfl,rx⟩:=vals1 r;cases rx
  have fin : ∀ (its : List Value), Vals ys its → ys.length ≤ sizeLine → ∀ (h' : Heap) (c' : Nat), (∀ b o', s.heap.get? b = some o' → h'.get? b = some o') →
      h'.get? s.heap.objs.size=some { cls:=.type "list",dict:=none,data:=.seq its.toArray c',slots:=#[] }->EP X Z9 U Q (.ref s.heap.objs.size) { s with heap:=h' }:=fun its r' hz h' c' kp e =>
    ⟨.ref s.heap.objs.size,_,I.laid (t':=s.toks) kp (qh _) (show zW X.prog X.w _ h' _ (.lst ys)from ⟨hz,its,c',r',e⟩),rfl,q _ (I.hok.fresh (qh _))⟩
  rcases hq with hq|hq
  . obtain⟨its,r',pl,hz⟩:=I.list hq;have hlen:=r'.length;obtain⟨o,ho,hc,n,hd⟩:=pl.isList;exact call_list_seq p (.inl rfl) ho hc hd (fun h' c' kp e=>fin its r' hz h' c' kp e) (by simp only[qo]<;>lia)
  . obtain⟨its,r',pl,hz⟩:=I.tuple hq;have hlen:=r'.length;obtain⟨o,ho,hc,n,hd⟩:=pl;exact call_list_seq p (.inr rfl) ho hc hd (fun h' c' kp e=>fin its r' hz h' c' kp e) (by simp only[qo]<;>lia)
def IW (K:PySem.W.Frag)(T:String)(x:V)(H:Hp):Prop:=match x with
 | .str _=>T="str"
 | .int _=>T="int"
 | .ref p=>(T="list"/\∃ xs,ZC K H p xs)\/(T="tuple"/\∃ o,K.lookup p=some o/\o.cls=.type "tuple"/\o.dict=none) \/
   (T="dict"/\((∃ Z8,H p=some (.dK Z8))\/∃ Z8,H p=some (.dT Z8)))\/(T="set"/\∃ S n,H p=some (.set S n))
 |_=>False
def mY {T:String}(I:Inv X Z9 U H s)(r:RelV x v)(ty:IW X.K T x H) :
  s.TypeIs v T/\∀ a,v=.ref a->∃ ob,s.heap.get? a=some ob/\ob.dict=none:=by
 cases x with
 |str z =>obtain⟨t,rfl⟩:=r;cases(show T="str" from ty);exact⟨typeIs_str s z t,fun _ e=>nomatch e⟩
 |int i =>obtain⟨t,rfl⟩:=r;cases(show T="int" from ty);exact⟨typeIs_int s i t,fun _ e=>nomatch e⟩
 |ref p =>
  cases r;rcases ty with⟨rfl,xs,hq⟩|⟨rfl,o,hk,hc,hd⟩|⟨rfl,hk⟩|⟨rfl,S,n,hk⟩
  ·obtain⟨its,_,pl,_⟩:=I.list hq;refine⟨pl.isList.typeIs,fun a e=>?_⟩;cases e;obtain⟨o,n,e,c,hd,_⟩:=pl;exact⟨o,e,hd⟩
  ·refine⟨⟨o,I.kIn p o hk,hc⟩,fun a e=>?_⟩;cases e;exact⟨o,I.kIn _ o hk,hd⟩
  ·have z:∃ o,s.heap.get? p=some o/\o.ExactDict:=by
    rcases hk with⟨Z8,hk⟩|⟨Z8,hk⟩
    ·obtain⟨_,_,_,_,o,_,_,e,ex,_⟩:=I.hok p _ hk;exact⟨o,e,ex⟩
    ·obtain⟨_,_,_,_,o,_,_,e,ex,_⟩:=I.hok p _ hk;exact⟨o,e,ex⟩
   obtain⟨o,e,ex⟩:=z;refine⟨⟨o,e,ex.1⟩,fun a e2=>?_⟩;cases e2;exact⟨o,e,ex.2.1⟩
  ·obtain⟨o,_,_,_,e,ex,_⟩:=I.hok p _ hk;refine⟨⟨o,e,ex.1⟩,fun a e2=>?_⟩;cases e2;exact⟨o,e,ex.2.1⟩
 |_=>exact False.elim ty
def zxT (K:PySem.W.Frag)(T:String)(r:V->List V->Hp->VK->Prop)(to:TE):TE:=fun U H Q=>to U H fun x H1=>IW K T x H1/\r x [] H1 Q
def Œ (K:PySem.W.Frag)(T:String)(r:V->List V->Hp->VK->Prop)(to:TE)(t:TA):TE:=fun U H Q=>to U H fun x H1=>IW K T x H1/\t U H1 fun xs H2=>r x xs H2 Q
variable {o e:Expr}{es:List Expr}{to:TE}{t:TA}{name:Str}{apos cpos:Pos}{T id:String}{r:V->List V->Hp->VK->Prop}
def zsR (pa:PlainAttrs T)(slot:Slot T name id)(hty:typeOf (.builtin id)=pure (.type "method_descriptor"))(hm:Ij X id r)(ho:PE X o to)
  (hbase:attributeBase o name X.env (eval o X.env)=eval o X.env:=by rfl) (hline:(apos.endLine==cpos.line)=true:=by rfl):PE X (.Call (.Attribute o name apos) [] [] cpos) (zxT X.K T r to):=by
 intro Z9 s U H Q I h;refine wpAny_Call_method0_late hbase hline (Z2 (ho Z9 s U H _ I h) fun v s1 ⟨x,H1,I1,r1,ty,q1⟩=>?_);obtain⟨h1,h2⟩:=mY I1 r1 ty;exact⟨T,id,pa,slot,hty,h1,h2,Calls.callWith_builtin rfl (PySem.evalArgs_none (hm Z9 s1 U H1 x [] v [] Q I1 r1 .nil q1))⟩
def Ú (pa:PlainAttrs T)(slot:Slot T name id)(hty:typeOf (.builtin id)=pure (.type "method_descriptor"))(hm:Ij X id r)(ho:PE X o to)(ha:PA X (e::es) t)
    (hbase:attributeBase o name X.env (eval o X.env)=eval o X.env:=by rfl)
    (hfew:((backTo cpos (starEach (e::es) X.env)).all (fun x=>!x.1)&&(backToKw cpos (keywordEach [] X.env)).all (fun x=>x.1.isSome)
     &&decide ((e::es).length+([]:List Keyword).length+(if([]:List Keyword).isEmpty then 0 else 1)<30))=true:=by rfl)
    (hline:(apos.endLine==cpos.line)=true:=by rfl) (hs:starEach (e::es) X.env=(false,eval e X.env)::starEach es X.env:=by rfl) (hplain:(backTo cpos (starEach es X.env)).any (·.1)=false:=by rfl) :
    PE X (.Call (.Attribute o name apos) (e::es) [] cpos) (Œ X.K T r to t):=by
  intro Z9 s U H Q I h;refine wpAny_Call_method_late hbase hfew hline rfl (Z2 (ho Z9 s U H _ I h) fun v s1 ⟨x,H1,I1,r1,ty,q1⟩=>?_);obtain⟨h1,h2⟩:=mY I1 r1 ty;refine⟨T,id,pa,slot,hty,h1,h2,?_⟩;have hA:=ha cpos Z9 s1 U H1 _ I1 q1;rw[hs]at hA ⊢;refine Calls.callWith_builtin (by show(false||(backTo cpos (starEach es X.env)).any (·.1))=false;rw[hplain]<;>rfl) (Calls.evalArgs_plain ?_);exact Z2 hA fun us s2 zq9=>by obtain⟨vs,H2,I2,r2,q2⟩:=zq9;exact hm Z9 s2 U H2 x vs v us Q I2 r1 r2 q2
/- xs.append(e),list.index on a module's tuple .. are Ij facts of 06m -/
end
def Ox (X:Cx)(id:String)(r:V->List V->Hp->VK->Prop):Prop :=
 ∀ (Z9:List (Addr×Obj)) (s:Shared) (U:St) (H:Hp) (x:V) (xs:List V) (v:Value) (us:List Value) (Q:VK),Inv X Z9 U H s->RelV x v->Vals xs us->r x xs H Q ->
  wpAny (model X.prog X.w) X.A (call (.builtin id) (v::us)) (EP X Z9 U Q) X.xe s
theorem Vals.one:∀ {x:V} {us:List Value},Vals [x] us->∃ u,us=[u]/\RelV x u
 |_,_,.cons r .nil=>⟨_,rfl,r⟩
theorem Vals.eraseIdx:∀ {xs:List V} {us:List Value} (i:Nat),Vals xs us->Vals (xs.eraseIdx i) (us.eraseIdx i)
 |_,_,_,.nil=>.nil
 |_,_,0,.cons _ t=>t
 |_,_,i+1,.cons r t=>.cons r (Vals.eraseIdx i t)
theorem m9 {α:Type}:∀ (l:List α) (i:Nat),(l.eraseIdx i).length<=l.length
 |[],_=>qh _
 |_::_,0=>Nat.le_succ _
 |_::r,i+1=>Nat.succ_le_succ (m9 r i)
section
variable {X:Cx}{Z9:List (Addr×Obj)}{U:St}{H:Hp}{s:Shared}{l b:Addr}{xs ys zs:List V}
def Inv.lset {its its':List Value}{n:Nat}{f:Array Value->Array Value}{t':Nat}(I:Inv X Z9 U H s)(hH:H l=some (.lst xs))
  (e:s.heap.get? l=some { cls:=.type "list",data:=.seq its.toArray n }) (hf:f its.toArray=its'.toArray) (hv:Vals ys its') (hz:ys.length<=sizeLine) :
  Inv X Z9 U (upd H l (.lst ys)) { s with heap:=s.heap.update l (Obj.mapSeq f),toks:=t' }:=by
 have q:=PySem.IsL.update e f;rw[hf]at q;refine I.write (x:=l) (e:=l) (by rw[hH];exact trivial) (.inl rfl) (fun b' u hb hu=>(Heap.get?_update_other s.heap (Obj.mapSeq f) (Ne.symm hb)).trans hu) ⟨_,q⟩ ?_;exact⟨hz,its',_,hv,q⟩
def Inv.lnew {t':Nat}(I:Inv X Z9 U H s)(hv:Vals ys its)(hz:ys.length<=sizeLine) :
  Inv X Z9 U (upd H s.heap.objs.size (.lst ys)) { s with heap:=s.heap.push { cls:=.type "list",data:=.seq its.toArray },toks:=t' } :=
 I.laid (fun _ _ q=>qd _ q) (qh _) ⟨hz,its,0,hv,qq _ rfl⟩
theorem Inv.fresh (I:Inv X Z9 U H s):H s.heap.objs.size=none:=I.hok.fresh (qh _)
def Inv.lstM (I:Inv X Z9 U H s)(hH:H l=some (.lst xs)):xs.length<=sizeLine/\∃ (its:List Value) (n:Nat),Vals xs its/\xs.length=its.length/\s.heap.get? l=some { cls:=.type "list",data:=.seq its.toArray n }:=by obtain⟨z,its,n,r,e⟩:=I.hok l _ hH;exact⟨z,its,n,r,r.length,e⟩
def wj {n:Nat}(h:n<=sizeLine):Builtin.List.listTooLong n=false:=by unfold Builtin.List.listTooLong;exact decide_eq_false (by lia)
end
section
variable {X:Cx}
def uw:V->List V->Hp->VK->Prop:=fun x vs H Q=>∃ l xs y,x=.ref l/\vs=[y]/\H l=some (.lst xs)/\xs.length<sizeLine/\Q .non (upd H l (.lst (xs++[y])))
def xM:Ox X "list.append" uw:=by intro Z9 s U H x vs v us Q I rx rv h;obtain⟨l,xs,y,rfl,rfl,hH,hz,q⟩:=h;cases rx;obtain⟨u,rfl,ru⟩:=rv.one;obtain⟨z,its,n,r,hl,e⟩:=I.lstM hH;refine call_meets F.slot_list_append ⟨_,e,rfl⟩ F.entry_list_append (F.args_list_append_2 _ _) (PySem.list_append l its.toArray n u (by rw[qo];lia)) ⟨e,?_⟩;refine⟨.non,_,I.lset (its':=its++[u]) hH e (by simp) (r.append (.cons ru .nil)) ?_,rfl,q⟩;rw[qf,qQ];lia
def pL:V->List V->Hp->VK->Prop:=fun x vs H Q=>∃ l b xs zs,x=.ref l/\vs=[.ref b]/\H l=some (.lst xs)/\H b=some (.lst zs)/\xs.length+zs.length<=sizeLine/\Q .non (upd H l (.lst (xs++zs)))
def Γ:Ox X "list.extend" pL:=by
 intro Z9 s U H x vs v us Q I rx rv h;obtain⟨l,b,xs,zs,rfl,rfl,hH,hB,hz,q⟩:=h;cases rx;obtain⟨u,rfl,ru⟩:=rv.one;cases ru;obtain⟨z,its,n,r,hl,e⟩:=I.lstM hH;obtain⟨z2,its2,n2,r2,hl2,e2⟩:=I.lstM hB;have hsz:its.toArray.size+its2.toArray.size<=sizeLine:=by rw[qo,qo];lia
 have hlong:¬ (!its.toArray.isEmpty&&Builtin.List.listTooLong (its.toArray.size+its2.toArray.size))=true:=by rw[wj hsz,SX];exact qr
 refine call_meets F.slot_list_extend ⟨_,e,rfl⟩ F.entry_list_extend (F.args_list_extend_2 _ _)
  (AutoSeq1.list_extend_list_list_0 l its.toArray n b its2.toArray n2 hlong (by rw[qo];lia) (by lia)) ⟨e,e2,?_⟩
 refine⟨.non,_,I.lset (its':=its++its2) hH e (by simp) (r.append r2) ?_,rfl,q⟩;rw[qf];lia
def kO:V->List V->Hp->VK->Prop:=fun x vs H Q=>∃ l xs i k y,x=.ref l/\vs=[.int i]/\H l=some (.lst xs)/\-(2 ^ 63)<=i/\i<2 ^ 63/\seqIndex? i xs.length=some k/\xs[k]?=some y/\Q y (upd H l (.lst (xs.eraseIdx k)))
def lZ:Ox X "list.pop" kO:=by
 intro Z9 s U H x vs v us Q I rx rv h;obtain⟨l,xs,i,k,y,rfl,rfl,hH,h1,h2,hk,hy,q⟩:=h;cases rx;obtain⟨u,rfl,ru⟩:=rv.one;obtain⟨t,rfl⟩:=ru;obtain⟨z,its,n,r,hl,e⟩:=I.lstM hH;obtain⟨w,hw,rw'⟩:=r.get hy
 refine call_meets F.slot_list_pop ⟨_,e,rfl⟩ F.entry_list_pop (F.args_list_pop_2 _ _)
  (MeetsSeq.list_pop_at l its.toArray n i t k w (fitsIndex_both h1 h2) (by rw[qo,<- hl];exact hk) (by rw[<- Gi];exact hw) (by rw[qo];lia)) ⟨e,?_⟩
 refine⟨y,_,I.lset (its':=its.eraseIdx k) hH e ?_ (r.eraseIdx k) ?_,rw',q⟩
 ·show its.toArray.eraseIdxIfInBounds k=(its.eraseIdx k).toArray;rw[List.eraseIdxIfInBounds_toArray]
 ·have:=m9 xs k;lia
end
section
variable {prog:Program}{w:World}{A:Around}{E:Value->Shared->Prop}{s:Shared}
end
section
variable {X:Cx}
end
end L2
namespace Att
open PySem PySem.W PySem.Calls PyProof.Rows
def δ {P:Params}{h:Heap}:∀ (ns:List Int) (vs:List Value),WellAll P h vs (ns.map WData.int)->IntsAre vs ns:=by
 intro ns
 induction ns with
 |nil =>intro vs w;rw[Qe]at w;cases w;exact .nil
 |cons n ns ih =>
  intro vs w;rw[qP]at w;cases w with
  |cons a b =>cases a;exact .cons _ _ (ih _ b)
def zmY {l:OpenLaw}{n:Nat}(hn:l.most=some n){args:List WData}(hpre:l.row.toRowW.claim.pre args=true)(hwl:WellAll P h vals args) :
  ∃ a vs ns,vals=[Value.ref a]/\args=[WData.list (ns.map WData.int)]/\h.get? a=some { cls:=.type "list",data:=.seq vs.toArray }/\IntsAre vs ns/\ns.length<=n:=by
 have hsh:WShape.hasAll [] args [.list .int]=true:=(pre_splitW hpre).1;have hc:l.pre.holds [] { args:=args }=true:=(pre_splitW hpre).2;obtain⟨d,r,rfl,h1,h2⟩:=hasAllW_cons hsh;obtain rfl:=hasAllW_nil h2;obtain⟨xs,rfl,h3⟩:=hasW_list h1;obtain⟨ns,rfl⟩:=items_int h3
 have hlen:ns.length<=n:=by
  unfold OpenLaw.pre at hc
  have h4:(WTm.not (.lt (.lit (.int (n:Int))) (.len (.arg 0)))).holds [] { args:=[.list (ns.map .int)] }=true:=by have h4:=(holds_andW hc).1;rw[hn]at h4;exact h4
  have h5:=condW_of h4 (w_not (w_lt w_lit (w_len_list (w_arg rfl))));rw[qa]at h5;refine Rv fun q=>?_
  have q':(n:Int)<((ns.length:Nat):Int):=by lia
  first
   |(rw[decide_eq_true q']at h5;exact absurd h5 (by decide))
   |(simp at h5;lia)
 cases hwl with
 |cons w1 w2 =>
  cases w2;cases w1 with
  |list ho hall=>exact⟨_,_,ns,rfl,rfl,ho,δ ns _ hall,hlen⟩
def Ũ (l:OpenLaw)(args:List WData):l.row.toRowW.claim.post args (.bool true) args=true :=
 postW_of (r:=l.row.toRowW) (X:=(true==true))
  (show WShape.has [] (.bool true) .bool=true by first|rfl|decide|simp[WShape.has,WShape.arms,WShape.armsAll])
  (show(WTm.eq .res (.lit (.bool true))).value [] { args:=args,res:=some (.bool true),after:=args }=some (.bool (true==true))from w_eq_bool (w_res rfl) w_lit) rfl
section
variable {prog:Program}{w:World}{A:Around}{E:Value->Shared->Prop}{s:Shared}{K:Frag}
end
end Att
namespace L2
open PySem PySem.Spec PyProof.Rows
theorem vC:∀ {vs:List Value} {ns:List Int},IntsAre vs ns->Vals (ns.map V.int) vs
 |_,_,.nil=>.nil
 |_,_,.cons n t h=>.cons ⟨t,rfl⟩ (vC h)
def Only (H:Hp):Prop:=∀ b,H b=none\/∃ o xs,H b=some (.frz o (.lst xs))
def Ÿ {P:Program}{w:World}{K:PySem.W.Frag}{mg mb:Str->Option Value}{CX:V8}{k:Nat}{fa a:Addr}{fd:FuncData}{x:Str}{sp:Sp}{s₁:Shared}{vs:List Value}(KX:K.In s₁.heap)(hns:s₁.heap.Ns mainGlobals mg)(hb:s₁.heap.Ns builtinsNs mb)(hbb:∀ x:Str,x≠"__name__"->mb x=bootBuiltins x)(hlim:s₁.heap.NoLimit)(hg:s₁.gens=#[])(ha:s₁.heap.get? a=some { cls:=.type "list",data:=.seq vs.toArray })(hi:IntsAre vs ns)(hl:ns.length<=sizeLine)(hr:zN k callerA)(F:∀ base:Heap,K.In base->base.Ns mainGlobals mg->YK P w K mg base CX k fa fd [x] sp)(hbind:∀ (s:Shared) (u:Value),BindsTo s fd ⟨[u],[]⟩ [(x,u)])(hsp:∀ H:Hp,Only H->ZC K H a (ns.map V.int)->sp [.ref a] H (fun v _=>v=.bl true) fun _ _ _=>False)(hCX:∀ H e s',CX [] H s₁ (fun _ _ _=>False) e s'->False) :
  codeAny (model P w) callerA (.call (.ref fa) ⟨[.ref a],[]⟩) (fun r s'=>r=.ok (.ret (.bool true))/\OldK s₁.heap s'.heap/\s'.os=s₁.os/\AllBare s'.gens) s₁:=by
 have rv:=vC hi;have lenV:=hi.length
 have core:∀ H:Hp,Only H->ZC K H a (ns.map V.int)->ZD P w H s₁.heap->(∀ b,H b≠none->b=a)->(H a≠none->K.lookup a=none) ->
   codeAny (model P w) callerA (.call (.ref fa) ⟨[.ref a],[]⟩) (fun r s'=>r=.ok (.ret (.bool true))/\OldK s₁.heap s'.heap/\s'.os=s₁.os/\AllBare s'.gens) s₁:=by
  intro H hO hS hok hA hK;have base_of:∀ {b:Addr} {o:Obj},s₁.heap.get? b=some o->H b=none->(U5 s₁.heap H).get? b=some o:=fun e n=>zo4 e n
  have noA:∀ {b:Addr} {o:Obj} {es:Array DictEntry} {ep:Nat},s₁.heap.get? b=some o->o.data=.dict es ep->H b=none:=fun {b o es ep} e d=>by
   cases q:H b with
   |none=>rfl
   |some u =>have e':b=a:=hA b (by rw[q];simp);subst e';rw[ha]at e;cases e;have d':Data.seq vs.toArray _=Data.dict es ep:=d;cases d'
  have nsK:∀ {b:Addr} {m:Str->Option Value},s₁.heap.Ns b m->(U5 s₁.heap H).Ns b m:=fun {b m} ⟨o,es,ep,e,d,r⟩=>⟨o,es,ep,base_of e (noA e d),d,r⟩
  have hKb:K.In (U5 s₁.heap H):=fun b o e=>base_of (KX b o e) (by
   cases q:H b with
   |none=>rfl
   |some u =>have e':b=a:=hA b (by rw[q];simp);subst e';rw[hK (by rw[q];simp)]at e;cases e)
  have hM:Mod K mg (U5 s₁.heap H):=⟨hKb,nsK hns,⟨mb,nsK hb,hbb⟩,by obtain⟨mc,h1,h2⟩:=hlim;exact⟨mc,nsK h1,h2⟩⟩
  have e0:RD P w K mg (U5 s₁.heap H) callerA [] s₁ H:=⟨rfl,hM,fun b o e=>zqu e,Nat.le_of_eq (znE _ _),trivial,fun b hb=>absurd (show b∈([]:List Addr)from hb) (by simp),hok,.of_eq hg⟩
  refine codeAny_mono ((F _ hKb (nsK hns)).run callerA [] s₁ H ⟨[.ref a],[]⟩ [.ref a] [.ref a] _ _ hr e0 (hbind s₁ (.ref a)) (.cons rfl .nil) (hsp H hO hS)) fun r s' h=>?_
  cases r with
  |error e=>exact(hCX H e s' h).elim
  |ok fl =>
   cases fl with
   |next=>exact False.elim h
   |brk=>exact False.elim h
   |cont=>exact False.elim h
   |ret u =>
    obtain⟨v,H',os,bare,un,hok',r',q⟩:=h;have q':v=.bl true:=q;subst q';obtain rfl:u=Value.bool true:=r';refine⟨rfl,OldK.of_keep fun b o e=>?_,os,bare⟩;cases q:H b with
    |none=>exact un.keep b o e q (by intro z;exact absurd (show b∈([]:List Addr)from z) (by simp)) (by simp)
    |some u =>
     rcases hO b with z|⟨ob,xs,z⟩
     ·rw[q]at z;cases z
     ·have z2:=un.frzs b ob _ z;obtain⟨e1,_⟩:=hok b _ z;obtain⟨e2,_⟩:=hok' b _ z2;rw[e]at e1;cases e1;exact e2
 cases hk:K.lookup a with
 |some o =>have e:=KX a o hk;rw[ha]at e;cases e;refine core (fun _=>none) (fun _=>.inl rfl) (.inr ⟨_,vs.toArray,_,hk,rfl,rfl,rfl,by rw[qo,lenV];exact hl,by simpa using rv⟩) (fun b u z=>by have z':(none:Option HO)=some u:=z;cases z') (fun b z=>absurd rfl z) fun z=>absurd rfl z
 |none =>
  refine core (fun b=>if b=a then some (.frz { cls:=.type "list",data:=.seq vs.toArray } (.lst (ns.map V.int)))else none) (fun b=>?_) (.inl (.inr ⟨{ cls:=.type "list",data:=.seq vs.toArray },if_pos rfl⟩)) (fun b u z=>?_) (fun b z=>?_) fun _=>hk
  ·by_cases hb:b=a
   ·exact .inr ⟨_,_,if_pos hb⟩
   ·exact .inl (if_neg hb)
  ·by_cases hb:b=a
   ·have z':=(if_pos hb).symm.trans z;cases z';subst hb;exact⟨ha,by rw[qa];exact hl,vs,_,rv,ha⟩
   ·have z':=(if_neg hb).symm.trans z;cases z'
  ·by_cases hb:b=a
   ·exact hb
   ·exact absurd (if_neg hb) z
def inClass (s:Stmt)(j:Nat):Stmt:=match s with
 |.ClassDef _ _ _ body _ _ _ _ _ _ _=>body.getD j (.Pass ⟨0,0,0,0⟩)
 |_=>.Pass ⟨0,0,0,0⟩
def Xl (s:Stmt):Arguments:=match s with
 |.FunctionDef _ a _ _ _ _ _ _ _ _=>a
 |_=>{ posonlyargs:=[],args:=[],vararg:=none,kwonlyargs:=[],kw_defaults:=[],kwarg:=none,defaults:=[] }
def XH (s:Stmt):List Stmt:=match s with
 |.FunctionDef _ _ b _ _ _ _ _ _ _=>b
 |_=>[]
def zK (s:Stmt):Scope:=match s with
 |.FunctionDef _ _ _ _ _ _ sc _ _ _=>sc
 |_=>{ kind:=.function,names:=[],isGenerator:=false,isCoroutine:=false }
abbrev Wq:V8:=fun _ _ _ _ _ _=>False
abbrev E0:XK:=fun _ _ _=>False
def uH {X:Cx}:Passes Wq X E0:=fun _ _ _ _ _ _ _ h=>h.elim
structure W9 (K:PySem.W.Frag)(x qual:Str)(st:Stmt)(f:Addr)(fd:FuncData):Prop where
 ex:∃ (oc:Value) (od:Option Addr) (kV doc pm:Value) (an:Option Addr) (cdv ct:Value) (osl:Array (Option Value)),
  fd=PySem.W.fnOf x qual (Xl st) (XH st) (zK st) .none kV doc pm an cdv ct/\K.lookup f=some ⟨oc,od,.func fd,osl⟩/\PySem.W.codeIn K cdv qual=true
 kp:PySem.W.keepIn K (.ref f)=true
section
variable {P:Program}{w:World}{K:PySem.W.Frag}{mg:Str->Option Value}{base:Heap}
def W9.ok {st:Stmt}{k:Nat}{sp:Sp}(F:W9 K x qual st f fd)(S:Ph N ps (zK st))(len:∀ vs H Q E,sp vs H Q E->vs.length=ps.length)(hbody:∀ (cdv:Value) (A:Around) (outer:List Env) (s:Shared) (H:Hp) (vs:List V) (Q:VK) (E:XK),zN k (A.deeper (envOfC qual (zK st) s.heap.objs.size f cdv))->sp vs H Q E ->
   ∃ t,Xw (Vr Wq P w K mg base N qual (zK st) f cdv A outer s H E).nox (XH st) t/\t { nx:=fun _ H'=>Q .non H',rt:=Q } (start N vs) H):YK P w K mg base Wq (k+1) f fd ps sp:=by
 obtain⟨oc,od,kV,doc,pm,an,cdv,ct,osl,rfl,lk,hcd⟩:=F.ex;refine uq lk hcd S len fun A outer s H vs Q E hr hsp=>?_
 obtain⟨t,h,q⟩:=hbody cdv A outer s H vs Q E hr hsp;exact⟨t,h.nox,q⟩
def W9.binds {st:Stmt}{ps:List Str}(F:W9 K x qual st f fd)(h:∀ (kV doc pm:Value) (an:Option Addr) (cdv ct:Value) (us:List Value),us.length=ps.length->bindArgs (PySem.W.fnOf x qual (Xl st) (XH st) (zK st) .none kV doc pm an cdv ct) ⟨us,[]⟩=pure (ps.zip us)):Binds K fd ps []:=by obtain⟨oc,od,kV,doc,pm,an,cdv,ct,osl,rfl,lk,hcd⟩:=F.ex;exact .all (h kV doc pm an cdv ct)
def vI {x qual:Str}{st:Stmt}{oc:Value}{od an:Option Addr}{osl:Array (Option Value)}{kV doc pm cdv ct:Value}(l:K.lookup f=some ⟨oc,od,.func (PySem.W.fnOf x qual (Xl st) (XH st) (zK st) .none kV doc pm an cdv ct),osl⟩)(c:PySem.W.codeIn K cdv qual=true)(k:PySem.W.keepIn K (.ref f)=true):W9 K x qual st f (PySem.W.fnOf x qual (Xl st) (XH st) (zK st) .none kV doc pm an cdv ct):=⟨⟨oc,od,kV,doc,pm,an,cdv,ct,osl,rfl,l,c⟩,k⟩
end
def Uq {k:Nat}(hr:zN k A):A.units+2<cLine:=Nat.lt_of_le_of_lt (Nat.add_le_add_left (by decide:2<=64) _) hr.units
section
variable {X:Cx}
end
end L2
namespace My
def Bd (n:Nat)(x:Int):Prop:=x.natAbs<2 ^ n
def Bd.mono {n:Nat}(h:Bd m x)(hmn:m<=n):Bd n x:=qE h (Nat.pow_le_pow_right (by decide) hmn)
def Bd.add {n:Nat}(h:Bd n x)(h':Bd n y):Bd (n+1) (x+y) :=Nat.lt_of_le_of_lt (Int.natAbs_add_le x y) (by rw[Nat.pow_succ,Nat.mul_two];exact Nat.add_lt_add h h')
def Bd.neg {n:Nat}(h:Bd n x):Bd n (-x):=by unfold Bd;rw[Mv];exact h
def Bd.sub {n:Nat}(h:Bd n x)(h':Bd n y):Bd (n+1) (x-y):=by rw[Int.sub_eq_add_neg];exact h.add h'.neg
def Bd.mul {n:Nat}(h:Bd m x)(h':Bd n y):Bd (m+n) (x*y):=by unfold Bd at *;rw[Int.natAbs_mul,Nat.pow_add];exact Nat.mul_lt_mul'' h h'
def Bd.of_le {n:Nat}{x:Int}(h:Bd n y)(h':x.natAbs<=y.natAbs):Bd n x:=Nat.lt_of_le_of_lt h' h
def Bd.dvd {n:Nat}{x:Int}(h:Bd n y)(h0:y≠0)(d:x ∣ y):Bd n x :=h.of_le (Nat.le_of_dvd (by lia) (Int.natAbs_dvd_natAbs.mpr d))
theorem Bd.fdiv {n:Nat}{y:Int}(h:Bd n x):Bd n (x.fdiv y):=h.of_le (Int.natAbs_fdiv_le_natAbs x y)
def Bd.lit {n:Nat}{x:Int}(h:x.natAbs<2 ^ 200)(hn:200<=n):Bd n x:=Bd.mono (m:=200) h hn
def zoL (a b:Int):Int.gcd b (a.fmod b)=Int.gcd a b:=by
 have e:a.fmod b=a-b*a.fdiv b:=by have:=Int.mul_fdiv_add_fmod a b;lia
 rw[e,Int.gcd_sub_mul_left_right,Int.gcd_comm]
def vA {a b:Int}(h0:0<=a)(h:a<b):a.natAbs<b.natAbs:=by refine Int.ofNat_lt.mp ?_;rw[Jx h0,Jx (RG (Int.lt_of_le_of_lt h0 h))];exact h
def ŝ {a b:Int}(h:b≠0):(a.fmod b).natAbs<b.natAbs:=by
 rcases Int.lt_or_gt_of_ne h with h1|h1
 ·have e:(-(-a)).fmod (-(-b))=-((-a).fmod (-b)):=Int.neg_fmod_neg (-a) (-b);rw[U7,U7]at e;have h2:=vA (Int.fmod_nonneg_of_pos (-a) (Int.neg_pos_of_neg h1)) (Int.fmod_lt_of_pos (-a) (Int.neg_pos_of_neg h1));rw[e,Mv];rwa[Mv b]at h2
 ·exact vA (Int.fmod_nonneg_of_pos a h1) (Int.fmod_lt_of_pos a h1)
def gd (t b:Int):Int:=if b<0 then -((Int.gcd t b:Nat):Int)else((Int.gcd t b:Nat):Int)
def Vm (t b:Int):Int:=t.fdiv (gd t b)
def frB (t b:Int):Int:=b.fdiv (gd t b)
def vo {t b:Int}(h:b≠0):gd t b≠0:=by
  have:Int.gcd t b≠0:=fun e=>h (Int.gcd_eq_zero_iff.mp e).2
  unfold gd;split<;>lia
def jO (t b:Int):gd t b ∣ t:=by
 unfold gd;split
 ·exact Int.neg_dvd.mpr (Int.gcd_dvd_left ..)
 ·exact Int.gcd_dvd_left ..
def rG (t b:Int):gd t b ∣ b:=by
 unfold gd;split
 ·exact Int.neg_dvd.mpr (Int.gcd_dvd_right ..)
 ·exact Int.gcd_dvd_right ..
def oV (t b:Int):Vm t b*gd t b=t:=Int.fdiv_mul_cancel (jO t b)
def BR (t b:Int):frB t b*gd t b=b:=Int.fdiv_mul_cancel (rG t b)
def dU (t b:Int):Vm t b*b=frB t b*t:=by have h1:=oV t b;have h2:=BR t b;generalize Vm t b=x at *;generalize frB t b=y at *;generalize gd t b=g at *;subst h1 h2;rw[Wg y g,<- Int.mul_assoc,Wg (x*g) y]
def mG {t b:Int}(h:b≠0):1<=frB t b:=by
  have h2:=BR t b;have h3:gd t b≠0:=vo h
  have h4:0<b->0<gd t b:=by intro hb;unfold gd at *;split<;>lia
  have h5:b<0->gd t b<0:=by intro hb;unfold gd at *;split<;>lia
  generalize frB t b=y at *;generalize gd t b=g at *;rcases Int.lt_or_gt_of_ne h with hb|hb
  . have hg:=h5 hb;rcases Int.lt_or_le y 1 with hy|hy
    . have:0<=y*g:=Int.mul_nonneg_of_nonpos_of_nonpos (by lia) (by lia);lia
    . exact hy
  . have hg:=h4 hb;rcases Int.lt_or_le y 1 with hy|hy
    . have:y*g<=0:=Int.mul_nonpos_of_nonpos_of_nonneg (by lia) (by lia);lia
    . exact hy
def Ë {t b:Int}(h:b≠0):Int.gcd (Vm t b) (frB t b)=1:=by
  have h0:0<Int.gcd t b:=Nat.pos_of_ne_zero fun e=>h (Int.gcd_eq_zero_iff.mp e).2
  have h1:=oV t b;have h2:=BR t b;have e:Int.gcd (Vm t b*gd t b) (frB t b*gd t b)=Int.gcd (Vm t b) (frB t b)*(gd t b).natAbs:=Int.gcd_mul_right ..;rw[h1,h2]at e;have e2:(gd t b).natAbs=Int.gcd t b:=by unfold gd;split<;>lia
  rw[e2]at e;exact Nat.eq_of_mul_eq_mul_right h0 (by lia)
def zww {n:Nat}{t b:Int}(h:b≠0)(hb:Bd n b):Bd n (gd t b):=hb.dvd h (rG t b)
def aC {n:Nat}{t:Int}(hb:Bd n b):Bd n (frB t b):=hb.fdiv
def Ç {n:Nat}{t b:Int}(hb:Bd n t):Bd n (Vm t b):=hb.fdiv
open PySem PySem.Spec PyProof.Rows L2
def kJ (_ j:Int):Prop:=j≠0/\Bd 8000 j
def lB (_ j:Int):Prop:=j≠0
def tM (h:Bd 8000 j):j.natAbs.log2<9000:=by
 rcases Nat.eq_zero_or_pos j.natAbs with e|e
 ·rw[e];decide
 ·have:j.natAbs.log2<8000:=(Nat.log2_lt (Wu e)).mpr h;lia
def wH (h:Bd 8000 j):Builtin.Int.intBits j<=2 ^ 20:=by
 unfold Builtin.Int.intBits;split
 ·exact qY _
 ·have:=tM h;lia
section
variable {X:Cx}
def zn6:ZF X (binaryOp .FloorDiv) (rI kJ fun i j=>.int (i.fdiv j)):=Nj fun _ _ _ _ _ _ _ hc q=>floordiv_int hc.1 q (.inl (PyProof.noPylong_of_log2 (tM hc.2)))
def fO:ZF X (binaryOp .Mod) (rI lB fun i j=>.int (i.fmod j)):=í
def mV (g:Bool->Bool->V):R2:=fun x y H Q=>∃ i j,x=.bl i/\y=.bl j/\Q (g i j) H
def zqK {i j:Int}{a b:Nat}{p1 p2 pos:Pos}(c:Int)(h:i ^ j.toNat=c)(h0:0<=j/\j<=1000000/\i.natAbs<2 ^ 64):PE X (.BinOp (.Constant (.int i) a p1) .Pow (.Constant (.int j) b p2) pos) (tC (.int c)):=by intro Z9 s U H Q I q;have q':Q (.int c) H:=q;rw[<- h]at q';exact oW zvF Br Br Z9 s U H Q I ⟨i,j,rfl,rfl,h0,q'⟩
def Ϫ:List V->Hp->VK->Prop:=fun xs H Q=>∃ i,xs=[.int i]/\Q (.int (i.natAbs:Int)) H
def zmw:YJ X (.builtin "abs") Ϫ:=fun Z9 s U H xs us Q I r h=>by
  obtain⟨i,e,q⟩:=h;refine cH Z9 s U H xs us Q I r ⟨i,e,?_⟩;have:(if i<0 then -i else i)=(i.natAbs:Int):=by split<;>lia
  rw[this];exact q
def ι (K:PySem.W.Frag):List V->Hp->VK->Prop:=fun xs H Q=>∃ p ys,xs=[.ref p]/\(ZC K H p ys\/ZM K H p ys)/\Q (.int ys.length) H
def znk:YJ X (.builtin "len") (ι X.K):=ziV
def zvZ (K:PySem.W.Frag):List V->Hp->VK->Prop:=fun xs H Q=>∃ p ys,xs=[.ref p]/\(ZC K H p ys\/ZM K H p ys)/\∀ l,H l=none->Q (.ref l) (upd H l (.lst ys))
def zlP:YJ X (.type "list") (zvZ X.K):=ē
def lK:List V->Hp->VK->Prop:=fun xs H Q=>∃ i j,xs=[.int i,.int j]/\Q (.int (if j > i then j else i)) H
def Ů (hc:X.calm=true):YJ X (.builtin "max") lK:=znM hc
def gA:List V->Hp->VK->Prop:=fun xs H Q=>∃ i j,xs=[.int i,.int j]/\Q (.int (if j<i then j else i)) H
def ė (hc:X.calm=true):YJ X (.builtin "min") gA:=znl hc
def zv6 {T:String}{pos:Pos}(hg:Gl X x)(hm:X.mg x=none)(hv:bootBuiltins x=some (.type T))(hn:autoParam (x≠"__name__") zR)(hd:autoParam ((x==("__debug__":Str))=false) zR):PE X (.Name x pos) (tC (.ty T)):=zrf (v:=.ty T) hg hm hv rfl hn hd
def zyh (K:PySem.W.Frag):List V->Hp->VK->Prop:=fun xs H Q=>∃ x c t b,xs=[x,.ty c]/\WQ K H x t/\PySem.W.kitOne K t (.type c)=some b/\Q (.bl b) H
def zpg:YJ X (.builtin "isinstance") (zyh X.K):=fun Z9 s U H xs us Q I r h=>by obtain⟨x,c,t,b,rfl,ty,e,q⟩:=h;obtain⟨u,w',rfl,ru,rw'⟩:=vals2 r;cases rw';exact ŗ I ru ty e fun tk=>⟨.bl b,H,I.tok _,rfl,q⟩
end
section
variable {X:Cx}{K:PySem.W.Frag}
end
structure Got (P:Program)(w:World)(K:PySem.W.Frag)(mg:Str->Option Value)(base:Heap)(k:Nat)(x:Str)(ps:List Str)(sp:Sp):Prop where
 ex:∃ f fd,YK P w K mg base Wq k f fd ps sp/\Binds K fd ps []/\PySem.W.keepIn K (.ref f)=true/\mg x=some (.ref f)
def ī {X:Cx}{k:Nat}{sp:Sp}{p pos:Pos}{e:Expr}{es:List Expr}{t:TA}(G:Got X.prog X.w X.K X.mg X.base k x ps sp)(hr:zN j X.A)(hk:k<=j)(hg:Gl X x)(ha:PA X (e::es) t)(hdb:autoParam ((x==("__debug__":Str))=false) zR)(he:autoParam (starEach (e::es) X.env=(false,eval e X.env)::starEach es X.env) zy)(hpl:autoParam ((backTo pos (starEach es X.env)).any (·.1)=false) zy) :
  PE X (.Call (.Name x p) (e::es) [] pos) (Df sp [] E0 t):=by
 intro Z9 s U H Q I h;obtain⟨f,fd,F,b,kp,m⟩:=G.ex;exact zsx (F.mono hk) hr hg m kp b .nil uH ha hdb he hpl Z9 s U H Q I h
section
variable {nx:L2.St->Hp->Prop}{rt:VK}{bk ct:L2.St->Hp->Prop}{U:L2.St}{H:Hp}{K:PySem.W.Frag}
end
section
variable {U:L2.St}{H:Hp}{K:PySem.W.Frag}
def zx9:R2:=fun x y H Q=>y=.non/\Q (.bl (decide (x=.non))) H
def į:R2:=fun x y H Q=>y=.non/\Q (.bl (!decide (x=.non))) H
def zxF {X:Cx}:ZF X (compareOp .Is) zx9:=aH
def cD {X:Cx}:ZF X (compareOp .IsNot) į:=jY
end
def Vu {H:Hp}{o u:HO}(hp:H p=none)(h:H b=some u):upd H p o b=some u:=by rw[zu (Um h hp)];exact h
theorem zkc {prog:Program}{w:World}{A:Around}{R:Result->Shared->Prop}{s:Shared}{elt target iter:Expr}{ifs:List Expr}{scope:Scope}{pos:Pos}{it acc:Value}{env:Env}(I:Nat->Shared->Prop)
  (turn:∀ n s,I n s->wpAny (model prog w) A (pyNext it) (fun r s₁=>match r with
   |none=>R (.ok .next) s₁
   |some v=>wpAny (model prog w) A (letOwnedTupleGo target it v) (fun _ s₁'=>wpAny (model prog w) A (assign target env v) (fun _ s₂ =>
     wpAny (model prog w) A (forIn ifs true fun c r=>if r=true then do let ok <- isTrue c env (eval c env);pure (ForInStep.yield ok)else pure (ForInStep.yield r)) (fun ok s₃ =>
      if ok=true then wpAny (model prog w) A (eval elt env) (fun x s₄ =>wpAny (model prog w) A (call (.builtin "list.append") [acc,x]) (fun _ s₅=>∃ m,m<n/\I m s₅) (fun _ _=>False) s₄) (fun _ _=>False) s₃
      else ∃ m,m<n/\I m s₃) (fun _ _=>False) s₂) (fun _ _=>False) s₁') (fun _ _=>False) s₁) (fun _ _=>False) s)
  (n:Nat) (h:I n s):codeAny (model prog w) A (.compLoop (.ListComp elt [⟨target,iter,ifs,0⟩] scope pos) 0 it acc env) R s:=by
 refine codeAny_loop rfl I (fun n s hI=>?_) n h;show wpAny _ A ((compTurn (.ListComp elt [⟨target,iter,ifs,0⟩] scope pos) 0 it acc env).onRaise (fun x=>do noteFrame x env;theTreesLotGoes x)) _ _ s;refine wpAny_noted ?_;rw[compTurn_list];refine wpAny_bind (wpAny_standAt (wpAny_bind (wpAny_mono (turn n s hI) (fun r s₁ h₁=>?_) fun _ _ h'=>h'.elim)));cases r with
 |none=>exact wpAny_pure h₁
 |some v =>
  refine wpAny_bind (wpAny_mono h₁ (fun _ s₁' h₁'=>?_) fun _ _ h'=>h'.elim);refine wpAny_bind (wpAny_mono h₁' (fun _ s₂ h₂=>wpAny_bind (wpAny_mono h₂ (fun ok s₃ h₃=>?_) fun _ _ h'=>h'.elim)) fun _ _ h'=>h'.elim);cases ok with
  |false=>exact wpAny_pure ⟨rfl,h₃⟩
  |true =>exact wpAny_bind (wpAny_bind (wpAny_mono h₃ (fun x s₄ h₄=>wpAny_bind (wpAny_mono h₄ (fun _ s₅ h₅=>wpAny_pure (wpAny_pure ⟨rfl,h₅⟩)) fun _ _ h'=>h'.elim)) fun _ _ h'=>h'.elim))
def inner (X:Cx)(sc:Scope)(N:List Str)(cl:List (Str×Addr))(C:Addr)(s₀:Shared)(H₀:Hp)(ex:List Addr):Cx :={ X with N:=N,s₀:=s₀,H₀:=H₀,env:=compEnvC sc cl C X.env,outer:=X.stack,ex:=ex,fn:=fun x=>sc.names.lookup x==some .cell,pn:=[] }
def Q7 (X:Cx)(ifs:List Expr)(t:TT):Prop :=
 ∀ (Z9:List (Addr×Obj)) (s:Shared) (U:L2.St) (H:Hp) (Q:Bool->Hp->Prop),Inv X Z9 U H s->t U H Q ->
  wpAny (model X.prog X.w) X.A (forIn ifs true fun c r=>if r=true then do let ok <- isTrue c X.env (eval c X.env);pure (ForInStep.yield ok)else pure (ForInStep.yield r)) (TP X Z9 U Q) X.xe s
def bI:TT:=fun _ H Q=>Q true H
def gZ {X:Cx}:Q7 X [] bI:=fun _ _ _ H _ I h=>wpAny_tests_nil ⟨H,I,h⟩
def ztY {t:TT}(h:PT X c t):Q7 X [c] t:=fun Z9 s U H Q I q=>wpAny_tests_one (h Z9 s U H Q I q)
def Ve (X:Cx)(sc:Scope):List Str->List Nat->Prop
 |[],[]=>True
 |x::xs,j::js=>X.N[j]?=some x/\sc.names.lookup x=some .free/\X.env.kindOf x=some .cell/\Ve X sc xs js
 |_,_=>False
def W6 (P:Str->Prop):List (Str×NameKind)->Prop
 |[]=>True
 |(n,.free)::r=>P n/\W6 P r
 |_::r=>W6 P r
theorem W6.of {P:Str->Prop}:∀ {l:List (Str×NameKind)},W6 P l->∀ y∈l,y.2=.free->P y.1
  |(n,k)::r,h,y,hy,e=>by
    rcases ql.mp hy with rfl|hy
    . dsimp only at e;subst e;exact h.1
    . refine W6.of (l:=r) ?_ y hy e;cases k<;>first|exact h.2|exact h
def cst (own:List Str)(fv:List Nat)(U:L2.St):L2.St:=List.replicate own.length none++fv.map fun j=>(U[j]?).join
def Xr:L2.St->L2.St->Prop
 |[],[]=>True
 |none::r,_::s=>Xr r s
 |some v::r,some w::s=>v=w/\Xr r s
 |_,_=>False
theorem Xr.len:∀ {a b:L2.St},Xr a b->b.length=a.length
  |[],[],_=>rfl
  |none::r,_::s,h=>congrArg (· + 1) (Xr.len (a:=r) (b:=s) h)
  |some v::r,some w::s,h=>congrArg (· + 1) (Xr.len (a:=r) (b:=s) h.2)
theorem Xr.get:∀ {a b:L2.St},Xr a b->∀ (i:Nat) (v:V),a[i]?=some (some v)->b[i]?=some (some v)
 |none::r,_::s,h,i,v,e=>by
  cases i with
  |zero=>simp at e
  |succ i=>simpa using Xr.get (a:=r) (b:=s) h i v (by simpa using e)
 |some v'::r,some w::s,h,i,v,e=>by
  cases i with
  |zero=>simp at e;subst e;simp[h.1]
  |succ i=>simpa using Xr.get (a:=r) (b:=s) h.2 i v (by simpa using e)
def Dr (own:List Str)(fv:List Nat)(wi:TI)(g:TG)(tc:TT)(te:TE):TE:=fun U H Q=>wi U H fun J H1=>∀ p,H1 p=none ->
 ∃ W:Nat->Nat->Hp->Prop,(∃ m,W 0 m (upd H1 p (.lst [])))/\∀ i m H2,W i m H2 ->
  (J.stop i H2/\Q (.ref p) H2)\/(J.go i H2/\∀ x H',J.yld i H2 x H'->g x (cst own fv U) H' fun σ2 H3=>Xr (cst own fv U) σ2/\tc σ2 H3 fun b H4 =>
   if b=true then te σ2 H4 fun y H5=>∃ ys,H5 p=some (.lst ys)/\ys.length<sizeLine/\∃ m',m'<m/\W (i+1) m' (upd H5 p (.lst (ys++[y])))
   else ∃ m',m'<m/\W (i+1) m' H4)
def lW {env:Env}{n:Str}{c:Addr}(h:env.cells.lookup n=some c):cellOf env n=pure c:=by unfold cellOf;rw[h]
theorem CW {env:Env}:∀ (names:List (Str×NameKind)) (cs:List (Str×Addr)),(∀ y∈names,y.2=.free->∃ c,env.cells.lookup y.1=some c)->(∀ x c,cs.lookup x=some c->env.cells.lookup x=some c) ->
    ∃ cl,(forIn names cs fun (x:Str×NameKind) (r:List (Str×Addr))=>if(x.2==NameKind.free)=true then do let a <- cellOf env x.1;pure (ForInStep.yield ((x.1,a)::r))else pure (ForInStep.yield r))=(pure cl:Sem (List (Str×Addr))) /\
      (∀ x c,cl.lookup x=some c->env.cells.lookup x=some c)/\(∀ x,(cs.lookup x).isSome=true->(cl.lookup x).isSome=true)/\∀ y∈names,y.2=.free->(cl.lookup y.1).isSome=true
  |[],cs,_,h2=>⟨cs,rfl,h2,fun _ h=>h,fun _ h=>nomatch h⟩
  |(n,k)::r,cs,h1,h2=>by
    rw[J8];by_cases hk:k=.free
    . subst hk;obtain⟨c,hc⟩:=h1 (n,.free) qI rfl
      obtain⟨cl,e,a1,a2,a3⟩:=CW (env:=env) r ((n,c)::cs) (fun y hy=>h1 y (qj _ hy)) (fun x d hx=>by
        rw[qu]at hx;by_cases hxn:x=n
        . subst hxn;simp at hx;subst hx;exact hc
        . have:(x==n)=false:=by simpa using hxn
          rw[this]at hx;exact h2 x d hx)
      refine⟨cl,?_,a1,fun x hx=>a2 x ?_,fun y hy e'=>?_⟩
      . simp only[beq_self_eq_true,if_true,lW hc];simpa using e
      . rw[qu];split<;>simp_all
      . rcases ql.mp hy with rfl|hy
        . exact a2 _ (by simp[qu])
        . exact a3 y hy e'
    . have hb:(k==NameKind.free)=false:=by simpa using hk
      obtain⟨cl,e,a1,a2,a3⟩:=CW (env:=env) r cs (fun y hy=>h1 y (qj _ hy)) h2;refine⟨cl,?_,a1,a2,fun y hy e'=>?_⟩
      . simp only[hb,Uv,if_false];simpa using e
      . rcases ql.mp hy with rfl|hy
        . exact absurd e' hk
        . exact a3 y hy e'
def Ax {env:Env}{sc:Scope}(h:∀ y∈sc.names,y.2=.free->∃ c,env.cells.lookup y.1=some c) :
  ∃ cl,closureFor sc env=pure cl/\(∀ x c,cl.lookup x=some c->env.cells.lookup x=some c)/\∀ y∈sc.names,y.2=.free->(cl.lookup y.1).isSome=true:=by
 obtain⟨cl,e,a1,_,a3⟩:=CW (env:=env) sc.names [] h (fun x c hx=>by simp at hx);refine⟨cl,?_,a1,a3⟩;unfold closureFor;have e2:=e
 first
  |exact e2
  |(show(do let cs <- forIn sc.names [] _;pure cs)=_;rw[show(forIn sc.names [] _:Sem (List (Str×Addr)))=pure cl from e2];rfl)
  |simpa using e2
theorem Cm {env:Env}{x:Str}:∀ {names:List (Str×NameKind)},(names.map fun (n,k)=>if(k==NameKind.free&&env.scope.kind==.function&&env.kindOf n==some .cell)then(n,NameKind.cell)else(n,k)).lookup x =
    (names.lookup x).map fun k=>if(k==NameKind.free&&env.scope.kind==.function&&env.kindOf x==some .cell)then NameKind.cell else k
  |[]=>rfl
  |(n,k)::r=>by
    have ih:=Cm (env:=env) (x:=x) (names:=r);rw[qP];by_cases hx:x=n
    . subst hx;dsimp only;split<;>simp_all [qu]
    . have hb:(x==n)=false:=by simpa using hx
      dsimp only;split<;>(rw[qu,qu,hb];exact ih)
theorem mem_of_lookup {β:Type}{x:Str}{k:β}:∀ {l:List (Str×β)},l.lookup x=some k->(x,k)∈l
 |(n,b)::r,h=>by
  rw[qu]at h;by_cases hx:x=n
  ·subst hx;simp at h;subst h;exact qI
  ·have hb:(x==n)=false:=by simpa using hx
   rw[hb]at h;exact qj _ (mem_of_lookup h)
theorem Q6:∀ (names:List (Str×NameKind)) (n:Nat) (acc:List (Str×Addr)),cellsFrom n names acc=cellsFrom n names []++acc
 |[],_,_=>rfl
 |(x,k)::r,n,acc=>by
  unfold cellsFrom;split
  ·rw[Q6 r (n+1) ((x,n)::acc),Q6 r (n+1) [(x,n)],qk];rfl
  ·exact Q6 r n acc
theorem Gg:∀ {names:List (Str×NameKind)} {n:Nat} {x:Str} {c:Addr},(x,c)∈cellsFrom n names []->(x,NameKind.cell)∈names
 |(y,k)::r,n,x,c,h=>by
  unfold cellsFrom at h;split at h
  ·rename_i hk;rw[Q6]at h;rcases qD.mp h with h|h
   ·exact qj _ (Gg h)
   ·have e:(x,c)=(y,n):=by simpa using h
    cases e;rw[show k=NameKind.cell by simpa using hk];exact qI
  ·exact qj _ (Gg h)
theorem Gq:∀ {names:List (Str×NameKind)} {n:Nat} {x:Str},(x,NameKind.cell)∈names->((cellsFrom n names []).lookup x).isSome=true
 |(y,k)::r,n,x,h=>by
  unfold cellsFrom;rcases ql.mp h with e|h
  ·cases e;rw[if_pos (by rfl),Q6,N5];cases(cellsFrom (n+1) r []).lookup y with
   |some c=>rfl
   |none=>simp
  ·have ih:=Gq (n:=n) h;have ih':=Gq (n:=n+1) h;split
   ·rw[Q6,N5];obtain⟨c,hc⟩:=NP.mp ih';rw[hc];rfl
   ·exact ih
def Ŕ {M:Model}{A:Around}{E:Value->Shared->Prop}{s:Shared}{scope:Scope}{globals:Addr}{closure:List (Str×Addr)}{qual:Str}{func:Option Addr}{code:Value}{env:Env}{Q:Env->Shared->Prop}
    (hQ:Q (newEnv scope s.heap.objs.size globals (cellsFrom (s.heap.objs.size+1) scope.names closure) qual func code (some env) builtinsNs) { s with heap:=pushCells (s.heap.push { cls:=.type "dict",data:=.dict #[] }) scope.names }) :
    wpAny M A (newFunctionEnv scope globals closure [] qual func code (some env)) Q E s:=by
  simp only[newFunctionEnv,Option.isSome_some,if_true];refine wpAny_bind (wpAny_alloc ?_);refine wpAny_bind (wpAny_layCells _ (fun name kind cells=>by cases hkc:kind==NameKind.cell<;>simp[hkc]) _ _ _ _ ?_);rw[show({ s with heap:=s.heap.push { cls:=.type "dict",data:=.dict #[] } }:Shared).heap.objs.size=s.heap.objs.size+1 from W0 ..];rw[Oe];exact wpAny_bind (wpAny_pure (wpAny_pure hQ))
section
variable {X:Cx}{sc:Scope}{tg iter elt:Expr}{ifs:List Expr}{own free:List Str}{fv:List Nat}{wi:TI}{g:TG}{tc:TT}{te:TE}{pos:Pos}
theorem p7 {U:L2.St}:∀ {free:List Str} {fv:List Nat},Ve X sc free fv->∀ (k:Nat) (x:Str) (v:V),free[k]?=some x->(fv.map fun j=>(U[j]?).join)[k]?=some (some v) ->
  ∃ j:Nat,X.N[j]?=some x/\U[j]?=some (some v)/\sc.names.lookup x=some .free/\X.env.kindOf x=some .cell
 |x'::xs,j::js,h,k,x,v,e1,e2=>by
  cases k with
  |zero =>
   simp at e1 e2;subst e1;refine⟨j,h.1,?_,h.2.1,h.2.2.1⟩;cases q:U[j]? with
   |none=>rw[q]at e2;simp at e2
   |some o=>rw[q]at e2;simp at e2;rw[e2]
  |succ k=>exact p7 (free:=xs) (fv:=js) h.2.2.2 k x v (by simpa using e1) (by simpa using e2)
 |[],[],_,k,x,v,e1,_=>by simp at e1
theorem pq:∀ {free:List Str} {fv:List Nat},Ve X sc free fv->fv.length=free.length
  |[],[],_=>rfl
  |_::_,_::_,h=>congrArg (· + 1) (pq h.2.2.2)
def xg {RR : Value → Addr → Result → Shared → Prop} (hcalm : X.calm = true) (hxe : X.xe = fun _ _ => False) (hkind : sc.kind = .function) (hcell : ∀ y ∈ sc.names, y.2 = .cell → sc.names.lookup y.1 = some .cell) (hfr : W6 (fun x => X.env.kindOf x = some .cell) sc.names) (hfv : Ve X sc free fv) (hg : ∀ cl C s₀ H₀ ex, PG (inner X sc (own ++ free) cl C s₀ H₀ ex) tg g) (ht : ∀ cl C s₀ H₀ ex, Q7 (inner X sc (own ++ free) cl C s₀ H₀ ex) ifs tc) (he : ∀ cl C s₀ H₀ ex, PE (inner X sc (own ++ free) cl C s₀ H₀ ex) elt te) {Q : VK} (I2 : Inv X Z9 U H2 s2) (T : Turn X.prog X.w X.K tg J fp it tn) (st2 : tn 0 s2.heap) (f2 : ∀ b ∈ fp, Vx X Z9 H2 b) (h : ∀ p, H2 p = none → ∃ W : Nat → Nat → Hp → Prop, (∃ m, W 0 m (upd H2 p (.lst []))) ∧ ∀ i m H2, W i m H2 →
      (J.stop i H2/\Q (.ref p) H2)\/(J.go i H2/\∀ x H',J.yld i H2 x H'->g x (cst own fv U) H' fun σ2 H3=>Xr (cst own fv U) σ2/\tc σ2 H3 fun b H4 =>
        if b=true then te σ2 H4 fun y H5=>∃ ys,H5 p=some (.lst ys)/\ys.length<sizeLine/\∃ m',m'<m/\W (i+1) m' (upd H5 p (.lst (ys++[y])))
        else ∃ m',m'<m/\W (i+1) m' H4)) {cl:List (Str×Addr)} (hcl1:∀ x c,cl.lookup x=some c->X.env.cells.lookup x=some c) (hcl2:∀ y∈sc.names,y.2=.free->(cl.lookup y.1).isSome=true) (hRR:∀ (p C:Addr) (m:Str->Option Value) (H':Hp) (s':Shared),s'.heap.Ns C m->Inv X Z9 U H' s'->H' C=none->C≠X.env.locals->X.s₀.heap.objs.size<=C->(∀ x c,X.env.cells.lookup x=some c->c≠C)->(∀ q∈X.pn++Z9,q.1≠C)->Q (.ref p) H' ->
      RR (.ref p) C (.ok .next) s') :
    wpAny (model X.prog X.w) X.A (newList []) (fun acc s3=>wpAny (model X.prog X.w) X.A (newFunctionEnv sc X.env.globals cl [] X.env.qual none .none (some X.env)) (fun cenv s4 =>codeAny (model X.prog X.w) X.A (.compStart (.ListComp elt [⟨tg,iter,ifs,0⟩] sc pos) 0 (.ref it) acc { cenv with scope:=relabel sc X.env }) (RR acc cenv.locals) s4) X.xe s3) X.xe s2:=by
  rw[hxe];refine wpAny_newObj_type ?_;have I3:Inv X Z9 U (upd H2 s2.heap.objs.size (.lst [])) { s2 with heap:=s2.heap.push { cls:=.type "list",data:=.seq ([]:List Value).toArray } }:=I2.lnew (t':=s2.toks) .nil (qY _);generalize hs3:({ s2 with heap:=s2.heap.push { cls:=.type "list",data:=.seq ([]:List Value).toArray } }:Shared)=s3 at I3 ⊢;have hp:H2 s2.heap.objs.size=none:=I2.fresh;obtain⟨W,⟨m0,w0⟩,turn⟩:=h s2.heap.objs.size hp;generalize hH3:upd H2 s2.heap.objs.size (.lst [])=H3 at I3 w0 ⊢;have hk3:∀ b o,s2.heap.get? b=some o->s3.heap.get? b=some o:=fun b o e=>by rw[<- hs3];exact qd _ e
  have hz3:s3.heap.objs.size=s2.heap.objs.size+1:=by rw[<- hs3];exact W0 ..
  have st3:tn 0 s3.heap:=T.keep _ _ _ st2 fun b _ o e=>hk3 b o e
  have hfpo:∀ b∈fp,∃ o,s3.heap.get? b=some o:=fun b hb=>by obtain⟨o,e,_⟩:=T.obj _ _ st3 b hb;exact⟨o,e⟩
  have hfpn:∀ b∈fp,b≠s2.heap.objs.size:=fun b hb e=>by obtain⟨o,e',_⟩:=T.obj _ _ st2 b hb;have:=qC e';rw[e]at this;exact Xz _ this
  have f3:∀ b∈fp,H3 b=none:=fun b hb=>by rw[<- hH3,zu (hfpn b hb)];exact(f2 b hb).1
  refine Ŕ ?_;have cok:=cellsFrom_ok sc.names (s3.heap.push { cls:=.type "dict",data:=.dict #[] }) (s3.heap.objs.size+1) [] ⟨fun _ _ hm=>(nomatch hm),List.Pairwise.nil⟩ (by rw[W0];exact qh _);rw[W0]at cok;have hns1:(pushCells (s3.heap.push { cls:=.type "dict",data:=.dict #[] }) sc.names).Ns s3.heap.objs.size (fun _=>none):=(Heap.Ns.new s3.heap (.type "dict")).keeps (pushCells_keeps _ _);have old:∀ b o,s3.heap.get? b=some o->(pushCells (s3.heap.push { cls:=.type "dict",data:=.dict #[] }) sc.names).get? b=some o:=fun b o e=>pushCells_keeps _ _ b o (qd _ e)
  rw[Q6];have fmem:∀ {x c},(x,c)∈cellsFrom (s3.heap.objs.size+1) sc.names []->sc.names.lookup x=some .cell:=fun {x c} h=>hcell (x,.cell) (Gg h) rfl
  have fhas:∀ {x},sc.names.lookup x=some .cell->∃ c,(cellsFrom (s3.heap.objs.size+1) sc.names []).lookup x=some c:=fun {x} h=>NP.mp (Gq (mem_of_lookup h))
  generalize pushCells (s3.heap.push { cls:=.type "dict",data:=.dict #[] }) sc.names=h1 at cok hns1 old ⊢;generalize cellsFrom (s3.heap.objs.size+1) sc.names []=F at cok fmem fhas ⊢;have flt:∀ {x c},F.lookup x=some c->s3.heap.objs.size<c:=fun {x c} e=>(cok.empty x c (mem_of_lookup e)).2
  have cl':∀ {x c},(F++cl).lookup x=some c->F.lookup x=some c\/(F.lookup x=none/\cl.lookup x=some c):=fun {x c} e=>by
    rw[N5]at e;cases hF:F.lookup x with
    |some c'=>rw[hF]at e;exact .inl e
    |none=>rw[hF]at e;exact .inr ⟨rfl,e⟩
  have hC0:H3 s3.heap.objs.size=none:=I3.fresh;have hlow:X.s₀.heap.objs.size<=s3.heap.objs.size:=I3.sz;have hloc:X.env.locals<s3.heap.objs.size:=I3.lt
  have hcells:∀ x c,X.env.cells.lookup x=some c->c<s3.heap.objs.size:=fun x c e=>by obtain⟨v,o,ho,_⟩:=I3.cell x c e;exact qC ho
  have YOk:(inner X sc (own++free) (F++cl) s3.heap.objs.size s3 H3 fp).Ok:={
    mod:=I3.ok.mod
    kind:=by show(relabel sc X.env).kind=.function;exact hkind
    glob:=I3.ok.glob
    blt:=I3.ok.blt
    above:=qh _
    inj:=fun x y c hx hy=>by
      rcases cl' hx with h|⟨_,h⟩<;>rcases cl' hy with h'|⟨_,h'⟩
      . exact name_of_addr cok.apart (mem_of_lookup h) (mem_of_lookup h')
      . exact absurd (Nat.lt_trans (flt h) (hcells y c (hcl1 y c h'))) (Xz _)
      . exact absurd (Nat.lt_trans (flt h') (hcells x c (hcl1 x c h))) (Xz _)
      . exact I3.ok.inj x y c (hcl1 x c h) (hcl1 y c h')
    has:=fun x hx=>by
      show ∃ c,(F++cl).lookup x=some c;rw[N5];cases hF:F.lookup x with
      |some c=>exact⟨c,rfl⟩
      |none =>
      show ∃ c,cl.lookup x=some c
      have e : (sc.names.lookup x).map (fun k => if(k == NameKind.free && X.env.scope.kind == .function && X.env.kindOf x == some .cell)then NameKind.cell else k) = some .cell ∨
          (sc.names.lookup x).map (fun k=>if(k==NameKind.free&&X.env.scope.kind==.function&&X.env.kindOf x==some .cell)then NameKind.cell else k)=some .free:=by
        have:=@Cm X.env x sc.names;rcases hx with hx|hx
        . exact .inl (this.symm.trans hx)
        . exact .inr (this.symm.trans hx)
      cases q:sc.names.lookup x with
      |none=>rw[q]at e;simp at e
      |some k =>
        have hm:=mem_of_lookup q;by_cases hkf:k=.free
        . subst hkf;exact NP.mp (hcl2 (x,.free) hm rfl)
        . have hkc : k ≠ .cell := fun ek => by
            subst ek;obtain⟨c,hc⟩:=fhas q;rw[hF]at hc;cases hc
          rw[q]at e;have hb:(k==NameKind.free)=false:=by simpa using hkf
          simp only[Option.map_some,hb,V5,Uv,if_false,Option.some.injEq]at e;rcases e with e|e
          . exact absurd e hkc
          . exact absurd e hkf
    cab:=fun x c hx hc=>by
      obtain⟨c',hc'⟩:=fhas (show sc.names.lookup x=some .cell from beq_iff_eq.mp hx);rcases cl' hc with h|⟨h,_⟩
      . exact Lh (flt h)
      . rw[hc']at h;cases h
    hd:=I3.ok.hd
    frames:=I3.ok.frames
    stk:=.inl rfl
    exf:=fun b hb=>⟨fun e=>by obtain⟨o,e'⟩:=hfpo b hb;have:=qC e';rw[e]at this;exact Xz _ this,fun x c hx=>by
      rcases cl' hx with h|⟨_,h⟩
      . obtain⟨o,e'⟩:=hfpo b hb;exact Wu (Nat.lt_trans (qC e') (flt h))
      . exact(f2 b hb).2.2.2.2.1 x c (hcl1 x c h)⟩
    bs:=I3.bs
    bsz:=qW I3.ok.bsz I3.sz
    noex:=fun b o hb hm=>by
      rcases(f2 b hm).2.2.2.1 with hx|hx
      . exact I3.ok.noex b o hb hx
      . exact Xz _ (qE (qE (qC hb) I3.ok.bsz) hx)
    exfs:=fun b hb hm=>by
      rcases ql.mp (I3.stkSub b hm)with e|e
      . exact(f2 b hb).2.1 e
      . exact(f2 b hb).2.2.1 e
    funs:=I3.stack
    frf:=I3.stkFree }
  have hlen0:(cst own fv U).length=(own++free).length:=by unfold cst;rw[qf,qf,qM,qa,pq hfv]
  have I4:∀ tk,Inv (inner X sc (own++free) (F++cl) s3.heap.objs.size s3 H3 fp) [] (cst own fv U) H3 { s3 with heap:=h1,toks:=tk }:=fun tk=>{
    ok:=YOk
    os:=rfl
    bare:=I3.bare
    base:=Un.kept old
    loc:=by
      refine⟨_,hns1,fun i x v hN hσ _=>?_⟩;have hN':(own++free)[i]?=some x:=hN;have hσ':(List.replicate own.length none++fv.map fun j=>(U[j]?).join)[i]?=some (some v):=hσ;by_cases hi:i<own.length
      . rw[qg (by rw[qM];exact hi)]at hσ';rw[K7]at hσ';split at hσ'<;>simp at hσ'
      . rw[qe (by lia)]at hN';rw[qe (by rw[qM];lia),qM]at hσ';obtain⟨j,hj,hσj,hsx,hkx⟩:=p7 hfv _ x v hN' hσ';obtain⟨m,_,hall⟩:=I3.loc;obtain⟨u,ru,lk⟩:=hall j x v hj hσj (.inr (.inl hkx));refine⟨u,ru,.inr ⟨?_,?_⟩⟩
        . have:=@Cm X.env x sc.names;rw[hsx]at this;have e2:Env.kindOf (inner X sc (own++free) (F++cl) s3.heap.objs.size s3 H3 fp).env x=(sc.names.map fun (n,k)=>if(k==NameKind.free&&X.env.scope.kind==.function&&X.env.kindOf n==some .cell)then(n,NameKind.cell)else(n,k)).lookup x:=rfl;rw[e2,this];simp only[Option.map_some];split
          . exact .inl rfl
          . exact .inr rfl
        . rcases lk with⟨hl,_⟩|⟨_,c,hc,hcell'⟩
          . rw[hkx]at hl;cases hl
          . obtain⟨c',hc'⟩:=NP.mp (hcl2 (x,.free) (mem_of_lookup hsx) rfl);have:=hcl1 x c' hc';rw[hc]at this;cases this;refine⟨c,?_,?_⟩
            . show(F++cl).lookup x=some c;rw[N5];cases hF:F.lookup x with
              |none=>exact hc'
              |some c2=>have:=fmem (mem_of_lookup hF);rw[hsx]at this;cases this
            obtain⟨o,ho,hd⟩:=hcell';exact⟨o,old _ _ ho,hd⟩
    cell:=fun x c hx=>by
      rcases cl' hx with h|⟨_,h⟩
      . exact⟨none,(cok.empty x c (mem_of_lookup h)).1⟩
      . obtain⟨v,o,ho,hd⟩:=I3.cell x c (hcl1 x c h);exact⟨v,o,old _ _ ho,hd⟩
    free:=hC0
    freeC:=fun x c hx=>by
      rcases cl' hx with h|⟨_,h⟩
      . exact I3.hok.fresh (Lh (flt h))
      . exact I3.freeC x c (hcl1 x c h)
    pin:=fun q hq=>nomatch hq
    hok:=I3.hok.kept old
    len:=hlen0 }
  have back:∀ (m:Str->Option Value) (H':Hp) (s':Shared),s'.heap.Ns s3.heap.objs.size m->Inv (inner X sc (own++free) (F++cl) s3.heap.objs.size s3 H3 fp) [] (cst own fv U) H' s'->Q (.ref s2.heap.objs.size) H'->RR (.ref s2.heap.objs.size) s3.heap.objs.size (.ok .next) s':=fun m H' s' hm IY q=>by
    have u1:Un (frs X.stack) fp H3 H' s3.heap s'.heap:=IY.base;have IX:Inv X Z9 U H' s':=I3.call' (ch:=fp) (IY.os) u1 IY.hok IY.bare fun b hb=>⟨(f2 b hb).2.2.2.1,(f2 b hb).2.1,(f2 b hb).2.2.2.2.1,(f2 b hb).2.2.2.2.2⟩
    refine hRR _ _ m H' s' hm IX IY.free (Wu hloc) hlow (fun x c hx=>qV (hcells x c hx)) (fun q' hq=>?_) q;have:=(I3.pin q' hq).1;exact qV (qC this)
  have stat:∀ {H':Hp},(∀ b∈fp,H' b=none)->∀ b∈fp,Vx (inner X sc (own++free) (F++cl) s3.heap.objs.size s3 H3 fp) [] H' b:=fun hn b hb =>⟨hn b hb,(YOk.exf b hb).1,YOk.exfs b hb,.inl hb,(YOk.exf b hb).2,fun q hq=>nomatch hq⟩
  have hYxe:(inner X sc (own++free) (F++cl) s3.heap.objs.size s3 H3 fp).xe=fun _ _=>False:=hxe
  have loop:∀ tk,codeAny (model X.prog X.w) X.A (.compLoop (.ListComp elt [⟨tg,iter,ifs,0⟩] sc pos) 0 (.ref it) (.ref s2.heap.objs.size) (compEnvC sc (F++cl) s3.heap.objs.size X.env)) (RR (.ref s2.heap.objs.size) s3.heap.objs.size) { s3 with heap:=h1,toks:=tk }:=fun tk=>by
    refine zkc (fun n s'=>∃ i H',Inv (inner X sc (own++free) (F++cl) s3.heap.objs.size s3 H3 fp) [] (cst own fv U) H' s'/\tn i s'.heap/\(∀ b∈fp,H' b=none)/\W i n H') ?_ m0 ⟨0,H3,I4 tk,T.keep _ _ _ st3 (fun b _ o e=>old b o e),f3,w0⟩;rintro n s5 ⟨i,H5,I5,st5,fr5,w5⟩;rcases turn i n H5 w5 with⟨stop,q⟩|⟨go,step⟩
    . refine Z2 (T.done (inner X sc (own++free) (F++cl) s3.heap.objs.size s3 H3 fp) rfl rfl rfl hcalm i [] s5 _ H5 _ I5 (stat fr5) st5 stop) fun r s6 ⟨hr,I6⟩=>?_
      subst hr;obtain⟨m,hm,_⟩:=I6.loc;exact back m H5 s6 hm I6 q
    . refine Z2 (T.item (inner X sc (own++free) (F++cl) s3.heap.objs.size s3 H3 fp) rfl rfl rfl hcalm i [] s5 _ H5 _ I5 (stat fr5) st5 go) fun r s6 ⟨u,hr,h6⟩=>?_
      subst hr;refine Z2 h6 fun _ s7 ⟨x,H7,I7,r7,y7,st7,fr7⟩=>?_
      have I7':=I7.pinned (stat fr7) (T.obj _ _ st7);have hg':=hg (F++cl) s3.heap.objs.size s3 H3 fp _ s7 _ H7 x u _ I7' r7 (step x H7 y7);have ht':=ht (F++cl) s3.heap.objs.size s3 H3 fp;have he':=he (F++cl) s3.heap.objs.size s3 H3 fp;have ap:Ox (inner X sc (own++free) (F++cl) s3.heap.objs.size s3 H3 fp) "list.append" uw:=xM;unfold Q7 at ht';unfold PE at he';unfold Ox at ap;rw[hYxe]at hg' ht' he' ap
      have again : ∀ {pl : List (Addr × Obj)} {σ8 : L2.St} {H8 : Hp} {s8 : Shared}, pl = MJ fp s7.heap → Inv (inner X sc (own ++ free) (F ++ cl) s3.heap.objs.size s3 H3 fp) ([] ++ pl) σ8 H8 s8 → Xr (cst own fv U) σ8 → (∃ m', m' < n ∧ W (i + 1) m' H8) →
          ∃ m,m<n/\∃ i H',Inv (inner X sc (own++free) (F++cl) s3.heap.objs.size s3 H3 fp) [] (cst own fv U) H' s8/\tn i s8.heap/\(∀ b∈fp,H' b=none)/\W i m H':=fun {pl σ8 H8 s8} hpl I8 ag zq10=>by
        obtain⟨m',hm,w8⟩:=zq10;subst hpl;refine⟨m',hm,i+1,H8,(I8.unpinned).weak ag.len.symm (fun j v e=>ag.get j v e),T.keep _ _ _ st7 fun b hb o e=>(I8.pin (b,o) (qL _ (qL _ (Ie hb e)))).1,fun b hb=>?_,w8⟩;obtain⟨o,e,d⟩:=T.obj _ _ st7 b hb;exact(I8.pin (b,o) (qL _ (qL _ (Ie hb e)))).2.1
      refine Z2 hg' fun _ s8 ⟨σ8,H8,I8,ag,q8⟩=>?_
      refine Z2 (ht' _ s8 σ8 H8 _ I8 q8) fun b s9 ⟨H9,I9,q9⟩=>?_
      cases b with
      |false =>rw[if_neg qr]at q9 ⊢;exact again rfl I9 ag q9
      |true =>
        rw[if_pos rfl]at q9 ⊢;refine Z2 (he' _ s9 σ8 H9 _ I9 q9) fun y s10 ⟨yv,H10,I10,ry,ys,hy,hlt,q10⟩=>?_
        refine Z2 (ap _ s10 σ8 H10 (.ref s2.heap.objs.size) [yv] (.ref s2.heap.objs.size) [y] (fun v H'=>v=.non/\H'=upd H10 s2.heap.objs.size (.lst (ys++[yv]))) I10 rfl (.cons ry .nil) ⟨_,ys,yv,rfl,rfl,hy,hlt,rfl,rfl⟩) fun z s11 ⟨v11,H11,I11,_,_,e11⟩=>?_
        subst e11;exact again rfl I11 ag q10
  refine codeAny_compStart_list (loop _) (T.self _ 0 _ _ _ (T.keep _ _ _ st3 fun b _ o e=>old b o e) (loop _))
def zxd (hcalm:X.calm=true)(hxe:X.xe=fun _ _=>False)(hkind:sc.kind=.function)(hcell:∀ y∈sc.names,y.2=.cell->sc.names.lookup y.1=some .cell)(hnames:∀ y∈sc.names,y.2=.local->sc.names.lookup y.1=some .local)
  (hfr:W6 (fun x=>X.env.kindOf x=some .cell) sc.names) (hfv:Ve X sc free fv) (hi:PI X tg iter wi)
  (hg:∀ cl C s₀ H₀ ex,PG (inner X sc (own++free) cl C s₀ H₀ ex) tg g) (ht:∀ cl C s₀ H₀ ex,Q7 (inner X sc (own++free) cl C s₀ H₀ ex) ifs tc) (he:∀ cl C s₀ H₀ ex,PE (inner X sc (own++free) cl C s₀ H₀ ex) elt te)
  (hs:∀ x,foldedSetIterable iter X.env x=pure x:=by intro _;rfl):PE X (.ListComp elt [⟨tg,iter,ifs,0⟩] sc pos) (Dr own fv wi g tc te):=by
 intro Z9 s U H Q I q;obtain⟨cl,hclos,hcl1,hcl2⟩:=Ax (env:=X.env) (sc:=sc) fun y hy e=>I.ok.has y.1 (.inl (hfr.of y hy e))
 rw[eval_ListComp];refine wpAny_comprehension_free (use:=none) rfl hs hclos hkind hnames (Z2 (hi Z9 s U H _ I q) fun v s1 h1=>Z2 h1 fun itv s2 h2=>?_);obtain⟨it,fp,tn,J,H2,e,I2,T,st2,f2,q2⟩:=h2;subst e;refine xg (RR:=fun acc C=>compPost (model X.prog X.w) X.A X.xe none (EP X Z9 U Q) acc C) hcalm hxe hkind hcell hfr hfv hg ht he I2 T st2 f2 q2 hcl1 hcl2 ?_;intro p C m H' s' hm I' hC hCl hC0 hCc hCp q';exact⟨m,hm,fun h' hs'=>⟨.ref p,H',I'.turned (t':=s'.toks) (fun b o hb e=>hs'.extBut b o hb e) hC hCl (.inr hC0) hCc hCp,rfl,q'⟩⟩
def Φ {i:Nat}{y:Str}{py spos:Pos}(hN:X.N.Nodup)(hy:X.N[i]?=some y)(hyl:X.env.scope.names.lookup y=some .local)(hcalm:X.calm=true)(hxe:X.xe=fun _ _=>False)(hkind:sc.kind=.function)(hcell:∀ y∈sc.names,y.2=.cell->sc.names.lookup y.1=some .cell)(hnames:∀ y∈sc.names,y.2=.local->sc.names.lookup y.1=some .local)
  (hfr:W6 (fun x=>X.env.kindOf x=some .cell) sc.names) (hfv:Ve X sc free fv) (hi:PI X tg iter wi)
  (hg:∀ cl C s₀ H₀ ex,PG (inner X sc (own++free) cl C s₀ H₀ ex) tg g) (ht:∀ cl C s₀ H₀ ex,Q7 (inner X sc (own++free) cl C s₀ H₀ ex) ifs tc) (he:∀ cl C s₀ H₀ ex,PE (inner X sc (own++free) cl C s₀ H₀ ex) elt te)
  (hsw:swapsWith (.ListComp elt [⟨tg,iter,ifs,0⟩] sc pos) (some (.Name y py)) spos.line X.env=pure true:=by rfl)
  (hs:∀ x,foldedSetIterable iter X.env x=pure x:=by intro _;rfl):PS X (.Assign [.Name y py] (.ListComp elt [⟨tg,iter,ifs,0⟩] sc pos) spos) (Dm (Dr own fv wi g tc te) (zT i)):=by
 intro Z9 s U H D I q;obtain⟨cl,hclos,hcl1,hcl2⟩:=Ax (env:=X.env) (sc:=sc) fun y hy e=>I.ok.has y.1 (.inl (hfr.of y hy e))
 rw[exec_Assign_Name_used _ _ _ _ hsw];refine wpAny_bind (wpAny_standAt (wpAny_bind ?_));show wpAny _ X.A (do let _ <- comprehension (.ListComp elt [⟨tg,iter,ifs,0⟩] sc pos) sc X.env _ (newList []) false (eval iter X.env) (some (assign (.Name y py) X.env))) _ _ s
 refine wpAny_bind (wpAny_mono (wpAny_comprehension_free (use:=some (assign (.Name y py) X.env)) (Q:=fun _ s'=>SP X Z9 D .next s') rfl hs hclos hkind hnames
  (Z2 (hi Z9 s U H _ I q) fun v s1 h1=>Z2 h1 fun itv s2 h2=>?_)) (fun _ s' hq=>wpAny_pure (wpAny_pure hq)) fun _ _ e=>e)
 obtain⟨it,fp,tn,J,H2,e,I2,T,st2,f2,q2⟩:=h2;subst e;refine xg (RR:=fun acc C=>compPost (model X.prog X.w) X.A X.xe (some (assign (.Name y py) X.env)) (fun _ s'=>SP X Z9 D .next s') acc C) (Q:=fun x H1=>zT i x U H1 D.nx) hcalm hxe hkind hcell hfr hfv hg ht he I2 T st2 f2 q2 hcl1 hcl2 ?_;intro p C m H' s' hm I' hC hCl hC0 hCc hCp q';show wpAny _ X.A (assign (.Name y py) X.env (.ref p)) _ _ _;refine wpAny_assign_Name (rY (v:=.ref p) I' hN hy (.inl hyl) rfl (fun s'' I'' hsb=>?_) (.inr hyl));obtain⟨a,hsb,ha⟩:=hsb
 have hCa:C≠a:=by
  rcases ha with rfl|ha
  ·exact hCl
  ·exact fun e=>hCc _ _ ha e.symm
 refine⟨m,hm.sameBut hsb hCa,fun h' hs'=>⟨_,H',I''.turned (t':=s''.toks) (fun b o hb e=>hs'.extBut b o hb e) hC hCl (.inr hC0) hCc hCp,q'⟩⟩
end
section
variable {U:L2.St}{H:Hp}{K:PySem.W.Frag}
end
section
variable {X:Cx}{tg:Expr}
end
mutual
inductive Dt (K:PySem.W.Frag)(H:Hp):V->PyData->Prop
 |non:Dt K H .non .none
 |bl (b:Bool):Dt K H (.bl b) (.bool b)
 |int (i:Int):Dt K H (.int i) (.int i)
 |tup {a:Addr} {xs:List V} {ds:List PyData}:ZM K H a xs->Lw K H xs ds->Dt K H (.ref a) (.tuple ds)
 |lst {a:Addr} {xs:List V} {ds:List PyData}:ZC K H a xs->Lw K H xs ds->Dt K H (.ref a) (.list ds)
inductive Lw (K:PySem.W.Frag)(H:Hp):List V->List PyData->Prop
 |nil:Lw K H [] []
 |cons {x:V} {xs:List V} {d:PyData} {ds:List PyData}:Dt K H x d->Lw K H xs ds->Lw K H (x::xs) (d::ds)
end
section
variable {X:Cx}{Z9:List (Addr×Obj)}{U:L2.St}{H:Hp}{s:Shared}
end
section
variable {X:Cx}{Z9:List (Addr×Obj)}{U:L2.St}{H:Hp}{s:Shared}
def _root_.L2.Inv.turnNew {h':Heap}{ch:List Addr}{a:Addr}{o:HO}{t':Nat}(I:Inv X Z9 U H s)(hf:∀ b∈ch,Vx X Z9 H b)(k:∀ b u,b∉ch->s.heap.get? b=some u->h'.get? b=some u)(ha:s.heap.objs.size<=a)
  (new:zW X.prog X.w (upd H a o) h' a o):Inv X Z9 U (upd H a o) { s with heap:=h',toks:=t' }:=by
 have lt:∀ b u,s.heap.get? b=some u->b≠a:=fun b u e z=>by have:=qC e;rw[z]at this;exact Xz _ (qE this ha)
 have ltH:∀ b u,H b=some u->b≠a:=fun b u e z=>by have:=I.hok.lt e;rw[z]at this;exact Xz _ (qE this ha)
 have nch:∀ b u,H b=some u->b∉ch:=fun b u e z=>by rw[(hf b z).1]at e;cases e
 refine I.step (g':=s.gens) (d':=s.drawn) (ch:=ch) (fun b hb=>⟨(hf b hb).2.2.2.1,(hf b hb).2.1,(hf b hb).2.2.2.2.1,(hf b hb).2.2.2.2.2⟩) (fun b u _ _ hc e _=>k b u hc e) (fun b u _ _ hc e _=>⟨u.slots,k b u hc e⟩)
  (fun b u _ e n=>by rw[zu (lt b u e)];exact n) (fun b u hc e=>⟨u,k b u hc e⟩) (fun b xs e=>by rw[zu (ltH b _ e)];exact e) (fun b u v e=>by rw[zu (ltH b _ e)];exact e)
  (fun b ps e=>⟨#[],by rw[zu (ltH b _ e),e];simp⟩) (fun m hm=>?_) (fun b u e=>?_) I.bare
 ·obtain⟨ob,es,ep,ho,r⟩:=hm;exact⟨ob,es,ep,k _ ob (fun z=>(hf _ z).2.1 rfl) ho,r⟩
 ·by_cases hb:b=a
  ·subst hb;rw[zL]at e;cases e;exact new
  ·rw[zu hb]at e;refine(I.hok b u e).stay (fun c v hc q=>k c v ?_ q) (fun c q=>by rw[zu (ltH c _ q)];exact q) fun c ys q=>by rw[zu (ltH c _ q)];exact q
   rcases hc with z|z
   ·rw[z];exact nch b u e
   ·exact nch c _ z
def _root_.L2.Inv.turnedL {h':Heap}{ch:List Addr}{t':Nat}(I:Inv X Z9 U H s)(hf:∀ b∈ch,Vx X Z9 H b)(k:∀ b u,b∉ch->s.heap.get? b=some u->h'.get? b=some u):Inv X Z9 U H { s with heap:=h',toks:=t' }:=by
 have nch:∀ b u,H b=some u->b∉ch:=fun b u e z=>by rw[(hf b z).1]at e;cases e
 refine I.step (g':=s.gens) (d':=s.drawn) (ch:=ch) (fun b hb=>⟨(hf b hb).2.2.2.1,(hf b hb).2.1,(hf b hb).2.2.2.2.1,(hf b hb).2.2.2.2.2⟩) (fun b u _ _ hc e _=>k b u hc e) (fun b u _ _ hc e _=>⟨u.slots,k b u hc e⟩)
  (fun b u _ e n=>n) (fun b u hc e=>⟨u,k b u hc e⟩) (fun b xs e=>e) (fun b u v e=>e) (fun b ps e=>⟨#[],by rw[e];simp⟩) (fun m hm=>?_) (fun b u e=>?_) I.bare
 ·obtain⟨ob,es,ep,ho,r⟩:=hm;exact⟨ob,es,ep,k _ ob (fun z=>(hf _ z).2.1 rfl) ho,r⟩
 ·refine(I.hok b u e).stay (fun c v hc q=>k c v ?_ q) (fun c q=>q) fun c ys q=>q
  rcases hc with z|z
  ·rw[z];exact nch b u e
  ·exact nch c _ z
end
section
variable {X:Cx}
end
def Ite (K:PySem.W.Frag)(l:Addr):It :=
  ⟨fun i H=>∃ xs x,ZC K H l xs/\xs[i]?=some x,
   fun i H v H'=>∃ p,v=.ref p/\H p=none/\∀ xs x,ZC K H l xs->xs[i]?=some x->H'=upd H p (.tup [.int i,x]),
   fun i H=>∃ xs,ZC K H l xs/\xs.length<=i⟩
def gW {P:Program}{w:World}{K:PySem.W.Frag}{es:List Expr}{kk:Nat}{pos:Pos}{e it l:Addr}(hne:e≠it) :
  Turn P w K (.Tuple es kk pos) (Ite K l) [e,it] e (fun i h=>(∃ old,IsEnum h e it i old)/\h.IsListIter it l i) where
 mem:=by simp
 obj:=fun i h st b hb=>by
  obtain⟨⟨old,he⟩,⟨o1,h1,_,h1d⟩⟩:=st;simp only[ql,qJ,or_false]at hb;rcases hb with rfl|rfl
  ·exact⟨_,he,fun v q=>by cases(show Data.fields _=Data.cell v from q)⟩
  ·exact⟨_,h1,fun v q=>by rw[h1d]at q;cases q⟩
 keep:=fun i h h' st k=>by obtain⟨⟨old,he⟩,h1⟩:=st;exact⟨⟨old,k e (by simp) _ he⟩,h1.at fun o q=>k it (by simp) o q⟩
 item:=by
  intro X hP hw hK hc i Z9 s U H E I hf st hg;subst hP hw hK;obtain⟨⟨old,he⟩,h1⟩:=st;obtain⟨xs,x,hx1,hx⟩:=hg;obtain⟨its,rx,px,zx⟩:=I.list hx1;obtain⟨u,hu,ru⟩:=Vals.get rx hx;refine wpAny_pyNext_enum_item he h1 px.isList (by simpa using hu) hne fun h' a1 a2 a3 a4 hk=>?_
  refine⟨_,rfl,wpAny_letOwnedTupleGo_enum (s:={ s with heap:=h',toks:=s.toks+1 }) a1 fun h'' he'' hs''=>?_⟩;have lt:∀ {c o},s.heap.get? c=some o->s.heap.objs.size≠c:=fun q=>Wu (qC q)
  have k2:∀ b u,b∉[e,it]->s.heap.get? b=some u->h''.get? b=some u:=fun b u hb q=>by simp only[ql,qJ,or_false,not_or]at hb;exact hs''.extBut b u hb.1 (hk b u hb.1 hb.2 q)
  have new:h''.get? s.heap.objs.size=some { cls:=.type "tuple",data:=.seq #[.int i s.toks,u] }:=hs''.extBut _ _ (lt he) a3;refine⟨.ref s.heap.objs.size,upd H s.heap.objs.size (.tup [.int i,x]),I.turnNew (t':=s.toks+1) hf k2 (qh _) ⟨by show 2<=sizeLine;decide,[.int i s.toks,u],.cons ⟨_,rfl⟩ (.cons ru .nil),_,new,rfl,_,rfl⟩,rfl,⟨_,rfl,I.fresh,?_⟩,?_,fun b hb=>?_⟩
  ·intro xs' x' hx1' hx';cases I.list_inj hx1 hx1';rw[hx]at hx';cases hx';rfl
  ·exact⟨⟨_,he''⟩,a2.extBut hs''.extBut (Ne.symm hne)⟩
  ·have:∃ o,s.heap.get? b=some o:=by
    simp only[ql,qJ,or_false]at hb;obtain⟨o1,e1,_⟩:=h1;rcases hb with rfl|rfl
    ·exact⟨_,he⟩
    ·exact⟨_,e1⟩
   obtain⟨o,q⟩:=this;rw[zu (lt q).symm];exact(hf b hb).1
 done:=by
  intro X hP hw hK hc i Z9 s U H E I hf st hg;subst hP hw hK;obtain⟨⟨old,he⟩,h1⟩:=st;obtain⟨xs,hx1,hl⟩:=hg;obtain⟨its,rx,px,zx⟩:=I.list hx1;have n1:=rx.length;refine wpAny_pyNext_enum_end (I.ok.hd hc) he h1 px.isList (by rw[Hh];exact qB (by lia)) fun h' hk=>⟨rfl,I.turnedL (t':=s.toks) hf fun b u hb q=>?_⟩
  simp only[ql,qJ,or_false,not_or]at hb;exact hk b u hb.2 q
 self:=fun _ _ _ _ _ st h=>by obtain⟨⟨old,he⟩,_⟩:=st;exact wpAny_pyIter_enum he h
section
variable {X:Cx}
def VN (K:PySem.W.Frag)(ta:TA):TI:=fun U H R=>ta U H fun vs H1=>∃ l,vs=[.ref l]/\(∃ xs,ZC K H1 l xs)/\R (Ite K l) H1
def zrm {es:List Expr}{kk:Nat}{tpos:Pos}{a:Expr}{ta:TA}{p pos:Pos}(hg:Gl X "enumerate")(hm:X.mg "enumerate"=none)(ha:PA X [a] ta)(hs:autoParam (starEach [a] X.env=[(false,eval a X.env)]) zy) :
    PI X (.Tuple es kk tpos) (.Call (.Name "enumerate" p) [a] [] pos) (VN X.K ta):=by
  intro Z9 s U H R I h;refine Call_ (Ua I hg hm boot_enumerate (PyProof.Rows.callWith_type1 (Z2 (ha pos Z9 s U H _ I h) fun us s1 ⟨vs,H1,I1,r1,q1⟩=>?_) hs rfl));obtain⟨l,e,⟨xs,hx⟩,q⟩:=q1;subst e;obtain⟨u,rfl,ru⟩:=vals1 r1;cases ru;obtain⟨its,rx,px,zx⟩:=I1.list hx;refine call_enumerate_list px.isList fun h' he hit hsz hk=>?_
  have I2:Inv X Z9 U H1 { s1 with heap:=h' }:=I1.kept (t':=s1.toks) hk;refine wpAny_pyIter_enum (s:={ s1 with heap:=h' }) he ?_;refine⟨_,_,_,_,H1,rfl,I2,gW (Wu (La _)),⟨⟨_,he⟩,hit⟩,fun b hb=>?_,q⟩
  have hb':s1.heap.objs.size<=b:=by simp only[ql,qJ,or_false]at hb;rcases hb with rfl|rfl<;>first|exact Ly _ _|exact qh _
  exact I1.fpOk hb' (I1.hok.fresh hb')
end
def cx (cs:List (Int×Int))(k:Nat):Int:=(cs.getD k (0,0)).1
def hT (x1 z1 x2 z2 a b:Int):Int:=z1*(x2-x1)*b+(z2-z1)*(a-x1*b)
def hB (x1 x2 b:Int):Int:=(x2-x1)*b
section
variable {U:L2.St}{H:Hp}
end
structure DR (P:Program)(w:World)(K:PySem.W.Frag)(mg:Str->Option Value)(base:Heap)(k:Nat)(x:Str)(sp:Sp):Prop where
 ex:∃ (C f:Addr) (fd:FuncData) (ps:List Str) (sp0:Sp),Mk K C f/\YK P w K mg base Wq k f fd ps sp0/\Binds K fd ps []/\mg x=some (.ref C) /\
  ∀ vs H Q,sp vs H Q E0->∀ x dx,H x=none->H dx=none->dx≠x->sp0 (.ref x::vs) (upd (upd H dx (.own x)) x (.ins C dx [])) (fun v H2=>v=.non/\Q (.ref x) H2) E0
def Ø {X:Cx}{k:Nat}{sp:Sp}{p pos:Pos}{e:Expr}{es:List Expr}{t:TA}(G:DR X.prog X.w X.K X.mg X.base k x sp)(hr:zN j X.A)(hk:k+1<=j)(hg:Gl X x)(ha:PA X (e::es) t)(hdb:autoParam ((x==("__debug__":Str))=false) zR)(he:autoParam (starEach (e::es) X.env=(false,eval e X.env)::starEach es X.env) zy)(hpl:autoParam ((backTo pos (starEach es X.env)).any (·.1)=false) zy) :
  PE X (.Call (.Name x p) (e::es) [] pos) (Df sp [] E0 t):=by
 intro Z9 s U H Q I h;obtain⟨C,f,fd,ps,sp0,M,F,b,hm,imp⟩:=G.ex;refine wpAny_Call_Name_kw (Ql I hg hm ?_ hdb);refine PySem.W.callWith_K (h₀:=X.base) I.ok.mod.kin M.kp (Z2 (ha pos Z9 s U H _ I h) fun us s1 ⟨vs,H1,I1,r,q⟩=>⟨I1.kIn,?_⟩) he hpl;have q':sp (vs++[]) H1 Q E0:=q;rw[Xn]at q';exact Ż (dvs:=[]) (ds:=[]) M F (hr.mono hk) b .nil uH I1 r fun x dx h1 h2 h3=>by rw[Xn];exact imp vs H1 Q q' x dx h1 h2 h3
def zr3 {n:Int}{pos:Pos}(hg:Gl X x)(hm:∃ t,X.mg x=some (.int n t))(hd:autoParam ((x==("__debug__":Str))=false) zR):PE X (.Name x pos) (tC (.int n)):=by obtain⟨t,ht⟩:=hm;exact su (v:=.int n) hg ht ⟨t,rfl⟩ hd
section
variable {U:L2.St}{H:Hp}{K:PySem.W.Frag}
end
section
variable {X:Cx}{K:PySem.W.Frag}
def Ω {its:List Value}(_:Inv X Z9 U H s)(pl:PlainL s.heap p its.toArray) :
  p<s.heap.objs.size/\(s.heap.push { cls:=.type "list_iterator",data:=.fields #[.ref p,.int 0 0] }).IsListIter s.heap.objs.size p 0:=by
 obtain⟨o,ho,_⟩:=pl.isList;exact⟨qC ho,_,qq _ rfl,rfl,rfl⟩
def Ϛ {h':Heap}{tk:Nat}(I:Inv X Z9 U H s){o:Obj}(hk:∀ b u,b∉[s.heap.objs.size]->(s.heap.push o).get? b=some u->h'.get? b=some u) :
  Inv X Z9 U H { s with heap:=h',toks:=tk }:=I.kept (t':=tk) fun d u e=>hk d u (fun hm=>by
   have h1:d=s.heap.objs.size:=by simpa using hm
   have h2:=qC e;rw[h1]at h2;exact Xz _ h2) (qd _ e)
def gK (K:PySem.W.Frag):List V->Hp->VK->Prop:=fun xs H Q=>∃ (p:Addr) (bs:List Bool),xs=[.ref p]/\ZC K H p (bs.map V.bl)/\Q (.bl (bs.all id)) H
def Ö {bs:List Bool}(rv:Vals (bs.map V.bl) its){i:Nat}{v:Value}(h:its.toArray[i]?=some v):v=.bool (bs.getD i false):=by
 rw[<- Gi]at h
 have hi:i<its.length:=by
  rcases qT i its.length with g|g
  ·exact g
  ·rw[qB (by simpa using g)]at h;cases h
 have hl:=rv.length;rw[qa]at hl
 have e:(bs.map V.bl)[i]?=some (.bl (bs.getD i false)):=by rw[qi,qb (by lia)];simp[qG,qb (show i<bs.length by lia)]
 obtain⟨u,hu,ru⟩:=rv.get e;rw[show its.toArray.toList=its from rfl,hu]at h;cases h;exact ru
def all_range (bs:List Bool):(List.range bs.length).all (fun i=>bs.getD i false)=bs.all id:=by
 rw[S8,WM,WM];constructor
 ·intro h b hb;obtain⟨i,hi,rfl⟩:=qN.mp hb;simpa [qG,qb hi]using h i (List.mem_range.mpr hi)
 ·intro h i hi;rw[Rf]at hi;have:=h bs[i] (List.getElem_mem hi);simpa [qG,qb hi]using this
def Ε (hK:X.K=K)(hc:X.calm=true):YJ X (.builtin "all") (gK K):=fun Z9 s U H xs us Q I r h=>by
 subst hK;obtain⟨p,bs,rfl,hS,q⟩:=h;obtain⟨u,rfl,ru⟩:=vals1 r;cases ru;obtain⟨its,rv,pl,hz⟩:=I.list hS;obtain⟨lt,st⟩:=Ω I pl;have hl:=rv.length;rw[qa]at hl;have W:=Walks.list (prog:=X.prog) (w:=X.w) (A:=X.A.in1) (I.ok.hd hc) s.heap.objs.size p (qV lt) its.toArray;refine call_all_walk (wpAny_pyIter_list pl.isList ⟨s.heap.objs.size,[s.heap.objs.size,p],[s.heap.objs.size],_,_,_,fun i=>bs.getD i false,rfl,W,⟨st,pl.isList.push _⟩,?_,?_⟩)
 ·intro i v s' Q' E' hv hq;rw[Ö rv hv];exact wpAny_truthy_bool hq
 ·intro h' tk hk;rw[qo,<- hl,all_range];exact⟨.bl _,H,Ϛ (s:=s) I hk,rfl,q⟩
def θ (K:PySem.W.Frag):List V->Hp->VK->Prop:=fun xs H Q=>∃ (p:Addr) (ns:List Int),xs=[.ref p]/\ZC K H p (ns.map V.int)/\0<ns.length/\∀ m:Int,m∈ns->(∀ a∈ns,a<=m)->Q (.int m) H
def zwO (K:PySem.W.Frag):List V->Hp->VK->Prop:=fun xs H Q=>∃ (p:Addr) (ns:List Int),xs=[.ref p]/\ZC K H p (ns.map V.int)/\0<ns.length/\∀ m:Int,m∈ns->(∀ a∈ns,m<=a)->Q (.int m) H
theorem HN:∀ {ns:List Int} {its:List Value},Vals (ns.map V.int) its->∃ xs:Array (Int×Tok),its.toArray=intItems xs/\xs.toList.map (·.1)=ns
 |[],_,h=>by cases h;exact⟨#[],by simp[intItems],rfl⟩
 |n::ns,_,h=>by
  cases h with
  |cons r t =>
   obtain⟨tk,rfl⟩:=r;obtain⟨xs,e1,e2⟩:=HN t;refine⟨#[(n,tk)]++xs,?_,?_⟩
   ·apply Array.toList_inj.mp;have:=congrArg Array.toList e1;simp[intItems]at this ⊢;exact this
   ·simp[e2]
def Ρ (hK:X.K=K)(hc:X.calm=true):YJ X (.builtin "max") (θ K):=fun Z9 s U H xs us Q I r h=>by
 subst hK;obtain⟨p,ns,rfl,hS,hne,q⟩:=h;obtain⟨u,rfl,ru⟩:=vals1 r;cases ru;obtain⟨its,rv,pl,hz⟩:=I.list hS;obtain⟨xs,e1,e2⟩:=HN rv;have hsz:0<xs.size:=by rw[<- Va,<- qa (f:=(·.1)),e2];exact hne
 refine max_intList (I.ok.hd hc) (e1▸pl.isList) hsz fun v h' tk hv hk=>?_
 obtain⟨t,rfl⟩:=intItems_at hv;obtain⟨h1,h2⟩:=argBest_gt (numAt xs) (xs.size-1);refine⟨.int _,H,I.kept (t':=tk) hk,⟨t,rfl⟩,q _ ?_ fun a ha=>?_⟩
 ·rw[<- e2,numAt_eq];exact getD_mem (by rw[qa,Va];lia)
 ·rw[<- e2]at ha;obtain⟨j,hj,rfl⟩:=mem_getD ha;rw[qa,Va]at hj;rw[<- numAt_eq];exact h2 j (by lia)
def zme (hK:X.K=K)(hc:X.calm=true):YJ X (.builtin "min") (zwO K):=fun Z9 s U H xs us Q I r h=>by
 subst hK;obtain⟨p,ns,rfl,hS,hne,q⟩:=h;obtain⟨u,rfl,ru⟩:=vals1 r;cases ru;obtain⟨its,rv,pl,hz⟩:=I.list hS;obtain⟨xs,e1,e2⟩:=HN rv;have hsz:0<xs.size:=by rw[<- Va,<- qa (f:=(·.1)),e2];exact hne
 refine min_intList (I.ok.hd hc) (e1▸pl.isList) hsz fun v h' tk hv hk=>?_
 obtain⟨t,rfl⟩:=intItems_at hv;obtain⟨h1,h2⟩:=argBest_lt (numAt xs) (xs.size-1);refine⟨.int _,H,I.kept (t':=tk) hk,⟨t,rfl⟩,q _ ?_ fun a ha=>?_⟩
 ·rw[<- e2,numAt_eq];exact getD_mem (by rw[qa,Va];lia)
 ·rw[<- e2]at ha;obtain⟨j,hj,rfl⟩:=mem_getD ha;rw[qa,Va]at hj;rw[<- numAt_eq];exact h2 j (by lia)
end
section
variable {X:Cx}{K:PySem.W.Frag}
def ð (K:PySem.W.Frag):R2:=fun x y H Q=>∃ l b xs zs,x=.ref l/\y=.ref b/\ZC K H l xs/\ZC K H b zs/\xs.length+zs.length<=sizeLine/\∀ p,H p=none->Q (.ref p) (upd H p (.lst (xs++zs)))
def ě (hK:X.K=K):ZF X (binaryOp .Add) (ð K):=by
 subst hK;intro Z9 s U H x y v u Q I rx ry h;obtain⟨l,b,xs,zs,rfl,rfl,hH,hB,hz,q⟩:=h;cases rx;cases ry;obtain⟨its,r,pl,_⟩:=I.list hH;obtain⟨its2,r2,pl2,_⟩:=I.list hB;obtain⟨⟨cls,dd,data,sl⟩,ho,hc,n,hd⟩:=pl.isList;obtain⟨⟨cls2,dd2,data2,sl2⟩,ho2,hc2,n2,hd2⟩:=pl2.isList;simp only at hc hd hc2 hd2;subst hc hd hc2 hd2;have e1:=r.length;have e2:=r2.length;refine concat_meets ⟨_,ho,rfl⟩ ⟨_,ho2,rfl⟩ noFill_list_add seq_list_add PySem.F.slot_list_add PySem.F.entry_list_add (PySem.F.args_list_add_2 _ _) (list_addW l b its.toArray its2.toArray n n2 dd dd2 sl sl2 (by rw[qo,qo];lia)) ⟨ho,ho2,?_⟩;have ea:its.toArray++its2.toArray=(its++its2).toArray:=by simp
 rw[ea];exact⟨.ref _,_,I.lnew (t':=s.toks) (r.append r2) (by rw[qf];lia),rfl,q _ I.fresh⟩
end
section
variable {U:L2.St}{K:PySem.W.Frag}{own:List Str}{fv:List Nat}{g:TG}{tc:TT}{te:TE}{R:Hp->Prop}{H1:Hp}{p a:Addr}{xs:List V}
end
def Wh {α:Type}{xs:List α}{i:Nat}{x:α}(h:xs[i]?=some x):i<xs.length:=by
 rcases qT i xs.length with g|g
 ·exact g
 ·rw[qB g]at h;cases h
open PySem PySem.W PyProof.Rows
section
variable {lt:Nat->Nat->Bool}
abbrev ga (p:Array Nat)(i:Nat):Nat:=p.getD i 0
end
open PySem PySem.Spec PySem.W PyProof.Rows L2
section
variable {prog:Program}{w:World}{A:Around}{E:Value->Shared->Prop}{s:Shared}
end
section
variable {K:PySem.W.Frag}{H:Hp}
end
def zuW (K:PySem.W.Frag):R2:=fun x y H Q=>∃ a b xs ys,x=.ref a/\y=.ref b/\ZM K H a xs/\ZM K H b ys/\xs.length+ys.length<=sizeLine/\(xs=[]->Q (.ref b) H)/\(xs≠[]->ys=[]->Q (.ref a) H)/\(xs≠[]->ys≠[]->∀ p,H p=none->Q (.ref p) (upd H p (.tup (xs++ys))))
def ò {X:Cx}{K:PySem.W.Frag}(hK:X.K=K):ZF X (binaryOp .Add) (zuW K):=by
 subst hK;intro Z9 s U H x y v u Q I rx ry h;obtain⟨a,b,xs,ys,rfl,rfl,ha,hb,hz,q0,q1,q2⟩:=h;by_cases hx:xs=[]
 ·subst hx;cases rx;cases ry;obtain⟨its,r1,p1,_⟩:=I.tuple ha;obtain⟨its2,r2,p2,_⟩:=I.tuple hb;cases r1;obtain⟨⟨cls,dd,data,sl⟩,ho,hc,n,hd⟩:=id p1;obtain⟨⟨cls2,dd2,data2,sl2⟩,ho2,hc2,n2,hd2⟩:=id p2;simp only at hc hd hc2 hd2;subst hc hd hc2 hd2
  exact concat_meets ⟨_,ho,rfl⟩ ⟨_,ho2,rfl⟩ noFill_tuple_add seq_tuple_add PySem.F.slot_tuple_add PySem.F.entry_tuple_add (PySem.F.args_tuple_add_2 _ _)
   (tuple_addW0 a b _ its2.toArray n n2 dd dd2 sl sl2 (by simp)) ⟨ho,ho2,⟨.ref b,H,I,rfl,q0 rfl⟩⟩
 ·exact î Z9 s U H _ _ v u Q I rx ry ⟨a,b,xs,ys,rfl,rfl,ha,hb,hx,hz,q1 hx,q2 hx⟩
end My
namespace L2
open PySem PySem.Spec PyProof.Rows
section
variable {κ:Type}[DecidableEq κ]
def Yw (Z8:List (κ×V))(k:κ):Option V:=(Z8.find? fun kv=>decide (kv.1=k)).map (·.2)
def putK (Z8:List (κ×V))(k:κ)(v:V):List (κ×V) :=if(Z8.any fun kv=>decide (kv.1=k))=true then Z8.map (fun kv=>if kv.1=k then(kv.1,v)else kv)else Z8++[(k,v)]
def u6 {k:κ}:Yw ([]:List (κ×V)) k=none:=rfl
def Qu {p:κ×V}{r:List (κ×V)}{k:κ}(e:p.1=k):Yw (p::r) k=some p.2:=by simp[Yw,List.find?_cons,e]
def Qk {p:κ×V}{r:List (κ×V)}{k:κ}(e:¬ p.1=k):Yw (p::r) k=Yw r k:=by simp[Yw,List.find?_cons,e]
theorem Nm (k:κ):∀ Z8:List (κ×V),(Z8.any fun kv=>decide (kv.1=k))=(Yw Z8 k).isSome
 |[]=>rfl
 |p::r=>by
  rw[Lb];by_cases e:p.1=k
  ·simp only[Qu e,decide_eq_true e,Bool.true_or,Option.isSome_some]
  ·rw[Qk e,decide_eq_false e,Bool.false_or];exact Nm k r
def Ka (Z8:List (κ×V))(k:κ)(v:V):(putK Z8 k v).length<=Z8.length+1:=by
 unfold putK;split
 ·rw[qa];lia
 ·rw[qf,qR,Qo];lia
def X4.isSome_eq (r:X4 o u):o.isSome=u.isSome:=by
 cases o with
 |none=>cases u with
  |none=>rfl
  |some _=>exact(show False from r).elim
 |some _=>cases u with
  |none=>exact(show False from r).elim
  |some _=>rfl
theorem X4.getD (r:X4 o u)(rd:RelV d d'):RelV (o.getD d) (u.getD d'):=by
 cases o with
 |none=>cases u with
  |none=>exact rd
  |some _=>exact(show False from r).elim
 |some _=>cases u with
  |none=>exact(show False from r).elim
  |some _=>exact r
def KV.val (r:KV Z8 vs)(k:κ):X4 (Yw Z8 k) (valueAt vs k):=by
 unfold KV at r
 induction r with
 |nil=>exact True.intro
 |@cons p q ps qs h t ih =>
  obtain⟨h1,h2⟩:=h;by_cases e:p.1=k
  ·have e':q.1=k:=h1.symm.trans e;have b:valueAt (q::qs) k=some q.2:=by simp[valueAt,List.find?_cons,e']
   rw[Qu e,b];exact h2
  ·have e':¬ q.1=k:=fun z=>e (h1.trans z)
   have b:valueAt (q::qs) k=valueAt qs k:=by simp[valueAt,List.find?_cons,e']
   rw[Qk e,b];exact ih
theorem KV.any (r:KV Z8 vs)(k:κ):(Z8.any fun kv=>decide (kv.1=k))=vs.any fun kv=>decide (kv.1=k):=by
 unfold KV at r
 induction r with
 |nil=>rfl
 |cons h t ih=>rw[Lb,Lb,ih,h.1]
def KV.repl (r:KV Z8 vs)(k:κ)(ry:RelV y u) :
  KV (Z8.map fun kv=>if kv.1=k then(kv.1,y)else kv) (vs.map fun kv=>if kv.1=k then(kv.1,u)else kv):=by
 unfold KV at r ⊢
 induction r with
 |nil=>exact .nil
 |@cons p q ps qs h t ih =>
  rw[qP,qP];refine .cons ?_ ih;obtain⟨h1,h2⟩:=h;by_cases e:p.1=k
  ·rw[if_pos e,if_pos (h1.symm.trans e)];exact⟨h1,ry⟩
  ·rw[if_neg e,if_neg (fun z=>e (h1.trans z))];exact⟨h1,h2⟩
def KV.put (r:KV Z8 vs)(k:κ)(ry:RelV y u):KV (putK Z8 k y) (stored vs k u):=by
 unfold putK stored;rw[r.any k];by_cases e:(vs.any fun kv=>decide (kv.1=k))=true
 ·rw[if_pos e,if_pos e];exact r.repl k ry
 ·rw[if_neg e,if_neg e];exact Paired.snoc r ⟨rfl,ry⟩
theorem KV.length (r:KV Z8 vs):Z8.length=vs.length:=Paired.length r
end
def RP {P:Program}{w:World}{k:Key}(r:RelV (kV k) u):(zM P w).is k u=true:=by
 cases k with
 |inl i=>obtain⟨t,e⟩:=(show ∃ t,u=Value.int i t from r);subst e;exact é P w i t
 |inr x=>obtain⟨t,e⟩:=(show ∃ t,u=Value.str x t from r);subst e;exact Ħ P w x t
theorem yd {P:Program}{w:World}:∀ {ks:List Key} {us:List Value},Vals (ks.map kV) us->ItemsAre (zM P w) ks us
 |[],_,r=>by rw[Qe]at r;cases r;exact .nil
 |k::ks,_,r=>by
  rw[qP]at r;cases r with
  |cons h t=>exact .cons (RP h) (yd t)
abbrev KT (H:Hp):List (List Key×V)->List (List Key×Addr×Value)->Prop:=Paired fun p q=>p.1=q.1/\H q.2.1=some (.tup (p.1.map kV))/\RelV p.2 q.2.2
def KT.val (r:KT H Z8 xs)(k:List Key):X4 (Yw Z8 k) ((atKey xs k).map (·.2)):=by
 induction r with
 |nil=>exact True.intro
 |@cons p q ps qs h t ih =>
  obtain⟨h1,_,h2⟩:=h;by_cases e:p.1=k
  ·have e':q.1=k:=h1.symm.trans e;have b:atKey (q::qs) k=some q.2:=by simp[atKey,List.find?_cons,e']
   rw[Qu e,b];exact h2
  ·have e':¬ q.1=k:=fun z=>e (h1.trans z)
   have b:atKey (q::qs) k=atKey qs k:=by simp[atKey,List.find?_cons,e']
   rw[Qk e,b];exact ih
def KT.repl (r:KT H Z8 xs)(k:List Key)(ry:RelV y u) :
  KT H (Z8.map fun kv=>if kv.1=k then(kv.1,y)else kv) (xs.map (putAt k u)):=by
 induction r with
 |nil=>exact .nil
 |@cons p q ps qs h t ih =>
  rw[qP,qP];refine .cons ?_ ih;obtain⟨h1,h2,h3⟩:=h;unfold putAt;by_cases e:p.1=k
  ·rw[if_pos e,if_pos (h1.symm.trans e)];exact⟨h1,h2,ry⟩
  ·rw[if_neg e,if_neg (fun z=>e (h1.trans z))];exact⟨h1,h2,h3⟩
def KT.put (r:KT H Z8 xs)(k:List Key)(hb:H b=some (.tup (k.map kV)))(ry:RelV y u) :
  KT H (putK Z8 k y) (storedH xs k b u):=by
 have e:(Z8.any fun kv=>decide (kv.1=k))=(atKey xs k).isSome:=by rw[Nm,(r.val k).isSome_eq,Pa]
 unfold putK storedH;rw[e];by_cases q:(atKey xs k).isSome=true
 ·rw[if_pos q,if_pos q];exact r.repl k ry
 ·rw[if_neg q,if_neg q];exact Paired.snoc r ⟨rfl,hb,ry⟩
def KT.keeps {H':Hp}(r:KT H Z8 xs)(ht:∀ b ys,H b=some (.tup ys)->H' b=some (.tup ys)):KT H' Z8 xs :=Paired.mapP r fun _ _ z=>⟨z.1,ht _ _ z.2.1,z.2.2⟩
section
variable {P:Program}{w:World}{H:Hp}{h:Heap}{a:Addr}
def CN (ok:ZD P w H h)(e:Rd H a u):zW P w H h a u:=e.ok ok
def Rt {Z8:List (Key×V)}(ok:ZD P w H h)(e:Rd H a (.dK Z8)):Z8.length<=sizeLine/\(a==sysModules)=false/\∃ vs,KV Z8 vs/\h.DictOf (zM P w) a vs :=show zW P w H h a (.dK Z8)from CN ok e
def Af {Z8:List (Key×V)}(ok:ZD P w H h)(e:H a=some (.dK Z8)):Z8.length<=sizeLine/\(a==sysModules)=false/\∃ vs,KV Z8 vs/\h.DictOf (zM P w) a vs:=Rt ok (.inl e)
def Tr {ks:List Key}(ok:ZD P w H h)(e:H a=some (.tup (ks.map kV))):(tupleKind (zM P w)).is h ks a:=by
 obtain⟨_,its,r,o,h1,h2,n,h3⟩:=(show zW P w H h a (.tup (ks.map kV))from ok a _ e)
 exact⟨o,its.toArray,n,h1,h2,h3,by simpa using yd r⟩
def QL {Z8:List (List Key×V)}(ok:ZD P w H h)(e:Rd H a (.dT Z8)):Z8.length<=sizeLine/\(a==sysModules)=false /\
  ∃ xs,KT H Z8 xs/\h.DictOfH (tupleKind (zM P w)) a xs:=by
 obtain⟨z,y,xs,r,o,es,ep,h1,h2,h3,h4,h5⟩:=(show zW P w H h a (.dT Z8)from CN ok e)
 refine⟨z,y,xs,r,o,es,ep,h1,h2,h3,h4,fun x hx=>?_,h5⟩
 have all:∀ {l:List (List Key×V)} {m:List (List Key×Addr×Value)},KT H l m->∀ x∈m,(tupleKind (zM P w)).is h x.1 x.2.1:=by
  intro l m q
  induction q with
  |nil=>intro x hx;exact nomatch hx
  |@cons p q ps qs hq t ih =>
   intro x hx;rcases ql.mp hx with e|hx
   ·subst e;exact Tr ok (by rw[<- hq.1];exact hq.2.1)
   ·exact ih x hx
 exact all r x hx
def Bj {Z8:List (List Key×V)}(ok:ZD P w H h)(e:H a=some (.dT Z8)):Z8.length<=sizeLine/\(a==sysModules)=false /\
  ∃ xs,KT H Z8 xs/\h.DictOfH (tupleKind (zM P w)) a xs:=QL ok (.inl e)
end
abbrev KN (H:Hp):List (List (List Key)×V)->List (List (List Key)×Addr×Value)->Prop:=Paired fun p q=>p.1=q.1/\WX H q.2.1 p.1/\RelV p.2 q.2.2
def KN.val (r:KN H Z8 xs)(k:List (List Key)):X4 (Yw Z8 k) ((atKey xs k).map (·.2)):=by
 induction r with
 |nil=>exact True.intro
 |@cons p q ps qs h t ih =>
  obtain⟨h1,_,h2⟩:=h;by_cases e:p.1=k
  ·have e':q.1=k:=h1.symm.trans e;have b:atKey (q::qs) k=some q.2:=by simp[atKey,List.find?_cons,e']
   rw[Qu e,b];exact h2
  ·have e':¬ q.1=k:=fun z=>e (h1.trans z)
   have b:atKey (q::qs) k=atKey qs k:=by simp[atKey,List.find?_cons,e']
   rw[Qk e,b];exact ih
def KN.repl (r:KN H Z8 xs)(k:List (List Key))(ry:RelV y u) :
  KN H (Z8.map fun kv=>if kv.1=k then(kv.1,y)else kv) (xs.map (putAt k u)):=by
 induction r with
 |nil=>exact .nil
 |@cons p q ps qs h t ih =>
  rw[qP,qP];refine .cons ?_ ih;obtain⟨h1,h2,h3⟩:=h;unfold putAt;by_cases e:p.1=k
  ·rw[if_pos e,if_pos (h1.symm.trans e)];exact⟨h1,h2,ry⟩
  ·rw[if_neg e,if_neg (fun z=>e (h1.trans z))];exact⟨h1,h2,h3⟩
def KN.put (r:KN H Z8 xs)(k:List (List Key))(hb:WX H b k)(ry:RelV y u) :
  KN H (putK Z8 k y) (storedH xs k b u):=by
 have e:(Z8.any fun kv=>decide (kv.1=k))=(atKey xs k).isSome:=by rw[Nm,(r.val k).isSome_eq,Pa]
 unfold putK storedH;rw[e];by_cases q:(atKey xs k).isSome=true
 ·rw[if_pos q,if_pos q];exact r.repl k ry
 ·rw[if_neg q,if_neg q];exact Paired.snoc r ⟨rfl,hb,ry⟩
theorem KN.keeps {H':Hp}(r:KN H Z8 xs)(ht:∀ b ys,H b=some (.tup ys)->H' b=some (.tup ys)):KN H' Z8 xs :=Paired.mapP r fun _ _ z=>⟨z.1,z.2.1.keeps ht,z.2.2⟩
section
variable {P:Program}{w:World}{H:Hp}{h:Heap}{a:Addr}
theorem wZ (ok:ZD P w H h):∀ {ks:List (List Key)} {bs:List Addr} {us:List Value},Paired (fun (ks:List Key) (c:Addr)=>H c=some (.tup (ks.map kV))) ks bs->Vals (bs.map V.ref) us->My.Xj (tupleKind (zM P w)) h ks us
 |[],_,us,.nil,r=>by cases r;exact .nil
 |k::ks,_,us,.cons e t,r=>by
  cases r with
  |cons r1 r2=>cases r1;exact .cons (Tr ok e) (wZ ok t r2)
def Qs {k:List (List Key)}(ok:ZD P w H h)(e:WX H a k):(My.Us (zM P w)).is h k a:=by
 obtain⟨bs,e,r⟩:=e;obtain⟨_,its,rv,o,h1,h2,n,h3⟩:=(show zW P w H h a (.tup (bs.map V.ref))from ok a _ e)
 exact⟨o,its.toArray,n,h1,h2,h3,by simpa using wZ ok r rv⟩
def Rw {Z8:List (List (List Key)×V)}{ep:Nat}(ok:ZD P w H h)(e:Rd H a (.dN Z8 ep)):Z8.length<=sizeLine/\(a==sysModules)=false /\
  ∃ xs,KN H Z8 xs/\h.DictOfH (My.Us (zM P w)) a xs:=by
 obtain⟨z,y,xs,r,o,es,h1,h2,h3,h4,h5⟩:=(show zW P w H h a (.dN Z8 ep)from CN ok e)
 refine⟨z,y,xs,r,o,es,ep,h1,h2,h3,h4,fun x hx=>?_,h5⟩
 have all:∀ {l:List (List (List Key)×V)} {m:List (List (List Key)×Addr×Value)},KN H l m->∀ x∈m,(My.Us (zM P w)).is h x.1 x.2.1:=by
  intro l m q
  induction q with
  |nil=>intro x hx;exact nomatch hx
  |@cons p q ps qs hq t ih =>
   intro x hx;rcases ql.mp hx with e|hx
   ·subst e;exact Qs ok (by rw[<- hq.1];exact hq.2.1)
   ·exact ih x hx
 exact all r x hx
def zwh {Z8:List (List (List Key)×V)}{ep:Nat}(ok:ZD P w H h)(e:H a=some (.dN Z8 ep)):Z8.length<=sizeLine/\(a==sysModules)=false /\
  ∃ xs,KN H Z8 xs/\h.DictOfH (My.Us (zM P w)) a xs:=Rw ok (.inl e)
def nest_room {A:Around}(hu:A.units+2<cLine):(My.Us (zM P w)).room A.in1:=hu
end
def Yn (H:Hp)(a:Addr)(y:V)(r:Option V):Prop :=
 (∃ Z8 k,Rd H a (.dK Z8)/\y=kV k/\r=Yw Z8 k)\/(∃ Z8 k b,Rd H a (.dT Z8)/\y=.ref b/\H b=some (.tup (k.map kV))/\r=Yw Z8 k) \/
 ∃ Z8 ep k b,Rd H a (.dN Z8 ep)/\y=.ref b/\WX H b k/\r=Yw Z8 k
def Sd (H:Hp)(a:Addr)(y v:V)(H':Hp):Prop :=
 (∃ Z8 k,H a=some (.dK Z8)/\y=kV k/\Z8.length<sizeLine/\H'=upd H a (.dK (putK Z8 k v))) \/
 ∃ Z8 k b,H a=some (.dT Z8)/\y=.ref b/\H b=some (.tup (k.map kV))/\Z8.length<sizeLine/\H'=upd H a (.dT (putK Z8 k v))
theorem Yn.k {H:Hp}{Z8:List (Key×V)}{k:Key}(e:H a=some (.dK Z8)):Yn H a (kV k) (Yw Z8 k):=.inl ⟨Z8,k,.inl e,rfl,rfl⟩
def Yn.t {H:Hp}{Z8:List (List Key×V)}{k:List Key}(e:H a=some (.dT Z8))(eb:H b=some (.tup (k.map kV))):Yn H a (.ref b) (Yw Z8 k):=.inr (.inl ⟨Z8,k,b,.inl e,rfl,eb,rfl⟩)
def Yn.n {H:Hp}{Z8:List (List (List Key)×V)}{ep:Nat}{k:List (List Key)}(e:H a=some (.dN Z8 ep))(eb:WX H b k):Yn H a (.ref b) (Yw Z8 k):=.inr (.inr ⟨Z8,ep,k,b,.inl e,rfl,eb,rfl⟩)
theorem Sd.k {H:Hp}{Z8:List (Key×V)}{k:Key}{v:V}(e:H a=some (.dK Z8))(hl:Z8.length<sizeLine):Sd H a (kV k) v (upd H a (.dK (putK Z8 k v))):=.inl ⟨Z8,k,e,rfl,hl,rfl⟩
def Sd.t {H:Hp}{Z8:List (List Key×V)}{k:List Key}{v:V}(e:H a=some (.dT Z8))(eb:H b=some (.tup (k.map kV)))(hl:Z8.length<sizeLine) :
  Sd H a (.ref b) v (upd H a (.dT (putK Z8 k v))):=.inr ⟨Z8,k,b,e,rfl,eb,hl,rfl⟩
section
variable {X:Cx}{Z9:List (Addr×Obj)}{U:St}{H:Hp}{s:Shared}{a:Addr}{y v:V}{u r:Value}{o:Option V}{A:Around}{E:Value->Shared->Prop}
def Inv.big (I:Inv X Z9 U H s):sysModules<s.heap.objs.size:=by have h:mainGlobals<s.heap.objs.size:=(I.mod.glob.keeps I.bk).lt;exact Nat.lt_trans (by decide) h
def zmC {Q:Value->Shared->Prop}(hu:A.units+2<cLine)(I:Inv X Z9 U H s)(g:Yn H a y (some v))(ry:RelV y u)(h:∀ w' s',Inv X Z9 U H s'->RelV v w'->Q w' s') :
  wpAny (model X.prog X.w) A (getItem (.ref a) u) Q E s:=by
 rcases g with⟨Z8,k,e,ey,l⟩|⟨Z8,k,b,e,ey,eb,l⟩|⟨Z8,ep,k,b,e,ey,eb,l⟩
 ·subst ey;obtain⟨z,hd,vs,rel,dd⟩:=Rt I.hok e;obtain⟨w',hw,rw'⟩:=X4.some_of (v:=v) (o:=valueAt vs k) (by rw[l];exact rel.val k);exact wpAny_getItem_of (RP ry) dd.mapOf hw (h w' _ (I.tok _) rw')
 ·subst ey;cases(show u=Value.ref b from ry);obtain⟨z,hd,xs,rel,dd⟩:=QL I.hok e;obtain⟨w',hw,rw'⟩:=X4.some_of (v:=v) (o:=(atKey xs k).map (·.2)) (by rw[l];exact rel.val k);obtain⟨p,hp,hp2⟩:=U6.mp hw;refine wpAny_getItem_heap (tupleKind_room_in1 (Uy hu)) (Tr I.hok eb) dd hp ?_;rw[hp2];exact h w' _ (I.tok _) rw'
 ·subst ey;cases(show u=Value.ref b from ry);obtain⟨z,hd,xs,rel,dd⟩:=Rw I.hok e;obtain⟨w',hw,rw'⟩:=X4.some_of (v:=v) (o:=(atKey xs k).map (·.2)) (by rw[l];exact rel.val k);obtain⟨p,hp,hp2⟩:=U6.mp hw;refine wpAny_getItem_heap (nest_room hu) (Qs I.hok eb) dd hp ?_;rw[hp2];exact h w' _ (I.tok _) rw'
def zy4 {Q:Value->Shared->Prop}(hu:A.units+2<cLine)(I:Inv X Z9 U H s)(g:Yn H a y o)(ry:RelV y u)(h:∀ s',Inv X Z9 U H s'->Q (.bool o.isSome) s') :
  wpAny (model X.prog X.w) A (compareOp .In u (.ref a)) Q E s:=by
 rcases g with⟨Z8,k,e,ey,l⟩|⟨Z8,k,b,e,ey,eb,l⟩|⟨Z8,ep,k,b,e,ey,eb,l⟩
 ·subst ey;obtain⟨z,hd,vs,rel,dd⟩:=Rt I.hok e;refine wpAny_in_of (RP ry) hd dd.mapOf ?_;rw[<- (rel.val k).isSome_eq,<- l];exact h _ (I.tok _)
 ·subst ey;cases(show u=Value.ref b from ry);obtain⟨z,hd,xs,rel,dd⟩:=QL I.hok e;refine wpAny_in_heap (tupleKind_room_in1 (Uy hu)) (Tr I.hok eb) hd dd ?_;have q:=(rel.val k).isSome_eq;rw[Pa]at q;rw[<- q,<- l];exact h _ (I.tok _)
 ·subst ey;cases(show u=Value.ref b from ry);obtain⟨z,hd,xs,rel,dd⟩:=Rw I.hok e;refine wpAny_in_heap (nest_room hu) (Qs I.hok eb) hd dd ?_;have q:=(rel.val k).isSome_eq;rw[Pa]at q;rw[<- q,<- l];exact h _ (I.tok _)
def zsz {Q:Value->Shared->Prop}(hu:A.units+2<cLine)(I:Inv X Z9 U H s)(g:Yn H a y o)(ry:RelV y u)(h:∀ s',Inv X Z9 U H s'->Q (.bool (!o.isSome)) s') :
  wpAny (model X.prog X.w) A (compareOp .NotIn u (.ref a)) Q E s:=by
 rcases g with⟨Z8,k,e,ey,l⟩|⟨Z8,k,b,e,ey,eb,l⟩|⟨Z8,ep,k,b,e,ey,eb,l⟩
 ·subst ey;obtain⟨z,hd,vs,rel,dd⟩:=Rt I.hok e;refine wpAny_notIn_of (RP ry) hd dd.mapOf ?_;rw[<- (rel.val k).isSome_eq,<- l];exact h _ (I.tok _)
 ·subst ey;cases(show u=Value.ref b from ry);obtain⟨z,hd,xs,rel,dd⟩:=QL I.hok e;refine wpAny_notIn_heap (tupleKind_room_in1 (Uy hu)) (Tr I.hok eb) hd dd ?_;have q:=(rel.val k).isSome_eq;rw[Pa]at q;rw[<- q,<- l];exact h _ (I.tok _)
 ·subst ey;cases(show u=Value.ref b from ry);obtain⟨z,hd,xs,rel,dd⟩:=Rw I.hok e;refine wpAny_notIn_heap (nest_room hu) (Qs I.hok eb) hd dd ?_;have q:=(rel.val k).isSome_eq;rw[Pa]at q;rw[<- q,<- l];exact h _ (I.tok _)
def Mr {t':Nat}{ob:HO}(I:Inv X Z9 U H s)(mu:Li (H a))(hs:Heap.SameBut a s.heap h')(he:∃ q,h'.get? a=some q)(new:zW X.prog X.w (upd H a ob) h' a ob) :
  Inv X Z9 U (upd H a ob) { s with heap:=h',toks:=t' } :=
 I.write (x:=a) (e:=a) mu (.inl rfl) (fun b q hb z=>(hs.2 b hb).trans z) he new
def uY {P:Program}{w:World}{H':Hp}{h':Heap}{Z8:List (Key×V)}(z:Z8.length<=sizeLine)(hd:(a==sysModules)=false)(rel:KV Z8 vs)(dd:h'.DictOf (zM P w) a vs) :
  zW P w H' h' a (.dK Z8):=⟨z,hd,vs,rel,dd⟩
def zno {Q:Unit->Shared->Prop}(hu:A.units+2<cLine)(I:Inv X Z9 U H s)(g:Sd H a y v H')(ry:RelV y u)(rv:RelV v r)(h:∀ s',Inv X Z9 U H' s'->Q () s') :
  wpAny (model X.prog X.w) A (setItem (.ref a) u r) Q E s:=by
 rcases g with⟨Z8,k,e,ey,l,eH⟩|⟨Z8,k,b,e,ey,eb,l,eH⟩
 ·subst ey eH;obtain⟨z,hd,vs,rel,dd⟩:=Af I.hok e;have hz:vs.length<=sizeLine:=by rw[<- rel.length];exact z
  have hl:(putK Z8 k v).length<=sizeLine:=by have:=Ka Z8 k v;lia
  refine wpAny_setItem_pairs (hsz:=hz) (RP ry) dd fun h' dd' hs=>h _ ?_
  have he:∃ q,h'.get? a=some q:=let ⟨q,_,_,hq,_⟩:=dd';⟨q,hq⟩;exact Mr I (by rw[e];exact True.intro) hs he (uY hl hd (rel.put k rv) dd')
 ·subst ey eH;cases(show u=Value.ref b from ry);obtain⟨z,hd,xs,rel,dd⟩:=Bj I.hok e;have hz:xs.length<=sizeLine:=by rw[<- Paired.length rel];exact z
  have hl:(putK Z8 k v).length<=sizeLine:=by have:=Ka Z8 k v;lia
  refine wpAny_setItem_heap (hsz:=hz) (tupleKind_room_in1 (Uy hu)) (Tr I.hok eb) dd fun h' dd' hs=>h _ ?_
  obtain⟨q,es,ep,hq,h2,h3,h4,_,h5⟩:=dd';refine Mr I (by rw[e];exact True.intro) hs ⟨q,hq⟩ ⟨hl,hd,_,(rel.put k eb rv).keeps fun c ys ec=>?_,q,es,ep,hq,h2,h3,h4,h5⟩;rw[zu (VF ec e (fun z=>nomatch z))];exact ec
end
section
variable {X:Cx}{Z9:List (Addr×Obj)}{U:St}{H:Hp}{s:Shared}{a:Addr}{Z8:List (Key×V)}{k:Key}{u:Value}{A:Around}{E:Value->Shared->Prop}
end
def Jq (i:Expr):Prop:=∀ ov iv,subscripted i false ov iv=operate [ov,iv] (getItem ov iv)
def aM {prog:Program}{w:World}{A:Around}{E:Value->Shared->Prop}{s:Shared}{env:Env}{value:Expr}{pos:Pos}{T id:String}{Q:Value->Shared->Prop}(hl:typeLookup (.type T) "__getitem__"=pure (some (.builtin id)))(hs:Jq slice)(h:wpAny (model prog w) A (eval value env) (fun o s₁=>wpAny (model prog w) A (eval slice env) (fun i s₂=>s₂.TypeIs o T/\wpAny (model prog w) A (getItem o i) Q E s₂) E s₁) E s) :
  wpAny (model prog w) A (eval (.Subscript value slice pos) env) Q E s:=by
 refine Subscript_ (wpAny_mono h (fun o s₁ h₁=>wpAny_mono h₁ (fun i s₂ h₂=>?_) fun _ _ x=>x) fun _ _ x=>x);obtain⟨hT,h₂⟩:=h₂;unfold subscriptTail;refine wpAny_bind ?_;rw[getitemInPython_of_ne hT.not_modules];refine wpAny_bind (wpAny_specialOf hT hl ?_)
 have fin:wpAny (model prog w) A (subscripted slice false o i) (fun r s₃=>wpAny (model prog w) A (letTemporaryGo value o r >>= fun _=>pure r) Q E s₃) E s₂:=by rw[hs o i];exact wpAny_operating (wpAny_mono h₂ (fun r s₃ h₃=>wpAny_bind (wpAny_letTemporaryGo (wpAny_pure h₃))) fun _ _ x=>x)
 first
  |exact wpAny_pure (wpAny_bind fin)
  |exact wpAny_bind (wpAny_pure (wpAny_bind fin))
  |exact wpAny_bind fin
def iK (I:Inv X Z9 U H s)(g:Yn H a y o):s.TypeIs (.ref a) "dict":=by
 rcases g with⟨Z8,k,e,_,_⟩|⟨Z8,k,b,e,_,_,_⟩|⟨Z8,ep,k,b,e,_,_,_⟩
 ·obtain⟨_,_,vs,_,dd⟩:=Rt I.hok e;exact dd.typeIs
 ·obtain⟨_,_,xs,_,dd⟩:=QL I.hok e;exact dd.typeIs
 ·obtain⟨_,_,xs,_,dd⟩:=Rw I.hok e;exact dd.typeIs
def cN (td ty:TE):TE:=fun U H Q=>td U H fun x H1=>ty U H1 fun y H2=>∃ a v,x=.ref a/\Yn H2 a y (some v)/\Q v H2
def Ş (ty td:TE):TE:=fun U H Q=>ty U H fun y H1=>td U H1 fun x H2=>∃ a o,x=.ref a/\Yn H2 a y o/\Q (.bl o.isSome) H2
def zsq (ty td:TE):TE:=fun U H Q=>ty U H fun y H1=>td U H1 fun x H2=>∃ a o,x=.ref a/\Yn H2 a y o/\Q (.bl (!o.isSome)) H2
def ϟ (td ty tv:TE):TS:=fun D U H=>tv U H fun v H1=>td U H1 fun x H2=>ty U H2 fun y H3=>∃ a H4,x=.ref a/\Sd H3 a y v H4/\D.nx U H4
section
variable {X:Cx}{o i e value:Expr}{pos pos' tpos:Pos}{td ty tv:TE}
def Ġ (hu:X.A.units+2<cLine)(ho:PE X o td)(hi:PE X i ty)(hs:Jq i):PE X (.Subscript o i pos) (cN td ty):=by intro Z9 s U H Q I h;refine aM PySem.F.slot_dict_getitem.lookup hs (Z2 (ho Z9 s U H _ I h) fun u s1 ⟨x,H1,I1,rx,q1⟩=>Z2 (hi Z9 s1 U H1 _ I1 q1) fun iv s2 ⟨y,H2,I2,ry,a,v,ex,g,q2⟩=>?_);subst ex;obtain rfl:u=Value.ref a:=rx;exact⟨iK I2 g,zmC hu I2 g ry fun w' s3 I3 rw'=>⟨v,H2,I3,rw',q2⟩⟩
def uT (hu:X.A.units+2<cLine)(hi:PE X i ty)(ho:PE X o td):PC X .In i o (Ş ty td):=by
 intro Z9 s U H Q I h;refine Z2 (hi Z9 s U H _ I h) fun iv s1 ⟨y,H1,I1,ry,q1⟩=>Z2 (ho Z9 s1 U H1 _ I1 q1) fun u s2 ⟨x,H2,I2,rx,a,ov,ex,g,q2⟩=>?_
 subst ex;obtain rfl:u=Value.ref a:=rx;exact zy4 hu I2 g ry fun s3 I3=>⟨.bl ov.isSome,H2,I3,rfl,q2⟩
def pW (hu:X.A.units+2<cLine)(hi:PE X i ty)(ho:PE X o td):PC X .NotIn i o (zsq ty td):=by
 intro Z9 s U H Q I h;refine Z2 (hi Z9 s U H _ I h) fun iv s1 ⟨y,H1,I1,ry,q1⟩=>Z2 (ho Z9 s1 U H1 _ I1 q1) fun u s2 ⟨x,H2,I2,rx,a,ov,ex,g,q2⟩=>?_
 subst ex;obtain rfl:u=Value.ref a:=rx;exact zsz hu I2 g ry fun s3 I3=>⟨.bl (!ov.isSome),H2,I3,rfl,q2⟩
def zrU (hu:X.A.units+2<cLine)(ho:PE X o td)(hi:PE X i ty)(hv:PE X value tv)(hs:swapsWith value (some (.Subscript o i pos')) pos.line X.env=pure false) :
  PS X (.Assign [.Subscript o i pos'] value pos) (ϟ td ty tv):=by
 intro Z9 s U H D I h;refine wpAny_Assign_Subscript (Z2 (hv Z9 s U H _ I h) fun r s1 ⟨v,H1,I1,rv,q1⟩=>Z2 (ho Z9 s1 U H1 _ I1 q1) fun u s2 ⟨x,H2,I2,rx,q2⟩=>Z2 (hi Z9 s2 U H2 _ I2 q2) fun iv s3 ⟨y,H3,I3,ry,a,H4,ex,g,q3⟩=>?_) hs;subst ex;obtain rfl:u=Value.ref a:=rx;exact zno hu I3 g ry rv fun s4 I4=>⟨U,H4,I4,q3⟩
end
def Ar {P:Program}{w:World}{H:Hp}(h:Heap)(hb:sysModules<h.objs.size):zW P w H (h.push { cls:=.type "dict",data:=.dict #[] }) h.objs.size (.dK []) :=⟨qY _,beq_eq_false_iff_ne.mpr (Ne.symm (qV hb)),[],.nil,Heap.DictOf.new h⟩
def pK {P:Program}{w:World}{H:Hp}(h:Heap)(hb:sysModules<h.objs.size):zW P w H (h.push { cls:=.type "dict",data:=.dict #[] }) h.objs.size (.dT []) :=⟨qY _,beq_eq_false_iff_ne.mpr (Ne.symm (qV hb)),[],.nil,_,#[],0,qq _ rfl,⟨rfl,rfl,rfl⟩,rfl,rfl,List.nodup_nil⟩
def ztP:TE:=fun _ H Q=>∀ p,H p=none->Q (.ref p) (upd H p (.dK []))
def Ŋ:TE:=fun _ H Q=>∀ p,H p=none->Q (.ref p) (upd H p (.dT []))
section
variable {X:Cx}{pos:Pos}
def mC:PE X (.Dict [] [] pos) ztP:=fun Z9 s U H Q I h =>wpAny_Dict_empty ⟨.ref s.heap.objs.size,_,I.laid (a:=s.heap.objs.size) (o:=.dK []) (t':=s.toks) (fun _ _ q=>qd _ q) (qh _) (Ar s.heap I.big),rfl,h _ (I.hok.fresh (qh _))⟩
def Ņ:PE X (.Dict [] [] pos) Ŋ:=fun Z9 s U H Q I h =>wpAny_Dict_empty ⟨.ref s.heap.objs.size,_,I.laid (a:=s.heap.objs.size) (o:=.dT []) (t':=s.toks) (fun _ _ q=>qd _ q) (qh _) (pK s.heap I.big),rfl,h _ (I.hok.fresh (qh _))⟩
end
def Bu:List (TE×TE)->St->Hp->(List (V×V)->Hp->Prop)->Prop
 |[],_,H,Q=>Q [] H
 |(tk,tv)::r,U,H,Q=>tk U H fun x H1=>tv U H1 fun y H2=>Bu r U H2 fun ps H3=>Q ((x,y)::ps) H3
abbrev VV:List (V×V)->List (Value×Value)->Prop:=Paired fun p q=>RelV p.1 q.1/\RelV p.2 q.2
def J7 (X:Cx)(pos:Pos)(keys:List (Option Expr))(values:List Expr)(trs:List (TE×TE)):Prop :=
 ∀ (Z9:List (Addr×Obj)) (s:Shared) (U:St) (H:Hp) (Q:List (V×V)->Hp->Prop),Inv X Z9 U H s->Bu trs U H Q ->
  wpAny (model X.prog X.w) X.A (evalPairs (pairTrees keys values X.env pos)) (fun vs s'=>∃ ps H',Inv X Z9 U H' s'/\VV ps vs/\Q ps H') X.xe s
def Å {X:Cx}{pos:Pos}:J7 X pos [] [] []:=fun Z9 s U H Q I h=>pairTrees_nil_walk ⟨[],H,I,.nil,h⟩
def zpj {k:Expr}{tk:TE}(hk:PE X k tk)(hv:PE X v tv)(hr:J7 X pos ks vs trs) :
  J7 X pos (some k::ks) (v::vs) ((tk,tv)::trs):=fun Z9 s U H Q I h =>
 pairTrees_cons_walk (Z2 (hk Z9 s U H _ I h) fun u s1 ⟨x,H1,I1,rx,q1⟩=>Z2 (hv Z9 s1 U H1 _ I1 q1) fun w2 s2 ⟨y,H2,I2,ry,q2⟩ =>Z2 (hr Z9 s2 U H2 _ I2 q2) fun ws s3 ⟨ps,H3,I3,rel,q3⟩=>⟨(x,y)::ps,H3,I3,.cons ⟨rx,ry⟩ rel,q3⟩)
def Ln (Z8 more:List (Key×V)):List (Key×V):=more.foldl (fun acc kv=>putK acc kv.1 kv.2) Z8
def KV.merge:∀ {more:List (Key×V)} {rs:List (Key×Value)} {Z8:List (Key×V)} {vs:List (Key×Value)},KV more rs->KV Z8 vs->KV (Ln Z8 more) (merged vs rs):=by
 intro more rs Z8 vs r;unfold KV at r
 induction r generalizing Z8 vs with
 |nil=>intro q;exact q
 |@cons p q ps qs h t ih =>
  intro r0
  have e:KV (putK Z8 p.1 p.2) (stored vs q.1 q.2):=by have:=r0.put p.1 h.2;rw[<- h.1];exact this
  exact ih e
theorem oO:∀ (more Z8:List (Key×V)),(Ln Z8 more).length<=Z8.length+more.length
 |[],Z8=>by show Z8.length<=Z8.length+0;lia
 |p::r,Z8=>by have h1:=oO r (putK Z8 p.1 p.2);have h2:=Ka Z8 p.1 p.2;show(Ln (putK Z8 p.1 p.2) r).length<=_;rw[qR];lia
theorem vP {P:Program}{w:World}:∀ {Z8:List (Key×V)} {ws:List (Value×Value)},VV (Z8.map fun kv=>(kV kv.1,kv.2)) ws->∃ rs,Carries (zM P w) ws rs/\KV Z8 rs
 |[],_,r=>by rw[Qe]at r;cases r;exact⟨[],True.intro,.nil⟩
 |p::Z8,_,r=>by
  rw[qP]at r;cases r with
  |@cons a b as bs h t =>obtain⟨rs,c,q⟩:=vP (P:=P) (w:=w) t;obtain⟨b1,b2⟩:=b;exact⟨(p.1,b2)::rs,⟨RP h.1,rfl,c⟩,.cons ⟨rfl,h.2⟩ q⟩
def jj (trs:List (TE×TE)):TE:=fun U H Q=>∀ p,H p=none->Bu trs U (upd H p (.dK [])) fun ps H2=>H2 p=some (.dK [])/\∃ Z8:List (Key×V),ps=Z8.map (fun kv=>(kV kv.1,kv.2))/\Z8.length<=15/\Q (.ref p) (upd H2 p (.dK (Ln [] Z8)))
def zql (h:J7 X pos keys values trs)(hall:keys.all (·.isSome)=true)(hl:keys.length=values.length)(h0:keys≠[])(h15:keys.length<=15):PE X (.Dict keys values pos) (jj trs):=by
 intro Z9 s U H Q I q;have hn:=I.hok.fresh (qh s.heap.objs.size);have I1:=I.laid (a:=s.heap.objs.size) (o:=.dK []) (h':=s.heap.push { cls:=.type "dict",data:=.dict #[] }) (t':=s.toks) (fun _ _ q=>qd _ q) (qh _) (Ar s.heap I.big);refine wpAny_Dict_walk (knd:=zM X.prog X.w) hall hl h0 h15 (Z2 (h Z9 _ U _ _ I1 (q _ hn)) fun ws s2 ⟨ps,H2,I2,rel,e,Z8,ep,lk,q2⟩=>?_);subst ep;obtain⟨rs,c,rk⟩:=vP (P:=X.prog) (w:=X.w) rel;obtain⟨z,hd,vs0,r0,dd⟩:=Af I2.hok e;cases r0;refine⟨rs,c,dd,fun h' dd' hs=>⟨.ref s.heap.objs.size,_,?_,rfl,q2⟩⟩
 have hz:(Ln [] Z8).length<=sizeLine:=by have h1:=oO Z8 [];rw[Qo]at h1;rw[sizeLine_eq];lia
 have he:∃ q,h'.get? s.heap.objs.size=some q:=by obtain⟨q,_,_,hq,_⟩:=dd';exact⟨q,hq⟩
 exact Mr I2 (by rw[e];exact True.intro) hs he (uY hz hd (rk.merge .nil) dd')
structure M1 (X:Cx)(o:Expr)(m:Str)(apos:Pos)(e:Expr)(cpos:Pos):Prop where
 base:attributeBase o m X.env (eval o X.env)=eval o X.env
 few:((backTo cpos (starEach [e] X.env)).all (fun x=>!x.1)&&(backToKw cpos (keywordEach [] X.env)).all (fun x=>x.1.isSome)
 &&decide (([e]:List Expr).length+([]:List Keyword).length+(if([]:List Keyword).isEmpty then 0 else 1)<30))=true
 line:(apos.endLine==cpos.line)=true
 trees:backTo cpos (starEach [e] X.env)=[(false,eval e X.env)]
structure M2 (X:Cx)(o:Expr)(m:Str)(apos:Pos)(e f:Expr)(cpos:Pos):Prop where
 base:attributeBase o m X.env (eval o X.env)=eval o X.env
 few:((backTo cpos (starEach [e,f] X.env)).all (fun x=>!x.1)&&(backToKw cpos (keywordEach [] X.env)).all (fun x=>x.1.isSome)
 &&decide (([e,f]:List Expr).length+([]:List Keyword).length+(if([]:List Keyword).isEmpty then 0 else 1)<30))=true
 line:(apos.endLine==cpos.line)=true
 trees:backTo cpos (starEach [e,f] X.env)=[(false,eval e X.env),(false,eval f X.env)]
def Fq (H:Hp)(a:Addr):Prop:=(∃ Z8,Rd H a (.dK Z8))\/(∃ Z8,Rd H a (.dT Z8))\/∃ Z8 ep,Rd H a (.dN Z8 ep)
def tR (I:Inv X Z9 U H s)(d:Fq H a) :
  s.TypeIs (.ref a) "dict"/\(∀ b,Value.ref a=.ref b->∃ ob,s.heap.get? b=some ob/\ob.dict=none)/\(a==sysModules)=false:=by
 rcases d with⟨Z8,e⟩|⟨Z8,e⟩|⟨Z8,ep,e⟩
 ·obtain⟨_,hd,vs,_,dd⟩:=Rt I.hok e;refine⟨dd.typeIs,fun b q=>?_,hd⟩;cases q;obtain⟨ob,_,_,h1,h2,_⟩:=dd;exact⟨ob,h1,h2.2.1⟩
 ·obtain⟨_,hd,xs,_,dd⟩:=QL I.hok e;refine⟨dd.typeIs,fun b q=>?_,hd⟩;cases q;obtain⟨ob,_,_,h1,h2,_⟩:=dd;exact⟨ob,h1,h2.2.1⟩
 ·obtain⟨_,hd,xs,_,dd⟩:=Rw I.hok e;refine⟨dd.typeIs,fun b q=>?_,hd⟩;cases q;obtain⟨ob,_,_,h1,h2,_⟩:=dd;exact⟨ob,h1,h2.2.1⟩
section
variable {X:Cx}{Z9:List (Addr×Obj)}{U:St}{H:Hp}{s:Shared}{a:Addr}{y d:V}{u r:Value}{o:Option V}{A:Around}{E:Value->Shared->Prop}
def lC {Q:Value->Shared->Prop}(hu:A.units+2<cLine)(I:Inv X Z9 U H s)(g:Yn H a y o)(ry:RelV y u)(rd:RelV d r)(h:∀ w' s',Inv X Z9 U H s'->RelV (o.getD d) w'->Q w' s') :
  wpAny (model X.prog X.w) A (call (.builtin "dict.get") [.ref a,u,r]) Q E s:=by
 rcases g with⟨Z8,k,e,ey,l⟩|⟨Z8,k,b,e,ey,eb,l⟩|⟨Z8,ep,k,b,e,ey,eb,l⟩
 ·subst ey;obtain⟨z,hd,vs,rel,dd⟩:=Rt I.hok e;refine call_meetsIn PySem.F.slot_dict_get dd.typeIs PySem.F.entry_dict_get (PySem.F.args_dict_get_3 _ _ _) (meets_dict_get_default (zM X.prog X.w) a (RP ry) hd r) ⟨_,dd.mapOf,h _ _ (I.tok _) ?_⟩;rw[l];exact(rel.val k).getD rd
 ·subst ey;cases(show u=Value.ref b from ry);obtain⟨z,hd,xs,rel,dd⟩:=QL I.hok e;refine call_meetsIn PySem.F.slot_dict_get dd.typeIs PySem.F.entry_dict_get (PySem.F.args_dict_get_3 _ _ _) (meetsH_dict_get_default (tupleKind (zM X.prog X.w)) a b hd r) ⟨tupleKind_room_in1 (Uy hu),k,xs,Tr I.hok eb,dd,h _ _ (I.tok _) ?_⟩;rw[l];exact(rel.val k).getD rd
 ·subst ey;cases(show u=Value.ref b from ry);obtain⟨z,hd,xs,rel,dd⟩:=Rw I.hok e;refine call_meetsIn PySem.F.slot_dict_get dd.typeIs PySem.F.entry_dict_get (PySem.F.args_dict_get_3 _ _ _) (meetsH_dict_get_default (My.Us (zM X.prog X.w)) a b hd r) ⟨nest_room hu,k,xs,Qs I.hok eb,dd,h _ _ (I.tok _) ?_⟩;rw[l];exact(rel.val k).getD rd
end
def zsN (td ty tx:TE):TE:=fun U H Q=>td U H fun x H1=>∃ a,x=.ref a/\Fq H1 a/\ty U H1 fun y H2=>tx U H2 fun z H3=>∃ o,Yn H3 a y o/\Q (o.getD z) H3
section
variable {X:Cx}{o e f:Expr}{apos cpos:Pos}{td ty tx:TE}
def zpa (hu:X.A.units+2<cLine)(ho:PE X o td)(he:PE X e ty)(hf:PE X f tx)(m:M2 X o "get" apos e f cpos):PE X (.Call (.Attribute o "get" apos) [e,f] [] cpos) (zsN td ty tx):=by
 intro Z9 s U H Q I h;refine wpAny_Call_method m.base m.few m.line PySem.F.plainAttrs_dict PySem.F.slot_dict_get PySem.F.type_dict_get (Z2 (ho Z9 s U H _ I h) fun u s1 ⟨x,H1,I1,rx,a,ex,d,q1⟩=>?_);subst ex;obtain rfl:u=Value.ref a:=rx;obtain⟨t1,t2,_⟩:=tR I1 d;refine⟨t1,t2,?_⟩;rw[m.trees]
 refine Calls.callWith_builtin rfl (Calls.evalArgs_plain (Calls.spliced_cons (Z2 (he Z9 s1 U H1 _ I1 q1) fun iv s2 ⟨y,H2,I2,ry,q2⟩ =>Calls.spliced_cons (Z2 (hf Z9 s2 U H2 _ I2 q2) fun fv s3 ⟨z,H3,I3,rz,ov,g,q3⟩=>Calls.spliced_nil ?_))))
 exact lC hu I3 g ry rz fun w' s4 I4 rw'=>⟨_,H3,I4,rw',q3⟩
end
section
variable {X:Cx}{Z9:List (Addr×Obj)}{U:St}{H:Hp}{s:Shared}{a:Addr}{Z8:List (Key×V)}{A:Around}{E:Value->Shared->Prop}
end
section
variable {X:Cx}{Z9:List (Addr×Obj)}{U:St}{H:Hp}{s:Shared}{a:Addr}{y:V}{u:Value}{A:Around}{E:Value->Shared->Prop}
end
def zoC {P:Program}{w:World}{H:Hp}(h:Heap)(hb:sysModules<h.objs.size):zW P w H (h.push { cls:=.type "dict",data:=.dict #[] }) h.objs.size (.dN [] 0) :=⟨qY _,beq_eq_false_iff_ne.mpr (Ne.symm (qV hb)),[],.nil,_,#[],qq _ rfl,⟨rfl,rfl,rfl⟩,rfl,rfl,List.nodup_nil⟩
def Â:TE:=fun _ H Q=>∀ p,H p=none->Q (.ref p) (upd H p (.dN [] 0))
section
variable {X:Cx}{pos:Pos}
def jh:PE X (.Dict [] [] pos) Â:=fun _ s _ _ _ I h =>wpAny_Dict_empty ⟨.ref s.heap.objs.size,_,I.laid (a:=s.heap.objs.size) (o:=.dN [] 0) (t':=s.toks) (fun _ _ q=>qd _ q) (qh _) (zoC s.heap I.big),rfl,h _ (I.hok.fresh (qh _))⟩
def zon {K:Type}[DecidableEq K]{prog:Program}{w:World}{knd:HeapKind prog w K}{A:Around}{E:Value->Shared->Prop}{s:Shared}{env:Env}{k v:Expr}{Q:Value->Shared->Prop}(hu:knd.room A)
  (h:wpAny (model prog w) A (eval k env) (fun kv s1=>wpAny (model prog w) A (eval v env) (fun vv s2=>∃ b x,kv=.ref b/\knd.is s2.heap x b/\s2.heap.DictOfH knd s.heap.objs.size [] /\
   ∀ h' t,h'.DictOfH knd s.heap.objs.size [(x,b,vv)]->Heap.SameBut s.heap.objs.size s2.heap h'->Q (.ref s.heap.objs.size) { s2 with heap:=h',toks:=t }) E s1) E { s with heap:=s.heap.push { cls:=.type "dict",data:=.dict #[] } }) :
  wpAny (model prog w) A (eval (.Dict [some k] [v] pos) env) Q E s:=by
 have n:(pairTrees [some k] [v] env pos).length=1:=pairTrees_length _ _ env pos rfl rfl;rw[arm_eval_Dict,zip_pairTrees _ _ env pos rfl rfl,dictDisplay_pairs _ (fun e=>by rw[e]at n;cases n) (by lia)];refine wpAny_bind (wpAny_standAt (wpAny_bind ?_));unfold subDict;refine wpAny_bind (wpAny_alloc (wpAny_bind (wpAny_holding ?_)));rw[if_pos (by lia)];refine wpAny_bind (pairTrees_cons_walk (wpAny_mono h (fun kv s1 h1=>wpAny_mono h1 (fun vv s2 h2=>pairTrees_nil_walk (wpAny_holding ?_)) fun _ _ e=>e) fun _ _ e=>e));obtain⟨b,x,rfl,hx,hd,q⟩:=h2;rw[J8];refine wpAny_bind (wpAny_bind ?_);show wpAny _ _ (dictSet s.heap.objs.size (.ref b) vv >>= _) _ _ _;refine wpAny_bind (wpAny_dictSet_heap hu hx hd fun h' hd' sb=>wpAny_pure ?_);show wpAny _ _ (forIn [] _ _) _ _ _;rw[Oe];exact wpAny_pure (wpAny_pure (wpAny_pure (wpAny_pure (q h' _ hd' sb))))
def bY (tk tv:TE):TE:=fun U H Q=>∀ p,H p=none->tk U (upd H p (.dT [])) fun x H1=>tv U H1 fun y H2=>∃ b ks,x=.ref b/\H2 b=some (.tup (ks.map kV))/\H2 p=some (.dT [])/\Q (.ref p) (upd H2 p (.dT [(ks,y)]))
def zpw {tk:TE}(hr:X.A.units+2<cLine)(hk:PE X a tk)(hv:PE X b tv):PE X (.Dict [some a] [b] pos) (bY tk tv):=by intro Z9 s U H Q I q;have I1:=I.laid (a:=s.heap.objs.size) (o:=.dT []) (h':=s.heap.push { cls:=.type "dict",data:=.dict #[] }) (t':=s.toks) (fun _ _ q=>qd _ q) (qh _) (pK s.heap I.big);refine zon (knd:=tupleKind (zM X.prog X.w)) (show X.A.units<cLine by lia) (Z2 (hk Z9 _ U _ _ I1 (q _ (I.hok.fresh (qh s.heap.objs.size)))) fun u s1 ⟨x,H1,I2,rx,q1⟩=>Z2 (hv Z9 s1 U H1 _ I2 q1) fun u2 s2 ⟨y,H2,I3,ry,c,ks,ex,hc,hp,q2⟩=>?_);subst ex;cases(show u=Value.ref c from rx);obtain⟨z,hd,xs,rel,dd⟩:=Bj I3.hok hp;cases rel;refine⟨c,ks,rfl,Tr I3.hok hc,dd,fun h' t dd' hs=>⟨.ref s.heap.objs.size,_,?_,rfl,q2⟩⟩;obtain⟨o,es,ep,ho,h2,h3,h4,_,h5⟩:=dd';refine Mr I3 (by rw[hp];exact True.intro) hs ⟨o,ho⟩ ⟨by rw[sizeLine_eq];exact qH rfl,hd,[(ks,c,u2)],.cons ⟨rfl,?_,ry⟩ .nil,o,es,ep,ho,h2,h3,h4,h5⟩;rw[zu (VF hc hp (fun z=>nomatch z))];exact hc
end
section
variable {prog:Program}{w:World}{A:Around}{E:Value->Shared->Prop}{s:Shared}{it d:Addr}{i ep:Nat}{es:Array DictEntry}{ok ov:Value}
def Sq (h:Heap)(d:Addr)(es:Array DictEntry)(ep:Nat):Prop:=∃ o,h.get? d=some o/\o.cls=.type "dict"/\o.data=.dict es ep
def Sq.at {h':Heap}(x:Sq h d es ep)(e:∀ o,h.get? d=some o->h'.get? d=some o):Sq h' d es ep:=by obtain⟨o,a,b⟩:=x;exact⟨o,e _ a,b⟩
def Ļ (d:Addr)(hd:(d==sysModules)=false):MeetsIn prog w (Builtin.«dict.items» ⟨[.ref d],[]⟩) (fun _ R s=>s.TypeIs (.ref d) "dict"/\R (.ok (.ret (.ref s.heap.objs.size))) { s with heap:=s.heap.push { cls:=.type "dict_items",data:=.fields #[.ref d] } }) :=
 .of_wp fun A R s zq11=>by obtain⟨t,h⟩:=zq11;unfold Builtin.«dict.items» Builtin.Dict.noArgs;refine wpAny_bind (wpAny_bind (wpAny_notOrdered_dict t (wpAny_pure ?_)));show wpAny _ _ (Builtin.Dict.showsAll d >>= _) _ _ s;unfold Builtin.Dict.showsAll;rw[hd,if_neg qr];exact wpAny_bind (wpAny_pure (wpAny_bind (wpAny_newObj_type (wpAny_pure ⟨_,rfl,h⟩))))
def FQ:Builtin.Dict_items.ownsTuple "dict_itemiterator"=true:=by decide
def jd {v:Addr}{Q:Value->Shared->Prop}(hv:s.heap.IsItemsView v d)(hm:Sq s.heap d es ep)
  (hQ:Q (.ref s.heap.objs.size) { s with heap:=s.heap.push { cls:=.type "dict_itemiterator",data:=.fields #[.none,.bool false,.ref d,.int 0 0,.int es.size 0,.int ep 0,.none,.none] } }):wpAny (model prog w) A (pyIter (.ref v)) Q E s:=by
 obtain⟨_,v1,_,v3⟩:=id hv;obtain⟨o,m1,_,m2⟩:=hm;refine wpAny_pyIter_slot hv.typeIs F.slot_dict_items_iter (wpAny_call_entry F.slot_dict_items_iter hv.typeIs F.entry_dict_items_iter ?_ (F.args_dict_items_iter_1 _));unfold Builtin.«dict_items.__iter__» Builtin.Dict_items.dictOf Builtin.Dict_items.newIterator;refine wpAny_bind (wpAny_pure (wpAny_bind (wpAny_bind (wpAny_field v1 v3 (x:=.ref d) rfl (wpAny_pure ?_)))));refine wpAny_bind (wpAny_bind (wpAny_dictEntries m1 m2 (wpAny_bind (wpAny_dictEpoch m1 m2 ?_))));simp only[FQ,if_true];refine wpAny_newObj_type (wpAny_pure ⟨_,rfl,"dict_itemiterator",_,⟨_,qq _ rfl,rfl⟩,F.slot_dict_itemiterator_next.lookup,?_⟩) (by simp only[sizeOk,Builtin.Dict_items.ownedTupleFields,qo,qf,qR,Qo,sizeLine_eq];lia);simpa [rawInt,Builtin.Dict_items.ownedTupleFields]using hQ
def aP {e:DictEntry}{Q:Option Value->Shared->Prop}(hit:IsItemIter s.heap it d i es.size ep ok ov)(hm:Sq s.heap d es ep)(hx:es[i]?=some e)
  (hQ:∀ h',IsItemIterOut h' it d (i+1) es.size ep e.key e.val s.heap.objs.size->h'.get? s.heap.objs.size=some { cls:=.type "tuple",data:=.seq #[e.key,e.val] }->(∀ b o,b≠it->s.heap.get? b=some o->h'.get? b=some o)->Q (some (.ref s.heap.objs.size)) { s with heap:=h' }) :
  wpAny (model prog w) A (pyNext (.ref it)) Q E s:=by
 obtain⟨hp,g,dr,tk,os⟩:=s;obtain⟨o,m1,_,m2⟩:=hm;have t0:Shared.TypeIs ⟨hp,g,dr,tk,os⟩ (.ref it) "dict_itemiterator":=⟨_,hit,rfl⟩
 have li:i<es.size:=(Array.getElem?_eq_some_iff.mp hx).1;unfold pyNext;refine wpAny_bind (wpAny_attempt (wpAny_callSpecial?_slot (name:=Str.ofString "__next__") t0 F.slot_dict_itemiterator_next (wpAny_call_entry F.slot_dict_itemiterator_next t0 F.entry_dict_itemiterator_next ?_ (F.args_dict_itemiterator_next_1 _))));refine wpAny_bind (wpAny_pure (wpAny_bind (wpAny_bind ?_)));refine wpAny_bind (wpAny_typeNameOfWhole_itemiter t0 (wpAny_pure (wpAny_bind (wpAny_fieldsOf hit rfl ?_))));simp only[FQ,if_true];show wpAny _ _ (if(Value.ref d==Value.none)=true then _ else _) _ _ _;rw[if_neg (fun z:(Value.ref d==Value.none)=true=>qr z)];refine wpAny_bind (wpAny_pure (wpAny_bind (wpAny_dictEntries m1 m2 ?_)));rw[if_neg (by simp)];refine wpAny_bind (wpAny_pure (wpAny_bind (wpAny_dictEpoch m1 m2 ?_)));rw[if_neg (by simp)];refine wpAny_pure ?_;simp only[show ¬ ((i:Int)<0)from by lia,if_false,Ot,hx];refine wpAny_bind (wpAny_bind (wpAny_typeNameOfWhole_itemiter t0 (wpAny_pure (wpAny_bind (wpAny_isOneOf_itemiter t0 ?_)))));show wpAny _ _ (setField (.ref it) 3 (rawInt ((i:Int)+1)) >>= _) _ _ ⟨hp,g,dr,tk,os⟩;refine wpAny_bind (wpAny_setField_rec hit (by simp) fun h1 e1 s1=>?_);have s1':Heap.SameBut it hp h1:=s1
 have e1':IsItemIter h1 it d (i+1) es.size ep ok ov:=by
  have z:((i+1:Nat):Int)=(i:Int)+1:=by lia
  unfold IsItemIter;rw[z];simpa [rawInt]using e1
 have t1:Shared.TypeIs ⟨h1,g,dr,tk,os⟩ (.ref it) "dict_itemiterator":=⟨_,e1',rfl⟩
 refine wpAny_bind (wpAny_holding (wpAny_bind (wpAny_isOneOf_itemiter t1 (wpAny_bind (wpAny_isOneOf_itemiter t1 ?_)))));show wpAny _ _ (Builtin.Dict_items.pairFromOwner (.ref it) 6 e.key e.val) _ _ ⟨h1,g,dr,tk,os⟩;unfold Builtin.Dict_items.pairFromOwner;refine wpAny_bind (wpAny_newTuple ?_);have z1:h1.objs.size=hp.objs.size:=s1'.1;have e2:IsItemIter (h1.push { cls:=.type "tuple",data:=.seq #[e.key,e.val] }) it d (i+1) es.size ep ok ov:=qd _ e1';have p2:(h1.push { cls:=.type "tuple",data:=.seq #[e.key,e.val] }).get? hp.objs.size=some { cls:=.type "tuple",data:=.seq #[e.key,e.val] }:=by rw[<- z1];exact qq _ rfl
 have k2:∀ b o,b≠it->hp.get? b=some o->(h1.push { cls:=.type "tuple",data:=.seq #[e.key,e.val] }).get? b=some o:=fun b o hb q=>qd _ (s1'.extBut b o hb q)
 generalize h1.push { cls:=.type "tuple",data:=.seq #[e.key,e.val] }=h2 at e2 p2 k2;show wpAny _ _ (Builtin.Dict_items.ownedTupleIsFree (.ref it) >>= _) _ _ ⟨h2,g,dr,tk,os⟩;rw[z1];have ne:hp.objs.size≠it:=Wu (qC hit);unfold Builtin.Dict_items.ownedTupleIsFree;refine wpAny_bind (wpAny_bind (wpAny_field e2 rfl (x:=.none) rfl (wpAny_pure ?_)));simp only[if_true];refine wpAny_bind (wpAny_field e2 rfl (x:=ok) rfl (wpAny_bind (wpAny_field e2 rfl (x:=ov) rfl ?_)));refine wpAny_bind (wpAny_setField_rec e2 (by simp) fun h3 e3 s3=>wpAny_bind (wpAny_setField_rec (s:=⟨h3,g,dr,tk,os⟩) e3 (by simp) fun h4 e4 s4=>wpAny_bind (wpAny_setField_rec (s:=⟨h4,g,dr,tk,os⟩) e4 (by simp) fun h5 e5 s5=>wpAny_bind (wpAny_setField_rec (s:=⟨h5,g,dr,tk,os⟩) e5 (by simp) fun h6 e6 s6=>?_))));have up:∀ b o,b≠it->h2.get? b=some o->h6.get? b=some o:=fun b o hb q=>s6.extBut b o hb (s5.extBut b o hb (s4.extBut b o hb (s3.extBut b o hb q)))
 exact wpAny_bind (wpAny_letGo (wpAny_pure (wpAny_pure ⟨_,rfl,wpAny_pure (hQ h6 e6 (up _ _ ne p2) fun b o hb q=>up b o hb (k2 b o hb q))⟩)))
def znO {Q:Option Value->Shared->Prop}(hh:A.handled=none)(hit:IsItemIter s.heap it d es.size es.size ep ok ov)(hm:Sq s.heap d es ep)(hQ:∀ h',Heap.ExtBut it s.heap h'->Q none { s with heap:=h' }):wpAny (model prog w) A (pyNext (.ref it)) Q E s:=by
 obtain⟨o,m1,_,m2⟩:=hm;have t0:s.TypeIs (.ref it) "dict_itemiterator":=⟨_,hit,rfl⟩
 unfold pyNext;refine wpAny_bind (wpAny_attempt (wpAny_callSpecial?_slot (name:=Str.ofString "__next__") t0 F.slot_dict_itemiterator_next (wpAny_call_entry F.slot_dict_itemiterator_next t0 F.entry_dict_itemiterator_next ?_ (F.args_dict_itemiterator_next_1 _))));refine wpAny_bind (wpAny_pure (wpAny_bind (wpAny_bind ?_)));refine wpAny_bind (wpAny_typeNameOfWhole_itemiter t0 (wpAny_pure (wpAny_bind (wpAny_fieldsOf hit rfl ?_))));simp only[FQ,if_true];show wpAny _ _ (if(Value.ref d==Value.none)=true then _ else _) _ _ _;rw[if_neg (fun z:(Value.ref d==Value.none)=true=>qr z)];refine wpAny_bind (wpAny_pure (wpAny_bind (wpAny_dictEntries m1 m2 ?_)));rw[if_neg (by simp)];refine wpAny_bind (wpAny_pure (wpAny_bind (wpAny_dictEpoch m1 m2 ?_)));rw[if_neg (by simp)];refine wpAny_pure ?_;simp only[show ¬ ((es.size:Int)<0)from by lia,if_false,Ot,Array.getElem?_eq_none (qh es.size)];refine wpAny_bind (wpAny_bind (wpAny_typeNameOfWhole_itemiter t0 (wpAny_pure ?_)));show wpAny _ _ (setField (.ref it) 2 .none >>= _) _ _ s;refine wpAny_bind (wpAny_setField hit rfl (by simp) ?_);show wpAny _ _ (newExc (.type "StopIteration") [] >>= _) _ _ _;refine wpAny_bind ?_;simp only[newExc,newTuple];refine wpAny_bind (wpAny_newObj_type (wpAny_bind (m:=firstArgMember _ _) (wpAny_of_eq (a:=Value.none) (by first|rfl|(simp only[firstArgMember];rfl)) (wpAny_newObj_type ?_ (by size_fits)))) (by size_fits));simp only[raiseNew];refine wpAny_bind (wpAny_handled ?_);rw[show A.in1.handled=none from hh];refine wpAny_bind (wpAny_pure (wpAny_throw ?_));refine wpAny_bind (wpAny_isInstance (T:="StopIteration") (b:=true) ⟨_,qq _ rfl,rfl⟩ isSubtype_stop (wpAny_pure (hQ _ (((Heap.SameBut.update ..).extBut.push _).push _))))
end
def Ga (d n ep:Nat):It :=
  ⟨fun i H=>∃ Z8,H d=some (.dN Z8 ep)/\Z8.length=n/\i<n,
   fun i H v H'=>∃ p b k y,v=.ref p/\H p=none/\H'=upd H p (.tup [.ref b,y])/\WX H b k/\∀ Z8,H d=some (.dN Z8 ep)->Z8[i]?=some (k,y),
   fun i H=>∃ Z8,H d=some (.dN Z8 ep)/\Z8.length=n/\n=i⟩
def DY {ep:Nat}{Z8:List (List (List Key)×V)}(ok:ZD P w H h)(e:H d=some (.dN Z8 ep)):(d==sysModules)=false/\∃ xs es,KN H Z8 xs/\Sq h d es ep/\es.toList=xs.map (entryOfKey (My.Us (zM P w)))/\es.size=Z8.length :=
 let ⟨_,y,xs,r,o,es,h1,h2,h3,h4,_⟩:=(show zW P w H h d (.dN Z8 ep)from ok d _ e)
 ⟨y,xs,es,r,⟨o,h1,h2.1,h3⟩,h4,by rw[size_of_entries h4,Paired.length r]⟩
def aW {α β:Type}{R:α->β->Prop}{xs:List α}{ys:List β}(p:Paired R xs ys):∀ {i:Nat} {a:α},xs[i]?=some a->∃ b,ys[i]?=some b/\R a b:=by
 induction p with
 |nil=>intro i a h;cases h
 |@cons a b as bs h t ih =>
  intro i x hx;cases i with
  |zero=>cases hx;exact⟨b,rfl,h⟩
  |succ i=>exact ih hx
def dO {P:Program}{w:World}{K:PySem.W.Frag}{tg:List Expr}{kk:Nat}{pos:Pos}{d it n ep:Nat}:Turn P w K (.Tuple tg kk pos) (Ga d n ep) [it] it (fun i h=>∃ ok ov,IsItemIter h it d i n ep ok ov) where
 mem:=by simp
 obj:=by rintro i h ⟨ok,ov,st⟩ b hb;rw[qK.mp hb];exact⟨_,st,fun v q=>by cases(show Data.fields _=Data.cell v from q)⟩
 keep:=fun i h h' ⟨ok,ov,st⟩ k=>⟨ok,ov,k it (by simp) _ st⟩
 item:=by
  intro X hP hw hK hc i Z9 s U H E I hf ⟨ok,ov,st⟩ ⟨Z8,hd,hn,hi⟩;subst hP hw hK hn;obtain⟨_,xs,es,r,ea,el,ez⟩:=DY I.hok hd;obtain⟨⟨k,b,u⟩,hx,hk,hb,hu⟩:=aW r (qb hi);have hk:Z8[i].1=k:=hk;have hb:WX H b Z8[i].1:=hb;rw[hk]at hb;have he:es[i]?=some (entryOfKey (My.Us (zM X.prog X.w)) (k,b,u)):=by rw[entry_at el,hx];rfl
  rw[<- ez]at st;refine aP st ea he fun h' e1 e2 e3=>?_
  refine⟨_,rfl,wpAny_letOwnedTupleGo_items (s:={ s with heap:=h' }) e1 fun h2 f1 f2=>?_⟩;have fr:s.heap.objs.size≠it:=Wu (qC st)
  have k2:∀ c o,c∉[it]->s.heap.get? c=some o->h2.get? c=some o:=fun c o hc q=>by
   have:c≠it:=fun z=>hc (qK.mpr z)
   exact f2.extBut c o this (e3 c o this q)
  have new:h2.get? s.heap.objs.size=some { cls:=.type "tuple",data:=.seq #[.ref b,u] }:=f2.extBut _ _ fr e2;refine⟨.ref s.heap.objs.size,upd H s.heap.objs.size (.tup [.ref b,Z8[i].2]),I.turnNew (t':=s.toks) hf k2 (qh _) ⟨by show 2<=sizeLine;decide,[.ref b,u],.cons rfl (.cons hu .nil),_,new,rfl,_,rfl⟩,rfl,⟨_,b,k,_,rfl,I.fresh,rfl,hb,fun kvs' h'=>?_⟩,⟨_,_,ez▸f1⟩,fun c hc=>?_⟩
  ·rw[hd]at h';cases h';rw[qb hi,<- hk]
  ·rw[qK.mp hc,zu fr.symm];exact(hf it (by simp)).1
 done:=by intro X hP hw hK hc i Z9 s U H E I hf ⟨ok,ov,st⟩ ⟨Z8,hd,hn,hi⟩;subst hP hw hK hi hn;obtain⟨_,xs,es,r,ea,el,ez⟩:=DY I.hok hd;rw[<- ez]at st;obtain⟨f0,f1,f2,f3,f4,f5⟩:=hf it (by simp);exact znO (I.ok.hd hc) st ea fun h' eb=>⟨rfl,I.turned (t':=s.toks) (fun b o hb e=>eb b o hb e) f0 f1 f3 f4 f5⟩
 self:=by rintro _ _ _ _ _ ⟨_,_,hit⟩ h;exact PySem.W.kcp_self hit h
def zvm (td:TE):TI:=fun U H R=>td U H fun x H1=>∃ a Z8 ep,x=.ref a/\H1 a=some (.dN Z8 ep)/\R (Ga a Z8.length ep) H1
structure M0 (X:Cx)(o:Expr)(m:Str)(apos cpos:Pos):Prop where
 base:attributeBase o m X.env (eval o X.env)=eval o X.env
 few:((backTo cpos (starEach [] X.env)).all (fun x=>!x.1)&&(backToKw cpos (keywordEach [] X.env)).all (fun x=>x.1.isSome)&&decide (([]:List Expr).length+([]:List Keyword).length+(if([]:List Keyword).isEmpty then 0 else 1)<30))=true
 line:(apos.endLine==cpos.line)=true
def Θ {tg:List Expr}{kk:Nat}{tpos apos cpos:Pos}(ho:PE X o td)(m:M0 X o "items" apos cpos):PI X (.Tuple tg kk tpos) (.Call (.Attribute o "items" apos) [] [] cpos) (zvm td):=by
 intro Z9 s U H R I h;refine wpAny_Call_method m.base m.few m.line PySem.F.plainAttrs_dict PySem.F.slot_dict_items PySem.F.type_dict_items (Z2 (ho Z9 s U H _ I h) fun u s1 ⟨x,H1,I1,rx,a,Z8,ep,ex,hd,q1⟩=>?_);subst ex;obtain rfl:u=Value.ref a:=rx;obtain⟨t1,t2,t3⟩:=tR I1 (.inr (.inr ⟨Z8,ep,.inl hd⟩));obtain⟨_,xs,es,r,ea,el,ez⟩:=DY I1.hok hd;refine⟨t1,t2,?_⟩;refine PyProof.Rows.callWith_method0 (env:=X.env) ?_;refine call_meetsIn PySem.F.slot_dict_items t1 PySem.F.entry_dict_items (PySem.F.args_dict_items_1 _) (Ļ a t3) ⟨t1,?_⟩;have ea2:Sq (s1.heap.push { cls:=.type "dict_items",data:=.fields #[.ref a] }) a es ep:=ea.at fun o e=>qd _ e
 refine jd ⟨_,qq _ rfl,rfl,rfl⟩ ea2 ?_;have I2:=I1.kept (h':=s1.heap.push { cls:=.type "dict_items",data:=.fields #[.ref a] }) (t':=s1.toks) fun b o q=>qd _ q
 have I3:=I2.kept (h':=(s1.heap.push { cls:=.type "dict_items",data:=.fields #[.ref a] }).push { cls:=.type "dict_itemiterator",data:=.fields #[.none,.bool false,.ref a,.int 0 0,.int es.size 0,.int ep 0,.none,.none] }) (t':=s1.toks) fun b o q=>qd _ q
 refine⟨_,_,_,_,H1,rfl,I3,dO (n:=Z8.length) (ep:=ep) (d:=a),⟨_,_,by rw[<- ez];exact qq _ rfl⟩,fun b hb=>?_,q1⟩;rw[qK.mp hb];exact I2.fpOk (qh _) (I2.hok.fresh (qh _))
section
variable {X:Cx}{Z9:List (Addr×Obj)}{U:St}{H:Hp}{s:Shared}{a:Addr}{A:Around}{E:Value->Shared->Prop}
def ztx (td ty tv:TE):TS:=fun D U H=>tv U H fun v H1=>td U H1 fun x H2=>ty U H2 fun y H3=>∃ a Z8 ep k b,x=.ref a/\H3 a=some (.dN Z8 ep)/\y=.ref b/\WX H3 b k/\Z8.length<sizeLine/\∀ e,D.nx U (upd H3 a (.dN (putK Z8 k v) e))
def zoT {ty:TE}{pos pos':Pos}(hu:X.A.units+2<cLine)(ho:PE X o td)(hi:PE X i ty)(hv:PE X value tv)(hs:swapsWith value (some (.Subscript o i pos')) pos.line X.env=pure false) :
  PS X (.Assign [.Subscript o i pos'] value pos) (ztx td ty tv):=by
 intro Z9 s U H D I h;refine wpAny_Assign_Subscript (Z2 (hv Z9 s U H _ I h) fun r s1 ⟨v,H1,I1,rv,q1⟩=>Z2 (ho Z9 s1 U H1 _ I1 q1) fun u s2 ⟨x,H2,I2,rx,q2⟩=>Z2 (hi Z9 s2 U H2 _ I2 q2) fun iv s3 ⟨y,H3,I3,ry,a,Z8,ep,k,b,ex,hd,ey,hk,hl,q3⟩=>?_) hs;subst ex ey;obtain rfl:u=Value.ref a:=rx;obtain rfl:iv=Value.ref b:=ry;obtain⟨z,y,xs,rel,dd⟩:=zwh I3.hok hd;refine wpAny_setItem_heap (hsz:=by rw[<- Paired.length rel];exact z) (nest_room hu) (Qs I3.hok hk) dd fun h' dd' hs=>?_
 obtain⟨q,es,ep',hq,h2,h3,h4,_,h5⟩:=dd';have:=Ka Z8 k v;refine⟨U,_,?_,q3 ep'⟩;refine Mr I3 (by rw[hd];exact True.intro) hs ⟨q,hq⟩ ⟨by lia,y,_,(rel.put k hk rv).keeps fun c ys ec=>?_,q,es,hq,h2,h3,h4,h5⟩;rw[zu (VF ec hd (fun z=>nomatch z))];exact ec
end
end L2
namespace Dp
open PySem
inductive D where
 |non|bl (b:Bool)|int (i:Int)|str (x:Str)|tup (xs:List D)|ref (n:Nat)|ty (n:String)|rl (xs:List D)|exn (c:Str)|kt (xs:List D)
 deriving Inhabited
inductive Cell where
 |lst (xs:List D)|ins (c:Str) (fs:List (Str×D))
 |dk (Z8:List (Str×D))|dt (Z8:List (List (Sum Int Str)×D))|dn (Z8:List (List (List (Sum Int Str))×D)) (ep:Nat)
 |tab (x:Str) (l c:Nat)
 deriving Inhabited
abbrev Z7:=List Cell
abbrev Z1:=List (Option D)
abbrev DK:=D->Z7->Prop
abbrev DE:=Z1->Z7->DK->Prop
abbrev DT:=Z1->Z7->(Bool->Z7->Prop)->Prop
abbrev DA:=Z1->Z7->(List D->Z7->Prop)->Prop
abbrev DG:=D->Z1->Z7->(Z1->Z7->Prop)->Prop
abbrev Vh:=List D->Z1->Z7->(Z1->Z7->Prop)->Prop
structure LR where
 nx:Z1->Z7->Prop
 rt:DK
 bk:Z1->Z7->Prop:=fun _ _=>False
 ct:Z1->Z7->Prop:=fun _ _=>False
abbrev DS:=LR->Z1->Z7->Prop
structure TX where
 items:List D
 ok:Z7->Prop
abbrev DI:=Z1->Z7->(TX->Z7->Prop)->Prop
abbrev ZX:=List D->Z7->DK->Prop
def big:Nat:=1000000
def fl:Nat->D->Bool
  |_,.ref _=>false
  |_,.ty _=>false
  |_,.rl _=>false
  |_,.exn _=>false
  |_,.kt _=>false
  |0,.tup _=>false
  |k+1,.tup xs=>xs.all (fl k)
  |_,.non=>true
  |_,.bl _=>true
  |_,.int _=>true
  |_,.str x=>x.cps.all (· < 0x110000)
mutual
def eqv:D->D->Bool
 |.non,.non=>true
 |.bl a,.bl b=>a==b
 |.bl a,.int j=>(if a then 1 else 0)==j
 |.int i,.bl b=>i==(if b then 1 else 0)
 |.int i,.int j=>decide (i=j)
 |.str x,.str y=>x==y
 |.tup xs,.tup ys=>eqvAll xs ys
 |_,_=>false
def eqvAll:List D->List D->Bool
 |[],[]=>true
 |x::xs,y::ys=>eqv x y&&eqvAll xs ys
 |_,_=>false
end
def Lst (S:Z7)(x:D)(xs:List D):Prop:=x=.rl xs\/∃ n,x=.ref n/\S[n]?=some (.lst xs)
def Tj (S:Z7)(x:D)(xs:List D):Prop:=x=.tup xs\/Lst S x xs
def Yh (n:Nat)(k:Int):Option Nat:=if 0<=k then(if k<n then some k.toNat else none)else if -(n:Int)<=k then some (k+n).toNat else none
def Zm (xs:List D)(k:Int):Option D:=(Yh xs.length k).bind fun j=>xs[j]?
def atS (z:Str)(k:Int):Option Nat:=(Yh z.cps.toList.length k).bind fun j=>z.cps.toList[j]?
def XJ (n:Nat)(d:Nat):Option Int->Nat
 |none=>d
 |some k=>if k<0 then(k+n).toNat else min k.toNat n
def cutD (xs:List α)(lo hi:Option Int):List α:=(xs.drop (XJ xs.length 0 lo)).take (XJ xs.length xs.length hi-XJ xs.length 0 lo)
def XM (i:Nat):DE:=fun ρ S Q=>∃ d,ρ[i]?=some (some d)/\Q d S
def dC (d:D):DE:=fun _ S Q=>Q d S
abbrev Zk:=D->D->Z7->DK->Prop
def Z6 (r:Zk)(ta tb:DE):DE:=fun ρ S Q=>ta ρ S fun x S1=>tb ρ S1 fun y S2=>r x y S2 Q
def V9 (r:D->Z7->DK->Prop)(ta:DE):DE:=fun ρ S Q=>ta ρ S fun x S1=>r x S1 Q
def zm:DA:=fun _ S Q=>Q [] S
def zc (ta:DE)(tr:DA):DA:=fun ρ S Q=>ta ρ S fun x S1=>tr ρ S1 fun xs S2=>Q (x::xs) S2
def dTup (t:DA):DE:=fun ρ S Q=>t ρ S fun xs S1=>xs.length<=big/\Q (.tup xs) S1
def Yd (t:DA):DE:=fun ρ S Q=>t ρ S fun xs S1=>xs.length<=big/\Q (.ref S1.length) (S1++[.lst xs])
def dCall (f:ZX)(t:DA):DE:=fun ρ S Q=>t ρ S fun xs S1=>f xs S1 Q
abbrev DB:=List D->Z7->DK->Prop
def dB (r:DB)(t:DA):DE:=fun ρ S Q=>t ρ S fun xs S1=>r xs S1 Q
def dT (t:DE):DT:=fun ρ S Q=>t ρ S fun x S1=>∃ b,x=.bl b/\Q b S1
def Yc (t u:DT):DT:=fun ρ S Q=>t ρ S fun c S1=>if c=true then u ρ S1 Q else Q false S1
def Wo (t u:DT):DT:=fun ρ S Q=>t ρ S fun c S1=>if c=true then Q true S1 else u ρ S1 Q
def W7 (t:DT):DT:=fun ρ S Q=>t ρ S fun c S1=>Q (!c) S1
def QX (t u:DE):DE:=fun ρ S Q=>t ρ S fun x S1=>∃ c,x=.bl c/\if c=true then u ρ S1 Q else Q (.bl false) S1
def J5 (t u:DE):DE:=fun ρ S Q=>t ρ S fun x S1=>∃ c,x=.bl c/\if c=true then Q (.bl true) S1 else u ρ S1 Q
def QZ (t:DE):DE:=fun ρ S Q=>t ρ S fun x S1=>∃ c,x=.bl c/\Q (.bl (!c)) S1
def pD (c:DT)(ta tb:DE):DE:=fun ρ S Q=>c ρ S fun b S1=>if b=true then ta ρ S1 Q else tb ρ S1 Q
def PN (r r':Zk)(ta tb tc:DE):DE:=fun ρ S Q=>ta ρ S fun x S1=>tb ρ S1 fun y S2=>r x y S2 fun z S3=>∃ c,z=.bl c/\if c=true then tc ρ S3 fun w S4=>r' y w S4 Q else Q (.bl false) S3
def TQ:Option DE->Z1->Z7->(Option Int->Z7->Prop)->Prop
 |none=>fun _ S Q=>Q none S
 |some t=>fun ρ S Q=>t ρ S fun x S1=>∃ i,x=.int i/\Q (some i) S1
def Wt (r:D->Option Int->Option Int->Z7->DK->Prop)(ta:DE)(lo hi:Option DE):DE:=fun ρ S Q=>ta ρ S fun x S1=>TQ lo ρ S1 fun l S2=>TQ hi ρ S2 fun h S3=>r x l h S3 Q
def X7 (f:Str)(ta:DE):DE:=fun ρ S Q=>ta ρ S fun x S1=>∃ n c fs d,x=.ref n/\S1[n]?=some (.ins c fs)/\fs.lookup f=some d/\Q d S1
def putD (f:Str)(v:D):List (Str×D)->List (Str×D)
 |[]=>[(f,v)]
 |(g,x)::r=>if g=f then(g,v)::r else(g,x)::putD f v r
def SN (c:Str)(init:ZX):ZX:=fun ds S Q=>init (.ref S.length::ds) (S++[.ins c []]) fun d S2=>d=.non/\Q (.ref S.length) S2
abbrev DM:=D->List D->Z7->DK->Prop
def dM (r:DM)(ta:DE)(t:DA):DE:=fun ρ S Q=>ta ρ S fun x S1=>(∃ n ys,x=.ref n/\S1[n]?=some (.lst ys))/\t ρ S1 fun xs S2=>r x xs S2 Q
def oI (C:Int->Int->Prop)(g:Int->Int->D):Zk:=fun x y S Q=>∃ i j,x=.int i/\y=.int j/\C i j/\Q (g i j) S
def OJ (g:Int->Int->D):Zk:=fun x y S Q=>∃ i j,x=.int i/\y=.int j/\Q (g i j) S
def oU (g:Int->D):D->Z7->DK->Prop:=fun x S Q=>∃ i,x=.int i/\Q (g i) S
def YT (i j:Int):Prop:=(My.Bd 8000 i/\My.Bd 8000 j)\/i.natAbs<2 ^ 64\/j.natAbs<2 ^ 64
def uR (_ j:Int):Prop:=j≠0/\My.Bd 8000 j
def zwN (_ j:Int):Prop:=j≠0
def Zx:Zk:=fun x y S Q=>(∃ i j,x=.int i/\y=.int j/\Q (.int (i+j)) S)\/(∃ xs ys,x=.tup xs/\y=.tup ys/\xs.length+ys.length<=big/\Q (.tup (xs++ys)) S) \/
 (∃ xs ys,Lst S x xs/\Lst S y ys/\xs.length+ys.length<=big/\Q (.ref S.length) (S++[.lst (xs++ys)])) \/
 (∃ i j:Str,x=.str i/\y=.str j/\i.length+j.length<=big/\Q (.str (i++j)) S)
def Zf:Zk:=OJ fun i j=>.int (i-j)
def ú (z:Str)(n:Int):Str:=if n<1 then Str.empty else if(n==1||z.length==0)=true then z else⟨(List.replicate n.toNat z.cps).foldl (·++·) #[]⟩
@[irreducible] def Hg (x:Int):Prop:=x.natAbs<2 ^ 1048576
def YX:Zk:=fun x y S Q=>oI YT (fun i j=>.int (i*j)) x y S Q\/(∃ (z:Str) (n:Int),x=.str z/\y=.int n/\z.length<=1000/\-1000<=n/\n<=1000/\Q (.str (ú z n)) S)\/oI (fun i j=>Hg i/\Hg j) (fun i j=>.int (i*j)) x y S Q
def oDiv:Zk:=oI uR fun i j=>.int (i.fdiv j)
def oMod:Zk:=oI zwN fun i j=>.int (i.fmod j)
def V3:D->Z7->DK->Prop:=oU fun i=>.int (-i)
def oLt:Zk:=OJ fun i j=>.bl (decide (i<j))
def oLe:Zk:=OJ fun i j=>.bl (decide (i<=j))
def X5:Zk:=OJ fun i j=>.bl (decide (j<i))
def Kw:Zk:=OJ fun i j=>.bl (decide (j<=i))
def ď (S:Z7):List D->List (List D)->Prop
 |[],[]=>True
 |x::xs,z::zs=>Lst S x z/\ď S xs zs
 |_,_=>False
def Ih (S:Z7)(x y:D)(b:Bool):Prop:=(fl 20 x=true/\fl 20 y=true/\b=eqv x y)\/(∃ xs ys,Lst S x xs/\Lst S y ys/\xs.all (fl 20)=true/\ys.all (fl 20)=true/\b=eqvAll xs ys) \/
 False
def oEq:Zk:=fun x y S Q=>∃ b,Ih S x y b/\Q (.bl b) S
def Yg:Zk:=fun x y S Q=>∃ b,Ih S x y b/\Q (.bl (!b)) S
def Ji (S:Z7)(x y:D)(b:Bool):Prop:=∃ ys,Tj S y ys/\fl 20 x=true/\ys.all (fl 20)=true/\b=ys.any fun z=>eqv z x
def Vo:Zk:=fun x y S Q=>(∃ b,Ji S x y b/\Q (.bl b) S)\/(∃ (c:Nat) (z:Str),x=.str ⟨#[c]⟩/\y=.str z/\Q (.bl (decide (c∈z.cps.toList))) S)
def RQ:Zk:=fun x y S Q=>(∃ b,Ji S x y b/\Q (.bl (!b)) S)\/(∃ (c:Nat) (z:Str),x=.str ⟨#[c]⟩/\y=.str z/\Q (.bl (!decide (c∈z.cps.toList))) S)
def YW:D->Bool
 |.non=>true
 |_=>false
def Ru:Zk:=fun x y S Q=>(y=.non/\Q (.bl (YW x)) S)\/(∃ a b,x=.bl a/\y=.bl b/\Q (.bl (a==b)) S)
def Wn:Zk:=fun x y S Q=>(y=.non/\Q (.bl (!YW x)) S)\/(∃ a b,x=.bl a/\y=.bl b/\Q (.bl (!(a==b))) S)
def ZR:Zk:=fun x y S Q=>(∃ i xs d,y=.int i/\Tj S x xs/\Zm xs i=some d/\Q d S)\/(∃ (z:Str) (i:Int) (c:Nat),x=.str z/\y=.int i/\z.length<=big/\atS z i=some c/\Q (.str ⟨#[c]⟩) S)
def zzl (z:Str)(lo hi:Option Int):Str:=⟨(cutD z.cps.toList lo hi).toArray⟩
def Wz:D->Option Int->Option Int->Z7->DK->Prop:=fun x lo hi S Q=>(∃ xs,x=.tup xs/\Q (.tup (cutD xs lo hi)) S)\/(∃ xs,Lst S x xs/\Q (.ref S.length) (S++[.lst (cutD xs lo hi)]))\/False
def Zo:DB:=fun vs S Q=>(∃ x xs,vs=[x]/\Tj S x xs/\Q (.int xs.length) S)\/(∃ z:Str,vs=[.str z]/\z.length<=big/\Q (.int z.length) S)
def Jo:DB:=fun vs S Q=>∃ i,vs=[.int i]/\Q (.int (i.natAbs:Int)) S
def Qj:DB:=fun vs S Q=>∃ i j,vs=[.int i,.int j]/\Q (.int (max i j)) S
def QV:DB:=fun vs S Q=>∃ i j,vs=[.int i,.int j]/\Q (.int (min i j)) S
def Jp:DB:=fun vs S Q=>∃ x ns,vs=[x]/\Lst S x (List.map D.int ns)/\0<ns.length/\∀ m:Int,m∈ns->(∀ a∈ns,a<=m)->Q (.int m) S
def LQ:DB:=fun vs S Q=>∃ x ns,vs=[x]/\Lst S x (List.map D.int ns)/\0<ns.length/\∀ m:Int,m∈ns->(∀ a∈ns,m<=a)->Q (.int m) S
def WK:DB:=fun vs S Q=>∃ x bs,vs=[x]/\Lst S x (List.map D.bl bs)/\Q (.bl (bs.all id)) S
def Qt:DB:=fun vs S Q=>∃ x xs,vs=[x]/\Tj S x xs/\Q (.ref S.length) (S++[.lst xs])
def Qq (t:String):Bool:=t=="int"||t=="bool"||t=="tuple"||t=="list"||t=="str"
def yU (S:Z7)(t:String)(d:D):Option Bool:=if(!Qq t)=true then none else match d with
 |.non=>some false
 | .bl _=>some (t=="bool"||t=="int")
 | .int _=>some (t=="int")
 | .str _=>some (t=="str")
 | .tup _=>some (t=="tuple")
 |.ref n=>match S[n]? with
  | some (.lst _)=>some (t=="list")
  |_=>none
 |.ty _=>none
 |.rl _=>none
 |.exn _=>none
 |.kt _=>none
def Sg:DB:=fun vs S Q=>∃ x t b,vs=[x,.ty t]/\yU S t x=some b/\Q (.bl b) S
abbrev p2 (c:Int×Int):D:=.tup [.int c.1,.int c.2]
def V7:DM:=fun x vs S Q=>∃ n xs y,x=.ref n/\vs=[y]/\S[n]?=some (.lst xs)/\xs.length<big/\Q .non (S.set n (.lst (xs++[y])))
def ϥ:DM:=fun x vs S Q=>∃ n xs m ys,x=.ref n/\vs=[.ref m]/\S[n]?=some (.lst xs)/\S[m]?=some (.lst ys)/\m≠n/\xs.length+ys.length<=big/\Q .non (S.set n (.lst (xs++ys)))
def Ii:DM:=fun x vs S Q=>ϥ x vs S Q\/∃ n xs ys,x=.ref n/\vs=[.tup ys]/\S[n]?=some (.lst xs)/\xs.length+ys.length<=big/\Q .non (S.set n (.lst (xs++ys)))
def Js:DM:=fun x vs S Q=>∃ n xs y,x=.ref n/\vs=[.int 0]/\S[n]?=some (.lst (y::xs))/\Q y (S.set n (.lst xs))
def zT (i:Nat):DG:=fun d ρ S Q=>Q (ρ.set i (some d)) S
def YM:Vh:=fun ds ρ S Q=>ds=[]/\Q ρ S
def zF (t:DG)(u:Vh):Vh:=fun ds ρ S Q=>∃ d r,ds=d::r/\t d ρ S fun ρ' S'=>u r ρ' S' Q
def YH (n:Nat)(t:Vh):DG:=fun d ρ S Q=>∃ xs,d=.tup xs/\xs.length=n/\t xs ρ S Q
def Qi (to ti:DE):DG:=fun d ρ S Q=>to ρ S fun o S1=>ti ρ S1 fun i S2=>∃ n xs k j,o=.ref n/\i=.int k/\S2[n]?=some (.lst xs)/\Yh xs.length k=some j/\Q ρ (S2.set n (.lst (xs.set j d)))
def zf (t u:DS):DS:=fun E ρ S=>t { E with nx:=u E } ρ S
def zH:DS:=fun E ρ S=>E.nx ρ S
def zB (t:DE):DS:=fun E ρ S=>t ρ S E.rt
def Y4 (t:DE):DS:=fun E ρ S=>t ρ S fun _ S1=>E.nx ρ S1
def zq (t:DE)(g:DG):DS:=fun E ρ S=>t ρ S fun x S1=>g x ρ S1 E.nx
def ZK (c:DT)(t u:DS):DS:=fun E ρ S=>c ρ S fun b S1=>if b=true then t E ρ S1 else u E ρ S1
def sJ (t:DS):DS:=fun E ρ S=>∃ J:Z1->Z7->Prop,(∀ ρ S,J ρ S->E.nx ρ S)/\t { E with nx:=J } ρ S
def Yb:DS:=fun _ _ _=>False
def Ae:DS:=fun E ρ S=>E.bk ρ S
def yq:DS:=fun E ρ S=>E.ct ρ S
def Wf (c f:Str)(to tv:DE):DS:=fun E ρ S=>tv ρ S fun y S1=>to ρ S1 fun x S2=>∃ n fs,x=.ref n/\S2[n]?=some (.ins c fs)/\fs.length<100/\E.nx ρ (S2.set n (.ins c (putD f y fs)))
def Lr (i:Nat)(t:DE):DS:=fun E ρ S=>∃ a,ρ[i]?=some (some (.int a))/\t ρ S fun y S1=>∃ b,y=.int b/\E.nx (ρ.set i (some (.int (a+b)))) S1
def Vp (c:DT)(t:DS):DS:=fun E ρ S=>∃ W:Nat->Z1->Z7->Prop,(∃ m,W m ρ S)/\∀ m ρ S,W m ρ S ->
 c ρ S fun b S1=>if b=true then ∃ N:Z1->Z7->Prop,(∀ ρ' S',N ρ' S'->∃ m',m'<m/\W m' ρ' S')/\t { E with nx:=N,ct:=N,bk:=E.nx } ρ S1 else E.nx ρ S1
def Yr (wi:DI)(g:DG)(t:DS):DS:=fun E ρ S=>wi ρ S fun J S1=>∃ W:Nat->Z1->Z7->Prop,W 0 ρ S1/\(∀ i ρ S,W i ρ S->J.ok S) /\
 (∀ i d ρ S,J.items[i]?=some d->W i ρ S->g d ρ S fun ρ2 S2=>t { E with nx:=W (i+1),ct:=W (i+1),bk:=E.nx } ρ2 S2)/\∀ ρ S,W J.items.length ρ S->E.nx ρ S
def signs (z:Str):List D:=z.cps.toList.map fun c=>.str ⟨#[c]⟩
def Mg (x:D)(S1:Z7)(R:TX->Z7->Prop):Prop:=(∃ xs,x=.tup xs/\R ⟨xs,fun _=>True⟩ S1)\/(∃ xs,Lst S1 x xs/\R ⟨xs,fun S=>Lst S x xs⟩ S1)\/(∃ z:Str,x=.str z/\R ⟨signs z,fun _=>True⟩ S1)
def Zi (t:DE):DI:=fun ρ S R=>t ρ S fun x S1=>Mg x S1 R
def upto (lo:Int)(n:Nat):List D:=(List.range n).map fun k:Nat=>D.int (lo+(k:Int))
def RZ (t:DA):DI:=fun ρ S R=>t ρ S fun vs S1=>∃ j:Int,vs=[.int j]/\-(2 ^ 62)<=j/\j<2 ^ 62/\R ⟨upto 0 j.toNat,fun _=>True⟩ S1
def K3 (t:DA):DI:=fun ρ S R=>t ρ S fun vs S1=>∃ i j:Int,vs=[.int i,.int j]/\R ⟨upto i (j-i).toNat,fun _=>True⟩ S1
def U9:Nat->List D->List D
 |_,[]=>[]
 |k,x::xs=>.tup [.int (k:Nat),x]::U9 (k+1) xs
def Yk:List D->List D->List D
 |x::xs,y::ys=>.tup [x,y]::Yk xs ys
 |_,_=>[]
def TJ (c:List Str)(z:Str):List Str:=if c.any (·==z)=true then c else c++[z]
def Yl (f:Nat->Str):Nat->List Str
 |0=>[]
 |i+1=>TJ (Yl f i) (f i)
def K8 (zs:List Str):Nat:=(Yl (fun i=>zs.getD i Str.empty) zs.length).length
def Ol:DB:=fun vs S Q=>∃ x,∃ zs:List Str,vs=[x]/\Lst S x (zs.map D.str)/\zs.length<=4000/\Q (.int (K8 zs)) S
def El (R:TX->Z7->Prop)(vs:List D)(S1:Z7):Prop:=∃ x xs,vs=[x]/\Lst S1 x xs/\R ⟨U9 0 xs,fun S=>Lst S x xs⟩ S1
def VN (t:DA):DI:=fun ρ S R=>t ρ S (El R)
def CZ (R:TX->Z7->Prop)(vs:List D)(S1:Z7):Prop:=(∃ x y xs ys,vs=[x,y]/\Lst S1 x xs/\Lst S1 y ys/\R ⟨Yk xs ys,fun S=>Lst S x xs/\Lst S y ys⟩ S1)\/(∃ xs ys,vs=[.tup xs,.tup ys]/\R ⟨Yk xs ys,fun _=>True⟩ S1)
def Jd (t:DA):DI:=fun ρ S R=>t ρ S (CZ R)
def QK (own:Nat)(fv:List Nat)(ρ:Z1):Z1:=List.replicate own none++fv.map fun j=>(ρ[j]?).join
def Yj:DT:=fun _ S Q=>Q true S
def Zh (own:Nat)(fv:List Nat)(wi:DI)(g:DG)(tc:DT)(te:DE):DE:=fun ρ S Q=>wi ρ S fun J S1=>J.items.length<=big/\∃ W:Nat->List D->Z7->Prop,W 0 [] S1/\(∀ i ys S,W i ys S->J.ok S) /\
 (∀ i d ys S,J.items[i]?=some d->W i ys S->g d (QK own fv ρ) S fun ρ2 S2=>tc ρ2 S2 fun b S3=>if b=true then te ρ2 S3 fun y S4=>W (i+1) (ys++[y]) S4 else W (i+1) ys S3) /\
 ∀ ys S,W J.items.length ys S->Q (.ref S.length) (S++[.lst ys])
def kD:Sum Int Str->D
 |.inl i=>.int i
 |.inr x=>.str x
section
variable {κ:Type}[DecidableEq κ]
def dval (Z8:List (κ×D))(k:κ):Option D:=(Z8.find? fun kv=>decide (kv.1=k)).map (·.2)
def dput (Z8:List (κ×D))(k:κ)(v:D):List (κ×D):=if(Z8.any fun kv=>decide (kv.1=k))=true then Z8.map (fun kv=>if kv.1=k then(kv.1,v)else kv)else Z8++[(k,v)]
end
abbrev kN (k:List (Sum Int Str)):D:=.tup (k.map kD)
def Zc (S:Z7)(x y:D)(o:Option D):Prop:=(∃ n Z8 z,x=.ref n/\y=.str z/\S[n]?=some (.dk Z8)/\o=dval Z8 z)\/(∃ n Z8 ks,x=.ref n/\y=.tup (ks.map kD)/\S[n]?=some (.dt Z8)/\o=dval Z8 ks)\/(∃ n Z8 e ks,x=.ref n/\y=.tup (ks.map kN)/\S[n]?=some (.dn Z8 e)/\o=dval Z8 ks)
def HS (S:Z7)(x:D):Prop:=∃ n,x=.ref n/\((∃ Z8,S[n]?=some (.dk Z8))\/(∃ Z8,S[n]?=some (.dt Z8))\/∃ Z8 e,S[n]?=some (.dn Z8 e))
def Mw:DE:=fun _ S Q=>Q (.ref S.length) (S++[.dk []])
def CJ:DE:=fun _ S Q=>Q (.ref S.length) (S++[.dt []])
def Nr:DE:=fun _ S Q=>Q (.ref S.length) (S++[.dn [] 0])
def Ur (td ti:DE):DE:=fun ρ S Q=>td ρ S fun x S1=>ti ρ S1 fun y S2=>∃ d,Zc S2 x y (some d)/\Q d S2
def Qn (ti td:DE):DE:=fun ρ S Q=>ti ρ S fun y S1=>td ρ S1 fun x S2=>∃ o,Zc S2 x y o/\Q (.bl o.isSome) S2
def Ow (ti td:DE):DE:=fun ρ S Q=>ti ρ S fun y S1=>td ρ S1 fun x S2=>∃ o,Zc S2 x y o/\Q (.bl (!o.isSome)) S2
def M8 (td ti tz:DE):DE:=fun ρ S Q=>td ρ S fun x S1=>HS S1 x/\ti ρ S1 fun y S2=>tz ρ S2 fun z S3=>∃ o,Zc S3 x y o/\Q (o.getD z) S3
def Ed (tk tv:DE):DE:=fun ρ S Q=>tk ρ (S++[.dk []]) fun x S1=>tv ρ S1 fun y S2=>∃ z,x=.str z/\S2[S.length]?=some (.dk [])/\Q (.ref S.length) (S2.set S.length (.dk [(z,y)]))
def MN (tk tv:DE):DE:=fun ρ S Q=>tk ρ (S++[.dt []]) fun x S1=>tv ρ S1 fun y S2=>∃ ks,x=.tup (ks.map kD)/\S2[S.length]?=some (.dt [])/\Q (.ref S.length) (S2.set S.length (.dt [(ks,y)]))
def Jf (td:DE):DI:=fun ρ S R=>td ρ S fun x S1=>∃ n Z8 e,x=.ref n/\S1[n]?=some (.dn Z8 e)/\R ⟨Z8.map fun kv=>.tup [.tup (kv.1.map kN),kv.2],fun S=>S[n]?=some (.dn Z8 e)⟩ S1
def RT (S:Z7)(x y v:D)(Q:Z7->Prop):Prop:=(∃ n Z8 z,x=.ref n/\y=.str z/\S[n]?=some (.dk Z8)/\Z8.length<big/\Q (S.set n (.dk (dput Z8 z v))))\/(∃ n Z8 ks,x=.ref n/\y=.tup (ks.map kD)/\S[n]?=some (.dt Z8)/\Z8.length<big/\Q (S.set n (.dt (dput Z8 ks v))))
def Mh (td ti tv:DE):DS:=fun E ρ S=>tv ρ S fun v S1=>td ρ S1 fun x S2=>ti ρ S2 fun y S3=>RT S3 x y v (E.nx ρ)
def O5 (S:Z7)(x y v:D)(Q:Z7->Prop):Prop:=∃ n Z8 e ks,x=.ref n/\y=.tup (ks.map kN)/\S[n]?=some (.dn Z8 e)/\Z8.length<big/\∀ e',Q (S.set n (.dn (dput Z8 ks v) e'))
def R5 (td ti tv:DE):DS:=fun E ρ S=>tv ρ S fun v S1=>td ρ S1 fun x S2=>ti ρ S2 fun y S3=>O5 S3 x y v (E.nx ρ)
def fc:Cell->Bool
 |.lst xs=>xs.all (fl 20)
 |.ins _ _=>false
 |.dk _=>false
 |.dt _=>false
 |.dn _ _=>false
 |.tab _ _ _=>false
def Fin (S:Z7)(Q:DK):DK:=fun d S'=>Q d S'\/∃ S1,S1 <+: S'/\S.length<=S1.length/\(fl 20 d=true\/∃ n,d=.ref n/\n<S1.length)/\(∀ (n:Nat) c,S1[n]?=some c->S[n]?=some c\/fc c=true)/\Q d S1
def SJ (n:Nat)(ds:List D):Z1:=ds.map some++List.replicate (n-ds.length) none
def BodyOk (n:Nat)(b:DS)(f:ZX):Prop:=∀ ds S Q,f ds S Q->b ⟨fun _ S'=>Fin S Q .non S',Fin S Q,fun _ _=>False,fun _ _=>False⟩ (SJ n ds) S
abbrev XD:=Str->Z7->Prop
abbrev XR:=Z1->Str->Z7->Prop
abbrev Yo:=List D->Z7->DK->XD->Prop
def Ym (f:Yo)(ex:XR)(t:DA):DE:=fun ρ S Q=>t ρ S fun xs S1=>f xs S1 Q (ex ρ)
def xF:XR:=fun _ _ _=>False
def Tt (ex:XR)(c:Str):DS:=fun _ ρ S=>ex ρ c S
def Dn (c:Str)(init:Yo):Yo:=fun ds S Q ex=>init (.ref S.length::ds) (S++[.ins c []]) (fun d S2=>d=.non/\Q (.ref S.length) S2) ex
def Vt (n:Nat)(b:XR->DS)(f:Yo):Prop:=∀ ds S Q ex,f ds S Q ex->b (fun _=>ex) ⟨fun _ S'=>Fin S Q .non S',Fin S Q,fun _ _=>False,fun _ _=>False⟩ (SJ n ds) S
def New (Q:DK)(S:Z7)(xs:List D):Prop:=Q (.ref S.length) (S++[.lst xs])
def Put (Q:Z7->Prop)(S:Z7)(n:Nat)(c:Cell):Prop:=Q (S.set n c)
def Ej (own:Nat)(fv:List Nat)(g:DG)(tc:DT)(te:DE)(ρ:Z1)(Q:DK)(J:TX)(S:Z7):Prop:=J.items.length<=big/\∃ W:Nat->List D->Z7->Prop,W 0 [] S/\(∀ i ys S,W i ys S->J.ok S) /\
 (∀ i d ys S,J.items[i]?=some d->W i ys S->g d (QK own fv ρ) S fun ρ2 S2=>tc ρ2 S2 fun b S3=>if b=true then te ρ2 S3 fun y S4=>W (i+1) (ys++[y]) S4 else W (i+1) ys S3) /\
 ∀ ys S,W J.items.length ys S->New Q S ys
def GJ (d:D)(ρ:Z1)(Q:Z1->Z7->Prop)(o i:D)(S2:Z7):Prop:=∃ n xs k j,o=.ref n/\i=.int k/\S2[n]?=some (.lst xs)/\Yh xs.length k=some j/\Q ρ (S2.set n (.lst (xs.set j d)))
def FN (nx:Z1->Z7->Prop)(rt:DK)(g:DG)(t:DS)(ρ:Z1)(J:TX)(S:Z7):Prop:=∃ W:Nat->Z1->Z7->Prop,W 0 ρ S/\(∀ i ρ S,W i ρ S->J.ok S) /\
 (∀ i d ρ S,J.items[i]?=some d->W i ρ S->g d ρ S fun ρ2 S2=>t ⟨W (i+1),rt,nx,W (i+1)⟩ ρ2 S2)/\∀ ρ S,W J.items.length ρ S->nx ρ S
def sY (W:Nat->Z1->Z7->Prop)(m:Nat)(t:DS)(rt:DK)(nx:Z1->Z7->Prop)(ρ:Z1)(S:Z7):Prop:=∃ N:Z1->Z7->Prop,(∀ ρ' S',N ρ' S'->∃ m',m'<m/\W m' ρ' S')/\t ⟨N,rt,nx,N⟩ ρ S
def Oj (N W:Z1->Z7->Prop):Prop:=∀ ρ S,W ρ S->N ρ S
def yI (W:Z1->Z7->Prop)(P:(Z1->Z7->Prop)->(Z1->Z7->Prop)->Prop):Prop:=∀ N B,Oj N W->P N B
def zy8 {W:Z1->Z7->Prop}{P:(Z1->Z7->Prop)->(Z1->Z7->Prop)->Prop}(h:∀ N B,Oj N W->P N B):yI W P:=h
def nxi (h:Oj N W)(w:W ρ S):N ρ S:=h ρ S w
def nP (J:Z1->Z7->Prop)(P:(Z1->Z7->Prop)->Prop):Prop:=∀ N,Oj N J->P N
def aq {J:Z1->Z7->Prop}{P:(Z1->Z7->Prop)->Prop}(h:∀ N,Oj N J->P N):nP J P:=h
def CP (N W:List D->Z7->Prop):Prop:=∀ ys S,W ys S->N ys S
def wg (W:List D->Z7->Prop)(P:(List D->Z7->Prop)->Prop):Prop:=∀ N,CP N W->P N
def zza {W:List D->Z7->Prop}{P:(List D->Z7->Prop)->Prop}(h:∀ N,CP N W->P N):wg W P:=h
def nxl (h:CP N W)(w:W ys S):N ys S:=h ys S w
def Xq {nx:Z1->Z7->Prop}{rt:DK}{g:DG}{t:DS}{xs:List D}{ok:Z7->Prop}(W:Nat->Z1->Z7->Prop)(h0:W 0 ρ S)(hok:∀ i ρ S,W i ρ S->ok S)(step:∀ i d ρ S,xs[i]?=some d->W i ρ S->yI (W (i+1)) fun N B=>g d ρ S fun ρ2 S2=>t ⟨N,rt,B,N⟩ ρ2 S2)(fin:∀ ρ S,W xs.length ρ S->nx ρ S):FN nx rt g t ρ ⟨xs,ok⟩ S:=⟨W,h0,hok,fun i d ρ S e w=>step i d ρ S e w (W (i+1)) nx fun _ _ h=>h,fin⟩
def uO {nx:Z1->Z7->Prop}{rt:DK}{g:DG}{t:DS}{xs:List D}{ok:Z7->Prop}(W:Nat->Z1->Z7->Prop)(h0:W 0 ρ S)(hok:∀ i ρ S,W i ρ S->ok S)(step:∀ i d ρ S,xs[i]?=some d->W i ρ S->g d ρ S fun ρ2 S2=>t ⟨W (i+1),rt,nx,W (i+1)⟩ ρ2 S2)(fin:∀ ρ S,W xs.length ρ S->nx ρ S):FN nx rt g t ρ ⟨xs,ok⟩ S:=⟨W,h0,hok,step,fin⟩
def tE {S:Z7}{Q:DK}{xs:List D}(h:Q (.ref S.length) (S++[.lst xs])):New Q S xs:=h
def Xm {S T:Z7}{Q:DK}{xs:List D}(h:Q (.ref (S.length+T.length)) (S++(T++[.lst xs]))):New Q (S++T) xs:=by unfold New;rw[qf,qk];exact h
section
variable {S:Z7}{Q:DK}{xs:List D}{a b c d e f:Cell}
def HF (h:Q (.ref (S.length+1)) (S++[a,.lst xs])):New Q (S++[a]) xs:=Xm h
def œ (h:Q (.ref (S.length+2)) (S++[a,b,.lst xs])):New Q (S++[a,b]) xs:=Xm h
def zv7 (h:Q (.ref (S.length+3)) (S++[a,b,c,.lst xs])):New Q (S++[a,b,c]) xs:=Xm h
def ų (h:Q (.ref (S.length+4)) (S++[a,b,c,d,.lst xs])):New Q (S++[a,b,c,d]) xs:=Xm h
def Ϩ (h:Q (.ref (S.length+5)) (S++[a,b,c,d,e,.lst xs])):New Q (S++[a,b,c,d,e]) xs:=Xm h
end
def G3 {a:Cell}{T:Z7}{Q:Z7->Prop}{c:Cell}(h:Q (S++c::T)):Put Q (S++a::T) S.length c:=by unfold Put;rw[Pq _ _ (qh _),Yp];exact h
def zsL {a:Cell}{G T:Z7}{Q:Z7->Prop}{c:Cell}(h:Q (S++c::(G++T))):Put Q (S++(a::G++T)) S.length c:=G3 h
def Vn {S:Z7}{Q:Z7->Prop}{n:Nat}{c:Cell}(h:Q (S.set n c)):Put Q S n c:=h
def yL {T:Z7}{Q:Z7->Prop}{k:Nat}{c:Cell}(h:Q (S++T.set k c)):Put Q (S++T) (S.length+k) c:=by unfold Put;rw[Pq _ _ (Ly _ _),Kd];exact h
def vK (nx:Z1->Z7->Prop)(ρ:Z1):DK:=fun _ S1=>nx ρ S1
def wR (g:DG)(ρ:Z1)(nx:Z1->Z7->Prop):DK:=fun x S1=>g x ρ S1 nx
def vX (t u:DS)(E:LR)(ρ:Z1):Bool->Z7->Prop:=fun b S1=>if b=true then t E ρ S1 else u E ρ S1
def nA (u:Vh)(r:List D)(Q:Z1->Z7->Prop):Z1->Z7->Prop:=fun ρ' S'=>u r ρ' S' Q
def vJ (ti:DE)(d:D)(ρ:Z1)(Q:Z1->Z7->Prop):DK:=fun o S1=>ti ρ S1 (GJ d ρ Q o)
def Fd (r:Zk)(x:D)(Q:DK):DK:=fun y S2=>r x y S2 Q
def u9 (r:Zk)(tb:DE)(ρ:Z1)(Q:DK):DK:=fun x S1=>tb ρ S1 (Fd r x Q)
def wN (r:D->Z7->DK->Prop)(Q:DK):DK:=fun x S1=>r x S1 Q
def Gb (x:D)(Q:List D->Z7->Prop):List D->Z7->Prop:=fun xs S2=>Q (x::xs) S2
def uF (tr:DA)(ρ:Z1)(Q:List D->Z7->Prop):DK:=fun x S1=>tr ρ S1 (Gb x Q)
def xX (Q:DK):List D->Z7->Prop:=fun xs S1=>xs.length<=big/\Q (.tup xs) S1
def pU (Q:DK):List D->Z7->Prop:=fun xs S1=>xs.length<=big/\New Q S1 xs
def GC (f:ZX)(Q:DK):List D->Z7->Prop:=fun xs S1=>f xs S1 Q
def Hj (r:DM)(x:D)(Q:DK):List D->Z7->Prop:=fun xs S2=>r x xs S2 Q
def kM (r:DM)(t:DA)(ρ:Z1)(Q:DK):DK:=fun x S1=>(∃ n ys,x=.ref n/\S1[n]?=some (.lst ys))/\t ρ S1 (Hj r x Q)
def kT (Q:Bool->Z7->Prop):DK:=fun x S1=>∃ b,x=.bl b/\Q b S1
def xK (u:DT)(ρ:Z1)(Q:Bool->Z7->Prop):Bool->Z7->Prop:=fun c S1=>if c=true then u ρ S1 Q else Q false S1
def kOr (u:DT)(ρ:Z1)(Q:Bool->Z7->Prop):Bool->Z7->Prop:=fun c S1=>if c=true then Q true S1 else u ρ S1 Q
def nY (Q:Bool->Z7->Prop):Bool->Z7->Prop:=fun c S1=>Q (!c) S1
def Dd (r:D->Option Int->Option Int->Z7->DK->Prop)(x:D)(l:Option Int)(Q:DK):Option Int->Z7->Prop:=fun h S3=>r x l h S3 Q
def Di (r:D->Option Int->Option Int->Z7->DK->Prop)(x:D)(hi:Option DE)(ρ:Z1)(Q:DK):Option Int->Z7->Prop:=fun l S2=>TQ hi ρ S2 (Dd r x l Q)
def vZ (r:D->Option Int->Option Int->Z7->DK->Prop)(lo hi:Option DE)(ρ:Z1)(Q:DK):DK:=fun x S1=>TQ lo ρ S1 (Di r x hi ρ Q)
section
variable {nx:Z1->Z7->Prop}{ρ:Z1}{S:Z7}{Q:DK}{x y:D}{xs:List D}{E:LR}
def k_drop (h:nx ρ S):vK nx ρ x S:=h
def Ń {g:DG}(h:g x ρ S nx):wR g ρ nx x S:=h
def ϭ {t u:DS}{b:Bool}(h:if b=true then t E ρ S else u E ρ S):vX t u E ρ b S:=h
def zyU {u:Vh}{r:List D}(h:u r ρ S nx):nA u r nx ρ S:=h
def zyB {ti:DE}{d:D}(h:ti ρ S (GJ d ρ nx x)):vJ ti d ρ nx x S:=h
def zxZ {r:Zk}(h:r x y S Q):Fd r x Q y S:=h
def iZ {r:Zk}{tb:DE}(h:tb ρ S (Fd r x Q)):u9 r tb ρ Q x S:=h
def zxY {r:D->Z7->DK->Prop}(h:r x S Q):wN r Q x S:=h
def Ê {Q:List D->Z7->Prop}(h:Q (x::xs) S):Gb x Q xs S:=h
def zx0 {tr:DA}{Q:List D->Z7->Prop}(h:tr ρ S (Gb x Q)):uF tr ρ Q x S:=h
def kE (h:xs.length<=big/\Q (.tup xs) S):xX Q xs S:=h
def jM (h:xs.length<=big/\New Q S xs):pU Q xs S:=h
def Ξ {f:ZX}(h:f xs S Q):GC f Q xs S:=h
def zx5 {r:DM}(h:r x xs S Q):Hj r x Q xs S:=h
def k_m {r:DM}{t:DA}(h:(∃ n ys,x=.ref n/\S[n]?=some (.lst ys))/\t ρ S (Hj r x Q)):kM r t ρ Q x S:=h
def iM {Q:Bool->Z7->Prop}(h:Q b S):kT Q (.bl b) S:=⟨b,rfl,h⟩
def zzg {u:DT}{Q:Bool->Z7->Prop}{c:Bool}(h:if c=true then u ρ S Q else Q false S):xK u ρ Q c S:=h
def ji {u:DT}{Q:Bool->Z7->Prop}{c:Bool}(h:if c=true then Q true S else u ρ S Q):kOr u ρ Q c S:=h
def zyI {Q:Bool->Z7->Prop}{c:Bool}(h:Q (!c) S):nY Q c S:=h
def Ĭ {r:D->Option Int->Option Int->Z7->DK->Prop}{l o:Option Int}(h:r x l o S Q):Dd r x l Q o S:=h
def Ė {r:D->Option Int->Option Int->Z7->DK->Prop}{l:Option Int}{hi:Option DE}(h:TQ hi ρ S (Dd r x l Q)):Di r x hi ρ Q l S:=h
def zyF {r:D->Option Int->Option Int->Z7->DK->Prop}{lo hi:Option DE}(h:TQ lo ρ S (Di r x hi ρ Q)):vZ r lo hi ρ Q x S:=h
end
section
variable {nx:Z1->Z7->Prop}{rt:DK}{bk ct:Z1->Z7->Prop}{ρ:Z1}{S:Z7}
def Cg {t u:DS}(h:t ⟨u ⟨nx,rt,bk,ct⟩,rt,bk,ct⟩ ρ S):zf t u ⟨nx,rt,bk,ct⟩ ρ S:=h
def xu {t:DS}(J:Z1->Z7->Prop)(h:nP J fun N=>t ⟨N,rt,bk,ct⟩ ρ S)(hJ:∀ ρ S,J ρ S->nx ρ S):sJ t ⟨nx,rt,bk,ct⟩ ρ S:=⟨J,hJ,h J fun _ _ h=>h⟩
def zu9 (h:nx ρ S):zH ⟨nx,rt,bk,ct⟩ ρ S:=h
def vh {t:DE}(h:t ρ S rt):zB t ⟨nx,rt,bk,ct⟩ ρ S:=h
def jP {t:DE}(h:t ρ S (vK nx ρ)):Y4 t ⟨nx,rt,bk,ct⟩ ρ S:=h
def sy {t:DE}{g:DG}(h:t ρ S (wR g ρ nx)):zq t g ⟨nx,rt,bk,ct⟩ ρ S:=h
def zzi {c:DT}{t u:DS}(h:c ρ S (vX t u ⟨nx,rt,bk,ct⟩ ρ)):ZK c t u ⟨nx,rt,bk,ct⟩ ρ S:=h
def ztU {c f:Str}{to tv:DE}(h:tv ρ S fun y S1=>to ρ S1 fun x S2=>∃ n fs,x=.ref n/\S2[n]?=some (.ins c fs)/\fs.length<100/\nx ρ (S2.set n (.ins c (putD f y fs)))):Wf c f to tv ⟨nx,rt,bk,ct⟩ ρ S:=h
def Ϯ {i:Nat}{t:DE}{a:Int}(e:ρ[i]?=some (some (.int a)))(h:t ρ S fun y S1=>∃ b,y=.int b/\nx (ρ.set i (some (.int (a+b)))) S1):Lr i t ⟨nx,rt,bk,ct⟩ ρ S:=⟨a,e,h⟩
def aG {wi:DI}{g:DG}{t:DS}(h:wi ρ S (FN nx rt g t ρ)):Yr wi g t ⟨nx,rt,bk,ct⟩ ρ S:=h
def RN {c:DT}{t:DS}(W:Nat->Z1->Z7->Prop)(m:Nat)(h0:W m ρ S)(h:∀ m ρ S,W m ρ S->c ρ S fun b S1=>if b=true then sY W m t rt nx ρ S1 else nx ρ S1):Vp c t ⟨nx,rt,bk,ct⟩ ρ S:=⟨W,⟨m,h0⟩,h⟩
def oR {t:DS}{W:Nat->Z1->Z7->Prop}{m:Nat}(h:t ⟨fun ρ' S'=>∃ m',m'<m/\W m' ρ' S',rt,nx,fun ρ' S'=>∃ m',m'<m/\W m' ρ' S'⟩ ρ S):sY W m t rt nx ρ S:=⟨_,fun _ _ z=>z,h⟩
def Ň {i:Nat}{d:D}{Q:Z1->Z7->Prop}(h:Q (ρ.set i (some d)) S):zT i d ρ S Q:=h
def ztD {Q:Z1->Z7->Prop}(h:Q ρ S):YM [] ρ S Q:=⟨rfl,h⟩
def zqY {t:DG}{u:Vh}{d:D}{r:List D}{Q:Z1->Z7->Prop}(h:t d ρ S (nA u r Q)):zF t u (d::r) ρ S Q:=⟨d,r,rfl,h⟩
def zuk {n:Nat}{t:Vh}{xs:List D}{Q:Z1->Z7->Prop}(e:xs.length=n)(h:t xs ρ S Q):YH n t (.tup xs) ρ S Q:=⟨xs,rfl,e,h⟩
def zvu {to ti:DE}{d:D}{Q:Z1->Z7->Prop}(h:to ρ S (vJ ti d ρ Q)):Qi to ti d ρ S Q:=h
def QJ {i:Nat}{d:D}{Q:DK}(h:ρ[i]?=some (some d))(q:Q d S):XM i ρ S Q:=⟨d,h,q⟩
def r_c {Q:DK}(q:Q d S):dC d ρ S Q:=q
def Ko {r:Zk}{ta tb:DE}{Q:DK}(h:ta ρ S (u9 r tb ρ Q)):Z6 r ta tb ρ S Q:=h
def bG {r:D->Z7->DK->Prop}{ta:DE}{Q:DK}(h:ta ρ S (wN r Q)):V9 r ta ρ S Q:=h
def jw {Q:List D->Z7->Prop}(h:Q [] S):zm ρ S Q:=h
def DX {ta:DE}{tr:DA}{Q:List D->Z7->Prop}(h:ta ρ S (uF tr ρ Q)):zc ta tr ρ S Q:=h
def uU {t:DA}{Q:DK}(h:t ρ S (xX Q)):dTup t ρ S Q:=h
def ν {t:DA}{Q:DK}(h:t ρ S (pU Q)):Yd t ρ S Q:=h
def gw {xs:List D}{P:Prop}(h:Nat.ble xs.length big=true)(q:P):xs.length<=big/\P:=⟨qH h,q⟩
def jo {f:ZX}{t:DA}{Q:DK}(h:t ρ S (GC f Q)):dCall f t ρ S Q:=h
def r_b {r:DB}{t:DA}{Q:DK}(h:t ρ S (GC r Q)):dB r t ρ S Q:=h
def j7 {r:DM}{ta:DE}{t:DA}{Q:DK}(h:ta ρ S (kM r t ρ Q)):dM r ta t ρ S Q:=h
def Hx {n:Nat}{ys:List D}{P:Prop}(h:S[n]?=some (.lst ys))(q:P):(∃ m ys,D.ref n=.ref m/\S[m]?=some (.lst ys))/\P:=⟨⟨n,ys,rfl,h⟩,q⟩
def Č {t:DE}{Q:Bool->Z7->Prop}(h:t ρ S (kT Q)):dT t ρ S Q:=h
def dG {P:Bool->Prop}(h:P c):∃ b,D.bl c=D.bl b/\P b:=⟨c,rfl,h⟩
def zwo {P:Int->Prop}(h:P c):∃ b,D.int c=D.int b/\P b:=⟨c,rfl,h⟩
def gG {t u:DT}{Q:Bool->Z7->Prop}(h:t ρ S (xK u ρ Q)):Yc t u ρ S Q:=h
def zzh {t u:DT}{Q:Bool->Z7->Prop}(h:t ρ S (kOr u ρ Q)):Wo t u ρ S Q:=h
def ű {t:DT}{Q:Bool->Z7->Prop}(h:t ρ S (nY Q)):W7 t ρ S Q:=h
def zs8 {t u:DE}{Q:DK}(h:t ρ S fun x S1=>∃ c,x=.bl c/\if c=true then u ρ S1 Q else Q (.bl false) S1):QX t u ρ S Q:=h
def jA {t u:DE}{Q:DK}(h:t ρ S fun x S1=>∃ c,x=.bl c/\if c=true then Q (.bl true) S1 else u ρ S1 Q):J5 t u ρ S Q:=h
def zuT {t:DE}{Q:DK}(h:t ρ S fun x S1=>∃ c,x=.bl c/\Q (.bl (!c)) S1):QZ t ρ S Q:=h
def zqj {r r':Zk}{ta tb tc:DE}{Q:DK}(h:ta ρ S fun x S1=>tb ρ S1 fun y S2=>r x y S2 fun z S3=>∃ c,z=.bl c/\if c=true then tc ρ S3 fun w S4=>r' y w S4 Q else Q (.bl false) S3):PN r r' ta tb tc ρ S Q:=h
def zwt {f:Str}{ta:DE}{Q:DK}(h:ta ρ S fun x S1=>∃ n c fs d,x=.ref n/\S1[n]?=some (.ins c fs)/\fs.lookup f=some d/\Q d S1):X7 f ta ρ S Q:=h
def jJ {r:D->Option Int->Option Int->Z7->DK->Prop}{ta:DE}{lo hi:Option DE}{Q:DK}(h:ta ρ S (vZ r lo hi ρ Q)):Wt r ta lo hi ρ S Q:=h
def eU {Q:Option Int->Z7->Prop}(h:Q none S):TQ none ρ S Q:=h
def cG {t:DE}{Q:Option Int->Z7->Prop}(h:t ρ S fun x S1=>∃ i,x=.int i/\Q (some i) S1):TQ (some t) ρ S Q:=h
def Ă {Q:Bool->Z7->Prop}(h:Q true S):Yj ρ S Q:=h
end
section
variable {S:Z7}{Q:DK}
def ć {i j:Int}(q:Q (.int (i+j)) S):Zx (.int i) (.int j) S Q:=.inl ⟨i,j,rfl,rfl,q⟩
def zvA {xs ys:List D}(h:xs.length+ys.length<=big)(q:Q (.tup (xs++ys)) S):Zx (.tup xs) (.tup ys) S Q:=.inr (.inl ⟨xs,ys,rfl,rfl,h,q⟩)
def FT (hx:Lst S x xs)(hy:Lst S y ys)(h:xs.length+ys.length<=big)(q:New Q S (xs++ys)):Zx x y S Q:=.inr (.inr (.inl ⟨xs,ys,hx,hy,h,q⟩))
def dh {i j:Str}(h:i.length+j.length<=big)(q:Q (.str (i++j)) S):Zx (.str i) (.str j) S Q:=.inr (.inr (.inr ⟨i,j,rfl,rfl,h,q⟩))
def zwx {i j:Int}(q:Q (.int (i-j)) S):Zf (.int i) (.int j) S Q:=⟨i,j,rfl,rfl,q⟩
def zv3 (c:YT i j)(q:Q (.int (i*j)) S):YX (.int i) (.int j) S Q:=.inl ⟨i,j,rfl,rfl,c,q⟩
def ñ {c:Nat}{z:Str}(q:Q (.bl (decide (c∈z.cps.toList))) S):Vo (.str ⟨#[c]⟩) (.str z) S Q:=.inr ⟨c,z,rfl,rfl,q⟩
def Υ {i j:Int}(c:0<j/\My.Bd 8000 j)(q:Q (.int (i/j)) S):oDiv (.int i) (.int j) S Q:=⟨i,j,rfl,rfl,⟨by lia,c.2⟩,by show Q (.int (i.fdiv j)) S;rw[Int.fdiv_eq_ediv_of_nonneg i (by lia)];exact q⟩
def zwm {i j:Int}(c:0<j)(q:Q (.int (i%j)) S):oMod (.int i) (.int j) S Q:=⟨i,j,rfl,rfl,(by show j≠0;lia),by show Q (.int (i.fmod j)) S;rw[Int.fmod_eq_emod_of_nonneg i (by lia)];exact q⟩
def nR (c:uR i j)(q:Q (.int (i.fdiv j)) S):oDiv (.int i) (.int j) S Q:=⟨i,j,rfl,rfl,c,q⟩
def zuq {i j:Int}(c:j≠0)(q:Q (.int (i.fmod j)) S):oMod (.int i) (.int j) S Q:=⟨i,j,rfl,rfl,c,q⟩
def Ϭ {i:Int}(q:Q (.int (-i)) S):V3 (.int i) S Q:=⟨i,rfl,q⟩
def cJ {i j:Int}(q:Q (.bl (decide (i<j))) S):oLt (.int i) (.int j) S Q:=⟨i,j,rfl,rfl,q⟩
def jl {i j:Int}(q:Q (.bl (decide (i<=j))) S):oLe (.int i) (.int j) S Q:=⟨i,j,rfl,rfl,q⟩
def Ś {i j:Int}(q:Q (.bl (decide (j<i))) S):X5 (.int i) (.int j) S Q:=⟨i,j,rfl,rfl,q⟩
def zyX {i j:Int}(q:Q (.bl (decide (j<=i))) S):Kw (.int i) (.int j) S Q:=⟨i,j,rfl,rfl,q⟩
def zwL {i j:Int}(q:Q (.bl (decide (i=j))) S):oEq (.int i) (.int j) S Q:=⟨_,.inl ⟨rfl,rfl,rfl⟩,q⟩
def bV {i j:Int}(q:Q (.bl (!decide (i=j))) S):Yg (.int i) (.int j) S Q:=⟨_,.inl ⟨rfl,rfl,rfl⟩,q⟩
def iG {x:D}(q:Q (.bl (YW x)) S):Ru x .non S Q:=.inl ⟨rfl,q⟩
def ao (q:Q (.bl false) S):Wn .non .non S Q:=.inl ⟨rfl,q⟩
def gJ {i:Int}(q:Q (.bl true) S):Wn (.int i) .non S Q:=.inl ⟨rfl,q⟩
def zs5 {xs:List D}(q:Q (.bl true) S):Wn (.tup xs) .non S Q:=.inl ⟨rfl,q⟩
def cU {x:D}(q:Q (.bl (!YW x)) S):Wn x .non S Q:=.inl ⟨rfl,q⟩
def Ĕ {xs:List D}{i:Int}{d:D}(e:Zm xs i=some d)(q:Q d S):ZR (.tup xs) (.int i) S Q:=.inl ⟨i,xs,d,rfl,.inl rfl,e,q⟩
def zxs {i:Int}{d:D}(h:Lst S x xs)(e:Zm xs i=some d)(q:Q d S):ZR x (.int i) S Q:=.inl ⟨i,xs,d,rfl,.inr h,e,q⟩
def aX {z:Str}{i:Int}{c:Nat}(hz:z.length<=big)(e:atS z i=some c)(q:Q (.str ⟨#[c]⟩) S):ZR (.str z) (.int i) S Q:=.inr ⟨z,i,c,rfl,rfl,hz,e,q⟩
def ztg {lo hi:Option Int}(h:Lst S x xs)(q:New Q S (cutD xs lo hi)):Wz x lo hi S Q:=.inr (.inl ⟨xs,h,q⟩)
def zvI {xs:List D}(q:Q (.int xs.length) S):Zo [.tup xs] S Q:=.inl ⟨_,xs,rfl,.inl rfl,q⟩
def zsS (h:Lst S x xs)(q:Q (.int xs.length) S):Zo [x] S Q:=.inl ⟨_,xs,rfl,.inr h,q⟩
def uK {z:Str}(hz:z.length<=big)(q:Q (.int z.length) S):Zo [.str z] S Q:=.inr ⟨z,rfl,hz,q⟩
def cO {i:Int}(q:Q (.int (i.natAbs:Int)) S):Jo [.int i] S Q:=⟨i,rfl,q⟩
def zvz {i j:Int}(q:Q (.int (max i j)) S):Qj [.int i,.int j] S Q:=⟨i,j,rfl,q⟩
def ztJ {i j:Int}(q:Q (.int (min i j)) S):QV [.int i,.int j] S Q:=⟨i,j,rfl,q⟩
def zuM {ns:List Int}(h:Lst S x (ns.map D.int))(h0:0<ns.length)(q:∀ m:Int,m∈ns->(∀ a∈ns,a<=m)->Q (.int m) S):Jp [x] S Q:=⟨x,ns,rfl,h,h0,q⟩
def nU {ns:List Int}(h:Lst S x (ns.map D.int))(h0:0<ns.length)(q:∀ m:Int,m∈ns->(∀ a∈ns,m<=a)->Q (.int m) S):LQ [x] S Q:=⟨x,ns,rfl,h,h0,q⟩
def Kz {bs:List Bool}(h:Lst S x (bs.map D.bl))(q:Q (.bl (bs.all id)) S):WK [x] S Q:=⟨x,bs,rfl,h,q⟩
def zsm (h:Lst S x xs)(q:New Q S xs):Qt [x] S Q:=⟨_,xs,rfl,.inr h,q⟩
def JF {n:Nat}{xs:List D}{y:D}(h:S[n]?=some (.lst xs))(hl:xs.length<big)(q:Put (Q .non) S n (.lst (xs++[y]))):V7 (.ref n) [y] S Q:=⟨n,xs,y,rfl,rfl,h,hl,q⟩
def aA {n m:Nat}{xs ys:List D}(h:S[n]?=some (.lst xs))(hy:S[m]?=some (.lst ys))(hn:m≠n)(hl:xs.length+ys.length<=big)(q:Put (Q .non) S n (.lst (xs++ys))):Ii (.ref n) [.ref m] S Q:=.inl ⟨n,xs,m,ys,rfl,rfl,h,hy,hn,hl,q⟩
def zvJ {n:Nat}{xs:List D}{y:D}(h:S[n]?=some (.lst (y::xs)))(q:Put (Q y) S n (.lst xs)):Js (.ref n) [.int 0] S Q:=⟨n,xs,y,rfl,rfl,h,q⟩
def dz {n:Nat}{xs:List D}{k:Int}{j:Nat}{d:D}{ρ:Z1}{Q:Z1->Z7->Prop}(h:S[n]?=some (.lst xs))(e:Yh xs.length k=some j)(q:Put (Q ρ) S n (.lst (xs.set j d))):GJ d ρ Q (.ref n) (.int k) S:=⟨n,xs,k,j,rfl,rfl,h,e,q⟩
end
section
variable {ρ:Z1}{S:Z7}{R:TX->Z7->Prop}
def zuF {t:DE}(h:t ρ S fun x S1=>Mg x S1 R):Zi t ρ S R:=h
def cF {xs:List D}(q:R ⟨xs,fun _=>True⟩ S):Mg (.tup xs) S R:=.inl ⟨xs,rfl,q⟩
def zvQ (h:Lst S x xs)(q:R ⟨xs,fun S=>Lst S x xs⟩ S):Mg x S R:=.inr (.inl ⟨xs,h,q⟩)
def zxm {z:Str}(q:R ⟨signs z,fun _=>True⟩ S):Mg (.str z) S R:=.inr (.inr ⟨z,rfl,q⟩)
def jK {t:DA}(h:t ρ S fun vs S1=>∃ j:Int,vs=[.int j]/\-(2 ^ 62)<=j/\j<2 ^ 62/\R ⟨upto 0 j.toNat,fun _=>True⟩ S1):RZ t ρ S R:=h
def zuU {t:DA}(h:t ρ S fun vs S1=>∃ i j:Int,vs=[.int i,.int j]/\R ⟨upto i (j-i).toNat,fun _=>True⟩ S1):K3 t ρ S R:=h
def zuA {t:DA}(h:t ρ S (El R)):VN t ρ S R:=h
def PK (h:Lst S x xs)(q:R ⟨U9 0 xs,fun S=>Lst S x xs⟩ S):El R [x] S:=⟨x,xs,rfl,h,q⟩
def xV {Q:DK}{zs:List Str}(hx:Lst S x (zs.map D.str))(hl:zs.length<=4000)(q:Q (.int (K8 zs)) S):Ol [x] S Q:=⟨x,zs,rfl,hx,hl,q⟩
def ζ {t:DA}(h:t ρ S (CZ R)):Jd t ρ S R:=h
def Ž (hx:Lst S x xs)(hy:Lst S y ys)(q:R ⟨Yk xs ys,fun S=>Lst S x xs/\Lst S y ys⟩ S):CZ R [x,y] S:=.inl ⟨x,y,xs,ys,rfl,hx,hy,q⟩
def Ϧ {own:Nat}{fv:List Nat}{wi:DI}{g:DG}{tc:DT}{te:DE}{Q:DK}(h:wi ρ S (Ej own fv g tc te ρ Q)):Zh own fv wi g tc te ρ S Q:=h
end
def Cd {A B:Prop}(h:B):if false=true then A else B:=by rw[if_neg qr];exact h
def Fb {A B:Prop}(h:A):if true=true then A else B:=by rw[if_pos rfl];exact h
def Zu {c A B:Prop}[Decidable c](h1:c->A)(h2:¬ c->B):if decide c=true then A else B:=by
 by_cases h:c
 ·rw[decide_eq_true h,if_pos rfl];exact h1 h
 ·rw[decide_eq_false h,if_neg qr];exact h2 h
def Xf {c A B:Prop}[Decidable c](h1:¬ c->A)(h2:c->B):if(!decide c)=true then A else B:=by
 by_cases h:c
 ·rw[decide_eq_true h];exact h2 h
 ·rw[decide_eq_false h];exact h1 h
def zQ (S T:Z7)(k:Nat):(S++T)[S.length+k]?=T[k]?:=by rw[qe (Ly _ _),Kd]
def zr9 (S T:Z7):(S++T)[S.length]?=T[0]?:=zQ S T 0
def zO {S T:Z7}{c:Cell}:(S++c::T)[S.length]?=some c:=(zQ S (c::T) 0).trans rfl
def Ov {S T:Z7}{c:Cell}:(S++(T++[c]))[S.length+T.length]?=some c:=by rw[zQ,qe (qh _),Yp];rfl
def zqB (S T:Z7)(k:Nat)(c:Cell):(S++T).set (S.length+k) c=S++T.set k c:=by rw[Pq _ _ (Ly _ _),Kd]
def Te (S T:Z7)(a c:Cell):(S++a::T).set S.length c=S++c::T:=zqB S (a::T) 0 c
def zA {S T:Z7}{n:Nat}{c:Cell}(h:S[n]?=some c):(S++T)[n]?=some c:=by
 have:n<S.length:=by
  rcases qT n S.length with g|g
  ·exact g
  ·rw[qB g]at h;cases h
 rw[qg this];exact h
def Lst.old {T:Z7}(h:Lst S x xs):Lst (S++T) x xs:=h.imp id fun zq14=>by obtain⟨n,e,h⟩:=zq14;exact⟨n,e,zA h⟩
def Lst.at {S T:Z7}{k:Nat}{xs:List D}(h:T[k]?=some (.lst xs)):Lst (S++T) (.ref (S.length+k)) xs:=.inr ⟨_,rfl,by rw[zQ];exact h⟩
def Lst.at0 {S T:Z7}{xs:List D}:Lst (S++.lst xs::T) (.ref S.length) xs:=.inr ⟨_,rfl,by rw[zr9];rfl⟩
def Lst.new {S T:Z7}{xs:List D}:Lst (S++(T++[.lst xs])) (.ref (S.length+T.length)) xs:=.inr ⟨_,rfl,Ov⟩
theorem Lst.rl {S:Z7}{xs:List D}:Lst S (.rl xs) xs:=.inl rfl
def Lst.here {S:Z7}{n:Nat}{xs:List D}(h:S[n]?=some (.lst xs)):Lst S (.ref n) xs:=.inr ⟨n,rfl,h⟩
def Sx {T:Z7}{Q:DK}{d:D}(h:fl 20 d=true)(q:Q d S):Fin S Q d (S++T):=.inr ⟨S,Mp _ _,qh _,.inl h,fun _ _ e=>.inl e,q⟩
def fin_same {S:Z7}{Q:DK}(q:Q d S'):Fin S Q d S':=.inl q
section
variable {S:Z7}{Q:DK}
def zis {i:Int}(q:Q (.bl true) S):Sg [.int i,.ty "int"] S Q:=⟨_,_,true,rfl,by rfl,q⟩
def bA {i:Int}(q:Q (.bl false) S):Sg [.int i,.ty "bool"] S Q:=⟨_,_,false,rfl,by rfl,q⟩
def zgK {xs:List D}(q:Q (.bl true) S):Sg [.tup xs,.ty "tuple"] S Q:=⟨_,_,true,rfl,by rfl,q⟩
end
def gY {A B:Prop}(h:B):if(!true)=true then A else B:=Cd h
def zxa {A B:Prop}(h:A):if(!false)=true then A else B:=Fb h
def K6 {Q:DK}{bs:List Bool}{b:Bool}(h:Lst S x (bs.map D.bl))(e:bs.all id=b)(q:Q (.bl b) S):WK [x] S Q:=Kz h (by rw[e];exact q)
def Ss (S:Z7)(items:List D)(p:D->Bool)(f:D->D)(i:Nat)(ys:List D)(S':Z7):Prop:=S'=S/\ys=((items.take i).filter p).map f
def zZ {α:Type}{xs:List α}{i:Nat}{x:α}(h:xs[i]?=some x):xs.take (i+1)=xs.take i++[x]:=by rw[List.take_succ,h];rfl
def Xi {items:List D}{i:Nat}{d y:D}(hd:items[i]?=some d)(hw:Ss S items p f i ys S)(hp:p d=true)(hy:y=f d):Ss S items p f (i+1) (ys++[y]) S :=⟨rfl,by rw[zZ hd,Rr,qA,<- hw.2,Nq hp,hy];rfl⟩
def T9 {items:List D}{i:Nat}{d:D}(hd:items[i]?=some d)(hw:Ss S items p f i ys S)(hp:p d=false):Ss S items p f (i+1) ys S :=⟨rfl,by rw[zZ hd,Rr,qA,<- hw.2,Ng (by rw[hp];exact qr)];simp⟩
def Xp {own:Nat}{fv:List Nat}{xs:List D}{ok:Z7->Prop}{g:DG}{tc:DT}{te:DE}{ρ:Z1}{S:Z7}(p:D->Bool)(f:D->D)(hok:ok S)(hbig:xs.length<=big)(step:∀ i d ys,xs[i]?=some d->Ss S xs p f i ys S->g d (QK own fv ρ) S fun ρ2 S2=>tc ρ2 S2 fun b S3=>if b=true then te ρ2 S3 fun y S4=>Ss S xs p f (i+1) (ys++[y]) S4 else Ss S xs p f (i+1) ys S3)(q:New Q S ((xs.filter p).map f)):Ej own fv g tc te ρ Q ⟨xs,ok⟩ S:=by
 refine⟨hbig,Ss S xs p f,⟨rfl,by simp⟩,fun i ys S' h=>by rw[h.1];exact hok,fun i d ys S' hd h=>?_,fun ys S' h=>?_⟩
 ·obtain⟨rfl,_⟩:=id h;exact step i d ys hd h
 ·obtain⟨rfl,rfl⟩:=h;rw[Wa];exact q
def filter_true (xs:List α):xs.filter (fun _=>true)=xs:=List.filter_eq_self.mpr fun _ _=>rfl
def SQ {ds:List D}{i:Nat}{d:D}(h:ds[i]?=some d):Zm ds (i:Int)=some d:=by
 have hl:i<ds.length:=by
  rcases qT i ds.length with g|g
  ·exact g
  ·rw[qB g]at h;cases h
 unfold Zm Yh;rw[if_pos (by lia),if_pos (by lia)];simpa using h
def Oa {lo:Int}{n i:Nat}{d:D}(h:(upto lo n)[i]?=some d):i<n/\d=.int (lo+i):=by
 unfold upto at h;rw[qi]at h;by_cases hi:i<n
 ·rw[List.getElem?_range hi]at h;exact⟨hi,by simpa using h.symm⟩
 ·rw[qB (by simpa using hi)]at h;cases h
def Ml (lo:Int)(n:Nat):(upto lo n).length=n:=by unfold upto;simp
def pJ {zs:List Int}{k:Int}(h0:0<=k)(h:k<zs.length):∃ z,z∈zs/\Zm (zs.map D.int) k=some (.int z):=by refine⟨zs[k.toNat]'(by lia),List.getElem_mem _,?_⟩;unfold Zm Yh;rw[qa,if_pos h0,if_pos h];simp only[Option.bind_some];rw[qi,qb (by lia)];rfl
def zu8 {zs:List Int}{k:Int}(h0:0<=k)(h:k<zs.length):Yh (zs.map D.int).length k=some k.toNat:=by unfold Yh;rw[qa,if_pos h0,if_pos h]
def Τ {zs:List Int}{i:Nat}{v z:Int}(h:z∈zs.set i v):z∈zs\/z=v:=by
 rcases Eu h with h|h
 ·exact .inl h
 ·exact .inr h
def Pz {zs:List Int}{i:Nat}{d:D}(h:(zs.map D.int)[i]?=some d):∃ z,zs[i]?=some z/\d=.int z:=by
 rw[qi]at h;cases e:zs[i]? with
 |none=>rw[e]at h;cases h
 |some p=>rw[e]at h;cases h;exact⟨p,rfl,rfl⟩
def Cr {cs:List (Int×Int)}{i:Nat}{d:D}(h:(cs.map p2)[i]?=some d):∃ c,cs[i]?=some c/\d=p2 c:=by
 rw[qi]at h;cases e:cs[i]? with
 |none=>rw[e]at h;cases h
 |some p=>rw[e]at h;cases h;exact⟨p,rfl,rfl⟩
def zE {α:Type}{xs:List α}{i:Nat}{x:α}(h:xs[i]?=some x):i<xs.length:=by
 rcases qT i xs.length with g|g
 ·exact g
 ·rw[qB g]at h;cases h
def Vc:Option Int->D
 |none=>.non
 |some v=>.int v
theorem R6:∀ {xs:List D} {k i:Nat} {d:D},(U9 k xs)[i]?=some d->∃ x,xs[i]?=some x/\d=.tup [.int ((k+i:Nat):Int),x]
 |[],k,i,d,h=>by simp[U9]at h
 |x::xs,k,0,d,h=>⟨x,rfl,by simpa [U9]using h.symm⟩
 |x::xs,k,i+1,d,h=>by obtain⟨y,e1,e2⟩:=R6 (xs:=xs) (k:=k+1) (i:=i) (d:=d) (by simpa [U9]using h);exact⟨y,by simpa using e1,by rw[e2,show k+1+i=k+(i+1) by lia]⟩
theorem UG:∀ (k:Nat) (xs:List D),(U9 k xs).length=xs.length
  |_,[]=>rfl
  |k,x::xs=>congrArg (· + 1) (UG (k+1) xs)
theorem Ia:∀ {xs ys:List D} {i:Nat} {d:D},(Yk xs ys)[i]?=some d->∃ x y,xs[i]?=some x/\ys[i]?=some y/\d=.tup [x,y]
 |[],ys,i,d,h=>by simp[Yk]at h
 |x::xs,[],i,d,h=>by simp[Yk]at h
 |x::xs,y::ys,0,d,h=>⟨x,y,rfl,rfl,by simpa [Yk]using h.symm⟩
 |x::xs,y::ys,i+1,d,h=>by obtain⟨a,b,e1,e2,e3⟩:=Ia (xs:=xs) (ys:=ys) (i:=i) (d:=d) (by simpa [Yk]using h);exact⟨a,b,by simpa using e1,by simpa using e2,e3⟩
theorem Rj:∀ (xs ys:List D),(Yk xs ys).length=min xs.length ys.length
 |[],ys=>by simp[Yk]
 |x::xs,[]=>by simp[Yk]
 |x::xs,y::ys=>by show(Yk xs ys).length+1=min (xs.length+1) (ys.length+1);rw[Rj xs ys];lia
def spT (T:Z7):ZX:=fun ds S Q=>∃ ns:List Int,ds=[.rl (ns.map D.int)]/\(S=T/\∀ n∈ns,Hg n)/\ns.length<=63/\∀ S',Q (.bl true) S'
abbrev O8:ZX:=spT []
def Lf {α β:Type}(f:α->β)(xs:List α)(lo hi:Option Int):cutD (xs.map f) lo hi=(cutD xs lo hi).map f:=by unfold cutD;rw[qa,List.map_take,List.map_drop]
def zqJ (xs:List α)(lo hi:Option Int):(cutD xs lo hi).length<=XJ xs.length xs.length hi-XJ xs.length 0 lo:=by unfold cutD;rw[Vb];lia
def ou (f:Int->D):D->D
 |.int h=>f h
 |d=>d
def zqF (f:Int->D)(hs:List Int):(hs.map D.int).map (ou f)=hs.map f:=by rw[XF];rfl
section
variable {nx:Z1->Z7->Prop}{rt:DK}{bk ct:Z1->Z7->Prop}{ρ:Z1}{S:Z7}
def ϳ {f:Yo}{ex:XR}{t:DA}{Q:DK}(h:t ρ S fun xs S1=>f xs S1 Q (ex ρ)):Ym f ex t ρ S Q:=h
def zrL {ex:XR}{c:Str}(h:ex ρ c S):Tt ex c ⟨nx,rt,bk,ct⟩ ρ S:=h
end
def iY {Q:DK}{x y:Str}{b:Bool}(fx:fl 20 (.str x)=true)(fy:fl 20 (.str y)=true)(e:(x==y)=b)(q:Q (.bl b) S):oEq (.str x) (.str y) S Q:=⟨_,.inl ⟨fx,fy,rfl⟩,by show Q (.bl (x==y)) S;rw[e];exact q⟩
def kh {S:Z7}{Q:DK}{x y:Str}{b:Bool}(fx:fl 20 (.str x)=true)(fy:fl 20 (.str y)=true)(e:(x==y)=b)(q:Q (.bl (!b)) S):Yg (.str x) (.str y) S Q:=⟨_,.inl ⟨fx,fy,rfl⟩,by show Q (.bl (!(x==y))) S;rw[e];exact q⟩
section
variable {nx:Z1->Z7->Prop}{rt:DK}{bk ct:Z1->Z7->Prop}{ρ:Z1}{S:Z7}{Q:DK}{td ti tz tv:DE}
def ϛ (h:Q (.ref S.length) (S++[.dk []])):Mw ρ S Q:=h
def ő (h:Q (.ref S.length) (S++[.dn [] 0])):Nr ρ S Q:=h
def dZ {tk:DE}(h:tk ρ (S++[.dt []]) fun x S1=>tv ρ S1 fun y S2=>∃ ks,x=.tup (ks.map kD)/\S2[S.length]?=some (.dt [])/\Q (.ref S.length) (S2.set S.length (.dt [(ks,y)]))):MN tk tv ρ S Q:=h
def ç {R:TX->Z7->Prop}(h:td ρ S fun x S1=>∃ n Z8 e,x=.ref n/\S1[n]?=some (.dn Z8 e)/\R ⟨Z8.map fun kv=>.tup [.tup (kv.1.map kN),kv.2],fun S=>S[n]?=some (.dn Z8 e)⟩ S1):Jf td ρ S R:=h
def lY (h:td ρ S fun x S1=>ti ρ S1 fun y S2=>∃ d,Zc S2 x y (some d)/\Q d S2):Ur td ti ρ S Q:=h
def Ľ (h:ti ρ S fun y S1=>td ρ S1 fun x S2=>∃ o,Zc S2 x y o/\Q (.bl o.isSome) S2):Qn ti td ρ S Q:=h
def lU (h:ti ρ S fun y S1=>td ρ S1 fun x S2=>∃ o,Zc S2 x y o/\Q (.bl (!o.isSome)) S2):Ow ti td ρ S Q:=h
def zsd (h:td ρ S fun x S1=>HS S1 x/\ti ρ S1 fun y S2=>tz ρ S2 fun z S3=>∃ o,Zc S3 x y o/\Q (o.getD z) S3):M8 td ti tz ρ S Q:=h
def mH (h:tv ρ S fun v S1=>td ρ S1 fun x S2=>ti ρ S2 fun y S3=>RT S3 x y v (nx ρ)):Mh td ti tv ⟨nx,rt,bk,ct⟩ ρ S:=h
def Zc.k {n:Nat}{Z8:List (Str×D)}{z:Str}{o:Option D}(h:S[n]?=some (.dk Z8))(e:dval Z8 z=o):Zc S (.ref n) (.str z) o:=.inl ⟨n,Z8,z,rfl,rfl,h,e.symm⟩
def Zc.t {n:Nat}{Z8:List (List (Sum Int Str)×D)}{ks:List (Sum Int Str)}{o:Option D}(h:S[n]?=some (.dt Z8))(e:dval Z8 ks=o):Zc S (.ref n) (.tup (ks.map kD)) o:=.inr (.inl ⟨n,Z8,ks,rfl,rfl,h,e.symm⟩)
theorem Zc.n {n:Nat}{Z8:List (List (List (Sum Int Str))×D)}{ks:List (List (Sum Int Str))}{o:Option D}{ep:Nat}(h:S[n]?=some (.dn Z8 ep))(e:dval Z8 ks=o):Zc S (.ref n) (.tup (ks.map kN)) o:=.inr (.inr ⟨n,Z8,ep,ks,rfl,rfl,h,e.symm⟩)
def RT.k {n:Nat}{Z8:List (Str×D)}{z:Str}{v:D}(h:S[n]?=some (.dk Z8))(hl:Z8.length<big)(q:Put P S n (.dk (dput Z8 z v))):RT S (.ref n) (.str z) v P:=.inl ⟨n,Z8,z,rfl,rfl,h,hl,q⟩
def RT.t {n:Nat}{Z8:List (List (Sum Int Str)×D)}{ks:List (Sum Int Str)}{v:D}(h:S[n]?=some (.dt Z8))(hl:Z8.length<big)(q:Put P S n (.dt (dput Z8 ks v))):RT S (.ref n) (.tup (ks.map kD)) v P:=.inr ⟨n,Z8,ks,rfl,rfl,h,hl,q⟩
theorem O5.n {n:Nat}{Z8:List (List (List (Sum Int Str))×D)}{ks:List (List (Sum Int Str))}{v:D}{P:Z7->Prop}{e:Nat}(h:S[n]?=some (.dn Z8 e))(hl:Z8.length<big)(q:∀ e',Put P S n (.dn (dput Z8 ks v) e')):O5 S (.ref n) (.tup (ks.map kN)) v P:=⟨n,Z8,e,ks,rfl,rfl,h,hl,q⟩
def Í (h:tv ρ S fun v S1=>td ρ S1 fun x S2=>ti ρ S2 fun y S3=>O5 S3 x y v (nx ρ)):R5 td ti tv ⟨nx,rt,bk,ct⟩ ρ S:=h
end
section
variable {κ:Type}[DecidableEq κ]
def uX {k:κ}:dval ([]:List (κ×D)) k=none:=rfl
def Wi {p:κ×D}{Z8:List (κ×D)}{k:κ}:dval (p::Z8) k=if p.1=k then some p.2 else dval Z8 k:=by
 unfold dval;rw[List.find?_cons];by_cases h:p.1=k
 ·rw[if_pos h,decide_eq_true h];rfl
 ·rw[if_neg h,decide_eq_false h]
def Rq (Z8:List (κ×D))(k:κ):(Z8.any fun kv=>decide (kv.1=k))=(dval Z8 k).isSome:=by
 induction Z8 with
 |nil=>rfl
 |cons p Z8 ih =>
  rw[Lb,Wi,ih];by_cases h:p.1=k
  ·rw[if_pos h,decide_eq_true h];rfl
  ·rw[if_neg h,decide_eq_false h];rfl
def xr (Z8:List (κ×D))(k j:κ)(v:D):dval (Z8++[(k,v)]) j=(dval Z8 j).or (if k=j then some v else none):=by
 induction Z8 with
 |nil=>rw[List.nil_append,Wi,uX];simp
 |cons p Z8 ih =>
  rw[qbv,Wi,Wi,ih];by_cases h:p.1=j
  ·rw[if_pos h,if_pos h];rfl
  ·rw[if_neg h,if_neg h]
def zoP (Z8:List (κ×D))(k j:κ)(v:D):dval (dput Z8 k v) j=if k=j then some v else dval Z8 j:=by
  unfold dput;rw[Rq];cases e:dval Z8 k with
  |none =>
    rw[show(none:Option D).isSome=false from rfl,if_neg qr,xr];by_cases h:k=j
    . subst h;rw[e,if_pos rfl];rfl
    . rw[if_neg h,if_neg h];cases dval Z8 j<;>rfl
  |some w =>
    rw[show(some w).isSome=true from rfl,if_pos rfl]
    have:∀ Z8:List (κ×D),dval (Z8.map fun kv=>if kv.1=k then(kv.1,v)else kv) j=if k=j then(dval Z8 j).map fun _=>v else dval Z8 j:=fun Z8=>by
      induction Z8 with
      |nil=>simp[uX]
      |cons p Z8 ih =>
        rw[qP,Wi,Wi,ih];by_cases hp:p.1=k
        . rw[if_pos hp];by_cases h:k=j
          . rw[if_pos h,if_pos (hp.trans h),if_pos (hp.trans h)];simp[h]
          . have:¬ p.1=j:=fun z=>h (hp.symm.trans z)
            rw[if_neg this,if_neg this,if_neg h]
        . rw[if_neg hp];by_cases h:k=j
          . have:¬ p.1=j:=fun z=>hp (z.trans h.symm)
            rw[if_neg this,if_neg this]
          . rw[if_neg h,if_neg h]
    rw[this];by_cases h:k=j
    . subst h;rw[if_pos rfl,if_pos rfl,e];rfl
    . rw[if_neg h,if_neg h]
def gF (Z8:List (κ×D))(k:κ)(v:D):(dput Z8 k v).map (·.1)=if(dval Z8 k).isSome=true then Z8.map (·.1)else Z8.map (·.1)++[k]:=by
  unfold dput;rw[Rq];split
  . rw[XF];refine List.map_congr_left fun p _=>?_
    show(if p.1=k then(p.1,v)else p).1=p.1;split<;>rfl
  . rw[qA];rfl
end
def Jc (c:List Str)(z:Str):(TJ c z).length=if c.any (·==z)then c.length else c.length+1:=by unfold TJ;split<;>simp
def sV (c:List Str)(z y:Str):(TJ c z).any (·==y)=(c.any (·==y)||decide (y=z)):=by
  unfold TJ;by_cases h:c.any (·==z)=true
  . rw[if_pos h];by_cases e:y=z
    . subst e;rw[h];rfl
    . rw[decide_eq_false e,Bool.or_false]
  . rw[if_neg h,List.any_append];congr 1;by_cases e:y=z
    . subst e;simp
    . rw[decide_eq_false e];have:(z==y)=false:=beq_eq_false_iff_ne.mpr fun q=>e q.symm
      simp[this]
theorem JW (f:Nat->Str):∀ i,(Yl f i).length<=i
  |0=>qh _
  |i+1=>by have:=JW f i;show(TJ (Yl f i) (f i)).length<=i+1;rw[Jc];split<;>lia
theorem HB (f:Nat->Str)(y:Str):∀ i,((Yl f i).any (·==y)=true↔∃ j,j<i/\f j=y)
  |0=>⟨fun h=>(by simp[Yl]at h),fun⟨j,hj,_⟩=>(by lia)⟩
  |i+1=>by
    show((TJ (Yl f i) (f i)).any (·==y)=true)↔_;rw[sV,PL,HB f y i,decide_eq_true_eq];constructor
    . rintro(⟨j,hj,e⟩|e)
      . exact⟨j,by lia,e⟩
      . exact⟨i,by lia,e.symm⟩
    . rintro⟨j,hj,e⟩;rcases qT j i with h|h
      . exact .inl ⟨j,h,e⟩
      . have:j=i:=by lia
        subst this;exact .inr e.symm
theorem yF (f:Nat->Str):∀ i,(∀ a b,a<b->b<i->f a≠f b)->(Yl f i).length=i
 |0,_=>rfl
 |i+1,h=>by show(TJ (Yl f i) (f i)).length=i+1;rw[Jc,yF f i fun a b x y=>h a b x (by lia)];rw[if_neg];intro z;obtain⟨j,hj,e⟩:=(HB f (f i) i).mp z;exact h j i hj (by lia) e
theorem tY (f:Nat->Str){a b:Nat}(hab:a<b)(e:f a=f b):∀ i,b<i->(Yl f i).length<i
  |0,h=>by lia
  |i+1,h=>by
    show(TJ (Yl f i) (f i)).length<i+1;rw[Jc];rcases qT b i with g|g
    . have:=tY f hab e i g;split<;>lia
    . have eb:b=i:=by lia
      subst eb;rw[if_pos ((HB f (f b) b).mpr ⟨a,hab,e⟩)];have:=JW f b;lia
def Ak {zs:List Str}(h:zs.Nodup):K8 zs=zs.length:=yF _ _ fun a b hab hb=>by show zs.getD a Str.empty≠zs.getD b Str.empty;rw[qG,qG,qb hb,qb (show a<zs.length by lia)];exact Ut.mp h a b (by lia) hb hab
def zpn {zs:List Str}{a b:Nat}{z:Str}(hab:a<b)(ha:zs[a]?=some z)(hb:zs[b]?=some z):K8 zs<zs.length :=
 tY _ hab (by show zs.getD a Str.empty=zs.getD b Str.empty;rw[qG,qG,ha,hb]) _ (by
  rcases qT b zs.length with g|g
  ·exact g
  ·rw[qB g]at hb;cases hb)
end Dp
namespace Rm
structure Pc where
 lo:Int
 hi:Int
 to:Int
 st:Int
instance:DecidableEq Pc:=fun p q=>if h:p.lo=q.lo/\p.hi=q.hi/\p.to=q.to/\p.st=q.st then isTrue (by cases p;cases q;obtain⟨h1,h2,h3,h4⟩:=h;cases h1;cases h2;cases h3;cases h4;rfl)else isFalse (fun e=>h (by subst e;exact⟨rfl,rfl,rfl,rfl⟩))
def Pc.led (p:Pc)(h:Int):Int:=p.to+p.st*(h-p.lo)
def Pc.fin (p:Pc):Int:=p.led p.hi
def FZ (p:Pc)(h:Int):Prop:=p.lo<=h/\h<=p.hi
instance (p:Pc) (h:Int):Decidable (FZ p h):=by unfold FZ;infer_instance
def at':List Pc->Int->Option Int
 |[],_=>none
 |p::r,h=>if FZ p h then some (p.led h)else at' r h
end Rm
namespace Dp
open PySem Rm
open PySem Rm My
def ϸ {xs:List D}{x:D}:Yh (xs++[x]).length (-1)=some xs.length:=by
 have hl:((xs++[x]).length:Int)=xs.length+1:=by simp
 unfold Yh;rw[if_neg (by lia),if_pos (by lia)];congr 1;lia
def ĩ {xs:List D}{x:D}:Zm (xs++[x]) (-1)=some x:=by unfold Zm;rw[ϸ];simp
end Dp
namespace Rm
open My Dp
end Rm
namespace Dp
open PySem Rm My
def on2 (f:Int×Int->D):D->D
 |.tup [.int a,.int b]=>f (a,b)
 |d=>d
def ind (b:Bool):Int:=if b=true then 1 else 0
end Dp
namespace Rm
open My Dp
def Za (L R B T x1 z1 x2 z2:Int):List Int :=[(x2-x1)*(B-z1)-(z2-z1)*(L-x1),(x2-x1)*(T-z1)-(z2-z1)*(L-x1),(x2-x1)*(B-z1)-(z2-z1)*(R-x1),(x2-x1)*(T-z1)-(z2-z1)*(R-x1)]
def Wj (L R B T x1 z1 x2 z2:Int):Prop :=L<=(max x1 x2)/\(min x1 x2)<=R/\B<=(max z1 z2)/\(min z1 z2)<=T/\(∃ a∈Za L R B T x1 z1 x2 z2,0<=a)/\∃ a∈Za L R B T x1 z1 x2 z2,a<=0
def Q9 (lo hi st sp e1 e2 x1 x2:Int):Prop :=
 (sp=0/\lo<=st/\st<=hi/\e1=0/\e2=1/\x1=1/\x2=1)\/(sp=0/\(st<lo\/hi<st)/\e1=1/\e2=1/\x1=0/\x2=1) \/
 (0<sp/\e1=lo-st/\e2=sp/\x1=hi-st/\x2=sp)\/(sp<0/\e1=st-hi/\e2=-sp/\x1=st-lo/\x2=-sp)
def Kp (ea1 ea2 xa1 xa2 eu1 eu2 xu1 xu2:Int):Prop:=∀ e∈[((0:Int),(1:Int)),(ea1,ea2),(eu1,eu2)],∀ x∈[((1:Int),(1:Int)),(xa1,xa2),(xu1,xu2)],e.1*x.2<=x.1*e.2
def Sy {u a b:Int}(h:0<=u)(h':a<=b):u*a<=u*b:=Int.mul_le_mul_of_nonneg_left h' h
def jq {p r P R:Int}{L x:Int}:(∃ a∈[P-L,R-L,P-x,R-x],p<=a)↔(p<=P-L\/p<=R-L\/p<=P-x\/p<=R-x):=by simp
def znI {p P R:Int}{L x:Int}:(∃ a∈[P-L,R-L,P-x,R-x],a<=p)↔(P-L<=p\/R-L<=p\/P-x<=p\/R-x<=p):=by simp
def znL {ea1 ea2 xa1 xa2 eu1 eu2 xu1 xu2:Int}:Kp ea1 ea2 xa1 xa2 eu1 eu2 xu1 xu2 ↔
  (0<=xa1/\0<=xu1)/\(ea1<=ea2/\ea1*xa2<=xa1*ea2/\ea1*xu2<=xu1*ea2)/\(eu1<=eu2/\eu1*xa2<=xa1*eu2/\eu1*xu2<=xu1*eu2):=by
 unfold Kp;simp
def J4 (lo hi st sp e1 e2 x1 x2:Int):Prop :=(sp=0/\lo<=st/\st<=hi/\e1=0/\e2=1/\x1=1/\x2=1)\/(sp=0/\(st<lo\/hi<st)/\e1=1/\e2=1/\x1=0/\x2=1)\/(0<sp/\e1=lo-st/\e2=sp/\x1=hi-st/\x2=sp)
def uV {lo st s t:Int}(h:Q9 lo hi st (t-s) e1 e2 x1 x2):J4 lo hi st (t-s) e1 e2 x1 x2\/J4 (-hi) (-lo) (-st) (-t - -s) e1 e2 x1 x2:=by
 rcases h with h|h|h|⟨h,rfl,rfl,rfl,rfl⟩
 ·exact .inl (.inl h)
 ·exact .inl (.inr (.inl h))
 ·exact .inl (.inr (.inr h))
 ·exact .inr (.inr (.inr ⟨by lia,by lia,by lia,by lia,by lia⟩))
def pQ {as bs:List Int}(h:∀ a,a∈bs↔-a∈as):((∃ a∈bs,0<=a)↔∃ a∈as,a<=0)/\((∃ a∈bs,a<=0)↔∃ a∈as,0<=a):=by
  have back:∀ a,a∈as->-a∈bs:=fun a ha=>(h (-a)).mpr (by rw[U7];exact ha)
  refine⟨⟨?_,?_⟩,?_,?_⟩<;>rintro⟨a,ha,h0⟩
  . exact⟨-a,(h a).mp ha,by lia⟩
  . exact⟨-a,back a ha,by lia⟩
  . exact⟨-a,(h a).mp ha,by lia⟩
  . exact⟨-a,back a ha,by lia⟩
def zoD {a p q r t:Int}:a∈[-p,-q,-r,-t]↔-a∈[r,t,p,q]:=by
 have e:∀ x,a=-x↔-a=x:=fun x=>⟨fun h=>by rw[h,U7],fun h=>by rw[<- h,U7]⟩
 simp only[ql,qJ,or_false,e];exact⟨fun h=>h.elim (fun h=>.inr (.inr (.inl h))) (fun h=>h.elim (fun h=>.inr (.inr (.inr h))) (fun h=>h.elim .inl (fun h=>.inr (.inl h)))),fun h=>h.elim (fun h=>.inr (.inr (.inl h))) (fun h=>h.elim (fun h=>.inr (.inr (.inr h))) (fun h=>h.elim .inl (fun h=>.inr (.inl h))))⟩
def Ĩ (a b c d e:Int):(-a - -b)*c-d*(-e - -b)=-((a-b)*c-d*(e-b)):=by rw[show -a - -b=-(a-b) by lia,show -e - -b=-(e-b) by lia,Int.neg_mul,Int.mul_neg];lia
def iR (a b c d e:Int):c*(-a - -b)-(-d - -b)*e=-(c*(a-b)-(d-b)*e):=by rw[show -a - -b=-(a-b) by lia,show -d - -b=-(d-b) by lia,Int.neg_mul,Int.mul_neg];lia
def Hu (a b:Int):max (-a) (-b)=-(min a b):=by
 rcases Int.le_total a b with h|h
 ·rw[Int.min_eq_left h,Int.max_eq_left (Int.neg_le_neg h)]
 ·rw[Int.min_eq_right h,Int.max_eq_right (Int.neg_le_neg h)]
def uo (a b:Int):min (-a) (-b)=-(max a b):=by rw[<- U7 (min (-a) (-b)),<- Hu,U7,U7]
def tO {L R B T x1 z1 x2 z2:Int}:Wj (-R) (-L) B T (-x1) z1 (-x2) z2↔Wj L R B T x1 z1 x2 z2:=by
 have e:Za (-R) (-L) B T (-x1) z1 (-x2) z2=[-((x2-x1)*(B-z1)-(z2-z1)*(R-x1)),-((x2-x1)*(T-z1)-(z2-z1)*(R-x1)),-((x2-x1)*(B-z1)-(z2-z1)*(L-x1)),-((x2-x1)*(T-z1)-(z2-z1)*(L-x1))]:=by unfold Za;simp only[Ĩ]
 have k:=pQ (as:=Za L R B T x1 z1 x2 z2) (bs:=Za (-R) (-L) B T (-x1) z1 (-x2) z2) (fun a=>by rw[e];exact zoD);unfold Wj;rw[k.1,k.2,Hu,uo];generalize max x1 x2=a1;generalize min x1 x2=a2;generalize (∃ a∈Za L R B T x1 z1 x2 z2,0<=a)=P;generalize (∃ a∈Za L R B T x1 z1 x2 z2,a<=0)=Q;constructor
 ·rintro⟨h1,h2,h3,h4,h5,h6⟩;exact⟨by lia,by lia,h3,h4,h6,h5⟩
 ·rintro⟨h1,h2,h3,h4,h5,h6⟩;exact⟨by lia,by lia,h3,h4,h6,h5⟩
def jt {a p q r t:Int}:a∈[-p,-q,-r,-t]↔-a∈[q,p,t,r]:=by
 have e:∀ x,a=-x↔-a=x:=fun x=>⟨fun h=>by rw[h,U7],fun h=>by rw[<- h,U7]⟩
 simp only[ql,qJ,or_false,e];exact⟨fun h=>h.elim (fun h=>.inr (.inl h)) (fun h=>h.elim .inl (fun h=>h.elim (fun h=>.inr (.inr (.inr h))) (fun h=>.inr (.inr (.inl h))))),fun h=>h.elim (fun h=>.inr (.inl h)) (fun h=>h.elim .inl (fun h=>h.elim (fun h=>.inr (.inr (.inr h))) (fun h=>.inr (.inr (.inl h)))))⟩
def rW {L R B T x1 z1 x2 z2:Int}:Wj L R (-T) (-B) x1 (-z1) x2 (-z2)↔Wj L R B T x1 z1 x2 z2:=by
 have e:Za L R (-T) (-B) x1 (-z1) x2 (-z2)=[-((x2-x1)*(T-z1)-(z2-z1)*(L-x1)),-((x2-x1)*(B-z1)-(z2-z1)*(L-x1)),-((x2-x1)*(T-z1)-(z2-z1)*(R-x1)),-((x2-x1)*(B-z1)-(z2-z1)*(R-x1))]:=by unfold Za;simp only[iR]
 have k:=pQ (as:=Za L R B T x1 z1 x2 z2) (bs:=Za L R (-T) (-B) x1 (-z1) x2 (-z2)) (fun a=>by rw[e];exact jt);unfold Wj;rw[k.1,k.2,Hu,uo];generalize max z1 z2=a1;generalize min z1 z2=a2;generalize (∃ a∈Za L R B T x1 z1 x2 z2,0<=a)=P;generalize (∃ a∈Za L R B T x1 z1 x2 z2,a<=0)=Q;constructor
 ·rintro⟨h1,h2,h3,h4,h5,h6⟩;exact⟨h1,h2,by lia,by lia,h6,h5⟩
 ·rintro⟨h1,h2,h3,h4,h5,h6⟩;exact⟨h1,h2,by lia,by lia,h6,h5⟩
def zrj {P Q p q:Int}(h:P<=Q)(g:p<=q):(0<=P-p\/0<=Q-p\/0<=P-q\/0<=Q-q)↔p<=Q:=⟨fun k=>by rcases k with k|k|k|k<;>lia,fun k=>.inr (.inl (by lia))⟩
def zsb {P Q p q:Int}(h:P<=Q)(g:p<=q):(P-p<=0\/Q-p<=0\/P-q<=0\/Q-q<=0)↔P<=q:=⟨fun k=>by rcases k with k|k|k|k<;>lia,fun k=>.inr (.inr (.inl (by lia)))⟩
def Ja {L R B T:Int}(hx:L<=R)(hz:B<=T)(pa:J4 L R x1 (x2-x1) ea1 ea2 xa1 xa2)(pu:J4 B T z1 (z2-z1) eu1 eu2 xu1 xu2) :
    Kp ea1 ea2 xa1 xa2 eu1 eu2 xu1 xu2↔Wj L R B T x1 z1 x2 z2:=by
  have u0:0<=x2-x1:=by rcases pa with h|h|h<;>lia
  have v0:0<=z2-z1:=by rcases pu with h|h|h<;>lia
  rw[znL];unfold Wj Za;rw[jq (r:=0),znI,show max x1 x2=x1+(x2-x1) by lia,show min x1 x2=x1 by lia,show max z1 z2=z1+(z2-z1) by lia,show min z1 z2=z1 by lia];generalize x2-x1=u at *;generalize z2-z1=v at *;have k1:=Sy u0 (show B-z1<=T-z1 by lia);have k2:=Sy v0 (show L-x1<=R-x1 by lia);rw[zrj k1 k2,zsb k1 k2];have c1:∀ s t:Int,(s-x1)*t=t*(s-x1):=fun s t=>Wg _ _
  have c3:∀ s t:Int,(s-z1)*t=t*(s-z1):=fun s t=>Wg _ _
  have k5:B<=z1->u*(B-z1)<=0:=fun h=>by have:=Sy u0 (show B-z1<=0 by lia);rwa[Ry]at this
  have k6:z1<=T->0<=u*(T-z1):=fun h=>by have:=Sy u0 (show 0<=T-z1 by lia);rwa[Ry]at this
  have k8:=Sy v0 (show B-z1<=T-z1 by lia);rcases pa with⟨hu,h1,h2,rfl,rfl,rfl,rfl⟩|⟨hu,h1,rfl,rfl,rfl,rfl⟩|⟨hu,rfl,rfl,rfl,rfl⟩
  . clear k5 k6;subst hu;have k3:=Sy v0 (show L-x1<=0 by lia);have k4:=Sy v0 (show 0<=R-x1 by lia);rcases pu with⟨hv,g1,g2,rfl,rfl,rfl,rfl⟩|⟨hv,g1,rfl,rfl,rfl,rfl⟩|⟨hv,rfl,rfl,rfl,rfl⟩ <;>
    simp only[c3,Int.zero_mul,Ry,Int.one_mul,Ud]at *<;>lia
  . simp only[Int.one_mul,Ud];lia
  . have k7:=Sy u0 (show L-x1<=R-x1 by lia);rcases pu with⟨hv,g1,g2,rfl,rfl,rfl,rfl⟩|⟨hv,g1,rfl,rfl,rfl,rfl⟩|⟨hv,rfl,rfl,rfl,rfl⟩
    . subst hv;have k5:=k5 g1;have k6:=k6 g2;simp only[c1,c3,Int.zero_mul,Ry,Int.one_mul,Ud]at *;lia
    . simp only[Int.one_mul,Ud];lia
    . simp only[c1,c3];exact⟨by rintro⟨⟨a,b⟩,⟨c,_,d⟩,e,f,_⟩;exact⟨by lia,by lia,by lia,by lia,d,f⟩,by rintro⟨a,b,c,d,e,f⟩;exact⟨⟨by lia,by lia⟩,⟨by lia,k7,e⟩,by lia,f,k8⟩⟩
def fJ {L R B T:Int}(hx:L<=R)(hz:B<=T)(pa:Q9 L R x1 (x2-x1) ea1 ea2 xa1 xa2)(pu:Q9 B T z1 (z2-z1) eu1 eu2 xu1 xu2) :
    Kp ea1 ea2 xa1 xa2 eu1 eu2 xu1 xu2↔Wj L R B T x1 z1 x2 z2:=by
  rcases uV pa with pa|pa<;>rcases uV pu with pu|pu
  . exact Ja hx hz pa pu
  . rw[<- rW];exact Ja hx (by lia) pa pu
  . rw[<- tO];exact Ja (by lia) hz pa pu
  . rw[<- tO,<- rW];exact Ja (by lia) (by lia) pa pu
def cM {L R B T x1 z1 x2 z2 mx mn m:Int}(m1:mx∈Za L R B T x1 z1 x2 z2)(m2:∀ a∈Za L R B T x1 z1 x2 z2,a<=mx)(n1:mn∈Za L R B T x1 z1 x2 z2)(n2:∀ a∈Za L R B T x1 z1 x2 z2,mn<=a)
  (h1:m∈[(max x1 x2)-L,R-(min x1 x2),(max z1 z2)-B,T-(min z1 z2),mx,-mn])
  (h2:∀ a∈[(max x1 x2)-L,R-(min x1 x2),(max z1 z2)-B,T-(min z1 z2),mx,-mn],m<=a):0<=m↔Wj L R B T x1 z1 x2 z2:=by
 unfold Wj;have e1:(∃ a∈Za L R B T x1 z1 x2 z2,0<=a)↔0<=mx:=⟨by rintro⟨a,ha,h⟩;exact Int.le_trans h (m2 a ha),fun h=>⟨mx,m1,h⟩⟩
 have e2:(∃ a∈Za L R B T x1 z1 x2 z2,a<=0)↔mn<=0:=⟨by rintro⟨a,ha,h⟩;exact Int.le_trans (n2 a ha) h,fun h=>⟨mn,n1,h⟩⟩
 rw[e1,e2];generalize (max x1 x2)=q1 at *;generalize (min x1 x2)=q2 at *;generalize (max z1 z2)=q3 at *;generalize (min z1 z2)=q4 at *;have g1:=h2 (q1-L) (by simp);have g2:=h2 (R-q2) (by simp);have g3:=h2 (q3-B) (by simp);have g4:=h2 (T-q4) (by simp);have g5:=h2 mx (by simp);have g6:=h2 (-mn) (by simp);simp only[ql,qJ,or_false]at h1;lia
def six (L R B T x1 z1 x2 z2 mx mn:Int):List Int:=[(max x1 x2)-L,R-(min x1 x2),(max z1 z2)-B,T-(min z1 z2),mx,-mn]
def Q5 (L R B T x1 z1 x2 z2:Int):Prop:=∃ p q:Int,0<q/\0<=p/\p<=q/\L*q<=x1*q+p*(x2-x1)/\x1*q+p*(x2-x1)<=R*q/\B*q<=z1*q+p*(z2-z1)/\z1*q+p*(z2-z1)<=T*q
def mulL {k a b:Int}(h:0<=k)(g:a<=b):k*a<=k*b:=Int.mul_le_mul_of_nonneg_left g h
def Gy {k a b:Int}(h:0<k)(g:k*a<=k*b):a<=b:=Int.le_of_mul_le_mul_left g h
def pC {a b c d e f:Int}(hb:0<=b)(hf:0<=f)(hd:0<d)(h1:a*d<=c*b)(h2:c*f<=e*d):a*f<=e*b:=by
 refine Gy hd ?_;have k1:=mulL hf h1;have k2:=mulL hb h2;have e1:d*(a*f)=f*(a*d):=by grind
 have e2:f*(c*b)=b*(c*f):=by grind
 have e3:b*(e*d)=d*(e*b):=by grind
 lia
theorem fmax:∀ {l:List (Int×Int)},l≠[]->(∀ e∈l,0<e.2)->∃ e∈l,∀ f∈l,f.1*e.2<=e.1*f.2
 |[],h,_=>absurd rfl h
 |[x],_,_=>⟨x,by simp,fun f hf=>by simp at hf;subst hf;exact SM _⟩
 |x::y::l,_,h=>by
  obtain⟨m,hm,g⟩:=fmax (l:=y::l) (by simp) fun e he=>h e (by simp[he])
  have hx:=h x (by simp);have hm2:=h m (by simp[hm]);rcases Int.le_total (x.1*m.2) (m.1*x.2)with c|c
  ·refine⟨m,by simp[hm],fun f hf=>?_⟩;rcases ql.mp hf with rfl|hf
   ·exact c
   ·exact g f hf
  ·refine⟨x,by simp,fun f hf=>?_⟩;rcases ql.mp hf with rfl|hf
   ·exact SM _
   ·exact pC (RG (h f (by simp[hf]))) (RG hx) hm2 (g f hf) c
def Ao (lo hi st sp:Int):∃ e1 e2 x1 x2,Q9 lo hi st sp e1 e2 x1 x2/\0<e2/\0<x2:=by
 unfold Q9;rcases Int.lt_trichotomy sp 0 with h|h|h
 ·exact⟨st-hi,-sp,st-lo,-sp,.inr (.inr (.inr ⟨h,rfl,rfl,rfl,rfl⟩)),by lia,by lia⟩
 ·by_cases g:lo<=st/\st<=hi
  ·exact⟨0,1,1,1,.inl ⟨h,g.1,g.2,rfl,rfl,rfl,rfl⟩,by lia,by lia⟩
  ·exact⟨1,1,0,1,.inr (.inl ⟨h,by lia,rfl,rfl,rfl,rfl⟩),by lia,by lia⟩
 ·exact⟨lo-st,sp,hi-st,sp,.inr (.inr (.inl ⟨h,rfl,rfl,rfl,rfl⟩)),h,h⟩
def Bg {lo st sp p q:Int}(P:Q9 lo hi st sp e1 e2 x1 x2)(hq:0<q)(h0:0<=p)(h1:p<=q)(h2:e1*q<=p*e2)(h3:p*x2<=x1*q):lo*q<=st*q+p*sp/\st*q+p*sp<=hi*q:=by
 rcases P with⟨hu,g1,g2,rfl,rfl,rfl,rfl⟩|⟨hu,g1,rfl,rfl,rfl,rfl⟩|⟨hu,rfl,rfl,rfl,rfl⟩|⟨hu,rfl,rfl,rfl,rfl⟩
 ·subst hu;have k1:=mulL (RG hq) g1;have k2:=mulL (RG hq) g2;rw[Wg q,Wg q]at k1 k2;rw[Ry];lia
 ·lia
 ·rw[Qc]at h2 h3;lia
 ·rw[Qc,Int.mul_neg]at h2 h3;lia
def nC {lo st sp p q:Int}(P:Q9 lo hi st sp e1 e2 x1 x2)(hq:0<q)(h0:0<=p)(h1:p<=q)(h2:lo*q<=st*q+p*sp)(h3:st*q+p*sp<=hi*q):e1*q<=p*e2/\p*x2<=x1*q:=by
 rcases P with⟨hu,g1,g2,rfl,rfl,rfl,rfl⟩|⟨hu,g1,rfl,rfl,rfl,rfl⟩|⟨hu,rfl,rfl,rfl,rfl⟩|⟨hu,rfl,rfl,rfl,rfl⟩
 ·lia
 ·subst hu;rw[Ry,Int.add_zero,Wg lo,Wg st]at h2;rw[Ry,Int.add_zero,Wg hi,Wg st]at h3;have k1:=Gy hq h2;have k2:=Gy hq h3;lia
 ·rw[Qc,Qc];lia
 ·rw[Qc,Qc,Int.mul_neg];lia
def dF {L R B T x1 z1 x2 z2:Int}(hx:L<=R)(hz:B<=T):Wj L R B T x1 z1 x2 z2↔Q5 L R B T x1 z1 x2 z2:=by
  obtain⟨a1,a2,a3,a4,pa,ha2,ha4⟩:=Ao L R x1 (x2-x1);obtain⟨u1,u2,u3,u4,pu,hu2,hu4⟩:=Ao B T z1 (z2-z1);rw[<- fJ hx hz pa pu];constructor
  . intro h
    obtain⟨⟨p,q⟩,he,mx⟩:=fmax (l:=[((0:Int),(1:Int)),(a1,a2),(u1,u2)]) (by simp) (by
      intro e he;simp only[ql,qJ,or_false]at he;rcases he with rfl|rfl|rfl
      . exact Int.one_pos
      . exact ha2
      . exact hu2)
    have hq:0<q:=by simp only[ql,qJ,or_false,Prod.mk.injEq]at he;rcases he with he|he|he<;>lia
    have m0:=mx (0,1) (by simp);have m1:=mx (a1,a2) (by simp);have m2:=mx (u1,u2) (by simp);have n0:=h _ he (1,1) (by simp);have n1:=h _ he (a3,a4) (by simp);have n2:=h _ he (u3,u4) (by simp);dsimp only at m0 m1 m2 n0 n1 n2;have h0:0<=p:=by lia
    have h1:p<=q:=by lia
    obtain⟨k1,k2⟩:=Bg pa hq h0 h1 m1 n1;obtain⟨k3,k4⟩:=Bg pu hq h0 h1 m2 n2;exact⟨p,q,hq,h0,h1,k1,k2,k3,k4⟩
  . rintro⟨p,q,hq,h0,h1,k1,k2,k3,k4⟩;obtain⟨g1,g2⟩:=nC pa hq h0 h1 k1 k2;obtain⟨g3,g4⟩:=nC pu hq h0 h1 k3 k4;intro e he x hx
    have ee:0<e.2/\e.1*q<=p*e.2:=by
      simp only[ql,qJ,or_false]at he;rcases he with rfl|rfl|rfl
      . exact⟨Int.one_pos,by lia⟩
      . exact⟨ha2,g1⟩
      . exact⟨hu2,g3⟩
    have xx:0<x.2/\p*x.2<=x.1*q:=by
      simp only[ql,qJ,or_false]at hx;rcases hx with rfl|rfl|rfl
      . exact⟨Int.one_pos,by lia⟩
      . exact⟨ha4,g2⟩
      . exact⟨hu4,g4⟩
    exact pC (RG ee.1) (RG xx.1) hq ee.2 xx.2
end Rm
namespace Dp
open PySem Rm My
structure Fg where
 x0:Int
 x1:Int
 z0:Int
 z1:Int
 f:Int
 l:Int
 g:Int
 s:Int
abbrev Yu (F:Fg):D:=.tup [.int F.x0,.int F.x1,.int F.z0,.int F.z1,.int F.f,.int F.l,.int F.g,.int F.s]
structure FgB (F:Fg):Prop where
 x:F.x0<=F.x1
 z:F.z0<=F.z1
 b0:Bd 600 F.x0
 b1:Bd 600 F.x1
 b2:Bd 600 F.z0
 b3:Bd 600 F.z1
 bg:Bd 200 F.g
 bs:Bd 200 F.s
def Vj (F:Fg)(px pz qx qz h:Int):Prop:=F.f<=h/\h<=F.l/\Q5 (F.x0+F.g*(h-F.f)) (F.x1+F.g*(h-F.f)) (F.z0+F.s*(h-F.f)) (F.z1+F.s*(h-F.f)) px pz qx qz
def wO {fs:List Fg}{i:Nat}{d:D}(h:(fs.map Yu)[i]?=some d):∃ F,fs[i]?=some F/\d=Yu F:=by
 rw[qi]at h;cases e:fs[i]? with
 |none=>rw[e]at h;cases h
 |some p=>rw[e]at h;cases h;exact⟨p,rfl,rfl⟩
def nZ {a b:Int}(h0:0<=a)(h:a<=b):a.natAbs<=b.natAbs:=by refine Int.ofNat_le.mp ?_;rw[Jx h0,Jx (Int.le_trans h0 h)];exact h
def Bd.btw {n:Nat}{x:Int}(ha:Bd n a)(hb:Bd n b)(h1:a<=x)(h2:x<=b):Bd n x:=by
 rcases Int.le_total 0 x with h|h
 ·exact hb.of_le (nZ h h2)
 ·refine ha.of_le ?_;rw[<- Mv x,<- Mv a];exact nZ (Int.neg_nonneg_of_nonpos h) (Int.neg_le_neg h1)
def flt (a b:Int×Int):Bool:=decide (a.1*b.2<b.1*a.2)
abbrev Ϗ:=(Int×Int)×(Int×Int)
def rk (R:Int×Int->Int)(s:Ϗ):Int×Int:=(R s.1,R s.2)
def Il {cs:List (Int×Int)}{k:Int}(h0:0<=k)(h:k<cs.length):∃ c,cs[k.toNat]?=some c/\Zm (cs.map p2) k=some (p2 c):=by
 have hk:k.toNat<cs.length:=by lia
 refine⟨cs[k.toNat],qb hk,?_⟩;have:=SQ (ds:=cs.map p2) (i:=k.toNat) (d:=p2 (cs[k.toNat])) (by rw[qi,qb hk];rfl);rwa[show((k.toNat:Nat):Int)=k by lia]at this
def lenV (ms:List (Int×Int)):Int:=(ms.map fun m=>m.2-m.1).sum
def Sv (c:Int×Int)(t b:Int):Prop:=0<c.2/\c.1*b=t*c.2
def Pb (a b p:Int×Int):Int:=if 0<b.1-a.1 then a.2*(b.1-a.1)*p.2+(b.2-a.2)*(p.1-a.1*p.2)else -(a.2*(b.1-a.1)*p.2+(b.2-a.2)*(p.1-a.1*p.2))
def Tz (a b p:Int×Int):Int:=if 0<b.1-a.1 then(b.1-a.1)*p.2 else -((b.1-a.1)*p.2)
def ĉ {a b p:Int×Int}(h:b.1≠a.1)(hp:0<p.2):0<Tz a b p:=by
 unfold Tz;split
 ·exact O4 (by lia) hp
 ·have:=O4 (show 0 < -(b.1-a.1) by lia) hp;rw[Int.neg_mul]at this;exact this
def ċ {t b e:Int}(hb:0<b)(he:0<e)(hc:Sv c t b)(hd:Sv d u e):flt c d=decide (t*e<u*b):=by
 obtain⟨c0,c1⟩:=hc;obtain⟨d0,d1⟩:=hd;unfold flt;refine decide_eq_decide.mpr ?_;have hbe:0<b*e:=O4 hb he;have hcd:0<c.2*d.2:=O4 c0 d0;rw[<- Int.mul_lt_mul_right hbe,<- Int.mul_lt_mul_right (b:=t*e) (c:=u*b) hcd]
 have e1:c.1*d.2*(b*e)=t*e*(c.2*d.2):=by
  have:c.1*d.2*(b*e)=c.1*b*(d.2*e):=by grind
  rw[this,c1];grind
 have e2:d.1*c.2*(b*e)=u*b*(c.2*d.2):=by
  have:d.1*c.2*(b*e)=d.1*e*(c.2*b):=by grind
  rw[this,d1];grind
 rw[e1,e2]
structure WR (cs:List (Int×Int)):Prop where
 two:2<=cs.length
 most:cs.length<=40
 asc:cs.Pairwise fun a b=>a.1<b.1
 bd:∀ c∈cs,Bd 170 c.1/\Bd 190 c.2
def Qd (cs:List (Int×Int)):Int:=(cs.getD 0 (0,0)).1
def QW (cs:List (Int×Int)):Int:=(cs.getD (cs.length-1) (0,0)).1
def Pk (cs:List (Int×Int))(p:Int×Int):Prop:=Qd cs*p.2<=p.1/\p.1<=QW cs*p.2
def Tq:List (Int×Int)->Int×Int->Option ((Int×Int)×(Int×Int))
 |a::b::r,p=>if p.1<=b.1*p.2 then some (a,b)else Tq (b::r) p
 |_,_=>none
theorem seg_at:∀ {cs:List (Int×Int)} {p:Int×Int} {k:Nat} {a b:Int×Int},cs[k]?=some a->cs[k+1]?=some b->p.1<=b.1*p.2->(∀ j c,1<=j->j<=k->cs[j]?=some c->c.1*p.2<p.1)->Tq cs p=some (a,b)
 |[],p,k,a,b,h,_,_,_=>by simp at h
 |[x],p,0,a,b,_,h,_,_=>by simp at h
 |[x],p,k+1,a,b,h,_,_,_=>by simp at h
 |x::y::r,p,0,a,b,h1,h2,h3,_=>by simp at h1 h2;subst h1 h2;unfold Tq;rw[if_pos h3]
 |x::y::r,p,k+1,a,b,h1,h2,h3,h4=>by have:=h4 1 y (by lia) (by lia) rfl;unfold Tq;rw[if_neg (by lia)];exact seg_at (by simpa using h1) (by simpa using h2) h3 fun j c j1 j2 hc=>h4 (j+1) c (by lia) (by lia) (by simpa using hc)
theorem sW:∀ {cs:List (Int×Int)} {p:Int×Int},2<=cs.length->p.1<=QW cs*p.2->∃ k a b,cs[k]?=some a/\cs[k+1]?=some b/\p.1<=b.1*p.2/\∀ j c,1<=j->j<=k->cs[j]?=some c->c.1*p.2<p.1
 |[],p,h,_=>by simp at h
 |[x],p,h,_=>by simp at h
 |[x,y],p,_,h=>⟨0,x,y,rfl,rfl,h,fun j c j1 j2=>by lia⟩
 |x::y::z::r,p,_,h=>by
  by_cases g:p.1<=y.1*p.2
  ·exact⟨0,x,y,rfl,rfl,g,fun j c j1 j2=>by lia⟩
  ·obtain⟨k,a,b,h1,h2,h3,h4⟩:=sW (cs:=y::z::r) (p:=p) (by simp) h;refine⟨k+1,a,b,by simpa using h1,by simpa using h2,h3,fun j c j1 j2 hc=>?_⟩;cases j with
   |zero=>lia
   |succ j =>
    cases j with
    |zero=>simp at hc;subst hc;lia
    |succ j=>exact h4 (j+1) c (by lia) (by lia) (by simpa using hc)
def vQ (g:WR cs){i j:Nat}{a b:Int×Int}(hij:i<j)(ha:cs[i]?=some a)(hb:cs[j]?=some b):a.1<b.1:=by have h1:=zE ha;have h2:=zE hb;rw[qb h1]at ha;rw[qb h2]at hb;cases ha;cases hb;exact Ut.mp g.asc i j h1 h2 hij
def bJ (g:WR cs):∃ a,cs[0]?=some a/\Qd cs=a.1:=by
 have:=g.two;obtain⟨a,h⟩:∃ a,cs[0]?=some a:=⟨cs[0],qb (by lia)⟩
 exact⟨a,h,by unfold Qd;rw[qG,h];rfl⟩
def kI (g:WR cs):∃ a,cs[cs.length-1]?=some a/\QW cs=a.1:=by
 have:=g.two;obtain⟨a,h⟩:∃ a,cs[cs.length-1]?=some a:=⟨cs[cs.length-1],qb (by lia)⟩
 exact⟨a,h,by unfold QW;rw[qG,h];rfl⟩
def W2 (S:Z7)(g:D)(cs:List (Int×Int)):Prop:=∃ n l,g=.ref n/\S[n]?=some (.ins "Ground" [("corners",.ref l)])/\S[l]?=some (.lst (cs.map p2))
def W2.old {T:Z7}(h:W2 S g cs):W2 (S++T) g cs:=by obtain⟨n,l,e,h1,h2⟩:=h;exact⟨n,l,e,zA h1,zA h2⟩
def zwM {S:Z7}{P:D->Prop}{n l:Nat}(h:S[n]?=some (.ins "Ground" [("corners",.ref l)]))(q:P (.ref l)):∃ m c fs d,D.ref n=.ref m/\S[m]?=some (.ins c fs)/\fs.lookup ("corners":Str)=some d/\P d:=⟨n,_,_,_,rfl,h,by simp[qu],q⟩
def Xy (a b c:Int×Int):Int:=(c.2-a.2)*(b.1-a.1)-(c.1-a.1)*(b.2-a.2)
def Oq (a b c:Int×Int):Int:=if 0<(if b.1-a.1<0 then -Xy a b c else Xy a b c)then 1 else if(if b.1-a.1<0 then -Xy a b c else Xy a b c)<0 then -1 else 0
def Std (cs:List (Int×Int))(s:Int×Int):Prop:=Bd 180 s.1/\Bd 200 s.2/\Pk cs (s.1,1)/\∀ a b,Tq cs (s.1,1)=some (a,b)->Pb a b (s.1,1)<=s.2*Tz a b (s.1,1)
def Sw {own:Nat}{fv:List Nat}{xs:List D}{ok:Z7->Prop}{g:DG}{tc:DT}{te:DE}{ρ:Z1}{S:Z7}{Q:DK}(W:Nat->List D->Z7->Prop)(h0:W 0 [] S)(hok:∀ i ys S,W i ys S->ok S)(hbig:xs.length<=big)
  (step:∀ i d ys S,xs[i]?=some d->W i ys S->wg (W (i+1)) fun N=>g d (QK own fv ρ) S fun ρ2 S2=>tc ρ2 S2 fun b S3=>if b=true then te ρ2 S3 fun y S4=>N (ys++[y]) S4 else N ys S3)
  (fin:∀ ys S,W xs.length ys S->New Q S ys):Ej own fv g tc te ρ Q ⟨xs,ok⟩ S:=⟨hbig,W,h0,hok,fun i d ys S e w=>step i d ys S e w (W (i+1)) fun _ _ h=>h,fin⟩
def ž {a b d:Int×Int}(h:a.1≠b.1):Oq a b d=Oq b a d:=by
 have e:(if b.1-a.1<0 then -Xy a b d else Xy a b d)=(if a.1-b.1<0 then -Xy b a d else Xy b a d):=by
  by_cases z:b.1-a.1<0
  ·rw[if_pos z,if_neg (by lia)];unfold Xy;grind
  ·rw[if_neg z,if_pos (by lia)];unfold Xy;grind
 unfold Oq;rw[e]
def WY (cs:List (Int×Int))(s:Int×Int):Prop:=Pk cs (s.1,1)/\∀ a b,Tq cs (s.1,1)=some (a,b)->Pb a b (s.1,1)<=s.2*Tz a b (s.1,1)
def Std.of {s:Int×Int}(b1:Bd 180 s.1)(b2:Bd 200 s.2)(h:WY cs s):Std cs s:=⟨b1,b2,h.1,h.2⟩
def Tp (cs:List (Int×Int))(x y:Int)(k:Nat):Bool:=decide (min x y<(cs.getD k (0,0)).1)&&decide ((cs.getD k (0,0)).1<max x y)
def Yq (cs:List (Int×Int))(x y:Int)(n:Nat):List Int:=((List.range n).filter (Tp cs x y)).map fun k:Nat=>(k:Int)
def Ψ {cs:List (Int×Int)}{x y:Int}{i:Nat}(h:Tp cs x y i=true):(Yq cs x y (i+1)).map D.int=(Yq cs x y i).map D.int++[.int (i:Int)]:=by unfold Yq;rw[List.range_succ,Rr,Nq h];simp
def uL {cs:List (Int×Int)}{x y:Int}{i:Nat}(h:Tp cs x y i=false):Yq cs x y (i+1)=Yq cs x y i:=by unfold Yq;rw[List.range_succ,Rr,Ng (by rw[h];exact qr)];simp
def Mq (cs:List (Int×Int))(a b:Int×Int)(k:Int):Bool:=decide (0<Oq a b (cs.getD k.toNat (0,0)))
def Vf (cs:List (Int×Int))(a b:Int×Int):Option Int:=(Yq cs a.1 b.1 cs.length).find? (Mq cs a b)
theorem Bb {p:Int->Bool}:∀ {ks:List Int} {i:Nat} {k:Int},ks[i]?=some k->(∀ x∈ks.take i,p x=false)->p k=true->ks.find? p=some k
 |[],i,k,h,_,_=>by simp at h
 |x::ks,0,k,h,_,hp=>by
  have e:x=k:=by simpa using h
  rw[List.find?_cons,e,hp]
 |x::ks,i+1,k,h,hn,hp=>by rw[List.find?_cons,hn x (by simp)];exact Bb (by simpa using h) (fun y hy=>hn y (by rw[List.take_succ_cons];exact qj _ hy)) hp
def d9 {p:Int->Bool}{ks:List Int}(hn:∀ x∈ks,p x=false):ks.find? p=none:=List.find?_eq_none.mpr fun x hx=>by rw[hn x hx];exact qr
def Ĝ {cs:List (Int×Int)}{x y k:Int}{n:Nat}(h:k∈Yq cs x y n):0<=k/\k<n:=by unfold Yq at h;obtain⟨j,hj,rfl⟩:=qv.mp h;have:=Rf.mp (qO.mp hj).1;lia
def ϋ {cs:List (Int×Int)}{a b:Int×Int}:Vf cs a b=Vf cs b a:=by
 by_cases h:a.1=b.1
 ·have e:∀ x:Int×Int,x.1=x.1->Yq cs a.1 b.1 cs.length=[]:=fun _ _=>by
   unfold Yq;rw[List.filter_eq_nil_iff.mpr fun k _=>?_]
   ·rfl
   ·unfold Tp;rw[h];simp only[qw,decide_eq_true_eq];lia
  have e1:=e a rfl;have e2:Yq cs b.1 a.1 cs.length=[]:=by rw[h]at e1 ⊢;exact e1
  unfold Vf;rw[e1,e2];rfl
 ·have en:Yq cs a.1 b.1 cs.length=Yq cs b.1 a.1 cs.length:=by
   unfold Yq Tp;rw[Int.min_comm,Int.max_comm]
  unfold Vf;rw[en];congr 1;funext k;unfold Mq;rw[ž h]
def gx (g:Int)(p:Int×Int):Int:=g*p.1
section
variable {g:Int}{p q r s d t u v:Int×Int}
end
section
variable {cs:List (Int×Int)}{a b:Int×Int}{rp:List (Int×Int)}
end
section
variable {w h t m:Int}{cs:List (Int×Int)}
end
abbrev Xv (b:Str×(Int×Int)):D:=.tup [.str b.1,.int b.2.1,.int b.2.2]
def abc:List Nat:=List.range' 97 26
def cj:("abcdefghijklmnopqrstuvwxyz":Str).cps.toList=abc:=by decide +kernel
def sO {c:Nat}:c∈abc↔97<=c/\c<=122:=by unfold abc;rw[List.mem_range'_1];lia
def Xa (z:Str):Bool:=decide (1<=z.length)&&(decide (z.length<=8)&&z.cps.toList.all fun c=>decide (c∈abc))
def G4 {z:Str}:Xa z=true↔1<=z.length/\z.length<=8/\∀ c∈z.cps.toList,c∈abc:=by unfold Xa;rw[qw,qw,decide_eq_true_eq,decide_eq_true_eq,WM];simp only[decide_eq_true_eq]
def uD {z:Str}(h:Xa z=true)(k:Nat):fl k (.str z)=true:=by
  have h3:=(G4.mp h).2.2
  have:z.cps.all (· < 0x110000)=true:=by rw[Array.all_eq_true'];intro x hx;have:=sO.mp (h3 x (Array.mem_toList_iff.mpr hx));simp;lia
  cases k<;>exact this
structure Vl where
 cs:List (Int×Int)
 bs:List (Str×(Int×Int))
 fs:List Fg
 hz:Option Int
 h0:Int
 h1:Int
 dl:Int
structure N7 (F:Fg):Prop where
 b:FgB F
 o:F.f<=F.l
 f:Bd 300 F.f
 l:Bd 300 F.l
structure Y6 (V:Vl):Prop where
 gr:WR V.cs
 b1:1<=V.bs.length
 b12:V.bs.length<=12
 nm:∀ b∈V.bs,Xa b.1=true
 nd:(V.bs.map (·.1)).Nodup
 st:∀ b∈V.bs,WY V.cs b.2
 bd:∀ b∈V.bs,Bd 180 b.2.1/\Bd 200 b.2.2
 f12:V.fs.length<=12
 fg:∀ F∈V.fs,N7 F
 hz:∀ z,V.hz=some z->0<=z
 hh:V.h0<=V.h1
 b0:Bd 250 V.h0
 bl:Bd 250 V.h1
 dl:0<=V.dl
abbrev vF (g b f h a l d:D):List (Str×D):=[("ground",g),("beacons",b),("fogs",f),("haze",h),("first",a),("last",l),("delay",d)]
def Zw (S:Z7)(v:D)(V:Vl):Prop:=∃ n g b f,v=.ref n/\S[n]?=some (.ins "Valley" (vF (.ref g) (.ref b) (.ref f) (Vc V.hz) (.int V.h0) (.int V.h1) (.int V.dl)))/\W2 S (.ref g) V.cs/\S[b]?=some (.lst (V.bs.map Xv))/\S[f]?=some (.lst (V.fs.map Yu))
theorem Zw.old {T:Z7}{V:Vl}(h:Zw S v V):Zw (S++T) v V:=by obtain⟨n,g,b,f,e,h1,h2,h3,h4⟩:=h;exact⟨n,g,b,f,e,zA h1,h2.old,zA h3,zA h4⟩
section
variable {S:Z7}{P:D->Prop}{n:Nat}{g b f h a l d:D}
def iI (k:S[n]?=some (.ins "Valley" (vF g b f h a l d)))(q:P g):∃ m c fs x,D.ref n=.ref m/\S[m]?=some (.ins c fs)/\fs.lookup ("ground":Str)=some x/\P x:=⟨n,_,_,g,rfl,k,by simp[qu],q⟩
def zm4 (k:S[n]?=some (.ins "Valley" (vF g b f h a l d)))(q:P b):∃ m c fs x,D.ref n=.ref m/\S[m]?=some (.ins c fs)/\fs.lookup ("beacons":Str)=some x/\P x:=⟨n,_,_,b,rfl,k,by rw[qu,show((("beacons":Str)=="ground")=false) by decide +kernel];simp[qu],q⟩
def fQ (k:S[n]?=some (.ins "Valley" (vF g b f h a l d)))(q:P f):∃ m c fs x,D.ref n=.ref m/\S[m]?=some (.ins c fs)/\fs.lookup ("fogs":Str)=some x/\P x:=⟨n,_,_,f,rfl,k,by rw[qu,show((("fogs":Str)=="ground")=false) by decide +kernel];dsimp only;rw[qu,show((("fogs":Str)=="beacons")=false) by decide +kernel];simp[qu],q⟩
def ztH (k:S[n]?=some (.ins "Valley" (vF g b f h a l d)))(q:P h):∃ m c fs x,D.ref n=.ref m/\S[m]?=some (.ins c fs)/\fs.lookup ("haze":Str)=some x/\P x:=⟨n,_,_,h,rfl,k,by rw[qu,show((("haze":Str)=="ground")=false) by decide +kernel];dsimp only;rw[qu,show((("haze":Str)=="beacons")=false) by decide +kernel];dsimp only;rw[qu,show((("haze":Str)=="fogs")=false) by decide +kernel];simp[qu],q⟩
def zri (k:S[n]?=some (.ins "Valley" (vF g b f h a l d)))(q:P a):∃ m c fs x,D.ref n=.ref m/\S[m]?=some (.ins c fs)/\fs.lookup ("first":Str)=some x/\P x:=⟨n,_,_,a,rfl,k,by rw[qu,show((("first":Str)=="ground")=false) by decide +kernel];dsimp only;rw[qu,show((("first":Str)=="beacons")=false) by decide +kernel];dsimp only;rw[qu,show((("first":Str)=="fogs")=false) by decide +kernel];dsimp only;rw[qu,show((("first":Str)=="haze")=false) by decide +kernel];simp[qu],q⟩
def zud (k:S[n]?=some (.ins "Valley" (vF g b f h a l d)))(q:P l):∃ m c fs x,D.ref n=.ref m/\S[m]?=some (.ins c fs)/\fs.lookup ("last":Str)=some x/\P x:=⟨n,_,_,l,rfl,k,by rw[qu,show((("last":Str)=="ground")=false) by decide +kernel];dsimp only;rw[qu,show((("last":Str)=="beacons")=false) by decide +kernel];dsimp only;rw[qu,show((("last":Str)=="fogs")=false) by decide +kernel];dsimp only;rw[qu,show((("last":Str)=="haze")=false) by decide +kernel];dsimp only;rw[qu,show((("last":Str)=="first")=false) by decide +kernel];simp[qu],q⟩
end
def Ju {bs:List (Str×(Int×Int))}{i:Nat}{d:D}(h:(bs.map Xv)[i]?=some d):∃ b,bs[i]?=some b/\d=Xv b:=by
 rw[qi]at h;cases e:bs[i]? with
 |none=>rw[e]at h;cases h
 |some p=>rw[e]at h;cases h;exact⟨p,rfl,rfl⟩
def Iv (f:Str×(Int×Int)->D):D->D
 |.tup [.str z,.int a,.int b]=>f (z,a,b)
 |d=>d
def Hf (f:Str×(Int×Int)->D)(bs:List (Str×(Int×Int))):(bs.map Xv).map (Iv f)=bs.map f:=by rw[XF];rfl
def T6 (a b:Int×Int):Int:=(b.1-a.1)*(b.1-a.1)+(b.2-a.2)*(b.2-a.2)
def znX (a b:Int×Int):T6 a b=T6 b a:=by unfold T6;grind
def hzy (z:Option Int)(q:Int):Bool:=match z with
 |some z=>decide (z<q)
 |none=>false
def Rn (V:Vl)(a b:Int×Int):D:=match Vf V.cs a b with
 | some k=>.tup [.str "ground",.int k]
 | none=>if hzy V.hz (T6 a b)=true then .tup [.str "haze",.int (T6 a b)]else .non
def RV (V:Vl)(a b:Int×Int):Prop:=Vf V.cs a b=none/\hzy V.hz (T6 a b)=false
def Ce {V:Vl}{a b:Int×Int}:Rn V a b=.non↔RV V a b:=by
 unfold Rn RV;cases Vf V.cs a b with
 |some k=>simp
 |none =>
  cases h:hzy V.hz (T6 a b)with
  |true=>simp
  |false=>simp
def Vy (V:Vl)(a b:Int×Int)(h:Int):Prop:=RV V a b/\¬ ∃ F∈V.fs,Vj F a.1 a.2 b.1 b.2 h
def R4 {V:Vl}(ok:Y6 V){b c:Str×(Int×Int)}(hb:b∈V.bs)(hc:c∈V.bs)(e:b.1=c.1):b=c:=by
 obtain⟨i,hi,rfl⟩:=qN.mp hb;obtain⟨j,hj,rfl⟩:=qN.mp hc;have nd:=Ut.mp ok.nd;rcases Nat.lt_trichotomy i j with h|h|h
 ·exact absurd (by rw[JR,JR];exact e) (nd i j (by simpa using hi) (by simpa using hj) h)
 ·subst h;rfl
 ·exact absurd (by rw[JR,JR];exact e.symm) (nd j i (by simpa using hj) (by simpa using hi) h)
def BJ {S A B X:Z7}(h:∃ T,A=S++T)(e:B=A++X):∃ T,B=S++T:=by obtain⟨T,h⟩:=h;exact⟨T++X,by rw[e,h,qk]⟩
def Ō {f:Str}{v:D}:putD f v []=[(f,v)]:=rfl
def zX {f g:Str}{v x:D}{r:List (Str×D)}(h:g≠f):putD f v ((g,x)::r)=(g,x)::putD f v r:=by show(if g=f then _ else _)=_;rw[if_neg h]
section
variable {g b f h a l d:D}
def fH:putD "beacons" b ([("ground",g)]:List (Str×D))=([("ground",g),("beacons",b)]:List (Str×D)):=by rw[zX (by decide +kernel)];rfl
def jN:putD "fogs" f ([("ground",g),("beacons",b)]:List (Str×D))=([("ground",g),("beacons",b),("fogs",f)]:List (Str×D)):=by rw[zX (by decide +kernel),zX (by decide +kernel)];rfl
def vp4:putD "haze" h ([("ground",g),("beacons",b),("fogs",f)]:List (Str×D))=([("ground",g),("beacons",b),("fogs",f),("haze",h)]:List (Str×D)):=by rw[zX (by decide +kernel),zX (by decide +kernel),zX (by decide +kernel)];rfl
def vp5:putD "first" a ([("ground",g),("beacons",b),("fogs",f),("haze",h)]:List (Str×D))=([("ground",g),("beacons",b),("fogs",f),("haze",h),("first",a)]:List (Str×D)):=by rw[zX (by decide +kernel),zX (by decide +kernel),zX (by decide +kernel),zX (by decide +kernel)];rfl
def ů:putD "last" l ([("ground",g),("beacons",b),("fogs",f),("haze",h),("first",a)]:List (Str×D))=([("ground",g),("beacons",b),("fogs",f),("haze",h),("first",a),("last",l)]:List (Str×D)):=by rw[zX (by decide +kernel),zX (by decide +kernel),zX (by decide +kernel),zX (by decide +kernel),zX (by decide +kernel)];rfl
def vp7:putD "delay" d ([("ground",g),("beacons",b),("fogs",f),("haze",h),("first",a),("last",l)]:List (Str×D))=vF g b f h a l d:=by rw[zX (by decide +kernel),zX (by decide +kernel),zX (by decide +kernel),zX (by decide +kernel),zX (by decide +kernel),zX (by decide +kernel)];rfl
end
def zoy {L R B T x1 z1 x2 z2:Int}:Q5 L R B T x2 z2 x1 z1↔Q5 L R B T x1 z1 x2 z2:=by
 have one:∀ {x1 z1 x2 z2:Int},Q5 L R B T x1 z1 x2 z2->Q5 L R B T x2 z2 x1 z1:=fun {x1 z1 x2 z2} zq19=>by
  obtain⟨p,q,h1,h2,h3,h4,h5,h6,h7⟩:=zq19;have e1:x2*q+(q-p)*(x1-x2)=x1*q+p*(x2-x1):=by grind
  have e2:z2*q+(q-p)*(z1-z2)=z1*q+p*(z2-z1):=by grind
  exact⟨q-p,q,h1,by lia,by lia,by rw[e1];exact h4,by rw[e1];exact h5,by rw[e2];exact h6,by rw[e2];exact h7⟩
 exact⟨one,one⟩
def gU {F:Fg}{a b:Int×Int}{h:Int}:Vj F b.1 b.2 a.1 a.2 h↔Vj F a.1 a.2 b.1 b.2 h:=by unfold Vj;rw[zoy]
def fB {V:Vl}{a b:Int×Int}{h:Int}:Vy V b a h↔Vy V a b h:=by unfold Vy RV;rw[ϋ,znX b a];simp only[gU]
def Gp (xs:List α){k:Int}(h0:0<=k)(h1:k<=xs.length):cutD xs none (some k)=xs.take k.toNat:=by unfold cutD XJ;dsimp only;rw[if_neg (by lia),List.drop_zero,Nat.sub_zero,JT (by lia)]
def ϯ (xs:List α){k:Int}(h0:0<=k)(h1:k<=xs.length):cutD xs (some k) none=xs.drop k.toNat:=by unfold cutD XJ;dsimp only;rw[if_neg (by lia),JT (by lia)];exact JQ (by rw[K5];exact qh _)
def cQ (fs:List Fg)(s t:Int×Int)(h:Int)(d:D):Prop:=(∃ (k:Nat) (F:Fg),fs[k]?=some F/\Vj F s.1 s.2 t.1 t.2 h/\(∀ (j:Nat) G,j<k->fs[j]?=some G->¬ Vj G s.1 s.2 t.1 t.2 h)/\d=.tup [.str "fog",.int k])\/((∀ F∈fs,¬ Vj F s.1 s.2 t.1 t.2 h)/\d=.non)
def Fi (V:Vl)(n m:Str)(s t:Int×Int)(h:Int)(d:D):Prop:=(n=m/\d=.non)\/(n≠m/\((¬ RV V s t/\d=Rn V s t)\/(RV V s t/\cQ V.fs s t h d)))
theorem Fi.non {V:Vl}{n:Str}{t:Int×Int}(a:Fi V n m s t h d):d=.non↔n=m\/Vy V s t h:=by
 rcases a with⟨a1,rfl⟩|⟨a1,⟨a2,rfl⟩|⟨a2,⟨k,F,hk,hF,hn,rfl⟩|⟨hn,rfl⟩⟩⟩
 ·exact⟨fun _=>.inl a1,fun _=>rfl⟩
 ·rw[Ce];exact⟨fun z=>absurd z a2,fun z=>z.elim (fun z=>absurd z a1) fun z=>absurd z.1 a2⟩
 ·exact⟨fun z=>(by cases z),fun z=>z.elim (fun z=>absurd z a1) fun z=>absurd ⟨F,qc hk,hF⟩ z.2⟩
 ·exact⟨fun _=>.inr ⟨a2,by rintro⟨F,hF,g⟩;exact hn F hF g⟩,fun _=>rfl⟩
theorem Hz (n:Str):∀ zs:List Str,((zs.map D.str).any fun z=>eqv z (.str n))=decide (n∈zs)
 |[]=>by simp
 |z::zs=>by rw[qP,Lb,Hz n zs];show((z==n)||decide (n∈zs))=decide (n∈z::zs);rw[S8,PL,beq_iff_eq,decide_eq_true_eq,decide_eq_true_eq,ql];exact⟨fun h=>h.imp (·.symm) id,fun h=>h.imp (·.symm) id⟩
def yR {zs:List Str}(h:∀ z∈zs,fl 20 (.str z)=true):(zs.map D.str).all (fl 20)=true:=by rw[QS,WM];exact h
def M9 {Q:DK}{zs:List Str}{n:Str}(hx:Tj S x (zs.map D.str))(hn:fl 20 (.str n)=true)(h:∀ z∈zs,fl 20 (.str z)=true)(q:Q (.bl (decide (n∈zs))) S):Vo (.str n) x S Q:=.inl ⟨_,⟨_,hx,hn,yR h,rfl⟩,by rw[Hz];exact q⟩
def Om {Q:DK}{zs:List Str}{n:Str}(hx:Tj S x (zs.map D.str))(hn:fl 20 (.str n)=true)(h:∀ z∈zs,fl 20 (.str z)=true)(q:Q (.bl (!decide (n∈zs))) S):RQ (.str n) x S Q:=.inl ⟨_,⟨_,hx,hn,yR h,rfl⟩,by rw[Hz];exact q⟩
def Y6.flN {V:Vl}(ok:Y6 V):∀ z∈V.bs.map (·.1),fl 20 (.str z)=true:=fun z hz=>by obtain⟨b,hb,rfl⟩:=qv.mp hz;exact uD (ok.nm b hb) 20
def NK (p:Str->D):D->D
 |.str z=>p z
 |d=>d
def XC {zs:List Str}{i:Nat}{d:D}(h:(zs.map D.str)[i]?=some d):∃ z,zs[i]?=some z/\d=.str z:=by
 rw[qi]at h;cases e:zs[i]? with
 |none=>rw[e]at h;cases h
 |some p=>rw[e]at h;cases h;exact⟨p,rfl,rfl⟩
def wu (f:Str->D)(zs:List Str):(zs.map D.str).map (NK f)=zs.map f:=by rw[XF];rfl
def tU {S:Z7}{Q:DK}{x y:Str}(fx:fl 20 (.str x)=true)(fy:fl 20 (.str y)=true)(q:Q (.bl (decide (x=y))) S):oEq (.str x) (.str y) S Q:=iY fx fy (by
 by_cases h:x=y
 ·subst h;rw[decide_eq_true rfl];exact beq_self_eq_true x
 ·rw[decide_eq_false h];exact beq_eq_false_iff_ne.mpr h) q
def prs:List Str->List (Str×Str)
 |[]=>[]
 |z::zs=>zs.map (fun y=>(z,y))++prs zs
abbrev Zq (c:Str×Str):D:=.tup [.str c.1,.str c.2]
theorem N8:∀ zs:List Str,(prs zs).length<=zs.length*zs.length
 |[]=>qh _
 |z::zs=>by have:=N8 zs;show(zs.map (fun y=>(z,y))++prs zs).length<=(zs.length+1)*(zs.length+1);rw[qf,qa,Nat.add_mul,Nat.mul_add];lia
theorem Aw:∀ {zs:List Str} {i:Nat} {z:Str},zs[i]?=some z->∃ A,prs zs=A++(zs.drop (i+1)).map (fun y=>(z,y))++prs (zs.drop (i+1))/\prs zs=A++prs (zs.drop i)
 |[],i,z,h=>by simp at h
 |y::zs,0,z,h=>by
  have:y=z:=by simpa using h
  subst this;exact⟨[],by simp[prs],by simp⟩
 |y::zs,i+1,z,h=>by obtain⟨A,h1,h2⟩:=Aw (zs:=zs) (i:=i) (z:=z) (by simpa using h);exact⟨zs.map (fun x=>(y,x))++A,by simp[prs,h1],by simp only[prs,List.drop_succ_cons];rw[h2,qk]⟩
def Lq (V:Vl)(h:Int)(ps qs:List (Str×Str)):Prop:=∃ f:Str×Str->Bool,qs=ps.filter f/\∀ p∈ps,∀ s t,(p.1,s)∈V.bs->(p.2,t)∈V.bs->(f p=true↔p.1=p.2\/Vy V s t h)
theorem Wc:∀ {zs:List Str} {p:Str×Str},p∈prs zs->p.1∈zs/\p.2∈zs
 |[],p,h=>by simp[prs]at h
 |z::zs,p,h=>by
  rcases qD.mp h with h|h
  ·obtain⟨y,hy,rfl⟩:=qv.mp h;exact⟨by simp,qj _ hy⟩
  ·obtain⟨h1,h2⟩:=Wc h;exact⟨qj _ h1,qj _ h2⟩
def Kr {cs:List (Str×Str)}{i:Nat}{d:D}(h:(cs.map Zq)[i]?=some d):∃ c,cs[i]?=some c/\d=Zq c:=by
 rw[qi]at h;cases e:cs[i]? with
 |none=>rw[e]at h;cases h
 |some p=>rw[e]at h;cases h;exact⟨p,rfl,rfl⟩
def sH {V:Vl}{ps qs':List (Str×Str)}{i:Nat}{p:Str×Str}{g:Bool}{s t:Int×Int}(hp:ps[i]?=some p)(hs:(p.1,s)∈V.bs)(ht:(p.2,t)∈V.bs)(hw:Lq V h (ps.take i) qs)(hg:∀ s t,(p.1,s)∈V.bs->(p.2,t)∈V.bs->(g=true↔p.1=p.2\/Vy V s t h))(e:qs'=if g=true then qs++[p]else qs):Lq V h (ps.take (i+1)) qs':=by
 obtain⟨f,hf,hfp⟩:=hw;rw[zZ hp];have efg:p∈ps.take i->f p=g:=fun z=>by rw[S8,hfp p z s t hs ht,hg s t hs ht]
 have e1:(ps.take i).filter (fun x=>if x∈ps.take i then f x else g)=qs:=by rw[hf];exact Oz fun x hx=>by rw[if_pos hx]
 have e2:(if p∈ps.take i then f p else g)=g:=by
  split
  ·rename_i z;exact efg z
  ·rfl
 refine⟨fun x=>if x∈ps.take i then f x else g,?_,fun x hx s' t' hs' ht'=>?_⟩
 ·rw[Rr,e1,e];cases g with
  |true=>rw[if_pos rfl,Nq (by exact e2)];rfl
  |false=>rw[if_neg (by decide),Ng (by rw[e2];decide)];simp
 ·dsimp only;by_cases z:x∈ps.take i
  ·rw[if_pos z];exact hfp x z s' t' hs' ht'
  ·rcases qD.mp hx with hx|hx
   ·exact absurd hx z
   ·have:x=p:=by simpa using hx
    subst this;rw[if_neg z];exact hg s' t' hs' ht'
def z9 (V:Vl)(h:Int)(a b:Str):Prop:=∃ s t,(a,s)∈V.bs/\(b,t)∈V.bs/\(a=b\/Vy V s t h)
inductive Y7 (V:Vl)(h:Int)(bar:List Str)(n:Str):Str->Prop
 |refl:Y7 V h bar n n
 |step {a b:Str}:Y7 V h bar n a->z9 V h a b->b∉bar->Y7 V h bar n b
theorem KY:∀ {F N:List Str},F.Nodup->(∀ x∈F,x∈N)->F.length<=N.length
 |[],_,_,_=>qY _
 |x::F,N,nd,h=>by
  obtain⟨n1,n2⟩:=VH.mp nd;have hx:=h x (by simp);have:=KY (F:=F) (N:=N.erase x) n2 fun y hy=>(JG (fun e:y=x=>n1 (e▸hy))).mpr (h y (qj _ hy))
  rw[J1 hx]at this;have:=K1 hx;rw[qR];lia
def Χ (V:Vl)(h:Int)(bar:List Str)(n:Str)(zs:List Str):Prop:=∃ f:Str->Bool,zs=(V.bs.map (·.1)).filter f/\∀ z∈V.bs.map (·.1),(f z=true↔Y7 V h bar n z)
open Classical in
noncomputable def RM (V:Vl) (h:Int) (p:Str×Str):Bool:=decide (z9 V h p.1 p.2)
def M4 {V:Vl}{h:Int}{p:Str×Str}:RM V h p=true↔z9 V h p.1 p.2:=by unfold RM;exact @decide_eq_true_iff _ (Classical.propDecidable _)
def Pr {V:Vl}(w:z9 V h a b):z9 V h b a:=by obtain⟨s,t,hs,ht,e⟩:=w;exact⟨t,s,ht,hs,e.imp (·.symm) fB.mpr⟩
def uQ {V:Vl}(ok:Y6 V){ps:List (Str×Str)}(hp:∀ p∈ps,p.1∈V.bs.map (·.1)/\p.2∈V.bs.map (·.1))(w:Lq V h ps qs):qs=ps.filter (RM V h):=by
 obtain⟨f,rfl,hf⟩:=w;refine Oz fun p hpm=>?_
 obtain⟨m1,m2⟩:=hp p hpm;obtain⟨b,hb,eb⟩:=qv.mp m1;obtain⟨c,hc,ec⟩:=qv.mp m2;have hb':(p.1,b.2)∈V.bs:=by rw[<- eb];exact hb
 have hc':(p.2,c.2)∈V.bs:=by rw[<- ec];exact hc
 rw[S8,hf p hpm b.2 c.2 hb' hc',M4];constructor
 ·intro z;exact⟨_,_,hb',hc',z⟩
 ·rintro⟨s,t,hs,ht,z⟩;have es:s=b.2:=congrArg Prod.snd (R4 ok hs hb' rfl);have et:t=c.2:=congrArg Prod.snd (R4 ok ht hc' rfl);subst es et;exact z
def QM {S:Z7}{Q:DK}{x y:Str}(fx:fl 20 (.str x)=true)(fy:fl 20 (.str y)=true)(q:Q (.bl (!decide (x=y))) S):Yg (.str x) (.str y) S Q:=kh fx fy (by
 by_cases h:x=y
 ·subst h;rw[decide_eq_true rfl];exact beq_self_eq_true x
 ·rw[decide_eq_false h];exact beq_eq_false_iff_ne.mpr h) q
theorem KH:∀ {zs:List Str} {p:Str×Str},p∈prs zs↔∃ i j:Nat,i<j/\zs[i]?=some p.1/\zs[j]?=some p.2
 |[],p=>by simp[prs]
 |z::zs,p=>by
  show p∈zs.map (fun y=>(z,y))++prs zs↔_;rw[qD,KH (zs:=zs)];constructor
  ·rintro(h|⟨i,j,h,h1,h2⟩)
   ·obtain⟨y,hy,rfl⟩:=qv.mp h;obtain⟨j,hj,e⟩:=qN.mp hy;exact⟨0,j+1,by lia,rfl,by rw[qZ,qb hj,e]⟩
   ·exact⟨i+1,j+1,by lia,by rw[qZ];exact h1,by rw[qZ];exact h2⟩
  ·rintro⟨i,j,h,h1,h2⟩;obtain⟨j,rfl⟩:∃ k,j=k+1:=⟨j-1,by lia⟩
   rw[qZ]at h2;cases i with
   |zero =>
    left;have e:z=p.1:=by simpa using h1
    exact qv.mpr ⟨p.2,qc h2,by rw[e]⟩
   |succ i =>rw[qZ]at h1;exact .inr ⟨i,j,by lia,h1,h2⟩
def Ro {zs:List Str}(nd:zs.Nodup){i j:Nat}{z:Str}(hi:zs[i]?=some z)(hj:zs[j]?=some z):i=j:=by
 have li:=zE hi;have lj:=zE hj;rw[qb li]at hi;rw[qb lj]at hj;have e:zs[i]=zs[j]:=qF (hi.trans hj.symm);have:=Ut.mp nd;rcases Nat.lt_trichotomy i j with g|g|g
 ·exact absurd e (this i j li lj g)
 ·exact g
 ·exact absurd e.symm (this j i lj li g)
def Bl {zs:List Str}(nd:zs.Nodup){a b:Str}(h:(a,b)∈prs zs):(b,a)∉prs zs:=fun k=>by obtain⟨i,j,l,h1,h2⟩:=KH.mp h;obtain⟨i',j',l',h1',h2'⟩:=KH.mp k;have e1:=Ro nd h1 h2';have e2:=Ro nd h2 h1';lia
def Oi {zs:List Str}(nd:zs.Nodup){a b:Str}(h:(a,b)∈prs zs):a≠b:=fun e=>by subst e;exact Bl nd h h
def pN {zs:List Str}{a b:Str}(ha:a∈zs)(hb:b∈zs)(h:a≠b):(a,b)∈prs zs\/(b,a)∈prs zs:=by
 obtain⟨i,hi,ei⟩:=qN.mp ha;obtain⟨j,hj,ej⟩:=qN.mp hb;have gi:zs[i]?=some a:=by rw[qb hi,ei]
 have gj:zs[j]?=some b:=by rw[qb hj,ej]
 rcases Nat.lt_trichotomy i j with g|g|g
 ·exact .inl (KH.mpr ⟨i,j,g,gi,gj⟩)
 ·subst g;rw[gi]at gj;exact absurd (qF gj) h
 ·exact .inr (KH.mpr ⟨j,i,g,gj,gi⟩)
theorem vU:∀ {zs:List Str},zs.Nodup->(prs zs).Nodup
 |[],_=>by simp[prs]
 |z::zs,nd=>by
  obtain⟨n1,n2⟩:=VH.mp nd;show(zs.map (fun y=>(z,y))++prs zs).Nodup;rw[VR];refine⟨?_,vU n2,fun a ha b hb e=>?_⟩
  ·refine List.pairwise_map.mpr (n2.imp fun h e=>h (congrArg Prod.snd e))
  ·subst e;obtain⟨y,hy,rfl⟩:=qv.mp ha;exact n1 (Wc hb).1
def CV {V:Vl}(w:z9 V h a b):a∈V.bs.map (·.1)/\b∈V.bs.map (·.1):=by obtain⟨s,t,hs,ht,_⟩:=w;exact⟨qv.mpr ⟨_,hs,rfl⟩,qv.mpr ⟨_,ht,rfl⟩⟩
def Tc (S:Z7)(x:D)(V:Vl)(h:Int):Prop:=∃ (n:Nat) (Z8:List (Str×D)),x=.ref n/\S[n]?=some (.dk Z8)/\∀ z∈V.bs.map (·.1),∃ (m:Nat) (ys:List Str),dval Z8 z=some (.ref m)/\S[m]?=some (.lst (ys.map D.str))/\ys.Nodup/\∀ y,y∈ys↔y≠z/\z9 V h z y
def Tc.old {T:Z7}{V:Vl}(w:Tc S x V h):Tc (S++T) x V h:=by obtain⟨n,Z8,e,hn,hk⟩:=w;refine⟨n,Z8,e,zA hn,fun z hz=>?_⟩;obtain⟨m,ys,h1,h2,h3,h4⟩:=hk z hz;exact⟨m,ys,h1,zA h2,h3,h4⟩
def Tc.get {V:Vl}(w:Tc S x V h){z:Str}(hz:z∈V.bs.map (·.1)):∃ (m:Nat) (ys:List Str),Zc S x (.str z) (some (.ref m))/\S[m]?=some (.lst (ys.map D.str))/\ys.Nodup/\∀ y,y∈ys↔y≠z/\z9 V h z y:=by obtain⟨n,Z8,rfl,hn,hk⟩:=w;obtain⟨m,ys,h1,h2,h3,h4⟩:=hk z hz;exact⟨m,ys,Zc.k hn h1,h2,h3,h4⟩
structure Od (zs:List Str)(ps:List (Int×Int))(fs:List Fg)(hz f:Int):Prop where
 l2:2<=zs.length
 l8:zs.length<=8
 nm:∀ z∈zs,Xa z=true
 nd:zs.Nodup
 lp:ps.length=zs.length
 sp:∀ p∈ps,0<=p.1/\p.1<=4/\0<=p.2/\p.2<=3
 lf:fs.length<=4
 fg:∀ F∈fs,N7 F
 h0:0<=hz
 h1:hz<=10
 f0:-4<=f
 f1:f<=4
def zow {zs:List Str}(hd:∀ (i:Nat) z,zs[i]?=some z->z.cps.toList.head?=some (97+i)):zs.Nodup:=by
 refine Ut.mpr fun i j hi hj hij e=>?_
 have h1:=hd i _ (qb hi);have h2:=hd j _ (qb hj);rw[e,h2]at h1;have:=qF h1;lia
def U8 (a b:Str)(zs:List Str):List Str:=zs.filter fun z=>decide (z≠a/\z≠b)
def Wm (p:Str->Bool):D->Bool
 |.str z=>p z
 |_=>false
def û (a b:Str)(zs:List Str):((zs.map D.str).filter (Wm fun z=>decide (z≠a/\z≠b))).map id=(U8 a b zs).map D.str:=by rw[List.map_id,Rz];rfl
def Fw (V:Vl)(h:Int)(a b:Str)(us:List Str):Prop:=us[0]?=some a/\us[us.length-1]?=some b/\us.Nodup/\(∀ u∈us,u∈V.bs.map (·.1))/\∀ (k:Nat) x y,us[k]?=some x->us[k+1]?=some y->z9 V h x y
def vH {us:List Str}:K8 us<us.length↔¬ us.Nodup:=by
 constructor
 ·intro h nd;rw[Ak nd]at h;exact Xz _ h
 ·intro h
  have:∃ i j,∃ (hi:i<us.length) (hj:j<us.length),i<j/\us[i]=us[j]:=by apply Classical.byContradiction;intro no;exact h (Ut.mpr fun i j hi hj hij e=>no ⟨i,j,hi,hj,hij,e⟩)
  obtain⟨i,j,hi,hj,hij,e⟩:=this;exact zpn hij (qb hi) (by rw[qb hj,e])
def Ł {ds:List D}{d:D}(h:ds[ds.length-1]?=some d):Zm ds (-1)=some d:=by have hl:=zE h;unfold Zm Yh;rw[if_neg (by decide),if_pos (by lia)];show ds[((-1:Int)+(ds.length:Int)).toNat]?=some d;rw[show((-1:Int)+(ds.length:Int)).toNat=ds.length-1 by lia];exact h
def Am (p:Nat->Bool):D->D
 |.str z=>.bl (p (z.cps.toList.headD 0))
 |d=>d
def zm7 {z:Str}{i:Nat}{d:D}(h:(signs z)[i]?=some d):∃ c,z.cps.toList[i]?=some c/\d=.str ⟨#[c]⟩:=by
 unfold signs at h;rw[qi]at h;cases e:z.cps.toList[i]? with
 |none=>rw[e]at h;cases h
 |some p=>rw[e]at h;cases h;exact⟨p,rfl,rfl⟩
def zmR (p:Nat->Bool)(z:Str):(signs z).map (Am p)=(z.cps.toList.map p).map D.bl:=by unfold signs;rw[XF,XF];rfl
def zmc (z:Str):(signs z).length=z.length:=by unfold signs;rw[qa];exact Va
section
variable {see:Nat->Nat->Int->Prop}{dl:Int}{s:Nat}{h0:Int}
inductive Lt (see:Nat->Nat->Int->Prop)(dl:Int)(s:Nat)(h0:Int):Nat->Int->Prop
 |base:Lt see dl s h0 s h0
 |step {k j:Nat} {h u:Int}:Lt see dl s h0 k h->h<=u->see k j u->Lt see dl s h0 j (u+dl)
end
def hrs (V:Vl):List Int:=(List.range (V.h1-V.h0+1).toNat).map fun i:Nat=>V.h0+(i:Int)
section
variable {V:Vl}{is:List Nat}{v:Nat->D}
end
open Classical in
section
variable {V:Vl}{a j:Nat}{fi:List Nat}{f:Nat->En}{p:List Nat×(Nat->En)}{u:Int}
end
section
variable {see:Nat->Nat->Int->Prop}{dl:Int}{n s:Nat}{h:Int}{D D':Nat->Nat->Prop}{fi wi:List Nat}{f g:Nat->En}
end
def sm:Nat->(Nat->Int)->Int
 |0,_=>0
 |n+1,f=>sm n f+f n
def TY {n:Nat}{f g:Nat->Int}(h:∀ i,i<n->f i=g i):sm n f=sm n g:=by
 induction n with
 |zero=>rfl
 |succ n ih=>show sm n f+f n=sm n g+g n;rw[ih fun i hi=>h i (by lia),h n (by lia)]
def Mi {n:Nat}{f g:Nat->Int}:sm n (fun i=>f i+g i)=sm n f+sm n g:=by
 induction n with
 |zero=>rfl
 |succ n ih=>show sm n _+(f n+g n)=sm n f+f n+(sm n g+g n);rw[ih];lia
def Ay {n:Nat}{f:Nat->Int}:sm n (fun i=>-f i)=-sm n f:=by
 induction n with
 |zero=>rfl
 |succ n ih=>show sm n _ + -f n=-(sm n f+f n);rw[ih];lia
def JL {n:Nat}{f:Nat->Int}(h:∀ i,i<n->f i=0):sm n f=0:=by
 induction n with
 |zero=>rfl
 |succ n ih=>show sm n f+f n=0;rw[ih fun i hi=>h i (by lia),h n (by lia)];rfl
def zwZ {n:Nat}{f:Nat->Int}(h:∀ i,i<n->0<=f i):0<=sm n f:=by
 induction n with
 |zero=>exact SM _
 |succ n ih=>show 0<=sm n f+f n;have:=ih fun i hi=>h i (by lia);have:=h n (by lia);lia
def GQ {n j:Nat}{f:Nat->Int}(hj:j<n)(h:∀ i,i<n->i≠j->f i=0):sm n f=f j:=by
 induction n with
 |zero=>lia
 |succ n ih =>
  show sm n f+f n=f j;by_cases e:j=n
  ·subst e;rw[JL fun i hi=>h i (by lia) (by lia)];lia
  ·rw[ih (by lia) fun i hi hn=>h i (by lia) hn,h n (by lia) (by lia)];lia
def NZ {n j:Nat}{f:Nat->Int}(h:∀ i,i<n->0<=f i)(hj:j<n):f j<=sm n f:=by
 induction n with
 |zero=>lia
 |succ n ih =>
  show f j<=sm n f+f n;have h0:0<=sm n f:=zwZ fun i hi=>h i (by lia)
  have:=h n (by lia);by_cases e:j=n
  ·subst e;lia
  ·have:=ih (fun i hi=>h i (by lia)) (by lia);lia
def zsO {n j k:Nat}{f:Nat->Int}(h:∀ i,i<n->0<=f i)(hj:j<n)(hk:k<n)(ne:j≠k):f j+f k<=sm n f:=by
 induction n with
 |zero=>lia
 |succ n ih =>
  show f j+f k<=sm n f+f n;have hn:=h n (by lia);have mem:∀ i,i<n->f i<=sm n f:=fun i hi=>NZ (fun i hi=>h i (by lia)) hi
  by_cases e:j=n
  ·subst e;have:=mem k (by lia);lia
  ·by_cases e2:k=n
   ·subst e2;have:=mem j (by lia);lia
   ·have:=ih (fun i hi=>h i (by lia)) (by lia) (by lia);lia
def cL {n:Nat}{f:Nat->Int}(h:0<sm n f):∃ j,j<n/\0<f j:=by
 induction n with
 |zero=>exact absurd h (Qy 0)
 |succ n ih =>
  by_cases e:0<f n
  ·exact⟨n,by lia,e⟩
  ·obtain⟨j,hj,hp⟩:=ih (by have:0<sm n f+f n:=h;lia);exact⟨j,by lia,hp⟩
def Ŵ {n m:Nat}{f:Nat->Nat->Int}:sm n (fun i=>sm m fun j=>f i j)=sm m fun j=>sm n fun i=>f i j:=by
 induction n with
 |zero=>exact(JL fun _ _=>rfl).symm
 |succ n ih=>show sm n _+sm m _=sm m fun j=>(sm n fun i=>f i j)+f n j;rw[ih,Mi]
def uW {n:Nat}{p:Nat->Bool}:sm n (fun i=>if p i=true then 1 else 0)=(((List.range n).filter p).length:Int):=by
 induction n with
 |zero=>rfl
 |succ n ih =>
  show sm n _+_=_;rw[ih,List.range_succ,Rr,qf];cases e:p n with
  |true=>rw[Nq e];simp[e]
  |false=>rw[Ng (by rw[e];exact qr)];simp[e]
abbrev Pt:=Nat×Bool
structure Wb where
 n:Nat
 adj:Nat->Nat->Bool
 s:Nat
 t:Nat
structure Zr (W:Wb):Prop where
 irr:∀ a,W.adj a a=false
 sym:∀ a b,W.adj a b=W.adj b a
 lt:∀ a b,W.adj a b=true->a<W.n/\b<W.n
 s:W.s<W.n
 t:W.t<W.n
 st:W.s≠W.t
 na:W.adj W.s W.t=false
def Y0 (W:Wb):Pt->Pt->Int
 |(v,false),(w,true)=>if v=w/\v≠W.s/\v≠W.t/\v<W.n then 1 else 0
 |(a,true),(b,false)=>if W.adj a b=true then(W.n:Int)else 0
 |_,_=>0
def sp (W:Wb)(f:Pt->Int):Int:=sm W.n fun v=>f (v,false)+f (v,true)
def src (W:Wb):Pt:=(W.s,true)
def YL (W:Wb):Pt:=(W.t,false)
def WW (W:Wb)(c:Pt->Pt->Int)(p:Pt):Int:=sp W fun q=>Y0 W p q-c p q
structure Rk (W:Wb)(c:Pt->Pt->Int)(k:Int)(r:Pt):Prop where
 nn:∀ p q,0<=c p q
 an:∀ p q,c p q+c q p=Y0 W p q+Y0 W q p
 cs:∀ p:Pt,p.1<W.n->WW W c p=(if p=src W then k else 0)-(if p=YL W then k+1 else 0)+(if p=r then 1 else 0)
structure Zy (W:Wb)(c:Pt->Pt->Int)(k:Int):Prop where
 nn:∀ p q,0<=c p q
 an:∀ p q,c p q+c q p=Y0 W p q+Y0 W q p
 cs:∀ p:Pt,p.1<W.n->WW W c p=(if p=src W then k else 0)-(if p=YL W then k else 0)
def Zy.start {k:Int}(h:Zy W c k):Rk W c k (YL W):=by
 refine⟨h.nn,h.an,fun p hp=>?_⟩;rw[h.cs p hp];by_cases e:p=YL W
 ·rw[if_pos e,if_pos e,if_pos e];lia
 ·rw[if_neg e,if_neg e,if_neg e];lia
def Rk.end {k:Int}(h:Rk W c k (src W)):Zy W c (k+1):=by
 refine⟨h.nn,h.an,fun p hp=>?_⟩;rw[h.cs p hp];by_cases e:p=src W
 ·rw[if_pos e,if_pos e,if_pos e];lia
 ·rw[if_neg e,if_neg e,if_neg e];lia
def tk (c:Pt->Pt->Int)(a b:Pt):Pt->Pt->Int:=fun p q=>if p=a/\q=b then c a b-1 else if p=b/\q=a then c b a+1 else c p q
def JN {W:Wb}{f:Pt->Int}{b:Pt}(hb:b.1<W.n)(h:∀ q,q.1<W.n->q≠b->f q=0):sp W f=f b:=by
 unfold sp;rw[GQ hb fun i hi' hi=>?_]
 ·obtain⟨v,s⟩:=b;cases s with
  |false=>show f (v,false)+f (v,true)=_;rw[h (v,true) hb (by simp)];lia
  |true=>show f (v,false)+f (v,true)=_;rw[h (v,false) hb (by simp)];lia
 ·rw[h (i,false) hi' (fun e=>hi (by rw[<- e])),h (i,true) hi' (fun e=>hi (by rw[<- e]))];rfl
def Em {W:Wb}{f g:Pt->Int}:sp W (fun q=>f q+g q)=sp W f+sp W g:=by unfold sp;rw[<- Mi];exact TY fun i _=>by dsimp only;lia
def Nv {W:Wb}{f g:Pt->Int}(h:∀ q,f q=g q):sp W f=sp W g:=by rw[funext h]
def mF {W:Wb}{c:Pt->Pt->Int}{a b:Pt}(ha:a.1<W.n)(hb:b.1<W.n)(ne:a≠b)(p:Pt):WW W (tk c a b) p=WW W c p+(if p=a then 1 else 0)-(if p=b then 1 else 0):=by
 have e:WW W (tk c a b) p=WW W c p+sp W fun q=>c p q-tk c a b p q:=by unfold WW;rw[<- Em];exact Nv fun q=>by lia
 rw[e];by_cases h1:p=a
 ·subst h1;rw[JN hb fun q _ hq=>?_,if_pos rfl,if_neg ne]
  ·unfold tk;rw[if_pos ⟨rfl,rfl⟩];lia
  ·unfold tk;rw[if_neg (fun z=>hq z.2),if_neg (fun z=>ne z.1)];lia
 ·by_cases h2:p=b
  ·subst h2;rw[JN ha fun q _ hq=>?_,if_neg h1,if_pos rfl]
   ·unfold tk;rw[if_neg (fun z=>h1 z.1),if_pos ⟨rfl,rfl⟩];lia
   ·unfold tk;rw[if_neg (fun z=>h1 z.1),if_neg (fun z=>hq z.2)];lia
  ·rw[if_neg h1,if_neg h2,show(sp W fun q=>c p q-tk c a b p q)=0 from JL fun i _=>?_]
   ·lia
   ·have:∀ q,c p q-tk c a b p q=0:=fun q=>by unfold tk;rw[if_neg (fun z=>h1 z.1),if_neg (fun z=>h2 z.1)];lia
    show c p (i,false)-tk c a b p (i,false)+(c p (i,true)-tk c a b p (i,true))=0;rw[this,this];rfl
def Rk.step {k:Int}{a:Pt}(h:Rk W c k r)(ha:a.1<W.n)(hr:r.1<W.n)(ne:a≠r)(pos:0<c a r):Rk W (tk c a r) k a:=by
 refine⟨fun p q=>?_,fun p q=>?_,fun p hp=>?_⟩
 ·have:=h.nn p q;have:=h.nn r a;unfold tk;by_cases e1:p=a/\q=r
  ·rw[if_pos e1];lia
  ·rw[if_neg e1];by_cases e2:p=r/\q=a
   ·rw[if_pos e2];lia
   ·rw[if_neg e2];exact h.nn p q
 ·have e:=h.an p q;unfold tk;by_cases e1:p=a/\q=r
  ·obtain⟨rfl,rfl⟩:=e1;rw[if_pos ⟨rfl,rfl⟩,if_neg (fun z=>ne z.1.symm),if_pos ⟨rfl,rfl⟩];lia
  ·by_cases e2:p=r/\q=a
   ·obtain⟨rfl,rfl⟩:=e2;rw[if_neg e1,if_pos ⟨rfl,rfl⟩,if_pos ⟨rfl,rfl⟩];lia
   ·rw[if_neg e1,if_neg e2,if_neg (fun z=>e2 ⟨z.2,z.1⟩),if_neg (fun z=>e1 ⟨z.2,z.1⟩)];exact e
 ·rw[mF ha hr ne p,h.cs p hp];lia
section
variable {W:Wb}{c:Pt->Pt->Int}{k:Int}
def U4 {a b:Nat}:Y0 W (a,true) (b,false)=if W.adj a b=true then(W.n:Int)else 0:=rfl
def Tw {v w:Nat}:Y0 W (v,false) (w,true)=if v=w/\v≠W.s/\v≠W.t/\v<W.n then 1 else 0:=rfl
def Ir {v w:Nat}:Y0 W (v,false) (w,false)=0:=rfl
def Kq {v w:Nat}:Y0 W (v,true) (w,true)=0:=rfl
def arc (c:Pt->Pt->Int)(a b:Nat):Int:=if a=b then 0 else c (b,false) (a,true)
def thr (c:Pt->Pt->Int)(v:Nat):Int:=c (v,true) (v,false)
def Ou (h:Zy W c k)(a b:Nat):0<=arc c a b:=by
 unfold arc;by_cases e:a=b
 ·rw[if_pos e];exact SM _
 ·rw[if_neg e];exact h.nn _ _
def KC (h:Zy W c k){a b:Nat}(ne:a≠b):Y0 W (a,true) (b,false)-c (a,true) (b,false)=arc c a b:=by have e:=h.an (a,true) (b,false);rw[Tw (v:=b),if_neg (fun z=>ne z.1.symm)]at e;unfold arc;rw[if_neg ne];lia
def Rh (ok:Zr W)(h:Zy W c k){a b:Nat}(p:0<arc c a b):W.adj a b=true/\a≠b:=by
 have ne:a≠b:=fun e=>by unfold arc at p;rw[if_pos e]at p;exact absurd p (Qy 0)
 refine⟨?_,ne⟩;have e:=KC h ne;have n0:=h.nn (a,true) (b,false);cases hc:W.adj a b with
 |true=>rfl
 |false=>rw[U4,hc,if_neg qr]at e;lia
def yM (ok:Zr W)(h:Zy W c k)(v:Nat):Y0 W (v,false) (v,true)-c (v,false) (v,true)=thr c v:=by have e:=h.an (v,false) (v,true);rw[U4 (a:=v),ok.irr,if_neg qr]at e;unfold thr;lia
def Lj (ok:Zr W)(h:Zy W c k)(v:Nat):0<=thr c v/\thr c v<=1/\(v=W.s\/v=W.t->thr c v=0):=by
 have e:=yM ok h v;have n0:=h.nn (v,false) (v,true);have n1:0<=thr c v:=h.nn _ _;rw[Tw]at e;by_cases g:v=v/\v≠W.s/\v≠W.t/\v<W.n
 ·rw[if_pos g]at e;exact⟨n1,by lia,fun z=>by rcases z with z|z;exact absurd z g.2.1;exact absurd z g.2.2.1⟩
 ·rw[if_neg g]at e;exact⟨n1,by lia,fun _=>by lia⟩
def wJ (h:Zy W c k){v w:Nat}{s:Bool}:c (v,s) (w,s)=0:=by
 have e:=h.an (v,s) (w,s);have:=h.nn (v,s) (w,s);have:=h.nn (w,s) (v,s);cases s with
 |false=>rw[Ir,Ir]at e;lia
 |true=>rw[Kq,Kq]at e;lia
def JD (ok:Zr W)(h:Zy W c k){v:Nat}(hv:v<W.n):sm W.n (fun a=>arc c a v)=thr c v+(if v=W.t then k else 0):=by
 have e:=h.cs (v,false) hv;unfold WW sp at e
 have e2:(sm W.n fun w=>Y0 W (v,false) (w,false)-c (v,false) (w,false)+(Y0 W (v,false) (w,true)-c (v,false) (w,true)))=sm W.n (fun w=>-arc c w v)+sm W.n (fun w=>if w=v then thr c v else 0):=by
  rw[<- Mi];refine TY fun w _=>?_
  rw[Ir,wJ h];by_cases ew:w=v
  ·subst ew;rw[if_pos rfl,yM ok h];unfold arc;rw[if_pos rfl];lia
  ·rw[if_neg ew,Tw,if_neg (fun z=>ew z.1.symm)];unfold arc;rw[if_neg ew];lia
 rw[e2,Ay,GQ hv fun i _ hi=>if_neg hi,if_pos rfl]at e;rw[if_neg (show(v,false)≠src W by unfold src;simp)]at e;by_cases ev:v=W.t
 ·rw[if_pos (show(v,false)=YL W by unfold YL;rw[ev])]at e;rw[if_pos ev];lia
 ·rw[if_neg (show(v,false)≠YL W by unfold YL;intro z;exact ev (VD z).1)]at e;rw[if_neg ev];lia
def Cw (ok:Zr W)(h:Zy W c k){v:Nat}(hv:v<W.n):sm W.n (arc c v)=thr c v+(if v=W.s then k else 0):=by
 have e:=h.cs (v,true) hv;unfold WW sp at e
 have e2:(sm W.n fun w=>Y0 W (v,true) (w,false)-c (v,true) (w,false)+(Y0 W (v,true) (w,true)-c (v,true) (w,true)))=sm W.n (arc c v)+sm W.n (fun w=>if w=v then -thr c v else 0):=by
  rw[<- Mi];refine TY fun w _=>?_
  rw[Kq,wJ h];by_cases ew:w=v
  ·subst ew;rw[if_pos rfl,U4,ok.irr,if_neg qr];unfold arc thr;rw[if_pos rfl];lia
  ·rw[if_neg ew,KC h (Ne.symm ew)];lia
 rw[e2,GQ hv fun i _ hi=>if_neg hi,if_pos rfl]at e;rw[if_neg (show(v,true)≠YL W by unfold YL;simp)]at e;by_cases ev:v=W.s
 ·rw[if_pos (show(v,true)=src W by unfold src;rw[ev])]at e;rw[if_pos ev];lia
 ·rw[if_neg (show(v,true)≠src W by unfold src;intro z;exact ev (VD z).1)]at e;rw[if_neg ev];lia
def Ho (ok:Zr W)(h:Zy W c k){a b:Nat}(ha:a<W.n)(hb:b<W.n):arc c a b<=1:=by
 have n1:∀ i,i<W.n->0<=arc c i b:=fun i _=>Ou h i b
 have n2:∀ i,i<W.n->0<=arc c a i:=fun i _=>Ou h a i
 by_cases e:b=W.t
 ·by_cases e2:a=W.s
  ·by_cases g:0<arc c a b
   ·have:=(Rh ok h g).1;rw[e,e2,ok.na]at this;cases this
   ·lia
  ·have:=Cw ok h ha;rw[if_neg e2]at this;have:=(Lj ok h a).2.1;have:=NZ n2 hb;lia
 ·have:=JD ok h hb;rw[if_neg e]at this;have:=(Lj ok h b).2.1;have:=NZ n1 ha;lia
def dX (ok:Zr W)(h:Zy W c k){a a' b:Nat}(hb:b≠W.t)(p:0<arc c a b)(p':0<arc c a' b):a=a':=by
 obtain⟨l1,l2⟩:=ok.lt _ _ (Rh ok h p).1;obtain⟨l1',_⟩:=ok.lt _ _ (Rh ok h p').1;have e:=JD ok h l2;rw[if_neg hb]at e;have:=(Lj ok h b).2.1;by_cases ne:a=a'
 ·exact ne
 ·have:=zsO (fun i _=>Ou h i b) l1 l1' ne;lia
def Dh (ok:Zr W)(h:Zy W c k)(a:Nat):¬ 0<arc c a W.s:=fun p=>by obtain⟨l1,l2⟩:=ok.lt _ _ (Rh ok h p).1;have e:=JD ok h l2;rw[if_neg ok.st,(Lj ok h W.s).2.2 (.inl rfl)]at e;have:=NZ (fun i _=>Ou h i W.s) l1;lia
def Ϟ (ok:Zr W)(h:Zy W c k){a b:Nat}(hb:b≠W.t)(p:0<arc c a b):∃ d,d<W.n/\0<arc c b d:=by
 obtain⟨l1,l2⟩:=ok.lt _ _ (Rh ok h p).1;have e:=JD ok h l2;rw[if_neg hb]at e;have:=NZ (fun i _=>Ou h i b) l1;have hs:b≠W.s:=fun z=>Dh ok h a (z▸p)
 have e2:=Cw ok h l2;rw[if_neg hs]at e2;exact cL (f:=arc c b) (by lia)
def begins (ok:Zr W)(h:Zy W c k):(((List.range W.n).filter fun b=>decide (0<arc c W.s b)).length:Int)=k:=by
 rw[<- uW];have e:=Cw ok h ok.s;rw[if_pos rfl,(Lj ok h W.s).2.2 (.inl rfl)]at e;rw[<- show sm W.n (arc c W.s)=k by lia];refine TY fun b hb=>?_
 have l:=Ho ok h ok.s hb;have n:=Ou h W.s b;by_cases g:0<arc c W.s b
 ·rw[if_pos (decide_eq_true g)];lia
 ·rw[if_neg (by rw[decide_eq_false g];exact qr)];lia
def zrN {f:Pt->Pt->Int}:sp W (fun p=>sp W fun q=>f p q)=sp W fun q=>sp W fun p=>f p q:=by
 unfold sp;have e:∀ g:Pt->Pt->Int,(sm W.n fun v=>(sm W.n fun w=>g (v,false) (w,false)+g (v,false) (w,true))+sm W.n fun w=>g (v,true) (w,false)+g (v,true) (w,true))=sm W.n fun v=>sm W.n fun w=>(g (v,false) (w,false)+g (v,false) (w,true))+(g (v,true) (w,false)+g (v,true) (w,true)):=fun g=>TY fun v _=>Mi.symm
 rw[e,e (fun q p=>f p q),Ŵ];exact TY fun w _=>TY fun v _=>by lia
def tD {f:Pt->Int}:sp W (fun q=>-f q)=-sp W f:=by unfold sp;rw[<- Ay];exact TY fun i _=>by dsimp only;lia
def Dq {f:Pt->Int}(h:∀ q,q.1<W.n->f q=0):sp W f=0:=JL fun i hi=>by rw[h (i,false) hi,h (i,true) hi];rfl
structure Ny (W:Wb)(c:Pt->Pt->Int)(R:Pt->Bool):Prop where
 s:R (src W)=true
 t:R (YL W)=false
 cl:∀ p q,R p=true->0<c p q->R q=true
def XQ (R:Pt->Bool)(v:Nat):Bool:=R (v,false)&&!R (v,true)
def Đ (ok:Zr W)(h:Zy W c k){R:Pt->Bool}(hR:Ny W c R)(n2:2<=W.n)(v:Nat)(hv:v<W.n) :
  (sp W fun q=>if R (v,false)=true/\R q=false then Y0 W (v,false) q-c (v,false) q else 0)+(sp W fun q=>if R (v,true)=true/\R q=false then Y0 W (v,true) q-c (v,true) q else 0)=if XQ R v=true then 1 else 0:=by
 have z:∀ p q,R p=true->R q=false->c p q=0:=fun p q hp hq=>by
  have:=h.nn p q;by_cases g:0<c p q
  ·rw[hR.cl p q hp g]at hq;cases hq
  ·lia
 have e2:(sp W fun q=>if R (v,true)=true/\R q=false then Y0 W (v,true) q-c (v,true) q else 0)=0:=Dq fun q hq=>by
  by_cases g:R (v,true)=true/\R q=false
  ·rw[if_pos g,z _ _ g.1 g.2];obtain⟨w,s⟩:=q;cases s with
   |true=>rw[Kq];rfl
   |false =>
    rw[U4];by_cases ha:W.adj v w=true
    ·have ne:v≠w:=fun e=>by rw[e,ok.irr]at ha;cases ha
     have e:=KC h ne;have l:arc c v w<=1:=Ho ok h hv hq;rw[z _ _ g.1 g.2,U4,if_pos ha]at e;lia
    ·rw[if_neg ha];rfl
  ·rw[if_neg g]
 rw[e2,JN (b:=(v,true)) hv fun q _ hq=>?_]
 ·unfold XQ;by_cases g:R (v,false)=true/\R (v,true)=false
  ·have h1:v≠W.s:=fun e=>by
    have:=hR.s;unfold src at this;rw[<- e,g.2]at this;cases this
   have h2:v≠W.t:=fun e=>by have:=hR.t;unfold YL at this;rw[<- e,g.1]at this;cases this
   rw[if_pos g,z _ _ g.1 g.2,if_pos (by rw[g.1,g.2];rfl),Tw,if_pos ⟨rfl,h1,h2,hv⟩];rfl
  ·have h1:¬ (R (v,false)&&!R (v,true))=true:=fun e=>g (by
    rw[qw,Bool.not_eq_true']at e;exact e)
   rw[if_neg g,if_neg h1];rfl
 ·by_cases g:R (v,false)=true/\R q=false
  ·rw[if_pos g,z _ _ g.1 g.2];obtain⟨w,s⟩:=q;cases s with
   |false=>rw[Ir];rfl
   |true=>rw[Tw,if_neg (fun e=>hq (by rw[e.1]))];rfl
  ·rw[if_neg g]
def keepers (ok:Zr W)(h:Zy W c k){R:Pt->Bool}(hR:Ny W c R):(((List.range W.n).filter (XQ R)).length:Int)=k:=by
 have n2:2<=W.n:=by have:=ok.s;have:=ok.t;have:=ok.st;lia
 rw[<- uW]
 have a1:(sp W fun p=>if R p=true then WW W c p else 0)=k:=by
  rw[JN (b:=src W) ok.s fun p g hp=>?_,if_pos hR.s,h.cs _ ok.s,if_pos rfl,if_neg (by unfold src YL;simp)]
  ·lia
  ·by_cases r:R p=true
   ·rw[if_pos r,h.cs p g,if_neg hp,if_neg (fun e=>by rw[e,hR.t]at r;cases r)];rfl
   ·rw[if_neg r]
 obtain⟨F,hF⟩:∃ F:Pt->Pt->Int,F=fun p q=>Y0 W p q-c p q:=⟨_,rfl⟩
 have anti:∀ p q,F q p=-F p q:=fun p q=>by rw[hF];have:=h.an p q;dsimp only;lia
 have a2:(sp W fun p=>if R p=true then WW W c p else 0)=(sp W fun p=>sp W fun q=>if R p=true/\R q=true then F p q else 0)+sp W fun p=>sp W fun q=>if R p=true/\R q=false then F p q else 0:=by
  rw[<- Em];refine Nv fun p=>?_
  rw[<- Em];by_cases r:R p=true
  ·rw[if_pos r];unfold WW;refine Nv fun q=>?_
   rw[hF];cases e:R q with
   |true=>rw[if_pos ⟨r,rfl⟩,if_neg (fun z=>by cases z.2)];dsimp only;lia
   |false=>rw[if_neg (fun z=>by cases z.2),if_pos ⟨r,rfl⟩];dsimp only;lia
  ·rw[if_neg r,Dq fun q _=>?_];rw[if_neg (fun z=>r z.1),if_neg (fun z=>r z.1)];rfl
 have a3:(sp W fun p=>sp W fun q=>if R p=true/\R q=true then F p q else 0)=0:=by
  have e:(sp W fun p=>sp W fun q=>if R p=true/\R q=true then F p q else 0)=-(sp W fun p=>sp W fun q=>if R p=true/\R q=true then F p q else 0):=by
   conv=>lhs;rw[zrN]
   rw[<- tD];refine Nv fun q=>?_
   rw[<- tD];refine Nv fun p=>?_
   by_cases g:R p=true/\R q=true
   ·rw[if_pos g,if_pos ⟨g.2,g.1⟩,anti q p]
   ·rw[if_neg g,if_neg (fun z=>g ⟨z.2,z.1⟩)];rfl
  lia
 rw[a3,Int.zero_add,a1]at a2;rw[a2];unfold sp;refine TY fun v hv=>?_
 rw[<- Đ ok h hR n2 v hv,hF];rfl
def zos (ok:Zr W)(h:Zy W c k){R:Pt->Bool}(hR:Ny W c R)(hv:R (v,true)=true)(ha:W.adj v w=true):R (w,false)=true/\w≠W.t/\(XQ R w=false->R (w,true)=true):=by
 have n2:2<=W.n:=by have:=ok.s;have:=ok.t;have:=ok.st;lia
 obtain⟨l1,l2⟩:=ok.lt _ _ ha;have ne:v≠w:=fun e=>by rw[e,ok.irr]at ha;cases ha
 have e:=KC h ne;have l:=Ho ok h l1 l2;rw[U4,if_pos ha]at e;have r:R (w,false)=true:=hR.cl _ _ hv (by lia);refine⟨r,fun z=>?_,fun k'=>?_⟩
 ·have:=hR.t;unfold YL at this;rw[<- z,r]at this;cases this
 ·unfold XQ at k';rw[r,Bool.true_and]at k';cases e2:R (w,true)with
  |true=>rfl
  |false=>rw[e2]at k';cases k'
def zva (h:Ny W c R):XQ R W.s=false/\XQ R W.t=false:=by have h1:=h.s;have h2:=h.t;unfold src at h1;unfold YL at h2;unfold XQ;rw[h1,h2];exact⟨by simp,rfl⟩
structure Xu (W:Wb)(c:Pt->Pt->Int)(vs:List Nat):Prop where
 hd:vs[0]?=some W.s
 ch:∀ (i a b:Nat),vs[i]?=some a->vs[i+1]?=some b->0<arc c a b
 nt:∀ (i a:Nat),vs[i]?=some a->i+1<vs.length->a≠W.t
def Xu.same (ok:Zr W)(h:Zy W c k)(A:Xu W c vs)(B:Xu W c ws):∀ (i j v:Nat),vs[i]?=some v->ws[j]?=some v->v≠W.t->i=j/\∀ m,m<=i->vs[m]?=ws[m]?:=by
 intro i
 induction i with
 |zero =>
  intro j v hi hj nt;have ev:v=W.s:=by rw[A.hd]at hi;exact(qF hi).symm
  cases j with
  |zero=>exact⟨rfl,fun m hm=>by rw[show m=0 by lia,A.hd,B.hd]⟩
  |succ j =>
   have lj:j<ws.length:=by
    rcases qT j ws.length with g|g
    ·exact g
    ·rw[qB (by lia)]at hj;cases hj
   have:=B.ch j _ v (qb lj) hj;rw[ev]at this;exact absurd this (Dh ok h _)
 |succ i ih =>
  intro j v hi hj nt
  have li:i+1<vs.length:=by
   rcases qT (i+1) vs.length with g|g
   ·exact g
   ·rw[qB g]at hi;cases hi
  have gi:vs[i]?=some (vs[i]'(by lia)):=qb (by lia);have a1:=A.ch i _ v gi hi;cases j with
  |zero =>
   have ev:v=W.s:=by rw[B.hd]at hj;exact(qF hj).symm
   rw[ev]at a1;exact absurd a1 (Dh ok h _)
  |succ j =>
   have lj:j+1<ws.length:=by
    rcases qT (j+1) ws.length with g|g
    ·exact g
    ·rw[qB g]at hj;cases hj
   have gj:ws[j]?=some (ws[j]'(by lia)):=qb (by lia);have a2:=B.ch j _ v gj hj;have e:=dX ok h nt a1 a2;obtain⟨e1,e2⟩:=ih j _ gi (by rw[gj,e]) (A.nt i _ gi li);refine⟨by lia,fun m hm=>?_⟩;by_cases g:m<=i
   ·exact e2 m g
   ·rw[show m=i+1 by lia,hi,e1,hj]
def Xu.nodup (ok:Zr W)(h:Zy W c k)(A:Xu W c vs):vs.Nodup:=by
 refine Ut.mpr fun i j hi hj l e=>?_
 have gi:vs[i]?=some vs[i]:=qb hi;have gj:vs[j]?=some vs[i]:=by rw[e];exact qb hj
 have:=(A.same ok h A i j _ gi gj (A.nt i _ gi (by lia))).1;lia
theorem Xu.lt (ok:Zr W)(h:Zy W c k)(A:Xu W c vs):∀ v∈vs,v<W.n:=by
 intro v hv;obtain⟨i,hi⟩:=Vv.mp hv;cases i with
 |zero=>rw[A.hd]at hi;cases hi;exact ok.s
 |succ i =>
  have li:i<vs.length:=by
   rcases qT i vs.length with g|g
   ·exact g
   ·rw[qB (by lia)]at hi;cases hi
  exact(ok.lt _ _ (Rh ok h (A.ch i _ v (qb li) hi)).1).2
def Xu.apart (ok:Zr W)(h:Zy W c k)(A:Xu W c vs)(B:Xu W c ws)(ne:vs[1]?≠ws[1]?){v:Nat}(hv:v∈vs)(hw:v∈ws):v=W.s\/v=W.t:=by
 by_cases nt:v=W.t
 ·exact .inr nt
 ·obtain⟨i,hi⟩:=Vv.mp hv;obtain⟨j,hj⟩:=Vv.mp hw;obtain⟨_,e⟩:=A.same ok h B i j v hi hj nt;cases i with
  |zero=>rw[A.hd]at hi;cases hi;exact .inl rfl
  |succ i=>exact absurd (e 1 (by lia)) ne
def Xu.snoc (A:Xu W c vs){a b:Nat}(hl:vs[vs.length-1]?=some a)(na:a≠W.t)(p:0<arc c a b):Xu W c (vs++[b]):=by
 have pos:0<vs.length:=by
  rcases Nat.eq_zero_or_pos vs.length with g|g
  ·rw[qB (by lia)]at hl;cases hl
  ·exact g
 refine⟨by rw[qg pos];exact A.hd,fun i x y hx hy=>?_,fun i x hx hi=>?_⟩
 ·by_cases g:i+1<vs.length
  ·rw[qg (by lia)]at hx;rw[qg g]at hy;exact A.ch i x y hx hy
  ·have l:i+1<(vs++[b]).length:=by
    rcases qT (i+1) (vs++[b]).length with g|g
    ·exact g
    ·rw[qB g]at hy;cases hy
   have e:i+1=vs.length:=by rw[qf,qQ]at l;lia
   rw[e,qe (qh _),Yp]at hy;have ey:b=y:=by simpa using hy
   rw[qg (by lia),show i=vs.length-1 by lia,hl]at hx;cases hx;rw[<- ey];exact p
 ·rw[qf,qQ]at hi;rw[qg (by lia)]at hx;by_cases g:i+1<vs.length
  ·exact A.nt i x hx g
  ·rw[show i=vs.length-1 by lia,hl]at hx;cases hx;exact na
theorem wC:∀ (rs:List (List Nat)) (K:List Nat),(∀ r∈rs,∃ v∈K,v∈r)->rs.Pairwise (fun r r'=>∀ v∈K,v∈r->v∉r')->rs.length<=K.length
 |[],_,_,_=>qY _
 |r::rs,K,h,hp=>by
  obtain⟨v,hv,hr⟩:=h r (by simp);obtain⟨h1,h2⟩:=List.pairwise_cons.mp hp
  have:=wC rs (K.erase v) (fun r' hr'=>by
   obtain⟨u,hu,hur⟩:=h r' (qj _ hr');have ne:u≠v:=fun e=>h1 r' hr' v hv hr (e▸hur)
   exact⟨u,(JG ne).mpr hu,hur⟩) (h2.imp fun hh u hu=>hh u (List.mem_of_mem_erase hu))
  rw[J1 hv]at this;have:=K1 hv;rw[qR];lia
structure Bf (c:Pt->Pt->Int)(st:Pt)(fo:List (Pt×Option Pt))(wt:List Pt)(dn:Pt->Pt->Prop):Prop where
 hd:fo[0]?=some (st,none)
 nd:(fo.map (·.1)).Nodup
 pr:∀ (i:Nat) (p:Pt) (o:Option Pt),fo[i]?=some (p,o)->i≠0->∃ (j:Nat) (q:Pt) (o':Option Pt),j<i/\o=some q/\fo[j]?=some (q,o')/\0<c q p
 wn:wt.Nodup
 wf:∀ p∈wt,p∈fo.map (·.1)
 cl:∀ p∈fo.map (·.1),p∉wt->∀ q,dn p q->0<c p q->q∈fo.map (·.1)
def Bf.start {c:Pt->Pt->Int}{st:Pt}{dn:Pt->Pt->Prop}:Bf c st [(st,none)] [st] dn:=by
 refine⟨rfl,by simp,fun i p o h hi=>?_,by simp,fun p hp=>hp,fun p hp hn=>absurd hp hn⟩;cases i with
 |zero=>exact absurd rfl hi
 |succ i=>simp at h
def Bf.pop {st:Pt}{wt:List Pt}{dn:Pt->Pt->Prop}(B:Bf c st fo (p::wt) dn):Bf c st fo wt (fun a q=>a≠p/\dn a q)/\p∈fo.map (·.1)/\p∉wt:=by
 obtain⟨n1,n2⟩:=VH.mp B.wn;refine⟨⟨B.hd,B.nd,B.pr,n2,fun a ha=>B.wf a (qj _ ha),fun a ha hn q hd hc=>?_⟩,B.wf p (by simp),n1⟩;refine B.cl a ha (fun z=>?_) q hd.2 hc;rcases ql.mp z with z|z
 ·exact hd.1 z
 ·exact hn z
def Bf.add {st p q:Pt}{dn:Pt->Pt->Prop}(B:Bf c st fo wt dn)(hp:p∈fo.map (·.1))(hq:q∉fo.map (·.1))(hc:0<c p q):Bf c st (fo++[(q,some p)]) (wt++[q]) dn:=by
 have l0:0<fo.length:=by
  rcases Nat.eq_zero_or_pos fo.length with g|g
  ·have:=B.hd;rw[qB (by lia)]at this;cases this
  ·exact g
 have up:∀ {x:Pt},x∈fo.map (·.1)->x∈(fo++[(q,some p)]).map (·.1):=fun {x} hx=>by rw[qA];exact qX _ hx
 refine⟨by rw[qg l0];exact B.hd,?_,fun i a o h hi=>?_,?_,fun a ha=>?_,fun a ha hn b hd hc'=>?_⟩
 ·rw[qA,VR];refine⟨B.nd,by simp,fun x hx y hy e=>hq ?_⟩;have:y=q:=by simpa using hy
  rw[<- this,<- e];exact hx
 ·by_cases g:i<fo.length
  ·rw[qg g]at h;obtain⟨j,u,o',l,e,hj,hc'⟩:=B.pr i a o h hi;exact⟨j,u,o',l,e,by rw[qg (by lia)];exact hj,hc'⟩
  ·have l:i<(fo++[(q,some p)]).length:=by
    rcases qT i (fo++[(q,some p)]).length with g|g
    ·exact g
    ·rw[qB g]at h;cases h
   have e:i=fo.length:=by rw[qf,qQ]at l;lia
   rw[e,qe (qh _),Yp]at h;have h':(q,some p)=(a,o):=by simpa using h
   obtain⟨rfl,rfl⟩:=VD h';obtain⟨⟨p',o'⟩,hm,rfl⟩:=qv.mp hp;obtain⟨j,hj⟩:=Vv.mp hm
   have lj:j<fo.length:=by
    rcases qT j fo.length with g|g
    ·exact g
    ·rw[qB g]at hj;cases hj
   exact⟨j,p',o',by lia,rfl,by rw[qg lj];exact hj,hc⟩
 ·rw[VR];refine⟨B.wn,by simp,fun x hx y hy e=>hq ?_⟩;have:y=q:=by simpa using hy
  rw[<- this,<- e];exact B.wf x hx
 ·rcases qD.mp ha with ha|ha
  ·exact up (B.wf a ha)
  ·have:a=q:=by simpa using ha
   rw[this,qA];exact qL _ (by simp)
 ·have hn':a∉wt:=fun z=>hn (qX _ z)
  have ha':a∈fo.map (·.1):=by
   rw[qA]at ha;rcases qD.mp ha with ha|ha
   ·exact ha
   ·have:a=q:=by simpa using ha
    exact absurd (qL _ (by rw[this];simp)) hn
  exact up (B.cl a ha' hn' b hd hc')
structure Qg (W:Wb)(c c':Pt->Pt->Int)(k:Int)(fo:List (Pt×Option Pt))(i:Nat)(r:Pt)(o:Option Pt):Prop where
 p:Rk W c' k r
 at':fo[i]?=some (r,o)
 kp:∀ p q,(∀ (j:Nat) o,fo[j]?=some (p,o)->j<=i)->(∀ (j:Nat) o,fo[j]?=some (q,o)->j<=i)->c' p q=c p q
def Ef {fo:List (Pt×Option Pt)}(nd:(fo.map (·.1)).Nodup){i j:Nat}{p:Pt}{o o':Option Pt}(hi:fo[i]?=some (p,o))(hj:fo[j]?=some (p,o')):i=j:=by
 have hi':(fo.map (·.1))[i]?=some p:=by rw[qi,hi];rfl
 have hj':(fo.map (·.1))[j]?=some p:=by rw[qi,hj];rfl
 have li:i<(fo.map (·.1)).length:=by
  rcases qT i (fo.map (·.1)).length with g|g
  ·exact g
  ·rw[qB g]at hi';cases hi'
 have lj:j<(fo.map (·.1)).length:=by
  rcases qT j (fo.map (·.1)).length with g|g
  ·exact g
  ·rw[qB g]at hj';cases hj'
 rw[qb li]at hi';rw[qb lj]at hj';exact(P0 nd).mp (qF (hi'.trans hj'.symm))
theorem Qg.step {st a:Pt}{dn:Pt->Pt->Prop}(B:Bf c st fo wt dn)(T:Qg W c c' k fo i r (some a))(lt:∀ p∈fo.map (·.1),p.1<W.n):∃ (j:Nat) (o:Option Pt),j<i/\a≠r/\c' a r=c a r/\0<c a r/\Qg W c (tk c' a r) k fo j a o:=by
 have i0:i≠0:=fun e=>by have:=B.hd;rw[<- e,T.at']at this;cases this
 obtain⟨j,q,o',l,e,hj,hc⟩:=B.pr i r _ T.at' i0;cases e;have mem:∀ {i:Nat} {p:Pt} {o:Option Pt},fo[i]?=some (p,o)->p∈fo.map (·.1):=fun h=>qv.mpr ⟨_,qc h,rfl⟩
 have ne:a≠r:=fun e=>by rw[e]at hj;have:=Ef B.nd hj T.at';lia
 have ec:c' a r=c a r:=T.kp a r (fun m o h=>by have:=Ef B.nd h hj;lia) (fun m o h=>by have:=Ef B.nd h T.at';lia);refine⟨j,o',l,ne,ec,hc,T.p.step (lt _ (mem hj)) (lt _ (mem T.at')) ne (by rw[ec];exact hc),hj,fun p q hp hq=>?_⟩
 have hr:∀ {x:Pt},(∀ (m:Nat) o,fo[m]?=some (x,o)->m<=j)->x≠r:=fun hx e=>by have:=hx i _ (e▸T.at');lia
 unfold tk;rw[if_neg (fun z=>hr hq z.2),if_neg (fun z=>hr hp z.1)];exact T.kp p q (fun m o h=>by have:=hp m o h;lia) (fun m o h=>by have:=hq m o h;lia)
def Qg.last {st:Pt}{dn:Pt->Pt->Prop}(B:Bf c st fo wt dn)(T:Qg W c c' k fo i r none):r=st:=by
 by_cases e:i=0
 ·have:=T.at';rw[e,B.hd]at this;cases this;rfl
 ·obtain⟨j,q,o',l,e',_⟩:=B.pr i r _ T.at' e;cases e'
def ε (p q:Pt):0<=Y0 W p q:=by
  obtain⟨v,s⟩:=p;obtain⟨w,r⟩:=q;cases s<;>cases r
  . exact SM _
  . rw[Tw];by_cases g:v=w/\v≠W.s/\v≠W.t/\v<W.n
    . rw[if_pos g];decide
    . rw[if_neg g];exact SM _
  . rw[U4];by_cases g:W.adj v w=true
    . rw[if_pos g];lia
    . rw[if_neg g];exact SM _
  . exact SM _
def Zy.zero:Zy W (Y0 W) 0:=by
 refine⟨ε,fun _ _=>rfl,fun p _=>?_⟩;rw[show WW W (Y0 W) p=0 from Dq fun q _=>Int.sub_self _];by_cases e1:p=src W
 ·rw[if_pos e1];by_cases e2:p=YL W
  ·rw[if_pos e2];rfl
  ·rw[if_neg e2];rfl
 ·rw[if_neg e1];by_cases e2:p=YL W
  ·rw[if_pos e2];rfl
  ·rw[if_neg e2];rfl
def Zy.few (ok:Zr W)(h:Zy W c k):0<=k/\k<=W.n:=by have e:=begins ok h;have l:=Rg (fun b=>decide (0<arc c W.s b)) (List.range W.n);rw[Tn]at l;lia
def Bf.cls (B:Bf c (src W) fo [] fun _ _=>True)(ng:YL W∉fo.map (·.1)):Ny W c fun p=>decide (p∈fo.map (·.1)):=by refine⟨decide_eq_true (qv.mpr ⟨_,qc B.hd,rfl⟩),decide_eq_false ng,fun p q hp hc=>decide_eq_true (B.cl p (of_decide_eq_true hp) (by simp) q True.intro hc)⟩
end
abbrev SK:=Sum Int Str
def Z5 (zs:List Str)(i:Nat):Str:=zs.getD i Str.empty
def Uj (b:Bool):Int:=if b=true then 1 else 0
abbrev kp (zs:List Str)(p:Pt):List SK:=[.inr (Z5 zs p.1),.inl (Uj p.2)]
abbrev Y9 (zs:List Str)(p:Pt):D:=.tup [.str (Z5 zs p.1),.int (Uj p.2)]
def Mx {zs:List Str}{i:Nat}{z:Str}(h:zs[i]?=some z):Z5 zs i=z:=by unfold Z5;rw[qG,h];rfl
def Xx {zs:List Str}{i:Nat}(h:i<zs.length):zs[i]?=some (Z5 zs i):=by rw[Mx (qb h)];exact qb h
def oH {a b:Bool}(h:Uj a=Uj b):a=b:=by cases a<;>cases b<;>first|rfl|cases h
def X3 {zs:List Str}(nd:zs.Nodup){i j:Nat}(hi:i<zs.length)(hj:j<zs.length)(e:Z5 zs i=Z5 zs j):i=j:=Ro nd (Xx hi) (by rw[e];exact Xx hj)
def CK {zs:List Str}(nd:zs.Nodup){p q:Pt}(hp:p.1<zs.length)(hq:q.1<zs.length)(e:kp zs p=kp zs q):p=q:=by obtain⟨e1,e2⟩:=List.cons.inj e;have e3:=Sum.inl.inj (List.cons.inj e2).1;exact Uc (X3 nd hp hq (Sum.inr.inj e1)) (oH e3)
def nM {κ:Type}[DecidableEq κ]{Z8:List (κ×D)}{k:κ}{d:D}(h:dval Z8 k=some d):(k,d)∈Z8:=by
 induction Z8 with
 |nil=>cases h
 |cons p Z8 ih =>
  rw[Wi]at h;by_cases e:p.1=k
  ·rw[if_pos e]at h;cases h;rw[<- e];exact qI
  ·rw[if_neg e]at h;exact qj _ (ih h)
theorem Td {α:Type}[DecidableEq α]:∀ {F N:List α},F.Nodup->(∀ x∈F,x∈N)->F.length<=N.length
 |[],_,_,_=>qY _
 |x::F,N,nd,h=>by
  obtain⟨n1,n2⟩:=VH.mp nd;have hx:=h x (by simp);have:=Td (F:=F) (N:=N.erase x) n2 fun y hy=>(JG (fun e:y=x=>n1 (e▸hy))).mpr (h y (qj _ hy))
  rw[J1 hx]at this;have:=K1 hx;rw[qR];lia
def Vg (n:Nat):List Pt:=(List.range n).map (fun v=>(v,false))++(List.range n).map fun v=>(v,true)
def Cz (n:Nat):(Vg n).length=2*n:=by unfold Vg;simp;lia
def Er {n:Nat}{p:Pt}(h:p.1<n):p∈Vg n:=by
 obtain⟨v,s⟩:=p;unfold Vg;cases s with
 |false=>exact qX _ (qv.mpr ⟨v,List.mem_range.mpr h,rfl⟩)
 |true=>exact qL _ (qv.mpr ⟨v,List.mem_range.mpr h,rfl⟩)
def VP (c:Pt->Pt->Int)(p q:Pt)(x:Int):Pt->Pt->Int:=fun p' q'=>if p'=p/\q'=q then x else c p' q'
structure Zd (zs:List Str)(Z8:List (List (List SK)×D))(c:Pt->Pt->Int):Prop where
 nd:(Z8.map (·.1)).Nodup
 ky:∀ x∈Z8,∃ p q:Pt,p.1<zs.length/\q.1<zs.length/\x=([kp zs p,kp zs q],.int (c p q))
 vl:∀ p q:Pt,p.1<zs.length->q.1<zs.length->dval Z8 [kp zs p,kp zs q]=none->c p q=0
section
variable {zs:List Str}{Z8:List (List (List SK)×D)}{c:Pt->Pt->Int}
def yw (nd:zs.Nodup){p q p' q':Pt}(hp:p.1<zs.length)(hq:q.1<zs.length)(hp':p'.1<zs.length)(hq':q'.1<zs.length)(e:[kp zs p,kp zs q]=[kp zs p',kp zs q']):p=p'/\q=q':=by obtain⟨e1,e2⟩:=List.cons.inj e;exact⟨CK nd hp hp' e1,CK nd hq hq' (List.cons.inj e2).1⟩
def Zd.len (R:Zd zs Z8 c)(h12:zs.length<=12):Z8.length<big:=by
 have h:=Td (N:=(Vg zs.length).flatMap fun p=>(Vg zs.length).map fun q=>[kp zs p,kp zs q]) R.nd fun k hk=>by obtain⟨x,hx,rfl⟩:=qv.mp hk;obtain⟨p,q,hp,hq,rfl⟩:=R.ky x hx;exact List.mem_flatMap.mpr ⟨p,Er hp,qv.mpr ⟨q,Er hq,rfl⟩⟩
 rw[qa,List.length_flatMap]at h
 have e:((Vg zs.length).map fun p=>((Vg zs.length).map fun q=>[kp zs p,kp zs q]).length).sum<=24*24:=by
  have:∀ l:List Pt,(l.map fun p=>((Vg zs.length).map fun q=>[kp zs p,kp zs q]).length).sum<=l.length*24:=fun l=>by
   induction l with
   |nil=>exact qh _
   |cons a l ih =>rw[qP,List.sum_cons,qa,Cz,qR,Nat.succ_mul];lia
  have:=this (Vg zs.length);rw[Cz]at this;lia
 unfold big;lia
def Zd.get (R:Zd zs Z8 c)(nd:zs.Nodup){p q:Pt}(hp:p.1<zs.length)(hq:q.1<zs.length):(dval Z8 [kp zs p,kp zs q]=none/\c p q=0)\/dval Z8 [kp zs p,kp zs q]=some (.int (c p q)):=by
 cases e:dval Z8 [kp zs p,kp zs q]with
 |none=>exact .inl ⟨rfl,R.vl p q hp hq e⟩
 |some d =>obtain⟨p',q',hp',hq',e'⟩:=R.ky _ (nM e);obtain⟨e1,e2⟩:=VD e';obtain⟨rfl,rfl⟩:=yw nd hp hq hp' hq' e1;exact .inr (by rw[e2])
def Zd.put (R:Zd zs Z8 c)(nd:zs.Nodup){p q:Pt}(hp:p.1<zs.length)(hq:q.1<zs.length)(x:Int):Zd zs (dput Z8 [kp zs p,kp zs q] (.int x)) (VP c p q x):=by
 have ne:∀ {p' q':Pt},p'.1<zs.length->q'.1<zs.length->[kp zs p',kp zs q']≠[kp zs p,kp zs q]->VP c p q x p' q'=c p' q':=fun {p' q'} _ _ h=>if_neg fun e=>h (by rw[e.1,e.2])
 refine⟨?_,fun y hy=>?_,fun p' q' hp' hq' h=>?_⟩
 ·rw[gF];by_cases e:(dval Z8 [kp zs p,kp zs q]).isSome=true
  ·rw[if_pos e];exact R.nd
  ·rw[if_neg e,VR];refine⟨R.nd,by simp,fun a ha b hb hab=>e ?_⟩;have hb':b=[kp zs p,kp zs q]:=by simpa using hb
   subst hab hb';obtain⟨y,hy,ey⟩:=qv.mp ha;rw[<- Rq,List.any_eq_true];exact⟨y,hy,decide_eq_true ey⟩
 ·unfold dput at hy;split at hy
  ·obtain⟨y',hy',rfl⟩:=qv.mp hy;obtain⟨p',q',hp',hq',rfl⟩:=R.ky y' hy';by_cases e:[kp zs p',kp zs q']=[kp zs p,kp zs q]
   ·exact⟨p,q,hp,hq,by rw[if_pos e,e,show VP c p q x p q=x from if_pos ⟨rfl,rfl⟩]⟩
   ·exact⟨p',q',hp',hq',by rw[if_neg e,ne hp' hq' e]⟩
  ·rename_i hno;rcases qD.mp hy with hy|hy
   ·obtain⟨p',q',hp',hq',e⟩:=R.ky y hy;refine⟨p',q',hp',hq',?_⟩;rw[ne hp' hq' fun e2=>hno (List.any_eq_true.mpr ⟨y,hy,decide_eq_true (by rw[e,e2])⟩)];exact e
   ·have:y=([kp zs p,kp zs q],.int x):=by simpa using hy
    exact⟨p,q,hp,hq,by rw[this,show VP c p q x p q=x from if_pos ⟨rfl,rfl⟩]⟩
 ·rw[zoP]at h;by_cases e:[kp zs p,kp zs q]=[kp zs p',kp zs q']
  ·rw[if_pos e]at h;cases h
  ·rw[if_neg e]at h;rw[ne hp' hq' (Ne.symm e)];exact R.vl p' q' hp' hq' h
def Zd.cg {c':Pt->Pt->Int}(R:Zd zs Z8 c)(h:∀ p q:Pt,p.1<zs.length->q.1<zs.length->c p q=c' p q):Zd zs Z8 c' :=⟨R.nd,fun x hx=>by obtain⟨p,q,hp,hq,e⟩:=R.ky x hx;exact⟨p,q,hp,hq,by rw[<- h p q hp hq];exact e⟩,fun p q hp hq e=>by rw[<- h p q hp hq];exact R.vl p q hp hq e⟩
def Zd.nil:Zd zs [] fun _ _=>0:=⟨by simp,fun x hx=>(by cases hx),fun _ _ _ _ _=>rfl⟩
def ĺ {a b:Pt}(ne:a≠b):VP (VP c a b (c a b-1)) b a (c b a+1)=tk c a b:=by
 funext p q;unfold VP tk;by_cases h1:p=a/\q=b
 ·rw[if_neg (fun z=>ne (h1.1.symm.trans z.1)),if_pos h1,if_pos h1]
 ·by_cases h2:p=b/\q=a
  ·rw[if_pos h2,if_neg h1,if_pos h2]
  ·rw[if_neg h2,if_neg h1,if_neg h1,if_neg h2]
def O1 {S T:Z7}{c c':Cell}:(S++c::T).set S.length c'=S++c'::T:=by simp
variable {S:Z7}{n e:Nat}
def Zd.puts (R:Zd zs Z8 c)(nd:zs.Nodup)(h12:zs.length<=12)(hn:S[n]?=some (.dn Z8 e)){p q:Pt}(hp:p.1<zs.length)(hq:q.1<zs.length){x:Int}{P:Z7->Prop}
  (k:∀ kvs' e',Zd zs kvs' (VP c p q x)->Put P S n (.dn kvs' e')):O5 S (.ref n) (.tup [Y9 zs p,Y9 zs q]) (.int x) P :=
 O5.n (ks:=[kp zs p,kp zs q]) hn (R.len h12) fun e'=>k _ e' (R.put nd hp hq x)
def Zd.gets (R:Zd zs Z8 c)(nd:zs.Nodup)(hn:S[n]?=some (.dn Z8 e)){p q:Pt}(hp:p.1<zs.length)(hq:q.1<zs.length):∃ o,Zc S (.ref n) (.tup [Y9 zs p,Y9 zs q]) o/\o.getD (.int 0)=.int (c p q)/\(c p q≠0->o=some (.int (c p q))):=by
 refine⟨_,Zc.n (ks:=[kp zs p,kp zs q]) hn rfl,?_⟩;rcases R.get nd hp hq with⟨h1,h2⟩|h
 ·rw[h1,h2];exact⟨rfl,fun z=>absurd rfl z⟩
 ·rw[h];exact⟨rfl,fun _=>rfl⟩
end
def zs6 {zs:List Str}(nd:zs.Nodup){p q:Pt}(hp:p.1<zs.length)(hq:q.1<zs.length):eqv (Y9 zs p) (Y9 zs q)=decide (p=q):=by
 show((Z5 zs p.1==Z5 zs q.1)&&(decide (Uj p.2=Uj q.2)&&true))=_;rw[Bool.and_true];by_cases h:p=q
 ·subst h;simp
 ·rw[decide_eq_false h];by_cases h1:Z5 zs p.1=Z5 zs q.1
  ·have e1:=X3 nd hp hq h1;have:Uj p.2≠Uj q.2:=fun z=>h (Uc e1 (oH z))
   rw[decide_eq_false this,SX]
  ·rw[show(Z5 zs p.1==Z5 zs q.1)=false from beq_eq_false_iff_ne.mpr h1];rfl
def m7 {zs:List Str}(fz:∀ z∈zs,fl 20 (.str z)=true){p:Pt}(hp:p.1<zs.length):fl 20 (Y9 zs p)=true:=by have:=fz _ (qc (Xx hp));show([D.str (Z5 zs p.1),D.int (Uj p.2)]).all (fl 19)=true;simp only[V1,List.all_nil,Bool.and_true];show(fl 19 (.str (Z5 zs p.1))&&true)=true;rw[Bool.and_true];exact this
def ztG {zs:List Str}(nd:zs.Nodup)(fz:∀ z∈zs,fl 20 (.str z)=true){S:Z7}{Q:DK}{p q:Pt}(hp:p.1<zs.length)(hq:q.1<zs.length)(k:Q (.bl (decide (p=q))) S):oEq (Y9 zs p) (Y9 zs q) S Q :=⟨_,.inl ⟨m7 fz hp,m7 fz hq,rfl⟩,by rw[zs6 nd hp hq];exact k⟩
def fk (zs:List Str)(x:Pt×Option Pt):List SK×D:=(kp zs x.1,match x.2 with|none=>.non|some q=>Y9 zs q)
section
variable {zs:List Str}{fo:List (Pt×Option Pt)}{S:Z7}{n:Nat}
theorem Ue (nd:zs.Nodup){p:Pt}(hp:p.1<zs.length):∀ {fo:List (Pt×Option Pt)},(∀ x∈fo.map (·.1),x.1<zs.length)->(fo.map (·.1)).Nodup->∀ o:Option Pt,((p,o)∈fo->dval (fo.map (fk zs)) (kp zs p)=some (fk zs (p,o)).2)/\(p∉fo.map (·.1)->dval (fo.map (fk zs)) (kp zs p)=none)
 |[],_,_,o=>⟨fun h=>(by cases h),fun _=>rfl⟩
 |x::fo,lt,n1,o=>by
  obtain⟨n2,n3⟩:=VH.mp n1;have ih:=Ue nd hp (fo:=fo) (fun y hy=>lt y (qj _ hy)) n3 o;rw[qP,Wi];by_cases e:x.1=p
  ·subst e;refine⟨fun h=>?_,fun h=>absurd (qI) h⟩;rw[if_pos (show(fk zs x).1=kp zs x.1 from rfl)];rcases ql.mp h with h|h
   ·rw[<- h]
   ·exact absurd (qv.mpr ⟨_,h,rfl⟩) n2
  ·have e2:¬ (fk zs x).1=kp zs p:=fun z=>e (CK nd (lt _ qI) hp z)
   rw[if_neg e2];refine⟨fun h=>ih.1 ?_,fun h=>ih.2 fun z=>h (qj _ z)⟩;rcases ql.mp h with h|h
   ·exact absurd (by rw[<- h]) e
   ·exact h
def dW (nd:zs.Nodup){p q:Pt}(hp:p.1<zs.length)(lt:∀ x∈fo.map (·.1),x.1<zs.length)(n1:(fo.map (·.1)).Nodup)(h:p∉fo.map (·.1)):dput (fo.map (fk zs)) (kp zs p) (Y9 zs q)=(fo++[(p,some q)]).map (fk zs):=by unfold dput;rw[Rq,(Ue nd hp lt n1 none).2 h,if_neg (by decide),qA];rfl
def Fy {st:Pt}{dn:Pt->Pt->Prop}(B:Bf c st fo wt dn)(lt:∀ x∈fo.map (·.1),x.1<zs.length):fo.length<=2*zs.length:=by
 have:=Td B.nd fun x hx=>Er (lt x hx)
 rw[qa,Cz]at this;exact this
def Bf.re {st:Pt}{dn dn':Pt->Pt->Prop}(B:Bf c st fo wt dn)(h:∀ a q,dn' a q->0<c a q->dn a q\/q∈fo.map (·.1)):Bf c st fo wt dn' :=⟨B.hd,B.nd,B.pr,B.wn,B.wf,fun a ha hn q hd hc=>(h a q hd hc).elim (fun z=>B.cl a ha hn q z hc) id⟩
def Bf.sub {st:Pt}(A:Bf c st fo [] fun _ _=>True)(B:Bf c st fo' [] fun _ _=>True):∀ (i:Nat) p o,fo[i]?=some (p,o)->p∈fo'.map (·.1):=by
 intro i
 induction i using Nat.strongRecOn with
 |ind i ih =>
  intro p o h;by_cases i0:i=0
  ·subst i0;rw[A.hd]at h;cases h;exact qv.mpr ⟨_,qc B.hd,rfl⟩
  ·obtain⟨j,q,o',l,_,hj,hc⟩:=A.pr i p o h i0;exact B.cl q (ih j l q o' hj) (by simp) p True.intro hc
def Bf.same {st:Pt}(A:Bf c st fo [] fun _ _=>True)(B:Bf c st fo' [] fun _ _=>True)(p:Pt):p∈fo.map (·.1)↔p∈fo'.map (·.1):=by
 have one:∀ {fo fo':List (Pt×Option Pt)},Bf c st fo [] (fun _ _=>True)->Bf c st fo' [] (fun _ _=>True)->p∈fo.map (·.1)->p∈fo'.map (·.1):=fun {fo fo'} A B h=>by obtain⟨⟨p',o⟩,hm,rfl⟩:=qv.mp h;obtain⟨i,hi⟩:=Vv.mp hm;exact A.sub B i _ o hi
 exact⟨one A B,one B A⟩
end
def Zy.rng {k:Int}(ok:Zr W)(h:Zy W c k){p q:Pt}(hc:0<c p q):p.1<W.n/\q.1<W.n:=by
  have e:=h.an p q;have n1:=h.nn q p
  have pos:∀ p q:Pt,0<Y0 W p q->p.1<W.n/\q.1<W.n:=fun p q z=>by
    obtain⟨v,s⟩:=p;obtain⟨w,t⟩:=q;cases s<;>cases t
    . exact absurd z (Qy 0)
    . rw[Tw]at z;split at z
      . rename_i g;exact⟨g.2.2.2,g.1▸g.2.2.2⟩
      . exact absurd z (Qy 0)
    . rw[U4]at z;split at z
      . rename_i g;exact ok.lt _ _ g
      . exact absurd z (Qy 0)
    . exact absurd z (Qy 0)
  by_cases g:0<Y0 W p q
  . exact pos p q g
  . obtain⟨a,b⟩:=pos q p (by lia);exact⟨b,a⟩
noncomputable def ZG (V:Vl) (h:Int) (s t:Nat):Wb:={ n:=(V.bs.map (·.1)).length,adj:=fun a b=>decide (a≠b/\a<(V.bs.map (·.1)).length/\b<(V.bs.map (·.1)).length)&&RM V h (Z5 (V.bs.map (·.1)) a,Z5 (V.bs.map (·.1)) b),s:=s,t:=t }
def UL {V:Vl}{h:Int}{s t a b:Nat}:(ZG V h s t).adj a b=true↔a≠b/\a<(V.bs.map (·.1)).length/\b<(V.bs.map (·.1)).length/\z9 V h (Z5 (V.bs.map (·.1)) a) (Z5 (V.bs.map (·.1)) b):=by show(decide _&&RM V h _)=true↔_;rw[qw,decide_eq_true_eq,M4,and_assoc,and_assoc]
def HY {V:Vl}{h:Int}{s t:Nat}(hs:s<(V.bs.map (·.1)).length)(ht:t<(V.bs.map (·.1)).length)(no:¬ z9 V h (Z5 (V.bs.map (·.1)) s) (Z5 (V.bs.map (·.1)) t)):Zr (ZG V h s t) where
 irr:=fun a=>by
  cases e:(ZG V h s t).adj a a with
  |false=>rfl
  |true=>exact absurd rfl (UL.mp e).1
 sym:=fun a b=>by rw[S8,UL,UL];exact⟨by rintro⟨a,b,c,d⟩;exact⟨a.symm,c,b,Pr d⟩,by rintro⟨a,b,c,d⟩;exact⟨a.symm,c,b,Pr d⟩⟩
 lt:=fun a b e=>⟨(UL.mp e).2.1,(UL.mp e).2.2.1⟩
 s:=hs
 t:=ht
 st:=fun e=>no (by have e:s=t:=e;subst e;obtain⟨z,hz,ez⟩:=qv.mp (qc (Xx hs));exact⟨z.2,z.2,by rw[<- ez];exact hz,by rw[<- ez];exact hz,.inl rfl⟩)
 na:=by
  cases e:(ZG V h s t).adj (ZG V h s t).s (ZG V h s t).t with
  |false=>rfl
  |true=>exact absurd (UL.mp e).2.2.2 no
def stp (zs:List Str)(c:Pt->Pt->Int)(i:Nat):List Nat:=(List.range zs.length).filter fun j=>decide (0<arc c i j)
def nq (zs:List Str):zs=(List.range zs.length).map (Z5 zs):=by
 refine List.ext_getElem? fun i=>?_
 rw[qi];by_cases h:i<zs.length
 ·rw[List.getElem?_range h,Xx h];rfl
 ·rw[qB (by lia),qB (by rw[Tn];lia)];rfl
open Classical in
noncomputable def Wy (zs:List Str) (c:Pt->Pt->Int) (i:Nat) (z:Str):Bool:=decide (∃ j,j<zs.length/\Z5 zs j=z/\0<arc c i j)
def oN {zs:List Str}(nd:zs.Nodup){c:Pt->Pt->Int}{i j:Nat}(hj:j<zs.length):Wy zs c i (Z5 zs j)=decide (0<arc c i j):=by
 rw[S8];unfold Wy;simp only[decide_eq_true_eq];constructor
 ·rintro⟨k,hk,e,z⟩;rw[<- X3 nd hk hj e];exact z
 ·exact fun z=>⟨j,hj,rfl,z⟩
def ĕ {zs:List Str}(nd:zs.Nodup)(c:Pt->Pt->Int)(i:Nat):zs.filter (Wy zs c i)=(stp zs c i).map (Z5 zs):=by
 have e:∀ f:Str->Bool,zs.filter f=((List.range zs.length).filter (f ∘ Z5 zs)).map (Z5 zs):=fun f=>by have:=congrArg (List.filter f) (nq zs);rw[Rz]at this;exact this
 rw[e];unfold stp;rw[Oz fun j hj=>?_];exact oN nd (Rf.mp hj)
structure ur (W:Wb)(zs:List Str)(c:Pt->Pt->Int)(rs:List (List Nat)):Prop where
 ln:rs.length=(stp zs c W.s).length
 rd:∀ (i:Nat) us,rs[i]?=some us->Xu W c us/\us[us.length-1]?=some W.t/\us[1]?=(stp zs c W.s)[i]?/\2<=us.length
def X8 (V:Vl)(h:Int)(s t:Nat)(zs:List Str)(rs:List (List Nat))(ks:List Nat):Prop:=∃ (c:Pt->Pt->Int) (k:Int) (fo:List (Pt×Option Pt)),Zy (ZG V h s t) c k/\ur (ZG V h s t) zs c rs/\Bf c (s,true) fo [] (fun _ _=>True)/\(t,false)∉fo.map (·.1)/\ks=(List.range zs.length).filter (XQ fun p=>decide (p∈fo.map (·.1)))
structure M6 (S:Z7)(m n:Nat)(zs:List Str)(rs:List (List Nat))(ks:List Nat)(js:List Nat):Prop where
 r:S[m]?=some (.lst (js.map fun j=>.ref (m+(j+1))))
 k:S[n]?=some (.lst ((ks.map (Z5 zs)).map D.str))
 l:js.length=rs.length
 nd:js.Nodup
 lt:n<m
 at':∀ (i:Nat) j us,js[i]?=some j->rs[i]?=some us->S[m+(j+1)]?=some (.lst ((us.map (Z5 zs)).map D.str))
open Classical in
noncomputable def RB (zs:List Str) (fo:List (Pt×Option Pt)) (z:Str):Bool:=decide (∃ j,j<zs.length/\Z5 zs j=z/\XQ (fun p=>decide (p∈fo.map (·.1))) j=true)
def vL {zs:List Str}(nd:zs.Nodup){fo:List (Pt×Option Pt)}{j:Nat}(hj:j<zs.length):RB zs fo (Z5 zs j)=XQ (fun p=>decide (p∈fo.map (·.1))) j:=by
 rw[S8];unfold RB;rw[decide_eq_true_iff];constructor
 ·rintro⟨k,hk,e,z⟩;rw[<- X3 nd hk hj e];exact z
 ·exact fun z=>⟨j,hj,rfl,z⟩
def zqD {zs:List Str}(nd:zs.Nodup)(fo:List (Pt×Option Pt)):zs.filter (RB zs fo)=((List.range zs.length).filter (XQ fun p=>decide (p∈fo.map (·.1)))).map (Z5 zs):=by
 have e:∀ f:Str->Bool,zs.filter f=((List.range zs.length).filter (f ∘ Z5 zs)).map (Z5 zs):=fun f=>by have:=congrArg (List.filter f) (nq zs);rw[Rz]at this;exact this
 rw[e,Oz fun j hj=>?_];exact vL nd (Rf.mp hj)
section
variable {V:Vl}{h:Int}{s t:Nat}{zs:List Str}{rs:List (List Nat)}{ks:List Nat}
def X8.len (hzs:zs=V.bs.map (·.1))(okW:Zr (ZG V h s t))(A:X8 V h s t zs rs ks):rs.length=ks.length:=by
 obtain⟨c,k,fo,F,R,B,ng,rfl⟩:=A;have nW:(ZG V h s t).n=zs.length:=by rw[hzs];rfl
 have h1:=begins okW F;have h2:=keepers okW F (B.cls ng);rw[nW]at h1 h2;have h3:rs.length=((List.range zs.length).filter fun b=>decide (0<arc c s b)).length:=R.ln;have h1:(((List.range zs.length).filter fun b=>decide (0<arc c s b)).length:Int)=k:=h1;lia
def X8.idx (hzs:zs=V.bs.map (·.1))(okW:Zr (ZG V h s t))(A:X8 V h s t zs rs ks){i:Nat}{us:List Nat}(hi:rs[i]?=some us):us[0]?=some s/\us[us.length-1]?=some t/\2<=us.length/\us.Nodup/\(∀ u∈us,u<zs.length)/\∀ (k a b:Nat),us[k]?=some a->us[k+1]?=some b->a≠b/\z9 V h (Z5 zs a) (Z5 zs b):=by
 obtain⟨c,k,fo,F,R,B,ng,rfl⟩:=A;have nW:(ZG V h s t).n=zs.length:=by rw[hzs];rfl
 obtain⟨D,e1,e2,l2⟩:=R.rd i us hi;refine⟨D.hd,e1,l2,D.nodup okW F,fun u hu=>nW▸D.lt okW F u hu,fun k a b ha hb=>?_⟩;obtain⟨p,q⟩:=Rh okW F (D.ch k a b ha hb);rw[UL,<- hzs]at p;exact⟨q,p.2.2.2⟩
def nH (nd:zs.Nodup){us:List Nat}(n1:us.Nodup)(lt:∀ u∈us,u<zs.length):(us.map (Z5 zs)).Nodup:=by refine List.pairwise_map.mpr (n1.imp_of_mem fun {a b} ha hb hab e=>hab (X3 nd (lt a ha) (lt b hb) e))
def X8.road (nd:zs.Nodup)(hzs:zs=V.bs.map (·.1))(okW:Zr (ZG V h s t))(A:X8 V h s t zs rs ks){i:Nat}{us:List Nat}(hi:rs[i]?=some us):Fw V h (Z5 zs s) (Z5 zs t) (us.map (Z5 zs)):=by
 obtain⟨h0,h1,h2,h3,h4,h5⟩:=A.idx hzs okW hi;refine⟨by rw[qi,h0];rfl,by rw[qa,qi,h1];rfl,nH nd h3 h4,fun u hu=>?_,fun k x y hx hy=>?_⟩
 ·obtain⟨j,hj,rfl⟩:=qv.mp hu;exact hzs▸qc (Xx (h4 j hj))
 ·rw[qi]at hx hy;obtain⟨a,ha,rfl⟩:=U6.mp hx;obtain⟨b,hb,rfl⟩:=U6.mp hy;exact(h5 k a b ha hb).2
theorem X8.apart (okW:Zr (ZG V h s t))(A:X8 V h s t zs rs ks){i j:Nat}{us vs:List Nat}(hi:rs[i]?=some us)(hj:rs[j]?=some vs)(ne:i≠j){u:Nat}(hu:u∈us)(hv:u∈vs):u=s\/u=t:=by
 obtain⟨c,k,fo,F,R,B,ng,rfl⟩:=A;obtain⟨D1,_,e1,l1⟩:=R.rd i us hi;obtain⟨D2,_,e2,_⟩:=R.rd j vs hj;refine D1.apart okW F D2 (fun z=>ne ?_) hu hv;rw[e1,e2]at z;have li:i<(stp zs c s).length:=by have:=zE hi;have:=R.ln;show i<(stp zs c (ZG V h s t).s).length;lia
 have n1:(stp zs c s).Nodup:=(List.nodup_range).filter _;have g1:(stp zs c s)[i]?=some ((stp zs c s)[i]'li):=qb li;have z:(stp zs c s)[i]?=(stp zs c s)[j]?:=z;rw[g1]at z;have lj:j<(stp zs c s).length:=zE z.symm;rw[qb lj]at z;exact(P0 n1).mp (qF z)
def X8.ends (okW:Zr (ZG V h s t))(A:X8 V h s t zs rs ks):s∉ks/\t∉ks/\(∀ k∈ks,k<zs.length)/\ks.Nodup:=by
 obtain⟨c,k,fo,F,R,B,ng,rfl⟩:=A;obtain⟨h1,h2⟩:=zva (B.cls (W:=ZG V h s t) ng);refine⟨fun z=>?_,fun z=>?_,fun k hk=>Rf.mp (qO.mp hk).1,(List.nodup_range).filter _⟩
 ·have:=(qO.mp z).2;have h1:XQ (fun p=>decide (p∈fo.map (·.1))) s=false:=h1;rw[h1]at this;cases this
 ·have:=(qO.mp z).2;have h2:XQ (fun p=>decide (p∈fo.map (·.1))) t=false:=h2;rw[h2]at this;cases this
def LK (hzs:zs=V.bs.map (·.1)){w:Str}(hw:w∈V.bs.map (·.1)):∃ j,j<zs.length/\Z5 zs j=w:=by rw[<- hzs]at hw;obtain⟨j,hj,e⟩:=qN.mp hw;exact⟨j,hj,Mx (by rw[qb hj,e])⟩
def X8.cut (nd:zs.Nodup)(hzs:zs=V.bs.map (·.1))(okW:Zr (ZG V h s t))(A:X8 V h s t zs rs ks):¬ Y7 V h (ks.map (Z5 zs)) (Z5 zs s) (Z5 zs t):=by
 obtain⟨c,k,fo,F,R,B,ng,rfl⟩:=A;have nW:(ZG V h s t).n=zs.length:=by rw[hzs];rfl
 have hs:s<zs.length:=nW▸okW.s;have ht:t<zs.length:=nW▸okW.t;have hR:=B.cls (W:=ZG V h s t) ng
 have key:∀ w,Y7 V h (((List.range zs.length).filter (XQ fun p=>decide (p∈fo.map (·.1)))).map (Z5 zs)) (Z5 zs s) w->∃ j,j<zs.length/\Z5 zs j=w/\j≠t/\decide ((j,true)∈fo.map (·.1))=true:=fun w C=>by
  induction C with
  |refl=>exact⟨s,hs,rfl,okW.st,hR.s⟩
  |@step a b C aD nb ih =>
   obtain⟨j,hj,rfl,nt,rj⟩:=ih;obtain⟨i,hi,rfl⟩:=LK hzs (CV aD).2;by_cases e:j=i
   ·subst e;exact⟨j,hj,rfl,nt,rj⟩
   ·have aj:(ZG V h s t).adj j i=true:=UL.mpr ⟨e,hzs▸hj,hzs▸hi,hzs▸aD⟩;obtain⟨r1,r2,r3⟩:=zos okW F hR rj aj;refine⟨i,hi,rfl,r2,r3 ?_⟩;cases g:XQ (fun p=>decide (p∈fo.map (·.1))) i with
    |false=>rfl
    |true=>exact absurd (qv.mpr ⟨i,qO.mpr ⟨List.mem_range.mpr hi,g⟩,rfl⟩) nb
 intro C;obtain⟨j,hj,e,nt,_⟩:=key _ C;exact nt (X3 nd hj ht e)
end
section
variable {V V':Vl}{h:Int}{s t:Nat}{zs:List Str}{rs:List (List Nat)}{ks:List Nat}{g:Str}
def Y7.mono {bar':List Str}(C:Y7 V h bar a b)(sub:∀ x∈bar',x∈bar):Y7 V h bar' a b:=by
 induction C with
 |refl=>exact .refl
 |step _ aD nb ih=>exact .step ih aD fun z=>nb (sub _ z)
theorem uf {K us:List Str}(aD:∀ (k:Nat) a b,us[k]?=some a->us[k+1]?=some b->z9 V h a b)(nk:∀ u∈us,u∉K){a:Str}(ha:us[0]?=some a):∀ (k:Nat) b,us[k]?=some b->Y7 V h K a b
 |0,b,hb=>by rw[ha]at hb;cases hb;exact .refl
 |k+1,b,hb=>by
  have lk:=zE hb;obtain⟨c,hc⟩:∃ c,us[k]?=some c:=⟨_,qb (by lia)⟩
  exact .step (uf aD nk ha k c hc) (aD k c b hc hb) (nk b (qc hb))
def X8.any (nd:zs.Nodup)(hzs:zs=V.bs.map (·.1))(okW:Zr (ZG V h s t))(A:X8 V h s t zs rs ks){K:List Str}(ns:Z5 zs s∉K)(nt:Z5 zs t∉K)(hK:¬ Y7 V h K (Z5 zs s) (Z5 zs t)):rs.length<=K.length:=by
 obtain⟨KN,hKN⟩:∃ KN,KN=(List.range zs.length).filter fun j=>decide (Z5 zs j∈K):=⟨_,rfl⟩
 have mK:∀ j,j∈KN↔j<zs.length/\Z5 zs j∈K:=fun j=>by rw[hKN,qO,Rf,decide_eq_true_eq]
 have l1:KN.length<=K.length:=by
  have n1:KN.Nodup:=by rw[hKN];exact(List.nodup_range).filter _
  have:=Td (N:=K) (nH nd n1 fun u hu=>((mK u).mp hu).1) fun x hx=>by obtain⟨j,hj,rfl⟩:=qv.mp hx;exact((mK j).mp hj).2
  rwa[qa]at this
 refine qW (wC rs KN (fun r hr=>?_) (Ut.mpr fun i j hi hj hij v hv h1 h2=>?_)) l1
 ·obtain⟨i,hi⟩:=Vv.mp hr;obtain⟨e0,e1,l2,_,lt,aD⟩:=A.idx hzs okW hi;apply Classical.byContradiction;intro no;refine hK (uf (us:=r.map (Z5 zs)) (fun k a b ha hb=>?_) (fun u hu z=>?_) (by rw[qi,e0];rfl) (r.length-1) _ (by rw[qi,e1];rfl))
  ·rw[qi]at ha hb;obtain⟨x,hx,rfl⟩:=U6.mp ha;obtain⟨y,hy,rfl⟩:=U6.mp hb;exact(aD k x y hx hy).2
  ·obtain⟨j,hj,rfl⟩:=qv.mp hu;exact no ⟨j,(mK j).mpr ⟨lt j hj,z⟩,hj⟩
 ·have gi:rs[i]?=some rs[i]:=qb hi;have gj:rs[j]?=some rs[j]:=qb hj;rcases A.apart okW gi gj (by lia) h1 h2 with e|e
  ·subst e;exact ns ((mK _).mp hv).2
  ·subst e;exact nt ((mK _).mp hv).2
structure VJ (V V':Vl)(g:Str):Prop where
 cs:V'.cs=V.cs
 hz:V'.hz=V.hz
 fs:V'.fs=V.fs
 h0:V'.h0=V.h0
 h1:V'.h1=V.h1
 bs:∀ p,p∈V'.bs↔p∈V.bs/\p.1≠g
def VJ.sees (F:VJ V V' g){a b:Int×Int}:Vy V' a b h↔Vy V a b h:=by unfold Vy RV;rw[F.cs,F.hz,F.fs]
def VJ.adj (F:VJ V V' g){a b:Str}:z9 V' h a b↔z9 V h a b/\a≠g/\b≠g:=by
 unfold z9;constructor
 ·rintro⟨s,t,hs,ht,w⟩;obtain⟨h1,h2⟩:=(F.bs _).mp hs;obtain⟨h3,h4⟩:=(F.bs _).mp ht;exact⟨⟨s,t,h1,h3,w.imp id F.sees.mp⟩,h2,h4⟩
 ·rintro⟨⟨s,t,hs,ht,w⟩,n1,n2⟩;exact⟨s,t,(F.bs _).mpr ⟨hs,n1⟩,(F.bs _).mpr ⟨ht,n2⟩,w.imp id F.sees.mpr⟩
def VJ.up (F:VJ V V' g){K:List Str}(C:Y7 V' h K a b):Y7 V h (g::K) a b:=by
 induction C with
 |refl=>exact .refl
 |step _ aD nb ih =>obtain⟨h1,_,h3⟩:=F.adj.mp aD;exact .step ih h1 fun z=>(ql.mp z).elim h3 nb
def VJ.down (F:VJ V V' g){K:List Str}{a:Str}(na:a≠g)(C:Y7 V h (g::K) a b):Y7 V' h K a b/\b≠g:=by
 induction C with
 |refl=>exact⟨.refl,na⟩
 |@step x y _ aD nb ih =>
  have n2:y≠g:=fun e=>nb (by rw[e];exact qI)
  exact⟨.step ih.1 (F.adj.mpr ⟨aD,ih.2,n2⟩) fun z=>nb (qj _ z),n2⟩
def X8.fewer (F:VJ V V' g){s' t':Nat}{zs':List Str}(nd:zs.Nodup)(hzs:zs=V.bs.map (·.1))(okW:Zr (ZG V h s t))(A:X8 V h s t zs rs ks)(nd':zs'.Nodup)(hzs':zs'=V'.bs.map (·.1))(okW':Zr (ZG V' h s' t'))(A':X8 V' h s' t' zs' rs' ks')(hs:s<zs.length)(ht:t<zs.length)(es:Z5 zs' s'=Z5 zs s)(et:Z5 zs' t'=Z5 zs t)(ns:Z5 zs s≠g)(nt:Z5 zs t≠g) :
  (ks'.length=ks.length\/ks'.length+1=ks.length)/\(g∈ks.map (Z5 zs)->ks'.length+1=ks.length)/\(¬ Y7 V h [g] (Z5 zs s) (Z5 zs t)->ks'.length=0):=by
 have L:=A.len hzs okW;have L':=A'.len hzs' okW';have hs':s'<zs'.length:=by rw[hzs'];exact okW'.s
 have ht':t'<zs'.length:=by rw[hzs'];exact okW'.t
 obtain⟨n1,n2,lt,_⟩:=A.ends okW;obtain⟨n1',n2',lt',_⟩:=A'.ends okW'
 have nk:∀ {i},i<zs.length->i∉ks->Z5 zs i∉ks.map (Z5 zs):=fun hi h z=>by obtain⟨k,hk',e⟩:=qv.mp z;exact h (X3 nd (lt k hk') hi e▸hk')
 have nk':∀ {i},i<zs'.length->i∉ks'->Z5 zs' i∉ks'.map (Z5 zs'):=fun hi h z=>by obtain⟨k,hk',e⟩:=qv.mp z;exact h (X3 nd' (lt' k hk') hi e▸hk')
 have low:∀ K:List Str,(∀ x∈K,x∈ks.map (Z5 zs))->(∀ x∈ks.map (Z5 zs),x=g\/x∈K)->rs'.length<=K.length:=fun K sub sup=>by
  refine A'.any nd' hzs' okW' (by rw[es];exact fun z=>nk hs n1 (sub _ z)) (by rw[et];exact fun z=>nk ht n2 (sub _ z)) fun C=>?_
  rw[es,et]at C;exact A.cut nd hzs okW ((F.up C).mono fun x hx=>(sup x hx).elim (fun e=>by rw[e];exact qI) fun z=>qj _ z)
 have h1:=low (ks.map (Z5 zs)) (fun _ h=>h) fun x hx=>.inr hx
 rw[qa]at h1
 have h2:rs.length<=ks'.length+1:=by
  have:=A.any nd hzs okW (K:=g::ks'.map (Z5 zs')) (fun z=>(ql.mp z).elim ns (by rw[<- es];exact nk' hs' n1')) (fun z=>(ql.mp z).elim nt (by rw[<- et];exact nk' ht' n2')) fun C=>by have:=(F.down ns C).1;rw[<- es,<- et]at this;exact A'.cut nd' hzs' okW' this
  rwa[qR,qa]at this
 refine⟨by lia,fun hg=>?_,fun no=>?_⟩
 ·have h3:=low ((ks.map (Z5 zs)).erase g) (fun x hx=>List.mem_of_mem_erase hx) fun x hx=>by
   by_cases e:x=g
   ·exact .inl e
   ·exact .inr ((JG e).mpr hx)
  rw[J1 hg,qa]at h3;have:=K1 hg;rw[qa]at this;lia
 ·have h3:=A'.any nd' hzs' okW' (K:=[]) (by simp) (by simp) fun C=>by
   rw[es,et]at C;exact no (F.up C)
  have:rs'.length<=0:=h3;lia
end
end Dp
namespace My
open PySem PySem.Spec PyProof.Rows L2
section
variable {prog:Program}{w:World}{A:Around}{E:Value->Shared->Prop}{s:Shared}
end
def xO (n:Nat)(o:Option Int)(d:Nat)(hd:d<=n):HT.sIx n d o<=n:=by
  cases o with
  |none=>exact hd
  |some i =>show(if i<0 then(i+n).toNat else min i.toNat n)<=n;split<;>lia
section
open AutoSeq1 (wpAny_loadPart')
variable {prog:Program}{w:World}{A:Around}{E:Value->Shared->Prop}{s:Shared}
def aK {it t:Addr}{i:Nat}{items:Array Value}{x:Value}{Q:Value->Shared->Prop}(hit:s.heap.IsTupleIter it t i)(ht:s.heap.IsTuple t items)(hx:items[i]?=some x)
  (hQ:∀ h',h'.IsTupleIter it t (i+1)->Heap.SameBut it s.heap h'->Q x { s with heap:=h' }):wpAny (model prog w) A (Builtin.SmallTypes.nextOf (.ref it)) Q E s:=by
 obtain⟨o,ho,hc,hd⟩:=id hit;obtain⟨ol,hol,_,nl,hdl⟩:=ht;unfold Builtin.SmallTypes.nextOf;refine wpAny_bind (wpAny_callSpecial?_slot (name:=Str.ofString "__next__") hit.typeIs F.slot_tuple_iterator_next (wpAny_call_entry F.slot_tuple_iterator_next hit.typeIs F.entry_tuple_iterator_next ?_ (F.args_tuple_iterator_next_1 _)));show wpAny _ _ (field (.ref it) 0 >>= _) _ _ s;refine wpAny_bind (wpAny_field ho hd (x:=.ref t) rfl ?_);show wpAny _ _ (if(Value.ref t==Value.none)=true then _ else _) _ _ s;rw[if_neg (show ¬ ((Value.ref t==Value.none)=true)from qr)];show wpAny _ _ (field (.ref it) 1 >>= _) _ _ s;refine wpAny_bind (wpAny_field ho hd (x:=.int i 0) rfl ?_);show wpAny _ _ (seqItems? (.ref t) >>= _) _ _ s;refine wpAny_bind (wpAny_seqItems hol hdl ?_);simp only[Ot,hx];refine wpAny_bind (wpAny_setField ho hd (by simp) (wpAny_pure ⟨x,rfl,wpAny_pure (hQ _ ?_ (Heap.SameBut.update ..))⟩));exact⟨_,Heap.get?_update_self _ ho (Obj.isFreed_of_fields (Obj.data_mapFields hd _)),(Obj.cls_mapFields ..).trans hc,by rw[Obj.data_mapFields hd];simp[rawInt]⟩
def Ò {it t:Addr}{i:Nat}{items:Array Value}{Q:Value->Shared->Prop}(hh:A.handled=none)(hit:s.heap.IsTupleIter it t i)(ht:s.heap.IsTuple t items)(hx:items[i]?=none)
  (hE:∀ h' e,Heap.ExtBut it s.heap h'->(∃ o,h'.get? e=some o/\o.cls=.type "StopIteration")->E (.ref e) { s with heap:=h' }):wpAny (model prog w) A (Builtin.SmallTypes.nextOf (.ref it)) Q E s:=by
 obtain⟨o,ho,hc,hd⟩:=id hit;obtain⟨ol,hol,_,nl,hdl⟩:=ht;unfold Builtin.SmallTypes.nextOf;refine wpAny_bind (wpAny_callSpecial?_slot (name:=Str.ofString "__next__") hit.typeIs F.slot_tuple_iterator_next (wpAny_call_entry F.slot_tuple_iterator_next hit.typeIs F.entry_tuple_iterator_next ?_ (F.args_tuple_iterator_next_1 _)));show wpAny _ _ (field (.ref it) 0 >>= _) _ _ s;refine wpAny_bind (wpAny_field ho hd (x:=.ref t) rfl ?_);show wpAny _ _ (if(Value.ref t==Value.none)=true then _ else _) _ _ s;rw[if_neg (show ¬ ((Value.ref t==Value.none)=true)from qr)];show wpAny _ _ (field (.ref it) 1 >>= _) _ _ s;refine wpAny_bind (wpAny_field ho hd (x:=.int i 0) rfl ?_);show wpAny _ _ (seqItems? (.ref t) >>= _) _ _ s;refine wpAny_bind (wpAny_seqItems hol hdl ?_);simp only[Ot,hx];refine wpAny_bind (wpAny_rule (wpAny_bind (wpAny_setField ho hd (by simp) ?_)));show wpAny _ _ (newExc (.type "StopIteration") [] >>= _) _ _ _;refine wpAny_bind ?_;simp only[newExc,newTuple];refine wpAny_bind (wpAny_newObj_type ?_ (by size_fits));refine wpAny_bind (m:=firstArgMember _ _) (wpAny_of_eq (a:=Value.none) (by first|rfl|(simp only[firstArgMember];rfl)) ?_);refine wpAny_newObj_type ?_ (by size_fits);simp only[raiseNew];refine wpAny_bind (wpAny_handled ?_)
 first|rw[show A.in1.handled=none from hh]|rw[hh]
 refine wpAny_bind (wpAny_pure (wpAny_throw ?_));exact hE _ _ (((Heap.SameBut.update ..).extBut.push _).push _) ⟨_,qq _ rfl,rfl⟩
end
section
variable {X:Cx}
end
def YQ:Bool->Heap->Addr->Addr->Nat->Prop
 |true,h,it,l,k=>h.IsListIter it l k
 |false,h,it,l,k=>h.IsTupleIter it l k
def Yt:Bool->Heap->Addr->Array Value->Prop
 |true,h,l,xs=>h.IsList l xs
 |false,h,l,xs=>h.IsTuple l xs
def YQ.grow {k:Nat}(x:YQ b h it l k)(e:Heap.ExtBut c h h')(n:it≠c):YQ b h' it l k:=by
 cases b
 ·exact Heap.IsTupleIter.extBut (show h.IsTupleIter it l k from x) e n
 ·exact Heap.IsListIter.extBut (show h.IsListIter it l k from x) e n
def Yt.grow (x:Yt b h l xs)(e:Heap.ExtBut c h h')(n:l≠c):Yt b h' l xs:=by
 cases b
 ·exact Heap.IsTuple.extBut (show h.IsTuple l xs from x) e n
 ·exact Heap.IsList.extBut (show h.IsList l xs from x) e n
def YQ.obj {k:Nat}(x:YQ b h it l k):∃ o,h.get? it=some o/\(o.cls=.type "list_iterator"\/o.cls=.type "tuple_iterator")/\∃ vs,o.data=.fields vs:=by
 cases b
 ·obtain⟨o,ho,hc,hd⟩:h.IsTupleIter it l k:=x;exact⟨o,ho,.inr hc,_,hd⟩
 ·obtain⟨o,ho,hc,hd⟩:h.IsListIter it l k:=x;exact⟨o,ho,.inl hc,_,hd⟩
def YQ.at {h':Heap}{k:Nat}(x:YQ b h it l k)(e:∀ o,h.get? it=some o->h'.get? it=some o):YQ b h' it l k:=by
 cases b
 ·obtain⟨o,ho,hc,hd⟩:h.IsTupleIter it l k:=x;exact(⟨o,e o ho,hc,hd⟩:h'.IsTupleIter it l k)
 ·obtain⟨o,ho,hc,hd⟩:h.IsListIter it l k:=x;exact(⟨o,e o ho,hc,hd⟩:h'.IsListIter it l k)
def Yt.lt (x:Yt b h l xs):l<h.objs.size:=by
 cases b
 ·obtain⟨o,ho,_⟩:h.IsTuple l xs:=x;exact qC ho
 ·obtain⟨o,ho,_⟩:h.IsList l xs:=x;exact qC ho
section
variable {prog:Program}{w:World}{A:Around}{E:Value->Shared->Prop}{s:Shared}
def BX {t:Addr}{items:Array Value}{x:Value}{Q:Value->Shared->Prop}(hit:YQ b s.heap it t i)(ht:Yt b s.heap t items)(hx:items[i]?=some x)(hQ:∀ h',YQ b h' it t (i+1)->Heap.SameBut it s.heap h'->Q x { s with heap:=h' }):wpAny (model prog w) A (Builtin.SmallTypes.nextOf (.ref it)) Q E s:=by
 cases b
 ·exact aK hit ht hx hQ
 ·exact wpAny_nextOf_list_item hit ht hx hQ
def pH {t:Addr}{items:Array Value}{Q:Value->Shared->Prop}(hh:A.handled=none)(hit:YQ b s.heap it t i)(ht:Yt b s.heap t items)(hx:items[i]?=none)(hE:∀ h' e,Heap.ExtBut it s.heap h'->(∃ o,h'.get? e=some o/\o.cls=.type "StopIteration")->E (.ref e) { s with heap:=h' }):wpAny (model prog w) A (Builtin.SmallTypes.nextOf (.ref it)) Q E s:=by
 cases b
 ·exact Ò hh hit ht hx hE
 ·exact wpAny_nextOf_list_end hh hit ht hx hE
def zk9 {TI TO:Addr}{k:Nat}{x y:Value}{Q:Option Value->Shared->Prop}(D:ZipApart z TI TO i1 i2 l1 l2)(hz:IsZip s.heap z TI TO .none)(hTI:IsPair s.heap TI (.ref i1) (.ref i2))(hTO:IsPair s.heap TO a b)(h1:YQ b1 s.heap i1 l1 k)(h2:YQ b2 s.heap i2 l2 k)(hl1:Yt b1 s.heap l1 xs)(hl2:Yt b2 s.heap l2 ys)(hx:xs[k]?=some x)(hy:ys[k]?=some y)(hQ:∀ h',IsZip h' z TI TO (rawInt s.heap.objs.size)->IsPair h' TO x y->YQ b1 h' i1 l1 (k+1)->YQ b2 h' i2 l2 (k+1)->IsPair h' s.heap.objs.size x y ->
   (∀ c o,c≠z->c≠TO->c≠i1->c≠i2->s.heap.get? c=some o->h'.get? c=some o)->Q (some (.ref s.heap.objs.size)) { s with heap:=h' }):wpAny (model prog w) A (pyNext (.ref z)) Q E s:=by
 have hT:s.TypeIs (.ref z) "zip":=⟨_,hz,rfl⟩
 unfold pyNext;refine wpAny_bind (wpAny_attempt (wpAny_callSpecial?_slot (name:=Str.ofString "__next__") hT F.slot_zip_next (wpAny_call_entry F.slot_zip_next hT F.entry_zip_next ?_ (F.args_zip_next_1 _))));show wpAny _ _ (field (.ref z) 2 >>= _) _ _ _;refine wpAny_bind (wpAny_field hz rfl (x:=.bool false) rfl ?_);show wpAny _ _ (field (.ref z) 3 >>= _) _ _ _;refine wpAny_bind (wpAny_field hz rfl (x:=.ref TI) rfl (wpAny_bind (wpAny_seqItems hTI rfl ?_)));show wpAny _ _ (Builtin.SmallTypes.ownedTupleIsFree (.ref z) >>= _) _ _ _;refine wpAny_bind ?_;unfold Builtin.SmallTypes.ownedTupleIsFree;refine wpAny_bind (wpAny_field hz rfl (x:=.none) rfl (wpAny_pure ?_));simp only[if_true];refine wpAny_bind (wpAny_rule (wpAny_bind (wpAny_field hz rfl (x:=.ref TO) rfl (wpAny_bind (wpAny_setField_rec hz (by simp) fun g1 z1 e1=>?_)))))
 replace z1:IsZip g1 z TI TO .ellipsis:=z1
 refine wpAny_bind ?_;simp only[List.zipIdx_cons,List.zipIdx_nil,J8,Oe];refine wpAny_bind (wpAny_bind (wpAny_onRaise ?_));show wpAny _ _ (Builtin.SmallTypes.nextOf (.ref i1) >>= _) _ _ _;refine wpAny_bind (BX (h1.grow e1.extBut D.i1z) (hl1.grow e1.extBut D.l1z) hx fun g2 t1 e2=>wpAny_pure ?_);have p2:IsPair g2 TO a b:=e2.extBut _ _ D.TOi1 (e1.extBut _ _ D.TOz hTO);refine wpAny_bind (wpAny_seqItems p2 rfl (wpAny_bind (wpAny_updateSeq_pair p2 fun g3 p3 e3=>wpAny_bind (wpAny_letGo (wpAny_pure ?_)))))
 replace p3:IsPair g3 TO x b:=p3
 refine wpAny_bind (wpAny_bind (wpAny_onRaise ?_));show wpAny _ _ (Builtin.SmallTypes.nextOf (.ref i2) >>= _) _ _ _;refine wpAny_bind (BX (((h2.grow e1.extBut D.i2z).grow e2.extBut D.i12.symm).grow e3.extBut D.TOi2.symm) (((hl2.grow e1.extBut D.l2z).grow e2.extBut D.l2i1).grow e3.extBut D.l2TO) hy fun g4 t2 e4=>wpAny_pure ?_);have p4:IsPair g4 TO x b:=e4.extBut _ _ D.TOi2 p3;refine wpAny_bind (wpAny_seqItems p4 rfl (wpAny_bind (wpAny_updateSeq_pair p4 fun g5 p5 e5=>wpAny_bind (wpAny_letGo (wpAny_pure (wpAny_pure ?_))))))
 replace p5:IsPair g5 TO x y:=p5
 refine wpAny_bind (wpAny_seqItems p5 rfl (wpAny_bind (wpAny_newTuple ?_)));have sz:g5.objs.size=s.heap.objs.size:=by rw[e5.1,e4.1,e3.1,e2.1,e1.1]
 have z5:IsZip g5 z TI TO .ellipsis:=e5.extBut _ _ D.TOz.symm (e4.extBut _ _ D.i2z.symm (e3.extBut _ _ D.TOz.symm (e2.extBut _ _ D.i1z.symm z1)));have k5:∀ c o,c≠z->c≠TO->c≠i1->c≠i2->s.heap.get? c=some o->g5.get? c=some o:=fun c o c1 c2 c3 c4 e=>e5.extBut _ _ c2 (e4.extBut _ _ c4 (e3.extBut _ _ c2 (e2.extBut _ _ c3 (e1.extBut _ _ c1 e))))
 have u1:YQ b1 g5 i1 l1 (k+1):=((t1.grow e3.extBut D.TOi1.symm).grow e4.extBut D.i12).grow e5.extBut D.TOi1.symm;have u2:YQ b2 g5 i2 l2 (k+1):=t2.grow e5.extBut D.TOi2.symm;have zl:z<g5.objs.size:=qC z5;show wpAny _ _ (Builtin.SmallTypes.ownedTupleHandOut (.ref z) (.ref g5.objs.size) >>= _) _ _ _;refine wpAny_bind ?_;unfold Builtin.SmallTypes.ownedTupleHandOut;have z6:IsZip (g5.push { cls:=.type "tuple",data:=.seq #[x,y] }) z TI TO .ellipsis:=qd _ z5;refine wpAny_bind (wpAny_setField_rec z6 (by simp) fun g7 z7 e7=>?_)
 replace z7:IsZip g7 z TI TO (rawInt g5.objs.size):=z7
 refine wpAny_setField_rec z7 (by simp) fun g8 z8 e8=>?_
 replace z8:IsZip g8 z TI TO (rawInt g5.objs.size):=z8
 have up:∀ c o,c≠z->g5.get? c=some o->g8.get? c=some o:=fun c o c1 e=>e8.extBut _ _ c1 (e7.extBut _ _ c1 (qd _ e))
 have t8:IsPair g8 g5.objs.size x y:=e8.extBut _ _ (Wu zl) (e7.extBut _ _ (Wu zl) (qq _ rfl));rw[sz]at z8 t8;refine wpAny_pure ⟨_,rfl,wpAny_pure ?_⟩;show Q (some (.ref g5.objs.size)) _;rw[sz];exact hQ g8 z8 (up _ _ D.TOz p5) (u1.at fun o e=>up _ o D.i1z e) (u2.at fun o e=>up _ o D.i2z e) t8 fun c o c1 c2 c3 c4 e=>up c o c1 (k5 c o c1 c2 c3 c4 e)
def fC {TI TO:Addr}{k:Nat}{Q:Option Value->Shared->Prop}(hh:A.handled=none)(D:ZipApart z TI TO i1 i2 l1 l2)(hz:IsZip s.heap z TI TO .none)(hTI:IsPair s.heap TI (.ref i1) (.ref i2))(hTO:IsPair s.heap TO a b)(h1:YQ b1 s.heap i1 l1 k)(h2:YQ b2 s.heap i2 l2 k)(hl1:Yt b1 s.heap l1 xs)(hl2:Yt b2 s.heap l2 ys)(hend:xs[k]?=none\/ys[k]?=none)(hQ:∀ h',(∀ c o,c≠z->c≠TO->c≠i1->c≠i2->s.heap.get? c=some o->h'.get? c=some o)->Q none { s with heap:=h' }):wpAny (model prog w) A (pyNext (.ref z)) Q E s:=by
 have hT:s.TypeIs (.ref z) "zip":=⟨_,hz,rfl⟩
 unfold pyNext;refine wpAny_bind (wpAny_attempt (wpAny_callSpecial?_slot (name:=Str.ofString "__next__") hT F.slot_zip_next (wpAny_call_entry F.slot_zip_next hT F.entry_zip_next ?_ (F.args_zip_next_1 _))))
 have out:∀ h' e,(∀ c o,c≠z->c≠TO->c≠i1->c≠i2->s.heap.get? c=some o->h'.get? c=some o)->(∃ o,h'.get? e=some o/\o.cls=.type "StopIteration") ->
   wpAny (model prog w) A ((isInstance (.ref e) (.type "StopIteration")) >>= fun b=>if b=true then pure none else throw (.ref e)) Q E { s with heap:=h' }:=fun h' e hk he=>by
  obtain⟨o,ho,hc⟩:=he;exact wpAny_bind (wpAny_isInstance (T:="StopIteration") (b:=true) ⟨o,ho,hc⟩ isSubtype_stop (wpAny_pure (hQ _ hk)))
 show wpAny _ _ (field (.ref z) 2 >>= _) _ _ _;refine wpAny_bind (wpAny_field hz rfl (x:=.bool false) rfl ?_);show wpAny _ _ (field (.ref z) 3 >>= _) _ _ _;refine wpAny_bind (wpAny_field hz rfl (x:=.ref TI) rfl (wpAny_bind (wpAny_seqItems hTI rfl ?_)));show wpAny _ _ (Builtin.SmallTypes.ownedTupleIsFree (.ref z) >>= _) _ _ _;refine wpAny_bind ?_;unfold Builtin.SmallTypes.ownedTupleIsFree;refine wpAny_bind (wpAny_field hz rfl (x:=.none) rfl (wpAny_pure ?_));simp only[if_true];refine wpAny_bind (wpAny_rule (wpAny_bind (wpAny_field hz rfl (x:=.ref TO) rfl (wpAny_bind (wpAny_setField_rec hz (by simp) fun g1 z1 e1=>?_)))))
 replace z1:IsZip g1 z TI TO .ellipsis:=z1
 refine wpAny_bind ?_;simp only[List.zipIdx_cons,List.zipIdx_nil,J8,Oe];refine wpAny_bind (wpAny_bind (wpAny_onRaise ?_));show wpAny _ _ (Builtin.SmallTypes.nextOf (.ref i1) >>= _) _ _ _;cases hx:xs[k]? with
 |none =>
  refine wpAny_bind (pH hh (h1.grow e1.extBut D.i1z) (hl1.grow e1.extBut D.l1z) hx fun g2 e e2 ⟨oe,hoe,hce⟩=>?_);have z2:IsZip g2 z TI TO .ellipsis:=e2 _ _ D.i1z.symm z1;have ne:e≠z:=fun q=>by subst q;rw[z2]at hoe;cases hoe;simp at hce
  exact wpAny_setField_rec z2 (by simp) fun g3 _ e3=>out g3 e (fun c o c1 _ c3 _ q=>e3.extBut _ _ c1 (e2 _ _ c3 (e1.extBut _ _ c1 q))) ⟨oe,e3.extBut _ _ ne hoe,hce⟩
 |some x =>
  have hy:ys[k]?=none:=by rcases hend with h|h;rw[hx]at h;cases h;exact h
  refine wpAny_bind (BX (h1.grow e1.extBut D.i1z) (hl1.grow e1.extBut D.l1z) hx fun g2 t1 e2=>wpAny_pure ?_);have p2:IsPair g2 TO a b:=e2.extBut _ _ D.TOi1 (e1.extBut _ _ D.TOz hTO);refine wpAny_bind (wpAny_seqItems p2 rfl (wpAny_bind (wpAny_updateSeq_pair p2 fun g3 p3 e3=>wpAny_bind (wpAny_letGo (wpAny_pure ?_)))));refine wpAny_bind (wpAny_bind (wpAny_onRaise ?_));show wpAny _ _ (Builtin.SmallTypes.nextOf (.ref i2) >>= _) _ _ _;refine wpAny_bind (pH hh (((h2.grow e1.extBut D.i2z).grow e2.extBut D.i12.symm).grow e3.extBut D.TOi2.symm) (((hl2.grow e1.extBut D.l2z).grow e2.extBut D.l2i1).grow e3.extBut D.l2TO) hy fun g4 e e4 ⟨oe,hoe,hce⟩=>?_);have z4:IsZip g4 z TI TO .ellipsis:=e4 _ _ D.i2z.symm (e3.extBut _ _ D.TOz.symm (e2.extBut _ _ D.i1z.symm z1));have ne:e≠z:=fun q=>by subst q;rw[z4]at hoe;cases hoe;simp at hce
  exact wpAny_setField_rec z4 (by simp) fun g5 _ e5=>out g5 e (fun c o c1 c2 c3 c4 q=>e5.extBut _ _ c1 (e4 _ _ c4 (e3.extBut _ _ c2 (e2.extBut _ _ c3 (e1.extBut _ _ c1 q))))) ⟨oe,e5.extBut _ _ ne hoe,hce⟩
end
abbrev pF (b:Bool):String:=if b=true then "list_iterator" else "tuple_iterator"
abbrev Qz (b:Bool)(h:Heap)(l:Addr):Heap:=h.push { cls:=.type (pF b),data:=.fields #[.ref l,.int 0 0] }
abbrev Ma (b1 b2:Bool)(h:Heap)(l1 l2:Addr):Heap:=Qz b2 (Qz b1 h l1) l2
abbrev KJ (b1 b2:Bool)(h:Heap)(l1 l2:Addr):Heap:=(Ma b1 b2 h l1 l2).push { cls:=.type "tuple",data:=.seq #[.ref h.objs.size,.ref (Qz b1 h l1).objs.size] }
abbrev Jv (b1 b2:Bool)(h:Heap)(l1 l2:Addr):Heap:=(KJ b1 b2 h l1 l2).push { cls:=.type "tuple",data:=.seq #[.none,.none] }
abbrev Uw (b1 b2:Bool)(h:Heap)(l1 l2:Addr):Heap:=(Jv b1 b2 h l1 l2).push { cls:=.type "zip",data:=.fields #[.none,.bool false,.bool false,.ref (Ma b1 b2 h l1 l2).objs.size,.ref (KJ b1 b2 h l1 l2).objs.size] }
theorem Yt.push (x:Yt b h l xs)(o:Obj):Yt b (h.push o) l xs:=by
 cases b
 ·obtain⟨u,hu,r⟩:h.IsTuple l xs:=x;exact(⟨u,qd _ hu,r⟩:(h.push o).IsTuple l xs)
 ·obtain⟨u,hu,r⟩:h.IsList l xs:=x;exact(⟨u,qd _ hu,r⟩:(h.push o).IsList l xs)
def zyW (b:Bool)(l1 l2:Addr)(xs ys:Array Value) :
  Meets (Builtin.«zip.__new__» ⟨[.type "zip",.ref l1,.ref l2],[]⟩) (fun _ R s=>Yt b s.heap l1 xs/\Yt b s.heap l2 ys/\R (.ok (.ret (.ref (Jv b b s.heap l1 l2).objs.size))) { s with heap:=Uw b b s.heap l1 l2 }):=by
 cases b
 ·exact .of_wp fun prog w A R s h=>by
   obtain⟨hp,g,d,tk,os⟩:=s;obtain⟨h1,h2,h⟩:=h;have hsub:=sub_zip;have q1:Heap.IsTuple (Shared.heap ⟨hp,g,d,tk,os⟩) l1 xs:=h1;have q2:Heap.IsTuple (Shared.heap ⟨hp.push { cls:=.type "tuple_iterator",data:=.fields #[.ref l1,.int 0 0] },g,d,tk,os⟩) l2 ys:=Yt.push (b:=false) h2 _
   wp_walk using wpAny_pyIter_tuple q1,wpAny_pyIter_tuple q2
   exact⟨_,rfl,h⟩
 ·exact meets_zip_new l1 l2 xs ys
def xU {b:Bool}{h:Heap}{it l:Addr}(e:h.get? it=some { cls:=.type (pF b),data:=.fields #[.ref l,.int 0 0] }):YQ b h it l 0:=by
 cases b
 ·exact(⟨_,e,rfl,rfl⟩:h.IsTupleIter it l 0)
 ·exact(⟨_,e,rfl,rfl⟩:h.IsListIter it l 0)
section
variable {prog:Program}{w:World}{A:Around}{E:Value->Shared->Prop}{s:Shared}
def zxC {Q:Value->Shared->Prop}(hl1:Yt b s.heap l1 xs)(hl2:Yt b s.heap l2 ys)(h:∀ h',IsZip h' (s.heap.objs.size+4) (s.heap.objs.size+2) (s.heap.objs.size+3) .none->IsPair h' (s.heap.objs.size+2) (.ref s.heap.objs.size) (.ref (s.heap.objs.size+1))->IsPair h' (s.heap.objs.size+3) .none .none->YQ b h' s.heap.objs.size l1 0->YQ b h' (s.heap.objs.size+1) l2 0 ->
   (∀ c o,s.heap.get? c=some o->h'.get? c=some o)->Q (.ref (s.heap.objs.size+4)) { s with heap:=h' }):wpAny (model prog w) A (call (.type "zip") [.ref l1,.ref l2]) Q E s:=by
 refine callType_new F.called_zip (by decide) (F.typeCall_zip_2 _ _) (F.newCall_zip_2 _ _) (fun obj=>F.args_object_init_3 obj _ _) F.entry_zip_new (zyW b l1 l2 xs ys) ⟨hl1,hl2,?_⟩;have s1:(Qz b s.heap l1).objs.size=s.heap.objs.size+1:=W0 ..;have s2:(Ma b b s.heap l1 l2).objs.size=s.heap.objs.size+2:=by rw[W0,s1]
 have s3:(KJ b b s.heap l1 l2).objs.size=s.heap.objs.size+3:=by rw[W0,s2]
 have s4:(Jv b b s.heap l1 l2).objs.size=s.heap.objs.size+4:=by rw[W0,s3]
 have v1:(Uw b b s.heap l1 l2).get? s.heap.objs.size=some _:=(fun c o q=>qd _ (qd _ (qd _ (qd _ q))):∀ c o,(Qz b s.heap l1).get? c=some o->(Uw b b s.heap l1 l2).get? c=some o) _ _ (qq _ rfl);have v2:(Uw b b s.heap l1 l2).get? (Qz b s.heap l1).objs.size=some _:=(fun c o q=>qd _ (qd _ (qd _ q)):∀ c o,(Ma b b s.heap l1 l2).get? c=some o->(Uw b b s.heap l1 l2).get? c=some o) _ _ (qq _ rfl);have v3:(Uw b b s.heap l1 l2).get? (Ma b b s.heap l1 l2).objs.size=some _:=(fun c o q=>qd _ (qd _ q):∀ c o,(KJ b b s.heap l1 l2).get? c=some o->(Uw b b s.heap l1 l2).get? c=some o) _ _ (qq _ rfl);have v4:(Uw b b s.heap l1 l2).get? (KJ b b s.heap l1 l2).objs.size=some _:=qd _ (qq _ rfl);have v5:(Uw b b s.heap l1 l2).get? (Jv b b s.heap l1 l2).objs.size=some _:=qq _ rfl;show _/\_;rw[s2,s3,s4]at v5;rw[s1,s2]at v3;rw[s3]at v4;rw[s1]at v2;rw[s4];exact⟨⟨_,v5,rfl⟩,h _ v5 v3 v4 (xU v1) (xU v2) fun c o x=>qd _ (qd _ (qd _ (qd _ (qd _ x))))⟩
end
def W4 (K:PySem.W.Frag)(b:Bool)(H:Hp)(l:Addr)(xs:List V):Prop:=match b with
 |true=>ZC K H l xs
 |false=>ZM K H l xs
def W4.items (I:Inv X Z9 U H s)(h:W4 X.K b H l xs):∃ its:List Value,Vals xs its/\Yt b s.heap l its.toArray:=by
 cases b
 ·obtain⟨its,r,p,_⟩:=I.tuple (show ZM X.K H l xs from h);exact⟨its,r,p⟩
 ·obtain⟨its,r,p,_⟩:=I.list (show ZC X.K H l xs from h);exact⟨its,r,p.isList⟩
def W4.inj (I:Inv X Z9 U H s)(h:W4 X.K b H l xs)(h':W4 X.K b H l ys):xs=ys:=by
 cases b
 ·exact I.tuple_inj (show ZM X.K H l xs from h) h'
 ·exact I.list_inj (show ZC X.K H l xs from h) h'
def JB (K:PySem.W.Frag)(b1 b2:Bool)(l1 l2:Addr):It :=
  ⟨fun i H=>∃ xs ys x y,W4 K b1 H l1 xs/\W4 K b2 H l2 ys/\xs[i]?=some x/\ys[i]?=some y,
   fun i H v H'=>∃ p,v=.ref p/\H p=none/\∀ xs ys x y,W4 K b1 H l1 xs->W4 K b2 H l2 ys->xs[i]?=some x->ys[i]?=some y->H'=upd H p (.tup [x,y]),
   fun i H=>∃ xs ys,W4 K b1 H l1 xs/\W4 K b2 H l2 ys/\(xs.length<=i\/ys.length<=i)⟩
def iJ {P:Program}{w:World}{K:PySem.W.Frag}{es:List Expr}{kk:Nat}{pos:Pos}{b1 b2:Bool}{TI TO:Addr}(D:ZipApart z TI TO i1 i2 l1 l2) :
  Turn P w K (.Tuple es kk pos) (JB K b1 b2 l1 l2) [z,TI,TO,i1,i2] z (fun i h=>IsZip h z TI TO .none/\IsPair h TI (.ref i1) (.ref i2)/\(∃ a b,IsPair h TO a b)/\YQ b1 h i1 l1 i/\YQ b2 h i2 l2 i) where
 mem:=by simp
 obj:=fun i h st b hb=>by
  obtain⟨hz,hTI,⟨a,c,hTO⟩,q1,q2⟩:=st;obtain⟨o1,g1,_,_,d1⟩:=q1.obj;obtain⟨o2,g2,_,_,d2⟩:=q2.obj;simp only[ql,qJ,or_false]at hb;rcases hb with rfl|rfl|rfl|rfl|rfl
  ·exact⟨_,hz,fun v q=>by cases(show Data.fields _=Data.cell v from q)⟩
  ·exact⟨_,hTI,fun v q=>by cases(show Data.seq _ _=Data.cell v from q)⟩
  ·exact⟨_,hTO,fun v q=>by cases(show Data.seq _ _=Data.cell v from q)⟩
  ·exact⟨_,g1,fun v q=>by rw[d1]at q;cases q⟩
  ·exact⟨_,g2,fun v q=>by rw[d2]at q;cases q⟩
 keep:=fun i h h' st k=>by obtain⟨hz,hTI,⟨a,c,hTO⟩,q1,q2⟩:=st;exact⟨k z (by simp) _ hz,k TI (by simp) _ hTI,⟨a,c,k TO (by simp) _ hTO⟩,q1.at fun o e=>k i1 (by simp) o e,q2.at fun o e=>k i2 (by simp) o e⟩
 item:=by
  intro X hP hw hK hc i Z9 s U H E I hf st hg;subst hP hw hK;obtain⟨hz,hTI,⟨a,c,hTO⟩,q1,q2⟩:=st;obtain⟨xs,ys,x,y,hx1,hy1,hx,hy⟩:=hg;obtain⟨its,rx,px⟩:=hx1.items I;obtain⟨jts,ry,py⟩:=hy1.items I;obtain⟨u,hu,ru⟩:=Vals.get rx hx;obtain⟨v,hv,rv⟩:=Vals.get ry hy;refine zk9 D hz hTI hTO q1 q2 px py (by simpa using hu) (by simpa using hv) fun h' a1 a2 a3 a4 a5 hk=>?_
  refine⟨_,rfl,wpAny_letOwnedTupleGo_zip a1 fun h'' hz'' hs''=>?_⟩;have lt:∀ {c o},s.heap.get? c=some o->s.heap.objs.size≠c:=fun e=>Wu (qC e)
  have k2:∀ b u,b∉[z,TI,TO,i1,i2]->s.heap.get? b=some u->h''.get? b=some u:=fun b u hb e=>by simp only[ql,qJ,or_false,not_or]at hb;exact hs''.extBut b u hb.1 (hk b u hb.1 hb.2.2.1 hb.2.2.2.1 hb.2.2.2.2 e)
  have new:h''.get? s.heap.objs.size=some { cls:=.type "tuple",data:=.seq #[u,v] }:=hs''.extBut _ _ (lt hz) a5;refine⟨.ref s.heap.objs.size,upd H s.heap.objs.size (.tup [x,y]),I.turnNew (t':=s.toks) hf k2 (qh _) ⟨by show 2<=sizeLine;decide,[u,v],.cons ru (.cons rv .nil),_,new,rfl,_,rfl⟩,rfl,⟨_,rfl,I.fresh,?_⟩,?_,fun b hb=>?_⟩
  ·intro xs' ys' x' y' hx1' hy1' hx' hy';cases hx1.inj I hx1';cases hy1.inj I hy1';rw[hx]at hx';rw[hy]at hy';cases hx';cases hy';rfl
  ·exact⟨hz'',hs''.extBut _ _ D.TIz (hk _ _ D.TIz D.TITO D.TIi1 D.TIi2 hTI),⟨_,_,hs''.extBut _ _ D.TOz a2⟩,a3.grow hs''.extBut D.i1z,a4.grow hs''.extBut D.i2z⟩
  ·have:∃ o,s.heap.get? b=some o:=by
    simp only[ql,qJ,or_false]at hb;obtain⟨o1,e1,_⟩:=q1.obj;obtain⟨o2,e2,_⟩:=q2.obj;rcases hb with rfl|rfl|rfl|rfl|rfl
    ·exact⟨_,hz⟩
    ·exact⟨_,hTI⟩
    ·exact⟨_,hTO⟩
    ·exact⟨_,e1⟩
    ·exact⟨_,e2⟩
   obtain⟨o,e⟩:=this;rw[zu (lt e).symm];exact(hf b hb).1
 done:=by
  intro X hP hw hK hc i Z9 s U H E I hf st hg;subst hP hw hK;obtain⟨hz,hTI,⟨a,c,hTO⟩,q1,q2⟩:=st;obtain⟨xs,ys,hx1,hy1,hl⟩:=hg;obtain⟨its,rx,px⟩:=hx1.items I;obtain⟨jts,ry,py⟩:=hy1.items I;have n1:=rx.length;have n2:=ry.length;refine fC (I.ok.hd hc) D hz hTI hTO q1 q2 px py ?_ fun h' hk=>⟨rfl,I.turnedL (t':=s.toks) hf fun b u hb e=>?_⟩
  ·rcases hl with hl|hl
   ·exact .inl (by rw[Hh];exact qB (by lia))
   ·exact .inr (by rw[Hh];exact qB (by lia))
  ·simp only[ql,qJ,or_false,not_or]at hb;exact hk b u hb.1 hb.2.2.1 hb.2.2.2.1 hb.2.2.2.2 e
 self:=fun _ _ _ _ _ st h=>wpAny_pyIter_zip st.1 h
section
variable {X:Cx}
def zxw (K:PySem.W.Frag)(ta:TA):TI:=fun U H R=>ta U H fun vs H1=>∃ b l1 l2,vs=[.ref l1,.ref l2]/\(∃ xs,W4 K b H1 l1 xs)/\(∃ ys,W4 K b H1 l2 ys)/\R (JB K b b l1 l2) H1
def zqf {es:List Expr}{kk:Nat}{tpos:Pos}{a b:Expr}{ta:TA}{p pos:Pos}(hg:Gl X "zip")(hm:X.mg "zip"=none)(ha:PA X [a,b] ta)(hs:autoParam (starEach [a,b] X.env=[(false,eval a X.env),(false,eval b X.env)]) zy)(hs2:autoParam (starEach [b] X.env=[(false,eval b X.env)]) zy) :
    PI X (.Tuple es kk tpos) (.Call (.Name "zip" p) [a,b] [] pos) (zxw X.K ta):=by
  intro Z9 s U H R I h;refine Call_ (Ua I hg hm boot_zip (PyProof.Rows.callWith_type1 (Z2 (ha pos Z9 s U H _ I h) fun us s1 ⟨vs,H1,I1,r1,q1⟩=>?_) (by rw[hs,hs2]) (by rw[hs2];rfl)));obtain⟨b',l1,l2,e,⟨xs,hx⟩,⟨ys,hy⟩,q⟩:=q1;subst e;obtain⟨u,v,rfl,ru,rv⟩:=vals2 r1;cases ru;cases rv;obtain⟨its,rx,px⟩:=hx.items I1;obtain⟨jts,ry,py⟩:=hy.items I1;refine zxC px py fun h' hz hTI hTO h1 h2 hk=>?_
  have I2:Inv X Z9 U H1 { s1 with heap:=h' }:=I1.kept (t':=s1.toks) hk;refine wpAny_pyIter_zip (s:={ s1 with heap:=h' }) hz ⟨_,_,_,_,H1,rfl,I2,iJ (PyProof.Rows.zipApart_new px.lt py.lt),⟨hz,hTI,⟨_,_,hTO⟩,h1,h2⟩,fun b hb=>?_,q⟩
  have hb':s1.heap.objs.size<=b:=by simp only[ql,qJ,or_false]at hb;rcases hb with rfl|rfl|rfl|rfl|rfl<;>first|exact Ly _ _|exact qh _
  exact I1.fpOk hb' (I1.hok.fresh hb')
end
section
def iV (l:Addr)(items:Array Value)(n:Nat)(b:Addr)(items2:Array Value)(n2:Nat)(dct:Option Addr)(sl:Array (Option Value))(hs0:¬(!items.isEmpty&&Builtin.List.listTooLong (items.size+items2.size))=true)(hs1:items.size<=sizeLine)(hs2:items.size+items2.size<=sizeLine+1) :
  Meets (Builtin.«list.extend» ⟨[.ref l,.ref b],[]⟩) (fun _ R s=>s.heap.get? l=some { cls:=.type "list",dict:=none,data:=.seq items n,slots:=#[] }/\s.heap.get? b=some { cls:=.type "tuple",dict:=dct,data:=.seq items2 n2,slots:=sl }/\R (.ok (.ret Value.none)) { s with heap:=s.heap.update l (Obj.mapSeq fun x=>x++items2),toks:=s.toks }) :=
 .of_wp fun prog w A R s h=>by
  obtain⟨hp,g,d,tk,os⟩:=s;obtain⟨hl,hb,h⟩:=h;have f1:=AutoSeq1.idx_int;have f2:=AutoSeq1.sub_tuple_tuple;have f3:=AutoSeq1.sub_list_list;have f4:=AutoSeq1.sub_tuple_list;have f5:=AutoSeq1.sub_list_tuple;have hz':(items++items2).size<=sizeLine+1:=by rw[Array.size_append];exact hs2
  wp_walk using (wpAny_updateSeq hl rfl (hz:=hs1) (_hz':=hz')),wpAny_loadPart' hl,wpAny_loadPart' hb
  exact⟨_,rfl,h⟩
end
section
variable {X:Cx}
def fG (K:PySem.W.Frag):V->List V->Hp->VK->Prop:=fun x vs H Q=>pL x vs H Q\/∃ l b xs zs,x=.ref l/\vs=[.ref b]/\H l=some (.lst xs)/\ZM K H b zs/\xs.length+zs.length<=sizeLine/\Q .non (upd H l (.lst (xs++zs)))
def kj:Ox X "list.extend" (fG X.K):=by
 intro Z9 s U H x vs v us Q I rx rv h;rcases h with h|⟨l,b,xs,zs,rfl,rfl,hH,hB,hz,q⟩
 ·exact Γ Z9 s U H x vs v us Q I rx rv h
 cases rx;obtain⟨u,rfl,ru⟩:=rv.one;cases ru;obtain⟨z,its,n,r,hl,e⟩:=I.lstM hH;obtain⟨its2,r2,⟨⟨c,dct,dt,sl⟩,e2,hc,n2,hd⟩,z2⟩:=I.tuple hB
 replace hc:c=.type "tuple":=hc
 replace hd:dt=.seq its2.toArray n2:=hd
 subst hc hd;have hl2:=r2.length;have hsz:its.toArray.size+its2.toArray.size<=sizeLine:=by rw[qo,qo];lia
 have hlong:¬ (!its.toArray.isEmpty&&Builtin.List.listTooLong (its.toArray.size+its2.toArray.size))=true:=by rw[wj hsz,SX];exact qr
 refine call_meets F.slot_list_extend ⟨_,e,rfl⟩ F.entry_list_extend (F.args_list_extend_2 _ _)
  (iV l its.toArray n b its2.toArray n2 dct sl hlong (by rw[qo];lia) (by lia)) ⟨e,e2,?_⟩
 refine⟨.non,_,I.lset (its':=its++its2) hH e (by simp) (r.append r2) ?_,rfl,q⟩;rw[qf];lia
end
section
variable {prog:Program}{w:World}{A:Around}{E:Value->Shared->Prop}{s:Shared}
end
section
variable {X:Cx}
end
section
variable {X:Cx}
end
section
variable {X:Cx}
end
section
variable {prog:Program}{w:World}{A:Around}{E:Value->Shared->Prop}{s:Shared}
end
section
variable {prog:Program}{w:World}{A:Around}{E:Value->Shared->Prop}{s:Shared}
end
section
variable {prog:Program}{w:World}{A:Around}{E:Value->Shared->Prop}{s:Shared}
end
section
variable {prog:Program}{w:World}{A:Around}{s:Shared}
abbrev Uu (prog:Program)(w:World)(h:Heap)(a:Addr)(c:List Str):Prop:=h.SetOf (PySem.strKind prog w) a (fun y=>c.any (·==y)) c.length
def Uu.at {h':Heap}(x:Uu prog w h a c)(k:∀ o,h.get? a=some o->h'.get? a=some o):Uu prog w h' a c :=by obtain⟨o,es,ep,t,ho,r⟩:=x;exact⟨o,es,ep,t,k o ho,r⟩
theorem loopS {R:Result->Shared->Prop}{a:Addr}{wr:List Addr}{G:Array GenState->Array GenState->Prop}{n:Nat}{St:Nat->Shared->Prop}(W:WalksS prog w A.in1 it fp wr G n P St)(na:a∉fp)(f:Nat->Str)(hf:∀ i v,P i v->∃ t,v=.str (f i) t)(hb:n+1<scanBound) :
  ∀ (k i:Nat) (s:Shared),n-i=k->i<=n->St i s->Uu prog w s.heap a (Dp.Yl f i) ->
   (∀ s',Moved (a::wr) G s s'->Uu prog w s'.heap a (Dp.Yl f n)->R (.ok (.ret .none)) s') ->
   codeAny (model prog w) A (.builtin "set.update.loop" ⟨[.ref a,.ref it],[]⟩) R s
 |0,i,s,hk,hi,st,hS,hR=>by
  have e:i=n:=by lia
  subst e;refine codeAny_builtin PyProof.Rows.F.entry_set_update_loop ?_;rw[Around.under_plainId PyProof.Rows.F.plain_set_update_loop];show wpAny _ A.in1 (pyNext (.ref it) >>= _) _ _ _;refine wpAny_bind (W.done s _ _ st fun s' m=>wpAny_pure (hR s' (m.mono fun b q=>qj _ q) ?_));exact hS.at fun o q=>m.heap a o (fun z=>na (W.sub _ z)) q
 |k+1,i,s,hk,hi,st,hS,hR=>by
  refine codeAny_builtin PyProof.Rows.F.entry_set_update_loop ?_;rw[Around.under_plainId PyProof.Rows.F.plain_set_update_loop];show wpAny _ A.in1 (pyNext (.ref it) >>= _) _ _ _;refine wpAny_bind (W.item i s _ _ (by lia) st fun v s1 pv st1 m=>?_);obtain⟨t,rfl⟩:=hf i v pv;have h1:Uu prog w s1.heap a (Dp.Yl f i):=hS.at fun o q=>m.heap a o (fun z=>na (W.sub _ z)) q
  show wpAny _ A.in1 (holding [Value.str (f i) t] (setAdd a (Value.str (f i) t)) >>= _) _ _ _;refine wpAny_bind (wpAny_holding ?_);unfold setAdd;refine wpAny_holding (wpAny_bind ((PySem.strKind prog w).pyHash (k:=f i) (strKind_is _ _ _ _) ?_));have room:(Dp.Yl f i).length+1<scanBound:=by have:=Dp.JW f i;lia
  refine wpAny_setAddHashed_of (knd:=PySem.strKind prog w) (s:={ s1 with toks:=s1.toks+1 }) (strKind_is _ _ _ _) rfl h1 room fun h2 sb hS2=>?_
  have h3:Uu prog w h2 a (Dp.Yl f (i+1)):=SetOf_congr hS2 (fun y=>(Dp.sV _ _ _).symm) (Dp.Jc _ _).symm;refine wpAny_pure ⟨plainId_quiet PyProof.Rows.F.plain_set_update_loop _,loopS W na f hf hb k (i+1) _ (by lia) (by lia) (W.frame _ s1 _ _ st1 (Nat.le_succ _) fun b q o e=>?_) h3 fun s' m' hS'=>?_⟩
  ·exact(sb.2 b fun z=>na (z▸q)).trans e
  ·refine hR s' (Moved.trans W.gtrans ((m.mono fun b q=>qj _ q).then_heap (Nat.le_succ _) fun b o q e=>?_) m') hS';exact(sb.2 b fun z=>q (z▸qI)).trans e
end
section
variable {prog:Program}{w:World}{A:Around}{E:Value->Shared->Prop}{s:Shared}
abbrev R3 (led:Bool):Obj:={ cls:=.type "set",dict:=none,data:=.set #[] 0 (.fresh 0 0 led) }
def Β {l:Addr}{its:Array Value}(f:Nat->Str){Q:Value->Shared->Prop}(hh:A.handled=none)(hl:s.heap.IsList l its)(hf:∀ (i:Nat) v,its[i]?=some v->∃ t,v=.str (f i) t)(hb:its.size+1<scanBound)
    (h:∀ (h':Heap) (tk:Nat),Uu prog w h' s.heap.objs.size (Dp.Yl f its.size)->(∀ b o,b<s.heap.objs.size->s.heap.get? b=some o->h'.get? b=some o)->Q (.ref s.heap.objs.size) { s with heap:=h',toks:=tk }) :
    wpAny (model prog w) A (call (.type "set") [.ref l]) Q E s:=by
  have ft:=F.called_set;obtain⟨c,tl,hmro⟩:=ft.mro;have hmade:=ft.made;have hsub:=ft.sub;have h1:=ft.notType;have h2:=ft.canCreate;have hct:=F.typeCall_set_1 (.ref l);refine wpAny_call (codeAny_of_tree ?_);show wpAny _ _ (callAny (.type "set") _) _ _ s;refine wpAny_pure ⟨Code.quiet_builtin _ (by decide +kernel),codeAny_builtin F.entry_type_call ?_⟩;rw[Around.under_plain (weight_type_call_type "set" [Value.ref l] []) rfl]
  repeat (any_goals (first|assumption|wp_step))
  refine codeAny_mono (code_set_new_1 (.ref l) (E:=E) (Q₁:=fun v s1=>∃ led:Bool,v=.ref s.heap.objs.size/\s1={ s with heap:=s.heap.push (R3 led) }) fun led=>⟨led,rfl,rfl⟩) fun r s1 hr=>?_
  cases r with
  |error e=>exact hr
  |ok fl =>
    cases fl with
    |ret v =>
      obtain⟨led,rfl,rfl⟩:=hr;have e0:(s.heap.push (R3 led)).get? s.heap.objs.size=some (R3 led):=qq _ rfl;have hT:Shared.TypeIs { s with heap:=s.heap.push (R3 led) } (.ref s.heap.objs.size) "set":=⟨_,e0,rfl⟩
      have hli:=ft.init.lookup;have hbi:=ft.init.bind (.ref s.heap.objs.size)
      repeat (any_goals (first|assumption|wp_step))
      refine codeAny_mono (codeAny_call_builtin (R:=wants (fun r s2=>r=.none/\∃ h' tk,s2={ s with heap:=h',toks:=tk }/\Uu prog w h' s.heap.objs.size (Dp.Yl f its.size)/\∀ b o,b<s.heap.objs.size->s.heap.get? b=some o->h'.get? b=some o) E) ft.init.plain F.entry_set_init (check_set_init_1 hT ?_)) fun r2 s2 hr2=>?_
      . obtain⟨ol,hol,hcl,nl,hdl⟩:=hl;obtain⟨ocl,odi,oda,osl⟩:=ol;simp only at hcl hdl;subst hcl hdl;have hol2:(s.heap.push (R3 led)).get? l=some { cls:=.type "list",dict:=odi,data:=.seq its nl,slots:=osl }:=qd _ hol;have k1:=F.sub_list_set;have k2:=F.sub_list_frozenset;have k3:(Value.type "list"==Value.type "dict")=false:=by decide
        have hl1:(s.heap.push (R3 led)).IsList l its:=⟨_,hol2,rfl,nl,rfl⟩
        unfold Builtin.«set.__init__» noKeywords Builtin.Frozenset.updateFrom;generalize hPI:pyIter=PI
        wp_walk
        subst hPI;refine wpAny_pyIter_list hl1 (wpAny_bind (wpAny_runValue ?_));have ll:l<s.heap.objs.size:=qC hol;have n1:l≠(s.heap.push (R3 led)).objs.size:=by rw[W0];exact qV (Nat.lt_succ_of_lt ll)
        have n2:s.heap.objs.size∉[(s.heap.push (R3 led)).objs.size,l]:=by
          rw[W0];intro z;rcases ql.mp z with z|z
          . exact qV (La _) z
          . exact Wu ll (qK.mp z)
        refine loopS ((Walks.list (show _=none by simp[hh]) _ l n1 its).toS) n2 f hf hb (its.size-0) 0 _ (by lia) (qY _) ⟨⟨_,qq _ rfl,rfl,rfl⟩,hl1.push _⟩ ?_ fun s' m hS'=>?_
        . exact SetOf_congr ((setObjOf_fresh (knd:=PySem.strKind prog w) led).setOf (qd _ e0) (by unfold scanBound;lia)) (fun _=>rfl) rfl
        . obtain⟨h',g',d',tk',os'⟩:=s';cases(show g'=s.gens from m.gens);cases(show d'=s.drawn from m.drawn);cases(show os'=s.os from m.os);show wpAny _ _ _ _ _ _;refine wpAny_pure (wpAny_pure ⟨rfl,h',tk',rfl,hS',fun b o q e=>?_⟩);refine m.heap b o (fun z=>?_) (qd _ (qd _ e));rcases ql.mp z with z|z
          . exact qV q z
          . have z':=qK.mp z;rw[W0]at z';exact qV (Nat.lt_succ_of_lt q) z'
      . cases r2 with
        |error e=>exact hr2
        |ok fl2 =>
          cases fl2 with
          |ret r =>
            obtain⟨rfl,h',tk,rfl,hS',kp⟩:=hr2
            repeat (any_goals (first|assumption|wp_step))
            exact h _ _ hS' kp
          |_=>exact hr2.elim
    |_=>exact hr.elim
end
def zwe (K:PySem.W.Frag)(ta:TA):TE:=fun U H Q=>ta U H fun vs H1=>∃ l,∃ zs:List Str,vs=[.ref l]/\ZC K H1 l (zs.map V.str)/\zs.length<=4000/\Q (.int (Dp.Yl (fun i=>zs.getD i Str.empty) zs.length).length) H1
theorem pI:∀ {zs:List Str} {us:List Value},Vals (zs.map V.str) us->∀ (i:Nat) v,us[i]?=some v->∃ t,v=.str (zs.getD i Str.empty) t
 |[],_,.nil,i,v,e=>by simp at e
 |z::zs,_,.cons r t,0,v,e=>by obtain⟨t,rfl⟩:=r;simp at e;exact⟨t,e.symm⟩
 |z::zs,_,.cons r t,i+1,v,e=>by obtain⟨t,h⟩:=pI t i v (by simpa using e);exact⟨t,by rw[h];simp⟩
def zrX {X:Cx}{a:Expr}{ta:TA}{p1 p2 pos1 pos2:Pos}(hc:X.calm=true)(hgl:Gl X "len")(hml:X.mg "len"=none)(hgr:Gl X "set")(hmr:X.mg "set"=none)(ha:PA X [a] ta)
  (hs:starEach [a] X.env=[(false,eval a X.env)]:=by rfl)
  (hs3:starEach [.Call (.Name "set" p2) [a] [] pos2] X.env=[(false,eval (.Call (.Name "set" p2) [a] [] pos2) X.env)]:=by rfl) :
  PE X (.Call (.Name "len" p1) [.Call (.Name "set" p2) [a] [] pos2] [] pos1) (zwe X.K ta):=by
 intro Z9 s U H Q I h;refine Call_ (Ua I hgl hml boot_len (PyProof.Rows.callWith_builtin1 ?_ (by rw[hs3];rfl) (by rfl)));rw[hs3];show wpAny _ _ (spliced ((false,eval (.Call (.Name "set" p2) [a] [] pos2) X.env)::backTo pos1 [])) _ _ s;refine Calls.spliced_cons (Call_ (Ua I hgr hmr boot_set (PyProof.Rows.callWith_type1 (Z2 (ha pos2 Z9 s U H _ I h) fun us s1 ⟨vs,H1,I1,r1,q1⟩=>?_) hs rfl)));obtain⟨l,zs,e,hx,h4,q⟩:=q1;subst e;obtain⟨u,rfl,ru⟩:=vals1 r1;cases ru;obtain⟨its,rx,px,zx⟩:=I1.list hx;have sz:its.toArray.size=zs.length:=by rw[qo,<- rx.length,qa]
 refine Β (fun i=>zs.getD i Str.empty) (show _=none from I1.ok.hd hc) px.isList (fun i v e=>pI rx i v (by simpa using e)) (by rw[sz];unfold scanBound;lia) fun h' tk hS kp=>Calls.spliced_nil ?_
 rw[sz]at hS;have le:=Dp.JW (fun i=>zs.getD i Str.empty) zs.length;obtain⟨o,es,ep,t,ho,hex,hd,_,_,_,hf,hn⟩:=hS;refine call_len_set ho hex hd hf (by lia) ?_;rw[hn];exact⟨.int _,H1,I1.kept (t':=tk+1+1) (fun b o q=>kp b o (qC q) q),⟨_,rfl⟩,q⟩
section
variable {X:Cx}{Z9:List (Addr×Obj)}{U:L2.St}{H H':Hp}{s:Shared}{a:Addr}
end
section
variable {X:Cx}{Z9:List (Addr×Obj)}{U:L2.St}{R:Result->Shared->Prop}{G:Hp->Prop}{l q I S:Addr}{oq:Obj}{vs:List Value}
end
def Cu (H:Hp)(cd:Value)(qual:Str):Prop:=∃ c oc vs t u,cd=.ref c/\H c=some (.frz oc u)/\oc.data=.fields vs/\vs[1]?=some (.str qual t)
section
variable {X:Cx}{Z9:List (Addr×Obj)}{U:L2.St}{G:Hp->Prop}{q:Addr}{name qual x:Str}{params:Arguments}{body:Expr}{sc:Scope}{cl:List (Str×Addr)}{pm cd ct:Value}{free:List Str}{fv:List Nat}{te:TE}
end
def gq (H:Hp)(ps:Array Value)(l c:Nat)(qual:Str):Prop:=ps=#[]\/∃ a,ps=#[rawInt l,rawInt c,.ref a]/\Cu H (.ref a) qual
end My
namespace Dp
open PySem PySem.Spec PyProof.Rows L2 My
def isStar:Expr->Bool
 |.Starred _ _=>true
 |_=>false
def VB {e:Expr}{es:List Expr}{env:Env}(h:isStar e=false):starEach (e::es) env=(false,eval e env)::starEach es env:=by cases e<;>first|rfl|cases h
theorem J9 {pos:Pos}{env:Env}:∀ {es:List Expr},es.all (fun e=>!isStar e)=true->(backTo pos (starEach es env)).any (·.1)=false
 |[],_=>rfl
 |e::es,h=>by rw[V1,qw]at h;rw[VB (by simpa using h.1)];show(false||(backTo pos (starEach es env)).any (·.1))=false;rw[J9 h.2];rfl
def TF {e:Expr}{env:Env}(h:isStar e=false):starEach [e] env=[(false,eval e env)]:=VB h
def KD {e g:Expr}{env:Env}(h:isStar e=false)(k:isStar g=false):starEach [e,g] env=[(false,eval e env),(false,eval g env)]:=by rw[VB h,TF k]
def Rb (K:PySem.W.Frag)(H:Hp)(a:Addr)(xs:List V):Prop :=(∃ o,H a=some (.frz o (.lst xs)))\/∃ (o:Obj) (its:Array Value) (n:Nat),K.lookup a=some o/\o.cls=.type "list"/\o.dict=none/\o.data=.seq its n/\its.size<=sizeLine/\Vals xs its.toList
def zxV (K:PySem.W.Frag)(a:Addr)(xs:List V):Prop:=∃ (o:Obj) (its:Array Value) (n:Nat),K.lookup a=some o/\o.cls=.type "tuple"/\o.data=.seq its n/\its.size<=sizeLine/\Vals xs its.toList
def Rb.sq {K:PySem.W.Frag}(h:Rb K H a xs):ZC K H a xs:=h.imp (fun h=>.inr h) id
mutual
inductive Rel (K:PySem.W.Frag)(aD:List Addr)(H:Hp):D->V->Prop
 |non:Rel K aD H .non .non
 |bl (b:Bool):Rel K aD H (.bl b) (.bl b)
 |int (i:Int):Rel K aD H (.int i) (.int i)
 |str (x:Str):Rel K aD H (.str x) (.str x)
 |ty (n:String):Rel K aD H (.ty n) (.ty n)
 |tup {a:Addr} {vs:List V} {ds:List D}:H a=some (.tup vs)->zj K aD H ds vs->Rel K aD H (.tup ds) (.ref a)
 |rl {a:Addr} {vs:List V} {ds:List D}:Rb K H a vs->zj K aD H ds vs->Rel K aD H (.rl ds) (.ref a)
 |ref {n:Nat} {a:Addr}:aD[n]?=some a->Rel K aD H (.ref n) (.ref a)
 |exn {c:Str} {a C:Addr} {o:Obj} {u:HO}:H a=some (.frz o u)->o.cls=.ref C->PySem.W.nsIn K mainGlobals c=some (some (.ref C))->Rel K aD H (.exn c) (.ref a)
 |kt {a:Addr} {vs:List V} {ds:List D}:zxV K a vs->zj K aD H ds vs->Rel K aD H (.kt ds) (.ref a)
inductive zj (K:PySem.W.Frag)(aD:List Addr)(H:Hp):List D->List V->Prop
 |nil:zj K aD H [] []
 |cons {d:D} {v:V} {ds:List D} {vs:List V}:Rel K aD H d v->zj K aD H ds vs->zj K aD H (d::ds) (v::vs)
end
structure Wd (aD:List Addr)(H:Hp)(aD':List Addr)(H':Hp):Prop where
 pre:aD <+: aD'
 keep:∀ b o,b∉aD->H b=some o->H' b=some o
 tup:∀ b xs,H b=some (.tup xs)->H' b=some (.tup xs)
 frz:∀ b o u,H b=some (.frz o u)->H' b=some (.frz o u)
 new:∀ b,b∈aD'->b∉aD->H b=none
def Wd.refl {aD:List Addr}{H:Hp}:Wd aD H aD H:=⟨O9 _,fun _ _ _ h=>h,fun _ _ h=>h,fun _ _ _ h=>h,fun _ h n=>absurd h n⟩
theorem Wd.trans (a:Wd aD H ad1 H1)(b:Wd ad1 H1 ad2 H2):Wd aD H ad2 H2 where
 pre:=a.pre.trans b.pre
 keep:=fun c o hc h=>b.keep c o (fun h1=>by rw[a.new c h1 hc]at h;cases h) (a.keep c o hc h)
 tup:=fun c xs h=>b.tup c xs (a.tup c xs h)
 frz:=fun c o u h=>b.frz c o u (a.frz c o u h)
 new:=fun c h2 hc=>by
  by_cases h1:c∈ad1
  ·exact a.new c h1 hc
  ·have n1:=b.new c h2 h1;cases e:H c with
   |none=>rfl
   |some o=>rw[a.keep c o hc e]at n1;cases n1
def RW {α:Type}{l l':List α}(h:l <+: l'){n:Nat}{a:α}(e:l[n]?=some a):l'[n]?=some a:=by obtain⟨t,rfl⟩:=h;rw[qg (My.Wh e)];exact e
structure Wr (aD:List Addr)(H:Hp)(aD':List Addr)(H':Hp):Prop where
 pre:aD <+: aD'
 tup:∀ b xs,H b=some (.tup xs)->H' b=some (.tup xs)
 frz:∀ b o u,H b=some (.frz o u)->H' b=some (.frz o u)
def Wd.wr (w:Wd aD H aD' H'):Wr aD H aD' H':=⟨w.pre,w.tup,w.frz⟩
def Rb.wr {K:PySem.W.Frag}(w:Wr aD H aD' H')(h:Rb K H a xs):Rb K H' a xs:=h.imp (by rintro⟨o,e⟩;exact⟨o,w.frz _ _ _ e⟩) id
mutual
theorem Rel.wr {K:PySem.W.Frag}{aD aD':List Addr}{H H':Hp}(w:Wr aD H aD' H'):∀ {d:D} {v:V},Rel K aD H d v->Rel K aD' H' d v
 |_,_,.non=>.non
 |_,_,.bl b=>.bl b
 |_,_,.int i=>.int i
 |_,_,.str x=>.str x
 |_,_,.ty n=>.ty n
 |_,_,.tup h r=>.tup (w.tup _ _ h) (zj.wr w r)
 |_,_,.rl h r=>.rl (h.wr w) (zj.wr w r)
 |_,_,.ref h=>.ref (RW w.pre h)
 |_,_,.exn h e n=>.exn (w.frz _ _ _ h) e n
 |_,_,.kt h r=>.kt h (zj.wr w r)
theorem zj.wr {K:PySem.W.Frag}{aD aD':List Addr}{H H':Hp}(w:Wr aD H aD' H'):∀ {ds:List D} {vs:List V},zj K aD H ds vs->zj K aD' H' ds vs
 |_,_,.nil=>.nil
 |_,_,.cons r t=>.cons (Rel.wr w r) (zj.wr w t)
end
def Rel.wd {K:PySem.W.Frag}(r:Rel K aD H d v)(w:Wd aD H aD' H'):Rel K aD' H' d v:=Rel.wr w.wr r
def zj.wd {K:PySem.W.Frag}(r:zj K aD H ds vs)(w:Wd aD H aD' H'):zj K aD' H' ds vs:=zj.wr w.wr r
section
variable {K:PySem.W.Frag}{aD:List Addr}{H:Hp}
theorem zj.length:∀ {ds:List D} {vs:List V},zj K aD H ds vs->ds.length=vs.length
  |_,_,.nil=>rfl
  |_,_,.cons _ t=>congrArg (· + 1) (zj.length t)
theorem zj.get:∀ {ds:List D} {vs:List V} {i:Nat} {d:D},zj K aD H ds vs->ds[i]?=some d->∃ v,vs[i]?=some v/\Rel K aD H d v
 |_,_,_,_,.nil,e=>by simp at e
 |_,_,0,_,.cons r _,e=>by simp at e;subst e;exact⟨_,rfl,r⟩
 |_,_,i+1,d,.cons _ t,e=>by obtain⟨v,h1,h2⟩:=zj.get (i:=i) (d:=d) t (by simpa using e);exact⟨v,by simpa using h1,h2⟩
theorem zj.append:∀ {ds es:List D} {vs us:List V},zj K aD H ds vs->zj K aD H es us->zj K aD H (ds++es) (vs++us)
 |_,_,_,_,.nil,s=>s
 |_,_,_,_,.cons r t,s=>.cons r (zj.append t s)
theorem zj.take:∀ {ds:List D} {vs:List V} (n:Nat),zj K aD H ds vs->zj K aD H (ds.take n) (vs.take n)
 |_,_,0,_=>.nil
 |_,_,_+1,.nil=>.nil
 |_,_,n+1,.cons r t=>.cons r (zj.take n t)
theorem zj.drop:∀ {ds:List D} {vs:List V} (n:Nat),zj K aD H ds vs->zj K aD H (ds.drop n) (vs.drop n)
 |_,_,0,r=>r
 |_,_,_+1,.nil=>.nil
 |_,_,n+1,.cons _ t=>zj.drop n t
theorem zj.set (r:Rel K aD H d v):∀ {ds:List D} {vs:List V} (i:Nat),zj K aD H ds vs->zj K aD H (ds.set i d) (vs.set i v)
 |_,_,_,.nil=>.nil
 |_,_,0,.cons _ t=>.cons r t
 |_,_,i+1,.cons q t=>.cons q (zj.set r i t)
theorem zj.ints:∀ {ns:List Int} {vs:List V},zj K aD H (ns.map D.int) vs->vs=ns.map V.int
 |[],_,.nil=>rfl
 |n::ns,_,.cons r t=>by cases r;rw[zj.ints t];rfl
theorem zj.bls:∀ {ns:List Bool} {vs:List V},zj K aD H (ns.map D.bl) vs->vs=ns.map V.bl
 |[],_,.nil=>rfl
 |n::ns,_,.cons r t=>by cases r;rw[zj.bls t];rfl
theorem zj.mk_ints:∀ (ns:List Int),zj K aD H (ns.map D.int) (ns.map V.int)
 |[]=>.nil
 |n::ns=>.cons (.int n) (zj.mk_ints ns)
end
inductive Zg (K:PySem.W.Frag)(aD:List Addr)(H:Hp):List (Str×D)->List (Str×V)->Prop
 |nil:Zg K aD H [] []
 |cons {f:Str} {d:D} {v:V} {fs:List (Str×D)} {vs:List (Str×V)}:Rel K aD H d v->Zg K aD H fs vs->Zg K aD H ((f,d)::fs) ((f,v)::vs)
theorem Zg.wr {K:PySem.W.Frag}(w:Wr aD H aD' H'):∀ {fs:List (Str×D)} {vs:List (Str×V)},Zg K aD H fs vs->Zg K aD' H' fs vs
 |_,_,.nil=>.nil
 |_,_,.cons r t=>.cons (Rel.wr w r) (Zg.wr w t)
theorem Zg.look {K:PySem.W.Frag}{aD:List Addr}{H:Hp}{f:Str}:∀ {fs:List (Str×D)} {vs:List (Str×V)} {d:D},Zg K aD H fs vs->fs.lookup f=some d->∃ v,vs.lookup f=some v/\Rel K aD H d v
 |_,_,d,.nil,e=>by simp at e
 |_,_,d,@Zg.cons _ _ _ g x v fs vs r t,e=>by
  rw[qu]at e ⊢;cases h:f==g with
  |true=>rw[h]at e;cases e;exact⟨v,rfl,r⟩
  |false=>rw[h]at e;exact Zg.look t e
theorem Zg.put {K:PySem.W.Frag}{f:Str}(rd:Rel K aD H d v):∀ {fs:List (Str×D)} {vs:List (Str×V)},Zg K aD H fs vs->Zg K aD H (putD f d fs) (YF f v vs)
 |_,_,.nil=>.cons rd .nil
 |_,_,@Zg.cons _ _ _ g x u fs vs r t=>by
  show Zg K aD H (if g=f then(g,d)::fs else(g,x)::putD f d fs) (if g=f then(g,v)::vs else(g,u)::YF f v vs);by_cases h:g=f
  ·rw[if_pos h,if_pos h];exact .cons rd t
  ·rw[if_neg h,if_neg h];exact .cons r (Zg.put rd t)
theorem Zg.length {K:PySem.W.Frag}{aD:List Addr}{H:Hp}:∀ {fs:List (Str×D)} {vs:List (Str×V)},Zg K aD H fs vs->fs.length=vs.length
  |_,_,.nil=>rfl
  |_,_,.cons _ t=>congrArg (· + 1) (Zg.length t)
theorem vp {f:Str}{d:D}{q:Str×D}:∀ {fs:List (Str×D)},q∈putD f d fs->q.1=f\/q∈fs
 |[],h=>by
  have:q=(f,d):=by simpa [putD]using h
  subst this;exact .inl rfl
 |(g,x)::fs,h=>by
  have h:q∈if g=f then(g,d)::fs else(g,x)::putD f d fs:=h
  by_cases e:g=f
  ·rw[if_pos e]at h;rcases ql.mp h with rfl|h
   ·exact .inl e
   ·exact .inr (qj _ h)
  ·rw[if_neg e]at h;rcases ql.mp h with rfl|h
   ·exact .inr (by simp)
   ·exact(vp h).imp id (qj _)
theorem oY {f:Str}{d:D}:∀ {fs:List (Str×D)},fs.lookup f=some d->∃ q∈fs,q.1=f
 |[],e=>by simp at e
 |(g,x)::fs,e=>by
  rw[qu]at e;cases h:f==g with
  |true=>exact⟨(g,x),by simp,(eq_of_beq h).symm⟩
  |false =>rw[h]at e;obtain⟨q,hq,e'⟩:=oY e;exact⟨q,qj _ hq,e'⟩
inductive RelK (K:PySem.W.Frag)(aD:List Addr)(H:Hp):List (Str×D)->List (Key×V)->Prop
 |nil:RelK K aD H [] []
 |cons {x:Str} {d:D} {v:V} {fs:List (Str×D)} {vs:List (Key×V)}:Rel K aD H d v->RelK K aD H fs vs->RelK K aD H ((x,d)::fs) ((.inr x,v)::vs)
inductive zU {κ:Type}(K:PySem.W.Frag)(aD:List Addr)(H:Hp):List (κ×D)->List (κ×V)->Prop
 |nil:zU K aD H [] []
 |cons {x:κ} {d:D} {v:V} {fs:List (κ×D)} {vs:List (κ×V)}:Rel K aD H d v->zU K aD H fs vs->zU K aD H ((x,d)::fs) ((x,v)::vs)
theorem RelK.wr {K:PySem.W.Frag}(w:Wr aD H aD' H'):∀ {fs:List (Str×D)} {vs:List (Key×V)},RelK K aD H fs vs->RelK K aD' H' fs vs
 |_,_,.nil=>.nil
 |_,_,.cons r t=>.cons (Rel.wr w r) (RelK.wr w t)
theorem zU.wr {κ:Type}{K:PySem.W.Frag}(w:Wr aD H aD' H'):∀ {fs:List (κ×D)} {vs:List (κ×V)},zU K aD H fs vs->zU K aD' H' fs vs
 |_,_,.nil=>.nil
 |_,_,.cons r t=>.cons (Rel.wr w r) (zU.wr w t)
def Wx (K:PySem.W.Frag)(aD:List Addr)(H:Hp)(a:Addr):Cell->Prop
 |.lst ds=>∃ vs,H a=some (.lst vs)/\zj K aD H ds vs
 |.ins c fs=>∃ C dx vs,H a=some (.ins C dx vs)/\Cls K C/\PySem.W.nsIn K mainGlobals c=some (some (.ref C))/\Zg K aD H fs vs/\∀ q∈fs,VG K C q.1
 |.dk Z8=>∃ vs,H a=some (.dK vs)/\RelK K aD H Z8 vs
 |.dt Z8=>∃ vs,H a=some (.dT vs)/\zU K aD H Z8 vs
 |.dn Z8 ep=>∃ vs,H a=some (.dN vs ep)/\zU K aD H Z8 vs
 | .tab x l c=>∃ ps cd,H a=some (.tbl ps)/\PySem.W.tabIn K x=some (cd,a)/\gq H ps l c (x++".<locals>."++"<lambda>")
def eZ (g:Cu H v q)(w:Wr aD H aD' H'):Cu H' v q :=by obtain⟨c,oc,vs,t,u,e,h,r⟩:=g;exact⟨c,oc,vs,t,u,e,w.frz _ _ _ h,r⟩
class Bs where
 aD:List Addr
 H:Hp
structure zp [B:Bs](K:PySem.W.Frag)(aD:List Addr)(H:Hp)(S:Z7):Prop where
 wd:Wd B.aD B.H aD H
 len:aD.length=S.length
 nd:aD.Nodup
 cell:∀ (n:Nat) (a:Addr) (c:Cell),aD[n]?=some a->S[n]?=some c->Wx K aD H a c
structure Zb (K:PySem.W.Frag)(aD:List Addr)(H:Hp)(ρ:Z1)(U:L2.St):Prop where
 len:ρ.length=U.length
 val:∀ (i:Nat) (d:D),ρ[i]?=some (some d)->∃ v,U[i]?=some (some v)/\Rel K aD H d v
theorem Zb.wd {K:PySem.W.Frag}(h:Zb K aD H ρ U)(w:Wd aD H aD' H'):Zb K aD' H' ρ U :=⟨h.len,fun i d e=>by obtain⟨v,e',r⟩:=h.val i d e;exact⟨v,e',r.wd w⟩⟩
variable [B:Bs]
section
variable {K:PySem.W.Frag}{aD:List Addr}{H:Hp}{S:Z7}
def zp.get (st:zp K aD H S){n:Nat}{c:Cell}(h:S[n]?=some c):∃ a,aD[n]?=some a/\Wx K aD H a c:=by
 have hn:n<aD.length:=by rw[st.len];exact My.Wh h
 exact⟨aD[n],qb hn,st.cell n _ c (qb hn) h⟩
theorem Wx.some (h:Wx K aD H a c):∃ o,H a=some o:=by
 cases c with
 |lst ds=>obtain⟨vs,e,_⟩:=h;exact⟨_,e⟩
 |ins c fs=>obtain⟨C,dx,vs,e,_⟩:=h;exact⟨_,e⟩
 |dk Z8=>obtain⟨vs,e,_⟩:=h;exact⟨_,e⟩
 |dt Z8=>obtain⟨vs,e,_⟩:=h;exact⟨_,e⟩
 |dn Z8 ep=>obtain⟨vs,e,_⟩:=h;exact⟨_,e⟩
 |tab x l c=>obtain⟨ps,cd,e,_⟩:=h;exact⟨_,e⟩
def zp.there (st:zp K aD H S){a:Addr}(h:a∈aD):∃ o,H a=some o:=by
 obtain⟨n,hn,e⟩:=qN.mp h;have e':aD[n]?=some a:=by rw[qb hn,e]
 have hs:n<S.length:=by rw[<- st.len];exact hn
 exact(st.cell n a S[n] e' (qb hs)).some
def zp.fresh (st:zp K aD H S)(h:H l=none):l∉aD:=fun m=>by obtain⟨o,e⟩:=st.there m;rw[h]at e;cases e
theorem Wx.wr (h:Wx K aD H a c)(w:Wr aD H aD' H')(same:H' a=H a):Wx K aD' H' a c:=by
 cases c with
 |lst ds=>obtain⟨vs,e,r⟩:=h;exact⟨vs,same.trans e,zj.wr w r⟩
 |ins c fs=>obtain⟨C,dx,vs,e,c1,c2,r,n⟩:=h;exact⟨C,dx,vs,same.trans e,c1,c2,Zg.wr w r,n⟩
 |dk Z8=>obtain⟨vs,e,r⟩:=h;exact⟨vs,same.trans e,RelK.wr w r⟩
 |dt Z8=>obtain⟨vs,e,r⟩:=h;exact⟨vs,same.trans e,zU.wr w r⟩
 |dn Z8 ep=>obtain⟨vs,e,r⟩:=h;exact⟨vs,same.trans e,zU.wr w r⟩
 |tab x l c=>obtain⟨ps,cd,e,t,g⟩:=h;exact⟨ps,cd,same.trans e,t,g.imp id fun zq24=>by obtain⟨c,e,g⟩:=zq24;exact⟨c,e,eZ g w⟩⟩
def Wx.wd (h:Wx K aD H a c)(w:Wd aD H aD' H')(same:H' a=H a):Wx K aD' H' a c:=h.wr w.wr same
def Wd.laid {o:HO}(h:H l=none):Wd aD H aD (upd H l o) :=⟨O9 _,fun b u _ e=>Vu h e,fun b u e=>Vu h e,fun b u w e=>Vu h e,fun _ m n=>absurd m n⟩
def zp.bfree (st:zp K aD H S)(h:H p=none):B.H p=none:=by
 cases e:B.H p with
 |none=>rfl
 |some o =>
  by_cases m:p∈B.aD
  ·obtain⟨u,hu⟩:=st.there (st.wd.pre.subset m);rw[h]at hu;cases hu
  ·rw[st.wd.keep p o m e]at h;cases h
theorem zp.laid (st:zp K aD H S){o:HO}(h:H l=none):zp K aD (upd H l o) S :=
 ⟨st.wd.trans (Wd.laid h),st.len,st.nd,fun n a c e1 e2=>(st.cell n a c e1 e2).wd (Wd.laid h) (by obtain⟨u,e⟩:=(st.cell n a c e1 e2).some;rw[Vu h e,e])⟩
def Wd.newL (st:zp K aD H S){o:HO}(h:H l=none):Wd aD H (aD++[l]) (upd H l o) :=
 ⟨Mp _ _,fun b u _ e=>Vu h e,fun b u e=>Vu h e,fun b u w e=>Vu h e,fun b m n=>by
  rcases qD.mp m with m|m
  ·exact absurd m n
  ·have:b=l:=by simpa using m
   subst this;exact h⟩
theorem zp.newL (st:zp K aD H S)(h:H l=none)(r:zj K aD H ds vs):zp K (aD++[l]) (upd H l (.lst vs)) (S++[.lst ds]) where
 wd:=st.wd.trans (Wd.newL st h)
 len:=by rw[qf,qf,st.len];rfl
 nd:=by
  rw[VR];refine⟨st.nd,by simp,fun a ha b hb e=>?_⟩;have:b=l:=by simpa using hb
  subst this;subst e;exact st.fresh h ha
 cell:=fun n a c e1 e2=>by
  by_cases hn:n<aD.length
  ·rw[qg hn]at e1;rw[qg (by rw[<- st.len];exact hn)]at e2;have ok:=st.cell n a c e1 e2;obtain⟨u,e⟩:=ok.some;exact ok.wd (Wd.newL st h) (by rw[Vu h e,e])
  ·have hn':aD.length<=n:=Rv hn;rw[qe hn']at e1;rw[qe (by rw[<- st.len];exact hn'),<- st.len]at e2;cases hk:n-aD.length with
   |zero =>
    rw[hk]at e1 e2;have e1':l=a:=by simpa using e1
    have e2':Cell.lst ds=c:=by simpa using e2
    subst e1' e2';exact⟨vs,zL,r.wd (Wd.newL st h)⟩
   |succ k=>rw[hk]at e1;simp at e1
def zp.newRef (st:zp K aD H S){l:Addr}{o:HO}:Rel K (aD++[l]) (upd H l o) (.ref S.length) (.ref l):=.ref (by rw[<- st.len,qe (qh _),Yp];rfl)
def Wd.put {n:Nat}{a:Addr}{vs ws:List V}(e:aD[n]?=some a)(h:H a=some (.lst vs)):Wd aD H aD (upd H a (.lst ws)) :=
 ⟨O9 _,fun b u hb q=>by
   have:b≠a:=fun z=>hb (by rw[z];exact qc e)
   rw[zu this];exact q,
  fun b xs q=>by rw[zu (VF q h (by intro z;cases z))];exact q,fun b o u q=>by rw[zu (VF q h (by intro z;cases z))];exact q,fun _ m n=>absurd m n⟩
theorem zp.put (st:zp K aD H S){n:Nat}{a:Addr}{vs:List V}(e:aD[n]?=some a)(h:H a=some (.lst vs))(r:zj K aD H ds ws):zp K aD (upd H a (.lst ws)) (S.set n (.lst ds)) where
 wd:=st.wd.trans (Wd.put e h)
 len:=by rw[W8];exact st.len
 nd:=st.nd
 cell:=fun m b c e1 e2=>by
  have w:=Wd.put (ws:=ws) e h;by_cases hm:m=n
  ·subst hm;rw[e]at e1;cases e1;rw[qU (by rw[<- st.len];exact My.Wh e)]at e2;cases e2;exact⟨ws,zL,r.wd w⟩
  ·rw[qS (Ne.symm hm)]at e2
   have ne:b≠a:=fun z=>by subst z;have h1:=My.Wh e1;have h2:=My.Wh e;have q1:=(Uo.mp e1).2;have q2:=(Uo.mp e).2;exact hm ((P0 st.nd).mp (q1.trans q2.symm))
   exact(st.cell m b c e1 e2).wd w (zu ne)
def zp.newI (st:zp K aD H S){C:Addr}(h:H x=none)(h2:H dx=none)(hne:dx≠x)(hc:Cls K C)(hn:PySem.W.nsIn K mainGlobals c=some (some (.ref C))) :
  Wd aD H (aD++[x]) (upd (upd H dx (.own x)) x (.ins C dx []))/\zp K (aD++[x]) (upd (upd H dx (.own x)) x (.ins C dx [])) (S++[.ins c []]):=by
 have st1:=st.laid (o:=.own x) h2;have hx:upd H dx (.own x) x=none:=by rw[zu (Ne.symm hne)];exact h
 have w1:Wd aD H aD (upd H dx (.own x)):=Wd.laid h2;have w2:Wd aD (upd H dx (.own x)) (aD++[x]) (upd (upd H dx (.own x)) x (.ins C dx [])):=Wd.newL st1 hx;refine⟨w1.trans w2,st.wd.trans (w1.trans w2),?_,?_,fun n a c' e1 e2=>?_⟩
 ·rw[qf,qf,st.len];rfl
 ·rw[VR];refine⟨st.nd,by simp,fun a ha b hb e=>?_⟩;have:b=x:=by simpa using hb
  subst this;subst e;exact st.fresh h ha
 ·by_cases hn':n<aD.length
  ·rw[qg hn']at e1;rw[qg (by rw[<- st.len];exact hn')]at e2;have ok:=st1.cell n a c' e1 e2;obtain⟨u,e⟩:=ok.some;exact ok.wd w2 (by rw[Vu hx e,e])
  ·have hn':aD.length<=n:=Rv hn';rw[qe hn']at e1;rw[qe (by rw[<- st.len];exact hn'),<- st.len]at e2;cases hk:n-aD.length with
   |zero =>
    rw[hk]at e1 e2;have e1':x=a:=by simpa using e1
    have e2':Cell.ins c []=c':=by simpa using e2
    subst e1' e2';exact⟨C,dx,[],zL,hc,hn,.nil,fun q hq=>by cases hq⟩
   |succ k=>rw[hk]at e1;simp at e1
def Wd.putI {n:Nat}{a C dx C' dx':Addr}{vs ws:List (Str×V)}(e:aD[n]?=some a)(h:H a=some (.ins C dx vs)):Wd aD H aD (upd H a (.ins C' dx' ws)) :=
 ⟨O9 _,fun b u hb q=>by
   have:b≠a:=fun z=>hb (by rw[z];exact qc e)
   rw[zu this];exact q,
  fun b xs q=>by rw[zu (VF q h (by intro z;cases z))];exact q,fun b o u q=>by rw[zu (VF q h (by intro z;cases z))];exact q,fun _ m n=>absurd m n⟩
theorem zp.putI (st:zp K aD H S){n:Nat}{a C dx:Addr}{vs:List (Str×V)}{fs:List (Str×D)}(e:aD[n]?=some a)(h:H a=some (.ins C dx vs))(hc:Cls K C)(hn:PySem.W.nsIn K mainGlobals c=some (some (.ref C)))(rf:Zg K aD H fs vs)(hna:∀ q∈fs,VG K C q.1)(hf:VG K C f)(r:Rel K aD H d v) :
  zp K aD (upd H a (.ins C dx (YF f v vs))) (S.set n (.ins c (putD f d fs))) where
 wd:=st.wd.trans (Wd.putI e h)
 len:=by rw[W8];exact st.len
 nd:=st.nd
 cell:=fun m b c' e1 e2=>by
  have w:Wd aD H aD (upd H a (.ins C dx (YF f v vs))):=Wd.putI e h;by_cases hm:m=n
  ·subst hm;rw[e]at e1;cases e1;rw[qU (by rw[<- st.len];exact My.Wh e)]at e2;cases e2;refine⟨C,dx,_,zL,hc,hn,Zg.wr w.wr (Zg.put r rf),fun q hq=>?_⟩;rcases vp hq with h1|h1
   ·rw[h1];exact hf
   ·exact hna q h1
  ·rw[qS (Ne.symm hm)]at e2
   have ne:b≠a:=fun z=>by subst z;have q1:=(Uo.mp e1).2;have q2:=(Uo.mp e).2;exact hm ((P0 st.nd).mp (q1.trans q2.symm))
   exact(st.cell m b c' e1 e2).wd w (zu ne)
def Wd.hid {o:HO}(w:Wd aD H aD' H')(hp:H p=none):Wd aD H aD' (upd H' p o) :=⟨w.pre,fun b u hb q=>by rw[zu (Um q hp)];exact w.keep b u hb q,fun b u q=>by rw[zu (Um q hp)];exact w.tup b u q,fun b u v q=>by rw[zu (Um q hp)];exact w.frz b u v q,w.new⟩
def Wr.hid {vs ws:List V}(h:H p=some (.lst vs)):Wr aD H aD (upd H p (.lst ws)) :=⟨O9 _,fun b xs q=>by rw[zu (VF q h (by intro z;cases z))];exact q,fun b o u q=>by rw[zu (VF q h (by intro z;cases z))];exact q⟩
theorem zp.hid (st:zp K aD H S){vs ws:List V}(h:H p=some (.lst vs))(hp:p∉aD)(hb:B.H p=none):zp K aD (upd H p (.lst ws)) S :=⟨st.wd.hid hb,st.len,st.nd,fun n a c e1 e2=>(st.cell n a c e1 e2).wr (Wr.hid h) (zu fun z=>hp (by rw[<- z];exact qc e1))⟩
def Wd.add (w:Wd aD H aD' H')(hp:H p=none):Wd aD H (aD'++[p]) H' :=
 ⟨w.pre.trans (Mp _ _),w.keep,w.tup,w.frz,fun b m n=>by
  rcases qD.mp m with m|m
  ·exact w.new b m n
  ·have:b=p:=by simpa using m
   subst this;exact hp⟩
theorem zp.add (st:zp K aD H S){vs:List V}(h:H p=some (.lst vs))(hp:p∉aD)(r:zj K aD H ds vs)(hb:B.H p=none):zp K (aD++[p]) H (S++[.lst ds]) where
 wd:=st.wd.add hb
 len:=by rw[qf,qf,st.len];rfl
 nd:=by
  rw[VR];refine⟨st.nd,by simp,fun a ha b hb e=>?_⟩;have:b=p:=by simpa using hb
  subst this;subst e;exact hp ha
 cell:=fun n a c e1 e2=>by
  have w:Wr aD H (aD++[p]) H:=⟨Mp _ _,fun _ _ q=>q,fun _ _ _ q=>q⟩
  by_cases hn:n<aD.length
  ·rw[qg hn]at e1;rw[qg (by rw[<- st.len];exact hn)]at e2;exact(st.cell n a c e1 e2).wr w rfl
  ·have hn':aD.length<=n:=Rv hn;rw[qe hn']at e1;rw[qe (by rw[<- st.len];exact hn'),<- st.len]at e2;cases hk:n-aD.length with
   |zero =>
    rw[hk]at e1 e2;have e1':p=a:=by simpa using e1
    have e2':Cell.lst ds=c:=by simpa using e2
    subst e1' e2';exact⟨vs,h,zj.wr w r⟩
   |succ k=>rw[hk]at e1;simp at e1
theorem Lst.sq (st:zp K aD H S)(h:Lst S x xs)(r:Rel K aD H x v):∃ a vs,v=.ref a/\ZC K H a vs/\zj K aD H xs vs:=by
 rcases h with rfl|⟨n,rfl,h⟩
 ·cases r with
  |rl h r=>exact⟨_,_,rfl,h.sq,r⟩
 ·cases r with
  |ref e =>obtain⟨vs,e2,r⟩:=st.cell n _ _ e h;exact⟨_,vs,rfl,ZC.of e2,r⟩
theorem Tj.sq (st:zp K aD H S)(h:Tj S x xs)(r:Rel K aD H x v):∃ a vs,v=.ref a/\(ZC K H a vs\/ZM K H a vs)/\zj K aD H xs vs:=by
 rcases h with rfl|h
 ·cases r with
  |tup h r=>exact⟨_,_,rfl,.inr (ZM.of h),r⟩
 ·obtain⟨a,vs,e,s,r⟩:=Lst.sq st h r;exact⟨a,vs,e,.inl s,r⟩
end
omit B in
def ZV {a b c d:Type}{p1 p2 p3 p4:a->b->c->d->Prop}{R:Prop}(h:∃ (x:a) (y:b) (z:c) (w:d),p1 x y z w/\p2 x y z w/\p3 x y z w/\p4 x y z w)(f:∀ (x:a) (y:b) (z:c) (w:d),p1 x y z w->p2 x y z w->p3 x y z w->p4 x y z w->R):R :=Exists.elim h fun x h=>Exists.elim h fun y h=>Exists.elim h fun z h=>Exists.elim h fun w h=>f x y z w h.1 h.2.1 h.2.2.1 h.2.2.2
def KK (K:PySem.W.Frag)(aD:List Addr)(H:Hp)(Q0:DK)(Q:VK):Prop:=∀ d S' v H' aD',Q0 d S'->Wd aD H aD' H'->zp K aD' H' S'->Rel K aD' H' d v->Q v H'
def KK.wd {K:PySem.W.Frag}(k:KK K aD H Q0 Q)(w:Wd aD H aD' H'):KK K aD' H' Q0 Q:=fun d S' v H' aD' q w'=>k d S' v H' aD' q (w.trans w')
def up (K:PySem.W.Frag)(t:DE):TE:=fun U H Q=>∃ aD ρ S Q0,zp K aD H S/\Zb K aD H ρ U/\t ρ S Q0/\KK K aD H Q0 Q
def Oo (K:PySem.W.Frag)(t:DT):TT:=fun U H Q=>∃ aD ρ S Q0,zp K aD H S/\Zb K aD H ρ U/\t ρ S Q0/\∀ b S' H' aD',Q0 b S'->Wd aD H aD' H'->zp K aD' H' S'->Q b H'
def ģ (K:PySem.W.Frag)(t:DA):TA:=fun U H Q=>∃ aD ρ S Q0,zp K aD H S/\Zb K aD H ρ U/\t ρ S Q0/\∀ ds S' vs H' aD',Q0 ds S'->Wd aD H aD' H'->zp K aD' H' S'->zj K aD' H' ds vs->Q vs H'
def zp.base {K:PySem.W.Frag}(st:zp K aD H S):@zp ⟨aD,H⟩ K aD H S:=@zp.mk ⟨aD,H⟩ _ _ _ _ Wd.refl st.len st.nd st.cell
def zp.back {K:PySem.W.Frag}{aD':List Addr}{H':Hp}{S':Z7}(st:zp K aD H S)(st':@zp ⟨aD,H⟩ K aD' H' S'):zp K aD' H' S' :=⟨st.wd.trans (@zp.wd ⟨aD,H⟩ _ _ _ _ st'),@zp.len ⟨aD,H⟩ _ _ _ _ st',@zp.nd ⟨aD,H⟩ _ _ _ _ st',@zp.cell ⟨aD,H⟩ _ _ _ _ st'⟩
def KK.base {K:PySem.W.Frag}(st:zp K aD H S)(k:KK K aD H Q0 Q):@KK ⟨aD,H⟩ K aD H Q0 Q:=fun d S' v H' aD' q w st' r=>k d S' v H' aD' q w (st.back st') r
def Xk (K:PySem.W.Frag)(f:ZX):Sp:=fun vs H Q _=>∃ aD S ds Q0,@zp ⟨aD,H⟩ K aD H S/\zj K aD H ds vs/\f ds S Q0/\@KK ⟨aD,H⟩ K aD H Q0 Q
structure Ib (K:PySem.W.Frag)(aD:List Addr)(H:Hp)(E0:LR)(E:Ends):Prop where
 nx:∀ ρ S U H' aD',E0.nx ρ S->Wd aD H aD' H'->zp K aD' H' S->Zb K aD' H' ρ U->E.nx U H'
 rt:KK K aD H E0.rt E.rt
 bk:∀ ρ S U H' aD',E0.bk ρ S->Wd aD H aD' H'->zp K aD' H' S->Zb K aD' H' ρ U->E.bk U H'
 ct:∀ ρ S U H' aD',E0.ct ρ S->Wd aD H aD' H'->zp K aD' H' S->Zb K aD' H' ρ U->E.ct U H'
theorem Ib.wd {K:PySem.W.Frag}{E0:LR}(k:Ib K aD H E0 E)(w:Wd aD H aD' H'):Ib K aD' H' E0 E :=⟨fun ρ S U H' aD' q w'=>k.nx ρ S U H' aD' q (w.trans w'),k.rt.wd w,fun ρ S U H' aD' q w'=>k.bk ρ S U H' aD' q (w.trans w'),fun ρ S U H' aD' q w'=>k.ct ρ S U H' aD' q (w.trans w')⟩
def um (K:PySem.W.Frag)(t:DS):TS:=fun E U H=>∃ aD ρ S E0,zp K aD H S/\Zb K aD H ρ U/\t E0 ρ S/\Ib K aD H E0 E
@[irreducible] def PD (X:Cx)(e:Expr)(t:DE):Prop:=PE X e (up X.K t)
@[irreducible] def YC (X:Cx)(e:Expr)(t:DT):Prop:=PT X e (Oo X.K t)
@[irreducible] def T5 (X:Cx)(e:Expr)(t:DT):Prop:=PW X e (Oo X.K t)
@[irreducible] def PAD (X:Cx)(es:List Expr)(t:DA):Prop:=PA X es (ģ X.K t)
@[irreducible] def Zn (X:Cx)(st:Stmt)(t:DS):Prop:=PS X st (um X.K t)
@[irreducible] def W5 (X:Cx)(st:List Stmt)(t:DS):Prop:=Xw X st (um X.K t)
def ý {e:Expr}{t t':TE}(h:PE X e t)(m:∀ U H Q,t' U H Q->t U H Q):PE X e t':=fun Z9 s U H Q I q=>h Z9 s U H Q I (m U H Q q)
def Pj {e:Expr}{t t':TT}(h:PT X e t)(m:∀ U H Q,t' U H Q->t U H Q):PT X e t':=fun Z9 s U H Q I q=>h Z9 s U H Q I (m U H Q q)
def uE {e:Expr}{t t':TT}(h:PW X e t)(m:∀ U H Q,t' U H Q->t U H Q):PW X e t':=fun wh Z9 s U H Q I q=>h wh Z9 s U H Q I (m U H Q q)
def pZ {e:List Expr}{t t':TA}(h:PA X e t)(m:∀ U H Q,t' U H Q->t U H Q):PA X e t':=fun pos Z9 s U H Q I q=>h pos Z9 s U H Q I (m U H Q q)
def XS {st:Stmt}{t t':TS}(h:PS X st t)(m:∀ D U H,t' D U H->t D U H):PS X st t':=fun Z9 s U H D I q=>h Z9 s U H D I (m D U H q)
def uI {st:List Stmt}{t t':TS}(h:Xw X st t)(m:∀ D U H,t' D U H->t D U H):Xw X st t':=fun Z9 s U H D I q=>h Z9 s U H D I (m D U H q)
section
variable {X:Cx}{a b c:Expr}{ta tb tc:DE}{pos:Pos}
def zV {e:Expr}{t:TE}{d:DE}(h:PE X e t)(m:∀ U H Q,up X.K d U H Q->t U H Q):PD X e d:=by with_unfolding_all exact(ý h m)
def Ā {e:Expr}{i:Nat}(h:PE X e (v7 i)):PD X e (XM i):=by with_unfolding_all exact(zV h fun U H Q zq25=>by obtain⟨aD,ρ,S,Q0,st,rh,⟨d,e,q⟩,k⟩:=zq25;obtain⟨v,ev,r⟩:=rh.val i d e;exact⟨v,ev,k d S v H aD q Wd.refl st r⟩)
def S9 {e:Expr}{v:V}{d:D}(h:PE X e (tC v))(r:∀ aD H,Rel X.K aD H d v):PD X e (dC d):=by with_unfolding_all exact(zV h fun U H Q hh=>ZV hh fun aD ρ S Q0 st rh q k=>k d S v H aD q Wd.refl st (r _ _))
def Ν {i j}:PD X (.Constant (.int i) j pos) (dC (.int i)):=by with_unfolding_all exact(S9 Br fun _ _=>.int i)
def zwD {b j}:PD X (.Constant (.bool b) j pos) (dC (.bl b)):=by with_unfolding_all exact(S9 jE fun _ _=>.bl b)
def Ū {j}:PD X (.Constant .none j pos) (dC .non):=by with_unfolding_all exact(S9 jB fun _ _=>.non)
def tK {x j}:PD X (.Constant (.str x) j pos) (dC (.str x)):=by with_unfolding_all exact(S9 eO fun _ _=>.str x)
def zvY {T:String}(hg:Gl X x)(hm:X.mg x=none)(hv:bootBuiltins x=some (.type T))(hn:autoParam (x≠"__name__") zR)(hd:autoParam ((x==("__debug__":Str))=false) zR):PD X (.Name x pos) (dC (.ty T)):=by with_unfolding_all exact(S9 (zv6 hg hm hv hn hd) fun _ _=>.ty T)
def zry {n:Int}(hg:Gl X x)(hm:∃ t,X.mg x=some (.int n t))(hd:autoParam ((x==("__debug__":Str))=false) zR):PD X (.Name x pos) (dC (.int n)):=by with_unfolding_all exact(S9 (zr3 hg hm hd) fun _ _=>.int n)
def ÿ {z:Str}(hg:Gl X x)(hm:∃ t,X.mg x=some (.str z t))(hd:autoParam ((x==("__debug__":Str))=false) zR):PD X (.Name x pos) (dC (.str z)):=by with_unfolding_all exact(S9 (by obtain⟨t,hm⟩:=hm;exact su (v:=.str z) hg hm ⟨t,rfl⟩ hd) fun _ _=>.str z)
def zrk {i j:Int}{m n:Nat}{p1 p2:Pos}(c:Int)(h:i ^ j.toNat=c)(h0:0<=j/\j<=1000000/\i.natAbs<2 ^ 64):PD X (.BinOp (.Constant (.int i) m p1) .Pow (.Constant (.int j) n p2) pos) (dC (.int c)):=by with_unfolding_all exact(S9 (zqK c h h0) fun _ _=>.int c)
def OD (K:PySem.W.Frag)(r':Zk)(r:R2):Prop:=∀ aD H S x y v u Q0 Q,zp K aD H S->Rel K aD H x v->Rel K aD H y u->r' x y S Q0->KK K aD H Q0 Q->r v u H Q
def Ky {K:PySem.W.Frag}(o:OD K r' r){U:L2.St}{H:Hp}{Q:VK}(h:up K (Z6 r' ta tb) U H Q):Ms r (up K ta) (up K tb) U H Q:=by obtain⟨aD,ρ,S,Q0,st,rh,q,k⟩:=h;refine⟨aD,ρ,S,_,st,rh,q,fun x S1 v H1 ad1 q1 w1 st1 r1=>?_⟩;refine⟨ad1,ρ,S1,_,st1,rh.wd w1,q1,fun y S2 u H2 ad2 q2 w2 st2 r2=>?_⟩;exact o ad2 H2 S2 x y v u Q0 Q st2 (r1.wd w2) r2 q2 (k.wd (w1.trans w2))
def Ni {op:Operator}(ho:ZF X (binaryOp op) r)(o:OD X.K r' r)(ha:PD X a ta)(hb:PD X b tb):PD X (.BinOp a op b pos) (Z6 r' ta tb):=by with_unfolding_all exact(zV (oW ho ha hb) fun _ _ _=>Ky o)
def Jk {K:PySem.W.Frag}{C C':Int->Int->Prop}{g:Int->Int->D}{g':Int->Int->V}(hc:∀ i j,C i j->C' i j)(hg:∀ aD H i j,Rel K aD H (g i j) (g' i j)):OD K (oI C g) (rI C' g'):=fun aD H S x y v u Q0 Q st rx ry zq26 k=>by obtain⟨i,j,ex,ey,c,q⟩:=zq26;subst ex ey;cases rx;cases ry;exact⟨i,j,rfl,rfl,hc i j c,k _ S _ H aD q Wd.refl st (hg aD H i j)⟩
def Lg {K:PySem.W.Frag}{g:Int->Int->D}{g':Int->Int->V}(hg:∀ aD H i j,Rel K aD H (g i j) (g' i j)):OD K (OJ g) (Ug g'):=fun aD H S x y v u Q0 Q st rx ry zq27 k=>by obtain⟨i,j,ex,ey,q⟩:=zq27;subst ex ey;cases rx;cases ry;exact⟨i,j,rfl,rfl,k _ S _ H aD q Wd.refl st (hg aD H i j)⟩
def oM {i:Int}(h:i.natAbs<2 ^ 64):-(2 ^ 64)<i/\i<2 ^ 64:=⟨by lia,by lia⟩
def zvX (i j:Int):Prop:=YT i j
def zrv:ZF X (binaryOp .Mult) (rI zvX fun i j=>.int (i*j)):=Nj fun i j _ _ _ _ _ hc q=>by
 rcases hc with h|h|h
 ·exact mul_int q (IntMulOk.of_bits (wH h.1) (wH h.2))
 ·exact mul_int q (JK.ok (.inl (oM h)))
 ·exact mul_int q (JK.ok (.inr (oM h)))
def dD (ha:PD X a ta)(hb:PD X b tb):PD X (.BinOp a .Sub b pos) (Z6 Zf ta tb):=by with_unfolding_all exact(Ni Μ (Lg fun _ _ i j=>.int (i-j)) ha hb)
def jk {z:Str}{n:Int}(hz:z.length<=1000)(h0:-1000<=n)(h1:n<=1000):MulOk z n:=by
 refine⟨?_,fun _ _=>?_,fun h _=>?_⟩
 ·rw[decide_eq_false (by lia),decide_eq_false (by lia)];rfl
 ·have:(1000:Int)<=(2 ^ 63-1)/n\/n<1:=by
   rcases Int.lt_or_le n 1 with g|g
   ·exact .inr g
   ·exact .inl ((Int.le_ediv_iff_mul_le (by lia)).mpr (by lia))
  lia
 ·have:z.length*n.toNat<=1000*1000:=Mu hz (by lia);have hs:z.length*n.toNat<=sizeLine:=qW this (by decide)
  first
   |exact decide_eq_false (by lia)
   |(unfold tooLong;exact decide_eq_false (by lia))
   |simp[tooLong];lia
def iy:ZF X (binaryOp .Mult) (fun x y H Q=>∃ z n,x=.str z/\y=.int n/\MulOk z n/\Q (.str (Txt.mul z n)) H):=by intro Z9 s U H x y v u Q I rx ry h;obtain⟨z,n,rfl,rfl,ok,q⟩:=h;obtain⟨t,rfl⟩:=rx;obtain⟨t',rfl⟩:=ry;exact SB.mul ok fun t' k=>⟨.str (Txt.mul z n),H,I.tok _,⟨_,rfl⟩,q⟩
omit B in
def xH (h:Hg i):Builtin.Int.intBits i<=2 ^ 20:=by unfold Hg at h;exact intBits_le h
omit B in
def iw (h:Builtin.Int.intBits i<=2 ^ 20):Hg i:=by unfold Hg;exact qE (natAbs_lt_pow_bits i) (Nat.pow_le_pow_right (by decide) h)
def ο:ZF X (binaryOp .Mult) (rI (fun i j=>Hg i/\Hg j) fun i j=>.int (i*j)):=Nj fun i j _ _ _ _ _ hc q=>mul_int q (IntMulOk.of_bits (xH hc.1) (xH hc.2))
def zvg (ha:PD X a ta)(hb:PD X b tb):PD X (.BinOp a .Mult b pos) (Z6 YX ta tb):=by with_unfolding_all exact(Ni (zrv.or (iy.or ο)) (fun aD H S x y v u Q0 Q st rx ry h k=>by
 rcases h with h|⟨z,n,rfl,rfl,hz,h0,h1,q⟩|h
 ·exact .inl (Jk (fun _ _ h=>h) (fun _ _ i j=>.int (i*j)) aD H S x y v u Q0 Q st rx ry h k)
 ·cases rx;cases ry;exact .inr (.inl ⟨z,n,rfl,rfl,jk hz h0 h1,k _ S _ H aD q Wd.refl st (.str _)⟩)
 ·exact .inr (.inr (Jk (fun _ _ h=>h) (fun _ _ i j=>.int (i*j)) aD H S x y v u Q0 Q st rx ry h k))) ha hb)
def zuG (ha:PD X a ta)(hb:PD X b tb):PD X (.BinOp a .FloorDiv b pos) (Z6 oDiv ta tb):=by with_unfolding_all exact(Ni zn6 (Jk (fun _ _ h=>h) fun _ _ i j=>.int (i.fdiv j)) ha hb)
def lM (ha:PD X a ta)(hb:PD X b tb):PD X (.BinOp a .Mod b pos) (Z6 oMod ta tb):=by with_unfolding_all exact(Ni fO (Jk (fun _ _ h=>h) fun _ _ i j=>.int (i.fmod j)) ha hb)
def U3 {n:Nat}(h:n<=big):n<=sizeLine:=qW h (by decide)
def M7 {n:Nat}(h:n<big):n<sizeLine:=qE h (by decide)
def Jt {K:PySem.W.Frag}(st:zp K aD H S)(k:KK K aD H Q0 Q)(r:zj K aD H ds vs)(q:Q0 (.ref S.length) (S++[.lst ds]))(l:Addr)(h:H l=none):Q (.ref l) (upd H l (.lst vs)) :=k _ _ _ _ _ q (Wd.newL st h) (st.newL h r) st.newRef
def G8 {K:PySem.W.Frag}(st:zp K aD H S)(k:KK K aD H Q0 Q)(r:zj K aD H ds vs)(q:Q0 (.tup ds) S)(l:Addr)(h:H l=none):Q (.ref l) (upd H l (.tup vs)) :=k _ _ _ _ _ q (Wd.laid h) (st.laid h) (.tup zL (r.wd (Wd.laid h)))
def ą (ha:PD X a ta)(hb:PD X b tb):PD X (.BinOp a .Add b pos) (Z6 Zx ta tb):=by with_unfolding_all exact(Ni (bQ.or ((ò rfl).or ((ě rfl).or zlE))) (fun aD H S x y v u Q0 Q st rx ry h k=>by
  rcases h with⟨i,j,rfl,rfl,q⟩|⟨xs,ys,rfl,rfl,hz,q⟩|⟨xs,ys,hx,hy,hz,q⟩|⟨i,j,rfl,rfl,hz,q⟩
  ·cases rx;cases ry;exact .inl ⟨i,j,rfl,rfl,k _ S _ H aD q Wd.refl st (.int _)⟩
  ·cases rx with
   |tup h1 r1 =>
    cases ry with
    |tup h2 r2 =>
     have l1:=r1.length;have l2:=r2.length;refine .inr (.inl ⟨_,_,_,_,rfl,rfl,ZM.of h1,ZM.of h2,by rw[<- l1,<- l2];exact U3 hz,fun e=>?_,fun _ e=>?_,fun _ _ p hp=>G8 st k (r1.append r2) q p hp⟩)
     ·have e':xs=[]:=CQ.mp (by rw[l1,e];rfl);subst e';exact k _ S _ H aD q Wd.refl st (.tup h2 r2)
     ·have e':ys=[]:=CQ.mp (by rw[l2,e];rfl);subst e';rw[Xn]at q;exact k _ S _ H aD q Wd.refl st (.tup h1 r1)
  ·obtain⟨a1,vs1,rfl,s1,r1⟩:=hx.sq st rx;obtain⟨a2,vs2,rfl,s2,r2⟩:=hy.sq st ry;exact .inr (.inr (.inl ⟨_,_,_,_,rfl,rfl,s1,s2,by rw[<- r1.length,<- r2.length];exact U3 hz,fun p hp=>Jt st k (r1.append r2) q p hp⟩))
  ·cases rx;cases ry;exact .inr (.inr (.inr ⟨i,j,rfl,rfl,U3 hz,k _ S _ H aD q Wd.refl st (.str _)⟩))) ha hb)
def aN (ha:PD X a ta):PD X (.UnaryOp .USub a pos) (V9 V3 ta):=by with_unfolding_all exact(zV (bZ ż ha) fun U H Q hh=>ZV hh fun aD ρ S Q0 st rh q k=>by refine⟨aD,ρ,S,_,st,rh,q,fun x S1 v H1 ad1 q1 w1 st1 r1=>?_⟩;obtain⟨i,rfl,q1⟩:=q1;cases r1;exact⟨i,rfl,k _ _ _ _ _ q1 w1 st1 (.int _)⟩)
def OC (X:Cx)(op:CmpOp)(r':Zk):Prop:=∃ r,ZF X (compareOp op) r/\OD X.K r' r
def kZ:OC X .Lt oLt:=⟨_,zvU,Lg fun _ _ _ _=>.bl _⟩
def Ť:OC X .LtE oLe:=⟨_,ġ,Lg fun _ _ _ _=>.bl _⟩
def cY:OC X .Gt X5:=⟨_,cV,Lg fun _ _ _ _=>.bl _⟩
def lD:OC X .GtE Kw:=⟨_,zxD,Lg fun _ _ _ _=>.bl _⟩
mutual
def Yy:D->PyData
 |.non=>.none
 |.bl b=>.bool b
 |.int i=>.int i
 |.str x=>.str x
 |.tup xs=>.tuple (YS xs)
 |.ref _=>.none
 |.ty _=>.none
 |.rl _=>.none
 |.exn _=>.none
 |.kt _=>.none
def YS:List D->List PyData
 |[]=>[]
 |x::xs=>Yy x::YS xs
end
section
variable {Z9:List (Addr×Obj)}{U:L2.St}{H:Hp}{s:Shared}{aD:List Addr}
def Jg (I:Inv X Z9 U H s)(k:Nat)(h1:∀ d v u,fl k d=true->Rel X.K aD H d v->RelV v u->∃ as,Reads s.heap u (Yy d) as):∀ ds vs us,ds.all (fl k)=true->zj X.K aD H ds vs->Vals vs us->∃ as,ReadsAll s.heap us (YS ds) as:=by
 intro ds
 induction ds with
 |nil=>intro vs us _ r rv;cases r;cases rv;exact⟨_,.nil⟩
 |cons d ds ih =>
  intro vs us hf r rv;rw[V1,qw]at hf;cases r with
  |cons r t =>
   cases rv with
   |cons q qt =>obtain⟨as,ra⟩:=h1 d _ _ hf.1 r q;obtain⟨bs,rb⟩:=ih _ _ hf.2 t qt;exact⟨_,.cons ra rb⟩
def QG (I:Inv X Z9 U H s):∀ (k:Nat) (d:D) (v:V) (u:Value),fl k d=true->Rel X.K aD H d v->RelV v u->∃ as,Reads s.heap u (Yy d) as:=by
 intro k
 induction k with
 |zero =>
  intro d v u hf r q;cases r with
  |non=>cases q;exact⟨_,.none⟩
  |bl b=>cases q;exact⟨_,.bool b⟩
  |int i=>obtain⟨t,rfl⟩:=q;exact⟨_,.int i t⟩
  |str x=>obtain⟨t,rfl⟩:=q;exact⟨_,.str x t⟩
  |ty n=>cases hf
  |tup h r=>cases hf
  |rl h r=>cases hf
  |kt h r=>cases hf
  |ref h=>cases hf
  |exn _ _ _=>cases hf
 |succ k ih =>
  intro d v u hf r q;cases r with
  |non=>cases q;exact⟨_,.none⟩
  |bl b=>cases q;exact⟨_,.bool b⟩
  |int i=>obtain⟨t,rfl⟩:=q;exact⟨_,.int i t⟩
  |str x=>obtain⟨t,rfl⟩:=q;exact⟨_,.str x t⟩
  |ty n=>cases hf
  |tup h r =>cases q;obtain⟨its,rv,ht,hz⟩:=I.tuple (ZM.of h);obtain⟨o,ho,hc,n,hd⟩:=ht;obtain⟨as,ra⟩:=Jg I k ih _ _ _ hf r rv;exact⟨_,.tuple ho hc hd (by simpa using ra)⟩
  |rl h r=>cases hf
  |kt h r=>cases hf
  |ref h=>cases hf
  |exn _ _ _=>cases hf
end
def J6:∀ (k:Nat) (d:D),fl k d=true->(Yy d).canLay0=true/\(Yy d).depth<=k:=by
 have all:∀ k,(∀ d,fl k d=true->(Yy d).canLay0=true/\(Yy d).depth<=k)->∀ ds:List D,ds.all (fl k)=true->PyData.canLayAll0 (YS ds)=true/\PyData.depthAll (YS ds)<=k:=by
  intro k h ds
  induction ds with
  |nil=>intro _;exact⟨rfl,qY _⟩
  |cons d ds ih =>
   intro hf;rw[V1,qw]at hf;obtain⟨a1,a2⟩:=h d hf.1;obtain⟨b1,b2⟩:=ih hf.2;refine⟨?_,?_⟩
   ·show(PyData.canLay0 (Yy d)&&PyData.canLayAll0 (YS ds))=true;rw[a1,b1];rfl
   ·show max (PyData.depth (Yy d)) (PyData.depthAll (YS ds))<=k;exact Nat.max_le.mpr ⟨a2,b2⟩
 intro k
 induction k with
 |zero =>
  intro d hf;cases d with
  |non=>exact⟨rfl,qY _⟩
  |bl b=>exact⟨rfl,qY _⟩
  |int i=>exact⟨rfl,qY _⟩
  |str x=>exact⟨hf,qY _⟩
  |tup xs=>cases hf
  |ref n=>cases hf
  |exn _=>cases hf
  |ty n=>cases hf
  |rl xs=>cases hf
  |kt xs=>cases hf
 |succ k ih =>
  intro d hf;cases d with
  |non=>exact⟨rfl,qY _⟩
  |bl b=>exact⟨rfl,qY _⟩
  |int i=>exact⟨rfl,qY _⟩
  |str x=>exact⟨hf,qY _⟩
  |tup xs =>obtain⟨h1,h2⟩:=all k ih xs hf;refine⟨h1,?_⟩;show PyData.depthAll (YS xs)+1<=k+1;lia
  |ref n=>cases hf
  |exn _=>cases hf
  |ty n=>cases hf
  |rl xs=>cases hf
  |kt xs=>cases hf
def Ea (k:Nat):∀ ds:List D,ds.all (fl k)=true->PyData.canLayAll0 (YS ds)=true/\PyData.depthAll (YS ds)<=k:=by
 intro ds
 induction ds with
 |nil=>intro _;exact⟨rfl,qY _⟩
 |cons d ds ih =>
  intro hf;rw[V1,qw]at hf;obtain⟨a1,a2⟩:=J6 k d hf.1;obtain⟨b1,b2⟩:=ih hf.2;refine⟨?_,?_⟩
  ·show(PyData.canLay0 (Yy d)&&PyData.canLayAll0 (YS ds))=true;rw[a1,b1];rfl
  ·show max (PyData.depth (Yy d)) (PyData.depthAll (YS ds))<=k;exact Nat.max_le.mpr ⟨a2,b2⟩
mutual
theorem DW:∀ (k:Nat) (x y:D),fl k x=true->fl k y=true->PyData.eqv (Yy x) (Yy y)=eqv x y
  |k,.non,y,_,hy=>by cases y<;>first|rfl|(cases k<;>cases hy)
  |k,.bl a,y,_,hy=>by cases y<;>first|rfl|(cases k<;>cases hy)
  |k,.int i,y,_,hy=>by
    cases y with
    |int j=>show(i==j)=decide (i=j);rw[Bool.beq_eq_decide_eq]
    |ref n=>cases k<;>cases hy
    |exn n=>cases k<;>cases hy
    |ty n=>cases k<;>cases hy
    |rl n=>cases k<;>cases hy
    |kt n=>cases k<;>cases hy
    |_=>rfl
  |k,.str a,y,_,hy=>by cases y<;>first|rfl|(cases k<;>cases hy)
  |0,.tup xs,y,hx,_=>by cases hx
  |k+1,.tup xs,y,hx,hy=>by
    cases y with
    |tup ys=>exact Dw k xs ys hx hy
    |ref n=>cases hy
    |ty n=>cases hy
    |rl n=>cases hy
    |kt n=>cases hy
    |_=>rfl
  |k,.ref n,y,hx,_=>by cases k<;>cases hx
  |k,.ty n,y,hx,_=>by cases k<;>cases hx
  |k,.rl n,y,hx,_=>by cases k<;>cases hx
  |k,.kt n,y,hx,_=>by cases k<;>cases hx
  |k,.exn n,y,hx,_=>by cases k<;>cases hx
theorem Dw:∀ (k:Nat) (xs ys:List D),xs.all (fl k)=true->ys.all (fl k)=true->PyData.eqvAll (YS xs) (YS ys)=eqvAll xs ys
  |k,[],[],_,_=>rfl
  |k,[],y::ys,_,_=>rfl
  |k,x::xs,[],_,_=>rfl
  |k,x::xs,y::ys,hx,hy=>by rw[V1,qw]at hx hy;show(PyData.eqv (Yy x) (Yy y)&&PyData.eqvAll (YS xs) (YS ys))=(eqv x y&&eqvAll xs ys);rw[DW k x y hx.1 hy.1,Dw k xs ys hx.2 hy.2]
end
section
variable {Z9:List (Addr×Obj)}{U:L2.St}{H:Hp}{s:Shared}{aD:List Addr}{S:Z7}
end
def ud (X:Cx)(g:Bool->Bool):R2:=fun x y H Q=>∃ aD S dx dy b,zp X.K aD H S/\Rel X.K aD H dx x/\Rel X.K aD H dy y/\Ih S dx dy b/\Q (.bl (g b)) H
def sU {Z9:List (Addr×Obj)}{U:L2.St}{H:Hp}{s:Shared}{aD:List Addr}{S:Z7}{dx dy:D}{x y:V}{v u:Value}{b:Bool}(I:Inv X Z9 U H s)(st:zp X.K aD H S)(rx:Rel X.K aD H dx x)(ry:Rel X.K aD H dy y)(qx:RelV x v)(qy:RelV y u)(h:Ih S dx dy b) :
  ∃ px py as bs,Reads s.heap v px as/\Reads s.heap u py bs/\px.canLay0=true/\py.canLay0=true/\min px.depth py.depth<=60/\PyData.eqv px py=b:=by
 rcases h with⟨fx,fy,rfl⟩|⟨xs,ys,hx,hy,fx,fy,rfl⟩|h
 ·obtain⟨as,ra⟩:=QG I 20 dx x v fx rx qx;obtain⟨bs,rb⟩:=QG I 20 dy y u fy ry qy;obtain⟨c1,d1⟩:=J6 20 dx fx;obtain⟨c2,d2⟩:=J6 20 dy fy;exact⟨_,_,as,bs,ra,rb,c1,c2,by lia,DW 20 dx dy fx fy⟩
 ·obtain⟨a1,vs1,rfl,s1,r1⟩:=hx.sq st rx;obtain⟨a2,vs2,rfl,s2,r2⟩:=hy.sq st ry;cases qx;cases qy;obtain⟨its,rv,ht,hz⟩:=I.list s1;obtain⟨its2,rv2,ht2,hz2⟩:=I.list s2;obtain⟨o,ho,hc,n,hd⟩:=ht.isList;obtain⟨o2,ho2,hc2,n2,hd2⟩:=ht2.isList;obtain⟨as,ra⟩:=Jg I 20 (QG I 20) _ _ _ fx r1 rv;obtain⟨bs,rb⟩:=Jg I 20 (QG I 20) _ _ _ fy r2 rv2;obtain⟨c1,d1⟩:=Ea 20 xs fx;obtain⟨c2,d2⟩:=Ea 20 ys fy;refine⟨.list (YS xs),.list (YS ys),_,_,.list ho hc hd (by simpa using ra),.list ho2 hc2 hd2 (by simpa using rb),c1,c2,?_,Dw 20 xs ys fx fy⟩;show min (PyData.depthAll (YS xs)+1) (PyData.depthAll (YS ys)+1)<=60;lia
 ·exact h.elim
def iH {k:Nat}(hr:zN k X.A):OC X .Eq oEq:=⟨ud X id,by
  rintro Z9 s U H x y v u Q I qx qy ⟨aD,S,dx,dy,b,st,rx,ry,h,q⟩;obtain⟨px,py,as,bs,ra,rb,c1,c2,hd,e⟩:=sU I st rx ry qx qy h;have hu:=hr.units;exact PySem.SeqAt.rcAt_reads ra rb c1 c2 (by lia) X.prog X.w X.xe _ ⟨.bl _,H,I,by rw[e];rfl,q⟩,
 by rintro aD H S x y v u Q0 Q st rx ry ⟨b,h,q⟩ k;exact⟨aD,S,x,y,b,st,rx,ry,h,k _ S _ H aD q Wd.refl st (.bl _)⟩⟩
def zwg {k:Nat}(hr:zN k X.A):OC X .NotEq Yg:=⟨ud X (!·),by
  rintro Z9 s U H x y v u Q I qx qy ⟨aD,S,dx,dy,b,st,rx,ry,h,q⟩;obtain⟨px,py,as,bs,ra,rb,c1,c2,hd,e⟩:=sU I st rx ry qx qy h;have hu:=hr.units;exact PySem.SeqAt.rcNeAt_reads ra rb c1 c2 (by lia) X.prog X.w X.xe _ ⟨.bl _,H,I,by rw[e];rfl,q⟩,
 by rintro aD H S x y v u Q0 Q st rx ry ⟨b,h,q⟩ k;exact⟨aD,S,x,y,b,st,rx,ry,h,k _ S _ H aD q Wd.refl st (.bl _)⟩⟩
def yh {K:PySem.W.Frag}(r:Rel K aD H d v):decide (v=.non)=YW d:=by cases r<;>rfl
def Ζ:ZF X (compareOp .Is) (mV fun i j=>.bl (i==j)):=fun Z9 s U H x y v u Q I rx ry zq32=>by obtain⟨i,j,ex,ey,q⟩:=zq32;subst ex ey;cases rx;cases ry;exact is_bool ⟨.bl _,H,I,rfl,q⟩
def υ:ZF X (compareOp .IsNot) (mV fun i j=>.bl (!(i==j))):=fun Z9 s U H x y v u Q I rx ry zq33=>by obtain⟨i,j,ex,ey,q⟩:=zq33;subst ex ey;cases rx;cases ry;exact isnot_bool ⟨.bl _,H,I,rfl,q⟩
def zxl:OC X .Is Ru:=⟨_,zxF.or Ζ,fun aD H S x y v u Q0 Q st rx ry h k=>by
 rcases h with⟨rfl,q⟩|⟨a,b,rfl,rfl,q⟩
 ·cases ry;exact .inl ⟨rfl,by rw[yh rx];exact k _ S _ H aD q Wd.refl st (.bl _)⟩
 ·cases rx;cases ry;exact .inr ⟨a,b,rfl,rfl,k _ S _ H aD q Wd.refl st (.bl _)⟩⟩
def zt9:OC X .IsNot Wn:=⟨_,cD.or υ,fun aD H S x y v u Q0 Q st rx ry h k=>by
 rcases h with⟨rfl,q⟩|⟨a,b,rfl,rfl,q⟩
 ·cases ry;exact .inl ⟨rfl,by rw[yh rx];exact k _ S _ H aD q Wd.refl st (.bl _)⟩
 ·cases rx;cases ry;exact .inr ⟨a,b,rfl,rfl,k _ S _ H aD q Wd.refl st (.bl _)⟩⟩
def wD {K:PySem.W.Frag}(o1:OD K r1' r1)(o2:OD K r2' r2){U:L2.St}{H:Hp}{Q:VK}(h:up K (PN r1' r2' ta tb tc) U H Q):Hq r1 r2 (up K ta) (up K tb) (up K tc) U H Q:=by
 obtain⟨aD,ρ,S,Q0,st,rh,q,k⟩:=h;refine⟨aD,ρ,S,_,st,rh,q,fun x S1 v H1 ad1 q1 w1 st1 rx=>?_⟩;refine⟨ad1,ρ,S1,_,st1,rh.wd w1,q1,fun y S2 u H2 ad2 q2 w2 st2 ry=>?_⟩;refine o1 ad2 H2 S2 x y v u _ _ st2 (rx.wd w2) ry q2 fun z S3 z' H3 ad3 ⟨c,e,q3⟩ w3 st3 rz=>?_
 subst e;cases rz;refine⟨c,rfl,?_⟩;cases c with
 |true =>rw[if_pos rfl]at q3 ⊢;refine⟨ad3,ρ,S3,_,st3,rh.wd ((w1.trans w2).trans w3),q3,fun z S4 z' H4 ad4 q4 w4 st4 rz=>?_⟩;exact o2 ad4 H4 S4 y z u z' Q0 Q st4 (ry.wd (w3.trans w4)) rz q4 (k.wd (((w1.trans w2).trans w3).trans w4))
 |false =>rw[if_neg qr]at q3 ⊢;exact k _ S3 _ H3 ad3 q3 ((w1.trans w2).trans w3) st3 (.bl _)
def ŋ (o1:OC X op r1)(o2:OC X op' r2)(ha:PD X a ta)(hb:PD X b tb)(hc:PD X c tc)(hm:autoParam (lastMarks [op,op'] [b,c]=false) Vk):PD X (.Compare a [op,op'] [b,c] pos) (PN r1 r2 ta tb tc):=by
 with_unfolding_all
  obtain⟨s1,h1,d1⟩:=o1;obtain⟨s2,h2,d2⟩:=o2;exact zV (ũ h1 h2 ha hb hc hm) fun _ _ _=>wD d1 d2
def fY {e:Expr}{t:DE}(h:PD X e t)(he:autoParam (∀ whole,isTrue e X.env whole=(do let v <- whole;standAt e.pos;holding [v] (truthy v))) Qv):YC X e (dT t):=by with_unfolding_all exact(Pj (eY h he) fun U H Q hh=>ZV hh fun aD ρ S Q0 st rh q k =>
 ⟨aD,ρ,S,_,st,rh,q,by rintro d S' v H' aD' ⟨b,e,q'⟩ w st' r;subst e;cases r;exact⟨b,rfl,k b S' H' aD' q' w st'⟩⟩)
def zmB (o1:OC X op r1)(o2:OC X op' r2)(ha:PD X a ta)(hb:PD X b tb)(hc:PD X c tc)(hm:autoParam (lastMarks [op,op'] [b,c]=false) Vk):YC X (.Compare a [op,op'] [b,c] pos) (dT (PN r1 r2 ta tb tc)):=by
 with_unfolding_all
  obtain⟨s1,h1,d1⟩:=o1;obtain⟨s2,h2,d2⟩:=o2;refine Pj (ó h1 h2 ha hb hc hm) fun U H Q hh=>ZV hh fun aD ρ S Q0 st rh q k=>?_
  refine wD (Q:=fun x H'=>∃ k,x=.bl k/\Q k H') d1 d2 ⟨aD,ρ,S,_,st,rh,q,fun d S' v H' aD' ⟨b,e,q'⟩ w st' r=>?_⟩;subst e;cases r;exact⟨b,rfl,k b S' H' aD' q' w st'⟩
variable {tA tB':DT}{rest:List Expr}
def Ą (h:YC X a tA):YC X (.UnaryOp .Not a pos) (W7 tA):=by with_unfolding_all exact(Pj (j6 h) fun U H Q hh=>ZV hh fun aD ρ S Q0 st rh q k=>⟨aD,ρ,S,_,st,rh,q,fun b S' H' aD' q' w st'=>k _ S' H' aD' q' w st'⟩)
theorem zsA {e:Expr}{t:DT}(h:T5 X e t):YC X e t:=by with_unfolding_all exact(h _)
def ϩ (ha:YC X a tA):T5 X (.BoolOp .And [a] pos) tA:=by with_unfolding_all exact(zqr ha)
def gQ (ha:YC X a tA):T5 X (.BoolOp .Or [a] pos) tA:=by with_unfolding_all exact(d8 ha)
def ĵ (ha:YC X a tA)(hb:T5 X (.BoolOp .And (b::rest) pos) tB'):T5 X (.BoolOp .And (a::b::rest) pos) (Yc tA tB'):=by with_unfolding_all exact(uE (zvG ha hb) fun U H Q hh=>ZV hh fun aD ρ S Q0 st rh q k =>
 ⟨aD,ρ,S,_,st,rh,q,fun b S' H' aD' q' w st'=>by
  cases b with
  |true=>rw[if_pos rfl]at q' ⊢;exact⟨aD',ρ,S',Q0,st',rh.wd w,q',fun b S' H' aD' q w'=>k b S' H' aD' q (w.trans w')⟩
  |false=>rw[if_neg qr]at q' ⊢;exact k _ S' H' aD' q' w st'⟩)
def gR (ha:YC X a tA)(hb:T5 X (.BoolOp .Or (b::rest) pos) tB'):T5 X (.BoolOp .Or (a::b::rest) pos) (Wo tA tB'):=by with_unfolding_all exact(uE (gM ha hb) fun U H Q hh=>ZV hh fun aD ρ S Q0 st rh q k =>
 ⟨aD,ρ,S,_,st,rh,q,fun b S' H' aD' q' w st'=>by
  cases b with
  |false=>rw[if_neg qr]at q' ⊢;exact⟨aD',ρ,S',Q0,st',rh.wd w,q',fun b S' H' aD' q w'=>k b S' H' aD' q (w.trans w')⟩
  |true=>rw[if_pos rfl]at q' ⊢;exact k _ S' H' aD' q' w st'⟩)
def jg {op}{t:DE}(h:PD X a t):PD X (.BoolOp op [a] pos) t:=by with_unfolding_all exact(bO h)
def zqW (ha:PD X a ta)(hb:PD X (.BoolOp .And (b::rest) pos) tb):PD X (.BoolOp .And (a::b::rest) pos) (QX ta tb):=by with_unfolding_all exact(zV (iD ha hb) fun U H Q hh=>ZV hh fun aD ρ S Q0 st rh q k =>
 ⟨aD,ρ,S,_,st,rh,q,by
  rintro d S' v H' aD' ⟨c,e,q'⟩ w st' r;subst e;cases r;refine⟨c,rfl,?_⟩;cases c with
  |true=>rw[if_pos rfl]at q' ⊢;exact⟨aD',ρ,S',Q0,st',rh.wd w,q',k.wd w⟩
  |false=>rw[if_neg qr]at q' ⊢;exact k _ S' _ H' aD' q' w st' (.bl _)⟩)
def fZ (ha:PD X a ta)(hb:PD X (.BoolOp .Or (b::rest) pos) tb):PD X (.BoolOp .Or (a::b::rest) pos) (J5 ta tb):=by with_unfolding_all exact(zV (ŏ ha hb) fun U H Q hh=>ZV hh fun aD ρ S Q0 st rh q k =>
 ⟨aD,ρ,S,_,st,rh,q,by
  rintro d S' v H' aD' ⟨c,e,q'⟩ w st' r;subst e;cases r;refine⟨c,rfl,?_⟩;cases c with
  |false=>rw[if_neg qr]at q' ⊢;exact⟨aD',ρ,S',Q0,st',rh.wd w,q',k.wd w⟩
  |true=>rw[if_pos rfl]at q' ⊢;exact k _ S' _ H' aD' q' w st' (.bl _)⟩)
def Ē (ha:PD X a ta):PD X (.UnaryOp .Not a pos) (QZ ta):=by with_unfolding_all exact(zV (ju ha) fun U H Q hh=>ZV hh fun aD ρ S Q0 st rh q k =>
 ⟨aD,ρ,S,_,st,rh,q,by rintro d S' v H' aD' ⟨c,e,q'⟩ w st' r;subst e;cases r;exact⟨c,rfl,k _ S' _ H' aD' q' w st' (.bl _)⟩⟩)
def zuE (hc:YC X c tA)(ha:PD X a ta)(hb:PD X b tb):PD X (.IfExp c a b pos) (pD tA ta tb):=by with_unfolding_all exact(zV (cZ hc ha hb) fun U H Q hh=>ZV hh fun aD ρ S Q0 st rh q k =>
 ⟨aD,ρ,S,_,st,rh,q,fun b S' H' aD' q' w st'=>by
  cases b with
  |true=>rw[if_pos rfl]at q' ⊢;exact⟨aD',ρ,S',Q0,st',rh.wd w,q',k.wd w⟩
  |false=>rw[if_neg qr]at q' ⊢;exact⟨aD',ρ,S',Q0,st',rh.wd w,q',k.wd w⟩⟩)
end
section
variable {X:Cx}{a b e:Expr}{es:List Expr}{ta tb te:DE}{t:DA}{pos:Pos}
def ug:PAD X [] zm:=by with_unfolding_all exact(pZ μ fun U H Q hh=>ZV hh fun aD ρ S Q0 st rh q k=>k [] S [] H aD q Wd.refl st .nil)
def pY (ha:PD X e te)(hr:PAD X es t)(hs:autoParam (starEach (e::es) X.env=(false,eval e X.env)::starEach es X.env) Q8):PAD X (e::es) (zc te t):=by with_unfolding_all exact(pZ (zrE ha hr hs) fun U H Q hh=>ZV hh fun aD ρ S Q0 st rh q k =>⟨aD,ρ,S,_,st,rh,q,fun d S1 v H1 ad1 q1 w1 st1 r1=>⟨ad1,ρ,S1,_,st1,rh.wd w1,q1,fun ds S2 vs H2 ad2 q2 w2 st2 r2=>k _ S2 _ H2 ad2 q2 (w1.trans w2) st2 (.cons (r1.wd w2) r2)⟩⟩)
def Ó {x1}(h:PAD X es t):PD X (.Tuple es x1 pos) (dTup t):=by with_unfolding_all exact(zV (zsQ h) fun U H Q hh=>ZV hh fun aD ρ S Q0 st rh q k =>⟨aD,ρ,S,_,st,rh,q,by rintro ds S1 vs H1 ad1 ⟨hz,q1⟩ w1 st1 r1;exact⟨by rw[<- r1.length];exact U3 hz,fun p hp=>G8 st1 (k.wd w1) r1 q1 p hp⟩⟩)
def ztM (h:PAD X es t):PD X (.List es pos) (Yd t):=by with_unfolding_all exact(zV (jH h) fun U H Q hh=>ZV hh fun aD ρ S Q0 st rh q k =>⟨aD,ρ,S,_,st,rh,q,by rintro ds S1 vs H1 ad1 ⟨hz,q1⟩ w1 st1 r1;exact⟨by rw[<- r1.length];exact U3 hz,fun p hp=>Jt st1 (k.wd w1) r1 q1 p hp⟩⟩)
def Ŝ {xs:List D}{i:Int}{d:D}(h:Zm xs i=some d){K:PySem.W.Frag}(r:zj K aD H xs vs):∃ v,Rx vs i=some v/\Rel K aD H d v:=by
 have e:Pn vs.length i=Yh xs.length i:=by rw[r.length];rfl
 unfold Zm at h;unfold Rx;rw[e];cases q:Yh xs.length i with
 |none=>rw[q]at h;cases h
 |some j =>rw[q]at h;exact r.get h
def Ô (ha:PD X a ta)(hb:PD X b tb)(hs:autoParam (G7 b) uM):PD X (.Subscript a b pos) (Z6 ZR ta tb):=by with_unfolding_all exact(zV (zwu (zqn.or (ş.or Ŏ)) ha hb hs) fun _ _ _=>Ky fun aD H S x y v u Q0 Q st rx ry h k=>by
 rcases h with⟨i,xs,d,ey,hx,e,q⟩|⟨z,i,c,rfl,rfl,hz,e,q⟩
 case inr =>cases rx;cases ry;exact .inr (.inr ⟨z,i,c,rfl,rfl,U3 hz,e,k _ S _ H aD q Wd.refl st (.str _)⟩)
 subst ey;cases ry;obtain⟨p,vs,rfl,hs,r⟩:=hx.sq st rx;obtain⟨z,ez,rz⟩:=Ŝ e r;rcases hs with hs|hs
 ·exact .inl ⟨p,vs,i,z,rfl,rfl,hs,ez,k _ S _ H aD q Wd.refl st rz⟩
 ·exact .inr (.inl ⟨p,vs,i,z,rfl,rfl,hs,ez,k _ S _ H aD q Wd.refl st rz⟩))
def Nb (K:PySem.W.Frag)(t:Option DE):TO:=fun U H Q=>∃ aD ρ S Q0,zp K aD H S/\Zb K aD H ρ U/\TQ t ρ S Q0/\∀ o S' H' aD',Q0 o S'->Wd aD H aD' H'->zp K aD' H' S'->Q o H'
def ņ:PO X none (Nb X.K none):=fun Z9 s U H Q I hh=>ZV hh fun aD ρ S Q0 st rh q k=>zq6 Z9 s U H Q I (k none S H aD q Wd.refl st)
def cW {t:DE}(h:PD X e t):PO X (some e) (Nb X.K (some t)):=by with_unfolding_all exact(fun Z9 s U H Q I hh=>ZV hh fun aD ρ S Q0 st rh q k=>jX h Z9 s U H Q I ⟨aD,ρ,S,_,st,rh,q,by rintro d S' v H' aD' ⟨i,e,q'⟩ w st' r;subst e;cases r;exact⟨i,rfl,k _ S' H' aD' q' w st'⟩⟩)
def yE {K:PySem.W.Frag}(lo hi:Option Int)(r:zj K aD H xs vs):zj K aD H (cutD xs lo hi) (U0 vs lo hi):=by
  have e1:HT.sIx vs.length 0 lo=XJ xs.length 0 lo:=by
    rw[r.length];cases lo with
    |none=>rfl
    |some k=>show HT.sIx _ _ (some k)=_;unfold HT.sIx XJ;first|rfl|(simp only[];split<;>lia)
  have e2:HT.sIx vs.length vs.length hi=XJ xs.length xs.length hi:=by
    rw[r.length];cases hi with
    |none=>rfl
    |some k=>show HT.sIx _ _ (some k)=_;unfold HT.sIx XJ;first|rfl|(simp only[];split<;>lia)
  unfold cutD U0;rw[e1,e2];exact(r.drop _).take _
def É (K:PySem.W.Frag):V->Option Int->Option Int->Hp->VK->Prop:=fun x lo hi H Q=>∃ a xs,x=.ref a/\ZM K H a xs /\
 ((HT.sIx xs.length 0 lo=0/\HT.sIx xs.length xs.length hi=xs.length)->Q (.ref a) H)/\(¬ (HT.sIx xs.length 0 lo=0/\HT.sIx xs.length xs.length hi=xs.length)->∀ p,H p=none->Q (.ref p) (upd H p (.tup (U0 xs lo hi))))
def Ü {prog:Program}{w:World}{A:Around}{E:Value->Shared->Prop}{s:Shared}{t sl:Addr}{items:Array Value}{vl vu:Value}{lo hi:Option Int}{Q:Value->Shared->Prop}(ht:IsTup s.heap t items)(hs:s.heap.IsSliceOf sl vl vu .none)(pl:IsPart vl lo)(pu:IsPart vu hi)
  (hw:HT.sIx items.size 0 lo=0/\HT.sIx items.size items.size hi=items.size) (h:Q (.ref t) s):wpAny (model prog w) A (getItem (.ref t) (.ref sl)) Q E s:=by
 obtain⟨os,hos,hcs,hds⟩:=id hs;have hTs:s.TypeIs (.ref sl) "slice":=⟨os,hos,hcs⟩
 unfold getItem
 try with_reducible refine wpAny_holding ?_
 first|refine wpAny_bind (wpAny_pure ?_)|skip
 refine wpAny_bind (wpAny_sequenceKey ht.typeIs (by decide) ?_)
 refine wpAny_bind (wpAny_callSpecial?_slot (name:=Str.ofString "__getitem__") ht.typeIs PyProof.Rows.slot_tuple_getitem
  (wpAny_call_entry PyProof.Rows.slot_tuple_getitem ht.typeIs PyProof.Rows.entry_tuple_getitem ?_ (PyProof.Rows.args_tuple_getitem _ _)))
 show wpAny _ _ (Builtin.Tuple.tupleItemsOf (.ref t) >>= _) _ _ s;refine wpAny_bind (tupleItemsOf_ ht ?_);refine wpAny_bind (wpAny_typeOf hTs ?_);rw[if_pos (by decide)];refine wpAny_bind (HT.uJ hs pl pu ?_);show wpAny _ _ (if(((HT.sIx items.size 0 lo:Nat):Int)==0&&(1:Int)==1&&(HT.sIx items.size items.size hi-HT.sIx items.size 0 lo)==items.size)=true then _ else _) _ _ s;rw[if_pos (by rw[hw.1,hw.2];simp)];unfold Builtin.Tuple.tupleIsExact;refine wpAny_bind (wpAny_bind (wpAny_typeOf ht.typeIs (wpAny_pure ?_)));rw[if_pos (by decide)];refine wpAny_bind (wpAny_rule ?_)
 first
  |exact wpAny_pure ⟨_,rfl,wpAny_pure h⟩
  |exact wpAny_bind (wpAny_pure ⟨_,rfl,wpAny_pure h⟩)
  |exact wpAny_bind (wpAny_pure (wpAny_pure ⟨_,rfl,wpAny_pure h⟩))
  |trace_state
def ū:Sh X (É X.K):=by
 intro Z9 s U H x v vl vu lo hi sl Q I rx hs pl pu h;obtain⟨a,xs,rfl,hx,q1,q2⟩:=h;by_cases hw:HT.sIx xs.length 0 lo=0/\HT.sIx xs.length xs.length hi=xs.length
 ·cases rx;obtain⟨its,r,ht,hz⟩:=I.tuple hx;have hlen:its.toArray.size=xs.length:=by rw[qo];exact r.length.symm
  refine⟨"tuple",_,PyProof.Rows.slot_tuple_getitem.lookup,ht.typeIs,?_⟩;exact Ü ht hs pl pu (by rw[hlen];exact hw) ⟨.ref a,H,I,rfl,q1 hw⟩
 ·exact zuP Z9 s U H (.ref a) v vl vu lo hi sl Q I rx hs pl pu ⟨a,xs,rfl,hx,hw,q2 hw⟩
def zl4 (xs:List α)(lo hi:Option Int)(h1:XJ xs.length 0 lo=0)(h2:XJ xs.length xs.length hi=xs.length):cutD xs lo hi=xs:=by unfold cutD;rw[h1,h2];simp
def Ę (n d:Nat)(o:Option Int):HT.sIx n d o=XJ n d o:=by
 cases o with
 |none=>rfl
 |some k=>rfl
def zwT {lo:Option Expr}{tl th:Option DE}{p2:Pos}(ha:PD X a ta)(hl:PO X lo (Nb X.K tl))(hh:PO X hi (Nb X.K th)):PD X (.Subscript a (.Slice lo hi none p2) pos) (Wt Wz ta tl th):=by with_unfolding_all exact(zV (aU (ľ.or ū) ha hl hh) fun U H Q hh=>ZV hh fun aD ρ S Q0 st rh q k =>
 ⟨aD,ρ,S,_,st,rh,q,fun x S1 v H1 ad1 q1 w1 st1 r1=>⟨ad1,ρ,S1,_,st1,rh.wd w1,q1,fun l S2 H2 ad2 q2 w2 st2=>⟨ad2,ρ,S2,_,st2,rh.wd (w1.trans w2),q2,fun h S3 H3 ad3 q3 w3 st3=>by
  have r3:=r1.wd (w2.trans w3);have k3:=k.wd ((w1.trans w2).trans w3);rcases q3 with⟨xs,rfl,q3⟩|⟨xs,hx,q3⟩|q3
  ·cases r3 with
   |tup h1 r =>refine .inr ⟨_,_,rfl,ZM.of h1,fun⟨z1,z2⟩=>?_,fun _ p hp=>G8 st3 k3 (yE _ _ r) q3 p hp⟩;rw[Ę,<- r.length]at z1 z2;rw[zl4 xs _ _ z1 z2]at q3;exact k3 _ S3 _ H3 ad3 q3 Wd.refl st3 (.tup h1 r)
  ·obtain⟨p,vs,rfl,hs,r⟩:=hx.sq st3 r3;exact .inl ⟨p,vs,rfl,hs,fun l hl=>Jt st3 k3 (yE _ _ r) q3 l hl⟩
  ·exact q3.elim⟩⟩⟩)
end
end Dp
namespace Dp
open PySem PySem.Spec PyProof.Rows L2 My
variable [B:Bs]
section
variable {X:Cx}{a e:Expr}{es:List Expr}{ta te:DE}{t:DA}{pos p:Pos}
def zrB {k:Nat}{f:ZX}(G:Got X.prog X.w X.K X.mg X.base k x ps (Xk X.K f))(hr:zN j X.A)(ha:PAD X (e::es) t)(hk:autoParam (k<=j) zR)(hg:autoParam (Gl X x) zy)(hdb:autoParam ((x==("__debug__":Str))=false) zR)(he:autoParam (starEach (e::es) X.env=(false,eval e X.env)::starEach es X.env) Q8)(hpl:autoParam ((backTo pos (starEach es X.env)).any (·.1)=false) Qp) :
  PD X (.Call (.Name x p) (e::es) [] pos) (dCall f t):=by with_unfolding_all exact(zV (ī G hr hk hg ha hdb he hpl) fun U H Q hh=>ZV hh fun aD ρ S Q0 st rh q k =>
 ⟨aD,ρ,S,_,st,rh,q,fun ds S1 vs H1 ad1 q1 w1 st1 r1=>by show Xk X.K f (vs++[]) H1 Q E0;rw[Xn];exact⟨ad1,S1,ds,Q0,st1.base,r1,q1,(k.wd w1).base st1⟩⟩)
def BD (K:PySem.W.Frag)(r':DB)(r:List V->Hp->VK->Prop):Prop:=∀ aD H S ds vs Q0 Q,zp K aD H S->zj K aD H ds vs->r' ds S Q0->KK K aD H Q0 Q->r vs H Q
def BC (X:Cx)(f:Value)(r':DB):Prop:=∃ r,YJ X f r/\BD X.K r' r
def Ő {id:String}(o:BC X (.builtin id) r')(hm:X.mg x=none)(hv:bootBuiltins x=some (.builtin id))(ha:PAD X (e::es) t)(hg:autoParam (Gl X x) zy)(hn:autoParam (x≠"__name__") zR)(hdb:autoParam ((x==("__debug__":Str))=false) zR)(he:autoParam (starEach (e::es) X.env=(false,eval e X.env)::starEach es X.env) Q8)(hpl:autoParam ((backTo pos (starEach es X.env)).any (·.1)=false) Qp):PD X (.Call (.Name x p) (e::es) [] pos) (dB r' t):=by
 with_unfolding_all
  obtain⟨r,ho,od⟩:=o
  exact zV (zoc ho hg hm hv ha hn hdb he hpl) fun U H Q hh=>ZV hh fun aD ρ S Q0 st rh q k =>⟨aD,ρ,S,_,st,rh,q,fun ds S1 vs H1 ad1 q1 w1 st1 r1=>od ad1 H1 S1 ds vs Q0 Q st1 r1 q1 (k.wd w1)⟩
def iC {T:String}(o:BC X (.type T) r')(hm:X.mg x=none)(hv:bootBuiltins x=some (.type T))(ha:PAD X (e::es) t)(hg:autoParam (Gl X x) zy)(hn:autoParam (x≠"__name__") zR)(hdb:autoParam ((x==("__debug__":Str))=false) zR)(he:autoParam (starEach (e::es) X.env=(false,eval e X.env)::starEach es X.env) Q8)(hpl:autoParam ((backTo pos (starEach es X.env)).any (·.1)=false) Qp):PD X (.Call (.Name x p) (e::es) [] pos) (dB r' t):=by
 with_unfolding_all
  obtain⟨r,ho,od⟩:=o
  exact zV (à ho hg hm hv ha hn hdb he hpl) fun U H Q hh=>ZV hh fun aD ρ S Q0 st rh q k =>⟨aD,ρ,S,_,st,rh,q,fun ds S1 vs H1 ad1 q1 w1 st1 r1=>od ad1 H1 S1 ds vs Q0 Q st1 r1 q1 (k.wd w1)⟩
def Xg {K:PySem.W.Frag}{d:D}{vs:List V}(r:zj K aD H [d] vs):∃ v,vs=[v]/\Rel K aD H d v:=by
 cases r with
 |cons r t=>cases t;exact⟨_,rfl,r⟩
def Qf {K:PySem.W.Frag}{d e:D}{vs:List V}(r:zj K aD H [d,e] vs):∃ v u,vs=[v,u]/\Rel K aD H d v/\Rel K aD H e u:=by
 cases r with
 |cons r t =>obtain⟨u,rfl,r2⟩:=Xg t;exact⟨_,_,rfl,r,r2⟩
def zuY:BC X (.builtin "len") Zo:=⟨_,znk.or Ű,fun aD H S ds vs Q0 Q st r h k=>by
 rcases h with⟨x,xs,e,hx,q⟩|⟨z,e,hz,q⟩
 case inr =>subst e;obtain⟨v,rfl,rv⟩:=Xg r;cases rv;exact .inr ⟨z,rfl,U3 hz,k _ S _ H aD q Wd.refl st (.int _)⟩
 subst e;obtain⟨v,rfl,rv⟩:=Xg r;obtain⟨a,ws,rfl,hs,rs⟩:=hx.sq st rv;exact .inl ⟨a,ws,rfl,hs,k _ S _ H aD (by rw[rs.length]at q;exact q) Wd.refl st (.int _)⟩⟩
def ı:BC X (.builtin "abs") Jo:=⟨_,zmw,by rintro aD H S ds vs Q0 Q st r ⟨i,e,q⟩ k;subst e;obtain⟨v,rfl,rv⟩:=Xg r;cases rv;exact⟨i,rfl,k _ S _ H aD q Wd.refl st (.int _)⟩⟩
def ļ (i j:Int):(if j > i then j else i)=max i j:=by rw[Int.max_def];split<;>split<;>lia
def ztr (i j:Int):(if j<i then j else i)=min i j:=by rw[Int.min_def];split<;>split<;>lia
def ak (hc:autoParam (X.calm=true) zy):BC X (.builtin "max") Qj:=⟨_,Ů hc,by rintro aD H S ds vs Q0 Q st r ⟨i,j,e,q⟩ k;subst e;obtain⟨v,u,rfl,rv,ru⟩:=Qf r;cases rv;cases ru;exact⟨i,j,rfl,by rw[ļ];exact k _ S _ H aD q Wd.refl st (.int _)⟩⟩
def j8 (hc:autoParam (X.calm=true) zy):BC X (.builtin "min") QV:=⟨_,ė hc,by rintro aD H S ds vs Q0 Q st r ⟨i,j,e,q⟩ k;subst e;obtain⟨v,u,rfl,rv,ru⟩:=Qf r;cases rv;cases ru;exact⟨i,j,rfl,by rw[ztr];exact k _ S _ H aD q Wd.refl st (.int _)⟩⟩
def lR (hc:autoParam (X.calm=true) zy):BC X (.builtin "max") Jp:=⟨_,Ρ rfl hc,by rintro aD H S ds vs Q0 Q st r ⟨x,ns,e,hx,h0,q⟩ k;subst e;obtain⟨v,rfl,rv⟩:=Xg r;obtain⟨a,ws,rfl,hs,rs⟩:=hx.sq st rv;cases rs.ints;exact⟨a,ns,rfl,hs,h0,fun m h1 h2=>k _ S _ H aD (q m h1 h2) Wd.refl st (.int _)⟩⟩
def zrg (hc:autoParam (X.calm=true) zy):BC X (.builtin "min") LQ:=⟨_,zme rfl hc,by rintro aD H S ds vs Q0 Q st r ⟨x,ns,e,hx,h0,q⟩ k;subst e;obtain⟨v,rfl,rv⟩:=Xg r;obtain⟨a,ws,rfl,hs,rs⟩:=hx.sq st rv;cases rs.ints;exact⟨a,ns,rfl,hs,h0,fun m h1 h2=>k _ S _ H aD (q m h1 h2) Wd.refl st (.int _)⟩⟩
def zth (hc:autoParam (X.calm=true) zy):BC X (.builtin "all") WK:=⟨_,Ε rfl hc,by rintro aD H S ds vs Q0 Q st r ⟨x,ns,e,hx,q⟩ k;subst e;obtain⟨v,rfl,rv⟩:=Xg r;obtain⟨a,ws,rfl,hs,rs⟩:=hx.sq st rv;cases rs.bls;exact⟨a,ns,rfl,hs,k _ S _ H aD q Wd.refl st (.bl _)⟩⟩
def Ĺ:BC X (.type "list") Qt:=⟨_,zlP,by rintro aD H S ds vs Q0 Q st r ⟨x,xs,e,hx,q⟩ k;subst e;obtain⟨v,rfl,rv⟩:=Xg r;obtain⟨a,ws,rfl,hs,rs⟩:=hx.sq st rv;exact⟨a,ws,rfl,hs,fun l hl=>Jt st k rs q l hl⟩⟩
section
variable {K:PySem.W.Frag}
def zqO (t:String)(h:Qq t=true):PySem.W.kitOne K (.type "NoneType") (.type t)=some false/\PySem.W.kitOne K (.type "bool") (.type t)=some (t=="bool"||t=="int")/\PySem.W.kitOne K (.type "int") (.type t)=some (t=="int") /\
  PySem.W.kitOne K (.type "str") (.type t)=some (t=="str")/\PySem.W.kitOne K (.type "tuple") (.type t)=some (t=="tuple")/\PySem.W.kitOne K (.type "list") (.type t)=some (t=="list"):=by
 unfold Qq at h;simp only[PL,beq_iff_eq]at h;rcases h with(((rfl|rfl)|rfl)|rfl)|rfl
 ·exact⟨by kernel_rfl,by kernel_rfl,by kernel_rfl,by kernel_rfl,by kernel_rfl,by kernel_rfl⟩
 ·exact⟨by kernel_rfl,by kernel_rfl,by kernel_rfl,by kernel_rfl,by kernel_rfl,by kernel_rfl⟩
 ·exact⟨by kernel_rfl,by kernel_rfl,by kernel_rfl,by kernel_rfl,by kernel_rfl,by kernel_rfl⟩
 ·exact⟨by kernel_rfl,by kernel_rfl,by kernel_rfl,by kernel_rfl,by kernel_rfl,by kernel_rfl⟩
 ·exact⟨by kernel_rfl,by kernel_rfl,by kernel_rfl,by kernel_rfl,by kernel_rfl,by kernel_rfl⟩
end
def ź:BC X (.builtin "isinstance") Sg:=⟨_,zpg,by
 rintro aD H S ds vs Q0 Q st r ⟨x,t,b,e,h,q⟩ k;subst e;obtain⟨v,u,rfl,rv,ru⟩:=Qf r;cases ru;have fin:=k _ S _ H aD q Wd.refl st (.bl b);unfold yU at h;split at h
 ·cases h
 rename_i hty
 have hty':Qq t=true:=by
  cases hh:Qq t
  ·exact absurd (by show(!Qq t)=true;rw[hh];rfl) hty
  ·rfl
 obtain⟨k1,k2,k3,k4,k5,k6⟩:=zqO (K:=X.K) t hty';cases rv with
 |non=>cases h;exact⟨_,_,_,_,rfl,.non,k1,fin⟩
 |bl c=>cases h;exact⟨_,_,_,_,rfl,.bl c,k2,fin⟩
 |int i=>cases h;exact⟨_,_,_,_,rfl,.int i,k3,fin⟩
 |str y=>cases h;exact⟨_,_,_,_,rfl,.str y,k4,fin⟩
 |ty n=>cases h
 |exn _ _ _=>cases h
 |tup ht rt=>cases h;exact⟨_,_,_,_,rfl,.tup ht,k5,fin⟩
 |rl hl rl=>cases h
 |kt hl rl=>cases h
 |@ref n a hn =>
  have h:(match S[n]? with | some (.lst _)=>some (t=="list") | _=>none)=some b:=h;cases hS:S[n]? with
  |none=>rw[hS]at h;cases h
  |some c =>
   rw[hS]at h;cases c with
   |ins c fs=>cases h
   |dk _=>cases h
   |dt _=>cases h
   |dn _ _=>cases h
   |tab _ _ _=>cases h
   |lst xs =>cases h;obtain⟨vs,hv,_⟩:=st.cell n a _ hn hS;exact⟨_,_,_,_,rfl,.lst hv,k6,fin⟩⟩
def MD (X:Cx)(id:String)(r':DM):Prop:=∃ r,Ij X id r/\∀ aD H S x ds v vs Q0 Q,zp X.K aD H S->Rel X.K aD H x v->zj X.K aD H ds vs->r' x ds S Q0->KK X.K aD H Q0 Q->r v vs H Q
def oG {K:PySem.W.Frag}{x:D}(st:zp K aD H S)(h:∃ n ys,x=.ref n/\S[n]?=some (.lst ys))(r:Rel K aD H x v):IW K "list" v H:=by
 obtain⟨n,ys,rfl,h⟩:=h;cases r with
 |ref e =>obtain⟨vs,hv,_⟩:=st.cell n _ _ e h;exact .inl ⟨rfl,vs,ZC.of hv⟩
def ig {name:Str}{id:String}{apos cpos:Pos}(slot:Slot "list" name id)(hty:typeOf (.builtin id)=pure (.type "method_descriptor"))(hm:MD X id r')(ho:PD X o to)(ha:PAD X (e::es) t)(hbase:autoParam (attributeBase o name X.env (eval o X.env)=eval o X.env) zy)(hfew:((backTo cpos (starEach (e::es) X.env)).all (fun x=>!x.1)&&(backToKw cpos (keywordEach [] X.env)).all (fun x=>x.1.isSome)
  &&decide ((e::es).length+([]:List Keyword).length+(if([]:List Keyword).isEmpty then 0 else 1)<30))=true:=by rfl) (hline:(apos.endLine==cpos.line)=true:=by rfl) (hs:starEach (e::es) X.env=(false,eval e X.env)::starEach es X.env:=by exact VB rfl) (hplain:(backTo cpos (starEach es X.env)).any (·.1)=false:=by exact J9 rfl) :
  PD X (.Call (.Attribute o name apos) (e::es) [] cpos) (dM r' to t):=by
 with_unfolding_all
  obtain⟨r,hr,od⟩:=hm
  exact zV (Ú PySem.F.plainAttrs_list slot hty hr ho ha hbase hfew hline hs hplain) fun U H Q hh=>ZV hh fun aD ρ S Q0 st rh q k =>
   ⟨aD,ρ,S,_,st,rh,q,by rintro x S1 v H1 ad1 ⟨hl,q1⟩ w1 st1 r1;exact⟨oG st1 hl r1,ad1,ρ,S1,_,st1,rh.wd w1,q1,fun ds S2 vs H2 ad2 q2 w2 st2 r2 =>od ad2 H2 S2 x ds v vs Q0 Q st2 (r1.wd w2) r2 q2 (k.wd (w1.trans w2))⟩⟩
def fM {name:Str}{id:String}{apos cpos:Pos}(slot:Slot "list" name id)(hty:typeOf (.builtin id)=pure (.type "method_descriptor"))(hm:MD X id r')(ho:PD X o to)(hbase:autoParam (attributeBase o name X.env (eval o X.env)=eval o X.env) zy)(hline:autoParam ((apos.endLine==cpos.line)=true) zy):PD X (.Call (.Attribute o name apos) [] [] cpos) (dM r' to zm):=by
 with_unfolding_all
  obtain⟨r,hr,od⟩:=hm
  exact zV (zsR PySem.F.plainAttrs_list slot hty hr ho hbase hline) fun U H Q hh=>ZV hh fun aD ρ S Q0 st rh q k =>⟨aD,ρ,S,_,st,rh,q,by rintro x S1 v H1 ad1 ⟨hl,q1⟩ w1 st1 r1;exact⟨oG st1 hl r1,od ad1 H1 S1 x [] v [] Q0 Q st1 r1 .nil q1 (k.wd w1)⟩⟩
def ϙ:MD X "list.append" V7:=⟨_,xM,by
 rintro aD H S x ds v vs Q0 Q st rx r ⟨n,xs,y,ex,ey,hn,hl,q⟩ k;subst ex ey;obtain⟨u,rfl,ru⟩:=Xg r;cases rx with
 |ref e =>obtain⟨ws,hw,rw⟩:=st.cell n _ _ e hn;exact⟨_,ws,u,rfl,rfl,hw,by rw[<- rw.length];exact M7 hl,k _ _ _ _ aD q (Wd.put e hw) (st.put e hw (rw.append (.cons ru .nil))) .non⟩⟩
def å:MD X "list.extend" Ii:=⟨_,kj,fun aD H S x ds v vs Q0 Q st rx r h k=>by
 rcases h with⟨n,xs,m,ys,ex,ey,hn,hm,hne,hl,q⟩|⟨n,xs,ys,ex,ey,hn,hl,q⟩
 ·subst ex ey;obtain⟨u,rfl,ru⟩:=Xg r;cases rx with
  |ref e =>
   cases ru with
   |ref e2 =>obtain⟨ws,hw,rw⟩:=st.cell n _ _ e hn;obtain⟨ws2,hw2,rw2⟩:=st.cell m _ _ e2 hm;exact .inl ⟨_,_,ws,ws2,rfl,rfl,hw,hw2,by rw[<- rw.length,<- rw2.length];exact U3 hl,k _ _ _ _ aD q (Wd.put e hw) (st.put e hw (rw.append rw2)) .non⟩
 ·subst ex ey;obtain⟨u,rfl,ru⟩:=Xg r;cases rx with
  |ref e =>
   cases ru with
   |tup h2 rw2 =>obtain⟨ws,hw,rw⟩:=st.cell n _ _ e hn;exact .inr ⟨_,_,ws,_,rfl,rfl,hw,ZM.of h2,by rw[<- rw.length,<- rw2.length];exact U3 hl,k _ _ _ _ aD q (Wd.put e hw) (st.put e hw (rw.append rw2)) .non⟩⟩
end
end Dp
namespace Dp
open PySem PySem.Spec PyProof.Rows L2 My
variable [B:Bs]
def Ws (K:PySem.W.Frag)(b:Nat)(g':DG)(g:TG):Prop:=∀ aD H S ρ U d v Q0 Q,zp K aD H S->Zb K aD H ρ U->Rel K aD H d v->g' d ρ S Q0 ->
 (∀ ρ' S' σ' H' aD',Q0 ρ' S'->Wd aD H aD' H'->zp K aD' H' S'->Zb K aD' H' ρ' σ'->σ'.length=U.length->(∀ j,b<=j->σ'[j]?=U[j]?)->Q σ' H')->g v U H Q
def IK (K:PySem.W.Frag)(b:Nat)(g':Vh)(g:Ra):Prop:=∀ aD H S ρ U ds vs Q0 Q,zp K aD H S->Zb K aD H ρ U->zj K aD H ds vs->g' ds ρ S Q0 ->
 (∀ ρ' S' σ' H' aD',Q0 ρ' S'->Wd aD H aD' H'->zp K aD' H' S'->Zb K aD' H' ρ' σ'->σ'.length=U.length->(∀ j,b<=j->σ'[j]?=U[j]?)->Q σ' H')->g vs U H Q
def Lk (X:Cx)(b:Nat)(tg:Expr)(g':DG):Prop:=∃ g,PG X tg g/\Ws X.K b g' g
theorem Zb.set {K:PySem.W.Frag}(h:Zb K aD H ρ U)(r:Rel K aD H d v)(i:Nat):Zb K aD H (ρ.set i (some d)) (U.set i (some v)) where
 len:=by rw[W8,W8];exact h.len
 val:=fun j e q=>by
  by_cases hj:j=i
  ·subst hj;have hl:j<ρ.length:=by have:=My.Wh q;rw[W8]at this;exact this
   rw[qU hl]at q;cases q;exact⟨v,qU (by rw[<- h.len];exact hl),r⟩
  ·rw[qS (Ne.symm hj)]at q;obtain⟨u,e1,r1⟩:=h.val j e q;exact⟨u,by rw[qS (Ne.symm hj)];exact e1,r1⟩
section
variable {X:Cx}{pos:Pos}{b:Nat}
def jL {K:PySem.W.Frag}(i:Nat)(hb:i<b):Ws K b (zT i) (L2.zT i):=fun aD H S ρ U d v Q0 Q st rh r q k =>k _ S _ H aD q Wd.refl st (rh.set r i) (W8 ..) fun j hj=>qS (by lia)
def ύ (ho:PD X o to)(hi:PD X i ti)(ha:∀ v,assign (.Subscript o i pos) X.env v=(do
   let ov <- holding [v] (eval o X.env);let iv <- holding [v,ov] (eval i X.env)
   standAt pos
   holding [v,ov,iv] (setItem ov iv v)
   release [v,ov,iv] []):=by intro _;rfl):Lk X b (.Subscript o i pos) (Qi to ti):=by with_unfolding_all exact(⟨_,ë ho hi set_list ha,fun aD H S ρ U d v Q0 Q st rh r q k=>⟨aD,ρ,S,_,st,rh,q,fun x S1 u H1 ad1 q1 w1 st1 r1=>⟨ad1,ρ,S1,_,st1,rh.wd w1,q1,fun y S2 z H2 ad2 q2 w2 st2 r2=>by
  obtain⟨n,xs,kk,j,ex,ey,hn,hj,q3⟩:=q2;subst ex ey;cases r2;cases r1 with
  |ref e =>have e2:=RW w2.pre e;obtain⟨ws,hw,rw⟩:=st2.cell n _ _ e2 hn;have rd:=r.wd (w1.trans w2);exact⟨_,ws,kk,j,rfl,rfl,hw,by rw[<- rw.length];exact hj,k ρ _ U _ ad2 q3 ((w1.trans w2).trans (Wd.put e2 hw)) (st2.put e2 hw (rw.set rd j)) (rh.wd ((w1.trans w2).trans (Wd.put e2 hw))) rfl fun _ _=>rfl⟩⟩⟩⟩)
variable {st:Stmt}{sts:List Stmt}{t u:DS}{e:Expr}{te:DE}
def zo0:W5 X [] zH:=by with_unfolding_all exact(uI Ι fun E U H hh=>ZV hh fun aD ρ S E0 so rh q k=>k.nx ρ S U H aD q Wd.refl so rh)
def È (h:Zn X st t):W5 X [st] t:=by with_unfolding_all exact(zsc h)
def eG (h1:Zn X st t)(h2:W5 X sts u):W5 X (st::sts) (zf t u):=by with_unfolding_all exact(uI (zo1 h1 h2) fun E U H hh=>ZV hh fun aD ρ S E0 so rh q k =>⟨aD,ρ,S,{ E0 with nx:=u E0 },so,rh,q,⟨fun ρ' S' σ' H' aD' q' w st' rh'=>⟨aD',ρ',S',E0,st',rh',q',k.wd w⟩,k.rt,k.bk,k.ct⟩⟩)
def ς:Zn X (.Pass pos) zH:=by with_unfolding_all exact(XS iU fun E U H hh=>ZV hh fun aD ρ S E0 so rh q k=>k.nx ρ S U H aD q Wd.refl so rh)
def ω:Zn X (.Break pos) Ae:=by with_unfolding_all exact(XS č fun E U H hh=>ZV hh fun aD ρ S E0 so rh q k=>k.bk ρ S U H aD q Wd.refl so rh)
def zot:Zn X (.Continue pos) yq:=by with_unfolding_all exact(XS Ð fun E U H hh=>ZV hh fun aD ρ S E0 so rh q k=>k.ct ρ S U H aD q Wd.refl so rh)
def zP:Zn X st Yb:=by with_unfolding_all exact(XS zoe fun E U H hh=>ZV hh fun aD ρ S E0 so rh q k=>q)
def znT (he:PD X e te)(hs:autoParam (swapsWith e none pos.line X.env=pure false) zy):Zn X (.Expr e pos) (Y4 te):=by with_unfolding_all exact(XS (zrM he hs) fun E U H hh=>ZV hh fun aD ρ S E0 so rh q k =>⟨aD,ρ,S,_,so,rh,q,fun d S' v H' aD' q' w st' r=>k.nx ρ S' U H' aD' q' w st' (rh.wd w)⟩)
def Ϣ (he:PD X e te):Zn X (.Return (some e) pos) (zB te):=by with_unfolding_all exact(XS (iz he) fun E U H hh=>ZV hh fun aD ρ S E0 so rh q k=>⟨aD,ρ,S,_,so,rh,q,k.rt⟩)
def zwP (h:Zn X st t):Zn X st (sJ t):=by with_unfolding_all exact(XS h fun E U H zq52=>by obtain⟨aD,ρ,S,E0,so,rh,⟨J,hJ,q⟩,k⟩:=zq52;exact 
 ⟨aD,ρ,S,{ E0 with nx:=J },so,rh,q,⟨fun ρ' S' σ' H' aD' q' w st' rh'=>k.nx ρ' S' σ' H' aD' (hJ _ _ q') w st' rh',k.rt,k.bk,k.ct⟩⟩)
def gC {c:Expr}{a b:List Stmt}{tc:DT}(hc:YC X c tc)(ha:W5 X a t)(hb:W5 X b u):Zn X (.If c a b pos) (ZK tc t u):=by with_unfolding_all exact(XS (zv9 hc ha hb) fun E U H hh=>ZV hh fun aD ρ S E0 so rh q k =>
 ⟨aD,ρ,S,_,so,rh,q,fun b S' H' aD' q' w st'=>by
  cases b with
  |true=>rw[if_pos rfl]at q' ⊢;exact⟨aD',ρ,S',E0,st',rh.wd w,q',k.wd w⟩
  |false=>rw[if_neg qr]at q' ⊢;exact⟨aD',ρ,S',E0,st',rh.wd w,q',k.wd w⟩⟩)
def rP {i:Nat}{x:Str}{pos':Pos}(hN:X.N.Nodup)(he:PD X e te)(hi:autoParam (X.N[i]?=some x) zy)(hx:autoParam (Loc X.env.scope x) rF)(hs:autoParam (swapsWith e (some (.Name x pos')) pos.line X.env=pure false) zy)(hf:autoParam (X.fn x=true\/X.env.scope.names.lookup x=some .local) QH) :
  Zn X (.Assign [.Name x pos'] e pos) (zq te (zT i)):=by with_unfolding_all exact(XS (ę hN hi hx he hs hf) fun E U H hh=>ZV hh fun aD ρ S E0 so rh q k =>
 ⟨aD,ρ,S,_,so,rh,q,fun d S' v H' aD' q' w st' r=>k.nx _ S' _ H' aD' q' w st' ((rh.wd w).set r i)⟩)
def wQ (he:PD X e te)(hg:Lk X 1000 tg g)(hs:autoParam (swapsWithSole [tg] e pos.line X.env=pure false) zy)(hw:autoParam (swappedStores [tg] e X.env=pure none) zy)(h1:autoParam ((assignEach [tg] X.env).map (·.2)=[assign tg X.env]) zy):Zn X (.Assign [tg] e pos) (zq te g):=by
 with_unfolding_all
  obtain⟨g',p,r⟩:=hg
  exact XS (ztb he p hs hw h1) fun E U H hh=>ZV hh fun aD ρ S E0 so rh q k =>⟨aD,ρ,S,_,so,rh,q,fun d S' v H' aD' q' w st' rv=>r aD' H' S' ρ U d v _ _ st' (rh.wd w) rv q' fun ρ2 S2 σ2 H2 ad2 q2 w2 st2 rh2 _ _=>k.nx ρ2 S2 σ2 H2 ad2 q2 (w.trans w2) st2 rh2⟩
def ħ {i:Nat}{x:Str}{pos':Pos}(hN:X.N.Nodup)(he:PD X e te)(hi:autoParam (X.N[i]?=some x) zy)(hx:autoParam (Loc X.env.scope x) rF)(hf:autoParam (X.fn x=true\/X.env.scope.names.lookup x=some .local) QH) :
  Zn X (.AugAssign (.Name x pos') .Add e pos) (Lr i te):=by with_unfolding_all exact(XS (zt8 hN hi hx he zty hf) fun E U H zq53=>by
 obtain⟨aD,ρ,S,E0,so,rh,⟨a,ea,q⟩,k⟩:=zq53;obtain⟨v,ev,rv⟩:=rh.val i _ ea;cases rv;refine⟨_,ev,aD,ρ,S,_,so,rh,q,fun d S' v H' aD' ⟨b,eb,q'⟩ w st' r=>?_⟩;subst eb;cases r;exact⟨a,b,rfl,rfl,k.nx _ S' _ H' aD' q' w st' ((rh.wd w).set (.int _) i)⟩)
def zm0 (hc:YC X c tc)(hb:W5 X body t)(hp:autoParam (PassesOwn (model X.prog X.w) X.A X.env X.xe) nJ):Zn X (.While c body [] pos) (Vp tc t):=by with_unfolding_all exact(XS (Κ hp hc hb) fun E U H zq54=>by
 obtain⟨aD,ρ,S,E0,so,rh,⟨W,⟨m0,w0⟩,turn⟩,k⟩:=zq54;refine⟨fun m σ' H'=>∃ aD' ρ' S',W m ρ' S'/\Wd aD H aD' H'/\zp X.K aD' H' S'/\Zb X.K aD' H' ρ' σ',⟨m0,aD,ρ,S,w0,Wd.refl,so,rh⟩,?_⟩;rintro m σ1 H1 ⟨ad1,ρ1,S1,w1,d1,st1,rh1⟩;refine⟨ad1,ρ1,S1,_,st1,rh1,turn m ρ1 S1 w1,fun b S2 H2 ad2 q2 d2 st2=>?_⟩;cases b with
 |true =>
  rw[if_pos rfl]at q2 ⊢;obtain⟨N,hN,q2⟩:=q2;refine⟨fun σ' H'=>∃ aD' ρ' S',N ρ' S'/\Wd aD H aD' H'/\zp X.K aD' H' S'/\Zb X.K aD' H' ρ' σ',?_,ad2,ρ1,S2,{ E0 with nx:=N,ct:=N,bk:=E0.nx },st2,rh1.wd d2,q2,?_⟩
  ·rintro σ' H' ⟨aD',ρ',S',n',d',st',rh'⟩;obtain⟨m',hm,w'⟩:=hN ρ' S' n';exact⟨m',hm,aD',ρ',S',w',d',st',rh'⟩
  ·have d12:=d1.trans d2;exact⟨fun ρ' S' σ' H' aD' q' w' st' rh'=>⟨aD',ρ',S',q',d12.trans w',st',rh'⟩,k.rt.wd d12,fun ρ' S' σ' H' aD' q' w' st' rh'=>k.nx ρ' S' σ' H' aD' q' (d12.trans w') st' rh',fun ρ' S' σ' H' aD' q' w' st' rh'=>⟨aD',ρ',S',q',d12.trans w',st',rh'⟩⟩
 |false =>rw[if_neg qr]at q2 ⊢;exact k.nx ρ1 S2 σ1 H2 ad2 q2 (d1.trans d2) st2 (rh1.wd d2))
end
structure TV (K:PySem.W.Frag)(ad0:List Addr)(H0:Hp)(J0:TX)(J:It):Prop where
 go:∀ aD H S i,Wd ad0 H0 aD H->zp K aD H S->J0.ok S->i<J0.items.length->J.go i H
 yld:∀ aD H S i d x H',Wd ad0 H0 aD H->zp K aD H S->J0.ok S->J0.items[i]?=some d->J.yld i H x H'->Wd aD H aD H'/\zp K aD H' S/\Rel K aD H' d x
 stop:∀ aD H S,Wd ad0 H0 aD H->zp K aD H S->J0.ok S->J.stop J0.items.length H
def mZ (K:PySem.W.Frag)(wi:DI):TI:=fun U H R=>∃ aD ρ S R0,zp K aD H S/\Zb K aD H ρ U/\wi ρ S R0/\∀ J0 S' J H' aD',R0 J0 S'->Wd aD H aD' H'->zp K aD' H' S'->TV K aD' H' J0 J->R J H'
@[irreducible] def Xh (X:Cx)(tg iter:Expr)(wi:DI):Prop:=PI X tg iter (mZ X.K wi)
def NT {w':TI}(h:PI X tg iter w)(m:∀ U H R,w' U H R->w U H R):PI X tg iter w':=fun Z9 s U H R I q=>h Z9 s U H R I (m U H R q)
section
variable {X:Cx}{tg e:Expr}
def Its (z:Str):It:=⟨fun i _=>i<z.cps.size,fun i H x H'=>H'=H/\∃ c,z.cps[i]?=some c/\x=.str ⟨#[c]⟩,fun i _=>z.cps.size<=i⟩
def znt {P:Program}{w:World}{K:PySem.W.Frag}{tg:Expr}(z:Str)(t:Tok)(it:Addr):Turn P w K tg (Its z) [it] it (fun i h=>h.IsStrIter it "str_ascii_iterator" z t i) where
 mem:=by simp
 obj:=fun i h st b hb=>by
  have e:b=it:=by simpa using hb
  subst e;obtain⟨o,e,c,d⟩:=st;exact⟨o,e,fun v y=>by rw[d]at y;cases y⟩
 keep:=fun i h h' st k=>let ⟨o,e,r⟩:=st;⟨o,k it (by simp) o e,r⟩
 item:=by
  intro X hP hw hK hc i Z9 s U H E I hf st hg;subst hP hw hK;have hg:i<z.cps.size:=hg;obtain⟨f0,f1,f2,f3,f4,f5⟩:=hf it (by simp);refine wpAny_pyNext_ascii_item st (c:=z.cps[i]) (by simp[hg]) fun h' st' sb=>?_
  have I1:Inv X Z9 U H { s with heap:=h',toks:=s.toks+1 }:=I.turned (t':=s.toks+1) (fun b o hb e=>(sb.2 b hb).trans e) f0 f1 f3 f4 f5;obtain⟨o,e,c,d⟩:=id st';exact⟨_,rfl,Qh (s:={ s with heap:=h',toks:=s.toks+1 }) e c d (by decide) ⟨.str ⟨#[z.cps[i]]⟩,H,I1,⟨_,rfl⟩,⟨rfl,z.cps[i],by simp[hg],rfl⟩,st',fun b hb=>(hf b hb).1⟩⟩
 done:=by intro X hP hw hK hc i Z9 s U H E I hf st hg;subst hP hw hK;have hg:z.cps.size<=i:=hg;obtain⟨f0,f1,f2,f3,f4,f5⟩:=hf it (by simp);exact wpAny_pyNext_ascii_end (I.ok.hd hc) st (by simp[hg]) fun h' eb=>⟨rfl,I.turned (t':=s.toks) (fun b o hb e=>eb b o hb e) f0 f1 f3 f4 f5⟩
 self:=fun _ _ _ _ _ st hQ=>wpAny_pyIter_striter_ascii st hQ
def ň {P:Program}{w:World}{K:PySem.W.Frag}{tg:Expr}(z:Str)(t:Tok)(it:Addr):Turn P w K tg (Its z) [it] it (fun i h=>h.IsStrIter it "str_iterator" z t i) where
 mem:=by simp
 obj:=fun i h st b hb=>by
  have e:b=it:=by simpa using hb
  subst e;obtain⟨o,e,c,d⟩:=st;exact⟨o,e,fun v y=>by rw[d]at y;cases y⟩
 keep:=fun i h h' st k=>let ⟨o,e,r⟩:=st;⟨o,k it (by simp) o e,r⟩
 item:=by
  intro X hP hw hK hc i Z9 s U H E I hf st hg;subst hP hw hK;have hg:i<z.cps.size:=hg;obtain⟨f0,f1,f2,f3,f4,f5⟩:=hf it (by simp);refine wpAny_pyNext_wide_item st (c:=z.cps[i]) (by simp[hg]) fun h' st' sb=>?_
  have I1:Inv X Z9 U H { s with heap:=h',toks:=s.toks+1 }:=I.turned (t':=s.toks+1) (fun b o hb e=>(sb.2 b hb).trans e) f0 f1 f3 f4 f5;obtain⟨o,e,c,d⟩:=id st';exact⟨_,rfl,Qh (s:={ s with heap:=h',toks:=s.toks+1 }) e c d (by decide) ⟨.str ⟨#[z.cps[i]]⟩,H,I1,⟨_,rfl⟩,⟨rfl,z.cps[i],by simp[hg],rfl⟩,st',fun b hb=>(hf b hb).1⟩⟩
 done:=by intro X hP hw hK hc i Z9 s U H E I hf st hg;subst hP hw hK;have hg:z.cps.size<=i:=hg;obtain⟨f0,f1,f2,f3,f4,f5⟩:=hf it (by simp);exact wpAny_pyNext_wide_end (I.ok.hd hc) st (by simp[hg]) fun h' eb=>⟨rfl,I.turned (t':=s.toks) (fun b o hb e=>eb b o hb e) f0 f1 f3 f4 f5⟩
 self:=fun _ _ _ _ _ st hQ=>wpAny_pyIter_striter_wide st hQ
def zqQ (K:PySem.W.Frag)(tl:TE):TI:=fun U H R=>tl U H fun x H1=>(∃ a,x=.ref a/\(((∃ xs,ZC K H1 a xs)/\R (Ft K a) H1)\/((∃ xs,ZM K H1 a xs)/\R (Cy K a) H1)))\/(∃ z,x=.str z/\R (Its z) H1)
def zmm (hl:PE X l tl):PI X tg l (zqQ X.K tl):=by
  intro Z9 s U H R I h;refine Z2 (hl Z9 s U H _ I h) fun v s1 ⟨x,H1,I1,r1,q1⟩=>?_
  rcases q1 with⟨a,e,q1⟩|⟨z,e,q⟩
  case inr =>
    subst e;obtain⟨t,rfl⟩:=r1
    have fp:∀ b∈[s1.heap.objs.size],Vx X Z9 H1 b:=fun b hb=>by
      have e:b=s1.heap.objs.size:=by simpa using hb
      subst e;exact I1.fpOk (qh _) (I1.hok.fresh (qh _))
    cases ha:z.cps.all (· < 128)with
    |true=>exact wpAny_pyIter_ascii ha ⟨s1.heap.objs.size,[s1.heap.objs.size],_,_,H1,rfl,I1.kept (t':=s1.toks) fun b o e=>qd _ e,znt z t _,⟨_,qq _ rfl,rfl,rfl⟩,fp,q⟩
    |false=>exact wpAny_pyIter_wide ha ⟨s1.heap.objs.size,[s1.heap.objs.size],_,_,H1,rfl,I1.kept (t':=s1.toks) fun b o e=>qd _ e,ň z t _,⟨_,qq _ rfl,rfl,rfl⟩,fp,q⟩
  subst e;cases r1;rcases q1 with⟨⟨xs,hq⟩,q⟩|⟨⟨xs,hq⟩,q⟩
  . obtain⟨its,rv,p,hz⟩:=I1.list hq;refine wpAny_pyIter_list p.isList ?_;refine⟨s1.heap.objs.size,[s1.heap.objs.size],_,_,H1,rfl,I1.kept (t':=s1.toks) fun b o e=>qd _ e,gB a _,⟨_,qq _ rfl,rfl,rfl⟩,fun b hb=>?_,q⟩;have e:b=s1.heap.objs.size:=by simpa using hb
    subst e;exact I1.fpOk (qh _) (I1.hok.fresh (qh _))
  . obtain⟨its,rv,p,hz⟩:=I1.tuple hq;refine wpAny_pyIter_tuple (show s1.heap.IsTuple a its.toArray from p) ?_;refine⟨s1.heap.objs.size,[s1.heap.objs.size],_,_,H1,rfl,I1.kept (t':=s1.toks) fun b o e=>qd _ e,zlS a _,⟨_,qq _ rfl,rfl,rfl⟩,fun b hb=>?_,q⟩;have e:b=s1.heap.objs.size:=by simpa using hb
    subst e;exact I1.fpOk (qh _) (I1.hok.fresh (qh _))
def Ϸ {K:PySem.W.Frag}{aD:List Addr}{H:Hp}(z:Str):TV K aD H ⟨signs z,fun _=>True⟩ (Its z) where
 go:=fun ad1 H1 S i w st _ hi=>by show i<z.cps.size;have:i<(signs z).length:=hi;unfold signs at this;rw[qa]at this;simpa using this
 yld:=by rintro ad1 H1 S i d x H' w st _ hd ⟨e,c,hc,hx⟩;subst e hx;have hd:(signs z)[i]?=some d:=hd;unfold signs at hd;rw[qi,Gi,hc]at hd;cases hd;exact⟨Wd.refl,st,.str _⟩
 stop:=fun ad1 H1 S w st _=>by show z.cps.size<=(signs z).length;unfold signs;rw[qa];simp
def ztB {K:PySem.W.Frag}{H:Hp}{vs:List V}(h:H a=some (.tup vs))(r:zj K aD H ds vs):TV K aD H ⟨ds,fun _=>True⟩ (Cy K a) where
 go:=fun ad1 H1 S i w st _ hi=>⟨vs,vs[i]'(by rw[<- r.length];exact hi),ZM.of (w.tup _ _ h),qb _⟩
 yld:=by rintro ad1 H1 S i d x H' w st _ hd ⟨e,hx⟩;subst e;obtain⟨v,ev,rv⟩:=r.get hd;rw[hx vs (ZM.of (w.tup _ _ h))]at ev;cases ev;exact⟨Wd.refl,st,rv.wd w⟩
 stop:=fun ad1 H1 S w st _=>⟨vs,ZM.of (w.tup _ _ h),by rw[<- r.length];exact qh _⟩
def jD {K:PySem.W.Frag}{a:Addr}{ds:List D}(r:Rel K aD H x (.ref a)):TV K aD H ⟨ds,fun S=>Lst S x ds⟩ (Ft K a) where
 go:=fun ad1 H1 S i w st ok hi=>by obtain⟨a',vs,e,s,rs⟩:=Lst.sq st ok (r.wd w);cases e;exact⟨vs,vs[i]'(by rw[<- rs.length];exact hi),s,qb _⟩
 yld:=by rintro ad1 H1 S i d y H' w st ok hd ⟨e,hx⟩;subst e;obtain⟨a',vs,e,s,rs⟩:=Lst.sq st ok (r.wd w);cases e;obtain⟨v,ev,rv⟩:=rs.get hd;rw[hx vs s]at ev;cases ev;exact⟨Wd.refl,st,rv⟩
 stop:=fun ad1 H1 S w st ok=>by obtain⟨a',vs,e,s,rs⟩:=Lst.sq st ok (r.wd w);cases e;exact⟨vs,s,by rw[<- rs.length];exact qh _⟩
def jV {t:DE}(h:PD X e t):Xh X tg e (Zi t):=by with_unfolding_all exact(NT (zmm h) fun U H R hh=>ZV hh fun aD ρ S R0 st rh q k =>
 ⟨aD,ρ,S,_,st,rh,q,fun x S1 v H1 ad1 q1 w1 st1 r1=>by
  rcases q1 with⟨xs,rfl,q1⟩|⟨xs,hx,q1⟩|⟨z,rfl,q1⟩
  ·cases r1 with
   |tup h1 rs=>exact .inl ⟨_,rfl,.inr ⟨⟨_,ZM.of h1⟩,k _ S1 _ H1 ad1 q1 w1 st1 (ztB h1 rs)⟩⟩
  ·obtain⟨a,vs,rfl,s,rs⟩:=hx.sq st1 r1;exact .inl ⟨a,rfl,.inl ⟨⟨vs,s⟩,k _ S1 _ H1 ad1 q1 w1 st1 (jD r1)⟩⟩
  ·cases r1;exact .inr ⟨z,rfl,k _ S1 _ H1 ad1 q1 w1 st1 (Ϸ z)⟩⟩)
def c7 {lo:Int}{n i:Nat}{d:D}(h:(upto lo n)[i]?=some d):i<n/\d=.int (lo+i):=by
 unfold upto at h;rw[qi]at h;have hi:=My.Wh (xs:=List.range n) (i:=i) (x:=i);cases hr:(List.range n)[i]? with
 |none=>rw[hr]at h;cases h
 |some k =>rw[hr]at h;have h1:=My.Wh hr;rw[Tn]at h1;have h2:(List.range n)[i]?=some i:=List.getElem?_range h1;rw[hr]at h2;cases h2;cases h;exact⟨h1,rfl⟩
def vM (lo:Int)(n:Nat):(upto lo n).length=n:=by unfold upto;rw[qa,Tn]
def nO {K:PySem.W.Frag}{aD:List Addr}{H:Hp}(lo:Int)(n:Nat):TV K aD H ⟨upto lo n,fun _=>True⟩ (RL lo n) where
 go:=fun ad1 H1 S i w st _ hi=>by rw[vM]at hi;exact hi
 yld:=by rintro ad1 H1 S i d x H' w st _ hd ⟨e,hx⟩;subst e;obtain⟨_,rfl⟩:=c7 hd;rw[hx];exact⟨Wd.refl,st,.int _⟩
 stop:=fun ad1 H1 S w st _=>by rw[vM];exact qh _
def zmv {P:Program}{w:World}{K:PySem.W.Frag}{tg:Expr}(it:Addr)(lo:Int)(n:Nat):Turn P w K tg (RL lo n) [it] it (fun i h=>IsLongIter h it (lo+(i:Nat)*1) ((n:Int)-(i:Nat)) 1) where
 mem:=by simp
 obj:=fun i h st b hb=>by
  have e:b=it:=by simpa using hb
  subst e
  exact⟨_,st,fun v z=>by have z':Data.fields _=Data.cell v:=z;cases z'⟩
 keep:=fun i h h' st k=>k it (by simp) _ st
 item:=by
  intro X hP hw hK hc i Z9 s U H E I hf st' hg;subst hP hw hK;obtain⟨f0,f1,f2,f3,f4,f5⟩:=hf it (by simp);have W:=Walks.longrange (prog:=X.prog) (w:=X.w) (I.ok.hd hc) it lo 1 n;refine W.item i s _ _ hg st' fun v h' tk hv st'' kk=>?_
  obtain⟨t,rfl⟩:=hv;have I1:Inv X Z9 U H { s with heap:=h',toks:=tk }:=I.turned (fun b o hb e=>kk b o (by simpa using hb) e) f0 f1 f3 f4 f5;rw[Ud];exact⟨_,rfl,Qh (s:={ s with heap:=h',toks:=tk }) (n:="longrange_iterator") st'' rfl rfl (by decide) ⟨.int (lo+i),H,I1,⟨t,rfl⟩,⟨rfl,rfl⟩,st'',fun b hb=>(hf b hb).1⟩⟩
 done:=by intro X hP hw hK hc i Z9 s U H E I hf st' hg;subst hP hw hK;obtain⟨f0,f1,f2,f3,f4,f5⟩:=hf it (by simp);exact wpAny_pyNext_long_end (I.ok.hd hc) st' (by have:n<=i:=hg;lia) fun h' eb=>⟨rfl,I.turned (t':=s.toks) (fun b o hb e=>eb b o hb e) f0 f1 f3 f4 f5⟩
 self:=fun _ _ _ _ _ st h=>wpAny_pyIter_longiter st h
def range_any {R:It->Hp->Prop}{E:Value->Shared->Prop}{lo hi:Int}{t u v:Tok}{tk:Nat}(I:Inv X Z9 U H s)(q:R (RL lo (hi-lo).toNat) H):wpAny (model X.prog X.w) X.A (pyIter (.ref s.heap.objs.size)) (PIE X Z9 U tg R) E { s with heap:=s.heap.push { cls:=.type "range",data:=.fields #[.int lo t,.int hi u,.int 1 v] },toks:=tk }:=by
  have I1:Inv X Z9 U H { s with heap:=s.heap.push { cls:=.type "range",data:=.fields #[.int lo t,.int hi u,.int 1 v] },toks:=tk }:=I.kept fun b o e=>qd _ e
  have e1:lo+((0:Nat):Int)*1=lo:=by simp
  have e2:(((hi-lo).toNat:Nat):Int)-((0:Nat):Int)=Builtin.Range.rangeSize lo hi 1:=by rw[rangeSize_one];split<;>lia
  cases hsm:Builtin.Range.small lo hi 1 with
  |true =>
    refine wpAny_pyIter_range (IsRange.new ..) hsm ?_
    refine⟨(s.heap.push { cls:=.type "range",data:=.fields #[.int lo t,.int hi u,.int 1 v] }).objs.size,[(s.heap.push { cls:=.type "range",data:=.fields #[.int lo t,.int hi u,.int 1 v] }).objs.size],_,_,H,rfl,
      I1.kept (t':=tk) fun b o e=>qd _ e,yS _ lo (hi-lo).toNat,?_,fun b hb=>?_,q⟩
    . show IsRangeIter _ _ (lo+((0:Nat):Int)*1) ((((hi-lo).toNat:Nat):Int)-((0:Nat):Int)) 1;rw[e1,e2];exact qq _ rfl
    . have e:b=(s.heap.push { cls:=.type "range",data:=.fields #[.int lo t,.int hi u,.int 1 v] }).objs.size:=by simpa using hb
      subst e;exact I1.fpOk (qh _) (I1.hok.fresh (qh _))
  |false =>
    refine wpAny_pyIter_longrange (IsRange.new ..) hsm ?_
    refine⟨(s.heap.push { cls:=.type "range",data:=.fields #[.int lo t,.int hi u,.int 1 v] }).objs.size,[(s.heap.push { cls:=.type "range",data:=.fields #[.int lo t,.int hi u,.int 1 v] }).objs.size],_,_,H,rfl,
      I1.kept (t':=tk) fun b o e=>qd _ e,zmv _ lo (hi-lo).toNat,?_,fun b hb=>?_,q⟩
    . show IsLongIter _ _ (lo+((0:Nat):Int)*1) ((((hi-lo).toNat:Nat):Int)-((0:Nat):Int)) 1;rw[e1,e2];exact qq _ rfl
    . have e:b=(s.heap.push { cls:=.type "range",data:=.fields #[.int lo t,.int hi u,.int 1 v] }).objs.size:=by simpa using hb
      subst e;exact I1.fpOk (qh _) (I1.hok.fresh (qh _))
def zqL {a:Expr}{t:DA}{p pos:Pos}(hm:X.mg "range"=none)(ha:PAD X [a] t)(hg:autoParam (Gl X "range") zy)(hs:autoParam (starEach [a] X.env=[(false,eval a X.env)]) Nh):Xh X tg (.Call (.Name "range" p) [a] [] pos) (RZ t):=by with_unfolding_all exact(NT (Ų hg hm ha hs) fun U H R hh=>ZV hh fun aD ρ S R0 st rh q k =>
 ⟨aD,ρ,S,_,st,rh,q,by rintro ds S1 vs H1 ad1 ⟨j,ed,b1,b2,q1⟩ w1 st1 r1;subst ed;obtain⟨v,rfl,rv⟩:=Xg r1;cases rv;exact⟨j,rfl,b1,b2,k _ S1 _ H1 ad1 q1 w1 st1 (nO 0 j.toNat)⟩⟩)
def eF {a b:Expr}{t:DA}{p pos:Pos}(hm:X.mg "range"=none)(ha:PAD X [a,b] t)(hg:autoParam (Gl X "range") zy)(hs:autoParam (starEach [a,b] X.env=[(false,eval a X.env),(false,eval b X.env)]) wA)(hs2:autoParam (starEach [b] X.env=[(false,eval b X.env)]) Nh) :
  Xh X tg (.Call (.Name "range" p) [a,b] [] pos) (K3 t):=by
 with_unfolding_all
  rintro Z9 s U H R I ⟨aD,ρ,S,R0,st,rh,q,k⟩
  refine Call_ (Ua I hg hm boot_range (PyProof.Rows.callWith_type1 (Z2 (ha pos Z9 s U H (fun vs H1=>∃ i j:Int,vs=[.int i,.int j]/\R (RL i (j-i).toNat) H1) I ⟨aD,ρ,S,_,st,rh,q,by rintro ds S1 vs H1 ad1 ⟨i,j,ed,q1⟩ w1 st1 r1;subst ed;obtain⟨v,u,rfl,rv,ru⟩:=Qf r1;cases rv;cases ru;exact⟨i,j,rfl,k _ S1 _ H1 ad1 q1 w1 st1 (nO i _)⟩⟩) fun us s1 ⟨vs,H1,I1,r1,q1⟩=>?_) (by rw[hs,hs2]) (by rw[hs2];rfl)))
  obtain⟨i,j,e,q⟩:=q1;subst e;cases r1 with
  |cons r rr =>
   cases rr with
   |cons r' rr =>cases rr;obtain⟨t,rfl⟩:=r;obtain⟨t',rfl⟩:=r';exact call_range_2 (range_any I1 q)
def ţ {t:DS}{pos:Pos}(hi:Xh X tg iter wi)(hg:Lk X 1000 tg g)(hb:W5 X body t)(hp:autoParam (PassesOwn (model X.prog X.w) X.A X.env X.xe) nJ)(hc:autoParam (X.calm=true) zy)(hs:autoParam (∀ x,foldedSetIterable iter X.env x=pure x) Qv):Zn X (.For tg iter body [] pos) (Yr wi g t):=by
 with_unfolding_all
  obtain⟨g',pg,rg⟩:=hg;refine XS (dJ hp hc hi pg hb hs) fun E U H hh=>ZV hh fun aD ρ S E0 so rh q k=>?_
  refine⟨aD,ρ,S,_,so,rh,q,fun J0 S1 J H1 ad1 ⟨W,w0,hok,step,fin⟩ d1 st1 it=>?_⟩;refine⟨fun i m σ' H'=>m=J0.items.length-i/\i<=J0.items.length/\∃ aD' ρ' S',W i ρ' S'/\Wd ad1 H1 aD' H'/\zp X.K aD' H' S'/\Zb X.K aD' H' ρ' σ',⟨J0.items.length,rfl,qY _,ad1,ρ,S1,w0,Wd.refl,st1,rh.wd d1⟩,?_⟩;rintro i m σ2 H2 ⟨rfl,hi2,ad2,ρ2,S2,w2,d2,st2,rh2⟩;by_cases hlt:i<J0.items.length
  ·have ed:J0.items[i]?=some J0.items[i]:=qb hlt;refine .inr ⟨it.go ad2 H2 S2 i d2 st2 (hok _ _ _ w2) hlt,fun σ' H'=>∃ aD' ρ' S',W (i+1) ρ' S'/\Wd ad1 H1 aD' H'/\zp X.K aD' H' S'/\Zb X.K aD' H' ρ' σ',?_,fun x H' hy=>?_⟩
   ·rintro σ' H' ⟨aD',ρ',S',w',d',st',rh'⟩;exact⟨J0.items.length-(i+1),by lia,rfl,hlt,aD',ρ',S',w',d',st',rh'⟩
   ·obtain⟨d3,st3,r3⟩:=it.yld ad2 H2 S2 i _ x H' d2 st2 (hok _ _ _ w2) ed hy;refine rg ad2 H' S2 ρ2 σ2 _ x _ _ st3 (rh2.wd d3) r3 (step i _ ρ2 S2 ed w2) fun ρ4 S4 σ4 H4 ad4 q4 d4 st4 rh4 _ _=>?_
    have d14:=(d2.trans d3).trans d4;have d04:=d1.trans d14;exact⟨ad4,ρ4,S4,{ E0 with nx:=W (i+1),ct:=W (i+1),bk:=E0.nx },st4,rh4,q4,⟨fun ρ' S' σ' H' aD' q' w' st' rh'=>⟨aD',ρ',S',q',d14.trans w',st',rh'⟩,k.rt.wd d04,fun ρ' S' σ' H' aD' q' w' st' rh'=>k.nx ρ' S' σ' H' aD' q' (d04.trans w') st' rh',fun ρ' S' σ' H' aD' q' w' st' rh'=>⟨aD',ρ',S',q',d14.trans w',st',rh'⟩⟩⟩
  ·have e:i=J0.items.length:=by lia
   subst e;exact .inl ⟨it.stop ad2 H2 S2 d2 st2 (hok _ _ _ w2),k.nx ρ2 S2 σ2 H2 ad2 (fin ρ2 S2 w2) (d1.trans d2) st2 rh2⟩
end
theorem Dk:∀ {a b:L2.St} (n:Nat),(∀ j,j<n->a[j]?=some none\/a.length<=j)->b.length=a.length->(∀ j,n<=j->b[j]?=a[j]?)->Xr a b
 |[],[],_,_,_,_=>True.intro
 |[],_::_,_,_,h,_=>by simp at h
 |_::_,[],_,_,h,_=>by simp at h
 |x::a,y::b,n,h0,hl,h=>by
  have hl':b.length=a.length:=by simpa using hl
  cases n with
  |zero =>
   have e:=h 0 (qh _);have e':y=x:=by simpa using e
   subst e';have rest:Xr a b:=Dk 0 (fun j hj=>absurd hj (Nat.not_lt_zero _)) hl' fun j _=>by simpa using h (j+1) (qY _)
   cases y with
   |none=>exact rest
   |some v=>exact⟨rfl,rest⟩
  |succ n =>
   have rest:Xr a b:=Dk n (fun j hj=>by
    rcases h0 (j+1) (by lia)with e|e
    ·exact .inl (by simpa using e)
    ·exact .inr (by simpa using e)) hl' fun j hj=>by simpa using h (j+1) (by lia)
   rcases h0 0 (Nat.succ_pos _)with e|e
   ·have e':x=none:=by simpa using e
    subst e';exact rest
   ·simp at e
def bN {K:PySem.W.Frag}(h:Zb K aD H ρ U)(own:List Str)(fv:List Nat):Zb K aD H (QK own.length fv ρ) (cst own fv U) where
  len:=by unfold QK cst;rw[qf,qf,qM,qM,qa,qa]
  val:=fun i d e=>by
    unfold QK at e;unfold cst;by_cases hi:i<own.length
    . rw[qg (by rw[qM];exact hi),K7]at e;split at e<;>cases e
    . have hi':own.length<=i:=Rv hi;rw[qe (by rw[qM];exact hi'),qM,qi]at e;rw[qe (by rw[qM];exact hi'),qM,qi];cases hf:fv[i-own.length]? with
      |none=>rw[hf]at e;cases e
      |some j =>
        rw[hf]at e;simp only[Option.map_some,Option.some.injEq]at e ⊢;cases hr:ρ[j]? with
        |none=>rw[hr]at e;cases e
        |some o =>rw[hr]at e;have e':o=some d:=e;subst e';obtain⟨v,ev,rv⟩:=h.val j d hr;exact⟨v,by rw[ev];rfl,rv⟩
@[irreducible] def LC (X:Cx)(ifs:List Expr)(t:DT):Prop:=Q7 X ifs (Oo X.K t)
def zss {X:Cx}:LC X [] Yj:=by with_unfolding_all exact(fun Z9 s U H Q I hh=>ZV hh fun aD ρ S Q0 st rh q k=>gZ Z9 s U H Q I (k true S H aD q Wd.refl st))
def mL {t:DT}(h:YC X c t):LC X [c] t:=by with_unfolding_all exact(ztY h)
def ofT {A B:Prop}(h:if true=true then A else B):A:=by rw[if_pos rfl]at h;exact h
def ofF {A B:Prop}(h:if false=true then A else B):B:=by rw[if_neg qr]at h;exact h
def yc {K:PySem.W.Frag}{own:List Str}{fv:List Nat}{wi:DI}{tc:DT}{te:DE}(rg:Ws K own.length g g'){U:L2.St}{H:Hp}{Q:VK}(h:up K (Zh own.length fv wi g tc te) U H Q):Dr own fv (mZ K wi) g' (Oo K tc) (up K te) U H Q:=by
 obtain⟨aD,ρ,S,Q0,so,rh,q,k⟩:=h;refine⟨aD,ρ,S,_,so,rh,q,fun J0 S1 J H1 ad1 ⟨hbig,W,w0,hok,step,fin⟩ d1 st1 it=>?_⟩;intro p hp
 refine⟨fun i m H'=>m=J0.items.length-i/\i<=J0.items.length/\∃ aD' S' ys vs,W i ys S'/\Wd ad1 H1 aD' H'/\zp K aD' H' S'/\p∉aD'/\H' p=some (.lst vs)/\zj K aD' H' ys vs/\vs.length<=i,
  ⟨J0.items.length,rfl,qY _,ad1,S1,[],[],w0,Wd.laid hp,st1.laid hp,st1.fresh hp,zL,.nil,qh _⟩,?_⟩
 rintro i m H2 ⟨rfl,hi2,ad2,S2,ys,vs,w2,d2,st2,hp2,hv2,r2,hl2⟩;by_cases hlt:i<J0.items.length
 ·have ed:J0.items[i]?=some J0.items[i]:=qb hlt;refine .inr ⟨it.go ad2 H2 S2 i d2 st2 (hok _ _ _ w2) hlt,fun x H' hy=>?_⟩;obtain⟨d3,st3,r3⟩:=it.yld ad2 H2 S2 i _ x H' d2 st2 (hok _ _ _ w2) ed hy;have rh3:=bN (rh.wd ((d1.trans d2).trans d3)) own fv;refine rg ad2 H' S2 _ _ _ x _ _ st3 rh3 r3 (step i _ ys S2 ed w2) fun ρ4 S4 σ4 H4 ad4 q4 d4 st4 rh4 l4 a4=>?_
  refine⟨Dk own.length (fun j hj=>.inl ?_) l4 a4,ad4,ρ4,S4,_,st4,rh4,q4,fun b S5 H5 ad5 q5 d5 st5=>?_⟩
  ·unfold cst;rw[qg (by rw[qM];exact hj),K7,if_pos hj]
  have fwd:∀ {ad9:List Addr} {H9:Hp},Wd ad2 H2 ad9 H9->p∉ad9/\H9 p=some (.lst vs):=fun {ad9 H9} w=>⟨(fun m=>by have z:=w.new p m hp2;rw[hv2]at z;cases z),w.keep p _ hp2 hv2⟩
  have d25:=(d3.trans d4).trans d5;cases b with
  |true =>refine Fb ?_;have q5:=Dp.ofT q5;refine⟨ad5,ρ4,S5,_,st5,rh4.wd d5,q5,fun y S6 v H6 ad6 q6 d6 st6 r6=>?_⟩;have d26:=d25.trans d6;obtain⟨n6,e6⟩:=fwd d26;have hw:Wr ad6 H6 ad6 (upd H6 p (.lst (vs++[v]))):=Wr.hid e6;have hvl:vs.length<sizeLine:=M7 (by lia);exact⟨vs,e6,hvl,J0.items.length-(i+1),by lia,rfl,hlt,ad6,S6,ys++[y],vs++[v],q6,(d2.trans d26).hid hp,st6.hid e6 n6 (st1.bfree hp),n6,zL,zj.wr hw ((r2.wd d26).append (.cons r6 .nil)),by rw[qf];exact Nat.succ_le_succ hl2⟩
  |false =>refine Cd ?_;have q5:=Dp.ofF q5;obtain⟨n5,e5⟩:=fwd d25;exact⟨J0.items.length-(i+1),by lia,rfl,hlt,ad5,S5,ys,vs,q5,d2.trans d25,st5,n5,e5,r2.wd d25,by lia⟩
 ·have e:i=J0.items.length:=by lia
  subst e;refine .inl ⟨it.stop ad2 H2 S2 d2 st2 (hok _ _ _ w2),?_⟩;exact k _ _ _ _ (ad2++[p]) (fin ys S2 w2) (d1.trans (d2.add hp)) (st2.add hv2 hp2 r2 (st1.bfree hp)) (.ref (by rw[<- st2.len,qe (qh _),Yp];rfl))
section
variable {X:Cx}{sc:Scope}{tg iter elt:Expr}{ifs:List Expr}{own free:List Str}{fv:List Nat}{wi:DI}{g:DG}{tc:DT}{te:DE}{pos:Pos}
def eE (hfr:W6 (fun x=>X.env.kindOf x=some .cell) sc.names)(hfv:Ve X sc free fv)(hi:Xh X tg iter wi)(hg:Ws X.K own.length g g'/\∀ cl C s₀ H₀ ex,PG (inner X sc (own++free) cl C s₀ H₀ ex) tg g')(ht:∀ cl C s₀ H₀ ex,LC (inner X sc (own++free) cl C s₀ H₀ ex) ifs tc)(he:∀ cl C s₀ H₀ ex,PD (inner X sc (own++free) cl C s₀ H₀ ex) elt te)(hcalm:autoParam (X.calm=true) zy)(hxe:autoParam ((X.xe=fun _ _=>False)) zy)(hkind:autoParam (sc.kind=.function) zy)(hcell:autoParam (∀ y∈sc.names,y.2=.cell->sc.names.lookup y.1=some .cell) Jz)(hnames:autoParam (∀ y∈sc.names,y.2=.local->sc.names.lookup y.1=some .local) Jz)(hs:autoParam (∀ x,foldedSetIterable iter X.env x=pure x) Qv):PD X (.ListComp elt [⟨tg,iter,ifs,0⟩] sc pos) (Zh own.length fv wi g tc te):=by with_unfolding_all exact(zV (zxd (tc:=Oo X.K tc) (te:=up X.K te) hcalm hxe hkind hcell hnames hfr hfv hi hg.2 ht he hs) fun _ _ _=>yc hg.1)
def ö {i:Nat}{y:Str}{py spos:Pos}(hN:X.N.Nodup)(hfr:W6 (fun x=>X.env.kindOf x=some .cell) sc.names)(hfv:Ve X sc free fv)(hi:Xh X tg iter wi)(hg:Ws X.K own.length g g'/\∀ cl C s₀ H₀ ex,PG (inner X sc (own++free) cl C s₀ H₀ ex) tg g')(ht:∀ cl C s₀ H₀ ex,LC (inner X sc (own++free) cl C s₀ H₀ ex) ifs tc)(he:∀ cl C s₀ H₀ ex,PD (inner X sc (own++free) cl C s₀ H₀ ex) elt te)(hy:autoParam (X.N[i]?=some y) zy)(hyl:autoParam (X.env.scope.names.lookup y=some .local) zy)(hcalm:autoParam (X.calm=true) zy)(hxe:autoParam ((X.xe=fun _ _=>False)) zy)(hkind:autoParam (sc.kind=.function) zy)(hcell:autoParam (∀ y∈sc.names,y.2=.cell->sc.names.lookup y.1=some .cell) Jz)(hnames:autoParam (∀ y∈sc.names,y.2=.local->sc.names.lookup y.1=some .local) Jz)(hsw:autoParam (swapsWith (.ListComp elt [⟨tg,iter,ifs,0⟩] sc pos) (some (.Name y py)) spos.line X.env=pure true) zy)(hs:autoParam (∀ x,foldedSetIterable iter X.env x=pure x) Qv):Zn X (.Assign [.Name y py] (.ListComp elt [⟨tg,iter,ifs,0⟩] sc pos) spos) (zq (Zh own.length fv wi g tc te) (zT i)):=by with_unfolding_all exact(XS (Φ (tc:=Oo X.K tc) (te:=up X.K te) hN hy hyl hcalm hxe hkind hcell hnames hfr hfv hi hg.2 ht he hsw hs) fun E U H hh=>ZV hh fun aD ρ S E0 so rh q k =>yc (Q:=fun x H1=>L2.zT i x U H1 E.nx) hg.1 ⟨aD,ρ,S,_,so,rh,q,fun d S' v H' aD' q' w st' r=>k.nx _ S' _ H' aD' q' w st' ((rh.wd w).set r i)⟩)
def zmu {K:PySem.W.Frag}{b:Nat}:IK K b YM L2.YM:=fun aD H S ρ U ds vs Q0 Q st rh r zq61 k=>by obtain⟨e,q⟩:=zq61;subst e;cases r;exact⟨rfl,k ρ S U H aD q Wd.refl st rh rfl fun _ _=>rfl⟩
def zlx {K:PySem.W.Frag}{t:DG}(r1:Ws K b t t')(r2:IK K b u u'):IK K b (zF t u) (L2.zF t' u'):=fun aD H S ρ U ds vs Q0 Q st rh r zq62 k=>by
 obtain⟨d,rs,ed,q⟩:=zq62;subst ed;cases r with
 |cons r t =>refine⟨_,_,rfl,r1 aD H S ρ U d _ _ _ st rh r q fun ρ1 S1 σ1 H1 ad1 q1 w1 st1 rh1 l1 a1=>?_⟩;exact r2 ad1 H1 S1 ρ1 σ1 _ _ _ _ st1 rh1 (t.wd w1) q1 fun ρ2 S2 σ2 H2 ad2 q2 w2 st2 rh2 l2 a2=>k ρ2 S2 σ2 H2 ad2 q2 (w1.trans w2) st2 rh2 (l2.trans l1) fun j hj=>(a2 j hj).trans (a1 j hj)
def ř {K:PySem.W.Frag}{n:Nat}{t:Vh}(r:IK K b t t'):Ws K b (YH n t) (L2.YH K n t'):=fun aD H S ρ U d v Q0 Q st rh rv zq63 k=>by
 obtain⟨xs,ed,hl,q⟩:=zq63;subst ed;cases rv with
 |tup h1 rs=>exact⟨_,_,rfl,ZM.of h1,by rw[<- rs.length];exact hl,r aD H S ρ U xs _ _ _ st rh rs q k⟩
end
def yr {K:PySem.W.Frag}(N:List Str)(r:zj K aD H ds vs):Zb K aD H (SJ N.length ds) (L2.start N vs) where
  len:=by unfold SJ L2.start;rw[qf,qf,qa,qa,qM,qM,r.length]
  val:=fun i d e=>by
    unfold SJ at e;unfold L2.start;by_cases hi:i<ds.length
    . rw[qg (by rw[qa];exact hi),qi]at e;rw[qg (by rw[qa,<- r.length];exact hi),qi];cases hd:ds[i]? with
      |none=>rw[hd]at e;cases e
      |some d' =>rw[hd]at e;cases e;obtain⟨v,ev,rv⟩:=r.get hd;exact⟨v,by rw[ev];rfl,rv⟩
    . rw[qe (by rw[qa];exact Rv hi),K7]at e;split at e<;>cases e
def zj.cut1 {K:PySem.W.Frag}{aD aD':List Addr}{H:Hp}(k:Nat)(h1:∀ d v,fl k d=true->Rel K aD H d v->Rel K aD' H d v):∀ ds vs,ds.all (fl k)=true->zj K aD H ds vs->zj K aD' H ds vs:=by
 intro ds
 induction ds with
 |nil=>intro vs _ r;cases r;exact .nil
 |cons d ds ih =>
  intro vs hf r;rw[V1,qw]at hf;cases r with
  |cons r t=>exact .cons (h1 d _ hf.1 r) (ih _ hf.2 t)
def Rel.cut {K:PySem.W.Frag}{aD aD':List Addr}{H:Hp}:∀ (k:Nat) (d:D) (v:V),fl k d=true->Rel K aD H d v->Rel K aD' H d v:=by
 intro k
 induction k with
 |zero =>
  intro d v hf r;cases r with
  |non=>exact .non
  |bl b=>exact .bl b
  |int i=>exact .int i
  |str x=>exact .str x
  |ty n=>cases hf
  |tup h r=>cases hf
  |rl h r=>cases hf
  |kt h r=>cases hf
  |ref h=>cases hf
  |exn _ _ _=>cases hf
 |succ k ih =>
  intro d v hf r;cases r with
  |non=>exact .non
  |bl b=>exact .bl b
  |int i=>exact .int i
  |str x=>exact .str x
  |ty n=>cases hf
  |tup h r=>exact .tup h (zj.cut1 k ih _ _ hf r)
  |rl h r=>cases hf
  |kt h r=>cases hf
  |ref h=>cases hf
  |exn _ _ _=>cases hf
theorem zj.cut {K:PySem.W.Frag}{aD':List Addr}(k:Nat)(ds:List D)(vs:List V)(hf:ds.all (fl k)=true)(r:zj K aD H ds vs):zj K aD' H ds vs:=zj.cut1 k (Rel.cut k) ds vs hf r
end Dp
namespace Dp
open PySem PySem.Spec PyProof.Rows L2 My
variable [B:Bs]
mutual
theorem Rel.low {K:PySem.W.Frag}{aD aD':List Addr}{H H':Hp}{m:Nat}(hm:aD.length<=m):∀ {d:D} {u v:V},Rel K aD H d u->Rel K aD' H' d v->Rel K (aD'.take m) H' d v
 |_,_,_,.non,r=>by cases r;exact .non
 |_,_,_,.bl b,r=>by cases r;exact .bl b
 |_,_,_,.int i,r=>by cases r;exact .int i
 |_,_,_,.str x,r=>by cases r;exact .str x
 |_,_,_,.ty n,r=>by cases r;exact .ty n
 |_,_,_,.tup _ t,r=>by
  cases r with
  |tup h t'=>exact .tup h (zj.low hm t t')
 |_,_,_,.rl _ t,r=>by
  cases r with
  |rl h t'=>exact .rl h (zj.low hm t t')
 |_,_,_,.kt _ t,r=>by
  cases r with
  |kt h t'=>exact .kt h (zj.low hm t t')
 |_,_,_,.exn _ _ _,r=>by
  cases r with
  |exn h e n=>exact .exn h e n
 |_,_,_,.ref h,r=>by
  cases r with
  |ref h'=>exact .ref (by rw[Jb (qE (My.Wh h) hm)];exact h')
theorem zj.low {K:PySem.W.Frag}{aD aD':List Addr}{H H':Hp}{m:Nat}(hm:aD.length<=m):∀ {ds:List D} {us vs:List V},zj K aD H ds us->zj K aD' H' ds vs->zj K (aD'.take m) H' ds vs
 |_,_,_,.nil,r=>by cases r;exact .nil
 |_,_,_,.cons r t,q=>by
  cases q with
  |cons r' t'=>exact .cons (Rel.low hm r r') (zj.low hm t t')
end
theorem Zg.low {K:PySem.W.Frag}{aD aD':List Addr}{H H':Hp}{m:Nat}(hm:aD.length<=m):∀ {fs:List (Str×D)} {us vs:List (Str×V)},Zg K aD H fs us->Zg K aD' H' fs vs->Zg K (aD'.take m) H' fs vs
 |_,_,_,.nil,r=>by cases r;exact .nil
 |_,_,_,.cons r t,q=>by
  cases q with
  |cons r' t'=>exact .cons (Rel.low hm r r') (Zg.low hm t t')
theorem RelK.low {K:PySem.W.Frag}{aD aD':List Addr}{H H':Hp}{m:Nat}(hm:aD.length<=m):∀ {fs:List (Str×D)} {us vs:List (Key×V)},RelK K aD H fs us->RelK K aD' H' fs vs->RelK K (aD'.take m) H' fs vs
 |_,_,_,.nil,r=>by cases r;exact .nil
 |_,_,_,.cons r t,q=>by
  cases q with
  |cons r' t'=>exact .cons (Rel.low hm r r') (RelK.low hm t t')
theorem zU.low {κ:Type}{K:PySem.W.Frag}{aD aD':List Addr}{H H':Hp}{m:Nat}(hm:aD.length<=m):∀ {fs:List (κ×D)} {us vs:List (κ×V)},zU K aD H fs us->zU K aD' H' fs vs->zU K (aD'.take m) H' fs vs
 |_,_,_,.nil,r=>by cases r;exact .nil
 |_,_,_,.cons r t,q=>by
  cases q with
  |cons r' t'=>exact .cons (Rel.low hm r r') (zU.low hm t t')
def JZ {K:PySem.W.Frag}(st:zp K aD H S)(k:KK K aD H Q0 Q):KK K aD H (Fin S Q0) Q:=by
 intro d S' v H' aD' hf w st' r;rcases hf with q|⟨S1,pre,hlen,hd,hc,q⟩
 ·exact k d S' v H' aD' q w st' r
 have hS:S1.length<=S'.length:=pre.length_le;have had:aD.length<=S1.length:=by rw[st.len];exact hlen
 have htk:∀ {n:Nat} {a:Addr},(aD'.take S1.length)[n]?=some a->aD'[n]?=some a:=fun {n a} e=>by have hn:=My.Wh e;rw[Vb]at hn;rw[Jb (by lia)]at e;exact e
 have w1:Wd aD H (aD'.take S1.length) H':=by refine⟨?_,w.keep,w.tup,w.frz,fun b m n=>w.new b (Qw m) n⟩;obtain⟨t,rfl⟩:=w.pre;rw[List.take_append,JQ had];exact Mp _ _
 refine k d S1 v H' _ q w1 ⟨st.wd.trans w1,by rw[Vb,st'.len];lia,st'.nd.sublist (List.take_sublist _ _),fun n a c e1 e2=>?_⟩ ?_
 ·have e1':=htk e1;have ok:=st'.cell n a c e1' (RW pre e2);rcases hc n c e2 with h|h
  ·obtain⟨a0,ea,ok0⟩:=st.get h;cases c with
   |ins c fs =>obtain⟨C,dx,vs,hv,c1,c2,rv,hn⟩:=ok;obtain⟨_,_,us,_,_,_,ru,_⟩:=ok0;exact⟨C,dx,vs,hv,c1,c2,Zg.low had ru rv,hn⟩
   |dk Z8 =>obtain⟨vs,hv,rv⟩:=ok;obtain⟨us,hu,ru⟩:=ok0;exact⟨vs,hv,RelK.low had ru rv⟩
   |dt Z8 =>obtain⟨vs,hv,rv⟩:=ok;obtain⟨us,hu,ru⟩:=ok0;exact⟨vs,hv,zU.low had ru rv⟩
   |dn Z8 ep =>obtain⟨vs,hv,rv⟩:=ok;obtain⟨us,hu,ru⟩:=ok0;exact⟨vs,hv,zU.low had ru rv⟩
   |tab x l c=>exact ok
   |lst xs =>obtain⟨vs,hv,rv⟩:=ok;obtain⟨us,hu,ru⟩:=ok0;exact⟨vs,hv,zj.low had ru rv⟩
  ·cases c with
   |ins c fs=>cases h
   |dk _=>cases h
   |dt _=>cases h
   |dn _ _=>cases h
   |tab _ _ _=>cases h
   |lst xs =>obtain⟨vs,hv,rv⟩:=ok;exact⟨vs,hv,zj.cut 20 _ _ h rv⟩
 ·rcases hd with h|⟨n,rfl,hn⟩
  ·exact Rel.cut 20 _ _ h r
  ·cases r with
   |ref e=>exact .ref (by rw[Jb hn];exact e)
omit B in
def Ģ {P:Program}{w:World}{K:PySem.W.Frag}{mg:Str->Option Value}{base:Heap}{st:Stmt}{k:Nat}{sp:ZX}(F:W9 K x qual st f fd)(S:Ph N ps (zK st))(len:∀ ds So Q,sp ds So Q->ds.length=ps.length)(body:BodyOk N.length b sp)(term:∀ (cdv:Value) (A:Around) (outer:List Env) (s:Shared) (H:Hp) (E:XK),zN k (A.deeper (envOfC qual (zK st) s.heap.objs.size f cdv))->∀ [Bs],W5 (Vr Wq P w K mg base N qual (zK st) f cdv A outer s H E).nox (XH st) b) :
  YK P w K mg base Wq (k+1) f fd ps (Xk K sp):=by
 with_unfolding_all
  refine F.ok S (by rintro vs H Q E ⟨aD,So,ds,Q0,so,r,hf,kk⟩;exact by rw[<- r.length];exact len ds So Q0 hf) fun cdv A outer s H vs Q E hr ⟨aD,So,ds,Q0,so,r,hf,kk⟩=>?_
  letI:Bs:=⟨aD,H⟩
  refine⟨_,term cdv A outer s H E hr,aD,SJ N.length ds,So,_,so,yr N r,body ds So Q0 hf,⟨fun ρ S' U H' aD' q w' st' rh=>JZ so kk .non S' .non H' aD' q w' st' .non,JZ so kk,fun _ _ _ _ _ q=>q.elim,fun _ _ _ _ _ q=>q.elim⟩⟩
omit B in
def zvs {K:PySem.W.Frag}{ns:List Int}(hl:ns.length<=63)(hg:∀ n∈ns,Hg n)(hO:Only H)(hS:ZC K H a (ns.map V.int)):Xk K O8 [.ref a] H (fun v _=>v=.bl true) fun _ _ _=>False:=by
 have hr:Rb K H a (ns.map V.int):=by
  rcases hS with(h|h)|h
  ·rcases hO a with e|⟨o,xs,e⟩
   ·rw[h]at e;cases e
   ·rw[h]at e;cases e
  ·exact .inl h
  ·exact .inr h
 refine⟨[],[],[.rl (ns.map D.int)],fun d _=>d=.bl true,@zp.mk ⟨[],H⟩ _ _ _ _ Wd.refl rfl List.nodup_nil (fun n a c e=>by simp at e),.cons (.rl hr (zj.mk_ints ns)) .nil,⟨ns,rfl,⟨rfl,hg⟩,hl,fun _=>rfl⟩,fun d S' v H' aD' q w st' r=>?_⟩;have q':d=.bl true:=q;subst q';cases r;rfl
omit B in
theorem Bo:∀ {ns:List Int} {n:Int},n∈ns->PySem.W.WData.weight (.int n)<=PySem.W.WData.weightAll (ns.map PySem.W.WData.int)
 |m::ns,n,h=>by
  rw[qP,PySem.W.WData.weightAll];rcases ql.mp h with rfl|h
  ·lia
  ·have:=Bo h;lia
omit B in
def Æ {l:PySem.W.OpenLaw}{n k:Nat}{q:Program}{loose:List Str}{XP:(Str->Option Value)->Heap->Prop}{YP:World->Heap->Prop}{d:DefRec}{K:Params->PySem.W.Frag}{sp:World->Sp}{x:Str}
  (hn:l.most=some n) (hn2:n<=sizeLine) (hdf:d.params.defaults=[]) (hr:zN k callerA) (hY:∀ (w:World) (h:Heap),YP w h->(K w.params).In h)
  (F:∀ (w:World) (mg:Str->Option Value) (fa:Addr) (h:Heap),(K w.params).In h->h.Ns mainGlobals mg->mg d.name=some (.ref fa) ->
   ∃ fd:FuncData,(∀ (s:Shared) (u:Value),BindsTo s fd ⟨[u],[]⟩ [(x,u)])/\∀ base:Heap,(K w.params).In base->base.Ns mainGlobals mg->YK l.prog w (K w.params) mg base Wq k fa fd [x] (sp w))
  (hsp:∀ (w:World) (H:Hp) (a:Addr) (ns:List Int),ns.length<=n->(∀ m∈ns,Hg m)->Only H->ZC (K w.params) H a (ns.map V.int)->sp w [.ref a] H (fun v _=>v=.bl true) fun _ _ _=>False) :
  PySem.W.WalkO q loose XP YP l.row.toRowW d [] (fun f vs=>PySem.call f vs):=by
 intro w s₀ s₁ mg mb G Y fa o pm cd doc dV kV ho hd hcd hD hmg hg args vals as hpre hlay hrd hwl hlo;obtain rfl:dV=.none:=PySem.W.Dflts.none hD hdf;obtain rfl:kV=.none:=PySem.W.Dflts.noKw hD;obtain⟨a,vs,ns,rfl,rfl,hobj,hints,hlen⟩:=Att.zmY hn hpre hwl
 have hbits:∀ m∈ns,Hg m:=fun m hm=>by
  have h1:PySem.W.WData.layable (.list (ns.map .int))=true:=by simpa [PySem.W.WData.layableAll]using hlay
  have h2:PySem.W.WData.weight (.list (ns.map PySem.W.WData.int))<=2 ^ 20:=by unfold PySem.W.WData.layable at h1;rw[qw,decide_eq_true_eq]at h1;exact h1.2
  have h3:=qW (Bo hm) (by simpa only[PySem.W.WData.weight]using h2);exact iw (by simpa only[PySem.W.WData.weight,Builtin.Int.intBits]using h3)
 have KX:=hY w _ Y;obtain⟨fd,hb,hF⟩:=F w mg fa _ KX G.T.g hmg;refine PySem.W.enter_call (codeAny_mono (Ÿ KX G.T.g G.T.b G.T.builtins G.T.nolimit hg hobj hints (qW hlen hn2) hr hF hb (fun H hO hS=>hsp w H a ns hlen hbits hO hS) fun _ _ _ z=>z) fun r s' hq=>?_);obtain⟨rfl,h2,h3,h4⟩:=hq;exact⟨.inl ⟨.bool true,.bool true,[],rfl,fun _=>rfl,.bool true,Att.Ũ l _,fun _=>⟨List.Pairwise.nil,fun _ hm=>(nomatch hm)⟩⟩,h2,h3,h4⟩
omit B in
def ā {α:Type}{us:List α}(hl:us.length=6):∃ a0 a1 a2 a3 a4 a5,us=[a0,a1,a2,a3,a4,a5]:=by
  cases us with
  |nil=>simp at hl
  |cons a0 us =>
  cases us with
  |nil=>simp at hl
  |cons a1 us =>
  cases us with
  |nil=>simp at hl
  |cons a2 us =>
  cases us with
  |nil=>simp at hl
  |cons a3 us =>
  cases us with
  |nil=>simp at hl
  |cons a4 us =>
  cases us with
  |nil=>simp at hl
  |cons a5 us =>
  cases us with
  |nil=>exact⟨a0,a1,a2,a3,a4,a5,rfl⟩
  |cons b us=>simp at hl
end Dp
namespace Dp
open PySem PySem.Spec PyProof.Rows L2 My
variable [B:Bs]
section
variable {X:Cx}
def zrY {K:PySem.W.Frag}{a:Addr}{ds:List D}(r:Rel K aD H x (.ref a)):TV K aD H ⟨U9 0 ds,fun S=>Lst S x ds⟩ (Ite K a) where
 go:=fun ad1 H1 S i w st ok hi=>by
  obtain⟨a',vs,e,s,rs⟩:=Lst.sq st ok (r.wd w);cases e;have hi':i<ds.length:=by rw[<- UG 0 ds];exact hi
  exact⟨vs,vs[i]'(by rw[<- rs.length];exact hi'),s,qb _⟩
 yld:=by rintro ad1 H1 S i d y H' w st ok hd ⟨p,ey,hp,he⟩;obtain⟨a',vs,e,s,rs⟩:=Lst.sq st ok (r.wd w);cases e;obtain⟨z,hz,rfl⟩:=R6 hd;obtain⟨v,ev,rv⟩:=rs.get hz;rw[he vs v s ev,ey];refine⟨Wd.laid hp,st.laid hp,.tup zL (.cons ?_ (.cons (rv.wd (Wd.laid hp)) .nil))⟩;rw[Nat.zero_add];exact .int _
 stop:=fun ad1 H1 S w st ok=>by obtain⟨a',vs,e,s,rs⟩:=Lst.sq st ok (r.wd w);cases e;exact⟨vs,s,by show _<=(U9 0 ds).length;rw[UG,rs.length];exact qh _⟩
def bf {es:List Expr}{kk:Nat}{tpos:Pos}{a:Expr}{t:DA}{p pos:Pos}(hg:Gl X "enumerate")(hm:X.mg "enumerate"=none)(ha:PAD X [a] t)(hs:autoParam (starEach [a] X.env=[(false,eval a X.env)]) Nh) :
  Xh X (.Tuple es kk tpos) (.Call (.Name "enumerate" p) [a] [] pos) (Dp.VN t):=by with_unfolding_all exact(NT (zrm hg hm ha hs) fun U H R hh=>ZV hh fun aD ρ S R0 st rh q k =>
 ⟨aD,ρ,S,_,st,rh,q,fun ds S1 vs H1 ad1 q0 w1 st1 r1=>by obtain⟨x,xs,ed,hx,q1⟩:=q0;subst ed;obtain⟨v,rfl,rv⟩:=Xg r1;obtain⟨b,ws,rfl,s,rs⟩:=hx.sq st1 rv;exact⟨b,rfl,⟨ws,s⟩,k _ S1 _ H1 ad1 q1 w1 st1 (zrY rv)⟩⟩)
def ù {K:PySem.W.Frag}{a b:Addr}{ds es:List D}(r:Rel K aD H x (.ref a))(r2:Rel K aD H y (.ref b)):TV K aD H ⟨Yk ds es,fun S=>Lst S x ds/\Lst S y es⟩ (JB K true true a b) where
 go:=fun ad1 H1 S i w st ok hi=>by
  obtain⟨a',vs,e,s,rs⟩:=Lst.sq st ok.1 (r.wd w);obtain⟨b',us,e',s',rs'⟩:=Lst.sq st ok.2 (r2.wd w);cases e;cases e';have hi':i<min ds.length es.length:=by rw[<- Rj ds es];exact hi
  exact⟨vs,us,vs[i]'(by rw[<- rs.length];lia),us[i]'(by rw[<- rs'.length];lia),s,s',qb _,qb _⟩
 yld:=by rintro ad1 H1 S i d z H' w st ok hd ⟨p,ey,hp,he⟩;obtain⟨a',vs,e,s,rs⟩:=Lst.sq st ok.1 (r.wd w);obtain⟨b',us,e',s',rs'⟩:=Lst.sq st ok.2 (r2.wd w);cases e;cases e';obtain⟨u1,u2,h1,h2,rfl⟩:=Ia hd;obtain⟨v,ev,rv⟩:=rs.get h1;obtain⟨u,eu,ru⟩:=rs'.get h2;rw[he vs us v u s s' ev eu,ey];exact⟨Wd.laid hp,st.laid hp,.tup zL (.cons (rv.wd (Wd.laid hp)) (.cons (ru.wd (Wd.laid hp)) .nil))⟩
 stop:=fun ad1 H1 S w st ok=>by obtain⟨a',vs,e,s,rs⟩:=Lst.sq st ok.1 (r.wd w);obtain⟨b',us,e',s',rs'⟩:=Lst.sq st ok.2 (r2.wd w);cases e;cases e';refine⟨vs,us,s,s',?_⟩;show vs.length<=(Yk ds es).length\/us.length<=(Yk ds es).length;rw[Rj,rs.length,rs'.length];lia
def zst {K:PySem.W.Frag}{H:Hp}{vs us:List V}(h:H a=some (.tup vs))(r:zj K aD H ds vs)(h2:H b=some (.tup us))(r2:zj K aD H es us):TV K aD H ⟨Yk ds es,fun _=>True⟩ (JB K false false a b) where
 go:=fun ad1 H1 S i w st _ hi=>by
  have hi':i<min ds.length es.length:=by rw[<- Rj ds es];exact hi
  exact⟨vs,us,vs[i]'(by rw[<- r.length];lia),us[i]'(by rw[<- r2.length];lia),ZM.of (w.tup _ _ h),ZM.of (w.tup _ _ h2),qb _,qb _⟩
 yld:=by rintro ad1 H1 S i d z H' w st _ hd ⟨p,ey,hp,he⟩;obtain⟨u1,u2,h1,h2',rfl⟩:=Ia hd;obtain⟨v,ev,rv⟩:=r.get h1;obtain⟨u,eu,ru⟩:=r2.get h2';rw[he vs us v u (ZM.of (w.tup _ _ h)) (ZM.of (w.tup _ _ h2)) ev eu,ey];exact⟨Wd.laid hp,st.laid hp,.tup zL (.cons ((rv.wd w).wd (Wd.laid hp)) (.cons ((ru.wd w).wd (Wd.laid hp)) .nil))⟩
 stop:=fun ad1 H1 S w st _=>by refine⟨vs,us,ZM.of (w.tup _ _ h),ZM.of (w.tup _ _ h2),?_⟩;show vs.length<=(Yk ds es).length\/us.length<=(Yk ds es).length;rw[Rj,r.length,r2.length];lia
def zub {es:List Expr}{kk:Nat}{tpos:Pos}{a b:Expr}{t:DA}{p pos:Pos}(hg:Gl X "zip")(hm:X.mg "zip"=none)(ha:PAD X [a,b] t)(hs:autoParam (starEach [a,b] X.env=[(false,eval a X.env),(false,eval b X.env)]) wA)(hs2:autoParam (starEach [b] X.env=[(false,eval b X.env)]) Nh) :
  Xh X (.Tuple es kk tpos) (.Call (.Name "zip" p) [a,b] [] pos) (Dp.Jd t):=by with_unfolding_all exact(NT (zqf hg hm ha hs hs2) fun U H R hh=>ZV hh fun aD ρ S R0 st rh q k =>
 ⟨aD,ρ,S,_,st,rh,q,fun ds S1 vs H1 ad1 q0 w1 st1 r1=>by
  rcases q0 with⟨x,y,xs,ys,ed,hx,hy,q1⟩|⟨xs,ys,ed,q1⟩
  ·subst ed;obtain⟨v,u,rfl,rv,ru⟩:=Qf r1;obtain⟨b1,ws,rfl,s,rs⟩:=hx.sq st1 rv;obtain⟨b2,ws2,rfl,s2,rs2⟩:=hy.sq st1 ru;exact⟨true,b1,b2,rfl,⟨ws,s⟩,⟨ws2,s2⟩,k _ S1 _ H1 ad1 q1 w1 st1 (ù rv ru)⟩
  ·subst ed;obtain⟨v,u,rfl,rv,ru⟩:=Qf r1;cases rv with
   |tup h r =>
    cases ru with
    |tup h2 r2=>exact⟨false,_,_,rfl,⟨_,ZM.of h⟩,⟨_,ZM.of h2⟩,k _ S1 _ H1 ad1 q1 w1 st1 (zst h r h2 r2)⟩⟩)
end
section
variable {X:Cx}{a b:Expr}{ta tb:DE}{pos:Pos}
theorem Gr (x:D)(hx:fl 20 x=true):∀ ys:List D,ys.all (fl 20)=true->((YS ys).any fun z=>PyData.eqv z (Yy x))=ys.any fun z=>eqv z x
 |[],_=>rfl
 |y::ys,h=>by rw[V1,qw]at h;show(PyData.eqv (Yy y) (Yy x)||(YS ys).any fun z=>PyData.eqv z (Yy x))=_;rw[DW 20 y x h.1 hx,Gr x hx ys h.2];rfl
def rZ (X:Cx)(g:Bool->Bool):R2:=fun x y H Q=>∃ aD S dx dy b,zp X.K aD H S/\Rel X.K aD H dx x/\Rel X.K aD H dy y/\Ji S dx dy b/\Q (.bl (g b)) H
def xP {Z9:List (Addr×Obj)}{U:L2.St}{H:Hp}{s:Shared}{aD:List Addr}{S:Z7}{dx dy:D}{x y:V}{v u:Value}{b:Bool}(I:Inv X Z9 U H s)(st:zp X.K aD H S)(rx:Rel X.K aD H dx x)(ry:Rel X.K aD H dy y)(qx:RelV x v)(qy:RelV y u)(h:Ji S dx dy b) :
  ∃ pd ps as bs,Reads s.heap v pd as/\(Reads s.heap u (.list ps) bs\/Reads s.heap u (.tuple ps) bs)/\pd.canLay0=true/\PyData.canLayAll0 ps=true/\min (PyData.depthAll ps) pd.depth<=60/\(ps.any fun z=>PyData.eqv z pd)=b:=by
 obtain⟨ys,hy,fx,fy,rfl⟩:=h;obtain⟨as,ra⟩:=QG I 20 dx x v fx rx qx;obtain⟨c1,d1⟩:=J6 20 dx fx;obtain⟨c2,d2⟩:=Ea 20 ys fy;rcases hy with rfl|hy
 ·obtain⟨bs,rb⟩:=QG I 21 (.tup ys) y u fy ry qy;exact⟨Yy dx,YS ys,as,bs,ra,.inr rb,c1,c2,by lia,Gr dx fx ys fy⟩
 ·obtain⟨a2,vs2,rfl,s2,r2⟩:=hy.sq st ry;cases qy;obtain⟨its2,rv2,ht2,hz2⟩:=I.list s2;obtain⟨o2,ho2,hc2,n2,hd2⟩:=ht2.isList;obtain⟨bs,rb⟩:=Jg I 20 (QG I 20) _ _ _ fy r2 rv2;exact⟨Yy dx,YS ys,as,_,ra,.inl (.list ho2 hc2 hd2 (by simpa using rb)),c1,c2,by lia,Gr dx fx ys fy⟩
def zwS {k:Nat}(hr:zN k X.A):OC X .In Vo:=⟨_,(ZF.or (r:=rZ X id) (by
  rintro Z9 s U H x y v u Q I qx qy ⟨aD,S,dx,dy,b,st,rx,ry,h,q⟩;obtain⟨pd,ps,as,bs,ra,rb,c1,c2,hd,e⟩:=xP I st rx ry qx qy h;have hu:=hr.units;rcases rb with rb|rb
  ·exact PySem.SeqAt.in_list_reads rb ra c2 c1 (by lia) ⟨.bl _,H,I,by rw[e];rfl,q⟩
  ·exact PySem.SeqAt.in_tuple_reads rb ra c2 c1 (by lia) ⟨.bl _,H,I,by rw[e];rfl,q⟩) bW),
 fun aD H S x y v u Q0 Q st rx ry h k=>by
  rcases h with⟨b,h,q⟩|⟨c,z,rfl,rfl,q⟩
  ·exact .inl ⟨aD,S,x,y,b,st,rx,ry,h,k _ S _ H aD q Wd.refl st (.bl _)⟩
  ·cases rx;cases ry;exact .inr ⟨_,z,rfl,rfl,by rw[PySem.StrLaws.found_one];exact k _ S _ H aD q Wd.refl st (.bl _)⟩⟩
def ŕ {k:Nat}(hr:zN k X.A):OC X .NotIn RQ:=⟨_,(ZF.or (r:=rZ X (!·)) (by
  rintro Z9 s U H x y v u Q I qx qy ⟨aD,S,dx,dy,b,st,rx,ry,h,q⟩;obtain⟨pd,ps,as,bs,ra,rb,c1,c2,hd,e⟩:=xP I st rx ry qx qy h;have hu:=hr.units;rcases rb with rb|rb
  ·exact PySem.SeqAt.notIn_list_reads rb ra c2 c1 (by lia) ⟨.bl _,H,I,by rw[e];rfl,q⟩
  ·exact PySem.SeqAt.notIn_tuple_reads rb ra c2 c1 (by lia) ⟨.bl _,H,I,by rw[e];rfl,q⟩) À),
 fun aD H S x y v u Q0 Q st rx ry h k=>by
  rcases h with⟨b,h,q⟩|⟨c,z,rfl,rfl,q⟩
  ·exact .inl ⟨aD,S,x,y,b,st,rx,ry,h,k _ S _ H aD q Wd.refl st (.bl _)⟩
  ·cases rx;cases ry;exact .inr ⟨_,z,rfl,rfl,by rw[PySem.StrLaws.found_one];exact k _ S _ H aD q Wd.refl st (.bl _)⟩⟩
def zrH (o:OC X op r')(ha:PD X a ta)(hb:PD X b tb)(hm:autoParam (behindInMarks op b=false) Vk):PD X (.Compare a [op] [b] pos) (Z6 r' ta tb):=by
 with_unfolding_all
  obtain⟨r,ho,od⟩:=o;exact zV (ĝ ho ha hb hm) fun _ _ _=>Ky od
def Ŭ (o:OC X op r')(ha:PD X a ta)(hb:PD X b tb)(hm:autoParam (behindInMarks op b=false) Vk):YC X (.Compare a [op] [b] pos) (dT (Z6 r' ta tb)):=by
 with_unfolding_all
  obtain⟨r,ho,od⟩:=o;refine Pj (zrZ ho ha hb hm) fun U H Q hh=>ZV hh fun aD ρ S Q0 st rh q k=>?_
  refine Ky (Q:=fun x H'=>∃ k,x=.bl k/\Q k H') od ⟨aD,ρ,S,_,st,rh,q,fun d S' v H' aD' ⟨b,e,q'⟩ w st' r=>?_⟩;subst e;cases r;exact⟨b,rfl,k b S' H' aD' q' w st'⟩
end
section
variable {X:Cx}
end
section
variable {X:Cx}{e:Expr}{pos p2 p3:Pos}{lo:Option Expr}
end
theorem pA {K:PySem.W.Frag}{aD:List Addr}{H:Hp}:∀ {zs:List Str} {vs:List V},zj K aD H (zs.map D.str) vs->vs=zs.map V.str
 |[],_,.nil=>rfl
 |z::zs,_,.cons r t=>by cases r;rw[pA t];rfl
def zru {a:Expr}{t:DA}{p1 p2 pos1 pos2:Pos}(hgl:Gl X "len")(hml:X.mg "len"=none)(hgr:Gl X "set")(hmr:X.mg "set"=none)(ha:PAD X [a] t)(hc:autoParam (X.calm=true) zy)(hs:autoParam (starEach [a] X.env=[(false,eval a X.env)]) Nh)(hs3:autoParam (starEach [.Call (.Name "set" p2) [a] [] pos2] X.env=[(false,eval (.Call (.Name "set" p2) [a] [] pos2) X.env)]) zy) :
  PD X (.Call (.Name "len" p1) [.Call (.Name "set" p2) [a] [] pos2] [] pos1) (dB Ol t):=by with_unfolding_all exact(zV (zrX hc hgl hml hgr hmr ha hs hs3) fun U H Q hh=>ZV hh fun aD ρ S Q0 st rh q k =>
  ⟨aD,ρ,S,_,st,rh,q,by rintro ds S1 vs H1 ad1 ⟨x,zs,ed,hx,hl,q1⟩ w1 st1 r1;subst ed;obtain⟨v,rfl,rv⟩:=Xg r1;obtain⟨a1,ws,rfl,hs,rs⟩:=hx.sq st1 rv;cases pA rs;exact⟨a1,zs,rfl,hs,hl,k _ S1 _ H1 ad1 q1 w1 st1 (.int _)⟩⟩)
section
variable {X:Cx}{e:Expr}{t:DA}{p pos kp cp:Pos}{j:Nat}
end
section
variable {X:Cx}{e o value:Expr}{te to tv:DE}{f c:Str}{pos pos':Pos}
def fP (he:PD X e te)(hb:attributeBase e f X.env (eval e X.env)=eval e X.env):PD X (.Attribute e f pos) (X7 f te):=by with_unfolding_all exact(zV (aJ he hb) fun U H Q hh=>ZV hh fun aD ρ S Q0 st rh q k =>
  ⟨aD,ρ,S,_,st,rh,q,by
   rintro x S1 v H1 ad1 ⟨n,c,fs,d,ex,hn,hl,q1⟩ w1 st1 r1;subst ex;cases r1 with
   |ref en =>obtain⟨C,dx,vs,h1,hc,hns,rf,hna⟩:=st1.cell n _ _ en hn;obtain⟨v,hv,rv⟩:=rf.look hl;obtain⟨q2,hq2,e2⟩:=oY hl;exact⟨_,C,dx,vs,v,rfl,h1,hc,e2▸hna q2 hq2,hv,k d S1 v H1 ad1 q1 w1 st1 rv⟩⟩)
def jy (hna:∀ C,PySem.W.nsIn X.K mainGlobals c=some (some (.ref C))->VG X.K C f)(ho:PD X o to)(hv:PD X value tv)(hs:autoParam (swapsWith value (some (.Attribute o f pos')) pos.line X.env=pure false) zy) :
  Zn X (.Assign [.Attribute o f pos'] value pos) (Wf c f to tv):=by with_unfolding_all exact(XS (fj ho hv hs) fun E U H hh=>ZV hh fun aD ρ S E0 so rh q k =>
 ⟨aD,ρ,S,_,so,rh,q,fun y S1 vy H1 ad1 q1 w1 st1 r1=>⟨ad1,ρ,S1,_,st1,rh.wd w1,q1,by
  rintro x S2 vx H2 ad2 ⟨n,fs,ex,hn,hl,q2⟩ w2 st2 r2;subst ex;cases r2 with
  |ref en =>obtain⟨C,dx,vs,h1,hc,hns,rf,hna'⟩:=st2.cell n _ _ en hn;have w3:Wd ad2 H2 ad2 (upd H2 _ (.ins C dx (YF f vy vs))):=Wd.putI en h1;exact⟨_,C,dx,vs,rfl,h1,hc,hna C hns,by rw[<- rf.length];lia,k.nx ρ _ U _ ad2 q2 ((w1.trans w2).trans w3) (st2.putI en h1 hc hns rf hna' (hna C hns) (r1.wd w2)) (((rh.wd w1).wd w2).wd w3)⟩⟩⟩)
omit B in
def Ϝ {K:PySem.W.Frag}{C:Addr}{init:ZX}(hc:Cls K C)(hn:PySem.W.nsIn K mainGlobals c=some (some (.ref C))):∀ vs H Q,Xk K (SN c init) vs H Q E0->∀ x dx,H x=none->H dx=none->dx≠x ->
  Xk K init (.ref x::vs) (upd (upd H dx (.own x)) x (.ins C dx [])) (fun v H2=>v=.non/\Q (.ref x) H2) E0:=by
 rintro vs H Q ⟨aD,S,ds,Q0,st,r,hf,k⟩ x dx hx hdx hne
 letI:Bs:=⟨aD,H⟩
 obtain⟨w,st'⟩:=st.newI (c:=c) hx hdx hne hc hn;have rx:Rel K (aD++[x]) (upd (upd H dx (.own x)) x (.ins C dx [])) (.ref S.length) (.ref x):=.ref (by rw[<- st.len,qe (qh _),Yp];rfl);have hf':init (.ref S.length::ds) (S++[.ins c []]) (fun d S2=>d=.non/\Q0 (.ref S.length) S2):=hf;refine⟨aD++[x],S++[.ins c []],.ref S.length::ds,_,st'.base,.cons rx (r.wd w),hf',fun d S' v H' aD' q w' st2 rv=>?_⟩;obtain⟨rfl,q⟩:=q;cases rv;exact⟨rfl,k _ S' _ H' aD' q (w.trans w') (st'.back st2) (rx.wd w')⟩
def zs9 {k:Nat}{e:Expr}{es:List Expr}{t:DA}{p:Pos}{f:ZX}(G:DR X.prog X.w X.K X.mg X.base k x (Xk X.K f))(hr:zN j X.A)(ha:PAD X (e::es) t)(hk:autoParam (k+1<=j) zR)(hg:autoParam (Gl X x) zy)(hdb:autoParam ((x==("__debug__":Str))=false) zR)(he:autoParam (starEach (e::es) X.env=(false,eval e X.env)::starEach es X.env) Q8)(hpl:autoParam ((backTo pos (starEach es X.env)).any (·.1)=false) Qp) :
  PD X (.Call (.Name x p) (e::es) [] pos) (dCall f t):=by with_unfolding_all exact(zV (Ø G hr hk hg ha hdb he hpl) fun U H Q hh=>ZV hh fun aD ρ S Q0 st rh q k =>
 ⟨aD,ρ,S,_,st,rh,q,fun ds S1 vs H1 ad1 q1 w1 st1 r1=>by show Xk X.K f (vs++[]) H1 Q E0;rw[Xn];exact⟨ad1,S1,ds,Q0,st1.base,r1,q1,(k.wd w1).base st1⟩⟩)
end
end Dp
namespace Dp
open PySem PySem.Spec PyProof.Rows L2 My
def QT (h0 h:Heap)(e:Addr)(cls:Value)(H:Hp):Prop:=h0.get? e=none/\H e=none/\∃ (a0:Value) (oe:Obj) (vs:Array Value) (T:Addr) (oT:Obj) (ts:Array Value),h.get? e=some oe/\(oe.cls=cls/\vs[0]?=some a0)/\oe.data=.fields vs/\vs[1]?=some (.ref T)/\h0.get? T=none/\T≠e/\h.get? T=some oT/\oT.data=.fields ts/\ts[3]?=some .none/\H T=none
def Vq (P:Program)(w:World):V8:=fun outer H s E e s'=>∃ (a C:Addr) (H':Hp),e=.ref a/\s'.os=s.os/\AllBare s'.gens/\Un (frs outer) [] H H' s.heap s'.heap/\ZD P w H' s'.heap/\QT s.heap s'.heap a (.ref C) H'/\E (.ref C) none H'
def V4 (h:Heap)(p:Addr->Bool):Heap:={ h with objs:=h.objs.mapIdx fun i o=>if p i=true then o else { cls:=.none,data:=.freed } }
def KR (h:Heap)(p:Addr->Bool)(b:Addr):(V4 h p).get? b=if p b=true then h.get? b else none:=by
  unfold V4 Heap.get?;dsimp only;rw[Array.getElem?_mapIdx];cases h.objs[b]? with
  |none=>cases p b<;>rfl
  |some o=>cases p b<;>rfl
def pX (h:Heap)(p:Addr->Bool):(V4 h p).StaysIn h:=fun b o e=>by
 rw[KR]at e;split at e
 ·exact e
 ·cases e
theorem GP {h base base':Heap}:∀ {l:List Env},h.FunFrames base l->(∀ L∈frs l,base'.get? L=none)->h.FunFrames base' l
 |[],_,_=>True.intro
 |env::l,⟨h1,⟨L,o,h2,h3,h4,h5⟩,h6⟩,hb=>⟨h1,⟨L,o,h2,hb L (UW.mpr ⟨env,by simp,h2⟩),h4,h5⟩,GP h6 fun L' hL=>hb L' (by obtain⟨e',he,e2⟩:=UW.mp hL;exact UW.mpr ⟨e',qj _ he,e2⟩)⟩
section
variable {X:Cx}{Z9:List (Addr×Obj)}{U:L2.St}{H:Hp}{s:Shared}
def fX (I:Inv X Z9 U H s)(hex:X.ex=[]){b:Addr}{o:Obj}(e:X.s₀.heap.get? b=some o):∃ o',s.heap.get? b=some o':=I.base.there b o e (by rw[hex];simp)
def Nx (I:Inv X Z9 U H s)(hex:X.ex=[]){b:Addr}(e:s.heap.get? b=none):X.s₀.heap.get? b=none:=by
 cases q:X.s₀.heap.get? b with
 |none=>rfl
 |some o=>obtain⟨o',h⟩:=fX I hex q;rw[e]at h;cases h
def Hy (I:Inv X Z9 U H s){b:Addr}(e:s.heap.get? b=none):H b=none:=by
 cases q:H b with
 |none=>rfl
 |some o =>
  have:=(I.hok b o q).lt;exfalso;cases o with
  |lst xs=>obtain⟨_,_,_,_,h⟩:=I.hok b _ q;rw[e]at h;cases h
  |tup xs=>obtain⟨_,_,_,ob,h,_⟩:=I.hok b _ q;rw[e]at h;cases h
  |dK Z8=>obtain⟨_,_,_,_,ob,_,_,h,_⟩:=I.hok b _ q;rw[e]at h;cases h
  |dT Z8=>obtain⟨_,_,_,_,ob,_,_,h,_⟩:=I.hok b _ q;rw[e]at h;cases h
  |dN Z8 ep=>obtain⟨_,_,_,_,ob,_,h,_⟩:=I.hok b _ q;rw[e]at h;cases h
  |set S n=>obtain⟨ob,_,_,_,h,_⟩:=I.hok b _ q;rw[e]at h;cases h
  |ins C dx fs=>obtain⟨_,_,_,h,_⟩:=I.hok b _ q;rw[e]at h;cases h
  |own y=>obtain⟨_,h⟩:=I.hok b _ q;rw[e]at h;cases h
  |xd fs=>obtain⟨_,⟨_,_,_,h,_⟩,_⟩:=I.hok b _ q;rw[e]at h;cases h
  |rng lo hi=>obtain⟨_,_,_,h⟩:=I.hok b _ q;rw[e]at h;cases h
  |frz ob u=>obtain⟨h,_⟩:=I.hok b _ q;rw[e]at h;cases h
  |tbl ps=>have h:s.heap.get? b=some _:=I.hok b _ q;rw[e]at h;cases h
  |met f y=>have h:s.heap.get? b=some _:=I.hok b _ q;rw[e]at h;cases h
  |ext φ=>obtain⟨_,⟨_,h⟩,_⟩:=I.hok b _ q;rw[e]at h;cases h
def wY (I:Inv X Z9 U H s)(hex:X.ex=[])(hst:X.stack=X.env::X.outer)(hfr:X.env.frame=some X.env.locals){e T0:Addr}{h':Heap}(he:X.s₀.heap.get? e=none)(hT:X.s₀.heap.get? T0=none)(He:H e=none)(HT:H T0=none)
  (hk:∀ b o,s.heap.get? b=some o->b≠e->b≠T0->b∉frs X.stack->h'.get? b=some o) (hs:∀ b∈frs X.stack,∀ o,s.heap.get? b=some o->∃ sl,h'.get? b=some { o with slots:=sl }) :
  Un X.fs [] X.H₀ H X.s₀.heap h'/\ZD X.prog X.w H h':=by
 have nfr:∀ {b:Addr} {o:Obj},X.s₀.heap.get? b=some o->b∉X.fs->b∉frs X.stack:=fun {b o} q n m=>by
  rw[hst]at m;obtain⟨e',h1,h2⟩:=UW.mp m;rcases ql.mp h1 with rfl|h1
  ·rw[hfr]at h2;cases h2;exact absurd (qC q) (Nat.not_lt.mpr I.ok.above)
  ·exact n (UW.mpr ⟨e',h1,h2⟩)
 have sub:∀ {b:Addr},b∈X.fs->b∈frs X.stack:=fun {b} m=>by obtain⟨e',h1,h2⟩:=UW.mp m;rw[hst];exact UW.mpr ⟨e',qj _ h1,h2⟩
 have nex:∀ b:Addr,b∉X.ex:=fun b=>by rw[hex];simp
 have ne:∀ {b:Addr} {o:Obj},X.s₀.heap.get? b=some o->b≠e/\b≠T0:=fun {b o} q=>⟨fun z=>(by rw[z,he]at q;cases q),fun z=>(by rw[z,hT]at q;cases q)⟩
 have ub:=I.base;refine⟨⟨fun b o q n m _=>?_,fun b o q n m _=>?_,fun b o q n _=>ub.free b o q n (nex b),fun b o q _=>?_,ub.tups,ub.frzs,ub.tbls⟩,fun a o q=>?_⟩
 ·exact hk b o (ub.keep b o q n m (nex b)) (ne q).1 (ne q).2 (nfr q m)
 ·obtain⟨sl,h1⟩:=ub.slot b o q n m (nex b);obtain⟨sl',h2⟩:=hs b (sub m) _ h1;exact⟨sl',h2⟩
 ·obtain⟨o',h1⟩:=ub.there b o q (nex b);by_cases m:b∈frs X.stack
  ·obtain⟨sl,h2⟩:=hs b m o' h1;exact⟨_,h2⟩
  ·exact⟨o',hk b o' h1 (ne q).1 (ne q).2 m⟩
 ·have inn:∀ {b:Addr},H b≠none->b≠e/\b≠T0/\b∉frs X.stack:=fun {b} n=>⟨fun z=>n (by rw[z];exact He),fun z=>n (by rw[z];exact HT),fun z=>n (I.stkFree b z)⟩
  refine(I.hok a o q).stay (fun b u hb r=>?_) (fun _ r=>r) fun _ _ r=>r
  have n:H b≠none:=by
   rcases hb with rfl|hb
   ·rw[q];exact Option.some_ne_none _
   ·rw[hb];exact Option.some_ne_none _
  obtain⟨n1,n2,n3⟩:=inn n;exact hk b u r n1 n2 n3
def zmt (I:Inv X Z9 U H s)(hex:X.ex=[])(hst:X.stack=X.env::X.outer)(hfr:X.env.frame=some X.env.locals){e C:Addr}{E:Value->Shared->Prop}{Q:Unit->Shared->Prop}(F:QT X.s₀.heap s.heap e (.ref C) H)
  (hQ:∀ s':Shared,s'.os=X.s₀.os->AllBare s'.gens->Un X.fs [] X.H₀ H X.s₀.heap s'.heap->ZD X.prog X.w H s'.heap->QT X.s₀.heap s'.heap e (.ref C) H->Q () s'):wpAny (model X.prog X.w) X.A (leaving X.env (.ref e)) Q E s:=by
 obtain⟨he,He,a0,oe,vs,T,oT,ts,f1,f2,f3,f4,f5,f6,f7,f8,f9,HT⟩:=F;have ff:s.heap.FunFrames X.base X.stack:=I.stack;obtain⟨p,hp⟩:∃ p:Addr->Bool,∀ b,p b=true↔b≠e/\b≠T/\b∉frs X.stack:=⟨fun b=>decide (b≠e/\b≠T/\b∉frs X.stack),fun b=>decide_eq_true_iff⟩
 have mno:∀ {b:Addr},¬ (b≠e/\b≠T/\b∉frs X.stack)->(V4 s.heap p).get? b=none:=fun {b} n=>by rw[KR,if_neg (fun z=>n ((hp b).mp z))]
 have myes:∀ {b:Addr} {o:Obj},s.heap.get? b=some o->b≠e->b≠T->b∉frs X.stack->(V4 s.heap p).get? b=some o:=fun {b o} q n1 n2 n3=>by rw[KR,if_pos ((hp b).mpr ⟨n1,n2,n3⟩)];exact q
 have fb:s.heap.FunFrames (V4 s.heap p) X.stack:=GP ff fun L hL=>mno fun z=>z.2.2 hL
 have fl:Heap.FlyingW (V4 s.heap p) X.stack e (.ref C) a0 s.heap:=⟨pX _ _,mno fun z=>z.1 rfl,fb,oe,vs,T,oT,ts,f1,f2,f3,f4,mno fun z=>z.2.1 rfl,f6,f7,f8,f9⟩
 have fr:=I.ok.frames;rw[hst]at fr;rw[hst]at fl;refine wpAny_leaves_onW fr hfr fl fun h' ⟨k1,k2,k3,oe',vs',T',oT',ts',g1,g2,g3,g4,g5,g6,g7,g8,g9⟩ us=>?_
 have hs:∀ b∈frs X.stack,∀ o,s.heap.get? b=some o->∃ sl,h'.get? b=some { o with slots:=sl }:=fun b hb o q=>by obtain⟨_,o',h1,h2⟩:=ff.mem hb;rw[q]at h1;cases h1;exact us b o q h2
 have hk:∀ b o,s.heap.get? b=some o->b≠e->b≠T->b∉frs X.stack->h'.get? b=some o:=fun b o q n1 n2 n3=>k1 b o (myes q n1 n2 n3)
 obtain⟨u1,u2⟩:=wY I hex hst hfr he f5 He HT hk hs
 have nT:X.s₀.heap.get? T'=none/\H T'=none:=by
  by_cases z1:T'=T
  ·rw[z1];exact⟨f5,HT⟩
  ·by_cases z2:T'∈frs X.stack
   ·exfalso;obtain⟨_,o',h1,h2⟩:=ff.mem z2;obtain⟨sl,h3⟩:=hs T' z2 o' h1;rw[g7]at h3;cases h3;exact h2 ts' g8
   ·have:s.heap.get? T'=none:=by
     cases q:s.heap.get? T' with
     |none=>rfl
     |some o=>rw[myes q g6 z1 z2]at g5;cases g5
    exact⟨Nx I hex this,Hy I this⟩
 exact hQ _ I.os I.bare u1 u2 ⟨he,He,a0,oe',vs',T',oT',ts',g1,g2,g3,g4,nT.1,g6,g7,g8,g9,nT.2⟩
def fV (I:Inv X Z9 U H s)(hex:X.ex=[])(hst:X.stack=X.env::X.outer)(hfr:X.env.frame=some X.env.locals){e C:Addr}{args:List Value}{h1:Heap}{E:Value->Shared->Prop}{Q:Unit->Shared->Prop}(hx:s.heap.MadeExcOf h1 e (.ref C) args)
  (hQ:∀ s':Shared,s'.os=X.s₀.os->AllBare s'.gens->Un X.fs [] X.H₀ H X.s₀.heap s'.heap->ZD X.prog X.w H s'.heap->QT X.s₀.heap s'.heap e (.ref C) H->Q () s'):wpAny (model X.prog X.w) X.A (leaving X.env (.ref e)) Q E { s with heap:=h1 }:=by
 have ff:s.heap.FunFrames X.base X.stack:=I.stack;obtain⟨p,hp⟩:∃ p:Addr->Bool,∀ b,p b=true↔b∉frs X.stack:=⟨fun b=>decide (b∉frs X.stack),fun b=>decide_eq_true_iff⟩
 have mno:∀ {b:Addr},b∈frs X.stack->(V4 s.heap p).get? b=none:=fun {b} n=>by rw[KR,if_neg (fun z=>(hp b).mp z n)]
 have myes:∀ {b:Addr} {o:Obj},s.heap.get? b=some o->b∉frs X.stack->(V4 s.heap p).get? b=some o:=fun {b o} q n3=>by rw[KR,if_pos ((hp b).mpr n3)];exact q
 have fb:s.heap.FunFrames (V4 s.heap p) X.stack:=GP ff fun L hL=>mno hL
 have fr:=I.ok.frames;rw[hst]at fr;rw[hst]at fb;refine wpAny_leaves_madeW (base:=V4 s.heap p) (h:=s.heap) fr hfr (pX _ _) fb hx fun h' t ⟨k1,k2,k3,oe',vs',T',oT',ts',g1,g2,g3,g4,g5,g6,g7,g8,g9⟩ _ _ us=>?_
 have us':s.heap.UpToSlots h':=fun b o q n=>us b o (hx.keeps b o q) n
 have hs:∀ b∈frs X.stack,∀ o,s.heap.get? b=some o->∃ sl,h'.get? b=some { o with slots:=sl }:=fun b hb o q=>by obtain⟨_,o',h1,h2⟩:=ff.mem hb;rw[q]at h1;cases h1;exact us' b o q h2
 have hk:∀ b o,s.heap.get? b=some o->b≠e->b≠e->b∉frs X.stack->h'.get? b=some o:=fun b o q _ _ n3=>k1 b o (myes q n3)
 have he:=Nx I hex hx.new;have He:=Hy I hx.new;obtain⟨u1,u2⟩:=wY I hex hst hfr he he He He hk hs
 have nT:X.s₀.heap.get? T'=none/\H T'=none:=by
  by_cases z2:T'∈frs X.stack
  ·exfalso;obtain⟨_,o',h1,h2⟩:=ff.mem z2;obtain⟨sl,h3⟩:=hs T' z2 o' h1;rw[g7]at h3;cases h3;exact h2 ts' g8
  ·have:s.heap.get? T'=none:=by
    cases q:s.heap.get? T' with
    |none=>rfl
    |some o=>rw[myes q z2]at g5;cases g5
   exact⟨Nx I hex this,Hy I this⟩
 exact hQ _ I.os I.bare u1 u2 ⟨he,He,_,oe',vs',T',oT',ts',g1,g2,g3,g4,nT.1,g6,g7,g8,g9,nT.2⟩
end
def Uz (K:PySem.W.Frag)(f:Yo):Sp:=fun vs H Q E=>∃ aD S ds Q0 X0,@zp ⟨aD,H⟩ K aD H S/\zj K aD H ds vs/\f ds S Q0 X0/\@KK ⟨aD,H⟩ K aD H Q0 Q /\
 ∀ (c:Str) (C:Addr) (S':Z7) (aD':List Addr) (H':Hp),X0 c S'->@zp ⟨aD,H⟩ K aD' H' S'->PySem.W.nsIn K mainGlobals c=some (some (.ref C))->E (.ref C) none H'
structure tu (P:Program)(w:World)(K:PySem.W.Frag)(mg:Str->Option Value)(base:Heap)(k:Nat)(x:Str)(ps:List Str)(sp:Sp):Prop where
 ex:∃ f fd,YK P w K mg base (Vq P w) k f fd ps sp/\Binds K fd ps []/\PySem.W.keepIn K (.ref f)=true/\mg x=some (.ref f)
def Mj [B:Bs](X:Cx)(ex:XR):Prop:=∀ (Z9:List (Addr×Obj)) (U:L2.St) (H:Hp) (s s':Shared) (aD aD':List Addr) (ρ:Z1) (S S':Z7) (c:Str) (C a:Addr) (H':Hp),Inv X Z9 U H s->zp X.K aD H S->Zb X.K aD H ρ U->ex ρ c S'->zp X.K aD' H' S'->Wd aD H aD' H' ->
 PySem.W.nsIn X.K mainGlobals c=some (some (.ref C))->s'.os=s.os->AllBare s'.gens->Un (frs X.stack) [] H H' s.heap s'.heap->ZD X.prog X.w H' s'.heap->QT s.heap s'.heap a (.ref C) H'->X.xe (.ref a) s'
def Hr [B:Bs](X:Cx)(ex:XR):Prop:=∀ (Z9:List (Addr×Obj)) (U:L2.St) (H:Hp) (s:Shared) (aD:List Addr) (ρ:Z1) (S:Z7) (c:Str) (C e:Addr) (args:List Value) (h1:Heap),Inv X Z9 U H s->zp X.K aD H S->Zb X.K aD H ρ U->ex ρ c S ->
 PySem.W.nsIn X.K mainGlobals c=some (some (.ref C))->s.heap.MadeExcOf h1 e (.ref C) args->X.xe (.ref e) { s with heap:=h1 }
section
variable [B:Bs]{X:Cx}
def zof {k:Nat}{f:Yo}{p pos:Pos}{e:Expr}{es:List Expr}{t:DA}(G:tu X.prog X.w X.K X.mg X.base k x ps (Uz X.K f))(hX:Mj X ex)(hr:zN j X.A)(ha:PAD X (e::es) t)(hk:autoParam (k<=j) zR)(hg:autoParam (Gl X x) zy)(hdb:autoParam ((x==("__debug__":Str))=false) zR)(he:autoParam (starEach (e::es) X.env=(false,eval e X.env)::starEach es X.env) Q8)(hpl:autoParam ((backTo pos (starEach es X.env)).any (·.1)=false) Qp) :
  PD X (.Call (.Name x p) (e::es) [] pos) (Ym f ex t):=by
 with_unfolding_all
  intro Z9 s U H Q I h;obtain⟨aD,ρ,S,Q0,st,rh,q,kk⟩:=h;obtain⟨fa,fd,F,b,kp,m⟩:=G.ex;have F:=F.mono hk;refine wpAny_Call_Name_kw (Ql I hg m ?_ hdb);have hA:=ha pos Z9 s U H (fun vs H1=>∃ ds S1 ad1,f ds S1 Q0 (ex ρ)/\Wd aD H ad1 H1/\zp X.K ad1 H1 S1/\zj X.K ad1 H1 ds vs) I ⟨aD,ρ,S,_,st,rh,q,fun ds S1 vs H1 ad1 q1 w1 st1 r1=>⟨ds,S1,ad1,q1,w1,st1,r1⟩⟩;refine PySem.W.callWith_K (h₀:=X.base) I.ok.mod.kin kp (Z2 hA fun us s1 ⟨vs,H1,I1,r,q1⟩=>⟨I1.kIn,?_⟩) he hpl;obtain⟨ds,S1,ad1,q1,w1,st1,r1⟩:=q1
  have hsp:Uz X.K f vs H1 Q (fun cls _ H'=>∃ c C S' aD',cls=Value.ref C/\ex ρ c S'/\zp X.K aD' H' S'/\Wd ad1 H1 aD' H'/\PySem.W.nsIn X.K mainGlobals c=some (some (.ref C))) :=⟨ad1,S1,ds,Q0,ex ρ,st1.base,r1,q1,(kk.wd w1).base st1,fun c C S' aD' H' hx st' hn=>⟨c,C,S',aD',rfl,hx,st1.back st',@zp.wd ⟨ad1,H1⟩ _ _ _ _ st',hn⟩⟩
  have hl:us.length=ps.length:=by rw[<- r.length];exact F.len _ _ _ _ hsp
  refine wpAny_call (codeAny_mono (F.run X.A X.stack s1 H1 ⟨us,[]⟩ us vs Q _ hr I1.env0 (by have:=b s1 us I1.kIn (by rw[Xn];exact hl);rwa[Xn]at this) r hsp) fun res s' hq=>?_);cases res with
  |error e =>obtain⟨a,C,H',rfl,os,bare,un,hok,fly,c,C',S',aD',hC,hx,st',wd',hn⟩:=hq;cases hC;exact hX Z9 U H1 s1 s' ad1 aD' ρ S1 S' c C a H' I1 st1 (rh.wd w1) hx st' wd' hn os bare un hok fly
  |ok fl =>
   cases fl with
   |ret u=>exact I1.after hq
   |next=>exact False.elim hq
   |brk=>exact False.elim hq
   |cont=>exact False.elim hq
def HD:Mj X xF:=fun _ _ _ _ _ _ _ _ _ _ _ _ _ _ _ _ _ h=>h.elim
structure MP (K:PySem.W.Frag)(C:Addr):Prop where
 ex:∃ nm q N bs bm hdct sn sub ab col dd k0 k1 k2 k3 k5,K.lookup C=some (excClassObj nm q C N bs bm hdct sn sub ab col dd k0 k1 k2 k3 k5 "ValueError.__new__")/\PySem.W.nsOkIn K N=true/\PySem.W.nsIn K N "__init__"=some none /\
  PySem.W.tailIn K [.type "ValueError",.type "Exception",.type "BaseException",.type "object"] bm=true
def jx {x:Str}{np cpos pos:Pos}{e:Expr}{t:DA}(hX:Hr X ex)(hc:X.calm=true)(hC:∀ C,PySem.W.nsIn X.K mainGlobals x=some (some (.ref C))->MP X.K C)(hx:∃ C,PySem.W.nsIn X.K mainGlobals x=some (some (.ref C))/\X.mg x=some (.ref C))(hg:Gl X x)(ha:PAD X [e] t)(ht:∀ ρ S Q,(∀ d,Q [d] S)->t ρ S Q)(hdb:autoParam ((x==("__debug__":Str))=false) zR)(he:autoParam (starEach [e] X.env=(false,eval e X.env)::starEach [] X.env) zy) :
  Zn X (.Raise (some (.Call (.Name x np) [e] [] cpos)) none pos) (Tt ex x):=by
 with_unfolding_all
  intro Z9 s U H D I h;obtain⟨aD,ρ,S,E0,st,rh,q,k⟩:=h;obtain⟨C,hn,hm⟩:=hx;obtain⟨nm,qn,N,bs,bm,hdct,sn,sub,ab,col,dd,k0,k1,k2,k3,k5,lk,no,ni,tl⟩:=(hC C hn).ex;have kin:=I.kIn;have T:=PySem.W.tail_of_in kin tl;have hv:=ha cpos Z9 s U H (fun vs H1=>vs.length=1/\∃ ad1,Wd aD H ad1 H1/\zp X.K ad1 H1 S) I ⟨aD,ρ,S,fun ds S'=>ds.length=1/\S'=S,st,rh,ht _ _ _ (fun d=>⟨rfl,rfl⟩),fun ds S' vs H' aD' e' w' st' r'=>⟨by rw[<- r'.length];exact e'.1,aD',w',e'.2▸st'⟩⟩;refine wpAny_Raise_call_subT (C:=C) (nm:=nm) (q:=qn) (N:=N) (bs:=bs) (bm:=bm) (hdct:=hdct) (sn:=sn) (sub:=sub) (ab:=ab) (col:=col) (dd:=dd) (k0:=k0) (k1:=k1) (k2:=k2) (k3:=k3) (k5:=k5) PySem.F.excBase_ValueError (T.hasType PySem.F.excBase_ValueError.hasBase) (I.ok.hd hc) (by rw[he];rfl) (PySem.W.nsMap_none_of_in I.ok.mod.kin no ni) (Ql I hg hm ⟨rfl,?_⟩ hdb);rw[he]at hv ⊢;refine Calls.evalArgs_plain (wpAny_mono hv (fun us s1 hq=>?_) fun _ _ y=>y);obtain⟨vs,H1,I1,r,hl,ad1,w1,st1⟩:=hq;have k1':=I1.kIn;have hlen:us.length<=sizeLine:=by rw[<- r.length,hl];decide
  exact⟨rfl,hlen,k1' _ _ lk,(Heap.Ns.of_isNs (PySem.W.isNs_of_in I.ok.mod.kin no)).keeps I1.bk,PySem.W.tail_of_in k1' tl,fun h' e' hx=>hX Z9 U H1 s1 ad1 ρ S x C e' us h' I1 st1 (rh.wd w1) q hn hx⟩
abbrev Ti (X:Cx):Cx:={ X with xe:=fun _ _=>False }
omit B in
def n8 (I:Inv X Z9 U H s):Inv (Ti X) Z9 U H s :=⟨⟨I.ok.mod,I.ok.kind,I.ok.glob,I.ok.blt,I.ok.above,I.ok.inj,I.ok.has,I.ok.cab,I.ok.hd,I.ok.frames,I.ok.stk,I.ok.exf,I.ok.bs,I.ok.bsz,I.ok.noex,I.ok.exfs,I.ok.funs,I.ok.frf⟩,I.os,I.bare,I.base,I.loc,I.cell,I.free,I.freeC,I.pin,I.hok,I.len⟩
omit B in
def M5 (I:Inv (Ti X) Z9 U H s):Inv X Z9 U H s :=⟨⟨I.ok.mod,I.ok.kind,I.ok.glob,I.ok.blt,I.ok.above,I.ok.inj,I.ok.has,I.ok.cab,I.ok.hd,I.ok.frames,I.ok.stk,I.ok.exf,I.ok.bs,I.ok.bsz,I.ok.noex,I.ok.exfs,I.ok.funs,I.ok.frf⟩,I.os,I.bare,I.base,I.loc,I.cell,I.free,I.freeC,I.pin,I.hok,I.len⟩
def uc {e:Expr}{t:DE}(h:PD (Ti X) e t):PD X e t:=by with_unfolding_all exact(fun Z9 s U H Q I q =>wpAny_mono (h Z9 s U H Q (n8 I) q) (by rintro v s1 ⟨x,H1,I1,r⟩;exact⟨x,H1,M5 I1,r⟩) fun _ _ z=>z.elim)
def Δ {st:Stmt}{t:DS}(h:Zn (Ti X) st t):Zn X st t:=by with_unfolding_all exact(fun Z9 s U H D I q =>
 wpAny_mono (h Z9 s U H D (n8 I) q) (fun f s1 hf=>by
  cases f with
  |next=>obtain⟨σ',H',I',q'⟩:=hf;exact⟨σ',H',M5 I',q'⟩
  |brk=>obtain⟨σ',H',I',q'⟩:=hf;exact⟨σ',H',M5 I',q'⟩
  |cont=>obtain⟨σ',H',I',q'⟩:=hf;exact⟨σ',H',M5 I',q'⟩
  |ret u=>obtain⟨v,σ',H',I',r,q'⟩:=hf;exact⟨v,σ',H',M5 I',r,q'⟩) fun _ _ z=>z.elim)
structure yg (P:Program)(w:World)(K:PySem.W.Frag)(mg:Str->Option Value)(base:Heap)(k:Nat)(x c:Str)(init:Yo):Prop where
 ex:∃ (C f:Addr) (fd:FuncData) (ps:List Str),Mk K C f/\YK P w K mg base (Vq P w) k f fd ps (Uz K init)/\Binds K fd ps []/\mg x=some (.ref C)/\Cls K C/\PySem.W.nsIn K mainGlobals c=some (some (.ref C))
def ϣ {k:Nat}{p pos:Pos}{e:Expr}{es:List Expr}{t:DA}(G:yg X.prog X.w X.K X.mg X.base k x c init)(hX:Mj X ex)(hr:zN j X.A)(ha:PAD X (e::es) t)(hk:autoParam (k+1<=j) zR)(hg:autoParam (Gl X x) zy)(hdb:autoParam ((x==("__debug__":Str))=false) zR)(he:autoParam (starEach (e::es) X.env=(false,eval e X.env)::starEach es X.env) Q8)(hpl:autoParam ((backTo pos (starEach es X.env)).any (·.1)=false) Qp) :
  PD X (.Call (.Name x p) (e::es) [] pos) (Ym (Dn c init) ex t):=by
 with_unfolding_all
  intro Z9 s U H Q I h;obtain⟨aD,ρ,S,Q0,st,rh,q,kk⟩:=h;obtain⟨C,fa,fd,ps,M,F,b,m,hcl,hcn⟩:=G.ex;have hr':=hr.mono hk;refine wpAny_Call_Name_kw (Ql I hg m ?_ hdb);have hA:=ha pos Z9 s U H (fun vs H1=>∃ ds S1 ad1,Dn c init ds S1 Q0 (ex ρ)/\Wd aD H ad1 H1/\zp X.K ad1 H1 S1/\zj X.K ad1 H1 ds vs) I ⟨aD,ρ,S,_,st,rh,q,fun ds S1 vs H1 ad1 q1 w1 st1 r1=>⟨ds,S1,ad1,q1,w1,st1,r1⟩⟩;refine PySem.W.callWith_K (h₀:=X.base) I.ok.mod.kin M.kp (Z2 hA fun us s1 ⟨vs,H1,I1,r,q1⟩=>⟨I1.kIn,?_⟩) he hpl;obtain⟨ds,S1,ad1,q1,w1,st1,r1⟩:=q1;have f1:H1 (s1.heap.objs.size+1)=none:=I1.hok.fresh (Nat.le_succ _);have f2:H1 s1.heap.objs.size=none:=I1.hok.fresh (qh _);have f3:s1.heap.objs.size≠s1.heap.objs.size+1:=qV (La _);obtain⟨w2,st2⟩:=st1.newI (c:=c) f1 f2 f3 hcl hcn;have I2:=Inv.made (C:=C) I1;generalize hx0:s1.heap.objs.size+1=x0 at *;generalize hH2:upd (upd H1 s1.heap.objs.size (.own x0)) x0 (.ins C s1.heap.objs.size [])=H2 at *;have rx:Rel X.K (ad1++[x0]) H2 (.ref S1.length) (.ref x0):=.ref (by rw[<- st1.len,qe (qh _),Yp];rfl);have q2:init (.ref S1.length::ds) (S1++[.ins c []]) (fun d S2=>d=.non/\Q0 (.ref S1.length) S2) (ex ρ):=q1
  have hsp:Uz X.K init (.ref x0::vs) H2 (fun v H3=>v=.non/\Q (.ref x0) H3) (fun cls _ H'=>∃ c C S' aD',cls=Value.ref C/\ex ρ c S'/\zp X.K aD' H' S'/\Wd (ad1++[x0]) H2 aD' H'/\PySem.W.nsIn X.K mainGlobals c=some (some (.ref C))) :=
   ⟨ad1++[x0],S1++[.ins c []],.ref S1.length::ds,_,ex ρ,st2.base,.cons rx (r1.wd w2),q2,fun d S' v H' aD' hq w' st' rv=>by obtain⟨rfl,hq⟩:=hq;cases rv;exact⟨rfl,kk _ S' _ H' aD' hq ((w1.trans w2).trans w') (st2.back st') (rx.wd w')⟩,fun c C S' aD' H' hx st' hn=>⟨c,C,S',aD',rfl,hx,st2.back st',@zp.wd ⟨ad1++[x0],H2⟩ _ _ _ _ st',hn⟩⟩
  have r2:Vals (V.ref x0::vs) (Value.ref x0::us):=.cons rfl r;have hl:(Value.ref x0::us).length=ps.length:=by rw[<- r2.length];exact F.len _ _ _ _ hsp
  have hb:=b _ (Value.ref x0::us) I2.kIn (by rw[Xn];exact hl);rw[Xn]at hb;subst hx0
  refine wpAny_call (vD (f:=fa) I1.kIn M.makes M.init (beq_iff_eq.mp M.fn) (codeAny_mono (F.run _ X.stack _ H2 ⟨Value.ref (s1.heap.objs.size+1)::us,[]⟩ (Value.ref (s1.heap.objs.size+1)::us) _ _ _ (hr'.make C us [])
   (I2.env0.make C us []) hb r2 hsp) fun res s' hq=>?_))
  cases res with
  |error e =>obtain⟨a,C',H',rfl,os,bare,un,hok,fly,c',C'',S',aD',hC,hx,st',wd',hn⟩:=hq;cases hC;exact hX Z9 U H2 _ s' (ad1++[s1.heap.objs.size+1]) aD' ρ (S1++[.ins c []]) S' c' C' a H' I2 st2 ((rh.wd w1).wd w2) hx st' wd' hn os bare un hok fly
  |ok fl =>
   cases fl with
   |ret u =>obtain⟨v,H',I3,rv,ev,q3⟩:=I2.after hq;subst ev;exact⟨rv,⟨V.ref (s1.heap.objs.size+1),H',I3,rfl,q3⟩⟩
   |next=>exact False.elim hq
   |brk=>exact False.elim hq
   |cont=>exact False.elim hq
omit B in
def zpt {P:Program}{w:World}{K:PySem.W.Frag}{mg:Str->Option Value}{base:Heap}{st:Stmt}{k:Nat}{sp:Yo}(F:W9 K x qual st f fd)(S:Ph N ps (zK st))(len:∀ ds So Q ex,sp ds So Q ex->ds.length=ps.length)(body:Vt N.length b sp)(term:∀ (cdv:Value) (A:Around) (outer:List Env) (s:Shared) (H:Hp) (E:XK),zN k (A.deeper (envOfC qual (zK st) s.heap.objs.size f cdv))->∀ [Bs] (ex:XR),Mj (Vr (Vq P w) P w K mg base N qual (zK st) f cdv A outer s H E) ex->Hr (Vr (Vq P w) P w K mg base N qual (zK st) f cdv A outer s H E) ex->W5 (Vr (Vq P w) P w K mg base N qual (zK st) f cdv A outer s H E) (XH st) (b ex)) :
  YK P w K mg base (Vq P w) (k+1) f fd ps (Uz K sp):=by
 with_unfolding_all
  obtain⟨oc,od,kV,doc,pm,an,cdv,ct,osl,rfl,lk,hcd⟩:=F.ex;refine uq lk hcd S (by rintro vs H Q E ⟨aD,So,ds,Q0,X0,so,r,hf,kk,kx⟩;exact by rw[<- r.length];exact len ds So Q0 X0 hf) fun A outer s H vs Q E hr ⟨aD,So,ds,Q0,X0,so,r,hf,kk,kx⟩=>?_
  letI:Bs:=⟨aD,H⟩
  have end1:∀ (c:Str) (C a:Addr) (S':Z7) (aD':List Addr) (H':Hp) (s':Shared),X0 c S'->zp K aD' H' S'->PySem.W.nsIn K mainGlobals c=some (some (.ref C))->s'.os=s.os->AllBare s'.gens->Un (frs outer) [] H H' s.heap s'.heap->ZD P w H' s'.heap->QT s.heap s'.heap a (.ref C) H'->Vq P w outer H s E (.ref a) s' :=fun c C a S' aD' H' s' hx st' hn o1 o2 o3 o4 o5=>⟨a,C,H',rfl,o1,o2,o3,o4,o5,kx c C S' aD' H' hx st' hn⟩
  refine⟨_,term cdv A outer s H E hr (fun _=>X0) ?_ ?_,aD,SJ N.length ds,So,_,so,yr N r,body ds So Q0 X0 hf,⟨fun ρ S' U H' aD' q w' st' rh=>JZ so kk .non S' .non H' aD' q w' st' .non,JZ so kk,fun _ _ _ _ _ q=>q.elim,fun _ _ _ _ _ q=>q.elim⟩⟩
  ·intro Z9 U H1 s1 s' ad1 aD' ρ S1 S' c C a H' I st1 rh hx st' wd' hn os bare un hok fly;have I':=I.call' (ch:=[]) os un hok bare (fun b z=>absurd z (by simp))
   have f0:QT s.heap s'.heap a (.ref C) H':=by obtain⟨g1,g2,a0,oe,vs,T,oT,ts,h1,h2,h3,h4,h5,h6⟩:=fly;exact⟨Nx I rfl g1,g2,a0,oe,vs,T,oT,ts,h1,h2,h3,h4,Nx I rfl h5,h6⟩
   exact zmt I' rfl rfl rfl f0 fun s'' o1 o2 o3 o4 o5=>end1 c C a S' aD' H' s'' hx st' hn o1 o2 o3 o4 o5
  ·intro Z9 U H1 s1 ad1 ρ S1 c C e args h1 I st1 rh hx hn hmade;exact fV I rfl rfl rfl hmade fun s'' o1 o2 o3 o4 o5=>end1 c C e S1 ad1 H1 s'' hx st1 hn o1 o2 o3 o4 o5
end
section
variable {X:Cx}{Z9:List (Addr×Obj)}{U:L2.St}{H H':Hp}{s s':Shared}
variable [B:Bs]
end
section
open PySem.W PySem.Builtin PySem.Builtin.ObjectAttr PySem.Builtin.Getset_descriptor
variable {prog:Program}{w:World}{A:Around}{E:Value->Shared->Prop}{s:Shared}{K:Frag}{x C:Addr}{o:Obj}
end
section
variable [B:Bs]{X:Cx}
end
def wU (K:PySem.W.Frag)(C:Addr)(sl:List (Option Value)):PySem.Data->Bool
 | .cls cd=>cd.mro.head?==some (.ref C)&&!cd.hasDel&&sl.length==6&&sl[4]?==some (some (.builtin "ValueError.__new__"))&&PySem.W.nsOkIn K cd.ns&&PySem.W.nsIn K cd.ns "__init__"==some none&&PySem.W.tailIn K [.type "ValueError",.type "Exception",.type "BaseException",.type "object"] cd.mro.tail
 |_=>false
def Km (K:PySem.W.Frag)(C:Addr):Bool:=(K.lookup C).any fun o=>o.cls==.type "type"&&wU K C o.slots.toList o.data
def MP.of {K:PySem.W.Frag}{C:Addr}(q:Km K C=true):MP K C:=by
 unfold Km at q;cases ho:K.lookup C with
 |none=>rw[ho]at q;cases q
 |some o =>
  rw[ho]at q;obtain⟨c,dd,d,⟨sl⟩⟩:=o;have q':(c==.type "type"&&wU K C sl d)=true:=q;rw[qw,beq_iff_eq]at q';obtain⟨rfl,q⟩:=q';cases d with
  |cls cd =>
   obtain⟨nm,bs,mro,ns,qn,hd,sn,sub,ab,col,del⟩:=cd;have q':(mro.head?==some (.ref C)&&!del&&sl.length==6&&sl[4]?==some (some (.builtin "ValueError.__new__"))&&PySem.W.nsOkIn K ns&&PySem.W.nsIn K ns "__init__"==some none&&PySem.W.tailIn K [.type "ValueError",.type "Exception",.type "BaseException",.type "object"] mro.tail)=true:=q;simp only[qw,beq_iff_eq,Bool.not_eq_true']at q';obtain⟨⟨⟨⟨⟨⟨e1,rfl⟩,e2⟩,e3⟩,h1⟩,h2⟩,h3⟩:=q';cases mro with
   |nil=>cases e1
   |cons m bm =>cases e1;obtain⟨k0,k1,k2,k3,k4,k5,rfl⟩:=ā e2;cases e3;exact⟨nm,qn,ns,bs,bm,hd,sn,sub,ab,col,dd,k0,k1,k2,k3,k5,ho,h1,h2,h3⟩
  |_=>cases q
section
variable {X:Cx}[B:Bs]
def ä:MD X "list.pop" Js:=⟨_,lZ,by
 rintro aD H S x ds v vs Q0 Q st rx r ⟨n,xs,y,ex,ey,hn,q⟩ k;subst ex ey;obtain⟨u,rfl,ru⟩:=Xg r;cases ru;cases rx with
 |ref e =>
  obtain⟨ws,hw,rw⟩:=st.cell n _ _ e hn;cases rw with
  |@cons _ w _ ws' rw1 rw2 =>have w':=Wd.put (ws:=ws') e hw;exact⟨_,w::ws',0,0,w,rfl,rfl,hw,by decide,by decide,by unfold seqIndex?;simp,rfl,k _ _ _ _ aD q w' (st.put e hw rw2) (rw1.wd w')⟩⟩
end
section
variable {K:PySem.W.Frag}{aD:List Addr}{H:Hp}{S:Z7}[B:Bs]
omit B in
theorem RelK.val:∀ {fs:List (Str×D)} {vs:List (Key×V)} (z:Str),RelK K aD H fs vs->(dval fs z=none/\L2.Yw vs (Sum.inr z:Key)=none)\/∃ d v,dval fs z=some d/\L2.Yw vs (Sum.inr z:Key)=some v/\Rel K aD H d v
 |_,_,z,.nil=>.inl ⟨rfl,L2.u6⟩
 |_,_,z,@RelK.cons _ _ _ x d v fs vs r t=>by
  by_cases h:x=z
  ·exact .inr ⟨d,v,by rw[Wi,if_pos h],by rw[L2.Qu (by rw[h])],r⟩
  ·have h':¬ (Sum.inr x:Key)=Sum.inr z:=fun e=>h (Sum.inr.inj e)
   rw[Wi,if_neg h,L2.Qk h'];exact RelK.val z t
omit B in
theorem zU.val {κ:Type}[DecidableEq κ]:∀ {fs:List (κ×D)} {vs:List (κ×V)} (z:κ),zU K aD H fs vs->(dval fs z=none/\L2.Yw vs z=none)\/∃ d v,dval fs z=some d/\L2.Yw vs z=some v/\Rel K aD H d v
 |_,_,z,.nil=>.inl ⟨rfl,L2.u6⟩
 |_,_,z,@zU.cons _ _ _ _ x d v fs vs r t=>by
  by_cases h:x=z
  ·exact .inr ⟨d,v,by rw[Wi,if_pos h],by rw[L2.Qu h],r⟩
  ·rw[Wi,if_neg h,L2.Qk h];exact zU.val z t
omit B in
theorem RelK.snoc {x:Str}(rd:Rel K aD H d v):∀ {fs:List (Str×D)} {vs:List (Key×V)},RelK K aD H fs vs->RelK K aD H (fs++[(x,d)]) (vs++[(.inr x,v)])
 |_,_,.nil=>.cons rd .nil
 |_,_,.cons r t=>.cons r (RelK.snoc rd t)
omit B in
theorem zU.snoc {κ:Type}{x:κ}(rd:Rel K aD H d v):∀ {fs:List (κ×D)} {vs:List (κ×V)},zU K aD H fs vs->zU K aD H (fs++[(x,d)]) (vs++[(x,v)])
 |_,_,.nil=>.cons rd .nil
 |_,_,.cons r t=>.cons r (zU.snoc rd t)
omit B in
theorem RelK.repl {z:Str}(rd:Rel K aD H d v):∀ {fs:List (Str×D)} {vs:List (Key×V)},RelK K aD H fs vs->RelK K aD H (fs.map fun kv=>if kv.1=z then(kv.1,d)else kv) (vs.map fun kv=>if kv.1=(Sum.inr z:Key)then(kv.1,v)else kv)
 |_,_,.nil=>.nil
 |_,_,@RelK.cons _ _ _ x d' v' fs vs r t=>by
  rw[qP,qP];by_cases h:x=z
  ·rw[if_pos h,if_pos (by rw[h])];exact .cons rd (RelK.repl rd t)
  ·rw[if_neg h,if_neg (fun e=>h (Sum.inr.inj e))];exact .cons r (RelK.repl rd t)
omit B in
theorem zU.repl {κ:Type}[DecidableEq κ]{z:κ}(rd:Rel K aD H d v):∀ {fs:List (κ×D)} {vs:List (κ×V)},zU K aD H fs vs->zU K aD H (fs.map fun kv=>if kv.1=z then(kv.1,d)else kv) (vs.map fun kv=>if kv.1=z then(kv.1,v)else kv)
 |_,_,.nil=>.nil
 |_,_,@zU.cons _ _ _ _ x d' v' fs vs r t=>by
  rw[qP,qP];by_cases h:x=z
  ·rw[if_pos h,if_pos h];exact .cons rd (zU.repl rd t)
  ·rw[if_neg h,if_neg h];exact .cons r (zU.repl rd t)
omit B in
def RelK.put {z:Str}(rd:Rel K aD H d v){fs:List (Str×D)}(r:RelK K aD H fs vs):RelK K aD H (dput fs z d) (putK vs (Sum.inr z:Key) v):=by
 unfold dput putK;rw[Rq,L2.Nm];rcases r.val z with⟨e1,e2⟩|⟨d',v',e1,e2,_⟩
 ·rw[e1,e2];rw[if_neg (by simp),if_neg (by simp)];exact r.snoc rd
 ·rw[e1,e2];rw[if_pos (by simp),if_pos (by simp)];exact r.repl rd
omit B in
def zU.put {κ:Type}[DecidableEq κ]{z:κ}{d:D}{v:V}(rd:Rel K aD H d v){fs:List (κ×D)}{vs:List (κ×V)}(r:zU K aD H fs vs):zU K aD H (dput fs z d) (putK vs z v):=by
 unfold dput putK;rw[Rq,L2.Nm];rcases r.val z with⟨e1,e2⟩|⟨d',v',e1,e2,_⟩
 ·rw[e1,e2];rw[if_neg (by simp),if_neg (by simp)];exact r.snoc rd
 ·rw[e1,e2];rw[if_pos (by simp),if_pos (by simp)];exact r.repl rd
omit B in
theorem RelK.length:∀ {fs:List (Str×D)} {vs:List (Key×V)},RelK K aD H fs vs->fs.length=vs.length
  |_,_,.nil=>rfl
  |_,_,.cons _ t=>congrArg (· + 1) (RelK.length t)
omit B in
theorem zU.length {κ:Type}:∀ {fs:List (κ×D)} {vs:List (κ×V)},zU K aD H fs vs->fs.length=vs.length
  |_,_,.nil=>rfl
  |_,_,.cons _ t=>congrArg (· + 1) (zU.length t)
omit B in
theorem Qm:∀ {ks:List Key} {vs:List V},zj K aD H (ks.map kD) vs->vs=ks.map kV
 |[],_,.nil=>rfl
 |.inl i::ks,_,.cons r t=>by
  have e:∀ {d:D} {v:V},d=.int i->Rel K aD H d v->v=.int i:=fun e r=>by subst e;cases r;rfl
  rw[e rfl r,Qm t];rfl
 |.inr x::ks,_,.cons r t=>by
  have e:∀ {d:D} {v:V},d=.str x->Rel K aD H d v->v=.str x:=fun e r=>by subst e;cases r;rfl
  rw[e rfl r,Qm t];rfl
omit B in
theorem GD:∀ {ks:List (List Key)} {vs:List V},zj K aD H (ks.map kN) vs->∃ bs:List Addr,vs=bs.map V.ref/\Paired (fun (k:List Key) (c:Addr)=>H c=some (.tup (k.map kV))) ks bs
 |[],_,.nil=>⟨[],rfl,.nil⟩
 |k::ks,_,.cons r t=>by
  obtain⟨bs,e,p⟩:=GD t;cases r with
  |tup h q=>exact⟨_::bs,by rw[e];rfl,.cons (by rw[h,Qm q]) p⟩
def zp.newC (st:zp K aD H S){o:HO}(h:H l=none)(hc:Wx K (aD++[l]) (upd H l o) l c):zp K (aD++[l]) (upd H l o) (S++[c]) where
 wd:=st.wd.trans (Wd.newL st h)
 len:=by rw[qf,qf,st.len];rfl
 nd:=by
  rw[VR];refine⟨st.nd,by simp,fun a ha b hb e=>?_⟩;have:b=l:=by simpa using hb
  subst this;subst e;exact st.fresh h ha
 cell:=fun n a c' e1 e2=>by
  by_cases hn:n<aD.length
  ·rw[qg hn]at e1;rw[qg (by rw[<- st.len];exact hn)]at e2;have ok:=st.cell n a c' e1 e2;obtain⟨u,e⟩:=ok.some;exact ok.wd (Wd.newL st h) (by rw[Vu h e,e])
  ·have hn':aD.length<=n:=Rv hn;rw[qe hn']at e1;rw[qe (by rw[<- st.len];exact hn'),<- st.len]at e2;cases hk:n-aD.length with
   |zero =>
    rw[hk]at e1 e2;have e1':l=a:=by simpa using e1
    have e2':c=c':=by simpa using e2
    subst e1' e2';exact hc
   |succ k=>rw[hk]at e1;simp at e1
omit B in
def Wd.putC {n:Nat}{a:Addr}{o o':HO}(e:aD[n]?=some a)(h:H a=some o)(h1:∀ xs,o≠.tup xs)(h2:∀ q u,o≠.frz q u):Wd aD H aD (upd H a o') :=
 ⟨O9 _,fun b u hb q=>by
   have:b≠a:=fun z=>hb (by rw[z];exact qc e)
   rw[zu this];exact q,
  fun b xs q=>by rw[zu (VF q h (fun z=>h1 xs z.symm))];exact q,fun b o u q=>by rw[zu (VF q h (fun z=>h2 o u z.symm))];exact q,fun _ m n=>absurd m n⟩
theorem zp.putC (st:zp K aD H S){n:Nat}{a:Addr}{o o':HO}(e:aD[n]?=some a)(h:H a=some o)(h1:∀ xs,o≠.tup xs)(h2:∀ q u,o≠.frz q u)(hc:Wx K aD (upd H a o') a c):zp K aD (upd H a o') (S.set n c) where
 wd:=st.wd.trans (Wd.putC e h h1 h2)
 len:=by rw[W8];exact st.len
 nd:=st.nd
 cell:=fun m b c' e1 e2=>by
  have w:Wd aD H aD (upd H a o'):=Wd.putC e h h1 h2;by_cases hm:m=n
  ·subst hm;rw[e]at e1;cases e1;rw[qU (by rw[<- st.len];exact My.Wh e)]at e2;cases e2;exact hc
  ·rw[qS (Ne.symm hm)]at e2
   have ne:b≠a:=fun z=>by subst z;have q1:=(Uo.mp e1).2;have q2:=(Uo.mp e).2;exact hm ((P0 st.nd).mp (q1.trans q2.symm))
   exact(st.cell m b c' e1 e2).wd w (zu ne)
def QB (st:zp K aD H S)(rx:Rel K aD H x v)(ry:Rel K aD H y u)(g:Zc S x y o):∃ a o',v=.ref a/\Yn H a u o'/\((o=none/\o'=none)\/∃ d w,o=some d/\o'=some w/\Rel K aD H d w):=by
 rcases g with⟨n,Z8,z,rfl,rfl,hn,rfl⟩|⟨n,Z8,ks,rfl,rfl,hn,rfl⟩|⟨n,Z8,ep,ks,rfl,rfl,hn,rfl⟩
 ·cases ry;cases rx with
  |ref e =>obtain⟨vs,hv,r⟩:=st.cell n _ _ e hn;exact⟨_,_,rfl,Yn.k (k:=Sum.inr z) hv,r.val z⟩
 ·cases rx with
  |ref e =>
   obtain⟨vs,hv,r⟩:=st.cell n _ _ e hn;cases ry with
   |tup hb rb =>have e2:=Qm rb;subst e2;exact⟨_,_,rfl,Yn.t hv hb,r.val ks⟩
 ·cases rx with
  |ref e =>
   obtain⟨vs,hv,r⟩:=st.cell n _ _ e hn;cases ry with
   |tup hb rb =>obtain⟨bs,rfl,p⟩:=GD rb;exact⟨_,_,rfl,Yn.n hv ⟨bs,hb,p⟩,r.val ks⟩
def ķ (st:zp K aD H S)(rx:Rel K aD H x v)(g:HS S x):∃ a,v=.ref a/\Fq H a:=by
 obtain⟨n,rfl,g⟩:=g;cases rx with
 |ref e =>
  rcases g with⟨Z8,hn⟩|⟨Z8,hn⟩|⟨Z8,ep,hn⟩
  ·obtain⟨vs,hv,_⟩:=st.cell n _ _ e hn;exact⟨_,rfl,.inl ⟨vs,.inl hv⟩⟩
  ·obtain⟨vs,hv,_⟩:=st.cell n _ _ e hn;exact⟨_,rfl,.inr (.inl ⟨vs,.inl hv⟩)⟩
  ·obtain⟨vs,hv,_⟩:=st.cell n _ _ e hn;exact⟨_,rfl,.inr (.inr ⟨vs,ep,.inl hv⟩)⟩
end
section
variable {X:Cx}{a b c:Expr}{td ti tz tv:DE}{pos apos cpos:Pos}[B:Bs]
def ã:PD X (.Dict [] [] pos) Mw:=by with_unfolding_all exact(zV mC fun U H Q hh=>ZV hh fun aD ρ S Q0 st rh q k p hp =>k _ _ _ _ _ q (Wd.newL st hp) (st.newC hp ⟨[],zL,.nil⟩) st.newRef)
def τ:PD X (.Dict [] [] pos) CJ:=by with_unfolding_all exact(zV Ņ fun U H Q hh=>ZV hh fun aD ρ S Q0 st rh q k p hp =>k _ _ _ _ _ q (Wd.newL st hp) (st.newC hp ⟨[],zL,.nil⟩) st.newRef)
def eX:PD X (.Dict [] [] pos) Nr:=by with_unfolding_all exact(zV jh fun U H Q hh=>ZV hh fun aD ρ S Q0 st rh q k p hp =>k _ _ _ _ _ q (Wd.newL st hp) (st.newC hp ⟨[],zL,.nil⟩) st.newRef)
def zol {tk:DE}(hr:zN j X.A)(hk:PD X a tk)(hv:PD X b tv):PD X (.Dict [some a] [b] pos) (MN tk tv):=by with_unfolding_all exact(zV (zpw (Uq hr) hk hv) fun U H Q hh=>ZV hh fun aD ρ S Q0 st rh q k p hp =>
 ⟨aD++[p],ρ,S++[.dt []],_,st.newC (c:=.dt []) hp ⟨[],zL,.nil⟩,rh.wd (Wd.newL st hp),(show tk ρ (S++[.dt []]) _ from q),fun x S1 v H1 ad1 q1 w1 st1 r1=>⟨ad1,ρ,S1,_,st1,(rh.wd (Wd.newL st hp)).wd w1,q1,by
  rintro y S2 u H2 ad2 ⟨ks,ex,hn,q2⟩ w2 st2 r2;subst ex;have w12:=(Wd.newL (o:=.dT []) st hp).trans (w1.trans w2)
  have e:ad2[S.length]?=some p:=by refine RW (w1.trans w2).pre ?_;rw[<- st.len,qe (qh _),Yp];rfl
  obtain⟨vs,hv',r⟩:=st2.cell S.length _ _ e hn;cases r;cases r1.wd w2 with
  |tup hb rb =>
   have e2:=Qm rb;subst e2;have h1:∀ xs,HO.dT []≠.tup xs:=fun _ z=>by cases z
   have h2:∀ q u,HO.dT []≠.frz q u:=fun _ _ z=>by cases z
   have w':=Wd.putC (o':=.dT [(ks,u)]) e hv' h1 h2;exact⟨_,ks,rfl,hb,hv',k _ _ _ _ _ q2 (w12.trans w') (st2.putC e hv' h1 h2 ⟨_,zL,.cons (r2.wd w') .nil⟩) (.ref e)⟩⟩⟩)
def zvr (hr:zN j X.A)(ho:PD X a td)(hi:PD X b ti)(hs:autoParam (Jq b) uM):PD X (.Subscript a b pos) (Ur td ti):=by with_unfolding_all exact(zV (Ġ (Uq hr) ho hi hs) fun U H Q hh=>ZV hh fun aD ρ S Q0 st rh q k =>
 ⟨aD,ρ,S,_,st,rh,q,fun x S1 v H1 ad1 q1 w1 st1 r1=>⟨ad1,ρ,S1,_,st1,rh.wd w1,q1,by
  rintro y S2 u H2 ad2 ⟨d,g,q2⟩ w2 st2 r2;obtain⟨p,o',rfl,g',h⟩:=QB st2 (r1.wd w2) r2 g;rcases h with⟨e,_⟩|⟨d',w,e,rfl,rw'⟩
  ·cases e
  ·cases e;exact⟨p,w,rfl,g',k _ S2 _ H2 ad2 q2 (w1.trans w2) st2 rw'⟩⟩⟩)
def Ţ (hr:zN j X.A)(ho:PD X a td)(hi:PD X b ti)(hv:PD X c tv)(hs:autoParam (swapsWith c (some (.Subscript a b apos)) pos.line X.env=pure false) zy):Zn X (.Assign [.Subscript a b apos] c pos) (Mh td ti tv):=by with_unfolding_all exact(XS (zrU (Uq hr) ho hi hv hs) fun E U H hh=>ZV hh fun aD ρ S E0 so rh q k =>
 ⟨aD,ρ,S,_,so,rh,q,fun v S1 vv H1 ad1 q1 w1 st1 r1=>⟨ad1,ρ,S1,_,st1,rh.wd w1,q1,fun x S2 vx H2 ad2 q2 w2 st2 r2=>⟨ad2,ρ,S2,_,st2,rh.wd (w1.trans w2),q2,fun y S3 vy H3 ad3 q3 w3 st3 r3=>by
  have rx:=r2.wd w3;have rv:=r1.wd (w2.trans w3);have w13:=(w1.trans w2).trans w3;rcases q3 with⟨n,Z8,z,rfl,rfl,hn,hl,q3⟩|⟨n,Z8,ks,rfl,rfl,hn,hl,q3⟩
  ·cases r3;cases rx with
   |ref e =>
    obtain⟨vs,hv',r⟩:=st3.cell n _ _ e hn;have h1:∀ xs,HO.dK vs≠.tup xs:=fun _ z=>by cases z
    have h2:∀ q u,HO.dK vs≠.frz q u:=fun _ _ z=>by cases z
    have w:=Wd.putC (o':=.dK (putK vs (Sum.inr z:Key) vv)) e hv' h1 h2;refine⟨_,_,rfl,Sd.k (k:=Sum.inr z) hv' (by rw[<- r.length];exact M7 hl),?_⟩;exact k.nx _ _ _ _ _ q3 (w13.trans w) (st3.putC e hv' h1 h2 ⟨_,zL,RelK.wr w.wr (r.put rv)⟩) (rh.wd (w13.trans w))
  ·cases rx with
   |ref e =>
    obtain⟨vs,hv',r⟩:=st3.cell n _ _ e hn;cases r3 with
    |tup hb rb =>
     have e2:=Qm rb;subst e2;have h1:∀ xs,HO.dT vs≠.tup xs:=fun _ z=>by cases z
     have h2:∀ q u,HO.dT vs≠.frz q u:=fun _ _ z=>by cases z
     have w:=Wd.putC (o':=.dT (putK vs ks vv)) e hv' h1 h2;refine⟨_,_,rfl,Sd.t hv' hb (by rw[<- r.length];exact M7 hl),?_⟩;exact k.nx _ _ _ _ _ q3 (w13.trans w) (st3.putC e hv' h1 h2 ⟨_,zL,zU.wr w.wr (r.put rv)⟩) (rh.wd (w13.trans w))⟩⟩⟩)
def zpk (hr:zN j X.A)(ho:PD X a td)(hi:PD X b ti)(hv:PD X c tv)(hs:autoParam (swapsWith c (some (.Subscript a b apos)) pos.line X.env=pure false) zy):Zn X (.Assign [.Subscript a b apos] c pos) (R5 td ti tv):=by with_unfolding_all exact(XS (zoT (Uq hr) ho hi hv hs) fun E U H hh=>ZV hh fun aD ρ S E0 so rh q k =>
 ⟨aD,ρ,S,_,so,rh,q,fun v S1 vv H1 ad1 q1 w1 st1 r1=>⟨ad1,ρ,S1,_,st1,rh.wd w1,q1,fun x S2 vx H2 ad2 q2 w2 st2 r2=>⟨ad2,ρ,S2,_,st2,rh.wd (w1.trans w2),q2,fun y S3 vy H3 ad3 q3 w3 st3 r3=>by
  have rx:=r2.wd w3;have rv:=r1.wd (w2.trans w3);have w13:=(w1.trans w2).trans w3;obtain⟨n,Z8,ep,ks,rfl,rfl,hn,hl,q3⟩:=q3;cases rx with
  |ref e =>
   obtain⟨vs,hv',r⟩:=st3.cell n _ _ e hn;cases r3 with
   |tup hb rb =>
    obtain⟨bs,rfl,p⟩:=GD rb;refine⟨_,vs,ep,ks,_,rfl,hv',rfl,⟨bs,hb,p⟩,by rw[<- r.length];exact M7 hl,fun e'=>?_⟩;have h1:∀ xs,HO.dN vs ep≠.tup xs:=fun _ z=>by cases z
    have h2:∀ q u,HO.dN vs ep≠.frz q u:=fun _ _ z=>by cases z
    have w:=Wd.putC (o':=.dN (putK vs ks vv) e') e hv' h1 h2;exact k.nx _ _ _ _ _ (q3 e') (w13.trans w) (st3.putC e hv' h1 h2 ⟨_,zL,zU.wr w.wr (r.put rv)⟩) (rh.wd (w13.trans w))⟩⟩⟩)
end
section
variable {K:PySem.W.Frag}{aD:List Addr}{H:Hp}{S:Z7}[B:Bs]
omit B in
theorem zU.gk {κ:Type}:∀ {fs:List (κ×D)} {vs:List (κ×V)} {i:Nat} {k:κ} {y:V},zU K aD H fs vs->vs[i]?=some (k,y)->∃ d,fs[i]?=some (k,d)/\Rel K aD H d y
 |_,_,_,_,_,.nil,h=>by cases h
 |_,_,0,_,_,.cons r _,h=>by cases h;exact⟨_,rfl,r⟩
 |_,_,i+1,_,_,.cons _ t,h=>let ⟨d,e,r⟩:=zU.gk (i:=i) t h;⟨d,e,r⟩
omit B in
def zpf {k:List (List Key)}(h:WX H b k):Rel K aD H (.tup (k.map kN)) (.ref b):=by
 obtain⟨bs,e,p⟩:=h
 have kr:∀ k:Key,Rel K aD H (kD k) (kV k):=fun k=>by cases k with
  |inl i=>exact .int i
  |inr x=>exact .str x
 have ks:∀ l:List Key,zj K aD H (l.map kD) (l.map kV):=fun l=>by
  induction l with
  |nil=>exact .nil
  |cons x l ih=>exact .cons (kr x) ih
 refine .tup e ?_;clear e
 induction p with
 |nil=>exact .nil
 |cons h t ih=>exact .cons (.tup h (ks _)) ih
def ŭ {n:Nat}{a:Addr}{Z8:List (List (List Key)×D)}{ep:Nat}(e:aD[n]?=some a):TV K aD H ⟨Z8.map fun kv=>.tup [.tup (kv.1.map kN),kv.2],fun S=>S[n]?=some (.dn Z8 ep)⟩ (Ga a Z8.length ep) where
 go:=fun ad1 H1 S i w st ok hi=>by obtain⟨vs,hv,r⟩:=st.cell n _ _ (RW w.pre e) ok;rw[qa]at hi;exact⟨vs,hv,r.length.symm,hi⟩
 yld:=by rintro ad1 H1 S i d x H' w st ok hd ⟨p,b,k,y,ex,hp,he,hb,hk⟩;obtain⟨vs,hv,r⟩:=st.cell n _ _ (RW w.pre e) ok;obtain⟨z,hz,rz⟩:=r.gk (hk vs hv);rw[qi,hz]at hd;cases hd;rw[he,ex];exact⟨Wd.laid hp,st.laid hp,.tup zL (.cons ((zpf hb).wd (Wd.laid hp)) (.cons (rz.wd (Wd.laid hp)) .nil))⟩
 stop:=fun ad1 H1 S w st ok=>by obtain⟨vs,hv,r⟩:=st.cell n _ _ (RW w.pre e) ok;exact⟨vs,hv,r.length.symm,by rw[qa]⟩
end
section
variable {X:Cx}{a b c:Expr}{td ti tz tv:DE}{pos apos cpos:Pos}[B:Bs]
def Ã {es:List Expr}{kk:Nat}{tpos:Pos}(ho:PD X a td)(m:M0 X a "items" apos cpos):Xh X (.Tuple es kk tpos) (.Call (.Attribute a "items" apos) [] [] cpos) (Jf td):=by with_unfolding_all exact(NT (Θ ho m) fun U H R hh=>ZV hh fun aD ρ S R0 st rh q k =>
 ⟨aD,ρ,S,_,st,rh,q,by
  rintro x S1 v H1 ad1 ⟨n,Z8,ep,ex,hn,q1⟩ w1 st1 r1;subst ex;cases r1 with
  |ref e =>obtain⟨vs,hv,r⟩:=st1.cell n _ _ e hn;exact⟨_,vs,ep,rfl,hv,k _ S1 _ H1 ad1 q1 w1 st1 (by rw[<- r.length];exact ŭ e)⟩⟩)
end
structure FH (K:PySem.W.Frag)(n:Str)(st:Stmt)(f:Addr)(fd:FuncData):Prop where
 a:PySem.W.nsIn K mainGlobals n=some (some (.ref f))
 F:W9 K n n st f fd
section
variable {K:PySem.W.Frag}{n:Str}{st:Stmt}{f:Addr}{fd:FuncData}{mg:Str->Option Value}{k:Nat}{h:Heap}{ps:List Str}{sp:Sp}
def bC {oc:Value}{od an:Option Addr}{osl:Array (Option Value)}{kV doc pm cdv ct:Value}(a:PySem.W.nsIn K mainGlobals n=some (some (.ref f)))
  (l:K.lookup f=some ⟨oc,od,.func (PySem.W.fnOf n n (Xl st) (XH st) (zK st) .none kV doc pm an cdv ct),osl⟩) (c:PySem.W.codeIn K cdv n=true) (k:PySem.W.keepIn K (.ref f)=true) :
  FH K n st f (PySem.W.fnOf n n (Xl st) (XH st) (zK st) .none kV doc pm an cdv ct):=⟨a,vI l c k⟩
end
section
variable {X:Cx}
def Ο [B:Bs](i:Nat){x:Str}{pos:Pos}(hN:autoParam (X.N[i]?=some x) zy)(hv:L2.Vis X.env.scope x:=by first | exact Or.inl rfl | exact Or.inr (Or.inl rfl) | exact Or.inr (Or.inr rfl))(hd:autoParam ((x==("__debug__":Str))=false) zR)(hcd:autoParam ((x==("__classdict__":Str))=false) zR):PD X (.Name x pos) (XM i):=by with_unfolding_all exact(Ā (cX hN hv hd hcd))
end
section
variable {X:Cx}{a b c:Expr}{ta tb:DE}{td ti tz tv:DE}{pos apos cpos:Pos}[B:Bs]
def iB (hr:zN j X.A)(hi:PD X b ti)(ho:PD X a td)(hm:autoParam (behindInMarks .In a=false) Vk):PD X (.Compare b [.In] [a] pos) (Qn ti td):=by with_unfolding_all exact(zV (yX (uT (Uq hr) hi ho) hm) fun U H Q hh=>ZV hh fun aD ρ S Q0 st rh q k =>
  ⟨aD,ρ,S,_,st,rh,q,fun y S1 u H1 ad1 q1 w1 st1 r1=>⟨ad1,ρ,S1,_,st1,rh.wd w1,q1,by
    rintro x S2 v H2 ad2 ⟨o,g,q2⟩ w2 st2 r2;obtain⟨p,o',rfl,g',h⟩:=QB st2 r2 (r1.wd w2) g;have e:o'.isSome=o.isSome:=by rcases h with⟨rfl,rfl⟩|⟨d',w,rfl,rfl,_⟩<;>rfl
    exact⟨p,o',rfl,g',by rw[e];exact k _ S2 _ H2 ad2 q2 (w1.trans w2) st2 (.bl _)⟩⟩⟩)
def zm6 (hr:zN j X.A)(hi:PD X b ti)(ho:PD X a td)(hm:autoParam (behindInMarks .NotIn a=false) Vk):PD X (.Compare b [.NotIn] [a] pos) (Ow ti td):=by with_unfolding_all exact(zV (yX (pW (Uq hr) hi ho) hm) fun U H Q hh=>ZV hh fun aD ρ S Q0 st rh q k =>
  ⟨aD,ρ,S,_,st,rh,q,fun y S1 u H1 ad1 q1 w1 st1 r1=>⟨ad1,ρ,S1,_,st1,rh.wd w1,q1,by
    rintro x S2 v H2 ad2 ⟨o,g,q2⟩ w2 st2 r2;obtain⟨p,o',rfl,g',h⟩:=QB st2 r2 (r1.wd w2) g;have e:o'.isSome=o.isSome:=by rcases h with⟨rfl,rfl⟩|⟨d',w,rfl,rfl,_⟩<;>rfl
    exact⟨p,o',rfl,g',by rw[e];exact k _ S2 _ H2 ad2 q2 (w1.trans w2) st2 (.bl _)⟩⟩⟩)
def dj (hr:zN j X.A)(hi:PD X b ti)(ho:PD X a td)(hm:autoParam (behindInMarks .In a=false) Vk):YC X (.Compare b [.In] [a] pos) (dT (Qn ti td)):=by with_unfolding_all exact(Pj (yW (uT (Uq hr) hi ho) hm) fun U H Q hh=>ZV hh fun aD ρ S Q0 st rh q k =>
  ⟨aD,ρ,S,_,st,rh,q,fun y S1 u H1 ad1 q1 w1 st1 r1=>⟨ad1,ρ,S1,_,st1,rh.wd w1,q1,by
    rintro x S2 v H2 ad2 ⟨o,g,b',e',q2⟩ w2 st2 r2;obtain⟨p,o',rfl,g',h⟩:=QB st2 r2 (r1.wd w2) g;have e:o'.isSome=o.isSome:=by rcases h with⟨rfl,rfl⟩|⟨d',w,rfl,rfl,_⟩<;>rfl
    cases e';exact⟨p,o',rfl,g',_,rfl,by rw[e];exact k _ S2 H2 ad2 q2 (w1.trans w2) st2⟩⟩⟩)
def kY (hr:zN j X.A)(hi:PD X b ti)(ho:PD X a td)(hm:autoParam (behindInMarks .NotIn a=false) Vk):YC X (.Compare b [.NotIn] [a] pos) (dT (Ow ti td)):=by with_unfolding_all exact(Pj (yW (pW (Uq hr) hi ho) hm) fun U H Q hh=>ZV hh fun aD ρ S Q0 st rh q k =>
  ⟨aD,ρ,S,_,st,rh,q,fun y S1 u H1 ad1 q1 w1 st1 r1=>⟨ad1,ρ,S1,_,st1,rh.wd w1,q1,by
    rintro x S2 v H2 ad2 ⟨o,g,b',e',q2⟩ w2 st2 r2;obtain⟨p,o',rfl,g',h⟩:=QB st2 r2 (r1.wd w2) g;have e:o'.isSome=o.isSome:=by rcases h with⟨rfl,rfl⟩|⟨d',w,rfl,rfl,_⟩<;>rfl
    cases e';exact⟨p,o',rfl,g',_,rfl,by rw[e];exact k _ S2 H2 ad2 q2 (w1.trans w2) st2⟩⟩⟩)
def aO (hr:zN j X.A)(ho:PD X a td)(hi:PD X b ti)(hz:PD X c tz)(m:M2 X a "get" apos b c cpos:=by exact⟨rfl,rfl,rfl,rfl⟩):PD X (.Call (.Attribute a "get" apos) [b,c] [] cpos) (M8 td ti tz):=by with_unfolding_all exact(zV (zpa (Uq hr) ho hi hz m) fun U H Q hh=>ZV hh fun aD ρ S Q0 st rh q k =>
 ⟨aD,ρ,S,_,st,rh,q,by
  rintro x S1 v H1 ad1 ⟨hd,q1⟩ w1 st1 r1;obtain⟨p,rfl,hp⟩:=ķ st1 r1 hd
  exact⟨p,rfl,hp,ad1,ρ,S1,_,st1,rh.wd w1,q1,fun y S2 u H2 ad2 q2 w2 st2 r2=>⟨ad2,ρ,S2,_,st2,rh.wd (w1.trans w2),q2,by
   rintro z S3 uz H3 ad3 ⟨o,g,q3⟩ w3 st3 r3;obtain⟨p',o',e,g',h⟩:=QB st3 (r1.wd (w2.trans w3)) (r2.wd w3) g;cases e;refine⟨o',g',?_⟩;rcases h with⟨rfl,rfl⟩|⟨d',w,rfl,rfl,rw'⟩
   ·exact k _ S3 _ H3 ad3 q3 ((w1.trans w2).trans w3) st3 r3
   ·exact k _ S3 _ H3 ad3 q3 ((w1.trans w2).trans w3) st3 rw'⟩⟩⟩)
def aY {tk:DE}(hk:PD X a tk)(hv:PD X b tv):PD X (.Dict [some a] [b] pos) (Ed tk tv):=by with_unfolding_all exact(zV (zql (zpj hk hv Å) rfl rfl (by intro h;cases h) (qH rfl)) fun U H Q hh=>ZV hh fun aD ρ S Q0 st rh q k p hp =>
 ⟨aD++[p],ρ,S++[.dk []],_,st.newC (c:=.dk []) hp ⟨[],zL,.nil⟩,rh.wd (Wd.newL st hp),(show tk ρ (S++[.dk []]) _ from q),fun x S1 v H1 ad1 q1 w1 st1 r1=>⟨ad1,ρ,S1,_,st1,(rh.wd (Wd.newL st hp)).wd w1,q1,by
  rintro y S2 u H2 ad2 ⟨z,ex,hn,q2⟩ w2 st2 r2;subst ex;cases r1;have w12:=(Wd.newL (o:=.dK []) st hp).trans (w1.trans w2)
  have e:ad2[S.length]?=some p:=by refine RW (w1.trans w2).pre ?_;rw[<- st.len,qe (qh _),Yp];rfl
  obtain⟨vs,hv',r⟩:=st2.cell S.length _ _ e hn;cases r;have h1:∀ xs,HO.dK []≠.tup xs:=fun _ z=>by cases z
  have h2:∀ q u,HO.dK []≠.frz q u:=fun _ _ z=>by cases z
  have w':=Wd.putC (o':=.dK [((Sum.inr z:Key),u)]) e hv' h1 h2;exact⟨hv',[((Sum.inr z:Key),u)],rfl,qH rfl,k _ _ _ _ _ q2 (w12.trans w') (st2.putC e hv' h1 h2 ⟨_,zL,.cons (r2.wd w') .nil⟩) (.ref e)⟩⟩⟩)
end
section
variable {X:Cx}{a b:Expr}{ta tb:DE}{pos apos cpos:Pos}[B:Bs]
end
section
variable {X:Cx}{a b:Expr}{ta tb:DE}{pos apos cpos:Pos}[B:Bs]
end
section
variable {X:Cx}{a b:Expr}{ta tb:DE}{pos apos cpos:Pos}[B:Bs]
end
section
variable {X:Cx}{tg:Expr}{pos:Pos}{b:Nat}[B:Bs]
end
section
variable {X:Cx}{a:Expr}{pos:Pos}[B:Bs]
end
section
variable {X:Cx}{sc:Scope}{tg iter elt:Expr}{ifs:List Expr}{own free:List Str}{fv:List Nat}{pos:Pos}
variable [B:Bs]
end
end Dp
namespace My
open PySem PySem.Spec PyProof.Rows L2
section
variable {X:Cx}{Z9 pl:List (Addr×Obj)}{U:L2.St}{H H':Hp}{s:Shared}{a:Addr}{o:Obj}
end
end My
namespace Dp
open PySem PySem.Spec PyProof.Rows L2 My
section
variable {K:PySem.W.Frag}{aD:List Addr}{H H':Hp}{S:Z7}[B:Bs]
end
class Fl (α:Type) where
 fl:α
instance flP:Fl Prop:=⟨False⟩
instance flF {α β:Type} [Fl β]:Fl (α->β):=⟨fun _=>Fl.fl⟩
abbrev ZP {α:Type}[Fl α](b:Bool)(t:α):α:=match b with
 |true=>t
 |false=>Fl.fl
abbrev ob {β:Type}[Fl β](o:Option α)(f:α->β):β:=match o with
 |some a=>f a
 |none=>Fl.fl
def WL {α:Type}[Fl α]{Q:α->Prop}{b:Bool}{t:α}(hf:Q Fl.fl)(h:b=true->Q t):Q (ZP b t):=by
 cases b with
 |true=>exact h rfl
 |false=>exact hf
def Px {α β:Type}[Fl β]{Q:β->Prop}{o:Option α}{f:α->β}(hf:Q Fl.fl)(h:∀ a,o=some a->Q (f a)):Q (ob o f):=by
 cases o with
 |some a=>exact h a rfl
 |none=>exact hf
inductive Al {α:Type}(P:α->Prop):List α->Prop
 |nil:Al P []
 |cons {x:α} {l:List α} (h:P x) (t:Al P l):Al P (x::l)
def Al.mem {α:Type}{P:α->Prop}{l:List α}(a:Al P l):∀ x∈l,P x:=by
 induction a with
 |nil=>intro x h;cases h
 |cons h t ih =>
  intro x hx;rcases ql.mp hx with rfl|hx
  ·exact h
  ·exact ih x hx
def zY {a b:Bool}(h:(a&&b)=true):a=true/\b=true:=by simpa using h
def Zv {a:Bool}(h:(!a)=true):a=false:=by simpa using h
def sh (x:Str):Nat:=x.cps.toList.foldl (fun a c=>a*977+c) 1
def se (a b:Str):Bool:=(sh a).beq (sh b)&&a==b
def MF {a b:Str}:se a b=(a==b):=by
 unfold se;cases h:a==b with
 |false=>rw[SX]
 |true=>rw[eq_of_beq h,Nat.beq_refl];rfl
def Tv {a b:Str}(h:se a b=true):a=b:=eq_of_beq (MF.symm.trans h)
def Zt {α:Type}(x:Str):List (Str×α)->Option α
 |[]=>none
 |(y,v)::r=>match se x y with
  |true=>some v
  |false=>Zt x r
theorem Uk {α:Type}{x:Str}:∀ {l:List (Str×α)},Zt x l=l.lookup x
 |[]=>rfl
 |(y,v)::r=>by
  unfold Zt;rw[qu,MF];cases x==y with
  |true=>rfl
  |false=>exact Uk
theorem Mz {α:Type}{x:Str}{v:α}:∀ {l:List (Str×α)},Zt x l=some v->(x,v)∈l
 |(y,u)::r,h=>by
  unfold Zt at h;cases e:se x y with
  |true=>rw[e]at h;cases h;rw[Tv e];exact qI
  |false=>rw[e]at h;exact qj _ (Mz h)
def slt (x:Str):List Str->Option Nat
  |[]=>none
  |y::r=>match se x y with
    |true=>some 0
    |false=>(slt x r).map (· + 1)
theorem O7 {x:Str}:∀ {l:List Str} {i:Nat},slt x l=some i->l[i]?=some x
 |y::r,i,h=>by
  unfold slt at h;cases e:se x y with
  |true=>rw[e]at h;cases h;rw[Tv e];rfl
  |false =>rw[e]at h;obtain⟨j,hj,rfl⟩:=U6.mp h;exact O7 (l:=r) hj
def has (x:Str):List Str->Bool
 |[]=>false
 |y::r=>se x y||has x r
inductive Bt where
 |len|abs|max|min|sum|any|all|isi|sorted|range|zip|enum|rev|set|tuple|list|int|bool|str
 deriving DecidableEq
def Bt.nm:Bt->Str
 | .len=>"len" | .abs=>"abs" | .max=>"max" | .min=>"min" | .sum=>"sum" | .any=>"any" | .all=>"all" | .isi=>"isinstance" | .sorted=>"sorted" | .range=>"range"
 | .zip=>"zip" | .enum=>"enumerate" | .rev=>"reversed" | .set=>"set" | .tuple=>"tuple" | .list=>"list" | .int=>"int" | .bool=>"bool" | .str=>"str"
def Bt.ty:Bt->Option String
 | .tuple=>some "tuple" | .list=>some "list" | .int=>some "int" | .bool=>some "bool" | .str=>some "str" | _=>none
def Bt.id:Bt->String
 | .len=>"len" | .abs=>"abs" | .max=>"max" | .min=>"min" | .sum=>"sum" | .any=>"any" | .all=>"all" | .isi=>"isinstance" | .sorted=>"sorted" | _=>""
inductive YZ where
 |fn (k:Nat) (ps:List Str) (sp:ZX)
 |fx (k:Nat) (ps:List Str) (sp:Yo)
 |cl (k:Nat) (sp:ZX)
 |cx (k:Nat) (c:Str) (init:Yo)
 |int (n:Int)
 |str (z:Str)
 |kt (cs:List (List D))
 |blt (b:Bt)
structure Gm where
 g:List (Str×YZ)
 r:List Str:=[]
 t:List (Str×List Str):=[]
 i:List (Str×List (Str×Bool)):=[]
 f:List (Str×Str):=[]
structure RC where
 g:Gm
 nm:List (Str×NameKind)
 fl:List (Str×NameKind)
 N:List Str
 j:Nat
 ex:XR:=xF
 m:Nat:=0
 calm:Bool:=true
 top:Bool:=true
 d:List (Str×Option Bool):=[]
 it:Bool:=false
 dn:Option (Option Bool):=none
 cls:Str:=Str.empty
 xs:List Str:=[]
 lm:Option Str:=none
structure Zz where
 e:RC->Expr->DE
 t:RC->Expr->DT
 s:RC->List Stmt->DS
section
variable (P:Program)(w:World)(K:PySem.W.Frag)(mg:Str->Option Value)(base:Heap)
def vd (j:Nat)(x:Str):YZ->Prop
 |.fn k ps sp=>k<=j->Got P w K mg base k x ps (Xk K sp)
 |.fx k ps sp=>k<=j->tu P w K mg base k x ps (Uz K sp)
 |.cl k sp=>k+1<=j->DR P w K mg base k x (Xk K sp)
 |.cx k c init=>k+1<=j->yg P w K mg base k x c init
 |.int n=>∃ t,mg x=some (.int n t)
 |.str z=>∃ t,mg x=some (.str z t)
 |.kt _=>False
 |.blt b=>x=b.nm/\mg x=none
structure Ui (j:Nat)(G:Gm):Prop where
 g:∀ x e,(x,e)∈G.g->vd P w K mg base j x e
 r:∀ x,x∈G.r->(∀ C,PySem.W.nsIn K mainGlobals x=some (some (.ref C))->MP K C)/\∃ C,PySem.W.nsIn K mainGlobals x=some (some (.ref C))/\mg x=some (.ref C)
 f:∀ c f,(c,f)∈G.f->∀ C,PySem.W.nsIn K mainGlobals c=some (some (.ref C))->VG K C f
end
def zya (X:Cx):Option Str->Prop
 |none=>True
 |some _=>False
structure RC.Ok0 (c:RC)(X:Cx):Prop where
 nm:X.env.scope.names=c.nm
 N:X.N=c.N
 nd:c.N.Nodup
 rm:c.calm=true->zN c.j X.A
 fn:∀ x,Zt x c.fl=some .cell->X.fn x=true
 calm:c.calm=true->X.calm=true
 xe:c.m=0->X.xe=fun _ _=>False
 po:c.m<=1->PassesOwn (model X.prog X.w) X.A X.env X.xe
 kind:X.env.scope.kind=.function
 top:c.top=true->X.stack=X.env::X.outer/\X.env.frame=some X.env.locals
 gm:Ui X.prog X.w X.K X.mg X.base c.j c.g
 lm:zya X c.lm
structure RC.Ok [B:Bs](c:RC)(X:Cx):Prop extends RC.Ok0 c X where
 hX:Mj X c.ex
 hM:c.m=1->Hr X c.ex
variable [B:Bs]
section
variable {X:Cx}{c:RC}
def RC.Ok.kd (ok:c.Ok X){x:Str}:X.env.kindOf x=Zt x c.nm:=by rw[Uk,<- ok.nm];rfl
def Zj {e:Expr}:PD X e Fl.fl:=by
 with_unfolding_all
 exact by rintro Z9 s U H Q I ⟨_,_,_,_,_,_,h,_⟩;exact h.elim
def HJ {e:Expr}:YC X e Fl.fl:=by
 with_unfolding_all
 exact by rintro Z9 s U H Q I ⟨_,_,_,_,_,_,h,_⟩;exact h.elim
def mJ {e:Expr}:T5 X e Fl.fl:=by
 with_unfolding_all
 exact by rintro wh Z9 s U H Q I ⟨_,_,_,_,_,_,h,_⟩;exact h.elim
def lg {es:List Expr}:PAD X es Fl.fl:=by
 with_unfolding_all
 exact by rintro pos Z9 s U H Q I ⟨_,_,_,_,_,_,h,_⟩;exact h.elim
def DP {st:Stmt}:Zn X st Fl.fl:=by
 with_unfolding_all
 exact by rintro Z9 s U H D I ⟨_,_,_,_,_,_,h,_⟩;exact h.elim
def Xc {e:Expr}{b:Bool}{t:DE}(h:b=true->PD X e t):PD X e (ZP b t):=WL Zj h
def QD {α:Type}{e:Expr}{o:Option α}{f:α->DE}(h:∀ a,o=some a->PD X e (f a)):PD X e (ob o f):=Px Zj h
def V6 {e:Stmt}{b:Bool}{t:DS}(h:b=true->Zn X e t):Zn X e (ZP b t):=WL DP h
def uN {α:Type}{e:Stmt}{o:Option α}{f:α->DS}(h:∀ a,o=some a->Zn X e (f a)):Zn X e (ob o f):=Px DP h
def zuB {sts:List Stmt}:W5 X sts Fl.fl:=by
 with_unfolding_all
 exact by rintro Z9 s U H D I ⟨_,_,_,_,_,_,h,_⟩;exact h.elim
end
end Dp
namespace Dp
open PySem PySem.Spec PyProof.Rows L2 My
def Mt:Expr->Bool
 |.Slice _ _ _ _=>true
 |_=>false
def Rp:Expr->Bool
 |.Call _ [] [] _=>true
 |_=>false
def rD:Expr->Bool
 |.UnaryOp .Not _ _=>true
 |.BoolOp _ _ _=>true
 |.IfExp _ _ _ _=>true
 |.Compare _ _ _ _=>true
 |_=>false
def isSet:Expr->Bool
 |.Set _ _ _=>true
 |_=>false
def DQ:Expr->Bool
 |.ListComp _ _ _ _=>true
 |.SetComp _ _ _ _=>true
 |.DictComp _ _ _ _ _=>true
 |_=>false
def isTup:Expr->Bool
 |.Tuple _ _ _=>true
 |_=>false
def YG (es:List Expr):Bool:=es.all fun e=>!isStar e
def kids:Expr->List Expr
 |.BoolOp _ vs _=>vs
 |.BinOp a _ b _=>[a,b]
 |.UnaryOp _ a _=>[a]
 |.IfExp a b c _=>[a,b,c]
 |.Compare a _ bs _=>a::bs
 |.Call f as ks _=>f::as++ks.map fun k=>match k with|⟨_,v,_⟩=>v
 |.FormattedValue a _ _ _=>[a]
 |.JoinedStr vs _=>vs
 |.Attribute a _ _=>[a]
 |.Subscript a b _=>[a,b]
 |.List es _=>es
 |.Tuple es _ _=>es
 |.Slice a b c _=>a.toList++b.toList++c.toList
 |.Dict _ vs _=>vs
 |_=>[]
def nms:Nat->Expr->List Str
 |_,.Name x _=>[x]
 |n+1,.ListComp e [⟨tg,it,ifs,_⟩] _ _=>nms n it++((e::ifs).flatMap (nms n)).filter fun y=>!has y (nms n tg)
 |n+1,e=>(kids e).flatMap (nms n)
 |0,_=>[]
def KQ:Nat->Expr->Bool
 |_,.IfExp _ _ _ _=>true
 |n+1,.ListComp e [⟨_,it,ifs,_⟩] _ _=>KQ n e||KQ n it||ifs.any (KQ n)
 |n+1,e=>(kids e).any (KQ n)
 |0,_=>false
def Jh:Nat->List Stmt->Bool
 |n+1,b=>match b.getLast? with
  |some (.Return _ _)=>false
  |some (.Raise _ _ _)=>false
  |some (.Continue _)=>false
  |some (.Break _)=>false
  |some (.If _ a o _)=>Jh n a||Jh n o
  |_=>true
 |0,_=>true
def oE:Stmt->Bool
 |.Assign _ (.BoolOp _ _ _) _=>true
 |.Assign _ v _=>KQ 30 v
 |.If _ a b _=>Jh 30 a&&Jh 30 b
 |_=>false
def cop:CmpOp->Option Zk
 |.Eq=>some oEq
 |.NotEq=>some Yg
 |.Lt=>some oLt
 |.LtE=>some oLe
 |.Gt=>some X5
 |.GtE=>some Kw
 |.Is=>some Ru
 |.IsNot=>some Wn
 |.In=>some Vo
 |.NotIn=>some RQ
def uZ:Operator->Option Zk
 |.Add=>some Zx
 |.Sub=>some Zf
 |.Mult=>some YX
 |.FloorDiv=>some oDiv
 |.Mod=>some oMod
 |_=>none
def Lx (it:Bool):Bt->Nat->Option DB
 |.len,1=>some Zo
 |.abs,1=>some Jo
 |.max,2=>some Qj
 |.min,2=>some QV
 |.max,1=>some Jp
 |.min,1=>some LQ
 |.all,1=>some WK
 |.list,1=>some Qt
 |.isi,2=>some Sg
 |_,_=>none
def BW:List (Str×Nat×DM):=[
 ("extend",1,Ii),
 ("pop",9,Js),
 ("append",1,V7)]
def Oh (m:Str)(k:Nat):List (Str×Nat×DM)->Option DM
 |[]=>none
 |(y,j,r)::l=>match Nat.beq k j&&se m y with
  |true=>some r
  |false=>Oh m k l
def gl (c:RC)(x:Str):Bool:=Zt x c.nm==some .globalImplicit&&!se x "__debug__"&&!se x "__name__"
def vis (c:RC)(x:Str):Bool:=(Zt x c.nm==some .local||Zt x c.nm==some .cell||Zt x c.nm==some .free)&&!se x "__debug__"&&!se x "__classdict__"
def WT (c:RC)(x:Str):Bool:=Zt x c.nm==some .local||(Zt x c.nm==some .cell&&Zt x c.fl==some .cell)
def isD (c:RC):Expr->Bool
 |.Name x _=>(Zt x c.d).isSome
 |_=>false
abbrev RC.quiet (c:RC):RC:={ c with ex:=xF,m:=0 }
def rA (r:Zz)(c:RC):List Expr->DA
 |[]=>zm
 |e::es=>ZP (!isStar e) (zc (r.e c e) (rA r c es))
def J3 (r:Zz)(c:RC)(op:BoolOp):List Expr->DE
 |[]=>Fl.fl
 |[a]=>r.e c a
 |a::b::l=>match op with
  |.And=>QX (r.e c a) (J3 r c op (b::l))
  |.Or=>J5 (r.e c a) (J3 r c op (b::l))
def JC (r:Zz)(c:RC)(op:BoolOp):List Expr->DT
 |[]=>Fl.fl
 |[a]=>r.t c a
 |a::b::l=>match op with
  |.And=>Yc (r.t c a) (JC r c op (b::l))
  |.Or=>Wo (r.t c a) (JC r c op (b::l))
def Du (c:RC)(x:Str):DE:=match slt x c.N with
 |some i=>ZP (vis c x) (XM i)
 |none=>ZP (gl c x) (ob (Zt x c.g.g) fun
  |.int n=>dC (.int n)
  |.str z=>dC (.str z)
  |.blt b=>ob b.ty fun T=>dC (.ty T)
  |_=>Fl.fl)
def Hs (r:Zz)(c:RC)(a:Expr)(op:Operator)(b:Expr):DE:=match a,op,b with
 |.Constant (.int i) _ _,.Pow,.Constant (.int j) _ _=>ZP (decide (0<=j/\j<=1000000/\i.natAbs<2 ^ 64)) (dC (.int (i ^ j.toNat)))
 |a,op,b=>ob (uZ op) fun o=>Z6 o (r.e c a) (r.e c b)
def Dc (r:Zz)(c:RC)(a:Expr):List CmpOp->List Expr->DE
 |[op],[b]=>ZP (c.calm&&!behindInMarks op b) (match op,isD c b with
  |.In,true=>Qn (r.e c a) (r.e c b)
  |.NotIn,true=>Ow (r.e c a) (r.e c b)
  |_,_=>ob (cop op) fun o=>Z6 o (r.e c a) (r.e c b))
 |[op,op'],[b,d]=>ZP (c.calm&&!lastMarks [op,op'] [b,d]) (ob (cop op) fun o=>ob (cop op') fun o'=>PN o o' (r.e c a) (r.e c b) (r.e c d))
 |_,_=>Fl.fl
def rO (r:Zz)(c:RC):Option Expr->Option DE
 |none=>none
 |some e=>some (r.e c e)
def pP (r:Zz)(c:RC)(a b:Expr):DE:=ZP (!Mt b&&c.calm) (match isD c a with
  |true=>Ur (r.e c a) (r.e c b)
  |false=>Z6 ZR (r.e c a) (r.e c b))
def Dl (r:Zz)(c:RC)(a:Expr):Expr->DE
 |.Slice lo hi none _=>Wt Wz (r.e c a) (rO r c lo) (rO r c hi)
 |b=>pP r c a b
structure Zz.Ok (r:Zz):Prop where
 e:∀ [Bs] {c:RC} {X:Cx},c.Ok X->∀ e,PD X e (r.e c e)
 t:∀ [Bs] {c:RC} {X:Cx},c.Ok X->∀ e,YC X e (r.t c e)
 s:∀ [Bs] {c:RC} {X:Cx},c.Ok X->∀ e,W5 X e (r.s c e)
section
variable {b o e:Expr}{env:Env}
def cT (h:Mt b=false):G7 b:=by cases b<;>first|(intro _ _;rfl)|cases h
def ϧ (h:Mt b=false):Jq b:=by cases b<;>first|(intro _ _;rfl)|cases h
def Qx (h:Rp o=false){m:Str}{w:Sem Value}:attributeBase o m env w=w:=by
  cases o with
  |Call f a k p=>cases f<;>cases a<;>cases k<;>first|rfl|cases h
  |_=>rfl
def Α (h:rD e=false)(w:Sem Value):isTrue e env w=(do let v <- w;standAt e.pos;holding [v] (truthy v)):=by
  cases e with
  |UnaryOp op a p=>cases op<;>first|rfl|cases h
  |_=>first|rfl|cases h
def sG (h:isSet e=false)(x:Value):foldedSetIterable e env x=pure x:=by cases e<;>first|rfl|cases h
def uG (h:DQ e=false){t:Option Expr}{l:Nat}:swapsWith e t l env=pure false:=by cases e<;>first|rfl|cases h
def Im {es:List Expr}{pos:Pos}(h:YG es=true):(backTo pos (starEach es env)).any (·.1)=false:=J9 h
end
variable [B:Bs]
section
variable {X:Cx}{c:RC}{r:Zz}
def JX (ok:c.Ok X){x:Str}(h:gl c x=true):Gl X x/\(x==("__debug__":Str))=false/\x≠"__name__":=by simp only[gl,qw]at h;obtain⟨⟨h1,h2⟩,h3⟩:=h;rw[MF]at h2 h3;exact⟨ok.kd.trans (eq_of_beq h1),Zv h2,fun e=>by rw[e]at h3;simp at h3⟩
def fL (ok:c.Ok X){x:Str}(h:vis c x=true):L2.Vis X.env.scope x/\(x==("__debug__":Str))=false/\(x==("__classdict__":Str))=false:=by
 simp only[vis,qw]at h;obtain⟨⟨h1,h2⟩,h3⟩:=h;rw[MF]at h2 h3;refine⟨?_,Zv h2,Zv h3⟩;unfold L2.Vis;rw[ok.nm,<- Uk];simp only[PL,beq_iff_eq]at h1;rcases h1 with(h|h)|h
 ·exact .inl h
 ·exact .inr (.inl h)
 ·exact .inr (.inr h)
def Kg (ok:c.Ok X){x:Str}(h:WT c x=true):L2.Loc X.env.scope x/\(X.fn x=true\/X.env.scope.names.lookup x=some .local):=by
 unfold L2.Loc;rw[ok.nm,<- Uk];simp only[WT,PL,qw,beq_iff_eq]at h;rcases h with h|⟨h,h'⟩
 ·exact⟨.inl h,.inr h⟩
 ·exact⟨.inr h,.inl (ok.fn x h')⟩
theorem Ww (hr:r.Ok)(ok:c.Ok X):∀ {es:List Expr},PAD X es (rA r c es)
 |[]=>ug
 |e::es=>WL (Q:=PAD X (e::es)) lg fun h=>pY (hr.e ok e) (Ww hr ok) (VB (Zv h))
theorem HX (hr:r.Ok)(ok:c.Ok X){op:BoolOp}{pos:Pos}:∀ {es:List Expr},PD X (.BoolOp op es pos) (J3 r c op es)
 |[]=>Zj
 |[a]=>jg (hr.e ok a)
 |a::b::l=>by
  cases op with
  |And=>exact zqW (hr.e ok a) (HX hr ok)
  |Or=>exact fZ (hr.e ok a) (HX hr ok)
theorem Fp (hr:r.Ok)(ok:c.Ok X){op:BoolOp}{pos:Pos}:∀ {es:List Expr},T5 X (.BoolOp op es pos) (JC r c op es)
 |[]=>mJ
 |[a]=>by
  cases op with
  |And=>exact ϩ (hr.t ok a)
  |Or=>exact gQ (hr.t ok a)
 |a::b::l=>by
  cases op with
  |And=>exact ĵ (hr.t ok a) (Fp hr ok)
  |Or=>exact gR (hr.t ok a) (Fp hr ok)
def ŵ {b:Bt}{T:String}(h:b.ty=some T):bootBuiltins b.nm=some (.type T):=by cases b<;>cases h<;>first|exact boot_tuple|exact boot_list|exact boot_int|exact boot_bool|exact boot_str
def Ä (ok:c.Ok X){x:Str}{pos:Pos}:PD X (.Name x pos) (Du c x):=by
 unfold Du;cases hs:slt x c.N with
 |some i=>exact Xc fun h=>let ⟨h1,h2,h3⟩:=fL ok h;Ο i (ok.N.symm▸O7 hs) h1 h2 h3
 |none =>
  refine Xc fun h=>QD fun en he=>?_
  obtain⟨h1,h2,h3⟩:=JX ok h;have g:=ok.gm.g _ _ (Mz he);cases en with
  |int n=>exact zry h1 g h2
  |str z=>exact ÿ h1 g h2
  |blt b =>
   refine QD fun T hT=>?_
   obtain⟨rfl,g⟩:=g;exact zvY h1 g (ŵ hT) h3 h2
  |_=>exact Zj
def ĭ {op:Operator}{o:Zk}(h:uZ op=some o){pos:Pos}(ha:PD X a ta)(hb:PD X b tb):PD X (.BinOp a op b pos) (Z6 o ta tb):=by
 cases op with
 |Add=>cases h;exact ą ha hb
 |Sub=>cases h;exact dD ha hb
 |Mult=>cases h;exact zvg ha hb
 |FloorDiv=>cases h;exact zuG ha hb
 |Mod=>cases h;exact lM ha hb
 |_=>cases h
def aQ (hr:r.Ok)(ok:c.Ok X){a b:Expr}{op:Operator}{pos:Pos}:PD X (.BinOp a op b pos) (Hs r c a op b):=by
 unfold Hs;split
 ·exact Xc fun h=>zrk _ rfl (of_decide_eq_true h)
 ·exact QD fun o h=>ĭ h (hr.e ok _) (hr.e ok _)
theorem PJ {k:Nat}(hr:zN k X.A):∀ {op:CmpOp} {o:Zk},cop op=some o->OC X op o
 |.Eq,_,rfl=>iH hr
 |.NotEq,_,rfl=>zwg hr
 |.Lt,_,rfl=>kZ
 |.LtE,_,rfl=>Ť
 |.Gt,_,rfl=>cY
 |.GtE,_,rfl=>lD
 |.Is,_,rfl=>zxl
 |.IsNot,_,rfl=>zt9
 |.In,_,rfl=>zwS hr
 |.NotIn,_,rfl=>ŕ hr
abbrev PB (X:Cx)(e:Expr)(t:DE):Prop:=PD X e t/\YC X e (dT t)
def Wv {e:Expr}:PB X e Fl.fl:=⟨Zj,HJ⟩
theorem oZ (hr:r.Ok)(ok:c.Ok X){a:Expr}{pos:Pos}:∀ {ops:List CmpOp} {bs:List Expr},PB X (.Compare a ops bs pos) (Dc r c a ops bs)
  |[op],[b]=>WL (Q:=PB X _) Wv fun h=>by
    obtain⟨hc,hm⟩:=zY h;have rm:=ok.rm hc;have ga:PB X (.Compare a [op] [b] pos) (ob (cop op) fun o=>Z6 o (r.e c a) (r.e c b)):=Px (Q:=PB X _) Wv fun o ho=>⟨zrH (PJ rm ho) (hr.e ok a) (hr.e ok b) (Zv hm),Ŭ (PJ rm ho) (hr.e ok a) (hr.e ok b) (Zv hm)⟩
    cases hd:isD c b with
    |false=>cases op<;>exact ga
    |true =>
      cases op with
      |In=>exact⟨iB rm (hr.e ok a) (hr.e ok b) (Zv hm),dj rm (hr.e ok a) (hr.e ok b) (Zv hm)⟩
      |NotIn=>exact⟨zm6 rm (hr.e ok a) (hr.e ok b) (Zv hm),kY rm (hr.e ok a) (hr.e ok b) (Zv hm)⟩
      |_=>exact ga
  |[op,op'],[b,d]=>WL (Q:=PB X _) Wv fun h=>Px (Q:=PB X _) Wv fun o ho=>Px (Q:=PB X _) Wv fun o' ho'=>by obtain⟨hc,hm⟩:=zY h;have rm:=ok.rm hc;exact⟨ŋ (PJ rm ho) (PJ rm ho') (hr.e ok a) (hr.e ok b) (hr.e ok d) (Zv hm),zmB (PJ rm ho) (PJ rm ho') (hr.e ok a) (hr.e ok b) (hr.e ok d) (Zv hm)⟩
  |[],_=>Wv
  |[_],[]=>Wv
  |[_],_::_::_=>Wv
  |[_,_],[]=>Wv
  |[_,_],[_]=>Wv
  |[_,_],_::_::_::_=>Wv
  |_::_::_::_,_=>Wv
theorem tZ (hr:r.Ok)(ok:c.Ok X):∀ {e:Option Expr},PO X e (Nb X.K (rO r c e))
 |none=>ņ
 |some e=>cW (hr.e ok e)
def ztt (hr:r.Ok)(ok:c.Ok X){a b:Expr}{pos:Pos}:PD X (.Subscript a b pos) (pP r c a b):=by
 refine Xc fun h=>?_
 obtain⟨h1,h2⟩:=zY h;split
 ·exact zvr (ok.rm h2) (hr.e ok _) (hr.e ok _) (ϧ (Zv h1))
 ·exact Ô (hr.e ok _) (hr.e ok _) (cT (Zv h1))
def Ý (hr:r.Ok)(ok:c.Ok X){a b:Expr}{pos:Pos}:PD X (.Subscript a b pos) (Dl r c a b):=by
 unfold Dl;split
 ·exact zwT (hr.e ok a) (tZ hr ok) (tZ hr ok)
 ·exact ztt hr ok
end
end Dp
namespace Dp
open PySem PySem.Spec PyProof.Rows L2 My
def QF (c:RC)(b:Nat):Nat->Expr->DG
 |_,.Name x _=>ob (slt x c.N) fun i=>ZP (Nat.blt i b&&WT c x) (zT i)
 |n+1,.Tuple es _ _=>ZP (YG es&&c.calm) (YH es.length (es.foldr (fun e t=>zF (QF c b n e) t) YM))
 |_,_=>Fl.fl
def Kl (K:PySem.W.Frag)(c:RC)(b:Nat):Nat->Expr->TG
 |_,.Name x _=>ob (slt x c.N) fun i=>ZP (Nat.blt i b&&WT c x) (L2.zT i)
 |n+1,.Tuple es _ _=>ZP (YG es&&c.calm) (L2.YH K es.length (es.foldr (fun e t=>L2.zF (Kl K c b n e) t) L2.YM))
 |_,_=>Fl.fl
section
variable {env:Env}
def tH {e:Expr}{es:List Expr}(h:isStar e=false):assignEach (e::es) env=(false,assign e env)::assignEach es env:=by cases e<;>first|rfl|cases h
theorem Gd:∀ {es:List Expr},YG es=true->(assignEach es env).length=es.length/\(assignEach es env).findIdx? (·.1)=none
 |[],_=>⟨rfl,rfl⟩
 |e::es,h=>by unfold YG at h;rw[V1,qw]at h;obtain⟨h1,h2⟩:=Gd (es:=es) h.2;rw[tH (Zv h.1),qR,h1,List.findIdx?_cons,h2];exact⟨rfl,rfl⟩
end
section
variable [B:Bs]{K:PySem.W.Frag}{b:Nat}{c:RC}
def Ah:∀ (n:Nat) (e:Expr),Ws K b (QF c b n e) (Kl K c b n e):=by
 have fl:Ws K b (Fl.fl:DG) (Fl.fl:TG):=fun _ _ _ _ _ _ _ _ _ _ _ _ h _=>h
 have nm:∀ x,Ws K b (ob (slt x c.N) fun i=>ZP (Nat.blt i b&&WT c x) (zT i)) (ob (slt x c.N) fun i=>ZP (Nat.blt i b&&WT c x) (L2.zT i)):=fun x=>by
  cases slt x c.N with
  |none=>exact fl
  |some i =>
   show Ws K b (ZP (Nat.blt i b&&WT c x) (zT i)) (ZP (Nat.blt i b&&WT c x) (L2.zT i));cases h:Nat.blt i b&&WT c x with
   |false=>exact fl
   |true=>exact jL i (Nat.blt_eq.mp (zY h).1)
 intro n
 induction n with
 |zero =>
  intro e;cases e with
  |Name x p=>exact nm x
  |_=>exact fl
 |succ n ih =>
  intro e;cases e with
  |Name x p=>exact nm x
  |Tuple es k p =>
   unfold QF Kl;cases YG es&&c.calm with
   |false=>exact fl
   |true =>
    refine ř ?_
    induction es with
    |nil=>exact zmu
    |cons e es ih2=>exact zlx (ih e) ih2
  |_=>exact fl
def Ob {X:Cx}{e:Expr}:PG X e Fl.fl:=fun _ _ _ _ _ _ _ _ _ h=>h.elim
theorem nQ {X:Cx}{f:Expr->TG}:∀ {es:List Expr},YG es=true->(∀ e,PG X e (f e))->K4 X es (es.foldr (fun e t=>L2.zF (f e) t) L2.YM)
 |[],_,_=>bw
 |e::es,h,hf=>by unfold YG at h;rw[V1,qw]at h;exact cR (hf e) (nQ h.2 hf) (by rw[tH (Zv h.1)];rfl)
def yj {X:Cx}(ok:c.Ok X):∀ (n:Nat) (e:Expr),PG X e (Kl X.K c b n e):=by
 have nm:∀ x p,PG X (.Name x p) (ob (slt x c.N) fun i=>ZP (Nat.blt i b&&WT c x) (L2.zT i)):=fun x p =>Px (Q:=PG X _) Ob fun i hi=>WL (Q:=PG X _) Ob fun h=>by obtain⟨h1,h2⟩:=Kg ok (zY h).2;exact zrn (ok.N.symm▸ok.nd) (ok.N.symm▸O7 hi) h1 h2
 intro n
 induction n with
 |zero =>
  intro e;cases e with
  |Name x p=>exact nm x p
  |_=>exact Ob
 |succ n ih =>
  intro e;cases e with
  |Name x p=>exact nm x p
  |Tuple es k p=>exact WL (Q:=PG X _) Ob fun h=>zta (ok.calm (zY h).2) (nQ (zY h).1 ih) (Gd (zY h).1).1 (Gd (zY h).1).2
  |_=>exact Ob
def Aq {X:Cx}(ok:c.Ok X)(n:Nat)(e:Expr):Lk X b e (QF c b n e):=⟨_,yj ok n e,Ah n e⟩
end
def MK (c:RC):Expr->Option (Bt×List Expr)
 |.Call (.Name y _) as [] _=>match gl c y&&YG as,Zt y c.g.g with
  |true,some (.blt b)=>some (b,as)
  |_,_=>none
 |_=>none
def jc:List Expr->Bool
 |[.Constant (.int (.ofNat 0)) _ _]=>true
 |_=>false
def BZ (r:Zz)(c:RC)(a:Expr):Option DE:=match MK c a with
 |some (.set,[x])=>some (dB Ol (rA r c.quiet [x]))
 |_=>none
def Fz (r:Zz)(c:RC)(a:Expr):Option DE:=match MK c a with
 |_=>none
def GR (r:Zz)(c:RC)(b:Bt)(es:List Expr):DE:=match b,es with
 |.len,[a]=>match isD c a,BZ r c a with
  |true,_=>Fl.fl
  |false,some t=>t
  |false,none=>dB Zo (rA r c [a])
 |.list,[a]=>match Fz r c a with
  |some t=>t
  |none=>ob (Lx c.it .list 1) fun r'=>dB r' (rA r c [a])
 |b,es=>ob (Lx c.it b es.length) fun r'=>dB r' (rA r c es)
def Bw (r:Zz)(c:RC)(b:Bt)(es:List Expr):DE:=ZP c.calm (GR r c b es)
def ux (r:Zz)(c:RC)(es:List Expr):YZ->DE
 |.fn k _ sp=>ZP (k.ble c.j&&c.calm) (dCall sp (rA r c es))
 |.fx k _ sp=>ZP (k.ble c.j&&c.calm) (Ym sp c.ex (rA r c es))
 |.cl k sp=>ZP ((k+1).ble c.j&&c.calm) (dCall sp (rA r c es))
 |.cx k n init=>ZP ((k+1).ble c.j&&c.calm) (Ym (Dn n init) c.ex (rA r c es))
 |.blt b=>Bw r c b es
 |_=>Fl.fl
def Gx (r:Zz)(c:RC)(o:Expr)(m:Str)(es:List Expr):DE:=ob (Oh m (match jc es&&se m "pop" with | true=>9 | false=>es.length) BW) fun r'=>dM r' (r.e c o) (rA r c es)
def Gk (r:Zz)(c:RC)(o:Expr)(m:Str)(es:List Expr):DE:=match es with
 | [k]=>match se m "get" with
  |true=>Fl.fl
  |false=>Fl.fl
 | [k,z]=>ZP (se m "get") (M8 (r.e c o) (r.e c k) (r.e c z))
 |_=>Fl.fl
def mW:List (Str×(DE->DE->DE)) :=[]
def nj (r:Zz)(c:RC)(o:Expr)(m:Str)(es:List Expr):DE:=match es with
 |[a]=>match Zt m mW with
  |some t=>t (r.e c o) (r.e c a)
  |none=>Gx r c o m [a]
 |es=>Gx r c o m es
def wM (r:Zz)(c:RC)(o:Expr)(m:Str)(ap:Pos)(es:List Expr)(cp:Pos):DE:=ZP (!Rp o&&(ap.endLine==cp.line)&&YG es&&Nat.blt es.length 25&&c.calm) (match isD c o with
 |true=>Gk r c o m es
 |false=>nj r c o m es)
variable [B:Bs]
section
variable {X:Cx}{c:RC}{r:Zz}
theorem RC.Ok.quiet (ok:c.Ok X):c.quiet.Ok (Ti X) :=⟨⟨ok.nm,ok.N,ok.nd,ok.rm,ok.fn,ok.calm,fun _=>rfl,fun _=>PassesOwn.never,ok.kind,ok.top,ok.gm,ok.lm⟩,HD,(fun h=>nomatch h)⟩
def Nz (ok:c.Ok X){b:Bt}{e:Expr}{as:List Expr}(h:MK c e=some (b,as)):∃ p q,e=.Call (.Name b.nm p) as [] q/\YG as=true/\Gl X b.nm/\X.mg b.nm=none:=by
 unfold MK at h;split at h
 ·rename_i y p as' q;split at h
  ·rename_i hb he;cases h;obtain⟨rfl,m⟩:=ok.gm.g _ _ (Mz he);exact⟨p,q,rfl,(zY hb).2,(JX ok (zY hb).1).1,m⟩
  ·cases h
 ·cases h
def Λ {it:Bool}{b:Bt}{n:Nat}{r':DB}(hc:X.calm=true)(h:Lx it b n=some r'):(bootBuiltins b.nm=some (.builtin b.id)/\BC X (.builtin b.id) r')\/∃ T,bootBuiltins b.nm=some (.type T)/\BC X (.type T) r':=by
 unfold Lx at h;split at h
 ·cases h;exact .inl ⟨boot_len,zuY⟩
 ·cases h;exact .inl ⟨boot_abs,ı⟩
 ·cases h;exact .inl ⟨boot_max,ak hc⟩
 ·cases h;exact .inl ⟨boot_min,j8 hc⟩
 ·cases h;exact .inl ⟨boot_max,lR hc⟩
 ·cases h;exact .inl ⟨boot_min,zrg hc⟩
 ·cases h;exact .inl ⟨boot_all,zth hc⟩
 ·cases h;exact .inr ⟨_,boot_list,Ĺ⟩
 ·cases h;exact .inl ⟨boot_isinstance,ź⟩
 ·cases h
theorem oK {m:Str}{k:Nat}{r':DM}:∀ {l:List (Str×Nat×DM)},Oh m k l=some r'->(m,k,r')∈l
 |(y,j,u)::l,h=>by
  unfold Oh at h;cases e:Nat.beq k j&&se m y with
  |true =>rw[e]at h;cases h;rw[Tv (zY e).2,Nat.eq_of_beq_eq_true (zY e).1];exact qI
  |false=>rw[e]at h;exact qj _ (oK h)
def lQ (hr:zN j X.A):Al (fun p=>∃ id,Slot "list" p.1 id/\typeOf (.builtin id)=pure (.type "method_descriptor")/\MD X id p.2.2) BW :=
 .cons ⟨_,PySem.F.slot_list_extend,PySem.F.type_list_extend,å⟩ <|
 .cons ⟨_,PySem.F.slot_list_pop,PySem.F.type_list_pop,ä⟩ <|
 .cons ⟨_,PySem.F.slot_list_append,PySem.F.type_list_append,ϙ⟩ .nil
def bF (hr:zN j X.A){m:Str}{k:Nat}{r':DM}(h:Oh m k BW=some r'):∃ id,Slot "list" m id/\typeOf (.builtin id)=pure (.type "method_descriptor")/\MD X id r':=(lQ hr).mem _ (oK h)
omit B in
def zJ {e:Expr}{es:List Expr}(h:YG (e::es)=true):isStar e=false/\YG es=true:=by unfold YG at h ⊢;rw[V1,qw]at h;exact⟨Zv h.1,h.2⟩
def ô (hr:r.Ok)(ok:c.Ok X)(hc:c.calm=true)(hg:Gl X "len")(hm:X.mg "len"=none){a:Expr}{t:DE}{p pos:Pos}(h:BZ r c a=some t):PD X (.Call (.Name "len" p) [a] [] pos) t:=by
 unfold BZ at h;split at h
 ·rename_i e1;cases h;obtain⟨p1,q1,rfl,n1,g1,m1⟩:=Nz ok e1;exact uc (zru (X:=Ti X) hg hm g1 m1 (Ww hr ok.quiet) (ok.calm hc) (TF (zJ n1).1))
 ·cases h
def dY (hr:r.Ok)(ok:c.Ok X)(hc:c.calm=true)(hg:Gl X "list")(hm:X.mg "list"=none){a:Expr}{t:DE}{p pos:Pos}(h:Fz r c a=some t):PD X (.Call (.Name "list" p) [a] [] pos) t:=by
 have two:∀ {x y:Expr},YG [x,y]=true->starEach [x,y] X.env=[(false,eval x X.env),(false,eval y X.env)]/\starEach [y] X.env=[(false,eval y X.env)]:=fun n=>by obtain⟨n1,n2⟩:=zJ n;exact⟨KD n1 (zJ n2).1,TF (zJ n2).1⟩
 unfold Fz at h;cases h
def â (hr:r.Ok)(ok:c.Ok X)(hc:c.calm=true){b:Bt}{x:Str}(hx:x=b.nm)(hg:Gl X x)(hm:X.mg x=none)(hn:x≠"__name__")(hd:(x==("__debug__":Str))=false){e:Expr}{es:List Expr}(hs:YG (e::es)=true){p pos:Pos}:PD X (.Call (.Name x p) (e::es) [] pos) (GR r c b (e::es)):=by
 obtain⟨s1,s2⟩:=zJ hs;have he:starEach (e::es) X.env=(false,eval e X.env)::starEach es X.env:=VB s1;have hpl:(backTo pos (starEach es X.env)).any (·.1)=false:=Im s2
 have gen:∀ r',Lx c.it b (e::es).length=some r'->PD X (.Call (.Name x p) (e::es) [] pos) (dB r' (rA r c (e::es))):=fun r' h=>by
  rcases Λ (ok.calm hc) h with⟨h1,h2⟩|⟨T,h1,h2⟩
  ·exact Ő h2 hm (hx▸h1) (Ww hr ok) hg hn hd he hpl
  ·exact iC h2 hm (hx▸h1) (Ww hr ok) hg hn hd he hpl
 unfold GR;split
 ·rename_i e0;cases e0;split
  ·exact Zj
  ·rename_i h;subst hx;exact ô hr ok hc hg hm h
  ·exact gen _ rfl
 ·rename_i e0;cases e0;split
  ·rename_i h;subst hx;exact dY hr ok hc hg hm h
  ·exact QD gen
 ·exact QD gen
def Ϥ (hr:r.Ok)(ok:c.Ok X){x:Str}(h:gl c x=true){e:Expr}{es:List Expr}(hs:YG (e::es)=true){en:YZ}(he:Zt x c.g.g=some en){p pos:Pos}:PD X (.Call (.Name x p) (e::es) [] pos) (ux r c (e::es) en):=by
 obtain⟨h1,h2,h3⟩:=JX ok h;obtain⟨s1,s2⟩:=zJ hs;have hst:starEach (e::es) X.env=(false,eval e X.env)::starEach es X.env:=VB s1;have hpl:(backTo pos (starEach es X.env)).any (·.1)=false:=Im s2;have g:=ok.gm.g _ _ (Mz he);have A:=Ww hr ok (es:=e::es);cases en with
 |fn k ps sp=>exact Xc fun q=>zrB (g (qH (zY q).1)) (ok.rm (zY q).2) A (qH (zY q).1) h1 h2 hst hpl
 |fx k ps sp=>exact Xc fun q=>zof (g (qH (zY q).1)) ok.hX (ok.rm (zY q).2) A (qH (zY q).1) h1 h2 hst hpl
 |cl k sp=>exact Xc fun q=>zs9 (g (qH (zY q).1)) (ok.rm (zY q).2) A (qH (zY q).1) h1 h2 hst hpl
 |cx k n init=>exact Xc fun q=>ϣ (g (qH (zY q).1)) ok.hX (ok.rm (zY q).2) A (qH (zY q).1) h1 h2 hst hpl
 |int n=>exact Zj
 |str z=>exact Zj
 |kt cs=>exact Zj
 |blt b =>obtain⟨hx,hm⟩:=g;show PD X _ (Bw r c b (e::es));unfold Bw;exact Xc fun q=>â hr ok q hx h1 hm h3 h2 hs
omit B in
def Et {env:Env}{pos:Pos}{es:List Expr}(hs:YG es=true)(hl:es.length<25):((backTo pos (starEach es env)).all (fun x=>!x.1)&&(backToKw pos (keywordEach [] env)).all (fun x=>x.1.isSome)
  &&decide (es.length+([]:List Keyword).length+(if([]:List Keyword).isEmpty then 0 else 1)<30))=true:=by
 have h1:(backTo pos (starEach es env)).all (fun x=>!x.1)=true:=by have:=Im (env:=env) (pos:=pos) hs;rw[List.all_eq_not_any_not];simpa using this
 rw[h1];simp only[Bool.true_and];have:(backToKw pos (keywordEach [] env)).all (fun x=>x.1.isSome)=true:=rfl;rw[this,Bool.true_and];exact decide_eq_true (by show es.length+0+0<30;lia)
def yx (hr:r.Ok)(ok:c.Ok X){o:Expr}{m:Str}{es:List Expr}{ap cp:Pos}(h1:Rp o=false)(h2:(ap.endLine==cp.line)=true)(h3:YG es=true)(h4:es.length<25)(h5:c.calm=true):PD X (.Call (.Attribute o m ap) es [] cp) (Gx r c o m es):=by
 refine QD fun r' h=>?_
 obtain⟨id,sl,ty,md⟩:=bF (ok.rm h5) h;cases es with
 |nil=>exact fM sl ty md (hr.e ok o) (Qx h1) h2
 |cons e es=>exact ig sl ty md (hr.e ok o) (Ww hr ok) (Qx h1) (Et h3 h4) h2 (VB (zJ h3).1) (Im (zJ h3).2)
def j9 (hr:r.Ok)(ok:c.Ok X){o:Expr}{m:Str}{es:List Expr}{ap cp:Pos}(h1:Rp o=false)(h2:(ap.endLine==cp.line)=true)(h3:YG es=true)(h4:es.length<25)(h5:c.calm=true):PD X (.Call (.Attribute o m ap) es [] cp) (Gk r c o m es):=by
 have rm:=ok.rm h5;unfold Gk;split
 ·have s1:=TF (env:=X.env) (zJ h3).1;have M:∀ n,M1 X o n ap _ cp:=fun n=>⟨Qx h1,Et h3 h4,h2,by rw[s1];rfl⟩
  split
  ·exact Zj
  ·exact Zj
 ·refine Xc fun e=>?_
  rw[Tv e];have s2:=KD (env:=X.env) (zJ h3).1 (zJ (zJ h3).2).1;exact aO rm (hr.e ok _) (hr.e ok _) (hr.e ok _) ⟨Qx h1,Et h3 h4,h2,by rw[s2];rfl⟩
 ·exact Zj
def ϗ:Al (fun p=>∀ {a b:Expr} {ta tb:DE} {ap cp:Pos},PD X a ta->PD X b tb->Rp a=false->isStar b=false->(ap.endLine==cp.line)=true->PD X (.Call (.Attribute a p.1 ap) [b] [] cp) (p.2 ta tb)) mW :=.nil
def Ķ (hr:r.Ok)(ok:c.Ok X){o:Expr}{m:Str}{es:List Expr}{ap cp:Pos}:PD X (.Call (.Attribute o m ap) es [] cp) (wM r c o m ap es cp):=by
 refine Xc fun h=>?_
 simp only[qw]at h;obtain⟨⟨⟨⟨h1,h2⟩,h3⟩,h4⟩,h5⟩:=h;have h4:=Nat.blt_eq.mp h4;have h1:=Zv h1;split
 ·exact j9 hr ok h1 h2 h3 h4 h5
 ·unfold nj;split
  ·split
   ·rename_i e;exact ϗ.mem _ (Mz e) (hr.e ok _) (hr.e ok _) h1 (zJ h3).1 h2
   ·exact yx hr ok h1 h2 h3 h4 h5
  ·exact yx hr ok h1 h2 h3 h4 h5
end
end Dp
namespace Dp
open PySem PySem.Spec PyProof.Rows L2 My
def Iw (r:Zz)(c:RC)(tg it:Expr):DI:=match MK c it with
 |some (.range,[a])=>RZ (rA r c [a])
 |some (.range,[a,b])=>K3 (rA r c [a,b])
 |some (.zip,[a,b])=>ZP (isTup tg) (Jd (rA r c [a,b]))
 |some (.enum,[a])=>ZP (isTup tg) (VN (rA r c [a]))
 |_=>Zi (r.e c it)
def Og (r:Zz)(c:RC)(tg:Expr):Expr->DI
 | .Call (.Attribute o m ap) es ks cp=>match se m "items" with
  |true=>ZP (isTup tg&&!Rp o&&(ap.endLine==cp.line)&&es.isEmpty&&ks.isEmpty) (Jf (r.e c o))
  |false=>Iw r c tg (.Call (.Attribute o m ap) es ks cp)
 |it=>Iw r c tg it
def ì (y:Str×NameKind):Str×NameKind:=match y with
 |(n,.free)=>(n,.cell)
 |y=>y
def RC.inner (c:RC)(sc:Scope)(N:List Str):RC:={ c with nm:=sc.names.map ì,fl:=sc.names,N:=N,ex:=xF,m:=0,top:=false,lm:=none }
def frees (own N:List Str)(l:List Str):List Str:=l.foldl (fun acc y=>match has y own||!has y N||has y acc with
 |true=>acc
 |false=>acc++[y]) []
def Nu:List Str->Bool
 |[]=>true
 |x::l=>!has x l&&Nu l
def Iu (c:RC)(sc:Scope):List Str->List Nat->Bool
 |[],[]=>true
 |x::xs,j::js=>slt x c.N==some j&&Zt x sc.names==some .free&&Zt x c.nm==some .cell&&Iu c sc xs js
 |_,_=>false
def nF (c:RC)(sc:Scope):Bool:=sc.kind==.function&&sc.names.all fun y=>match y.2 with
 |.free=>Zt y.1 c.nm==some .cell
 |.cell=>Zt y.1 sc.names==some .cell
 |.local=>Zt y.1 sc.names==some .local
 |_=>true
def Ku (r:Zz)(c ci:RC)(e tg it:Expr)(ifs:List Expr)(sc:Scope):DE :=
 let own:=nms 9 tg;let free:=frees own c.N ((e::ifs).flatMap (nms 30));let fv:=free.filterMap fun x=>slt x c.N
 let c1:=c.inner sc (own++free)
 ZP (nF c sc&&Nu (own++free)&&Iu c sc free fv&&!isSet it&&c.calm) (Zh own.length fv (Og r ci tg it) (QF c1 own.length 9 tg) (match ifs with
  |[]=>Yj
  |[t]=>r.t c1 t
  |_=>Fl.fl) (r.e c1 e))
theorem vN {x:Str}:∀ {l:List Str},has x l=false->x∉l
 |[],_=>qJ
 |y::r,h=>by
  unfold has at h;rw[Bool.or_eq_false_iff,MF]at h;intro m;rcases ql.mp m with e|m
  ·rw[e]at h;simp at h
  ·exact vN h.2 m
theorem Ks:∀ {l:List Str},Nu l=true->l.Nodup
 |[],_=>List.nodup_nil
 |x::l,h=>VH.mpr ⟨vN (Zv (zY h).1),Ks (zY h).2⟩
variable [B:Bs]
section
variable {X:Cx}{c ci:RC}{r:Zz}
def CG {tg e:Expr}:Xh X tg e Fl.fl:=by
 with_unfolding_all
 exact by rintro Z9 s U H R I ⟨_,_,_,_,_,_,h,_⟩;exact h.elim
def xJ (hr:r.Ok)(ok:c.Ok X){tg it:Expr}:Xh X tg it (Iw r c tg it):=by
 unfold Iw;split
 ·rename_i e1;obtain⟨p,q,rfl,n1,g1,m1⟩:=Nz ok e1;exact zqL m1 (Ww hr ok) g1 (TF (zJ n1).1)
 ·rename_i e1;obtain⟨p,q,rfl,n1,g1,m1⟩:=Nz ok e1;exact eF m1 (Ww hr ok) g1 (KD (zJ n1).1 (zJ (zJ n1).2).1) (TF (zJ (zJ n1).2).1)
 ·rename_i e1;obtain⟨p,q,rfl,n1,g1,m1⟩:=Nz ok e1;refine WL (Q:=Xh X tg _) CG fun h=>?_
  cases tg with
  |Tuple es k p=>exact zub g1 m1 (Ww hr ok) (KD (zJ n1).1 (zJ (zJ n1).2).1) (TF (zJ (zJ n1).2).1)
  |_=>cases h
 ·rename_i e1;obtain⟨p,q,rfl,n1,g1,m1⟩:=Nz ok e1;refine WL (Q:=Xh X tg _) CG fun h=>?_
  cases tg with
  |Tuple es k p=>exact bf g1 m1 (Ww hr ok) (TF (zJ n1).1)
  |_=>cases h
 ·exact jV (hr.e ok _)
def Ey (hr:r.Ok)(ok:c.Ok X){tg it:Expr}:Xh X tg it (Og r c tg it):=by
 unfold Og;split
 ·split
  ·rename_i o m ap es ks cp hm;refine WL (Q:=Xh X tg _) CG fun h=>?_
   simp only[qw]at h;obtain⟨⟨⟨⟨h1,h2⟩,h3⟩,h4⟩,h5⟩:=h;have e4:=List.isEmpty_iff.mp h4;have e5:=List.isEmpty_iff.mp h5;have e6:=Tv hm;subst e4 e5 e6;cases tg with
   |Tuple es k p=>exact Ã (hr.e ok _) ⟨Qx (Zv h2),rfl,h3⟩
   |_=>cases h1
  ·exact xJ hr ok
 ·exact xJ hr ok
theorem rK (ok:c.Ok X){sc:Scope}:∀ {xs:List Str} {js:List Nat},Iu c sc xs js=true->Ve X sc xs js
 |[],[],_=>True.intro
 |x::xs,j::js,h=>by unfold Iu at h;simp only[qw]at h;obtain⟨⟨⟨h1,h2⟩,h3⟩,h4⟩:=h;exact⟨ok.N.symm▸O7 (eq_of_beq h1),Uk.symm.trans (eq_of_beq h2),ok.kd.trans (eq_of_beq h3),rK ok h4⟩
structure GZ (X:Cx)(sc:Scope):Prop where
 kind:sc.kind=.function
 fr:W6 (fun x=>X.env.kindOf x=some .cell) sc.names
 cell:∀ y∈sc.names,y.2=.cell->sc.names.lookup y.1=some .cell
 loc:∀ y∈sc.names,y.2=.local->sc.names.lookup y.1=some .local
omit B in
theorem xR {P:Str->Prop}:∀ {l:List (Str×NameKind)},(∀ y∈l,y.2=.free->P y.1)->W6 P l
 |[],_=>True.intro
 |(n,k)::l,h=>by
  have t:=xR (l:=l) fun y hy=>h y (qj _ hy)
  cases k with
  |free=>exact⟨h _ qI rfl,t⟩
  |_=>exact t
def zw7 (ok:c.Ok X){sc:Scope}(h:nF c sc=true):GZ X sc:=by
 obtain⟨h1,h2⟩:=zY h;have g:=WM.mp h2;refine⟨eq_of_beq h1,xR fun y hy e=>?_,fun y hy e=>?_,fun y hy e=>?_⟩
 ·have:=g y hy;rw[e]at this;exact ok.kd.trans (eq_of_beq this)
 ·have:=g y hy;rw[e]at this;exact Uk.symm.trans (eq_of_beq this)
 ·have:=g y hy;rw[e]at this;exact Uk.symm.trans (eq_of_beq this)
theorem RC.Ok.inner (ok:c.Ok X)(hxe:X.xe=fun _ _=>False){N:List Str}(hs:GZ X sc)(hN:N.Nodup)(cl:List (Str×Addr))(C:Addr)(s₀:Shared)(H₀:Hp)(ex:List Addr):(c.inner sc N).Ok (My.inner X sc N cl C s₀ H₀ ex) where
 nm:=by
  refine List.map_congr_left fun y hy=>?_
  obtain⟨n,k⟩:=y;cases k with
  |free =>have:=W6.of hs.fr _ hy rfl;show(if(NameKind.free==NameKind.free&&X.env.scope.kind==.function&&X.env.kindOf n==some .cell)=true then _ else _)=_;rw[if_pos (by rw[ok.kind,this];rfl)];rfl
  |_=>rfl
 N:=rfl
 nd:=hN
 rm:=ok.rm
 fn:=fun x h=>by rw[Uk]at h;show(sc.names.lookup x==some .cell)=true;rw[show sc.names.lookup x=some .cell from h];rfl
 calm:=ok.calm
 xe:=fun _=>hxe
 hX:=HD
 hM:=fun h=>nomatch h
 po:=fun _=>by show PassesOwn _ _ _ X.xe;rw[hxe];exact PassesOwn.never
 kind:=hs.kind
 top:=fun h=>nomatch h
 gm:=ok.gm
 lm:=trivial
structure jC (X:Cx)(c ci:RC)(r:Zz)(e tg it:Expr)(ifs:List Expr)(sc:Scope)(own free:List Str)(fv:List Nat)(g:DG)(g':TG)(tc:DT)(te:DE):Prop where
 s:GZ X sc
 fv:Ve X sc free fv
 g:Ws X.K own.length g g'/\∀ cl C s₀ H₀ ex,PG (My.inner X sc (own++free) cl C s₀ H₀ ex) tg g'
 t:∀ cl C s₀ H₀ ex,LC (My.inner X sc (own++free) cl C s₀ H₀ ex) ifs tc
 e:∀ cl C s₀ H₀ ex,PD (My.inner X sc (own++free) cl C s₀ H₀ ex) e te
 fs:∀ x,foldedSetIterable it X.env x=pure x
 ca:X.calm=true
def o9 (hr:r.Ok)(ok:c.Ok X)(hxe:X.xe=fun _ _=>False){Q:DE->Prop}(hf:Q Fl.fl){e tg it:Expr}{ifs:List Expr}{sc:Scope}(h:∀ own free fv g g' tc te,jC X c ci r e tg it ifs sc own free fv g g' tc te->Q (Zh own.length fv (Og r ci tg it) g tc te)):Q (Ku r c ci e tg it ifs sc):=by
 refine WL hf fun b=>?_
 simp only[qw]at b;obtain⟨⟨⟨⟨h1,h2⟩,h3⟩,h4⟩,h5⟩:=b;have hs:=zw7 ok h1;have inn:=fun cl C s₀ H₀ ex=>ok.inner hxe hs (Ks h2) cl C s₀ H₀ ex
 refine h _ _ _ _ _ _ _ ⟨hs,rK ok h3,⟨Ah 9 tg,fun cl C s₀ H₀ ex=>yj (inn cl C s₀ H₀ ex) 9 tg⟩,fun cl C s₀ H₀ ex=>?_,fun cl C s₀ H₀ ex=>hr.e (inn cl C s₀ H₀ ex) e,sG (Zv h4),ok.calm h5⟩;have i:=inn cl C s₀ H₀ ex;split
 ·exact zss
 ·exact mL (hr.t i _)
 ·with_unfolding_all
  exact by rintro Z9 s U H Q I ⟨_,_,_,_,_,_,h,_⟩;exact h.elim
def jT (hr:r.Ok)(ok:c.Ok X)(oki:ci.Ok X)(hxe:X.xe=fun _ _=>False){e tg it:Expr}{ifs:List Expr}{sc:Scope}{pos:Pos}:PD X (.ListComp e [⟨tg,it,ifs,0⟩] sc pos) (Ku r c ci e tg it ifs sc) :=o9 (Q:=PD X _) hr ok hxe Zj fun _ _ _ _ _ _ _ h=>eE h.s.fr h.fv (Ey hr oki) h.g h.t h.e h.ca hxe h.s.kind h.s.cell h.s.loc h.fs
end
def UJ (a:Arguments)(ps:List Str):Bool:=match a with
 |⟨[],as,none,[],[],none,[]⟩=>as.map (·.arg)==ps&&Nu ps
 |_=>false
omit B in
theorem yp {α β:Type}{f g:α->Option β}:∀ {l:List α},(∀ x∈l,f x=g x)->l.filterMap f=l.filterMap g
 |[],_=>rfl
 |x::l,h=>by rw[Pu,Pu,h x qI,yp fun y hy=>h y (qj _ hy)]
omit B in
theorem rR:∀ {ps:List Str} {us:List Value},ps.Nodup->us.length=ps.length->ps.filterMap (fun n=>((ps.zip us).lookup n).map (n,·))=ps.zip us
 |[],_,_,_=>rfl
 |p::ps,[],_,h=>by simp at h
 |p::ps,u::us,nd,hl=>by
  obtain⟨n1,n2⟩:=VH.mp nd;have e:List.lookup p ((p,u)::ps.zip us)=some u:=by rw[qu,beq_self_eq_true]
  rw[List.zip_cons_cons,Pu,e];show(p,u)::_=_;refine congrArg _ (Eq.trans ?_ (rR n2 (by simpa using hl)));refine yp fun x hx=>?_
  have:(x==p)=false:=beq_eq_false_iff_ne.mpr fun e=>n1 (e▸hx)
  rw[qu,this]
omit B in
theorem uP:∀ {ps:List Str} {us:List Value} {x:Str},us.length=ps.length->x∈ps->((ps.zip us).lookup x).isSome=true
 |p::ps,u::us,x,hl,hx=>by
  rw[List.zip_cons_cons,qu];cases e:x==p with
  |true=>rfl
  |false =>
   rcases ql.mp hx with rfl|hx
   ·simp at e
   ·exact uP (by simpa using hl) hx
 |p::ps,[],x,hl,hx=>by simp at hl
omit B in
def xG {fd:FuncData}{ps:List Str}{us:List Value}(hp:UJ fd.params ps=true)(hd:fd.defaults=.none)(hl:us.length=ps.length):bindArgs fd ⟨us,[]⟩=pure (ps.zip us):=by
 unfold UJ at hp;split at hp
 ·rename_i as e;obtain⟨h1,h2⟩:=zY hp;have h1:=eq_of_beq h1;unfold bindArgs;rw[e,hd]
  have e1:(ps.filter fun n=>(List.lookup n (ps.zip us)).isNone)=[]:=by
   rw[List.filter_eq_nil_iff];intro x hx;have:=uP hl hx;cases e:(ps.zip us).lookup x with
   |none=>rw[e]at this;cases this
   |some _=>simp
  have e2:=rR (Ks h2) hl;have hs:seqItems? Value.none=pure none:=rfl;have g:∀ n:Nat,(decide (n<n))=false:=fun n=>decide_eq_false (Xz n)
  simp only[hs,h1,Qe,List.nil_append,Xn,Oe,pure_bind,Option.getD_none,Array.toList_empty,List.drop_nil,List.zip_nil_right,Qo,Nat.sub_zero,Wa,e1,e2,List.isEmpty_nil,Ri,Uv,if_false,gt_iff_lt,hl,g,V5]
 ·cases hp
section
variable {X:Cx}{c:RC}{r:Zz}
end
def stE (r:Zz)(c:RC):Expr->DE
 |.Name x _=>Du c x
 |.Constant (.int i) _ _=>dC (.int i)
 |.Constant (.str x) _ _=>dC (.str x)
 |.Constant (.bool b) _ _=>dC (.bl b)
 |.Constant .none _ _=>dC .non
 |.BinOp a op b _=>Hs r c a op b
 |.UnaryOp .Not a _=>QZ (r.e c a)
 |.UnaryOp .USub a _=>V9 V3 (r.e c a)
 |.BoolOp op es _=>J3 r c op es
 |.Compare a ops bs _=>Dc r c a ops bs
 |.IfExp t a b _=>pD (r.t c t) (r.e c a) (r.e c b)
 |.Tuple es _ _=>dTup (rA r c es)
 |.List es _=>Yd (rA r c es)
 |.Dict [] [] _=>match c.dn with
  |some (some true)=>Mw
  |some (some false)=>CJ
  |some none=>Nr
  |_=>Fl.fl
 |.Dict [some a] [b] _=>match c.dn with
  |some (some false)=>ZP c.calm (MN (r.e c a) (r.e c b))
  |_=>Ed (r.e c a) (r.e c b)
 |.Subscript a b _=>Dl r c a b
 |.Attribute a f _=>ZP (!Rp a) (X7 f (r.e c a))
 |.Call (.Name x _) (a::as) [] _=>ZP (gl c x&&YG (a::as)) (ob (Zt x c.g.g) (ux r c (a::as)))
 |.Call (.Attribute o m ap) es [] cp=>wM r c o m ap es cp
 |.ListComp e [⟨tg,it,ifs,0⟩] sc _=>Ku r c.quiet c.quiet e tg it ifs sc
 |_=>Fl.fl
def Gn (r:Zz)(c:RC):Expr->DT
 |.Compare a ops bs _=>dT (Dc r c a ops bs)
 |.UnaryOp .Not a _=>W7 (r.t c a)
 |.BoolOp op es _=>JC r c op es
 |e=>ZP (!rD e) (dT (r.e c e))
section
variable {X:Cx}{c:RC}{r:Zz}
def Ź (hr:r.Ok)(ok:c.Ok X)(e:Expr):PD X e (stE r c e):=by
  cases e with
  |Name x p=>exact Ä ok
  |Constant v k p=>cases v with
    |int i=>exact Ν
    |str x=>exact tK
    |bool b=>exact zwD
    |none=>exact Ū
    |_=>exact Zj
  |BinOp a op b p=>exact aQ hr ok
  |UnaryOp op a p=>cases op with
    |Not=>exact Ē (hr.e ok _)
    |USub=>exact aN (hr.e ok _)
    |_=>exact Zj
  |BoolOp op es p=>exact HX hr ok
  |Compare a ops bs p=>exact(oZ hr ok).1
  |IfExp t a b p=>exact zuE (hr.t ok _) (hr.e ok _) (hr.e ok _)
  |Tuple es k p=>exact Ó (Ww hr ok)
  |List es p=>exact ztM (Ww hr ok)
  |Dict ks vs p=>cases ks with
    |nil=>cases vs with
      |nil =>
        show PD X _ (match c.dn with
          |some (some true)=>Mw
          |some (some false)=>CJ
          |some none=>Nr
          |_=>Fl.fl)
        split
        . exact ã
        . exact τ
        . exact eX
        . exact Zj
      |cons=>exact Zj
    |cons k ks=>cases k with
      |none=>exact Zj
      |some a=>cases ks with
        |cons=>exact Zj
        |nil=>cases vs with
          |nil=>exact Zj
          |cons b vs=>cases vs with
            |cons=>exact Zj
            |nil =>
              show PD X _ (match c.dn with
                |some (some false)=>ZP c.calm (MN (r.e c a) (r.e c b))
                |_=>Ed (r.e c a) (r.e c b))
              split
              . exact Xc fun h=>zol (ok.rm h) (hr.e ok _) (hr.e ok _)
              exact aY (hr.e ok _) (hr.e ok _)
  |Subscript a b p=>exact Ý hr ok
  |Attribute a f p=>exact Xc fun h=>fP (hr.e ok _) (Qx (Zv h))
  |Call f as kws p=>cases f with
    |Name x p2=>cases as with
      |nil=>exact Zj
      |cons a as=>cases kws with
        |nil=>exact Xc fun h=>QD fun en he=>Ϥ hr ok (zY h).1 (zY h).2 he
        |cons kw kws =>
          obtain⟨arg,val,kp⟩:=kw;cases arg with
          |none=>cases as<;>exact Zj
          |some kw=>cases val with
            |_=>cases as<;>exact Zj
    |Attribute o m ap=>cases kws with
      |nil=>exact Ķ hr ok
      |cons=>exact Zj
    |_=>exact Zj
  |ListComp e gs sc p=>cases gs with
    |nil=>exact Zj
    |cons g gs =>
      obtain⟨tg,it,ifs,n⟩:=g;cases n with
      |negSucc=>exact Zj
      |ofNat n=>cases n with
        |succ=>exact Zj
        |zero=>cases gs with
          |nil=>exact uc (jT hr ok.quiet ok.quiet rfl)
          |cons=>exact Zj
  |_=>exact Zj
def aL (hr:r.Ok)(ok:c.Ok X)(e:Expr):YC X e (Gn r c e):=by
 unfold Gn;split
 ·exact(oZ hr ok).2
 ·exact Ą (hr.t ok _)
 ·exact zsA (Fp hr ok)
 ·exact WL (Q:=YC X _) HJ fun h=>fY (hr.e ok _) (Α (Zv h))
end
end Dp
namespace Dp
open PySem PySem.Spec PyProof.Rows L2 My
def zyO (c:RC)(e:Expr):Bool:=(nms 30 e).any fun y=>match Zt y c.g.g with
 |some (.fx _ _ _)=>true
 |some (.cx _ _ _)=>true
 |_=>false
def swB (c:RC)(y:Str)(py lp:Pos)(sc:Scope):Bool:=Zt y c.nm==some .local&&py.line==lp.line&&!(sc.names.any fun (n,k)=>n==y&&(k==.local||k==.cell))
def rH (r:Zz)(c:RC)(x:Str)(px:Pos)(v:Expr):DS:=ob (slt x c.N) fun i=>match v with
 |.ListComp e [⟨tg,it,ifs,0⟩] sc lp=>match swB c x px lp sc with
  |true=>match c.m==0||!zyO c it with
   |true=>zq (Ku r c.quiet c.quiet e tg it ifs sc) (zT i)
   |false=>Yb
  |false=>ZP (WT c x&&Zt x c.nm==some .cell) (zq (r.e { c with dn:=Zt x c.d } v) (zT i))
 |v=>ZP (WT c x&&!DQ v) (zq (r.e { c with dn:=Zt x c.d } v) (zT i))
def dkN (c:RC):Expr->Bool
 |.Name x _=>Zt x c.d==some none
 |_=>false
def Fx (r:Zz)(c:RC)(v:Expr):Expr->DS
 |.Name x px=>rH r c x px v
 |.Attribute o f _=>ZP (c.g.f.any fun p=>se c.cls p.1&&se f p.2) (Wf c.cls f (r.e c o) (r.e c v))
 |.Subscript o i _=>ZP (!Mt i) (match isD c o with
  |true=>ZP c.calm (match dkN c o with
   |true=>R5 (r.e c o) (r.e c i) (r.e c v)
   |false=>Mh (r.e c o) (r.e c i) (r.e c v))
  |false=>zq (r.e c v) (Qi (r.e c o) (r.e c i)))
 |.Tuple es k p=>match es,v with
  |es,v=>ZP (!isTup v) (zq (r.e c v) (QF c 1000 9 (.Tuple es k p)))
 |_=>Yb
def Fv (c:RC)(it:Expr):Expr->DG
 |tg=>QF c 1000 9 tg
def rS (r:Zz)(c:RC):Stmt->DS
 |.Pass _=>zH
 |.Break _=>Ae
 |.Continue _=>yq
 |.Return (some e) _=>zB (r.e c e)
 |.Expr e _=>ZP (!DQ e) (Y4 (r.e c e))
 |.If t a b _=>ZK (r.t c t) (r.s c a) (r.s c b)
 |.While t a [] _=>ZP (c.m.ble 1) (Vp (r.t c t) (r.s c a))
 |.For tg it a [] _=>ZP (c.m.ble 1&&c.calm&&!isSet it) (Yr (Og r c tg it) (Fv c it tg) (r.s c a))
 |.AugAssign (.Name x _) .Add e _=>ob (slt x c.N) fun i=>ZP (WT c x) (Lr i (r.e c e))
 |.Assign [tg] v _=>Fx r c v tg
 |.Raise (some (.Call (.Name x _) [.Constant (.str _) _ _] [] _)) none _=>match c.m==1 with
  |true=>ZP (has x c.g.r&&gl c x&&c.calm) (Tt c.ex x)
  |false=>Yb
 |_=>Yb
def HW (r:Zz)(c:RC):List Stmt->DS
 |[]=>zH
 |[st]=>rS r c st
 |st::s2::l=>zf (match oE st with
  |true=>sJ (rS r c st)
  |false=>rS r c st) (HW r c (s2::l))
section
variable {env:Env}{v:Expr}
def xT {a b:Expr}{p:Pos}{l:Nat}:swapsWith v (some (.Subscript a b p)) l env=pure false:=by cases v<;>rfl
def gD {a b:Expr}{p:Pos}{l:Nat}:swapsWithSole [.Subscript a b p] v l env=pure false:=by cases v<;>rfl
def ğ {a:Expr}{f:Str}{p:Pos}{l:Nat}:swapsWith v (some (.Attribute a f p)) l env=pure false:=by cases v<;>rfl
def aR {o i : Expr} {p : Pos} (h : Mt i = false) (v : Value) : assign (.Subscript o i p) env v = (do
      let ov <- holding [v] (eval o env);let iv <- holding [v,ov] (eval i env)
      standAt p
      holding [v,ov,iv] (setItem ov iv v)
      release [v,ov,iv] []):=by cases i<;>first|rfl|cases h
def ϡ {es:List Expr}{k:Nat}{p:Pos}{l:Nat}:swapsWithSole [.Tuple es k p] v l env=pure false:=by cases v<;>rfl
def gH (h:isTup v=false){es:List Expr}{k:Nat}{p:Pos}:swappedStores [.Tuple es k p] v env=pure none:=by cases v<;>first|rfl|cases h
def Á {a b:Expr}{p:Pos}:swappedStores [.Subscript a b p] v env=pure none:=by cases v<;>rfl
def iW {x:Str}{p:Pos}{l:Nat}(h:env.kindOf x=some .cell):swapsWith v (some (.Name x p)) l env=pure false:=by
 cases v with
 |ListComp=>show pure (env.blockKind==.function&&env.kindOf x==some .local&&_&&_)=_;rw[h,show((some NameKind.cell==some NameKind.local):Bool)=false from rfl,SX,V5,V5]
 |SetComp=>show pure (env.blockKind==.function&&env.kindOf x==some .local&&_&&_)=_;rw[h,show((some NameKind.cell==some NameKind.local):Bool)=false from rfl,SX,V5,V5]
 |DictComp=>show pure (env.blockKind==.function&&env.kindOf x==some .local&&_&&_)=_;rw[h,show((some NameKind.cell==some NameKind.local):Bool)=false from rfl,SX,V5,V5]
 |_=>rfl
def Ĥ (h:env.scope.kind=.function):env.blockKind=.function:=by unfold Env.blockKind;rw[h];rfl
def zoX {x:Str}{p lp:Pos}{l:Nat}{e:Expr}{gs:List Comprehension}{sc:Scope}(hk:env.scope.kind=.function)(h:env.kindOf x=some .local)(hl:(p.line==lp.line)=true)(hn:(sc.names.any fun (n,k)=>n==x&&(k==.local||k==.cell))=false):swapsWith (.ListComp e gs sc lp) (some (.Name x p)) l env=pure true:=by show pure (env.blockKind==.function&&env.kindOf x==some .local&&p.line==lp.line&&!(sc.names.any fun (n,k)=>n==x&&(k==.local||k==.cell)))=_;rw[Ĥ hk,h,hl,hn];rfl
end
variable [B:Bs]
section
variable {X:Cx}{c:RC}{r:Zz}
theorem RC.Ok.dn (ok:c.Ok X){d:Option (Option Bool)}:RC.Ok { c with dn:=d } X:=⟨⟨ok.nm,ok.N,ok.nd,ok.rm,ok.fn,ok.calm,ok.xe,ok.po,ok.kind,ok.top,ok.gm,ok.lm⟩,ok.hX,ok.hM⟩
omit B in
theorem tQ {x:Str}:∀ {l:List Str},has x l=true->x∈l
 |y::r,h=>by
  unfold has at h;rcases(PL _ _).mp h with h|h
  ·rw[Tv h];exact qI
  ·exact qj _ (tQ h)
def je (ok:c.Ok X){it tg:Expr}:Lk X 1000 tg (Fv c it tg):=by unfold Fv;exact Aq ok 9 _
def zrK (hr:r.Ok)(ok:c.Ok X){x:Str}{px pos:Pos}{v:Expr}:Zn X (.Assign [.Name x px] v pos) (rH r c x px v):=by
 refine uN fun i hi=>?_
 have hi:=ok.N.symm▸O7 hi;have nd:=ok.N.symm▸ok.nd;split
 ·rename_i e tg it ifs sc lp;split
  ·rename_i hb;obtain⟨h,h3⟩:=zY hb;obtain⟨h1,h2⟩:=zY h;have hl:=eq_of_beq h1;have hsw:=zoX (l:=pos.line) (e:=e) (gs:=[⟨tg,it,ifs,0⟩]) ok.kind (ok.kd.trans hl) h2 (Zv h3);have hl':X.env.scope.names.lookup x=some .local:=ok.kd.trans hl;split
   ·exact Δ (o9 (Q:=fun t=>Zn (Ti X) _ (zq t (zT i))) hr ok.quiet rfl DP fun _ _ _ _ _ _ _ h=>ö (X:=Ti X) nd h.s.fr h.fv (Ey hr ok.quiet) h.g h.t h.e hi hl' h.ca rfl h.s.kind h.s.cell h.s.loc hsw h.fs)
   ·exact zP
  ·refine V6 fun h=>?_
   obtain⟨h1,h2⟩:=zY h;obtain⟨s1,s2⟩:=Kg ok h1;exact rP nd (hr.e ok.dn _) hi s1 (iW (ok.kd.trans (eq_of_beq h2))) s2
 ·refine V6 fun h=>?_
  obtain⟨h1,h2⟩:=zY h;obtain⟨s1,s2⟩:=Kg ok h1;exact rP nd (hr.e ok.dn _) hi s1 (uG (Zv h2)) s2
def zqv (hr:r.Ok)(ok:c.Ok X){tg v:Expr}{pos:Pos}:Zn X (.Assign [tg] v pos) (Fx r c v tg):=by
 have nd:=ok.N.symm▸ok.nd;unfold Fx;split
 ·exact zrK hr ok
 ·refine V6 fun h=>?_
  obtain⟨⟨a,b⟩,hp,h⟩:=List.any_eq_true.mp h;obtain⟨h1,h2⟩:=zY h;exact jy (ok.gm.f _ _ (by rw[Tv h1,Tv h2];exact hp)) (hr.e ok _) (hr.e ok _) ğ
 ·refine V6 fun h=>?_
  split
  ·refine V6 fun h2=>?_
   split
   ·exact zpk (ok.rm h2) (hr.e ok _) (hr.e ok _) (hr.e ok _) xT
   exact Ţ (ok.rm h2) (hr.e ok _) (hr.e ok _) (hr.e ok _) xT
  ·exact wQ (hr.e ok _) (ύ (hr.e ok _) (hr.e ok _) (aR (Zv h))) gD Á
 ·exact V6 fun h=>wQ (hr.e ok _) (Aq ok 9 _) ϡ (gH (Zv h))
 ·exact zP
def Ds (hr:r.Ok)(ok:c.Ok X)(st:Stmt):Zn X st (rS r c st):=by
 have nd:=ok.N.symm▸ok.nd;cases st with
 |Pass p=>exact ς
 |Break p=>exact ω
 |Continue p=>exact zot
 |Return v p=>cases v with
  |none=>exact zP
  |some e=>exact Ϣ (hr.e ok _)
 |Expr e p=>exact V6 fun h=>znT (hr.e ok _) (uG (Zv h))
 |If t a b p=>exact gC (hr.t ok _) (hr.s ok _) (hr.s ok _)
 |While t a o p=>cases o with
  |nil=>exact V6 fun h=>zm0 (hr.t ok _) (hr.s ok _) (ok.po (qH h))
  |cons=>exact zP
 |For tg it a o p=>cases o with
  |cons=>exact zP
  |nil =>
   refine V6 fun h=>?_
   simp only[qw]at h;obtain⟨⟨h1,h2⟩,h3⟩:=h;exact ţ (Ey hr ok) (je ok) (hr.s ok _) (ok.po (qH h1)) (ok.calm h2) (sG (Zv h3))
 |AugAssign tg op e p=>cases tg with
  |Name x p2=>cases op with
   |Add =>
    refine uN fun i hi=>V6 fun h=>?_
    obtain⟨s1,s2⟩:=Kg ok h;exact ħ nd (hr.e ok _) (ok.N.symm▸O7 hi) s1 s2
   |_=>exact zP
  |_=>exact zP
 |Assign ts v p=>cases ts with
  |nil=>exact zP
  |cons tg ts=>cases ts with
   |nil=>exact zqv hr ok
   |cons=>exact zP
 |Raise ex ca p=>cases ex with
  |none=>exact zP
  |some ex=>cases ex with
   |Call f as kws p2=>cases f with
    |Name x p3=>cases as with
     |nil=>exact zP
     |cons a as=>cases a with
      |Constant v k p4=>cases v with
       |str z=>cases as with
        |cons=>exact zP
        |nil=>cases kws with
         |cons=>exact zP
         |nil=>cases ca with
          |some=>exact zP
          |none =>
           show Zn X _ (match c.m==1 with
            |true=>ZP (has x c.g.r&&gl c x&&c.calm) (Tt c.ex x)
            |false=>Yb)
           cases hm:c.m==1 with
           |true =>
            refine V6 fun h=>?_
            simp only[qw]at h;obtain⟨⟨h1,h2⟩,h3⟩:=h;obtain⟨g1,g2,g3⟩:=JX ok h2;obtain⟨r1,r2⟩:=ok.gm.r _ (tQ h1);exact jx (ok.hM (eq_of_beq hm)) (ok.calm h3) r1 r2 g1 (pY tK ug (VB rfl)) (fun _ _ _ h=>h _) g2 (VB rfl)
           |false=>exact zP
       |_=>exact zP
      |_=>exact zP
    |_=>exact zP
   |_=>exact zP
 |_=>exact zP
theorem tX (hr:r.Ok)(ok:c.Ok X):∀ (l:List Stmt),W5 X l (HW r c l)
 |[]=>zo0
 |[st]=>È (Ds hr ok st)
 |st::s2::l=>by
  refine eG ?_ (tX hr ok (s2::l));cases oE st with
  |true=>exact zwP (Ds hr ok st)
  |false=>exact Ds hr ok st
end
noncomputable def rd (n:Nat):Zz:=Nat.rec ⟨fun _ _=>Fl.fl,fun _ _=>Fl.fl,fun _ _=>Fl.fl⟩ (fun _ r=>⟨stE r,Gn r,HW r⟩) n
omit B in
theorem Nk:∀ n,(rd n).Ok
 |0=>⟨fun _ _=>Zj,fun _ _=>HJ,fun _ _=>zuB⟩
 |n+1=>⟨fun ok e=>Ź (Nk n) ok e,fun ok e=>aL (Nk n) ok e,fun ok l=>tX (Nk n) ok l⟩
end Dp
namespace Dp
open PySem PySem.Spec PyProof.Rows L2 My
def Tf (N ps:List Str)(st:Stmt):Bool:=(zK st).kind==.function&&!(zK st).isCoroutine&&!(zK st).isGenerator&&Nu N&&ps.all (fun x=>Zt x (zK st).names==some .local||Zt x (zK st).names==some .cell)&&(zK st).names.all (fun y=>!(y.2==.free))&&UJ (Xl st) ps
def sI {M ps:List Str}{st:Stmt}(h:Tf (ps++M) ps st=true):Ph (ps++M) ps (zK st):=by
 simp only[Tf,qw]at h;obtain⟨⟨⟨⟨⟨⟨h1,h2⟩,h3⟩,h4⟩,h5⟩,h6⟩,_⟩:=h;refine⟨eq_of_beq h1,Zv h2,Zv h3,Ks h4,List.take_left,fun x hx=>?_,fun y hy e=>?_⟩
 ·have:=WM.mp h5 x hx;simpa [Uk]using this
 ·have:=WM.mp h6 y hy;rw[e]at this;cases this
def Lp (_:PySem.W.Frag)(_:Str->Option Value)(_:Heap)(_:List Str):Prop:=True
def Nt (G:Gm)(xs:List Str)(x:Str)(st:Stmt):YZ->Prop
 |.fn (k+1) ps sp=>UJ (Xl st) ps=true/\∀ P w K mg base f fd,Lp K mg base xs->Ui P w K mg base k G->FH K x st f fd->YK P w K mg base Wq (k+1) f fd ps (Xk K sp)
 |.fx (k+1) ps sp=>UJ (Xl st) ps=true/\∀ P w K mg base f fd,Lp K mg base xs->Ui P w K mg base k G->FH K x st f fd->YK P w K mg base (Vq P w) (k+1) f fd ps (Uz K sp)
 |_=>False
def RowC (G:Gm)(c:Str)(st:Stmt):YZ->Prop
 | .cl (k+1) sp=>∃ ps init,sp=SN c init/\UJ (Xl st) ps=true/\∀ P w K mg base q f fd,Ui P w K mg base k G->W9 K "__init__" q st f fd->YK P w K mg base Wq (k+1) f fd ps (Xk K init)
 | .cx (k+1) c' init=>c'=c/\∃ ps,UJ (Xl st) ps=true/\∀ P w K mg base q f fd,Ui P w K mg base k G->W9 K "__init__" q st f fd->YK P w K mg base (Vq P w) (k+1) f fd ps (Uz K init)
 |_=>False
def wk (K:PySem.W.Frag)(c:Str)(st:Stmt):Prop:=∃ C f fd,PySem.W.nsIn K mainGlobals c=some (some (.ref C))/\Mk K C f/\Cls K C/\∃ q,W9 K "__init__" q st f fd
abbrev Lz (G:Gm)(st:Stmt)(N:List Str)(k m:Nat)(ex:XR)(d:List (Str×Option Bool))(it:Bool)(cls:Str)(lm:Option Str):RC:={ g:=G,nm:=(zK st).names,fl:=(zK st).names,N:=N,j:=k,ex:=ex,m:=m,d:=d,it:=it,cls:=cls,lm:=lm }
section
variable {G:Gm}{xs:List Str}{x qual c:Str}{st:Stmt}{k:Nat}{ps M:List Str}{sp:ZX}{sx:Yo}{b:DS}{bx:XR->DS}{d:List (Str×Option Bool)}{it:Bool}{cls:Str}
def rE {K:PySem.W.Frag}{base:Heap}(body:BodyOk (ps++M).length b sp)(len:∀ ds So Q,sp ds So Q->ds.length=ps.length)(h:(Tf (ps++M) ps st,(rd 60).s (Lz G st (ps++M) k 0 xF d it cls none) (XH st))=(true,b))(hG:Ui P w K mg base k G)(F:W9 K x qual st f fd):YK P w K mg base Wq (k+1) f fd ps (Xk K sp):=by
 obtain⟨h1,h2⟩:=VD h;have S:=sI h1;refine Ģ F S len body fun cdv A outer s H E hr _=>?_
 rw[<- h2];exact(Nk 60).s ⟨⟨rfl,rfl,S.nd,fun _=>hr,fun _ _=>rfl,fun _=>rfl,fun _=>rfl,fun _=>PassesOwn.never,S.kind,fun _=>⟨rfl,rfl⟩,hG,by exact trivial⟩,HD,(fun h=>by cases h)⟩ _
def ώ {K:PySem.W.Frag}{base:Heap}(body:Vt (ps++M).length bx sx)(len:∀ ds So Q ex,sx ds So Q ex->ds.length=ps.length)(h:(Tf (ps++M) ps st,fun ex=>(rd 60).s (Lz G st (ps++M) k 1 ex d it cls none) (XH st))=(true,bx))(hG:Ui P w K mg base k G)(F:W9 K x qual st f fd):YK P w K mg base (Vq P w) (k+1) f fd ps (Uz K sx):=by
 obtain⟨h1,h2⟩:=VD h;have S:=sI h1;refine zpt F S len body fun cdv A outer s H E hr _ ex hX hM=>?_
 rw[<- h2];exact(Nk 60).s ⟨⟨rfl,rfl,S.nd,fun _=>hr,fun _ _=>rfl,fun _=>rfl,(fun h=>by cases h),fun _=>PassesOwn.leaving,S.kind,fun _=>⟨rfl,rfl⟩,hG,by exact trivial⟩,hX,fun _=>hM⟩ _
def Ep (h:Tf (ps++M) ps st=true):UJ (Xl st) ps=true:=(zY h).2
theorem Nt.fn (body:BodyOk (ps++M).length b sp)(d:List (Str×Option Bool))(it:Bool)(h:(Tf (ps++M) ps st,(rd 60).s (Lz G st (ps++M) k 0 xF d it Str.empty none) (XH st))=(true,b))
    (len:∀ ds So Q,sp ds So Q->ds.length=ps.length:=by (intros;rename_i h;repeat (first|(obtain⟨e,_⟩:=h;subst e;rfl)|obtain⟨_,h⟩:=h))):Nt G xs x st (.fn (k+1) ps sp) :=
  ⟨Ep (VD h).1,fun P w K mg base f fd _ hG F=>rE body len h hG F.F⟩
theorem Nt.fx (body:Vt (ps++M).length bx sx)(d:List (Str×Option Bool))(it:Bool)(h:(Tf (ps++M) ps st,fun ex=>(rd 60).s (Lz G st (ps++M) k 1 ex d it Str.empty none) (XH st))=(true,bx))
    (len:∀ ds So Q ex,sx ds So Q ex->ds.length=ps.length:=by (intros;rename_i h;repeat (first|(obtain⟨e,_⟩:=h;subst e;rfl)|obtain⟨_,h⟩:=h))):Nt G xs x st (.fx (k+1) ps sx) :=
  ⟨Ep (VD h).1,fun P w K mg base f fd _ hG F=>ώ body len h hG F.F⟩
theorem RowC.cl {init:ZX}(body:BodyOk (ps++M).length b init)(h:(Tf (ps++M) ps st,(rd 60).s (Lz G st (ps++M) k 0 xF [] false c none) (XH st))=(true,b))
    (len:∀ ds So Q,init ds So Q->ds.length=ps.length:=by (intros;rename_i h;repeat (first|(obtain⟨e,_⟩:=h;subst e;rfl)|obtain⟨_,h⟩:=h))):RowC G c st (.cl (k+1) (SN c init)) :=
  ⟨ps,init,rfl,Ep (VD h).1,fun P w K mg base _ f fd hG F=>rE body len h hG F⟩
end
def JV (K:PySem.W.Frag)(x:Str):YZ->Prop
 |.blt b=>x=b.nm/\PySem.W.nsIn K mainGlobals x=some none
 |.int n=>∃ t,PySem.W.nsIn K mainGlobals x=some (some (.int n t))
 |.str z=>∃ t,PySem.W.nsIn K mainGlobals x=some (some (.str z t))
 |_=>False
def oh (K:PySem.W.Frag)(x:Str):Prop:=∃ C,PySem.W.nsIn K mainGlobals x=some (some (.ref C))/\Km K C=true
def wG (K:PySem.W.Frag)(q:Str×Str):Prop:=∃ C,PySem.W.nsIn K mainGlobals q.1=some (some (.ref C))/\PySem.W.findIn K (.ref C) q.2=some none
abbrev zG (x:Str)(st:Stmt)(e:YZ):Str×Stmt×YZ:=(x,st,e)
abbrev ent (x:Str)(e:YZ):Str×YZ:=(x,e)
structure IV (G:Gm)(xs:List Str)(bs:List (Str×YZ))(F C:List (Str×Stmt×YZ)):Prop where
 g:G.g=bs++(F++C).map fun r=>(r.1,r.2.2)
 f:Al (fun r=>Nt G xs r.1 r.2.1 r.2.2) F
 c:Al (fun r=>RowC G r.1 r.2.1 r.2.2) C
structure CT (K:PySem.W.Frag)(G:Gm)(bs:List (Str×YZ))(F C:List (Str×Stmt×YZ)):Prop where
 b:Al (fun q=>JV K q.1 q.2) bs
 f:Al (fun r=>∃ f fd,FH K r.1 r.2.1 f fd) F
 c:Al (fun r=>wk K r.1 r.2.1) C
 r:Al (oh K) G.r
 w:Al (wG K) G.f
section
variable {P:Program}{w:World}{K:PySem.W.Frag}{mg:Str->Option Value}{base h:Heap}{G:Gm}{xs:List Str}{bs:List (Str×YZ)}{F C:List (Str×Stmt×YZ)}
def Jl {st:Stmt}{ps:List Str}(F:W9 K x qual st f fd)(h:UJ (Xl st) ps=true):Binds K fd ps []:=F.binds fun _ _ _ _ _ _ us hl=>xG h rfl hl
def jm (R:IV G xs bs F C)(X:K.In h)(N:h.Ns mainGlobals mg)(T:Lp K mg base xs)(S:CT K G bs F C):∀ j,Ui P w K mg base j G:=by
 have rest:∀ j,(∀ x e,(x,e)∈G.g->vd P w K mg base j x e)->Ui P w K mg base j G:=fun j hg=>{
  g:=hg
  r:=fun x hx=>by obtain⟨D,h1,h2⟩:=S.r.mem x hx;exact⟨fun D' hn=>by rw[h1]at hn;cases hn;exact MP.of h2,D,h1,PySem.W.mg_of X N h1⟩
  f:=fun c f hx D hn=>by obtain⟨D',h1,h2⟩:=S.w.mem _ hx;rw[h1]at hn;cases hn;exact h2 }
 refine fun j=>Nat.strongRecOn j fun j ih=>rest j fun x e he=>?_
 rw[R.g]at he;rcases qD.mp he with hb|hb
 ·have b:=S.b.mem _ hb;cases e with
  |int n=>obtain⟨t,b⟩:=b;exact⟨t,PySem.W.mg_of X N b⟩
  |str z=>obtain⟨t,b⟩:=b;exact⟨t,PySem.W.mg_of X N b⟩
  |blt b'=>exact⟨b.1,PySem.W.mg_none_of X N b.2⟩
  |_=>exact b.elim
 ·obtain⟨⟨y,st,e⟩,hr,e'⟩:=qv.mp hb;cases e';rcases qD.mp hr with hr|hr
  ·have q:=R.f.mem _ hr;obtain⟨f,fd,H⟩:=S.f.mem _ hr;cases e with
   |fn k ps sp=>cases k with
    |zero=>exact q.elim
    |succ k=>exact fun z=>⟨⟨f,fd,q.2 _ _ _ _ _ _ _ T (ih k z) H,Jl H.F q.1,H.F.kp,PySem.W.mg_of X N H.a⟩⟩
   |fx k ps sp=>cases k with
    |zero=>exact q.elim
    |succ k=>exact fun z=>⟨⟨f,fd,q.2 _ _ _ _ _ _ _ T (ih k z) H,Jl H.F q.1,H.F.kp,PySem.W.mg_of X N H.a⟩⟩
   |_=>exact q.elim
  ·have q:=R.c.mem _ hr;obtain⟨D,f,fd,h1,h2,h3,_,h4⟩:=S.c.mem _ hr;cases e with
   |cl k sp=>cases k with
    |zero=>exact q.elim
    |succ k =>obtain⟨ps,init,e1,ha,q⟩:=q;have e1:sp=SN y init:=e1;subst e1;exact fun z=>⟨⟨D,f,fd,ps,_,h2,q _ _ _ _ _ _ _ _ (ih k (Uy z)) h4,Jl h4 ha,PySem.W.mg_of X N h1,Ϝ h3 h1⟩⟩
   |cx k c' sp=>cases k with
    |zero=>exact q.elim
    |succ k =>obtain⟨e1,ps,ha,q⟩:=q;have e1:c'=y:=e1;subst e1;exact fun z=>⟨⟨D,f,fd,ps,h2,q _ _ _ _ _ _ _ _ (ih k (Uy z)) h4,Jl h4 ha,PySem.W.mg_of X N h1,h3,h1⟩⟩
   |_=>exact q.elim
def ê {L:Nat}{st:Stmt}{sp:ZX}{fa:Addr}{P:Program}{w:World}(R:IV G xs bs F C)(hl:(("law":Str),st,YZ.fn (L+1) ["script"] sp)∈F)(X:K.In h)(N:h.Ns mainGlobals mg)(S:CT K G bs F C)(hfa:mg "law"=some (.ref fa)) :
  ∃ fd:FuncData,(∀ (s:Shared) (u:Value),BindsTo s fd ⟨[u],[]⟩ [("script",u)])/\∀ base:Heap,K.In base->base.Ns mainGlobals mg->Lp K mg base xs->YK P w K mg base Wq (L+1) fa fd ["script"] (Xk K sp):=by
 obtain⟨f,fd,H⟩:=S.f.mem _ hl;have q:=R.f.mem _ hl;have e:=hfa.symm.trans (PySem.W.mg_of X N H.a);cases e;obtain⟨oc,od,kV,doc,pm,an,cdv,ct,osl,rfl,Zt,hcd⟩:=H.F.ex;exact⟨_,fun s u=>.of_eq (xG (ps:=["script"]) q.1 rfl rfl),fun base hb hn T=>q.2 _ _ _ _ _ _ _ T (jm R X N T S L) H⟩
end
section
variable {K:PySem.W.Frag}{x c:Str}{st:Stmt}
def zoq {b:Bt}(e:x=b.nm)(h:PySem.W.nsIn K mainGlobals x=some none):JV K x (.blt b):=⟨e,h⟩
def dR {n:Int}{t:Tok}(h:PySem.W.nsIn K mainGlobals x=some (some (.int n t))):JV K x (.int n):=⟨t,h⟩
def jG {z:Str}{t:Tok}(h:PySem.W.nsIn K mainGlobals x=some (some (.str z t))):JV K x (.str z):=⟨t,h⟩
def jz {f:Addr}{oc:Value}{od an:Option Addr}{osl:Array (Option Value)}{kV doc pm cdv ct:Value}(a:PySem.W.nsIn K mainGlobals x=some (some (.ref f)))
  (l:K.lookup f=some ⟨oc,od,.func (PySem.W.fnOf x x (Xl st) (XH st) (zK st) .none kV doc pm an cdv ct),osl⟩) (c:PySem.W.codeIn K cdv x=true) (k:PySem.W.keepIn K (.ref f)=true):∃ f fd,FH K x st f fd:=⟨f,_,bC a l c k⟩
def Ě {q:Str}{C f:Addr}{oc kV dc pm cd ct:Value}{od an:Option Addr}{sl:Array (Option Value)}(a:PySem.W.nsIn K mainGlobals c=some (some (.ref C)))(q2:PySem.W.findIn K (.ref C) "__init__"=some (some (.ref f)))
  (l:K.lookup f=some ⟨oc,od,.func (PySem.W.fnOf "__init__" q (Xl st) (XH st) (zK st) .none kV dc pm an cd ct),sl⟩) (cc:PySem.W.codeIn K cd q=true) (k:PySem.W.keepIn K (.ref f)=true)
  (q1:PySem.W.makesIn K C=true) (q3:PySem.W.isFn K (.ref f)=true) (q4:PySem.W.keepIn K (.ref C)=true) (q5:PySem.W.plainGet K C Str.empty=true) (q6:PySem.W.hasDictIn K C=true) (q7:PySem.W.plainOver K C=true) (q8:PySem.W.findIn K (.ref C) "__setattr__"=some (some (.builtin "object.__setattr__"))):wk K c st :=
 ⟨C,f,_,a,⟨q1,q2,q3,q4⟩,⟨q5,q6,q7,q8⟩,q,vI l cc k⟩
def Ĵ {C:Addr}(a:PySem.W.nsIn K mainGlobals x=some (some (.ref C)))(h:Km K C=true):oh K x:=⟨C,a,h⟩
def zuD {C:Addr}(a:PySem.W.nsIn K mainGlobals x=some (some (.ref C)))(h:PySem.W.findIn K (.ref C) f=some none):wG K (x,f):=⟨C,a,h⟩
end
section
variable {l:PySem.W.OpenLaw}{q:Program}{loose:List Str}{XP:(Str->Option Value)->Heap->Prop}{YP:World->Heap->Prop}{d:DefRec}{K:Params->PySem.W.Frag}{G:Gm}{bs:List (Str×YZ)}{F C:List (Str×Stmt×YZ)}{st:Stmt}
def zxS {K:PySem.W.Frag}{mg:Str->Option Value}{base:Heap}:Lp K mg base []:=trivial
def ï (L:Nat)(hn:l.most=some 63)(hdf:d.params.defaults=[])(hd:d.name="law")(hr:zN (L+1) callerA)(hY:∀ (w:World) (h:Heap),YP w h->(K w.params).In h)
  (R:IV G [] bs F C) (hl:(("law":Str),st,YZ.fn (L+1) ["script"] O8)∈F) (S:∀ w:World,CT (K w.params) G bs F C):PySem.W.WalkO q loose XP YP l.row.toRowW d [] (fun f vs=>PySem.call f vs) :=
 Æ (n:=63) (sp:=fun w=>Xk (K w.params) O8) hn (by decide) hdf hr hY (fun w mg fa h KX N hfa=>by obtain⟨fd,hb,hF⟩:=ê R hl KX N (S w) (hd▸hfa);exact⟨fd,hb,fun base b n=>hF base b n zxS⟩) fun _ _ _ _ hl hg hO hS=>zvs hl hg hO hS
end
end Dp
open PySem Dp
local macro_rules | `(tactic| walk_at"dat")=>`(tactic| first | assumption | exact zO | exact Ov | (refine(zQ _ _ _).trans ?_;exact rfl) | exact zA (by assumption))
local macro_rules | `(tactic| walk_at"l")=>`(tactic| first | assumption | exact Lst.rl | exact Lst.at0 | exact Lst.new | (refine Lst.at ?_;exact rfl) | exact Lst.old (by assumption) | exact Lst.here (by assumption) | exact Lst.here (zA (by assumption)))
local macro_rules | `(tactic| walk_at"dseq")=>`(tactic| first | exact Or.inl rfl | (refine Or.inr ?_;walk_at"l"))
local macro_rules | `(tactic| walk_at"d")=>`(tactic| first | assumption | exact My.Bd.mono (by assumption) (by decide) | exact My.Bd.lit (by decide) (by decide) | (refine My.Bd.add ?_ ?_<;>walk_at"d") | (refine My.Bd.sub ?_ ?_<;>walk_at"d") | (refine My.Bd.neg ?_;walk_at"d") | (refine My.Bd.mulH ?_ ?_<;>walk_at"d") | (refine My.Bd.emod (by first | decide | lia) ?_;walk_at"d") | (refine My.Bd.ediv ?_;walk_at"d"))
local macro_rules | `(tactic| walk_at"dmul")=>`(tactic| first | assumption | exact Or.inr (Or.inl (by first | decide | lia)) | exact Or.inr (Or.inr (by first | decide | lia)) | exact Or.inl ⟨by walk_at"d",by walk_at"d"⟩)
local macro_rules | `(tactic| walk_at"ddiv")=>`(tactic| first | assumption | exact⟨by first | decide | lia,by walk_at"d"⟩)
local macro_rules | `(tactic| walk_at"dr1")=>`(tactic| first|(with_reducible refine zy8 fun _ _ _=>?_)|(with_reducible refine aq fun _ _=>?_)|(with_reducible refine zza fun _ _=>?_)|((with_reducible refine nxi (W:=?rvw) ?rvk ?_);(case rvk=>assumption))|((with_reducible refine nxl (W:=?rvw) ?rvk ?_);(case rvk=>assumption)))
local macro_rules | `(tactic| walk_at"dr1")=>`(tactic| with_reducible first|refine dZ ?_|refine ç ?_|refine Í ?_)
local macro_rules | `(tactic| walk_at"dr1")=>`(tactic| with_reducible first|refine jK ?_|refine zuU ?_|refine zuA ?_|refine ζ ?_|refine Ϧ ?_|refine ϛ ?_|refine lY ?_|refine mH ?_|refine Ľ ?_|refine lU ?_|refine zsd ?_|refine ő ?_)
local macro_rules | `(tactic| walk_at"dr1")=>`(tactic| first|((with_reducible refine zvQ (xs:=?rvx) ?rvl ?_);(case rvl=>walk_at"l")))
local macro_rules | `(tactic| walk_at"dr1")=>`(tactic| with_reducible first|refine Fb ?_|refine Cd ?_|refine gY ?_|refine zxa ?_|refine aG ?_|refine oR ?_|refine zuF ?_|refine cF ?_|refine zxm ?_)
local macro_rules | `(tactic| walk_at"dr1")=>`(tactic| first|((with_reducible refine ztg (xs:=?rvx) ?rvl ?_);(case rvl=>walk_at"l"))|((with_reducible refine Ϯ (a:=?rvv) ?rvk ?_);(case rvk=>exact rfl))|((with_reducible refine JF (xs:=?rvx) ?rvk ?rvl ?_);(case rvk=>walk_at"dat");(case rvl=>first | exact Nat.lt_of_ble_eq_true rfl | assumption | (simp only[big,qf,qR,Qo,qa]at *;lia))))
local macro_rules | `(tactic| walk_at"dr1")=>`(tactic| with_reducible first|refine zvu ?_|refine Ă ?_|refine ao ?_|refine gJ ?_|refine zs5 ?_|refine iG ?_|refine cU ?_|refine jJ ?_|refine eU ?_|refine cG ?_)
local macro_rules | `(tactic| walk_at"dr1")=>`(tactic| first|((with_reducible refine zuk ?rvk ?_);(case rvk=>exact rfl)))
local macro_rules | `(tactic| walk_at"dr1")=>`(tactic| with_reducible first|refine zis ?_|refine bA ?_|refine zgK ?_|refine ztD ?_|refine zqY ?_)
local macro_rules | `(tactic| walk_at"dr1")=>`(tactic| first|((with_reducible refine zsS (xs:=?rvx) ?rvl ?_);(case rvl=>walk_at"l"))|((with_reducible refine zsm (xs:=?rvx) ?rvl ?_);(case rvl=>walk_at"l")))
local macro_rules | `(tactic| walk_at"dr1")=>`(tactic| with_reducible first|refine zvz ?_|refine ztJ ?_|refine zvI ?_)
local macro_rules | `(tactic| walk_at"dr1")=>`(tactic| with_reducible first|refine HF ?_|refine œ ?_|refine zv7 ?_|refine ų ?_|refine Ϩ ?_|refine Xm ?_|refine tE ?_|refine G3 ?_|refine zsL ?_|refine yL ?_|refine Vn ?_|refine cO ?_)
local macro_rules | `(tactic| walk_at"dr1")=>`(tactic| first|((with_reducible refine Hx (ys:=?rvx) ?rvk ?_);(case rvk=>walk_at"dat")))
local macro_rules | `(tactic| walk_at"dr1")=>`(tactic| with_reducible first|refine jo ?_|refine ϳ ?_|refine r_b ?_|refine j7 ?_)
local macro_rules | `(tactic| walk_at"dr1")=>`(tactic| first|((with_reducible refine gw ?rvk ?_);(case rvk=>exact rfl)))
local macro_rules | `(tactic| walk_at"dr1")=>`(tactic| with_reducible first|refine uU ?_|refine ν ?_)
local macro_rules | `(tactic| walk_at"dr1")=>`(tactic| with_reducible first|refine Č ?_|refine dG ?_|refine zwo ?_|refine ű ?_|refine zzh ?_|refine gG ?_|refine jA ?_|refine zs8 ?_|refine zuT ?_|refine zqj ?_|refine jw ?_|refine DX ?_)
local macro_rules | `(tactic| walk_at"dr1")=>`(tactic| first|((with_reducible refine zv3 ?rvk ?_);(case rvk=>walk_at"dmul"))|((with_reducible refine Υ ?rvk ?_);(case rvk=>walk_at"ddiv"))|((with_reducible refine zwm ?rvk ?_);(case rvk=>first | assumption | decide | lia))|((with_reducible refine Ĕ (d:=?rvv) ?rvk ?_);(case rvk=>first | assumption | exact rfl))|((with_reducible refine zxs (xs:=?rvx) (d:=?rvv) ?rvl ?rvk ?_);(case rvl=>walk_at"l");(case rvk=>first | assumption | exact rfl)))
local macro_rules | `(tactic| walk_at"dr1")=>`(tactic| with_reducible first|refine Ϭ ?_)
local macro_rules | `(tactic| walk_at"dr1")=>`(tactic| with_reducible first|refine r_c ?_|refine Ko ?_|refine bG ?_|refine ć ?_|refine ñ ?_|refine zwx ?_|refine cJ ?_|refine jl ?_|refine Ś ?_|refine zyX ?_|refine zwL ?_|refine bV ?_)
local macro_rules | `(tactic| walk_at"dr1")=>`(tactic| first|((with_reducible refine QJ (d:=?rvv) ?rvk ?_);(case rvk=>exact rfl)))
local macro_rules | `(tactic| walk_at"dr1")=>`(tactic| with_reducible first|refine zzi ?_|refine Ň ?_)
local macro_rules | `(tactic| walk_at"dr1")=>`(tactic| first|((with_reducible refine zri (g:=?rv1) (b:=?rv2) (f:=?rv3) (h:=?rv4) (a:=?rv5) (l:=?rv6) (d:=?rv7) ?rvk ?_);(case rvk=>walk_at"dat"))|((with_reducible refine zud (g:=?rv1) (b:=?rv2) (f:=?rv3) (h:=?rv4) (a:=?rv5) (l:=?rv6) (d:=?rv7) ?rvk ?_);(case rvk=>walk_at"dat")))
local macro_rules | `(tactic| walk_at"dr1")=>`(tactic| first|((with_reducible refine zwM (l:=?rvx) ?rvk ?_);(case rvk=>walk_at"dat"))|((with_reducible refine iI (g:=?rv1) (b:=?rv2) (f:=?rv3) (h:=?rv4) (a:=?rv5) (l:=?rv6) (d:=?rv7) ?rvk ?_);(case rvk=>walk_at"dat"))|((with_reducible refine zm4 (g:=?rv1) (b:=?rv2) (f:=?rv3) (h:=?rv4) (a:=?rv5) (l:=?rv6) (d:=?rv7) ?rvk ?_);(case rvk=>walk_at"dat"))|((with_reducible refine fQ (g:=?rv1) (b:=?rv2) (f:=?rv3) (h:=?rv4) (a:=?rv5) (l:=?rv6) (d:=?rv7) ?rvk ?_);(case rvk=>walk_at"dat"))|((with_reducible refine ztH (g:=?rv1) (b:=?rv2) (f:=?rv3) (h:=?rv4) (a:=?rv5) (l:=?rv6) (d:=?rv7) ?rvk ?_);(case rvk=>walk_at"dat")))
local macro_rules | `(tactic| walk_at"dr1")=>`(tactic| with_reducible first|refine vh ?_|refine zrL ?_|refine jP ?_|refine sy ?_|refine ztU ?_|refine zwt ?_)
local macro_rules | `(tactic| walk_at"dr1")=>`(tactic| with_reducible first|refine zyU ?_|refine k_drop ?_|refine zxY ?_|refine kE ?_|refine jM ?_|refine k_m ?_|refine zx5 ?_|refine zzg ?_|refine ji ?_|refine zyI ?_|refine Cg ?_|refine zu9 ?_)
local macro_rules | `(tactic| walk_at"dr1")=>`(tactic| with_reducible first|refine iZ ?_|refine zxZ ?_|refine zx0 ?_|refine Ê ?_|refine Ń ?_|refine Ξ ?_|refine iM ?_|refine ϭ ?_|refine Ĭ ?_|refine Ė ?_|refine zyF ?_|refine zyB ?_)
local macro_rules | `(tactic| walk_at"g")=>`(tactic| repeat walk_at"dr1")
local macro_rules | `(tactic| walk_at"h")=>`(tactic| simp only[SJ,qP,Qe,qR,Qo,Nat.reduceSub,Nat.reduceAdd,List.replicate,qbv,List.nil_append,List.set_cons_zero,Jj])
local macro_rules | `(tactic| walk_at"j")=>`(tactic| simp only[List.set_cons_zero,Jj])
namespace Dp
open PySem Rm My
def JM:ZX:=fun ds S Q=>∃ (ns:List Int) (k:Int),ds=[.rl (ns.map D.int),.int k]/\0<=k/\∀ v,Q (.int v) S
abbrev Y5:DG:=zT 0
abbrev Vw:DG:=zT 1
abbrev Yx:DG:=zT 2
abbrev YB:DG:=zT 3
abbrev YD:DG:=zT 4
abbrev Yv:DG:=zT 5
abbrev W3:DG:=zT 6
abbrev Ub:DG:=zT 7
abbrev KZ:DG:=zT 8
abbrev Fe:DG:=zT 9
abbrev Bh:DG:=zT 10
abbrev fK:DG:=zT 11
abbrev æ:DG:=zT 12
abbrev Z4:DE:=XM 0
abbrev Z0:DE:=XM 1
abbrev ZW:DE:=XM 2
abbrev ZS:DE:=XM 3
abbrev ZJ:DE:=XM 4
abbrev Y8:DE:=XM 5
abbrev Ye:DE:=XM 6
abbrev V0:DE:=XM 7
abbrev V2:DE:=XM 8
abbrev Oc:DE:=XM 9
abbrev Vz:DE:=XM 10
abbrev sE:DE:=XM 11
abbrev bD:DE:=XM 12
abbrev ZL:DE:=dC (.int 0)
abbrev ZQ:DE:=dC (.int 1)
abbrev Ul:DE:=dC (.int 2)
abbrev Ke:DE:=dC (.int 3)
abbrev Vs:DE:=dC (.int 4)
abbrev R8:DE:=dC (.int 5)
abbrev RJ:DE:=dC (.int 6)
abbrev FP:DE:=dC (.int 7)
abbrev Jy:DE:=dC (.int 8)
abbrev wK:DE:=dC (.int 9)
abbrev Xe:DE:=Z6 ZR Z4 ZL
abbrev Wk:DE:=Z6 ZR Z4 ZQ
abbrev Nf:DE:=Z6 ZR Z4 Ul
abbrev Ld:DE:=Z6 ZR Z4 Ke
abbrev Hw:DE:=Z6 ZR Z4 Vs
abbrev xZ:DE:=Z6 ZR Z4 R8
abbrev ă:DE:=Z6 ZR Z4 RJ
abbrev zwA:DE:=Z6 ZR Z4 FP
abbrev WD:DE:=Z6 ZR Z0 ZL
abbrev Ux:DE:=Z6 ZR Z0 ZQ
abbrev RK:DE:=Z6 ZR ZW ZL
abbrev R7:DE:=Z6 ZR ZW ZQ
abbrev ϫ:DE:=Z6 ZR ZW Ul
abbrev Ù:DE:=Z6 ZR ZS ZL
abbrev ξ:DE:=Z6 ZR ZS ZQ
abbrev ŧ:DE:=Z6 ZR ZJ ZL
abbrev zxf:DE:=Z6 ZR Y8 ZL
abbrev Ca:DE:=Z6 ZR Y8 ZQ
abbrev jQ:DE:=Z6 ZR V2 ZL
abbrev Ñ:DE:=Z6 ZR V2 ZQ
abbrev Ze:DA:=zc Z4 zm
abbrev Yz:DA:=zc Z0 zm
abbrev Ys:DA:=zc ZW zm
abbrev Yi:DA:=zc ZS zm
abbrev VL:DA:=zc ZJ zm
abbrev Ig:DA:=zc Y8 zm
abbrev Rc:DA:=zc Ye zm
abbrev R9:DA:=zc V0 zm
abbrev tG:DA:=zc Oc zm
abbrev Ď:DA:=zc Vz zm
abbrev wz:DS :=
    (zf (ZK (dT (Z6 oLt Z0 (dB Zo Ze))) (zB (Z6 ZR Z4 Z0)) zH)
 (zB ZL))
def lN:BodyOk 2 wz JM:=by
 rintro ds S Q ⟨ns,k,rfl,h0,q⟩;unfold wz;walk_at"g";rw[qa];refine Zu (fun g=>?_) (fun g=>?_)
 ·obtain⟨v,_,av⟩:=pJ (zs:=ns) h0 (by lia);walk_at"g";exact fin_same (q _)
 ·walk_at"g";exact fin_same (q _)
def N6:ZX:=fun ds S Q=>∃ (c k:Int),ds=[.int c,.int k]/\0<=k/\k<3000/\∀ v,0<=v->v<1000000000000000000000000000000000000000000000000000000000033->Q (.int v) S
abbrev vR:DS :=
    (zf (zq (Z6 YX (Z6 Zx (Z6 oMod Z4 (dC (.int 1000000000000000000000000000000000000000000000000000000000000))) Ke) (Z6 Zx (dC (.int 16180339887498948482045868343656381177203)) (Z6 YX (Z6 YX Ul Z0) Z0))) Yx)
 (zf (zq (Z6 Zx ZW (Z6 YX (dC (.int 6151)) Z0)) Yx)
 (zB (Z6 oMod (Z6 YX ZW ZW) (Z6 Zx (dC (.int 1000000000000000000000000000000000000000000000000000000000000)) (dC (.int 33)))))))
def aZ:BodyOk 3 vR N6:=by
 rintro ds S Q ⟨c,k,rfl,h0,hk,q⟩;unfold vR
 have b1:My.Bd 300 (c%1000000000000000000000000000000000000000000000000000000000000+3):=by have h1:=T8 c (b:=1000000000000000000000000000000000000000000000000000000000000) (by decide);have h2:=RX c (b:=1000000000000000000000000000000000000000000000000000000000000) (by decide);show _<2 ^ 300;lia
 have hk2:0<=2*k*k/\2*k*k<=18000000:=⟨Int.mul_nonneg (by lia) h0,Int.le_trans (Int.mul_le_mul (show 2*k<=6000 by lia) (show k<=3000 by lia) h0 (by decide)) (by decide)⟩
 have b2:My.Bd 300 (16180339887498948482045868343656381177203+2*k*k):=by show _<2 ^ 300;lia
 have cm1:YT (c%1000000000000000000000000000000000000000000000000000000000000+3) (16180339887498948482045868343656381177203+2*k*k):=.inl ⟨b1.mono (by decide),b2.mono (by decide)⟩
 have b3:My.Bd 700 ((c%1000000000000000000000000000000000000000000000000000000000000+3)*(16180339887498948482045868343656381177203+2*k*k)+6151*k):=(My.Bd.add (n:=600) (My.Bd.mul b1 b2) (by show _<2 ^ 600;lia)).mono (by decide)
 have cm2:YT ((c%1000000000000000000000000000000000000000000000000000000000000+3)*(16180339887498948482045868343656381177203+2*k*k)+6151*k) ((c%1000000000000000000000000000000000000000000000000000000000000+3)*(16180339887498948482045868343656381177203+2*k*k)+6151*k):=.inl ⟨b3.mono (by decide),b3.mono (by decide)⟩;walk_at"g";exact fin_same (q _ (T8 _ (by decide)) (RX _ (by decide)))
def Gu:ZX:=fun ds S Q=>∃ (x:D) (ns:List Int) (most:Int),ds=[x,.int most]/\Lst S x (ns.map D.int)/\ns.length<=63/\1<=most/\most<=60/\∀ zs:List Int,(zs.length:Int)=most->(∀ z∈zs,0<=z/\z<1000000000000000000000000000000000000000000000000000000000033)->New Q S (zs.map D.int)
abbrev Ag:DS :=
    (zf (zq (Zh 1 [] (RZ Yz) Y5 Yj (dCall N6 (zc Z4 (zc (dC (.int 40)) zm)))) Yx)
 (zf (Yr (VN Ze) (YH 2 (zF YB (zF YD YM))) (zf (zq (Z6 oMod ZS Z0) Yv)
 (zq (dCall N6 (zc (Z6 Zx (Z6 ZR ZW Y8) (Z6 oMod ZJ (dC (.int 1000000000000000000000000000000000000000000000000000000000000)))) (zc (Z6 oMod ZS (dC (.int 37))) zm))) (Qi ZW Y8))))
 (zB ZW)))
def ziX:BodyOk 6 Ag Gu:=by
 rintro ds S Q ⟨x,ns,most,rfl,hx,hl,h1,h2,q⟩;unfold Ag;walk_at"g";refine⟨_,rfl,by lia,by lia,?_⟩;refine⟨by rw[Ml];unfold big;lia,fun i ys S'=>S'=S/\∃ zs:List Int,ys=zs.map D.int/\zs.length=i/\∀ z∈zs,0<=z/\z<1000000000000000000000000000000000000000000000000000000000033,⟨rfl,[],rfl,rfl,by simp⟩,fun _ _ _ _=>True.intro,?_,?_⟩
 ·rintro i d ys S' hd ⟨rfl,zs,rfl,hz,hb⟩;obtain⟨hi,rfl⟩:=Oa hd;walk_at"g";refine⟨_,_,rfl,by decide,by decide,fun v v0 v1=>?_⟩;refine⟨rfl,zs++[v],by rw[qA];rfl,by simp[hz],fun z hz'=>?_⟩;rcases qD.mp hz' with h|h
  ·exact hb z h
  ·have:z=v:=by simpa using h
   subst this;exact⟨v0,v1⟩
 rintro ys S' ⟨rfl,zs,rfl,hz,hb⟩;rw[Ml]at hz;have hz:(zs.length:Int)=most:=by lia
 walk_at"g";refine PK (xs:=ns.map D.int) hx.old ?_
 refine Xq (fun i ρ S''=>∃ (zs:List Int) (w1 w2 w3:Option D),ρ=[some x,some (.int most),some (.ref S'.length),w1,w2,w3]/\S''=S'++[.lst (zs.map D.int)]/\(zs.length:Int)=most/\∀ z∈zs,0<=z/\z<1000000000000000000000000000000000000000000000000000000000033)
  ⟨zs,_,_,_,rfl,rfl,hz,hb⟩ (by rintro i ρ S'' ⟨zs,w1,w2,w3,_,e,_⟩;exact e▸hx.old) ?_ ?_
 ·rintro i d ρ S'' hd ⟨zs,w1,w2,w3,rfl,rfl,hz,hb⟩;obtain⟨y,hy,rfl⟩:=R6 hd;obtain⟨n,_,rfl⟩:=Pz hy;have m1:=T8 ((0+i:Nat):Int) (show most≠0 by lia);have m2:=RX ((0+i:Nat):Int) (show 0<most by lia);obtain⟨u,hu,au⟩:=pJ (zs:=zs) (k:=((0+i:Nat):Int)%most) m1 (by lia);have iu:=zu8 (zs:=zs) (k:=((0+i:Nat):Int)%most) m1 (by lia);have k1:=T8 ((0+i:Nat):Int) (show(37:Int)≠0 by decide);have k2:=RX ((0+i:Nat):Int) (show(0:Int)<37 by decide);walk_at"g";refine⟨_,_,rfl,k1,by lia,fun v v0 v1=>?_⟩;walk_at"g";refine dz zO iu ?_;walk_at"g";refine⟨zs.set _ v,_,_,_,rfl,by rw[List.map_set],by simpa using hz,fun z hz'=>?_⟩;rcases Τ hz' with h|h
  ·exact hb z h
  ·subst h;exact⟨v0,v1⟩
 ·rintro ρ S'' ⟨zs,w1,w2,w3,rfl,rfl,hz,hb⟩;walk_at"g";exact fin_same (q zs hz hb)
def Vd (j:Int):Str:=if j=0 then "" else if j=1 then "b" else if j=2 then "xx" else "light"
def Pg (k:Nat)(j:Int):Str:=(⟨#[97+k]⟩:Str)++Vd j
def đ (j:Int)(h0:0<=j)(h1:j<4):Zm [.str "",.str "b",.str "xx",.str "light"] j=some (.str (Vd j)):=by
  have:j=0\/j=1\/j=2\/j=3:=by lia
  rcases this with rfl|rfl|rfl|rfl<;>rfl
def Az (j:Int):(Vd j).length<=5/\∀ c∈(Vd j).cps.toList,c∈abc:=by
  unfold Vd;split
  . decide +kernel
  . split
    . decide +kernel
    . split<;>decide +kernel
def rC (k:Nat)(j:Int):(Pg k j).cps.toList=(97+k)::(Vd j).cps.toList:=by show((#[97+k]:Array Nat)++(Vd j).cps).toList=_;simp
def Ř {k:Nat}{j:Int}(hk:k<9):Xa (Pg k j)=true:=by
 obtain⟨h1,h2⟩:=Az j
 have hl:(Pg k j).length=(Vd j).length+1:=by show((#[97+k]:Array Nat)++(Vd j).cps).size=(Vd j).cps.size+1;simp;lia
 rw[G4,hl];refine⟨by lia,by lia,fun c hc=>?_⟩;rw[rC]at hc;rcases ql.mp hc with rfl|hc
 ·exact sO.mpr (by lia)
 ·exact h2 c hc
def ztc (i:Nat)(h1:i<9):atS "abcdefghi" (i:Int)=some (97+i):=by
 have:∀ j:_root_.Fin 9,atS "abcdefghi" ((j.val:Nat):Int)=some (97+j.val):=by decide +kernel
 exact this ⟨i,h1⟩
def Gz:ZX:=fun ds S Q=>∃ (ns:List Int),ds=[.rl (ns.map D.int)]/\ns.length<=63/\∀ (T:Z7) (a b c:D) (zs:List Str) (ps:List (Int×Int)) (fs:List Fg) (hz f:Int),Od zs ps fs hz f->Lst (S++T) a (zs.map D.str)->Lst (S++T) b (ps.map p2)->Lst (S++T) c (fs.map Yu)->Q (.tup [a,b,c,.int hz,.int f,.int (f+5)]) (S++T)
abbrev o8:DS :=
    (zf (zq (Z6 oMod (dCall JM (zc Z4 (zc ZL zm))) (dC (.int 1000000000000000000000000000000))) Vw)
 (zf (zq (Z6 Zx Ul (Z6 oMod Z0 FP)) Yx)
 (zf (zq (dCall Gu (zc (Wt Wz Z4 (some Ul) none) (zc wK zm))) YB)
 (zf (zq (Zh 1 [] (Zi (Wt Wz ZS none (some ZW))) Y5 Yj (dTup (zc (Z6 oMod (Z6 oDiv Z4 R8) R8) (zc (Z6 oMod (Z6 oDiv Z4 (dC (.int 40))) Vs) zm)))) YD)
 (zf (zq (Zh 2 [] (VN (zc (Wt Wz ZS none (some ZW)) zm)) (YH 2 (zF Y5 (zF Vw YM))) Yj (Z6 Zx (Z6 ZR (dC (.str "abcdefghi")) Z4) (Z6 ZR (Yd (zc (dC (.str "")) (zc (dC (.str "b")) (zc (dC (.str "xx")) (zc (dC (.str "light")) zm))))) (Z6 oMod (Z6 oDiv Z0 (dC (.int 400))) Vs)))) Yv)
 (zf (zq (Z6 ZR (Yd (zc ZQ (zc Ul (zc Vs (zc R8 (zc Jy (zc (dC (.int 10)) zm))))))) (Z6 oMod (Z6 oDiv Z0 FP) RJ)) W3)
 (zf (zq (Z6 Zf (Z6 oMod (Z6 oDiv Z0 (dC (.int 42))) wK) Vs) Ub)
 (zf (zq (Yd zm) KZ)
 (zf (Yr (Zi (Wt Wz ZS none (some (Z6 oMod (Z6 oDiv Z0 (dC (.int 378))) Vs)))) Fe (zf (zq (dCall N6 (zc Oc (zc (dC (.int 72)) zm))) Bh)
 (zf (zq (Z6 Zx V0 (Z6 oMod (Z6 oDiv Vz Vs) RJ)) fK)
 (zf (zq (dTup (zc (Z6 oMod (Z6 oDiv Vz (dC (.int 24))) R8) (zc (Z6 Zx (Z6 oMod (Z6 oDiv Vz (dC (.int 24))) R8) (Z6 oMod (Z6 oDiv Vz (dC (.int 120))) Ul)) (zc (Z6 oMod (Z6 oDiv Vz (dC (.int 240))) Vs) (zc (Z6 Zx (Z6 oMod (Z6 oDiv Vz (dC (.int 240))) Vs) (Z6 oMod (Z6 oDiv Vz (dC (.int 960))) Ul)) zm))))) æ)
 (Y4 (dM V7 V2 (zc (Z6 Zx bD (dTup (zc sE (zc (Z6 Zx sE (Z6 oMod (Z6 oDiv Vz (dC (.int 1920))) RJ)) (zc (Z6 Zf (Z6 oMod (Z6 oDiv Vz (dC (.int 11520))) Ke) ZQ) (zc ZL zm)))))) zm)))))))
 (zB (dTup (zc Y8 (zc ZJ (zc V2 (zc Ye (zc V0 (zc (Z6 Zx V0 R8) zm)))))))))))))))))
def zgs:BodyOk 13 o8 Gz:=by
  rintro ds S Q ⟨ns,rfl,hl,q⟩;unfold o8;walk_at"g";refine⟨ns,0,rfl,by decide,fun c0=>?_⟩;have e0:=T8 c0 (b:=1000000000000000000000000000000) (by decide);have e1:=RX c0 (b:=1000000000000000000000000000000) (by decide);walk_at"g";generalize c0%1000000000000000000000000000000=hd at e0 e1;rw[Lf];have cl:(cutD ns (some 2) none).length<=63:=qW (zqJ _ _ _) (by unfold XJ;dsimp only;lia);generalize cutD ns (some 2) none=cn at cl;walk_at"g";refine⟨_,cn,9,rfl,Lst.at0,cl,by decide,by decide,fun sd sl sb=>?_⟩;walk_at"g";have n1:0<=hd%7/\hd%7<7:=by lia
  rw[Lf,Gp _ (by lia) (by lia)];have tl:(sd.take (2+hd%7).toNat).length=(2+hd%7).toNat:=by rw[Vb];lia
  obtain⟨sc,hsc⟩:∃ sc,sc=sd.take (2+hd%7).toNat:=⟨_,rfl⟩
  rw[<- hsc]at tl ⊢;walk_at"g";refine Xp (fun _=>true) (ou fun k=>p2 (k/5%5,k/40%4)) (by exact Lst.at (k:=2) rfl) (by rw[qa];unfold big;lia) (fun i d ys hd' hw=>?_) ?_
  . obtain⟨z,_,rfl⟩:=Pz hd';walk_at"g";exact Xi hd' hw rfl rfl
  rw[filter_true,zqF];walk_at"g";rw[Lf,Gp _ (by lia) (by lia),<- hsc];walk_at"g";refine PK (xs:=sc.map D.int) (Lst.at (k:=4) rfl) ?_;obtain⟨S5,hS5⟩:∃ S5:Z7,S5=S++[Cell.lst (cn.map D.int),.lst (sd.map D.int),.lst (sc.map D.int),.lst (sc.map fun k=>p2 (k/5%5,k/40%4)),.lst (sc.map D.int)]:=⟨_,rfl⟩
  rw[<- hS5];have k5:Lst S5 (.ref (S.length+4)) (sc.map D.int):=hS5▸Lst.at (k:=4) rfl;have ksd:S5[S.length+1]?=some (.lst (sd.map D.int)):=hS5▸(zQ _ _ 1).trans rfl;have ksp:S5[S.length+3]?=some (.lst (sc.map fun k=>p2 (k/5%5,k/40%4))):=hS5▸(zQ _ _ 3).trans rfl;have eS5:∃ T,S5=S++T:=⟨_,hS5⟩
  clear hS5;refine Sw (fun i ys S'=>∃ (G:Z7) (zs:List Str),S'=S5++G/\ys=zs.map D.str/\zs.length=i/\(∀ z∈zs,Xa z=true)/\∀ (j:Nat) z,zs[j]?=some z->z.cps.toList.head?=some (97+j)) ⟨[],[],by simp,rfl,rfl,by simp,fun j z h=>by simp at h⟩ (by rintro i ys S' ⟨G,zs,e,_⟩;exact e▸k5.old) (by rw[UG,qa];unfold big;lia) ?_ ?_
  . rintro i d ys S' hd' ⟨G,zs,rfl,rfl,hz,hn,hh⟩;obtain⟨y,hy,rfl⟩:=R6 hd';have hi:=zE hy;rw[qa]at hi;obtain⟨z,_,rfl⟩:=Pz hy;rw[Nat.zero_add];walk_at"g";refine aX (c:=97+i) (by decide +kernel) (ztc i (by lia)) ?_;have sa:=đ (z/400%4) (by lia) (by lia);walk_at"g";obtain⟨s1,_⟩:=Az (z/400%4);refine dh (by show 1+_<=big;unfold big;lia) ?_;walk_at"g";refine⟨G++[_],zs++[Pg i (z/400%4)],rfl,by rw[qA];rfl,by simp[hz],fun x hx=>?_,fun j x hx=>?_⟩
    . rcases qD.mp hx with hx|hx
      . exact hn x hx
      . have:x=Pg i (z/400%4):=by simpa using hx
        rw[this];exact Ř (by lia)
    . rcases qT j zs.length with g|g
      . rw[qg g]at hx;exact hh j x hx
      . have lj:=zE hx;rw[qf]at lj;have:j=zs.length:=by simp at lj;lia
        subst this;rw[qe (qh _),Yp]at hx;have:Pg i (z/400%4)=x:=by simpa using hx
        subst this;rw[rC,hz];rfl
  rintro ys S' ⟨G,zs,rfl,rfl,hz,hn,hh⟩;rw[UG,qa,tl]at hz;obtain⟨S6,hS6⟩:∃ S6:Z7,S6=S5++G:=⟨_,rfl⟩
  rw[<- hS6];have ksd6:S6[S.length+1]?=some (.lst (sd.map D.int)):=hS6▸zA ksd;have ksp6:S6[S.length+3]?=some (.lst (sc.map fun k=>p2 (k/5%5,k/40%4))):=hS6▸zA ksp;have eS6:∃ T,S6=S++T:=BJ eS5 hS6;clear hS6 ksd ksp k5 eS5;walk_at"g"
  have ah:∃ w,0<=w/\w<=10/\Zm [.int 1,.int 2,.int 4,.int 5,.int 8,.int 10] (hd/7%6)=some (.int w):=by
    have:hd/7%6=0\/hd/7%6=1\/hd/7%6=2\/hd/7%6=3\/hd/7%6=4\/hd/7%6=5:=by lia
    rcases this with e|e|e|e|e|e<;>rw[e]
    . exact⟨1,by decide,by decide,rfl⟩
    . exact⟨2,by decide,by decide,rfl⟩
    . exact⟨4,by decide,by decide,rfl⟩
    . exact⟨5,by decide,by decide,rfl⟩
    . exact⟨8,by decide,by decide,rfl⟩
    . exact⟨10,by decide,by decide,rfl⟩
  obtain⟨hw,hw0,hw1,aw⟩:=ah;walk_at"g";rw[Lf,Gp _ (by lia) (by lia)];have tl2:(sd.take (hd/378%4).toNat).length<=4:=by rw[Vb];lia
  generalize sd.take (hd/378%4).toNat=se at tl2;have f0:-4<=hd/42%9-4/\hd/42%9-4<=4:=by lia
  generalize hd/42%9-4=f at f0;obtain⟨S7,hS7⟩:∃ S7:Z7,S7=S6++[Cell.lst (zs.map D.str),.lst [.int 1,.int 2,.int 4,.int 5,.int 8,.int 10]]:=⟨_,rfl⟩
  have kz:S7[S6.length]?=some (.lst (zs.map D.str)):=hS7▸zO;have ksd7:S7[S.length+1]?=some (.lst (sd.map D.int)):=hS7▸zA ksd6;have ksp7:S7[S.length+3]?=some (.lst (sc.map fun k=>p2 (k/5%5,k/40%4))):=hS7▸zA ksp6;have eS7:∃ T,S7=S++T:=BJ eS6 hS7;rw[show S6++[Cell.lst (zs.map D.str),.lst [.int 1,.int 2,.int 4,.int 5,.int 8,.int 10],.lst [],.lst (se.map D.int)]=S7++[.lst [],.lst (se.map D.int)] by rw[hS7];simp,show S6.length+2=S7.length by rw[hS7];simp,show S6.length+3=S7.length+1 by rw[hS7];simp];generalize S6.length=nz at kz;clear hS7 ksd6 ksp6 eS6;walk_at"h";refine Xq (fun i ρ S'=>∃ (fs:List Fg) (w9 w10 w11 w12:Option D),S'=S7++[.lst (fs.map Yu),.lst (se.map D.int)]/\ρ=[some (.rl (ns.map D.int)),some (.int hd),some (.int (2+hd%7)),some (.ref (S.length+1)),some (.ref (S.length+3)),some (.ref nz),some (.int hw),some (.int f),some (.ref S7.length),w9,w10,w11,w12]/\fs.length=i/\∀ F∈fs,N7 F) ⟨[],_,_,_,_,rfl,rfl,rfl,by simp⟩ (by rintro i ρ S' ⟨fs,_,_,_,_,e,_⟩;exact e▸Lst.at (k:=1) rfl) ?_ ?_
  . rintro i d ρ S' hd' ⟨fs,w9,w10,w11,w12,rfl,rfl,hi,hf⟩;have li:=zE hd';rw[qa]at li;obtain⟨z,_,rfl⟩:=Pz hd';walk_at"g";refine⟨z,72,rfl,by decide,by decide,fun m m0 m1=>?_⟩;walk_at"g";refine zvA (by show 4+4<=big;decide) ?_;have hlim:(fs.map Yu).length<big:=by rw[qa];unfold big;lia
    walk_at"g";have sm:∀ {n:Nat} {x:Int},200<=n->-100<=x->x<=100->Bd n x:=fun {n x} hn h1 h2=>(show Bd 7 x by show _<2 ^ 7;lia).mono (by lia)
    refine⟨fs++[⟨m/24%5,m/24%5+m/120%2,m/240%4,m/240%4+m/960%2,f+m/4%6,f+m/4%6+m/1920%6,m/11520%3-1,0⟩],_,_,_,_,by rw[qA];rfl,rfl,by simp[hi],fun F hF=>?_⟩;rcases qD.mp hF with hF|hF
    . exact hf F hF
    . have e:=qK.mp hF;subst e;exact⟨⟨by dsimp only;lia,by dsimp only;lia,sm (by decide) (by dsimp only;lia) (by dsimp only;lia),sm (by decide) (by dsimp only;lia) (by dsimp only;lia),sm (by decide) (by dsimp only;lia) (by dsimp only;lia),sm (by decide) (by dsimp only;lia) (by dsimp only;lia),sm (by decide) (by dsimp only;lia) (by dsimp only;lia),sm (by decide) (by dsimp only;lia) (by dsimp only;lia)⟩,by dsimp only;lia,sm (by decide) (by dsimp only;lia) (by dsimp only;lia),sm (by decide) (by dsimp only;lia) (by dsimp only;lia)⟩
  . rintro ρ S' ⟨fs,w9,w10,w11,w12,rfl,rfl,hi,hf⟩;rw[qa]at hi;walk_at"g";obtain⟨T7,rfl⟩:=eS7;rw[qk]
    have w:Od zs (sc.map fun k=>(k/5%5,k/40%4)) fs hw f:=⟨by lia,by lia,hn,zow hh,by rw[qa];lia,fun p hp=>by obtain⟨k,_,rfl⟩:=qv.mp hp;dsimp only;lia,by lia,hf,hw0,hw1,f0.1,f0.2⟩
    refine fin_same (q _ _ _ _ zs _ fs hw f w ?_ ?_ ?_)
    . rw[<- qk];exact Lst.here (zA kz)
    . rw[<- qk,XF];exact Lst.here (zA ksp7)
    . rw[<- qk];exact Lst.at0
def FW:ZX:=fun ds S Q=>∃ (x:D) (cs:List (Int×Int)),ds=[x]/\Lst S x (cs.map p2)/\WR cs/\Q .non S
abbrev vG:DS :=
    (zf (ZK (Wo (dT (Z6 oLt (dB Zo Ze) Ul)) (dT (Z6 X5 (dB Zo Ze) (dC (.int 40))))) Yb zH)
 (Yr (K3 (zc ZQ (zc (dB Zo Ze) zm))) Vw (ZK (dT (Z6 oLe (Z6 ZR (Z6 ZR Z4 Z0) ZL) (Z6 ZR (Z6 ZR Z4 (Z6 Zf Z0 ZQ)) ZL))) Yb zH)))
def zek:BodyOk 2 vG FW:=by
 rintro ds S Q ⟨x,cs,rfl,hx,g,q⟩;unfold vG;have g1:=g.two;have g2:=g.most;walk_at"g";rw[qa];refine Zu (fun z=>absurd z (by lia)) (fun _=>?_);walk_at"g";rw[qa];refine Zu (fun z=>absurd z (by lia)) (fun _=>?_);walk_at"g";rw[qa];refine⟨_,_,rfl,?_⟩;refine Xq (fun i ρ S'=>S'=S/\∃ w:Option D,ρ=[some x,w]) ⟨rfl,none,rfl⟩ (fun _ _ _ _=>True.intro) ?_ ?_
 ·rintro i d ρ S' hd ⟨rfl,w,rfl⟩;obtain⟨hi,rfl⟩:=Oa hd;obtain⟨a,ha,aa⟩:=Il (cs:=cs) (k:=1+(i:Int)) (by lia) (by lia);obtain⟨b,hb,ab⟩:=Il (cs:=cs) (k:=1+(i:Int)-1) (by lia) (by lia);have hlt:=vQ g (show(1+(i:Int)-1).toNat<(1+(i:Int)).toNat by lia) hb ha;walk_at"g";refine Zu (fun z=>absurd z (by lia)) (fun _=>?_);walk_at"g";exact⟨rfl,_,rfl⟩
 ·rintro ρ S' ⟨rfl,w,rfl⟩;exact fin_same q
def Gs:ZX:=fun ds S Q=>∃ (S0:Z7) (x:D) (cs:List (Int×Int)),ds=[.ref S0.length,x]/\S=S0++[.ins "Ground" []]/\Lst S0 x (cs.map p2)/\WR cs/\Q .non (S0++[.ins "Ground" [("corners",.ref (S0.length+1))],.lst (cs.map p2)])
abbrev wW:DS :=
    (zf (Y4 (dCall FW Yz))
 (Wf "Ground" "corners" Z4 (dB Qt Yz)))
def bK:BodyOk 2 wW Gs:=by rintro ds S Q ⟨S0,x,cs,rfl,rfl,hx,g,q⟩;unfold wW;have hx':Lst (S0++[.ins "Ground" []]) x (cs.map p2):=hx.old;walk_at"g";refine⟨x,cs,rfl,hx',g,?_⟩;walk_at"g";refine⟨S0.length,[],rfl,zO,by decide,?_⟩;rw[Te];exact fin_same q
def Bc:ZX:=SN "Ground" Gs
def Ci:ZX:=fun ds S Q=>∃ (x y:D) (xs ys:List D),ds=[x,y]/\Lst S x xs/\Lst S y ys/\1<=xs.length/\xs.length<=12/\ys.length<=12/\Q .non S
abbrev rQ:DS :=
    (zf (ZK (Wo (dT (Z6 oLt (dB Zo Ze) ZQ)) (dT (Z6 X5 (dB Zo Ze) (dC (.int 12))))) Yb zH)
 (ZK (dT (Z6 X5 (dB Zo Yz) (dC (.int 12)))) Yb zH))
def ϻ:BodyOk 2 rQ Ci:=by rintro ds S Q ⟨x,y,xs,ys,rfl,hx,hy,h1,h2,h3,q⟩;unfold rQ;walk_at"g";rw[decide_eq_false (show ¬ ((xs.length:Int)<1) by lia)];walk_at"g";rw[decide_eq_false (show ¬ ((12:Int)<xs.length) by lia)];walk_at"g";rw[decide_eq_false (show ¬ ((12:Int)<ys.length) by lia)];walk_at"g";exact fin_same q
def Hi:ZX:=fun ds S Q=>∃ z:Str,ds=[.str z]/\z.length<=1000/\Q (.bl (Xa z)) S
abbrev vW:DS :=
    (zf (ZK (Wo (dT (Z6 oLt (dB Zo Ze) ZQ)) (dT (Z6 X5 (dB Zo Ze) Jy))) (zB (dC (.bl false))) zH)
 (zB (dB WK (zc (Zh 1 [] (Zi Z4) Y5 Yj (Z6 Vo Z4 (dC (.str "abcdefghijklmnopqrstuvwxyz")))) zm))))
def Ŧ:BodyOk 1 vW Hi:=by
 rintro ds S Q ⟨z,rfl,hz,q⟩;unfold vW;have hb:z.length<=big:=by unfold big;lia
 walk_at"g";refine uK hb ?_;walk_at"g";unfold Xa at q;refine Zu (fun h=>?_) (fun h=>?_)
 ·walk_at"g";rw[decide_eq_false (show ¬ 1<=z.length by lia)]at q;exact fin_same q
 rw[decide_eq_true (show 1<=z.length by lia)]at q;walk_at"g";refine uK hb ?_;walk_at"g";refine Zu (fun h=>?_) (fun h=>?_)
 ·walk_at"g";rw[decide_eq_false (show ¬ z.length<=8 by lia)]at q;exact fin_same q
 rw[decide_eq_true (show z.length<=8 by lia)]at q;walk_at"g";refine Xp (fun _=>true) (Am fun c=>decide (c∈abc)) True.intro (by rw[zmc];exact hb) (fun i d ys hd hw=>?_) ?_
 ·obtain⟨c,_,rfl⟩:=zm7 hd;walk_at"g";rw[cj];exact Xi hd hw rfl rfl
 rw[filter_true,zmR];walk_at"g";refine K6 Lst.at0 rfl ?_;refine Sx rfl ?_;rw[QS];exact q
def Gw:ZX:=fun ds S Q=>∃ (x:D) (zs:List Str),ds=[x]/\Lst S x (zs.map D.str)/\zs.length<=100/\(∀ z∈zs,Xa z=true)/\zs.Nodup/\Q .non S
abbrev yZ:DS :=
    (zf (ZK (W7 (dT (dB WK (zc (Zh 1 [] (Zi Z4) Y5 Yj (dCall Hi Ze)) zm)))) Yb zH)
 (ZK (dT (Z6 oLt (dB Ol Ze) (dB Zo Ze))) Yb zH))
def lO:BodyOk 1 yZ Gw:=by
 rintro ds S Q ⟨x,zs,rfl,hx,hl,hn,nd,q⟩;unfold yZ;walk_at"g";refine Xp (fun _=>true) (NK fun z=>.bl (Xa z)) hx (by rw[qa];unfold big;lia) (fun i d ys hd hw=>?_) ?_
 ·obtain⟨z,hz,rfl⟩:=XC hd;walk_at"g";refine⟨z,rfl,by have:=(G4.mp (hn z (qc hz))).2.1;lia,?_⟩;exact Xi hd hw rfl rfl
 rw[filter_true,wu,show zs.map (fun z=>D.bl (Xa z))=(zs.map Xa).map D.bl by rw[XF];rfl];walk_at"g";refine K6 (b:=true) Lst.at0 (by rw[QS,WM];exact hn) ?_;walk_at"g";refine xV (zs:=zs) hx.old (by lia) ?_;rw[Ak nd];have hx1:Lst (S++[Cell.lst ((zs.map Xa).map D.bl)]) x (zs.map D.str):=hx.old;walk_at"g";rw[qa,decide_eq_false (show ¬ ((zs.length:Int)<zs.length) by lia)];walk_at"g";exact Sx rfl q
def O6:ZX:=fun ds S Q=>∃ (a b:Int×Int),ds=[p2 a,p2 b]/\YT a.1 b.2/\YT b.1 a.2/\Q (.bl (flt a b)) S
abbrev yK:DS :=(zB (Z6 oLt (Z6 YX Xe Ux) (Z6 YX WD Wk)))
def zra:BodyOk 2 yK O6:=by rintro ds S Q ⟨a,b,rfl,c1,c2,q⟩;unfold yK;walk_at"g";exact fin_same q
def J2:ZX:=fun ds S Q=>∃ (g:D) (cs:List (Int×Int)) (p:Int×Int),ds=[g,p2 p]/\W2 S g cs/\WR cs/\Bd 1000 p.1/\Bd 1000 p.2/\Q (.bl (decide (Qd cs*p.2<=p.1)&&decide (p.1<=QW cs*p.2))) S
abbrev yD:DS :=
    (zf (zq (dTup (zc (Z6 ZR (Z6 ZR (X7 "corners" Z4) ZL) ZL) (zc ZQ zm))) Yx)
 (zf (zq (dTup (zc (Z6 ZR (Z6 ZR (X7 "corners" Z4) (V9 V3 ZQ)) ZL) (zc ZQ zm))) YB)
 (zB (QX (QZ (dCall O6 (zc Z0 Ys))) (QZ (dCall O6 (zc ZS Yz)))))))
def zn3:BodyOk 4 yD J2:=by
 rintro ds S Q ⟨g,cs,p,rfl,⟨n,l,rfl,hn,hl⟩,gr,b1,b2,q⟩;unfold yD;have g1:=gr.two;obtain⟨a,ha,ea⟩:=bJ gr;obtain⟨z,hz,ez⟩:=kI gr;have aa:Zm (cs.map p2) 0=some (p2 a):=SQ (i:=0) (by rw[qi,ha];rfl)
 have az:Zm (cs.map p2) (-1)=some (p2 z):=by
  have hne:cs≠[]:=fun e=>by rw[e]at g1;simp at g1
  have en:cs=cs.dropLast++[z]:=by
   have h2:=List.dropLast_concat_getLast hne
   have h3:cs.getLast hne=z:=by rw[List.getLast_eq_getElem];have hl':=zE hz;rw[qb hl']at hz;cases hz;rfl
   rw[h3]at h2;exact h2.symm
  rw[en,qA];exact ĩ
 obtain⟨ba,_⟩:=gr.bd a (qc ha);obtain⟨bz,_⟩:=gr.bd z (qc hz);rw[ea,ez]at q;have e1:flt p (a.1,1)=decide (p.1<a.1*p.2):=by unfold flt;dsimp only;rw[Ud]
 have e2:flt (z.1,1) p=decide (z.1*p.2<p.1):=by unfold flt;dsimp only;rw[Ud]
 have c1:YT a.1 p.2:=.inl ⟨ba.mono (by decide),b2.mono (by decide)⟩;have c2:YT z.1 p.2:=.inl ⟨bz.mono (by decide),b2.mono (by decide)⟩;have c3:∀ u:Int,YT u 1:=fun u=>.inr (.inr (by decide))
 walk_at"g";refine⟨p,(a.1,1),rfl,c3 _,c1,?_⟩;rw[e1];walk_at"g";refine Xf (fun g=>?_) (fun g=>?_)
 ·walk_at"g";refine⟨(z.1,1),p,rfl,c2,c3 _,?_⟩;rw[e2];walk_at"g";rw[decide_eq_true (show a.1*p.2<=p.1 by lia),Bool.true_and]at q;rw[show(!decide (z.1*p.2<p.1))=decide (p.1<=z.1*p.2) by rw[<- decide_not];exact decide_eq_decide.mpr (by lia)];exact fin_same q
 ·rw[decide_eq_false (show ¬ a.1*p.2<=p.1 by lia),V5]at q;exact fin_same q
def Dz:ZX:=fun ds S Q=>∃ (t b:Int),ds=[.int t,.int b]/\Q (.int ((Int.gcd t b:Nat):Int)) S
abbrev uy:DS :=
    (zf (Vp (dT (Z6 Yg Z0 ZL)) (zf (zq (Z6 oMod Z4 Z0) Yx)
 (zf (zq Z0 Y5)
 (zq ZW Vw))))
 (zB (dB Jo Ze)))
def Ϻ:BodyOk 3 uy Dz:=by
 rintro ds S Q ⟨t,b,rfl,q⟩;unfold uy;refine Dp.Cg ?_;refine RN (fun m ρ S'=>S'=S/\∃ (x y:Int) (w:Option D),ρ=[some (.int x),some (.int y),w]/\m=y.natAbs/\Int.gcd x y=Int.gcd t b) b.natAbs ⟨rfl,_,_,none,rfl,rfl,rfl⟩ ?_;rintro m ρ S' ⟨rfl,x,y,w,rfl,rfl,e⟩;walk_at"g";refine Xf (fun h0=>?_) (fun h0=>?_)
 ·refine oR ?_;refine Dp.Cg ?_;refine Dp.sy ?_;refine Dp.Ko ?_;refine Dp.QJ rfl ?_;refine Dp.QJ rfl ?_;refine zuq h0 ?_;walk_at"g";exact⟨_,ŝ h0,rfl,_,_,_,rfl,rfl,(zoL x y).trans e⟩
 ·subst h0;rw[Int.gcd_zero]at e;walk_at"g";rw[<- e]at q;exact fin_same q
def Hv:ZX:=fun ds S Q=>∃ (t b:Int),ds=[.int t,.int b]/\b≠0/\Bd 8000 b/\Q (p2 (Vm t b,frB t b)) S
abbrev yu:DS :=
    (zf (zq (dCall Dz (zc Z4 Yz)) Yx)
 (zf (sJ (ZK (dT (Z6 oLt Z0 ZL)) (zq (V9 V3 ZW) Yx) zH))
 (zB (dTup (zc (Z6 oDiv Z4 ZW) (zc (Z6 oDiv Z0 ZW) zm))))))
def jf:BodyOk 3 yu Hv:=by
 rintro ds S Q ⟨t,b,rfl,hb,bb,q⟩;unfold yu;have hgn:=vo (t:=t) (b:=b) hb;have hgb:=zww (t:=t) (b:=b) hb bb;walk_at"g";refine⟨t,b,rfl,?_⟩;walk_at"g";refine xu (fun ρ S'=>S'=S/\ρ=[some (.int t),some (.int b),some (.int (gd t b))]) ?_ ?_
 ·walk_at"g";refine Zu (fun g=>?_) (fun g=>?_)
  ·have hg:gd t b=-((Int.gcd t b:Nat):Int):=if_pos g;walk_at"g";exact⟨rfl,by rw[hg];rfl⟩
  ·have hg:gd t b=((Int.gcd t b:Nat):Int):=if_neg g;walk_at"g";exact⟨rfl,by rw[hg];rfl⟩
 rintro ρ S' ⟨rfl,rfl⟩;refine Dp.vh ?_;refine Dp.uU ?_;refine Dp.DX ?_;refine Dp.Ko ?_;refine Dp.QJ rfl ?_;refine Dp.QJ rfl ?_;refine nR ⟨hgn,hgb⟩ ?_;refine Dp.DX ?_;refine Dp.Ko ?_;refine Dp.QJ rfl ?_;refine Dp.QJ rfl ?_;refine nR ⟨hgn,hgb⟩ ?_;walk_at"g";exact fin_same q
def Cp:ZX:=fun ds S Q=>∃ (a b p:Int×Int),ds=[p2 a,p2 b,p2 p]/\b.1≠a.1/\0<p.2/\Bd 180 a.1/\Bd 200 a.2/\Bd 180 b.1/\Bd 200 b.2/\Bd 1000 p.1/\Bd 1000 p.2/\∀ c:Int×Int,Sv c (Pb a b p) (Tz a b p)->Int.gcd c.1 c.2=1->Bd 1400 c.1->Bd 1400 c.2->Q (p2 c) S
def d7 {t b:Int}(hb:b≠0):Sv (Vm t b,frB t b) (if 0<b then t else -t) (if 0<b then b else -b):=by
 have h1:=dU t b;have h2:=mG (t:=t) hb;refine⟨by show 0<frB t b;lia,?_⟩;show Vm t b*_=_*frB t b;split
 ·rw[h1,Wg]
 ·rw[Int.mul_neg,h1,Int.neg_mul,Wg]
abbrev sX:DS :=
    (zf (zq (Z6 Zf WD Xe) YB)
 (zf (zq (Z6 Zf Ux Wk) YD)
 (zf (zq (Z6 Zx (Z6 YX (Z6 YX Wk ZS) R7) (Z6 YX ZJ (Z6 Zf RK (Z6 YX Xe R7)))) Yv)
 (zB (dCall Hv (zc Y8 (zc (Z6 YX ZS R7) zm)))))))
def ß:BodyOk 6 sX Cp:=by
 rintro ds S Q ⟨a,b,p,rfl,hne,hp,b1,b2,b3,b4,b5,b6,q⟩;unfold sX;have r1:Bd 181 (b.1-a.1):=Bd.sub b3 b1;have r2:Bd 201 (b.2-a.2):=Bd.sub b4 b2;have m1:Bd 381 (a.2*(b.1-a.1)):=Bd.mul b2 r1;have m2:Bd 1381 (a.2*(b.1-a.1)*p.2):=Bd.mul m1 b6;have m3:Bd 1180 (a.1*p.2):=Bd.mul b1 b6;have m4:Bd 1181 (p.1-a.1*p.2):=Bd.sub (b5.mono (by decide)) m3;have m5:Bd 1382 ((b.2-a.2)*(p.1-a.1*p.2)):=Bd.mul r2 m4;have m6:Bd 1181 ((b.1-a.1)*p.2):=Bd.mul r1 b6;have bT:Bd 1400 (a.2*(b.1-a.1)*p.2+(b.2-a.2)*(p.1-a.1*p.2)):=(Bd.add (n:=1382) (m2.mono (by decide)) m5).mono (by decide);have c1:YT a.2 (b.1-a.1):=.inl ⟨b2.mono (by decide),r1.mono (by decide)⟩;have c2:YT (a.2*(b.1-a.1)) p.2:=.inl ⟨m1.mono (by decide),b6.mono (by decide)⟩;have c3:YT a.1 p.2:=.inl ⟨b1.mono (by decide),b6.mono (by decide)⟩;have c4:YT (b.2-a.2) (p.1-a.1*p.2):=.inl ⟨r2.mono (by decide),m4.mono (by decide)⟩;have c5:YT (b.1-a.1) p.2:=.inl ⟨r1.mono (by decide),b6.mono (by decide)⟩;walk_at"g";have hr:(b.1-a.1)*p.2≠0:=Int.mul_ne_zero (by lia) (by lia);refine⟨_,_,rfl,hr,m6.mono (by decide),?_⟩;refine fin_same (q _ ?_ (Ë hr) (Ç bT) ((aC m6).mono (by decide)));have hs:=d7 (t:=a.2*(b.1-a.1)*p.2+(b.2-a.2)*(p.1-a.1*p.2)) hr;unfold Pb Tz;by_cases g:0<b.1-a.1
 ·have:0<(b.1-a.1)*p.2:=O4 g hp;rw[if_pos this,if_pos this]at hs;rw[if_pos g,if_pos g];exact hs
 ·have:¬ 0<(b.1-a.1)*p.2:=fun z=>by
   have:=O4 (show 0 < -(b.1-a.1) by lia) hp;rw[Int.neg_mul]at this;lia
  rw[if_neg this,if_neg this]at hs;rw[if_neg g,if_neg g];exact hs
def GF:Yo:=fun ds S Q ex=>∃ (g:D) (cs:List (Int×Int)) (p:Int×Int),ds=[g,p2 p]/\W2 S g cs/\WR cs/\0<p.2/\Bd 1000 p.1/\Bd 1000 p.2/\(¬ Pk cs p->ex "OffGround" S)/\(Pk cs p->∀ a b c:Int×Int,Tq cs p=some (a,b)->Sv c (Pb a b p) (Tz a b p)->0<Tz a b p->Int.gcd c.1 c.2=1->Bd 1400 c.1->Bd 1400 c.2->Q (p2 c) S)
abbrev vB (ex : XR) : DS :=
    (zf (ZK (W7 (dT (dCall J2 (zc Z4 Yz)))) (Tt ex "OffGround") zH)
 (zf (zq (X7 "corners" Z4) Yx)
 (zf (zq ZQ YB)
 (zf (Vp (dT (dCall O6 (zc (dTup (zc (Z6 ZR (Z6 ZR ZW ZS) ZL) (zc ZQ zm))) Yz))) (Lr 3 ZQ))
 (zB (dCall Cp (zc (Z6 ZR ZW (Z6 Zf ZS ZQ)) (zc (Z6 ZR ZW ZS) Yz))))))))
def γ:Vt 4 vB GF:=by
 rintro ds S Q ex ⟨g,cs,p,rfl,hg,gr,hp,b1,b2,hx,q⟩;unfold vB;obtain⟨n,l,rfl,hn,hl⟩:=id hg;walk_at"g";refine⟨_,cs,p,rfl,hg,gr,b1,b2,?_⟩;by_cases on:Pk cs p
 case neg =>
  have e:(decide (Qd cs*p.2<=p.1)&&decide (p.1<=QW cs*p.2))=false:=Bool.eq_false_iff.mpr fun z=>on (by rw[qw,decide_eq_true_eq,decide_eq_true_eq]at z;exact z)
  rw[e];walk_at"g";exact hx on
 have q:=q on;obtain⟨kk,a,b,ha,hb,hle,hlt⟩:=sW gr.two on.2;have seg:=seg_at ha hb hle hlt;have hk:=zE hb;rw[decide_eq_true on.1,decide_eq_true on.2,show(true&&true)=true from rfl];walk_at"g";refine RN (fun m ρ S'=>S'=S/\∃ j:Nat,ρ=[some (.ref n),some (p2 p),some (.ref l),some (.int ((j:Int)+1))]/\m=kk-j/\j<=kk) kk ⟨rfl,0,rfl,rfl,by lia⟩ ?_;rintro m ρ S' ⟨rfl,j,rfl,rfl,hj⟩;obtain⟨c,hc,ac⟩:=Il (cs:=cs) (k:=(j:Int)+1) (by lia) (by lia);have hc':cs[j+1]?=some c:=by rwa[show((j:Int)+1).toNat=j+1 by lia]at hc
 obtain⟨bc,bc2⟩:=gr.bd c (qc hc);have e1:flt (c.1,1) p=decide (c.1*p.2<p.1):=by unfold flt;dsimp only;rw[Ud]
 walk_at"g";refine⟨(c.1,1),p,rfl,.inl ⟨bc.mono (by decide),b2.mono (by decide)⟩,.inr (.inr (show(1:Int).natAbs<2 ^ 64 by decide)),?_⟩;rw[e1];walk_at"g";refine Zu (fun h=>?_) (fun h=>?_)
 ·walk_at"g"
  have hjk:j<kk:=by
   rcases qT j kk with z|z
   ·exact z
   ·have:j=kk:=by lia
    subst this;rw[hb]at hc';cases hc';lia
  exact⟨kk-(j+1),by lia,rfl,j+1,by simp,rfl,by lia⟩
 ·have hjk:j=kk:=by
   rcases qT j kk with z|z
   ·have:=hlt (j+1) c (by lia) (by lia) hc';lia
   ·lia
  subst hjk;rw[hb]at hc';cases hc'
  have aa:Zm (cs.map p2) ((j:Int)+1-1)=some (p2 a):=by rw[show(j:Int)+1-1=(j:Int) by lia];exact SQ (by rw[qi,ha];rfl)
  obtain⟨ba1,ba2⟩:=gr.bd a (qc ha);have hab:=vQ gr (show j<j+1 by lia) ha hb;walk_at"g";refine⟨a,b,p,rfl,by lia,hp,ba1.mono (by decide),ba2.mono (by decide),bc.mono (by decide),bc2.mono (by decide),b1,b2,fun c hs hg d1 d2=>?_⟩;exact fin_same (q a b c seg hs (ĉ (by lia) hp) hg d1 d2)
def JH:ZX:=fun ds S Q=>∃ (g:D) (cs:List (Int×Int)) (s:Int×Int),ds=[g,p2 s]/\W2 S g cs/\WR cs/\Bd 180 s.1/\Bd 200 s.2/\∀ b:Bool,(b=true↔WY cs s)->Q (.bl b) S
abbrev vq:DS :=
    (zf (zq (dTup (zc WD (zc ZQ zm))) Yx)
 (zf (ZK (W7 (dT (dCall J2 (zc Z4 Ys)))) (zB (dC (.bl false))) zH)
 (zB (QZ (dCall O6 (zc (dTup (zc Ux (zc ZQ zm))) (zc (Ym GF xF (zc Z4 Ys)) zm)))))))
def fD:BodyOk 3 vq JH:=by
 rintro ds S Q ⟨g,cs,s,rfl,hg,gr,b1,b2,q⟩;unfold vq;have bo:Bd 1000 (1:Int):=Bd.lit (by decide) (by decide);walk_at"g";refine⟨g,cs,(s.1,1),rfl,hg,gr,b1.mono (by decide),bo,?_⟩;by_cases on:Pk cs (s.1,1)
 case neg =>
  have e:(decide (Qd cs*(s.1,(1:Int)).2<=(s.1,(1:Int)).1)&&decide ((s.1,(1:Int)).1<=QW cs*(s.1,(1:Int)).2))=false:=Bool.eq_false_iff.mpr fun z=>on (by rw[qw,decide_eq_true_eq,decide_eq_true_eq]at z;exact z)
  rw[e];walk_at"g";exact fin_same (q false ⟨fun z=>(by cases z),fun z=>absurd z.1 on⟩)
 rw[decide_eq_true on.1,decide_eq_true on.2,show(true&&true)=true from rfl];walk_at"g";refine⟨g,cs,(s.1,1),rfl,hg,gr,(show(0:Int)<1 by decide),b1.mono (by decide),bo,fun off=>absurd on off,fun _ a b c seg sv hb hgcd d1 d2=>?_⟩;walk_at"g";refine⟨(s.2,1),c,rfl,.inl ⟨b2.mono (by decide),d2.mono (by decide)⟩,.inr (.inr (show(1:Int).natAbs<2 ^ 64 by decide)),?_⟩;rw[ċ (t:=s.2) (b:=1) (by decide) hb ⟨(show(0:Int)<1 by decide),rfl⟩ sv];walk_at"g";refine fin_same (q _ ?_);rw[Bool.not_eq_true',decide_eq_false_iff_not];constructor
 ·intro h;refine⟨on,fun a' b' seg'=>?_⟩;rw[seg]at seg';cases seg';lia
 ·intro h;have:=h.2 a b seg;lia
def Es:ZX:=fun ds S Q=>∃ (g y:D) (cs:List (Int×Int)) (bs:List (Str×(Int×Int))),ds=[g,y]/\W2 S g cs/\WR cs/\Lst S y (bs.map Xv)/\bs.length<=100/\(∀ b∈bs,WY cs b.2/\Bd 180 b.2.1/\Bd 200 b.2.2)/\Q .non S
abbrev m8:DS :=(ZK (W7 (dT (dB WK (zc (Zh 3 [0] (Zi Z0) (YH 3 (zF Y5 (zF Vw (zF Yx YM)))) Yj (dCall JH (zc ZS (zc (dTup (zc Z0 Ys)) zm)))) zm)))) Yb zH)
def Ï:BodyOk 2 m8 Es:=by
 rintro ds S Q ⟨g,y,cs,bs,rfl,hg,gr,hy,hl,hb,q⟩;unfold m8;walk_at"g";refine Xp (fun _=>true) (Iv fun _=>.bl true) hy (by rw[qa];unfold big;lia) (fun i d ys hd hw=>?_) ?_
 ·obtain⟨b,hbi,rfl⟩:=Ju hd;obtain⟨s1,s2,s3⟩:=hb b (qc hbi);walk_at"g";refine⟨g,cs,b.2,rfl,hg,gr,s2,s3,fun r hr=>?_⟩;rw[hr.mpr s1];exact Xi hd hw rfl rfl
 rw[filter_true,Hf,show bs.map (fun _=>D.bl true)=(bs.map fun _=>true).map D.bl by rw[XF];rfl];walk_at"g";refine K6 (b:=true) Lst.at0 (by rw[QS,WM];intro _ _;rfl) ?_;walk_at"g";exact Sx rfl q
def Ge:ZX:=fun ds S Q=>∃ i:Int,ds=[.int i]/\Q (.bl true) S
abbrev tW:DS :=(zB (QX (dB Sg (zc Z4 (zc (dC (.ty "int")) zm))) (QZ (dB Sg (zc Z4 (zc (dC (.ty "bool")) zm))))))
def j5:BodyOk 1 tW Ge:=by rintro ds S Q ⟨i,rfl,q⟩;unfold tW;walk_at"g";exact fin_same q
def Eo:ZX:=fun ds S Q=>∃ F:Fg,ds=[Yu F]/\F.x0<=F.x1/\F.z0<=F.z1/\F.f<=F.l/\Q (.bl true) S
abbrev mR:DS :=
    (zf (ZK (Wo (W7 (dT (dB Sg (zc Z4 (zc (dC (.ty "tuple")) zm))))) (dT (Z6 Yg (dB Zo Ze) Jy))) (zB (dC (.bl false))) zH)
 (zf (ZK (W7 (dT (dB WK (zc (Zh 1 [] (Zi Z4) Y5 Yj (dCall Ge Ze)) zm)))) (zB (dC (.bl false))) zH)
 (zB (QX (Z6 oLe Xe Wk) (QX (Z6 oLe Nf Ld) (Z6 oLe Hw xZ))))))
def bM:BodyOk 1 mR Eo:=by
 rintro ds S Q ⟨F,rfl,h1,h2,h3,q⟩;unfold mR;walk_at"g";rw[show(!decide ((([D.int F.x0,D.int F.x1,D.int F.z0,D.int F.z1,D.int F.f,D.int F.l,D.int F.g,D.int F.s]:List D).length:Int)=8))=false by rfl];walk_at"g";refine Xp (fun _=>true) (fun _=>.bl true) True.intro (by show 8<=big;unfold big;decide) (fun i d ys hd hw=>?_) ?_
 ·obtain⟨z,_,rfl⟩:=Pz (zs:=[F.x0,F.x1,F.z0,F.z1,F.f,F.l,F.g,F.s]) hd;walk_at"g";refine⟨z,rfl,?_⟩;exact Xi hd hw rfl rfl
 walk_at"g";refine K6 (bs:=List.replicate 8 true) (b:=true) Lst.at0 rfl ?_;walk_at"g";rw[decide_eq_true h1];walk_at"g";rw[decide_eq_true h2];walk_at"g";rw[decide_eq_true h3];exact Sx rfl q
def lJ (xs:List α)(f:α->D):(xs.map f).map (fun _=>D.bl true)=(xs.map fun _=>true).map D.bl:=by rw[XF,XF];rfl
def Cq:ZX:=fun ds S Q=>∃ (z:D) (fs:List Fg),ds=[z]/\Lst S z (fs.map Yu)/\fs.length<=100/\(∀ F∈fs,N7 F)/\Q .non S
abbrev mQ:DS :=(ZK (W7 (dT (dB WK (zc (Zh 1 [] (Zi Z4) Y5 Yj (dCall Eo Ze)) zm)))) Yb zH)
def zfH:BodyOk 1 mQ Cq:=by
 rintro ds S Q ⟨z,fs,rfl,hz,hl,hf,q⟩;unfold mQ;walk_at"g";refine Xp (fun _=>true) (fun _=>.bl true) hz (by rw[qa];unfold big;lia) (fun i d ys hd hw=>?_) ?_
 ·obtain⟨F,hF,rfl⟩:=wO hd;have k:=hf F (qc hF);walk_at"g";refine⟨F,rfl,k.b.x,k.b.z,k.o,?_⟩;exact Xi hd hw rfl rfl
 rw[filter_true,lJ];walk_at"g";refine K6 (b:=true) Lst.at0 (by rw[QS,WM];intro _ _;rfl) ?_;walk_at"g";exact Sx rfl q
def Ht:ZX:=fun ds S Q=>∃ (hz:Option Int) (a b d:Int),ds=[Vc hz,.int a,.int b,.int d]/\a<=b/\0<=d/\(∀ z,hz=some z->0<=z)/\Q .non S
abbrev oX:DS :=
    (zf (ZK (dT (Z6 X5 Z0 ZW)) Yb zH)
 (zf (ZK (dT (Z6 oLt ZS ZL)) Yb zH)
 (ZK (Yc (dT (Z6 Wn Z4 (dC .non))) (dT (Z6 oLt Z4 ZL))) Yb zH)))
def jR:BodyOk 4 oX Ht:=by
 rintro ds S Q ⟨hz,a,b,d,rfl,hab,hd,hh,q⟩;unfold oX;walk_at"g";rw[decide_eq_false (show ¬ b<a by lia)];walk_at"g";rw[decide_eq_false (show ¬ d<0 by lia)];cases hz with
 |none =>walk_at"g";exact fin_same q
 |some z =>have:=hh z rfl;unfold Vc;walk_at"g";rw[decide_eq_false (show ¬ z<0 by lia)];walk_at"g";exact fin_same q
def G9:ZX:=fun ds S Q=>∃ (S0:Z7) (g y z:D) (V:Vl),ds=[.ref S0.length,g,y,z,Vc V.hz,.int V.h0,.int V.h1,.int V.dl]/\S=S0++[.ins "Valley" []]/\W2 S0 g V.cs/\Lst S0 y (V.bs.map Xv)/\Lst S0 z (V.fs.map Yu)/\Y6 V/\∀ T,Zw (S0++T) (.ref S0.length) V->Q .non (S0++T)
abbrev vY:DS :=
    (zf (Y4 (dCall Ci (zc ZW Yi)))
 (zf (Y4 (dCall Gw (zc (Zh 1 [] (Zi ZW) Y5 Yj Xe) zm)))
 (zf (Y4 (dCall Es (zc Z0 Ys)))
 (zf (Y4 (dCall Cq Yi))
 (zf (Y4 (dCall Ht (zc ZJ (zc Y8 (zc Ye R9)))))
 (zf (Wf "Valley" "ground" Z4 (dCall Bc (zc (X7 "corners" Z0) zm)))
 (zf (Wf "Valley" "beacons" Z4 (dB Qt Ys))
 (zf (Wf "Valley" "fogs" Z4 (dB Qt Yi))
 (zf (Wf "Valley" "haze" Z4 ZJ)
 (zf (Wf "Valley" "first" Z4 Y8)
 (zf (Wf "Valley" "last" Z4 Ye)
 (Wf "Valley" "delay" Z4 V0))))))))))))
def zhT:BodyOk 8 vY G9:=by
 rintro ds S Q ⟨S0,g,y,z,V,rfl,rfl,hg,hy,hz,ok,q⟩;unfold vY;obtain⟨Sa,hSa⟩:∃ Sa:Z7,Sa=S0++[.ins "Valley" []]:=⟨_,rfl⟩
 have hya:Lst Sa y (V.bs.map Xv):=hSa▸hy.old;have hza:Lst Sa z (V.fs.map Yu):=hSa▸hz.old;rw[<- hSa];walk_at"g";refine⟨y,z,_,_,rfl,hya,hza,by rw[qa];exact ok.b1,by rw[qa];exact ok.b12,by rw[qa];exact ok.f12,?_⟩;walk_at"g";have b12:=ok.b12;have f12:=ok.f12;refine Xp (fun _=>true) (Iv fun b=>.str b.1) hya (by rw[qa];unfold big;lia) (fun i d ys hd hw=>?_) ?_
 ·obtain⟨b,_,rfl⟩:=Ju hd;walk_at"g";exact Xi hd hw rfl rfl
 rw[filter_true,Hf,show V.bs.map (fun b=>D.str b.1)=(V.bs.map (·.1)).map D.str by rw[XF];rfl,hSa];walk_at"g";refine⟨_,V.bs.map (·.1),rfl,Lst.at rfl,by rw[qa];lia,fun n hn=>?_,ok.nd,?_⟩
 ·obtain⟨b,hb,rfl⟩:=qv.mp hn;exact ok.nm b hb
 walk_at"g";generalize (V.bs.map (·.1)).map D.str=nms;refine⟨g,y,V.cs,V.bs,rfl,hg.old,ok.gr,hy.old,by lia,fun b hb=>⟨ok.st b hb,ok.bd b hb⟩,?_⟩;walk_at"g";refine⟨z,V.fs,rfl,hz.old,by lia,ok.fg,?_⟩;walk_at"g";refine⟨V.hz,_,_,_,rfl,ok.hh,ok.dl,ok.hz,?_⟩;obtain⟨gn,gl,rfl,hgn,hgl⟩:=hg;have hgn1:(S0++[.ins "Valley" [],.lst nms])[gn]?=some (.ins "Ground" [("corners",.ref gl)]):=zA hgn;walk_at"g";refine⟨_,_,V.cs,rfl,rfl,.inr ⟨gl,rfl,zA hgl⟩,ok.gr,⟨rfl,?_⟩⟩;rw[qk,show(S0++[Cell.ins "Valley" [],.lst nms]).length=S0.length+2 by simp,show([Cell.ins "Valley" [],.lst nms]:Z7)++[.ins "Ground" [("corners",.ref (S0.length+2+1))],.lst (V.cs.map p2)]=[.ins "Valley" [],.lst nms,.ins "Ground" [("corners",.ref (S0.length+3))],.lst (V.cs.map p2)]from rfl];walk_at"g";refine⟨S0.length,[],rfl,zO,by decide,?_⟩;rw[Te,Ō];have hy2:∀ T,Lst (S0++T) y (V.bs.map Xv):=fun T=>hy.old
 have hz2:∀ T,Lst (S0++T) z (V.fs.map Yu):=fun T=>hz.old
 walk_at"g";refine⟨S0.length,_,rfl,zO,by simp,?_⟩;rw[Te,fH];walk_at"g";refine⟨S0.length,_,rfl,zO,by simp,?_⟩;rw[Te,jN];walk_at"g";refine⟨S0.length,_,rfl,zO,by simp,?_⟩;rw[Te,vp4];walk_at"g";refine⟨S0.length,_,rfl,zO,by simp,?_⟩;rw[Te,vp5];walk_at"g";refine⟨S0.length,_,rfl,zO,by simp,?_⟩;rw[Te,ů];walk_at"g";refine⟨S0.length,_,rfl,zO,by simp,?_⟩;rw[Te,vp7];refine fin_same (q _ ⟨S0.length,_,_,_,rfl,zO,⟨_,_,rfl,(zQ _ _ 2).trans rfl,(zQ _ _ 3).trans rfl⟩,(zQ _ _ 4).trans rfl,(zQ _ _ 5).trans rfl⟩)
def bU:ZX:=SN "Valley" G9
def X6:List (Int×Int):=[(-3,-1),(8,0)]
def wF:WR X6 where
  two:=by decide
  most:=by decide
  asc:=by unfold X6;simp
  bd:=fun c hc=>by
    have:c=(-3,-1)\/c=(8,0):=by simpa [X6]using hc
    rcases this with rfl|rfl<;>exact⟨(by show _<2 ^ 170;decide),(by show _<2 ^ 190;decide)⟩
def stN {s:Int×Int}(h0:0<=s.1)(h1:s.1<=4)(h2:0<=s.2):WY X6 s:=by
 refine⟨⟨?_,?_⟩,fun a b h=>?_⟩
 ·show(-3:Int)*1<=s.1;lia
 ·show s.1<=(8:Int)*1;lia
 ·have e:Tq X6 (s.1,1)=some ((-3,-1),(8,0)):=by
   show(if s.1<=(8:Int)*1 then _ else _)=_;rw[if_pos (by lia)]
  rw[e]at h;cases h;unfold Pb Tz;simp;lia
def Kh:ZX:=fun ds S Q=>∃ (a b c:D) (zs:List Str) (ps:List (Int×Int)) (fs:List Fg) (hz f:Int),ds=[.tup [a,b,c,.int hz,.int f,.int (f+5)]]/\Od zs ps fs hz f/\Lst S a (zs.map D.str)/\Lst S b (ps.map p2)/\Lst S c (fs.map Yu)/\∀ (T:Z7) (v:D) (V:Vl),Zw (S++T) v V->Y6 V->V.bs.map (·.1)=zs->V.h0=f->V.h1=f+5->V=⟨X6,zs.zip ps,fs,some hz,f,f+5,1⟩->Q v (S++T)
abbrev p8:DS :=
    (zf (zq Z4 (YH 6 (zF Vw (zF Yx (zF YB (zF YD (zF Yv (zF W3 YM))))))))
 (zf (zq (Zh 2 [] (Jd (zc Z0 Ys)) (YH 2 (zF Y5 (zF Vw YM))) Yj (dTup (zc Z4 (zc WD (zc Ux zm))))) Ub)
 (zB (dCall bU (zc (dCall Bc (zc (Yd (zc (dTup (zc (V9 V3 Ke) (zc (V9 V3 ZQ) zm))) (zc (dTup (zc Jy (zc ZL zm))) zm))) zm)) (zc V0 (zc ZS (zc ZJ (zc Y8 (zc Ye (zc ZQ zm)))))))))))
def zir:BodyOk 8 p8 Kh:=by
  rintro ds S Q ⟨a,b,c,zs,ps,fs,hz,f,rfl,w,ha,hb,hc,q⟩;unfold p8;have l8:=w.l8;have l2:=w.l2;have lp:=w.lp;walk_at"g";refine Ž ha hb ?_;refine Sw (fun i ys S'=>S'=S/\ys=((zs.zip ps).take i).map Xv) ⟨rfl,rfl⟩ (fun i ys S' e=>e.1▸⟨ha,hb⟩) (by rw[Rj,qa,qa];unfold big;lia) ?_ ?_
  . rintro i d ys S' hd ⟨rfl,rfl⟩;obtain⟨x,y,hx,hy,rfl⟩:=Ia hd;obtain⟨z,hz',rfl⟩:=XC hx;obtain⟨p,hp,rfl⟩:=Cr hy;walk_at"g";refine⟨rfl,?_⟩;rw[zZ (x:=(z,p)) (by rw[List.getElem?_zip_eq_some];exact⟨hz',hp⟩),qA];rfl
  rintro ys S' ⟨rfl,rfl⟩;rw[Rj,qa,qa,lp,Nat.min_self,JQ (by rw[List.length_zip];lia)];obtain⟨bs,hbs⟩:∃ bs:List (Str×(Int×Int)),bs=zs.zip ps:=⟨_,rfl⟩
  have bn:bs.map (·.1)=zs:=by rw[hbs];exact List.map_fst_zip (by lia)
  have bl:bs.length=zs.length:=by rw[<- bn,qa]
  have bsp:∀ b∈bs,b.1∈zs/\b.2∈ps:=fun b hb=>by rw[hbs]at hb;exact⟨(Np hb).1,(Np hb).2⟩
  rw[<- hbs];have sm:∀ {n:Nat} {x:Int},170<=n->-100<=x->x<=100->Bd n x:=fun {n x} hn h1 h2=>(show Bd 7 x by show _<2 ^ 7;lia).mono (by lia)
  have f0:=w.f0;have f1:=w.f1
  have ok:Y6 ⟨X6,bs,fs,some hz,f,f+5,1⟩ :=
    { gr:=wF,b1:=(by show 1<=bs.length;lia),b12:=(by show bs.length<=12;lia),nm:=fun b hb=>w.nm _ (bsp b hb).1,nd:=(by show(bs.map (·.1)).Nodup;rw[bn];exact w.nd)
      st:=fun b hb=>by have:=w.sp _ (bsp b hb).2;exact stN (by lia) (by lia) (by lia)
      bd:=fun b hb=>by have:=w.sp _ (bsp b hb).2;exact⟨sm (by decide) (by lia) (by lia),sm (by decide) (by lia) (by lia)⟩
      f12:=(by have:=w.lf;show fs.length<=12;lia),fg:=w.fg,hz:=(fun z e=>by have e':hz=z:=qF e;subst e';exact w.h0),hh:=(by show f<=f+5;lia),b0:=sm (by decide) (by show -100<=f;lia) (by show f<=100;lia),bl:=sm (by decide) (by show -100<=f+5;lia) (by show f+5<=100;lia),dl:=(by show(0:Int)<=1;decide) }
  walk_at"g";refine⟨S'++[.lst (bs.map Xv),.lst (X6.map p2)],_,X6,by simp,by simp;rfl,Lst.at (k:=1) rfl,wF,⟨rfl,?_⟩⟩;obtain⟨Sb,hSb⟩:∃ Sb:Z7,Sb=S'++[.lst (bs.map Xv),.lst (X6.map p2)]++[.ins "Ground" [("corners",.ref ((S'++[Cell.lst (bs.map Xv),.lst (X6.map p2)]).length+1))],.lst (X6.map p2)]:=⟨_,rfl⟩
  have hg:W2 Sb (.ref ((S'++[Cell.lst (bs.map Xv),.lst (X6.map p2)]).length)) X6:=hSb▸⟨_,_,rfl,zO,(zQ _ _ 1).trans rfl⟩;have hbb:Lst Sb (.ref S'.length) (bs.map Xv):=hSb▸Lst.old Lst.at0;have e1:∃ T,Sb=S'++T:=BJ ⟨_,rfl⟩ hSb;have hcc:Lst Sb c (fs.map Yu):=by obtain⟨T,rfl⟩:=e1;exact hc.old
  rw[<- hSb];have eg:(S'++[Cell.lst (bs.map Xv),Cell.lst [p2 (-3,-1),p2 (8,0)]]).length=(S'++[Cell.lst (bs.map Xv),.lst (X6.map p2)]).length:=rfl;clear hSb;walk_at"g";refine⟨Sb,_,_,_,⟨X6,bs,fs,some hz,f,f+5,1⟩,rfl,rfl,hg,hbb,hcc,ok,fun T hv=>⟨rfl,?_⟩⟩;obtain⟨T1,rfl⟩:=e1;rw[qk]at hv ⊢;exact fin_same (q _ _ _ hv ok bn rfl rfl (by rw[hbs]))
def Io:Yo:=fun ds S Q ex=>∃ (v:D) (V:Vl) (h:Int),ds=[v,.int h]/\Zw S v V/\(¬ (V.h0<=h/\h<=V.h1)->ex "BadHour" S)/\(V.h0<=h->h<=V.h1->Q .non S)
abbrev uh (ex:XR):DS :=(ZK (Wo (dT (Z6 oLt Z0 (X7 "first" Z4))) (dT (Z6 X5 Z0 (X7 "last" Z4)))) (Tt ex "BadHour") zH)
def ό:Vt 2 uh Io:=by
 rintro ds S Q ex ⟨v,V,h,rfl,hv,hx,q⟩;unfold uh;obtain⟨m,g,b',f,rfl,hm,hg,hb,_⟩:=hv;walk_at"g";refine Zu (fun h1=>?_) (fun h1=>?_)
 ·walk_at"g";exact hx (by lia)
 walk_at"g";refine Zu (fun h2=>?_) (fun h2=>?_)
 ·walk_at"g";exact hx (by lia)
 walk_at"g";exact fin_same (q (by lia) (by lia))
def Vi:ZX:=fun ds S Q=>∃ (v:D) (V:Vl),ds=[v]/\Zw S v V/\V.bs.length<=100/\New Q S ((V.bs.map (·.1)).map D.str)
abbrev rB:DS :=(zB (Zh 1 [] (Zi (X7 "beacons" Z4)) Y5 Yj Xe))
def zkn:BodyOk 1 rB Vi:=by
 rintro ds S Q ⟨v,V,rfl,hv,hl,q⟩;unfold rB;obtain⟨m,g,b',f,rfl,hm,hg,hb,_⟩:=hv;walk_at"g";refine Xp (fun _=>true) (Iv fun b=>.str b.1) (Lst.here hb) (by rw[qa];unfold big;lia) (fun i d ys hd hw=>?_) ?_
 ·obtain⟨b,_,rfl⟩:=Ju hd;walk_at"g";exact Xi hd hw rfl rfl
 rw[filter_true,Hf,show V.bs.map (fun b=>D.str b.1)=(V.bs.map (·.1)).map D.str by rw[XF];rfl];exact fin_same q
def GK:ZX:=fun ds S Q=>∃ (v:D) (V:Vl),ds=[v]/\Zw S v V/\Y6 V/\∀ (T:Z7) (n:Nat),(S++T)[n]?=some (.lst ((prs (V.bs.map (·.1))).map Zq))->Q (.ref n) (S++T)
abbrev Bk:DS :=
    (zf (zq (dCall Vi Ze) Vw)
 (zf (zq (Yd zm) Yx)
 (zf (Yr (VN Yz) (YH 2 (zF YB (zF YD YM))) (Yr (Zi (Wt Wz Z0 (some (Z6 Zx ZS ZQ)) none)) Yv (Y4 (dM V7 ZW (zc (dTup (zc ZJ Ig)) zm)))))
 (zB ZW))))
def zkb:BodyOk 6 Bk GK:=by
 rintro ds S Q ⟨v,V,rfl,hv,ok,q⟩;unfold Bk;have b12:=ok.b12;walk_at"g";refine⟨v,V,rfl,hv,by lia,?_⟩;have hz:∀ z∈V.bs.map (·.1),fl 20 (.str z)=true:=ok.flN;have zl:(V.bs.map (·.1)).length<=12:=by rw[qa];exact b12
 generalize V.bs.map (·.1)=zs at q hz zl;walk_at"g";refine PK Lst.at0 ?_;refine uO (fun i ρ S'=>∃ (G:Z7) (w3 w4 w5:Option D) (A:List (Str×Str)),S'=S++Cell.lst (zs.map D.str)::Cell.lst (A.map Zq)::G/\ρ=[some v,some (.ref S.length),some (.ref (S.length+1)),w3,w4,w5]/\prs zs=A++prs (zs.drop i)) ⟨[],_,_,_,[],rfl,rfl,by simp⟩ (by rintro i ρ S' ⟨G,_,_,_,A,e,_⟩;exact e▸Lst.at0) ?_ ?_
 ·rintro i d ρ S' hd ⟨G,w3,w4,w5,A,rfl,rfl,hA⟩;obtain⟨y,hy,rfl⟩:=R6 hd;obtain⟨z,hzi,rfl⟩:=XC hy;have hi:=zE hzi;obtain⟨A',h1,h2⟩:=Aw hzi;have eA:A=A':=List.append_cancel_right (hA.symm.trans h2);subst eA;have kz:Lst (S++Cell.lst (zs.map D.str)::Cell.lst (A.map Zq)::G) (.ref S.length) (zs.map D.str):=Lst.at0;walk_at"g";rw[Nat.zero_add,Lf,ϯ _ (by lia) (by lia),show((i:Int)+1).toNat=i+1 by lia]
  have lA:A.length<=144:=by have:=N8 zs;have h3:=congrArg List.length hA;rw[qf]at h3;have:zs.length*zs.length<=12*12:=Mu zl zl;lia
  have ll:(zs.drop (i+1)).length<=12:=by rw[K5];lia
  generalize zs.drop (i+1)=rs at h1 ll;refine uO (fun j ρ S'=>∃ (w5:Option D),S'=S++Cell.lst (zs.map D.str)::Cell.lst ((A++(rs.take j).map fun y=>(z,y)).map Zq)::(G++[.lst (rs.map D.str)])/\ρ=[some v,some (.ref S.length),some (.ref (S.length+1)),some (.int (i:Int)),some (.str z),w5]) ⟨w5,by simp,by rfl⟩ (fun j ρ S' ⟨w5,e,_⟩=>by rw[e];exact .inr ⟨_,rfl,by show(S++([_,_]++(G++_)))[S.length+([Cell.lst (zs.map D.str),Cell.lst (A.map Zq)]++G).length]?=_;rw[zQ,<- qk,qe (by simp)];simp⟩) ?_ ?_
  ·rintro j d ρ S' hd' ⟨w5,rfl,rfl⟩;obtain⟨x,hx,rfl⟩:=XC hd';have hj:=zE hx
   have hlim:((A++(rs.take j).map fun y=>(z,y)).map Zq).length<big:=by rw[qa,qf,qa,Vb];unfold big;lia
   walk_at"g";refine⟨_,?_,rfl⟩;rw[zZ hx];simp only[Jj,List.set_cons_zero,qA,qk,qP,Qe]
  ·rintro ρ S' ⟨w5,rfl,rfl⟩;rw[qa,Wa];refine⟨_,_,_,_,_,rfl,rfl,h1⟩
 ·rintro ρ S' ⟨G,w3,w4,w5,A,rfl,rfl,hA⟩;rw[UG,qa,List.drop_of_length_le (qh _)]at hA;have eA:prs zs=A:=by rw[hA];simp[prs]
  walk_at"g";subst eA;exact fin_same (q _ _ ((zQ _ _ 1).trans rfl))
def Ik:Yo:=fun ds S Q ex=>∃ (v:D) (V:Vl) (n:Str),ds=[v,.str n]/\Zw S v V/\Y6 V/\fl 20 (.str n)=true/\((∀ b∈V.bs,b.1≠n)->ex "NoBeacon" S)/\∀ s,(n,s)∈V.bs->Q (p2 s) S
abbrev Ab (ex : XR) : DS :=
    (zf (Yr (Zi (X7 "beacons" Z4)) Yx (ZK (dT (Z6 oEq RK Z0)) (zB (dTup (zc R7 (zc ϫ zm)))) zH))
 (Tt ex "NoBeacon"))
def cB:Vt 3 Ab Ik:=by
 rintro ds S Q ex ⟨v,V,n,rfl,hv,ok,hn,hx,q⟩;unfold Ab;obtain⟨m,g,b',f,rfl,hm,hg,hb,_⟩:=hv;walk_at"g";refine Xq (fun i ρ S'=>S'=S/\(∃ w,ρ=[some (.ref m),some (.str n),w])/\∀ b∈V.bs.take i,b.1≠n) ⟨rfl,⟨none,rfl⟩,by simp⟩ (fun i ρ S' h=>h.1▸Lst.here hb) ?_ ?_
 ·rintro i d ρ S' hd ⟨rfl,⟨w,rfl⟩,hno⟩;obtain⟨b,hbi,rfl⟩:=Ju hd;have mb:=qc hbi;walk_at"g";refine tU (uD (ok.nm b mb) 20) hn ?_;walk_at"g";refine Zu (fun h=>?_) (fun h=>?_)
  ·walk_at"g";exact fin_same (q b.2 (by rw[<- h];exact mb))
  ·walk_at"g";refine⟨rfl,⟨_,rfl⟩,fun c hc=>?_⟩;rw[zZ hbi]at hc;rcases qD.mp hc with hc|hc
   ·exact hno c hc
   ·have:c=b:=by simpa using hc
    subst this;exact h
 ·rintro ρ S' ⟨rfl,⟨w,rfl⟩,hno⟩;rw[qa,Wa]at hno;walk_at"g";exact hx hno
def Je:Yo:=fun ds S Q ex=>∃ (g:D) (cs:List (Int×Int)) (s:Int×Int),ds=[g,p2 s]/\W2 S g cs/\WR cs/\Bd 180 s.1/\Bd 200 s.2/\(¬ WY cs s->ex "OffGround" S)/\(WY cs s->Q .non S)
abbrev vm (ex:XR):DS :=(ZK (W7 (dT (dCall JH (zc Z4 Yz)))) (Tt ex "OffGround") zH)
def õ:Vt 2 vm Je:=by
 rintro ds S Q ex ⟨g,cs,s,rfl,hg,gr,b1,b2,hx,q⟩;unfold vm;walk_at"g";refine⟨g,cs,s,rfl,hg,gr,b1,b2,fun b hb=>?_⟩;cases b with
 | true=>walk_at"g";exact fin_same (q (hb.mp rfl))
 | false=>walk_at"g";exact hx fun z=>(by have:=hb.mpr z;cases this)
def G5:ZX:=fun ds S Q=>∃ (g:D) (cs:List (Int×Int)) (x y:Int),ds=[g,.int x,.int y]/\W2 S g cs/\cs.length<=40/\New Q S ((Yq cs x y cs.length).map D.int)
abbrev yG:DS :=
    (zf (zq (dB QV (zc Z0 Ys)) YB)
 (zf (zq (dB Qj (zc Z0 Ys)) YD)
 (zB (Zh 2 [3,4] (VN (zc (X7 "corners" Z4) zm)) (YH 2 (zF Y5 (zF Vw YM))) (dT (PN oLt oLt ZW WD ZS)) Z4))))
def ø:BodyOk 5 yG G5:=by
 rintro ds S Q ⟨g,cs,x,y,rfl,⟨n,l,rfl,hn,hl⟩,h40,q⟩;unfold yG;walk_at"g";refine PK (xs:=cs.map p2) (Lst.here hl) ?_;refine⟨by rw[UG,qa];unfold big;lia,fun i ys S'=>S'=S/\ys=(Yq cs x y i).map D.int,⟨rfl,rfl⟩,by rintro i ys S' ⟨e,_⟩;exact e▸Lst.here hl,?_,?_⟩
 ·rintro i d ys S' hd ⟨rfl,rfl⟩;obtain⟨u,hu,rfl⟩:=R6 hd;obtain⟨c,hc,rfl⟩:=Cr hu;have e0:((0+i:Nat):Int)=(i:Int):=by lia
  have eg:cs.getD i (0,0)=c:=by rw[qG,hc];rfl
  rw[e0];walk_at"g";refine Zu (fun g1=>?_) (fun g1=>?_)
  ·walk_at"g";refine Zu (fun g2=>?_) (fun g2=>?_)
   ·walk_at"g";exact⟨rfl,(Ψ (by unfold Tp;rw[eg,decide_eq_true g1,decide_eq_true g2];rfl)).symm⟩
   ·walk_at"g";exact⟨rfl,by rw[uL (by unfold Tp;rw[eg,decide_eq_false g2,SX])]⟩
  ·walk_at"g";exact⟨rfl,by rw[uL (by unfold Tp;rw[eg,decide_eq_false g1,V5])]⟩
 ·rintro ys S' ⟨rfl,rfl⟩;rw[UG,qa];exact fin_same q
def Ei:ZX:=fun ds S Q=>∃ (a b c:Int×Int),ds=[p2 a,p2 b,p2 c]/\YT (c.2-a.2) (b.1-a.1)/\YT (c.1-a.1) (b.2-a.2)/\Q (.int (Oq a b c)) S
abbrev tL:DS :=
    (zf (zq (Z6 Zf WD Xe) YB)
 (zf (zq (Z6 Zf Ux Wk) YD)
 (zf (zq (Z6 Zf (Z6 YX (Z6 Zf R7 Wk) ZS) (Z6 YX (Z6 Zf RK Xe) ZJ)) Yv)
 (zf (sJ (ZK (dT (Z6 oLt ZS ZL)) (zq (V9 V3 Y8) Yv) zH))
 (zf (ZK (dT (Z6 X5 Y8 ZL)) (zB ZQ) zH)
 (zf (ZK (dT (Z6 oLt Y8 ZL)) (zB (V9 V3 ZQ)) zH)
 (zB ZL)))))))
def zlB:BodyOk 6 tL Ei:=by
 rintro ds S Q ⟨a,b,c,rfl,c1,c2,q⟩;unfold tL;walk_at"g";unfold Oq at q
 have key:∀ o:Int,o=(if b.1-a.1<0 then -Xy a b c else Xy a b c)->(if 0<o then Q (.int 1) S else if o<0 then Q (.int (-1)) S else Q (.int 0) S):=fun o e=>by
  rw[<- e]at q;by_cases h:0<o
  ·rw[if_pos h]at q ⊢;exact q
  ·rw[if_neg h]at q ⊢;by_cases h2:o<0
   ·rw[if_pos h2]at q ⊢;exact q
   ·rw[if_neg h2]at q ⊢;exact q
 refine xu (fun ρ S'=>S'=S/\ρ=[some (p2 a),some (p2 b),some (p2 c),some (.int (b.1-a.1)),some (.int (b.2-a.2)),some (.int (if b.1-a.1<0 then -Xy a b c else Xy a b c))]) ?_ ?_
 ·walk_at"g";refine Zu (fun g=>?_) (fun g=>?_)
  ·walk_at"g";exact⟨rfl,by rw[if_pos g];rfl⟩
  ·walk_at"g";exact⟨rfl,by rw[if_neg g];rfl⟩
 rintro ρ S' ⟨rfl,rfl⟩;have k:=key _ rfl;generalize (if b.1-a.1<0 then -Xy a b c else Xy a b c)=o at k;walk_at"g";refine Zu (fun g=>?_) (fun g=>?_)
 ·rw[if_pos g]at k;walk_at"g";exact fin_same k
 ·rw[if_neg g]at k;walk_at"g";refine Zu (fun g2=>?_) (fun g2=>?_)
  ·rw[if_pos g2]at k;walk_at"g";exact fin_same k
  ·rw[if_neg g2]at k;walk_at"g";exact fin_same k
def Ew:Yo:=fun ds S Q ex=>∃ (g:D) (cs:List (Int×Int)) (a b:Int×Int),ds=[g,p2 a,p2 b]/\W2 S g cs/\WR cs/\(Bd 180 a.1/\Bd 200 a.2)/\(Bd 180 b.1/\Bd 200 b.2)/\(¬ (WY cs a/\WY cs b)->ex "OffGround" S)/\(WY cs a->WY cs b->Q (Vc (Vf cs a b)) S)
abbrev Aj (ex : XR) : DS :=
    (zf (Y4 (Ym Je ex (zc Z4 Yz)))
 (zf (Y4 (Ym Je ex (zc Z4 Ys)))
 (zf (Yr (Zi (dCall G5 (zc Z4 (zc WD (zc RK zm))))) YB (ZK (dT (Z6 X5 (dCall Ei (zc Z0 (zc ZW (zc (Z6 ZR (X7 "corners" Z4) ZS) zm)))) ZL)) (zB ZS) zH))
 (zB (dC .non)))))
def Ì:Vt 4 Aj Ew:=by
 rintro ds S Q ex ⟨g,cs,a,b,rfl,hg,gr,ba,bb,hx,q⟩;unfold Aj;walk_at"g";refine⟨g,cs,a,rfl,hg,gr,ba.1,ba.2,fun z=>hx fun y=>z y.1,fun za=>?_⟩;walk_at"g";refine⟨g,cs,b,rfl,hg,gr,bb.1,bb.2,fun z=>hx fun y=>z y.2,fun zb=>?_⟩;have sa:=Std.of ba.1 ba.2 za;have sb:=Std.of bb.1 bb.2 zb;have q:=q za zb;walk_at"g";refine⟨g,cs,_,_,rfl,hg,gr.most,?_⟩;have kl:∀ k∈Yq cs a.1 b.1 cs.length,0<=k/\k<cs.length:=fun k hk=>Ĝ hk
 unfold Vf at q;generalize Yq cs a.1 b.1 cs.length=ks at q kl;unfold New;walk_at"g";refine Xq (fun i ρ S'=>∃ w1,ρ=[some g,some (p2 a),some (p2 b),w1]/\S'=S++[.lst (ks.map D.int)]/\∀ x∈ks.take i,Mq cs a b x=false) ⟨none,rfl,rfl,by simp⟩ (by rintro i ρ S' ⟨w1,_,e,_⟩;exact e▸Lst.at0) ?_ ?_
 ·rintro i d ρ S' hd ⟨w1,rfl,rfl,hn⟩;obtain⟨k,hk,rfl⟩:=Pz hd;obtain⟨k0,k1⟩:=kl k (qc hk);obtain⟨c,hc,ac⟩:=Il (cs:=cs) k0 k1;have eg:cs.getD k.toNat (0,0)=c:=by rw[qG,hc];rfl
  obtain⟨bc1,bc2⟩:=gr.bd c (qc hc);obtain⟨n,l,rfl,hgn,hgl⟩:=hg.old (T:=[.lst (ks.map D.int)]);walk_at"g";refine⟨a,b,c,rfl,.inl ⟨(Bd.sub (bc2.mono (by decide:(190:Nat)<=200)) sa.2.1).mono (by decide),(Bd.sub sb.1 sa.1).mono (by decide)⟩,.inl ⟨(Bd.sub (bc1.mono (by decide:(170:Nat)<=180)) sa.1).mono (by decide),(Bd.sub sb.2.1 sa.2.1).mono (by decide)⟩,?_⟩;walk_at"g";refine Zu (fun g1=>?_) (fun g1=>?_)
  ·walk_at"g";rw[Bb hk hn (by unfold Mq;rw[eg];exact decide_eq_true g1)]at q;exact Sx rfl q
  ·walk_at"g";refine⟨_,rfl,rfl,fun x hx=>?_⟩;rw[zZ hk]at hx;rcases qD.mp hx with hx|hx
   ·exact hn x hx
   ·have:x=k:=by simpa using hx
    subst this;unfold Mq;rw[eg];exact decide_eq_false g1
 ·rintro ρ S' ⟨w1,rfl,rfl,hn⟩;rw[qa,Wa]at hn;rw[d9 hn]at q;walk_at"g";exact Sx rfl q
def Ez:ZX:=fun ds S Q=>∃ (a b:Int×Int),ds=[p2 a,p2 b]/\(Bd 180 a.1/\Bd 200 a.2)/\(Bd 180 b.1/\Bd 200 b.2)/\Q (.int (T6 a b)) S
abbrev wL:DS :=
    (zf (zq (Z6 Zf WD Xe) Yx)
 (zf (zq (Z6 Zf Ux Wk) YB)
 (zB (Z6 Zx (Z6 YX ZW ZW) (Z6 YX ZS ZS)))))
def gO:BodyOk 4 wL Ez:=by rintro ds S Q ⟨a,b,rfl,⟨a1,a2⟩,⟨b1,b2⟩,q⟩;unfold wL;have c1:Bd 8000 (b.1-a.1):=(Bd.sub b1 a1).mono (by decide);have c2:Bd 8000 (b.2-a.2):=(Bd.sub b2 a2).mono (by decide);have m1:YT (b.1-a.1) (b.1-a.1):=.inl ⟨c1,c1⟩;have m2:YT (b.2-a.2) (b.2-a.2):=.inl ⟨c2,c2⟩;walk_at"g";exact fin_same q
def Bq:ZX:=fun ds S Q=>∃ (v:D) (V:Vl) (a b:Int×Int),ds=[v,p2 a,p2 b]/\Zw S v V/\Y6 V/\((Bd 180 a.1/\Bd 200 a.2)/\WY V.cs a)/\((Bd 180 b.1/\Bd 200 b.2)/\WY V.cs b)/\Q (Rn V a b) S
abbrev sZ:DS :=
    (zf (zq (Ym Ew xF (zc (X7 "ground" Z4) (zc Z0 Ys))) YB)
 (zf (ZK (dT (Z6 Wn ZS (dC .non))) (zB (dTup (zc (dC (.str "ground")) Yi))) zH)
 (zf (zq (dCall Ez (zc Z0 Ys)) YD)
 (zf (ZK (Yc (dT (Z6 Wn (X7 "haze" Z4) (dC .non))) (dT (Z6 X5 ZJ (X7 "haze" Z4)))) (zB (dTup (zc (dC (.str "haze")) VL))) zH)
 (zB (dC .non))))))
def Ϡ:BodyOk 5 sZ Bq:=by
 rintro ds S Q ⟨v,V,a,b,rfl,hv,ok,⟨ba,sa⟩,⟨bb,sb⟩,q⟩;unfold sZ;obtain⟨n,g,bb',f,rfl,hn,hg,_,_⟩:=hv;walk_at"g";refine⟨_,V.cs,a,b,rfl,hg,ok.gr,ba,bb,fun no=>(no ⟨sa,sb⟩).elim,fun _ _=>?_⟩;unfold Rn at q;cases e:Vf V.cs a b with
 |some k =>rw[e]at q;unfold Vc;walk_at"g";exact fin_same q
 |none =>
  rw[e]at q;unfold Vc;walk_at"g";refine⟨a,b,rfl,ba,bb,?_⟩;dsimp only at q;have hn':S[n]?=some (.ins "Valley" (vF (.ref g) (.ref bb') (.ref f) (Vc V.hz) (.int V.h0) (.int V.h1) (.int V.dl))):=hn;generalize T6 a b=sq at q;generalize V.hz=hz at q hn';cases hz with
  |none =>have q2:Q .non S:=q;unfold Vc at hn';walk_at"g";exact fin_same q2
  |some z =>
   have q2:Q (if decide (z<sq)=true then .tup [.str "haze",.int sq]else .non) S:=q;unfold Vc at hn';walk_at"g";refine Zu (fun h=>?_) (fun h=>?_)
   ·rw[if_pos (decide_eq_true h)]at q2;walk_at"g";exact fin_same q2
   ·rw[if_neg (by rw[decide_eq_false h];decide)]at q2;walk_at"g";exact fin_same q2
def Dv:ZX:=fun ds S Q=>∃ (F:Fg) (h:Int),ds=[Yu F,.int h]/\YT F.g h/\YT F.s h/\Q (.tup [.int (F.x0+F.g*h),.int (F.x1+F.g*h),.int (F.z0+F.s*h),.int (F.z1+F.s*h)]) S
abbrev wV:DS :=
    (zf (zq (Z6 YX ă Z0) Yx)
 (zf (zq (Z6 YX zwA Z0) YB)
 (zB (dTup (zc (Z6 Zx Xe ZW) (zc (Z6 Zx Wk ZW) (zc (Z6 Zx Nf ZS) (zc (Z6 Zx Ld ZS) zm))))))))
def ü:BodyOk 4 wV Dv:=by rintro ds S Q ⟨F,h,rfl,c1,c2,q⟩;unfold wV;walk_at"g";exact fin_same q
def Cv:ZX:=fun ds S Q=>∃ (F:Fg) (h:Int),ds=[Yu F,.int h]/\N7 F/\Bd 300 h/\(¬ (F.f<=h/\h<=F.l)->Q .non S)/\(F.f<=h->h<=F.l->Q (.tup [.int (F.x0+F.g*(h-F.f)),.int (F.x1+F.g*(h-F.f)),.int (F.z0+F.s*(h-F.f)),.int (F.z1+F.s*(h-F.f))]) S)
abbrev mU:DS :=
    (zf (ZK (Wo (dT (Z6 oLt Z0 Hw)) (dT (Z6 X5 Z0 xZ))) (zB (dC .non)) zH)
 (zB (dCall Dv (zc Z4 (zc (Z6 Zf Z0 Hw) zm)))))
def znm:BodyOk 2 mU Cv:=by
 rintro ds S Q ⟨F,h,rfl,ok,bh,q0,q⟩;unfold mU;walk_at"g";refine Zu (fun h1=>?_) (fun h1=>?_)
 ·walk_at"g";exact fin_same (q0 (by lia))
 walk_at"g";refine Zu (fun h2=>?_) (fun h2=>?_)
 ·walk_at"g";exact fin_same (q0 (by lia))
 walk_at"g";have bk:Bd 301 (h-F.f):=Bd.sub bh ok.f;refine⟨F,_,rfl,.inl ⟨ok.b.bg.mono (by decide),bk.mono (by decide)⟩,.inl ⟨ok.b.bs.mono (by decide),bk.mono (by decide)⟩,?_⟩;exact fin_same (q (by lia) (by lia))
def BP:ZX:=fun ds S Q=>∃ (L R B T x1 z1 x2 z2:Int),ds=[.tup [.int L,.int R,.int B,.int T],.tup [.int x1,.int z1],.tup [.int x2,.int z2]]/\Bd 1000 L/\Bd 1000 R/\Bd 1000 B/\Bd 1000 T/\Bd 1000 x1/\Bd 1000 z1/\Bd 1000 x2/\Bd 1000 z2 /\
 ∀ (ca cb:Cell) (mx mn:Int),mx∈Za L R B T x1 z1 x2 z2->(∀ a∈Za L R B T x1 z1 x2 z2,a<=mx)->mn∈Za L R B T x1 z1 x2 z2->(∀ a∈Za L R B T x1 z1 x2 z2,mn<=a)->Q (.ref (S.length+2)) (S++[ca,cb,.lst ((six L R B T x1 z1 x2 z2 mx mn).map D.int)])
abbrev yC:DS :=
    (zf (zq (Z6 Zf RK WD) YB)
 (zf (zq (Z6 Zf R7 Ux) YD)
 (zf (zq (Yd (zc (dTup (zc Xe (zc Nf zm))) (zc (dTup (zc Xe (zc Ld zm))) (zc (dTup (zc Wk (zc Nf zm))) (zc (dTup (zc Wk (zc Ld zm))) zm))))) Yv)
 (zf (zq (Zh 2 [3,1,4] (Zi Y8) (YH 2 (zF Y5 (zF Vw YM))) Yj (Z6 Zf (Z6 YX ZW (Z6 Zf Z0 ξ)) (Z6 YX ZJ (Z6 Zf Z4 Ù)))) W3)
 (zB (Yd (zc (Z6 Zf (dB Qj (zc WD (zc RK zm))) Xe) (zc (Z6 Zf Wk (dB QV (zc WD (zc RK zm)))) (zc (Z6 Zf (dB Qj (zc Ux (zc R7 zm))) Nf) (zc (Z6 Zf Ld (dB QV (zc Ux (zc R7 zm)))) (zc (dB Jp Rc) (zc (V9 V3 (dB LQ Rc)) zm))))))))))))
def zlK:BodyOk 7 yC BP:=by
 rintro ds S Q ⟨L,R,B,T,x1,z1,x2,z2,rfl,bL,bR,bB,bT,b1,b2,b3,b4,q⟩;unfold yC;walk_at"g";refine Xp (fun _=>true) (on2 fun c=>.int ((x2-x1)*(c.2-z1)-(z2-z1)*(c.1-x1))) (by walk_at"l") (qH rfl) (fun i d ys hd hw=>?_) ?_
 ·obtain⟨c,hc,rfl⟩:=Cr (cs:=[(L,B),(L,T),(R,B),(R,T)]) hd;have hm:=qc hc
  have hb:Bd 1000 c.1/\Bd 1000 c.2:=by
   simp only[ql,qJ,or_false]at hm;rcases hm with rfl|rfl|rfl|rfl
   ·exact⟨bL,bB⟩
   ·exact⟨bL,bT⟩
   ·exact⟨bR,bB⟩
   ·exact⟨bR,bT⟩
  have hb1:=hb.1;have hb2:=hb.2;have c1:YT (x2-x1) (c.2-z1):=.inl ⟨(Bd.sub b3 b1).mono (by decide),(Bd.sub hb2 b2).mono (by decide)⟩;have c2:YT (z2-z1) (c.1-x1):=.inl ⟨(Bd.sub b4 b2).mono (by decide),(Bd.sub hb1 b1).mono (by decide)⟩;walk_at"g";exact Xi hd hw rfl rfl
 rw[filter_true];show New _ _ ((Za L R B T x1 z1 x2 z2).map D.int);walk_at"g";refine zuM (ns:=Za L R B T x1 z1 x2 z2) (by walk_at"l") (qH rfl) fun mx m1 m2=>?_
 walk_at"g";refine nU (ns:=Za L R B T x1 z1 x2 z2) (by walk_at"l") (qH rfl) fun mn n1 n2=>?_
 walk_at"g";exact fin_same (q _ _ mx mn m1 m2 n1 n2)
def Bv:ZX:=fun ds S Q=>∃ (L R B T:Int) (a b:Int×Int),ds=[.tup [.int L,.int R,.int B,.int T],p2 a,p2 b]/\L<=R/\B<=T/\(Bd 700 L/\Bd 700 R/\Bd 700 B/\Bd 700 T)/\(Bd 700 a.1/\Bd 700 a.2)/\(Bd 700 b.1/\Bd 700 b.2)/\∀ r:Bool,(r=true↔Q5 L R B T a.1 a.2 b.1 b.2)->Q (.bl r) S
abbrev nu:DS :=(zB (Z6 Kw (dB LQ (zc (dCall BP (zc Z4 (zc Z0 Ys))) zm)) ZL))
def Η:BodyOk 3 nu Bv:=by
 rintro ds S Q ⟨L,R,B,T,a,b,rfl,hx,hz,⟨bL,bR,bB,bT⟩,⟨ba1,ba2⟩,⟨bb1,bb2⟩,q⟩;unfold nu;walk_at"g";refine⟨L,R,B,T,a.1,a.2,b.1,b.2,rfl,bL.mono (by decide),bR.mono (by decide),bB.mono (by decide),bT.mono (by decide),ba1.mono (by decide),ba2.mono (by decide),bb1.mono (by decide),bb2.mono (by decide),fun ca cb mx mn m1 m2 n1 n2=>?_⟩;walk_at"g";refine nU (ns:=six L R B T a.1 a.2 b.1 b.2 mx mn) (Lst.at (k:=2) rfl) (by show 0<6;decide) fun m w1 w2=>?_
 walk_at"g";refine Sx rfl (q _ ?_);rw[decide_eq_true_eq,<- dF hx hz];exact cM m1 m2 n1 n2 w1 w2
def O2:Yo:=fun ds S Q ex=>∃ (v:D) (V:Vl) (n m:Str) (h:Int),ds=[v,.str n,.str m,.int h]/\Zw S v V/\Y6 V/\fl 20 (.str n)=true/\fl 20 (.str m)=true/\((∀ b∈V.bs,b.1≠n)\/(∀ b∈V.bs,b.1≠m)->ex "NoBeacon" S) /\
 ∀ s t,(n,s)∈V.bs->(m,t)∈V.bs->(¬ (V.h0<=h/\h<=V.h1)->ex "BadHour" S)/\(V.h0<=h->h<=V.h1->∀ d,Fi V n m s t h d->Q d S)
abbrev yH (ex : XR) : DS :=
    (zf (zq (Ym Ik ex (zc Z4 Yz)) YD)
 (zf (zq (Ym Ik ex (zc Z4 Ys)) Yv)
 (zf (Y4 (Ym Io ex (zc Z4 Yi)))
 (zf (ZK (dT (Z6 oEq Z0 ZW)) (zB (dC .non)) zH)
 (zf (zq (dCall Bq (zc Z4 (zc ZJ Ig))) W3)
 (zf (ZK (dT (Z6 Wn Ye (dC .non))) (zB Ye) zH)
 (zf (Yr (VN (zc (X7 "fogs" Z4) zm)) (YH 2 (zF Ub (zF KZ YM))) (zf (zq (dCall Cv (zc V2 Yi)) Fe)
 (ZK (Yc (dT (Z6 Wn Oc (dC .non))) (dT (dCall Bv (zc Oc (zc ZJ Ig))))) (zB (dTup (zc (dC (.str "fog")) R9))) zH)))
 (zB (dC .non)))))))))
def Ŷ:Vt 10 yH O2:=by
 rintro ds S Q ex ⟨v,V,n,m,h,rfl,hv,ok,hn,hm,hx,q⟩;unfold yH;walk_at"g";refine⟨v,V,n,rfl,hv,ok,hn,fun no=>hx (.inl no),fun s hs=>?_⟩;walk_at"g";refine⟨v,V,m,rfl,hv,ok,hm,fun no=>hx (.inr no),fun t ht=>?_⟩;obtain⟨q1,q2⟩:=q s t hs ht;clear hx q;have bs:=ok.bd _ hs;have bt:=ok.bd _ ht;have ss:=ok.st _ hs;have st:=ok.st _ ht;walk_at"g";refine⟨v,V,h,rfl,hv,q1,fun h0 h1=>?_⟩;have q':=q2 h0 h1;clear q1 q2;have bh:Bd 300 h:=(Bd.btw (n:=250) ok.b0 ok.bl h0 h1).mono (by decide);obtain⟨a,g,b',f,rfl,ha,hg,hb,hf⟩:=id hv;walk_at"g";refine tU hn hm ?_;walk_at"g";refine Zu (fun e=>?_) (fun e=>?_)
 ·walk_at"g";exact fin_same (q' .non (.inl ⟨e,rfl⟩))
 walk_at"g";refine⟨_,V,s,t,rfl,hv,ok,⟨bs,ss⟩,⟨bt,st⟩,?_⟩;walk_at"g";by_cases al:RV V s t
 case neg =>
  have en:YW (Rn V s t)=false:=by
   cases h:Rn V s t with
   |non=>exact absurd (Ce.mp h) al
   |_=>rfl
  rw[en];walk_at"g";exact fin_same (q' _ (.inr ⟨e,.inl ⟨al,rfl⟩⟩))
 rw[Ce.mpr al,show YW D.non=true from rfl];walk_at"g";refine PK (Lst.here hf) ?_;have f12:=ok.f12;refine Xq (fun i ρ S'=>S'=S/\(∃ w1 w2 w3:Option D,ρ=[some (.ref a),some (.str n),some (.str m),some (.int h),some (p2 s),some (p2 t),some .non,w1,w2,w3])/\∀ (j:Nat) G,j<i->V.fs[j]?=some G->¬ Vj G s.1 s.2 t.1 t.2 h) ⟨rfl,⟨_,_,_,rfl⟩,fun j G hj=>by lia⟩ (fun i ρ S' w=>w.1▸Lst.here hf) ?_ ?_
 ·rintro i d ρ S' hd ⟨rfl,⟨w1,w2,w3,rfl⟩,hno⟩;obtain⟨y,hy,rfl⟩:=R6 hd;obtain⟨F,hF,rfl⟩:=wO hy;have okF:=ok.fg F (qc hF)
  have nxt:¬ Vj F s.1 s.2 t.1 t.2 h->∀ (j:Nat) G,j<i+1->V.fs[j]?=some G->¬ Vj G s.1 s.2 t.1 t.2 h:=fun z j G hj hG=>by
   rcases qT j i with g|g
   ·exact hno j G g hG
   ·have:j=i:=by lia
    subst this;rw[hF]at hG;cases hG;exact z
  walk_at"g";refine⟨F,h,rfl,okF,bh,fun no=>?_,fun k0 k1=>?_⟩
  ·walk_at"g";exact⟨rfl,⟨_,_,_,rfl⟩,nxt fun z=>no ⟨z.1,z.2.1⟩⟩
  ·walk_at"g";have bk:Bd 301 (h-F.f):=Bd.sub bh okF.f;have p1:Bd 501 (F.g*(h-F.f)):=Bd.mul okF.b.bg bk;have p2':Bd 501 (F.s*(h-F.f)):=Bd.mul okF.b.bs bk;have aD:∀ {x y:Int},Bd 600 x->Bd 501 y->Bd 700 (x+y):=fun hx hy=>(Bd.add (n:=600) hx (hy.mono (by decide))).mono (by decide)
   refine⟨_,_,_,_,s,t,rfl,by have:=okF.b.x;lia,by have:=okF.b.z;lia,⟨aD okF.b.b0 p1,aD okF.b.b1 p1,aD okF.b.b2 p2',aD okF.b.b3 p2'⟩,⟨bs.1.mono (by decide),bs.2.mono (by decide)⟩,⟨bt.1.mono (by decide),bt.2.mono (by decide)⟩,fun r hr=>?_⟩;cases r with
   |true =>walk_at"g";rw[Nat.zero_add];exact fin_same (q' _ (.inr ⟨e,.inr ⟨al,.inl ⟨i,F,hF,⟨k0,k1,hr.mp rfl⟩,hno,rfl⟩⟩⟩))
   |false =>walk_at"g";exact⟨rfl,⟨_,_,_,rfl⟩,nxt fun z=>absurd (hr.mpr z.2.2) (by decide)⟩
 ·rintro ρ S' ⟨rfl,⟨w1,w2,w3,rfl⟩,hno⟩;rw[UG,qa]at hno;walk_at"g";refine fin_same (q' _ (.inr ⟨e,.inr ⟨al,.inr ⟨fun F hF=>?_,rfl⟩⟩⟩));obtain⟨j,hj,e⟩:=qN.mp hF;exact hno j F hj (by rw[qb hj,e])
def Jw:Yo:=fun ds S Q ex=>∃ (v:D) (V:Vl) (h:Int),ds=[v,.int h]/\Zw S v V/\Y6 V/\(¬ (V.h0<=h/\h<=V.h1)->ex "BadHour" S)/\(V.h0<=h->h<=V.h1->∀ (T:Z7) (n:Nat) (qs:List (Str×Str)),Lq V h (prs (V.bs.map (·.1))) qs->(S++T)[n]?=some (.lst (qs.map Zq))->S.length<=n->Q (.ref n) (S++T))
abbrev mX (ex : XR) : DS :=
    (zf (Y4 (Ym Io ex (zc Z4 Yz)))
 (zB (Zh 1 [0,1] (Zi (dCall GK Ze)) Y5 (dT (Z6 Ru (Ym O2 xF (zc Z0 (zc Xe (zc Wk Ys)))) (dC .non))) Z4)))
def jW:Vt 2 mX Jw:=by
  rintro ds S Q ex ⟨v,V,h,rfl,hv,ok,hx,q⟩;unfold mX;walk_at"g";refine⟨v,V,h,rfl,hv,hx,fun h0 h1=>?_⟩;have q':=q h0 h1;clear q hx;walk_at"g";refine⟨v,V,rfl,hv,ok,fun T n hn=>?_⟩;walk_at"g";have hv1:Zw (S++T) v V:=hv.old;have b12:=ok.b12;have hpm:∀ p∈prs (V.bs.map (·.1)),p.1∈V.bs.map (·.1)/\p.2∈V.bs.map (·.1):=fun p hp=>Wc hp
  have lp:(prs (V.bs.map (·.1))).length<=144:=by have:=N8 (V.bs.map (·.1));rw[qa]at this;have:V.bs.length*V.bs.length<=12*12:=Mu b12 b12;lia
  generalize prs (V.bs.map (·.1))=ps at q' hn hpm lp;refine Sw (fun i ys S'=>S'=S++T/\∃ qs,ys=qs.map Zq/\Lq V h (ps.take i) qs) ⟨rfl,[],rfl,fun _=>true,rfl,fun p hp=>by simp at hp⟩ (fun i ys S' w=>w.1▸Lst.here hn) (by rw[qa];unfold big;lia) ?_ ?_
  . rintro i d ys S' hd ⟨rfl,qs,rfl,hw⟩;obtain⟨p,hp,rfl⟩:=Kr hd;obtain⟨m1,m2⟩:=hpm p (qc hp);obtain⟨b,hb,eb⟩:=qv.mp m1;obtain⟨c,hc,ec⟩:=qv.mp m2;obtain⟨f,hf,hfp⟩:=hw;walk_at"g";refine⟨v,V,p.1,p.2,h,rfl,hv1,ok,ok.flN _ m1,ok.flN _ m2,fun no=>?_,fun s t hs ht=>⟨fun no=>absurd ⟨h0,h1⟩ no,fun _ _ e he=>?_⟩⟩
    . rcases no with no|no
      . exact no b hb eb
      . exact no c hc ec
    have en:YW e=true↔p.1=p.2\/Vy V s t h:=by rw[<- he.non];cases e<;>simp[YW]
    have ubc:∀ s' t',(p.1,s')∈V.bs->(p.2,t')∈V.bs->s'=s/\t'=t:=fun s' t' h1 h2=>⟨congrArg Prod.snd (R4 ok h1 hs rfl),congrArg Prod.snd (R4 ok h2 ht rfl)⟩
    walk_at"g";cases hg:YW e with
    |true =>walk_at"g";refine⟨rfl,qs++[p],by rw[qA];rfl,?_⟩;exact sH hp hs ht ⟨f,hf,hfp⟩ (fun s' t' h1 h2=>by obtain⟨rfl,rfl⟩:=ubc s' t' h1 h2;exact⟨fun _=>en.mp hg,fun _=>rfl⟩) (by rw[if_pos rfl])
    |false =>walk_at"g";refine⟨rfl,qs,rfl,?_⟩;exact sH (g:=false) hp hs ht ⟨f,hf,hfp⟩ (fun s' t' h1 h2=>by obtain⟨rfl,rfl⟩:=ubc s' t' h1 h2;exact⟨fun z=>(by cases z),fun z=>by rw[hg]at en;exact absurd (en.mpr z) (by decide)⟩) (by rw[if_neg (by decide)])
  . rintro ys S' ⟨rfl,qs,rfl,hw⟩;rw[qa,Wa]at hw;refine Xm (fin_same (q' _ _ qs hw Ov (by lia)))
def Xd (b:Nat)(zs:List Str):Nat->List (Str×D)
 |0=>[]
 |i+1=>Xd b zs i++[(zs.getD i Str.empty,.ref (b+i))]
theorem pB (b:Nat)(zs:List Str):∀ i,(Xd b zs i).length=i
 |0=>rfl
 |i+1=>by show(Xd b zs i++_).length=_;rw[qf,pB b zs i];rfl
theorem BK {b:Nat}{zs:List Str}(nd:zs.Nodup):∀ (i:Nat),i<=zs.length->∀ (j:Nat) z,zs[j]?=some z->dval (Xd b zs i) z=if j<i then some (.ref (b+j))else none
 |0,_,j,z,_=>by rw[if_neg (by lia)];rfl
 |i+1,hi,j,z,hz=>by
  have gi:zs[i]?=some (zs.getD i Str.empty):=by rw[qG,qb (by lia)];rfl
  show dval (Xd b zs i++[(zs.getD i Str.empty,.ref (b+i))]) z=_;rw[xr,BK nd i (by lia) j z hz];by_cases e:j<i
  ·rw[if_pos e,if_pos (show j<i+1 by lia)];rfl
  ·rw[if_neg e];by_cases e2:j=i
   ·subst e2;rw[gi]at hz;rw[if_pos (qF hz),if_pos (show j<j+1 by lia)];rfl
   ·rw[if_neg (fun w=>e2 (Ro nd hz (by rw[<- w];exact gi))),if_neg (show ¬ j<i+1 by lia)];rfl
structure yO (zs:List Str)(qs:List (Str×Str))(Ls:List (List Str)):Prop where
 len:Ls.length=zs.length
 nd:∀ ys∈Ls,ys.Nodup
 iff:∀ (j:Nat) z ys,zs[j]?=some z->Ls[j]?=some ys->∀ y,y∈ys↔(z,y)∈qs\/(y,z)∈qs
abbrev Xb (Ls:List (List Str)):Z7:=Ls.map fun ys=>Cell.lst (ys.map D.str)
def Ek:ZX:=fun ds S Q=>∃ (v:D) (V:Vl) (h:Int) (x:D) (zs:List Str),ds=[v,.int h,x]/\Zw S v V/\Y6 V/\V.bs.map (·.1)=zs/\Lst S x (zs.map D.str)/\V.h0<=h/\h<=V.h1/\∀ (T:Z7) (y:D),Tc (S++T) y V h->Q y (S++T)
abbrev vV:DS :=
    (zf (zq (Mw) YB)
 (zf (Yr (Zi ZW) YD (Mh ZS ZJ (Yd zm)))
 (zf (Yr (Zi (Ym Jw xF (zc Z4 Yz))) (YH 2 (zF Yv (zF W3 YM))) (zf (Y4 (dM V7 (Ur ZS Y8) Rc))
 (Y4 (dM V7 (Ur ZS Ye) Ig))))
 (zB ZS))))
def zkg:BodyOk 7 vV Ek:=by
 rintro ds S Q ⟨v,V,h,x,zs,rfl,hv,ok,hzs,hx,h0,h1,q⟩;unfold vV;have nd:zs.Nodup:=hzs▸ok.nd;have b12:zs.length<=12:=by rw[<- hzs,qa];exact ok.b12
 walk_at"g";have hx1:∀ T,Lst (S++T) x (zs.map D.str):=fun T=>hx.old
 have hx2:=hx1 [.dk []];walk_at"g";walk_at"h";refine Xq (fun i ρ S'=>i<=zs.length/\∃ w4:Option D,S'=S++Cell.dk (Xd (S.length+1) zs i)::Xb (List.replicate i [])/\ρ=[some v,some (.int h),some x,some (.ref S.length),w4,none,none]) ⟨qY _,none,rfl,rfl⟩ (by rintro i ρ S' ⟨_,_,e,_⟩;exact e▸hx.old) ?_ ?_
 ·rintro i d ρ S' hd ⟨hi,w4,rfl,rfl⟩;obtain⟨z,hz,rfl⟩:=XC hd;have li:=zE hz;have gz:zs.getD i Str.empty=z:=by rw[qG,hz];rfl
  walk_at"g";have e1:S.length+(Cell.dk (Xd (S.length+1) zs i)::Xb (List.replicate i [])).length=S.length+1+i:=by simp;lia
  rw[e1];refine RT.k (Z8:=Xd (S.length+1) zs i) zO (by rw[pB];unfold big;lia) ?_;refine G3 ?_;walk_at"g";refine⟨by lia,_,?_,rfl⟩;have hv0:dval (Xd (S.length+1) zs i) z=none:=by rw[BK nd i hi i z hz,if_neg (Xz i)]
  have e2:dput (Xd (S.length+1) zs i) z (.ref (S.length+1+i))=Xd (S.length+1) zs (i+1):=by unfold dput;rw[Rq,hv0,if_neg (by simp)];show Xd (S.length+1) zs i++[(z,_)]=Xd (S.length+1) zs i++[(zs.getD i Str.empty,_)];rw[gz]
  have e3:Xb (List.replicate i [])++[Cell.lst []]=Xb (List.replicate (i+1) []):=by rw[List.replicate_succ'];exact(qA (f:=fun ys:List Str=>Cell.lst (ys.map D.str)) (l₁:=List.replicate i []) (l₂:=[[]])).symm
  rw[e2,<- e3];rfl
 ·rintro ρ S' ⟨_,w4,rfl,rfl⟩;rw[qa];obtain⟨kv,hkv⟩:∃ kv,kv=Xd (S.length+1) zs zs.length:=⟨_,rfl⟩
  have vl:∀ (j:Nat) z,zs[j]?=some z->dval kv z=some (.ref (S.length+1+j)):=fun j z hz=>by rw[hkv,BK nd _ (qh _) j z hz,if_pos (zE hz)]
  rw[<- hkv];clear hkv;walk_at"g";refine⟨v,V,h,rfl,hv.old,ok,fun no=>absurd ⟨h0,h1⟩ no,fun _ _ T n qs hq hn ln=>?_⟩;have hmem:∀ p∈prs zs,p.1∈V.bs.map (·.1)/\p.2∈V.bs.map (·.1):=fun p hp=>hzs▸Wc hp
  rw[hzs]at hq;have eq:=uQ ok hmem hq;have qnd:qs.Nodup:=eq▸(vU nd).filter _
  have qp:∀ p∈qs,p∈prs zs/\z9 V h p.1 p.2:=fun p hp=>by rw[eq]at hp;obtain⟨h1,h2⟩:=qO.mp hp;exact⟨h1,M4.mp h2⟩
  have qm:∀ p∈prs zs,z9 V h p.1 p.2->p∈qs:=fun p hp had=>by rw[eq];exact qO.mpr ⟨hp,M4.mpr had⟩
  obtain⟨Ls0,hL0⟩:∃ Ls0:List (List Str),Ls0=List.replicate zs.length []:=⟨_,rfl⟩
  rw[<- hL0]at hn ln ⊢
  have n0:yO zs [] Ls0:=⟨by rw[hL0];simp,fun ys hy=>by rw[hL0]at hy;rw[List.eq_of_mem_replicate hy];simp,fun j z ys hz hs y=>by rw[hL0]at hs;rw[List.eq_of_mem_replicate (qc hs)];simp⟩
  have lL0:=n0.len
  have kq:∀ Ls:List (List Str),Ls.length=zs.length->Lst (S++Cell.dk kv::(Xb Ls++T)) (.ref n) (qs.map Zq):=fun Ls hl=>by
   refine .inr ⟨n,rfl,?_⟩
   have ln':S.length+(1+zs.length)<=n:=by
    have:(S++Cell.dk kv::Xb Ls0).length=S.length+(1+zs.length):=by simp;lia
    lia
   obtain⟨k,rfl⟩:∃ k,n=S.length+(1+zs.length+k):=⟨n-(S.length+(1+zs.length)),by lia⟩
   rw[qk,qbv,zQ,show 1+zs.length+k=(zs.length+k)+1 by lia,qZ,qe (by simp;lia)]at hn;rw[zQ,show 1+zs.length+k=(zs.length+k)+1 by lia,qZ,qe (by simp;lia)];rw[<- hn];congr 1;simp;lia
  rw[show S++Cell.dk kv::Xb Ls0++T=S++Cell.dk kv::(Xb Ls0++T) by simp];have kq0:=kq Ls0 lL0;clear hn hL0
  have bq:qs.length<=144:=by have h2:=Rg (RM V h) (prs zs);have h3:=N8 zs;have:zs.length*zs.length<=12*12:=Mu b12 b12;rw[eq];lia
  walk_at"g";refine Xq (fun i ρ S'=>∃ (Ls:List (List Str)) (w5 w6:Option D),S'=S++Cell.dk kv::(Xb Ls++T)/\ρ=[some v,some (.int h),some x,some (.ref S.length),w4,w5,w6]/\yO zs (qs.take i) Ls) ⟨Ls0,_,_,rfl,rfl,by simpa using n0⟩ (by rintro i ρ S' ⟨Ls,_,_,e,_,w⟩;exact e▸kq Ls w.len) ?_ ?_
  ·rintro i d ρ S' hd ⟨Ls,w5,w6,rfl,rfl,w⟩;obtain⟨⟨a,b⟩,hp,rfl⟩:=Kr hd;have mp:=qc hp;obtain⟨pp,_⟩:=qp _ mp;obtain⟨ma,mb⟩:=Wc pp;have nab:a≠b:=Oi nd pp;obtain⟨ia,hia,ea⟩:=qN.mp ma;obtain⟨ib,hib,eb⟩:=qN.mp mb;have ga:zs[ia]?=some a:=by rw[qb hia,ea]
   have gb:zs[ib]?=some b:=by rw[qb hib,eb]
   have wl:=w.len;obtain⟨ya,hya⟩:∃ ya,Ls[ia]?=some ya:=⟨_,qb (by lia)⟩
   have Zv:(a,b)∉qs.take i:=fun z=>by obtain⟨j,hj,ej⟩:=qN.mp z;rw[List.getElem_take]at ej;rw[Vb]at hj;have li:=zE hp;rw[qb li]at hp;have:=Ut.mp qnd j i (by lia) li (by lia);exact this (ej.trans (qF hp).symm)
   have not2:(b,a)∉qs.take i:=fun z=>Bl nd pp (qp _ (Qw z)).1
   have no1:b∉ya:=fun z=>((w.iff ia a ya ga hya b).mp z).elim Zv not2
   have at1:∀ (Ls:List (List Str)) (j:Nat) (ys:List Str),Ls[j]?=some ys->(S++Cell.dk kv::(Xb Ls++T))[S.length+1+j]?=some (.lst (ys.map D.str)):=fun Ls j ys hj=>by rw[Py,zQ,show 1+j=j+1 by lia,qZ,qg (by rw[qa];exact zE hj),qi,hj];rfl
   have put1:∀ (Ls:List (List Str)) (j:Nat) (ys:List Str),j<Ls.length->(S++Cell.dk kv::(Xb Ls++T)).set (S.length+1+j) (.lst (ys.map D.str))=S++Cell.dk kv::(Xb (Ls.set j ys)++T):=fun Ls j ys hj=>by rw[Pq _ _ (by lia),show S.length+1+j-S.length=j+1 by lia,Jj,List.set_append_left _ _ (by rw[qa];exact hj),show Xb (Ls.set j ys)=(Xb Ls).set j (.lst (ys.map D.str))from List.map_set]
   have lya:ya.length<=12:=qW (KY (N:=zs) (w.nd ya (qc hya)) fun y hy=>by
    rcases(w.iff ia a ya ga hya y).mp hy with z|z
    ·exact(Wc (qp _ (Qw z)).1).2
    ·exact(Wc (qp _ (Qw z)).1).1) b12
   walk_at"g";refine⟨_,Zc.k zO (vl ia a ga),?_⟩;refine Hx (at1 Ls ia ya hya) ?_;walk_at"g";refine JF (at1 Ls ia ya hya) (by rw[qa];unfold big;lia) ?_;refine Vn ?_;rw[show ya.map D.str++[D.str b]=(ya++[b]).map D.str by rw[qA];rfl,put1 _ _ _ (by lia)];obtain⟨yb,hyb⟩:∃ yb,(Ls.set ia (ya++[b]))[ib]?=some yb:=⟨_,qb (by rw[W8];lia)⟩
   have hyb':Ls[ib]?=some yb:=by rwa[qS (fun e=>nab (by subst e;rw[ga]at gb;exact qF gb))]at hyb
   have no2:a∉yb:=fun z=>((w.iff ib b yb gb hyb' a).mp z).elim not2 Zv
   have lyb:yb.length<=12:=qW (KY (N:=zs) (w.nd yb (qc hyb')) fun y hy=>by
    rcases(w.iff ib b yb gb hyb' y).mp hy with z|z
    ·exact(Wc (qp _ (Qw z)).1).2
    ·exact(Wc (qp _ (Qw z)).1).1) b12
   walk_at"g";refine⟨_,Zc.k zO (vl ib b gb),?_⟩;refine Hx (at1 _ ib yb hyb) ?_;walk_at"g";refine JF (at1 _ ib yb hyb) (by rw[qa];unfold big;lia) ?_;refine Vn ?_;rw[show yb.map D.str++[D.str a]=(yb++[a]).map D.str by rw[qA];rfl,put1 _ _ _ (by rw[W8];lia)];walk_at"g";refine⟨_,_,_,rfl,rfl,?_⟩;rw[zZ hp];have len2:((Ls.set ia (ya++[b])).set ib (yb++[a])).length=zs.length:=by rw[W8,W8];exact wl
   refine⟨len2,fun ys hy=>?_,fun j z ys hz hs y=>?_⟩
   ·have snd:∀ {l:List Str} {c:Str},l.Nodup->c∉l->(l++[c]).Nodup:=fun {l c} h1 h2=>by
     rw[VR];refine⟨h1,by simp,fun u hu v' hv' e=>?_⟩;have:v'=c:=by simpa using hv'
     subst this;subst e;exact h2 hu
    rcases Eu hy with hy|rfl
    ·rcases Eu hy with hy|rfl
     ·exact w.nd ys hy
     ·exact snd (w.nd _ (qc hya)) no1
    ·exact snd (w.nd _ (qc hyb')) no2
   ·have mem2:∀ u t:Str,(u,t)∈qs.take i++[(a,b)]↔(u,t)∈qs.take i\/(u=a/\t=b):=fun u t=>by rw[qD,qK,Prod.mk.injEq]
    rw[mem2,mem2];by_cases e2:ib=j
    ·subst e2;rw[qU (by rw[W8];lia)]at hs;cases hs;rw[gb]at hz;cases hz;rw[qD,qK,w.iff ib b yb gb hyb' y];constructor
     ·rintro((z|z)|z)
      ·exact .inl (.inl z)
      ·exact .inr (.inl z)
      ·exact .inr (.inr ⟨z,rfl⟩)
     ·rintro((z|z)|(z|z))
      ·exact .inl (.inl z)
      ·exact absurd z.1.symm nab
      ·exact .inl (.inr z)
      ·exact .inr z.1
    ·rw[qS e2]at hs;by_cases e1:ia=j
     ·subst e1;rw[qU (by lia)]at hs;cases hs;rw[ga]at hz;cases hz;rw[qD,qK,w.iff ia a ya ga hya y];constructor
      ·rintro((z|z)|z)
       ·exact .inl (.inl z)
       ·exact .inr (.inl z)
       ·exact .inl (.inr ⟨rfl,z⟩)
      ·rintro((z|z)|(z|z))
       ·exact .inl (.inl z)
       ·exact .inr z.2
       ·exact .inl (.inr z)
       ·exact absurd z.2 nab
     ·rw[qS e1]at hs;rw[w.iff j z ys hz hs y];have nz1:z≠a:=fun e=>by subst e;exact e1 (Ro nd ga hz)
      have nz2:z≠b:=fun e=>by subst e;exact e2 (Ro nd gb hz)
      constructor
      ·exact fun z=>z.imp .inl .inl
      ·rintro((z|z)|(z|z))
       ·exact .inl z
       ·exact absurd z.1 nz1
       ·exact .inr z
       ·exact absurd z.2 nz2
  ·rintro ρ S' ⟨Ls,w5,w6,rfl,rfl,w⟩;rw[qa,Wa]at w;walk_at"g";refine fin_same (q _ _ ⟨S.length,kv,rfl,zO,fun z hz=>?_⟩);rw[hzs]at hz;obtain⟨j,hj,ej⟩:=qN.mp hz;have gj:zs[j]?=some z:=by rw[qb hj,ej]
   have wl:=w.len;obtain⟨ys,hys⟩:∃ ys,Ls[j]?=some ys:=⟨_,qb (by lia)⟩
   refine⟨S.length+1+j,ys,vl j z gj,?_,w.nd ys (qc hys),fun y=>?_⟩
   ·rw[Py,zQ,show 1+j=j+1 by lia,qZ,qg (by rw[qa];exact zE hys),qi,hys];rfl
   ·rw[w.iff j z ys gj hys y];constructor
    ·rintro(z'|z')
     ·obtain⟨p1,p2⟩:=qp _ z';exact⟨(Oi nd p1).symm,p2⟩
     ·obtain⟨p1,p2⟩:=qp _ z';exact⟨Oi nd p1,Pr p2⟩
    ·rintro⟨ne,aD⟩;have my:=(CV aD).2;rw[hzs]at my;rcases pN hz my (Ne.symm ne)with z'|z'
     ·exact .inl (qm _ z' aD)
     ·exact .inr (qm _ z' (Pr aD))
def BL:ZX:=fun ds S Q=>∃ (x:D) (zs:List Str) (y:D) (V:Vl) (h:Int),ds=[x,y]/\Lst S x (zs.map D.str)/\Y6 V/\V.bs.map (·.1)=zs/\Tc S y V h/\∀ (T:Z7) (n:Nat) (ps:List (Str×Str)),(∀ p∈ps,p.1∈zs/\p.2∈zs/\p.1≠p.2/\¬ z9 V h p.1 p.2)->ps.length<=144->(S++T)[n]?=some (.lst (ps.map Zq))->Q (.ref n) (S++T)
abbrev tV:DS :=
    (zf (zq (Yd zm) Yx)
 (zf (Yr (Zi Z4) YB (Y4 (dM Ii ZW (zc (Zh 1 [3,1] (Zi Z4) Y5 (Yc (dT (Z6 Yg Z4 Z0)) (dT (Z6 RQ Z4 (Ur ZW Z0)))) (dTup (zc Z0 Ze))) zm))))
 (zB ZW)))
def ziY:BodyOk 4 tV BL:=by
 rintro ds S Q ⟨x,zs,y,V,h,rfl,hx,ok,hzs,hn,q⟩;unfold tV;have b12:zs.length<=12:=by rw[<- hzs,qa];exact ok.b12
 have flz:∀ z∈zs,fl 20 (.str z)=true:=hzs▸ok.flN;have hx1:∀ T,Lst (S++T) x (zs.map D.str):=fun T=>hx.old
 walk_at"g";have hx2:=hx1 [.lst []];walk_at"g";walk_at"h";refine Xq (fun i ρ S'=>∃ (ps:List (Str×Str)) (G:Z7) (w3:Option D),S'=S++Cell.lst (ps.map Zq)::G/\ρ=[some x,some y,some (.ref S.length),w3]/\ps.length<=12*i/\∀ p∈ps,p.1∈zs/\p.2∈zs/\p.1≠p.2/\¬ z9 V h p.1 p.2) ⟨[],[],none,rfl,rfl,by simp,by simp⟩ (by rintro i ρ S' ⟨_,_,_,e,_⟩;exact e▸hx.old) ?_ ?_
 ·rintro i d ρ S' hd ⟨ps,G,w3,rfl,rfl,hl,hp⟩;obtain⟨a,ha,rfl⟩:=XC hd;have ma:=qc ha;have li:=zE ha;obtain⟨m,ys,hg,hm,ynd,hy⟩:=Tc.get (hn.old (T:=Cell.lst (ps.map Zq)::G)) (hzs.symm▸ma);have fly:∀ z∈ys,fl 20 (.str z)=true:=fun z hz=>flz z (hzs▸(CV ((hy z).mp hz).2).2)
  have kx:=hx1 (Cell.lst (ps.map Zq)::G);obtain⟨S1,hS1⟩:∃ S1:Z7,S1=S++Cell.lst (ps.map Zq)::G:=⟨_,rfl⟩
  walk_at"g";rw[<- hS1]at kx hg hm ⊢;refine Xp (Wm fun z=>decide (z≠a/\z∉ys)) (NK fun z=>Zq (a,z)) kx (by rw[qa];unfold big;lia) (fun j d zs' hd' hw=>?_) ?_
  ·obtain⟨z,hz,rfl⟩:=XC hd';have mz:=qc hz;walk_at"g";refine QM (flz z mz) (flz a ma) ?_;walk_at"g";refine Xf (fun e=>?_) (fun e=>?_)
   ·walk_at"g";refine⟨_,hg,?_⟩;refine Om (.inr (Lst.here hm)) (flz z mz) fly ?_;walk_at"g";refine Xf (fun e2=>?_) (fun e2=>?_)
    ·walk_at"g";exact Xi hd' hw (decide_eq_true ⟨e,e2⟩) rfl
    ·walk_at"g";exact T9 hd' hw (decide_eq_false fun w=>w.2 e2)
   ·walk_at"g";exact T9 hd' hw (decide_eq_false fun w=>w.1 e)
  have ef:((zs.map D.str).filter (Wm fun z=>decide (z≠a/\z∉ys))).map (NK fun z=>Zq (a,z))=((zs.filter fun z=>decide (z≠a/\z∉ys)).map fun z=>(a,z)).map Zq:=by rw[Rz,XF,XF];rfl
  rw[ef];obtain⟨rs,hrs⟩:∃ rs:List (Str×Str),rs=(zs.filter fun z=>decide (z≠a/\z∉ys)).map fun z=>(a,z):=⟨_,rfl⟩
  have lr:rs.length<=12:=by rw[hrs,qa];exact qW (Rg _ _) b12
  have mr:∀ p∈rs,p.1∈zs/\p.2∈zs/\p.1≠p.2/\¬ z9 V h p.1 p.2:=fun p hp'=>by rw[hrs]at hp';obtain⟨z,hz,rfl⟩:=qv.mp hp';obtain⟨mz,e⟩:=qO.mp hz;have e:=of_decide_eq_true e;exact⟨ma,mz,Ne.symm e.1,fun aD=>e.2 ((hy z).mpr ⟨e.1,aD⟩)⟩
  rw[<- hrs,hS1];clear hrs ef;refine Xm ?_;walk_at"g";refine aA (xs:=ps.map Zq) (ys:=rs.map Zq) zO Ov (by simp) (by rw[qa,qa];unfold big;lia) ?_;walk_at"g";refine⟨ps++rs,_,_,by rw[qA],rfl,by rw[qf];lia,fun p hp'=>?_⟩;rcases qD.mp hp' with z|z
  ·exact hp p z
  ·exact mr p z
 ·rintro ρ S' ⟨ps,G,w3,rfl,rfl,hl,hp⟩;rw[qa]at hl;walk_at"g";exact fin_same (q _ _ ps hp (by lia) zO)
def Ck:ZX:=fun ds S Q=>∃ (x:D) (ps:List (Str×Str)) (t m:Int),ds=[x,.int t,.int m]/\Lst S x (ps.map Zq)/\0<=m/\m<=10/\∀ qs:List (Str×Str),(∀ q∈qs,q∈ps)->New Q S (qs.map Zq)
abbrev xW:DS :=(zB (Zh 1 [0,1] (RZ (zc (dB QV (zc ZW (zc (dB Zo Ze) zm))) zm)) Y5 Yj (Z6 ZR Z0 (Z6 oMod (Z6 Zx (Z6 oDiv ZW RJ) (Z6 YX R8 Z4)) (dB Zo Yz)))))
def fW:BodyOk 3 xW Ck:=by
 rintro ds S Q ⟨x,ps,t,m,rfl,hx,h0,h1,q⟩;unfold xW;walk_at"g";rw[qa];refine⟨_,rfl,by lia,by lia,?_⟩;refine Sw (fun i ys S'=>S'=S/\∃ qs:List (Str×Str),ys=qs.map Zq/\∀ q∈qs,q∈ps) ⟨rfl,[],rfl,by simp⟩ (fun _ _ _ _=>True.intro) (by rw[Ml];unfold big;lia) ?_ ?_
 ·rintro i d ys S' hd ⟨rfl,qs,rfl,hq⟩;obtain⟨hi,rfl⟩:=Oa hd;have hp:0<ps.length:=by lia
  have cm:YT 5 (0+(i:Int)):=.inr (.inl (by decide));have m1:=T8 (t/6+5*(0+(i:Int))) (show((ps.length:Nat):Int)≠0 by lia);have m2:=RX (t/6+5*(0+(i:Int))) (show(0:Int)<((ps.length:Nat):Int) by lia);have hpl:(0:Int)<((ps.map Zq).length:Nat):=by rw[qa];lia
  walk_at"g";rw[qa];obtain⟨j,hj⟩:∃ j:Nat,(t/6+5*(0+(i:Int)))%(ps.length:Int)=(j:Nat):=⟨_,(Int.toNat_of_nonneg m1).symm⟩
  rw[hj]at m2 ⊢;have gj:ps[j]?=some (ps[j]'(by lia)):=qb (by lia);have aj:Zm (ps.map Zq) (j:Int)=some (Zq (ps[j]'(by lia))):=SQ (by rw[qi,gj];rfl);walk_at"g";refine⟨rfl,qs++[ps[j]'(by lia)],by rw[qA];rfl,fun p hp'=>?_⟩;rcases qD.mp hp' with z|z
  ·exact hq p z
  ·have:p=_:=qK.mp z;rw[this];exact qc gj
 rintro ys S' ⟨rfl,qs,rfl,hq⟩;exact fin_same (q qs hq)
theorem yt {α β:Type}:∀ {xs:List α} {ys:List β} (i:Nat),xs.length=ys.length->(xs.eraseIdx i).zip (ys.eraseIdx i)=(xs.zip ys).eraseIdx i
 |[],[],_,_=>rfl
 |_::_,_::_,0,_=>rfl
 |x::xs,y::ys,i+1,h=>by exact congrArg ((x,y)::·) (yt i (by simpa using h))
def Aa {α β:Type}(f:α->β)(xs:List α)(i:Nat):(xs.map f).eraseIdx i=(xs.eraseIdx i).map f:=by rw[Bx,Bx,qA,List.map_take,List.map_drop]
def Bp (xs:List α){i:Nat}(hi:i<xs.length):cutD xs none (some (i:Int))++cutD xs (some ((i:Int)+1)) none=xs.eraseIdx i:=by rw[Bx];unfold cutD XJ;dsimp only;rw[if_neg (show ¬ (i:Int)<0 by lia),if_neg (show ¬ (i:Int)+1<0 by lia)];rw[show(i:Int).toNat=i from Ot i,show((i:Int)+1).toNat=i+1 by lia,JT (by lia),JT (by lia),List.drop_zero,Nat.sub_zero,JQ (l:=xs.drop (i+1)) (by rw[K5];lia)]
def zjp {xs:List (Str×(Int×Int))}{zs:List Str}(e:xs.map (·.1)=zs)(nd:zs.Nodup){i:Nat}{g:Str}(hg:zs[i]?=some g)(p:Str×(Int×Int)):p∈xs.eraseIdx i↔p∈xs/\p.1≠g:=by
 rw[List.mem_eraseIdx_iff_getElem?];have at':∀ {j:Nat} {p:Str×(Int×Int)},xs[j]?=some p->zs[j]?=some p.1:=fun h=>by rw[<- e,qi,h];rfl
 constructor
 ·rintro⟨j,hj,hp⟩;exact⟨qc hp,fun z=>hj (Ro nd (at' hp) (by rw[z];exact hg))⟩
 ·rintro⟨hp,n⟩;obtain⟨j,hj⟩:=Vv.mp hp;exact⟨j,fun z=>n (by subst z;exact qF ((at' hj).symm.trans hg)),hj⟩
def G6:ZX:=fun ds S Q=>∃ (a b c:D) (zs:List Str) (ps:List (Int×Int)) (fs:List Fg) (hz f:Int) (i:Nat),ds=[.tup [a,b,c,.int hz,.int f,.int (f+5)],.int i]/\Od zs ps fs hz f/\Lst S a (zs.map D.str)/\Lst S b (ps.map p2)/\Lst S c (fs.map Yu)/\i<zs.length/\3<=zs.length /\
 ∀ (T:Z7) (v:D) (V':Vl),Zw (S++T) v V'->Y6 V'->V'.h0=f->V'=⟨X6,(zs.zip ps).eraseIdx i,fs,some hz,f,f+5,1⟩->Q v (S++T)
abbrev Ai:DS :=
    (zf (zq Z4 (YH 6 (zF Yx (zF YB (zF YD (zF Yv (zF W3 (zF Ub YM))))))))
 (zB (dCall Kh (zc (dTup (zc (Z6 Zx (Wt Wz ZW none (some Z0)) (Wt Wz ZW (some (Z6 Zx Z0 ZQ)) none)) (zc (Z6 Zx (Wt Wz ZS none (some Z0)) (Wt Wz ZS (some (Z6 Zx Z0 ZQ)) none)) (zc ZJ (zc Y8 (zc Ye R9)))))) zm))))
def zhH:BodyOk 8 Ai G6:=by
 rintro ds S Q ⟨a,b,c,zs,ps,fs,hz,f,i,rfl,w,ha,hb,hc,hi,l3,q⟩;unfold Ai;have lp:=w.lp;have l8:=w.l8;have ha1:∀ T,Lst (S++T) a (zs.map D.str):=fun T=>ha.old
 have hb1:∀ T,Lst (S++T) b (ps.map p2):=fun T=>hb.old
 have lim:∀ {α:Type} (xs:List α),xs.length<=8->i<xs.length->(cutD xs none (some (i:Int))).length+(cutD xs (some ((i:Int)+1)) none).length<=big:=fun xs h1 h2=>by have:=congrArg List.length (Bp xs h2);rw[qf,Le h2]at this;unfold big;lia
 walk_at"g";refine FT Lst.at0 (Lst.at (k:=1) rfl) (lim _ (by rw[qa];exact l8) (by rw[qa];exact hi)) ?_;rw[Bp _ (by rw[qa];exact hi),Aa];refine Xm ?_;obtain⟨X,hX⟩:∃ X:Z7,X=[Cell.lst (cutD (zs.map D.str) none (some (i:Int))),.lst (cutD (zs.map D.str) (some ((i:Int)+1)) none)]++[.lst ((zs.eraseIdx i).map D.str)]:=⟨_,rfl⟩
 have kz:∀ G,Lst (S++(X++G)) (.ref (S.length+2)) ((zs.eraseIdx i).map D.str):=fun G=>by rw[hX];exact Lst.at (k:=2) rfl
 have hb2:=hb1 X;have hb3:=hb1 (X++[Cell.lst (cutD (ps.map p2) none (some (i:Int)))]);rw[show([Cell.lst (cutD (zs.map D.str) none (some (i:Int))),.lst (cutD (zs.map D.str) (some ((i:Int)+1)) none)]:Z7).length=2 from rfl,<- hX];clear hX;walk_at"g";obtain⟨Y,hY⟩:∃ Y:Z7,Y=X++[Cell.lst (cutD (ps.map p2) none (some (i:Int)))]:=⟨_,rfl⟩
 have k1:Lst (S++(Y++[Cell.lst (cutD (ps.map p2) (some ((i:Int)+1)) none)])) (.ref (S.length+X.length)) (cutD (ps.map p2) none (some (i:Int))):=by rw[hY,<- qk];exact Lst.old Lst.new
 rw[<- hY];refine FT k1 Lst.new (lim _ (by rw[qa];lia) (by rw[qa];lia)) ?_;rw[Bp _ (by rw[qa];lia),Aa];refine Xm ?_;obtain⟨Z,hZ⟩:∃ Z:Z7,Z=Y++[Cell.lst (cutD (ps.map p2) (some ((i:Int)+1)) none)]:=⟨_,rfl⟩
 rw[<- hZ]
 have kz2:Lst (S++(Z++[Cell.lst ((ps.eraseIdx i).map p2)])) (.ref (S.length+2)) ((zs.eraseIdx i).map D.str):=by rw[hZ,hY,qk,qk];exact kz _
 have sub:∀ {x:Str},x∈zs.eraseIdx i->x∈zs:=fun h=>List.mem_of_mem_eraseIdx h
 have w':Od (zs.eraseIdx i) (ps.eraseIdx i) fs hz f:=⟨by rw[Le hi];lia,by rw[Le hi];lia,fun z hz'=>w.nm z (sub hz'),w.nd.sublist (List.eraseIdx_sublist ..),by rw[Le hi,Le (by lia),lp],fun p hp=>w.sp p (List.mem_of_mem_eraseIdx hp),w.lf,w.fg,w.h0,w.h1,w.f0,w.f1⟩
 walk_at"g";refine⟨_,_,c,_,_,fs,hz,f,rfl,w',kz2,Lst.new,hc.old,fun T v V hv ok hzs e0 e1 eV=>?_⟩;rw[qk]at hv ⊢;exact fin_same (q _ _ _ hv ok e0 (by rw[eV,yt i lp.symm]))
def K9:ZX:=fun ds S Q=>∃ (v:D) (V:Vl) (h:Int) (a b:Str),ds=[v,.int h,.str a,.str b]/\Zw S v V/\Y6 V/\a∈V.bs.map (·.1)/\b∈V.bs.map (·.1)/\V.h0<=h/\h<=V.h1/\¬ z9 V h a b/\Q .non S
abbrev Bm:DS :=(ZK (dT (Z6 Ru (Ym O2 xF (zc Z4 (zc ZW (zc ZS Yz)))) (dC .non))) Yb zH)
def zgh:BodyOk 4 Bm K9:=by
  rintro ds S Q ⟨v,V,h,a,b,rfl,hv,ok,ma,mb,h0,h1,no,q⟩;unfold Bm;obtain⟨ba,hba,rfl⟩:=qv.mp ma;obtain⟨bb,hbb,rfl⟩:=qv.mp mb;walk_at"g";refine⟨v,V,_,_,h,rfl,hv,ok,ok.flN _ ma,ok.flN _ mb,fun n=>?_,fun s t hs ht=>⟨fun n=>absurd ⟨h0,h1⟩ n,fun _ _ e he=>?_⟩⟩
  . rcases n with n|n
    . exact n _ hba rfl
    . exact n _ hbb rfl
  have en:YW e=false:=by
    have e1:YW e=true↔e=.non:=by cases e<;>simp[YW]
    cases hg:YW e with
    |false=>rfl
    |true=>exact absurd ⟨s,t,hs,ht,he.non.mp (e1.mp hg)⟩ no
  walk_at"g";rw[en];walk_at"g";exact fin_same q
def Jr:ZX:=fun ds S Q=>∃ (v:D) (V:Vl) (a b:Str),ds=[v,.str a,.str b]/\Zw S v V/\Y6 V/\fl 20 (.str a)=true/\fl 20 (.str b)=true/\∀ (T:Z7) (n:Nat),(S++T)[n]?=some (.lst ((U8 a b (V.bs.map (·.1))).map D.str))->S.length<=n->Q (.ref n) (S++T)
abbrev wX:DS :=(zB (Zh 1 [1,2] (Zi (dCall Vi Ze)) Y5 (Yc (dT (Z6 Yg Z4 Z0)) (dT (Z6 Yg Z4 ZW))) Z4))
def zhN:BodyOk 3 wX Jr:=by
 rintro ds S Q ⟨v,V,a,b,rfl,hv,ok,fa,fb,q⟩;unfold wX;have b12:=ok.b12;have flz:=ok.flN;walk_at"g";refine⟨v,V,rfl,hv,by lia,?_⟩;have lz:(V.bs.map (·.1)).length<=12:=by rw[qa];exact b12
 generalize V.bs.map (·.1)=zs at flz lz q;walk_at"g";refine Xp (Wm fun z=>decide (z≠a/\z≠b)) id Lst.at0 (by rw[qa];unfold big;lia) (fun j d zs' hd' hw=>?_) ?_
 ·obtain⟨z,hz,rfl⟩:=XC hd';have mz:=qc hz;walk_at"g";refine QM (flz z mz) fa ?_;walk_at"g";refine Xf (fun e=>?_) (fun e=>?_)
  ·walk_at"g";refine QM (flz z mz) fb ?_;walk_at"g";refine Xf (fun e2=>?_) (fun e2=>?_)
   ·walk_at"g";exact Xi hd' hw (decide_eq_true ⟨e,e2⟩) rfl
   ·walk_at"g";exact T9 hd' hw (decide_eq_false fun w=>w.2 e2)
  ·walk_at"g";exact T9 hd' hw (decide_eq_false fun w=>w.1 e)
 rw[û];exact HF (fin_same (q _ _ ((zQ _ _ 1).trans rfl) (by lia)))
def EY:ZX:=fun ds S Q=>∃ (v:D) (V:Vl) (h:Int) (s t:Nat) (zs:List Str),ds=[v,.int h,.str (Z5 zs s),.str (Z5 zs t)]/\Zw S v V/\Y6 V/\zs=V.bs.map (·.1)/\s<zs.length/\t<zs.length/\V.h0<=h/\h<=V.h1 /\
 ∀ (T:Z7) (n e:Nat) Z8,Zd zs Z8 (Y0 (ZG V h s t))->(S++T)[n]?=some (.dn Z8 e)->S.length<=n->Q (.ref n) (S++T)
def Mf (zs os:List Str):Pt->Pt->Int:=fun p q=>if p.2=false/\q.2=true/\p.1=q.1/\Z5 zs p.1∈os then 1 else 0
def Jm (zs os:List Str)(qs:List (Str×Str)):Pt->Pt->Int:=fun p q=>if p.2=true/\q.2=false/\((Z5 zs p.1,Z5 zs q.1)∈qs\/(Z5 zs q.1,Z5 zs p.1)∈qs)then zs.length else Mf zs os p q
abbrev Ba:DS :=
    (zf (zq (Nr) YD)
 (zf (Yr (Zi (dCall Jr (zc Z4 (zc ZW Yi)))) Yv (R5 ZJ (dTup (zc (dTup (zc Y8 (zc ZL zm))) (zc (dTup (zc Y8 (zc ZQ zm))) zm))) ZQ))
 (zf (zq (dB Zo (zc (dCall Vi Ze) zm)) W3)
 (zf (Yr (Zi (Ym Jw xF (zc Z4 Yz))) (YH 2 (zF Ub (zF KZ YM))) (zf (R5 ZJ (dTup (zc (dTup (zc V0 (zc ZQ zm))) (zc (dTup (zc V2 (zc ZL zm))) zm))) Ye)
 (R5 ZJ (dTup (zc (dTup (zc V2 (zc ZQ zm))) (zc (dTup (zc V0 (zc ZL zm))) zm))) Ye)))
 (zB ZJ)))))
def Ĉ:BodyOk 9 Ba EY:=by
  rintro ds S Q ⟨v,V,h,s,t,zs,rfl,hv,ok,hzs,hs,ht,h0,h1,q⟩;unfold Ba;have nd:zs.Nodup:=hzs▸ok.nd;have flz:∀ z∈zs,fl 20 (.str z)=true:=hzs▸ok.flN;have h12:zs.length<=12:=by rw[hzs,qa];exact ok.b12
  have mz:∀ {i},i<zs.length->Z5 zs i∈zs:=fun hi=>qc (Xx hi)
  have ix:∀ {z},z∈zs->∃ j,j<zs.length/\Z5 zs j=z:=fun hz=>by obtain⟨j,hj,e⟩:=qN.mp hz;exact⟨j,hj,Mx (by rw[qb hj,e])⟩
  walk_at"g";refine⟨v,V,_,_,rfl,hv.old,ok,flz _ (mz hs),flz _ (mz ht),fun T n hn ln=>?_⟩;rw[<- hzs]at hn;have mo:∀ z,z∈U8 (Z5 zs s) (Z5 zs t) zs↔z∈zs/\z≠Z5 zs s/\z≠Z5 zs t:=fun z=>by unfold U8;rw[qO,decide_eq_true_eq]
  have lo:(U8 (Z5 zs s) (Z5 zs t) zs).length<=12:=qW (Rg _ _) h12;generalize U8 (Z5 zs s) (Z5 zs t) zs=os at hn mo lo;obtain⟨m,rfl⟩:∃ m,n=S.length+(m+1):=⟨n-S.length-1,by simp at ln;lia⟩
  rw[qk,zQ]at hn;have hT:T[m]?=some (.lst (os.map D.str)):=hn;clear hn ln;have ko:∀ c G,Lst (S++c::(T++G)) (.ref (S.length+(m+1))) (os.map D.str):=fun c G=>Lst.here (by rw[zQ];exact zA hT)
  have hv1:∀ c G,Zw (S++c::G) v V:=fun c G=>hv.old
  walk_at"g";rw[qk];have ko0:=ko (.dn [] 0) [];rw[Xn]at ko0;walk_at"g";walk_at"h";refine Xq (fun i ρ S'=>∃ Z8 e,S'=S++.dn Z8 e::T/\(∃ w5 w6 w7 w8,ρ=[some v,some (.int h),some (.str (Z5 zs s)),some (.str (Z5 zs t)),some (.ref S.length),w5,w6,w7,w8])/\Zd zs Z8 (Mf zs (os.take i))) ⟨[],0,rfl,⟨_,_,_,_,rfl⟩,Zd.nil.cg fun p q _ _=>by unfold Mf;rw[if_neg (by simp)]⟩ (by rintro i ρ S' ⟨Z8,e,e1,_⟩;exact by rw[e1];have:=ko (.dn Z8 e) [];rwa[Xn]at this) ?_ ?_
  . rintro i d ρ S' hd ⟨Z8,e,rfl,⟨w5,w6,w7,w8,rfl⟩,R⟩;obtain⟨z,hz,rfl⟩:=XC hd;obtain⟨m1,_⟩:=(mo z).mp (qc hz);obtain⟨j,hj,rfl⟩:=ix m1;walk_at"g";refine R.puts (p:=(j,false)) (q:=(j,true)) nd h12 zO hj hj fun kvs' e' R'=>?_
    refine Vn ?_;rw[O1];walk_at"g";refine⟨kvs',e',rfl,⟨_,_,_,_,rfl⟩,R'.cg fun p q hp hq=>?_⟩;unfold VP Mf;rw[zZ hz];by_cases e1:p=(j,false)/\q=(j,true)
    . obtain⟨rfl,rfl⟩:=e1;rw[if_pos ⟨rfl,rfl⟩,if_pos ⟨rfl,rfl,rfl,by simp⟩]
    . rw[if_neg e1];by_cases e2:p.2=false/\q.2=true/\p.1=q.1/\Z5 zs p.1∈os.take i
      . rw[if_pos e2,if_pos ⟨e2.1,e2.2.1,e2.2.2.1,qX _ e2.2.2.2⟩]
      . rw[if_neg e2,if_neg];rintro⟨g1,g2,g3,g4⟩;rcases qD.mp g4 with g4|g4
        . exact e2 ⟨g1,g2,g3,g4⟩
        . have e3:=X3 nd hp hj (qK.mp g4);exact e1 ⟨Uc e3 g1,Uc (g3▸e3) g2⟩
  . rintro ρ S' ⟨Z8,e,rfl,⟨w5,w6,w7,w8,rfl⟩,R⟩;rw[qa,Wa]at R;walk_at"g";refine⟨v,V,rfl,hv1 _ _,by have:=ok.b12;lia,?_⟩;rw[<- hzs];walk_at"g";refine⟨v,V,h,rfl,hv1 _ _,ok,fun no=>absurd ⟨h0,h1⟩ no,fun _ _ T2 n2 qs hq hn2 ln2=>?_⟩;rw[<- hzs]at hq;have hq:=uQ ok (fun p hp=>hzs▸Wc hp) hq;have mq:∀ p,p∈qs↔p∈prs zs/\z9 V h p.1 p.2:=fun p=>by rw[hq,qO,M4]
    have lq:qs.length<=144:=by have a1:=Rg (RM V h) (prs zs);have a2:=N8 zs;have a3:zs.length*zs.length<=12*12:=Mu h12 h12;rw[<- hq]at a1;lia
    clear hq;obtain⟨G,hG⟩:∃ G:Z7,T++([Cell.lst (zs.map D.str)]++T2)=G:=⟨_,rfl⟩
    have eS:∀ c:Cell,S++(c::T++[Cell.lst (zs.map D.str)])++T2=S++c::G:=fun c=>by rw[<- hG];simp
    rw[eS]at hn2 ⊢;obtain⟨m2,rfl⟩:∃ m,n2=S.length+(m+1):=⟨n2-S.length-1,by simp at ln2;lia⟩
    rw[zQ]at hn2;have hT2:G[m2]?=some (.lst (qs.map Zq)):=hn2;have kq:∀ c,Lst (S++c::G) (.ref (S.length+(m2+1))) (qs.map Zq):=fun c=>Lst.here (by rw[zQ];exact hT2)
    have kq0:=kq (.dn Z8 e);clear hn2 ln2 hG eS hT ko ko0;walk_at"g";walk_at"h";refine Xq (fun i ρ S'=>∃ Z8 e,S'=S++.dn Z8 e::G/\(∃ w7 w8,ρ=[some v,some (.int h),some (.str (Z5 zs s)),some (.str (Z5 zs t)),some (.ref S.length),w5,some (.int zs.length),w7,w8])/\Zd zs Z8 (Jm zs os (qs.take i))) ⟨Z8,e,rfl,⟨_,_,by rw[qa]⟩,R.cg fun p q _ _=>by unfold Jm;rw[if_neg (by simp)]⟩ (by rintro i ρ S' ⟨Z8,e,e1,_⟩;exact by rw[e1];exact kq _) ?_ ?_
    . rintro i d ρ S' hd ⟨Z8,e,rfl,⟨w7,w8,rfl⟩,R⟩;obtain⟨⟨x,y⟩,hp,rfl⟩:=Kr hd;obtain⟨m1,m3⟩:=Wc ((mq _).mp (qc hp)).1;obtain⟨j,hj,rfl⟩:=ix m1;obtain⟨k,hk,rfl⟩:=ix m3;walk_at"g";refine R.puts (p:=(j,true)) (q:=(k,false)) nd h12 zO hj hk fun kvs1 e1 R1=>?_
      refine Vn ?_;rw[O1];walk_at"g";refine R1.puts (p:=(k,true)) (q:=(j,false)) nd h12 zO hk hj fun kvs2 e2 R2=>?_
      refine Vn ?_;rw[O1];walk_at"g";refine⟨kvs2,e2,rfl,⟨_,_,rfl⟩,R2.cg fun p q hp' hq'=>?_⟩;unfold VP Jm;rw[zZ hp];have inj:∀ {a b:Nat},a<zs.length->b<zs.length->Z5 zs a=Z5 zs b->a=b:=fun ha hb=>X3 nd ha hb
      by_cases g1:p=(k,true)/\q=(j,false)
      . obtain⟨rfl,rfl⟩:=g1;rw[if_pos ⟨rfl,rfl⟩,if_pos ⟨rfl,rfl,.inr (by simp)⟩]
      rw[if_neg g1];by_cases g2:p=(j,true)/\q=(k,false)
      . obtain⟨rfl,rfl⟩:=g2;rw[if_pos ⟨rfl,rfl⟩,if_pos ⟨rfl,rfl,.inl (by simp)⟩]
      rw[if_neg g2];by_cases g3:p.2=true/\q.2=false/\((Z5 zs p.1,Z5 zs q.1)∈qs.take i\/(Z5 zs q.1,Z5 zs p.1)∈qs.take i)
      . rw[if_pos g3,if_pos ⟨g3.1,g3.2.1,g3.2.2.imp (fun z=>qX _ z) fun z=>qX _ z⟩]
      . rw[if_neg g3,if_neg];rintro⟨c1,c2,c3⟩;rcases c3 with c3|c3
        . rcases qD.mp c3 with c3|c3
          . exact g3 ⟨c1,c2,.inl c3⟩
          . obtain⟨d1,d2⟩:=VD (qK.mp c3);exact g2 ⟨Uc (inj hp' hj d1) c1,Uc (inj hq' hk d2) c2⟩
        . rcases qD.mp c3 with c3|c3
          . exact g3 ⟨c1,c2,.inr c3⟩
          . obtain⟨d1,d2⟩:=VD (qK.mp c3);exact g1 ⟨Uc (inj hp' hk d2) c1,Uc (inj hq' hj d1) c2⟩
    . rintro ρ S' ⟨Z8,e,rfl,⟨w7,w8,rfl⟩,R⟩;rw[qa,Wa]at R;walk_at"g";refine fin_same (q _ _ e Z8 (R.cg fun p q hp hq=>?_) zO (qh _));obtain⟨a,x⟩:=p;obtain⟨b,y⟩:=q;have hp:a<zs.length:=hp;have hq:b<zs.length:=hq;unfold Jm Mf;cases x<;>cases y
      . rw[if_neg (by simp),if_neg (by simp)];rfl
      . rw[if_neg (by simp),Tw]
        have:(a=b/\Z5 zs a∈os)↔(a=b/\a≠s/\a≠t/\a<zs.length):=and_congr_right fun _=>by rw[mo];exact⟨fun z=>⟨fun e=>z.2.1 (by rw[e]),fun e=>z.2.2 (by rw[e]),hp⟩,fun z=>⟨mz hp,fun e=>z.1 (X3 nd hp hs e),fun e=>z.2.1 (X3 nd hp ht e)⟩⟩
        by_cases g:a=b/\Z5 zs a∈os
        . rw[if_pos ⟨rfl,rfl,g⟩,if_pos (by have:=this.mp g;rw[hzs]at this;exact this)]
        . rw[if_neg (fun z=>g z.2.2),if_neg (fun z=>g (this.mpr (by rw[hzs];exact z)))]
      . rw[U4]
        have:((Z5 zs a,Z5 zs b)∈qs\/(Z5 zs b,Z5 zs a)∈qs)↔(ZG V h s t).adj a b=true:=by
          rw[UL,<- hzs,mq,mq];constructor
          . rintro(⟨z1,z2⟩|⟨z1,z2⟩)
            . exact⟨fun e=>Oi nd z1 (by rw[e]),hp,hq,z2⟩
            . exact⟨fun e=>Oi nd z1 (by rw[e]),hp,hq,Pr z2⟩
          . rintro⟨z1,_,_,z2⟩;exact(pN (mz hp) (mz hq) fun e=>z1 (X3 nd hp hq e)).imp (fun z=>⟨z,z2⟩) fun z=>⟨z,Pr z2⟩
        by_cases g:(Z5 zs a,Z5 zs b)∈qs\/(Z5 zs b,Z5 zs a)∈qs
        . rw[if_pos ⟨rfl,rfl,g⟩,if_pos (this.mp g),hzs];rfl
        . rw[if_neg (fun z=>g z.2.2),if_neg (by simp),if_neg (fun z=>g (this.mpr z))]
      . rw[if_neg (by simp),if_neg (by simp)];rfl
def NQ:ZX:=fun ds S Q=>∃ (r e:Nat) (Z8:List (List (List SK)×D)) (zs:List Str) (c:Pt->Pt->Int) (st:Pt),ds=[.ref r,Y9 zs st]/\S[r]?=some (.dn Z8 e)/\Zd zs Z8 c/\zs.Nodup/\zs.length<=12/\(∀ z∈zs,fl 20 (.str z)=true)/\st.1<zs.length/\(∀ p q,0<c p q->p.1<zs.length/\q.1<zs.length) /\
 ∀ (T:Z7) (n:Nat) (fo:List (Pt×Option Pt)),Bf c st fo [] (fun _ _=>True)->(∀ x∈fo.map (·.1),x.1<zs.length)->(S++T)[n]?=some (.dt (fo.map (fk zs)))->S.length<=n->Q (.ref n) (S++T)
abbrev v9:DS :=
    (zf (zq (MN Z0 (dC .non)) Yx)
 (zf (zq (Yd Yz) YB)
 (zf (Vp (dT (Z6 X5 (dB Zo Yi) ZL)) (zf (zq (dM Js ZS (zc ZL zm)) YD)
 (Yr (Jf Z4) (YH 2 (zF Yv (zF W3 YM))) (ZK (Yc (dT (Z6 oEq zxf ZJ)) (Yc (dT (Z6 X5 Ye ZL)) (dT (Ow Ca ZW)))) (zf (Mh ZW Ca ZJ)
 (Y4 (dM V7 ZS (zc Ca zm)))) zH))))
 (zB ZW))))
def zhx:BodyOk 7 v9 NQ:=by
 rintro ds S Q ⟨r,e,Z8,zs,c,st,rfl,hr,R,nd,h12,flz,hst,rng,q⟩;unfold v9;have hrT:∀ T,(S++T)[r]?=some (.dn Z8 e):=fun T=>zA hr
 have s21:∀ a b c:Cell,[a,b].set 1 c=[a,c]:=fun _ _ _=>rfl
 have k1:∀ c d:Cell,(S++[c,d])[S.length+1]?=some d:=fun c d=>(zQ _ _ 1).trans rfl
 walk_at"g";refine⟨kp zs st,rfl,zO,?_⟩;rw[O1];walk_at"g";walk_at"h";refine RN (fun m ρ S'=>∃ (fo:List (Pt×Option Pt)) (wt:List Pt),S'=S++[.dt (fo.map (fk zs)),.lst (wt.map (Y9 zs))]/\(∃ w4 w5 w6,ρ=[some (.ref r),some (Y9 zs st),some (.ref S.length),some (.ref (S.length+1)),w4,w5,w6])/\Bf c st fo wt (fun _ _=>True)/\(∀ x∈fo.map (·.1),x.1<zs.length)/\m=2*(2*zs.length-fo.length)+wt.length) _ ⟨[(st,none)],[st],rfl,⟨_,_,_,rfl⟩,Bf.start,fun x hx=>by rw[qK.mp hx];exact hst,rfl⟩ ?_;rintro m ρ S' ⟨fo,wt,rfl,⟨w4,w5,w6,rfl⟩,B,lt,rfl⟩;walk_at"g";refine Zu (fun c0=>?_) (fun c0=>?_)
 case refine_2 =>have e0:wt=[]:=CQ.mp (by rw[qa]at c0;lia);subst e0;walk_at"g";exact fin_same (q _ _ fo B lt zO (qh _))
 obtain⟨p,wt,rfl⟩:∃ p w,wt=p::w:=by
  cases wt with
  |nil=>exact absurd c0 (by simp)
  |cons p w=>exact⟨p,w,rfl⟩
 obtain⟨B1,mp,np⟩:=B.pop;have hp:=lt p mp;walk_at"g";refine zvJ (xs:=wt.map (Y9 zs)) ((zQ _ _ 1).trans rfl) (yL ?_);rw[s21];walk_at"g";refine⟨r,Z8,e,rfl,hrT _,?_⟩;walk_at"h";have fl2:=Fy B lt;obtain⟨fo',hfo'⟩:∃ fo':List (Pt×Option Pt),fo'=fo:=⟨_,rfl⟩
 refine Xq (fun i ρ S'=>∃ (fo:List (Pt×Option Pt)) (wt':List Pt),S'=S++[.dt (fo.map (fk zs)),.lst (wt'.map (Y9 zs))]/\(∃ w5 w6,ρ=[some (.ref r),some (Y9 zs st),some (.ref S.length),some (.ref (S.length+1)),some (Y9 zs p),w5,w6])/\Bf c st fo wt' (fun a b=>a≠p\/∃ (k:Nat) (x:List (List SK)×D),k<i/\Z8[k]?=some x/\x.1=[kp zs a,kp zs b])/\p∈fo.map (·.1)/\(∀ x∈fo.map (·.1),x.1<zs.length)/\2*(2*zs.length-fo.length)+wt'.length+1<=2*(2*zs.length-fo'.length)+(wt.length+1)) ⟨fo,wt,rfl,⟨_,_,rfl⟩,B1.re fun a q hd _=>.inl ?_,mp,lt,by rw[hfo'];lia⟩ (by rintro i ρ S' ⟨_,_,e1,_⟩;exact by rw[e1];exact hrT _) ?_ ?_
 ·rcases hd with z|⟨k,x,hk,_⟩
  ·exact⟨z,True.intro⟩
  ·exact absurd hk (Nat.not_lt_zero _)
 ·clear B B1 lt mp np fl2 c0;rintro i d ρ S' hd ⟨fo,wt',rfl,⟨w5,w6,rfl⟩,B,mp,lt,hm⟩;rw[qi]at hd;obtain⟨x,hx,ed⟩:=U6.mp hd;obtain⟨a,b,ha,hb,rfl⟩:=R.ky x (qc hx);have ed:d=.tup [.tup [Y9 zs a,Y9 zs b],.int (c a b)]:=ed.symm;subst ed;have fl2:=Fy B lt
  have nx:∀ {fo2:List (Pt×Option Pt)} {wt2:List Pt},Bf c st fo2 wt2 (fun a b=>a≠p\/∃ (k:Nat) (x:List (List SK)×D),k<i/\Z8[k]?=some x/\x.1=[kp zs a,kp zs b])->(a=p->0<c a b->b∈fo2.map (·.1))->Bf c st fo2 wt2 (fun a b=>a≠p\/∃ (k:Nat) (x:List (List SK)×D),k<i+1/\Z8[k]?=some x/\x.1=[kp zs a,kp zs b]):=fun {fo2 wt2} B2 h2=>B2.re fun a' b' hd hc=>by
   rcases hd with z|⟨k,x,hk,hx',ex⟩
   ·exact .inl (.inl z)
   ·by_cases g:k<i
    ·exact .inl (.inr ⟨k,x,g,hx',ex⟩)
    ·have:k=i:=by lia
     subst this;rw[hx]at hx';cases hx';obtain⟨l1,l2⟩:=rng _ _ hc;obtain⟨rfl,rfl⟩:=yw nd ha hb l1 l2 ex;by_cases g2:a=p
     ·exact .inr (h2 g2 hc)
     ·exact .inl (.inl g2)
  walk_at"g";refine ztG nd flz ha hp ?_;walk_at"g";have skip:(a=p->0<c a b->b∈fo.map (·.1))->_:=fun z=>nx B z
  refine Zu (fun g1=>?_) (fun g1=>?_)
  case refine_2 =>walk_at"g";exact⟨fo,wt',rfl,⟨_,_,rfl⟩,nx B fun z=>absurd z g1,mp,lt,hm⟩
  subst g1;walk_at"g";refine Zu (fun g2=>?_) (fun g2=>?_)
  case refine_2 =>walk_at"g";exact⟨fo,wt',rfl,⟨_,_,rfl⟩,nx B fun _ z=>absurd z g2,mp,lt,hm⟩
  walk_at"g";by_cases g3:b∈fo.map (·.1)
  ·obtain⟨⟨b',o⟩,hmem,eb⟩:=qv.mp g3;have eb:b'=b:=eb;subst eb;refine⟨_,Zc.t (ks:=kp zs b') zO ((Ue nd hb lt B.nd o).1 hmem),?_⟩;walk_at"g";rw[if_neg (by simp)];walk_at"g";exact⟨fo,wt',rfl,⟨_,_,rfl⟩,nx B fun _ _=>g3,mp,lt,hm⟩
  ·refine⟨_,Zc.t (ks:=kp zs b) zO ((Ue nd hb lt B.nd none).2 g3),?_⟩;walk_at"g";rw[if_pos (by rfl)];walk_at"g";have lfo:(fo.map (fk zs)).length<big:=by rw[qa];unfold big;lia
   have lwt:(wt'.map (Y9 zs)).length<big:=by have:=Td B.wn B.wf;rw[qa]at this;rw[qa];unfold big;lia
   refine RT.t (ks:=kp zs b) zO lfo ?_;rw[dW nd hb lt B.nd g3];refine Vn ?_;rw[O1];walk_at"g";rw[s21];have B2:=B.add mp g3 g2;refine⟨fo++[(b,some a)],wt'++[b],by rw[qA (l₁:=wt')];rfl,⟨_,_,rfl⟩,nx B2 fun _ _=>?_,?_,?_,?_⟩
   ·rw[qA];exact qL _ (by simp)
   ·rw[qA];exact qX _ mp
   ·intro x hx';rw[qA]at hx';rcases qD.mp hx' with z|z
    ·exact lt x z
    ·have:x=b:=by simpa using z
     rw[this];exact hb
   ·have:=Fy B2 (zs:=zs) (fun x hx'=>by
     rw[qA]at hx';rcases qD.mp hx' with z|z
     ·exact lt x z
     ·have:x=b:=by simpa using z
      rw[this];exact hb)
    rw[qf,qQ]at this ⊢;rw[qf,qQ];lia
 ·rintro ρ S' ⟨fo,wt',rfl,⟨w5,w6,rfl⟩,B,mp,lt,hm⟩;rw[qa]at B;walk_at"g";refine⟨_,?_,fo,wt',rfl,⟨_,_,_,rfl⟩,B.re fun a q _ hc=>.inl ?_,lt,rfl⟩
  ·rw[<- hfo'];lia
  ·by_cases g:a=p
   ·right;subst g;obtain⟨l1,l2⟩:=rng _ _ hc;rcases R.get nd l1 l2 with⟨_,z⟩|z
    ·lia
    ·obtain⟨k,hk⟩:=Vv.mp (nM z);exact⟨k,_,zE hk,hk,rfl⟩
   ·exact .inl g
def Gf:ZX:=fun ds S Q=>∃ (r f e:Nat) (Z8:List (List (List SK)×D)) (zs:List Str) (W:Wb) (c:Pt->Pt->Int) (k:Int) (fo:List (Pt×Option Pt)),ds=[.ref r,.ref f,Y9 zs (YL W)]/\S[r]?=some (.dn Z8 e)/\S[f]?=some (.dt (fo.map (fk zs)))/\Zd zs Z8 c/\zs.Nodup/\zs.length<=12/\W.n=zs.length/\Zy W c k/\Bf c (src W) fo [] (fun _ _=>True)/\(∀ x∈fo.map (·.1),x.1<zs.length)/\YL W∈fo.map (·.1) /\
 ∀ kvs' e' c',Zd zs kvs' c'->Zy W c' (k+1)->Q .non (S.set r (.dn kvs' e'))
abbrev yJ:DS :=
    (zf (zq ZW YB)
 (Vp (dT (Z6 Wn (Ur Z0 ZS) (dC .non))) (zf (zq (Ur Z0 ZS) YD)
 (zf (R5 Z4 (dTup (zc ZJ Yi)) (Z6 Zf (Ur Z4 (dTup (zc ZJ Yi))) ZQ))
 (zf (R5 Z4 (dTup (zc ZS VL)) (Z6 Zx (M8 Z4 (dTup (zc ZS VL)) ZL) ZQ))
 (zq ZJ YB))))))
def fU:BodyOk 5 yJ Gf:=by
 rintro ds S Q ⟨r,f,e,Z8,zs,W,c,k,fo,rfl,hr,hf,R,nd,h12,hW,F,B,lt,mg,q⟩;unfold yJ;have lr:=zE hr;have ne:r≠f:=fun e=>by subst e;rw[hr]at hf;cases hf
 have hr1:∀ x:Cell,(S.set r x)[r]?=some x:=fun x=>qU lr
 have hf1:∀ x:Cell,(S.set r x)[f]?=some (.dt (fo.map (fk zs))):=fun x=>by rw[qS ne];exact hf
 have s2:∀ x y:Cell,(S.set r x).set r y=S.set r y:=fun x y=>List.set_set ..
 have e0:S=S.set r (.dn Z8 e):=by
  refine List.ext_getElem? fun i=>?_
  by_cases h:i=r
  ·subst h;rw[hr1,hr]
  ·rw[qS (Ne.symm h)]
 obtain⟨⟨g,o⟩,hm,eg⟩:=qv.mp mg;obtain⟨i,hi⟩:=Vv.mp hm;have eg:g=YL W:=eg;subst eg;walk_at"g";walk_at"h";refine RN (fun m ρ S'=>∃ (kvs':List (List (List SK)×D)) (e':Nat) (c':Pt->Pt->Int) (p:Pt) (o:Option Pt),S'=S.set r (.dn kvs' e')/\(∃ w4,ρ=[some (.ref r),some (.ref f),some (Y9 zs (YL W)),some (Y9 zs p),w4])/\Zd zs kvs' c'/\Qg W c c' k fo m p o) i ⟨Z8,e,c,YL W,o,e0,⟨_,rfl⟩,R,⟨F.start,hi,fun _ _ _ _=>rfl⟩⟩ ?_;rintro m ρ S' ⟨kvs',e',c',p,o,rfl,⟨w4,rfl⟩,R',T⟩;have mp:p∈fo.map (·.1):=qv.mpr ⟨_,qc T.at',rfl⟩;have hp:=lt p mp;have hg:∀ x:Cell,Zc (S.set r x) (.ref f) (Y9 zs p) (some (fk zs (p,o)).2):=fun x=>Zc.t (ks:=kp zs p) (hf1 x) ((Ue nd hp lt B.nd o).1 (qc T.at'))
 walk_at"g";refine⟨_,hg _,?_⟩;cases o with
 |none =>walk_at"g";have e1:=T.last B;subst e1;exact fin_same (q _ _ _ R' T.p.end)
 |some a =>
  obtain⟨j,o',l,na,ec,hc,T'⟩:=T.step B (fun x hx=>by rw[hW];exact lt x hx);have ha:a.1<zs.length:=lt a (qv.mpr ⟨_,qc T'.at',rfl⟩);walk_at"g";have hv:(fk zs (p,some a)).2=Y9 zs a:=rfl;rw[hv]at hg ⊢;rw[show YW (Y9 zs a)=false from rfl];walk_at"g";refine⟨_,hg _,?_⟩;walk_at"g";obtain⟨o1,g1,_,g2⟩:=R'.gets nd (hr1 (.dn kvs' e')) ha hp;have g2:=g2 (by rw[ec];lia);subst g2;refine⟨_,g1,?_⟩;walk_at"g";refine R'.puts (p:=a) (q:=p) nd h12 (hr1 _) ha hp fun kvs1 e1 R1=>?_
  refine Vn ?_;rw[s2];walk_at"g";refine⟨⟨r,rfl,.inr (.inr ⟨kvs1,e1,hr1 _⟩)⟩,?_⟩;walk_at"g";obtain⟨o2,g3,g4,_⟩:=R1.gets nd (hr1 (.dn kvs1 e1)) hp ha;refine⟨_,g3,?_⟩;rw[g4,show VP c' a p (c' a p-1) p a=c' p a from if_neg fun z=>na z.2];walk_at"g";refine R1.puts (p:=p) (q:=a) nd h12 (hr1 _) hp ha fun kvs2 e2 R2=>?_
  refine Vn ?_;rw[s2];rw[ĺ na]at R2;walk_at"g";exact⟨j,l,kvs2,e2,_,a,o',rfl,⟨_,rfl⟩,R2,T'⟩
def Cj:ZX:=fun ds S Q=>∃ (v:D) (V:Vl) (h:Int) (s t:Nat) (zs:List Str),ds=[v,.int h,.str (Z5 zs s),.str (Z5 zs t)]/\Zw S v V/\Y6 V/\zs=V.bs.map (·.1)/\s<zs.length/\t<zs.length/\V.h0<=h/\h<=V.h1/\¬ z9 V h (Z5 zs s) (Z5 zs t) /\
 ∀ (T:Z7) (n e:Nat) Z8 c k,Zd zs Z8 c->Zy (ZG V h s t) c k->(∀ fo,Bf c (s,true) fo [] (fun _ _=>True)->(t,false)∉fo.map (·.1))->(S++T)[n]?=some (.dn Z8 e)->S.length<=n->Q (.ref n) (S++T)
abbrev rM:DS :=
    (zf (zq (dCall EY (zc Z4 (zc Z0 (zc ZW Yi)))) YD)
 (zf (zq (dCall NQ (zc ZJ (zc (dTup (zc ZW (zc ZQ zm))) zm))) Yv)
 (zf (Vp (dT (Qn (dTup (zc ZS (zc ZL zm))) Y8)) (zf (Y4 (dCall Gf (zc ZJ (zc Y8 (zc (dTup (zc ZS (zc ZL zm))) zm)))))
 (zq (dCall NQ (zc ZJ (zc (dTup (zc ZW (zc ZQ zm))) zm))) Yv)))
 (zB ZJ))))
def η:BodyOk 6 rM Cj:=by
 rintro ds S Q ⟨v,V,h,s,t,zs,rfl,hv,ok,hzs,hs,ht,h0,h1,no,q⟩;unfold rM;have nd:zs.Nodup:=hzs▸ok.nd;have flz:∀ z∈zs,fl 20 (.str z)=true:=hzs▸ok.flN;have h12:zs.length<=12:=by rw[hzs,qa];exact ok.b12
 have okW:Zr (ZG V h s t):=HY (hzs▸hs) (hzs▸ht) (hzs▸no);have nW:(ZG V h s t).n=zs.length:=by rw[hzs];rfl
 walk_at"g";refine⟨v,V,h,s,t,zs,rfl,hv,ok,hzs,hs,ht,h0,h1,fun T n e Z8 R hn ln=>?_⟩;have F:=Zy.zero (W:=ZG V h s t);walk_at"g";refine⟨n,e,Z8,zs,_,(s,true),rfl,hn,R,nd,h12,flz,hs,fun p q z=>nW▸F.rng okW z,fun T2 f fo B lt hf lf=>?_⟩;rw[qk]at hf ⊢;have hn2:(S++(T++T2))[n]?=some (.dn Z8 e):=by rw[<- qk];exact zA hn
 generalize Y0 (ZG V h s t)=c at R F B;generalize T++T2=G at hf hn2;clear hn;walk_at"g";walk_at"h";refine RN (fun m ρ S'=>∃ (G:Z7) (Z8:List (List (List SK)×D)) (e f:Nat) (c:Pt->Pt->Int) (k:Int) (fo:List (Pt×Option Pt)),S'=S++G/\ρ=[some v,some (.int h),some (.str (Z5 zs s)),some (.str (Z5 zs t)),some (.ref n),some (.ref f)]/\(S++G)[n]?=some (.dn Z8 e)/\(S++G)[f]?=some (.dt (fo.map (fk zs)))/\Zd zs Z8 c/\Zy (ZG V h s t) c k/\Bf c (s,true) fo [] (fun _ _=>True)/\(∀ x∈fo.map (·.1),x.1<zs.length)/\m=((zs.length:Int)-k).toNat) _ ⟨G,Z8,e,f,c,0,fo,rfl,rfl,hn2,hf,R,F,B,lt,rfl⟩ ?_;clear F B R lt hf hn2;rintro m ρ S' ⟨G,Z8,e,f,c,k,fo,rfl,rfl,hn,hf,R,F,B,lt,rfl⟩;have hp:(t,false).1<zs.length:=ht;walk_at"g";by_cases g:(t,false)∈fo.map (·.1)
 ·obtain⟨⟨p,o⟩,hm,ep⟩:=qv.mp g;have ep:p=(t,false):=ep;subst ep;refine⟨_,Zc.t (ks:=kp zs (t,false)) hf ((Ue nd hp lt B.nd o).1 hm),?_⟩;walk_at"g";rw[if_pos (by rfl)];walk_at"g";refine⟨n,f,e,Z8,zs,ZG V h s t,c,k,fo,rfl,hn,hf,R,nd,h12,nW,F,B,lt,g,fun kvs' e' c' R' F'=>?_⟩;rw[Pq _ _ ln]
  have hn':(S++G.set (n-S.length) (.dn kvs' e'))[n]?=some (.dn kvs' e'):=by rw[<- Pq _ _ ln];exact qU (zE hn)
  generalize G.set (n-S.length) (.dn kvs' e')=G' at hn';walk_at"g";refine⟨n,e',kvs',zs,c',(s,true),rfl,hn',R',nd,h12,flz,hs,fun p q z=>nW▸F'.rng okW z,fun T2 f' fo' B' lt' hf' lf'=>?_⟩;walk_at"g";have fw:=F'.few okW;have f0:=F.few okW;rw[nW]at fw;exact⟨_,by lia,G'++T2,kvs',e',f',c',k+1,fo',by rw[qk],rfl,by rw[<- qk];exact zA hn',by rw[<- qk];exact hf',R',F',B',lt',rfl⟩
 ·refine⟨_,Zc.t (ks:=kp zs (t,false)) hf ((Ue nd hp lt B.nd none).2 g),?_⟩;walk_at"g";rw[if_neg (by simp)];walk_at"g";exact fin_same (q G n e Z8 c k R F (fun fo2 B2=>fun z=>g ((B2.same B _).mp z)) hn ln)
def Kc:ZX:=fun ds S Q=>∃ (v:D) (V:Vl) (zs:List Str) (r e:Nat) (Z8:List (List (List SK)×D)) (c:Pt->Pt->Int) (i:Nat),ds=[v,.ref r,.str (Z5 zs i)]/\Zw S v V/\Y6 V/\zs=V.bs.map (·.1)/\i<zs.length/\S[r]?=some (.dn Z8 e)/\Zd zs Z8 c /\
 ∀ (T:Z7) (n:Nat),(S++T)[n]?=some (.lst (((stp zs c i).map (Z5 zs)).map D.str))->S.length<=n->Q (.ref n) (S++T)
abbrev pR:DS :=(zB (Zh 1 [2,1] (Zi (dCall Vi Ze)) Y5 (Yc (dT (Z6 Yg Z4 Z0)) (dT (Z6 X5 (M8 ZW (dTup (zc (dTup (zc Z4 (zc ZL zm))) (zc (dTup (zc Z0 (zc ZQ zm))) zm))) ZL) ZL))) Z4))
def ť:BodyOk 3 pR Kc:=by
 rintro ds S Q ⟨v,V,zs,r,e,Z8,c,i,rfl,hv,ok,hzs,hi,hr,R,q⟩;unfold pR;have nd:zs.Nodup:=hzs▸ok.nd;have flz:∀ z∈zs,fl 20 (.str z)=true:=hzs▸ok.flN;have h12:zs.length<=12:=by rw[hzs,qa];exact ok.b12
 have mz:∀ {i},i<zs.length->Z5 zs i∈zs:=fun hi=>qc (Xx hi)
 walk_at"g";refine⟨v,V,rfl,hv,by have:=ok.b12;lia,?_⟩;rw[<- hzs];have hr1:(S++[Cell.lst (zs.map D.str)])[r]?=some (.dn Z8 e):=zA hr;walk_at"g";refine Xp (Wm (Wy zs c i)) id Lst.at0 (by rw[qa];unfold big;lia) (fun k d ys hd hw=>?_) ?_
 ·obtain⟨z,hz,rfl⟩:=XC hd;have hk:=zE hz;have ez:=Mx hz;subst ez;have eb:=oN (c:=c) (i:=i) nd hk;walk_at"g";refine QM (flz _ (mz hk)) (flz _ (mz hi)) ?_;walk_at"g";refine Xf (fun e=>?_) (fun e=>?_)
  ·walk_at"g";refine⟨⟨r,rfl,.inr (.inr ⟨Z8,_,hr1⟩)⟩,?_⟩;walk_at"g";have hk1:((k,false):Pt).1<zs.length:=hk;have hi1:((i,true):Pt).1<zs.length:=hi;obtain⟨o,g,g1,_⟩:=R.gets nd hr1 hk1 hi1;refine⟨_,g,?_⟩;rw[g1];have ea:arc c i k=c (k,false) (i,true):=by unfold arc;rw[if_neg (fun z=>e (by rw[z]))]
   walk_at"g";refine Zu (fun g=>?_) (fun g=>?_)
   ·walk_at"g";exact Xi hd hw (by rw[show Wm (Wy zs c i) (.str (Z5 zs k))=Wy zs c i (Z5 zs k)from rfl,eb,ea];exact decide_eq_true g) rfl
   ·walk_at"g";exact T9 hd hw (by rw[show Wm (Wy zs c i) (.str (Z5 zs k))=Wy zs c i (Z5 zs k)from rfl,eb,ea];exact decide_eq_false g)
  ·walk_at"g";have:k=i:=X3 nd hk hi e;subst this;exact T9 hd hw (by rw[show Wm (Wy zs c k) (.str (Z5 zs k))=Wy zs c k (Z5 zs k)from rfl,eb];unfold arc;rw[if_pos rfl];rfl)
 rw[List.map_id,Rz,show(Wm (Wy zs c i) ∘ D.str)=Wy zs c i from rfl,ĕ nd];exact HF (fin_same (q _ _ ((zQ _ _ 1).trans rfl) (by lia)))
def Fo:ZX:=fun ds S Q=>∃ (v:D) (V:Vl) (h:Int) (s t:Nat) (zs:List Str) (r e:Nat) (Z8:List (List (List SK)×D)) (c:Pt->Pt->Int) (k:Int),ds=[v,.ref r,.str (Z5 zs s),.str (Z5 zs t)]/\Zw S v V/\Y6 V/\zs=V.bs.map (·.1)/\s<zs.length/\t<zs.length/\Zr (ZG V h s t)/\S[r]?=some (.dn Z8 e)/\Zd zs Z8 c/\Zy (ZG V h s t) c k /\
 ∀ (T:Z7) (rs:List (List Nat)) (js:List Nat),ur (ZG V h s t) zs c rs->js.length=rs.length->js.Nodup->(∀ (i:Nat) j us,js[i]?=some j->rs[i]?=some us->T[j]?=some (.lst ((us.map (Z5 zs)).map D.str)))->Q (.ref S.length) (S++.lst (js.map fun j=>.ref (S.length+(j+1)))::T)
abbrev vO:DS :=
    (zf (zq (Yd zm) YD)
 (zf (Yr (Zi (dCall Kc (zc Z4 (zc Z0 Ys)))) Yv (zf (zq (Yd Ys) W3)
 (zf (zq Y8 Ub)
 (zf (Vp (dT (Z6 Yg V0 ZS)) (zf (Y4 (dM V7 Ye R9))
 (zq (Z6 ZR (dCall Kc (zc Z4 (zc Z0 R9))) ZL) Ub)))
 (Y4 (dM V7 ZJ (zc (Z6 Zx Ye (Yd Yi)) zm)))))))
 (zB ZJ)))
def zhU:BodyOk 8 vO Fo:=by
  rintro ds S Q ⟨v,V,h,s,t,zs,r,e,Z8,c,k,rfl,hv,ok,hzs,hs,ht,okW,hr,R,F,q⟩;unfold vO;have nd:zs.Nodup:=hzs▸ok.nd;have flz:∀ z∈zs,fl 20 (.str z)=true:=hzs▸ok.flN;have h12:zs.length<=12:=by rw[hzs,qa];exact ok.b12
  have nW:(ZG V h s t).n=zs.length:=by rw[hzs];rfl
  have mz:∀ {i},i<zs.length->Z5 zs i∈zs:=fun hi=>qc (Xx hi)
  have hst:s≠t:=okW.st;have hrT:∀ T,(S++T)[r]?=some (.dn Z8 e):=fun T=>zA hr
  have mst:∀ {i j},j∈stp zs c i↔j<zs.length/\0<arc c i j:=fun {i j}=>by unfold stp;rw[qO,Rf,decide_eq_true_eq]
  have lst:∀ i,(stp zs c i).length<=12:=fun i=>by have:=Rg (fun j=>decide (0<arc c i j)) (List.range zs.length);rw[Tn]at this;unfold stp;lia
  walk_at"g";refine⟨v,V,zs,r,e,Z8,c,s,rfl,hv.old,ok,hzs,hs,hrT _,R,fun T n hn ln=>?_⟩;obtain⟨m,rfl⟩:∃ m,n=S.length+(m+1):=⟨n-S.length-1,by simp at ln;lia⟩
  rw[qk,zQ]at hn;have hT:T[m]?=some (.lst (((stp zs c s).map (Z5 zs)).map D.str)):=hn;have kT:∀ (x:Cell) (G:Z7),Lst (S++x::(T++G)) (.ref (S.length+(m+1))) (((stp zs c s).map (Z5 zs)).map D.str):=fun x G=>Lst.here (by rw[zQ];exact zA hT)
  rw[qk];walk_at"h";have kT0:=kT (.lst []) [];rw[Xn]at kT0;walk_at"g"
  refine Xq (fun i ρ S'=>∃ (rs:List (List Nat)) (js:List Nat) (G:Z7) (w5 w6 w7:Option D),S'=S++.lst (js.map fun j=>.ref (S.length+(j+1)))::(T++G)/\ρ=[some v,some (.ref r),some (.str (Z5 zs s)),some (.str (Z5 zs t)),some (.ref S.length),w5,w6,w7]/\rs.length=i/\js.length=i/\js.Nodup /\
    (∀ (a:Nat) j us,js[a]?=some j->rs[a]?=some us->(T++G)[j]?=some (.lst ((us.map (Z5 zs)).map D.str)))/\(∀ (a:Nat) us,rs[a]?=some us->Xu (ZG V h s t) c us/\us[us.length-1]?=some t/\us[1]?=(stp zs c s)[a]?/\2<=us.length)) ⟨[],[],[],_,_,_,by simp,rfl,rfl,rfl,by simp,fun a j us h=>by simp at h,fun a us h=>by simp at h⟩ (by rintro i ρ S' ⟨rs,js,G,_,_,_,e1,_⟩;exact e1▸kT _ G) ?_ ?_
  . rintro i d ρ S' hd ⟨rs,js,G,w5,w6,w7,rfl,rfl,l1,l2,jn,hj,hrd⟩;obtain⟨z,hz,rfl⟩:=XC hd;rw[qi]at hz;obtain⟨b,hb,rfl⟩:=U6.mp hz;obtain⟨lb,pb⟩:=mst.mp (qc hb);have li:=zE hb;have l12:=lst s
    have hjl:∀ j∈js,j<(T++G).length:=fun j hj'=>by obtain⟨a,ha⟩:=Vv.mp hj';have la:=zE ha;exact zE (hj a j _ ha (qb (by lia)))
    obtain⟨H,hH⟩:∃ H:Z7,H=T++G:=⟨_,rfl⟩
    rw[<- hH]at hj hjl ⊢;obtain⟨S2,hS2⟩:∃ S2:Z7,S2=S++.lst (js.map fun j=>.ref (S.length+(j+1)))::H:=⟨_,rfl⟩
    have hv2:Zw S2 v V:=hS2▸hv.old;have hr2:S2[r]?=some (.dn Z8 e):=hS2▸hrT _;rw[<- hS2];walk_at"g";refine RN (fun m ρ S'=>∃ (us:List Nat) (x:Nat) (G2:Z7),S'=S2++.lst ((us.map (Z5 zs)).map D.str)::G2/\ρ=[some v,some (.ref r),some (.str (Z5 zs s)),some (.str (Z5 zs t)),some (.ref S.length),some (.str (Z5 zs b)),some (.ref S2.length),some (.str (Z5 zs x))]/\0<us.length/\Xu (ZG V h s t) c (us++[x])/\(us++[x])[1]?=some b/\m=zs.length-us.length) _ ⟨[s],b,[],rfl,rfl,by simp,⟨rfl,fun i a b' ha hb'=>?_,fun i a ha hi=>?_⟩,rfl,rfl⟩ ?_
    . cases i with
      |zero =>
        have e1:s=a:=by simpa using ha
        have e2:b=b':=by simpa using hb'
        rw[<- e1,<- e2];exact pb
      |succ i=>cases i<;>simp at hb'
    . cases i with
      |zero =>
        have e1:s=a:=by simpa using ha
        rw[<- e1];exact hst
      |succ i =>have:i+1+1<2:=hi;lia
    rintro m' ρ S' ⟨us,x,G2,rfl,rfl,pos,A,hb1,rfl⟩;have hx:x<zs.length:=nW▸A.lt okW F x (by simp)
    have lu:us.length+1<=zs.length:=by
      have:=Td (N:=List.range zs.length) (A.nodup okW F) fun y hy=>List.mem_range.mpr (nW▸A.lt okW F y hy)
      rw[qf,qQ,Tn]at this;exact this
    walk_at"g";refine QM (flz _ (mz hx)) (flz _ (mz ht)) ?_;walk_at"g";refine Xf (fun g=>?_) (fun g=>?_)
    . have nx:x≠t:=fun z=>g (by rw[z])
      have hv3:∀ y:Cell,Zw (S2++y::G2) v V:=fun y=>hv2.old
      have hr3:∀ y:Cell,(S2++y::G2)[r]?=some (.dn Z8 e):=fun y=>zA hr2
      have lus:((us.map (Z5 zs)).map D.str).length<big:=by rw[qa,qa];unfold big;lia
      walk_at"g";refine⟨v,V,zs,r,e,Z8,c,x,rfl,hv3 _,ok,hzs,hx,hr3 _,R,fun T2 n2 hn2 ln2=>?_⟩;have k2:=Lst.here hn2;obtain⟨p,hp⟩:∃ p,us[us.length-1]?=some p:=⟨_,qb (by lia)⟩
      have hp1:(us++[x])[us.length-1]?=some p:=by rw[qg (by lia)];exact hp
      have hx1:(us++[x])[us.length-1+1]?=some x:=by rw[show us.length-1+1=us.length by lia,qe (qh _),Yp];rfl
      obtain⟨d,hd1,hd2⟩:=Ϟ okW F nx (A.ch _ p x hp1 hx1)
      obtain⟨y,hy⟩:∃ y,(stp zs c x)[0]?=some y:=by have:d∈stp zs c x:=mst.mpr ⟨nW▸hd1,hd2⟩;have:=K1 this;exact⟨_,qb this⟩
      obtain⟨_,py⟩:=mst.mp (qc hy);have ly:0<(stp zs c x).length:=zE hy
      have hat:Zm (((stp zs c x).map (Z5 zs)).map D.str) 0=some (.str (Z5 zs y)):=by unfold Zm Yh;rw[if_pos (by decide),if_pos (by rw[qa,qa];lia)];show(((stp zs c x).map (Z5 zs)).map D.str)[0]?=_;rw[qi,qi,hy];rfl
      walk_at"g"
      have lx:(us++[x])[(us++[x]).length-1]?=some x:=by rw[qf,qQ,Nat.add_sub_cancel,qe (qh _),Yp];rfl
      refine⟨_,?_,us++[x],y,G2++T2,?_,rfl,by simp,A.snoc lx nx py,?_,rfl⟩
      . rw[qf,qQ];lia
      . simp
      . rw[qg (by simp;lia)];exact hb1
    . have gx:x=t:=X3 nd hx ht g;subst gx;have lus:((us.map (Z5 zs)).map D.str).length+[D.str (Z5 zs x)].length<=big:=by rw[qa,qa];unfold big;simp;lia
      have k1:Lst (S2++(.lst ((us.map (Z5 zs)).map D.str)::G2++[.lst [.str (Z5 zs x)]])) (.ref S2.length) ((us.map (Z5 zs)).map D.str):=Lst.at0;have hroads:∀ G,(S2++G)[S.length]?=some (.lst (js.map fun j=>.ref (S.length+(j+1)))):=fun G=>by rw[hS2,qk];exact zO
      walk_at"g";refine⟨⟨_,_,rfl,hroads _⟩,?_⟩;walk_at"g";refine FT k1 Lst.new lus ?_;walk_at"g";refine JF (hroads _) (by rw[qa];unfold big;lia) (Vn ?_);obtain⟨X,hX⟩:∃ X:Z7,X=Cell.lst ((us.map (Z5 zs)).map D.str)::G2++[.lst [.str (Z5 zs x)]]:=⟨_,rfl⟩
      rw[<- hX];have e1:S2.length+X.length=S.length+(H.length+X.length+1):=by rw[hS2,qf,qR];lia
      have e2:∀ c':Cell,(S2++(X++[c'])).set S.length (.lst ((js.map fun j=>D.ref (S.length+(j+1)))++[.ref (S2.length+X.length)]))=S++.lst ((js++[H.length+X.length]).map fun j=>.ref (S.length+(j+1)))::(T++(G++(X++[c']))):=fun c'=>by rw[e1,hS2,qk,qbv,O1,hH,qA,qk];rfl
      rw[e2];walk_at"g";refine⟨rs++[us++[x]],js++[H.length+X.length],G++(X++[.lst ((us.map (Z5 zs)).map D.str++[.str (Z5 zs x)])]),_,_,_,rfl,rfl,by rw[qf,l1];rfl,by rw[qf,l2];rfl,?_,fun a j vs ha hv'=>?_,fun a vs hv'=>?_⟩
      . rw[VR];refine⟨jn,by simp,fun a ha b' hb' e=>?_⟩;have:=hjl a ha;have:b'=H.length+X.length:=by simpa using hb'
        lia
      . rw[<- qk,<- hH];by_cases ga:a<i
        . rw[qg (by lia)]at ha hv';exact zA (hj a j vs ha hv')
        . have la:=zE ha;rw[qf,qQ]at la;have:a=i:=by lia
          subst this;rw[qe (by lia),l2,Yp]at ha;rw[qe (by lia),l1,Yp]at hv';have ea:H.length+X.length=j:=by simpa using ha
          have ev:us++[x]=vs:=by simpa using hv'
          rw[<- ea,<- ev,qe (by lia),Kd,qe (qh _),Yp,qA,qA];rfl
      . by_cases ga:a<i
        . rw[qg (by lia)]at hv';exact hrd a vs hv'
        . have la:=zE hv';rw[qf,qQ]at la;have:a=i:=by lia
          subst this;rw[qe (by lia),l1,Yp]at hv';have ev:us++[x]=vs:=by simpa using hv'
          rw[<- ev];refine⟨A,?_,by rw[hb1,hb],by rw[qf,qQ];lia⟩;rw[qf,qQ,Nat.add_sub_cancel,qe (qh _),Yp];rfl
  . rintro ρ S' ⟨rs,js,G,w5,w6,w7,rfl,rfl,l1,l2,jn,hj,hrd⟩;rw[qa,qa]at l1 l2;walk_at"g";exact fin_same (q (T++G) rs js ⟨l1,hrd⟩ (by lia) jn hj)
def Iz:ZX:=fun ds S Q=>∃ (v:D) (V:Vl) (h:Int) (s t:Nat) (zs:List Str),ds=[v,.int h,.str (Z5 zs s),.str (Z5 zs t)]/\Zw S v V/\Y6 V/\zs=V.bs.map (·.1)/\s<zs.length/\t<zs.length/\V.h0<=h/\h<=V.h1/\¬ z9 V h (Z5 zs s) (Z5 zs t) /\
 ∀ (T:Z7) (m n:Nat) (rs:List (List Nat)) (ks js:List Nat),X8 V h s t zs rs ks->M6 (S++T) m n zs rs ks js->S.length<=n->Q (.tup [.ref m,.ref n]) (S++T)
abbrev oA:DS :=
    (zf (Y4 (dCall K9 (zc Z4 (zc Z0 (zc ZW Yi)))))
 (zf (zq (dCall Cj (zc Z4 (zc Z0 (zc ZW Yi)))) YD)
 (zf (zq (dCall NQ (zc ZJ (zc (dTup (zc ZW (zc ZQ zm))) zm))) Yv)
 (zf (zq (Zh 1 [5] (Zi (dCall Vi Ze)) Y5 (Yc (dT (Qn (dTup (zc Z4 (zc ZL zm))) Z0)) (dT (Ow (dTup (zc Z4 (zc ZQ zm))) Z0))) Z4) W3)
 (zB (dTup (zc (dCall Fo (zc Z4 (zc ZJ (zc ZW Yi)))) Rc)))))))
def kW:BodyOk 7 oA Iz:=by
 rintro ds S Q ⟨v,V,h,s,t,zs,rfl,hv,ok,hzs,hs,ht,h0,h1,no,q⟩;unfold oA;have nd:zs.Nodup:=hzs▸ok.nd;have flz:∀ z∈zs,fl 20 (.str z)=true:=hzs▸ok.flN;have h12:zs.length<=12:=by rw[hzs,qa];exact ok.b12
 have okW:Zr (ZG V h s t):=HY (hzs▸hs) (hzs▸ht) (hzs▸no);have nW:(ZG V h s t).n=zs.length:=by rw[hzs];rfl
 have mz:∀ {i},i<zs.length->Z5 zs i∈zs:=fun hi=>qc (Xx hi)
 walk_at"g";refine⟨v,V,h,_,_,rfl,hv,ok,hzs▸mz hs,hzs▸mz ht,h0,h1,no,?_⟩;walk_at"g";refine⟨v,V,h,s,t,zs,rfl,hv,ok,hzs,hs,ht,h0,h1,no,fun T r e Z8 c k R F nr hr lr=>?_⟩;walk_at"g";refine⟨r,e,Z8,zs,c,(s,true),rfl,hr,R,nd,h12,flz,hs,fun p q z=>nW▸F.rng okW z,fun T2 f fo B lt hf lf=>?_⟩;have hr2:(S++T++T2)[r]?=some (.dn Z8 e):=zA hr;have hv2:Zw (S++T++T2) v V:=hv.old.old;rw[qk]at hf hr2 hv2 ⊢;generalize T++T2=G at hf hr2 hv2;walk_at"g";refine⟨v,V,rfl,hv2,by have:=ok.b12;lia,?_⟩;rw[<- hzs];have hf3:(S++(G++[Cell.lst (zs.map D.str)]))[f]?=some (.dt (fo.map (fk zs))):=by rw[<- qk];exact zA hf
 walk_at"g";refine Xp (Wm (RB zs fo)) id (by walk_at"l") (by rw[qa];unfold big;lia) (fun i d ys hd hw=>?_) ?_
 ·obtain⟨z,hz,rfl⟩:=XC hd;have hk:=zE hz;have ez:=Mx hz;subst ez;have eb:=vL (fo:=fo) nd hk
  have dg:∀ b:Bool,∃ o,Zc (S++(G++[Cell.lst (zs.map D.str)])) (.ref f) (Y9 zs (i,b)) o/\o.isSome=decide ((i,b)∈fo.map (·.1)):=fun b=>by
   have hp:((i,b):Pt).1<zs.length:=hk;refine⟨_,Zc.t (ks:=kp zs (i,b)) hf3 rfl,?_⟩;by_cases g:(i,b)∈fo.map (·.1)
   ·obtain⟨⟨p,o⟩,hm,ep⟩:=qv.mp g;have ep:p=(i,b):=ep;subst ep;rw[(Ue nd hp lt B.nd o).1 hm,decide_eq_true g];rfl
   ·rw[(Ue nd hp lt B.nd none).2 g,decide_eq_false g];rfl
  obtain⟨o1,d1,e1⟩:=dg false;obtain⟨o2,d2,e2⟩:=dg true;walk_at"g";refine⟨o1,d1,?_⟩;rw[e1];have ek:Wm (RB zs fo) (.str (Z5 zs i))=(decide ((i,false)∈fo.map (·.1))&&!decide ((i,true)∈fo.map (·.1))):=eb;walk_at"g";refine Zu (fun g1=>?_) (fun g1=>?_)
  ·walk_at"g";refine⟨o2,d2,?_⟩;rw[e2];walk_at"g";refine Xf (fun g2=>?_) (fun g2=>?_)
   ·walk_at"g";exact Xi hd hw (by rw[ek,decide_eq_true g1,decide_eq_false g2];rfl) rfl
   ·walk_at"g";exact T9 hd hw (by rw[ek,decide_eq_true g1,decide_eq_true g2];rfl)
  ·walk_at"g";exact T9 hd hw (by rw[ek,decide_eq_false g1];rfl)
 rw[List.map_id,Rz,show(Wm (RB zs fo) ∘ D.str)=RB zs fo from rfl,zqD nd];obtain⟨ks,hks⟩:∃ ks,ks=(List.range zs.length).filter (XQ fun p=>decide (p∈fo.map (·.1))):=⟨_,rfl⟩
 rw[<- hks];refine Xm ?_;obtain⟨S3,hS3⟩:∃ S3:Z7,S3=S++(G++[Cell.lst (zs.map D.str)]):=⟨_,rfl⟩
 have e3:S++(G++[Cell.lst (zs.map D.str)]++[Cell.lst ((ks.map (Z5 zs)).map D.str)])=S3++[Cell.lst ((ks.map (Z5 zs)).map D.str)]:=by rw[hS3];simp
 have l3:S.length+(G++[Cell.lst (zs.map D.str)]).length=S3.length:=by rw[hS3,<- qf]
 have ls3:S.length<=S3.length:=by lia
 have hv3:Zw (S3++[Cell.lst ((ks.map (Z5 zs)).map D.str)]) v V:=by rw[hS3,<- qk];exact hv2.old.old
 have hr3:(S3++[Cell.lst ((ks.map (Z5 zs)).map D.str)])[r]?=some (.dn Z8 e):=by rw[hS3,<- qk];exact zA (zA hr2)
 have e4:∃ T,S3=S++T:=⟨_,hS3⟩
 rw[e3,l3];clear e3 l3 hf hf3 hr2 hv2 hS3;walk_at"g";refine⟨v,V,h,s,t,zs,r,e,Z8,c,k,rfl,hv3,ok,hzs,hs,ht,okW,hr3,R,F,fun T3 rs js hrs ljs ndj hat=>?_⟩;walk_at"g";obtain⟨T4,rfl⟩:=e4;obtain⟨S5,hS5⟩:∃ S5:Z7,S5=S++T4++[Cell.lst ((ks.map (Z5 zs)).map D.str)]:=⟨_,rfl⟩
 have hk5:S5[(S++T4).length]?=some (.lst ((ks.map (Z5 zs)).map D.str)):=hS5▸zO;have l5:S5.length=(S++T4).length+1:=by rw[hS5,qf];rfl
 have gen:∀ c':Cell,S5++c'::T3=S++(T4++[Cell.lst ((ks.map (Z5 zs)).map D.str)]++c'::T3):=fun c'=>by rw[hS5];simp
 obtain⟨X,hX⟩:∃ X:Z7,S5++Cell.lst (js.map fun j=>D.ref (S5.length+(j+1)))::T3=S++X:=⟨_,gen _⟩
 rw[<- hS5];have A:M6 (S5++Cell.lst (js.map fun j=>D.ref (S5.length+(j+1)))::T3) S5.length (S++T4).length zs rs ks js:=⟨zO,zA hk5,ljs,ndj,by lia,fun i j us hj hu=>by rw[zQ];exact hat i j us hj hu⟩
 rw[hX]at A ⊢;exact fin_same (q _ _ _ rs ks js ⟨c,k,fo,F,hrs,B,nr fo B,hks⟩ A ls3)
def Dy:ZX:=fun ds S Q=>∃ (v:D) (V:Vl) (h:Int) (n:Str) (y:D) (bar:List Str),ds=[v,.int h,.str n,y]/\Zw S v V/\Y6 V/\n∈V.bs.map (·.1)/\Lst S y (bar.map D.str)/\(∀ z∈bar,fl 20 (.str z)=true)/\V.h0<=h/\h<=V.h1/\∀ (T:Z7) (k:Nat) (zs:List Str),Χ V h bar n zs->(S++T)[k]?=some (.lst (zs.map D.str))->S.length<=k->Q (.ref k) (S++T)
abbrev rN:DS :=
    (zf (zq (Yd Ys) YD)
 (zf (zq ZL Yv)
 (zf (Vp (dT (Z6 oLt Y8 (dB Zo VL))) (zf (Yr (Zi (dCall Vi Ze)) W3 (ZK (Yc (dT (Z6 RQ Ye ZJ)) (Yc (dT (Z6 RQ Ye ZS)) (dT (Z6 Ru (Ym O2 xF (zc Z4 (zc (Z6 ZR ZJ Y8) (zc Ye Yz)))) (dC .non))))) (Y4 (dM V7 ZJ Rc)) zH))
 (Lr 5 ZQ)))
 (zB (Zh 1 [4] (Zi (dCall Vi Ze)) Y5 (dT (Z6 Vo Z4 Z0)) Z4)))))
def zfc:BodyOk 7 rN Dy:=by
  rintro ds S Q ⟨v,V,h,n,y,bar,rfl,hv,ok,hn,hy,hbar,h0,h1,q⟩;unfold rN;have b12:=ok.b12;obtain⟨zs,hzs⟩:∃ zs:List Str,zs=V.bs.map (·.1):=⟨_,rfl⟩
  have flz:∀ z∈zs,fl 20 (.str z)=true:=hzs▸ok.flN;have zl:zs.length<=12:=by rw[hzs,qa];exact b12
  have hmem:∀ z∈zs,∃ s,(z,s)∈V.bs:=fun z hz=>by rw[hzs]at hz;obtain⟨b,hb,rfl⟩:=qv.mp hz;exact⟨b.2,hb⟩
  rw[<- hzs]at hn;walk_at"g";walk_at"h"
  have ini:∀ z∈[n],z∈zs/\Y7 V h bar n z:=fun z hz=>by
    have:z=n:=by simpa using hz
    subst this;exact⟨hn,.refl⟩
  refine RN (fun m ρ S'=>∃ (F:List Str) (G:Z7) (k:Nat) (w6:Option D),S'=S++Cell.lst (F.map D.str)::G/\ρ=[some v,some (.int h),some (.str n),some y,some (.ref S.length),some (.int (k:Int)),w6]/\m+k=20/\F.Nodup/\(∀ z∈F,z∈zs/\Y7 V h bar n z)/\n∈F/\k<=F.length/\∀ (j:Nat) a b,j<k->F[j]?=some a->z9 V h a b->b∉bar->b∈F) 20 ⟨[n],[],0,none,rfl,rfl,rfl,by simp,ini,by simp,by simp,fun j a b hj=>by lia⟩ ?_;rintro m ρ S' ⟨F,G,k,w6,rfl,rfl,hm,nd,hF,hnF,hk,hcl⟩;have lF:F.length<=12:=qW (KY nd fun x hx=>(hF x hx).1) zl;walk_at"g";rw[qa];refine Zu (fun hlt=>?_) (fun hge=>?_)
  . obtain⟨a,ha⟩:∃ a,F[k]?=some a:=⟨F[k]'(by lia),qb (by lia)⟩
    have ma:=qc ha;walk_at"g";refine⟨v,V,rfl,hv.old,by lia,?_⟩;rw[<- hzs];walk_at"g";obtain⟨s0,hs0⟩:=hmem a (hF a ma).1
    have kz:∀ (F':List Str),Lst (S++Cell.lst (F'.map D.str)::(G++[.lst (zs.map D.str)])) (.ref (S.length+(Cell.lst (F.map D.str)::G).length)) (zs.map D.str):=fun F'=>by refine .inr ⟨_,rfl,?_⟩;rw[zQ];show(Cell.lst (F'.map D.str)::(G++[.lst (zs.map D.str)]))[G.length+1]?=_;rw[qZ,qe (qh _),Yp];rfl
    refine Xq (fun i ρ S'=>∃ (F':List Str) (w6:Option D),S'=S++Cell.lst (F'.map D.str)::(G++[.lst (zs.map D.str)])/\ρ=[some v,some (.int h),some (.str n),some y,some (.ref S.length),some (.int (k:Int)),w6]/\F'.Nodup/\(∀ z∈F',z∈zs/\Y7 V h bar n z)/\(∃ A,F'=F++A)/\∀ b∈zs.take i,z9 V h a b->b∉bar->b∈F') ⟨F,w6,rfl,rfl,nd,hF,⟨[],by simp⟩,by simp⟩ (by rintro i ρ S' ⟨F',w,e,_⟩;exact e▸kz F') ?_ ?_
    . rintro i d ρ S' hd ⟨F',w,rfl,rfl,nd',hF',⟨A,eA⟩,hin⟩;obtain⟨z,hz,rfl⟩:=XC hd;have mz:=qc hz;obtain⟨t0,ht0⟩:=hmem z mz;have lF':F'.length<=12:=qW (KY nd' fun x hx=>(hF' x hx).1) zl;have flF:∀ x∈F',fl 20 (.str x)=true:=fun x hx=>flz x (hF' x hx).1
      have nxt:(z9 V h a z->z∉bar->z∈F')->∀ b∈zs.take (i+1),z9 V h a b->b∉bar->b∈F':=fun hq b hb=>by
        rw[zZ hz]at hb;rcases qD.mp hb with hb|hb
        . exact hin b hb
        . have:b=z:=by simpa using hb
          subst this;exact hq
      have kF:Lst (S++Cell.lst (F'.map D.str)::(G++[.lst (zs.map D.str)])) (.ref S.length) (F'.map D.str):=Lst.at0;have ky:Lst (S++Cell.lst (F'.map D.str)::(G++[.lst (zs.map D.str)])) y (bar.map D.str):=hy.old;walk_at"g";refine Om (.inr kF) (flz z mz) flF ?_;walk_at"g";refine Xf (fun hzF=>?_) (fun hzF=>?_)
      case refine_2 =>walk_at"g";exact⟨F',_,rfl,rfl,nd',hF',⟨A,eA⟩,nxt fun _ _=>hzF⟩
      walk_at"g";refine Om (.inr ky) (flz z mz) hbar ?_;walk_at"g";refine Xf (fun hzb=>?_) (fun hzb=>?_)
      case refine_2 =>walk_at"g";exact⟨F',_,rfl,rfl,nd',hF',⟨A,eA⟩,nxt fun _ no=>absurd hzb no⟩
      have aF:Zm (F'.map D.str) (k:Int)=some (.str a):=SQ (by rw[qi,eA,qg (by lia),ha];rfl);walk_at"g";refine⟨v,V,a,z,h,rfl,hv.old,ok,flz a (hF a ma).1,flz z mz,fun no=>?_,fun s t hs ht=>⟨fun no=>absurd ⟨h0,h1⟩ no,fun _ _ e he=>?_⟩⟩
      . rcases no with no|no
        . exact no _ hs0 rfl
        . exact no _ ht0 rfl
      have en:YW e=true↔z9 V h a z:=by
        have e1:YW e=true↔e=.non:=by cases e<;>simp[YW]
        rw[e1,he.non];constructor
        . intro w;exact⟨s,t,hs,ht,w⟩
        . rintro⟨s',t',hs',ht',w⟩;have es:s'=s:=congrArg Prod.snd (R4 ok hs' hs rfl);have et:t'=t:=congrArg Prod.snd (R4 ok ht' ht rfl);subst es et;exact w
      walk_at"g";cases hg:YW e with
      |true =>
        have hlim:(F'.map D.str).length<big:=by rw[qa];unfold big;lia
        walk_at"g";refine⟨F'++[z],_,by rw[qA];rfl,rfl,?_,?_,⟨A++[z],by rw[eA,qk]⟩,?_⟩
        . rw[VR];refine⟨nd',by simp,fun x hx y' hy' e=>?_⟩;have:y'=z:=by simpa using hy'
          subst this;subst e;exact hzF hx
        . intro x hx;rcases qD.mp hx with hx|hx
          . exact hF' x hx
          . have:x=z:=by simpa using hx
            subst this;exact⟨mz,.step (hF a ma).2 (en.mp hg) hzb⟩
        . intro b hb aD nb;rw[zZ hz]at hb;rcases qD.mp hb with hb|hb
          . exact qX _ (hin b hb aD nb)
          . exact qL _ hb
      |false =>walk_at"g";exact⟨F',_,rfl,rfl,nd',hF',⟨A,eA⟩,nxt fun aD _=>absurd (en.mpr aD) (by rw[hg];decide)⟩
    . rintro ρ S' ⟨F',w,rfl,rfl,nd',hF',⟨A,eA⟩,hin⟩;rw[qa,Wa]at hin;walk_at"g";refine⟨m-1,by lia,F',_,k+1,w,rfl,by rfl,by lia,nd',hF',by rw[eA];exact qX _ hnF,by rw[eA,qf];lia,fun j a' b hj ha' aD nb=>?_⟩;rcases qT j k with g|g
      . rw[eA,qg (by lia)]at ha';rw[eA];exact qX _ (hcl j a' b g ha' aD nb)
      . have:j=k:=by lia
        subst this;rw[eA,qg (by lia),ha]at ha';cases ha';obtain⟨s',t',h1',h2',_⟩:=id aD;refine hin b ?_ aD nb;rw[hzs];exact qv.mpr ⟨_,h2',rfl⟩
  . walk_at"g";refine⟨v,V,rfl,hv.old,by lia,?_⟩;rw[<- hzs];walk_at"g";have hkl:k=F.length:=by lia
    have all:∀ z,Y7 V h bar n z->z∈F:=fun z hz=>by
      induction hz with
      |refl=>exact hnF
      |step c aD nb ih =>obtain⟨j,hj,e⟩:=qN.mp ih;exact hcl j _ _ (by lia) (by rw[qb hj,e]) aD nb
    have flF:∀ x∈F,fl 20 (.str x)=true:=fun x hx=>flz x (hF x hx).1
    have kF:Lst (S++(Cell.lst (F.map D.str)::G++[Cell.lst (zs.map D.str)])) (.ref S.length) (F.map D.str):=Lst.at0;refine Xp (fun d=>match d with|.str z=>decide (z∈F)|_=>false) id Lst.new (by rw[qa];unfold big;lia) (fun i d ys hd hw=>?_) ?_
    . obtain⟨z,hz,rfl⟩:=XC hd;walk_at"g";refine M9 (.inr kF) (flz z (qc hz)) flF ?_;walk_at"g";refine Zu (fun h1=>?_) (fun h1=>?_)
      . walk_at"g";exact Xi hd hw (decide_eq_true h1) rfl
      . exact T9 hd hw (decide_eq_false h1)
    have ef:((zs.map D.str).filter (fun d=>match d with|.str z=>decide (z∈F)|_=>false)).map id=(zs.filter fun z=>decide (z∈F)).map D.str:=by rw[List.map_id,Rz];rfl
    rw[ef];refine Xm (fin_same (q _ _ (zs.filter fun z=>decide (z∈F)) ⟨fun z=>decide (z∈F),by rw[hzs],fun z _=>?_⟩ Ov (by lia)));rw[decide_eq_true_eq];exact⟨fun w=>(hF z w).2,all z⟩
def GX:ZX:=fun ds S Q=>∃ (v:D) (V:Vl) (h:Int) (a b:Str),ds=[v,.int h,.str a,.str b]/\Zw S v V/\Y6 V/\a∈V.bs.map (·.1)/\b∈V.bs.map (·.1)/\V.h0<=h/\h<=V.h1/\¬ z9 V h a b/\∀ (T:Z7) (n:Nat) (f:Str->Bool),(∀ w∈V.bs.map (·.1),(f w=true↔¬ Y7 V h [w] a b))->(S++T)[n]?=some (.lst (((U8 a b (V.bs.map (·.1))).filter f).map D.str))->S.length<=n->Q (.ref n) (S++T)
abbrev xq:DS :=
    (zf (Y4 (dCall K9 (zc Z4 (zc Z0 (zc ZW Yi)))))
 (zf (zq (dCall Jr (zc Z4 (zc ZW Yi))) YD)
 (zB (Zh 1 [3,0,1,2] (Zi ZJ) Y5 (dT (Z6 RQ Z0 (dCall Dy (zc ZW (zc ZS (zc ZJ (zc (Yd Ze) zm))))))) Z4))))
def zgH:BodyOk 5 xq GX:=by
 rintro ds S Q ⟨v,V,h,a,b,rfl,hv,ok,ma,mb,h0,h1,no,q⟩;unfold xq;have b12:=ok.b12;have flz:=ok.flN;walk_at"g";refine⟨v,V,h,a,b,rfl,hv,ok,ma,mb,h0,h1,no,?_⟩;walk_at"g";refine⟨v,V,a,b,rfl,hv,ok,flz a ma,flz b mb,fun T n hn ln=>?_⟩;have lo:(U8 a b (V.bs.map (·.1))).length<=12:=qW (Rg _ _) (by rw[qa];exact b12);have mo:∀ z∈U8 a b (V.bs.map (·.1)),z∈V.bs.map (·.1):=fun z hz=>(qO.mp hz).1
 generalize U8 a b (V.bs.map (·.1))=os at hn lo mo q;have ko:Lst (S++T) (.ref n) (os.map D.str):=Lst.here hn;walk_at"g";refine Sw (fun i ys S'=>∃ (G:Z7) (f:Str->Bool),S'=S++(T++G)/\ys=((os.take i).filter f).map D.str/\∀ w∈os.take i,(f w=true↔¬ Y7 V h [w] a b)) ⟨[],fun _=>true,by simp,rfl,by simp⟩ (by rintro i ys S' ⟨G,_,e,_⟩;exact by rw[e,<- qk];exact ko.old) (by rw[qa];unfold big;lia) ?_ ?_
 ·rintro i d ys S' hd ⟨G,f,rfl,rfl,hf⟩;obtain⟨z,hz,rfl⟩:=XC hd;have mz:=mo z (qc hz);walk_at"g";refine⟨v,V,h,a,_,[z],rfl,?_,ok,ma,Lst.new,fun w hw=>by rw[qK.mp hw];exact flz z mz,h0,h1,fun T2 k zs hc hk lk=>?_⟩
  ·exact hv.old
  obtain⟨g,rfl,hg⟩:=hc;have fz:∀ w∈(V.bs.map (·.1)).filter g,fl 20 (.str w)=true:=fun w hw=>flz w (qO.mp hw).1
  refine Om (.inr (Lst.here hk)) (flz b mb) fz ?_;have key:b∉(V.bs.map (·.1)).filter g↔¬ Y7 V h [z] a b:=by rw[qO,hg b mb];exact⟨fun w c=>w ⟨mb,c⟩,fun w c=>w c.2⟩
  have snoc:∀ (g':Bool) (ys':List Str),(g'=true↔¬ Y7 V h [z] a b)->ys'=(if g'=true then(os.take i).filter f++[z]else(os.take i).filter f)->∃ f':Str->Bool,ys'=(os.take (i+1)).filter f'/\∀ w∈os.take (i+1),(f' w=true↔¬ Y7 V h [w] a b):=fun g' ys' hg' e=>by
   have e1:(os.take i).filter (fun x=>if x∈os.take i then f x else g')=(os.take i).filter f:=Oz fun x hx=>by rw[if_pos hx]
   have e2:(if z∈os.take i then f z else g')=g':=by
    split
    ·rename_i w;rw[S8,hf z w,hg']
    ·rfl
   refine⟨fun x=>if x∈os.take i then f x else g',?_,fun w hw=>?_⟩
   ·rw[zZ hz,Rr,e1,e];cases g' with
    |true=>rw[if_pos rfl,Nq (by exact e2)];rfl
    |false=>rw[if_neg (by decide),Ng (by rw[e2];decide)];simp
   ·dsimp only;by_cases hx:w∈os.take i
    ·rw[if_pos hx];exact hf w hx
    ·rw[zZ hz]at hw;rcases qD.mp hw with hw|hw
     ·exact absurd hw hx
     ·rw[if_neg hx,qK.mp hw];exact hg'
  walk_at"g";refine Xf (fun e=>?_) (fun e=>?_)
  ·obtain⟨f',e1,e2⟩:=snoc true _ ⟨fun _=>key.mp e,fun _=>rfl⟩ rfl;walk_at"g";refine⟨G++[Cell.lst [D.str z]]++T2,f',?_,?_,e2⟩
   ·simp
   ·rw[<- e1,if_pos rfl,qA];rfl
  ·obtain⟨f',e1,e2⟩:=snoc false _ ⟨fun w=>(by cases w),fun w=>absurd (key.mpr w) (fun u=>u e)⟩ rfl;walk_at"g";refine⟨G++[Cell.lst [D.str z]]++T2,f',?_,?_,e2⟩
   ·simp
   ·rw[<- e1,if_neg (by decide)]
 rintro ys S' ⟨G,f,rfl,rfl,hf⟩;rw[qa,Wa]at hf ⊢
 obtain⟨f',hf'⟩:∃ f':Str->Bool,∀ w,(w∈os->f' w=f w)/\(w∉os->(f' w=true↔¬ Y7 V h [w] a b)):=by
  classical
  refine⟨fun w=>if w∈os then f w else decide (¬ Y7 V h [w] a b),fun w=>⟨fun m=>if_pos m,fun m=>?_⟩⟩;dsimp only;rw[if_neg m,decide_eq_true_eq]
 refine Xm (fin_same (q _ _ f' (fun w _=>?_) ?_ (by lia)))
 ·by_cases m:w∈os
  ·rw[(hf' w).1 m];exact hf w m
  ·exact(hf' w).2 m
 ·rw[show os.filter f'=os.filter f from Oz fun w hw=>(hf' w).1 hw];exact Ov
def Gv:ZX:=fun ds S Q=>∃ (v:D) (V:Vl) (h:Int) (a b:Str) (x:D) (us:List Str),ds=[v,.int h,.str a,.str b,x]/\Zw S v V/\Y6 V/\a∈V.bs.map (·.1)/\b∈V.bs.map (·.1)/\V.h0<=h/\h<=V.h1/\¬ z9 V h a b/\Lst S x (us.map D.str)/\us.length<=100/\(∀ u∈us,fl 20 (.str u)=true)/\∀ (T:Z7) (r:Bool),(r=true↔Fw V h a b us)->Q (.bl r) (S++T)
abbrev sS:DS :=
    (zf (Y4 (dCall K9 (zc Z4 (zc Z0 (zc ZW Yi)))))
 (zf (zq (dCall Vi Ze) Yv)
 (zf (ZK (Wo (dT (Z6 oEq (dB Zo VL) ZL)) (Wo (dT (Z6 Yg ŧ ZW)) (dT (Z6 Yg (Z6 ZR ZJ (V9 V3 ZQ)) ZS)))) (zB (dC (.bl false))) zH)
 (zf (ZK (Wo (dT (Z6 oLt (dB Ol VL) (dB Zo VL))) (W7 (dT (dB WK (zc (Zh 1 [5] (Zi ZJ) Y5 Yj (Z6 Vo Z4 Z0)) zm))))) (zB (dC (.bl false))) zH)
 (zB (dB WK (zc (Zh 1 [0,4,1] (K3 (zc ZQ (zc (dB Zo VL) zm))) Y5 Yj (Z6 Ru (Ym O2 xF (zc Z0 (zc (Z6 ZR ZW (Z6 Zf Z4 ZQ)) (zc (Z6 ZR ZW Z4) Yi)))) (dC .non))) zm)))))))
def dH:BodyOk 6 sS Gv:=by
  rintro ds S Q ⟨v,V,h,a,b,x,us,rfl,hv,ok,ma,mb,h0,h1,no,hx,lx,fu,q⟩;unfold sS;have b12:=ok.b12;have flz:=ok.flN;have bad:∀ T,¬ Fw V h a b us->Q (.bl false) (S++T):=fun T n=>q T false ⟨fun z=>absurd z (by decide),fun z=>absurd z n⟩
  walk_at"g";refine⟨v,V,h,a,b,rfl,hv,ok,ma,mb,h0,h1,no,?_⟩;walk_at"g";refine⟨v,V,rfl,hv,by lia,?_⟩
  have hmem:∀ z∈V.bs.map (·.1),∃ s,(z,s)∈V.bs:=fun z hz=>by obtain⟨b,hb,rfl⟩:=qv.mp hz;exact⟨b.2,hb⟩
  obtain⟨zs,hzs⟩:∃ zs,zs=V.bs.map (·.1):=⟨_,rfl⟩
  rw[<- hzs]at hmem flz ma mb ⊢;have kx:Lst (S++[Cell.lst (zs.map D.str)]) x (us.map D.str):=hx.old;have kz:Lst (S++[Cell.lst (zs.map D.str)]) (.ref S.length) (zs.map D.str):=Lst.at0;walk_at"g";rw[qa];cases us with
  |nil =>walk_at"g";exact fin_same (bad _ fun z=>by have:=z.1;simp at this)
  |cons u0 us' =>
    obtain⟨us,hus⟩:∃ us,us=u0::us':=⟨_,rfl⟩
    have g0:us[0]?=some u0:=by rw[hus];rfl
    have lp:0<us.length:=by rw[hus];simp
    rw[<- hus]at kx fu lx bad q ⊢;refine Zu (fun e=>absurd e (by lia)) (fun _=>?_);have a0:Zm (us.map D.str) 0=some (.str u0):=SQ (i:=0) (by rw[qi,g0];rfl);walk_at"g";refine QM (fu u0 (qc g0)) (flz a ma) ?_;walk_at"g";refine Xf (fun e=>?_) (fun e=>?_)
    . walk_at"g";exact fin_same (bad _ fun z=>by have:=z.1;rw[g0]at this;exact e (qF this))
    subst e;obtain⟨ul,gl⟩:∃ ul,us[us.length-1]?=some ul:=⟨_,qb (by lia)⟩
    have al:Zm (us.map D.str) (-1)=some (.str ul):=Ł (by rw[qi,qa,gl];rfl);walk_at"g";refine QM (fu ul (qc gl)) (flz b mb) ?_;walk_at"g";refine Xf (fun e=>?_) (fun e=>?_)
    . walk_at"g";exact fin_same (bad _ fun z=>by have:=z.2.1;rw[gl]at this;exact e (qF this))
    subst e;walk_at"g";refine xV kx (by lia) ?_;walk_at"g";rw[qa];refine Zu (fun e=>?_) (fun e=>?_)
    . walk_at"g";exact fin_same (bad _ fun z=>vH.mp (by lia) z.2.2.1)
    have und:us.Nodup:=Classical.byContradiction fun n=>e (by have:=vH.mpr n;lia)
    walk_at"g";refine Xp (fun _=>true) (NK fun z=>.bl (decide (z∈zs))) kx (by rw[qa];unfold big;lia) (fun i d ys hd hw=>?_) ?_
    . obtain⟨z,hz,rfl⟩:=XC hd;walk_at"g";refine M9 (.inr kz) (fu z (qc hz)) flz ?_;exact Xi hd hw rfl rfl
    rw[filter_true,wu,show(us.map fun z=>D.bl (decide (z∈zs)))=(us.map fun z=>decide (z∈zs)).map D.bl by rw[XF];rfl];walk_at"g";refine Kz (Lst.at (k:=1) rfl) ?_;walk_at"g";cases hg:(us.map fun z=>decide (z∈zs)).all id with
    |false =>
      walk_at"g";refine fin_same (bad _ fun z=>?_)
      have:(us.map fun z=>decide (z∈zs)).all id=true:=by rw[QS,WM];intro w hw;exact decide_eq_true (hzs▸z.2.2.2.1 w hw)
      rw[hg]at this;cases this
    |true =>
      have hall:∀ u∈us,u∈zs:=fun u hu=>by rw[QS,WM]at hg;exact of_decide_eq_true (hg u hu)
      have kx2:Lst (S++[Cell.lst (zs.map D.str),.lst ((us.map fun z=>decide (z∈zs)).map D.bl)]) x (us.map D.str):=by rw[hus];exact hx.old
      generalize ([Cell.lst (zs.map D.str),.lst ((us.map fun z=>decide (z∈zs)).map D.bl)]:Z7)=T1 at kx2;walk_at"g";rw[qa];refine⟨_,_,rfl,?_⟩;refine Sw (fun i ys S'=>S'=S++T1/\∃ bs:List Bool,ys=bs.map D.bl/\(bs.all id=true↔∀ (k:Nat) x y,k<i->us[k]?=some x->us[k+1]?=some y->z9 V h x y)) ⟨rfl,[],rfl,⟨fun _ k x y hk=>by lia,fun _=>rfl⟩⟩ (fun _ _ _ _=>True.intro) (by rw[Ml];unfold big;lia) ?_ ?_
      . rintro i d ys S' hd ⟨rfl,bs,rfl,hbs⟩;obtain⟨hi,rfl⟩:=Oa hd;have hi':i+1<us.length:=by lia
        have g1:us[i]?=some (us[i]'(by lia)):=qb (by lia);have g2:us[i+1]?=some (us[i+1]'hi'):=qb hi';generalize us[i]'(by lia)=w1 at g1;generalize us[i+1]'hi'=w2 at g2
        have aa1:Zm (us.map D.str) (1+(i:Int)-1)=some (.str w1):=by rw[show(1:Int)+(i:Int)-1=((i:Nat):Int) by lia];exact SQ (by rw[qi,g1];rfl)
        have aa2:Zm (us.map D.str) (1+(i:Int))=some (.str w2):=by rw[show(1:Int)+(i:Int)=((i+1:Nat):Int) by lia];exact SQ (by rw[qi,g2];rfl)
        have mw1:=qc g1;have mw2:=qc g2;obtain⟨s1,hs1⟩:=hmem w1 (hall w1 mw1);obtain⟨s2,hs2⟩:=hmem w2 (hall w2 mw2);walk_at"g";refine⟨v,V,w1,w2,h,rfl,hv.old,ok,fu w1 mw1,fu w2 mw2,fun n=>?_,fun s t hs ht=>⟨fun n=>absurd ⟨h0,h1⟩ n,fun _ _ e he=>?_⟩⟩
        . rcases n with n|n
          . exact n _ hs1 rfl
          . exact n _ hs2 rfl
        have en:YW e=true↔z9 V h w1 w2:=by
          have e1:YW e=true↔e=.non:=by cases e<;>simp[YW]
          rw[e1,he.non];constructor
          . intro w;exact⟨s,t,hs,ht,w⟩
          . rintro⟨s',t',hs',ht',w⟩;have es:s'=s:=congrArg Prod.snd (R4 ok hs' hs rfl);have et:t'=t:=congrArg Prod.snd (R4 ok ht' ht rfl);subst es et;exact w
        walk_at"g";refine⟨rfl,bs++[YW e],by rw[qA];rfl,?_⟩;rw[List.all_append,qw,hbs];show(_/\(YW e&&true)=true)↔_;rw[Bool.and_true,en];constructor
        . rintro⟨w,w'⟩ k x y hk gx gy;rcases qT k i with g|g
          . exact w k x y g gx gy
          . have:k=i:=by lia
            subst this;rw[g1]at gx;rw[g2]at gy;cases gx;cases gy;exact w'
        . intro w;exact⟨fun k x y hk=>w k x y (by lia),w i w1 w2 (by lia) g1 g2⟩
      rintro ys S' ⟨rfl,bs,rfl,hbs⟩;rw[Ml]at hbs;refine Xm ?_;walk_at"g";refine Kz Lst.new ?_;refine fin_same (q _ _ ?_);rw[hbs];constructor
      . intro w;exact⟨g0,gl,und,fun u hu=>hzs▸hall u hu,fun k x y gx gy=>w k x y (by have:=zE gy;lia) gx gy⟩
      . intro w k x y _ gx gy;exact w.2.2.2.2 k x y gx gy
def Ec:ZX:=fun ds S Q=>∃ (v v':D) (V V':Vl) (h:Int) (s t:Nat) (zs:List Str) (g:Str),ds=[v,v',.int h,.str (Z5 zs s),.str (Z5 zs t),.str g]/\Zw S v V/\Y6 V/\Zw S v' V'/\Y6 V'/\VJ V V' g/\zs=V.bs.map (·.1)/\s<zs.length/\t<zs.length/\Z5 zs s≠g/\Z5 zs t≠g/\g∈zs/\V.h0<=h/\h<=V.h1/\¬ z9 V h (Z5 zs s) (Z5 zs t)/\∀ T,Q (.bl true) (S++T)
structure mO (P:Prop):Prop where
 p:P
def cu {R Y:Z7->Prop}{X:Prop}(h:(∀ G,R G->mO (Y G))->X)(y:∀ G,R G->Y G):X:=h fun G r=>⟨y G r⟩
def Ad {X:Prop}(h:mO Y->X)(y:Y):X:=h ⟨y⟩
abbrev u5:DS :=
    (zf (zq (dCall Iz (zc Z4 (zc ZW (zc ZS VL)))) (YH 2 (zF W3 (zF Ub YM))))
 (zf (zq (dB Zo (zc (Z6 ZR (dCall Iz (zc Z0 (zc ZW (zc ZS VL)))) ZQ) zm)) KZ)
 (zf (ZK (Yc (dT (Z6 Yg V2 (dB Zo R9))) (dT (Z6 Yg V2 (Z6 Zf (dB Zo R9) ZQ)))) (zB (dC (.bl false))) zH)
 (zf (ZK (Yc (dT (Z6 Vo Y8 V0)) (dT (Z6 Yg V2 (Z6 Zf (dB Zo R9) ZQ)))) (zB (dC (.bl false))) zH)
 (zf (ZK (Yc (dT (Z6 oEq (dB Zo Rc) ZQ)) (Yc (dT (Z6 Vo Y8 (dCall GX (zc Z4 (zc ZW (zc ZS VL)))))) (dT (Z6 Yg V2 ZL)))) (zB (dC (.bl false))) zH)
 (zB (dB WK (zc (Zh 1 [5,1,2,3,4] (Zi Ye) Y5 Yj (J5 (Z6 Vo Z0 Z4) (dCall Gv (zc ZW (zc ZS (zc ZJ (zc Y8 Ze))))))) zm))))))))
def zkk:BodyOk 9 u5 Ec:=by
 rintro ds S Q ⟨v,v',V,V',h,s,t,zs,g,rfl,hv,ok,hv',ok',F,hzs,hs,ht,ns,nt,mg,h0,h1,no,q⟩;unfold u5;have nd:zs.Nodup:=hzs▸ok.nd;have flz:∀ z∈zs,fl 20 (.str z)=true:=hzs▸ok.flN;have h12:zs.length<=12:=by rw[hzs,qa];exact ok.b12
 have mz:∀ {i},i<zs.length->Z5 zs i∈zs:=fun hi=>qc (Xx hi)
 have fg:=flz g mg;have okW:Zr (ZG V h s t):=HY (hzs▸hs) (hzs▸ht) (hzs▸no);walk_at"g";refine⟨v,V,h,s,t,zs,rfl,hv,ok,hzs,hs,ht,h0,h1,no,fun T m n rs ks js A At ln=>?_⟩
 have up:∀ {z:Str},z∈zs->z≠g->z∈V'.bs.map (·.1):=fun {z} hz ne=>by rw[hzs]at hz;obtain⟨p,hp,rfl⟩:=qv.mp hz;exact qv.mpr ⟨p,(F.bs p).mpr ⟨hp,ne⟩,rfl⟩
 obtain⟨zs',hzs'⟩:∃ zs',zs'=V'.bs.map (·.1):=⟨_,rfl⟩
 obtain⟨s',hs',es⟩:=LK hzs' (up (mz hs) ns);obtain⟨t',ht',et⟩:=LK hzs' (up (mz ht) nt)
 have no':¬ z9 V' h (Z5 zs' s') (Z5 zs' t'):=fun z=>by rw[es,et]at z;exact no (F.adj.mp z).1
 have nd':zs'.Nodup:=hzs'▸ok'.nd;have okW':Zr (ZG V' h s' t'):=HY (hzs'▸hs') (hzs'▸ht') (hzs'▸no');walk_at"g";refine⟨v',V',h,s',t',zs',by rw[es,et],hv'.old,ok',hzs',hs',ht',by rw[F.h0];exact h0,by rw[F.h1];exact h1,no',fun T2 m' n' rs' ks' js' A' At' ln'=>?_⟩;obtain⟨f1,f2,f3⟩:=A.fewer F nd hzs okW nd' hzs' okW' A' hs ht es et ns nt;have At1:M6 (S++T++T2) m n zs rs ks js:=⟨zA At.r,zA At.k,At.l,At.nd,At.lt,fun i j us a b=>zA (At.at' i j us a b)⟩
 rw[qk]at At1 At' ⊢;generalize T++T2=G at At1 At';have kr:Lst (S++G) (.ref m) (js.map fun j=>.ref (m+(j+1))):=Lst.here At1.r;have kk:Lst (S++G) (.ref n) ((ks.map (Z5 zs)).map D.str):=Lst.here At1.k;have kk':Lst (S++G) (.ref n') ((ks'.map (Z5 zs')).map D.str):=Lst.here At'.k;have lk:((ks.map (Z5 zs)).map D.str).length=ks.length:=by rw[qa,qa]
 have lk':((ks'.map (Z5 zs')).map D.str).length=ks'.length:=by rw[qa,qa]
 have flk:∀ z∈ks.map (Z5 zs),fl 20 (.str z)=true:=fun z hz=>by obtain⟨k,hk',rfl⟩:=qv.mp hz;exact flz _ (mz ((A.ends okW).2.2.1 k hk'))
 walk_at"g";rw[lk,lk'];apply Ad
 ·intro y;rcases f1 with e|e
  ·rw[if_neg (by simp[e])];walk_at"g";exact y.p
  ·rw[if_pos (by simp;lia)];walk_at"g";rw[lk,if_neg (by simp;lia)];walk_at"g";exact y.p
 apply Ad
 ·intro y;refine M9 (.inr kk) fg flk ?_;walk_at"g";refine Zu (fun e=>?_) (fun e=>?_)
  ·have f2:=f2 e;walk_at"g";rw[lk,if_neg (by simp;lia)];walk_at"g";exact y.p
  ·walk_at"g";exact y.p
 apply cu (R:=fun G=>M6 (S++G) m n zs rs ks js)
 ·intro y;by_cases el:js.length=1
  ·rw[if_pos (by simp[el])];walk_at"g";refine⟨v,V,h,_,_,rfl,hv.old,ok,hzs▸mz hs,hzs▸mz ht,h0,h1,no,fun T3 n3 f hf l3 hl3=>?_⟩;have At2:M6 (S++G++T3) m n zs rs ks js:=⟨zA At1.r,zA At1.k,At1.l,At1.nd,At1.lt,fun i j us a b=>zA (At1.at' i j us a b)⟩
   rw[qk]at l3 At2 ⊢;generalize G++T3=G2 at l3 At2;walk_at"g";refine M9 (.inr (Lst.here l3)) fg (fun z hz=>flz z ?_) ?_
   ·rw[hzs];exact(qO.mp (qO.mp hz).1).1
   walk_at"g";refine Zu (fun e=>?_) (fun e=>?_)
   ·have f3:=f3 ((hf g (hzs▸mg)).mp (qO.mp e).2);walk_at"g";rw[if_neg (by simp[f3])];walk_at"g";exact(y _ At2).p
   ·walk_at"g";exact(y _ At2).p
  ·clear kr;rw[if_neg (by simp;lia)];walk_at"g";exact(y _ At1).p
 clear kr kk kk' At' At1;intro G At1;have kr:Lst (S++G) (.ref m) (js.map fun j=>.ref (m+(j+1))):=Lst.here At1.r;walk_at"g"
 have ljs:js.length<=12:=by
  have h1:=(A.ends okW).2.2;have:=Td (N:=List.range zs.length) h1.2 fun y hy=>List.mem_range.mpr (h1.1 y hy)
  rw[Tn]at this;rw[At1.l,A.len hzs okW];lia
 refine Sw (fun i ys S'=>∃ G2:Z7,S'=S++G++G2/\ys=(List.replicate i true).map D.bl) ⟨[],by simp,rfl⟩ (by rintro i ys S' ⟨G,e,_⟩;exact e▸kr.old) (by rw[qa];unfold big;lia) ?_ ?_
 ·rintro i d ys S' hd ⟨G2,rfl,rfl⟩;rw[qi]at hd;obtain⟨j,hj,ed⟩:=U6.mp hd;have ed:d=.ref (m+(j+1)):=ed.symm;subst ed;have lj:=zE hj;have ll:=At1.l;obtain⟨us,hus⟩:∃ us,rs[i]?=some us:=⟨_,qb (by lia)⟩
  obtain⟨i0,i1,i2,i3,i4,i5⟩:=A.idx hzs okW hus
  have lus:us.length<=zs.length:=by
   have:=Td (N:=List.range zs.length) i3 fun y hy=>List.mem_range.mpr (i4 y hy)
   rwa[Tn]at this
  have fu:∀ u∈us.map (Z5 zs),u∈zs:=fun u hu=>by obtain⟨k,hk',rfl⟩:=qv.mp hu;exact mz (i4 k hk')
  have lr:Lst (S++G++G2) (.ref (m+(j+1))) ((us.map (Z5 zs)).map D.str):=Lst.here (zA (At1.at' i j us hj hus));walk_at"g";refine M9 (.inr lr) fg (fun z hz=>flz z (fu z hz)) ?_;walk_at"g";refine Zu (fun e=>?_) (fun e=>?_)
  ·walk_at"g";exact⟨G2,rfl,by rw[show List.replicate (i+1) true=List.replicate i true++[true]from List.replicate_succ',qA];rfl⟩
  ·walk_at"g";have R:=A.road nd hzs okW hus;have ne:∀ {z},z∈us.map (Z5 zs)->z≠g:=fun hz x=>e (x▸hz)
   refine⟨v',V',h,Z5 zs s,Z5 zs t,_,us.map (Z5 zs),rfl,hv'.old.old,ok',up (mz hs) ns,up (mz ht) nt,by rw[F.h0];exact h0,by rw[F.h1];exact h1,fun z=>no (F.adj.mp z).1,lr,by rw[qa];lia,fun u hu=>flz u (fu u hu),fun T r hr=>?_⟩
   have er:r=true:=hr.mpr (by obtain⟨r1,r2,r3,r4,r5⟩:=R;exact⟨r1,r2,r3,fun u hu=>up (fu u hu) (ne hu),fun k x y hx hy=>F.adj.mpr ⟨r5 k x y hx hy,ne (qc hx),ne (qc hy)⟩⟩)
   subst er;walk_at"g";exact⟨G2++T,by simp,by rw[show List.replicate (i+1) true=List.replicate i true++[true]from List.replicate_succ',qA];rfl⟩
 rintro ys S' ⟨G2,rfl,rfl⟩;rw[qa];refine Xm ?_;walk_at"g";refine Kz Lst.new ?_;rw[show(List.replicate js.length true).all id=true by simp];walk_at"g";rw[qk];exact fin_same (q _)
def zuO {ks:List Nat}{k:Int}(h0:0<=k)(h:k<ks.length):∃ u,u∈ks/\Zm (ks.map fun k:Nat=>D.int k) k=some (.int u):=by
 have l:k.toNat<ks.length:=by lia
 refine⟨ks[k.toNat],List.getElem_mem l,?_⟩;unfold Zm Yh;rw[if_pos h0,if_pos (by rw[qa];exact h)];show(ks.map fun k:Nat=>D.int k)[k.toNat]?=_;rw[qi,qb l];rfl
abbrev yV:DS :=
    (zf (zq (dCall Gz Ze) Vw)
 (zf (zq WD Yx)
 (zf (zq (dCall Kh Yz) YB)
 (zf (zq (Z6 oMod (dCall JM (zc Z4 (zc ZQ zm))) (dC (.int 1000000000000000000000000000000))) YD)
 (zf (zq (Z6 Zx (X7 "first" ZS) (Z6 oMod ZJ RJ)) Yv)
 (zf (zq (dCall Ek (zc ZS (zc Y8 Ys))) W3)
 (zf (Yr (VN (zc (dCall Ck (zc (dCall BL (zc ZW Rc)) (zc ZJ (zc Vs zm)))) zm)) (YH 2 (zF Ub (zF KZ YM))) (zf (zq (Zh 1 [2,8] (RZ (zc (dB Zo Ys) zm)) Y5 (dT (Z6 RQ (Z6 ZR Z0 Z4) ZW)) Z4) Fe)
 (ZK (dT (Z6 X5 (dB Zo tG) ZL)) (zf (zq (Z6 ZR Oc (Z6 oMod (Z6 Zx (Z6 oDiv ZJ RJ) V0) (dB Zo tG))) Bh)
 (ZK (W7 (dT (dCall Ec (zc ZS (zc (dCall G6 (zc Z0 Ď)) (zc Y8 (zc jQ (zc Ñ (zc (Z6 ZR ZW Vz) zm))))))))) (zB (dC (.bl false))) zH)) zH)))
 (zB (dC (.bl true))))))))))
def zsG:BodyOk 11 yV O8:=by
 rintro ds S Q ⟨ns,rfl,⟨_,hg⟩,hl,q⟩;unfold yV;walk_at"g";refine⟨ns,rfl,hl,fun T a b c zs ps fs hz f w ha hb hc=>?_⟩;walk_at"g";refine⟨a,b,c,zs,ps,fs,hz,f,rfl,w,ha,hb,hc,fun T2 v V hv ok hzs hf0 hf1 eV=>?_⟩;have ha2:Lst (S++T++T2) a (zs.map D.str):=ha.old;have hb2:Lst (S++T++T2) b (ps.map p2):=hb.old;have hc2:Lst (S++T++T2) c (fs.map Yu):=hc.old;generalize S++T++T2=S2 at hv ha2 hb2 hc2;walk_at"g";refine⟨ns,1,rfl,by decide,fun c1=>?_⟩;obtain⟨vn,vg,vb,vf,rfl,hv1,hv2⟩:=id hv;walk_at"g";have t0:=T8 (c1%1000000000000000000000000000000) (b:=6) (by decide);have t1:=RX (c1%1000000000000000000000000000000) (b:=6) (by decide);have tn:=T8 c1 (b:=1000000000000000000000000000000) (by decide);generalize c1%1000000000000000000000000000000=t at t0 t1 tn;have hh0:V.h0<=V.h0+t%6:=by lia
 have hh1:V.h0+t%6<=V.h1:=by lia
 generalize V.h0+t%6=hour at hh0 hh1;refine⟨_,V,hour,a,zs,rfl,hv,ok,hzs,ha2,hh0,hh1,fun T3 y hn=>?_⟩;have hv3:Zw (S2++T3) (.ref vn) V:=hv.old;have ha3:Lst (S2++T3) a (zs.map D.str):=ha2.old;have hb3:Lst (S2++T3) b (ps.map p2):=hb2.old;have hc3:Lst (S2++T3) c (fs.map Yu):=hc2.old;generalize S2++T3=S3 at hn hv3 ha3 hb3 hc3;clear hv ha2 hb2 hc2 hv1 hv2;walk_at"g";refine⟨a,zs,y,V,hour,rfl,ha3,ok,hzs,hn,fun T4 n4 prs4 hp4 lp4 hn4=>?_⟩;have hv4:Zw (S3++T4) (.ref vn) V:=hv3.old;have ha4:Lst (S3++T4) a (zs.map D.str):=ha3.old;have hb4:Lst (S3++T4) b (ps.map p2):=hb3.old;have hc4:Lst (S3++T4) c (fs.map Yu):=hc3.old;generalize S3++T4=S4 at hn4 hv4 ha4 hb4 hc4;clear hn hv3 ha3 hb3 hc3;walk_at"g";refine⟨_,prs4,t,4,rfl,Lst.here hn4,by decide,by decide,fun qs hq=>?_⟩;walk_at"g";have kq:∀ G,Lst (S4++Cell.lst (qs.map Zq)::G) (.ref S4.length) (qs.map Zq):=fun G=>Lst.at0
 have nd:zs.Nodup:=by rw[<- hzs];exact ok.nd
 have flz:∀ z∈zs,fl 20 (.str z)=true:=hzs▸ok.flN;have lz:zs.length<=12:=by rw[<- hzs,qa];exact ok.b12
 obtain⟨tl,htl⟩:∃ tl:D,tl=.tup [a,b,c,.int hz,.int f,.int (f+5)]:=⟨_,rfl⟩
 refine PK (kq []) ?_;refine Xq (fun i ρ S'=>∃ (G:Z7) (w7 w8 w9 w10:Option D),S'=S4++Cell.lst (qs.map Zq)::G/\ρ=[some (.rl (ns.map D.int)),some (.tup [a,b,c,.int hz,.int f,.int (f+5)]),some a,some (.ref vn),some (.int t),some (.int hour),some y,w7,w8,w9,w10]) ⟨[],_,_,_,_,rfl,rfl⟩ (by rintro i ρ S' ⟨G,_,_,_,_,e,_⟩;exact e▸kq G) ?_ ?_
 ·rintro i d ρ S' hd ⟨G,w7,w8,w9,w10,rfl,rfl⟩;obtain⟨x,hx,rfl⟩:=R6 hd;obtain⟨⟨one,two⟩,hp,rfl⟩:=Kr hx;obtain⟨m1,m2,ne,nad⟩:=hp4 _ (hq _ (qc hp));obtain⟨s,hs,rfl⟩:=LK hzs.symm (hzs.symm▸m1);obtain⟨t',ht,rfl⟩:=LK hzs.symm (hzs.symm▸m2);obtain⟨S5,hS5⟩:∃ S5:Z7,S5=S4++Cell.lst (qs.map Zq)::G:=⟨_,rfl⟩
  have e5:∃ G',S5=S4++Cell.lst (qs.map Zq)::G':=⟨G,hS5⟩
  have hv5:Zw S5 (.ref vn) V:=hS5▸hv4.old;have ha5:Lst S5 a (zs.map D.str):=hS5▸ha4.old;have hb5:Lst S5 b (ps.map p2):=hS5▸hb4.old;have hc5:Lst S5 c (fs.map Yu):=hS5▸hc4.old;rw[<- hS5];walk_at"g";refine⟨_,rfl,by rw[qa];lia,by rw[qa];lia,?_⟩;refine Sw (fun k ys S'=>∃ ks:List Nat,S'=S5/\ys=ks.map (fun k:Nat=>D.int k)/\ks.length<=k/\∀ k∈ks,k<zs.length/\k≠s/\k≠t') ⟨[],rfl,rfl,qh _,fun k h=>absurd h (qJ)⟩ (fun _ _ _ _=>True.intro) (by simp[upto];unfold big;lia) ?_ ?_
  ·rintro k d ys S' hd ⟨ks,rfl,rfl,lk,hks⟩;obtain⟨hk,rfl⟩:=Oa hd;rw[qa]at hk;have hk:k<zs.length:=by lia
   have at1:Zm (zs.map D.str) (0+(k:Int))=some (.str (Z5 zs k)):=by unfold Zm Yh;rw[if_pos (by lia),if_pos (by rw[qa];lia),show(0+(k:Int)).toNat=k by lia];show(zs.map D.str)[k]?=_;rw[qi,Xx hk];rfl
   walk_at"g";refine Om (zs:=[Z5 zs s,Z5 zs t']) (.inl rfl) (flz _ (qc (Xx hk))) (fun z hz=>?_) ?_
   ·simp only[ql,qJ,or_false]at hz;rcases hz with rfl|rfl
    ·exact flz _ (hzs▸m1)
    ·exact flz _ (hzs▸m2)
   walk_at"g";by_cases e:Z5 zs k∈[Z5 zs s,Z5 zs t']
   ·rw[if_neg (by simp only[decide_eq_true e];decide)];walk_at"g";exact⟨ks,rfl,rfl,by lia,hks⟩
   ·rw[if_pos (by simp only[decide_eq_false e];decide)];walk_at"g";refine⟨ks++[k],rfl,by rw[qA,Int.zero_add];rfl,by simp;lia,fun u hu=>?_⟩;rcases qD.mp hu with hu|hu
    ·exact hks u hu
    ·cases qK.mp hu;exact⟨hk,fun z=>e (by subst z;exact qI),fun z=>e (by subst z;exact qj _ qI)⟩
  rintro ys S' ⟨ks,rfl,rfl,lk,hks⟩;refine tE ?_;walk_at"g";refine Zu (fun e=>?_) (fun e=>?_)
  ·have l0:0<ks.length:=by rw[qa]at e;lia
   have lp:(0:Int)<((ks.map fun k:Nat=>D.int k).length:Nat):=by rw[qa];lia
   have kk:Lst (S'++[Cell.lst (ks.map fun k:Nat=>D.int k)]) (.ref S'.length) (ks.map fun k:Nat=>D.int k):=Lst.at0;walk_at"g";rw[qa];have p1:=T8 (t/6+((0+i:Nat):Int)) (show(ks.length:Int)≠0 by lia);have p2:=RX (t/6+((0+i:Nat):Int)) (show(0:Int)<(ks.length:Int) by lia);generalize (t/6+((0+i:Nat):Int))%(ks.length:Int)=x1 at p1 p2;obtain⟨u,mu,at2⟩:=zuO p1 p2;obtain⟨hu,us,ut⟩:=hks u mu;have hst:s≠t':=fun z=>ne (by subst z;rfl)
   have at3:Zm (zs.map D.str) (u:Int)=some (.str (Z5 zs u)):=by unfold Zm Yh;rw[if_pos (by lia),if_pos (by rw[qa];lia)];show(zs.map D.str)[(u:Int).toNat]?=_;rw[Ot,qi,Xx hu];rfl
   have ha6:∀ G,Lst (S'++[Cell.lst (ks.map fun k:Nat=>D.int k)]++G) a (zs.map D.str):=fun G=>ha5.old.old
   walk_at"g";refine⟨a,b,c,zs,ps,fs,hz,f,u,rfl,w,ha5.old,hb5.old,hc5.old,hu,by lia,fun T v' V' hv' ok' e0 eV'=>?_⟩;have ha7:=ha6 T;walk_at"g";have ez:(zs.zip ps).map (·.1)=zs:=by rw[eV]at hzs;exact hzs
   have F:VJ V V' (Z5 zs u):=by rw[eV,eV'];exact⟨rfl,rfl,rfl,rfl,rfl,fun p=>zjp ez nd (Xx hu) p⟩
   refine⟨_,v',V,V',hour,s,t',zs,Z5 zs u,rfl,hv5.old.old,ok,hv',ok',F,hzs.symm,hs,ht,fun z=>us (X3 nd hu hs z.symm),fun z=>ut (X3 nd hu ht z.symm),qc (Xx hu),hh0,hh1,nad,fun T2=>?_⟩;obtain⟨G',rfl⟩:=e5;walk_at"g";exact⟨G'++[Cell.lst (ks.map fun k:Nat=>D.int k)]++T++T2,_,_,_,_,by simp,rfl⟩
  ·obtain⟨G',rfl⟩:=e5;walk_at"g";exact⟨G'++[Cell.lst (ks.map fun k:Nat=>D.int k)],_,_,_,_,by simp,rfl⟩
 ·rintro ρ S' ⟨G,w7,w8,w9,w10,rfl,rfl⟩;walk_at"g";exact fin_same (q _)
end Dp
namespace Law
open PySem PySem.Spec PyProof.Rows L2 My Dp
def top (i:Nat):Stmt:=PySem.Challenge.pw_beaconvale_k83_whole_one_beacon_fewer.main.body.getD i (.Pass ⟨0,0,0,0⟩)
def bs:List (Str×YZ):=[ent "len" (.blt .len),
 ent "range" (.blt .range),
 ent "enumerate" (.blt .enum),
 ent "list" (.blt .list),
 ent "all" (.blt .all),
 ent "set" (.blt .set),
 ent "abs" (.blt .abs),
 ent "int" (.blt .int),
 ent "isinstance" (.blt .isi),
 ent "bool" (.blt .bool),
 ent "tuple" (.blt .tuple),
 ent "zip" (.blt .zip),
 ent "min" (.blt .min),
 ent "max" (.blt .max),
 ent "LEAST_CORNERS" (.int 2),
 ent "MOST_CORNERS" (.int 40),
 ent "MOST_BEACONS" (.int 12),
 ent "MOST_FOGS" (.int 12),
 ent "MOST_LETTERS" (.int 8),
 ent "LETTERS" (.str "abcdefghijklmnopqrstuvwxyz"),
 ent "NUMBERS" (.int 8),
 ent "LEFT" (.int 0),
 ent "RIGHT" (.int 1),
 ent "LOW" (.int 2),
 ent "HIGH" (.int 3),
 ent "FIRST" (.int 4),
 ent "LAST" (.int 5),
 ent "DRIFT" (.int 6),
 ent "RISE" (.int 7),
 ent "INWARD" (.int 0),
 ent "OUTWARD" (.int 1)]
def F:List (Str×Stmt×YZ):=[zG "_law_cell_at" (top 81) (.fn 1 ["script","k"] JM),
 zG "_law_mixed" (top 82) (.fn 1 ["cell","k"] N6),
 zG "_law_seeds" (top 83) (.fn 2 ["cells","most"] Gu),
 zG "_law_web_parts" (top 84) (.fn 3 ["script"] Gz),
 zG "refuse_bad_corners" (top 37) (.fn 1 ["corners"] FW),
 zG "refuse_bad_numbers" (top 51) (.fn 1 ["beacons","fogs"] Ci),
 zG "is_name" (top 50) (.fn 1 ["text"] Hi),
 zG "refuse_bad_names" (top 52) (.fn 2 ["names"] Gw),
 zG "less" (top 31) (.fn 1 ["one","other"] O6),
 zG "is_on" (top 39) (.fn 2 ["ground","place"] J2),
 zG "common_divisor" (top 29) (.fn 1 ["one","other"] Dz),
 zG "fraction" (top 30) (.fn 2 ["top","bottom"] Hv),
 zG "height_on" (top 33) (.fn 3 ["one","other","place"] Cp),
 zG "ground_at" (top 40) (.fx 4 ["ground","place"] GF),
 zG "stands" (top 41) (.fn 5 ["ground","spot"] JH),
 zG "refuse_bad_tops" (top 53) (.fn 6 ["ground","beacons"] Es),
 zG "is_whole" (top 12) (.fn 1 ["value"] Ge),
 zG "is_fog" (top 23) (.fn 2 ["value"] Eo),
 zG "refuse_bad_fogs" (top 54) (.fn 3 ["fogs"] Cq),
 zG "refuse_bad_hours" (top 55) (.fn 1 ["haze","first","last","delay"] Ht),
 zG "_law_valley" (top 85) (.fn 9 ["parts"] Kh),
 zG "refuse_no_hour" (top 60) (.fx 1 ["valley","hour"] Io),
 zG "names_of" (top 57) (.fn 1 ["valley"] Vi),
 zG "pairs_of" (top 58) (.fn 2 ["valley"] GK),
 zG "spot_of" (top 59) (.fx 1 ["valley","name"] Ik),
 zG "refuse_not_standing" (top 42) (.fx 6 ["ground","spot"] Je),
 zG "numbers_between" (top 43) (.fn 1 ["ground","x","other_x"] G5),
 zG "side_of" (top 32) (.fn 1 ["one","other","spot"] Ei),
 zG "hinder" (top 44) (.fx 7 ["ground","one","other"] Ew),
 zG "square_between" (top 61) (.fn 1 ["one","other"] Ez),
 zG "hidden_always" (top 62) (.fn 8 ["valley","one","other"] Bq),
 zG "moved" (top 24) (.fn 1 ["fog","hours"] Dv),
 zG "box_at" (top 25) (.fn 2 ["fog","hour"] Cv),
 zG "margins" (top 26) (.fn 1 ["box","one","other"] BP),
 zG "meets" (top 27) (.fn 2 ["box","one","other"] Bv),
 zG "hidden" (top 63) (.fx 9 ["valley","name","other","hour"] O2),
 zG "web_at" (top 64) (.fx 10 ["valley","hour"] Jw),
 zG "_law_near" (top 86) (.fn 11 ["valley","hour","names"] Ek),
 zG "_law_pairs" (top 88) (.fn 1 ["names","near"] BL),
 zG "_law_some" (top 93) (.fn 1 ["pairs","turn","most"] Ck),
 zG "_law_without" (top 91) (.fn 10 ["parts","at"] G6),
 zG "refuse_beside" (top 69) (.fn 10 ["valley","hour","name","other"] K9),
 zG "others_than" (top 70) (.fn 2 ["valley","name","other"] Jr),
 zG "room_at_first" (top 71) (.fn 11 ["valley","hour","name","other"] EY),
 zG "points_from" (top 72) (.fn 1 ["room","start"] NQ),
 zG "take_road" (top 73) (.fn 1 ["room","found","goal"] Gf),
 zG "room_at_last" (top 74) (.fn 12 ["valley","hour","name","other"] Cj),
 zG "steps_taken" (top 75) (.fn 2 ["valley","room","one"] Kc),
 zG "roads_taken" (top 76) (.fn 3 ["valley","room","name","other"] Fo),
 zG "roads_and_keepers" (top 77) (.fn 13 ["valley","hour","name","other"] Iz),
 zG "company_without" (top 65) (.fn 10 ["valley","hour","name","barred"] Dy),
 zG "lone_keepers" (top 79) (.fn 11 ["valley","hour","name","other"] GX),
 zG "road_stands" (top 78) (.fn 11 ["valley","hour","name","other","road"] Gv),
 zG "_law_good" (top 92) (.fn 14 ["valley","fewer","hour","one","two","gone"] Ec),
 zG "law" (top 94) (.fn 15 ["script"] O8)]
def C:List (Str×Stmt×YZ):=[zG "Ground" (inClass (top 38) 0) (.cl 2 (SN "Ground" Gs)),
 zG "Valley" (inClass (top 56) 0) (.cl 7 (SN "Valley" G9))]
def G:Gm:={ g:=bs++(F++C).map fun r=>(r.1,r.2.2),r:=["OffGround","BadHour","NoBeacon"],t:=[],i:=[],f:=[("Ground","corners"),("Valley","ground"),("Valley","beacons"),("Valley","fogs"),("Valley","haze"),("Valley","first"),("Valley","last"),("Valley","delay")] }
def R:IV G [] bs F C:=⟨rfl,
 .cons (.fn (M:=[]) lN [] false (by kernel_rfl)) <|
 .cons (.fn (M:=["big"]) aZ [] false (by kernel_rfl)) <|
 .cons (.fn (M:=["seeds","k","cell","at"]) ziX [] false (by kernel_rfl)) <|
 .cons (.fn (M:=["head","count","seeds","spots","names","haze","first","fogs","seed","m","begin","box"]) zgs [] false (by kernel_rfl)) <|
 .cons (.fn (M:=["k"]) zek [] false (by kernel_rfl)) <|
 .cons (.fn (M:=[]) ϻ [] false (by kernel_rfl)) <|
 .cons (.fn (M:=[]) Ŧ [] false (by kernel_rfl)) <|
 .cons (.fn (M:=[]) lO [] false (by kernel_rfl)) <|
 .cons (.fn (M:=[]) zra [] false (by kernel_rfl)) <|
 .cons (.fn (M:=["first","last"]) zn3 [] false (by kernel_rfl)) <|
 .cons (.fn (M:=["rest"]) Ϻ [] false (by kernel_rfl)) <|
 .cons (.fn (M:=["divisor"]) jf [] false (by kernel_rfl)) <|
 .cons (.fn (M:=["run","rise","top"]) ß [] false (by kernel_rfl)) <|
 .cons (.fx (M:=["corners","k"]) γ [] false (by kernel_rfl)) <|
 .cons (.fn (M:=["place"]) fD [] false (by kernel_rfl)) <|
 .cons (.fn (M:=[]) Ï [] false (by kernel_rfl)) <|
 .cons (.fn (M:=[]) j5 [] false (by kernel_rfl)) <|
 .cons (.fn (M:=[]) bM [] false (by kernel_rfl)) <|
 .cons (.fn (M:=[]) zfH [] false (by kernel_rfl)) <|
 .cons (.fn (M:=[]) jR [] false (by kernel_rfl)) <|
 .cons (.fn (M:=["names","spots","fogs","haze","first","last","beacons"]) zir [] false (by kernel_rfl)) <|
 .cons (.fx (M:=[]) ό [] false (by kernel_rfl)) <|
 .cons (.fn (M:=[]) zkn [] false (by kernel_rfl)) <|
 .cons (.fn (M:=["names","found","k","name","other"]) zkb [] false (by kernel_rfl)) <|
 .cons (.fx (M:=["beacon"]) cB [] false (by kernel_rfl)) <|
 .cons (.fx (M:=[]) õ [] false (by kernel_rfl)) <|
 .cons (.fn (M:=["low","high"]) ø [] false (by kernel_rfl)) <|
 .cons (.fn (M:=["run","rise","over"]) zlB [] false (by kernel_rfl)) <|
 .cons (.fx (M:=["k"]) Ì [] false (by kernel_rfl)) <|
 .cons (.fn (M:=["run","climb"]) gO [] false (by kernel_rfl)) <|
 .cons (.fn (M:=["corner","square"]) Ϡ [] false (by kernel_rfl)) <|
 .cons (.fn (M:=["along","upwards"]) ü [] false (by kernel_rfl)) <|
 .cons (.fn (M:=[]) znm [] false (by kernel_rfl)) <|
 .cons (.fn (M:=["run","climb","corners","across"]) zlK [] false (by kernel_rfl)) <|
 .cons (.fn (M:=[]) Η [] false (by kernel_rfl)) <|
 .cons (.fx (M:=["one_top","other_top","found","k","fog","box"]) Ŷ [] false (by kernel_rfl)) <|
 .cons (.fx (M:=[]) jW [] false (by kernel_rfl)) <|
 .cons (.fn (M:=["near","name","one","two"]) zkg [("near",some true)] false (by kernel_rfl)) <|
 .cons (.fn (M:=["told","one"]) ziY [("near",some true)] false (by kernel_rfl)) <|
 .cons (.fn (M:=[]) fW [] false (by kernel_rfl)) <|
 .cons (.fn (M:=["names","spots","fogs","haze","first","last"]) zhH [] false (by kernel_rfl)) <|
 .cons (.fn (M:=[]) zgh [] false (by kernel_rfl)) <|
 .cons (.fn (M:=[]) zhN [] false (by kernel_rfl)) <|
 .cons (.fn (M:=["room","each","plenty","one","another"]) Ĉ [("room",none)] false (by kernel_rfl)) <|
 .cons (.fn (M:=["found","waiting","point","step","left"]) zhx [("room",none),("found",some false)] false (by kernel_rfl)) <|
 .cons (.fn (M:=["point","ahead"]) fU [("room",none),("found",some false)] false (by kernel_rfl)) <|
 .cons (.fn (M:=["room","found"]) η [("room",none),("found",some false)] false (by kernel_rfl)) <|
 .cons (.fn (M:=[]) ť [("room",none)] false (by kernel_rfl)) <|
 .cons (.fn (M:=["roads","start","road","each"]) zhU [("room",none)] false (by kernel_rfl)) <|
 .cons (.fn (M:=["room","found","keepers"]) kW [("room",none),("found",some false)] false (by kernel_rfl)) <|
 .cons (.fn (M:=["found","k","other"]) zfc [] false (by kernel_rfl)) <|
 .cons (.fn (M:=["others"]) zgH [] false (by kernel_rfl)) <|
 .cons (.fn (M:=["names"]) dH [] false (by kernel_rfl)) <|
 .cons (.fn (M:=["roads","keepers","left"]) zkk [] false (by kernel_rfl)) <|
 .cons (.fn (M:=["parts","names","valley","turn","hour","near","k","pair","others","at"]) zsG [("near",some true)] false (by kernel_rfl)) <| .nil,
 .cons (.cl (ps:=["self","corners"]) (M:=[]) bK (by kernel_rfl)) <|
 .cons (.cl (ps:=["self","ground","beacons","fogs","haze","first","last","delay"]) (M:=[]) zhT (by kernel_rfl)) <| .nil⟩
def þ:(("law":Str),top 94,YZ.fn 15 ["script"] O8)∈F:=by simp[F]
end Law
local macro_rules | `(tactic| walk_at"al")=>`(tactic| first | exact Dp.Al.nil | (refine Dp.Al.cons ?_ ?_;((try dsimp only[Dp.zG,Dp.ent]);walk_at"a1");walk_at"al"))
local macro_rules | `(tactic| walk_at"a1")=>`(tactic| first | (refine Dp.zoq rfl ?_;k_is) | (refine' Dp.dR ?a;(case a=>k_is)) | (refine' Dp.jG ?a;(case a=>k_is)) | (refine' Dp.jz ?fa ?fl ?fc ?fk;(case fa=>k_is);(case fl=>k_is);(case fc=>k_is);(case fk=>k_is)) | (refine' Dp.Ě ?a ?q2 ?l ?cc ?k ?q1 ?q3 ?q4 ?q5 ?q6 ?q7 ?q8;(case a=>k_is);(case q2=>k_is);(case l=>k_is);(case cc=>k_is);(case k=>k_is);(case q1=>k_is);(case q3=>k_is);(case q4=>k_is);(case q5=>k_is);(case q6=>k_is);(case q7=>k_is);(case q8=>k_is)) | (refine' Dp.Ĵ ?a ?b;(case a=>k_is);(case b=>kernel_rfl)) | (refine' Dp.zuD ?a ?b;(case a=>k_is);(case b=>k_is)))
open PySem PySem.W PyProof.Rows
namespace PySem.W.Fast
def tw12304287766375388904:=Prop
def tw17556708205657907767:=Prop
def tw11321722841658759741:=Prop
def tw10671592458179879660:=Prop
def tw9754739000393554674:=Prop
def tw16056132434989722919:=Prop
def tw16418414582990233263:=Prop
def tw2260308146904567189:=Prop
def tw15166080733791528135:=Prop
def tw17527757505506187939:=Prop
def tw16122691568076862716:=Prop
def tw2779020525848262006:=Prop
def tw15907264244513095820:=Prop
def tw5831511352492545778:=Prop
def tw4902493493834422488:=Prop
def tw8331602522897938760:=Prop
def tw9763000116699378085:=Prop
def tw12349902472498387246:=Prop
def tw11525649605810018040:=Prop
def tw15395947257094013508:=Prop
def tw11716047242907634718:=Prop
def tw5130478874070288907:=Prop
def tw2051679694906724749:=Prop
def tw18103027364616742558:=Prop
def tw5725904157528404049:=Prop
def tw16763343109805429569:=Prop
def tw18333468433320292967:=Prop
def tw8588454140757052996:=Prop
def tw11965735074300042481:=Prop
def tw2737059569388858479:=Prop
def tw12978359208028881842:=Prop
def tw3402452868454303857:=Prop
def tw7788807730299615003:=Prop
def tw6561616005656269512:=Prop
def tw14746372683730140878:=Prop
def tw13476698520707315635:=Prop
def tw12399724457599993826:=Prop
def tw4140489739159214145:=Prop
def tw16013554919907740429:=Prop
def tw9297869723381953575:=Prop
def tw11163316288157620597:=Prop
def tw13781158948251368221:=Prop
def tw6004134242478601846:=Prop
def tw7104607999489560145:=Prop
def tw15505302228338235231:=Prop
def tw10508502690047523936:=Prop
def tw17473117599515831231:=Prop
def tw8376786212533436138:=Prop
def tw14448678956317441164:=Prop
def tw17435773754623895480:=Prop
def tw6753515472268100172:=Prop
def tw17775818846722858266:=Prop
def tw18354849481983770939:=Prop
def tw5365970171878678403:=Prop
def tw10910491011725790328:=Prop
def tw86592698288848778:=Prop
def tw4995760952663145669:=Prop
def tw12551667402469105626:=Prop
def tw3329140332215443844:=Prop
def tw2622980445954305513:=Prop
def tw17513561649306013568:=Prop
def tw15263433816767559324:=Prop
def tw14158669785939746096:=Prop
def tw4438392875407484976:=Prop
def tw13324029887521361959:=Prop
def tw5150531778290648228:=Prop
def tw748948545604399170:=Prop
def tw14093141920130466214:=Prop
def tw6683115987537753150:=Prop
def tw6264697918044016567:=Prop
def tw3098471594279029089:=Prop
def tw6457918366335438077:=Prop
def tw13387620261304809763:=Prop
def tw3099771161347726727:=Prop
def tw6368681127470654228:=Prop
def tw11072583294639851517:=Prop
def tw17847479932777313585:=Prop
def tw10736443098897150994:=Prop
def tw2741378736737579117:=Prop
def tw16061721612901520128:=Prop
def tw13095532276531059299:=Prop
def tw4549857968042644561:=Prop
def tw4970008495115360536:=Prop
def tw9550388347151286564:=Prop
def tw16615669079650925815:=Prop
def tw8818155515382720571:=Prop
def tw9491838712658788517:=Prop
def tw15983109283330460355:=Prop
def tw9306537140188022217:=Prop
def tw18418517604359649431:=Prop
def tw7781806678419349649:=Prop
def tw3453766520178772056:=Prop
def tw7704316077335323537:=Prop
def tw13479815566942564579:=Prop
def tw11193097212251218813:=Prop
def tw6201939565262887493:=Prop
def tw1700667412517746806:=Prop
def tw12351738134202701054:=Prop
def tw119952367631915925:=Prop
def tw12387125909897101512:=Prop
def tw1366936510765017411:=Prop
def tw3250926055295555091:=Prop
def tw17367512779776538659:=Prop
def tw15033519981582676906:=Prop
def tw14580076281787613998:=Prop
def tw3812299258669921934:=Prop
def tw8734573314924057755:=Prop
def tw14880540403059726017:=Prop
def tw2649483314104974929:=Prop
def tw15819774240692789497:=Prop
def tw6674816321333386464:=Prop
def tw8720772634634849673:=Prop
def tw9744528952970692736:=Prop
def tw9769883834424721981:=Prop
def tw16141678088275448507:=Prop
def tw13887410925913366266:=Prop
def tw5655850134704575063:=Prop
def tw15703184311891128288:=Prop
def tw6192389713998969457:=Prop
def tw16850094906805205558:=Prop
def tw72734208641758800:=Prop
def tw8709825475767453818:=Prop
def tw11365152711134880775:=Prop
def tw14499852254263032921:=Prop
def tw4249442900926234274:=Prop
def tw13921248625890048253:=Prop
def tw13548674129395854259:=Prop
def tw13662865396012986876:=Prop
def tw12346817642112390848:=Prop
def tw17562712417756686780:=Prop
def tw13182925062023625063:=Prop
def tw10168733833958977596:=Prop
def tw12876253563387322868:=Prop
def tw15641622326114082497:=Prop
def tw10615157178517157174:=Prop
def tw10097477541134381315:=Prop
def tw17778384273102716474:=Prop
def tw17523383867656411580:=Prop
def tw3408117784873152201:=Prop
def tw17507785204666627003:=Prop
def tw15057255311945607017:=Prop
def tw16782942164132877610:=Prop
def tw13742341306361043490:=Prop
def tw4523706393032550296:=Prop
def tw15151674461068377398:=Prop
def tw1292167888666900459:=Prop
def tw18391554390934877861:=Prop
def tw2533352876986531346:=Prop
def tw10064044665361290451:=Prop
def tw13893618854706092276:=Prop
def tw4398186515393770761:=Prop
def tw17678688996064388673:=Prop
def tw12120948341108443148:=Prop
def tw15721901833768761321:=Prop
def tw13175039397739243361:=Prop
def tw1798288280789990518:=Prop
def tw13368927038999014143:=Prop
def tw18358181872457603408:=Prop
def tw18173619459164281349:=Prop
def tw9636251772355255840:=Prop
def tw11637009028420630146:=Prop
def tw366870117618780749:=Prop
def tw15301162792946667190:=Prop
def tw13798809449868460088:=Prop
def tw13055105312412925637:=Prop
def tw11022351394658301016:=Prop
def tw13850418145523734869:=Prop
def tw12152433782478069466:=Prop
def tw58454391024108636:=Prop
def tw3000837102984806431:=Prop
def tw14480022858627954674:=Prop
def tw2811285824032880570:=Prop
def tw3087223447958905679:=Prop
def tw2821690128999202571:=Prop
def tw8971123891200762793:=Prop
def tw4935875642385037664:=Prop
def tw9569422083964603880:=Prop
def tw17223851334643454919:=Prop
def tw17203966033127561179:=Prop
def tw10995916811975079690:=Prop
def tw5820689162690037793:=Prop
def tw6501303002780147692:=Prop
def tw10966055744489141739:=Prop
def tw710219789253788247:=Prop
def tw1385413149575976598:=Prop
def tw15189632033560729067:=Prop
def tw12648694621584851524:=Prop
def tw730188528736315068:=Prop
def tw6987283421112323939:=Prop
def tw5990477448257238221:=Prop
def tw4656614999899670780:=Prop
def tw4290196088533551779:=Prop
def tw4117526250487491701:=Prop
def tw1853930060119727709:=Prop
def tw166573924980856455:=Prop
def tw10395380244583857992:=Prop
def tw13866945038620475010:=Prop
def tw5527943087432121676:=Prop
def tw18165808773529725243:=Prop
def tw16414927164781235530:=Prop
def tw4447098773751989544:=Prop
def tw13845010616238482364:=Prop
def tw2299369077147410305:=Prop
def tw16449397393524630478:=Prop
def tw1856171344461307558:=Prop
def tw16320684999496444067:=Prop
def tw2368731588430918462:=Prop
def tw11212618649409401081:=Prop
def tw390827667125382994:=Prop
def tw13816482867986465970:=Prop
def tw7416666563888190786:=Prop
def tw1552138922364393202:=Prop
def tw6001946457642573159:=Prop
def tw9650254205869267468:=Prop
def tw4980572953173857388:=Prop
def tw17782753929936706946:=Prop
def tw7271242459374696938:=Prop
def tw15583883061227327797:=Prop
def tw9549510747223107667:=Prop
def tw8708624044713183305:=Prop
def tw17675371390415225135:=Prop
def tw770910473614575094:=Prop
def tw5346157174513318739:=Prop
def tw7946246595538898062:=Prop
def tw9365999019348483576:=Prop
def tw9419662245789286510:=Prop
def tw17387592766898354471:=Prop
def tw3227081857827625820:=Prop
def tw998724241851812082:=Prop
def tw18064640604033890013:=Prop
def tw6974006771684477637:=Prop
def tw14466124832764311605:=Prop
def tw703310182674790571:=Prop
def tw4595996826297092734:=Prop
def tw18122549641690354902:=Prop
def tw15822202776173998380:=Prop
def tw11979578559817260275:=Prop
def tw2348397751868040998:=Prop
def tw8018245241459666892:=Prop
def tw16347330831523019552:=Prop
def tw645467120494910109:=Prop
def tw13459438779471088418:=Prop
def tw5689180481072586244:=Prop
def tw7878449517716804021:=Prop
def tw5676485170055494988:=Prop
def tw3680671992164049118:=Prop
def tw14540688689377193131:=Prop
def tw13462764748694352080:=Prop
def tw1024369631573291621:=Prop
def tw5431543422962458422:=Prop
def tw14957163819180428562:=Prop
def tw10967938549025388370:=Prop
def tw3820118292086883807:=Prop
def tw3027381401575493271:=Prop
def tw18223993791992117069:=Prop
def tw923230896679608621:=Prop
def tw9365006493590789924:=Prop
def tw48633267040081587:=Prop
def tw44183113561525991:=Prop
def tw1661643443013502498:=Prop
def tw1637035952074905671:=Prop
def tw15093709786861707799:=Prop
def tw9884059811849881313:=Prop
def tw7163703913727833413:=Prop
def tw271554356276522144:=Prop
def tw18305584187763749677:=Prop
def tw16338831977339549738:=Prop
def tw6476930038513142196:=Prop
def tw5834693717973148066:=Prop
def tw3451669384354865599:=Prop
def tw1918568879269449677:=Prop
def tw13705488464230778236:=Prop
def tw5581806280748673061:=Prop
def tw310635265825490779:=Prop
def tw12871227052303685421:=Prop
def tw9969108646998453592:=Prop
def tw16718349819563707732:=Prop
def tw11485113583739903675:=Prop
def tw6546647027577419418:=Prop
def tw8495875046168587376:=Prop
def tw15544336842942964219:=Prop
def tw1674845946014534306:=Prop
def tw10861067930452738013:=Prop
def tw4297769467632637898:=Prop
def tw12741661517287841727:=Prop
def tw7171486139145308423:=Prop
def tw13552167623371305894:=Prop
def tw7830111769991070141:=Prop
def tw12063659557993967632:=Prop
def tw11281591664735638576:=Prop
def tw10354803157560647210:=Prop
def tw4620408436475520928:=Prop
def tw5801086506439467936:=Prop
def tw10744331619036627719:=Prop
def tw14511002102070447980:=Prop
def tw9737832068701716019:=Prop
def tw6176353614442130571:=Prop
def tw2555264187003659267:=Prop
def tw14621542445711711312:=Prop
def tw12315329863225706777:=Prop
def tw8652241397547597407:=Prop
def tw13698768993722107425:=Prop
def tw14594578199403419111:=Prop
def tw4217588572259870238:=Prop
def tw8461011669620302171:=Prop
def tw1755361106897513540:=Prop
def tw1744413119727843755:=Prop
def tw5250590750858113972:=Prop
def tw16249583222871494562:=Prop
def tw5840323024700205540:=Prop
def tw17278354155653450137:=Prop
def tw13687307158289289907:=Prop
def tw14593071662141594951:=Prop
def tw8962965992221801852:=Prop
def tw4156232674318884842:=Prop
def tw15024913929690873099:=Prop
def tw18412935395342501759:=Prop
def tw17453736175506181884:=Prop
def tw8011986250330342236:=Prop
def tw3060283007050497214:=Prop
def tw9657599263746278925:=Prop
def tw6592724098559015292:=Prop
def tw3369414373870469661:=Prop
def tw3660661237031271319:=Prop
def tw8065180623465816020:=Prop
def tw5946446056057881188:=Prop
def tw471101188784259810:=Prop
def tw3472671516989341647:=Prop
def tw289260332057123493:=Prop
def tw14557284145123943786:=Prop
def tw13052189329019335633:=Prop
def tw12746696660001819065:=Prop
def tw12307165221826030739:=Prop
def tw9045284556545004532:=Prop
def tw7454219800549164202:=Prop
def tw7081654213738932405:=Prop
def tw2450870441443998792:=Prop
def tw7068589602834853580:=Prop
def tw4104951185369910100:=Prop
def tw3958472490192325623:=Prop
def tw1460717806974025736:=Prop
def tw12748908628965900110:=Prop
def tw6405896105518755760:=Prop
def tw14812527659609756750:=Prop
def tw13493201457756484930:=Prop
def tw5557927621811146330:=Prop
def tw7143904397519618335:=Prop
def tw18003027548130895927:=Prop
def tw8160574234594222189:=Prop
def tw9754543881406376053:=Prop
def tw1305570739771793066:=Prop
def tw18318560543303553113:=Prop
def tw8578365784665886543:=Prop
def tw7121622667662778760:=Prop
def tw585803643184811633:=Prop
def tw5589089196799734994:=Prop
def tw5000166426149362027:=Prop
def tw2758199036633132683:=Prop
def tw17148506543679710865:=Prop
def tw1550558920065005893:=Prop
def tw14906121096024896643:=Prop
def tw14018019261892717113:=Prop
def tw13463544371801940436:=Prop
def tw12067478684696562555:=Prop
def tw891622076511479738:=Prop
def tw8831524308377869949:=Prop
def tw7634753433786790507:=Prop
def tw5905632716751791158:=Prop
def tw16795973243537265108:=Prop
def tw15935163248958678270:=Prop
def tw14317607933816536629:=Prop
def tw11726184552408367479:=Prop
def tw11217080039714886071:=Prop
def tw11102817632379880620:=Prop
def tw10350330007981489734:=Prop
def tw10238557653690821314:=Prop
def tw13831332666181501487:=Prop
end PySem.W.Fast
set_option maxRecDepth 100000 in
set_option maxHeartbeats 0 in
theorem PySem.Challenge.cw_beaconvale_k83_whole_one_beacon_fewer_holds : PySem.Challenge.rw_beaconvale_k83_whole_one_beacon_fewer.Holds := by
  w_on; o_law; k_head; (case hw => w_witness2)
  k_fill
  refine Dp.ï (l := PySem.Challenge.rw_beaconvale_k83_whole_one_beacon_fewer) 14 rfl rfl rfl ⟨rfl, by decide, by decide⟩ (fun w h Y => PySem.W.kIn_of Y) Law.R Law.þ fun w => ?_
  constructor <;> walk_at "al"
#print axioms PySem.Challenge.cw_beaconvale_k83_whole_one_beacon_fewer_holds
