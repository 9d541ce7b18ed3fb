import PyProof.Rows.All
import Wide.All
import OpenK.AllK
import Wide.FinOn
import Lean
import PyProof.EqAt
import PyProof.EqKinds
import PyProof.TupleCall
import PyProof.NeData
import PyProof.P3Eq
import PyProof.StrLawsIn
import PyProof.StrLawsJoin
import PyProof.StrBlockL
import PyProof.Rows.StrSplitCount
import KE.KMinKey
import KE.KLam
import KE.KDictList
import PyProof.DictItems
import PyProof.FactsAll.dict_items
import PyProof.FactsAll.dict_itemiterator
import KE.KPairComp
import PySem.Challenge.RW_beaconvale_k80_whole_no_fewer_keepers
set_option Elab.async false
set_option linter.all false
set_option maxRecDepth 100000
set_option maxHeartbeats 4000000
set_option Elab.async false
set_option linter.all false
set_option maxRecDepth 100000
def zyG (h:True:=by rfl):True:=h
def zB:Lean.Syntax:=zyG._auto_1
def Ď (h:True:=by decide):True:=h
def zU:Lean.Syntax:=Ď._auto_1
def zy1 (h:True:=by with_unfolding_all rfl):True:=h
def Vr:Lean.Syntax:=zy1._auto_1
def cH (h:True:=by first|exact .inl rfl|exact .inr rfl|assumption):True:=h
def Ro:Lean.Syntax:=cH._auto_1
def ś (h:True:=by exact V1 rfl):True:=h
def QJ:Lean.Syntax:=ś._auto_1
def jX (h:True:=by intro _;rfl):True:=h
def Px:Lean.Syntax:=jX._auto_1
def zyP (h:True:=by exact Jw rfl):True:=h
def PK:Lean.Syntax:=zyP._auto_1
def ω (h:True:=by exact TF rfl):True:=h
def K4:Lean.Syntax:=ω._auto_1
def jz (h:True:=by decide +kernel):True:=h
def Kf:Lean.Syntax:=jz._auto_1
def zze (h:True:=by first|exact nobehind _ (by decide) (by decide)|rfl):True:=h
def yD:Lean.Syntax:=zze._auto_1
def zxz (h:True:=by intro _ _;rfl):True:=h
def kY:Lean.Syntax:=zxz._auto_1
def ß (h:True:=by first|exact Or.inl rfl|exact Or.inr rfl):True:=h
def mH:Lean.Syntax:=ß._auto_1
def ϥ (h:True:=by first|exact PassesOwn.never|exact PassesOwn.leaving):True:=h
def wk:Lean.Syntax:=ϥ._auto_1
def zw5 (h:True:=by exact Mp rfl rfl):True:=h
def xT:Lean.Syntax:=zw5._auto_1
def qa:=@List.length_map
def qb:=@List.getElem?_eq_getElem
def qc:=@PySem.Heap.get?_push_of_some
def qd:=@List.mem_of_getElem?
def qe:=@List.getElem?_append_right
def qf:=@List.length_append
def qg:=@List.getElem?_append_left
def qh:=@Nat.le_refl
def qi:=@List.getElem?_map
def qj:=@List.mem_cons_of_mem
def qk:=@List.append_assoc
def ql:=@List.size_toArray
def qo:=@PySem.Heap.get?_push_size
def qq:=@Bool.and_eq_true
def qr:=@Bool.false_ne_true
def qu:=@List.lookup_cons
def qv:=@List.mem_cons
def qw:=@List.getElem?_eq_none
def qA:=@PySem.Heap.lt_size
def qB:=@List.map_append
def qC:=@List.mem_map
def qD:=@Option.some.inj
def qE:=@List.mem_append
def qF:=@Nat.lt_of_lt_of_le
def qG:=@Nat.le_of_ble_eq_true
def qH:=@Nat.zero_le
def qI:=@List.getD_eq_getElem?_getD
def qJ:=@List.length_replicate
def qK:=@List.mem_iff_getElem
def qL:=@List.mem_append_right
def qM:=@List.length_singleton
def qN:=@List.not_mem_nil
def qO:=@List.mem_cons_self
def qP:=@List.getElem?_set_ne
def qQ:=@List.map_cons
def qR:=@List.mem_filter
def qS:=@List.mem_iff_getElem?
def qT:=@List.mem_singleton
def qU:=@List.getElem?_set_self
def qV:=@Option.map_eq_some_iff
def qW:=@Nat.le_trans
def qX:=@List.length_cons
def qY:=@List.append_nil
def qZ:=@Nat.ne_of_lt
def Ud:=@List.getElem?_eq_some_iff
def Yv:=@Nat.lt_or_ge
def V3:=@List.mem_append_left
def Ve:=@List.length_filter_le
def TX:=@List.getElem?_cons_succ
def Xb:=@List.length_set
def R5:=@List.pairwise_iff_getElem
def Yk:=@Nat.sub_self
def Vh:=@Array.length_toList
def Yg:=@List.map_map
def Xx:=@Nat.lt_irrefl
def Xz:=@List.all_cons
def VF:=@List.nodup_append
def V7:=@List.length_take
def WQ:=@PySem.Heap.size_push
def Wu:=@Bool.false_and
def TY:=@Bool.false_eq_true
def Uy:=@List.mem_filterMap
def VB:=@List.nodup_cons
def X3:=@Prod.mk.inj
def Vm:=@List.all_eq_true
def Vb:=@List.take_length
def U3:=@Nat.lt_of_succ_lt
def Uq:=@List.length_range
def V5:=@List.mem_range
def RD:=@List.set_append_right
def Wj:=@Nat.ne_of_gt
def Wo:=@Int.mul_comm
def Ut:=@Bool.eq_iff_iff
def Um:=@List.filter_map
def Sx:=@List.getElem_inj
def Rj:=@List.filter_append
def Rz:=@Int.emod_lt_of_pos
def O6:=@List.mem_of_mem_take
def Nj:=@Option.isSome_iff_exists
def QL:=@Int.toNat_natCast
def Rx:=@List.filter_congr
def Oc:=@List.filterMap_cons
def Nf:=@List.getElem?_replicate
def Rc:=@Nat.le_of_not_lt
def RT:=@Bool.and_false
def Vf:=@Int.neg_neg
def Ru:=@Int.emod_nonneg
def Qg:=@Option.isSome_map
def Pb:=@List.prefix_refl
def T8:=@Int.mul_one
def Kq:=@List.getElem?_take_of_lt
def Ra:=@Nat.add_assoc
def QH:=@Bool.not_true
def Nk:=@List.lookup_append
def O1:=@List.length_nil
def Ig:=@Nat.add_sub_cancel_left
def Nq:=@List.prefix_append
def Hu:=@List.filter_cons_of_pos
def Jo:=@List.filter_cons_of_neg
def N5:=@Bool.or_eq_true
def Im:=@List.length_pos_of_mem
def Sq:=@Int.le_refl
def Qv:=@Int.le_of_lt
def Rv:=@Int.mul_zero
def Lg:=@Nat.lt_succ_self
def KJ:=@Nat.succ_le_succ
def Nm:=@Nat.le_add_right
def Iz:=@Int.natAbs_of_nonneg
def HY:=@List.set_append_left
def O5:=@Int.lt_irrefl
def Ng:=@List.of_mem_zip
def Hz:=@List.getElem?_range
def Lk:=@List.range_succ
def Oz:=@List.map_nil
def Hy:=@List.set_cons_succ
def Mu:=@Int.natAbs_neg
def KZ:=@List.forIn_nil
def El:=@List.mem_or_eq_of_mem_set
def Lw:=@Nat.mul_le_mul
def Am:=@List.length_erase_of_mem
def Jx:=@List.ext_getElem?
def Tz:=@Prod.ext
def Ku:=@List.any_cons
def Oo:=@Int.sub_mul
def Ol:=@Int.mul_pos
def M6:=@List.cons.inj
def Cm:=@List.length_eq_zero_iff
def qbv:=@List.length_drop
def HS:=@List.cons_append
def Kg:=@List.getElem_map
def Eu:=@List.take_of_length_le
def Lz:=@Nat.le_of_lt
def Dk:=@Array.getElem?_toList
def Kc:=@List.forIn_cons
def GP:=@List.getElem?_toArray
def Ld:=@List.all_map
def M7:=@Nat.zero_add
abbrev Ĳ:=PySem.W.Frag
abbrev ĳ:=PySem.Shared
abbrev ĸ:=PySem.Value
namespace L2
open PySem PySem.Spec PyProof.Rows
abbrev Key:=Sum Int Str
def Oi:Key->ĸ->Bool
 |.inl k,v=>Value.isInt k v
 |.inr x,v=>Value.isStrOf x v
def zyW (w:World):Key->Int
 |.inl k=>hashInt k
 |.inr x=>hashStr w x
theorem Us:∀ {k:Key} {v:ĸ},Oi k v=true->(∃ i t,k=Sum.inl i/\v=Value.int i t)\/(∃ x t,k=Sum.inr x/\v=Value.str x t)
 |.inl i,v,h=>by obtain⟨t,e⟩:=Value.isInt_shape (k:=i) (v:=v) h;exact .inl ⟨i,t,rfl,e⟩
 |.inr x,v,h=>by obtain⟨t,e⟩:=Value.isStrOf_shape (x:=x) (v:=v) h;exact .inr ⟨x,t,rfl,e⟩
def zmZ (i:Int)(t:Tok):Oi (.inl i) (.int i t)=true:=by simp[Oi,Value.isInt]
def Ą (x:Str)(t:Tok):Oi (.inr x) (.str x t)=true:=by simp[Oi,Value.isStrOf]
def ŵ (a b:Int):decide ((Sum.inl a:Key)=Sum.inl b)=(a==b):=by
 by_cases e:a=b
 ·subst e;simp
 ·have h:¬ (Sum.inl a:Key)=Sum.inl b:=fun q=>e (Sum.inl.inj q)
  rw[decide_eq_false h];exact(beq_eq_false_iff_ne.mpr e).symm
def zvN (a b:Str):decide ((Sum.inr a:Key)=Sum.inr b)=decide (a=b):=by
 by_cases e:a=b
 ·subst e;simp
 ·have h:¬ (Sum.inr a:Key)=Sum.inr b:=fun q=>e (Sum.inr.inj q)
  rw[decide_eq_false h,decide_eq_false e]
def jV (a:Int)(b:Str):decide ((Sum.inl a:Key)=Sum.inr b)=false:=decide_eq_false (fun q=>nomatch q)
def zvq (a:Str)(b:Int):decide ((Sum.inr a:Key)=Sum.inl b)=false:=decide_eq_false (fun q=>nomatch q)
def zN (prog:Program)(w:World):PySem.KeyKind prog w Key where
  is:=Oi
  hash:=zyW w
  inj:=fun v a b ha hb=>by
    rcases Us ha with⟨i,t,rfl,rfl⟩|⟨x,t,rfl,rfl⟩
    . rcases Us hb with⟨j,u,rfl,e⟩|⟨y,u,rfl,e⟩
      . injection e with e1 _;rw[e1]
      . exact nomatch e
    . rcases Us hb with⟨j,u,rfl,e⟩|⟨y,u,rfl,e⟩
      . exact nomatch e
      . injection e with e1 _;rw[e1]
  byValue:=fun k v h=>by rcases Us h with⟨i,t,rfl,rfl⟩|⟨x,t,rfl,rfl⟩<;>rfl
  pyHash:=fun hv h=>by
    rcases Us hv with⟨i,t,rfl,rfl⟩|⟨x,t,rfl,rfl⟩
    . exact wpAny_pyHash_int h
    . exact wpAny_pyHash_str h
  eqBool:=fun hu hv h=>by
    rcases Us hu with⟨i,t,rfl,rfl⟩|⟨x,t,rfl,rfl⟩
    . rcases Us hv with⟨j,u,rfl,rfl⟩|⟨y,u,rfl,rfl⟩
      . rw[ŵ]at h;exact wpAny_eqBool_int h
      . rw[jV]at h;exact SeqAt.EqAt.int_str i t y u _ _ _ _ h
    . rcases Us hv with⟨j,u,rfl,rfl⟩|⟨y,u,rfl,rfl⟩
      . rw[zvq]at h;exact SeqAt.EqAt.str_int x t j u _ _ _ _ h
      . rw[zvN]at h;exact wpAny_eqBool_str h
  «strs»:=fun k x t v h=>by
    rcases Us h with⟨i,u,rfl,e⟩|⟨y,u,rfl,e⟩
    . exact nomatch e
    . injection e with e1 _;subst e1;cases v<;>rfl
def zj1 (prog:Program)(w:World)(i:Int)(t:Tok):(zN prog w).is (.inl i) (.int i t)=true:=zmZ i t
def aQ (prog:Program)(w:World)(x:Str)(t:Tok):(zN prog w).is (.inr x) (.str x t)=true:=Ą x t
end L2
namespace My
open PySem PySem.Spec PyProof.Rows L2
section
variable {prog:Program}{w:World}{K:Type}[DecidableEq K](hk:HeapKind prog w K)
inductive Xj (h:Heap):List K->List Value->Prop
 |nil:Xj h [] []
 |cons {k:K} {b:Addr} {ks:List K} {vs:List Value}:hk.is h k b->Xj h ks vs->Xj h (k::ks) (.ref b::vs)
def Xn (h:Heap)(ks:List K)(a:Addr):Prop:=∃ o items n,h.get? a=some o/\o.cls=.type "tuple"/\o.data=.seq items n/\Xj hk h ks items.toList
variable {hk}
theorem Xj.inj (hx:Xj hk h x vs)(hy:Xj hk h y vs):x=y:=by
 induction hx generalizing y with
 |nil=>cases hy;rfl
 |cons h1 _ ih =>
  cases hy with
  |cons h2 t2=>rw[hk.inj h1 h2,ih t2]
theorem Xj.keeps {d:Addr}{o:Obj}{es ep}(x:Xj hk h ks vs)(ho:h.get? d=some o)(hd:o.data=.dict es ep)(hs:Heap.SameBut d h h'):Xj hk h' ks vs:=by
 induction x with
 |nil=>exact .nil
 |cons h1 _ ih=>exact .cons (hk.keeps h1 ho hd hs) ih
def Xn.typeIs {s:ĳ}(x:Xn hk s.heap ks a):s.TypeIs (.ref a) "tuple":=by obtain⟨o,_,_,ho,hc,_⟩:=x;exact⟨o,ho,hc⟩
theorem Xn.inj (hx:Xn hk h x a)(hy:Xn hk h y a):x=y:=by obtain⟨o,items,n,ho,_,hd,hi⟩:=hx;obtain⟨o',items',n',ho',_,hd',hi'⟩:=hy;obtain rfl:o=o':=qD (ho.symm.trans ho');rw[hd]at hd';injection hd' with h1 _;subst h1;exact hi.inj hi'
theorem Xn.keeps {d:Addr}{o:Obj}{es ep}(x:Xn hk h ks a)(ho:h.get? d=some o)(hd:o.data=.dict es ep)(hs:Heap.SameBut d h h'):Xn hk h' ks a:=by
 obtain⟨o',items,n,ho',hc,hd',hi⟩:=x
 have hne:a≠d:=by rintro rfl;obtain rfl:o'=o:=qD (ho'.symm.trans ho);rw[hd]at hd';exact nomatch hd'
 exact⟨o',items,n,(hs.2 a hne).trans ho',hc,hd',hi.keeps ho hd hs⟩
def Gn (hk:HeapKind prog w K)(ks:List K):Int:=reduceHash (Builtin.Tuple.tupleHashOf (ks.map hk.hash))
def Ey (hk:HeapKind prog w K)(ks:List K):Nat:=(ks.map hk.draws).sum+1
variable {A:Around}{E:ĸ->ĳ->Prop}{s:ĳ}
def gA {Q:Int->ĳ->Prop}(hu:A.units<cLine)(hr:hk.room A.in1)(hi:Xn hk s.heap ks a)(h:Q (Gn hk ks) { s with toks:=s.toks+Ey hk ks }) :
  wpAny (model prog w) A (pyHash (.ref a)) Q E s:=by
 have hT:=hi.typeIs;obtain⟨o,items,n,ho,_,hd,hi⟩:=hi;unfold pyHash
 first|unfold pyHashByItsType|skip
 first|refine wpAny_bind (wpAny_cRoomFor_or (.inr hu) ?_)|skip
 refine wpAny_bind (wpAny_specialOf hT F.slot_tuple_hash.lookup ?_);show wpAny _ _ (if(some (Value.builtin "tuple.__hash__")==some Value.none)=true then _ else _) Q E s;rw[if_neg (by rw[beq_builtin_none];exact qr)];refine wpAny_bind (wpAny_specialOf hT F.slot_tuple_hash.lookup ?_);show wpAny _ _ (callSpecialIfBoundUnlessNone? (.ref a) "__hash__" _ >>= _) Q E s;refine wpAny_bind (wpAny_callSpecialIfBoundUnlessNone?_slot hT F.slot_tuple_hash (wpAny_call_entry F.slot_tuple_hash hT F.entry_tuple_hash ?_ (F.args_tuple_hash_1 _)));show wpAny _ _ (Builtin.Tuple.tupleItemsOf (.ref a) >>= _) _ _ s;refine wpAny_bind (wpAny_tupleItemsOf ho hd ?_);refine wpAny_bind ?_;rw[<- Array.forIn_toList]
 refine wpAny_forIn_list _
  (fun rest (b:Array Int) s'=>∃ done left,ks=done++left/\Xj hk s.heap left rest/\b.toList=done.map hk.hash/\s'={ s with toks:=s.toks+(done.map hk.draws).sum })
  _ ?_ ?_ _ _ ⟨[],ks,rfl,hi,rfl,rfl⟩
 ·rintro x rest b s' ⟨done,left,rfl,hl,hb,rfl⟩;cases hl with
  |@cons k c ks' _ h1 hl' =>
   refine wpAny_bind (hk.pyHash hr (s:={ s with toks:=s.toks+(done.map hk.draws).sum }) h1 ?_)
   first
    |exact wpAny_pure ⟨done++[k],ks',by simp,hl',by simp[hb],by simp[Ra]⟩
    |exact wpAny_bind (wpAny_pure (wpAny_pure ⟨done++[k],ks',by simp,hl',by simp[hb],by simp[Ra]⟩))
 ·rintro b s' ⟨done,left,rfl,hl,hb,rfl⟩;cases hl;rw[qY]at h;show wpAny _ _ (retInt (Builtin.Tuple.tupleHashOf b.toList)) _ _ _;rw[hb];refine wpAny_ret_mkInt ?_;show wpAny _ _ (if(decide (-(2:Int) ^ 63<=Builtin.Tuple.tupleHashOf (done.map hk.hash))&&decide (Builtin.Tuple.tupleHashOf (done.map hk.hash)<2 ^ 63))=true then _ else _) Q E _;unfold Gn reduceHash Ey at h;by_cases hr:(decide (-(2:Int) ^ 63<=Builtin.Tuple.tupleHashOf (done.map hk.hash))&&decide (Builtin.Tuple.tupleHashOf (done.map hk.hash)<2 ^ 63))=true
  ·rw[if_pos hr];rw[if_pos hr]at h;exact wpAny_pure (by simpa [Ra]using h)
  ·rw[if_neg hr];rw[if_neg hr]at h;exact wpAny_bind (wpAny_rule (wpAny_pure (by simpa [Ra]using h)))
def zmY {P:Fin->ĳ->Prop}(hr:hk.room A)(hx:Xn hk s.heap x a)(hy:Xn hk s.heap y b)(h:P (.done (.ret (.bool (decide (x=y))))) s) :
  wpAny (model prog w) A (Builtin.«tuple.__eq__» ⟨[.ref a,.ref b],[]⟩) P E s:=by
 have hTb:=hy.typeIs;obtain⟨oa,xs,na,hoa,_,hda,hia⟩:=hx;obtain⟨ob,ys,nb,hob,_,hdb,hib⟩:=hy;show wpAny _ _ (isInstance (.ref b) (.type "tuple") >>= _) _ _ s;refine wpAny_bind (wpAny_isInstance hTb isSubtype_tuple_tuple ?_);simp only[QH,TY,if_false];refine wpAny_bind (wpAny_tupleItemsOf hoa hda ?_);refine wpAny_bind (wpAny_tupleItemsOf hob hdb ?_);refine wpAny_bind ?_
 refine wpAny_forIn_list _
  (fun rest r s'=>r.1=none/\s'=s/\∃ x' y' xs' ys',rest=List.zip xs' ys'/\Xj hk s.heap x' xs'/\Xj hk s.heap y' ys'/\decide (x'=y')=decide (x=y)/\(xs'.length==ys'.length)=(xs.size==ys.size))
  _ ?_ ?_ _ _ ⟨rfl,rfl,x,y,xs.toList,ys.toList,rfl,hia,hib,rfl,by simp⟩
 ·rintro⟨u,v⟩ rest r s' ⟨hr',rfl,x',y',xs',ys',hz,hx',hy',hdec,hlen⟩;cases hx' with
  |nil=>simp at hz
  |@cons k1 u' x'' xs'' h1 hx'' =>
   cases hy' with
   |nil=>simp at hz
   |@cons k2 v' y'' ys'' h2 hy'' =>
    simp only[List.zip_cons_cons,List.cons.injEq,Prod.mk.injEq]at hz;obtain⟨⟨rfl,rfl⟩,rfl⟩:=hz;refine wpAny_bind (hk.eqBool hr (x:=k1) (y:=k2) h1 h2 ?_);by_cases hk:k1=k2
    ·subst hk;rw[decide_eq_true rfl];simp only[QH,TY,if_false];refine wpAny_pure ⟨rfl,rfl,x'',y'',xs'',ys'',rfl,hx'',hy'',?_,by simpa using hlen⟩;rw[<- hdec];by_cases hxy:x''=y''
     ·simp[hxy]
     ·simp[hxy]
    ·rw[decide_eq_false hk];simp only[Bool.not_false,if_true];have hf:decide (x=y)=false:=by rw[<- hdec];simp[hk]
     rw[hf]at h;exact wpAny_bind (wpAny_pure (wpAny_pure (wpAny_pure h)))
 ·rintro⟨r1,r2⟩ s' ⟨hr',rfl,x',y',xs',ys',hz,hx',hy',hdec,hlen⟩;simp only at hr';subst hr';refine wpAny_pure ?_
  have hfin:(xs.size==ys.size)=decide (x=y):=by
   rw[<- hdec,<- hlen];cases hx' with
   |nil =>
    cases hy' with
    |nil=>simp
    |cons _ _=>simp
   |cons _ _ =>
    cases hy' with
    |nil=>simp
    |cons _ _=>simp at hz
  show P (.done (.ret (.bool (xs.size==ys.size)))) s';rw[hfin];exact h
def ϗ {Q:Bool->ĳ->Prop}(hu:A.units<cLine)(hr:hk.room A.in1)(hx:Xn hk s.heap x a)(hy:Xn hk s.heap y b)(h:Q (decide (x=y)) s) :
  wpAny (model prog w) A (eqBool (.ref a) (.ref b)) Q E s:=by
 unfold eqBool
 try with_reducible refine wpAny_holding ?_
 show wpAny _ _ (if(Value.ref a==Value.ref b)=true then _ else _) Q E s;by_cases hab:(Value.ref a==Value.ref b)=true
 ·rw[if_pos hab];have e:a=b:=by have:=eq_of_beq hab;injection this
  subst e;obtain rfl:=hx.inj hy;exact wpAny_bind (wpAny_rule (wpAny_pure (by simpa using h)))
 ·rw[if_neg hab]
  exact wpAny_bind (wpAny_richCompare_same_room (op:=.Eq) hx.typeIs hy.typeIs F.slot_tuple_eq
   (wpAny_call_entry F.slot_tuple_eq hx.typeIs F.entry_tuple_eq (zmY hr hx hy ⟨_,rfl,(fun e=>nomatch e),wpAny_truthy_bool h⟩) (F.args_tuple_eq_2 _ _)) hu)
def zr5 {Q:Bool->ĳ->Prop}(hq:∀ {k:K} {b:Addr},hk.is s.heap k b->∀ (Q:Bool->ĳ->Prop),Q true s->wpAny (model prog w) A (eqIsQuiet 7 (.ref b)) Q E s)(hi:Xn hk s.heap ks a)(h:Q true s):wpAny (model prog w) A (eqIsQuiet 8 (.ref a)) Q E s:=by
 have hT:=hi.typeIs;obtain⟨o,items,n,ho,_,hd,hi⟩:=hi;unfold eqIsQuiet;refine wpAny_bind (wpAny_specialOf hT F.slot_tuple_eq.lookup ?_);show wpAny _ _ (isInstance (.ref a) (.type "tuple") >>= _) _ _ s;refine wpAny_bind (wpAny_isInstance hT isSubtype_tuple_tuple ?_);simp only[QH,TY,if_false];refine wpAny_bind (wpAny_seqItems ho hd ?_);refine wpAny_bind ?_;show wpAny _ _ (forIn items _ _) _ _ s;rw[<- Array.forIn_toList];refine wpAny_forIn_list _ (fun rest r s'=>r.1=none/\s'=s/\∃ left,Xj hk s.heap left rest) _ ?_ ?_ _ _ ⟨rfl,rfl,ks,hi⟩
 ·rintro v rest r s' ⟨hr,rfl,left,hall⟩;cases hall with
  |@cons k c ks' _ h1 hl' =>refine wpAny_bind (hq h1 _ ?_);simp only[QH,TY,if_false];exact wpAny_pure ⟨rfl,rfl,ks',hl'⟩
 ·rintro⟨r1,r2⟩ s' ⟨hr,rfl,_⟩;simp only at hr;subst hr;exact wpAny_pure h
end
section
variable {prog:Program}{w:World}{K:Type}[DecidableEq K]{knd:KeyKind prog w K}{A:Around}{E:ĸ->ĳ->Prop}{s:ĳ}
def zqC (m:Nat){Q:Bool->ĳ->Prop}(hk:IsTupleKey knd s.heap ks a)(h:Q true s):wpAny (model prog w) A (eqIsQuiet (m+1) (.ref a)) Q E s:=by
 have hT:=hk.typeIs;obtain⟨o,items,n,ho,_,hd,hi⟩:=hk;unfold eqIsQuiet;refine wpAny_bind (wpAny_specialOf hT F.slot_tuple_eq.lookup ?_);show wpAny _ _ (isInstance (.ref a) (.type "tuple") >>= _) _ _ s;refine wpAny_bind (wpAny_isInstance hT isSubtype_tuple_tuple ?_);simp only[QH,TY,if_false];refine wpAny_bind (wpAny_seqItems ho hd ?_);refine wpAny_bind ?_;show wpAny _ _ (forIn items _ _) _ _ s;rw[<- Array.forIn_toList];refine wpAny_forIn_list _ (fun rest r s'=>r.1=none/\s'=s/\∀ v∈rest,carriedByValue v=true) _ ?_ ?_ _ _ ⟨rfl,rfl,hi.byValue⟩
 ·rintro v rest r s' ⟨hr,rfl,hall⟩;rw[eqIsQuiet_byValue _ (hall v qO)];refine wpAny_bind (wpAny_pure ?_);simp only[QH,TY,if_false];exact wpAny_pure ⟨rfl,rfl,fun u hu'=>hall u (qj _ hu')⟩
 ·rintro⟨r1,r2⟩ s' ⟨hr,rfl,_⟩;simp only at hr;subst hr;exact wpAny_pure h
def U4 (knd:KeyKind prog w K):HeapKind prog w (List (List K)) where
 is:=Xn (tupleKind knd)
 hash:=Gn (tupleKind knd)
 draws:=Ey (tupleKind knd)
 room:=fun A=>A.units+1<cLine
 inj:=fun hx hy=>hx.inj hy
 keeps:=fun x ho hd hs=>x.keeps ho hd hs
 pyHash:=fun hu hk h=>gA (U3 hu) hu hk h
 eqBool:=fun hu hx hy h=>ϗ (U3 hu) hu hx hy h
 quiet:=fun hk h=>zr5 (fun hb _ q=>zqC 6 hb q) hk h
end
end My
namespace L2
open PySem PySem.Spec PyProof.Rows
inductive V where
 |non|bl (b:Bool)|int (i:Int)|str (x:Str)|byt (b:Array UInt8)|flt (b:UInt64)|ref (a:Addr)|ty (n:String)
 deriving DecidableEq
def RelV:V->ĸ->Prop
 |.non,u=>u=Value.none
 |.bl b,u=>u=Value.bool b
 |.int i,u=>∃ t,u=Value.int i t
 |.str x,u=>∃ t,u=Value.str x t
 |.byt b,u=>∃ t,u=Value.bytes b t
 |.flt b,u=>∃ t,u=Value.float b t
 |.ref a,u=>u=Value.ref a
 |.ty n,u=>u=Value.type n
abbrev Vals:List V->List ĸ->Prop:=Paired RelV
theorem Vals.length (r:Vals xs us):xs.length=us.length:=Paired.length r
theorem Vals.get:∀ {xs:List V} {us:List ĸ} {i:Nat} {x:V},Vals xs us->xs[i]?=some x->∃ u,us[i]?=some u/\RelV x u
 |_,_,_,_,.nil,e=>by simp at e
 |_,_,0,_,.cons r _,e=>by simp at e;subst e;exact⟨_,rfl,r⟩
 |_,_,i+1,x,.cons _ t,e=>by obtain⟨u,h1,h2⟩:=Vals.get (i:=i) (x:=x) t (by simpa using e);exact⟨u,by simpa using h1,h2⟩
theorem Vals.set (r:RelV x u):∀ {xs:List V} {us:List ĸ} (i:Nat),Vals xs us->Vals (xs.set i x) (us.set i u)
 |_,_,_,.nil=>.nil
 |_,_,0,.cons _ t=>.cons r t
 |_,_,i+1,.cons q t=>.cons q (Vals.set r i t)
theorem Vals.append:∀ {xs ys:List V} {us ws:List ĸ},Vals xs us->Vals ys ws->Vals (xs++ys) (us++ws)
 |_,_,_,_,.nil,s=>s
 |_,_,_,_,.cons r t,s=>.cons r (Vals.append t s)
theorem Vals.take:∀ {xs:List V} {us:List ĸ} (n:Nat),Vals xs us->Vals (xs.take n) (us.take n)
 |_,_,0,_=>.nil
 |_,_,_+1,.nil=>.nil
 |_,_,n+1,.cons r t=>.cons r (Vals.take n t)
theorem Vals.drop:∀ {xs:List V} {us:List ĸ} (n:Nat),Vals xs us->Vals (xs.drop n) (us.drop n)
 |_,_,0,r=>r
 |_,_,_+1,.nil=>.nil
 |_,_,n+1,.cons _ t=>Vals.drop n t
def Yc:Option V->Option ĸ->Prop
 |some v,some u=>RelV v u
 |none,none=>True
 |_,_=>False
def KV {κ:Type}:List (κ×V)->List (κ×ĸ)->Prop:=Paired fun (p:κ×V) (q:κ×ĸ)=>p.1=q.1/\RelV p.2 q.2
def kV:Key->V
 |.inl i=>.int i
 |.inr x=>.str x
inductive HO where
 |lst (xs:List V)
 |tup (xs:List V)
 |dK (Z8:List (Key×V))|dT (Z8:List (List Key×V))
 |dN (Z8:List (List (List Key)×V)) (ep:Nat)
 |set (S:Int->Bool) (n:Nat)
 |ins (C dx:Addr) (fs:List (Str×V))
 |own (x:Addr)
 |xd (fs:List (Str×V))
 |met (f x:Addr)
 |rng (lo hi:Int)
 |frz (o:Obj) (u:HO)
 |tbl (ps:Array Value)
 |ext (φ:Heap->Prop)
abbrev Hp:=Addr->Option HO
def upd (H:Hp)(a:Addr)(o:HO):Hp:=fun b=>if b=a then some o else H b
def zL {H:Hp}{a:Addr}{o:HO}:upd H a o a=some o:=by unfold upd;rw[if_pos rfl]
def zA {H:Hp}{a b:Addr}{o:HO}(h:b≠a):upd H a o b=H b:=by unfold upd;rw[if_neg h]
def VD {H:Hp}{o u:HO}(h:H a=some o)(h':H b=some u)(d:o≠u):a≠b:=by intro e;subst e;rw[h]at h';exact d (qD h')
def Ul {H:Hp}{o:HO}(h:H a=some o)(h':H b=none):a≠b:=by intro e;subst e;rw[h]at h';cases h'
def WL (H:Hp)(b:Addr)(k:List (List Key)):Prop:=∃ bs:List Addr,H b=some (.tup (bs.map V.ref))/\Paired (fun (ks:List Key) (c:Addr)=>H c=some (.tup (ks.map kV))) k bs
section
variable (P:Program)(w:World)
def zX (H:Hp)(h:Heap)(a:Addr):HO->Prop
 | .lst xs=>xs.length<=sizeLine/\∃ (its:List ĸ) (n:Nat),Vals xs its/\h.get? a=some { cls:=.type "list",data:=.seq its.toArray n }
 |.tup xs=>xs.length<=sizeLine/\∃ its:List ĸ,Vals xs its/\IsTup h a its.toArray
 |.dK Z8=>Z8.length<=sizeLine/\(a==sysModules)=false/\∃ vs,KV Z8 vs/\h.DictOf (zN P w) a vs
 |.dT Z8=>Z8.length<=sizeLine/\(a==sysModules)=false/\∃ xs:List (List Key×Addr×ĸ),
   Paired (fun (p:List Key×V) (q:List Key×Addr×ĸ)=>p.1=q.1/\H q.2.1=some (.tup (p.1.map kV))/\RelV p.2 q.2.2) Z8 xs /\
   ∃ o es ep,h.get? a=some o/\o.ExactDict/\o.data=.dict es ep/\es.toList=xs.map (entryOfKey (tupleKind (zN P w)))/\(xs.map (·.1)).Nodup
 |.dN Z8 ep=>Z8.length<=sizeLine/\(a==sysModules)=false/\∃ xs:List (List (List Key)×Addr×ĸ),
   Paired (fun (p:List (List Key)×V) (q:List (List Key)×Addr×ĸ)=>p.1=q.1/\WL H q.2.1 p.1/\RelV p.2 q.2.2) Z8 xs /\
   ∃ o es,h.get? a=some o/\o.ExactDict/\o.data=.dict es ep/\es.toList=xs.map (entryOfKey (My.U4 (zN P w)))/\(xs.map (·.1)).Nodup
 |.set S n=>h.SetOf (intKind P w) a S n
 |.ins C dx fs=>H dx=some (.own a)/\fs.length<=1000/\dx≠a/\h.get? a=some (PySem.W.instObj C dx) /\
   ∃ mA,h.Ns1 dx mA/\(∀ f,Yc (fs.lookup f) (mA f))/\PySem.Within mA (fs.map (·.1))
 |.own _=>∃ o,h.get? a=some o
 |.xd fs=>∃ mA,h.Ns1 a mA/\∀ f,Yc (fs.lookup f) (mA f)
 | .rng lo hi=>∃ t u v,h.get? a=some { cls:=.type "range",data:=.fields #[.int lo t,.int hi u,.int 1 v] }
 |.frz o u=>h.get? a=some o/\zX H h a u
 |.tbl ps=>h.get? a=some { cls:=.none,data:=.fields ps }
 |.met f x=>h.get? a=some (PySem.W.methodObj (.ref f) (.ref x))
 |.ext φ=>φ h/\(∃ o,h.get? a=some o)/\∀ h1 h2:Heap,φ h1->(∀ o,h1.get? a=some o->h2.get? a=some o)->φ h2
def ZG (H:Hp)(h:Heap):Prop:=∀ a o,H a=some o->zX P w H h a o
end
section
variable {P:Program}{w:World}{H H':Hp}{h h':Heap}{a:Addr}{o:HO}
theorem zX.lt (x:zX P w H h a o):a<h.objs.size:=by
 cases o with
 |lst xs=>obtain⟨_,_,_,_,e⟩:=x;exact qA e
 |tup xs=>obtain⟨_,_,_,p⟩:=x;exact p.lt
 |dK Z8=>obtain⟨_,_,_,_,o,_,_,e,_⟩:=x;exact qA e
 |dT Z8=>obtain⟨_,_,_,_,o,_,_,e,_⟩:=x;exact qA e
 |dN Z8 ep=>obtain⟨_,_,_,_,o,_,e,_⟩:=x;exact qA e
 |set S n=>obtain⟨o,_,_,_,e,_⟩:=x;exact qA e
 |ins C dx fs=>obtain⟨_,_,_,e,_⟩:=x;exact qA e
 |own y=>obtain⟨_,e⟩:=x;exact qA e
 |xd fs=>obtain⟨_,⟨_,_,_,e,_⟩,_⟩:=x;exact qA e
 |rng lo hi=>obtain⟨_,_,_,e⟩:=x;exact qA e
 |frz ob u=>obtain⟨e,_⟩:=x;exact qA e
 |tbl ps=>exact qA (show h.get? a=some _ from x)
 |met f y=>exact qA (show h.get? a=some _ from x)
 |ext φ=>obtain⟨_,⟨_,e⟩,_⟩:=x;exact qA e
theorem Paired.mapP {α β:Type}{F G:α->β->Prop}:∀ {l₁:List α} {l₂:List β},Paired F l₁ l₂->(∀ a b,F a b->G a b)->Paired G l₁ l₂
 |_,_,.nil,_=>.nil
 |_,_,.cons r t,f=>.cons (f _ _ r) (Paired.mapP t f)
def WL.keeps {H':Hp}{k:List (List Key)}(x:WL H b k)(ht:∀ b xs,H b=some (.tup xs)->H' b=some (.tup xs)):WL H' b k :=by obtain⟨bs,e,r⟩:=x;exact⟨bs,ht _ _ e,Paired.mapP r fun _ _ z=>ht _ _ z⟩
def zX.stay (x:zX P w H h a o)(k:∀ b u,(b=a\/H b=some (.own a))->h.get? b=some u->h'.get? b=some u)
  (ho:∀ b,H b=some (.own a)->H' b=some (.own a)) (ht:∀ b xs,H b=some (.tup xs)->H' b=some (.tup xs)):zX P w H' h' a o:=by
 induction o with
 |lst xs=>obtain⟨z,its,n,r,e⟩:=x;exact⟨z,its,n,r,k _ _ (.inl rfl) e⟩
 |tup xs=>obtain⟨z,its,r,ob,e,c⟩:=x;exact⟨z,its,r,ob,k _ _ (.inl rfl) e,c⟩
 |dK Z8=>obtain⟨z,y,vs,r,ob,es,ep,e,c⟩:=x;exact⟨z,y,vs,r,ob,es,ep,k _ _ (.inl rfl) e,c⟩
 |dT Z8 =>obtain⟨z,y,xs,r,ob,es,ep,e,c⟩:=x;exact⟨z,y,xs,Paired.mapP r fun p q z=>⟨z.1,ht _ _ z.2.1,z.2.2⟩,ob,es,ep,k _ _ (.inl rfl) e,c⟩
 |dN Z8 ep =>obtain⟨z,y,xs,r,ob,es,e,c⟩:=x;exact⟨z,y,xs,Paired.mapP r fun p q z=>⟨z.1,z.2.1.keeps ht,z.2.2⟩,ob,es,k _ _ (.inl rfl) e,c⟩
 |set S n=>obtain⟨ob,es,ep,t,e,c⟩:=x;exact⟨ob,es,ep,t,k _ _ (.inl rfl) e,c⟩
 |ins C dx fs =>obtain⟨d,z,ne,e,mA,⟨od,es,ep,e2,c⟩,r⟩:=x;exact⟨ho _ d,z,ne,k _ _ (.inl rfl) e,mA,⟨od,es,ep,k _ _ (.inr d) e2,c⟩,r⟩
 |own y=>obtain⟨ob,e⟩:=x;exact⟨ob,k _ _ (.inl rfl) e⟩
 |xd fs=>obtain⟨mA,⟨od,es,ep,e,c⟩,r⟩:=x;exact⟨mA,⟨od,es,ep,k _ _ (.inl rfl) e,c⟩,r⟩
 |rng lo hi=>obtain⟨t,u,v,e⟩:=x;exact⟨t,u,v,k _ _ (.inl rfl) e⟩
 |frz ob u ih=>obtain⟨e,q⟩:=x;exact⟨k _ _ (.inl rfl) e,ih q⟩
 |tbl ps =>have e:h.get? a=some { cls:=.none,data:=.fields ps }:=x;show h'.get? a=some { cls:=.none,data:=.fields ps };exact k a _ (.inl rfl) e
 |met f y =>have e:h.get? a=some (PySem.W.methodObj (.ref f) (.ref y)):=x;show h'.get? a=some (PySem.W.methodObj (.ref f) (.ref y));exact k a _ (.inl rfl) e
 |ext φ=>obtain⟨p,⟨o,e⟩,st⟩:=x;exact⟨st _ _ p fun o q=>k _ _ (.inl rfl) q,⟨o,k _ _ (.inl rfl) e⟩,st⟩
theorem ZG.lt (x:ZG P w H h)(e:H a=some o):a<h.objs.size:=(x a o e).lt
def ZG.fresh (x:ZG P w H h)(e:h.objs.size<=a):H a=none:=by
 cases q:H a with
 |none=>rfl
 |some u=>exact absurd (qF (x.lt q) e) (Xx _)
def ZG.kept (x:ZG P w H h)(k:∀ b u,h.get? b=some u->h'.get? b=some u):ZG P w H h':=fun a o e =>(x a o e).stay (fun b u _ q=>k b u q) (fun _ q=>q) fun _ _ q=>q
def ZG.laid (x:ZG P w H h)(k:∀ b u,h.get? b=some u->h'.get? b=some u)(hp:h.objs.size<=a)(new:zX P w (upd H a o) h' a o):ZG P w (upd H a o) h':=fun b u e=>by
 have hn:=x.fresh hp;by_cases hb:b=a
 ·subst hb;rw[zL]at e;cases e;exact new
 ·rw[zA hb]at e;exact(x b u e).stay (fun c v _ q=>k c v q) (fun c q=>by rw[zA (Ul q hn)];exact q) fun c xs q=>by rw[zA (Ul q hn)];exact q
end
def Rd (H:Hp)(a:Addr)(u:HO):Prop:=H a=some u\/∃ o,H a=some (.frz o u)
def Rd.ok (r:Rd H a u)(x:ZG P w H h):zX P w H h a u:=by
 rcases r with r|⟨o,r⟩
 ·exact x a u r
 ·obtain⟨_,q⟩:=x a _ r;exact q
def Mw:Option HO->Prop
 |some (.lst _)=>True
 |some (.dK _)=>True
 |some (.dT _)=>True
 |some (.dN _ _)=>True
 |some (.set _ _)=>True
 |some (.ins _ _ _)=>True
 |some (.ext _)=>True
 |_=>False
section
variable {P:Program}{w:World}{H:Hp}{h h':Heap}{x e:Addr}{o':HO}
def ZG.write (ok:ZG P w H h)(mu:Mw (H x))(he:e=x\/H e=some (.own x))(k:∀ b u,b≠e->h.get? b=some u->h'.get? b=some u)(heo:∃ u,h'.get? e=some u)
  (new:zX P w (upd H x o') h' x o'):ZG P w (upd H x o') h':=fun b u q=>by
 have nown:∀ c y,H c=some (.own y)->c≠x:=fun c y r z=>by subst z;rw[r]at mu;exact mu
 have ntup:∀ c xs,H c=some (.tup xs)->c≠x:=fun c xs r z=>by subst z;rw[r]at mu;exact mu
 by_cases hb:b=x
 ·subst hb;rw[zL]at q;cases q;exact new
 ·rw[zA hb]at q;by_cases hbe:b=e
  ·have q':H b=some (.own x):=by
    rcases he with z|z
    ·exact absurd (hbe.trans z) hb
    ·rw[hbe];exact z
   rw[q]at q';cases q';obtain⟨v,hv⟩:=heo;exact⟨v,by rw[hbe];exact hv⟩
  ·refine(ok b u q).stay (fun c v hc r=>k c v ?_ r) (fun c r=>by rw[zA (nown c b r)];exact r) fun c xs r=>by rw[zA (ntup c xs r)];exact r
   rcases hc with rfl|hc
   ·exact hbe
   ·rintro rfl;rcases he with z|z
    ·exact nown c b hc z
    ·rw[hc]at z;cases z;exact hb rfl
end
structure Un (fs ex:List Addr)(H H':Hp)(h h':Heap):Prop where
 keep:∀ b o,h.get? b=some o->H b=none->b∉fs->b∉ex->h'.get? b=some o
 slot:∀ b o,h.get? b=some o->H b=none->b∈fs->b∉ex->∃ sl,h'.get? b=some { o with slots:=sl }
 free:∀ b o,h.get? b=some o->H b=none->b∉ex->H' b=none
 there:∀ b o,h.get? b=some o->b∉ex->∃ o',h'.get? b=some o'
 tups:∀ b xs,H b=some (.tup xs)->H' b=some (.tup xs)
 frzs:∀ b o u,H b=some (.frz o u)->H' b=some (.frz o u)
 tbls:∀ b ps,H b=some (.tbl ps)->∃ more,H' b=some (.tbl (ps++more))
section
variable {fs fs' ex ex':List Addr}{H H1 H2:Hp}{h h1 h2 h':Heap}{a x e:Addr}{o:HO}
def Un.any (u:Un fs ex H H1 h h1){b:Addr}{ob:Obj}(q:h.get? b=some ob)(n:H b=none)(hx:b∉ex):∃ sl,h1.get? b=some { ob with slots:=sl }:=by
 by_cases hb:b∈fs
 ·exact u.slot b ob q n hb hx
 ·exact⟨ob.slots,u.keep b ob q n hb hx⟩
def Un.kept (k:∀ b u,h.get? b=some u->h'.get? b=some u):Un fs ex H H h h' :=⟨fun b ob q _ _ _=>k b ob q,fun b ob q _ _ _=>⟨ob.slots,k b ob q⟩,fun _ _ _ n _=>n,fun b ob q _=>⟨ob,k b ob q⟩,fun _ _ q=>q,fun _ _ _ q=>q,fun _ ps q=>⟨#[],by rw[q];simp⟩⟩
def Un.refl:Un fs ex H H h h:=Un.kept fun _ _ q=>q
def Un.laid (k:∀ b u,h.get? b=some u->h'.get? b=some u)(hp:h.objs.size<=a)(hn:H a=none):Un fs ex H (upd H a o) h h' where
 keep:=fun b u q _ _ _=>k b u q
 slot:=fun b u q _ _ _=>⟨u.slots,k b u q⟩
 free:=fun b u q n _=>by rw[zA (qZ (qF (qA q) hp))];exact n
 there:=fun b u q _=>⟨u,k b u q⟩
 tups:=fun b xs q=>by rw[zA (Ul q hn)];exact q
 frzs:=fun b u xs q=>by rw[zA (Ul q hn)];exact q
 tbls:=fun b ps q=>⟨#[],by rw[zA (Ul q hn),q];simp⟩
def Un.write (mu:Mw (H x))(he:e=x\/H e=some (.own x))(k:∀ b u,b≠e->h.get? b=some u->h'.get? b=some u)(heo:∃ u,h'.get? e=some u):Un fs ex H (upd H x o) h h':=by
 have hx:∀ b,H b=none->b≠x:=fun b n z=>by subst z;rw[n]at mu;exact mu
 have hb:∀ b,H b=none->b≠e:=fun b n z=>by
  subst z;rcases he with r|r
  ·exact hx b n r
  ·rw[n]at r;cases r
 have hm:∀ b u,H b=some u->¬ Mw (some u)->b≠x:=fun b u q nm z=>by subst z;rw[q]at mu;exact nm mu
 refine⟨fun b u q n _ _=>k b u (hb b n) q,fun b u q n _ _=>⟨u.slots,k b u (hb b n) q⟩,fun b u q n _=>by rw[zA (hx b n)];exact n,fun b u q _=>?_,
  fun b xs q=>by rw[zA (hm b _ q fun z=>z)];exact q,fun b u xs q=>by rw[zA (hm b _ q fun z=>z)];exact q,fun b ps q=>⟨#[],by rw[zA (hm b _ q fun z=>z),q];simp⟩⟩
 by_cases hbe:b=e
 ·subst hbe;exact heo
 ·exact⟨u,k b u hbe q⟩
end
def Jl (h:Heap)(H:Hp):List Addr:=(List.range h.objs.size).filter fun a=>(H a).isSome
def Ux (h:Heap)(H:Hp):Heap:=PySem.W.hideAll h (Jl h H)
def Ρ (h:Heap)(H:Hp):(Ux h H).objs.size=h.objs.size:=PySem.W.hideAll_size _ _
def zoA {h:Heap}{H:Hp}{b:Addr}{o:Obj}(e:h.get? b=some o)(n:H b=none):(Ux h H).get? b=some o :=
 PySem.W.hideAll_get _ e fun hm=>by have q:(H b).isSome=true:=(qR.mp hm).2;rw[n]at q;simp at q
def zqX {h:Heap}{H:Hp}{b:Addr}{o:Obj}(e:(Ux h H).get? b=some o):h.get? b=some o/\H b=none:=by
 have e':h.get? b=some o:=PySem.W.of_hideAll (Jl h H) e;refine⟨e',?_⟩;cases q:H b with
 |none=>rfl
 |some x =>have hm:b∈Jl h H:=qR.mpr ⟨List.mem_range.mpr (qA e'),by simp[q]⟩;have z:(Ux h H).get? b=none:=PySem.W.hideAll_none (Jl h H) hm;rw[z]at e;cases e
def zqU (g h:Heap)(L:Addr):List (Addr×Obj):=(List.range h.objs.size).filterMap fun a=>if a=L\/(g.get? a).isSome=true then none else(h.get? a).map fun o=>(a,o)
def rest (g h:Heap)(L d:Addr):List (Addr×Obj):=(zqU g h L).filter fun p=>decide (p.1≠d)
structure Mod (K:Ĳ)(mg:Str->Option ĸ)(base:Heap):Prop where
 kin:K.In base
 glob:base.Ns mainGlobals mg
 blt:∃ mb,base.Ns builtinsNs mb/\∀ x:Str,x≠"__name__"->mb x=bootBuiltins x
 nolimit:base.NoLimit
/-- the context: a def's body (or a comprehension's block) running. base: fixed through the whole law; s₀, H₀: the entry; outer: the frames whose slots others may change (a def's callers); stack: all frames that run;
   ex: iterators that were made ahead of the entry and are walked here (a comprehension's);fn: the names whose cells were made at the entry (a def: all;a comprehension's block: its own);calm: not within an except suite;pn: Z9 that every state bears;xe: what is wanted of an exception that leaves the code -/
structure Cx where
 prog:Program
 w:World
 K:Ĳ
 mg:Str->Option ĸ
 base:Heap
 A:Around
 N:List Str
 s₀:ĳ
 H₀:Hp
 env:Env
 outer:List Env
 stack:List Env
 ex:List Addr
 fn:Str->Bool
 calm:Bool
 pn:List (Addr×Obj)
 xe:ĸ->ĳ->Prop
def frs (l:List Env):List Addr:=l.filterMap (·.frame)
abbrev Cx.fs (X:Cx):List Addr:=frs X.outer
def Vis (sc:Scope)(x:Str):Prop:=sc.names.lookup x=some .local\/sc.names.lookup x=some .cell\/sc.names.lookup x=some .free
def Loc (sc:Scope)(x:Str):Prop:=sc.names.lookup x=some .local\/sc.names.lookup x=some .cell
def Look (env:Env)(h:Heap)(m:Str->Option ĸ)(x:Str)(u:ĸ):Prop :=(env.kindOf x=some .local/\m x=some u)\/((env.kindOf x=some .cell\/env.kindOf x=some .free)/\∃ c,env.cells.lookup x=some c/\h.IsCell c (some u))
structure Cx.Ok (X:Cx):Prop where
 mod:Mod X.K X.mg X.base
 kind:X.env.scope.kind=.function
 glob:X.env.globals=mainGlobals
 blt:X.env.builtins=builtinsNs
 above:X.s₀.heap.objs.size<=X.env.locals
 inj:∀ x y c,X.env.cells.lookup x=some c->X.env.cells.lookup y=some c->x=y
 has:∀ x,(X.env.kindOf x=some .cell\/X.env.kindOf x=some .free)->∃ c,X.env.cells.lookup x=some c
 cab:∀ x c,X.fn x=true->X.env.cells.lookup x=some c->X.s₀.heap.objs.size<=c
 hd:X.calm=true->X.A.handled=none
 frames:X.A.frames=some X.stack
 stk:X.stack=X.outer\/(X.stack=X.env::X.outer/\X.env.frame=some X.env.locals)
 exf:∀ b∈X.ex,b≠X.env.locals/\∀ x c,X.env.cells.lookup x=some c->c≠b
 bs:∀ b o,X.base.get? b=some o->X.s₀.heap.get? b=some o/\X.H₀ b=none
 bsz:X.base.objs.size<=X.s₀.heap.objs.size
 noex:∀ b o,X.base.get? b=some o->b∉X.ex
 exfs:∀ b∈X.ex,b∉X.fs
 funs:X.s₀.heap.FunFrames X.base X.outer
 frf:∀ b∈X.fs,X.H₀ b=none
structure Inv (X:Cx)(Z9:List (Addr×Obj))(U:List (Option V))(H:Hp)(s:ĳ):Prop where
 ok:X.Ok
 os:s.os=X.s₀.os
 bare:AllBare s.gens
 base:Un X.fs X.ex X.H₀ H X.s₀.heap s.heap
 loc:∃ m,s.heap.Ns X.env.locals m/\∀ (i:Nat) (x:Str) (v:V),X.N[i]?=some x->U[i]?=some (some v)->Vis X.env.scope x->∃ u,RelV v u/\Look X.env s.heap m x u
 cell:∀ x c,X.env.cells.lookup x=some c->∃ v,s.heap.IsCell c v
 free:H X.env.locals=none
 freeC:∀ x c,X.env.cells.lookup x=some c->H c=none
 pin:∀ p∈X.pn++Z9,s.heap.get? p.1=some p.2/\H p.1=none/\p.1≠X.env.locals/\p.1∉X.fs/\∀ v,p.2.data≠.cell v
 hok:ZG X.prog X.w H s.heap
 len:U.length=X.N.length
section
variable {X:Cx}{Z9:List (Addr×Obj)}{U:List (Option V)}{H H':Hp}{s:ĳ}{h':Heap}
def Cx.Ok.nofr (ok:X.Ok){b:Addr}{o:Obj}(e:X.base.get? b=some o):b∉X.fs:=fun hb=>by have:=(ok.funs.mem hb).1;rw[e]at this;cases this
theorem Inv.bs (I:Inv X Z9 U H s):∀ b o,X.base.get? b=some o->s.heap.get? b=some o/\H b=none:=fun b o e =>⟨I.base.keep b o (I.ok.bs b o e).1 (I.ok.bs b o e).2 (I.ok.nofr e) (I.ok.noex b o e),I.base.free b o (I.ok.bs b o e).1 (I.ok.bs b o e).2 (I.ok.noex b o e)⟩
def Inv.bk (I:Inv X Z9 U H s):∀ b o,X.base.get? b=some o->s.heap.get? b=some o:=fun b o e=>(I.bs b o e).1
theorem Inv.mod (I:Inv X Z9 U H s):Mod X.K X.mg X.base:=I.ok.mod
def Inv.kIn (I:Inv X Z9 U H s):X.K.In s.heap:=I.ok.mod.kin.keeps I.bk
theorem Inv.lt (I:Inv X Z9 U H s):X.env.locals<s.heap.objs.size:=by obtain⟨_,hn,_⟩:=I.loc;exact hn.lt
def Inv.sz (I:Inv X Z9 U H s):X.s₀.heap.objs.size<=s.heap.objs.size:=qW I.ok.above (Lz I.lt)
def Inv.nofs (I:Inv X Z9 U H s){a:Addr}(h:s.heap.objs.size<=a):a∉X.fs:=fun hb=>by obtain⟨_,o,ho,_⟩:=I.ok.funs.mem hb;exact absurd (qF (qA ho) (qW I.sz h)) (Xx _)
def Inv.cne (I:Inv X Z9 U H s):∀ x c,X.env.cells.lookup x=some c->c≠X.env.locals:=fun x c e z=>by obtain⟨v,o,ho,hd⟩:=I.cell x c e;obtain⟨m,⟨o',es,ep,ho',hd',_⟩,_⟩:=I.loc;rw[z,ho']at ho;cases ho;rw[hd']at hd;cases hd
theorem Inv.funs (I:Inv X Z9 U H s):s.heap.FunFrames X.base X.outer:=by
 have all:∀ (l:List Env),(∀ b∈frs l,b∈X.fs)->X.s₀.heap.FunFrames X.base l->s.heap.FunFrames X.base l:=by
  intro l
  induction l with
  |nil=>intro _ _;trivial
  |cons env r ih =>
   intro hs hl;obtain⟨hk,⟨L,o,hf,hn,ho,hd⟩,hr⟩:=hl;have hL:L∈X.fs:=hs L (by unfold frs;rw[Oc,hf];exact qO);obtain⟨sl,e⟩:=I.base.slot L o ho (I.ok.frf L hL) hL fun z=>I.ok.exfs L z hL
   exact⟨hk,⟨L,_,hf,hn,e,hd⟩,ih (fun b hb=>hs b (by unfold frs;rw[Oc,hf];exact qj _ hb)) hr⟩
 exact all X.outer (fun _ hb=>hb) I.ok.funs
theorem Inv.stack (I:Inv X Z9 U H s):s.heap.FunFrames X.base X.stack:=by
 rcases I.ok.stk with e|⟨e,hf⟩
 ·rw[e];exact I.funs
 ·rw[e];obtain⟨m,hn,_⟩:=I.loc;refine .cons (by rw[I.ok.kind];decide) hf hn ?_ I.funs;exact Heap.get?_none_of_le (qW I.ok.bsz I.ok.above)
def Inv.stkSub (I:Inv X Z9 U H s):∀ b∈frs X.stack,b∈X.env.locals::X.fs:=fun b hb=>by
 rcases I.ok.stk with e|⟨e,hf⟩
 ·rw[e]at hb;exact qj _ hb
 ·rw[e]at hb;unfold frs at hb;rw[Oc,hf]at hb;exact hb
def Inv.stkFree (I:Inv X Z9 U H s):∀ b∈frs X.stack,H b=none:=fun b hb=>by
 rcases qv.mp (I.stkSub b hb)with e|hb
 ·rw[e];exact I.free
 ·obtain⟨_,o,ho,_⟩:=I.ok.funs.mem hb;exact I.base.free b o ho (I.ok.frf b hb) fun z=>I.ok.exfs b z hb
def Inv.step {t':Nat}{d':Drawn}{ch:List Addr}(I:Inv X Z9 U H s)(hch:∀ b∈ch,(b∈X.ex\/X.s₀.heap.objs.size<=b)/\b≠X.env.locals/\(∀ x c,X.env.cells.lookup x=some c->c≠b)/\∀ p∈X.pn++Z9,p.1≠b)(keep:∀ b o,b≠X.env.locals->b∉X.fs->b∉ch->s.heap.get? b=some o->H b=none->h'.get? b=some o)(slot:∀ b o,b≠X.env.locals->b∈X.fs->b∉ch->s.heap.get? b=some o->H b=none->∃ sl,h'.get? b=some { o with slots:=sl })(free:∀ b o,b∉ch->s.heap.get? b=some o->H b=none->H' b=none)(there:∀ b o,b∉ch->s.heap.get? b=some o->∃ o',h'.get? b=some o')(tups:∀ b xs,H b=some (.tup xs)->H' b=some (.tup xs))(frzs:∀ b o u,H b=some (.frz o u)->H' b=some (.frz o u))(tbls:∀ b ps,H b=some (.tbl ps)->∃ more,H' b=some (.tbl (ps++more)))(ns:∀ m,s.heap.Ns X.env.locals m->h'.Ns X.env.locals m)(hok:ZG X.prog X.w H' h')(hg:AllBare g') :
  Inv X Z9 U H' { s with heap:=h',gens:=g',drawn:=d',toks:=t' }:=by
 have neL:∀ b o,X.s₀.heap.get? b=some o->b≠X.env.locals:=fun b o e=>qZ (qF (qA e) I.ok.above)
 have neC:∀ b o,X.s₀.heap.get? b=some o->b∉X.ex->b∉ch:=fun b o e hx hb=>by
  rcases(hch b hb).1 with z|z
  ·exact hx z
  ·exact absurd (qF (qA e) z) (Xx _)
 have cellK:∀ x c,X.env.cells.lookup x=some c->∀ v,s.heap.IsCell c v->h'.IsCell c v:=by
  rintro x c e v ⟨o,ho,hd⟩;have nch:c∉ch:=fun z=>(hch c z).2.2.1 x c e rfl
  by_cases hc:c∈X.fs
  ·obtain⟨sl,q⟩:=slot c o (I.cne x c e) hc nch ho (I.freeC x c e);exact⟨_,q,hd⟩
  ·exact⟨o,keep c o (I.cne x c e) hc nch ho (I.freeC x c e),hd⟩
 refine⟨I.ok,I.os,hg,⟨fun b o e n hb hx=>?_,fun b o e n hb hx=>?_,fun b o e n hx=>?_,fun b o e hx=>?_,fun b xs e=>tups b xs (I.base.tups b xs e),fun b o xs e=>frzs b o xs (I.base.frzs b o xs e),fun b ps e=>?_⟩,?_,fun x c e=>?_,?_,fun x c e=>?_,fun p hp=>?_,hok,I.len⟩
 ·exact keep b o (neL b o e) hb (neC b o e hx) (I.base.keep b o e n hb hx) (I.base.free b o e n hx)
 ·obtain⟨sl,e1⟩:=I.base.slot b o e n hb hx;obtain⟨sl',e2⟩:=slot b _ (neL b o e) hb (neC b o e hx) e1 (I.base.free b o e n hx);exact⟨sl',e2⟩
 ·obtain⟨o',e1⟩:=I.base.there b o e hx;exact free b o' (neC b o e hx) e1 (I.base.free b o e n hx)
 ·obtain⟨o',e1⟩:=I.base.there b o e hx;exact there b o' (neC b o e hx) e1
 ·obtain⟨m1,e1⟩:=I.base.tbls b ps e;obtain⟨m2,e2⟩:=tbls b _ e1;exact⟨m1++m2,by rw[e2,Array.append_assoc]⟩
 ·obtain⟨m,hn,hl⟩:=I.loc;refine⟨m,ns m hn,fun i x v e1 e2 e3=>?_⟩;obtain⟨u,r,l⟩:=hl i x v e1 e2 e3;refine⟨u,r,?_⟩;rcases l with l|⟨k,c,e,z⟩
  ·exact .inl l
  ·exact .inr ⟨k,c,e,cellK x c e _ z⟩
 ·obtain⟨v,z⟩:=I.cell x c e;exact⟨v,cellK x c e v z⟩
 ·obtain⟨m,⟨o,_,_,ho,_⟩,_⟩:=I.loc;exact free _ o (fun z=>(hch _ z).2.1 rfl) ho I.free
 ·obtain⟨v,o,ho,hd⟩:=I.cell x c e;exact free c o (fun z=>(hch c z).2.2.1 x c e rfl) ho (I.freeC x c e)
 ·obtain⟨e,n,ne,nf,d⟩:=I.pin p hp;have nch:p.1∉ch:=fun z=>(hch p.1 z).2.2.2 p hp rfl
  exact⟨keep p.1 p.2 ne nf nch e n,free p.1 p.2 nch e n,ne,nf,d⟩
def Inv.un {t':Nat}(I:Inv X Z9 U H s)(u:Un X.fs [] H H' s.heap h')(hok:ZG X.prog X.w H' h'):Inv X Z9 U H' { s with heap:=h',toks:=t' }:=by
 obtain⟨m,⟨o,es,ep,ho,r⟩,_⟩:=id I.loc;obtain⟨sl,hL⟩:=u.any ho I.free (by simp)
 exact I.step (g':=s.gens) (d':=s.drawn) (ch:=[]) (fun _ z=>nomatch z) (fun b o _ hb _ e n=>u.keep b o e n hb (by simp)) (fun b o _ hb _ e n=>u.slot b o e n hb (by simp)) (fun b o _ e n=>u.free b o e n (by simp)) (fun b o _ e=>u.there b o e (by simp)) u.tups u.frzs u.tbls (fun m' hm=>by obtain⟨o',es',ep',ho',r'⟩:=hm;rw[ho]at ho';cases ho';exact⟨_,es',ep',hL,r'⟩) hok I.bare
def Inv.call {t':Nat}{d':Drawn}(I:Inv X Z9 U H s)(u:Un (frs X.stack) ch H H' s.heap h')(hok:ZG X.prog X.w H' h')(hg:AllBare g')(hch:∀ b∈ch,(b∈X.ex\/X.s₀.heap.objs.size<=b)/\b≠X.env.locals/\(∀ x c,X.env.cells.lookup x=some c->c≠b)/\∀ p∈X.pn++Z9,p.1≠b) :
  Inv X Z9 U H' { s with heap:=h',gens:=g',drawn:=d',toks:=t' }:=by
 obtain⟨m,⟨o,es,ep,ho,r⟩,_⟩:=id I.loc;obtain⟨sl,hL⟩:=u.any ho I.free fun z=>(hch _ z).2.1 rfl
 exact I.step (ch:=ch) hch (fun b o hL hb hc e n=>u.keep b o e n (fun z=>(qv.mp (I.stkSub b z)).elim hL hb) hc) (fun b o _ _ hc e n=>u.any e n hc) (fun b o hc e n=>u.free b o e n hc) (fun b o hc e=>u.there b o e hc) u.tups u.frzs u.tbls (fun m' hm=>by obtain⟨o',es',ep',ho',r'⟩:=hm;rw[ho]at ho';cases ho';exact⟨_,es',ep',hL,r'⟩) hok hg
def Inv.turned {t':Nat}{it:Addr}(I:Inv X Z9 U H s)(k:∀ b o,b≠it->s.heap.get? b=some o->h'.get? b=some o)(hn:H it=none)(hL:it≠X.env.locals)
  (h1:it∈X.ex\/X.s₀.heap.objs.size<=it) (h2:∀ x c,X.env.cells.lookup x=some c->c≠it) (h3:∀ p∈X.pn++Z9,p.1≠it):Inv X Z9 U H { s with heap:=h',toks:=t' }:=by
 have nit:∀ b u,H b=some u->b≠it:=fun b u e z=>by rw[z,hn]at e;cases e
 refine I.step (g':=s.gens) (d':=s.drawn) (ch:=[it]) (fun b hb=>?_) (fun b o _ _ hc e _=>k b o (fun z=>hc (by simp[z])) e) (fun b o _ _ hc e _=>⟨o.slots,k b o (fun z=>hc (by simp[z])) e⟩) (fun _ _ _ _ n=>n)
  (fun b o hc e=>⟨o,k b o (fun z=>hc (by simp[z])) e⟩) (fun _ _ e=>e) (fun _ _ _ e=>e) (fun b ps e=>⟨#[],by rw[e];simp⟩) (fun m hm=>?_) (fun b u e=>?_) I.bare
 ·have e:b=it:=by simpa using hb
  subst e;exact⟨h1,hL,h2,h3⟩
 ·obtain⟨o,es,ep,ho,r⟩:=hm;exact⟨o,es,ep,k _ o (Ne.symm hL) ho,r⟩
 ·refine(I.hok b u e).stay (fun c v hc q=>k c v ?_ q) (fun _ q=>q) fun _ _ q=>q
  rcases hc with z|z
  ·rw[z];exact nit b u e
  ·exact nit c _ z
def Inv.tok (I:Inv X Z9 U H s)(t:Nat):Inv X Z9 U H { s with toks:=t }:=I.un (h':=s.heap) (t':=t) Un.refl I.hok
theorem Inv.kept {t':Nat}(I:Inv X Z9 U H s)(k:∀ b u,s.heap.get? b=some u->h'.get? b=some u):Inv X Z9 U H { s with heap:=h',toks:=t' }:=I.un (Un.kept k) (I.hok.kept k)
theorem Inv.laid {a:Addr}{o:HO}{t':Nat}(I:Inv X Z9 U H s)(k:∀ b u,s.heap.get? b=some u->h'.get? b=some u)(hp:s.heap.objs.size<=a)(new:zX X.prog X.w (upd H a o) h' a o) :
  Inv X Z9 U (upd H a o) { s with heap:=h',toks:=t' }:=I.un (Un.laid k hp (I.hok.fresh hp)) (I.hok.laid k hp new)
theorem Inv.write {x e:Addr}{o:HO}{t':Nat}(I:Inv X Z9 U H s)(mu:Mw (H x))(he:e=x\/H e=some (.own x))(k:∀ b u,b≠e->s.heap.get? b=some u->h'.get? b=some u)(heo:∃ u,h'.get? e=some u)
  (new:zX X.prog X.w (upd H x o) h' x o):Inv X Z9 U (upd H x o) { s with heap:=h',toks:=t' }:=I.un (Un.write mu he k heo) (I.hok.write mu he k heo new)
def Inv.weak {σ':List (Option V)}(I:Inv X Z9 U H s)(hl:σ'.length=U.length)(w:∀ (i:Nat) v,σ'[i]?=some (some v)->U[i]?=some (some v)):Inv X Z9 σ' H s :=⟨I.ok,I.os,I.bare,I.base,by obtain⟨m,hn,hl'⟩:=I.loc;exact⟨m,hn,fun i x v e1 e2 e3=>hl' i x v e1 (w i v e2) e3⟩,I.cell,I.free,I.freeC,I.pin,I.hok,hl.trans I.len⟩
def Inv.pins_of {pins':List (Addr×Obj)}(I:Inv X Z9 U H s)(h:∀ p∈pins',s.heap.get? p.1=some p.2/\H p.1=none/\p.1≠X.env.locals/\p.1∉X.fs/\∀ v,p.2.data≠.cell v):Inv X pins' U H s :=⟨I.ok,I.os,I.bare,I.base,I.loc,I.cell,I.free,I.freeC,fun p hp=>(qE.mp hp).elim (fun z=>I.pin p (V3 _ z)) (h p),I.hok,I.len⟩
def p8 {N:List Str}(hN:N.Nodup){i j:Nat}{x:Str}(a:N[i]?=some x)(b:N[j]?=some x):i=j:=by obtain⟨h1,e1⟩:=Ud.mp a;obtain⟨h2,e2⟩:=Ud.mp b;exact(Sx hN).mp (e1.trans e2.symm)
def wQ {M:Model}{A:Around}{E:ĸ->ĳ->Prop}{i:Nat}{x:Str}{Q:Unit->ĳ->Prop}(I:Inv X Z9 U H s)(hN:X.N.Nodup)(hi:X.N[i]?=some x)(hx:Loc X.env.scope x)(r:RelV v u)(h:∀ s',Inv X Z9 (U.set i (some v)) H s'->(∃ a,Heap.SameBut a s.heap s'.heap/\(a=X.env.locals\/X.env.cells.lookup x=some a))->Q () s')(hf:autoParam (X.fn x=true\/X.env.scope.names.lookup x=some .local) Ro):wpAny M A (storeName X.env x u) Q E s:=by
 obtain⟨m,hn,hl⟩:=id I.loc;have hcls:(X.env.scope.kind==.class||(X.env.scope.kind==.module&&X.env.locals != X.env.globals))=false:=by rw[I.ok.kind];rfl
 have hiσ:i<U.length:=by rw[I.len];exact(Ud.mp hi).1
 have cne:=I.cne
 have tracked:∀ {a:Addr} {h':Heap},(∃ o,s.heap.get? a=some o/\H a=none)->Heap.SameBut a s.heap h'->ZG X.prog X.w H h':=fun {a h'} ha hs b ob e=>by
  obtain⟨_,_,hfree⟩:=ha;refine(I.hok b ob e).stay (fun c w' hc q=>(hs.2 c ?_).trans q) (fun _ q=>q) fun _ _ q=>q
  rintro rfl;rcases hc with rfl|hc
  ·rw[hfree]at e;cases e
  ·rw[hfree]at hc;cases hc
 rcases hx with hk|hk
 ·refine wpAny_storeName_local hk hn (fun h' hn' hs=>?_) hcls;obtain⟨oL,_,_,hoL,_⟩:=id hn;refine h _ ⟨I.ok,I.os,I.bare,⟨fun b o e n hb hx=>?_,fun b o e n hb hx=>?_,I.base.free,fun b o e hx=>?_,I.base.tups,I.base.frzs,I.base.tbls⟩,⟨_,hn',fun j y v' e1 e2 e3=>?_⟩,fun y c e=>?_,I.free,I.freeC,fun p hp=>?_,tracked ⟨oL,hoL,I.free⟩ hs,by simpa using I.len⟩ ⟨_,hs,.inl rfl⟩
  ·exact(hs.2 b (qZ (qF (qA e) I.ok.above))).trans (I.base.keep b o e n hb hx)
  ·obtain⟨sl,e1⟩:=I.base.slot b o e n hb hx;exact⟨sl,(hs.2 b (qZ (qF (qA e) I.ok.above))).trans e1⟩
  ·obtain⟨o',e1⟩:=I.base.there b o e hx;exact⟨o',(hs.2 b (qZ (qF (qA e) I.ok.above))).trans e1⟩
  ·by_cases hj:j=i
   ·subst hj;rw[hi]at e1;cases e1;rw[qU hiσ]at e2;cases e2;exact⟨u,r,.inl ⟨hk,by simp⟩⟩
   ·rw[qP (Ne.symm hj)]at e2;obtain⟨u',r',q⟩:=hl j y v' e1 e2 e3;refine⟨u',r',?_⟩;rcases q with⟨k,e⟩|⟨k,c,e,z⟩
    ·refine .inl ⟨k,?_⟩;have:y≠x:=fun e=>hj (p8 hN e1 (e▸hi))
     simp[this,e]
    ·exact .inr ⟨k,c,e,z.sameBut hs (cne y c e)⟩
  ·obtain⟨w',z⟩:=I.cell y c e;exact⟨w',z.sameBut hs (cne y c e)⟩
  ·obtain⟨e,n,ne,nf,d⟩:=I.pin p hp;exact⟨(hs.2 p.1 ne).trans e,n,ne,nf,d⟩
 ·have hfn:X.fn x=true:=by
   rcases hf with z|z
   ·exact z
   ·rw[z]at hk;cases hk
  obtain⟨c,hc⟩:=I.ok.has x (.inl hk);obtain⟨w',z⟩:=I.cell x c hc;refine wpAny_storeName_cell I.ok.kind hk hc z (fun h' hc' hs=>?_);obtain⟨oc,hoc,hocd⟩:=id z;refine h { s with heap:=h' } ⟨I.ok,I.os,I.bare,⟨fun b o e n hb hx=>?_,fun b o e n hb hx=>?_,I.base.free,fun b o e hx=>?_,I.base.tups,I.base.frzs,I.base.tbls⟩,⟨m,hn.sameBut hs (Ne.symm (cne x c hc)),fun j y v' e1 e2 e3=>?_⟩,fun y c' e=>?_,I.free,I.freeC,fun p hp=>?_,tracked ⟨oc,hoc,I.freeC x c hc⟩ hs,by simpa using I.len⟩ ⟨c,hs,.inr hc⟩
  ·exact(hs.2 b (qZ (qF (qA e) (I.ok.cab x c hfn hc)))).trans (I.base.keep b o e n hb hx)
  ·obtain⟨sl,e1⟩:=I.base.slot b o e n hb hx;exact⟨sl,(hs.2 b (qZ (qF (qA e) (I.ok.cab x c hfn hc)))).trans e1⟩
  ·obtain⟨o',e1⟩:=I.base.there b o e hx;exact⟨o',(hs.2 b (qZ (qF (qA e) (I.ok.cab x c hfn hc)))).trans e1⟩
  ·by_cases hj:j=i
   ·subst hj;rw[hi]at e1;cases e1;rw[qU hiσ]at e2;cases e2;exact⟨u,r,.inr ⟨.inl hk,c,hc,hc'⟩⟩
   ·rw[qP (Ne.symm hj)]at e2;obtain⟨u',r',q⟩:=hl j y v' e1 e2 e3;refine⟨u',r',?_⟩;rcases q with q|⟨k,c',e,z'⟩
    ·exact .inl q
    ·refine .inr ⟨k,c',e,z'.sameBut hs ?_⟩;rintro rfl;exact hj (p8 hN e1 (I.ok.inj _ _ _ e hc▸hi))
  ·by_cases hcc:c'=c
   ·subst hcc;exact⟨_,hc'⟩
   ·obtain⟨w2,z2⟩:=I.cell y c' e;exact⟨w2,z2.sameBut hs hcc⟩
  ·obtain⟨e,n,ne,nf,d⟩:=I.pin p hp;refine⟨(hs.2 p.1 ?_).trans e,n,ne,nf,d⟩;intro q;rw[q,hoc]at e;have q':oc=p.2:=qD e;exact d w' (by rw[<- q'];exact hocd)
def Dq {M:Model}{A:Around}{E:ĸ->ĳ->Prop}{i:Nat}{x:Str}{Q:Unit->ĳ->Prop}(I:Inv X Z9 U H s)(hN:X.N.Nodup)(hi:X.N[i]?=some x)(hx:Loc X.env.scope x)(r:RelV v u)(h:∀ s',Inv X Z9 (U.set i (some v)) H s'->Q () s')(hf:autoParam (X.fn x=true\/X.env.scope.names.lookup x=some .local) Ro):wpAny M A (storeName X.env x u) Q E s :=wQ I hN hi hx r (fun s' I' _=>h s' I') hf
def Inv.call' {s':ĳ}(I:Inv X Z9 U H s)(ho:s'.os=s.os)(u:Un (frs X.stack) ch H H' s.heap s'.heap)(hok:ZG X.prog X.w H' s'.heap)(hg:AllBare s'.gens)(hch:∀ b∈ch,(b∈X.ex\/X.s₀.heap.objs.size<=b)/\b≠X.env.locals/\(∀ x c,X.env.cells.lookup x=some c->c≠b)/\∀ p∈X.pn++Z9,p.1≠b):Inv X Z9 U H' s':=by obtain⟨h',g',d',t',o'⟩:=s';have e:o'=s.os:=ho;subst e;exact I.call (g':=g') (t':=t') (d':=d') u hok hg hch
end
abbrev XK:=ĸ->Option Addr->Hp->Prop
abbrev St:=List (Option V)
abbrev VK:=V->Hp->Prop
abbrev TE:=St->Hp->VK->Prop
abbrev TT:=St->Hp->(Bool->Hp->Prop)->Prop
abbrev TA:=St->Hp->(List V->Hp->Prop)->Prop
structure Ends where
 nx:St->Hp->Prop
 rt:VK
 bk:St->Hp->Prop:=fun _ _=>False
 ct:St->Hp->Prop:=fun _ _=>False
abbrev TS:=Ends->St->Hp->Prop
def EP (X:Cx)(Z9:List (Addr×Obj))(U:St)(Q:VK)(u:ĸ)(s':ĳ):Prop:=∃ v H',Inv X Z9 U H' s'/\RelV v u/\Q v H'
def TP (X:Cx)(Z9:List (Addr×Obj))(U:St)(Q:Bool->Hp->Prop)(b:Bool)(s':ĳ):Prop:=∃ H',Inv X Z9 U H' s'/\Q b H'
def AP (X:Cx)(Z9:List (Addr×Obj))(U:St)(Q:List V->Hp->Prop)(us:List ĸ)(s':ĳ):Prop:=∃ vs H',Inv X Z9 U H' s'/\Vals vs us/\Q vs H'
def SP (X:Cx)(Z9:List (Addr×Obj))(D:Ends)(f:Flow)(s':ĳ):Prop :=
 match f with
 |.next=>∃ σ' H',Inv X Z9 σ' H' s'/\D.nx σ' H'
 |.brk=>∃ σ' H',Inv X Z9 σ' H' s'/\D.bk σ' H'
 |.cont=>∃ σ' H',Inv X Z9 σ' H' s'/\D.ct σ' H'
 |.ret u=>∃ v σ' H',Inv X Z9 σ' H' s'/\RelV v u/\D.rt v H'
def PE (X:Cx)(e:Expr)(t:TE):Prop :=∀ (Z9:List (Addr×Obj)) (s:ĳ) (U:St) (H:Hp) (Q:VK),Inv X Z9 U H s->t U H Q->wpAny (model X.prog X.w) X.A (eval e X.env) (EP X Z9 U Q) X.xe s
def PT (X:Cx)(e:Expr)(t:TT):Prop :=∀ (Z9:List (Addr×Obj)) (s:ĳ) (U:St) (H:Hp) (Q:Bool->Hp->Prop),Inv X Z9 U H s->t U H Q->wpAny (model X.prog X.w) X.A (isTrue e X.env (eval e X.env)) (TP X Z9 U Q) X.xe s
def PW (X:Cx)(e:Expr)(t:TT):Prop :=∀ (whole:Sem ĸ) (Z9:List (Addr×Obj)) (s:ĳ) (U:St) (H:Hp) (Q:Bool->Hp->Prop),Inv X Z9 U H s->t U H Q->wpAny (model X.prog X.w) X.A (isTrue e X.env whole) (TP X Z9 U Q) X.xe s
def PA (X:Cx)(es:List Expr)(t:TA):Prop :=∀ (pos:Pos) (Z9:List (Addr×Obj)) (s:ĳ) (U:St) (H:Hp) (Q:List V->Hp->Prop),Inv X Z9 U H s->t U H Q->wpAny (model X.prog X.w) X.A (spliced (backTo pos (starEach es X.env))) (AP X Z9 U Q) X.xe s
def PS (X:Cx)(st:Stmt)(t:TS):Prop :=∀ (Z9:List (Addr×Obj)) (s:ĳ) (U:St) (H:Hp) (D:Ends),Inv X Z9 U H s->t D U H->wpAny (model X.prog X.w) X.A (exec st X.env) (SP X Z9 D) X.xe s
def XQ (X:Cx)(st:List Stmt)(t:TS):Prop :=∀ (Z9:List (Addr×Obj)) (s:ĳ) (U:St) (H:Hp) (D:Ends),Inv X Z9 U H s->t D U H->wpAny (model X.prog X.w) X.A (execs st X.env) (SP X Z9 D) X.xe s
def Z2 {α:Type}{t:Sem α}{Q Q':α->ĳ->Prop}{M:Model}{A:Around}{E:ĸ->ĳ->Prop}{s:ĳ}(h:wpAny M A t Q E s)(hQ:∀ a s,Q a s->Q' a s):wpAny M A t Q' E s:=wpAny_mono h hQ fun _ _ x=>x
section
variable {X:Cx}
def vU (i:Nat):TE:=fun U H Q=>∃ v,U[i]?=some (some v)/\Q v H
def tC (v:V):TE:=fun _ H Q=>Q v H
def zwa {i:Nat}{x:Str}{pos:Pos}(hN:X.N[i]?=some x)(hv:Vis X.env.scope x)(hd:autoParam ((x==("__debug__":Str))=false) zU)(hcd:autoParam ((x==("__classdict__":Str))=false) zU):PE X (.Name x pos) (vU i):=by
 intro Z9 s U H Q I h;obtain⟨v,e,h⟩:=h;obtain⟨m,hn,hl⟩:=I.loc;obtain⟨u,r,l⟩:=hl i x v hN e hv;have fin:EP X Z9 U Q u s:=⟨v,H,I,r,h⟩
 rcases l with⟨hk,hm⟩|⟨hk,c,hc,hcell⟩
 ·exact wpAny_Name (wpAny_loadName_local I.ok.kind hk hn hm fin) hd
 ·rcases hk with hk|hk
  ·exact wpAny_Name (wpAny_loadName_cell I.ok.kind hk hc hcell fin) hd
  ·exact wpAny_Name (wpAny_loadName_free I.ok.kind hk hc hcell fin hcd) hd
def Gp {i j pos}:PE X (.Constant (.int i) j pos) (tC (.int i)):=fun _ _ _ H _ I h=>wpAny_Constant_int ⟨.int i,H,I.tok _,⟨_,rfl⟩,h⟩
def ju {b j pos}:PE X (.Constant (.bool b) j pos) (tC (.bl b)):=fun _ _ _ H _ I h=>Constant_bool ⟨.bl b,H,I,rfl,h⟩
def ztC {j pos}:PE X (.Constant .none j pos) (tC .non):=fun _ _ _ H _ I h=>Constant_none ⟨.non,H,I,rfl,h⟩
def zvL {x j pos}:PE X (.Constant (.str x) j pos) (tC (.str x)):=fun _ _ _ H _ I h=>Calls.Constant_str ⟨.str x,H,I.tok _,⟨_,rfl⟩,h⟩
def Gl (X:Cx)(x:Str):Prop:=X.env.kindOf x=some .globalImplicit
def Qd {E:ĸ->ĳ->Prop}{u:ĸ}{pos:Pos}{Q:ĸ->ĳ->Prop}(I:Inv X Z9 U H s)(hg:Gl X x)(hm:X.mg x=some u)(h:Q u s)(hd:autoParam ((x==("__debug__":Str))=false) zU):wpAny (model X.prog X.w) X.A (eval (.Name x pos) X.env) Q E s :=Calls.Name_function_global I.ok.kind hg (Calls.loadGlobal_global (by rw[I.ok.glob];exact I.mod.glob.keeps I.bk) hm h) hd
def Uj {E:ĸ->ĳ->Prop}{u:ĸ}{pos:Pos}{Q:ĸ->ĳ->Prop}(I:Inv X Z9 U H s)(hg:Gl X x)(hm:X.mg x=none)(hv:bootBuiltins x=some u)(h:Q u s)(hn:autoParam (x≠"__name__") zU)(hd:autoParam ((x==("__debug__":Str))=false) zU):wpAny (model X.prog X.w) X.A (eval (.Name x pos) X.env) Q E s:=by obtain⟨mb,h1,h2⟩:=I.mod.blt;exact Calls.Name_function_global I.ok.kind hg (Calls.loadGlobal_builtin (by rw[I.ok.glob];exact I.mod.glob.keeps I.bk) hm (by rw[I.ok.blt];exact h1.keeps I.bk) ((h2 x hn).trans hv) h) hd
def oK {u:ĸ}{pos:Pos}(hg:Gl X x)(hm:X.mg x=some u)(r:RelV v u)(hd:autoParam ((x==("__debug__":Str))=false) zU):PE X (.Name x pos) (tC v) :=fun _ _ _ H _ I h=>Qd I hg hm ⟨v,H,I,r,h⟩ hd
def zre {u:ĸ}{pos:Pos}(hg:Gl X x)(hm:X.mg x=none)(hv:bootBuiltins x=some u)(r:RelV v u)(hn:autoParam (x≠"__name__") zU)(hd:autoParam ((x==("__debug__":Str))=false) zU):PE X (.Name x pos) (tC v) :=fun _ _ _ H _ I h=>Uj I hg hm hv ⟨v,H,I,r,h⟩ hn hd
variable {a b:Expr}{ta tb:TE}{pos:Pos}
def PC (X:Cx)(op:CmpOp)(a b:Expr)(t:TE):Prop :=
 ∀ (Z9:List (Addr×Obj)) (s:ĳ) (U:St) (H:Hp) (Q:VK),Inv X Z9 U H s->t U H Q ->
  wpAny (model X.prog X.w) X.A (eval a X.env) (fun v s₁=>wpAny (model X.prog X.w) X.A (eval b X.env) (fun u s₂=>wpAny (model X.prog X.w) X.A (compareOp op v u) (EP X Z9 U Q) X.xe s₂) X.xe s₁) X.xe s
def tB (t:TE):TT:=fun U H Q=>t U H fun x H1=>∃ c,x=.bl c/\Q c H1
def v7 {t:TE}(h:PC X op a b t)(h1:autoParam (behindInMarks op b=false) yD):PE X (.Compare a [op] [b] pos) t:=fun Z9 s U H Q I hw=>wpAny_Compare1 (h Z9 s U H Q I hw) h1
def uV {t:TE}(h:PC X op a b t)(h1:autoParam (behindInMarks op b=false) yD):PT X (.Compare a [op] [b] pos) (tB t):=by intro Z9 s U H Q I hw;refine wpAny_isTrue_Compare1 (Z2 (h Z9 s U H _ I hw) fun v s1 h1=>Z2 h1 fun u s2 h2=>Z2 h2 fun c s3 ⟨x,H1,I1,r1,q1⟩=>?_) h1;obtain⟨d,rfl,q⟩:=q1;cases r1;exact wpAny_truthy_bool ⟨H1,I1,q⟩
def dW {e:Expr}{t:TE}(h:PE X e t)(he:autoParam (∀ whole,isTrue e X.env whole=(do let v <- whole;standAt e.pos;holding [v] (truthy v))) Px):PT X e (tB t):=by intro Z9 s U H Q I hw;refine isTrue_plain (Z2 (h Z9 s U H _ I hw) fun v s1 ⟨x,H1,I1,r1,q1⟩=>?_) (he _);obtain⟨d,rfl,q⟩:=q1;cases r1;exact wpAny_truthy_bool ⟨H1,I1,q⟩
variable {tA tB':TT}{rest:List Expr}
def zzx (t u:TT):TT:=fun U H Q=>t U H fun c H1=>if c=true then u U H1 Q else Q false H1
def ϝ (t u:TT):TT:=fun U H Q=>t U H fun c H1=>if c=true then Q true H1 else u U H1 Q
def fj (t:TT):TT:=fun U H Q=>t U H fun c H1=>Q (!c) H1
def zqQ (ha:PT X a tA):PW X (.BoolOp .And [a] pos) tA:=by
 intro wh Z9 s U H Q I h;refine isTrue_and (Z2 (ha Z9 s U H Q I h) fun c s1 e=>?_);cases c with
 |true=>exact isTrue_and_nil e
 |false=>exact e
def zu3 (ha:PT X a tA):PW X (.BoolOp .Or [a] pos) tA:=by
 intro wh Z9 s U H Q I h;refine isTrue_or (Z2 (ha Z9 s U H Q I h) fun c s1 e=>?_);cases c with
 |false=>exact isTrue_or_nil e
 |true=>exact e
def zuf (ha:PT X a tA)(hb:PW X (.BoolOp .And (b::rest) pos) tB'):PW X (.BoolOp .And (a::b::rest) pos) (zzx tA tB'):=by
 intro wh Z9 s U H Q I h;refine isTrue_and (Z2 (ha Z9 s U H _ I h) fun c s1 ⟨H1,I1,q1⟩=>?_);cases c with
 |true=>exact hb wh Z9 s1 U H1 Q I1 q1
 |false=>exact⟨H1,I1,q1⟩
def cG (ha:PT X a tA)(hb:PW X (.BoolOp .Or (b::rest) pos) tB'):PW X (.BoolOp .Or (a::b::rest) pos) (ϝ tA tB'):=by
 intro wh Z9 s U H Q I h;refine isTrue_or (Z2 (ha Z9 s U H _ I h) fun c s1 ⟨H1,I1,q1⟩=>?_);cases c with
 |true=>exact⟨H1,I1,q1⟩
 |false=>exact hb wh Z9 s1 U H1 Q I1 q1
def ĵ (ha:PT X a tA):PT X (.UnaryOp .Not a pos) (fj tA):=by intro Z9 s U H Q I h;exact isTrue_not (ha Z9 s U H (fun c H1=>Q (!c) H1) I h)
def ě (ta tb:TE):TE:=fun U H Q=>ta U H fun x H1=>∃ c,x=.bl c/\if c=true then tb U H1 Q else Q (.bl false) H1
def zyE (ta tb:TE):TE:=fun U H Q=>ta U H fun x H1=>∃ c,x=.bl c/\if c=true then Q (.bl true) H1 else tb U H1 Q
def zxF (ta:TE):TE:=fun U H Q=>ta U H fun x H1=>∃ c,x=.bl c/\Q (.bl (!c)) H1
def zt1 {op}{t:TE}(h:PE X a t):PE X (.BoolOp op [a] pos) t:=fun Z9 s U H Q I hw=>BoolOp_one (h Z9 s U H Q I hw)
def zvm (ha:PE X a ta)(hb:PE X (.BoolOp .And (b::rest) pos) tb):PE X (.BoolOp .And (a::b::rest) pos) (ě ta tb):=by
 intro Z9 s U H Q I h;refine BoolOp_and (Z2 (ha Z9 s U H _ I h) fun v s1 ⟨x,H1,I1,r1,q1⟩=>?_);obtain⟨c,rfl,q1⟩:=q1;cases r1;refine wpAny_truthy_bool ?_;cases c with
 |true=>exact hb Z9 s1 U H1 Q I1 q1
 |false=>exact⟨.bl false,H1,I1,rfl,q1⟩
def zwD (ha:PE X a ta)(hb:PE X (.BoolOp .Or (b::rest) pos) tb):PE X (.BoolOp .Or (a::b::rest) pos) (zyE ta tb):=by
 intro Z9 s U H Q I h;refine BoolOp_or (Z2 (ha Z9 s U H _ I h) fun v s1 ⟨x,H1,I1,r1,q1⟩=>?_);obtain⟨c,rfl,q1⟩:=q1;cases r1;refine wpAny_truthy_bool ?_;cases c with
 |false=>exact hb Z9 s1 U H1 Q I1 q1
 |true=>exact⟨.bl true,H1,I1,rfl,q1⟩
def zvn (ha:PE X a ta):PE X (.UnaryOp .Not a pos) (zxF ta):=by intro Z9 s U H Q I h;refine UnaryOp_ (Z2 (ha Z9 s U H _ I h) fun v s1 ⟨x,H1,I1,r1,q1⟩=>?_);obtain⟨c,rfl,q1⟩:=q1;cases r1;exact not_of (wpAny_truthy_bool ⟨.bl (!c),H1,I1,rfl,q1⟩)
def gU (t:TT)(ta tb:TE):TE:=fun U H Q=>t U H fun c H1=>if c=true then ta U H1 Q else tb U H1 Q
def c7 (hc:PT X c tA)(ha:PE X a ta)(hb:PE X b tb):PE X (.IfExp c a b pos) (gU tA ta tb):=by
 intro Z9 s U H Q I h;refine wpAny_IfExp (Z2 (hc Z9 s U H _ I h) fun d s1 ⟨H1,I1,q1⟩=>?_);cases d with
 |true=>exact ha Z9 s1 U H1 Q I1 q1
 |false=>exact hb Z9 s1 U H1 Q I1 q1
end
def ZC (K:Ĳ)(H:Hp)(a:Addr)(xs:List V):Prop :=
 Rd H a (.lst xs) \/
  ∃ (o:Obj) (its:Array ĸ) (n:Nat),K.lookup a=some o/\o.cls=.type "list"/\o.dict=none/\o.data=.seq its n/\its.size<=sizeLine/\Vals xs its.toList
def ZP (K:Ĳ)(H:Hp)(a:Addr)(xs:List V):Prop :=
 Rd H a (.tup xs) \/
  ∃ (o:Obj) (its:Array ĸ) (n:Nat),K.lookup a=some o/\o.cls=.type "tuple"/\o.data=.seq its n/\its.size<=sizeLine/\Vals xs its.toList
def Ĵ:ĸ->Option V
 |.none=>some .non
 |.bool b=>some (.bl b)
 |.int i _=>some (.int i)
 |.str x _=>some (.str x)
 |.bytes b _=>some (.byt b)
 |.float b _=>some (.flt b)
 |.ref a=>some (.ref a)
 |.type n=>some (.ty n)
 |_=>none
def RelV.abs (r:RelV x u):Ĵ u=some x:=by
 cases x with
 |non=>cases r;rfl
 |bl _=>cases r;rfl
 |int _=>obtain⟨t,rfl⟩:=r;rfl
 |str _=>obtain⟨t,rfl⟩:=r;rfl
 |byt _=>obtain⟨t,rfl⟩:=r;rfl
 |flt _=>obtain⟨t,rfl⟩:=r;rfl
 |ref _=>cases r;rfl
 |ty _=>cases r;rfl
def RelV.inj (r:RelV x u)(q:RelV y u):x=y:=qD (r.abs.symm.trans q.abs)
theorem Vals.inj:∀ {xs ys:List V} {us:List ĸ},Vals xs us->Vals ys us->xs=ys
 |_,_,_,.nil,.nil=>rfl
 |_,_,_,.cons r t,.cons r' t'=>by rw[r.inj r',Vals.inj t t']
section
variable {X:Cx}{Z9:List (Addr×Obj)}{U:St}{H:Hp}{s:ĳ}{a:Addr}{xs ys:List V}
def ZC.of {K:Ĳ}(h:H a=some (.lst xs)):ZC K H a xs:=.inl (.inl h)
def ZP.of {K:Ĳ}(h:H a=some (.tup xs)):ZP K H a xs:=.inl (.inl h)
def Inv.list (I:Inv X Z9 U H s)(h:ZC X.K H a xs):∃ its:List ĸ,Vals xs its/\PlainL s.heap a its.toArray/\xs.length<=sizeLine:=by
 rcases h with h|⟨o,its,n,hk,hc,hd,hs,hz,r⟩
 ·obtain⟨z,its,n,r,e⟩:=h.ok I.hok;exact⟨its,r,⟨_,n,e,rfl,rfl,rfl⟩,z⟩
 ·refine⟨its.toList,r,⟨o,n,I.kIn a o hk,hc,hd,by simpa using hs⟩,?_⟩;have e:=r.length;simp only[Vh]at e;lia
def Inv.tuple (I:Inv X Z9 U H s)(h:ZP X.K H a xs):∃ its:List ĸ,Vals xs its/\IsTup s.heap a its.toArray/\xs.length<=sizeLine:=by
 rcases h with h|⟨o,its,n,hk,hc,hs,hz,r⟩
 ·obtain⟨z,its,r,p⟩:=h.ok I.hok;exact⟨its,r,p,z⟩
 ·refine⟨its.toList,r,⟨o,I.kIn a o hk,hc,n,by simpa using hs⟩,?_⟩;have e:=r.length;simp only[Vh]at e;lia
def Inv.list_inj (I:Inv X Z9 U H s)(h:ZC X.K H a xs)(h':ZC X.K H a ys):xs=ys:=by
 obtain⟨its,r,⟨o,n,e,_,_,d⟩,_⟩:=I.list h;obtain⟨its',r',⟨o',n',e',_,_,d'⟩,_⟩:=I.list h';rw[e]at e';cases e';rw[d]at d';injection d' with d1 _;have:its=its':=by simpa using congrArg Array.toList d1
 subst this;exact r.inj r'
def Inv.tuple_inj (I:Inv X Z9 U H s)(h:ZP X.K H a xs)(h':ZP X.K H a ys):xs=ys:=by
 obtain⟨its,r,⟨o,e,_,n,d⟩,_⟩:=I.tuple h;obtain⟨its',r',⟨o',e',_,n',d'⟩,_⟩:=I.tuple h';rw[e]at e';cases e';rw[d]at d';injection d' with d1 _;have:its=its':=by simpa using congrArg Array.toList d1
 subst this;exact r.inj r'
end
abbrev Cx.wish (X:Cx)(E:ĸ->ĳ->Prop):Cx:={ X with xe:=E }
abbrev Cx.nox (X:Cx):Cx:=X.wish fun _ _=>False
theorem Cx.Ok.wish {X:Cx}(ok:X.Ok)(E:ĸ->ĳ->Prop):(X.wish E).Ok :=⟨ok.mod,ok.kind,ok.glob,ok.blt,ok.above,ok.inj,ok.has,ok.cab,ok.hd,ok.frames,ok.stk,ok.exf,ok.bs,ok.bsz,ok.noex,ok.exfs,ok.funs,ok.frf⟩
def Cx.Ok.unwish {X:Cx}{E:ĸ->ĳ->Prop}(ok:(X.wish E).Ok):X.Ok :=⟨ok.mod,ok.kind,ok.glob,ok.blt,ok.above,ok.inj,ok.has,ok.cab,ok.hd,ok.frames,ok.stk,ok.exf,ok.bs,ok.bsz,ok.noex,ok.exfs,ok.funs,ok.frf⟩
section
variable {X:Cx}{Z9:List (Addr×Obj)}{U:St}{H:Hp}{s:ĳ}{E:ĸ->ĳ->Prop}
theorem Inv.wish (I:Inv X Z9 U H s)(E:ĸ->ĳ->Prop):Inv (X.wish E) Z9 U H s:=⟨I.ok.wish E,I.os,I.bare,I.base,I.loc,I.cell,I.free,I.freeC,I.pin,I.hok,I.len⟩
theorem Inv.unwish (I:Inv (X.wish E) Z9 U H s):Inv X Z9 U H s:=⟨I.ok.unwish,I.os,I.bare,I.base,I.loc,I.cell,I.free,I.freeC,I.pin,I.hok,I.len⟩
theorem SP.unwish {D:Ends}(h:SP (X.wish E) Z9 D f s'):SP X Z9 D f s':=by
 cases f with
 |next=>obtain⟨σ',H',I,q⟩:=h;exact⟨σ',H',I.unwish,q⟩
 |brk=>obtain⟨σ',H',I,q⟩:=h;exact⟨σ',H',I.unwish,q⟩
 |cont=>obtain⟨σ',H',I,q⟩:=h;exact⟨σ',H',I.unwish,q⟩
 |ret u=>obtain⟨v,σ',H',I,r,q⟩:=h;exact⟨v,σ',H',I.unwish,r,q⟩
theorem XQ.nox {st:List Stmt}{t:TS}(h:XQ X.nox st t):XQ X st t:=fun Z9 s U H D I hw =>wpAny_mono (h Z9 s U H D (I.wish _) hw) (fun _ _ q=>q.unwish) fun _ _ z=>False.elim z
end
section
variable {X:Cx}{st:Stmt}{rest:List Stmt}{t u:TS}{e:Expr}{te:TE}{pos:Pos}
def oY:TS:=fun D U H=>D.nx U H
def iR (t u:TS):TS:=fun D U H=>t { D with nx:=u D } U H
def iB:XQ X [] oY:=fun _ _ U H _ I h=>wpAny_execs_nil ⟨U,H,I,h⟩
def Ũ (h1:PS X st t)(h2:XQ X rest u):XQ X (st::rest) (iR t u):=by
 intro Z9 s U H D I h;refine wpAny_execs_cons (Z2 (h1 Z9 s U H { D with nx:=u D } I h) fun f s1 q=>?_);cases f with
 |next =>obtain⟨σ',H',I',q⟩:=q;exact h2 Z9 s1 σ' H' D I' q
 |ret v=>exact q
 |brk=>exact q
 |cont=>exact q
def gO (h1:PS X st t):XQ X [st] t:=by
 intro Z9 s U H D I h;refine wpAny_execs_cons (Z2 (h1 Z9 s U H D I h) fun f s1 q=>?_);cases f with
 |next=>exact wpAny_execs_nil q
 |ret v=>exact q
 |brk=>exact q
 |cont=>exact q
def zuW:TS:=fun D U H=>D.bk U H
def zx5:TS:=fun D U H=>D.ct U H
def zqo:PS X (.Pass pos) oY:=fun _ _ U H _ I h=>wpAny_Pass ⟨U,H,I,h⟩
def jy:PS X (.Break pos) zuW:=fun _ _ U H _ I h=>wpAny_Break ⟨U,H,I,h⟩
def zj9:PS X (.Continue pos) zx5:=fun _ _ U H _ I h=>wpAny_Continue ⟨U,H,I,h⟩
def Inv.quiet (I:Inv X Z9 U H s):interactive X.env=false:=by simp[interactive,I.ok.kind]
def ϯ (te:TE):TS:=fun D U H=>te U H fun _ H1=>D.nx U H1
def zqw (he:PE X e te)(hs:autoParam (swapsWith e none pos.line X.env=pure false) zB):PS X (.Expr e pos) (ϯ te):=by intro Z9 s U H D I h;exact wpAny_Expr_any (Z2 (he Z9 s U H _ I h) fun v s1 zq1=>by obtain⟨x,H1,I1,r1,q1⟩:=zq1;exact⟨U,H1,I1,q1⟩) I.quiet hs
def iC (te:TE):TS:=fun D U H=>te U H D.rt
def Ľ (he:PE X e te):PS X (.Return (some e) pos) (iC te):=by intro Z9 s U H D I h;exact wpAny_Return_some (Z2 (he Z9 s U H _ I h) fun v s1 zq2=>by obtain⟨x,H1,I1,r1,q1⟩:=zq2;exact⟨x,U,H1,I1,r1,q1⟩)
def ő (c:TT)(t u:TS):TS:=fun D U H=>c U H fun b H1=>if b=true then t D U H1 else u D U H1
def Ö (hc:PT X c tc)(ha:XQ X a t)(hb:XQ X b u):PS X (.If c a b pos) (ő tc t u):=by
 intro Z9 s U H D I h;refine wpAny_If (Z2 (hc Z9 s U H _ I h) fun d s1 ⟨H1,I1,q1⟩=>?_);cases d with
 |true=>exact ha Z9 s1 U H1 D I1 q1
 |false=>exact hb Z9 s1 U H1 D I1 q1
def ztf:TS:=fun _ _ _=>False
def zoO:PS X st ztf:=fun _ _ _ _ _ _ h=>h.elim
end
abbrev TG:=V->St->Hp->(St->Hp->Prop)->Prop
abbrev QT:=List V->St->Hp->(St->Hp->Prop)->Prop
def PG (X:Cx)(target:Expr)(t:TG):Prop :=
 ∀ (Z9:List (Addr×Obj)) (s:ĳ) (U:St) (H:Hp) (v:V) (u:ĸ) (Q:St->Hp->Prop),Inv X Z9 U H s->RelV v u->t v U H Q ->
  wpAny (model X.prog X.w) X.A (assign target X.env u) (fun _ s'=>∃ σ' H',Inv X Z9 σ' H' s'/\Q σ' H') X.xe s
def Mt (X:Cx)(ts:List Expr)(t:QT):Prop :=
 ∀ (Z9:List (Addr×Obj)) (s:ĳ) (U:St) (H:Hp) (vs:List V) (us:List ĸ) (Q:St->Hp->Prop),Inv X Z9 U H s->Vals vs us->t vs U H Q ->
  wpAny (model X.prog X.w) X.A (assignInOrder ((assignEach ts X.env).map (·.2)) us) (fun _ s'=>∃ σ' H',Inv X Z9 σ' H' s'/\Q σ' H') X.xe s
abbrev GD:=V->V->V->Hp->(Hp->Prop)->Prop
def uD (X:Cx)(t:GD):Prop :=
 ∀ (Z9:List (Addr×Obj)) (s:ĳ) (U:St) (H:Hp) (o i v:V) (ov iv u:ĸ) (Q:Hp->Prop),Inv X Z9 U H s->RelV o ov->RelV i iv->RelV v u->t o i v H Q ->
  wpAny (model X.prog X.w) X.A (setItem ov iv u) (fun _ s'=>∃ H',Inv X Z9 U H' s'/\Q H') X.xe s
abbrev Ea:=V->V->Hp->VK->Prop
def oh (X:Cx)(op:Operator)(t:Ea):Prop :=
 ∀ (Z9:List (Addr×Obj)) (s:ĳ) (U:St) (H:Hp) (x y:V) (v u:ĸ) (Q:VK),Inv X Z9 U H s->RelV x v->RelV y u->t x y H Q ->
  wpAny (model X.prog X.w) X.A (inplaceOp op v u) (EP X Z9 U Q) X.xe s
section
variable {X:Cx}{pos:Pos}
def zP (i:Nat):TG:=fun v U H Q=>Q (U.set i (some v)) H
def zsx {i:Nat}{x:Str}(hN:X.N.Nodup)(hi:X.N[i]?=some x)(hx:Loc X.env.scope x)(hf:autoParam (X.fn x=true\/X.env.scope.names.lookup x=some .local) Ro):PG X (.Name x pos) (zP i):=by intro Z9 s U H v u Q I r h;exact wpAny_assign_Name (Dq I hN hi hx r (fun s' I'=>⟨_,H,I',h⟩) hf)
def YW:QT:=fun vs U H Q=>vs=[]/\Q U H
def zJ (t:TG)(u:QT):QT:=fun vs U H Q=>∃ v r,vs=v::r/\t v U H fun σ' H'=>u r σ' H' Q
def zqM:Mt X [] YW:=by intro Z9 s U H vs us Q I r h;obtain⟨e,h⟩:=h;subst e;cases r;exact assignInOrder_nil ⟨U,H,I,h⟩
def zpk {e:Expr}{t:TG}(h1:PG X e t)(h2:Mt X es u)(hs:autoParam ((assignEach (e::es) X.env).map (·.2)=assign e X.env::(assignEach es X.env).map (·.2)) zB):Mt X (e::es) (zJ t u):=by
 intro Z9 s U H vs us Q I r h;obtain⟨v,vr,e1,h⟩:=h;subst e1;cases r with
 |cons r rr =>rw[hs];refine assignInOrder_cons (Z2 (h1 Z9 s U H _ _ _ I r h) fun _ s1 ⟨σ1,H1,I1,q1⟩=>?_);exact h2 Z9 s1 σ1 H1 _ _ Q I1 rr q1
def YL (K:Ĳ)(n:Nat)(t:QT):TG:=fun v U H Q=>∃ a xs,v=.ref a/\ZP K H a xs/\xs.length=n/\t xs U H Q
def zvE {k:Nat}{t:QT}{n:Nat}(hc:X.calm=true)(h:Mt X es t)(hn:autoParam ((assignEach es X.env).length=n) zB)(hst:autoParam ((assignEach es X.env).findIdx? (·.1)=none) zB):PG X (.Tuple es k pos) (YL X.K n t):=by
 intro Z9 s U H v u Q I r hw;obtain⟨a,xs,e1,hq,hl,hw⟩:=hw;subst e1;cases r;obtain⟨its,rv,ht,hz⟩:=I.tuple hq;refine assign_Tuple_tuple (I.ok.hd hc) ht (by simp[hn,<- hl,rv.length]) hst fun h' hx=>?_
 have I1:Inv X Z9 U H { s with heap:=h' }:=I.kept (t':=s.toks) fun b o e=>hx b o (qZ (qA e)) e
 exact h Z9 _ U H xs _ Q I1 (by simpa using rv) hw
def Od (to ti:TE)(t:GD):TG:=fun v U H Q=>to U H fun o H1=>ti U H1 fun i H2=>t o i v H2 fun H3=>Q U H3
def cY {t:GD}(ho:PE X o to)(hi:PE X i ti)(hs:uD X t)(ha:∀ v,assign (.Subscript o i pos) X.env v=(do
   let ov <- holding [v] (eval o X.env);let iv <- holding [v,ov] (eval i X.env)
   standAt pos
   holding [v,ov,iv] (setItem ov iv v)
   release [v,ov,iv] []):=by intro _;rfl):PG X (.Subscript o i pos) (Od to ti t):=by
 intro Z9 s U H v u Q I r h;rw[ha];refine wpAny_bind (wpAny_holding (Z2 (ho Z9 s U H _ I h) fun ov s1 ⟨x,H1,I1,r1,q1⟩=>?_));refine wpAny_bind (wpAny_holding (Z2 (hi Z9 s1 U H1 _ I1 q1) fun iv s2 ⟨y,H2,I2,r2,q2⟩=>?_));refine wpAny_bind (wpAny_standAt (wpAny_bind (wpAny_holding (Z2 (hs Z9 s2 U H2 x y v ov iv u _ I2 r1 r2 r q2) fun _ s3 ⟨H3,I3,q3⟩=>?_))));exact wpAny_release ⟨U,H3,I3,q3⟩
def Ec (te:TE)(g:TG):TS:=fun D U H=>te U H fun x H1=>g x U H1 D.nx
def zsQ {e:Expr}(he:PE X e te)(hg:PG X tg g)(hs:autoParam (swapsWithSole [tg] e pos.line X.env=pure false) zB)(hw:autoParam (swappedStores [tg] e X.env=pure none) zB)(h1:autoParam ((assignEach [tg] X.env).map (·.2)=[assign tg X.env]) zB):PS X (.Assign [tg] e pos) (Ec te g):=by intro Z9 s U H D I h;refine wpAny_Assign_stores (Z2 (he Z9 s U H _ I h) fun v s1 ⟨x,H1,I1,r1,q1⟩=>?_) hs hw;rw[h1];exact Z2 (hg Z9 s1 U H1 x v _ I1 r1 q1) fun _ s2 q=>q
def ϩ {i:Nat}{x:Str}{e:Expr}{pos':Pos}(hN:X.N.Nodup)(hi:X.N[i]?=some x)(hx:Loc X.env.scope x)(he:PE X e te)(hs:autoParam (swapsWith e (some (.Name x pos')) pos.line X.env=pure false) zB)(hf:autoParam (X.fn x=true\/X.env.scope.names.lookup x=some .local) Ro) :
  PS X (.Assign [.Name x pos'] e pos) (Ec te (zP i)):=by
 intro Z9 s U H D I h;refine wpAny_Assign_Name (Z2 (he Z9 s U H _ I h) fun v s1 ⟨y,H1,I1,r1,q1⟩=>?_) hs;exact Dq I1 hN hi hx r1 (fun s2 I2=>⟨_,H1,I2,q1⟩) hf
def dH (i:Nat)(te:TE)(ti:Ea):TS:=fun D U H=>∃ x,U[i]?=some (some x)/\te U H fun y H1=>ti x y H1 fun z H2=>D.nx (U.set i (some z)) H2
def zvQ {i:Nat}{x:Str}{e:Expr}{pos':Pos}(hN:X.N.Nodup)(hi:X.N[i]?=some x)(hx:Loc X.env.scope x)(he:PE X e te)(ho:oh X op ti)(hf:autoParam (X.fn x=true\/X.env.scope.names.lookup x=some .local) Ro) :
  PS X (.AugAssign (.Name x pos') op e pos) (dH i te ti):=by
 intro Z9 s U H D I h;obtain⟨v,e1,h⟩:=h;obtain⟨m,hn,hl⟩:=I.loc;have vis:Vis X.env.scope x:=by rcases hx with k|k;exact .inl k;exact .inr (.inl k)
 obtain⟨u,r,l⟩:=hl i x v hi e1 vis;refine wpAny_AugAssign_Name ?_
 have go:wpAny (model X.prog X.w) X.A (eval e X.env) (fun w s₂=>wpAny (model X.prog X.w) X.A (inplaceOp op u w) (fun r s₃=>wpAny (model X.prog X.w) X.A (storeName X.env x r) (fun _=>SP X Z9 D .next) X.xe s₃) X.xe s₂) X.xe s:=by
  refine Z2 (he Z9 s U H _ I h) fun w s1 ⟨y,H1,I1,r1,q1⟩=>?_
  refine Z2 (ho Z9 s1 U H1 v y u w _ I1 r r1 q1) fun z s2 ⟨zv,H2,I2,r2,q2⟩=>?_
  exact Dq I2 hN hi hx r2 (fun s3 I3=>⟨_,H2,I3,q2⟩) hf
 rcases l with⟨hk,hm⟩|⟨hk,c,hc,hcell⟩
 ·exact wpAny_loadName_local I.ok.kind hk hn hm go
 ·rcases hk with hk|hk
  ·exact wpAny_loadName_cell I.ok.kind hk hc hcell go
  ·rcases hx with k|k
   ·have:X.env.scope.names.lookup x=some .free:=hk;rw[k]at this;cases this
   ·have:X.env.scope.names.lookup x=some .free:=hk;rw[k]at this;cases this
def ϻ (f:Int->Int->Int):Ea:=fun x y H Q=>∃ i j,x=.int i/\y=.int j/\Q (.int (f i j)) H
def bY:oh X .Add (ϻ fun i j=>i+j):=by intro Z9 s U H x y v u Q I r1 r2 h;obtain⟨i,j,e1,e2,q⟩:=h;subst e1;subst e2;obtain⟨t,rfl⟩:=r1;obtain⟨t',rfl⟩:=r2;exact iadd_int ⟨.int _,H,I.tok _,⟨_,rfl⟩,q⟩
end
section
variable {X:Cx}{pos:Pos}
def ztd (c:TT)(tb:TS):TS:=fun D U H=>∃ W:Nat->St->Hp->Prop,(∃ m,W m U H)/\∀ m U H,W m U H ->
 c U H fun b H1=>if b=true then ∃ N:St->Hp->Prop,(∀ σ' H',N σ' H'->∃ m',m'<m/\W m' σ' H')/\tb { D with nx:=N,ct:=N,bk:=D.nx } U H1 else D.nx U H1
def aH (hp:PassesOwn (model X.prog X.w) X.A X.env X.xe)(hc:PT X c tc)(hb:XQ X body tb):PS X (.While c body [] pos) (ztd tc tb):=by
 intro Z9 s U H D I h;obtain⟨W,⟨m0,w0⟩,turn⟩:=h;refine wpAny_While (codeAny_whileLoop (fun n s'=>∃ σ' H',Inv X Z9 σ' H' s'/\W n σ' H') ?_ m0 ⟨U,H,I,w0⟩);rintro n s1 ⟨σ1,H1,I1,w1⟩;refine wpAny_passesOwn hp (Z2 (hc Z9 s1 σ1 H1 _ I1 (turn n σ1 H1 w1)) fun b s2 ⟨H2,I2,q2⟩=>?_);cases b with
 |true =>
  obtain⟨N,hN,q2⟩:=q2;rw[if_pos rfl];refine wpAny_passesOwn hp (Z2 (hb Z9 s2 σ1 H2 _ I2 q2) fun f s3 q3=>?_);cases f with
  |next =>obtain⟨σ3,H3,I3,n3⟩:=q3;obtain⟨m',hm,w3⟩:=hN σ3 H3 n3;exact⟨m',hm,σ3,H3,I3,w3⟩
  |cont =>obtain⟨σ3,H3,I3,n3⟩:=q3;obtain⟨m',hm,w3⟩:=hN σ3 H3 n3;exact⟨m',hm,σ3,H3,I3,w3⟩
  |brk=>exact q3
  |ret v=>exact q3
 |false =>rw[if_neg qr];exact wpAny_execs_nil ⟨σ1,H2,I2,q2⟩
end
structure It where
 go:Nat->Hp->Prop
 yld:Nat->Hp->V->Hp->Prop
 stop:Nat->Hp->Prop
def V0 (X:Cx)(Z9:List (Addr×Obj))(H:Hp)(b:Addr):Prop :=H b=none/\b≠X.env.locals/\b∉X.fs/\(b∈X.ex\/X.s₀.heap.objs.size<=b)/\(∀ x c,X.env.cells.lookup x=some c->c≠b)/\∀ p∈X.pn++Z9,p.1≠b
def Inv.fpOk {H':Hp}{b:Addr}(I:Inv X Z9 U H s)(hb:s.heap.objs.size<=b)(hn:H' b=none):V0 X Z9 H' b:=by
 refine⟨hn,Wj (qF I.lt hb),I.nofs hb,.inr (qW I.sz hb),fun x c e z=>?_,fun p hp z=>?_⟩
 ·obtain⟨v,q⟩:=I.cell x c e;exact absurd (qF q.lt (by rw[z];exact hb)) (Xx _)
 ·exact absurd (qF (qA (I.pin p hp).1) (by rw[z];exact hb)) (Xx _)
structure Turn (P:Program)(w:World)(K:Ĳ)(tg:Expr)(J:It)(fp:List Addr)(it:Addr)(tn:Nat->Heap->Prop):Prop where
 mem:it∈fp
 obj:∀ i h,tn i h->∀ b∈fp,∃ o,h.get? b=some o/\∀ v,o.data≠.cell v
 keep:∀ i h h',tn i h->(∀ b∈fp,∀ o,h.get? b=some o->h'.get? b=some o)->tn i h'
 item:∀ (X:Cx),X.prog=P->X.w=w->X.K=K->X.calm=true->∀ (i:Nat) (Z9:List (Addr×Obj)) (s:ĳ) (U:St) (H:Hp) (E:ĸ->ĳ->Prop),Inv X Z9 U H s->(∀ b∈fp,V0 X Z9 H b)->tn i s.heap->J.go i H ->
  wpAny (model P w) X.A (pyNext (.ref it)) (fun r s1=>∃ u,r=some u /\
   wpAny (model P w) X.A (letOwnedTupleGo tg (.ref it) u) (fun _ s2=>∃ x H',Inv X Z9 U H' s2/\RelV x u/\J.yld i H x H'/\tn (i+1) s2.heap/\∀ b∈fp,H' b=none) E s1) E s
 done:∀ (X:Cx),X.prog=P->X.w=w->X.K=K->X.calm=true->∀ (i:Nat) (Z9:List (Addr×Obj)) (s:ĳ) (U:St) (H:Hp) (E:ĸ->ĳ->Prop),Inv X Z9 U H s->(∀ b∈fp,V0 X Z9 H b)->tn i s.heap->J.stop i H ->
  wpAny (model P w) X.A (pyNext (.ref it)) (fun r s1=>r=none/\Inv X Z9 U H s1) E s
 self:∀ (A:Around) (i:Nat) (s:ĳ) (Q:ĸ->ĳ->Prop) (E:ĸ->ĳ->Prop),tn i s.heap->Q (.ref it) s->wpAny (model P w) A (pyIter (.ref it)) Q E s
abbrev TI:=St->Hp->(It->Hp->Prop)->Prop
def PIE (X:Cx)(Z9:List (Addr×Obj))(U:St)(tg:Expr)(R:It->Hp->Prop)(itv:ĸ)(s2:ĳ):Prop :=∃ (it:Addr) (fp:List Addr) (tn:Nat->Heap->Prop) (J:It) (H':Hp),itv=.ref it/\Inv X Z9 U H' s2/\Turn X.prog X.w X.K tg J fp it tn/\tn 0 s2.heap/\(∀ b∈fp,V0 X Z9 H' b)/\R J H'
def PI (X:Cx)(tg iter:Expr)(wi:TI):Prop :=
 ∀ (Z9:List (Addr×Obj)) (s:ĳ) (U:St) (H:Hp) (R:It->Hp->Prop),Inv X Z9 U H s->wi U H R ->
  wpAny (model X.prog X.w) X.A (eval iter X.env) (fun v s1=>wpAny (model X.prog X.w) X.A (pyIter v) (PIE X Z9 U tg R) X.xe s1) X.xe s
def Ob {M:Model}{A:Around}{E:ĸ->ĳ->Prop}{s:ĳ}{tg:Expr}{it:Addr}{u:ĸ}{o:Obj}{n:String}{vs:Array ĸ}{Q:Unit->ĳ->Prop}(ho:s.heap.get? it=some o)(hc:o.cls=.type n)(hd:o.data=.fields vs)
    (hn:["enumerate","zip","dict_itemiterator","dict_reverseitemiterator","odict_iterator","itertools.zip_longest","itertools.pairwise"].contains n=false) (hQ:Q () s):wpAny M A (letOwnedTupleGo tg (.ref it) u) Q E s:=by
  unfold letOwnedTupleGo
  cases tg<;>first
    |exact wpAny_pure hQ
    | (cases u <;> first
        |exact wpAny_pure hQ
        | (refine wpAny_bind (wpAny_load ho ?_)
           rw[hc,hd];show wpAny M A (if(["enumerate","zip","dict_itemiterator","dict_reverseitemiterator","odict_iterator","itertools.zip_longest","itertools.pairwise"].contains n&&vs[0]?==some (rawInt _))=true then _ else _) Q E s;rw[if_neg (by intro h;rw[hn,Wu]at h;cases h)];exact wpAny_pure hQ))
def Er (K:Ĳ)(a:Addr):It :=⟨fun i H=>∃ xs x,ZC K H a xs/\xs[i]?=some x,fun i H x H'=>H'=H/\∀ xs,ZC K H a xs->xs[i]?=some x,fun i H=>∃ xs,ZC K H a xs/\xs.length<=i⟩
def Ho (K:Ĳ)(a:Addr):It :=⟨fun i H=>∃ xs x,ZP K H a xs/\xs[i]?=some x,fun i H x H'=>H'=H/\∀ xs,ZP K H a xs->xs[i]?=some x,fun i H=>∃ xs,ZP K H a xs/\xs.length<=i⟩
def Rg (lo:Int)(n:Nat):It:=⟨fun i _=>i<n,fun i H x H'=>H'=H/\x=.int (lo+i),fun i _=>n<=i⟩
def fG {P:Program}{w:World}{K:Ĳ}{tg:Expr}(a it:Addr):Turn P w K tg (Er K a) [it] it (fun i h=>h.IsListIter it a i) where
 mem:=by simp
 obj:=fun i h st b hb=>by
  have e:b=it:=by simpa using hb
  subst e;obtain⟨o,e,c,d⟩:=st;exact⟨o,e,fun v z=>by rw[d]at z;cases z⟩
 keep:=fun i h h' st k=>st.at fun o e=>k it (by simp) o e
 item:=by
  intro X hP hw hK hc i Z9 s U H E I hf st hg;subst hP hw hK;obtain⟨xs,x,hq,hx⟩:=hg;obtain⟨its,rv,p,hz⟩:=I.list hq;obtain⟨u,hu,ru⟩:=rv.get hx;obtain⟨f0,f1,f2,f3,f4,f5⟩:=hf it (by simp);refine wpAny_pyNext_list_item st p.isList (x:=u) (by simpa using hu) fun h' st' sb=>?_
  have I1:Inv X Z9 U H { s with heap:=h' }:=I.turned (t':=s.toks) (fun b o hb e=>(sb.2 b hb).trans e) f0 f1 f3 f4 f5;obtain⟨o,e,c,d⟩:=id st';exact⟨u,rfl,Ob (s:={ s with heap:=h' }) e c d (by decide) ⟨x,H,I1,ru,⟨rfl,fun ys hy=>by rw[I.list_inj hy hq];exact hx⟩,st',fun b hb=>(hf b hb).1⟩⟩
 done:=by intro X hP hw hK hc i Z9 s U H E I hf st hg;subst hP hw hK;obtain⟨xs,hq,hx⟩:=hg;obtain⟨its,rv,p,hz⟩:=I.list hq;obtain⟨f0,f1,f2,f3,f4,f5⟩:=hf it (by simp);have hl:=rv.length;exact wpAny_pyNext_list_end (I.ok.hd hc) st p.isList (by simp;lia) fun h' eb=>⟨rfl,I.turned (t':=s.toks) (fun b o hb e=>eb b o hb e) f0 f1 f3 f4 f5⟩
 self:=fun _ _ _ _ _ st h=>wpAny_pyIter_listiter st h
def zlJ {P:Program}{w:World}{K:Ĳ}{tg:Expr}(a it:Addr):Turn P w K tg (Ho K a) [it] it (fun i h=>h.IsTupleIter it a i) where
 mem:=by simp
 obj:=fun i h st b hb=>by
  have e:b=it:=by simpa using hb
  subst e;obtain⟨o,e,c,d⟩:=st;exact⟨o,e,fun v z=>by rw[d]at z;cases z⟩
 keep:=fun i h h' st k=>st.at fun o e=>k it (by simp) o e
 item:=by
  intro X hP hw hK hc i Z9 s U H E I hf st hg;subst hP hw hK;obtain⟨xs,x,hq,hx⟩:=hg;obtain⟨its,rv,p,hz⟩:=I.tuple hq;obtain⟨u,hu,ru⟩:=rv.get hx;obtain⟨f0,f1,f2,f3,f4,f5⟩:=hf it (by simp);refine wpAny_pyNext_tuple_item st (show s.heap.IsTuple a its.toArray from p) (x:=u) (by simpa using hu) fun h' st' sb=>?_
  have I1:Inv X Z9 U H { s with heap:=h' }:=I.turned (t':=s.toks) (fun b o hb e=>(sb.2 b hb).trans e) f0 f1 f3 f4 f5;obtain⟨o,e,c,d⟩:=id st';exact⟨u,rfl,Ob (s:={ s with heap:=h' }) e c d (by decide) ⟨x,H,I1,ru,⟨rfl,fun ys hy=>by rw[I.tuple_inj hy hq];exact hx⟩,st',fun b hb=>(hf b hb).1⟩⟩
 done:=by intro X hP hw hK hc i Z9 s U H E I hf st hg;subst hP hw hK;obtain⟨xs,hq,hx⟩:=hg;obtain⟨its,rv,p,hz⟩:=I.tuple hq;obtain⟨f0,f1,f2,f3,f4,f5⟩:=hf it (by simp);have hl:=rv.length;exact wpAny_pyNext_tuple_end (I.ok.hd hc) st (show s.heap.IsTuple a its.toArray from p) (by simp;lia) fun h' eb=>⟨rfl,I.turned (t':=s.toks) (fun b o hb e=>eb b o hb e) f0 f1 f3 f4 f5⟩
 self:=fun _ _ _ _ _ st h=>wpAny_pyIter_tupleiter st h
def wg {P:Program}{w:World}{K:Ĳ}{tg:Expr}(it:Addr)(lo:Int)(n:Nat):Turn P w K tg (Rg lo n) [it] it (fun i h=>IsRangeIter h it (lo+(i:Nat)*1) ((n:Int)-(i:Nat)) 1) where
 mem:=by simp
 obj:=fun i h st b hb=>by
  have e:b=it:=by simpa using hb
  subst e
  exact⟨_,st,fun v z=>by have z':Data.fields _=Data.cell v:=z;cases z'⟩
 keep:=fun i h h' st k=>k it (by simp) _ st
 item:=by
  intro X hP hw hK hc i Z9 s U H E I hf st hg;subst hP hw hK;obtain⟨f0,f1,f2,f3,f4,f5⟩:=hf it (by simp);have W:=Walks.range (prog:=X.prog) (w:=X.w) (I.ok.hd hc) it lo 1 n;refine W.item i s _ _ hg st fun v h' tk hv st' kk=>?_
  obtain⟨t,rfl⟩:=hv;have I1:Inv X Z9 U H { s with heap:=h',toks:=tk }:=I.turned (fun b o hb e=>kk b o (by simpa using hb) e) f0 f1 f3 f4 f5;refine⟨_,rfl,Ob (s:={ s with heap:=h',toks:=tk }) (n:="range_iterator") st' rfl rfl (by decide) ⟨.int (lo+i),H,I1,⟨t,?_⟩,⟨rfl,rfl⟩,st',fun b hb=>(hf b hb).1⟩⟩;rw[T8]
 done:=by intro X hP hw hK hc i Z9 s U H E I hf st hg;subst hP hw hK;obtain⟨f0,f1,f2,f3,f4,f5⟩:=hf it (by simp);exact wpAny_pyNext_range_end (I.ok.hd hc) st (by have:n<=i:=hg;lia) fun h' eb=>⟨rfl,I.turned (t':=s.toks) (fun b o hb e=>eb b o hb e) f0 f1 f3 f4 f5⟩
 self:=fun _ _ _ _ _ st h=>wpAny_pyIter_rangeiter st h
section
variable {X:Cx}{tg:Expr}
def ï {R:It->Hp->Prop}{E:ĸ->ĳ->Prop}{lo hi:Int}{t u v:Tok}{tk:Nat}(I:Inv X Z9 U H s)(h1:-(2 ^ 62)<=lo)(h2:lo<2 ^ 62)(h3:-(2 ^ 62)<=hi)(h4:hi<2 ^ 62)(q:R (Rg lo (hi-lo).toNat) H):wpAny (model X.prog X.w) X.A (pyIter (.ref s.heap.objs.size)) (PIE X Z9 U tg R) E { s with heap:=s.heap.push { cls:=.type "range",data:=.fields #[.int lo t,.int hi u,.int 1 v] },toks:=tk }:=by
  refine wpAny_pyIter_range (IsRange.new ..) (small_one h1 h2 h3 h4) ?_;have I1:Inv X Z9 U H { s with heap:=s.heap.push { cls:=.type "range",data:=.fields #[.int lo t,.int hi u,.int 1 v] },toks:=tk }:=I.kept fun b o e=>qc _ e
  refine⟨(s.heap.push { cls:=.type "range",data:=.fields #[.int lo t,.int hi u,.int 1 v] }).objs.size,[(s.heap.push { cls:=.type "range",data:=.fields #[.int lo t,.int hi u,.int 1 v] }).objs.size],_,_,H,rfl,
    I1.kept (t':=tk) fun b o e=>qc _ e,wg _ lo (hi-lo).toNat,?_,fun b hb=>?_,q⟩
  . have e1:lo+((0:Nat):Int)*1=lo:=by simp
    have e2:(((hi-lo).toNat:Nat):Int)-((0:Nat):Int)=Builtin.Range.rangeSize lo hi 1:=by rw[rangeSize_one];split<;>lia
    show IsRangeIter _ _ (lo+((0:Nat):Int)*1) ((((hi-lo).toNat:Nat):Int)-((0:Nat):Int)) 1;rw[e1,e2];exact qo _ rfl
  . have e:b=(s.heap.push { cls:=.type "range",data:=.fields #[.int lo t,.int hi u,.int 1 v] }).objs.size:=by simpa using hb
    subst e;exact I1.fpOk (qh _) (I1.hok.fresh (qh _))
def RP (ta:TA):TI:=fun U H R=>ta U H fun vs H1=>∃ j:Int,vs=[.int j]/\-(2 ^ 62)<=j/\j<2 ^ 62/\R (Rg 0 j.toNat) H1
def Ż {a:Expr}{ta:TA}{p pos:Pos}(hg:Gl X "range")(hm:X.mg "range"=none)(ha:PA X [a] ta)(hs:autoParam (starEach [a] X.env=[(false,eval a X.env)]) zB):PI X tg (.Call (.Name "range" p) [a] [] pos) (RP ta):=by
 intro Z9 s U H R I h;refine Call_ (Uj I hg hm boot_range (PyProof.Rows.callWith_type1 (Z2 (ha pos Z9 s U H _ I h) fun us s1 ⟨vs,H1,I1,r1,q1⟩=>?_) hs rfl));obtain⟨j,e,q1,q2,q⟩:=q1;subst e;cases r1 with
 |cons r rr =>cases rr;obtain⟨t,rfl⟩:=r;exact call_range_1 (ï I1 (by lia) (by lia) q1 q2 (by simpa using q))
def č (wi:TI)(g:TG)(tb:TS):TS:=fun D U H=>wi U H fun J H1=>∃ W:Nat->Nat->St->Hp->Prop,(∃ m,W 0 m U H1)/\∀ i m U H,W i m U H ->
 (J.stop i H/\D.nx U H)\/(J.go i H/\∃ N:St->Hp->Prop,(∀ σ' H',N σ' H'->∃ m',m'<m/\W (i+1) m' σ' H')/\∀ x H',J.yld i H x H'->g x U H' fun σ2 H2=>tb { D with nx:=N,ct:=N,bk:=D.nx } σ2 H2)
def Lf (fp:List Addr)(h:Heap):List (Addr×Obj):=fp.filterMap fun b=>(h.get? b).map fun o=>(b,o)
def JN {fp:List Addr}{h:Heap}{b:Addr}{o:Obj}(hb:b∈fp)(e:h.get? b=some o):(b,o)∈Lf fp h:=Uy.mpr ⟨b,hb,by rw[e];rfl⟩
def zm3 {fp:List Addr}{h:Heap}{p:Addr×Obj}(hp:p∈Lf fp h):p.1∈fp/\h.get? p.1=some p.2:=by
 obtain⟨b,hb,e⟩:=Uy.mp hp;cases q:h.get? b with
 |none=>rw[q]at e;cases e
 |some o =>rw[q]at e;have e':(b,o)=p:=qD e;subst e';exact⟨hb,q⟩
def Inv.pinned {fp:List Addr}(I:Inv X Z9 U H s)(hf:∀ b∈fp,V0 X Z9 H b)(ho:∀ b∈fp,∃ o,s.heap.get? b=some o/\∀ v,o.data≠.cell v):Inv X (Z9++Lf fp s.heap) U H s :=
 I.pins_of fun p hp=>(qE.mp hp).elim (fun z=>I.pin p (qL _ z)) fun z=>by obtain⟨hb,e⟩:=zm3 z;obtain⟨f0,f1,f2,_⟩:=hf p.1 hb;obtain⟨o,e',d⟩:=ho p.1 hb;rw[e]at e';cases e';exact⟨e,f0,f1,f2,d⟩
def Inv.unpinned {pl:List (Addr×Obj)}(I:Inv X (Z9++pl) U H s):Inv X Z9 U H s:=I.pins_of fun p hp=>I.pin p (qL _ (V3 _ hp))
def Ő {pos:Pos}(hp:PassesOwn (model X.prog X.w) X.A X.env X.xe)(hc:X.calm=true)(hi:PI X tg iter wi)(hg:PG X tg g)(hb:XQ X body tb)(hs:autoParam (∀ x,foldedSetIterable iter X.env x=pure x) Px):PS X (.For tg iter body [] pos) (č wi g tb):=by
 intro Z9 s U H D I h;refine wpAny_For (Z2 (hi Z9 s U H _ I h) fun v s1 h1=>Z2 h1 fun itv s2 h2=>?_) hs;obtain⟨it,fp,tn,J,H2,e,I2,T,st2,f2,W,⟨m0,w0⟩,turn⟩:=h2;subst e;have stat:∀ {H':Hp},(∀ b∈fp,H' b=none)->∀ b∈fp,V0 X Z9 H' b:=fun hn b hb=>⟨hn b hb,(f2 b hb).2⟩
 refine codeAny_forLoop_any (fun n s'=>∃ i σ' H',Inv X Z9 σ' H' s'/\tn i s'.heap/\(∀ b∈fp,H' b=none)/\W i n σ' H') ?_ m0 ⟨0,U,H2,I2,st2,fun b hb=>(f2 b hb).1,w0⟩;rintro n s3 ⟨i,σ3,H3,I3,st3,fr3,w3⟩;rcases turn i n σ3 H3 w3 with⟨stop,qn⟩|⟨go,N,hN,step⟩
 ·refine wpAny_passesOwn hp (Z2 (T.done X rfl rfl rfl hc i Z9 s3 σ3 H3 X.xe I3 (stat fr3) st3 stop) fun r s4 ⟨hr,I4⟩=>?_);subst hr;exact wpAny_execs_nil ⟨σ3,H3,I4,qn⟩
 ·refine wpAny_passesOwn hp (Z2 (T.item X rfl rfl rfl hc i Z9 s3 σ3 H3 X.xe I3 (stat fr3) st3 go) fun r s4 ⟨u,hr,h4⟩=>?_);subst hr;refine wpAny_passesOwn hp (Z2 h4 fun _ s5 ⟨x,H5,I5,r5,y5,st5,fr5⟩=>?_);have I5':=I5.pinned (stat fr5) (T.obj _ _ st5);refine wpAny_passesOwn hp (Z2 (hg _ s5 σ3 H5 x u _ I5' r5 (step x H5 y5)) fun _ s6 ⟨σ6,H6,I6,q6⟩=>?_);refine wpAny_passesOwn hp (Z2 (hb _ s6 σ6 H6 _ I6 q6) fun f s7 q7=>?_)
  have again:∀ {σ7:St} {H7:Hp},Inv X (Z9++Lf fp s5.heap) σ7 H7 s7->N σ7 H7->∃ m,m<n/\∃ i σ' H',Inv X Z9 σ' H' s7/\tn i s7.heap/\(∀ b∈fp,H' b=none)/\W i m σ' H':=fun {σ7 H7} I7 n7=>by obtain⟨m',hm,w7⟩:=hN σ7 H7 n7;refine⟨m',hm,i+1,σ7,H7,I7.unpinned,T.keep _ _ _ st5 fun b hb o e=>(I7.pin (b,o) (qL _ (qL _ (JN hb e)))).1,fun b hb=>?_,w7⟩;obtain⟨o,e,d⟩:=T.obj _ _ st5 b hb;exact(I7.pin (b,o) (qL _ (qL _ (JN hb e)))).2.1
  cases f with
  |next=>obtain⟨σ7,H7,I7,n7⟩:=q7;exact again I7 n7
  |cont=>obtain⟨σ7,H7,I7,n7⟩:=q7;exact again I7 n7
  |brk=>obtain⟨σ7,H7,I7,q7⟩:=q7;exact⟨σ7,H7,I7.unpinned,q7⟩
  |ret v=>obtain⟨x7,σ7,H7,I7,r7,q7⟩:=q7;exact⟨x7,σ7,H7,I7.unpinned,r7,q7⟩
end
abbrev R2:=V->V->Hp->VK->Prop
def ZQ (X:Cx)(f:ĸ->ĸ->Sem ĸ)(r:R2):Prop :=
 ∀ (Z9:List (Addr×Obj)) (s:ĳ) (U:St) (H:Hp) (x y:V) (v u:ĸ) (Q:VK),Inv X Z9 U H s->RelV x v->RelV y u->r x y H Q ->
  wpAny (model X.prog X.w) X.A (f v u) (EP X Z9 U Q) X.xe s
def Bc (X:Cx)(f:ĸ->Sem ĸ)(r:V->Hp->VK->Prop):Prop :=
 ∀ (Z9:List (Addr×Obj)) (s:ĳ) (U:St) (H:Hp) (x:V) (v:ĸ) (Q:VK),Inv X Z9 U H s->RelV x v->r x H Q ->
  wpAny (model X.prog X.w) X.A (f v) (EP X Z9 U Q) X.xe s
def YM (X:Cx)(f:ĸ)(r:List V->Hp->VK->Prop):Prop :=
 ∀ (Z9:List (Addr×Obj)) (s:ĳ) (U:St) (H:Hp) (xs:List V) (us:List ĸ) (Q:VK),Inv X Z9 U H s->Vals xs us->r xs H Q ->
  wpAny (model X.prog X.w) X.A (call f us) (EP X Z9 U Q) X.xe s
def KD (r:R2)(ta tb:TE):TE:=fun U H Q=>ta U H fun x H1=>tb U H1 fun y H2=>r x y H2 Q
def tUn (r:V->Hp->VK->Prop)(ta:TE):TE:=fun U H Q=>ta U H fun x H1=>r x H1 Q
def rI (C:Int->Int->Prop)(g:Int->Int->V):R2:=fun x y H Q=>∃ i j,x=.int i/\y=.int j/\C i j/\Q (g i j) H
def Vn (g:Int->Int->V):R2:=fun x y H Q=>∃ i j,x=.int i/\y=.int j/\Q (g i j) H
def rU (g:Int->V):V->Hp->VK->Prop:=fun x H Q=>∃ i,x=.int i/\Q (g i) H
section
variable {X:Cx}{a b c:Expr}{ta tb tc:TE}{pos:Pos}
def Em (ha:PE X a ta)(hb:PE X b tb){R:V->V->Hp->Prop}(I:Inv X Z9 U H s)(h:ta U H fun x H1=>tb U H1 fun y H2=>R x y H2){Q:ĸ->ĳ->Prop}{f:ĸ->ĸ->Sem ĸ}(hf:∀ v u s2 x y H2,Inv X Z9 U H2 s2->RelV x v->RelV y u->R x y H2->wpAny (model X.prog X.w) X.A (f v u) Q X.xe s2) :
  wpAny (model X.prog X.w) X.A (eval a X.env) (fun v s₁=>wpAny (model X.prog X.w) X.A (eval b X.env) (fun u s₂=>wpAny (model X.prog X.w) X.A (f v u) Q X.xe s₂) X.xe s₁) X.xe s:=by
 refine Z2 (ha Z9 s U H _ I h) fun v s1 ⟨x,H1,I1,r1,q1⟩=>?_
 refine Z2 (hb Z9 s1 U H1 _ I1 q1) fun u s2 ⟨y,H2,I2,r2,q2⟩=>?_
 exact hf v u s2 x y H2 I2 r1 r2 q2
def vR {op:Operator}(ho:ZQ X (binaryOp op) r)(ha:PE X a ta)(hb:PE X b tb):PE X (.BinOp a op b pos) (KD r ta tb):=by intro Z9 s U H Q I h;exact wpAny_BinOp (Em ha hb I h fun v u s2 x y H2 I2 rx ry q=>ho Z9 s2 U H2 x y v u Q I2 rx ry q)
def ş {op:UnaryOp}(ho:Bc X (unaryOp op) r)(ha:PE X a ta):PE X (.UnaryOp op a pos) (tUn r ta):=by intro Z9 s U H Q I h;exact UnaryOp_ (Z2 (ha Z9 s U H _ I h) fun v s1 zq3=>by obtain⟨x,H1,I1,r1,q1⟩:=zq3;exact ho Z9 s1 U H1 x v Q I1 r1 q1)
def Rf {f:ĸ->ĸ->Sem ĸ}{C:Int->Int->Prop}{g:Int->Int->Int}
  (rule:∀ (i j:Int) (t u:Tok) (s:ĳ) (Q:ĸ->ĳ->Prop) (E:ĸ->ĳ->Prop),C i j->Q (.int (g i j) s.toks) { s with toks:=s.toks+1 }->wpAny (model X.prog X.w) X.A (f (.int i t) (.int j u)) Q E s) :
  ZQ X f (rI C fun i j=>.int (g i j)):=by
 intro Z9 s U H x y v u Q I rx ry h;obtain⟨i,j,rfl,rfl,hc,q⟩:=h;obtain⟨t,rfl⟩:=rx;obtain⟨t',rfl⟩:=ry;exact rule i j t t' s _ _ hc ⟨.int (g i j),H,I.tok _,⟨_,rfl⟩,q⟩
def Dt {f:ĸ->ĸ->Sem ĸ}{g:Int->Int->Int}
  (rule:∀ (i j:Int) (t u:Tok) (s:ĳ) (Q:ĸ->ĳ->Prop) (E:ĸ->ĳ->Prop),Q (.int (g i j) s.toks) { s with toks:=s.toks+1 }->wpAny (model X.prog X.w) X.A (f (.int i t) (.int j u)) Q E s) :
  ZQ X f (Vn fun i j=>.int (g i j)):=by
 intro Z9 s U H x y v u Q I rx ry h;obtain⟨i,j,rfl,rfl,q⟩:=h;obtain⟨t,rfl⟩:=rx;obtain⟨t',rfl⟩:=ry;exact rule i j t t' s _ _ ⟨.int (g i j),H,I.tok _,⟨_,rfl⟩,q⟩
def Ji {f:ĸ->ĸ->Sem ĸ}{g:Int->Int->Bool}
  (rule:∀ (i j:Int) (t u:Tok) (s:ĳ) (Q:ĸ->ĳ->Prop) (E:ĸ->ĳ->Prop),Q (.bool (g i j)) s->wpAny (model X.prog X.w) X.A (f (.int i t) (.int j u)) Q E s) :
  ZQ X f (Vn fun i j=>.bl (g i j)):=by
 intro Z9 s U H x y v u Q I rx ry h;obtain⟨i,j,rfl,rfl,q⟩:=h;obtain⟨t,rfl⟩:=rx;obtain⟨t',rfl⟩:=ry;exact rule i j t t' s _ _ ⟨.bl (g i j),H,I,rfl,q⟩
def sH (i j:Int):Prop:=0<=j/\j<=1000000/\i.natAbs<2 ^ 64
def HD (i j:Int):Prop:=(-(2 ^ 64)<i/\i<2 ^ 64)\/(-(2 ^ 64)<j/\j<2 ^ 64)
def HD.ok (h:HD i j):IntMulOk i j:=by
 rcases h with⟨h1,h2⟩|⟨h1,h2⟩
 ·exact .of_left (intBits_le_64 h1 h2)
 ·exact .of_right (intBits_le_64 h1 h2)
def gM (k:Nat):(0:Int)<=2 ^ k:=by rw[two_pow_cast];exact Int.natCast_nonneg _
def zto:ZQ X (binaryOp .Add) (Vn fun i j=>.int (i+j)):=Dt fun _ _ _ _ _ _ _ q=>add_int q
def gD:ZQ X (binaryOp .Sub) (Vn fun i j=>.int (i-j)):=Dt fun _ _ _ _ _ _ _ q=>sub_int q
def zsb:ZQ X (binaryOp .Mod) (rI (fun _ j=>j≠0) fun i j=>.int (i.fmod j)):=Rf fun _ _ _ _ _ _ _ hc q=>mod_int' hc q
def bG:ZQ X (binaryOp .Pow) (rI sH fun i j=>.int (i ^ j.toNat)):=Rf fun _ _ _ _ _ _ _ hc q=>pow_int_small hc.1 hc.2.1 hc.2.2 q
def zth:ZQ X (binaryOp .LShift) (rI sH fun i j=>.int (i*2 ^ j.toNat)):=Rf fun _ _ _ _ _ _ _ hc q=>lshift_int_small hc.1 hc.2.1 hc.2.2 q
def ztP:ZQ X (binaryOp .RShift) (rI (fun _ j=>0<=j) fun i j=>.int (i/2 ^ j.toNat)):=Rf fun i j _ _ _ _ _ hc q =>rshift_int hc (by rw[Int.fdiv_eq_ediv_of_nonneg i (gM _)];exact q)
def zud:ZQ X (binaryOp .BitAnd) (Vn fun i j=>.int (Builtin.bitAnd i j)):=Dt fun _ _ _ _ _ _ _ q=>and_int q
def unI {f:ĸ->Sem ĸ}{g:Int->Int}
  (rule:∀ (i:Int) (t:Tok) (s:ĳ) (Q:ĸ->ĳ->Prop) (E:ĸ->ĳ->Prop),Q (.int (g i) s.toks) { s with toks:=s.toks+1 }->wpAny (model X.prog X.w) X.A (f (.int i t)) Q E s) :
  Bc X f (rU fun i=>.int (g i)):=by
 intro Z9 s U H x v Q I rx h;obtain⟨i,rfl,q⟩:=h;obtain⟨t,rfl⟩:=rx;exact rule i t s _ _ ⟨.int (g i),H,I.tok _,⟨_,rfl⟩,q⟩
def cN:Bc X (unaryOp .USub) (rU fun i=>.int (-i)):=unI fun _ _ _ _ _ q=>neg_int q
end
section
variable {X:Cx}{a b c:Expr}{ta tb tc:TE}{pos:Pos}
def HW {Q:VK}{k k':Bool}(I:Inv X Z9 U H s)(q:Q (.bl k) H)(e:k=k'):EP X Z9 U Q (.bool k') s:=by subst e;exact⟨.bl k,H,I,rfl,q⟩
def zwT:ZQ X (compareOp .Lt) (Vn fun i j=>.bl (decide (i<j))):=Ji fun _ _ _ _ _ _ _ q=>lt_int q
def jg:ZQ X (compareOp .LtE) (Vn fun i j=>.bl (decide (i<=j))):=Ji fun _ _ _ _ _ _ _ q=>le_int q
def zxD:ZQ X (compareOp .Gt) (Vn fun i j=>.bl (decide (j<i))):=Ji fun _ _ _ _ _ _ _ q=>gt_int q
def ύ:ZQ X (compareOp .GtE) (Vn fun i j=>.bl (decide (j<=i))):=Ji fun _ _ _ _ _ _ _ q=>ge_int q
def Ŭ:ZQ X (compareOp .In) (fun x y H Q=>∃ i j,x=.str i/\y=.str j/\Q (.bl (!(Builtin.Str.occurrences j i 0 j.length 1).isEmpty)) H):=by intro Z9 s U H x y v u Q I rx ry h;obtain⟨i,j,rfl,rfl,q⟩:=h;obtain⟨t,rfl⟩:=rx;obtain⟨t',rfl⟩:=ry;exact in_str (HW I q rfl)
def zua:ZQ X (compareOp .Is) (fun x y H Q=>y=.non/\Q (.bl (decide (x=.non))) H):=by
  intro Z9 s U H x y v u Q I rx ry h;obtain⟨rfl,q⟩:=h;cases ry;refine is_none_gen (HW I q ?_)
  cases x<;>first
    |(cases rx;rfl)
    |(obtain⟨t,rfl⟩:=rx;rfl)
def bO:ZQ X (compareOp .IsNot) (fun x y H Q=>y=.non/\Q (.bl (!decide (x=.non))) H):=by
  intro Z9 s U H x y v u Q I rx ry h;obtain⟨rfl,q⟩:=h;cases ry;refine isnot_none_gen (HW I q ?_)
  cases x<;>first
    |(cases rx;rfl)
    |(obtain⟨t,rfl⟩:=rx;rfl)
def ϳ:ZQ X (compareOp .NotIn) (fun x y H Q=>∃ i j,x=.str i/\y=.str j/\Q (.bl (!(!(Builtin.Str.occurrences j i 0 j.length 1).isEmpty))) H):=by intro Z9 s U H x y v u Q I rx ry h;obtain⟨i,j,rfl,rfl,q⟩:=h;obtain⟨t,rfl⟩:=rx;obtain⟨t',rfl⟩:=ry;exact notIn_str (HW I q rfl)
def ZQ.or (h:ZQ X f r)(h':ZQ X f r'):ZQ X f (fun x y H Q=>r x y H Q\/r' x y H Q):=by
 intro Z9 s U H x y v u Q I rx ry q;rcases q with q|q
 ·exact h Z9 s U H x y v u Q I rx ry q
 ·exact h' Z9 s U H x y v u Q I rx ry q
def aN {op:CmpOp}(ho:ZQ X (compareOp op) r)(ha:PE X a ta)(hb:PE X b tb)(hm:behindInMarks op b=false):PE X (.Compare a [op] [b] pos) (KD r ta tb):=by intro Z9 s U H Q I h;exact wpAny_Compare1 (Em ha hb I h fun v u s2 x y H2 I2 rx ry q=>ho Z9 s2 U H2 x y v u Q I2 rx ry q) hm
def sE (t:TE):TT:=fun U H Q=>t U H fun x H'=>∃ k,x=.bl k/\Q k H'
def zsq {op:CmpOp}(ho:ZQ X (compareOp op) r)(ha:PE X a ta)(hb:PE X b tb)(hm:behindInMarks op b=false):PT X (.Compare a [op] [b] pos) (sE (KD r ta tb)):=by
 intro Z9 s U H Q I h
 refine wpAny_isTrue_Compare1 (Z2 (ha Z9 s U H _ I h) fun v s1 ⟨x,H1,I1,r1,q1⟩=>Z2 (hb Z9 s1 U H1 _ I1 q1) fun u s2 ⟨y,H2,I2,r2,q2⟩ =>Z2 (ho Z9 s2 U H2 x y v u _ I2 r1 r2 q2) fun c s3 ⟨z,H3,I3,r3,k,e,q3⟩=>?_) hm
 subst e;cases r3;exact wpAny_truthy_bool ⟨H3,I3,q3⟩
def Eb (r r':R2)(ta tb tc:TE):TE:=fun U H Q=>ta U H fun x H1=>tb U H1 fun y H2=>r x y H2 fun z H3=>∃ k,z=.bl k /\
 (if k=true then tc U H3 fun w' H4=>r' y w' H4 Q else Q (.bl false) H3)
def zom {op op':CmpOp}(ho:ZQ X (compareOp op) r)(ho':ZQ X (compareOp op') r')(ha:PE X a ta)(hb:PE X b tb)(hc:PE X c tc)(hm:autoParam (lastMarks [op,op'] [b,c]=false) Vr):PE X (.Compare a [op,op'] [b,c] pos) (Eb r r' ta tb tc):=by
 intro Z9 s U H Q I h
 refine Compare_chain (Z2 (ha Z9 s U H _ I h) fun v s1 ⟨x,H1,I1,r1,q1⟩=>chain_link (Z2 (hb Z9 s1 U H1 _ I1 q1) fun u s2 ⟨y,H2,I2,r2,q2⟩ =>Z2 (ho Z9 s2 U H2 x y v u _ I2 r1 r2 q2) fun d s3 ⟨z,H3,I3,r3,k,e,q3⟩=>?_)) hm
 subst e;cases r3;refine wpAny_truthy_bool ?_;cases k with
 |false=>exact ite_ff ⟨.bl false,H3,I3,rfl,q3⟩
 |true=>exact ite_tt (chain_last (Z2 (hc Z9 s3 U H3 _ I3 q3) fun w' s4 zq4=>by obtain⟨z',H4,I4,r4,q4⟩:=zq4;exact ho' Z9 s4 U H4 y z' u w' Q I4 r2 r4 q4))
def zof {op op':CmpOp}(ho:ZQ X (compareOp op) r)(ho':ZQ X (compareOp op') r')(ha:PE X a ta)(hb:PE X b tb)(hc:PE X c tc)(hm:autoParam (lastMarks [op,op'] [b,c]=false) Vr):PT X (.Compare a [op,op'] [b,c] pos) (sE (Eb r r' ta tb tc)):=by
 intro Z9 s U H Q I h
 refine isTrue_chain (Z2 (ha Z9 s U H _ I h) fun v s1 ⟨x,H1,I1,r1,q1⟩=>test_link (Z2 (hb Z9 s1 U H1 _ I1 q1) fun u s2 ⟨y,H2,I2,r2,q2⟩ =>Z2 (ho Z9 s2 U H2 x y v u _ I2 r1 r2 q2) fun d s3 ⟨z,H3,I3,r3,k,e,q3⟩=>?_)) hm
 subst e;cases r3;refine wpAny_truthy_bool ?_;cases k with
 |false =>obtain⟨k',e',q'⟩:=q3;cases e';exact ite_ff ⟨H3,I3,q'⟩
 |true =>refine ite_tt (test_last (Z2 (hc Z9 s3 U H3 _ I3 q3) fun w' s4 ⟨z',H4,I4,r4,q4⟩=>Z2 (ho' Z9 s4 U H4 y z' u w' _ I4 r2 r4 q4) fun d' s5 ⟨z2,H5,I5,r5,k2,e2,q5⟩=>?_));subst e2;cases r5;exact wpAny_truthy_bool ⟨H5,I5,q5⟩
def N7:(sizeLine:Nat)<2 ^ 63:=by rw[sizeLine_eq];decide
def zlF:ZQ X (binaryOp .Add) (fun x y H Q=>∃ i j,x=.str i/\y=.str j/\i.length+j.length<=sizeLine/\Q (.str (i++j)) H):=by intro Z9 s U H x y v u Q I rx ry h;obtain⟨i,j,rfl,rfl,hz,q⟩:=h;obtain⟨t,rfl⟩:=rx;obtain⟨t',rfl⟩:=ry;exact add_str (fun t' tk=>⟨.str (i++j),H,I.tok _,⟨_,rfl⟩,q⟩) hz
def vals1 {x:V}{us:List ĸ}(r:Vals [x] us):∃ u,us=[u]/\RelV x u:=by
 cases r with
 |cons r1 r2=>cases r2;exact⟨_,rfl,r1⟩
def vals2 {x y:V}{us:List ĸ}(r:Vals [x,y] us):∃ u w',us=[u,w']/\RelV x u/\RelV y w':=by
 cases r with
 |cons r1 r2 =>
  cases r2 with
  |cons r3 r4=>cases r4;exact⟨_,_,rfl,r1,r3⟩
def aY:YM X (.builtin "abs") (fun xs H Q=>∃ i,xs=[.int i]/\Q (.int (if i<0 then -i else i)) H):=by intro Z9 s U H xs us Q I r h;obtain⟨i,rfl,q⟩:=h;obtain⟨u,rfl,t,rfl⟩:=vals1 r;exact call_abs_int fun u tk=>⟨.int (if i<0 then -i else i),H,I.tok _,⟨_,rfl⟩,q⟩
def znb (hc:X.calm=true):YM X (.builtin "max") (fun xs H Q=>∃ i j,xs=[.int i,.int j]/\Q (.int (if j > i then j else i)) H):=by
 intro Z9 s U H xs us Q I r h;obtain⟨i,j,rfl,q⟩:=h;obtain⟨u,w',rfl,⟨t,rfl⟩,⟨t',rfl⟩⟩:=vals2 r;refine max_two_ints (I.ok.hd hc) fun h' tk k=>⟨_,H,I.kept k,?_,q⟩
 by_cases hj:j > i
 ·rw[if_pos hj,if_pos hj];exact⟨_,rfl⟩
 ·rw[if_neg hj,if_neg hj];exact⟨_,rfl⟩
def fC (hc:X.calm=true):YM X (.builtin "min") (fun xs H Q=>∃ i j,xs=[.int i,.int j]/\Q (.int (if j<i then j else i)) H):=by
 intro Z9 s U H xs us Q I r h;obtain⟨i,j,rfl,q⟩:=h;obtain⟨u,w',rfl,⟨t,rfl⟩,⟨t',rfl⟩⟩:=vals2 r;refine min_two_ints (I.ok.hd hc) fun h' tk k=>⟨_,H,I.kept k,?_,q⟩
 by_cases hj:j<i
 ·rw[if_pos hj,if_pos hj];exact⟨_,rfl⟩
 ·rw[if_neg hj,if_neg hj];exact⟨_,rfl⟩
end
structure Pn (h:Heap)(x dx C:Addr)(mA:Str->Option ĸ):Prop where
 obj:h.get? x=some (PySem.W.instObj C dx)
 ns:h.Ns1 dx mA
 ne:dx≠x
def zmM {h:Heap}{dx:Addr}{mA:Str->Option ĸ}(n:h.Ns1 dx mA):∃ od,h.get? dx=some od/\∀ name,PySem.W.lookIn name od=some (mA name):=by
 obtain⟨o,es,ep,ho,hd,hk,_,hm⟩:=n;refine⟨o,ho,fun name=>?_⟩;have e:=hm name;unfold nsFind findBy at e;rw[<- Array.find?_toList]at e;unfold PySem.W.lookIn;rw[hd];dsimp only;split
 ·rename_i y q;rw[q]at e;exact congrArg some e
 ·rename_i q;rw[q]at e
  have a:es.toList.any (·.refKey)=false:=by rw[List.any_eq_false];intro y hy;obtain⟨z,t,hkey⟩:=hk y (Array.mem_toList_iff.mp hy);simp[DictEntry.refKey,hkey]
  have a':¬ es.toList.any (·.refKey)=true:=by rw[a];exact qr
  rw[if_neg a'];exact congrArg some e
def Pn.look {C:Addr}(I:Pn h x dx C mA):∃ od,PySem.W.InstAt h x (PySem.W.instObj C dx) C (some od)/\∀ name,PySem.W.lookIn name od=some (mA name) :=
 let ⟨od,ho,hl⟩:=zmM I.ns
 ⟨od,⟨I.obj,rfl,rfl,ho⟩,hl⟩
section
variable {prog:Program}{w:World}{A:Around}{E:ĸ->ĳ->Prop}{s:ĳ}{K:Ĳ}{x dx C f:Addr}{mA:Str->Option ĸ}{name:Str}{v:ĸ}
def get_map {expr:Bool}{Q:ĸ->ĳ->Prop}(X:K.In s.heap)(I:Pn s.heap x dx C mA)(hg:PySem.W.plainGet K C name=true)(hh:PySem.W.hasDictIn K C=true)
  (ha:PySem.W.findIn K (.ref C) name=some none) (hv:mA name=some v) (hv':PySem.W.handedIn v=true) (h:Q v { s with toks:=s.toks+1 }) :
  wpAny (model prog w) A (getAttr (.ref x) name expr) Q E s:=by
 obtain⟨od,J,hl⟩:=I.look;exact PySem.W.get_value X J (PySem.W.plainGet_of hg).1 (PySem.W.findObj_own hh ha rfl (by rw[hl,hv])) hv' h
def Ò {Q:Unit->ĳ->Prop}(X:K.In s.heap)(I:Pn s.heap x dx C mA)(hs:PySem.W.findIn K (.ref C) "__setattr__"=some (some (.builtin "object.__setattr__")))(hp:PySem.W.plainOver K C=true)(ht:PySem.W.takerIn K C name=some none)(hh:PySem.W.hasDictIn K C=true)(hw:PySem.Within mA ns)(hsz:ns.length<=sizeLine)(h:∀ h',Pn h' x dx C (fun y=>if y=name then some v else mA y)->Heap.SameBut dx s.heap h'->Q () { s with heap:=h',toks:=s.toks+2 }) :
  wpAny (model prog w) A (setAttr (.ref x) name v) Q E s:=by
 obtain⟨od,J,hl⟩:=I.look;refine PySem.W.set_plain X J hs (PySem.W.osa_open (s:={ s with toks:=s.toks+1 }) (r:=none) X J hp ht fun b=>?_);obtain⟨cd,hc,hd'⟩:=PySem.W.any_some hh;have hx:s.heap.get? x=some ⟨.ref C,some dx,.plain,#[]⟩:=I.obj;refine wpAny_bind (wpAny_pure (wpAny_bind (wpAny_bind (wpAny_loadPart hx (wpAny_bind (PySem.W.Looks.here (s:={ s with toks:=s.toks+1 }) (PySem.W.looks_clsIn X hc) ?_))))));rw[hd'];refine wpAny_pure (a:=some dx) (wpAny_bind (wpAny_pure (wpAny_bind ?_)));refine wpAny_nsSet1 (s:={ s with toks:=s.toks+1 }) I.ns fun h' hn2 hs2=>?_
 obtain⟨oD,esD,epD,hoD,hdD,hcD⟩:=hn2.count (PySem.Within.cons name v hw);refine wpAny_bind (wpAny_lookBehind hoD (by rw[hdD];exact pastItsLine_dict (qW hcD (by rw[qX];lia))) ?_);exact wpAny_pure (h _ ⟨(hs2.2 _ (Ne.symm I.ne)).trans I.obj,hn2,I.ne⟩ hs2)
def oN {R:Result->ĳ->Prop}{vs:List ĸ}{kw:List (Str×ĸ)}(X:K.In s.heap)(hm:PySem.W.makesIn K C=true)
    (hi:PySem.W.findIn K (.ref C) "__init__"=some (some (.ref f))) (hf:PySem.W.typeIn K (.ref f)=some (.type "function"))
    (h:codeAny (model prog w) (A.under (.builtin "type.__call__" ⟨.ref C::vs,kw⟩)) (.call (.ref f) ⟨.ref (s.heap.objs.size+1)::vs,kw⟩) (PySem.W.InitBack (s.heap.objs.size+1) R)
      { s with heap:=(s.heap.push PySem.W.emptyDict).push (PySem.W.instObj C s.heap.objs.size) }) :
    codeAny (model prog w) A (.call (.ref C) ⟨vs,kw⟩) R s:=by
  obtain⟨hh,g,d,t,os⟩:=s;exact PySem.W.make_core (PySem.W.makes_of X hm) (PySem.W.looks_findIn X hi) (fun self=>PySem.W.bind_fn X self hf) (.inl rfl) h
end
def YB (f:Str)(v:V):List (Str×V)->List (Str×V)
 |[]=>[(f,v)]
 |(g,x)::r=>if g=f then(g,v)::r else(g,x)::YB f v r
theorem nD (f g:Str)(v:V):∀ fs:List (Str×V),(YB f v fs).lookup g=if g=f then some v else fs.lookup g
 |[]=>by
  show List.lookup g [(f,v)]=_;by_cases h:g=f
  ·have hb:(g==f)=true:=beq_iff_eq.mpr h;simp only[List.lookup,hb,if_pos h]
  ·have hb:(g==f)=false:=beq_eq_false_iff_ne.mpr h;simp only[List.lookup,hb,if_neg h]
 |(k,x)::r=>by
  have ih:=nD f g v r;rw[show YB f v ((k,x)::r)=(if k=f then(k,v)::r else(k,x)::YB f v r)from rfl];by_cases hk:k=f
  ·rw[if_pos hk];by_cases h:g=k
   ·have hb:(g==k)=true:=beq_iff_eq.mpr h;simp only[List.lookup,hb,if_pos (h.trans hk)]
   ·have hb:(g==k)=false:=beq_eq_false_iff_ne.mpr h;simp only[List.lookup,hb,if_neg (fun e:g=f=>h (e.trans hk.symm))]
  ·rw[if_neg hk];by_cases h:g=k
   ·have hb:(g==k)=true:=beq_iff_eq.mpr h;simp only[List.lookup,hb,if_neg (fun e:g=f=>hk (h.symm.trans e))]
   ·have hb:(g==k)=false:=beq_eq_false_iff_ne.mpr h;simp only[List.lookup,hb];exact ih
theorem Ep (f:Str)(v:V):∀ fs:List (Str×V),f∈(YB f v fs).map (·.1)/\∀ g,g∈fs.map (·.1)->g∈(YB f v fs).map (·.1)
 |[]=>⟨by simp[YB],fun g h=>by simp at h⟩
 |(k,x)::r=>by
  obtain⟨i1,i2⟩:=Ep f v r;rw[show YB f v ((k,x)::r)=(if k=f then(k,v)::r else(k,x)::YB f v r)from rfl];by_cases hk:k=f
  ·rw[if_pos hk];subst hk;exact⟨by simp,fun g h=>by simpa using h⟩
  ·rw[if_neg hk];refine⟨?_,fun g h=>?_⟩
   ·rw[qQ];exact qj _ i1
   ·rw[qQ]at h ⊢;rcases qv.mp h with e|e
    ·exact qv.mpr (.inl e)
    ·exact qj _ (i2 g e)
theorem sG (f:Str)(v:V):∀ fs:List (Str×V),(YB f v fs).length<=fs.length+1
 |[]=>by simp[YB]
 |(k,x)::r=>by
  have ih:=sG f v r;rw[show YB f v ((k,x)::r)=(if k=f then(k,v)::r else(k,x)::YB f v r)from rfl];by_cases hk:k=f
  ·rw[if_pos hk,qX,qX];lia
  ·rw[if_neg hk,qX,qX];lia
def Yc.some_of {v:V}(r:Yc (some v) o):∃ u,o=some u/\RelV v u:=by
 cases o with
 |none=>exact(show False from r).elim
 |some u=>exact⟨u,rfl,r⟩
def znQ (r:RelV v u):PySem.W.handedIn u=true:=by
 cases v with
 |non=>cases(show u=Value.none from r);rfl
 |bl b=>cases(show u=Value.bool b from r);rfl
 |int i=>obtain⟨t,e⟩:=(show ∃ t,u=Value.int i t from r);cases e;rfl
 |str x=>obtain⟨t,e⟩:=(show ∃ t,u=Value.str x t from r);cases e;rfl
 |byt b=>obtain⟨t,e⟩:=(show ∃ t,u=Value.bytes b t from r);cases e;rfl
 |flt b=>obtain⟨t,e⟩:=(show ∃ t,u=Value.float b t from r);cases e;rfl
 |ref a=>cases(show u=Value.ref a from r);rfl
 |ty n=>cases(show u=Value.type n from r);rfl
section
variable {P:Program}{w:World}{H H':Hp}{h h':Heap}{a C dx:Addr}{fs fs':List (Str×V)}
def BR (hok:ZG P w H h)(e:H a=some (.ins C dx fs)):∃ mA,Pn h a dx C mA/\(∀ f,Yc (fs.lookup f) (mA f))/\PySem.Within mA (fs.map (·.1))/\fs.length<=1000/\H dx=some (.own a):=by
 obtain⟨d,z,ne,ob,mA,n,r,q⟩:=(show zX P w H h a (.ins C dx fs)from hok a _ e)
 exact⟨mA,⟨ob,n,ne⟩,r,q,z,d⟩
end
structure Cls (K:Ĳ)(C:Addr):Prop where
 pg:PySem.W.plainGet K C Str.empty=true
 hd:PySem.W.hasDictIn K C=true
 po:PySem.W.plainOver K C=true
 sa:PySem.W.findIn K (.ref C) "__setattr__"=some (some (.builtin "object.__setattr__"))
def Cls.get {K:Ĳ}{C:Addr}(c:Cls K C)(f:Str):PySem.W.plainGet K C f=true:=c.pg
def V2 (K:Ĳ)(C:Addr)(f:Str):Prop:=PySem.W.findIn K (.ref C) f=some none
def V2.taker {K:Ĳ}{C:Addr}(n:V2 K C f):PySem.W.takerIn K C f=some none:=by unfold PySem.W.takerIn;rw[show PySem.W.findIn K (.ref C) f=some none from n];rfl
section
variable {X:Cx}{Z9:List (Addr×Obj)}{U:St}{H:Hp}{s:ĳ}{a C dx:Addr}{fs:List (Str×V)}{f:Str}{v:V}{A:Around}{E:ĸ->ĳ->Prop}
def Œ {b:Bool}{Q:ĸ->ĳ->Prop}(I:Inv X Z9 U H s)(e:H a=some (.ins C dx fs))(c:Cls X.K C)(n:V2 X.K C f)(l:fs.lookup f=some v)
  (h:∀ u s',Inv X Z9 U H s'->RelV v u->Q u s'):wpAny (model X.prog X.w) A (getAttr (.ref a) f b) Q E s:=by
 obtain⟨mA,O,r,_,_,_⟩:=BR I.hok e;obtain⟨u,hu,ru⟩:=Yc.some_of (v:=v) (o:=mA f) (by rw[<- l];exact r f);exact get_map I.kIn O (c.get f) c.hd n hu (znQ ru) (h u _ (I.tok _) ru)
def Ę {Q:Unit->ĳ->Prop}(I:Inv X Z9 U H s)(e:H a=some (.ins C dx fs))(c:Cls X.K C)(n:V2 X.K C f)(hl:fs.length<1000)(ry:RelV y u)(h:∀ s',Inv X Z9 U (upd H a (.ins C dx (YB f y fs))) s'->Q () s'):wpAny (model X.prog X.w) A (setAttr (.ref a) f u) Q E s:=by
 obtain⟨mA,O,r,wi,_,ho⟩:=BR I.hok e;have hz:(fs.map (·.1)).length<=sizeLine:=by rw[qa,sizeLine_eq];lia
 refine Ò I.kIn O c.sa c.po n.taker c.hd wi hz fun h' O' sb=>h _ ?_
 have hd:∃ o,h'.get? dx=some o:=let ⟨o,_,_,e',_⟩:=O'.ns;⟨o,e'⟩;refine I.write (x:=a) (e:=dx) (by rw[e];exact True.intro) (.inr ho) (fun b q hb z=>(sb.2 b hb).trans z) hd ?_;refine⟨by rw[zA O.ne];exact ho,?_,O.ne,O'.obj,_,O'.ns,fun g=>?_,fun g hg=>?_⟩
 ·have:=sG f y fs;lia
 ·show Yc ((YB f y fs).lookup g) (if g=f then some u else mA g);rw[nD];by_cases q:g=f
  ·rw[if_pos q,if_pos q];exact ry
  ·rw[if_neg q,if_neg q];exact r g
 ·by_cases q:g=f
  ·rw[q];exact(Ep f y fs).1
  ·refine(Ep f y fs).2 g (wi g fun z=>hg ?_);show(if g=f then some u else mA g)=none;rw[if_neg q];exact z
def Inv.made (I:Inv X Z9 U H s):Inv X Z9 U (upd (upd H s.heap.objs.size (.own (s.heap.objs.size+1))) (s.heap.objs.size+1) (.ins C s.heap.objs.size []))
    { s with heap:=(s.heap.push PySem.W.emptyDict).push (PySem.W.instObj C s.heap.objs.size) }:=by
  have e1:(s.heap.push PySem.W.emptyDict).get? s.heap.objs.size=some PySem.W.emptyDict:=qo s.heap rfl
  have e2:((s.heap.push PySem.W.emptyDict).push (PySem.W.instObj C s.heap.objs.size)).get? (s.heap.objs.size+1)=some (PySem.W.instObj C s.heap.objs.size):=by have:=qo (s.heap.push PySem.W.emptyDict) (o:=PySem.W.instObj C s.heap.objs.size) rfl;rwa[WQ]at this
  have e3:(s.heap.push PySem.W.emptyDict).Ns s.heap.objs.size (fun _=>none):=⟨PySem.W.emptyDict,#[],_,e1,rfl,(fun e he=>absurd he (by simp)),fun _=>rfl⟩
  have I1:=I.laid (a:=s.heap.objs.size) (o:=.own (s.heap.objs.size+1)) (h':=s.heap.push PySem.W.emptyDict) (t':=s.toks) (fun b u q=>qc _ q) (qh _) ⟨_,e1⟩;refine I1.laid (a:=s.heap.objs.size+1) (o:=.ins C s.heap.objs.size []) (t':=s.toks) (fun b u q=>qc _ q) (Nat.le_of_eq (WQ _ _)) ?_;have ne:s.heap.objs.size≠s.heap.objs.size+1:=qZ (Lg _);refine⟨by rw[zA ne,zL],qH _,ne,e2,fun _=>none,(Heap.Ns1.of_empty e3).at fun o q=>qc _ q,fun _=>True.intro,fun y hy=>absurd rfl hy⟩
def zqT {prog:Program}{w:World}{env:Env}{e:Expr}{f:Str}{pos:Pos}{s:ĳ}{Q:ĸ->ĳ->Prop}(hb:attributeBase e f env (eval e env)=eval e env)
  (h:wpAny (model prog w) A (eval e env) (fun o s₁=>wpAny (model prog w) A (getAttr o f true) Q E s₁) E s):wpAny (model prog w) A (eval (.Attribute e f pos) env) Q E s :=
 Attribute_any_ h (by rw[arm_eval_Attribute,hb])
end
def Ϣ (K:Ĳ)(ta:TE)(f:Str):TE:=fun U H Q=>ta U H fun x H1=>∃ a C dx fs v,x=.ref a/\H1 a=some (.ins C dx fs)/\Cls K C/\V2 K C f/\fs.lookup f=some v/\Q v H1
def zyg (K:Ĳ)(ta tv:TE)(f:Str):TS:=fun D U H=>tv U H fun y H1=>ta U H1 fun x H2=>∃ a C dx fs,x=.ref a/\H2 a=some (.ins C dx fs)/\Cls K C/\V2 K C f/\fs.length<1000 /\
 D.nx U (upd H2 a (.ins C dx (YB f y fs)))
section
variable {X:Cx}{o e value:Expr}{f:Str}{pos pos' tpos:Pos}{ta tv:TE}
def bV (he:PE X e ta)(hb:attributeBase e f X.env (eval e X.env)=eval e X.env):PE X (.Attribute e f pos) (Ϣ X.K ta f):=by intro Z9 s U H Q I h;refine zqT hb (Z2 (he Z9 s U H _ I h) fun u s1 ⟨x,H1,I1,rx,a,C,dx,fs,v,ex,ea,c,n,l,q⟩=>?_);subst ex;obtain rfl:u=Value.ref a:=rx;exact Œ I1 ea c n l fun u' s2 I2 ru=>⟨v,H1,I2,ru,q⟩
def Μ (ha:PE X o ta)(hv:PE X value tv)(hs:swapsWith value (some (.Attribute o f pos')) pos.line X.env=pure false):PS X (.Assign [.Attribute o f pos'] value pos) (zyg X.K ta tv f):=by intro Z9 s U H D I h;refine plainObj_wpAny_Assign_Attribute (Z2 (hv Z9 s U H _ I h) fun u s1 ⟨y,H1,I1,ry,q⟩=>Z2 (ha Z9 s1 U H1 _ I1 q) fun ov s2 ⟨x,H2,I2,rx,a,C,dx,fs,ex,ea,c,n,l,q2⟩=>?_) hs;subst ex;obtain rfl:ov=Value.ref a:=rx;exact Ę I2 ea c n l ry fun s3 I3=>⟨U,_,I3,q2⟩
end
section
variable {X:Cx}{Z9:List (Addr×Obj)}{U:St}{H:Hp}{s:ĳ}{A:Around}{E:ĸ->ĳ->Prop}{Q:ĸ->ĳ->Prop}{c:ĸ}{b:Bool}
inductive WD (K:Ĳ)(H:Hp):V->Value->Prop where
 | non:WD K H .non (.type "NoneType")
 | bl (x:Bool):WD K H (.bl x) (.type "bool")
 | int (i:Int):WD K H (.int i) (.type "int")
 | str (x:Str):WD K H (.str x) (.type "str")
 | flt (x:UInt64):WD K H (.flt x) (.type "float")
 | lst {a:Addr} {xs:List V} (e:H a=some (.lst xs)):WD K H (.ref a) (.type "list")
 | frz {a:Addr} {o:Obj} {xs:List V} (e:H a=some (.frz o (.lst xs))):WD K H (.ref a) (.type "list")
 | tup {a:Addr} {xs:List V} (e:H a=some (.tup xs)):WD K H (.ref a) (.type "tuple")
 | dK {a:Addr} {Z8:List (Key×V)} (e:H a=some (.dK Z8)):WD K H (.ref a) (.type "dict")
 | dT {a:Addr} {Z8:List (List Key×V)} (e:H a=some (.dT Z8)):WD K H (.ref a) (.type "dict")
 | ins {a C dx:Addr} {fs:List (Str×V)} (e:H a=some (.ins C dx fs)) (cl:Cls K C) (ha:PySem.W.findIn K (.ref C) "__class__"=some (some (.builtin "object.__class__")))
   (hn:PySem.W.specialIn K (.builtin "object.__class__") "__get__"=some (some (.builtin "getset_descriptor.__get__"))) (htk:PySem.W.takesIn K (.builtin "object.__class__")=some true)
   (hm:PySem.W.mroIn K C (.type "object")=some true):WD K H (.ref a) (.ref C)
def znU {t:ĸ}(I:Inv X Z9 U H s)(rx:RelV x u)(ty:WD X.K H x t)(e:PySem.W.kitOne X.K t c=some b)(h:∀ tk,Q (.bool b) { s with toks:=tk }) :
  wpAny (model X.prog X.w) A (call (.builtin "isinstance") [u,c]) Q E s:=by
 cases ty with
 |non=>cases(show u=Value.none from rx);exact PySem.W.kia_one PySem.W.kitx_none I.kIn True.intro e (fun z=>nomatch z) h
 |bl y=>cases(show u=Value.bool y from rx);exact PySem.W.kia_one PySem.W.kitx_bool I.kIn True.intro e (fun z=>nomatch z) h
 |int i=>obtain⟨t,q⟩:=(show ∃ t,u=Value.int i t from rx);cases q;exact PySem.W.kia_one PySem.W.kitx_int I.kIn True.intro e (fun z=>nomatch z) h
 |str y=>obtain⟨t,q⟩:=(show ∃ t,u=Value.str y t from rx);cases q;exact PySem.W.kia_one PySem.W.kitx_str I.kIn True.intro e (fun z=>nomatch z) h
 |flt y=>obtain⟨t,q⟩:=(show ∃ t,u=Value.float y t from rx);cases q;exact PySem.W.kia_one PySem.W.kitx_float I.kIn True.intro e (fun z=>nomatch z) h
 |@lst a xs ea =>
  cases(show u=Value.ref a from rx);obtain⟨_,_,n,_,h1⟩:=(show zX X.prog X.w H s.heap a (.lst xs)from I.hok a _ ea)
  exact PySem.W.kia_one PySem.W.kitx_list I.kIn ⟨_,h1,rfl⟩ e (fun z=>nomatch z) h
 |@frz a ob xs ea =>
  cases(show u=Value.ref a from rx);obtain⟨_,_,_,n,_,h1⟩:=(show zX X.prog X.w H s.heap a (.frz ob (.lst xs))from I.hok a _ ea)
  exact PySem.W.kia_one PySem.W.kitx_list I.kIn ⟨_,h1,rfl⟩ e (fun z=>nomatch z) h
 |@tup a xs ea =>
  cases(show u=Value.ref a from rx);obtain⟨_,_,_,p⟩:=(show zX X.prog X.w H s.heap a (.tup xs)from I.hok a _ ea)
  obtain⟨o,h1,h2,_⟩:=p;exact PySem.W.kia_one PySem.W.kitx_tuple I.kIn ⟨o,h1,h2⟩ e (fun z=>nomatch z) h
 |@dK a Z8 ea =>
  cases(show u=Value.ref a from rx);obtain⟨_,_,vs,_,p⟩:=(show zX X.prog X.w H s.heap a (.dK Z8)from I.hok a _ ea)
  obtain⟨o,es,ep,h1,h2,_⟩:=p;exact PySem.W.kia_one PySem.W.kitx_dict I.kIn ⟨o,h1,h2.1⟩ e (fun z=>nomatch z) h
 |@dT a Z8 ea =>
  cases(show u=Value.ref a from rx);obtain⟨_,_,xs,_,o,es,ep,h1,h2,_⟩:=(show zX X.prog X.w H s.heap a (.dT Z8)from I.hok a _ ea)
  exact PySem.W.kia_one PySem.W.kitx_dict I.kIn ⟨o,h1,h2.1⟩ e (fun z=>nomatch z) h
 |@ins a C dx fs ea cl ha hn htk hm =>cases(show u=Value.ref a from rx);obtain⟨mA,O,_⟩:=BR I.hok ea;obtain⟨od,J,_⟩:=O.look;exact PySem.W.kia_one (PySem.W.kitx_own (cl.get _) cl.hd ha hn htk hm) I.kIn J e (fun z=>nomatch z) h
end
structure zO (k:Nat)(A:Around):Prop where
 hd:A.handled=none
 dp:A.depth+3*k+5<recursionLimit
 un:A.units+16*k+200<cLine
def zO.mono {j k:Nat}(r:zO k A)(h:j<=k):zO j A:=⟨r.hd,by have:=r.dp;lia,by have:=r.un;lia⟩
theorem zO.deeper {k:Nat}(r:zO (k+1) A)(env:Env):zO k (A.deeper env) :=⟨r.hd,by have:=r.dp;show A.depth+1+3*k+5<_;lia,by have:=r.un;show A.units+3+16*k+200<_;lia⟩
def Ϧ {A:Around}{C:Addr}{us:List ĸ}{kw:List (Str×ĸ)}:(A.under (.builtin "type.__call__" ⟨.ref C::us,kw⟩)).depth=A.depth+1:=by first|rfl|simp[Around.under,Code.weight,Code.isCreation,Code.isGuard,Code.isCaller,Code.frames,Code.isFrame,guardIds]
def zk5 {A:Around}{C:Addr}{us:List ĸ}{kw:List (Str×ĸ)}:(A.under (.builtin "type.__call__" ⟨.ref C::us,kw⟩)).units=A.units+1:=by first|rfl|simp[Around.under,Code.cUnits,Code.frames,Code.isFrame]
def zO.make {k:Nat}(r:zO (k+1) A)(C:Addr)(us:List ĸ)(kw:List (Str×ĸ)):zO k (A.under (.builtin "type.__call__" ⟨.ref C::us,kw⟩)) :=⟨r.hd,by have:=r.dp;rw[Ϧ];lia,by have:=r.un;rw[zk5];lia⟩
theorem zO.depth {k:Nat}(r:zO k A):A.depth<recursionLimit:=by have:=r.dp;lia
theorem zO.units {k:Nat}(r:zO k A):A.units+64<cLine:=by have:=r.un;lia
def gW:TA:=fun _ H Q=>Q [] H
def jh (ta:TE)(tr:TA):TA:=fun U H Q=>ta U H fun x H1=>tr U H1 fun xs H2=>Q (x::xs) H2
section
variable {X:Cx}{e:Expr}{es:List Expr}{te:TE}{t:TA}{pos:Pos}
def zuu:PA X [] gW:=fun _ _ _ _ H Q I h=>Calls.spliced_nil ⟨[],H,I,.nil,h⟩
def ř (ha:PE X e te)(hr:PA X es t)(hs:autoParam (starEach (e::es) X.env=(false,eval e X.env)::starEach es X.env) zB):PA X (e::es) (jh te t):=by intro pos Z9 s U H Q I h;rw[hs];show wpAny _ _ (spliced ((false,eval e X.env)::backTo pos (starEach es X.env))) _ _ s;refine Calls.spliced_cons (Z2 (ha Z9 s U H _ I h) fun u s1 ⟨x,H1,I1,r1,q1⟩=>?_);exact Z2 (hr pos Z9 s1 U H1 _ I1 q1) fun us s2 zq5=>by obtain⟨xs,H2,I2,r2,q2⟩:=zq5;exact⟨x::xs,H2,I2,.cons r1 r2,q2⟩
def zyB (t:TA):TE:=fun U H Q=>t U H fun xs H1=>xs.length<=sizeLine/\∀ p,H1 p=none->Q (.ref p) (upd H1 p (.tup xs))
def Ι (t:TA):TE:=fun U H Q=>t U H fun xs H1=>xs.length<=sizeLine/\∀ p,H1 p=none->Q (.ref p) (upd H1 p (.lst xs))
def Ë {x1}(h:PA X es t):PE X (.Tuple es x1 pos) (zyB t):=by intro Z9 s U H Q I hq;refine wpAny_Tuple_spliced (Z2 (h pos Z9 s U H _ I hq) fun us s1 ⟨xs,H1,I1,r,z,q⟩=>⟨by rw[<- r.length];exact z,?_⟩);have hf:H1 s1.heap.objs.size=none:=I1.hok.fresh (qh _);refine⟨.ref s1.heap.objs.size,upd H1 s1.heap.objs.size (.tup xs),I1.laid (t':=s1.toks) (fun b u e=>qc _ e) (qh _) ?_,rfl,q _ hf⟩;exact⟨z,us,r,⟨_,qo _ rfl,rfl,_,rfl⟩⟩
def İ (h:PA X es t):PE X (.List es pos) (Ι t):=by intro Z9 s U H Q I hq;refine wpAny_List_spliced (Z2 (h pos Z9 s U H _ I hq) fun us s1 ⟨xs,H1,I1,r,z,q⟩=>⟨by rw[<- r.length];exact z,?_⟩);have hf:H1 s1.heap.objs.size=none:=I1.hok.fresh (qh _);refine⟨.ref s1.heap.objs.size,upd H1 s1.heap.objs.size (.lst xs),I1.laid (t':=s1.toks) (fun b u e=>qc _ e) (qh _) ?_,rfl,q _ hf⟩;exact⟨z,us,0,r,qo _ rfl⟩
end
abbrev Sp:=List V->Hp->VK->XK->Prop
abbrev VH:=List Env->Hp->ĳ->XK->ĸ->ĳ->Prop
structure Qo (P:Program)(w:World)(K:Ĳ)(mg:Str->Option ĸ)(base:Heap)(A:Around)(outer:List Env)(s:ĳ)(H:Hp):Prop where
 frames:A.frames=some outer
 mod:Mod K mg base
 bs:∀ b o,base.get? b=some o->s.heap.get? b=some o/\H b=none
 bsz:base.objs.size<=s.heap.objs.size
 funs:s.heap.FunFrames base outer
 frf:∀ b∈frs outer,H b=none
 hok:ZG P w H s.heap
 bare:AllBare s.gens
def CE (outer:List Env)(P:Program)(w:World)(H:Hp)(s:ĳ)(Q:VK)(u:ĸ)(s':ĳ):Prop :=∃ v H',s'.os=s.os/\AllBare s'.gens/\Un (frs outer) [] H H' s.heap s'.heap/\ZG P w H' s'.heap/\RelV v u/\Q v H'
def CR (CX:VH)(outer:List Env)(P:Program)(w:World)(H:Hp)(s:ĳ)(Q:VK)(E:XK)(r:Result)(s':ĳ):Prop :=
 match r with
 |.ok (.ret u)=>CE outer P w H s Q u s'
 |.ok _=>False
 |.error e=>CX outer H s E e s'
structure YS (P:Program)(w:World)(K:Ĳ)(mg:Str->Option ĸ)(base:Heap)(CX:VH)(k:Nat)(f:Addr)(fd:FuncData)(ps:List Str)(sp:Sp):Prop where
 len:∀ vs H Q E,sp vs H Q E->vs.length=ps.length
 run:∀ (A:Around) (outer:List Env) (s:ĳ) (H:Hp) (args:Args) (us:List ĸ) (vs:List V) (Q:VK) (E:XK),zO k A->Qo P w K mg base A outer s H->BindsTo s fd args (ps.zip us)->Vals vs us->sp vs H Q E ->
  codeAny (model P w) A (.call (.ref f) args) (CR CX outer P w H s Q E) s
theorem YS.mono {K:Ĳ}{base:Heap}{k:Nat}{sp:Sp}(F:YS P w K mg base CX j f fd ps sp)(h:j<=k) :
  YS P w K mg base CX k f fd ps sp:=⟨F.len,fun A outer s H args us vs Q E hr=>F.run A outer s H args us vs Q E (hr.mono h)⟩
def Qo.make {K:Ĳ}{base:Heap}(e:Qo P w K mg base A outer s H)(C:Addr)(us:List ĸ)(kw:List (Str×ĸ)) :
  Qo P w K mg base (A.under (.builtin "type.__call__" ⟨.ref C::us,kw⟩)) outer s H:=⟨by first | exact e.frames | (simpa [Around.under,Code.envs,Code.isFrame,pushEnvs]using e.frames),e.mod,e.bs,e.bsz,e.funs,e.frf,e.hok,e.bare⟩
section
variable {X:Cx}{Z9:List (Addr×Obj)}{U:St}{H:Hp}{s s':ĳ}
def Inv.env0 (I:Inv X Z9 U H s):Qo X.prog X.w X.K X.mg X.base X.A X.stack s H :=⟨I.ok.frames,I.ok.mod,I.bs,qW I.ok.bsz I.sz,I.stack,I.stkFree,I.hok,I.bare⟩
def Inv.after (I:Inv X Z9 U H s)(h:CE X.stack X.prog X.w H s Q u s'):EP X Z9 U Q u s':=by obtain⟨v,H',os,bare,un,hok,r,q⟩:=h;obtain⟨hh,g,d,t,os'⟩:=s';obtain rfl:os'=s.os:=os;exact⟨v,H',I.call (h':=hh) (g':=g) (d':=d) (t':=t) (ch:=[]) un hok bare (fun b z=>absurd z (by simp)),r,q⟩
end
def Gg (sp:Sp)(dvs:List V)(E:XK)(t:TA):TE:=fun U H Q=>t U H fun vs H1=>sp (vs++dvs) H1 Q E
def Binds (K:Ĳ)(fd:FuncData)(ps:List Str)(ds:List ĸ):Prop :=∀ (s:ĳ) (us:List ĸ),K.In s.heap->(us++ds).length=ps.length->BindsTo s fd ⟨us,[]⟩ (ps.zip (us++ds))
def Binds.all {K:Ĳ}{fd:FuncData}{ps:List Str}(h:∀ us:List ĸ,us.length=ps.length->bindArgs fd ⟨us,[]⟩=pure (ps.zip us)):Binds K fd ps []:=fun s us _ hl=>by rw[qY]at hl ⊢;exact .of_eq (h us hl)
def Passes (CX:VH)(X:Cx)(E:XK):Prop:=∀ (Z9:List (Addr×Obj)) (U:St) (H:Hp) (s:ĳ) (e:ĸ) (s':ĳ),Inv X Z9 U H s->CX X.stack H s E e s'->X.xe e s'
section
variable {X:Cx}{CX:VH}{k:Nat}{f C:Addr}{fd:FuncData}{ps:List Str}{sp:Sp}{dvs:List V}{ds:List ĸ}{E:XK}{x m:Str}{p pos apos:Pos}{e o:Expr}{es:List Expr}{ta:TE}{t:TA}
def Ţ {Q:VK}(F:YS X.prog X.w X.K X.mg X.base CX k f fd ps sp)(hr:zO k X.A)(hb:Binds X.K fd ps ds)(hd:Vals dvs ds)(hx:Passes CX X E)(I:Inv X Z9 U H s)(r:Vals vs us)(h:sp (vs++dvs) H Q E):wpAny (model X.prog X.w) X.A (call (.ref f) us) (EP X Z9 U Q) X.xe s:=by
 have r2:Vals (vs++dvs) (us++ds):=r.append hd;have hl:(us++ds).length=ps.length:=by rw[<- r2.length];exact F.len _ _ _ _ h
 refine wpAny_call (codeAny_mono (F.run X.A X.stack s H ⟨us,[]⟩ (us++ds) (vs++dvs) Q E hr I.env0 (hb s us I.kIn hl) r2 h) fun r s' hq=>?_);cases r with
 |error e=>exact hx Z9 U H s e s' I hq
 |ok fl =>
  cases fl with
  |ret u=>exact I.after hq
  |next=>exact False.elim hq
  |brk=>exact False.elim hq
  |cont=>exact False.elim hq
def aB (F:YS X.prog X.w X.K X.mg X.base CX k f fd ps sp)(hr:zO k X.A)(hg:Gl X x)(hm:X.mg x=some (.ref f))(hk:PySem.W.keepIn X.K (.ref f)=true)(hb:Binds X.K fd ps ds)(hd:Vals dvs ds)(hx:Passes CX X E)
  (ha:PA X (e::es) t) (hdb:(x==("__debug__":Str))=false:=by decide) (he:starEach (e::es) X.env=(false,eval e X.env)::starEach es X.env:=by rfl) (hpl:(backTo pos (starEach es X.env)).any (·.1)=false:=by rfl) :
  PE X (.Call (.Name x p) (e::es) [] pos) (Gg sp dvs E t):=by
 intro Z9 s U H Q I h;refine wpAny_Call_Name_kw (Qd I hg hm ?_ hdb);refine PySem.W.callWith_K (h₀:=X.base) I.ok.mod.kin hk (Z2 (ha pos Z9 s U H _ I h) fun us s1 ⟨vs,H1,I1,r,q⟩=>⟨I1.kIn,?_⟩) he hpl;exact Ţ F hr hb hd hx I1 r q
structure Mk (K:Ĳ)(C f:Addr):Prop where
 makes:PySem.W.makesIn K C=true
 init:PySem.W.findIn K (.ref C) "__init__"=some (some (.ref f))
 fn:PySem.W.isFn K (.ref f)=true
 kp:PySem.W.keepIn K (.ref C)=true
def cQ {Q:VK}(M:Mk X.K C f)(F:YS X.prog X.w X.K X.mg X.base CX k f fd ps sp)(hr:zO (k+1) X.A)(hb:Binds X.K fd ps ds)(hd:Vals dvs ds)(hx:Passes CX X E)(I:Inv X Z9 U H s)(r:Vals vs us)(h:∀ x dx,H x=none->H dx=none->dx≠x->sp (.ref x::(vs++dvs)) (upd (upd H dx (.own x)) x (.ins C dx [])) (fun v H2=>v=.non/\Q (.ref x) H2) E) :
  wpAny (model X.prog X.w) X.A (call (.ref C) us) (EP X Z9 U Q) X.xe s:=by
 have hq:=h (s.heap.objs.size+1) s.heap.objs.size (I.hok.fresh (Nat.le_succ _)) (I.hok.fresh (qh _)) (qZ (Lg _));have I2:=Inv.made (C:=C) I;have r2:Vals (V.ref (s.heap.objs.size+1)::(vs++dvs)) (Value.ref (s.heap.objs.size+1)::(us++ds)):=.cons rfl (r.append hd)
 have hl:(Value.ref (s.heap.objs.size+1)::us++ds).length=ps.length:=by have e:=r2.length;rw[F.len _ _ _ _ hq]at e;exact e.symm
 refine wpAny_call (oN (f:=f) I.kIn M.makes M.init (beq_iff_eq.mp M.fn) (codeAny_mono (F.run _ X.stack _ _ ⟨Value.ref (s.heap.objs.size+1)::us,[]⟩ (Value.ref (s.heap.objs.size+1)::(us++ds)) _ _ E (hr.make C us [])
  (I2.env0.make C us []) (hb _ (Value.ref (s.heap.objs.size+1)::us) I2.kIn hl) r2 hq) fun r s' hq'=>?_))
 cases r with
 |error e=>exact hx Z9 U _ _ e s' I2 hq'
 |ok fl =>
  cases fl with
  |ret u =>obtain⟨v,H',I3,rv,ev,q3⟩:=I2.after hq';subst ev;exact⟨rv,⟨V.ref (s.heap.objs.size+1),H',I3,rfl,q3⟩⟩
  |next=>exact False.elim hq'
  |brk=>exact False.elim hq'
  |cont=>exact False.elim hq'
end
structure Qe (N P:List Str)(sc:Scope):Prop where
 kind:sc.kind=.function
 co:sc.isCoroutine=false
 gen:sc.isGenerator=false
 nd:N.Nodup
 pre:N.take P.length=P
 par:∀ x∈P,sc.names.lookup x=some .local\/sc.names.lookup x=some .cell
 nofree:∀ y∈sc.names,y.2≠.free
theorem tD {kindOf:Str->Option NameKind}{x:Str}:∀ {binds:List (Str×ĸ)} {m:Str->Option ĸ},(∀ v,(x,v)∉binds)->bindL kindOf binds m x=m x
 |[],_,_=>rfl
 |(n,v)::r,m,h=>by
  unfold bindL;rw[tD fun w hw=>h w (qj _ hw)];split
  ·have:x≠n:=by rintro rfl;exact h v qO
   simp[this]
  ·rfl
theorem nH {kindOf:Str->Option NameKind}{x:Str}:∀ {binds:List (Str×ĸ)} {m:Str->Option ĸ},(∀ v,(x,v)∉binds)->bindC kindOf binds m x=m x
 |[],_,_=>rfl
 |(n,v)::r,m,h=>by
  unfold bindC;rw[nH fun w hw=>h w (qj _ hw)];split
  ·rfl
  ·have:x≠n:=by rintro rfl;exact h v qO
   simp[this]
theorem wW {kindOf:Str->Option NameKind}{x:Str}{v:ĸ}:∀ {P:List Str} {vs:List ĸ} {i:Nat} {m:Str->Option ĸ},P.Nodup->P[i]?=some x->vs[i]?=some v->kindOf x=some .local ->
  bindL kindOf (P.zip vs) m x=some v
 |[],_,_,_,_,h,_,_=>by simp at h
 |_::_,[],_,_,_,_,h,_=>by simp at h
 |p::P,w::vs,0,m,nd,h1,h2,hk=>by simp at h1 h2;subst h1;subst h2;show bindL kindOf ((p,w)::P.zip vs) m p=_;unfold bindL;rw[tD fun v hv=>(VB.mp nd).1 (Ng hv).1,if_pos hk];simp
 |p::P,w::vs,i+1,m,nd,h1,h2,hk=>by show bindL kindOf ((p,w)::P.zip vs) m x=_;unfold bindL;exact wW (i:=i) (VB.mp nd).2 (by simpa using h1) (by simpa using h2) hk
theorem xg {kindOf:Str->Option NameKind}{x:Str}{v:ĸ}:∀ {P:List Str} {vs:List ĸ} {i:Nat} {m:Str->Option ĸ},P.Nodup->P[i]?=some x->vs[i]?=some v->kindOf x≠some .local ->
  bindC kindOf (P.zip vs) m x=some v
 |[],_,_,_,_,h,_,_=>by simp at h
 |_::_,[],_,_,_,_,h,_=>by simp at h
 |p::P,w::vs,0,m,nd,h1,h2,hk=>by simp at h1 h2;subst h1;subst h2;show bindC kindOf ((p,w)::P.zip vs) m p=_;unfold bindC;rw[nH fun v hv=>(VB.mp nd).1 (Ng hv).1,if_neg hk];simp
 |p::P,w::vs,i+1,m,nd,h1,h2,hk=>by show bindC kindOf ((p,w)::P.zip vs) m x=_;unfold bindC;exact xg (i:=i) (VB.mp nd).2 (by simpa using h1) (by simpa using h2) hk
def start (N:List Str)(vs:List V):St:=vs.map some++List.replicate (N.length-vs.length) none
def Va (CX:VH)(P:Program)(w:World)(K:Ĳ)(mg:Str->Option ĸ)(base:Heap)(N:List Str)(qual:Str)(scope:Scope)(f:Addr)(cd:ĸ)(A:Around)(outer:List Env)(s:ĳ)(H:Hp)(E:XK):Cx where
 prog:=P
 w:=w
 K:=K
 mg:=mg
 base:=base
 A:=A.deeper (envOfC qual scope s.heap.objs.size f cd)
 N:=N
 s₀:=s
 H₀:=H
 env:=envOfC qual scope s.heap.objs.size f cd
 outer:=outer
 stack:=envOfC qual scope s.heap.objs.size f cd::outer
 ex:=[]
 calm:=true
 fn:=fun _=>true
 pn:=[]
 xe:=fun e s'=>wpAny (model P w) (A.deeper (envOfC qual scope s.heap.objs.size f cd)) (leaving (envOfC qual scope s.heap.objs.size f cd) e) (fun _ s''=>CX outer H s E e s'') (fun e' s''=>CX outer H s E e' s'') s'
def uf {sc:Scope}{n:Nat}{x:Str}(h:sc.names.lookup x=some .cell):∃ c,(cellsFrom n sc.names []).lookup x=some c:=by have q:=PySem.W.cellsFrom_some sc.names n [] (.inl h);exact Nj.mp q
def zmC {CX:VH}{K:Ĳ}{base:Heap}{qual:Str}{f:Addr}{cd:ĸ}{A:Around}{s1:ĳ}{E:XK}{vs:List V}(S:Qe N ps scope)(hd:A.handled=none)(e0:Qo P w K mg base A outer s H)(hl:vs.length=ps.length)(r:Vals vs us)(x:InCallC s s.heap.objs.size (bindL (envOfC qual scope s.heap.objs.size f cd).kindOf (ps.zip us) fun _=>none) (cellsFrom (s.heap.objs.size+1) scope.names []) (bindC (envOfC qual scope s.heap.objs.size f cd).kindOf (ps.zip us) fun _=>none) s1) :
    Inv (Va CX P w K mg base N qual scope f cd A outer s H E) [] (start N vs) H s1:=by
  have hpl:ps.length<=N.length:=by have:=congrArg List.length S.pre;rw[V7]at this;lia
  obtain⟨h1,tk,rfl,hk⟩:=x.done;have noA:∀ b:Addr,b∉(Va CX P w K mg base N qual scope f cd A outer s H E).ex:=fun b z=>absurd (show b∈([]:List Addr)from z) (by simp)
  refine⟨⟨e0.mod,S.kind,rfl,rfl,qh _,fun y z c h1 h2=>?_,fun y hy=>?_,fun y c _ h=>?_,fun _=>hd,Around.frames_deeper e0.frames,.inr ⟨rfl,rfl⟩,fun b z=>absurd z (noA b),e0.bs,e0.bsz,fun b _ _=>noA b,fun b z=>absurd z (noA b),e0.funs,e0.frf⟩,
    rfl,e0.bare,Un.kept hk,⟨_,x.toInCall.ns,fun i y v h1 h2 h3=>?_⟩,fun y c h=>⟨_,x.cell y c h⟩,e0.hok.fresh (qh _),fun y c h=>?_,fun p hp=>absurd (show p∈([]:List (Addr×Obj))from hp) (by simp),e0.hok.kept hk,?_⟩
  . exact name_of_addr x.apart (PySem.mem_of_lookup h1) (PySem.mem_of_lookup h2)
  . have hy:scope.names.lookup y=some .cell\/scope.names.lookup y=some .free:=hy;rcases hy with hy|hy
    . exact uf hy
    . exact absurd rfl (S.nofree _ (PySem.mem_of_lookup hy))
  . exact Lz (x.above y c (PySem.mem_of_lookup h))
  . have hi : i < vs.length := by
      unfold start at h2;by_cases hi:i<vs.length
      . exact hi
      . rw[qe (by simpa using hi)]at h2;rw[Nf]at h2;split at h2<;>cases h2
    have ha:vs[i]?=some v:=by
      unfold start at h2;rw[qg (by simpa using hi),qi]at h2;cases e:vs[i]? with
      |none=>rw[e]at h2;cases h2
      |some a=>rw[e]at h2;cases h2;rfl
    obtain⟨u,hu,rv⟩:=r.get ha
    have hp:ps[i]?=some y:=by rw[<- S.pre,Kq (by lia)];exact h1
    have ndP:ps.Nodup:=by rw[<- S.pre];exact S.nd.sublist (List.take_sublist _ _)
    refine⟨u,rv,?_⟩;rcases S.par y (qd hp)with k|k
    . exact .inl ⟨k,wW ndP hp hu k⟩
    . obtain⟨c,e⟩:=uf (n:=s.heap.objs.size+1) k;refine .inr ⟨.inl k,c,e,?_⟩;have q:=x.cell y c e;rw[xg ndP hp hu (by show scope.names.lookup y≠_;rw[k];decide)]at q;exact q
  . exact e0.hok.fresh (Lz (x.above y c (PySem.mem_of_lookup h)))
  . unfold start;show _=N.length;rw[qf,qa,qJ];lia
def lQ {CX:VH}{P:Program}{w:World}{K:Ĳ}{mg:Str->Option ĸ}{base:Heap}{k:Nat}{name qual:Str}{params:Arguments}{body:List Stmt}{scope:Scope}{dV kV doc pm cdv ct oc:ĸ}{an od:Option Addr}{osl:Array (Option ĸ)}{sp:Sp}(lk:K.lookup f=some ⟨oc,od,.func (PySem.W.fnOf name qual params body scope dV kV doc pm an cdv ct),osl⟩)(hcd:PySem.W.codeIn K cdv qual=true)(S:Qe N ps scope)(len:∀ vs H Q E,sp vs H Q E->vs.length=ps.length)(hbody:∀ (A:Around) (outer:List Env) (s:ĳ) (H:Hp) (vs:List V) (Q:VK) (E:XK),zO k (A.deeper (envOfC qual scope s.heap.objs.size f cdv))->sp vs H Q E ->
   ∃ t,XQ (Va CX P w K mg base N qual scope f cdv A outer s H E) body t/\t { nx:=fun _ H'=>Q .non H',rt:=Q } (start N vs) H) :
  YS P w K mg base CX (k+1) f (PySem.W.fnOf name qual params body scope dV kV doc pm an cdv ct) ps sp:=by
 refine⟨len,fun A outer s H args us vs Q E hr e0 hb r hsp=>?_⟩;have hl:=len _ _ _ _ hsp;have KX:K.In s.heap:=e0.mod.kin.keeps fun b o e=>(e0.bs b o e).1
 have lim:s.heap.NoLimit:=e0.mod.nolimit.keeps fun b o e=>(e0.bs b o e).1
 have hkind:∀ y∈ps.zip us,scope.names.lookup y.1=some .local\/(scope.names.lookup y.1=some .cell/\((cellsFrom (s.heap.objs.size+1) scope.names []).lookup y.1).isSome=true):=by
  rintro⟨n,v⟩ hy;rcases S.par n (Ng hy).1 with q|q
  ·exact .inl q
  ·exact .inr ⟨q,PySem.W.cellsFrom_some _ _ _ (.inl q)⟩
 refine codeAny_call_function hr.depth (KX _ _ lk) rfl S.co S.gen rfl (PySem.W.codeRec_of KX hcd) (hb _ _ _ _ ?_);refine wpAny_newFunctionEnv_cells S.kind hkind fun env he s1 x=>?_
 subst he;refine⟨lim.keeps x.toInCall.keep,codeAny_func ?_⟩;obtain⟨t,ht,hq⟩:=hbody A outer s H vs Q E (hr.deeper _) hsp;have I:Inv (Va CX P w K mg base N qual scope f cdv A outer s H E) [] (start N vs) H s1:=zmC S hr.hd e0 hl r x;refine wpAny_mono (ht [] s1 (start N vs) H _ I hq) (fun fl s' hs=>?_) fun e s' hs=>hs
 have fin:∀ {σ':St} {H':Hp} {v:V} {u:ĸ},Inv (Va CX P w K mg base N qual scope f cdv A outer s H E) [] σ' H' s'->RelV v u->Q v H'->CE outer P w H s Q u s' :=fun {σ' H' v u} J rv q=>⟨v,H',J.os,J.bare,J.base,J.hok,rv,q⟩
 cases fl with
 |ret u =>obtain⟨v,σ',H',J,rv,q⟩:=hs;exact fin J rv q
 |next =>obtain⟨σ',H',J,q⟩:=hs;exact fin (v:=V.non) (u:=Value.none) J rfl q
 |brk =>obtain⟨_,_,_,q⟩:=hs;exact False.elim q
 |cont =>obtain⟨_,_,_,q⟩:=hs;exact False.elim q
section
variable {X:Cx}{x:Str}{p pos:Pos}{e:Expr}{es:List Expr}{t:TA}{id T:String}{r:List V->Hp->VK->Prop}
def pG (r:List V->Hp->VK->Prop)(t:TA):TE:=fun U H Q=>t U H fun vs H1=>r vs H1 Q
def zpB (hc:YM X (.builtin id) r)(hg:Gl X x)(hm:X.mg x=none)(hv:bootBuiltins x=some (.builtin id))(ha:PA X (e::es) t)(hn:autoParam (x≠"__name__") zU)(hdb:autoParam ((x==("__debug__":Str))=false) zU)
  (he:starEach (e::es) X.env=(false,eval e X.env)::starEach es X.env:=by rfl) (hpl:(backTo pos (starEach es X.env)).any (·.1)=false:=by rfl):PE X (.Call (.Name x p) (e::es) [] pos) (pG r t):=by
 intro Z9 s U H Q I h;refine wpAny_Call_Name_kw (Uj I hg hm hv ?_ hn hdb);exact PyProof.Rows.callWith_builtin1 (Z2 (ha pos Z9 s U H _ I h) fun us s1 zq7=>by obtain⟨vs,H1,I1,r1,q1⟩:=zq7;exact hc Z9 s1 U H1 vs us Q I1 r1 q1) he hpl
def jc (hc:YM X (.type T) r)(hg:Gl X x)(hm:X.mg x=none)(hv:bootBuiltins x=some (.type T))(ha:PA X (e::es) t)(hn:autoParam (x≠"__name__") zU)(hdb:autoParam ((x==("__debug__":Str))=false) zU)
  (he:starEach (e::es) X.env=(false,eval e X.env)::starEach es X.env:=by rfl) (hpl:(backTo pos (starEach es X.env)).any (·.1)=false:=by rfl):PE X (.Call (.Name x p) (e::es) [] pos) (pG r t):=by
 intro Z9 s U H Q I h;refine wpAny_Call_Name_kw (Uj I hg hm hv ?_ hn hdb);exact PyProof.Rows.callWith_type1 (Z2 (ha pos Z9 s U H _ I h) fun us s1 zq8=>by obtain⟨vs,H1,I1,r1,q1⟩:=zq8;exact hc Z9 s1 U H1 vs us Q I1 r1 q1) he hpl
end
end L2
namespace HT
open PySem PyProof.Rows
section
variable {prog:Program}{w:World}{A:Around}{E:ĸ->ĳ->Prop}{s:ĳ}
def Ś {t:Addr}{vs ws:List ĸ}{Q:ĸ->ĳ->Prop}(ht:IsTup s.heap t vs.toArray)(hb:IsTup s.heap b ws.toArray)(hv:vs≠[])(h1:ws=[]->Q (.ref t) s)(h2:ws≠[]->Q (.ref s.heap.objs.size) { s with heap:=s.heap.push { cls:=.type "tuple",data:=.seq (vs++ws).toArray } })(hsz:vs.length+ws.length<=sizeLine):wpAny (model prog w) A (binaryOp .Add (.ref t) (.ref b)) Q E s:=by
 obtain⟨⟨cls,dd,data,sl⟩,ho,hc,n,hd⟩:=id ht;obtain⟨⟨cls2,dd2,data2,sl2⟩,ho2,hc2,n2,hd2⟩:=id hb;simp only at hc hd hc2 hd2;subst hc hd hc2 hd2;have e:vs.toArray++ws.toArray=(vs++ws).toArray:=by simp
 by_cases hw:ws=[]
 ·exact concat_meets ⟨_,ho,rfl⟩ ⟨_,ho2,rfl⟩ noFill_tuple_add seq_tuple_add PySem.F.slot_tuple_add PySem.F.entry_tuple_add (PySem.F.args_tuple_add_2 _ _)
   (tuple_addW1 t b vs.toArray ws.toArray n n2 dd dd2 sl sl2 (by simpa using hv) (by simp[hw])) ⟨ho,ho2,h1 hw⟩
 ·refine concat_meets ⟨_,ho,rfl⟩ ⟨_,ho2,rfl⟩ noFill_tuple_add seq_tuple_add PySem.F.slot_tuple_add PySem.F.entry_tuple_add (PySem.F.args_tuple_add_2 _ _)
   (tuple_addW2 t b vs.toArray ws.toArray n n2 dd dd2 sl sl2 (by simpa using hv) (by simpa using hw) (by rw[ql,ql];exact hsz)) ⟨ho,ho2,?_⟩
  rw[e];exact h2 hw
def sIx (n d:Nat):Option Int->Nat
 |none=>d
 |some v=>if v<0 then(v+(n:Int)).toNat else min v.toNat n
def uW (n d:Nat)(hd:d<=n)(o:Option Int):sIx n d o<=n:=by
 cases o with
 |none=>exact hd
 |some v =>
  show(if v<0 then(v+(n:Int)).toNat else min v.toNat n)<=n;by_cases hv:v<0
  ·rw[if_pos hv];lia
  ·rw[if_neg hv];exact Nat.min_le_right _ _
def yS (v:Int)(n d:Nat):(if v<0 then max (v+(n:Int)) 0 else min v (n:Int))=((sIx n d (some v):Nat):Int):=by
 show(if v<0 then max (v+(n:Int)) 0 else min v (n:Int))=(((if v<0 then(v+(n:Int)).toNat else min v.toNat n):Nat):Int);by_cases hv:v<0
 ·simp only[if_pos hv];lia
 ·simp only[if_neg hv];lia
def iI (lo hi:Option Int)(n:Nat):Builtin.Slice.sliceAdjust lo hi 1 (n:Int)=(((sIx n 0 lo:Nat):Int),((sIx n n hi:Nat):Int)):=by
 have h1:¬ ((1:Int)<0):=by lia
 unfold Builtin.Slice.sliceAdjust;simp only[h1,if_false];refine Tz ?_ ?_
 ·cases lo with
  |none=>rfl
  |some v=>exact yS v n 0
 ·cases hi with
  |none=>rfl
  |some v=>exact yS v n n
def zlV (i j:Nat):Builtin.Slice.slicePlaces (i:Int) (j:Int) 1=j-i:=by
  unfold Builtin.Slice.slicePlaces;have h1:(1:Int) > 0:=by lia
  simp only[h1,if_true,Int.ediv_one];split<;>lia
def rG {Q:Option Int->ĳ->Prop}(p:IsPart v o)(h:Q o s):wpAny (model prog w) A (Builtin.Slice.slicePartIndex v) Q E s:=by
 cases p with
 |none=>exact slicePart_none h
 |int i t=>exact slicePart_int h
def wK {sl:Addr}{vl vu:ĸ}{lo:Option Int}{n:Nat}{Q:Int×Int×Nat->ĳ->Prop}(hs:s.heap.IsSliceOf sl vl vu .none)(pl:IsPart vl lo)(pu:IsPart vu hi)(h:Q (((sIx n 0 lo:Nat):Int),1,sIx n n hi-sIx n 0 lo) s):wpAny (model prog w) A (Builtin.Slice.sliceApplied (.ref sl) (pure (n:Int))) Q E s:=by obtain⟨os,hos,hcs,hds⟩:=id hs;unfold Builtin.Slice.sliceApplied Builtin.Slice.sliceFields;refine wpAny_bind (wpAny_bind (wpAny_field hos hds (x:=vl) rfl (wpAny_bind (wpAny_field hos hds (x:=vu) rfl (wpAny_bind (wpAny_field hos hds (x:=.none) rfl (wpAny_pure ?_)))))));refine wpAny_bind (slicePart_none ?_);show wpAny _ _ (if((1:Int)==0)=true then _ else _) _ _ s;rw[if_neg (by decide)];refine wpAny_bind (rG pl (wpAny_bind (rG pu (wpAny_bind (wpAny_pure ?_)))));show wpAny _ _ (match Builtin.Slice.sliceAdjust lo hi 1 (n:Int)with|(lo,hi)=>pure (lo,(1:Int),Builtin.Slice.slicePlaces lo hi 1)) _ _ s;rw[iI lo hi n];show wpAny _ _ (pure (((sIx n 0 lo:Nat):Int),(1:Int),Builtin.Slice.slicePlaces ((sIx n 0 lo:Nat):Int) ((sIx n n hi:Nat):Int) 1)) _ _ s;rw[zlV];exact wpAny_pure h
def ξ (xs:Array ĸ)(i k:Nat):((List.range k).filterMap fun (m:Nat)=>xs[((i:Int)+(m:Int)*1).toNat]?).toArray=((xs.toList.drop i).take k).toArray:=by
 have e:(fun (m:Nat)=>xs[((i:Int)+(m:Int)*1).toNat]?)=fun m=>xs[i+m]?:=by
  funext m;have:((i:Int)+(m:Int)*1).toNat=i+m:=by lia
  rw[this]
 rw[e];have:=pick_run xs i k;rw[List.filterMap_map]at this;have e2:((fun x=>xs[x]?) ∘ fun x=>i+x)=fun m=>xs[i+m]?:=rfl
 rw[e2]at this;rw[this]
def iJ {t sl:Addr}{items:Array ĸ}{vl vu:ĸ}{lo:Option Int}{Q:ĸ->ĳ->Prop}(ht:IsTup s.heap t items)(hs:s.heap.IsSliceOf sl vl vu .none)(pl:IsPart vl lo)(pu:IsPart vu hi)(hw:¬ (sIx items.size 0 lo=0/\sIx items.size items.size hi=items.size))(h:Q (.ref s.heap.objs.size) { s with heap:=s.heap.push { cls:=.type "tuple",data:=.seq ((items.toList.drop (sIx items.size 0 lo)).take (sIx items.size items.size hi-sIx items.size 0 lo)).toArray } })(hsz:items.size<=sizeLine):wpAny (model prog w) A (getItem (.ref t) (.ref sl)) Q E s:=by
 have htake:sizeOk (.seq ((items.toList.drop (sIx items.size 0 lo)).take (sIx items.size items.size hi-sIx items.size 0 lo)).toArray):=by show((items.toList.drop (sIx items.size 0 lo)).take (sIx items.size items.size hi-sIx items.size 0 lo)).toArray.size<=sizeLine;rw[ql,V7,qbv,Vh];lia
 have hj:sIx items.size items.size hi<=items.size:=uW _ _ (qh _) hi;obtain⟨os,hos,hcs,hds⟩:=id hs;have hTs:s.TypeIs (.ref sl) "slice":=⟨os,hos,hcs⟩
 unfold getItem
 try with_reducible refine wpAny_holding ?_
 first|refine wpAny_bind (wpAny_pure ?_)|skip
 refine wpAny_bind (wpAny_sequenceKey ht.typeIs (by decide) ?_)
 refine wpAny_bind (wpAny_callSpecial?_slot (name:=Str.ofString "__getitem__") ht.typeIs PyProof.Rows.slot_tuple_getitem
  (wpAny_call_entry PyProof.Rows.slot_tuple_getitem ht.typeIs entry_tuple_getitem ?_ (args_tuple_getitem _ _)))
 show wpAny _ _ (Builtin.Tuple.tupleItemsOf (.ref t) >>= _) _ _ s;refine wpAny_bind (tupleItemsOf_ ht ?_);refine wpAny_bind (wpAny_typeOf hTs ?_);rw[if_pos (by decide)];refine wpAny_bind (wK hs pl pu ?_)
 have hno:¬ ((((sIx items.size 0 lo:Nat):Int)==0&&(1:Int)==1&&(sIx items.size items.size hi-sIx items.size 0 lo)==items.size)=true):=by intro q;rw[qq,qq]at q;have q1:((sIx items.size 0 lo:Nat):Int)=0:=eq_of_beq q.1.1;have q2:sIx items.size items.size hi-sIx items.size 0 lo=items.size:=eq_of_beq q.2;exact hw ⟨by lia,by lia⟩
 show wpAny _ _ (if(((sIx items.size 0 lo:Nat):Int)==0&&(1:Int)==1&&(sIx items.size items.size hi-sIx items.size 0 lo)==items.size)=true then _ else _) _ _ s;rw[if_neg hno,ξ]
 first
  |exact wpAny_bind (m:=Builtin.Tuple.tupleExact _) (wpAny_newObj_type (wpAny_pure ⟨_,rfl,wpAny_pure h⟩) htake)
  |exact wpAny_bind (m:=Builtin.Tuple.tupleExact _) (wpAny_newObj_type (wpAny_bind (wpAny_pure (wpAny_pure ⟨_,rfl,wpAny_pure h⟩))) htake)
  |exact wpAny_bind (wpAny_bind (m:=Builtin.Tuple.tupleExact _) (wpAny_newObj_type (wpAny_pure (wpAny_pure ⟨_,rfl,wpAny_pure h⟩)) htake))
  |exact wpAny_bind (wpAny_bind (m:=Builtin.Tuple.tupleExact _) (wpAny_newObj_type (wpAny_pure ⟨_,rfl,wpAny_pure h⟩) htake))
end
end HT
namespace L2
open PySem PySem.Spec PyProof.Rows
abbrev TO:=St->Hp->(Option Int->Hp->Prop)->Prop
def PO (X:Cx)(e:Option Expr)(t:TO):Prop :=
 ∀ (Z9:List (Addr×Obj)) (s:ĳ) (U:St) (H:Hp) (Q:Option Int->Hp->Prop),Inv X Z9 U H s->t U H Q ->
  wpAny (model X.prog X.w) X.A (evalPart e X.env) (fun u s'=>∃ o H',Inv X Z9 U H' s'/\IsPart u o/\Q o H') X.xe s
def zqz:TO:=fun _ H Q=>Q none H
def iy (t:TE):TO:=fun U H Q=>t U H fun x H1=>∃ i,x=.int i/\Q (some i) H1
section
variable {X:Cx}{e:Expr}{te:TE}{lo hi:Option Expr}{tl th:TO}{pos p2:Pos}
def ϙ:PO X none zqz:=by intro Z9 s U H Q I h;rw[evalPart_none];exact wpAny_pure ⟨none,H,I,.none,h⟩
def ü (h:PE X e te):PO X (some e) (iy te):=by
 intro Z9 s U H Q I hw;rw[evalPart_some];refine Z2 (h Z9 s U H _ I hw) fun u s1 ⟨x,H1,I1,r1,q1⟩=>?_
 obtain⟨i,rfl,q⟩:=q1;obtain⟨t,rfl⟩:=r1;exact⟨some i,H1,I1,.int i t,q⟩
def R7 (X:Cx)(r:V->Option Int->Option Int->Hp->VK->Prop):Prop :=
 ∀ (Z9:List (Addr×Obj)) (s:ĳ) (U:St) (H:Hp) (x:V) (v vl vu:ĸ) (lo hi:Option Int) (sl:Addr) (Q:VK),Inv X Z9 U H s->RelV x v->s.heap.IsSliceOf sl vl vu .none->IsPart vl lo->IsPart vu hi->r x lo hi H Q ->
  ∃ T id,typeLookup (.type T) "__getitem__"=pure (some (.builtin id))/\s.TypeIs v T/\wpAny (model X.prog X.w) X.A (getItem v (.ref sl)) (EP X Z9 U Q) X.xe s
def R7.or (h:R7 X r)(h':R7 X r'):R7 X (fun x lo hi H Q=>r x lo hi H Q\/r' x lo hi H Q):=by
 intro Z9 s U H x v vl vu lo hi sl Q I rx hs pl pu q;rcases q with q|q
 ·exact h Z9 s U H x v vl vu lo hi sl Q I rx hs pl pu q
 ·exact h' Z9 s U H x v vl vu lo hi sl Q I rx hs pl pu q
def tSl (r:V->Option Int->Option Int->Hp->VK->Prop)(te:TE)(tl th:TO):TE:=fun U H Q=>te U H fun x H1=>tl U H1 fun l H2=>th U H2 fun u H3=>r x l u H3 Q
def Η (hr:R7 X r)(he:PE X e te)(hl:PO X lo tl)(hu:PO X hi th):PE X (.Subscript e (.Slice lo hi none p2) pos) (tSl r te tl th):=by
 intro Z9 s U H Q I h;refine Subscript_ (Z2 (he Z9 s U H _ I h) fun v s1 ⟨x,H1,I1,r1,q1⟩=>?_);refine wpAny_Slice (Z2 (hl Z9 s1 U H1 _ I1 q1) fun vl s2 ⟨l,H2,I2,pl,q2⟩=>Z2 (hu Z9 s2 U H2 _ I2 q2) fun vu s3 ⟨u,H3,I3,pu,q3⟩=>?_);rw[evalPart_none];refine wpAny_pure ?_;have I4:Inv X Z9 U H3 { s3 with heap:=s3.heap.push { cls:=.type "slice",data:=.fields #[vl,vu,.none] } }:=I3.kept (t':=s3.toks) fun b ob q=>qc _ q
 obtain⟨T,id,hT,ht,hg⟩:=hr Z9 { s3 with heap:=s3.heap.push { cls:=.type "slice",data:=.fields #[vl,vu,.none] } } U H3 x v vl vu l u s3.heap.objs.size Q I4 r1 (Heap.IsSliceOf.new ..) pl pu q3;show wpAny (model X.prog X.w) X.A (subscriptTail e (.Slice lo hi none p2) v (.ref s3.heap.objs.size)) (EP X Z9 U Q) X.xe { s3 with heap:=s3.heap.push { cls:=.type "slice",data:=.fields #[vl,vu,.none] } };exact tail_any (ops:=[.ref s3.heap.objs.size,v]) ht hT hg (by with_unfolding_all rfl)
def Uz (xs:List V)(lo hi:Option Int):List V:=(xs.drop (HT.sIx xs.length 0 lo)).take (HT.sIx xs.length xs.length hi-HT.sIx xs.length 0 lo)
def uw (xs:List V)(lo hi:Option Int):(Uz xs lo hi).length<=xs.length:=by unfold Uz;rw[V7,qbv];lia
def zyo (K:Ĳ):V->Option Int->Option Int->Hp->VK->Prop:=fun x lo hi H Q=>∃ a xs,x=.ref a/\ZP K H a xs /\
 ¬ (HT.sIx xs.length 0 lo=0/\HT.sIx xs.length xs.length hi=xs.length)/\∀ p,H p=none->Q (.ref p) (upd H p (.tup (Uz xs lo hi)))
def jt:R7 X (zyo X.K):=by
 intro Z9 s U H x v vl vu lo hi sl Q I rx hs pl pu h;obtain⟨a,xs,rfl,hx,hw,q⟩:=h;cases rx;obtain⟨its,r,ht,hz⟩:=I.tuple hx;have hlen:its.toArray.size=xs.length:=by rw[ql];exact r.length.symm
 refine⟨"tuple",_,PyProof.Rows.slot_tuple_getitem.lookup,ht.typeIs,?_⟩;refine HT.iJ ht hs pl pu (by rw[hlen];exact hw) ?_ (by rw[hlen];exact hz);rw[hlen];refine⟨.ref s.heap.objs.size,_,I.laid (t':=s.toks) (o:=.tup (Uz xs lo hi)) (fun b ob q=>qc _ q) (qh _) ?_,rfl,q _ (I.hok.fresh (qh _))⟩;exact⟨qW (uw xs lo hi) hz,_,(r.drop (HT.sIx xs.length 0 lo)).take (HT.sIx xs.length xs.length hi-HT.sIx xs.length 0 lo),IsTup.new _ _⟩
def Ø (K:Ĳ):R2:=fun x y H Q=>∃ a b xs ys,x=.ref a/\y=.ref b/\ZP K H a xs/\ZP K H b ys/\xs≠[]/\xs.length+ys.length<=sizeLine /\
 (ys=[]->Q (.ref a) H)/\(ys≠[]->∀ p,H p=none->Q (.ref p) (upd H p (.tup (xs++ys))))
def Vals.nil_iff (r:Vals xs us):us=[]↔xs=[]:=by
 cases r with
 |nil=>simp
 |cons _ _=>simp
def ÿ:ZQ X (binaryOp .Add) (Ø X.K):=by intro Z9 s U H x y v u Q I rx ry h;obtain⟨a,b,xs,ys,rfl,rfl,ha,hb,hx,hz,q1,q2⟩:=h;cases rx;cases ry;obtain⟨its,r1,p1,_⟩:=I.tuple ha;obtain⟨its2,r2,p2,_⟩:=I.tuple hb;refine HT.Ś p1 p2 (fun z=>hx (r1.nil_iff.mp z)) (fun z=>⟨.ref a,H,I,rfl,q1 (r2.nil_iff.mp z)⟩) (fun z=>?_) (by rw[<- r1.length,<- r2.length];exact hz);refine⟨.ref s.heap.objs.size,_,I.laid (t':=s.toks) (o:=.tup (xs++ys)) (fun b ob q=>qc _ q) (qh _) ?_,rfl,q2 (fun w=>z (r2.nil_iff.mpr w)) _ (I.hok.fresh (qh _))⟩;exact⟨by rw[qf];exact hz,_,r1.append r2,IsTup.new _ _⟩
end
def O7 (n:Nat)(i:Int):Option Nat:=if 0<=i then(if i<n then some i.toNat else none)else if -(n:Int)<=i then some (i+n).toNat else none
def QG (xs:List α)(i:Int):Option α:=(O7 xs.length i).bind fun j=>xs[j]?
def uh {n:Nat}{i:Int}{j:Nat}(h:O7 n i=some j):seqIndex? i n=some j/\j<n/\-(n:Int)<=i/\i<n:=by
 unfold O7 at h;by_cases h0:0<=i
 ·rw[if_pos h0]at h;by_cases h1:i<n
  ·rw[if_pos h1]at h;have e:i.toNat=j:=qD h;exact⟨by rw[seqIndex_of h0 h1,e],by lia,by lia,h1⟩
  ·rw[if_neg h1]at h;cases h
 ·rw[if_neg h0]at h;by_cases h1:-(n:Int)<=i
  ·rw[if_pos h1]at h;have e:(i+n).toNat=j:=qD h;exact⟨by rw[seqIndex_neg (by lia) h1,e],by lia,h1,by lia⟩
  ·rw[if_neg h1]at h;cases h
def Gb {α:Type}{xs:List α}{i:Int}{v:α}(h:QG xs i=some v):∃ j,seqIndex? i xs.length=some j/\xs[j]?=some v/\j<xs.length/\-(xs.length:Int)<=i/\i<xs.length:=by
 unfold QG at h;cases e:O7 xs.length i with
 |none=>rw[e]at h;cases h
 |some j =>rw[e]at h;obtain⟨h1,h2,h3,h4⟩:=uh e;exact⟨j,h1,h,h2,h3,h4⟩
def Gi (b:Expr):Prop:=∀ o i,subscripted b false o i=operate [o,i] (getItem o i)
def RV (X:Cx)(r:R2):Prop :=
 ∀ (value slice:Expr) (Z9:List (Addr×Obj)) (s:ĳ) (U:St) (H:Hp) (x y:V) (v u:ĸ) (Q:VK),Inv X Z9 U H s->RelV x v->RelV y u->r x y H Q ->
  subscripted slice false v u=operate [v,u] (getItem v u)->wpAny (model X.prog X.w) X.A (subscriptTail value slice v u) (EP X Z9 U Q) X.xe s
def Jd (X:Cx)(id:String)(r:V->List V->Hp->VK->Prop):Prop :=
 ∀ (Z9:List (Addr×Obj)) (s:ĳ) (U:St) (H:Hp) (x:V) (xs:List V) (v:ĸ) (us:List ĸ) (Q:VK),Inv X Z9 U H s->RelV x v->Vals xs us->r x xs H Q ->
  wpAny (model X.prog X.w) X.A (call (.builtin id) (v::us)) (EP X Z9 U Q) X.xe s
section
variable {X:Cx}{a b:Expr}{ta tb:TE}{pos:Pos}
def RV.or (h:RV X r)(h':RV X r'):RV X (fun x y H Q=>r x y H Q\/r' x y H Q):=by
 intro value slice Z9 s U H x y v u Q I rx ry q hs;rcases q with q|q
 ·exact h value slice Z9 s U H x y v u Q I rx ry q hs
 ·exact h' value slice Z9 s U H x y v u Q I rx ry q hs
def dz (hr:RV X r)(ha:PE X a ta)(hb:PE X b tb)(hs:Gi b):PE X (.Subscript a b pos) (KD r ta tb):=by intro Z9 s U H Q I h;exact Subscript_ (Em ha hb I h fun v u s2 x y H2 I2 rx ry q=>hr a b Z9 s2 U H2 x y v u Q I2 rx ry q (hs _ _))
def zy5 (K:Ĳ):R2:=fun x y H Q=>∃ p xs i v,x=.ref p/\y=.int i/\ZC K H p xs/\QG xs i=some v/\Q v H
def zyv (K:Ĳ):R2:=fun x y H Q=>∃ p xs i v,x=.ref p/\y=.int i/\ZP K H p xs/\QG xs i=some v/\Q v H
def jl:R2:=fun x y H Q=>∃ z i c,x=.str z/\y=.int i/\z.length<=sizeLine/\QG z.cps.toList i=some c/\Q (.str ⟨#[c]⟩) H
def Ü:RV X (zy5 X.K):=by
  intro value slice Z9 s U H x y v u Q I rx ry h hs;obtain⟨p,xs,i,z,rfl,rfl,hq,he,q⟩:=h;cases rx;obtain⟨t,rfl⟩:=ry;obtain⟨its,r,pl,hz⟩:=I.list hq;obtain⟨j,h1,h2,h3,h4,h5⟩:=Gb he;obtain⟨w,ew,rw'⟩:=r.get h2;have hl:=r.length;have hn:=N7;have fin:EP X Z9 U Q w s:=⟨z,H,I,rw',q⟩
  by_cases h0:0<=i
  . have hj : i.toNat = j := by
      rw[seqIndex_of h0 h5]at h1;exact qD h1
    exact item_listR pl.isList h0 (by lia) (by rw[hj];simpa using ew) fin hs
  . have hj : (i + (its.toArray.size : Int)).toNat = j := by
      rw[seqIndex_neg (by lia) h4]at h1;rw[ql,<- hl];exact qD h1
    exact subscriptTail_builtinR (x:=w) pl.isList.typeIs slot_list_getitem.lookup
      (wpAny_getItem_list_neg (Q:=fun r s'=>r=w/\EP X Z9 U Q r s') pl.isList (by lia) (by rw[ql]<;>lia) (by lia) (by rw[hj];simpa using ew) ⟨rfl,fin⟩) hs
def į:RV X (zyv X.K):=by
 intro value slice Z9 s U H x y v u Q I rx ry h hs;obtain⟨p,xs,i,z,rfl,rfl,hq,he,q⟩:=h;cases rx;obtain⟨t,rfl⟩:=ry;obtain⟨its,r,pl,hz⟩:=I.tuple hq;obtain⟨j,h1,h2,h3,h4,h5⟩:=Gb he;obtain⟨w,ew,rw'⟩:=r.get h2;have hl:=r.length;have hn:=N7;have fin:EP X Z9 U Q w s:=⟨z,H,I,rw',q⟩
 exact subscriptTail_builtinR (x:=w) pl.typeIs slot_tuple_getitem.lookup
  (getItem_tuple (j:=j) (Q:=fun r s'=>r=w/\EP X Z9 U Q r s') pl (by lia) (by lia) (by rw[ql,<- hl];exact h1) (by simpa using ew) ⟨rfl,fin⟩) hs
def zub:RV X jl:=by
 intro value slice Z9 s U H x y v u Q I rx ry h hs;obtain⟨z,i,c,rfl,rfl,hz,he,q⟩:=h;obtain⟨t,rfl⟩:=rx;obtain⟨t',rfl⟩:=ry;obtain⟨j,h1,h2,h3,h4,h5⟩:=Gb he;have hl:z.cps.toList.length=z.length:=by simp[Str.length]
 rw[hl]at h1 h4 h5;have hn:=N7
 exact tail_any (typeIs_str s z t) slot_str_getitem.lookup (getItem_str (c:=c) (by have e1:decide (i < -(2 ^ 63:Int))=false:=decide_eq_false (by lia);have e2:decide (i ≥ 2 ^ 63)=false:=decide_eq_false (by lia);rw[e1,e2,Bool.or_false]) (by rw[h1];simpa using h2) ⟨.str ⟨#[c]⟩,H,I.tok _,⟨_,rfl⟩,q⟩) hs
def zlG (its:List ĸ)(n j:Nat)(u:ĸ):Obj.mapSeq (·.setIfInBounds j u) { cls:=.type "list",data:=.seq its.toArray n }={ cls:=.type "list",data:=.seq (its.set j u).toArray n }:=by simp[Obj.mapSeq]
theorem Inv.lst {xs:List V}(I:Inv X Z9 U H s)(h:H p=some (.lst xs)) :
  ∃ (its:List ĸ) (n:Nat),Vals xs its/\s.heap.get? p=some { cls:=.type "list",data:=.seq its.toArray n }/\xs.length<=sizeLine:=by
 obtain⟨z,its,n,r,e⟩:=I.hok p _ h;exact⟨its,n,r,e,z⟩
def Inv.lstUpd {xs:List V}{its its':List ĸ}{n n':Nat}{f:Obj->Obj}(I:Inv X Z9 U H s)(h:H p=some (.lst xs))(ho:s.heap.get? p=some { cls:=.type "list",data:=.seq its.toArray n })(hf:f { cls:=.type "list",data:=.seq its.toArray n }={ cls:=.type "list",data:=.seq its'.toArray n' })(r:Vals ys its')(hz:ys.length<=sizeLine)(t:Nat) :
    Inv X Z9 U (upd H p (.lst ys)) { s with heap:=s.heap.update p f,toks:=t }:=by
  have e:(s.heap.update p f).get? p=some { cls:=.type "list",data:=.seq its'.toArray n' }:=by rw[Heap.get?_update_self f ho (by rw[hf]<;>rfl),hf]
  refine I.write (x:=p) (e:=p) (by rw[h];trivial) (.inl rfl) (fun b u hb q=>(Heap.get?_update_other _ _ (Ne.symm hb)).trans q) ⟨_,e⟩ ?_;exact⟨hz,its',n',r,e⟩
def zwZ:V->V->V->Hp->(Hp->Prop)->Prop:=fun o i v H Q=>∃ p xs k j,o=.ref p/\i=.int k/\H p=some (.lst xs)/\O7 xs.length k=some j/\Q (upd H p (.lst (xs.set j v)))
def set_list:uD X zwZ:=by
 intro Z9 s U H o i v ov iv u Q I ro ri rv h;obtain⟨p,xs,k,j,rfl,rfl,hp,hj,q⟩:=h;cases ro;obtain⟨t,rfl⟩:=ri;obtain⟨its,n,r,ho,hz⟩:=I.lst hp;obtain⟨h1,h2,h3,h4⟩:=uh hj;have hl:=r.length;have hn:=N7
 have I':Inv X Z9 U (upd H p (.lst (xs.set j v))) { s with heap:=s.heap.update p (Obj.mapSeq (·.setIfInBounds j u)) } :=I.lstUpd hp ho (zlG its n j u) (r.set rv j) (by rw[Xb];exact hz) s.toks
 by_cases h0:0<=k
 ·have hk:k.toNat=j:=by
   rw[seqIndex_of h0 h4]at h1;exact qD h1
  exact PySem.W.ki_setAt ho h0 (by lia) (by rw[ql,<- hl];exact h4) (by rw[hk];exact⟨_,I',q⟩)
 ·have hk:(k+(its.toArray.size:Int)).toNat=j:=by
   rw[seqIndex_neg (by lia) h3]at h1;rw[ql,<- hl];exact qD h1
  exact PySem.W.ki_setBack ho (by lia) (by rw[ql,<- hl];exact h3) (by lia) (by rw[hk];exact⟨_,I',q⟩)
def zjz (lo hi:Option Int)(n:Nat):(sliceBounds lo hi none n).1=((HT.sIx n 0 lo:Nat):Int)/\(sliceBounds lo hi none n).2.1=((HT.sIx n n hi:Nat):Int)/\(sliceBounds lo hi none n).2.2=1:=by
  refine⟨?_,?_,rfl⟩
  . cases lo with
    |none=>simp[sliceBounds,HT.sIx]
    |some i =>
      simp only[sliceBounds,HT.sIx,Option.getD_none,show(1:Int) > 0 by decide,if_true];by_cases h:i<0
      . simp only[h,if_true]<;>lia
      . simp only[h,if_false]<;>lia
  . cases hi with
    |none=>simp[sliceBounds,HT.sIx]
    |some i =>
      simp only[sliceBounds,HT.sIx,Option.getD_none,show(1:Int) > 0 by decide,if_true];by_cases h:i<0
      . simp only[h,if_true]<;>lia
      . simp only[h,if_false]<;>lia
def Æ (its:List ĸ)(lo hi:Option Int):slicePick its.toArray lo hi none=((its.drop (HT.sIx its.length 0 lo)).take (HT.sIx its.length its.length hi-HT.sIx its.length 0 lo)).toArray:=by obtain⟨h1,h2,h3⟩:=zjz lo hi its.toArray.size;unfold slicePick;rw[h1,h2,h3];simp only[sliceRange_one,pick_run,ql]<;>rfl
def zye (K:Ĳ):V->Option Int->Option Int->Hp->VK->Prop:=fun x lo hi H Q=>∃ a xs,x=.ref a/\ZC K H a xs/\∀ p,H p=none->Q (.ref p) (upd H p (.lst (Uz xs lo hi)))
def μ:R7 X (zye X.K):=by intro Z9 s U H x v vl vu lo hi sl Q I rx hs pl pu h;obtain⟨a,xs,rfl,hx,q⟩:=h;cases rx;obtain⟨its,r,ht,hz⟩:=I.list hx;have hlen:=r.length;refine⟨"list",_,slot_list_getitem.lookup,ht.isList.typeIs,?_⟩;refine wpAny_getItem_list_slice ht.isList hs pl pu .none (by simp) ?_ (by rw[ql]<;>lia);rw[Æ,<- hlen];refine⟨.ref s.heap.objs.size,_,I.laid (t':=s.toks) (o:=.lst (Uz xs lo hi)) (fun b ob q=>qc _ q) (qh _) ?_,rfl,q _ (I.hok.fresh (qh _))⟩;exact⟨qW (uw xs lo hi) hz,_,0,(r.drop (HT.sIx xs.length 0 lo)).take (HT.sIx xs.length xs.length hi-HT.sIx xs.length 0 lo),qo _ rfl⟩
def ziK:YM X (.builtin "len") (fun xs H Q=>∃ p ys,xs=[.ref p]/\(ZC X.K H p ys\/ZP X.K H p ys)/\Q (.int ys.length) H):=by
  intro Z9 s U H xs us Q I r h;obtain⟨p,ys,rfl,hq,q⟩:=h;obtain⟨u,rfl,rx⟩:=vals1 r;cases rx;have hn:=N7;rcases hq with hq|hq
  . obtain⟨its,r',pl,hz⟩:=I.list hq;have hlen:=r'.length;exact Calls.call_len_list pl.isList (by simp only[ql]<;>lia) ⟨.int ys.length,H,I.tok _,⟨s.toks+1,by rw[ql,hlen]⟩,q⟩
  . obtain⟨its,r',pl,hz⟩:=I.tuple hq;have hlen:=r'.length;exact len_tuple pl (by simp only[ql]<;>lia) ⟨.int ys.length,H,I.tok _,⟨s.toks+1,by rw[ql,hlen]⟩,q⟩
def jQ:YM X (.builtin "len") (fun xs H Q=>∃ z,xs=[.str z]/\z.length<=sizeLine/\Q (.int z.length) H):=by intro Z9 s U H xs us Q I r h;obtain⟨z,rfl,hz,q⟩:=h;obtain⟨u,rfl,t,rfl⟩:=vals1 r;have hn:=N7;exact len_str (by lia) ⟨.int z.length,H,I.tok _,⟨_,rfl⟩,q⟩
def YM.or (h:YM X f r)(h':YM X f r'):YM X f (fun xs H Q=>r xs H Q\/r' xs H Q):=by
 intro Z9 s U H xs us Q I rs q;rcases q with q|q
 ·exact h Z9 s U H xs us Q I rs q
 ·exact h' Z9 s U H xs us Q I rs q
def aP:YM X (.type "list") (fun xs H Q=>∃ p ys,xs=[.ref p]/\(ZC X.K H p ys\/ZP X.K H p ys)/\∀ l,H l=none->Q (.ref l) (upd H l (.lst ys))):=by
  intro Z9 s U H xs us Q I r h;obtain⟨p,ys,rfl,hq,q⟩:=h;obtain⟨u,rfl,rx⟩:=vals1 r;cases rx
  have fin : ∀ (its : List ĸ), Vals ys its → ys.length ≤ sizeLine → ∀ (h' : Heap) (c' : Nat), (∀ b o', s.heap.get? b = some o' → h'.get? b = some o') →
      h'.get? s.heap.objs.size=some { cls:=.type "list",dict:=none,data:=.seq its.toArray c',slots:=#[] }->EP X Z9 U Q (.ref s.heap.objs.size) { s with heap:=h' }:=fun its r' hz h' c' kp e =>
    ⟨.ref s.heap.objs.size,_,I.laid (t':=s.toks) kp (qh _) (show zX X.prog X.w _ h' _ (.lst ys)from ⟨hz,its,c',r',e⟩),rfl,q _ (I.hok.fresh (qh _))⟩
  rcases hq with hq|hq
  . obtain⟨its,r',pl,hz⟩:=I.list hq;have hlen:=r'.length;obtain⟨o,ho,hc,n,hd⟩:=pl.isList;exact call_list_seq p (.inl rfl) ho hc hd (fun h' c' kp e=>fin its r' hz h' c' kp e) (by simp only[ql]<;>lia)
  . obtain⟨its,r',pl,hz⟩:=I.tuple hq;have hlen:=r'.length;obtain⟨o,ho,hc,n,hd⟩:=pl;exact call_list_seq p (.inr rfl) ho hc hd (fun h' c' kp e=>fin its r' hz h' c' kp e) (by simp only[ql]<;>lia)
def JT (K:Ĳ)(T:String)(x:V)(H:Hp):Prop:=match x with
 | .str _=>T="str"
 | .int _=>T="int"
 | .ref p=>(T="list"/\∃ xs,ZC K H p xs)\/(T="tuple"/\∃ o,K.lookup p=some o/\o.cls=.type "tuple"/\o.dict=none) \/
   (T="dict"/\((∃ Z8,H p=some (.dK Z8))\/∃ Z8,H p=some (.dT Z8)))\/(T="set"/\∃ S n,H p=some (.set S n))
 |_=>False
def su {T:String}(I:Inv X Z9 U H s)(r:RelV x v)(ty:JT X.K T x H) :
  s.TypeIs v T/\∀ a,v=.ref a->∃ ob,s.heap.get? a=some ob/\ob.dict=none:=by
 cases x with
 |str z =>obtain⟨t,rfl⟩:=r;cases(show T="str" from ty);exact⟨typeIs_str s z t,fun _ e=>nomatch e⟩
 |int i =>obtain⟨t,rfl⟩:=r;cases(show T="int" from ty);exact⟨typeIs_int s i t,fun _ e=>nomatch e⟩
 |ref p =>
  cases r;rcases ty with⟨rfl,xs,hq⟩|⟨rfl,o,hk,hc,hd⟩|⟨rfl,hk⟩|⟨rfl,S,n,hk⟩
  ·obtain⟨its,_,pl,_⟩:=I.list hq;refine⟨pl.isList.typeIs,fun a e=>?_⟩;cases e;obtain⟨o,n,e,c,hd,_⟩:=pl;exact⟨o,e,hd⟩
  ·refine⟨⟨o,I.kIn p o hk,hc⟩,fun a e=>?_⟩;cases e;exact⟨o,I.kIn _ o hk,hd⟩
  ·have z:∃ o,s.heap.get? p=some o/\o.ExactDict:=by
    rcases hk with⟨Z8,hk⟩|⟨Z8,hk⟩
    ·obtain⟨_,_,_,_,o,_,_,e,ex,_⟩:=I.hok p _ hk;exact⟨o,e,ex⟩
    ·obtain⟨_,_,_,_,o,_,_,e,ex,_⟩:=I.hok p _ hk;exact⟨o,e,ex⟩
   obtain⟨o,e,ex⟩:=z;refine⟨⟨o,e,ex.1⟩,fun a e2=>?_⟩;cases e2;exact⟨o,e,ex.2.1⟩
  ·obtain⟨o,_,_,_,e,ex,_⟩:=I.hok p _ hk;refine⟨⟨o,e,ex.1⟩,fun a e2=>?_⟩;cases e2;exact⟨o,e,ex.2.1⟩
 |_=>exact False.elim ty
def cW (K:Ĳ)(T:String)(r:V->List V->Hp->VK->Prop)(to:TE):TE:=fun U H Q=>to U H fun x H1=>JT K T x H1/\r x [] H1 Q
def gQ (K:Ĳ)(T:String)(r:V->List V->Hp->VK->Prop)(to:TE)(t:TA):TE:=fun U H Q=>to U H fun x H1=>JT K T x H1/\t U H1 fun xs H2=>r x xs H2 Q
variable {o e:Expr}{es:List Expr}{to:TE}{t:TA}{name:Str}{apos cpos:Pos}{T id:String}{r:V->List V->Hp->VK->Prop}
def æ (pa:PlainAttrs T)(slot:Slot T name id)(hty:typeOf (.builtin id)=pure (.type "method_descriptor"))(hm:Jd X id r)(ho:PE X o to)
  (hbase:attributeBase o name X.env (eval o X.env)=eval o X.env:=by rfl) (hline:(apos.endLine==cpos.line)=true:=by rfl):PE X (.Call (.Attribute o name apos) [] [] cpos) (cW X.K T r to):=by
 intro Z9 s U H Q I h;refine wpAny_Call_method0_late hbase hline (Z2 (ho Z9 s U H _ I h) fun v s1 ⟨x,H1,I1,r1,ty,q1⟩=>?_);obtain⟨h1,h2⟩:=su I1 r1 ty;exact⟨T,id,pa,slot,hty,h1,h2,Calls.callWith_builtin rfl (PySem.evalArgs_none (hm Z9 s1 U H1 x [] v [] Q I1 r1 .nil q1))⟩
def gZ (pa:PlainAttrs T)(slot:Slot T name id)(hty:typeOf (.builtin id)=pure (.type "method_descriptor"))(hm:Jd X id r)(ho:PE X o to)(ha:PA X (e::es) t)
    (hbase:attributeBase o name X.env (eval o X.env)=eval o X.env:=by rfl)
    (hfew:((backTo cpos (starEach (e::es) X.env)).all (fun x=>!x.1)&&(backToKw cpos (keywordEach [] X.env)).all (fun x=>x.1.isSome)
     &&decide ((e::es).length+([]:List Keyword).length+(if([]:List Keyword).isEmpty then 0 else 1)<30))=true:=by rfl)
    (hline:(apos.endLine==cpos.line)=true:=by rfl) (hs:starEach (e::es) X.env=(false,eval e X.env)::starEach es X.env:=by rfl) (hplain:(backTo cpos (starEach es X.env)).any (·.1)=false:=by rfl) :
    PE X (.Call (.Attribute o name apos) (e::es) [] cpos) (gQ X.K T r to t):=by
  intro Z9 s U H Q I h;refine wpAny_Call_method_late hbase hfew hline rfl (Z2 (ho Z9 s U H _ I h) fun v s1 ⟨x,H1,I1,r1,ty,q1⟩=>?_);obtain⟨h1,h2⟩:=su I1 r1 ty;refine⟨T,id,pa,slot,hty,h1,h2,?_⟩;have hA:=ha cpos Z9 s1 U H1 _ I1 q1;rw[hs]at hA ⊢;refine Calls.callWith_builtin (by show(false||(backTo cpos (starEach es X.env)).any (·.1))=false;rw[hplain]<;>rfl) (Calls.evalArgs_plain ?_);exact Z2 hA fun us s2 zq9=>by obtain⟨vs,H2,I2,r2,q2⟩:=zq9;exact hm Z9 s2 U H2 x vs v us Q I2 r1 r2 q2
/- xs.append(e),list.index on a module's tuple .. are Jd facts of 06m -/
end
def Rh (X:Cx)(id:String)(r:V->List V->Hp->VK->Prop):Prop :=
 ∀ (Z9:List (Addr×Obj)) (s:ĳ) (U:St) (H:Hp) (x:V) (xs:List V) (v:ĸ) (us:List ĸ) (Q:VK),Inv X Z9 U H s->RelV x v->Vals xs us->r x xs H Q ->
  wpAny (model X.prog X.w) X.A (call (.builtin id) (v::us)) (EP X Z9 U Q) X.xe s
theorem Vals.one:∀ {x:V} {us:List ĸ},Vals [x] us->∃ u,us=[u]/\RelV x u
 |_,_,.cons r .nil=>⟨_,rfl,r⟩
theorem Vals.zero:∀ {us:List ĸ},Vals [] us->us=[]
 |_,.nil=>rfl
theorem Vals.eraseIdx:∀ {xs:List V} {us:List ĸ} (i:Nat),Vals xs us->Vals (xs.eraseIdx i) (us.eraseIdx i)
 |_,_,_,.nil=>.nil
 |_,_,0,.cons _ t=>t
 |_,_,i+1,.cons r t=>.cons r (Vals.eraseIdx i t)
theorem uH {α:Type}:∀ (l:List α) (i:Nat),(l.eraseIdx i).length<=l.length
 |[],_=>qh _
 |_::_,0=>Nat.le_succ _
 |_::r,i+1=>KJ (uH r i)
section
variable {X:Cx}{Z9:List (Addr×Obj)}{U:St}{H:Hp}{s:ĳ}{l b:Addr}{xs ys zs:List V}
def Inv.lset {its its':List ĸ}{n:Nat}{f:Array ĸ->Array ĸ}{t':Nat}(I:Inv X Z9 U H s)(hH:H l=some (.lst xs))
  (e:s.heap.get? l=some { cls:=.type "list",data:=.seq its.toArray n }) (hf:f its.toArray=its'.toArray) (hv:Vals ys its') (hz:ys.length<=sizeLine) :
  Inv X Z9 U (upd H l (.lst ys)) { s with heap:=s.heap.update l (Obj.mapSeq f),toks:=t' }:=by
 have q:=PySem.IsL.update e f;rw[hf]at q;refine I.write (x:=l) (e:=l) (by rw[hH];exact trivial) (.inl rfl) (fun b' u hb hu=>(Heap.get?_update_other s.heap (Obj.mapSeq f) (Ne.symm hb)).trans hu) ⟨_,q⟩ ?_;exact⟨hz,its',_,hv,q⟩
def Inv.lnew {t':Nat}(I:Inv X Z9 U H s)(hv:Vals ys its)(hz:ys.length<=sizeLine) :
  Inv X Z9 U (upd H s.heap.objs.size (.lst ys)) { s with heap:=s.heap.push { cls:=.type "list",data:=.seq its.toArray },toks:=t' } :=
 I.laid (fun _ _ q=>qc _ q) (qh _) ⟨hz,its,0,hv,qo _ rfl⟩
theorem Inv.fresh (I:Inv X Z9 U H s):H s.heap.objs.size=none:=I.hok.fresh (qh _)
def Inv.lstM (I:Inv X Z9 U H s)(hH:H l=some (.lst xs)):xs.length<=sizeLine/\∃ (its:List ĸ) (n:Nat),Vals xs its/\xs.length=its.length/\s.heap.get? l=some { cls:=.type "list",data:=.seq its.toArray n }:=by obtain⟨z,its,n,r,e⟩:=I.hok l _ hH;exact⟨z,its,n,r,r.length,e⟩
def o7 {n:Nat}(h:n<=sizeLine):Builtin.List.listTooLong n=false:=by unfold Builtin.List.listTooLong;exact decide_eq_false (by lia)
end
section
variable {X:Cx}
def vG:V->List V->Hp->VK->Prop:=fun x vs H Q=>∃ l xs y,x=.ref l/\vs=[y]/\H l=some (.lst xs)/\xs.length<sizeLine/\Q .non (upd H l (.lst (xs++[y])))
def sY:Rh X "list.append" vG:=by intro Z9 s U H x vs v us Q I rx rv h;obtain⟨l,xs,y,rfl,rfl,hH,hz,q⟩:=h;cases rx;obtain⟨u,rfl,ru⟩:=rv.one;obtain⟨z,its,n,r,hl,e⟩:=I.lstM hH;refine call_meets F.slot_list_append ⟨_,e,rfl⟩ F.entry_list_append (F.args_list_append_2 _ _) (PySem.list_append l its.toArray n u (by rw[ql];lia)) ⟨e,?_⟩;refine⟨.non,_,I.lset (its':=its++[u]) hH e (by simp) (r.append (.cons ru .nil)) ?_,rfl,q⟩;rw[qf,qM];lia
def o9:V->List V->Hp->VK->Prop:=fun x vs H Q=>∃ l b xs zs,x=.ref l/\vs=[.ref b]/\H l=some (.lst xs)/\H b=some (.lst zs)/\xs.length+zs.length<=sizeLine/\Q .non (upd H l (.lst (xs++zs)))
def Ħ:Rh X "list.extend" o9:=by
 intro Z9 s U H x vs v us Q I rx rv h;obtain⟨l,b,xs,zs,rfl,rfl,hH,hB,hz,q⟩:=h;cases rx;obtain⟨u,rfl,ru⟩:=rv.one;cases ru;obtain⟨z,its,n,r,hl,e⟩:=I.lstM hH;obtain⟨z2,its2,n2,r2,hl2,e2⟩:=I.lstM hB;have hsz:its.toArray.size+its2.toArray.size<=sizeLine:=by rw[ql,ql];lia
 have hlong:¬ (!its.toArray.isEmpty&&Builtin.List.listTooLong (its.toArray.size+its2.toArray.size))=true:=by rw[o7 hsz,RT];exact qr
 refine call_meets F.slot_list_extend ⟨_,e,rfl⟩ F.entry_list_extend (F.args_list_extend_2 _ _)
  (AutoSeq1.list_extend_list_list_0 l its.toArray n b its2.toArray n2 hlong (by rw[ql];lia) (by lia)) ⟨e,e2,?_⟩
 refine⟨.non,_,I.lset (its':=its++its2) hH e (by simp) (r.append r2) ?_,rfl,q⟩;rw[qf];lia
def Ù:V->List V->Hp->VK->Prop:=fun x vs H Q=>∃ l xs i k y,x=.ref l/\vs=[.int i]/\H l=some (.lst xs)/\-(2 ^ 63)<=i/\i<2 ^ 63/\seqIndex? i xs.length=some k/\xs[k]?=some y/\Q y (upd H l (.lst (xs.eraseIdx k)))
def jr:Rh X "list.pop" Ù:=by
 intro Z9 s U H x vs v us Q I rx rv h;obtain⟨l,xs,i,k,y,rfl,rfl,hH,h1,h2,hk,hy,q⟩:=h;cases rx;obtain⟨u,rfl,ru⟩:=rv.one;obtain⟨t,rfl⟩:=ru;obtain⟨z,its,n,r,hl,e⟩:=I.lstM hH;obtain⟨w,hw,rw'⟩:=r.get hy
 refine call_meets F.slot_list_pop ⟨_,e,rfl⟩ F.entry_list_pop (F.args_list_pop_2 _ _)
  (MeetsSeq.list_pop_at l its.toArray n i t k w (fitsIndex_both h1 h2) (by rw[ql,<- hl];exact hk) (by rw[<- Dk];exact hw) (by rw[ql];lia)) ⟨e,?_⟩
 refine⟨y,_,I.lset (its':=its.eraseIdx k) hH e ?_ (r.eraseIdx k) ?_,rw',q⟩
 ·show its.toArray.eraseIdxIfInBounds k=(its.eraseIdx k).toArray;rw[List.eraseIdxIfInBounds_toArray]
 ·have:=uH xs k;lia
def aW:V->List V->Hp->VK->Prop:=fun x vs H Q=>∃ l xs,x=.ref l/\vs=[]/\H l=some (.lst xs)/\Q .non (upd H l (.lst []))
def ä:Rh X "list.clear" aW:=by intro Z9 s U H x vs v us Q I rx rv h;obtain⟨l,xs,rfl,rfl,hH,q⟩:=h;cases rx;have hus:=rv.zero;subst hus;obtain⟨z,its,n,r,hl,e⟩:=I.lstM hH;refine call_meets F.slot_list_clear ⟨_,e,rfl⟩ F.entry_list_clear (F.args_list_clear_1 _) (AutoSeq1.list_clear_list_0 l its.toArray n (by rw[ql];lia)) ⟨e,?_⟩;exact⟨.non,_,I.lset (its':=[]) (ys:=[]) hH e rfl .nil (qH _),rfl,q⟩
end
end L2
namespace Att
open PySem PySem.W PySem.Calls PyProof.Rows
def zgV {P:Params}{h:Heap}:∀ (ns:List Int) (vs:List ĸ),WellAll P h vs (ns.map WData.int)->IntsAre vs ns:=by
 intro ns
 induction ns with
 |nil =>intro vs w;rw[Oz]at w;cases w;exact .nil
 |cons n ns ih =>
  intro vs w;rw[qQ]at w;cases w with
  |cons a b =>cases a;exact .cons _ _ (ih _ b)
def ŗ {l:OpenLaw}{n:Nat}(hn:l.most=some n){args:List WData}(hpre:l.row.toRowW.claim.pre args=true)(hwl:WellAll P h vals args) :
  ∃ a vs ns,vals=[Value.ref a]/\args=[WData.list (ns.map WData.int)]/\h.get? a=some { cls:=.type "list",data:=.seq vs.toArray }/\IntsAre vs ns/\ns.length<=n:=by
 have hsh:WShape.hasAll [] args [.list .int]=true:=(pre_splitW hpre).1;have hc:l.pre.holds [] { args:=args }=true:=(pre_splitW hpre).2;obtain⟨d,r,rfl,h1,h2⟩:=hasAllW_cons hsh;obtain rfl:=hasAllW_nil h2;obtain⟨xs,rfl,h3⟩:=hasW_list h1;obtain⟨ns,rfl⟩:=items_int h3
 have hlen:ns.length<=n:=by
  unfold OpenLaw.pre at hc
  have h4:(WTm.not (.lt (.lit (.int (n:Int))) (.len (.arg 0)))).holds [] { args:=[.list (ns.map .int)] }=true:=by have h4:=(holds_andW hc).1;rw[hn]at h4;exact h4
  have h5:=condW_of h4 (w_not (w_lt w_lit (w_len_list (w_arg rfl))));rw[qa]at h5;refine Rc fun q=>?_
  have q':(n:Int)<((ns.length:Nat):Int):=by lia
  first
   |(rw[decide_eq_true q']at h5;exact absurd h5 (by decide))
   |(simp at h5;lia)
 cases hwl with
 |cons w1 w2 =>
  cases w2;cases w1 with
  |list ho hall=>exact⟨_,_,ns,rfl,rfl,ho,zgV ns _ hall,hlen⟩
def jM (l:OpenLaw)(args:List WData):l.row.toRowW.claim.post args (.bool true) args=true :=
 postW_of (r:=l.row.toRowW) (X:=(true==true))
  (show WShape.has [] (.bool true) .bool=true by first|rfl|decide|simp[WShape.has,WShape.arms,WShape.armsAll])
  (show(WTm.eq .res (.lit (.bool true))).value [] { args:=args,res:=some (.bool true),after:=args }=some (.bool (true==true))from w_eq_bool (w_res rfl) w_lit) rfl
end Att
namespace L2
open PySem PySem.Spec PyProof.Rows
theorem wO:∀ {vs:List ĸ} {ns:List Int},IntsAre vs ns->Vals (ns.map V.int) vs
 |_,_,.nil=>.nil
 |_,_,.cons n t h=>.cons ⟨t,rfl⟩ (wO h)
def Only (H:Hp):Prop:=∀ b,H b=none\/∃ o xs,H b=some (.frz o (.lst xs))
def zpi {P:Program}{w:World}{K:Ĳ}{mg mb:Str->Option ĸ}{CX:VH}{k:Nat}{fa a:Addr}{fd:FuncData}{x:Str}{sp:Sp}{s₁:ĳ}{vs:List ĸ}(KX:K.In s₁.heap)(hns:s₁.heap.Ns mainGlobals mg)(hb:s₁.heap.Ns builtinsNs mb)(hbb:∀ x:Str,x≠"__name__"->mb x=bootBuiltins x)(hlim:s₁.heap.NoLimit)(hg:s₁.gens=#[])(ha:s₁.heap.get? a=some { cls:=.type "list",data:=.seq vs.toArray })(hi:IntsAre vs ns)(hl:ns.length<=sizeLine)(hr:zO k callerA)(F:∀ base:Heap,K.In base->base.Ns mainGlobals mg->YS P w K mg base CX k fa fd [x] sp)(hbind:∀ (s:ĳ) (u:ĸ),BindsTo s fd ⟨[u],[]⟩ [(x,u)])(hsp:∀ H:Hp,Only H->ZC K H a (ns.map V.int)->sp [.ref a] H (fun v _=>v=.bl true) fun _ _ _=>False)(hCX:∀ H e s',CX [] H s₁ (fun _ _ _=>False) e s'->False) :
  codeAny (model P w) callerA (.call (.ref fa) ⟨[.ref a],[]⟩) (fun r s'=>r=.ok (.ret (.bool true))/\OldK s₁.heap s'.heap/\s'.os=s₁.os/\AllBare s'.gens) s₁:=by
 have rv:=wO hi;have lenV:=hi.length
 have core:∀ H:Hp,Only H->ZC K H a (ns.map V.int)->ZG P w H s₁.heap->(∀ b,H b≠none->b=a)->(H a≠none->K.lookup a=none) ->
   codeAny (model P w) callerA (.call (.ref fa) ⟨[.ref a],[]⟩) (fun r s'=>r=.ok (.ret (.bool true))/\OldK s₁.heap s'.heap/\s'.os=s₁.os/\AllBare s'.gens) s₁:=by
  intro H hO hS hok hA hK;have base_of:∀ {b:Addr} {o:Obj},s₁.heap.get? b=some o->H b=none->(Ux s₁.heap H).get? b=some o:=fun e n=>zoA e n
  have noA:∀ {b:Addr} {o:Obj} {es:Array DictEntry} {ep:Nat},s₁.heap.get? b=some o->o.data=.dict es ep->H b=none:=fun {b o es ep} e d=>by
   cases q:H b with
   |none=>rfl
   |some u =>have e':b=a:=hA b (by rw[q];simp);subst e';rw[ha]at e;cases e;have d':Data.seq vs.toArray _=Data.dict es ep:=d;cases d'
  have nsK:∀ {b:Addr} {m:Str->Option ĸ},s₁.heap.Ns b m->(Ux s₁.heap H).Ns b m:=fun {b m} ⟨o,es,ep,e,d,r⟩=>⟨o,es,ep,base_of e (noA e d),d,r⟩
  have hKb:K.In (Ux s₁.heap H):=fun b o e=>base_of (KX b o e) (by
   cases q:H b with
   |none=>rfl
   |some u =>have e':b=a:=hA b (by rw[q];simp);subst e';rw[hK (by rw[q];simp)]at e;cases e)
  have hM:Mod K mg (Ux s₁.heap H):=⟨hKb,nsK hns,⟨mb,nsK hb,hbb⟩,by obtain⟨mc,h1,h2⟩:=hlim;exact⟨mc,nsK h1,h2⟩⟩
  have e0:Qo P w K mg (Ux s₁.heap H) callerA [] s₁ H:=⟨rfl,hM,fun b o e=>zqX e,Nat.le_of_eq (Ρ _ _),trivial,fun b hb=>absurd (show b∈([]:List Addr)from hb) (by simp),hok,.of_eq hg⟩
  refine codeAny_mono ((F _ hKb (nsK hns)).run callerA [] s₁ H ⟨[.ref a],[]⟩ [.ref a] [.ref a] _ _ hr e0 (hbind s₁ (.ref a)) (.cons rfl .nil) (hsp H hO hS)) fun r s' h=>?_
  cases r with
  |error e=>exact(hCX H e s' h).elim
  |ok fl =>
   cases fl with
   |next=>exact False.elim h
   |brk=>exact False.elim h
   |cont=>exact False.elim h
   |ret u =>
    obtain⟨v,H',os,bare,un,hok',r',q⟩:=h;have q':v=.bl true:=q;subst q';obtain rfl:u=Value.bool true:=r';refine⟨rfl,OldK.of_keep fun b o e=>?_,os,bare⟩;cases q:H b with
    |none=>exact un.keep b o e q (by intro z;exact absurd (show b∈([]:List Addr)from z) (by simp)) (by simp)
    |some u =>
     rcases hO b with z|⟨ob,xs,z⟩
     ·rw[q]at z;cases z
     ·have z2:=un.frzs b ob _ z;obtain⟨e1,_⟩:=hok b _ z;obtain⟨e2,_⟩:=hok' b _ z2;rw[e]at e1;cases e1;exact e2
 cases hk:K.lookup a with
 |some o =>have e:=KX a o hk;rw[ha]at e;cases e;refine core (fun _=>none) (fun _=>.inl rfl) (.inr ⟨_,vs.toArray,_,hk,rfl,rfl,rfl,by rw[ql,lenV];exact hl,by simpa using rv⟩) (fun b u z=>by have z':(none:Option HO)=some u:=z;cases z') (fun b z=>absurd rfl z) fun z=>absurd rfl z
 |none =>
  refine core (fun b=>if b=a then some (.frz { cls:=.type "list",data:=.seq vs.toArray } (.lst (ns.map V.int)))else none) (fun b=>?_) (.inl (.inr ⟨{ cls:=.type "list",data:=.seq vs.toArray },if_pos rfl⟩)) (fun b u z=>?_) (fun b z=>?_) fun _=>hk
  ·by_cases hb:b=a
   ·exact .inr ⟨_,_,if_pos hb⟩
   ·exact .inl (if_neg hb)
  ·by_cases hb:b=a
   ·have z':=(if_pos hb).symm.trans z;cases z';subst hb;exact⟨ha,by rw[qa];exact hl,vs,_,rv,ha⟩
   ·have z':=(if_neg hb).symm.trans z;cases z'
  ·by_cases hb:b=a
   ·exact hb
   ·exact absurd (if_neg hb) z
def inClass (s:Stmt)(j:Nat):Stmt:=match s with
 |.ClassDef _ _ _ body _ _ _ _ _ _ _=>body.getD j (.Pass ⟨0,0,0,0⟩)
 |_=>.Pass ⟨0,0,0,0⟩
def Xy (s:Stmt):Arguments:=match s with
 |.FunctionDef _ a _ _ _ _ _ _ _ _=>a
 |_=>{ posonlyargs:=[],args:=[],vararg:=none,kwonlyargs:=[],kw_defaults:=[],kwarg:=none,defaults:=[] }
def X7 (s:Stmt):List Stmt:=match s with
 |.FunctionDef _ _ b _ _ _ _ _ _ _=>b
 |_=>[]
def zG (s:Stmt):Scope:=match s with
 |.FunctionDef _ _ _ _ _ _ sc _ _ _=>sc
 |_=>{ kind:=.function,names:=[],isGenerator:=false,isCoroutine:=false }
abbrev Wq:VH:=fun _ _ _ _ _ _=>False
abbrev E0:XK:=fun _ _ _=>False
def ux {X:Cx}:Passes Wq X E0:=fun _ _ _ _ _ _ _ h=>h.elim
structure W9 (K:Ĳ)(x qual:Str)(st:Stmt)(f:Addr)(fd:FuncData):Prop where
 ex:∃ (oc:ĸ) (od:Option Addr) (kV doc pm:ĸ) (an:Option Addr) (cdv ct:ĸ) (osl:Array (Option ĸ)),
  fd=PySem.W.fnOf x qual (Xy st) (X7 st) (zG st) .none kV doc pm an cdv ct/\K.lookup f=some ⟨oc,od,.func fd,osl⟩/\PySem.W.codeIn K cdv qual=true
 kp:PySem.W.keepIn K (.ref f)=true
section
variable {P:Program}{w:World}{K:Ĳ}{mg:Str->Option ĸ}{base:Heap}
def W9.ok {st:Stmt}{k:Nat}{sp:Sp}(F:W9 K x qual st f fd)(S:Qe N ps (zG st))(len:∀ vs H Q E,sp vs H Q E->vs.length=ps.length)(hbody:∀ (cdv:ĸ) (A:Around) (outer:List Env) (s:ĳ) (H:Hp) (vs:List V) (Q:VK) (E:XK),zO k (A.deeper (envOfC qual (zG st) s.heap.objs.size f cdv))->sp vs H Q E ->
   ∃ t,XQ (Va Wq P w K mg base N qual (zG st) f cdv A outer s H E).nox (X7 st) t/\t { nx:=fun _ H'=>Q .non H',rt:=Q } (start N vs) H):YS P w K mg base Wq (k+1) f fd ps sp:=by
 obtain⟨oc,od,kV,doc,pm,an,cdv,ct,osl,rfl,lk,hcd⟩:=F.ex;refine lQ lk hcd S len fun A outer s H vs Q E hr hsp=>?_
 obtain⟨t,h,q⟩:=hbody cdv A outer s H vs Q E hr hsp;exact⟨t,h.nox,q⟩
def W9.binds {st:Stmt}{ps:List Str}(F:W9 K x qual st f fd)(h:∀ (kV doc pm:ĸ) (an:Option Addr) (cdv ct:ĸ) (us:List ĸ),us.length=ps.length->bindArgs (PySem.W.fnOf x qual (Xy st) (X7 st) (zG st) .none kV doc pm an cdv ct) ⟨us,[]⟩=pure (ps.zip us)):Binds K fd ps []:=by obtain⟨oc,od,kV,doc,pm,an,cdv,ct,osl,rfl,lk,hcd⟩:=F.ex;exact .all (h kV doc pm an cdv ct)
def vC {x qual:Str}{st:Stmt}{oc:ĸ}{od an:Option Addr}{osl:Array (Option ĸ)}{kV doc pm cdv ct:ĸ}(l:K.lookup f=some ⟨oc,od,.func (PySem.W.fnOf x qual (Xy st) (X7 st) (zG st) .none kV doc pm an cdv ct),osl⟩)(c:PySem.W.codeIn K cdv qual=true)(k:PySem.W.keepIn K (.ref f)=true):W9 K x qual st f (PySem.W.fnOf x qual (Xy st) (X7 st) (zG st) .none kV doc pm an cdv ct):=⟨⟨oc,od,kV,doc,pm,an,cdv,ct,osl,rfl,l,c⟩,k⟩
end
def Uu {k:Nat}(hr:zO k A):A.units+2<cLine:=Nat.lt_of_le_of_lt (Nat.add_le_add_left (by decide:2<=64) _) hr.units
end L2
namespace My
def Bd (n:Nat)(x:Int):Prop:=x.natAbs<2 ^ n
def Bd.mono {n:Nat}(h:Bd m x)(hmn:m<=n):Bd n x:=qF h (Nat.pow_le_pow_right (by decide) hmn)
def Bd.add {n:Nat}(h:Bd n x)(h':Bd n y):Bd (n+1) (x+y) :=Nat.lt_of_le_of_lt (Int.natAbs_add_le x y) (by rw[Nat.pow_succ,Nat.mul_two];exact Nat.add_lt_add h h')
def Bd.neg {n:Nat}(h:Bd n x):Bd n (-x):=by unfold Bd;rw[Mu];exact h
def Bd.sub {n:Nat}(h:Bd n x)(h':Bd n y):Bd (n+1) (x-y):=by rw[Int.sub_eq_add_neg];exact h.add h'.neg
def Bd.mul {n:Nat}(h:Bd m x)(h':Bd n y):Bd (m+n) (x*y):=by unfold Bd at *;rw[Int.natAbs_mul,Nat.pow_add];exact Nat.mul_lt_mul'' h h'
def Bd.of_le {n:Nat}{x:Int}(h:Bd n y)(h':x.natAbs<=y.natAbs):Bd n x:=Nat.lt_of_le_of_lt h' h
def Bd.dvd {n:Nat}{x:Int}(h:Bd n y)(h0:y≠0)(d:x ∣ y):Bd n x :=h.of_le (Nat.le_of_dvd (by lia) (Int.natAbs_dvd_natAbs.mpr d))
theorem Bd.fdiv {n:Nat}{y:Int}(h:Bd n x):Bd n (x.fdiv y):=h.of_le (Int.natAbs_fdiv_le_natAbs x y)
def Bd.lit {n:Nat}{x:Int}(h:x.natAbs<2 ^ 200)(hn:200<=n):Bd n x:=Bd.mono (m:=200) h hn
def zoU (a b:Int):Int.gcd b (a.fmod b)=Int.gcd a b:=by
 have e:a.fmod b=a-b*a.fdiv b:=by have:=Int.mul_fdiv_add_fmod a b;lia
 rw[e,Int.gcd_sub_mul_left_right,Int.gcd_comm]
def nM {a b:Int}(h0:0<=a)(h:a<b):a.natAbs<b.natAbs:=by refine Int.ofNat_lt.mp ?_;rw[Iz h0,Iz (Qv (Int.lt_of_le_of_lt h0 h))];exact h
def ň {a b:Int}(h:b≠0):(a.fmod b).natAbs<b.natAbs:=by
 rcases Int.lt_or_gt_of_ne h with h1|h1
 ·have e:(-(-a)).fmod (-(-b))=-((-a).fmod (-b)):=Int.neg_fmod_neg (-a) (-b);rw[Vf,Vf]at e;have h2:=nM (Int.fmod_nonneg_of_pos (-a) (Int.neg_pos_of_neg h1)) (Int.fmod_lt_of_pos (-a) (Int.neg_pos_of_neg h1));rw[e,Mu];rwa[Mu b]at h2
 ·exact nM (Int.fmod_nonneg_of_pos a h1) (Int.fmod_lt_of_pos a h1)
def gd (t b:Int):Int:=if b<0 then -((Int.gcd t b:Nat):Int)else((Int.gcd t b:Nat):Int)
def Vj (t b:Int):Int:=t.fdiv (gd t b)
def frB (t b:Int):Int:=b.fdiv (gd t b)
def yg {t b:Int}(h:b≠0):gd t b≠0:=by
  have:Int.gcd t b≠0:=fun e=>h (Int.gcd_eq_zero_iff.mp e).2
  unfold gd;split<;>lia
def Ŝ (t b:Int):gd t b ∣ t:=by
 unfold gd;split
 ·exact Int.neg_dvd.mpr (Int.gcd_dvd_left ..)
 ·exact Int.gcd_dvd_left ..
def mZ (t b:Int):gd t b ∣ b:=by
 unfold gd;split
 ·exact Int.neg_dvd.mpr (Int.gcd_dvd_right ..)
 ·exact Int.gcd_dvd_right ..
def yj (t b:Int):Vj t b*gd t b=t:=Int.fdiv_mul_cancel (Ŝ t b)
def Dw (t b:Int):frB t b*gd t b=b:=Int.fdiv_mul_cancel (mZ t b)
def í (t b:Int):Vj t b*b=frB t b*t:=by have h1:=yj t b;have h2:=Dw t b;generalize Vj t b=x at *;generalize frB t b=y at *;generalize gd t b=g at *;subst h1 h2;rw[Wo y g,<- Int.mul_assoc,Wo (x*g) y]
def õ {t b:Int}(h:b≠0):1<=frB t b:=by
  have h2:=Dw t b;have h3:gd t b≠0:=yg h
  have h4:0<b->0<gd t b:=by intro hb;unfold gd at *;split<;>lia
  have h5:b<0->gd t b<0:=by intro hb;unfold gd at *;split<;>lia
  generalize frB t b=y at *;generalize gd t b=g at *;rcases Int.lt_or_gt_of_ne h with hb|hb
  . have hg:=h5 hb;rcases Int.lt_or_le y 1 with hy|hy
    . have:0<=y*g:=Int.mul_nonneg_of_nonpos_of_nonpos (by lia) (by lia);lia
    . exact hy
  . have hg:=h4 hb;rcases Int.lt_or_le y 1 with hy|hy
    . have:y*g<=0:=Int.mul_nonpos_of_nonpos_of_nonneg (by lia) (by lia);lia
    . exact hy
def ztv {t b:Int}(h:b≠0):Int.gcd (Vj t b) (frB t b)=1:=by
  have h0:0<Int.gcd t b:=Nat.pos_of_ne_zero fun e=>h (Int.gcd_eq_zero_iff.mp e).2
  have h1:=yj t b;have h2:=Dw t b;have e:Int.gcd (Vj t b*gd t b) (frB t b*gd t b)=Int.gcd (Vj t b) (frB t b)*(gd t b).natAbs:=Int.gcd_mul_right ..;rw[h1,h2]at e;have e2:(gd t b).natAbs=Int.gcd t b:=by unfold gd;split<;>lia
  rw[e2]at e;exact Nat.eq_of_mul_eq_mul_right h0 (by lia)
def kj {n:Nat}{t b:Int}(h:b≠0)(hb:Bd n b):Bd n (gd t b):=hb.dvd h (mZ t b)
def gR {n:Nat}{t:Int}(hb:Bd n b):Bd n (frB t b):=hb.fdiv
def zup {n:Nat}{t b:Int}(hb:Bd n t):Bd n (Vj t b):=hb.fdiv
open PySem PySem.Spec PyProof.Rows L2
def dJ (_ j:Int):Prop:=j≠0/\Bd 8000 j
def Ĺ (_ j:Int):Prop:=j≠0
def yO (h:Bd 8000 j):j.natAbs.log2<9000:=by
 rcases Nat.eq_zero_or_pos j.natAbs with e|e
 ·rw[e];decide
 ·have:j.natAbs.log2<8000:=(Nat.log2_lt (Wj e)).mpr h;lia
def vo (h:Bd 8000 j):Builtin.Int.intBits j<=2 ^ 20:=by
 unfold Builtin.Int.intBits;split
 ·exact qH _
 ·have:=yO h;lia
section
variable {X:Cx}
def zpG:ZQ X (binaryOp .FloorDiv) (rI dJ fun i j=>.int (i.fdiv j)):=Rf fun _ _ _ _ _ _ _ hc q=>floordiv_int hc.1 q (.inl (PyProof.noPylong_of_log2 (yO hc.2)))
def û:ZQ X (binaryOp .Mod) (rI Ĺ fun i j=>.int (i.fmod j)):=zsb
def yu (g:Bool->Bool->V):R2:=fun x y H Q=>∃ i j,x=.bl i/\y=.bl j/\Q (g i j) H
def jF {i j:Int}{a b:Nat}{p1 p2 pos:Pos}(c:Int)(h:i ^ j.toNat=c)(h0:0<=j/\j<=1000000/\i.natAbs<2 ^ 64):PE X (.BinOp (.Constant (.int i) a p1) .Pow (.Constant (.int j) b p2) pos) (tC (.int c)):=by intro Z9 s U H Q I q;have q':Q (.int c) H:=q;rw[<- h]at q';exact vR bG Gp Gp Z9 s U H Q I ⟨i,j,rfl,rfl,h0,q'⟩
def ë:List V->Hp->VK->Prop:=fun xs H Q=>∃ i,xs=[.int i]/\Q (.int (i.natAbs:Int)) H
def Ζ:YM X (.builtin "abs") ë:=fun Z9 s U H xs us Q I r h=>by
  obtain⟨i,e,q⟩:=h;refine aY Z9 s U H xs us Q I r ⟨i,e,?_⟩;have:(if i<0 then -i else i)=(i.natAbs:Int):=by split<;>lia
  rw[this];exact q
def ì (K:Ĳ):List V->Hp->VK->Prop:=fun xs H Q=>∃ p ys,xs=[.ref p]/\(ZC K H p ys\/ZP K H p ys)/\Q (.int ys.length) H
def ą:YM X (.builtin "len") (ì X.K):=ziK
def zwM (K:Ĳ):List V->Hp->VK->Prop:=fun xs H Q=>∃ p ys,xs=[.ref p]/\(ZC K H p ys\/ZP K H p ys)/\∀ l,H l=none->Q (.ref l) (upd H l (.lst ys))
def Ű:YM X (.type "list") (zwM X.K):=aP
def ς:List V->Hp->VK->Prop:=fun xs H Q=>∃ i j,xs=[.int i,.int j]/\Q (.int (if j > i then j else i)) H
def bW (hc:X.calm=true):YM X (.builtin "max") ς:=znb hc
def zyA:List V->Hp->VK->Prop:=fun xs H Q=>∃ i j,xs=[.int i,.int j]/\Q (.int (if j<i then j else i)) H
def ý (hc:X.calm=true):YM X (.builtin "min") zyA:=fC hc
def jo {T:String}{pos:Pos}(hg:Gl X x)(hm:X.mg x=none)(hv:bootBuiltins x=some (.type T))(hn:autoParam (x≠"__name__") zU)(hd:autoParam ((x==("__debug__":Str))=false) zU):PE X (.Name x pos) (tC (.ty T)):=zre (v:=.ty T) hg hm hv rfl hn hd
def Ō (K:Ĳ):List V->Hp->VK->Prop:=fun xs H Q=>∃ x c t b,xs=[x,.ty c]/\WD K H x t/\PySem.W.kitOne K t (.type c)=some b/\Q (.bl b) H
def zpl:YM X (.builtin "isinstance") (Ō X.K):=fun Z9 s U H xs us Q I r h=>by obtain⟨x,c,t,b,rfl,ty,e,q⟩:=h;obtain⟨u,w',rfl,ru,rw'⟩:=vals2 r;cases rw';exact znU I ru ty e fun tk=>⟨.bl b,H,I.tok _,rfl,q⟩
end
structure Got (P:Program)(w:World)(K:Ĳ)(mg:Str->Option ĸ)(base:Heap)(k:Nat)(x:Str)(ps:List Str)(sp:Sp):Prop where
 ex:∃ f fd,YS P w K mg base Wq k f fd ps sp/\Binds K fd ps []/\PySem.W.keepIn K (.ref f)=true/\mg x=some (.ref f)
def zuZ {X:Cx}{k:Nat}{sp:Sp}{p pos:Pos}{e:Expr}{es:List Expr}{t:TA}(G:Got X.prog X.w X.K X.mg X.base k x ps sp)(hr:zO j X.A)(hk:k<=j)(hg:Gl X x)(ha:PA X (e::es) t)(hdb:autoParam ((x==("__debug__":Str))=false) zU)(he:autoParam (starEach (e::es) X.env=(false,eval e X.env)::starEach es X.env) zB)(hpl:autoParam ((backTo pos (starEach es X.env)).any (·.1)=false) zB) :
  PE X (.Call (.Name x p) (e::es) [] pos) (Gg sp [] E0 t):=by
 intro Z9 s U H Q I h;obtain⟨f,fd,F,b,kp,m⟩:=G.ex;exact aB (F.mono hk) hr hg m kp b .nil ux ha hdb he hpl Z9 s U H Q I h
section
variable {U:L2.St}{H:Hp}{K:Ĳ}
def cZ:R2:=fun x y H Q=>y=.non/\Q (.bl (decide (x=.non))) H
def zxx:R2:=fun x y H Q=>y=.non/\Q (.bl (!decide (x=.non))) H
def aA {X:Cx}:ZQ X (compareOp .Is) cZ:=zua
def Ķ {X:Cx}:ZQ X (compareOp .IsNot) zxx:=bO
end
def U7 {H:Hp}{o u:HO}(hp:H p=none)(h:H b=some u):upd H p o b=some u:=by rw[zA (Ul h hp)];exact h
theorem ê {prog:Program}{w:World}{A:Around}{R:Result->ĳ->Prop}{s:ĳ}{elt target iter:Expr}{ifs:List Expr}{scope:Scope}{pos:Pos}{it acc:ĸ}{env:Env}(I:Nat->ĳ->Prop)
  (turn:∀ n s,I n s->wpAny (model prog w) A (pyNext it) (fun r s₁=>match r with
   |none=>R (.ok .next) s₁
   |some v=>wpAny (model prog w) A (letOwnedTupleGo target it v) (fun _ s₁'=>wpAny (model prog w) A (assign target env v) (fun _ s₂ =>
     wpAny (model prog w) A (forIn ifs true fun c r=>if r=true then do let ok <- isTrue c env (eval c env);pure (ForInStep.yield ok)else pure (ForInStep.yield r)) (fun ok s₃ =>
      if ok=true then wpAny (model prog w) A (eval elt env) (fun x s₄ =>wpAny (model prog w) A (call (.builtin "list.append") [acc,x]) (fun _ s₅=>∃ m,m<n/\I m s₅) (fun _ _=>False) s₄) (fun _ _=>False) s₃
      else ∃ m,m<n/\I m s₃) (fun _ _=>False) s₂) (fun _ _=>False) s₁') (fun _ _=>False) s₁) (fun _ _=>False) s)
  (n:Nat) (h:I n s):codeAny (model prog w) A (.compLoop (.ListComp elt [⟨target,iter,ifs,0⟩] scope pos) 0 it acc env) R s:=by
 refine codeAny_loop rfl I (fun n s hI=>?_) n h;show wpAny _ A ((compTurn (.ListComp elt [⟨target,iter,ifs,0⟩] scope pos) 0 it acc env).onRaise (fun x=>do noteFrame x env;theTreesLotGoes x)) _ _ s;refine wpAny_noted ?_;rw[compTurn_list];refine wpAny_bind (wpAny_standAt (wpAny_bind (wpAny_mono (turn n s hI) (fun r s₁ h₁=>?_) fun _ _ h'=>h'.elim)));cases r with
 |none=>exact wpAny_pure h₁
 |some v =>
  refine wpAny_bind (wpAny_mono h₁ (fun _ s₁' h₁'=>?_) fun _ _ h'=>h'.elim);refine wpAny_bind (wpAny_mono h₁' (fun _ s₂ h₂=>wpAny_bind (wpAny_mono h₂ (fun ok s₃ h₃=>?_) fun _ _ h'=>h'.elim)) fun _ _ h'=>h'.elim);cases ok with
  |false=>exact wpAny_pure ⟨rfl,h₃⟩
  |true =>exact wpAny_bind (wpAny_bind (wpAny_mono h₃ (fun x s₄ h₄=>wpAny_bind (wpAny_mono h₄ (fun _ s₅ h₅=>wpAny_pure (wpAny_pure ⟨rfl,h₅⟩)) fun _ _ h'=>h'.elim)) fun _ _ h'=>h'.elim))
def inner (X:Cx)(sc:Scope)(N:List Str)(cl:List (Str×Addr))(C:Addr)(s₀:ĳ)(H₀:Hp)(ex:List Addr):Cx :={ X with N:=N,s₀:=s₀,H₀:=H₀,env:=compEnvC sc cl C X.env,outer:=X.stack,ex:=ex,fn:=fun x=>sc.names.lookup x==some .cell,pn:=[] }
def Q6 (X:Cx)(ifs:List Expr)(t:TT):Prop :=
 ∀ (Z9:List (Addr×Obj)) (s:ĳ) (U:L2.St) (H:Hp) (Q:Bool->Hp->Prop),Inv X Z9 U H s->t U H Q ->
  wpAny (model X.prog X.w) X.A (forIn ifs true fun c r=>if r=true then do let ok <- isTrue c X.env (eval c X.env);pure (ForInStep.yield ok)else pure (ForInStep.yield r)) (TP X Z9 U Q) X.xe s
def j5:TT:=fun _ H Q=>Q true H
def ztI {X:Cx}:Q6 X [] j5:=fun _ _ _ H _ I h=>wpAny_tests_nil ⟨H,I,h⟩
def aK {t:TT}(h:PT X c t):Q6 X [c] t:=fun Z9 s U H Q I q=>wpAny_tests_one (h Z9 s U H Q I q)
def U9 (X:Cx)(sc:Scope):List Str->List Nat->Prop
 |[],[]=>True
 |x::xs,j::js=>X.N[j]?=some x/\sc.names.lookup x=some .free/\X.env.kindOf x=some .cell/\U9 X sc xs js
 |_,_=>False
def WR (P:Str->Prop):List (Str×NameKind)->Prop
 |[]=>True
 |(n,.free)::r=>P n/\WR P r
 |_::r=>WR P r
theorem WR.of {P:Str->Prop}:∀ {l:List (Str×NameKind)},WR P l->∀ y∈l,y.2=.free->P y.1
  |(n,k)::r,h,y,hy,e=>by
    rcases qv.mp hy with rfl|hy
    . dsimp only at e;subst e;exact h.1
    . refine WR.of (l:=r) ?_ y hy e;cases k<;>first|exact h.2|exact h
def cst (own:List Str)(fv:List Nat)(U:L2.St):L2.St:=List.replicate own.length none++fv.map fun j=>(U[j]?).join
def X6:L2.St->L2.St->Prop
 |[],[]=>True
 |none::r,_::s=>X6 r s
 |some v::r,some w::s=>v=w/\X6 r s
 |_,_=>False
theorem X6.len:∀ {a b:L2.St},X6 a b->b.length=a.length
  |[],[],_=>rfl
  |none::r,_::s,h=>congrArg (· + 1) (X6.len (a:=r) (b:=s) h)
  |some v::r,some w::s,h=>congrArg (· + 1) (X6.len (a:=r) (b:=s) h.2)
theorem X6.get:∀ {a b:L2.St},X6 a b->∀ (i:Nat) (v:V),a[i]?=some (some v)->b[i]?=some (some v)
 |none::r,_::s,h,i,v,e=>by
  cases i with
  |zero=>simp at e
  |succ i=>simpa using X6.get (a:=r) (b:=s) h i v (by simpa using e)
 |some v'::r,some w::s,h,i,v,e=>by
  cases i with
  |zero=>simp at e;subst e;simp[h.1]
  |succ i=>simpa using X6.get (a:=r) (b:=s) h.2 i v (by simpa using e)
def Ao (own:List Str)(fv:List Nat)(wi:TI)(g:TG)(tc:TT)(te:TE):TE:=fun U H Q=>wi U H fun J H1=>∀ p,H1 p=none ->
 ∃ W:Nat->Nat->Hp->Prop,(∃ m,W 0 m (upd H1 p (.lst [])))/\∀ i m H2,W i m H2 ->
  (J.stop i H2/\Q (.ref p) H2)\/(J.go i H2/\∀ x H',J.yld i H2 x H'->g x (cst own fv U) H' fun σ2 H3=>X6 (cst own fv U) σ2/\tc σ2 H3 fun b H4 =>
   if b=true then te σ2 H4 fun y H5=>∃ ys,H5 p=some (.lst ys)/\ys.length<sizeLine/\∃ m',m'<m/\W (i+1) m' (upd H5 p (.lst (ys++[y])))
   else ∃ m',m'<m/\W (i+1) m' H4)
def cI {env:Env}{n:Str}{c:Addr}(h:env.cells.lookup n=some c):cellOf env n=pure c:=by unfold cellOf;rw[h]
theorem Bk {env:Env}:∀ (names:List (Str×NameKind)) (cs:List (Str×Addr)),(∀ y∈names,y.2=.free->∃ c,env.cells.lookup y.1=some c)->(∀ x c,cs.lookup x=some c->env.cells.lookup x=some c) ->
    ∃ cl,(forIn names cs fun (x:Str×NameKind) (r:List (Str×Addr))=>if(x.2==NameKind.free)=true then do let a <- cellOf env x.1;pure (ForInStep.yield ((x.1,a)::r))else pure (ForInStep.yield r))=(pure cl:Sem (List (Str×Addr))) /\
      (∀ x c,cl.lookup x=some c->env.cells.lookup x=some c)/\(∀ x,(cs.lookup x).isSome=true->(cl.lookup x).isSome=true)/\∀ y∈names,y.2=.free->(cl.lookup y.1).isSome=true
  |[],cs,_,h2=>⟨cs,rfl,h2,fun _ h=>h,fun _ h=>nomatch h⟩
  |(n,k)::r,cs,h1,h2=>by
    rw[Kc];by_cases hk:k=.free
    . subst hk;obtain⟨c,hc⟩:=h1 (n,.free) qO rfl
      obtain⟨cl,e,a1,a2,a3⟩:=Bk (env:=env) r ((n,c)::cs) (fun y hy=>h1 y (qj _ hy)) (fun x d hx=>by
        rw[qu]at hx;by_cases hxn:x=n
        . subst hxn;simp at hx;subst hx;exact hc
        . have:(x==n)=false:=by simpa using hxn
          rw[this]at hx;exact h2 x d hx)
      refine⟨cl,?_,a1,fun x hx=>a2 x ?_,fun y hy e'=>?_⟩
      . simp only[beq_self_eq_true,if_true,cI hc];simpa using e
      . rw[qu];split<;>simp_all
      . rcases qv.mp hy with rfl|hy
        . exact a2 _ (by simp[qu])
        . exact a3 y hy e'
    . have hb:(k==NameKind.free)=false:=by simpa using hk
      obtain⟨cl,e,a1,a2,a3⟩:=Bk (env:=env) r cs (fun y hy=>h1 y (qj _ hy)) h2;refine⟨cl,?_,a1,a2,fun y hy e'=>?_⟩
      . simp only[hb,TY,if_false];simpa using e
      . rcases qv.mp hy with rfl|hy
        . exact absurd e' hk
        . exact a3 y hy e'
def lG {env:Env}{sc:Scope}(h:∀ y∈sc.names,y.2=.free->∃ c,env.cells.lookup y.1=some c) :
  ∃ cl,closureFor sc env=pure cl/\(∀ x c,cl.lookup x=some c->env.cells.lookup x=some c)/\∀ y∈sc.names,y.2=.free->(cl.lookup y.1).isSome=true:=by
 obtain⟨cl,e,a1,_,a3⟩:=Bk (env:=env) sc.names [] h (fun x c hx=>by simp at hx);refine⟨cl,?_,a1,a3⟩;unfold closureFor;have e2:=e
 first
  |exact e2
  |(show(do let cs <- forIn sc.names [] _;pure cs)=_;rw[show(forIn sc.names [] _:Sem (List (Str×Addr)))=pure cl from e2];rfl)
  |simpa using e2
theorem GZ {env:Env}{x:Str}:∀ {names:List (Str×NameKind)},(names.map fun (n,k)=>if(k==NameKind.free&&env.scope.kind==.function&&env.kindOf n==some .cell)then(n,NameKind.cell)else(n,k)).lookup x =
    (names.lookup x).map fun k=>if(k==NameKind.free&&env.scope.kind==.function&&env.kindOf x==some .cell)then NameKind.cell else k
  |[]=>rfl
  |(n,k)::r=>by
    have ih:=GZ (env:=env) (x:=x) (names:=r);rw[qQ];by_cases hx:x=n
    . subst hx;dsimp only;split<;>simp_all [qu]
    . have hb:(x==n)=false:=by simpa using hx
      dsimp only;split<;>(rw[qu,qu,hb];exact ih)
theorem mem_of_lookup {β:Type}{x:Str}{k:β}:∀ {l:List (Str×β)},l.lookup x=some k->(x,k)∈l
 |(n,b)::r,h=>by
  rw[qu]at h;by_cases hx:x=n
  ·subst hx;simp at h;subst h;exact qO
  ·have hb:(x==n)=false:=by simpa using hx
   rw[hb]at h;exact qj _ (mem_of_lookup h)
theorem QB:∀ (names:List (Str×NameKind)) (n:Nat) (acc:List (Str×Addr)),cellsFrom n names acc=cellsFrom n names []++acc
 |[],_,_=>rfl
 |(x,k)::r,n,acc=>by
  unfold cellsFrom;split
  ·rw[QB r (n+1) ((x,n)::acc),QB r (n+1) [(x,n)],qk];rfl
  ·exact QB r n acc
theorem Gk:∀ {names:List (Str×NameKind)} {n:Nat} {x:Str} {c:Addr},(x,c)∈cellsFrom n names []->(x,NameKind.cell)∈names
 |(y,k)::r,n,x,c,h=>by
  unfold cellsFrom at h;split at h
  ·rename_i hk;rw[QB]at h;rcases qE.mp h with h|h
   ·exact qj _ (Gk h)
   ·have e:(x,c)=(y,n):=by simpa using h
    cases e;rw[show k=NameKind.cell by simpa using hk];exact qO
  ·exact qj _ (Gk h)
theorem Bu:∀ {names:List (Str×NameKind)} {n:Nat} {x:Str},(x,NameKind.cell)∈names->((cellsFrom n names []).lookup x).isSome=true
 |(y,k)::r,n,x,h=>by
  unfold cellsFrom;rcases qv.mp h with e|h
  ·cases e;rw[if_pos (by rfl),QB,Nk];cases(cellsFrom (n+1) r []).lookup y with
   |some c=>rfl
   |none=>simp
  ·have ih:=Bu (n:=n) h;have ih':=Bu (n:=n+1) h;split
   ·rw[QB,Nk];obtain⟨c,hc⟩:=Nj.mp ih';rw[hc];rfl
   ·exact ih
def θ {M:Model}{A:Around}{E:ĸ->ĳ->Prop}{s:ĳ}{scope:Scope}{globals:Addr}{closure:List (Str×Addr)}{qual:Str}{func:Option Addr}{code:ĸ}{env:Env}{Q:Env->ĳ->Prop}
    (hQ:Q (newEnv scope s.heap.objs.size globals (cellsFrom (s.heap.objs.size+1) scope.names closure) qual func code (some env) builtinsNs) { s with heap:=pushCells (s.heap.push { cls:=.type "dict",data:=.dict #[] }) scope.names }) :
    wpAny M A (newFunctionEnv scope globals closure [] qual func code (some env)) Q E s:=by
  simp only[newFunctionEnv,Option.isSome_some,if_true];refine wpAny_bind (wpAny_alloc ?_);refine wpAny_bind (wpAny_layCells _ (fun name kind cells=>by cases hkc:kind==NameKind.cell<;>simp[hkc]) _ _ _ _ ?_);rw[show({ s with heap:=s.heap.push { cls:=.type "dict",data:=.dict #[] } }:ĳ).heap.objs.size=s.heap.objs.size+1 from WQ ..];rw[KZ];exact wpAny_bind (wpAny_pure (wpAny_pure hQ))
section
variable {X:Cx}{sc:Scope}{tg iter elt:Expr}{ifs:List Expr}{own free:List Str}{fv:List Nat}{wi:TI}{g:TG}{tc:TT}{te:TE}{pos:Pos}
theorem vV {U:L2.St}:∀ {free:List Str} {fv:List Nat},U9 X sc free fv->∀ (k:Nat) (x:Str) (v:V),free[k]?=some x->(fv.map fun j=>(U[j]?).join)[k]?=some (some v) ->
  ∃ j:Nat,X.N[j]?=some x/\U[j]?=some (some v)/\sc.names.lookup x=some .free/\X.env.kindOf x=some .cell
 |x'::xs,j::js,h,k,x,v,e1,e2=>by
  cases k with
  |zero =>
   simp at e1 e2;subst e1;refine⟨j,h.1,?_,h.2.1,h.2.2.1⟩;cases q:U[j]? with
   |none=>rw[q]at e2;simp at e2
   |some o=>rw[q]at e2;simp at e2;rw[e2]
  |succ k=>exact vV (free:=xs) (fv:=js) h.2.2.2 k x v (by simpa using e1) (by simpa using e2)
 |[],[],_,k,x,v,e1,_=>by simp at e1
theorem vZ:∀ {free:List Str} {fv:List Nat},U9 X sc free fv->fv.length=free.length
  |[],[],_=>rfl
  |_::_,_::_,h=>congrArg (· + 1) (vZ h.2.2.2)
def rW {RR : ĸ → Addr → Result → ĳ → Prop} (hcalm : X.calm = true) (hxe : X.xe = fun _ _ => False) (hkind : sc.kind = .function) (hcell : ∀ y ∈ sc.names, y.2 = .cell → sc.names.lookup y.1 = some .cell) (hfr : WR (fun x => X.env.kindOf x = some .cell) sc.names) (hfv : U9 X sc free fv) (hg : ∀ cl C s₀ H₀ ex, PG (inner X sc (own ++ free) cl C s₀ H₀ ex) tg g) (ht : ∀ cl C s₀ H₀ ex, Q6 (inner X sc (own ++ free) cl C s₀ H₀ ex) ifs tc) (he : ∀ cl C s₀ H₀ ex, PE (inner X sc (own ++ free) cl C s₀ H₀ ex) elt te) {Q : VK} (I2 : Inv X Z9 U H2 s2) (T : Turn X.prog X.w X.K tg J fp it tn) (st2 : tn 0 s2.heap) (f2 : ∀ b ∈ fp, V0 X Z9 H2 b) (h : ∀ p, H2 p = none → ∃ W : Nat → Nat → Hp → Prop, (∃ m, W 0 m (upd H2 p (.lst []))) ∧ ∀ i m H2, W i m H2 →
      (J.stop i H2/\Q (.ref p) H2)\/(J.go i H2/\∀ x H',J.yld i H2 x H'->g x (cst own fv U) H' fun σ2 H3=>X6 (cst own fv U) σ2/\tc σ2 H3 fun b H4 =>
        if b=true then te σ2 H4 fun y H5=>∃ ys,H5 p=some (.lst ys)/\ys.length<sizeLine/\∃ m',m'<m/\W (i+1) m' (upd H5 p (.lst (ys++[y])))
        else ∃ m',m'<m/\W (i+1) m' H4)) {cl:List (Str×Addr)} (hcl1:∀ x c,cl.lookup x=some c->X.env.cells.lookup x=some c) (hcl2:∀ y∈sc.names,y.2=.free->(cl.lookup y.1).isSome=true) (hRR:∀ (p C:Addr) (m:Str->Option ĸ) (H':Hp) (s':ĳ),s'.heap.Ns C m->Inv X Z9 U H' s'->H' C=none->C≠X.env.locals->X.s₀.heap.objs.size<=C->(∀ x c,X.env.cells.lookup x=some c->c≠C)->(∀ q∈X.pn++Z9,q.1≠C)->Q (.ref p) H' ->
      RR (.ref p) C (.ok .next) s') :
    wpAny (model X.prog X.w) X.A (newList []) (fun acc s3=>wpAny (model X.prog X.w) X.A (newFunctionEnv sc X.env.globals cl [] X.env.qual none .none (some X.env)) (fun cenv s4 =>codeAny (model X.prog X.w) X.A (.compStart (.ListComp elt [⟨tg,iter,ifs,0⟩] sc pos) 0 (.ref it) acc { cenv with scope:=relabel sc X.env }) (RR acc cenv.locals) s4) X.xe s3) X.xe s2:=by
  rw[hxe];refine wpAny_newObj_type ?_;have I3:Inv X Z9 U (upd H2 s2.heap.objs.size (.lst [])) { s2 with heap:=s2.heap.push { cls:=.type "list",data:=.seq ([]:List ĸ).toArray } }:=I2.lnew (t':=s2.toks) .nil (qH _);generalize hs3:({ s2 with heap:=s2.heap.push { cls:=.type "list",data:=.seq ([]:List ĸ).toArray } }:ĳ)=s3 at I3 ⊢;have hp:H2 s2.heap.objs.size=none:=I2.fresh;obtain⟨W,⟨m0,w0⟩,turn⟩:=h s2.heap.objs.size hp;generalize hH3:upd H2 s2.heap.objs.size (.lst [])=H3 at I3 w0 ⊢;have hk3:∀ b o,s2.heap.get? b=some o->s3.heap.get? b=some o:=fun b o e=>by rw[<- hs3];exact qc _ e
  have hz3:s3.heap.objs.size=s2.heap.objs.size+1:=by rw[<- hs3];exact WQ ..
  have st3:tn 0 s3.heap:=T.keep _ _ _ st2 fun b _ o e=>hk3 b o e
  have hfpo:∀ b∈fp,∃ o,s3.heap.get? b=some o:=fun b hb=>by obtain⟨o,e,_⟩:=T.obj _ _ st3 b hb;exact⟨o,e⟩
  have hfpn:∀ b∈fp,b≠s2.heap.objs.size:=fun b hb e=>by obtain⟨o,e',_⟩:=T.obj _ _ st2 b hb;have:=qA e';rw[e]at this;exact Xx _ this
  have f3:∀ b∈fp,H3 b=none:=fun b hb=>by rw[<- hH3,zA (hfpn b hb)];exact(f2 b hb).1
  refine θ ?_;have cok:=cellsFrom_ok sc.names (s3.heap.push { cls:=.type "dict",data:=.dict #[] }) (s3.heap.objs.size+1) [] ⟨fun _ _ hm=>(nomatch hm),List.Pairwise.nil⟩ (by rw[WQ];exact qh _);rw[WQ]at cok;have hns1:(pushCells (s3.heap.push { cls:=.type "dict",data:=.dict #[] }) sc.names).Ns s3.heap.objs.size (fun _=>none):=(Heap.Ns.new s3.heap (.type "dict")).keeps (pushCells_keeps _ _);have old:∀ b o,s3.heap.get? b=some o->(pushCells (s3.heap.push { cls:=.type "dict",data:=.dict #[] }) sc.names).get? b=some o:=fun b o e=>pushCells_keeps _ _ b o (qc _ e)
  rw[QB];have fmem:∀ {x c},(x,c)∈cellsFrom (s3.heap.objs.size+1) sc.names []->sc.names.lookup x=some .cell:=fun {x c} h=>hcell (x,.cell) (Gk h) rfl
  have fhas:∀ {x},sc.names.lookup x=some .cell->∃ c,(cellsFrom (s3.heap.objs.size+1) sc.names []).lookup x=some c:=fun {x} h=>Nj.mp (Bu (mem_of_lookup h))
  generalize pushCells (s3.heap.push { cls:=.type "dict",data:=.dict #[] }) sc.names=h1 at cok hns1 old ⊢;generalize cellsFrom (s3.heap.objs.size+1) sc.names []=F at cok fmem fhas ⊢;have flt:∀ {x c},F.lookup x=some c->s3.heap.objs.size<c:=fun {x c} e=>(cok.empty x c (mem_of_lookup e)).2
  have cl':∀ {x c},(F++cl).lookup x=some c->F.lookup x=some c\/(F.lookup x=none/\cl.lookup x=some c):=fun {x c} e=>by
    rw[Nk]at e;cases hF:F.lookup x with
    |some c'=>rw[hF]at e;exact .inl e
    |none=>rw[hF]at e;exact .inr ⟨rfl,e⟩
  have hC0:H3 s3.heap.objs.size=none:=I3.fresh;have hlow:X.s₀.heap.objs.size<=s3.heap.objs.size:=I3.sz;have hloc:X.env.locals<s3.heap.objs.size:=I3.lt
  have hcells:∀ x c,X.env.cells.lookup x=some c->c<s3.heap.objs.size:=fun x c e=>by obtain⟨v,o,ho,_⟩:=I3.cell x c e;exact qA ho
  have YOk:(inner X sc (own++free) (F++cl) s3.heap.objs.size s3 H3 fp).Ok:={
    mod:=I3.ok.mod
    kind:=by show(relabel sc X.env).kind=.function;exact hkind
    glob:=I3.ok.glob
    blt:=I3.ok.blt
    above:=qh _
    inj:=fun x y c hx hy=>by
      rcases cl' hx with h|⟨_,h⟩<;>rcases cl' hy with h'|⟨_,h'⟩
      . exact name_of_addr cok.apart (mem_of_lookup h) (mem_of_lookup h')
      . exact absurd (Nat.lt_trans (flt h) (hcells y c (hcl1 y c h'))) (Xx _)
      . exact absurd (Nat.lt_trans (flt h') (hcells x c (hcl1 x c h))) (Xx _)
      . exact I3.ok.inj x y c (hcl1 x c h) (hcl1 y c h')
    has:=fun x hx=>by
      show ∃ c,(F++cl).lookup x=some c;rw[Nk];cases hF:F.lookup x with
      |some c=>exact⟨c,rfl⟩
      |none =>
      show ∃ c,cl.lookup x=some c
      have e : (sc.names.lookup x).map (fun k => if(k == NameKind.free && X.env.scope.kind == .function && X.env.kindOf x == some .cell)then NameKind.cell else k) = some .cell ∨
          (sc.names.lookup x).map (fun k=>if(k==NameKind.free&&X.env.scope.kind==.function&&X.env.kindOf x==some .cell)then NameKind.cell else k)=some .free:=by
        have:=@GZ X.env x sc.names;rcases hx with hx|hx
        . exact .inl (this.symm.trans hx)
        . exact .inr (this.symm.trans hx)
      cases q:sc.names.lookup x with
      |none=>rw[q]at e;simp at e
      |some k =>
        have hm:=mem_of_lookup q;by_cases hkf:k=.free
        . subst hkf;exact Nj.mp (hcl2 (x,.free) hm rfl)
        . have hkc : k ≠ .cell := fun ek => by
            subst ek;obtain⟨c,hc⟩:=fhas q;rw[hF]at hc;cases hc
          rw[q]at e;have hb:(k==NameKind.free)=false:=by simpa using hkf
          simp only[Option.map_some,hb,Wu,TY,if_false,Option.some.injEq]at e;rcases e with e|e
          . exact absurd e hkc
          . exact absurd e hkf
    cab:=fun x c hx hc=>by
      obtain⟨c',hc'⟩:=fhas (show sc.names.lookup x=some .cell from beq_iff_eq.mp hx);rcases cl' hc with h|⟨h,_⟩
      . exact Lz (flt h)
      . rw[hc']at h;cases h
    hd:=I3.ok.hd
    frames:=I3.ok.frames
    stk:=.inl rfl
    exf:=fun b hb=>⟨fun e=>by obtain⟨o,e'⟩:=hfpo b hb;have:=qA e';rw[e]at this;exact Xx _ this,fun x c hx=>by
      rcases cl' hx with h|⟨_,h⟩
      . obtain⟨o,e'⟩:=hfpo b hb;exact Wj (Nat.lt_trans (qA e') (flt h))
      . exact(f2 b hb).2.2.2.2.1 x c (hcl1 x c h)⟩
    bs:=I3.bs
    bsz:=qW I3.ok.bsz I3.sz
    noex:=fun b o hb hm=>by
      rcases(f2 b hm).2.2.2.1 with hx|hx
      . exact I3.ok.noex b o hb hx
      . exact Xx _ (qF (qF (qA hb) I3.ok.bsz) hx)
    exfs:=fun b hb hm=>by
      rcases qv.mp (I3.stkSub b hm)with e|e
      . exact(f2 b hb).2.1 e
      . exact(f2 b hb).2.2.1 e
    funs:=I3.stack
    frf:=I3.stkFree }
  have hlen0:(cst own fv U).length=(own++free).length:=by unfold cst;rw[qf,qf,qJ,qa,vZ hfv]
  have I4:∀ tk,Inv (inner X sc (own++free) (F++cl) s3.heap.objs.size s3 H3 fp) [] (cst own fv U) H3 { s3 with heap:=h1,toks:=tk }:=fun tk=>{
    ok:=YOk
    os:=rfl
    bare:=I3.bare
    base:=Un.kept old
    loc:=by
      refine⟨_,hns1,fun i x v hN hσ _=>?_⟩;have hN':(own++free)[i]?=some x:=hN;have hσ':(List.replicate own.length none++fv.map fun j=>(U[j]?).join)[i]?=some (some v):=hσ;by_cases hi:i<own.length
      . rw[qg (by rw[qJ];exact hi)]at hσ';rw[Nf]at hσ';split at hσ'<;>simp at hσ'
      . rw[qe (by lia)]at hN';rw[qe (by rw[qJ];lia),qJ]at hσ';obtain⟨j,hj,hσj,hsx,hkx⟩:=vV hfv _ x v hN' hσ';obtain⟨m,_,hall⟩:=I3.loc;obtain⟨u,ru,lk⟩:=hall j x v hj hσj (.inr (.inl hkx));refine⟨u,ru,.inr ⟨?_,?_⟩⟩
        . have:=@GZ X.env x sc.names;rw[hsx]at this;have e2:Env.kindOf (inner X sc (own++free) (F++cl) s3.heap.objs.size s3 H3 fp).env x=(sc.names.map fun (n,k)=>if(k==NameKind.free&&X.env.scope.kind==.function&&X.env.kindOf n==some .cell)then(n,NameKind.cell)else(n,k)).lookup x:=rfl;rw[e2,this];simp only[Option.map_some];split
          . exact .inl rfl
          . exact .inr rfl
        . rcases lk with⟨hl,_⟩|⟨_,c,hc,hcell'⟩
          . rw[hkx]at hl;cases hl
          . obtain⟨c',hc'⟩:=Nj.mp (hcl2 (x,.free) (mem_of_lookup hsx) rfl);have:=hcl1 x c' hc';rw[hc]at this;cases this;refine⟨c,?_,?_⟩
            . show(F++cl).lookup x=some c;rw[Nk];cases hF:F.lookup x with
              |none=>exact hc'
              |some c2=>have:=fmem (mem_of_lookup hF);rw[hsx]at this;cases this
            obtain⟨o,ho,hd⟩:=hcell';exact⟨o,old _ _ ho,hd⟩
    cell:=fun x c hx=>by
      rcases cl' hx with h|⟨_,h⟩
      . exact⟨none,(cok.empty x c (mem_of_lookup h)).1⟩
      . obtain⟨v,o,ho,hd⟩:=I3.cell x c (hcl1 x c h);exact⟨v,o,old _ _ ho,hd⟩
    free:=hC0
    freeC:=fun x c hx=>by
      rcases cl' hx with h|⟨_,h⟩
      . exact I3.hok.fresh (Lz (flt h))
      . exact I3.freeC x c (hcl1 x c h)
    pin:=fun q hq=>nomatch hq
    hok:=I3.hok.kept old
    len:=hlen0 }
  have back:∀ (m:Str->Option ĸ) (H':Hp) (s':ĳ),s'.heap.Ns s3.heap.objs.size m->Inv (inner X sc (own++free) (F++cl) s3.heap.objs.size s3 H3 fp) [] (cst own fv U) H' s'->Q (.ref s2.heap.objs.size) H'->RR (.ref s2.heap.objs.size) s3.heap.objs.size (.ok .next) s':=fun m H' s' hm IY q=>by
    have u1:Un (frs X.stack) fp H3 H' s3.heap s'.heap:=IY.base;have IX:Inv X Z9 U H' s':=I3.call' (ch:=fp) (IY.os) u1 IY.hok IY.bare fun b hb=>⟨(f2 b hb).2.2.2.1,(f2 b hb).2.1,(f2 b hb).2.2.2.2.1,(f2 b hb).2.2.2.2.2⟩
    refine hRR _ _ m H' s' hm IX IY.free (Wj hloc) hlow (fun x c hx=>qZ (hcells x c hx)) (fun q' hq=>?_) q;have:=(I3.pin q' hq).1;exact qZ (qA this)
  have stat:∀ {H':Hp},(∀ b∈fp,H' b=none)->∀ b∈fp,V0 (inner X sc (own++free) (F++cl) s3.heap.objs.size s3 H3 fp) [] H' b:=fun hn b hb =>⟨hn b hb,(YOk.exf b hb).1,YOk.exfs b hb,.inl hb,(YOk.exf b hb).2,fun q hq=>nomatch hq⟩
  have hYxe:(inner X sc (own++free) (F++cl) s3.heap.objs.size s3 H3 fp).xe=fun _ _=>False:=hxe
  have loop:∀ tk,codeAny (model X.prog X.w) X.A (.compLoop (.ListComp elt [⟨tg,iter,ifs,0⟩] sc pos) 0 (.ref it) (.ref s2.heap.objs.size) (compEnvC sc (F++cl) s3.heap.objs.size X.env)) (RR (.ref s2.heap.objs.size) s3.heap.objs.size) { s3 with heap:=h1,toks:=tk }:=fun tk=>by
    refine ê (fun n s'=>∃ i H',Inv (inner X sc (own++free) (F++cl) s3.heap.objs.size s3 H3 fp) [] (cst own fv U) H' s'/\tn i s'.heap/\(∀ b∈fp,H' b=none)/\W i n H') ?_ m0 ⟨0,H3,I4 tk,T.keep _ _ _ st3 (fun b _ o e=>old b o e),f3,w0⟩;rintro n s5 ⟨i,H5,I5,st5,fr5,w5⟩;rcases turn i n H5 w5 with⟨stop,q⟩|⟨go,step⟩
    . refine Z2 (T.done (inner X sc (own++free) (F++cl) s3.heap.objs.size s3 H3 fp) rfl rfl rfl hcalm i [] s5 _ H5 _ I5 (stat fr5) st5 stop) fun r s6 ⟨hr,I6⟩=>?_
      subst hr;obtain⟨m,hm,_⟩:=I6.loc;exact back m H5 s6 hm I6 q
    . refine Z2 (T.item (inner X sc (own++free) (F++cl) s3.heap.objs.size s3 H3 fp) rfl rfl rfl hcalm i [] s5 _ H5 _ I5 (stat fr5) st5 go) fun r s6 ⟨u,hr,h6⟩=>?_
      subst hr;refine Z2 h6 fun _ s7 ⟨x,H7,I7,r7,y7,st7,fr7⟩=>?_
      have I7':=I7.pinned (stat fr7) (T.obj _ _ st7);have hg':=hg (F++cl) s3.heap.objs.size s3 H3 fp _ s7 _ H7 x u _ I7' r7 (step x H7 y7);have ht':=ht (F++cl) s3.heap.objs.size s3 H3 fp;have he':=he (F++cl) s3.heap.objs.size s3 H3 fp;have ap:Rh (inner X sc (own++free) (F++cl) s3.heap.objs.size s3 H3 fp) "list.append" vG:=sY;unfold Q6 at ht';unfold PE at he';unfold Rh at ap;rw[hYxe]at hg' ht' he' ap
      have again : ∀ {pl : List (Addr × Obj)} {σ8 : L2.St} {H8 : Hp} {s8 : ĳ}, pl = Lf fp s7.heap → Inv (inner X sc (own ++ free) (F ++ cl) s3.heap.objs.size s3 H3 fp) ([] ++ pl) σ8 H8 s8 → X6 (cst own fv U) σ8 → (∃ m', m' < n ∧ W (i + 1) m' H8) →
          ∃ m,m<n/\∃ i H',Inv (inner X sc (own++free) (F++cl) s3.heap.objs.size s3 H3 fp) [] (cst own fv U) H' s8/\tn i s8.heap/\(∀ b∈fp,H' b=none)/\W i m H':=fun {pl σ8 H8 s8} hpl I8 ag zq10=>by
        obtain⟨m',hm,w8⟩:=zq10;subst hpl;refine⟨m',hm,i+1,H8,(I8.unpinned).weak ag.len.symm (fun j v e=>ag.get j v e),T.keep _ _ _ st7 fun b hb o e=>(I8.pin (b,o) (qL _ (qL _ (JN hb e)))).1,fun b hb=>?_,w8⟩;obtain⟨o,e,d⟩:=T.obj _ _ st7 b hb;exact(I8.pin (b,o) (qL _ (qL _ (JN hb e)))).2.1
      refine Z2 hg' fun _ s8 ⟨σ8,H8,I8,ag,q8⟩=>?_
      refine Z2 (ht' _ s8 σ8 H8 _ I8 q8) fun b s9 ⟨H9,I9,q9⟩=>?_
      cases b with
      |false =>rw[if_neg qr]at q9 ⊢;exact again rfl I9 ag q9
      |true =>
        rw[if_pos rfl]at q9 ⊢;refine Z2 (he' _ s9 σ8 H9 _ I9 q9) fun y s10 ⟨yv,H10,I10,ry,ys,hy,hlt,q10⟩=>?_
        refine Z2 (ap _ s10 σ8 H10 (.ref s2.heap.objs.size) [yv] (.ref s2.heap.objs.size) [y] (fun v H'=>v=.non/\H'=upd H10 s2.heap.objs.size (.lst (ys++[yv]))) I10 rfl (.cons ry .nil) ⟨_,ys,yv,rfl,rfl,hy,hlt,rfl,rfl⟩) fun z s11 ⟨v11,H11,I11,_,_,e11⟩=>?_
        subst e11;exact again rfl I11 ag q10
  refine codeAny_compStart_list (loop _) (T.self _ 0 _ _ _ (T.keep _ _ _ st3 fun b _ o e=>old b o e) (loop _))
def Ï (hcalm:X.calm=true)(hxe:X.xe=fun _ _=>False)(hkind:sc.kind=.function)(hcell:∀ y∈sc.names,y.2=.cell->sc.names.lookup y.1=some .cell)(hnames:∀ y∈sc.names,y.2=.local->sc.names.lookup y.1=some .local)
  (hfr:WR (fun x=>X.env.kindOf x=some .cell) sc.names) (hfv:U9 X sc free fv) (hi:PI X tg iter wi)
  (hg:∀ cl C s₀ H₀ ex,PG (inner X sc (own++free) cl C s₀ H₀ ex) tg g) (ht:∀ cl C s₀ H₀ ex,Q6 (inner X sc (own++free) cl C s₀ H₀ ex) ifs tc) (he:∀ cl C s₀ H₀ ex,PE (inner X sc (own++free) cl C s₀ H₀ ex) elt te)
  (hs:∀ x,foldedSetIterable iter X.env x=pure x:=by intro _;rfl):PE X (.ListComp elt [⟨tg,iter,ifs,0⟩] sc pos) (Ao own fv wi g tc te):=by
 intro Z9 s U H Q I q;obtain⟨cl,hclos,hcl1,hcl2⟩:=lG (env:=X.env) (sc:=sc) fun y hy e=>I.ok.has y.1 (.inl (hfr.of y hy e))
 rw[eval_ListComp];refine wpAny_comprehension_free (use:=none) rfl hs hclos hkind hnames (Z2 (hi Z9 s U H _ I q) fun v s1 h1=>Z2 h1 fun itv s2 h2=>?_);obtain⟨it,fp,tn,J,H2,e,I2,T,st2,f2,q2⟩:=h2;subst e;refine rW (RR:=fun acc C=>compPost (model X.prog X.w) X.A X.xe none (EP X Z9 U Q) acc C) hcalm hxe hkind hcell hfr hfv hg ht he I2 T st2 f2 q2 hcl1 hcl2 ?_;intro p C m H' s' hm I' hC hCl hC0 hCc hCp q';exact⟨m,hm,fun h' hs'=>⟨.ref p,H',I'.turned (t':=s'.toks) (fun b o hb e=>hs'.extBut b o hb e) hC hCl (.inr hC0) hCc hCp,rfl,q'⟩⟩
def š {i:Nat}{y:Str}{py spos:Pos}(hN:X.N.Nodup)(hy:X.N[i]?=some y)(hyl:X.env.scope.names.lookup y=some .local)(hcalm:X.calm=true)(hxe:X.xe=fun _ _=>False)(hkind:sc.kind=.function)(hcell:∀ y∈sc.names,y.2=.cell->sc.names.lookup y.1=some .cell)(hnames:∀ y∈sc.names,y.2=.local->sc.names.lookup y.1=some .local)
  (hfr:WR (fun x=>X.env.kindOf x=some .cell) sc.names) (hfv:U9 X sc free fv) (hi:PI X tg iter wi)
  (hg:∀ cl C s₀ H₀ ex,PG (inner X sc (own++free) cl C s₀ H₀ ex) tg g) (ht:∀ cl C s₀ H₀ ex,Q6 (inner X sc (own++free) cl C s₀ H₀ ex) ifs tc) (he:∀ cl C s₀ H₀ ex,PE (inner X sc (own++free) cl C s₀ H₀ ex) elt te)
  (hsw:swapsWith (.ListComp elt [⟨tg,iter,ifs,0⟩] sc pos) (some (.Name y py)) spos.line X.env=pure true:=by rfl)
  (hs:∀ x,foldedSetIterable iter X.env x=pure x:=by intro _;rfl):PS X (.Assign [.Name y py] (.ListComp elt [⟨tg,iter,ifs,0⟩] sc pos) spos) (Ec (Ao own fv wi g tc te) (zP i)):=by
 intro Z9 s U H D I q;obtain⟨cl,hclos,hcl1,hcl2⟩:=lG (env:=X.env) (sc:=sc) fun y hy e=>I.ok.has y.1 (.inl (hfr.of y hy e))
 rw[exec_Assign_Name_used _ _ _ _ hsw];refine wpAny_bind (wpAny_standAt (wpAny_bind ?_));show wpAny _ X.A (do let _ <- comprehension (.ListComp elt [⟨tg,iter,ifs,0⟩] sc pos) sc X.env _ (newList []) false (eval iter X.env) (some (assign (.Name y py) X.env))) _ _ s
 refine wpAny_bind (wpAny_mono (wpAny_comprehension_free (use:=some (assign (.Name y py) X.env)) (Q:=fun _ s'=>SP X Z9 D .next s') rfl hs hclos hkind hnames
  (Z2 (hi Z9 s U H _ I q) fun v s1 h1=>Z2 h1 fun itv s2 h2=>?_)) (fun _ s' hq=>wpAny_pure (wpAny_pure hq)) fun _ _ e=>e)
 obtain⟨it,fp,tn,J,H2,e,I2,T,st2,f2,q2⟩:=h2;subst e;refine rW (RR:=fun acc C=>compPost (model X.prog X.w) X.A X.xe (some (assign (.Name y py) X.env)) (fun _ s'=>SP X Z9 D .next s') acc C) (Q:=fun x H1=>zP i x U H1 D.nx) hcalm hxe hkind hcell hfr hfv hg ht he I2 T st2 f2 q2 hcl1 hcl2 ?_;intro p C m H' s' hm I' hC hCl hC0 hCc hCp q';show wpAny _ X.A (assign (.Name y py) X.env (.ref p)) _ _ _;refine wpAny_assign_Name (wQ (v:=.ref p) I' hN hy (.inl hyl) rfl (fun s'' I'' hsb=>?_) (.inr hyl));obtain⟨a,hsb,ha⟩:=hsb
 have hCa:C≠a:=by
  rcases ha with rfl|ha
  ·exact hCl
  ·exact fun e=>hCc _ _ ha e.symm
 refine⟨m,hm.sameBut hsb hCa,fun h' hs'=>⟨_,H',I''.turned (t':=s''.toks) (fun b o hb e=>hs'.extBut b o hb e) hC hCl (.inr hC0) hCc hCp,q'⟩⟩
end
section
variable {X:Cx}{Z9:List (Addr×Obj)}{U:L2.St}{H:Hp}{s:ĳ}
def _root_.L2.Inv.turnNew {h':Heap}{ch:List Addr}{a:Addr}{o:HO}{t':Nat}(I:Inv X Z9 U H s)(hf:∀ b∈ch,V0 X Z9 H b)(k:∀ b u,b∉ch->s.heap.get? b=some u->h'.get? b=some u)(ha:s.heap.objs.size<=a)
  (new:zX X.prog X.w (upd H a o) h' a o):Inv X Z9 U (upd H a o) { s with heap:=h',toks:=t' }:=by
 have lt:∀ b u,s.heap.get? b=some u->b≠a:=fun b u e z=>by have:=qA e;rw[z]at this;exact Xx _ (qF this ha)
 have ltH:∀ b u,H b=some u->b≠a:=fun b u e z=>by have:=I.hok.lt e;rw[z]at this;exact Xx _ (qF this ha)
 have nch:∀ b u,H b=some u->b∉ch:=fun b u e z=>by rw[(hf b z).1]at e;cases e
 refine I.step (g':=s.gens) (d':=s.drawn) (ch:=ch) (fun b hb=>⟨(hf b hb).2.2.2.1,(hf b hb).2.1,(hf b hb).2.2.2.2.1,(hf b hb).2.2.2.2.2⟩) (fun b u _ _ hc e _=>k b u hc e) (fun b u _ _ hc e _=>⟨u.slots,k b u hc e⟩)
  (fun b u _ e n=>by rw[zA (lt b u e)];exact n) (fun b u hc e=>⟨u,k b u hc e⟩) (fun b xs e=>by rw[zA (ltH b _ e)];exact e) (fun b u v e=>by rw[zA (ltH b _ e)];exact e)
  (fun b ps e=>⟨#[],by rw[zA (ltH b _ e),e];simp⟩) (fun m hm=>?_) (fun b u e=>?_) I.bare
 ·obtain⟨ob,es,ep,ho,r⟩:=hm;exact⟨ob,es,ep,k _ ob (fun z=>(hf _ z).2.1 rfl) ho,r⟩
 ·by_cases hb:b=a
  ·subst hb;rw[zL]at e;cases e;exact new
  ·rw[zA hb]at e;refine(I.hok b u e).stay (fun c v hc q=>k c v ?_ q) (fun c q=>by rw[zA (ltH c _ q)];exact q) fun c ys q=>by rw[zA (ltH c _ q)];exact q
   rcases hc with z|z
   ·rw[z];exact nch b u e
   ·exact nch c _ z
def _root_.L2.Inv.turnedL {h':Heap}{ch:List Addr}{t':Nat}(I:Inv X Z9 U H s)(hf:∀ b∈ch,V0 X Z9 H b)(k:∀ b u,b∉ch->s.heap.get? b=some u->h'.get? b=some u):Inv X Z9 U H { s with heap:=h',toks:=t' }:=by
 have nch:∀ b u,H b=some u->b∉ch:=fun b u e z=>by rw[(hf b z).1]at e;cases e
 refine I.step (g':=s.gens) (d':=s.drawn) (ch:=ch) (fun b hb=>⟨(hf b hb).2.2.2.1,(hf b hb).2.1,(hf b hb).2.2.2.2.1,(hf b hb).2.2.2.2.2⟩) (fun b u _ _ hc e _=>k b u hc e) (fun b u _ _ hc e _=>⟨u.slots,k b u hc e⟩)
  (fun b u _ e n=>n) (fun b u hc e=>⟨u,k b u hc e⟩) (fun b xs e=>e) (fun b u v e=>e) (fun b ps e=>⟨#[],by rw[e];simp⟩) (fun m hm=>?_) (fun b u e=>?_) I.bare
 ·obtain⟨ob,es,ep,ho,r⟩:=hm;exact⟨ob,es,ep,k _ ob (fun z=>(hf _ z).2.1 rfl) ho,r⟩
 ·refine(I.hok b u e).stay (fun c v hc q=>k c v ?_ q) (fun c q=>q) fun c ys q=>q
  rcases hc with z|z
  ·rw[z];exact nch b u e
  ·exact nch c _ z
end
def Ite (K:Ĳ)(l:Addr):It :=
  ⟨fun i H=>∃ xs x,ZC K H l xs/\xs[i]?=some x,
   fun i H v H'=>∃ p,v=.ref p/\H p=none/\∀ xs x,ZC K H l xs->xs[i]?=some x->H'=upd H p (.tup [.int i,x]),
   fun i H=>∃ xs,ZC K H l xs/\xs.length<=i⟩
def znt {P:Program}{w:World}{K:Ĳ}{es:List Expr}{kk:Nat}{pos:Pos}{e it l:Addr}(hne:e≠it) :
  Turn P w K (.Tuple es kk pos) (Ite K l) [e,it] e (fun i h=>(∃ old,IsEnum h e it i old)/\h.IsListIter it l i) where
 mem:=by simp
 obj:=fun i h st b hb=>by
  obtain⟨⟨old,he⟩,⟨o1,h1,_,h1d⟩⟩:=st;simp only[qv,qN,or_false]at hb;rcases hb with rfl|rfl
  ·exact⟨_,he,fun v q=>by cases(show Data.fields _=Data.cell v from q)⟩
  ·exact⟨_,h1,fun v q=>by rw[h1d]at q;cases q⟩
 keep:=fun i h h' st k=>by obtain⟨⟨old,he⟩,h1⟩:=st;exact⟨⟨old,k e (by simp) _ he⟩,h1.at fun o q=>k it (by simp) o q⟩
 item:=by
  intro X hP hw hK hc i Z9 s U H E I hf st hg;subst hP hw hK;obtain⟨⟨old,he⟩,h1⟩:=st;obtain⟨xs,x,hx1,hx⟩:=hg;obtain⟨its,rx,px,zx⟩:=I.list hx1;obtain⟨u,hu,ru⟩:=Vals.get rx hx;refine wpAny_pyNext_enum_item he h1 px.isList (by simpa using hu) hne fun h' a1 a2 a3 a4 hk=>?_
  refine⟨_,rfl,wpAny_letOwnedTupleGo_enum (s:={ s with heap:=h',toks:=s.toks+1 }) a1 fun h'' he'' hs''=>?_⟩;have lt:∀ {c o},s.heap.get? c=some o->s.heap.objs.size≠c:=fun q=>Wj (qA q)
  have k2:∀ b u,b∉[e,it]->s.heap.get? b=some u->h''.get? b=some u:=fun b u hb q=>by simp only[qv,qN,or_false,not_or]at hb;exact hs''.extBut b u hb.1 (hk b u hb.1 hb.2 q)
  have new:h''.get? s.heap.objs.size=some { cls:=.type "tuple",data:=.seq #[.int i s.toks,u] }:=hs''.extBut _ _ (lt he) a3;refine⟨.ref s.heap.objs.size,upd H s.heap.objs.size (.tup [.int i,x]),I.turnNew (t':=s.toks+1) hf k2 (qh _) ⟨by show 2<=sizeLine;decide,[.int i s.toks,u],.cons ⟨_,rfl⟩ (.cons ru .nil),_,new,rfl,_,rfl⟩,rfl,⟨_,rfl,I.fresh,?_⟩,?_,fun b hb=>?_⟩
  ·intro xs' x' hx1' hx';cases I.list_inj hx1 hx1';rw[hx]at hx';cases hx';rfl
  ·exact⟨⟨_,he''⟩,a2.extBut hs''.extBut (Ne.symm hne)⟩
  ·have:∃ o,s.heap.get? b=some o:=by
    simp only[qv,qN,or_false]at hb;obtain⟨o1,e1,_⟩:=h1;rcases hb with rfl|rfl
    ·exact⟨_,he⟩
    ·exact⟨_,e1⟩
   obtain⟨o,q⟩:=this;rw[zA (lt q).symm];exact(hf b hb).1
 done:=by
  intro X hP hw hK hc i Z9 s U H E I hf st hg;subst hP hw hK;obtain⟨⟨old,he⟩,h1⟩:=st;obtain⟨xs,hx1,hl⟩:=hg;obtain⟨its,rx,px,zx⟩:=I.list hx1;have n1:=rx.length;refine wpAny_pyNext_enum_end (I.ok.hd hc) he h1 px.isList (by rw[GP];exact qw (by lia)) fun h' hk=>⟨rfl,I.turnedL (t':=s.toks) hf fun b u hb q=>?_⟩
  simp only[qv,qN,or_false,not_or]at hb;exact hk b u hb.2 q
 self:=fun _ _ _ _ _ st h=>by obtain⟨⟨old,he⟩,_⟩:=st;exact wpAny_pyIter_enum he h
section
variable {X:Cx}
def V4 (K:Ĳ)(ta:TA):TI:=fun U H R=>ta U H fun vs H1=>∃ l,vs=[.ref l]/\(∃ xs,ZC K H1 l xs)/\R (Ite K l) H1
def fP {es:List Expr}{kk:Nat}{tpos:Pos}{a:Expr}{ta:TA}{p pos:Pos}(hg:Gl X "enumerate")(hm:X.mg "enumerate"=none)(ha:PA X [a] ta)(hs:autoParam (starEach [a] X.env=[(false,eval a X.env)]) zB) :
    PI X (.Tuple es kk tpos) (.Call (.Name "enumerate" p) [a] [] pos) (V4 X.K ta):=by
  intro Z9 s U H R I h;refine Call_ (Uj I hg hm boot_enumerate (PyProof.Rows.callWith_type1 (Z2 (ha pos Z9 s U H _ I h) fun us s1 ⟨vs,H1,I1,r1,q1⟩=>?_) hs rfl));obtain⟨l,e,⟨xs,hx⟩,q⟩:=q1;subst e;obtain⟨u,rfl,ru⟩:=vals1 r1;cases ru;obtain⟨its,rx,px,zx⟩:=I1.list hx;refine call_enumerate_list px.isList fun h' he hit hsz hk=>?_
  have I2:Inv X Z9 U H1 { s1 with heap:=h' }:=I1.kept (t':=s1.toks) hk;refine wpAny_pyIter_enum (s:={ s1 with heap:=h' }) he ?_;refine⟨_,_,_,_,H1,rfl,I2,znt (Wj (Lg _)),⟨⟨_,he⟩,hit⟩,fun b hb=>?_,q⟩
  have hb':s1.heap.objs.size<=b:=by simp only[qv,qN,or_false]at hb;rcases hb with rfl|rfl<;>first|exact Nm _ _|exact qh _
  exact I1.fpOk hb' (I1.hok.fresh hb')
end
def cx (cs:List (Int×Int))(k:Nat):Int:=(cs.getD k (0,0)).1
def cz (cs:List (Int×Int))(k:Nat):Int:=(cs.getD k (0,0)).2
def hT (x1 z1 x2 z2 a b:Int):Int:=z1*(x2-x1)*b+(z2-z1)*(a-x1*b)
def hB (x1 x2 b:Int):Int:=(x2-x1)*b
def gT (cs:List (Int×Int))(k:Nat)(a b:Int):Int:=hT (cx cs (k-1)) (cz cs (k-1)) (cx cs k) (cz cs k) a b
structure Dm (P:Program)(w:World)(K:Ĳ)(mg:Str->Option ĸ)(base:Heap)(k:Nat)(x:Str)(sp:Sp):Prop where
 ex:∃ (C f:Addr) (fd:FuncData) (ps:List Str) (sp0:Sp),Mk K C f/\YS P w K mg base Wq k f fd ps sp0/\Binds K fd ps []/\mg x=some (.ref C) /\
  ∀ vs H Q,sp vs H Q E0->∀ x dx,H x=none->H dx=none->dx≠x->sp0 (.ref x::vs) (upd (upd H dx (.own x)) x (.ins C dx [])) (fun v H2=>v=.non/\Q (.ref x) H2) E0
def Ř {X:Cx}{k:Nat}{sp:Sp}{p pos:Pos}{e:Expr}{es:List Expr}{t:TA}(G:Dm X.prog X.w X.K X.mg X.base k x sp)(hr:zO j X.A)(hk:k+1<=j)(hg:Gl X x)(ha:PA X (e::es) t)(hdb:autoParam ((x==("__debug__":Str))=false) zU)(he:autoParam (starEach (e::es) X.env=(false,eval e X.env)::starEach es X.env) zB)(hpl:autoParam ((backTo pos (starEach es X.env)).any (·.1)=false) zB) :
  PE X (.Call (.Name x p) (e::es) [] pos) (Gg sp [] E0 t):=by
 intro Z9 s U H Q I h;obtain⟨C,f,fd,ps,sp0,M,F,b,hm,imp⟩:=G.ex;refine wpAny_Call_Name_kw (Qd I hg hm ?_ hdb);refine PySem.W.callWith_K (h₀:=X.base) I.ok.mod.kin M.kp (Z2 (ha pos Z9 s U H _ I h) fun us s1 ⟨vs,H1,I1,r,q⟩=>⟨I1.kIn,?_⟩) he hpl;have q':sp (vs++[]) H1 Q E0:=q;rw[qY]at q';exact cQ (dvs:=[]) (ds:=[]) M F (hr.mono hk) b .nil ux I1 r fun x dx h1 h2 h3=>by rw[qY];exact imp vs H1 Q q' x dx h1 h2 h3
def zrB {n:Int}{pos:Pos}(hg:Gl X x)(hm:∃ t,X.mg x=some (.int n t))(hd:autoParam ((x==("__debug__":Str))=false) zU):PE X (.Name x pos) (tC (.int n)):=by obtain⟨t,ht⟩:=hm;exact oK (v:=.int n) hg ht ⟨t,rfl⟩ hd
section
variable {X:Cx}{K:Ĳ}
def zuM {its:List ĸ}(_:Inv X Z9 U H s)(pl:PlainL s.heap p its.toArray) :
  p<s.heap.objs.size/\(s.heap.push { cls:=.type "list_iterator",data:=.fields #[.ref p,.int 0 0] }).IsListIter s.heap.objs.size p 0:=by
 obtain⟨o,ho,_⟩:=pl.isList;exact⟨qA ho,_,qo _ rfl,rfl,rfl⟩
def ϡ {h':Heap}{tk:Nat}(I:Inv X Z9 U H s){o:Obj}(hk:∀ b u,b∉[s.heap.objs.size]->(s.heap.push o).get? b=some u->h'.get? b=some u) :
  Inv X Z9 U H { s with heap:=h',toks:=tk }:=I.kept (t':=tk) fun d u e=>hk d u (fun hm=>by
   have h1:d=s.heap.objs.size:=by simpa using hm
   have h2:=qA e;rw[h1]at h2;exact Xx _ h2) (qc _ e)
def Ϭ (K:Ĳ):List V->Hp->VK->Prop:=fun xs H Q=>∃ (p:Addr) (bs:List Bool),xs=[.ref p]/\ZC K H p (bs.map V.bl)/\Q (.bl (bs.all id)) H
def ϟ {bs:List Bool}(rv:Vals (bs.map V.bl) its){i:Nat}{v:ĸ}(h:its.toArray[i]?=some v):v=.bool (bs.getD i false):=by
 rw[<- Dk]at h
 have hi:i<its.length:=by
  rcases Yv i its.length with g|g
  ·exact g
  ·rw[qw (by simpa using g)]at h;cases h
 have hl:=rv.length;rw[qa]at hl
 have e:(bs.map V.bl)[i]?=some (.bl (bs.getD i false)):=by rw[qi,qb (by lia)];simp[qI,qb (show i<bs.length by lia)]
 obtain⟨u,hu,ru⟩:=rv.get e;rw[show its.toArray.toList=its from rfl,hu]at h;cases h;exact ru
def all_range (bs:List Bool):(List.range bs.length).all (fun i=>bs.getD i false)=bs.all id:=by
 rw[Ut,Vm,Vm];constructor
 ·intro h b hb;obtain⟨i,hi,rfl⟩:=qK.mp hb;simpa [qI,qb hi]using h i (List.mem_range.mpr hi)
 ·intro h i hi;rw[V5]at hi;have:=h bs[i] (List.getElem_mem hi);simpa [qI,qb hi]using this
def Ξ (hK:X.K=K)(hc:X.calm=true):YM X (.builtin "all") (Ϭ K):=fun Z9 s U H xs us Q I r h=>by
 subst hK;obtain⟨p,bs,rfl,hS,q⟩:=h;obtain⟨u,rfl,ru⟩:=vals1 r;cases ru;obtain⟨its,rv,pl,hz⟩:=I.list hS;obtain⟨lt,st⟩:=zuM I pl;have hl:=rv.length;rw[qa]at hl;have W:=Walks.list (prog:=X.prog) (w:=X.w) (A:=X.A.in1) (I.ok.hd hc) s.heap.objs.size p (qZ lt) its.toArray;refine call_all_walk (wpAny_pyIter_list pl.isList ⟨s.heap.objs.size,[s.heap.objs.size,p],[s.heap.objs.size],_,_,_,fun i=>bs.getD i false,rfl,W,⟨st,pl.isList.push _⟩,?_,?_⟩)
 ·intro i v s' Q' E' hv hq;rw[ϟ rv hv];exact wpAny_truthy_bool hq
 ·intro h' tk hk;rw[ql,<- hl,all_range];exact⟨.bl _,H,ϡ (s:=s) I hk,rfl,q⟩
def zw8 (K:Ĳ):List V->Hp->VK->Prop:=fun xs H Q=>∃ (p:Addr) (ns:List Int),xs=[.ref p]/\ZC K H p (ns.map V.int)/\0<ns.length/\∀ m:Int,m∈ns->(∀ a∈ns,a<=m)->Q (.int m) H
def Ĭ (K:Ĳ):List V->Hp->VK->Prop:=fun xs H Q=>∃ (p:Addr) (ns:List Int),xs=[.ref p]/\ZC K H p (ns.map V.int)/\0<ns.length/\∀ m:Int,m∈ns->(∀ a∈ns,m<=a)->Q (.int m) H
theorem Aj:∀ {ns:List Int} {its:List ĸ},Vals (ns.map V.int) its->∃ xs:Array (Int×Tok),its.toArray=intItems xs/\xs.toList.map (·.1)=ns
 |[],_,h=>by cases h;exact⟨#[],by simp[intItems],rfl⟩
 |n::ns,_,h=>by
  cases h with
  |cons r t =>
   obtain⟨tk,rfl⟩:=r;obtain⟨xs,e1,e2⟩:=Aj t;refine⟨#[(n,tk)]++xs,?_,?_⟩
   ·apply Array.toList_inj.mp;have:=congrArg Array.toList e1;simp[intItems]at this ⊢;exact this
   ·simp[e2]
def Χ (hK:X.K=K)(hc:X.calm=true):YM X (.builtin "max") (zw8 K):=fun Z9 s U H xs us Q I r h=>by
 subst hK;obtain⟨p,ns,rfl,hS,hne,q⟩:=h;obtain⟨u,rfl,ru⟩:=vals1 r;cases ru;obtain⟨its,rv,pl,hz⟩:=I.list hS;obtain⟨xs,e1,e2⟩:=Aj rv;have hsz:0<xs.size:=by rw[<- Vh,<- qa (f:=(·.1)),e2];exact hne
 refine max_intList (I.ok.hd hc) (e1▸pl.isList) hsz fun v h' tk hv hk=>?_
 obtain⟨t,rfl⟩:=intItems_at hv;obtain⟨h1,h2⟩:=argBest_gt (numAt xs) (xs.size-1);refine⟨.int _,H,I.kept (t':=tk) hk,⟨t,rfl⟩,q _ ?_ fun a ha=>?_⟩
 ·rw[<- e2,numAt_eq];exact getD_mem (by rw[qa,Vh];lia)
 ·rw[<- e2]at ha;obtain⟨j,hj,rfl⟩:=mem_getD ha;rw[qa,Vh]at hj;rw[<- numAt_eq];exact h2 j (by lia)
def zmu (hK:X.K=K)(hc:X.calm=true):YM X (.builtin "min") (Ĭ K):=fun Z9 s U H xs us Q I r h=>by
 subst hK;obtain⟨p,ns,rfl,hS,hne,q⟩:=h;obtain⟨u,rfl,ru⟩:=vals1 r;cases ru;obtain⟨its,rv,pl,hz⟩:=I.list hS;obtain⟨xs,e1,e2⟩:=Aj rv;have hsz:0<xs.size:=by rw[<- Vh,<- qa (f:=(·.1)),e2];exact hne
 refine min_intList (I.ok.hd hc) (e1▸pl.isList) hsz fun v h' tk hv hk=>?_
 obtain⟨t,rfl⟩:=intItems_at hv;obtain⟨h1,h2⟩:=argBest_lt (numAt xs) (xs.size-1);refine⟨.int _,H,I.kept (t':=tk) hk,⟨t,rfl⟩,q _ ?_ fun a ha=>?_⟩
 ·rw[<- e2,numAt_eq];exact getD_mem (by rw[qa,Vh];lia)
 ·rw[<- e2]at ha;obtain⟨j,hj,rfl⟩:=mem_getD ha;rw[qa,Vh]at hj;rw[<- numAt_eq];exact h2 j (by lia)
end
section
variable {X:Cx}{K:Ĳ}
def zxP (K:Ĳ):R2:=fun x y H Q=>∃ l b xs zs,x=.ref l/\y=.ref b/\ZC K H l xs/\ZC K H b zs/\xs.length+zs.length<=sizeLine/\∀ p,H p=none->Q (.ref p) (upd H p (.lst (xs++zs)))
def Ϸ (hK:X.K=K):ZQ X (binaryOp .Add) (zxP K):=by
 subst hK;intro Z9 s U H x y v u Q I rx ry h;obtain⟨l,b,xs,zs,rfl,rfl,hH,hB,hz,q⟩:=h;cases rx;cases ry;obtain⟨its,r,pl,_⟩:=I.list hH;obtain⟨its2,r2,pl2,_⟩:=I.list hB;obtain⟨⟨cls,dd,data,sl⟩,ho,hc,n,hd⟩:=pl.isList;obtain⟨⟨cls2,dd2,data2,sl2⟩,ho2,hc2,n2,hd2⟩:=pl2.isList;simp only at hc hd hc2 hd2;subst hc hd hc2 hd2;have e1:=r.length;have e2:=r2.length;refine concat_meets ⟨_,ho,rfl⟩ ⟨_,ho2,rfl⟩ noFill_list_add seq_list_add PySem.F.slot_list_add PySem.F.entry_list_add (PySem.F.args_list_add_2 _ _) (list_addW l b its.toArray its2.toArray n n2 dd dd2 sl sl2 (by rw[ql,ql];lia)) ⟨ho,ho2,?_⟩;have ea:its.toArray++its2.toArray=(its++its2).toArray:=by simp
 rw[ea];exact⟨.ref _,_,I.lnew (t':=s.toks) (r.append r2) (by rw[qf];lia),rfl,q _ I.fresh⟩
end
def V9 {α:Type}{xs:List α}{i:Nat}{x:α}(h:xs[i]?=some x):i<xs.length:=by
 rcases Yv i xs.length with g|g
 ·exact g
 ·rw[qw g]at h;cases h
open PySem PySem.W PyProof.Rows
section
variable {lt:Nat->Nat->Bool}
abbrev ga (p:Array Nat)(i:Nat):Nat:=p.getD i 0
end
open PySem PySem.Spec PySem.W PyProof.Rows L2
def ð (K:Ĳ):R2:=fun x y H Q=>∃ a b xs ys,x=.ref a/\y=.ref b/\ZP K H a xs/\ZP K H b ys/\xs.length+ys.length<=sizeLine/\(xs=[]->Q (.ref b) H)/\(xs≠[]->ys=[]->Q (.ref a) H)/\(xs≠[]->ys≠[]->∀ p,H p=none->Q (.ref p) (upd H p (.tup (xs++ys))))
def Ł {X:Cx}{K:Ĳ}(hK:X.K=K):ZQ X (binaryOp .Add) (ð K):=by
 subst hK;intro Z9 s U H x y v u Q I rx ry h;obtain⟨a,b,xs,ys,rfl,rfl,ha,hb,hz,q0,q1,q2⟩:=h;by_cases hx:xs=[]
 ·subst hx;cases rx;cases ry;obtain⟨its,r1,p1,_⟩:=I.tuple ha;obtain⟨its2,r2,p2,_⟩:=I.tuple hb;cases r1;obtain⟨⟨cls,dd,data,sl⟩,ho,hc,n,hd⟩:=id p1;obtain⟨⟨cls2,dd2,data2,sl2⟩,ho2,hc2,n2,hd2⟩:=id p2;simp only at hc hd hc2 hd2;subst hc hd hc2 hd2
  exact concat_meets ⟨_,ho,rfl⟩ ⟨_,ho2,rfl⟩ noFill_tuple_add seq_tuple_add PySem.F.slot_tuple_add PySem.F.entry_tuple_add (PySem.F.args_tuple_add_2 _ _)
   (tuple_addW0 a b _ its2.toArray n n2 dd dd2 sl sl2 (by simp)) ⟨ho,ho2,⟨.ref b,H,I,rfl,q0 rfl⟩⟩
 ·exact ÿ Z9 s U H _ _ v u Q I rx ry ⟨a,b,xs,ys,rfl,rfl,ha,hb,hx,hz,q1 hx,q2 hx⟩
end My
namespace L2
open PySem PySem.Spec PyProof.Rows
section
variable {κ:Type}[DecidableEq κ]
def Yz (Z8:List (κ×V))(k:κ):Option V:=(Z8.find? fun kv=>decide (kv.1=k)).map (·.2)
def putK (Z8:List (κ×V))(k:κ)(v:V):List (κ×V) :=if(Z8.any fun kv=>decide (kv.1=k))=true then Z8.map (fun kv=>if kv.1=k then(kv.1,v)else kv)else Z8++[(k,v)]
def kW {k:κ}:Yz ([]:List (κ×V)) k=none:=rfl
def Pz {p:κ×V}{r:List (κ×V)}{k:κ}(e:p.1=k):Yz (p::r) k=some p.2:=by simp[Yz,List.find?_cons,e]
def Qa {p:κ×V}{r:List (κ×V)}{k:κ}(e:¬ p.1=k):Yz (p::r) k=Yz r k:=by simp[Yz,List.find?_cons,e]
theorem MK (k:κ):∀ Z8:List (κ×V),(Z8.any fun kv=>decide (kv.1=k))=(Yz Z8 k).isSome
 |[]=>rfl
 |p::r=>by
  rw[Ku];by_cases e:p.1=k
  ·simp only[Pz e,decide_eq_true e,Bool.true_or,Option.isSome_some]
  ·rw[Qa e,decide_eq_false e,Bool.false_or];exact MK k r
def Jp (Z8:List (κ×V))(k:κ)(v:V):(putK Z8 k v).length<=Z8.length+1:=by
 unfold putK;split
 ·rw[qa];lia
 ·rw[qf,qX,O1];lia
def Yc.isSome_eq (r:Yc o u):o.isSome=u.isSome:=by
 cases o with
 |none=>cases u with
  |none=>rfl
  |some _=>exact(show False from r).elim
 |some _=>cases u with
  |none=>exact(show False from r).elim
  |some _=>rfl
theorem Yc.getD (r:Yc o u)(rd:RelV d d'):RelV (o.getD d) (u.getD d'):=by
 cases o with
 |none=>cases u with
  |none=>exact rd
  |some _=>exact(show False from r).elim
 |some _=>cases u with
  |none=>exact(show False from r).elim
  |some _=>exact r
def KV.val (r:KV Z8 vs)(k:κ):Yc (Yz Z8 k) (valueAt vs k):=by
 unfold KV at r
 induction r with
 |nil=>exact True.intro
 |@cons p q ps qs h t ih =>
  obtain⟨h1,h2⟩:=h;by_cases e:p.1=k
  ·have e':q.1=k:=h1.symm.trans e;have b:valueAt (q::qs) k=some q.2:=by simp[valueAt,List.find?_cons,e']
   rw[Pz e,b];exact h2
  ·have e':¬ q.1=k:=fun z=>e (h1.trans z)
   have b:valueAt (q::qs) k=valueAt qs k:=by simp[valueAt,List.find?_cons,e']
   rw[Qa e,b];exact ih
theorem KV.any (r:KV Z8 vs)(k:κ):(Z8.any fun kv=>decide (kv.1=k))=vs.any fun kv=>decide (kv.1=k):=by
 unfold KV at r
 induction r with
 |nil=>rfl
 |cons h t ih=>rw[Ku,Ku,ih,h.1]
def KV.repl (r:KV Z8 vs)(k:κ)(ry:RelV y u) :
  KV (Z8.map fun kv=>if kv.1=k then(kv.1,y)else kv) (vs.map fun kv=>if kv.1=k then(kv.1,u)else kv):=by
 unfold KV at r ⊢
 induction r with
 |nil=>exact .nil
 |@cons p q ps qs h t ih =>
  rw[qQ,qQ];refine .cons ?_ ih;obtain⟨h1,h2⟩:=h;by_cases e:p.1=k
  ·rw[if_pos e,if_pos (h1.symm.trans e)];exact⟨h1,ry⟩
  ·rw[if_neg e,if_neg (fun z=>e (h1.trans z))];exact⟨h1,h2⟩
def KV.put (r:KV Z8 vs)(k:κ)(ry:RelV y u):KV (putK Z8 k y) (stored vs k u):=by
 unfold putK stored;rw[r.any k];by_cases e:(vs.any fun kv=>decide (kv.1=k))=true
 ·rw[if_pos e,if_pos e];exact r.repl k ry
 ·rw[if_neg e,if_neg e];exact Paired.snoc r ⟨rfl,ry⟩
theorem KV.length (r:KV Z8 vs):Z8.length=vs.length:=Paired.length r
end
def QV {P:Program}{w:World}{k:Key}(r:RelV (kV k) u):(zN P w).is k u=true:=by
 cases k with
 |inl i=>obtain⟨t,e⟩:=(show ∃ t,u=Value.int i t from r);subst e;exact zj1 P w i t
 |inr x=>obtain⟨t,e⟩:=(show ∃ t,u=Value.str x t from r);subst e;exact aQ P w x t
theorem xP {P:Program}{w:World}:∀ {ks:List Key} {us:List ĸ},Vals (ks.map kV) us->ItemsAre (zN P w) ks us
 |[],_,r=>by rw[Oz]at r;cases r;exact .nil
 |k::ks,_,r=>by
  rw[qQ]at r;cases r with
  |cons h t=>exact .cons (QV h) (xP t)
abbrev KT (H:Hp):List (List Key×V)->List (List Key×Addr×ĸ)->Prop:=Paired fun p q=>p.1=q.1/\H q.2.1=some (.tup (p.1.map kV))/\RelV p.2 q.2.2
def KT.val (r:KT H Z8 xs)(k:List Key):Yc (Yz Z8 k) ((atKey xs k).map (·.2)):=by
 induction r with
 |nil=>exact True.intro
 |@cons p q ps qs h t ih =>
  obtain⟨h1,_,h2⟩:=h;by_cases e:p.1=k
  ·have e':q.1=k:=h1.symm.trans e;have b:atKey (q::qs) k=some q.2:=by simp[atKey,List.find?_cons,e']
   rw[Pz e,b];exact h2
  ·have e':¬ q.1=k:=fun z=>e (h1.trans z)
   have b:atKey (q::qs) k=atKey qs k:=by simp[atKey,List.find?_cons,e']
   rw[Qa e,b];exact ih
def KT.repl (r:KT H Z8 xs)(k:List Key)(ry:RelV y u) :
  KT H (Z8.map fun kv=>if kv.1=k then(kv.1,y)else kv) (xs.map (putAt k u)):=by
 induction r with
 |nil=>exact .nil
 |@cons p q ps qs h t ih =>
  rw[qQ,qQ];refine .cons ?_ ih;obtain⟨h1,h2,h3⟩:=h;unfold putAt;by_cases e:p.1=k
  ·rw[if_pos e,if_pos (h1.symm.trans e)];exact⟨h1,h2,ry⟩
  ·rw[if_neg e,if_neg (fun z=>e (h1.trans z))];exact⟨h1,h2,h3⟩
def KT.put (r:KT H Z8 xs)(k:List Key)(hb:H b=some (.tup (k.map kV)))(ry:RelV y u) :
  KT H (putK Z8 k y) (storedH xs k b u):=by
 have e:(Z8.any fun kv=>decide (kv.1=k))=(atKey xs k).isSome:=by rw[MK,(r.val k).isSome_eq,Qg]
 unfold putK storedH;rw[e];by_cases q:(atKey xs k).isSome=true
 ·rw[if_pos q,if_pos q];exact r.repl k ry
 ·rw[if_neg q,if_neg q];exact Paired.snoc r ⟨rfl,hb,ry⟩
def KT.keeps {H':Hp}(r:KT H Z8 xs)(ht:∀ b ys,H b=some (.tup ys)->H' b=some (.tup ys)):KT H' Z8 xs :=Paired.mapP r fun _ _ z=>⟨z.1,ht _ _ z.2.1,z.2.2⟩
section
variable {P:Program}{w:World}{H:Hp}{h:Heap}{a:Addr}
def Dg (ok:ZG P w H h)(e:Rd H a u):zX P w H h a u:=e.ok ok
def QW {Z8:List (Key×V)}(ok:ZG P w H h)(e:Rd H a (.dK Z8)):Z8.length<=sizeLine/\(a==sysModules)=false/\∃ vs,KV Z8 vs/\h.DictOf (zN P w) a vs :=show zX P w H h a (.dK Z8)from Dg ok e
def mR {Z8:List (Key×V)}(ok:ZG P w H h)(e:H a=some (.dK Z8)):Z8.length<=sizeLine/\(a==sysModules)=false/\∃ vs,KV Z8 vs/\h.DictOf (zN P w) a vs:=QW ok (.inl e)
def Sg {ks:List Key}(ok:ZG P w H h)(e:H a=some (.tup (ks.map kV))):(tupleKind (zN P w)).is h ks a:=by
 obtain⟨_,its,r,o,h1,h2,n,h3⟩:=(show zX P w H h a (.tup (ks.map kV))from ok a _ e)
 exact⟨o,its.toArray,n,h1,h2,h3,by simpa using xP r⟩
def Rp {Z8:List (List Key×V)}(ok:ZG P w H h)(e:Rd H a (.dT Z8)):Z8.length<=sizeLine/\(a==sysModules)=false /\
  ∃ xs,KT H Z8 xs/\h.DictOfH (tupleKind (zN P w)) a xs:=by
 obtain⟨z,y,xs,r,o,es,ep,h1,h2,h3,h4,h5⟩:=(show zX P w H h a (.dT Z8)from Dg ok e)
 refine⟨z,y,xs,r,o,es,ep,h1,h2,h3,h4,fun x hx=>?_,h5⟩
 have all:∀ {l:List (List Key×V)} {m:List (List Key×Addr×ĸ)},KT H l m->∀ x∈m,(tupleKind (zN P w)).is h x.1 x.2.1:=by
  intro l m q
  induction q with
  |nil=>intro x hx;exact nomatch hx
  |@cons p q ps qs hq t ih =>
   intro x hx;rcases qv.mp hx with e|hx
   ·subst e;exact Sg ok (by rw[<- hq.1];exact hq.2.1)
   ·exact ih x hx
 exact all r x hx
def o8 {Z8:List (List Key×V)}(ok:ZG P w H h)(e:H a=some (.dT Z8)):Z8.length<=sizeLine/\(a==sysModules)=false /\
  ∃ xs,KT H Z8 xs/\h.DictOfH (tupleKind (zN P w)) a xs:=Rp ok (.inl e)
end
abbrev KN (H:Hp):List (List (List Key)×V)->List (List (List Key)×Addr×ĸ)->Prop:=Paired fun p q=>p.1=q.1/\WL H q.2.1 p.1/\RelV p.2 q.2.2
def KN.val (r:KN H Z8 xs)(k:List (List Key)):Yc (Yz Z8 k) ((atKey xs k).map (·.2)):=by
 induction r with
 |nil=>exact True.intro
 |@cons p q ps qs h t ih =>
  obtain⟨h1,_,h2⟩:=h;by_cases e:p.1=k
  ·have e':q.1=k:=h1.symm.trans e;have b:atKey (q::qs) k=some q.2:=by simp[atKey,List.find?_cons,e']
   rw[Pz e,b];exact h2
  ·have e':¬ q.1=k:=fun z=>e (h1.trans z)
   have b:atKey (q::qs) k=atKey qs k:=by simp[atKey,List.find?_cons,e']
   rw[Qa e,b];exact ih
def KN.repl (r:KN H Z8 xs)(k:List (List Key))(ry:RelV y u) :
  KN H (Z8.map fun kv=>if kv.1=k then(kv.1,y)else kv) (xs.map (putAt k u)):=by
 induction r with
 |nil=>exact .nil
 |@cons p q ps qs h t ih =>
  rw[qQ,qQ];refine .cons ?_ ih;obtain⟨h1,h2,h3⟩:=h;unfold putAt;by_cases e:p.1=k
  ·rw[if_pos e,if_pos (h1.symm.trans e)];exact⟨h1,h2,ry⟩
  ·rw[if_neg e,if_neg (fun z=>e (h1.trans z))];exact⟨h1,h2,h3⟩
def KN.put (r:KN H Z8 xs)(k:List (List Key))(hb:WL H b k)(ry:RelV y u) :
  KN H (putK Z8 k y) (storedH xs k b u):=by
 have e:(Z8.any fun kv=>decide (kv.1=k))=(atKey xs k).isSome:=by rw[MK,(r.val k).isSome_eq,Qg]
 unfold putK storedH;rw[e];by_cases q:(atKey xs k).isSome=true
 ·rw[if_pos q,if_pos q];exact r.repl k ry
 ·rw[if_neg q,if_neg q];exact Paired.snoc r ⟨rfl,hb,ry⟩
theorem KN.keeps {H':Hp}(r:KN H Z8 xs)(ht:∀ b ys,H b=some (.tup ys)->H' b=some (.tup ys)):KN H' Z8 xs :=Paired.mapP r fun _ _ z=>⟨z.1,z.2.1.keeps ht,z.2.2⟩
section
variable {P:Program}{w:World}{H:Hp}{h:Heap}{a:Addr}
theorem wu (ok:ZG P w H h):∀ {ks:List (List Key)} {bs:List Addr} {us:List ĸ},Paired (fun (ks:List Key) (c:Addr)=>H c=some (.tup (ks.map kV))) ks bs->Vals (bs.map V.ref) us->My.Xj (tupleKind (zN P w)) h ks us
 |[],_,us,.nil,r=>by cases r;exact .nil
 |k::ks,_,us,.cons e t,r=>by
  cases r with
  |cons r1 r2=>cases r1;exact .cons (Sg ok e) (wu ok t r2)
def Pa {k:List (List Key)}(ok:ZG P w H h)(e:WL H a k):(My.U4 (zN P w)).is h k a:=by
 obtain⟨bs,e,r⟩:=e;obtain⟨_,its,rv,o,h1,h2,n,h3⟩:=(show zX P w H h a (.tup (bs.map V.ref))from ok a _ e)
 exact⟨o,its.toArray,n,h1,h2,h3,by simpa using wu ok r rv⟩
def QZ {Z8:List (List (List Key)×V)}{ep:Nat}(ok:ZG P w H h)(e:Rd H a (.dN Z8 ep)):Z8.length<=sizeLine/\(a==sysModules)=false /\
  ∃ xs,KN H Z8 xs/\h.DictOfH (My.U4 (zN P w)) a xs:=by
 obtain⟨z,y,xs,r,o,es,h1,h2,h3,h4,h5⟩:=(show zX P w H h a (.dN Z8 ep)from Dg ok e)
 refine⟨z,y,xs,r,o,es,ep,h1,h2,h3,h4,fun x hx=>?_,h5⟩
 have all:∀ {l:List (List (List Key)×V)} {m:List (List (List Key)×Addr×ĸ)},KN H l m->∀ x∈m,(My.U4 (zN P w)).is h x.1 x.2.1:=by
  intro l m q
  induction q with
  |nil=>intro x hx;exact nomatch hx
  |@cons p q ps qs hq t ih =>
   intro x hx;rcases qv.mp hx with e|hx
   ·subst e;exact Pa ok (by rw[<- hq.1];exact hq.2.1)
   ·exact ih x hx
 exact all r x hx
def dh {Z8:List (List (List Key)×V)}{ep:Nat}(ok:ZG P w H h)(e:H a=some (.dN Z8 ep)):Z8.length<=sizeLine/\(a==sysModules)=false /\
  ∃ xs,KN H Z8 xs/\h.DictOfH (My.U4 (zN P w)) a xs:=QZ ok (.inl e)
def nest_room {A:Around}(hu:A.units+2<cLine):(My.U4 (zN P w)).room A.in1:=hu
end
def Yr (H:Hp)(a:Addr)(y:V)(r:Option V):Prop :=
 (∃ Z8 k,Rd H a (.dK Z8)/\y=kV k/\r=Yz Z8 k)\/(∃ Z8 k b,Rd H a (.dT Z8)/\y=.ref b/\H b=some (.tup (k.map kV))/\r=Yz Z8 k) \/
 ∃ Z8 ep k b,Rd H a (.dN Z8 ep)/\y=.ref b/\WL H b k/\r=Yz Z8 k
def SM (H:Hp)(a:Addr)(y v:V)(H':Hp):Prop :=
 (∃ Z8 k,H a=some (.dK Z8)/\y=kV k/\Z8.length<sizeLine/\H'=upd H a (.dK (putK Z8 k v))) \/
 ∃ Z8 k b,H a=some (.dT Z8)/\y=.ref b/\H b=some (.tup (k.map kV))/\Z8.length<sizeLine/\H'=upd H a (.dT (putK Z8 k v))
theorem Yr.k {H:Hp}{Z8:List (Key×V)}{k:Key}(e:H a=some (.dK Z8)):Yr H a (kV k) (Yz Z8 k):=.inl ⟨Z8,k,.inl e,rfl,rfl⟩
def Yr.t {H:Hp}{Z8:List (List Key×V)}{k:List Key}(e:H a=some (.dT Z8))(eb:H b=some (.tup (k.map kV))):Yr H a (.ref b) (Yz Z8 k):=.inr (.inl ⟨Z8,k,b,.inl e,rfl,eb,rfl⟩)
def Yr.n {H:Hp}{Z8:List (List (List Key)×V)}{ep:Nat}{k:List (List Key)}(e:H a=some (.dN Z8 ep))(eb:WL H b k):Yr H a (.ref b) (Yz Z8 k):=.inr (.inr ⟨Z8,ep,k,b,.inl e,rfl,eb,rfl⟩)
theorem SM.k {H:Hp}{Z8:List (Key×V)}{k:Key}{v:V}(e:H a=some (.dK Z8))(hl:Z8.length<sizeLine):SM H a (kV k) v (upd H a (.dK (putK Z8 k v))):=.inl ⟨Z8,k,e,rfl,hl,rfl⟩
def SM.t {H:Hp}{Z8:List (List Key×V)}{k:List Key}{v:V}(e:H a=some (.dT Z8))(eb:H b=some (.tup (k.map kV)))(hl:Z8.length<sizeLine) :
  SM H a (.ref b) v (upd H a (.dT (putK Z8 k v))):=.inr ⟨Z8,k,b,e,rfl,eb,hl,rfl⟩
section
variable {X:Cx}{Z9:List (Addr×Obj)}{U:St}{H:Hp}{s:ĳ}{a:Addr}{y v:V}{u r:ĸ}{o:Option V}{A:Around}{E:ĸ->ĳ->Prop}
def Inv.big (I:Inv X Z9 U H s):sysModules<s.heap.objs.size:=by have h:mainGlobals<s.heap.objs.size:=(I.mod.glob.keeps I.bk).lt;exact Nat.lt_trans (by decide) h
def ž {Q:ĸ->ĳ->Prop}(hu:A.units+2<cLine)(I:Inv X Z9 U H s)(g:Yr H a y (some v))(ry:RelV y u)(h:∀ w' s',Inv X Z9 U H s'->RelV v w'->Q w' s') :
  wpAny (model X.prog X.w) A (getItem (.ref a) u) Q E s:=by
 rcases g with⟨Z8,k,e,ey,l⟩|⟨Z8,k,b,e,ey,eb,l⟩|⟨Z8,ep,k,b,e,ey,eb,l⟩
 ·subst ey;obtain⟨z,hd,vs,rel,dd⟩:=QW I.hok e;obtain⟨w',hw,rw'⟩:=Yc.some_of (v:=v) (o:=valueAt vs k) (by rw[l];exact rel.val k);exact wpAny_getItem_of (QV ry) dd.mapOf hw (h w' _ (I.tok _) rw')
 ·subst ey;cases(show u=Value.ref b from ry);obtain⟨z,hd,xs,rel,dd⟩:=Rp I.hok e;obtain⟨w',hw,rw'⟩:=Yc.some_of (v:=v) (o:=(atKey xs k).map (·.2)) (by rw[l];exact rel.val k);obtain⟨p,hp,hp2⟩:=qV.mp hw;refine wpAny_getItem_heap (tupleKind_room_in1 (U3 hu)) (Sg I.hok eb) dd hp ?_;rw[hp2];exact h w' _ (I.tok _) rw'
 ·subst ey;cases(show u=Value.ref b from ry);obtain⟨z,hd,xs,rel,dd⟩:=QZ I.hok e;obtain⟨w',hw,rw'⟩:=Yc.some_of (v:=v) (o:=(atKey xs k).map (·.2)) (by rw[l];exact rel.val k);obtain⟨p,hp,hp2⟩:=qV.mp hw;refine wpAny_getItem_heap (nest_room hu) (Pa I.hok eb) dd hp ?_;rw[hp2];exact h w' _ (I.tok _) rw'
def zzp {Q:ĸ->ĳ->Prop}(hu:A.units+2<cLine)(I:Inv X Z9 U H s)(g:Yr H a y o)(ry:RelV y u)(h:∀ s',Inv X Z9 U H s'->Q (.bool o.isSome) s') :
  wpAny (model X.prog X.w) A (compareOp .In u (.ref a)) Q E s:=by
 rcases g with⟨Z8,k,e,ey,l⟩|⟨Z8,k,b,e,ey,eb,l⟩|⟨Z8,ep,k,b,e,ey,eb,l⟩
 ·subst ey;obtain⟨z,hd,vs,rel,dd⟩:=QW I.hok e;refine wpAny_in_of (QV ry) hd dd.mapOf ?_;rw[<- (rel.val k).isSome_eq,<- l];exact h _ (I.tok _)
 ·subst ey;cases(show u=Value.ref b from ry);obtain⟨z,hd,xs,rel,dd⟩:=Rp I.hok e;refine wpAny_in_heap (tupleKind_room_in1 (U3 hu)) (Sg I.hok eb) hd dd ?_;have q:=(rel.val k).isSome_eq;rw[Qg]at q;rw[<- q,<- l];exact h _ (I.tok _)
 ·subst ey;cases(show u=Value.ref b from ry);obtain⟨z,hd,xs,rel,dd⟩:=QZ I.hok e;refine wpAny_in_heap (nest_room hu) (Pa I.hok eb) hd dd ?_;have q:=(rel.val k).isSome_eq;rw[Qg]at q;rw[<- q,<- l];exact h _ (I.tok _)
def zsD {Q:ĸ->ĳ->Prop}(hu:A.units+2<cLine)(I:Inv X Z9 U H s)(g:Yr H a y o)(ry:RelV y u)(h:∀ s',Inv X Z9 U H s'->Q (.bool (!o.isSome)) s') :
  wpAny (model X.prog X.w) A (compareOp .NotIn u (.ref a)) Q E s:=by
 rcases g with⟨Z8,k,e,ey,l⟩|⟨Z8,k,b,e,ey,eb,l⟩|⟨Z8,ep,k,b,e,ey,eb,l⟩
 ·subst ey;obtain⟨z,hd,vs,rel,dd⟩:=QW I.hok e;refine wpAny_notIn_of (QV ry) hd dd.mapOf ?_;rw[<- (rel.val k).isSome_eq,<- l];exact h _ (I.tok _)
 ·subst ey;cases(show u=Value.ref b from ry);obtain⟨z,hd,xs,rel,dd⟩:=Rp I.hok e;refine wpAny_notIn_heap (tupleKind_room_in1 (U3 hu)) (Sg I.hok eb) hd dd ?_;have q:=(rel.val k).isSome_eq;rw[Qg]at q;rw[<- q,<- l];exact h _ (I.tok _)
 ·subst ey;cases(show u=Value.ref b from ry);obtain⟨z,hd,xs,rel,dd⟩:=QZ I.hok e;refine wpAny_notIn_heap (nest_room hu) (Pa I.hok eb) hd dd ?_;have q:=(rel.val k).isSome_eq;rw[Qg]at q;rw[<- q,<- l];exact h _ (I.tok _)
def M5 {t':Nat}{ob:HO}(I:Inv X Z9 U H s)(mu:Mw (H a))(hs:Heap.SameBut a s.heap h')(he:∃ q,h'.get? a=some q)(new:zX X.prog X.w (upd H a ob) h' a ob) :
  Inv X Z9 U (upd H a ob) { s with heap:=h',toks:=t' } :=
 I.write (x:=a) (e:=a) mu (.inl rfl) (fun b q hb z=>(hs.2 b hb).trans z) he new
def wR {P:Program}{w:World}{H':Hp}{h':Heap}{Z8:List (Key×V)}(z:Z8.length<=sizeLine)(hd:(a==sysModules)=false)(rel:KV Z8 vs)(dd:h'.DictOf (zN P w) a vs) :
  zX P w H' h' a (.dK Z8):=⟨z,hd,vs,rel,dd⟩
def Ċ {Q:Unit->ĳ->Prop}(hu:A.units+2<cLine)(I:Inv X Z9 U H s)(g:SM H a y v H')(ry:RelV y u)(rv:RelV v r)(h:∀ s',Inv X Z9 U H' s'->Q () s') :
  wpAny (model X.prog X.w) A (setItem (.ref a) u r) Q E s:=by
 rcases g with⟨Z8,k,e,ey,l,eH⟩|⟨Z8,k,b,e,ey,eb,l,eH⟩
 ·subst ey eH;obtain⟨z,hd,vs,rel,dd⟩:=mR I.hok e;have hz:vs.length<=sizeLine:=by rw[<- rel.length];exact z
  have hl:(putK Z8 k v).length<=sizeLine:=by have:=Jp Z8 k v;lia
  refine wpAny_setItem_pairs (hsz:=hz) (QV ry) dd fun h' dd' hs=>h _ ?_
  have he:∃ q,h'.get? a=some q:=let ⟨q,_,_,hq,_⟩:=dd';⟨q,hq⟩;exact M5 I (by rw[e];exact True.intro) hs he (wR hl hd (rel.put k rv) dd')
 ·subst ey eH;cases(show u=Value.ref b from ry);obtain⟨z,hd,xs,rel,dd⟩:=o8 I.hok e;have hz:xs.length<=sizeLine:=by rw[<- Paired.length rel];exact z
  have hl:(putK Z8 k v).length<=sizeLine:=by have:=Jp Z8 k v;lia
  refine wpAny_setItem_heap (hsz:=hz) (tupleKind_room_in1 (U3 hu)) (Sg I.hok eb) dd fun h' dd' hs=>h _ ?_
  obtain⟨q,es,ep,hq,h2,h3,h4,_,h5⟩:=dd';refine M5 I (by rw[e];exact True.intro) hs ⟨q,hq⟩ ⟨hl,hd,_,(rel.put k eb rv).keeps fun c ys ec=>?_,q,es,ep,hq,h2,h3,h4,h5⟩;rw[zA (VD ec e (fun z=>nomatch z))];exact ec
end
def JL (i:Expr):Prop:=∀ ov iv,subscripted i false ov iv=operate [ov,iv] (getItem ov iv)
def jE {prog:Program}{w:World}{A:Around}{E:ĸ->ĳ->Prop}{s:ĳ}{env:Env}{value:Expr}{pos:Pos}{T id:String}{Q:ĸ->ĳ->Prop}(hl:typeLookup (.type T) "__getitem__"=pure (some (.builtin id)))(hs:JL slice)(h:wpAny (model prog w) A (eval value env) (fun o s₁=>wpAny (model prog w) A (eval slice env) (fun i s₂=>s₂.TypeIs o T/\wpAny (model prog w) A (getItem o i) Q E s₂) E s₁) E s) :
  wpAny (model prog w) A (eval (.Subscript value slice pos) env) Q E s:=by
 refine Subscript_ (wpAny_mono h (fun o s₁ h₁=>wpAny_mono h₁ (fun i s₂ h₂=>?_) fun _ _ x=>x) fun _ _ x=>x);obtain⟨hT,h₂⟩:=h₂;unfold subscriptTail;refine wpAny_bind ?_;rw[getitemInPython_of_ne hT.not_modules];refine wpAny_bind (wpAny_specialOf hT hl ?_)
 have fin:wpAny (model prog w) A (subscripted slice false o i) (fun r s₃=>wpAny (model prog w) A (letTemporaryGo value o r >>= fun _=>pure r) Q E s₃) E s₂:=by rw[hs o i];exact wpAny_operating (wpAny_mono h₂ (fun r s₃ h₃=>wpAny_bind (wpAny_letTemporaryGo (wpAny_pure h₃))) fun _ _ x=>x)
 first
  |exact wpAny_pure (wpAny_bind fin)
  |exact wpAny_bind (wpAny_pure (wpAny_bind fin))
  |exact wpAny_bind fin
def zj7 (I:Inv X Z9 U H s)(g:Yr H a y o):s.TypeIs (.ref a) "dict":=by
 rcases g with⟨Z8,k,e,_,_⟩|⟨Z8,k,b,e,_,_,_⟩|⟨Z8,ep,k,b,e,_,_,_⟩
 ·obtain⟨_,_,vs,_,dd⟩:=QW I.hok e;exact dd.typeIs
 ·obtain⟨_,_,xs,_,dd⟩:=Rp I.hok e;exact dd.typeIs
 ·obtain⟨_,_,xs,_,dd⟩:=QZ I.hok e;exact dd.typeIs
def bQ (td ty:TE):TE:=fun U H Q=>td U H fun x H1=>ty U H1 fun y H2=>∃ a v,x=.ref a/\Yr H2 a y (some v)/\Q v H2
def Θ (ty td:TE):TE:=fun U H Q=>ty U H fun y H1=>td U H1 fun x H2=>∃ a o,x=.ref a/\Yr H2 a y o/\Q (.bl o.isSome) H2
def zrg (ty td:TE):TE:=fun U H Q=>ty U H fun y H1=>td U H1 fun x H2=>∃ a o,x=.ref a/\Yr H2 a y o/\Q (.bl (!o.isSome)) H2
def eE (td ty tv:TE):TS:=fun D U H=>tv U H fun v H1=>td U H1 fun x H2=>ty U H2 fun y H3=>∃ a H4,x=.ref a/\SM H3 a y v H4/\D.nx U H4
section
variable {X:Cx}{o i e value:Expr}{pos pos' tpos:Pos}{td ty tv:TE}
def eG (hu:X.A.units+2<cLine)(ho:PE X o td)(hi:PE X i ty)(hs:JL i):PE X (.Subscript o i pos) (bQ td ty):=by intro Z9 s U H Q I h;refine jE PySem.F.slot_dict_getitem.lookup hs (Z2 (ho Z9 s U H _ I h) fun u s1 ⟨x,H1,I1,rx,q1⟩=>Z2 (hi Z9 s1 U H1 _ I1 q1) fun iv s2 ⟨y,H2,I2,ry,a,v,ex,g,q2⟩=>?_);subst ex;obtain rfl:u=Value.ref a:=rx;exact⟨zj7 I2 g,ž hu I2 g ry fun w' s3 I3 rw'=>⟨v,H2,I3,rw',q2⟩⟩
def lZ (hu:X.A.units+2<cLine)(hi:PE X i ty)(ho:PE X o td):PC X .In i o (Θ ty td):=by
 intro Z9 s U H Q I h;refine Z2 (hi Z9 s U H _ I h) fun iv s1 ⟨y,H1,I1,ry,q1⟩=>Z2 (ho Z9 s1 U H1 _ I1 q1) fun u s2 ⟨x,H2,I2,rx,a,ov,ex,g,q2⟩=>?_
 subst ex;obtain rfl:u=Value.ref a:=rx;exact zzp hu I2 g ry fun s3 I3=>⟨.bl ov.isSome,H2,I3,rfl,q2⟩
def oR (hu:X.A.units+2<cLine)(hi:PE X i ty)(ho:PE X o td):PC X .NotIn i o (zrg ty td):=by
 intro Z9 s U H Q I h;refine Z2 (hi Z9 s U H _ I h) fun iv s1 ⟨y,H1,I1,ry,q1⟩=>Z2 (ho Z9 s1 U H1 _ I1 q1) fun u s2 ⟨x,H2,I2,rx,a,ov,ex,g,q2⟩=>?_
 subst ex;obtain rfl:u=Value.ref a:=rx;exact zsD hu I2 g ry fun s3 I3=>⟨.bl (!ov.isSome),H2,I3,rfl,q2⟩
def zqN (hu:X.A.units+2<cLine)(ho:PE X o td)(hi:PE X i ty)(hv:PE X value tv)(hs:swapsWith value (some (.Subscript o i pos')) pos.line X.env=pure false) :
  PS X (.Assign [.Subscript o i pos'] value pos) (eE td ty tv):=by
 intro Z9 s U H D I h;refine wpAny_Assign_Subscript (Z2 (hv Z9 s U H _ I h) fun r s1 ⟨v,H1,I1,rv,q1⟩=>Z2 (ho Z9 s1 U H1 _ I1 q1) fun u s2 ⟨x,H2,I2,rx,q2⟩=>Z2 (hi Z9 s2 U H2 _ I2 q2) fun iv s3 ⟨y,H3,I3,ry,a,H4,ex,g,q3⟩=>?_) hs;subst ex;obtain rfl:u=Value.ref a:=rx;exact Ċ hu I3 g ry rv fun s4 I4=>⟨U,H4,I4,q3⟩
end
def mG {P:Program}{w:World}{H:Hp}(h:Heap)(hb:sysModules<h.objs.size):zX P w H (h.push { cls:=.type "dict",data:=.dict #[] }) h.objs.size (.dK []) :=⟨qH _,beq_eq_false_iff_ne.mpr (Ne.symm (qZ hb)),[],.nil,Heap.DictOf.new h⟩
def wA {P:Program}{w:World}{H:Hp}(h:Heap)(hb:sysModules<h.objs.size):zX P w H (h.push { cls:=.type "dict",data:=.dict #[] }) h.objs.size (.dT []) :=⟨qH _,beq_eq_false_iff_ne.mpr (Ne.symm (qZ hb)),[],.nil,_,#[],0,qo _ rfl,⟨rfl,rfl,rfl⟩,rfl,rfl,List.nodup_nil⟩
def jC:TE:=fun _ H Q=>∀ p,H p=none->Q (.ref p) (upd H p (.dK []))
def zvY:TE:=fun _ H Q=>∀ p,H p=none->Q (.ref p) (upd H p (.dT []))
section
variable {X:Cx}{pos:Pos}
def zoi:PE X (.Dict [] [] pos) jC:=fun Z9 s U H Q I h =>wpAny_Dict_empty ⟨.ref s.heap.objs.size,_,I.laid (a:=s.heap.objs.size) (o:=.dK []) (t':=s.toks) (fun _ _ q=>qc _ q) (qh _) (mG s.heap I.big),rfl,h _ (I.hok.fresh (qh _))⟩
def zow:PE X (.Dict [] [] pos) zvY:=fun Z9 s U H Q I h =>wpAny_Dict_empty ⟨.ref s.heap.objs.size,_,I.laid (a:=s.heap.objs.size) (o:=.dT []) (t':=s.toks) (fun _ _ q=>qc _ q) (qh _) (wA s.heap I.big),rfl,h _ (I.hok.fresh (qh _))⟩
end
def Cu:List (TE×TE)->St->Hp->(List (V×V)->Hp->Prop)->Prop
 |[],_,H,Q=>Q [] H
 |(tk,tv)::r,U,H,Q=>tk U H fun x H1=>tv U H1 fun y H2=>Cu r U H2 fun ps H3=>Q ((x,y)::ps) H3
abbrev VV:List (V×V)->List (ĸ×ĸ)->Prop:=Paired fun p q=>RelV p.1 q.1/\RelV p.2 q.2
def J8 (X:Cx)(pos:Pos)(keys:List (Option Expr))(values:List Expr)(trs:List (TE×TE)):Prop :=
 ∀ (Z9:List (Addr×Obj)) (s:ĳ) (U:St) (H:Hp) (Q:List (V×V)->Hp->Prop),Inv X Z9 U H s->Cu trs U H Q ->
  wpAny (model X.prog X.w) X.A (evalPairs (pairTrees keys values X.env pos)) (fun vs s'=>∃ ps H',Inv X Z9 U H' s'/\VV ps vs/\Q ps H') X.xe s
def eZ {X:Cx}{pos:Pos}:J8 X pos [] [] []:=fun Z9 s U H Q I h=>pairTrees_nil_walk ⟨[],H,I,.nil,h⟩
def zpr {k:Expr}{tk:TE}(hk:PE X k tk)(hv:PE X v tv)(hr:J8 X pos ks vs trs) :
  J8 X pos (some k::ks) (v::vs) ((tk,tv)::trs):=fun Z9 s U H Q I h =>
 pairTrees_cons_walk (Z2 (hk Z9 s U H _ I h) fun u s1 ⟨x,H1,I1,rx,q1⟩=>Z2 (hv Z9 s1 U H1 _ I1 q1) fun w2 s2 ⟨y,H2,I2,ry,q2⟩ =>Z2 (hr Z9 s2 U H2 _ I2 q2) fun ws s3 ⟨ps,H3,I3,rel,q3⟩=>⟨(x,y)::ps,H3,I3,.cons ⟨rx,ry⟩ rel,q3⟩)
def Le (Z8 more:List (Key×V)):List (Key×V):=more.foldl (fun acc kv=>putK acc kv.1 kv.2) Z8
def KV.merge:∀ {more:List (Key×V)} {rs:List (Key×ĸ)} {Z8:List (Key×V)} {vs:List (Key×ĸ)},KV more rs->KV Z8 vs->KV (Le Z8 more) (merged vs rs):=by
 intro more rs Z8 vs r;unfold KV at r
 induction r generalizing Z8 vs with
 |nil=>intro q;exact q
 |@cons p q ps qs h t ih =>
  intro r0
  have e:KV (putK Z8 p.1 p.2) (stored vs q.1 q.2):=by have:=r0.put p.1 h.2;rw[<- h.1];exact this
  exact ih e
theorem wM:∀ (more Z8:List (Key×V)),(Le Z8 more).length<=Z8.length+more.length
 |[],Z8=>by show Z8.length<=Z8.length+0;lia
 |p::r,Z8=>by have h1:=wM r (putK Z8 p.1 p.2);have h2:=Jp Z8 p.1 p.2;show(Le (putK Z8 p.1 p.2) r).length<=_;rw[qX];lia
theorem vp {P:Program}{w:World}:∀ {Z8:List (Key×V)} {ws:List (ĸ×ĸ)},VV (Z8.map fun kv=>(kV kv.1,kv.2)) ws->∃ rs,Carries (zN P w) ws rs/\KV Z8 rs
 |[],_,r=>by rw[Oz]at r;cases r;exact⟨[],True.intro,.nil⟩
 |p::Z8,_,r=>by
  rw[qQ]at r;cases r with
  |@cons a b as bs h t =>obtain⟨rs,c,q⟩:=vp (P:=P) (w:=w) t;obtain⟨b1,b2⟩:=b;exact⟨(p.1,b2)::rs,⟨QV h.1,rfl,c⟩,.cons ⟨rfl,h.2⟩ q⟩
def zwu (trs:List (TE×TE)):TE:=fun U H Q=>∀ p,H p=none->Cu trs U (upd H p (.dK [])) fun ps H2=>H2 p=some (.dK [])/\∃ Z8:List (Key×V),ps=Z8.map (fun kv=>(kV kv.1,kv.2))/\Z8.length<=15/\Q (.ref p) (upd H2 p (.dK (Le [] Z8)))
def aR (h:J8 X pos keys values trs)(hall:keys.all (·.isSome)=true)(hl:keys.length=values.length)(h0:keys≠[])(h15:keys.length<=15):PE X (.Dict keys values pos) (zwu trs):=by
 intro Z9 s U H Q I q;have hn:=I.hok.fresh (qh s.heap.objs.size);have I1:=I.laid (a:=s.heap.objs.size) (o:=.dK []) (h':=s.heap.push { cls:=.type "dict",data:=.dict #[] }) (t':=s.toks) (fun _ _ q=>qc _ q) (qh _) (mG s.heap I.big);refine wpAny_Dict_walk (knd:=zN X.prog X.w) hall hl h0 h15 (Z2 (h Z9 _ U _ _ I1 (q _ hn)) fun ws s2 ⟨ps,H2,I2,rel,e,Z8,ep,lk,q2⟩=>?_);subst ep;obtain⟨rs,c,rk⟩:=vp (P:=X.prog) (w:=X.w) rel;obtain⟨z,hd,vs0,r0,dd⟩:=mR I2.hok e;cases r0;refine⟨rs,c,dd,fun h' dd' hs=>⟨.ref s.heap.objs.size,_,?_,rfl,q2⟩⟩
 have hz:(Le [] Z8).length<=sizeLine:=by have h1:=wM Z8 [];rw[O1]at h1;rw[sizeLine_eq];lia
 have he:∃ q,h'.get? s.heap.objs.size=some q:=by obtain⟨q,_,_,hq,_⟩:=dd';exact⟨q,hq⟩
 exact M5 I2 (by rw[e];exact True.intro) hs he (wR hz hd (rk.merge .nil) dd')
structure M1 (X:Cx)(o:Expr)(m:Str)(apos:Pos)(e:Expr)(cpos:Pos):Prop where
 base:attributeBase o m X.env (eval o X.env)=eval o X.env
 few:((backTo cpos (starEach [e] X.env)).all (fun x=>!x.1)&&(backToKw cpos (keywordEach [] X.env)).all (fun x=>x.1.isSome)
 &&decide (([e]:List Expr).length+([]:List Keyword).length+(if([]:List Keyword).isEmpty then 0 else 1)<30))=true
 line:(apos.endLine==cpos.line)=true
 trees:backTo cpos (starEach [e] X.env)=[(false,eval e X.env)]
structure M2 (X:Cx)(o:Expr)(m:Str)(apos:Pos)(e f:Expr)(cpos:Pos):Prop where
 base:attributeBase o m X.env (eval o X.env)=eval o X.env
 few:((backTo cpos (starEach [e,f] X.env)).all (fun x=>!x.1)&&(backToKw cpos (keywordEach [] X.env)).all (fun x=>x.1.isSome)
 &&decide (([e,f]:List Expr).length+([]:List Keyword).length+(if([]:List Keyword).isEmpty then 0 else 1)<30))=true
 line:(apos.endLine==cpos.line)=true
 trees:backTo cpos (starEach [e,f] X.env)=[(false,eval e X.env),(false,eval f X.env)]
def Gv (H:Hp)(a:Addr):Prop:=(∃ Z8,Rd H a (.dK Z8))\/(∃ Z8,Rd H a (.dT Z8))\/∃ Z8 ep,Rd H a (.dN Z8 ep)
def u6 (I:Inv X Z9 U H s)(d:Gv H a) :
  s.TypeIs (.ref a) "dict"/\(∀ b,Value.ref a=.ref b->∃ ob,s.heap.get? b=some ob/\ob.dict=none)/\(a==sysModules)=false:=by
 rcases d with⟨Z8,e⟩|⟨Z8,e⟩|⟨Z8,ep,e⟩
 ·obtain⟨_,hd,vs,_,dd⟩:=QW I.hok e;refine⟨dd.typeIs,fun b q=>?_,hd⟩;cases q;obtain⟨ob,_,_,h1,h2,_⟩:=dd;exact⟨ob,h1,h2.2.1⟩
 ·obtain⟨_,hd,xs,_,dd⟩:=Rp I.hok e;refine⟨dd.typeIs,fun b q=>?_,hd⟩;cases q;obtain⟨ob,_,_,h1,h2,_⟩:=dd;exact⟨ob,h1,h2.2.1⟩
 ·obtain⟨_,hd,xs,_,dd⟩:=QZ I.hok e;refine⟨dd.typeIs,fun b q=>?_,hd⟩;cases q;obtain⟨ob,_,_,h1,h2,_⟩:=dd;exact⟨ob,h1,h2.2.1⟩
section
variable {X:Cx}{Z9:List (Addr×Obj)}{U:St}{H:Hp}{s:ĳ}{a:Addr}{y d:V}{u r:ĸ}{o:Option V}{A:Around}{E:ĸ->ĳ->Prop}
def cR {Q:ĸ->ĳ->Prop}(hu:A.units+2<cLine)(I:Inv X Z9 U H s)(g:Yr H a y o)(ry:RelV y u)(rd:RelV d r)(h:∀ w' s',Inv X Z9 U H s'->RelV (o.getD d) w'->Q w' s') :
  wpAny (model X.prog X.w) A (call (.builtin "dict.get") [.ref a,u,r]) Q E s:=by
 rcases g with⟨Z8,k,e,ey,l⟩|⟨Z8,k,b,e,ey,eb,l⟩|⟨Z8,ep,k,b,e,ey,eb,l⟩
 ·subst ey;obtain⟨z,hd,vs,rel,dd⟩:=QW I.hok e;refine call_meetsIn PySem.F.slot_dict_get dd.typeIs PySem.F.entry_dict_get (PySem.F.args_dict_get_3 _ _ _) (meets_dict_get_default (zN X.prog X.w) a (QV ry) hd r) ⟨_,dd.mapOf,h _ _ (I.tok _) ?_⟩;rw[l];exact(rel.val k).getD rd
 ·subst ey;cases(show u=Value.ref b from ry);obtain⟨z,hd,xs,rel,dd⟩:=Rp I.hok e;refine call_meetsIn PySem.F.slot_dict_get dd.typeIs PySem.F.entry_dict_get (PySem.F.args_dict_get_3 _ _ _) (meetsH_dict_get_default (tupleKind (zN X.prog X.w)) a b hd r) ⟨tupleKind_room_in1 (U3 hu),k,xs,Sg I.hok eb,dd,h _ _ (I.tok _) ?_⟩;rw[l];exact(rel.val k).getD rd
 ·subst ey;cases(show u=Value.ref b from ry);obtain⟨z,hd,xs,rel,dd⟩:=QZ I.hok e;refine call_meetsIn PySem.F.slot_dict_get dd.typeIs PySem.F.entry_dict_get (PySem.F.args_dict_get_3 _ _ _) (meetsH_dict_get_default (My.U4 (zN X.prog X.w)) a b hd r) ⟨nest_room hu,k,xs,Pa I.hok eb,dd,h _ _ (I.tok _) ?_⟩;rw[l];exact(rel.val k).getD rd
end
def zs5 (td ty tx:TE):TE:=fun U H Q=>td U H fun x H1=>∃ a,x=.ref a/\Gv H1 a/\ty U H1 fun y H2=>tx U H2 fun z H3=>∃ o,Yr H3 a y o/\Q (o.getD z) H3
section
variable {X:Cx}{o e f:Expr}{apos cpos:Pos}{td ty tx:TE}
def ã (hu:X.A.units+2<cLine)(ho:PE X o td)(he:PE X e ty)(hf:PE X f tx)(m:M2 X o "get" apos e f cpos):PE X (.Call (.Attribute o "get" apos) [e,f] [] cpos) (zs5 td ty tx):=by
 intro Z9 s U H Q I h;refine wpAny_Call_method m.base m.few m.line PySem.F.plainAttrs_dict PySem.F.slot_dict_get PySem.F.type_dict_get (Z2 (ho Z9 s U H _ I h) fun u s1 ⟨x,H1,I1,rx,a,ex,d,q1⟩=>?_);subst ex;obtain rfl:u=Value.ref a:=rx;obtain⟨t1,t2,_⟩:=u6 I1 d;refine⟨t1,t2,?_⟩;rw[m.trees]
 refine Calls.callWith_builtin rfl (Calls.evalArgs_plain (Calls.spliced_cons (Z2 (he Z9 s1 U H1 _ I1 q1) fun iv s2 ⟨y,H2,I2,ry,q2⟩ =>Calls.spliced_cons (Z2 (hf Z9 s2 U H2 _ I2 q2) fun fv s3 ⟨z,H3,I3,rz,ov,g,q3⟩=>Calls.spliced_nil ?_))))
 exact cR hu I3 g ry rz fun w' s4 I4 rw'=>⟨_,H3,I4,rw',q3⟩
end
def ź {P:Program}{w:World}{H:Hp}(h:Heap)(hb:sysModules<h.objs.size):zX P w H (h.push { cls:=.type "dict",data:=.dict #[] }) h.objs.size (.dN [] 0) :=⟨qH _,beq_eq_false_iff_ne.mpr (Ne.symm (qZ hb)),[],.nil,_,#[],qo _ rfl,⟨rfl,rfl,rfl⟩,rfl,rfl,List.nodup_nil⟩
def Ă:TE:=fun _ H Q=>∀ p,H p=none->Q (.ref p) (upd H p (.dN [] 0))
section
variable {X:Cx}{pos:Pos}
def j9:PE X (.Dict [] [] pos) Ă:=fun _ s _ _ _ I h =>wpAny_Dict_empty ⟨.ref s.heap.objs.size,_,I.laid (a:=s.heap.objs.size) (o:=.dN [] 0) (t':=s.toks) (fun _ _ q=>qc _ q) (qh _) (ź s.heap I.big),rfl,h _ (I.hok.fresh (qh _))⟩
def ť {K:Type}[DecidableEq K]{prog:Program}{w:World}{knd:HeapKind prog w K}{A:Around}{E:ĸ->ĳ->Prop}{s:ĳ}{env:Env}{k v:Expr}{Q:ĸ->ĳ->Prop}(hu:knd.room A)
  (h:wpAny (model prog w) A (eval k env) (fun kv s1=>wpAny (model prog w) A (eval v env) (fun vv s2=>∃ b x,kv=.ref b/\knd.is s2.heap x b/\s2.heap.DictOfH knd s.heap.objs.size [] /\
   ∀ h' t,h'.DictOfH knd s.heap.objs.size [(x,b,vv)]->Heap.SameBut s.heap.objs.size s2.heap h'->Q (.ref s.heap.objs.size) { s2 with heap:=h',toks:=t }) E s1) E { s with heap:=s.heap.push { cls:=.type "dict",data:=.dict #[] } }) :
  wpAny (model prog w) A (eval (.Dict [some k] [v] pos) env) Q E s:=by
 have n:(pairTrees [some k] [v] env pos).length=1:=pairTrees_length _ _ env pos rfl rfl;rw[arm_eval_Dict,zip_pairTrees _ _ env pos rfl rfl,dictDisplay_pairs _ (fun e=>by rw[e]at n;cases n) (by lia)];refine wpAny_bind (wpAny_standAt (wpAny_bind ?_));unfold subDict;refine wpAny_bind (wpAny_alloc (wpAny_bind (wpAny_holding ?_)));rw[if_pos (by lia)];refine wpAny_bind (pairTrees_cons_walk (wpAny_mono h (fun kv s1 h1=>wpAny_mono h1 (fun vv s2 h2=>pairTrees_nil_walk (wpAny_holding ?_)) fun _ _ e=>e) fun _ _ e=>e));obtain⟨b,x,rfl,hx,hd,q⟩:=h2;rw[Kc];refine wpAny_bind (wpAny_bind ?_);show wpAny _ _ (dictSet s.heap.objs.size (.ref b) vv >>= _) _ _ _;refine wpAny_bind (wpAny_dictSet_heap hu hx hd fun h' hd' sb=>wpAny_pure ?_);show wpAny _ _ (forIn [] _ _) _ _ _;rw[KZ];exact wpAny_pure (wpAny_pure (wpAny_pure (wpAny_pure (q h' _ hd' sb))))
def jN (tk tv:TE):TE:=fun U H Q=>∀ p,H p=none->tk U (upd H p (.dT [])) fun x H1=>tv U H1 fun y H2=>∃ b ks,x=.ref b/\H2 b=some (.tup (ks.map kV))/\H2 p=some (.dT [])/\Q (.ref p) (upd H2 p (.dT [(ks,y)]))
def ų {tk:TE}(hr:X.A.units+2<cLine)(hk:PE X a tk)(hv:PE X b tv):PE X (.Dict [some a] [b] pos) (jN tk tv):=by intro Z9 s U H Q I q;have I1:=I.laid (a:=s.heap.objs.size) (o:=.dT []) (h':=s.heap.push { cls:=.type "dict",data:=.dict #[] }) (t':=s.toks) (fun _ _ q=>qc _ q) (qh _) (wA s.heap I.big);refine ť (knd:=tupleKind (zN X.prog X.w)) (show X.A.units<cLine by lia) (Z2 (hk Z9 _ U _ _ I1 (q _ (I.hok.fresh (qh s.heap.objs.size)))) fun u s1 ⟨x,H1,I2,rx,q1⟩=>Z2 (hv Z9 s1 U H1 _ I2 q1) fun u2 s2 ⟨y,H2,I3,ry,c,ks,ex,hc,hp,q2⟩=>?_);subst ex;cases(show u=Value.ref c from rx);obtain⟨z,hd,xs,rel,dd⟩:=o8 I3.hok hp;cases rel;refine⟨c,ks,rfl,Sg I3.hok hc,dd,fun h' t dd' hs=>⟨.ref s.heap.objs.size,_,?_,rfl,q2⟩⟩;obtain⟨o,es,ep,ho,h2,h3,h4,_,h5⟩:=dd';refine M5 I3 (by rw[hp];exact True.intro) hs ⟨o,ho⟩ ⟨by rw[sizeLine_eq];exact qG rfl,hd,[(ks,c,u2)],.cons ⟨rfl,?_,ry⟩ .nil,o,es,ep,ho,h2,h3,h4,h5⟩;rw[zA (VD hc hp (fun z=>nomatch z))];exact hc
end
section
variable {prog:Program}{w:World}{A:Around}{E:ĸ->ĳ->Prop}{s:ĳ}{it d:Addr}{i ep:Nat}{es:Array DictEntry}{ok ov:ĸ}
def SJ (h:Heap)(d:Addr)(es:Array DictEntry)(ep:Nat):Prop:=∃ o,h.get? d=some o/\o.cls=.type "dict"/\o.data=.dict es ep
def SJ.at {h':Heap}(x:SJ h d es ep)(e:∀ o,h.get? d=some o->h'.get? d=some o):SJ h' d es ep:=by obtain⟨o,a,b⟩:=x;exact⟨o,e _ a,b⟩
def zj5 (d:Addr)(hd:(d==sysModules)=false):MeetsIn prog w (Builtin.«dict.items» ⟨[.ref d],[]⟩) (fun _ R s=>s.TypeIs (.ref d) "dict"/\R (.ok (.ret (.ref s.heap.objs.size))) { s with heap:=s.heap.push { cls:=.type "dict_items",data:=.fields #[.ref d] } }) :=
 .of_wp fun A R s zq11=>by obtain⟨t,h⟩:=zq11;unfold Builtin.«dict.items» Builtin.Dict.noArgs;refine wpAny_bind (wpAny_bind (wpAny_notOrdered_dict t (wpAny_pure ?_)));show wpAny _ _ (Builtin.Dict.showsAll d >>= _) _ _ s;unfold Builtin.Dict.showsAll;rw[hd,if_neg qr];exact wpAny_bind (wpAny_pure (wpAny_bind (wpAny_newObj_type (wpAny_pure ⟨_,rfl,h⟩))))
def FZ:Builtin.Dict_items.ownsTuple "dict_itemiterator"=true:=by decide
def zlN {v:Addr}{Q:ĸ->ĳ->Prop}(hv:s.heap.IsItemsView v d)(hm:SJ s.heap d es ep)
  (hQ:Q (.ref s.heap.objs.size) { s with heap:=s.heap.push { cls:=.type "dict_itemiterator",data:=.fields #[.none,.bool false,.ref d,.int 0 0,.int es.size 0,.int ep 0,.none,.none] } }):wpAny (model prog w) A (pyIter (.ref v)) Q E s:=by
 obtain⟨_,v1,_,v3⟩:=id hv;obtain⟨o,m1,_,m2⟩:=hm;refine wpAny_pyIter_slot hv.typeIs F.slot_dict_items_iter (wpAny_call_entry F.slot_dict_items_iter hv.typeIs F.entry_dict_items_iter ?_ (F.args_dict_items_iter_1 _));unfold Builtin.«dict_items.__iter__» Builtin.Dict_items.dictOf Builtin.Dict_items.newIterator;refine wpAny_bind (wpAny_pure (wpAny_bind (wpAny_bind (wpAny_field v1 v3 (x:=.ref d) rfl (wpAny_pure ?_)))));refine wpAny_bind (wpAny_bind (wpAny_dictEntries m1 m2 (wpAny_bind (wpAny_dictEpoch m1 m2 ?_))));simp only[FZ,if_true];refine wpAny_newObj_type (wpAny_pure ⟨_,rfl,"dict_itemiterator",_,⟨_,qo _ rfl,rfl⟩,F.slot_dict_itemiterator_next.lookup,?_⟩) (by simp only[sizeOk,Builtin.Dict_items.ownedTupleFields,ql,qf,qX,O1,sizeLine_eq];lia);simpa [rawInt,Builtin.Dict_items.ownedTupleFields]using hQ
def zlu {e:DictEntry}{Q:Option ĸ->ĳ->Prop}(hit:IsItemIter s.heap it d i es.size ep ok ov)(hm:SJ s.heap d es ep)(hx:es[i]?=some e)
  (hQ:∀ h',IsItemIterOut h' it d (i+1) es.size ep e.key e.val s.heap.objs.size->h'.get? s.heap.objs.size=some { cls:=.type "tuple",data:=.seq #[e.key,e.val] }->(∀ b o,b≠it->s.heap.get? b=some o->h'.get? b=some o)->Q (some (.ref s.heap.objs.size)) { s with heap:=h' }) :
  wpAny (model prog w) A (pyNext (.ref it)) Q E s:=by
 obtain⟨hp,g,dr,tk,os⟩:=s;obtain⟨o,m1,_,m2⟩:=hm;have t0:Shared.TypeIs ⟨hp,g,dr,tk,os⟩ (.ref it) "dict_itemiterator":=⟨_,hit,rfl⟩
 have li:i<es.size:=(Array.getElem?_eq_some_iff.mp hx).1;unfold pyNext;refine wpAny_bind (wpAny_attempt (wpAny_callSpecial?_slot (name:=Str.ofString "__next__") t0 F.slot_dict_itemiterator_next (wpAny_call_entry F.slot_dict_itemiterator_next t0 F.entry_dict_itemiterator_next ?_ (F.args_dict_itemiterator_next_1 _))));refine wpAny_bind (wpAny_pure (wpAny_bind (wpAny_bind ?_)));refine wpAny_bind (wpAny_typeNameOfWhole_itemiter t0 (wpAny_pure (wpAny_bind (wpAny_fieldsOf hit rfl ?_))));simp only[FZ,if_true];show wpAny _ _ (if(Value.ref d==Value.none)=true then _ else _) _ _ _;rw[if_neg (fun z:(Value.ref d==Value.none)=true=>qr z)];refine wpAny_bind (wpAny_pure (wpAny_bind (wpAny_dictEntries m1 m2 ?_)));rw[if_neg (by simp)];refine wpAny_bind (wpAny_pure (wpAny_bind (wpAny_dictEpoch m1 m2 ?_)));rw[if_neg (by simp)];refine wpAny_pure ?_;simp only[show ¬ ((i:Int)<0)from by lia,if_false,QL,hx];refine wpAny_bind (wpAny_bind (wpAny_typeNameOfWhole_itemiter t0 (wpAny_pure (wpAny_bind (wpAny_isOneOf_itemiter t0 ?_)))));show wpAny _ _ (setField (.ref it) 3 (rawInt ((i:Int)+1)) >>= _) _ _ ⟨hp,g,dr,tk,os⟩;refine wpAny_bind (wpAny_setField_rec hit (by simp) fun h1 e1 s1=>?_);have s1':Heap.SameBut it hp h1:=s1
 have e1':IsItemIter h1 it d (i+1) es.size ep ok ov:=by
  have z:((i+1:Nat):Int)=(i:Int)+1:=by lia
  unfold IsItemIter;rw[z];simpa [rawInt]using e1
 have t1:Shared.TypeIs ⟨h1,g,dr,tk,os⟩ (.ref it) "dict_itemiterator":=⟨_,e1',rfl⟩
 refine wpAny_bind (wpAny_holding (wpAny_bind (wpAny_isOneOf_itemiter t1 (wpAny_bind (wpAny_isOneOf_itemiter t1 ?_)))));show wpAny _ _ (Builtin.Dict_items.pairFromOwner (.ref it) 6 e.key e.val) _ _ ⟨h1,g,dr,tk,os⟩;unfold Builtin.Dict_items.pairFromOwner;refine wpAny_bind (wpAny_newTuple ?_);have z1:h1.objs.size=hp.objs.size:=s1'.1;have e2:IsItemIter (h1.push { cls:=.type "tuple",data:=.seq #[e.key,e.val] }) it d (i+1) es.size ep ok ov:=qc _ e1';have p2:(h1.push { cls:=.type "tuple",data:=.seq #[e.key,e.val] }).get? hp.objs.size=some { cls:=.type "tuple",data:=.seq #[e.key,e.val] }:=by rw[<- z1];exact qo _ rfl
 have k2:∀ b o,b≠it->hp.get? b=some o->(h1.push { cls:=.type "tuple",data:=.seq #[e.key,e.val] }).get? b=some o:=fun b o hb q=>qc _ (s1'.extBut b o hb q)
 generalize h1.push { cls:=.type "tuple",data:=.seq #[e.key,e.val] }=h2 at e2 p2 k2;show wpAny _ _ (Builtin.Dict_items.ownedTupleIsFree (.ref it) >>= _) _ _ ⟨h2,g,dr,tk,os⟩;rw[z1];have ne:hp.objs.size≠it:=Wj (qA hit);unfold Builtin.Dict_items.ownedTupleIsFree;refine wpAny_bind (wpAny_bind (wpAny_field e2 rfl (x:=.none) rfl (wpAny_pure ?_)));simp only[if_true];refine wpAny_bind (wpAny_field e2 rfl (x:=ok) rfl (wpAny_bind (wpAny_field e2 rfl (x:=ov) rfl ?_)));refine wpAny_bind (wpAny_setField_rec e2 (by simp) fun h3 e3 s3=>wpAny_bind (wpAny_setField_rec (s:=⟨h3,g,dr,tk,os⟩) e3 (by simp) fun h4 e4 s4=>wpAny_bind (wpAny_setField_rec (s:=⟨h4,g,dr,tk,os⟩) e4 (by simp) fun h5 e5 s5=>wpAny_bind (wpAny_setField_rec (s:=⟨h5,g,dr,tk,os⟩) e5 (by simp) fun h6 e6 s6=>?_))));have up:∀ b o,b≠it->h2.get? b=some o->h6.get? b=some o:=fun b o hb q=>s6.extBut b o hb (s5.extBut b o hb (s4.extBut b o hb (s3.extBut b o hb q)))
 exact wpAny_bind (wpAny_letGo (wpAny_pure (wpAny_pure ⟨_,rfl,wpAny_pure (hQ h6 e6 (up _ _ ne p2) fun b o hb q=>up b o hb (k2 b o hb q))⟩)))
def jG {Q:Option ĸ->ĳ->Prop}(hh:A.handled=none)(hit:IsItemIter s.heap it d es.size es.size ep ok ov)(hm:SJ s.heap d es ep)(hQ:∀ h',Heap.ExtBut it s.heap h'->Q none { s with heap:=h' }):wpAny (model prog w) A (pyNext (.ref it)) Q E s:=by
 obtain⟨o,m1,_,m2⟩:=hm;have t0:s.TypeIs (.ref it) "dict_itemiterator":=⟨_,hit,rfl⟩
 unfold pyNext;refine wpAny_bind (wpAny_attempt (wpAny_callSpecial?_slot (name:=Str.ofString "__next__") t0 F.slot_dict_itemiterator_next (wpAny_call_entry F.slot_dict_itemiterator_next t0 F.entry_dict_itemiterator_next ?_ (F.args_dict_itemiterator_next_1 _))));refine wpAny_bind (wpAny_pure (wpAny_bind (wpAny_bind ?_)));refine wpAny_bind (wpAny_typeNameOfWhole_itemiter t0 (wpAny_pure (wpAny_bind (wpAny_fieldsOf hit rfl ?_))));simp only[FZ,if_true];show wpAny _ _ (if(Value.ref d==Value.none)=true then _ else _) _ _ _;rw[if_neg (fun z:(Value.ref d==Value.none)=true=>qr z)];refine wpAny_bind (wpAny_pure (wpAny_bind (wpAny_dictEntries m1 m2 ?_)));rw[if_neg (by simp)];refine wpAny_bind (wpAny_pure (wpAny_bind (wpAny_dictEpoch m1 m2 ?_)));rw[if_neg (by simp)];refine wpAny_pure ?_;simp only[show ¬ ((es.size:Int)<0)from by lia,if_false,QL,Array.getElem?_eq_none (qh es.size)];refine wpAny_bind (wpAny_bind (wpAny_typeNameOfWhole_itemiter t0 (wpAny_pure ?_)));show wpAny _ _ (setField (.ref it) 2 .none >>= _) _ _ s;refine wpAny_bind (wpAny_setField hit rfl (by simp) ?_);show wpAny _ _ (newExc (.type "StopIteration") [] >>= _) _ _ _;refine wpAny_bind ?_;simp only[newExc,newTuple];refine wpAny_bind (wpAny_newObj_type (wpAny_bind (m:=firstArgMember _ _) (wpAny_of_eq (a:=Value.none) (by first|rfl|(simp only[firstArgMember];rfl)) (wpAny_newObj_type ?_ (by size_fits)))) (by size_fits));simp only[raiseNew];refine wpAny_bind (wpAny_handled ?_);rw[show A.in1.handled=none from hh];refine wpAny_bind (wpAny_pure (wpAny_throw ?_));refine wpAny_bind (wpAny_isInstance (T:="StopIteration") (b:=true) ⟨_,qo _ rfl,rfl⟩ isSubtype_stop (wpAny_pure (hQ _ (((Heap.SameBut.update ..).extBut.push _).push _))))
end
def CN (d n ep:Nat):It :=
  ⟨fun i H=>∃ Z8,H d=some (.dN Z8 ep)/\Z8.length=n/\i<n,
   fun i H v H'=>∃ p b k y,v=.ref p/\H p=none/\H'=upd H p (.tup [.ref b,y])/\WL H b k/\∀ Z8,H d=some (.dN Z8 ep)->Z8[i]?=some (k,y),
   fun i H=>∃ Z8,H d=some (.dN Z8 ep)/\Z8.length=n/\n=i⟩
def BP {ep:Nat}{Z8:List (List (List Key)×V)}(ok:ZG P w H h)(e:H d=some (.dN Z8 ep)):(d==sysModules)=false/\∃ xs es,KN H Z8 xs/\SJ h d es ep/\es.toList=xs.map (entryOfKey (My.U4 (zN P w)))/\es.size=Z8.length :=
 let ⟨_,y,xs,r,o,es,h1,h2,h3,h4,_⟩:=(show zX P w H h d (.dN Z8 ep)from ok d _ e)
 ⟨y,xs,es,r,⟨o,h1,h2.1,h3⟩,h4,by rw[size_of_entries h4,Paired.length r]⟩
def ŧ {α β:Type}{R:α->β->Prop}{xs:List α}{ys:List β}(p:Paired R xs ys):∀ {i:Nat} {a:α},xs[i]?=some a->∃ b,ys[i]?=some b/\R a b:=by
 induction p with
 |nil=>intro i a h;cases h
 |@cons a b as bs h t ih =>
  intro i x hx;cases i with
  |zero=>cases hx;exact⟨b,rfl,h⟩
  |succ i=>exact ih hx
def zli {P:Program}{w:World}{K:Ĳ}{tg:List Expr}{kk:Nat}{pos:Pos}{d it n ep:Nat}:Turn P w K (.Tuple tg kk pos) (CN d n ep) [it] it (fun i h=>∃ ok ov,IsItemIter h it d i n ep ok ov) where
 mem:=by simp
 obj:=by rintro i h ⟨ok,ov,st⟩ b hb;rw[qT.mp hb];exact⟨_,st,fun v q=>by cases(show Data.fields _=Data.cell v from q)⟩
 keep:=fun i h h' ⟨ok,ov,st⟩ k=>⟨ok,ov,k it (by simp) _ st⟩
 item:=by
  intro X hP hw hK hc i Z9 s U H E I hf ⟨ok,ov,st⟩ ⟨Z8,hd,hn,hi⟩;subst hP hw hK hn;obtain⟨_,xs,es,r,ea,el,ez⟩:=BP I.hok hd;obtain⟨⟨k,b,u⟩,hx,hk,hb,hu⟩:=ŧ r (qb hi);have hk:Z8[i].1=k:=hk;have hb:WL H b Z8[i].1:=hb;rw[hk]at hb;have he:es[i]?=some (entryOfKey (My.U4 (zN X.prog X.w)) (k,b,u)):=by rw[entry_at el,hx];rfl
  rw[<- ez]at st;refine zlu st ea he fun h' e1 e2 e3=>?_
  refine⟨_,rfl,wpAny_letOwnedTupleGo_items (s:={ s with heap:=h' }) e1 fun h2 f1 f2=>?_⟩;have fr:s.heap.objs.size≠it:=Wj (qA st)
  have k2:∀ c o,c∉[it]->s.heap.get? c=some o->h2.get? c=some o:=fun c o hc q=>by
   have:c≠it:=fun z=>hc (qT.mpr z)
   exact f2.extBut c o this (e3 c o this q)
  have new:h2.get? s.heap.objs.size=some { cls:=.type "tuple",data:=.seq #[.ref b,u] }:=f2.extBut _ _ fr e2;refine⟨.ref s.heap.objs.size,upd H s.heap.objs.size (.tup [.ref b,Z8[i].2]),I.turnNew (t':=s.toks) hf k2 (qh _) ⟨by show 2<=sizeLine;decide,[.ref b,u],.cons rfl (.cons hu .nil),_,new,rfl,_,rfl⟩,rfl,⟨_,b,k,_,rfl,I.fresh,rfl,hb,fun kvs' h'=>?_⟩,⟨_,_,ez▸f1⟩,fun c hc=>?_⟩
  ·rw[hd]at h';cases h';rw[qb hi,<- hk]
  ·rw[qT.mp hc,zA fr.symm];exact(hf it (by simp)).1
 done:=by intro X hP hw hK hc i Z9 s U H E I hf ⟨ok,ov,st⟩ ⟨Z8,hd,hn,hi⟩;subst hP hw hK hi hn;obtain⟨_,xs,es,r,ea,el,ez⟩:=BP I.hok hd;rw[<- ez]at st;obtain⟨f0,f1,f2,f3,f4,f5⟩:=hf it (by simp);exact jG (I.ok.hd hc) st ea fun h' eb=>⟨rfl,I.turned (t':=s.toks) (fun b o hb e=>eb b o hb e) f0 f1 f3 f4 f5⟩
 self:=by rintro _ _ _ _ _ ⟨_,_,hit⟩ h;exact PySem.W.kcp_self hit h
def zs7 (td:TE):TI:=fun U H R=>td U H fun x H1=>∃ a Z8 ep,x=.ref a/\H1 a=some (.dN Z8 ep)/\R (CN a Z8.length ep) H1
structure M0 (X:Cx)(o:Expr)(m:Str)(apos cpos:Pos):Prop where
 base:attributeBase o m X.env (eval o X.env)=eval o X.env
 few:((backTo cpos (starEach [] X.env)).all (fun x=>!x.1)&&(backToKw cpos (keywordEach [] X.env)).all (fun x=>x.1.isSome)&&decide (([]:List Expr).length+([]:List Keyword).length+(if([]:List Keyword).isEmpty then 0 else 1)<30))=true
 line:(apos.endLine==cpos.line)=true
def jW {tg:List Expr}{kk:Nat}{tpos apos cpos:Pos}(ho:PE X o td)(m:M0 X o "items" apos cpos):PI X (.Tuple tg kk tpos) (.Call (.Attribute o "items" apos) [] [] cpos) (zs7 td):=by
 intro Z9 s U H R I h;refine wpAny_Call_method m.base m.few m.line PySem.F.plainAttrs_dict PySem.F.slot_dict_items PySem.F.type_dict_items (Z2 (ho Z9 s U H _ I h) fun u s1 ⟨x,H1,I1,rx,a,Z8,ep,ex,hd,q1⟩=>?_);subst ex;obtain rfl:u=Value.ref a:=rx;obtain⟨t1,t2,t3⟩:=u6 I1 (.inr (.inr ⟨Z8,ep,.inl hd⟩));obtain⟨_,xs,es,r,ea,el,ez⟩:=BP I1.hok hd;refine⟨t1,t2,?_⟩;refine PyProof.Rows.callWith_method0 (env:=X.env) ?_;refine call_meetsIn PySem.F.slot_dict_items t1 PySem.F.entry_dict_items (PySem.F.args_dict_items_1 _) (zj5 a t3) ⟨t1,?_⟩;have ea2:SJ (s1.heap.push { cls:=.type "dict_items",data:=.fields #[.ref a] }) a es ep:=ea.at fun o e=>qc _ e
 refine zlN ⟨_,qo _ rfl,rfl,rfl⟩ ea2 ?_;have I2:=I1.kept (h':=s1.heap.push { cls:=.type "dict_items",data:=.fields #[.ref a] }) (t':=s1.toks) fun b o q=>qc _ q
 have I3:=I2.kept (h':=(s1.heap.push { cls:=.type "dict_items",data:=.fields #[.ref a] }).push { cls:=.type "dict_itemiterator",data:=.fields #[.none,.bool false,.ref a,.int 0 0,.int es.size 0,.int ep 0,.none,.none] }) (t':=s1.toks) fun b o q=>qc _ q
 refine⟨_,_,_,_,H1,rfl,I3,zli (n:=Z8.length) (ep:=ep) (d:=a),⟨_,_,by rw[<- ez];exact qo _ rfl⟩,fun b hb=>?_,q1⟩;rw[qT.mp hb];exact I2.fpOk (qh _) (I2.hok.fresh (qh _))
section
variable {X:Cx}{Z9:List (Addr×Obj)}{U:St}{H:Hp}{s:ĳ}{a:Addr}{A:Around}{E:ĸ->ĳ->Prop}
def zs6 (td ty tv:TE):TS:=fun D U H=>tv U H fun v H1=>td U H1 fun x H2=>ty U H2 fun y H3=>∃ a Z8 ep k b,x=.ref a/\H3 a=some (.dN Z8 ep)/\y=.ref b/\WL H3 b k/\Z8.length<sizeLine/\∀ e,D.nx U (upd H3 a (.dN (putK Z8 k v) e))
def zn2 {ty:TE}{pos pos':Pos}(hu:X.A.units+2<cLine)(ho:PE X o td)(hi:PE X i ty)(hv:PE X value tv)(hs:swapsWith value (some (.Subscript o i pos')) pos.line X.env=pure false) :
  PS X (.Assign [.Subscript o i pos'] value pos) (zs6 td ty tv):=by
 intro Z9 s U H D I h;refine wpAny_Assign_Subscript (Z2 (hv Z9 s U H _ I h) fun r s1 ⟨v,H1,I1,rv,q1⟩=>Z2 (ho Z9 s1 U H1 _ I1 q1) fun u s2 ⟨x,H2,I2,rx,q2⟩=>Z2 (hi Z9 s2 U H2 _ I2 q2) fun iv s3 ⟨y,H3,I3,ry,a,Z8,ep,k,b,ex,hd,ey,hk,hl,q3⟩=>?_) hs;subst ex ey;obtain rfl:u=Value.ref a:=rx;obtain rfl:iv=Value.ref b:=ry;obtain⟨z,y,xs,rel,dd⟩:=dh I3.hok hd;refine wpAny_setItem_heap (hsz:=by rw[<- Paired.length rel];exact z) (nest_room hu) (Pa I3.hok hk) dd fun h' dd' hs=>?_
 obtain⟨q,es,ep',hq,h2,h3,h4,_,h5⟩:=dd';have:=Jp Z8 k v;refine⟨U,_,?_,q3 ep'⟩;refine M5 I3 (by rw[hd];exact True.intro) hs ⟨q,hq⟩ ⟨by lia,y,_,(rel.put k hk rv).keeps fun c ys ec=>?_,q,es,hq,h2,h3,h4,h5⟩;rw[zA (VD ec hd (fun z=>nomatch z))];exact ec
end
end L2
namespace Dp
open PySem
inductive D where
 |non|bl (b:Bool)|int (i:Int)|str (x:Str)|tup (xs:List D)|ref (n:Nat)|ty (n:String)|rl (xs:List D)|exn (c:Str)|kt (xs:List D)
 deriving Inhabited
inductive Cell where
 |lst (xs:List D)|ins (c:Str) (fs:List (Str×D))
 |dk (Z8:List (Str×D))|dt (Z8:List (List (Sum Int Str)×D))|dn (Z8:List (List (List (Sum Int Str))×D)) (ep:Nat)
 |tab (x:Str) (l c:Nat)
 deriving Inhabited
abbrev Z7:=List Cell
abbrev Z1:=List (Option D)
abbrev DK:=D->Z7->Prop
abbrev DE:=Z1->Z7->DK->Prop
abbrev DT:=Z1->Z7->(Bool->Z7->Prop)->Prop
abbrev DA:=Z1->Z7->(List D->Z7->Prop)->Prop
abbrev DG:=D->Z1->Z7->(Z1->Z7->Prop)->Prop
abbrev Vt:=List D->Z1->Z7->(Z1->Z7->Prop)->Prop
structure Mj where
 nx:Z1->Z7->Prop
 rt:DK
 bk:Z1->Z7->Prop:=fun _ _=>False
 ct:Z1->Z7->Prop:=fun _ _=>False
abbrev DS:=Mj->Z1->Z7->Prop
structure TV where
 items:List D
 ok:Z7->Prop
abbrev DI:=Z1->Z7->(TV->Z7->Prop)->Prop
abbrev ZX:=List D->Z7->DK->Prop
def big:Nat:=1000000
def fl:Nat->D->Bool
  |_,.ref _=>false
  |_,.ty _=>false
  |_,.rl _=>false
  |_,.exn _=>false
  |_,.kt _=>false
  |0,.tup _=>false
  |k+1,.tup xs=>xs.all (fl k)
  |_,.non=>true
  |_,.bl _=>true
  |_,.int _=>true
  |_,.str x=>x.cps.all (· < 0x110000)
mutual
def eqv:D->D->Bool
 |.non,.non=>true
 |.bl a,.bl b=>a==b
 |.bl a,.int j=>(if a then 1 else 0)==j
 |.int i,.bl b=>i==(if b then 1 else 0)
 |.int i,.int j=>decide (i=j)
 |.str x,.str y=>x==y
 |.tup xs,.tup ys=>eqvAll xs ys
 |_,_=>false
def eqvAll:List D->List D->Bool
 |[],[]=>true
 |x::xs,y::ys=>eqv x y&&eqvAll xs ys
 |_,_=>false
end
def Lst (S:Z7)(x:D)(xs:List D):Prop:=x=.rl xs\/∃ n,x=.ref n/\S[n]?=some (.lst xs)
def Qw (S:Z7)(x:D)(xs:List D):Prop:=x=.tup xs\/Lst S x xs
def W6 (n:Nat)(k:Int):Option Nat:=if 0<=k then(if k<n then some k.toNat else none)else if -(n:Int)<=k then some (k+n).toNat else none
def Yu (xs:List D)(k:Int):Option D:=(W6 xs.length k).bind fun j=>xs[j]?
def atS (z:Str)(k:Int):Option Nat:=(W6 z.cps.toList.length k).bind fun j=>z.cps.toList[j]?
def Xk (n:Nat)(d:Nat):Option Int->Nat
 |none=>d
 |some k=>if k<0 then(k+n).toNat else min k.toNat n
def cutD (xs:List α)(lo hi:Option Int):List α:=(xs.drop (Xk xs.length 0 lo)).take (Xk xs.length xs.length hi-Xk xs.length 0 lo)
def Yx (i:Nat):DE:=fun Z S Q=>∃ d,Z[i]?=some (some d)/\Q d S
def dC (d:D):DE:=fun _ S Q=>Q d S
abbrev Zx:=D->D->Z7->DK->Prop
def Z6 (r:Zx)(ta tb:DE):DE:=fun Z S Q=>ta Z S fun x S1=>tb Z S1 fun y S2=>r x y S2 Q
def Vc (r:D->Z7->DK->Prop)(ta:DE):DE:=fun Z S Q=>ta Z S fun x S1=>r x S1 Q
def zm:DA:=fun _ S Q=>Q [] S
def zc (ta:DE)(tr:DA):DA:=fun Z S Q=>ta Z S fun x S1=>tr Z S1 fun xs S2=>Q (x::xs) S2
def dTup (t:DA):DE:=fun Z S Q=>t Z S fun xs S1=>xs.length<=big/\Q (.tup xs) S1
def Ye (t:DA):DE:=fun Z S Q=>t Z S fun xs S1=>xs.length<=big/\Q (.ref S1.length) (S1++[.lst xs])
def dCall (f:ZX)(t:DA):DE:=fun Z S Q=>t Z S fun xs S1=>f xs S1 Q
abbrev DB:=List D->Z7->DK->Prop
def dB (r:DB)(t:DA):DE:=fun Z S Q=>t Z S fun xs S1=>r xs S1 Q
def dT (t:DE):DT:=fun Z S Q=>t Z S fun x S1=>∃ b,x=.bl b/\Q b S1
def Xw (t u:DT):DT:=fun Z S Q=>t Z S fun c S1=>if c=true then u Z S1 Q else Q false S1
def Vy (t u:DT):DT:=fun Z S Q=>t Z S fun c S1=>if c=true then Q true S1 else u Z S1 Q
def VP (t:DT):DT:=fun Z S Q=>t Z S fun c S1=>Q (!c) S1
def Qy (t u:DE):DE:=fun Z S Q=>t Z S fun x S1=>∃ c,x=.bl c/\if c=true then u Z S1 Q else Q (.bl false) S1
def sZ (t u:DE):DE:=fun Z S Q=>t Z S fun x S1=>∃ c,x=.bl c/\if c=true then Q (.bl true) S1 else u Z S1 Q
def QK (t:DE):DE:=fun Z S Q=>t Z S fun x S1=>∃ c,x=.bl c/\Q (.bl (!c)) S1
def xM (c:DT)(ta tb:DE):DE:=fun Z S Q=>c Z S fun b S1=>if b=true then ta Z S1 Q else tb Z S1 Q
def NT (r r':Zx)(ta tb tc:DE):DE:=fun Z S Q=>ta Z S fun x S1=>tb Z S1 fun y S2=>r x y S2 fun z S3=>∃ c,z=.bl c/\if c=true then tc Z S3 fun w S4=>r' y w S4 Q else Q (.bl false) S3
def Ua:Option DE->Z1->Z7->(Option Int->Z7->Prop)->Prop
 |none=>fun _ S Q=>Q none S
 |some t=>fun Z S Q=>t Z S fun x S1=>∃ i,x=.int i/\Q (some i) S1
def Te (r:D->Option Int->Option Int->Z7->DK->Prop)(ta:DE)(lo hi:Option DE):DE:=fun Z S Q=>ta Z S fun x S1=>Ua lo Z S1 fun l S2=>Ua hi Z S2 fun h S3=>r x l h S3 Q
def Yi (f:Str)(ta:DE):DE:=fun Z S Q=>ta Z S fun x S1=>∃ n c fs d,x=.ref n/\S1[n]?=some (.ins c fs)/\fs.lookup f=some d/\Q d S1
def putD (f:Str)(v:D):List (Str×D)->List (Str×D)
 |[]=>[(f,v)]
 |(g,x)::r=>if g=f then(g,v)::r else(g,x)::putD f v r
def RZ (c:Str)(init:ZX):ZX:=fun ds S Q=>init (.ref S.length::ds) (S++[.ins c []]) fun d S2=>d=.non/\Q (.ref S.length) S2
abbrev DM:=D->List D->Z7->DK->Prop
def dM (r:DM)(ta:DE)(t:DA):DE:=fun Z S Q=>ta Z S fun x S1=>(∃ n ys,x=.ref n/\S1[n]?=some (.lst ys))/\t Z S1 fun xs S2=>r x xs S2 Q
def oI (C:Int->Int->Prop)(g:Int->Int->D):Zx:=fun x y S Q=>∃ i j,x=.int i/\y=.int j/\C i j/\Q (g i j) S
def N8 (g:Int->Int->D):Zx:=fun x y S Q=>∃ i j,x=.int i/\y=.int j/\Q (g i j) S
def oU (g:Int->D):D->Z7->DK->Prop:=fun x S Q=>∃ i,x=.int i/\Q (g i) S
def YQ (i j:Int):Prop:=(My.Bd 8000 i/\My.Bd 8000 j)\/i.natAbs<2 ^ 64\/j.natAbs<2 ^ 64
def lC (_ j:Int):Prop:=j≠0/\My.Bd 8000 j
def zwx (_ j:Int):Prop:=j≠0
def m8 (i j:Int):Prop:=0<=j/\j<=1000000/\i.natAbs<2 ^ 64
def Zo:Zx:=fun x y S Q=>(∃ i j,x=.int i/\y=.int j/\Q (.int (i+j)) S)\/(∃ xs ys,x=.tup xs/\y=.tup ys/\xs.length+ys.length<=big/\Q (.tup (xs++ys)) S) \/
 (∃ xs ys,Lst S x xs/\Lst S y ys/\xs.length+ys.length<=big/\Q (.ref S.length) (S++[.lst (xs++ys)])) \/
 (∃ i j:Str,x=.str i/\y=.str j/\i.length+j.length<=big/\Q (.str (i++j)) S)
def Zh:Zx:=N8 fun i j=>.int (i-j)
def eY (z:Str)(n:Int):Str:=if n<1 then Str.empty else if(n==1||z.length==0)=true then z else⟨(List.replicate n.toNat z.cps).foldl (·++·) #[]⟩
@[irreducible] def Hg (x:Int):Prop:=x.natAbs<2 ^ 1048576
def YZ:Zx:=fun x y S Q=>oI YQ (fun i j=>.int (i*j)) x y S Q\/(∃ (z:Str) (n:Int),x=.str z/\y=.int n/\z.length<=1000/\-1000<=n/\n<=1000/\Q (.str (eY z n)) S)\/oI (fun i j=>Hg i/\Hg j) (fun i j=>.int (i*j)) x y S Q
def oDiv:Zx:=oI lC fun i j=>.int (i.fdiv j)
def oMod:Zx:=oI zwx fun i j=>.int (i.fmod j)
def Ib:Zx:=oI m8 fun i j=>.int (i*2 ^ j.toNat)
def Ia:Zx:=oI (fun _ j=>0<=j) fun i j=>.int (i/2 ^ j.toNat)
def JG:Zx:=fun x y S Q=>∃ i j,x=.int i/\y=.int j/\∀ v,(j=1->v=i%2)->Q (.int v) S
def Vd:D->Z7->DK->Prop:=oU fun i=>.int (-i)
def oLt:Zx:=N8 fun i j=>.bl (decide (i<j))
def oLe:Zx:=N8 fun i j=>.bl (decide (i<=j))
def XS:Zx:=N8 fun i j=>.bl (decide (j<i))
def JD:Zx:=N8 fun i j=>.bl (decide (j<=i))
def Ii (S:Z7):List D->List (List D)->Prop
 |[],[]=>True
 |x::xs,z::zs=>Lst S x z/\Ii S xs zs
 |_,_=>False
def Ub (xss:List (List D)):Bool:=xss.all fun zs=>zs.all (fl 20)
def zT {α β:Type}(f:α->Option β):List α->Option (List β)
 |[]=>some []
 |x::xs=>match f x,zT f xs with
  |some y,some ys=>some (y::ys)
  |_,_=>none
def Zk (S:Z7):Nat->D->Option PyData
  |_,.non=>some .none
  |_,.bl b=>some (.bool b)
  |_,.int i=>some (.int i)
  |_,.str x=>if x.cps.all (· < 0x110000)=true then some (.str x)else none
  |k+1,.tup xs=>(zT (Zk S k) xs).map .tuple
  |k+1,.rl xs=>(zT (Zk S k) xs).map .list
  |k+1,.ref n=>match S[n]? with
    |some (.lst xs)=>(zT (Zk S k) xs).map .list
    |_=>none
  |_,_=>none
def Ka (S:Z7)(x y:D)(b:Bool):Prop:=(fl 20 x=true/\fl 20 y=true/\b=eqv x y)\/(∃ xs ys,Lst S x xs/\Lst S y ys/\xs.all (fl 20)=true/\ys.all (fl 20)=true/\b=eqvAll xs ys) \/
 (∃ xs ys xss yss,Lst S x xs/\Lst S y ys/\Ii S xs xss/\Ii S ys yss/\Ub xss=true/\Ub yss=true/\b=eqvAll (xss.map D.tup) (yss.map D.tup))\/(∃ p,Zk S 20 x=some p/\Zk S 20 y=some p/\b=true)
def oEq:Zx:=fun x y S Q=>∃ b,Ka S x y b/\Q (.bl b) S
def Yh:Zx:=fun x y S Q=>∃ b,Ka S x y b/\Q (.bl (!b)) S
def JQ (S:Z7)(x y:D)(b:Bool):Prop:=∃ ys,Qw S y ys/\fl 20 x=true/\ys.all (fl 20)=true/\b=ys.any fun z=>eqv z x
def J6:Zx:=fun x y S Q=>(∃ b,JQ S x y b/\Q (.bl b) S)\/(∃ (c:Nat) (z:Str),x=.str ⟨#[c]⟩/\y=.str z/\Q (.bl (decide (c∈z.cps.toList))) S)
def Qs:Zx:=fun x y S Q=>(∃ b,JQ S x y b/\Q (.bl (!b)) S)\/(∃ (c:Nat) (z:Str),x=.str ⟨#[c]⟩/\y=.str z/\Q (.bl (!decide (c∈z.cps.toList))) S)
def Xr:D->Bool
 |.non=>true
 |_=>false
def KC:Zx:=fun x y S Q=>(y=.non/\Q (.bl (Xr x)) S)\/(∃ a b,x=.bl a/\y=.bl b/\Q (.bl (a==b)) S)
def Wi:Zx:=fun x y S Q=>(y=.non/\Q (.bl (!Xr x)) S)\/(∃ a b,x=.bl a/\y=.bl b/\Q (.bl (!(a==b))) S)
def ZL:Zx:=fun x y S Q=>(∃ i xs d,y=.int i/\Qw S x xs/\Yu xs i=some d/\Q d S)\/(∃ (z:Str) (i:Int) (c:Nat),x=.str z/\y=.int i/\z.length<=big/\atS z i=some c/\Q (.str ⟨#[c]⟩) S)
def zzF (z:Str)(lo hi:Option Int):Str:=⟨(cutD z.cps.toList lo hi).toArray⟩
def RN:D->Option Int->Option Int->Z7->DK->Prop:=fun x lo hi S Q=>(∃ xs,x=.tup xs/\Q (.tup (cutD xs lo hi)) S)\/(∃ xs,Lst S x xs/\Q (.ref S.length) (S++[.lst (cutD xs lo hi)]))\/False
def Zg:DB:=fun vs S Q=>(∃ x xs,vs=[x]/\Qw S x xs/\Q (.int xs.length) S)\/(∃ z:Str,vs=[.str z]/\z.length<=big/\Q (.int z.length) S)
def Ie:DB:=fun vs S Q=>∃ i,vs=[.int i]/\Q (.int (i.natAbs:Int)) S
def Qm:DB:=fun vs S Q=>∃ i j,vs=[.int i,.int j]/\Q (.int (max i j)) S
def Rr:DB:=fun vs S Q=>∃ i j,vs=[.int i,.int j]/\Q (.int (min i j)) S
def Je:DB:=fun vs S Q=>∃ x ns,vs=[x]/\Lst S x (List.map D.int ns)/\0<ns.length/\∀ m:Int,m∈ns->(∀ a∈ns,a<=m)->Q (.int m) S
def Mg:DB:=fun vs S Q=>∃ x ns,vs=[x]/\Lst S x (List.map D.int ns)/\0<ns.length/\∀ m:Int,m∈ns->(∀ a∈ns,m<=a)->Q (.int m) S
def U5:DB:=fun vs S Q=>∃ x bs,vs=[x]/\Lst S x (List.map D.bl bs)/\Q (.bl (bs.all id)) S
def U0:DB:=fun vs S Q=>∃ x xs,vs=[x]/\Qw S x xs/\Q (.ref S.length) (S++[.lst xs])
def Ph (t:String):Bool:=t=="int"||t=="bool"||t=="tuple"||t=="list"||t=="str"
def pX (S:Z7)(t:String)(d:D):Option Bool:=if(!Ph t)=true then none else match d with
 |.non=>some false
 | .bl _=>some (t=="bool"||t=="int")
 | .int _=>some (t=="int")
 | .str _=>some (t=="str")
 | .tup _=>some (t=="tuple")
 |.ref n=>match S[n]? with
  | some (.lst _)=>some (t=="list")
  |_=>none
 |.ty _=>none
 |.rl _=>none
 |.exn _=>none
 |.kt _=>none
def Sy:DB:=fun vs S Q=>∃ x t b,vs=[x,.ty t]/\pX S t x=some b/\Q (.bl b) S
abbrev p2 (c:Int×Int):D:=.tup [.int c.1,.int c.2]
def Vu:DM:=fun x vs S Q=>∃ n xs y,x=.ref n/\vs=[y]/\S[n]?=some (.lst xs)/\xs.length<big/\Q .non (S.set n (.lst (xs++[y])))
def iV:DM:=fun x vs S Q=>∃ n xs m ys,x=.ref n/\vs=[.ref m]/\S[n]?=some (.lst xs)/\S[m]?=some (.lst ys)/\m≠n/\xs.length+ys.length<=big/\Q .non (S.set n (.lst (xs++ys)))
def K8:DM:=fun x vs S Q=>iV x vs S Q\/∃ n xs ys,x=.ref n/\vs=[.tup ys]/\S[n]?=some (.lst xs)/\xs.length+ys.length<=big/\Q .non (S.set n (.lst (xs++ys)))
def Ht:DM:=fun x vs S Q=>∃ n xs y,x=.ref n/\vs=[.int 0]/\S[n]?=some (.lst (y::xs))/\Q y (S.set n (.lst xs))
def PN:DM:=fun x vs S Q=>∃ n xs,x=.ref n/\vs=[]/\S[n]?=some (.lst xs)/\Q .non (S.set n (.lst []))
def zP (i:Nat):DG:=fun d Z S Q=>Q (Z.set i (some d)) S
def YW:Vt:=fun ds Z S Q=>ds=[]/\Q Z S
def zJ (t:DG)(u:Vt):Vt:=fun ds Z S Q=>∃ d r,ds=d::r/\t d Z S fun ρ' S'=>u r ρ' S' Q
def YL (n:Nat)(t:Vt):DG:=fun d Z S Q=>∃ xs,d=.tup xs/\xs.length=n/\t xs Z S Q
def Od (to ti:DE):DG:=fun d Z S Q=>to Z S fun o S1=>ti Z S1 fun i S2=>∃ n xs k j,o=.ref n/\i=.int k/\S2[n]?=some (.lst xs)/\W6 xs.length k=some j/\Q Z (S2.set n (.lst (xs.set j d)))
def zj (t u:DS):DS:=fun E Z S=>t { E with nx:=u E } Z S
def zK:DS:=fun E Z S=>E.nx Z S
def zE (t:DE):DS:=fun E Z S=>t Z S E.rt
def Za (t:DE):DS:=fun E Z S=>t Z S fun _ S1=>E.nx Z S1
def zq (t:DE)(g:DG):DS:=fun E Z S=>t Z S fun x S1=>g x Z S1 E.nx
def ZD (c:DT)(t u:DS):DS:=fun E Z S=>c Z S fun b S1=>if b=true then t E Z S1 else u E Z S1
def sJ (t:DS):DS:=fun E Z S=>∃ J:Z1->Z7->Prop,(∀ Z S,J Z S->E.nx Z S)/\t { E with nx:=J } Z S
def Yl:DS:=fun _ _ _=>False
def xq:DS:=fun E Z S=>E.bk Z S
def oG:DS:=fun E Z S=>E.ct Z S
def VL (c f:Str)(to tv:DE):DS:=fun E Z S=>tv Z S fun y S1=>to Z S1 fun x S2=>∃ n fs,x=.ref n/\S2[n]?=some (.ins c fs)/\fs.length<100/\E.nx Z (S2.set n (.ins c (putD f y fs)))
def Hw (i:Nat)(t:DE):DS:=fun E Z S=>∃ a,Z[i]?=some (some (.int a))/\t Z S fun y S1=>∃ b,y=.int b/\E.nx (Z.set i (some (.int (a+b)))) S1
def Vo (c:DT)(t:DS):DS:=fun E Z S=>∃ W:Nat->Z1->Z7->Prop,(∃ m,W m Z S)/\∀ m Z S,W m Z S ->
 c Z S fun b S1=>if b=true then ∃ N:Z1->Z7->Prop,(∀ ρ' S',N ρ' S'->∃ m',m'<m/\W m' ρ' S')/\t { E with nx:=N,ct:=N,bk:=E.nx } Z S1 else E.nx Z S1
def YJ (wi:DI)(g:DG)(t:DS):DS:=fun E Z S=>wi Z S fun J S1=>∃ W:Nat->Z1->Z7->Prop,W 0 Z S1/\(∀ i Z S,W i Z S->J.ok S) /\
 (∀ i d Z S,J.items[i]?=some d->W i Z S->g d Z S fun ρ2 S2=>t { E with nx:=W (i+1),ct:=W (i+1),bk:=E.nx } ρ2 S2)/\∀ Z S,W J.items.length Z S->E.nx Z S
def signs (z:Str):List D:=z.cps.toList.map fun c=>.str ⟨#[c]⟩
def Np (x:D)(S1:Z7)(R:TV->Z7->Prop):Prop:=(∃ xs,x=.tup xs/\R ⟨xs,fun _=>True⟩ S1)\/(∃ xs,Lst S1 x xs/\R ⟨xs,fun S=>Lst S x xs⟩ S1)\/(∃ z:Str,x=.str z/\R ⟨signs z,fun _=>True⟩ S1)
def Zn (t:DE):DI:=fun Z S R=>t Z S fun x S1=>Np x S1 R
def upto (lo:Int)(n:Nat):List D:=(List.range n).map fun k:Nat=>D.int (lo+(k:Int))
def RP (t:DA):DI:=fun Z S R=>t Z S fun vs S1=>∃ j:Int,vs=[.int j]/\-(2 ^ 62)<=j/\j<2 ^ 62/\R ⟨upto 0 j.toNat,fun _=>True⟩ S1
def Ju (t:DA):DI:=fun Z S R=>t Z S fun vs S1=>∃ i j:Int,vs=[.int i,.int j]/\R ⟨upto i (j-i).toNat,fun _=>True⟩ S1
def Vv:Nat->List D->List D
 |_,[]=>[]
 |k,x::xs=>.tup [.int (k:Nat),x]::Vv (k+1) xs
def Yp:List D->List D->List D
 |x::xs,y::ys=>.tup [x,y]::Yp xs ys
 |_,_=>[]
def Tc (c:List Str)(z:Str):List Str:=if c.any (·==z)=true then c else c++[z]
def Yd (f:Nat->Str):Nat->List Str
 |0=>[]
 |i+1=>Tc (Yd f i) (f i)
def Hq (zs:List Str):Nat:=(Yd (fun i=>zs.getD i Str.empty) zs.length).length
def J4:DB:=fun vs S Q=>∃ x,∃ zs:List Str,vs=[x]/\Lst S x (zs.map D.str)/\zs.length<=4000/\Q (.int (Hq zs)) S
def GF (R:TV->Z7->Prop)(vs:List D)(S1:Z7):Prop:=∃ x xs,vs=[x]/\Lst S1 x xs/\R ⟨Vv 0 xs,fun S=>Lst S x xs⟩ S1
def V4 (t:DA):DI:=fun Z S R=>t Z S (GF R)
def CK (R:TV->Z7->Prop)(vs:List D)(S1:Z7):Prop:=(∃ x y xs ys,vs=[x,y]/\Lst S1 x xs/\Lst S1 y ys/\R ⟨Yp xs ys,fun S=>Lst S x xs/\Lst S y ys⟩ S1)\/(∃ xs ys,vs=[.tup xs,.tup ys]/\R ⟨Yp xs ys,fun _=>True⟩ S1)
def Ih (t:DA):DI:=fun Z S R=>t Z S (CK R)
def Q5 (own:Nat)(fv:List Nat)(Z:Z1):Z1:=List.replicate own none++fv.map fun j=>(Z[j]?).join
def XH:DT:=fun _ S Q=>Q true S
def Zf (own:Nat)(fv:List Nat)(wi:DI)(g:DG)(tc:DT)(te:DE):DE:=fun Z S Q=>wi Z S fun J S1=>J.items.length<=big/\∃ W:Nat->List D->Z7->Prop,W 0 [] S1/\(∀ i ys S,W i ys S->J.ok S) /\
 (∀ i d ys S,J.items[i]?=some d->W i ys S->g d (Q5 own fv Z) S fun ρ2 S2=>tc ρ2 S2 fun b S3=>if b=true then te ρ2 S3 fun y S4=>W (i+1) (ys++[y]) S4 else W (i+1) ys S3) /\
 ∀ ys S,W J.items.length ys S->Q (.ref S.length) (S++[.lst ys])
def kD:Sum Int Str->D
 |.inl i=>.int i
 |.inr x=>.str x
section
variable {κ:Type}[DecidableEq κ]
def dval (Z8:List (κ×D))(k:κ):Option D:=(Z8.find? fun kv=>decide (kv.1=k)).map (·.2)
def dput (Z8:List (κ×D))(k:κ)(v:D):List (κ×D):=if(Z8.any fun kv=>decide (kv.1=k))=true then Z8.map (fun kv=>if kv.1=k then(kv.1,v)else kv)else Z8++[(k,v)]
end
abbrev kN (k:List (Sum Int Str)):D:=.tup (k.map kD)
def Zj (S:Z7)(x y:D)(o:Option D):Prop:=(∃ n Z8 z,x=.ref n/\y=.str z/\S[n]?=some (.dk Z8)/\o=dval Z8 z)\/(∃ n Z8 ks,x=.ref n/\y=.tup (ks.map kD)/\S[n]?=some (.dt Z8)/\o=dval Z8 ks)\/(∃ n Z8 e ks,x=.ref n/\y=.tup (ks.map kN)/\S[n]?=some (.dn Z8 e)/\o=dval Z8 ks)
def Fj (S:Z7)(x:D):Prop:=∃ n,x=.ref n/\((∃ Z8,S[n]?=some (.dk Z8))\/(∃ Z8,S[n]?=some (.dt Z8))\/∃ Z8 e,S[n]?=some (.dn Z8 e))
def Mz:DE:=fun _ S Q=>Q (.ref S.length) (S++[.dk []])
def CW:DE:=fun _ S Q=>Q (.ref S.length) (S++[.dt []])
def Lx:DE:=fun _ S Q=>Q (.ref S.length) (S++[.dn [] 0])
def Vx (td ti:DE):DE:=fun Z S Q=>td Z S fun x S1=>ti Z S1 fun y S2=>∃ d,Zj S2 x y (some d)/\Q d S2
def Oh (ti td:DE):DE:=fun Z S Q=>ti Z S fun y S1=>td Z S1 fun x S2=>∃ o,Zj S2 x y o/\Q (.bl o.isSome) S2
def Ql (ti td:DE):DE:=fun Z S Q=>ti Z S fun y S1=>td Z S1 fun x S2=>∃ o,Zj S2 x y o/\Q (.bl (!o.isSome)) S2
def Lp (td ti tz:DE):DE:=fun Z S Q=>td Z S fun x S1=>Fj S1 x/\ti Z S1 fun y S2=>tz Z S2 fun z S3=>∃ o,Zj S3 x y o/\Q (o.getD z) S3
def Dl (tk tv:DE):DE:=fun Z S Q=>tk Z (S++[.dk []]) fun x S1=>tv Z S1 fun y S2=>∃ z,x=.str z/\S2[S.length]?=some (.dk [])/\Q (.ref S.length) (S2.set S.length (.dk [(z,y)]))
def Lr (tk tv:DE):DE:=fun Z S Q=>tk Z (S++[.dt []]) fun x S1=>tv Z S1 fun y S2=>∃ ks,x=.tup (ks.map kD)/\S2[S.length]?=some (.dt [])/\Q (.ref S.length) (S2.set S.length (.dt [(ks,y)]))
def JV (td:DE):DI:=fun Z S R=>td Z S fun x S1=>∃ n Z8 e,x=.ref n/\S1[n]?=some (.dn Z8 e)/\R ⟨Z8.map fun kv=>.tup [.tup (kv.1.map kN),kv.2],fun S=>S[n]?=some (.dn Z8 e)⟩ S1
def Ti (S:Z7)(x y v:D)(Q:Z7->Prop):Prop:=(∃ n Z8 z,x=.ref n/\y=.str z/\S[n]?=some (.dk Z8)/\Z8.length<big/\Q (S.set n (.dk (dput Z8 z v))))\/(∃ n Z8 ks,x=.ref n/\y=.tup (ks.map kD)/\S[n]?=some (.dt Z8)/\Z8.length<big/\Q (S.set n (.dt (dput Z8 ks v))))
def Nb (td ti tv:DE):DS:=fun E Z S=>tv Z S fun v S1=>td Z S1 fun x S2=>ti Z S2 fun y S3=>Ti S3 x y v (E.nx Z)
def O4 (S:Z7)(x y v:D)(Q:Z7->Prop):Prop:=∃ n Z8 e ks,x=.ref n/\y=.tup (ks.map kN)/\S[n]?=some (.dn Z8 e)/\Z8.length<big/\∀ e',Q (S.set n (.dn (dput Z8 ks v) e'))
def Tj (td ti tv:DE):DS:=fun E Z S=>tv Z S fun v S1=>td Z S1 fun x S2=>ti Z S2 fun y S3=>O4 S3 x y v (E.nx Z)
def fc:Cell->Bool
 |.lst xs=>xs.all (fl 20)
 |.ins _ _=>false
 |.dk _=>false
 |.dt _=>false
 |.dn _ _=>false
 |.tab _ _ _=>false
def Fin (S:Z7)(Q:DK):DK:=fun d S'=>Q d S'\/∃ S1,S1 <+: S'/\S.length<=S1.length/\(fl 20 d=true\/∃ n,d=.ref n/\n<S1.length)/\(∀ (n:Nat) c,S1[n]?=some c->S[n]?=some c\/fc c=true)/\Q d S1
def Tg (n:Nat)(ds:List D):Z1:=ds.map some++List.replicate (n-ds.length) none
def BodyOk (n:Nat)(b:DS)(f:ZX):Prop:=∀ ds S Q,f ds S Q->b ⟨fun _ S'=>Fin S Q .non S',Fin S Q,fun _ _=>False,fun _ _=>False⟩ (Tg n ds) S
abbrev XD:=Str->Z7->Prop
abbrev XR:=Z1->Str->Z7->Prop
abbrev Yq:=List D->Z7->DK->XD->Prop
def X8 (f:Yq)(ex:XR)(t:DA):DE:=fun Z S Q=>t Z S fun xs S1=>f xs S1 Q (ex Z)
def xF:XR:=fun _ _ _=>False
def SN (ex:XR)(c:Str):DS:=fun _ Z S=>ex Z c S
def Dh (c:Str)(init:Yq):Yq:=fun ds S Q ex=>init (.ref S.length::ds) (S++[.ins c []]) (fun d S2=>d=.non/\Q (.ref S.length) S2) ex
def Vp (n:Nat)(b:XR->DS)(f:Yq):Prop:=∀ ds S Q ex,f ds S Q ex->b (fun _=>ex) ⟨fun _ S'=>Fin S Q .non S',Fin S Q,fun _ _=>False,fun _ _=>False⟩ (Tg n ds) S
def New (Q:DK)(S:Z7)(xs:List D):Prop:=Q (.ref S.length) (S++[.lst xs])
def Put (Q:Z7->Prop)(S:Z7)(n:Nat)(c:Cell):Prop:=Q (S.set n c)
def Fp (own:Nat)(fv:List Nat)(g:DG)(tc:DT)(te:DE)(Z:Z1)(Q:DK)(J:TV)(S:Z7):Prop:=J.items.length<=big/\∃ W:Nat->List D->Z7->Prop,W 0 [] S/\(∀ i ys S,W i ys S->J.ok S) /\
 (∀ i d ys S,J.items[i]?=some d->W i ys S->g d (Q5 own fv Z) S fun ρ2 S2=>tc ρ2 S2 fun b S3=>if b=true then te ρ2 S3 fun y S4=>W (i+1) (ys++[y]) S4 else W (i+1) ys S3) /\
 ∀ ys S,W J.items.length ys S->New Q S ys
def Ei (d:D)(Z:Z1)(Q:Z1->Z7->Prop)(o i:D)(S2:Z7):Prop:=∃ n xs k j,o=.ref n/\i=.int k/\S2[n]?=some (.lst xs)/\W6 xs.length k=some j/\Q Z (S2.set n (.lst (xs.set j d)))
def Cr (nx:Z1->Z7->Prop)(rt:DK)(g:DG)(t:DS)(Z:Z1)(J:TV)(S:Z7):Prop:=∃ W:Nat->Z1->Z7->Prop,W 0 Z S/\(∀ i Z S,W i Z S->J.ok S) /\
 (∀ i d Z S,J.items[i]?=some d->W i Z S->g d Z S fun ρ2 S2=>t ⟨W (i+1),rt,nx,W (i+1)⟩ ρ2 S2)/\∀ Z S,W J.items.length Z S->nx Z S
def vH (W:Nat->Z1->Z7->Prop)(m:Nat)(t:DS)(rt:DK)(nx:Z1->Z7->Prop)(Z:Z1)(S:Z7):Prop:=∃ N:Z1->Z7->Prop,(∀ ρ' S',N ρ' S'->∃ m',m'<m/\W m' ρ' S')/\t ⟨N,rt,nx,N⟩ Z S
def NK (N W:Z1->Z7->Prop):Prop:=∀ Z S,W Z S->N Z S
def wU (W:Z1->Z7->Prop)(P:(Z1->Z7->Prop)->(Z1->Z7->Prop)->Prop):Prop:=∀ N B,NK N W->P N B
def Á {W:Z1->Z7->Prop}{P:(Z1->Z7->Prop)->(Z1->Z7->Prop)->Prop}(h:∀ N B,NK N W->P N B):wU W P:=h
def nxi (h:NK N W)(w:W Z S):N Z S:=h Z S w
def ug (J:Z1->Z7->Prop)(P:(Z1->Z7->Prop)->Prop):Prop:=∀ N,NK N J->P N
def å {J:Z1->Z7->Prop}{P:(Z1->Z7->Prop)->Prop}(h:∀ N,NK N J->P N):ug J P:=h
def DY (N W:List D->Z7->Prop):Prop:=∀ ys S,W ys S->N ys S
def pK (W:List D->Z7->Prop)(P:(List D->Z7->Prop)->Prop):Prop:=∀ N,DY N W->P N
def zzd {W:List D->Z7->Prop}{P:(List D->Z7->Prop)->Prop}(h:∀ N,DY N W->P N):pK W P:=h
def Α (h:DY N W)(w:W ys S):N ys S:=h ys S w
def XM {nx:Z1->Z7->Prop}{rt:DK}{g:DG}{t:DS}{xs:List D}{ok:Z7->Prop}(W:Nat->Z1->Z7->Prop)(h0:W 0 Z S)(hok:∀ i Z S,W i Z S->ok S)(step:∀ i d Z S,xs[i]?=some d->W i Z S->wU (W (i+1)) fun N B=>g d Z S fun ρ2 S2=>t ⟨N,rt,B,N⟩ ρ2 S2)(fin:∀ Z S,W xs.length Z S->nx Z S):Cr nx rt g t Z ⟨xs,ok⟩ S:=⟨W,h0,hok,fun i d Z S e w=>step i d Z S e w (W (i+1)) nx fun _ _ h=>h,fin⟩
def rD {nx:Z1->Z7->Prop}{rt:DK}{g:DG}{t:DS}{xs:List D}{ok:Z7->Prop}(W:Nat->Z1->Z7->Prop)(h0:W 0 Z S)(hok:∀ i Z S,W i Z S->ok S)(step:∀ i d Z S,xs[i]?=some d->W i Z S->g d Z S fun ρ2 S2=>t ⟨W (i+1),rt,nx,W (i+1)⟩ ρ2 S2)(fin:∀ Z S,W xs.length Z S->nx Z S):Cr nx rt g t Z ⟨xs,ok⟩ S:=⟨W,h0,hok,step,fin⟩
def zwf {S:Z7}{Q:DK}{xs:List D}(h:Q (.ref S.length) (S++[.lst xs])):New Q S xs:=h
def WT {S T:Z7}{Q:DK}{xs:List D}(h:Q (.ref (S.length+T.length)) (S++(T++[.lst xs]))):New Q (S++T) xs:=by unfold New;rw[qf,qk];exact h
section
variable {S:Z7}{Q:DK}{xs:List D}{a b c d e f:Cell}
def Ar (h:Q (.ref (S.length+1)) (S++[a,.lst xs])):New Q (S++[a]) xs:=WT h
def jO (h:Q (.ref (S.length+2)) (S++[a,b,.lst xs])):New Q (S++[a,b]) xs:=WT h
def zxQ (h:Q (.ref (S.length+3)) (S++[a,b,c,.lst xs])):New Q (S++[a,b,c]) xs:=WT h
def zw2 (h:Q (.ref (S.length+4)) (S++[a,b,c,d,.lst xs])):New Q (S++[a,b,c,d]) xs:=WT h
def zx6 (h:Q (.ref (S.length+5)) (S++[a,b,c,d,e,.lst xs])):New Q (S++[a,b,c,d,e]) xs:=WT h
end
def FT {a:Cell}{T:Z7}{Q:Z7->Prop}{c:Cell}(h:Q (S++c::T)):Put Q (S++a::T) S.length c:=by unfold Put;rw[RD _ _ (qh _),Yk];exact h
def iH {a:Cell}{G T:Z7}{Q:Z7->Prop}{c:Cell}(h:Q (S++c::(G++T))):Put Q (S++(a::G++T)) S.length c:=FT h
def W2 {S:Z7}{Q:Z7->Prop}{n:Nat}{c:Cell}(h:Q (S.set n c)):Put Q S n c:=h
def uG {T:Z7}{Q:Z7->Prop}{k:Nat}{c:Cell}(h:Q (S++T.set k c)):Put Q (S++T) (S.length+k) c:=by unfold Put;rw[RD _ _ (Nm _ _),Ig];exact h
def yR (nx:Z1->Z7->Prop)(Z:Z1):DK:=fun _ S1=>nx Z S1
def nR (g:DG)(Z:Z1)(nx:Z1->Z7->Prop):DK:=fun x S1=>g x Z S1 nx
def yP (t u:DS)(E:Mj)(Z:Z1):Bool->Z7->Prop:=fun b S1=>if b=true then t E Z S1 else u E Z S1
def lY (u:Vt)(r:List D)(Q:Z1->Z7->Prop):Z1->Z7->Prop:=fun ρ' S'=>u r ρ' S' Q
def vK (ti:DE)(d:D)(Z:Z1)(Q:Z1->Z7->Prop):DK:=fun o S1=>ti Z S1 (Ei d Z Q o)
def Gy (r:Zx)(x:D)(Q:DK):DK:=fun y S2=>r x y S2 Q
def ud (r:Zx)(tb:DE)(Z:Z1)(Q:DK):DK:=fun x S1=>tb Z S1 (Gy r x Q)
def yW (r:D->Z7->DK->Prop)(Q:DK):DK:=fun x S1=>r x S1 Q
def Ca (x:D)(Q:List D->Z7->Prop):List D->Z7->Prop:=fun xs S2=>Q (x::xs) S2
def v8 (tr:DA)(Z:Z1)(Q:List D->Z7->Prop):DK:=fun x S1=>tr Z S1 (Ca x Q)
def pJ (Q:DK):List D->Z7->Prop:=fun xs S1=>xs.length<=big/\Q (.tup xs) S1
def pR (Q:DK):List D->Z7->Prop:=fun xs S1=>xs.length<=big/\New Q S1 xs
def Gu (f:ZX)(Q:DK):List D->Z7->Prop:=fun xs S1=>f xs S1 Q
def Cv (r:DM)(x:D)(Q:DK):List D->Z7->Prop:=fun xs S2=>r x xs S2 Q
def kM (r:DM)(t:DA)(Z:Z1)(Q:DK):DK:=fun x S1=>(∃ n ys,x=.ref n/\S1[n]?=some (.lst ys))/\t Z S1 (Cv r x Q)
def kT (Q:Bool->Z7->Prop):DK:=fun x S1=>∃ b,x=.bl b/\Q b S1
def lE (u:DT)(Z:Z1)(Q:Bool->Z7->Prop):Bool->Z7->Prop:=fun c S1=>if c=true then u Z S1 Q else Q false S1
def kOr (u:DT)(Z:Z1)(Q:Bool->Z7->Prop):Bool->Z7->Prop:=fun c S1=>if c=true then Q true S1 else u Z S1 Q
def uc (Q:Bool->Z7->Prop):Bool->Z7->Prop:=fun c S1=>Q (!c) S1
def Ez (r:D->Option Int->Option Int->Z7->DK->Prop)(x:D)(l:Option Int)(Q:DK):Option Int->Z7->Prop:=fun h S3=>r x l h S3 Q
def Dz (r:D->Option Int->Option Int->Z7->DK->Prop)(x:D)(hi:Option DE)(Z:Z1)(Q:DK):Option Int->Z7->Prop:=fun l S2=>Ua hi Z S2 (Ez r x l Q)
def u5 (r:D->Option Int->Option Int->Z7->DK->Prop)(lo hi:Option DE)(Z:Z1)(Q:DK):DK:=fun x S1=>Ua lo Z S1 (Dz r x hi Z Q)
section
variable {nx:Z1->Z7->Prop}{Z:Z1}{S:Z7}{Q:DK}{x y:D}{xs:List D}{E:Mj}
def k_drop (h:nx Z S):yR nx Z x S:=h
def Ý {g:DG}(h:g x Z S nx):nR g Z nx x S:=h
def ak {t u:DS}{b:Bool}(h:if b=true then t E Z S else u E Z S):yP t u E Z b S:=h
def zzl {u:Vt}{r:List D}(h:u r Z S nx):lY u r nx Z S:=h
def zyF {ti:DE}{d:D}(h:ti Z S (Ei d Z nx x)):vK ti d Z nx x S:=h
def zzD {r:Zx}(h:r x y S Q):Gy r x Q y S:=h
def zzB {r:Zx}{tb:DE}(h:tb Z S (Gy r x Q)):ud r tb Z Q x S:=h
def dw {r:D->Z7->DK->Prop}(h:r x S Q):yW r Q x S:=h
def zzv {Q:List D->Z7->Prop}(h:Q (x::xs) S):Ca x Q xs S:=h
def ď {tr:DA}{Q:List D->Z7->Prop}(h:tr Z S (Ca x Q)):v8 tr Z Q x S:=h
def Ń (h:xs.length<=big/\Q (.tup xs) S):pJ Q xs S:=h
def cX (h:xs.length<=big/\New Q S xs):pR Q xs S:=h
def zyx {f:ZX}(h:f xs S Q):Gu f Q xs S:=h
def cC {r:DM}(h:r x xs S Q):Cv r x Q xs S:=h
def k_m {r:DM}{t:DA}(h:(∃ n ys,x=.ref n/\S[n]?=some (.lst ys))/\t Z S (Cv r x Q)):kM r t Z Q x S:=h
def k_t {Q:Bool->Z7->Prop}(h:Q b S):kT Q (.bl b) S:=⟨b,rfl,h⟩
def cV {u:DT}{Q:Bool->Z7->Prop}{c:Bool}(h:if c=true then u Z S Q else Q false S):lE u Z Q c S:=h
def jj {u:DT}{Q:Bool->Z7->Prop}{c:Bool}(h:if c=true then Q true S else u Z S Q):kOr u Z Q c S:=h
def zyD {Q:Bool->Z7->Prop}{c:Bool}(h:Q (!c) S):uc Q c S:=h
def jB {r:D->Option Int->Option Int->Z7->DK->Prop}{l o:Option Int}(h:r x l o S Q):Ez r x l Q o S:=h
def zyh {r:D->Option Int->Option Int->Z7->DK->Prop}{l:Option Int}{hi:Option DE}(h:Ua hi Z S (Ez r x l Q)):Dz r x hi Z Q l S:=h
def zzk {r:D->Option Int->Option Int->Z7->DK->Prop}{lo hi:Option DE}(h:Ua lo Z S (Dz r x hi Z Q)):u5 r lo hi Z Q x S:=h
end
section
variable {nx:Z1->Z7->Prop}{rt:DK}{bk ct:Z1->Z7->Prop}{Z:Z1}{S:Z7}
def Cy {t u:DS}(h:t ⟨u ⟨nx,rt,bk,ct⟩,rt,bk,ct⟩ Z S):zj t u ⟨nx,rt,bk,ct⟩ Z S:=h
def yV {t:DS}(J:Z1->Z7->Prop)(h:ug J fun N=>t ⟨N,rt,bk,ct⟩ Z S)(hJ:∀ Z S,J Z S->nx Z S):sJ t ⟨nx,rt,bk,ct⟩ Z S:=⟨J,hJ,h J fun _ _ h=>h⟩
def î (h:nx Z S):zK ⟨nx,rt,bk,ct⟩ Z S:=h
def tW {t:DE}(h:t Z S rt):zE t ⟨nx,rt,bk,ct⟩ Z S:=h
def jA {t:DE}(h:t Z S (yR nx Z)):Za t ⟨nx,rt,bk,ct⟩ Z S:=h
def um {t:DE}{g:DG}(h:t Z S (nR g Z nx)):zq t g ⟨nx,rt,bk,ct⟩ Z S:=h
def zzA {c:DT}{t u:DS}(h:c Z S (yP t u ⟨nx,rt,bk,ct⟩ Z)):ZD c t u ⟨nx,rt,bk,ct⟩ Z S:=h
def ztk {c f:Str}{to tv:DE}(h:tv Z S fun y S1=>to Z S1 fun x S2=>∃ n fs,x=.ref n/\S2[n]?=some (.ins c fs)/\fs.length<100/\nx Z (S2.set n (.ins c (putD f y fs)))):VL c f to tv ⟨nx,rt,bk,ct⟩ Z S:=h
def ē {i:Nat}{t:DE}{a:Int}(e:Z[i]?=some (some (.int a)))(h:t Z S fun y S1=>∃ b,y=.int b/\nx (Z.set i (some (.int (a+b)))) S1):Hw i t ⟨nx,rt,bk,ct⟩ Z S:=⟨a,e,h⟩
def zxN {wi:DI}{g:DG}{t:DS}(h:wi Z S (Cr nx rt g t Z)):YJ wi g t ⟨nx,rt,bk,ct⟩ Z S:=h
def Rn {c:DT}{t:DS}(W:Nat->Z1->Z7->Prop)(m:Nat)(h0:W m Z S)(h:∀ m Z S,W m Z S->c Z S fun b S1=>if b=true then vH W m t rt nx Z S1 else nx Z S1):Vo c t ⟨nx,rt,bk,ct⟩ Z S:=⟨W,⟨m,h0⟩,h⟩
def uT {t:DS}{W:Nat->Z1->Z7->Prop}{m:Nat}(h:t ⟨fun ρ' S'=>∃ m',m'<m/\W m' ρ' S',rt,nx,fun ρ' S'=>∃ m',m'<m/\W m' ρ' S'⟩ Z S):vH W m t rt nx Z S:=⟨_,fun _ _ z=>z,h⟩
def j7 {i:Nat}{d:D}{Q:Z1->Z7->Prop}(h:Q (Z.set i (some d)) S):zP i d Z S Q:=h
def Ä {Q:Z1->Z7->Prop}(h:Q Z S):YW [] Z S Q:=⟨rfl,h⟩
def jL {t:DG}{u:Vt}{d:D}{r:List D}{Q:Z1->Z7->Prop}(h:t d Z S (lY u r Q)):zJ t u (d::r) Z S Q:=⟨d,r,rfl,h⟩
def zun {n:Nat}{t:Vt}{xs:List D}{Q:Z1->Z7->Prop}(e:xs.length=n)(h:t xs Z S Q):YL n t (.tup xs) Z S Q:=⟨xs,rfl,e,h⟩
def Ú {to ti:DE}{d:D}{Q:Z1->Z7->Prop}(h:to Z S (vK ti d Z Q)):Od to ti d Z S Q:=h
def RG {i:Nat}{d:D}{Q:DK}(h:Z[i]?=some (some d))(q:Q d S):Yx i Z S Q:=⟨d,h,q⟩
def r_c {Q:DK}(q:Q d S):dC d Z S Q:=q
def Io {r:Zx}{ta tb:DE}{Q:DK}(h:ta Z S (ud r tb Z Q)):Z6 r ta tb Z S Q:=h
def zzC {r:D->Z7->DK->Prop}{ta:DE}{Q:DK}(h:ta Z S (yW r Q)):Vc r ta Z S Q:=h
def ĝ {Q:List D->Z7->Prop}(h:Q [] S):zm Z S Q:=h
def Aw {ta:DE}{tr:DA}{Q:List D->Z7->Prop}(h:ta Z S (v8 tr Z Q)):zc ta tr Z S Q:=h
def Ab {t:DA}{Q:DK}(h:t Z S (pJ Q)):dTup t Z S Q:=h
def zxw {t:DA}{Q:DK}(h:t Z S (pR Q)):Ye t Z S Q:=h
def zwC {xs:List D}{P:Prop}(h:Nat.ble xs.length big=true)(q:P):xs.length<=big/\P:=⟨qG h,q⟩
def cu {f:ZX}{t:DA}{Q:DK}(h:t Z S (Gu f Q)):dCall f t Z S Q:=h
def r_b {r:DB}{t:DA}{Q:DK}(h:t Z S (Gu r Q)):dB r t Z S Q:=h
def r_m {r:DM}{ta:DE}{t:DA}{Q:DK}(h:ta Z S (kM r t Z Q)):dM r ta t Z S Q:=h
def Fd {n:Nat}{ys:List D}{P:Prop}(h:S[n]?=some (.lst ys))(q:P):(∃ m ys,D.ref n=.ref m/\S[m]?=some (.lst ys))/\P:=⟨⟨n,ys,rfl,h⟩,q⟩
def r_t {t:DE}{Q:Bool->Z7->Prop}(h:t Z S (kT Q)):dT t Z S Q:=h
def zym {P:Bool->Prop}(h:P c):∃ b,D.bl c=D.bl b/\P b:=⟨c,rfl,h⟩
def iT {P:Int->Prop}(h:P c):∃ b,D.int c=D.int b/\P b:=⟨c,rfl,h⟩
def gH {t u:DT}{Q:Bool->Z7->Prop}(h:t Z S (lE u Z Q)):Xw t u Z S Q:=h
def Č {t u:DT}{Q:Bool->Z7->Prop}(h:t Z S (kOr u Z Q)):Vy t u Z S Q:=h
def zxj {t:DT}{Q:Bool->Z7->Prop}(h:t Z S (uc Q)):VP t Z S Q:=h
def Τ {t u:DE}{Q:DK}(h:t Z S fun x S1=>∃ c,x=.bl c/\if c=true then u Z S1 Q else Q (.bl false) S1):Qy t u Z S Q:=h
def zti {t:DE}{Q:DK}(h:t Z S fun x S1=>∃ c,x=.bl c/\Q (.bl (!c)) S1):QK t Z S Q:=h
def zrx {r r':Zx}{ta tb tc:DE}{Q:DK}(h:ta Z S fun x S1=>tb Z S1 fun y S2=>r x y S2 fun z S3=>∃ c,z=.bl c/\if c=true then tc Z S3 fun w S4=>r' y w S4 Q else Q (.bl false) S3):NT r r' ta tb tc Z S Q:=h
def ú {f:Str}{ta:DE}{Q:DK}(h:ta Z S fun x S1=>∃ n c fs d,x=.ref n/\S1[n]?=some (.ins c fs)/\fs.lookup f=some d/\Q d S1):Yi f ta Z S Q:=h
def υ {r:D->Option Int->Option Int->Z7->DK->Prop}{ta:DE}{lo hi:Option DE}{Q:DK}(h:ta Z S (u5 r lo hi Z Q)):Te r ta lo hi Z S Q:=h
def dZ {Q:Option Int->Z7->Prop}(h:Q none S):Ua none Z S Q:=h
def ĩ {t:DE}{Q:Option Int->Z7->Prop}(h:t Z S fun x S1=>∃ i,x=.int i/\Q (some i) S1):Ua (some t) Z S Q:=h
def fH {Q:Bool->Z7->Prop}(h:Q true S):XH Z S Q:=h
end
section
variable {S:Z7}{Q:DK}
def eV {i j:Int}(q:Q (.int (i+j)) S):Zo (.int i) (.int j) S Q:=.inl ⟨i,j,rfl,rfl,q⟩
def zwb {xs ys:List D}(h:xs.length+ys.length<=big)(q:Q (.tup (xs++ys)) S):Zo (.tup xs) (.tup ys) S Q:=.inr (.inl ⟨xs,ys,rfl,rfl,h,q⟩)
def ψ (hx:Lst S x xs)(hy:Lst S y ys)(h:xs.length+ys.length<=big)(q:New Q S (xs++ys)):Zo x y S Q:=.inr (.inr (.inl ⟨xs,ys,hx,hy,h,q⟩))
def zvS {i j:Str}(h:i.length+j.length<=big)(q:Q (.str (i++j)) S):Zo (.str i) (.str j) S Q:=.inr (.inr (.inr ⟨i,j,rfl,rfl,h,q⟩))
def ό {i j:Int}(q:Q (.int (i-j)) S):Zh (.int i) (.int j) S Q:=⟨i,j,rfl,rfl,q⟩
def jK (c:YQ i j)(q:Q (.int (i*j)) S):YZ (.int i) (.int j) S Q:=.inl ⟨i,j,rfl,rfl,c,q⟩
def zxV {c:Nat}{z:Str}(q:Q (.bl (decide (c∈z.cps.toList))) S):J6 (.str ⟨#[c]⟩) (.str z) S Q:=.inr ⟨c,z,rfl,rfl,q⟩
def ĕ {i j:Int}(c:0<j/\My.Bd 8000 j)(q:Q (.int (i/j)) S):oDiv (.int i) (.int j) S Q:=⟨i,j,rfl,rfl,⟨by lia,c.2⟩,by show Q (.int (i.fdiv j)) S;rw[Int.fdiv_eq_ediv_of_nonneg i (by lia)];exact q⟩
def oO {i j:Int}(c:0<j)(q:Q (.int (i%j)) S):oMod (.int i) (.int j) S Q:=⟨i,j,rfl,rfl,(by show j≠0;lia),by show Q (.int (i.fmod j)) S;rw[Int.fmod_eq_emod_of_nonneg i (by lia)];exact q⟩
def vA (c:lC i j)(q:Q (.int (i.fdiv j)) S):oDiv (.int i) (.int j) S Q:=⟨i,j,rfl,rfl,c,q⟩
def iZ {i j:Int}(c:j≠0)(q:Q (.int (i.fmod j)) S):oMod (.int i) (.int j) S Q:=⟨i,j,rfl,rfl,c,q⟩
def ű (c:m8 i j)(q:Q (.int (i*2 ^ j.toNat)) S):Ib (.int i) (.int j) S Q:=⟨i,j,rfl,rfl,c,q⟩
def iW {i j:Int}(c:0<=j)(q:Q (.int (i/2 ^ j.toNat)) S):Ia (.int i) (.int j) S Q:=⟨i,j,rfl,rfl,c,q⟩
def zvj {i:Int}(q:Q (.int (i%2)) S):JG (.int i) (.int 1) S Q:=⟨i,1,rfl,rfl,fun v e=>by rw[e rfl];exact q⟩
def zwV {i:Int}(q:Q (.int (-i)) S):Vd (.int i) S Q:=⟨i,rfl,q⟩
def jm {i j:Int}(q:Q (.bl (decide (i<j))) S):oLt (.int i) (.int j) S Q:=⟨i,j,rfl,rfl,q⟩
def ľ {i j:Int}(q:Q (.bl (decide (i<=j))) S):oLe (.int i) (.int j) S Q:=⟨i,j,rfl,rfl,q⟩
def zyn {i j:Int}(q:Q (.bl (decide (j<i))) S):XS (.int i) (.int j) S Q:=⟨i,j,rfl,rfl,q⟩
def zza {i j:Int}(q:Q (.bl (decide (j<=i))) S):JD (.int i) (.int j) S Q:=⟨i,j,rfl,rfl,q⟩
def fK {i j:Int}(q:Q (.bl (decide (i=j))) S):oEq (.int i) (.int j) S Q:=⟨_,.inl ⟨rfl,rfl,rfl⟩,q⟩
def zxG {i j:Int}(q:Q (.bl (!decide (i=j))) S):Yh (.int i) (.int j) S Q:=⟨_,.inl ⟨rfl,rfl,rfl⟩,q⟩
def zy9 {x:D}(q:Q (.bl (Xr x)) S):KC x .non S Q:=.inl ⟨rfl,q⟩
def ztl (q:Q (.bl false) S):Wi .non .non S Q:=.inl ⟨rfl,q⟩
def zue {i:Int}(q:Q (.bl true) S):Wi (.int i) .non S Q:=.inl ⟨rfl,q⟩
def fL {xs:List D}(q:Q (.bl true) S):Wi (.tup xs) .non S Q:=.inl ⟨rfl,q⟩
def zwz {x:D}(q:Q (.bl (!Xr x)) S):Wi x .non S Q:=.inl ⟨rfl,q⟩
def Ŧ {xs:List D}{i:Int}{d:D}(e:Yu xs i=some d)(q:Q d S):ZL (.tup xs) (.int i) S Q:=.inl ⟨i,xs,d,rfl,.inl rfl,e,q⟩
def rB {i:Int}{d:D}(h:Lst S x xs)(e:Yu xs i=some d)(q:Q d S):ZL x (.int i) S Q:=.inl ⟨i,xs,d,rfl,.inr h,e,q⟩
def eN {z:Str}{i:Int}{c:Nat}(hz:z.length<=big)(e:atS z i=some c)(q:Q (.str ⟨#[c]⟩) S):ZL (.str z) (.int i) S Q:=.inr ⟨z,i,c,rfl,rfl,hz,e,q⟩
def d9 {lo hi:Option Int}(h:Lst S x xs)(q:New Q S (cutD xs lo hi)):RN x lo hi S Q:=.inr (.inl ⟨xs,h,q⟩)
def iK {xs:List D}(q:Q (.int xs.length) S):Zg [.tup xs] S Q:=.inl ⟨_,xs,rfl,.inl rfl,q⟩
def δ (h:Lst S x xs)(q:Q (.int xs.length) S):Zg [x] S Q:=.inl ⟨_,xs,rfl,.inr h,q⟩
def vN {z:Str}(hz:z.length<=big)(q:Q (.int z.length) S):Zg [.str z] S Q:=.inr ⟨z,rfl,hz,q⟩
def jw {i:Int}(q:Q (.int (i.natAbs:Int)) S):Ie [.int i] S Q:=⟨i,rfl,q⟩
def fJ {i j:Int}(q:Q (.int (max i j)) S):Qm [.int i,.int j] S Q:=⟨i,j,rfl,q⟩
def ztS {i j:Int}(q:Q (.int (min i j)) S):Rr [.int i,.int j] S Q:=⟨i,j,rfl,q⟩
def Ě {ns:List Int}(h:Lst S x (ns.map D.int))(h0:0<ns.length)(q:∀ m:Int,m∈ns->(∀ a∈ns,a<=m)->Q (.int m) S):Je [x] S Q:=⟨x,ns,rfl,h,h0,q⟩
def vJ {ns:List Int}(h:Lst S x (ns.map D.int))(h0:0<ns.length)(q:∀ m:Int,m∈ns->(∀ a∈ns,m<=a)->Q (.int m) S):Mg [x] S Q:=⟨x,ns,rfl,h,h0,q⟩
def dD {bs:List Bool}(h:Lst S x (bs.map D.bl))(q:Q (.bl (bs.all id)) S):U5 [x] S Q:=⟨x,bs,rfl,h,q⟩
def vW (h:Lst S x xs)(q:New Q S xs):U0 [x] S Q:=⟨_,xs,rfl,.inr h,q⟩
def Js {n:Nat}{xs:List D}{y:D}(h:S[n]?=some (.lst xs))(hl:xs.length<big)(q:Put (Q .non) S n (.lst (xs++[y]))):Vu (.ref n) [y] S Q:=⟨n,xs,y,rfl,rfl,h,hl,q⟩
def uq {n m:Nat}{xs ys:List D}(h:S[n]?=some (.lst xs))(hy:S[m]?=some (.lst ys))(hn:m≠n)(hl:xs.length+ys.length<=big)(q:Put (Q .non) S n (.lst (xs++ys))):K8 (.ref n) [.ref m] S Q:=.inl ⟨n,xs,m,ys,rfl,rfl,h,hy,hn,hl,q⟩
def zsW {n:Nat}{xs:List D}{y:D}(h:S[n]?=some (.lst (y::xs)))(q:Put (Q y) S n (.lst xs)):Ht (.ref n) [.int 0] S Q:=⟨n,xs,y,rfl,rfl,h,q⟩
def Dn {n:Nat}{xs:List D}(h:S[n]?=some (.lst xs))(q:Put (Q .non) S n (.lst [])):PN (.ref n) [] S Q:=⟨n,xs,rfl,rfl,h,q⟩
def zw0 {n:Nat}{xs:List D}{k:Int}{j:Nat}{d:D}{Z:Z1}{Q:Z1->Z7->Prop}(h:S[n]?=some (.lst xs))(e:W6 xs.length k=some j)(q:Put (Q Z) S n (.lst (xs.set j d))):Ei d Z Q (.ref n) (.int k) S:=⟨n,xs,k,j,rfl,rfl,h,e,q⟩
end
section
variable {Z:Z1}{S:Z7}{R:TV->Z7->Prop}
def j6 {t:DE}(h:t Z S fun x S1=>Np x S1 R):Zn t Z S R:=h
def ā {xs:List D}(q:R ⟨xs,fun _=>True⟩ S):Np (.tup xs) S R:=.inl ⟨xs,rfl,q⟩
def cB (h:Lst S x xs)(q:R ⟨xs,fun S=>Lst S x xs⟩ S):Np x S R:=.inr (.inl ⟨xs,h,q⟩)
def zx3 {z:Str}(q:R ⟨signs z,fun _=>True⟩ S):Np (.str z) S R:=.inr (.inr ⟨z,rfl,q⟩)
def fU {t:DA}(h:t Z S fun vs S1=>∃ j:Int,vs=[.int j]/\-(2 ^ 62)<=j/\j<2 ^ 62/\R ⟨upto 0 j.toNat,fun _=>True⟩ S1):RP t Z S R:=h
def ô {t:DA}(h:t Z S fun vs S1=>∃ i j:Int,vs=[.int i,.int j]/\R ⟨upto i (j-i).toNat,fun _=>True⟩ S1):Ju t Z S R:=h
def œ {t:DA}(h:t Z S (GF R)):V4 t Z S R:=h
def Ow (h:Lst S x xs)(q:R ⟨Vv 0 xs,fun S=>Lst S x xs⟩ S):GF R [x] S:=⟨x,xs,rfl,h,q⟩
def ă {Q:DK}{zs:List Str}(hx:Lst S x (zs.map D.str))(hl:zs.length<=4000)(q:Q (.int (Hq zs)) S):J4 [x] S Q:=⟨x,zs,rfl,hx,hl,q⟩
def zws {t:DA}(h:t Z S (CK R)):Ih t Z S R:=h
def zzt (hx:Lst S x xs)(hy:Lst S y ys)(q:R ⟨Yp xs ys,fun S=>Lst S x xs/\Lst S y ys⟩ S):CK R [x,y] S:=.inl ⟨x,y,xs,ys,rfl,hx,hy,q⟩
def zyN {own:Nat}{fv:List Nat}{wi:DI}{g:DG}{tc:DT}{te:DE}{Q:DK}(h:wi Z S (Fp own fv g tc te Z Q)):Zf own fv wi g tc te Z S Q:=h
end
def CT {A B:Prop}(h:B):if false=true then A else B:=by rw[if_neg qr];exact h
def GX {A B:Prop}(h:A):if true=true then A else B:=by rw[if_pos rfl];exact h
def Zi {c A B:Prop}[Decidable c](h1:c->A)(h2:¬ c->B):if decide c=true then A else B:=by
 by_cases h:c
 ·rw[decide_eq_true h,if_pos rfl];exact h1 h
 ·rw[decide_eq_false h,if_neg qr];exact h2 h
def Xa {c A B:Prop}[Decidable c](h1:¬ c->A)(h2:c->B):if(!decide c)=true then A else B:=by
 by_cases h:c
 ·rw[decide_eq_true h];exact h2 h
 ·rw[decide_eq_false h];exact h1 h
def zQ (S T:Z7)(k:Nat):(S++T)[S.length+k]?=T[k]?:=by rw[qe (Nm _ _),Ig]
def zqO (S T:Z7):(S++T)[S.length]?=T[0]?:=zQ S T 0
def zM {S T:Z7}{c:Cell}:(S++c::T)[S.length]?=some c:=(zQ S (c::T) 0).trans rfl
def OJ {S T:Z7}{c:Cell}:(S++(T++[c]))[S.length+T.length]?=some c:=by rw[zQ,qe (qh _),Yk];rfl
def ĉ (S T:Z7)(k:Nat)(c:Cell):(S++T).set (S.length+k) c=S++T.set k c:=by rw[RD _ _ (Nm _ _),Ig]
def SQ (S T:Z7)(a c:Cell):(S++a::T).set S.length c=S++c::T:=ĉ S (a::T) 0 c
def zy {S T:Z7}{n:Nat}{c:Cell}(h:S[n]?=some c):(S++T)[n]?=some c:=by
 have:n<S.length:=by
  rcases Yv n S.length with g|g
  ·exact g
  ·rw[qw g]at h;cases h
 rw[qg this];exact h
def Lst.old {T:Z7}(h:Lst S x xs):Lst (S++T) x xs:=h.imp id fun zq14=>by obtain⟨n,e,h⟩:=zq14;exact⟨n,e,zy h⟩
def Lst.at {S T:Z7}{k:Nat}{xs:List D}(h:T[k]?=some (.lst xs)):Lst (S++T) (.ref (S.length+k)) xs:=.inr ⟨_,rfl,by rw[zQ];exact h⟩
def Lst.at0 {S T:Z7}{xs:List D}:Lst (S++.lst xs::T) (.ref S.length) xs:=.inr ⟨_,rfl,by rw[zqO];rfl⟩
def Lst.new {S T:Z7}{xs:List D}:Lst (S++(T++[.lst xs])) (.ref (S.length+T.length)) xs:=.inr ⟨_,rfl,OJ⟩
theorem Lst.rl {S:Z7}{xs:List D}:Lst S (.rl xs) xs:=.inl rfl
def Lst.here {S:Z7}{n:Nat}{xs:List D}(h:S[n]?=some (.lst xs)):Lst S (.ref n) xs:=.inr ⟨n,rfl,h⟩
def Td {T:Z7}{Q:DK}{d:D}(h:fl 20 d=true)(q:Q d S):Fin S Q d (S++T):=.inr ⟨S,Nq _ _,qh _,.inl h,fun _ _ e=>.inl e,q⟩
def fin_same {S:Z7}{Q:DK}(q:Q d S'):Fin S Q d S':=.inl q
section
variable {S:Z7}{Q:DK}
def Š {i:Int}(q:Q (.bl true) S):Sy [.int i,.ty "int"] S Q:=⟨_,_,true,rfl,by rfl,q⟩
def zhg {i:Int}(q:Q (.bl false) S):Sy [.int i,.ty "bool"] S Q:=⟨_,_,false,rfl,by rfl,q⟩
def aq {xs:List D}(q:Q (.bl true) S):Sy [.tup xs,.ty "tuple"] S Q:=⟨_,_,true,rfl,by rfl,q⟩
end
def zxm {A B:Prop}(h:B):if(!true)=true then A else B:=CT h
def Û {A B:Prop}(h:A):if(!false)=true then A else B:=GX h
def Mh {Q:DK}{bs:List Bool}{b:Bool}(h:Lst S x (bs.map D.bl))(e:bs.all id=b)(q:Q (.bl b) S):U5 [x] S Q:=dD h (by rw[e];exact q)
def R8 (S:Z7)(items:List D)(p:D->Bool)(f:D->D)(i:Nat)(ys:List D)(S':Z7):Prop:=S'=S/\ys=((items.take i).filter p).map f
def WY {α:Type}{xs:List α}{i:Nat}{x:α}(h:xs[i]?=some x):xs.take (i+1)=xs.take i++[x]:=by rw[List.take_succ,h];rfl
def Xu {items:List D}{i:Nat}{d y:D}(hd:items[i]?=some d)(hw:R8 S items p f i ys S)(hp:p d=true)(hy:y=f d):R8 S items p f (i+1) (ys++[y]) S :=⟨rfl,by rw[WY hd,Rj,qB,<- hw.2,Hu hp,hy];rfl⟩
def Wa {items:List D}{i:Nat}{d:D}(hd:items[i]?=some d)(hw:R8 S items p f i ys S)(hp:p d=false):R8 S items p f (i+1) ys S :=⟨rfl,by rw[WY hd,Rj,qB,<- hw.2,Jo (by rw[hp];exact qr)];simp⟩
def Xm {own:Nat}{fv:List Nat}{xs:List D}{ok:Z7->Prop}{g:DG}{tc:DT}{te:DE}{Z:Z1}{S:Z7}(p:D->Bool)(f:D->D)(hok:ok S)(hbig:xs.length<=big)(step:∀ i d ys,xs[i]?=some d->R8 S xs p f i ys S->g d (Q5 own fv Z) S fun ρ2 S2=>tc ρ2 S2 fun b S3=>if b=true then te ρ2 S3 fun y S4=>R8 S xs p f (i+1) (ys++[y]) S4 else R8 S xs p f (i+1) ys S3)(q:New Q S ((xs.filter p).map f)):Fp own fv g tc te Z Q ⟨xs,ok⟩ S:=by
 refine⟨hbig,R8 S xs p f,⟨rfl,by simp⟩,fun i ys S' h=>by rw[h.1];exact hok,fun i d ys S' hd h=>?_,fun ys S' h=>?_⟩
 ·obtain⟨rfl,_⟩:=id h;exact step i d ys hd h
 ·obtain⟨rfl,rfl⟩:=h;rw[Vb];exact q
def filter_true (xs:List α):xs.filter (fun _=>true)=xs:=List.filter_eq_self.mpr fun _ _=>rfl
def Lq {ds:List D}{i:Nat}{d:D}(h:ds[i]?=some d):Yu ds (i:Int)=some d:=by
 have hl:i<ds.length:=by
  rcases Yv i ds.length with g|g
  ·exact g
  ·rw[qw g]at h;cases h
 unfold Yu W6;rw[if_pos (by lia),if_pos (by lia)];simpa using h
def J9 {lo:Int}{n i:Nat}{d:D}(h:(upto lo n)[i]?=some d):i<n/\d=.int (lo+i):=by
 unfold upto at h;rw[qi]at h;by_cases hi:i<n
 ·rw[Hz hi]at h;exact⟨hi,by simpa using h.symm⟩
 ·rw[qw (by simpa using hi)]at h;cases h
def BW (lo:Int)(n:Nat):(upto lo n).length=n:=by unfold upto;simp
def rH {zs:List Int}{k:Int}(h0:0<=k)(h:k<zs.length):∃ z,z∈zs/\Yu (zs.map D.int) k=some (.int z):=by refine⟨zs[k.toNat]'(by lia),List.getElem_mem _,?_⟩;unfold Yu W6;rw[qa,if_pos h0,if_pos h];simp only[Option.bind_some];rw[qi,qb (by lia)];rfl
def jZ {zs:List Int}{k:Int}(h0:0<=k)(h:k<zs.length):W6 (zs.map D.int).length k=some k.toNat:=by unfold W6;rw[qa,if_pos h0,if_pos h]
def zpt {zs:List Int}{i:Nat}{v z:Int}(h:z∈zs.set i v):z∈zs\/z=v:=by
 rcases El h with h|h
 ·exact .inl h
 ·exact .inr h
def Ou {zs:List Int}{i:Nat}{d:D}(h:(zs.map D.int)[i]?=some d):∃ z,zs[i]?=some z/\d=.int z:=by
 rw[qi]at h;cases e:zs[i]? with
 |none=>rw[e]at h;cases h
 |some p=>rw[e]at h;cases h;exact⟨p,rfl,rfl⟩
def Gs {cs:List (Int×Int)}{i:Nat}{d:D}(h:(cs.map p2)[i]?=some d):∃ c,cs[i]?=some c/\d=p2 c:=by
 rw[qi]at h;cases e:cs[i]? with
 |none=>rw[e]at h;cases h
 |some p=>rw[e]at h;cases h;exact⟨p,rfl,rfl⟩
def zu {α:Type}{xs:List α}{i:Nat}{x:α}(h:xs[i]?=some x):i<xs.length:=by
 rcases Yv i xs.length with g|g
 ·exact g
 ·rw[qw g]at h;cases h
def Vw:Option Int->D
 |none=>.non
 |some v=>.int v
theorem R6:∀ {xs:List D} {k i:Nat} {d:D},(Vv k xs)[i]?=some d->∃ x,xs[i]?=some x/\d=.tup [.int ((k+i:Nat):Int),x]
 |[],k,i,d,h=>by simp[Vv]at h
 |x::xs,k,0,d,h=>⟨x,rfl,by simpa [Vv]using h.symm⟩
 |x::xs,k,i+1,d,h=>by obtain⟨y,e1,e2⟩:=R6 (xs:=xs) (k:=k+1) (i:=i) (d:=d) (by simpa [Vv]using h);exact⟨y,by simpa using e1,by rw[e2,show k+1+i=k+(i+1) by lia]⟩
theorem VJ:∀ (k:Nat) (xs:List D),(Vv k xs).length=xs.length
  |_,[]=>rfl
  |k,x::xs=>congrArg (· + 1) (VJ (k+1) xs)
theorem J3:∀ {xs ys:List D} {i:Nat} {d:D},(Yp xs ys)[i]?=some d->∃ x y,xs[i]?=some x/\ys[i]?=some y/\d=.tup [x,y]
 |[],ys,i,d,h=>by simp[Yp]at h
 |x::xs,[],i,d,h=>by simp[Yp]at h
 |x::xs,y::ys,0,d,h=>⟨x,y,rfl,rfl,by simpa [Yp]using h.symm⟩
 |x::xs,y::ys,i+1,d,h=>by obtain⟨a,b,e1,e2,e3⟩:=J3 (xs:=xs) (ys:=ys) (i:=i) (d:=d) (by simpa [Yp]using h);exact⟨a,b,by simpa using e1,by simpa using e2,e3⟩
theorem Qt:∀ (xs ys:List D),(Yp xs ys).length=min xs.length ys.length
 |[],ys=>by simp[Yp]
 |x::xs,[]=>by simp[Yp]
 |x::xs,y::ys=>by show(Yp xs ys).length+1=min (xs.length+1) (ys.length+1);rw[Qt xs ys];lia
def spT (T:Z7):ZX:=fun ds S Q=>∃ ns:List Int,ds=[.rl (ns.map D.int)]/\(S=T/\∀ n∈ns,Hg n)/\ns.length<=63/\∀ S',Q (.bl true) S'
abbrev Pj:ZX:=spT []
def M4 {α β:Type}(f:α->β)(xs:List α)(lo hi:Option Int):cutD (xs.map f) lo hi=(cutD xs lo hi).map f:=by unfold cutD;rw[qa,List.map_take,List.map_drop]
def zrs (xs:List α)(lo hi:Option Int):(cutD xs lo hi).length<=Xk xs.length xs.length hi-Xk xs.length 0 lo:=by unfold cutD;rw[V7];lia
def yC (f:Int->D):D->D
 |.int h=>f h
 |d=>d
def Đ (f:Int->D)(hs:List Int):(hs.map D.int).map (yC f)=hs.map f:=by rw[Yg];rfl
section
variable {nx:Z1->Z7->Prop}{rt:DK}{bk ct:Z1->Z7->Prop}{Z:Z1}{S:Z7}
def zsl {f:Yq}{ex:XR}{t:DA}{Q:DK}(h:t Z S fun xs S1=>f xs S1 Q (ex Z)):X8 f ex t Z S Q:=h
def Ϯ {ex:XR}{c:Str}(h:ex Z c S):SN ex c ⟨nx,rt,bk,ct⟩ Z S:=h
end
def zr3 {Q:DK}{x y:Str}{b:Bool}(fx:fl 20 (.str x)=true)(fy:fl 20 (.str y)=true)(e:(x==y)=b)(q:Q (.bl b) S):oEq (.str x) (.str y) S Q:=⟨_,.inl ⟨fx,fy,rfl⟩,by show Q (.bl (x==y)) S;rw[e];exact q⟩
def Δ {S:Z7}{Q:DK}{x y:Str}{b:Bool}(fx:fl 20 (.str x)=true)(fy:fl 20 (.str y)=true)(e:(x==y)=b)(q:Q (.bl (!b)) S):Yh (.str x) (.str y) S Q:=⟨_,.inl ⟨fx,fy,rfl⟩,by show Q (.bl (!(x==y))) S;rw[e];exact q⟩
section
variable {nx:Z1->Z7->Prop}{rt:DK}{bk ct:Z1->Z7->Prop}{Z:Z1}{S:Z7}{Q:DK}{td ti tz tv:DE}
def zve (h:Q (.ref S.length) (S++[.dk []])):Mz Z S Q:=h
def π (h:Q (.ref S.length) (S++[.dn [] 0])):Lx Z S Q:=h
def ε {tk:DE}(h:tk Z (S++[.dt []]) fun x S1=>tv Z S1 fun y S2=>∃ ks,x=.tup (ks.map kD)/\S2[S.length]?=some (.dt [])/\Q (.ref S.length) (S2.set S.length (.dt [(ks,y)]))):Lr tk tv Z S Q:=h
def Λ {R:TV->Z7->Prop}(h:td Z S fun x S1=>∃ n Z8 e,x=.ref n/\S1[n]?=some (.dn Z8 e)/\R ⟨Z8.map fun kv=>.tup [.tup (kv.1.map kN),kv.2],fun S=>S[n]?=some (.dn Z8 e)⟩ S1):JV td Z S R:=h
def zwj (h:td Z S fun x S1=>ti Z S1 fun y S2=>∃ d,Zj S2 x y (some d)/\Q d S2):Vx td ti Z S Q:=h
def gB (h:ti Z S fun y S1=>td Z S1 fun x S2=>∃ o,Zj S2 x y o/\Q (.bl o.isSome) S2):Oh ti td Z S Q:=h
def zoR (h:ti Z S fun y S1=>td Z S1 fun x S2=>∃ o,Zj S2 x y o/\Q (.bl (!o.isSome)) S2):Ql ti td Z S Q:=h
def Ô (h:td Z S fun x S1=>Fj S1 x/\ti Z S1 fun y S2=>tz Z S2 fun z S3=>∃ o,Zj S3 x y o/\Q (o.getD z) S3):Lp td ti tz Z S Q:=h
def zvs (h:tv Z S fun v S1=>td Z S1 fun x S2=>ti Z S2 fun y S3=>Ti S3 x y v (nx Z)):Nb td ti tv ⟨nx,rt,bk,ct⟩ Z S:=h
def Zj.k {n:Nat}{Z8:List (Str×D)}{z:Str}{o:Option D}(h:S[n]?=some (.dk Z8))(e:dval Z8 z=o):Zj S (.ref n) (.str z) o:=.inl ⟨n,Z8,z,rfl,rfl,h,e.symm⟩
def Zj.t {n:Nat}{Z8:List (List (Sum Int Str)×D)}{ks:List (Sum Int Str)}{o:Option D}(h:S[n]?=some (.dt Z8))(e:dval Z8 ks=o):Zj S (.ref n) (.tup (ks.map kD)) o:=.inr (.inl ⟨n,Z8,ks,rfl,rfl,h,e.symm⟩)
theorem Zj.n {n:Nat}{Z8:List (List (List (Sum Int Str))×D)}{ks:List (List (Sum Int Str))}{o:Option D}{ep:Nat}(h:S[n]?=some (.dn Z8 ep))(e:dval Z8 ks=o):Zj S (.ref n) (.tup (ks.map kN)) o:=.inr (.inr ⟨n,Z8,ep,ks,rfl,rfl,h,e.symm⟩)
def Ti.k {n:Nat}{Z8:List (Str×D)}{z:Str}{v:D}(h:S[n]?=some (.dk Z8))(hl:Z8.length<big)(q:Put P S n (.dk (dput Z8 z v))):Ti S (.ref n) (.str z) v P:=.inl ⟨n,Z8,z,rfl,rfl,h,hl,q⟩
def Ti.t {n:Nat}{Z8:List (List (Sum Int Str)×D)}{ks:List (Sum Int Str)}{v:D}(h:S[n]?=some (.dt Z8))(hl:Z8.length<big)(q:Put P S n (.dt (dput Z8 ks v))):Ti S (.ref n) (.tup (ks.map kD)) v P:=.inr ⟨n,Z8,ks,rfl,rfl,h,hl,q⟩
theorem O4.n {n:Nat}{Z8:List (List (List (Sum Int Str))×D)}{ks:List (List (Sum Int Str))}{v:D}{P:Z7->Prop}{e:Nat}(h:S[n]?=some (.dn Z8 e))(hl:Z8.length<big)(q:∀ e',Put P S n (.dn (dput Z8 ks v) e')):O4 S (.ref n) (.tup (ks.map kN)) v P:=⟨n,Z8,e,ks,rfl,rfl,h,hl,q⟩
def zsV (h:tv Z S fun v S1=>td Z S1 fun x S2=>ti Z S2 fun y S3=>O4 S3 x y v (nx Z)):Tj td ti tv ⟨nx,rt,bk,ct⟩ Z S:=h
end
section
variable {κ:Type}[DecidableEq κ]
def uY {k:κ}:dval ([]:List (κ×D)) k=none:=rfl
def Ws {p:κ×D}{Z8:List (κ×D)}{k:κ}:dval (p::Z8) k=if p.1=k then some p.2 else dval Z8 k:=by
 unfold dval;rw[List.find?_cons];by_cases h:p.1=k
 ·rw[if_pos h,decide_eq_true h];rfl
 ·rw[if_neg h,decide_eq_false h]
def Qp (Z8:List (κ×D))(k:κ):(Z8.any fun kv=>decide (kv.1=k))=(dval Z8 k).isSome:=by
 induction Z8 with
 |nil=>rfl
 |cons p Z8 ih =>
  rw[Ku,Ws,ih];by_cases h:p.1=k
  ·rw[if_pos h,decide_eq_true h];rfl
  ·rw[if_neg h,decide_eq_false h];rfl
def wG (Z8:List (κ×D))(k j:κ)(v:D):dval (Z8++[(k,v)]) j=(dval Z8 j).or (if k=j then some v else none):=by
 induction Z8 with
 |nil=>rw[List.nil_append,Ws,uY];simp
 |cons p Z8 ih =>
  rw[HS,Ws,Ws,ih];by_cases h:p.1=j
  ·rw[if_pos h,if_pos h];rfl
  ·rw[if_neg h,if_neg h]
def zo3 (Z8:List (κ×D))(k j:κ)(v:D):dval (dput Z8 k v) j=if k=j then some v else dval Z8 j:=by
  unfold dput;rw[Qp];cases e:dval Z8 k with
  |none =>
    rw[show(none:Option D).isSome=false from rfl,if_neg qr,wG];by_cases h:k=j
    . subst h;rw[e,if_pos rfl];rfl
    . rw[if_neg h,if_neg h];cases dval Z8 j<;>rfl
  |some w =>
    rw[show(some w).isSome=true from rfl,if_pos rfl]
    have:∀ Z8:List (κ×D),dval (Z8.map fun kv=>if kv.1=k then(kv.1,v)else kv) j=if k=j then(dval Z8 j).map fun _=>v else dval Z8 j:=fun Z8=>by
      induction Z8 with
      |nil=>simp[uY]
      |cons p Z8 ih =>
        rw[qQ,Ws,Ws,ih];by_cases hp:p.1=k
        . rw[if_pos hp];by_cases h:k=j
          . rw[if_pos h,if_pos (hp.trans h),if_pos (hp.trans h)];simp[h]
          . have:¬ p.1=j:=fun z=>h (hp.symm.trans z)
            rw[if_neg this,if_neg this,if_neg h]
        . rw[if_neg hp];by_cases h:k=j
          . have:¬ p.1=j:=fun z=>hp (z.trans h.symm)
            rw[if_neg this,if_neg this]
          . rw[if_neg h,if_neg h]
    rw[this];by_cases h:k=j
    . subst h;rw[if_pos rfl,if_pos rfl,e];rfl
    . rw[if_neg h,if_neg h]
def znu (Z8:List (κ×D))(k:κ)(v:D):(dput Z8 k v).map (·.1)=if(dval Z8 k).isSome=true then Z8.map (·.1)else Z8.map (·.1)++[k]:=by
  unfold dput;rw[Qp];split
  . rw[Yg];refine List.map_congr_left fun p _=>?_
    show(if p.1=k then(p.1,v)else p).1=p.1;split<;>rfl
  . rw[qB];rfl
end
def Ew (c:List Str)(z:Str):(Tc c z).length=if c.any (·==z)then c.length else c.length+1:=by unfold Tc;split<;>simp
def nQ (c:List Str)(z y:Str):(Tc c z).any (·==y)=(c.any (·==y)||decide (y=z)):=by
  unfold Tc;by_cases h:c.any (·==z)=true
  . rw[if_pos h];by_cases e:y=z
    . subst e;rw[h];rfl
    . rw[decide_eq_false e,Bool.or_false]
  . rw[if_neg h,List.any_append];congr 1;by_cases e:y=z
    . subst e;simp
    . rw[decide_eq_false e];have:(z==y)=false:=beq_eq_false_iff_ne.mpr fun q=>e q.symm
      simp[this]
theorem Gj (f:Nat->Str):∀ i,(Yd f i).length<=i
  |0=>qh _
  |i+1=>by have:=Gj f i;show(Tc (Yd f i) (f i)).length<=i+1;rw[Ew];split<;>lia
theorem uR (f:Nat->Str)(y:Str):∀ i,((Yd f i).any (·==y)=true↔∃ j,j<i/\f j=y)
  |0=>⟨fun h=>(by simp[Yd]at h),fun⟨j,hj,_⟩=>(by lia)⟩
  |i+1=>by
    show((Tc (Yd f i) (f i)).any (·==y)=true)↔_;rw[nQ,N5,uR f y i,decide_eq_true_eq];constructor
    . rintro(⟨j,hj,e⟩|e)
      . exact⟨j,by lia,e⟩
      . exact⟨i,by lia,e.symm⟩
    . rintro⟨j,hj,e⟩;rcases Yv j i with h|h
      . exact .inl ⟨j,h,e⟩
      . have:j=i:=by lia
        subst this;exact .inr e.symm
theorem uy (f:Nat->Str):∀ i,(∀ a b,a<b->b<i->f a≠f b)->(Yd f i).length=i
 |0,_=>rfl
 |i+1,h=>by show(Tc (Yd f i) (f i)).length=i+1;rw[Ew,uy f i fun a b x y=>h a b x (by lia)];rw[if_neg];intro z;obtain⟨j,hj,e⟩:=(uR f (f i) i).mp z;exact h j i hj (by lia) e
def zkX {zs:List Str}(h:zs.Nodup):Hq zs=zs.length:=uy _ _ fun a b hab hb=>by show zs.getD a Str.empty≠zs.getD b Str.empty;rw[qI,qI,qb hb,qb (show a<zs.length by lia)];exact R5.mp h a b (by lia) hb hab
end Dp
namespace Rm
structure Pc where
 lo:Int
 hi:Int
 to:Int
 st:Int
instance:DecidableEq Pc:=fun p q=>if h:p.lo=q.lo/\p.hi=q.hi/\p.to=q.to/\p.st=q.st then isTrue (by cases p;cases q;obtain⟨h1,h2,h3,h4⟩:=h;cases h1;cases h2;cases h3;cases h4;rfl)else isFalse (fun e=>h (by subst e;exact⟨rfl,rfl,rfl,rfl⟩))
def Pc.led (p:Pc)(h:Int):Int:=p.to+p.st*(h-p.lo)
def DN (p:Pc)(h:Int):Prop:=p.lo<=h/\h<=p.hi
instance (p:Pc) (h:Int):Decidable (DN p h):=by unfold DN;infer_instance
def at':List Pc->Int->Option Int
 |[],_=>none
 |p::r,h=>if DN p h then some (p.led h)else at' r h
end Rm
namespace Dp
open PySem Rm
open PySem Rm My
def zoZ {xs:List D}{x:D}:W6 (xs++[x]).length (-1)=some xs.length:=by
 have hl:((xs++[x]).length:Int)=xs.length+1:=by simp
 unfold W6;rw[if_neg (by lia),if_pos (by lia)];congr 1;lia
def Ν {xs:List D}{x:D}:Yu (xs++[x]) (-1)=some x:=by unfold Yu;rw[zoZ];simp
end Dp
namespace Dp
open PySem Rm My
def ļ (f:Int×Int->D):D->D
 |.tup [.int a,.int b]=>f (a,b)
 |d=>d
def ind (b:Bool):Int:=if b=true then 1 else 0
end Dp
namespace Rm
open My Dp
def Zc (L R B T x1 z1 x2 z2:Int):List Int :=[(x2-x1)*(B-z1)-(z2-z1)*(L-x1),(x2-x1)*(T-z1)-(z2-z1)*(L-x1),(x2-x1)*(B-z1)-(z2-z1)*(R-x1),(x2-x1)*(T-z1)-(z2-z1)*(R-x1)]
def Wk (L R B T x1 z1 x2 z2:Int):Prop :=L<=(max x1 x2)/\(min x1 x2)<=R/\B<=(max z1 z2)/\(min z1 z2)<=T/\(∃ a∈Zc L R B T x1 z1 x2 z2,0<=a)/\∃ a∈Zc L R B T x1 z1 x2 z2,a<=0
def Q7 (lo hi st sp e1 e2 x1 x2:Int):Prop :=
 (sp=0/\lo<=st/\st<=hi/\e1=0/\e2=1/\x1=1/\x2=1)\/(sp=0/\(st<lo\/hi<st)/\e1=1/\e2=1/\x1=0/\x2=1) \/
 (0<sp/\e1=lo-st/\e2=sp/\x1=hi-st/\x2=sp)\/(sp<0/\e1=st-hi/\e2=-sp/\x1=st-lo/\x2=-sp)
def Jq (ea1 ea2 xa1 xa2 eu1 eu2 xu1 xu2:Int):Prop:=∀ e∈[((0:Int),(1:Int)),(ea1,ea2),(eu1,eu2)],∀ x∈[((1:Int),(1:Int)),(xa1,xa2),(xu1,xu2)],e.1*x.2<=x.1*e.2
def Sw {u a b:Int}(h:0<=u)(h':a<=b):u*a<=u*b:=Int.mul_le_mul_of_nonneg_left h' h
def zn7 {p r P R:Int}{L x:Int}:(∃ a∈[P-L,R-L,P-x,R-x],p<=a)↔(p<=P-L\/p<=R-L\/p<=P-x\/p<=R-x):=by simp
def Υ {p P R:Int}{L x:Int}:(∃ a∈[P-L,R-L,P-x,R-x],a<=p)↔(P-L<=p\/R-L<=p\/P-x<=p\/R-x<=p):=by simp
def Ĥ {ea1 ea2 xa1 xa2 eu1 eu2 xu1 xu2:Int}:Jq ea1 ea2 xa1 xa2 eu1 eu2 xu1 xu2 ↔
  (0<=xa1/\0<=xu1)/\(ea1<=ea2/\ea1*xa2<=xa1*ea2/\ea1*xu2<=xu1*ea2)/\(eu1<=eu2/\eu1*xa2<=xa1*eu2/\eu1*xu2<=xu1*eu2):=by
 unfold Jq;simp
def IV (lo hi st sp e1 e2 x1 x2:Int):Prop :=(sp=0/\lo<=st/\st<=hi/\e1=0/\e2=1/\x1=1/\x2=1)\/(sp=0/\(st<lo\/hi<st)/\e1=1/\e2=1/\x1=0/\x2=1)\/(0<sp/\e1=lo-st/\e2=sp/\x1=hi-st/\x2=sp)
def yM {lo st s t:Int}(h:Q7 lo hi st (t-s) e1 e2 x1 x2):IV lo hi st (t-s) e1 e2 x1 x2\/IV (-hi) (-lo) (-st) (-t - -s) e1 e2 x1 x2:=by
 rcases h with h|h|h|⟨h,rfl,rfl,rfl,rfl⟩
 ·exact .inl (.inl h)
 ·exact .inl (.inr (.inl h))
 ·exact .inl (.inr (.inr h))
 ·exact .inr (.inr (.inr ⟨by lia,by lia,by lia,by lia,by lia⟩))
def rC {as bs:List Int}(h:∀ a,a∈bs↔-a∈as):((∃ a∈bs,0<=a)↔∃ a∈as,a<=0)/\((∃ a∈bs,a<=0)↔∃ a∈as,0<=a):=by
  have back:∀ a,a∈as->-a∈bs:=fun a ha=>(h (-a)).mpr (by rw[Vf];exact ha)
  refine⟨⟨?_,?_⟩,?_,?_⟩<;>rintro⟨a,ha,h0⟩
  . exact⟨-a,(h a).mp ha,by lia⟩
  . exact⟨-a,back a ha,by lia⟩
  . exact⟨-a,(h a).mp ha,by lia⟩
  . exact⟨-a,back a ha,by lia⟩
def zos {a p q r t:Int}:a∈[-p,-q,-r,-t]↔-a∈[r,t,p,q]:=by
 have e:∀ x,a=-x↔-a=x:=fun x=>⟨fun h=>by rw[h,Vf],fun h=>by rw[<- h,Vf]⟩
 simp only[qv,qN,or_false,e];exact⟨fun h=>h.elim (fun h=>.inr (.inr (.inl h))) (fun h=>h.elim (fun h=>.inr (.inr (.inr h))) (fun h=>h.elim .inl (fun h=>.inr (.inl h)))),fun h=>h.elim (fun h=>.inr (.inr (.inl h))) (fun h=>h.elim (fun h=>.inr (.inr (.inr h))) (fun h=>h.elim .inl (fun h=>.inr (.inl h))))⟩
def À (a b c d e:Int):(-a - -b)*c-d*(-e - -b)=-((a-b)*c-d*(e-b)):=by rw[show -a - -b=-(a-b) by lia,show -e - -b=-(e-b) by lia,Int.neg_mul,Int.mul_neg];lia
def ϸ (a b c d e:Int):c*(-a - -b)-(-d - -b)*e=-(c*(a-b)-(d-b)*e):=by rw[show -a - -b=-(a-b) by lia,show -d - -b=-(d-b) by lia,Int.neg_mul,Int.mul_neg];lia
def G3 (a b:Int):max (-a) (-b)=-(min a b):=by
 rcases Int.le_total a b with h|h
 ·rw[Int.min_eq_left h,Int.max_eq_left (Int.neg_le_neg h)]
 ·rw[Int.min_eq_right h,Int.max_eq_right (Int.neg_le_neg h)]
def xr (a b:Int):min (-a) (-b)=-(max a b):=by rw[<- Vf (min (-a) (-b)),<- G3,Vf,Vf]
def mJ {L R B T x1 z1 x2 z2:Int}:Wk (-R) (-L) B T (-x1) z1 (-x2) z2↔Wk L R B T x1 z1 x2 z2:=by
 have e:Zc (-R) (-L) B T (-x1) z1 (-x2) z2=[-((x2-x1)*(B-z1)-(z2-z1)*(R-x1)),-((x2-x1)*(T-z1)-(z2-z1)*(R-x1)),-((x2-x1)*(B-z1)-(z2-z1)*(L-x1)),-((x2-x1)*(T-z1)-(z2-z1)*(L-x1))]:=by unfold Zc;simp only[À]
 have k:=rC (as:=Zc L R B T x1 z1 x2 z2) (bs:=Zc (-R) (-L) B T (-x1) z1 (-x2) z2) (fun a=>by rw[e];exact zos);unfold Wk;rw[k.1,k.2,G3,xr];generalize max x1 x2=a1;generalize min x1 x2=a2;generalize (∃ a∈Zc L R B T x1 z1 x2 z2,0<=a)=P;generalize (∃ a∈Zc L R B T x1 z1 x2 z2,a<=0)=Q;constructor
 ·rintro⟨h1,h2,h3,h4,h5,h6⟩;exact⟨by lia,by lia,h3,h4,h6,h5⟩
 ·rintro⟨h1,h2,h3,h4,h5,h6⟩;exact⟨by lia,by lia,h3,h4,h6,h5⟩
def ğ {a p q r t:Int}:a∈[-p,-q,-r,-t]↔-a∈[q,p,t,r]:=by
 have e:∀ x,a=-x↔-a=x:=fun x=>⟨fun h=>by rw[h,Vf],fun h=>by rw[<- h,Vf]⟩
 simp only[qv,qN,or_false,e];exact⟨fun h=>h.elim (fun h=>.inr (.inl h)) (fun h=>h.elim .inl (fun h=>h.elim (fun h=>.inr (.inr (.inr h))) (fun h=>.inr (.inr (.inl h))))),fun h=>h.elim (fun h=>.inr (.inl h)) (fun h=>h.elim .inl (fun h=>h.elim (fun h=>.inr (.inr (.inr h))) (fun h=>.inr (.inr (.inl h)))))⟩
def lU {L R B T x1 z1 x2 z2:Int}:Wk L R (-T) (-B) x1 (-z1) x2 (-z2)↔Wk L R B T x1 z1 x2 z2:=by
 have e:Zc L R (-T) (-B) x1 (-z1) x2 (-z2)=[-((x2-x1)*(T-z1)-(z2-z1)*(L-x1)),-((x2-x1)*(B-z1)-(z2-z1)*(L-x1)),-((x2-x1)*(T-z1)-(z2-z1)*(R-x1)),-((x2-x1)*(B-z1)-(z2-z1)*(R-x1))]:=by unfold Zc;simp only[ϸ]
 have k:=rC (as:=Zc L R B T x1 z1 x2 z2) (bs:=Zc L R (-T) (-B) x1 (-z1) x2 (-z2)) (fun a=>by rw[e];exact ğ);unfold Wk;rw[k.1,k.2,G3,xr];generalize max z1 z2=a1;generalize min z1 z2=a2;generalize (∃ a∈Zc L R B T x1 z1 x2 z2,0<=a)=P;generalize (∃ a∈Zc L R B T x1 z1 x2 z2,a<=0)=Q;constructor
 ·rintro⟨h1,h2,h3,h4,h5,h6⟩;exact⟨h1,h2,by lia,by lia,h6,h5⟩
 ·rintro⟨h1,h2,h3,h4,h5,h6⟩;exact⟨h1,h2,by lia,by lia,h6,h5⟩
def zrE {P Q p q:Int}(h:P<=Q)(g:p<=q):(0<=P-p\/0<=Q-p\/0<=P-q\/0<=Q-q)↔p<=Q:=⟨fun k=>by rcases k with k|k|k|k<;>lia,fun k=>.inr (.inl (by lia))⟩
def bC {P Q p q:Int}(h:P<=Q)(g:p<=q):(P-p<=0\/Q-p<=0\/P-q<=0\/Q-q<=0)↔P<=q:=⟨fun k=>by rcases k with k|k|k|k<;>lia,fun k=>.inr (.inr (.inl (by lia)))⟩
def HF {L R B T:Int}(hx:L<=R)(hz:B<=T)(pa:IV L R x1 (x2-x1) ea1 ea2 xa1 xa2)(pu:IV B T z1 (z2-z1) eu1 eu2 xu1 xu2) :
    Jq ea1 ea2 xa1 xa2 eu1 eu2 xu1 xu2↔Wk L R B T x1 z1 x2 z2:=by
  have u0:0<=x2-x1:=by rcases pa with h|h|h<;>lia
  have v0:0<=z2-z1:=by rcases pu with h|h|h<;>lia
  rw[Ĥ];unfold Wk Zc;rw[zn7 (r:=0),Υ,show max x1 x2=x1+(x2-x1) by lia,show min x1 x2=x1 by lia,show max z1 z2=z1+(z2-z1) by lia,show min z1 z2=z1 by lia];generalize x2-x1=u at *;generalize z2-z1=v at *;have k1:=Sw u0 (show B-z1<=T-z1 by lia);have k2:=Sw v0 (show L-x1<=R-x1 by lia);rw[zrE k1 k2,bC k1 k2];have c1:∀ s t:Int,(s-x1)*t=t*(s-x1):=fun s t=>Wo _ _
  have c3:∀ s t:Int,(s-z1)*t=t*(s-z1):=fun s t=>Wo _ _
  have k5:B<=z1->u*(B-z1)<=0:=fun h=>by have:=Sw u0 (show B-z1<=0 by lia);rwa[Rv]at this
  have k6:z1<=T->0<=u*(T-z1):=fun h=>by have:=Sw u0 (show 0<=T-z1 by lia);rwa[Rv]at this
  have k8:=Sw v0 (show B-z1<=T-z1 by lia);rcases pa with⟨hu,h1,h2,rfl,rfl,rfl,rfl⟩|⟨hu,h1,rfl,rfl,rfl,rfl⟩|⟨hu,rfl,rfl,rfl,rfl⟩
  . clear k5 k6;subst hu;have k3:=Sw v0 (show L-x1<=0 by lia);have k4:=Sw v0 (show 0<=R-x1 by lia);rcases pu with⟨hv,g1,g2,rfl,rfl,rfl,rfl⟩|⟨hv,g1,rfl,rfl,rfl,rfl⟩|⟨hv,rfl,rfl,rfl,rfl⟩ <;>
    simp only[c3,Int.zero_mul,Rv,Int.one_mul,T8]at *<;>lia
  . simp only[Int.one_mul,T8];lia
  . have k7:=Sw u0 (show L-x1<=R-x1 by lia);rcases pu with⟨hv,g1,g2,rfl,rfl,rfl,rfl⟩|⟨hv,g1,rfl,rfl,rfl,rfl⟩|⟨hv,rfl,rfl,rfl,rfl⟩
    . subst hv;have k5:=k5 g1;have k6:=k6 g2;simp only[c1,c3,Int.zero_mul,Rv,Int.one_mul,T8]at *;lia
    . simp only[Int.one_mul,T8];lia
    . simp only[c1,c3];exact⟨by rintro⟨⟨a,b⟩,⟨c,_,d⟩,e,f,_⟩;exact⟨by lia,by lia,by lia,by lia,d,f⟩,by rintro⟨a,b,c,d,e,f⟩;exact⟨⟨by lia,by lia⟩,⟨by lia,k7,e⟩,by lia,f,k8⟩⟩
def znX {L R B T:Int}(hx:L<=R)(hz:B<=T)(pa:Q7 L R x1 (x2-x1) ea1 ea2 xa1 xa2)(pu:Q7 B T z1 (z2-z1) eu1 eu2 xu1 xu2) :
    Jq ea1 ea2 xa1 xa2 eu1 eu2 xu1 xu2↔Wk L R B T x1 z1 x2 z2:=by
  rcases yM pa with pa|pa<;>rcases yM pu with pu|pu
  . exact HF hx hz pa pu
  . rw[<- lU];exact HF hx (by lia) pa pu
  . rw[<- mJ];exact HF (by lia) hz pa pu
  . rw[<- mJ,<- lU];exact HF (by lia) (by lia) pa pu
def zog {L R B T x1 z1 x2 z2 mx mn m:Int}(m1:mx∈Zc L R B T x1 z1 x2 z2)(m2:∀ a∈Zc L R B T x1 z1 x2 z2,a<=mx)(n1:mn∈Zc L R B T x1 z1 x2 z2)(n2:∀ a∈Zc L R B T x1 z1 x2 z2,mn<=a)
  (h1:m∈[(max x1 x2)-L,R-(min x1 x2),(max z1 z2)-B,T-(min z1 z2),mx,-mn])
  (h2:∀ a∈[(max x1 x2)-L,R-(min x1 x2),(max z1 z2)-B,T-(min z1 z2),mx,-mn],m<=a):0<=m↔Wk L R B T x1 z1 x2 z2:=by
 unfold Wk;have e1:(∃ a∈Zc L R B T x1 z1 x2 z2,0<=a)↔0<=mx:=⟨by rintro⟨a,ha,h⟩;exact Int.le_trans h (m2 a ha),fun h=>⟨mx,m1,h⟩⟩
 have e2:(∃ a∈Zc L R B T x1 z1 x2 z2,a<=0)↔mn<=0:=⟨by rintro⟨a,ha,h⟩;exact Int.le_trans (n2 a ha) h,fun h=>⟨mn,n1,h⟩⟩
 rw[e1,e2];generalize (max x1 x2)=q1 at *;generalize (min x1 x2)=q2 at *;generalize (max z1 z2)=q3 at *;generalize (min z1 z2)=q4 at *;have g1:=h2 (q1-L) (by simp);have g2:=h2 (R-q2) (by simp);have g3:=h2 (q3-B) (by simp);have g4:=h2 (T-q4) (by simp);have g5:=h2 mx (by simp);have g6:=h2 (-mn) (by simp);simp only[qv,qN,or_false]at h1;lia
def six (L R B T x1 z1 x2 z2 mx mn:Int):List Int:=[(max x1 x2)-L,R-(min x1 x2),(max z1 z2)-B,T-(min z1 z2),mx,-mn]
def Rb (L R B T x1 z1 x2 z2:Int):Prop:=∃ p q:Int,0<q/\0<=p/\p<=q/\L*q<=x1*q+p*(x2-x1)/\x1*q+p*(x2-x1)<=R*q/\B*q<=z1*q+p*(z2-z1)/\z1*q+p*(z2-z1)<=T*q
def mulL {k a b:Int}(h:0<=k)(g:a<=b):k*a<=k*b:=Int.mul_le_mul_of_nonneg_left g h
def Cp {k a b:Int}(h:0<k)(g:k*a<=k*b):a<=b:=Int.le_of_mul_le_mul_left g h
def xU {a b c d e f:Int}(hb:0<=b)(hf:0<=f)(hd:0<d)(h1:a*d<=c*b)(h2:c*f<=e*d):a*f<=e*b:=by
 refine Cp hd ?_;have k1:=mulL hf h1;have k2:=mulL hb h2;have e1:d*(a*f)=f*(a*d):=by grind
 have e2:f*(c*b)=b*(c*f):=by grind
 have e3:b*(e*d)=d*(e*b):=by grind
 lia
theorem fmax:∀ {l:List (Int×Int)},l≠[]->(∀ e∈l,0<e.2)->∃ e∈l,∀ f∈l,f.1*e.2<=e.1*f.2
 |[],h,_=>absurd rfl h
 |[x],_,_=>⟨x,by simp,fun f hf=>by simp at hf;subst hf;exact Sq _⟩
 |x::y::l,_,h=>by
  obtain⟨m,hm,g⟩:=fmax (l:=y::l) (by simp) fun e he=>h e (by simp[he])
  have hx:=h x (by simp);have hm2:=h m (by simp[hm]);rcases Int.le_total (x.1*m.2) (m.1*x.2)with c|c
  ·refine⟨m,by simp[hm],fun f hf=>?_⟩;rcases qv.mp hf with rfl|hf
   ·exact c
   ·exact g f hf
  ·refine⟨x,by simp,fun f hf=>?_⟩;rcases qv.mp hf with rfl|hf
   ·exact Sq _
   ·exact xU (Qv (h f (by simp[hf]))) (Qv hx) hm2 (g f hf) c
def Aa (lo hi st sp:Int):∃ e1 e2 x1 x2,Q7 lo hi st sp e1 e2 x1 x2/\0<e2/\0<x2:=by
 unfold Q7;rcases Int.lt_trichotomy sp 0 with h|h|h
 ·exact⟨st-hi,-sp,st-lo,-sp,.inr (.inr (.inr ⟨h,rfl,rfl,rfl,rfl⟩)),by lia,by lia⟩
 ·by_cases g:lo<=st/\st<=hi
  ·exact⟨0,1,1,1,.inl ⟨h,g.1,g.2,rfl,rfl,rfl,rfl⟩,by lia,by lia⟩
  ·exact⟨1,1,0,1,.inr (.inl ⟨h,by lia,rfl,rfl,rfl,rfl⟩),by lia,by lia⟩
 ·exact⟨lo-st,sp,hi-st,sp,.inr (.inr (.inl ⟨h,rfl,rfl,rfl,rfl⟩)),h,h⟩
def rT {lo st sp p q:Int}(P:Q7 lo hi st sp e1 e2 x1 x2)(hq:0<q)(h0:0<=p)(h1:p<=q)(h2:e1*q<=p*e2)(h3:p*x2<=x1*q):lo*q<=st*q+p*sp/\st*q+p*sp<=hi*q:=by
 rcases P with⟨hu,g1,g2,rfl,rfl,rfl,rfl⟩|⟨hu,g1,rfl,rfl,rfl,rfl⟩|⟨hu,rfl,rfl,rfl,rfl⟩|⟨hu,rfl,rfl,rfl,rfl⟩
 ·subst hu;have k1:=mulL (Qv hq) g1;have k2:=mulL (Qv hq) g2;rw[Wo q,Wo q]at k1 k2;rw[Rv];lia
 ·lia
 ·rw[Oo]at h2 h3;lia
 ·rw[Oo,Int.mul_neg]at h2 h3;lia
def nP {lo st sp p q:Int}(P:Q7 lo hi st sp e1 e2 x1 x2)(hq:0<q)(h0:0<=p)(h1:p<=q)(h2:lo*q<=st*q+p*sp)(h3:st*q+p*sp<=hi*q):e1*q<=p*e2/\p*x2<=x1*q:=by
 rcases P with⟨hu,g1,g2,rfl,rfl,rfl,rfl⟩|⟨hu,g1,rfl,rfl,rfl,rfl⟩|⟨hu,rfl,rfl,rfl,rfl⟩|⟨hu,rfl,rfl,rfl,rfl⟩
 ·lia
 ·subst hu;rw[Rv,Int.add_zero,Wo lo,Wo st]at h2;rw[Rv,Int.add_zero,Wo hi,Wo st]at h3;have k1:=Cp hq h2;have k2:=Cp hq h3;lia
 ·rw[Oo,Oo];lia
 ·rw[Oo,Oo,Int.mul_neg];lia
def zsd {L R B T x1 z1 x2 z2:Int}(hx:L<=R)(hz:B<=T):Wk L R B T x1 z1 x2 z2↔Rb L R B T x1 z1 x2 z2:=by
  obtain⟨a1,a2,a3,a4,pa,ha2,ha4⟩:=Aa L R x1 (x2-x1);obtain⟨u1,u2,u3,u4,pu,hu2,hu4⟩:=Aa B T z1 (z2-z1);rw[<- znX hx hz pa pu];constructor
  . intro h
    obtain⟨⟨p,q⟩,he,mx⟩:=fmax (l:=[((0:Int),(1:Int)),(a1,a2),(u1,u2)]) (by simp) (by
      intro e he;simp only[qv,qN,or_false]at he;rcases he with rfl|rfl|rfl
      . exact Int.one_pos
      . exact ha2
      . exact hu2)
    have hq:0<q:=by simp only[qv,qN,or_false,Prod.mk.injEq]at he;rcases he with he|he|he<;>lia
    have m0:=mx (0,1) (by simp);have m1:=mx (a1,a2) (by simp);have m2:=mx (u1,u2) (by simp);have n0:=h _ he (1,1) (by simp);have n1:=h _ he (a3,a4) (by simp);have n2:=h _ he (u3,u4) (by simp);dsimp only at m0 m1 m2 n0 n1 n2;have h0:0<=p:=by lia
    have h1:p<=q:=by lia
    obtain⟨k1,k2⟩:=rT pa hq h0 h1 m1 n1;obtain⟨k3,k4⟩:=rT pu hq h0 h1 m2 n2;exact⟨p,q,hq,h0,h1,k1,k2,k3,k4⟩
  . rintro⟨p,q,hq,h0,h1,k1,k2,k3,k4⟩;obtain⟨g1,g2⟩:=nP pa hq h0 h1 k1 k2;obtain⟨g3,g4⟩:=nP pu hq h0 h1 k3 k4;intro e he x hx
    have ee:0<e.2/\e.1*q<=p*e.2:=by
      simp only[qv,qN,or_false]at he;rcases he with rfl|rfl|rfl
      . exact⟨Int.one_pos,by lia⟩
      . exact⟨ha2,g1⟩
      . exact⟨hu2,g3⟩
    have xx:0<x.2/\p*x.2<=x.1*q:=by
      simp only[qv,qN,or_false]at hx;rcases hx with rfl|rfl|rfl
      . exact⟨Int.one_pos,by lia⟩
      . exact⟨ha4,g2⟩
      . exact⟨hu4,g4⟩
    exact xU (Qv ee.1) (Qv xx.1) hq ee.2 xx.2
end Rm
namespace Dp
open PySem Rm My
structure Fg where
 x0:Int
 x1:Int
 z0:Int
 z1:Int
 f:Int
 l:Int
 g:Int
 s:Int
abbrev Xi (F:Fg):D:=.tup [.int F.x0,.int F.x1,.int F.z0,.int F.z1,.int F.f,.int F.l,.int F.g,.int F.s]
structure FgB (F:Fg):Prop where
 x:F.x0<=F.x1
 z:F.z0<=F.z1
 b0:Bd 600 F.x0
 b1:Bd 600 F.x1
 b2:Bd 600 F.z0
 b3:Bd 600 F.z1
 bg:Bd 200 F.g
 bs:Bd 200 F.s
def Vk (F:Fg)(px pz qx qz h:Int):Prop:=F.f<=h/\h<=F.l/\Rb (F.x0+F.g*(h-F.f)) (F.x1+F.g*(h-F.f)) (F.z0+F.s*(h-F.f)) (F.z1+F.s*(h-F.f)) px pz qx qz
def uI {fs:List Fg}{i:Nat}{d:D}(h:(fs.map Xi)[i]?=some d):∃ F,fs[i]?=some F/\d=Xi F:=by
 rw[qi]at h;cases e:fs[i]? with
 |none=>rw[e]at h;cases h
 |some p=>rw[e]at h;cases h;exact⟨p,rfl,rfl⟩
def kE {a b:Int}(h0:0<=a)(h:a<=b):a.natAbs<=b.natAbs:=by refine Int.ofNat_le.mp ?_;rw[Iz h0,Iz (Int.le_trans h0 h)];exact h
def Bd.btw {n:Nat}{x:Int}(ha:Bd n a)(hb:Bd n b)(h1:a<=x)(h2:x<=b):Bd n x:=by
 rcases Int.le_total 0 x with h|h
 ·exact hb.of_le (kE h h2)
 ·refine ha.of_le ?_;rw[<- Mu x,<- Mu a];exact kE (Int.neg_nonneg_of_nonpos h) (Int.neg_le_neg h1)
def flt (a b:Int×Int):Bool:=decide (a.1*b.2<b.1*a.2)
abbrev ig:=(Int×Int)×(Int×Int)
def rk (R:Int×Int->Int)(s:ig):Int×Int:=(R s.1,R s.2)
def J1 {cs:List (Int×Int)}{k:Int}(h0:0<=k)(h:k<cs.length):∃ c,cs[k.toNat]?=some c/\Yu (cs.map p2) k=some (p2 c):=by
 have hk:k.toNat<cs.length:=by lia
 refine⟨cs[k.toNat],qb hk,?_⟩;have:=Lq (ds:=cs.map p2) (i:=k.toNat) (d:=p2 (cs[k.toNat])) (by rw[qi,qb hk];rfl);rwa[show((k.toNat:Nat):Int)=k by lia]at this
def lenV (ms:List (Int×Int)):Int:=(ms.map fun m=>m.2-m.1).sum
def Sv (c:Int×Int)(t b:Int):Prop:=0<c.2/\c.1*b=t*c.2
def Oa (a b p:Int×Int):Int:=if 0<b.1-a.1 then a.2*(b.1-a.1)*p.2+(b.2-a.2)*(p.1-a.1*p.2)else -(a.2*(b.1-a.1)*p.2+(b.2-a.2)*(p.1-a.1*p.2))
def Tq (a b p:Int×Int):Int:=if 0<b.1-a.1 then(b.1-a.1)*p.2 else -((b.1-a.1)*p.2)
def zsg {a b p:Int×Int}(h:b.1≠a.1)(hp:0<p.2):0<Tq a b p:=by
 unfold Tq;split
 ·exact Ol (by lia) hp
 ·have:=Ol (show 0 < -(b.1-a.1) by lia) hp;rw[Int.neg_mul]at this;exact this
def ztu {t b e:Int}(hb:0<b)(he:0<e)(hc:Sv c t b)(hd:Sv d u e):flt c d=decide (t*e<u*b):=by
 obtain⟨c0,c1⟩:=hc;obtain⟨d0,d1⟩:=hd;unfold flt;refine decide_eq_decide.mpr ?_;have hbe:0<b*e:=Ol hb he;have hcd:0<c.2*d.2:=Ol c0 d0;rw[<- Int.mul_lt_mul_right hbe,<- Int.mul_lt_mul_right (b:=t*e) (c:=u*b) hcd]
 have e1:c.1*d.2*(b*e)=t*e*(c.2*d.2):=by
  have:c.1*d.2*(b*e)=c.1*b*(d.2*e):=by grind
  rw[this,c1];grind
 have e2:d.1*c.2*(b*e)=u*b*(c.2*d.2):=by
  have:d.1*c.2*(b*e)=d.1*e*(c.2*b):=by grind
  rw[this,d1];grind
 rw[e1,e2]
structure WW (cs:List (Int×Int)):Prop where
 two:2<=cs.length
 most:cs.length<=40
 asc:cs.Pairwise fun a b=>a.1<b.1
 bd:∀ c∈cs,Bd 170 c.1/\Bd 190 c.2
def Pg (cs:List (Int×Int)):Int:=(cs.getD 0 (0,0)).1
def Qq (cs:List (Int×Int)):Int:=(cs.getD (cs.length-1) (0,0)).1
def P0 (cs:List (Int×Int))(p:Int×Int):Prop:=Pg cs*p.2<=p.1/\p.1<=Qq cs*p.2
def Tp:List (Int×Int)->Int×Int->Option ((Int×Int)×(Int×Int))
 |a::b::r,p=>if p.1<=b.1*p.2 then some (a,b)else Tp (b::r) p
 |_,_=>none
theorem seg_at:∀ {cs:List (Int×Int)} {p:Int×Int} {k:Nat} {a b:Int×Int},cs[k]?=some a->cs[k+1]?=some b->p.1<=b.1*p.2->(∀ j c,1<=j->j<=k->cs[j]?=some c->c.1*p.2<p.1)->Tp cs p=some (a,b)
 |[],p,k,a,b,h,_,_,_=>by simp at h
 |[x],p,0,a,b,_,h,_,_=>by simp at h
 |[x],p,k+1,a,b,h,_,_,_=>by simp at h
 |x::y::r,p,0,a,b,h1,h2,h3,_=>by simp at h1 h2;subst h1 h2;unfold Tp;rw[if_pos h3]
 |x::y::r,p,k+1,a,b,h1,h2,h3,h4=>by have:=h4 1 y (by lia) (by lia) rfl;unfold Tp;rw[if_neg (by lia)];exact seg_at (by simpa using h1) (by simpa using h2) h3 fun j c j1 j2 hc=>h4 (j+1) c (by lia) (by lia) (by simpa using hc)
theorem tV:∀ {cs:List (Int×Int)} {p:Int×Int},2<=cs.length->p.1<=Qq cs*p.2->∃ k a b,cs[k]?=some a/\cs[k+1]?=some b/\p.1<=b.1*p.2/\∀ j c,1<=j->j<=k->cs[j]?=some c->c.1*p.2<p.1
 |[],p,h,_=>by simp at h
 |[x],p,h,_=>by simp at h
 |[x,y],p,_,h=>⟨0,x,y,rfl,rfl,h,fun j c j1 j2=>by lia⟩
 |x::y::z::r,p,_,h=>by
  by_cases g:p.1<=y.1*p.2
  ·exact⟨0,x,y,rfl,rfl,g,fun j c j1 j2=>by lia⟩
  ·obtain⟨k,a,b,h1,h2,h3,h4⟩:=tV (cs:=y::z::r) (p:=p) (by simp) h;refine⟨k+1,a,b,by simpa using h1,by simpa using h2,h3,fun j c j1 j2 hc=>?_⟩;cases j with
   |zero=>lia
   |succ j =>
    cases j with
    |zero=>simp at hc;subst hc;lia
    |succ j=>exact h4 (j+1) c (by lia) (by lia) (by simpa using hc)
def yN (g:WW cs){i j:Nat}{a b:Int×Int}(hij:i<j)(ha:cs[i]?=some a)(hb:cs[j]?=some b):a.1<b.1:=by have h1:=zu ha;have h2:=zu hb;rw[qb h1]at ha;rw[qb h2]at hb;cases ha;cases hb;exact R5.mp g.asc i j h1 h2 hij
def Ñ (g:WW cs):∃ a,cs[0]?=some a/\Pg cs=a.1:=by
 have:=g.two;obtain⟨a,h⟩:∃ a,cs[0]?=some a:=⟨cs[0],qb (by lia)⟩
 exact⟨a,h,by unfold Pg;rw[qI,h];rfl⟩
def zoc (g:WW cs):∃ a,cs[cs.length-1]?=some a/\Qq cs=a.1:=by
 have:=g.two;obtain⟨a,h⟩:∃ a,cs[cs.length-1]?=some a:=⟨cs[cs.length-1],qb (by lia)⟩
 exact⟨a,h,by unfold Qq;rw[qI,h];rfl⟩
def W3 (S:Z7)(g:D)(cs:List (Int×Int)):Prop:=∃ n l,g=.ref n/\S[n]?=some (.ins "Ground" [("corners",.ref l)])/\S[l]?=some (.lst (cs.map p2))
def W3.old {T:Z7}(h:W3 S g cs):W3 (S++T) g cs:=by obtain⟨n,l,e,h1,h2⟩:=h;exact⟨n,l,e,zy h1,zy h2⟩
def zwp {S:Z7}{P:D->Prop}{n l:Nat}(h:S[n]?=some (.ins "Ground" [("corners",.ref l)]))(q:P (.ref l)):∃ m c fs d,D.ref n=.ref m/\S[m]?=some (.ins c fs)/\fs.lookup ("corners":Str)=some d/\P d:=⟨n,_,_,_,rfl,h,by simp[qu],q⟩
def XJ (a b c:Int×Int):Int:=(c.2-a.2)*(b.1-a.1)-(c.1-a.1)*(b.2-a.2)
def O2 (a b c:Int×Int):Int:=if 0<(if b.1-a.1<0 then -XJ a b c else XJ a b c)then 1 else if(if b.1-a.1<0 then -XJ a b c else XJ a b c)<0 then -1 else 0
def Std (cs:List (Int×Int))(s:Int×Int):Prop:=Bd 180 s.1/\Bd 200 s.2/\P0 cs (s.1,1)/\∀ a b,Tp cs (s.1,1)=some (a,b)->Oa a b (s.1,1)<=s.2*Tq a b (s.1,1)
def Mi {own:Nat}{fv:List Nat}{xs:List D}{ok:Z7->Prop}{g:DG}{tc:DT}{te:DE}{Z:Z1}{S:Z7}{Q:DK}(W:Nat->List D->Z7->Prop)(h0:W 0 [] S)(hok:∀ i ys S,W i ys S->ok S)(hbig:xs.length<=big)
  (step:∀ i d ys S,xs[i]?=some d->W i ys S->pK (W (i+1)) fun N=>g d (Q5 own fv Z) S fun ρ2 S2=>tc ρ2 S2 fun b S3=>if b=true then te ρ2 S3 fun y S4=>N (ys++[y]) S4 else N ys S3)
  (fin:∀ ys S,W xs.length ys S->New Q S ys):Fp own fv g tc te Z Q ⟨xs,ok⟩ S:=⟨hbig,W,h0,hok,fun i d ys S e w=>step i d ys S e w (W (i+1)) fun _ _ h=>h,fin⟩
def iG {a b d:Int×Int}(h:a.1≠b.1):O2 a b d=O2 b a d:=by
 have e:(if b.1-a.1<0 then -XJ a b d else XJ a b d)=(if a.1-b.1<0 then -XJ b a d else XJ b a d):=by
  by_cases z:b.1-a.1<0
  ·rw[if_pos z,if_neg (by lia)];unfold XJ;grind
  ·rw[if_neg z,if_pos (by lia)];unfold XJ;grind
 unfold O2;rw[e]
def WK (cs:List (Int×Int))(s:Int×Int):Prop:=P0 cs (s.1,1)/\∀ a b,Tp cs (s.1,1)=some (a,b)->Oa a b (s.1,1)<=s.2*Tq a b (s.1,1)
def Std.of {s:Int×Int}(b1:Bd 180 s.1)(b2:Bd 200 s.2)(h:WK cs s):Std cs s:=⟨b1,b2,h.1,h.2⟩
def SX (cs:List (Int×Int))(x y:Int)(k:Nat):Bool:=decide (min x y<(cs.getD k (0,0)).1)&&decide ((cs.getD k (0,0)).1<max x y)
def Yo (cs:List (Int×Int))(x y:Int)(n:Nat):List Int:=((List.range n).filter (SX cs x y)).map fun k:Nat=>(k:Int)
def zwI {cs:List (Int×Int)}{x y:Int}{i:Nat}(h:SX cs x y i=true):(Yo cs x y (i+1)).map D.int=(Yo cs x y i).map D.int++[.int (i:Int)]:=by unfold Yo;rw[Lk,Rj,Hu h];simp
def vI {cs:List (Int×Int)}{x y:Int}{i:Nat}(h:SX cs x y i=false):Yo cs x y (i+1)=Yo cs x y i:=by unfold Yo;rw[Lk,Rj,Jo (by rw[h];exact qr)];simp
def LQ (cs:List (Int×Int))(a b:Int×Int)(k:Int):Bool:=decide (0<O2 a b (cs.getD k.toNat (0,0)))
def Vi (cs:List (Int×Int))(a b:Int×Int):Option Int:=(Yo cs a.1 b.1 cs.length).find? (LQ cs a b)
theorem yx {p:Int->Bool}:∀ {ks:List Int} {i:Nat} {k:Int},ks[i]?=some k->(∀ x∈ks.take i,p x=false)->p k=true->ks.find? p=some k
 |[],i,k,h,_,_=>by simp at h
 |x::ks,0,k,h,_,hp=>by
  have e:x=k:=by simpa using h
  rw[List.find?_cons,e,hp]
 |x::ks,i+1,k,h,hn,hp=>by rw[List.find?_cons,hn x (by simp)];exact yx (by simpa using h) (fun y hy=>hn y (by rw[List.take_succ_cons];exact qj _ hy)) hp
def Ω {p:Int->Bool}{ks:List Int}(hn:∀ x∈ks,p x=false):ks.find? p=none:=List.find?_eq_none.mpr fun x hx=>by rw[hn x hx];exact qr
def zur {cs:List (Int×Int)}{x y k:Int}{n:Nat}(h:k∈Yo cs x y n):0<=k/\k<n:=by unfold Yo at h;obtain⟨j,hj,rfl⟩:=qC.mp h;have:=V5.mp (qR.mp hj).1;lia
def zpH {cs:List (Int×Int)}{a b:Int×Int}:Vi cs a b=Vi cs b a:=by
 by_cases h:a.1=b.1
 ·have e:∀ x:Int×Int,x.1=x.1->Yo cs a.1 b.1 cs.length=[]:=fun _ _=>by
   unfold Yo;rw[List.filter_eq_nil_iff.mpr fun k _=>?_]
   ·rfl
   ·unfold SX;rw[h];simp only[qq,decide_eq_true_eq];lia
  have e1:=e a rfl;have e2:Yo cs b.1 a.1 cs.length=[]:=by rw[h]at e1 ⊢;exact e1
  unfold Vi;rw[e1,e2];rfl
 ·have en:Yo cs a.1 b.1 cs.length=Yo cs b.1 a.1 cs.length:=by
   unfold Yo SX;rw[Int.min_comm,Int.max_comm]
  unfold Vi;rw[en];congr 1;funext k;unfold LQ;rw[iG h]
def gx (g:Int)(p:Int×Int):Int:=g*p.1
abbrev XF (b:Str×(Int×Int)):D:=.tup [.str b.1,.int b.2.1,.int b.2.2]
def abc:List Nat:=List.range' 97 26
def ztZ:("abcdefghijklmnopqrstuvwxyz":Str).cps.toList=abc:=by decide +kernel
def rE {c:Nat}:c∈abc↔97<=c/\c<=122:=by unfold abc;rw[List.mem_range'_1];lia
def W4 (z:Str):Bool:=decide (1<=z.length)&&(decide (z.length<=8)&&z.cps.toList.all fun c=>decide (c∈abc))
def GJ {z:Str}:W4 z=true↔1<=z.length/\z.length<=8/\∀ c∈z.cps.toList,c∈abc:=by unfold W4;rw[qq,qq,decide_eq_true_eq,decide_eq_true_eq,Vm];simp only[decide_eq_true_eq]
def lR {z:Str}(h:W4 z=true)(k:Nat):fl k (.str z)=true:=by
  have h3:=(GJ.mp h).2.2
  have:z.cps.all (· < 0x110000)=true:=by rw[Array.all_eq_true'];intro x hx;have:=rE.mp (h3 x (Array.mem_toList_iff.mpr hx));simp;lia
  cases k<;>exact this
structure Vl where
 cs:List (Int×Int)
 bs:List (Str×(Int×Int))
 fs:List Fg
 hz:Option Int
 h0:Int
 h1:Int
 dl:Int
structure Ks (F:Fg):Prop where
 b:FgB F
 o:F.f<=F.l
 f:Bd 300 F.f
 l:Bd 300 F.l
structure YX (V:Vl):Prop where
 gr:WW V.cs
 b1:1<=V.bs.length
 b12:V.bs.length<=12
 nm:∀ b∈V.bs,W4 b.1=true
 nd:(V.bs.map (·.1)).Nodup
 st:∀ b∈V.bs,WK V.cs b.2
 bd:∀ b∈V.bs,Bd 180 b.2.1/\Bd 200 b.2.2
 f12:V.fs.length<=12
 fg:∀ F∈V.fs,Ks F
 hz:∀ z,V.hz=some z->0<=z
 hh:V.h0<=V.h1
 b0:Bd 250 V.h0
 bl:Bd 250 V.h1
 dl:0<=V.dl
abbrev vF (g b f h a l d:D):List (Str×D):=[("ground",g),("beacons",b),("fogs",f),("haze",h),("first",a),("last",l),("delay",d)]
def Ze (S:Z7)(v:D)(V:Vl):Prop:=∃ n g b f,v=.ref n/\S[n]?=some (.ins "Valley" (vF (.ref g) (.ref b) (.ref f) (Vw V.hz) (.int V.h0) (.int V.h1) (.int V.dl)))/\W3 S (.ref g) V.cs/\S[b]?=some (.lst (V.bs.map XF))/\S[f]?=some (.lst (V.fs.map Xi))
theorem Ze.old {T:Z7}{V:Vl}(h:Ze S v V):Ze (S++T) v V:=by obtain⟨n,g,b,f,e,h1,h2,h3,h4⟩:=h;exact⟨n,g,b,f,e,zy h1,h2.old,zy h3,zy h4⟩
section
variable {S:Z7}{P:D->Prop}{n:Nat}{g b f h a l d:D}
def ı (k:S[n]?=some (.ins "Valley" (vF g b f h a l d)))(q:P g):∃ m c fs x,D.ref n=.ref m/\S[m]?=some (.ins c fs)/\fs.lookup ("ground":Str)=some x/\P x:=⟨n,_,_,g,rfl,k,by simp[qu],q⟩
def aG (k:S[n]?=some (.ins "Valley" (vF g b f h a l d)))(q:P b):∃ m c fs x,D.ref n=.ref m/\S[m]?=some (.ins c fs)/\fs.lookup ("beacons":Str)=some x/\P x:=⟨n,_,_,b,rfl,k,by rw[qu,show((("beacons":Str)=="ground")=false) by decide +kernel];simp[qu],q⟩
def zu0 (k:S[n]?=some (.ins "Valley" (vF g b f h a l d)))(q:P f):∃ m c fs x,D.ref n=.ref m/\S[m]?=some (.ins c fs)/\fs.lookup ("fogs":Str)=some x/\P x:=⟨n,_,_,f,rfl,k,by rw[qu,show((("fogs":Str)=="ground")=false) by decide +kernel];dsimp only;rw[qu,show((("fogs":Str)=="beacons")=false) by decide +kernel];simp[qu],q⟩
def Ā (k:S[n]?=some (.ins "Valley" (vF g b f h a l d)))(q:P h):∃ m c fs x,D.ref n=.ref m/\S[m]?=some (.ins c fs)/\fs.lookup ("haze":Str)=some x/\P x:=⟨n,_,_,h,rfl,k,by rw[qu,show((("haze":Str)=="ground")=false) by decide +kernel];dsimp only;rw[qu,show((("haze":Str)=="beacons")=false) by decide +kernel];dsimp only;rw[qu,show((("haze":Str)=="fogs")=false) by decide +kernel];simp[qu],q⟩
def ϫ (k:S[n]?=some (.ins "Valley" (vF g b f h a l d)))(q:P a):∃ m c fs x,D.ref n=.ref m/\S[m]?=some (.ins c fs)/\fs.lookup ("first":Str)=some x/\P x:=⟨n,_,_,a,rfl,k,by rw[qu,show((("first":Str)=="ground")=false) by decide +kernel];dsimp only;rw[qu,show((("first":Str)=="beacons")=false) by decide +kernel];dsimp only;rw[qu,show((("first":Str)=="fogs")=false) by decide +kernel];dsimp only;rw[qu,show((("first":Str)=="haze")=false) by decide +kernel];simp[qu],q⟩
def ztn (k:S[n]?=some (.ins "Valley" (vF g b f h a l d)))(q:P l):∃ m c fs x,D.ref n=.ref m/\S[m]?=some (.ins c fs)/\fs.lookup ("last":Str)=some x/\P x:=⟨n,_,_,l,rfl,k,by rw[qu,show((("last":Str)=="ground")=false) by decide +kernel];dsimp only;rw[qu,show((("last":Str)=="beacons")=false) by decide +kernel];dsimp only;rw[qu,show((("last":Str)=="fogs")=false) by decide +kernel];dsimp only;rw[qu,show((("last":Str)=="haze")=false) by decide +kernel];dsimp only;rw[qu,show((("last":Str)=="first")=false) by decide +kernel];simp[qu],q⟩
end
def JX {bs:List (Str×(Int×Int))}{i:Nat}{d:D}(h:(bs.map XF)[i]?=some d):∃ b,bs[i]?=some b/\d=XF b:=by
 rw[qi]at h;cases e:bs[i]? with
 |none=>rw[e]at h;cases h
 |some p=>rw[e]at h;cases h;exact⟨p,rfl,rfl⟩
def Hr (f:Str×(Int×Int)->D):D->D
 |.tup [.str z,.int a,.int b]=>f (z,a,b)
 |d=>d
def Af (f:Str×(Int×Int)->D)(bs:List (Str×(Int×Int))):(bs.map XF).map (Hr f)=bs.map f:=by rw[Yg];rfl
def Ui (a b:Int×Int):Int:=(b.1-a.1)*(b.1-a.1)+(b.2-a.2)*(b.2-a.2)
def d7 (a b:Int×Int):Ui a b=Ui b a:=by unfold Ui;grind
def hzy (z:Option Int)(q:Int):Bool:=match z with
 |some z=>decide (z<q)
 |none=>false
def Qn (V:Vl)(a b:Int×Int):D:=match Vi V.cs a b with
 | some k=>.tup [.str "ground",.int k]
 | none=>if hzy V.hz (Ui a b)=true then .tup [.str "haze",.int (Ui a b)]else .non
def Ri (V:Vl)(a b:Int×Int):Prop:=Vi V.cs a b=none/\hzy V.hz (Ui a b)=false
def G7 {V:Vl}{a b:Int×Int}:Qn V a b=.non↔Ri V a b:=by
 unfold Qn Ri;cases Vi V.cs a b with
 |some k=>simp
 |none =>
  cases h:hzy V.hz (Ui a b)with
  |true=>simp
  |false=>simp
def R4 (V:Vl)(a b:Int×Int)(h:Int):Prop:=Ri V a b/\¬ ∃ F∈V.fs,Vk F a.1 a.2 b.1 b.2 h
def Jm {V:Vl}(ok:YX V){b c:Str×(Int×Int)}(hb:b∈V.bs)(hc:c∈V.bs)(e:b.1=c.1):b=c:=by
 obtain⟨i,hi,rfl⟩:=qK.mp hb;obtain⟨j,hj,rfl⟩:=qK.mp hc;have nd:=R5.mp ok.nd;rcases Nat.lt_trichotomy i j with h|h|h
 ·exact absurd (by rw[Kg,Kg];exact e) (nd i j (by simpa using hi) (by simpa using hj) h)
 ·subst h;rfl
 ·exact absurd (by rw[Kg,Kg];exact e.symm) (nd j i (by simpa using hj) (by simpa using hi) h)
def Ef {S A B X:Z7}(h:∃ T,A=S++T)(e:B=A++X):∃ T,B=S++T:=by obtain⟨T,h⟩:=h;exact⟨T++X,by rw[e,h,qk]⟩
def jT {f:Str}{v:D}:putD f v []=[(f,v)]:=rfl
def zY {f g:Str}{v x:D}{r:List (Str×D)}(h:g≠f):putD f v ((g,x)::r)=(g,x)::putD f v r:=by show(if g=f then _ else _)=_;rw[if_neg h]
section
variable {g b f h a l d:D}
def iQ:putD "beacons" b ([("ground",g)]:List (Str×D))=([("ground",g),("beacons",b)]:List (Str×D)):=by rw[zY (by decide +kernel)];rfl
def vp3:putD "fogs" f ([("ground",g),("beacons",b)]:List (Str×D))=([("ground",g),("beacons",b),("fogs",f)]:List (Str×D)):=by rw[zY (by decide +kernel),zY (by decide +kernel)];rfl
def Ņ:putD "haze" h ([("ground",g),("beacons",b),("fogs",f)]:List (Str×D))=([("ground",g),("beacons",b),("fogs",f),("haze",h)]:List (Str×D)):=by rw[zY (by decide +kernel),zY (by decide +kernel),zY (by decide +kernel)];rfl
def η:putD "first" a ([("ground",g),("beacons",b),("fogs",f),("haze",h)]:List (Str×D))=([("ground",g),("beacons",b),("fogs",f),("haze",h),("first",a)]:List (Str×D)):=by rw[zY (by decide +kernel),zY (by decide +kernel),zY (by decide +kernel),zY (by decide +kernel)];rfl
def eF:putD "last" l ([("ground",g),("beacons",b),("fogs",f),("haze",h),("first",a)]:List (Str×D))=([("ground",g),("beacons",b),("fogs",f),("haze",h),("first",a),("last",l)]:List (Str×D)):=by rw[zY (by decide +kernel),zY (by decide +kernel),zY (by decide +kernel),zY (by decide +kernel),zY (by decide +kernel)];rfl
def ϋ:putD "delay" d ([("ground",g),("beacons",b),("fogs",f),("haze",h),("first",a),("last",l)]:List (Str×D))=vF g b f h a l d:=by rw[zY (by decide +kernel),zY (by decide +kernel),zY (by decide +kernel),zY (by decide +kernel),zY (by decide +kernel),zY (by decide +kernel)];rfl
end
def zpa {L R B T x1 z1 x2 z2:Int}:Rb L R B T x2 z2 x1 z1↔Rb L R B T x1 z1 x2 z2:=by
 have one:∀ {x1 z1 x2 z2:Int},Rb L R B T x1 z1 x2 z2->Rb L R B T x2 z2 x1 z1:=fun {x1 z1 x2 z2} zq19=>by
  obtain⟨p,q,h1,h2,h3,h4,h5,h6,h7⟩:=zq19;have e1:x2*q+(q-p)*(x1-x2)=x1*q+p*(x2-x1):=by grind
  have e2:z2*q+(q-p)*(z1-z2)=z1*q+p*(z2-z1):=by grind
  exact⟨q-p,q,h1,by lia,by lia,by rw[e1];exact h4,by rw[e1];exact h5,by rw[e2];exact h6,by rw[e2];exact h7⟩
 exact⟨one,one⟩
def Â {F:Fg}{a b:Int×Int}{h:Int}:Vk F b.1 b.2 a.1 a.2 h↔Vk F a.1 a.2 b.1 b.2 h:=by unfold Vk;rw[zpa]
def Ĕ {V:Vl}{a b:Int×Int}{h:Int}:R4 V b a h↔R4 V a b h:=by unfold R4 Ri;rw[zpH,d7 b a];simp only[Â]
def Eh (xs:List α){k:Int}(h0:0<=k)(h1:k<=xs.length):cutD xs none (some k)=xs.take k.toNat:=by unfold cutD Xk;dsimp only;rw[if_neg (by lia),List.drop_zero,Nat.sub_zero,Nat.min_eq_left (by lia)]
def ů (xs:List α){k:Int}(h0:0<=k)(h1:k<=xs.length):cutD xs (some k) none=xs.drop k.toNat:=by unfold cutD Xk;dsimp only;rw[if_neg (by lia),Nat.min_eq_left (by lia)];exact Eu (by rw[qbv];exact qh _)
def zzh (fs:List Fg)(s t:Int×Int)(h:Int)(d:D):Prop:=(∃ (k:Nat) (F:Fg),fs[k]?=some F/\Vk F s.1 s.2 t.1 t.2 h/\(∀ (j:Nat) G,j<k->fs[j]?=some G->¬ Vk G s.1 s.2 t.1 t.2 h)/\d=.tup [.str "fog",.int k])\/((∀ F∈fs,¬ Vk F s.1 s.2 t.1 t.2 h)/\d=.non)
def Fx (V:Vl)(n m:Str)(s t:Int×Int)(h:Int)(d:D):Prop:=(n=m/\d=.non)\/(n≠m/\((¬ Ri V s t/\d=Qn V s t)\/(Ri V s t/\zzh V.fs s t h d)))
theorem Fx.non {V:Vl}{n:Str}{t:Int×Int}(a:Fx V n m s t h d):d=.non↔n=m\/R4 V s t h:=by
 rcases a with⟨a1,rfl⟩|⟨a1,⟨a2,rfl⟩|⟨a2,⟨k,F,hk,hF,hn,rfl⟩|⟨hn,rfl⟩⟩⟩
 ·exact⟨fun _=>.inl a1,fun _=>rfl⟩
 ·rw[G7];exact⟨fun z=>absurd z a2,fun z=>z.elim (fun z=>absurd z a1) fun z=>absurd z.1 a2⟩
 ·exact⟨fun z=>(by cases z),fun z=>z.elim (fun z=>absurd z a1) fun z=>absurd ⟨F,qd hk,hF⟩ z.2⟩
 ·exact⟨fun _=>.inr ⟨a2,by rintro⟨F,hF,g⟩;exact hn F hF g⟩,fun _=>rfl⟩
theorem uN (n:Str):∀ zs:List Str,((zs.map D.str).any fun z=>eqv z (.str n))=decide (n∈zs)
 |[]=>by simp
 |z::zs=>by rw[qQ,Ku,uN n zs];show((z==n)||decide (n∈zs))=decide (n∈z::zs);rw[Ut,N5,beq_iff_eq,decide_eq_true_eq,decide_eq_true_eq,qv];exact⟨fun h=>h.imp (·.symm) id,fun h=>h.imp (·.symm) id⟩
def jJ {zs:List Str}(h:∀ z∈zs,fl 20 (.str z)=true):(zs.map D.str).all (fl 20)=true:=by rw[Ld,Vm];exact h
def JB {Q:DK}{zs:List Str}{n:Str}(hx:Qw S x (zs.map D.str))(hn:fl 20 (.str n)=true)(h:∀ z∈zs,fl 20 (.str z)=true)(q:Q (.bl (!decide (n∈zs))) S):Qs (.str n) x S Q:=.inl ⟨_,⟨_,hx,hn,jJ h,rfl⟩,by rw[uN];exact q⟩
def YX.flN {V:Vl}(ok:YX V):∀ z∈V.bs.map (·.1),fl 20 (.str z)=true:=fun z hz=>by obtain⟨b,hb,rfl⟩:=qC.mp hz;exact lR (ok.nm b hb) 20
mutual
theorem eqv_refl:∀ (k:Nat) (d:D),fl k d=true->eqv d d=true
  |_,.non,_=>rfl
  |_,.bl b,_=>by show(b==b)=true;simp
  |_,.int i,_=>by show decide (i=i)=true;simp
  |_,.str x,_=>by show(x==x)=true;simp
  |0,.tup _,h=>by cases h
  |k+1,.tup xs,h=>eqvAll_refl k xs h
  |k,.ref _,h=>by cases k<;>cases h
  |k,.ty _,h=>by cases k<;>cases h
  |k,.rl _,h=>by cases k<;>cases h
  |k,.kt _,h=>by cases k<;>cases h
  |k,.exn _,h=>by cases k<;>cases h
theorem eqvAll_refl:∀ (k:Nat) (xs:List D),xs.all (fl k)=true->eqvAll xs xs=true
  |_,[],_=>rfl
  |k,x::xs,h=>by rw[Xz,qq]at h;show(eqv x x&&eqvAll xs xs)=true;rw[eqv_refl k x h.1,eqvAll_refl k xs h.2];rfl
end
def Ο {S:Z7}{Q:DK}{x y:D}{p:PyData}(hx:Zk S 20 x=some p)(hy:Zk S 20 y=some p)(q:Q (.bl false) S):Yh x y S Q:=⟨true,.inr (.inr (.inr ⟨p,hx,hy,rfl⟩)),q⟩
def Ke (p:Str->D):D->D
 |.str z=>p z
 |d=>d
def Xg {zs:List Str}{i:Nat}{d:D}(h:(zs.map D.str)[i]?=some d):∃ z,zs[i]?=some z/\d=.str z:=by
 rw[qi]at h;cases e:zs[i]? with
 |none=>rw[e]at h;cases h
 |some p=>rw[e]at h;cases h;exact⟨p,rfl,rfl⟩
def Å (f:Str->D)(zs:List Str):(zs.map D.str).map (Ke f)=zs.map f:=by rw[Yg];rfl
def uQ {S:Z7}{Q:DK}{x y:Str}(fx:fl 20 (.str x)=true)(fy:fl 20 (.str y)=true)(q:Q (.bl (decide (x=y))) S):oEq (.str x) (.str y) S Q:=zr3 fx fy (by
 by_cases h:x=y
 ·subst h;rw[decide_eq_true rfl];exact beq_self_eq_true x
 ·rw[decide_eq_false h];exact beq_eq_false_iff_ne.mpr h) q
def prs:List Str->List (Str×Str)
 |[]=>[]
 |z::zs=>zs.map (fun y=>(z,y))++prs zs
abbrev Y4 (c:Str×Str):D:=.tup [.str c.1,.str c.2]
theorem K7:∀ zs:List Str,(prs zs).length<=zs.length*zs.length
 |[]=>qh _
 |z::zs=>by have:=K7 zs;show(zs.map (fun y=>(z,y))++prs zs).length<=(zs.length+1)*(zs.length+1);rw[qf,qa,Nat.add_mul,Nat.mul_add];lia
theorem rM:∀ {zs:List Str} {i:Nat} {z:Str},zs[i]?=some z->∃ A,prs zs=A++(zs.drop (i+1)).map (fun y=>(z,y))++prs (zs.drop (i+1))/\prs zs=A++prs (zs.drop i)
 |[],i,z,h=>by simp at h
 |y::zs,0,z,h=>by
  have:y=z:=by simpa using h
  subst this;exact⟨[],by simp[prs],by simp⟩
 |y::zs,i+1,z,h=>by obtain⟨A,h1,h2⟩:=rM (zs:=zs) (i:=i) (z:=z) (by simpa using h);exact⟨zs.map (fun x=>(y,x))++A,by simp[prs,h1],by simp only[prs,List.drop_succ_cons];rw[h2,qk]⟩
def MJ (V:Vl)(h:Int)(ps qs:List (Str×Str)):Prop:=∃ f:Str×Str->Bool,qs=ps.filter f/\∀ p∈ps,∀ s t,(p.1,s)∈V.bs->(p.2,t)∈V.bs->(f p=true↔p.1=p.2\/R4 V s t h)
theorem Vz:∀ {zs:List Str} {p:Str×Str},p∈prs zs->p.1∈zs/\p.2∈zs
 |[],p,h=>by simp[prs]at h
 |z::zs,p,h=>by
  rcases qE.mp h with h|h
  ·obtain⟨y,hy,rfl⟩:=qC.mp h;exact⟨by simp,qj _ hy⟩
  ·obtain⟨h1,h2⟩:=Vz h;exact⟨qj _ h1,qj _ h2⟩
def Ay {cs:List (Str×Str)}{i:Nat}{d:D}(h:(cs.map Y4)[i]?=some d):∃ c,cs[i]?=some c/\d=Y4 c:=by
 rw[qi]at h;cases e:cs[i]? with
 |none=>rw[e]at h;cases h
 |some p=>rw[e]at h;cases h;exact⟨p,rfl,rfl⟩
def yp {V:Vl}{ps qs':List (Str×Str)}{i:Nat}{p:Str×Str}{g:Bool}{s t:Int×Int}(hp:ps[i]?=some p)(hs:(p.1,s)∈V.bs)(ht:(p.2,t)∈V.bs)(hw:MJ V h (ps.take i) qs)(hg:∀ s t,(p.1,s)∈V.bs->(p.2,t)∈V.bs->(g=true↔p.1=p.2\/R4 V s t h))(e:qs'=if g=true then qs++[p]else qs):MJ V h (ps.take (i+1)) qs':=by
 obtain⟨f,hf,hfp⟩:=hw;rw[WY hp];have efg:p∈ps.take i->f p=g:=fun z=>by rw[Ut,hfp p z s t hs ht,hg s t hs ht]
 have e1:(ps.take i).filter (fun x=>if x∈ps.take i then f x else g)=qs:=by rw[hf];exact Rx fun x hx=>by rw[if_pos hx]
 have e2:(if p∈ps.take i then f p else g)=g:=by
  split
  ·rename_i z;exact efg z
  ·rfl
 refine⟨fun x=>if x∈ps.take i then f x else g,?_,fun x hx s' t' hs' ht'=>?_⟩
 ·rw[Rj,e1,e];cases g with
  |true=>rw[if_pos rfl,Hu (by exact e2)];rfl
  |false=>rw[if_neg (by decide),Jo (by rw[e2];decide)];simp
 ·dsimp only;by_cases z:x∈ps.take i
  ·rw[if_pos z];exact hfp x z s' t' hs' ht'
  ·rcases qE.mp hx with hx|hx
   ·exact absurd hx z
   ·have:x=p:=by simpa using hx
    subst this;rw[if_neg z];exact hg s' t' hs' ht'
def YK (V:Vl)(h:Int)(a b:Str):Prop:=∃ s t,(a,s)∈V.bs/\(b,t)∈V.bs/\(a=b\/R4 V s t h)
inductive X5 (V:Vl)(h:Int)(bar:List Str)(n:Str):Str->Prop
 |refl:X5 V h bar n n
 |step {a b:Str}:X5 V h bar n a->YK V h a b->b∉bar->X5 V h bar n b
theorem K5:∀ {F N:List Str},F.Nodup->(∀ x∈F,x∈N)->F.length<=N.length
 |[],_,_,_=>qH _
 |x::F,N,nd,h=>by
  obtain⟨n1,n2⟩:=VB.mp nd;have hx:=h x (by simp);have:=K5 (F:=F) (N:=N.erase x) n2 fun y hy=>(List.mem_erase_of_ne (fun e:y=x=>n1 (e▸hy))).mpr (h y (qj _ hy))
  rw[Am hx]at this;have:=Im hx;rw[qX];lia
open Classical in
noncomputable def Sh (V:Vl) (h:Int) (p:Str×Str):Bool:=decide (YK V h p.1 p.2)
def LR {V:Vl}{h:Int}{p:Str×Str}:Sh V h p=true↔YK V h p.1 p.2:=by unfold Sh;exact @decide_eq_true_iff _ (Classical.propDecidable _)
def Om {V:Vl}(w:YK V h a b):YK V h b a:=by obtain⟨s,t,hs,ht,e⟩:=w;exact⟨t,s,ht,hs,e.imp (·.symm) Ĕ.mpr⟩
def kZ {V:Vl}(ok:YX V){ps:List (Str×Str)}(hp:∀ p∈ps,p.1∈V.bs.map (·.1)/\p.2∈V.bs.map (·.1))(w:MJ V h ps qs):qs=ps.filter (Sh V h):=by
 obtain⟨f,rfl,hf⟩:=w;refine Rx fun p hpm=>?_
 obtain⟨m1,m2⟩:=hp p hpm;obtain⟨b,hb,eb⟩:=qC.mp m1;obtain⟨c,hc,ec⟩:=qC.mp m2;have hb':(p.1,b.2)∈V.bs:=by rw[<- eb];exact hb
 have hc':(p.2,c.2)∈V.bs:=by rw[<- ec];exact hc
 rw[Ut,hf p hpm b.2 c.2 hb' hc',LR];constructor
 ·intro z;exact⟨_,_,hb',hc',z⟩
 ·rintro⟨s,t,hs,ht,z⟩;have es:s=b.2:=congrArg Prod.snd (Jm ok hs hb' rfl);have et:t=c.2:=congrArg Prod.snd (Jm ok ht hc' rfl);subst es et;exact z
def Rq {S:Z7}{Q:DK}{x y:Str}(fx:fl 20 (.str x)=true)(fy:fl 20 (.str y)=true)(q:Q (.bl (!decide (x=y))) S):Yh (.str x) (.str y) S Q:=Δ fx fy (by
 by_cases h:x=y
 ·subst h;rw[decide_eq_true rfl];exact beq_self_eq_true x
 ·rw[decide_eq_false h];exact beq_eq_false_iff_ne.mpr h) q
theorem Mx:∀ {zs:List Str} {p:Str×Str},p∈prs zs↔∃ i j:Nat,i<j/\zs[i]?=some p.1/\zs[j]?=some p.2
 |[],p=>by simp[prs]
 |z::zs,p=>by
  show p∈zs.map (fun y=>(z,y))++prs zs↔_;rw[qE,Mx (zs:=zs)];constructor
  ·rintro(h|⟨i,j,h,h1,h2⟩)
   ·obtain⟨y,hy,rfl⟩:=qC.mp h;obtain⟨j,hj,e⟩:=qK.mp hy;exact⟨0,j+1,by lia,rfl,by rw[TX,qb hj,e]⟩
   ·exact⟨i+1,j+1,by lia,by rw[TX];exact h1,by rw[TX];exact h2⟩
  ·rintro⟨i,j,h,h1,h2⟩;obtain⟨j,rfl⟩:∃ k,j=k+1:=⟨j-1,by lia⟩
   rw[TX]at h2;cases i with
   |zero =>
    left;have e:z=p.1:=by simpa using h1
    exact qC.mpr ⟨p.2,qd h2,by rw[e]⟩
   |succ i =>rw[TX]at h1;exact .inr ⟨i,j,by lia,h1,h2⟩
def Ox {zs:List Str}(nd:zs.Nodup){i j:Nat}{z:Str}(hi:zs[i]?=some z)(hj:zs[j]?=some z):i=j:=by
 have li:=zu hi;have lj:=zu hj;rw[qb li]at hi;rw[qb lj]at hj;have e:zs[i]=zs[j]:=qD (hi.trans hj.symm);have:=R5.mp nd;rcases Nat.lt_trichotomy i j with g|g|g
 ·exact absurd e (this i j li lj g)
 ·exact g
 ·exact absurd e.symm (this j i lj li g)
def nU {zs:List Str}(nd:zs.Nodup){a b:Str}(h:(a,b)∈prs zs):(b,a)∉prs zs:=fun k=>by obtain⟨i,j,l,h1,h2⟩:=Mx.mp h;obtain⟨i',j',l',h1',h2'⟩:=Mx.mp k;have e1:=Ox nd h1 h2';have e2:=Ox nd h2 h1';lia
def M8 {zs:List Str}(nd:zs.Nodup){a b:Str}(h:(a,b)∈prs zs):a≠b:=fun e=>by subst e;exact nU nd h h
def nO {zs:List Str}{a b:Str}(ha:a∈zs)(hb:b∈zs)(h:a≠b):(a,b)∈prs zs\/(b,a)∈prs zs:=by
 obtain⟨i,hi,ei⟩:=qK.mp ha;obtain⟨j,hj,ej⟩:=qK.mp hb;have gi:zs[i]?=some a:=by rw[qb hi,ei]
 have gj:zs[j]?=some b:=by rw[qb hj,ej]
 rcases Nat.lt_trichotomy i j with g|g|g
 ·exact .inl (Mx.mpr ⟨i,j,g,gi,gj⟩)
 ·subst g;rw[gi]at gj;exact absurd (qD gj) h
 ·exact .inr (Mx.mpr ⟨j,i,g,gj,gi⟩)
theorem tu:∀ {zs:List Str},zs.Nodup->(prs zs).Nodup
 |[],_=>by simp[prs]
 |z::zs,nd=>by
  obtain⟨n1,n2⟩:=VB.mp nd;show(zs.map (fun y=>(z,y))++prs zs).Nodup;rw[VF];refine⟨?_,tu n2,fun a ha b hb e=>?_⟩
  ·refine List.pairwise_map.mpr (n2.imp fun h e=>h (congrArg Prod.snd e))
  ·subst e;obtain⟨y,hy,rfl⟩:=qC.mp ha;exact n1 (Vz hb).1
def Og {V:Vl}(w:YK V h a b):a∈V.bs.map (·.1)/\b∈V.bs.map (·.1):=by obtain⟨s,t,hs,ht,_⟩:=w;exact⟨qC.mpr ⟨_,hs,rfl⟩,qC.mpr ⟨_,ht,rfl⟩⟩
def pY {V:Vl}{a:Str}(ha:a∈V.bs.map (·.1))(c:X5 V h bar a b):b∈V.bs.map (·.1):=by
 induction c with
 |refl=>exact ha
 |step _ aD _ _=>exact(Og aD).2
def Wm (S:Z7)(x:D)(V:Vl)(h:Int):Prop:=∃ (n:Nat) (Z8:List (Str×D)),x=.ref n/\S[n]?=some (.dk Z8)/\∀ z∈V.bs.map (·.1),∃ (m:Nat) (ys:List Str),dval Z8 z=some (.ref m)/\S[m]?=some (.lst (ys.map D.str))/\ys.Nodup/\∀ y,y∈ys↔y≠z/\YK V h z y
def Wm.old {T:Z7}{V:Vl}(w:Wm S x V h):Wm (S++T) x V h:=by obtain⟨n,Z8,e,hn,hk⟩:=w;refine⟨n,Z8,e,zy hn,fun z hz=>?_⟩;obtain⟨m,ys,h1,h2,h3,h4⟩:=hk z hz;exact⟨m,ys,h1,zy h2,h3,h4⟩
def Wm.get {V:Vl}(w:Wm S x V h){z:Str}(hz:z∈V.bs.map (·.1)):∃ (m:Nat) (ys:List Str),Zj S x (.str z) (some (.ref m))/\S[m]?=some (.lst (ys.map D.str))/\ys.Nodup/\∀ y,y∈ys↔y≠z/\YK V h z y:=by obtain⟨n,Z8,rfl,hn,hk⟩:=w;obtain⟨m,ys,h1,h2,h3,h4⟩:=hk z hz;exact⟨m,ys,Zj.k hn h1,h2,h3,h4⟩
structure FQ (zs:List Str)(ps:List (Int×Int))(fs:List Fg)(hz f:Int):Prop where
 l2:2<=zs.length
 l8:zs.length<=8
 nm:∀ z∈zs,W4 z=true
 nd:zs.Nodup
 lp:ps.length=zs.length
 sp:∀ p∈ps,0<=p.1/\p.1<=4/\0<=p.2/\p.2<=3
 lf:fs.length<=4
 fg:∀ F∈fs,Ks F
 h0:0<=hz
 h1:hz<=10
 f0:-4<=f
 f1:f<=4
def zoY {zs:List Str}(hd:∀ (i:Nat) z,zs[i]?=some z->z.cps.toList.head?=some (97+i)):zs.Nodup:=by
 refine R5.mpr fun i j hi hj hij e=>?_
 have h1:=hd i _ (qb hi);have h2:=hd j _ (qb hj);rw[e,h2]at h1;have:=qD h1;lia
def W8 (a b:Str)(zs:List Str):List Str:=zs.filter fun z=>decide (z≠a/\z≠b)
def Xl (p:Str->Bool):D->Bool
 |.str z=>p z
 |_=>false
def vX (a b:Str)(zs:List Str):((zs.map D.str).filter (Xl fun z=>decide (z≠a/\z≠b))).map id=(W8 a b zs).map D.str:=by rw[List.map_id,Um];rfl
def lK (p:Nat->Bool):D->D
 |.str z=>.bl (p (z.cps.toList.headD 0))
 |d=>d
def Ϡ {z:Str}{i:Nat}{d:D}(h:(signs z)[i]?=some d):∃ c,z.cps.toList[i]?=some c/\d=.str ⟨#[c]⟩:=by
 unfold signs at h;rw[qi]at h;cases e:z.cps.toList[i]? with
 |none=>rw[e]at h;cases h
 |some p=>rw[e]at h;cases h;exact⟨p,rfl,rfl⟩
def zmN (p:Nat->Bool)(z:Str):(signs z).map (lK p)=(z.cps.toList.map p).map D.bl:=by unfold signs;rw[Yg,Yg];rfl
def aU (z:Str):(signs z).length=z.length:=by unfold signs;rw[qa];exact Vh
theorem wH {α β γ:Type}{f:β->Option γ}{g:α->β}{h:α->γ}:∀ {xs:List α},(∀ x∈xs,f (g x)=some (h x))->zT f (xs.map g)=some (xs.map h)
 |[],_=>rfl
 |x::xs,e=>by show zT f (g x::xs.map g)=_;unfold zT;rw[e x (by simp),wH fun y hy=>e y (by simp[hy])];rfl
def lD {ps:List PyData}{k:Nat}(hx:Lst S x xs)(h:zT (Zk S k) xs=some ps):Zk S (k+1) x=some (.list ps):=by
 rcases hx with rfl|⟨n,rfl,hx⟩
 ·show(zT (Zk S k) xs).map PyData.list=_;rw[h];rfl
 ·show(match S[n]? with
   |some (.lst xs)=>(zT (Zk S k) xs).map PyData.list
   |_=>none)=_
  rw[hx];show(zT (Zk S k) xs).map PyData.list=_;rw[h];rfl
section
variable {see:Nat->Nat->Int->Prop}{dl:Int}{s:Nat}{h0:Int}
inductive Lt (see:Nat->Nat->Int->Prop)(dl:Int)(s:Nat)(h0:Int):Nat->Int->Prop
 |base:Lt see dl s h0 s h0
 |step {k j:Nat} {h u:Int}:Lt see dl s h0 k h->h<=u->see k j u->Lt see dl s h0 j (u+dl)
end
def hrs (V:Vl):List Int:=(List.range (V.h1-V.h0+1).toNat).map fun i:Nat=>V.h0+(i:Int)
def sm:Nat->(Nat->Int)->Int
 |0,_=>0
 |n+1,f=>sm n f+f n
def UL {n:Nat}{f g:Nat->Int}(h:∀ i,i<n->f i=g i):sm n f=sm n g:=by
 induction n with
 |zero=>rfl
 |succ n ih=>show sm n f+f n=sm n g+g n;rw[ih fun i hi=>h i (by lia),h n (by lia)]
def MP {n:Nat}{f g:Nat->Int}:sm n (fun i=>f i+g i)=sm n f+sm n g:=by
 induction n with
 |zero=>rfl
 |succ n ih=>show sm n _+(f n+g n)=sm n f+f n+(sm n g+g n);rw[ih];lia
def yU {n:Nat}{f:Nat->Int}:sm n (fun i=>-f i)=-sm n f:=by
 induction n with
 |zero=>rfl
 |succ n ih=>show sm n _ + -f n=-(sm n f+f n);rw[ih];lia
def J2 {n:Nat}{f:Nat->Int}(h:∀ i,i<n->f i=0):sm n f=0:=by
 induction n with
 |zero=>rfl
 |succ n ih=>show sm n f+f n=0;rw[ih fun i hi=>h i (by lia),h n (by lia)];rfl
def zwN {n:Nat}{f:Nat->Int}(h:∀ i,i<n->0<=f i):0<=sm n f:=by
 induction n with
 |zero=>exact Sq _
 |succ n ih=>show 0<=sm n f+f n;have:=ih fun i hi=>h i (by lia);have:=h n (by lia);lia
def BZ {n j:Nat}{f:Nat->Int}(hj:j<n)(h:∀ i,i<n->i≠j->f i=0):sm n f=f j:=by
 induction n with
 |zero=>lia
 |succ n ih =>
  show sm n f+f n=f j;by_cases e:j=n
  ·subst e;rw[J2 fun i hi=>h i (by lia) (by lia)];lia
  ·rw[ih (by lia) fun i hi hn=>h i (by lia) hn,h n (by lia) (by lia)];lia
def Mf {n j:Nat}{f:Nat->Int}(h:∀ i,i<n->0<=f i)(hj:j<n):f j<=sm n f:=by
 induction n with
 |zero=>lia
 |succ n ih =>
  show f j<=sm n f+f n;have h0:0<=sm n f:=zwN fun i hi=>h i (by lia)
  have:=h n (by lia);by_cases e:j=n
  ·subst e;lia
  ·have:=ih (fun i hi=>h i (by lia)) (by lia);lia
def yd {n j k:Nat}{f:Nat->Int}(h:∀ i,i<n->0<=f i)(hj:j<n)(hk:k<n)(ne:j≠k):f j+f k<=sm n f:=by
 induction n with
 |zero=>lia
 |succ n ih =>
  show f j+f k<=sm n f+f n;have hn:=h n (by lia);have mem:∀ i,i<n->f i<=sm n f:=fun i hi=>Mf (fun i hi=>h i (by lia)) hi
  by_cases e:j=n
  ·subst e;have:=mem k (by lia);lia
  ·by_cases e2:k=n
   ·subst e2;have:=mem j (by lia);lia
   ·have:=ih (fun i hi=>h i (by lia)) (by lia) (by lia);lia
def gw {n:Nat}{f:Nat->Int}(h:0<sm n f):∃ j,j<n/\0<f j:=by
 induction n with
 |zero=>exact absurd h (O5 0)
 |succ n ih =>
  by_cases e:0<f n
  ·exact⟨n,by lia,e⟩
  ·obtain⟨j,hj,hp⟩:=ih (by have:0<sm n f+f n:=h;lia);exact⟨j,by lia,hp⟩
def Þ {n m:Nat}{f:Nat->Nat->Int}:sm n (fun i=>sm m fun j=>f i j)=sm m fun j=>sm n fun i=>f i j:=by
 induction n with
 |zero=>exact(J2 fun _ _=>rfl).symm
 |succ n ih=>show sm n _+sm m _=sm m fun j=>(sm n fun i=>f i j)+f n j;rw[ih,MP]
def yQ {n:Nat}{p:Nat->Bool}:sm n (fun i=>if p i=true then 1 else 0)=(((List.range n).filter p).length:Int):=by
 induction n with
 |zero=>rfl
 |succ n ih =>
  show sm n _+_=_;rw[ih,Lk,Rj,qf];cases e:p n with
  |true=>rw[Hu e];simp[e]
  |false=>rw[Jo (by rw[e];exact qr)];simp[e]
abbrev Pt:=Nat×Bool
structure Wb where
 n:Nat
 adj:Nat->Nat->Bool
 s:Nat
 t:Nat
structure Zv (W:Wb):Prop where
 irr:∀ a,W.adj a a=false
 sym:∀ a b,W.adj a b=W.adj b a
 lt:∀ a b,W.adj a b=true->a<W.n/\b<W.n
 s:W.s<W.n
 t:W.t<W.n
 st:W.s≠W.t
 na:W.adj W.s W.t=false
def Y9 (W:Wb):Pt->Pt->Int
 |(v,false),(w,true)=>if v=w/\v≠W.s/\v≠W.t/\v<W.n then 1 else 0
 |(a,true),(b,false)=>if W.adj a b=true then(W.n:Int)else 0
 |_,_=>0
def sp (W:Wb)(f:Pt->Int):Int:=sm W.n fun v=>f (v,false)+f (v,true)
def src (W:Wb):Pt:=(W.s,true)
def Y7 (W:Wb):Pt:=(W.t,false)
def WM (W:Wb)(c:Pt->Pt->Int)(p:Pt):Int:=sp W fun q=>Y9 W p q-c p q
structure Qu (W:Wb)(c:Pt->Pt->Int)(k:Int)(r:Pt):Prop where
 nn:∀ p q,0<=c p q
 an:∀ p q,c p q+c q p=Y9 W p q+Y9 W q p
 cs:∀ p:Pt,p.1<W.n->WM W c p=(if p=src W then k else 0)-(if p=Y7 W then k+1 else 0)+(if p=r then 1 else 0)
structure ZK (W:Wb)(c:Pt->Pt->Int)(k:Int):Prop where
 nn:∀ p q,0<=c p q
 an:∀ p q,c p q+c q p=Y9 W p q+Y9 W q p
 cs:∀ p:Pt,p.1<W.n->WM W c p=(if p=src W then k else 0)-(if p=Y7 W then k else 0)
def ZK.start {k:Int}(h:ZK W c k):Qu W c k (Y7 W):=by
 refine⟨h.nn,h.an,fun p hp=>?_⟩;rw[h.cs p hp];by_cases e:p=Y7 W
 ·rw[if_pos e,if_pos e,if_pos e];lia
 ·rw[if_neg e,if_neg e,if_neg e];lia
def Qu.end {k:Int}(h:Qu W c k (src W)):ZK W c (k+1):=by
 refine⟨h.nn,h.an,fun p hp=>?_⟩;rw[h.cs p hp];by_cases e:p=src W
 ·rw[if_pos e,if_pos e,if_pos e];lia
 ·rw[if_neg e,if_neg e,if_neg e];lia
def tk (c:Pt->Pt->Int)(a b:Pt):Pt->Pt->Int:=fun p q=>if p=a/\q=b then c a b-1 else if p=b/\q=a then c b a+1 else c p q
def Km {W:Wb}{f:Pt->Int}{b:Pt}(hb:b.1<W.n)(h:∀ q,q.1<W.n->q≠b->f q=0):sp W f=f b:=by
 unfold sp;rw[BZ hb fun i hi' hi=>?_]
 ·obtain⟨v,s⟩:=b;cases s with
  |false=>show f (v,false)+f (v,true)=_;rw[h (v,true) hb (by simp)];lia
  |true=>show f (v,false)+f (v,true)=_;rw[h (v,false) hb (by simp)];lia
 ·rw[h (i,false) hi' (fun e=>hi (by rw[<- e])),h (i,true) hi' (fun e=>hi (by rw[<- e]))];rfl
def Dy {W:Wb}{f g:Pt->Int}:sp W (fun q=>f q+g q)=sp W f+sp W g:=by unfold sp;rw[<- MP];exact UL fun i _=>by dsimp only;lia
def Kz {W:Wb}{f g:Pt->Int}(h:∀ q,f q=g q):sp W f=sp W g:=by rw[funext h]
def zsR {W:Wb}{c:Pt->Pt->Int}{a b:Pt}(ha:a.1<W.n)(hb:b.1<W.n)(ne:a≠b)(p:Pt):WM W (tk c a b) p=WM W c p+(if p=a then 1 else 0)-(if p=b then 1 else 0):=by
 have e:WM W (tk c a b) p=WM W c p+sp W fun q=>c p q-tk c a b p q:=by unfold WM;rw[<- Dy];exact Kz fun q=>by lia
 rw[e];by_cases h1:p=a
 ·subst h1;rw[Km hb fun q _ hq=>?_,if_pos rfl,if_neg ne]
  ·unfold tk;rw[if_pos ⟨rfl,rfl⟩];lia
  ·unfold tk;rw[if_neg (fun z=>hq z.2),if_neg (fun z=>ne z.1)];lia
 ·by_cases h2:p=b
  ·subst h2;rw[Km ha fun q _ hq=>?_,if_neg h1,if_pos rfl]
   ·unfold tk;rw[if_neg (fun z=>h1 z.1),if_pos ⟨rfl,rfl⟩];lia
   ·unfold tk;rw[if_neg (fun z=>h1 z.1),if_neg (fun z=>hq z.2)];lia
  ·rw[if_neg h1,if_neg h2,show(sp W fun q=>c p q-tk c a b p q)=0 from J2 fun i _=>?_]
   ·lia
   ·have:∀ q,c p q-tk c a b p q=0:=fun q=>by unfold tk;rw[if_neg (fun z=>h1 z.1),if_neg (fun z=>h2 z.1)];lia
    show c p (i,false)-tk c a b p (i,false)+(c p (i,true)-tk c a b p (i,true))=0;rw[this,this];rfl
def Qu.step {k:Int}{a:Pt}(h:Qu W c k r)(ha:a.1<W.n)(hr:r.1<W.n)(ne:a≠r)(pos:0<c a r):Qu W (tk c a r) k a:=by
 refine⟨fun p q=>?_,fun p q=>?_,fun p hp=>?_⟩
 ·have:=h.nn p q;have:=h.nn r a;unfold tk;by_cases e1:p=a/\q=r
  ·rw[if_pos e1];lia
  ·rw[if_neg e1];by_cases e2:p=r/\q=a
   ·rw[if_pos e2];lia
   ·rw[if_neg e2];exact h.nn p q
 ·have e:=h.an p q;unfold tk;by_cases e1:p=a/\q=r
  ·obtain⟨rfl,rfl⟩:=e1;rw[if_pos ⟨rfl,rfl⟩,if_neg (fun z=>ne z.1.symm),if_pos ⟨rfl,rfl⟩];lia
  ·by_cases e2:p=r/\q=a
   ·obtain⟨rfl,rfl⟩:=e2;rw[if_neg e1,if_pos ⟨rfl,rfl⟩,if_pos ⟨rfl,rfl⟩];lia
   ·rw[if_neg e1,if_neg e2,if_neg (fun z=>e2 ⟨z.2,z.1⟩),if_neg (fun z=>e1 ⟨z.2,z.1⟩)];exact e
 ·rw[zsR ha hr ne p,h.cs p hp];lia
section
variable {W:Wb}{c:Pt->Pt->Int}{k:Int}
def Tv {a b:Nat}:Y9 W (a,true) (b,false)=if W.adj a b=true then(W.n:Int)else 0:=rfl
def RW {v w:Nat}:Y9 W (v,false) (w,true)=if v=w/\v≠W.s/\v≠W.t/\v<W.n then 1 else 0:=rfl
def Hs {v w:Nat}:Y9 W (v,false) (w,false)=0:=rfl
def Jt {v w:Nat}:Y9 W (v,true) (w,true)=0:=rfl
def arc (c:Pt->Pt->Int)(a b:Nat):Int:=if a=b then 0 else c (b,false) (a,true)
def thr (c:Pt->Pt->Int)(v:Nat):Int:=c (v,true) (v,false)
def QC (h:ZK W c k)(a b:Nat):0<=arc c a b:=by
 unfold arc;by_cases e:a=b
 ·rw[if_pos e];exact Sq _
 ·rw[if_neg e];exact h.nn _ _
def Il (h:ZK W c k){a b:Nat}(ne:a≠b):Y9 W (a,true) (b,false)-c (a,true) (b,false)=arc c a b:=by have e:=h.an (a,true) (b,false);rw[RW (v:=b),if_neg (fun z=>ne z.1.symm)]at e;unfold arc;rw[if_neg ne];lia
def Uk (ok:Zv W)(h:ZK W c k){a b:Nat}(p:0<arc c a b):W.adj a b=true/\a≠b:=by
 have ne:a≠b:=fun e=>by unfold arc at p;rw[if_pos e]at p;exact absurd p (O5 0)
 refine⟨?_,ne⟩;have e:=Il h ne;have n0:=h.nn (a,true) (b,false);cases hc:W.adj a b with
 |true=>rfl
 |false=>rw[Tv,hc,if_neg qr]at e;lia
def tY (ok:Zv W)(h:ZK W c k)(v:Nat):Y9 W (v,false) (v,true)-c (v,false) (v,true)=thr c v:=by have e:=h.an (v,false) (v,true);rw[Tv (a:=v),ok.irr,if_neg qr]at e;unfold thr;lia
def Qc (ok:Zv W)(h:ZK W c k)(v:Nat):0<=thr c v/\thr c v<=1/\(v=W.s\/v=W.t->thr c v=0):=by
 have e:=tY ok h v;have n0:=h.nn (v,false) (v,true);have n1:0<=thr c v:=h.nn _ _;rw[RW]at e;by_cases g:v=v/\v≠W.s/\v≠W.t/\v<W.n
 ·rw[if_pos g]at e;exact⟨n1,by lia,fun z=>by rcases z with z|z;exact absurd z g.2.1;exact absurd z g.2.2.1⟩
 ·rw[if_neg g]at e;exact⟨n1,by lia,fun _=>by lia⟩
def vL (h:ZK W c k){v w:Nat}{s:Bool}:c (v,s) (w,s)=0:=by
 have e:=h.an (v,s) (w,s);have:=h.nn (v,s) (w,s);have:=h.nn (w,s) (v,s);cases s with
 |false=>rw[Hs,Hs]at e;lia
 |true=>rw[Jt,Jt]at e;lia
def J5 (ok:Zv W)(h:ZK W c k){v:Nat}(hv:v<W.n):sm W.n (fun a=>arc c a v)=thr c v+(if v=W.t then k else 0):=by
 have e:=h.cs (v,false) hv;unfold WM sp at e
 have e2:(sm W.n fun w=>Y9 W (v,false) (w,false)-c (v,false) (w,false)+(Y9 W (v,false) (w,true)-c (v,false) (w,true)))=sm W.n (fun w=>-arc c w v)+sm W.n (fun w=>if w=v then thr c v else 0):=by
  rw[<- MP];refine UL fun w _=>?_
  rw[Hs,vL h];by_cases ew:w=v
  ·subst ew;rw[if_pos rfl,tY ok h];unfold arc;rw[if_pos rfl];lia
  ·rw[if_neg ew,RW,if_neg (fun z=>ew z.1.symm)];unfold arc;rw[if_neg ew];lia
 rw[e2,yU,BZ hv fun i _ hi=>if_neg hi,if_pos rfl]at e;rw[if_neg (show(v,false)≠src W by unfold src;simp)]at e;by_cases ev:v=W.t
 ·rw[if_pos (show(v,false)=Y7 W by unfold Y7;rw[ev])]at e;rw[if_pos ev];lia
 ·rw[if_neg (show(v,false)≠Y7 W by unfold Y7;intro z;exact ev (X3 z).1)]at e;rw[if_neg ev];lia
def Ir (ok:Zv W)(h:ZK W c k){v:Nat}(hv:v<W.n):sm W.n (arc c v)=thr c v+(if v=W.s then k else 0):=by
 have e:=h.cs (v,true) hv;unfold WM sp at e
 have e2:(sm W.n fun w=>Y9 W (v,true) (w,false)-c (v,true) (w,false)+(Y9 W (v,true) (w,true)-c (v,true) (w,true)))=sm W.n (arc c v)+sm W.n (fun w=>if w=v then -thr c v else 0):=by
  rw[<- MP];refine UL fun w _=>?_
  rw[Jt,vL h];by_cases ew:w=v
  ·subst ew;rw[if_pos rfl,Tv,ok.irr,if_neg qr];unfold arc thr;rw[if_pos rfl];lia
  ·rw[if_neg ew,Il h (Ne.symm ew)];lia
 rw[e2,BZ hv fun i _ hi=>if_neg hi,if_pos rfl]at e;rw[if_neg (show(v,true)≠Y7 W by unfold Y7;simp)]at e;by_cases ev:v=W.s
 ·rw[if_pos (show(v,true)=src W by unfold src;rw[ev])]at e;rw[if_pos ev];lia
 ·rw[if_neg (show(v,true)≠src W by unfold src;intro z;exact ev (X3 z).1)]at e;rw[if_neg ev];lia
def Ag (ok:Zv W)(h:ZK W c k){a b:Nat}(ha:a<W.n)(hb:b<W.n):arc c a b<=1:=by
 have n1:∀ i,i<W.n->0<=arc c i b:=fun i _=>QC h i b
 have n2:∀ i,i<W.n->0<=arc c a i:=fun i _=>QC h a i
 by_cases e:b=W.t
 ·by_cases e2:a=W.s
  ·by_cases g:0<arc c a b
   ·have:=(Uk ok h g).1;rw[e,e2,ok.na]at this;cases this
   ·lia
  ·have:=Ir ok h ha;rw[if_neg e2]at this;have:=(Qc ok h a).2.1;have:=Mf n2 hb;lia
 ·have:=J5 ok h hb;rw[if_neg e]at this;have:=(Qc ok h b).2.1;have:=Mf n1 ha;lia
def zt0 (ok:Zv W)(h:ZK W c k){a a' b:Nat}(hb:b≠W.t)(p:0<arc c a b)(p':0<arc c a' b):a=a':=by
 obtain⟨l1,l2⟩:=ok.lt _ _ (Uk ok h p).1;obtain⟨l1',_⟩:=ok.lt _ _ (Uk ok h p').1;have e:=J5 ok h l2;rw[if_neg hb]at e;have:=(Qc ok h b).2.1;by_cases ne:a=a'
 ·exact ne
 ·have:=yd (fun i _=>QC h i b) l1 l1' ne;lia
def bN (ok:Zv W)(h:ZK W c k){a b b':Nat}(ha:a≠W.s)(p:0<arc c a b)(p':0<arc c a b'):b=b':=by
 obtain⟨l1,l2⟩:=ok.lt _ _ (Uk ok h p).1;obtain⟨_,l2'⟩:=ok.lt _ _ (Uk ok h p').1;have e:=Ir ok h l1;rw[if_neg ha]at e;have:=(Qc ok h a).2.1;by_cases ne:b=b'
 ·exact ne
 ·have:=yd (fun i _=>QC h a i) l2 l2' ne;lia
def Ej (ok:Zv W)(h:ZK W c k)(a:Nat):¬ 0<arc c a W.s:=fun p=>by obtain⟨l1,l2⟩:=ok.lt _ _ (Uk ok h p).1;have e:=J5 ok h l2;rw[if_neg ok.st,(Qc ok h W.s).2.2 (.inl rfl)]at e;have:=Mf (fun i _=>QC h i W.s) l1;lia
def zoJ (ok:Zv W)(h:ZK W c k){a b:Nat}(hb:b≠W.t)(p:0<arc c a b):∃ d,d<W.n/\0<arc c b d:=by
 obtain⟨l1,l2⟩:=ok.lt _ _ (Uk ok h p).1;have e:=J5 ok h l2;rw[if_neg hb]at e;have:=Mf (fun i _=>QC h i b) l1;have hs:b≠W.s:=fun z=>Ej ok h a (z▸p)
 have e2:=Ir ok h l2;rw[if_neg hs]at e2;exact gw (f:=arc c b) (by lia)
def begins (ok:Zv W)(h:ZK W c k):(((List.range W.n).filter fun b=>decide (0<arc c W.s b)).length:Int)=k:=by
 rw[<- yQ];have e:=Ir ok h ok.s;rw[if_pos rfl,(Qc ok h W.s).2.2 (.inl rfl)]at e;rw[<- show sm W.n (arc c W.s)=k by lia];refine UL fun b hb=>?_
 have l:=Ag ok h ok.s hb;have n:=QC h W.s b;by_cases g:0<arc c W.s b
 ·rw[if_pos (decide_eq_true g)];lia
 ·rw[if_neg (by rw[decide_eq_false g];exact qr)];lia
def zrU {f:Pt->Pt->Int}:sp W (fun p=>sp W fun q=>f p q)=sp W fun q=>sp W fun p=>f p q:=by
 unfold sp;have e:∀ g:Pt->Pt->Int,(sm W.n fun v=>(sm W.n fun w=>g (v,false) (w,false)+g (v,false) (w,true))+sm W.n fun w=>g (v,true) (w,false)+g (v,true) (w,true))=sm W.n fun v=>sm W.n fun w=>(g (v,false) (w,false)+g (v,false) (w,true))+(g (v,true) (w,false)+g (v,true) (w,true)):=fun g=>UL fun v _=>MP.symm
 rw[e,e (fun q p=>f p q),Þ];exact UL fun w _=>UL fun v _=>by lia
def nF {f:Pt->Int}:sp W (fun q=>-f q)=-sp W f:=by unfold sp;rw[<- yU];exact UL fun i _=>by dsimp only;lia
def Df {f:Pt->Int}(h:∀ q,q.1<W.n->f q=0):sp W f=0:=J2 fun i hi=>by rw[h (i,false) hi,h (i,true) hi];rfl
structure Lj (W:Wb)(c:Pt->Pt->Int)(R:Pt->Bool):Prop where
 s:R (src W)=true
 t:R (Y7 W)=false
 cl:∀ p q,R p=true->0<c p q->R q=true
def Ym (R:Pt->Bool)(v:Nat):Bool:=R (v,false)&&!R (v,true)
def zrp (ok:Zv W)(h:ZK W c k){R:Pt->Bool}(hR:Lj W c R)(n2:2<=W.n)(v:Nat)(hv:v<W.n) :
  (sp W fun q=>if R (v,false)=true/\R q=false then Y9 W (v,false) q-c (v,false) q else 0)+(sp W fun q=>if R (v,true)=true/\R q=false then Y9 W (v,true) q-c (v,true) q else 0)=if Ym R v=true then 1 else 0:=by
 have z:∀ p q,R p=true->R q=false->c p q=0:=fun p q hp hq=>by
  have:=h.nn p q;by_cases g:0<c p q
  ·rw[hR.cl p q hp g]at hq;cases hq
  ·lia
 have e2:(sp W fun q=>if R (v,true)=true/\R q=false then Y9 W (v,true) q-c (v,true) q else 0)=0:=Df fun q hq=>by
  by_cases g:R (v,true)=true/\R q=false
  ·rw[if_pos g,z _ _ g.1 g.2];obtain⟨w,s⟩:=q;cases s with
   |true=>rw[Jt];rfl
   |false =>
    rw[Tv];by_cases ha:W.adj v w=true
    ·have ne:v≠w:=fun e=>by rw[e,ok.irr]at ha;cases ha
     have e:=Il h ne;have l:arc c v w<=1:=Ag ok h hv hq;rw[z _ _ g.1 g.2,Tv,if_pos ha]at e;lia
    ·rw[if_neg ha];rfl
  ·rw[if_neg g]
 rw[e2,Km (b:=(v,true)) hv fun q _ hq=>?_]
 ·unfold Ym;by_cases g:R (v,false)=true/\R (v,true)=false
  ·have h1:v≠W.s:=fun e=>by
    have:=hR.s;unfold src at this;rw[<- e,g.2]at this;cases this
   have h2:v≠W.t:=fun e=>by have:=hR.t;unfold Y7 at this;rw[<- e,g.1]at this;cases this
   rw[if_pos g,z _ _ g.1 g.2,if_pos (by rw[g.1,g.2];rfl),RW,if_pos ⟨rfl,h1,h2,hv⟩];rfl
  ·have h1:¬ (R (v,false)&&!R (v,true))=true:=fun e=>g (by
    rw[qq,Bool.not_eq_true']at e;exact e)
   rw[if_neg g,if_neg h1];rfl
 ·by_cases g:R (v,false)=true/\R q=false
  ·rw[if_pos g,z _ _ g.1 g.2];obtain⟨w,s⟩:=q;cases s with
   |false=>rw[Hs];rfl
   |true=>rw[RW,if_neg (fun e=>hq (by rw[e.1]))];rfl
  ·rw[if_neg g]
def keepers (ok:Zv W)(h:ZK W c k){R:Pt->Bool}(hR:Lj W c R):(((List.range W.n).filter (Ym R)).length:Int)=k:=by
 have n2:2<=W.n:=by have:=ok.s;have:=ok.t;have:=ok.st;lia
 rw[<- yQ]
 have a1:(sp W fun p=>if R p=true then WM W c p else 0)=k:=by
  rw[Km (b:=src W) ok.s fun p g hp=>?_,if_pos hR.s,h.cs _ ok.s,if_pos rfl,if_neg (by unfold src Y7;simp)]
  ·lia
  ·by_cases r:R p=true
   ·rw[if_pos r,h.cs p g,if_neg hp,if_neg (fun e=>by rw[e,hR.t]at r;cases r)];rfl
   ·rw[if_neg r]
 obtain⟨F,hF⟩:∃ F:Pt->Pt->Int,F=fun p q=>Y9 W p q-c p q:=⟨_,rfl⟩
 have anti:∀ p q,F q p=-F p q:=fun p q=>by rw[hF];have:=h.an p q;dsimp only;lia
 have a2:(sp W fun p=>if R p=true then WM W c p else 0)=(sp W fun p=>sp W fun q=>if R p=true/\R q=true then F p q else 0)+sp W fun p=>sp W fun q=>if R p=true/\R q=false then F p q else 0:=by
  rw[<- Dy];refine Kz fun p=>?_
  rw[<- Dy];by_cases r:R p=true
  ·rw[if_pos r];unfold WM;refine Kz fun q=>?_
   rw[hF];cases e:R q with
   |true=>rw[if_pos ⟨r,rfl⟩,if_neg (fun z=>by cases z.2)];dsimp only;lia
   |false=>rw[if_neg (fun z=>by cases z.2),if_pos ⟨r,rfl⟩];dsimp only;lia
  ·rw[if_neg r,Df fun q _=>?_];rw[if_neg (fun z=>r z.1),if_neg (fun z=>r z.1)];rfl
 have a3:(sp W fun p=>sp W fun q=>if R p=true/\R q=true then F p q else 0)=0:=by
  have e:(sp W fun p=>sp W fun q=>if R p=true/\R q=true then F p q else 0)=-(sp W fun p=>sp W fun q=>if R p=true/\R q=true then F p q else 0):=by
   conv=>lhs;rw[zrU]
   rw[<- nF];refine Kz fun q=>?_
   rw[<- nF];refine Kz fun p=>?_
   by_cases g:R p=true/\R q=true
   ·rw[if_pos g,if_pos ⟨g.2,g.1⟩,anti q p]
   ·rw[if_neg g,if_neg (fun z=>g ⟨z.2,z.1⟩)];rfl
  lia
 rw[a3,Int.zero_add,a1]at a2;rw[a2];unfold sp;refine UL fun v hv=>?_
 rw[<- zrp ok h hR n2 v hv,hF];rfl
def bf (ok:Zv W)(h:ZK W c k){R:Pt->Bool}(hR:Lj W c R)(hv:R (v,true)=true)(ha:W.adj v w=true):R (w,false)=true/\w≠W.t/\(Ym R w=false->R (w,true)=true):=by
 have n2:2<=W.n:=by have:=ok.s;have:=ok.t;have:=ok.st;lia
 obtain⟨l1,l2⟩:=ok.lt _ _ ha;have ne:v≠w:=fun e=>by rw[e,ok.irr]at ha;cases ha
 have e:=Il h ne;have l:=Ag ok h l1 l2;rw[Tv,if_pos ha]at e;have r:R (w,false)=true:=hR.cl _ _ hv (by lia);refine⟨r,fun z=>?_,fun k'=>?_⟩
 ·have:=hR.t;unfold Y7 at this;rw[<- z,r]at this;cases this
 ·unfold Ym at k';rw[r,Bool.true_and]at k';cases e2:R (w,true)with
  |true=>rfl
  |false=>rw[e2]at k';cases k'
def zty (h:Lj W c R):Ym R W.s=false/\Ym R W.t=false:=by have h1:=h.s;have h2:=h.t;unfold src at h1;unfold Y7 at h2;unfold Ym;rw[h1,h2];exact⟨by simp,rfl⟩
structure Yj (W:Wb)(c:Pt->Pt->Int)(vs:List Nat):Prop where
 hd:vs[0]?=some W.s
 ch:∀ (i a b:Nat),vs[i]?=some a->vs[i+1]?=some b->0<arc c a b
 nt:∀ (i a:Nat),vs[i]?=some a->i+1<vs.length->a≠W.t
def Yj.same (ok:Zv W)(h:ZK W c k)(A:Yj W c vs)(B:Yj W c ws):∀ (i j v:Nat),vs[i]?=some v->ws[j]?=some v->v≠W.t->i=j/\∀ m,m<=i->vs[m]?=ws[m]?:=by
 intro i
 induction i with
 |zero =>
  intro j v hi hj nt;have ev:v=W.s:=by rw[A.hd]at hi;exact(qD hi).symm
  cases j with
  |zero=>exact⟨rfl,fun m hm=>by rw[show m=0 by lia,A.hd,B.hd]⟩
  |succ j =>
   have lj:j<ws.length:=by
    rcases Yv j ws.length with g|g
    ·exact g
    ·rw[qw (by lia)]at hj;cases hj
   have:=B.ch j _ v (qb lj) hj;rw[ev]at this;exact absurd this (Ej ok h _)
 |succ i ih =>
  intro j v hi hj nt
  have li:i+1<vs.length:=by
   rcases Yv (i+1) vs.length with g|g
   ·exact g
   ·rw[qw g]at hi;cases hi
  have gi:vs[i]?=some (vs[i]'(by lia)):=qb (by lia);have a1:=A.ch i _ v gi hi;cases j with
  |zero =>
   have ev:v=W.s:=by rw[B.hd]at hj;exact(qD hj).symm
   rw[ev]at a1;exact absurd a1 (Ej ok h _)
  |succ j =>
   have lj:j+1<ws.length:=by
    rcases Yv (j+1) ws.length with g|g
    ·exact g
    ·rw[qw g]at hj;cases hj
   have gj:ws[j]?=some (ws[j]'(by lia)):=qb (by lia);have a2:=B.ch j _ v gj hj;have e:=zt0 ok h nt a1 a2;obtain⟨e1,e2⟩:=ih j _ gi (by rw[gj,e]) (A.nt i _ gi li);refine⟨by lia,fun m hm=>?_⟩;by_cases g:m<=i
   ·exact e2 m g
   ·rw[show m=i+1 by lia,hi,e1,hj]
def Yj.nodup (ok:Zv W)(h:ZK W c k)(A:Yj W c vs):vs.Nodup:=by
 refine R5.mpr fun i j hi hj l e=>?_
 have gi:vs[i]?=some vs[i]:=qb hi;have gj:vs[j]?=some vs[i]:=by rw[e];exact qb hj
 have:=(A.same ok h A i j _ gi gj (A.nt i _ gi (by lia))).1;lia
theorem Yj.lt (ok:Zv W)(h:ZK W c k)(A:Yj W c vs):∀ v∈vs,v<W.n:=by
 intro v hv;obtain⟨i,hi⟩:=qS.mp hv;cases i with
 |zero=>rw[A.hd]at hi;cases hi;exact ok.s
 |succ i =>
  have li:i<vs.length:=by
   rcases Yv i vs.length with g|g
   ·exact g
   ·rw[qw (by lia)]at hi;cases hi
  exact(ok.lt _ _ (Uk ok h (A.ch i _ v (qb li) hi)).1).2
def Yj.apart (ok:Zv W)(h:ZK W c k)(A:Yj W c vs)(B:Yj W c ws)(ne:vs[1]?≠ws[1]?){v:Nat}(hv:v∈vs)(hw:v∈ws):v=W.s\/v=W.t:=by
 by_cases nt:v=W.t
 ·exact .inr nt
 ·obtain⟨i,hi⟩:=qS.mp hv;obtain⟨j,hj⟩:=qS.mp hw;obtain⟨_,e⟩:=A.same ok h B i j v hi hj nt;cases i with
  |zero=>rw[A.hd]at hi;cases hi;exact .inl rfl
  |succ i=>exact absurd (e 1 (by lia)) ne
def Yj.snoc (A:Yj W c vs){a b:Nat}(hl:vs[vs.length-1]?=some a)(na:a≠W.t)(p:0<arc c a b):Yj W c (vs++[b]):=by
 have pos:0<vs.length:=by
  rcases Nat.eq_zero_or_pos vs.length with g|g
  ·rw[qw (by lia)]at hl;cases hl
  ·exact g
 refine⟨by rw[qg pos];exact A.hd,fun i x y hx hy=>?_,fun i x hx hi=>?_⟩
 ·by_cases g:i+1<vs.length
  ·rw[qg (by lia)]at hx;rw[qg g]at hy;exact A.ch i x y hx hy
  ·have l:i+1<(vs++[b]).length:=by
    rcases Yv (i+1) (vs++[b]).length with g|g
    ·exact g
    ·rw[qw g]at hy;cases hy
   have e:i+1=vs.length:=by rw[qf,qM]at l;lia
   rw[e,qe (qh _),Yk]at hy;have ey:b=y:=by simpa using hy
   rw[qg (by lia),show i=vs.length-1 by lia,hl]at hx;cases hx;rw[<- ey];exact p
 ·rw[qf,qM]at hi;rw[qg (by lia)]at hx;by_cases g:i+1<vs.length
  ·exact A.nt i x hx g
  ·rw[show i=vs.length-1 by lia,hl]at hx;cases hx;exact na
theorem nj:∀ (rs:List (List Nat)) (K:List Nat),(∀ r∈rs,∃ v∈K,v∈r)->rs.Pairwise (fun r r'=>∀ v∈K,v∈r->v∉r')->rs.length<=K.length
 |[],_,_,_=>qH _
 |r::rs,K,h,hp=>by
  obtain⟨v,hv,hr⟩:=h r (by simp);obtain⟨h1,h2⟩:=List.pairwise_cons.mp hp
  have:=nj rs (K.erase v) (fun r' hr'=>by
   obtain⟨u,hu,hur⟩:=h r' (qj _ hr');have ne:u≠v:=fun e=>h1 r' hr' v hv hr (e▸hur)
   exact⟨u,(List.mem_erase_of_ne ne).mpr hu,hur⟩) (h2.imp fun hh u hu=>hh u (List.mem_of_mem_erase hu))
  rw[Am hv]at this;have:=Im hv;rw[qX];lia
structure Bf (c:Pt->Pt->Int)(st:Pt)(fo:List (Pt×Option Pt))(wt:List Pt)(dn:Pt->Pt->Prop):Prop where
 hd:fo[0]?=some (st,none)
 nd:(fo.map (·.1)).Nodup
 pr:∀ (i:Nat) (p:Pt) (o:Option Pt),fo[i]?=some (p,o)->i≠0->∃ (j:Nat) (q:Pt) (o':Option Pt),j<i/\o=some q/\fo[j]?=some (q,o')/\0<c q p
 wn:wt.Nodup
 wf:∀ p∈wt,p∈fo.map (·.1)
 cl:∀ p∈fo.map (·.1),p∉wt->∀ q,dn p q->0<c p q->q∈fo.map (·.1)
def Bf.start {c:Pt->Pt->Int}{st:Pt}{dn:Pt->Pt->Prop}:Bf c st [(st,none)] [st] dn:=by
 refine⟨rfl,by simp,fun i p o h hi=>?_,by simp,fun p hp=>hp,fun p hp hn=>absurd hp hn⟩;cases i with
 |zero=>exact absurd rfl hi
 |succ i=>simp at h
def Bf.pop {st:Pt}{wt:List Pt}{dn:Pt->Pt->Prop}(B:Bf c st fo (p::wt) dn):Bf c st fo wt (fun a q=>a≠p/\dn a q)/\p∈fo.map (·.1)/\p∉wt:=by
 obtain⟨n1,n2⟩:=VB.mp B.wn;refine⟨⟨B.hd,B.nd,B.pr,n2,fun a ha=>B.wf a (qj _ ha),fun a ha hn q hd hc=>?_⟩,B.wf p (by simp),n1⟩;refine B.cl a ha (fun z=>?_) q hd.2 hc;rcases qv.mp z with z|z
 ·exact hd.1 z
 ·exact hn z
def Bf.add {st p q:Pt}{dn:Pt->Pt->Prop}(B:Bf c st fo wt dn)(hp:p∈fo.map (·.1))(hq:q∉fo.map (·.1))(hc:0<c p q):Bf c st (fo++[(q,some p)]) (wt++[q]) dn:=by
 have l0:0<fo.length:=by
  rcases Nat.eq_zero_or_pos fo.length with g|g
  ·have:=B.hd;rw[qw (by lia)]at this;cases this
  ·exact g
 have up:∀ {x:Pt},x∈fo.map (·.1)->x∈(fo++[(q,some p)]).map (·.1):=fun {x} hx=>by rw[qB];exact V3 _ hx
 refine⟨by rw[qg l0];exact B.hd,?_,fun i a o h hi=>?_,?_,fun a ha=>?_,fun a ha hn b hd hc'=>?_⟩
 ·rw[qB,VF];refine⟨B.nd,by simp,fun x hx y hy e=>hq ?_⟩;have:y=q:=by simpa using hy
  rw[<- this,<- e];exact hx
 ·by_cases g:i<fo.length
  ·rw[qg g]at h;obtain⟨j,u,o',l,e,hj,hc'⟩:=B.pr i a o h hi;exact⟨j,u,o',l,e,by rw[qg (by lia)];exact hj,hc'⟩
  ·have l:i<(fo++[(q,some p)]).length:=by
    rcases Yv i (fo++[(q,some p)]).length with g|g
    ·exact g
    ·rw[qw g]at h;cases h
   have e:i=fo.length:=by rw[qf,qM]at l;lia
   rw[e,qe (qh _),Yk]at h;have h':(q,some p)=(a,o):=by simpa using h
   obtain⟨rfl,rfl⟩:=X3 h';obtain⟨⟨p',o'⟩,hm,rfl⟩:=qC.mp hp;obtain⟨j,hj⟩:=qS.mp hm
   have lj:j<fo.length:=by
    rcases Yv j fo.length with g|g
    ·exact g
    ·rw[qw g]at hj;cases hj
   exact⟨j,p',o',by lia,rfl,by rw[qg lj];exact hj,hc⟩
 ·rw[VF];refine⟨B.wn,by simp,fun x hx y hy e=>hq ?_⟩;have:y=q:=by simpa using hy
  rw[<- this,<- e];exact B.wf x hx
 ·rcases qE.mp ha with ha|ha
  ·exact up (B.wf a ha)
  ·have:a=q:=by simpa using ha
   rw[this,qB];exact qL _ (by simp)
 ·have hn':a∉wt:=fun z=>hn (V3 _ z)
  have ha':a∈fo.map (·.1):=by
   rw[qB]at ha;rcases qE.mp ha with ha|ha
   ·exact ha
   ·have:a=q:=by simpa using ha
    exact absurd (qL _ (by rw[this];simp)) hn
  exact up (B.cl a ha' hn' b hd hc')
structure Qj (W:Wb)(c c':Pt->Pt->Int)(k:Int)(fo:List (Pt×Option Pt))(i:Nat)(r:Pt)(o:Option Pt):Prop where
 p:Qu W c' k r
 at':fo[i]?=some (r,o)
 kp:∀ p q,(∀ (j:Nat) o,fo[j]?=some (p,o)->j<=i)->(∀ (j:Nat) o,fo[j]?=some (q,o)->j<=i)->c' p q=c p q
def Cz {fo:List (Pt×Option Pt)}(nd:(fo.map (·.1)).Nodup){i j:Nat}{p:Pt}{o o':Option Pt}(hi:fo[i]?=some (p,o))(hj:fo[j]?=some (p,o')):i=j:=by
 have hi':(fo.map (·.1))[i]?=some p:=by rw[qi,hi];rfl
 have hj':(fo.map (·.1))[j]?=some p:=by rw[qi,hj];rfl
 have li:i<(fo.map (·.1)).length:=by
  rcases Yv i (fo.map (·.1)).length with g|g
  ·exact g
  ·rw[qw g]at hi';cases hi'
 have lj:j<(fo.map (·.1)).length:=by
  rcases Yv j (fo.map (·.1)).length with g|g
  ·exact g
  ·rw[qw g]at hj';cases hj'
 rw[qb li]at hi';rw[qb lj]at hj';exact(Sx nd).mp (qD (hi'.trans hj'.symm))
theorem Qj.step {st a:Pt}{dn:Pt->Pt->Prop}(B:Bf c st fo wt dn)(T:Qj W c c' k fo i r (some a))(lt:∀ p∈fo.map (·.1),p.1<W.n):∃ (j:Nat) (o:Option Pt),j<i/\a≠r/\c' a r=c a r/\0<c a r/\Qj W c (tk c' a r) k fo j a o:=by
 have i0:i≠0:=fun e=>by have:=B.hd;rw[<- e,T.at']at this;cases this
 obtain⟨j,q,o',l,e,hj,hc⟩:=B.pr i r _ T.at' i0;cases e;have mem:∀ {i:Nat} {p:Pt} {o:Option Pt},fo[i]?=some (p,o)->p∈fo.map (·.1):=fun h=>qC.mpr ⟨_,qd h,rfl⟩
 have ne:a≠r:=fun e=>by rw[e]at hj;have:=Cz B.nd hj T.at';lia
 have ec:c' a r=c a r:=T.kp a r (fun m o h=>by have:=Cz B.nd h hj;lia) (fun m o h=>by have:=Cz B.nd h T.at';lia);refine⟨j,o',l,ne,ec,hc,T.p.step (lt _ (mem hj)) (lt _ (mem T.at')) ne (by rw[ec];exact hc),hj,fun p q hp hq=>?_⟩
 have hr:∀ {x:Pt},(∀ (m:Nat) o,fo[m]?=some (x,o)->m<=j)->x≠r:=fun hx e=>by have:=hx i _ (e▸T.at');lia
 unfold tk;rw[if_neg (fun z=>hr hq z.2),if_neg (fun z=>hr hp z.1)];exact T.kp p q (fun m o h=>by have:=hp m o h;lia) (fun m o h=>by have:=hq m o h;lia)
def Qj.last {st:Pt}{dn:Pt->Pt->Prop}(B:Bf c st fo wt dn)(T:Qj W c c' k fo i r none):r=st:=by
 by_cases e:i=0
 ·have:=T.at';rw[e,B.hd]at this;cases this;rfl
 ·obtain⟨j,q,o',l,e',_⟩:=B.pr i r _ T.at' e;cases e'
def ŝ (p q:Pt):0<=Y9 W p q:=by
  obtain⟨v,s⟩:=p;obtain⟨w,r⟩:=q;cases s<;>cases r
  . exact Sq _
  . rw[RW];by_cases g:v=w/\v≠W.s/\v≠W.t/\v<W.n
    . rw[if_pos g];decide
    . rw[if_neg g];exact Sq _
  . rw[Tv];by_cases g:W.adj v w=true
    . rw[if_pos g];lia
    . rw[if_neg g];exact Sq _
  . exact Sq _
def ZK.zero:ZK W (Y9 W) 0:=by
 refine⟨ŝ,fun _ _=>rfl,fun p _=>?_⟩;rw[show WM W (Y9 W) p=0 from Df fun q _=>Int.sub_self _];by_cases e1:p=src W
 ·rw[if_pos e1];by_cases e2:p=Y7 W
  ·rw[if_pos e2];rfl
  ·rw[if_neg e2];rfl
 ·rw[if_neg e1];by_cases e2:p=Y7 W
  ·rw[if_pos e2];rfl
  ·rw[if_neg e2];rfl
def ZK.few (ok:Zv W)(h:ZK W c k):0<=k/\k<=W.n:=by have e:=begins ok h;have l:=Ve (fun b=>decide (0<arc c W.s b)) (List.range W.n);rw[Uq]at l;lia
def Bf.cls (B:Bf c (src W) fo [] fun _ _=>True)(ng:Y7 W∉fo.map (·.1)):Lj W c fun p=>decide (p∈fo.map (·.1)):=by refine⟨decide_eq_true (qC.mpr ⟨_,qd B.hd,rfl⟩),decide_eq_false ng,fun p q hp hc=>decide_eq_true (B.cl p (of_decide_eq_true hp) (by simp) q True.intro hc)⟩
end
abbrev SK:=Sum Int Str
def Z5 (zs:List Str)(i:Nat):Str:=zs.getD i Str.empty
def TJ (b:Bool):Int:=if b=true then 1 else 0
abbrev kp (zs:List Str)(p:Pt):List SK:=[.inr (Z5 zs p.1),.inl (TJ p.2)]
abbrev Zd (zs:List Str)(p:Pt):D:=.tup [.str (Z5 zs p.1),.int (TJ p.2)]
def Qf {zs:List Str}{i:Nat}{z:Str}(h:zs[i]?=some z):Z5 zs i=z:=by unfold Z5;rw[qI,h];rfl
def VG {zs:List Str}{i:Nat}(h:i<zs.length):zs[i]?=some (Z5 zs i):=by rw[Qf (qb h)];exact qb h
def pN {a b:Bool}(h:TJ a=TJ b):a=b:=by cases a<;>cases b<;>first|rfl|cases h
def Xp {zs:List Str}(nd:zs.Nodup){i j:Nat}(hi:i<zs.length)(hj:j<zs.length)(e:Z5 zs i=Z5 zs j):i=j:=Ox nd (VG hi) (by rw[e];exact VG hj)
def Ed {zs:List Str}(nd:zs.Nodup){p q:Pt}(hp:p.1<zs.length)(hq:q.1<zs.length)(e:kp zs p=kp zs q):p=q:=by obtain⟨e1,e2⟩:=M6 e;have e3:=Sum.inl.inj (M6 e2).1;exact Tz (Xp nd hp hq (Sum.inr.inj e1)) (pN e3)
def vh {κ:Type}[DecidableEq κ]{Z8:List (κ×D)}{k:κ}{d:D}(h:dval Z8 k=some d):(k,d)∈Z8:=by
 induction Z8 with
 |nil=>cases h
 |cons p Z8 ih =>
  rw[Ws]at h;by_cases e:p.1=k
  ·rw[if_pos e]at h;cases h;rw[<- e];exact qO
  ·rw[if_neg e]at h;exact qj _ (ih h)
theorem QD {α:Type}[DecidableEq α]:∀ {F N:List α},F.Nodup->(∀ x∈F,x∈N)->F.length<=N.length
 |[],_,_,_=>qH _
 |x::F,N,nd,h=>by
  obtain⟨n1,n2⟩:=VB.mp nd;have hx:=h x (by simp);have:=QD (F:=F) (N:=N.erase x) n2 fun y hy=>(List.mem_erase_of_ne (fun e:y=x=>n1 (e▸hy))).mpr (h y (qj _ hy))
  rw[Am hx]at this;have:=Im hx;rw[qX];lia
def Vg (n:Nat):List Pt:=(List.range n).map (fun v=>(v,false))++(List.range n).map fun v=>(v,true)
def Dv (n:Nat):(Vg n).length=2*n:=by unfold Vg;simp;lia
def DR {n:Nat}{p:Pt}(h:p.1<n):p∈Vg n:=by
 obtain⟨v,s⟩:=p;unfold Vg;cases s with
 |false=>exact V3 _ (qC.mpr ⟨v,List.mem_range.mpr h,rfl⟩)
 |true=>exact qL _ (qC.mpr ⟨v,List.mem_range.mpr h,rfl⟩)
def Wg (c:Pt->Pt->Int)(p q:Pt)(x:Int):Pt->Pt->Int:=fun p' q'=>if p'=p/\q'=q then x else c p' q'
structure Zt (zs:List Str)(Z8:List (List (List SK)×D))(c:Pt->Pt->Int):Prop where
 nd:(Z8.map (·.1)).Nodup
 ky:∀ x∈Z8,∃ p q:Pt,p.1<zs.length/\q.1<zs.length/\x=([kp zs p,kp zs q],.int (c p q))
 vl:∀ p q:Pt,p.1<zs.length->q.1<zs.length->dval Z8 [kp zs p,kp zs q]=none->c p q=0
section
variable {zs:List Str}{Z8:List (List (List SK)×D)}{c:Pt->Pt->Int}
def Bq (nd:zs.Nodup){p q p' q':Pt}(hp:p.1<zs.length)(hq:q.1<zs.length)(hp':p'.1<zs.length)(hq':q'.1<zs.length)(e:[kp zs p,kp zs q]=[kp zs p',kp zs q']):p=p'/\q=q':=by obtain⟨e1,e2⟩:=M6 e;exact⟨Ed nd hp hp' e1,Ed nd hq hq' (M6 e2).1⟩
def Zt.len (R:Zt zs Z8 c)(h12:zs.length<=12):Z8.length<big:=by
 have h:=QD (N:=(Vg zs.length).flatMap fun p=>(Vg zs.length).map fun q=>[kp zs p,kp zs q]) R.nd fun k hk=>by obtain⟨x,hx,rfl⟩:=qC.mp hk;obtain⟨p,q,hp,hq,rfl⟩:=R.ky x hx;exact List.mem_flatMap.mpr ⟨p,DR hp,qC.mpr ⟨q,DR hq,rfl⟩⟩
 rw[qa,List.length_flatMap]at h
 have e:((Vg zs.length).map fun p=>((Vg zs.length).map fun q=>[kp zs p,kp zs q]).length).sum<=24*24:=by
  have:∀ l:List Pt,(l.map fun p=>((Vg zs.length).map fun q=>[kp zs p,kp zs q]).length).sum<=l.length*24:=fun l=>by
   induction l with
   |nil=>exact qh _
   |cons a l ih =>rw[qQ,List.sum_cons,qa,Dv,qX,Nat.succ_mul];lia
  have:=this (Vg zs.length);rw[Dv]at this;lia
 unfold big;lia
def Zt.get (R:Zt zs Z8 c)(nd:zs.Nodup){p q:Pt}(hp:p.1<zs.length)(hq:q.1<zs.length):(dval Z8 [kp zs p,kp zs q]=none/\c p q=0)\/dval Z8 [kp zs p,kp zs q]=some (.int (c p q)):=by
 cases e:dval Z8 [kp zs p,kp zs q]with
 |none=>exact .inl ⟨rfl,R.vl p q hp hq e⟩
 |some d =>obtain⟨p',q',hp',hq',e'⟩:=R.ky _ (vh e);obtain⟨e1,e2⟩:=X3 e';obtain⟨rfl,rfl⟩:=Bq nd hp hq hp' hq' e1;exact .inr (by rw[e2])
def Zt.put (R:Zt zs Z8 c)(nd:zs.Nodup){p q:Pt}(hp:p.1<zs.length)(hq:q.1<zs.length)(x:Int):Zt zs (dput Z8 [kp zs p,kp zs q] (.int x)) (Wg c p q x):=by
 have ne:∀ {p' q':Pt},p'.1<zs.length->q'.1<zs.length->[kp zs p',kp zs q']≠[kp zs p,kp zs q]->Wg c p q x p' q'=c p' q':=fun {p' q'} _ _ h=>if_neg fun e=>h (by rw[e.1,e.2])
 refine⟨?_,fun y hy=>?_,fun p' q' hp' hq' h=>?_⟩
 ·rw[znu];by_cases e:(dval Z8 [kp zs p,kp zs q]).isSome=true
  ·rw[if_pos e];exact R.nd
  ·rw[if_neg e,VF];refine⟨R.nd,by simp,fun a ha b hb hab=>e ?_⟩;have hb':b=[kp zs p,kp zs q]:=by simpa using hb
   subst hab hb';obtain⟨y,hy,ey⟩:=qC.mp ha;rw[<- Qp,List.any_eq_true];exact⟨y,hy,decide_eq_true ey⟩
 ·unfold dput at hy;split at hy
  ·obtain⟨y',hy',rfl⟩:=qC.mp hy;obtain⟨p',q',hp',hq',rfl⟩:=R.ky y' hy';by_cases e:[kp zs p',kp zs q']=[kp zs p,kp zs q]
   ·exact⟨p,q,hp,hq,by rw[if_pos e,e,show Wg c p q x p q=x from if_pos ⟨rfl,rfl⟩]⟩
   ·exact⟨p',q',hp',hq',by rw[if_neg e,ne hp' hq' e]⟩
  ·rename_i hno;rcases qE.mp hy with hy|hy
   ·obtain⟨p',q',hp',hq',e⟩:=R.ky y hy;refine⟨p',q',hp',hq',?_⟩;rw[ne hp' hq' fun e2=>hno (List.any_eq_true.mpr ⟨y,hy,decide_eq_true (by rw[e,e2])⟩)];exact e
   ·have:y=([kp zs p,kp zs q],.int x):=by simpa using hy
    exact⟨p,q,hp,hq,by rw[this,show Wg c p q x p q=x from if_pos ⟨rfl,rfl⟩]⟩
 ·rw[zo3]at h;by_cases e:[kp zs p,kp zs q]=[kp zs p',kp zs q']
  ·rw[if_pos e]at h;cases h
  ·rw[if_neg e]at h;rw[ne hp' hq' (Ne.symm e)];exact R.vl p' q' hp' hq' h
def Zt.cg {c':Pt->Pt->Int}(R:Zt zs Z8 c)(h:∀ p q:Pt,p.1<zs.length->q.1<zs.length->c p q=c' p q):Zt zs Z8 c' :=⟨R.nd,fun x hx=>by obtain⟨p,q,hp,hq,e⟩:=R.ky x hx;exact⟨p,q,hp,hq,by rw[<- h p q hp hq];exact e⟩,fun p q hp hq e=>by rw[<- h p q hp hq];exact R.vl p q hp hq e⟩
def Zt.nil:Zt zs [] fun _ _=>0:=⟨by simp,fun x hx=>(by cases hx),fun _ _ _ _ _=>rfl⟩
def Ź {a b:Pt}(ne:a≠b):Wg (Wg c a b (c a b-1)) b a (c b a+1)=tk c a b:=by
 funext p q;unfold Wg tk;by_cases h1:p=a/\q=b
 ·rw[if_neg (fun z=>ne (h1.1.symm.trans z.1)),if_pos h1,if_pos h1]
 ·by_cases h2:p=b/\q=a
  ·rw[if_pos h2,if_neg h1,if_pos h2]
  ·rw[if_neg h2,if_neg h1,if_neg h1,if_neg h2]
def O8 {S T:Z7}{c c':Cell}:(S++c::T).set S.length c'=S++c'::T:=by simp
variable {S:Z7}{n e:Nat}
def Zt.gets (R:Zt zs Z8 c)(nd:zs.Nodup)(hn:S[n]?=some (.dn Z8 e)){p q:Pt}(hp:p.1<zs.length)(hq:q.1<zs.length):∃ o,Zj S (.ref n) (.tup [Zd zs p,Zd zs q]) o/\o.getD (.int 0)=.int (c p q)/\(c p q≠0->o=some (.int (c p q))):=by
 refine⟨_,Zj.n (ks:=[kp zs p,kp zs q]) hn rfl,?_⟩;rcases R.get nd hp hq with⟨h1,h2⟩|h
 ·rw[h1,h2];exact⟨rfl,fun z=>absurd rfl z⟩
 ·rw[h];exact⟨rfl,fun _=>rfl⟩
end
def zuB {zs:List Str}(nd:zs.Nodup){p q:Pt}(hp:p.1<zs.length)(hq:q.1<zs.length):eqv (Zd zs p) (Zd zs q)=decide (p=q):=by
 show((Z5 zs p.1==Z5 zs q.1)&&(decide (TJ p.2=TJ q.2)&&true))=_;rw[Bool.and_true];by_cases h:p=q
 ·subst h;simp
 ·rw[decide_eq_false h];by_cases h1:Z5 zs p.1=Z5 zs q.1
  ·have e1:=Xp nd hp hq h1;have:TJ p.2≠TJ q.2:=fun z=>h (Tz e1 (pN z))
   rw[decide_eq_false this,RT]
  ·rw[show(Z5 zs p.1==Z5 zs q.1)=false from beq_eq_false_iff_ne.mpr h1];rfl
def ur {zs:List Str}(fz:∀ z∈zs,fl 20 (.str z)=true){p:Pt}(hp:p.1<zs.length):fl 20 (Zd zs p)=true:=by have:=fz _ (qd (VG hp));show([D.str (Z5 zs p.1),D.int (TJ p.2)]).all (fl 19)=true;simp only[Xz,List.all_nil,Bool.and_true];show(fl 19 (.str (Z5 zs p.1))&&true)=true;rw[Bool.and_true];exact this
def aL {zs:List Str}(nd:zs.Nodup)(fz:∀ z∈zs,fl 20 (.str z)=true){S:Z7}{Q:DK}{p q:Pt}(hp:p.1<zs.length)(hq:q.1<zs.length)(k:Q (.bl (decide (p=q))) S):oEq (Zd zs p) (Zd zs q) S Q :=⟨_,.inl ⟨ur fz hp,ur fz hq,rfl⟩,by rw[zuB nd hp hq];exact k⟩
def fk (zs:List Str)(x:Pt×Option Pt):List SK×D:=(kp zs x.1,match x.2 with|none=>.non|some q=>Zd zs q)
section
variable {zs:List Str}{fo:List (Pt×Option Pt)}{S:Z7}{n:Nat}
theorem UJ (nd:zs.Nodup){p:Pt}(hp:p.1<zs.length):∀ {fo:List (Pt×Option Pt)},(∀ x∈fo.map (·.1),x.1<zs.length)->(fo.map (·.1)).Nodup->∀ o:Option Pt,((p,o)∈fo->dval (fo.map (fk zs)) (kp zs p)=some (fk zs (p,o)).2)/\(p∉fo.map (·.1)->dval (fo.map (fk zs)) (kp zs p)=none)
 |[],_,_,o=>⟨fun h=>(by cases h),fun _=>rfl⟩
 |x::fo,lt,n1,o=>by
  obtain⟨n2,n3⟩:=VB.mp n1;have ih:=UJ nd hp (fo:=fo) (fun y hy=>lt y (qj _ hy)) n3 o;rw[qQ,Ws];by_cases e:x.1=p
  ·subst e;refine⟨fun h=>?_,fun h=>absurd (qO) h⟩;rw[if_pos (show(fk zs x).1=kp zs x.1 from rfl)];rcases qv.mp h with h|h
   ·rw[<- h]
   ·exact absurd (qC.mpr ⟨_,h,rfl⟩) n2
  ·have e2:¬ (fk zs x).1=kp zs p:=fun z=>e (Ed nd (lt _ qO) hp z)
   rw[if_neg e2];refine⟨fun h=>ih.1 ?_,fun h=>ih.2 fun z=>h (qj _ z)⟩;rcases qv.mp h with h|h
   ·exact absurd (by rw[<- h]) e
   ·exact h
def zv3 (nd:zs.Nodup){p q:Pt}(hp:p.1<zs.length)(lt:∀ x∈fo.map (·.1),x.1<zs.length)(n1:(fo.map (·.1)).Nodup)(h:p∉fo.map (·.1)):dput (fo.map (fk zs)) (kp zs p) (Zd zs q)=(fo++[(p,some q)]).map (fk zs):=by unfold dput;rw[Qp,(UJ nd hp lt n1 none).2 h,if_neg (by decide),qB];rfl
def Gw {st:Pt}{dn:Pt->Pt->Prop}(B:Bf c st fo wt dn)(lt:∀ x∈fo.map (·.1),x.1<zs.length):fo.length<=2*zs.length:=by
 have:=QD B.nd fun x hx=>DR (lt x hx)
 rw[qa,Dv]at this;exact this
def Bf.re {st:Pt}{dn dn':Pt->Pt->Prop}(B:Bf c st fo wt dn)(h:∀ a q,dn' a q->0<c a q->dn a q\/q∈fo.map (·.1)):Bf c st fo wt dn' :=⟨B.hd,B.nd,B.pr,B.wn,B.wf,fun a ha hn q hd hc=>(h a q hd hc).elim (fun z=>B.cl a ha hn q z hc) id⟩
def Bf.sub {st:Pt}(A:Bf c st fo [] fun _ _=>True)(B:Bf c st fo' [] fun _ _=>True):∀ (i:Nat) p o,fo[i]?=some (p,o)->p∈fo'.map (·.1):=by
 intro i
 induction i using Nat.strongRecOn with
 |ind i ih =>
  intro p o h;by_cases i0:i=0
  ·subst i0;rw[A.hd]at h;cases h;exact qC.mpr ⟨_,qd B.hd,rfl⟩
  ·obtain⟨j,q,o',l,_,hj,hc⟩:=A.pr i p o h i0;exact B.cl q (ih j l q o' hj) (by simp) p True.intro hc
def Bf.same {st:Pt}(A:Bf c st fo [] fun _ _=>True)(B:Bf c st fo' [] fun _ _=>True)(p:Pt):p∈fo.map (·.1)↔p∈fo'.map (·.1):=by
 have one:∀ {fo fo':List (Pt×Option Pt)},Bf c st fo [] (fun _ _=>True)->Bf c st fo' [] (fun _ _=>True)->p∈fo.map (·.1)->p∈fo'.map (·.1):=fun {fo fo'} A B h=>by obtain⟨⟨p',o⟩,hm,rfl⟩:=qC.mp h;obtain⟨i,hi⟩:=qS.mp hm;exact A.sub B i _ o hi
 exact⟨one A B,one B A⟩
end
def ZK.rng {k:Int}(ok:Zv W)(h:ZK W c k){p q:Pt}(hc:0<c p q):p.1<W.n/\q.1<W.n:=by
  have e:=h.an p q;have n1:=h.nn q p
  have pos:∀ p q:Pt,0<Y9 W p q->p.1<W.n/\q.1<W.n:=fun p q z=>by
    obtain⟨v,s⟩:=p;obtain⟨w,t⟩:=q;cases s<;>cases t
    . exact absurd z (O5 0)
    . rw[RW]at z;split at z
      . rename_i g;exact⟨g.2.2.2,g.1▸g.2.2.2⟩
      . exact absurd z (O5 0)
    . rw[Tv]at z;split at z
      . rename_i g;exact ok.lt _ _ g
      . exact absurd z (O5 0)
    . exact absurd z (O5 0)
  by_cases g:0<Y9 W p q
  . exact pos p q g
  . obtain⟨a,b⟩:=pos q p (by lia);exact⟨b,a⟩
noncomputable def ZM (V:Vl) (h:Int) (s t:Nat):Wb:={ n:=(V.bs.map (·.1)).length,adj:=fun a b=>decide (a≠b/\a<(V.bs.map (·.1)).length/\b<(V.bs.map (·.1)).length)&&Sh V h (Z5 (V.bs.map (·.1)) a,Z5 (V.bs.map (·.1)) b),s:=s,t:=t }
def UG {V:Vl}{h:Int}{s t a b:Nat}:(ZM V h s t).adj a b=true↔a≠b/\a<(V.bs.map (·.1)).length/\b<(V.bs.map (·.1)).length/\YK V h (Z5 (V.bs.map (·.1)) a) (Z5 (V.bs.map (·.1)) b):=by show(decide _&&Sh V h _)=true↔_;rw[qq,decide_eq_true_eq,LR,and_assoc,and_assoc]
def Ga {V:Vl}{h:Int}{s t:Nat}(hs:s<(V.bs.map (·.1)).length)(ht:t<(V.bs.map (·.1)).length)(no:¬ YK V h (Z5 (V.bs.map (·.1)) s) (Z5 (V.bs.map (·.1)) t)):Zv (ZM V h s t) where
 irr:=fun a=>by
  cases e:(ZM V h s t).adj a a with
  |false=>rfl
  |true=>exact absurd rfl (UG.mp e).1
 sym:=fun a b=>by rw[Ut,UG,UG];exact⟨by rintro⟨a,b,c,d⟩;exact⟨a.symm,c,b,Om d⟩,by rintro⟨a,b,c,d⟩;exact⟨a.symm,c,b,Om d⟩⟩
 lt:=fun a b e=>⟨(UG.mp e).2.1,(UG.mp e).2.2.1⟩
 s:=hs
 t:=ht
 st:=fun e=>no (by have e:s=t:=e;subst e;obtain⟨z,hz,ez⟩:=qC.mp (qd (VG hs));exact⟨z.2,z.2,by rw[<- ez];exact hz,by rw[<- ez];exact hz,.inl rfl⟩)
 na:=by
  cases e:(ZM V h s t).adj (ZM V h s t).s (ZM V h s t).t with
  |false=>rfl
  |true=>exact absurd (UG.mp e).2.2.2 no
def stp (zs:List Str)(c:Pt->Pt->Int)(i:Nat):List Nat:=(List.range zs.length).filter fun j=>decide (0<arc c i j)
def IW (zs:List Str):zs=(List.range zs.length).map (Z5 zs):=by
 refine Jx fun i=>?_
 rw[qi];by_cases h:i<zs.length
 ·rw[Hz h,VG h];rfl
 ·rw[qw (by lia),qw (by rw[Uq];lia)];rfl
open Classical in
noncomputable def V8 (zs:List Str) (c:Pt->Pt->Int) (i:Nat) (z:Str):Bool:=decide (∃ j,j<zs.length/\Z5 zs j=z/\0<arc c i j)
def pq {zs:List Str}(nd:zs.Nodup){c:Pt->Pt->Int}{i j:Nat}(hj:j<zs.length):V8 zs c i (Z5 zs j)=decide (0<arc c i j):=by
 rw[Ut];unfold V8;simp only[decide_eq_true_eq];constructor
 ·rintro⟨k,hk,e,z⟩;rw[<- Xp nd hk hj e];exact z
 ·exact fun z=>⟨j,hj,rfl,z⟩
def τ {zs:List Str}(nd:zs.Nodup)(c:Pt->Pt->Int)(i:Nat):zs.filter (V8 zs c i)=(stp zs c i).map (Z5 zs):=by
 have e:∀ f:Str->Bool,zs.filter f=((List.range zs.length).filter (f ∘ Z5 zs)).map (Z5 zs):=fun f=>by have:=congrArg (List.filter f) (IW zs);rw[Um]at this;exact this
 rw[e];unfold stp;rw[Rx fun j hj=>?_];exact pq nd (V5.mp hj)
structure Py (W:Wb)(zs:List Str)(c:Pt->Pt->Int)(rs:List (List Nat)):Prop where
 ln:rs.length=(stp zs c W.s).length
 rd:∀ (i:Nat) us,rs[i]?=some us->Yj W c us/\us[us.length-1]?=some W.t/\us[1]?=(stp zs c W.s)[i]?/\2<=us.length
def Xq (V:Vl)(h:Int)(s t:Nat)(zs:List Str)(rs:List (List Nat))(ks:List Nat):Prop:=∃ (c:Pt->Pt->Int) (k:Int) (fo:List (Pt×Option Pt)),ZK (ZM V h s t) c k/\Py (ZM V h s t) zs c rs/\Bf c (s,true) fo [] (fun _ _=>True)/\(t,false)∉fo.map (·.1)/\ks=(List.range zs.length).filter (Ym fun p=>decide (p∈fo.map (·.1)))
structure pZ (S:Z7)(m n:Nat)(zs:List Str)(rs:List (List Nat))(ks:List Nat)(js:List Nat):Prop where
 r:S[m]?=some (.lst (js.map fun j=>.ref (m+(j+1))))
 k:S[n]?=some (.lst ((ks.map (Z5 zs)).map D.str))
 l:js.length=rs.length
 nd:js.Nodup
 lt:n<m
 at':∀ (i:Nat) j us,js[i]?=some j->rs[i]?=some us->S[m+(j+1)]?=some (.lst ((us.map (Z5 zs)).map D.str))
open Classical in
noncomputable def Q8 (zs:List Str) (fo:List (Pt×Option Pt)) (z:Str):Bool:=decide (∃ j,j<zs.length/\Z5 zs j=z/\Ym (fun p=>decide (p∈fo.map (·.1))) j=true)
def vQ {zs:List Str}(nd:zs.Nodup){fo:List (Pt×Option Pt)}{j:Nat}(hj:j<zs.length):Q8 zs fo (Z5 zs j)=Ym (fun p=>decide (p∈fo.map (·.1))) j:=by
 rw[Ut];unfold Q8;rw[decide_eq_true_iff];constructor
 ·rintro⟨k,hk,e,z⟩;rw[<- Xp nd hk hj e];exact z
 ·exact fun z=>⟨j,hj,rfl,z⟩
def jq {zs:List Str}(nd:zs.Nodup)(fo:List (Pt×Option Pt)):zs.filter (Q8 zs fo)=((List.range zs.length).filter (Ym fun p=>decide (p∈fo.map (·.1)))).map (Z5 zs):=by
 have e:∀ f:Str->Bool,zs.filter f=((List.range zs.length).filter (f ∘ Z5 zs)).map (Z5 zs):=fun f=>by have:=congrArg (List.filter f) (IW zs);rw[Um]at this;exact this
 rw[e,Rx fun j hj=>?_];exact vQ nd (V5.mp hj)
section
variable {V:Vl}{h:Int}{s t:Nat}{zs:List Str}{rs:List (List Nat)}{ks:List Nat}
def Xq.len (hzs:zs=V.bs.map (·.1))(okW:Zv (ZM V h s t))(A:Xq V h s t zs rs ks):rs.length=ks.length:=by
 obtain⟨c,k,fo,F,R,B,ng,rfl⟩:=A;have nW:(ZM V h s t).n=zs.length:=by rw[hzs];rfl
 have h1:=begins okW F;have h2:=keepers okW F (B.cls ng);rw[nW]at h1 h2;have h3:rs.length=((List.range zs.length).filter fun b=>decide (0<arc c s b)).length:=R.ln;have h1:(((List.range zs.length).filter fun b=>decide (0<arc c s b)).length:Int)=k:=h1;lia
def Xq.idx (hzs:zs=V.bs.map (·.1))(okW:Zv (ZM V h s t))(A:Xq V h s t zs rs ks){i:Nat}{us:List Nat}(hi:rs[i]?=some us):us[0]?=some s/\us[us.length-1]?=some t/\2<=us.length/\us.Nodup/\(∀ u∈us,u<zs.length)/\∀ (k a b:Nat),us[k]?=some a->us[k+1]?=some b->a≠b/\YK V h (Z5 zs a) (Z5 zs b):=by
 obtain⟨c,k,fo,F,R,B,ng,rfl⟩:=A;have nW:(ZM V h s t).n=zs.length:=by rw[hzs];rfl
 obtain⟨D,e1,e2,l2⟩:=R.rd i us hi;refine⟨D.hd,e1,l2,D.nodup okW F,fun u hu=>nW▸D.lt okW F u hu,fun k a b ha hb=>?_⟩;obtain⟨p,q⟩:=Uk okW F (D.ch k a b ha hb);rw[UG,<- hzs]at p;exact⟨q,p.2.2.2⟩
def zmo (nd:zs.Nodup){us:List Nat}(n1:us.Nodup)(lt:∀ u∈us,u<zs.length):(us.map (Z5 zs)).Nodup:=by refine List.pairwise_map.mpr (n1.imp_of_mem fun {a b} ha hb hab e=>hab (Xp nd (lt a ha) (lt b hb) e))
theorem Xq.apart (okW:Zv (ZM V h s t))(A:Xq V h s t zs rs ks){i j:Nat}{us vs:List Nat}(hi:rs[i]?=some us)(hj:rs[j]?=some vs)(ne:i≠j){u:Nat}(hu:u∈us)(hv:u∈vs):u=s\/u=t:=by
 obtain⟨c,k,fo,F,R,B,ng,rfl⟩:=A;obtain⟨D1,_,e1,l1⟩:=R.rd i us hi;obtain⟨D2,_,e2,_⟩:=R.rd j vs hj;refine D1.apart okW F D2 (fun z=>ne ?_) hu hv;rw[e1,e2]at z;have li:i<(stp zs c s).length:=by have:=zu hi;have:=R.ln;show i<(stp zs c (ZM V h s t).s).length;lia
 have n1:(stp zs c s).Nodup:=(List.nodup_range).filter _;have g1:(stp zs c s)[i]?=some ((stp zs c s)[i]'li):=qb li;have z:(stp zs c s)[i]?=(stp zs c s)[j]?:=z;rw[g1]at z;have lj:j<(stp zs c s).length:=zu z.symm;rw[qb lj]at z;exact(Sx n1).mp (qD z)
def Xq.ends (okW:Zv (ZM V h s t))(A:Xq V h s t zs rs ks):s∉ks/\t∉ks/\(∀ k∈ks,k<zs.length)/\ks.Nodup:=by
 obtain⟨c,k,fo,F,R,B,ng,rfl⟩:=A;obtain⟨h1,h2⟩:=zty (B.cls (W:=ZM V h s t) ng);refine⟨fun z=>?_,fun z=>?_,fun k hk=>V5.mp (qR.mp hk).1,(List.nodup_range).filter _⟩
 ·have:=(qR.mp z).2;have h1:Ym (fun p=>decide (p∈fo.map (·.1))) s=false:=h1;rw[h1]at this;cases this
 ·have:=(qR.mp z).2;have h2:Ym (fun p=>decide (p∈fo.map (·.1))) t=false:=h2;rw[h2]at this;cases this
def Xq.kflt (nd:zs.Nodup)(A:Xq V h s t zs rs ks):zs.filter (fun z=>decide (z∈ks.map (Z5 zs)))=ks.map (Z5 zs):=by
 obtain⟨c,k,fo,F,R,B,ng,rfl⟩:=A
 have e:∀ f:Str->Bool,zs.filter f=((List.range zs.length).filter (f ∘ Z5 zs)).map (Z5 zs):=fun f=>by have:=congrArg (List.filter f) (IW zs);rw[Um]at this;exact this
 rw[e,Rx fun j hj=>?_];have hj:=V5.mp hj;rw[Ut];show decide _=true↔_;rw[decide_eq_true_iff,qC];constructor
 ·rintro⟨i,hi,e⟩;obtain⟨h1,h2⟩:=qR.mp hi;rw[<- Xp nd (V5.mp h1) hj e];exact h2
 ·exact fun z=>⟨j,qR.mpr ⟨List.mem_range.mpr hj,z⟩,rfl⟩
def Fv (hzs:zs=V.bs.map (·.1)){w:Str}(hw:w∈V.bs.map (·.1)):∃ j,j<zs.length/\Z5 zs j=w:=by rw[<- hzs]at hw;obtain⟨j,hj,e⟩:=qK.mp hw;exact⟨j,hj,Qf (by rw[qb hj,e])⟩
def Xq.cut (nd:zs.Nodup)(hzs:zs=V.bs.map (·.1))(okW:Zv (ZM V h s t))(A:Xq V h s t zs rs ks):¬ X5 V h (ks.map (Z5 zs)) (Z5 zs s) (Z5 zs t):=by
 obtain⟨c,k,fo,F,R,B,ng,rfl⟩:=A;have nW:(ZM V h s t).n=zs.length:=by rw[hzs];rfl
 have hs:s<zs.length:=nW▸okW.s;have ht:t<zs.length:=nW▸okW.t;have hR:=B.cls (W:=ZM V h s t) ng
 have key:∀ w,X5 V h (((List.range zs.length).filter (Ym fun p=>decide (p∈fo.map (·.1)))).map (Z5 zs)) (Z5 zs s) w->∃ j,j<zs.length/\Z5 zs j=w/\j≠t/\decide ((j,true)∈fo.map (·.1))=true:=fun w C=>by
  induction C with
  |refl=>exact⟨s,hs,rfl,okW.st,hR.s⟩
  |@step a b C aD nb ih =>
   obtain⟨j,hj,rfl,nt,rj⟩:=ih;obtain⟨i,hi,rfl⟩:=Fv hzs (Og aD).2;by_cases e:j=i
   ·subst e;exact⟨j,hj,rfl,nt,rj⟩
   ·have aj:(ZM V h s t).adj j i=true:=UG.mpr ⟨e,hzs▸hj,hzs▸hi,hzs▸aD⟩;obtain⟨r1,r2,r3⟩:=bf okW F hR rj aj;refine⟨i,hi,rfl,r2,r3 ?_⟩;cases g:Ym (fun p=>decide (p∈fo.map (·.1))) i with
    |false=>rfl
    |true=>exact absurd (qC.mpr ⟨i,qR.mpr ⟨List.mem_range.mpr hi,g⟩,rfl⟩) nb
 intro C;obtain⟨j,hj,e,nt,_⟩:=key _ C;exact nt (Xp nd hj ht e)
end
section
variable {V V':Vl}{h:Int}{s t:Nat}{zs:List Str}{rs:List (List Nat)}{ks:List Nat}{g:Str}
theorem uK {K us:List Str}(aD:∀ (k:Nat) a b,us[k]?=some a->us[k+1]?=some b->YK V h a b)(nk:∀ u∈us,u∉K){a:Str}(ha:us[0]?=some a):∀ (k:Nat) b,us[k]?=some b->X5 V h K a b
 |0,b,hb=>by rw[ha]at hb;cases hb;exact .refl
 |k+1,b,hb=>by
  have lk:=zu hb;obtain⟨c,hc⟩:∃ c,us[k]?=some c:=⟨_,qb (by lia)⟩
  exact .step (uK aD nk ha k c hc) (aD k c b hc hb) (nk b (qd hb))
def Xq.any (nd:zs.Nodup)(hzs:zs=V.bs.map (·.1))(okW:Zv (ZM V h s t))(A:Xq V h s t zs rs ks){K:List Str}(ns:Z5 zs s∉K)(nt:Z5 zs t∉K)(hK:¬ X5 V h K (Z5 zs s) (Z5 zs t)):rs.length<=K.length:=by
 obtain⟨KN,hKN⟩:∃ KN,KN=(List.range zs.length).filter fun j=>decide (Z5 zs j∈K):=⟨_,rfl⟩
 have mK:∀ j,j∈KN↔j<zs.length/\Z5 zs j∈K:=fun j=>by rw[hKN,qR,V5,decide_eq_true_eq]
 have l1:KN.length<=K.length:=by
  have n1:KN.Nodup:=by rw[hKN];exact(List.nodup_range).filter _
  have:=QD (N:=K) (zmo nd n1 fun u hu=>((mK u).mp hu).1) fun x hx=>by obtain⟨j,hj,rfl⟩:=qC.mp hx;exact((mK j).mp hj).2
  rwa[qa]at this
 refine qW (nj rs KN (fun r hr=>?_) (R5.mpr fun i j hi hj hij v hv h1 h2=>?_)) l1
 ·obtain⟨i,hi⟩:=qS.mp hr;obtain⟨e0,e1,l2,_,lt,aD⟩:=A.idx hzs okW hi;apply Classical.byContradiction;intro no;refine hK (uK (us:=r.map (Z5 zs)) (fun k a b ha hb=>?_) (fun u hu z=>?_) (by rw[qi,e0];rfl) (r.length-1) _ (by rw[qi,e1];rfl))
  ·rw[qi]at ha hb;obtain⟨x,hx,rfl⟩:=qV.mp ha;obtain⟨y,hy,rfl⟩:=qV.mp hb;exact(aD k x y hx hy).2
  ·obtain⟨j,hj,rfl⟩:=qC.mp hu;exact no ⟨j,(mK j).mpr ⟨lt j hj,z⟩,hj⟩
 ·have gi:rs[i]?=some rs[i]:=qb hi;have gj:rs[j]?=some rs[j]:=qb hj;rcases A.apart okW gi gj (by lia) h1 h2 with e|e
  ·subst e;exact ns ((mK _).mp hv).2
  ·subst e;exact nt ((mK _).mp hv).2
end
inductive Goes {α:Type}(T:α->α->Prop)(s:α):α->Prop
 |refl:Goes T s s
 |step {a b:α}:Goes T s a->T a b->Goes T s b
def Goes.head {α:Type}{T:α->α->Prop}{s b:α}(h:Goes T s b):b=s\/∃ y,T s y/\Goes T y b:=by
 induction h with
 |refl=>exact .inl rfl
 |@step x y _ t ih =>
  rcases ih with rfl|⟨z,t2,g⟩
  ·exact .inr ⟨_,t,.refl⟩
  ·exact .inr ⟨z,t2,.step g t⟩
def Goes.lin {α:Type}{T:α->α->Prop}(f:∀ a b c,T a b->T a c->b=c){s a b:α}(h1:Goes T s a)(h2:Goes T s b):Goes T a b\/Goes T b a:=by
 induction h1 with
 |refl=>exact .inl h2
 |@step x y _ t ih =>
  rcases ih with ih|ih
  ·rcases ih.head with rfl|⟨z,t2,g⟩
   ·exact .inr (.step .refl t)
   ·rw[f _ _ _ t t2];exact .inl g
  ·exact .inr (.step ih t)
def Goes.fin {α:Type}{T:α->α->Prop}(f:∀ a b c,T a b->T a c->b=c){s a b:α}(h1:Goes T s a)(h2:Goes T s b)(ea:∀ x,¬ T a x)(eb:∀ x,¬ T b x):a=b:=by
 rcases h1.lin f h2 with g|g
 ·rcases g.head with e|⟨z,t,_⟩
  ·exact e.symm
  ·exact absurd t (ea z)
 ·rcases g.head with e|⟨z,t,_⟩
  ·exact e
  ·exact absurd t (eb z)
abbrev Row:=List (List SK)×D
abbrev FW:=List (Pt×Option Pt)×List Pt
def Ac (p:Pt)(s:FW)(a b:Pt)(l:Int):FW:=if a=p/\0<l/\b∉s.1.map (·.1)then(s.1++[(b,some p)],s.2++[b])else s
def Sd (zs:List Str)(Z8:List Row)(p:Pt)(x y:Nat×FW):Prop:=∃ (a b:Pt) (l:Int),Z8[x.1]?=some ([kp zs a,kp zs b],.int l)/\a.1<zs.length/\b.1<zs.length/\y=(x.1+1,Ac p x.2 a b l)
def Q9 (zs:List Str)(Z8:List Row)(x y:FW):Prop:=∃ p wt,x.2=p::wt/\Goes (Sd zs Z8 p) (0,(x.1,wt)) (Z8.length,y)
def Pf (zs:List Str)(Z8:List Row)(st:Pt)(fo:List (Pt×Option Pt)):Prop:=Goes (Q9 zs Z8) ([(st,none)],[st]) (fo,[])
def QF (zs:List Str)(fo:List (Pt×Option Pt))(x y:List Row×Pt):Prop:=∃ (a:Pt) (u v:Int),(x.2,some a)∈fo/\dval x.1 [kp zs a,kp zs x.2]=some (.int u)/\(dval (dput x.1 [kp zs a,kp zs x.2] (.int (u-1))) [kp zs x.2,kp zs a]).getD (.int 0)=.int v/\y=(dput (dput x.1 [kp zs a,kp zs x.2] (.int (u-1))) [kp zs x.2,kp zs a] (.int (v+1)),a)
def Tk (zs:List Str)(fo:List (Pt×Option Pt))(g:Pt)(Z8 kvs':List Row):Prop:=∃ p,Goes (QF zs fo) (Z8,g) (kvs',p)/\(p,none)∈fo
def Rk (zs:List Str)(st g:Pt)(x y:List Row):Prop:=∃ fo,Pf zs x st fo/\(fo.map (·.1)).Nodup/\g∈fo.map (·.1)/\Tk zs fo g x y
def La (zs:List Str)(st g:Pt)(x y:List Row):Prop:=Goes (Rk zs st g) x y/\∃ fo,Pf zs y st fo/\g∉fo.map (·.1)
def kO (os:List Str):List Row:=os.foldl (fun k z=>dput k [[.inr z,.inl 0],[.inr z,.inl 1]] (.int 1)) []
def kQ (n:Int)(qs:List (Str×Str))(k:List Row):List Row:=qs.foldl (fun k q=>dput (dput k [[.inr q.1,.inl 1],[.inr q.2,.inl 0]] (.int n)) [[.inr q.2,.inl 1],[.inr q.1,.inl 0]] (.int n)) k
noncomputable def Ry (V:Vl) (h:Int) (s t:Nat) (zs:List Str):List Row:=kQ zs.length ((prs zs).filter (Sh V h)) (kO (W8 (Z5 zs s) (Z5 zs t) zs))
section
variable {zs:List Str}{Z8:List Row}{fo:List (Pt×Option Pt)}
def Sd.fn (nd:zs.Nodup)(x y y':Nat×FW)(h:Sd zs Z8 p x y)(h':Sd zs Z8 p x y'):y=y':=by obtain⟨a,b,l,e,la,lb,rfl⟩:=h;obtain⟨a',b',l',e',la',lb',rfl⟩:=h';rw[e]at e';obtain⟨e1,e2⟩:=X3 (qD e');obtain⟨rfl,rfl⟩:=Bq nd la lb la' lb' e1;cases e2;rfl
theorem Q9.fn (nd:zs.Nodup)(x y y':FW)(h:Q9 zs Z8 x y)(h':Q9 zs Z8 x y'):y=y':=by
 obtain⟨p,wt,e,g⟩:=h;obtain⟨p',wt',e',g'⟩:=h';rw[e]at e';obtain⟨rfl,rfl⟩:=M6 e'
 have no:∀ (s:FW) z,¬ Sd zs Z8 p (Z8.length,s) z:=by rintro s z ⟨a,b,l,e,_⟩;rw[qw (qh _)]at e;cases e
 exact(X3 (g.fin (Sd.fn nd) g' (no _) (no _))).2
theorem Pf.fn (nd:zs.Nodup){st:Pt}(h:Pf zs Z8 st fo)(h':Pf zs Z8 st fo'):fo=fo':=by
 have no:∀ (s:List (Pt×Option Pt)) z,¬ Q9 zs Z8 (s,[]) z:=by rintro s z ⟨p,w,e,_⟩;exact by cases e
 exact(X3 (Goes.fin (Q9.fn nd) h h' (no _) (no _))).1
def lW (n1:(fo.map (·.1)).Nodup){p:Pt}{o o':Option Pt}(h:(p,o)∈fo)(h':(p,o')∈fo):o=o':=by
 obtain⟨i,hi⟩:=qS.mp h;obtain⟨j,hj⟩:=qS.mp h';have e:(fo.map (·.1))[i]?=(fo.map (·.1))[j]?:=by rw[qi,qi,hi,hj];rfl
 have li:i<(fo.map (·.1)).length:=by rw[qa];exact zu hi
 have lj:j<(fo.map (·.1)).length:=by rw[qa];exact zu hj
 rw[qb li,qb lj]at e;have:=(Sx n1).mp (qD e);subst this;rw[hi]at hj;exact(X3 (qD hj)).2
def QF.fn (n1:(fo.map (·.1)).Nodup)(x y y':List Row×Pt)(h:QF zs fo x y)(h':QF zs fo x y'):y=y':=by obtain⟨a,u,v,m,e1,e2,rfl⟩:=h;obtain⟨a',u',v',m',e1',e2',rfl⟩:=h';cases lW n1 m m';rw[e1]at e1';cases e1';rw[e2]at e2';cases e2';rfl
theorem Tk.fn (n1:(fo.map (·.1)).Nodup){k:List Row}(h:Tk zs fo g Z8 k)(h':Tk zs fo g Z8 k'):k=k':=by
 obtain⟨p,h,m⟩:=h;obtain⟨p',h',m'⟩:=h';have no:∀ (k:List Row) {p:Pt} z,(p,none)∈fo->¬ QF zs fo (k,p) z:=by rintro k p z m ⟨a,_,_,m2,_⟩;exact by cases lW n1 m m2
 exact(X3 (Goes.fin (QF.fn n1) h h' (fun z=>no _ z m) (fun z=>no _ z m'))).1
theorem Rk.fn (nd:zs.Nodup){st:Pt}(x y y':List Row)(h:Rk zs st g x y)(h':Rk zs st g x y'):y=y':=by obtain⟨fo,p,n1,_,k⟩:=h;obtain⟨fo',p',_,_,k'⟩:=h';cases Pf.fn nd p p';exact k.fn n1 k'
theorem La.fn (nd:zs.Nodup){st:Pt}(h:La zs st g x y)(h':La zs st g x y'):y=y':=by
 have no:∀ {k:List Row} {fo:List (Pt×Option Pt)} z,Pf zs k st fo->g∉fo.map (·.1)->¬ Rk zs st g k z:=fun {k fo} z p ng zq26=>by obtain⟨fo',p',_,m,_⟩:=zq26;cases Pf.fn nd p p';exact ng m
 obtain⟨h,fo,p,n1⟩:=h;obtain⟨h',fo',p',n2⟩:=h';exact Goes.fin (Rk.fn nd) h h' (fun z=>no z p n1) (fun z=>no z p' n2)
end
section
variable {zs:List Str}{Z8:List Row}{c c':Pt->Pt->Int}{k k':Int}{W:Wb}
def Zt.putsE {S:Z7}{n e:Nat}(R:Zt zs Z8 c)(nd:zs.Nodup)(h12:zs.length<=12)(hn:S[n]?=some (.dn Z8 e)){p q:Pt}(hp:p.1<zs.length)(hq:q.1<zs.length){x:Int}{P:Z7->Prop}
  (k:∀ e',Zt zs (dput Z8 [kp zs p,kp zs q] (.int x)) (Wg c p q x)->Put P S n (.dn (dput Z8 [kp zs p,kp zs q] (.int x)) e')):O4 S (.ref n) (.tup [Zd zs p,Zd zs q]) (.int x) P :=
 O4.n (ks:=[kp zs p,kp zs q]) hn (R.len h12) fun e'=>k e' (R.put nd hp hq x)
def Zt.one (nd:zs.Nodup)(ok:Zv W)(nW:W.n=zs.length)(R:Zt zs Z8 c)(R':Zt zs Z8 c')(F:ZK W c k)(F':ZK W c' k'):c=c':=by
  funext p q;by_cases g:p.1<zs.length/\q.1<zs.length
  . rcases R.get nd g.1 g.2 with⟨h1,h2⟩|h1<;>rcases R'.get nd g.1 g.2 with⟨h1',h2'⟩|h1'
    . rw[h2,h2']
    . rw[h1]at h1';cases h1'
    . rw[h1]at h1';cases h1'
    . rw[h1]at h1';exact D.int.inj (qD h1')
  . have z : ∀ {c : Pt → Pt → Int} {k : Int}, ZK W c k → c p q = 0 := fun {c k} F => by
      have h0:=F.nn p q;have:¬ 0<c p q:=fun h=>g (nW▸F.rng ok h)
      lia
    rw[z F,z F']
def Py.one (ok:Zv W)(F:ZK W c k)(R:Py W zs c rs)(R':Py W zs c rs'):rs=rs':=by
 refine Jx fun i=>?_
 by_cases hi:i<rs.length
 ·obtain⟨us,hu⟩:∃ us,rs[i]?=some us:=⟨_,qb hi⟩
  obtain⟨vs,hv⟩:∃ vs,rs'[i]?=some vs:=⟨_,qb (by rw[R'.ln,<- R.ln];exact hi)⟩
  rw[hu,hv];obtain⟨A,a1,a2,a3⟩:=R.rd i us hu;obtain⟨B,b1,b2,b3⟩:=R'.rd i vs hv
  have go:∀ {us vs:List Nat},Yj W c us->Yj W c vs->us[us.length-1]?=some W.t->vs[vs.length-1]?=some W.t->us[1]?=vs[1]?->∀ (n x:Nat),us[n]?=some x->vs[n]?=some x:=fun {us vs} A B a1 b1 e1 n=>by
   induction n with
   |zero=>exact fun x h=>by rw[A.hd]at h;cases h;exact B.hd
   |succ n ih =>
    intro x h;by_cases n0:n=0
    ·subst n0;rw[<- e1];exact h
    ·obtain⟨y,hy⟩:∃ y,us[n]?=some y:=⟨_,qb (by have:=zu h;lia)⟩
     have hv:=ih y hy;have lv:=zu hv;have nt:y≠W.t:=A.nt n y hy (zu h)
     have ns:y≠W.s:=fun e=>by have n1:=A.nodup ok F;have g0:=A.hd;rw[<- e,<- hy]at g0;have l1:=zu hy;rw[qb (by lia),qb l1]at g0;exact n0 ((Sx n1).mp (qD g0)).symm
     have l2:n+1<vs.length:=by
      by_cases g:n+1<vs.length
      ·exact g
      ·have:n=vs.length-1:=by lia
       rw[this]at hv;rw[hv]at b1;exact absurd (qD b1) nt
     have hz:vs[n+1]?=some vs[n+1]:=qb l2;rw[hz,bN ok F ns (A.ch n y x hy h) (B.ch n y _ hv hz)]
  have e1:us[1]?=vs[1]?:=by rw[a2,b2]
  refine congrArg some (Jx fun n=>?_);cases h:us[n]? with
  |some x=>exact(go A B a1 b1 e1 n x h).symm
  |none =>
   cases h2:vs[n]? with
   |none=>rfl
   |some y=>rw[go B A b1 a1 e1.symm n y h2]at h;cases h
 ·rw[qw (by lia),qw (by have:=R.ln;have:=R'.ln;lia)]
end
def PX (V:Vl)(h:Int)(s t:Nat)(zs:List Str)(rs:List (List Nat))(ks:List Nat):Prop:=∃ (Z8:List Row) (c:Pt->Pt->Int) (k:Int) (fo:List (Pt×Option Pt)),La zs (s,true) (t,false) (Ry V h s t zs) Z8/\Zt zs Z8 c/\ZK (ZM V h s t) c k/\Py (ZM V h s t) zs c rs/\Bf c (s,true) fo [] (fun _ _=>True)/\(t,false)∉fo.map (·.1)/\ks=(List.range zs.length).filter (Ym fun p=>decide (p∈fo.map (·.1)))
def PX.ans {V:Vl}{t:Nat}(A:PX V h s t zs rs ks):Xq V h s t zs rs ks :=by obtain⟨_,c,k,fo,_,_,x⟩:=A;exact⟨c,k,fo,x⟩
theorem PX.one {V:Vl}{h:Int}{s t:Nat}{zs:List Str}(nd:zs.Nodup)(hzs:zs=V.bs.map (·.1))(ok:Zv (ZM V h s t))(A:PX V h s t zs rs ks)(A':PX V h s t zs rs' ks'):rs=rs'/\ks=ks':=by
 obtain⟨Z8,c,k,fo,L,R,F,D,B,_,rfl⟩:=A;obtain⟨kvs',c',k',fo',L',R',F',D',B',_,rfl⟩:=A';cases L.fn nd L';have nW:(ZM V h s t).n=zs.length:=by rw[hzs];rfl
 cases R.one nd ok nW R' F F';refine⟨D.one ok F D',?_⟩
 have:(fun p=>decide (p∈fo.map (·.1)))=fun p=>decide (p∈fo'.map (·.1)):=funext fun p=>by rw[Ut,decide_eq_true_iff,decide_eq_true_iff];exact B.same B' p
 rw[this]
end Dp
namespace My
open PySem PySem.Spec PyProof.Rows L2
def uW (n:Nat)(o:Option Int)(d:Nat)(hd:d<=n):HT.sIx n d o<=n:=by
  cases o with
  |none=>exact hd
  |some i =>show(if i<0 then(i+n).toNat else min i.toNat n)<=n;split<;>lia
section
open AutoSeq1 (wpAny_loadPart')
variable {prog:Program}{w:World}{A:Around}{E:ĸ->ĳ->Prop}{s:ĳ}
def zkW {it t:Addr}{i:Nat}{items:Array ĸ}{x:ĸ}{Q:ĸ->ĳ->Prop}(hit:s.heap.IsTupleIter it t i)(ht:s.heap.IsTuple t items)(hx:items[i]?=some x)
  (hQ:∀ h',h'.IsTupleIter it t (i+1)->Heap.SameBut it s.heap h'->Q x { s with heap:=h' }):wpAny (model prog w) A (Builtin.SmallTypes.nextOf (.ref it)) Q E s:=by
 obtain⟨o,ho,hc,hd⟩:=id hit;obtain⟨ol,hol,_,nl,hdl⟩:=ht;unfold Builtin.SmallTypes.nextOf;refine wpAny_bind (wpAny_callSpecial?_slot (name:=Str.ofString "__next__") hit.typeIs F.slot_tuple_iterator_next (wpAny_call_entry F.slot_tuple_iterator_next hit.typeIs F.entry_tuple_iterator_next ?_ (F.args_tuple_iterator_next_1 _)));show wpAny _ _ (field (.ref it) 0 >>= _) _ _ s;refine wpAny_bind (wpAny_field ho hd (x:=.ref t) rfl ?_);show wpAny _ _ (if(Value.ref t==Value.none)=true then _ else _) _ _ s;rw[if_neg (show ¬ ((Value.ref t==Value.none)=true)from qr)];show wpAny _ _ (field (.ref it) 1 >>= _) _ _ s;refine wpAny_bind (wpAny_field ho hd (x:=.int i 0) rfl ?_);show wpAny _ _ (seqItems? (.ref t) >>= _) _ _ s;refine wpAny_bind (wpAny_seqItems hol hdl ?_);simp only[QL,hx];refine wpAny_bind (wpAny_setField ho hd (by simp) (wpAny_pure ⟨x,rfl,wpAny_pure (hQ _ ?_ (Heap.SameBut.update ..))⟩));exact⟨_,Heap.get?_update_self _ ho (Obj.isFreed_of_fields (Obj.data_mapFields hd _)),(Obj.cls_mapFields ..).trans hc,by rw[Obj.data_mapFields hd];simp[rawInt]⟩
def ϊ {it t:Addr}{i:Nat}{items:Array ĸ}{Q:ĸ->ĳ->Prop}(hh:A.handled=none)(hit:s.heap.IsTupleIter it t i)(ht:s.heap.IsTuple t items)(hx:items[i]?=none)
  (hE:∀ h' e,Heap.ExtBut it s.heap h'->(∃ o,h'.get? e=some o/\o.cls=.type "StopIteration")->E (.ref e) { s with heap:=h' }):wpAny (model prog w) A (Builtin.SmallTypes.nextOf (.ref it)) Q E s:=by
 obtain⟨o,ho,hc,hd⟩:=id hit;obtain⟨ol,hol,_,nl,hdl⟩:=ht;unfold Builtin.SmallTypes.nextOf;refine wpAny_bind (wpAny_callSpecial?_slot (name:=Str.ofString "__next__") hit.typeIs F.slot_tuple_iterator_next (wpAny_call_entry F.slot_tuple_iterator_next hit.typeIs F.entry_tuple_iterator_next ?_ (F.args_tuple_iterator_next_1 _)));show wpAny _ _ (field (.ref it) 0 >>= _) _ _ s;refine wpAny_bind (wpAny_field ho hd (x:=.ref t) rfl ?_);show wpAny _ _ (if(Value.ref t==Value.none)=true then _ else _) _ _ s;rw[if_neg (show ¬ ((Value.ref t==Value.none)=true)from qr)];show wpAny _ _ (field (.ref it) 1 >>= _) _ _ s;refine wpAny_bind (wpAny_field ho hd (x:=.int i 0) rfl ?_);show wpAny _ _ (seqItems? (.ref t) >>= _) _ _ s;refine wpAny_bind (wpAny_seqItems hol hdl ?_);simp only[QL,hx];refine wpAny_bind (wpAny_rule (wpAny_bind (wpAny_setField ho hd (by simp) ?_)));show wpAny _ _ (newExc (.type "StopIteration") [] >>= _) _ _ _;refine wpAny_bind ?_;simp only[newExc,newTuple];refine wpAny_bind (wpAny_newObj_type ?_ (by size_fits));refine wpAny_bind (m:=firstArgMember _ _) (wpAny_of_eq (a:=Value.none) (by first|rfl|(simp only[firstArgMember];rfl)) ?_);refine wpAny_newObj_type ?_ (by size_fits);simp only[raiseNew];refine wpAny_bind (wpAny_handled ?_)
 first|rw[show A.in1.handled=none from hh]|rw[hh]
 refine wpAny_bind (wpAny_pure (wpAny_throw ?_));exact hE _ _ (((Heap.SameBut.update ..).extBut.push _).push _) ⟨_,qo _ rfl,rfl⟩
end
def Y0:Bool->Heap->Addr->Addr->Nat->Prop
 |true,h,it,l,k=>h.IsListIter it l k
 |false,h,it,l,k=>h.IsTupleIter it l k
def Yw:Bool->Heap->Addr->Array ĸ->Prop
 |true,h,l,xs=>h.IsList l xs
 |false,h,l,xs=>h.IsTuple l xs
def Y0.grow {k:Nat}(x:Y0 b h it l k)(e:Heap.ExtBut c h h')(n:it≠c):Y0 b h' it l k:=by
 cases b
 ·exact Heap.IsTupleIter.extBut (show h.IsTupleIter it l k from x) e n
 ·exact Heap.IsListIter.extBut (show h.IsListIter it l k from x) e n
def Yw.grow (x:Yw b h l xs)(e:Heap.ExtBut c h h')(n:l≠c):Yw b h' l xs:=by
 cases b
 ·exact Heap.IsTuple.extBut (show h.IsTuple l xs from x) e n
 ·exact Heap.IsList.extBut (show h.IsList l xs from x) e n
def Y0.obj {k:Nat}(x:Y0 b h it l k):∃ o,h.get? it=some o/\(o.cls=.type "list_iterator"\/o.cls=.type "tuple_iterator")/\∃ vs,o.data=.fields vs:=by
 cases b
 ·obtain⟨o,ho,hc,hd⟩:h.IsTupleIter it l k:=x;exact⟨o,ho,.inr hc,_,hd⟩
 ·obtain⟨o,ho,hc,hd⟩:h.IsListIter it l k:=x;exact⟨o,ho,.inl hc,_,hd⟩
def Y0.at {h':Heap}{k:Nat}(x:Y0 b h it l k)(e:∀ o,h.get? it=some o->h'.get? it=some o):Y0 b h' it l k:=by
 cases b
 ·obtain⟨o,ho,hc,hd⟩:h.IsTupleIter it l k:=x;exact(⟨o,e o ho,hc,hd⟩:h'.IsTupleIter it l k)
 ·obtain⟨o,ho,hc,hd⟩:h.IsListIter it l k:=x;exact(⟨o,e o ho,hc,hd⟩:h'.IsListIter it l k)
def Yw.lt (x:Yw b h l xs):l<h.objs.size:=by
 cases b
 ·obtain⟨o,ho,_⟩:h.IsTuple l xs:=x;exact qA ho
 ·obtain⟨o,ho,_⟩:h.IsList l xs:=x;exact qA ho
section
variable {prog:Program}{w:World}{A:Around}{E:ĸ->ĳ->Prop}{s:ĳ}
def GQ {t:Addr}{items:Array ĸ}{x:ĸ}{Q:ĸ->ĳ->Prop}(hit:Y0 b s.heap it t i)(ht:Yw b s.heap t items)(hx:items[i]?=some x)(hQ:∀ h',Y0 b h' it t (i+1)->Heap.SameBut it s.heap h'->Q x { s with heap:=h' }):wpAny (model prog w) A (Builtin.SmallTypes.nextOf (.ref it)) Q E s:=by
 cases b
 ·exact zkW hit ht hx hQ
 ·exact wpAny_nextOf_list_item hit ht hx hQ
def v9 {t:Addr}{items:Array ĸ}{Q:ĸ->ĳ->Prop}(hh:A.handled=none)(hit:Y0 b s.heap it t i)(ht:Yw b s.heap t items)(hx:items[i]?=none)(hE:∀ h' e,Heap.ExtBut it s.heap h'->(∃ o,h'.get? e=some o/\o.cls=.type "StopIteration")->E (.ref e) { s with heap:=h' }):wpAny (model prog w) A (Builtin.SmallTypes.nextOf (.ref it)) Q E s:=by
 cases b
 ·exact ϊ hh hit ht hx hE
 ·exact wpAny_nextOf_list_end hh hit ht hx hE
def ł {TI TO:Addr}{k:Nat}{x y:ĸ}{Q:Option ĸ->ĳ->Prop}(D:ZipApart z TI TO i1 i2 l1 l2)(hz:IsZip s.heap z TI TO .none)(hTI:IsPair s.heap TI (.ref i1) (.ref i2))(hTO:IsPair s.heap TO a b)(h1:Y0 b1 s.heap i1 l1 k)(h2:Y0 b2 s.heap i2 l2 k)(hl1:Yw b1 s.heap l1 xs)(hl2:Yw b2 s.heap l2 ys)(hx:xs[k]?=some x)(hy:ys[k]?=some y)(hQ:∀ h',IsZip h' z TI TO (rawInt s.heap.objs.size)->IsPair h' TO x y->Y0 b1 h' i1 l1 (k+1)->Y0 b2 h' i2 l2 (k+1)->IsPair h' s.heap.objs.size x y ->
   (∀ c o,c≠z->c≠TO->c≠i1->c≠i2->s.heap.get? c=some o->h'.get? c=some o)->Q (some (.ref s.heap.objs.size)) { s with heap:=h' }):wpAny (model prog w) A (pyNext (.ref z)) Q E s:=by
 have hT:s.TypeIs (.ref z) "zip":=⟨_,hz,rfl⟩
 unfold pyNext;refine wpAny_bind (wpAny_attempt (wpAny_callSpecial?_slot (name:=Str.ofString "__next__") hT F.slot_zip_next (wpAny_call_entry F.slot_zip_next hT F.entry_zip_next ?_ (F.args_zip_next_1 _))));show wpAny _ _ (field (.ref z) 2 >>= _) _ _ _;refine wpAny_bind (wpAny_field hz rfl (x:=.bool false) rfl ?_);show wpAny _ _ (field (.ref z) 3 >>= _) _ _ _;refine wpAny_bind (wpAny_field hz rfl (x:=.ref TI) rfl (wpAny_bind (wpAny_seqItems hTI rfl ?_)));show wpAny _ _ (Builtin.SmallTypes.ownedTupleIsFree (.ref z) >>= _) _ _ _;refine wpAny_bind ?_;unfold Builtin.SmallTypes.ownedTupleIsFree;refine wpAny_bind (wpAny_field hz rfl (x:=.none) rfl (wpAny_pure ?_));simp only[if_true];refine wpAny_bind (wpAny_rule (wpAny_bind (wpAny_field hz rfl (x:=.ref TO) rfl (wpAny_bind (wpAny_setField_rec hz (by simp) fun g1 z1 e1=>?_)))))
 replace z1:IsZip g1 z TI TO .ellipsis:=z1
 refine wpAny_bind ?_;simp only[List.zipIdx_cons,List.zipIdx_nil,Kc,KZ];refine wpAny_bind (wpAny_bind (wpAny_onRaise ?_));show wpAny _ _ (Builtin.SmallTypes.nextOf (.ref i1) >>= _) _ _ _;refine wpAny_bind (GQ (h1.grow e1.extBut D.i1z) (hl1.grow e1.extBut D.l1z) hx fun g2 t1 e2=>wpAny_pure ?_);have p2:IsPair g2 TO a b:=e2.extBut _ _ D.TOi1 (e1.extBut _ _ D.TOz hTO);refine wpAny_bind (wpAny_seqItems p2 rfl (wpAny_bind (wpAny_updateSeq_pair p2 fun g3 p3 e3=>wpAny_bind (wpAny_letGo (wpAny_pure ?_)))))
 replace p3:IsPair g3 TO x b:=p3
 refine wpAny_bind (wpAny_bind (wpAny_onRaise ?_));show wpAny _ _ (Builtin.SmallTypes.nextOf (.ref i2) >>= _) _ _ _;refine wpAny_bind (GQ (((h2.grow e1.extBut D.i2z).grow e2.extBut D.i12.symm).grow e3.extBut D.TOi2.symm) (((hl2.grow e1.extBut D.l2z).grow e2.extBut D.l2i1).grow e3.extBut D.l2TO) hy fun g4 t2 e4=>wpAny_pure ?_);have p4:IsPair g4 TO x b:=e4.extBut _ _ D.TOi2 p3;refine wpAny_bind (wpAny_seqItems p4 rfl (wpAny_bind (wpAny_updateSeq_pair p4 fun g5 p5 e5=>wpAny_bind (wpAny_letGo (wpAny_pure (wpAny_pure ?_))))))
 replace p5:IsPair g5 TO x y:=p5
 refine wpAny_bind (wpAny_seqItems p5 rfl (wpAny_bind (wpAny_newTuple ?_)));have sz:g5.objs.size=s.heap.objs.size:=by rw[e5.1,e4.1,e3.1,e2.1,e1.1]
 have z5:IsZip g5 z TI TO .ellipsis:=e5.extBut _ _ D.TOz.symm (e4.extBut _ _ D.i2z.symm (e3.extBut _ _ D.TOz.symm (e2.extBut _ _ D.i1z.symm z1)));have k5:∀ c o,c≠z->c≠TO->c≠i1->c≠i2->s.heap.get? c=some o->g5.get? c=some o:=fun c o c1 c2 c3 c4 e=>e5.extBut _ _ c2 (e4.extBut _ _ c4 (e3.extBut _ _ c2 (e2.extBut _ _ c3 (e1.extBut _ _ c1 e))))
 have u1:Y0 b1 g5 i1 l1 (k+1):=((t1.grow e3.extBut D.TOi1.symm).grow e4.extBut D.i12).grow e5.extBut D.TOi1.symm;have u2:Y0 b2 g5 i2 l2 (k+1):=t2.grow e5.extBut D.TOi2.symm;have zl:z<g5.objs.size:=qA z5;show wpAny _ _ (Builtin.SmallTypes.ownedTupleHandOut (.ref z) (.ref g5.objs.size) >>= _) _ _ _;refine wpAny_bind ?_;unfold Builtin.SmallTypes.ownedTupleHandOut;have z6:IsZip (g5.push { cls:=.type "tuple",data:=.seq #[x,y] }) z TI TO .ellipsis:=qc _ z5;refine wpAny_bind (wpAny_setField_rec z6 (by simp) fun g7 z7 e7=>?_)
 replace z7:IsZip g7 z TI TO (rawInt g5.objs.size):=z7
 refine wpAny_setField_rec z7 (by simp) fun g8 z8 e8=>?_
 replace z8:IsZip g8 z TI TO (rawInt g5.objs.size):=z8
 have up:∀ c o,c≠z->g5.get? c=some o->g8.get? c=some o:=fun c o c1 e=>e8.extBut _ _ c1 (e7.extBut _ _ c1 (qc _ e))
 have t8:IsPair g8 g5.objs.size x y:=e8.extBut _ _ (Wj zl) (e7.extBut _ _ (Wj zl) (qo _ rfl));rw[sz]at z8 t8;refine wpAny_pure ⟨_,rfl,wpAny_pure ?_⟩;show Q (some (.ref g5.objs.size)) _;rw[sz];exact hQ g8 z8 (up _ _ D.TOz p5) (u1.at fun o e=>up _ o D.i1z e) (u2.at fun o e=>up _ o D.i2z e) t8 fun c o c1 c2 c3 c4 e=>up c o c1 (k5 c o c1 c2 c3 c4 e)
def znr {TI TO:Addr}{k:Nat}{Q:Option ĸ->ĳ->Prop}(hh:A.handled=none)(D:ZipApart z TI TO i1 i2 l1 l2)(hz:IsZip s.heap z TI TO .none)(hTI:IsPair s.heap TI (.ref i1) (.ref i2))(hTO:IsPair s.heap TO a b)(h1:Y0 b1 s.heap i1 l1 k)(h2:Y0 b2 s.heap i2 l2 k)(hl1:Yw b1 s.heap l1 xs)(hl2:Yw b2 s.heap l2 ys)(hend:xs[k]?=none\/ys[k]?=none)(hQ:∀ h',(∀ c o,c≠z->c≠TO->c≠i1->c≠i2->s.heap.get? c=some o->h'.get? c=some o)->Q none { s with heap:=h' }):wpAny (model prog w) A (pyNext (.ref z)) Q E s:=by
 have hT:s.TypeIs (.ref z) "zip":=⟨_,hz,rfl⟩
 unfold pyNext;refine wpAny_bind (wpAny_attempt (wpAny_callSpecial?_slot (name:=Str.ofString "__next__") hT F.slot_zip_next (wpAny_call_entry F.slot_zip_next hT F.entry_zip_next ?_ (F.args_zip_next_1 _))))
 have out:∀ h' e,(∀ c o,c≠z->c≠TO->c≠i1->c≠i2->s.heap.get? c=some o->h'.get? c=some o)->(∃ o,h'.get? e=some o/\o.cls=.type "StopIteration") ->
   wpAny (model prog w) A ((isInstance (.ref e) (.type "StopIteration")) >>= fun b=>if b=true then pure none else throw (.ref e)) Q E { s with heap:=h' }:=fun h' e hk he=>by
  obtain⟨o,ho,hc⟩:=he;exact wpAny_bind (wpAny_isInstance (T:="StopIteration") (b:=true) ⟨o,ho,hc⟩ isSubtype_stop (wpAny_pure (hQ _ hk)))
 show wpAny _ _ (field (.ref z) 2 >>= _) _ _ _;refine wpAny_bind (wpAny_field hz rfl (x:=.bool false) rfl ?_);show wpAny _ _ (field (.ref z) 3 >>= _) _ _ _;refine wpAny_bind (wpAny_field hz rfl (x:=.ref TI) rfl (wpAny_bind (wpAny_seqItems hTI rfl ?_)));show wpAny _ _ (Builtin.SmallTypes.ownedTupleIsFree (.ref z) >>= _) _ _ _;refine wpAny_bind ?_;unfold Builtin.SmallTypes.ownedTupleIsFree;refine wpAny_bind (wpAny_field hz rfl (x:=.none) rfl (wpAny_pure ?_));simp only[if_true];refine wpAny_bind (wpAny_rule (wpAny_bind (wpAny_field hz rfl (x:=.ref TO) rfl (wpAny_bind (wpAny_setField_rec hz (by simp) fun g1 z1 e1=>?_)))))
 replace z1:IsZip g1 z TI TO .ellipsis:=z1
 refine wpAny_bind ?_;simp only[List.zipIdx_cons,List.zipIdx_nil,Kc,KZ];refine wpAny_bind (wpAny_bind (wpAny_onRaise ?_));show wpAny _ _ (Builtin.SmallTypes.nextOf (.ref i1) >>= _) _ _ _;cases hx:xs[k]? with
 |none =>
  refine wpAny_bind (v9 hh (h1.grow e1.extBut D.i1z) (hl1.grow e1.extBut D.l1z) hx fun g2 e e2 ⟨oe,hoe,hce⟩=>?_);have z2:IsZip g2 z TI TO .ellipsis:=e2 _ _ D.i1z.symm z1;have ne:e≠z:=fun q=>by subst q;rw[z2]at hoe;cases hoe;simp at hce
  exact wpAny_setField_rec z2 (by simp) fun g3 _ e3=>out g3 e (fun c o c1 _ c3 _ q=>e3.extBut _ _ c1 (e2 _ _ c3 (e1.extBut _ _ c1 q))) ⟨oe,e3.extBut _ _ ne hoe,hce⟩
 |some x =>
  have hy:ys[k]?=none:=by rcases hend with h|h;rw[hx]at h;cases h;exact h
  refine wpAny_bind (GQ (h1.grow e1.extBut D.i1z) (hl1.grow e1.extBut D.l1z) hx fun g2 t1 e2=>wpAny_pure ?_);have p2:IsPair g2 TO a b:=e2.extBut _ _ D.TOi1 (e1.extBut _ _ D.TOz hTO);refine wpAny_bind (wpAny_seqItems p2 rfl (wpAny_bind (wpAny_updateSeq_pair p2 fun g3 p3 e3=>wpAny_bind (wpAny_letGo (wpAny_pure ?_)))));refine wpAny_bind (wpAny_bind (wpAny_onRaise ?_));show wpAny _ _ (Builtin.SmallTypes.nextOf (.ref i2) >>= _) _ _ _;refine wpAny_bind (v9 hh (((h2.grow e1.extBut D.i2z).grow e2.extBut D.i12.symm).grow e3.extBut D.TOi2.symm) (((hl2.grow e1.extBut D.l2z).grow e2.extBut D.l2i1).grow e3.extBut D.l2TO) hy fun g4 e e4 ⟨oe,hoe,hce⟩=>?_);have z4:IsZip g4 z TI TO .ellipsis:=e4 _ _ D.i2z.symm (e3.extBut _ _ D.TOz.symm (e2.extBut _ _ D.i1z.symm z1));have ne:e≠z:=fun q=>by subst q;rw[z4]at hoe;cases hoe;simp at hce
  exact wpAny_setField_rec z4 (by simp) fun g5 _ e5=>out g5 e (fun c o c1 c2 c3 c4 q=>e5.extBut _ _ c1 (e4 _ _ c4 (e3.extBut _ _ c2 (e2.extBut _ _ c3 (e1.extBut _ _ c1 q))))) ⟨oe,e5.extBut _ _ ne hoe,hce⟩
end
abbrev pB (b:Bool):String:=if b=true then "list_iterator" else "tuple_iterator"
abbrev Pk (b:Bool)(h:Heap)(l:Addr):Heap:=h.push { cls:=.type (pB b),data:=.fields #[.ref l,.int 0 0] }
abbrev Kw (b1 b2:Bool)(h:Heap)(l1 l2:Addr):Heap:=Pk b2 (Pk b1 h l1) l2
abbrev Mr (b1 b2:Bool)(h:Heap)(l1 l2:Addr):Heap:=(Kw b1 b2 h l1 l2).push { cls:=.type "tuple",data:=.seq #[.ref h.objs.size,.ref (Pk b1 h l1).objs.size] }
abbrev Iu (b1 b2:Bool)(h:Heap)(l1 l2:Addr):Heap:=(Mr b1 b2 h l1 l2).push { cls:=.type "tuple",data:=.seq #[.none,.none] }
abbrev Uo (b1 b2:Bool)(h:Heap)(l1 l2:Addr):Heap:=(Iu b1 b2 h l1 l2).push { cls:=.type "zip",data:=.fields #[.none,.bool false,.bool false,.ref (Kw b1 b2 h l1 l2).objs.size,.ref (Mr b1 b2 h l1 l2).objs.size] }
theorem Yw.push (x:Yw b h l xs)(o:Obj):Yw b (h.push o) l xs:=by
 cases b
 ·obtain⟨u,hu,r⟩:h.IsTuple l xs:=x;exact(⟨u,qc _ hu,r⟩:(h.push o).IsTuple l xs)
 ·obtain⟨u,hu,r⟩:h.IsList l xs:=x;exact(⟨u,qc _ hu,r⟩:(h.push o).IsList l xs)
def zzE (b:Bool)(l1 l2:Addr)(xs ys:Array ĸ) :
  Meets (Builtin.«zip.__new__» ⟨[.type "zip",.ref l1,.ref l2],[]⟩) (fun _ R s=>Yw b s.heap l1 xs/\Yw b s.heap l2 ys/\R (.ok (.ret (.ref (Iu b b s.heap l1 l2).objs.size))) { s with heap:=Uo b b s.heap l1 l2 }):=by
 cases b
 ·exact .of_wp fun prog w A R s h=>by
   obtain⟨hp,g,d,tk,os⟩:=s;obtain⟨h1,h2,h⟩:=h;have hsub:=sub_zip;have q1:Heap.IsTuple (Shared.heap ⟨hp,g,d,tk,os⟩) l1 xs:=h1;have q2:Heap.IsTuple (Shared.heap ⟨hp.push { cls:=.type "tuple_iterator",data:=.fields #[.ref l1,.int 0 0] },g,d,tk,os⟩) l2 ys:=Yw.push (b:=false) h2 _
   wp_walk using wpAny_pyIter_tuple q1,wpAny_pyIter_tuple q2
   exact⟨_,rfl,h⟩
 ·exact meets_zip_new l1 l2 xs ys
def nu {b:Bool}{h:Heap}{it l:Addr}(e:h.get? it=some { cls:=.type (pB b),data:=.fields #[.ref l,.int 0 0] }):Y0 b h it l 0:=by
 cases b
 ·exact(⟨_,e,rfl,rfl⟩:h.IsTupleIter it l 0)
 ·exact(⟨_,e,rfl,rfl⟩:h.IsListIter it l 0)
section
variable {prog:Program}{w:World}{A:Around}{E:ĸ->ĳ->Prop}{s:ĳ}
def fZ {Q:ĸ->ĳ->Prop}(hl1:Yw b s.heap l1 xs)(hl2:Yw b s.heap l2 ys)(h:∀ h',IsZip h' (s.heap.objs.size+4) (s.heap.objs.size+2) (s.heap.objs.size+3) .none->IsPair h' (s.heap.objs.size+2) (.ref s.heap.objs.size) (.ref (s.heap.objs.size+1))->IsPair h' (s.heap.objs.size+3) .none .none->Y0 b h' s.heap.objs.size l1 0->Y0 b h' (s.heap.objs.size+1) l2 0 ->
   (∀ c o,s.heap.get? c=some o->h'.get? c=some o)->Q (.ref (s.heap.objs.size+4)) { s with heap:=h' }):wpAny (model prog w) A (call (.type "zip") [.ref l1,.ref l2]) Q E s:=by
 refine callType_new F.called_zip (by decide) (F.typeCall_zip_2 _ _) (F.newCall_zip_2 _ _) (fun obj=>F.args_object_init_3 obj _ _) F.entry_zip_new (zzE b l1 l2 xs ys) ⟨hl1,hl2,?_⟩;have s1:(Pk b s.heap l1).objs.size=s.heap.objs.size+1:=WQ ..;have s2:(Kw b b s.heap l1 l2).objs.size=s.heap.objs.size+2:=by rw[WQ,s1]
 have s3:(Mr b b s.heap l1 l2).objs.size=s.heap.objs.size+3:=by rw[WQ,s2]
 have s4:(Iu b b s.heap l1 l2).objs.size=s.heap.objs.size+4:=by rw[WQ,s3]
 have v1:(Uo b b s.heap l1 l2).get? s.heap.objs.size=some _:=(fun c o q=>qc _ (qc _ (qc _ (qc _ q))):∀ c o,(Pk b s.heap l1).get? c=some o->(Uo b b s.heap l1 l2).get? c=some o) _ _ (qo _ rfl);have v2:(Uo b b s.heap l1 l2).get? (Pk b s.heap l1).objs.size=some _:=(fun c o q=>qc _ (qc _ (qc _ q)):∀ c o,(Kw b b s.heap l1 l2).get? c=some o->(Uo b b s.heap l1 l2).get? c=some o) _ _ (qo _ rfl);have v3:(Uo b b s.heap l1 l2).get? (Kw b b s.heap l1 l2).objs.size=some _:=(fun c o q=>qc _ (qc _ q):∀ c o,(Mr b b s.heap l1 l2).get? c=some o->(Uo b b s.heap l1 l2).get? c=some o) _ _ (qo _ rfl);have v4:(Uo b b s.heap l1 l2).get? (Mr b b s.heap l1 l2).objs.size=some _:=qc _ (qo _ rfl);have v5:(Uo b b s.heap l1 l2).get? (Iu b b s.heap l1 l2).objs.size=some _:=qo _ rfl;show _/\_;rw[s2,s3,s4]at v5;rw[s1,s2]at v3;rw[s3]at v4;rw[s1]at v2;rw[s4];exact⟨⟨_,v5,rfl⟩,h _ v5 v3 v4 (nu v1) (nu v2) fun c o x=>qc _ (qc _ (qc _ (qc _ (qc _ x))))⟩
end
def Wy (K:Ĳ)(b:Bool)(H:Hp)(l:Addr)(xs:List V):Prop:=match b with
 |true=>ZC K H l xs
 |false=>ZP K H l xs
def Wy.items (I:Inv X Z9 U H s)(h:Wy X.K b H l xs):∃ its:List ĸ,Vals xs its/\Yw b s.heap l its.toArray:=by
 cases b
 ·obtain⟨its,r,p,_⟩:=I.tuple (show ZP X.K H l xs from h);exact⟨its,r,p⟩
 ·obtain⟨its,r,p,_⟩:=I.list (show ZC X.K H l xs from h);exact⟨its,r,p.isList⟩
def Wy.inj (I:Inv X Z9 U H s)(h:Wy X.K b H l xs)(h':Wy X.K b H l ys):xs=ys:=by
 cases b
 ·exact I.tuple_inj (show ZP X.K H l xs from h) h'
 ·exact I.list_inj (show ZC X.K H l xs from h) h'
def Kp (K:Ĳ)(b1 b2:Bool)(l1 l2:Addr):It :=
  ⟨fun i H=>∃ xs ys x y,Wy K b1 H l1 xs/\Wy K b2 H l2 ys/\xs[i]?=some x/\ys[i]?=some y,
   fun i H v H'=>∃ p,v=.ref p/\H p=none/\∀ xs ys x y,Wy K b1 H l1 xs->Wy K b2 H l2 ys->xs[i]?=some x->ys[i]?=some y->H'=upd H p (.tup [x,y]),
   fun i H=>∃ xs ys,Wy K b1 H l1 xs/\Wy K b2 H l2 ys/\(xs.length<=i\/ys.length<=i)⟩
def jf {P:Program}{w:World}{K:Ĳ}{es:List Expr}{kk:Nat}{pos:Pos}{b1 b2:Bool}{TI TO:Addr}(D:ZipApart z TI TO i1 i2 l1 l2) :
  Turn P w K (.Tuple es kk pos) (Kp K b1 b2 l1 l2) [z,TI,TO,i1,i2] z (fun i h=>IsZip h z TI TO .none/\IsPair h TI (.ref i1) (.ref i2)/\(∃ a b,IsPair h TO a b)/\Y0 b1 h i1 l1 i/\Y0 b2 h i2 l2 i) where
 mem:=by simp
 obj:=fun i h st b hb=>by
  obtain⟨hz,hTI,⟨a,c,hTO⟩,q1,q2⟩:=st;obtain⟨o1,g1,_,_,d1⟩:=q1.obj;obtain⟨o2,g2,_,_,d2⟩:=q2.obj;simp only[qv,qN,or_false]at hb;rcases hb with rfl|rfl|rfl|rfl|rfl
  ·exact⟨_,hz,fun v q=>by cases(show Data.fields _=Data.cell v from q)⟩
  ·exact⟨_,hTI,fun v q=>by cases(show Data.seq _ _=Data.cell v from q)⟩
  ·exact⟨_,hTO,fun v q=>by cases(show Data.seq _ _=Data.cell v from q)⟩
  ·exact⟨_,g1,fun v q=>by rw[d1]at q;cases q⟩
  ·exact⟨_,g2,fun v q=>by rw[d2]at q;cases q⟩
 keep:=fun i h h' st k=>by obtain⟨hz,hTI,⟨a,c,hTO⟩,q1,q2⟩:=st;exact⟨k z (by simp) _ hz,k TI (by simp) _ hTI,⟨a,c,k TO (by simp) _ hTO⟩,q1.at fun o e=>k i1 (by simp) o e,q2.at fun o e=>k i2 (by simp) o e⟩
 item:=by
  intro X hP hw hK hc i Z9 s U H E I hf st hg;subst hP hw hK;obtain⟨hz,hTI,⟨a,c,hTO⟩,q1,q2⟩:=st;obtain⟨xs,ys,x,y,hx1,hy1,hx,hy⟩:=hg;obtain⟨its,rx,px⟩:=hx1.items I;obtain⟨jts,ry,py⟩:=hy1.items I;obtain⟨u,hu,ru⟩:=Vals.get rx hx;obtain⟨v,hv,rv⟩:=Vals.get ry hy;refine ł D hz hTI hTO q1 q2 px py (by simpa using hu) (by simpa using hv) fun h' a1 a2 a3 a4 a5 hk=>?_
  refine⟨_,rfl,wpAny_letOwnedTupleGo_zip a1 fun h'' hz'' hs''=>?_⟩;have lt:∀ {c o},s.heap.get? c=some o->s.heap.objs.size≠c:=fun e=>Wj (qA e)
  have k2:∀ b u,b∉[z,TI,TO,i1,i2]->s.heap.get? b=some u->h''.get? b=some u:=fun b u hb e=>by simp only[qv,qN,or_false,not_or]at hb;exact hs''.extBut b u hb.1 (hk b u hb.1 hb.2.2.1 hb.2.2.2.1 hb.2.2.2.2 e)
  have new:h''.get? s.heap.objs.size=some { cls:=.type "tuple",data:=.seq #[u,v] }:=hs''.extBut _ _ (lt hz) a5;refine⟨.ref s.heap.objs.size,upd H s.heap.objs.size (.tup [x,y]),I.turnNew (t':=s.toks) hf k2 (qh _) ⟨by show 2<=sizeLine;decide,[u,v],.cons ru (.cons rv .nil),_,new,rfl,_,rfl⟩,rfl,⟨_,rfl,I.fresh,?_⟩,?_,fun b hb=>?_⟩
  ·intro xs' ys' x' y' hx1' hy1' hx' hy';cases hx1.inj I hx1';cases hy1.inj I hy1';rw[hx]at hx';rw[hy]at hy';cases hx';cases hy';rfl
  ·exact⟨hz'',hs''.extBut _ _ D.TIz (hk _ _ D.TIz D.TITO D.TIi1 D.TIi2 hTI),⟨_,_,hs''.extBut _ _ D.TOz a2⟩,a3.grow hs''.extBut D.i1z,a4.grow hs''.extBut D.i2z⟩
  ·have:∃ o,s.heap.get? b=some o:=by
    simp only[qv,qN,or_false]at hb;obtain⟨o1,e1,_⟩:=q1.obj;obtain⟨o2,e2,_⟩:=q2.obj;rcases hb with rfl|rfl|rfl|rfl|rfl
    ·exact⟨_,hz⟩
    ·exact⟨_,hTI⟩
    ·exact⟨_,hTO⟩
    ·exact⟨_,e1⟩
    ·exact⟨_,e2⟩
   obtain⟨o,e⟩:=this;rw[zA (lt e).symm];exact(hf b hb).1
 done:=by
  intro X hP hw hK hc i Z9 s U H E I hf st hg;subst hP hw hK;obtain⟨hz,hTI,⟨a,c,hTO⟩,q1,q2⟩:=st;obtain⟨xs,ys,hx1,hy1,hl⟩:=hg;obtain⟨its,rx,px⟩:=hx1.items I;obtain⟨jts,ry,py⟩:=hy1.items I;have n1:=rx.length;have n2:=ry.length;refine znr (I.ok.hd hc) D hz hTI hTO q1 q2 px py ?_ fun h' hk=>⟨rfl,I.turnedL (t':=s.toks) hf fun b u hb e=>?_⟩
  ·rcases hl with hl|hl
   ·exact .inl (by rw[GP];exact qw (by lia))
   ·exact .inr (by rw[GP];exact qw (by lia))
  ·simp only[qv,qN,or_false,not_or]at hb;exact hk b u hb.1 hb.2.2.1 hb.2.2.2.1 hb.2.2.2.2 e
 self:=fun _ _ _ _ _ st h=>wpAny_pyIter_zip st.1 h
section
variable {X:Cx}
def Ε (K:Ĳ)(ta:TA):TI:=fun U H R=>ta U H fun vs H1=>∃ b l1 l2,vs=[.ref l1,.ref l2]/\(∃ xs,Wy K b H1 l1 xs)/\(∃ ys,Wy K b H1 l2 ys)/\R (Kp K b b l1 l2) H1
def zrM {es:List Expr}{kk:Nat}{tpos:Pos}{a b:Expr}{ta:TA}{p pos:Pos}(hg:Gl X "zip")(hm:X.mg "zip"=none)(ha:PA X [a,b] ta)(hs:autoParam (starEach [a,b] X.env=[(false,eval a X.env),(false,eval b X.env)]) zB)(hs2:autoParam (starEach [b] X.env=[(false,eval b X.env)]) zB) :
    PI X (.Tuple es kk tpos) (.Call (.Name "zip" p) [a,b] [] pos) (Ε X.K ta):=by
  intro Z9 s U H R I h;refine Call_ (Uj I hg hm boot_zip (PyProof.Rows.callWith_type1 (Z2 (ha pos Z9 s U H _ I h) fun us s1 ⟨vs,H1,I1,r1,q1⟩=>?_) (by rw[hs,hs2]) (by rw[hs2];rfl)));obtain⟨b',l1,l2,e,⟨xs,hx⟩,⟨ys,hy⟩,q⟩:=q1;subst e;obtain⟨u,v,rfl,ru,rv⟩:=vals2 r1;cases ru;cases rv;obtain⟨its,rx,px⟩:=hx.items I1;obtain⟨jts,ry,py⟩:=hy.items I1;refine fZ px py fun h' hz hTI hTO h1 h2 hk=>?_
  have I2:Inv X Z9 U H1 { s1 with heap:=h' }:=I1.kept (t':=s1.toks) hk;refine wpAny_pyIter_zip (s:={ s1 with heap:=h' }) hz ⟨_,_,_,_,H1,rfl,I2,jf (PyProof.Rows.zipApart_new px.lt py.lt),⟨hz,hTI,⟨_,_,hTO⟩,h1,h2⟩,fun b hb=>?_,q⟩
  have hb':s1.heap.objs.size<=b:=by simp only[qv,qN,or_false]at hb;rcases hb with rfl|rfl|rfl|rfl|rfl<;>first|exact Nm _ _|exact qh _
  exact I1.fpOk hb' (I1.hok.fresh hb')
end
section
def iz (l:Addr)(items:Array ĸ)(n:Nat)(b:Addr)(items2:Array ĸ)(n2:Nat)(dct:Option Addr)(sl:Array (Option ĸ))(hs0:¬(!items.isEmpty&&Builtin.List.listTooLong (items.size+items2.size))=true)(hs1:items.size<=sizeLine)(hs2:items.size+items2.size<=sizeLine+1) :
  Meets (Builtin.«list.extend» ⟨[.ref l,.ref b],[]⟩) (fun _ R s=>s.heap.get? l=some { cls:=.type "list",dict:=none,data:=.seq items n,slots:=#[] }/\s.heap.get? b=some { cls:=.type "tuple",dict:=dct,data:=.seq items2 n2,slots:=sl }/\R (.ok (.ret Value.none)) { s with heap:=s.heap.update l (Obj.mapSeq fun x=>x++items2),toks:=s.toks }) :=
 .of_wp fun prog w A R s h=>by
  obtain⟨hp,g,d,tk,os⟩:=s;obtain⟨hl,hb,h⟩:=h;have f1:=AutoSeq1.idx_int;have f2:=AutoSeq1.sub_tuple_tuple;have f3:=AutoSeq1.sub_list_list;have f4:=AutoSeq1.sub_tuple_list;have f5:=AutoSeq1.sub_list_tuple;have hz':(items++items2).size<=sizeLine+1:=by rw[Array.size_append];exact hs2
  wp_walk using (wpAny_updateSeq hl rfl (hz:=hs1) (_hz':=hz')),wpAny_loadPart' hl,wpAny_loadPart' hb
  exact⟨_,rfl,h⟩
end
section
variable {X:Cx}
def zpm (K:Ĳ):V->List V->Hp->VK->Prop:=fun x vs H Q=>o9 x vs H Q\/∃ l b xs zs,x=.ref l/\vs=[.ref b]/\H l=some (.lst xs)/\ZP K H b zs/\xs.length+zs.length<=sizeLine/\Q .non (upd H l (.lst (xs++zs)))
def zlS:Rh X "list.extend" (zpm X.K):=by
 intro Z9 s U H x vs v us Q I rx rv h;rcases h with h|⟨l,b,xs,zs,rfl,rfl,hH,hB,hz,q⟩
 ·exact Ħ Z9 s U H x vs v us Q I rx rv h
 cases rx;obtain⟨u,rfl,ru⟩:=rv.one;cases ru;obtain⟨z,its,n,r,hl,e⟩:=I.lstM hH;obtain⟨its2,r2,⟨⟨c,dct,dt,sl⟩,e2,hc,n2,hd⟩,z2⟩:=I.tuple hB
 replace hc:c=.type "tuple":=hc
 replace hd:dt=.seq its2.toArray n2:=hd
 subst hc hd;have hl2:=r2.length;have hsz:its.toArray.size+its2.toArray.size<=sizeLine:=by rw[ql,ql];lia
 have hlong:¬ (!its.toArray.isEmpty&&Builtin.List.listTooLong (its.toArray.size+its2.toArray.size))=true:=by rw[o7 hsz,RT];exact qr
 refine call_meets F.slot_list_extend ⟨_,e,rfl⟩ F.entry_list_extend (F.args_list_extend_2 _ _)
  (iz l its.toArray n b its2.toArray n2 dct sl hlong (by rw[ql];lia) (by lia)) ⟨e,e2,?_⟩
 refine⟨.non,_,I.lset (its':=its++its2) hH e (by simp) (r.append r2) ?_,rfl,q⟩;rw[qf];lia
end
section
variable {prog:Program}{w:World}{A:Around}{s:ĳ}
abbrev Tr (prog:Program)(w:World)(h:Heap)(a:Addr)(c:List Str):Prop:=h.SetOf (PySem.strKind prog w) a (fun y=>c.any (·==y)) c.length
def Tr.at {h':Heap}(x:Tr prog w h a c)(k:∀ o,h.get? a=some o->h'.get? a=some o):Tr prog w h' a c :=by obtain⟨o,es,ep,t,ho,r⟩:=x;exact⟨o,es,ep,t,k o ho,r⟩
theorem loopS {R:Result->ĳ->Prop}{a:Addr}{wr:List Addr}{G:Array GenState->Array GenState->Prop}{n:Nat}{St:Nat->ĳ->Prop}(W:WalksS prog w A.in1 it fp wr G n P St)(na:a∉fp)(f:Nat->Str)(hf:∀ i v,P i v->∃ t,v=.str (f i) t)(hb:n+1<scanBound) :
  ∀ (k i:Nat) (s:ĳ),n-i=k->i<=n->St i s->Tr prog w s.heap a (Dp.Yd f i) ->
   (∀ s',Moved (a::wr) G s s'->Tr prog w s'.heap a (Dp.Yd f n)->R (.ok (.ret .none)) s') ->
   codeAny (model prog w) A (.builtin "set.update.loop" ⟨[.ref a,.ref it],[]⟩) R s
 |0,i,s,hk,hi,st,hS,hR=>by
  have e:i=n:=by lia
  subst e;refine codeAny_builtin PyProof.Rows.F.entry_set_update_loop ?_;rw[Around.under_plainId PyProof.Rows.F.plain_set_update_loop];show wpAny _ A.in1 (pyNext (.ref it) >>= _) _ _ _;refine wpAny_bind (W.done s _ _ st fun s' m=>wpAny_pure (hR s' (m.mono fun b q=>qj _ q) ?_));exact hS.at fun o q=>m.heap a o (fun z=>na (W.sub _ z)) q
 |k+1,i,s,hk,hi,st,hS,hR=>by
  refine codeAny_builtin PyProof.Rows.F.entry_set_update_loop ?_;rw[Around.under_plainId PyProof.Rows.F.plain_set_update_loop];show wpAny _ A.in1 (pyNext (.ref it) >>= _) _ _ _;refine wpAny_bind (W.item i s _ _ (by lia) st fun v s1 pv st1 m=>?_);obtain⟨t,rfl⟩:=hf i v pv;have h1:Tr prog w s1.heap a (Dp.Yd f i):=hS.at fun o q=>m.heap a o (fun z=>na (W.sub _ z)) q
  show wpAny _ A.in1 (holding [Value.str (f i) t] (setAdd a (Value.str (f i) t)) >>= _) _ _ _;refine wpAny_bind (wpAny_holding ?_);unfold setAdd;refine wpAny_holding (wpAny_bind ((PySem.strKind prog w).pyHash (k:=f i) (strKind_is _ _ _ _) ?_));have room:(Dp.Yd f i).length+1<scanBound:=by have:=Dp.Gj f i;lia
  refine wpAny_setAddHashed_of (knd:=PySem.strKind prog w) (s:={ s1 with toks:=s1.toks+1 }) (strKind_is _ _ _ _) rfl h1 room fun h2 sb hS2=>?_
  have h3:Tr prog w h2 a (Dp.Yd f (i+1)):=SetOf_congr hS2 (fun y=>(Dp.nQ _ _ _).symm) (Dp.Ew _ _).symm;refine wpAny_pure ⟨plainId_quiet PyProof.Rows.F.plain_set_update_loop _,loopS W na f hf hb k (i+1) _ (by lia) (by lia) (W.frame _ s1 _ _ st1 (Nat.le_succ _) fun b q o e=>?_) h3 fun s' m' hS'=>?_⟩
  ·exact(sb.2 b fun z=>na (z▸q)).trans e
  ·refine hR s' (Moved.trans W.gtrans ((m.mono fun b q=>qj _ q).then_heap (Nat.le_succ _) fun b o q e=>?_) m') hS';exact(sb.2 b fun z=>q (z▸qO)).trans e
end
section
variable {prog:Program}{w:World}{A:Around}{E:ĸ->ĳ->Prop}{s:ĳ}
abbrev Tf (led:Bool):Obj:={ cls:=.type "set",dict:=none,data:=.set #[] 0 (.fresh 0 0 led) }
def jU {l:Addr}{its:Array ĸ}(f:Nat->Str){Q:ĸ->ĳ->Prop}(hh:A.handled=none)(hl:s.heap.IsList l its)(hf:∀ (i:Nat) v,its[i]?=some v->∃ t,v=.str (f i) t)(hb:its.size+1<scanBound)
    (h:∀ (h':Heap) (tk:Nat),Tr prog w h' s.heap.objs.size (Dp.Yd f its.size)->(∀ b o,b<s.heap.objs.size->s.heap.get? b=some o->h'.get? b=some o)->Q (.ref s.heap.objs.size) { s with heap:=h',toks:=tk }) :
    wpAny (model prog w) A (call (.type "set") [.ref l]) Q E s:=by
  have ft:=F.called_set;obtain⟨c,tl,hmro⟩:=ft.mro;have hmade:=ft.made;have hsub:=ft.sub;have h1:=ft.notType;have h2:=ft.canCreate;have hct:=F.typeCall_set_1 (.ref l);refine wpAny_call (codeAny_of_tree ?_);show wpAny _ _ (callAny (.type "set") _) _ _ s;refine wpAny_pure ⟨Code.quiet_builtin _ (by decide +kernel),codeAny_builtin F.entry_type_call ?_⟩;rw[Around.under_plain (weight_type_call_type "set" [Value.ref l] []) rfl]
  repeat (any_goals (first|assumption|wp_step))
  refine codeAny_mono (code_set_new_1 (.ref l) (E:=E) (Q₁:=fun v s1=>∃ led:Bool,v=.ref s.heap.objs.size/\s1={ s with heap:=s.heap.push (Tf led) }) fun led=>⟨led,rfl,rfl⟩) fun r s1 hr=>?_
  cases r with
  |error e=>exact hr
  |ok fl =>
    cases fl with
    |ret v =>
      obtain⟨led,rfl,rfl⟩:=hr;have e0:(s.heap.push (Tf led)).get? s.heap.objs.size=some (Tf led):=qo _ rfl;have hT:Shared.TypeIs { s with heap:=s.heap.push (Tf led) } (.ref s.heap.objs.size) "set":=⟨_,e0,rfl⟩
      have hli:=ft.init.lookup;have hbi:=ft.init.bind (.ref s.heap.objs.size)
      repeat (any_goals (first|assumption|wp_step))
      refine codeAny_mono (codeAny_call_builtin (R:=wants (fun r s2=>r=.none/\∃ h' tk,s2={ s with heap:=h',toks:=tk }/\Tr prog w h' s.heap.objs.size (Dp.Yd f its.size)/\∀ b o,b<s.heap.objs.size->s.heap.get? b=some o->h'.get? b=some o) E) ft.init.plain F.entry_set_init (check_set_init_1 hT ?_)) fun r2 s2 hr2=>?_
      . obtain⟨ol,hol,hcl,nl,hdl⟩:=hl;obtain⟨ocl,odi,oda,osl⟩:=ol;simp only at hcl hdl;subst hcl hdl;have hol2:(s.heap.push (Tf led)).get? l=some { cls:=.type "list",dict:=odi,data:=.seq its nl,slots:=osl }:=qc _ hol;have k1:=F.sub_list_set;have k2:=F.sub_list_frozenset;have k3:(Value.type "list"==Value.type "dict")=false:=by decide
        have hl1:(s.heap.push (Tf led)).IsList l its:=⟨_,hol2,rfl,nl,rfl⟩
        unfold Builtin.«set.__init__» noKeywords Builtin.Frozenset.updateFrom;generalize hPI:pyIter=PI
        wp_walk
        subst hPI;refine wpAny_pyIter_list hl1 (wpAny_bind (wpAny_runValue ?_));have ll:l<s.heap.objs.size:=qA hol;have n1:l≠(s.heap.push (Tf led)).objs.size:=by rw[WQ];exact qZ (Nat.lt_succ_of_lt ll)
        have n2:s.heap.objs.size∉[(s.heap.push (Tf led)).objs.size,l]:=by
          rw[WQ];intro z;rcases qv.mp z with z|z
          . exact qZ (Lg _) z
          . exact Wj ll (qT.mp z)
        refine loopS ((Walks.list (show _=none by simp[hh]) _ l n1 its).toS) n2 f hf hb (its.size-0) 0 _ (by lia) (qH _) ⟨⟨_,qo _ rfl,rfl,rfl⟩,hl1.push _⟩ ?_ fun s' m hS'=>?_
        . exact SetOf_congr ((setObjOf_fresh (knd:=PySem.strKind prog w) led).setOf (qc _ e0) (by unfold scanBound;lia)) (fun _=>rfl) rfl
        . obtain⟨h',g',d',tk',os'⟩:=s';cases(show g'=s.gens from m.gens);cases(show d'=s.drawn from m.drawn);cases(show os'=s.os from m.os);show wpAny _ _ _ _ _ _;refine wpAny_pure (wpAny_pure ⟨rfl,h',tk',rfl,hS',fun b o q e=>?_⟩);refine m.heap b o (fun z=>?_) (qc _ (qc _ e));rcases qv.mp z with z|z
          . exact qZ q z
          . have z':=qT.mp z;rw[WQ]at z';exact qZ (Nat.lt_succ_of_lt q) z'
      . cases r2 with
        |error e=>exact hr2
        |ok fl2 =>
          cases fl2 with
          |ret r =>
            obtain⟨rfl,h',tk,rfl,hS',kp⟩:=hr2
            repeat (any_goals (first|assumption|wp_step))
            exact h _ _ hS' kp
          |_=>exact hr2.elim
    |_=>exact hr.elim
end
def ø (K:Ĳ)(ta:TA):TE:=fun U H Q=>ta U H fun vs H1=>∃ l,∃ zs:List Str,vs=[.ref l]/\ZC K H1 l (zs.map V.str)/\zs.length<=4000/\Q (.int (Dp.Yd (fun i=>zs.getD i Str.empty) zs.length).length) H1
theorem vD:∀ {zs:List Str} {us:List ĸ},Vals (zs.map V.str) us->∀ (i:Nat) v,us[i]?=some v->∃ t,v=.str (zs.getD i Str.empty) t
 |[],_,.nil,i,v,e=>by simp at e
 |z::zs,_,.cons r t,0,v,e=>by obtain⟨t,rfl⟩:=r;simp at e;exact⟨t,e.symm⟩
 |z::zs,_,.cons r t,i+1,v,e=>by obtain⟨t,h⟩:=vD t i v (by simpa using e);exact⟨t,by rw[h];simp⟩
def zrS {X:Cx}{a:Expr}{ta:TA}{p1 p2 pos1 pos2:Pos}(hc:X.calm=true)(hgl:Gl X "len")(hml:X.mg "len"=none)(hgr:Gl X "set")(hmr:X.mg "set"=none)(ha:PA X [a] ta)
  (hs:starEach [a] X.env=[(false,eval a X.env)]:=by rfl)
  (hs3:starEach [.Call (.Name "set" p2) [a] [] pos2] X.env=[(false,eval (.Call (.Name "set" p2) [a] [] pos2) X.env)]:=by rfl) :
  PE X (.Call (.Name "len" p1) [.Call (.Name "set" p2) [a] [] pos2] [] pos1) (ø X.K ta):=by
 intro Z9 s U H Q I h;refine Call_ (Uj I hgl hml boot_len (PyProof.Rows.callWith_builtin1 ?_ (by rw[hs3];rfl) (by rfl)));rw[hs3];show wpAny _ _ (spliced ((false,eval (.Call (.Name "set" p2) [a] [] pos2) X.env)::backTo pos1 [])) _ _ s;refine Calls.spliced_cons (Call_ (Uj I hgr hmr boot_set (PyProof.Rows.callWith_type1 (Z2 (ha pos2 Z9 s U H _ I h) fun us s1 ⟨vs,H1,I1,r1,q1⟩=>?_) hs rfl)));obtain⟨l,zs,e,hx,h4,q⟩:=q1;subst e;obtain⟨u,rfl,ru⟩:=vals1 r1;cases ru;obtain⟨its,rx,px,zx⟩:=I1.list hx;have sz:its.toArray.size=zs.length:=by rw[ql,<- rx.length,qa]
 refine jU (fun i=>zs.getD i Str.empty) (show _=none from I1.ok.hd hc) px.isList (fun i v e=>vD rx i v (by simpa using e)) (by rw[sz];unfold scanBound;lia) fun h' tk hS kp=>Calls.spliced_nil ?_
 rw[sz]at hS;have le:=Dp.Gj (fun i=>zs.getD i Str.empty) zs.length;obtain⟨o,es,ep,t,ho,hex,hd,_,_,_,hf,hn⟩:=hS;refine call_len_set ho hex hd hf (by lia) ?_;rw[hn];exact⟨.int _,H1,I1.kept (t':=tk+1+1) (fun b o q=>kp b o (qA q) q),⟨_,rfl⟩,q⟩
def Bl (H:Hp)(cd:ĸ)(qual:Str):Prop:=∃ c oc vs t u,cd=.ref c/\H c=some (.frz oc u)/\oc.data=.fields vs/\vs[1]?=some (.str qual t)
def zzi (H:Hp)(ps:Array ĸ)(l c:Nat)(qual:Str):Prop:=ps=#[]\/∃ a,ps=#[rawInt l,rawInt c,.ref a]/\Bl H (.ref a) qual
end My
namespace Dp
open PySem PySem.Spec PyProof.Rows L2 My
def isStar:Expr->Bool
 |.Starred _ _=>true
 |_=>false
def V1 {e:Expr}{es:List Expr}{env:Env}(h:isStar e=false):starEach (e::es) env=(false,eval e env)::starEach es env:=by cases e<;>first|rfl|cases h
theorem Jw {pos:Pos}{env:Env}:∀ {es:List Expr},es.all (fun e=>!isStar e)=true->(backTo pos (starEach es env)).any (·.1)=false
 |[],_=>rfl
 |e::es,h=>by rw[Xz,qq]at h;rw[V1 (by simpa using h.1)];show(false||(backTo pos (starEach es env)).any (·.1))=false;rw[Jw h.2];rfl
def TF {e:Expr}{env:Env}(h:isStar e=false):starEach [e] env=[(false,eval e env)]:=V1 h
def Mp {e g:Expr}{env:Env}(h:isStar e=false)(k:isStar g=false):starEach [e,g] env=[(false,eval e env),(false,eval g env)]:=by rw[V1 h,TF k]
def Rt (K:Ĳ)(H:Hp)(a:Addr)(xs:List V):Prop :=(∃ o,H a=some (.frz o (.lst xs)))\/∃ (o:Obj) (its:Array ĸ) (n:Nat),K.lookup a=some o/\o.cls=.type "list"/\o.dict=none/\o.data=.seq its n/\its.size<=sizeLine/\Vals xs its.toList
def bM (K:Ĳ)(a:Addr)(xs:List V):Prop:=∃ (o:Obj) (its:Array ĸ) (n:Nat),K.lookup a=some o/\o.cls=.type "tuple"/\o.data=.seq its n/\its.size<=sizeLine/\Vals xs its.toList
def Rt.sq {K:Ĳ}(h:Rt K H a xs):ZC K H a xs:=h.imp (fun h=>.inr h) id
mutual
inductive Rel (K:Ĳ)(aD:List Addr)(H:Hp):D->V->Prop
 |non:Rel K aD H .non .non
 |bl (b:Bool):Rel K aD H (.bl b) (.bl b)
 |int (i:Int):Rel K aD H (.int i) (.int i)
 |str (x:Str):Rel K aD H (.str x) (.str x)
 |ty (n:String):Rel K aD H (.ty n) (.ty n)
 |tup {a:Addr} {vs:List V} {ds:List D}:H a=some (.tup vs)->zf K aD H ds vs->Rel K aD H (.tup ds) (.ref a)
 |rl {a:Addr} {vs:List V} {ds:List D}:Rt K H a vs->zf K aD H ds vs->Rel K aD H (.rl ds) (.ref a)
 |ref {n:Nat} {a:Addr}:aD[n]?=some a->Rel K aD H (.ref n) (.ref a)
 |exn {c:Str} {a C:Addr} {o:Obj} {u:HO}:H a=some (.frz o u)->o.cls=.ref C->PySem.W.nsIn K mainGlobals c=some (some (.ref C))->Rel K aD H (.exn c) (.ref a)
 |kt {a:Addr} {vs:List V} {ds:List D}:bM K a vs->zf K aD H ds vs->Rel K aD H (.kt ds) (.ref a)
inductive zf (K:Ĳ)(aD:List Addr)(H:Hp):List D->List V->Prop
 |nil:zf K aD H [] []
 |cons {d:D} {v:V} {ds:List D} {vs:List V}:Rel K aD H d v->zf K aD H ds vs->zf K aD H (d::ds) (v::vs)
end
structure Wd (aD:List Addr)(H:Hp)(aD':List Addr)(H':Hp):Prop where
 pre:aD <+: aD'
 keep:∀ b o,b∉aD->H b=some o->H' b=some o
 tup:∀ b xs,H b=some (.tup xs)->H' b=some (.tup xs)
 frz:∀ b o u,H b=some (.frz o u)->H' b=some (.frz o u)
 new:∀ b,b∈aD'->b∉aD->H b=none
def Wd.refl {aD:List Addr}{H:Hp}:Wd aD H aD H:=⟨Pb _,fun _ _ _ h=>h,fun _ _ h=>h,fun _ _ _ h=>h,fun _ h n=>absurd h n⟩
theorem Wd.trans (a:Wd aD H ad1 H1)(b:Wd ad1 H1 ad2 H2):Wd aD H ad2 H2 where
 pre:=a.pre.trans b.pre
 keep:=fun c o hc h=>b.keep c o (fun h1=>by rw[a.new c h1 hc]at h;cases h) (a.keep c o hc h)
 tup:=fun c xs h=>b.tup c xs (a.tup c xs h)
 frz:=fun c o u h=>b.frz c o u (a.frz c o u h)
 new:=fun c h2 hc=>by
  by_cases h1:c∈ad1
  ·exact a.new c h1 hc
  ·have n1:=b.new c h2 h1;cases e:H c with
   |none=>rfl
   |some o=>rw[a.keep c o hc e]at n1;cases n1
def RL {α:Type}{l l':List α}(h:l <+: l'){n:Nat}{a:α}(e:l[n]?=some a):l'[n]?=some a:=by obtain⟨t,rfl⟩:=h;rw[qg (My.V9 e)];exact e
structure Wr (aD:List Addr)(H:Hp)(aD':List Addr)(H':Hp):Prop where
 pre:aD <+: aD'
 tup:∀ b xs,H b=some (.tup xs)->H' b=some (.tup xs)
 frz:∀ b o u,H b=some (.frz o u)->H' b=some (.frz o u)
def Wd.wr (w:Wd aD H aD' H'):Wr aD H aD' H':=⟨w.pre,w.tup,w.frz⟩
def Rt.wr {K:Ĳ}(w:Wr aD H aD' H')(h:Rt K H a xs):Rt K H' a xs:=h.imp (by rintro⟨o,e⟩;exact⟨o,w.frz _ _ _ e⟩) id
mutual
theorem Rel.wr {K:Ĳ}{aD aD':List Addr}{H H':Hp}(w:Wr aD H aD' H'):∀ {d:D} {v:V},Rel K aD H d v->Rel K aD' H' d v
 |_,_,.non=>.non
 |_,_,.bl b=>.bl b
 |_,_,.int i=>.int i
 |_,_,.str x=>.str x
 |_,_,.ty n=>.ty n
 |_,_,.tup h r=>.tup (w.tup _ _ h) (zf.wr w r)
 |_,_,.rl h r=>.rl (h.wr w) (zf.wr w r)
 |_,_,.ref h=>.ref (RL w.pre h)
 |_,_,.exn h e n=>.exn (w.frz _ _ _ h) e n
 |_,_,.kt h r=>.kt h (zf.wr w r)
theorem zf.wr {K:Ĳ}{aD aD':List Addr}{H H':Hp}(w:Wr aD H aD' H'):∀ {ds:List D} {vs:List V},zf K aD H ds vs->zf K aD' H' ds vs
 |_,_,.nil=>.nil
 |_,_,.cons r t=>.cons (Rel.wr w r) (zf.wr w t)
end
def Rel.wd {K:Ĳ}(r:Rel K aD H d v)(w:Wd aD H aD' H'):Rel K aD' H' d v:=Rel.wr w.wr r
def zf.wd {K:Ĳ}(r:zf K aD H ds vs)(w:Wd aD H aD' H'):zf K aD' H' ds vs:=zf.wr w.wr r
section
variable {K:Ĳ}{aD:List Addr}{H:Hp}
theorem zf.length:∀ {ds:List D} {vs:List V},zf K aD H ds vs->ds.length=vs.length
  |_,_,.nil=>rfl
  |_,_,.cons _ t=>congrArg (· + 1) (zf.length t)
theorem zf.get:∀ {ds:List D} {vs:List V} {i:Nat} {d:D},zf K aD H ds vs->ds[i]?=some d->∃ v,vs[i]?=some v/\Rel K aD H d v
 |_,_,_,_,.nil,e=>by simp at e
 |_,_,0,_,.cons r _,e=>by simp at e;subst e;exact⟨_,rfl,r⟩
 |_,_,i+1,d,.cons _ t,e=>by obtain⟨v,h1,h2⟩:=zf.get (i:=i) (d:=d) t (by simpa using e);exact⟨v,by simpa using h1,h2⟩
theorem zf.append:∀ {ds es:List D} {vs us:List V},zf K aD H ds vs->zf K aD H es us->zf K aD H (ds++es) (vs++us)
 |_,_,_,_,.nil,s=>s
 |_,_,_,_,.cons r t,s=>.cons r (zf.append t s)
theorem zf.take:∀ {ds:List D} {vs:List V} (n:Nat),zf K aD H ds vs->zf K aD H (ds.take n) (vs.take n)
 |_,_,0,_=>.nil
 |_,_,_+1,.nil=>.nil
 |_,_,n+1,.cons r t=>.cons r (zf.take n t)
theorem zf.drop:∀ {ds:List D} {vs:List V} (n:Nat),zf K aD H ds vs->zf K aD H (ds.drop n) (vs.drop n)
 |_,_,0,r=>r
 |_,_,_+1,.nil=>.nil
 |_,_,n+1,.cons _ t=>zf.drop n t
theorem zf.set (r:Rel K aD H d v):∀ {ds:List D} {vs:List V} (i:Nat),zf K aD H ds vs->zf K aD H (ds.set i d) (vs.set i v)
 |_,_,_,.nil=>.nil
 |_,_,0,.cons _ t=>.cons r t
 |_,_,i+1,.cons q t=>.cons q (zf.set r i t)
theorem zf.ints:∀ {ns:List Int} {vs:List V},zf K aD H (ns.map D.int) vs->vs=ns.map V.int
 |[],_,.nil=>rfl
 |n::ns,_,.cons r t=>by cases r;rw[zf.ints t];rfl
theorem zf.bls:∀ {ns:List Bool} {vs:List V},zf K aD H (ns.map D.bl) vs->vs=ns.map V.bl
 |[],_,.nil=>rfl
 |n::ns,_,.cons r t=>by cases r;rw[zf.bls t];rfl
theorem zf.mk_ints:∀ (ns:List Int),zf K aD H (ns.map D.int) (ns.map V.int)
 |[]=>.nil
 |n::ns=>.cons (.int n) (zf.mk_ints ns)
end
inductive Zm (K:Ĳ)(aD:List Addr)(H:Hp):List (Str×D)->List (Str×V)->Prop
 |nil:Zm K aD H [] []
 |cons {f:Str} {d:D} {v:V} {fs:List (Str×D)} {vs:List (Str×V)}:Rel K aD H d v->Zm K aD H fs vs->Zm K aD H ((f,d)::fs) ((f,v)::vs)
theorem Zm.wr {K:Ĳ}(w:Wr aD H aD' H'):∀ {fs:List (Str×D)} {vs:List (Str×V)},Zm K aD H fs vs->Zm K aD' H' fs vs
 |_,_,.nil=>.nil
 |_,_,.cons r t=>.cons (Rel.wr w r) (Zm.wr w t)
theorem Zm.look {K:Ĳ}{aD:List Addr}{H:Hp}{f:Str}:∀ {fs:List (Str×D)} {vs:List (Str×V)} {d:D},Zm K aD H fs vs->fs.lookup f=some d->∃ v,vs.lookup f=some v/\Rel K aD H d v
 |_,_,d,.nil,e=>by simp at e
 |_,_,d,@Zm.cons _ _ _ g x v fs vs r t,e=>by
  rw[qu]at e ⊢;cases h:f==g with
  |true=>rw[h]at e;cases e;exact⟨v,rfl,r⟩
  |false=>rw[h]at e;exact Zm.look t e
theorem Zm.put {K:Ĳ}{f:Str}(rd:Rel K aD H d v):∀ {fs:List (Str×D)} {vs:List (Str×V)},Zm K aD H fs vs->Zm K aD H (putD f d fs) (YB f v vs)
 |_,_,.nil=>.cons rd .nil
 |_,_,@Zm.cons _ _ _ g x u fs vs r t=>by
  show Zm K aD H (if g=f then(g,d)::fs else(g,x)::putD f d fs) (if g=f then(g,v)::vs else(g,u)::YB f v vs);by_cases h:g=f
  ·rw[if_pos h,if_pos h];exact .cons rd t
  ·rw[if_neg h,if_neg h];exact .cons r (Zm.put rd t)
theorem Zm.length {K:Ĳ}{aD:List Addr}{H:Hp}:∀ {fs:List (Str×D)} {vs:List (Str×V)},Zm K aD H fs vs->fs.length=vs.length
  |_,_,.nil=>rfl
  |_,_,.cons _ t=>congrArg (· + 1) (Zm.length t)
theorem vB {f:Str}{d:D}{q:Str×D}:∀ {fs:List (Str×D)},q∈putD f d fs->q.1=f\/q∈fs
 |[],h=>by
  have:q=(f,d):=by simpa [putD]using h
  subst this;exact .inl rfl
 |(g,x)::fs,h=>by
  have h:q∈if g=f then(g,d)::fs else(g,x)::putD f d fs:=h
  by_cases e:g=f
  ·rw[if_pos e]at h;rcases qv.mp h with rfl|h
   ·exact .inl e
   ·exact .inr (qj _ h)
  ·rw[if_neg e]at h;rcases qv.mp h with rfl|h
   ·exact .inr (by simp)
   ·exact(vB h).imp id (qj _)
theorem rR {f:Str}{d:D}:∀ {fs:List (Str×D)},fs.lookup f=some d->∃ q∈fs,q.1=f
 |[],e=>by simp at e
 |(g,x)::fs,e=>by
  rw[qu]at e;cases h:f==g with
  |true=>exact⟨(g,x),by simp,(eq_of_beq h).symm⟩
  |false =>rw[h]at e;obtain⟨q,hq,e'⟩:=rR e;exact⟨q,qj _ hq,e'⟩
inductive RelK (K:Ĳ)(aD:List Addr)(H:Hp):List (Str×D)->List (Key×V)->Prop
 |nil:RelK K aD H [] []
 |cons {x:Str} {d:D} {v:V} {fs:List (Str×D)} {vs:List (Key×V)}:Rel K aD H d v->RelK K aD H fs vs->RelK K aD H ((x,d)::fs) ((.inr x,v)::vs)
inductive zV {κ:Type}(K:Ĳ)(aD:List Addr)(H:Hp):List (κ×D)->List (κ×V)->Prop
 |nil:zV K aD H [] []
 |cons {x:κ} {d:D} {v:V} {fs:List (κ×D)} {vs:List (κ×V)}:Rel K aD H d v->zV K aD H fs vs->zV K aD H ((x,d)::fs) ((x,v)::vs)
theorem RelK.wr {K:Ĳ}(w:Wr aD H aD' H'):∀ {fs:List (Str×D)} {vs:List (Key×V)},RelK K aD H fs vs->RelK K aD' H' fs vs
 |_,_,.nil=>.nil
 |_,_,.cons r t=>.cons (Rel.wr w r) (RelK.wr w t)
theorem zV.wr {κ:Type}{K:Ĳ}(w:Wr aD H aD' H'):∀ {fs:List (κ×D)} {vs:List (κ×V)},zV K aD H fs vs->zV K aD' H' fs vs
 |_,_,.nil=>.nil
 |_,_,.cons r t=>.cons (Rel.wr w r) (zV.wr w t)
def Wc (K:Ĳ)(aD:List Addr)(H:Hp)(a:Addr):Cell->Prop
 |.lst ds=>∃ vs,H a=some (.lst vs)/\zf K aD H ds vs
 |.ins c fs=>∃ C dx vs,H a=some (.ins C dx vs)/\Cls K C/\PySem.W.nsIn K mainGlobals c=some (some (.ref C))/\Zm K aD H fs vs/\∀ q∈fs,V2 K C q.1
 |.dk Z8=>∃ vs,H a=some (.dK vs)/\RelK K aD H Z8 vs
 |.dt Z8=>∃ vs,H a=some (.dT vs)/\zV K aD H Z8 vs
 |.dn Z8 ep=>∃ vs,H a=some (.dN vs ep)/\zV K aD H Z8 vs
 | .tab x l c=>∃ ps cd,H a=some (.tbl ps)/\PySem.W.tabIn K x=some (cd,a)/\zzi H ps l c (x++".<locals>."++"<lambda>")
def cL (g:Bl H v q)(w:Wr aD H aD' H'):Bl H' v q :=by obtain⟨c,oc,vs,t,u,e,h,r⟩:=g;exact⟨c,oc,vs,t,u,e,w.frz _ _ _ h,r⟩
class Bs where
 aD:List Addr
 H:Hp
structure zp [B:Bs](K:Ĳ)(aD:List Addr)(H:Hp)(S:Z7):Prop where
 wd:Wd B.aD B.H aD H
 len:aD.length=S.length
 nd:aD.Nodup
 cell:∀ (n:Nat) (a:Addr) (c:Cell),aD[n]?=some a->S[n]?=some c->Wc K aD H a c
structure Zb (K:Ĳ)(aD:List Addr)(H:Hp)(Z:Z1)(U:L2.St):Prop where
 len:Z.length=U.length
 val:∀ (i:Nat) (d:D),Z[i]?=some (some d)->∃ v,U[i]?=some (some v)/\Rel K aD H d v
theorem Zb.wd {K:Ĳ}(h:Zb K aD H Z U)(w:Wd aD H aD' H'):Zb K aD' H' Z U :=⟨h.len,fun i d e=>by obtain⟨v,e',r⟩:=h.val i d e;exact⟨v,e',r.wd w⟩⟩
variable [B:Bs]
section
variable {K:Ĳ}{aD:List Addr}{H:Hp}{S:Z7}
def zp.get (st:zp K aD H S){n:Nat}{c:Cell}(h:S[n]?=some c):∃ a,aD[n]?=some a/\Wc K aD H a c:=by
 have hn:n<aD.length:=by rw[st.len];exact My.V9 h
 exact⟨aD[n],qb hn,st.cell n _ c (qb hn) h⟩
theorem Wc.some (h:Wc K aD H a c):∃ o,H a=some o:=by
 cases c with
 |lst ds=>obtain⟨vs,e,_⟩:=h;exact⟨_,e⟩
 |ins c fs=>obtain⟨C,dx,vs,e,_⟩:=h;exact⟨_,e⟩
 |dk Z8=>obtain⟨vs,e,_⟩:=h;exact⟨_,e⟩
 |dt Z8=>obtain⟨vs,e,_⟩:=h;exact⟨_,e⟩
 |dn Z8 ep=>obtain⟨vs,e,_⟩:=h;exact⟨_,e⟩
 |tab x l c=>obtain⟨ps,cd,e,_⟩:=h;exact⟨_,e⟩
def zp.there (st:zp K aD H S){a:Addr}(h:a∈aD):∃ o,H a=some o:=by
 obtain⟨n,hn,e⟩:=qK.mp h;have e':aD[n]?=some a:=by rw[qb hn,e]
 have hs:n<S.length:=by rw[<- st.len];exact hn
 exact(st.cell n a S[n] e' (qb hs)).some
def zp.fresh (st:zp K aD H S)(h:H l=none):l∉aD:=fun m=>by obtain⟨o,e⟩:=st.there m;rw[h]at e;cases e
theorem Wc.wr (h:Wc K aD H a c)(w:Wr aD H aD' H')(same:H' a=H a):Wc K aD' H' a c:=by
 cases c with
 |lst ds=>obtain⟨vs,e,r⟩:=h;exact⟨vs,same.trans e,zf.wr w r⟩
 |ins c fs=>obtain⟨C,dx,vs,e,c1,c2,r,n⟩:=h;exact⟨C,dx,vs,same.trans e,c1,c2,Zm.wr w r,n⟩
 |dk Z8=>obtain⟨vs,e,r⟩:=h;exact⟨vs,same.trans e,RelK.wr w r⟩
 |dt Z8=>obtain⟨vs,e,r⟩:=h;exact⟨vs,same.trans e,zV.wr w r⟩
 |dn Z8 ep=>obtain⟨vs,e,r⟩:=h;exact⟨vs,same.trans e,zV.wr w r⟩
 |tab x l c=>obtain⟨ps,cd,e,t,g⟩:=h;exact⟨ps,cd,same.trans e,t,g.imp id fun zq28=>by obtain⟨c,e,g⟩:=zq28;exact⟨c,e,cL g w⟩⟩
def Wc.wd (h:Wc K aD H a c)(w:Wd aD H aD' H')(same:H' a=H a):Wc K aD' H' a c:=h.wr w.wr same
def Wd.laid {o:HO}(h:H l=none):Wd aD H aD (upd H l o) :=⟨Pb _,fun b u _ e=>U7 h e,fun b u e=>U7 h e,fun b u w e=>U7 h e,fun _ m n=>absurd m n⟩
def zp.bfree (st:zp K aD H S)(h:H p=none):B.H p=none:=by
 cases e:B.H p with
 |none=>rfl
 |some o =>
  by_cases m:p∈B.aD
  ·obtain⟨u,hu⟩:=st.there (st.wd.pre.subset m);rw[h]at hu;cases hu
  ·rw[st.wd.keep p o m e]at h;cases h
theorem zp.laid (st:zp K aD H S){o:HO}(h:H l=none):zp K aD (upd H l o) S :=
 ⟨st.wd.trans (Wd.laid h),st.len,st.nd,fun n a c e1 e2=>(st.cell n a c e1 e2).wd (Wd.laid h) (by obtain⟨u,e⟩:=(st.cell n a c e1 e2).some;rw[U7 h e,e])⟩
def Wd.newL (st:zp K aD H S){o:HO}(h:H l=none):Wd aD H (aD++[l]) (upd H l o) :=
 ⟨Nq _ _,fun b u _ e=>U7 h e,fun b u e=>U7 h e,fun b u w e=>U7 h e,fun b m n=>by
  rcases qE.mp m with m|m
  ·exact absurd m n
  ·have:b=l:=by simpa using m
   subst this;exact h⟩
theorem zp.newL (st:zp K aD H S)(h:H l=none)(r:zf K aD H ds vs):zp K (aD++[l]) (upd H l (.lst vs)) (S++[.lst ds]) where
 wd:=st.wd.trans (Wd.newL st h)
 len:=by rw[qf,qf,st.len];rfl
 nd:=by
  rw[VF];refine⟨st.nd,by simp,fun a ha b hb e=>?_⟩;have:b=l:=by simpa using hb
  subst this;subst e;exact st.fresh h ha
 cell:=fun n a c e1 e2=>by
  by_cases hn:n<aD.length
  ·rw[qg hn]at e1;rw[qg (by rw[<- st.len];exact hn)]at e2;have ok:=st.cell n a c e1 e2;obtain⟨u,e⟩:=ok.some;exact ok.wd (Wd.newL st h) (by rw[U7 h e,e])
  ·have hn':aD.length<=n:=Rc hn;rw[qe hn']at e1;rw[qe (by rw[<- st.len];exact hn'),<- st.len]at e2;cases hk:n-aD.length with
   |zero =>
    rw[hk]at e1 e2;have e1':l=a:=by simpa using e1
    have e2':Cell.lst ds=c:=by simpa using e2
    subst e1' e2';exact⟨vs,zL,r.wd (Wd.newL st h)⟩
   |succ k=>rw[hk]at e1;simp at e1
def zp.newRef (st:zp K aD H S){l:Addr}{o:HO}:Rel K (aD++[l]) (upd H l o) (.ref S.length) (.ref l):=.ref (by rw[<- st.len,qe (qh _),Yk];rfl)
def Wd.put {n:Nat}{a:Addr}{vs ws:List V}(e:aD[n]?=some a)(h:H a=some (.lst vs)):Wd aD H aD (upd H a (.lst ws)) :=
 ⟨Pb _,fun b u hb q=>by
   have:b≠a:=fun z=>hb (by rw[z];exact qd e)
   rw[zA this];exact q,
  fun b xs q=>by rw[zA (VD q h (by intro z;cases z))];exact q,fun b o u q=>by rw[zA (VD q h (by intro z;cases z))];exact q,fun _ m n=>absurd m n⟩
theorem zp.put (st:zp K aD H S){n:Nat}{a:Addr}{vs:List V}(e:aD[n]?=some a)(h:H a=some (.lst vs))(r:zf K aD H ds ws):zp K aD (upd H a (.lst ws)) (S.set n (.lst ds)) where
 wd:=st.wd.trans (Wd.put e h)
 len:=by rw[Xb];exact st.len
 nd:=st.nd
 cell:=fun m b c e1 e2=>by
  have w:=Wd.put (ws:=ws) e h;by_cases hm:m=n
  ·subst hm;rw[e]at e1;cases e1;rw[qU (by rw[<- st.len];exact My.V9 e)]at e2;cases e2;exact⟨ws,zL,r.wd w⟩
  ·rw[qP (Ne.symm hm)]at e2
   have ne:b≠a:=fun z=>by subst z;have h1:=My.V9 e1;have h2:=My.V9 e;have q1:=(Ud.mp e1).2;have q2:=(Ud.mp e).2;exact hm ((Sx st.nd).mp (q1.trans q2.symm))
   exact(st.cell m b c e1 e2).wd w (zA ne)
def zp.newI (st:zp K aD H S){C:Addr}(h:H x=none)(h2:H dx=none)(hne:dx≠x)(hc:Cls K C)(hn:PySem.W.nsIn K mainGlobals c=some (some (.ref C))) :
  Wd aD H (aD++[x]) (upd (upd H dx (.own x)) x (.ins C dx []))/\zp K (aD++[x]) (upd (upd H dx (.own x)) x (.ins C dx [])) (S++[.ins c []]):=by
 have st1:=st.laid (o:=.own x) h2;have hx:upd H dx (.own x) x=none:=by rw[zA (Ne.symm hne)];exact h
 have w1:Wd aD H aD (upd H dx (.own x)):=Wd.laid h2;have w2:Wd aD (upd H dx (.own x)) (aD++[x]) (upd (upd H dx (.own x)) x (.ins C dx [])):=Wd.newL st1 hx;refine⟨w1.trans w2,st.wd.trans (w1.trans w2),?_,?_,fun n a c' e1 e2=>?_⟩
 ·rw[qf,qf,st.len];rfl
 ·rw[VF];refine⟨st.nd,by simp,fun a ha b hb e=>?_⟩;have:b=x:=by simpa using hb
  subst this;subst e;exact st.fresh h ha
 ·by_cases hn':n<aD.length
  ·rw[qg hn']at e1;rw[qg (by rw[<- st.len];exact hn')]at e2;have ok:=st1.cell n a c' e1 e2;obtain⟨u,e⟩:=ok.some;exact ok.wd w2 (by rw[U7 hx e,e])
  ·have hn':aD.length<=n:=Rc hn';rw[qe hn']at e1;rw[qe (by rw[<- st.len];exact hn'),<- st.len]at e2;cases hk:n-aD.length with
   |zero =>
    rw[hk]at e1 e2;have e1':x=a:=by simpa using e1
    have e2':Cell.ins c []=c':=by simpa using e2
    subst e1' e2';exact⟨C,dx,[],zL,hc,hn,.nil,fun q hq=>by cases hq⟩
   |succ k=>rw[hk]at e1;simp at e1
def Wd.putI {n:Nat}{a C dx C' dx':Addr}{vs ws:List (Str×V)}(e:aD[n]?=some a)(h:H a=some (.ins C dx vs)):Wd aD H aD (upd H a (.ins C' dx' ws)) :=
 ⟨Pb _,fun b u hb q=>by
   have:b≠a:=fun z=>hb (by rw[z];exact qd e)
   rw[zA this];exact q,
  fun b xs q=>by rw[zA (VD q h (by intro z;cases z))];exact q,fun b o u q=>by rw[zA (VD q h (by intro z;cases z))];exact q,fun _ m n=>absurd m n⟩
theorem zp.putI (st:zp K aD H S){n:Nat}{a C dx:Addr}{vs:List (Str×V)}{fs:List (Str×D)}(e:aD[n]?=some a)(h:H a=some (.ins C dx vs))(hc:Cls K C)(hn:PySem.W.nsIn K mainGlobals c=some (some (.ref C)))(rf:Zm K aD H fs vs)(hna:∀ q∈fs,V2 K C q.1)(hf:V2 K C f)(r:Rel K aD H d v) :
  zp K aD (upd H a (.ins C dx (YB f v vs))) (S.set n (.ins c (putD f d fs))) where
 wd:=st.wd.trans (Wd.putI e h)
 len:=by rw[Xb];exact st.len
 nd:=st.nd
 cell:=fun m b c' e1 e2=>by
  have w:Wd aD H aD (upd H a (.ins C dx (YB f v vs))):=Wd.putI e h;by_cases hm:m=n
  ·subst hm;rw[e]at e1;cases e1;rw[qU (by rw[<- st.len];exact My.V9 e)]at e2;cases e2;refine⟨C,dx,_,zL,hc,hn,Zm.wr w.wr (Zm.put r rf),fun q hq=>?_⟩;rcases vB hq with h1|h1
   ·rw[h1];exact hf
   ·exact hna q h1
  ·rw[qP (Ne.symm hm)]at e2
   have ne:b≠a:=fun z=>by subst z;have q1:=(Ud.mp e1).2;have q2:=(Ud.mp e).2;exact hm ((Sx st.nd).mp (q1.trans q2.symm))
   exact(st.cell m b c' e1 e2).wd w (zA ne)
def Wd.hid {o:HO}(w:Wd aD H aD' H')(hp:H p=none):Wd aD H aD' (upd H' p o) :=⟨w.pre,fun b u hb q=>by rw[zA (Ul q hp)];exact w.keep b u hb q,fun b u q=>by rw[zA (Ul q hp)];exact w.tup b u q,fun b u v q=>by rw[zA (Ul q hp)];exact w.frz b u v q,w.new⟩
def Wr.hid {vs ws:List V}(h:H p=some (.lst vs)):Wr aD H aD (upd H p (.lst ws)) :=⟨Pb _,fun b xs q=>by rw[zA (VD q h (by intro z;cases z))];exact q,fun b o u q=>by rw[zA (VD q h (by intro z;cases z))];exact q⟩
theorem zp.hid (st:zp K aD H S){vs ws:List V}(h:H p=some (.lst vs))(hp:p∉aD)(hb:B.H p=none):zp K aD (upd H p (.lst ws)) S :=⟨st.wd.hid hb,st.len,st.nd,fun n a c e1 e2=>(st.cell n a c e1 e2).wr (Wr.hid h) (zA fun z=>hp (by rw[<- z];exact qd e1))⟩
def Wd.add (w:Wd aD H aD' H')(hp:H p=none):Wd aD H (aD'++[p]) H' :=
 ⟨w.pre.trans (Nq _ _),w.keep,w.tup,w.frz,fun b m n=>by
  rcases qE.mp m with m|m
  ·exact w.new b m n
  ·have:b=p:=by simpa using m
   subst this;exact hp⟩
theorem zp.add (st:zp K aD H S){vs:List V}(h:H p=some (.lst vs))(hp:p∉aD)(r:zf K aD H ds vs)(hb:B.H p=none):zp K (aD++[p]) H (S++[.lst ds]) where
 wd:=st.wd.add hb
 len:=by rw[qf,qf,st.len];rfl
 nd:=by
  rw[VF];refine⟨st.nd,by simp,fun a ha b hb e=>?_⟩;have:b=p:=by simpa using hb
  subst this;subst e;exact hp ha
 cell:=fun n a c e1 e2=>by
  have w:Wr aD H (aD++[p]) H:=⟨Nq _ _,fun _ _ q=>q,fun _ _ _ q=>q⟩
  by_cases hn:n<aD.length
  ·rw[qg hn]at e1;rw[qg (by rw[<- st.len];exact hn)]at e2;exact(st.cell n a c e1 e2).wr w rfl
  ·have hn':aD.length<=n:=Rc hn;rw[qe hn']at e1;rw[qe (by rw[<- st.len];exact hn'),<- st.len]at e2;cases hk:n-aD.length with
   |zero =>
    rw[hk]at e1 e2;have e1':p=a:=by simpa using e1
    have e2':Cell.lst ds=c:=by simpa using e2
    subst e1' e2';exact⟨vs,h,zf.wr w r⟩
   |succ k=>rw[hk]at e1;simp at e1
theorem Lst.sq (st:zp K aD H S)(h:Lst S x xs)(r:Rel K aD H x v):∃ a vs,v=.ref a/\ZC K H a vs/\zf K aD H xs vs:=by
 rcases h with rfl|⟨n,rfl,h⟩
 ·cases r with
  |rl h r=>exact⟨_,_,rfl,h.sq,r⟩
 ·cases r with
  |ref e =>obtain⟨vs,e2,r⟩:=st.cell n _ _ e h;exact⟨_,vs,rfl,ZC.of e2,r⟩
theorem Qw.sq (st:zp K aD H S)(h:Qw S x xs)(r:Rel K aD H x v):∃ a vs,v=.ref a/\(ZC K H a vs\/ZP K H a vs)/\zf K aD H xs vs:=by
 rcases h with rfl|h
 ·cases r with
  |tup h r=>exact⟨_,_,rfl,.inr (ZP.of h),r⟩
 ·obtain⟨a,vs,e,s,r⟩:=Lst.sq st h r;exact⟨a,vs,e,.inl s,r⟩
end
omit B in
def ZW {a b c d:Type}{p1 p2 p3 p4:a->b->c->d->Prop}{R:Prop}(h:∃ (x:a) (y:b) (z:c) (w:d),p1 x y z w/\p2 x y z w/\p3 x y z w/\p4 x y z w)(f:∀ (x:a) (y:b) (z:c) (w:d),p1 x y z w->p2 x y z w->p3 x y z w->p4 x y z w->R):R :=Exists.elim h fun x h=>Exists.elim h fun y h=>Exists.elim h fun z h=>Exists.elim h fun w h=>f x y z w h.1 h.2.1 h.2.2.1 h.2.2.2
def KK (K:Ĳ)(aD:List Addr)(H:Hp)(Q0:DK)(Q:VK):Prop:=∀ d S' v H' aD',Q0 d S'->Wd aD H aD' H'->zp K aD' H' S'->Rel K aD' H' d v->Q v H'
def KK.wd {K:Ĳ}(k:KK K aD H Q0 Q)(w:Wd aD H aD' H'):KK K aD' H' Q0 Q:=fun d S' v H' aD' q w'=>k d S' v H' aD' q (w.trans w')
def up (K:Ĳ)(t:DE):TE:=fun U H Q=>∃ aD Z S Q0,zp K aD H S/\Zb K aD H Z U/\t Z S Q0/\KK K aD H Q0 Q
def Oq (K:Ĳ)(t:DT):TT:=fun U H Q=>∃ aD Z S Q0,zp K aD H S/\Zb K aD H Z U/\t Z S Q0/\∀ b S' H' aD',Q0 b S'->Wd aD H aD' H'->zp K aD' H' S'->Q b H'
def ν (K:Ĳ)(t:DA):TA:=fun U H Q=>∃ aD Z S Q0,zp K aD H S/\Zb K aD H Z U/\t Z S Q0/\∀ ds S' vs H' aD',Q0 ds S'->Wd aD H aD' H'->zp K aD' H' S'->zf K aD' H' ds vs->Q vs H'
def zp.base {K:Ĳ}(st:zp K aD H S):@zp ⟨aD,H⟩ K aD H S:=@zp.mk ⟨aD,H⟩ _ _ _ _ Wd.refl st.len st.nd st.cell
def zp.back {K:Ĳ}{aD':List Addr}{H':Hp}{S':Z7}(st:zp K aD H S)(st':@zp ⟨aD,H⟩ K aD' H' S'):zp K aD' H' S' :=⟨st.wd.trans (@zp.wd ⟨aD,H⟩ _ _ _ _ st'),@zp.len ⟨aD,H⟩ _ _ _ _ st',@zp.nd ⟨aD,H⟩ _ _ _ _ st',@zp.cell ⟨aD,H⟩ _ _ _ _ st'⟩
def KK.base {K:Ĳ}(st:zp K aD H S)(k:KK K aD H Q0 Q):@KK ⟨aD,H⟩ K aD H Q0 Q:=fun d S' v H' aD' q w st' r=>k d S' v H' aD' q w (st.back st') r
def Xv (K:Ĳ)(f:ZX):Sp:=fun vs H Q _=>∃ aD S ds Q0,@zp ⟨aD,H⟩ K aD H S/\zf K aD H ds vs/\f ds S Q0/\@KK ⟨aD,H⟩ K aD H Q0 Q
structure JM (K:Ĳ)(aD:List Addr)(H:Hp)(E0:Mj)(E:Ends):Prop where
 nx:∀ Z S U H' aD',E0.nx Z S->Wd aD H aD' H'->zp K aD' H' S->Zb K aD' H' Z U->E.nx U H'
 rt:KK K aD H E0.rt E.rt
 bk:∀ Z S U H' aD',E0.bk Z S->Wd aD H aD' H'->zp K aD' H' S->Zb K aD' H' Z U->E.bk U H'
 ct:∀ Z S U H' aD',E0.ct Z S->Wd aD H aD' H'->zp K aD' H' S->Zb K aD' H' Z U->E.ct U H'
theorem JM.wd {K:Ĳ}{E0:Mj}(k:JM K aD H E0 E)(w:Wd aD H aD' H'):JM K aD' H' E0 E :=⟨fun Z S U H' aD' q w'=>k.nx Z S U H' aD' q (w.trans w'),k.rt.wd w,fun Z S U H' aD' q w'=>k.bk Z S U H' aD' q (w.trans w'),fun Z S U H' aD' q w'=>k.ct Z S U H' aD' q (w.trans w')⟩
def lO (K:Ĳ)(t:DS):TS:=fun E U H=>∃ aD Z S E0,zp K aD H S/\Zb K aD H Z U/\t E0 Z S/\JM K aD H E0 E
@[irreducible] def PD (X:Cx)(e:Expr)(t:DE):Prop:=PE X e (up X.K t)
@[irreducible] def YG (X:Cx)(e:Expr)(t:DT):Prop:=PT X e (Oq X.K t)
@[irreducible] def Uh (X:Cx)(e:Expr)(t:DT):Prop:=PW X e (Oq X.K t)
@[irreducible] def PAD (X:Cx)(es:List Expr)(t:DA):Prop:=PA X es (ν X.K t)
@[irreducible] def Zr (X:Cx)(st:Stmt)(t:DS):Prop:=PS X st (lO X.K t)
@[irreducible] def Wz (X:Cx)(st:List Stmt)(t:DS):Prop:=XQ X st (lO X.K t)
def zqA {e:Expr}{t t':TE}(h:PE X e t)(m:∀ U H Q,t' U H Q->t U H Q):PE X e t':=fun Z9 s U H Q I q=>h Z9 s U H Q I (m U H Q q)
def O9 {e:Expr}{t t':TT}(h:PT X e t)(m:∀ U H Q,t' U H Q->t U H Q):PT X e t':=fun Z9 s U H Q I q=>h Z9 s U H Q I (m U H Q q)
def p7 {e:Expr}{t t':TT}(h:PW X e t)(m:∀ U H Q,t' U H Q->t U H Q):PW X e t':=fun wh Z9 s U H Q I q=>h wh Z9 s U H Q I (m U H Q q)
def mY {e:List Expr}{t t':TA}(h:PA X e t)(m:∀ U H Q,t' U H Q->t U H Q):PA X e t':=fun pos Z9 s U H Q I q=>h pos Z9 s U H Q I (m U H Q q)
def Yb {st:Stmt}{t t':TS}(h:PS X st t)(m:∀ D U H,t' D U H->t D U H):PS X st t':=fun Z9 s U H D I q=>h Z9 s U H D I (m D U H q)
def pU {st:List Stmt}{t t':TS}(h:XQ X st t)(m:∀ D U H,t' D U H->t D U H):XQ X st t':=fun Z9 s U H D I q=>h Z9 s U H D I (m D U H q)
section
variable {X:Cx}{a b c:Expr}{ta tb tc:DE}{pos:Pos}
def zW {e:Expr}{t:TE}{d:DE}(h:PE X e t)(m:∀ U H Q,up X.K d U H Q->t U H Q):PD X e d:=by with_unfolding_all exact(zqA h m)
def ztp {e:Expr}{i:Nat}(h:PE X e (vU i)):PD X e (Yx i):=by with_unfolding_all exact(zW h fun U H Q zq29=>by obtain⟨aD,Z,S,Q0,st,rh,⟨d,e,q⟩,k⟩:=zq29;obtain⟨v,ev,r⟩:=rh.val i d e;exact⟨v,ev,k d S v H aD q Wd.refl st r⟩)
def RK {e:Expr}{v:V}{d:D}(h:PE X e (tC v))(r:∀ aD H,Rel X.K aD H d v):PD X e (dC d):=by with_unfolding_all exact(zW h fun U H Q hh=>ZW hh fun aD Z S Q0 st rh q k=>k d S v H aD q Wd.refl st (r _ _))
def ztK {i j}:PD X (.Constant (.int i) j pos) (dC (.int i)):=by with_unfolding_all exact(RK Gp fun _ _=>.int i)
def Ē {b j}:PD X (.Constant (.bool b) j pos) (dC (.bl b)):=by with_unfolding_all exact(RK ju fun _ _=>.bl b)
def zv1 {j}:PD X (.Constant .none j pos) (dC .non):=by with_unfolding_all exact(RK ztC fun _ _=>.non)
def yI {x j}:PD X (.Constant (.str x) j pos) (dC (.str x)):=by with_unfolding_all exact(RK zvL fun _ _=>.str x)
def zx0 {T:String}(hg:Gl X x)(hm:X.mg x=none)(hv:bootBuiltins x=some (.type T))(hn:autoParam (x≠"__name__") zU)(hd:autoParam ((x==("__debug__":Str))=false) zU):PD X (.Name x pos) (dC (.ty T)):=by with_unfolding_all exact(RK (jo hg hm hv hn hd) fun _ _=>.ty T)
def Ϛ {n:Int}(hg:Gl X x)(hm:∃ t,X.mg x=some (.int n t))(hd:autoParam ((x==("__debug__":Str))=false) zU):PD X (.Name x pos) (dC (.int n)):=by with_unfolding_all exact(RK (zrB hg hm hd) fun _ _=>.int n)
def ć {z:Str}(hg:Gl X x)(hm:∃ t,X.mg x=some (.str z t))(hd:autoParam ((x==("__debug__":Str))=false) zU):PD X (.Name x pos) (dC (.str z)):=by with_unfolding_all exact(RK (by obtain⟨t,hm⟩:=hm;exact oK (v:=.str z) hg hm ⟨t,rfl⟩ hd) fun _ _=>.str z)
def zqZ {i j:Int}{m n:Nat}{p1 p2:Pos}(c:Int)(h:i ^ j.toNat=c)(h0:0<=j/\j<=1000000/\i.natAbs<2 ^ 64):PD X (.BinOp (.Constant (.int i) m p1) .Pow (.Constant (.int j) n p2) pos) (dC (.int c)):=by with_unfolding_all exact(RK (jF c h h0) fun _ _=>.int c)
def OD (K:Ĳ)(r':Zx)(r:R2):Prop:=∀ aD H S x y v u Q0 Q,zp K aD H S->Rel K aD H x v->Rel K aD H y u->r' x y S Q0->KK K aD H Q0 Q->r v u H Q
def IK {K:Ĳ}(o:OD K r' r){U:L2.St}{H:Hp}{Q:VK}(h:up K (Z6 r' ta tb) U H Q):KD r (up K ta) (up K tb) U H Q:=by obtain⟨aD,Z,S,Q0,st,rh,q,k⟩:=h;refine⟨aD,Z,S,_,st,rh,q,fun x S1 v H1 ad1 q1 w1 st1 r1=>?_⟩;refine⟨ad1,Z,S1,_,st1,rh.wd w1,q1,fun y S2 u H2 ad2 q2 w2 st2 r2=>?_⟩;exact o ad2 H2 S2 x y v u Q0 Q st2 (r1.wd w2) r2 q2 (k.wd (w1.trans w2))
def R9 {op:Operator}(ho:ZQ X (binaryOp op) r)(o:OD X.K r' r)(ha:PD X a ta)(hb:PD X b tb):PD X (.BinOp a op b pos) (Z6 r' ta tb):=by with_unfolding_all exact(zW (vR ho ha hb) fun _ _ _=>IK o)
def Ot {K:Ĳ}{C C':Int->Int->Prop}{g:Int->Int->D}{g':Int->Int->V}(hc:∀ i j,C i j->C' i j)(hg:∀ aD H i j,Rel K aD H (g i j) (g' i j)):OD K (oI C g) (rI C' g'):=fun aD H S x y v u Q0 Q st rx ry zq30 k=>by obtain⟨i,j,ex,ey,c,q⟩:=zq30;subst ex ey;cases rx;cases ry;exact⟨i,j,rfl,rfl,hc i j c,k _ S _ H aD q Wd.refl st (hg aD H i j)⟩
def KY {K:Ĳ}{g:Int->Int->D}{g':Int->Int->V}(hg:∀ aD H i j,Rel K aD H (g i j) (g' i j)):OD K (N8 g) (Vn g'):=fun aD H S x y v u Q0 Q st rx ry zq31 k=>by obtain⟨i,j,ex,ey,q⟩:=zq31;subst ex ey;cases rx;cases ry;exact⟨i,j,rfl,rfl,k _ S _ H aD q Wd.refl st (hg aD H i j)⟩
def oW {i:Int}(h:i.natAbs<2 ^ 64):-(2 ^ 64)<i/\i<2 ^ 64:=⟨by lia,by lia⟩
def zwH (i j:Int):Prop:=YQ i j
def Į:ZQ X (binaryOp .Mult) (rI zwH fun i j=>.int (i*j)):=Rf fun i j _ _ _ _ _ hc q=>by
 rcases hc with h|h|h
 ·exact mul_int q (IntMulOk.of_bits (vo h.1) (vo h.2))
 ·exact mul_int q (HD.ok (.inl (oW h)))
 ·exact mul_int q (HD.ok (.inr (oW h)))
def ztt (ha:PD X a ta)(hb:PD X b tb):PD X (.BinOp a .Sub b pos) (Z6 Zh ta tb):=by with_unfolding_all exact(R9 gD (KY fun _ _ i j=>.int (i-j)) ha hb)
def Ŋ {z:Str}{n:Int}(hz:z.length<=1000)(h0:-1000<=n)(h1:n<=1000):MulOk z n:=by
 refine⟨?_,fun _ _=>?_,fun h _=>?_⟩
 ·rw[decide_eq_false (by lia),decide_eq_false (by lia)];rfl
 ·have:(1000:Int)<=(2 ^ 63-1)/n\/n<1:=by
   rcases Int.lt_or_le n 1 with g|g
   ·exact .inr g
   ·exact .inl ((Int.le_ediv_iff_mul_le (by lia)).mpr (by lia))
  lia
 ·have:z.length*n.toNat<=1000*1000:=Lw hz (by lia);have hs:z.length*n.toNat<=sizeLine:=qW this (by decide)
  first
   |exact decide_eq_false (by lia)
   |(unfold tooLong;exact decide_eq_false (by lia))
   |simp[tooLong];lia
def Ž:ZQ X (binaryOp .Mult) (fun x y H Q=>∃ z n,x=.str z/\y=.int n/\MulOk z n/\Q (.str (Txt.mul z n)) H):=by intro Z9 s U H x y v u Q I rx ry h;obtain⟨z,n,rfl,rfl,ok,q⟩:=h;obtain⟨t,rfl⟩:=rx;obtain⟨t',rfl⟩:=ry;exact SB.mul ok fun t' k=>⟨.str (Txt.mul z n),H,I.tok _,⟨_,rfl⟩,q⟩
omit B in
def oM (h:Hg i):Builtin.Int.intBits i<=2 ^ 20:=by unfold Hg at h;exact intBits_le h
omit B in
def zqx (h:Builtin.Int.intBits i<=2 ^ 20):Hg i:=by unfold Hg;exact qF (natAbs_lt_pow_bits i) (Nat.pow_le_pow_right (by decide) h)
def zrA:ZQ X (binaryOp .Mult) (rI (fun i j=>Hg i/\Hg j) fun i j=>.int (i*j)):=Rf fun i j _ _ _ _ _ hc q=>mul_int q (IntMulOk.of_bits (oM hc.1) (oM hc.2))
def Ϟ (ha:PD X a ta)(hb:PD X b tb):PD X (.BinOp a .Mult b pos) (Z6 YZ ta tb):=by with_unfolding_all exact(R9 (Į.or (Ž.or zrA)) (fun aD H S x y v u Q0 Q st rx ry h k=>by
 rcases h with h|⟨z,n,rfl,rfl,hz,h0,h1,q⟩|h
 ·exact .inl (Ot (fun _ _ h=>h) (fun _ _ i j=>.int (i*j)) aD H S x y v u Q0 Q st rx ry h k)
 ·cases rx;cases ry;exact .inr (.inl ⟨z,n,rfl,rfl,Ŋ hz h0 h1,k _ S _ H aD q Wd.refl st (.str _)⟩)
 ·exact .inr (.inr (Ot (fun _ _ h=>h) (fun _ _ i j=>.int (i*j)) aD H S x y v u Q0 Q st rx ry h k))) ha hb)
def zvD (ha:PD X a ta)(hb:PD X b tb):PD X (.BinOp a .FloorDiv b pos) (Z6 oDiv ta tb):=by with_unfolding_all exact(R9 zpG (Ot (fun _ _ h=>h) fun _ _ i j=>.int (i.fdiv j)) ha hb)
def je (ha:PD X a ta)(hb:PD X b tb):PD X (.BinOp a .Mod b pos) (Z6 oMod ta tb):=by with_unfolding_all exact(R9 û (Ot (fun _ _ h=>h) fun _ _ i j=>.int (i.fmod j)) ha hb)
def Uc {n:Nat}(h:n<=big):n<=sizeLine:=qW h (by decide)
def Nv {n:Nat}(h:n<big):n<sizeLine:=qF h (by decide)
def Hx {K:Ĳ}(st:zp K aD H S)(k:KK K aD H Q0 Q)(r:zf K aD H ds vs)(q:Q0 (.ref S.length) (S++[.lst ds]))(l:Addr)(h:H l=none):Q (.ref l) (upd H l (.lst vs)) :=k _ _ _ _ _ q (Wd.newL st h) (st.newL h r) st.newRef
def Bo {K:Ĳ}(st:zp K aD H S)(k:KK K aD H Q0 Q)(r:zf K aD H ds vs)(q:Q0 (.tup ds) S)(l:Addr)(h:H l=none):Q (.ref l) (upd H l (.tup vs)) :=k _ _ _ _ _ q (Wd.laid h) (st.laid h) (.tup zL (r.wd (Wd.laid h)))
def ztV (ha:PD X a ta)(hb:PD X b tb):PD X (.BinOp a .Add b pos) (Z6 Zo ta tb):=by with_unfolding_all exact(R9 (zto.or ((Ł rfl).or ((Ϸ rfl).or zlF))) (fun aD H S x y v u Q0 Q st rx ry h k=>by
  rcases h with⟨i,j,rfl,rfl,q⟩|⟨xs,ys,rfl,rfl,hz,q⟩|⟨xs,ys,hx,hy,hz,q⟩|⟨i,j,rfl,rfl,hz,q⟩
  ·cases rx;cases ry;exact .inl ⟨i,j,rfl,rfl,k _ S _ H aD q Wd.refl st (.int _)⟩
  ·cases rx with
   |tup h1 r1 =>
    cases ry with
    |tup h2 r2 =>
     have l1:=r1.length;have l2:=r2.length;refine .inr (.inl ⟨_,_,_,_,rfl,rfl,ZP.of h1,ZP.of h2,by rw[<- l1,<- l2];exact Uc hz,fun e=>?_,fun _ e=>?_,fun _ _ p hp=>Bo st k (r1.append r2) q p hp⟩)
     ·have e':xs=[]:=Cm.mp (by rw[l1,e];rfl);subst e';exact k _ S _ H aD q Wd.refl st (.tup h2 r2)
     ·have e':ys=[]:=Cm.mp (by rw[l2,e];rfl);subst e';rw[qY]at q;exact k _ S _ H aD q Wd.refl st (.tup h1 r1)
  ·obtain⟨a1,vs1,rfl,s1,r1⟩:=hx.sq st rx;obtain⟨a2,vs2,rfl,s2,r2⟩:=hy.sq st ry;exact .inr (.inr (.inl ⟨_,_,_,_,rfl,rfl,s1,s2,by rw[<- r1.length,<- r2.length];exact Uc hz,fun p hp=>Hx st k (r1.append r2) q p hp⟩))
  ·cases rx;cases ry;exact .inr (.inr (.inr ⟨i,j,rfl,rfl,Uc hz,k _ S _ H aD q Wd.refl st (.str _)⟩))) ha hb)
def dG (ha:PD X a ta):PD X (.UnaryOp .USub a pos) (Vc Vd ta):=by with_unfolding_all exact(zW (ş cN ha) fun U H Q hh=>ZW hh fun aD Z S Q0 st rh q k=>by refine⟨aD,Z,S,_,st,rh,q,fun x S1 v H1 ad1 q1 w1 st1 r1=>?_⟩;obtain⟨i,rfl,q1⟩:=q1;cases r1;exact⟨i,rfl,k _ _ _ _ _ q1 w1 st1 (.int _)⟩)
def OC (X:Cx)(op:CmpOp)(r':Zx):Prop:=∃ r,ZQ X (compareOp op) r/\OD X.K r' r
def zx1:OC X .Lt oLt:=⟨_,zwT,KY fun _ _ _ _=>.bl _⟩
def zxq:OC X .LtE oLe:=⟨_,jg,KY fun _ _ _ _=>.bl _⟩
def zwk:OC X .Gt XS:=⟨_,zxD,KY fun _ _ _ _=>.bl _⟩
def Ş:OC X .GtE JD:=⟨_,ύ,KY fun _ _ _ _=>.bl _⟩
mutual
def YC:D->PyData
 |.non=>.none
 |.bl b=>.bool b
 |.int i=>.int i
 |.str x=>.str x
 |.tup xs=>.tuple (z9 xs)
 |.ref _=>.none
 |.ty _=>.none
 |.rl _=>.none
 |.exn _=>.none
 |.kt _=>.none
def z9:List D->List PyData
 |[]=>[]
 |x::xs=>YC x::z9 xs
end
section
variable {Z9:List (Addr×Obj)}{U:L2.St}{H:Hp}{s:ĳ}{aD:List Addr}
def K1 (I:Inv X Z9 U H s)(k:Nat)(h1:∀ d v u,fl k d=true->Rel X.K aD H d v->RelV v u->∃ as,Reads s.heap u (YC d) as):∀ ds vs us,ds.all (fl k)=true->zf X.K aD H ds vs->Vals vs us->∃ as,ReadsAll s.heap us (z9 ds) as:=by
 intro ds
 induction ds with
 |nil=>intro vs us _ r rv;cases r;cases rv;exact⟨_,.nil⟩
 |cons d ds ih =>
  intro vs us hf r rv;rw[Xz,qq]at hf;cases r with
  |cons r t =>
   cases rv with
   |cons q qt =>obtain⟨as,ra⟩:=h1 d _ _ hf.1 r q;obtain⟨bs,rb⟩:=ih _ _ hf.2 t qt;exact⟨_,.cons ra rb⟩
def R3 (I:Inv X Z9 U H s):∀ (k:Nat) (d:D) (v:V) (u:ĸ),fl k d=true->Rel X.K aD H d v->RelV v u->∃ as,Reads s.heap u (YC d) as:=by
 intro k
 induction k with
 |zero =>
  intro d v u hf r q;cases r with
  |non=>cases q;exact⟨_,.none⟩
  |bl b=>cases q;exact⟨_,.bool b⟩
  |int i=>obtain⟨t,rfl⟩:=q;exact⟨_,.int i t⟩
  |str x=>obtain⟨t,rfl⟩:=q;exact⟨_,.str x t⟩
  |ty n=>cases hf
  |tup h r=>cases hf
  |rl h r=>cases hf
  |kt h r=>cases hf
  |ref h=>cases hf
  |exn _ _ _=>cases hf
 |succ k ih =>
  intro d v u hf r q;cases r with
  |non=>cases q;exact⟨_,.none⟩
  |bl b=>cases q;exact⟨_,.bool b⟩
  |int i=>obtain⟨t,rfl⟩:=q;exact⟨_,.int i t⟩
  |str x=>obtain⟨t,rfl⟩:=q;exact⟨_,.str x t⟩
  |ty n=>cases hf
  |tup h r =>cases q;obtain⟨its,rv,ht,hz⟩:=I.tuple (ZP.of h);obtain⟨o,ho,hc,n,hd⟩:=ht;obtain⟨as,ra⟩:=K1 I k ih _ _ _ hf r rv;exact⟨_,.tuple ho hc hd (by simpa using ra)⟩
  |rl h r=>cases hf
  |kt h r=>cases hf
  |ref h=>cases hf
  |exn _ _ _=>cases hf
end
def JC:∀ (k:Nat) (d:D),fl k d=true->(YC d).canLay0=true/\(YC d).depth<=k:=by
 have all:∀ k,(∀ d,fl k d=true->(YC d).canLay0=true/\(YC d).depth<=k)->∀ ds:List D,ds.all (fl k)=true->PyData.canLayAll0 (z9 ds)=true/\PyData.depthAll (z9 ds)<=k:=by
  intro k h ds
  induction ds with
  |nil=>intro _;exact⟨rfl,qH _⟩
  |cons d ds ih =>
   intro hf;rw[Xz,qq]at hf;obtain⟨a1,a2⟩:=h d hf.1;obtain⟨b1,b2⟩:=ih hf.2;refine⟨?_,?_⟩
   ·show(PyData.canLay0 (YC d)&&PyData.canLayAll0 (z9 ds))=true;rw[a1,b1];rfl
   ·show max (PyData.depth (YC d)) (PyData.depthAll (z9 ds))<=k;exact Nat.max_le.mpr ⟨a2,b2⟩
 intro k
 induction k with
 |zero =>
  intro d hf;cases d with
  |non=>exact⟨rfl,qH _⟩
  |bl b=>exact⟨rfl,qH _⟩
  |int i=>exact⟨rfl,qH _⟩
  |str x=>exact⟨hf,qH _⟩
  |tup xs=>cases hf
  |ref n=>cases hf
  |exn _=>cases hf
  |ty n=>cases hf
  |rl xs=>cases hf
  |kt xs=>cases hf
 |succ k ih =>
  intro d hf;cases d with
  |non=>exact⟨rfl,qH _⟩
  |bl b=>exact⟨rfl,qH _⟩
  |int i=>exact⟨rfl,qH _⟩
  |str x=>exact⟨hf,qH _⟩
  |tup xs =>obtain⟨h1,h2⟩:=all k ih xs hf;refine⟨h1,?_⟩;show PyData.depthAll (z9 xs)+1<=k+1;lia
  |ref n=>cases hf
  |exn _=>cases hf
  |ty n=>cases hf
  |rl xs=>cases hf
  |kt xs=>cases hf
def JZ (k:Nat):∀ ds:List D,ds.all (fl k)=true->PyData.canLayAll0 (z9 ds)=true/\PyData.depthAll (z9 ds)<=k:=by
 intro ds
 induction ds with
 |nil=>intro _;exact⟨rfl,qH _⟩
 |cons d ds ih =>
  intro hf;rw[Xz,qq]at hf;obtain⟨a1,a2⟩:=JC k d hf.1;obtain⟨b1,b2⟩:=ih hf.2;refine⟨?_,?_⟩
  ·show(PyData.canLay0 (YC d)&&PyData.canLayAll0 (z9 ds))=true;rw[a1,b1];rfl
  ·show max (PyData.depth (YC d)) (PyData.depthAll (z9 ds))<=k;exact Nat.max_le.mpr ⟨a2,b2⟩
mutual
theorem Fi:∀ (k:Nat) (x y:D),fl k x=true->fl k y=true->PyData.eqv (YC x) (YC y)=eqv x y
  |k,.non,y,_,hy=>by cases y<;>first|rfl|(cases k<;>cases hy)
  |k,.bl a,y,_,hy=>by cases y<;>first|rfl|(cases k<;>cases hy)
  |k,.int i,y,_,hy=>by
    cases y with
    |int j=>show(i==j)=decide (i=j);rw[Bool.beq_eq_decide_eq]
    |ref n=>cases k<;>cases hy
    |exn n=>cases k<;>cases hy
    |ty n=>cases k<;>cases hy
    |rl n=>cases k<;>cases hy
    |kt n=>cases k<;>cases hy
    |_=>rfl
  |k,.str a,y,_,hy=>by cases y<;>first|rfl|(cases k<;>cases hy)
  |0,.tup xs,y,hx,_=>by cases hx
  |k+1,.tup xs,y,hx,hy=>by
    cases y with
    |tup ys=>exact JR k xs ys hx hy
    |ref n=>cases hy
    |ty n=>cases hy
    |rl n=>cases hy
    |kt n=>cases hy
    |_=>rfl
  |k,.ref n,y,hx,_=>by cases k<;>cases hx
  |k,.ty n,y,hx,_=>by cases k<;>cases hx
  |k,.rl n,y,hx,_=>by cases k<;>cases hx
  |k,.kt n,y,hx,_=>by cases k<;>cases hx
  |k,.exn n,y,hx,_=>by cases k<;>cases hx
theorem JR:∀ (k:Nat) (xs ys:List D),xs.all (fl k)=true->ys.all (fl k)=true->PyData.eqvAll (z9 xs) (z9 ys)=eqvAll xs ys
  |k,[],[],_,_=>rfl
  |k,[],y::ys,_,_=>rfl
  |k,x::xs,[],_,_=>rfl
  |k,x::xs,y::ys,hx,hy=>by rw[Xz,qq]at hx hy;show(PyData.eqv (YC x) (YC y)&&PyData.eqvAll (z9 xs) (z9 ys))=(eqv x y&&eqvAll xs ys);rw[Fi k x y hx.1 hy.1,JR k xs ys hx.2 hy.2]
end
def W0 (xss:List (List D)):List PyData:=xss.map fun zs=>.list (z9 zs)
theorem Bx:∀ xss:List (List D),Ub xss=true->PyData.canLayAll0 (W0 xss)=true/\PyData.depthAll (W0 xss)<=21
 |[],_=>⟨rfl,qH _⟩
 |zs::xss,h=>by
  unfold Ub at h;rw[Xz,qq]at h;obtain⟨a1,a2⟩:=JZ 20 zs h.1;obtain⟨b1,b2⟩:=Bx xss h.2;refine⟨?_,?_⟩
  ·show(PyData.canLayAll0 (z9 zs)&&PyData.canLayAll0 (W0 xss))=true;rw[a1,b1];rfl
  ·show max (PyData.depthAll (z9 zs)+1) (PyData.depthAll (W0 xss))<=21;exact Nat.max_le.mpr ⟨by lia,b2⟩
theorem wL:∀ xss yss:List (List D),Ub xss=true->Ub yss=true->PyData.eqvAll (W0 xss) (W0 yss)=eqvAll (xss.map D.tup) (yss.map D.tup)
 |[],[],_,_=>rfl
 |[],_::_,_,_=>rfl
 |_::_,[],_,_=>rfl
 |zs::xss,ws::yss,h,k=>by unfold Ub at h k;rw[Xz,qq]at h k;show(PyData.eqvAll (z9 zs) (z9 ws)&&PyData.eqvAll (W0 xss) (W0 yss))=(eqvAll zs ws&&eqvAll (xss.map D.tup) (yss.map D.tup));rw[JR 20 zs ws h.1 k.1,wL xss yss h.2 k.2]
theorem DW (I:Inv X Z9 U H s)(st:zp X.K aD H S):∀ (xs:List D) (xss:List (List D)) (vs:List V) (us:List ĸ),Ii S xs xss->Ub xss=true->zf X.K aD H xs vs->Vals vs us->∃ as,ReadsAll s.heap us (W0 xss) as
 |[],[],_,_,_,_,r,rv=>by cases r;cases rv;exact⟨_,.nil⟩
 |[],_::_,_,_,h,_,_,_=>h.elim
 |_::_,[],_,_,h,_,_,_=>h.elim
 |x::xs,zs::xss,_,_,h,f,r,rv=>by
  unfold Ub at f;rw[Xz,qq]at f;cases r with
  |cons r t =>
   obtain⟨a1,vs1,rfl,s1,r1⟩:=h.1.sq st r;cases rv with
   |cons q qt =>cases q;obtain⟨its,rv1,ht,hz⟩:=I.list s1;obtain⟨o,ho,hc,n,hd⟩:=ht.isList;obtain⟨as,ra⟩:=K1 I 20 (R3 I 20) _ _ _ f.1 r1 rv1;obtain⟨bs,rb⟩:=DW I st xs xss _ _ h.2 f.2 t qt;exact⟨_,.cons (.list ho hc hd (by simpa using ra)) rb⟩
def cM {α β:Type}{f:α->Option β}{x:α}{xs:List α}{ps:List β}(h:zT f (x::xs)=some ps):∃ y ys,f x=some y/\zT f xs=some ys/\ps=y::ys:=by
 unfold zT at h;cases e1:f x with
 |none=>rw[e1]at h;cases h
 |some y =>
  cases e2:zT f xs with
  |none=>rw[e1,e2]at h;cases h
  |some ys=>rw[e1,e2]at h;cases h;exact⟨y,ys,rfl,rfl,rfl⟩
section
variable {Z9:List (Addr×Obj)}{U:L2.St}{H:Hp}{s:ĳ}{aD:List Addr}{S:Z7}
def G4 (k:Nat)(h1:∀ d v u p,Zk S k d=some p->Rel X.K aD H d v->RelV v u->(∃ as,Reads s.heap u p as)/\p.canLay0=true/\p.depth<=k):∀ ds vs us ps,zT (Zk S k) ds=some ps->zf X.K aD H ds vs->Vals vs us->(∃ as,ReadsAll s.heap us ps as)/\PyData.canLayAll0 ps=true/\PyData.depthAll ps<=k:=by
 intro ds
 induction ds with
 |nil=>intro vs us ps e r rv;cases r;cases rv;cases e;exact⟨⟨_,.nil⟩,rfl,qH _⟩
 |cons d ds ih =>
  intro vs us ps e r rv;obtain⟨y,ys,e1,e2,rfl⟩:=cM e;cases r with
  |cons r t =>
   cases rv with
   |cons q qt =>
    obtain⟨⟨as,ra⟩,c1,d1⟩:=h1 d _ _ _ e1 r q;obtain⟨⟨bs,rb⟩,c2,d2⟩:=ih _ _ _ e2 t qt;refine⟨⟨_,.cons ra rb⟩,?_,?_⟩
    ·show(PyData.canLay0 y&&PyData.canLayAll0 ys)=true;rw[c1,c2];rfl
    ·show max (PyData.depth y) (PyData.depthAll ys)<=k;exact Nat.max_le.mpr ⟨d1,d2⟩
def mU (I:Inv X Z9 U H s)(st:zp X.K aD H S):∀ (k:Nat) (d:D) (v:V) (u:ĸ) (p:PyData),Zk S k d=some p->Rel X.K aD H d v->RelV v u->(∃ as,Reads s.heap u p as)/\p.canLay0=true/\p.depth<=k:=by
  intro k
  induction k with
  |zero =>
    intro d v u p e r q;cases r with
    |non=>cases q;cases e;exact⟨⟨_,.none⟩,rfl,qH _⟩
    |bl b=>cases q;cases e;exact⟨⟨_,.bool b⟩,rfl,qH _⟩
    |int i=>obtain⟨t,rfl⟩:=q;cases e;exact⟨⟨_,.int i t⟩,rfl,qH _⟩
    |str x =>
      obtain⟨t,rfl⟩:=q;have e:(if x.cps.all (· < 0x110000)=true then some (PyData.str x)else none)=some p:=e;by_cases hx:x.cps.all (· < 0x110000)=true
      . rw[if_pos hx]at e;cases e;exact⟨⟨_,.str x t⟩,hx,qH _⟩
      . rw[if_neg hx]at e;cases e
    |ty n=>cases e
    |tup h r=>cases e
    |rl h r=>cases e
    |kt h r=>cases e
    |ref h=>cases e
    |exn _ _ _=>cases e
  |succ k ih =>
    intro d v u p e r q;cases r with
    |non=>cases q;cases e;exact⟨⟨_,.none⟩,rfl,qH _⟩
    |bl b=>cases q;cases e;exact⟨⟨_,.bool b⟩,rfl,qH _⟩
    |int i=>obtain⟨t,rfl⟩:=q;cases e;exact⟨⟨_,.int i t⟩,rfl,qH _⟩
    |str x =>
      obtain⟨t,rfl⟩:=q;have e:(if x.cps.all (· < 0x110000)=true then some (PyData.str x)else none)=some p:=e;by_cases hx:x.cps.all (· < 0x110000)=true
      . rw[if_pos hx]at e;cases e;exact⟨⟨_,.str x t⟩,hx,qH _⟩
      . rw[if_neg hx]at e;cases e
    |ty n=>cases e
    |@tup a vs ds h r =>
      cases q;have e:(zT (Zk S k) ds).map PyData.tuple=some p:=e;cases e1:zT (Zk S k) ds with
      |none=>rw[e1]at e;cases e
      |some ps =>rw[e1]at e;cases e;obtain⟨its,rv,ht,hz⟩:=I.tuple (ZP.of h);obtain⟨o,ho,hc,n,hd⟩:=ht;obtain⟨⟨as,ra⟩,c1,d1⟩:=G4 k ih _ _ _ _ e1 r rv;exact⟨⟨_,.tuple ho hc hd (by simpa using ra)⟩,c1,KJ d1⟩
    |@rl a vs ds h r =>
      cases q;have e:(zT (Zk S k) ds).map PyData.list=some p:=e;cases e1:zT (Zk S k) ds with
      |none=>rw[e1]at e;cases e
      |some ps =>rw[e1]at e;cases e;obtain⟨its,rv,ht,hz⟩:=I.list h.sq;obtain⟨o,ho,hc,m,hd⟩:=ht.isList;obtain⟨⟨as,ra⟩,c1,d1⟩:=G4 k ih _ _ _ _ e1 r rv;exact⟨⟨_,.list ho hc hd (by simpa using ra)⟩,c1,KJ d1⟩
    |kt h r=>cases e
    |@ref n a h =>
      have e:(match S[n]? with
        |some (.lst xs)=>(zT (Zk S k) xs).map PyData.list
        |_=>none)=some p:=e
      cases hS:S[n]? with
      |none=>rw[hS]at e;cases e
      |some c =>
        rw[hS]at e;cases c with
        |lst xs =>
          have e:(zT (Zk S k) xs).map PyData.list=some p:=e;cases e1:zT (Zk S k) xs with
          |none=>rw[e1]at e;cases e
          |some ps =>rw[e1]at e;cases e;obtain⟨a',vs,ea,sq,rr⟩:=Lst.sq st (.inr ⟨n,rfl,hS⟩) (.ref h);cases ea;cases q;obtain⟨its,rv,ht,hz⟩:=I.list sq;obtain⟨o,ho,hc,m,hd⟩:=ht.isList;obtain⟨⟨as,ra⟩,c1,d1⟩:=G4 k ih _ _ _ _ e1 rr rv;exact⟨⟨_,.list ho hc hd (by simpa using ra)⟩,c1,KJ d1⟩
        |ins c fs=>cases e
        |dk Z8=>cases e
        |dt Z8=>cases e
        |dn Z8 ep=>cases e
        |tab x l c=>cases e
    |exn _ _ _=>cases e
end
def vO (X:Cx)(g:Bool->Bool):R2:=fun x y H Q=>∃ aD S dx dy b,zp X.K aD H S/\Rel X.K aD H dx x/\Rel X.K aD H dy y/\Ka S dx dy b/\Q (.bl (g b)) H
def yh {Z9:List (Addr×Obj)}{U:L2.St}{H:Hp}{s:ĳ}{aD:List Addr}{S:Z7}{dx dy:D}{x y:V}{v u:ĸ}{b:Bool}(I:Inv X Z9 U H s)(st:zp X.K aD H S)(rx:Rel X.K aD H dx x)(ry:Rel X.K aD H dy y)(qx:RelV x v)(qy:RelV y u)(h:Ka S dx dy b) :
  ∃ px py as bs,Reads s.heap v px as/\Reads s.heap u py bs/\px.canLay0=true/\py.canLay0=true/\min px.depth py.depth<=60/\PyData.eqv px py=b:=by
 rcases h with⟨fx,fy,rfl⟩|⟨xs,ys,hx,hy,fx,fy,rfl⟩|⟨xs,ys,xss,yss,hx,hy,lx,ly,fx,fy,rfl⟩|⟨p,hx,hy,rfl⟩
 ·obtain⟨as,ra⟩:=R3 I 20 dx x v fx rx qx;obtain⟨bs,rb⟩:=R3 I 20 dy y u fy ry qy;obtain⟨c1,d1⟩:=JC 20 dx fx;obtain⟨c2,d2⟩:=JC 20 dy fy;exact⟨_,_,as,bs,ra,rb,c1,c2,by lia,Fi 20 dx dy fx fy⟩
 ·obtain⟨a1,vs1,rfl,s1,r1⟩:=hx.sq st rx;obtain⟨a2,vs2,rfl,s2,r2⟩:=hy.sq st ry;cases qx;cases qy;obtain⟨its,rv,ht,hz⟩:=I.list s1;obtain⟨its2,rv2,ht2,hz2⟩:=I.list s2;obtain⟨o,ho,hc,n,hd⟩:=ht.isList;obtain⟨o2,ho2,hc2,n2,hd2⟩:=ht2.isList;obtain⟨as,ra⟩:=K1 I 20 (R3 I 20) _ _ _ fx r1 rv;obtain⟨bs,rb⟩:=K1 I 20 (R3 I 20) _ _ _ fy r2 rv2;obtain⟨c1,d1⟩:=JZ 20 xs fx;obtain⟨c2,d2⟩:=JZ 20 ys fy;refine⟨.list (z9 xs),.list (z9 ys),_,_,.list ho hc hd (by simpa using ra),.list ho2 hc2 hd2 (by simpa using rb),c1,c2,?_,JR 20 xs ys fx fy⟩;show min (PyData.depthAll (z9 xs)+1) (PyData.depthAll (z9 ys)+1)<=60;lia
 ·obtain⟨a1,vs1,rfl,s1,r1⟩:=hx.sq st rx;obtain⟨a2,vs2,rfl,s2,r2⟩:=hy.sq st ry;cases qx;cases qy;obtain⟨its,rv,ht,hz⟩:=I.list s1;obtain⟨its2,rv2,ht2,hz2⟩:=I.list s2;obtain⟨o,ho,hc,n,hd⟩:=ht.isList;obtain⟨o2,ho2,hc2,n2,hd2⟩:=ht2.isList;obtain⟨as,ra⟩:=DW I st xs xss _ _ lx fx r1 rv;obtain⟨bs,rb⟩:=DW I st ys yss _ _ ly fy r2 rv2;obtain⟨c1,d1⟩:=Bx xss fx;obtain⟨c2,d2⟩:=Bx yss fy;refine⟨.list (W0 xss),.list (W0 yss),_,_,.list ho hc hd (by simpa using ra),.list ho2 hc2 hd2 (by simpa using rb),c1,c2,?_,wL xss yss fx fy⟩;show min (PyData.depthAll (W0 xss)+1) (PyData.depthAll (W0 yss)+1)<=60;lia
 ·obtain⟨⟨as,ra⟩,c1,d1⟩:=mU I st 20 _ _ _ _ hx rx qx;obtain⟨⟨bs,rb⟩,c2,d2⟩:=mU I st 20 _ _ _ _ hy ry qy;exact⟨p,p,as,bs,ra,rb,c1,c2,by lia,PySem.SeqAt.eqv_refl p c1⟩
def fB {k:Nat}(hr:zO k X.A):OC X .Eq oEq:=⟨vO X id,by
  rintro Z9 s U H x y v u Q I qx qy ⟨aD,S,dx,dy,b,st,rx,ry,h,q⟩;obtain⟨px,py,as,bs,ra,rb,c1,c2,hd,e⟩:=yh I st rx ry qx qy h;have hu:=hr.units;exact PySem.SeqAt.rcAt_reads ra rb c1 c2 (by lia) X.prog X.w X.xe _ ⟨.bl _,H,I,by rw[e];rfl,q⟩,
 by rintro aD H S x y v u Q0 Q st rx ry ⟨b,h,q⟩ k;exact⟨aD,S,x,y,b,st,rx,ry,h,k _ S _ H aD q Wd.refl st (.bl _)⟩⟩
def gF {k:Nat}(hr:zO k X.A):OC X .NotEq Yh:=⟨vO X (!·),by
  rintro Z9 s U H x y v u Q I qx qy ⟨aD,S,dx,dy,b,st,rx,ry,h,q⟩;obtain⟨px,py,as,bs,ra,rb,c1,c2,hd,e⟩:=yh I st rx ry qx qy h;have hu:=hr.units;exact PySem.SeqAt.rcNeAt_reads ra rb c1 c2 (by lia) X.prog X.w X.xe _ ⟨.bl _,H,I,by rw[e];rfl,q⟩,
 by rintro aD H S x y v u Q0 Q st rx ry ⟨b,h,q⟩ k;exact⟨aD,S,x,y,b,st,rx,ry,h,k _ S _ H aD q Wd.refl st (.bl _)⟩⟩
def lH {K:Ĳ}(r:Rel K aD H d v):decide (v=.non)=Xr d:=by cases r<;>rfl
def gC:ZQ X (compareOp .Is) (yu fun i j=>.bl (i==j)):=fun Z9 s U H x y v u Q I rx ry zq36=>by obtain⟨i,j,ex,ey,q⟩:=zq36;subst ex ey;cases rx;cases ry;exact is_bool ⟨.bl _,H,I,rfl,q⟩
def zrt:ZQ X (compareOp .IsNot) (yu fun i j=>.bl (!(i==j))):=fun Z9 s U H x y v u Q I rx ry zq37=>by obtain⟨i,j,ex,ey,q⟩:=zq37;subst ex ey;cases rx;cases ry;exact isnot_bool ⟨.bl _,H,I,rfl,q⟩
def Ê:OC X .Is KC:=⟨_,aA.or gC,fun aD H S x y v u Q0 Q st rx ry h k=>by
 rcases h with⟨rfl,q⟩|⟨a,b,rfl,rfl,q⟩
 ·cases ry;exact .inl ⟨rfl,by rw[lH rx];exact k _ S _ H aD q Wd.refl st (.bl _)⟩
 ·cases rx;cases ry;exact .inr ⟨a,b,rfl,rfl,k _ S _ H aD q Wd.refl st (.bl _)⟩⟩
def dY:OC X .IsNot Wi:=⟨_,Ķ.or zrt,fun aD H S x y v u Q0 Q st rx ry h k=>by
 rcases h with⟨rfl,q⟩|⟨a,b,rfl,rfl,q⟩
 ·cases ry;exact .inl ⟨rfl,by rw[lH rx];exact k _ S _ H aD q Wd.refl st (.bl _)⟩
 ·cases rx;cases ry;exact .inr ⟨a,b,rfl,rfl,k _ S _ H aD q Wd.refl st (.bl _)⟩⟩
def yH {K:Ĳ}(o1:OD K r1' r1)(o2:OD K r2' r2){U:L2.St}{H:Hp}{Q:VK}(h:up K (NT r1' r2' ta tb tc) U H Q):Eb r1 r2 (up K ta) (up K tb) (up K tc) U H Q:=by
 obtain⟨aD,Z,S,Q0,st,rh,q,k⟩:=h;refine⟨aD,Z,S,_,st,rh,q,fun x S1 v H1 ad1 q1 w1 st1 rx=>?_⟩;refine⟨ad1,Z,S1,_,st1,rh.wd w1,q1,fun y S2 u H2 ad2 q2 w2 st2 ry=>?_⟩;refine o1 ad2 H2 S2 x y v u _ _ st2 (rx.wd w2) ry q2 fun z S3 z' H3 ad3 ⟨c,e,q3⟩ w3 st3 rz=>?_
 subst e;cases rz;refine⟨c,rfl,?_⟩;cases c with
 |true =>rw[if_pos rfl]at q3 ⊢;refine⟨ad3,Z,S3,_,st3,rh.wd ((w1.trans w2).trans w3),q3,fun z S4 z' H4 ad4 q4 w4 st4 rz=>?_⟩;exact o2 ad4 H4 S4 y z u z' Q0 Q st4 (ry.wd (w3.trans w4)) rz q4 (k.wd (((w1.trans w2).trans w3).trans w4))
 |false =>rw[if_neg qr]at q3 ⊢;exact k _ S3 _ H3 ad3 q3 ((w1.trans w2).trans w3) st3 (.bl _)
def aV (o1:OC X op r1)(o2:OC X op' r2)(ha:PD X a ta)(hb:PD X b tb)(hc:PD X c tc)(hm:autoParam (lastMarks [op,op'] [b,c]=false) Vr):PD X (.Compare a [op,op'] [b,c] pos) (NT r1 r2 ta tb tc):=by
 with_unfolding_all
  obtain⟨s1,h1,d1⟩:=o1;obtain⟨s2,h2,d2⟩:=o2;exact zW (zom h1 h2 ha hb hc hm) fun _ _ _=>yH d1 d2
def Ϻ {e:Expr}{t:DE}(h:PD X e t)(he:autoParam (∀ whole,isTrue e X.env whole=(do let v <- whole;standAt e.pos;holding [v] (truthy v))) Px):YG X e (dT t):=by with_unfolding_all exact(O9 (dW h he) fun U H Q hh=>ZW hh fun aD Z S Q0 st rh q k =>
 ⟨aD,Z,S,_,st,rh,q,by rintro d S' v H' aD' ⟨b,e,q'⟩ w st' r;subst e;cases r;exact⟨b,rfl,k b S' H' aD' q' w st'⟩⟩)
def ñ (o1:OC X op r1)(o2:OC X op' r2)(ha:PD X a ta)(hb:PD X b tb)(hc:PD X c tc)(hm:autoParam (lastMarks [op,op'] [b,c]=false) Vr):YG X (.Compare a [op,op'] [b,c] pos) (dT (NT r1 r2 ta tb tc)):=by
 with_unfolding_all
  obtain⟨s1,h1,d1⟩:=o1;obtain⟨s2,h2,d2⟩:=o2;refine O9 (zof h1 h2 ha hb hc hm) fun U H Q hh=>ZW hh fun aD Z S Q0 st rh q k=>?_
  refine yH (Q:=fun x H'=>∃ k,x=.bl k/\Q k H') d1 d2 ⟨aD,Z,S,_,st,rh,q,fun d S' v H' aD' ⟨b,e,q'⟩ w st' r=>?_⟩;subst e;cases r;exact⟨b,rfl,k b S' H' aD' q' w st'⟩
variable {tA tB':DT}{rest:List Expr}
def zsI (h:YG X a tA):YG X (.UnaryOp .Not a pos) (VP tA):=by with_unfolding_all exact(O9 (ĵ h) fun U H Q hh=>ZW hh fun aD Z S Q0 st rh q k=>⟨aD,Z,S,_,st,rh,q,fun b S' H' aD' q' w st'=>k _ S' H' aD' q' w st'⟩)
theorem zu7 {e:Expr}{t:DT}(h:Uh X e t):YG X e t:=by with_unfolding_all exact(h _)
def fD (ha:YG X a tA):Uh X (.BoolOp .And [a] pos) tA:=by with_unfolding_all exact(zqQ ha)
def cO (ha:YG X a tA):Uh X (.BoolOp .Or [a] pos) tA:=by with_unfolding_all exact(zu3 ha)
def zq6 (ha:YG X a tA)(hb:Uh X (.BoolOp .And (b::rest) pos) tB'):Uh X (.BoolOp .And (a::b::rest) pos) (Xw tA tB'):=by with_unfolding_all exact(p7 (zuf ha hb) fun U H Q hh=>ZW hh fun aD Z S Q0 st rh q k =>
 ⟨aD,Z,S,_,st,rh,q,fun b S' H' aD' q' w st'=>by
  cases b with
  |true=>rw[if_pos rfl]at q' ⊢;exact⟨aD',Z,S',Q0,st',rh.wd w,q',fun b S' H' aD' q w'=>k b S' H' aD' q (w.trans w')⟩
  |false=>rw[if_neg qr]at q' ⊢;exact k _ S' H' aD' q' w st'⟩)
def jR (ha:YG X a tA)(hb:Uh X (.BoolOp .Or (b::rest) pos) tB'):Uh X (.BoolOp .Or (a::b::rest) pos) (Vy tA tB'):=by with_unfolding_all exact(p7 (cG ha hb) fun U H Q hh=>ZW hh fun aD Z S Q0 st rh q k =>
 ⟨aD,Z,S,_,st,rh,q,fun b S' H' aD' q' w st'=>by
  cases b with
  |false=>rw[if_neg qr]at q' ⊢;exact⟨aD',Z,S',Q0,st',rh.wd w,q',fun b S' H' aD' q w'=>k b S' H' aD' q (w.trans w')⟩
  |true=>rw[if_pos rfl]at q' ⊢;exact k _ S' H' aD' q' w st'⟩)
def χ {op}{t:DE}(h:PD X a t):PD X (.BoolOp op [a] pos) t:=by with_unfolding_all exact(zt1 h)
def zqK (ha:PD X a ta)(hb:PD X (.BoolOp .And (b::rest) pos) tb):PD X (.BoolOp .And (a::b::rest) pos) (Qy ta tb):=by with_unfolding_all exact(zW (zvm ha hb) fun U H Q hh=>ZW hh fun aD Z S Q0 st rh q k =>
 ⟨aD,Z,S,_,st,rh,q,by
  rintro d S' v H' aD' ⟨c,e,q'⟩ w st' r;subst e;cases r;refine⟨c,rfl,?_⟩;cases c with
  |true=>rw[if_pos rfl]at q' ⊢;exact⟨aD',Z,S',Q0,st',rh.wd w,q',k.wd w⟩
  |false=>rw[if_neg qr]at q' ⊢;exact k _ S' _ H' aD' q' w st' (.bl _)⟩)
def aZ (ha:PD X a ta)(hb:PD X (.BoolOp .Or (b::rest) pos) tb):PD X (.BoolOp .Or (a::b::rest) pos) (sZ ta tb):=by with_unfolding_all exact(zW (zwD ha hb) fun U H Q hh=>ZW hh fun aD Z S Q0 st rh q k =>
 ⟨aD,Z,S,_,st,rh,q,by
  rintro d S' v H' aD' ⟨c,e,q'⟩ w st' r;subst e;cases r;refine⟨c,rfl,?_⟩;cases c with
  |false=>rw[if_neg qr]at q' ⊢;exact⟨aD',Z,S',Q0,st',rh.wd w,q',k.wd w⟩
  |true=>rw[if_pos rfl]at q' ⊢;exact k _ S' _ H' aD' q' w st' (.bl _)⟩)
def ĺ (ha:PD X a ta):PD X (.UnaryOp .Not a pos) (QK ta):=by with_unfolding_all exact(zW (zvn ha) fun U H Q hh=>ZW hh fun aD Z S Q0 st rh q k =>
 ⟨aD,Z,S,_,st,rh,q,by rintro d S' v H' aD' ⟨c,e,q'⟩ w st' r;subst e;cases r;exact⟨c,rfl,k _ S' _ H' aD' q' w st' (.bl _)⟩⟩)
def zsP (hc:YG X c tA)(ha:PD X a ta)(hb:PD X b tb):PD X (.IfExp c a b pos) (xM tA ta tb):=by with_unfolding_all exact(zW (c7 hc ha hb) fun U H Q hh=>ZW hh fun aD Z S Q0 st rh q k =>
 ⟨aD,Z,S,_,st,rh,q,fun b S' H' aD' q' w st'=>by
  cases b with
  |true=>rw[if_pos rfl]at q' ⊢;exact⟨aD',Z,S',Q0,st',rh.wd w,q',k.wd w⟩
  |false=>rw[if_neg qr]at q' ⊢;exact⟨aD',Z,S',Q0,st',rh.wd w,q',k.wd w⟩⟩)
end
section
variable {X:Cx}{a b e:Expr}{es:List Expr}{ta tb te:DE}{t:DA}{pos:Pos}
def lg:PAD X [] zm:=by with_unfolding_all exact(mY zuu fun U H Q hh=>ZW hh fun aD Z S Q0 st rh q k=>k [] S [] H aD q Wd.refl st .nil)
def wV (ha:PD X e te)(hr:PAD X es t)(hs:autoParam (starEach (e::es) X.env=(false,eval e X.env)::starEach es X.env) QJ):PAD X (e::es) (zc te t):=by with_unfolding_all exact(mY (ř ha hr hs) fun U H Q hh=>ZW hh fun aD Z S Q0 st rh q k =>⟨aD,Z,S,_,st,rh,q,fun d S1 v H1 ad1 q1 w1 st1 r1=>⟨ad1,Z,S1,_,st1,rh.wd w1,q1,fun ds S2 vs H2 ad2 q2 w2 st2 r2=>k _ S2 _ H2 ad2 q2 (w1.trans w2) st2 (.cons (r1.wd w2) r2)⟩⟩)
def Ġ {x1}(h:PAD X es t):PD X (.Tuple es x1 pos) (dTup t):=by with_unfolding_all exact(zW (Ë h) fun U H Q hh=>ZW hh fun aD Z S Q0 st rh q k =>⟨aD,Z,S,_,st,rh,q,by rintro ds S1 vs H1 ad1 ⟨hz,q1⟩ w1 st1 r1;exact⟨by rw[<- r1.length];exact Uc hz,fun p hp=>Bo st1 (k.wd w1) r1 q1 p hp⟩⟩)
def zuX (h:PAD X es t):PD X (.List es pos) (Ye t):=by with_unfolding_all exact(zW (İ h) fun U H Q hh=>ZW hh fun aD Z S Q0 st rh q k =>⟨aD,Z,S,_,st,rh,q,by rintro ds S1 vs H1 ad1 ⟨hz,q1⟩ w1 st1 r1;exact⟨by rw[<- r1.length];exact Uc hz,fun p hp=>Hx st1 (k.wd w1) r1 q1 p hp⟩⟩)
def bH {xs:List D}{i:Int}{d:D}(h:Yu xs i=some d){K:Ĳ}(r:zf K aD H xs vs):∃ v,QG vs i=some v/\Rel K aD H d v:=by
 have e:O7 vs.length i=W6 xs.length i:=by rw[r.length];rfl
 unfold Yu at h;unfold QG;rw[e];cases q:W6 xs.length i with
 |none=>rw[q]at h;cases h
 |some j =>rw[q]at h;exact r.get h
def zwA (ha:PD X a ta)(hb:PD X b tb)(hs:autoParam (Gi b) kY):PD X (.Subscript a b pos) (Z6 ZL ta tb):=by with_unfolding_all exact(zW (dz (Ü.or (į.or zub)) ha hb hs) fun _ _ _=>IK fun aD H S x y v u Q0 Q st rx ry h k=>by
 rcases h with⟨i,xs,d,ey,hx,e,q⟩|⟨z,i,c,rfl,rfl,hz,e,q⟩
 case inr =>cases rx;cases ry;exact .inr (.inr ⟨z,i,c,rfl,rfl,Uc hz,e,k _ S _ H aD q Wd.refl st (.str _)⟩)
 subst ey;cases ry;obtain⟨p,vs,rfl,hs,r⟩:=hx.sq st rx;obtain⟨z,ez,rz⟩:=bH e r;rcases hs with hs|hs
 ·exact .inl ⟨p,vs,i,z,rfl,rfl,hs,ez,k _ S _ H aD q Wd.refl st rz⟩
 ·exact .inr (.inl ⟨p,vs,i,z,rfl,rfl,hs,ez,k _ S _ H aD q Wd.refl st rz⟩))
def Ny (K:Ĳ)(t:Option DE):TO:=fun U H Q=>∃ aD Z S Q0,zp K aD H S/\Zb K aD H Z U/\Ua t Z S Q0/\∀ o S' H' aD',Q0 o S'->Wd aD H aD' H'->zp K aD' H' S'->Q o H'
def fO:PO X none (Ny X.K none):=fun Z9 s U H Q I hh=>ZW hh fun aD Z S Q0 st rh q k=>ϙ Z9 s U H Q I (k none S H aD q Wd.refl st)
def zr9 {t:DE}(h:PD X e t):PO X (some e) (Ny X.K (some t)):=by with_unfolding_all exact(fun Z9 s U H Q I hh=>ZW hh fun aD Z S Q0 st rh q k=>ü h Z9 s U H Q I ⟨aD,Z,S,_,st,rh,q,by rintro d S' v H' aD' ⟨i,e,q'⟩ w st' r;subst e;cases r;exact⟨i,rfl,k _ S' H' aD' q' w st'⟩⟩)
def nA {K:Ĳ}(lo hi:Option Int)(r:zf K aD H xs vs):zf K aD H (cutD xs lo hi) (Uz vs lo hi):=by
  have e1:HT.sIx vs.length 0 lo=Xk xs.length 0 lo:=by
    rw[r.length];cases lo with
    |none=>rfl
    |some k=>show HT.sIx _ _ (some k)=_;unfold HT.sIx Xk;first|rfl|(simp only[];split<;>lia)
  have e2:HT.sIx vs.length vs.length hi=Xk xs.length xs.length hi:=by
    rw[r.length];cases hi with
    |none=>rfl
    |some k=>show HT.sIx _ _ (some k)=_;unfold HT.sIx Xk;first|rfl|(simp only[];split<;>lia)
  unfold cutD Uz;rw[e1,e2];exact(r.drop _).take _
def ę (K:Ĳ):V->Option Int->Option Int->Hp->VK->Prop:=fun x lo hi H Q=>∃ a xs,x=.ref a/\ZP K H a xs /\
 ((HT.sIx xs.length 0 lo=0/\HT.sIx xs.length xs.length hi=xs.length)->Q (.ref a) H)/\(¬ (HT.sIx xs.length 0 lo=0/\HT.sIx xs.length xs.length hi=xs.length)->∀ p,H p=none->Q (.ref p) (upd H p (.tup (Uz xs lo hi))))
def ĥ {prog:Program}{w:World}{A:Around}{E:ĸ->ĳ->Prop}{s:ĳ}{t sl:Addr}{items:Array ĸ}{vl vu:ĸ}{lo hi:Option Int}{Q:ĸ->ĳ->Prop}(ht:IsTup s.heap t items)(hs:s.heap.IsSliceOf sl vl vu .none)(pl:IsPart vl lo)(pu:IsPart vu hi)
  (hw:HT.sIx items.size 0 lo=0/\HT.sIx items.size items.size hi=items.size) (h:Q (.ref t) s):wpAny (model prog w) A (getItem (.ref t) (.ref sl)) Q E s:=by
 obtain⟨os,hos,hcs,hds⟩:=id hs;have hTs:s.TypeIs (.ref sl) "slice":=⟨os,hos,hcs⟩
 unfold getItem
 try with_reducible refine wpAny_holding ?_
 first|refine wpAny_bind (wpAny_pure ?_)|skip
 refine wpAny_bind (wpAny_sequenceKey ht.typeIs (by decide) ?_)
 refine wpAny_bind (wpAny_callSpecial?_slot (name:=Str.ofString "__getitem__") ht.typeIs PyProof.Rows.slot_tuple_getitem
  (wpAny_call_entry PyProof.Rows.slot_tuple_getitem ht.typeIs PyProof.Rows.entry_tuple_getitem ?_ (PyProof.Rows.args_tuple_getitem _ _)))
 show wpAny _ _ (Builtin.Tuple.tupleItemsOf (.ref t) >>= _) _ _ s;refine wpAny_bind (tupleItemsOf_ ht ?_);refine wpAny_bind (wpAny_typeOf hTs ?_);rw[if_pos (by decide)];refine wpAny_bind (HT.wK hs pl pu ?_);show wpAny _ _ (if(((HT.sIx items.size 0 lo:Nat):Int)==0&&(1:Int)==1&&(HT.sIx items.size items.size hi-HT.sIx items.size 0 lo)==items.size)=true then _ else _) _ _ s;rw[if_pos (by rw[hw.1,hw.2];simp)];unfold Builtin.Tuple.tupleIsExact;refine wpAny_bind (wpAny_bind (wpAny_typeOf ht.typeIs (wpAny_pure ?_)));rw[if_pos (by decide)];refine wpAny_bind (wpAny_rule ?_)
 first
  |exact wpAny_pure ⟨_,rfl,wpAny_pure h⟩
  |exact wpAny_bind (wpAny_pure ⟨_,rfl,wpAny_pure h⟩)
  |exact wpAny_bind (wpAny_pure (wpAny_pure ⟨_,rfl,wpAny_pure h⟩))
  |trace_state
def zsp:R7 X (ę X.K):=by
 intro Z9 s U H x v vl vu lo hi sl Q I rx hs pl pu h;obtain⟨a,xs,rfl,hx,q1,q2⟩:=h;by_cases hw:HT.sIx xs.length 0 lo=0/\HT.sIx xs.length xs.length hi=xs.length
 ·cases rx;obtain⟨its,r,ht,hz⟩:=I.tuple hx;have hlen:its.toArray.size=xs.length:=by rw[ql];exact r.length.symm
  refine⟨"tuple",_,PyProof.Rows.slot_tuple_getitem.lookup,ht.typeIs,?_⟩;exact ĥ ht hs pl pu (by rw[hlen];exact hw) ⟨.ref a,H,I,rfl,q1 hw⟩
 ·exact jt Z9 s U H (.ref a) v vl vu lo hi sl Q I rx hs pl pu ⟨a,xs,rfl,hx,hw,q2 hw⟩
def jx (xs:List α)(lo hi:Option Int)(h1:Xk xs.length 0 lo=0)(h2:Xk xs.length xs.length hi=xs.length):cutD xs lo hi=xs:=by unfold cutD;rw[h1,h2];simp
def Ŗ (n d:Nat)(o:Option Int):HT.sIx n d o=Xk n d o:=by
 cases o with
 |none=>rfl
 |some k=>rfl
def zwY {lo:Option Expr}{tl th:Option DE}{p2:Pos}(ha:PD X a ta)(hl:PO X lo (Ny X.K tl))(hh:PO X hi (Ny X.K th)):PD X (.Subscript a (.Slice lo hi none p2) pos) (Te RN ta tl th):=by with_unfolding_all exact(zW (Η (μ.or zsp) ha hl hh) fun U H Q hh=>ZW hh fun aD Z S Q0 st rh q k =>
 ⟨aD,Z,S,_,st,rh,q,fun x S1 v H1 ad1 q1 w1 st1 r1=>⟨ad1,Z,S1,_,st1,rh.wd w1,q1,fun l S2 H2 ad2 q2 w2 st2=>⟨ad2,Z,S2,_,st2,rh.wd (w1.trans w2),q2,fun h S3 H3 ad3 q3 w3 st3=>by
  have r3:=r1.wd (w2.trans w3);have k3:=k.wd ((w1.trans w2).trans w3);rcases q3 with⟨xs,rfl,q3⟩|⟨xs,hx,q3⟩|q3
  ·cases r3 with
   |tup h1 r =>refine .inr ⟨_,_,rfl,ZP.of h1,fun⟨z1,z2⟩=>?_,fun _ p hp=>Bo st3 k3 (nA _ _ r) q3 p hp⟩;rw[Ŗ,<- r.length]at z1 z2;rw[jx xs _ _ z1 z2]at q3;exact k3 _ S3 _ H3 ad3 q3 Wd.refl st3 (.tup h1 r)
  ·obtain⟨p,vs,rfl,hs,r⟩:=hx.sq st3 r3;exact .inl ⟨p,vs,rfl,hs,fun l hl=>Hx st3 k3 (nA _ _ r) q3 l hl⟩
  ·exact q3.elim⟩⟩⟩)
end
end Dp
namespace Dp
open PySem PySem.Spec PyProof.Rows L2 My
variable [B:Bs]
section
variable {X:Cx}{a e:Expr}{es:List Expr}{ta te:DE}{t:DA}{pos p:Pos}
def bF {k:Nat}{f:ZX}(G:Got X.prog X.w X.K X.mg X.base k x ps (Xv X.K f))(hr:zO j X.A)(ha:PAD X (e::es) t)(hk:autoParam (k<=j) zU)(hg:autoParam (Gl X x) zB)(hdb:autoParam ((x==("__debug__":Str))=false) zU)(he:autoParam (starEach (e::es) X.env=(false,eval e X.env)::starEach es X.env) QJ)(hpl:autoParam ((backTo pos (starEach es X.env)).any (·.1)=false) PK) :
  PD X (.Call (.Name x p) (e::es) [] pos) (dCall f t):=by with_unfolding_all exact(zW (zuZ G hr hk hg ha hdb he hpl) fun U H Q hh=>ZW hh fun aD Z S Q0 st rh q k =>
 ⟨aD,Z,S,_,st,rh,q,fun ds S1 vs H1 ad1 q1 w1 st1 r1=>by show Xv X.K f (vs++[]) H1 Q E0;rw[qY];exact⟨ad1,S1,ds,Q0,st1.base,r1,q1,(k.wd w1).base st1⟩⟩)
def BD (K:Ĳ)(r':DB)(r:List V->Hp->VK->Prop):Prop:=∀ aD H S ds vs Q0 Q,zp K aD H S->zf K aD H ds vs->r' ds S Q0->KK K aD H Q0 Q->r vs H Q
def BC (X:Cx)(f:ĸ)(r':DB):Prop:=∃ r,YM X f r/\BD X.K r' r
def zyf {id:String}(o:BC X (.builtin id) r')(hm:X.mg x=none)(hv:bootBuiltins x=some (.builtin id))(ha:PAD X (e::es) t)(hg:autoParam (Gl X x) zB)(hn:autoParam (x≠"__name__") zU)(hdb:autoParam ((x==("__debug__":Str))=false) zU)(he:autoParam (starEach (e::es) X.env=(false,eval e X.env)::starEach es X.env) QJ)(hpl:autoParam ((backTo pos (starEach es X.env)).any (·.1)=false) PK):PD X (.Call (.Name x p) (e::es) [] pos) (dB r' t):=by
 with_unfolding_all
  obtain⟨r,ho,od⟩:=o
  exact zW (zpB ho hg hm hv ha hn hdb he hpl) fun U H Q hh=>ZW hh fun aD Z S Q0 st rh q k =>⟨aD,Z,S,_,st,rh,q,fun ds S1 vs H1 ad1 q1 w1 st1 r1=>od ad1 H1 S1 ds vs Q0 Q st1 r1 q1 (k.wd w1)⟩
def zxi {T:String}(o:BC X (.type T) r')(hm:X.mg x=none)(hv:bootBuiltins x=some (.type T))(ha:PAD X (e::es) t)(hg:autoParam (Gl X x) zB)(hn:autoParam (x≠"__name__") zU)(hdb:autoParam ((x==("__debug__":Str))=false) zU)(he:autoParam (starEach (e::es) X.env=(false,eval e X.env)::starEach es X.env) QJ)(hpl:autoParam ((backTo pos (starEach es X.env)).any (·.1)=false) PK):PD X (.Call (.Name x p) (e::es) [] pos) (dB r' t):=by
 with_unfolding_all
  obtain⟨r,ho,od⟩:=o
  exact zW (jc ho hg hm hv ha hn hdb he hpl) fun U H Q hh=>ZW hh fun aD Z S Q0 st rh q k =>⟨aD,Z,S,_,st,rh,q,fun ds S1 vs H1 ad1 q1 w1 st1 r1=>od ad1 H1 S1 ds vs Q0 Q st1 r1 q1 (k.wd w1)⟩
def Xh {K:Ĳ}{d:D}{vs:List V}(r:zf K aD H [d] vs):∃ v,vs=[v]/\Rel K aD H d v:=by
 cases r with
 |cons r t=>cases t;exact⟨_,rfl,r⟩
def Oe {K:Ĳ}{d e:D}{vs:List V}(r:zf K aD H [d,e] vs):∃ v u,vs=[v,u]/\Rel K aD H d v/\Rel K aD H e u:=by
 cases r with
 |cons r t =>obtain⟨u,rfl,r2⟩:=Xh t;exact⟨_,_,rfl,r,r2⟩
def jd:BC X (.builtin "len") Zg:=⟨_,ą.or jQ,fun aD H S ds vs Q0 Q st r h k=>by
 rcases h with⟨x,xs,e,hx,q⟩|⟨z,e,hz,q⟩
 case inr =>subst e;obtain⟨v,rfl,rv⟩:=Xh r;cases rv;exact .inr ⟨z,rfl,Uc hz,k _ S _ H aD q Wd.refl st (.int _)⟩
 subst e;obtain⟨v,rfl,rv⟩:=Xh r;obtain⟨a,ws,rfl,hs,rs⟩:=hx.sq st rv;exact .inl ⟨a,ws,rfl,hs,k _ S _ H aD (by rw[rs.length]at q;exact q) Wd.refl st (.int _)⟩⟩
def ztm:BC X (.builtin "abs") Ie:=⟨_,Ζ,by rintro aD H S ds vs Q0 Q st r ⟨i,e,q⟩ k;subst e;obtain⟨v,rfl,rv⟩:=Xh r;cases rv;exact⟨i,rfl,k _ S _ H aD q Wd.refl st (.int _)⟩⟩
def dI (i j:Int):(if j > i then j else i)=max i j:=by rw[Int.max_def];split<;>split<;>lia
def ϧ (i j:Int):(if j<i then j else i)=min i j:=by rw[Int.min_def];split<;>split<;>lia
def j8 (hc:autoParam (X.calm=true) zB):BC X (.builtin "max") Qm:=⟨_,bW hc,by rintro aD H S ds vs Q0 Q st r ⟨i,j,e,q⟩ k;subst e;obtain⟨v,u,rfl,rv,ru⟩:=Oe r;cases rv;cases ru;exact⟨i,j,rfl,by rw[dI];exact k _ S _ H aD q Wd.refl st (.int _)⟩⟩
def ũ (hc:autoParam (X.calm=true) zB):BC X (.builtin "min") Rr:=⟨_,ý hc,by rintro aD H S ds vs Q0 Q st r ⟨i,j,e,q⟩ k;subst e;obtain⟨v,u,rfl,rv,ru⟩:=Oe r;cases rv;cases ru;exact⟨i,j,rfl,by rw[ϧ];exact k _ S _ H aD q Wd.refl st (.int _)⟩⟩
def cU (hc:autoParam (X.calm=true) zB):BC X (.builtin "max") Je:=⟨_,Χ rfl hc,by rintro aD H S ds vs Q0 Q st r ⟨x,ns,e,hx,h0,q⟩ k;subst e;obtain⟨v,rfl,rv⟩:=Xh r;obtain⟨a,ws,rfl,hs,rs⟩:=hx.sq st rv;cases rs.ints;exact⟨a,ns,rfl,hs,h0,fun m h1 h2=>k _ S _ H aD (q m h1 h2) Wd.refl st (.int _)⟩⟩
def zqG (hc:autoParam (X.calm=true) zB):BC X (.builtin "min") Mg:=⟨_,zmu rfl hc,by rintro aD H S ds vs Q0 Q st r ⟨x,ns,e,hx,h0,q⟩ k;subst e;obtain⟨v,rfl,rv⟩:=Xh r;obtain⟨a,ws,rfl,hs,rs⟩:=hx.sq st rv;cases rs.ints;exact⟨a,ns,rfl,hs,h0,fun m h1 h2=>k _ S _ H aD (q m h1 h2) Wd.refl st (.int _)⟩⟩
def iY (hc:autoParam (X.calm=true) zB):BC X (.builtin "all") U5:=⟨_,Ξ rfl hc,by rintro aD H S ds vs Q0 Q st r ⟨x,ns,e,hx,q⟩ k;subst e;obtain⟨v,rfl,rv⟩:=Xh r;obtain⟨a,ws,rfl,hs,rs⟩:=hx.sq st rv;cases rs.bls;exact⟨a,ns,rfl,hs,k _ S _ H aD q Wd.refl st (.bl _)⟩⟩
def zqE:BC X (.type "list") U0:=⟨_,Ű,by rintro aD H S ds vs Q0 Q st r ⟨x,xs,e,hx,q⟩ k;subst e;obtain⟨v,rfl,rv⟩:=Xh r;obtain⟨a,ws,rfl,hs,rs⟩:=hx.sq st rv;exact⟨a,ws,rfl,hs,fun l hl=>Hx st k rs q l hl⟩⟩
section
variable {K:Ĳ}
def Ψ (t:String)(h:Ph t=true):PySem.W.kitOne K (.type "NoneType") (.type t)=some false/\PySem.W.kitOne K (.type "bool") (.type t)=some (t=="bool"||t=="int")/\PySem.W.kitOne K (.type "int") (.type t)=some (t=="int") /\
  PySem.W.kitOne K (.type "str") (.type t)=some (t=="str")/\PySem.W.kitOne K (.type "tuple") (.type t)=some (t=="tuple")/\PySem.W.kitOne K (.type "list") (.type t)=some (t=="list"):=by
 unfold Ph at h;simp only[N5,beq_iff_eq]at h;rcases h with(((rfl|rfl)|rfl)|rfl)|rfl
 ·exact⟨by kernel_rfl,by kernel_rfl,by kernel_rfl,by kernel_rfl,by kernel_rfl,by kernel_rfl⟩
 ·exact⟨by kernel_rfl,by kernel_rfl,by kernel_rfl,by kernel_rfl,by kernel_rfl,by kernel_rfl⟩
 ·exact⟨by kernel_rfl,by kernel_rfl,by kernel_rfl,by kernel_rfl,by kernel_rfl,by kernel_rfl⟩
 ·exact⟨by kernel_rfl,by kernel_rfl,by kernel_rfl,by kernel_rfl,by kernel_rfl,by kernel_rfl⟩
 ·exact⟨by kernel_rfl,by kernel_rfl,by kernel_rfl,by kernel_rfl,by kernel_rfl,by kernel_rfl⟩
end
def fM:BC X (.builtin "isinstance") Sy:=⟨_,zpl,by
 rintro aD H S ds vs Q0 Q st r ⟨x,t,b,e,h,q⟩ k;subst e;obtain⟨v,u,rfl,rv,ru⟩:=Oe r;cases ru;have fin:=k _ S _ H aD q Wd.refl st (.bl b);unfold pX at h;split at h
 ·cases h
 rename_i hty
 have hty':Ph t=true:=by
  cases hh:Ph t
  ·exact absurd (by show(!Ph t)=true;rw[hh];rfl) hty
  ·rfl
 obtain⟨k1,k2,k3,k4,k5,k6⟩:=Ψ (K:=X.K) t hty';cases rv with
 |non=>cases h;exact⟨_,_,_,_,rfl,.non,k1,fin⟩
 |bl c=>cases h;exact⟨_,_,_,_,rfl,.bl c,k2,fin⟩
 |int i=>cases h;exact⟨_,_,_,_,rfl,.int i,k3,fin⟩
 |str y=>cases h;exact⟨_,_,_,_,rfl,.str y,k4,fin⟩
 |ty n=>cases h
 |exn _ _ _=>cases h
 |tup ht rt=>cases h;exact⟨_,_,_,_,rfl,.tup ht,k5,fin⟩
 |rl hl rl=>cases h
 |kt hl rl=>cases h
 |@ref n a hn =>
  have h:(match S[n]? with | some (.lst _)=>some (t=="list") | _=>none)=some b:=h;cases hS:S[n]? with
  |none=>rw[hS]at h;cases h
  |some c =>
   rw[hS]at h;cases c with
   |ins c fs=>cases h
   |dk _=>cases h
   |dt _=>cases h
   |dn _ _=>cases h
   |tab _ _ _=>cases h
   |lst xs =>cases h;obtain⟨vs,hv,_⟩:=st.cell n a _ hn hS;exact⟨_,_,_,_,rfl,.lst hv,k6,fin⟩⟩
def MD (X:Cx)(id:String)(r':DM):Prop:=∃ r,Jd X id r/\∀ aD H S x ds v vs Q0 Q,zp X.K aD H S->Rel X.K aD H x v->zf X.K aD H ds vs->r' x ds S Q0->KK X.K aD H Q0 Q->r v vs H Q
def uX {K:Ĳ}{x:D}(st:zp K aD H S)(h:∃ n ys,x=.ref n/\S[n]?=some (.lst ys))(r:Rel K aD H x v):JT K "list" v H:=by
 obtain⟨n,ys,rfl,h⟩:=h;cases r with
 |ref e =>obtain⟨vs,hv,_⟩:=st.cell n _ _ e h;exact .inl ⟨rfl,vs,ZC.of hv⟩
def zzm {name:Str}{id:String}{apos cpos:Pos}(slot:Slot "list" name id)(hty:typeOf (.builtin id)=pure (.type "method_descriptor"))(hm:MD X id r')(ho:PD X o to)(ha:PAD X (e::es) t)(hbase:autoParam (attributeBase o name X.env (eval o X.env)=eval o X.env) zB)(hfew:((backTo cpos (starEach (e::es) X.env)).all (fun x=>!x.1)&&(backToKw cpos (keywordEach [] X.env)).all (fun x=>x.1.isSome)
  &&decide ((e::es).length+([]:List Keyword).length+(if([]:List Keyword).isEmpty then 0 else 1)<30))=true:=by rfl) (hline:(apos.endLine==cpos.line)=true:=by rfl) (hs:starEach (e::es) X.env=(false,eval e X.env)::starEach es X.env:=by exact V1 rfl) (hplain:(backTo cpos (starEach es X.env)).any (·.1)=false:=by exact Jw rfl) :
  PD X (.Call (.Attribute o name apos) (e::es) [] cpos) (dM r' to t):=by
 with_unfolding_all
  obtain⟨r,hr,od⟩:=hm
  exact zW (gZ PySem.F.plainAttrs_list slot hty hr ho ha hbase hfew hline hs hplain) fun U H Q hh=>ZW hh fun aD Z S Q0 st rh q k =>
   ⟨aD,Z,S,_,st,rh,q,by rintro x S1 v H1 ad1 ⟨hl,q1⟩ w1 st1 r1;exact⟨uX st1 hl r1,ad1,Z,S1,_,st1,rh.wd w1,q1,fun ds S2 vs H2 ad2 q2 w2 st2 r2 =>od ad2 H2 S2 x ds v vs Q0 Q st2 (r1.wd w2) r2 q2 (k.wd (w1.trans w2))⟩⟩
def bA {name:Str}{id:String}{apos cpos:Pos}(slot:Slot "list" name id)(hty:typeOf (.builtin id)=pure (.type "method_descriptor"))(hm:MD X id r')(ho:PD X o to)(hbase:autoParam (attributeBase o name X.env (eval o X.env)=eval o X.env) zB)(hline:autoParam ((apos.endLine==cpos.line)=true) zB):PD X (.Call (.Attribute o name apos) [] [] cpos) (dM r' to zm):=by
 with_unfolding_all
  obtain⟨r,hr,od⟩:=hm
  exact zW (æ PySem.F.plainAttrs_list slot hty hr ho hbase hline) fun U H Q hh=>ZW hh fun aD Z S Q0 st rh q k =>⟨aD,Z,S,_,st,rh,q,by rintro x S1 v H1 ad1 ⟨hl,q1⟩ w1 st1 r1;exact⟨uX st1 hl r1,od ad1 H1 S1 x [] v [] Q0 Q st1 r1 .nil q1 (k.wd w1)⟩⟩
def zl6:MD X "list.append" Vu:=⟨_,sY,by
 rintro aD H S x ds v vs Q0 Q st rx r ⟨n,xs,y,ex,ey,hn,hl,q⟩ k;subst ex ey;obtain⟨u,rfl,ru⟩:=Xh r;cases rx with
 |ref e =>obtain⟨ws,hw,rw⟩:=st.cell n _ _ e hn;exact⟨_,ws,u,rfl,rfl,hw,by rw[<- rw.length];exact Nv hl,k _ _ _ _ aD q (Wd.put e hw) (st.put e hw (rw.append (.cons ru .nil))) .non⟩⟩
def zkZ:MD X "list.extend" K8:=⟨_,zlS,fun aD H S x ds v vs Q0 Q st rx r h k=>by
 rcases h with⟨n,xs,m,ys,ex,ey,hn,hm,hne,hl,q⟩|⟨n,xs,ys,ex,ey,hn,hl,q⟩
 ·subst ex ey;obtain⟨u,rfl,ru⟩:=Xh r;cases rx with
  |ref e =>
   cases ru with
   |ref e2 =>obtain⟨ws,hw,rw⟩:=st.cell n _ _ e hn;obtain⟨ws2,hw2,rw2⟩:=st.cell m _ _ e2 hm;exact .inl ⟨_,_,ws,ws2,rfl,rfl,hw,hw2,by rw[<- rw.length,<- rw2.length];exact Uc hl,k _ _ _ _ aD q (Wd.put e hw) (st.put e hw (rw.append rw2)) .non⟩
 ·subst ex ey;obtain⟨u,rfl,ru⟩:=Xh r;cases rx with
  |ref e =>
   cases ru with
   |tup h2 rw2 =>obtain⟨ws,hw,rw⟩:=st.cell n _ _ e hn;exact .inr ⟨_,_,ws,_,rfl,rfl,hw,ZP.of h2,by rw[<- rw.length,<- rw2.length];exact Uc hl,k _ _ _ _ aD q (Wd.put e hw) (st.put e hw (rw.append rw2)) .non⟩⟩
def zo2:MD X "list.clear" PN:=⟨_,ä,by
 rintro aD H S x ds v vs Q0 Q st rx r ⟨n,xs,ex,ey,hn,q⟩ k;subst ex ey;cases r;cases rx with
 |ref e =>obtain⟨ws,hw,rw⟩:=st.cell n _ _ e hn;exact⟨_,ws,rfl,rfl,hw,k _ _ _ _ aD q (Wd.put e hw) (st.put e hw .nil) .non⟩⟩
end
end Dp
namespace Dp
open PySem PySem.Spec PyProof.Rows L2 My
variable [B:Bs]
def Wv (K:Ĳ)(b:Nat)(g':DG)(g:TG):Prop:=∀ aD H S Z U d v Q0 Q,zp K aD H S->Zb K aD H Z U->Rel K aD H d v->g' d Z S Q0 ->
 (∀ ρ' S' σ' H' aD',Q0 ρ' S'->Wd aD H aD' H'->zp K aD' H' S'->Zb K aD' H' ρ' σ'->σ'.length=U.length->(∀ j,b<=j->σ'[j]?=U[j]?)->Q σ' H')->g v U H Q
def Iw (K:Ĳ)(b:Nat)(g':Vt)(g:QT):Prop:=∀ aD H S Z U ds vs Q0 Q,zp K aD H S->Zb K aD H Z U->zf K aD H ds vs->g' ds Z S Q0 ->
 (∀ ρ' S' σ' H' aD',Q0 ρ' S'->Wd aD H aD' H'->zp K aD' H' S'->Zb K aD' H' ρ' σ'->σ'.length=U.length->(∀ j,b<=j->σ'[j]?=U[j]?)->Q σ' H')->g vs U H Q
def Li (X:Cx)(b:Nat)(tg:Expr)(g':DG):Prop:=∃ g,PG X tg g/\Wv X.K b g' g
theorem Zb.set {K:Ĳ}(h:Zb K aD H Z U)(r:Rel K aD H d v)(i:Nat):Zb K aD H (Z.set i (some d)) (U.set i (some v)) where
 len:=by rw[Xb,Xb];exact h.len
 val:=fun j e q=>by
  by_cases hj:j=i
  ·subst hj;have hl:j<Z.length:=by have:=My.V9 q;rw[Xb]at this;exact this
   rw[qU hl]at q;cases q;exact⟨v,qU (by rw[<- h.len];exact hl),r⟩
  ·rw[qP (Ne.symm hj)]at q;obtain⟨u,e1,r1⟩:=h.val j e q;exact⟨u,by rw[qP (Ne.symm hj)];exact e1,r1⟩
section
variable {X:Cx}{pos:Pos}{b:Nat}
def zmr {K:Ĳ}(i:Nat)(hb:i<b):Wv K b (zP i) (L2.zP i):=fun aD H S Z U d v Q0 Q st rh r q k =>k _ S _ H aD q Wd.refl st (rh.set r i) (Xb ..) fun j hj=>qP (by lia)
def Ģ (ho:PD X o to)(hi:PD X i ti)(ha:∀ v,assign (.Subscript o i pos) X.env v=(do
   let ov <- holding [v] (eval o X.env);let iv <- holding [v,ov] (eval i X.env)
   standAt pos
   holding [v,ov,iv] (setItem ov iv v)
   release [v,ov,iv] []):=by intro _;rfl):Li X b (.Subscript o i pos) (Od to ti):=by with_unfolding_all exact(⟨_,cY ho hi set_list ha,fun aD H S Z U d v Q0 Q st rh r q k=>⟨aD,Z,S,_,st,rh,q,fun x S1 u H1 ad1 q1 w1 st1 r1=>⟨ad1,Z,S1,_,st1,rh.wd w1,q1,fun y S2 z H2 ad2 q2 w2 st2 r2=>by
  obtain⟨n,xs,kk,j,ex,ey,hn,hj,q3⟩:=q2;subst ex ey;cases r2;cases r1 with
  |ref e =>have e2:=RL w2.pre e;obtain⟨ws,hw,rw⟩:=st2.cell n _ _ e2 hn;have rd:=r.wd (w1.trans w2);exact⟨_,ws,kk,j,rfl,rfl,hw,by rw[<- rw.length];exact hj,k Z _ U _ ad2 q3 ((w1.trans w2).trans (Wd.put e2 hw)) (st2.put e2 hw (rw.set rd j)) (rh.wd ((w1.trans w2).trans (Wd.put e2 hw))) rfl fun _ _=>rfl⟩⟩⟩⟩)
variable {st:Stmt}{sts:List Stmt}{t u:DS}{e:Expr}{te:DE}
def znZ:Wz X [] zK:=by with_unfolding_all exact(pU iB fun E U H hh=>ZW hh fun aD Z S E0 so rh q k=>k.nx Z S U H aD q Wd.refl so rh)
def zpg (h:Zr X st t):Wz X [st] t:=by with_unfolding_all exact(gO h)
def Ϥ (h1:Zr X st t)(h2:Wz X sts u):Wz X (st::sts) (zj t u):=by with_unfolding_all exact(pU (Ũ h1 h2) fun E U H hh=>ZW hh fun aD Z S E0 so rh q k =>⟨aD,Z,S,{ E0 with nx:=u E0 },so,rh,q,⟨fun ρ' S' σ' H' aD' q' w st' rh'=>⟨aD',ρ',S',E0,st',rh',q',k.wd w⟩,k.rt,k.bk,k.ct⟩⟩)
def ħ:Zr X (.Pass pos) zK:=by with_unfolding_all exact(Yb zqo fun E U H hh=>ZW hh fun aD Z S E0 so rh q k=>k.nx Z S U H aD q Wd.refl so rh)
def zmy:Zr X (.Break pos) xq:=by with_unfolding_all exact(Yb jy fun E U H hh=>ZW hh fun aD Z S E0 so rh q k=>k.bk Z S U H aD q Wd.refl so rh)
def ϭ:Zr X (.Continue pos) oG:=by with_unfolding_all exact(Yb zj9 fun E U H hh=>ZW hh fun aD Z S E0 so rh q k=>k.ct Z S U H aD q Wd.refl so rh)
def zR:Zr X st Yl:=by with_unfolding_all exact(Yb zoO fun E U H hh=>ZW hh fun aD Z S E0 so rh q k=>q)
def fW (he:PD X e te)(hs:autoParam (swapsWith e none pos.line X.env=pure false) zB):Zr X (.Expr e pos) (Za te):=by with_unfolding_all exact(Yb (zqw he hs) fun E U H hh=>ZW hh fun aD Z S E0 so rh q k =>⟨aD,Z,S,_,so,rh,q,fun d S' v H' aD' q' w st' r=>k.nx Z S' U H' aD' q' w st' (rh.wd w)⟩)
def ņ (he:PD X e te):Zr X (.Return (some e) pos) (zE te):=by with_unfolding_all exact(Yb (Ľ he) fun E U H hh=>ZW hh fun aD Z S E0 so rh q k=>⟨aD,Z,S,_,so,rh,q,k.rt⟩)
def Ĝ (h:Zr X st t):Zr X st (sJ t):=by with_unfolding_all exact(Yb h fun E U H zq57=>by obtain⟨aD,Z,S,E0,so,rh,⟨J,hJ,q⟩,k⟩:=zq57;exact 
 ⟨aD,Z,S,{ E0 with nx:=J },so,rh,q,⟨fun ρ' S' σ' H' aD' q' w st' rh'=>k.nx ρ' S' σ' H' aD' (hJ _ _ q') w st' rh',k.rt,k.bk,k.ct⟩⟩)
def cD {c:Expr}{a b:List Stmt}{tc:DT}(hc:YG X c tc)(ha:Wz X a t)(hb:Wz X b u):Zr X (.If c a b pos) (ZD tc t u):=by with_unfolding_all exact(Yb (Ö hc ha hb) fun E U H hh=>ZW hh fun aD Z S E0 so rh q k =>
 ⟨aD,Z,S,_,so,rh,q,fun b S' H' aD' q' w st'=>by
  cases b with
  |true=>rw[if_pos rfl]at q' ⊢;exact⟨aD',Z,S',E0,st',rh.wd w,q',k.wd w⟩
  |false=>rw[if_neg qr]at q' ⊢;exact⟨aD',Z,S',E0,st',rh.wd w,q',k.wd w⟩⟩)
def lX {i:Nat}{x:Str}{pos':Pos}(hN:X.N.Nodup)(he:PD X e te)(hi:autoParam (X.N[i]?=some x) zB)(hx:autoParam (Loc X.env.scope x) mH)(hs:autoParam (swapsWith e (some (.Name x pos')) pos.line X.env=pure false) zB)(hf:autoParam (X.fn x=true\/X.env.scope.names.lookup x=some .local) Ro) :
  Zr X (.Assign [.Name x pos'] e pos) (zq te (zP i)):=by with_unfolding_all exact(Yb (ϩ hN hi hx he hs hf) fun E U H hh=>ZW hh fun aD Z S E0 so rh q k =>
 ⟨aD,Z,S,_,so,rh,q,fun d S' v H' aD' q' w st' r=>k.nx _ S' _ H' aD' q' w st' ((rh.wd w).set r i)⟩)
def vm (he:PD X e te)(hg:Li X 1000 tg g)(hs:autoParam (swapsWithSole [tg] e pos.line X.env=pure false) zB)(hw:autoParam (swappedStores [tg] e X.env=pure none) zB)(h1:autoParam ((assignEach [tg] X.env).map (·.2)=[assign tg X.env]) zB):Zr X (.Assign [tg] e pos) (zq te g):=by
 with_unfolding_all
  obtain⟨g',p,r⟩:=hg
  exact Yb (zsQ he p hs hw h1) fun E U H hh=>ZW hh fun aD Z S E0 so rh q k =>⟨aD,Z,S,_,so,rh,q,fun d S' v H' aD' q' w st' rv=>r aD' H' S' Z U d v _ _ st' (rh.wd w) rv q' fun ρ2 S2 σ2 H2 ad2 q2 w2 st2 rh2 _ _=>k.nx ρ2 S2 σ2 H2 ad2 q2 (w.trans w2) st2 rh2⟩
def ϣ {i:Nat}{x:Str}{pos':Pos}(hN:X.N.Nodup)(he:PD X e te)(hi:autoParam (X.N[i]?=some x) zB)(hx:autoParam (Loc X.env.scope x) mH)(hf:autoParam (X.fn x=true\/X.env.scope.names.lookup x=some .local) Ro) :
  Zr X (.AugAssign (.Name x pos') .Add e pos) (Hw i te):=by with_unfolding_all exact(Yb (zvQ hN hi hx he bY hf) fun E U H zq58=>by
 obtain⟨aD,Z,S,E0,so,rh,⟨a,ea,q⟩,k⟩:=zq58;obtain⟨v,ev,rv⟩:=rh.val i _ ea;cases rv;refine⟨_,ev,aD,Z,S,_,so,rh,q,fun d S' v H' aD' ⟨b,eb,q'⟩ w st' r=>?_⟩;subst eb;cases r;exact⟨a,b,rfl,rfl,k.nx _ S' _ H' aD' q' w st' ((rh.wd w).set (.int _) i)⟩)
def zms (hc:YG X c tc)(hb:Wz X body t)(hp:autoParam (PassesOwn (model X.prog X.w) X.A X.env X.xe) wk):Zr X (.While c body [] pos) (Vo tc t):=by with_unfolding_all exact(Yb (aH hp hc hb) fun E U H zq59=>by
 obtain⟨aD,Z,S,E0,so,rh,⟨W,⟨m0,w0⟩,turn⟩,k⟩:=zq59;refine⟨fun m σ' H'=>∃ aD' ρ' S',W m ρ' S'/\Wd aD H aD' H'/\zp X.K aD' H' S'/\Zb X.K aD' H' ρ' σ',⟨m0,aD,Z,S,w0,Wd.refl,so,rh⟩,?_⟩;rintro m σ1 H1 ⟨ad1,ρ1,S1,w1,d1,st1,rh1⟩;refine⟨ad1,ρ1,S1,_,st1,rh1,turn m ρ1 S1 w1,fun b S2 H2 ad2 q2 d2 st2=>?_⟩;cases b with
 |true =>
  rw[if_pos rfl]at q2 ⊢;obtain⟨N,hN,q2⟩:=q2;refine⟨fun σ' H'=>∃ aD' ρ' S',N ρ' S'/\Wd aD H aD' H'/\zp X.K aD' H' S'/\Zb X.K aD' H' ρ' σ',?_,ad2,ρ1,S2,{ E0 with nx:=N,ct:=N,bk:=E0.nx },st2,rh1.wd d2,q2,?_⟩
  ·rintro σ' H' ⟨aD',ρ',S',n',d',st',rh'⟩;obtain⟨m',hm,w'⟩:=hN ρ' S' n';exact⟨m',hm,aD',ρ',S',w',d',st',rh'⟩
  ·have d12:=d1.trans d2;exact⟨fun ρ' S' σ' H' aD' q' w' st' rh'=>⟨aD',ρ',S',q',d12.trans w',st',rh'⟩,k.rt.wd d12,fun ρ' S' σ' H' aD' q' w' st' rh'=>k.nx ρ' S' σ' H' aD' q' (d12.trans w') st' rh',fun ρ' S' σ' H' aD' q' w' st' rh'=>⟨aD',ρ',S',q',d12.trans w',st',rh'⟩⟩
 |false =>rw[if_neg qr]at q2 ⊢;exact k.nx ρ1 S2 σ1 H2 ad2 q2 (d1.trans d2) st2 (rh1.wd d2))
end
structure Ur (K:Ĳ)(ad0:List Addr)(H0:Hp)(J0:TV)(J:It):Prop where
 go:∀ aD H S i,Wd ad0 H0 aD H->zp K aD H S->J0.ok S->i<J0.items.length->J.go i H
 yld:∀ aD H S i d x H',Wd ad0 H0 aD H->zp K aD H S->J0.ok S->J0.items[i]?=some d->J.yld i H x H'->Wd aD H aD H'/\zp K aD H' S/\Rel K aD H' d x
 stop:∀ aD H S,Wd ad0 H0 aD H->zp K aD H S->J0.ok S->J.stop J0.items.length H
def tO (K:Ĳ)(wi:DI):TI:=fun U H R=>∃ aD Z S R0,zp K aD H S/\Zb K aD H Z U/\wi Z S R0/\∀ J0 S' J H' aD',R0 J0 S'->Wd aD H aD' H'->zp K aD' H' S'->Ur K aD' H' J0 J->R J H'
@[irreducible] def XC (X:Cx)(tg iter:Expr)(wi:DI):Prop:=PI X tg iter (tO X.K wi)
def Kv {w':TI}(h:PI X tg iter w)(m:∀ U H R,w' U H R->w U H R):PI X tg iter w':=fun Z9 s U H R I q=>h Z9 s U H R I (m U H R q)
section
variable {X:Cx}{tg e:Expr}
def Its (z:Str):It:=⟨fun i _=>i<z.cps.size,fun i H x H'=>H'=H/\∃ c,z.cps[i]?=some c/\x=.str ⟨#[c]⟩,fun i _=>z.cps.size<=i⟩
def znT {P:Program}{w:World}{K:Ĳ}{tg:Expr}(z:Str)(t:Tok)(it:Addr):Turn P w K tg (Its z) [it] it (fun i h=>h.IsStrIter it "str_ascii_iterator" z t i) where
 mem:=by simp
 obj:=fun i h st b hb=>by
  have e:b=it:=by simpa using hb
  subst e;obtain⟨o,e,c,d⟩:=st;exact⟨o,e,fun v y=>by rw[d]at y;cases y⟩
 keep:=fun i h h' st k=>let ⟨o,e,r⟩:=st;⟨o,k it (by simp) o e,r⟩
 item:=by
  intro X hP hw hK hc i Z9 s U H E I hf st hg;subst hP hw hK;have hg:i<z.cps.size:=hg;obtain⟨f0,f1,f2,f3,f4,f5⟩:=hf it (by simp);refine wpAny_pyNext_ascii_item st (c:=z.cps[i]) (by simp[hg]) fun h' st' sb=>?_
  have I1:Inv X Z9 U H { s with heap:=h',toks:=s.toks+1 }:=I.turned (t':=s.toks+1) (fun b o hb e=>(sb.2 b hb).trans e) f0 f1 f3 f4 f5;obtain⟨o,e,c,d⟩:=id st';exact⟨_,rfl,Ob (s:={ s with heap:=h',toks:=s.toks+1 }) e c d (by decide) ⟨.str ⟨#[z.cps[i]]⟩,H,I1,⟨_,rfl⟩,⟨rfl,z.cps[i],by simp[hg],rfl⟩,st',fun b hb=>(hf b hb).1⟩⟩
 done:=by intro X hP hw hK hc i Z9 s U H E I hf st hg;subst hP hw hK;have hg:z.cps.size<=i:=hg;obtain⟨f0,f1,f2,f3,f4,f5⟩:=hf it (by simp);exact wpAny_pyNext_ascii_end (I.ok.hd hc) st (by simp[hg]) fun h' eb=>⟨rfl,I.turned (t':=s.toks) (fun b o hb e=>eb b o hb e) f0 f1 f3 f4 f5⟩
 self:=fun _ _ _ _ _ st hQ=>wpAny_pyIter_striter_ascii st hQ
def Ų {P:Program}{w:World}{K:Ĳ}{tg:Expr}(z:Str)(t:Tok)(it:Addr):Turn P w K tg (Its z) [it] it (fun i h=>h.IsStrIter it "str_iterator" z t i) where
 mem:=by simp
 obj:=fun i h st b hb=>by
  have e:b=it:=by simpa using hb
  subst e;obtain⟨o,e,c,d⟩:=st;exact⟨o,e,fun v y=>by rw[d]at y;cases y⟩
 keep:=fun i h h' st k=>let ⟨o,e,r⟩:=st;⟨o,k it (by simp) o e,r⟩
 item:=by
  intro X hP hw hK hc i Z9 s U H E I hf st hg;subst hP hw hK;have hg:i<z.cps.size:=hg;obtain⟨f0,f1,f2,f3,f4,f5⟩:=hf it (by simp);refine wpAny_pyNext_wide_item st (c:=z.cps[i]) (by simp[hg]) fun h' st' sb=>?_
  have I1:Inv X Z9 U H { s with heap:=h',toks:=s.toks+1 }:=I.turned (t':=s.toks+1) (fun b o hb e=>(sb.2 b hb).trans e) f0 f1 f3 f4 f5;obtain⟨o,e,c,d⟩:=id st';exact⟨_,rfl,Ob (s:={ s with heap:=h',toks:=s.toks+1 }) e c d (by decide) ⟨.str ⟨#[z.cps[i]]⟩,H,I1,⟨_,rfl⟩,⟨rfl,z.cps[i],by simp[hg],rfl⟩,st',fun b hb=>(hf b hb).1⟩⟩
 done:=by intro X hP hw hK hc i Z9 s U H E I hf st hg;subst hP hw hK;have hg:z.cps.size<=i:=hg;obtain⟨f0,f1,f2,f3,f4,f5⟩:=hf it (by simp);exact wpAny_pyNext_wide_end (I.ok.hd hc) st (by simp[hg]) fun h' eb=>⟨rfl,I.turned (t':=s.toks) (fun b o hb e=>eb b o hb e) f0 f1 f3 f4 f5⟩
 self:=fun _ _ _ _ _ st hQ=>wpAny_pyIter_striter_wide st hQ
def zsJ (K:Ĳ)(tl:TE):TI:=fun U H R=>tl U H fun x H1=>(∃ a,x=.ref a/\(((∃ xs,ZC K H1 a xs)/\R (Er K a) H1)\/((∃ xs,ZP K H1 a xs)/\R (Ho K a) H1)))\/(∃ z,x=.str z/\R (Its z) H1)
def Ĩ (hl:PE X l tl):PI X tg l (zsJ X.K tl):=by
  intro Z9 s U H R I h;refine Z2 (hl Z9 s U H _ I h) fun v s1 ⟨x,H1,I1,r1,q1⟩=>?_
  rcases q1 with⟨a,e,q1⟩|⟨z,e,q⟩
  case inr =>
    subst e;obtain⟨t,rfl⟩:=r1
    have fp:∀ b∈[s1.heap.objs.size],V0 X Z9 H1 b:=fun b hb=>by
      have e:b=s1.heap.objs.size:=by simpa using hb
      subst e;exact I1.fpOk (qh _) (I1.hok.fresh (qh _))
    cases ha:z.cps.all (· < 128)with
    |true=>exact wpAny_pyIter_ascii ha ⟨s1.heap.objs.size,[s1.heap.objs.size],_,_,H1,rfl,I1.kept (t':=s1.toks) fun b o e=>qc _ e,znT z t _,⟨_,qo _ rfl,rfl,rfl⟩,fp,q⟩
    |false=>exact wpAny_pyIter_wide ha ⟨s1.heap.objs.size,[s1.heap.objs.size],_,_,H1,rfl,I1.kept (t':=s1.toks) fun b o e=>qc _ e,Ų z t _,⟨_,qo _ rfl,rfl,rfl⟩,fp,q⟩
  subst e;cases r1;rcases q1 with⟨⟨xs,hq⟩,q⟩|⟨⟨xs,hq⟩,q⟩
  . obtain⟨its,rv,p,hz⟩:=I1.list hq;refine wpAny_pyIter_list p.isList ?_;refine⟨s1.heap.objs.size,[s1.heap.objs.size],_,_,H1,rfl,I1.kept (t':=s1.toks) fun b o e=>qc _ e,fG a _,⟨_,qo _ rfl,rfl,rfl⟩,fun b hb=>?_,q⟩;have e:b=s1.heap.objs.size:=by simpa using hb
    subst e;exact I1.fpOk (qh _) (I1.hok.fresh (qh _))
  . obtain⟨its,rv,p,hz⟩:=I1.tuple hq;refine wpAny_pyIter_tuple (show s1.heap.IsTuple a its.toArray from p) ?_;refine⟨s1.heap.objs.size,[s1.heap.objs.size],_,_,H1,rfl,I1.kept (t':=s1.toks) fun b o e=>qc _ e,zlJ a _,⟨_,qo _ rfl,rfl,rfl⟩,fun b hb=>?_,q⟩;have e:b=s1.heap.objs.size:=by simpa using hb
    subst e;exact I1.fpOk (qh _) (I1.hok.fresh (qh _))
def aC {K:Ĳ}{aD:List Addr}{H:Hp}(z:Str):Ur K aD H ⟨signs z,fun _=>True⟩ (Its z) where
 go:=fun ad1 H1 S i w st _ hi=>by show i<z.cps.size;have:i<(signs z).length:=hi;unfold signs at this;rw[qa]at this;simpa using this
 yld:=by rintro ad1 H1 S i d x H' w st _ hd ⟨e,c,hc,hx⟩;subst e hx;have hd:(signs z)[i]?=some d:=hd;unfold signs at hd;rw[qi,Dk,hc]at hd;cases hd;exact⟨Wd.refl,st,.str _⟩
 stop:=fun ad1 H1 S w st _=>by show z.cps.size<=(signs z).length;unfold signs;rw[qa];simp
def zu1 {K:Ĳ}{H:Hp}{vs:List V}(h:H a=some (.tup vs))(r:zf K aD H ds vs):Ur K aD H ⟨ds,fun _=>True⟩ (Ho K a) where
 go:=fun ad1 H1 S i w st _ hi=>⟨vs,vs[i]'(by rw[<- r.length];exact hi),ZP.of (w.tup _ _ h),qb _⟩
 yld:=by rintro ad1 H1 S i d x H' w st _ hd ⟨e,hx⟩;subst e;obtain⟨v,ev,rv⟩:=r.get hd;rw[hx vs (ZP.of (w.tup _ _ h))]at ev;cases ev;exact⟨Wd.refl,st,rv.wd w⟩
 stop:=fun ad1 H1 S w st _=>⟨vs,ZP.of (w.tup _ _ h),by rw[<- r.length];exact qh _⟩
def dR {K:Ĳ}{a:Addr}{ds:List D}(r:Rel K aD H x (.ref a)):Ur K aD H ⟨ds,fun S=>Lst S x ds⟩ (Er K a) where
 go:=fun ad1 H1 S i w st ok hi=>by obtain⟨a',vs,e,s,rs⟩:=Lst.sq st ok (r.wd w);cases e;exact⟨vs,vs[i]'(by rw[<- rs.length];exact hi),s,qb _⟩
 yld:=by rintro ad1 H1 S i d y H' w st ok hd ⟨e,hx⟩;subst e;obtain⟨a',vs,e,s,rs⟩:=Lst.sq st ok (r.wd w);cases e;obtain⟨v,ev,rv⟩:=rs.get hd;rw[hx vs s]at ev;cases ev;exact⟨Wd.refl,st,rv⟩
 stop:=fun ad1 H1 S w st ok=>by obtain⟨a',vs,e,s,rs⟩:=Lst.sq st ok (r.wd w);cases e;exact⟨vs,s,by rw[<- rs.length];exact qh _⟩
def ė {t:DE}(h:PD X e t):XC X tg e (Zn t):=by with_unfolding_all exact(Kv (Ĩ h) fun U H R hh=>ZW hh fun aD Z S R0 st rh q k =>
 ⟨aD,Z,S,_,st,rh,q,fun x S1 v H1 ad1 q1 w1 st1 r1=>by
  rcases q1 with⟨xs,rfl,q1⟩|⟨xs,hx,q1⟩|⟨z,rfl,q1⟩
  ·cases r1 with
   |tup h1 rs=>exact .inl ⟨_,rfl,.inr ⟨⟨_,ZP.of h1⟩,k _ S1 _ H1 ad1 q1 w1 st1 (zu1 h1 rs)⟩⟩
  ·obtain⟨a,vs,rfl,s,rs⟩:=hx.sq st1 r1;exact .inl ⟨a,rfl,.inl ⟨⟨vs,s⟩,k _ S1 _ H1 ad1 q1 w1 st1 (dR r1)⟩⟩
  ·cases r1;exact .inr ⟨z,rfl,k _ S1 _ H1 ad1 q1 w1 st1 (aC z)⟩⟩)
def Õ {lo:Int}{n i:Nat}{d:D}(h:(upto lo n)[i]?=some d):i<n/\d=.int (lo+i):=by
 unfold upto at h;rw[qi]at h;have hi:=My.V9 (xs:=List.range n) (i:=i) (x:=i);cases hr:(List.range n)[i]? with
 |none=>rw[hr]at h;cases h
 |some k =>rw[hr]at h;have h1:=My.V9 hr;rw[Uq]at h1;have h2:(List.range n)[i]?=some i:=Hz h1;rw[hr]at h2;cases h2;cases h;exact⟨h1,rfl⟩
def nq (lo:Int)(n:Nat):(upto lo n).length=n:=by unfold upto;rw[qa,Uq]
def nG {K:Ĳ}{aD:List Addr}{H:Hp}(lo:Int)(n:Nat):Ur K aD H ⟨upto lo n,fun _=>True⟩ (Rg lo n) where
 go:=fun ad1 H1 S i w st _ hi=>by rw[nq]at hi;exact hi
 yld:=by rintro ad1 H1 S i d x H' w st _ hd ⟨e,hx⟩;subst e;obtain⟨_,rfl⟩:=Õ hd;rw[hx];exact⟨Wd.refl,st,.int _⟩
 stop:=fun ad1 H1 S w st _=>by rw[nq];exact qh _
def zmj {P:Program}{w:World}{K:Ĳ}{tg:Expr}(it:Addr)(lo:Int)(n:Nat):Turn P w K tg (Rg lo n) [it] it (fun i h=>IsLongIter h it (lo+(i:Nat)*1) ((n:Int)-(i:Nat)) 1) where
 mem:=by simp
 obj:=fun i h st b hb=>by
  have e:b=it:=by simpa using hb
  subst e
  exact⟨_,st,fun v z=>by have z':Data.fields _=Data.cell v:=z;cases z'⟩
 keep:=fun i h h' st k=>k it (by simp) _ st
 item:=by
  intro X hP hw hK hc i Z9 s U H E I hf st' hg;subst hP hw hK;obtain⟨f0,f1,f2,f3,f4,f5⟩:=hf it (by simp);have W:=Walks.longrange (prog:=X.prog) (w:=X.w) (I.ok.hd hc) it lo 1 n;refine W.item i s _ _ hg st' fun v h' tk hv st'' kk=>?_
  obtain⟨t,rfl⟩:=hv;have I1:Inv X Z9 U H { s with heap:=h',toks:=tk }:=I.turned (fun b o hb e=>kk b o (by simpa using hb) e) f0 f1 f3 f4 f5;rw[T8];exact⟨_,rfl,Ob (s:={ s with heap:=h',toks:=tk }) (n:="longrange_iterator") st'' rfl rfl (by decide) ⟨.int (lo+i),H,I1,⟨t,rfl⟩,⟨rfl,rfl⟩,st'',fun b hb=>(hf b hb).1⟩⟩
 done:=by intro X hP hw hK hc i Z9 s U H E I hf st' hg;subst hP hw hK;obtain⟨f0,f1,f2,f3,f4,f5⟩:=hf it (by simp);exact wpAny_pyNext_long_end (I.ok.hd hc) st' (by have:n<=i:=hg;lia) fun h' eb=>⟨rfl,I.turned (t':=s.toks) (fun b o hb e=>eb b o hb e) f0 f1 f3 f4 f5⟩
 self:=fun _ _ _ _ _ st h=>wpAny_pyIter_longiter st h
def range_any {R:It->Hp->Prop}{E:ĸ->ĳ->Prop}{lo hi:Int}{t u v:Tok}{tk:Nat}(I:Inv X Z9 U H s)(q:R (Rg lo (hi-lo).toNat) H):wpAny (model X.prog X.w) X.A (pyIter (.ref s.heap.objs.size)) (PIE X Z9 U tg R) E { s with heap:=s.heap.push { cls:=.type "range",data:=.fields #[.int lo t,.int hi u,.int 1 v] },toks:=tk }:=by
  have I1:Inv X Z9 U H { s with heap:=s.heap.push { cls:=.type "range",data:=.fields #[.int lo t,.int hi u,.int 1 v] },toks:=tk }:=I.kept fun b o e=>qc _ e
  have e1:lo+((0:Nat):Int)*1=lo:=by simp
  have e2:(((hi-lo).toNat:Nat):Int)-((0:Nat):Int)=Builtin.Range.rangeSize lo hi 1:=by rw[rangeSize_one];split<;>lia
  cases hsm:Builtin.Range.small lo hi 1 with
  |true =>
    refine wpAny_pyIter_range (IsRange.new ..) hsm ?_
    refine⟨(s.heap.push { cls:=.type "range",data:=.fields #[.int lo t,.int hi u,.int 1 v] }).objs.size,[(s.heap.push { cls:=.type "range",data:=.fields #[.int lo t,.int hi u,.int 1 v] }).objs.size],_,_,H,rfl,
      I1.kept (t':=tk) fun b o e=>qc _ e,wg _ lo (hi-lo).toNat,?_,fun b hb=>?_,q⟩
    . show IsRangeIter _ _ (lo+((0:Nat):Int)*1) ((((hi-lo).toNat:Nat):Int)-((0:Nat):Int)) 1;rw[e1,e2];exact qo _ rfl
    . have e:b=(s.heap.push { cls:=.type "range",data:=.fields #[.int lo t,.int hi u,.int 1 v] }).objs.size:=by simpa using hb
      subst e;exact I1.fpOk (qh _) (I1.hok.fresh (qh _))
  |false =>
    refine wpAny_pyIter_longrange (IsRange.new ..) hsm ?_
    refine⟨(s.heap.push { cls:=.type "range",data:=.fields #[.int lo t,.int hi u,.int 1 v] }).objs.size,[(s.heap.push { cls:=.type "range",data:=.fields #[.int lo t,.int hi u,.int 1 v] }).objs.size],_,_,H,rfl,
      I1.kept (t':=tk) fun b o e=>qc _ e,zmj _ lo (hi-lo).toNat,?_,fun b hb=>?_,q⟩
    . show IsLongIter _ _ (lo+((0:Nat):Int)*1) ((((hi-lo).toNat:Nat):Int)-((0:Nat):Int)) 1;rw[e1,e2];exact qo _ rfl
    . have e:b=(s.heap.push { cls:=.type "range",data:=.fields #[.int lo t,.int hi u,.int 1 v] }).objs.size:=by simpa using hb
      subst e;exact I1.fpOk (qh _) (I1.hok.fresh (qh _))
def zqP {a:Expr}{t:DA}{p pos:Pos}(hm:X.mg "range"=none)(ha:PAD X [a] t)(hg:autoParam (Gl X "range") zB)(hs:autoParam (starEach [a] X.env=[(false,eval a X.env)]) K4):XC X tg (.Call (.Name "range" p) [a] [] pos) (RP t):=by with_unfolding_all exact(Kv (Ż hg hm ha hs) fun U H R hh=>ZW hh fun aD Z S R0 st rh q k =>
 ⟨aD,Z,S,_,st,rh,q,by rintro ds S1 vs H1 ad1 ⟨j,ed,b1,b2,q1⟩ w1 st1 r1;subst ed;obtain⟨v,rfl,rv⟩:=Xh r1;cases rv;exact⟨j,rfl,b1,b2,k _ S1 _ H1 ad1 q1 w1 st1 (nG 0 j.toNat)⟩⟩)
def Ŵ {a b:Expr}{t:DA}{p pos:Pos}(hm:X.mg "range"=none)(ha:PAD X [a,b] t)(hg:autoParam (Gl X "range") zB)(hs:autoParam (starEach [a,b] X.env=[(false,eval a X.env),(false,eval b X.env)]) xT)(hs2:autoParam (starEach [b] X.env=[(false,eval b X.env)]) K4) :
  XC X tg (.Call (.Name "range" p) [a,b] [] pos) (Ju t):=by
 with_unfolding_all
  rintro Z9 s U H R I ⟨aD,Z,S,R0,st,rh,q,k⟩
  refine Call_ (Uj I hg hm boot_range (PyProof.Rows.callWith_type1 (Z2 (ha pos Z9 s U H (fun vs H1=>∃ i j:Int,vs=[.int i,.int j]/\R (Rg i (j-i).toNat) H1) I ⟨aD,Z,S,_,st,rh,q,by rintro ds S1 vs H1 ad1 ⟨i,j,ed,q1⟩ w1 st1 r1;subst ed;obtain⟨v,u,rfl,rv,ru⟩:=Oe r1;cases rv;cases ru;exact⟨i,j,rfl,k _ S1 _ H1 ad1 q1 w1 st1 (nG i _)⟩⟩) fun us s1 ⟨vs,H1,I1,r1,q1⟩=>?_) (by rw[hs,hs2]) (by rw[hs2];rfl)))
  obtain⟨i,j,e,q⟩:=q1;subst e;cases r1 with
  |cons r rr =>
   cases rr with
   |cons r' rr =>cases rr;obtain⟨t,rfl⟩:=r;obtain⟨t',rfl⟩:=r';exact call_range_2 (range_any I1 q)
def zrv {t:DS}{pos:Pos}(hi:XC X tg iter wi)(hg:Li X 1000 tg g)(hb:Wz X body t)(hp:autoParam (PassesOwn (model X.prog X.w) X.A X.env X.xe) wk)(hc:autoParam (X.calm=true) zB)(hs:autoParam (∀ x,foldedSetIterable iter X.env x=pure x) Px):Zr X (.For tg iter body [] pos) (YJ wi g t):=by
 with_unfolding_all
  obtain⟨g',pg,rg⟩:=hg;refine Yb (Ő hp hc hi pg hb hs) fun E U H hh=>ZW hh fun aD Z S E0 so rh q k=>?_
  refine⟨aD,Z,S,_,so,rh,q,fun J0 S1 J H1 ad1 ⟨W,w0,hok,step,fin⟩ d1 st1 it=>?_⟩;refine⟨fun i m σ' H'=>m=J0.items.length-i/\i<=J0.items.length/\∃ aD' ρ' S',W i ρ' S'/\Wd ad1 H1 aD' H'/\zp X.K aD' H' S'/\Zb X.K aD' H' ρ' σ',⟨J0.items.length,rfl,qH _,ad1,Z,S1,w0,Wd.refl,st1,rh.wd d1⟩,?_⟩;rintro i m σ2 H2 ⟨rfl,hi2,ad2,ρ2,S2,w2,d2,st2,rh2⟩;by_cases hlt:i<J0.items.length
  ·have ed:J0.items[i]?=some J0.items[i]:=qb hlt;refine .inr ⟨it.go ad2 H2 S2 i d2 st2 (hok _ _ _ w2) hlt,fun σ' H'=>∃ aD' ρ' S',W (i+1) ρ' S'/\Wd ad1 H1 aD' H'/\zp X.K aD' H' S'/\Zb X.K aD' H' ρ' σ',?_,fun x H' hy=>?_⟩
   ·rintro σ' H' ⟨aD',ρ',S',w',d',st',rh'⟩;exact⟨J0.items.length-(i+1),by lia,rfl,hlt,aD',ρ',S',w',d',st',rh'⟩
   ·obtain⟨d3,st3,r3⟩:=it.yld ad2 H2 S2 i _ x H' d2 st2 (hok _ _ _ w2) ed hy;refine rg ad2 H' S2 ρ2 σ2 _ x _ _ st3 (rh2.wd d3) r3 (step i _ ρ2 S2 ed w2) fun ρ4 S4 σ4 H4 ad4 q4 d4 st4 rh4 _ _=>?_
    have d14:=(d2.trans d3).trans d4;have d04:=d1.trans d14;exact⟨ad4,ρ4,S4,{ E0 with nx:=W (i+1),ct:=W (i+1),bk:=E0.nx },st4,rh4,q4,⟨fun ρ' S' σ' H' aD' q' w' st' rh'=>⟨aD',ρ',S',q',d14.trans w',st',rh'⟩,k.rt.wd d04,fun ρ' S' σ' H' aD' q' w' st' rh'=>k.nx ρ' S' σ' H' aD' q' (d04.trans w') st' rh',fun ρ' S' σ' H' aD' q' w' st' rh'=>⟨aD',ρ',S',q',d14.trans w',st',rh'⟩⟩⟩
  ·have e:i=J0.items.length:=by lia
   subst e;exact .inl ⟨it.stop ad2 H2 S2 d2 st2 (hok _ _ _ w2),k.nx ρ2 S2 σ2 H2 ad2 (fin ρ2 S2 w2) (d1.trans d2) st2 rh2⟩
end
theorem Ai:∀ {a b:L2.St} (n:Nat),(∀ j,j<n->a[j]?=some none\/a.length<=j)->b.length=a.length->(∀ j,n<=j->b[j]?=a[j]?)->X6 a b
 |[],[],_,_,_,_=>True.intro
 |[],_::_,_,_,h,_=>by simp at h
 |_::_,[],_,_,h,_=>by simp at h
 |x::a,y::b,n,h0,hl,h=>by
  have hl':b.length=a.length:=by simpa using hl
  cases n with
  |zero =>
   have e:=h 0 (qh _);have e':y=x:=by simpa using e
   subst e';have rest:X6 a b:=Ai 0 (fun j hj=>absurd hj (Nat.not_lt_zero _)) hl' fun j _=>by simpa using h (j+1) (qH _)
   cases y with
   |none=>exact rest
   |some v=>exact⟨rfl,rest⟩
  |succ n =>
   have rest:X6 a b:=Ai n (fun j hj=>by
    rcases h0 (j+1) (by lia)with e|e
    ·exact .inl (by simpa using e)
    ·exact .inr (by simpa using e)) hl' fun j hj=>by simpa using h (j+1) (by lia)
   rcases h0 0 (Nat.succ_pos _)with e|e
   ·have e':x=none:=by simpa using e
    subst e';exact rest
   ·simp at e
def bU {K:Ĳ}(h:Zb K aD H Z U)(own:List Str)(fv:List Nat):Zb K aD H (Q5 own.length fv Z) (cst own fv U) where
  len:=by unfold Q5 cst;rw[qf,qf,qJ,qJ,qa,qa]
  val:=fun i d e=>by
    unfold Q5 at e;unfold cst;by_cases hi:i<own.length
    . rw[qg (by rw[qJ];exact hi),Nf]at e;split at e<;>cases e
    . have hi':own.length<=i:=Rc hi;rw[qe (by rw[qJ];exact hi'),qJ,qi]at e;rw[qe (by rw[qJ];exact hi'),qJ,qi];cases hf:fv[i-own.length]? with
      |none=>rw[hf]at e;cases e
      |some j =>
        rw[hf]at e;simp only[Option.map_some,Option.some.injEq]at e ⊢;cases hr:Z[j]? with
        |none=>rw[hr]at e;cases e
        |some o =>rw[hr]at e;have e':o=some d:=e;subst e';obtain⟨v,ev,rv⟩:=h.val j d hr;exact⟨v,by rw[ev];rfl,rv⟩
@[irreducible] def K9 (X:Cx)(ifs:List Expr)(t:DT):Prop:=Q6 X ifs (Oq X.K t)
def zsz {X:Cx}:K9 X [] XH:=by with_unfolding_all exact(fun Z9 s U H Q I hh=>ZW hh fun aD Z S Q0 st rh q k=>ztI Z9 s U H Q I (k true S H aD q Wd.refl st))
def Ÿ {t:DT}(h:YG X c t):K9 X [c] t:=by with_unfolding_all exact(aK h)
def ofT {A B:Prop}(h:if true=true then A else B):A:=by rw[if_pos rfl]at h;exact h
def ofF {A B:Prop}(h:if false=true then A else B):B:=by rw[if_neg qr]at h;exact h
def xJ {K:Ĳ}{own:List Str}{fv:List Nat}{wi:DI}{tc:DT}{te:DE}(rg:Wv K own.length g g'){U:L2.St}{H:Hp}{Q:VK}(h:up K (Zf own.length fv wi g tc te) U H Q):Ao own fv (tO K wi) g' (Oq K tc) (up K te) U H Q:=by
 obtain⟨aD,Z,S,Q0,so,rh,q,k⟩:=h;refine⟨aD,Z,S,_,so,rh,q,fun J0 S1 J H1 ad1 ⟨hbig,W,w0,hok,step,fin⟩ d1 st1 it=>?_⟩;intro p hp
 refine⟨fun i m H'=>m=J0.items.length-i/\i<=J0.items.length/\∃ aD' S' ys vs,W i ys S'/\Wd ad1 H1 aD' H'/\zp K aD' H' S'/\p∉aD'/\H' p=some (.lst vs)/\zf K aD' H' ys vs/\vs.length<=i,
  ⟨J0.items.length,rfl,qH _,ad1,S1,[],[],w0,Wd.laid hp,st1.laid hp,st1.fresh hp,zL,.nil,qh _⟩,?_⟩
 rintro i m H2 ⟨rfl,hi2,ad2,S2,ys,vs,w2,d2,st2,hp2,hv2,r2,hl2⟩;by_cases hlt:i<J0.items.length
 ·have ed:J0.items[i]?=some J0.items[i]:=qb hlt;refine .inr ⟨it.go ad2 H2 S2 i d2 st2 (hok _ _ _ w2) hlt,fun x H' hy=>?_⟩;obtain⟨d3,st3,r3⟩:=it.yld ad2 H2 S2 i _ x H' d2 st2 (hok _ _ _ w2) ed hy;have rh3:=bU (rh.wd ((d1.trans d2).trans d3)) own fv;refine rg ad2 H' S2 _ _ _ x _ _ st3 rh3 r3 (step i _ ys S2 ed w2) fun ρ4 S4 σ4 H4 ad4 q4 d4 st4 rh4 l4 a4=>?_
  refine⟨Ai own.length (fun j hj=>.inl ?_) l4 a4,ad4,ρ4,S4,_,st4,rh4,q4,fun b S5 H5 ad5 q5 d5 st5=>?_⟩
  ·unfold cst;rw[qg (by rw[qJ];exact hj),Nf,if_pos hj]
  have fwd:∀ {ad9:List Addr} {H9:Hp},Wd ad2 H2 ad9 H9->p∉ad9/\H9 p=some (.lst vs):=fun {ad9 H9} w=>⟨(fun m=>by have z:=w.new p m hp2;rw[hv2]at z;cases z),w.keep p _ hp2 hv2⟩
  have d25:=(d3.trans d4).trans d5;cases b with
  |true =>refine GX ?_;have q5:=Dp.ofT q5;refine⟨ad5,ρ4,S5,_,st5,rh4.wd d5,q5,fun y S6 v H6 ad6 q6 d6 st6 r6=>?_⟩;have d26:=d25.trans d6;obtain⟨n6,e6⟩:=fwd d26;have hw:Wr ad6 H6 ad6 (upd H6 p (.lst (vs++[v]))):=Wr.hid e6;have hvl:vs.length<sizeLine:=Nv (by lia);exact⟨vs,e6,hvl,J0.items.length-(i+1),by lia,rfl,hlt,ad6,S6,ys++[y],vs++[v],q6,(d2.trans d26).hid hp,st6.hid e6 n6 (st1.bfree hp),n6,zL,zf.wr hw ((r2.wd d26).append (.cons r6 .nil)),by rw[qf];exact KJ hl2⟩
  |false =>refine CT ?_;have q5:=Dp.ofF q5;obtain⟨n5,e5⟩:=fwd d25;exact⟨J0.items.length-(i+1),by lia,rfl,hlt,ad5,S5,ys,vs,q5,d2.trans d25,st5,n5,e5,r2.wd d25,by lia⟩
 ·have e:i=J0.items.length:=by lia
  subst e;refine .inl ⟨it.stop ad2 H2 S2 d2 st2 (hok _ _ _ w2),?_⟩;exact k _ _ _ _ (ad2++[p]) (fin ys S2 w2) (d1.trans (d2.add hp)) (st2.add hv2 hp2 r2 (st1.bfree hp)) (.ref (by rw[<- st2.len,qe (qh _),Yk];rfl))
section
variable {X:Cx}{sc:Scope}{tg iter elt:Expr}{ifs:List Expr}{own free:List Str}{fv:List Nat}{wi:DI}{g:DG}{tc:DT}{te:DE}{pos:Pos}
def zwe (hfr:WR (fun x=>X.env.kindOf x=some .cell) sc.names)(hfv:U9 X sc free fv)(hi:XC X tg iter wi)(hg:Wv X.K own.length g g'/\∀ cl C s₀ H₀ ex,PG (inner X sc (own++free) cl C s₀ H₀ ex) tg g')(ht:∀ cl C s₀ H₀ ex,K9 (inner X sc (own++free) cl C s₀ H₀ ex) ifs tc)(he:∀ cl C s₀ H₀ ex,PD (inner X sc (own++free) cl C s₀ H₀ ex) elt te)(hcalm:autoParam (X.calm=true) zB)(hxe:autoParam ((X.xe=fun _ _=>False)) zB)(hkind:autoParam (sc.kind=.function) zB)(hcell:autoParam (∀ y∈sc.names,y.2=.cell->sc.names.lookup y.1=some .cell) Kf)(hnames:autoParam (∀ y∈sc.names,y.2=.local->sc.names.lookup y.1=some .local) Kf)(hs:autoParam (∀ x,foldedSetIterable iter X.env x=pure x) Px):PD X (.ListComp elt [⟨tg,iter,ifs,0⟩] sc pos) (Zf own.length fv wi g tc te):=by with_unfolding_all exact(zW (Ï (tc:=Oq X.K tc) (te:=up X.K te) hcalm hxe hkind hcell hnames hfr hfv hi hg.2 ht he hs) fun _ _ _=>xJ hg.1)
def Ϩ {i:Nat}{y:Str}{py spos:Pos}(hN:X.N.Nodup)(hfr:WR (fun x=>X.env.kindOf x=some .cell) sc.names)(hfv:U9 X sc free fv)(hi:XC X tg iter wi)(hg:Wv X.K own.length g g'/\∀ cl C s₀ H₀ ex,PG (inner X sc (own++free) cl C s₀ H₀ ex) tg g')(ht:∀ cl C s₀ H₀ ex,K9 (inner X sc (own++free) cl C s₀ H₀ ex) ifs tc)(he:∀ cl C s₀ H₀ ex,PD (inner X sc (own++free) cl C s₀ H₀ ex) elt te)(hy:autoParam (X.N[i]?=some y) zB)(hyl:autoParam (X.env.scope.names.lookup y=some .local) zB)(hcalm:autoParam (X.calm=true) zB)(hxe:autoParam ((X.xe=fun _ _=>False)) zB)(hkind:autoParam (sc.kind=.function) zB)(hcell:autoParam (∀ y∈sc.names,y.2=.cell->sc.names.lookup y.1=some .cell) Kf)(hnames:autoParam (∀ y∈sc.names,y.2=.local->sc.names.lookup y.1=some .local) Kf)(hsw:autoParam (swapsWith (.ListComp elt [⟨tg,iter,ifs,0⟩] sc pos) (some (.Name y py)) spos.line X.env=pure true) zB)(hs:autoParam (∀ x,foldedSetIterable iter X.env x=pure x) Px):Zr X (.Assign [.Name y py] (.ListComp elt [⟨tg,iter,ifs,0⟩] sc pos) spos) (zq (Zf own.length fv wi g tc te) (zP i)):=by with_unfolding_all exact(Yb (š (tc:=Oq X.K tc) (te:=up X.K te) hN hy hyl hcalm hxe hkind hcell hnames hfr hfv hi hg.2 ht he hsw hs) fun E U H hh=>ZW hh fun aD Z S E0 so rh q k =>xJ (Q:=fun x H1=>L2.zP i x U H1 E.nx) hg.1 ⟨aD,Z,S,_,so,rh,q,fun d S' v H' aD' q' w st' r=>k.nx _ S' _ H' aD' q' w st' ((rh.wd w).set r i)⟩)
def Í {K:Ĳ}{b:Nat}:Iw K b YW L2.YW:=fun aD H S Z U ds vs Q0 Q st rh r zq66 k=>by obtain⟨e,q⟩:=zq66;subst e;cases r;exact⟨rfl,k Z S U H aD q Wd.refl st rh rfl fun _ _=>rfl⟩
def zlz {K:Ĳ}{t:DG}(r1:Wv K b t t')(r2:Iw K b u u'):Iw K b (zJ t u) (L2.zJ t' u'):=fun aD H S Z U ds vs Q0 Q st rh r zq67 k=>by
 obtain⟨d,rs,ed,q⟩:=zq67;subst ed;cases r with
 |cons r t =>refine⟨_,_,rfl,r1 aD H S Z U d _ _ _ st rh r q fun ρ1 S1 σ1 H1 ad1 q1 w1 st1 rh1 l1 a1=>?_⟩;exact r2 ad1 H1 S1 ρ1 σ1 _ _ _ _ st1 rh1 (t.wd w1) q1 fun ρ2 S2 σ2 H2 ad2 q2 w2 st2 rh2 l2 a2=>k ρ2 S2 σ2 H2 ad2 q2 (w1.trans w2) st2 rh2 (l2.trans l1) fun j hj=>(a2 j hj).trans (a1 j hj)
def zpu {K:Ĳ}{n:Nat}{t:Vt}(r:Iw K b t t'):Wv K b (YL n t) (L2.YL K n t'):=fun aD H S Z U d v Q0 Q st rh rv zq68 k=>by
 obtain⟨xs,ed,hl,q⟩:=zq68;subst ed;cases rv with
 |tup h1 rs=>exact⟨_,_,rfl,ZP.of h1,by rw[<- rs.length];exact hl,r aD H S Z U xs _ _ _ st rh rs q k⟩
end
def lJ {K:Ĳ}(N:List Str)(r:zf K aD H ds vs):Zb K aD H (Tg N.length ds) (L2.start N vs) where
  len:=by unfold Tg L2.start;rw[qf,qf,qa,qa,qJ,qJ,r.length]
  val:=fun i d e=>by
    unfold Tg at e;unfold L2.start;by_cases hi:i<ds.length
    . rw[qg (by rw[qa];exact hi),qi]at e;rw[qg (by rw[qa,<- r.length];exact hi),qi];cases hd:ds[i]? with
      |none=>rw[hd]at e;cases e
      |some d' =>rw[hd]at e;cases e;obtain⟨v,ev,rv⟩:=r.get hd;exact⟨v,by rw[ev];rfl,rv⟩
    . rw[qe (by rw[qa];exact Rc hi),Nf]at e;split at e<;>cases e
def zf.cut1 {K:Ĳ}{aD aD':List Addr}{H:Hp}(k:Nat)(h1:∀ d v,fl k d=true->Rel K aD H d v->Rel K aD' H d v):∀ ds vs,ds.all (fl k)=true->zf K aD H ds vs->zf K aD' H ds vs:=by
 intro ds
 induction ds with
 |nil=>intro vs _ r;cases r;exact .nil
 |cons d ds ih =>
  intro vs hf r;rw[Xz,qq]at hf;cases r with
  |cons r t=>exact .cons (h1 d _ hf.1 r) (ih _ hf.2 t)
def Rel.cut {K:Ĳ}{aD aD':List Addr}{H:Hp}:∀ (k:Nat) (d:D) (v:V),fl k d=true->Rel K aD H d v->Rel K aD' H d v:=by
 intro k
 induction k with
 |zero =>
  intro d v hf r;cases r with
  |non=>exact .non
  |bl b=>exact .bl b
  |int i=>exact .int i
  |str x=>exact .str x
  |ty n=>cases hf
  |tup h r=>cases hf
  |rl h r=>cases hf
  |kt h r=>cases hf
  |ref h=>cases hf
  |exn _ _ _=>cases hf
 |succ k ih =>
  intro d v hf r;cases r with
  |non=>exact .non
  |bl b=>exact .bl b
  |int i=>exact .int i
  |str x=>exact .str x
  |ty n=>cases hf
  |tup h r=>exact .tup h (zf.cut1 k ih _ _ hf r)
  |rl h r=>cases hf
  |kt h r=>cases hf
  |ref h=>cases hf
  |exn _ _ _=>cases hf
theorem zf.cut {K:Ĳ}{aD':List Addr}(k:Nat)(ds:List D)(vs:List V)(hf:ds.all (fl k)=true)(r:zf K aD H ds vs):zf K aD' H ds vs:=zf.cut1 k (Rel.cut k) ds vs hf r
end Dp
namespace Dp
open PySem PySem.Spec PyProof.Rows L2 My
variable [B:Bs]
mutual
theorem Rel.low {K:Ĳ}{aD aD':List Addr}{H H':Hp}{m:Nat}(hm:aD.length<=m):∀ {d:D} {u v:V},Rel K aD H d u->Rel K aD' H' d v->Rel K (aD'.take m) H' d v
 |_,_,_,.non,r=>by cases r;exact .non
 |_,_,_,.bl b,r=>by cases r;exact .bl b
 |_,_,_,.int i,r=>by cases r;exact .int i
 |_,_,_,.str x,r=>by cases r;exact .str x
 |_,_,_,.ty n,r=>by cases r;exact .ty n
 |_,_,_,.tup _ t,r=>by
  cases r with
  |tup h t'=>exact .tup h (zf.low hm t t')
 |_,_,_,.rl _ t,r=>by
  cases r with
  |rl h t'=>exact .rl h (zf.low hm t t')
 |_,_,_,.kt _ t,r=>by
  cases r with
  |kt h t'=>exact .kt h (zf.low hm t t')
 |_,_,_,.exn _ _ _,r=>by
  cases r with
  |exn h e n=>exact .exn h e n
 |_,_,_,.ref h,r=>by
  cases r with
  |ref h'=>exact .ref (by rw[Kq (qF (My.V9 h) hm)];exact h')
theorem zf.low {K:Ĳ}{aD aD':List Addr}{H H':Hp}{m:Nat}(hm:aD.length<=m):∀ {ds:List D} {us vs:List V},zf K aD H ds us->zf K aD' H' ds vs->zf K (aD'.take m) H' ds vs
 |_,_,_,.nil,r=>by cases r;exact .nil
 |_,_,_,.cons r t,q=>by
  cases q with
  |cons r' t'=>exact .cons (Rel.low hm r r') (zf.low hm t t')
end
theorem Zm.low {K:Ĳ}{aD aD':List Addr}{H H':Hp}{m:Nat}(hm:aD.length<=m):∀ {fs:List (Str×D)} {us vs:List (Str×V)},Zm K aD H fs us->Zm K aD' H' fs vs->Zm K (aD'.take m) H' fs vs
 |_,_,_,.nil,r=>by cases r;exact .nil
 |_,_,_,.cons r t,q=>by
  cases q with
  |cons r' t'=>exact .cons (Rel.low hm r r') (Zm.low hm t t')
theorem RelK.low {K:Ĳ}{aD aD':List Addr}{H H':Hp}{m:Nat}(hm:aD.length<=m):∀ {fs:List (Str×D)} {us vs:List (Key×V)},RelK K aD H fs us->RelK K aD' H' fs vs->RelK K (aD'.take m) H' fs vs
 |_,_,_,.nil,r=>by cases r;exact .nil
 |_,_,_,.cons r t,q=>by
  cases q with
  |cons r' t'=>exact .cons (Rel.low hm r r') (RelK.low hm t t')
theorem zV.low {κ:Type}{K:Ĳ}{aD aD':List Addr}{H H':Hp}{m:Nat}(hm:aD.length<=m):∀ {fs:List (κ×D)} {us vs:List (κ×V)},zV K aD H fs us->zV K aD' H' fs vs->zV K (aD'.take m) H' fs vs
 |_,_,_,.nil,r=>by cases r;exact .nil
 |_,_,_,.cons r t,q=>by
  cases q with
  |cons r' t'=>exact .cons (Rel.low hm r r') (zV.low hm t t')
def Ip {K:Ĳ}(st:zp K aD H S)(k:KK K aD H Q0 Q):KK K aD H (Fin S Q0) Q:=by
 intro d S' v H' aD' hf w st' r;rcases hf with q|⟨S1,pre,hlen,hd,hc,q⟩
 ·exact k d S' v H' aD' q w st' r
 have hS:S1.length<=S'.length:=pre.length_le;have had:aD.length<=S1.length:=by rw[st.len];exact hlen
 have htk:∀ {n:Nat} {a:Addr},(aD'.take S1.length)[n]?=some a->aD'[n]?=some a:=fun {n a} e=>by have hn:=My.V9 e;rw[V7]at hn;rw[Kq (by lia)]at e;exact e
 have w1:Wd aD H (aD'.take S1.length) H':=by refine⟨?_,w.keep,w.tup,w.frz,fun b m n=>w.new b (O6 m) n⟩;obtain⟨t,rfl⟩:=w.pre;rw[List.take_append,Eu had];exact Nq _ _
 refine k d S1 v H' _ q w1 ⟨st.wd.trans w1,by rw[V7,st'.len];lia,st'.nd.sublist (List.take_sublist _ _),fun n a c e1 e2=>?_⟩ ?_
 ·have e1':=htk e1;have ok:=st'.cell n a c e1' (RL pre e2);rcases hc n c e2 with h|h
  ·obtain⟨a0,ea,ok0⟩:=st.get h;cases c with
   |ins c fs =>obtain⟨C,dx,vs,hv,c1,c2,rv,hn⟩:=ok;obtain⟨_,_,us,_,_,_,ru,_⟩:=ok0;exact⟨C,dx,vs,hv,c1,c2,Zm.low had ru rv,hn⟩
   |dk Z8 =>obtain⟨vs,hv,rv⟩:=ok;obtain⟨us,hu,ru⟩:=ok0;exact⟨vs,hv,RelK.low had ru rv⟩
   |dt Z8 =>obtain⟨vs,hv,rv⟩:=ok;obtain⟨us,hu,ru⟩:=ok0;exact⟨vs,hv,zV.low had ru rv⟩
   |dn Z8 ep =>obtain⟨vs,hv,rv⟩:=ok;obtain⟨us,hu,ru⟩:=ok0;exact⟨vs,hv,zV.low had ru rv⟩
   |tab x l c=>exact ok
   |lst xs =>obtain⟨vs,hv,rv⟩:=ok;obtain⟨us,hu,ru⟩:=ok0;exact⟨vs,hv,zf.low had ru rv⟩
  ·cases c with
   |ins c fs=>cases h
   |dk _=>cases h
   |dt _=>cases h
   |dn _ _=>cases h
   |tab _ _ _=>cases h
   |lst xs =>obtain⟨vs,hv,rv⟩:=ok;exact⟨vs,hv,zf.cut 20 _ _ h rv⟩
 ·rcases hd with h|⟨n,rfl,hn⟩
  ·exact Rel.cut 20 _ _ h r
  ·cases r with
   |ref e=>exact .ref (by rw[Kq hn];exact e)
omit B in
def ao {P:Program}{w:World}{K:Ĳ}{mg:Str->Option ĸ}{base:Heap}{st:Stmt}{k:Nat}{sp:ZX}(F:W9 K x qual st f fd)(S:Qe N ps (zG st))(len:∀ ds So Q,sp ds So Q->ds.length=ps.length)(body:BodyOk N.length b sp)(term:∀ (cdv:ĸ) (A:Around) (outer:List Env) (s:ĳ) (H:Hp) (E:XK),zO k (A.deeper (envOfC qual (zG st) s.heap.objs.size f cdv))->∀ [Bs],Wz (Va Wq P w K mg base N qual (zG st) f cdv A outer s H E).nox (X7 st) b) :
  YS P w K mg base Wq (k+1) f fd ps (Xv K sp):=by
 with_unfolding_all
  refine F.ok S (by rintro vs H Q E ⟨aD,So,ds,Q0,so,r,hf,kk⟩;exact by rw[<- r.length];exact len ds So Q0 hf) fun cdv A outer s H vs Q E hr ⟨aD,So,ds,Q0,so,r,hf,kk⟩=>?_
  letI:Bs:=⟨aD,H⟩
  refine⟨_,term cdv A outer s H E hr,aD,Tg N.length ds,So,_,so,lJ N r,body ds So Q0 hf,⟨fun Z S' U H' aD' q w' st' rh=>Ip so kk .non S' .non H' aD' q w' st' .non,Ip so kk,fun _ _ _ _ _ q=>q.elim,fun _ _ _ _ _ q=>q.elim⟩⟩
omit B in
def zuH {K:Ĳ}{ns:List Int}(hl:ns.length<=63)(hg:∀ n∈ns,Hg n)(hO:Only H)(hS:ZC K H a (ns.map V.int)):Xv K Pj [.ref a] H (fun v _=>v=.bl true) fun _ _ _=>False:=by
 have hr:Rt K H a (ns.map V.int):=by
  rcases hS with(h|h)|h
  ·rcases hO a with e|⟨o,xs,e⟩
   ·rw[h]at e;cases e
   ·rw[h]at e;cases e
  ·exact .inl h
  ·exact .inr h
 refine⟨[],[],[.rl (ns.map D.int)],fun d _=>d=.bl true,@zp.mk ⟨[],H⟩ _ _ _ _ Wd.refl rfl List.nodup_nil (fun n a c e=>by simp at e),.cons (.rl hr (zf.mk_ints ns)) .nil,⟨ns,rfl,⟨rfl,hg⟩,hl,fun _=>rfl⟩,fun d S' v H' aD' q w st' r=>?_⟩;have q':d=.bl true:=q;subst q';cases r;rfl
omit B in
theorem oF:∀ {ns:List Int} {n:Int},n∈ns->PySem.W.WData.weight (.int n)<=PySem.W.WData.weightAll (ns.map PySem.W.WData.int)
 |m::ns,n,h=>by
  rw[qQ,PySem.W.WData.weightAll];rcases qv.mp h with rfl|h
  ·lia
  ·have:=oF h;lia
omit B in
def É {l:PySem.W.OpenLaw}{n k:Nat}{q:Program}{loose:List Str}{XP:(Str->Option ĸ)->Heap->Prop}{YP:World->Heap->Prop}{d:DefRec}{K:Params->Ĳ}{sp:World->Sp}{x:Str}
  (hn:l.most=some n) (hn2:n<=sizeLine) (hdf:d.params.defaults=[]) (hr:zO k callerA) (hY:∀ (w:World) (h:Heap),YP w h->(K w.params).In h)
  (F:∀ (w:World) (mg:Str->Option ĸ) (fa:Addr) (h:Heap),(K w.params).In h->h.Ns mainGlobals mg->mg d.name=some (.ref fa) ->
   ∃ fd:FuncData,(∀ (s:ĳ) (u:ĸ),BindsTo s fd ⟨[u],[]⟩ [(x,u)])/\∀ base:Heap,(K w.params).In base->base.Ns mainGlobals mg->YS l.prog w (K w.params) mg base Wq k fa fd [x] (sp w))
  (hsp:∀ (w:World) (H:Hp) (a:Addr) (ns:List Int),ns.length<=n->(∀ m∈ns,Hg m)->Only H->ZC (K w.params) H a (ns.map V.int)->sp w [.ref a] H (fun v _=>v=.bl true) fun _ _ _=>False) :
  PySem.W.WalkO q loose XP YP l.row.toRowW d [] (fun f vs=>PySem.call f vs):=by
 intro w s₀ s₁ mg mb G Y fa o pm cd doc dV kV ho hd hcd hD hmg hg args vals as hpre hlay hrd hwl hlo;obtain rfl:dV=.none:=PySem.W.Dflts.none hD hdf;obtain rfl:kV=.none:=PySem.W.Dflts.noKw hD;obtain⟨a,vs,ns,rfl,rfl,hobj,hints,hlen⟩:=Att.ŗ hn hpre hwl
 have hbits:∀ m∈ns,Hg m:=fun m hm=>by
  have h1:PySem.W.WData.layable (.list (ns.map .int))=true:=by simpa [PySem.W.WData.layableAll]using hlay
  have h2:PySem.W.WData.weight (.list (ns.map PySem.W.WData.int))<=2 ^ 20:=by unfold PySem.W.WData.layable at h1;rw[qq,decide_eq_true_eq]at h1;exact h1.2
  have h3:=qW (oF hm) (by simpa only[PySem.W.WData.weight]using h2);exact zqx (by simpa only[PySem.W.WData.weight,Builtin.Int.intBits]using h3)
 have KX:=hY w _ Y;obtain⟨fd,hb,hF⟩:=F w mg fa _ KX G.T.g hmg;refine PySem.W.enter_call (codeAny_mono (zpi KX G.T.g G.T.b G.T.builtins G.T.nolimit hg hobj hints (qW hlen hn2) hr hF hb (fun H hO hS=>hsp w H a ns hlen hbits hO hS) fun _ _ _ z=>z) fun r s' hq=>?_);obtain⟨rfl,h2,h3,h4⟩:=hq;exact⟨.inl ⟨.bool true,.bool true,[],rfl,fun _=>rfl,.bool true,Att.jM l _,fun _=>⟨List.Pairwise.nil,fun _ hm=>(nomatch hm)⟩⟩,h2,h3,h4⟩
omit B in
def ò {α:Type}{us:List α}(hl:us.length=6):∃ a0 a1 a2 a3 a4 a5,us=[a0,a1,a2,a3,a4,a5]:=by
  cases us with
  |nil=>simp at hl
  |cons a0 us =>
  cases us with
  |nil=>simp at hl
  |cons a1 us =>
  cases us with
  |nil=>simp at hl
  |cons a2 us =>
  cases us with
  |nil=>simp at hl
  |cons a3 us =>
  cases us with
  |nil=>simp at hl
  |cons a4 us =>
  cases us with
  |nil=>simp at hl
  |cons a5 us =>
  cases us with
  |nil=>exact⟨a0,a1,a2,a3,a4,a5,rfl⟩
  |cons b us=>simp at hl
end Dp
namespace Dp
open PySem PySem.Spec PyProof.Rows L2 My
variable [B:Bs]
section
variable {X:Cx}
def zsF {K:Ĳ}{a:Addr}{ds:List D}(r:Rel K aD H x (.ref a)):Ur K aD H ⟨Vv 0 ds,fun S=>Lst S x ds⟩ (Ite K a) where
 go:=fun ad1 H1 S i w st ok hi=>by
  obtain⟨a',vs,e,s,rs⟩:=Lst.sq st ok (r.wd w);cases e;have hi':i<ds.length:=by rw[<- VJ 0 ds];exact hi
  exact⟨vs,vs[i]'(by rw[<- rs.length];exact hi'),s,qb _⟩
 yld:=by rintro ad1 H1 S i d y H' w st ok hd ⟨p,ey,hp,he⟩;obtain⟨a',vs,e,s,rs⟩:=Lst.sq st ok (r.wd w);cases e;obtain⟨z,hz,rfl⟩:=R6 hd;obtain⟨v,ev,rv⟩:=rs.get hz;rw[he vs v s ev,ey];refine⟨Wd.laid hp,st.laid hp,.tup zL (.cons ?_ (.cons (rv.wd (Wd.laid hp)) .nil))⟩;rw[M7];exact .int _
 stop:=fun ad1 H1 S w st ok=>by obtain⟨a',vs,e,s,rs⟩:=Lst.sq st ok (r.wd w);cases e;exact⟨vs,s,by show _<=(Vv 0 ds).length;rw[VJ,rs.length];exact qh _⟩
def zjU {es:List Expr}{kk:Nat}{tpos:Pos}{a:Expr}{t:DA}{p pos:Pos}(hg:Gl X "enumerate")(hm:X.mg "enumerate"=none)(ha:PAD X [a] t)(hs:autoParam (starEach [a] X.env=[(false,eval a X.env)]) K4) :
  XC X (.Tuple es kk tpos) (.Call (.Name "enumerate" p) [a] [] pos) (Dp.V4 t):=by with_unfolding_all exact(Kv (fP hg hm ha hs) fun U H R hh=>ZW hh fun aD Z S R0 st rh q k =>
 ⟨aD,Z,S,_,st,rh,q,fun ds S1 vs H1 ad1 q0 w1 st1 r1=>by obtain⟨x,xs,ed,hx,q1⟩:=q0;subst ed;obtain⟨v,rfl,rv⟩:=Xh r1;obtain⟨b,ws,rfl,s,rs⟩:=hx.sq st1 rv;exact⟨b,rfl,⟨ws,s⟩,k _ S1 _ H1 ad1 q1 w1 st1 (zsF rv)⟩⟩)
def zsL {K:Ĳ}{a b:Addr}{ds es:List D}(r:Rel K aD H x (.ref a))(r2:Rel K aD H y (.ref b)):Ur K aD H ⟨Yp ds es,fun S=>Lst S x ds/\Lst S y es⟩ (Kp K true true a b) where
 go:=fun ad1 H1 S i w st ok hi=>by
  obtain⟨a',vs,e,s,rs⟩:=Lst.sq st ok.1 (r.wd w);obtain⟨b',us,e',s',rs'⟩:=Lst.sq st ok.2 (r2.wd w);cases e;cases e';have hi':i<min ds.length es.length:=by rw[<- Qt ds es];exact hi
  exact⟨vs,us,vs[i]'(by rw[<- rs.length];lia),us[i]'(by rw[<- rs'.length];lia),s,s',qb _,qb _⟩
 yld:=by rintro ad1 H1 S i d z H' w st ok hd ⟨p,ey,hp,he⟩;obtain⟨a',vs,e,s,rs⟩:=Lst.sq st ok.1 (r.wd w);obtain⟨b',us,e',s',rs'⟩:=Lst.sq st ok.2 (r2.wd w);cases e;cases e';obtain⟨u1,u2,h1,h2,rfl⟩:=J3 hd;obtain⟨v,ev,rv⟩:=rs.get h1;obtain⟨u,eu,ru⟩:=rs'.get h2;rw[he vs us v u s s' ev eu,ey];exact⟨Wd.laid hp,st.laid hp,.tup zL (.cons (rv.wd (Wd.laid hp)) (.cons (ru.wd (Wd.laid hp)) .nil))⟩
 stop:=fun ad1 H1 S w st ok=>by obtain⟨a',vs,e,s,rs⟩:=Lst.sq st ok.1 (r.wd w);obtain⟨b',us,e',s',rs'⟩:=Lst.sq st ok.2 (r2.wd w);cases e;cases e';refine⟨vs,us,s,s',?_⟩;show vs.length<=(Yp ds es).length\/us.length<=(Yp ds es).length;rw[Qt,rs.length,rs'.length];lia
def zqq {K:Ĳ}{H:Hp}{vs us:List V}(h:H a=some (.tup vs))(r:zf K aD H ds vs)(h2:H b=some (.tup us))(r2:zf K aD H es us):Ur K aD H ⟨Yp ds es,fun _=>True⟩ (Kp K false false a b) where
 go:=fun ad1 H1 S i w st _ hi=>by
  have hi':i<min ds.length es.length:=by rw[<- Qt ds es];exact hi
  exact⟨vs,us,vs[i]'(by rw[<- r.length];lia),us[i]'(by rw[<- r2.length];lia),ZP.of (w.tup _ _ h),ZP.of (w.tup _ _ h2),qb _,qb _⟩
 yld:=by rintro ad1 H1 S i d z H' w st _ hd ⟨p,ey,hp,he⟩;obtain⟨u1,u2,h1,h2',rfl⟩:=J3 hd;obtain⟨v,ev,rv⟩:=r.get h1;obtain⟨u,eu,ru⟩:=r2.get h2';rw[he vs us v u (ZP.of (w.tup _ _ h)) (ZP.of (w.tup _ _ h2)) ev eu,ey];exact⟨Wd.laid hp,st.laid hp,.tup zL (.cons ((rv.wd w).wd (Wd.laid hp)) (.cons ((ru.wd w).wd (Wd.laid hp)) .nil))⟩
 stop:=fun ad1 H1 S w st _=>by refine⟨vs,us,ZP.of (w.tup _ _ h),ZP.of (w.tup _ _ h2),?_⟩;show vs.length<=(Yp ds es).length\/us.length<=(Yp ds es).length;rw[Qt,r.length,r2.length];lia
def Ť {es:List Expr}{kk:Nat}{tpos:Pos}{a b:Expr}{t:DA}{p pos:Pos}(hg:Gl X "zip")(hm:X.mg "zip"=none)(ha:PAD X [a,b] t)(hs:autoParam (starEach [a,b] X.env=[(false,eval a X.env),(false,eval b X.env)]) xT)(hs2:autoParam (starEach [b] X.env=[(false,eval b X.env)]) K4) :
  XC X (.Tuple es kk tpos) (.Call (.Name "zip" p) [a,b] [] pos) (Dp.Ih t):=by with_unfolding_all exact(Kv (zrM hg hm ha hs hs2) fun U H R hh=>ZW hh fun aD Z S R0 st rh q k =>
 ⟨aD,Z,S,_,st,rh,q,fun ds S1 vs H1 ad1 q0 w1 st1 r1=>by
  rcases q0 with⟨x,y,xs,ys,ed,hx,hy,q1⟩|⟨xs,ys,ed,q1⟩
  ·subst ed;obtain⟨v,u,rfl,rv,ru⟩:=Oe r1;obtain⟨b1,ws,rfl,s,rs⟩:=hx.sq st1 rv;obtain⟨b2,ws2,rfl,s2,rs2⟩:=hy.sq st1 ru;exact⟨true,b1,b2,rfl,⟨ws,s⟩,⟨ws2,s2⟩,k _ S1 _ H1 ad1 q1 w1 st1 (zsL rv ru)⟩
  ·subst ed;obtain⟨v,u,rfl,rv,ru⟩:=Oe r1;cases rv with
   |tup h r =>
    cases ru with
    |tup h2 r2=>exact⟨false,_,_,rfl,⟨_,ZP.of h⟩,⟨_,ZP.of h2⟩,k _ S1 _ H1 ad1 q1 w1 st1 (zqq h r h2 r2)⟩⟩)
end
section
variable {X:Cx}{a b:Expr}{ta tb:DE}{pos:Pos}
theorem Ek (x:D)(hx:fl 20 x=true):∀ ys:List D,ys.all (fl 20)=true->((z9 ys).any fun z=>PyData.eqv z (YC x))=ys.any fun z=>eqv z x
 |[],_=>rfl
 |y::ys,h=>by rw[Xz,qq]at h;show(PyData.eqv (YC y) (YC x)||(z9 ys).any fun z=>PyData.eqv z (YC x))=_;rw[Fi 20 y x h.1 hx,Ek x hx ys h.2];rfl
def wz (X:Cx)(g:Bool->Bool):R2:=fun x y H Q=>∃ aD S dx dy b,zp X.K aD H S/\Rel X.K aD H dx x/\Rel X.K aD H dy y/\JQ S dx dy b/\Q (.bl (g b)) H
def rZ {Z9:List (Addr×Obj)}{U:L2.St}{H:Hp}{s:ĳ}{aD:List Addr}{S:Z7}{dx dy:D}{x y:V}{v u:ĸ}{b:Bool}(I:Inv X Z9 U H s)(st:zp X.K aD H S)(rx:Rel X.K aD H dx x)(ry:Rel X.K aD H dy y)(qx:RelV x v)(qy:RelV y u)(h:JQ S dx dy b) :
  ∃ pd ps as bs,Reads s.heap v pd as/\(Reads s.heap u (.list ps) bs\/Reads s.heap u (.tuple ps) bs)/\pd.canLay0=true/\PyData.canLayAll0 ps=true/\min (PyData.depthAll ps) pd.depth<=60/\(ps.any fun z=>PyData.eqv z pd)=b:=by
 obtain⟨ys,hy,fx,fy,rfl⟩:=h;obtain⟨as,ra⟩:=R3 I 20 dx x v fx rx qx;obtain⟨c1,d1⟩:=JC 20 dx fx;obtain⟨c2,d2⟩:=JZ 20 ys fy;rcases hy with rfl|hy
 ·obtain⟨bs,rb⟩:=R3 I 21 (.tup ys) y u fy ry qy;exact⟨YC dx,z9 ys,as,bs,ra,.inr rb,c1,c2,by lia,Ek dx fx ys fy⟩
 ·obtain⟨a2,vs2,rfl,s2,r2⟩:=hy.sq st ry;cases qy;obtain⟨its2,rv2,ht2,hz2⟩:=I.list s2;obtain⟨o2,ho2,hc2,n2,hd2⟩:=ht2.isList;obtain⟨bs,rb⟩:=K1 I 20 (R3 I 20) _ _ _ fy r2 rv2;exact⟨YC dx,z9 ys,as,_,ra,.inl (.list ho2 hc2 hd2 (by simpa using rb)),c1,c2,by lia,Ek dx fx ys fy⟩
def jD {k:Nat}(hr:zO k X.A):OC X .In J6:=⟨_,(ZQ.or (r:=wz X id) (by
  rintro Z9 s U H x y v u Q I qx qy ⟨aD,S,dx,dy,b,st,rx,ry,h,q⟩;obtain⟨pd,ps,as,bs,ra,rb,c1,c2,hd,e⟩:=rZ I st rx ry qx qy h;have hu:=hr.units;rcases rb with rb|rb
  ·exact PySem.SeqAt.in_list_reads rb ra c2 c1 (by lia) ⟨.bl _,H,I,by rw[e];rfl,q⟩
  ·exact PySem.SeqAt.in_tuple_reads rb ra c2 c1 (by lia) ⟨.bl _,H,I,by rw[e];rfl,q⟩) Ŭ),
 fun aD H S x y v u Q0 Q st rx ry h k=>by
  rcases h with⟨b,h,q⟩|⟨c,z,rfl,rfl,q⟩
  ·exact .inl ⟨aD,S,x,y,b,st,rx,ry,h,k _ S _ H aD q Wd.refl st (.bl _)⟩
  ·cases rx;cases ry;exact .inr ⟨_,z,rfl,rfl,by rw[PySem.StrLaws.found_one];exact k _ S _ H aD q Wd.refl st (.bl _)⟩⟩
def zo8 {k:Nat}(hr:zO k X.A):OC X .NotIn Qs:=⟨_,(ZQ.or (r:=wz X (!·)) (by
  rintro Z9 s U H x y v u Q I qx qy ⟨aD,S,dx,dy,b,st,rx,ry,h,q⟩;obtain⟨pd,ps,as,bs,ra,rb,c1,c2,hd,e⟩:=rZ I st rx ry qx qy h;have hu:=hr.units;rcases rb with rb|rb
  ·exact PySem.SeqAt.notIn_list_reads rb ra c2 c1 (by lia) ⟨.bl _,H,I,by rw[e];rfl,q⟩
  ·exact PySem.SeqAt.notIn_tuple_reads rb ra c2 c1 (by lia) ⟨.bl _,H,I,by rw[e];rfl,q⟩) ϳ),
 fun aD H S x y v u Q0 Q st rx ry h k=>by
  rcases h with⟨b,h,q⟩|⟨c,z,rfl,rfl,q⟩
  ·exact .inl ⟨aD,S,x,y,b,st,rx,ry,h,k _ S _ H aD q Wd.refl st (.bl _)⟩
  ·cases rx;cases ry;exact .inr ⟨_,z,rfl,rfl,by rw[PySem.StrLaws.found_one];exact k _ S _ H aD q Wd.refl st (.bl _)⟩⟩
def zri (o:OC X op r')(ha:PD X a ta)(hb:PD X b tb)(hm:autoParam (behindInMarks op b=false) Vr):PD X (.Compare a [op] [b] pos) (Z6 r' ta tb):=by
 with_unfolding_all
  obtain⟨r,ho,od⟩:=o;exact zW (aN ho ha hb hm) fun _ _ _=>IK od
def zrF (o:OC X op r')(ha:PD X a ta)(hb:PD X b tb)(hm:autoParam (behindInMarks op b=false) Vr):YG X (.Compare a [op] [b] pos) (dT (Z6 r' ta tb)):=by
 with_unfolding_all
  obtain⟨r,ho,od⟩:=o;refine O9 (zsq ho ha hb hm) fun U H Q hh=>ZW hh fun aD Z S Q0 st rh q k=>?_
  refine IK (Q:=fun x H'=>∃ k,x=.bl k/\Q k H') od ⟨aD,Z,S,_,st,rh,q,fun d S' v H' aD' ⟨b,e,q'⟩ w st' r=>?_⟩;subst e;cases r;exact⟨b,rfl,k b S' H' aD' q' w st'⟩
end
theorem sI {K:Ĳ}{aD:List Addr}{H:Hp}:∀ {zs:List Str} {vs:List V},zf K aD H (zs.map D.str) vs->vs=zs.map V.str
 |[],_,.nil=>rfl
 |z::zs,_,.cons r t=>by cases r;rw[sI t];rfl
def ċ {a:Expr}{t:DA}{p1 p2 pos1 pos2:Pos}(hgl:Gl X "len")(hml:X.mg "len"=none)(hgr:Gl X "set")(hmr:X.mg "set"=none)(ha:PAD X [a] t)(hc:autoParam (X.calm=true) zB)(hs:autoParam (starEach [a] X.env=[(false,eval a X.env)]) K4)(hs3:autoParam (starEach [.Call (.Name "set" p2) [a] [] pos2] X.env=[(false,eval (.Call (.Name "set" p2) [a] [] pos2) X.env)]) zB) :
  PD X (.Call (.Name "len" p1) [.Call (.Name "set" p2) [a] [] pos2] [] pos1) (dB J4 t):=by with_unfolding_all exact(zW (zrS hc hgl hml hgr hmr ha hs hs3) fun U H Q hh=>ZW hh fun aD Z S Q0 st rh q k =>
  ⟨aD,Z,S,_,st,rh,q,by rintro ds S1 vs H1 ad1 ⟨x,zs,ed,hx,hl,q1⟩ w1 st1 r1;subst ed;obtain⟨v,rfl,rv⟩:=Xh r1;obtain⟨a1,ws,rfl,hs,rs⟩:=hx.sq st1 rv;cases sI rs;exact⟨a1,zs,rfl,hs,hl,k _ S1 _ H1 ad1 q1 w1 st1 (.int _)⟩⟩)
section
variable {X:Cx}{e o value:Expr}{te to tv:DE}{f c:Str}{pos pos':Pos}
def dU (he:PD X e te)(hb:attributeBase e f X.env (eval e X.env)=eval e X.env):PD X (.Attribute e f pos) (Yi f te):=by with_unfolding_all exact(zW (bV he hb) fun U H Q hh=>ZW hh fun aD Z S Q0 st rh q k =>
  ⟨aD,Z,S,_,st,rh,q,by
   rintro x S1 v H1 ad1 ⟨n,c,fs,d,ex,hn,hl,q1⟩ w1 st1 r1;subst ex;cases r1 with
   |ref en =>obtain⟨C,dx,vs,h1,hc,hns,rf,hna⟩:=st1.cell n _ _ en hn;obtain⟨v,hv,rv⟩:=rf.look hl;obtain⟨q2,hq2,e2⟩:=rR hl;exact⟨_,C,dx,vs,v,rfl,h1,hc,e2▸hna q2 hq2,hv,k d S1 v H1 ad1 q1 w1 st1 rv⟩⟩)
def Γ (hna:∀ C,PySem.W.nsIn X.K mainGlobals c=some (some (.ref C))->V2 X.K C f)(ho:PD X o to)(hv:PD X value tv)(hs:autoParam (swapsWith value (some (.Attribute o f pos')) pos.line X.env=pure false) zB) :
  Zr X (.Assign [.Attribute o f pos'] value pos) (VL c f to tv):=by with_unfolding_all exact(Yb (Μ ho hv hs) fun E U H hh=>ZW hh fun aD Z S E0 so rh q k =>
 ⟨aD,Z,S,_,so,rh,q,fun y S1 vy H1 ad1 q1 w1 st1 r1=>⟨ad1,Z,S1,_,st1,rh.wd w1,q1,by
  rintro x S2 vx H2 ad2 ⟨n,fs,ex,hn,hl,q2⟩ w2 st2 r2;subst ex;cases r2 with
  |ref en =>obtain⟨C,dx,vs,h1,hc,hns,rf,hna'⟩:=st2.cell n _ _ en hn;have w3:Wd ad2 H2 ad2 (upd H2 _ (.ins C dx (YB f vy vs))):=Wd.putI en h1;exact⟨_,C,dx,vs,rfl,h1,hc,hna C hns,by rw[<- rf.length];lia,k.nx Z _ U _ ad2 q2 ((w1.trans w2).trans w3) (st2.putI en h1 hc hns rf hna' (hna C hns) (r1.wd w2)) (((rh.wd w1).wd w2).wd w3)⟩⟩⟩)
omit B in
def Β {K:Ĳ}{C:Addr}{init:ZX}(hc:Cls K C)(hn:PySem.W.nsIn K mainGlobals c=some (some (.ref C))):∀ vs H Q,Xv K (RZ c init) vs H Q E0->∀ x dx,H x=none->H dx=none->dx≠x ->
  Xv K init (.ref x::vs) (upd (upd H dx (.own x)) x (.ins C dx [])) (fun v H2=>v=.non/\Q (.ref x) H2) E0:=by
 rintro vs H Q ⟨aD,S,ds,Q0,st,r,hf,k⟩ x dx hx hdx hne
 letI:Bs:=⟨aD,H⟩
 obtain⟨w,st'⟩:=st.newI (c:=c) hx hdx hne hc hn;have rx:Rel K (aD++[x]) (upd (upd H dx (.own x)) x (.ins C dx [])) (.ref S.length) (.ref x):=.ref (by rw[<- st.len,qe (qh _),Yk];rfl);have hf':init (.ref S.length::ds) (S++[.ins c []]) (fun d S2=>d=.non/\Q0 (.ref S.length) S2):=hf;refine⟨aD++[x],S++[.ins c []],.ref S.length::ds,_,st'.base,.cons rx (r.wd w),hf',fun d S' v H' aD' q w' st2 rv=>?_⟩;obtain⟨rfl,q⟩:=q;cases rv;exact⟨rfl,k _ S' _ H' aD' q (w.trans w') (st'.back st2) (rx.wd w')⟩
def cA {k:Nat}{e:Expr}{es:List Expr}{t:DA}{p:Pos}{f:ZX}(G:Dm X.prog X.w X.K X.mg X.base k x (Xv X.K f))(hr:zO j X.A)(ha:PAD X (e::es) t)(hk:autoParam (k+1<=j) zU)(hg:autoParam (Gl X x) zB)(hdb:autoParam ((x==("__debug__":Str))=false) zU)(he:autoParam (starEach (e::es) X.env=(false,eval e X.env)::starEach es X.env) QJ)(hpl:autoParam ((backTo pos (starEach es X.env)).any (·.1)=false) PK) :
  PD X (.Call (.Name x p) (e::es) [] pos) (dCall f t):=by with_unfolding_all exact(zW (Ř G hr hk hg ha hdb he hpl) fun U H Q hh=>ZW hh fun aD Z S Q0 st rh q k =>
 ⟨aD,Z,S,_,st,rh,q,fun ds S1 vs H1 ad1 q1 w1 st1 r1=>by show Xv X.K f (vs++[]) H1 Q E0;rw[qY];exact⟨ad1,S1,ds,Q0,st1.base,r1,q1,(k.wd w1).base st1⟩⟩)
end
end Dp
namespace Dp
open PySem PySem.Spec PyProof.Rows L2 My
def QS (h0 h:Heap)(e:Addr)(cls:ĸ)(H:Hp):Prop:=h0.get? e=none/\H e=none/\∃ (a0:ĸ) (oe:Obj) (vs:Array ĸ) (T:Addr) (oT:Obj) (ts:Array ĸ),h.get? e=some oe/\(oe.cls=cls/\vs[0]?=some a0)/\oe.data=.fields vs/\vs[1]?=some (.ref T)/\h0.get? T=none/\T≠e/\h.get? T=some oT/\oT.data=.fields ts/\ts[3]?=some .none/\H T=none
def Vq (P:Program)(w:World):VH:=fun outer H s E e s'=>∃ (a C:Addr) (H':Hp),e=.ref a/\s'.os=s.os/\AllBare s'.gens/\Un (frs outer) [] H H' s.heap s'.heap/\ZG P w H' s'.heap/\QS s.heap s'.heap a (.ref C) H'/\E (.ref C) none H'
def VR (h:Heap)(p:Addr->Bool):Heap:={ h with objs:=h.objs.mapIdx fun i o=>if p i=true then o else { cls:=.none,data:=.freed } }
def Ms (h:Heap)(p:Addr->Bool)(b:Addr):(VR h p).get? b=if p b=true then h.get? b else none:=by
  unfold VR Heap.get?;dsimp only;rw[Array.getElem?_mapIdx];cases h.objs[b]? with
  |none=>cases p b<;>rfl
  |some o=>cases p b<;>rfl
def tH (h:Heap)(p:Addr->Bool):(VR h p).StaysIn h:=fun b o e=>by
 rw[Ms]at e;split at e
 ·exact e
 ·cases e
theorem Dr {h base base':Heap}:∀ {l:List Env},h.FunFrames base l->(∀ L∈frs l,base'.get? L=none)->h.FunFrames base' l
 |[],_,_=>True.intro
 |env::l,⟨h1,⟨L,o,h2,h3,h4,h5⟩,h6⟩,hb=>⟨h1,⟨L,o,h2,hb L (Uy.mpr ⟨env,by simp,h2⟩),h4,h5⟩,Dr h6 fun L' hL=>hb L' (by obtain⟨e',he,e2⟩:=Uy.mp hL;exact Uy.mpr ⟨e',qj _ he,e2⟩)⟩
section
variable {X:Cx}{Z9:List (Addr×Obj)}{U:L2.St}{H:Hp}{s:ĳ}
def fu (I:Inv X Z9 U H s)(hex:X.ex=[]){b:Addr}{o:Obj}(e:X.s₀.heap.get? b=some o):∃ o',s.heap.get? b=some o':=I.base.there b o e (by rw[hex];simp)
def Nt (I:Inv X Z9 U H s)(hex:X.ex=[]){b:Addr}(e:s.heap.get? b=none):X.s₀.heap.get? b=none:=by
 cases q:X.s₀.heap.get? b with
 |none=>rfl
 |some o=>obtain⟨o',h⟩:=fu I hex q;rw[e]at h;cases h
def Br (I:Inv X Z9 U H s){b:Addr}(e:s.heap.get? b=none):H b=none:=by
 cases q:H b with
 |none=>rfl
 |some o =>
  have:=(I.hok b o q).lt;exfalso;cases o with
  |lst xs=>obtain⟨_,_,_,_,h⟩:=I.hok b _ q;rw[e]at h;cases h
  |tup xs=>obtain⟨_,_,_,ob,h,_⟩:=I.hok b _ q;rw[e]at h;cases h
  |dK Z8=>obtain⟨_,_,_,_,ob,_,_,h,_⟩:=I.hok b _ q;rw[e]at h;cases h
  |dT Z8=>obtain⟨_,_,_,_,ob,_,_,h,_⟩:=I.hok b _ q;rw[e]at h;cases h
  |dN Z8 ep=>obtain⟨_,_,_,_,ob,_,h,_⟩:=I.hok b _ q;rw[e]at h;cases h
  |set S n=>obtain⟨ob,_,_,_,h,_⟩:=I.hok b _ q;rw[e]at h;cases h
  |ins C dx fs=>obtain⟨_,_,_,h,_⟩:=I.hok b _ q;rw[e]at h;cases h
  |own y=>obtain⟨_,h⟩:=I.hok b _ q;rw[e]at h;cases h
  |xd fs=>obtain⟨_,⟨_,_,_,h,_⟩,_⟩:=I.hok b _ q;rw[e]at h;cases h
  |rng lo hi=>obtain⟨_,_,_,h⟩:=I.hok b _ q;rw[e]at h;cases h
  |frz ob u=>obtain⟨h,_⟩:=I.hok b _ q;rw[e]at h;cases h
  |tbl ps=>have h:s.heap.get? b=some _:=I.hok b _ q;rw[e]at h;cases h
  |met f y=>have h:s.heap.get? b=some _:=I.hok b _ q;rw[e]at h;cases h
  |ext φ=>obtain⟨_,⟨_,h⟩,_⟩:=I.hok b _ q;rw[e]at h;cases h
def pC (I:Inv X Z9 U H s)(hex:X.ex=[])(hst:X.stack=X.env::X.outer)(hfr:X.env.frame=some X.env.locals){e T0:Addr}{h':Heap}(he:X.s₀.heap.get? e=none)(hT:X.s₀.heap.get? T0=none)(He:H e=none)(HT:H T0=none)
  (hk:∀ b o,s.heap.get? b=some o->b≠e->b≠T0->b∉frs X.stack->h'.get? b=some o) (hs:∀ b∈frs X.stack,∀ o,s.heap.get? b=some o->∃ sl,h'.get? b=some { o with slots:=sl }) :
  Un X.fs [] X.H₀ H X.s₀.heap h'/\ZG X.prog X.w H h':=by
 have nfr:∀ {b:Addr} {o:Obj},X.s₀.heap.get? b=some o->b∉X.fs->b∉frs X.stack:=fun {b o} q n m=>by
  rw[hst]at m;obtain⟨e',h1,h2⟩:=Uy.mp m;rcases qv.mp h1 with rfl|h1
  ·rw[hfr]at h2;cases h2;exact absurd (qA q) (Nat.not_lt.mpr I.ok.above)
  ·exact n (Uy.mpr ⟨e',h1,h2⟩)
 have sub:∀ {b:Addr},b∈X.fs->b∈frs X.stack:=fun {b} m=>by obtain⟨e',h1,h2⟩:=Uy.mp m;rw[hst];exact Uy.mpr ⟨e',qj _ h1,h2⟩
 have nex:∀ b:Addr,b∉X.ex:=fun b=>by rw[hex];simp
 have ne:∀ {b:Addr} {o:Obj},X.s₀.heap.get? b=some o->b≠e/\b≠T0:=fun {b o} q=>⟨fun z=>(by rw[z,he]at q;cases q),fun z=>(by rw[z,hT]at q;cases q)⟩
 have ub:=I.base;refine⟨⟨fun b o q n m _=>?_,fun b o q n m _=>?_,fun b o q n _=>ub.free b o q n (nex b),fun b o q _=>?_,ub.tups,ub.frzs,ub.tbls⟩,fun a o q=>?_⟩
 ·exact hk b o (ub.keep b o q n m (nex b)) (ne q).1 (ne q).2 (nfr q m)
 ·obtain⟨sl,h1⟩:=ub.slot b o q n m (nex b);obtain⟨sl',h2⟩:=hs b (sub m) _ h1;exact⟨sl',h2⟩
 ·obtain⟨o',h1⟩:=ub.there b o q (nex b);by_cases m:b∈frs X.stack
  ·obtain⟨sl,h2⟩:=hs b m o' h1;exact⟨_,h2⟩
  ·exact⟨o',hk b o' h1 (ne q).1 (ne q).2 m⟩
 ·have inn:∀ {b:Addr},H b≠none->b≠e/\b≠T0/\b∉frs X.stack:=fun {b} n=>⟨fun z=>n (by rw[z];exact He),fun z=>n (by rw[z];exact HT),fun z=>n (I.stkFree b z)⟩
  refine(I.hok a o q).stay (fun b u hb r=>?_) (fun _ r=>r) fun _ _ r=>r
  have n:H b≠none:=by
   rcases hb with rfl|hb
   ·rw[q];exact Option.some_ne_none _
   ·rw[hb];exact Option.some_ne_none _
  obtain⟨n1,n2,n3⟩:=inn n;exact hk b u r n1 n2 n3
def è (I:Inv X Z9 U H s)(hex:X.ex=[])(hst:X.stack=X.env::X.outer)(hfr:X.env.frame=some X.env.locals){e C:Addr}{E:ĸ->ĳ->Prop}{Q:Unit->ĳ->Prop}(F:QS X.s₀.heap s.heap e (.ref C) H)
  (hQ:∀ s':ĳ,s'.os=X.s₀.os->AllBare s'.gens->Un X.fs [] X.H₀ H X.s₀.heap s'.heap->ZG X.prog X.w H s'.heap->QS X.s₀.heap s'.heap e (.ref C) H->Q () s'):wpAny (model X.prog X.w) X.A (leaving X.env (.ref e)) Q E s:=by
 obtain⟨he,He,a0,oe,vs,T,oT,ts,f1,f2,f3,f4,f5,f6,f7,f8,f9,HT⟩:=F;have ff:s.heap.FunFrames X.base X.stack:=I.stack;obtain⟨p,hp⟩:∃ p:Addr->Bool,∀ b,p b=true↔b≠e/\b≠T/\b∉frs X.stack:=⟨fun b=>decide (b≠e/\b≠T/\b∉frs X.stack),fun b=>decide_eq_true_iff⟩
 have mno:∀ {b:Addr},¬ (b≠e/\b≠T/\b∉frs X.stack)->(VR s.heap p).get? b=none:=fun {b} n=>by rw[Ms,if_neg (fun z=>n ((hp b).mp z))]
 have myes:∀ {b:Addr} {o:Obj},s.heap.get? b=some o->b≠e->b≠T->b∉frs X.stack->(VR s.heap p).get? b=some o:=fun {b o} q n1 n2 n3=>by rw[Ms,if_pos ((hp b).mpr ⟨n1,n2,n3⟩)];exact q
 have fb:s.heap.FunFrames (VR s.heap p) X.stack:=Dr ff fun L hL=>mno fun z=>z.2.2 hL
 have fl:Heap.FlyingW (VR s.heap p) X.stack e (.ref C) a0 s.heap:=⟨tH _ _,mno fun z=>z.1 rfl,fb,oe,vs,T,oT,ts,f1,f2,f3,f4,mno fun z=>z.2.1 rfl,f6,f7,f8,f9⟩
 have fr:=I.ok.frames;rw[hst]at fr;rw[hst]at fl;refine wpAny_leaves_onW fr hfr fl fun h' ⟨k1,k2,k3,oe',vs',T',oT',ts',g1,g2,g3,g4,g5,g6,g7,g8,g9⟩ us=>?_
 have hs:∀ b∈frs X.stack,∀ o,s.heap.get? b=some o->∃ sl,h'.get? b=some { o with slots:=sl }:=fun b hb o q=>by obtain⟨_,o',h1,h2⟩:=ff.mem hb;rw[q]at h1;cases h1;exact us b o q h2
 have hk:∀ b o,s.heap.get? b=some o->b≠e->b≠T->b∉frs X.stack->h'.get? b=some o:=fun b o q n1 n2 n3=>k1 b o (myes q n1 n2 n3)
 obtain⟨u1,u2⟩:=pC I hex hst hfr he f5 He HT hk hs
 have nT:X.s₀.heap.get? T'=none/\H T'=none:=by
  by_cases z1:T'=T
  ·rw[z1];exact⟨f5,HT⟩
  ·by_cases z2:T'∈frs X.stack
   ·exfalso;obtain⟨_,o',h1,h2⟩:=ff.mem z2;obtain⟨sl,h3⟩:=hs T' z2 o' h1;rw[g7]at h3;cases h3;exact h2 ts' g8
   ·have:s.heap.get? T'=none:=by
     cases q:s.heap.get? T' with
     |none=>rfl
     |some o=>rw[myes q g6 z1 z2]at g5;cases g5
    exact⟨Nt I hex this,Br I this⟩
 exact hQ _ I.os I.bare u1 u2 ⟨he,He,a0,oe',vs',T',oT',ts',g1,g2,g3,g4,nT.1,g6,g7,g8,g9,nT.2⟩
def ϛ (I:Inv X Z9 U H s)(hex:X.ex=[])(hst:X.stack=X.env::X.outer)(hfr:X.env.frame=some X.env.locals){e C:Addr}{args:List ĸ}{h1:Heap}{E:ĸ->ĳ->Prop}{Q:Unit->ĳ->Prop}(hx:s.heap.MadeExcOf h1 e (.ref C) args)
  (hQ:∀ s':ĳ,s'.os=X.s₀.os->AllBare s'.gens->Un X.fs [] X.H₀ H X.s₀.heap s'.heap->ZG X.prog X.w H s'.heap->QS X.s₀.heap s'.heap e (.ref C) H->Q () s'):wpAny (model X.prog X.w) X.A (leaving X.env (.ref e)) Q E { s with heap:=h1 }:=by
 have ff:s.heap.FunFrames X.base X.stack:=I.stack;obtain⟨p,hp⟩:∃ p:Addr->Bool,∀ b,p b=true↔b∉frs X.stack:=⟨fun b=>decide (b∉frs X.stack),fun b=>decide_eq_true_iff⟩
 have mno:∀ {b:Addr},b∈frs X.stack->(VR s.heap p).get? b=none:=fun {b} n=>by rw[Ms,if_neg (fun z=>(hp b).mp z n)]
 have myes:∀ {b:Addr} {o:Obj},s.heap.get? b=some o->b∉frs X.stack->(VR s.heap p).get? b=some o:=fun {b o} q n3=>by rw[Ms,if_pos ((hp b).mpr n3)];exact q
 have fb:s.heap.FunFrames (VR s.heap p) X.stack:=Dr ff fun L hL=>mno hL
 have fr:=I.ok.frames;rw[hst]at fr;rw[hst]at fb;refine wpAny_leaves_madeW (base:=VR s.heap p) (h:=s.heap) fr hfr (tH _ _) fb hx fun h' t ⟨k1,k2,k3,oe',vs',T',oT',ts',g1,g2,g3,g4,g5,g6,g7,g8,g9⟩ _ _ us=>?_
 have us':s.heap.UpToSlots h':=fun b o q n=>us b o (hx.keeps b o q) n
 have hs:∀ b∈frs X.stack,∀ o,s.heap.get? b=some o->∃ sl,h'.get? b=some { o with slots:=sl }:=fun b hb o q=>by obtain⟨_,o',h1,h2⟩:=ff.mem hb;rw[q]at h1;cases h1;exact us' b o q h2
 have hk:∀ b o,s.heap.get? b=some o->b≠e->b≠e->b∉frs X.stack->h'.get? b=some o:=fun b o q _ _ n3=>k1 b o (myes q n3)
 have he:=Nt I hex hx.new;have He:=Br I hx.new;obtain⟨u1,u2⟩:=pC I hex hst hfr he he He He hk hs
 have nT:X.s₀.heap.get? T'=none/\H T'=none:=by
  by_cases z2:T'∈frs X.stack
  ·exfalso;obtain⟨_,o',h1,h2⟩:=ff.mem z2;obtain⟨sl,h3⟩:=hs T' z2 o' h1;rw[g7]at h3;cases h3;exact h2 ts' g8
  ·have:s.heap.get? T'=none:=by
    cases q:s.heap.get? T' with
    |none=>rfl
    |some o=>rw[myes q z2]at g5;cases g5
   exact⟨Nt I hex this,Br I this⟩
 exact hQ _ I.os I.bare u1 u2 ⟨he,He,_,oe',vs',T',oT',ts',g1,g2,g3,g4,nT.1,g6,g7,g8,g9,nT.2⟩
end
def Uv (K:Ĳ)(f:Yq):Sp:=fun vs H Q E=>∃ aD S ds Q0 X0,@zp ⟨aD,H⟩ K aD H S/\zf K aD H ds vs/\f ds S Q0 X0/\@KK ⟨aD,H⟩ K aD H Q0 Q /\
 ∀ (c:Str) (C:Addr) (S':Z7) (aD':List Addr) (H':Hp),X0 c S'->@zp ⟨aD,H⟩ K aD' H' S'->PySem.W.nsIn K mainGlobals c=some (some (.ref C))->E (.ref C) none H'
structure yF (P:Program)(w:World)(K:Ĳ)(mg:Str->Option ĸ)(base:Heap)(k:Nat)(x:Str)(ps:List Str)(sp:Sp):Prop where
 ex:∃ f fd,YS P w K mg base (Vq P w) k f fd ps sp/\Binds K fd ps []/\PySem.W.keepIn K (.ref f)=true/\mg x=some (.ref f)
def Ky [B:Bs](X:Cx)(ex:XR):Prop:=∀ (Z9:List (Addr×Obj)) (U:L2.St) (H:Hp) (s s':ĳ) (aD aD':List Addr) (Z:Z1) (S S':Z7) (c:Str) (C a:Addr) (H':Hp),Inv X Z9 U H s->zp X.K aD H S->Zb X.K aD H Z U->ex Z c S'->zp X.K aD' H' S'->Wd aD H aD' H' ->
 PySem.W.nsIn X.K mainGlobals c=some (some (.ref C))->s'.os=s.os->AllBare s'.gens->Un (frs X.stack) [] H H' s.heap s'.heap->ZG X.prog X.w H' s'.heap->QS s.heap s'.heap a (.ref C) H'->X.xe (.ref a) s'
def Ds [B:Bs](X:Cx)(ex:XR):Prop:=∀ (Z9:List (Addr×Obj)) (U:L2.St) (H:Hp) (s:ĳ) (aD:List Addr) (Z:Z1) (S:Z7) (c:Str) (C e:Addr) (args:List ĸ) (h1:Heap),Inv X Z9 U H s->zp X.K aD H S->Zb X.K aD H Z U->ex Z c S ->
 PySem.W.nsIn X.K mainGlobals c=some (some (.ref C))->s.heap.MadeExcOf h1 e (.ref C) args->X.xe (.ref e) { s with heap:=h1 }
section
variable [B:Bs]{X:Cx}
def Ŕ {k:Nat}{f:Yq}{p pos:Pos}{e:Expr}{es:List Expr}{t:DA}(G:yF X.prog X.w X.K X.mg X.base k x ps (Uv X.K f))(hX:Ky X ex)(hr:zO j X.A)(ha:PAD X (e::es) t)(hk:autoParam (k<=j) zU)(hg:autoParam (Gl X x) zB)(hdb:autoParam ((x==("__debug__":Str))=false) zU)(he:autoParam (starEach (e::es) X.env=(false,eval e X.env)::starEach es X.env) QJ)(hpl:autoParam ((backTo pos (starEach es X.env)).any (·.1)=false) PK) :
  PD X (.Call (.Name x p) (e::es) [] pos) (X8 f ex t):=by
 with_unfolding_all
  intro Z9 s U H Q I h;obtain⟨aD,Z,S,Q0,st,rh,q,kk⟩:=h;obtain⟨fa,fd,F,b,kp,m⟩:=G.ex;have F:=F.mono hk;refine wpAny_Call_Name_kw (Qd I hg m ?_ hdb);have hA:=ha pos Z9 s U H (fun vs H1=>∃ ds S1 ad1,f ds S1 Q0 (ex Z)/\Wd aD H ad1 H1/\zp X.K ad1 H1 S1/\zf X.K ad1 H1 ds vs) I ⟨aD,Z,S,_,st,rh,q,fun ds S1 vs H1 ad1 q1 w1 st1 r1=>⟨ds,S1,ad1,q1,w1,st1,r1⟩⟩;refine PySem.W.callWith_K (h₀:=X.base) I.ok.mod.kin kp (Z2 hA fun us s1 ⟨vs,H1,I1,r,q1⟩=>⟨I1.kIn,?_⟩) he hpl;obtain⟨ds,S1,ad1,q1,w1,st1,r1⟩:=q1
  have hsp:Uv X.K f vs H1 Q (fun cls _ H'=>∃ c C S' aD',cls=Value.ref C/\ex Z c S'/\zp X.K aD' H' S'/\Wd ad1 H1 aD' H'/\PySem.W.nsIn X.K mainGlobals c=some (some (.ref C))) :=⟨ad1,S1,ds,Q0,ex Z,st1.base,r1,q1,(kk.wd w1).base st1,fun c C S' aD' H' hx st' hn=>⟨c,C,S',aD',rfl,hx,st1.back st',@zp.wd ⟨ad1,H1⟩ _ _ _ _ st',hn⟩⟩
  have hl:us.length=ps.length:=by rw[<- r.length];exact F.len _ _ _ _ hsp
  refine wpAny_call (codeAny_mono (F.run X.A X.stack s1 H1 ⟨us,[]⟩ us vs Q _ hr I1.env0 (by have:=b s1 us I1.kIn (by rw[qY];exact hl);rwa[qY]at this) r hsp) fun res s' hq=>?_);cases res with
  |error e =>obtain⟨a,C,H',rfl,os,bare,un,hok,fly,c,C',S',aD',hC,hx,st',wd',hn⟩:=hq;cases hC;exact hX Z9 U H1 s1 s' ad1 aD' Z S1 S' c C a H' I1 st1 (rh.wd w1) hx st' wd' hn os bare un hok fly
  |ok fl =>
   cases fl with
   |ret u=>exact I1.after hq
   |next=>exact False.elim hq
   |brk=>exact False.elim hq
   |cont=>exact False.elim hq
def Hf:Ky X xF:=fun _ _ _ _ _ _ _ _ _ _ _ _ _ _ _ _ _ h=>h.elim
structure Lh (K:Ĳ)(C:Addr):Prop where
 ex:∃ nm q N bs bm hdct sn sub ab col dd k0 k1 k2 k3 k5,K.lookup C=some (excClassObj nm q C N bs bm hdct sn sub ab col dd k0 k1 k2 k3 k5 "ValueError.__new__")/\PySem.W.nsOkIn K N=true/\PySem.W.nsIn K N "__init__"=some none /\
  PySem.W.tailIn K [.type "ValueError",.type "Exception",.type "BaseException",.type "object"] bm=true
def ż {x:Str}{np cpos pos:Pos}{e:Expr}{t:DA}(hX:Ds X ex)(hc:X.calm=true)(hC:∀ C,PySem.W.nsIn X.K mainGlobals x=some (some (.ref C))->Lh X.K C)(hx:∃ C,PySem.W.nsIn X.K mainGlobals x=some (some (.ref C))/\X.mg x=some (.ref C))(hg:Gl X x)(ha:PAD X [e] t)(ht:∀ Z S Q,(∀ d,Q [d] S)->t Z S Q)(hdb:autoParam ((x==("__debug__":Str))=false) zU)(he:autoParam (starEach [e] X.env=(false,eval e X.env)::starEach [] X.env) zB) :
  Zr X (.Raise (some (.Call (.Name x np) [e] [] cpos)) none pos) (SN ex x):=by
 with_unfolding_all
  intro Z9 s U H D I h;obtain⟨aD,Z,S,E0,st,rh,q,k⟩:=h;obtain⟨C,hn,hm⟩:=hx;obtain⟨nm,qn,N,bs,bm,hdct,sn,sub,ab,col,dd,k0,k1,k2,k3,k5,lk,no,ni,tl⟩:=(hC C hn).ex;have kin:=I.kIn;have T:=PySem.W.tail_of_in kin tl;have hv:=ha cpos Z9 s U H (fun vs H1=>vs.length=1/\∃ ad1,Wd aD H ad1 H1/\zp X.K ad1 H1 S) I ⟨aD,Z,S,fun ds S'=>ds.length=1/\S'=S,st,rh,ht _ _ _ (fun d=>⟨rfl,rfl⟩),fun ds S' vs H' aD' e' w' st' r'=>⟨by rw[<- r'.length];exact e'.1,aD',w',e'.2▸st'⟩⟩;refine wpAny_Raise_call_subT (C:=C) (nm:=nm) (q:=qn) (N:=N) (bs:=bs) (bm:=bm) (hdct:=hdct) (sn:=sn) (sub:=sub) (ab:=ab) (col:=col) (dd:=dd) (k0:=k0) (k1:=k1) (k2:=k2) (k3:=k3) (k5:=k5) PySem.F.excBase_ValueError (T.hasType PySem.F.excBase_ValueError.hasBase) (I.ok.hd hc) (by rw[he];rfl) (PySem.W.nsMap_none_of_in I.ok.mod.kin no ni) (Qd I hg hm ⟨rfl,?_⟩ hdb);rw[he]at hv ⊢;refine Calls.evalArgs_plain (wpAny_mono hv (fun us s1 hq=>?_) fun _ _ y=>y);obtain⟨vs,H1,I1,r,hl,ad1,w1,st1⟩:=hq;have k1':=I1.kIn;have hlen:us.length<=sizeLine:=by rw[<- r.length,hl];decide
  exact⟨rfl,hlen,k1' _ _ lk,(Heap.Ns.of_isNs (PySem.W.isNs_of_in I.ok.mod.kin no)).keeps I1.bk,PySem.W.tail_of_in k1' tl,fun h' e' hx=>hX Z9 U H1 s1 ad1 Z S x C e' us h' I1 st1 (rh.wd w1) q hn hx⟩
abbrev RJ (X:Cx):Cx:={ X with xe:=fun _ _=>False }
omit B in
def xQ (I:Inv X Z9 U H s):Inv (RJ X) Z9 U H s :=⟨⟨I.ok.mod,I.ok.kind,I.ok.glob,I.ok.blt,I.ok.above,I.ok.inj,I.ok.has,I.ok.cab,I.ok.hd,I.ok.frames,I.ok.stk,I.ok.exf,I.ok.bs,I.ok.bsz,I.ok.noex,I.ok.exfs,I.ok.funs,I.ok.frf⟩,I.os,I.bare,I.base,I.loc,I.cell,I.free,I.freeC,I.pin,I.hok,I.len⟩
omit B in
def LC (I:Inv (RJ X) Z9 U H s):Inv X Z9 U H s :=⟨⟨I.ok.mod,I.ok.kind,I.ok.glob,I.ok.blt,I.ok.above,I.ok.inj,I.ok.has,I.ok.cab,I.ok.hd,I.ok.frames,I.ok.stk,I.ok.exf,I.ok.bs,I.ok.bsz,I.ok.noex,I.ok.exfs,I.ok.funs,I.ok.frf⟩,I.os,I.bare,I.base,I.loc,I.cell,I.free,I.freeC,I.pin,I.hok,I.len⟩
def rK {e:Expr}{t:DE}(h:PD (RJ X) e t):PD X e t:=by with_unfolding_all exact(fun Z9 s U H Q I q =>wpAny_mono (h Z9 s U H Q (xQ I) q) (by rintro v s1 ⟨x,H1,I1,r⟩;exact⟨x,H1,LC I1,r⟩) fun _ _ z=>z.elim)
def dX {st:Stmt}{t:DS}(h:Zr (RJ X) st t):Zr X st t:=by with_unfolding_all exact(fun Z9 s U H D I q =>
 wpAny_mono (h Z9 s U H D (xQ I) q) (fun f s1 hf=>by
  cases f with
  |next=>obtain⟨σ',H',I',q'⟩:=hf;exact⟨σ',H',LC I',q'⟩
  |brk=>obtain⟨σ',H',I',q'⟩:=hf;exact⟨σ',H',LC I',q'⟩
  |cont=>obtain⟨σ',H',I',q'⟩:=hf;exact⟨σ',H',LC I',q'⟩
  |ret u=>obtain⟨v,σ',H',I',r,q'⟩:=hf;exact⟨v,σ',H',LC I',r,q'⟩) fun _ _ z=>z.elim)
structure pA (P:Program)(w:World)(K:Ĳ)(mg:Str->Option ĸ)(base:Heap)(k:Nat)(x c:Str)(init:Yq):Prop where
 ex:∃ (C f:Addr) (fd:FuncData) (ps:List Str),Mk K C f/\YS P w K mg base (Vq P w) k f fd ps (Uv K init)/\Binds K fd ps []/\mg x=some (.ref C)/\Cls K C/\PySem.W.nsIn K mainGlobals c=some (some (.ref C))
def iU {k:Nat}{p pos:Pos}{e:Expr}{es:List Expr}{t:DA}(G:pA X.prog X.w X.K X.mg X.base k x c init)(hX:Ky X ex)(hr:zO j X.A)(ha:PAD X (e::es) t)(hk:autoParam (k+1<=j) zU)(hg:autoParam (Gl X x) zB)(hdb:autoParam ((x==("__debug__":Str))=false) zU)(he:autoParam (starEach (e::es) X.env=(false,eval e X.env)::starEach es X.env) QJ)(hpl:autoParam ((backTo pos (starEach es X.env)).any (·.1)=false) PK) :
  PD X (.Call (.Name x p) (e::es) [] pos) (X8 (Dh c init) ex t):=by
 with_unfolding_all
  intro Z9 s U H Q I h;obtain⟨aD,Z,S,Q0,st,rh,q,kk⟩:=h;obtain⟨C,fa,fd,ps,M,F,b,m,hcl,hcn⟩:=G.ex;have hr':=hr.mono hk;refine wpAny_Call_Name_kw (Qd I hg m ?_ hdb);have hA:=ha pos Z9 s U H (fun vs H1=>∃ ds S1 ad1,Dh c init ds S1 Q0 (ex Z)/\Wd aD H ad1 H1/\zp X.K ad1 H1 S1/\zf X.K ad1 H1 ds vs) I ⟨aD,Z,S,_,st,rh,q,fun ds S1 vs H1 ad1 q1 w1 st1 r1=>⟨ds,S1,ad1,q1,w1,st1,r1⟩⟩;refine PySem.W.callWith_K (h₀:=X.base) I.ok.mod.kin M.kp (Z2 hA fun us s1 ⟨vs,H1,I1,r,q1⟩=>⟨I1.kIn,?_⟩) he hpl;obtain⟨ds,S1,ad1,q1,w1,st1,r1⟩:=q1;have f1:H1 (s1.heap.objs.size+1)=none:=I1.hok.fresh (Nat.le_succ _);have f2:H1 s1.heap.objs.size=none:=I1.hok.fresh (qh _);have f3:s1.heap.objs.size≠s1.heap.objs.size+1:=qZ (Lg _);obtain⟨w2,st2⟩:=st1.newI (c:=c) f1 f2 f3 hcl hcn;have I2:=Inv.made (C:=C) I1;generalize hx0:s1.heap.objs.size+1=x0 at *;generalize hH2:upd (upd H1 s1.heap.objs.size (.own x0)) x0 (.ins C s1.heap.objs.size [])=H2 at *;have rx:Rel X.K (ad1++[x0]) H2 (.ref S1.length) (.ref x0):=.ref (by rw[<- st1.len,qe (qh _),Yk];rfl);have q2:init (.ref S1.length::ds) (S1++[.ins c []]) (fun d S2=>d=.non/\Q0 (.ref S1.length) S2) (ex Z):=q1
  have hsp:Uv X.K init (.ref x0::vs) H2 (fun v H3=>v=.non/\Q (.ref x0) H3) (fun cls _ H'=>∃ c C S' aD',cls=Value.ref C/\ex Z c S'/\zp X.K aD' H' S'/\Wd (ad1++[x0]) H2 aD' H'/\PySem.W.nsIn X.K mainGlobals c=some (some (.ref C))) :=
   ⟨ad1++[x0],S1++[.ins c []],.ref S1.length::ds,_,ex Z,st2.base,.cons rx (r1.wd w2),q2,fun d S' v H' aD' hq w' st' rv=>by obtain⟨rfl,hq⟩:=hq;cases rv;exact⟨rfl,kk _ S' _ H' aD' hq ((w1.trans w2).trans w') (st2.back st') (rx.wd w')⟩,fun c C S' aD' H' hx st' hn=>⟨c,C,S',aD',rfl,hx,st2.back st',@zp.wd ⟨ad1++[x0],H2⟩ _ _ _ _ st',hn⟩⟩
  have r2:Vals (V.ref x0::vs) (Value.ref x0::us):=.cons rfl r;have hl:(Value.ref x0::us).length=ps.length:=by rw[<- r2.length];exact F.len _ _ _ _ hsp
  have hb:=b _ (Value.ref x0::us) I2.kIn (by rw[qY];exact hl);rw[qY]at hb;subst hx0
  refine wpAny_call (oN (f:=fa) I1.kIn M.makes M.init (beq_iff_eq.mp M.fn) (codeAny_mono (F.run _ X.stack _ H2 ⟨Value.ref (s1.heap.objs.size+1)::us,[]⟩ (Value.ref (s1.heap.objs.size+1)::us) _ _ _ (hr'.make C us [])
   (I2.env0.make C us []) hb r2 hsp) fun res s' hq=>?_))
  cases res with
  |error e =>obtain⟨a,C',H',rfl,os,bare,un,hok,fly,c',C'',S',aD',hC,hx,st',wd',hn⟩:=hq;cases hC;exact hX Z9 U H2 _ s' (ad1++[s1.heap.objs.size+1]) aD' Z (S1++[.ins c []]) S' c' C' a H' I2 st2 ((rh.wd w1).wd w2) hx st' wd' hn os bare un hok fly
  |ok fl =>
   cases fl with
   |ret u =>obtain⟨v,H',I3,rv,ev,q3⟩:=I2.after hq;subst ev;exact⟨rv,⟨V.ref (s1.heap.objs.size+1),H',I3,rfl,q3⟩⟩
   |next=>exact False.elim hq
   |brk=>exact False.elim hq
   |cont=>exact False.elim hq
omit B in
def zpE {P:Program}{w:World}{K:Ĳ}{mg:Str->Option ĸ}{base:Heap}{st:Stmt}{k:Nat}{sp:Yq}(F:W9 K x qual st f fd)(S:Qe N ps (zG st))(len:∀ ds So Q ex,sp ds So Q ex->ds.length=ps.length)(body:Vp N.length b sp)(term:∀ (cdv:ĸ) (A:Around) (outer:List Env) (s:ĳ) (H:Hp) (E:XK),zO k (A.deeper (envOfC qual (zG st) s.heap.objs.size f cdv))->∀ [Bs] (ex:XR),Ky (Va (Vq P w) P w K mg base N qual (zG st) f cdv A outer s H E) ex->Ds (Va (Vq P w) P w K mg base N qual (zG st) f cdv A outer s H E) ex->Wz (Va (Vq P w) P w K mg base N qual (zG st) f cdv A outer s H E) (X7 st) (b ex)) :
  YS P w K mg base (Vq P w) (k+1) f fd ps (Uv K sp):=by
 with_unfolding_all
  obtain⟨oc,od,kV,doc,pm,an,cdv,ct,osl,rfl,lk,hcd⟩:=F.ex;refine lQ lk hcd S (by rintro vs H Q E ⟨aD,So,ds,Q0,X0,so,r,hf,kk,kx⟩;exact by rw[<- r.length];exact len ds So Q0 X0 hf) fun A outer s H vs Q E hr ⟨aD,So,ds,Q0,X0,so,r,hf,kk,kx⟩=>?_
  letI:Bs:=⟨aD,H⟩
  have end1:∀ (c:Str) (C a:Addr) (S':Z7) (aD':List Addr) (H':Hp) (s':ĳ),X0 c S'->zp K aD' H' S'->PySem.W.nsIn K mainGlobals c=some (some (.ref C))->s'.os=s.os->AllBare s'.gens->Un (frs outer) [] H H' s.heap s'.heap->ZG P w H' s'.heap->QS s.heap s'.heap a (.ref C) H'->Vq P w outer H s E (.ref a) s' :=fun c C a S' aD' H' s' hx st' hn o1 o2 o3 o4 o5=>⟨a,C,H',rfl,o1,o2,o3,o4,o5,kx c C S' aD' H' hx st' hn⟩
  refine⟨_,term cdv A outer s H E hr (fun _=>X0) ?_ ?_,aD,Tg N.length ds,So,_,so,lJ N r,body ds So Q0 X0 hf,⟨fun Z S' U H' aD' q w' st' rh=>Ip so kk .non S' .non H' aD' q w' st' .non,Ip so kk,fun _ _ _ _ _ q=>q.elim,fun _ _ _ _ _ q=>q.elim⟩⟩
  ·intro Z9 U H1 s1 s' ad1 aD' Z S1 S' c C a H' I st1 rh hx st' wd' hn os bare un hok fly;have I':=I.call' (ch:=[]) os un hok bare (fun b z=>absurd z (by simp))
   have f0:QS s.heap s'.heap a (.ref C) H':=by obtain⟨g1,g2,a0,oe,vs,T,oT,ts,h1,h2,h3,h4,h5,h6⟩:=fly;exact⟨Nt I rfl g1,g2,a0,oe,vs,T,oT,ts,h1,h2,h3,h4,Nt I rfl h5,h6⟩
   exact è I' rfl rfl rfl f0 fun s'' o1 o2 o3 o4 o5=>end1 c C a S' aD' H' s'' hx st' hn o1 o2 o3 o4 o5
  ·intro Z9 U H1 s1 ad1 Z S1 c C e args h1 I st1 rh hx hn hmade;exact ϛ I rfl rfl rfl hmade fun s'' o1 o2 o3 o4 o5=>end1 c C e S1 ad1 H1 s'' hx st1 hn o1 o2 o3 o4 o5
end
def lB (K:Ĳ)(C:Addr)(sl:List (Option ĸ)):PySem.Data->Bool
 | .cls cd=>cd.mro.head?==some (.ref C)&&!cd.hasDel&&sl.length==6&&sl[4]?==some (some (.builtin "ValueError.__new__"))&&PySem.W.nsOkIn K cd.ns&&PySem.W.nsIn K cd.ns "__init__"==some none&&PySem.W.tailIn K [.type "ValueError",.type "Exception",.type "BaseException",.type "object"] cd.mro.tail
 |_=>false
def HB (K:Ĳ)(C:Addr):Bool:=(K.lookup C).any fun o=>o.cls==.type "type"&&lB K C o.slots.toList o.data
def Lh.of {K:Ĳ}{C:Addr}(q:HB K C=true):Lh K C:=by
 unfold HB at q;cases ho:K.lookup C with
 |none=>rw[ho]at q;cases q
 |some o =>
  rw[ho]at q;obtain⟨c,dd,d,⟨sl⟩⟩:=o;have q':(c==.type "type"&&lB K C sl d)=true:=q;rw[qq,beq_iff_eq]at q';obtain⟨rfl,q⟩:=q';cases d with
  |cls cd =>
   obtain⟨nm,bs,mro,ns,qn,hd,sn,sub,ab,col,del⟩:=cd;have q':(mro.head?==some (.ref C)&&!del&&sl.length==6&&sl[4]?==some (some (.builtin "ValueError.__new__"))&&PySem.W.nsOkIn K ns&&PySem.W.nsIn K ns "__init__"==some none&&PySem.W.tailIn K [.type "ValueError",.type "Exception",.type "BaseException",.type "object"] mro.tail)=true:=q;simp only[qq,beq_iff_eq,Bool.not_eq_true']at q';obtain⟨⟨⟨⟨⟨⟨e1,rfl⟩,e2⟩,e3⟩,h1⟩,h2⟩,h3⟩:=q';cases mro with
   |nil=>cases e1
   |cons m bm =>cases e1;obtain⟨k0,k1,k2,k3,k4,k5,rfl⟩:=ò e2;cases e3;exact⟨nm,qn,ns,bs,bm,hd,sn,sub,ab,col,dd,k0,k1,k2,k3,k5,ho,h1,h2,h3⟩
  |_=>cases q
section
variable {X:Cx}[B:Bs]
def â:MD X "list.pop" Ht:=⟨_,jr,by
 rintro aD H S x ds v vs Q0 Q st rx r ⟨n,xs,y,ex,ey,hn,q⟩ k;subst ex ey;obtain⟨u,rfl,ru⟩:=Xh r;cases ru;cases rx with
 |ref e =>
  obtain⟨ws,hw,rw⟩:=st.cell n _ _ e hn;cases rw with
  |@cons _ w _ ws' rw1 rw2 =>have w':=Wd.put (ws:=ws') e hw;exact⟨_,w::ws',0,0,w,rfl,rfl,hw,by decide,by decide,by unfold seqIndex?;simp,rfl,k _ _ _ _ aD q w' (st.put e hw rw2) (rw1.wd w')⟩⟩
end
section
variable {K:Ĳ}{aD:List Addr}{H:Hp}{S:Z7}[B:Bs]
omit B in
theorem RelK.val:∀ {fs:List (Str×D)} {vs:List (Key×V)} (z:Str),RelK K aD H fs vs->(dval fs z=none/\L2.Yz vs (Sum.inr z:Key)=none)\/∃ d v,dval fs z=some d/\L2.Yz vs (Sum.inr z:Key)=some v/\Rel K aD H d v
 |_,_,z,.nil=>.inl ⟨rfl,L2.kW⟩
 |_,_,z,@RelK.cons _ _ _ x d v fs vs r t=>by
  by_cases h:x=z
  ·exact .inr ⟨d,v,by rw[Ws,if_pos h],by rw[L2.Pz (by rw[h])],r⟩
  ·have h':¬ (Sum.inr x:Key)=Sum.inr z:=fun e=>h (Sum.inr.inj e)
   rw[Ws,if_neg h,L2.Qa h'];exact RelK.val z t
omit B in
theorem zV.val {κ:Type}[DecidableEq κ]:∀ {fs:List (κ×D)} {vs:List (κ×V)} (z:κ),zV K aD H fs vs->(dval fs z=none/\L2.Yz vs z=none)\/∃ d v,dval fs z=some d/\L2.Yz vs z=some v/\Rel K aD H d v
 |_,_,z,.nil=>.inl ⟨rfl,L2.kW⟩
 |_,_,z,@zV.cons _ _ _ _ x d v fs vs r t=>by
  by_cases h:x=z
  ·exact .inr ⟨d,v,by rw[Ws,if_pos h],by rw[L2.Pz h],r⟩
  ·rw[Ws,if_neg h,L2.Qa h];exact zV.val z t
omit B in
theorem RelK.snoc {x:Str}(rd:Rel K aD H d v):∀ {fs:List (Str×D)} {vs:List (Key×V)},RelK K aD H fs vs->RelK K aD H (fs++[(x,d)]) (vs++[(.inr x,v)])
 |_,_,.nil=>.cons rd .nil
 |_,_,.cons r t=>.cons r (RelK.snoc rd t)
omit B in
theorem zV.snoc {κ:Type}{x:κ}(rd:Rel K aD H d v):∀ {fs:List (κ×D)} {vs:List (κ×V)},zV K aD H fs vs->zV K aD H (fs++[(x,d)]) (vs++[(x,v)])
 |_,_,.nil=>.cons rd .nil
 |_,_,.cons r t=>.cons r (zV.snoc rd t)
omit B in
theorem RelK.repl {z:Str}(rd:Rel K aD H d v):∀ {fs:List (Str×D)} {vs:List (Key×V)},RelK K aD H fs vs->RelK K aD H (fs.map fun kv=>if kv.1=z then(kv.1,d)else kv) (vs.map fun kv=>if kv.1=(Sum.inr z:Key)then(kv.1,v)else kv)
 |_,_,.nil=>.nil
 |_,_,@RelK.cons _ _ _ x d' v' fs vs r t=>by
  rw[qQ,qQ];by_cases h:x=z
  ·rw[if_pos h,if_pos (by rw[h])];exact .cons rd (RelK.repl rd t)
  ·rw[if_neg h,if_neg (fun e=>h (Sum.inr.inj e))];exact .cons r (RelK.repl rd t)
omit B in
theorem zV.repl {κ:Type}[DecidableEq κ]{z:κ}(rd:Rel K aD H d v):∀ {fs:List (κ×D)} {vs:List (κ×V)},zV K aD H fs vs->zV K aD H (fs.map fun kv=>if kv.1=z then(kv.1,d)else kv) (vs.map fun kv=>if kv.1=z then(kv.1,v)else kv)
 |_,_,.nil=>.nil
 |_,_,@zV.cons _ _ _ _ x d' v' fs vs r t=>by
  rw[qQ,qQ];by_cases h:x=z
  ·rw[if_pos h,if_pos h];exact .cons rd (zV.repl rd t)
  ·rw[if_neg h,if_neg h];exact .cons r (zV.repl rd t)
omit B in
def RelK.put {z:Str}(rd:Rel K aD H d v){fs:List (Str×D)}(r:RelK K aD H fs vs):RelK K aD H (dput fs z d) (putK vs (Sum.inr z:Key) v):=by
 unfold dput putK;rw[Qp,L2.MK];rcases r.val z with⟨e1,e2⟩|⟨d',v',e1,e2,_⟩
 ·rw[e1,e2];rw[if_neg (by simp),if_neg (by simp)];exact r.snoc rd
 ·rw[e1,e2];rw[if_pos (by simp),if_pos (by simp)];exact r.repl rd
omit B in
def zV.put {κ:Type}[DecidableEq κ]{z:κ}{d:D}{v:V}(rd:Rel K aD H d v){fs:List (κ×D)}{vs:List (κ×V)}(r:zV K aD H fs vs):zV K aD H (dput fs z d) (putK vs z v):=by
 unfold dput putK;rw[Qp,L2.MK];rcases r.val z with⟨e1,e2⟩|⟨d',v',e1,e2,_⟩
 ·rw[e1,e2];rw[if_neg (by simp),if_neg (by simp)];exact r.snoc rd
 ·rw[e1,e2];rw[if_pos (by simp),if_pos (by simp)];exact r.repl rd
omit B in
theorem RelK.length:∀ {fs:List (Str×D)} {vs:List (Key×V)},RelK K aD H fs vs->fs.length=vs.length
  |_,_,.nil=>rfl
  |_,_,.cons _ t=>congrArg (· + 1) (RelK.length t)
omit B in
theorem zV.length {κ:Type}:∀ {fs:List (κ×D)} {vs:List (κ×V)},zV K aD H fs vs->fs.length=vs.length
  |_,_,.nil=>rfl
  |_,_,.cons _ t=>congrArg (· + 1) (zV.length t)
omit B in
theorem Ov:∀ {ks:List Key} {vs:List V},zf K aD H (ks.map kD) vs->vs=ks.map kV
 |[],_,.nil=>rfl
 |.inl i::ks,_,.cons r t=>by
  have e:∀ {d:D} {v:V},d=.int i->Rel K aD H d v->v=.int i:=fun e r=>by subst e;cases r;rfl
  rw[e rfl r,Ov t];rfl
 |.inr x::ks,_,.cons r t=>by
  have e:∀ {d:D} {v:V},d=.str x->Rel K aD H d v->v=.str x:=fun e r=>by subst e;cases r;rfl
  rw[e rfl r,Ov t];rfl
omit B in
theorem Cq:∀ {ks:List (List Key)} {vs:List V},zf K aD H (ks.map kN) vs->∃ bs:List Addr,vs=bs.map V.ref/\Paired (fun (k:List Key) (c:Addr)=>H c=some (.tup (k.map kV))) ks bs
 |[],_,.nil=>⟨[],rfl,.nil⟩
 |k::ks,_,.cons r t=>by
  obtain⟨bs,e,p⟩:=Cq t;cases r with
  |tup h q=>exact⟨_::bs,by rw[e];rfl,.cons (by rw[h,Ov q]) p⟩
def zp.newC (st:zp K aD H S){o:HO}(h:H l=none)(hc:Wc K (aD++[l]) (upd H l o) l c):zp K (aD++[l]) (upd H l o) (S++[c]) where
 wd:=st.wd.trans (Wd.newL st h)
 len:=by rw[qf,qf,st.len];rfl
 nd:=by
  rw[VF];refine⟨st.nd,by simp,fun a ha b hb e=>?_⟩;have:b=l:=by simpa using hb
  subst this;subst e;exact st.fresh h ha
 cell:=fun n a c' e1 e2=>by
  by_cases hn:n<aD.length
  ·rw[qg hn]at e1;rw[qg (by rw[<- st.len];exact hn)]at e2;have ok:=st.cell n a c' e1 e2;obtain⟨u,e⟩:=ok.some;exact ok.wd (Wd.newL st h) (by rw[U7 h e,e])
  ·have hn':aD.length<=n:=Rc hn;rw[qe hn']at e1;rw[qe (by rw[<- st.len];exact hn'),<- st.len]at e2;cases hk:n-aD.length with
   |zero =>
    rw[hk]at e1 e2;have e1':l=a:=by simpa using e1
    have e2':c=c':=by simpa using e2
    subst e1' e2';exact hc
   |succ k=>rw[hk]at e1;simp at e1
omit B in
def Wd.putC {n:Nat}{a:Addr}{o o':HO}(e:aD[n]?=some a)(h:H a=some o)(h1:∀ xs,o≠.tup xs)(h2:∀ q u,o≠.frz q u):Wd aD H aD (upd H a o') :=
 ⟨Pb _,fun b u hb q=>by
   have:b≠a:=fun z=>hb (by rw[z];exact qd e)
   rw[zA this];exact q,
  fun b xs q=>by rw[zA (VD q h (fun z=>h1 xs z.symm))];exact q,fun b o u q=>by rw[zA (VD q h (fun z=>h2 o u z.symm))];exact q,fun _ m n=>absurd m n⟩
theorem zp.putC (st:zp K aD H S){n:Nat}{a:Addr}{o o':HO}(e:aD[n]?=some a)(h:H a=some o)(h1:∀ xs,o≠.tup xs)(h2:∀ q u,o≠.frz q u)(hc:Wc K aD (upd H a o') a c):zp K aD (upd H a o') (S.set n c) where
 wd:=st.wd.trans (Wd.putC e h h1 h2)
 len:=by rw[Xb];exact st.len
 nd:=st.nd
 cell:=fun m b c' e1 e2=>by
  have w:Wd aD H aD (upd H a o'):=Wd.putC e h h1 h2;by_cases hm:m=n
  ·subst hm;rw[e]at e1;cases e1;rw[qU (by rw[<- st.len];exact My.V9 e)]at e2;cases e2;exact hc
  ·rw[qP (Ne.symm hm)]at e2
   have ne:b≠a:=fun z=>by subst z;have q1:=(Ud.mp e1).2;have q2:=(Ud.mp e).2;exact hm ((Sx st.nd).mp (q1.trans q2.symm))
   exact(st.cell m b c' e1 e2).wd w (zA ne)
def Pr (st:zp K aD H S)(rx:Rel K aD H x v)(ry:Rel K aD H y u)(g:Zj S x y o):∃ a o',v=.ref a/\Yr H a u o'/\((o=none/\o'=none)\/∃ d w,o=some d/\o'=some w/\Rel K aD H d w):=by
 rcases g with⟨n,Z8,z,rfl,rfl,hn,rfl⟩|⟨n,Z8,ks,rfl,rfl,hn,rfl⟩|⟨n,Z8,ep,ks,rfl,rfl,hn,rfl⟩
 ·cases ry;cases rx with
  |ref e =>obtain⟨vs,hv,r⟩:=st.cell n _ _ e hn;exact⟨_,_,rfl,Yr.k (k:=Sum.inr z) hv,r.val z⟩
 ·cases rx with
  |ref e =>
   obtain⟨vs,hv,r⟩:=st.cell n _ _ e hn;cases ry with
   |tup hb rb =>have e2:=Ov rb;subst e2;exact⟨_,_,rfl,Yr.t hv hb,r.val ks⟩
 ·cases rx with
  |ref e =>
   obtain⟨vs,hv,r⟩:=st.cell n _ _ e hn;cases ry with
   |tup hb rb =>obtain⟨bs,rfl,p⟩:=Cq rb;exact⟨_,_,rfl,Yr.n hv ⟨bs,hb,p⟩,r.val ks⟩
def znl (st:zp K aD H S)(rx:Rel K aD H x v)(g:Fj S x):∃ a,v=.ref a/\Gv H a:=by
 obtain⟨n,rfl,g⟩:=g;cases rx with
 |ref e =>
  rcases g with⟨Z8,hn⟩|⟨Z8,hn⟩|⟨Z8,ep,hn⟩
  ·obtain⟨vs,hv,_⟩:=st.cell n _ _ e hn;exact⟨_,rfl,.inl ⟨vs,.inl hv⟩⟩
  ·obtain⟨vs,hv,_⟩:=st.cell n _ _ e hn;exact⟨_,rfl,.inr (.inl ⟨vs,.inl hv⟩)⟩
  ·obtain⟨vs,hv,_⟩:=st.cell n _ _ e hn;exact⟨_,rfl,.inr (.inr ⟨vs,ep,.inl hv⟩)⟩
end
section
variable {X:Cx}{a b c:Expr}{td ti tz tv:DE}{pos apos cpos:Pos}[B:Bs]
def zrm:PD X (.Dict [] [] pos) Mz:=by with_unfolding_all exact(zW zoi fun U H Q hh=>ZW hh fun aD Z S Q0 st rh q k p hp =>k _ _ _ _ _ q (Wd.newL st hp) (st.newC hp ⟨[],zL,.nil⟩) st.newRef)
def zqp:PD X (.Dict [] [] pos) CW:=by with_unfolding_all exact(zW zow fun U H Q hh=>ZW hh fun aD Z S Q0 st rh q k p hp =>k _ _ _ _ _ q (Wd.newL st hp) (st.newC hp ⟨[],zL,.nil⟩) st.newRef)
def Ì:PD X (.Dict [] [] pos) Lx:=by with_unfolding_all exact(zW j9 fun U H Q hh=>ZW hh fun aD Z S Q0 st rh q k p hp =>k _ _ _ _ _ q (Wd.newL st hp) (st.newC hp ⟨[],zL,.nil⟩) st.newRef)
def zoS {tk:DE}(hr:zO j X.A)(hk:PD X a tk)(hv:PD X b tv):PD X (.Dict [some a] [b] pos) (Lr tk tv):=by with_unfolding_all exact(zW (ų (Uu hr) hk hv) fun U H Q hh=>ZW hh fun aD Z S Q0 st rh q k p hp =>
 ⟨aD++[p],Z,S++[.dt []],_,st.newC (c:=.dt []) hp ⟨[],zL,.nil⟩,rh.wd (Wd.newL st hp),(show tk Z (S++[.dt []]) _ from q),fun x S1 v H1 ad1 q1 w1 st1 r1=>⟨ad1,Z,S1,_,st1,(rh.wd (Wd.newL st hp)).wd w1,q1,by
  rintro y S2 u H2 ad2 ⟨ks,ex,hn,q2⟩ w2 st2 r2;subst ex;have w12:=(Wd.newL (o:=.dT []) st hp).trans (w1.trans w2)
  have e:ad2[S.length]?=some p:=by refine RL (w1.trans w2).pre ?_;rw[<- st.len,qe (qh _),Yk];rfl
  obtain⟨vs,hv',r⟩:=st2.cell S.length _ _ e hn;cases r;cases r1.wd w2 with
  |tup hb rb =>
   have e2:=Ov rb;subst e2;have h1:∀ xs,HO.dT []≠.tup xs:=fun _ z=>by cases z
   have h2:∀ q u,HO.dT []≠.frz q u:=fun _ _ z=>by cases z
   have w':=Wd.putC (o':=.dT [(ks,u)]) e hv' h1 h2;exact⟨_,ks,rfl,hb,hv',k _ _ _ _ _ q2 (w12.trans w') (st2.putC e hv' h1 h2 ⟨_,zL,.cons (r2.wd w') .nil⟩) (.ref e)⟩⟩⟩)
def ztT (hr:zO j X.A)(ho:PD X a td)(hi:PD X b ti)(hs:autoParam (JL b) kY):PD X (.Subscript a b pos) (Vx td ti):=by with_unfolding_all exact(zW (eG (Uu hr) ho hi hs) fun U H Q hh=>ZW hh fun aD Z S Q0 st rh q k =>
 ⟨aD,Z,S,_,st,rh,q,fun x S1 v H1 ad1 q1 w1 st1 r1=>⟨ad1,Z,S1,_,st1,rh.wd w1,q1,by
  rintro y S2 u H2 ad2 ⟨d,g,q2⟩ w2 st2 r2;obtain⟨p,o',rfl,g',h⟩:=Pr st2 (r1.wd w2) r2 g;rcases h with⟨e,_⟩|⟨d',w,e,rfl,rw'⟩
  ·cases e
  ·cases e;exact⟨p,w,rfl,g',k _ S2 _ H2 ad2 q2 (w1.trans w2) st2 rw'⟩⟩⟩)
def zpq (hr:zO j X.A)(ho:PD X a td)(hi:PD X b ti)(hv:PD X c tv)(hs:autoParam (swapsWith c (some (.Subscript a b apos)) pos.line X.env=pure false) zB):Zr X (.Assign [.Subscript a b apos] c pos) (Nb td ti tv):=by with_unfolding_all exact(Yb (zqN (Uu hr) ho hi hv hs) fun E U H hh=>ZW hh fun aD Z S E0 so rh q k =>
 ⟨aD,Z,S,_,so,rh,q,fun v S1 vv H1 ad1 q1 w1 st1 r1=>⟨ad1,Z,S1,_,st1,rh.wd w1,q1,fun x S2 vx H2 ad2 q2 w2 st2 r2=>⟨ad2,Z,S2,_,st2,rh.wd (w1.trans w2),q2,fun y S3 vy H3 ad3 q3 w3 st3 r3=>by
  have rx:=r2.wd w3;have rv:=r1.wd (w2.trans w3);have w13:=(w1.trans w2).trans w3;rcases q3 with⟨n,Z8,z,rfl,rfl,hn,hl,q3⟩|⟨n,Z8,ks,rfl,rfl,hn,hl,q3⟩
  ·cases r3;cases rx with
   |ref e =>
    obtain⟨vs,hv',r⟩:=st3.cell n _ _ e hn;have h1:∀ xs,HO.dK vs≠.tup xs:=fun _ z=>by cases z
    have h2:∀ q u,HO.dK vs≠.frz q u:=fun _ _ z=>by cases z
    have w:=Wd.putC (o':=.dK (putK vs (Sum.inr z:Key) vv)) e hv' h1 h2;refine⟨_,_,rfl,SM.k (k:=Sum.inr z) hv' (by rw[<- r.length];exact Nv hl),?_⟩;exact k.nx _ _ _ _ _ q3 (w13.trans w) (st3.putC e hv' h1 h2 ⟨_,zL,RelK.wr w.wr (r.put rv)⟩) (rh.wd (w13.trans w))
  ·cases rx with
   |ref e =>
    obtain⟨vs,hv',r⟩:=st3.cell n _ _ e hn;cases r3 with
    |tup hb rb =>
     have e2:=Ov rb;subst e2;have h1:∀ xs,HO.dT vs≠.tup xs:=fun _ z=>by cases z
     have h2:∀ q u,HO.dT vs≠.frz q u:=fun _ _ z=>by cases z
     have w:=Wd.putC (o':=.dT (putK vs ks vv)) e hv' h1 h2;refine⟨_,_,rfl,SM.t hv' hb (by rw[<- r.length];exact Nv hl),?_⟩;exact k.nx _ _ _ _ _ q3 (w13.trans w) (st3.putC e hv' h1 h2 ⟨_,zL,zV.wr w.wr (r.put rv)⟩) (rh.wd (w13.trans w))⟩⟩⟩)
def zn4 (hr:zO j X.A)(ho:PD X a td)(hi:PD X b ti)(hv:PD X c tv)(hs:autoParam (swapsWith c (some (.Subscript a b apos)) pos.line X.env=pure false) zB):Zr X (.Assign [.Subscript a b apos] c pos) (Tj td ti tv):=by with_unfolding_all exact(Yb (zn2 (Uu hr) ho hi hv hs) fun E U H hh=>ZW hh fun aD Z S E0 so rh q k =>
 ⟨aD,Z,S,_,so,rh,q,fun v S1 vv H1 ad1 q1 w1 st1 r1=>⟨ad1,Z,S1,_,st1,rh.wd w1,q1,fun x S2 vx H2 ad2 q2 w2 st2 r2=>⟨ad2,Z,S2,_,st2,rh.wd (w1.trans w2),q2,fun y S3 vy H3 ad3 q3 w3 st3 r3=>by
  have rx:=r2.wd w3;have rv:=r1.wd (w2.trans w3);have w13:=(w1.trans w2).trans w3;obtain⟨n,Z8,ep,ks,rfl,rfl,hn,hl,q3⟩:=q3;cases rx with
  |ref e =>
   obtain⟨vs,hv',r⟩:=st3.cell n _ _ e hn;cases r3 with
   |tup hb rb =>
    obtain⟨bs,rfl,p⟩:=Cq rb;refine⟨_,vs,ep,ks,_,rfl,hv',rfl,⟨bs,hb,p⟩,by rw[<- r.length];exact Nv hl,fun e'=>?_⟩;have h1:∀ xs,HO.dN vs ep≠.tup xs:=fun _ z=>by cases z
    have h2:∀ q u,HO.dN vs ep≠.frz q u:=fun _ _ z=>by cases z
    have w:=Wd.putC (o':=.dN (putK vs ks vv) e') e hv' h1 h2;exact k.nx _ _ _ _ _ (q3 e') (w13.trans w) (st3.putC e hv' h1 h2 ⟨_,zL,zV.wr w.wr (r.put rv)⟩) (rh.wd (w13.trans w))⟩⟩⟩)
end
section
variable {K:Ĳ}{aD:List Addr}{H:Hp}{S:Z7}[B:Bs]
omit B in
theorem zV.gk {κ:Type}:∀ {fs:List (κ×D)} {vs:List (κ×V)} {i:Nat} {k:κ} {y:V},zV K aD H fs vs->vs[i]?=some (k,y)->∃ d,fs[i]?=some (k,d)/\Rel K aD H d y
 |_,_,_,_,_,.nil,h=>by cases h
 |_,_,0,_,_,.cons r _,h=>by cases h;exact⟨_,rfl,r⟩
 |_,_,i+1,_,_,.cons _ t,h=>let ⟨d,e,r⟩:=zV.gk (i:=i) t h;⟨d,e,r⟩
omit B in
def zpp {k:List (List Key)}(h:WL H b k):Rel K aD H (.tup (k.map kN)) (.ref b):=by
 obtain⟨bs,e,p⟩:=h
 have kr:∀ k:Key,Rel K aD H (kD k) (kV k):=fun k=>by cases k with
  |inl i=>exact .int i
  |inr x=>exact .str x
 have ks:∀ l:List Key,zf K aD H (l.map kD) (l.map kV):=fun l=>by
  induction l with
  |nil=>exact .nil
  |cons x l ih=>exact .cons (kr x) ih
 refine .tup e ?_;clear e
 induction p with
 |nil=>exact .nil
 |cons h t ih=>exact .cons (.tup h (ks _)) ih
def zpf {n:Nat}{a:Addr}{Z8:List (List (List Key)×D)}{ep:Nat}(e:aD[n]?=some a):Ur K aD H ⟨Z8.map fun kv=>.tup [.tup (kv.1.map kN),kv.2],fun S=>S[n]?=some (.dn Z8 ep)⟩ (CN a Z8.length ep) where
 go:=fun ad1 H1 S i w st ok hi=>by obtain⟨vs,hv,r⟩:=st.cell n _ _ (RL w.pre e) ok;rw[qa]at hi;exact⟨vs,hv,r.length.symm,hi⟩
 yld:=by rintro ad1 H1 S i d x H' w st ok hd ⟨p,b,k,y,ex,hp,he,hb,hk⟩;obtain⟨vs,hv,r⟩:=st.cell n _ _ (RL w.pre e) ok;obtain⟨z,hz,rz⟩:=r.gk (hk vs hv);rw[qi,hz]at hd;cases hd;rw[he,ex];exact⟨Wd.laid hp,st.laid hp,.tup zL (.cons ((zpp hb).wd (Wd.laid hp)) (.cons (rz.wd (Wd.laid hp)) .nil))⟩
 stop:=fun ad1 H1 S w st ok=>by obtain⟨vs,hv,r⟩:=st.cell n _ _ (RL w.pre e) ok;exact⟨vs,hv,r.length.symm,by rw[qa]⟩
end
section
variable {X:Cx}{a b c:Expr}{td ti tz tv:DE}{pos apos cpos:Pos}[B:Bs]
def Ã {es:List Expr}{kk:Nat}{tpos:Pos}(ho:PD X a td)(m:M0 X a "items" apos cpos):XC X (.Tuple es kk tpos) (.Call (.Attribute a "items" apos) [] [] cpos) (JV td):=by with_unfolding_all exact(Kv (jW ho m) fun U H R hh=>ZW hh fun aD Z S R0 st rh q k =>
 ⟨aD,Z,S,_,st,rh,q,by
  rintro x S1 v H1 ad1 ⟨n,Z8,ep,ex,hn,q1⟩ w1 st1 r1;subst ex;cases r1 with
  |ref e =>obtain⟨vs,hv,r⟩:=st1.cell n _ _ e hn;exact⟨_,vs,ep,rfl,hv,k _ S1 _ H1 ad1 q1 w1 st1 (by rw[<- r.length];exact zpf e)⟩⟩)
end
structure FH (K:Ĳ)(n:Str)(st:Stmt)(f:Addr)(fd:FuncData):Prop where
 a:PySem.W.nsIn K mainGlobals n=some (some (.ref f))
 F:W9 K n n st f fd
section
variable {K:Ĳ}{n:Str}{st:Stmt}{f:Addr}{fd:FuncData}{mg:Str->Option ĸ}{k:Nat}{h:Heap}{ps:List Str}{sp:Sp}
def kh {oc:ĸ}{od an:Option Addr}{osl:Array (Option ĸ)}{kV doc pm cdv ct:ĸ}(a:PySem.W.nsIn K mainGlobals n=some (some (.ref f)))
  (l:K.lookup f=some ⟨oc,od,.func (PySem.W.fnOf n n (Xy st) (X7 st) (zG st) .none kV doc pm an cdv ct),osl⟩) (c:PySem.W.codeIn K cdv n=true) (k:PySem.W.keepIn K (.ref f)=true) :
  FH K n st f (PySem.W.fnOf n n (Xy st) (X7 st) (zG st) .none kV doc pm an cdv ct):=⟨a,vC l c k⟩
end
section
variable {X:Cx}
def cT [B:Bs](i:Nat){x:Str}{pos:Pos}(hN:autoParam (X.N[i]?=some x) zB)(hv:L2.Vis X.env.scope x:=by first | exact Or.inl rfl | exact Or.inr (Or.inl rfl) | exact Or.inr (Or.inr rfl))(hd:autoParam ((x==("__debug__":Str))=false) zU)(hcd:autoParam ((x==("__classdict__":Str))=false) zU):PD X (.Name x pos) (Yx i):=by with_unfolding_all exact(ztp (zwa hN hv hd hcd))
end
section
variable {X:Cx}{a b c:Expr}{ta tb:DE}{td ti tz tv:DE}{pos apos cpos:Pos}[B:Bs]
def ĭ (ha:PD X a ta)(hb:PD X b tb):PD X (.BinOp a .LShift b pos) (Z6 Ib ta tb):=by with_unfolding_all exact(R9 zth (Ot (fun _ _ h=>h) fun _ _ i j=>.int (i*2 ^ j.toNat)) ha hb)
def Φ (ha:PD X a ta)(hb:PD X b tb):PD X (.BinOp a .RShift b pos) (Z6 Ia ta tb):=by with_unfolding_all exact(R9 ztP (Ot (fun _ _ h=>h) fun _ _ i j=>.int (i/2 ^ j.toNat)) ha hb)
def ztB (ha:PD X a ta)(hb:PD X b tb):PD X (.BinOp a .BitAnd b pos) (Z6 JG ta tb):=by with_unfolding_all exact(R9 zud (fun aD H S x y v u Q0 Q st rx ry h k=>by obtain⟨i,j,rfl,rfl,q⟩:=h;cases rx;cases ry;exact⟨i,j,rfl,rfl,k _ S _ H aD (q _ fun e=>by rw[e];exact bitAnd_m1 i) Wd.refl st (.int _)⟩) ha hb)
def gq (hr:zO j X.A)(hi:PD X b ti)(ho:PD X a td)(hm:autoParam (behindInMarks .In a=false) Vr):PD X (.Compare b [.In] [a] pos) (Oh ti td):=by with_unfolding_all exact(zW (v7 (lZ (Uu hr) hi ho) hm) fun U H Q hh=>ZW hh fun aD Z S Q0 st rh q k =>
  ⟨aD,Z,S,_,st,rh,q,fun y S1 u H1 ad1 q1 w1 st1 r1=>⟨ad1,Z,S1,_,st1,rh.wd w1,q1,by
    rintro x S2 v H2 ad2 ⟨o,g,q2⟩ w2 st2 r2;obtain⟨p,o',rfl,g',h⟩:=Pr st2 r2 (r1.wd w2) g;have e:o'.isSome=o.isSome:=by rcases h with⟨rfl,rfl⟩|⟨d',w,rfl,rfl,_⟩<;>rfl
    exact⟨p,o',rfl,g',by rw[e];exact k _ S2 _ H2 ad2 q2 (w1.trans w2) st2 (.bl _)⟩⟩⟩)
def zmL (hr:zO j X.A)(hi:PD X b ti)(ho:PD X a td)(hm:autoParam (behindInMarks .NotIn a=false) Vr):PD X (.Compare b [.NotIn] [a] pos) (Ql ti td):=by with_unfolding_all exact(zW (v7 (oR (Uu hr) hi ho) hm) fun U H Q hh=>ZW hh fun aD Z S Q0 st rh q k =>
  ⟨aD,Z,S,_,st,rh,q,fun y S1 u H1 ad1 q1 w1 st1 r1=>⟨ad1,Z,S1,_,st1,rh.wd w1,q1,by
    rintro x S2 v H2 ad2 ⟨o,g,q2⟩ w2 st2 r2;obtain⟨p,o',rfl,g',h⟩:=Pr st2 r2 (r1.wd w2) g;have e:o'.isSome=o.isSome:=by rcases h with⟨rfl,rfl⟩|⟨d',w,rfl,rfl,_⟩<;>rfl
    exact⟨p,o',rfl,g',by rw[e];exact k _ S2 _ H2 ad2 q2 (w1.trans w2) st2 (.bl _)⟩⟩⟩)
def dj (hr:zO j X.A)(hi:PD X b ti)(ho:PD X a td)(hm:autoParam (behindInMarks .In a=false) Vr):YG X (.Compare b [.In] [a] pos) (dT (Oh ti td)):=by with_unfolding_all exact(O9 (uV (lZ (Uu hr) hi ho) hm) fun U H Q hh=>ZW hh fun aD Z S Q0 st rh q k =>
  ⟨aD,Z,S,_,st,rh,q,fun y S1 u H1 ad1 q1 w1 st1 r1=>⟨ad1,Z,S1,_,st1,rh.wd w1,q1,by
    rintro x S2 v H2 ad2 ⟨o,g,b',e',q2⟩ w2 st2 r2;obtain⟨p,o',rfl,g',h⟩:=Pr st2 r2 (r1.wd w2) g;have e:o'.isSome=o.isSome:=by rcases h with⟨rfl,rfl⟩|⟨d',w,rfl,rfl,_⟩<;>rfl
    cases e';exact⟨p,o',rfl,g',_,rfl,by rw[e];exact k _ S2 H2 ad2 q2 (w1.trans w2) st2⟩⟩⟩)
def zl9 (hr:zO j X.A)(hi:PD X b ti)(ho:PD X a td)(hm:autoParam (behindInMarks .NotIn a=false) Vr):YG X (.Compare b [.NotIn] [a] pos) (dT (Ql ti td)):=by with_unfolding_all exact(O9 (uV (oR (Uu hr) hi ho) hm) fun U H Q hh=>ZW hh fun aD Z S Q0 st rh q k =>
  ⟨aD,Z,S,_,st,rh,q,fun y S1 u H1 ad1 q1 w1 st1 r1=>⟨ad1,Z,S1,_,st1,rh.wd w1,q1,by
    rintro x S2 v H2 ad2 ⟨o,g,b',e',q2⟩ w2 st2 r2;obtain⟨p,o',rfl,g',h⟩:=Pr st2 r2 (r1.wd w2) g;have e:o'.isSome=o.isSome:=by rcases h with⟨rfl,rfl⟩|⟨d',w,rfl,rfl,_⟩<;>rfl
    cases e';exact⟨p,o',rfl,g',_,rfl,by rw[e];exact k _ S2 H2 ad2 q2 (w1.trans w2) st2⟩⟩⟩)
def ο (hr:zO j X.A)(ho:PD X a td)(hi:PD X b ti)(hz:PD X c tz)(m:M2 X a "get" apos b c cpos:=by exact⟨rfl,rfl,rfl,rfl⟩):PD X (.Call (.Attribute a "get" apos) [b,c] [] cpos) (Lp td ti tz):=by with_unfolding_all exact(zW (ã (Uu hr) ho hi hz m) fun U H Q hh=>ZW hh fun aD Z S Q0 st rh q k =>
 ⟨aD,Z,S,_,st,rh,q,by
  rintro x S1 v H1 ad1 ⟨hd,q1⟩ w1 st1 r1;obtain⟨p,rfl,hp⟩:=znl st1 r1 hd
  exact⟨p,rfl,hp,ad1,Z,S1,_,st1,rh.wd w1,q1,fun y S2 u H2 ad2 q2 w2 st2 r2=>⟨ad2,Z,S2,_,st2,rh.wd (w1.trans w2),q2,by
   rintro z S3 uz H3 ad3 ⟨o,g,q3⟩ w3 st3 r3;obtain⟨p',o',e,g',h⟩:=Pr st3 (r1.wd (w2.trans w3)) (r2.wd w3) g;cases e;refine⟨o',g',?_⟩;rcases h with⟨rfl,rfl⟩|⟨d',w,rfl,rfl,rw'⟩
   ·exact k _ S3 _ H3 ad3 q3 ((w1.trans w2).trans w3) st3 r3
   ·exact k _ S3 _ H3 ad3 q3 ((w1.trans w2).trans w3) st3 rw'⟩⟩⟩)
def zn6 {tk:DE}(hk:PD X a tk)(hv:PD X b tv):PD X (.Dict [some a] [b] pos) (Dl tk tv):=by with_unfolding_all exact(zW (aR (zpr hk hv eZ) rfl rfl (by intro h;cases h) (qG rfl)) fun U H Q hh=>ZW hh fun aD Z S Q0 st rh q k p hp =>
 ⟨aD++[p],Z,S++[.dk []],_,st.newC (c:=.dk []) hp ⟨[],zL,.nil⟩,rh.wd (Wd.newL st hp),(show tk Z (S++[.dk []]) _ from q),fun x S1 v H1 ad1 q1 w1 st1 r1=>⟨ad1,Z,S1,_,st1,(rh.wd (Wd.newL st hp)).wd w1,q1,by
  rintro y S2 u H2 ad2 ⟨z,ex,hn,q2⟩ w2 st2 r2;subst ex;cases r1;have w12:=(Wd.newL (o:=.dK []) st hp).trans (w1.trans w2)
  have e:ad2[S.length]?=some p:=by refine RL (w1.trans w2).pre ?_;rw[<- st.len,qe (qh _),Yk];rfl
  obtain⟨vs,hv',r⟩:=st2.cell S.length _ _ e hn;cases r;have h1:∀ xs,HO.dK []≠.tup xs:=fun _ z=>by cases z
  have h2:∀ q u,HO.dK []≠.frz q u:=fun _ _ z=>by cases z
  have w':=Wd.putC (o':=.dK [((Sum.inr z:Key),u)]) e hv' h1 h2;exact⟨hv',[((Sum.inr z:Key),u)],rfl,qG rfl,k _ _ _ _ _ q2 (w12.trans w') (st2.putC e hv' h1 h2 ⟨_,zL,.cons (r2.wd w') .nil⟩) (.ref e)⟩⟩⟩)
end
end Dp
namespace Dp
open PySem PySem.Spec PyProof.Rows L2 My
class Fl (α:Type) where
 fl:α
instance flP:Fl Prop:=⟨False⟩
instance flF {α β:Type} [Fl β]:Fl (α->β):=⟨fun _=>Fl.fl⟩
abbrev ZR {α:Type}[Fl α](b:Bool)(t:α):α:=match b with
 |true=>t
 |false=>Fl.fl
abbrev ob {β:Type}[Fl β](o:Option α)(f:α->β):β:=match o with
 |some a=>f a
 |none=>Fl.fl
def Wt {α:Type}[Fl α]{Q:α->Prop}{b:Bool}{t:α}(hf:Q Fl.fl)(h:b=true->Q t):Q (ZR b t):=by
 cases b with
 |true=>exact h rfl
 |false=>exact hf
def Pq {α β:Type}[Fl β]{Q:β->Prop}{o:Option α}{f:α->β}(hf:Q Fl.fl)(h:∀ a,o=some a->Q (f a)):Q (ob o f):=by
 cases o with
 |some a=>exact h a rfl
 |none=>exact hf
inductive Al {α:Type}(P:α->Prop):List α->Prop
 |nil:Al P []
 |cons {x:α} {l:List α} (h:P x) (t:Al P l):Al P (x::l)
def Al.mem {α:Type}{P:α->Prop}{l:List α}(a:Al P l):∀ x∈l,P x:=by
 induction a with
 |nil=>intro x h;cases h
 |cons h t ih =>
  intro x hx;rcases qv.mp hx with rfl|hx
  ·exact h
  ·exact ih x hx
def zZ {a b:Bool}(h:(a&&b)=true):a=true/\b=true:=by simpa using h
def Zw {a:Bool}(h:(!a)=true):a=false:=by simpa using h
def sh (x:Str):Nat:=x.cps.toList.foldl (fun a c=>a*977+c) 1
def se (a b:Str):Bool:=(sh a).beq (sh b)&&a==b
def M9 {a b:Str}:se a b=(a==b):=by
 unfold se;cases h:a==b with
 |false=>rw[RT]
 |true=>rw[eq_of_beq h,Nat.beq_refl];rfl
def RM {a b:Str}(h:se a b=true):a=b:=eq_of_beq (M9.symm.trans h)
def Zu {α:Type}(x:Str):List (Str×α)->Option α
 |[]=>none
 |(y,v)::r=>match se x y with
  |true=>some v
  |false=>Zu x r
theorem Uw {α:Type}{x:Str}:∀ {l:List (Str×α)},Zu x l=l.lookup x
 |[]=>rfl
 |(y,v)::r=>by
  unfold Zu;rw[qu,M9];cases x==y with
  |true=>rfl
  |false=>exact Uw
theorem Nr {α:Type}{x:Str}{v:α}:∀ {l:List (Str×α)},Zu x l=some v->(x,v)∈l
 |(y,u)::r,h=>by
  unfold Zu at h;cases e:se x y with
  |true=>rw[e]at h;cases h;rw[RM e];exact qO
  |false=>rw[e]at h;exact qj _ (Nr h)
def slt (x:Str):List Str->Option Nat
  |[]=>none
  |y::r=>match se x y with
    |true=>some 0
    |false=>(slt x r).map (· + 1)
theorem PJ {x:Str}:∀ {l:List Str} {i:Nat},slt x l=some i->l[i]?=some x
 |y::r,i,h=>by
  unfold slt at h;cases e:se x y with
  |true=>rw[e]at h;cases h;rw[RM e];rfl
  |false =>rw[e]at h;obtain⟨j,hj,rfl⟩:=qV.mp h;exact PJ (l:=r) hj
def has (x:Str):List Str->Bool
 |[]=>false
 |y::r=>se x y||has x r
inductive Bt where
 |len|abs|max|min|sum|any|all|isi|sorted|range|zip|enum|rev|set|tuple|list|int|bool|str
 deriving DecidableEq
def Bt.nm:Bt->Str
 | .len=>"len" | .abs=>"abs" | .max=>"max" | .min=>"min" | .sum=>"sum" | .any=>"any" | .all=>"all" | .isi=>"isinstance" | .sorted=>"sorted" | .range=>"range"
 | .zip=>"zip" | .enum=>"enumerate" | .rev=>"reversed" | .set=>"set" | .tuple=>"tuple" | .list=>"list" | .int=>"int" | .bool=>"bool" | .str=>"str"
def Bt.ty:Bt->Option String
 | .tuple=>some "tuple" | .list=>some "list" | .int=>some "int" | .bool=>some "bool" | .str=>some "str" | _=>none
def Bt.id:Bt->String
 | .len=>"len" | .abs=>"abs" | .max=>"max" | .min=>"min" | .sum=>"sum" | .any=>"any" | .all=>"all" | .isi=>"isinstance" | .sorted=>"sorted" | _=>""
inductive Y8 where
 |fn (k:Nat) (ps:List Str) (sp:ZX)
 |fx (k:Nat) (ps:List Str) (sp:Yq)
 |cl (k:Nat) (sp:ZX)
 |cx (k:Nat) (c:Str) (init:Yq)
 |int (n:Int)
 |str (z:Str)
 |kt (cs:List (List D))
 |blt (b:Bt)
structure Gm where
 g:List (Str×Y8)
 r:List Str:=[]
 t:List (Str×List Str):=[]
 i:List (Str×List (Str×Bool)):=[]
 f:List (Str×Str):=[]
structure RC where
 g:Gm
 nm:List (Str×NameKind)
 fl:List (Str×NameKind)
 N:List Str
 j:Nat
 ex:XR:=xF
 m:Nat:=0
 calm:Bool:=true
 top:Bool:=true
 d:List (Str×Option Bool):=[]
 it:Bool:=false
 dn:Option (Option Bool):=none
 cls:Str:=Str.empty
 xs:List Str:=[]
 lm:Option Str:=none
structure Zz where
 e:RC->Expr->DE
 t:RC->Expr->DT
 s:RC->List Stmt->DS
section
variable (P:Program)(w:World)(K:Ĳ)(mg:Str->Option ĸ)(base:Heap)
def rJ (j:Nat)(x:Str):Y8->Prop
 |.fn k ps sp=>k<=j->Got P w K mg base k x ps (Xv K sp)
 |.fx k ps sp=>k<=j->yF P w K mg base k x ps (Uv K sp)
 |.cl k sp=>k+1<=j->Dm P w K mg base k x (Xv K sp)
 |.cx k c init=>k+1<=j->pA P w K mg base k x c init
 |.int n=>∃ t,mg x=some (.int n t)
 |.str z=>∃ t,mg x=some (.str z t)
 |.kt _=>False
 |.blt b=>x=b.nm/\mg x=none
structure Tt (j:Nat)(G:Gm):Prop where
 g:∀ x e,(x,e)∈G.g->rJ P w K mg base j x e
 r:∀ x,x∈G.r->(∀ C,PySem.W.nsIn K mainGlobals x=some (some (.ref C))->Lh K C)/\∃ C,PySem.W.nsIn K mainGlobals x=some (some (.ref C))/\mg x=some (.ref C)
 f:∀ c f,(c,f)∈G.f->∀ C,PySem.W.nsIn K mainGlobals c=some (some (.ref C))->V2 K C f
end
def fX (X:Cx):Option Str->Prop
 |none=>True
 |some _=>False
structure RC.Ok0 (c:RC)(X:Cx):Prop where
 nm:X.env.scope.names=c.nm
 N:X.N=c.N
 nd:c.N.Nodup
 rm:c.calm=true->zO c.j X.A
 fn:∀ x,Zu x c.fl=some .cell->X.fn x=true
 calm:c.calm=true->X.calm=true
 xe:c.m=0->X.xe=fun _ _=>False
 po:c.m<=1->PassesOwn (model X.prog X.w) X.A X.env X.xe
 kind:X.env.scope.kind=.function
 top:c.top=true->X.stack=X.env::X.outer/\X.env.frame=some X.env.locals
 gm:Tt X.prog X.w X.K X.mg X.base c.j c.g
 lm:fX X c.lm
structure RC.Ok [B:Bs](c:RC)(X:Cx):Prop extends RC.Ok0 c X where
 hX:Ky X c.ex
 hM:c.m=1->Ds X c.ex
variable [B:Bs]
section
variable {X:Cx}{c:RC}
def RC.Ok.kd (ok:c.Ok X){x:Str}:X.env.kindOf x=Zu x c.nm:=by rw[Uw,<- ok.nm];rfl
def Zq {e:Expr}:PD X e Fl.fl:=by
 with_unfolding_all
 exact by rintro Z9 s U H Q I ⟨_,_,_,_,_,_,h,_⟩;exact h.elim
def BJ {e:Expr}:YG X e Fl.fl:=by
 with_unfolding_all
 exact by rintro Z9 s U H Q I ⟨_,_,_,_,_,_,h,_⟩;exact h.elim
def ŋ {e:Expr}:Uh X e Fl.fl:=by
 with_unfolding_all
 exact by rintro wh Z9 s U H Q I ⟨_,_,_,_,_,_,h,_⟩;exact h.elim
def Ć {es:List Expr}:PAD X es Fl.fl:=by
 with_unfolding_all
 exact by rintro pos Z9 s U H Q I ⟨_,_,_,_,_,_,h,_⟩;exact h.elim
def Gq {st:Stmt}:Zr X st Fl.fl:=by
 with_unfolding_all
 exact by rintro Z9 s U H D I ⟨_,_,_,_,_,_,h,_⟩;exact h.elim
def Xc {e:Expr}{b:Bool}{t:DE}(h:b=true->PD X e t):PD X e (ZR b t):=Wt Zq h
def QM {α:Type}{e:Expr}{o:Option α}{f:α->DE}(h:∀ a,o=some a->PD X e (f a)):PD X e (ob o f):=Pq Zq h
def V6 {e:Stmt}{b:Bool}{t:DS}(h:b=true->Zr X e t):Zr X e (ZR b t):=Wt Gq h
def vd {α:Type}{e:Stmt}{o:Option α}{f:α->DS}(h:∀ a,o=some a->Zr X e (f a)):Zr X e (ob o f):=Pq Gq h
def ztc {sts:List Stmt}:Wz X sts Fl.fl:=by
 with_unfolding_all
 exact by rintro Z9 s U H D I ⟨_,_,_,_,_,_,h,_⟩;exact h.elim
end
end Dp
namespace Dp
open PySem PySem.Spec PyProof.Rows L2 My
def Nh:Expr->Bool
 |.Slice _ _ _ _=>true
 |_=>false
def Rw:Expr->Bool
 |.Call _ [] [] _=>true
 |_=>false
def xV:Expr->Bool
 |.UnaryOp .Not _ _=>true
 |.BoolOp _ _ _=>true
 |.IfExp _ _ _ _=>true
 |.Compare _ _ _ _=>true
 |_=>false
def isSet:Expr->Bool
 |.Set _ _ _=>true
 |_=>false
def Es:Expr->Bool
 |.ListComp _ _ _ _=>true
 |.SetComp _ _ _ _=>true
 |.DictComp _ _ _ _ _=>true
 |_=>false
def isTup:Expr->Bool
 |.Tuple _ _ _=>true
 |_=>false
def YF (es:List Expr):Bool:=es.all fun e=>!isStar e
def kids:Expr->List Expr
 |.BoolOp _ vs _=>vs
 |.BinOp a _ b _=>[a,b]
 |.UnaryOp _ a _=>[a]
 |.IfExp a b c _=>[a,b,c]
 |.Compare a _ bs _=>a::bs
 |.Call f as ks _=>f::as++ks.map fun k=>match k with|⟨_,v,_⟩=>v
 |.FormattedValue a _ _ _=>[a]
 |.JoinedStr vs _=>vs
 |.Attribute a _ _=>[a]
 |.Subscript a b _=>[a,b]
 |.List es _=>es
 |.Tuple es _ _=>es
 |.Slice a b c _=>a.toList++b.toList++c.toList
 |.Dict _ vs _=>vs
 |_=>[]
def nms:Nat->Expr->List Str
 |_,.Name x _=>[x]
 |n+1,.ListComp e [⟨tg,it,ifs,_⟩] _ _=>nms n it++((e::ifs).flatMap (nms n)).filter fun y=>!has y (nms n tg)
 |n+1,e=>(kids e).flatMap (nms n)
 |0,_=>[]
def Mv:Nat->Expr->Bool
 |_,.IfExp _ _ _ _=>true
 |n+1,.ListComp e [⟨_,it,ifs,_⟩] _ _=>Mv n e||Mv n it||ifs.any (Mv n)
 |n+1,e=>(kids e).any (Mv n)
 |0,_=>false
def JW:Nat->List Stmt->Bool
 |n+1,b=>match b.getLast? with
  |some (.Return _ _)=>false
  |some (.Raise _ _ _)=>false
  |some (.Continue _)=>false
  |some (.Break _)=>false
  |some (.If _ a o _)=>JW n a||JW n o
  |_=>true
 |0,_=>true
def nJ:Stmt->Bool
 |.Assign _ (.BoolOp _ _ _) _=>true
 |.Assign _ v _=>Mv 30 v
 |.If _ a b _=>JW 30 a&&JW 30 b
 |_=>false
def cop:CmpOp->Option Zx
 |.Eq=>some oEq
 |.NotEq=>some Yh
 |.Lt=>some oLt
 |.LtE=>some oLe
 |.Gt=>some XS
 |.GtE=>some JD
 |.Is=>some KC
 |.IsNot=>some Wi
 |.In=>some J6
 |.NotIn=>some Qs
def xW:Operator->Option Zx
 |.Add=>some Zo
 |.Sub=>some Zh
 |.Mult=>some YZ
 |.FloorDiv=>some oDiv
 |.Mod=>some oMod
 |.RShift=>some Ia
 |.LShift=>some Ib
 |.BitAnd=>some JG
 |_=>none
def KR (it:Bool):Bt->Nat->Option DB
 |.len,1=>some Zg
 |.abs,1=>some Ie
 |.max,2=>some Qm
 |.min,2=>some Rr
 |.max,1=>some Je
 |.min,1=>some Mg
 |.all,1=>some U5
 |.list,1=>some U0
 |.isi,2=>some Sy
 |_,_=>none
def Ce:List (Str×Nat×DM):=[
 ("extend",1,K8),
 ("pop",9,Ht),
 ("clear",0,PN),
 ("append",1,Vu)]
def Ma (m:Str)(k:Nat):List (Str×Nat×DM)->Option DM
 |[]=>none
 |(y,j,r)::l=>match Nat.beq k j&&se m y with
  |true=>some r
  |false=>Ma m k l
def gl (c:RC)(x:Str):Bool:=Zu x c.nm==some .globalImplicit&&!se x "__debug__"&&!se x "__name__"
def vis (c:RC)(x:Str):Bool:=(Zu x c.nm==some .local||Zu x c.nm==some .cell||Zu x c.nm==some .free)&&!se x "__debug__"&&!se x "__classdict__"
def WX (c:RC)(x:Str):Bool:=Zu x c.nm==some .local||(Zu x c.nm==some .cell&&Zu x c.fl==some .cell)
def isD (c:RC):Expr->Bool
 |.Name x _=>(Zu x c.d).isSome
 |_=>false
abbrev RC.quiet (c:RC):RC:={ c with ex:=xF,m:=0 }
def rA (r:Zz)(c:RC):List Expr->DA
 |[]=>zm
 |e::es=>ZR (!isStar e) (zc (r.e c e) (rA r c es))
def Kr (r:Zz)(c:RC)(op:BoolOp):List Expr->DE
 |[]=>Fl.fl
 |[a]=>r.e c a
 |a::b::l=>match op with
  |.And=>Qy (r.e c a) (Kr r c op (b::l))
  |.Or=>sZ (r.e c a) (Kr r c op (b::l))
def Ja (r:Zz)(c:RC)(op:BoolOp):List Expr->DT
 |[]=>Fl.fl
 |[a]=>r.t c a
 |a::b::l=>match op with
  |.And=>Xw (r.t c a) (Ja r c op (b::l))
  |.Or=>Vy (r.t c a) (Ja r c op (b::l))
def GC (c:RC)(x:Str):DE:=match slt x c.N with
 |some i=>ZR (vis c x) (Yx i)
 |none=>ZR (gl c x) (ob (Zu x c.g.g) fun
  |.int n=>dC (.int n)
  |.str z=>dC (.str z)
  |.blt b=>ob b.ty fun T=>dC (.ty T)
  |_=>Fl.fl)
def DQ (r:Zz)(c:RC)(a:Expr)(op:Operator)(b:Expr):DE:=match a,op,b with
 |.Constant (.int i) _ _,.Pow,.Constant (.int j) _ _=>ZR (decide (0<=j/\j<=1000000/\i.natAbs<2 ^ 64)) (dC (.int (i ^ j.toNat)))
 |a,op,b=>ob (xW op) fun o=>Z6 o (r.e c a) (r.e c b)
def Cj (r:Zz)(c:RC)(a:Expr):List CmpOp->List Expr->DE
 |[op],[b]=>ZR (c.calm&&!behindInMarks op b) (match op,isD c b with
  |.In,true=>Oh (r.e c a) (r.e c b)
  |.NotIn,true=>Ql (r.e c a) (r.e c b)
  |_,_=>ob (cop op) fun o=>Z6 o (r.e c a) (r.e c b))
 |[op,op'],[b,d]=>ZR (c.calm&&!lastMarks [op,op'] [b,d]) (ob (cop op) fun o=>ob (cop op') fun o'=>NT o o' (r.e c a) (r.e c b) (r.e c d))
 |_,_=>Fl.fl
def rO (r:Zz)(c:RC):Option Expr->Option DE
 |none=>none
 |some e=>some (r.e c e)
def mF (r:Zz)(c:RC)(a b:Expr):DE:=ZR (!Nh b&&c.calm) (match isD c a with
  |true=>Vx (r.e c a) (r.e c b)
  |false=>Z6 ZL (r.e c a) (r.e c b))
def Bg (r:Zz)(c:RC)(a:Expr):Expr->DE
 |.Slice lo hi none _=>Te RN (r.e c a) (rO r c lo) (rO r c hi)
 |b=>mF r c a b
structure Zz.Ok (r:Zz):Prop where
 e:∀ [Bs] {c:RC} {X:Cx},c.Ok X->∀ e,PD X e (r.e c e)
 t:∀ [Bs] {c:RC} {X:Cx},c.Ok X->∀ e,YG X e (r.t c e)
 s:∀ [Bs] {c:RC} {X:Cx},c.Ok X->∀ e,Wz X e (r.s c e)
section
variable {b o e:Expr}{env:Env}
def zpI (h:Nh b=false):Gi b:=by cases b<;>first|(intro _ _;rfl)|cases h
def ç (h:Nh b=false):JL b:=by cases b<;>first|(intro _ _;rfl)|cases h
def Qk (h:Rw o=false){m:Str}{w:Sem ĸ}:attributeBase o m env w=w:=by
  cases o with
  |Call f a k p=>cases f<;>cases a<;>cases k<;>first|rfl|cases h
  |_=>rfl
def gG (h:xV e=false)(w:Sem ĸ):isTrue e env w=(do let v <- w;standAt e.pos;holding [v] (truthy v)):=by
  cases e with
  |UnaryOp op a p=>cases op<;>first|rfl|cases h
  |_=>first|rfl|cases h
def pI (h:isSet e=false)(x:ĸ):foldedSetIterable e env x=pure x:=by cases e<;>first|rfl|cases h
def sU (h:Es e=false){t:Option Expr}{l:Nat}:swapsWith e t l env=pure false:=by cases e<;>first|rfl|cases h
def Kh {es:List Expr}{pos:Pos}(h:YF es=true):(backTo pos (starEach es env)).any (·.1)=false:=Jw h
end
variable [B:Bs]
section
variable {X:Cx}{c:RC}{r:Zz}
def Jb (ok:c.Ok X){x:Str}(h:gl c x=true):Gl X x/\(x==("__debug__":Str))=false/\x≠"__name__":=by simp only[gl,qq]at h;obtain⟨⟨h1,h2⟩,h3⟩:=h;rw[M9]at h2 h3;exact⟨ok.kd.trans (eq_of_beq h1),Zw h2,fun e=>by rw[e]at h3;simp at h3⟩
def ń (ok:c.Ok X){x:Str}(h:vis c x=true):L2.Vis X.env.scope x/\(x==("__debug__":Str))=false/\(x==("__classdict__":Str))=false:=by
 simp only[vis,qq]at h;obtain⟨⟨h1,h2⟩,h3⟩:=h;rw[M9]at h2 h3;refine⟨?_,Zw h2,Zw h3⟩;unfold L2.Vis;rw[ok.nm,<- Uw];simp only[N5,beq_iff_eq]at h1;rcases h1 with(h|h)|h
 ·exact .inl h
 ·exact .inr (.inl h)
 ·exact .inr (.inr h)
def Hv (ok:c.Ok X){x:Str}(h:WX c x=true):L2.Loc X.env.scope x/\(X.fn x=true\/X.env.scope.names.lookup x=some .local):=by
 unfold L2.Loc;rw[ok.nm,<- Uw];simp only[WX,N5,qq,beq_iff_eq]at h;rcases h with h|⟨h,h'⟩
 ·exact⟨.inl h,.inr h⟩
 ·exact⟨.inr h,.inl (ok.fn x h')⟩
theorem Wn (hr:r.Ok)(ok:c.Ok X):∀ {es:List Expr},PAD X es (rA r c es)
 |[]=>lg
 |e::es=>Wt (Q:=PAD X (e::es)) Ć fun h=>wV (hr.e ok e) (Wn hr ok) (V1 (Zw h))
theorem Bh (hr:r.Ok)(ok:c.Ok X){op:BoolOp}{pos:Pos}:∀ {es:List Expr},PD X (.BoolOp op es pos) (Kr r c op es)
 |[]=>Zq
 |[a]=>χ (hr.e ok a)
 |a::b::l=>by
  cases op with
  |And=>exact zqK (hr.e ok a) (Bh hr ok)
  |Or=>exact aZ (hr.e ok a) (Bh hr ok)
theorem Et (hr:r.Ok)(ok:c.Ok X){op:BoolOp}{pos:Pos}:∀ {es:List Expr},Uh X (.BoolOp op es pos) (Ja r c op es)
 |[]=>ŋ
 |[a]=>by
  cases op with
  |And=>exact fD (hr.t ok a)
  |Or=>exact cO (hr.t ok a)
 |a::b::l=>by
  cases op with
  |And=>exact zq6 (hr.t ok a) (Et hr ok)
  |Or=>exact jR (hr.t ok a) (Et hr ok)
def Ū {b:Bt}{T:String}(h:b.ty=some T):bootBuiltins b.nm=some (.type T):=by cases b<;>cases h<;>first|exact boot_tuple|exact boot_list|exact boot_int|exact boot_bool|exact boot_str
def eO (ok:c.Ok X){x:Str}{pos:Pos}:PD X (.Name x pos) (GC c x):=by
 unfold GC;cases hs:slt x c.N with
 |some i=>exact Xc fun h=>let ⟨h1,h2,h3⟩:=ń ok h;cT i (ok.N.symm▸PJ hs) h1 h2 h3
 |none =>
  refine Xc fun h=>QM fun en he=>?_
  obtain⟨h1,h2,h3⟩:=Jb ok h;have g:=ok.gm.g _ _ (Nr he);cases en with
  |int n=>exact Ϛ h1 g h2
  |str z=>exact ć h1 g h2
  |blt b =>
   refine QM fun T hT=>?_
   obtain⟨rfl,g⟩:=g;exact zx0 h1 g (Ū hT) h3 h2
  |_=>exact Zq
def zvO {op:Operator}{o:Zx}(h:xW op=some o){pos:Pos}(ha:PD X a ta)(hb:PD X b tb):PD X (.BinOp a op b pos) (Z6 o ta tb):=by
 cases op with
 |Add=>cases h;exact ztV ha hb
 |Sub=>cases h;exact ztt ha hb
 |Mult=>cases h;exact Ϟ ha hb
 |FloorDiv=>cases h;exact zvD ha hb
 |Mod=>cases h;exact je ha hb
 |RShift=>cases h;exact Φ ha hb
 |LShift=>cases h;exact ĭ ha hb
 |BitAnd=>cases h;exact ztB ha hb
 |_=>cases h
def ō (hr:r.Ok)(ok:c.Ok X){a b:Expr}{op:Operator}{pos:Pos}:PD X (.BinOp a op b pos) (DQ r c a op b):=by
 unfold DQ;split
 ·exact Xc fun h=>zqZ _ rfl (of_decide_eq_true h)
 ·exact QM fun o h=>zvO h (hr.e ok _) (hr.e ok _)
theorem N6 {k:Nat}(hr:zO k X.A):∀ {op:CmpOp} {o:Zx},cop op=some o->OC X op o
 |.Eq,_,rfl=>fB hr
 |.NotEq,_,rfl=>gF hr
 |.Lt,_,rfl=>zx1
 |.LtE,_,rfl=>zxq
 |.Gt,_,rfl=>zwk
 |.GtE,_,rfl=>Ş
 |.Is,_,rfl=>Ê
 |.IsNot,_,rfl=>dY
 |.In,_,rfl=>jD hr
 |.NotIn,_,rfl=>zo8 hr
abbrev PB (X:Cx)(e:Expr)(t:DE):Prop:=PD X e t/\YG X e (dT t)
def Ww {e:Expr}:PB X e Fl.fl:=⟨Zq,BJ⟩
theorem pW (hr:r.Ok)(ok:c.Ok X){a:Expr}{pos:Pos}:∀ {ops:List CmpOp} {bs:List Expr},PB X (.Compare a ops bs pos) (Cj r c a ops bs)
  |[op],[b]=>Wt (Q:=PB X _) Ww fun h=>by
    obtain⟨hc,hm⟩:=zZ h;have rm:=ok.rm hc;have ga:PB X (.Compare a [op] [b] pos) (ob (cop op) fun o=>Z6 o (r.e c a) (r.e c b)):=Pq (Q:=PB X _) Ww fun o ho=>⟨zri (N6 rm ho) (hr.e ok a) (hr.e ok b) (Zw hm),zrF (N6 rm ho) (hr.e ok a) (hr.e ok b) (Zw hm)⟩
    cases hd:isD c b with
    |false=>cases op<;>exact ga
    |true =>
      cases op with
      |In=>exact⟨gq rm (hr.e ok a) (hr.e ok b) (Zw hm),dj rm (hr.e ok a) (hr.e ok b) (Zw hm)⟩
      |NotIn=>exact⟨zmL rm (hr.e ok a) (hr.e ok b) (Zw hm),zl9 rm (hr.e ok a) (hr.e ok b) (Zw hm)⟩
      |_=>exact ga
  |[op,op'],[b,d]=>Wt (Q:=PB X _) Ww fun h=>Pq (Q:=PB X _) Ww fun o ho=>Pq (Q:=PB X _) Ww fun o' ho'=>by obtain⟨hc,hm⟩:=zZ h;have rm:=ok.rm hc;exact⟨aV (N6 rm ho) (N6 rm ho') (hr.e ok a) (hr.e ok b) (hr.e ok d) (Zw hm),ñ (N6 rm ho) (N6 rm ho') (hr.e ok a) (hr.e ok b) (hr.e ok d) (Zw hm)⟩
  |[],_=>Ww
  |[_],[]=>Ww
  |[_],_::_::_=>Ww
  |[_,_],[]=>Ww
  |[_,_],[_]=>Ww
  |[_,_],_::_::_::_=>Ww
  |_::_::_::_,_=>Ww
theorem vY (hr:r.Ok)(ok:c.Ok X):∀ {e:Option Expr},PO X e (Ny X.K (rO r c e))
 |none=>fO
 |some e=>zr9 (hr.e ok e)
def ztx (hr:r.Ok)(ok:c.Ok X){a b:Expr}{pos:Pos}:PD X (.Subscript a b pos) (mF r c a b):=by
 refine Xc fun h=>?_
 obtain⟨h1,h2⟩:=zZ h;split
 ·exact ztT (ok.rm h2) (hr.e ok _) (hr.e ok _) (ç (Zw h1))
 ·exact zwA (hr.e ok _) (hr.e ok _) (zpI (Zw h1))
def ζ (hr:r.Ok)(ok:c.Ok X){a b:Expr}{pos:Pos}:PD X (.Subscript a b pos) (Bg r c a b):=by
 unfold Bg;split
 ·exact zwY (hr.e ok a) (vY hr ok) (vY hr ok)
 ·exact ztx hr ok
end
end Dp
namespace Dp
open PySem PySem.Spec PyProof.Rows L2 My
def Qx (c:RC)(b:Nat):Nat->Expr->DG
 |_,.Name x _=>ob (slt x c.N) fun i=>ZR (Nat.blt i b&&WX c x) (zP i)
 |n+1,.Tuple es _ _=>ZR (YF es&&c.calm) (YL es.length (es.foldr (fun e t=>zJ (Qx c b n e) t) YW))
 |_,_=>Fl.fl
def Jf (K:Ĳ)(c:RC)(b:Nat):Nat->Expr->TG
 |_,.Name x _=>ob (slt x c.N) fun i=>ZR (Nat.blt i b&&WX c x) (L2.zP i)
 |n+1,.Tuple es _ _=>ZR (YF es&&c.calm) (L2.YL K es.length (es.foldr (fun e t=>L2.zJ (Jf K c b n e) t) L2.YW))
 |_,_=>Fl.fl
section
variable {env:Env}
def pF {e:Expr}{es:List Expr}(h:isStar e=false):assignEach (e::es) env=(false,assign e env)::assignEach es env:=by cases e<;>first|rfl|cases h
theorem Ck:∀ {es:List Expr},YF es=true->(assignEach es env).length=es.length/\(assignEach es env).findIdx? (·.1)=none
 |[],_=>⟨rfl,rfl⟩
 |e::es,h=>by unfold YF at h;rw[Xz,qq]at h;obtain⟨h1,h2⟩:=Ck (es:=es) h.2;rw[pF (Zw h.1),qX,h1,List.findIdx?_cons,h2];exact⟨rfl,rfl⟩
end
section
variable [B:Bs]{K:Ĳ}{b:Nat}{c:RC}
def xX:∀ (n:Nat) (e:Expr),Wv K b (Qx c b n e) (Jf K c b n e):=by
 have fl:Wv K b (Fl.fl:DG) (Fl.fl:TG):=fun _ _ _ _ _ _ _ _ _ _ _ _ h _=>h
 have nm:∀ x,Wv K b (ob (slt x c.N) fun i=>ZR (Nat.blt i b&&WX c x) (zP i)) (ob (slt x c.N) fun i=>ZR (Nat.blt i b&&WX c x) (L2.zP i)):=fun x=>by
  cases slt x c.N with
  |none=>exact fl
  |some i =>
   show Wv K b (ZR (Nat.blt i b&&WX c x) (zP i)) (ZR (Nat.blt i b&&WX c x) (L2.zP i));cases h:Nat.blt i b&&WX c x with
   |false=>exact fl
   |true=>exact zmr i (Nat.blt_eq.mp (zZ h).1)
 intro n
 induction n with
 |zero =>
  intro e;cases e with
  |Name x p=>exact nm x
  |_=>exact fl
 |succ n ih =>
  intro e;cases e with
  |Name x p=>exact nm x
  |Tuple es k p =>
   unfold Qx Jf;cases YF es&&c.calm with
   |false=>exact fl
   |true =>
    refine zpu ?_
    induction es with
    |nil=>exact Í
    |cons e es ih2=>exact zlz (ih e) ih2
  |_=>exact fl
def Nz {X:Cx}{e:Expr}:PG X e Fl.fl:=fun _ _ _ _ _ _ _ _ _ h=>h.elim
theorem uM {X:Cx}{f:Expr->TG}:∀ {es:List Expr},YF es=true->(∀ e,PG X e (f e))->Mt X es (es.foldr (fun e t=>L2.zJ (f e) t) L2.YW)
 |[],_,_=>zqM
 |e::es,h,hf=>by unfold YF at h;rw[Xz,qq]at h;exact zpk (hf e) (uM h.2 hf) (by rw[pF (Zw h.1)];rfl)
def mO {X:Cx}(ok:c.Ok X):∀ (n:Nat) (e:Expr),PG X e (Jf X.K c b n e):=by
 have nm:∀ x p,PG X (.Name x p) (ob (slt x c.N) fun i=>ZR (Nat.blt i b&&WX c x) (L2.zP i)):=fun x p =>Pq (Q:=PG X _) Nz fun i hi=>Wt (Q:=PG X _) Nz fun h=>by obtain⟨h1,h2⟩:=Hv ok (zZ h).2;exact zsx (ok.N.symm▸ok.nd) (ok.N.symm▸PJ hi) h1 h2
 intro n
 induction n with
 |zero =>
  intro e;cases e with
  |Name x p=>exact nm x p
  |_=>exact Nz
 |succ n ih =>
  intro e;cases e with
  |Name x p=>exact nm x p
  |Tuple es k p=>exact Wt (Q:=PG X _) Nz fun h=>zvE (ok.calm (zZ h).2) (uM (zZ h).1 ih) (Ck (zZ h).1).1 (Ck (zZ h).1).2
  |_=>exact Nz
def xY {X:Cx}(ok:c.Ok X)(n:Nat)(e:Expr):Li X b e (Qx c b n e):=⟨_,mO ok n e,xX n e⟩
end
def K3 (c:RC):Expr->Option (Bt×List Expr)
 |.Call (.Name y _) as [] _=>match gl c y&&YF as,Zu y c.g.g with
  |true,some (.blt b)=>some (b,as)
  |_,_=>none
 |_=>none
def bw:List Expr->Bool
 |[.Constant (.int (.ofNat 0)) _ _]=>true
 |_=>false
def Fe (r:Zz)(c:RC)(a:Expr):Option DE:=match K3 c a with
 |some (.set,[x])=>some (dB J4 (rA r c.quiet [x]))
 |_=>none
def Ax (r:Zz)(c:RC)(a:Expr):Option DE:=match K3 c a with
 |_=>none
def CQ (r:Zz)(c:RC)(b:Bt)(es:List Expr):DE:=match b,es with
 |.len,[a]=>match isD c a,Fe r c a with
  |true,_=>Fl.fl
  |false,some t=>t
  |false,none=>dB Zg (rA r c [a])
 |.list,[a]=>match Ax r c a with
  |some t=>t
  |none=>ob (KR c.it .list 1) fun r'=>dB r' (rA r c [a])
 |b,es=>ob (KR c.it b es.length) fun r'=>dB r' (rA r c es)
def Ak (r:Zz)(c:RC)(b:Bt)(es:List Expr):DE:=ZR c.calm (CQ r c b es)
def tX (r:Zz)(c:RC)(es:List Expr):Y8->DE
 |.fn k _ sp=>ZR (k.ble c.j&&c.calm) (dCall sp (rA r c es))
 |.fx k _ sp=>ZR (k.ble c.j&&c.calm) (X8 sp c.ex (rA r c es))
 |.cl k sp=>ZR ((k+1).ble c.j&&c.calm) (dCall sp (rA r c es))
 |.cx k n init=>ZR ((k+1).ble c.j&&c.calm) (X8 (Dh n init) c.ex (rA r c es))
 |.blt b=>Ak r c b es
 |_=>Fl.fl
def Bv (r:Zz)(c:RC)(o:Expr)(m:Str)(es:List Expr):DE:=ob (Ma m (match bw es&&se m "pop" with | true=>9 | false=>es.length) Ce) fun r'=>dM r' (r.e c o) (rA r c es)
def Eo (r:Zz)(c:RC)(o:Expr)(m:Str)(es:List Expr):DE:=match es with
 | [k]=>match se m "get" with
  |true=>Fl.fl
  |false=>Fl.fl
 | [k,z]=>ZR (se m "get") (Lp (r.e c o) (r.e c k) (r.e c z))
 |_=>Fl.fl
def uL:List (Str×(DE->DE->DE)) :=[]
def yt (r:Zz)(c:RC)(o:Expr)(m:Str)(es:List Expr):DE:=match es with
 |[a]=>match Zu m uL with
  |some t=>t (r.e c o) (r.e c a)
  |none=>Bv r c o m [a]
 |es=>Bv r c o m es
def kJ (r:Zz)(c:RC)(o:Expr)(m:Str)(ap:Pos)(es:List Expr)(cp:Pos):DE:=ZR (!Rw o&&(ap.endLine==cp.line)&&YF es&&Nat.blt es.length 25&&c.calm) (match isD c o with
 |true=>Eo r c o m es
 |false=>yt r c o m es)
variable [B:Bs]
section
variable {X:Cx}{c:RC}{r:Zz}
theorem RC.Ok.quiet (ok:c.Ok X):c.quiet.Ok (RJ X) :=⟨⟨ok.nm,ok.N,ok.nd,ok.rm,ok.fn,ok.calm,fun _=>rfl,fun _=>PassesOwn.never,ok.kind,ok.top,ok.gm,ok.lm⟩,Hf,(fun h=>nomatch h)⟩
def Ly (ok:c.Ok X){b:Bt}{e:Expr}{as:List Expr}(h:K3 c e=some (b,as)):∃ p q,e=.Call (.Name b.nm p) as [] q/\YF as=true/\Gl X b.nm/\X.mg b.nm=none:=by
 unfold K3 at h;split at h
 ·rename_i y p as' q;split at h
  ·rename_i hb he;cases h;obtain⟨rfl,m⟩:=ok.gm.g _ _ (Nr he);exact⟨p,q,rfl,(zZ hb).2,(Jb ok (zZ hb).1).1,m⟩
  ·cases h
 ·cases h
def zuV {it:Bool}{b:Bt}{n:Nat}{r':DB}(hc:X.calm=true)(h:KR it b n=some r'):(bootBuiltins b.nm=some (.builtin b.id)/\BC X (.builtin b.id) r')\/∃ T,bootBuiltins b.nm=some (.type T)/\BC X (.type T) r':=by
 unfold KR at h;split at h
 ·cases h;exact .inl ⟨boot_len,jd⟩
 ·cases h;exact .inl ⟨boot_abs,ztm⟩
 ·cases h;exact .inl ⟨boot_max,j8 hc⟩
 ·cases h;exact .inl ⟨boot_min,ũ hc⟩
 ·cases h;exact .inl ⟨boot_max,cU hc⟩
 ·cases h;exact .inl ⟨boot_min,zqG hc⟩
 ·cases h;exact .inl ⟨boot_all,iY hc⟩
 ·cases h;exact .inr ⟨_,boot_list,zqE⟩
 ·cases h;exact .inl ⟨boot_isinstance,fM⟩
 ·cases h
theorem nZ {m:Str}{k:Nat}{r':DM}:∀ {l:List (Str×Nat×DM)},Ma m k l=some r'->(m,k,r')∈l
 |(y,j,u)::l,h=>by
  unfold Ma at h;cases e:Nat.beq k j&&se m y with
  |true =>rw[e]at h;cases h;rw[RM (zZ e).2,Nat.eq_of_beq_eq_true (zZ e).1];exact qO
  |false=>rw[e]at h;exact qj _ (nZ h)
def zsu (hr:zO j X.A):Al (fun p=>∃ id,Slot "list" p.1 id/\typeOf (.builtin id)=pure (.type "method_descriptor")/\MD X id p.2.2) Ce :=
 .cons ⟨_,PySem.F.slot_list_extend,PySem.F.type_list_extend,zkZ⟩ <|
 .cons ⟨_,PySem.F.slot_list_pop,PySem.F.type_list_pop,â⟩ <|
 .cons ⟨_,PySem.F.slot_list_clear,PySem.F.type_list_clear,zo2⟩ <|
 .cons ⟨_,PySem.F.slot_list_append,PySem.F.type_list_append,zl6⟩ .nil
def gY (hr:zO j X.A){m:Str}{k:Nat}{r':DM}(h:Ma m k Ce=some r'):∃ id,Slot "list" m id/\typeOf (.builtin id)=pure (.type "method_descriptor")/\MD X id r':=(zsu hr).mem _ (nZ h)
omit B in
def zF {e:Expr}{es:List Expr}(h:YF (e::es)=true):isStar e=false/\YF es=true:=by unfold YF at h ⊢;rw[Xz,qq]at h;exact⟨Zw h.1,h.2⟩
def zvM (hr:r.Ok)(ok:c.Ok X)(hc:c.calm=true)(hg:Gl X "len")(hm:X.mg "len"=none){a:Expr}{t:DE}{p pos:Pos}(h:Fe r c a=some t):PD X (.Call (.Name "len" p) [a] [] pos) t:=by
 unfold Fe at h;split at h
 ·rename_i e1;cases h;obtain⟨p1,q1,rfl,n1,g1,m1⟩:=Ly ok e1;exact rK (ċ (X:=RJ X) hg hm g1 m1 (Wn hr ok.quiet) (ok.calm hc) (TF (zF n1).1))
 ·cases h
def fV (hr:r.Ok)(ok:c.Ok X)(hc:c.calm=true)(hg:Gl X "list")(hm:X.mg "list"=none){a:Expr}{t:DE}{p pos:Pos}(h:Ax r c a=some t):PD X (.Call (.Name "list" p) [a] [] pos) t:=by
 have two:∀ {x y:Expr},YF [x,y]=true->starEach [x,y] X.env=[(false,eval x X.env),(false,eval y X.env)]/\starEach [y] X.env=[(false,eval y X.env)]:=fun n=>by obtain⟨n1,n2⟩:=zF n;exact⟨Mp n1 (zF n2).1,TF (zF n2).1⟩
 unfold Ax at h;cases h
def ī (hr:r.Ok)(ok:c.Ok X)(hc:c.calm=true){b:Bt}{x:Str}(hx:x=b.nm)(hg:Gl X x)(hm:X.mg x=none)(hn:x≠"__name__")(hd:(x==("__debug__":Str))=false){e:Expr}{es:List Expr}(hs:YF (e::es)=true){p pos:Pos}:PD X (.Call (.Name x p) (e::es) [] pos) (CQ r c b (e::es)):=by
 obtain⟨s1,s2⟩:=zF hs;have he:starEach (e::es) X.env=(false,eval e X.env)::starEach es X.env:=V1 s1;have hpl:(backTo pos (starEach es X.env)).any (·.1)=false:=Kh s2
 have gen:∀ r',KR c.it b (e::es).length=some r'->PD X (.Call (.Name x p) (e::es) [] pos) (dB r' (rA r c (e::es))):=fun r' h=>by
  rcases zuV (ok.calm hc) h with⟨h1,h2⟩|⟨T,h1,h2⟩
  ·exact zyf h2 hm (hx▸h1) (Wn hr ok) hg hn hd he hpl
  ·exact zxi h2 hm (hx▸h1) (Wn hr ok) hg hn hd he hpl
 unfold CQ;split
 ·rename_i e0;cases e0;split
  ·exact Zq
  ·rename_i h;subst hx;exact zvM hr ok hc hg hm h
  ·exact gen _ rfl
 ·rename_i e0;cases e0;split
  ·rename_i h;subst hx;exact fV hr ok hc hg hm h
  ·exact QM gen
 ·exact QM gen
def Ň (hr:r.Ok)(ok:c.Ok X){x:Str}(h:gl c x=true){e:Expr}{es:List Expr}(hs:YF (e::es)=true){en:Y8}(he:Zu x c.g.g=some en){p pos:Pos}:PD X (.Call (.Name x p) (e::es) [] pos) (tX r c (e::es) en):=by
 obtain⟨h1,h2,h3⟩:=Jb ok h;obtain⟨s1,s2⟩:=zF hs;have hst:starEach (e::es) X.env=(false,eval e X.env)::starEach es X.env:=V1 s1;have hpl:(backTo pos (starEach es X.env)).any (·.1)=false:=Kh s2;have g:=ok.gm.g _ _ (Nr he);have A:=Wn hr ok (es:=e::es);cases en with
 |fn k ps sp=>exact Xc fun q=>bF (g (qG (zZ q).1)) (ok.rm (zZ q).2) A (qG (zZ q).1) h1 h2 hst hpl
 |fx k ps sp=>exact Xc fun q=>Ŕ (g (qG (zZ q).1)) ok.hX (ok.rm (zZ q).2) A (qG (zZ q).1) h1 h2 hst hpl
 |cl k sp=>exact Xc fun q=>cA (g (qG (zZ q).1)) (ok.rm (zZ q).2) A (qG (zZ q).1) h1 h2 hst hpl
 |cx k n init=>exact Xc fun q=>iU (g (qG (zZ q).1)) ok.hX (ok.rm (zZ q).2) A (qG (zZ q).1) h1 h2 hst hpl
 |int n=>exact Zq
 |str z=>exact Zq
 |kt cs=>exact Zq
 |blt b =>obtain⟨hx,hm⟩:=g;show PD X _ (Ak r c b (e::es));unfold Ak;exact Xc fun q=>ī hr ok q hx h1 hm h3 h2 hs
omit B in
def Ci {env:Env}{pos:Pos}{es:List Expr}(hs:YF es=true)(hl:es.length<25):((backTo pos (starEach es env)).all (fun x=>!x.1)&&(backToKw pos (keywordEach [] env)).all (fun x=>x.1.isSome)
  &&decide (es.length+([]:List Keyword).length+(if([]:List Keyword).isEmpty then 0 else 1)<30))=true:=by
 have h1:(backTo pos (starEach es env)).all (fun x=>!x.1)=true:=by have:=Kh (env:=env) (pos:=pos) hs;rw[List.all_eq_not_any_not];simpa using this
 rw[h1];simp only[Bool.true_and];have:(backToKw pos (keywordEach [] env)).all (fun x=>x.1.isSome)=true:=rfl;rw[this,Bool.true_and];exact decide_eq_true (by show es.length+0+0<30;lia)
def vP (hr:r.Ok)(ok:c.Ok X){o:Expr}{m:Str}{es:List Expr}{ap cp:Pos}(h1:Rw o=false)(h2:(ap.endLine==cp.line)=true)(h3:YF es=true)(h4:es.length<25)(h5:c.calm=true):PD X (.Call (.Attribute o m ap) es [] cp) (Bv r c o m es):=by
 refine QM fun r' h=>?_
 obtain⟨id,sl,ty,md⟩:=gY (ok.rm h5) h;cases es with
 |nil=>exact bA sl ty md (hr.e ok o) (Qk h1) h2
 |cons e es=>exact zzm sl ty md (hr.e ok o) (Wn hr ok) (Qk h1) (Ci h3 h4) h2 (V1 (zF h3).1) (Kh (zF h3).2)
def zuI (hr:r.Ok)(ok:c.Ok X){o:Expr}{m:Str}{es:List Expr}{ap cp:Pos}(h1:Rw o=false)(h2:(ap.endLine==cp.line)=true)(h3:YF es=true)(h4:es.length<25)(h5:c.calm=true):PD X (.Call (.Attribute o m ap) es [] cp) (Eo r c o m es):=by
 have rm:=ok.rm h5;unfold Eo;split
 ·have s1:=TF (env:=X.env) (zF h3).1;have M:∀ n,M1 X o n ap _ cp:=fun n=>⟨Qk h1,Ci h3 h4,h2,by rw[s1];rfl⟩
  split
  ·exact Zq
  ·exact Zq
 ·refine Xc fun e=>?_
  rw[RM e];have s2:=Mp (env:=X.env) (zF h3).1 (zF (zF h3).2).1;exact ο rm (hr.e ok _) (hr.e ok _) (hr.e ok _) ⟨Qk h1,Ci h3 h4,h2,by rw[s2];rfl⟩
 ·exact Zq
def Ϗ:Al (fun p=>∀ {a b:Expr} {ta tb:DE} {ap cp:Pos},PD X a ta->PD X b tb->Rw a=false->isStar b=false->(ap.endLine==cp.line)=true->PD X (.Call (.Attribute a p.1 ap) [b] [] cp) (p.2 ta tb)) uL :=.nil
def Ů (hr:r.Ok)(ok:c.Ok X){o:Expr}{m:Str}{es:List Expr}{ap cp:Pos}:PD X (.Call (.Attribute o m ap) es [] cp) (kJ r c o m ap es cp):=by
 refine Xc fun h=>?_
 simp only[qq]at h;obtain⟨⟨⟨⟨h1,h2⟩,h3⟩,h4⟩,h5⟩:=h;have h4:=Nat.blt_eq.mp h4;have h1:=Zw h1;split
 ·exact zuI hr ok h1 h2 h3 h4 h5
 ·unfold yt;split
  ·split
   ·rename_i e;exact Ϗ.mem _ (Nr e) (hr.e ok _) (hr.e ok _) h1 (zF h3).1 h2
   ·exact vP hr ok h1 h2 h3 h4 h5
  ·exact vP hr ok h1 h2 h3 h4 h5
end
end Dp
namespace Dp
open PySem PySem.Spec PyProof.Rows L2 My
def Kd (r:Zz)(c:RC)(tg it:Expr):DI:=match K3 c it with
 |some (.range,[a])=>RP (rA r c [a])
 |some (.range,[a,b])=>Ju (rA r c [a,b])
 |some (.zip,[a,b])=>ZR (isTup tg) (Ih (rA r c [a,b]))
 |some (.enum,[a])=>ZR (isTup tg) (V4 (rA r c [a]))
 |_=>Zn (r.e c it)
def Nx (r:Zz)(c:RC)(tg:Expr):Expr->DI
 | .Call (.Attribute o m ap) es ks cp=>match se m "items" with
  |true=>ZR (isTup tg&&!Rw o&&(ap.endLine==cp.line)&&es.isEmpty&&ks.isEmpty) (JV (r.e c o))
  |false=>Kd r c tg (.Call (.Attribute o m ap) es ks cp)
 |it=>Kd r c tg it
def ι (y:Str×NameKind):Str×NameKind:=match y with
 |(n,.free)=>(n,.cell)
 |y=>y
def RC.inner (c:RC)(sc:Scope)(N:List Str):RC:={ c with nm:=sc.names.map ι,fl:=sc.names,N:=N,ex:=xF,m:=0,top:=false,lm:=none }
def frees (own N:List Str)(l:List Str):List Str:=l.foldl (fun acc y=>match has y own||!has y N||has y acc with
 |true=>acc
 |false=>acc++[y]) []
def K6:List Str->Bool
 |[]=>true
 |x::l=>!has x l&&K6 l
def Jv (c:RC)(sc:Scope):List Str->List Nat->Bool
 |[],[]=>true
 |x::xs,j::js=>slt x c.N==some j&&Zu x sc.names==some .free&&Zu x c.nm==some .cell&&Jv c sc xs js
 |_,_=>false
def uE (c:RC)(sc:Scope):Bool:=sc.kind==.function&&sc.names.all fun y=>match y.2 with
 |.free=>Zu y.1 c.nm==some .cell
 |.cell=>Zu y.1 sc.names==some .cell
 |.local=>Zu y.1 sc.names==some .local
 |_=>true
def Ij (r:Zz)(c ci:RC)(e tg it:Expr)(ifs:List Expr)(sc:Scope):DE :=
 let own:=nms 9 tg;let free:=frees own c.N ((e::ifs).flatMap (nms 30));let fv:=free.filterMap fun x=>slt x c.N
 let c1:=c.inner sc (own++free)
 ZR (uE c sc&&K6 (own++free)&&Jv c sc free fv&&!isSet it&&c.calm) (Zf own.length fv (Nx r ci tg it) (Qx c1 own.length 9 tg) (match ifs with
  |[]=>XH
  |[t]=>r.t c1 t
  |_=>Fl.fl) (r.e c1 e))
theorem mQ {x:Str}:∀ {l:List Str},has x l=false->x∉l
 |[],_=>qN
 |y::r,h=>by
  unfold has at h;rw[Bool.or_eq_false_iff,M9]at h;intro m;rcases qv.mp m with e|m
  ·rw[e]at h;simp at h
  ·exact mQ h.2 m
theorem JK:∀ {l:List Str},K6 l=true->l.Nodup
 |[],_=>List.nodup_nil
 |x::l,h=>VB.mpr ⟨mQ (Zw (zZ h).1),JK (zZ h).2⟩
variable [B:Bs]
section
variable {X:Cx}{c ci:RC}{r:Zz}
def GR {tg e:Expr}:XC X tg e Fl.fl:=by
 with_unfolding_all
 exact by rintro Z9 s U H R I ⟨_,_,_,_,_,_,h,_⟩;exact h.elim
def mV (hr:r.Ok)(ok:c.Ok X){tg it:Expr}:XC X tg it (Kd r c tg it):=by
 unfold Kd;split
 ·rename_i e1;obtain⟨p,q,rfl,n1,g1,m1⟩:=Ly ok e1;exact zqP m1 (Wn hr ok) g1 (TF (zF n1).1)
 ·rename_i e1;obtain⟨p,q,rfl,n1,g1,m1⟩:=Ly ok e1;exact Ŵ m1 (Wn hr ok) g1 (Mp (zF n1).1 (zF (zF n1).2).1) (TF (zF (zF n1).2).1)
 ·rename_i e1;obtain⟨p,q,rfl,n1,g1,m1⟩:=Ly ok e1;refine Wt (Q:=XC X tg _) GR fun h=>?_
  cases tg with
  |Tuple es k p=>exact Ť g1 m1 (Wn hr ok) (Mp (zF n1).1 (zF (zF n1).2).1) (TF (zF (zF n1).2).1)
  |_=>cases h
 ·rename_i e1;obtain⟨p,q,rfl,n1,g1,m1⟩:=Ly ok e1;refine Wt (Q:=XC X tg _) GR fun h=>?_
  cases tg with
  |Tuple es k p=>exact zjU g1 m1 (Wn hr ok) (TF (zF n1).1)
  |_=>cases h
 ·exact ė (hr.e ok _)
def Aq (hr:r.Ok)(ok:c.Ok X){tg it:Expr}:XC X tg it (Nx r c tg it):=by
 unfold Nx;split
 ·split
  ·rename_i o m ap es ks cp hm;refine Wt (Q:=XC X tg _) GR fun h=>?_
   simp only[qq]at h;obtain⟨⟨⟨⟨h1,h2⟩,h3⟩,h4⟩,h5⟩:=h;have e4:=List.isEmpty_iff.mp h4;have e5:=List.isEmpty_iff.mp h5;have e6:=RM hm;subst e4 e5 e6;cases tg with
   |Tuple es k p=>exact Ã (hr.e ok _) ⟨Qk (Zw h2),rfl,h3⟩
   |_=>cases h1
  ·exact mV hr ok
 ·exact mV hr ok
theorem yq (ok:c.Ok X){sc:Scope}:∀ {xs:List Str} {js:List Nat},Jv c sc xs js=true->U9 X sc xs js
 |[],[],_=>True.intro
 |x::xs,j::js,h=>by unfold Jv at h;simp only[qq]at h;obtain⟨⟨⟨h1,h2⟩,h3⟩,h4⟩:=h;exact⟨ok.N.symm▸PJ (eq_of_beq h1),Uw.symm.trans (eq_of_beq h2),ok.kd.trans (eq_of_beq h3),yq ok h4⟩
structure CV (X:Cx)(sc:Scope):Prop where
 kind:sc.kind=.function
 fr:WR (fun x=>X.env.kindOf x=some .cell) sc.names
 cell:∀ y∈sc.names,y.2=.cell->sc.names.lookup y.1=some .cell
 loc:∀ y∈sc.names,y.2=.local->sc.names.lookup y.1=some .local
omit B in
theorem rY {P:Str->Prop}:∀ {l:List (Str×NameKind)},(∀ y∈l,y.2=.free->P y.1)->WR P l
 |[],_=>True.intro
 |(n,k)::l,h=>by
  have t:=rY (l:=l) fun y hy=>h y (qj _ hy)
  cases k with
  |free=>exact⟨h _ qO rfl,t⟩
  |_=>exact t
def ö (ok:c.Ok X){sc:Scope}(h:uE c sc=true):CV X sc:=by
 obtain⟨h1,h2⟩:=zZ h;have g:=Vm.mp h2;refine⟨eq_of_beq h1,rY fun y hy e=>?_,fun y hy e=>?_,fun y hy e=>?_⟩
 ·have:=g y hy;rw[e]at this;exact ok.kd.trans (eq_of_beq this)
 ·have:=g y hy;rw[e]at this;exact Uw.symm.trans (eq_of_beq this)
 ·have:=g y hy;rw[e]at this;exact Uw.symm.trans (eq_of_beq this)
theorem RC.Ok.inner (ok:c.Ok X)(hxe:X.xe=fun _ _=>False){N:List Str}(hs:CV X sc)(hN:N.Nodup)(cl:List (Str×Addr))(C:Addr)(s₀:ĳ)(H₀:Hp)(ex:List Addr):(c.inner sc N).Ok (My.inner X sc N cl C s₀ H₀ ex) where
 nm:=by
  refine List.map_congr_left fun y hy=>?_
  obtain⟨n,k⟩:=y;cases k with
  |free =>have:=WR.of hs.fr _ hy rfl;show(if(NameKind.free==NameKind.free&&X.env.scope.kind==.function&&X.env.kindOf n==some .cell)=true then _ else _)=_;rw[if_pos (by rw[ok.kind,this];rfl)];rfl
  |_=>rfl
 N:=rfl
 nd:=hN
 rm:=ok.rm
 fn:=fun x h=>by rw[Uw]at h;show(sc.names.lookup x==some .cell)=true;rw[show sc.names.lookup x=some .cell from h];rfl
 calm:=ok.calm
 xe:=fun _=>hxe
 hX:=Hf
 hM:=fun h=>nomatch h
 po:=fun _=>by show PassesOwn _ _ _ X.xe;rw[hxe];exact PassesOwn.never
 kind:=hs.kind
 top:=fun h=>nomatch h
 gm:=ok.gm
 lm:=trivial
structure cF (X:Cx)(c ci:RC)(r:Zz)(e tg it:Expr)(ifs:List Expr)(sc:Scope)(own free:List Str)(fv:List Nat)(g:DG)(g':TG)(tc:DT)(te:DE):Prop where
 s:CV X sc
 fv:U9 X sc free fv
 g:Wv X.K own.length g g'/\∀ cl C s₀ H₀ ex,PG (My.inner X sc (own++free) cl C s₀ H₀ ex) tg g'
 t:∀ cl C s₀ H₀ ex,K9 (My.inner X sc (own++free) cl C s₀ H₀ ex) ifs tc
 e:∀ cl C s₀ H₀ ex,PD (My.inner X sc (own++free) cl C s₀ H₀ ex) e te
 fs:∀ x,foldedSetIterable it X.env x=pure x
 ca:X.calm=true
def m7 (hr:r.Ok)(ok:c.Ok X)(hxe:X.xe=fun _ _=>False){Q:DE->Prop}(hf:Q Fl.fl){e tg it:Expr}{ifs:List Expr}{sc:Scope}(h:∀ own free fv g g' tc te,cF X c ci r e tg it ifs sc own free fv g g' tc te->Q (Zf own.length fv (Nx r ci tg it) g tc te)):Q (Ij r c ci e tg it ifs sc):=by
 refine Wt hf fun b=>?_
 simp only[qq]at b;obtain⟨⟨⟨⟨h1,h2⟩,h3⟩,h4⟩,h5⟩:=b;have hs:=ö ok h1;have inn:=fun cl C s₀ H₀ ex=>ok.inner hxe hs (JK h2) cl C s₀ H₀ ex
 refine h _ _ _ _ _ _ _ ⟨hs,yq ok h3,⟨xX 9 tg,fun cl C s₀ H₀ ex=>mO (inn cl C s₀ H₀ ex) 9 tg⟩,fun cl C s₀ H₀ ex=>?_,fun cl C s₀ H₀ ex=>hr.e (inn cl C s₀ H₀ ex) e,pI (Zw h4),ok.calm h5⟩;have i:=inn cl C s₀ H₀ ex;split
 ·exact zsz
 ·exact Ÿ (hr.t i _)
 ·with_unfolding_all
  exact by rintro Z9 s U H Q I ⟨_,_,_,_,_,_,h,_⟩;exact h.elim
def jH (hr:r.Ok)(ok:c.Ok X)(oki:ci.Ok X)(hxe:X.xe=fun _ _=>False){e tg it:Expr}{ifs:List Expr}{sc:Scope}{pos:Pos}:PD X (.ListComp e [⟨tg,it,ifs,0⟩] sc pos) (Ij r c ci e tg it ifs sc) :=m7 (Q:=PD X _) hr ok hxe Zq fun _ _ _ _ _ _ _ h=>zwe h.s.fr h.fv (Aq hr oki) h.g h.t h.e h.ca hxe h.s.kind h.s.cell h.s.loc h.fs
end
def UW (a:Arguments)(ps:List Str):Bool:=match a with
 |⟨[],as,none,[],[],none,[]⟩=>as.map (·.arg)==ps&&K6 ps
 |_=>false
omit B in
theorem uU {α β:Type}{f g:α->Option β}:∀ {l:List α},(∀ x∈l,f x=g x)->l.filterMap f=l.filterMap g
 |[],_=>rfl
 |x::l,h=>by rw[Oc,Oc,h x qO,uU fun y hy=>h y (qj _ hy)]
omit B in
theorem rP:∀ {ps:List Str} {us:List ĸ},ps.Nodup->us.length=ps.length->ps.filterMap (fun n=>((ps.zip us).lookup n).map (n,·))=ps.zip us
 |[],_,_,_=>rfl
 |p::ps,[],_,h=>by simp at h
 |p::ps,u::us,nd,hl=>by
  obtain⟨n1,n2⟩:=VB.mp nd;have e:List.lookup p ((p,u)::ps.zip us)=some u:=by rw[qu,beq_self_eq_true]
  rw[List.zip_cons_cons,Oc,e];show(p,u)::_=_;refine congrArg _ (Eq.trans ?_ (rP n2 (by simpa using hl)));refine uU fun x hx=>?_
  have:(x==p)=false:=beq_eq_false_iff_ne.mpr fun e=>n1 (e▸hx)
  rw[qu,this]
omit B in
theorem nC:∀ {ps:List Str} {us:List ĸ} {x:Str},us.length=ps.length->x∈ps->((ps.zip us).lookup x).isSome=true
 |p::ps,u::us,x,hl,hx=>by
  rw[List.zip_cons_cons,qu];cases e:x==p with
  |true=>rfl
  |false =>
   rcases qv.mp hx with rfl|hx
   ·simp at e
   ·exact nC (by simpa using hl) hx
 |p::ps,[],x,hl,hx=>by simp at hl
omit B in
def tE {fd:FuncData}{ps:List Str}{us:List ĸ}(hp:UW fd.params ps=true)(hd:fd.defaults=.none)(hl:us.length=ps.length):bindArgs fd ⟨us,[]⟩=pure (ps.zip us):=by
 unfold UW at hp;split at hp
 ·rename_i as e;obtain⟨h1,h2⟩:=zZ hp;have h1:=eq_of_beq h1;unfold bindArgs;rw[e,hd]
  have e1:(ps.filter fun n=>(List.lookup n (ps.zip us)).isNone)=[]:=by
   rw[List.filter_eq_nil_iff];intro x hx;have:=nC hl hx;cases e:(ps.zip us).lookup x with
   |none=>rw[e]at this;cases this
   |some _=>simp
  have e2:=rP (JK h2) hl;have hs:seqItems? Value.none=pure none:=rfl;have g:∀ n:Nat,(decide (n<n))=false:=fun n=>decide_eq_false (Xx n)
  simp only[hs,h1,Oz,List.nil_append,qY,KZ,pure_bind,Option.getD_none,Array.toList_empty,List.drop_nil,List.zip_nil_right,O1,Nat.sub_zero,Vb,e1,e2,List.isEmpty_nil,QH,TY,if_false,gt_iff_lt,hl,g,Wu]
 ·cases hp
def stE (r:Zz)(c:RC):Expr->DE
 |.Name x _=>GC c x
 |.Constant (.int i) _ _=>dC (.int i)
 |.Constant (.str x) _ _=>dC (.str x)
 |.Constant (.bool b) _ _=>dC (.bl b)
 |.Constant .none _ _=>dC .non
 |.BinOp a op b _=>DQ r c a op b
 |.UnaryOp .Not a _=>QK (r.e c a)
 |.UnaryOp .USub a _=>Vc Vd (r.e c a)
 |.BoolOp op es _=>Kr r c op es
 |.Compare a ops bs _=>Cj r c a ops bs
 |.IfExp t a b _=>xM (r.t c t) (r.e c a) (r.e c b)
 |.Tuple es _ _=>dTup (rA r c es)
 |.List es _=>Ye (rA r c es)
 |.Dict [] [] _=>match c.dn with
  |some (some true)=>Mz
  |some (some false)=>CW
  |some none=>Lx
  |_=>Fl.fl
 |.Dict [some a] [b] _=>match c.dn with
  |some (some false)=>ZR c.calm (Lr (r.e c a) (r.e c b))
  |_=>Dl (r.e c a) (r.e c b)
 |.Subscript a b _=>Bg r c a b
 |.Attribute a f _=>ZR (!Rw a) (Yi f (r.e c a))
 |.Call (.Name x _) (a::as) [] _=>ZR (gl c x&&YF (a::as)) (ob (Zu x c.g.g) (tX r c (a::as)))
 |.Call (.Attribute o m ap) es [] cp=>kJ r c o m ap es cp
 |.ListComp e [⟨tg,it,ifs,0⟩] sc _=>Ij r c.quiet c.quiet e tg it ifs sc
 |_=>Fl.fl
def DX (r:Zz)(c:RC):Expr->DT
 |.Compare a ops bs _=>dT (Cj r c a ops bs)
 |.UnaryOp .Not a _=>VP (r.t c a)
 |.BoolOp op es _=>Ja r c op es
 |e=>ZR (!xV e) (dT (r.e c e))
section
variable {X:Cx}{c:RC}{r:Zz}
def Ó (hr:r.Ok)(ok:c.Ok X)(e:Expr):PD X e (stE r c e):=by
  cases e with
  |Name x p=>exact eO ok
  |Constant v k p=>cases v with
    |int i=>exact ztK
    |str x=>exact yI
    |bool b=>exact Ē
    |none=>exact zv1
    |_=>exact Zq
  |BinOp a op b p=>exact ō hr ok
  |UnaryOp op a p=>cases op with
    |Not=>exact ĺ (hr.e ok _)
    |USub=>exact dG (hr.e ok _)
    |_=>exact Zq
  |BoolOp op es p=>exact Bh hr ok
  |Compare a ops bs p=>exact(pW hr ok).1
  |IfExp t a b p=>exact zsP (hr.t ok _) (hr.e ok _) (hr.e ok _)
  |Tuple es k p=>exact Ġ (Wn hr ok)
  |List es p=>exact zuX (Wn hr ok)
  |Dict ks vs p=>cases ks with
    |nil=>cases vs with
      |nil =>
        show PD X _ (match c.dn with
          |some (some true)=>Mz
          |some (some false)=>CW
          |some none=>Lx
          |_=>Fl.fl)
        split
        . exact zrm
        . exact zqp
        . exact Ì
        . exact Zq
      |cons=>exact Zq
    |cons k ks=>cases k with
      |none=>exact Zq
      |some a=>cases ks with
        |cons=>exact Zq
        |nil=>cases vs with
          |nil=>exact Zq
          |cons b vs=>cases vs with
            |cons=>exact Zq
            |nil =>
              show PD X _ (match c.dn with
                |some (some false)=>ZR c.calm (Lr (r.e c a) (r.e c b))
                |_=>Dl (r.e c a) (r.e c b))
              split
              . exact Xc fun h=>zoS (ok.rm h) (hr.e ok _) (hr.e ok _)
              exact zn6 (hr.e ok _) (hr.e ok _)
  |Subscript a b p=>exact ζ hr ok
  |Attribute a f p=>exact Xc fun h=>dU (hr.e ok _) (Qk (Zw h))
  |Call f as kws p=>cases f with
    |Name x p2=>cases as with
      |nil=>exact Zq
      |cons a as=>cases kws with
        |nil=>exact Xc fun h=>QM fun en he=>Ň hr ok (zZ h).1 (zZ h).2 he
        |cons kw kws =>
          obtain⟨arg,val,kp⟩:=kw;cases arg with
          |none=>cases as<;>exact Zq
          |some kw=>cases val with
            |_=>cases as<;>exact Zq
    |Attribute o m ap=>cases kws with
      |nil=>exact Ů hr ok
      |cons=>exact Zq
    |_=>exact Zq
  |ListComp e gs sc p=>cases gs with
    |nil=>exact Zq
    |cons g gs =>
      obtain⟨tg,it,ifs,n⟩:=g;cases n with
      |negSucc=>exact Zq
      |ofNat n=>cases n with
        |succ=>exact Zq
        |zero=>cases gs with
          |nil=>exact rK (jH hr ok.quiet ok.quiet rfl)
          |cons=>exact Zq
  |_=>exact Zq
def zs8 (hr:r.Ok)(ok:c.Ok X)(e:Expr):YG X e (DX r c e):=by
 unfold DX;split
 ·exact(pW hr ok).2
 ·exact zsI (hr.t ok _)
 ·exact zu7 (Et hr ok)
 ·exact Wt (Q:=YG X _) BJ fun h=>Ϻ (hr.e ok _) (gG (Zw h))
end
end Dp
namespace Dp
open PySem PySem.Spec PyProof.Rows L2 My
def zyJ (c:RC)(e:Expr):Bool:=(nms 30 e).any fun y=>match Zu y c.g.g with
 |some (.fx _ _ _)=>true
 |some (.cx _ _ _)=>true
 |_=>false
def Ĉ (c:RC)(y:Str)(py lp:Pos)(sc:Scope):Bool:=Zu y c.nm==some .local&&py.line==lp.line&&!(sc.names.any fun (n,k)=>n==y&&(k==.local||k==.cell))
def sy (r:Zz)(c:RC)(x:Str)(px:Pos)(v:Expr):DS:=ob (slt x c.N) fun i=>match v with
 |.ListComp e [⟨tg,it,ifs,0⟩] sc lp=>match Ĉ c x px lp sc with
  |true=>match c.m==0||!zyJ c it with
   |true=>zq (Ij r c.quiet c.quiet e tg it ifs sc) (zP i)
   |false=>Yl
  |false=>ZR (WX c x&&Zu x c.nm==some .cell) (zq (r.e { c with dn:=Zu x c.d } v) (zP i))
 |v=>ZR (WX c x&&!Es v) (zq (r.e { c with dn:=Zu x c.d } v) (zP i))
def ŷ (c:RC):Expr->Bool
 |.Name x _=>Zu x c.d==some none
 |_=>false
def Bm (r:Zz)(c:RC)(v:Expr):Expr->DS
 |.Name x px=>sy r c x px v
 |.Attribute o f _=>ZR (c.g.f.any fun p=>se c.cls p.1&&se f p.2) (VL c.cls f (r.e c o) (r.e c v))
 |.Subscript o i _=>ZR (!Nh i) (match isD c o with
  |true=>ZR c.calm (match ŷ c o with
   |true=>Tj (r.e c o) (r.e c i) (r.e c v)
   |false=>Nb (r.e c o) (r.e c i) (r.e c v))
  |false=>zq (r.e c v) (Od (r.e c o) (r.e c i)))
 |.Tuple es k p=>match es,v with
  |es,v=>ZR (!isTup v) (zq (r.e c v) (Qx c 1000 9 (.Tuple es k p)))
 |_=>Yl
def GK (c:RC)(it:Expr):Expr->DG
 |tg=>Qx c 1000 9 tg
def rS (r:Zz)(c:RC):Stmt->DS
 |.Pass _=>zK
 |.Break _=>xq
 |.Continue _=>oG
 |.Return (some e) _=>zE (r.e c e)
 |.Expr e _=>ZR (!Es e) (Za (r.e c e))
 |.If t a b _=>ZD (r.t c t) (r.s c a) (r.s c b)
 |.While t a [] _=>ZR (c.m.ble 1) (Vo (r.t c t) (r.s c a))
 |.For tg it a [] _=>ZR (c.m.ble 1&&c.calm&&!isSet it) (YJ (Nx r c tg it) (GK c it tg) (r.s c a))
 |.AugAssign (.Name x _) .Add e _=>ob (slt x c.N) fun i=>ZR (WX c x) (Hw i (r.e c e))
 |.Assign [tg] v _=>Bm r c v tg
 |.Raise (some (.Call (.Name x _) [.Constant (.str _) _ _] [] _)) none _=>match c.m==1 with
  |true=>ZR (has x c.g.r&&gl c x&&c.calm) (SN c.ex x)
  |false=>Yl
 |_=>Yl
def FJ (r:Zz)(c:RC):List Stmt->DS
 |[]=>zK
 |[st]=>rS r c st
 |st::s2::l=>zj (match nJ st with
  |true=>sJ (rS r c st)
  |false=>rS r c st) (FJ r c (s2::l))
section
variable {env:Env}{v:Expr}
def tR {a b:Expr}{p:Pos}{l:Nat}:swapsWith v (some (.Subscript a b p)) l env=pure false:=by cases v<;>rfl
def zrJ {a b:Expr}{p:Pos}{l:Nat}:swapsWithSole [.Subscript a b p] v l env=pure false:=by cases v<;>rfl
def ztj {a:Expr}{f:Str}{p:Pos}{l:Nat}:swapsWith v (some (.Attribute a f p)) l env=pure false:=by cases v<;>rfl
def bI {o i : Expr} {p : Pos} (h : Nh i = false) (v : ĸ) : assign (.Subscript o i p) env v = (do
      let ov <- holding [v] (eval o env);let iv <- holding [v,ov] (eval i env)
      standAt p
      holding [v,ov,iv] (setItem ov iv v)
      release [v,ov,iv] []):=by cases i<;>first|rfl|cases h
def zvk {es:List Expr}{k:Nat}{p:Pos}{l:Nat}:swapsWithSole [.Tuple es k p] v l env=pure false:=by cases v<;>rfl
def zvo (h:isTup v=false){es:List Expr}{k:Nat}{p:Pos}:swappedStores [.Tuple es k p] v env=pure none:=by cases v<;>first|rfl|cases h
def Ė {a b:Expr}{p:Pos}:swappedStores [.Subscript a b p] v env=pure none:=by cases v<;>rfl
def zrr {x:Str}{p:Pos}{l:Nat}(h:env.kindOf x=some .cell):swapsWith v (some (.Name x p)) l env=pure false:=by
 cases v with
 |ListComp=>show pure (env.blockKind==.function&&env.kindOf x==some .local&&_&&_)=_;rw[h,show((some NameKind.cell==some NameKind.local):Bool)=false from rfl,RT,Wu,Wu]
 |SetComp=>show pure (env.blockKind==.function&&env.kindOf x==some .local&&_&&_)=_;rw[h,show((some NameKind.cell==some NameKind.local):Bool)=false from rfl,RT,Wu,Wu]
 |DictComp=>show pure (env.blockKind==.function&&env.kindOf x==some .local&&_&&_)=_;rw[h,show((some NameKind.cell==some NameKind.local):Bool)=false from rfl,RT,Wu,Wu]
 |_=>rfl
def ó (h:env.scope.kind=.function):env.blockKind=.function:=by unfold Env.blockKind;rw[h];rfl
def iM {x:Str}{p lp:Pos}{l:Nat}{e:Expr}{gs:List Comprehension}{sc:Scope}(hk:env.scope.kind=.function)(h:env.kindOf x=some .local)(hl:(p.line==lp.line)=true)(hn:(sc.names.any fun (n,k)=>n==x&&(k==.local||k==.cell))=false):swapsWith (.ListComp e gs sc lp) (some (.Name x p)) l env=pure true:=by show pure (env.blockKind==.function&&env.kindOf x==some .local&&p.line==lp.line&&!(sc.names.any fun (n,k)=>n==x&&(k==.local||k==.cell)))=_;rw[ó hk,h,hl,hn];rfl
end
variable [B:Bs]
section
variable {X:Cx}{c:RC}{r:Zz}
theorem RC.Ok.dn (ok:c.Ok X){d:Option (Option Bool)}:RC.Ok { c with dn:=d } X:=⟨⟨ok.nm,ok.N,ok.nd,ok.rm,ok.fn,ok.calm,ok.xe,ok.po,ok.kind,ok.top,ok.gm,ok.lm⟩,ok.hX,ok.hM⟩
omit B in
theorem uo {x:Str}:∀ {l:List Str},has x l=true->x∈l
 |y::r,h=>by
  unfold has at h;rcases(N5 _ _).mp h with h|h
  ·rw[RM h];exact qO
  ·exact qj _ (uo h)
def zry (ok:c.Ok X){it tg:Expr}:Li X 1000 tg (GK c it tg):=by unfold GK;exact xY ok 9 _
def aO (hr:r.Ok)(ok:c.Ok X){x:Str}{px pos:Pos}{v:Expr}:Zr X (.Assign [.Name x px] v pos) (sy r c x px v):=by
 refine vd fun i hi=>?_
 have hi:=ok.N.symm▸PJ hi;have nd:=ok.N.symm▸ok.nd;split
 ·rename_i e tg it ifs sc lp;split
  ·rename_i hb;obtain⟨h,h3⟩:=zZ hb;obtain⟨h1,h2⟩:=zZ h;have hl:=eq_of_beq h1;have hsw:=iM (l:=pos.line) (e:=e) (gs:=[⟨tg,it,ifs,0⟩]) ok.kind (ok.kd.trans hl) h2 (Zw h3);have hl':X.env.scope.names.lookup x=some .local:=ok.kd.trans hl;split
   ·exact dX (m7 (Q:=fun t=>Zr (RJ X) _ (zq t (zP i))) hr ok.quiet rfl Gq fun _ _ _ _ _ _ _ h=>Ϩ (X:=RJ X) nd h.s.fr h.fv (Aq hr ok.quiet) h.g h.t h.e hi hl' h.ca rfl h.s.kind h.s.cell h.s.loc hsw h.fs)
   ·exact zR
  ·refine V6 fun h=>?_
   obtain⟨h1,h2⟩:=zZ h;obtain⟨s1,s2⟩:=Hv ok h1;exact lX nd (hr.e ok.dn _) hi s1 (zrr (ok.kd.trans (eq_of_beq h2))) s2
 ·refine V6 fun h=>?_
  obtain⟨h1,h2⟩:=zZ h;obtain⟨s1,s2⟩:=Hv ok h1;exact lX nd (hr.e ok.dn _) hi s1 (sU (Zw h2)) s2
def dO (hr:r.Ok)(ok:c.Ok X){tg v:Expr}{pos:Pos}:Zr X (.Assign [tg] v pos) (Bm r c v tg):=by
 have nd:=ok.N.symm▸ok.nd;unfold Bm;split
 ·exact aO hr ok
 ·refine V6 fun h=>?_
  obtain⟨⟨a,b⟩,hp,h⟩:=List.any_eq_true.mp h;obtain⟨h1,h2⟩:=zZ h;exact Γ (ok.gm.f _ _ (by rw[RM h1,RM h2];exact hp)) (hr.e ok _) (hr.e ok _) ztj
 ·refine V6 fun h=>?_
  split
  ·refine V6 fun h2=>?_
   split
   ·exact zn4 (ok.rm h2) (hr.e ok _) (hr.e ok _) (hr.e ok _) tR
   exact zpq (ok.rm h2) (hr.e ok _) (hr.e ok _) (hr.e ok _) tR
  ·exact vm (hr.e ok _) (Ģ (hr.e ok _) (hr.e ok _) (bI (Zw h))) zrJ Ė
 ·exact V6 fun h=>vm (hr.e ok _) (xY ok 9 _) zvk (zvo (Zw h))
 ·exact zR
def Hh (hr:r.Ok)(ok:c.Ok X)(st:Stmt):Zr X st (rS r c st):=by
 have nd:=ok.N.symm▸ok.nd;cases st with
 |Pass p=>exact ħ
 |Break p=>exact zmy
 |Continue p=>exact ϭ
 |Return v p=>cases v with
  |none=>exact zR
  |some e=>exact ņ (hr.e ok _)
 |Expr e p=>exact V6 fun h=>fW (hr.e ok _) (sU (Zw h))
 |If t a b p=>exact cD (hr.t ok _) (hr.s ok _) (hr.s ok _)
 |While t a o p=>cases o with
  |nil=>exact V6 fun h=>zms (hr.t ok _) (hr.s ok _) (ok.po (qG h))
  |cons=>exact zR
 |For tg it a o p=>cases o with
  |cons=>exact zR
  |nil =>
   refine V6 fun h=>?_
   simp only[qq]at h;obtain⟨⟨h1,h2⟩,h3⟩:=h;exact zrv (Aq hr ok) (zry ok) (hr.s ok _) (ok.po (qG h1)) (ok.calm h2) (pI (Zw h3))
 |AugAssign tg op e p=>cases tg with
  |Name x p2=>cases op with
   |Add =>
    refine vd fun i hi=>V6 fun h=>?_
    obtain⟨s1,s2⟩:=Hv ok h;exact ϣ nd (hr.e ok _) (ok.N.symm▸PJ hi) s1 s2
   |_=>exact zR
  |_=>exact zR
 |Assign ts v p=>cases ts with
  |nil=>exact zR
  |cons tg ts=>cases ts with
   |nil=>exact dO hr ok
   |cons=>exact zR
 |Raise ex ca p=>cases ex with
  |none=>exact zR
  |some ex=>cases ex with
   |Call f as kws p2=>cases f with
    |Name x p3=>cases as with
     |nil=>exact zR
     |cons a as=>cases a with
      |Constant v k p4=>cases v with
       |str z=>cases as with
        |cons=>exact zR
        |nil=>cases kws with
         |cons=>exact zR
         |nil=>cases ca with
          |some=>exact zR
          |none =>
           show Zr X _ (match c.m==1 with
            |true=>ZR (has x c.g.r&&gl c x&&c.calm) (SN c.ex x)
            |false=>Yl)
           cases hm:c.m==1 with
           |true =>
            refine V6 fun h=>?_
            simp only[qq]at h;obtain⟨⟨h1,h2⟩,h3⟩:=h;obtain⟨g1,g2,g3⟩:=Jb ok h2;obtain⟨r1,r2⟩:=ok.gm.r _ (uo h1);exact ż (ok.hM (eq_of_beq hm)) (ok.calm h3) r1 r2 g1 (wV yI lg (V1 rfl)) (fun _ _ _ h=>h _) g2 (V1 rfl)
           |false=>exact zR
       |_=>exact zR
      |_=>exact zR
    |_=>exact zR
   |_=>exact zR
 |_=>exact zR
theorem ou (hr:r.Ok)(ok:c.Ok X):∀ (l:List Stmt),Wz X l (FJ r c l)
 |[]=>znZ
 |[st]=>zpg (Hh hr ok st)
 |st::s2::l=>by
  refine Ϥ ?_ (ou hr ok (s2::l));cases nJ st with
  |true=>exact Ĝ (Hh hr ok st)
  |false=>exact Hh hr ok st
end
noncomputable def rd (n:Nat):Zz:=Nat.rec ⟨fun _ _=>Fl.fl,fun _ _=>Fl.fl,fun _ _=>Fl.fl⟩ (fun _ r=>⟨stE r,DX r,FJ r⟩) n
omit B in
theorem NQ:∀ n,(rd n).Ok
 |0=>⟨fun _ _=>Zq,fun _ _=>BJ,fun _ _=>ztc⟩
 |n+1=>⟨fun ok e=>Ó (NQ n) ok e,fun ok e=>zs8 (NQ n) ok e,fun ok l=>ou (NQ n) ok l⟩
end Dp
namespace Dp
open PySem PySem.Spec PyProof.Rows L2 My
def Ss (N ps:List Str)(st:Stmt):Bool:=(zG st).kind==.function&&!(zG st).isCoroutine&&!(zG st).isGenerator&&K6 N&&ps.all (fun x=>Zu x (zG st).names==some .local||Zu x (zG st).names==some .cell)&&(zG st).names.all (fun y=>!(y.2==.free))&&UW (Xy st) ps
def yG {M ps:List Str}{st:Stmt}(h:Ss (ps++M) ps st=true):Qe (ps++M) ps (zG st):=by
 simp only[Ss,qq]at h;obtain⟨⟨⟨⟨⟨⟨h1,h2⟩,h3⟩,h4⟩,h5⟩,h6⟩,_⟩:=h;refine⟨eq_of_beq h1,Zw h2,Zw h3,JK h4,List.take_left,fun x hx=>?_,fun y hy e=>?_⟩
 ·have:=Vm.mp h5 x hx;simpa [Uw]using this
 ·have:=Vm.mp h6 y hy;rw[e]at this;cases this
def KH (_:Ĳ)(_:Str->Option ĸ)(_:Heap)(_:List Str):Prop:=True
def Ml (G:Gm)(xs:List Str)(x:Str)(st:Stmt):Y8->Prop
 |.fn (k+1) ps sp=>UW (Xy st) ps=true/\∀ P w K mg base f fd,KH K mg base xs->Tt P w K mg base k G->FH K x st f fd->YS P w K mg base Wq (k+1) f fd ps (Xv K sp)
 |.fx (k+1) ps sp=>UW (Xy st) ps=true/\∀ P w K mg base f fd,KH K mg base xs->Tt P w K mg base k G->FH K x st f fd->YS P w K mg base (Vq P w) (k+1) f fd ps (Uv K sp)
 |_=>False
def RowC (G:Gm)(c:Str)(st:Stmt):Y8->Prop
 | .cl (k+1) sp=>∃ ps init,sp=RZ c init/\UW (Xy st) ps=true/\∀ P w K mg base q f fd,Tt P w K mg base k G->W9 K "__init__" q st f fd->YS P w K mg base Wq (k+1) f fd ps (Xv K init)
 | .cx (k+1) c' init=>c'=c/\∃ ps,UW (Xy st) ps=true/\∀ P w K mg base q f fd,Tt P w K mg base k G->W9 K "__init__" q st f fd->YS P w K mg base (Vq P w) (k+1) f fd ps (Uv K init)
 |_=>False
def tU (K:Ĳ)(c:Str)(st:Stmt):Prop:=∃ C f fd,PySem.W.nsIn K mainGlobals c=some (some (.ref C))/\Mk K C f/\Cls K C/\∃ q,W9 K "__init__" q st f fd
abbrev Nu (G:Gm)(st:Stmt)(N:List Str)(k m:Nat)(ex:XR)(d:List (Str×Option Bool))(it:Bool)(cls:Str)(lm:Option Str):RC:={ g:=G,nm:=(zG st).names,fl:=(zG st).names,N:=N,j:=k,ex:=ex,m:=m,d:=d,it:=it,cls:=cls,lm:=lm }
section
variable {G:Gm}{xs:List Str}{x qual c:Str}{st:Stmt}{k:Nat}{ps M:List Str}{sp:ZX}{sx:Yq}{b:DS}{bx:XR->DS}{d:List (Str×Option Bool)}{it:Bool}{cls:Str}
def yE {K:Ĳ}{base:Heap}(body:BodyOk (ps++M).length b sp)(len:∀ ds So Q,sp ds So Q->ds.length=ps.length)(h:(Ss (ps++M) ps st,(rd 60).s (Nu G st (ps++M) k 0 xF d it cls none) (X7 st))=(true,b))(hG:Tt P w K mg base k G)(F:W9 K x qual st f fd):YS P w K mg base Wq (k+1) f fd ps (Xv K sp):=by
 obtain⟨h1,h2⟩:=X3 h;have S:=yG h1;refine ao F S len body fun cdv A outer s H E hr _=>?_
 rw[<- h2];exact(NQ 60).s ⟨⟨rfl,rfl,S.nd,fun _=>hr,fun _ _=>rfl,fun _=>rfl,fun _=>rfl,fun _=>PassesOwn.never,S.kind,fun _=>⟨rfl,rfl⟩,hG,by exact trivial⟩,Hf,(fun h=>by cases h)⟩ _
def ztJ {K:Ĳ}{base:Heap}(body:Vp (ps++M).length bx sx)(len:∀ ds So Q ex,sx ds So Q ex->ds.length=ps.length)(h:(Ss (ps++M) ps st,fun ex=>(rd 60).s (Nu G st (ps++M) k 1 ex d it cls none) (X7 st))=(true,bx))(hG:Tt P w K mg base k G)(F:W9 K x qual st f fd):YS P w K mg base (Vq P w) (k+1) f fd ps (Uv K sx):=by
 obtain⟨h1,h2⟩:=X3 h;have S:=yG h1;refine zpE F S len body fun cdv A outer s H E hr _ ex hX hM=>?_
 rw[<- h2];exact(NQ 60).s ⟨⟨rfl,rfl,S.nd,fun _=>hr,fun _ _=>rfl,fun _=>rfl,(fun h=>by cases h),fun _=>PassesOwn.leaving,S.kind,fun _=>⟨rfl,rfl⟩,hG,by exact trivial⟩,hX,fun _=>hM⟩ _
def Bj (h:Ss (ps++M) ps st=true):UW (Xy st) ps=true:=(zZ h).2
theorem Ml.fn (body:BodyOk (ps++M).length b sp)(d:List (Str×Option Bool))(it:Bool)(h:(Ss (ps++M) ps st,(rd 60).s (Nu G st (ps++M) k 0 xF d it Str.empty none) (X7 st))=(true,b))
    (len:∀ ds So Q,sp ds So Q->ds.length=ps.length:=by (intros;rename_i h;repeat (first|(obtain⟨e,_⟩:=h;subst e;rfl)|obtain⟨_,h⟩:=h))):Ml G xs x st (.fn (k+1) ps sp) :=
  ⟨Bj (X3 h).1,fun P w K mg base f fd _ hG F=>yE body len h hG F.F⟩
theorem Ml.fx (body:Vp (ps++M).length bx sx)(d:List (Str×Option Bool))(it:Bool)(h:(Ss (ps++M) ps st,fun ex=>(rd 60).s (Nu G st (ps++M) k 1 ex d it Str.empty none) (X7 st))=(true,bx))
    (len:∀ ds So Q ex,sx ds So Q ex->ds.length=ps.length:=by (intros;rename_i h;repeat (first|(obtain⟨e,_⟩:=h;subst e;rfl)|obtain⟨_,h⟩:=h))):Ml G xs x st (.fx (k+1) ps sx) :=
  ⟨Bj (X3 h).1,fun P w K mg base f fd _ hG F=>ztJ body len h hG F.F⟩
theorem RowC.cl {init:ZX}(body:BodyOk (ps++M).length b init)(h:(Ss (ps++M) ps st,(rd 60).s (Nu G st (ps++M) k 0 xF [] false c none) (X7 st))=(true,b))
    (len:∀ ds So Q,init ds So Q->ds.length=ps.length:=by (intros;rename_i h;repeat (first|(obtain⟨e,_⟩:=h;subst e;rfl)|obtain⟨_,h⟩:=h))):RowC G c st (.cl (k+1) (RZ c init)) :=
  ⟨ps,init,rfl,Bj (X3 h).1,fun P w K mg base _ f fd hG F=>yE body len h hG F⟩
end
def Jk (K:Ĳ)(x:Str):Y8->Prop
 |.blt b=>x=b.nm/\PySem.W.nsIn K mainGlobals x=some none
 |.int n=>∃ t,PySem.W.nsIn K mainGlobals x=some (some (.int n t))
 |.str z=>∃ t,PySem.W.nsIn K mainGlobals x=some (some (.str z t))
 |_=>False
def tZ (K:Ĳ)(x:Str):Prop:=∃ C,PySem.W.nsIn K mainGlobals x=some (some (.ref C))/\HB K C=true
def pQ (K:Ĳ)(q:Str×Str):Prop:=∃ C,PySem.W.nsIn K mainGlobals q.1=some (some (.ref C))/\PySem.W.findIn K (.ref C) q.2=some none
abbrev zH (x:Str)(st:Stmt)(e:Y8):Str×Stmt×Y8:=(x,st,e)
abbrev ent (x:Str)(e:Y8):Str×Y8:=(x,e)
structure Iv (G:Gm)(xs:List Str)(bs:List (Str×Y8))(F C:List (Str×Stmt×Y8)):Prop where
 g:G.g=bs++(F++C).map fun r=>(r.1,r.2.2)
 f:Al (fun r=>Ml G xs r.1 r.2.1 r.2.2) F
 c:Al (fun r=>RowC G r.1 r.2.1 r.2.2) C
structure Ba (K:Ĳ)(G:Gm)(bs:List (Str×Y8))(F C:List (Str×Stmt×Y8)):Prop where
 b:Al (fun q=>Jk K q.1 q.2) bs
 f:Al (fun r=>∃ f fd,FH K r.1 r.2.1 f fd) F
 c:Al (fun r=>tU K r.1 r.2.1) C
 r:Al (tZ K) G.r
 w:Al (pQ K) G.f
section
variable {P:Program}{w:World}{K:Ĳ}{mg:Str->Option ĸ}{base h:Heap}{G:Gm}{xs:List Str}{bs:List (Str×Y8)}{F C:List (Str×Stmt×Y8)}
def Ko {st:Stmt}{ps:List Str}(F:W9 K x qual st f fd)(h:UW (Xy st) ps=true):Binds K fd ps []:=F.binds fun _ _ _ _ _ _ us hl=>tE h rfl hl
def aX (R:Iv G xs bs F C)(X:K.In h)(N:h.Ns mainGlobals mg)(T:KH K mg base xs)(S:Ba K G bs F C):∀ j,Tt P w K mg base j G:=by
 have rest:∀ j,(∀ x e,(x,e)∈G.g->rJ P w K mg base j x e)->Tt P w K mg base j G:=fun j hg=>{
  g:=hg
  r:=fun x hx=>by obtain⟨D,h1,h2⟩:=S.r.mem x hx;exact⟨fun D' hn=>by rw[h1]at hn;cases hn;exact Lh.of h2,D,h1,PySem.W.mg_of X N h1⟩
  f:=fun c f hx D hn=>by obtain⟨D',h1,h2⟩:=S.w.mem _ hx;rw[h1]at hn;cases hn;exact h2 }
 refine fun j=>Nat.strongRecOn j fun j ih=>rest j fun x e he=>?_
 rw[R.g]at he;rcases qE.mp he with hb|hb
 ·have b:=S.b.mem _ hb;cases e with
  |int n=>obtain⟨t,b⟩:=b;exact⟨t,PySem.W.mg_of X N b⟩
  |str z=>obtain⟨t,b⟩:=b;exact⟨t,PySem.W.mg_of X N b⟩
  |blt b'=>exact⟨b.1,PySem.W.mg_none_of X N b.2⟩
  |_=>exact b.elim
 ·obtain⟨⟨y,st,e⟩,hr,e'⟩:=qC.mp hb;cases e';rcases qE.mp hr with hr|hr
  ·have q:=R.f.mem _ hr;obtain⟨f,fd,H⟩:=S.f.mem _ hr;cases e with
   |fn k ps sp=>cases k with
    |zero=>exact q.elim
    |succ k=>exact fun z=>⟨⟨f,fd,q.2 _ _ _ _ _ _ _ T (ih k z) H,Ko H.F q.1,H.F.kp,PySem.W.mg_of X N H.a⟩⟩
   |fx k ps sp=>cases k with
    |zero=>exact q.elim
    |succ k=>exact fun z=>⟨⟨f,fd,q.2 _ _ _ _ _ _ _ T (ih k z) H,Ko H.F q.1,H.F.kp,PySem.W.mg_of X N H.a⟩⟩
   |_=>exact q.elim
  ·have q:=R.c.mem _ hr;obtain⟨D,f,fd,h1,h2,h3,_,h4⟩:=S.c.mem _ hr;cases e with
   |cl k sp=>cases k with
    |zero=>exact q.elim
    |succ k =>obtain⟨ps,init,e1,ha,q⟩:=q;have e1:sp=RZ y init:=e1;subst e1;exact fun z=>⟨⟨D,f,fd,ps,_,h2,q _ _ _ _ _ _ _ _ (ih k (U3 z)) h4,Ko h4 ha,PySem.W.mg_of X N h1,Β h3 h1⟩⟩
   |cx k c' sp=>cases k with
    |zero=>exact q.elim
    |succ k =>obtain⟨e1,ps,ha,q⟩:=q;have e1:c'=y:=e1;subst e1;exact fun z=>⟨⟨D,f,fd,ps,h2,q _ _ _ _ _ _ _ _ (ih k (U3 z)) h4,Ko h4 ha,PySem.W.mg_of X N h1,h3,h1⟩⟩
   |_=>exact q.elim
def zsE {L:Nat}{st:Stmt}{sp:ZX}{fa:Addr}{P:Program}{w:World}(R:Iv G xs bs F C)(hl:(("law":Str),st,Y8.fn (L+1) ["script"] sp)∈F)(X:K.In h)(N:h.Ns mainGlobals mg)(S:Ba K G bs F C)(hfa:mg "law"=some (.ref fa)) :
  ∃ fd:FuncData,(∀ (s:ĳ) (u:ĸ),BindsTo s fd ⟨[u],[]⟩ [("script",u)])/\∀ base:Heap,K.In base->base.Ns mainGlobals mg->KH K mg base xs->YS P w K mg base Wq (L+1) fa fd ["script"] (Xv K sp):=by
 obtain⟨f,fd,H⟩:=S.f.mem _ hl;have q:=R.f.mem _ hl;have e:=hfa.symm.trans (PySem.W.mg_of X N H.a);cases e;obtain⟨oc,od,kV,doc,pm,an,cdv,ct,osl,rfl,Zu,hcd⟩:=H.F.ex;exact⟨_,fun s u=>.of_eq (tE (ps:=["script"]) q.1 rfl rfl),fun base hb hn T=>q.2 _ _ _ _ _ _ _ T (aX R X N T S L) H⟩
end
section
variable {K:Ĳ}{x c:Str}{st:Stmt}
def cJ {b:Bt}(e:x=b.nm)(h:PySem.W.nsIn K mainGlobals x=some none):Jk K x (.blt b):=⟨e,h⟩
def Ŷ {n:Int}{t:Tok}(h:PySem.W.nsIn K mainGlobals x=some (some (.int n t))):Jk K x (.int n):=⟨t,h⟩
def é {z:Str}{t:Tok}(h:PySem.W.nsIn K mainGlobals x=some (some (.str z t))):Jk K x (.str z):=⟨t,h⟩
def zvp {f:Addr}{oc:ĸ}{od an:Option Addr}{osl:Array (Option ĸ)}{kV doc pm cdv ct:ĸ}(a:PySem.W.nsIn K mainGlobals x=some (some (.ref f)))
  (l:K.lookup f=some ⟨oc,od,.func (PySem.W.fnOf x x (Xy st) (X7 st) (zG st) .none kV doc pm an cdv ct),osl⟩) (c:PySem.W.codeIn K cdv x=true) (k:PySem.W.keepIn K (.ref f)=true):∃ f fd,FH K x st f fd:=⟨f,_,kh a l c k⟩
def gJ {q:Str}{C f:Addr}{oc kV dc pm cd ct:ĸ}{od an:Option Addr}{sl:Array (Option ĸ)}(a:PySem.W.nsIn K mainGlobals c=some (some (.ref C)))(q2:PySem.W.findIn K (.ref C) "__init__"=some (some (.ref f)))
  (l:K.lookup f=some ⟨oc,od,.func (PySem.W.fnOf "__init__" q (Xy st) (X7 st) (zG st) .none kV dc pm an cd ct),sl⟩) (cc:PySem.W.codeIn K cd q=true) (k:PySem.W.keepIn K (.ref f)=true)
  (q1:PySem.W.makesIn K C=true) (q3:PySem.W.isFn K (.ref f)=true) (q4:PySem.W.keepIn K (.ref C)=true) (q5:PySem.W.plainGet K C Str.empty=true) (q6:PySem.W.hasDictIn K C=true) (q7:PySem.W.plainOver K C=true) (q8:PySem.W.findIn K (.ref C) "__setattr__"=some (some (.builtin "object.__setattr__"))):tU K c st :=
 ⟨C,f,_,a,⟨q1,q2,q3,q4⟩,⟨q5,q6,q7,q8⟩,q,vC l cc k⟩
def ù {C:Addr}(a:PySem.W.nsIn K mainGlobals x=some (some (.ref C)))(h:HB K C=true):tZ K x:=⟨C,a,h⟩
def zte {C:Addr}(a:PySem.W.nsIn K mainGlobals x=some (some (.ref C)))(h:PySem.W.findIn K (.ref C) f=some none):pQ K (x,f):=⟨C,a,h⟩
end
section
variable {l:PySem.W.OpenLaw}{q:Program}{loose:List Str}{XP:(Str->Option ĸ)->Heap->Prop}{YP:World->Heap->Prop}{d:DefRec}{K:Params->Ĳ}{G:Gm}{bs:List (Str×Y8)}{F C:List (Str×Stmt×Y8)}{st:Stmt}
def bZ {K:Ĳ}{mg:Str->Option ĸ}{base:Heap}:KH K mg base []:=trivial
def zmT (L:Nat)(hn:l.most=some 63)(hdf:d.params.defaults=[])(hd:d.name="law")(hr:zO (L+1) callerA)(hY:∀ (w:World) (h:Heap),YP w h->(K w.params).In h)
  (R:Iv G [] bs F C) (hl:(("law":Str),st,Y8.fn (L+1) ["script"] Pj)∈F) (S:∀ w:World,Ba (K w.params) G bs F C):PySem.W.WalkO q loose XP YP l.row.toRowW d [] (fun f vs=>PySem.call f vs) :=
 É (n:=63) (sp:=fun w=>Xv (K w.params) Pj) hn (by decide) hdf hr hY (fun w mg fa h KX N hfa=>by obtain⟨fd,hb,hF⟩:=zsE R hl KX N (S w) (hd▸hfa);exact⟨fd,hb,fun base b n=>hF base b n bZ⟩) fun _ _ _ _ hl hg hO hS=>zuH hl hg hO hS
end
end Dp
open PySem Dp
local macro_rules | `(tactic| walk_at"dat")=>`(tactic| first | assumption | exact zM | exact OJ | (refine(zQ _ _ _).trans ?_;exact rfl) | exact zy (by assumption))
local macro_rules | `(tactic| walk_at"l")=>`(tactic| first | assumption | exact Lst.rl | exact Lst.at0 | exact Lst.new | (refine Lst.at ?_;exact rfl) | exact Lst.old (by assumption) | exact Lst.here (by assumption) | exact Lst.here (zy (by assumption)))
local macro_rules | `(tactic| walk_at"dseq")=>`(tactic| first | exact Or.inl rfl | (refine Or.inr ?_;walk_at"l"))
local macro_rules | `(tactic| walk_at"d")=>`(tactic| first | assumption | exact My.Bd.mono (by assumption) (by decide) | exact My.Bd.lit (by decide) (by decide) | (refine My.Bd.add ?_ ?_<;>walk_at"d") | (refine My.Bd.sub ?_ ?_<;>walk_at"d") | (refine My.Bd.neg ?_;walk_at"d") | (refine My.Bd.mulH ?_ ?_<;>walk_at"d") | (refine My.Bd.emod (by first | decide | lia) ?_;walk_at"d") | (refine My.Bd.ediv ?_;walk_at"d"))
local macro_rules | `(tactic| walk_at"dmul")=>`(tactic| first | assumption | exact Or.inr (Or.inl (by first | decide | lia)) | exact Or.inr (Or.inr (by first | decide | lia)) | exact Or.inl ⟨by walk_at"d",by walk_at"d"⟩)
local macro_rules | `(tactic| walk_at"ddiv")=>`(tactic| first | assumption | exact⟨by first | decide | lia,by walk_at"d"⟩)
local macro_rules | `(tactic| walk_at"dr1")=>`(tactic| first|(with_reducible refine Á fun _ _ _=>?_)|(with_reducible refine å fun _ _=>?_)|(with_reducible refine zzd fun _ _=>?_)|((with_reducible refine nxi (W:=?rvw) ?rvk ?_);(case rvk=>assumption))|((with_reducible refine Α (W:=?rvw) ?rvk ?_);(case rvk=>assumption)))
local macro_rules | `(tactic| walk_at"dr1")=>`(tactic| with_reducible first|refine ε ?_|refine Λ ?_|refine zsV ?_)
local macro_rules | `(tactic| walk_at"dr1")=>`(tactic| with_reducible first|refine fU ?_|refine ô ?_|refine œ ?_|refine zws ?_|refine zyN ?_|refine zve ?_|refine zwj ?_|refine zvs ?_|refine gB ?_|refine zoR ?_|refine Ô ?_|refine π ?_)
local macro_rules | `(tactic| walk_at"dr1")=>`(tactic| first|((with_reducible refine cB (xs:=?rvx) ?rvl ?_);(case rvl=>walk_at"l")))
local macro_rules | `(tactic| walk_at"dr1")=>`(tactic| with_reducible first|refine GX ?_|refine CT ?_|refine zxm ?_|refine Û ?_|refine zxN ?_|refine uT ?_|refine j6 ?_|refine ā ?_|refine zx3 ?_)
local macro_rules | `(tactic| walk_at"dr1")=>`(tactic| first|((with_reducible refine d9 (xs:=?rvx) ?rvl ?_);(case rvl=>walk_at"l"))|((with_reducible refine ē (a:=?rvv) ?rvk ?_);(case rvk=>exact rfl))|((with_reducible refine Js (xs:=?rvx) ?rvk ?rvl ?_);(case rvk=>walk_at"dat");(case rvl=>first | exact Nat.lt_of_ble_eq_true rfl | assumption | (simp only[big,qf,qX,O1,qa]at *;lia))))
local macro_rules | `(tactic| walk_at"dr1")=>`(tactic| with_reducible first|refine Ú ?_|refine fH ?_|refine ztl ?_|refine zue ?_|refine fL ?_|refine zy9 ?_|refine zwz ?_|refine υ ?_|refine dZ ?_|refine ĩ ?_)
local macro_rules | `(tactic| walk_at"dr1")=>`(tactic| first|((with_reducible refine zun ?rvk ?_);(case rvk=>exact rfl)))
local macro_rules | `(tactic| walk_at"dr1")=>`(tactic| with_reducible first|refine Š ?_|refine zhg ?_|refine aq ?_|refine Ä ?_|refine jL ?_)
local macro_rules | `(tactic| walk_at"dr1")=>`(tactic| first|((with_reducible refine δ (xs:=?rvx) ?rvl ?_);(case rvl=>walk_at"l"))|((with_reducible refine vW (xs:=?rvx) ?rvl ?_);(case rvl=>walk_at"l")))
local macro_rules | `(tactic| walk_at"dr1")=>`(tactic| with_reducible first|refine fJ ?_|refine ztS ?_|refine iK ?_)
local macro_rules | `(tactic| walk_at"dr1")=>`(tactic| with_reducible first|refine Ar ?_|refine jO ?_|refine zxQ ?_|refine zw2 ?_|refine zx6 ?_|refine WT ?_|refine zwf ?_|refine FT ?_|refine iH ?_|refine uG ?_|refine W2 ?_|refine jw ?_)
local macro_rules | `(tactic| walk_at"dr1")=>`(tactic| first|((with_reducible refine Fd (ys:=?rvx) ?rvk ?_);(case rvk=>walk_at"dat")))
local macro_rules | `(tactic| walk_at"dr1")=>`(tactic| with_reducible first|refine cu ?_|refine zsl ?_|refine r_b ?_|refine r_m ?_)
local macro_rules | `(tactic| walk_at"dr1")=>`(tactic| first|((with_reducible refine zwC ?rvk ?_);(case rvk=>exact rfl)))
local macro_rules | `(tactic| walk_at"dr1")=>`(tactic| with_reducible first|refine zxw ?_)
local macro_rules | `(tactic| walk_at"dr1")=>`(tactic| with_reducible first|refine r_t ?_|refine zym ?_|refine iT ?_|refine zxj ?_|refine Č ?_|refine gH ?_|refine Τ ?_|refine zti ?_|refine zrx ?_|refine ĝ ?_|refine Aw ?_|refine Ab ?_)
local macro_rules | `(tactic| walk_at"dr1")=>`(tactic| first|((with_reducible refine jK ?rvk ?_);(case rvk=>walk_at"dmul"))|((with_reducible refine ĕ ?rvk ?_);(case rvk=>walk_at"ddiv"))|((with_reducible refine oO ?rvk ?_);(case rvk=>first | assumption | decide | lia))|((with_reducible refine Ŧ (d:=?rvv) ?rvk ?_);(case rvk=>first | assumption | exact rfl))|((with_reducible refine rB (xs:=?rvx) (d:=?rvv) ?rvl ?rvk ?_);(case rvl=>walk_at"l");(case rvk=>first | assumption | exact rfl)))
local macro_rules | `(tactic| walk_at"dr1")=>`(tactic| with_reducible first|refine zwV ?_)
local macro_rules | `(tactic| walk_at"dr1")=>`(tactic| with_reducible first|refine r_c ?_|refine Io ?_|refine zzC ?_|refine eV ?_|refine zxV ?_|refine ό ?_|refine jm ?_|refine ľ ?_|refine zyn ?_|refine zza ?_|refine fK ?_|refine zxG ?_)
local macro_rules | `(tactic| walk_at"dr1")=>`(tactic| first|((with_reducible refine RG (d:=?rvv) ?rvk ?_);(case rvk=>exact rfl)))
local macro_rules | `(tactic| walk_at"dr1")=>`(tactic| with_reducible first|refine zzA ?_|refine j7 ?_)
local macro_rules | `(tactic| walk_at"dr1")=>`(tactic| first|((with_reducible refine ϫ (g:=?rv1) (b:=?rv2) (f:=?rv3) (h:=?rv4) (a:=?rv5) (l:=?rv6) (d:=?rv7) ?rvk ?_);(case rvk=>walk_at"dat"))|((with_reducible refine ztn (g:=?rv1) (b:=?rv2) (f:=?rv3) (h:=?rv4) (a:=?rv5) (l:=?rv6) (d:=?rv7) ?rvk ?_);(case rvk=>walk_at"dat")))
local macro_rules | `(tactic| walk_at"dr1")=>`(tactic| first|((with_reducible refine zwp (l:=?rvx) ?rvk ?_);(case rvk=>walk_at"dat"))|((with_reducible refine ı (g:=?rv1) (b:=?rv2) (f:=?rv3) (h:=?rv4) (a:=?rv5) (l:=?rv6) (d:=?rv7) ?rvk ?_);(case rvk=>walk_at"dat"))|((with_reducible refine aG (g:=?rv1) (b:=?rv2) (f:=?rv3) (h:=?rv4) (a:=?rv5) (l:=?rv6) (d:=?rv7) ?rvk ?_);(case rvk=>walk_at"dat"))|((with_reducible refine zu0 (g:=?rv1) (b:=?rv2) (f:=?rv3) (h:=?rv4) (a:=?rv5) (l:=?rv6) (d:=?rv7) ?rvk ?_);(case rvk=>walk_at"dat"))|((with_reducible refine Ā (g:=?rv1) (b:=?rv2) (f:=?rv3) (h:=?rv4) (a:=?rv5) (l:=?rv6) (d:=?rv7) ?rvk ?_);(case rvk=>walk_at"dat")))
local macro_rules | `(tactic| walk_at"dr1")=>`(tactic| with_reducible first|refine tW ?_|refine Ϯ ?_|refine jA ?_|refine um ?_|refine ztk ?_|refine ú ?_)
local macro_rules | `(tactic| walk_at"dr1")=>`(tactic| with_reducible first|refine zzl ?_|refine k_drop ?_|refine dw ?_|refine Ń ?_|refine cX ?_|refine k_m ?_|refine cC ?_|refine cV ?_|refine jj ?_|refine zyD ?_|refine Cy ?_|refine î ?_)
local macro_rules | `(tactic| walk_at"dr1")=>`(tactic| with_reducible first|refine zzB ?_|refine zzD ?_|refine ď ?_|refine zzv ?_|refine Ý ?_|refine zyx ?_|refine k_t ?_|refine ak ?_|refine jB ?_|refine zyh ?_|refine zzk ?_|refine zyF ?_)
local macro_rules | `(tactic| walk_at"g")=>`(tactic| repeat walk_at"dr1")
local macro_rules | `(tactic| walk_at"h")=>`(tactic| simp only[Tg,qQ,Oz,qX,O1,Nat.reduceSub,Nat.reduceAdd,List.replicate,HS,List.nil_append,List.set_cons_zero,Hy])
local macro_rules | `(tactic| walk_at"j")=>`(tactic| simp only[List.set_cons_zero,Hy])
namespace Dp
open PySem Rm My
def Jh:ZX:=fun ds S Q=>∃ (ns:List Int) (k:Int),ds=[.rl (ns.map D.int),.int k]/\0<=k/\∀ v,Q (.int v) S
abbrev YT:DG:=zP 0
abbrev Wf:DG:=zP 1
abbrev Ys:DG:=zP 2
abbrev YD:DG:=zP 3
abbrev YH:DG:=zP 4
abbrev Yt:DG:=zP 5
abbrev VN:DG:=zP 6
abbrev Tn:DG:=zP 7
abbrev JF:DG:=zP 8
abbrev CP:DG:=zP 9
abbrev vq:DG:=zP 10
abbrev wC:DG:=zP 11
abbrev xH:DG:=zP 12
abbrev zzg:DG:=zP 13
abbrev zyK:DG:=zP 14
abbrev Ϙ:DG:=zP 15
abbrev Z4:DE:=Yx 0
abbrev Z0:DE:=Yx 1
abbrev ZV:DE:=Yx 2
abbrev ZS:DE:=Yx 3
abbrev Zy:DE:=Yx 4
abbrev Y6:DE:=Yx 5
abbrev W7:DE:=Yx 6
abbrev Vs:DE:=Yx 7
abbrev Qi:DE:=Yx 8
abbrev Pu:DE:=Yx 9
abbrev U8:DE:=Yx 10
abbrev NP:DE:=Yx 11
abbrev Ge:DE:=Yx 12
abbrev xZ:DE:=Yx 13
abbrev zyM:DE:=Yx 14
abbrev zyV:DE:=Yx 15
abbrev ZF:DE:=dC (.int 0)
abbrev ZJ:DE:=dC (.int 1)
abbrev Ue:DE:=dC (.int 2)
abbrev Ln:DE:=dC (.int 3)
abbrev Tw:DE:=dC (.int 4)
abbrev RX:DE:=dC (.int 5)
abbrev Qh:DE:=dC (.int 6)
abbrev Dj:DE:=dC (.int 7)
abbrev JH:DE:=dC (.int 8)
abbrev nY:DE:=dC (.int 9)
abbrev Xf:DE:=Z6 ZL Z4 ZF
abbrev Wx:DE:=Z6 ZL Z4 ZJ
abbrev LK:DE:=Z6 ZL Z4 Ue
abbrev Mq:DE:=Z6 ZL Z4 Ln
abbrev DP:DE:=Z6 ZL Z4 Tw
abbrev xR:DE:=Z6 ZL Z4 RX
abbrev ŭ:DE:=Z6 ZL Z4 Qh
abbrev zwl:DE:=Z6 ZL Z4 Dj
abbrev Wh:DE:=Z6 ZL Z0 ZF
abbrev TQ:DE:=Z6 ZL Z0 ZJ
abbrev QX:DE:=Z6 ZL ZV ZF
abbrev RQ:DE:=Z6 ZL ZV ZJ
abbrev zwn:DE:=Z6 ZL ZV Ue
abbrev zxW:DE:=Z6 ZL ZS ZF
abbrev zxp:DE:=Z6 ZL ZS ZJ
abbrev zwt:DE:=Z6 ZL Y6 ZF
abbrev Gd:DE:=Z6 ZL Y6 ZJ
abbrev Y5:DA:=zc Z4 zm
abbrev Yy:DA:=zc Z0 zm
abbrev Yn:DA:=zc ZV zm
abbrev X4:DA:=zc ZS zm
abbrev PL:DA:=zc Zy zm
abbrev Jg:DA:=zc Y6 zm
abbrev Lb:DA:=zc W7 zm
abbrev Ug:DA:=zc Vs zm
abbrev Bb:DA:=zc U8 zm
abbrev rN:DA:=zc NP zm
abbrev mj:DA:=zc Ge zm
abbrev uO:DS :=
    (zj (ZD (dT (Z6 oLt Z0 (dB Zg Y5))) (zE (Z6 ZL Z4 Z0)) zK)
 (zE ZF))
def Ļ:BodyOk 2 uO Jh:=by
 rintro ds S Q ⟨ns,k,rfl,h0,q⟩;unfold uO;walk_at"g";rw[qa];refine Zi (fun g=>?_) (fun g=>?_)
 ·obtain⟨v,_,av⟩:=rH (zs:=ns) h0 (by lia);walk_at"g";exact fin_same (q _)
 ·walk_at"g";exact fin_same (q _)
def MN:ZX:=fun ds S Q=>∃ (c k:Int),ds=[.int c,.int k]/\0<=k/\k<3000/\∀ v,0<=v->v<1000000000000000000000000000000000000000000000000000000000033->Q (.int v) S
abbrev pO:DS :=
    (zj (zq (Z6 YZ (Z6 Zo (Z6 oMod Z4 (dC (.int 1000000000000000000000000000000000000000000000000000000000000))) Ln) (Z6 Zo (dC (.int 16180339887498948482045868343656381177203)) (Z6 YZ (Z6 YZ Ue Z0) Z0))) Ys)
 (zj (zq (Z6 Zo ZV (Z6 YZ (dC (.int 6151)) Z0)) Ys)
 (zE (Z6 oMod (Z6 YZ ZV ZV) (Z6 Zo (dC (.int 1000000000000000000000000000000000000000000000000000000000000)) (dC (.int 33)))))))
def zjO:BodyOk 3 pO MN:=by
 rintro ds S Q ⟨c,k,rfl,h0,hk,q⟩;unfold pO
 have b1:My.Bd 300 (c%1000000000000000000000000000000000000000000000000000000000000+3):=by have h1:=Ru c (b:=1000000000000000000000000000000000000000000000000000000000000) (by decide);have h2:=Rz c (b:=1000000000000000000000000000000000000000000000000000000000000) (by decide);show _<2 ^ 300;lia
 have hk2:0<=2*k*k/\2*k*k<=18000000:=⟨Int.mul_nonneg (by lia) h0,Int.le_trans (Int.mul_le_mul (show 2*k<=6000 by lia) (show k<=3000 by lia) h0 (by decide)) (by decide)⟩
 have b2:My.Bd 300 (16180339887498948482045868343656381177203+2*k*k):=by show _<2 ^ 300;lia
 have cm1:YQ (c%1000000000000000000000000000000000000000000000000000000000000+3) (16180339887498948482045868343656381177203+2*k*k):=.inl ⟨b1.mono (by decide),b2.mono (by decide)⟩
 have b3:My.Bd 700 ((c%1000000000000000000000000000000000000000000000000000000000000+3)*(16180339887498948482045868343656381177203+2*k*k)+6151*k):=(My.Bd.add (n:=600) (My.Bd.mul b1 b2) (by show _<2 ^ 600;lia)).mono (by decide)
 have cm2:YQ ((c%1000000000000000000000000000000000000000000000000000000000000+3)*(16180339887498948482045868343656381177203+2*k*k)+6151*k) ((c%1000000000000000000000000000000000000000000000000000000000000+3)*(16180339887498948482045868343656381177203+2*k*k)+6151*k):=.inl ⟨b3.mono (by decide),b3.mono (by decide)⟩;walk_at"g";exact fin_same (q _ (Ru _ (by decide)) (Rz _ (by decide)))
def Gr:ZX:=fun ds S Q=>∃ (x:D) (ns:List Int) (most:Int),ds=[x,.int most]/\Lst S x (ns.map D.int)/\ns.length<=63/\1<=most/\most<=60/\∀ zs:List Int,(zs.length:Int)=most->(∀ z∈zs,0<=z/\z<1000000000000000000000000000000000000000000000000000000000033)->New Q S (zs.map D.int)
abbrev wN:DS :=
    (zj (zq (Zf 1 [] (RP Yy) YT XH (dCall MN (zc Z4 (zc (dC (.int 40)) zm)))) Ys)
 (zj (YJ (V4 Y5) (YL 2 (zJ YD (zJ YH YW))) (zj (zq (Z6 oMod ZS Z0) Yt)
 (zq (dCall MN (zc (Z6 Zo (Z6 ZL ZV Y6) (Z6 oMod Zy (dC (.int 1000000000000000000000000000000000000000000000000000000000000)))) (zc (Z6 oMod ZS (dC (.int 37))) zm))) (Od ZV Y6))))
 (zE ZV)))
def Ð:BodyOk 6 wN Gr:=by
 rintro ds S Q ⟨x,ns,most,rfl,hx,hl,h1,h2,q⟩;unfold wN;walk_at"g";refine⟨_,rfl,by lia,by lia,?_⟩;refine⟨by rw[BW];unfold big;lia,fun i ys S'=>S'=S/\∃ zs:List Int,ys=zs.map D.int/\zs.length=i/\∀ z∈zs,0<=z/\z<1000000000000000000000000000000000000000000000000000000000033,⟨rfl,[],rfl,rfl,by simp⟩,fun _ _ _ _=>True.intro,?_,?_⟩
 ·rintro i d ys S' hd ⟨rfl,zs,rfl,hz,hb⟩;obtain⟨hi,rfl⟩:=J9 hd;walk_at"g";refine⟨_,_,rfl,by decide,by decide,fun v v0 v1=>?_⟩;refine⟨rfl,zs++[v],by rw[qB];rfl,by simp[hz],fun z hz'=>?_⟩;rcases qE.mp hz' with h|h
  ·exact hb z h
  ·have:z=v:=by simpa using h
   subst this;exact⟨v0,v1⟩
 rintro ys S' ⟨rfl,zs,rfl,hz,hb⟩;rw[BW]at hz;have hz:(zs.length:Int)=most:=by lia
 walk_at"g";refine Ow (xs:=ns.map D.int) hx.old ?_
 refine XM (fun i Z S''=>∃ (zs:List Int) (w1 w2 w3:Option D),Z=[some x,some (.int most),some (.ref S'.length),w1,w2,w3]/\S''=S'++[.lst (zs.map D.int)]/\(zs.length:Int)=most/\∀ z∈zs,0<=z/\z<1000000000000000000000000000000000000000000000000000000000033)
  ⟨zs,_,_,_,rfl,rfl,hz,hb⟩ (by rintro i Z S'' ⟨zs,w1,w2,w3,_,e,_⟩;exact e▸hx.old) ?_ ?_
 ·rintro i d Z S'' hd ⟨zs,w1,w2,w3,rfl,rfl,hz,hb⟩;obtain⟨y,hy,rfl⟩:=R6 hd;obtain⟨n,_,rfl⟩:=Ou hy;have m1:=Ru ((0+i:Nat):Int) (show most≠0 by lia);have m2:=Rz ((0+i:Nat):Int) (show 0<most by lia);obtain⟨u,hu,au⟩:=rH (zs:=zs) (k:=((0+i:Nat):Int)%most) m1 (by lia);have iu:=jZ (zs:=zs) (k:=((0+i:Nat):Int)%most) m1 (by lia);have k1:=Ru ((0+i:Nat):Int) (show(37:Int)≠0 by decide);have k2:=Rz ((0+i:Nat):Int) (show(0:Int)<37 by decide);walk_at"g";refine⟨_,_,rfl,k1,by lia,fun v v0 v1=>?_⟩;walk_at"g";refine zw0 zM iu ?_;walk_at"g";refine⟨zs.set _ v,_,_,_,rfl,by rw[List.map_set],by simpa using hz,fun z hz'=>?_⟩;rcases zpt hz' with h|h
  ·exact hb z h
  ·subst h;exact⟨v0,v1⟩
 ·rintro Z S'' ⟨zs,w1,w2,w3,rfl,rfl,hz,hb⟩;walk_at"g";exact fin_same (q zs hz hb)
def U6 (j:Int):Str:=if j=0 then "" else if j=1 then "b" else if j=2 then "xx" else "light"
def Oj (k:Nat)(j:Int):Str:=(⟨#[97+k]⟩:Str)++U6 j
def jk (j:Int)(h0:0<=j)(h1:j<4):Yu [.str "",.str "b",.str "xx",.str "light"] j=some (.str (U6 j)):=by
  have:j=0\/j=1\/j=2\/j=3:=by lia
  rcases this with rfl|rfl|rfl|rfl<;>rfl
def pH (j:Int):(U6 j).length<=5/\∀ c∈(U6 j).cps.toList,c∈abc:=by
  unfold U6;split
  . decide +kernel
  . split
    . decide +kernel
    . split<;>decide +kernel
def lV (k:Nat)(j:Int):(Oj k j).cps.toList=(97+k)::(U6 j).cps.toList:=by show((#[97+k]:Array Nat)++(U6 j).cps).toList=_;simp
def jY {k:Nat}{j:Int}(hk:k<9):W4 (Oj k j)=true:=by
 obtain⟨h1,h2⟩:=pH j
 have hl:(Oj k j).length=(U6 j).length+1:=by show((#[97+k]:Array Nat)++(U6 j).cps).size=(U6 j).cps.size+1;simp;lia
 rw[GJ,hl];refine⟨by lia,by lia,fun c hc=>?_⟩;rw[lV]at hc;rcases qv.mp hc with rfl|hc
 ·exact rE.mpr (by lia)
 ·exact h2 c hc
def zt2 (i:Nat)(h1:i<9):atS "abcdefghi" (i:Int)=some (97+i):=by
 have:∀ j:_root_.Fin 9,atS "abcdefghi" ((j.val:Nat):Int)=some (97+j.val):=by decide +kernel
 exact this ⟨i,h1⟩
def CZ:ZX:=fun ds S Q=>∃ (ns:List Int),ds=[.rl (ns.map D.int)]/\ns.length<=63/\∀ (T:Z7) (a b c:D) (zs:List Str) (ps:List (Int×Int)) (fs:List Fg) (hz f:Int),FQ zs ps fs hz f->Lst (S++T) a (zs.map D.str)->Lst (S++T) b (ps.map p2)->Lst (S++T) c (fs.map Xi)->Q (.tup [a,b,c,.int hz,.int f,.int (f+5)]) (S++T)
abbrev lM:DS :=
    (zj (zq (Z6 oMod (dCall Jh (zc Z4 (zc ZF zm))) (dC (.int 1000000000000000000000000000000))) Wf)
 (zj (zq (Z6 Zo Ue (Z6 oMod Z0 Dj)) Ys)
 (zj (zq (dCall Gr (zc (Te RN Z4 (some Ue) none) (zc nY zm))) YD)
 (zj (zq (Zf 1 [] (Zn (Te RN ZS none (some ZV))) YT XH (dTup (zc (Z6 oMod (Z6 oDiv Z4 RX) RX) (zc (Z6 oMod (Z6 oDiv Z4 (dC (.int 40))) Tw) zm)))) YH)
 (zj (zq (Zf 2 [] (V4 (zc (Te RN ZS none (some ZV)) zm)) (YL 2 (zJ YT (zJ Wf YW))) XH (Z6 Zo (Z6 ZL (dC (.str "abcdefghi")) Z4) (Z6 ZL (Ye (zc (dC (.str "")) (zc (dC (.str "b")) (zc (dC (.str "xx")) (zc (dC (.str "light")) zm))))) (Z6 oMod (Z6 oDiv Z0 (dC (.int 400))) Tw)))) Yt)
 (zj (zq (Z6 ZL (Ye (zc ZJ (zc Ue (zc Tw (zc RX (zc JH (zc (dC (.int 10)) zm))))))) (Z6 oMod (Z6 oDiv Z0 Dj) Qh)) VN)
 (zj (zq (Z6 Zh (Z6 oMod (Z6 oDiv Z0 (dC (.int 42))) nY) Tw) Tn)
 (zj (zq (Ye zm) JF)
 (zj (YJ (Zn (Te RN ZS none (some (Z6 oMod (Z6 oDiv Z0 (dC (.int 378))) Tw)))) CP (zj (zq (dCall MN (zc Pu (zc (dC (.int 72)) zm))) vq)
 (zj (zq (Z6 Zo Vs (Z6 oMod (Z6 oDiv U8 Tw) Qh)) wC)
 (zj (zq (dTup (zc (Z6 oMod (Z6 oDiv U8 (dC (.int 24))) RX) (zc (Z6 Zo (Z6 oMod (Z6 oDiv U8 (dC (.int 24))) RX) (Z6 oMod (Z6 oDiv U8 (dC (.int 120))) Ue)) (zc (Z6 oMod (Z6 oDiv U8 (dC (.int 240))) Tw) (zc (Z6 Zo (Z6 oMod (Z6 oDiv U8 (dC (.int 240))) Tw) (Z6 oMod (Z6 oDiv U8 (dC (.int 960))) Ue)) zm))))) xH)
 (Za (dM Vu Qi (zc (Z6 Zo Ge (dTup (zc NP (zc (Z6 Zo NP (Z6 oMod (Z6 oDiv U8 (dC (.int 1920))) Qh)) (zc (Z6 Zh (Z6 oMod (Z6 oDiv U8 (dC (.int 11520))) Ln) ZJ) (zc ZF zm)))))) zm)))))))
 (zE (dTup (zc Y6 (zc Zy (zc Qi (zc W7 (zc Vs (zc (Z6 Zo Vs RX) zm)))))))))))))))))
def iD:BodyOk 13 lM CZ:=by
  rintro ds S Q ⟨ns,rfl,hl,q⟩;unfold lM;walk_at"g";refine⟨ns,0,rfl,by decide,fun c0=>?_⟩;have e0:=Ru c0 (b:=1000000000000000000000000000000) (by decide);have e1:=Rz c0 (b:=1000000000000000000000000000000) (by decide);walk_at"g";generalize c0%1000000000000000000000000000000=hd at e0 e1;rw[M4];have cl:(cutD ns (some 2) none).length<=63:=qW (zrs _ _ _) (by unfold Xk;dsimp only;lia);generalize cutD ns (some 2) none=cn at cl;walk_at"g";refine⟨_,cn,9,rfl,Lst.at0,cl,by decide,by decide,fun sd sl sb=>?_⟩;walk_at"g";have n1:0<=hd%7/\hd%7<7:=by lia
  rw[M4,Eh _ (by lia) (by lia)];have tl:(sd.take (2+hd%7).toNat).length=(2+hd%7).toNat:=by rw[V7];lia
  obtain⟨sc,hsc⟩:∃ sc,sc=sd.take (2+hd%7).toNat:=⟨_,rfl⟩
  rw[<- hsc]at tl ⊢;walk_at"g";refine Xm (fun _=>true) (yC fun k=>p2 (k/5%5,k/40%4)) (by exact Lst.at (k:=2) rfl) (by rw[qa];unfold big;lia) (fun i d ys hd' hw=>?_) ?_
  . obtain⟨z,_,rfl⟩:=Ou hd';walk_at"g";exact Xu hd' hw rfl rfl
  rw[filter_true,Đ];walk_at"g";rw[M4,Eh _ (by lia) (by lia),<- hsc];walk_at"g";refine Ow (xs:=sc.map D.int) (Lst.at (k:=4) rfl) ?_;obtain⟨S5,hS5⟩:∃ S5:Z7,S5=S++[Cell.lst (cn.map D.int),.lst (sd.map D.int),.lst (sc.map D.int),.lst (sc.map fun k=>p2 (k/5%5,k/40%4)),.lst (sc.map D.int)]:=⟨_,rfl⟩
  rw[<- hS5];have k5:Lst S5 (.ref (S.length+4)) (sc.map D.int):=hS5▸Lst.at (k:=4) rfl;have ksd:S5[S.length+1]?=some (.lst (sd.map D.int)):=hS5▸(zQ _ _ 1).trans rfl;have ksp:S5[S.length+3]?=some (.lst (sc.map fun k=>p2 (k/5%5,k/40%4))):=hS5▸(zQ _ _ 3).trans rfl;have eS5:∃ T,S5=S++T:=⟨_,hS5⟩
  clear hS5;refine Mi (fun i ys S'=>∃ (G:Z7) (zs:List Str),S'=S5++G/\ys=zs.map D.str/\zs.length=i/\(∀ z∈zs,W4 z=true)/\∀ (j:Nat) z,zs[j]?=some z->z.cps.toList.head?=some (97+j)) ⟨[],[],by simp,rfl,rfl,by simp,fun j z h=>by simp at h⟩ (by rintro i ys S' ⟨G,zs,e,_⟩;exact e▸k5.old) (by rw[VJ,qa];unfold big;lia) ?_ ?_
  . rintro i d ys S' hd' ⟨G,zs,rfl,rfl,hz,hn,hh⟩;obtain⟨y,hy,rfl⟩:=R6 hd';have hi:=zu hy;rw[qa]at hi;obtain⟨z,_,rfl⟩:=Ou hy;rw[M7];walk_at"g";refine eN (c:=97+i) (by decide +kernel) (zt2 i (by lia)) ?_;have sa:=jk (z/400%4) (by lia) (by lia);walk_at"g";obtain⟨s1,_⟩:=pH (z/400%4);refine zvS (by show 1+_<=big;unfold big;lia) ?_;walk_at"g";refine⟨G++[_],zs++[Oj i (z/400%4)],rfl,by rw[qB];rfl,by simp[hz],fun x hx=>?_,fun j x hx=>?_⟩
    . rcases qE.mp hx with hx|hx
      . exact hn x hx
      . have:x=Oj i (z/400%4):=by simpa using hx
        rw[this];exact jY (by lia)
    . rcases Yv j zs.length with g|g
      . rw[qg g]at hx;exact hh j x hx
      . have lj:=zu hx;rw[qf]at lj;have:j=zs.length:=by simp at lj;lia
        subst this;rw[qe (qh _),Yk]at hx;have:Oj i (z/400%4)=x:=by simpa using hx
        subst this;rw[lV,hz];rfl
  rintro ys S' ⟨G,zs,rfl,rfl,hz,hn,hh⟩;rw[VJ,qa,tl]at hz;obtain⟨S6,hS6⟩:∃ S6:Z7,S6=S5++G:=⟨_,rfl⟩
  rw[<- hS6];have ksd6:S6[S.length+1]?=some (.lst (sd.map D.int)):=hS6▸zy ksd;have ksp6:S6[S.length+3]?=some (.lst (sc.map fun k=>p2 (k/5%5,k/40%4))):=hS6▸zy ksp;have eS6:∃ T,S6=S++T:=Ef eS5 hS6;clear hS6 ksd ksp k5 eS5;walk_at"g"
  have ah:∃ w,0<=w/\w<=10/\Yu [.int 1,.int 2,.int 4,.int 5,.int 8,.int 10] (hd/7%6)=some (.int w):=by
    have:hd/7%6=0\/hd/7%6=1\/hd/7%6=2\/hd/7%6=3\/hd/7%6=4\/hd/7%6=5:=by lia
    rcases this with e|e|e|e|e|e<;>rw[e]
    . exact⟨1,by decide,by decide,rfl⟩
    . exact⟨2,by decide,by decide,rfl⟩
    . exact⟨4,by decide,by decide,rfl⟩
    . exact⟨5,by decide,by decide,rfl⟩
    . exact⟨8,by decide,by decide,rfl⟩
    . exact⟨10,by decide,by decide,rfl⟩
  obtain⟨hw,hw0,hw1,aw⟩:=ah;walk_at"g";rw[M4,Eh _ (by lia) (by lia)];have tl2:(sd.take (hd/378%4).toNat).length<=4:=by rw[V7];lia
  generalize sd.take (hd/378%4).toNat=se at tl2;have f0:-4<=hd/42%9-4/\hd/42%9-4<=4:=by lia
  generalize hd/42%9-4=f at f0;obtain⟨S7,hS7⟩:∃ S7:Z7,S7=S6++[Cell.lst (zs.map D.str),.lst [.int 1,.int 2,.int 4,.int 5,.int 8,.int 10]]:=⟨_,rfl⟩
  have kz:S7[S6.length]?=some (.lst (zs.map D.str)):=hS7▸zM;have ksd7:S7[S.length+1]?=some (.lst (sd.map D.int)):=hS7▸zy ksd6;have ksp7:S7[S.length+3]?=some (.lst (sc.map fun k=>p2 (k/5%5,k/40%4))):=hS7▸zy ksp6;have eS7:∃ T,S7=S++T:=Ef eS6 hS7;rw[show S6++[Cell.lst (zs.map D.str),.lst [.int 1,.int 2,.int 4,.int 5,.int 8,.int 10],.lst [],.lst (se.map D.int)]=S7++[.lst [],.lst (se.map D.int)] by rw[hS7];simp,show S6.length+2=S7.length by rw[hS7];simp,show S6.length+3=S7.length+1 by rw[hS7];simp];generalize S6.length=nz at kz;clear hS7 ksd6 ksp6 eS6;walk_at"h";refine XM (fun i Z S'=>∃ (fs:List Fg) (w9 w10 w11 w12:Option D),S'=S7++[.lst (fs.map Xi),.lst (se.map D.int)]/\Z=[some (.rl (ns.map D.int)),some (.int hd),some (.int (2+hd%7)),some (.ref (S.length+1)),some (.ref (S.length+3)),some (.ref nz),some (.int hw),some (.int f),some (.ref S7.length),w9,w10,w11,w12]/\fs.length=i/\∀ F∈fs,Ks F) ⟨[],_,_,_,_,rfl,rfl,rfl,by simp⟩ (by rintro i Z S' ⟨fs,_,_,_,_,e,_⟩;exact e▸Lst.at (k:=1) rfl) ?_ ?_
  . rintro i d Z S' hd' ⟨fs,w9,w10,w11,w12,rfl,rfl,hi,hf⟩;have li:=zu hd';rw[qa]at li;obtain⟨z,_,rfl⟩:=Ou hd';walk_at"g";refine⟨z,72,rfl,by decide,by decide,fun m m0 m1=>?_⟩;walk_at"g";refine zwb (by show 4+4<=big;decide) ?_;have hlim:(fs.map Xi).length<big:=by rw[qa];unfold big;lia
    walk_at"g";have sm:∀ {n:Nat} {x:Int},200<=n->-100<=x->x<=100->Bd n x:=fun {n x} hn h1 h2=>(show Bd 7 x by show _<2 ^ 7;lia).mono (by lia)
    refine⟨fs++[⟨m/24%5,m/24%5+m/120%2,m/240%4,m/240%4+m/960%2,f+m/4%6,f+m/4%6+m/1920%6,m/11520%3-1,0⟩],_,_,_,_,by rw[qB];rfl,rfl,by simp[hi],fun F hF=>?_⟩;rcases qE.mp hF with hF|hF
    . exact hf F hF
    . have e:=qT.mp hF;subst e;exact⟨⟨by dsimp only;lia,by dsimp only;lia,sm (by decide) (by dsimp only;lia) (by dsimp only;lia),sm (by decide) (by dsimp only;lia) (by dsimp only;lia),sm (by decide) (by dsimp only;lia) (by dsimp only;lia),sm (by decide) (by dsimp only;lia) (by dsimp only;lia),sm (by decide) (by dsimp only;lia) (by dsimp only;lia),sm (by decide) (by dsimp only;lia) (by dsimp only;lia)⟩,by dsimp only;lia,sm (by decide) (by dsimp only;lia) (by dsimp only;lia),sm (by decide) (by dsimp only;lia) (by dsimp only;lia)⟩
  . rintro Z S' ⟨fs,w9,w10,w11,w12,rfl,rfl,hi,hf⟩;rw[qa]at hi;walk_at"g";obtain⟨T7,rfl⟩:=eS7;rw[qk]
    have w:FQ zs (sc.map fun k=>(k/5%5,k/40%4)) fs hw f:=⟨by lia,by lia,hn,zoY hh,by rw[qa];lia,fun p hp=>by obtain⟨k,_,rfl⟩:=qC.mp hp;dsimp only;lia,by lia,hf,hw0,hw1,f0.1,f0.2⟩
    refine fin_same (q _ _ _ _ zs _ fs hw f w ?_ ?_ ?_)
    . rw[<- qk];exact Lst.here (zy kz)
    . rw[<- qk,Yg];exact Lst.here (zy ksp7)
    . rw[<- qk];exact Lst.at0
def Cd:ZX:=fun ds S Q=>∃ (x:D) (cs:List (Int×Int)),ds=[x]/\Lst S x (cs.map p2)/\WW cs/\Q .non S
abbrev tM:DS :=
    (zj (ZD (Vy (dT (Z6 oLt (dB Zg Y5) Ue)) (dT (Z6 XS (dB Zg Y5) (dC (.int 40))))) Yl zK)
 (YJ (Ju (zc ZJ (zc (dB Zg Y5) zm))) Wf (ZD (dT (Z6 oLe (Z6 ZL (Z6 ZL Z4 Z0) ZF) (Z6 ZL (Z6 ZL Z4 (Z6 Zh Z0 ZJ)) ZF))) Yl zK)))
def j4:BodyOk 2 tM Cd:=by
 rintro ds S Q ⟨x,cs,rfl,hx,g,q⟩;unfold tM;have g1:=g.two;have g2:=g.most;walk_at"g";rw[qa];refine Zi (fun z=>absurd z (by lia)) (fun _=>?_);walk_at"g";rw[qa];refine Zi (fun z=>absurd z (by lia)) (fun _=>?_);walk_at"g";rw[qa];refine⟨_,_,rfl,?_⟩;refine XM (fun i Z S'=>S'=S/\∃ w:Option D,Z=[some x,w]) ⟨rfl,none,rfl⟩ (fun _ _ _ _=>True.intro) ?_ ?_
 ·rintro i d Z S' hd ⟨rfl,w,rfl⟩;obtain⟨hi,rfl⟩:=J9 hd;obtain⟨a,ha,aa⟩:=J1 (cs:=cs) (k:=1+(i:Int)) (by lia) (by lia);obtain⟨b,hb,ab⟩:=J1 (cs:=cs) (k:=1+(i:Int)-1) (by lia) (by lia);have hlt:=yN g (show(1+(i:Int)-1).toNat<(1+(i:Int)).toNat by lia) hb ha;walk_at"g";refine Zi (fun z=>absurd z (by lia)) (fun _=>?_);walk_at"g";exact⟨rfl,_,rfl⟩
 ·rintro Z S' ⟨rfl,w,rfl⟩;exact fin_same q
def Gz:ZX:=fun ds S Q=>∃ (S0:Z7) (x:D) (cs:List (Int×Int)),ds=[.ref S0.length,x]/\S=S0++[.ins "Ground" []]/\Lst S0 x (cs.map p2)/\WW cs/\Q .non (S0++[.ins "Ground" [("corners",.ref (S0.length+1))],.lst (cs.map p2)])
abbrev lN:DS :=
    (zj (Za (dCall Cd Yy))
 (VL "Ground" "corners" Z4 (dB U0 Yy)))
def zhp:BodyOk 2 lN Gz:=by rintro ds S Q ⟨S0,x,cs,rfl,rfl,hx,g,q⟩;unfold lN;have hx':Lst (S0++[.ins "Ground" []]) x (cs.map p2):=hx.old;walk_at"g";refine⟨x,cs,rfl,hx',g,?_⟩;walk_at"g";refine⟨S0.length,[],rfl,zM,by decide,?_⟩;rw[SQ];exact fin_same q
def uF:ZX:=RZ "Ground" Gz
def Cw:ZX:=fun ds S Q=>∃ (x y:D) (xs ys:List D),ds=[x,y]/\Lst S x xs/\Lst S y ys/\1<=xs.length/\xs.length<=12/\ys.length<=12/\Q .non S
abbrev uP:DS :=
    (zj (ZD (Vy (dT (Z6 oLt (dB Zg Y5) ZJ)) (dT (Z6 XS (dB Zg Y5) (dC (.int 12))))) Yl zK)
 (ZD (dT (Z6 XS (dB Zg Yy) (dC (.int 12)))) Yl zK))
def zd4:BodyOk 2 uP Cw:=by rintro ds S Q ⟨x,y,xs,ys,rfl,hx,hy,h1,h2,h3,q⟩;unfold uP;walk_at"g";rw[decide_eq_false (show ¬ ((xs.length:Int)<1) by lia)];walk_at"g";rw[decide_eq_false (show ¬ ((12:Int)<xs.length) by lia)];walk_at"g";rw[decide_eq_false (show ¬ ((12:Int)<ys.length) by lia)];walk_at"g";exact fin_same q
def FP:ZX:=fun ds S Q=>∃ z:Str,ds=[.str z]/\z.length<=1000/\Q (.bl (W4 z)) S
abbrev pL:DS :=
    (zj (ZD (Vy (dT (Z6 oLt (dB Zg Y5) ZJ)) (dT (Z6 XS (dB Zg Y5) JH))) (zE (dC (.bl false))) zK)
 (zE (dB U5 (zc (Zf 1 [] (Zn Z4) YT XH (Z6 J6 Z4 (dC (.str "abcdefghijklmnopqrstuvwxyz")))) zm))))
def zll:BodyOk 1 pL FP:=by
 rintro ds S Q ⟨z,rfl,hz,q⟩;unfold pL;have hb:z.length<=big:=by unfold big;lia
 walk_at"g";refine vN hb ?_;walk_at"g";unfold W4 at q;refine Zi (fun h=>?_) (fun h=>?_)
 ·walk_at"g";rw[decide_eq_false (show ¬ 1<=z.length by lia)]at q;exact fin_same q
 rw[decide_eq_true (show 1<=z.length by lia)]at q;walk_at"g";refine vN hb ?_;walk_at"g";refine Zi (fun h=>?_) (fun h=>?_)
 ·walk_at"g";rw[decide_eq_false (show ¬ z.length<=8 by lia)]at q;exact fin_same q
 rw[decide_eq_true (show z.length<=8 by lia)]at q;walk_at"g";refine Xm (fun _=>true) (lK fun c=>decide (c∈abc)) True.intro (by rw[aU];exact hb) (fun i d ys hd hw=>?_) ?_
 ·obtain⟨c,_,rfl⟩:=Ϡ hd;walk_at"g";rw[ztZ];exact Xu hd hw rfl rfl
 rw[filter_true,zmN];walk_at"g";refine Mh Lst.at0 rfl ?_;refine Td rfl ?_;rw[Ld];exact q
def Hi:ZX:=fun ds S Q=>∃ (x:D) (zs:List Str),ds=[x]/\Lst S x (zs.map D.str)/\zs.length<=100/\(∀ z∈zs,W4 z=true)/\zs.Nodup/\Q .non S
abbrev yX:DS :=
    (zj (ZD (VP (dT (dB U5 (zc (Zf 1 [] (Zn Z4) YT XH (dCall FP Y5)) zm)))) Yl zK)
 (ZD (dT (Z6 oLt (dB J4 Y5) (dB Zg Y5))) Yl zK))
def Ϝ:BodyOk 1 yX Hi:=by
 rintro ds S Q ⟨x,zs,rfl,hx,hl,hn,nd,q⟩;unfold yX;walk_at"g";refine Xm (fun _=>true) (Ke fun z=>.bl (W4 z)) hx (by rw[qa];unfold big;lia) (fun i d ys hd hw=>?_) ?_
 ·obtain⟨z,hz,rfl⟩:=Xg hd;walk_at"g";refine⟨z,rfl,by have:=(GJ.mp (hn z (qd hz))).2.1;lia,?_⟩;exact Xu hd hw rfl rfl
 rw[filter_true,Å,show zs.map (fun z=>D.bl (W4 z))=(zs.map W4).map D.bl by rw[Yg];rfl];walk_at"g";refine Mh (b:=true) Lst.at0 (by rw[Ld,Vm];exact hn) ?_;walk_at"g";refine ă (zs:=zs) hx.old (by lia) ?_;rw[zkX nd];have hx1:Lst (S++[Cell.lst ((zs.map W4).map D.bl)]) x (zs.map D.str):=hx.old;walk_at"g";rw[qa,decide_eq_false (show ¬ ((zs.length:Int)<zs.length) by lia)];walk_at"g";exact Td rfl q
def NZ:ZX:=fun ds S Q=>∃ (a b:Int×Int),ds=[p2 a,p2 b]/\YQ a.1 b.2/\YQ b.1 a.2/\Q (.bl (flt a b)) S
abbrev sS:DS :=(zE (Z6 oLt (Z6 YZ Xf TQ) (Z6 YZ Wh Wx)))
def d8:BodyOk 2 sS NZ:=by rintro ds S Q ⟨a,b,rfl,c1,c2,q⟩;unfold sS;walk_at"g";exact fin_same q
def Jj:ZX:=fun ds S Q=>∃ (g:D) (cs:List (Int×Int)) (p:Int×Int),ds=[g,p2 p]/\W3 S g cs/\WW cs/\Bd 1000 p.1/\Bd 1000 p.2/\Q (.bl (decide (Pg cs*p.2<=p.1)&&decide (p.1<=Qq cs*p.2))) S
abbrev wJ:DS :=
    (zj (zq (dTup (zc (Z6 ZL (Z6 ZL (Yi "corners" Z4) ZF) ZF) (zc ZJ zm))) Ys)
 (zj (zq (dTup (zc (Z6 ZL (Z6 ZL (Yi "corners" Z4) (Vc Vd ZJ)) ZF) (zc ZJ zm))) YD)
 (zE (Qy (QK (dCall NZ (zc Z0 Yn))) (QK (dCall NZ (zc ZS Yy)))))))
def zoF:BodyOk 4 wJ Jj:=by
 rintro ds S Q ⟨g,cs,p,rfl,⟨n,l,rfl,hn,hl⟩,gr,b1,b2,q⟩;unfold wJ;have g1:=gr.two;obtain⟨a,ha,ea⟩:=Ñ gr;obtain⟨z,hz,ez⟩:=zoc gr;have aa:Yu (cs.map p2) 0=some (p2 a):=Lq (i:=0) (by rw[qi,ha];rfl)
 have az:Yu (cs.map p2) (-1)=some (p2 z):=by
  have hne:cs≠[]:=fun e=>by rw[e]at g1;simp at g1
  have en:cs=cs.dropLast++[z]:=by
   have h2:=List.dropLast_concat_getLast hne
   have h3:cs.getLast hne=z:=by rw[List.getLast_eq_getElem];have hl':=zu hz;rw[qb hl']at hz;cases hz;rfl
   rw[h3]at h2;exact h2.symm
  rw[en,qB];exact Ν
 obtain⟨ba,_⟩:=gr.bd a (qd ha);obtain⟨bz,_⟩:=gr.bd z (qd hz);rw[ea,ez]at q;have e1:flt p (a.1,1)=decide (p.1<a.1*p.2):=by unfold flt;dsimp only;rw[T8]
 have e2:flt (z.1,1) p=decide (z.1*p.2<p.1):=by unfold flt;dsimp only;rw[T8]
 have c1:YQ a.1 p.2:=.inl ⟨ba.mono (by decide),b2.mono (by decide)⟩;have c2:YQ z.1 p.2:=.inl ⟨bz.mono (by decide),b2.mono (by decide)⟩;have c3:∀ u:Int,YQ u 1:=fun u=>.inr (.inr (by decide))
 walk_at"g";refine⟨p,(a.1,1),rfl,c3 _,c1,?_⟩;rw[e1];walk_at"g";refine Xa (fun g=>?_) (fun g=>?_)
 ·walk_at"g";refine⟨(z.1,1),p,rfl,c2,c3 _,?_⟩;rw[e2];walk_at"g";rw[decide_eq_true (show a.1*p.2<=p.1 by lia),Bool.true_and]at q;rw[show(!decide (z.1*p.2<p.1))=decide (p.1<=z.1*p.2) by rw[<- decide_not];exact decide_eq_decide.mpr (by lia)];exact fin_same q
 ·rw[decide_eq_false (show ¬ a.1*p.2<=p.1 by lia),Wu]at q;exact fin_same q
def Gf:ZX:=fun ds S Q=>∃ (t b:Int),ds=[.int t,.int b]/\Q (.int ((Int.gcd t b:Nat):Int)) S
abbrev xK:DS :=
    (zj (Vo (dT (Z6 Yh Z0 ZF)) (zj (zq (Z6 oMod Z4 Z0) Ys)
 (zj (zq Z0 YT)
 (zq ZV Wf))))
 (zE (dB Ie Y5)))
def iw:BodyOk 3 xK Gf:=by
 rintro ds S Q ⟨t,b,rfl,q⟩;unfold xK;refine Dp.Cy ?_;refine Rn (fun m Z S'=>S'=S/\∃ (x y:Int) (w:Option D),Z=[some (.int x),some (.int y),w]/\m=y.natAbs/\Int.gcd x y=Int.gcd t b) b.natAbs ⟨rfl,_,_,none,rfl,rfl,rfl⟩ ?_;rintro m Z S' ⟨rfl,x,y,w,rfl,rfl,e⟩;walk_at"g";refine Xa (fun h0=>?_) (fun h0=>?_)
 ·refine uT ?_;refine Dp.Cy ?_;refine Dp.um ?_;refine Dp.Io ?_;refine Dp.RG rfl ?_;refine Dp.RG rfl ?_;refine iZ h0 ?_;walk_at"g";exact⟨_,ň h0,rfl,_,_,_,rfl,rfl,(zoU x y).trans e⟩
 ·subst h0;rw[Int.gcd_zero]at e;walk_at"g";rw[<- e]at q;exact fin_same q
def Ad:ZX:=fun ds S Q=>∃ (t b:Int),ds=[.int t,.int b]/\b≠0/\Bd 8000 b/\Q (p2 (Vj t b,frB t b)) S
abbrev m9:DS :=
    (zj (zq (dCall Gf (zc Z4 Yy)) Ys)
 (zj (sJ (ZD (dT (Z6 oLt Z0 ZF)) (zq (Vc Vd ZV) Ys) zK))
 (zE (dTup (zc (Z6 oDiv Z4 ZV) (zc (Z6 oDiv Z0 ZV) zm))))))
def zj6:BodyOk 3 m9 Ad:=by
 rintro ds S Q ⟨t,b,rfl,hb,bb,q⟩;unfold m9;have hgn:=yg (t:=t) (b:=b) hb;have hgb:=kj (t:=t) (b:=b) hb bb;walk_at"g";refine⟨t,b,rfl,?_⟩;walk_at"g";refine yV (fun Z S'=>S'=S/\Z=[some (.int t),some (.int b),some (.int (gd t b))]) ?_ ?_
 ·walk_at"g";refine Zi (fun g=>?_) (fun g=>?_)
  ·have hg:gd t b=-((Int.gcd t b:Nat):Int):=if_pos g;walk_at"g";exact⟨rfl,by rw[hg];rfl⟩
  ·have hg:gd t b=((Int.gcd t b:Nat):Int):=if_neg g;walk_at"g";exact⟨rfl,by rw[hg];rfl⟩
 rintro Z S' ⟨rfl,rfl⟩;refine Dp.tW ?_;refine Dp.Ab ?_;refine Dp.Aw ?_;refine Dp.Io ?_;refine Dp.RG rfl ?_;refine Dp.RG rfl ?_;refine vA ⟨hgn,hgb⟩ ?_;refine Dp.Aw ?_;refine Dp.Io ?_;refine Dp.RG rfl ?_;refine Dp.RG rfl ?_;refine vA ⟨hgn,hgb⟩ ?_;walk_at"g";exact fin_same q
def CG:ZX:=fun ds S Q=>∃ (a b p:Int×Int),ds=[p2 a,p2 b,p2 p]/\b.1≠a.1/\0<p.2/\Bd 180 a.1/\Bd 200 a.2/\Bd 180 b.1/\Bd 200 b.2/\Bd 1000 p.1/\Bd 1000 p.2/\∀ c:Int×Int,Sv c (Oa a b p) (Tq a b p)->Int.gcd c.1 c.2=1->Bd 1400 c.1->Bd 1400 c.2->Q (p2 c) S
def Ğ {t b:Int}(hb:b≠0):Sv (Vj t b,frB t b) (if 0<b then t else -t) (if 0<b then b else -b):=by
 have h1:=í t b;have h2:=õ (t:=t) hb;refine⟨by show 0<frB t b;lia,?_⟩;show Vj t b*_=_*frB t b;split
 ·rw[h1,Wo]
 ·rw[Int.mul_neg,h1,Int.neg_mul,Wo]
abbrev u9:DS :=
    (zj (zq (Z6 Zh Wh Xf) YD)
 (zj (zq (Z6 Zh TQ Wx) YH)
 (zj (zq (Z6 Zo (Z6 YZ (Z6 YZ Wx ZS) RQ) (Z6 YZ Zy (Z6 Zh QX (Z6 YZ Xf RQ)))) Yt)
 (zE (dCall Ad (zc Y6 (zc (Z6 YZ ZS RQ) zm)))))))
def aM:BodyOk 6 u9 CG:=by
 rintro ds S Q ⟨a,b,p,rfl,hne,hp,b1,b2,b3,b4,b5,b6,q⟩;unfold u9;have r1:Bd 181 (b.1-a.1):=Bd.sub b3 b1;have r2:Bd 201 (b.2-a.2):=Bd.sub b4 b2;have m1:Bd 381 (a.2*(b.1-a.1)):=Bd.mul b2 r1;have m2:Bd 1381 (a.2*(b.1-a.1)*p.2):=Bd.mul m1 b6;have m3:Bd 1180 (a.1*p.2):=Bd.mul b1 b6;have m4:Bd 1181 (p.1-a.1*p.2):=Bd.sub (b5.mono (by decide)) m3;have m5:Bd 1382 ((b.2-a.2)*(p.1-a.1*p.2)):=Bd.mul r2 m4;have m6:Bd 1181 ((b.1-a.1)*p.2):=Bd.mul r1 b6;have bT:Bd 1400 (a.2*(b.1-a.1)*p.2+(b.2-a.2)*(p.1-a.1*p.2)):=(Bd.add (n:=1382) (m2.mono (by decide)) m5).mono (by decide);have c1:YQ a.2 (b.1-a.1):=.inl ⟨b2.mono (by decide),r1.mono (by decide)⟩;have c2:YQ (a.2*(b.1-a.1)) p.2:=.inl ⟨m1.mono (by decide),b6.mono (by decide)⟩;have c3:YQ a.1 p.2:=.inl ⟨b1.mono (by decide),b6.mono (by decide)⟩;have c4:YQ (b.2-a.2) (p.1-a.1*p.2):=.inl ⟨r2.mono (by decide),m4.mono (by decide)⟩;have c5:YQ (b.1-a.1) p.2:=.inl ⟨r1.mono (by decide),b6.mono (by decide)⟩;walk_at"g";have hr:(b.1-a.1)*p.2≠0:=Int.mul_ne_zero (by lia) (by lia);refine⟨_,_,rfl,hr,m6.mono (by decide),?_⟩;refine fin_same (q _ ?_ (ztv hr) (zup bT) ((gR m6).mono (by decide)));have hs:=Ğ (t:=a.2*(b.1-a.1)*p.2+(b.2-a.2)*(p.1-a.1*p.2)) hr;unfold Oa Tq;by_cases g:0<b.1-a.1
 ·have:0<(b.1-a.1)*p.2:=Ol g hp;rw[if_pos this,if_pos this]at hs;rw[if_pos g,if_pos g];exact hs
 ·have:¬ 0<(b.1-a.1)*p.2:=fun z=>by
   have:=Ol (show 0 < -(b.1-a.1) by lia) hp;rw[Int.neg_mul]at this;lia
  rw[if_neg this,if_neg this]at hs;rw[if_neg g,if_neg g];exact hs
def Fz:Yq:=fun ds S Q ex=>∃ (g:D) (cs:List (Int×Int)) (p:Int×Int),ds=[g,p2 p]/\W3 S g cs/\WW cs/\0<p.2/\Bd 1000 p.1/\Bd 1000 p.2/\(¬ P0 cs p->ex "OffGround" S)/\(P0 cs p->∀ a b c:Int×Int,Tp cs p=some (a,b)->Sv c (Oa a b p) (Tq a b p)->0<Tq a b p->Int.gcd c.1 c.2=1->Bd 1400 c.1->Bd 1400 c.2->Q (p2 c) S)
abbrev n8 (ex : XR) : DS :=
    (zj (ZD (VP (dT (dCall Jj (zc Z4 Yy)))) (SN ex "OffGround") zK)
 (zj (zq (Yi "corners" Z4) Ys)
 (zj (zq ZJ YD)
 (zj (Vo (dT (dCall NZ (zc (dTup (zc (Z6 ZL (Z6 ZL ZV ZS) ZF) (zc ZJ zm))) Yy))) (Hw 3 ZJ))
 (zE (dCall CG (zc (Z6 ZL ZV (Z6 Zh ZS ZJ)) (zc (Z6 ZL ZV ZS) Yy))))))))
def cj:Vp 4 n8 Fz:=by
 rintro ds S Q ex ⟨g,cs,p,rfl,hg,gr,hp,b1,b2,hx,q⟩;unfold n8;obtain⟨n,l,rfl,hn,hl⟩:=id hg;walk_at"g";refine⟨_,cs,p,rfl,hg,gr,b1,b2,?_⟩;by_cases on:P0 cs p
 case neg =>
  have e:(decide (Pg cs*p.2<=p.1)&&decide (p.1<=Qq cs*p.2))=false:=Bool.eq_false_iff.mpr fun z=>on (by rw[qq,decide_eq_true_eq,decide_eq_true_eq]at z;exact z)
  rw[e];walk_at"g";exact hx on
 have q:=q on;obtain⟨kk,a,b,ha,hb,hle,hlt⟩:=tV gr.two on.2;have seg:=seg_at ha hb hle hlt;have hk:=zu hb;rw[decide_eq_true on.1,decide_eq_true on.2,show(true&&true)=true from rfl];walk_at"g";refine Rn (fun m Z S'=>S'=S/\∃ j:Nat,Z=[some (.ref n),some (p2 p),some (.ref l),some (.int ((j:Int)+1))]/\m=kk-j/\j<=kk) kk ⟨rfl,0,rfl,rfl,by lia⟩ ?_;rintro m Z S' ⟨rfl,j,rfl,rfl,hj⟩;obtain⟨c,hc,ac⟩:=J1 (cs:=cs) (k:=(j:Int)+1) (by lia) (by lia);have hc':cs[j+1]?=some c:=by rwa[show((j:Int)+1).toNat=j+1 by lia]at hc
 obtain⟨bc,bc2⟩:=gr.bd c (qd hc);have e1:flt (c.1,1) p=decide (c.1*p.2<p.1):=by unfold flt;dsimp only;rw[T8]
 walk_at"g";refine⟨(c.1,1),p,rfl,.inl ⟨bc.mono (by decide),b2.mono (by decide)⟩,.inr (.inr (show(1:Int).natAbs<2 ^ 64 by decide)),?_⟩;rw[e1];walk_at"g";refine Zi (fun h=>?_) (fun h=>?_)
 ·walk_at"g"
  have hjk:j<kk:=by
   rcases Yv j kk with z|z
   ·exact z
   ·have:j=kk:=by lia
    subst this;rw[hb]at hc';cases hc';lia
  exact⟨kk-(j+1),by lia,rfl,j+1,by simp,rfl,by lia⟩
 ·have hjk:j=kk:=by
   rcases Yv j kk with z|z
   ·have:=hlt (j+1) c (by lia) (by lia) hc';lia
   ·lia
  subst hjk;rw[hb]at hc';cases hc'
  have aa:Yu (cs.map p2) ((j:Int)+1-1)=some (p2 a):=by rw[show(j:Int)+1-1=(j:Int) by lia];exact Lq (by rw[qi,ha];rfl)
  obtain⟨ba1,ba2⟩:=gr.bd a (qd ha);have hab:=yN gr (show j<j+1 by lia) ha hb;walk_at"g";refine⟨a,b,p,rfl,by lia,hp,ba1.mono (by decide),ba2.mono (by decide),bc.mono (by decide),bc2.mono (by decide),b1,b2,fun c hs hg d1 d2=>?_⟩;exact fin_same (q a b c seg hs (zsg (by lia) hp) hg d1 d2)
def Kl:ZX:=fun ds S Q=>∃ (g:D) (cs:List (Int×Int)) (s:Int×Int),ds=[g,p2 s]/\W3 S g cs/\WW cs/\Bd 180 s.1/\Bd 200 s.2/\∀ b:Bool,(b=true↔WK cs s)->Q (.bl b) S
abbrev mW:DS :=
    (zj (zq (dTup (zc Wh (zc ZJ zm))) Ys)
 (zj (ZD (VP (dT (dCall Jj (zc Z4 Yn)))) (zE (dC (.bl false))) zK)
 (zE (QK (dCall NZ (zc (dTup (zc TQ (zc ZJ zm))) (zc (X8 Fz xF (zc Z4 Yn)) zm)))))))
def cP:BodyOk 3 mW Kl:=by
 rintro ds S Q ⟨g,cs,s,rfl,hg,gr,b1,b2,q⟩;unfold mW;have bo:Bd 1000 (1:Int):=Bd.lit (by decide) (by decide);walk_at"g";refine⟨g,cs,(s.1,1),rfl,hg,gr,b1.mono (by decide),bo,?_⟩;by_cases on:P0 cs (s.1,1)
 case neg =>
  have e:(decide (Pg cs*(s.1,(1:Int)).2<=(s.1,(1:Int)).1)&&decide ((s.1,(1:Int)).1<=Qq cs*(s.1,(1:Int)).2))=false:=Bool.eq_false_iff.mpr fun z=>on (by rw[qq,decide_eq_true_eq,decide_eq_true_eq]at z;exact z)
  rw[e];walk_at"g";exact fin_same (q false ⟨fun z=>(by cases z),fun z=>absurd z.1 on⟩)
 rw[decide_eq_true on.1,decide_eq_true on.2,show(true&&true)=true from rfl];walk_at"g";refine⟨g,cs,(s.1,1),rfl,hg,gr,(show(0:Int)<1 by decide),b1.mono (by decide),bo,fun off=>absurd on off,fun _ a b c seg sv hb hgcd d1 d2=>?_⟩;walk_at"g";refine⟨(s.2,1),c,rfl,.inl ⟨b2.mono (by decide),d2.mono (by decide)⟩,.inr (.inr (show(1:Int).natAbs<2 ^ 64 by decide)),?_⟩;rw[ztu (t:=s.2) (b:=1) (by decide) hb ⟨(show(0:Int)<1 by decide),rfl⟩ sv];walk_at"g";refine fin_same (q _ ?_);rw[Bool.not_eq_true',decide_eq_false_iff_not];constructor
 ·intro h;refine⟨on,fun a' b' seg'=>?_⟩;rw[seg]at seg';cases seg';lia
 ·intro h;have:=h.2 a b seg;lia
def Gh:ZX:=fun ds S Q=>∃ (g y:D) (cs:List (Int×Int)) (bs:List (Str×(Int×Int))),ds=[g,y]/\W3 S g cs/\WW cs/\Lst S y (bs.map XF)/\bs.length<=100/\(∀ b∈bs,WK cs b.2/\Bd 180 b.2.1/\Bd 200 b.2.2)/\Q .non S
abbrev yJ:DS :=(ZD (VP (dT (dB U5 (zc (Zf 3 [0] (Zn Z0) (YL 3 (zJ YT (zJ Wf (zJ Ys YW)))) XH (dCall Kl (zc ZS (zc (dTup (zc Z0 Yn)) zm)))) zm)))) Yl zK)
def È:BodyOk 2 yJ Gh:=by
 rintro ds S Q ⟨g,y,cs,bs,rfl,hg,gr,hy,hl,hb,q⟩;unfold yJ;walk_at"g";refine Xm (fun _=>true) (Hr fun _=>.bl true) hy (by rw[qa];unfold big;lia) (fun i d ys hd hw=>?_) ?_
 ·obtain⟨b,hbi,rfl⟩:=JX hd;obtain⟨s1,s2,s3⟩:=hb b (qd hbi);walk_at"g";refine⟨g,cs,b.2,rfl,hg,gr,s2,s3,fun r hr=>?_⟩;rw[hr.mpr s1];exact Xu hd hw rfl rfl
 rw[filter_true,Af,show bs.map (fun _=>D.bl true)=(bs.map fun _=>true).map D.bl by rw[Yg];rfl];walk_at"g";refine Mh (b:=true) Lst.at0 (by rw[Ld,Vm];intro _ _;rfl) ?_;walk_at"g";exact Td rfl q
def BL:ZX:=fun ds S Q=>∃ i:Int,ds=[.int i]/\Q (.bl true) S
abbrev oH:DS :=(zE (Qy (dB Sy (zc Z4 (zc (dC (.ty "int")) zm))) (QK (dB Sy (zc Z4 (zc (dC (.ty "bool")) zm))))))
def fQ:BodyOk 1 oH BL:=by rintro ds S Q ⟨i,rfl,q⟩;unfold oH;walk_at"g";exact fin_same q
def Ae:ZX:=fun ds S Q=>∃ F:Fg,ds=[Xi F]/\F.x0<=F.x1/\F.z0<=F.z1/\F.f<=F.l/\Q (.bl true) S
abbrev tK:DS :=
    (zj (ZD (Vy (VP (dT (dB Sy (zc Z4 (zc (dC (.ty "tuple")) zm))))) (dT (Z6 Yh (dB Zg Y5) JH))) (zE (dC (.bl false))) zK)
 (zj (ZD (VP (dT (dB U5 (zc (Zf 1 [] (Zn Z4) YT XH (dCall BL Y5)) zm)))) (zE (dC (.bl false))) zK)
 (zE (Qy (Z6 oLe Xf Wx) (Qy (Z6 oLe LK Mq) (Z6 oLe DP xR))))))
def bD:BodyOk 1 tK Ae:=by
 rintro ds S Q ⟨F,rfl,h1,h2,h3,q⟩;unfold tK;walk_at"g";rw[show(!decide ((([D.int F.x0,D.int F.x1,D.int F.z0,D.int F.z1,D.int F.f,D.int F.l,D.int F.g,D.int F.s]:List D).length:Int)=8))=false by rfl];walk_at"g";refine Xm (fun _=>true) (fun _=>.bl true) True.intro (by show 8<=big;unfold big;decide) (fun i d ys hd hw=>?_) ?_
 ·obtain⟨z,_,rfl⟩:=Ou (zs:=[F.x0,F.x1,F.z0,F.z1,F.f,F.l,F.g,F.s]) hd;walk_at"g";refine⟨z,rfl,?_⟩;exact Xu hd hw rfl rfl
 walk_at"g";refine Mh (bs:=List.replicate 8 true) (b:=true) Lst.at0 rfl ?_;walk_at"g";rw[decide_eq_true h1];walk_at"g";rw[decide_eq_true h2];walk_at"g";rw[decide_eq_true h3];exact Td rfl q
def ġ (xs:List α)(f:α->D):(xs.map f).map (fun _=>D.bl true)=(xs.map fun _=>true).map D.bl:=by rw[Yg,Yg];rfl
def CJ:ZX:=fun ds S Q=>∃ (z:D) (fs:List Fg),ds=[z]/\Lst S z (fs.map Xi)/\fs.length<=100/\(∀ F∈fs,Ks F)/\Q .non S
abbrev mC:DS :=(ZD (VP (dT (dB U5 (zc (Zf 1 [] (Zn Z4) YT XH (dCall Ae Y5)) zm)))) Yl zK)
def đ:BodyOk 1 mC CJ:=by
 rintro ds S Q ⟨z,fs,rfl,hz,hl,hf,q⟩;unfold mC;walk_at"g";refine Xm (fun _=>true) (fun _=>.bl true) hz (by rw[qa];unfold big;lia) (fun i d ys hd hw=>?_) ?_
 ·obtain⟨F,hF,rfl⟩:=uI hd;have k:=hf F (qd hF);walk_at"g";refine⟨F,rfl,k.b.x,k.b.z,k.o,?_⟩;exact Xu hd hw rfl rfl
 rw[filter_true,ġ];walk_at"g";refine Mh (b:=true) Lst.at0 (by rw[Ld,Vm];intro _ _;rfl) ?_;walk_at"g";exact Td rfl q
def Fb:ZX:=fun ds S Q=>∃ (hz:Option Int) (a b d:Int),ds=[Vw hz,.int a,.int b,.int d]/\a<=b/\0<=d/\(∀ z,hz=some z->0<=z)/\Q .non S
abbrev yw:DS :=
    (zj (ZD (dT (Z6 XS Z0 ZV)) Yl zK)
 (zj (ZD (dT (Z6 oLt ZS ZF)) Yl zK)
 (ZD (Xw (dT (Z6 Wi Z4 (dC .non))) (dT (Z6 oLt Z4 ZF))) Yl zK)))
def ze3:BodyOk 4 yw Fb:=by
 rintro ds S Q ⟨hz,a,b,d,rfl,hab,hd,hh,q⟩;unfold yw;walk_at"g";rw[decide_eq_false (show ¬ b<a by lia)];walk_at"g";rw[decide_eq_false (show ¬ d<0 by lia)];cases hz with
 |none =>walk_at"g";exact fin_same q
 |some z =>have:=hh z rfl;unfold Vw;walk_at"g";rw[decide_eq_false (show ¬ z<0 by lia)];walk_at"g";exact fin_same q
def Fo:ZX:=fun ds S Q=>∃ (S0:Z7) (g y z:D) (V:Vl),ds=[.ref S0.length,g,y,z,Vw V.hz,.int V.h0,.int V.h1,.int V.dl]/\S=S0++[.ins "Valley" []]/\W3 S0 g V.cs/\Lst S0 y (V.bs.map XF)/\Lst S0 z (V.fs.map Xi)/\YX V/\∀ T,Ze (S0++T) (.ref S0.length) V->Q .non (S0++T)
abbrev mX:DS :=
    (zj (Za (dCall Cw (zc ZV X4)))
 (zj (Za (dCall Hi (zc (Zf 1 [] (Zn ZV) YT XH Xf) zm)))
 (zj (Za (dCall Gh (zc Z0 Yn)))
 (zj (Za (dCall CJ X4))
 (zj (Za (dCall Fb (zc Zy (zc Y6 (zc W7 Ug)))))
 (zj (VL "Valley" "ground" Z4 (dCall uF (zc (Yi "corners" Z0) zm)))
 (zj (VL "Valley" "beacons" Z4 (dB U0 Yn))
 (zj (VL "Valley" "fogs" Z4 (dB U0 X4))
 (zj (VL "Valley" "haze" Z4 Zy)
 (zj (VL "Valley" "first" Z4 Y6)
 (zj (VL "Valley" "last" Z4 W7)
 (VL "Valley" "delay" Z4 Vs))))))))))))
def zhi:BodyOk 8 mX Fo:=by
 rintro ds S Q ⟨S0,g,y,z,V,rfl,rfl,hg,hy,hz,ok,q⟩;unfold mX;obtain⟨Sa,hSa⟩:∃ Sa:Z7,Sa=S0++[.ins "Valley" []]:=⟨_,rfl⟩
 have hya:Lst Sa y (V.bs.map XF):=hSa▸hy.old;have hza:Lst Sa z (V.fs.map Xi):=hSa▸hz.old;rw[<- hSa];walk_at"g";refine⟨y,z,_,_,rfl,hya,hza,by rw[qa];exact ok.b1,by rw[qa];exact ok.b12,by rw[qa];exact ok.f12,?_⟩;walk_at"g";have b12:=ok.b12;have f12:=ok.f12;refine Xm (fun _=>true) (Hr fun b=>.str b.1) hya (by rw[qa];unfold big;lia) (fun i d ys hd hw=>?_) ?_
 ·obtain⟨b,_,rfl⟩:=JX hd;walk_at"g";exact Xu hd hw rfl rfl
 rw[filter_true,Af,show V.bs.map (fun b=>D.str b.1)=(V.bs.map (·.1)).map D.str by rw[Yg];rfl,hSa];walk_at"g";refine⟨_,V.bs.map (·.1),rfl,Lst.at rfl,by rw[qa];lia,fun n hn=>?_,ok.nd,?_⟩
 ·obtain⟨b,hb,rfl⟩:=qC.mp hn;exact ok.nm b hb
 walk_at"g";generalize (V.bs.map (·.1)).map D.str=nms;refine⟨g,y,V.cs,V.bs,rfl,hg.old,ok.gr,hy.old,by lia,fun b hb=>⟨ok.st b hb,ok.bd b hb⟩,?_⟩;walk_at"g";refine⟨z,V.fs,rfl,hz.old,by lia,ok.fg,?_⟩;walk_at"g";refine⟨V.hz,_,_,_,rfl,ok.hh,ok.dl,ok.hz,?_⟩;obtain⟨gn,gl,rfl,hgn,hgl⟩:=hg;have hgn1:(S0++[.ins "Valley" [],.lst nms])[gn]?=some (.ins "Ground" [("corners",.ref gl)]):=zy hgn;walk_at"g";refine⟨_,_,V.cs,rfl,rfl,.inr ⟨gl,rfl,zy hgl⟩,ok.gr,⟨rfl,?_⟩⟩;rw[qk,show(S0++[Cell.ins "Valley" [],.lst nms]).length=S0.length+2 by simp,show([Cell.ins "Valley" [],.lst nms]:Z7)++[.ins "Ground" [("corners",.ref (S0.length+2+1))],.lst (V.cs.map p2)]=[.ins "Valley" [],.lst nms,.ins "Ground" [("corners",.ref (S0.length+3))],.lst (V.cs.map p2)]from rfl];walk_at"g";refine⟨S0.length,[],rfl,zM,by decide,?_⟩;rw[SQ,jT];have hy2:∀ T,Lst (S0++T) y (V.bs.map XF):=fun T=>hy.old
 have hz2:∀ T,Lst (S0++T) z (V.fs.map Xi):=fun T=>hz.old
 walk_at"g";refine⟨S0.length,_,rfl,zM,by simp,?_⟩;rw[SQ,iQ];walk_at"g";refine⟨S0.length,_,rfl,zM,by simp,?_⟩;rw[SQ,vp3];walk_at"g";refine⟨S0.length,_,rfl,zM,by simp,?_⟩;rw[SQ,Ņ];walk_at"g";refine⟨S0.length,_,rfl,zM,by simp,?_⟩;rw[SQ,η];walk_at"g";refine⟨S0.length,_,rfl,zM,by simp,?_⟩;rw[SQ,eF];walk_at"g";refine⟨S0.length,_,rfl,zM,by simp,?_⟩;rw[SQ,ϋ];refine fin_same (q _ ⟨S0.length,_,_,_,rfl,zM,⟨_,_,rfl,(zQ _ _ 2).trans rfl,(zQ _ _ 3).trans rfl⟩,(zQ _ _ 4).trans rfl,(zQ _ _ 5).trans rfl⟩)
def Κ:ZX:=RZ "Valley" Fo
def Xo:List (Int×Int):=[(-3,-1),(8,0)]
def oA:WW Xo where
  two:=by decide
  most:=by decide
  asc:=by unfold Xo;simp
  bd:=fun c hc=>by
    have:c=(-3,-1)\/c=(8,0):=by simpa [Xo]using hc
    rcases this with rfl|rfl<;>exact⟨(by show _<2 ^ 170;decide),(by show _<2 ^ 190;decide)⟩
def stN {s:Int×Int}(h0:0<=s.1)(h1:s.1<=4)(h2:0<=s.2):WK Xo s:=by
 refine⟨⟨?_,?_⟩,fun a b h=>?_⟩
 ·show(-3:Int)*1<=s.1;lia
 ·show s.1<=(8:Int)*1;lia
 ·have e:Tp Xo (s.1,1)=some ((-3,-1),(8,0)):=by
   show(if s.1<=(8:Int)*1 then _ else _)=_;rw[if_pos (by lia)]
  rw[e]at h;cases h;unfold Oa Tq;simp;lia
def Bw:ZX:=fun ds S Q=>∃ (a b c:D) (zs:List Str) (ps:List (Int×Int)) (fs:List Fg) (hz f:Int),ds=[.tup [a,b,c,.int hz,.int f,.int (f+5)]]/\FQ zs ps fs hz f/\Lst S a (zs.map D.str)/\Lst S b (ps.map p2)/\Lst S c (fs.map Xi)/\∀ (T:Z7) (v:D) (V:Vl),Ze (S++T) v V->YX V->V.bs.map (·.1)=zs->V.h0=f->V.h1=f+5->Q v (S++T)
abbrev oV:DS :=
    (zj (zq Z4 (YL 6 (zJ Wf (zJ Ys (zJ YD (zJ YH (zJ Yt (zJ VN YW))))))))
 (zj (zq (Zf 2 [] (Ih (zc Z0 Yn)) (YL 2 (zJ YT (zJ Wf YW))) XH (dTup (zc Z4 (zc Wh (zc TQ zm))))) Tn)
 (zE (dCall Κ (zc (dCall uF (zc (Ye (zc (dTup (zc (Vc Vd Ln) (zc (Vc Vd ZJ) zm))) (zc (dTup (zc JH (zc ZF zm))) zm))) zm)) (zc Vs (zc ZS (zc Zy (zc Y6 (zc W7 (zc ZJ zm)))))))))))
def zic:BodyOk 8 oV Bw:=by
  rintro ds S Q ⟨a,b,c,zs,ps,fs,hz,f,rfl,w,ha,hb,hc,q⟩;unfold oV;have l8:=w.l8;have l2:=w.l2;have lp:=w.lp;walk_at"g";refine zzt ha hb ?_;refine Mi (fun i ys S'=>S'=S/\ys=((zs.zip ps).take i).map XF) ⟨rfl,rfl⟩ (fun i ys S' e=>e.1▸⟨ha,hb⟩) (by rw[Qt,qa,qa];unfold big;lia) ?_ ?_
  . rintro i d ys S' hd ⟨rfl,rfl⟩;obtain⟨x,y,hx,hy,rfl⟩:=J3 hd;obtain⟨z,hz',rfl⟩:=Xg hx;obtain⟨p,hp,rfl⟩:=Gs hy;walk_at"g";refine⟨rfl,?_⟩;rw[WY (x:=(z,p)) (by rw[List.getElem?_zip_eq_some];exact⟨hz',hp⟩),qB];rfl
  rintro ys S' ⟨rfl,rfl⟩;rw[Qt,qa,qa,lp,Nat.min_self,Eu (by rw[List.length_zip];lia)];obtain⟨bs,hbs⟩:∃ bs:List (Str×(Int×Int)),bs=zs.zip ps:=⟨_,rfl⟩
  have bn:bs.map (·.1)=zs:=by rw[hbs];exact List.map_fst_zip (by lia)
  have bl:bs.length=zs.length:=by rw[<- bn,qa]
  have bsp:∀ b∈bs,b.1∈zs/\b.2∈ps:=fun b hb=>by rw[hbs]at hb;exact⟨(Ng hb).1,(Ng hb).2⟩
  rw[<- hbs];clear hbs;have sm:∀ {n:Nat} {x:Int},170<=n->-100<=x->x<=100->Bd n x:=fun {n x} hn h1 h2=>(show Bd 7 x by show _<2 ^ 7;lia).mono (by lia)
  have f0:=w.f0;have f1:=w.f1
  have ok:YX ⟨Xo,bs,fs,some hz,f,f+5,1⟩ :=
    { gr:=oA,b1:=(by show 1<=bs.length;lia),b12:=(by show bs.length<=12;lia),nm:=fun b hb=>w.nm _ (bsp b hb).1,nd:=(by show(bs.map (·.1)).Nodup;rw[bn];exact w.nd)
      st:=fun b hb=>by have:=w.sp _ (bsp b hb).2;exact stN (by lia) (by lia) (by lia)
      bd:=fun b hb=>by have:=w.sp _ (bsp b hb).2;exact⟨sm (by decide) (by lia) (by lia),sm (by decide) (by lia) (by lia)⟩
      f12:=(by have:=w.lf;show fs.length<=12;lia),fg:=w.fg,hz:=(fun z e=>by have e':hz=z:=qD e;subst e';exact w.h0),hh:=(by show f<=f+5;lia),b0:=sm (by decide) (by show -100<=f;lia) (by show f<=100;lia),bl:=sm (by decide) (by show -100<=f+5;lia) (by show f+5<=100;lia),dl:=(by show(0:Int)<=1;decide) }
  walk_at"g";refine⟨S'++[.lst (bs.map XF),.lst (Xo.map p2)],_,Xo,by simp,by simp;rfl,Lst.at (k:=1) rfl,oA,⟨rfl,?_⟩⟩;obtain⟨Sb,hSb⟩:∃ Sb:Z7,Sb=S'++[.lst (bs.map XF),.lst (Xo.map p2)]++[.ins "Ground" [("corners",.ref ((S'++[Cell.lst (bs.map XF),.lst (Xo.map p2)]).length+1))],.lst (Xo.map p2)]:=⟨_,rfl⟩
  have hg:W3 Sb (.ref ((S'++[Cell.lst (bs.map XF),.lst (Xo.map p2)]).length)) Xo:=hSb▸⟨_,_,rfl,zM,(zQ _ _ 1).trans rfl⟩;have hbb:Lst Sb (.ref S'.length) (bs.map XF):=hSb▸Lst.old Lst.at0;have e1:∃ T,Sb=S'++T:=Ef ⟨_,rfl⟩ hSb;have hcc:Lst Sb c (fs.map Xi):=by obtain⟨T,rfl⟩:=e1;exact hc.old
  rw[<- hSb];have eg:(S'++[Cell.lst (bs.map XF),Cell.lst [p2 (-3,-1),p2 (8,0)]]).length=(S'++[Cell.lst (bs.map XF),.lst (Xo.map p2)]).length:=rfl;clear hSb;walk_at"g";refine⟨Sb,_,_,_,⟨Xo,bs,fs,some hz,f,f+5,1⟩,rfl,rfl,hg,hbb,hcc,ok,fun T hv=>⟨rfl,?_⟩⟩;obtain⟨T1,rfl⟩:=e1;rw[qk]at hv ⊢;exact fin_same (q _ _ _ hv ok bn rfl rfl)
def Ik:Yq:=fun ds S Q ex=>∃ (v:D) (V:Vl) (h:Int),ds=[v,.int h]/\Ze S v V/\(¬ (V.h0<=h/\h<=V.h1)->ex "BadHour" S)/\(V.h0<=h->h<=V.h1->Q .non S)
abbrev oJ (ex:XR):DS :=(ZD (Vy (dT (Z6 oLt Z0 (Yi "first" Z4))) (dT (Z6 XS Z0 (Yi "last" Z4)))) (SN ex "BadHour") zK)
def ώ:Vp 2 oJ Ik:=by
 rintro ds S Q ex ⟨v,V,h,rfl,hv,hx,q⟩;unfold oJ;obtain⟨m,g,b',f,rfl,hm,hg,hb,_⟩:=hv;walk_at"g";refine Zi (fun h1=>?_) (fun h1=>?_)
 ·walk_at"g";exact hx (by lia)
 walk_at"g";refine Zi (fun h2=>?_) (fun h2=>?_)
 ·walk_at"g";exact hx (by lia)
 walk_at"g";exact fin_same (q (by lia) (by lia))
def RB:ZX:=fun ds S Q=>∃ (v:D) (V:Vl),ds=[v]/\Ze S v V/\V.bs.length<=100/\New Q S ((V.bs.map (·.1)).map D.str)
abbrev xO:DS :=(zE (Zf 1 [] (Zn (Yi "beacons" Z4)) YT XH Xf))
def bK:BodyOk 1 xO RB:=by
 rintro ds S Q ⟨v,V,rfl,hv,hl,q⟩;unfold xO;obtain⟨m,g,b',f,rfl,hm,hg,hb,_⟩:=hv;walk_at"g";refine Xm (fun _=>true) (Hr fun b=>.str b.1) (Lst.here hb) (by rw[qa];unfold big;lia) (fun i d ys hd hw=>?_) ?_
 ·obtain⟨b,_,rfl⟩:=JX hd;walk_at"g";exact Xu hd hw rfl rfl
 rw[filter_true,Af,show V.bs.map (fun b=>D.str b.1)=(V.bs.map (·.1)).map D.str by rw[Yg];rfl];exact fin_same q
def Hl:ZX:=fun ds S Q=>∃ (v:D) (V:Vl),ds=[v]/\Ze S v V/\YX V/\∀ (T:Z7) (n:Nat),(S++T)[n]?=some (.lst ((prs (V.bs.map (·.1))).map Y4))->Q (.ref n) (S++T)
abbrev kI:DS :=
    (zj (zq (dCall RB Y5) Wf)
 (zj (zq (Ye zm) Ys)
 (zj (YJ (V4 Yy) (YL 2 (zJ YD (zJ YH YW))) (YJ (Zn (Te RN Z0 (some (Z6 Zo ZS ZJ)) none)) Yt (Za (dM Vu ZV (zc (dTup (zc Zy Jg)) zm)))))
 (zE ZV))))
def zj2:BodyOk 6 kI Hl:=by
 rintro ds S Q ⟨v,V,rfl,hv,ok,q⟩;unfold kI;have b12:=ok.b12;walk_at"g";refine⟨v,V,rfl,hv,by lia,?_⟩;have hz:∀ z∈V.bs.map (·.1),fl 20 (.str z)=true:=ok.flN;have zl:(V.bs.map (·.1)).length<=12:=by rw[qa];exact b12
 generalize V.bs.map (·.1)=zs at q hz zl;walk_at"g";refine Ow Lst.at0 ?_;refine rD (fun i Z S'=>∃ (G:Z7) (w3 w4 w5:Option D) (A:List (Str×Str)),S'=S++Cell.lst (zs.map D.str)::Cell.lst (A.map Y4)::G/\Z=[some v,some (.ref S.length),some (.ref (S.length+1)),w3,w4,w5]/\prs zs=A++prs (zs.drop i)) ⟨[],_,_,_,[],rfl,rfl,by simp⟩ (by rintro i Z S' ⟨G,_,_,_,A,e,_⟩;exact e▸Lst.at0) ?_ ?_
 ·rintro i d Z S' hd ⟨G,w3,w4,w5,A,rfl,rfl,hA⟩;obtain⟨y,hy,rfl⟩:=R6 hd;obtain⟨z,hzi,rfl⟩:=Xg hy;have hi:=zu hzi;obtain⟨A',h1,h2⟩:=rM hzi;have eA:A=A':=List.append_cancel_right (hA.symm.trans h2);subst eA;have kz:Lst (S++Cell.lst (zs.map D.str)::Cell.lst (A.map Y4)::G) (.ref S.length) (zs.map D.str):=Lst.at0;walk_at"g";rw[M7,M4,ů _ (by lia) (by lia),show((i:Int)+1).toNat=i+1 by lia]
  have lA:A.length<=144:=by have:=K7 zs;have h3:=congrArg List.length hA;rw[qf]at h3;have:zs.length*zs.length<=12*12:=Lw zl zl;lia
  have ll:(zs.drop (i+1)).length<=12:=by rw[qbv];lia
  generalize zs.drop (i+1)=rs at h1 ll;refine rD (fun j Z S'=>∃ (w5:Option D),S'=S++Cell.lst (zs.map D.str)::Cell.lst ((A++(rs.take j).map fun y=>(z,y)).map Y4)::(G++[.lst (rs.map D.str)])/\Z=[some v,some (.ref S.length),some (.ref (S.length+1)),some (.int (i:Int)),some (.str z),w5]) ⟨w5,by simp,by rfl⟩ (fun j Z S' ⟨w5,e,_⟩=>by rw[e];exact .inr ⟨_,rfl,by show(S++([_,_]++(G++_)))[S.length+([Cell.lst (zs.map D.str),Cell.lst (A.map Y4)]++G).length]?=_;rw[zQ,<- qk,qe (by simp)];simp⟩) ?_ ?_
  ·rintro j d Z S' hd' ⟨w5,rfl,rfl⟩;obtain⟨x,hx,rfl⟩:=Xg hd';have hj:=zu hx
   have hlim:((A++(rs.take j).map fun y=>(z,y)).map Y4).length<big:=by rw[qa,qf,qa,V7];unfold big;lia
   walk_at"g";refine⟨_,?_,rfl⟩;rw[WY hx];simp only[Hy,List.set_cons_zero,qB,qk,qQ,Oz]
  ·rintro Z S' ⟨w5,rfl,rfl⟩;rw[qa,Vb];refine⟨_,_,_,_,_,rfl,rfl,h1⟩
 ·rintro Z S' ⟨G,w3,w4,w5,A,rfl,rfl,hA⟩;rw[VJ,qa,List.drop_of_length_le (qh _)]at hA;have eA:prs zs=A:=by rw[hA];simp[prs]
  walk_at"g";subst eA;exact fin_same (q _ _ ((zQ _ _ 1).trans rfl))
def J7:Yq:=fun ds S Q ex=>∃ (v:D) (V:Vl) (n:Str),ds=[v,.str n]/\Ze S v V/\YX V/\fl 20 (.str n)=true/\((∀ b∈V.bs,b.1≠n)->ex "NoBeacon" S)/\∀ s,(n,s)∈V.bs->Q (p2 s) S
abbrev tQ (ex : XR) : DS :=
    (zj (YJ (Zn (Yi "beacons" Z4)) Ys (ZD (dT (Z6 oEq QX Z0)) (zE (dTup (zc RQ (zc zwn zm)))) zK))
 (SN ex "NoBeacon"))
def fY:Vp 3 tQ J7:=by
 rintro ds S Q ex ⟨v,V,n,rfl,hv,ok,hn,hx,q⟩;unfold tQ;obtain⟨m,g,b',f,rfl,hm,hg,hb,_⟩:=hv;walk_at"g";refine XM (fun i Z S'=>S'=S/\(∃ w,Z=[some (.ref m),some (.str n),w])/\∀ b∈V.bs.take i,b.1≠n) ⟨rfl,⟨none,rfl⟩,by simp⟩ (fun i Z S' h=>h.1▸Lst.here hb) ?_ ?_
 ·rintro i d Z S' hd ⟨rfl,⟨w,rfl⟩,hno⟩;obtain⟨b,hbi,rfl⟩:=JX hd;have mb:=qd hbi;walk_at"g";refine uQ (lR (ok.nm b mb) 20) hn ?_;walk_at"g";refine Zi (fun h=>?_) (fun h=>?_)
  ·walk_at"g";exact fin_same (q b.2 (by rw[<- h];exact mb))
  ·walk_at"g";refine⟨rfl,⟨_,rfl⟩,fun c hc=>?_⟩;rw[WY hbi]at hc;rcases qE.mp hc with hc|hc
   ·exact hno c hc
   ·have:c=b:=by simpa using hc
    subst this;exact h
 ·rintro Z S' ⟨rfl,⟨w,rfl⟩,hno⟩;rw[qa,Vb]at hno;walk_at"g";exact hx hno
def HX:Yq:=fun ds S Q ex=>∃ (g:D) (cs:List (Int×Int)) (s:Int×Int),ds=[g,p2 s]/\W3 S g cs/\WW cs/\Bd 180 s.1/\Bd 200 s.2/\(¬ WK cs s->ex "OffGround" S)/\(WK cs s->Q .non S)
abbrev yr (ex:XR):DS :=(ZD (VP (dT (dCall Kl (zc Z4 Yy)))) (SN ex "OffGround") zK)
def zdZ:Vp 2 yr HX:=by
 rintro ds S Q ex ⟨g,cs,s,rfl,hg,gr,b1,b2,hx,q⟩;unfold yr;walk_at"g";refine⟨g,cs,s,rfl,hg,gr,b1,b2,fun b hb=>?_⟩;cases b with
 | true=>walk_at"g";exact fin_same (q (hb.mp rfl))
 | false=>walk_at"g";exact hx fun z=>(by have:=hb.mpr z;cases this)
def Az:ZX:=fun ds S Q=>∃ (g:D) (cs:List (Int×Int)) (x y:Int),ds=[g,.int x,.int y]/\W3 S g cs/\cs.length<=40/\New Q S ((Yo cs x y cs.length).map D.int)
abbrev wF:DS :=
    (zj (zq (dB Rr (zc Z0 Yn)) YD)
 (zj (zq (dB Qm (zc Z0 Yn)) YH)
 (zE (Zf 2 [3,4] (V4 (zc (Yi "corners" Z4) zm)) (YL 2 (zJ YT (zJ Wf YW))) (dT (NT oLt oLt ZV Wh ZS)) Z4))))
def à:BodyOk 5 wF Az:=by
 rintro ds S Q ⟨g,cs,x,y,rfl,⟨n,l,rfl,hn,hl⟩,h40,q⟩;unfold wF;walk_at"g";refine Ow (xs:=cs.map p2) (Lst.here hl) ?_;refine⟨by rw[VJ,qa];unfold big;lia,fun i ys S'=>S'=S/\ys=(Yo cs x y i).map D.int,⟨rfl,rfl⟩,by rintro i ys S' ⟨e,_⟩;exact e▸Lst.here hl,?_,?_⟩
 ·rintro i d ys S' hd ⟨rfl,rfl⟩;obtain⟨u,hu,rfl⟩:=R6 hd;obtain⟨c,hc,rfl⟩:=Gs hu;have e0:((0+i:Nat):Int)=(i:Int):=by lia
  have eg:cs.getD i (0,0)=c:=by rw[qI,hc];rfl
  rw[e0];walk_at"g";refine Zi (fun g1=>?_) (fun g1=>?_)
  ·walk_at"g";refine Zi (fun g2=>?_) (fun g2=>?_)
   ·walk_at"g";exact⟨rfl,(zwI (by unfold SX;rw[eg,decide_eq_true g1,decide_eq_true g2];rfl)).symm⟩
   ·walk_at"g";exact⟨rfl,by rw[vI (by unfold SX;rw[eg,decide_eq_false g2,RT])]⟩
  ·walk_at"g";exact⟨rfl,by rw[vI (by unfold SX;rw[eg,decide_eq_false g1,Wu])]⟩
 ·rintro ys S' ⟨rfl,rfl⟩;rw[VJ,qa];exact fin_same q
def Dc:ZX:=fun ds S Q=>∃ (a b c:Int×Int),ds=[p2 a,p2 b,p2 c]/\YQ (c.2-a.2) (b.1-a.1)/\YQ (c.1-a.1) (b.2-a.2)/\Q (.int (O2 a b c)) S
abbrev yL:DS :=
    (zj (zq (Z6 Zh Wh Xf) YD)
 (zj (zq (Z6 Zh TQ Wx) YH)
 (zj (zq (Z6 Zh (Z6 YZ (Z6 Zh RQ Wx) ZS) (Z6 YZ (Z6 Zh QX Xf) Zy)) Yt)
 (zj (sJ (ZD (dT (Z6 oLt ZS ZF)) (zq (Vc Vd Y6) Yt) zK))
 (zj (ZD (dT (Z6 XS Y6 ZF)) (zE ZJ) zK)
 (zj (ZD (dT (Z6 oLt Y6 ZF)) (zE (Vc Vd ZJ)) zK)
 (zE ZF)))))))
def bJ:BodyOk 6 yL Dc:=by
 rintro ds S Q ⟨a,b,c,rfl,c1,c2,q⟩;unfold yL;walk_at"g";unfold O2 at q
 have key:∀ o:Int,o=(if b.1-a.1<0 then -XJ a b c else XJ a b c)->(if 0<o then Q (.int 1) S else if o<0 then Q (.int (-1)) S else Q (.int 0) S):=fun o e=>by
  rw[<- e]at q;by_cases h:0<o
  ·rw[if_pos h]at q ⊢;exact q
  ·rw[if_neg h]at q ⊢;by_cases h2:o<0
   ·rw[if_pos h2]at q ⊢;exact q
   ·rw[if_neg h2]at q ⊢;exact q
 refine yV (fun Z S'=>S'=S/\Z=[some (p2 a),some (p2 b),some (p2 c),some (.int (b.1-a.1)),some (.int (b.2-a.2)),some (.int (if b.1-a.1<0 then -XJ a b c else XJ a b c))]) ?_ ?_
 ·walk_at"g";refine Zi (fun g=>?_) (fun g=>?_)
  ·walk_at"g";exact⟨rfl,by rw[if_pos g];rfl⟩
  ·walk_at"g";exact⟨rfl,by rw[if_neg g];rfl⟩
 rintro Z S' ⟨rfl,rfl⟩;have k:=key _ rfl;generalize (if b.1-a.1<0 then -XJ a b c else XJ a b c)=o at k;walk_at"g";refine Zi (fun g=>?_) (fun g=>?_)
 ·rw[if_pos g]at k;walk_at"g";exact fin_same k
 ·rw[if_neg g]at k;walk_at"g";refine Zi (fun g2=>?_) (fun g2=>?_)
  ·rw[if_pos g2]at k;walk_at"g";exact fin_same k
  ·rw[if_neg g2]at k;walk_at"g";exact fin_same k
def Hj:Yq:=fun ds S Q ex=>∃ (g:D) (cs:List (Int×Int)) (a b:Int×Int),ds=[g,p2 a,p2 b]/\W3 S g cs/\WW cs/\(Bd 180 a.1/\Bd 200 a.2)/\(Bd 180 b.1/\Bd 200 b.2)/\(¬ (WK cs a/\WK cs b)->ex "OffGround" S)/\(WK cs a->WK cs b->Q (Vw (Vi cs a b)) S)
abbrev sV (ex : XR) : DS :=
    (zj (Za (X8 HX ex (zc Z4 Yy)))
 (zj (Za (X8 HX ex (zc Z4 Yn)))
 (zj (YJ (Zn (dCall Az (zc Z4 (zc Wh (zc QX zm))))) YD (ZD (dT (Z6 XS (dCall Dc (zc Z0 (zc ZV (zc (Z6 ZL (Yi "corners" Z4) ZS) zm)))) ZF)) (zE ZS) zK))
 (zE (dC .non)))))
def Ŏ:Vp 4 sV Hj:=by
 rintro ds S Q ex ⟨g,cs,a,b,rfl,hg,gr,ba,bb,hx,q⟩;unfold sV;walk_at"g";refine⟨g,cs,a,rfl,hg,gr,ba.1,ba.2,fun z=>hx fun y=>z y.1,fun za=>?_⟩;walk_at"g";refine⟨g,cs,b,rfl,hg,gr,bb.1,bb.2,fun z=>hx fun y=>z y.2,fun zb=>?_⟩;have sa:=Std.of ba.1 ba.2 za;have sb:=Std.of bb.1 bb.2 zb;have q:=q za zb;walk_at"g";refine⟨g,cs,_,_,rfl,hg,gr.most,?_⟩;have kl:∀ k∈Yo cs a.1 b.1 cs.length,0<=k/\k<cs.length:=fun k hk=>zur hk
 unfold Vi at q;generalize Yo cs a.1 b.1 cs.length=ks at q kl;unfold New;walk_at"g";refine XM (fun i Z S'=>∃ w1,Z=[some g,some (p2 a),some (p2 b),w1]/\S'=S++[.lst (ks.map D.int)]/\∀ x∈ks.take i,LQ cs a b x=false) ⟨none,rfl,rfl,by simp⟩ (by rintro i Z S' ⟨w1,_,e,_⟩;exact e▸Lst.at0) ?_ ?_
 ·rintro i d Z S' hd ⟨w1,rfl,rfl,hn⟩;obtain⟨k,hk,rfl⟩:=Ou hd;obtain⟨k0,k1⟩:=kl k (qd hk);obtain⟨c,hc,ac⟩:=J1 (cs:=cs) k0 k1;have eg:cs.getD k.toNat (0,0)=c:=by rw[qI,hc];rfl
  obtain⟨bc1,bc2⟩:=gr.bd c (qd hc);obtain⟨n,l,rfl,hgn,hgl⟩:=hg.old (T:=[.lst (ks.map D.int)]);walk_at"g";refine⟨a,b,c,rfl,.inl ⟨(Bd.sub (bc2.mono (by decide:(190:Nat)<=200)) sa.2.1).mono (by decide),(Bd.sub sb.1 sa.1).mono (by decide)⟩,.inl ⟨(Bd.sub (bc1.mono (by decide:(170:Nat)<=180)) sa.1).mono (by decide),(Bd.sub sb.2.1 sa.2.1).mono (by decide)⟩,?_⟩;walk_at"g";refine Zi (fun g1=>?_) (fun g1=>?_)
  ·walk_at"g";rw[yx hk hn (by unfold LQ;rw[eg];exact decide_eq_true g1)]at q;exact Td rfl q
  ·walk_at"g";refine⟨_,rfl,rfl,fun x hx=>?_⟩;rw[WY hk]at hx;rcases qE.mp hx with hx|hx
   ·exact hn x hx
   ·have:x=k:=by simpa using hx
    subst this;unfold LQ;rw[eg];exact decide_eq_false g1
 ·rintro Z S' ⟨w1,rfl,rfl,hn⟩;rw[qa,Vb]at hn;rw[Ω hn]at q;walk_at"g";exact Td rfl q
def Dd:ZX:=fun ds S Q=>∃ (a b:Int×Int),ds=[p2 a,p2 b]/\(Bd 180 a.1/\Bd 200 a.2)/\(Bd 180 b.1/\Bd 200 b.2)/\Q (.int (Ui a b)) S
abbrev wI:DS :=
    (zj (zq (Z6 Zh Wh Xf) Ys)
 (zj (zq (Z6 Zh TQ Wx) YD)
 (zE (Z6 Zo (Z6 YZ ZV ZV) (Z6 YZ ZS ZS)))))
def ŕ:BodyOk 4 wI Dd:=by rintro ds S Q ⟨a,b,rfl,⟨a1,a2⟩,⟨b1,b2⟩,q⟩;unfold wI;have c1:Bd 8000 (b.1-a.1):=(Bd.sub b1 a1).mono (by decide);have c2:Bd 8000 (b.2-a.2):=(Bd.sub b2 a2).mono (by decide);have m1:YQ (b.1-a.1) (b.1-a.1):=.inl ⟨c1,c1⟩;have m2:YQ (b.2-a.2) (b.2-a.2):=.inl ⟨c2,c2⟩;walk_at"g";exact fin_same q
def EY:ZX:=fun ds S Q=>∃ (v:D) (V:Vl) (a b:Int×Int),ds=[v,p2 a,p2 b]/\Ze S v V/\YX V/\((Bd 180 a.1/\Bd 200 a.2)/\WK V.cs a)/\((Bd 180 b.1/\Bd 200 b.2)/\WK V.cs b)/\Q (Qn V a b) S
abbrev mL:DS :=
    (zj (zq (X8 Hj xF (zc (Yi "ground" Z4) (zc Z0 Yn))) YD)
 (zj (ZD (dT (Z6 Wi ZS (dC .non))) (zE (dTup (zc (dC (.str "ground")) X4))) zK)
 (zj (zq (dCall Dd (zc Z0 Yn)) YH)
 (zj (ZD (Xw (dT (Z6 Wi (Yi "haze" Z4) (dC .non))) (dT (Z6 XS Zy (Yi "haze" Z4)))) (zE (dTup (zc (dC (.str "haze")) PL))) zK)
 (zE (dC .non))))))
def eU:BodyOk 5 mL EY:=by
 rintro ds S Q ⟨v,V,a,b,rfl,hv,ok,⟨ba,sa⟩,⟨bb,sb⟩,q⟩;unfold mL;obtain⟨n,g,bb',f,rfl,hn,hg,_,_⟩:=hv;walk_at"g";refine⟨_,V.cs,a,b,rfl,hg,ok.gr,ba,bb,fun no=>(no ⟨sa,sb⟩).elim,fun _ _=>?_⟩;unfold Qn at q;cases e:Vi V.cs a b with
 |some k =>rw[e]at q;unfold Vw;walk_at"g";exact fin_same q
 |none =>
  rw[e]at q;unfold Vw;walk_at"g";refine⟨a,b,rfl,ba,bb,?_⟩;dsimp only at q;have hn':S[n]?=some (.ins "Valley" (vF (.ref g) (.ref bb') (.ref f) (Vw V.hz) (.int V.h0) (.int V.h1) (.int V.dl))):=hn;generalize Ui a b=sq at q;generalize V.hz=hz at q hn';cases hz with
  |none =>have q2:Q .non S:=q;unfold Vw at hn';walk_at"g";exact fin_same q2
  |some z =>
   have q2:Q (if decide (z<sq)=true then .tup [.str "haze",.int sq]else .non) S:=q;unfold Vw at hn';walk_at"g";refine Zi (fun h=>?_) (fun h=>?_)
   ·rw[if_pos (decide_eq_true h)]at q2;walk_at"g";exact fin_same q2
   ·rw[if_neg (by rw[decide_eq_false h];decide)]at q2;walk_at"g";exact fin_same q2
def G8:ZX:=fun ds S Q=>∃ (F:Fg) (h:Int),ds=[Xi F,.int h]/\YQ F.g h/\YQ F.s h/\Q (.tup [.int (F.x0+F.g*h),.int (F.x1+F.g*h),.int (F.z0+F.s*h),.int (F.z1+F.s*h)]) S
abbrev xu:DS :=
    (zj (zq (Z6 YZ ŭ Z0) Ys)
 (zj (zq (Z6 YZ zwl Z0) YD)
 (zE (dTup (zc (Z6 Zo Xf ZV) (zc (Z6 Zo Wx ZV) (zc (Z6 Zo LK ZS) (zc (Z6 Zo Mq ZS) zm))))))))
def ū:BodyOk 4 xu G8:=by rintro ds S Q ⟨F,h,rfl,c1,c2,q⟩;unfold xu;walk_at"g";exact fin_same q
def Fw:ZX:=fun ds S Q=>∃ (F:Fg) (h:Int),ds=[Xi F,.int h]/\Ks F/\Bd 300 h/\(¬ (F.f<=h/\h<=F.l)->Q .non S)/\(F.f<=h->h<=F.l->Q (.tup [.int (F.x0+F.g*(h-F.f)),.int (F.x1+F.g*(h-F.f)),.int (F.z0+F.s*(h-F.f)),.int (F.z1+F.s*(h-F.f))]) S)
abbrev mD:DS :=
    (zj (ZD (Vy (dT (Z6 oLt Z0 DP)) (dT (Z6 XS Z0 xR))) (zE (dC .non)) zK)
 (zE (dCall G8 (zc Z4 (zc (Z6 Zh Z0 DP) zm)))))
def ţ:BodyOk 2 mD Fw:=by
 rintro ds S Q ⟨F,h,rfl,ok,bh,q0,q⟩;unfold mD;walk_at"g";refine Zi (fun h1=>?_) (fun h1=>?_)
 ·walk_at"g";exact fin_same (q0 (by lia))
 walk_at"g";refine Zi (fun h2=>?_) (fun h2=>?_)
 ·walk_at"g";exact fin_same (q0 (by lia))
 walk_at"g";have bk:Bd 301 (h-F.f):=Bd.sub bh ok.f;refine⟨F,_,rfl,.inl ⟨ok.b.bg.mono (by decide),bk.mono (by decide)⟩,.inl ⟨ok.b.bs.mono (by decide),bk.mono (by decide)⟩,?_⟩;exact fin_same (q (by lia) (by lia))
def Bp:ZX:=fun ds S Q=>∃ (L R B T x1 z1 x2 z2:Int),ds=[.tup [.int L,.int R,.int B,.int T],.tup [.int x1,.int z1],.tup [.int x2,.int z2]]/\Bd 1000 L/\Bd 1000 R/\Bd 1000 B/\Bd 1000 T/\Bd 1000 x1/\Bd 1000 z1/\Bd 1000 x2/\Bd 1000 z2 /\
 ∀ (ca cb:Cell) (mx mn:Int),mx∈Zc L R B T x1 z1 x2 z2->(∀ a∈Zc L R B T x1 z1 x2 z2,a<=mx)->mn∈Zc L R B T x1 z1 x2 z2->(∀ a∈Zc L R B T x1 z1 x2 z2,mn<=a)->Q (.ref (S.length+2)) (S++[ca,cb,.lst ((six L R B T x1 z1 x2 z2 mx mn).map D.int)])
abbrev wZ:DS :=
    (zj (zq (Z6 Zh QX Wh) YD)
 (zj (zq (Z6 Zh RQ TQ) YH)
 (zj (zq (Ye (zc (dTup (zc Xf (zc LK zm))) (zc (dTup (zc Xf (zc Mq zm))) (zc (dTup (zc Wx (zc LK zm))) (zc (dTup (zc Wx (zc Mq zm))) zm))))) Yt)
 (zj (zq (Zf 2 [3,1,4] (Zn Y6) (YL 2 (zJ YT (zJ Wf YW))) XH (Z6 Zh (Z6 YZ ZV (Z6 Zh Z0 zxp)) (Z6 YZ Zy (Z6 Zh Z4 zxW)))) VN)
 (zE (Ye (zc (Z6 Zh (dB Qm (zc Wh (zc QX zm))) Xf) (zc (Z6 Zh Wx (dB Rr (zc Wh (zc QX zm)))) (zc (Z6 Zh (dB Qm (zc TQ (zc RQ zm))) LK) (zc (Z6 Zh Mq (dB Rr (zc TQ (zc RQ zm)))) (zc (dB Je Lb) (zc (Vc Vd (dB Mg Lb)) zm))))))))))))
def zlt:BodyOk 7 wZ Bp:=by
 rintro ds S Q ⟨L,R,B,T,x1,z1,x2,z2,rfl,bL,bR,bB,bT,b1,b2,b3,b4,q⟩;unfold wZ;walk_at"g";refine Xm (fun _=>true) (ļ fun c=>.int ((x2-x1)*(c.2-z1)-(z2-z1)*(c.1-x1))) (by walk_at"l") (qG rfl) (fun i d ys hd hw=>?_) ?_
 ·obtain⟨c,hc,rfl⟩:=Gs (cs:=[(L,B),(L,T),(R,B),(R,T)]) hd;have hm:=qd hc
  have hb:Bd 1000 c.1/\Bd 1000 c.2:=by
   simp only[qv,qN,or_false]at hm;rcases hm with rfl|rfl|rfl|rfl
   ·exact⟨bL,bB⟩
   ·exact⟨bL,bT⟩
   ·exact⟨bR,bB⟩
   ·exact⟨bR,bT⟩
  have hb1:=hb.1;have hb2:=hb.2;have c1:YQ (x2-x1) (c.2-z1):=.inl ⟨(Bd.sub b3 b1).mono (by decide),(Bd.sub hb2 b2).mono (by decide)⟩;have c2:YQ (z2-z1) (c.1-x1):=.inl ⟨(Bd.sub b4 b2).mono (by decide),(Bd.sub hb1 b1).mono (by decide)⟩;walk_at"g";exact Xu hd hw rfl rfl
 rw[filter_true];show New _ _ ((Zc L R B T x1 z1 x2 z2).map D.int);walk_at"g";refine Ě (ns:=Zc L R B T x1 z1 x2 z2) (by walk_at"l") (qG rfl) fun mx m1 m2=>?_
 walk_at"g";refine vJ (ns:=Zc L R B T x1 z1 x2 z2) (by walk_at"l") (qG rfl) fun mn n1 n2=>?_
 walk_at"g";exact fin_same (q _ _ mx mn m1 m2 n1 n2)
def Du:ZX:=fun ds S Q=>∃ (L R B T:Int) (a b:Int×Int),ds=[.tup [.int L,.int R,.int B,.int T],p2 a,p2 b]/\L<=R/\B<=T/\(Bd 700 L/\Bd 700 R/\Bd 700 B/\Bd 700 T)/\(Bd 700 a.1/\Bd 700 a.2)/\(Bd 700 b.1/\Bd 700 b.2)/\∀ r:Bool,(r=true↔Rb L R B T a.1 a.2 b.1 b.2)->Q (.bl r) S
abbrev wX:DS :=(zE (Z6 JD (dB Mg (zc (dCall Bp (zc Z4 (zc Z0 Yn))) zm)) ZF))
def ģ:BodyOk 3 wX Du:=by
 rintro ds S Q ⟨L,R,B,T,a,b,rfl,hx,hz,⟨bL,bR,bB,bT⟩,⟨ba1,ba2⟩,⟨bb1,bb2⟩,q⟩;unfold wX;walk_at"g";refine⟨L,R,B,T,a.1,a.2,b.1,b.2,rfl,bL.mono (by decide),bR.mono (by decide),bB.mono (by decide),bT.mono (by decide),ba1.mono (by decide),ba2.mono (by decide),bb1.mono (by decide),bb2.mono (by decide),fun ca cb mx mn m1 m2 n1 n2=>?_⟩;walk_at"g";refine vJ (ns:=six L R B T a.1 a.2 b.1 b.2 mx mn) (Lst.at (k:=2) rfl) (by show 0<6;decide) fun m w1 w2=>?_
 walk_at"g";refine Td rfl (q _ ?_);rw[decide_eq_true_eq,<- zsd hx hz];exact zog m1 m2 n1 n2 w1 w2
def Jy:Yq:=fun ds S Q ex=>∃ (v:D) (V:Vl) (n m:Str) (h:Int),ds=[v,.str n,.str m,.int h]/\Ze S v V/\YX V/\fl 20 (.str n)=true/\fl 20 (.str m)=true/\((∀ b∈V.bs,b.1≠n)\/(∀ b∈V.bs,b.1≠m)->ex "NoBeacon" S) /\
 ∀ s t,(n,s)∈V.bs->(m,t)∈V.bs->(¬ (V.h0<=h/\h<=V.h1)->ex "BadHour" S)/\(V.h0<=h->h<=V.h1->∀ d,Fx V n m s t h d->Q d S)
abbrev oE (ex : XR) : DS :=
    (zj (zq (X8 J7 ex (zc Z4 Yy)) YH)
 (zj (zq (X8 J7 ex (zc Z4 Yn)) Yt)
 (zj (Za (X8 Ik ex (zc Z4 X4)))
 (zj (ZD (dT (Z6 oEq Z0 ZV)) (zE (dC .non)) zK)
 (zj (zq (dCall EY (zc Z4 (zc Zy Jg))) VN)
 (zj (ZD (dT (Z6 Wi W7 (dC .non))) (zE W7) zK)
 (zj (YJ (V4 (zc (Yi "fogs" Z4) zm)) (YL 2 (zJ Tn (zJ JF YW))) (zj (zq (dCall Fw (zc Qi X4)) CP)
 (ZD (Xw (dT (Z6 Wi Pu (dC .non))) (dT (dCall Du (zc Pu (zc Zy Jg))))) (zE (dTup (zc (dC (.str "fog")) Ug))) zK)))
 (zE (dC .non)))))))))
def ji:Vp 10 oE Jy:=by
 rintro ds S Q ex ⟨v,V,n,m,h,rfl,hv,ok,hn,hm,hx,q⟩;unfold oE;walk_at"g";refine⟨v,V,n,rfl,hv,ok,hn,fun no=>hx (.inl no),fun s hs=>?_⟩;walk_at"g";refine⟨v,V,m,rfl,hv,ok,hm,fun no=>hx (.inr no),fun t ht=>?_⟩;obtain⟨q1,q2⟩:=q s t hs ht;clear hx q;have bs:=ok.bd _ hs;have bt:=ok.bd _ ht;have ss:=ok.st _ hs;have st:=ok.st _ ht;walk_at"g";refine⟨v,V,h,rfl,hv,q1,fun h0 h1=>?_⟩;have q':=q2 h0 h1;clear q1 q2;have bh:Bd 300 h:=(Bd.btw (n:=250) ok.b0 ok.bl h0 h1).mono (by decide);obtain⟨a,g,b',f,rfl,ha,hg,hb,hf⟩:=id hv;walk_at"g";refine uQ hn hm ?_;walk_at"g";refine Zi (fun e=>?_) (fun e=>?_)
 ·walk_at"g";exact fin_same (q' .non (.inl ⟨e,rfl⟩))
 walk_at"g";refine⟨_,V,s,t,rfl,hv,ok,⟨bs,ss⟩,⟨bt,st⟩,?_⟩;walk_at"g";by_cases al:Ri V s t
 case neg =>
  have en:Xr (Qn V s t)=false:=by
   cases h:Qn V s t with
   |non=>exact absurd (G7.mp h) al
   |_=>rfl
  rw[en];walk_at"g";exact fin_same (q' _ (.inr ⟨e,.inl ⟨al,rfl⟩⟩))
 rw[G7.mpr al,show Xr D.non=true from rfl];walk_at"g";refine Ow (Lst.here hf) ?_;have f12:=ok.f12;refine XM (fun i Z S'=>S'=S/\(∃ w1 w2 w3:Option D,Z=[some (.ref a),some (.str n),some (.str m),some (.int h),some (p2 s),some (p2 t),some .non,w1,w2,w3])/\∀ (j:Nat) G,j<i->V.fs[j]?=some G->¬ Vk G s.1 s.2 t.1 t.2 h) ⟨rfl,⟨_,_,_,rfl⟩,fun j G hj=>by lia⟩ (fun i Z S' w=>w.1▸Lst.here hf) ?_ ?_
 ·rintro i d Z S' hd ⟨rfl,⟨w1,w2,w3,rfl⟩,hno⟩;obtain⟨y,hy,rfl⟩:=R6 hd;obtain⟨F,hF,rfl⟩:=uI hy;have okF:=ok.fg F (qd hF)
  have nxt:¬ Vk F s.1 s.2 t.1 t.2 h->∀ (j:Nat) G,j<i+1->V.fs[j]?=some G->¬ Vk G s.1 s.2 t.1 t.2 h:=fun z j G hj hG=>by
   rcases Yv j i with g|g
   ·exact hno j G g hG
   ·have:j=i:=by lia
    subst this;rw[hF]at hG;cases hG;exact z
  walk_at"g";refine⟨F,h,rfl,okF,bh,fun no=>?_,fun k0 k1=>?_⟩
  ·walk_at"g";exact⟨rfl,⟨_,_,_,rfl⟩,nxt fun z=>no ⟨z.1,z.2.1⟩⟩
  ·walk_at"g";have bk:Bd 301 (h-F.f):=Bd.sub bh okF.f;have p1:Bd 501 (F.g*(h-F.f)):=Bd.mul okF.b.bg bk;have p2':Bd 501 (F.s*(h-F.f)):=Bd.mul okF.b.bs bk;have aD:∀ {x y:Int},Bd 600 x->Bd 501 y->Bd 700 (x+y):=fun hx hy=>(Bd.add (n:=600) hx (hy.mono (by decide))).mono (by decide)
   refine⟨_,_,_,_,s,t,rfl,by have:=okF.b.x;lia,by have:=okF.b.z;lia,⟨aD okF.b.b0 p1,aD okF.b.b1 p1,aD okF.b.b2 p2',aD okF.b.b3 p2'⟩,⟨bs.1.mono (by decide),bs.2.mono (by decide)⟩,⟨bt.1.mono (by decide),bt.2.mono (by decide)⟩,fun r hr=>?_⟩;cases r with
   |true =>walk_at"g";rw[M7];exact fin_same (q' _ (.inr ⟨e,.inr ⟨al,.inl ⟨i,F,hF,⟨k0,k1,hr.mp rfl⟩,hno,rfl⟩⟩⟩))
   |false =>walk_at"g";exact⟨rfl,⟨_,_,_,rfl⟩,nxt fun z=>absurd (hr.mpr z.2.2) (by decide)⟩
 ·rintro Z S' ⟨rfl,⟨w1,w2,w3,rfl⟩,hno⟩;rw[VJ,qa]at hno;walk_at"g";refine fin_same (q' _ (.inr ⟨e,.inr ⟨al,.inr ⟨fun F hF=>?_,rfl⟩⟩⟩));obtain⟨j,hj,e⟩:=qK.mp hF;exact hno j F hj (by rw[qb hj,e])
def Jz:Yq:=fun ds S Q ex=>∃ (v:D) (V:Vl) (h:Int),ds=[v,.int h]/\Ze S v V/\YX V/\(¬ (V.h0<=h/\h<=V.h1)->ex "BadHour" S)/\(V.h0<=h->h<=V.h1->∀ (T:Z7) (n:Nat) (qs:List (Str×Str)),MJ V h (prs (V.bs.map (·.1))) qs->(S++T)[n]?=some (.lst (qs.map Y4))->S.length<=n->Q (.ref n) (S++T))
abbrev sO (ex : XR) : DS :=
    (zj (Za (X8 Ik ex (zc Z4 Yy)))
 (zE (Zf 1 [0,1] (Zn (dCall Hl Y5)) YT (dT (Z6 KC (X8 Jy xF (zc Z0 (zc Xf (zc Wx Yn)))) (dC .non))) Z4)))
def zmI:Vp 2 sO Jz:=by
  rintro ds S Q ex ⟨v,V,h,rfl,hv,ok,hx,q⟩;unfold sO;walk_at"g";refine⟨v,V,h,rfl,hv,hx,fun h0 h1=>?_⟩;have q':=q h0 h1;clear q hx;walk_at"g";refine⟨v,V,rfl,hv,ok,fun T n hn=>?_⟩;walk_at"g";have hv1:Ze (S++T) v V:=hv.old;have b12:=ok.b12;have hpm:∀ p∈prs (V.bs.map (·.1)),p.1∈V.bs.map (·.1)/\p.2∈V.bs.map (·.1):=fun p hp=>Vz hp
  have lp:(prs (V.bs.map (·.1))).length<=144:=by have:=K7 (V.bs.map (·.1));rw[qa]at this;have:V.bs.length*V.bs.length<=12*12:=Lw b12 b12;lia
  generalize prs (V.bs.map (·.1))=ps at q' hn hpm lp;refine Mi (fun i ys S'=>S'=S++T/\∃ qs,ys=qs.map Y4/\MJ V h (ps.take i) qs) ⟨rfl,[],rfl,fun _=>true,rfl,fun p hp=>by simp at hp⟩ (fun i ys S' w=>w.1▸Lst.here hn) (by rw[qa];unfold big;lia) ?_ ?_
  . rintro i d ys S' hd ⟨rfl,qs,rfl,hw⟩;obtain⟨p,hp,rfl⟩:=Ay hd;obtain⟨m1,m2⟩:=hpm p (qd hp);obtain⟨b,hb,eb⟩:=qC.mp m1;obtain⟨c,hc,ec⟩:=qC.mp m2;obtain⟨f,hf,hfp⟩:=hw;walk_at"g";refine⟨v,V,p.1,p.2,h,rfl,hv1,ok,ok.flN _ m1,ok.flN _ m2,fun no=>?_,fun s t hs ht=>⟨fun no=>absurd ⟨h0,h1⟩ no,fun _ _ e he=>?_⟩⟩
    . rcases no with no|no
      . exact no b hb eb
      . exact no c hc ec
    have en:Xr e=true↔p.1=p.2\/R4 V s t h:=by rw[<- he.non];cases e<;>simp[Xr]
    have ubc:∀ s' t',(p.1,s')∈V.bs->(p.2,t')∈V.bs->s'=s/\t'=t:=fun s' t' h1 h2=>⟨congrArg Prod.snd (Jm ok h1 hs rfl),congrArg Prod.snd (Jm ok h2 ht rfl)⟩
    walk_at"g";cases hg:Xr e with
    |true =>walk_at"g";refine⟨rfl,qs++[p],by rw[qB];rfl,?_⟩;exact yp hp hs ht ⟨f,hf,hfp⟩ (fun s' t' h1 h2=>by obtain⟨rfl,rfl⟩:=ubc s' t' h1 h2;exact⟨fun _=>en.mp hg,fun _=>rfl⟩) (by rw[if_pos rfl])
    |false =>walk_at"g";refine⟨rfl,qs,rfl,?_⟩;exact yp (g:=false) hp hs ht ⟨f,hf,hfp⟩ (fun s' t' h1 h2=>by obtain⟨rfl,rfl⟩:=ubc s' t' h1 h2;exact⟨fun z=>(by cases z),fun z=>by rw[hg]at en;exact absurd (en.mpr z) (by decide)⟩) (by rw[if_neg (by decide)])
  . rintro ys S' ⟨rfl,qs,rfl,hw⟩;rw[qa,Vb]at hw;refine WT (fin_same (q' _ _ qs hw OJ (by lia)))
def W5 (b:Nat)(zs:List Str):Nat->List (Str×D)
 |0=>[]
 |i+1=>W5 b zs i++[(zs.getD i Str.empty,.ref (b+i))]
theorem uZ (b:Nat)(zs:List Str):∀ i,(W5 b zs i).length=i
 |0=>rfl
 |i+1=>by show(W5 b zs i++_).length=_;rw[qf,uZ b zs i];rfl
theorem FN {b:Nat}{zs:List Str}(nd:zs.Nodup):∀ (i:Nat),i<=zs.length->∀ (j:Nat) z,zs[j]?=some z->dval (W5 b zs i) z=if j<i then some (.ref (b+j))else none
 |0,_,j,z,_=>by rw[if_neg (by lia)];rfl
 |i+1,hi,j,z,hz=>by
  have gi:zs[i]?=some (zs.getD i Str.empty):=by rw[qI,qb (by lia)];rfl
  show dval (W5 b zs i++[(zs.getD i Str.empty,.ref (b+i))]) z=_;rw[wG,FN nd i (by lia) j z hz];by_cases e:j<i
  ·rw[if_pos e,if_pos (show j<i+1 by lia)];rfl
  ·rw[if_neg e];by_cases e2:j=i
   ·subst e2;rw[gi]at hz;rw[if_pos (qD hz),if_pos (show j<j+1 by lia)];rfl
   ·rw[if_neg (fun w=>e2 (Ox nd hz (by rw[<- w];exact gi))),if_neg (show ¬ j<i+1 by lia)];rfl
structure wB (zs:List Str)(qs:List (Str×Str))(Ls:List (List Str)):Prop where
 len:Ls.length=zs.length
 nd:∀ ys∈Ls,ys.Nodup
 iff:∀ (j:Nat) z ys,zs[j]?=some z->Ls[j]?=some ys->∀ y,y∈ys↔(z,y)∈qs\/(y,z)∈qs
abbrev Xd (Ls:List (List Str)):Z7:=Ls.map fun ys=>Cell.lst (ys.map D.str)
def Fq:ZX:=fun ds S Q=>∃ (v:D) (V:Vl) (h:Int) (x:D) (zs:List Str),ds=[v,.int h,x]/\Ze S v V/\YX V/\V.bs.map (·.1)=zs/\Lst S x (zs.map D.str)/\V.h0<=h/\h<=V.h1/\∀ (T:Z7) (y:D),Wm (S++T) y V h->Q y (S++T)
abbrev tG:DS :=
    (zj (zq (Mz) YD)
 (zj (YJ (Zn ZV) YH (Nb ZS Zy (Ye zm)))
 (zj (YJ (Zn (X8 Jz xF (zc Z4 Yy))) (YL 2 (zJ Yt (zJ VN YW))) (zj (Za (dM Vu (Vx ZS Y6) Lb))
 (Za (dM Vu (Vx ZS W7) Jg))))
 (zE ZS))))
def eX:BodyOk 7 tG Fq:=by
 rintro ds S Q ⟨v,V,h,x,zs,rfl,hv,ok,hzs,hx,h0,h1,q⟩;unfold tG;have nd:zs.Nodup:=hzs▸ok.nd;have b12:zs.length<=12:=by rw[<- hzs,qa];exact ok.b12
 walk_at"g";have hx1:∀ T,Lst (S++T) x (zs.map D.str):=fun T=>hx.old
 have hx2:=hx1 [.dk []];walk_at"g";walk_at"h";refine XM (fun i Z S'=>i<=zs.length/\∃ w4:Option D,S'=S++Cell.dk (W5 (S.length+1) zs i)::Xd (List.replicate i [])/\Z=[some v,some (.int h),some x,some (.ref S.length),w4,none,none]) ⟨qH _,none,rfl,rfl⟩ (by rintro i Z S' ⟨_,_,e,_⟩;exact e▸hx.old) ?_ ?_
 ·rintro i d Z S' hd ⟨hi,w4,rfl,rfl⟩;obtain⟨z,hz,rfl⟩:=Xg hd;have li:=zu hz;have gz:zs.getD i Str.empty=z:=by rw[qI,hz];rfl
  walk_at"g";have e1:S.length+(Cell.dk (W5 (S.length+1) zs i)::Xd (List.replicate i [])).length=S.length+1+i:=by simp;lia
  rw[e1];refine Ti.k (Z8:=W5 (S.length+1) zs i) zM (by rw[uZ];unfold big;lia) ?_;refine FT ?_;walk_at"g";refine⟨by lia,_,?_,rfl⟩;have hv0:dval (W5 (S.length+1) zs i) z=none:=by rw[FN nd i hi i z hz,if_neg (Xx i)]
  have e2:dput (W5 (S.length+1) zs i) z (.ref (S.length+1+i))=W5 (S.length+1) zs (i+1):=by unfold dput;rw[Qp,hv0,if_neg (by simp)];show W5 (S.length+1) zs i++[(z,_)]=W5 (S.length+1) zs i++[(zs.getD i Str.empty,_)];rw[gz]
  have e3:Xd (List.replicate i [])++[Cell.lst []]=Xd (List.replicate (i+1) []):=by rw[List.replicate_succ'];exact(qB (f:=fun ys:List Str=>Cell.lst (ys.map D.str)) (l₁:=List.replicate i []) (l₂:=[[]])).symm
  rw[e2,<- e3];rfl
 ·rintro Z S' ⟨_,w4,rfl,rfl⟩;rw[qa];obtain⟨kv,hkv⟩:∃ kv,kv=W5 (S.length+1) zs zs.length:=⟨_,rfl⟩
  have vl:∀ (j:Nat) z,zs[j]?=some z->dval kv z=some (.ref (S.length+1+j)):=fun j z hz=>by rw[hkv,FN nd _ (qh _) j z hz,if_pos (zu hz)]
  rw[<- hkv];clear hkv;walk_at"g";refine⟨v,V,h,rfl,hv.old,ok,fun no=>absurd ⟨h0,h1⟩ no,fun _ _ T n qs hq hn ln=>?_⟩;have hmem:∀ p∈prs zs,p.1∈V.bs.map (·.1)/\p.2∈V.bs.map (·.1):=fun p hp=>hzs▸Vz hp
  rw[hzs]at hq;have eq:=kZ ok hmem hq;have qnd:qs.Nodup:=eq▸(tu nd).filter _
  have qp:∀ p∈qs,p∈prs zs/\YK V h p.1 p.2:=fun p hp=>by rw[eq]at hp;obtain⟨h1,h2⟩:=qR.mp hp;exact⟨h1,LR.mp h2⟩
  have qm:∀ p∈prs zs,YK V h p.1 p.2->p∈qs:=fun p hp had=>by rw[eq];exact qR.mpr ⟨hp,LR.mpr had⟩
  obtain⟨Ls0,hL0⟩:∃ Ls0:List (List Str),Ls0=List.replicate zs.length []:=⟨_,rfl⟩
  rw[<- hL0]at hn ln ⊢
  have n0:wB zs [] Ls0:=⟨by rw[hL0];simp,fun ys hy=>by rw[hL0]at hy;rw[List.eq_of_mem_replicate hy];simp,fun j z ys hz hs y=>by rw[hL0]at hs;rw[List.eq_of_mem_replicate (qd hs)];simp⟩
  have lL0:=n0.len
  have kq:∀ Ls:List (List Str),Ls.length=zs.length->Lst (S++Cell.dk kv::(Xd Ls++T)) (.ref n) (qs.map Y4):=fun Ls hl=>by
   refine .inr ⟨n,rfl,?_⟩
   have ln':S.length+(1+zs.length)<=n:=by
    have:(S++Cell.dk kv::Xd Ls0).length=S.length+(1+zs.length):=by simp;lia
    lia
   obtain⟨k,rfl⟩:∃ k,n=S.length+(1+zs.length+k):=⟨n-(S.length+(1+zs.length)),by lia⟩
   rw[qk,HS,zQ,show 1+zs.length+k=(zs.length+k)+1 by lia,TX,qe (by simp;lia)]at hn;rw[zQ,show 1+zs.length+k=(zs.length+k)+1 by lia,TX,qe (by simp;lia)];rw[<- hn];congr 1;simp;lia
  rw[show S++Cell.dk kv::Xd Ls0++T=S++Cell.dk kv::(Xd Ls0++T) by simp];have kq0:=kq Ls0 lL0;clear hn hL0
  have bq:qs.length<=144:=by have h2:=Ve (Sh V h) (prs zs);have h3:=K7 zs;have:zs.length*zs.length<=12*12:=Lw b12 b12;rw[eq];lia
  walk_at"g";refine XM (fun i Z S'=>∃ (Ls:List (List Str)) (w5 w6:Option D),S'=S++Cell.dk kv::(Xd Ls++T)/\Z=[some v,some (.int h),some x,some (.ref S.length),w4,w5,w6]/\wB zs (qs.take i) Ls) ⟨Ls0,_,_,rfl,rfl,by simpa using n0⟩ (by rintro i Z S' ⟨Ls,_,_,e,_,w⟩;exact e▸kq Ls w.len) ?_ ?_
  ·rintro i d Z S' hd ⟨Ls,w5,w6,rfl,rfl,w⟩;obtain⟨⟨a,b⟩,hp,rfl⟩:=Ay hd;have mp:=qd hp;obtain⟨pp,_⟩:=qp _ mp;obtain⟨ma,mb⟩:=Vz pp;have nab:a≠b:=M8 nd pp;obtain⟨ia,hia,ea⟩:=qK.mp ma;obtain⟨ib,hib,eb⟩:=qK.mp mb;have ga:zs[ia]?=some a:=by rw[qb hia,ea]
   have gb:zs[ib]?=some b:=by rw[qb hib,eb]
   have wl:=w.len;obtain⟨ya,hya⟩:∃ ya,Ls[ia]?=some ya:=⟨_,qb (by lia)⟩
   have Zw:(a,b)∉qs.take i:=fun z=>by obtain⟨j,hj,ej⟩:=qK.mp z;rw[List.getElem_take]at ej;rw[V7]at hj;have li:=zu hp;rw[qb li]at hp;have:=R5.mp qnd j i (by lia) li (by lia);exact this (ej.trans (qD hp).symm)
   have not2:(b,a)∉qs.take i:=fun z=>nU nd pp (qp _ (O6 z)).1
   have no1:b∉ya:=fun z=>((w.iff ia a ya ga hya b).mp z).elim Zw not2
   have at1:∀ (Ls:List (List Str)) (j:Nat) (ys:List Str),Ls[j]?=some ys->(S++Cell.dk kv::(Xd Ls++T))[S.length+1+j]?=some (.lst (ys.map D.str)):=fun Ls j ys hj=>by rw[Ra,zQ,show 1+j=j+1 by lia,TX,qg (by rw[qa];exact zu hj),qi,hj];rfl
   have put1:∀ (Ls:List (List Str)) (j:Nat) (ys:List Str),j<Ls.length->(S++Cell.dk kv::(Xd Ls++T)).set (S.length+1+j) (.lst (ys.map D.str))=S++Cell.dk kv::(Xd (Ls.set j ys)++T):=fun Ls j ys hj=>by rw[RD _ _ (by lia),show S.length+1+j-S.length=j+1 by lia,Hy,HY _ _ (by rw[qa];exact hj),show Xd (Ls.set j ys)=(Xd Ls).set j (.lst (ys.map D.str))from List.map_set]
   have lya:ya.length<=12:=qW (K5 (N:=zs) (w.nd ya (qd hya)) fun y hy=>by
    rcases(w.iff ia a ya ga hya y).mp hy with z|z
    ·exact(Vz (qp _ (O6 z)).1).2
    ·exact(Vz (qp _ (O6 z)).1).1) b12
   walk_at"g";refine⟨_,Zj.k zM (vl ia a ga),?_⟩;refine Fd (at1 Ls ia ya hya) ?_;walk_at"g";refine Js (at1 Ls ia ya hya) (by rw[qa];unfold big;lia) ?_;refine W2 ?_;rw[show ya.map D.str++[D.str b]=(ya++[b]).map D.str by rw[qB];rfl,put1 _ _ _ (by lia)];obtain⟨yb,hyb⟩:∃ yb,(Ls.set ia (ya++[b]))[ib]?=some yb:=⟨_,qb (by rw[Xb];lia)⟩
   have hyb':Ls[ib]?=some yb:=by rwa[qP (fun e=>nab (by subst e;rw[ga]at gb;exact qD gb))]at hyb
   have no2:a∉yb:=fun z=>((w.iff ib b yb gb hyb' a).mp z).elim not2 Zw
   have lyb:yb.length<=12:=qW (K5 (N:=zs) (w.nd yb (qd hyb')) fun y hy=>by
    rcases(w.iff ib b yb gb hyb' y).mp hy with z|z
    ·exact(Vz (qp _ (O6 z)).1).2
    ·exact(Vz (qp _ (O6 z)).1).1) b12
   walk_at"g";refine⟨_,Zj.k zM (vl ib b gb),?_⟩;refine Fd (at1 _ ib yb hyb) ?_;walk_at"g";refine Js (at1 _ ib yb hyb) (by rw[qa];unfold big;lia) ?_;refine W2 ?_;rw[show yb.map D.str++[D.str a]=(yb++[a]).map D.str by rw[qB];rfl,put1 _ _ _ (by rw[Xb];lia)];walk_at"g";refine⟨_,_,_,rfl,rfl,?_⟩;rw[WY hp];have len2:((Ls.set ia (ya++[b])).set ib (yb++[a])).length=zs.length:=by rw[Xb,Xb];exact wl
   refine⟨len2,fun ys hy=>?_,fun j z ys hz hs y=>?_⟩
   ·have snd:∀ {l:List Str} {c:Str},l.Nodup->c∉l->(l++[c]).Nodup:=fun {l c} h1 h2=>by
     rw[VF];refine⟨h1,by simp,fun u hu v' hv' e=>?_⟩;have:v'=c:=by simpa using hv'
     subst this;subst e;exact h2 hu
    rcases El hy with hy|rfl
    ·rcases El hy with hy|rfl
     ·exact w.nd ys hy
     ·exact snd (w.nd _ (qd hya)) no1
    ·exact snd (w.nd _ (qd hyb')) no2
   ·have mem2:∀ u t:Str,(u,t)∈qs.take i++[(a,b)]↔(u,t)∈qs.take i\/(u=a/\t=b):=fun u t=>by rw[qE,qT,Prod.mk.injEq]
    rw[mem2,mem2];by_cases e2:ib=j
    ·subst e2;rw[qU (by rw[Xb];lia)]at hs;cases hs;rw[gb]at hz;cases hz;rw[qE,qT,w.iff ib b yb gb hyb' y];constructor
     ·rintro((z|z)|z)
      ·exact .inl (.inl z)
      ·exact .inr (.inl z)
      ·exact .inr (.inr ⟨z,rfl⟩)
     ·rintro((z|z)|(z|z))
      ·exact .inl (.inl z)
      ·exact absurd z.1.symm nab
      ·exact .inl (.inr z)
      ·exact .inr z.1
    ·rw[qP e2]at hs;by_cases e1:ia=j
     ·subst e1;rw[qU (by lia)]at hs;cases hs;rw[ga]at hz;cases hz;rw[qE,qT,w.iff ia a ya ga hya y];constructor
      ·rintro((z|z)|z)
       ·exact .inl (.inl z)
       ·exact .inr (.inl z)
       ·exact .inl (.inr ⟨rfl,z⟩)
      ·rintro((z|z)|(z|z))
       ·exact .inl (.inl z)
       ·exact .inr z.2
       ·exact .inl (.inr z)
       ·exact absurd z.2 nab
     ·rw[qP e1]at hs;rw[w.iff j z ys hz hs y];have nz1:z≠a:=fun e=>by subst e;exact e1 (Ox nd ga hz)
      have nz2:z≠b:=fun e=>by subst e;exact e2 (Ox nd gb hz)
      constructor
      ·exact fun z=>z.imp .inl .inl
      ·rintro((z|z)|(z|z))
       ·exact .inl z
       ·exact absurd z.1 nz1
       ·exact .inr z
       ·exact absurd z.2 nz2
  ·rintro Z S' ⟨Ls,w5,w6,rfl,rfl,w⟩;rw[qa,Vb]at w;walk_at"g";refine fin_same (q _ _ ⟨S.length,kv,rfl,zM,fun z hz=>?_⟩);rw[hzs]at hz;obtain⟨j,hj,ej⟩:=qK.mp hz;have gj:zs[j]?=some z:=by rw[qb hj,ej]
   have wl:=w.len;obtain⟨ys,hys⟩:∃ ys,Ls[j]?=some ys:=⟨_,qb (by lia)⟩
   refine⟨S.length+1+j,ys,vl j z gj,?_,w.nd ys (qd hys),fun y=>?_⟩
   ·rw[Ra,zQ,show 1+j=j+1 by lia,TX,qg (by rw[qa];exact zu hys),qi,hys];rfl
   ·rw[w.iff j z ys gj hys y];constructor
    ·rintro(z'|z')
     ·obtain⟨p1,p2⟩:=qp _ z';exact⟨(M8 nd p1).symm,p2⟩
     ·obtain⟨p1,p2⟩:=qp _ z';exact⟨M8 nd p1,Om p2⟩
    ·rintro⟨ne,aD⟩;have my:=(Og aD).2;rw[hzs]at my;rcases nO hz my (Ne.symm ne)with z'|z'
     ·exact .inl (qm _ z' aD)
     ·exact .inr (qm _ z' (Om aD))
def Av:ZX:=fun ds S Q=>∃ (x:D) (zs:List Str) (y:D) (V:Vl) (h:Int),ds=[x,y]/\Lst S x (zs.map D.str)/\YX V/\V.bs.map (·.1)=zs/\Wm S y V h/\∀ (T:Z7) (n:Nat) (ps:List (Str×Str)),(∀ p∈ps,p.1∈zs/\p.2∈zs/\p.1≠p.2/\¬ YK V h p.1 p.2)->ps.length<=144->(S++T)[n]?=some (.lst (ps.map Y4))->Q (.ref n) (S++T)
abbrev rF:DS :=
    (zj (zq (Ye zm) Ys)
 (zj (YJ (Zn Z4) YD (Za (dM K8 ZV (zc (Zf 1 [3,1] (Zn Z4) YT (Xw (dT (Z6 Yh Z4 Z0)) (dT (Z6 Qs Z4 (Vx ZV Z0)))) (dTup (zc Z0 Y5))) zm))))
 (zE ZV)))
def zjn:BodyOk 4 rF Av:=by
 rintro ds S Q ⟨x,zs,y,V,h,rfl,hx,ok,hzs,hn,q⟩;unfold rF;have b12:zs.length<=12:=by rw[<- hzs,qa];exact ok.b12
 have flz:∀ z∈zs,fl 20 (.str z)=true:=hzs▸ok.flN;have hx1:∀ T,Lst (S++T) x (zs.map D.str):=fun T=>hx.old
 walk_at"g";have hx2:=hx1 [.lst []];walk_at"g";walk_at"h";refine XM (fun i Z S'=>∃ (ps:List (Str×Str)) (G:Z7) (w3:Option D),S'=S++Cell.lst (ps.map Y4)::G/\Z=[some x,some y,some (.ref S.length),w3]/\ps.length<=12*i/\∀ p∈ps,p.1∈zs/\p.2∈zs/\p.1≠p.2/\¬ YK V h p.1 p.2) ⟨[],[],none,rfl,rfl,by simp,by simp⟩ (by rintro i Z S' ⟨_,_,_,e,_⟩;exact e▸hx.old) ?_ ?_
 ·rintro i d Z S' hd ⟨ps,G,w3,rfl,rfl,hl,hp⟩;obtain⟨a,ha,rfl⟩:=Xg hd;have ma:=qd ha;have li:=zu ha;obtain⟨m,ys,hg,hm,ynd,hy⟩:=Wm.get (hn.old (T:=Cell.lst (ps.map Y4)::G)) (hzs.symm▸ma);have fly:∀ z∈ys,fl 20 (.str z)=true:=fun z hz=>flz z (hzs▸(Og ((hy z).mp hz).2).2)
  have kx:=hx1 (Cell.lst (ps.map Y4)::G);obtain⟨S1,hS1⟩:∃ S1:Z7,S1=S++Cell.lst (ps.map Y4)::G:=⟨_,rfl⟩
  walk_at"g";rw[<- hS1]at kx hg hm ⊢;refine Xm (Xl fun z=>decide (z≠a/\z∉ys)) (Ke fun z=>Y4 (a,z)) kx (by rw[qa];unfold big;lia) (fun j d zs' hd' hw=>?_) ?_
  ·obtain⟨z,hz,rfl⟩:=Xg hd';have mz:=qd hz;walk_at"g";refine Rq (flz z mz) (flz a ma) ?_;walk_at"g";refine Xa (fun e=>?_) (fun e=>?_)
   ·walk_at"g";refine⟨_,hg,?_⟩;refine JB (.inr (Lst.here hm)) (flz z mz) fly ?_;walk_at"g";refine Xa (fun e2=>?_) (fun e2=>?_)
    ·walk_at"g";exact Xu hd' hw (decide_eq_true ⟨e,e2⟩) rfl
    ·walk_at"g";exact Wa hd' hw (decide_eq_false fun w=>w.2 e2)
   ·walk_at"g";exact Wa hd' hw (decide_eq_false fun w=>w.1 e)
  have ef:((zs.map D.str).filter (Xl fun z=>decide (z≠a/\z∉ys))).map (Ke fun z=>Y4 (a,z))=((zs.filter fun z=>decide (z≠a/\z∉ys)).map fun z=>(a,z)).map Y4:=by rw[Um,Yg,Yg];rfl
  rw[ef];obtain⟨rs,hrs⟩:∃ rs:List (Str×Str),rs=(zs.filter fun z=>decide (z≠a/\z∉ys)).map fun z=>(a,z):=⟨_,rfl⟩
  have lr:rs.length<=12:=by rw[hrs,qa];exact qW (Ve _ _) b12
  have mr:∀ p∈rs,p.1∈zs/\p.2∈zs/\p.1≠p.2/\¬ YK V h p.1 p.2:=fun p hp'=>by rw[hrs]at hp';obtain⟨z,hz,rfl⟩:=qC.mp hp';obtain⟨mz,e⟩:=qR.mp hz;have e:=of_decide_eq_true e;exact⟨ma,mz,Ne.symm e.1,fun aD=>e.2 ((hy z).mpr ⟨e.1,aD⟩)⟩
  rw[<- hrs,hS1];clear hrs ef;refine WT ?_;walk_at"g";refine uq (xs:=ps.map Y4) (ys:=rs.map Y4) zM OJ (by simp) (by rw[qa,qa];unfold big;lia) ?_;walk_at"g";refine⟨ps++rs,_,_,by rw[qB],rfl,by rw[qf];lia,fun p hp'=>?_⟩;rcases qE.mp hp' with z|z
  ·exact hp p z
  ·exact mr p z
 ·rintro Z S' ⟨ps,G,w3,rfl,rfl,hl,hp⟩;rw[qa]at hl;walk_at"g";exact fin_same (q _ _ ps hp (by lia) zM)
def Ah:ZX:=fun ds S Q=>∃ (v:D) (V:Vl) (h:Int) (a b:Str),ds=[v,.int h,.str a,.str b]/\Ze S v V/\YX V/\a∈V.bs.map (·.1)/\b∈V.bs.map (·.1)/\V.h0<=h/\h<=V.h1/\¬ YK V h a b/\Q .non S
abbrev wY:DS :=(ZD (dT (Z6 KC (X8 Jy xF (zc Z4 (zc ZV (zc ZS Yy)))) (dC .non))) Yl zK)
def zf5:BodyOk 4 wY Ah:=by
  rintro ds S Q ⟨v,V,h,a,b,rfl,hv,ok,ma,mb,h0,h1,no,q⟩;unfold wY;obtain⟨ba,hba,rfl⟩:=qC.mp ma;obtain⟨bb,hbb,rfl⟩:=qC.mp mb;walk_at"g";refine⟨v,V,_,_,h,rfl,hv,ok,ok.flN _ ma,ok.flN _ mb,fun n=>?_,fun s t hs ht=>⟨fun n=>absurd ⟨h0,h1⟩ n,fun _ _ e he=>?_⟩⟩
  . rcases n with n|n
    . exact n _ hba rfl
    . exact n _ hbb rfl
  have en:Xr e=false:=by
    have e1:Xr e=true↔e=.non:=by cases e<;>simp[Xr]
    cases hg:Xr e with
    |false=>rfl
    |true=>exact absurd ⟨s,t,hs,ht,he.non.mp (e1.mp hg)⟩ no
  walk_at"g";rw[en];walk_at"g";exact fin_same q
def BK:ZX:=fun ds S Q=>∃ (v:D) (V:Vl) (a b:Str),ds=[v,.str a,.str b]/\Ze S v V/\YX V/\fl 20 (.str a)=true/\fl 20 (.str b)=true/\∀ (T:Z7) (n:Nat),(S++T)[n]?=some (.lst ((W8 a b (V.bs.map (·.1))).map D.str))->S.length<=n->Q (.ref n) (S++T)
abbrev pD:DS :=(zE (Zf 1 [1,2] (Zn (dCall RB Y5)) YT (Xw (dT (Z6 Yh Z4 Z0)) (dT (Z6 Yh Z4 ZV))) Z4))
def zhs:BodyOk 3 pD BK:=by
 rintro ds S Q ⟨v,V,a,b,rfl,hv,ok,fa,fb,q⟩;unfold pD;have b12:=ok.b12;have flz:=ok.flN;walk_at"g";refine⟨v,V,rfl,hv,by lia,?_⟩;have lz:(V.bs.map (·.1)).length<=12:=by rw[qa];exact b12
 generalize V.bs.map (·.1)=zs at flz lz q;walk_at"g";refine Xm (Xl fun z=>decide (z≠a/\z≠b)) id Lst.at0 (by rw[qa];unfold big;lia) (fun j d zs' hd' hw=>?_) ?_
 ·obtain⟨z,hz,rfl⟩:=Xg hd';have mz:=qd hz;walk_at"g";refine Rq (flz z mz) fa ?_;walk_at"g";refine Xa (fun e=>?_) (fun e=>?_)
  ·walk_at"g";refine Rq (flz z mz) fb ?_;walk_at"g";refine Xa (fun e2=>?_) (fun e2=>?_)
   ·walk_at"g";exact Xu hd' hw (decide_eq_true ⟨e,e2⟩) rfl
   ·walk_at"g";exact Wa hd' hw (decide_eq_false fun w=>w.2 e2)
  ·walk_at"g";exact Wa hd' hw (decide_eq_false fun w=>w.1 e)
 rw[vX];exact Ar (fin_same (q _ _ ((zQ _ _ 1).trans rfl) (by lia)))
def Cg:ZX:=fun ds S Q=>∃ (v:D) (V:Vl) (h:Int) (s t:Nat) (zs:List Str),ds=[v,.int h,.str (Z5 zs s),.str (Z5 zs t)]/\Ze S v V/\YX V/\zs=V.bs.map (·.1)/\s<zs.length/\t<zs.length/\V.h0<=h/\h<=V.h1 /\
 ∀ (T:Z7) (n e:Nat),Zt zs (Ry V h s t zs) (Y9 (ZM V h s t))->(S++T)[n]?=some (.dn (Ry V h s t zs) e)->S.length<=n->Q (.ref n) (S++T)
def Ni (zs os:List Str):Pt->Pt->Int:=fun p q=>if p.2=false/\q.2=true/\p.1=q.1/\Z5 zs p.1∈os then 1 else 0
def HN (zs os:List Str)(qs:List (Str×Str)):Pt->Pt->Int:=fun p q=>if p.2=true/\q.2=false/\((Z5 zs p.1,Z5 zs q.1)∈qs\/(Z5 zs q.1,Z5 zs p.1)∈qs)then zs.length else Ni zs os p q
abbrev yc:DS :=
    (zj (zq (Lx) YH)
 (zj (YJ (Zn (dCall BK (zc Z4 (zc ZV X4)))) Yt (Tj Zy (dTup (zc (dTup (zc Y6 (zc ZF zm))) (zc (dTup (zc Y6 (zc ZJ zm))) zm))) ZJ))
 (zj (zq (dB Zg (zc (dCall RB Y5) zm)) VN)
 (zj (YJ (Zn (X8 Jz xF (zc Z4 Yy))) (YL 2 (zJ Tn (zJ JF YW))) (zj (Tj Zy (dTup (zc (dTup (zc Vs (zc ZJ zm))) (zc (dTup (zc Qi (zc ZF zm))) zm))) W7)
 (Tj Zy (dTup (zc (dTup (zc Qi (zc ZJ zm))) (zc (dTup (zc Vs (zc ZF zm))) zm))) W7)))
 (zE Zy)))))
def zf0:BodyOk 9 yc Cg:=by
  rintro ds S Q ⟨v,V,h,s,t,zs,rfl,hv,ok,hzs,hs,ht,h0,h1,q⟩;unfold yc;have nd:zs.Nodup:=hzs▸ok.nd;have flz:∀ z∈zs,fl 20 (.str z)=true:=hzs▸ok.flN;have h12:zs.length<=12:=by rw[hzs,qa];exact ok.b12
  have mz:∀ {i},i<zs.length->Z5 zs i∈zs:=fun hi=>qd (VG hi)
  have ix:∀ {z},z∈zs->∃ j,j<zs.length/\Z5 zs j=z:=fun hz=>by obtain⟨j,hj,e⟩:=qK.mp hz;exact⟨j,hj,Qf (by rw[qb hj,e])⟩
  walk_at"g";refine⟨v,V,_,_,rfl,hv.old,ok,flz _ (mz hs),flz _ (mz ht),fun T n hn ln=>?_⟩;rw[<- hzs]at hn;have mo:∀ z,z∈W8 (Z5 zs s) (Z5 zs t) zs↔z∈zs/\z≠Z5 zs s/\z≠Z5 zs t:=fun z=>by unfold W8;rw[qR,decide_eq_true_eq]
  have lo:(W8 (Z5 zs s) (Z5 zs t) zs).length<=12:=qW (Ve _ _) h12;obtain⟨os,hos⟩:∃ os,W8 (Z5 zs s) (Z5 zs t) zs=os:=⟨_,rfl⟩
  rw[hos]at hn mo lo;obtain⟨m,rfl⟩:∃ m,n=S.length+(m+1):=⟨n-S.length-1,by simp at ln;lia⟩
  rw[qk,zQ]at hn;have hT:T[m]?=some (.lst (os.map D.str)):=hn;clear hn ln;have ko:∀ c G,Lst (S++c::(T++G)) (.ref (S.length+(m+1))) (os.map D.str):=fun c G=>Lst.here (by rw[zQ];exact zy hT)
  have hv1:∀ c G,Ze (S++c::G) v V:=fun c G=>hv.old
  walk_at"g";rw[qk];have ko0:=ko (.dn [] 0) [];rw[qY]at ko0;walk_at"g";walk_at"h";refine XM (fun i Z S'=>∃ Z8 e,S'=S++.dn Z8 e::T/\(∃ w5 w6 w7 w8,Z=[some v,some (.int h),some (.str (Z5 zs s)),some (.str (Z5 zs t)),some (.ref S.length),w5,w6,w7,w8])/\Z8=kO (os.take i)/\Zt zs Z8 (Ni zs (os.take i))) ⟨[],0,rfl,⟨_,_,_,_,rfl⟩,rfl,Zt.nil.cg fun p q _ _=>by unfold Ni;rw[if_neg (by simp)]⟩ (by rintro i Z S' ⟨Z8,e,e1,_⟩;exact by rw[e1];have:=ko (.dn Z8 e) [];rwa[qY]at this) ?_ ?_
  . rintro i d Z S' hd ⟨Z8,e,rfl,⟨w5,w6,w7,w8,rfl⟩,ek,R⟩;obtain⟨z,hz,rfl⟩:=Xg hd;obtain⟨m1,_⟩:=(mo z).mp (qd hz);obtain⟨j,hj,rfl⟩:=ix m1;walk_at"g";refine R.putsE (p:=(j,false)) (q:=(j,true)) nd h12 zM hj hj fun e' R'=>?_
    refine W2 ?_;rw[O8];walk_at"g";refine⟨_,e',rfl,⟨_,_,_,_,rfl⟩,by rw[ek,WY hz];unfold kO;rw[List.foldl_append];rfl,R'.cg fun p q hp hq=>?_⟩;unfold Wg Ni;rw[WY hz];by_cases e1:p=(j,false)/\q=(j,true)
    . obtain⟨rfl,rfl⟩:=e1;rw[if_pos ⟨rfl,rfl⟩,if_pos ⟨rfl,rfl,rfl,by simp⟩]
    . rw[if_neg e1];by_cases e2:p.2=false/\q.2=true/\p.1=q.1/\Z5 zs p.1∈os.take i
      . rw[if_pos e2,if_pos ⟨e2.1,e2.2.1,e2.2.2.1,V3 _ e2.2.2.2⟩]
      . rw[if_neg e2,if_neg];rintro⟨g1,g2,g3,g4⟩;rcases qE.mp g4 with g4|g4
        . exact e2 ⟨g1,g2,g3,g4⟩
        . have e3:=Xp nd hp hj (qT.mp g4);exact e1 ⟨Tz e3 g1,Tz (g3▸e3) g2⟩
  . rintro Z S' ⟨Z8,e,rfl,⟨w5,w6,w7,w8,rfl⟩,ek,R⟩;rw[qa,Vb]at R ek;walk_at"g";refine⟨v,V,rfl,hv1 _ _,by have:=ok.b12;lia,?_⟩;rw[<- hzs];walk_at"g";refine⟨v,V,h,rfl,hv1 _ _,ok,fun no=>absurd ⟨h0,h1⟩ no,fun _ _ T2 n2 qs hq hn2 ln2=>?_⟩;rw[<- hzs]at hq;have hq:=kZ ok (fun p hp=>hzs▸Vz hp) hq;have mq:∀ p,p∈qs↔p∈prs zs/\YK V h p.1 p.2:=fun p=>by rw[hq,qR,LR]
    have lq:qs.length<=144:=by have a1:=Ve (Sh V h) (prs zs);have a2:=K7 zs;have a3:zs.length*zs.length<=12*12:=Lw h12 h12;rw[<- hq]at a1;lia
    obtain⟨G,hG⟩:∃ G:Z7,T++([Cell.lst (zs.map D.str)]++T2)=G:=⟨_,rfl⟩
    have eS:∀ c:Cell,S++(c::T++[Cell.lst (zs.map D.str)])++T2=S++c::G:=fun c=>by rw[<- hG];simp
    rw[eS]at hn2 ⊢;obtain⟨m2,rfl⟩:∃ m,n2=S.length+(m+1):=⟨n2-S.length-1,by simp at ln2;lia⟩
    rw[zQ]at hn2;have hT2:G[m2]?=some (.lst (qs.map Y4)):=hn2;have kq:∀ c,Lst (S++c::G) (.ref (S.length+(m2+1))) (qs.map Y4):=fun c=>Lst.here (by rw[zQ];exact hT2)
    have kq0:=kq (.dn Z8 e);clear hn2 ln2 hG eS hT ko ko0;walk_at"g";walk_at"h";refine XM (fun i Z S'=>∃ Z8 e,S'=S++.dn Z8 e::G/\(∃ w7 w8,Z=[some v,some (.int h),some (.str (Z5 zs s)),some (.str (Z5 zs t)),some (.ref S.length),w5,some (.int zs.length),w7,w8])/\Z8=kQ zs.length (qs.take i) (kO os)/\Zt zs Z8 (HN zs os (qs.take i))) ⟨Z8,e,rfl,⟨_,_,by rw[qa]⟩,ek,R.cg fun p q _ _=>by unfold HN;rw[if_neg (by simp)]⟩ (by rintro i Z S' ⟨Z8,e,e1,_⟩;exact by rw[e1];exact kq _) ?_ ?_
    . rintro i d Z S' hd ⟨Z8,e,rfl,⟨w7,w8,rfl⟩,ek,R⟩;obtain⟨⟨x,y⟩,hp,rfl⟩:=Ay hd;obtain⟨m1,m3⟩:=Vz ((mq _).mp (qd hp)).1;obtain⟨j,hj,rfl⟩:=ix m1;obtain⟨k,hk,rfl⟩:=ix m3;walk_at"g";refine R.putsE (p:=(j,true)) (q:=(k,false)) nd h12 zM hj hk fun e1 R1=>?_
      refine W2 ?_;rw[O8];walk_at"g";refine R1.putsE (p:=(k,true)) (q:=(j,false)) nd h12 zM hk hj fun e2 R2=>?_
      refine W2 ?_;rw[O8];walk_at"g";refine⟨_,e2,rfl,⟨_,_,rfl⟩,by rw[ek,WY hp];unfold kQ;rw[List.foldl_append];rfl,R2.cg fun p q hp' hq'=>?_⟩;unfold Wg HN;rw[WY hp];have inj:∀ {a b:Nat},a<zs.length->b<zs.length->Z5 zs a=Z5 zs b->a=b:=fun ha hb=>Xp nd ha hb
      by_cases g1:p=(k,true)/\q=(j,false)
      . obtain⟨rfl,rfl⟩:=g1;rw[if_pos ⟨rfl,rfl⟩,if_pos ⟨rfl,rfl,.inr (by simp)⟩]
      rw[if_neg g1];by_cases g2:p=(j,true)/\q=(k,false)
      . obtain⟨rfl,rfl⟩:=g2;rw[if_pos ⟨rfl,rfl⟩,if_pos ⟨rfl,rfl,.inl (by simp)⟩]
      rw[if_neg g2];by_cases g3:p.2=true/\q.2=false/\((Z5 zs p.1,Z5 zs q.1)∈qs.take i\/(Z5 zs q.1,Z5 zs p.1)∈qs.take i)
      . rw[if_pos g3,if_pos ⟨g3.1,g3.2.1,g3.2.2.imp (fun z=>V3 _ z) fun z=>V3 _ z⟩]
      . rw[if_neg g3,if_neg];rintro⟨c1,c2,c3⟩;rcases c3 with c3|c3
        . rcases qE.mp c3 with c3|c3
          . exact g3 ⟨c1,c2,.inl c3⟩
          . obtain⟨d1,d2⟩:=X3 (qT.mp c3);exact g2 ⟨Tz (inj hp' hj d1) c1,Tz (inj hq' hk d2) c2⟩
        . rcases qE.mp c3 with c3|c3
          . exact g3 ⟨c1,c2,.inr c3⟩
          . obtain⟨d1,d2⟩:=X3 (qT.mp c3);exact g1 ⟨Tz (inj hp' hk d2) c1,Tz (inj hq' hj d1) c2⟩
    . rintro Z S' ⟨Z8,e,rfl,⟨w7,w8,rfl⟩,ek,R⟩;rw[qa,Vb]at R ek;have ek:Z8=Ry V h s t zs:=by rw[ek,hq,<- hos];rfl
      subst ek;walk_at"g";refine fin_same (q _ _ e (R.cg fun p q hp hq=>?_) zM (qh _));obtain⟨a,x⟩:=p;obtain⟨b,y⟩:=q;have hp:a<zs.length:=hp;have hq:b<zs.length:=hq;unfold HN Ni;cases x<;>cases y
      . rw[if_neg (by simp),if_neg (by simp)];rfl
      . rw[if_neg (by simp),RW]
        have:(a=b/\Z5 zs a∈os)↔(a=b/\a≠s/\a≠t/\a<zs.length):=and_congr_right fun _=>by rw[mo];exact⟨fun z=>⟨fun e=>z.2.1 (by rw[e]),fun e=>z.2.2 (by rw[e]),hp⟩,fun z=>⟨mz hp,fun e=>z.1 (Xp nd hp hs e),fun e=>z.2.1 (Xp nd hp ht e)⟩⟩
        by_cases g:a=b/\Z5 zs a∈os
        . rw[if_pos ⟨rfl,rfl,g⟩,if_pos (by have:=this.mp g;rw[hzs]at this;exact this)]
        . rw[if_neg (fun z=>g z.2.2),if_neg (fun z=>g (this.mpr (by rw[hzs];exact z)))]
      . rw[Tv]
        have:((Z5 zs a,Z5 zs b)∈qs\/(Z5 zs b,Z5 zs a)∈qs)↔(ZM V h s t).adj a b=true:=by
          rw[UG,<- hzs,mq,mq];constructor
          . rintro(⟨z1,z2⟩|⟨z1,z2⟩)
            . exact⟨fun e=>M8 nd z1 (by rw[e]),hp,hq,z2⟩
            . exact⟨fun e=>M8 nd z1 (by rw[e]),hp,hq,Om z2⟩
          . rintro⟨z1,_,_,z2⟩;exact(nO (mz hp) (mz hq) fun e=>z1 (Xp nd hp hq e)).imp (fun z=>⟨z,z2⟩) fun z=>⟨z,Om z2⟩
        by_cases g:(Z5 zs a,Z5 zs b)∈qs\/(Z5 zs b,Z5 zs a)∈qs
        . rw[if_pos ⟨rfl,rfl,g⟩,if_pos (this.mp g),hzs];rfl
        . rw[if_neg (fun z=>g z.2.2),if_neg (by simp),if_neg (fun z=>g (this.mpr z))]
      . rw[if_neg (by simp),if_neg (by simp)];rfl
def KQ:ZX:=fun ds S Q=>∃ (r e:Nat) (Z8:List (List (List SK)×D)) (zs:List Str) (c:Pt->Pt->Int) (st:Pt),ds=[.ref r,Zd zs st]/\S[r]?=some (.dn Z8 e)/\Zt zs Z8 c/\zs.Nodup/\zs.length<=12/\(∀ z∈zs,fl 20 (.str z)=true)/\st.1<zs.length/\(∀ p q,0<c p q->p.1<zs.length/\q.1<zs.length) /\
 ∀ (T:Z7) (n:Nat) (fo:List (Pt×Option Pt)),Bf c st fo [] (fun _ _=>True)->Pf zs Z8 st fo->(∀ x∈fo.map (·.1),x.1<zs.length)->(S++T)[n]?=some (.dt (fo.map (fk zs)))->S.length<=n->Q (.ref n) (S++T)
abbrev xG:DS :=
    (zj (zq (Lr Z0 (dC .non)) Ys)
 (zj (zq (Ye Yy) YD)
 (zj (Vo (dT (Z6 XS (dB Zg X4) ZF)) (zj (zq (dM Ht ZS (zc ZF zm)) YH)
 (YJ (JV Z4) (YL 2 (zJ Yt (zJ VN YW))) (ZD (Xw (dT (Z6 oEq zwt Zy)) (Xw (dT (Z6 XS W7 ZF)) (dT (Ql Gd ZV)))) (zj (Nb ZV Gd Zy)
 (Za (dM Vu ZS (zc Gd zm)))) zK))))
 (zE ZV))))
def þ:BodyOk 7 xG KQ:=by
 rintro ds S Q ⟨r,e,Z8,zs,c,st,rfl,hr,R,nd,h12,flz,hst,rng,q⟩;unfold xG;have hrT:∀ T,(S++T)[r]?=some (.dn Z8 e):=fun T=>zy hr
 have s21:∀ a b c:Cell,[a,b].set 1 c=[a,c]:=fun _ _ _=>rfl
 have k1:∀ c d:Cell,(S++[c,d])[S.length+1]?=some d:=fun c d=>(zQ _ _ 1).trans rfl
 walk_at"g";refine⟨kp zs st,rfl,zM,?_⟩;rw[O8];walk_at"g";walk_at"h";refine Rn (fun m Z S'=>∃ (fo:List (Pt×Option Pt)) (wt:List Pt),S'=S++[.dt (fo.map (fk zs)),.lst (wt.map (Zd zs))]/\(∃ w4 w5 w6,Z=[some (.ref r),some (Zd zs st),some (.ref S.length),some (.ref (S.length+1)),w4,w5,w6])/\Bf c st fo wt (fun _ _=>True)/\Goes (Q9 zs Z8) ([(st,none)],[st]) (fo,wt)/\(∀ x∈fo.map (·.1),x.1<zs.length)/\m=2*(2*zs.length-fo.length)+wt.length) _ ⟨[(st,none)],[st],rfl,⟨_,_,_,rfl⟩,Bf.start,.refl,fun x hx=>by rw[qT.mp hx];exact hst,rfl⟩ ?_;rintro m Z S' ⟨fo,wt,rfl,⟨w4,w5,w6,rfl⟩,B,gP,lt,rfl⟩;walk_at"g";refine Zi (fun c0=>?_) (fun c0=>?_)
 case refine_2 =>have e0:wt=[]:=Cm.mp (by rw[qa]at c0;lia);subst e0;walk_at"g";exact fin_same (q _ _ fo B gP lt zM (qh _))
 obtain⟨p,wt,rfl⟩:∃ p w,wt=p::w:=by
  cases wt with
  |nil=>exact absurd c0 (by simp)
  |cons p w=>exact⟨p,w,rfl⟩
 obtain⟨B1,mp,np⟩:=B.pop;have hp:=lt p mp;walk_at"g";refine zsW (xs:=wt.map (Zd zs)) ((zQ _ _ 1).trans rfl) (uG ?_);rw[s21];walk_at"g";refine⟨r,Z8,e,rfl,hrT _,?_⟩;walk_at"h";have fl2:=Gw B lt;obtain⟨fo',hfo'⟩:∃ fo':List (Pt×Option Pt),fo'=fo:=⟨_,rfl⟩
 obtain⟨wt0,hwt0⟩:∃ wt0:List Pt,wt0=wt:=⟨_,rfl⟩
 refine XM (fun i Z S'=>∃ (fo:List (Pt×Option Pt)) (wt':List Pt),S'=S++[.dt (fo.map (fk zs)),.lst (wt'.map (Zd zs))]/\(∃ w5 w6,Z=[some (.ref r),some (Zd zs st),some (.ref S.length),some (.ref (S.length+1)),some (Zd zs p),w5,w6])/\Bf c st fo wt' (fun a b=>a≠p\/∃ (k:Nat) (x:List (List SK)×D),k<i/\Z8[k]?=some x/\x.1=[kp zs a,kp zs b])/\p∈fo.map (·.1)/\Goes (Sd zs Z8 p) (0,(fo',wt0)) (i,(fo,wt'))/\(∀ x∈fo.map (·.1),x.1<zs.length)/\2*(2*zs.length-fo.length)+wt'.length+1<=2*(2*zs.length-fo'.length)+(wt.length+1)) ⟨fo,wt,rfl,⟨_,_,rfl⟩,B1.re fun a q hd _=>.inl ?_,mp,by rw[hfo',hwt0];exact .refl,lt,by rw[hfo'];lia⟩ (by rintro i Z S' ⟨_,_,e1,_⟩;exact by rw[e1];exact hrT _) ?_ ?_
 ·rcases hd with z|⟨k,x,hk,_⟩
  ·exact⟨z,True.intro⟩
  ·exact absurd hk (Nat.not_lt_zero _)
 ·clear B B1 lt mp np fl2 c0;rintro i d Z S' hd ⟨fo,wt',rfl,⟨w5,w6,rfl⟩,B,mp,gI,lt,hm⟩;rw[qi]at hd;obtain⟨x,hx,ed⟩:=qV.mp hd;obtain⟨a,b,ha,hb,rfl⟩:=R.ky x (qd hx);have ed:d=.tup [.tup [Zd zs a,Zd zs b],.int (c a b)]:=ed.symm;subst ed;have fl2:=Gw B lt;have nI:∀ {s:FW},Ac p (fo,wt') a b (c a b)=s->Goes (Sd zs Z8 p) (0,(fo',wt0)) (i+1,s):=fun {s} e=>.step gI ⟨a,b,c a b,hx,ha,hb,by rw[<- e]⟩
  have nx:∀ {fo2:List (Pt×Option Pt)} {wt2:List Pt},Bf c st fo2 wt2 (fun a b=>a≠p\/∃ (k:Nat) (x:List (List SK)×D),k<i/\Z8[k]?=some x/\x.1=[kp zs a,kp zs b])->(a=p->0<c a b->b∈fo2.map (·.1))->Bf c st fo2 wt2 (fun a b=>a≠p\/∃ (k:Nat) (x:List (List SK)×D),k<i+1/\Z8[k]?=some x/\x.1=[kp zs a,kp zs b]):=fun {fo2 wt2} B2 h2=>B2.re fun a' b' hd hc=>by
   rcases hd with z|⟨k,x,hk,hx',ex⟩
   ·exact .inl (.inl z)
   ·by_cases g:k<i
    ·exact .inl (.inr ⟨k,x,g,hx',ex⟩)
    ·have:k=i:=by lia
     subst this;rw[hx]at hx';cases hx';obtain⟨l1,l2⟩:=rng _ _ hc;obtain⟨rfl,rfl⟩:=Bq nd ha hb l1 l2 ex;by_cases g2:a=p
     ·exact .inr (h2 g2 hc)
     ·exact .inl (.inl g2)
  walk_at"g";refine aL nd flz ha hp ?_;walk_at"g";have skip:(a=p->0<c a b->b∈fo.map (·.1))->_:=fun z=>nx B z
  refine Zi (fun g1=>?_) (fun g1=>?_)
  case refine_2 =>walk_at"g";exact⟨fo,wt',rfl,⟨_,_,rfl⟩,nx B fun z=>absurd z g1,mp,nI (if_neg fun z=>g1 z.1),lt,hm⟩
  subst g1;walk_at"g";refine Zi (fun g2=>?_) (fun g2=>?_)
  case refine_2 =>walk_at"g";exact⟨fo,wt',rfl,⟨_,_,rfl⟩,nx B fun _ z=>absurd z g2,mp,nI (if_neg fun z=>g2 z.2.1),lt,hm⟩
  walk_at"g";by_cases g3:b∈fo.map (·.1)
  ·obtain⟨⟨b',o⟩,hmem,eb⟩:=qC.mp g3;have eb:b'=b:=eb;subst eb;refine⟨_,Zj.t (ks:=kp zs b') zM ((UJ nd hb lt B.nd o).1 hmem),?_⟩;walk_at"g";rw[if_neg (by simp)];walk_at"g";exact⟨fo,wt',rfl,⟨_,_,rfl⟩,nx B fun _ _=>g3,mp,nI (if_neg fun z=>z.2.2 g3),lt,hm⟩
  ·refine⟨_,Zj.t (ks:=kp zs b) zM ((UJ nd hb lt B.nd none).2 g3),?_⟩;walk_at"g";rw[if_pos (by rfl)];walk_at"g";have lfo:(fo.map (fk zs)).length<big:=by rw[qa];unfold big;lia
   have lwt:(wt'.map (Zd zs)).length<big:=by have:=QD B.wn B.wf;rw[qa]at this;rw[qa];unfold big;lia
   refine Ti.t (ks:=kp zs b) zM lfo ?_;rw[zv3 nd hb lt B.nd g3];refine W2 ?_;rw[O8];walk_at"g";rw[s21];have B2:=B.add mp g3 g2;refine⟨fo++[(b,some a)],wt'++[b],by rw[qB (l₁:=wt')];rfl,⟨_,_,rfl⟩,nx B2 fun _ _=>?_,?_,nI (if_pos ⟨rfl,g2,g3⟩),?_,?_⟩
   ·rw[qB];exact qL _ (by simp)
   ·rw[qB];exact V3 _ mp
   ·intro x hx';rw[qB]at hx';rcases qE.mp hx' with z|z
    ·exact lt x z
    ·have:x=b:=by simpa using z
     rw[this];exact hb
   ·have:=Gw B2 (zs:=zs) (fun x hx'=>by
     rw[qB]at hx';rcases qE.mp hx' with z|z
     ·exact lt x z
     ·have:x=b:=by simpa using z
      rw[this];exact hb)
    rw[qf,qM]at this ⊢;rw[qf,qM];lia
 ·rintro Z S' ⟨fo,wt',rfl,⟨w5,w6,rfl⟩,B,mp,gI,lt,hm⟩;rw[qa]at B gI;walk_at"g";refine⟨_,?_,fo,wt',rfl,⟨_,_,_,rfl⟩,B.re fun a q _ hc=>.inl ?_,.step gP ⟨p,wt,rfl,by rw[hfo',hwt0]at gI;exact gI⟩,lt,rfl⟩
  ·rw[<- hfo'];lia
  ·by_cases g:a=p
   ·right;subst g;obtain⟨l1,l2⟩:=rng _ _ hc;rcases R.get nd l1 l2 with⟨_,z⟩|z
    ·lia
    ·obtain⟨k,hk⟩:=qS.mp (vh z);exact⟨k,_,zu hk,hk,rfl⟩
   ·exact .inl g
def BX:ZX:=fun ds S Q=>∃ (r f e:Nat) (Z8:List (List (List SK)×D)) (zs:List Str) (W:Wb) (c:Pt->Pt->Int) (k:Int) (fo:List (Pt×Option Pt)),ds=[.ref r,.ref f,Zd zs (Y7 W)]/\S[r]?=some (.dn Z8 e)/\S[f]?=some (.dt (fo.map (fk zs)))/\Zt zs Z8 c/\zs.Nodup/\zs.length<=12/\W.n=zs.length/\ZK W c k/\Bf c (src W) fo [] (fun _ _=>True)/\(∀ x∈fo.map (·.1),x.1<zs.length)/\Y7 W∈fo.map (·.1) /\
 ∀ kvs' e' c',Tk zs fo (Y7 W) Z8 kvs'->Zt zs kvs' c'->ZK W c' (k+1)->Q .non (S.set r (.dn kvs' e'))
abbrev yZ:DS :=
    (zj (zq ZV YD)
 (Vo (dT (Z6 Wi (Vx Z0 ZS) (dC .non))) (zj (zq (Vx Z0 ZS) YH)
 (zj (Tj Z4 (dTup (zc Zy X4)) (Z6 Zh (Vx Z4 (dTup (zc Zy X4))) ZJ))
 (zj (Tj Z4 (dTup (zc ZS PL)) (Z6 Zo (Lp Z4 (dTup (zc ZS PL)) ZF) ZJ))
 (zq Zy YD))))))
def zja:BodyOk 5 yZ BX:=by
 rintro ds S Q ⟨r,f,e,Z8,zs,W,c,k,fo,rfl,hr,hf,R,nd,h12,hW,F,B,lt,mg,q⟩;unfold yZ;have lr:=zu hr;have ne:r≠f:=fun e=>by subst e;rw[hr]at hf;cases hf
 have hr1:∀ x:Cell,(S.set r x)[r]?=some x:=fun x=>qU lr
 have hf1:∀ x:Cell,(S.set r x)[f]?=some (.dt (fo.map (fk zs))):=fun x=>by rw[qP ne];exact hf
 have s2:∀ x y:Cell,(S.set r x).set r y=S.set r y:=fun x y=>List.set_set ..
 have e0:S=S.set r (.dn Z8 e):=by
  refine Jx fun i=>?_
  by_cases h:i=r
  ·subst h;rw[hr1,hr]
  ·rw[qP (Ne.symm h)]
 obtain⟨⟨g,o⟩,hm,eg⟩:=qC.mp mg;obtain⟨i,hi⟩:=qS.mp hm;have eg:g=Y7 W:=eg;subst eg;walk_at"g";walk_at"h";refine Rn (fun m Z S'=>∃ (kvs':List (List (List SK)×D)) (e':Nat) (c':Pt->Pt->Int) (p:Pt) (o:Option Pt),S'=S.set r (.dn kvs' e')/\(∃ w4,Z=[some (.ref r),some (.ref f),some (Zd zs (Y7 W)),some (Zd zs p),w4])/\Zt zs kvs' c'/\Goes (QF zs fo) (Z8,Y7 W) (kvs',p)/\Qj W c c' k fo m p o) i ⟨Z8,e,c,Y7 W,o,e0,⟨_,rfl⟩,R,.refl,⟨F.start,hi,fun _ _ _ _=>rfl⟩⟩ ?_;rintro m Z S' ⟨kvs',e',c',p,o,rfl,⟨w4,rfl⟩,R',gT,T⟩;have mp:p∈fo.map (·.1):=qC.mpr ⟨_,qd T.at',rfl⟩;have hp:=lt p mp;have hg:∀ x:Cell,Zj (S.set r x) (.ref f) (Zd zs p) (some (fk zs (p,o)).2):=fun x=>Zj.t (ks:=kp zs p) (hf1 x) ((UJ nd hp lt B.nd o).1 (qd T.at'))
 walk_at"g";refine⟨_,hg _,?_⟩;cases o with
 |none =>walk_at"g";have e1:=T.last B;subst e1;exact fin_same (q _ _ _ ⟨_,gT,qd T.at'⟩ R' T.p.end)
 |some a =>
  obtain⟨j,o',l,na,ec,hc,T'⟩:=T.step B (fun x hx=>by rw[hW];exact lt x hx);have ha:a.1<zs.length:=lt a (qC.mpr ⟨_,qd T'.at',rfl⟩);walk_at"g";have hv:(fk zs (p,some a)).2=Zd zs a:=rfl;rw[hv]at hg ⊢;rw[show Xr (Zd zs a)=false from rfl];walk_at"g";refine⟨_,hg _,?_⟩;walk_at"g";have d1:dval kvs' [kp zs a,kp zs p]=some (.int (c' a p)):=(R'.get nd ha hp).resolve_left fun z=>by have:=z.2;lia
  obtain⟨o1,g1,_,g2⟩:=R'.gets nd (hr1 (.dn kvs' e')) ha hp;have g2:=g2 (by rw[ec];lia);subst g2;refine⟨_,g1,?_⟩;walk_at"g";refine R'.putsE (p:=a) (q:=p) nd h12 (hr1 _) ha hp fun e1 R1=>?_
  refine W2 ?_;rw[s2];walk_at"g";refine⟨⟨r,rfl,.inr (.inr ⟨_,e1,hr1 _⟩)⟩,?_⟩;walk_at"g";obtain⟨o2,g3,g4,_⟩:=R1.gets nd (hr1 (.dn _ e1)) hp ha
  have d2:(dval (dput kvs' [kp zs a,kp zs p] (.int (c' a p-1))) [kp zs p,kp zs a]).getD (.int 0)=.int (c' p a):=by
   rw[<- show Wg c' a p (c' a p-1) p a=c' p a from if_neg fun z=>na z.2];rcases R1.get nd hp ha with⟨z1,z2⟩|z
   ·rw[z1,z2];rfl
   ·rw[z];rfl
  refine⟨_,g3,?_⟩;rw[g4,show Wg c' a p (c' a p-1) p a=c' p a from if_neg fun z=>na z.2];walk_at"g";refine R1.putsE (p:=p) (q:=a) nd h12 (hr1 _) hp ha fun e2 R2=>?_
  refine W2 ?_;rw[s2];rw[Ź na]at R2;walk_at"g";exact⟨j,l,_,e2,_,a,o',rfl,⟨_,rfl⟩,R2,.step gT ⟨a,_,_,qd T.at',d1,d2,rfl⟩,T'⟩
def Ft:ZX:=fun ds S Q=>∃ (v:D) (V:Vl) (h:Int) (s t:Nat) (zs:List Str),ds=[v,.int h,.str (Z5 zs s),.str (Z5 zs t)]/\Ze S v V/\YX V/\zs=V.bs.map (·.1)/\s<zs.length/\t<zs.length/\V.h0<=h/\h<=V.h1/\¬ YK V h (Z5 zs s) (Z5 zs t) /\
 ∀ (T:Z7) (n e:Nat) Z8 c k,La zs (s,true) (t,false) (Ry V h s t zs) Z8->Zt zs Z8 c->ZK (ZM V h s t) c k->(∀ fo,Bf c (s,true) fo [] (fun _ _=>True)->(t,false)∉fo.map (·.1))->(S++T)[n]?=some (.dn Z8 e)->S.length<=n->Q (.ref n) (S++T)
abbrev wD:DS :=
    (zj (zq (dCall Cg (zc Z4 (zc Z0 (zc ZV X4)))) YH)
 (zj (zq (dCall KQ (zc Zy (zc (dTup (zc ZV (zc ZJ zm))) zm))) Yt)
 (zj (Vo (dT (Oh (dTup (zc ZS (zc ZF zm))) Y6)) (zj (Za (dCall BX (zc Zy (zc Y6 (zc (dTup (zc ZS (zc ZF zm))) zm)))))
 (zq (dCall KQ (zc Zy (zc (dTup (zc ZV (zc ZJ zm))) zm))) Yt)))
 (zE Zy))))
def Ī:BodyOk 6 wD Ft:=by
 rintro ds S Q ⟨v,V,h,s,t,zs,rfl,hv,ok,hzs,hs,ht,h0,h1,no,q⟩;unfold wD;have nd:zs.Nodup:=hzs▸ok.nd;have flz:∀ z∈zs,fl 20 (.str z)=true:=hzs▸ok.flN;have h12:zs.length<=12:=by rw[hzs,qa];exact ok.b12
 have okW:Zv (ZM V h s t):=Ga (hzs▸hs) (hzs▸ht) (hzs▸no);have nW:(ZM V h s t).n=zs.length:=by rw[hzs];rfl
 walk_at"g";refine⟨v,V,h,s,t,zs,rfl,hv,ok,hzs,hs,ht,h0,h1,fun T n e R hn ln=>?_⟩;obtain⟨Z8,hkv⟩:∃ Z8,Z8=Ry V h s t zs:=⟨_,rfl⟩
 rw[<- hkv]at hn R;have F:=ZK.zero (W:=ZM V h s t);walk_at"g";refine⟨n,e,Z8,zs,_,(s,true),rfl,hn,R,nd,h12,flz,hs,fun p q z=>nW▸F.rng okW z,fun T2 f fo B gP lt hf lf=>?_⟩;rw[qk]at hf ⊢;have hn2:(S++(T++T2))[n]?=some (.dn Z8 e):=by rw[<- qk];exact zy hn
 generalize Y9 (ZM V h s t)=c at R F B;generalize T++T2=G at hf hn2;clear hn;walk_at"g";walk_at"h";refine Rn (fun m Z S'=>∃ (G:Z7) (Z8:List (List (List SK)×D)) (e f:Nat) (c:Pt->Pt->Int) (k:Int) (fo:List (Pt×Option Pt)),S'=S++G/\Z=[some v,some (.int h),some (.str (Z5 zs s)),some (.str (Z5 zs t)),some (.ref n),some (.ref f)]/\(S++G)[n]?=some (.dn Z8 e)/\(S++G)[f]?=some (.dt (fo.map (fk zs)))/\Zt zs Z8 c/\ZK (ZM V h s t) c k/\Goes (Rk zs (s,true) (t,false)) (Ry V h s t zs) Z8/\Pf zs Z8 (s,true) fo/\Bf c (s,true) fo [] (fun _ _=>True)/\(∀ x∈fo.map (·.1),x.1<zs.length)/\m=((zs.length:Int)-k).toNat) _ ⟨G,Z8,e,f,c,0,fo,rfl,rfl,hn2,hf,R,F,hkv▸.refl,gP,B,lt,rfl⟩ ?_;clear F B R lt hf hn2 gP hkv;rintro m Z S' ⟨G,Z8,e,f,c,k,fo,rfl,rfl,hn,hf,R,F,gL,gP,B,lt,rfl⟩;have hp:(t,false).1<zs.length:=ht;walk_at"g";by_cases g:(t,false)∈fo.map (·.1)
 ·obtain⟨⟨p,o⟩,hm,ep⟩:=qC.mp g;have ep:p=(t,false):=ep;subst ep;refine⟨_,Zj.t (ks:=kp zs (t,false)) hf ((UJ nd hp lt B.nd o).1 hm),?_⟩;walk_at"g";rw[if_pos (by rfl)];walk_at"g";refine⟨n,f,e,Z8,zs,ZM V h s t,c,k,fo,rfl,hn,hf,R,nd,h12,nW,F,B,lt,g,fun kvs' e' c' gT R' F'=>?_⟩;rw[RD _ _ ln]
  have hn':(S++G.set (n-S.length) (.dn kvs' e'))[n]?=some (.dn kvs' e'):=by rw[<- RD _ _ ln];exact qU (zu hn)
  generalize G.set (n-S.length) (.dn kvs' e')=G' at hn';walk_at"g";refine⟨n,e',kvs',zs,c',(s,true),rfl,hn',R',nd,h12,flz,hs,fun p q z=>nW▸F'.rng okW z,fun T2 f' fo' B' gP' lt' hf' lf'=>?_⟩;walk_at"g";have fw:=F'.few okW;have f0:=F.few okW;rw[nW]at fw;exact⟨_,by lia,G'++T2,kvs',e',f',c',k+1,fo',by rw[qk],rfl,by rw[<- qk];exact zy hn',by rw[<- qk];exact hf',R',F',.step gL ⟨fo,gP,B.nd,g,gT⟩,gP',B',lt',rfl⟩
 ·refine⟨_,Zj.t (ks:=kp zs (t,false)) hf ((UJ nd hp lt B.nd none).2 g),?_⟩;walk_at"g";rw[if_neg (by simp)];walk_at"g";exact fin_same (q G n e Z8 c k ⟨gL,fo,gP,g⟩ R F (fun fo2 B2=>fun z=>g ((B2.same B _).mp z)) hn ln)
def Jc:ZX:=fun ds S Q=>∃ (v:D) (V:Vl) (zs:List Str) (r e:Nat) (Z8:List (List (List SK)×D)) (c:Pt->Pt->Int) (i:Nat),ds=[v,.ref r,.str (Z5 zs i)]/\Ze S v V/\YX V/\zs=V.bs.map (·.1)/\i<zs.length/\S[r]?=some (.dn Z8 e)/\Zt zs Z8 c /\
 ∀ (T:Z7) (n:Nat),(S++T)[n]?=some (.lst (((stp zs c i).map (Z5 zs)).map D.str))->S.length<=n->Q (.ref n) (S++T)
abbrev sX:DS :=(zE (Zf 1 [2,1] (Zn (dCall RB Y5)) YT (Xw (dT (Z6 Yh Z4 Z0)) (dT (Z6 XS (Lp ZV (dTup (zc (dTup (zc Z4 (zc ZF zm))) (zc (dTup (zc Z0 (zc ZJ zm))) zm))) ZF) ZF))) Z4))
def zhC:BodyOk 3 sX Jc:=by
 rintro ds S Q ⟨v,V,zs,r,e,Z8,c,i,rfl,hv,ok,hzs,hi,hr,R,q⟩;unfold sX;have nd:zs.Nodup:=hzs▸ok.nd;have flz:∀ z∈zs,fl 20 (.str z)=true:=hzs▸ok.flN;have h12:zs.length<=12:=by rw[hzs,qa];exact ok.b12
 have mz:∀ {i},i<zs.length->Z5 zs i∈zs:=fun hi=>qd (VG hi)
 walk_at"g";refine⟨v,V,rfl,hv,by have:=ok.b12;lia,?_⟩;rw[<- hzs];have hr1:(S++[Cell.lst (zs.map D.str)])[r]?=some (.dn Z8 e):=zy hr;walk_at"g";refine Xm (Xl (V8 zs c i)) id Lst.at0 (by rw[qa];unfold big;lia) (fun k d ys hd hw=>?_) ?_
 ·obtain⟨z,hz,rfl⟩:=Xg hd;have hk:=zu hz;have ez:=Qf hz;subst ez;have eb:=pq (c:=c) (i:=i) nd hk;walk_at"g";refine Rq (flz _ (mz hk)) (flz _ (mz hi)) ?_;walk_at"g";refine Xa (fun e=>?_) (fun e=>?_)
  ·walk_at"g";refine⟨⟨r,rfl,.inr (.inr ⟨Z8,_,hr1⟩)⟩,?_⟩;walk_at"g";have hk1:((k,false):Pt).1<zs.length:=hk;have hi1:((i,true):Pt).1<zs.length:=hi;obtain⟨o,g,g1,_⟩:=R.gets nd hr1 hk1 hi1;refine⟨_,g,?_⟩;rw[g1];have ea:arc c i k=c (k,false) (i,true):=by unfold arc;rw[if_neg (fun z=>e (by rw[z]))]
   walk_at"g";refine Zi (fun g=>?_) (fun g=>?_)
   ·walk_at"g";exact Xu hd hw (by rw[show Xl (V8 zs c i) (.str (Z5 zs k))=V8 zs c i (Z5 zs k)from rfl,eb,ea];exact decide_eq_true g) rfl
   ·walk_at"g";exact Wa hd hw (by rw[show Xl (V8 zs c i) (.str (Z5 zs k))=V8 zs c i (Z5 zs k)from rfl,eb,ea];exact decide_eq_false g)
  ·walk_at"g";have:k=i:=Xp nd hk hi e;subst this;exact Wa hd hw (by rw[show Xl (V8 zs c k) (.str (Z5 zs k))=V8 zs c k (Z5 zs k)from rfl,eb];unfold arc;rw[if_pos rfl];rfl)
 rw[List.map_id,Um,show(Xl (V8 zs c i) ∘ D.str)=V8 zs c i from rfl,τ nd];exact Ar (fin_same (q _ _ ((zQ _ _ 1).trans rfl) (by lia)))
def Gx:ZX:=fun ds S Q=>∃ (v:D) (V:Vl) (h:Int) (s t:Nat) (zs:List Str) (r e:Nat) (Z8:List (List (List SK)×D)) (c:Pt->Pt->Int) (k:Int),ds=[v,.ref r,.str (Z5 zs s),.str (Z5 zs t)]/\Ze S v V/\YX V/\zs=V.bs.map (·.1)/\s<zs.length/\t<zs.length/\Zv (ZM V h s t)/\S[r]?=some (.dn Z8 e)/\Zt zs Z8 c/\ZK (ZM V h s t) c k /\
 ∀ (T:Z7) (rs:List (List Nat)) (js:List Nat),Py (ZM V h s t) zs c rs->js.length=rs.length->js.Nodup->(∀ (i:Nat) j us,js[i]?=some j->rs[i]?=some us->T[j]?=some (.lst ((us.map (Z5 zs)).map D.str)))->Q (.ref S.length) (S++.lst (js.map fun j=>.ref (S.length+(j+1)))::T)
abbrev pP:DS :=
    (zj (zq (Ye zm) YH)
 (zj (YJ (Zn (dCall Jc (zc Z4 (zc Z0 Yn)))) Yt (zj (zq (Ye Yn) VN)
 (zj (zq Y6 Tn)
 (zj (Vo (dT (Z6 Yh Vs ZS)) (zj (Za (dM Vu W7 Ug))
 (zq (Z6 ZL (dCall Jc (zc Z4 (zc Z0 Ug))) ZF) Tn)))
 (Za (dM Vu Zy (zc (Z6 Zo W7 (Ye X4)) zm)))))))
 (zE Zy)))
def Ϫ:BodyOk 8 pP Gx:=by
  rintro ds S Q ⟨v,V,h,s,t,zs,r,e,Z8,c,k,rfl,hv,ok,hzs,hs,ht,okW,hr,R,F,q⟩;unfold pP;have nd:zs.Nodup:=hzs▸ok.nd;have flz:∀ z∈zs,fl 20 (.str z)=true:=hzs▸ok.flN;have h12:zs.length<=12:=by rw[hzs,qa];exact ok.b12
  have nW:(ZM V h s t).n=zs.length:=by rw[hzs];rfl
  have mz:∀ {i},i<zs.length->Z5 zs i∈zs:=fun hi=>qd (VG hi)
  have hst:s≠t:=okW.st;have hrT:∀ T,(S++T)[r]?=some (.dn Z8 e):=fun T=>zy hr
  have mst:∀ {i j},j∈stp zs c i↔j<zs.length/\0<arc c i j:=fun {i j}=>by unfold stp;rw[qR,V5,decide_eq_true_eq]
  have lst:∀ i,(stp zs c i).length<=12:=fun i=>by have:=Ve (fun j=>decide (0<arc c i j)) (List.range zs.length);rw[Uq]at this;unfold stp;lia
  walk_at"g";refine⟨v,V,zs,r,e,Z8,c,s,rfl,hv.old,ok,hzs,hs,hrT _,R,fun T n hn ln=>?_⟩;obtain⟨m,rfl⟩:∃ m,n=S.length+(m+1):=⟨n-S.length-1,by simp at ln;lia⟩
  rw[qk,zQ]at hn;have hT:T[m]?=some (.lst (((stp zs c s).map (Z5 zs)).map D.str)):=hn;have kT:∀ (x:Cell) (G:Z7),Lst (S++x::(T++G)) (.ref (S.length+(m+1))) (((stp zs c s).map (Z5 zs)).map D.str):=fun x G=>Lst.here (by rw[zQ];exact zy hT)
  rw[qk];walk_at"h";have kT0:=kT (.lst []) [];rw[qY]at kT0;walk_at"g"
  refine XM (fun i Z S'=>∃ (rs:List (List Nat)) (js:List Nat) (G:Z7) (w5 w6 w7:Option D),S'=S++.lst (js.map fun j=>.ref (S.length+(j+1)))::(T++G)/\Z=[some v,some (.ref r),some (.str (Z5 zs s)),some (.str (Z5 zs t)),some (.ref S.length),w5,w6,w7]/\rs.length=i/\js.length=i/\js.Nodup /\
    (∀ (a:Nat) j us,js[a]?=some j->rs[a]?=some us->(T++G)[j]?=some (.lst ((us.map (Z5 zs)).map D.str)))/\(∀ (a:Nat) us,rs[a]?=some us->Yj (ZM V h s t) c us/\us[us.length-1]?=some t/\us[1]?=(stp zs c s)[a]?/\2<=us.length)) ⟨[],[],[],_,_,_,by simp,rfl,rfl,rfl,by simp,fun a j us h=>by simp at h,fun a us h=>by simp at h⟩ (by rintro i Z S' ⟨rs,js,G,_,_,_,e1,_⟩;exact e1▸kT _ G) ?_ ?_
  . rintro i d Z S' hd ⟨rs,js,G,w5,w6,w7,rfl,rfl,l1,l2,jn,hj,hrd⟩;obtain⟨z,hz,rfl⟩:=Xg hd;rw[qi]at hz;obtain⟨b,hb,rfl⟩:=qV.mp hz;obtain⟨lb,pb⟩:=mst.mp (qd hb);have li:=zu hb;have l12:=lst s
    have hjl:∀ j∈js,j<(T++G).length:=fun j hj'=>by obtain⟨a,ha⟩:=qS.mp hj';have la:=zu ha;exact zu (hj a j _ ha (qb (by lia)))
    obtain⟨H,hH⟩:∃ H:Z7,H=T++G:=⟨_,rfl⟩
    rw[<- hH]at hj hjl ⊢;obtain⟨S2,hS2⟩:∃ S2:Z7,S2=S++.lst (js.map fun j=>.ref (S.length+(j+1)))::H:=⟨_,rfl⟩
    have hv2:Ze S2 v V:=hS2▸hv.old;have hr2:S2[r]?=some (.dn Z8 e):=hS2▸hrT _;rw[<- hS2];walk_at"g";refine Rn (fun m Z S'=>∃ (us:List Nat) (x:Nat) (G2:Z7),S'=S2++.lst ((us.map (Z5 zs)).map D.str)::G2/\Z=[some v,some (.ref r),some (.str (Z5 zs s)),some (.str (Z5 zs t)),some (.ref S.length),some (.str (Z5 zs b)),some (.ref S2.length),some (.str (Z5 zs x))]/\0<us.length/\Yj (ZM V h s t) c (us++[x])/\(us++[x])[1]?=some b/\m=zs.length-us.length) _ ⟨[s],b,[],rfl,rfl,by simp,⟨rfl,fun i a b' ha hb'=>?_,fun i a ha hi=>?_⟩,rfl,rfl⟩ ?_
    . cases i with
      |zero =>
        have e1:s=a:=by simpa using ha
        have e2:b=b':=by simpa using hb'
        rw[<- e1,<- e2];exact pb
      |succ i=>cases i<;>simp at hb'
    . cases i with
      |zero =>
        have e1:s=a:=by simpa using ha
        rw[<- e1];exact hst
      |succ i =>have:i+1+1<2:=hi;lia
    rintro m' Z S' ⟨us,x,G2,rfl,rfl,pos,A,hb1,rfl⟩;have hx:x<zs.length:=nW▸A.lt okW F x (by simp)
    have lu:us.length+1<=zs.length:=by
      have:=QD (N:=List.range zs.length) (A.nodup okW F) fun y hy=>List.mem_range.mpr (nW▸A.lt okW F y hy)
      rw[qf,qM,Uq]at this;exact this
    walk_at"g";refine Rq (flz _ (mz hx)) (flz _ (mz ht)) ?_;walk_at"g";refine Xa (fun g=>?_) (fun g=>?_)
    . have nx:x≠t:=fun z=>g (by rw[z])
      have hv3:∀ y:Cell,Ze (S2++y::G2) v V:=fun y=>hv2.old
      have hr3:∀ y:Cell,(S2++y::G2)[r]?=some (.dn Z8 e):=fun y=>zy hr2
      have lus:((us.map (Z5 zs)).map D.str).length<big:=by rw[qa,qa];unfold big;lia
      walk_at"g";refine⟨v,V,zs,r,e,Z8,c,x,rfl,hv3 _,ok,hzs,hx,hr3 _,R,fun T2 n2 hn2 ln2=>?_⟩;have k2:=Lst.here hn2;obtain⟨p,hp⟩:∃ p,us[us.length-1]?=some p:=⟨_,qb (by lia)⟩
      have hp1:(us++[x])[us.length-1]?=some p:=by rw[qg (by lia)];exact hp
      have hx1:(us++[x])[us.length-1+1]?=some x:=by rw[show us.length-1+1=us.length by lia,qe (qh _),Yk];rfl
      obtain⟨d,hd1,hd2⟩:=zoJ okW F nx (A.ch _ p x hp1 hx1)
      obtain⟨y,hy⟩:∃ y,(stp zs c x)[0]?=some y:=by have:d∈stp zs c x:=mst.mpr ⟨nW▸hd1,hd2⟩;have:=Im this;exact⟨_,qb this⟩
      obtain⟨_,py⟩:=mst.mp (qd hy);have ly:0<(stp zs c x).length:=zu hy
      have hat:Yu (((stp zs c x).map (Z5 zs)).map D.str) 0=some (.str (Z5 zs y)):=by unfold Yu W6;rw[if_pos (by decide),if_pos (by rw[qa,qa];lia)];show(((stp zs c x).map (Z5 zs)).map D.str)[0]?=_;rw[qi,qi,hy];rfl
      walk_at"g"
      have lx:(us++[x])[(us++[x]).length-1]?=some x:=by rw[qf,qM,Nat.add_sub_cancel,qe (qh _),Yk];rfl
      refine⟨_,?_,us++[x],y,G2++T2,?_,rfl,by simp,A.snoc lx nx py,?_,rfl⟩
      . rw[qf,qM];lia
      . simp
      . rw[qg (by simp;lia)];exact hb1
    . have gx:x=t:=Xp nd hx ht g;subst gx;have lus:((us.map (Z5 zs)).map D.str).length+[D.str (Z5 zs x)].length<=big:=by rw[qa,qa];unfold big;simp;lia
      have k1:Lst (S2++(.lst ((us.map (Z5 zs)).map D.str)::G2++[.lst [.str (Z5 zs x)]])) (.ref S2.length) ((us.map (Z5 zs)).map D.str):=Lst.at0;have hroads:∀ G,(S2++G)[S.length]?=some (.lst (js.map fun j=>.ref (S.length+(j+1)))):=fun G=>by rw[hS2,qk];exact zM
      walk_at"g";refine⟨⟨_,_,rfl,hroads _⟩,?_⟩;walk_at"g";refine ψ k1 Lst.new lus ?_;walk_at"g";refine Js (hroads _) (by rw[qa];unfold big;lia) (W2 ?_);obtain⟨X,hX⟩:∃ X:Z7,X=Cell.lst ((us.map (Z5 zs)).map D.str)::G2++[.lst [.str (Z5 zs x)]]:=⟨_,rfl⟩
      rw[<- hX];have e1:S2.length+X.length=S.length+(H.length+X.length+1):=by rw[hS2,qf,qX];lia
      have e2:∀ c':Cell,(S2++(X++[c'])).set S.length (.lst ((js.map fun j=>D.ref (S.length+(j+1)))++[.ref (S2.length+X.length)]))=S++.lst ((js++[H.length+X.length]).map fun j=>.ref (S.length+(j+1)))::(T++(G++(X++[c']))):=fun c'=>by rw[e1,hS2,qk,HS,O8,hH,qB,qk];rfl
      rw[e2];walk_at"g";refine⟨rs++[us++[x]],js++[H.length+X.length],G++(X++[.lst ((us.map (Z5 zs)).map D.str++[.str (Z5 zs x)])]),_,_,_,rfl,rfl,by rw[qf,l1];rfl,by rw[qf,l2];rfl,?_,fun a j vs ha hv'=>?_,fun a vs hv'=>?_⟩
      . rw[VF];refine⟨jn,by simp,fun a ha b' hb' e=>?_⟩;have:=hjl a ha;have:b'=H.length+X.length:=by simpa using hb'
        lia
      . rw[<- qk,<- hH];by_cases ga:a<i
        . rw[qg (by lia)]at ha hv';exact zy (hj a j vs ha hv')
        . have la:=zu ha;rw[qf,qM]at la;have:a=i:=by lia
          subst this;rw[qe (by lia),l2,Yk]at ha;rw[qe (by lia),l1,Yk]at hv';have ea:H.length+X.length=j:=by simpa using ha
          have ev:us++[x]=vs:=by simpa using hv'
          rw[<- ea,<- ev,qe (by lia),Ig,qe (qh _),Yk,qB,qB];rfl
      . by_cases ga:a<i
        . rw[qg (by lia)]at hv';exact hrd a vs hv'
        . have la:=zu hv';rw[qf,qM]at la;have:a=i:=by lia
          subst this;rw[qe (by lia),l1,Yk]at hv';have ev:us++[x]=vs:=by simpa using hv'
          rw[<- ev];refine⟨A,?_,by rw[hb1,hb],by rw[qf,qM];lia⟩;rw[qf,qM,Nat.add_sub_cancel,qe (qh _),Yk];rfl
  . rintro Z S' ⟨rs,js,G,w5,w6,w7,rfl,rfl,l1,l2,jn,hj,hrd⟩;rw[qa,qa]at l1 l2;walk_at"g";exact fin_same (q (T++G) rs js ⟨l1,hrd⟩ (by lia) jn hj)
def Jr:ZX:=fun ds S Q=>∃ (v:D) (V:Vl) (h:Int) (s t:Nat) (zs:List Str),ds=[v,.int h,.str (Z5 zs s),.str (Z5 zs t)]/\Ze S v V/\YX V/\zs=V.bs.map (·.1)/\s<zs.length/\t<zs.length/\V.h0<=h/\h<=V.h1/\¬ YK V h (Z5 zs s) (Z5 zs t) /\
 ∀ (T:Z7) (m n:Nat) (rs:List (List Nat)) (ks js:List Nat),PX V h s t zs rs ks->pZ (S++T) m n zs rs ks js->S.length<=n->Q (.tup [.ref m,.ref n]) (S++T)
abbrev vM:DS :=
    (zj (Za (dCall Ah (zc Z4 (zc Z0 (zc ZV X4)))))
 (zj (zq (dCall Ft (zc Z4 (zc Z0 (zc ZV X4)))) YH)
 (zj (zq (dCall KQ (zc Zy (zc (dTup (zc ZV (zc ZJ zm))) zm))) Yt)
 (zj (zq (Zf 1 [5] (Zn (dCall RB Y5)) YT (Xw (dT (Oh (dTup (zc Z4 (zc ZF zm))) Z0)) (dT (Ql (dTup (zc Z4 (zc ZJ zm))) Z0))) Z4) VN)
 (zE (dTup (zc (dCall Gx (zc Z4 (zc Zy (zc ZV X4)))) Lb)))))))
def á:BodyOk 7 vM Jr:=by
 rintro ds S Q ⟨v,V,h,s,t,zs,rfl,hv,ok,hzs,hs,ht,h0,h1,no,q⟩;unfold vM;have nd:zs.Nodup:=hzs▸ok.nd;have flz:∀ z∈zs,fl 20 (.str z)=true:=hzs▸ok.flN;have h12:zs.length<=12:=by rw[hzs,qa];exact ok.b12
 have okW:Zv (ZM V h s t):=Ga (hzs▸hs) (hzs▸ht) (hzs▸no);have nW:(ZM V h s t).n=zs.length:=by rw[hzs];rfl
 have mz:∀ {i},i<zs.length->Z5 zs i∈zs:=fun hi=>qd (VG hi)
 walk_at"g";refine⟨v,V,h,_,_,rfl,hv,ok,hzs▸mz hs,hzs▸mz ht,h0,h1,no,?_⟩;walk_at"g";refine⟨v,V,h,s,t,zs,rfl,hv,ok,hzs,hs,ht,h0,h1,no,fun T r e Z8 c k gL R F nr hr lr=>?_⟩;walk_at"g";refine⟨r,e,Z8,zs,c,(s,true),rfl,hr,R,nd,h12,flz,hs,fun p q z=>nW▸F.rng okW z,fun T2 f fo B _ lt hf lf=>?_⟩;have hr2:(S++T++T2)[r]?=some (.dn Z8 e):=zy hr;have hv2:Ze (S++T++T2) v V:=hv.old.old;rw[qk]at hf hr2 hv2 ⊢;generalize T++T2=G at hf hr2 hv2;walk_at"g";refine⟨v,V,rfl,hv2,by have:=ok.b12;lia,?_⟩;rw[<- hzs];have hf3:(S++(G++[Cell.lst (zs.map D.str)]))[f]?=some (.dt (fo.map (fk zs))):=by rw[<- qk];exact zy hf
 walk_at"g";refine Xm (Xl (Q8 zs fo)) id (by walk_at"l") (by rw[qa];unfold big;lia) (fun i d ys hd hw=>?_) ?_
 ·obtain⟨z,hz,rfl⟩:=Xg hd;have hk:=zu hz;have ez:=Qf hz;subst ez;have eb:=vQ (fo:=fo) nd hk
  have dg:∀ b:Bool,∃ o,Zj (S++(G++[Cell.lst (zs.map D.str)])) (.ref f) (Zd zs (i,b)) o/\o.isSome=decide ((i,b)∈fo.map (·.1)):=fun b=>by
   have hp:((i,b):Pt).1<zs.length:=hk;refine⟨_,Zj.t (ks:=kp zs (i,b)) hf3 rfl,?_⟩;by_cases g:(i,b)∈fo.map (·.1)
   ·obtain⟨⟨p,o⟩,hm,ep⟩:=qC.mp g;have ep:p=(i,b):=ep;subst ep;rw[(UJ nd hp lt B.nd o).1 hm,decide_eq_true g];rfl
   ·rw[(UJ nd hp lt B.nd none).2 g,decide_eq_false g];rfl
  obtain⟨o1,d1,e1⟩:=dg false;obtain⟨o2,d2,e2⟩:=dg true;walk_at"g";refine⟨o1,d1,?_⟩;rw[e1];have ek:Xl (Q8 zs fo) (.str (Z5 zs i))=(decide ((i,false)∈fo.map (·.1))&&!decide ((i,true)∈fo.map (·.1))):=eb;walk_at"g";refine Zi (fun g1=>?_) (fun g1=>?_)
  ·walk_at"g";refine⟨o2,d2,?_⟩;rw[e2];walk_at"g";refine Xa (fun g2=>?_) (fun g2=>?_)
   ·walk_at"g";exact Xu hd hw (by rw[ek,decide_eq_true g1,decide_eq_false g2];rfl) rfl
   ·walk_at"g";exact Wa hd hw (by rw[ek,decide_eq_true g1,decide_eq_true g2];rfl)
  ·walk_at"g";exact Wa hd hw (by rw[ek,decide_eq_false g1];rfl)
 rw[List.map_id,Um,show(Xl (Q8 zs fo) ∘ D.str)=Q8 zs fo from rfl,jq nd];obtain⟨ks,hks⟩:∃ ks,ks=(List.range zs.length).filter (Ym fun p=>decide (p∈fo.map (·.1))):=⟨_,rfl⟩
 rw[<- hks];refine WT ?_;obtain⟨S3,hS3⟩:∃ S3:Z7,S3=S++(G++[Cell.lst (zs.map D.str)]):=⟨_,rfl⟩
 have e3:S++(G++[Cell.lst (zs.map D.str)]++[Cell.lst ((ks.map (Z5 zs)).map D.str)])=S3++[Cell.lst ((ks.map (Z5 zs)).map D.str)]:=by rw[hS3];simp
 have l3:S.length+(G++[Cell.lst (zs.map D.str)]).length=S3.length:=by rw[hS3,<- qf]
 have ls3:S.length<=S3.length:=by lia
 have hv3:Ze (S3++[Cell.lst ((ks.map (Z5 zs)).map D.str)]) v V:=by rw[hS3,<- qk];exact hv2.old.old
 have hr3:(S3++[Cell.lst ((ks.map (Z5 zs)).map D.str)])[r]?=some (.dn Z8 e):=by rw[hS3,<- qk];exact zy (zy hr2)
 have e4:∃ T,S3=S++T:=⟨_,hS3⟩
 rw[e3,l3];clear e3 l3 hf hf3 hr2 hv2 hS3;walk_at"g";refine⟨v,V,h,s,t,zs,r,e,Z8,c,k,rfl,hv3,ok,hzs,hs,ht,okW,hr3,R,F,fun T3 rs js hrs ljs ndj hat=>?_⟩;walk_at"g";obtain⟨T4,rfl⟩:=e4;obtain⟨S5,hS5⟩:∃ S5:Z7,S5=S++T4++[Cell.lst ((ks.map (Z5 zs)).map D.str)]:=⟨_,rfl⟩
 have hk5:S5[(S++T4).length]?=some (.lst ((ks.map (Z5 zs)).map D.str)):=hS5▸zM;have l5:S5.length=(S++T4).length+1:=by rw[hS5,qf];rfl
 have gen:∀ c':Cell,S5++c'::T3=S++(T4++[Cell.lst ((ks.map (Z5 zs)).map D.str)]++c'::T3):=fun c'=>by rw[hS5];simp
 obtain⟨X,hX⟩:∃ X:Z7,S5++Cell.lst (js.map fun j=>D.ref (S5.length+(j+1)))::T3=S++X:=⟨_,gen _⟩
 rw[<- hS5];have A:pZ (S5++Cell.lst (js.map fun j=>D.ref (S5.length+(j+1)))::T3) S5.length (S++T4).length zs rs ks js:=⟨zM,zy hk5,ljs,ndj,by lia,fun i j us hj hu=>by rw[zQ];exact hat i j us hj hu⟩
 rw[hX]at A ⊢;exact fin_same (q _ _ _ rs ks js ⟨Z8,c,k,fo,gL,R,F,hrs,B,nr fo B,hks⟩ A ls3)
def Fy:ZX:=fun ds S Q=>∃ (y:D) (V:Vl) (h:Int) (n:Str) (z:D) (bar:List Str),ds=[y,.str n,z]/\YX V/\Wm S y V h/\n∈V.bs.map (·.1)/\Lst S z (bar.map D.str)/\(∀ w∈bar,fl 20 (.str w)=true)/\∀ (T:Z7) (k:Nat) (ms:List Str),(∀ w,w∈ms↔X5 V h bar n w)->(S++T)[k]?=some (.lst (ms.map D.str))->Q (.ref k) (S++T)
abbrev uJ:DS :=
    (zj (zq (Ye Yy) YD)
 (zj (zq ZF YH)
 (zj (Vo (dT (Z6 oLt Zy (dB Zg X4))) (zj (Za (dM K8 ZS (zc (Zf 1 [3,2] (Zn (Vx Z4 (Z6 ZL ZS Zy))) YT (Xw (dT (Z6 Qs Z4 Z0)) (dT (Z6 Qs Z4 ZV))) Z4) zm)))
 (zq (Z6 Zo Zy ZJ) YH)))
 (zE ZS))))
def jP:BodyOk 5 uJ Fy:=by
 rintro ds S Q ⟨y,V,h,n,z,bar,rfl,ok,hn,mn,hz,hbar,q⟩;unfold uJ;have b12:(V.bs.map (·.1)).length<=12:=by rw[qa];exact ok.b12
 have flz:=ok.flN;walk_at"g";walk_at"h";refine Rn (fun m Z S'=>∃ (F:List Str) (G:Z7) (k:Nat),S'=S++Cell.lst (F.map D.str)::G/\Z=[some y,some (.str n),some z,some (.ref S.length),some (.int (k:Int))]/\m+k=20/\F.Nodup/\(∀ w∈F,X5 V h bar n w)/\n∈F/\k<=F.length/\∀ (j:Nat) a b,j<k->F[j]?=some a->YK V h a b->b∉bar->b∈F) 20 ⟨[n],[],0,rfl,rfl,rfl,by simp,fun w hw=>by rw[qT.mp hw];exact .refl,by simp,by simp,fun j a b hj=>by lia⟩ ?_;rintro m Z S' ⟨F,G,k,rfl,rfl,hm,nd,hF,hnF,hk,hcl⟩;have hFm:∀ w∈F,w∈V.bs.map (·.1):=fun w hw=>pY mn (hF w hw)
 have lF:F.length<=12:=qW (K5 nd hFm) b12;have flF:∀ x∈F,fl 20 (.str x)=true:=fun x hx=>flz x (hFm x hx)
 walk_at"g";rw[qa];refine Zi (fun hlt=>?_) (fun hge=>?_)
 ·obtain⟨a,ha⟩:∃ a,F[k]?=some a:=⟨F[k]'(by lia),qb (by lia)⟩
  have ma:=qd ha;have aF:Yu (F.map D.str) (k:Int)=some (.str a):=Lq (by rw[qi,ha];rfl);obtain⟨mi,ys,hg,hmi,ynd,hy⟩:=Wm.get (hn.old (T:=Cell.lst (F.map D.str)::G)) (hFm a ma);have fly:∀ w∈ys,fl 20 (.str w)=true:=fun w hw=>flz w (Og ((hy w).mp hw).2).2
  have ly:ys.length<=12:=qW (K5 ynd fun w hw=>(Og ((hy w).mp hw).2).2) b12;have kF:Lst (S++Cell.lst (F.map D.str)::G) (.ref S.length) (F.map D.str):=Lst.at0;have kz:Lst (S++Cell.lst (F.map D.str)::G) z (bar.map D.str):=hz.old;walk_at"g";refine⟨_,hg,?_⟩;have ky:Lst (S++Cell.lst (F.map D.str)::G) (.ref mi) (ys.map D.str):=Lst.here hmi;walk_at"g";refine Xm (Xl fun w=>decide (w∉F/\w∉bar)) id ky (by rw[qa];unfold big;lia) (fun j d zs' hd' hw=>?_) ?_
  ·obtain⟨w,hw',rfl⟩:=Xg hd';have mw:=qd hw';walk_at"g";refine JB (.inr kF) (fly w mw) flF ?_;walk_at"g";refine Xa (fun e=>?_) (fun e=>?_)
   ·walk_at"g";refine JB (.inr kz) (fly w mw) hbar ?_;walk_at"g";refine Xa (fun e2=>?_) (fun e2=>?_)
    ·walk_at"g";exact Xu hd' hw (decide_eq_true ⟨e,e2⟩) rfl
    ·walk_at"g";exact Wa hd' hw (decide_eq_false fun w=>w.2 e2)
   ·walk_at"g";exact Wa hd' hw (decide_eq_false fun w=>w.1 e)
  have ef:((ys.map D.str).filter (Xl fun w=>decide (w∉F/\w∉bar))).map id=(ys.filter fun w=>decide (w∉F/\w∉bar)).map D.str:=by rw[List.map_id,Um];rfl
  rw[ef];obtain⟨rs,hrs⟩:∃ rs:List Str,rs=ys.filter fun w=>decide (w∉F/\w∉bar):=⟨_,rfl⟩
  have mr:∀ w,w∈rs↔w∈ys/\w∉F/\w∉bar:=fun w=>by rw[hrs,qR,decide_eq_true_eq]
  have rnd:rs.Nodup:=hrs▸ynd.filter _;have lr:rs.length<=12:=by rw[hrs];exact qW (Ve _ _) ly
  rw[<- hrs];clear hrs ef;refine WT ?_;walk_at"g";refine uq (xs:=F.map D.str) (ys:=rs.map D.str) zM OJ (by simp) (by rw[qa,qa];unfold big;lia) ?_;walk_at"g";rw[<- qB];refine⟨m-1,by lia,F++rs,_,k+1,rfl,rfl,by lia,?_,fun w hw=>?_,V3 _ hnF,by rw[qf];lia,fun j a' b hj ha' aD nb=>?_⟩
  ·rw[VF];exact⟨nd,rnd,fun u hu v hv e=>((mr v).mp hv).2.1 (e▸hu)⟩
  ·rcases qE.mp hw with hw|hw
   ·exact hF w hw
   ·obtain⟨w1,w2,w3⟩:=(mr w).mp hw;exact .step (hF a ma) ((hy w).mp w1).2 w3
  ·rcases Yv j k with g|g
   ·rw[qg (by lia)]at ha';exact V3 _ (hcl j a' b g ha' aD nb)
   ·have:j=k:=by lia
    subst this;rw[qg (by lia),ha]at ha';cases ha';rw[qE];by_cases e:b∈F
    ·exact .inl e
    ·exact .inr ((mr b).mpr ⟨(hy b).mpr ⟨fun z=>e (z▸ma),aD⟩,e,nb⟩)
 ·walk_at"g";have hkl:k=F.length:=by lia
  refine fin_same (q _ _ F (fun w=>⟨hF w,fun c=>?_⟩) zM)
  induction c with
  |refl=>exact hnF
  |step c aD nb ih =>obtain⟨j,hj,e⟩:=qK.mp ih;exact hcl j _ _ (by lia) (by rw[qb hj,e]) aD nb
def Di:ZX:=fun ds S Q=>∃ (x y:D) (V:Vl) (h:Int) (a b:Str) (zs:List Str) (d:Nat) (f:Str->Bool),ds=[x,y,.str a,.str b]/\YX V/\zs=V.bs.map (·.1)/\Lst S x (zs.map D.str)/\Wm S y V h/\a∈zs/\b∈zs/\(∀ K:List Str,(∀ u∈K,u≠a/\u≠b)->¬ X5 V h K a b->d<=K.length)/\((W8 a b zs).filter f).length=d/\¬ X5 V h ((W8 a b zs).filter f) a b/\∀ T,Q (.int d) (S++T)
def Xe (os:List Str)(m i:Nat):List Str:=((List.range i).filter fun k=>decide (m/2 ^ k%2=1)).map (Z5 os)
def tL {os:List Str}{m i:Nat}:Xe os m (i+1)=Xe os m i++if m/2 ^ i%2=1 then[Z5 os i]else[]:=by
 unfold Xe;rw[Lk,Rj,qB];by_cases e:m/2 ^ i%2=1
 ·rw[if_pos e,show[i].filter (fun k=>decide (m/2 ^ k%2=1))=[i] by simp[e]];rfl
 ·rw[if_neg e,show[i].filter (fun k=>decide (m/2 ^ k%2=1))=[] by simp[e]];rfl
def zsK {os:List Str}{m i:Nat}(h:i<=os.length){u:Str}(hu:u∈Xe os m i):u∈os:=by obtain⟨k,hk,rfl⟩:=qC.mp hu;have:=V5.mp (qR.mp hk).1;exact qd (VG (by lia))
def Ç {os:List Str}{m i:Nat}:(Xe os m i).length<=i:=by unfold Xe;rw[qa];have:=Ve (fun k=>decide (m/2 ^ k%2=1)) (List.range i);rwa[Uq]at this
theorem oZ (g:Nat->Bool):∀ n,∃ m,m<2 ^ n/\∀ k,k<n->decide (m/2 ^ k%2=1)=g k
 |0=>⟨0,by simp,fun k hk=>by lia⟩
 |n+1=>by
  obtain⟨m,hm,h⟩:=oZ g n;cases e:g n with
  |false =>
   refine⟨m,by rw[Nat.pow_succ];lia,fun k hk=>?_⟩;by_cases l:k<n
   ·exact h k l
   ·have:k=n:=by lia
    subst this;rw[Nat.div_eq_of_lt hm,e];rfl
  |true =>
   refine⟨m+2 ^ n,by rw[Nat.pow_succ];lia,fun k hk=>?_⟩;by_cases l:k<n
   ·rw[<- h k l];obtain⟨j,rfl⟩:∃ j,n=k+(j+1):=⟨n-k-1,by lia⟩
    rw[Nat.pow_add 2 k (j+1),Nat.add_mul_div_left _ _ (Nat.two_pow_pos k),Nat.pow_succ,Nat.mul_comm (2 ^ j) 2,Nat.add_mul_mod_self_left]
   ·have:k=n:=by lia
    subst this;rw[Nat.add_div_right _ (Nat.two_pow_pos k),Nat.div_eq_of_lt hm,e];rfl
def aJ (os:List Str)(f:Str->Bool):∃ m,m<2 ^ os.length/\Xe os m os.length=os.filter f:=by
 obtain⟨m,hm,h⟩:=oZ (f ∘ Z5 os) os.length;refine⟨m,hm,?_⟩
 have e:os.filter f=((List.range os.length).filter (f ∘ Z5 os)).map (Z5 os):=by have:=congrArg (List.filter f) (IW os);rw[Um]at this;exact this
 rw[e];unfold Xe;rw[Rx fun k hk=>h k (V5.mp hk)]
abbrev sW:DS :=
    (zj (zq (Zf 1 [2,3] (Zn Z4) YT (Xw (dT (Z6 Yh Z4 Z0)) (dT (Z6 Yh Z4 ZV))) Z4) YH)
 (zj (zq (dB Zg PL) Yt)
 (zj (YJ (RP (zc (Z6 Ib ZJ (dB Zg PL)) zm)) VN (zj (zq (Zf 2 [6] (V4 PL) (YL 2 (zJ YT (zJ Wf YW))) (dT (Z6 oEq (Z6 JG (Z6 Ia ZV Z4) ZJ) ZJ)) Z0) Tn)
 (ZD (Xw (dT (Z6 oLt (dB Zg Ug) Y6)) (dT (Z6 Qs ZS (dCall Fy (zc Z0 (zc ZV Ug)))))) (zq (dB Zg Ug) Yt) zK)))
 (zE Y6))))
def ķ:BodyOk 8 sW Di:=by
 rintro ds S Q ⟨x,y,V,h,a,b,zs,d,f,rfl,ok,hzs,hx,hn,ha,hb,lo,ef,nf,q⟩;unfold sW;have flz:∀ z∈zs,fl 20 (.str z)=true:=hzs▸ok.flN;have lz:zs.length<=12:=by rw[hzs,qa];exact ok.b12
 have fa:=flz a ha;have fb:=flz b hb;walk_at"g";refine Xm (Xl fun z=>decide (z≠a/\z≠b)) id hx (by rw[qa];unfold big;lia) (fun j d zs' hd' hw=>?_) ?_
 ·obtain⟨z,hz,rfl⟩:=Xg hd';have mz:=qd hz;walk_at"g";refine Rq (flz z mz) fa ?_;walk_at"g";refine Xa (fun e=>?_) (fun e=>?_)
  ·walk_at"g";refine Rq (flz z mz) fb ?_;walk_at"g";refine Xa (fun e2=>?_) (fun e2=>?_)
   ·walk_at"g";exact Xu hd' hw (decide_eq_true ⟨e,e2⟩) rfl
   ·walk_at"g";exact Wa hd' hw (decide_eq_false fun w=>w.2 e2)
  ·walk_at"g";exact Wa hd' hw (decide_eq_false fun w=>w.1 e)
 rw[vX];have lo12:(W8 a b zs).length<=12:=qW (Ve _ _) lz
 have mo:∀ z∈W8 a b zs,z∈zs/\z≠a/\z≠b:=fun z hz=>by obtain⟨h1,h2⟩:=qR.mp hz;exact⟨h1,of_decide_eq_true h2⟩
 generalize W8 a b zs=os at lo12 mo ef nf;have fo:∀ z∈os,fl 20 (.str z)=true:=fun z hz=>flz z (mo z hz).1
 have df:d<=os.length:=by rw[<- ef];exact Ve _ _
 have ko:∀ G,Lst (S++Cell.lst (os.map D.str)::G) (.ref S.length) (os.map D.str):=fun G=>Lst.at0
 unfold New;walk_at"g";rw[qa];refine ű ⟨by lia,by lia,by decide⟩ ?_;have e2:(1:Int)*2 ^ ((os.length:Nat):Int).toNat=((2 ^ os.length:Nat):Int):=by rw[QL,Int.one_mul];simp
 have p2:2 ^ os.length<=2 ^ 12:=Nat.pow_le_pow_right (by decide) lo12;rw[e2];walk_at"g";walk_at"h";have p3:(2:Int) ^ 62=4611686018427387904:=by decide
 have p4:(0:Int)<=((2 ^ os.length:Nat):Int):=Int.natCast_nonneg _;have p5:((2 ^ os.length:Nat):Int)<=((2 ^ 12:Nat):Int):=Int.ofNat_le.mpr p2;refine⟨_,rfl,by lia,by lia,?_⟩;rw[QL];clear p3 p4 p5;refine XM (fun i Z S'=>∃ (G:Z7) (F:Nat) (w6 w7:Option D),S'=S++Cell.lst (os.map D.str)::G/\Z=[some x,some y,some (.str a),some (.str b),some (.ref S.length),some (.int F),w6,w7]/\d<=F/\F<=os.length/\∀ m,m<i->¬ X5 V h (Xe os m os.length) a b->F<=(Xe os m os.length).length) ⟨[],os.length,_,_,rfl,rfl,df,qh _,fun m hm=>by lia⟩ (fun _ _ _ _=>True.intro) ?_ ?_
 ·rintro i e Z S' he ⟨G,F,w6,w7,rfl,rfl,dF,lF,hm⟩;obtain⟨hi,rfl⟩:=J9 he;rw[Int.zero_add];walk_at"g";refine Ow (xs:=os.map D.str) (ko G) ?_;refine Mi (fun j ys S'=>S'=S++Cell.lst (os.map D.str)::G/\ys=(Xe os i j).map D.str) ⟨rfl,rfl⟩ (fun j ys S' e=>e.1▸ko G) (by rw[VJ,qa];unfold big;lia) ?_ ?_
  ·rintro j e ys S' hd ⟨rfl,rfl⟩;obtain⟨y,hy,rfl⟩:=R6 hd;obtain⟨z,hz,rfl⟩:=Xg hy;have ez:=Qf hz;rw[M7];have eb:((i:Nat):Int)/2 ^ ((j:Nat):Int).toNat%2=((i/2 ^ j%2:Nat):Int):=by rw[QL];simp
   walk_at"g";refine iW (by lia) ?_;refine zvj ?_;rw[eb];walk_at"g";refine Zi (fun g=>?_) (fun g=>?_)
   ·walk_at"g";refine⟨rfl,?_⟩;rw[tL,if_pos (by lia),qB,ez];rfl
   ·walk_at"g";exact⟨rfl,by rw[tL,if_neg (by lia),qY]⟩
  rintro ys S' ⟨rfl,rfl⟩;rw[VJ,qa];obtain⟨us,hus⟩:∃ us,us=Xe os i os.length:=⟨_,rfl⟩
  have mu:∀ u∈us,u∈os:=fun u hu=>zsK (qh _) (hus▸hu)
  have lu:us.length<=os.length:=hus▸Ç;rw[<- hus];refine WT ?_;have ku:Lst (S++(Cell.lst (os.map D.str)::G++[Cell.lst (us.map D.str)])) (.ref (S.length+(Cell.lst (os.map D.str)::G).length)) (us.map D.str):=Lst.here OJ
  have sk:∀ F':Nat,(¬ X5 V h us a b->F'<=us.length)->F'<=F->∀ m,m<i+1->¬ X5 V h (Xe os m os.length) a b->F'<=(Xe os m os.length).length:=fun F' h1 h2 m l nc=>by
   by_cases e:m=i
   ·subst e;rw[<- hus]at nc ⊢;exact h1 nc
   ·exact qW h2 (hm m (by lia) nc)
  walk_at"g";rw[qa];refine Zi (fun lt=>?_) (fun ge=>?_)
  ·walk_at"g";refine⟨y,V,h,a,_,us,rfl,ok,hn.old,hzs▸ha,ku,fun w hw=>fo w (mu w hw),fun T2 k ms hms hk'=>?_⟩;rw[qk]at hk' ⊢;have ku2:Lst (S++(Cell.lst (os.map D.str)::G++[Cell.lst (us.map D.str)]++T2)) (.ref (S.length+(Cell.lst (os.map D.str)::G).length)) (us.map D.str):=by rw[<- qk];exact ku.old
   have fm:∀ w∈ms,fl 20 (.str w)=true:=fun w hw=>flz w (by rw[hzs];exact pY (hzs▸ha) ((hms w).mp hw))
   walk_at"g";refine JB (.inr (Lst.here hk')) fb fm ?_;walk_at"g";refine Xa (fun e=>?_) (fun e=>?_)
   ·have nc:¬ X5 V h us a b:=fun c=>e ((hms b).mpr c)
    walk_at"g";rw[qa];exact⟨_,us.length,_,_,by simp;rfl,rfl,lo us (fun u hu=>(mo u (mu u hu)).2) nc,lu,sk _ (fun _=>qh _) (by lia)⟩
   ·walk_at"g";exact⟨_,F,_,_,by simp;rfl,rfl,dF,lF,sk F (fun nc=>absurd ((hms b).mp e) nc) (qh _)⟩
  ·walk_at"g";exact⟨_,F,_,_,by simp;rfl,rfl,dF,lF,sk F (fun _=>by lia) (qh _)⟩
 ·rintro Z S' ⟨G,F,w6,w7,rfl,rfl,dF,lF,hm⟩;walk_at"g";obtain⟨m,hm1,hm2⟩:=aJ os f;have:=hm m (by rw[BW];exact hm1) (by rw[hm2];exact nf);rw[hm2,ef]at this;have:F=d:=by lia
  subst this;exact fin_same (q _)
theorem wj {α β:Type}{f:α->Option β}:∀ {xs:List α} {ys:List β},xs.length=ys.length->(∀ (i:Nat) x y,xs[i]?=some x->ys[i]?=some y->f x=some y)->zT f xs=some ys
 |[],[],_,_=>rfl
 |x::xs,y::ys,l,h=>by unfold zT;rw[h 0 x y rfl rfl,wj (Nat.succ.inj l) fun i x y a b=>h (i+1) x y a b]
def Qz (zs:List Str)(us:List Nat):PyData:=.list (us.map fun u=>.str (Z5 zs u))
def rQ {S:Z7}{n:Nat}{zs:List Str}{us:List Nat}{k:Nat}(hf:∀ u∈us,fl 20 (.str (Z5 zs u))=true)(h:S[n]?=some (.lst ((us.map (Z5 zs)).map D.str))):Zk S (k+1) (.ref n)=some (Qz zs us):=by
  refine lD (Lst.here h) ?_;rw[Yg]
  exact wH fun u hu=>by have h:(Z5 zs u).cps.all (· < 0x110000)=true:=hf u hu;cases k<;>exact if_pos h
def yK {S:Z7}{m n:Nat}{zs:List Str}{rs:List (List Nat)}{ks rfs:List Nat}(hf:∀ u,u<zs.length->fl 20 (.str (Z5 zs u))=true)(lk:∀ u∈ks,u<zs.length)(lr:∀ us∈rs,∀ u∈us,u<zs.length)(hm:S[m]?=some (.lst (rfs.map D.ref)))(hn:S[n]?=some (.lst ((ks.map (Z5 zs)).map D.str)))(l:rfs.length=rs.length)(h:∀ (i:Nat) r us,rfs[i]?=some r->rs[i]?=some us->S[r]?=some (.lst ((us.map (Z5 zs)).map D.str))):Zk S 20 (.tup [.ref m,.ref n])=some (.tuple [.list (rs.map (Qz zs)),Qz zs ks]):=by
 have e1:Zk S 19 (.ref m)=some (.list (rs.map (Qz zs))):=lD (k:=18) (Lst.here hm) (wj (by rw[qa,qa,l]) fun i x y hx hy=>by rw[qi]at hx hy;obtain⟨r,hr,rfl⟩:=qV.mp hx;obtain⟨us,hu,rfl⟩:=qV.mp hy;exact rQ (k:=17) (fun u hu'=>hf u (lr us (qd hu) u hu')) (h i r us hr hu))
 have e2:Zk S 19 (.ref n)=some (Qz zs ks):=rQ (k:=18) (fun u hu=>hf u (lk u hu)) hn;show(zT (Zk S 19) [.ref m,.ref n]).map PyData.tuple=_
 have e3:zT (Zk S 19) [.ref m,.ref n]=some [.list (rs.map (Qz zs)),Qz zs ks]:=by unfold zT zT zT;rw[e1,e2]
 rw[e3];rfl
def HJ (zs:List Str)(us:List Nat):Cell:=.lst ((us.map (Z5 zs)).map D.str)
def MF (S4 S:Z7)(N:Nat)(P:Nat->Prop):Prop:=(∃ G,S=S4++G)/\S.length=N/\∀ x,P x->∃ xs,S[x]?=some (.lst xs)
theorem MF.set (h:MF S4 S N P){x:Nat}(hx:S4.length<=x):MF S4 (S.set x (.lst [])) N P:=by
 obtain⟨⟨G,rfl⟩,l,c⟩:=h;refine⟨⟨G.set (x-S4.length) (.lst []),RD _ _ hx⟩,by rw[Xb];exact l,fun y hy=>?_⟩;by_cases e:x=y
 ·subst e;obtain⟨xs,h⟩:=c x hy;exact⟨[],qU (zu h)⟩
 ·rw[qP e];exact c y hy
abbrev oX:DS :=
    (zj (zq (dCall CZ Y5) Wf)
 (zj (zq Wh Ys)
 (zj (zq (dCall Bw Yy) YD)
 (zj (zq (Z6 oMod (dCall Jh (zc Z4 (zc ZJ zm))) (dC (.int 1000000000000000000000000000000))) YH)
 (zj (zq (Z6 Zo (Yi "first" ZS) (Z6 oMod Zy Qh)) Yt)
 (zj (zq (dCall Fq (zc ZS (zc Y6 Yn))) VN)
 (zj (zq (dCall Av (zc ZV Lb)) Tn)
 (zj (YJ (RP (zc (dB Rr (zc Ln (zc (dB Zg Ug) zm))) zm)) JF (zj (zq (Z6 ZL Vs (Z6 oMod (Z6 Zo (Z6 oDiv Zy Qh) (Z6 YZ RX Qi)) (dB Zg Ug))) (YL 2 (zJ CP (zJ vq YW))))
 (zj (zq (dCall Jr (zc ZS (zc Y6 (zc Pu Bb)))) (YL 2 (zJ wC (zJ xH YW))))
 (zj (zq (dCall Di (zc ZV (zc W7 (zc Pu Bb)))) zzg)
 (zj (ZD (Vy (dT (Z6 Yh (dB Zg mj) xZ)) (dT (Z6 Yh (dB Zg rN) xZ))) (zE (dC (.bl false))) zK)
 (zj (zq (dTup (zc (Zf 1 [] (Zn NP) YT XH (dB U0 Y5)) (zc (dB U0 mj) zm))) zyK)
 (zj (YJ (Zn (dB U0 rN)) Ϙ (Za (dM PN zyV zm)))
 (zj (Za (dM PN NP zm))
 (zj (Za (dM PN Ge zm))
 (ZD (dT (Z6 Yh (dCall Jr (zc ZS (zc Y6 (zc Pu Bb)))) zyM)) (zE (dC (.bl false))) zK))))))))))
 (zE (dC (.bl true)))))))))))
def ŏ:BodyOk 16 oX Pj:=by
 rintro ds S Q ⟨ns,rfl,⟨_,hg⟩,hl,q⟩;unfold oX;walk_at"g";refine⟨ns,rfl,hl,fun T a b c zs ps fs hz f w ha hb hc=>?_⟩;walk_at"g";refine⟨a,b,c,zs,ps,fs,hz,f,rfl,w,ha,hb,hc,fun T2 v V hv ok hzs hf0 hf1=>?_⟩;have ha2:Lst (S++T++T2) a (zs.map D.str):=ha.old;generalize S++T++T2=S2 at hv ha2;walk_at"g";refine⟨ns,1,rfl,by decide,fun c1=>?_⟩;obtain⟨vn,vg,vb,vf,rfl,hv1,hv2⟩:=id hv;walk_at"g";have t0:=Ru (c1%1000000000000000000000000000000) (b:=6) (by decide);have t1:=Rz (c1%1000000000000000000000000000000) (b:=6) (by decide);generalize c1%1000000000000000000000000000000=t at t0 t1;have hh0:V.h0<=V.h0+t%6:=by lia
 have hh1:V.h0+t%6<=V.h1:=by lia
 generalize V.h0+t%6=hour at hh0 hh1;refine⟨_,V,hour,a,zs,rfl,hv,ok,hzs,ha2,hh0,hh1,fun T3 y hn=>?_⟩;have hv3:Ze (S2++T3) (.ref vn) V:=hv.old;have ha3:Lst (S2++T3) a (zs.map D.str):=ha2.old;generalize S2++T3=S3 at hn hv3 ha3;clear hv ha2 hv1 hv2;walk_at"g";refine⟨a,zs,y,V,hour,rfl,ha3,ok,hzs,hn,fun T4 n4 prs4 hp4 lp4 hn4=>?_⟩;have hv4:Ze (S3++T4) (.ref vn) V:=hv3.old;have ha4:Lst (S3++T4) a (zs.map D.str):=ha3.old;have hn4':Wm (S3++T4) y V hour:=hn.old;generalize S3++T4=S4 at hn4 hv4 ha4 hn4';clear hn hv3 ha3;walk_at"g";walk_at"h";have nd:zs.Nodup:=by rw[<- hzs];exact ok.nd
 have flz:∀ u,u<zs.length->fl 20 (.str (Z5 zs u))=true:=fun u hu=>ok.flN _ (by rw[hzs];exact qd (VG hu))
 rw[qa];refine⟨_,rfl,by lia,by lia,?_⟩;refine XM (fun i Z S'=>∃ (G:Z7) (w8 w9 w10 w11 w12 w13 w14 w15:Option D),S'=S4++G/\Z=[some (.rl (ns.map D.int)),some (.tup [a,b,c,.int hz,.int f,.int (f+5)]),some a,some (.ref vn),some (.int t),some (.int hour),some y,some (.ref n4),w8,w9,w10,w11,w12,w13,w14,w15]) ⟨[],_,_,_,_,_,_,_,_,(qY _).symm,rfl⟩ (fun _ _ _ _=>True.intro) ?_ ?_
 ·rintro i d Z S' hd ⟨G,w8,w9,w10,w11,w12,w13,w14,w15,rfl,rfl⟩;obtain⟨hi,rfl⟩:=J9 hd;rw[Int.zero_add];have l0:0<prs4.length:=by lia
  have kp:Lst (S4++G) (.ref n4) (prs4.map Y4):=Lst.here (zy hn4);walk_at"g";rw[qa];have r1:=Ru (t/6+5*(i:Int)) (show(prs4.length:Int)≠0 by lia);have r2:=Rz (t/6+5*(i:Int)) (show(0:Int)<prs4.length by lia);obtain⟨q0,hq0⟩:∃ q0:Nat,(t/6+5*(i:Int))%prs4.length=(q0:Int):=⟨_,(Int.toNat_of_nonneg r1).symm⟩
  rw[hq0]at r2;obtain⟨⟨one,two⟩,hp⟩:∃ p,prs4[q0]?=some p:=⟨_,qb (by lia)⟩
  refine oO (by lia) ?_;rw[hq0];refine rB kp (Lq (by rw[qi,hp];rfl)) ?_;obtain⟨m1,m2,ne,nad⟩:=hp4 _ (qd hp);obtain⟨s,hs,rfl⟩:=Fv hzs.symm (hzs.symm▸m1);obtain⟨t',ht,rfl⟩:=Fv hzs.symm (hzs.symm▸m2);have okW:Zv (ZM V hour s t'):=Ga (hzs.symm▸hs) (hzs.symm▸ht) (hzs.symm▸nad);walk_at"g";refine⟨_,V,hour,s,t',zs,rfl,hv4.old,ok,hzs.symm,hs,ht,hh0,hh1,nad,fun T5 m n rs ks js AE At ln=>?_⟩;rw[qk]at At ⊢;generalize G++T5=G5 at At;have ln:S4.length<=n:=by rw[qf]at ln;lia
  have A:=AE.ans;have lA:=A.len hzs.symm okW;obtain⟨e1,e2,lk,_⟩:=A.ends okW
  have nks:∀ {i},i<zs.length->i∉ks->Z5 zs i∉ks.map (Z5 zs):=fun hi h z=>by obtain⟨k,hk',e⟩:=qC.mp z;exact h (Xp nd (lk k hk') hi e▸hk')
  have ek:(W8 (Z5 zs s) (Z5 zs t') zs).filter (fun z=>decide (z∈ks.map (Z5 zs)))=ks.map (Z5 zs):=by
   refine Eq.trans ?_ (A.kflt nd);unfold W8;rw[List.filter_filter];refine Rx fun z hz=>?_
   by_cases g:z∈ks.map (Z5 zs)
   ·rw[decide_eq_true (show z≠Z5 zs s/\z≠Z5 zs t' from ⟨fun e=>nks hs e1 (e▸g),fun e=>nks ht e2 (e▸g)⟩),Bool.and_true]
   ·rw[decide_eq_false g,Wu]
  walk_at"g";refine⟨a,y,V,hour,_,_,zs,ks.length,fun z=>decide (z∈ks.map (Z5 zs)),rfl,ok,hzs.symm,ha4.old,hn4'.old,m1,m2,fun K hK nc=>?_,by rw[ek,qa],by rw[ek];exact A.cut nd hzs.symm okW,fun T6=>?_⟩
  ·rw[<- lA];exact A.any nd hzs.symm okW (fun z=>(hK _ z).1 rfl) (fun z=>(hK _ z).2 rfl) nc
  have hm6:(S4++G5++T6)[m]?=some (.lst (js.map fun j=>.ref (m+(j+1)))):=zy At.r;have hn6:(S4++G5++T6)[n]?=some (.lst ((ks.map (Z5 zs)).map D.str)):=zy At.k;have hr6:∀ (i:Nat) j us,js[i]?=some j->rs[i]?=some us->(S4++G5++T6)[m+(j+1)]?=some (HJ zs us):=fun i j us a b=>zy (At.at' i j us a b)
  have e6:∃ G6,S4++G5++T6=S4++G6:=⟨_,qk ..⟩
  generalize S4++G5++T6=S6 at hm6 hn6 hr6 e6;have kk:∀ T,Lst (S6++T) (.ref n) ((ks.map (Z5 zs)).map D.str):=fun T=>Lst.here (zy hn6)
  have kr:∀ T,Lst (S6++T) (.ref m) (js.map fun j=>.ref (m+(j+1))):=fun T=>Lst.here (zy hm6)
  have kk0:Lst S6 (.ref n) ((ks.map (Z5 zs)).map D.str):=Lst.here hn6;have kr0:Lst S6 (.ref m) (js.map fun j=>.ref (m+(j+1))):=Lst.here hm6;have lj:=At.l;have h12:zs.length<=12:=by rw[<- hzs,qa];exact ok.b12
  have lks:ks.length<=12:=by
   have h1:=(A.ends okW).2.2;have:=QD (N:=List.range zs.length) h1.2 fun y hy=>List.mem_range.mpr (h1.1 y hy)
   rw[Uq]at this;lia
  walk_at"g";rw[if_neg (by simp)];walk_at"g";rw[if_neg (by simp[lj,lA])];walk_at"g";refine Mi (fun i ys S'=>S'=S6++(rs.take i).map (HJ zs)/\ys=((List.range i).map fun k=>S6.length+k).map D.ref) ⟨by simp,rfl⟩ (fun i ys S' e=>e.1▸kr _) (by rw[qa];unfold big;lia) ?_ ?_
  ·rintro i d ys S' hd ⟨rfl,rfl⟩;rw[qi]at hd;obtain⟨j,hj,ed⟩:=qV.mp hd;have ed:d=.ref (m+(j+1)):=ed.symm;subst ed;have li:=zu hj;obtain⟨us,hus⟩:∃ us,rs[i]?=some us:=⟨_,qb (by lia)⟩
   have lr:=zu hus;walk_at"g";refine vW (Lst.here (zy (hr6 i j us hj hus))) (WT ?_);walk_at"g";refine⟨by rw[WY hus,qB];rfl,?_⟩;rw[Lk,qB,qB,qa,V7,Nat.min_eq_left (by lia)];rfl
  rintro ys S' ⟨rfl,rfl⟩;rw[qa,lj,Vb];refine WT ?_;walk_at"g";obtain⟨K,hK⟩:∃ K:Z7,K=rs.map (HJ zs)++[Cell.lst (((List.range rs.length).map fun k=>S6.length+k).map D.ref)]++[Cell.lst ((ks.map (Z5 zs)).map D.str)]++[Cell.lst (js.map fun j=>D.ref (m+(j+1)))]:=⟨_,rfl⟩
  have k1:K[rs.length]?=some (Cell.lst (((List.range rs.length).map fun k=>S6.length+k).map D.ref)):=by rw[hK,qk,qk,qe (by simp)];simp
  have k2:K[rs.length+1]?=some (Cell.lst ((ks.map (Z5 zs)).map D.str)):=by rw[hK,qk,qk,qe (by simp)];simp
  have k3:K[rs.length+2]?=some (Cell.lst (js.map fun j=>D.ref (m+(j+1)))):=by rw[hK,qk,qk,qe (by simp)];simp
  have k4:∀ (i:Nat) us,rs[i]?=some us->K[i]?=some (HJ zs us):=fun i us h=>by rw[hK,qk,qk,qg (by rw[qa];exact zu h),qi,h];rfl
  rw[<- hK];simp only[qf,qa,qM,Ra]
  have C0:MF S4 S6 S6.length (fun x=>x=m\/x=n\/∃ j∈js,x=m+(j+1)):=by
   refine⟨e6,rfl,fun x hx=>?_⟩;rcases hx with rfl|rfl|⟨j,hj,rfl⟩
   ·exact⟨_,hm6⟩
   ·exact⟨_,hn6⟩
   ·obtain⟨i,hi⟩:=qS.mp hj;have:=zu hi;exact⟨_,hr6 i j _ hi (qb (by lia))⟩
  have lo6:S4.length<=m:=by have:=At.lt;lia
  obtain⟨N,hN⟩:∃ N,N=S6.length:=⟨_,rfl⟩
  rw[<- hN]at C0 k1 ⊢;clear hm6 hn6 hr6 kk kr kk0 kr0 e6 hK;refine XM (fun i' Z S'=>∃ (S7:Z7) (w:Option D),S'=S7++K/\MF S4 S7 N (fun x=>x=m\/x=n\/∃ j∈js,x=m+(j+1))/\Z=[some (.rl (ns.map D.int)),some (.tup [a,b,c,.int hz,.int f,.int (f+5)]),some a,some (.ref vn),some (.int t),some (.int hour),some y,some (.ref n4),some (.int i),some (.str (Z5 zs s)),some (.str (Z5 zs t')),some (.ref m),some (.ref n),some (.int ks.length),some (.tup [.ref (N+rs.length),.ref (N+(rs.length+1))]),w]) ⟨S6,_,rfl,C0,rfl⟩ (by rintro _ Z S' ⟨S7,_,e,C,_⟩;exact by rw[e,<- C.2.1];exact Lst.here ((zQ S7 K _).trans k3)) ?_ ?_
  ·rintro i' d Z S' hd ⟨S7,w15,rfl,C,rfl⟩;rw[qi]at hd;obtain⟨j,hj,ed⟩:=qV.mp hd;have ed:d=.ref (m+(j+1)):=ed.symm;subst ed;obtain⟨xs,hxs⟩:=C.2.2 (m+(j+1)) (.inr (.inr ⟨j,qd hj,rfl⟩));walk_at"g";refine Dn (zy hxs) (W2 ?_);rw[HY _ _ (zu hxs)];walk_at"g";exact⟨_,_,rfl,C.set (by lia),rfl⟩
  rintro Z S' ⟨S7,w15,rfl,C,rfl⟩;obtain⟨xs,hxs⟩:=C.2.2 m (.inl rfl);walk_at"g";refine Dn (zy hxs) (W2 ?_);rw[HY _ _ (zu hxs)];have C:=C.set lo6;generalize S7.set m (.lst [])=S8 at C;obtain⟨xs,hxs⟩:=C.2.2 n (.inr (.inl rfl));walk_at"g";refine Dn (zy hxs) (W2 ?_);rw[HY _ _ (zu hxs)];have C:=C.set ln;generalize S8.set n (.lst [])=S9 at C;obtain⟨⟨G9,rfl⟩,l9,_⟩:=C;walk_at"g";refine⟨_,V,hour,s,t',zs,rfl,hv4.old.old,ok,hzs.symm,hs,ht,hh0,hh1,nad,fun T9 m' n' rs' ks' js' AE' At' ln'=>?_⟩;obtain⟨rfl,rfl⟩:=AE.one nd hzs.symm okW AE'
  have lr:∀ us∈rs,∀ u∈us,u<zs.length:=fun us hus u hu=>by obtain⟨i,hi⟩:=qS.mp hus;exact(A.idx hzs.symm okW hi).2.2.2.2.1 u hu
  have E1:Zk (S4++G9++K++T9) 20 (.tup [.ref m',.ref n'])=some _:=yK (rfs:=js'.map fun j=>m'+(j+1)) flz lk lr (by rw[Yg];exact At'.r) At'.k (by rw[qa];exact At'.l) fun i r us hr hu=>by rw[qi]at hr;obtain⟨j,hj,rfl⟩:=qV.mp hr;exact At'.at' i j us hj hu
  have gK:∀ {k c},K[k]?=some c->(S4++G9++K++T9)[N+k]?=some c:=fun h=>zy (by rw[<- l9];exact(zQ _ K _).trans h)
  have E2:Zk (S4++G9++K++T9) 20 (.tup [.ref (N+rs.length),.ref (N+(rs.length+1))])=some _:=yK flz lk lr (gK k1) (gK k2) (by rw[qa,Uq]) fun i r us hr hu=>by rw[qi,Hz (zu hu)]at hr;cases hr;exact gK (k4 i us hu)
  walk_at"g";refine Ο E1 E2 ?_;walk_at"g";exact⟨G9++K++T9,_,_,_,_,_,_,_,_,by simp,rfl⟩
 ·rintro Z S' ⟨G,w8,w9,w10,w11,w12,w13,w14,w15,rfl,rfl⟩;walk_at"g";exact fin_same (q _)
end Dp
namespace Law
open PySem PySem.Spec PyProof.Rows L2 My Dp
def top (i:Nat):Stmt:=PySem.Challenge.pw_beaconvale_k80_whole_no_fewer_keepers.main.body.getD i (.Pass ⟨0,0,0,0⟩)
def bs:List (Str×Y8):=[ent "len" (.blt .len),
 ent "range" (.blt .range),
 ent "enumerate" (.blt .enum),
 ent "list" (.blt .list),
 ent "all" (.blt .all),
 ent "set" (.blt .set),
 ent "abs" (.blt .abs),
 ent "int" (.blt .int),
 ent "isinstance" (.blt .isi),
 ent "bool" (.blt .bool),
 ent "tuple" (.blt .tuple),
 ent "zip" (.blt .zip),
 ent "min" (.blt .min),
 ent "max" (.blt .max),
 ent "LEAST_CORNERS" (.int 2),
 ent "MOST_CORNERS" (.int 40),
 ent "MOST_BEACONS" (.int 12),
 ent "MOST_FOGS" (.int 12),
 ent "MOST_LETTERS" (.int 8),
 ent "LETTERS" (.str "abcdefghijklmnopqrstuvwxyz"),
 ent "NUMBERS" (.int 8),
 ent "LEFT" (.int 0),
 ent "RIGHT" (.int 1),
 ent "LOW" (.int 2),
 ent "HIGH" (.int 3),
 ent "FIRST" (.int 4),
 ent "LAST" (.int 5),
 ent "DRIFT" (.int 6),
 ent "RISE" (.int 7),
 ent "INWARD" (.int 0),
 ent "OUTWARD" (.int 1)]
def F:List (Str×Stmt×Y8):=[zH "_law_cell_at" (top 78) (.fn 1 ["script","k"] Jh),
 zH "_law_mixed" (top 79) (.fn 1 ["cell","k"] MN),
 zH "_law_seeds" (top 80) (.fn 2 ["cells","most"] Gr),
 zH "_law_web_parts" (top 81) (.fn 3 ["script"] CZ),
 zH "refuse_bad_corners" (top 37) (.fn 1 ["corners"] Cd),
 zH "refuse_bad_numbers" (top 51) (.fn 1 ["beacons","fogs"] Cw),
 zH "is_name" (top 50) (.fn 1 ["text"] FP),
 zH "refuse_bad_names" (top 52) (.fn 2 ["names"] Hi),
 zH "less" (top 31) (.fn 1 ["one","other"] NZ),
 zH "is_on" (top 39) (.fn 2 ["ground","place"] Jj),
 zH "common_divisor" (top 29) (.fn 1 ["one","other"] Gf),
 zH "fraction" (top 30) (.fn 2 ["top","bottom"] Ad),
 zH "height_on" (top 33) (.fn 3 ["one","other","place"] CG),
 zH "ground_at" (top 40) (.fx 4 ["ground","place"] Fz),
 zH "stands" (top 41) (.fn 5 ["ground","spot"] Kl),
 zH "refuse_bad_tops" (top 53) (.fn 6 ["ground","beacons"] Gh),
 zH "is_whole" (top 12) (.fn 1 ["value"] BL),
 zH "is_fog" (top 23) (.fn 2 ["value"] Ae),
 zH "refuse_bad_fogs" (top 54) (.fn 3 ["fogs"] CJ),
 zH "refuse_bad_hours" (top 55) (.fn 1 ["haze","first","last","delay"] Fb),
 zH "_law_valley" (top 82) (.fn 9 ["parts"] Bw),
 zH "refuse_no_hour" (top 60) (.fx 1 ["valley","hour"] Ik),
 zH "names_of" (top 57) (.fn 1 ["valley"] RB),
 zH "pairs_of" (top 58) (.fn 2 ["valley"] Hl),
 zH "spot_of" (top 59) (.fx 1 ["valley","name"] J7),
 zH "refuse_not_standing" (top 42) (.fx 6 ["ground","spot"] HX),
 zH "numbers_between" (top 43) (.fn 1 ["ground","x","other_x"] Az),
 zH "side_of" (top 32) (.fn 1 ["one","other","spot"] Dc),
 zH "hinder" (top 44) (.fx 7 ["ground","one","other"] Hj),
 zH "square_between" (top 61) (.fn 1 ["one","other"] Dd),
 zH "hidden_always" (top 62) (.fn 8 ["valley","one","other"] EY),
 zH "moved" (top 24) (.fn 1 ["fog","hours"] G8),
 zH "box_at" (top 25) (.fn 2 ["fog","hour"] Fw),
 zH "margins" (top 26) (.fn 1 ["box","one","other"] Bp),
 zH "meets" (top 27) (.fn 2 ["box","one","other"] Du),
 zH "hidden" (top 63) (.fx 9 ["valley","name","other","hour"] Jy),
 zH "web_at" (top 64) (.fx 10 ["valley","hour"] Jz),
 zH "_law_near" (top 83) (.fn 11 ["valley","hour","names"] Fq),
 zH "_law_pairs" (top 85) (.fn 1 ["names","near"] Av),
 zH "refuse_beside" (top 68) (.fn 10 ["valley","hour","name","other"] Ah),
 zH "others_than" (top 69) (.fn 2 ["valley","name","other"] BK),
 zH "room_at_first" (top 70) (.fn 11 ["valley","hour","name","other"] Cg),
 zH "points_from" (top 71) (.fn 1 ["room","start"] KQ),
 zH "take_road" (top 72) (.fn 1 ["room","found","goal"] BX),
 zH "room_at_last" (top 73) (.fn 12 ["valley","hour","name","other"] Ft),
 zH "steps_taken" (top 74) (.fn 2 ["valley","room","one"] Jc),
 zH "roads_taken" (top 75) (.fn 3 ["valley","room","name","other"] Gx),
 zH "roads_and_keepers" (top 76) (.fn 13 ["valley","hour","name","other"] Jr),
 zH "_law_met" (top 84) (.fn 1 ["near","name","shut"] Fy),
 zH "_law_fewest" (top 86) (.fn 2 ["names","near","one","two"] Di),
 zH "law" (top 88) (.fn 14 ["script"] Pj)]
def C:List (Str×Stmt×Y8):=[zH "Ground" (inClass (top 38) 0) (.cl 2 (RZ "Ground" Gz)),
 zH "Valley" (inClass (top 56) 0) (.cl 7 (RZ "Valley" Fo))]
def G:Gm:={ g:=bs++(F++C).map fun r=>(r.1,r.2.2),r:=["OffGround","BadHour","NoBeacon"],t:=[],i:=[],f:=[("Ground","corners"),("Valley","ground"),("Valley","beacons"),("Valley","fogs"),("Valley","haze"),("Valley","first"),("Valley","last"),("Valley","delay")] }
def R:Iv G [] bs F C:=⟨rfl,
 .cons (.fn (M:=[]) Ļ [] false (by kernel_rfl)) <|
 .cons (.fn (M:=["big"]) zjO [] false (by kernel_rfl)) <|
 .cons (.fn (M:=["seeds","k","cell","at"]) Ð [] false (by kernel_rfl)) <|
 .cons (.fn (M:=["head","count","seeds","spots","names","haze","first","fogs","seed","m","begin","box"]) iD [] false (by kernel_rfl)) <|
 .cons (.fn (M:=["k"]) j4 [] false (by kernel_rfl)) <|
 .cons (.fn (M:=[]) zd4 [] false (by kernel_rfl)) <|
 .cons (.fn (M:=[]) zll [] false (by kernel_rfl)) <|
 .cons (.fn (M:=[]) Ϝ [] false (by kernel_rfl)) <|
 .cons (.fn (M:=[]) d8 [] false (by kernel_rfl)) <|
 .cons (.fn (M:=["first","last"]) zoF [] false (by kernel_rfl)) <|
 .cons (.fn (M:=["rest"]) iw [] false (by kernel_rfl)) <|
 .cons (.fn (M:=["divisor"]) zj6 [] false (by kernel_rfl)) <|
 .cons (.fn (M:=["run","rise","top"]) aM [] false (by kernel_rfl)) <|
 .cons (.fx (M:=["corners","k"]) cj [] false (by kernel_rfl)) <|
 .cons (.fn (M:=["place"]) cP [] false (by kernel_rfl)) <|
 .cons (.fn (M:=[]) È [] false (by kernel_rfl)) <|
 .cons (.fn (M:=[]) fQ [] false (by kernel_rfl)) <|
 .cons (.fn (M:=[]) bD [] false (by kernel_rfl)) <|
 .cons (.fn (M:=[]) đ [] false (by kernel_rfl)) <|
 .cons (.fn (M:=[]) ze3 [] false (by kernel_rfl)) <|
 .cons (.fn (M:=["names","spots","fogs","haze","first","last","beacons"]) zic [] false (by kernel_rfl)) <|
 .cons (.fx (M:=[]) ώ [] false (by kernel_rfl)) <|
 .cons (.fn (M:=[]) bK [] false (by kernel_rfl)) <|
 .cons (.fn (M:=["names","found","k","name","other"]) zj2 [] false (by kernel_rfl)) <|
 .cons (.fx (M:=["beacon"]) fY [] false (by kernel_rfl)) <|
 .cons (.fx (M:=[]) zdZ [] false (by kernel_rfl)) <|
 .cons (.fn (M:=["low","high"]) à [] false (by kernel_rfl)) <|
 .cons (.fn (M:=["run","rise","over"]) bJ [] false (by kernel_rfl)) <|
 .cons (.fx (M:=["k"]) Ŏ [] false (by kernel_rfl)) <|
 .cons (.fn (M:=["run","climb"]) ŕ [] false (by kernel_rfl)) <|
 .cons (.fn (M:=["corner","square"]) eU [] false (by kernel_rfl)) <|
 .cons (.fn (M:=["along","upwards"]) ū [] false (by kernel_rfl)) <|
 .cons (.fn (M:=[]) ţ [] false (by kernel_rfl)) <|
 .cons (.fn (M:=["run","climb","corners","across"]) zlt [] false (by kernel_rfl)) <|
 .cons (.fn (M:=[]) ģ [] false (by kernel_rfl)) <|
 .cons (.fx (M:=["one_top","other_top","found","k","fog","box"]) ji [] false (by kernel_rfl)) <|
 .cons (.fx (M:=[]) zmI [] false (by kernel_rfl)) <|
 .cons (.fn (M:=["near","name","one","two"]) eX [("near",some true)] false (by kernel_rfl)) <|
 .cons (.fn (M:=["told","one"]) zjn [("near",some true)] false (by kernel_rfl)) <|
 .cons (.fn (M:=[]) zf5 [] false (by kernel_rfl)) <|
 .cons (.fn (M:=[]) zhs [] false (by kernel_rfl)) <|
 .cons (.fn (M:=["room","each","plenty","one","another"]) zf0 [("room",none)] false (by kernel_rfl)) <|
 .cons (.fn (M:=["found","waiting","point","step","left"]) þ [("room",none),("found",some false)] false (by kernel_rfl)) <|
 .cons (.fn (M:=["point","ahead"]) zja [("room",none),("found",some false)] false (by kernel_rfl)) <|
 .cons (.fn (M:=["room","found"]) Ī [("room",none),("found",some false)] false (by kernel_rfl)) <|
 .cons (.fn (M:=[]) zhC [("room",none)] false (by kernel_rfl)) <|
 .cons (.fn (M:=["roads","start","road","each"]) Ϫ [("room",none)] false (by kernel_rfl)) <|
 .cons (.fn (M:=["room","found","keepers"]) á [("room",none),("found",some false)] false (by kernel_rfl)) <|
 .cons (.fn (M:=["met","at"]) jP [("near",some true)] false (by kernel_rfl)) <|
 .cons (.fn (M:=["others","fewest","mask","shut"]) ķ [("near",some true)] false (by kernel_rfl)) <|
 .cons (.fn (M:=["parts","names","valley","turn","hour","near","pairs","k","one","two","roads","keepers","due","kept","road"]) ŏ [("near",some true)] false (by kernel_rfl)) <| .nil,
 .cons (.cl (ps:=["self","corners"]) (M:=[]) zhp (by kernel_rfl)) <|
 .cons (.cl (ps:=["self","ground","beacons","fogs","haze","first","last","delay"]) (M:=[]) zhi (by kernel_rfl)) <| .nil⟩
def Î:(("law":Str),top 88,Y8.fn 14 ["script"] Pj)∈F:=by simp[F]
end Law
local macro_rules | `(tactic| walk_at"al")=>`(tactic| first | exact Dp.Al.nil | (refine Dp.Al.cons ?_ ?_;((try dsimp only[Dp.zH,Dp.ent]);walk_at"a1");walk_at"al"))
local macro_rules | `(tactic| walk_at"a1")=>`(tactic| first | (refine Dp.cJ rfl ?_;k_is) | (refine' Dp.Ŷ ?a;(case a=>k_is)) | (refine' Dp.é ?a;(case a=>k_is)) | (refine' Dp.zvp ?fa ?fl ?fc ?fk;(case fa=>k_is);(case fl=>k_is);(case fc=>k_is);(case fk=>k_is)) | (refine' Dp.gJ ?a ?q2 ?l ?cc ?k ?q1 ?q3 ?q4 ?q5 ?q6 ?q7 ?q8;(case a=>k_is);(case q2=>k_is);(case l=>k_is);(case cc=>k_is);(case k=>k_is);(case q1=>k_is);(case q3=>k_is);(case q4=>k_is);(case q5=>k_is);(case q6=>k_is);(case q7=>k_is);(case q8=>k_is)) | (refine' Dp.ù ?a ?b;(case a=>k_is);(case b=>kernel_rfl)) | (refine' Dp.zte ?a ?b;(case a=>k_is);(case b=>k_is)))
open PySem PySem.W PyProof.Rows
set_option genInjectivity false
set_option genSizeOf false
structure PySem.W.Fast where(tw210111120165591154 tw11687245310915101862 tw6198877257274817969 tw14254695741480748331 tw5016728152764254168 tw1305841700400373684 tw5770926274504795300 tw4244541251383431638 tw5804513345367771242 tw17299579547382053517 tw3532812650794442712 tw11733219709457309795 tw13678523021707060849 tw16928911751534185345 tw110809567063938068 tw24684239889458321 tw14620958859262006581 tw6732701299287134639 tw8077341850581465042 tw2064955223267220988 tw3354451216866339887 tw13811368204650216120 tw10932212640087195912 tw11746348618070870160 tw12222921558621429622 tw10225926637566867815 tw5463373314341632309 tw15622571876050757464 tw6727948299412791417 tw17721705709112372715 tw2221660550270526823 tw10736283857665916802 tw10621553393626294810 tw4642355313400666120 tw14955262536255922486 tw18333796092527644716 tw17678189789230112615 tw12482765502920627822 tw18372385964160838648 tw12666513035971559630 tw7549298811186278950 tw2808216386000862589 tw7427421362801755417 tw3527187083370399416 tw2917963387606139438 tw1984478069708982690 tw8119957204074259222 tw13570691527162010929 tw7798070075829480819 tw59284878321071221 tw11413205479326295668 tw11235477135350139166 tw5608367418406300205 tw10580127314552940495 tw6518989395044228553 tw3212283498040624246 tw14495868817589333919 tw15068462047342069101 tw6775644286456800422 tw16820645619728004774 tw4475008603106883368 tw10413268346387062018 tw3483765526749729971 tw1579809996230229669 tw10596316982628770621 tw11595259908270990646 tw10865687083048328267 tw4186015941249069610 tw14596693994639250233 tw17370255306641244056 tw12247433841639887070 tw11901740454554561045 tw2170076977267859302 tw17613420471492227746 tw5493612100540392724 tw9711919335602704106 tw5784420307551277104 tw1731212323856063750 tw12400472597451794417 tw2183152406180750003 tw6692358860611989674 tw5295616267712478388 tw5996743947137917943 tw11912115343801862287 tw1551382808021047972 tw7244842461166184705 tw7132791077328437002 tw15209200290878076538 tw17249973938564190186 tw6981411028818550243 tw13288608540304764447 tw15147185293996070840 tw1098840157535470728 tw13683513656809304248 tw11842297796913078464 tw12178396351953171767 tw17296664916500894147 tw16714505849120240313 tw14714395838368061772 tw14293347271631401762 tw10089938629900615315 tw5086746602440373446 tw3350995748207788569 tw10384235121118561496 tw16750062685295803175 tw8061742436069380059 tw4353469979573846035 tw4250818249888420896 tw15019230821231907621 tw17019206305876642875 tw4956031416214726156 tw13166711006872958490 tw7797628319605673357 tw5897506481153146617 tw8399539142930416973 tw11490843234575076488 tw12436508836890457549 tw16064917279392339333 tw1719844387365304138 tw8106159493438627879 tw8054975044863094986 tw18373922957711482323 tw11651557559274124621 tw15979481917732222768 tw1747706016189627938 tw11203731478335877072 tw3229295977307826019 tw5830392757296818107 tw17374400652641401967 tw16909971237452294183 tw5799928464123088306 tw17281514632631180052 tw13007310442991205963 tw16237861271491725114 tw14337197626661199493 tw5071829859460278128 tw14441260811527683592 tw10640626678312661757 tw15139495199852030544 tw5104516576930282792 tw9195166397371749715 tw8783631415936423950 tw16311214138726529257 tw1374668347337798242 tw9186174695002594905 tw1050077878601679899 tw17025534657799856551 tw15216417574669239484 tw5575545632670168529 tw8393391322351493940 tw10135500376419396593 tw2644443475696965732 tw12363080019943909667 tw9346837220071451950 tw3896477335134560237 tw15505561535539607670 tw397643814676426579 tw7759294864943017918 tw14420493198089737938 tw8160827618474061328 tw585822129011614105 tw17170379967995017249 tw17095469037500289750 tw16465598697966772547 tw12039852676610291778 tw6128884149235260904 tw17265967819225620701 tw5794596536965866122 tw11748262726879160711 tw15959888654610049970 tw17339316850006901777 tw9420509866478746922 tw9269905757598941500 tw8600240496757348740 tw7548258250356019585 tw5664498820245018006 tw5568297430985975437 tw4027323562941369196 tw16846255379330483277 tw14617594332207839338 tw11009395893388626971 tw2532985024102563389 tw10058774772633962252 tw6893072671853114755 tw13538302184088301409 tw13987335680805705549 tw17314105207176115528 tw2817067667420243135 tw9255102830915075690 tw10393296062160256055 tw11941487616249673935 tw6081526856371040448 tw8517379023584040843 tw5448238920267492587 tw15616107052077632219 tw14991212903705831723 tw3933690322627441782 tw14122835004173616381 tw562462239779673437 tw17227616292505713947 tw17674958912082158115 tw11241692697441414121 tw6021239173909191354 tw6604052196135883440 tw12715037822897459377 tw13664983503501045991 tw13093664199534555798 tw12089478353302019967 tw9986995975709932945 tw5382475368189917238 tw14095516700828664159 tw5010627389016340717 tw3808548133636174635 tw12373034747584859628 tw9050192741537027892 tw13428759083918839620 tw7804253001609416306 tw7705683173452212523 tw4326378356512715615 tw14892631020802477914 tw1255614928755932687 tw55749860174174903 tw10303970873676542141 tw13185248676766344537 tw11047992845472202136 tw10428960752156933646 tw5344824663028058357 tw8056672561754880323 tw7074155514712598121 tw663576824643334790 tw2811734053006418444 tw838260500889989671 tw4910169203440625428 tw5896462499467060894 tw660565228575284085 tw1119522840632443836 tw17031233064345533371 tw13933807818999133978 tw11995025188673037427 tw10011555856040483357 tw7753945828660184198 tw11351070035883591701 tw12270268265836557480 tw2021295334630932916 tw14045624371396862051 tw13411055712718990748 tw11067889260868107583 tw7250099564966196942 tw69708636496156987 tw2017226146525334076 tw2171720274164730637 tw14818091267372453826 tw12044290201346571837 tw10451684521596290426 tw11842810737167630020 tw18316217187231164194 tw15084930710552979685 tw17188008569072067593 tw14896876706479385186 tw7998503868255294700 tw671076442595246139 tw1604859644039817731 tw11083326856147437876 tw5824414500570717718 tw15480368521438209847 tw9229190752440659660 tw17318752616280449481 tw16527638764464547241 tw9920056080295150544 tw7762766144869978073 tw11260783658251461593 tw16663878302341994518 tw7600456546096183901 tw17043112568745941586 tw16316102948494309834 tw10318964418661501082 tw17223061661876538741 tw13636083920458008800 tw9122146357356860270 tw11305372841457611752 tw10205842975700751606 tw6729858739210660783 tw11249934425009678786 tw4873120911806447413 tw16860495720518832498 tw5229254267536557883 tw10296306995865413445 tw1503263374715376341 tw16974536755457450336 tw6244211031801551642 tw10004625407529940054 tw2567532741176148749 tw9832274330715686947 tw8570624656760690820 tw16628419216857281678 tw12907473727487569037 tw15684453591578190061 tw13195100602235214415 tw12893133377258334844 tw8295708379024169260 tw3327809589435143949 tw2770923774128862726 tw9913206500122763783 tw8216949147613913723 tw8146235990164858424 tw6834477170961665443 tw6741238064841772094 tw1794092106427938042 tw17021112277920016148 tw16155951966696448384 tw14891679211882003301 tw13800568734799168341 tw2227444705793476485 tw9596363865975694465 tw4917299886843750340 tw16593313075792866531 tw16607815720790746853 tw12116988034546287037 tw3406490777454203455 tw3326885174557093990 tw11990692349839245377 tw3341091909753120585 tw17893924921913044285 tw9472750118413167323 tw19601112665320947 tw11877699989277516454 tw7715832540094651100 tw1372091050440916356 tw9114564857525116643 tw6743601588362874912 tw9793237507484064850 tw9211631648589403493 tw8000931319344257024 tw6438973143243665714 tw5298362426705277886 tw392690208367321674 tw2614981866996826328 tw17850076324152808930 tw17587175657813351691 tw16806189448375246260 tw15539969521011706305 tw13255337696603379960 tw9876167099206977586 tw9393744535676164239 tw7317271133535215443 tw6906458443989218342 tw6829004797332124119 tw5447985935643216780 tw333633265946840359 tw17161601693726213477 tw13193461132910014365 tw12427769151165572070 tw11657094373287935300 tw10162958461611139163 tw13881887810391778462:Prop)
set_option maxRecDepth 100000 in
set_option maxHeartbeats 0 in
theorem PySem.Challenge.cw_beaconvale_k80_whole_no_fewer_keepers_holds : PySem.Challenge.rw_beaconvale_k80_whole_no_fewer_keepers.Holds := by
  w_on; o_law; k_head; (case hw => w_witness2)
  k_fill
  refine Dp.zmT (l := PySem.Challenge.rw_beaconvale_k80_whole_no_fewer_keepers) 13 rfl rfl rfl ⟨rfl, by decide, by decide⟩ (fun w h Y => PySem.W.kIn_of Y) Law.R Law.Î fun w => ?_
  constructor <;> walk_at "al"
#print axioms PySem.Challenge.cw_beaconvale_k80_whole_no_fewer_keepers_holds
