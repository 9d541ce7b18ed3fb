import PyProof.Rows.All
import Wide.All
import OpenK.AllK
import Wide.FinOn
import Lean
import PyProof.EqAt
import PyProof.EqKinds
import PyProof.TupleCall
import PyProof.NeData
import PyProof.P3Eq
import PyProof.StrLawsIn
import PySem.Challenge.RW_beaconvale_k97_whole_seen_and_clear
set_option Elab.async false
set_option linter.all false
set_option maxRecDepth 100000
set_option maxHeartbeats 4000000
set_option Elab.async false
set_option linter.all false
set_option maxRecDepth 100000
namespace L2
open PySem PySem.Spec PyProof.Rows
abbrev Key := Sum Int Str
def keyIs : Key → Value → Bool
  | .inl k, v => Value.isInt k v
  | .inr x, v => Value.isStrOf x v
def keyH (w : World) : Key → Int
  | .inl k => hashInt k
  | .inr x => hashStr w x
theorem keyIs_shape : ∀ {k : Key} {v : Value}, keyIs k v = true → (∃ i t, k = Sum.inl i ∧ v = Value.int i t) ∨ (∃ x t, k = Sum.inr x ∧ v = Value.str x t)
  | .inl i, v, h => by
    obtain ⟨t, e⟩ := Value.isInt_shape (k := i) (v := v) h
    exact .inl ⟨i, t, rfl, e⟩
  | .inr x, v, h => by
    obtain ⟨t, e⟩ := Value.isStrOf_shape (x := x) (v := v) h
    exact .inr ⟨x, t, rfl, e⟩
theorem key_ll (a b : Int) : decide ((Sum.inl a : Key) = Sum.inl b) = (a == b) := by
  by_cases e : a = b
  · subst e; simp
  · have h : ¬ (Sum.inl a : Key) = Sum.inl b := fun q => e (Sum.inl.inj q)
    rw [decide_eq_false h]
    exact (beq_eq_false_iff_ne.mpr e).symm
theorem key_rr (a b : Str) : decide ((Sum.inr a : Key) = Sum.inr b) = decide (a = b) := by
  by_cases e : a = b
  · subst e; simp
  · have h : ¬ (Sum.inr a : Key) = Sum.inr b := fun q => e (Sum.inr.inj q)
    rw [decide_eq_false h, decide_eq_false e]
theorem key_lr (a : Int) (b : Str) : decide ((Sum.inl a : Key) = Sum.inr b) = false := decide_eq_false (fun q => nomatch q)
theorem key_rl (a : Str) (b : Int) : decide ((Sum.inr a : Key) = Sum.inl b) = false := decide_eq_false (fun q => nomatch q)
def mixKind (prog : Program) (w : World) : PySem.KeyKind prog w Key where
  is := keyIs
  hash := keyH w
  inj := fun v a b ha hb => by
    rcases keyIs_shape ha with ⟨i, t, rfl, rfl⟩ | ⟨x, t, rfl, rfl⟩
    · rcases keyIs_shape hb with ⟨j, u, rfl, e⟩ | ⟨y, u, rfl, e⟩
      · injection e with e1 _; rw [e1]
      · exact nomatch e
    · rcases keyIs_shape hb with ⟨j, u, rfl, e⟩ | ⟨y, u, rfl, e⟩
      · exact nomatch e
      · injection e with e1 _; rw [e1]
  byValue := fun k v h => by
    rcases keyIs_shape h with ⟨i, t, rfl, rfl⟩ | ⟨x, t, rfl, rfl⟩ <;> rfl
  pyHash := fun hv h => by
    rcases keyIs_shape hv with ⟨i, t, rfl, rfl⟩ | ⟨x, t, rfl, rfl⟩
    · exact wpAny_pyHash_int h
    · exact wpAny_pyHash_str h
  eqBool := fun hu hv h => by
    rcases keyIs_shape hu with ⟨i, t, rfl, rfl⟩ | ⟨x, t, rfl, rfl⟩
    · rcases keyIs_shape hv with ⟨j, u, rfl, rfl⟩ | ⟨y, u, rfl, rfl⟩
      · rw [key_ll] at h; exact wpAny_eqBool_int h
      · rw [key_lr] at h; exact SeqAt.EqAt.int_str i t y u _ _ _ _ h
    · rcases keyIs_shape hv with ⟨j, u, rfl, rfl⟩ | ⟨y, u, rfl, rfl⟩
      · rw [key_rl] at h; exact SeqAt.EqAt.str_int x t j u _ _ _ _ h
      · rw [key_rr] at h; exact wpAny_eqBool_str h
  «strs» := fun k x t v h => by
    rcases keyIs_shape h with ⟨i, u, rfl, e⟩ | ⟨y, u, rfl, e⟩
    · exact nomatch e
    · injection e with e1 _
      subst e1
      cases v <;> rfl
end L2
namespace L2
open PySem PySem.Spec PyProof.Rows
inductive V where
  | non | bl (b : Bool) | int (i : Int) | str (x : Str) | byt (b : Array UInt8) | flt (b : UInt64) | ref (a : Addr) | ty (n : String)
  deriving DecidableEq
def RelV : V → Value → Prop
  | .non, u => u = Value.none
  | .bl b, u => u = Value.bool b
  | .int i, u => ∃ t, u = Value.int i t
  | .str x, u => ∃ t, u = Value.str x t
  | .byt b, u => ∃ t, u = Value.bytes b t
  | .flt b, u => ∃ t, u = Value.float b t
  | .ref a, u => u = Value.ref a
  | .ty n, u => u = Value.type n
abbrev Vals : List V → List Value → Prop := Paired RelV
theorem Vals.length {xs : List V} {us : List Value} (r : Vals xs us) : xs.length = us.length := Paired.length r
theorem Vals.get : ∀ {xs : List V} {us : List Value} {i : Nat} {x : V}, Vals xs us → xs[i]? = some x → ∃ u, us[i]? = some u ∧ RelV x u
  | _, _, _, _, .nil, e => by simp at e
  | _, _, 0, _, .cons r _, e => by simp at e; subst e; exact ⟨_, rfl, r⟩
  | _, _, i + 1, x, .cons _ t, e => by
    obtain ⟨u, h1, h2⟩ := Vals.get (i := i) (x := x) t (by simpa using e)
    exact ⟨u, by simpa using h1, h2⟩
theorem Vals.set {x : V} {u : Value} (r : RelV x u) : ∀ {xs : List V} {us : List Value} (i : Nat), Vals xs us → Vals (xs.set i x) (us.set i u)
  | _, _, _, .nil => .nil
  | _, _, 0, .cons _ t => .cons r t
  | _, _, i + 1, .cons q t => .cons q (Vals.set r i t)
theorem Vals.append : ∀ {xs ys : List V} {us ws : List Value}, Vals xs us → Vals ys ws → Vals (xs ++ ys) (us ++ ws)
  | _, _, _, _, .nil, s => s
  | _, _, _, _, .cons r t, s => .cons r (Vals.append t s)
theorem Vals.take : ∀ {xs : List V} {us : List Value} (n : Nat), Vals xs us → Vals (xs.take n) (us.take n)
  | _, _, 0, _ => .nil
  | _, _, _ + 1, .nil => .nil
  | _, _, n + 1, .cons r t => .cons r (Vals.take n t)
theorem Vals.drop : ∀ {xs : List V} {us : List Value} (n : Nat), Vals xs us → Vals (xs.drop n) (us.drop n)
  | _, _, 0, r => r
  | _, _, _ + 1, .nil => .nil
  | _, _, n + 1, .cons _ t => Vals.drop n t
def RelO : Option V → Option Value → Prop
  | some v, some u => RelV v u
  | none, none => True
  | _, _ => False
def KV {κ : Type} : List (κ × V) → List (κ × Value) → Prop := Paired fun (p : κ × V) (q : κ × Value) => p.1 = q.1 ∧ RelV p.2 q.2
def kV : Key → V
  | .inl i => .int i
  | .inr x => .str x
inductive HO where
  | lst (xs : List V)
  | tup (xs : List V)
  | dK (kvs : List (Key × V)) | dT (kvs : List (List Key × V))
  | set (S : Int → Bool) (n : Nat)
  | ins (C dx : Addr) (fs : List (Str × V))
  | own (x : Addr)
  | xd (fs : List (Str × V))
  | met (f x : Addr)
  | rng (lo hi : Int)
  | frz (o : Obj) (u : HO)
  | tbl (ps : Array Value)
  | ext (φ : Heap → Prop)
abbrev Hp := Addr → Option HO
def upd (H : Hp) (a : Addr) (o : HO) : Hp := fun b => if b = a then some o else H b
theorem upd_same {H : Hp} {a : Addr} {o : HO} : upd H a o a = some o := by unfold upd; rw [if_pos rfl]
theorem upd_ne {H : Hp} {a b : Addr} {o : HO} (h : b ≠ a) : upd H a o b = H b := by unfold upd; rw [if_neg h]
theorem ne_of {H : Hp} {a b : Addr} {o u : HO} (h : H a = some o) (h' : H b = some u) (d : o ≠ u) : a ≠ b := by
  intro e; subst e; rw [h] at h'; exact d (Option.some.inj h')
theorem ne_of_none {H : Hp} {a b : Addr} {o : HO} (h : H a = some o) (h' : H b = none) : a ≠ b := by
  intro e; subst e; rw [h] at h'; cases h'
section
variable (P : Program) (w : World)
def ObjOk (H : Hp) (h : Heap) (a : Addr) : HO → Prop
  | .lst xs => xs.length ≤ sizeLine ∧ ∃ (its : List Value) (n : Nat), Vals xs its ∧ h.get? a = some { cls := .type "list", data := .seq its.toArray n }
  | .tup xs => xs.length ≤ sizeLine ∧ ∃ its : List Value, Vals xs its ∧ IsTup h a its.toArray
  | .dK kvs => kvs.length ≤ sizeLine ∧ (a == sysModules) = false ∧ ∃ vs, KV kvs vs ∧ h.DictOf (mixKind P w) a vs
  | .dT kvs => kvs.length ≤ sizeLine ∧ (a == sysModules) = false ∧ ∃ xs : List (List Key × Addr × Value),
      Paired (fun (p : List Key × V) (q : List Key × Addr × Value) => p.1 = q.1 ∧ H q.2.1 = some (.tup (p.1.map kV)) ∧ RelV p.2 q.2.2) kvs xs ∧
      ∃ o es ep, h.get? a = some o ∧ o.ExactDict ∧ o.data = .dict es ep ∧ es.toList = xs.map (entryOfKey (tupleKind (mixKind P w))) ∧ (xs.map (·.1)).Nodup
  | .set S n => h.SetOf (intKind P w) a S n
  | .ins C dx fs => H dx = some (.own a) ∧ fs.length ≤ 1000 ∧ dx ≠ a ∧ h.get? a = some (PySem.W.instObj C dx) ∧
      ∃ mA, h.Ns1 dx mA ∧ (∀ f, RelO (fs.lookup f) (mA f)) ∧ PySem.Within mA (fs.map (·.1))
  | .own _ => ∃ o, h.get? a = some o
  | .xd fs => ∃ mA, h.Ns1 a mA ∧ ∀ f, RelO (fs.lookup f) (mA f)
  | .rng lo hi => ∃ t u v, h.get? a = some { cls := .type "range", data := .fields #[.int lo t, .int hi u, .int 1 v] }
  | .frz o u => h.get? a = some o ∧ ObjOk H h a u
  | .tbl ps => h.get? a = some { cls := .none, data := .fields ps }
  | .met f x => h.get? a = some (PySem.W.methodObj (.ref f) (.ref x))
  | .ext φ => φ h ∧ (∃ o, h.get? a = some o) ∧ ∀ h1 h2 : Heap, φ h1 → (∀ o, h1.get? a = some o → h2.get? a = some o) → φ h2
def HOk (H : Hp) (h : Heap) : Prop := ∀ a o, H a = some o → ObjOk P w H h a o
end
section
variable {P : Program} {w : World} {H H' : Hp} {h h' : Heap} {a : Addr} {o : HO}
theorem ObjOk.lt (x : ObjOk P w H h a o) : a < h.objs.size := by
  cases o with
  | lst xs => obtain ⟨_, _, _, _, e⟩ := x; exact Heap.lt_size e
  | tup xs => obtain ⟨_, _, _, p⟩ := x; exact p.lt
  | dK kvs => obtain ⟨_, _, _, _, o, _, _, e, _⟩ := x; exact Heap.lt_size e
  | dT kvs => obtain ⟨_, _, _, _, o, _, _, e, _⟩ := x; exact Heap.lt_size e
  | set S n => obtain ⟨o, _, _, _, e, _⟩ := x; exact Heap.lt_size e
  | ins C dx fs => obtain ⟨_, _, _, e, _⟩ := x; exact Heap.lt_size e
  | own y => obtain ⟨_, e⟩ := x; exact Heap.lt_size e
  | xd fs => obtain ⟨_, ⟨_, _, _, e, _⟩, _⟩ := x; exact Heap.lt_size e
  | rng lo hi => obtain ⟨_, _, _, e⟩ := x; exact Heap.lt_size e
  | frz ob u => obtain ⟨e, _⟩ := x; exact Heap.lt_size e
  | tbl ps => exact Heap.lt_size (show h.get? a = some _ from x)
  | met f y => exact Heap.lt_size (show h.get? a = some _ from x)
  | ext φ => obtain ⟨_, ⟨_, e⟩, _⟩ := x; exact Heap.lt_size e
theorem Paired.mapP {α β : Type} {F G : α → β → Prop} : ∀ {l₁ : List α} {l₂ : List β}, Paired F l₁ l₂ → (∀ a b, F a b → G a b) → Paired G l₁ l₂
  | _, _, .nil, _ => .nil
  | _, _, .cons r t, f => .cons (f _ _ r) (Paired.mapP t f)
theorem ObjOk.stay (x : ObjOk P w H h a o) (k : ∀ b u, (b = a ∨ H b = some (.own a)) → h.get? b = some u → h'.get? b = some u)
    (ho : ∀ b, H b = some (.own a) → H' b = some (.own a)) (ht : ∀ b xs, H b = some (.tup xs) → H' b = some (.tup xs)) : ObjOk P w H' h' a o := by
  induction o with
  | lst xs => obtain ⟨z, its, n, r, e⟩ := x; exact ⟨z, its, n, r, k _ _ (.inl rfl) e⟩
  | tup xs => obtain ⟨z, its, r, ob, e, c⟩ := x; exact ⟨z, its, r, ob, k _ _ (.inl rfl) e, c⟩
  | dK kvs => obtain ⟨z, y, vs, r, ob, es, ep, e, c⟩ := x; exact ⟨z, y, vs, r, ob, es, ep, k _ _ (.inl rfl) e, c⟩
  | dT kvs =>
    obtain ⟨z, y, xs, r, ob, es, ep, e, c⟩ := x
    exact ⟨z, y, xs, Paired.mapP r fun p q z => ⟨z.1, ht _ _ z.2.1, z.2.2⟩, ob, es, ep, k _ _ (.inl rfl) e, c⟩
  | set S n => obtain ⟨ob, es, ep, t, e, c⟩ := x; exact ⟨ob, es, ep, t, k _ _ (.inl rfl) e, c⟩
  | ins C dx fs =>
    obtain ⟨d, z, ne, e, mA, ⟨od, es, ep, e2, c⟩, r⟩ := x
    exact ⟨ho _ d, z, ne, k _ _ (.inl rfl) e, mA, ⟨od, es, ep, k _ _ (.inr d) e2, c⟩, r⟩
  | own y => obtain ⟨ob, e⟩ := x; exact ⟨ob, k _ _ (.inl rfl) e⟩
  | xd fs => obtain ⟨mA, ⟨od, es, ep, e, c⟩, r⟩ := x; exact ⟨mA, ⟨od, es, ep, k _ _ (.inl rfl) e, c⟩, r⟩
  | rng lo hi => obtain ⟨t, u, v, e⟩ := x; exact ⟨t, u, v, k _ _ (.inl rfl) e⟩
  | frz ob u ih => obtain ⟨e, q⟩ := x; exact ⟨k _ _ (.inl rfl) e, ih q⟩
  | tbl ps =>
    have e : h.get? a = some { cls := .none, data := .fields ps } := x
    show h'.get? a = some { cls := .none, data := .fields ps }
    exact k a _ (.inl rfl) e
  | met f y =>
    have e : h.get? a = some (PySem.W.methodObj (.ref f) (.ref y)) := x
    show h'.get? a = some (PySem.W.methodObj (.ref f) (.ref y))
    exact k a _ (.inl rfl) e
  | ext φ => obtain ⟨p, ⟨o, e⟩, st⟩ := x; exact ⟨st _ _ p fun o q => k _ _ (.inl rfl) q, ⟨o, k _ _ (.inl rfl) e⟩, st⟩
theorem HOk.lt (x : HOk P w H h) (e : H a = some o) : a < h.objs.size := (x a o e).lt
theorem HOk.fresh (x : HOk P w H h) (e : h.objs.size ≤ a) : H a = none := by
  cases q : H a with
  | none => rfl
  | some u => exact absurd (Nat.lt_of_lt_of_le (x.lt q) e) (Nat.lt_irrefl _)
theorem HOk.kept (x : HOk P w H h) (k : ∀ b u, h.get? b = some u → h'.get? b = some u) : HOk P w H h' := fun a o e =>
  (x a o e).stay (fun b u _ q => k b u q) (fun _ q => q) fun _ _ q => q
theorem HOk.laid (x : HOk P w H h) (k : ∀ b u, h.get? b = some u → h'.get? b = some u) (hp : h.objs.size ≤ a) (new : ObjOk P w (upd H a o) h' a o) : HOk P w (upd H a o) h' := fun b u e => by
  have hn := x.fresh hp
  by_cases hb : b = a
  · subst hb; rw [upd_same] at e; cases e; exact new
  · rw [upd_ne hb] at e
    exact (x b u e).stay (fun c v _ q => k c v q) (fun c q => by rw [upd_ne (ne_of_none q hn)]; exact q) fun c xs q => by rw [upd_ne (ne_of_none q hn)]; exact q
end
def Rd (H : Hp) (a : Addr) (u : HO) : Prop := H a = some u ∨ ∃ o, H a = some (.frz o u)
theorem Rd.ok {P : Program} {w : World} {H : Hp} {h : Heap} {a : Addr} {u : HO} (r : Rd H a u) (x : HOk P w H h) : ObjOk P w H h a u := by
  rcases r with r | ⟨o, r⟩
  · exact x a u r
  · obtain ⟨_, q⟩ := x a _ r
    exact q
def Mut : Option HO → Prop
  | some (.lst _) => True
  | some (.dK _) => True
  | some (.dT _) => True
  | some (.set _ _) => True
  | some (.ins _ _ _) => True
  | some (.ext _) => True
  | _ => False
section
variable {P : Program} {w : World} {H : Hp} {h h' : Heap} {x e : Addr} {o' : HO}
theorem HOk.write (ok : HOk P w H h) (mu : Mut (H x)) (he : e = x ∨ H e = some (.own x)) (k : ∀ b u, b ≠ e → h.get? b = some u → h'.get? b = some u) (heo : ∃ u, h'.get? e = some u)
    (new : ObjOk P w (upd H x o') h' x o') : HOk P w (upd H x o') h' := fun b u q => by
  have nown : ∀ c y, H c = some (.own y) → c ≠ x := fun c y r z => by subst z; rw [r] at mu; exact mu
  have ntup : ∀ c xs, H c = some (.tup xs) → c ≠ x := fun c xs r z => by subst z; rw [r] at mu; exact mu
  by_cases hb : b = x
  · subst hb; rw [upd_same] at q; cases q; exact new
  · rw [upd_ne hb] at q
    by_cases hbe : b = e
    · have q' : H b = some (.own x) := by
        rcases he with z | z
        · exact absurd (hbe.trans z) hb
        · rw [hbe]; exact z
      rw [q] at q'; cases q'
      obtain ⟨v, hv⟩ := heo
      exact ⟨v, by rw [hbe]; exact hv⟩
    · refine (ok b u q).stay (fun c v hc r => k c v ?_ r) (fun c r => by rw [upd_ne (nown c b r)]; exact r) fun c xs r => by rw [upd_ne (ntup c xs r)]; exact r
      rcases hc with rfl | hc
      · exact hbe
      · rintro rfl
        rcases he with z | z
        · exact nown c b hc z
        · rw [hc] at z; cases z; exact hb rfl
end
structure Un (fs ex : List Addr) (H H' : Hp) (h h' : Heap) : Prop where
  keep : ∀ b o, h.get? b = some o → H b = none → b ∉ fs → b ∉ ex → h'.get? b = some o
  slot : ∀ b o, h.get? b = some o → H b = none → b ∈ fs → b ∉ ex → ∃ sl, h'.get? b = some { o with slots := sl }
  free : ∀ b o, h.get? b = some o → H b = none → b ∉ ex → H' b = none
  there : ∀ b o, h.get? b = some o → b ∉ ex → ∃ o', h'.get? b = some o'
  tups : ∀ b xs, H b = some (.tup xs) → H' b = some (.tup xs)
  frzs : ∀ b o u, H b = some (.frz o u) → H' b = some (.frz o u)
  tbls : ∀ b ps, H b = some (.tbl ps) → ∃ more, H' b = some (.tbl (ps ++ more))
section
variable {fs fs' ex ex' : List Addr} {H H1 H2 : Hp} {h h1 h2 h' : Heap} {a x e : Addr} {o : HO}
theorem Un.any (u : Un fs ex H H1 h h1) {b : Addr} {ob : Obj} (q : h.get? b = some ob) (n : H b = none) (hx : b ∉ ex) : ∃ sl, h1.get? b = some { ob with slots := sl } := by
  by_cases hb : b ∈ fs
  · exact u.slot b ob q n hb hx
  · exact ⟨ob.slots, u.keep b ob q n hb hx⟩
theorem Un.kept (k : ∀ b u, h.get? b = some u → h'.get? b = some u) : Un fs ex H H h h' :=
  ⟨fun b ob q _ _ _ => k b ob q, fun b ob q _ _ _ => ⟨ob.slots, k b ob q⟩, fun _ _ _ n _ => n, fun b ob q _ => ⟨ob, k b ob q⟩, fun _ _ q => q, fun _ _ _ q => q, fun _ ps q => ⟨#[], by rw [q]; simp⟩⟩
theorem Un.refl : Un fs ex H H h h := Un.kept fun _ _ q => q
theorem Un.laid (k : ∀ b u, h.get? b = some u → h'.get? b = some u) (hp : h.objs.size ≤ a) (hn : H a = none) : Un fs ex H (upd H a o) h h' where
  keep := fun b u q _ _ _ => k b u q
  slot := fun b u q _ _ _ => ⟨u.slots, k b u q⟩
  free := fun b u q n _ => by rw [upd_ne (Nat.ne_of_lt (Nat.lt_of_lt_of_le (Heap.lt_size q) hp))]; exact n
  there := fun b u q _ => ⟨u, k b u q⟩
  tups := fun b xs q => by rw [upd_ne (ne_of_none q hn)]; exact q
  frzs := fun b u xs q => by rw [upd_ne (ne_of_none q hn)]; exact q
  tbls := fun b ps q => ⟨#[], by rw [upd_ne (ne_of_none q hn), q]; simp⟩
theorem Un.write (mu : Mut (H x)) (he : e = x ∨ H e = some (.own x)) (k : ∀ b u, b ≠ e → h.get? b = some u → h'.get? b = some u) (heo : ∃ u, h'.get? e = some u) : Un fs ex H (upd H x o) h h' := by
  have hx : ∀ b, H b = none → b ≠ x := fun b n z => by subst z; rw [n] at mu; exact mu
  have hb : ∀ b, H b = none → b ≠ e := fun b n z => by
    subst z
    rcases he with r | r
    · exact hx b n r
    · rw [n] at r; cases r
  have hm : ∀ b u, H b = some u → ¬ Mut (some u) → b ≠ x := fun b u q nm z => by subst z; rw [q] at mu; exact nm mu
  refine ⟨fun b u q n _ _ => k b u (hb b n) q, fun b u q n _ _ => ⟨u.slots, k b u (hb b n) q⟩, fun b u q n _ => by rw [upd_ne (hx b n)]; exact n, fun b u q _ => ?_,
    fun b xs q => by rw [upd_ne (hm b _ q fun z => z)]; exact q, fun b u xs q => by rw [upd_ne (hm b _ q fun z => z)]; exact q, fun b ps q => ⟨#[], by rw [upd_ne (hm b _ q fun z => z), q]; simp⟩⟩
  by_cases hbe : b = e
  · subst hbe; exact heo
  · exact ⟨u, k b u hbe q⟩
end
def trk (h : Heap) (H : Hp) : List Addr := (List.range h.objs.size).filter fun a => (H a).isSome
def hidT (h : Heap) (H : Hp) : Heap := PySem.W.hideAll h (trk h H)
theorem hidT_size (h : Heap) (H : Hp) : (hidT h H).objs.size = h.objs.size := PySem.W.hideAll_size _ _
theorem hidT_get {h : Heap} {H : Hp} {b : Addr} {o : Obj} (e : h.get? b = some o) (n : H b = none) : (hidT h H).get? b = some o :=
  PySem.W.hideAll_get _ e fun hm => by
    have q : (H b).isSome = true := (List.mem_filter.mp hm).2
    rw [n] at q; simp at q
theorem of_hidT {h : Heap} {H : Hp} {b : Addr} {o : Obj} (e : (hidT h H).get? b = some o) : h.get? b = some o ∧ H b = none := by
  have e' : h.get? b = some o := PySem.W.of_hideAll (trk h H) e
  refine ⟨e', ?_⟩
  cases q : H b with
  | none => rfl
  | some x =>
    have hm : b ∈ trk h H := List.mem_filter.mpr ⟨List.mem_range.mpr (Heap.lt_size e'), by simp [q]⟩
    have z : (hidT h H).get? b = none := PySem.W.hideAll_none (trk h H) hm
    rw [z] at e; cases e
def allNews (g h : Heap) (L : Addr) : List (Addr × Obj) := (List.range h.objs.size).filterMap fun a => if a = L ∨ (g.get? a).isSome = true then none else (h.get? a).map fun o => (a, o)
def rest (g h : Heap) (L d : Addr) : List (Addr × Obj) := (allNews g h L).filter fun p => decide (p.1 ≠ d)
end L2
namespace L2
open PySem PySem.Spec PyProof.Rows
structure Mod (K : PySem.W.Frag) (mg : Str → Option Value) (base : Heap) : Prop where
  kin : K.In base
  glob : base.Ns mainGlobals mg
  blt : ∃ mb, base.Ns builtinsNs mb ∧ ∀ x : Str, x ≠ "__name__" → mb x = bootBuiltins x
  nolimit : base.NoLimit
/-- the context: a def's body (or a comprehension's block) running. base: fixed through the whole law; s₀, H₀: the entry; outer: the frames whose slots others may change (a def's callers); stack: all frames that run;
   ex: iterators that were made ahead of the entry and are walked here (a comprehension's); fn: the names whose cells were made at the entry (a def: all; a comprehension's block: its own); calm: not within an except suite; pn: pins that every state bears; xe: what is wanted of an exception that leaves the code -/
structure Cx where
  prog : Program
  w : World
  K : PySem.W.Frag
  mg : Str → Option Value
  base : Heap
  A : Around
  N : List Str
  s₀ : Shared
  H₀ : Hp
  env : Env
  outer : List Env
  stack : List Env
  ex : List Addr
  fn : Str → Bool
  calm : Bool
  pn : List (Addr × Obj)
  xe : Value → Shared → Prop
def frs (l : List Env) : List Addr := l.filterMap (·.frame)
abbrev Cx.fs (X : Cx) : List Addr := frs X.outer
def Vis (sc : Scope) (x : Str) : Prop := sc.names.lookup x = some .local ∨ sc.names.lookup x = some .cell ∨ sc.names.lookup x = some .free
def Loc (sc : Scope) (x : Str) : Prop := sc.names.lookup x = some .local ∨ sc.names.lookup x = some .cell
def Look (env : Env) (h : Heap) (m : Str → Option Value) (x : Str) (u : Value) : Prop :=
  (env.kindOf x = some .local ∧ m x = some u) ∨ ((env.kindOf x = some .cell ∨ env.kindOf x = some .free) ∧ ∃ c, env.cells.lookup x = some c ∧ h.IsCell c (some u))
structure Cx.Ok (X : Cx) : Prop where
  mod : Mod X.K X.mg X.base
  kind : X.env.scope.kind = .function
  glob : X.env.globals = mainGlobals
  blt : X.env.builtins = builtinsNs
  above : X.s₀.heap.objs.size ≤ X.env.locals
  inj : ∀ x y c, X.env.cells.lookup x = some c → X.env.cells.lookup y = some c → x = y
  has : ∀ x, (X.env.kindOf x = some .cell ∨ X.env.kindOf x = some .free) → ∃ c, X.env.cells.lookup x = some c
  cab : ∀ x c, X.fn x = true → X.env.cells.lookup x = some c → X.s₀.heap.objs.size ≤ c
  hd : X.calm = true → X.A.handled = none
  frames : X.A.frames = some X.stack
  stk : X.stack = X.outer ∨ (X.stack = X.env :: X.outer ∧ X.env.frame = some X.env.locals)
  exf : ∀ b ∈ X.ex, b ≠ X.env.locals ∧ ∀ x c, X.env.cells.lookup x = some c → c ≠ b
  bs : ∀ b o, X.base.get? b = some o → X.s₀.heap.get? b = some o ∧ X.H₀ b = none
  bsz : X.base.objs.size ≤ X.s₀.heap.objs.size
  noex : ∀ b o, X.base.get? b = some o → b ∉ X.ex
  exfs : ∀ b ∈ X.ex, b ∉ X.fs
  funs : X.s₀.heap.FunFrames X.base X.outer
  frf : ∀ b ∈ X.fs, X.H₀ b = none
structure Inv (X : Cx) (pins : List (Addr × Obj)) (σ : List (Option V)) (H : Hp) (s : Shared) : Prop where
  ok : X.Ok
  os : s.os = X.s₀.os
  bare : AllBare s.gens
  base : Un X.fs X.ex X.H₀ H X.s₀.heap s.heap
  loc : ∃ m, s.heap.Ns X.env.locals m ∧ ∀ (i : Nat) (x : Str) (v : V), X.N[i]? = some x → σ[i]? = some (some v) → Vis X.env.scope x → ∃ u, RelV v u ∧ Look X.env s.heap m x u
  cell : ∀ x c, X.env.cells.lookup x = some c → ∃ v, s.heap.IsCell c v
  free : H X.env.locals = none
  freeC : ∀ x c, X.env.cells.lookup x = some c → H c = none
  pin : ∀ p ∈ X.pn ++ pins, s.heap.get? p.1 = some p.2 ∧ H p.1 = none ∧ p.1 ≠ X.env.locals ∧ p.1 ∉ X.fs ∧ ∀ v, p.2.data ≠ .cell v
  hok : HOk X.prog X.w H s.heap
  len : σ.length = X.N.length
section
variable {X : Cx} {pins : List (Addr × Obj)} {σ : List (Option V)} {H H' : Hp} {s : Shared} {h' : Heap}
theorem Cx.Ok.nofr (ok : X.Ok) {b : Addr} {o : Obj} (e : X.base.get? b = some o) : b ∉ X.fs := fun hb => by
  have := (ok.funs.mem hb).1
  rw [e] at this; cases this
theorem Inv.bs (I : Inv X pins σ H s) : ∀ b o, X.base.get? b = some o → s.heap.get? b = some o ∧ H b = none := fun b o e =>
  ⟨I.base.keep b o (I.ok.bs b o e).1 (I.ok.bs b o e).2 (I.ok.nofr e) (I.ok.noex b o e), I.base.free b o (I.ok.bs b o e).1 (I.ok.bs b o e).2 (I.ok.noex b o e)⟩
theorem Inv.bk (I : Inv X pins σ H s) : ∀ b o, X.base.get? b = some o → s.heap.get? b = some o := fun b o e => (I.bs b o e).1
theorem Inv.mod (I : Inv X pins σ H s) : Mod X.K X.mg X.base := I.ok.mod
theorem Inv.kIn (I : Inv X pins σ H s) : X.K.In s.heap := I.ok.mod.kin.keeps I.bk
theorem Inv.lt (I : Inv X pins σ H s) : X.env.locals < s.heap.objs.size := let ⟨_, hn, _⟩ := I.loc; hn.lt
theorem Inv.sz (I : Inv X pins σ H s) : X.s₀.heap.objs.size ≤ s.heap.objs.size := Nat.le_trans I.ok.above (Nat.le_of_lt I.lt)
theorem Inv.nofs (I : Inv X pins σ H s) {a : Addr} (h : s.heap.objs.size ≤ a) : a ∉ X.fs := fun hb => by
  obtain ⟨_, o, ho, _⟩ := I.ok.funs.mem hb
  exact absurd (Nat.lt_of_lt_of_le (Heap.lt_size ho) (Nat.le_trans I.sz h)) (Nat.lt_irrefl _)
theorem Inv.cne (I : Inv X pins σ H s) : ∀ x c, X.env.cells.lookup x = some c → c ≠ X.env.locals := fun x c e z => by
  obtain ⟨v, o, ho, hd⟩ := I.cell x c e
  obtain ⟨m, ⟨o', es, ep, ho', hd', _⟩, _⟩ := I.loc
  rw [z, ho'] at ho; cases ho; rw [hd'] at hd; cases hd
theorem Inv.funs (I : Inv X pins σ H s) : s.heap.FunFrames X.base X.outer := by
  have all : ∀ (l : List Env), (∀ b ∈ frs l, b ∈ X.fs) → X.s₀.heap.FunFrames X.base l → s.heap.FunFrames X.base l := by
    intro l
    induction l with
    | nil => intro _ _; trivial
    | cons env r ih =>
      intro hs hl
      obtain ⟨hk, ⟨L, o, hf, hn, ho, hd⟩, hr⟩ := hl
      have hL : L ∈ X.fs := hs L (by unfold frs; rw [List.filterMap_cons, hf]; exact List.mem_cons_self)
      obtain ⟨sl, e⟩ := I.base.slot L o ho (I.ok.frf L hL) hL fun z => I.ok.exfs L z hL
      exact ⟨hk, ⟨L, _, hf, hn, e, hd⟩, ih (fun b hb => hs b (by unfold frs; rw [List.filterMap_cons, hf]; exact List.mem_cons_of_mem _ hb)) hr⟩
  exact all X.outer (fun _ hb => hb) I.ok.funs
theorem Inv.stack (I : Inv X pins σ H s) : s.heap.FunFrames X.base X.stack := by
  rcases I.ok.stk with e | ⟨e, hf⟩
  · rw [e]; exact I.funs
  · rw [e]
    obtain ⟨m, hn, _⟩ := I.loc
    refine .cons (by rw [I.ok.kind]; decide) hf hn ?_ I.funs
    exact Heap.get?_none_of_le (Nat.le_trans I.ok.bsz I.ok.above)
theorem Inv.stkSub (I : Inv X pins σ H s) : ∀ b ∈ frs X.stack, b ∈ X.env.locals :: X.fs := fun b hb => by
  rcases I.ok.stk with e | ⟨e, hf⟩
  · rw [e] at hb; exact List.mem_cons_of_mem _ hb
  · rw [e] at hb
    unfold frs at hb
    rw [List.filterMap_cons, hf] at hb
    exact hb
theorem Inv.stkFree (I : Inv X pins σ H s) : ∀ b ∈ frs X.stack, H b = none := fun b hb => by
  rcases List.mem_cons.mp (I.stkSub b hb) with e | hb
  · rw [e]; exact I.free
  · obtain ⟨_, o, ho, _⟩ := I.ok.funs.mem hb
    exact I.base.free b o ho (I.ok.frf b hb) fun z => I.ok.exfs b z hb
theorem Inv.step {g' : Array GenState} {t' : Nat} {d' : Drawn} {ch : List Addr} (I : Inv X pins σ H s)
    (hch : ∀ b ∈ ch, (b ∈ X.ex ∨ X.s₀.heap.objs.size ≤ b) ∧ b ≠ X.env.locals ∧ (∀ x c, X.env.cells.lookup x = some c → c ≠ b) ∧ ∀ p ∈ X.pn ++ pins, p.1 ≠ b)
    (keep : ∀ b o, b ≠ X.env.locals → b ∉ X.fs → b ∉ ch → s.heap.get? b = some o → H b = none → h'.get? b = some o)
    (slot : ∀ b o, b ≠ X.env.locals → b ∈ X.fs → b ∉ ch → s.heap.get? b = some o → H b = none → ∃ sl, h'.get? b = some { o with slots := sl }) (free : ∀ b o, b ∉ ch → s.heap.get? b = some o → H b = none → H' b = none)
    (there : ∀ b o, b ∉ ch → s.heap.get? b = some o → ∃ o', h'.get? b = some o')
    (tups : ∀ b xs, H b = some (.tup xs) → H' b = some (.tup xs)) (frzs : ∀ b o u, H b = some (.frz o u) → H' b = some (.frz o u)) (tbls : ∀ b ps, H b = some (.tbl ps) → ∃ more, H' b = some (.tbl (ps ++ more)))
    (ns : ∀ m, s.heap.Ns X.env.locals m → h'.Ns X.env.locals m) (hok : HOk X.prog X.w H' h') (hg : AllBare g') :
    Inv X pins σ H' { s with heap := h', gens := g', drawn := d', toks := t' } := by
  have neL : ∀ b o, X.s₀.heap.get? b = some o → b ≠ X.env.locals := fun b o e => Nat.ne_of_lt (Nat.lt_of_lt_of_le (Heap.lt_size e) I.ok.above)
  have neC : ∀ b o, X.s₀.heap.get? b = some o → b ∉ X.ex → b ∉ ch := fun b o e hx hb => by
    rcases (hch b hb).1 with z | z
    · exact hx z
    · exact absurd (Nat.lt_of_lt_of_le (Heap.lt_size e) z) (Nat.lt_irrefl _)
  have cellK : ∀ x c, X.env.cells.lookup x = some c → ∀ v, s.heap.IsCell c v → h'.IsCell c v := fun x c e v ⟨o, ho, hd⟩ => by
    have nch : c ∉ ch := fun z => (hch c z).2.2.1 x c e rfl
    by_cases hc : c ∈ X.fs
    · obtain ⟨sl, q⟩ := slot c o (I.cne x c e) hc nch ho (I.freeC x c e)
      exact ⟨_, q, hd⟩
    · exact ⟨o, keep c o (I.cne x c e) hc nch ho (I.freeC x c e), hd⟩
  refine ⟨I.ok, I.os, hg, ⟨fun b o e n hb hx => ?_, fun b o e n hb hx => ?_, fun b o e n hx => ?_, fun b o e hx => ?_, fun b xs e => tups b xs (I.base.tups b xs e), fun b o xs e => frzs b o xs (I.base.frzs b o xs e), fun b ps e => ?_⟩, ?_, fun x c e => ?_, ?_, fun x c e => ?_, fun p hp => ?_, hok, I.len⟩
  · exact keep b o (neL b o e) hb (neC b o e hx) (I.base.keep b o e n hb hx) (I.base.free b o e n hx)
  · obtain ⟨sl, e1⟩ := I.base.slot b o e n hb hx
    obtain ⟨sl', e2⟩ := slot b _ (neL b o e) hb (neC b o e hx) e1 (I.base.free b o e n hx)
    exact ⟨sl', e2⟩
  · obtain ⟨o', e1⟩ := I.base.there b o e hx
    exact free b o' (neC b o e hx) e1 (I.base.free b o e n hx)
  · obtain ⟨o', e1⟩ := I.base.there b o e hx
    exact there b o' (neC b o e hx) e1
  · obtain ⟨m1, e1⟩ := I.base.tbls b ps e
    obtain ⟨m2, e2⟩ := tbls b _ e1
    exact ⟨m1 ++ m2, by rw [e2, Array.append_assoc]⟩
  · obtain ⟨m, hn, hl⟩ := I.loc
    refine ⟨m, ns m hn, fun i x v e1 e2 e3 => ?_⟩
    obtain ⟨u, r, l⟩ := hl i x v e1 e2 e3
    refine ⟨u, r, ?_⟩
    rcases l with l | ⟨k, c, e, z⟩
    · exact .inl l
    · exact .inr ⟨k, c, e, cellK x c e _ z⟩
  · obtain ⟨v, z⟩ := I.cell x c e
    exact ⟨v, cellK x c e v z⟩
  · obtain ⟨m, ⟨o, _, _, ho, _⟩, _⟩ := I.loc
    exact free _ o (fun z => (hch _ z).2.1 rfl) ho I.free
  · obtain ⟨v, o, ho, hd⟩ := I.cell x c e
    exact free c o (fun z => (hch c z).2.2.1 x c e rfl) ho (I.freeC x c e)
  · obtain ⟨e, n, ne, nf, d⟩ := I.pin p hp
    have nch : p.1 ∉ ch := fun z => (hch p.1 z).2.2.2 p hp rfl
    exact ⟨keep p.1 p.2 ne nf nch e n, free p.1 p.2 nch e n, ne, nf, d⟩
theorem Inv.un {t' : Nat} (I : Inv X pins σ H s) (u : Un X.fs [] H H' s.heap h') (hok : HOk X.prog X.w H' h') : Inv X pins σ H' { s with heap := h', toks := t' } := by
  obtain ⟨m, ⟨o, es, ep, ho, r⟩, _⟩ := id I.loc
  obtain ⟨sl, hL⟩ := u.any ho I.free (by simp)
  exact I.step (g' := s.gens) (d' := s.drawn) (ch := []) (fun _ z => nomatch z) (fun b o _ hb _ e n => u.keep b o e n hb (by simp)) (fun b o _ hb _ e n => u.slot b o e n hb (by simp)) (fun b o _ e n => u.free b o e n (by simp)) (fun b o _ e => u.there b o e (by simp)) u.tups u.frzs u.tbls (fun m' hm => by
    obtain ⟨o', es', ep', ho', r'⟩ := hm
    rw [ho] at ho'; cases ho'
    exact ⟨_, es', ep', hL, r'⟩) hok I.bare
theorem Inv.call {g' : Array GenState} {t' : Nat} {d' : Drawn} {ch : List Addr} (I : Inv X pins σ H s) (u : Un (frs X.stack) ch H H' s.heap h') (hok : HOk X.prog X.w H' h') (hg : AllBare g')
    (hch : ∀ b ∈ ch, (b ∈ X.ex ∨ X.s₀.heap.objs.size ≤ b) ∧ b ≠ X.env.locals ∧ (∀ x c, X.env.cells.lookup x = some c → c ≠ b) ∧ ∀ p ∈ X.pn ++ pins, p.1 ≠ b) :
    Inv X pins σ H' { s with heap := h', gens := g', drawn := d', toks := t' } := by
  obtain ⟨m, ⟨o, es, ep, ho, r⟩, _⟩ := id I.loc
  obtain ⟨sl, hL⟩ := u.any ho I.free fun z => (hch _ z).2.1 rfl
  exact I.step (ch := ch) hch (fun b o hL hb hc e n => u.keep b o e n (fun z => (List.mem_cons.mp (I.stkSub b z)).elim hL hb) hc) (fun b o _ _ hc e n => u.any e n hc) (fun b o hc e n => u.free b o e n hc) (fun b o hc e => u.there b o e hc) u.tups u.frzs u.tbls (fun m' hm => by
    obtain ⟨o', es', ep', ho', r'⟩ := hm
    rw [ho] at ho'; cases ho'
    exact ⟨_, es', ep', hL, r'⟩) hok hg
theorem Inv.turned {t' : Nat} {it : Addr} (I : Inv X pins σ H s) (k : ∀ b o, b ≠ it → s.heap.get? b = some o → h'.get? b = some o) (hn : H it = none) (hL : it ≠ X.env.locals)
    (h1 : it ∈ X.ex ∨ X.s₀.heap.objs.size ≤ it) (h2 : ∀ x c, X.env.cells.lookup x = some c → c ≠ it) (h3 : ∀ p ∈ X.pn ++ pins, p.1 ≠ it) : Inv X pins σ H { s with heap := h', toks := t' } := by
  have nit : ∀ b u, H b = some u → b ≠ it := fun b u e z => by rw [z, hn] at e; cases e
  refine I.step (g' := s.gens) (d' := s.drawn) (ch := [it]) (fun b hb => ?_) (fun b o _ _ hc e _ => k b o (fun z => hc (by simp [z])) e) (fun b o _ _ hc e _ => ⟨o.slots, k b o (fun z => hc (by simp [z])) e⟩) (fun _ _ _ _ n => n)
    (fun b o hc e => ⟨o, k b o (fun z => hc (by simp [z])) e⟩) (fun _ _ e => e) (fun _ _ _ e => e) (fun b ps e => ⟨#[], by rw [e]; simp⟩) (fun m hm => ?_) (fun b u e => ?_) I.bare
  · have e : b = it := by simpa using hb
    subst e
    exact ⟨h1, hL, h2, h3⟩
  · obtain ⟨o, es, ep, ho, r⟩ := hm
    exact ⟨o, es, ep, k _ o (Ne.symm hL) ho, r⟩
  · refine (I.hok b u e).stay (fun c v hc q => k c v ?_ q) (fun _ q => q) fun _ _ q => q
    rcases hc with z | z
    · rw [z]; exact nit b u e
    · exact nit c _ z
theorem Inv.tok (I : Inv X pins σ H s) (t : Nat) : Inv X pins σ H { s with toks := t } := I.un (h' := s.heap) (t' := t) Un.refl I.hok
theorem Inv.kept {t' : Nat} (I : Inv X pins σ H s) (k : ∀ b u, s.heap.get? b = some u → h'.get? b = some u) : Inv X pins σ H { s with heap := h', toks := t' } := I.un (Un.kept k) (I.hok.kept k)
theorem Inv.laid {a : Addr} {o : HO} {t' : Nat} (I : Inv X pins σ H s) (k : ∀ b u, s.heap.get? b = some u → h'.get? b = some u) (hp : s.heap.objs.size ≤ a) (new : ObjOk X.prog X.w (upd H a o) h' a o) :
    Inv X pins σ (upd H a o) { s with heap := h', toks := t' } := I.un (Un.laid k hp (I.hok.fresh hp)) (I.hok.laid k hp new)
theorem Inv.write {x e : Addr} {o : HO} {t' : Nat} (I : Inv X pins σ H s) (mu : Mut (H x)) (he : e = x ∨ H e = some (.own x)) (k : ∀ b u, b ≠ e → s.heap.get? b = some u → h'.get? b = some u) (heo : ∃ u, h'.get? e = some u)
    (new : ObjOk X.prog X.w (upd H x o) h' x o) : Inv X pins σ (upd H x o) { s with heap := h', toks := t' } := I.un (Un.write mu he k heo) (I.hok.write mu he k heo new)
theorem Inv.weak {σ' : List (Option V)} (I : Inv X pins σ H s) (hl : σ'.length = σ.length) (w : ∀ (i : Nat) v, σ'[i]? = some (some v) → σ[i]? = some (some v)) : Inv X pins σ' H s :=
  ⟨I.ok, I.os, I.bare, I.base, let ⟨m, hn, hl'⟩ := I.loc; ⟨m, hn, fun i x v e1 e2 e3 => hl' i x v e1 (w i v e2) e3⟩, I.cell, I.free, I.freeC, I.pin, I.hok, hl.trans I.len⟩
theorem Inv.pins_of {pins' : List (Addr × Obj)} (I : Inv X pins σ H s) (h : ∀ p ∈ pins', s.heap.get? p.1 = some p.2 ∧ H p.1 = none ∧ p.1 ≠ X.env.locals ∧ p.1 ∉ X.fs ∧ ∀ v, p.2.data ≠ .cell v) : Inv X pins' σ H s :=
  ⟨I.ok, I.os, I.bare, I.base, I.loc, I.cell, I.free, I.freeC, fun p hp => (List.mem_append.mp hp).elim (fun z => I.pin p (List.mem_append_left _ z)) (h p), I.hok, I.len⟩
theorem nodup_ix {N : List Str} (hN : N.Nodup) {i j : Nat} {x : Str} (a : N[i]? = some x) (b : N[j]? = some x) : i = j := by
  obtain ⟨h1, e1⟩ := List.getElem?_eq_some_iff.mp a
  obtain ⟨h2, e2⟩ := List.getElem?_eq_some_iff.mp b
  exact (List.getElem_inj hN).mp (e1.trans e2.symm)
theorem store_ok2 {M : Model} {A : Around} {E : Value → Shared → Prop} {i : Nat} {x : Str} {v : V} {u : Value} {Q : Unit → Shared → Prop} (I : Inv X pins σ H s) (hN : X.N.Nodup) (hi : X.N[i]? = some x) (hx : Loc X.env.scope x) (r : RelV v u)
    (h : ∀ s', Inv X pins (σ.set i (some v)) H s' → (∃ a, Heap.SameBut a s.heap s'.heap ∧ (a = X.env.locals ∨ X.env.cells.lookup x = some a)) → Q () s') (hf : X.fn x = true ∨ X.env.scope.names.lookup x = some .local := by first | exact .inl rfl | exact .inr rfl | assumption) : wpAny M A (storeName X.env x u) Q E s := by
  obtain ⟨m, hn, hl⟩ := id I.loc
  have hcls : (X.env.scope.kind == .class || (X.env.scope.kind == .module && X.env.locals != X.env.globals)) = false := by rw [I.ok.kind]; rfl
  have hiσ : i < σ.length := by rw [I.len]; exact (List.getElem?_eq_some_iff.mp hi).1
  have cne := I.cne
  have tracked : ∀ {a : Addr} {h' : Heap}, (∃ o, s.heap.get? a = some o ∧ H a = none) → Heap.SameBut a s.heap h' → HOk X.prog X.w H h' := fun {a h'} ha hs b ob e => by
    obtain ⟨_, _, hfree⟩ := ha
    refine (I.hok b ob e).stay (fun c w' hc q => (hs.2 c ?_).trans q) (fun _ q => q) fun _ _ q => q
    rintro rfl
    rcases hc with rfl | hc
    · rw [hfree] at e; cases e
    · rw [hfree] at hc; cases hc
  rcases hx with hk | hk
  · refine wpAny_storeName_local hk hn (fun h' hn' hs => ?_) hcls
    obtain ⟨oL, _, _, hoL, _⟩ := id hn
    refine h _ ⟨I.ok, I.os, I.bare, ⟨fun b o e n hb hx => ?_, fun b o e n hb hx => ?_, I.base.free, fun b o e hx => ?_, I.base.tups, I.base.frzs, I.base.tbls⟩, ⟨_, hn', fun j y v' e1 e2 e3 => ?_⟩, fun y c e => ?_, I.free, I.freeC, fun p hp => ?_, tracked ⟨oL, hoL, I.free⟩ hs, by simpa using I.len⟩ ⟨_, hs, .inl rfl⟩
    · exact (hs.2 b (Nat.ne_of_lt (Nat.lt_of_lt_of_le (Heap.lt_size e) I.ok.above))).trans (I.base.keep b o e n hb hx)
    · obtain ⟨sl, e1⟩ := I.base.slot b o e n hb hx
      exact ⟨sl, (hs.2 b (Nat.ne_of_lt (Nat.lt_of_lt_of_le (Heap.lt_size e) I.ok.above))).trans e1⟩
    · obtain ⟨o', e1⟩ := I.base.there b o e hx
      exact ⟨o', (hs.2 b (Nat.ne_of_lt (Nat.lt_of_lt_of_le (Heap.lt_size e) I.ok.above))).trans e1⟩
    · by_cases hj : j = i
      · subst hj
        rw [hi] at e1; cases e1
        rw [List.getElem?_set_self hiσ] at e2
        cases e2
        exact ⟨u, r, .inl ⟨hk, by simp⟩⟩
      · rw [List.getElem?_set_ne (Ne.symm hj)] at e2
        obtain ⟨u', r', q⟩ := hl j y v' e1 e2 e3
        refine ⟨u', r', ?_⟩
        rcases q with ⟨k, e⟩ | ⟨k, c, e, z⟩
        · refine .inl ⟨k, ?_⟩
          have : y ≠ x := fun e => hj (nodup_ix hN e1 (e ▸ hi))
          simp [this, e]
        · exact .inr ⟨k, c, e, z.sameBut hs (cne y c e)⟩
    · obtain ⟨w', z⟩ := I.cell y c e
      exact ⟨w', z.sameBut hs (cne y c e)⟩
    · obtain ⟨e, n, ne, nf, d⟩ := I.pin p hp
      exact ⟨(hs.2 p.1 ne).trans e, n, ne, nf, d⟩
  · have hfn : X.fn x = true := by
      rcases hf with z | z
      · exact z
      · rw [z] at hk; cases hk
    obtain ⟨c, hc⟩ := I.ok.has x (.inl hk)
    obtain ⟨w', z⟩ := I.cell x c hc
    refine wpAny_storeName_cell I.ok.kind hk hc z (fun h' hc' hs => ?_)
    obtain ⟨oc, hoc, hocd⟩ := id z
    refine h { s with heap := h' } ⟨I.ok, I.os, I.bare, ⟨fun b o e n hb hx => ?_, fun b o e n hb hx => ?_, I.base.free, fun b o e hx => ?_, I.base.tups, I.base.frzs, I.base.tbls⟩, ⟨m, hn.sameBut hs (Ne.symm (cne x c hc)), fun j y v' e1 e2 e3 => ?_⟩, fun y c' e => ?_, I.free, I.freeC, fun p hp => ?_, tracked ⟨oc, hoc, I.freeC x c hc⟩ hs, by simpa using I.len⟩ ⟨c, hs, .inr hc⟩
    · exact (hs.2 b (Nat.ne_of_lt (Nat.lt_of_lt_of_le (Heap.lt_size e) (I.ok.cab x c hfn hc)))).trans (I.base.keep b o e n hb hx)
    · obtain ⟨sl, e1⟩ := I.base.slot b o e n hb hx
      exact ⟨sl, (hs.2 b (Nat.ne_of_lt (Nat.lt_of_lt_of_le (Heap.lt_size e) (I.ok.cab x c hfn hc)))).trans e1⟩
    · obtain ⟨o', e1⟩ := I.base.there b o e hx
      exact ⟨o', (hs.2 b (Nat.ne_of_lt (Nat.lt_of_lt_of_le (Heap.lt_size e) (I.ok.cab x c hfn hc)))).trans e1⟩
    · by_cases hj : j = i
      · subst hj
        rw [hi] at e1; cases e1
        rw [List.getElem?_set_self hiσ] at e2
        cases e2
        exact ⟨u, r, .inr ⟨.inl hk, c, hc, hc'⟩⟩
      · rw [List.getElem?_set_ne (Ne.symm hj)] at e2
        obtain ⟨u', r', q⟩ := hl j y v' e1 e2 e3
        refine ⟨u', r', ?_⟩
        rcases q with q | ⟨k, c', e, z'⟩
        · exact .inl q
        · refine .inr ⟨k, c', e, z'.sameBut hs ?_⟩
          rintro rfl
          exact hj (nodup_ix hN e1 (I.ok.inj _ _ _ e hc ▸ hi))
    · by_cases hcc : c' = c
      · subst hcc; exact ⟨_, hc'⟩
      · obtain ⟨w2, z2⟩ := I.cell y c' e
        exact ⟨w2, z2.sameBut hs hcc⟩
    · obtain ⟨e, n, ne, nf, d⟩ := I.pin p hp
      refine ⟨(hs.2 p.1 ?_).trans e, n, ne, nf, d⟩
      intro q
      rw [q, hoc] at e
      have q' : oc = p.2 := Option.some.inj e
      exact d w' (by rw [← q']; exact hocd)
theorem store_ok {M : Model} {A : Around} {E : Value → Shared → Prop} {i : Nat} {x : Str} {v : V} {u : Value} {Q : Unit → Shared → Prop} (I : Inv X pins σ H s) (hN : X.N.Nodup) (hi : X.N[i]? = some x) (hx : Loc X.env.scope x) (r : RelV v u)
    (h : ∀ s', Inv X pins (σ.set i (some v)) H s' → Q () s') (hf : X.fn x = true ∨ X.env.scope.names.lookup x = some .local := by first | exact .inl rfl | exact .inr rfl | assumption) : wpAny M A (storeName X.env x u) Q E s :=
  store_ok2 I hN hi hx r (fun s' I' _ => h s' I') hf
theorem Inv.call' {s' : Shared} {ch : List Addr} (I : Inv X pins σ H s) (ho : s'.os = s.os) (u : Un (frs X.stack) ch H H' s.heap s'.heap) (hok : HOk X.prog X.w H' s'.heap) (hg : AllBare s'.gens)
    (hch : ∀ b ∈ ch, (b ∈ X.ex ∨ X.s₀.heap.objs.size ≤ b) ∧ b ≠ X.env.locals ∧ (∀ x c, X.env.cells.lookup x = some c → c ≠ b) ∧ ∀ p ∈ X.pn ++ pins, p.1 ≠ b) : Inv X pins σ H' s' := by
  obtain ⟨h', g', d', t', o'⟩ := s'
  have e : o' = s.os := ho
  subst e
  exact I.call (g' := g') (t' := t') (d' := d') u hok hg hch
end
abbrev XK := Value → Option Addr → Hp → Prop
abbrev St := List (Option V)
abbrev VK := V → Hp → Prop
abbrev TE := St → Hp → VK → Prop
abbrev TT := St → Hp → (Bool → Hp → Prop) → Prop
abbrev TA := St → Hp → (List V → Hp → Prop) → Prop
structure Ends where
  nx : St → Hp → Prop
  rt : VK
  bk : St → Hp → Prop := fun _ _ => False
  ct : St → Hp → Prop := fun _ _ => False
abbrev TS := Ends → St → Hp → Prop
def EP (X : Cx) (pins : List (Addr × Obj)) (σ : St) (Q : VK) (u : Value) (s' : Shared) : Prop := ∃ v H', Inv X pins σ H' s' ∧ RelV v u ∧ Q v H'
def TP (X : Cx) (pins : List (Addr × Obj)) (σ : St) (Q : Bool → Hp → Prop) (b : Bool) (s' : Shared) : Prop := ∃ H', Inv X pins σ H' s' ∧ Q b H'
def AP (X : Cx) (pins : List (Addr × Obj)) (σ : St) (Q : List V → Hp → Prop) (us : List Value) (s' : Shared) : Prop := ∃ vs H', Inv X pins σ H' s' ∧ Vals vs us ∧ Q vs H'
def SP (X : Cx) (pins : List (Addr × Obj)) (D : Ends) (f : Flow) (s' : Shared) : Prop :=
  match f with
  | .next => ∃ σ' H', Inv X pins σ' H' s' ∧ D.nx σ' H'
  | .brk => ∃ σ' H', Inv X pins σ' H' s' ∧ D.bk σ' H'
  | .cont => ∃ σ' H', Inv X pins σ' H' s' ∧ D.ct σ' H'
  | .ret u => ∃ v σ' H', Inv X pins σ' H' s' ∧ RelV v u ∧ D.rt v H'
def PE (X : Cx) (e : Expr) (t : TE) : Prop :=
  ∀ (pins : List (Addr × Obj)) (s : Shared) (σ : St) (H : Hp) (Q : VK), Inv X pins σ H s → t σ H Q → wpAny (model X.prog X.w) X.A (eval e X.env) (EP X pins σ Q) X.xe s
def PT (X : Cx) (e : Expr) (t : TT) : Prop :=
  ∀ (pins : List (Addr × Obj)) (s : Shared) (σ : St) (H : Hp) (Q : Bool → Hp → Prop), Inv X pins σ H s → t σ H Q → wpAny (model X.prog X.w) X.A (isTrue e X.env (eval e X.env)) (TP X pins σ Q) X.xe s
def PW (X : Cx) (e : Expr) (t : TT) : Prop :=
  ∀ (whole : Sem Value) (pins : List (Addr × Obj)) (s : Shared) (σ : St) (H : Hp) (Q : Bool → Hp → Prop), Inv X pins σ H s → t σ H Q → wpAny (model X.prog X.w) X.A (isTrue e X.env whole) (TP X pins σ Q) X.xe s
def PA (X : Cx) (es : List Expr) (t : TA) : Prop :=
  ∀ (pos : Pos) (pins : List (Addr × Obj)) (s : Shared) (σ : St) (H : Hp) (Q : List V → Hp → Prop), Inv X pins σ H s → t σ H Q → wpAny (model X.prog X.w) X.A (spliced (backTo pos (starEach es X.env))) (AP X pins σ Q) X.xe s
def PS (X : Cx) (st : Stmt) (t : TS) : Prop :=
  ∀ (pins : List (Addr × Obj)) (s : Shared) (σ : St) (H : Hp) (D : Ends), Inv X pins σ H s → t D σ H → wpAny (model X.prog X.w) X.A (exec st X.env) (SP X pins D) X.xe s
def PSs (X : Cx) (st : List Stmt) (t : TS) : Prop :=
  ∀ (pins : List (Addr × Obj)) (s : Shared) (σ : St) (H : Hp) (D : Ends), Inv X pins σ H s → t D σ H → wpAny (model X.prog X.w) X.A (execs st X.env) (SP X pins D) X.xe s
theorem thn {α : Type} {t : Sem α} {Q Q' : α → Shared → Prop} {M : Model} {A : Around} {E : Value → Shared → Prop} {s : Shared} (h : wpAny M A t Q E s) (hQ : ∀ a s, Q a s → Q' a s) : wpAny M A t Q' E s := wpAny_mono h hQ fun _ _ x => x
end L2
namespace L2
open PySem PySem.Spec PyProof.Rows
section
variable {X : Cx}
def tVar (i : Nat) : TE := fun σ H Q => ∃ v, σ[i]? = some (some v) ∧ Q v H
def tC (v : V) : TE := fun _ H Q => Q v H
theorem pe_var {i : Nat} {x : Str} {pos : Pos} (hN : X.N[i]? = some x) (hv : Vis X.env.scope x) (hd : (x == ("__debug__" : Str)) = false := by decide) (hcd : (x == ("__classdict__" : Str)) = false := by decide) : PE X (.Name x pos) (tVar i) := by
  intro pins s σ H Q I h
  obtain ⟨v, e, h⟩ := h
  obtain ⟨m, hn, hl⟩ := I.loc
  obtain ⟨u, r, l⟩ := hl i x v hN e hv
  have fin : EP X pins σ Q u s := ⟨v, H, I, r, h⟩
  rcases l with ⟨hk, hm⟩ | ⟨hk, c, hc, hcell⟩
  · exact wpAny_Name (wpAny_loadName_local I.ok.kind hk hn hm fin) hd
  · rcases hk with hk | hk
    · exact wpAny_Name (wpAny_loadName_cell I.ok.kind hk hc hcell fin) hd
    · exact wpAny_Name (wpAny_loadName_free I.ok.kind hk hc hcell fin hcd) hd
theorem pe_int {i j pos} : PE X (.Constant (.int i) j pos) (tC (.int i)) := fun _ _ _ H _ I h => wpAny_Constant_int ⟨.int i, H, I.tok _, ⟨_, rfl⟩, h⟩
theorem pe_bl {b j pos} : PE X (.Constant (.bool b) j pos) (tC (.bl b)) := fun _ _ _ H _ I h => Constant_bool ⟨.bl b, H, I, rfl, h⟩
theorem pe_non {j pos} : PE X (.Constant .none j pos) (tC .non) := fun _ _ _ H _ I h => Constant_none ⟨.non, H, I, rfl, h⟩
theorem pe_str {x j pos} : PE X (.Constant (.str x) j pos) (tC (.str x)) := fun _ _ _ H _ I h => Calls.Constant_str ⟨.str x, H, I.tok _, ⟨_, rfl⟩, h⟩
def Gl (X : Cx) (x : Str) : Prop := X.env.kindOf x = some .globalImplicit
theorem ld_glob {E : Value → Shared → Prop} {pins : List (Addr × Obj)} {s : Shared} {σ : St} {H : Hp} {x : Str} {u : Value} {pos : Pos} {Q : Value → Shared → Prop} (I : Inv X pins σ H s) (hg : Gl X x) (hm : X.mg x = some u) (h : Q u s)
    (hd : (x == ("__debug__" : Str)) = false := by decide) : wpAny (model X.prog X.w) X.A (eval (.Name x pos) X.env) Q E s :=
  Calls.Name_function_global I.ok.kind hg (Calls.loadGlobal_global (by rw [I.ok.glob]; exact I.mod.glob.keeps I.bk) hm h) hd
theorem ld_blt {E : Value → Shared → Prop} {pins : List (Addr × Obj)} {s : Shared} {σ : St} {H : Hp} {x : Str} {u : Value} {pos : Pos} {Q : Value → Shared → Prop} (I : Inv X pins σ H s) (hg : Gl X x) (hm : X.mg x = none) (hv : bootBuiltins x = some u) (h : Q u s)
    (hn : x ≠ "__name__" := by decide) (hd : (x == ("__debug__" : Str)) = false := by decide) : wpAny (model X.prog X.w) X.A (eval (.Name x pos) X.env) Q E s := by
  obtain ⟨mb, h1, h2⟩ := I.mod.blt
  exact Calls.Name_function_global I.ok.kind hg (Calls.loadGlobal_builtin (by rw [I.ok.glob]; exact I.mod.glob.keeps I.bk) hm (by rw [I.ok.blt]; exact h1.keeps I.bk) ((h2 x hn).trans hv) h) hd
theorem pe_glob {x : Str} {v : V} {u : Value} {pos : Pos} (hg : Gl X x) (hm : X.mg x = some u) (r : RelV v u) (hd : (x == ("__debug__" : Str)) = false := by decide) : PE X (.Name x pos) (tC v) :=
  fun _ _ _ H _ I h => ld_glob I hg hm ⟨v, H, I, r, h⟩ hd
variable {a b : Expr} {ta tb : TE} {pos : Pos}
def tB (t : TE) : TT := fun σ H Q => t σ H fun x H1 => ∃ c, x = .bl c ∧ Q c H1
theorem pt_val {e : Expr} {t : TE} (h : PE X e t) (he : ∀ whole, isTrue e X.env whole = (do let v ← whole; standAt e.pos; holding [v] (truthy v)) := by intro _; rfl) : PT X e (tB t) := by
  intro pins s σ H Q I hw
  refine isTrue_plain (thn (h pins s σ H _ I hw) fun v s1 ⟨x, H1, I1, r1, q1⟩ => ?_) (he _)
  obtain ⟨d, rfl, q⟩ := q1
  cases r1
  exact wpAny_truthy_bool ⟨H1, I1, q⟩
variable {tA tB' : TT} {rest : List Expr}
def tAnd (t u : TT) : TT := fun σ H Q => t σ H fun c H1 => if c = true then u σ H1 Q else Q false H1
def tOr (t u : TT) : TT := fun σ H Q => t σ H fun c H1 => if c = true then Q true H1 else u σ H1 Q
def tNot (t : TT) : TT := fun σ H Q => t σ H fun c H1 => Q (!c) H1
theorem pw_and1 (ha : PT X a tA) : PW X (.BoolOp .And [a] pos) tA := by
  intro wh pins s σ H Q I h
  refine isTrue_and (thn (ha pins s σ H Q I h) fun c s1 e => ?_)
  cases c with
  | true => exact isTrue_and_nil e
  | false => exact e
theorem pw_or1 (ha : PT X a tA) : PW X (.BoolOp .Or [a] pos) tA := by
  intro wh pins s σ H Q I h
  refine isTrue_or (thn (ha pins s σ H Q I h) fun c s1 e => ?_)
  cases c with
  | false => exact isTrue_or_nil e
  | true => exact e
theorem pw_and (ha : PT X a tA) (hb : PW X (.BoolOp .And (b :: rest) pos) tB') : PW X (.BoolOp .And (a :: b :: rest) pos) (tAnd tA tB') := by
  intro wh pins s σ H Q I h
  refine isTrue_and (thn (ha pins s σ H _ I h) fun c s1 ⟨H1, I1, q1⟩ => ?_)
  cases c with
  | true => exact hb wh pins s1 σ H1 Q I1 q1
  | false => exact ⟨H1, I1, q1⟩
theorem pw_or (ha : PT X a tA) (hb : PW X (.BoolOp .Or (b :: rest) pos) tB') : PW X (.BoolOp .Or (a :: b :: rest) pos) (tOr tA tB') := by
  intro wh pins s σ H Q I h
  refine isTrue_or (thn (ha pins s σ H _ I h) fun c s1 ⟨H1, I1, q1⟩ => ?_)
  cases c with
  | true => exact ⟨H1, I1, q1⟩
  | false => exact hb wh pins s1 σ H1 Q I1 q1
theorem pt_not (ha : PT X a tA) : PT X (.UnaryOp .Not a pos) (tNot tA) := by
  intro pins s σ H Q I h
  exact isTrue_not (ha pins s σ H (fun c H1 => Q (!c) H1) I h)
def tAndV (ta tb : TE) : TE := fun σ H Q => ta σ H fun x H1 => ∃ c, x = .bl c ∧ if c = true then tb σ H1 Q else Q (.bl false) H1
def tOrV (ta tb : TE) : TE := fun σ H Q => ta σ H fun x H1 => ∃ c, x = .bl c ∧ if c = true then Q (.bl true) H1 else tb σ H1 Q
def tNotV (ta : TE) : TE := fun σ H Q => ta σ H fun x H1 => ∃ c, x = .bl c ∧ Q (.bl (!c)) H1
theorem pe_one {op} {t : TE} (h : PE X a t) : PE X (.BoolOp op [a] pos) t := fun pins s σ H Q I hw => BoolOp_one (h pins s σ H Q I hw)
theorem pe_and (ha : PE X a ta) (hb : PE X (.BoolOp .And (b :: rest) pos) tb) : PE X (.BoolOp .And (a :: b :: rest) pos) (tAndV ta tb) := by
  intro pins s σ H Q I h
  refine BoolOp_and (thn (ha pins s σ H _ I h) fun v s1 ⟨x, H1, I1, r1, q1⟩ => ?_)
  obtain ⟨c, rfl, q1⟩ := q1
  cases r1
  refine wpAny_truthy_bool ?_
  cases c with
  | true => exact hb pins s1 σ H1 Q I1 q1
  | false => exact ⟨.bl false, H1, I1, rfl, q1⟩
theorem pe_or (ha : PE X a ta) (hb : PE X (.BoolOp .Or (b :: rest) pos) tb) : PE X (.BoolOp .Or (a :: b :: rest) pos) (tOrV ta tb) := by
  intro pins s σ H Q I h
  refine BoolOp_or (thn (ha pins s σ H _ I h) fun v s1 ⟨x, H1, I1, r1, q1⟩ => ?_)
  obtain ⟨c, rfl, q1⟩ := q1
  cases r1
  refine wpAny_truthy_bool ?_
  cases c with
  | false => exact hb pins s1 σ H1 Q I1 q1
  | true => exact ⟨.bl true, H1, I1, rfl, q1⟩
theorem pe_not (ha : PE X a ta) : PE X (.UnaryOp .Not a pos) (tNotV ta) := by
  intro pins s σ H Q I h
  refine UnaryOp_ (thn (ha pins s σ H _ I h) fun v s1 ⟨x, H1, I1, r1, q1⟩ => ?_)
  obtain ⟨c, rfl, q1⟩ := q1
  cases r1
  exact not_of (wpAny_truthy_bool ⟨.bl (!c), H1, I1, rfl, q1⟩)
def tIf (t : TT) (ta tb : TE) : TE := fun σ H Q => t σ H fun c H1 => if c = true then ta σ H1 Q else tb σ H1 Q
theorem pe_ifExp {c : Expr} (hc : PT X c tA) (ha : PE X a ta) (hb : PE X b tb) : PE X (.IfExp c a b pos) (tIf tA ta tb) := by
  intro pins s σ H Q I h
  refine wpAny_IfExp (thn (hc pins s σ H _ I h) fun d s1 ⟨H1, I1, q1⟩ => ?_)
  cases d with
  | true => exact ha pins s1 σ H1 Q I1 q1
  | false => exact hb pins s1 σ H1 Q I1 q1
end
end L2
namespace L2
open PySem PySem.Spec PyProof.Rows
def SqL (K : PySem.W.Frag) (H : Hp) (a : Addr) (xs : List V) : Prop :=
  Rd H a (.lst xs) ∨
    ∃ (o : Obj) (its : Array Value) (n : Nat), K.lookup a = some o ∧ o.cls = .type "list" ∧ o.dict = none ∧ o.data = .seq its n ∧ its.size ≤ sizeLine ∧ Vals xs its.toList
def SqT (K : PySem.W.Frag) (H : Hp) (a : Addr) (xs : List V) : Prop :=
  Rd H a (.tup xs) ∨
    ∃ (o : Obj) (its : Array Value) (n : Nat), K.lookup a = some o ∧ o.cls = .type "tuple" ∧ o.data = .seq its n ∧ its.size ≤ sizeLine ∧ Vals xs its.toList
def absV : Value → Option V
  | .none => some .non
  | .bool b => some (.bl b)
  | .int i _ => some (.int i)
  | .str x _ => some (.str x)
  | .bytes b _ => some (.byt b)
  | .float b _ => some (.flt b)
  | .ref a => some (.ref a)
  | .type n => some (.ty n)
  | _ => none
theorem RelV.abs {x : V} {u : Value} (r : RelV x u) : absV u = some x := by
  cases x with
  | non => cases r; rfl
  | bl _ => cases r; rfl
  | int _ => obtain ⟨t, rfl⟩ := r; rfl
  | str _ => obtain ⟨t, rfl⟩ := r; rfl
  | byt _ => obtain ⟨t, rfl⟩ := r; rfl
  | flt _ => obtain ⟨t, rfl⟩ := r; rfl
  | ref _ => cases r; rfl
  | ty _ => cases r; rfl
theorem RelV.inj {x y : V} {u : Value} (r : RelV x u) (q : RelV y u) : x = y := Option.some.inj (r.abs.symm.trans q.abs)
theorem Vals.inj : ∀ {xs ys : List V} {us : List Value}, Vals xs us → Vals ys us → xs = ys
  | _, _, _, .nil, .nil => rfl
  | _, _, _, .cons r t, .cons r' t' => by rw [r.inj r', Vals.inj t t']
section
variable {X : Cx} {pins : List (Addr × Obj)} {σ : St} {H : Hp} {s : Shared} {a : Addr} {xs ys : List V}
theorem SqL.of {K : PySem.W.Frag} (h : H a = some (.lst xs)) : SqL K H a xs := .inl (.inl h)
theorem SqT.of {K : PySem.W.Frag} (h : H a = some (.tup xs)) : SqT K H a xs := .inl (.inl h)
theorem Inv.list (I : Inv X pins σ H s) (h : SqL X.K H a xs) : ∃ its : List Value, Vals xs its ∧ PlainL s.heap a its.toArray ∧ xs.length ≤ sizeLine := by
  rcases h with h | ⟨o, its, n, hk, hc, hd, hs, hz, r⟩
  · obtain ⟨z, its, n, r, e⟩ := h.ok I.hok
    exact ⟨its, r, ⟨_, n, e, rfl, rfl, rfl⟩, z⟩
  · refine ⟨its.toList, r, ⟨o, n, I.kIn a o hk, hc, hd, by simpa using hs⟩, ?_⟩
    have e := r.length
    simp only [Array.length_toList] at e
    omega
theorem Inv.tuple (I : Inv X pins σ H s) (h : SqT X.K H a xs) : ∃ its : List Value, Vals xs its ∧ IsTup s.heap a its.toArray ∧ xs.length ≤ sizeLine := by
  rcases h with h | ⟨o, its, n, hk, hc, hs, hz, r⟩
  · obtain ⟨z, its, r, p⟩ := h.ok I.hok
    exact ⟨its, r, p, z⟩
  · refine ⟨its.toList, r, ⟨o, I.kIn a o hk, hc, n, by simpa using hs⟩, ?_⟩
    have e := r.length
    simp only [Array.length_toList] at e
    omega
theorem Inv.list_inj (I : Inv X pins σ H s) (h : SqL X.K H a xs) (h' : SqL X.K H a ys) : xs = ys := by
  obtain ⟨its, r, ⟨o, n, e, _, _, d⟩, _⟩ := I.list h
  obtain ⟨its', r', ⟨o', n', e', _, _, d'⟩, _⟩ := I.list h'
  rw [e] at e'; cases e'
  rw [d] at d'
  injection d' with d1 _
  have : its = its' := by simpa using congrArg Array.toList d1
  subst this
  exact r.inj r'
theorem Inv.tuple_inj (I : Inv X pins σ H s) (h : SqT X.K H a xs) (h' : SqT X.K H a ys) : xs = ys := by
  obtain ⟨its, r, ⟨o, e, _, n, d⟩, _⟩ := I.tuple h
  obtain ⟨its', r', ⟨o', e', _, n', d'⟩, _⟩ := I.tuple h'
  rw [e] at e'; cases e'
  rw [d] at d'
  injection d' with d1 _
  have : its = its' := by simpa using congrArg Array.toList d1
  subst this
  exact r.inj r'
end
abbrev Cx.wish (X : Cx) (E : Value → Shared → Prop) : Cx := { X with xe := E }
abbrev Cx.nox (X : Cx) : Cx := X.wish fun _ _ => False
theorem Cx.Ok.wish {X : Cx} (ok : X.Ok) (E : Value → Shared → Prop) : (X.wish E).Ok :=
  ⟨ok.mod, ok.kind, ok.glob, ok.blt, ok.above, ok.inj, ok.has, ok.cab, ok.hd, ok.frames, ok.stk, ok.exf, ok.bs, ok.bsz, ok.noex, ok.exfs, ok.funs, ok.frf⟩
theorem Cx.Ok.unwish {X : Cx} {E : Value → Shared → Prop} (ok : (X.wish E).Ok) : X.Ok :=
  ⟨ok.mod, ok.kind, ok.glob, ok.blt, ok.above, ok.inj, ok.has, ok.cab, ok.hd, ok.frames, ok.stk, ok.exf, ok.bs, ok.bsz, ok.noex, ok.exfs, ok.funs, ok.frf⟩
section
variable {X : Cx} {pins : List (Addr × Obj)} {σ : St} {H : Hp} {s : Shared} {E : Value → Shared → Prop}
theorem Inv.wish (I : Inv X pins σ H s) (E : Value → Shared → Prop) : Inv (X.wish E) pins σ H s := ⟨I.ok.wish E, I.os, I.bare, I.base, I.loc, I.cell, I.free, I.freeC, I.pin, I.hok, I.len⟩
theorem Inv.unwish (I : Inv (X.wish E) pins σ H s) : Inv X pins σ H s := ⟨I.ok.unwish, I.os, I.bare, I.base, I.loc, I.cell, I.free, I.freeC, I.pin, I.hok, I.len⟩
theorem SP.unwish {D : Ends} {f : Flow} {s' : Shared} (h : SP (X.wish E) pins D f s') : SP X pins D f s' := by
  cases f with
  | next => obtain ⟨σ', H', I, q⟩ := h; exact ⟨σ', H', I.unwish, q⟩
  | brk => obtain ⟨σ', H', I, q⟩ := h; exact ⟨σ', H', I.unwish, q⟩
  | cont => obtain ⟨σ', H', I, q⟩ := h; exact ⟨σ', H', I.unwish, q⟩
  | ret u => obtain ⟨v, σ', H', I, r, q⟩ := h; exact ⟨v, σ', H', I.unwish, r, q⟩
theorem PSs.nox {st : List Stmt} {t : TS} (h : PSs X.nox st t) : PSs X st t := fun pins s σ H D I hw =>
  wpAny_mono (h pins s σ H D (I.wish _) hw) (fun _ _ q => q.unwish) fun _ _ z => False.elim z
end
section
variable {X : Cx} {st : Stmt} {rest : List Stmt} {t u : TS} {e : Expr} {te : TE} {pos : Pos}
def tNext : TS := fun D σ H => D.nx σ H
def tSeq (t u : TS) : TS := fun D σ H => t { D with nx := u D } σ H
theorem pss_nil : PSs X [] tNext := fun _ _ σ H _ I h => wpAny_execs_nil ⟨σ, H, I, h⟩
theorem pss_cons (h1 : PS X st t) (h2 : PSs X rest u) : PSs X (st :: rest) (tSeq t u) := by
  intro pins s σ H D I h
  refine wpAny_execs_cons (thn (h1 pins s σ H { D with nx := u D } I h) fun f s1 q => ?_)
  cases f with
  | next =>
    obtain ⟨σ', H', I', q⟩ := q
    exact h2 pins s1 σ' H' D I' q
  | ret v => exact q
  | brk => exact q
  | cont => exact q
theorem pss_one (h1 : PS X st t) : PSs X [st] t := by
  intro pins s σ H D I h
  refine wpAny_execs_cons (thn (h1 pins s σ H D I h) fun f s1 q => ?_)
  cases f with
  | next => exact wpAny_execs_nil q
  | ret v => exact q
  | brk => exact q
  | cont => exact q
theorem Inv.quiet {pins : List (Addr × Obj)} {σ : St} {H : Hp} {s : Shared} (I : Inv X pins σ H s) : interactive X.env = false := by simp [interactive, I.ok.kind]
def tDrop (te : TE) : TS := fun D σ H => te σ H fun _ H1 => D.nx σ H1
theorem ps_expr (he : PE X e te) (hs : swapsWith e none pos.line X.env = pure false := by rfl) : PS X (.Expr e pos) (tDrop te) := by
  intro pins s σ H D I h
  exact wpAny_Expr_any (thn (he pins s σ H _ I h) fun v s1 ⟨x, H1, I1, r1, q1⟩ => ⟨σ, H1, I1, q1⟩) I.quiet hs
def tRet (te : TE) : TS := fun D σ H => te σ H D.rt
theorem ps_ret (he : PE X e te) : PS X (.Return (some e) pos) (tRet te) := by
  intro pins s σ H D I h
  exact wpAny_Return_some (thn (he pins s σ H _ I h) fun v s1 ⟨x, H1, I1, r1, q1⟩ => ⟨x, σ, H1, I1, r1, q1⟩)
def tIfS (c : TT) (t u : TS) : TS := fun D σ H => c σ H fun b H1 => if b = true then t D σ H1 else u D σ H1
theorem ps_if {c : Expr} {a b : List Stmt} {tc : TT} (hc : PT X c tc) (ha : PSs X a t) (hb : PSs X b u) : PS X (.If c a b pos) (tIfS tc t u) := by
  intro pins s σ H D I h
  refine wpAny_If (thn (hc pins s σ H _ I h) fun d s1 ⟨H1, I1, q1⟩ => ?_)
  cases d with
  | true => exact ha pins s1 σ H1 D I1 q1
  | false => exact hb pins s1 σ H1 D I1 q1
def tNever : TS := fun _ _ _ => False
theorem ps_never : PS X st tNever := fun _ _ _ _ _ _ h => h.elim
end
abbrev TG := V → St → Hp → (St → Hp → Prop) → Prop
abbrev TGs := List V → St → Hp → (St → Hp → Prop) → Prop
def PG (X : Cx) (target : Expr) (t : TG) : Prop :=
  ∀ (pins : List (Addr × Obj)) (s : Shared) (σ : St) (H : Hp) (v : V) (u : Value) (Q : St → Hp → Prop), Inv X pins σ H s → RelV v u → t v σ H Q →
    wpAny (model X.prog X.w) X.A (assign target X.env u) (fun _ s' => ∃ σ' H', Inv X pins σ' H' s' ∧ Q σ' H') X.xe s
def PGs (X : Cx) (ts : List Expr) (t : TGs) : Prop :=
  ∀ (pins : List (Addr × Obj)) (s : Shared) (σ : St) (H : Hp) (vs : List V) (us : List Value) (Q : St → Hp → Prop), Inv X pins σ H s → Vals vs us → t vs σ H Q →
    wpAny (model X.prog X.w) X.A (assignInOrder ((assignEach ts X.env).map (·.2)) us) (fun _ s' => ∃ σ' H', Inv X pins σ' H' s' ∧ Q σ' H') X.xe s
abbrev TSet := V → V → V → Hp → (Hp → Prop) → Prop
def PSet (X : Cx) (t : TSet) : Prop :=
  ∀ (pins : List (Addr × Obj)) (s : Shared) (σ : St) (H : Hp) (o i v : V) (ov iv u : Value) (Q : Hp → Prop), Inv X pins σ H s → RelV o ov → RelV i iv → RelV v u → t o i v H Q →
    wpAny (model X.prog X.w) X.A (setItem ov iv u) (fun _ s' => ∃ H', Inv X pins σ H' s' ∧ Q H') X.xe s
abbrev TIp := V → V → Hp → VK → Prop
def PIp (X : Cx) (op : Operator) (t : TIp) : Prop :=
  ∀ (pins : List (Addr × Obj)) (s : Shared) (σ : St) (H : Hp) (x y : V) (v u : Value) (Q : VK), Inv X pins σ H s → RelV x v → RelV y u → t x y H Q →
    wpAny (model X.prog X.w) X.A (inplaceOp op v u) (EP X pins σ Q) X.xe s
section
variable {X : Cx} {pos : Pos}
def gName (i : Nat) : TG := fun v σ H Q => Q (σ.set i (some v)) H
theorem pg_name {i : Nat} {x : Str} (hN : X.N.Nodup) (hi : X.N[i]? = some x) (hx : Loc X.env.scope x) (hf : X.fn x = true ∨ X.env.scope.names.lookup x = some .local := by first | exact .inl rfl | exact .inr rfl | assumption) : PG X (.Name x pos) (gName i) := by
  intro pins s σ H v u Q I r h
  exact wpAny_assign_Name (store_ok I hN hi hx r (fun s' I' => ⟨_, H, I', h⟩) hf)
def gNil : TGs := fun vs σ H Q => vs = [] ∧ Q σ H
def gCons (t : TG) (u : TGs) : TGs := fun vs σ H Q => ∃ v r, vs = v :: r ∧ t v σ H fun σ' H' => u r σ' H' Q
theorem pgs_nil : PGs X [] gNil := by
  intro pins s σ H vs us Q I r h
  obtain ⟨e, h⟩ := h
  subst e
  cases r
  exact assignInOrder_nil ⟨σ, H, I, h⟩
theorem pgs_cons {e : Expr} {es : List Expr} {t : TG} {u : TGs} (h1 : PG X e t) (h2 : PGs X es u)
    (hs : (assignEach (e :: es) X.env).map (·.2) = assign e X.env :: (assignEach es X.env).map (·.2) := by rfl) : PGs X (e :: es) (gCons t u) := by
  intro pins s σ H vs us Q I r h
  obtain ⟨v, vr, e1, h⟩ := h
  subst e1
  cases r with
  | cons r rr =>
    rw [hs]
    refine assignInOrder_cons (thn (h1 pins s σ H _ _ _ I r h) fun _ s1 ⟨σ1, H1, I1, q1⟩ => ?_)
    exact h2 pins s1 σ1 H1 _ _ Q I1 rr q1
def gTup (K : PySem.W.Frag) (n : Nat) (t : TGs) : TG := fun v σ H Q => ∃ a xs, v = .ref a ∧ SqT K H a xs ∧ xs.length = n ∧ t xs σ H Q
theorem pg_tup {es : List Expr} {k : Nat} {t : TGs} {n : Nat} (hc : X.calm = true) (h : PGs X es t)
    (hn : (assignEach es X.env).length = n := by rfl) (hst : (assignEach es X.env).findIdx? (·.1) = none := by rfl) : PG X (.Tuple es k pos) (gTup X.K n t) := by
  intro pins s σ H v u Q I r hw
  obtain ⟨a, xs, e1, hq, hl, hw⟩ := hw
  subst e1
  cases r
  obtain ⟨its, rv, ht, hz⟩ := I.tuple hq
  refine assign_Tuple_tuple (I.ok.hd hc) ht (by simp [hn, ← hl, rv.length]) hst fun h' hx => ?_
  have I1 : Inv X pins σ H { s with heap := h' } := I.kept (t' := s.toks) fun b o e => hx b o (Nat.ne_of_lt (Heap.lt_size e)) e
  exact h pins _ σ H xs _ Q I1 (by simpa using rv) hw
def gSub (to ti : TE) (t : TSet) : TG := fun v σ H Q => to σ H fun o H1 => ti σ H1 fun i H2 => t o i v H2 fun H3 => Q σ H3
theorem pg_sub {o i : Expr} {to ti : TE} {t : TSet} (ho : PE X o to) (hi : PE X i ti) (hs : PSet X t)
    (ha : ∀ v, assign (.Subscript o i pos) X.env v = (do
      let ov ← holding [v] (eval o X.env)
      let iv ← holding [v, ov] (eval i X.env)
      standAt pos
      holding [v, ov, iv] (setItem ov iv v)
      release [v, ov, iv] []) := by intro _; rfl) : PG X (.Subscript o i pos) (gSub to ti t) := by
  intro pins s σ H v u Q I r h
  rw [ha]
  refine wpAny_bind (wpAny_holding (thn (ho pins s σ H _ I h) fun ov s1 ⟨x, H1, I1, r1, q1⟩ => ?_))
  refine wpAny_bind (wpAny_holding (thn (hi pins s1 σ H1 _ I1 q1) fun iv s2 ⟨y, H2, I2, r2, q2⟩ => ?_))
  refine wpAny_bind (wpAny_standAt (wpAny_bind (wpAny_holding (thn (hs pins s2 σ H2 x y v ov iv u _ I2 r1 r2 r q2) fun _ s3 ⟨H3, I3, q3⟩ => ?_))))
  exact wpAny_release ⟨σ, H3, I3, q3⟩
def tAsg (te : TE) (g : TG) : TS := fun D σ H => te σ H fun x H1 => g x σ H1 D.nx
theorem ps_asg {tg e : Expr} {te : TE} {g : TG} (he : PE X e te) (hg : PG X tg g) (hs : swapsWithSole [tg] e pos.line X.env = pure false := by rfl) (hw : swappedStores [tg] e X.env = pure none := by rfl)
    (h1 : (assignEach [tg] X.env).map (·.2) = [assign tg X.env] := by rfl) : PS X (.Assign [tg] e pos) (tAsg te g) := by
  intro pins s σ H D I h
  refine wpAny_Assign_stores (thn (he pins s σ H _ I h) fun v s1 ⟨x, H1, I1, r1, q1⟩ => ?_) hs hw
  rw [h1]
  exact thn (hg pins s1 σ H1 x v _ I1 r1 q1) fun _ s2 q => q
theorem ps_set {i : Nat} {x : Str} {e : Expr} {te : TE} {pos' : Pos} (hN : X.N.Nodup) (hi : X.N[i]? = some x) (hx : Loc X.env.scope x) (he : PE X e te) (hs : swapsWith e (some (.Name x pos')) pos.line X.env = pure false := by rfl) (hf : X.fn x = true ∨ X.env.scope.names.lookup x = some .local := by first | exact .inl rfl | exact .inr rfl | assumption) :
    PS X (.Assign [.Name x pos'] e pos) (tAsg te (gName i)) := by
  intro pins s σ H D I h
  refine wpAny_Assign_Name (thn (he pins s σ H _ I h) fun v s1 ⟨y, H1, I1, r1, q1⟩ => ?_) hs
  exact store_ok I1 hN hi hx r1 (fun s2 I2 => ⟨_, H1, I2, q1⟩) hf
def tAug (i : Nat) (te : TE) (ti : TIp) : TS := fun D σ H => ∃ x, σ[i]? = some (some x) ∧ te σ H fun y H1 => ti x y H1 fun z H2 => D.nx (σ.set i (some z)) H2
theorem ps_aug {i : Nat} {x : Str} {e : Expr} {te : TE} {op : Operator} {ti : TIp} {pos' : Pos} (hN : X.N.Nodup) (hi : X.N[i]? = some x) (hx : Loc X.env.scope x) (he : PE X e te) (ho : PIp X op ti) (hf : X.fn x = true ∨ X.env.scope.names.lookup x = some .local := by first | exact .inl rfl | exact .inr rfl | assumption) :
    PS X (.AugAssign (.Name x pos') op e pos) (tAug i te ti) := by
  intro pins s σ H D I h
  obtain ⟨v, e1, h⟩ := h
  obtain ⟨m, hn, hl⟩ := I.loc
  have vis : Vis X.env.scope x := by rcases hx with k | k; exact .inl k; exact .inr (.inl k)
  obtain ⟨u, r, l⟩ := hl i x v hi e1 vis
  refine wpAny_AugAssign_Name ?_
  have go : wpAny (model X.prog X.w) X.A (eval e X.env) (fun w s₂ => wpAny (model X.prog X.w) X.A (inplaceOp op u w) (fun r s₃ => wpAny (model X.prog X.w) X.A (storeName X.env x r) (fun _ => SP X pins D .next) X.xe s₃) X.xe s₂) X.xe s := by
    refine thn (he pins s σ H _ I h) fun w s1 ⟨y, H1, I1, r1, q1⟩ => ?_
    refine thn (ho pins s1 σ H1 v y u w _ I1 r r1 q1) fun z s2 ⟨zv, H2, I2, r2, q2⟩ => ?_
    exact store_ok I2 hN hi hx r2 (fun s3 I3 => ⟨_, H2, I3, q2⟩) hf
  rcases l with ⟨hk, hm⟩ | ⟨hk, c, hc, hcell⟩
  · exact wpAny_loadName_local I.ok.kind hk hn hm go
  · rcases hk with hk | hk
    · exact wpAny_loadName_cell I.ok.kind hk hc hcell go
    · rcases hx with k | k
      · have : X.env.scope.names.lookup x = some .free := hk
        rw [k] at this; cases this
      · have : X.env.scope.names.lookup x = some .free := hk
        rw [k] at this; cases this
def ipI (f : Int → Int → Int) : TIp := fun x y H Q => ∃ i j, x = .int i ∧ y = .int j ∧ Q (.int (f i j)) H
theorem ip_add : PIp X .Add (ipI fun i j => i + j) := by
  intro pins s σ H x y v u Q I r1 r2 h
  obtain ⟨i, j, e1, e2, q⟩ := h
  subst e1; subst e2
  obtain ⟨t, rfl⟩ := r1
  obtain ⟨t', rfl⟩ := r2
  exact iadd_int ⟨.int _, H, I.tok _, ⟨_, rfl⟩, q⟩
end
section
variable {X : Cx} {pos : Pos}
def tWhile (c : TT) (tb : TS) : TS := fun D σ H => ∃ W : Nat → St → Hp → Prop, (∃ m, W m σ H) ∧ ∀ m σ H, W m σ H →
  c σ H fun b H1 => if b = true then ∃ N : St → Hp → Prop, (∀ σ' H', N σ' H' → ∃ m', m' < m ∧ W m' σ' H') ∧ tb { D with nx := N, ct := N, bk := D.nx } σ H1 else D.nx σ H1
theorem ps_while {c : Expr} {body : List Stmt} {tc : TT} {tb : TS} (hp : PassesOwn (model X.prog X.w) X.A X.env X.xe) (hc : PT X c tc) (hb : PSs X body tb) : PS X (.While c body [] pos) (tWhile tc tb) := by
  intro pins s σ H D I h
  obtain ⟨W, ⟨m0, w0⟩, turn⟩ := h
  refine wpAny_While (codeAny_whileLoop (fun n s' => ∃ σ' H', Inv X pins σ' H' s' ∧ W n σ' H') ?_ m0 ⟨σ, H, I, w0⟩)
  rintro n s1 ⟨σ1, H1, I1, w1⟩
  refine wpAny_passesOwn hp (thn (hc pins s1 σ1 H1 _ I1 (turn n σ1 H1 w1)) fun b s2 ⟨H2, I2, q2⟩ => ?_)
  cases b with
  | true =>
    obtain ⟨N, hN, q2⟩ := q2
    rw [if_pos rfl]
    refine wpAny_passesOwn hp (thn (hb pins s2 σ1 H2 _ I2 q2) fun f s3 q3 => ?_)
    cases f with
    | next =>
      obtain ⟨σ3, H3, I3, n3⟩ := q3
      obtain ⟨m', hm, w3⟩ := hN σ3 H3 n3
      exact ⟨m', hm, σ3, H3, I3, w3⟩
    | cont =>
      obtain ⟨σ3, H3, I3, n3⟩ := q3
      obtain ⟨m', hm, w3⟩ := hN σ3 H3 n3
      exact ⟨m', hm, σ3, H3, I3, w3⟩
    | brk => exact q3
    | ret v => exact q3
  | false =>
    rw [if_neg Bool.false_ne_true]
    exact wpAny_execs_nil ⟨σ1, H2, I2, q2⟩
end
structure It where
  go : Nat → Hp → Prop
  yld : Nat → Hp → V → Hp → Prop
  stop : Nat → Hp → Prop
def FpOk (X : Cx) (pins : List (Addr × Obj)) (H : Hp) (b : Addr) : Prop :=
  H b = none ∧ b ≠ X.env.locals ∧ b ∉ X.fs ∧ (b ∈ X.ex ∨ X.s₀.heap.objs.size ≤ b) ∧ (∀ x c, X.env.cells.lookup x = some c → c ≠ b) ∧ ∀ p ∈ X.pn ++ pins, p.1 ≠ b
theorem Inv.fpOk {X : Cx} {pins : List (Addr × Obj)} {σ : St} {H H' : Hp} {s : Shared} {b : Addr} (I : Inv X pins σ H s) (hb : s.heap.objs.size ≤ b) (hn : H' b = none) : FpOk X pins H' b := by
  refine ⟨hn, Nat.ne_of_gt (Nat.lt_of_lt_of_le I.lt hb), I.nofs hb, .inr (Nat.le_trans I.sz hb), fun x c e z => ?_, fun p hp z => ?_⟩
  · obtain ⟨v, q⟩ := I.cell x c e
    exact absurd (Nat.lt_of_lt_of_le q.lt (by rw [z]; exact hb)) (Nat.lt_irrefl _)
  · exact absurd (Nat.lt_of_lt_of_le (Heap.lt_size (I.pin p hp).1) (by rw [z]; exact hb)) (Nat.lt_irrefl _)
structure Turn (P : Program) (w : World) (K : PySem.W.Frag) (tg : Expr) (J : It) (fp : List Addr) (it : Addr) (tn : Nat → Heap → Prop) : Prop where
  mem : it ∈ fp
  obj : ∀ i h, tn i h → ∀ b ∈ fp, ∃ o, h.get? b = some o ∧ ∀ v, o.data ≠ .cell v
  keep : ∀ i h h', tn i h → (∀ b ∈ fp, ∀ o, h.get? b = some o → h'.get? b = some o) → tn i h'
  item : ∀ (X : Cx), X.prog = P → X.w = w → X.K = K → X.calm = true → ∀ (i : Nat) (pins : List (Addr × Obj)) (s : Shared) (σ : St) (H : Hp) (E : Value → Shared → Prop), Inv X pins σ H s → (∀ b ∈ fp, FpOk X pins H b) → tn i s.heap → J.go i H →
    wpAny (model P w) X.A (pyNext (.ref it)) (fun r s1 => ∃ u, r = some u ∧
      wpAny (model P w) X.A (letOwnedTupleGo tg (.ref it) u) (fun _ s2 => ∃ x H', Inv X pins σ H' s2 ∧ RelV x u ∧ J.yld i H x H' ∧ tn (i + 1) s2.heap ∧ ∀ b ∈ fp, H' b = none) E s1) E s
  done : ∀ (X : Cx), X.prog = P → X.w = w → X.K = K → X.calm = true → ∀ (i : Nat) (pins : List (Addr × Obj)) (s : Shared) (σ : St) (H : Hp) (E : Value → Shared → Prop), Inv X pins σ H s → (∀ b ∈ fp, FpOk X pins H b) → tn i s.heap → J.stop i H →
    wpAny (model P w) X.A (pyNext (.ref it)) (fun r s1 => r = none ∧ Inv X pins σ H s1) E s
  self : ∀ (A : Around) (i : Nat) (s : Shared) (Q : Value → Shared → Prop) (E : Value → Shared → Prop), tn i s.heap → Q (.ref it) s → wpAny (model P w) A (pyIter (.ref it)) Q E s
abbrev TI := St → Hp → (It → Hp → Prop) → Prop
def PIE (X : Cx) (pins : List (Addr × Obj)) (σ : St) (tg : Expr) (R : It → Hp → Prop) (itv : Value) (s2 : Shared) : Prop :=
  ∃ (it : Addr) (fp : List Addr) (tn : Nat → Heap → Prop) (J : It) (H' : Hp), itv = .ref it ∧ Inv X pins σ H' s2 ∧ Turn X.prog X.w X.K tg J fp it tn ∧ tn 0 s2.heap ∧ (∀ b ∈ fp, FpOk X pins H' b) ∧ R J H'
def PI (X : Cx) (tg iter : Expr) (wi : TI) : Prop :=
  ∀ (pins : List (Addr × Obj)) (s : Shared) (σ : St) (H : Hp) (R : It → Hp → Prop), Inv X pins σ H s → wi σ H R →
    wpAny (model X.prog X.w) X.A (eval iter X.env) (fun v s1 => wpAny (model X.prog X.w) X.A (pyIter v) (PIE X pins σ tg R) X.xe s1) X.xe s
theorem go_of {M : Model} {A : Around} {E : Value → Shared → Prop} {s : Shared} {tg : Expr} {it : Addr} {u : Value} {o : Obj} {n : String} {vs : Array Value} {Q : Unit → Shared → Prop} (ho : s.heap.get? it = some o) (hc : o.cls = .type n) (hd : o.data = .fields vs)
    (hn : ["enumerate", "zip", "dict_itemiterator", "dict_reverseitemiterator", "odict_iterator", "itertools.zip_longest", "itertools.pairwise"].contains n = false) (hQ : Q () s) : wpAny M A (letOwnedTupleGo tg (.ref it) u) Q E s := by
  unfold letOwnedTupleGo
  cases tg <;> first
    | exact wpAny_pure hQ
    | (cases u <;> first
        | exact wpAny_pure hQ
        | (refine wpAny_bind (wpAny_load ho ?_)
           rw [hc, hd]
           show wpAny M A (if (["enumerate", "zip", "dict_itemiterator", "dict_reverseitemiterator", "odict_iterator", "itertools.zip_longest", "itertools.pairwise"].contains n && vs[0]? == some (rawInt _)) = true then _ else _) Q E s
           rw [if_neg (by intro h; rw [hn, Bool.false_and] at h; cases h)]
           exact wpAny_pure hQ))
def Itl (K : PySem.W.Frag) (a : Addr) : It :=
  ⟨fun i H => ∃ xs x, SqL K H a xs ∧ xs[i]? = some x, fun i H x H' => H' = H ∧ ∀ xs, SqL K H a xs → xs[i]? = some x, fun i H => ∃ xs, SqL K H a xs ∧ xs.length ≤ i⟩
def Itt (K : PySem.W.Frag) (a : Addr) : It :=
  ⟨fun i H => ∃ xs x, SqT K H a xs ∧ xs[i]? = some x, fun i H x H' => H' = H ∧ ∀ xs, SqT K H a xs → xs[i]? = some x, fun i H => ∃ xs, SqT K H a xs ∧ xs.length ≤ i⟩
def Itr (lo : Int) (n : Nat) : It := ⟨fun i _ => i < n, fun i H x H' => H' = H ∧ x = .int (lo + i), fun i _ => n ≤ i⟩
theorem turn_list {P : Program} {w : World} {K : PySem.W.Frag} {tg : Expr} (a it : Addr) : Turn P w K tg (Itl K a) [it] it (fun i h => h.IsListIter it a i) where
  mem := by simp
  obj := fun i h st b hb => by
    have e : b = it := by simpa using hb
    subst e
    obtain ⟨o, e, c, d⟩ := st
    exact ⟨o, e, fun v z => by rw [d] at z; cases z⟩
  keep := fun i h h' st k => st.at fun o e => k it (by simp) o e
  item := by
    intro X hP hw hK hc i pins s σ H E I hf st hg
    subst hP hw hK
    obtain ⟨xs, x, hq, hx⟩ := hg
    obtain ⟨its, rv, p, hz⟩ := I.list hq
    obtain ⟨u, hu, ru⟩ := rv.get hx
    obtain ⟨f0, f1, f2, f3, f4, f5⟩ := hf it (by simp)
    refine wpAny_pyNext_list_item st p.isList (x := u) (by simpa using hu) fun h' st' sb => ?_
    have I1 : Inv X pins σ H { s with heap := h' } := I.turned (t' := s.toks) (fun b o hb e => (sb.2 b hb).trans e) f0 f1 f3 f4 f5
    obtain ⟨o, e, c, d⟩ := id st'
    exact ⟨u, rfl, go_of (s := { s with heap := h' }) e c d (by decide) ⟨x, H, I1, ru, ⟨rfl, fun ys hy => by rw [I.list_inj hy hq]; exact hx⟩, st', fun b hb => (hf b hb).1⟩⟩
  done := by
    intro X hP hw hK hc i pins s σ H E I hf st hg
    subst hP hw hK
    obtain ⟨xs, hq, hx⟩ := hg
    obtain ⟨its, rv, p, hz⟩ := I.list hq
    obtain ⟨f0, f1, f2, f3, f4, f5⟩ := hf it (by simp)
    have hl := rv.length
    exact wpAny_pyNext_list_end (I.ok.hd hc) st p.isList (by simp; omega) fun h' eb => ⟨rfl, I.turned (t' := s.toks) (fun b o hb e => eb b o hb e) f0 f1 f3 f4 f5⟩
  self := fun _ _ _ _ _ st h => wpAny_pyIter_listiter st h
theorem turn_tuple {P : Program} {w : World} {K : PySem.W.Frag} {tg : Expr} (a it : Addr) : Turn P w K tg (Itt K a) [it] it (fun i h => h.IsTupleIter it a i) where
  mem := by simp
  obj := fun i h st b hb => by
    have e : b = it := by simpa using hb
    subst e
    obtain ⟨o, e, c, d⟩ := st
    exact ⟨o, e, fun v z => by rw [d] at z; cases z⟩
  keep := fun i h h' st k => st.at fun o e => k it (by simp) o e
  item := by
    intro X hP hw hK hc i pins s σ H E I hf st hg
    subst hP hw hK
    obtain ⟨xs, x, hq, hx⟩ := hg
    obtain ⟨its, rv, p, hz⟩ := I.tuple hq
    obtain ⟨u, hu, ru⟩ := rv.get hx
    obtain ⟨f0, f1, f2, f3, f4, f5⟩ := hf it (by simp)
    refine wpAny_pyNext_tuple_item st (show s.heap.IsTuple a its.toArray from p) (x := u) (by simpa using hu) fun h' st' sb => ?_
    have I1 : Inv X pins σ H { s with heap := h' } := I.turned (t' := s.toks) (fun b o hb e => (sb.2 b hb).trans e) f0 f1 f3 f4 f5
    obtain ⟨o, e, c, d⟩ := id st'
    exact ⟨u, rfl, go_of (s := { s with heap := h' }) e c d (by decide) ⟨x, H, I1, ru, ⟨rfl, fun ys hy => by rw [I.tuple_inj hy hq]; exact hx⟩, st', fun b hb => (hf b hb).1⟩⟩
  done := by
    intro X hP hw hK hc i pins s σ H E I hf st hg
    subst hP hw hK
    obtain ⟨xs, hq, hx⟩ := hg
    obtain ⟨its, rv, p, hz⟩ := I.tuple hq
    obtain ⟨f0, f1, f2, f3, f4, f5⟩ := hf it (by simp)
    have hl := rv.length
    exact wpAny_pyNext_tuple_end (I.ok.hd hc) st (show s.heap.IsTuple a its.toArray from p) (by simp; omega) fun h' eb => ⟨rfl, I.turned (t' := s.toks) (fun b o hb e => eb b o hb e) f0 f1 f3 f4 f5⟩
  self := fun _ _ _ _ _ st h => wpAny_pyIter_tupleiter st h
theorem turn_range {P : Program} {w : World} {K : PySem.W.Frag} {tg : Expr} (it : Addr) (lo : Int) (n : Nat) : Turn P w K tg (Itr lo n) [it] it (fun i h => IsRangeIter h it (lo + (i : Nat) * 1) ((n : Int) - (i : Nat)) 1) where
  mem := by simp
  obj := fun i h st b hb => by
    have e : b = it := by simpa using hb
    subst e
    exact ⟨_, st, fun v z => by
      have z' : Data.fields _ = Data.cell v := z
      cases z'⟩
  keep := fun i h h' st k => k it (by simp) _ st
  item := by
    intro X hP hw hK hc i pins s σ H E I hf st hg
    subst hP hw hK
    obtain ⟨f0, f1, f2, f3, f4, f5⟩ := hf it (by simp)
    have W := Walks.range (prog := X.prog) (w := X.w) (I.ok.hd hc) it lo 1 n
    refine W.item i s _ _ hg st fun v h' tk hv st' kk => ?_
    obtain ⟨t, rfl⟩ := hv
    have I1 : Inv X pins σ H { s with heap := h', toks := tk } := I.turned (fun b o hb e => kk b o (by simpa using hb) e) f0 f1 f3 f4 f5
    refine ⟨_, rfl, go_of (s := { s with heap := h', toks := tk }) (n := "range_iterator") st' rfl rfl (by decide) ⟨.int (lo + i), H, I1, ⟨t, ?_⟩, ⟨rfl, rfl⟩, st', fun b hb => (hf b hb).1⟩⟩
    rw [Int.mul_one]
  done := by
    intro X hP hw hK hc i pins s σ H E I hf st hg
    subst hP hw hK
    obtain ⟨f0, f1, f2, f3, f4, f5⟩ := hf it (by simp)
    exact wpAny_pyNext_range_end (I.ok.hd hc) st (by have : n ≤ i := hg; omega) fun h' eb => ⟨rfl, I.turned (t' := s.toks) (fun b o hb e => eb b o hb e) f0 f1 f3 f4 f5⟩
  self := fun _ _ _ _ _ st h => wpAny_pyIter_rangeiter st h
end L2
namespace L2
open PySem PySem.Spec PyProof.Rows
section
variable {X : Cx} {tg : Expr}
theorem range_it {pins : List (Addr × Obj)} {σ : St} {H : Hp} {s : Shared} {R : It → Hp → Prop} {E : Value → Shared → Prop} {lo hi : Int} {t u v : Tok} {tk : Nat} (I : Inv X pins σ H s) (h1 : -(2 ^ 62) ≤ lo) (h2 : lo < 2 ^ 62) (h3 : -(2 ^ 62) ≤ hi) (h4 : hi < 2 ^ 62)
    (q : R (Itr lo (hi - lo).toNat) H) : wpAny (model X.prog X.w) X.A (pyIter (.ref s.heap.objs.size)) (PIE X pins σ tg R) E { s with heap := s.heap.push { cls := .type "range", data := .fields #[.int lo t, .int hi u, .int 1 v] }, toks := tk } := by
  refine wpAny_pyIter_range (IsRange.new ..) (small_one h1 h2 h3 h4) ?_
  have I1 : Inv X pins σ H { s with heap := s.heap.push { cls := .type "range", data := .fields #[.int lo t, .int hi u, .int 1 v] }, toks := tk } := I.kept fun b o e => Heap.get?_push_of_some _ e
  refine ⟨(s.heap.push { cls := .type "range", data := .fields #[.int lo t, .int hi u, .int 1 v] }).objs.size, [(s.heap.push { cls := .type "range", data := .fields #[.int lo t, .int hi u, .int 1 v] }).objs.size], _, _, H, rfl,
    I1.kept (t' := tk) fun b o e => Heap.get?_push_of_some _ e, turn_range _ lo (hi - lo).toNat, ?_, fun b hb => ?_, q⟩
  · have e1 : lo + ((0 : Nat) : Int) * 1 = lo := by simp
    have e2 : (((hi - lo).toNat : Nat) : Int) - ((0 : Nat) : Int) = Builtin.Range.rangeSize lo hi 1 := by rw [rangeSize_one]; split <;> omega
    show IsRangeIter _ _ (lo + ((0 : Nat) : Int) * 1) ((((hi - lo).toNat : Nat) : Int) - ((0 : Nat) : Int)) 1
    rw [e1, e2]
    exact Heap.get?_push_size _ rfl
  · have e : b = (s.heap.push { cls := .type "range", data := .fields #[.int lo t, .int hi u, .int 1 v] }).objs.size := by simpa using hb
    subst e
    exact I1.fpOk (Nat.le_refl _) (I1.hok.fresh (Nat.le_refl _))
def iRng1 (ta : TA) : TI := fun σ H R => ta σ H fun vs H1 => ∃ j : Int, vs = [.int j] ∧ -(2 ^ 62) ≤ j ∧ j < 2 ^ 62 ∧ R (Itr 0 j.toNat) H1
theorem pi_range1 {a : Expr} {ta : TA} {p pos : Pos} (hg : Gl X "range") (hm : X.mg "range" = none) (ha : PA X [a] ta) (hs : starEach [a] X.env = [(false, eval a X.env)] := by rfl) : PI X tg (.Call (.Name "range" p) [a] [] pos) (iRng1 ta) := by
  intro pins s σ H R I h
  refine Call_ (ld_blt I hg hm boot_range (PyProof.Rows.callWith_type1 (thn (ha pos pins s σ H _ I h) fun us s1 ⟨vs, H1, I1, r1, q1⟩ => ?_) hs rfl))
  obtain ⟨j, e, q1, q2, q⟩ := q1
  subst e
  cases r1 with
  | cons r rr =>
    cases rr
    obtain ⟨t, rfl⟩ := r
    exact call_range_1 (range_it I1 (by omega) (by omega) q1 q2 (by simpa using q))
def tFor (wi : TI) (g : TG) (tb : TS) : TS := fun D σ H => wi σ H fun J H1 => ∃ W : Nat → Nat → St → Hp → Prop, (∃ m, W 0 m σ H1) ∧ ∀ i m σ H, W i m σ H →
  (J.stop i H ∧ D.nx σ H) ∨ (J.go i H ∧ ∃ N : St → Hp → Prop, (∀ σ' H', N σ' H' → ∃ m', m' < m ∧ W (i + 1) m' σ' H') ∧ ∀ x H', J.yld i H x H' → g x σ H' fun σ2 H2 => tb { D with nx := N, ct := N, bk := D.nx } σ2 H2)
def pinsAt (fp : List Addr) (h : Heap) : List (Addr × Obj) := fp.filterMap fun b => (h.get? b).map fun o => (b, o)
theorem mem_pinsAt {fp : List Addr} {h : Heap} {b : Addr} {o : Obj} (hb : b ∈ fp) (e : h.get? b = some o) : (b, o) ∈ pinsAt fp h := List.mem_filterMap.mpr ⟨b, hb, by rw [e]; rfl⟩
theorem of_pinsAt {fp : List Addr} {h : Heap} {p : Addr × Obj} (hp : p ∈ pinsAt fp h) : p.1 ∈ fp ∧ h.get? p.1 = some p.2 := by
  obtain ⟨b, hb, e⟩ := List.mem_filterMap.mp hp
  cases q : h.get? b with
  | none => rw [q] at e; cases e
  | some o =>
    rw [q] at e
    have e' : (b, o) = p := Option.some.inj e
    subst e'
    exact ⟨hb, q⟩
theorem Inv.pinned {pins : List (Addr × Obj)} {σ : St} {H : Hp} {s : Shared} {fp : List Addr} (I : Inv X pins σ H s) (hf : ∀ b ∈ fp, FpOk X pins H b) (ho : ∀ b ∈ fp, ∃ o, s.heap.get? b = some o ∧ ∀ v, o.data ≠ .cell v) : Inv X (pins ++ pinsAt fp s.heap) σ H s :=
  I.pins_of fun p hp => (List.mem_append.mp hp).elim (fun z => I.pin p (List.mem_append_right _ z)) fun z => by
    obtain ⟨hb, e⟩ := of_pinsAt z
    obtain ⟨f0, f1, f2, _⟩ := hf p.1 hb
    obtain ⟨o, e', d⟩ := ho p.1 hb
    rw [e] at e'; cases e'
    exact ⟨e, f0, f1, f2, d⟩
theorem Inv.unpinned {pins pl : List (Addr × Obj)} {σ : St} {H : Hp} {s : Shared} (I : Inv X (pins ++ pl) σ H s) : Inv X pins σ H s := I.pins_of fun p hp => I.pin p (List.mem_append_right _ (List.mem_append_left _ hp))
theorem ps_for {iter : Expr} {body : List Stmt} {wi : TI} {g : TG} {tb : TS} {pos : Pos} (hp : PassesOwn (model X.prog X.w) X.A X.env X.xe) (hc : X.calm = true) (hi : PI X tg iter wi) (hg : PG X tg g) (hb : PSs X body tb)
    (hs : ∀ x, foldedSetIterable iter X.env x = pure x := by intro _; rfl) : PS X (.For tg iter body [] pos) (tFor wi g tb) := by
  intro pins s σ H D I h
  refine wpAny_For (thn (hi pins s σ H _ I h) fun v s1 h1 => thn h1 fun itv s2 h2 => ?_) hs
  obtain ⟨it, fp, tn, J, H2, e, I2, T, st2, f2, W, ⟨m0, w0⟩, turn⟩ := h2
  subst e
  have stat : ∀ {H' : Hp}, (∀ b ∈ fp, H' b = none) → ∀ b ∈ fp, FpOk X pins H' b := fun hn b hb => ⟨hn b hb, (f2 b hb).2⟩
  refine codeAny_forLoop_any (fun n s' => ∃ i σ' H', Inv X pins σ' H' s' ∧ tn i s'.heap ∧ (∀ b ∈ fp, H' b = none) ∧ W i n σ' H') ?_ m0 ⟨0, σ, H2, I2, st2, fun b hb => (f2 b hb).1, w0⟩
  rintro n s3 ⟨i, σ3, H3, I3, st3, fr3, w3⟩
  rcases turn i n σ3 H3 w3 with ⟨stop, qn⟩ | ⟨go, N, hN, step⟩
  · refine wpAny_passesOwn hp (thn (T.done X rfl rfl rfl hc i pins s3 σ3 H3 X.xe I3 (stat fr3) st3 stop) fun r s4 ⟨hr, I4⟩ => ?_)
    subst hr
    exact wpAny_execs_nil ⟨σ3, H3, I4, qn⟩
  · refine wpAny_passesOwn hp (thn (T.item X rfl rfl rfl hc i pins s3 σ3 H3 X.xe I3 (stat fr3) st3 go) fun r s4 ⟨u, hr, h4⟩ => ?_)
    subst hr
    refine wpAny_passesOwn hp (thn h4 fun _ s5 ⟨x, H5, I5, r5, y5, st5, fr5⟩ => ?_)
    have I5' := I5.pinned (stat fr5) (T.obj _ _ st5)
    refine wpAny_passesOwn hp (thn (hg _ s5 σ3 H5 x u _ I5' r5 (step x H5 y5)) fun _ s6 ⟨σ6, H6, I6, q6⟩ => ?_)
    refine wpAny_passesOwn hp (thn (hb _ s6 σ6 H6 _ I6 q6) fun f s7 q7 => ?_)
    have again : ∀ {σ7 : St} {H7 : Hp}, Inv X (pins ++ pinsAt fp s5.heap) σ7 H7 s7 → N σ7 H7 → ∃ m, m < n ∧ ∃ i σ' H', Inv X pins σ' H' s7 ∧ tn i s7.heap ∧ (∀ b ∈ fp, H' b = none) ∧ W i m σ' H' := fun {σ7 H7} I7 n7 => by
      obtain ⟨m', hm, w7⟩ := hN σ7 H7 n7
      refine ⟨m', hm, i + 1, σ7, H7, I7.unpinned, T.keep _ _ _ st5 fun b hb o e => (I7.pin (b, o) (List.mem_append_right _ (List.mem_append_right _ (mem_pinsAt hb e)))).1, fun b hb => ?_, w7⟩
      obtain ⟨o, e, d⟩ := T.obj _ _ st5 b hb
      exact (I7.pin (b, o) (List.mem_append_right _ (List.mem_append_right _ (mem_pinsAt hb e)))).2.1
    cases f with
    | next => obtain ⟨σ7, H7, I7, n7⟩ := q7; exact again I7 n7
    | cont => obtain ⟨σ7, H7, I7, n7⟩ := q7; exact again I7 n7
    | brk => obtain ⟨σ7, H7, I7, q7⟩ := q7; exact ⟨σ7, H7, I7.unpinned, q7⟩
    | ret v => obtain ⟨x7, σ7, H7, I7, r7, q7⟩ := q7; exact ⟨x7, σ7, H7, I7.unpinned, r7, q7⟩
end
end L2
namespace L2
open PySem PySem.Spec PyProof.Rows
abbrev R2 := V → V → Hp → VK → Prop
def OpR (X : Cx) (f : Value → Value → Sem Value) (r : R2) : Prop :=
  ∀ (pins : List (Addr × Obj)) (s : Shared) (σ : St) (H : Hp) (x y : V) (v u : Value) (Q : VK), Inv X pins σ H s → RelV x v → RelV y u → r x y H Q →
    wpAny (model X.prog X.w) X.A (f v u) (EP X pins σ Q) X.xe s
def UnR (X : Cx) (f : Value → Sem Value) (r : V → Hp → VK → Prop) : Prop :=
  ∀ (pins : List (Addr × Obj)) (s : Shared) (σ : St) (H : Hp) (x : V) (v : Value) (Q : VK), Inv X pins σ H s → RelV x v → r x H Q →
    wpAny (model X.prog X.w) X.A (f v) (EP X pins σ Q) X.xe s
def CallR (X : Cx) (f : Value) (r : List V → Hp → VK → Prop) : Prop :=
  ∀ (pins : List (Addr × Obj)) (s : Shared) (σ : St) (H : Hp) (xs : List V) (us : List Value) (Q : VK), Inv X pins σ H s → Vals xs us → r xs H Q →
    wpAny (model X.prog X.w) X.A (call f us) (EP X pins σ Q) X.xe s
def tOp (r : R2) (ta tb : TE) : TE := fun σ H Q => ta σ H fun x H1 => tb σ H1 fun y H2 => r x y H2 Q
def tUn (r : V → Hp → VK → Prop) (ta : TE) : TE := fun σ H Q => ta σ H fun x H1 => r x H1 Q
def rI (C : Int → Int → Prop) (g : Int → Int → V) : R2 := fun x y H Q => ∃ i j, x = .int i ∧ y = .int j ∧ C i j ∧ Q (g i j) H
def rI0 (g : Int → Int → V) : R2 := fun x y H Q => ∃ i j, x = .int i ∧ y = .int j ∧ Q (g i j) H
def rU (g : Int → V) : V → Hp → VK → Prop := fun x H Q => ∃ i, x = .int i ∧ Q (g i) H
section
variable {X : Cx} {a b c : Expr} {ta tb tc : TE} {pos : Pos}
theorem binT (ha : PE X a ta) (hb : PE X b tb) {pins : List (Addr × Obj)} {s : Shared} {σ : St} {H : Hp} {R : V → V → Hp → Prop} (I : Inv X pins σ H s)
    (h : ta σ H fun x H1 => tb σ H1 fun y H2 => R x y H2) {Q : Value → Shared → Prop} {f : Value → Value → Sem Value}
    (hf : ∀ v u s2 x y H2, Inv X pins σ H2 s2 → RelV x v → RelV y u → R x y H2 → wpAny (model X.prog X.w) X.A (f v u) Q X.xe s2) :
    wpAny (model X.prog X.w) X.A (eval a X.env) (fun v s₁ => wpAny (model X.prog X.w) X.A (eval b X.env) (fun u s₂ => wpAny (model X.prog X.w) X.A (f v u) Q X.xe s₂) X.xe s₁) X.xe s := by
  refine thn (ha pins s σ H _ I h) fun v s1 ⟨x, H1, I1, r1, q1⟩ => ?_
  refine thn (hb pins s1 σ H1 _ I1 q1) fun u s2 ⟨y, H2, I2, r2, q2⟩ => ?_
  exact hf v u s2 x y H2 I2 r1 r2 q2
theorem pe_op {op : Operator} {r : R2} (ho : OpR X (binaryOp op) r) (ha : PE X a ta) (hb : PE X b tb) : PE X (.BinOp a op b pos) (tOp r ta tb) := by
  intro pins s σ H Q I h
  exact wpAny_BinOp (binT ha hb I h fun v u s2 x y H2 I2 rx ry q => ho pins s2 σ H2 x y v u Q I2 rx ry q)
theorem pe_un {op : UnaryOp} {r : V → Hp → VK → Prop} (ho : UnR X (unaryOp op) r) (ha : PE X a ta) : PE X (.UnaryOp op a pos) (tUn r ta) := by
  intro pins s σ H Q I h
  exact UnaryOp_ (thn (ha pins s σ H _ I h) fun v s1 ⟨x, H1, I1, r1, q1⟩ => ho pins s1 σ H1 x v Q I1 r1 q1)
theorem opI {f : Value → Value → Sem Value} {C : Int → Int → Prop} {g : Int → Int → Int}
    (rule : ∀ (i j : Int) (t u : Tok) (s : Shared) (Q : Value → Shared → Prop) (E : Value → Shared → Prop), C i j → Q (.int (g i j) s.toks) { s with toks := s.toks + 1 } → wpAny (model X.prog X.w) X.A (f (.int i t) (.int j u)) Q E s) :
    OpR X f (rI C fun i j => .int (g i j)) := by
  intro pins s σ H x y v u Q I rx ry h
  obtain ⟨i, j, rfl, rfl, hc, q⟩ := h
  obtain ⟨t, rfl⟩ := rx
  obtain ⟨t', rfl⟩ := ry
  exact rule i j t t' s _ _ hc ⟨.int (g i j), H, I.tok _, ⟨_, rfl⟩, q⟩
theorem opI0 {f : Value → Value → Sem Value} {g : Int → Int → Int}
    (rule : ∀ (i j : Int) (t u : Tok) (s : Shared) (Q : Value → Shared → Prop) (E : Value → Shared → Prop), Q (.int (g i j) s.toks) { s with toks := s.toks + 1 } → wpAny (model X.prog X.w) X.A (f (.int i t) (.int j u)) Q E s) :
    OpR X f (rI0 fun i j => .int (g i j)) := by
  intro pins s σ H x y v u Q I rx ry h
  obtain ⟨i, j, rfl, rfl, q⟩ := h
  obtain ⟨t, rfl⟩ := rx
  obtain ⟨t', rfl⟩ := ry
  exact rule i j t t' s _ _ ⟨.int (g i j), H, I.tok _, ⟨_, rfl⟩, q⟩
theorem opB0 {f : Value → Value → Sem Value} {g : Int → Int → Bool}
    (rule : ∀ (i j : Int) (t u : Tok) (s : Shared) (Q : Value → Shared → Prop) (E : Value → Shared → Prop), Q (.bool (g i j)) s → wpAny (model X.prog X.w) X.A (f (.int i t) (.int j u)) Q E s) :
    OpR X f (rI0 fun i j => .bl (g i j)) := by
  intro pins s σ H x y v u Q I rx ry h
  obtain ⟨i, j, rfl, rfl, q⟩ := h
  obtain ⟨t, rfl⟩ := rx
  obtain ⟨t', rfl⟩ := ry
  exact rule i j t t' s _ _ ⟨.bl (g i j), H, I, rfl, q⟩
def CPow (i j : Int) : Prop := 0 ≤ j ∧ j ≤ 1000000 ∧ i.natAbs < 2 ^ 64
def CMul (i j : Int) : Prop := (-(2 ^ 64) < i ∧ i < 2 ^ 64) ∨ (-(2 ^ 64) < j ∧ j < 2 ^ 64)
theorem CMul.ok {i j : Int} (h : CMul i j) : IntMulOk i j := by
  rcases h with ⟨h1, h2⟩ | ⟨h1, h2⟩
  · exact .of_left (intBits_le_64 h1 h2)
  · exact .of_right (intBits_le_64 h1 h2)
theorem op_add : OpR X (binaryOp .Add) (rI0 fun i j => .int (i + j)) := opI0 fun _ _ _ _ _ _ _ q => add_int q
theorem op_sub : OpR X (binaryOp .Sub) (rI0 fun i j => .int (i - j)) := opI0 fun _ _ _ _ _ _ _ q => sub_int q
theorem op_modN : OpR X (binaryOp .Mod) (rI (fun _ j => j ≠ 0) fun i j => .int (i.fmod j)) := opI fun _ _ _ _ _ _ _ hc q => mod_int' hc q
theorem op_pow : OpR X (binaryOp .Pow) (rI CPow fun i j => .int (i ^ j.toNat)) := opI fun _ _ _ _ _ _ _ hc q => pow_int_small hc.1 hc.2.1 hc.2.2 q
theorem unI {f : Value → Sem Value} {g : Int → Int}
    (rule : ∀ (i : Int) (t : Tok) (s : Shared) (Q : Value → Shared → Prop) (E : Value → Shared → Prop), Q (.int (g i) s.toks) { s with toks := s.toks + 1 } → wpAny (model X.prog X.w) X.A (f (.int i t)) Q E s) :
    UnR X f (rU fun i => .int (g i)) := by
  intro pins s σ H x v Q I rx h
  obtain ⟨i, rfl, q⟩ := h
  obtain ⟨t, rfl⟩ := rx
  exact rule i t s _ _ ⟨.int (g i), H, I.tok _, ⟨_, rfl⟩, q⟩
theorem un_neg : UnR X (unaryOp .USub) (rU fun i => .int (-i)) := unI fun _ _ _ _ _ q => neg_int q
end
section
variable {X : Cx} {a b c : Expr} {ta tb tc : TE} {pos : Pos}
theorem fin_bl {pins : List (Addr × Obj)} {σ : St} {H : Hp} {s : Shared} {Q : VK} {k k' : Bool} (I : Inv X pins σ H s) (q : Q (.bl k) H) (e : k = k') : EP X pins σ Q (.bool k') s := by
  subst e
  exact ⟨.bl k, H, I, rfl, q⟩
theorem op_lt : OpR X (compareOp .Lt) (rI0 fun i j => .bl (decide (i < j))) := opB0 fun _ _ _ _ _ _ _ q => lt_int q
theorem op_le : OpR X (compareOp .LtE) (rI0 fun i j => .bl (decide (i ≤ j))) := opB0 fun _ _ _ _ _ _ _ q => le_int q
theorem op_gt : OpR X (compareOp .Gt) (rI0 fun i j => .bl (decide (j < i))) := opB0 fun _ _ _ _ _ _ _ q => gt_int q
theorem op_ge : OpR X (compareOp .GtE) (rI0 fun i j => .bl (decide (j ≤ i))) := opB0 fun _ _ _ _ _ _ _ q => ge_int q
theorem op_isN : OpR X (compareOp .Is) (fun x y H Q => y = .non ∧ Q (.bl (decide (x = .non))) H) := by
  intro pins s σ H x y v u Q I rx ry h
  obtain ⟨rfl, q⟩ := h
  cases ry
  refine is_none_gen (fin_bl I q ?_)
  cases x <;> first
    | (cases rx; rfl)
    | (obtain ⟨t, rfl⟩ := rx; rfl)
theorem OpR.or {f : Value → Value → Sem Value} {r r' : R2} (h : OpR X f r) (h' : OpR X f r') : OpR X f (fun x y H Q => r x y H Q ∨ r' x y H Q) := by
  intro pins s σ H x y v u Q I rx ry q
  rcases q with q | q
  · exact h pins s σ H x y v u Q I rx ry q
  · exact h' pins s σ H x y v u Q I rx ry q
theorem nomark (b : Expr) {op : CmpOp} (h : op ≠ .In := by decide) (h2 : op ≠ .NotIn := by decide) : behindInMarks op b = false := by
  have e1 : (op == CmpOp.In) = false := by cases op <;> first | rfl | exact absurd rfl h
  have e2 : (op == CmpOp.NotIn) = false := by cases op <;> first | rfl | exact absurd rfl h2
  cases b <;> simp [behindInMarks, e1, e2]
theorem pe_cmpR {op : CmpOp} {r : R2} (ho : OpR X (compareOp op) r) (ha : PE X a ta) (hb : PE X b tb) (hm : behindInMarks op b = false) : PE X (.Compare a [op] [b] pos) (tOp r ta tb) := by
  intro pins s σ H Q I h
  exact wpAny_Compare1 (binT ha hb I h fun v u s2 x y H2 I2 rx ry q => ho pins s2 σ H2 x y v u Q I2 rx ry q) hm
def tTest (t : TE) : TT := fun σ H Q => t σ H fun x H' => ∃ k, x = .bl k ∧ Q k H'
theorem pt_cmpR {op : CmpOp} {r : R2} (ho : OpR X (compareOp op) r) (ha : PE X a ta) (hb : PE X b tb) (hm : behindInMarks op b = false) : PT X (.Compare a [op] [b] pos) (tTest (tOp r ta tb)) := by
  intro pins s σ H Q I h
  refine wpAny_isTrue_Compare1 (thn (ha pins s σ H _ I h) fun v s1 ⟨x, H1, I1, r1, q1⟩ => thn (hb pins s1 σ H1 _ I1 q1) fun u s2 ⟨y, H2, I2, r2, q2⟩ =>
    thn (ho pins s2 σ H2 x y v u _ I2 r1 r2 q2) fun c s3 ⟨z, H3, I3, r3, k, e, q3⟩ => ?_) hm
  subst e
  cases r3
  exact wpAny_truthy_bool ⟨H3, I3, q3⟩
def tChain (r r' : R2) (ta tb tc : TE) : TE := fun σ H Q => ta σ H fun x H1 => tb σ H1 fun y H2 => r x y H2 fun z H3 => ∃ k, z = .bl k ∧
  (if k = true then tc σ H3 fun w' H4 => r' y w' H4 Q else Q (.bl false) H3)
theorem pt_chain {op op' : CmpOp} {r r' : R2} (ho : OpR X (compareOp op) r) (ho' : OpR X (compareOp op') r') (ha : PE X a ta) (hb : PE X b tb) (hc : PE X c tc)
    (hm : lastMarks [op, op'] [b, c] = false := by with_unfolding_all rfl) : PT X (.Compare a [op, op'] [b, c] pos) (tTest (tChain r r' ta tb tc)) := by
  intro pins s σ H Q I h
  refine isTrue_chain (thn (ha pins s σ H _ I h) fun v s1 ⟨x, H1, I1, r1, q1⟩ => test_link (thn (hb pins s1 σ H1 _ I1 q1) fun u s2 ⟨y, H2, I2, r2, q2⟩ =>
    thn (ho pins s2 σ H2 x y v u _ I2 r1 r2 q2) fun d s3 ⟨z, H3, I3, r3, k, e, q3⟩ => ?_)) hm
  subst e
  cases r3
  refine wpAny_truthy_bool ?_
  cases k with
  | false =>
    obtain ⟨k', e', q'⟩ := q3
    cases e'
    exact ite_ff ⟨H3, I3, q'⟩
  | true =>
    refine ite_tt (test_last (thn (hc pins s3 σ H3 _ I3 q3) fun w' s4 ⟨z', H4, I4, r4, q4⟩ => thn (ho' pins s4 σ H4 y z' u w' _ I4 r2 r4 q4) fun d' s5 ⟨z2, H5, I5, r5, k2, e2, q5⟩ => ?_))
    subst e2
    cases r5
    exact wpAny_truthy_bool ⟨H5, I5, q5⟩
theorem line63 : (sizeLine : Nat) < 2 ^ 63 := by rw [sizeLine_eq]; decide
theorem op_add_str : OpR X (binaryOp .Add) (fun x y H Q => ∃ i j, x = .str i ∧ y = .str j ∧ i.length + j.length ≤ sizeLine ∧ Q (.str (i ++ j)) H) := by
  intro pins s σ H x y v u Q I rx ry h
  obtain ⟨i, j, rfl, rfl, hz, q⟩ := h
  obtain ⟨t, rfl⟩ := rx
  obtain ⟨t', rfl⟩ := ry
  exact add_str (fun t' tk => ⟨.str (i ++ j), H, I.tok _, ⟨_, rfl⟩, q⟩) hz
theorem vals1 {x : V} {us : List Value} (r : Vals [x] us) : ∃ u, us = [u] ∧ RelV x u := by
  cases r with
  | cons r1 r2 => cases r2; exact ⟨_, rfl, r1⟩
theorem vals2 {x y : V} {us : List Value} (r : Vals [x, y] us) : ∃ u w', us = [u, w'] ∧ RelV x u ∧ RelV y w' := by
  cases r with
  | cons r1 r2 =>
    cases r2 with
    | cons r3 r4 => cases r4; exact ⟨_, _, rfl, r1, r3⟩
theorem call_abs : CallR X (.builtin "abs") (fun xs H Q => ∃ i, xs = [.int i] ∧ Q (.int (if i < 0 then -i else i)) H) := by
  intro pins s σ H xs us Q I r h
  obtain ⟨i, rfl, q⟩ := h
  obtain ⟨u, rfl, t, rfl⟩ := vals1 r
  exact call_abs_int fun u tk => ⟨.int (if i < 0 then -i else i), H, I.tok _, ⟨_, rfl⟩, q⟩
theorem call_max2 (hc : X.calm = true) : CallR X (.builtin "max") (fun xs H Q => ∃ i j, xs = [.int i, .int j] ∧ Q (.int (if j > i then j else i)) H) := by
  intro pins s σ H xs us Q I r h
  obtain ⟨i, j, rfl, q⟩ := h
  obtain ⟨u, w', rfl, ⟨t, rfl⟩, ⟨t', rfl⟩⟩ := vals2 r
  refine max_two_ints (I.ok.hd hc) fun h' tk k => ⟨_, H, I.kept k, ?_, q⟩
  by_cases hj : j > i
  · rw [if_pos hj, if_pos hj]; exact ⟨_, rfl⟩
  · rw [if_neg hj, if_neg hj]; exact ⟨_, rfl⟩
theorem call_min2 (hc : X.calm = true) : CallR X (.builtin "min") (fun xs H Q => ∃ i j, xs = [.int i, .int j] ∧ Q (.int (if j < i then j else i)) H) := by
  intro pins s σ H xs us Q I r h
  obtain ⟨i, j, rfl, q⟩ := h
  obtain ⟨u, w', rfl, ⟨t, rfl⟩, ⟨t', rfl⟩⟩ := vals2 r
  refine min_two_ints (I.ok.hd hc) fun h' tk k => ⟨_, H, I.kept k, ?_, q⟩
  by_cases hj : j < i
  · rw [if_pos hj, if_pos hj]; exact ⟨_, rfl⟩
  · rw [if_neg hj, if_neg hj]; exact ⟨_, rfl⟩
end
end L2
namespace L2
open PySem PySem.Spec PyProof.Rows
structure ObjM (h : Heap) (x dx C : Addr) (mA : Str → Option Value) : Prop where
  obj : h.get? x = some (PySem.W.instObj C dx)
  ns : h.Ns1 dx mA
  ne : dx ≠ x
theorem lookIn_ns {h : Heap} {dx : Addr} {mA : Str → Option Value} (n : h.Ns1 dx mA) : ∃ od, h.get? dx = some od ∧ ∀ name, PySem.W.lookIn name od = some (mA name) := by
  obtain ⟨o, es, ep, ho, hd, hk, _, hm⟩ := n
  refine ⟨o, ho, fun name => ?_⟩
  have e := hm name
  unfold nsFind findBy at e
  rw [← Array.find?_toList] at e
  unfold PySem.W.lookIn
  rw [hd]
  dsimp only
  split
  · rename_i y q
    rw [q] at e
    exact congrArg some e
  · rename_i q
    rw [q] at e
    have a : es.toList.any (·.refKey) = false := by
      rw [List.any_eq_false]
      intro y hy
      obtain ⟨z, t, hkey⟩ := hk y (Array.mem_toList_iff.mp hy)
      simp [DictEntry.refKey, hkey]
    have a' : ¬ es.toList.any (·.refKey) = true := by rw [a]; exact Bool.false_ne_true
    rw [if_neg a']
    exact congrArg some e
theorem ObjM.look {h : Heap} {x dx C : Addr} {mA : Str → Option Value} (I : ObjM h x dx C mA) : ∃ od, PySem.W.InstAt h x (PySem.W.instObj C dx) C (some od) ∧ ∀ name, PySem.W.lookIn name od = some (mA name) :=
  let ⟨od, ho, hl⟩ := lookIn_ns I.ns
  ⟨od, ⟨I.obj, rfl, rfl, ho⟩, hl⟩
section
variable {prog : Program} {w : World} {A : Around} {E : Value → Shared → Prop} {s : Shared} {K : PySem.W.Frag} {x dx C f : Addr} {mA : Str → Option Value} {name : Str} {v : Value}
theorem get_map {expr : Bool} {Q : Value → Shared → Prop} (X : K.In s.heap) (I : ObjM s.heap x dx C mA) (hg : PySem.W.plainGet K C name = true) (hh : PySem.W.hasDictIn K C = true)
    (ha : PySem.W.findIn K (.ref C) name = some none) (hv : mA name = some v) (hv' : PySem.W.handedIn v = true) (h : Q v { s with toks := s.toks + 1 }) :
    wpAny (model prog w) A (getAttr (.ref x) name expr) Q E s := by
  obtain ⟨od, J, hl⟩ := I.look
  exact PySem.W.get_value X J (PySem.W.plainGet_of hg).1 (PySem.W.findObj_own hh ha rfl (by rw [hl, hv])) hv' h
theorem set_map {ns : List Str} {Q : Unit → Shared → Prop} (X : K.In s.heap) (I : ObjM s.heap x dx C mA)
    (hs : PySem.W.findIn K (.ref C) "__setattr__" = some (some (.builtin "object.__setattr__"))) (hp : PySem.W.plainOver K C = true) (ht : PySem.W.takerIn K C name = some none) (hh : PySem.W.hasDictIn K C = true)
    (hw : PySem.Within mA ns) (hsz : ns.length ≤ sizeLine)
    (h : ∀ h', ObjM h' x dx C (fun y => if y = name then some v else mA y) → Heap.SameBut dx s.heap h' → Q () { s with heap := h', toks := s.toks + 2 }) :
    wpAny (model prog w) A (setAttr (.ref x) name v) Q E s := by
  obtain ⟨od, J, hl⟩ := I.look
  refine PySem.W.set_plain X J hs (PySem.W.osa_open (s := { s with toks := s.toks + 1 }) (r := none) X J hp ht fun b => ?_)
  obtain ⟨cd, hc, hd'⟩ := PySem.W.any_some hh
  have hx : s.heap.get? x = some ⟨.ref C, some dx, .plain, #[]⟩ := I.obj
  refine wpAny_bind (wpAny_pure (wpAny_bind (wpAny_bind (wpAny_loadPart hx (wpAny_bind (PySem.W.Looks.here (s := { s with toks := s.toks + 1 }) (PySem.W.looks_clsIn X hc) ?_))))))
  rw [hd']
  refine wpAny_pure (a := some dx) (wpAny_bind (wpAny_pure (wpAny_bind ?_)))
  refine wpAny_nsSet1 (s := { s with toks := s.toks + 1 }) I.ns fun h' hn2 hs2 => ?_
  obtain ⟨oD, esD, epD, hoD, hdD, hcD⟩ := hn2.count (PySem.Within.cons name v hw)
  refine wpAny_bind (wpAny_lookBehind hoD (by rw [hdD]; exact pastItsLine_dict (Nat.le_trans hcD (by rw [List.length_cons]; omega))) ?_)
  exact wpAny_pure (h _ ⟨(hs2.2 _ (Ne.symm I.ne)).trans I.obj, hn2, I.ne⟩ hs2)
theorem make_map {R : Result → Shared → Prop} {vs : List Value} {kw : List (Str × Value)} (X : K.In s.heap) (hm : PySem.W.makesIn K C = true)
    (hi : PySem.W.findIn K (.ref C) "__init__" = some (some (.ref f))) (hf : PySem.W.typeIn K (.ref f) = some (.type "function"))
    (h : codeAny (model prog w) (A.under (.builtin "type.__call__" ⟨.ref C :: vs, kw⟩)) (.call (.ref f) ⟨.ref (s.heap.objs.size + 1) :: vs, kw⟩) (PySem.W.InitBack (s.heap.objs.size + 1) R)
      { s with heap := (s.heap.push PySem.W.emptyDict).push (PySem.W.instObj C s.heap.objs.size) }) :
    codeAny (model prog w) A (.call (.ref C) ⟨vs, kw⟩) R s := by
  obtain ⟨hh, g, d, t, os⟩ := s
  exact PySem.W.make_core (PySem.W.makes_of X hm) (PySem.W.looks_findIn X hi) (fun self => PySem.W.bind_fn X self hf) (.inl rfl) h
end
def putF (f : Str) (v : V) : List (Str × V) → List (Str × V)
  | [] => [(f, v)]
  | (g, x) :: r => if g = f then (g, v) :: r else (g, x) :: putF f v r
theorem lookup_putF (f g : Str) (v : V) : ∀ fs : List (Str × V), (putF f v fs).lookup g = if g = f then some v else fs.lookup g
  | [] => by
    show List.lookup g [(f, v)] = _
    by_cases h : g = f
    · have hb : (g == f) = true := beq_iff_eq.mpr h
      simp only [List.lookup, hb, if_pos h]
    · have hb : (g == f) = false := beq_eq_false_iff_ne.mpr h
      simp only [List.lookup, hb, if_neg h]
  | (k, x) :: r => by
    have ih := lookup_putF f g v r
    rw [show putF f v ((k, x) :: r) = (if k = f then (k, v) :: r else (k, x) :: putF f v r) from rfl]
    by_cases hk : k = f
    · rw [if_pos hk]
      by_cases h : g = k
      · have hb : (g == k) = true := beq_iff_eq.mpr h
        simp only [List.lookup, hb, if_pos (h.trans hk)]
      · have hb : (g == k) = false := beq_eq_false_iff_ne.mpr h
        simp only [List.lookup, hb, if_neg (fun e : g = f => h (e.trans hk.symm))]
    · rw [if_neg hk]
      by_cases h : g = k
      · have hb : (g == k) = true := beq_iff_eq.mpr h
        simp only [List.lookup, hb, if_neg (fun e : g = f => hk (h.symm.trans e))]
      · have hb : (g == k) = false := beq_eq_false_iff_ne.mpr h
        simp only [List.lookup, hb]
        exact ih
theorem keys_putF (f : Str) (v : V) : ∀ fs : List (Str × V), f ∈ (putF f v fs).map (·.1) ∧ ∀ g, g ∈ fs.map (·.1) → g ∈ (putF f v fs).map (·.1)
  | [] => ⟨by simp [putF], fun g h => by simp at h⟩
  | (k, x) :: r => by
    obtain ⟨i1, i2⟩ := keys_putF f v r
    rw [show putF f v ((k, x) :: r) = (if k = f then (k, v) :: r else (k, x) :: putF f v r) from rfl]
    by_cases hk : k = f
    · rw [if_pos hk]
      subst hk
      exact ⟨by simp, fun g h => by simpa using h⟩
    · rw [if_neg hk]
      refine ⟨?_, fun g h => ?_⟩
      · rw [List.map_cons]
        exact List.mem_cons_of_mem _ i1
      · rw [List.map_cons] at h ⊢
        rcases List.mem_cons.mp h with e | e
        · exact List.mem_cons.mpr (.inl e)
        · exact List.mem_cons_of_mem _ (i2 g e)
theorem length_putF (f : Str) (v : V) : ∀ fs : List (Str × V), (putF f v fs).length ≤ fs.length + 1
  | [] => by simp [putF]
  | (k, x) :: r => by
    have ih := length_putF f v r
    rw [show putF f v ((k, x) :: r) = (if k = f then (k, v) :: r else (k, x) :: putF f v r) from rfl]
    by_cases hk : k = f
    · rw [if_pos hk, List.length_cons, List.length_cons]; omega
    · rw [if_neg hk, List.length_cons, List.length_cons]; omega
theorem RelO.some_of {v : V} {o : Option Value} (r : RelO (some v) o) : ∃ u, o = some u ∧ RelV v u := by
  cases o with
  | none => exact (show False from r).elim
  | some u => exact ⟨u, rfl, r⟩
theorem handed_of {v : V} {u : Value} (r : RelV v u) : PySem.W.handedIn u = true := by
  cases v with
  | non => cases (show u = Value.none from r); rfl
  | bl b => cases (show u = Value.bool b from r); rfl
  | int i => obtain ⟨t, e⟩ := (show ∃ t, u = Value.int i t from r); cases e; rfl
  | str x => obtain ⟨t, e⟩ := (show ∃ t, u = Value.str x t from r); cases e; rfl
  | byt b => obtain ⟨t, e⟩ := (show ∃ t, u = Value.bytes b t from r); cases e; rfl
  | flt b => obtain ⟨t, e⟩ := (show ∃ t, u = Value.float b t from r); cases e; rfl
  | ref a => cases (show u = Value.ref a from r); rfl
  | ty n => cases (show u = Value.type n from r); rfl
section
variable {P : Program} {w : World} {H H' : Hp} {h h' : Heap} {a C dx : Addr} {fs fs' : List (Str × V)}
theorem ins_get (hok : HOk P w H h) (e : H a = some (.ins C dx fs)) : ∃ mA, ObjM h a dx C mA ∧ (∀ f, RelO (fs.lookup f) (mA f)) ∧ PySem.Within mA (fs.map (·.1)) ∧ fs.length ≤ 1000 ∧ H dx = some (.own a) := by
  obtain ⟨d, z, ne, ob, mA, n, r, q⟩ := (show ObjOk P w H h a (.ins C dx fs) from hok a _ e)
  exact ⟨mA, ⟨ob, n, ne⟩, r, q, z, d⟩
end
structure Cls (K : PySem.W.Frag) (C : Addr) : Prop where
  pg : PySem.W.plainGet K C Str.empty = true
  hd : PySem.W.hasDictIn K C = true
  po : PySem.W.plainOver K C = true
  sa : PySem.W.findIn K (.ref C) "__setattr__" = some (some (.builtin "object.__setattr__"))
theorem Cls.get {K : PySem.W.Frag} {C : Addr} (c : Cls K C) (f : Str) : PySem.W.plainGet K C f = true := c.pg
def NoAttr (K : PySem.W.Frag) (C : Addr) (f : Str) : Prop := PySem.W.findIn K (.ref C) f = some none
theorem NoAttr.taker {K : PySem.W.Frag} {C : Addr} {f : Str} (n : NoAttr K C f) : PySem.W.takerIn K C f = some none := by
  unfold PySem.W.takerIn
  rw [show PySem.W.findIn K (.ref C) f = some none from n]
  rfl
section
variable {X : Cx} {pins : List (Addr × Obj)} {σ : St} {H : Hp} {s : Shared} {a C dx : Addr} {fs : List (Str × V)} {f : Str} {v : V} {A : Around} {E : Value → Shared → Prop}
theorem getattr_ok {b : Bool} {Q : Value → Shared → Prop} (I : Inv X pins σ H s) (e : H a = some (.ins C dx fs)) (c : Cls X.K C) (n : NoAttr X.K C f) (l : fs.lookup f = some v)
    (h : ∀ u s', Inv X pins σ H s' → RelV v u → Q u s') : wpAny (model X.prog X.w) A (getAttr (.ref a) f b) Q E s := by
  obtain ⟨mA, O, r, _, _, _⟩ := ins_get I.hok e
  obtain ⟨u, hu, ru⟩ := RelO.some_of (v := v) (o := mA f) (by rw [← l]; exact r f)
  exact get_map I.kIn O (c.get f) c.hd n hu (handed_of ru) (h u _ (I.tok _) ru)
theorem setattr_ok {y : V} {u : Value} {Q : Unit → Shared → Prop} (I : Inv X pins σ H s) (e : H a = some (.ins C dx fs)) (c : Cls X.K C) (n : NoAttr X.K C f) (hl : fs.length < 1000) (ry : RelV y u)
    (h : ∀ s', Inv X pins σ (upd H a (.ins C dx (putF f y fs))) s' → Q () s') : wpAny (model X.prog X.w) A (setAttr (.ref a) f u) Q E s := by
  obtain ⟨mA, O, r, wi, _, ho⟩ := ins_get I.hok e
  have hz : (fs.map (·.1)).length ≤ sizeLine := by rw [List.length_map, sizeLine_eq]; omega
  refine set_map I.kIn O c.sa c.po n.taker c.hd wi hz fun h' O' sb => h _ ?_
  have hd : ∃ o, h'.get? dx = some o := let ⟨o, _, _, e', _⟩ := O'.ns; ⟨o, e'⟩
  refine I.write (x := a) (e := dx) (by rw [e]; exact True.intro) (.inr ho) (fun b q hb z => (sb.2 b hb).trans z) hd ?_
  refine ⟨by rw [upd_ne O.ne]; exact ho, ?_, O.ne, O'.obj, _, O'.ns, fun g => ?_, fun g hg => ?_⟩
  · have := length_putF f y fs; omega
  · show RelO ((putF f y fs).lookup g) (if g = f then some u else mA g)
    rw [lookup_putF]
    by_cases q : g = f
    · rw [if_pos q, if_pos q]; exact ry
    · rw [if_neg q, if_neg q]; exact r g
  · by_cases q : g = f
    · rw [q]; exact (keys_putF f y fs).1
    · refine (keys_putF f y fs).2 g (wi g fun z => hg ?_)
      show (if g = f then some u else mA g) = none
      rw [if_neg q]; exact z
theorem Inv.made (I : Inv X pins σ H s) : Inv X pins σ (upd (upd H s.heap.objs.size (.own (s.heap.objs.size + 1))) (s.heap.objs.size + 1) (.ins C s.heap.objs.size []))
    { s with heap := (s.heap.push PySem.W.emptyDict).push (PySem.W.instObj C s.heap.objs.size) } := by
  have e1 : (s.heap.push PySem.W.emptyDict).get? s.heap.objs.size = some PySem.W.emptyDict := Heap.get?_push_size s.heap rfl
  have e2 : ((s.heap.push PySem.W.emptyDict).push (PySem.W.instObj C s.heap.objs.size)).get? (s.heap.objs.size + 1) = some (PySem.W.instObj C s.heap.objs.size) := by
    have := Heap.get?_push_size (s.heap.push PySem.W.emptyDict) (o := PySem.W.instObj C s.heap.objs.size) rfl
    rwa [Heap.size_push] at this
  have e3 : (s.heap.push PySem.W.emptyDict).Ns s.heap.objs.size (fun _ => none) := ⟨PySem.W.emptyDict, #[], _, e1, rfl, (fun e he => absurd he (by simp)), fun _ => rfl⟩
  have I1 := I.laid (a := s.heap.objs.size) (o := .own (s.heap.objs.size + 1)) (h' := s.heap.push PySem.W.emptyDict) (t' := s.toks) (fun b u q => Heap.get?_push_of_some _ q) (Nat.le_refl _) ⟨_, e1⟩
  refine I1.laid (a := s.heap.objs.size + 1) (o := .ins C s.heap.objs.size []) (t' := s.toks) (fun b u q => Heap.get?_push_of_some _ q) (Nat.le_of_eq (Heap.size_push _ _)) ?_
  have ne : s.heap.objs.size ≠ s.heap.objs.size + 1 := Nat.ne_of_lt (Nat.lt_succ_self _)
  refine ⟨by rw [upd_ne ne, upd_same], Nat.zero_le _, ne, e2, fun _ => none, (Heap.Ns1.of_empty e3).at fun o q => Heap.get?_push_of_some _ q, fun _ => True.intro, fun y hy => absurd rfl hy⟩
theorem attr_of {prog : Program} {w : World} {env : Env} {e : Expr} {f : Str} {pos : Pos} {s : Shared} {Q : Value → Shared → Prop} (hb : attributeBase e f env (eval e env) = eval e env)
    (h : wpAny (model prog w) A (eval e env) (fun o s₁ => wpAny (model prog w) A (getAttr o f true) Q E s₁) E s) : wpAny (model prog w) A (eval (.Attribute e f pos) env) Q E s :=
  Attribute_any_ h (by rw [arm_eval_Attribute, hb])
end
def tFld (K : PySem.W.Frag) (ta : TE) (f : Str) : TE := fun σ H Q => ta σ H fun x H1 => ∃ a C dx fs v, x = .ref a ∧ H1 a = some (.ins C dx fs) ∧ Cls K C ∧ NoAttr K C f ∧ fs.lookup f = some v ∧ Q v H1
def sFld (K : PySem.W.Frag) (ta tv : TE) (f : Str) : TS := fun D σ H => tv σ H fun y H1 => ta σ H1 fun x H2 => ∃ a C dx fs, x = .ref a ∧ H2 a = some (.ins C dx fs) ∧ Cls K C ∧ NoAttr K C f ∧ fs.length < 1000 ∧
  D.nx σ (upd H2 a (.ins C dx (putF f y fs)))
section
variable {X : Cx} {o e value : Expr} {f : Str} {pos pos' tpos : Pos} {ta tv : TE}
theorem pe_fld (he : PE X e ta) (hb : attributeBase e f X.env (eval e X.env) = eval e X.env) : PE X (.Attribute e f pos) (tFld X.K ta f) := by
  intro pins s σ H Q I h
  refine attr_of hb (thn (he pins s σ H _ I h) fun u s1 ⟨x, H1, I1, rx, a, C, dx, fs, v, ex, ea, c, n, l, q⟩ => ?_)
  subst ex
  obtain rfl : u = Value.ref a := rx
  exact getattr_ok I1 ea c n l fun u' s2 I2 ru => ⟨v, H1, I2, ru, q⟩
theorem ps_fld (ha : PE X o ta) (hv : PE X value tv) (hs : swapsWith value (some (.Attribute o f pos')) pos.line X.env = pure false) : PS X (.Assign [.Attribute o f pos'] value pos) (sFld X.K ta tv f) := by
  intro pins s σ H D I h
  refine plainObj_wpAny_Assign_Attribute (thn (hv pins s σ H _ I h) fun u s1 ⟨y, H1, I1, ry, q⟩ => thn (ha pins s1 σ H1 _ I1 q) fun ov s2 ⟨x, H2, I2, rx, a, C, dx, fs, ex, ea, c, n, l, q2⟩ => ?_) hs
  subst ex
  obtain rfl : ov = Value.ref a := rx
  exact setattr_ok I2 ea c n l ry fun s3 I3 => ⟨σ, _, I3, q2⟩
end
section
variable {X : Cx} {pins : List (Addr × Obj)} {σ : St} {H : Hp} {s : Shared} {A : Around} {E : Value → Shared → Prop} {Q : Value → Shared → Prop} {c : Value} {b : Bool}
end
end L2
namespace L2
open PySem PySem.Spec PyProof.Rows
structure Room (k : Nat) (A : Around) : Prop where
  hd : A.handled = none
  dp : A.depth + 3 * k + 5 < recursionLimit
  un : A.units + 16 * k + 200 < cLine
theorem Room.mono {j k : Nat} {A : Around} (r : Room k A) (h : j ≤ k) : Room j A := ⟨r.hd, by have := r.dp; omega, by have := r.un; omega⟩
theorem Room.deeper {k : Nat} {A : Around} (r : Room (k + 1) A) (env : Env) : Room k (A.deeper env) :=
  ⟨r.hd, by have := r.dp; show A.depth + 1 + 3 * k + 5 < _; omega, by have := r.un; show A.units + 3 + 16 * k + 200 < _; omega⟩
theorem make_depth {A : Around} {C : Addr} {us : List Value} {kw : List (Str × Value)} : (A.under (.builtin "type.__call__" ⟨.ref C :: us, kw⟩)).depth = A.depth + 1 := by
  first | rfl | simp [Around.under, Code.weight, Code.isCreation, Code.isGuard, Code.isCaller, Code.frames, Code.isFrame, guardIds]
theorem make_units {A : Around} {C : Addr} {us : List Value} {kw : List (Str × Value)} : (A.under (.builtin "type.__call__" ⟨.ref C :: us, kw⟩)).units = A.units + 1 := by
  first | rfl | simp [Around.under, Code.cUnits, Code.frames, Code.isFrame]
theorem Room.make {k : Nat} {A : Around} (r : Room (k + 1) A) (C : Addr) (us : List Value) (kw : List (Str × Value)) : Room k (A.under (.builtin "type.__call__" ⟨.ref C :: us, kw⟩)) :=
  ⟨r.hd, by have := r.dp; rw [make_depth]; omega, by have := r.un; rw [make_units]; omega⟩
theorem Room.depth {k : Nat} {A : Around} (r : Room k A) : A.depth < recursionLimit := by have := r.dp; omega
theorem Room.units {k : Nat} {A : Around} (r : Room k A) : A.units + 64 < cLine := by have := r.un; omega
def tNil : TA := fun _ H Q => Q [] H
def tCons (ta : TE) (tr : TA) : TA := fun σ H Q => ta σ H fun x H1 => tr σ H1 fun xs H2 => Q (x :: xs) H2
section
variable {X : Cx} {e : Expr} {es : List Expr} {te : TE} {t : TA} {pos : Pos}
theorem pa_nil : PA X [] tNil := fun _ _ _ _ H Q I h => Calls.spliced_nil ⟨[], H, I, .nil, h⟩
theorem pa_cons (ha : PE X e te) (hr : PA X es t) (hs : starEach (e :: es) X.env = (false, eval e X.env) :: starEach es X.env := by rfl) : PA X (e :: es) (tCons te t) := by
  intro pos pins s σ H Q I h
  rw [hs]
  show wpAny _ _ (spliced ((false, eval e X.env) :: backTo pos (starEach es X.env))) _ _ s
  refine Calls.spliced_cons (thn (ha pins s σ H _ I h) fun u s1 ⟨x, H1, I1, r1, q1⟩ => ?_)
  exact thn (hr pos pins s1 σ H1 _ I1 q1) fun us s2 ⟨xs, H2, I2, r2, q2⟩ => ⟨x :: xs, H2, I2, .cons r1 r2, q2⟩
def tTup (t : TA) : TE := fun σ H Q => t σ H fun xs H1 => xs.length ≤ sizeLine ∧ ∀ p, H1 p = none → Q (.ref p) (upd H1 p (.tup xs))
def tLst (t : TA) : TE := fun σ H Q => t σ H fun xs H1 => xs.length ≤ sizeLine ∧ ∀ p, H1 p = none → Q (.ref p) (upd H1 p (.lst xs))
theorem pe_tup {x1} (h : PA X es t) : PE X (.Tuple es x1 pos) (tTup t) := by
  intro pins s σ H Q I hq
  refine wpAny_Tuple_spliced (thn (h pos pins s σ H _ I hq) fun us s1 ⟨xs, H1, I1, r, z, q⟩ => ⟨by rw [← r.length]; exact z, ?_⟩)
  have hf : H1 s1.heap.objs.size = none := I1.hok.fresh (Nat.le_refl _)
  refine ⟨.ref s1.heap.objs.size, upd H1 s1.heap.objs.size (.tup xs), I1.laid (t' := s1.toks) (fun b u e => Heap.get?_push_of_some _ e) (Nat.le_refl _) ?_, rfl, q _ hf⟩
  exact ⟨z, us, r, ⟨_, Heap.get?_push_size _ rfl, rfl, _, rfl⟩⟩
theorem pe_lst (h : PA X es t) : PE X (.List es pos) (tLst t) := by
  intro pins s σ H Q I hq
  refine wpAny_List_spliced (thn (h pos pins s σ H _ I hq) fun us s1 ⟨xs, H1, I1, r, z, q⟩ => ⟨by rw [← r.length]; exact z, ?_⟩)
  have hf : H1 s1.heap.objs.size = none := I1.hok.fresh (Nat.le_refl _)
  refine ⟨.ref s1.heap.objs.size, upd H1 s1.heap.objs.size (.lst xs), I1.laid (t' := s1.toks) (fun b u e => Heap.get?_push_of_some _ e) (Nat.le_refl _) ?_, rfl, q _ hf⟩
  exact ⟨z, us, 0, r, Heap.get?_push_size _ rfl⟩
end
abbrev Sp := List V → Hp → VK → XK → Prop
abbrev CXT := List Env → Hp → Shared → XK → Value → Shared → Prop
structure Env0 (P : Program) (w : World) (K : PySem.W.Frag) (mg : Str → Option Value) (base : Heap) (A : Around) (outer : List Env) (s : Shared) (H : Hp) : Prop where
  frames : A.frames = some outer
  mod : Mod K mg base
  bs : ∀ b o, base.get? b = some o → s.heap.get? b = some o ∧ H b = none
  bsz : base.objs.size ≤ s.heap.objs.size
  funs : s.heap.FunFrames base outer
  frf : ∀ b ∈ frs outer, H b = none
  hok : HOk P w H s.heap
  bare : AllBare s.gens
def CE (outer : List Env) (P : Program) (w : World) (H : Hp) (s : Shared) (Q : VK) (u : Value) (s' : Shared) : Prop :=
  ∃ v H', s'.os = s.os ∧ AllBare s'.gens ∧ Un (frs outer) [] H H' s.heap s'.heap ∧ HOk P w H' s'.heap ∧ RelV v u ∧ Q v H'
def CR (CX : CXT) (outer : List Env) (P : Program) (w : World) (H : Hp) (s : Shared) (Q : VK) (E : XK) (r : Result) (s' : Shared) : Prop :=
  match r with
  | .ok (.ret u) => CE outer P w H s Q u s'
  | .ok _ => False
  | .error e => CX outer H s E e s'
structure FnOk (P : Program) (w : World) (K : PySem.W.Frag) (mg : Str → Option Value) (base : Heap) (CX : CXT) (k : Nat) (f : Addr) (fd : FuncData) (ps : List Str) (sp : Sp) : Prop where
  len : ∀ vs H Q E, sp vs H Q E → vs.length = ps.length
  run : ∀ (A : Around) (outer : List Env) (s : Shared) (H : Hp) (args : Args) (us : List Value) (vs : List V) (Q : VK) (E : XK), Room k A → Env0 P w K mg base A outer s H → BindsTo s fd args (ps.zip us) → Vals vs us → sp vs H Q E →
    codeAny (model P w) A (.call (.ref f) args) (CR CX outer P w H s Q E) s
theorem FnOk.mono {P : Program} {w : World} {K : PySem.W.Frag} {mg : Str → Option Value} {base : Heap} {CX : CXT} {j k : Nat} {f : Addr} {fd : FuncData} {ps : List Str} {sp : Sp} (F : FnOk P w K mg base CX j f fd ps sp) (h : j ≤ k) :
    FnOk P w K mg base CX k f fd ps sp := ⟨F.len, fun A outer s H args us vs Q E hr => F.run A outer s H args us vs Q E (hr.mono h)⟩
theorem Env0.make {P : Program} {w : World} {K : PySem.W.Frag} {mg : Str → Option Value} {base : Heap} {A : Around} {outer : List Env} {s : Shared} {H : Hp} (e : Env0 P w K mg base A outer s H) (C : Addr) (us : List Value) (kw : List (Str × Value)) :
    Env0 P w K mg base (A.under (.builtin "type.__call__" ⟨.ref C :: us, kw⟩)) outer s H := ⟨by first | exact e.frames | (simpa [Around.under, Code.envs, Code.isFrame, pushEnvs] using e.frames), e.mod, e.bs, e.bsz, e.funs, e.frf, e.hok, e.bare⟩
section
variable {X : Cx} {pins : List (Addr × Obj)} {σ : St} {H : Hp} {s s' : Shared}
theorem Inv.env0 (I : Inv X pins σ H s) : Env0 X.prog X.w X.K X.mg X.base X.A X.stack s H :=
  ⟨I.ok.frames, I.ok.mod, I.bs, Nat.le_trans I.ok.bsz I.sz, I.stack, I.stkFree, I.hok, I.bare⟩
theorem Inv.after {Q : VK} {u : Value} (I : Inv X pins σ H s) (h : CE X.stack X.prog X.w H s Q u s') : EP X pins σ Q u s' := by
  obtain ⟨v, H', os, bare, un, hok, r, q⟩ := h
  obtain ⟨hh, g, d, t, os'⟩ := s'
  obtain rfl : os' = s.os := os
  exact ⟨v, H', I.call (h' := hh) (g' := g) (d' := d) (t' := t) (ch := []) un hok bare (fun b z => absurd z (by simp)), r, q⟩
end
def tCall (sp : Sp) (dvs : List V) (E : XK) (t : TA) : TE := fun σ H Q => t σ H fun vs H1 => sp (vs ++ dvs) H1 Q E
def Binds (K : PySem.W.Frag) (fd : FuncData) (ps : List Str) (ds : List Value) : Prop :=
  ∀ (s : Shared) (us : List Value), K.In s.heap → (us ++ ds).length = ps.length → BindsTo s fd ⟨us, []⟩ (ps.zip (us ++ ds))
theorem Binds.all {K : PySem.W.Frag} {fd : FuncData} {ps : List Str} (h : ∀ us : List Value, us.length = ps.length → bindArgs fd ⟨us, []⟩ = pure (ps.zip us)) : Binds K fd ps [] := fun s us _ hl => by
  rw [List.append_nil] at hl ⊢
  exact .of_eq (h us hl)
def Passes (CX : CXT) (X : Cx) (E : XK) : Prop := ∀ (pins : List (Addr × Obj)) (σ : St) (H : Hp) (s : Shared) (e : Value) (s' : Shared), Inv X pins σ H s → CX X.stack H s E e s' → X.xe e s'
section
variable {X : Cx} {CX : CXT} {k : Nat} {f C : Addr} {fd : FuncData} {ps : List Str} {sp : Sp} {dvs : List V} {ds : List Value} {E : XK} {x m : Str} {p pos apos : Pos} {e o : Expr} {es : List Expr} {ta : TE} {t : TA}
theorem run_fn {pins : List (Addr × Obj)} {σ : St} {H : Hp} {s : Shared} {Q : VK} {us : List Value} {vs : List V} (F : FnOk X.prog X.w X.K X.mg X.base CX k f fd ps sp) (hr : Room k X.A) (hb : Binds X.K fd ps ds) (hd : Vals dvs ds) (hx : Passes CX X E)
    (I : Inv X pins σ H s) (r : Vals vs us) (h : sp (vs ++ dvs) H Q E) : wpAny (model X.prog X.w) X.A (call (.ref f) us) (EP X pins σ Q) X.xe s := by
  have r2 : Vals (vs ++ dvs) (us ++ ds) := r.append hd
  have hl : (us ++ ds).length = ps.length := by rw [← r2.length]; exact F.len _ _ _ _ h
  refine wpAny_call (codeAny_mono (F.run X.A X.stack s H ⟨us, []⟩ (us ++ ds) (vs ++ dvs) Q E hr I.env0 (hb s us I.kIn hl) r2 h) fun r s' hq => ?_)
  cases r with
  | error e => exact hx pins σ H s e s' I hq
  | ok fl =>
    cases fl with
    | ret u => exact I.after hq
    | next => exact False.elim hq
    | brk => exact False.elim hq
    | cont => exact False.elim hq
theorem pe_call (F : FnOk X.prog X.w X.K X.mg X.base CX k f fd ps sp) (hr : Room k X.A) (hg : Gl X x) (hm : X.mg x = some (.ref f)) (hk : PySem.W.keepIn X.K (.ref f) = true) (hb : Binds X.K fd ps ds) (hd : Vals dvs ds) (hx : Passes CX X E)
    (ha : PA X (e :: es) t) (hdb : (x == ("__debug__" : Str)) = false := by decide) (he : starEach (e :: es) X.env = (false, eval e X.env) :: starEach es X.env := by rfl) (hpl : (backTo pos (starEach es X.env)).any (·.1) = false := by rfl) :
    PE X (.Call (.Name x p) (e :: es) [] pos) (tCall sp dvs E t) := by
  intro pins s σ H Q I h
  refine wpAny_Call_Name_kw (ld_glob I hg hm ?_ hdb)
  refine PySem.W.callWith_K (h₀ := X.base) I.ok.mod.kin hk (thn (ha pos pins s σ H _ I h) fun us s1 ⟨vs, H1, I1, r, q⟩ => ⟨I1.kIn, ?_⟩) he hpl
  exact run_fn F hr hb hd hx I1 r q
structure Mk (K : PySem.W.Frag) (C f : Addr) : Prop where
  makes : PySem.W.makesIn K C = true
  init : PySem.W.findIn K (.ref C) "__init__" = some (some (.ref f))
  fn : PySem.W.isFn K (.ref f) = true
  kp : PySem.W.keepIn K (.ref C) = true
theorem run_make {pins : List (Addr × Obj)} {σ : St} {H : Hp} {s : Shared} {Q : VK} {us : List Value} {vs : List V} (M : Mk X.K C f) (F : FnOk X.prog X.w X.K X.mg X.base CX k f fd ps sp) (hr : Room (k + 1) X.A) (hb : Binds X.K fd ps ds) (hd : Vals dvs ds)
    (hx : Passes CX X E) (I : Inv X pins σ H s) (r : Vals vs us)
    (h : ∀ x dx, H x = none → H dx = none → dx ≠ x → sp (.ref x :: (vs ++ dvs)) (upd (upd H dx (.own x)) x (.ins C dx [])) (fun v H2 => v = .non ∧ Q (.ref x) H2) E) :
    wpAny (model X.prog X.w) X.A (call (.ref C) us) (EP X pins σ Q) X.xe s := by
  have hq := h (s.heap.objs.size + 1) s.heap.objs.size (I.hok.fresh (Nat.le_succ _)) (I.hok.fresh (Nat.le_refl _)) (Nat.ne_of_lt (Nat.lt_succ_self _))
  have I2 := Inv.made (C := C) I
  have r2 : Vals (V.ref (s.heap.objs.size + 1) :: (vs ++ dvs)) (Value.ref (s.heap.objs.size + 1) :: (us ++ ds)) := .cons rfl (r.append hd)
  have hl : (Value.ref (s.heap.objs.size + 1) :: us ++ ds).length = ps.length := by
    have e := r2.length
    rw [F.len _ _ _ _ hq] at e
    exact e.symm
  refine wpAny_call (make_map (f := f) I.kIn M.makes M.init (beq_iff_eq.mp M.fn) (codeAny_mono (F.run _ X.stack _ _ ⟨Value.ref (s.heap.objs.size + 1) :: us, []⟩ (Value.ref (s.heap.objs.size + 1) :: (us ++ ds)) _ _ E (hr.make C us [])
    (I2.env0.make C us []) (hb _ (Value.ref (s.heap.objs.size + 1) :: us) I2.kIn hl) r2 hq) fun r s' hq' => ?_))
  cases r with
  | error e => exact hx pins σ _ _ e s' I2 hq'
  | ok fl =>
    cases fl with
    | ret u =>
      obtain ⟨v, H', I3, rv, ev, q3⟩ := I2.after hq'
      subst ev
      exact ⟨rv, ⟨V.ref (s.heap.objs.size + 1), H', I3, rfl, q3⟩⟩
    | next => exact False.elim hq'
    | brk => exact False.elim hq'
    | cont => exact False.elim hq'
end
section
variable {X : Cx} {CX : CXT} {k : Nat} {f C : Addr} {fd : FuncData} {ps ks : List Str} {sp : Sp} {E : XK} {x m : Str} {p pos apos kpos : Pos} {e o : Expr} {es : List Expr} {kws : List Keyword} {te ta : TE} {t tk : TA} {nm : Option Str}
variable {g : List Value → List Value → List Value} {gV : List V → List V → List V}
end
structure FnScope (N P : List Str) (sc : Scope) : Prop where
  kind : sc.kind = .function
  co : sc.isCoroutine = false
  gen : sc.isGenerator = false
  nd : N.Nodup
  pre : N.take P.length = P
  par : ∀ x ∈ P, sc.names.lookup x = some .local ∨ sc.names.lookup x = some .cell
  nofree : ∀ y ∈ sc.names, y.2 ≠ .free
theorem bindL_out {kindOf : Str → Option NameKind} {x : Str} : ∀ {binds : List (Str × Value)} {m : Str → Option Value}, (∀ v, (x, v) ∉ binds) → bindL kindOf binds m x = m x
  | [], _, _ => rfl
  | (n, v) :: r, m, h => by
    unfold bindL
    rw [bindL_out fun w hw => h w (List.mem_cons_of_mem _ hw)]
    split
    · have : x ≠ n := by rintro rfl; exact h v List.mem_cons_self
      simp [this]
    · rfl
theorem bindC_out {kindOf : Str → Option NameKind} {x : Str} : ∀ {binds : List (Str × Value)} {m : Str → Option Value}, (∀ v, (x, v) ∉ binds) → bindC kindOf binds m x = m x
  | [], _, _ => rfl
  | (n, v) :: r, m, h => by
    unfold bindC
    rw [bindC_out fun w hw => h w (List.mem_cons_of_mem _ hw)]
    split
    · rfl
    · have : x ≠ n := by rintro rfl; exact h v List.mem_cons_self
      simp [this]
theorem bindL_get {kindOf : Str → Option NameKind} {x : Str} {v : Value} : ∀ {P : List Str} {vs : List Value} {i : Nat} {m : Str → Option Value}, P.Nodup → P[i]? = some x → vs[i]? = some v → kindOf x = some .local →
    bindL kindOf (P.zip vs) m x = some v
  | [], _, _, _, _, h, _, _ => by simp at h
  | _ :: _, [], _, _, _, _, h, _ => by simp at h
  | p :: P, w :: vs, 0, m, nd, h1, h2, hk => by
    simp at h1 h2; subst h1; subst h2
    show bindL kindOf ((p, w) :: P.zip vs) m p = _
    unfold bindL
    rw [bindL_out fun v hv => (List.nodup_cons.mp nd).1 (List.of_mem_zip hv).1, if_pos hk]
    simp
  | p :: P, w :: vs, i + 1, m, nd, h1, h2, hk => by
    show bindL kindOf ((p, w) :: P.zip vs) m x = _
    unfold bindL
    exact bindL_get (i := i) (List.nodup_cons.mp nd).2 (by simpa using h1) (by simpa using h2) hk
theorem bindC_get {kindOf : Str → Option NameKind} {x : Str} {v : Value} : ∀ {P : List Str} {vs : List Value} {i : Nat} {m : Str → Option Value}, P.Nodup → P[i]? = some x → vs[i]? = some v → kindOf x ≠ some .local →
    bindC kindOf (P.zip vs) m x = some v
  | [], _, _, _, _, h, _, _ => by simp at h
  | _ :: _, [], _, _, _, _, h, _ => by simp at h
  | p :: P, w :: vs, 0, m, nd, h1, h2, hk => by
    simp at h1 h2; subst h1; subst h2
    show bindC kindOf ((p, w) :: P.zip vs) m p = _
    unfold bindC
    rw [bindC_out fun v hv => (List.nodup_cons.mp nd).1 (List.of_mem_zip hv).1, if_neg hk]
    simp
  | p :: P, w :: vs, i + 1, m, nd, h1, h2, hk => by
    show bindC kindOf ((p, w) :: P.zip vs) m x = _
    unfold bindC
    exact bindC_get (i := i) (List.nodup_cons.mp nd).2 (by simpa using h1) (by simpa using h2) hk
def start (N : List Str) (vs : List V) : St := vs.map some ++ List.replicate (N.length - vs.length) none
def cxOf (CX : CXT) (P : Program) (w : World) (K : PySem.W.Frag) (mg : Str → Option Value) (base : Heap) (N : List Str) (qual : Str) (scope : Scope) (f : Addr) (cd : Value) (A : Around) (outer : List Env) (s : Shared) (H : Hp) (E : XK) : Cx where
  prog := P
  w := w
  K := K
  mg := mg
  base := base
  A := A.deeper (envOfC qual scope s.heap.objs.size f cd)
  N := N
  s₀ := s
  H₀ := H
  env := envOfC qual scope s.heap.objs.size f cd
  outer := outer
  stack := envOfC qual scope s.heap.objs.size f cd :: outer
  ex := []
  calm := true
  fn := fun _ => true
  pn := []
  xe := fun e s' => wpAny (model P w) (A.deeper (envOfC qual scope s.heap.objs.size f cd)) (leaving (envOfC qual scope s.heap.objs.size f cd) e) (fun _ s'' => CX outer H s E e s'') (fun e' s'' => CX outer H s E e' s'') s'
theorem cell_has {sc : Scope} {n : Nat} {x : Str} (h : sc.names.lookup x = some .cell) : ∃ c, (cellsFrom n sc.names []).lookup x = some c := by
  have q := PySem.W.cellsFrom_some sc.names n [] (.inl h)
  exact Option.isSome_iff_exists.mp q
theorem inv_start {CX : CXT} {P : Program} {w : World} {K : PySem.W.Frag} {mg : Str → Option Value} {base : Heap} {N ps : List Str} {qual : Str} {scope : Scope} {f : Addr} {cd : Value} {A : Around} {outer : List Env} {s s1 : Shared} {H : Hp} {E : XK} {us : List Value} {vs : List V}
    (S : FnScope N ps scope) (hd : A.handled = none) (e0 : Env0 P w K mg base A outer s H) (hl : vs.length = ps.length) (r : Vals vs us)
    (x : InCallC s s.heap.objs.size (bindL (envOfC qual scope s.heap.objs.size f cd).kindOf (ps.zip us) fun _ => none) (cellsFrom (s.heap.objs.size + 1) scope.names []) (bindC (envOfC qual scope s.heap.objs.size f cd).kindOf (ps.zip us) fun _ => none) s1) :
    Inv (cxOf CX P w K mg base N qual scope f cd A outer s H E) [] (start N vs) H s1 := by
  have hpl : ps.length ≤ N.length := by have := congrArg List.length S.pre; rw [List.length_take] at this; omega
  obtain ⟨h1, tk, rfl, hk⟩ := x.done
  have noA : ∀ b : Addr, b ∉ (cxOf CX P w K mg base N qual scope f cd A outer s H E).ex := fun b z => absurd (show b ∈ ([] : List Addr) from z) (by simp)
  refine ⟨⟨e0.mod, S.kind, rfl, rfl, Nat.le_refl _, fun y z c h1 h2 => ?_, fun y hy => ?_, fun y c _ h => ?_, fun _ => hd, Around.frames_deeper e0.frames, .inr ⟨rfl, rfl⟩, fun b z => absurd z (noA b), e0.bs, e0.bsz, fun b _ _ => noA b, fun b z => absurd z (noA b), e0.funs, e0.frf⟩,
    rfl, e0.bare, Un.kept hk, ⟨_, x.toInCall.ns, fun i y v h1 h2 h3 => ?_⟩, fun y c h => ⟨_, x.cell y c h⟩, e0.hok.fresh (Nat.le_refl _), fun y c h => ?_, fun p hp => absurd (show p ∈ ([] : List (Addr × Obj)) from hp) (by simp), e0.hok.kept hk, ?_⟩
  · exact name_of_addr x.apart (PySem.mem_of_lookup h1) (PySem.mem_of_lookup h2)
  · have hy : scope.names.lookup y = some .cell ∨ scope.names.lookup y = some .free := hy
    rcases hy with hy | hy
    · exact cell_has hy
    · exact absurd rfl (S.nofree _ (PySem.mem_of_lookup hy))
  · exact Nat.le_of_lt (x.above y c (PySem.mem_of_lookup h))
  · have hi : i < vs.length := by
      unfold start at h2
      by_cases hi : i < vs.length
      · exact hi
      · rw [List.getElem?_append_right (by simpa using hi)] at h2
        rw [List.getElem?_replicate] at h2
        split at h2 <;> cases h2
    have ha : vs[i]? = some v := by
      unfold start at h2
      rw [List.getElem?_append_left (by simpa using hi), List.getElem?_map] at h2
      cases e : vs[i]? with
      | none => rw [e] at h2; cases h2
      | some a => rw [e] at h2; cases h2; rfl
    obtain ⟨u, hu, rv⟩ := r.get ha
    have hp : ps[i]? = some y := by
      rw [← S.pre, List.getElem?_take_of_lt (by omega)]; exact h1
    have ndP : ps.Nodup := by rw [← S.pre]; exact S.nd.sublist (List.take_sublist _ _)
    refine ⟨u, rv, ?_⟩
    rcases S.par y (List.mem_of_getElem? hp) with k | k
    · exact .inl ⟨k, bindL_get ndP hp hu k⟩
    · obtain ⟨c, e⟩ := cell_has (n := s.heap.objs.size + 1) k
      refine .inr ⟨.inl k, c, e, ?_⟩
      have q := x.cell y c e
      rw [bindC_get ndP hp hu (by show scope.names.lookup y ≠ _; rw [k]; decide)] at q
      exact q
  · exact e0.hok.fresh (Nat.le_of_lt (x.above y c (PySem.mem_of_lookup h)))
  · unfold start
    show _ = N.length
    rw [List.length_append, List.length_map, List.length_replicate]
    omega
theorem fn_of {CX : CXT} {P : Program} {w : World} {K : PySem.W.Frag} {mg : Str → Option Value} {base : Heap} {k : Nat} {f : Addr} {name qual : Str} {params : Arguments} {body : List Stmt} {scope : Scope} {dV kV doc pm cdv ct oc : Value} {an od : Option Addr}
    {osl : Array (Option Value)} {N ps : List Str} {sp : Sp} (lk : K.lookup f = some ⟨oc, od, .func (PySem.W.fnOf name qual params body scope dV kV doc pm an cdv ct), osl⟩) (hcd : PySem.W.codeIn K cdv qual = true) (S : FnScope N ps scope)
    (len : ∀ vs H Q E, sp vs H Q E → vs.length = ps.length)
    (hbody : ∀ (A : Around) (outer : List Env) (s : Shared) (H : Hp) (vs : List V) (Q : VK) (E : XK), Room k (A.deeper (envOfC qual scope s.heap.objs.size f cdv)) → sp vs H Q E →
      ∃ t, PSs (cxOf CX P w K mg base N qual scope f cdv A outer s H E) body t ∧ t { nx := fun _ H' => Q .non H', rt := Q } (start N vs) H) :
    FnOk P w K mg base CX (k + 1) f (PySem.W.fnOf name qual params body scope dV kV doc pm an cdv ct) ps sp := by
  refine ⟨len, fun A outer s H args us vs Q E hr e0 hb r hsp => ?_⟩
  have hl := len _ _ _ _ hsp
  have KX : K.In s.heap := e0.mod.kin.keeps fun b o e => (e0.bs b o e).1
  have lim : s.heap.NoLimit := e0.mod.nolimit.keeps fun b o e => (e0.bs b o e).1
  have hkind : ∀ y ∈ ps.zip us, scope.names.lookup y.1 = some .local ∨ (scope.names.lookup y.1 = some .cell ∧ ((cellsFrom (s.heap.objs.size + 1) scope.names []).lookup y.1).isSome = true) := fun ⟨n, v⟩ hy => by
    rcases S.par n (List.of_mem_zip hy).1 with q | q
    · exact .inl q
    · exact .inr ⟨q, PySem.W.cellsFrom_some _ _ _ (.inl q)⟩
  refine codeAny_call_function hr.depth (KX _ _ lk) rfl S.co S.gen rfl (PySem.W.codeRec_of KX hcd) (hb _ _ _ _ ?_)
  refine wpAny_newFunctionEnv_cells S.kind hkind fun env he s1 x => ?_
  subst he
  refine ⟨lim.keeps x.toInCall.keep, codeAny_func ?_⟩
  obtain ⟨t, ht, hq⟩ := hbody A outer s H vs Q E (hr.deeper _) hsp
  have I : Inv (cxOf CX P w K mg base N qual scope f cdv A outer s H E) [] (start N vs) H s1 := inv_start S hr.hd e0 hl r x
  refine wpAny_mono (ht [] s1 (start N vs) H _ I hq) (fun fl s' hs => ?_) fun e s' hs => hs
  have fin : ∀ {σ' : St} {H' : Hp} {v : V} {u : Value}, Inv (cxOf CX P w K mg base N qual scope f cdv A outer s H E) [] σ' H' s' → RelV v u → Q v H' → CE outer P w H s Q u s' :=
    fun {σ' H' v u} J rv q => ⟨v, H', J.os, J.bare, J.base, J.hok, rv, q⟩
  cases fl with
  | ret u =>
    obtain ⟨v, σ', H', J, rv, q⟩ := hs
    exact fin J rv q
  | next =>
    obtain ⟨σ', H', J, q⟩ := hs
    exact fin (v := V.non) (u := Value.none) J rfl q
  | brk =>
    obtain ⟨_, _, _, q⟩ := hs
    exact False.elim q
  | cont =>
    obtain ⟨_, _, _, q⟩ := hs
    exact False.elim q
end L2
namespace L2
open PySem PySem.Spec PyProof.Rows
section
variable {X : Cx} {x : Str} {p pos : Pos} {e : Expr} {es : List Expr} {t : TA} {id T : String} {r : List V → Hp → VK → Prop}
def tCB (r : List V → Hp → VK → Prop) (t : TA) : TE := fun σ H Q => t σ H fun vs H1 => r vs H1 Q
theorem pe_callB (hc : CallR X (.builtin id) r) (hg : Gl X x) (hm : X.mg x = none) (hv : bootBuiltins x = some (.builtin id)) (ha : PA X (e :: es) t) (hn : x ≠ "__name__" := by decide) (hdb : (x == ("__debug__" : Str)) = false := by decide)
    (he : starEach (e :: es) X.env = (false, eval e X.env) :: starEach es X.env := by rfl) (hpl : (backTo pos (starEach es X.env)).any (·.1) = false := by rfl) : PE X (.Call (.Name x p) (e :: es) [] pos) (tCB r t) := by
  intro pins s σ H Q I h
  refine wpAny_Call_Name_kw (ld_blt I hg hm hv ?_ hn hdb)
  exact PyProof.Rows.callWith_builtin1 (thn (ha pos pins s σ H _ I h) fun us s1 ⟨vs, H1, I1, r1, q1⟩ => hc pins s1 σ H1 vs us Q I1 r1 q1) he hpl
theorem pe_callTy (hc : CallR X (.type T) r) (hg : Gl X x) (hm : X.mg x = none) (hv : bootBuiltins x = some (.type T)) (ha : PA X (e :: es) t) (hn : x ≠ "__name__" := by decide) (hdb : (x == ("__debug__" : Str)) = false := by decide)
    (he : starEach (e :: es) X.env = (false, eval e X.env) :: starEach es X.env := by rfl) (hpl : (backTo pos (starEach es X.env)).any (·.1) = false := by rfl) : PE X (.Call (.Name x p) (e :: es) [] pos) (tCB r t) := by
  intro pins s σ H Q I h
  refine wpAny_Call_Name_kw (ld_blt I hg hm hv ?_ hn hdb)
  exact PyProof.Rows.callWith_type1 (thn (ha pos pins s σ H _ I h) fun us s1 ⟨vs, H1, I1, r1, q1⟩ => hc pins s1 σ H1 vs us Q I1 r1 q1) he hpl
end
end L2
namespace HT
open PySem PyProof.Rows
section
open PySem.SeqAt
open PySem.AutoSeq1 (wpAny_loadPart')
open PySem.MeetsSeq PySem.MeetsSeq2 PySem.MeetsSeq3
end
section
variable {prog : Program} {w : World} {A : Around} {E : Value → Shared → Prop} {s : Shared}
theorem cat_tup {t b : Addr} {vs ws : List Value} {Q : Value → Shared → Prop} (ht : IsTup s.heap t vs.toArray) (hb : IsTup s.heap b ws.toArray) (hv : vs ≠ [])
    (h1 : ws = [] → Q (.ref t) s) (h2 : ws ≠ [] → Q (.ref s.heap.objs.size) { s with heap := s.heap.push { cls := .type "tuple", data := .seq (vs ++ ws).toArray } })
    (hsz : vs.length + ws.length ≤ sizeLine) : wpAny (model prog w) A (binaryOp .Add (.ref t) (.ref b)) Q E s := by
  obtain ⟨⟨cls, dd, data, sl⟩, ho, hc, n, hd⟩ := id ht
  obtain ⟨⟨cls2, dd2, data2, sl2⟩, ho2, hc2, n2, hd2⟩ := id hb
  simp only at hc hd hc2 hd2
  subst hc hd hc2 hd2
  have e : vs.toArray ++ ws.toArray = (vs ++ ws).toArray := by simp
  by_cases hw : ws = []
  · exact concat_meets ⟨_, ho, rfl⟩ ⟨_, ho2, rfl⟩ noFill_tuple_add seq_tuple_add PySem.F.slot_tuple_add PySem.F.entry_tuple_add (PySem.F.args_tuple_add_2 _ _)
      (tuple_addW1 t b vs.toArray ws.toArray n n2 dd dd2 sl sl2 (by simpa using hv) (by simp [hw])) ⟨ho, ho2, h1 hw⟩
  · refine concat_meets ⟨_, ho, rfl⟩ ⟨_, ho2, rfl⟩ noFill_tuple_add seq_tuple_add PySem.F.slot_tuple_add PySem.F.entry_tuple_add (PySem.F.args_tuple_add_2 _ _)
      (tuple_addW2 t b vs.toArray ws.toArray n n2 dd dd2 sl sl2 (by simpa using hv) (by simpa using hw) (by rw [List.size_toArray, List.size_toArray]; exact hsz)) ⟨ho, ho2, ?_⟩
    rw [e]
    exact h2 hw
def sIx (n d : Nat) : Option Int → Nat
  | none => d
  | some v => if v < 0 then (v + (n : Int)).toNat else min v.toNat n
theorem sIx_le (n d : Nat) (hd : d ≤ n) (o : Option Int) : sIx n d o ≤ n := by
  cases o with
  | none => exact hd
  | some v =>
    show (if v < 0 then (v + (n : Int)).toNat else min v.toNat n) ≤ n
    by_cases hv : v < 0
    · rw [if_pos hv]; omega
    · rw [if_neg hv]; exact Nat.min_le_right _ _
theorem clip_eq (v : Int) (n d : Nat) : (if v < 0 then max (v + (n : Int)) 0 else min v (n : Int)) = ((sIx n d (some v) : Nat) : Int) := by
  show (if v < 0 then max (v + (n : Int)) 0 else min v (n : Int)) = (((if v < 0 then (v + (n : Int)).toNat else min v.toNat n) : Nat) : Int)
  by_cases hv : v < 0
  · simp only [if_pos hv]; omega
  · simp only [if_neg hv]; omega
theorem adjust_gen (lo hi : Option Int) (n : Nat) : Builtin.Slice.sliceAdjust lo hi 1 (n : Int) = (((sIx n 0 lo : Nat) : Int), ((sIx n n hi : Nat) : Int)) := by
  have h1 : ¬ ((1 : Int) < 0) := by omega
  unfold Builtin.Slice.sliceAdjust
  simp only [h1, if_false]
  refine Prod.ext ?_ ?_
  · cases lo with
    | none => rfl
    | some v => exact clip_eq v n 0
  · cases hi with
    | none => rfl
    | some v => exact clip_eq v n n
theorem places_gen (i j : Nat) : Builtin.Slice.slicePlaces (i : Int) (j : Int) 1 = j - i := by
  unfold Builtin.Slice.slicePlaces
  have h1 : (1 : Int) > 0 := by omega
  simp only [h1, if_true, Int.ediv_one]
  split <;> omega
theorem slicePart_ {v : Value} {o : Option Int} {Q : Option Int → Shared → Prop} (p : IsPart v o) (h : Q o s) : wpAny (model prog w) A (Builtin.Slice.slicePartIndex v) Q E s := by
  cases p with
  | none => exact slicePart_none h
  | int i t => exact slicePart_int h
theorem sliceApplied_gen {sl : Addr} {vl vu : Value} {lo hi : Option Int} {n : Nat} {Q : Int × Int × Nat → Shared → Prop} (hs : s.heap.IsSliceOf sl vl vu .none) (pl : IsPart vl lo) (pu : IsPart vu hi)
    (h : Q (((sIx n 0 lo : Nat) : Int), 1, sIx n n hi - sIx n 0 lo) s) : wpAny (model prog w) A (Builtin.Slice.sliceApplied (.ref sl) (pure (n : Int))) Q E s := by
  obtain ⟨os, hos, hcs, hds⟩ := id hs
  unfold Builtin.Slice.sliceApplied Builtin.Slice.sliceFields
  refine wpAny_bind (wpAny_bind (wpAny_field hos hds (x := vl) rfl (wpAny_bind (wpAny_field hos hds (x := vu) rfl (wpAny_bind (wpAny_field hos hds (x := .none) rfl (wpAny_pure ?_)))))))
  refine wpAny_bind (slicePart_none ?_)
  show wpAny _ _ (if ((1 : Int) == 0) = true then _ else _) _ _ s
  rw [if_neg (by decide)]
  refine wpAny_bind (slicePart_ pl (wpAny_bind (slicePart_ pu (wpAny_bind (wpAny_pure ?_)))))
  show wpAny _ _ (match Builtin.Slice.sliceAdjust lo hi 1 (n : Int) with | (lo, hi) => pure (lo, (1 : Int), Builtin.Slice.slicePlaces lo hi 1)) _ _ s
  rw [adjust_gen lo hi n]
  show wpAny _ _ (pure (((sIx n 0 lo : Nat) : Int), (1 : Int), Builtin.Slice.slicePlaces ((sIx n 0 lo : Nat) : Int) ((sIx n n hi : Nat) : Int) 1)) _ _ s
  rw [places_gen]
  exact wpAny_pure h
theorem pick_gen (xs : Array Value) (i k : Nat) : ((List.range k).filterMap fun (m : Nat) => xs[((i : Int) + (m : Int) * 1).toNat]?).toArray = ((xs.toList.drop i).take k).toArray := by
  have e : (fun (m : Nat) => xs[((i : Int) + (m : Int) * 1).toNat]?) = fun m => xs[i + m]? := by
    funext m
    have : ((i : Int) + (m : Int) * 1).toNat = i + m := by omega
    rw [this]
  rw [e]
  have := pick_run xs i k
  rw [List.filterMap_map] at this
  have e2 : ((fun x => xs[x]?) ∘ fun x => i + x) = fun m => xs[i + m]? := rfl
  rw [e2] at this
  rw [this]
theorem getItem_tuple_cut {t sl : Addr} {items : Array Value} {vl vu : Value} {lo hi : Option Int} {Q : Value → Shared → Prop} (ht : IsTup s.heap t items) (hs : s.heap.IsSliceOf sl vl vu .none) (pl : IsPart vl lo) (pu : IsPart vu hi)
    (hw : ¬ (sIx items.size 0 lo = 0 ∧ sIx items.size items.size hi = items.size))
    (h : Q (.ref s.heap.objs.size) { s with heap := s.heap.push { cls := .type "tuple", data := .seq ((items.toList.drop (sIx items.size 0 lo)).take (sIx items.size items.size hi - sIx items.size 0 lo)).toArray } })
    (hsz : items.size ≤ sizeLine) : wpAny (model prog w) A (getItem (.ref t) (.ref sl)) Q E s := by
  have htake : sizeOk (.seq ((items.toList.drop (sIx items.size 0 lo)).take (sIx items.size items.size hi - sIx items.size 0 lo)).toArray) := by
    show ((items.toList.drop (sIx items.size 0 lo)).take (sIx items.size items.size hi - sIx items.size 0 lo)).toArray.size ≤ sizeLine
    rw [List.size_toArray, List.length_take, List.length_drop, Array.length_toList]
    omega
  have hj : sIx items.size items.size hi ≤ items.size := sIx_le _ _ (Nat.le_refl _) hi
  obtain ⟨os, hos, hcs, hds⟩ := id hs
  have hTs : s.TypeIs (.ref sl) "slice" := ⟨os, hos, hcs⟩
  unfold getItem
  try with_reducible refine wpAny_holding ?_
  first | refine wpAny_bind (wpAny_pure ?_) | skip
  refine wpAny_bind (wpAny_sequenceKey ht.typeIs (by decide) ?_)
  refine wpAny_bind (wpAny_callSpecial?_slot (name := Str.ofString "__getitem__") ht.typeIs PyProof.Rows.slot_tuple_getitem
    (wpAny_call_entry PyProof.Rows.slot_tuple_getitem ht.typeIs entry_tuple_getitem ?_ (args_tuple_getitem _ _)))
  show wpAny _ _ (Builtin.Tuple.tupleItemsOf (.ref t) >>= _) _ _ s
  refine wpAny_bind (tupleItemsOf_ ht ?_)
  refine wpAny_bind (wpAny_typeOf hTs ?_)
  rw [if_pos (by decide)]
  refine wpAny_bind (sliceApplied_gen hs pl pu ?_)
  have hno : ¬ ((((sIx items.size 0 lo : Nat) : Int) == 0 && (1 : Int) == 1 && (sIx items.size items.size hi - sIx items.size 0 lo) == items.size) = true) := by
    intro q
    rw [Bool.and_eq_true, Bool.and_eq_true] at q
    have q1 : ((sIx items.size 0 lo : Nat) : Int) = 0 := eq_of_beq q.1.1
    have q2 : sIx items.size items.size hi - sIx items.size 0 lo = items.size := eq_of_beq q.2
    exact hw ⟨by omega, by omega⟩
  show wpAny _ _ (if (((sIx items.size 0 lo : Nat) : Int) == 0 && (1 : Int) == 1 && (sIx items.size items.size hi - sIx items.size 0 lo) == items.size) = true then _ else _) _ _ s
  rw [if_neg hno, pick_gen]
  first
    | exact wpAny_bind (m := Builtin.Tuple.tupleExact _) (wpAny_newObj_type (wpAny_pure ⟨_, rfl, wpAny_pure h⟩) htake)
    | exact wpAny_bind (m := Builtin.Tuple.tupleExact _) (wpAny_newObj_type (wpAny_bind (wpAny_pure (wpAny_pure ⟨_, rfl, wpAny_pure h⟩))) htake)
    | exact wpAny_bind (wpAny_bind (m := Builtin.Tuple.tupleExact _) (wpAny_newObj_type (wpAny_pure (wpAny_pure ⟨_, rfl, wpAny_pure h⟩)) htake))
    | exact wpAny_bind (wpAny_bind (m := Builtin.Tuple.tupleExact _) (wpAny_newObj_type (wpAny_pure ⟨_, rfl, wpAny_pure h⟩) htake))
end
end HT
namespace L2
open PySem PySem.Spec PyProof.Rows
abbrev TO := St → Hp → (Option Int → Hp → Prop) → Prop
def PO (X : Cx) (e : Option Expr) (t : TO) : Prop :=
  ∀ (pins : List (Addr × Obj)) (s : Shared) (σ : St) (H : Hp) (Q : Option Int → Hp → Prop), Inv X pins σ H s → t σ H Q →
    wpAny (model X.prog X.w) X.A (evalPart e X.env) (fun u s' => ∃ o H', Inv X pins σ H' s' ∧ IsPart u o ∧ Q o H') X.xe s
def tNoPart : TO := fun _ H Q => Q none H
def tPart (t : TE) : TO := fun σ H Q => t σ H fun x H1 => ∃ i, x = .int i ∧ Q (some i) H1
section
variable {X : Cx} {e : Expr} {te : TE} {lo hi : Option Expr} {tl th : TO} {pos p2 : Pos}
theorem po_none : PO X none tNoPart := by
  intro pins s σ H Q I h
  rw [evalPart_none]
  exact wpAny_pure ⟨none, H, I, .none, h⟩
theorem po_some (h : PE X e te) : PO X (some e) (tPart te) := by
  intro pins s σ H Q I hw
  rw [evalPart_some]
  refine thn (h pins s σ H _ I hw) fun u s1 ⟨x, H1, I1, r1, q1⟩ => ?_
  obtain ⟨i, rfl, q⟩ := q1
  obtain ⟨t, rfl⟩ := r1
  exact ⟨some i, H1, I1, .int i t, q⟩
def SlR (X : Cx) (r : V → Option Int → Option Int → Hp → VK → Prop) : Prop :=
  ∀ (pins : List (Addr × Obj)) (s : Shared) (σ : St) (H : Hp) (x : V) (v vl vu : Value) (lo hi : Option Int) (sl : Addr) (Q : VK), Inv X pins σ H s → RelV x v → s.heap.IsSliceOf sl vl vu .none → IsPart vl lo → IsPart vu hi → r x lo hi H Q →
    ∃ T id, typeLookup (.type T) "__getitem__" = pure (some (.builtin id)) ∧ s.TypeIs v T ∧ wpAny (model X.prog X.w) X.A (getItem v (.ref sl)) (EP X pins σ Q) X.xe s
theorem SlR.or {r r' : V → Option Int → Option Int → Hp → VK → Prop} (h : SlR X r) (h' : SlR X r') : SlR X (fun x lo hi H Q => r x lo hi H Q ∨ r' x lo hi H Q) := by
  intro pins s σ H x v vl vu lo hi sl Q I rx hs pl pu q
  rcases q with q | q
  · exact h pins s σ H x v vl vu lo hi sl Q I rx hs pl pu q
  · exact h' pins s σ H x v vl vu lo hi sl Q I rx hs pl pu q
def tSl (r : V → Option Int → Option Int → Hp → VK → Prop) (te : TE) (tl th : TO) : TE := fun σ H Q => te σ H fun x H1 => tl σ H1 fun l H2 => th σ H2 fun u H3 => r x l u H3 Q
theorem pe_slice {r : V → Option Int → Option Int → Hp → VK → Prop} (hr : SlR X r) (he : PE X e te) (hl : PO X lo tl) (hu : PO X hi th) : PE X (.Subscript e (.Slice lo hi none p2) pos) (tSl r te tl th) := by
  intro pins s σ H Q I h
  refine Subscript_ (thn (he pins s σ H _ I h) fun v s1 ⟨x, H1, I1, r1, q1⟩ => ?_)
  refine wpAny_Slice (thn (hl pins s1 σ H1 _ I1 q1) fun vl s2 ⟨l, H2, I2, pl, q2⟩ => thn (hu pins s2 σ H2 _ I2 q2) fun vu s3 ⟨u, H3, I3, pu, q3⟩ => ?_)
  rw [evalPart_none]
  refine wpAny_pure ?_
  have I4 : Inv X pins σ H3 { s3 with heap := s3.heap.push { cls := .type "slice", data := .fields #[vl, vu, .none] } } := I3.kept (t' := s3.toks) fun b ob q => Heap.get?_push_of_some _ q
  obtain ⟨T, id, hT, ht, hg⟩ := hr pins { s3 with heap := s3.heap.push { cls := .type "slice", data := .fields #[vl, vu, .none] } } σ H3 x v vl vu l u s3.heap.objs.size Q I4 r1 (Heap.IsSliceOf.new ..) pl pu q3
  show wpAny (model X.prog X.w) X.A (subscriptTail e (.Slice lo hi none p2) v (.ref s3.heap.objs.size)) (EP X pins σ Q) X.xe { s3 with heap := s3.heap.push { cls := .type "slice", data := .fields #[vl, vu, .none] } }
  exact tail_any (ops := [.ref s3.heap.objs.size, v]) ht hT hg (by with_unfolding_all rfl)
def cutV (xs : List V) (lo hi : Option Int) : List V := (xs.drop (HT.sIx xs.length 0 lo)).take (HT.sIx xs.length xs.length hi - HT.sIx xs.length 0 lo)
theorem cutV_length (xs : List V) (lo hi : Option Int) : (cutV xs lo hi).length ≤ xs.length := by
  unfold cutV
  rw [List.length_take, List.length_drop]
  omega
def rSlT (K : PySem.W.Frag) : V → Option Int → Option Int → Hp → VK → Prop := fun x lo hi H Q => ∃ a xs, x = .ref a ∧ SqT K H a xs ∧
  ¬ (HT.sIx xs.length 0 lo = 0 ∧ HT.sIx xs.length xs.length hi = xs.length) ∧ ∀ p, H p = none → Q (.ref p) (upd H p (.tup (cutV xs lo hi)))
theorem sl_tup : SlR X (rSlT X.K) := by
  intro pins s σ H x v vl vu lo hi sl Q I rx hs pl pu h
  obtain ⟨a, xs, rfl, hx, hw, q⟩ := h
  cases rx
  obtain ⟨its, r, ht, hz⟩ := I.tuple hx
  have hlen : its.toArray.size = xs.length := by rw [List.size_toArray]; exact r.length.symm
  refine ⟨"tuple", _, PyProof.Rows.slot_tuple_getitem.lookup, ht.typeIs, ?_⟩
  refine HT.getItem_tuple_cut ht hs pl pu (by rw [hlen]; exact hw) ?_ (by rw [hlen]; exact hz)
  rw [hlen]
  refine ⟨.ref s.heap.objs.size, _, I.laid (t' := s.toks) (o := .tup (cutV xs lo hi)) (fun b ob q => Heap.get?_push_of_some _ q) (Nat.le_refl _) ?_, rfl, q _ (I.hok.fresh (Nat.le_refl _))⟩
  exact ⟨Nat.le_trans (cutV_length xs lo hi) hz, _, (r.drop (HT.sIx xs.length 0 lo)).take (HT.sIx xs.length xs.length hi - HT.sIx xs.length 0 lo), IsTup.new _ _⟩
def rCatT (K : PySem.W.Frag) : R2 := fun x y H Q => ∃ a b xs ys, x = .ref a ∧ y = .ref b ∧ SqT K H a xs ∧ SqT K H b ys ∧ xs ≠ [] ∧ xs.length + ys.length ≤ sizeLine ∧
  (ys = [] → Q (.ref a) H) ∧ (ys ≠ [] → ∀ p, H p = none → Q (.ref p) (upd H p (.tup (xs ++ ys))))
theorem Vals.nil_iff {xs : List V} {us : List Value} (r : Vals xs us) : us = [] ↔ xs = [] := by
  cases r with
  | nil => simp
  | cons _ _ => simp
theorem op_catT : OpR X (binaryOp .Add) (rCatT X.K) := by
  intro pins s σ H x y v u Q I rx ry h
  obtain ⟨a, b, xs, ys, rfl, rfl, ha, hb, hx, hz, q1, q2⟩ := h
  cases rx
  cases ry
  obtain ⟨its, r1, p1, _⟩ := I.tuple ha
  obtain ⟨its2, r2, p2, _⟩ := I.tuple hb
  refine HT.cat_tup p1 p2 (fun z => hx (r1.nil_iff.mp z)) (fun z => ⟨.ref a, H, I, rfl, q1 (r2.nil_iff.mp z)⟩) (fun z => ?_) (by rw [← r1.length, ← r2.length]; exact hz)
  refine ⟨.ref s.heap.objs.size, _, I.laid (t' := s.toks) (o := .tup (xs ++ ys)) (fun b ob q => Heap.get?_push_of_some _ q) (Nat.le_refl _) ?_, rfl, q2 (fun w => z (r2.nil_iff.mpr w)) _ (I.hok.fresh (Nat.le_refl _))⟩
  exact ⟨by rw [List.length_append]; exact hz, _, r1.append r2, IsTup.new _ _⟩
end
end L2
namespace L2
open PySem PySem.Spec PyProof.Rows
def ixN (n : Nat) (i : Int) : Option Nat := if 0 ≤ i then (if i < n then some i.toNat else none) else if -(n : Int) ≤ i then some (i + n).toNat else none
def atI {α : Type} (xs : List α) (i : Int) : Option α := (ixN xs.length i).bind fun j => xs[j]?
theorem ixN_seq {n : Nat} {i : Int} {j : Nat} (h : ixN n i = some j) : seqIndex? i n = some j ∧ j < n ∧ -(n : Int) ≤ i ∧ i < n := by
  unfold ixN at h
  by_cases h0 : 0 ≤ i
  · rw [if_pos h0] at h
    by_cases h1 : i < n
    · rw [if_pos h1] at h
      have e : i.toNat = j := Option.some.inj h
      exact ⟨by rw [seqIndex_of h0 h1, e], by omega, by omega, h1⟩
    · rw [if_neg h1] at h; cases h
  · rw [if_neg h0] at h
    by_cases h1 : -(n : Int) ≤ i
    · rw [if_pos h1] at h
      have e : (i + n).toNat = j := Option.some.inj h
      exact ⟨by rw [seqIndex_neg (by omega) h1, e], by omega, h1, by omega⟩
    · rw [if_neg h1] at h; cases h
theorem atI_get {α : Type} {xs : List α} {i : Int} {v : α} (h : atI xs i = some v) : ∃ j, seqIndex? i xs.length = some j ∧ xs[j]? = some v ∧ j < xs.length ∧ -(xs.length : Int) ≤ i ∧ i < xs.length := by
  unfold atI at h
  cases e : ixN xs.length i with
  | none => rw [e] at h; cases h
  | some j =>
    rw [e] at h
    obtain ⟨h1, h2, h3, h4⟩ := ixN_seq e
    exact ⟨j, h1, h, h2, h3, h4⟩
def PlainIx (b : Expr) : Prop := ∀ o i, subscripted b false o i = operate [o, i] (getItem o i)
def IxR (X : Cx) (r : R2) : Prop :=
  ∀ (value slice : Expr) (pins : List (Addr × Obj)) (s : Shared) (σ : St) (H : Hp) (x y : V) (v u : Value) (Q : VK), Inv X pins σ H s → RelV x v → RelV y u → r x y H Q →
    subscripted slice false v u = operate [v, u] (getItem v u) → wpAny (model X.prog X.w) X.A (subscriptTail value slice v u) (EP X pins σ Q) X.xe s
def MtR (X : Cx) (id : String) (r : V → List V → Hp → VK → Prop) : Prop :=
  ∀ (pins : List (Addr × Obj)) (s : Shared) (σ : St) (H : Hp) (x : V) (xs : List V) (v : Value) (us : List Value) (Q : VK), Inv X pins σ H s → RelV x v → Vals xs us → r x xs H Q →
    wpAny (model X.prog X.w) X.A (call (.builtin id) (v :: us)) (EP X pins σ Q) X.xe s
section
variable {X : Cx} {a b : Expr} {ta tb : TE} {pos : Pos}
theorem IxR.or {r r' : R2} (h : IxR X r) (h' : IxR X r') : IxR X (fun x y H Q => r x y H Q ∨ r' x y H Q) := by
  intro value slice pins s σ H x y v u Q I rx ry q hs
  rcases q with q | q
  · exact h value slice pins s σ H x y v u Q I rx ry q hs
  · exact h' value slice pins s σ H x y v u Q I rx ry q hs
theorem pe_ix {r : R2} (hr : IxR X r) (ha : PE X a ta) (hb : PE X b tb) (hs : PlainIx b) : PE X (.Subscript a b pos) (tOp r ta tb) := by
  intro pins s σ H Q I h
  exact Subscript_ (binT ha hb I h fun v u s2 x y H2 I2 rx ry q => hr a b pins s2 σ H2 x y v u Q I2 rx ry q (hs _ _))
def rIxL (K : PySem.W.Frag) : R2 := fun x y H Q => ∃ p xs i v, x = .ref p ∧ y = .int i ∧ SqL K H p xs ∧ atI xs i = some v ∧ Q v H
def rIxT (K : PySem.W.Frag) : R2 := fun x y H Q => ∃ p xs i v, x = .ref p ∧ y = .int i ∧ SqT K H p xs ∧ atI xs i = some v ∧ Q v H
def rIxS : R2 := fun x y H Q => ∃ z i c, x = .str z ∧ y = .int i ∧ z.length ≤ sizeLine ∧ atI z.cps.toList i = some c ∧ Q (.str ⟨#[c]⟩) H
theorem ix_list : IxR X (rIxL X.K) := by
  intro value slice pins s σ H x y v u Q I rx ry h hs
  obtain ⟨p, xs, i, z, rfl, rfl, hq, he, q⟩ := h
  cases rx
  obtain ⟨t, rfl⟩ := ry
  obtain ⟨its, r, pl, hz⟩ := I.list hq
  obtain ⟨j, h1, h2, h3, h4, h5⟩ := atI_get he
  obtain ⟨w, ew, rw'⟩ := r.get h2
  have hl := r.length
  have hn := line63
  have fin : EP X pins σ Q w s := ⟨z, H, I, rw', q⟩
  by_cases h0 : 0 ≤ i
  · have hj : i.toNat = j := by
      rw [seqIndex_of h0 h5] at h1
      exact Option.some.inj h1
    exact item_listR pl.isList h0 (by omega) (by rw [hj]; simpa using ew) fin hs
  · have hj : (i + (its.toArray.size : Int)).toNat = j := by
      rw [seqIndex_neg (by omega) h4] at h1
      rw [List.size_toArray, ← hl]
      exact Option.some.inj h1
    exact subscriptTail_builtinR (x := w) pl.isList.typeIs slot_list_getitem.lookup
      (wpAny_getItem_list_neg (Q := fun r s' => r = w ∧ EP X pins σ Q r s') pl.isList (by omega) (by rw [List.size_toArray] <;> omega) (by omega) (by rw [hj]; simpa using ew) ⟨rfl, fin⟩) hs
theorem ix_tup : IxR X (rIxT X.K) := by
  intro value slice pins s σ H x y v u Q I rx ry h hs
  obtain ⟨p, xs, i, z, rfl, rfl, hq, he, q⟩ := h
  cases rx
  obtain ⟨t, rfl⟩ := ry
  obtain ⟨its, r, pl, hz⟩ := I.tuple hq
  obtain ⟨j, h1, h2, h3, h4, h5⟩ := atI_get he
  obtain ⟨w, ew, rw'⟩ := r.get h2
  have hl := r.length
  have hn := line63
  have fin : EP X pins σ Q w s := ⟨z, H, I, rw', q⟩
  exact subscriptTail_builtinR (x := w) pl.typeIs slot_tuple_getitem.lookup
    (getItem_tuple (j := j) (Q := fun r s' => r = w ∧ EP X pins σ Q r s') pl (by omega) (by omega) (by rw [List.size_toArray, ← hl]; exact h1) (by simpa using ew) ⟨rfl, fin⟩) hs
theorem ix_str : IxR X rIxS := by
  intro value slice pins s σ H x y v u Q I rx ry h hs
  obtain ⟨z, i, c, rfl, rfl, hz, he, q⟩ := h
  obtain ⟨t, rfl⟩ := rx
  obtain ⟨t', rfl⟩ := ry
  obtain ⟨j, h1, h2, h3, h4, h5⟩ := atI_get he
  have hl : z.cps.toList.length = z.length := by simp [Str.length]
  rw [hl] at h1 h4 h5
  have hn := line63
  exact tail_any (typeIs_str s z t) slot_str_getitem.lookup (getItem_str (c := c) (by
    have e1 : decide (i < -(2 ^ 63 : Int)) = false := decide_eq_false (by omega)
    have e2 : decide (i ≥ 2 ^ 63) = false := decide_eq_false (by omega)
    rw [e1, e2, Bool.or_false]) (by rw [h1]; simpa using h2) ⟨.str ⟨#[c]⟩, H, I.tok _, ⟨_, rfl⟩, q⟩) hs
theorem mapSeq_set (its : List Value) (n j : Nat) (u : Value) : Obj.mapSeq (·.setIfInBounds j u) { cls := .type "list", data := .seq its.toArray n } = { cls := .type "list", data := .seq (its.set j u).toArray n } := by
  simp [Obj.mapSeq]
theorem Inv.lst {pins : List (Addr × Obj)} {σ : St} {H : Hp} {s : Shared} {p : Addr} {xs : List V} (I : Inv X pins σ H s) (h : H p = some (.lst xs)) :
    ∃ (its : List Value) (n : Nat), Vals xs its ∧ s.heap.get? p = some { cls := .type "list", data := .seq its.toArray n } ∧ xs.length ≤ sizeLine := by
  obtain ⟨z, its, n, r, e⟩ := I.hok p _ h
  exact ⟨its, n, r, e, z⟩
theorem Inv.lstUpd {pins : List (Addr × Obj)} {σ : St} {H : Hp} {s : Shared} {p : Addr} {xs ys : List V} {its its' : List Value} {n n' : Nat} {f : Obj → Obj} (I : Inv X pins σ H s) (h : H p = some (.lst xs))
    (ho : s.heap.get? p = some { cls := .type "list", data := .seq its.toArray n }) (hf : f { cls := .type "list", data := .seq its.toArray n } = { cls := .type "list", data := .seq its'.toArray n' }) (r : Vals ys its') (hz : ys.length ≤ sizeLine) (t : Nat) :
    Inv X pins σ (upd H p (.lst ys)) { s with heap := s.heap.update p f, toks := t } := by
  have e : (s.heap.update p f).get? p = some { cls := .type "list", data := .seq its'.toArray n' } := by
    rw [Heap.get?_update_self f ho (by rw [hf] <;> rfl), hf]
  refine I.write (x := p) (e := p) (by rw [h]; trivial) (.inl rfl) (fun b u hb q => (Heap.get?_update_other _ _ (Ne.symm hb)).trans q) ⟨_, e⟩ ?_
  exact ⟨hz, its', n', r, e⟩
def rSetL : V → V → V → Hp → (Hp → Prop) → Prop := fun o i v H Q => ∃ p xs k j, o = .ref p ∧ i = .int k ∧ H p = some (.lst xs) ∧ ixN xs.length k = some j ∧ Q (upd H p (.lst (xs.set j v)))
theorem set_list : PSet X rSetL := by
  intro pins s σ H o i v ov iv u Q I ro ri rv h
  obtain ⟨p, xs, k, j, rfl, rfl, hp, hj, q⟩ := h
  cases ro
  obtain ⟨t, rfl⟩ := ri
  obtain ⟨its, n, r, ho, hz⟩ := I.lst hp
  obtain ⟨h1, h2, h3, h4⟩ := ixN_seq hj
  have hl := r.length
  have hn := line63
  have I' : Inv X pins σ (upd H p (.lst (xs.set j v))) { s with heap := s.heap.update p (Obj.mapSeq (·.setIfInBounds j u)) } :=
    I.lstUpd hp ho (mapSeq_set its n j u) (r.set rv j) (by rw [List.length_set]; exact hz) s.toks
  by_cases h0 : 0 ≤ k
  · have hk : k.toNat = j := by
      rw [seqIndex_of h0 h4] at h1
      exact Option.some.inj h1
    exact PySem.W.ki_setAt ho h0 (by omega) (by rw [List.size_toArray, ← hl]; exact h4) (by rw [hk]; exact ⟨_, I', q⟩)
  · have hk : (k + (its.toArray.size : Int)).toNat = j := by
      rw [seqIndex_neg (by omega) h3] at h1
      rw [List.size_toArray, ← hl]
      exact Option.some.inj h1
    exact PySem.W.ki_setBack ho (by omega) (by rw [List.size_toArray, ← hl]; exact h3) (by omega) (by rw [hk]; exact ⟨_, I', q⟩)
theorem slice_bounds (lo hi : Option Int) (n : Nat) : (sliceBounds lo hi none n).1 = ((HT.sIx n 0 lo : Nat) : Int) ∧ (sliceBounds lo hi none n).2.1 = ((HT.sIx n n hi : Nat) : Int) ∧ (sliceBounds lo hi none n).2.2 = 1 := by
  refine ⟨?_, ?_, rfl⟩
  · cases lo with
    | none => simp [sliceBounds, HT.sIx]
    | some i =>
      simp only [sliceBounds, HT.sIx, Option.getD_none, show (1 : Int) > 0 by decide, if_true]
      by_cases h : i < 0
      · simp only [h, if_true] <;> omega
      · simp only [h, if_false] <;> omega
  · cases hi with
    | none => simp [sliceBounds, HT.sIx]
    | some i =>
      simp only [sliceBounds, HT.sIx, Option.getD_none, show (1 : Int) > 0 by decide, if_true]
      by_cases h : i < 0
      · simp only [h, if_true] <;> omega
      · simp only [h, if_false] <;> omega
theorem slicePick_cut (its : List Value) (lo hi : Option Int) : slicePick its.toArray lo hi none = ((its.drop (HT.sIx its.length 0 lo)).take (HT.sIx its.length its.length hi - HT.sIx its.length 0 lo)).toArray := by
  obtain ⟨h1, h2, h3⟩ := slice_bounds lo hi its.toArray.size
  unfold slicePick
  rw [h1, h2, h3]
  simp only [sliceRange_one, pick_run, List.size_toArray] <;> rfl
def rSlL (K : PySem.W.Frag) : V → Option Int → Option Int → Hp → VK → Prop := fun x lo hi H Q => ∃ a xs, x = .ref a ∧ SqL K H a xs ∧ ∀ p, H p = none → Q (.ref p) (upd H p (.lst (cutV xs lo hi)))
theorem sl_list : SlR X (rSlL X.K) := by
  intro pins s σ H x v vl vu lo hi sl Q I rx hs pl pu h
  obtain ⟨a, xs, rfl, hx, q⟩ := h
  cases rx
  obtain ⟨its, r, ht, hz⟩ := I.list hx
  have hlen := r.length
  refine ⟨"list", _, slot_list_getitem.lookup, ht.isList.typeIs, ?_⟩
  refine wpAny_getItem_list_slice ht.isList hs pl pu .none (by simp) ?_ (by rw [List.size_toArray] <;> omega)
  rw [slicePick_cut, ← hlen]
  refine ⟨.ref s.heap.objs.size, _, I.laid (t' := s.toks) (o := .lst (cutV xs lo hi)) (fun b ob q => Heap.get?_push_of_some _ q) (Nat.le_refl _) ?_, rfl, q _ (I.hok.fresh (Nat.le_refl _))⟩
  exact ⟨Nat.le_trans (cutV_length xs lo hi) hz, _, 0, (r.drop (HT.sIx xs.length 0 lo)).take (HT.sIx xs.length xs.length hi - HT.sIx xs.length 0 lo), Heap.get?_push_size _ rfl⟩
theorem call_len_seq : CallR X (.builtin "len") (fun xs H Q => ∃ p ys, xs = [.ref p] ∧ (SqL X.K H p ys ∨ SqT X.K H p ys) ∧ Q (.int ys.length) H) := by
  intro pins s σ H xs us Q I r h
  obtain ⟨p, ys, rfl, hq, q⟩ := h
  obtain ⟨u, rfl, rx⟩ := vals1 r
  cases rx
  have hn := line63
  rcases hq with hq | hq
  · obtain ⟨its, r', pl, hz⟩ := I.list hq
    have hlen := r'.length
    exact Calls.call_len_list pl.isList (by simp only [List.size_toArray] <;> omega) ⟨.int ys.length, H, I.tok _, ⟨s.toks + 1, by rw [List.size_toArray, hlen]⟩, q⟩
  · obtain ⟨its, r', pl, hz⟩ := I.tuple hq
    have hlen := r'.length
    exact len_tuple pl (by simp only [List.size_toArray] <;> omega) ⟨.int ys.length, H, I.tok _, ⟨s.toks + 1, by rw [List.size_toArray, hlen]⟩, q⟩
theorem call_len_str : CallR X (.builtin "len") (fun xs H Q => ∃ z, xs = [.str z] ∧ z.length ≤ sizeLine ∧ Q (.int z.length) H) := by
  intro pins s σ H xs us Q I r h
  obtain ⟨z, rfl, hz, q⟩ := h
  obtain ⟨u, rfl, t, rfl⟩ := vals1 r
  have hn := line63
  exact len_str (by omega) ⟨.int z.length, H, I.tok _, ⟨_, rfl⟩, q⟩
theorem CallR.or {f : Value} {r r' : List V → Hp → VK → Prop} (h : CallR X f r) (h' : CallR X f r') : CallR X f (fun xs H Q => r xs H Q ∨ r' xs H Q) := by
  intro pins s σ H xs us Q I rs q
  rcases q with q | q
  · exact h pins s σ H xs us Q I rs q
  · exact h' pins s σ H xs us Q I rs q
theorem call_list_of : CallR X (.type "list") (fun xs H Q => ∃ p ys, xs = [.ref p] ∧ (SqL X.K H p ys ∨ SqT X.K H p ys) ∧ ∀ l, H l = none → Q (.ref l) (upd H l (.lst ys))) := by
  intro pins s σ H xs us Q I r h
  obtain ⟨p, ys, rfl, hq, q⟩ := h
  obtain ⟨u, rfl, rx⟩ := vals1 r
  cases rx
  have fin : ∀ (its : List Value), Vals ys its → ys.length ≤ sizeLine → ∀ (h' : Heap) (c' : Nat), (∀ b o', s.heap.get? b = some o' → h'.get? b = some o') →
      h'.get? s.heap.objs.size = some { cls := .type "list", dict := none, data := .seq its.toArray c', slots := #[] } → EP X pins σ Q (.ref s.heap.objs.size) { s with heap := h' } := fun its r' hz h' c' kp e =>
    ⟨.ref s.heap.objs.size, _, I.laid (t' := s.toks) kp (Nat.le_refl _) (show ObjOk X.prog X.w _ h' _ (.lst ys) from ⟨hz, its, c', r', e⟩), rfl, q _ (I.hok.fresh (Nat.le_refl _))⟩
  rcases hq with hq | hq
  · obtain ⟨its, r', pl, hz⟩ := I.list hq
    have hlen := r'.length
    obtain ⟨o, ho, hc, n, hd⟩ := pl.isList
    exact call_list_seq p (.inl rfl) ho hc hd (fun h' c' kp e => fin its r' hz h' c' kp e) (by simp only [List.size_toArray] <;> omega)
  · obtain ⟨its, r', pl, hz⟩ := I.tuple hq
    have hlen := r'.length
    obtain ⟨o, ho, hc, n, hd⟩ := pl
    exact call_list_seq p (.inr rfl) ho hc hd (fun h' c' kp e => fin its r' hz h' c' kp e) (by simp only [List.size_toArray] <;> omega)
theorem call_tuple_of : CallR X (.type "tuple") (fun xs H Q => ∃ p ys, xs = [.ref p] ∧ ((SqL X.K H p ys ∧ ∀ l, H l = none → Q (.ref l) (upd H l (.tup ys))) ∨ (SqT X.K H p ys ∧ Q (.ref p) H))) := by
  intro pins s σ H xs us Q I r h
  obtain ⟨p, ys, rfl, h⟩ := h
  obtain ⟨u, rfl, rx⟩ := vals1 r
  cases rx
  rcases h with ⟨hq, q⟩ | ⟨hq, q⟩
  · obtain ⟨its, r', pl, hz⟩ := I.list hq
    have hlen := r'.length
    refine call_tuple_list pl.isList (fun h' kp => ?_) (by simp only [List.size_toArray] <;> omega)
    have I1 : Inv X pins σ H { s with heap := h' } := I.kept (t' := s.toks) kp
    have I2 : Inv X pins σ (upd H h'.objs.size (.tup ys)) { s with heap := h'.push { cls := .type "tuple", data := .seq its.toArray } } :=
      I1.laid (t' := s.toks) (fun b o e => Heap.get?_push_of_some _ e) (Nat.le_refl _) (show ObjOk X.prog X.w _ _ _ (.tup ys) from ⟨hz, its, r', IsTup.new _ _⟩)
    exact ⟨.ref h'.objs.size, _, I2, rfl, q _ (I1.hok.fresh (Nat.le_refl _))⟩
  · obtain ⟨its, r', pl, hz⟩ := I.tuple hq
    exact call_tuple_same pl ⟨.ref p, H, I, rfl, q⟩
def tyV (K : PySem.W.Frag) (T : String) (x : V) (H : Hp) : Prop := match x with
  | .str _ => T = "str"
  | .int _ => T = "int"
  | .ref p => (T = "list" ∧ ∃ xs, SqL K H p xs) ∨ (T = "tuple" ∧ ∃ o, K.lookup p = some o ∧ o.cls = .type "tuple" ∧ o.dict = none) ∨
      (T = "dict" ∧ ((∃ kvs, H p = some (.dK kvs)) ∨ ∃ kvs, H p = some (.dT kvs))) ∨ (T = "set" ∧ ∃ S n, H p = some (.set S n))
  | _ => False
theorem tyV_is {pins : List (Addr × Obj)} {σ : St} {H : Hp} {s : Shared} {T : String} {x : V} {v : Value} (I : Inv X pins σ H s) (r : RelV x v) (ty : tyV X.K T x H) :
    s.TypeIs v T ∧ ∀ a, v = .ref a → ∃ ob, s.heap.get? a = some ob ∧ ob.dict = none := by
  cases x with
  | str z =>
    obtain ⟨t, rfl⟩ := r
    cases (show T = "str" from ty)
    exact ⟨typeIs_str s z t, fun _ e => nomatch e⟩
  | int i =>
    obtain ⟨t, rfl⟩ := r
    cases (show T = "int" from ty)
    exact ⟨typeIs_int s i t, fun _ e => nomatch e⟩
  | ref p =>
    cases r
    rcases ty with ⟨rfl, xs, hq⟩ | ⟨rfl, o, hk, hc, hd⟩ | ⟨rfl, hk⟩ | ⟨rfl, S, n, hk⟩
    · obtain ⟨its, _, pl, _⟩ := I.list hq
      refine ⟨pl.isList.typeIs, fun a e => ?_⟩
      cases e
      obtain ⟨o, n, e, c, hd, _⟩ := pl
      exact ⟨o, e, hd⟩
    · refine ⟨⟨o, I.kIn p o hk, hc⟩, fun a e => ?_⟩
      cases e
      exact ⟨o, I.kIn _ o hk, hd⟩
    · have z : ∃ o, s.heap.get? p = some o ∧ o.ExactDict := by
        rcases hk with ⟨kvs, hk⟩ | ⟨kvs, hk⟩
        · obtain ⟨_, _, _, _, o, _, _, e, ex, _⟩ := I.hok p _ hk
          exact ⟨o, e, ex⟩
        · obtain ⟨_, _, _, _, o, _, _, e, ex, _⟩ := I.hok p _ hk
          exact ⟨o, e, ex⟩
      obtain ⟨o, e, ex⟩ := z
      refine ⟨⟨o, e, ex.1⟩, fun a e2 => ?_⟩
      cases e2
      exact ⟨o, e, ex.2.1⟩
    · obtain ⟨o, _, _, _, e, ex, _⟩ := I.hok p _ hk
      refine ⟨⟨o, e, ex.1⟩, fun a e2 => ?_⟩
      cases e2
      exact ⟨o, e, ex.2.1⟩
  | _ => exact False.elim ty
def tBM0 (K : PySem.W.Frag) (T : String) (r : V → List V → Hp → VK → Prop) (to : TE) : TE := fun σ H Q => to σ H fun x H1 => tyV K T x H1 ∧ r x [] H1 Q
def tBM (K : PySem.W.Frag) (T : String) (r : V → List V → Hp → VK → Prop) (to : TE) (t : TA) : TE := fun σ H Q => to σ H fun x H1 => tyV K T x H1 ∧ t σ H1 fun xs H2 => r x xs H2 Q
variable {o e : Expr} {es : List Expr} {to : TE} {t : TA} {name : Str} {apos cpos : Pos} {T id : String} {r : V → List V → Hp → VK → Prop}
theorem pe_bm0 (pa : PlainAttrs T) (slot : Slot T name id) (hty : typeOf (.builtin id) = pure (.type "method_descriptor")) (hm : MtR X id r) (ho : PE X o to)
    (hbase : attributeBase o name X.env (eval o X.env) = eval o X.env := by rfl) (hline : (apos.endLine == cpos.line) = true := by rfl) : PE X (.Call (.Attribute o name apos) [] [] cpos) (tBM0 X.K T r to) := by
  intro pins s σ H Q I h
  refine wpAny_Call_method0_late hbase hline (thn (ho pins s σ H _ I h) fun v s1 ⟨x, H1, I1, r1, ty, q1⟩ => ?_)
  obtain ⟨h1, h2⟩ := tyV_is I1 r1 ty
  exact ⟨T, id, pa, slot, hty, h1, h2, Calls.callWith_builtin rfl (PySem.evalArgs_none (hm pins s1 σ H1 x [] v [] Q I1 r1 .nil q1))⟩
theorem pe_bm (pa : PlainAttrs T) (slot : Slot T name id) (hty : typeOf (.builtin id) = pure (.type "method_descriptor")) (hm : MtR X id r) (ho : PE X o to) (ha : PA X (e :: es) t)
    (hbase : attributeBase o name X.env (eval o X.env) = eval o X.env := by rfl)
    (hfew : ((backTo cpos (starEach (e :: es) X.env)).all (fun x => !x.1) && (backToKw cpos (keywordEach [] X.env)).all (fun x => x.1.isSome)
      && decide ((e :: es).length + ([] : List Keyword).length + (if ([] : List Keyword).isEmpty then 0 else 1) < 30)) = true := by rfl)
    (hline : (apos.endLine == cpos.line) = true := by rfl) (hs : starEach (e :: es) X.env = (false, eval e X.env) :: starEach es X.env := by rfl) (hplain : (backTo cpos (starEach es X.env)).any (·.1) = false := by rfl) :
    PE X (.Call (.Attribute o name apos) (e :: es) [] cpos) (tBM X.K T r to t) := by
  intro pins s σ H Q I h
  refine wpAny_Call_method_late hbase hfew hline rfl (thn (ho pins s σ H _ I h) fun v s1 ⟨x, H1, I1, r1, ty, q1⟩ => ?_)
  obtain ⟨h1, h2⟩ := tyV_is I1 r1 ty
  refine ⟨T, id, pa, slot, hty, h1, h2, ?_⟩
  have hA := ha cpos pins s1 σ H1 _ I1 q1
  rw [hs] at hA ⊢
  refine Calls.callWith_builtin (by show (false || (backTo cpos (starEach es X.env)).any (·.1)) = false; rw [hplain] <;> rfl) (Calls.evalArgs_plain ?_)
  exact thn hA fun us s2 ⟨vs, H2, I2, r2, q2⟩ => hm pins s2 σ H2 x vs v us Q I2 r1 r2 q2
/- xs.append(e), list.index on a module's tuple .. are MtR facts of 06m -/
end
end L2
namespace L2
open PySem PySem.Spec PyProof.Rows
def MtM (X : Cx) (id : String) (r : V → List V → Hp → VK → Prop) : Prop :=
  ∀ (pins : List (Addr × Obj)) (s : Shared) (σ : St) (H : Hp) (x : V) (xs : List V) (v : Value) (us : List Value) (Q : VK), Inv X pins σ H s → RelV x v → Vals xs us → r x xs H Q →
    wpAny (model X.prog X.w) X.A (call (.builtin id) (v :: us)) (EP X pins σ Q) X.xe s
theorem Vals.one : ∀ {x : V} {us : List Value}, Vals [x] us → ∃ u, us = [u] ∧ RelV x u
  | _, _, .cons r .nil => ⟨_, rfl, r⟩
theorem Vals.zero : ∀ {us : List Value}, Vals [] us → us = []
  | _, .nil => rfl
theorem Vals.dropLast {xs : List V} {us : List Value} (h : Vals xs us) : Vals xs.dropLast us.dropLast := by
  induction h with
  | nil => exact .nil
  | cons r t ih =>
    cases t with
    | nil => exact .nil
    | cons q t' => exact .cons r ih
theorem Vals.reverse {xs : List V} {us : List Value} (h : Vals xs us) : Vals xs.reverse us.reverse := by
  induction h with
  | nil => exact .nil
  | cons r t ih => rw [List.reverse_cons, List.reverse_cons]; exact Vals.append ih (.cons r .nil)
theorem erase_last {α : Type} (l : List α) : l.eraseIdx (l.length - 1) = l.dropLast := by
  induction l with
  | nil => rfl
  | cons a r ih =>
    cases r with
    | nil => rfl
    | cons b r =>
      have e : (a :: b :: r).length - 1 = ((b :: r).length - 1) + 1 := by
        have h1 : (a :: b :: r).length = r.length + 2 := rfl
        have h2 : (b :: r).length = r.length + 1 := rfl
        omega
      rw [e, List.eraseIdx_cons_succ, ih]
      all_goals rfl
section
variable {X : Cx} {pins : List (Addr × Obj)} {σ : St} {H : Hp} {s : Shared} {l b : Addr} {xs ys zs : List V}
theorem Inv.lset {its its' : List Value} {n : Nat} {f : Array Value → Array Value} {t' : Nat} (I : Inv X pins σ H s) (hH : H l = some (.lst xs))
    (e : s.heap.get? l = some { cls := .type "list", data := .seq its.toArray n }) (hf : f its.toArray = its'.toArray) (hv : Vals ys its') (hz : ys.length ≤ sizeLine) :
    Inv X pins σ (upd H l (.lst ys)) { s with heap := s.heap.update l (Obj.mapSeq f), toks := t' } := by
  have q := PySem.IsL.update e f
  rw [hf] at q
  refine I.write (x := l) (e := l) (by rw [hH]; exact trivial) (.inl rfl) (fun b' u hb hu => (Heap.get?_update_other s.heap (Obj.mapSeq f) (Ne.symm hb)).trans hu) ⟨_, q⟩ ?_
  exact ⟨hz, its', _, hv, q⟩
theorem Inv.lnew {its : List Value} {t' : Nat} (I : Inv X pins σ H s) (hv : Vals ys its) (hz : ys.length ≤ sizeLine) :
    Inv X pins σ (upd H s.heap.objs.size (.lst ys)) { s with heap := s.heap.push { cls := .type "list", data := .seq its.toArray }, toks := t' } :=
  I.laid (fun _ _ q => Heap.get?_push_of_some _ q) (Nat.le_refl _) ⟨hz, its, 0, hv, Heap.get?_push_size _ rfl⟩
theorem Inv.fresh (I : Inv X pins σ H s) : H s.heap.objs.size = none := I.hok.fresh (Nat.le_refl _)
theorem Inv.lstM (I : Inv X pins σ H s) (hH : H l = some (.lst xs)) : xs.length ≤ sizeLine ∧ ∃ (its : List Value) (n : Nat), Vals xs its ∧ xs.length = its.length ∧ s.heap.get? l = some { cls := .type "list", data := .seq its.toArray n } := by
  obtain ⟨z, its, n, r, e⟩ := I.hok l _ hH
  exact ⟨z, its, n, r, r.length, e⟩
end
section
variable {X : Cx}
def rAppend : V → List V → Hp → VK → Prop := fun x vs H Q => ∃ l xs y, x = .ref l ∧ vs = [y] ∧ H l = some (.lst xs) ∧ xs.length < sizeLine ∧ Q .non (upd H l (.lst (xs ++ [y])))
theorem mt_append : MtM X "list.append" rAppend := by
  intro pins s σ H x vs v us Q I rx rv h
  obtain ⟨l, xs, y, rfl, rfl, hH, hz, q⟩ := h
  cases rx
  obtain ⟨u, rfl, ru⟩ := rv.one
  obtain ⟨z, its, n, r, hl, e⟩ := I.lstM hH
  refine call_meets F.slot_list_append ⟨_, e, rfl⟩ F.entry_list_append (F.args_list_append_2 _ _) (PySem.list_append l its.toArray n u (by rw [List.size_toArray]; omega)) ⟨e, ?_⟩
  refine ⟨.non, _, I.lset (its' := its ++ [u]) hH e (by simp) (r.append (.cons ru .nil)) ?_, rfl, q⟩
  rw [List.length_append, List.length_singleton]
  omega
def rPop : V → List V → Hp → VK → Prop := fun x vs H Q => ∃ l xs y, x = .ref l ∧ vs = [] ∧ H l = some (.lst xs) ∧ xs[xs.length - 1]? = some y ∧ Q y (upd H l (.lst xs.dropLast))
theorem mt_pop : MtM X "list.pop" rPop := by
  intro pins s σ H x vs v us Q I rx rv h
  obtain ⟨l, xs, y, rfl, rfl, hH, hy, q⟩ := h
  cases rx
  have hus := rv.zero
  subst hus
  obtain ⟨z, its, n, r, hl, e⟩ := I.lstM hH
  obtain ⟨u, hu, ru⟩ := r.get hy
  have hy' : its.toArray[its.toArray.size - 1]? = some u := by
    show its.toArray[its.length - 1]? = some u
    rw [← Array.getElem?_toList, ← hl]
    exact hu
  refine call_meets F.slot_list_pop ⟨_, e, rfl⟩ F.entry_list_pop (F.args_list_pop_1 _) (MeetsSeq.list_pop_last l its.toArray n u hy' (by rw [List.size_toArray]; omega)) ⟨e, ?_⟩
  refine ⟨y, _, I.lset (its' := its.dropLast) hH e ?_ r.dropLast ?_, ru, q⟩
  · show its.toArray.eraseIdxIfInBounds (its.toArray.size - 1) = its.dropLast.toArray
    rw [List.size_toArray, List.eraseIdxIfInBounds_toArray, erase_last]
  · rw [List.length_dropLast]
    omega
def rReverse : V → List V → Hp → VK → Prop := fun x vs H Q => ∃ l xs, x = .ref l ∧ vs = [] ∧ H l = some (.lst xs) ∧ Q .non (upd H l (.lst xs.reverse))
theorem mt_reverse : MtM X "list.reverse" rReverse := by
  intro pins s σ H x vs v us Q I rx rv h
  obtain ⟨l, xs, rfl, rfl, hH, q⟩ := h
  cases rx
  have hus := rv.zero
  subst hus
  obtain ⟨z, its, n, r, hl, e⟩ := I.lstM hH
  refine call_meets F.slot_list_reverse ⟨_, e, rfl⟩ F.entry_list_reverse (F.args_list_reverse_1 _) (AutoSeq1.list_reverse_list_0 l its.toArray n (by rw [List.size_toArray]; omega)) ⟨e, ?_⟩
  refine ⟨.non, _, I.lset (its' := its.reverse) hH e (by simp) r.reverse ?_, rfl, q⟩
  rw [List.length_reverse]
  omega
end
section
variable {prog : Program} {w : World} {A : Around} {E : Value → Shared → Prop} {s : Shared}
end
section
variable {X : Cx}
end
end L2
namespace Att
open PySem PySem.W PySem.Calls PyProof.Rows
theorem ints_of_wellAll {P : Params} {h : Heap} : ∀ (ns : List Int) (vs : List Value), WellAll P h vs (ns.map WData.int) → IntsAre vs ns := by
  intro ns
  induction ns with
  | nil =>
    intro vs w
    rw [List.map_nil] at w
    cases w
    exact .nil
  | cons n ns ih =>
    intro vs w
    rw [List.map_cons] at w
    cases w with
    | cons a b =>
      cases a
      exact .cons _ _ (ih _ b)
theorem script_of {l : OpenLaw} {n : Nat} (hn : l.most = some n) {P : Params} {h : Heap} {args : List WData} {vals : List Value}
    (hpre : l.row.toRowW.claim.pre args = true) (hwl : WellAll P h vals args) :
    ∃ a vs ns, vals = [Value.ref a] ∧ args = [WData.list (ns.map WData.int)] ∧ h.get? a = some { cls := .type "list", data := .seq vs.toArray } ∧ IntsAre vs ns ∧ ns.length ≤ n := by
  have hsh : WShape.hasAll [] args [.list .int] = true := (pre_splitW hpre).1
  have hc : l.pre.holds [] { args := args } = true := (pre_splitW hpre).2
  obtain ⟨d, r, rfl, h1, h2⟩ := hasAllW_cons hsh
  obtain rfl := hasAllW_nil h2
  obtain ⟨xs, rfl, h3⟩ := hasW_list h1
  obtain ⟨ns, rfl⟩ := items_int h3
  have hlen : ns.length ≤ n := by
    unfold OpenLaw.pre at hc
    have h4 : (WTm.not (.lt (.lit (.int (n : Int))) (.len (.arg 0)))).holds [] { args := [.list (ns.map .int)] } = true := by
      have h4 := (holds_andW hc).1
      rw [hn] at h4
      exact h4
    have h5 := condW_of h4 (w_not (w_lt w_lit (w_len_list (w_arg rfl))))
    rw [List.length_map] at h5
    refine Nat.le_of_not_lt fun q => ?_
    have q' : (n : Int) < ((ns.length : Nat) : Int) := by omega
    first
      | (rw [decide_eq_true q'] at h5; exact absurd h5 (by decide))
      | (simp at h5; omega)
  cases hwl with
  | cons w1 w2 =>
    cases w2
    cases w1 with
    | list ho hall => exact ⟨_, _, ns, rfl, rfl, ho, ints_of_wellAll ns _ hall, hlen⟩
theorem post_true (l : OpenLaw) (args : List WData) : l.row.toRowW.claim.post args (.bool true) args = true :=
  postW_of (r := l.row.toRowW) (X := (true == true))
    (show WShape.has [] (.bool true) .bool = true by first | rfl | decide | simp [WShape.has, WShape.arms, WShape.armsAll])
    (show (WTm.eq .res (.lit (.bool true))).value [] { args := args, res := some (.bool true), after := args } = some (.bool (true == true)) from w_eq_bool (w_res rfl) w_lit) rfl
theorem attach_call {l : OpenLaw} {n : Nat} {q : Program} {loose : List Str} {XP : (Str → Option Value) → Heap → Prop} {YP : World → Heap → Prop} {d : DefRec}
    (hn : l.most = some n) (hdf : d.params.defaults = [])
    (call : ∀ (w : World) (s₀ s₁ : Shared) (mg mb : Str → Option Value) (fa : Addr) (o : Obj) (pm cd doc : Value) (a : Addr) (vs : List Value) (ns : List Int),
      Ground q loose [] XP w s₀ mg mb s₁.heap → YP w s₁.heap →
      s₁.heap.get? fa = some o → o.data = .func (docDef d.name d.params d.body d.scope pm cd doc) → s₁.heap.CodeRec cd d.name → mg d.name = some (.ref fa) →
      s₁.heap.get? a = some { cls := .type "list", data := .seq vs.toArray } → IntsAre vs ns → ns.length ≤ n → s₁.gens = #[] →
      codeAny (model l.prog w) callerA (.call (.ref fa) ⟨[.ref a], []⟩) (fun r s' => r = .ok (.ret (.bool true)) ∧ OldK s₁.heap s'.heap ∧ s'.os = s₁.os ∧ AllBare s'.gens) s₁) :
    WalkO q loose XP YP l.row.toRowW d [] (fun f vs => PySem.call f vs) := by
  intro w s₀ s₁ mg mb G Y fa o pm cd doc dV kV ho hd hcd hD hmg hg args vals as hpre hlay hrd hwl hlo
  obtain rfl : dV = .none := Dflts.none hD hdf
  obtain rfl : kV = .none := Dflts.noKw hD
  obtain ⟨a, vs, ns, rfl, rfl, hobj, hints, hlen⟩ := script_of hn hpre hwl
  refine enter_call (codeAny_mono (call w s₀ s₁ mg mb fa o pm cd doc a vs ns G Y ho (fd_plain hd) hcd hmg hobj hints hlen hg) fun r s' hq => ?_)
  obtain ⟨rfl, h2, h3, h4⟩ := hq
  exact ⟨.inl ⟨.bool true, .bool true, [], rfl, fun _ => rfl, .bool true, post_true l _, fun _ => ⟨List.Pairwise.nil, fun _ hm => (nomatch hm)⟩⟩, h2, h3, h4⟩
section
variable {prog : Program} {w : World} {A : Around} {E : Value → Shared → Prop} {s : Shared} {K : Frag}
end
end Att
namespace L2
open PySem PySem.Spec PyProof.Rows
theorem vals_ints : ∀ {vs : List Value} {ns : List Int}, IntsAre vs ns → Vals (ns.map V.int) vs
  | _, _, .nil => .nil
  | _, _, .cons n t h => .cons ⟨t, rfl⟩ (vals_ints h)
def Only (H : Hp) : Prop := ∀ b, H b = none ∨ ∃ o xs, H b = some (.frz o (.lst xs))
theorem law_call {P : Program} {w : World} {K : PySem.W.Frag} {mg mb : Str → Option Value} {CX : CXT} {k : Nat} {fa a : Addr} {fd : FuncData} {x : Str} {sp : Sp} {s₁ : Shared} {vs : List Value} {ns : List Int}
    (KX : K.In s₁.heap) (hns : s₁.heap.Ns mainGlobals mg) (hb : s₁.heap.Ns builtinsNs mb) (hbb : ∀ x : Str, x ≠ "__name__" → mb x = bootBuiltins x) (hlim : s₁.heap.NoLimit) (hg : s₁.gens = #[])
    (ha : s₁.heap.get? a = some { cls := .type "list", data := .seq vs.toArray }) (hi : IntsAre vs ns) (hl : ns.length ≤ sizeLine) (hr : Room k callerA)
    (F : ∀ base : Heap, K.In base → base.Ns mainGlobals mg → FnOk P w K mg base CX k fa fd [x] sp) (hbind : ∀ (s : Shared) (u : Value), BindsTo s fd ⟨[u], []⟩ [(x, u)])
    (hsp : ∀ H : Hp, Only H → SqL K H a (ns.map V.int) → sp [.ref a] H (fun v _ => v = .bl true) fun _ _ _ => False)
    (hCX : ∀ H e s', CX [] H s₁ (fun _ _ _ => False) e s' → False) :
    codeAny (model P w) callerA (.call (.ref fa) ⟨[.ref a], []⟩) (fun r s' => r = .ok (.ret (.bool true)) ∧ OldK s₁.heap s'.heap ∧ s'.os = s₁.os ∧ AllBare s'.gens) s₁ := by
  have rv := vals_ints hi
  have lenV := hi.length
  have core : ∀ H : Hp, Only H → SqL K H a (ns.map V.int) → HOk P w H s₁.heap → (∀ b, H b ≠ none → b = a) → (H a ≠ none → K.lookup a = none) →
      codeAny (model P w) callerA (.call (.ref fa) ⟨[.ref a], []⟩) (fun r s' => r = .ok (.ret (.bool true)) ∧ OldK s₁.heap s'.heap ∧ s'.os = s₁.os ∧ AllBare s'.gens) s₁ := by
    intro H hO hS hok hA hK
    have base_of : ∀ {b : Addr} {o : Obj}, s₁.heap.get? b = some o → H b = none → (hidT s₁.heap H).get? b = some o := fun e n => hidT_get e n
    have noA : ∀ {b : Addr} {o : Obj} {es : Array DictEntry} {ep : Nat}, s₁.heap.get? b = some o → o.data = .dict es ep → H b = none := fun {b o es ep} e d => by
      cases q : H b with
      | none => rfl
      | some u =>
        have e' : b = a := hA b (by rw [q]; simp)
        subst e'
        rw [ha] at e; cases e
        have d' : Data.seq vs.toArray _ = Data.dict es ep := d
        cases d'
    have nsK : ∀ {b : Addr} {m : Str → Option Value}, s₁.heap.Ns b m → (hidT s₁.heap H).Ns b m := fun {b m} ⟨o, es, ep, e, d, r⟩ => ⟨o, es, ep, base_of e (noA e d), d, r⟩
    have hKb : K.In (hidT s₁.heap H) := fun b o e => base_of (KX b o e) (by
      cases q : H b with
      | none => rfl
      | some u =>
        have e' : b = a := hA b (by rw [q]; simp)
        subst e'
        rw [hK (by rw [q]; simp)] at e; cases e)
    have hM : Mod K mg (hidT s₁.heap H) := ⟨hKb, nsK hns, ⟨mb, nsK hb, hbb⟩, let ⟨mc, h1, h2⟩ := hlim; ⟨mc, nsK h1, h2⟩⟩
    have e0 : Env0 P w K mg (hidT s₁.heap H) callerA [] s₁ H := ⟨rfl, hM, fun b o e => of_hidT e, Nat.le_of_eq (hidT_size _ _), trivial, fun b hb => absurd (show b ∈ ([] : List Addr) from hb) (by simp), hok, .of_eq hg⟩
    refine codeAny_mono ((F _ hKb (nsK hns)).run callerA [] s₁ H ⟨[.ref a], []⟩ [.ref a] [.ref a] _ _ hr e0 (hbind s₁ (.ref a)) (.cons rfl .nil) (hsp H hO hS)) fun r s' h => ?_
    cases r with
    | error e => exact (hCX H e s' h).elim
    | ok fl =>
      cases fl with
      | next => exact False.elim h
      | brk => exact False.elim h
      | cont => exact False.elim h
      | ret u =>
        obtain ⟨v, H', os, bare, un, hok', r', q⟩ := h
        have q' : v = .bl true := q
        subst q'
        obtain rfl : u = Value.bool true := r'
        refine ⟨rfl, OldK.of_keep fun b o e => ?_, os, bare⟩
        cases q : H b with
        | none => exact un.keep b o e q (by intro z; exact absurd (show b ∈ ([] : List Addr) from z) (by simp)) (by simp)
        | some u =>
          rcases hO b with z | ⟨ob, xs, z⟩
          · rw [q] at z; cases z
          · have z2 := un.frzs b ob _ z
            obtain ⟨e1, _⟩ := hok b _ z
            obtain ⟨e2, _⟩ := hok' b _ z2
            rw [e] at e1; cases e1
            exact e2
  cases hk : K.lookup a with
  | some o =>
    have e := KX a o hk
    rw [ha] at e
    cases e
    refine core (fun _ => none) (fun _ => .inl rfl) (.inr ⟨_, vs.toArray, _, hk, rfl, rfl, rfl, by rw [List.size_toArray, lenV]; exact hl, by simpa using rv⟩) (fun b u z => by have z' : (none : Option HO) = some u := z; cases z') (fun b z => absurd rfl z) fun z => absurd rfl z
  | none =>
    refine core (fun b => if b = a then some (.frz { cls := .type "list", data := .seq vs.toArray } (.lst (ns.map V.int))) else none) (fun b => ?_) (.inl (.inr ⟨{ cls := .type "list", data := .seq vs.toArray }, if_pos rfl⟩)) (fun b u z => ?_) (fun b z => ?_) fun _ => hk
    · by_cases hb : b = a
      · exact .inr ⟨_, _, if_pos hb⟩
      · exact .inl (if_neg hb)
    · by_cases hb : b = a
      · have z' := (if_pos hb).symm.trans z
        cases z'
        subst hb
        exact ⟨ha, by rw [List.length_map]; exact hl, vs, _, rv, ha⟩
      · have z' := (if_neg hb).symm.trans z
        cases z'
    · by_cases hb : b = a
      · exact hb
      · exact absurd (if_neg hb) z
end L2
namespace L2
open PySem PySem.Spec PyProof.Rows
theorem walk_of {l : PySem.W.OpenLaw} {n k : Nat} {q : Program} {loose : List Str} {XP : (Str → Option Value) → Heap → Prop} {YP : World → Heap → Prop} {d : DefRec} {K : Params → PySem.W.Frag} {CX : World → CXT} {sp : World → Sp} {x : Str}
    (hn : l.most = some n) (hn2 : n ≤ sizeLine) (hdf : d.params.defaults = []) (hr : Room k callerA)
    (hY : ∀ (w : World) (h : Heap), YP w h → (K w.params).In h)
    (F : ∀ (w : World) (mg : Str → Option Value) (fa : Addr) (h : Heap), (K w.params).In h → h.Ns mainGlobals mg → mg d.name = some (.ref fa) →
      ∃ fd : FuncData, (∀ (s : Shared) (u : Value), BindsTo s fd ⟨[u], []⟩ [(x, u)]) ∧
        ∀ base : Heap, (K w.params).In base → base.Ns mainGlobals mg → FnOk l.prog w (K w.params) mg base (CX w) k fa fd [x] (sp w))
    (hsp : ∀ (w : World) (H : Hp) (a : Addr) (ns : List Int), ns.length ≤ n → Only H → SqL (K w.params) H a (ns.map V.int) → sp w [.ref a] H (fun v _ => v = .bl true) fun _ _ _ => False)
    (hCX : ∀ (w : World) (H : Hp) (s : Shared) (e : Value) (s' : Shared), CX w [] H s (fun _ _ _ => False) e s' → False) :
    PySem.W.WalkO q loose XP YP l.row.toRowW d [] (fun f vs => PySem.call f vs) := by
  refine Att.attach_call hn hdf fun w s₀ s₁ mg mb fa o pm cd doc a vs ns G Y ho hd hcd hmg hobj hints hlen hg => ?_
  have KX := hY w _ Y
  obtain ⟨fd, hb, hF⟩ := F w mg fa _ KX G.T.g hmg
  exact law_call KX G.T.g G.T.b G.T.builtins G.T.nolimit hg hobj hints (Nat.le_trans hlen hn2) hr hF hb (fun H hO hS => hsp w H a ns hlen hO hS) fun H e s' => hCX w H s₁ e s'
end L2
namespace L2
open PySem PySem.Spec PyProof.Rows
def inClass (s : Stmt) (j : Nat) : Stmt := match s with
  | .ClassDef _ _ _ body _ _ _ _ _ _ _ => body.getD j (.Pass ⟨0, 0, 0, 0⟩)
  | _ => .Pass ⟨0, 0, 0, 0⟩
def defArgs (s : Stmt) : Arguments := match s with
  | .FunctionDef _ a _ _ _ _ _ _ _ _ => a
  | _ => { posonlyargs := [], args := [], vararg := none, kwonlyargs := [], kw_defaults := [], kwarg := none, defaults := [] }
def defBody (s : Stmt) : List Stmt := match s with
  | .FunctionDef _ _ b _ _ _ _ _ _ _ => b
  | _ => []
def defScope (s : Stmt) : Scope := match s with
  | .FunctionDef _ _ _ _ _ _ sc _ _ _ => sc
  | _ => { kind := .function, names := [], isGenerator := false, isCoroutine := false }
abbrev CX0 : CXT := fun _ _ _ _ _ _ => False
abbrev E0 : XK := fun _ _ _ => False
theorem pass0 {X : Cx} : Passes CX0 X E0 := fun _ _ _ _ _ _ _ h => h.elim
structure Fun (K : PySem.W.Frag) (x qual : Str) (st : Stmt) (f : Addr) (fd : FuncData) : Prop where
  ex : ∃ (oc : Value) (od : Option Addr) (kV doc pm : Value) (an : Option Addr) (cdv ct : Value) (osl : Array (Option Value)),
    fd = PySem.W.fnOf x qual (defArgs st) (defBody st) (defScope st) .none kV doc pm an cdv ct ∧ K.lookup f = some ⟨oc, od, .func fd, osl⟩ ∧ PySem.W.codeIn K cdv qual = true
  kp : PySem.W.keepIn K (.ref f) = true
section
variable {P : Program} {w : World} {K : PySem.W.Frag} {mg : Str → Option Value} {base : Heap}
theorem Fun.ok {x qual : Str} {st : Stmt} {f : Addr} {fd : FuncData} {N ps : List Str} {k : Nat} {sp : Sp} (F : Fun K x qual st f fd) (S : FnScope N ps (defScope st)) (len : ∀ vs H Q E, sp vs H Q E → vs.length = ps.length)
    (hbody : ∀ (cdv : Value) (A : Around) (outer : List Env) (s : Shared) (H : Hp) (vs : List V) (Q : VK) (E : XK), Room k (A.deeper (envOfC qual (defScope st) s.heap.objs.size f cdv)) → sp vs H Q E →
      ∃ t, PSs (cxOf CX0 P w K mg base N qual (defScope st) f cdv A outer s H E).nox (defBody st) t ∧ t { nx := fun _ H' => Q .non H', rt := Q } (start N vs) H) : FnOk P w K mg base CX0 (k + 1) f fd ps sp := by
  obtain ⟨oc, od, kV, doc, pm, an, cdv, ct, osl, rfl, lk, hcd⟩ := F.ex
  refine fn_of lk hcd S len fun A outer s H vs Q E hr hsp => ?_
  obtain ⟨t, h, q⟩ := hbody cdv A outer s H vs Q E hr hsp
  exact ⟨t, h.nox, q⟩
theorem Fun.binds {x qual : Str} {st : Stmt} {f : Addr} {fd : FuncData} {ps : List Str} (F : Fun K x qual st f fd)
    (h : ∀ (kV doc pm : Value) (an : Option Addr) (cdv ct : Value) (us : List Value), us.length = ps.length → bindArgs (PySem.W.fnOf x qual (defArgs st) (defBody st) (defScope st) .none kV doc pm an cdv ct) ⟨us, []⟩ = pure (ps.zip us)) : Binds K fd ps [] := by
  obtain ⟨oc, od, kV, doc, pm, an, cdv, ct, osl, rfl, lk, hcd⟩ := F.ex
  exact .all (h kV doc pm an cdv ct)
theorem fun_mk {x qual : Str} {st : Stmt} {f : Addr} {oc : Value} {od an : Option Addr} {osl : Array (Option Value)} {kV doc pm cdv ct : Value} (l : K.lookup f = some ⟨oc, od, .func (PySem.W.fnOf x qual (defArgs st) (defBody st) (defScope st) .none kV doc pm an cdv ct), osl⟩)
    (c : PySem.W.codeIn K cdv qual = true) (k : PySem.W.keepIn K (.ref f) = true) : Fun K x qual st f (PySem.W.fnOf x qual (defArgs st) (defBody st) (defScope st) .none kV doc pm an cdv ct) := ⟨⟨oc, od, kV, doc, pm, an, cdv, ct, osl, rfl, l, c⟩, k⟩
end
section
variable {X : Cx}
theorem pv (i : Nat) {x : Str} {pos : Pos} (hN : X.N[i]? = some x := by rfl) (hv : Vis X.env.scope x := by first | exact Or.inl rfl | exact Or.inr (Or.inl rfl) | exact Or.inr (Or.inr rfl)) (hd : (x == ("__debug__" : Str)) = false := by decide)
    (hcd : (x == ("__classdict__" : Str)) = false := by decide) : PE X (.Name x pos) (tVar i) := pe_var hN hv hd hcd
end
end L2
namespace My
def Bd (n : Nat) (x : Int) : Prop := x.natAbs < 2 ^ n
theorem Bd.mono {m n : Nat} {x : Int} (h : Bd m x) (hmn : m ≤ n) : Bd n x := Nat.lt_of_lt_of_le h (Nat.pow_le_pow_right (by decide) hmn)
theorem Bd.add {n : Nat} {x y : Int} (h : Bd n x) (h' : Bd n y) : Bd (n + 1) (x + y) := by
  unfold Bd at *; rw [Nat.pow_succ]; omega
theorem Bd.sub {n : Nat} {x y : Int} (h : Bd n x) (h' : Bd n y) : Bd (n + 1) (x - y) := by
  unfold Bd at *; rw [Nat.pow_succ]; omega
theorem Bd.neg {n : Nat} {x : Int} (h : Bd n x) : Bd n (-x) := by unfold Bd at *; omega
theorem Bd.mul {m n : Nat} {x y : Int} (h : Bd m x) (h' : Bd n y) : Bd (m + n) (x * y) := by
  unfold Bd at *; rw [Int.natAbs_mul, Nat.pow_add]; exact Nat.mul_lt_mul'' h h'
theorem Bd.of_le {n : Nat} {x y : Int} (h : Bd n y) (h' : x.natAbs ≤ y.natAbs) : Bd n x := Nat.lt_of_le_of_lt h' h
theorem Bd.dvd {n : Nat} {x y : Int} (h : Bd n y) (h0 : y ≠ 0) (d : x ∣ y) : Bd n x :=
  h.of_le (Nat.le_of_dvd (by omega) (Int.natAbs_dvd_natAbs.mpr d))
theorem Bd.fdiv {n : Nat} {x y : Int} (h : Bd n x) : Bd n (x.fdiv y) := h.of_le (Int.natAbs_fdiv_le_natAbs x y)
theorem Bd.mulH {n : Nat} {x y : Int} (h : Bd (n / 2) x) (h' : Bd (n / 2) y) : Bd n (x * y) := (h.mul h').mono (by omega)
theorem Bd.lit {n : Nat} {x : Int} (h : x.natAbs < 2 ^ 200) (hn : 200 ≤ n) : Bd n x := Bd.mono (m := 200) h hn
theorem gcd_fmod (a b : Int) : Int.gcd b (a.fmod b) = Int.gcd a b := by
  have e : a.fmod b = a - b * a.fdiv b := by have := Int.mul_fdiv_add_fmod a b; omega
  rw [e, Int.gcd_sub_mul_left_right, Int.gcd_comm]
theorem fmod_lt_abs {a b : Int} (h : b ≠ 0) : (a.fmod b).natAbs < b.natAbs := by
  rcases Int.lt_or_gt_of_ne h with h1 | h1
  · have e : (-(-a)).fmod (-(-b)) = -((-a).fmod (-b)) := Int.neg_fmod_neg (-a) (-b)
    rw [Int.neg_neg, Int.neg_neg] at e
    have h2 := Int.fmod_nonneg_of_pos (-a) (b := -b) (by omega)
    have h3 := Int.fmod_lt_of_pos (-a) (b := -b) (by omega)
    omega
  · have := Int.fmod_nonneg_of_pos a h1
    have := Int.fmod_lt_of_pos a h1
    omega
def gd (t b : Int) : Int := if b < 0 then -((Int.gcd t b : Nat) : Int) else ((Int.gcd t b : Nat) : Int)
def frT (t b : Int) : Int := t.fdiv (gd t b)
def frB (t b : Int) : Int := b.fdiv (gd t b)
theorem gd_ne {t b : Int} (h : b ≠ 0) : gd t b ≠ 0 := by
  have : Int.gcd t b ≠ 0 := fun e => h (Int.gcd_eq_zero_iff.mp e).2
  unfold gd; split <;> omega
theorem gd_dvd_left (t b : Int) : gd t b ∣ t := by
  unfold gd; split
  · exact Int.neg_dvd.mpr (Int.gcd_dvd_left ..)
  · exact Int.gcd_dvd_left ..
theorem gd_dvd_right (t b : Int) : gd t b ∣ b := by
  unfold gd; split
  · exact Int.neg_dvd.mpr (Int.gcd_dvd_right ..)
  · exact Int.gcd_dvd_right ..
theorem frT_mul (t b : Int) : frT t b * gd t b = t := Int.fdiv_mul_cancel (gd_dvd_left t b)
theorem frB_mul (t b : Int) : frB t b * gd t b = b := Int.fdiv_mul_cancel (gd_dvd_right t b)
theorem fr_cross (t b : Int) : frT t b * b = frB t b * t := by
  have h1 := frT_mul t b
  have h2 := frB_mul t b
  generalize frT t b = x at *
  generalize frB t b = y at *
  generalize gd t b = g at *
  subst h1 h2
  rw [Int.mul_comm y g, ← Int.mul_assoc, Int.mul_comm (x * g) y]
theorem frB_pos {t b : Int} (h : b ≠ 0) : 1 ≤ frB t b := by
  have h2 := frB_mul t b
  have h3 : gd t b ≠ 0 := gd_ne h
  have h4 : 0 < b → 0 < gd t b := by
    intro hb; unfold gd at *; split <;> omega
  have h5 : b < 0 → gd t b < 0 := by
    intro hb; unfold gd at *; split <;> omega
  generalize frB t b = y at *
  generalize gd t b = g at *
  rcases Int.lt_or_gt_of_ne h with hb | hb
  · have hg := h5 hb
    rcases Int.lt_or_le y 1 with hy | hy
    · have : 0 ≤ y * g := Int.mul_nonneg_of_nonpos_of_nonpos (by omega) (by omega)
      omega
    · exact hy
  · have hg := h4 hb
    rcases Int.lt_or_le y 1 with hy | hy
    · have : y * g ≤ 0 := Int.mul_nonpos_of_nonpos_of_nonneg (by omega) (by omega)
      omega
    · exact hy
theorem fr_gcd {t b : Int} (h : b ≠ 0) : Int.gcd (frT t b) (frB t b) = 1 := by
  have h0 : 0 < Int.gcd t b := Nat.pos_of_ne_zero fun e => h (Int.gcd_eq_zero_iff.mp e).2
  have h1 := frT_mul t b
  have h2 := frB_mul t b
  have e : Int.gcd (frT t b * gd t b) (frB t b * gd t b) = Int.gcd (frT t b) (frB t b) * (gd t b).natAbs := Int.gcd_mul_right ..
  rw [h1, h2] at e
  have e2 : (gd t b).natAbs = Int.gcd t b := by unfold gd; split <;> omega
  rw [e2] at e
  exact Nat.eq_of_mul_eq_mul_right h0 (by omega)
theorem dvd_of_gcd {k n m : Int} (h : k ∣ n * m) (g : Int.gcd k n = 1) : k ∣ m := by
  have := Int.dvd_gcd_mul_iff_dvd_mul.mpr h
  rw [g] at this
  simpa using this
theorem least_unique {x y u v : Int} (hy : 1 ≤ y) (hv : 1 ≤ v) (g1 : Int.gcd x y = 1) (g2 : Int.gcd u v = 1) (e : x * v = y * u) : x = u ∧ y = v := by
  have d1 : y ∣ v := by
    have : y ∣ x * v := ⟨u, by rw [e]⟩
    exact dvd_of_gcd this (by rw [Int.gcd_comm]; exact g1)
  have d2 : v ∣ y := by
    have : v ∣ u * y := ⟨x, by rw [Int.mul_comm u y, ← e, Int.mul_comm]⟩
    exact dvd_of_gcd this (by rw [Int.gcd_comm]; exact g2)
  have e2 : y = v := Int.le_antisymm (Int.le_of_dvd (by omega) d1) (Int.le_of_dvd (by omega) d2)
  subst e2
  refine ⟨?_, rfl⟩
  rw [Int.mul_comm y u] at e
  exact Int.eq_of_mul_eq_mul_right (by omega) e
theorem fr_unique {t b u v : Int} (h : b ≠ 0) (hv : 1 ≤ v) (g : Int.gcd u v = 1) (e : u * b = v * t) : frT t b = u ∧ frB t b = v := by
  refine least_unique (frB_pos h) hv (fr_gcd h) g ?_
  have h1 := frT_mul t b
  have h2 := frB_mul t b
  have h3 := gd_ne (t := t) h
  generalize frT t b = x at *
  generalize frB t b = y at *
  generalize gd t b = k at *
  subst h1 h2
  have : (x * v - y * u) * k = 0 := by grind
  rcases Int.mul_eq_zero.mp this with h | h
  · omega
  · exact absurd h h3
theorem fr_same {t b t' b' : Int} (h : b ≠ 0) (h' : b' ≠ 0) (e : t * b' = t' * b) : frT t b = frT t' b' ∧ frB t b = frB t' b' := by
  refine fr_unique h (frB_pos h') (fr_gcd h') ?_
  have c := fr_cross t' b'
  generalize frT t' b' = u at *
  generalize frB t' b' = v at *
  have : (u * b - v * t) * b' = 0 := by grind
  rcases Int.mul_eq_zero.mp this with h | h
  · omega
  · exact absurd h h'
theorem gd_bd {n : Nat} {t b : Int} (h : b ≠ 0) (hb : Bd n b) : Bd n (gd t b) := hb.dvd h (gd_dvd_right t b)
theorem frB_bd {n : Nat} {t b : Int} (hb : Bd n b) : Bd n (frB t b) := hb.fdiv
theorem frT_bd {n : Nat} {t b : Int} (hb : Bd n t) : Bd n (frT t b) := hb.fdiv
end My
namespace My
open PySem PySem.Spec PyProof.Rows L2
def CDivB (_ j : Int) : Prop := j ≠ 0 ∧ Bd 8000 j
def CModN (_ j : Int) : Prop := j ≠ 0
theorem log2_of_bd {j : Int} (h : Bd 8000 j) : j.natAbs.log2 < 9000 := by
  rcases Nat.eq_zero_or_pos j.natAbs with e | e
  · rw [e]; decide
  · have : j.natAbs.log2 < 8000 := (Nat.log2_lt (Nat.ne_of_gt e)).mpr h
    omega
theorem bits_of_bd {j : Int} (h : Bd 8000 j) : Builtin.Int.intBits j ≤ 2 ^ 20 := by
  unfold Builtin.Int.intBits
  split
  · exact Nat.zero_le _
  · have := log2_of_bd h
    omega
section
variable {X : Cx}
theorem op_fdivB : OpR X (binaryOp .FloorDiv) (rI CDivB fun i j => .int (i.fdiv j)) := opI fun _ _ _ _ _ _ _ hc q => floordiv_int hc.1 q (.inl (PyProof.noPylong_of_log2 (log2_of_bd hc.2)))
theorem op_modB : OpR X (binaryOp .Mod) (rI CModN fun i j => .int (i.fmod j)) := op_modN
def rB0 (g : Bool → Bool → V) : R2 := fun x y H Q => ∃ i j, x = .bl i ∧ y = .bl j ∧ Q (g i j) H
theorem pe_powc {i j : Int} {a b : Nat} {p1 p2 pos : Pos} (c : Int) (h : i ^ j.toNat = c) (h0 : 0 ≤ j ∧ j ≤ 1000000 ∧ i.natAbs < 2 ^ 64) : PE X (.BinOp (.Constant (.int i) a p1) .Pow (.Constant (.int j) b p2) pos) (tC (.int c)) := by
  intro pins s σ H Q I q
  have q' : Q (.int c) H := q
  rw [← h] at q'
  exact pe_op op_pow pe_int pe_int pins s σ H Q I ⟨i, j, rfl, rfl, h0, q'⟩
def rAbs : List V → Hp → VK → Prop := fun xs H Q => ∃ i, xs = [.int i] ∧ Q (.int (i.natAbs : Int)) H
theorem call_absR : CallR X (.builtin "abs") rAbs := fun pins s σ H xs us Q I r h => by
  obtain ⟨i, e, q⟩ := h
  refine call_abs pins s σ H xs us Q I r ⟨i, e, ?_⟩
  have : (if i < 0 then -i else i) = (i.natAbs : Int) := by split <;> omega
  rw [this]; exact q
def rLen (K : PySem.W.Frag) : List V → Hp → VK → Prop := fun xs H Q => ∃ p ys, xs = [.ref p] ∧ (SqL K H p ys ∨ SqT K H p ys) ∧ Q (.int ys.length) H
theorem call_lenR : CallR X (.builtin "len") (rLen X.K) := call_len_seq
def rList (K : PySem.W.Frag) : List V → Hp → VK → Prop := fun xs H Q => ∃ p ys, xs = [.ref p] ∧ (SqL K H p ys ∨ SqT K H p ys) ∧ ∀ l, H l = none → Q (.ref l) (upd H l (.lst ys))
theorem call_listR : CallR X (.type "list") (rList X.K) := call_list_of
def rMax : List V → Hp → VK → Prop := fun xs H Q => ∃ i j, xs = [.int i, .int j] ∧ Q (.int (if j > i then j else i)) H
theorem call_maxR (hc : X.calm = true) : CallR X (.builtin "max") rMax := call_max2 hc
def rMin : List V → Hp → VK → Prop := fun xs H Q => ∃ i j, xs = [.int i, .int j] ∧ Q (.int (if j < i then j else i)) H
theorem call_minR (hc : X.calm = true) : CallR X (.builtin "min") rMin := call_min2 hc
end
section
variable {X : Cx} {K : PySem.W.Frag}
end
structure Got (P : Program) (w : World) (K : PySem.W.Frag) (mg : Str → Option Value) (base : Heap) (k : Nat) (x : Str) (ps : List Str) (sp : Sp) : Prop where
  ex : ∃ f fd, FnOk P w K mg base CX0 k f fd ps sp ∧ Binds K fd ps [] ∧ PySem.W.keepIn K (.ref f) = true ∧ mg x = some (.ref f)
theorem pe_got {X : Cx} {k j : Nat} {x : Str} {ps : List Str} {sp : Sp} {p pos : Pos} {e : Expr} {es : List Expr} {t : TA} (G : Got X.prog X.w X.K X.mg X.base k x ps sp) (hr : Room j X.A) (hk : k ≤ j) (hg : Gl X x)
    (ha : PA X (e :: es) t) (hdb : (x == ("__debug__" : Str)) = false := by decide) (he : starEach (e :: es) X.env = (false, eval e X.env) :: starEach es X.env := by rfl) (hpl : (backTo pos (starEach es X.env)).any (·.1) = false := by rfl) :
    PE X (.Call (.Name x p) (e :: es) [] pos) (tCall sp [] E0 t) := by
  intro pins s σ H Q I h
  obtain ⟨f, fd, F, b, kp, m⟩ := G.ex
  exact pe_call (F.mono hk) hr hg m kp b .nil pass0 ha hdb he hpl pins s σ H Q I h
section
variable {nx : L2.St → Hp → Prop} {rt : VK} {bk ct : L2.St → Hp → Prop} {σ : L2.St} {H : Hp} {K : PySem.W.Frag}
end
section
variable {σ : L2.St} {H : Hp} {K : PySem.W.Frag}
def rIsN : R2 := fun x y H Q => y = .non ∧ Q (.bl (decide (x = .non))) H
theorem opIsN {X : Cx} : OpR X (compareOp .Is) rIsN := op_isN
end
theorem keepN {H : Hp} {p b : Addr} {o u : HO} (hp : H p = none) (h : H b = some u) : upd H p o b = some u := by
  rw [upd_ne (ne_of_none h hp)]; exact h
end My
namespace My
open PySem PySem.Spec PyProof.Rows L2
theorem compLoop_go {prog : Program} {w : World} {A : Around} {R : Result → Shared → Prop} {s : Shared} {elt target iter : Expr} {ifs : List Expr} {scope : Scope} {pos : Pos} {it acc : Value} {env : Env} (I : Nat → Shared → Prop)
    (turn : ∀ n s, I n s → wpAny (model prog w) A (pyNext it) (fun r s₁ => match r with
      | none => R (.ok .next) s₁
      | some v => wpAny (model prog w) A (letOwnedTupleGo target it v) (fun _ s₁' => wpAny (model prog w) A (assign target env v) (fun _ s₂ =>
          wpAny (model prog w) A (forIn ifs true fun c r => if r = true then do let ok ← isTrue c env (eval c env); pure (ForInStep.yield ok) else pure (ForInStep.yield r)) (fun ok s₃ =>
            if ok = true then wpAny (model prog w) A (eval elt env) (fun x s₄ =>
              wpAny (model prog w) A (call (.builtin "list.append") [acc, x]) (fun _ s₅ => ∃ m, m < n ∧ I m s₅) (fun _ _ => False) s₄) (fun _ _ => False) s₃
            else ∃ m, m < n ∧ I m s₃) (fun _ _ => False) s₂) (fun _ _ => False) s₁') (fun _ _ => False) s₁) (fun _ _ => False) s)
    (n : Nat) (h : I n s) : codeAny (model prog w) A (.compLoop (.ListComp elt [⟨target, iter, ifs, 0⟩] scope pos) 0 it acc env) R s := by
  refine codeAny_loop rfl I (fun n s hI => ?_) n h
  show wpAny _ A ((compTurn (.ListComp elt [⟨target, iter, ifs, 0⟩] scope pos) 0 it acc env).onRaise (fun x => do noteFrame x env; theTreesLotGoes x)) _ _ s
  refine wpAny_noted ?_
  rw [compTurn_list]
  refine wpAny_bind (wpAny_standAt (wpAny_bind (wpAny_mono (turn n s hI) (fun r s₁ h₁ => ?_) fun _ _ h' => h'.elim)))
  cases r with
  | none => exact wpAny_pure h₁
  | some v =>
    refine wpAny_bind (wpAny_mono h₁ (fun _ s₁' h₁' => ?_) fun _ _ h' => h'.elim)
    refine wpAny_bind (wpAny_mono h₁' (fun _ s₂ h₂ => wpAny_bind (wpAny_mono h₂ (fun ok s₃ h₃ => ?_) fun _ _ h' => h'.elim)) fun _ _ h' => h'.elim)
    cases ok with
    | false => exact wpAny_pure ⟨rfl, h₃⟩
    | true =>
      exact wpAny_bind (wpAny_bind (wpAny_mono h₃ (fun x s₄ h₄ => wpAny_bind (wpAny_mono h₄ (fun _ s₅ h₅ => wpAny_pure (wpAny_pure ⟨rfl, h₅⟩)) fun _ _ h' => h'.elim)) fun _ _ h' => h'.elim))
def inner (X : Cx) (sc : Scope) (N : List Str) (cl : List (Str × Addr)) (C : Addr) (s₀ : Shared) (H₀ : Hp) (ex : List Addr) : Cx :=
  { X with N := N, s₀ := s₀, H₀ := H₀, env := compEnvC sc cl C X.env, outer := X.stack, ex := ex, fn := fun _ => false, pn := [] }
def PFs (X : Cx) (ifs : List Expr) (t : TT) : Prop :=
  ∀ (pins : List (Addr × Obj)) (s : Shared) (σ : L2.St) (H : Hp) (Q : Bool → Hp → Prop), Inv X pins σ H s → t σ H Q →
    wpAny (model X.prog X.w) X.A (forIn ifs true fun c r => if r = true then do let ok ← isTrue c X.env (eval c X.env); pure (ForInStep.yield ok) else pure (ForInStep.yield r)) (TP X pins σ Q) X.xe s
def tTrue : TT := fun _ H Q => Q true H
theorem pf_nil {X : Cx} : PFs X [] tTrue := fun _ _ _ H _ I h => wpAny_tests_nil ⟨H, I, h⟩
theorem pf_one {X : Cx} {c : Expr} {t : TT} (h : PT X c t) : PFs X [c] t := fun pins s σ H Q I q => wpAny_tests_one (h pins s σ H Q I q)
def FvOk (X : Cx) (sc : Scope) : List Str → List Nat → Prop
  | [], [] => True
  | x :: xs, j :: js => X.N[j]? = some x ∧ sc.names.lookup x = some .free ∧ X.env.kindOf x = some .cell ∧ FvOk X sc xs js
  | _, _ => False
def FrAll (P : Str → Prop) : List (Str × NameKind) → Prop
  | [] => True
  | (n, .free) :: r => P n ∧ FrAll P r
  | _ :: r => FrAll P r
theorem FrAll.of {P : Str → Prop} : ∀ {l : List (Str × NameKind)}, FrAll P l → ∀ y ∈ l, y.2 = .free → P y.1
  | (n, k) :: r, h, y, hy, e => by
    rcases List.mem_cons.mp hy with rfl | hy
    · dsimp only at e; subst e; exact h.1
    · refine FrAll.of (l := r) ?_ y hy e
      cases k <;> first | exact h.2 | exact h
def cst (own : List Str) (fv : List Nat) (σ : L2.St) : L2.St := List.replicate own.length none ++ fv.map fun j => (σ[j]?).join
def Agr : L2.St → L2.St → Prop
  | [], [] => True
  | none :: r, _ :: s => Agr r s
  | some v :: r, some w :: s => v = w ∧ Agr r s
  | _, _ => False
theorem Agr.len : ∀ {a b : L2.St}, Agr a b → b.length = a.length
  | [], [], _ => rfl
  | none :: r, _ :: s, h => congrArg (· + 1) (Agr.len (a := r) (b := s) h)
  | some v :: r, some w :: s, h => congrArg (· + 1) (Agr.len (a := r) (b := s) h.2)
theorem Agr.get : ∀ {a b : L2.St}, Agr a b → ∀ (i : Nat) (v : V), a[i]? = some (some v) → b[i]? = some (some v)
  | none :: r, _ :: s, h, i, v, e => by
    cases i with
    | zero => simp at e
    | succ i => simpa using Agr.get (a := r) (b := s) h i v (by simpa using e)
  | some v' :: r, some w :: s, h, i, v, e => by
    cases i with
    | zero => simp at e; subst e; simp [h.1]
    | succ i => simpa using Agr.get (a := r) (b := s) h.2 i v (by simpa using e)
def tLC (own : List Str) (fv : List Nat) (wi : TI) (g : TG) (tc : TT) (te : TE) : TE := fun σ H Q => wi σ H fun J H1 => ∀ p, H1 p = none →
  ∃ W : Nat → Nat → Hp → Prop, (∃ m, W 0 m (upd H1 p (.lst []))) ∧ ∀ i m H2, W i m H2 →
    (J.stop i H2 ∧ Q (.ref p) H2) ∨ (J.go i H2 ∧ ∀ x H', J.yld i H2 x H' → g x (cst own fv σ) H' fun σ2 H3 => Agr (cst own fv σ) σ2 ∧ tc σ2 H3 fun b H4 =>
      if b = true then te σ2 H4 fun y H5 => ∃ ys, H5 p = some (.lst ys) ∧ ys.length < sizeLine ∧ ∃ m', m' < m ∧ W (i + 1) m' (upd H5 p (.lst (ys ++ [y])))
      else ∃ m', m' < m ∧ W (i + 1) m' H4)
theorem cellOf_some {env : Env} {n : Str} {c : Addr} (h : env.cells.lookup n = some c) : cellOf env n = pure c := by
  unfold cellOf; rw [h]
theorem closure_go {env : Env} : ∀ (names : List (Str × NameKind)) (cs : List (Str × Addr)), (∀ y ∈ names, y.2 = .free → ∃ c, env.cells.lookup y.1 = some c) → (∀ x c, cs.lookup x = some c → env.cells.lookup x = some c) →
    ∃ cl, (forIn names cs fun (x : Str × NameKind) (r : List (Str × Addr)) => if (x.2 == NameKind.free) = true then do let a ← cellOf env x.1; pure (ForInStep.yield ((x.1, a) :: r)) else pure (ForInStep.yield r)) = (pure cl : Sem (List (Str × Addr))) ∧
      (∀ x c, cl.lookup x = some c → env.cells.lookup x = some c) ∧ (∀ x, (cs.lookup x).isSome = true → (cl.lookup x).isSome = true) ∧ ∀ y ∈ names, y.2 = .free → (cl.lookup y.1).isSome = true
  | [], cs, _, h2 => ⟨cs, rfl, h2, fun _ h => h, fun _ h => nomatch h⟩
  | (n, k) :: r, cs, h1, h2 => by
    rw [List.forIn_cons]
    by_cases hk : k = .free
    · subst hk
      obtain ⟨c, hc⟩ := h1 (n, .free) List.mem_cons_self rfl
      obtain ⟨cl, e, a1, a2, a3⟩ := closure_go (env := env) r ((n, c) :: cs) (fun y hy => h1 y (List.mem_cons_of_mem _ hy)) (fun x d hx => by
        rw [List.lookup_cons] at hx
        by_cases hxn : x = n
        · subst hxn; simp at hx; subst hx; exact hc
        · have : (x == n) = false := by simpa using hxn
          rw [this] at hx; exact h2 x d hx)
      refine ⟨cl, ?_, a1, fun x hx => a2 x ?_, fun y hy e' => ?_⟩
      · simp only [beq_self_eq_true, if_true, cellOf_some hc]
        simpa using e
      · rw [List.lookup_cons]; split <;> simp_all
      · rcases List.mem_cons.mp hy with rfl | hy
        · exact a2 _ (by simp [List.lookup_cons])
        · exact a3 y hy e'
    · have hb : (k == NameKind.free) = false := by simpa using hk
      obtain ⟨cl, e, a1, a2, a3⟩ := closure_go (env := env) r cs (fun y hy => h1 y (List.mem_cons_of_mem _ hy)) h2
      refine ⟨cl, ?_, a1, a2, fun y hy e' => ?_⟩
      · simp only [hb, Bool.false_eq_true, if_false]
        simpa using e
      · rcases List.mem_cons.mp hy with rfl | hy
        · exact absurd e' hk
        · exact a3 y hy e'
theorem closure_ok {env : Env} {sc : Scope} (h : ∀ y ∈ sc.names, y.2 = .free → ∃ c, env.cells.lookup y.1 = some c) :
    ∃ cl, closureFor sc env = pure cl ∧ (∀ x c, cl.lookup x = some c → env.cells.lookup x = some c) ∧ ∀ y ∈ sc.names, y.2 = .free → (cl.lookup y.1).isSome = true := by
  obtain ⟨cl, e, a1, _, a3⟩ := closure_go (env := env) sc.names [] h (fun x c hx => by simp at hx)
  refine ⟨cl, ?_, a1, a3⟩
  unfold closureFor
  have e2 := e
  first
    | exact e2
    | (show (do let cs ← forIn sc.names [] _; pure cs) = _; rw [show (forIn sc.names [] _ : Sem (List (Str × Addr))) = pure cl from e2]; rfl)
    | simpa using e2
theorem lookup_relabel {env : Env} {x : Str} : ∀ {names : List (Str × NameKind)}, (names.map fun (n, k) => if (k == NameKind.free && env.scope.kind == .function && env.kindOf n == some .cell) then (n, NameKind.cell) else (n, k)).lookup x =
    (names.lookup x).map fun k => if (k == NameKind.free && env.scope.kind == .function && env.kindOf x == some .cell) then NameKind.cell else k
  | [] => rfl
  | (n, k) :: r => by
    have ih := lookup_relabel (env := env) (x := x) (names := r)
    rw [List.map_cons]
    by_cases hx : x = n
    · subst hx
      dsimp only
      split <;> simp_all [List.lookup_cons]
    · have hb : (x == n) = false := by simpa using hx
      dsimp only
      split <;> (rw [List.lookup_cons, List.lookup_cons, hb]; exact ih)
theorem mem_of_lookup {β : Type} {x : Str} {k : β} : ∀ {l : List (Str × β)}, l.lookup x = some k → (x, k) ∈ l
  | (n, b) :: r, h => by
    rw [List.lookup_cons] at h
    by_cases hx : x = n
    · subst hx; simp at h; subst h; exact List.mem_cons_self
    · have hb : (x == n) = false := by simpa using hx
      rw [hb] at h
      exact List.mem_cons_of_mem _ (mem_of_lookup h)
section
variable {X : Cx} {sc : Scope} {tg iter elt : Expr} {ifs : List Expr} {own free : List Str} {fv : List Nat} {wi : TI} {g : TG} {tc : TT} {te : TE} {pos : Pos}
theorem fv_at {σ : L2.St} : ∀ {free : List Str} {fv : List Nat}, FvOk X sc free fv → ∀ (k : Nat) (x : Str) (v : V), free[k]? = some x → (fv.map fun j => (σ[j]?).join)[k]? = some (some v) →
    ∃ j : Nat, X.N[j]? = some x ∧ σ[j]? = some (some v) ∧ sc.names.lookup x = some .free ∧ X.env.kindOf x = some .cell
  | x' :: xs, j :: js, h, k, x, v, e1, e2 => by
    cases k with
    | zero =>
      simp at e1 e2
      subst e1
      refine ⟨j, h.1, ?_, h.2.1, h.2.2.1⟩
      cases q : σ[j]? with
      | none => rw [q] at e2; simp at e2
      | some o => rw [q] at e2; simp at e2; rw [e2]
    | succ k => exact fv_at (free := xs) (fv := js) h.2.2.2 k x v (by simpa using e1) (by simpa using e2)
  | [], [], _, k, x, v, e1, _ => by simp at e1
theorem fv_len : ∀ {free : List Str} {fv : List Nat}, FvOk X sc free fv → fv.length = free.length
  | [], [], _ => rfl
  | _ :: _, _ :: _, h => congrArg (· + 1) (fv_len h.2.2.2)
theorem comp_block {RR : Value → Addr → Result → Shared → Prop} (hcalm : X.calm = true) (hxe : X.xe = fun _ _ => False) (hkind : sc.kind = .function) (hcell : ∀ y ∈ sc.names, y.2 ≠ .cell)
    (hfr : FrAll (fun x => X.env.kindOf x = some .cell) sc.names) (hfv : FvOk X sc free fv)
    (hg : ∀ cl C s₀ H₀ ex, PG (inner X sc (own ++ free) cl C s₀ H₀ ex) tg g) (ht : ∀ cl C s₀ H₀ ex, PFs (inner X sc (own ++ free) cl C s₀ H₀ ex) ifs tc) (he : ∀ cl C s₀ H₀ ex, PE (inner X sc (own ++ free) cl C s₀ H₀ ex) elt te)
    {pins : List (Addr × Obj)} {s2 : Shared} {σ : L2.St} {H2 : Hp} {it : Addr} {fp : List Addr} {tn : Nat → Heap → Prop} {J : It} {Q : VK} (I2 : Inv X pins σ H2 s2) (T : Turn X.prog X.w X.K tg J fp it tn) (st2 : tn 0 s2.heap) (f2 : ∀ b ∈ fp, FpOk X pins H2 b)
    (h : ∀ p, H2 p = none → ∃ W : Nat → Nat → Hp → Prop, (∃ m, W 0 m (upd H2 p (.lst []))) ∧ ∀ i m H2, W i m H2 →
      (J.stop i H2 ∧ Q (.ref p) H2) ∨ (J.go i H2 ∧ ∀ x H', J.yld i H2 x H' → g x (cst own fv σ) H' fun σ2 H3 => Agr (cst own fv σ) σ2 ∧ tc σ2 H3 fun b H4 =>
        if b = true then te σ2 H4 fun y H5 => ∃ ys, H5 p = some (.lst ys) ∧ ys.length < sizeLine ∧ ∃ m', m' < m ∧ W (i + 1) m' (upd H5 p (.lst (ys ++ [y])))
        else ∃ m', m' < m ∧ W (i + 1) m' H4))
    {cl : List (Str × Addr)} (hcl1 : ∀ x c, cl.lookup x = some c → X.env.cells.lookup x = some c) (hcl2 : ∀ y ∈ sc.names, y.2 = .free → (cl.lookup y.1).isSome = true)
    (hRR : ∀ (p C : Addr) (m : Str → Option Value) (H' : Hp) (s' : Shared), s'.heap.Ns C m → Inv X pins σ H' s' → H' C = none → C ≠ X.env.locals → X.s₀.heap.objs.size ≤ C → (∀ x c, X.env.cells.lookup x = some c → c ≠ C) → (∀ q ∈ X.pn ++ pins, q.1 ≠ C) → Q (.ref p) H' →
      RR (.ref p) C (.ok .next) s') :
    wpAny (model X.prog X.w) X.A (newList []) (fun acc s3 => wpAny (model X.prog X.w) X.A (newFunctionEnv sc X.env.globals cl [] X.env.qual none .none (some X.env)) (fun cenv s4 =>
      codeAny (model X.prog X.w) X.A (.compStart (.ListComp elt [⟨tg, iter, ifs, 0⟩] sc pos) 0 (.ref it) acc { cenv with scope := relabel sc X.env }) (RR acc cenv.locals) s4) X.xe s3) X.xe s2 := by
  rw [hxe]
  refine wpAny_newObj_type ?_
  have I3 : Inv X pins σ (upd H2 s2.heap.objs.size (.lst [])) { s2 with heap := s2.heap.push { cls := .type "list", data := .seq ([] : List Value).toArray } } := I2.lnew (t' := s2.toks) .nil (Nat.zero_le _)
  generalize hs3 : ({ s2 with heap := s2.heap.push { cls := .type "list", data := .seq ([] : List Value).toArray } } : Shared) = s3 at I3 ⊢
  have hp : H2 s2.heap.objs.size = none := I2.fresh
  obtain ⟨W, ⟨m0, w0⟩, turn⟩ := h s2.heap.objs.size hp
  generalize hH3 : upd H2 s2.heap.objs.size (.lst []) = H3 at I3 w0 ⊢
  have hk3 : ∀ b o, s2.heap.get? b = some o → s3.heap.get? b = some o := fun b o e => by rw [← hs3]; exact Heap.get?_push_of_some _ e
  have hz3 : s3.heap.objs.size = s2.heap.objs.size + 1 := by rw [← hs3]; exact Heap.size_push ..
  have st3 : tn 0 s3.heap := T.keep _ _ _ st2 fun b _ o e => hk3 b o e
  have hfpo : ∀ b ∈ fp, ∃ o, s3.heap.get? b = some o := fun b hb => let ⟨o, e, _⟩ := T.obj _ _ st3 b hb; ⟨o, e⟩
  have hfpn : ∀ b ∈ fp, b ≠ s2.heap.objs.size := fun b hb e => by
    obtain ⟨o, e', _⟩ := T.obj _ _ st2 b hb
    have := Heap.lt_size e'
    rw [e] at this; exact Nat.lt_irrefl _ this
  have f3 : ∀ b ∈ fp, H3 b = none := fun b hb => by rw [← hH3, upd_ne (hfpn b hb)]; exact (f2 b hb).1
  refine wpAny_newFunctionEnv hcell (by intro y hy; simp at hy) (fun h1 hns1 hsb1 => ?_) hkind
  have hC0 : H3 s3.heap.objs.size = none := I3.fresh
  have old : ∀ b o, s3.heap.get? b = some o → h1.get? b = some o := fun b o e => hsb1.extBut b o (Nat.ne_of_lt (Heap.lt_size e)) (Heap.get?_push_of_some _ e)
  have hlow : X.s₀.heap.objs.size ≤ s3.heap.objs.size := I3.sz
  have hloc : X.env.locals < s3.heap.objs.size := I3.lt
  have hcells : ∀ x c, X.env.cells.lookup x = some c → c < s3.heap.objs.size := fun x c e => by
    obtain ⟨v, o, ho, _⟩ := I3.cell x c e
    exact Heap.lt_size ho
  have YOk : (inner X sc (own ++ free) cl s3.heap.objs.size s3 H3 fp).Ok := {
    mod := I3.ok.mod
    kind := by show (relabel sc X.env).kind = .function; exact hkind
    glob := I3.ok.glob
    blt := I3.ok.blt
    above := Nat.le_refl _
    inj := fun x y c hx hy => I3.ok.inj x y c (hcl1 x c hx) (hcl1 y c hy)
    has := fun x hx => by
      have e : (sc.names.lookup x).map (fun k => if (k == NameKind.free && X.env.scope.kind == .function && X.env.kindOf x == some .cell) then NameKind.cell else k) = some .cell ∨
          (sc.names.lookup x).map (fun k => if (k == NameKind.free && X.env.scope.kind == .function && X.env.kindOf x == some .cell) then NameKind.cell else k) = some .free := by
        have := @lookup_relabel X.env x sc.names
        rcases hx with hx | hx
        · exact .inl (this.symm.trans hx)
        · exact .inr (this.symm.trans hx)
      cases q : sc.names.lookup x with
      | none => rw [q] at e; simp at e
      | some k =>
        have hm := mem_of_lookup q
        by_cases hkf : k = .free
        · subst hkf
          exact Option.isSome_iff_exists.mp (hcl2 (x, .free) hm rfl)
        · have hkc : k ≠ .cell := hcell (x, k) hm
          rw [q] at e
          have hb : (k == NameKind.free) = false := by simpa using hkf
          simp only [Option.map_some, hb, Bool.false_and, Bool.false_eq_true, if_false, Option.some.injEq] at e
          rcases e with e | e
          · exact absurd e hkc
          · exact absurd e hkf
    cab := fun x c hx => by cases hx
    hd := I3.ok.hd
    frames := I3.ok.frames
    stk := .inl rfl
    exf := fun b hb => ⟨fun e => by obtain ⟨o, e'⟩ := hfpo b hb; have := Heap.lt_size e'; rw [e] at this; exact Nat.lt_irrefl _ this, fun x c hx => (f2 b hb).2.2.2.2.1 x c (hcl1 x c hx)⟩
    bs := I3.bs
    bsz := Nat.le_trans I3.ok.bsz I3.sz
    noex := fun b o hb hm => by
      rcases (f2 b hm).2.2.2.1 with hx | hx
      · exact I3.ok.noex b o hb hx
      · exact Nat.lt_irrefl _ (Nat.lt_of_lt_of_le (Nat.lt_of_lt_of_le (Heap.lt_size hb) I3.ok.bsz) hx)
    exfs := fun b hb hm => by
      rcases List.mem_cons.mp (I3.stkSub b hm) with e | e
      · exact (f2 b hb).2.1 e
      · exact (f2 b hb).2.2.1 e
    funs := I3.stack
    frf := I3.stkFree }
  have hlen0 : (cst own fv σ).length = (own ++ free).length := by
    unfold cst; rw [List.length_append, List.length_append, List.length_replicate, List.length_map, fv_len hfv]
  have I4 : ∀ tk, Inv (inner X sc (own ++ free) cl s3.heap.objs.size s3 H3 fp) [] (cst own fv σ) H3 { s3 with heap := h1, toks := tk } := fun tk => {
    ok := YOk
    os := rfl
    bare := I3.bare
    base := Un.kept old
    loc := by
      refine ⟨_, hns1, fun i x v hN hσ _ => ?_⟩
      have hN' : (own ++ free)[i]? = some x := hN
      have hσ' : (List.replicate own.length none ++ fv.map fun j => (σ[j]?).join)[i]? = some (some v) := hσ
      by_cases hi : i < own.length
      · rw [List.getElem?_append_left (by rw [List.length_replicate]; exact hi)] at hσ'
        rw [List.getElem?_replicate] at hσ'
        split at hσ' <;> simp at hσ'
      · rw [List.getElem?_append_right (by omega)] at hN'
        rw [List.getElem?_append_right (by rw [List.length_replicate]; omega), List.length_replicate] at hσ'
        obtain ⟨j, hj, hσj, hsx, hkx⟩ := fv_at hfv _ x v hN' hσ'
        obtain ⟨m, _, hall⟩ := I3.loc
        obtain ⟨u, ru, lk⟩ := hall j x v hj hσj (.inr (.inl hkx))
        refine ⟨u, ru, .inr ⟨?_, ?_⟩⟩
        · have := @lookup_relabel X.env x sc.names
          rw [hsx] at this
          have e2 : Env.kindOf (inner X sc (own ++ free) cl s3.heap.objs.size s3 H3 fp).env x = (sc.names.map fun (n, k) => if (k == NameKind.free && X.env.scope.kind == .function && X.env.kindOf n == some .cell) then (n, NameKind.cell) else (n, k)).lookup x := rfl
          rw [e2, this]
          simp only [Option.map_some]
          split
          · exact .inl rfl
          · exact .inr rfl
        · rcases lk with ⟨hl, _⟩ | ⟨_, c, hc, hcell'⟩
          · rw [hkx] at hl; cases hl
          · obtain ⟨c', hc'⟩ := Option.isSome_iff_exists.mp (hcl2 (x, .free) (mem_of_lookup hsx) rfl)
            have := hcl1 x c' hc'
            rw [hc] at this
            cases this
            refine ⟨c, hc', ?_⟩
            obtain ⟨o, ho, hd⟩ := hcell'
            exact ⟨o, old _ _ ho, hd⟩
    cell := fun x c hx => by
      obtain ⟨v, o, ho, hd⟩ := I3.cell x c (hcl1 x c hx)
      exact ⟨v, o, old _ _ ho, hd⟩
    free := hC0
    freeC := fun x c hx => I3.freeC x c (hcl1 x c hx)
    pin := fun q hq => nomatch hq
    hok := I3.hok.kept old
    len := hlen0 }
  have back : ∀ (m : Str → Option Value) (H' : Hp) (s' : Shared), s'.heap.Ns s3.heap.objs.size m → Inv (inner X sc (own ++ free) cl s3.heap.objs.size s3 H3 fp) [] (cst own fv σ) H' s' → Q (.ref s2.heap.objs.size) H' → RR (.ref s2.heap.objs.size) s3.heap.objs.size (.ok .next) s' := fun m H' s' hm IY q => by
    have u1 : Un (frs X.stack) fp H3 H' s3.heap s'.heap := IY.base
    have IX : Inv X pins σ H' s' := I3.call' (ch := fp) (IY.os) u1 IY.hok IY.bare fun b hb => ⟨(f2 b hb).2.2.2.1, (f2 b hb).2.1, (f2 b hb).2.2.2.2.1, (f2 b hb).2.2.2.2.2⟩
    refine hRR _ _ m H' s' hm IX IY.free (Nat.ne_of_gt hloc) hlow (fun x c hx => Nat.ne_of_lt (hcells x c hx)) (fun q' hq => ?_) q
    have := (I3.pin q' hq).1
    exact Nat.ne_of_lt (Heap.lt_size this)
  have stat : ∀ {H' : Hp}, (∀ b ∈ fp, H' b = none) → ∀ b ∈ fp, FpOk (inner X sc (own ++ free) cl s3.heap.objs.size s3 H3 fp) [] H' b := fun hn b hb =>
    ⟨hn b hb, (YOk.exf b hb).1, YOk.exfs b hb, .inl hb, (YOk.exf b hb).2, fun q hq => nomatch hq⟩
  have hYxe : (inner X sc (own ++ free) cl s3.heap.objs.size s3 H3 fp).xe = fun _ _ => False := hxe
  have loop : ∀ tk, codeAny (model X.prog X.w) X.A (.compLoop (.ListComp elt [⟨tg, iter, ifs, 0⟩] sc pos) 0 (.ref it) (.ref s2.heap.objs.size) (compEnvC sc cl s3.heap.objs.size X.env)) (RR (.ref s2.heap.objs.size) s3.heap.objs.size) { s3 with heap := h1, toks := tk } := fun tk => by
    refine compLoop_go (fun n s' => ∃ i H', Inv (inner X sc (own ++ free) cl s3.heap.objs.size s3 H3 fp) [] (cst own fv σ) H' s' ∧ tn i s'.heap ∧ (∀ b ∈ fp, H' b = none) ∧ W i n H') ?_ m0 ⟨0, H3, I4 tk, T.keep _ _ _ st3 (fun b _ o e => old b o e), f3, w0⟩
    rintro n s5 ⟨i, H5, I5, st5, fr5, w5⟩
    rcases turn i n H5 w5 with ⟨stop, q⟩ | ⟨go, step⟩
    · refine thn (T.done (inner X sc (own ++ free) cl s3.heap.objs.size s3 H3 fp) rfl rfl rfl hcalm i [] s5 _ H5 _ I5 (stat fr5) st5 stop) fun r s6 ⟨hr, I6⟩ => ?_
      subst hr
      obtain ⟨m, hm, _⟩ := I6.loc
      exact back m H5 s6 hm I6 q
    · refine thn (T.item (inner X sc (own ++ free) cl s3.heap.objs.size s3 H3 fp) rfl rfl rfl hcalm i [] s5 _ H5 _ I5 (stat fr5) st5 go) fun r s6 ⟨u, hr, h6⟩ => ?_
      subst hr
      refine thn h6 fun _ s7 ⟨x, H7, I7, r7, y7, st7, fr7⟩ => ?_
      have I7' := I7.pinned (stat fr7) (T.obj _ _ st7)
      have hg' := hg cl s3.heap.objs.size s3 H3 fp _ s7 _ H7 x u _ I7' r7 (step x H7 y7)
      have ht' := ht cl s3.heap.objs.size s3 H3 fp
      have he' := he cl s3.heap.objs.size s3 H3 fp
      have ap : MtM (inner X sc (own ++ free) cl s3.heap.objs.size s3 H3 fp) "list.append" rAppend := mt_append
      unfold PFs at ht'
      unfold PE at he'
      unfold MtM at ap
      rw [hYxe] at hg' ht' he' ap
      have again : ∀ {pl : List (Addr × Obj)} {σ8 : L2.St} {H8 : Hp} {s8 : Shared}, pl = pinsAt fp s7.heap → Inv (inner X sc (own ++ free) cl s3.heap.objs.size s3 H3 fp) ([] ++ pl) σ8 H8 s8 → Agr (cst own fv σ) σ8 → (∃ m', m' < n ∧ W (i + 1) m' H8) →
          ∃ m, m < n ∧ ∃ i H', Inv (inner X sc (own ++ free) cl s3.heap.objs.size s3 H3 fp) [] (cst own fv σ) H' s8 ∧ tn i s8.heap ∧ (∀ b ∈ fp, H' b = none) ∧ W i m H' := fun {pl σ8 H8 s8} hpl I8 ag ⟨m', hm, w8⟩ => by
        subst hpl
        refine ⟨m', hm, i + 1, H8, (I8.unpinned).weak ag.len.symm (fun j v e => ag.get j v e), T.keep _ _ _ st7 fun b hb o e => (I8.pin (b, o) (List.mem_append_right _ (List.mem_append_right _ (mem_pinsAt hb e)))).1, fun b hb => ?_, w8⟩
        obtain ⟨o, e, d⟩ := T.obj _ _ st7 b hb
        exact (I8.pin (b, o) (List.mem_append_right _ (List.mem_append_right _ (mem_pinsAt hb e)))).2.1
      refine thn hg' fun _ s8 ⟨σ8, H8, I8, ag, q8⟩ => ?_
      refine thn (ht' _ s8 σ8 H8 _ I8 q8) fun b s9 ⟨H9, I9, q9⟩ => ?_
      cases b with
      | false =>
        rw [if_neg Bool.false_ne_true] at q9 ⊢
        exact again rfl I9 ag q9
      | true =>
        rw [if_pos rfl] at q9 ⊢
        refine thn (he' _ s9 σ8 H9 _ I9 q9) fun y s10 ⟨yv, H10, I10, ry, ys, hy, hlt, q10⟩ => ?_
        refine thn (ap _ s10 σ8 H10 (.ref s2.heap.objs.size) [yv] (.ref s2.heap.objs.size) [y] (fun v H' => v = .non ∧ H' = upd H10 s2.heap.objs.size (.lst (ys ++ [yv]))) I10 rfl (.cons ry .nil) ⟨_, ys, yv, rfl, rfl, hy, hlt, rfl, rfl⟩) fun z s11 ⟨v11, H11, I11, _, _, e11⟩ => ?_
        subst e11
        exact again rfl I11 ag q10
  refine codeAny_compStart_list (loop _) (T.self _ 0 _ _ _ (T.keep _ _ _ st3 fun b _ o e => old b o e) (loop _))
theorem pe_lc (hcalm : X.calm = true) (hxe : X.xe = fun _ _ => False) (hkind : sc.kind = .function) (hcell : ∀ y ∈ sc.names, y.2 ≠ .cell) (hnames : ∀ y ∈ sc.names, y.2 = .local → sc.names.lookup y.1 = some .local)
    (hfr : FrAll (fun x => X.env.kindOf x = some .cell) sc.names) (hfv : FvOk X sc free fv) (hi : PI X tg iter wi)
    (hg : ∀ cl C s₀ H₀ ex, PG (inner X sc (own ++ free) cl C s₀ H₀ ex) tg g) (ht : ∀ cl C s₀ H₀ ex, PFs (inner X sc (own ++ free) cl C s₀ H₀ ex) ifs tc) (he : ∀ cl C s₀ H₀ ex, PE (inner X sc (own ++ free) cl C s₀ H₀ ex) elt te)
    (hs : ∀ x, foldedSetIterable iter X.env x = pure x := by intro _; rfl) : PE X (.ListComp elt [⟨tg, iter, ifs, 0⟩] sc pos) (tLC own fv wi g tc te) := by
  intro pins s σ H Q I q
  obtain ⟨cl, hclos, hcl1, hcl2⟩ := closure_ok (env := X.env) (sc := sc) fun y hy e => I.ok.has y.1 (.inl (hfr.of y hy e))
  rw [eval_ListComp]
  refine wpAny_comprehension_free (use := none) rfl hs hclos hkind hnames (thn (hi pins s σ H _ I q) fun v s1 h1 => thn h1 fun itv s2 h2 => ?_)
  obtain ⟨it, fp, tn, J, H2, e, I2, T, st2, f2, q2⟩ := h2
  subst e
  refine comp_block (RR := fun acc C => compPost (model X.prog X.w) X.A X.xe none (EP X pins σ Q) acc C) hcalm hxe hkind hcell hfr hfv hg ht he I2 T st2 f2 q2 hcl1 hcl2 ?_
  intro p C m H' s' hm I' hC hCl hC0 hCc hCp q'
  exact ⟨m, hm, fun h' hs' => ⟨.ref p, H', I'.turned (t' := s'.toks) (fun b o hb e => hs'.extBut b o hb e) hC hCl (.inr hC0) hCc hCp, rfl, q'⟩⟩
theorem ps_setC {i : Nat} {y : Str} {py spos : Pos} (hN : X.N.Nodup) (hy : X.N[i]? = some y) (hyl : X.env.scope.names.lookup y = some .local) (hcalm : X.calm = true) (hxe : X.xe = fun _ _ => False) (hkind : sc.kind = .function) (hcell : ∀ y ∈ sc.names, y.2 ≠ .cell) (hnames : ∀ y ∈ sc.names, y.2 = .local → sc.names.lookup y.1 = some .local)
    (hfr : FrAll (fun x => X.env.kindOf x = some .cell) sc.names) (hfv : FvOk X sc free fv) (hi : PI X tg iter wi)
    (hg : ∀ cl C s₀ H₀ ex, PG (inner X sc (own ++ free) cl C s₀ H₀ ex) tg g) (ht : ∀ cl C s₀ H₀ ex, PFs (inner X sc (own ++ free) cl C s₀ H₀ ex) ifs tc) (he : ∀ cl C s₀ H₀ ex, PE (inner X sc (own ++ free) cl C s₀ H₀ ex) elt te)
    (hsw : swapsWith (.ListComp elt [⟨tg, iter, ifs, 0⟩] sc pos) (some (.Name y py)) spos.line X.env = pure true := by rfl)
    (hs : ∀ x, foldedSetIterable iter X.env x = pure x := by intro _; rfl) : PS X (.Assign [.Name y py] (.ListComp elt [⟨tg, iter, ifs, 0⟩] sc pos) spos) (tAsg (tLC own fv wi g tc te) (gName i)) := by
  intro pins s σ H D I q
  obtain ⟨cl, hclos, hcl1, hcl2⟩ := closure_ok (env := X.env) (sc := sc) fun y hy e => I.ok.has y.1 (.inl (hfr.of y hy e))
  rw [exec_Assign_Name_used _ _ _ _ hsw]
  refine wpAny_bind (wpAny_standAt (wpAny_bind ?_))
  show wpAny _ X.A (do let _ ← comprehension (.ListComp elt [⟨tg, iter, ifs, 0⟩] sc pos) sc X.env _ (newList []) false (eval iter X.env) (some (assign (.Name y py) X.env))) _ _ s
  refine wpAny_bind (wpAny_mono (wpAny_comprehension_free (use := some (assign (.Name y py) X.env)) (Q := fun _ s' => SP X pins D .next s') rfl hs hclos hkind hnames
    (thn (hi pins s σ H _ I q) fun v s1 h1 => thn h1 fun itv s2 h2 => ?_)) (fun _ s' hq => wpAny_pure (wpAny_pure hq)) fun _ _ e => e)
  obtain ⟨it, fp, tn, J, H2, e, I2, T, st2, f2, q2⟩ := h2
  subst e
  refine comp_block (RR := fun acc C => compPost (model X.prog X.w) X.A X.xe (some (assign (.Name y py) X.env)) (fun _ s' => SP X pins D .next s') acc C) (Q := fun x H1 => gName i x σ H1 D.nx) hcalm hxe hkind hcell hfr hfv hg ht he I2 T st2 f2 q2 hcl1 hcl2 ?_
  intro p C m H' s' hm I' hC hCl hC0 hCc hCp q'
  show wpAny _ X.A (assign (.Name y py) X.env (.ref p)) _ _ _
  refine wpAny_assign_Name (store_ok2 (v := .ref p) I' hN hy (.inl hyl) rfl (fun s'' I'' hsb => ?_) (.inr hyl))
  obtain ⟨a, hsb, ha⟩ := hsb
  have hCa : C ≠ a := by
    rcases ha with rfl | ha
    · exact hCl
    · exact fun e => hCc _ _ ha e.symm
  refine ⟨m, hm.sameBut hsb hCa, fun h' hs' => ⟨_, H', I''.turned (t' := s''.toks) (fun b o hb e => hs'.extBut b o hb e) hC hCl (.inr hC0) hCc hCp, q'⟩⟩
end
end My
namespace My
open PySem PySem.Spec PyProof.Rows L2
section
variable {σ : L2.St} {H : Hp} {K : PySem.W.Frag}
end
end My
namespace My
open PySem PySem.Spec PyProof.Rows L2
section
variable {X : Cx} {tg : Expr}
end
end My
namespace My
open PySem PySem.Spec PyProof.Rows L2
mutual
inductive Dt (K : PySem.W.Frag) (H : Hp) : V → PyData → Prop
  | non : Dt K H .non .none
  | bl (b : Bool) : Dt K H (.bl b) (.bool b)
  | int (i : Int) : Dt K H (.int i) (.int i)
  | tup {a : Addr} {xs : List V} {ds : List PyData} : SqT K H a xs → DtAll K H xs ds → Dt K H (.ref a) (.tuple ds)
  | lst {a : Addr} {xs : List V} {ds : List PyData} : SqL K H a xs → DtAll K H xs ds → Dt K H (.ref a) (.list ds)
inductive DtAll (K : PySem.W.Frag) (H : Hp) : List V → List PyData → Prop
  | nil : DtAll K H [] []
  | cons {x : V} {xs : List V} {d : PyData} {ds : List PyData} : Dt K H x d → DtAll K H xs ds → DtAll K H (x :: xs) (d :: ds)
end
section
variable {X : Cx} {pins : List (Addr × Obj)} {σ : L2.St} {H : Hp} {s : Shared}
end
end My
namespace My
open PySem PySem.Spec PyProof.Rows L2
section
variable {X : Cx} {pins : List (Addr × Obj)} {σ : L2.St} {H : Hp} {s : Shared}
theorem _root_.L2.Inv.turnNew {h' : Heap} {ch : List Addr} {a : Addr} {o : HO} {t' : Nat} (I : Inv X pins σ H s) (hf : ∀ b ∈ ch, FpOk X pins H b) (k : ∀ b u, b ∉ ch → s.heap.get? b = some u → h'.get? b = some u) (ha : s.heap.objs.size ≤ a)
    (new : ObjOk X.prog X.w (upd H a o) h' a o) : Inv X pins σ (upd H a o) { s with heap := h', toks := t' } := by
  have lt : ∀ b u, s.heap.get? b = some u → b ≠ a := fun b u e z => by
    have := Heap.lt_size e
    rw [z] at this; exact Nat.lt_irrefl _ (Nat.lt_of_lt_of_le this ha)
  have ltH : ∀ b u, H b = some u → b ≠ a := fun b u e z => by
    have := I.hok.lt e
    rw [z] at this; exact Nat.lt_irrefl _ (Nat.lt_of_lt_of_le this ha)
  have nch : ∀ b u, H b = some u → b ∉ ch := fun b u e z => by rw [(hf b z).1] at e; cases e
  refine I.step (g' := s.gens) (d' := s.drawn) (ch := ch) (fun b hb => ⟨(hf b hb).2.2.2.1, (hf b hb).2.1, (hf b hb).2.2.2.2.1, (hf b hb).2.2.2.2.2⟩) (fun b u _ _ hc e _ => k b u hc e) (fun b u _ _ hc e _ => ⟨u.slots, k b u hc e⟩)
    (fun b u _ e n => by rw [upd_ne (lt b u e)]; exact n) (fun b u hc e => ⟨u, k b u hc e⟩) (fun b xs e => by rw [upd_ne (ltH b _ e)]; exact e) (fun b u v e => by rw [upd_ne (ltH b _ e)]; exact e)
    (fun b ps e => ⟨#[], by rw [upd_ne (ltH b _ e), e]; simp⟩) (fun m hm => ?_) (fun b u e => ?_) I.bare
  · obtain ⟨ob, es, ep, ho, r⟩ := hm
    exact ⟨ob, es, ep, k _ ob (fun z => (hf _ z).2.1 rfl) ho, r⟩
  · by_cases hb : b = a
    · subst hb
      rw [upd_same] at e
      cases e
      exact new
    · rw [upd_ne hb] at e
      refine (I.hok b u e).stay (fun c v hc q => k c v ?_ q) (fun c q => by rw [upd_ne (ltH c _ q)]; exact q) fun c ys q => by rw [upd_ne (ltH c _ q)]; exact q
      rcases hc with z | z
      · rw [z]; exact nch b u e
      · exact nch c _ z
theorem _root_.L2.Inv.turnedL {h' : Heap} {ch : List Addr} {t' : Nat} (I : Inv X pins σ H s) (hf : ∀ b ∈ ch, FpOk X pins H b) (k : ∀ b u, b ∉ ch → s.heap.get? b = some u → h'.get? b = some u) : Inv X pins σ H { s with heap := h', toks := t' } := by
  have nch : ∀ b u, H b = some u → b ∉ ch := fun b u e z => by rw [(hf b z).1] at e; cases e
  refine I.step (g' := s.gens) (d' := s.drawn) (ch := ch) (fun b hb => ⟨(hf b hb).2.2.2.1, (hf b hb).2.1, (hf b hb).2.2.2.2.1, (hf b hb).2.2.2.2.2⟩) (fun b u _ _ hc e _ => k b u hc e) (fun b u _ _ hc e _ => ⟨u.slots, k b u hc e⟩)
    (fun b u _ e n => n) (fun b u hc e => ⟨u, k b u hc e⟩) (fun b xs e => e) (fun b u v e => e) (fun b ps e => ⟨#[], by rw [e]; simp⟩) (fun m hm => ?_) (fun b u e => ?_) I.bare
  · obtain ⟨ob, es, ep, ho, r⟩ := hm
    exact ⟨ob, es, ep, k _ ob (fun z => (hf _ z).2.1 rfl) ho, r⟩
  · refine (I.hok b u e).stay (fun c v hc q => k c v ?_ q) (fun c q => q) fun c ys q => q
    rcases hc with z | z
    · rw [z]; exact nch b u e
    · exact nch c _ z
end
section
variable {X : Cx}
end
def Ite (K : PySem.W.Frag) (l : Addr) : It :=
  ⟨fun i H => ∃ xs x, SqL K H l xs ∧ xs[i]? = some x,
   fun i H v H' => ∃ p, v = .ref p ∧ H p = none ∧ ∀ xs x, SqL K H l xs → xs[i]? = some x → H' = upd H p (.tup [.int i, x]),
   fun i H => ∃ xs, SqL K H l xs ∧ xs.length ≤ i⟩
theorem turn_enum {P : Program} {w : World} {K : PySem.W.Frag} {es : List Expr} {kk : Nat} {pos : Pos} {e it l : Addr} (hne : e ≠ it) :
    Turn P w K (.Tuple es kk pos) (Ite K l) [e, it] e (fun i h => (∃ old, IsEnum h e it i old) ∧ h.IsListIter it l i) where
  mem := by simp
  obj := fun i h st b hb => by
    obtain ⟨⟨old, he⟩, ⟨o1, h1, _, h1d⟩⟩ := st
    simp only [List.mem_cons, List.not_mem_nil, or_false] at hb
    rcases hb with rfl | rfl
    · exact ⟨_, he, fun v q => by cases (show Data.fields _ = Data.cell v from q)⟩
    · exact ⟨_, h1, fun v q => by rw [h1d] at q; cases q⟩
  keep := fun i h h' st k => by
    obtain ⟨⟨old, he⟩, h1⟩ := st
    exact ⟨⟨old, k e (by simp) _ he⟩, h1.at fun o q => k it (by simp) o q⟩
  item := by
    intro X hP hw hK hc i pins s σ H E I hf st hg
    subst hP hw hK
    obtain ⟨⟨old, he⟩, h1⟩ := st
    obtain ⟨xs, x, hx1, hx⟩ := hg
    obtain ⟨its, rx, px, zx⟩ := I.list hx1
    obtain ⟨u, hu, ru⟩ := Vals.get rx hx
    refine wpAny_pyNext_enum_item he h1 px.isList (by simpa using hu) hne fun h' a1 a2 a3 a4 hk => ?_
    refine ⟨_, rfl, wpAny_letOwnedTupleGo_enum (s := { s with heap := h', toks := s.toks + 1 }) a1 fun h'' he'' hs'' => ?_⟩
    have lt : ∀ {c o}, s.heap.get? c = some o → s.heap.objs.size ≠ c := fun q => Nat.ne_of_gt (Heap.lt_size q)
    have k2 : ∀ b u, b ∉ [e, it] → s.heap.get? b = some u → h''.get? b = some u := fun b u hb q => by
      simp only [List.mem_cons, List.not_mem_nil, or_false, not_or] at hb
      exact hs''.extBut b u hb.1 (hk b u hb.1 hb.2 q)
    have new : h''.get? s.heap.objs.size = some { cls := .type "tuple", data := .seq #[.int i s.toks, u] } := hs''.extBut _ _ (lt he) a3
    refine ⟨.ref s.heap.objs.size, upd H s.heap.objs.size (.tup [.int i, x]), I.turnNew (t' := s.toks + 1) hf k2 (Nat.le_refl _) ⟨by show 2 ≤ sizeLine; decide, [.int i s.toks, u], .cons ⟨_, rfl⟩ (.cons ru .nil), _, new, rfl, _, rfl⟩, rfl, ⟨_, rfl, I.fresh, ?_⟩, ?_, fun b hb => ?_⟩
    · intro xs' x' hx1' hx'
      cases I.list_inj hx1 hx1'
      rw [hx] at hx'
      cases hx'
      rfl
    · exact ⟨⟨_, he''⟩, a2.extBut hs''.extBut (Ne.symm hne)⟩
    · have : ∃ o, s.heap.get? b = some o := by
        simp only [List.mem_cons, List.not_mem_nil, or_false] at hb
        obtain ⟨o1, e1, _⟩ := h1
        rcases hb with rfl | rfl
        · exact ⟨_, he⟩
        · exact ⟨_, e1⟩
      obtain ⟨o, q⟩ := this
      rw [upd_ne (lt q).symm]
      exact (hf b hb).1
  done := by
    intro X hP hw hK hc i pins s σ H E I hf st hg
    subst hP hw hK
    obtain ⟨⟨old, he⟩, h1⟩ := st
    obtain ⟨xs, hx1, hl⟩ := hg
    obtain ⟨its, rx, px, zx⟩ := I.list hx1
    have n1 := rx.length
    refine wpAny_pyNext_enum_end (I.ok.hd hc) he h1 px.isList (by rw [List.getElem?_toArray]; exact List.getElem?_eq_none (by omega)) fun h' hk => ⟨rfl, I.turnedL (t' := s.toks) hf fun b u hb q => ?_⟩
    simp only [List.mem_cons, List.not_mem_nil, or_false, not_or] at hb
    exact hk b u hb.2 q
  self := fun _ _ _ _ _ st h => by
    obtain ⟨⟨old, he⟩, _⟩ := st
    exact wpAny_pyIter_enum he h
section
variable {X : Cx}
end
end My
namespace My
open PySem PySem.Spec PyProof.Rows L2
end My
namespace My
open PySem PySem.Spec PyProof.Rows L2
section
variable {σ : L2.St} {H : Hp}
end
structure GotC (P : Program) (w : World) (K : PySem.W.Frag) (mg : Str → Option Value) (base : Heap) (k : Nat) (x : Str) (sp : Sp) : Prop where
  ex : ∃ (C f : Addr) (fd : FuncData) (ps : List Str) (sp0 : Sp), Mk K C f ∧ FnOk P w K mg base CX0 k f fd ps sp0 ∧ Binds K fd ps [] ∧ mg x = some (.ref C) ∧
    ∀ vs H Q, sp vs H Q E0 → ∀ x dx, H x = none → H dx = none → dx ≠ x → sp0 (.ref x :: vs) (upd (upd H dx (.own x)) x (.ins C dx [])) (fun v H2 => v = .non ∧ Q (.ref x) H2) E0
theorem pe_mk {X : Cx} {k j : Nat} {x : Str} {sp : Sp} {p pos : Pos} {e : Expr} {es : List Expr} {t : TA} (G : GotC X.prog X.w X.K X.mg X.base k x sp) (hr : Room j X.A) (hk : k + 1 ≤ j) (hg : Gl X x)
    (ha : PA X (e :: es) t) (hdb : (x == ("__debug__" : Str)) = false := by decide) (he : starEach (e :: es) X.env = (false, eval e X.env) :: starEach es X.env := by rfl) (hpl : (backTo pos (starEach es X.env)).any (·.1) = false := by rfl) :
    PE X (.Call (.Name x p) (e :: es) [] pos) (tCall sp [] E0 t) := by
  intro pins s σ H Q I h
  obtain ⟨C, f, fd, ps, sp0, M, F, b, hm, imp⟩ := G.ex
  refine wpAny_Call_Name_kw (ld_glob I hg hm ?_ hdb)
  refine PySem.W.callWith_K (h₀ := X.base) I.ok.mod.kin M.kp (thn (ha pos pins s σ H _ I h) fun us s1 ⟨vs, H1, I1, r, q⟩ => ⟨I1.kIn, ?_⟩) he hpl
  have q' : sp (vs ++ []) H1 Q E0 := q
  rw [List.append_nil] at q'
  exact run_make (dvs := []) (ds := []) M F (hr.mono hk) b .nil pass0 I1 r fun x dx h1 h2 h3 => by rw [List.append_nil]; exact imp vs H1 Q q' x dx h1 h2 h3
theorem pe_gint {X : Cx} {x : Str} {n : Int} {pos : Pos} (hg : Gl X x) (hm : ∃ t, X.mg x = some (.int n t)) (hd : (x == ("__debug__" : Str)) = false := by decide) : PE X (.Name x pos) (tC (.int n)) := by
  obtain ⟨t, ht⟩ := hm
  exact pe_glob (v := .int n) hg ht ⟨t, rfl⟩ hd
section
variable {σ : L2.St} {H : Hp} {K : PySem.W.Frag}
end
end My
namespace My
open PySem PySem.Spec PyProof.Rows L2
section
variable {X : Cx} {K : PySem.W.Frag}
theorem listIt {pins : List (Addr × Obj)} {σ : L2.St} {H : Hp} {s : Shared} {p : Addr} {its : List Value} (_ : Inv X pins σ H s) (pl : PlainL s.heap p its.toArray) :
    p < s.heap.objs.size ∧ (s.heap.push { cls := .type "list_iterator", data := .fields #[.ref p, .int 0 0] }).IsListIter s.heap.objs.size p 0 := by
  obtain ⟨o, ho, _⟩ := pl.isList
  exact ⟨Heap.lt_size ho, _, Heap.get?_push_size _ rfl, rfl, rfl⟩
theorem keptIt {H : Hp} {pins : List (Addr × Obj)} {σ : L2.St} {s : Shared} {h' : Heap} {tk : Nat} (I : Inv X pins σ H s) {o : Obj} (hk : ∀ b u, b ∉ [s.heap.objs.size] → (s.heap.push o).get? b = some u → h'.get? b = some u) :
    Inv X pins σ H { s with heap := h', toks := tk } := I.kept (t' := tk) fun d u e => hk d u (fun hm => by
      have h1 : d = s.heap.objs.size := by simpa using hm
      have h2 := Heap.lt_size e
      rw [h1] at h2
      exact Nat.lt_irrefl _ h2) (Heap.get?_push_of_some _ e)
def rAny (K : PySem.W.Frag) : List V → Hp → VK → Prop := fun xs H Q => ∃ (p : Addr) (bs : List Bool), xs = [.ref p] ∧ SqL K H p (bs.map V.bl) ∧ Q (.bl (bs.any id)) H
theorem bools_at {bs : List Bool} {its : List Value} (rv : Vals (bs.map V.bl) its) {i : Nat} {v : Value} (h : its.toArray[i]? = some v) : v = .bool (bs.getD i false) := by
  rw [← Array.getElem?_toList] at h
  have hi : i < its.length := by
    rcases Nat.lt_or_ge i its.length with g | g
    · exact g
    · rw [List.getElem?_eq_none (by simpa using g)] at h; cases h
  have hl := rv.length
  rw [List.length_map] at hl
  have e : (bs.map V.bl)[i]? = some (.bl (bs.getD i false)) := by
    rw [List.getElem?_map, List.getElem?_eq_getElem (by omega)]
    simp [List.getD_eq_getElem?_getD, List.getElem?_eq_getElem (show i < bs.length by omega)]
  obtain ⟨u, hu, ru⟩ := rv.get e
  rw [show its.toArray.toList = its from rfl, hu] at h
  cases h
  exact ru
theorem any_range (bs : List Bool) : (List.range bs.length).any (fun i => bs.getD i false) = bs.any id := by
  rw [Bool.eq_iff_iff, List.any_eq_true, List.any_eq_true]
  constructor
  · rintro ⟨i, hi, h⟩
    rw [List.mem_range] at hi
    refine ⟨bs[i], List.getElem_mem hi, ?_⟩
    simpa [List.getD_eq_getElem?_getD, List.getElem?_eq_getElem hi] using h
  · rintro ⟨b, hb, h⟩
    obtain ⟨i, hi, rfl⟩ := List.mem_iff_getElem.mp hb
    exact ⟨i, List.mem_range.mpr hi, by simpa [List.getD_eq_getElem?_getD, List.getElem?_eq_getElem hi] using h⟩
theorem call_anyK (hK : X.K = K) (hc : X.calm = true) : CallR X (.builtin "any") (rAny K) := fun pins s σ H xs us Q I r h => by
  subst hK
  obtain ⟨p, bs, rfl, hS, q⟩ := h
  obtain ⟨u, rfl, ru⟩ := vals1 r
  cases ru
  obtain ⟨its, rv, pl, hz⟩ := I.list hS
  obtain ⟨lt, st⟩ := listIt I pl
  have hl := rv.length
  rw [List.length_map] at hl
  have W := Walks.list (prog := X.prog) (w := X.w) (A := X.A.in1) (I.ok.hd hc) s.heap.objs.size p (Nat.ne_of_lt lt) its.toArray
  refine call_any_walk (wpAny_pyIter_list pl.isList ⟨s.heap.objs.size, [s.heap.objs.size, p], [s.heap.objs.size], _, _, _, fun i => bs.getD i false, rfl, W, ⟨st, pl.isList.push _⟩, ?_, ?_⟩)
  · intro i v s' Q' E' hv hq
    rw [bools_at rv hv]
    exact wpAny_truthy_bool hq
  · intro h' tk hk
    rw [List.size_toArray, ← hl, any_range]
    exact ⟨.bl _, H, keptIt (s := s) I hk, rfl, q⟩
def rTupL (K : PySem.W.Frag) : List V → Hp → VK → Prop := fun xs H Q => ∃ p ys, xs = [.ref p] ∧ ((SqL K H p ys ∧ ∀ l, H l = none → Q (.ref l) (upd H l (.tup ys))) ∨ (SqT K H p ys ∧ Q (.ref p) H))
theorem call_tupK (hK : X.K = K) : CallR X (.type "tuple") (rTupL K) := hK ▸ call_tuple_of
end
section
variable {X : Cx} {K : PySem.W.Frag}
def rCatS (K : PySem.W.Frag) : R2 := fun x y H Q => ∃ l b xs zs, x = .ref l ∧ y = .ref b ∧ SqL K H l xs ∧ SqL K H b zs ∧ xs.length + zs.length ≤ sizeLine ∧ ∀ p, H p = none → Q (.ref p) (upd H p (.lst (xs ++ zs)))
theorem op_catK (hK : X.K = K) : OpR X (binaryOp .Add) (rCatS K) := by
  subst hK
  intro pins s σ H x y v u Q I rx ry h
  obtain ⟨l, b, xs, zs, rfl, rfl, hH, hB, hz, q⟩ := h
  cases rx
  cases ry
  obtain ⟨its, r, pl, _⟩ := I.list hH
  obtain ⟨its2, r2, pl2, _⟩ := I.list hB
  obtain ⟨⟨cls, dd, data, sl⟩, ho, hc, n, hd⟩ := pl.isList
  obtain ⟨⟨cls2, dd2, data2, sl2⟩, ho2, hc2, n2, hd2⟩ := pl2.isList
  simp only at hc hd hc2 hd2
  subst hc hd hc2 hd2
  have e1 := r.length
  have e2 := r2.length
  refine concat_meets ⟨_, ho, rfl⟩ ⟨_, ho2, rfl⟩ noFill_list_add seq_list_add PySem.F.slot_list_add PySem.F.entry_list_add (PySem.F.args_list_add_2 _ _) (list_addW l b its.toArray its2.toArray n n2 dd dd2 sl sl2 (by rw [List.size_toArray, List.size_toArray]; omega)) ⟨ho, ho2, ?_⟩
  have ea : its.toArray ++ its2.toArray = (its ++ its2).toArray := by simp
  rw [ea]
  exact ⟨.ref _, _, I.lnew (t' := s.toks) (r.append r2) (by rw [List.length_append]; omega), rfl, q _ I.fresh⟩
end
end My
namespace My
open PySem PySem.Spec PyProof.Rows L2
section
variable {σ : L2.St} {K : PySem.W.Frag} {own : List Str} {fv : List Nat} {g : TG} {tc : TT} {te : TE} {R : Hp → Prop} {H1 : Hp} {p a : Addr} {xs : List V}
end
end My
namespace My
open PySem PySem.Spec PyProof.Rows L2
theorem lt_of_get {α : Type} {xs : List α} {i : Nat} {x : α} (h : xs[i]? = some x) : i < xs.length := by
  rcases Nat.lt_or_ge i xs.length with g | g
  · exact g
  · rw [List.getElem?_eq_none g] at h; cases h
end My
namespace My
open PySem PySem.W PyProof.Rows
section
variable {lt : Nat → Nat → Bool}
end
end My
namespace My
open PySem PySem.Spec PySem.W PyProof.Rows L2
section
variable {prog : Program} {w : World} {A : Around} {E : Value → Shared → Prop} {s : Shared}
end
end My
namespace My
open PySem PySem.Spec PyProof.Rows L2
section
variable {K : PySem.W.Frag} {H : Hp}
end
def rCatTT (K : PySem.W.Frag) : R2 := fun x y H Q => ∃ a b xs ys, x = .ref a ∧ y = .ref b ∧ SqT K H a xs ∧ SqT K H b ys ∧ xs.length + ys.length ≤ sizeLine ∧ (xs = [] → Q (.ref b) H) ∧ (xs ≠ [] → ys = [] → Q (.ref a) H) ∧ (xs ≠ [] → ys ≠ [] → ∀ p, H p = none → Q (.ref p) (upd H p (.tup (xs ++ ys))))
theorem op_catT2 {X : Cx} {K : PySem.W.Frag} (hK : X.K = K) : OpR X (binaryOp .Add) (rCatTT K) := by
  subst hK
  intro pins s σ H x y v u Q I rx ry h
  obtain ⟨a, b, xs, ys, rfl, rfl, ha, hb, hz, q0, q1, q2⟩ := h
  by_cases hx : xs = []
  · subst hx
    cases rx
    cases ry
    obtain ⟨its, r1, p1, _⟩ := I.tuple ha
    obtain ⟨its2, r2, p2, _⟩ := I.tuple hb
    cases r1
    obtain ⟨⟨cls, dd, data, sl⟩, ho, hc, n, hd⟩ := id p1
    obtain ⟨⟨cls2, dd2, data2, sl2⟩, ho2, hc2, n2, hd2⟩ := id p2
    simp only at hc hd hc2 hd2
    subst hc hd hc2 hd2
    exact concat_meets ⟨_, ho, rfl⟩ ⟨_, ho2, rfl⟩ noFill_tuple_add seq_tuple_add PySem.F.slot_tuple_add PySem.F.entry_tuple_add (PySem.F.args_tuple_add_2 _ _)
      (tuple_addW0 a b _ its2.toArray n n2 dd dd2 sl sl2 (by simp)) ⟨ho, ho2, ⟨.ref b, H, I, rfl, q0 rfl⟩⟩
  · exact op_catT pins s σ H _ _ v u Q I rx ry ⟨a, b, xs, ys, rfl, rfl, ha, hb, hx, hz, q1 hx, q2 hx⟩
end My
namespace Dp
open PySem
inductive D where
  | non | bl (b : Bool) | int (i : Int) | str (x : Str) | tup (xs : List D) | ref (n : Nat) | ty (n : String) | rl (xs : List D) | exn (c : Str)
  deriving Inhabited
inductive Cell where
  | lst (xs : List D) | ins (c : Str) (fs : List (Str × D))
  deriving Inhabited
abbrev Sto := List Cell
abbrev Rho := List (Option D)
abbrev DK := D → Sto → Prop
abbrev DE := Rho → Sto → DK → Prop
abbrev DT := Rho → Sto → (Bool → Sto → Prop) → Prop
abbrev DA := Rho → Sto → (List D → Sto → Prop) → Prop
abbrev DG := D → Rho → Sto → (Rho → Sto → Prop) → Prop
abbrev DGs := List D → Rho → Sto → (Rho → Sto → Prop) → Prop
structure DEnds where
  nx : Rho → Sto → Prop
  rt : DK
  bk : Rho → Sto → Prop := fun _ _ => False
  ct : Rho → Sto → Prop := fun _ _ => False
abbrev DS := DEnds → Rho → Sto → Prop
structure DIt where
  items : List D
  ok : Sto → Prop
abbrev DI := Rho → Sto → (DIt → Sto → Prop) → Prop
abbrev DSp := List D → Sto → DK → Prop
def big : Nat := 1000000
def fl : Nat → D → Bool
  | _, .ref _ => false
  | _, .ty _ => false
  | _, .rl _ => false
  | _, .exn _ => false
  | 0, .tup _ => false
  | k + 1, .tup xs => xs.all (fl k)
  | _, .non => true
  | _, .bl _ => true
  | _, .int _ => true
  | _, .str x => x.cps.all (· < 0x110000)
mutual
def eqv : D → D → Bool
  | .non, .non => true
  | .bl a, .bl b => a == b
  | .bl a, .int j => (if a then 1 else 0) == j
  | .int i, .bl b => i == (if b then 1 else 0)
  | .int i, .int j => decide (i = j)
  | .str x, .str y => x == y
  | .tup xs, .tup ys => eqvAll xs ys
  | _, _ => false
def eqvAll : List D → List D → Bool
  | [], [] => true
  | x :: xs, y :: ys => eqv x y && eqvAll xs ys
  | _, _ => false
end
def Lst (S : Sto) (x : D) (xs : List D) : Prop := x = .rl xs ∨ ∃ n, x = .ref n ∧ S[n]? = some (.lst xs)
def Seqs (S : Sto) (x : D) (xs : List D) : Prop := x = .tup xs ∨ Lst S x xs
def ixD (n : Nat) (k : Int) : Option Nat := if 0 ≤ k then (if k < n then some k.toNat else none) else if -(n : Int) ≤ k then some (k + n).toNat else none
def atD (xs : List D) (k : Int) : Option D := (ixD xs.length k).bind fun j => xs[j]?
def atS (z : Str) (k : Int) : Option Nat := (ixD z.cps.toList.length k).bind fun j => z.cps.toList[j]?
def slD (n : Nat) (d : Nat) : Option Int → Nat
  | none => d
  | some k => if k < 0 then (k + n).toNat else min k.toNat n
def cutD {α : Type} (xs : List α) (lo hi : Option Int) : List α := (xs.drop (slD xs.length 0 lo)).take (slD xs.length xs.length hi - slD xs.length 0 lo)
def dVar (i : Nat) : DE := fun ρ S Q => ∃ d, ρ[i]? = some (some d) ∧ Q d S
def dC (d : D) : DE := fun _ S Q => Q d S
abbrev DR2 := D → D → Sto → DK → Prop
def dOp (r : DR2) (ta tb : DE) : DE := fun ρ S Q => ta ρ S fun x S1 => tb ρ S1 fun y S2 => r x y S2 Q
def dUn (r : D → Sto → DK → Prop) (ta : DE) : DE := fun ρ S Q => ta ρ S fun x S1 => r x S1 Q
def dNil : DA := fun _ S Q => Q [] S
def dCons (ta : DE) (tr : DA) : DA := fun ρ S Q => ta ρ S fun x S1 => tr ρ S1 fun xs S2 => Q (x :: xs) S2
def dTup (t : DA) : DE := fun ρ S Q => t ρ S fun xs S1 => xs.length ≤ big ∧ Q (.tup xs) S1
def dLst (t : DA) : DE := fun ρ S Q => t ρ S fun xs S1 => xs.length ≤ big ∧ Q (.ref S1.length) (S1 ++ [.lst xs])
def dCall (f : DSp) (t : DA) : DE := fun ρ S Q => t ρ S fun xs S1 => f xs S1 Q
abbrev DB := List D → Sto → DK → Prop
def dB (r : DB) (t : DA) : DE := fun ρ S Q => t ρ S fun xs S1 => r xs S1 Q
def dT (t : DE) : DT := fun ρ S Q => t ρ S fun x S1 => ∃ b, x = .bl b ∧ Q b S1
def dAnd (t u : DT) : DT := fun ρ S Q => t ρ S fun c S1 => if c = true then u ρ S1 Q else Q false S1
def dOr (t u : DT) : DT := fun ρ S Q => t ρ S fun c S1 => if c = true then Q true S1 else u ρ S1 Q
def dNot (t : DT) : DT := fun ρ S Q => t ρ S fun c S1 => Q (!c) S1
def dAndV (t u : DE) : DE := fun ρ S Q => t ρ S fun x S1 => ∃ c, x = .bl c ∧ if c = true then u ρ S1 Q else Q (.bl false) S1
def dOrV (t u : DE) : DE := fun ρ S Q => t ρ S fun x S1 => ∃ c, x = .bl c ∧ if c = true then Q (.bl true) S1 else u ρ S1 Q
def dNotV (t : DE) : DE := fun ρ S Q => t ρ S fun x S1 => ∃ c, x = .bl c ∧ Q (.bl (!c)) S1
def dIfE (c : DT) (ta tb : DE) : DE := fun ρ S Q => c ρ S fun b S1 => if b = true then ta ρ S1 Q else tb ρ S1 Q
def dChain (r r' : DR2) (ta tb tc : DE) : DE := fun ρ S Q => ta ρ S fun x S1 => tb ρ S1 fun y S2 => r x y S2 fun z S3 => ∃ c, z = .bl c ∧ if c = true then tc ρ S3 fun w S4 => r' y w S4 Q else Q (.bl false) S3
def dOpt : Option DE → Rho → Sto → (Option Int → Sto → Prop) → Prop
  | none => fun _ S Q => Q none S
  | some t => fun ρ S Q => t ρ S fun x S1 => ∃ i, x = .int i ∧ Q (some i) S1
def dSl (r : D → Option Int → Option Int → Sto → DK → Prop) (ta : DE) (lo hi : Option DE) : DE := fun ρ S Q => ta ρ S fun x S1 => dOpt lo ρ S1 fun l S2 => dOpt hi ρ S2 fun h S3 => r x l h S3 Q
def dFld (f : Str) (ta : DE) : DE := fun ρ S Q => ta ρ S fun x S1 => ∃ n c fs d, x = .ref n ∧ S1[n]? = some (.ins c fs) ∧ fs.lookup f = some d ∧ Q d S1
def putD (f : Str) (v : D) : List (Str × D) → List (Str × D)
  | [] => [(f, v)]
  | (g, x) :: r => if g = f then (g, v) :: r else (g, x) :: putD f v r
def clsSp (c : Str) (init : DSp) : DSp := fun ds S Q => init (.ref S.length :: ds) (S ++ [.ins c []]) fun d S2 => d = .non ∧ Q (.ref S.length) S2
abbrev DM := D → List D → Sto → DK → Prop
def dM (r : DM) (ta : DE) (t : DA) : DE := fun ρ S Q => ta ρ S fun x S1 => (∃ n ys, x = .ref n ∧ S1[n]? = some (.lst ys)) ∧ t ρ S1 fun xs S2 => r x xs S2 Q
def oI (C : Int → Int → Prop) (g : Int → Int → D) : DR2 := fun x y S Q => ∃ i j, x = .int i ∧ y = .int j ∧ C i j ∧ Q (g i j) S
def oI0 (g : Int → Int → D) : DR2 := fun x y S Q => ∃ i j, x = .int i ∧ y = .int j ∧ Q (g i j) S
def oU (g : Int → D) : D → Sto → DK → Prop := fun x S Q => ∃ i, x = .int i ∧ Q (g i) S
def CMulD (i j : Int) : Prop := (My.Bd 8000 i ∧ My.Bd 8000 j) ∨ i.natAbs < 2 ^ 64 ∨ j.natAbs < 2 ^ 64
def CDivD (_ j : Int) : Prop := j ≠ 0 ∧ My.Bd 8000 j
def CModD (_ j : Int) : Prop := j ≠ 0
def oAdd : DR2 := fun x y S Q => (∃ i j, x = .int i ∧ y = .int j ∧ Q (.int (i + j)) S) ∨ (∃ xs ys, x = .tup xs ∧ y = .tup ys ∧ xs.length + ys.length ≤ big ∧ Q (.tup (xs ++ ys)) S) ∨
  (∃ xs ys, Lst S x xs ∧ Lst S y ys ∧ xs.length + ys.length ≤ big ∧ Q (.ref S.length) (S ++ [.lst (xs ++ ys)])) ∨
  (∃ i j : Str, x = .str i ∧ y = .str j ∧ i.length + j.length ≤ big ∧ Q (.str (i ++ j)) S)
def oSub : DR2 := oI0 fun i j => .int (i - j)
def mulS (z : Str) (n : Int) : Str := if n < 1 then Str.empty else if (n == 1 || z.length == 0) = true then z else ⟨(List.replicate n.toNat z.cps).foldl (· ++ ·) #[]⟩
def oMul : DR2 := fun x y S Q => oI CMulD (fun i j => .int (i * j)) x y S Q ∨ (∃ (z : Str) (n : Int), x = .str z ∧ y = .int n ∧ z.length ≤ 1000 ∧ -1000 ≤ n ∧ n ≤ 1000 ∧ Q (.str (mulS z n)) S)
def oDiv : DR2 := oI CDivD fun i j => .int (i.fdiv j)
def oMod : DR2 := oI CModD fun i j => .int (i.fmod j)
def oNeg : D → Sto → DK → Prop := oU fun i => .int (-i)
def oLt : DR2 := oI0 fun i j => .bl (decide (i < j))
def oLe : DR2 := oI0 fun i j => .bl (decide (i ≤ j))
def oGt : DR2 := oI0 fun i j => .bl (decide (j < i))
def oGe : DR2 := oI0 fun i j => .bl (decide (j ≤ i))
def EqD (S : Sto) (x y : D) (b : Bool) : Prop := (fl 20 x = true ∧ fl 20 y = true ∧ b = eqv x y) ∨ (∃ xs ys, Lst S x xs ∧ Lst S y ys ∧ xs.all (fl 20) = true ∧ ys.all (fl 20) = true ∧ b = eqvAll xs ys)
def oEq : DR2 := fun x y S Q => ∃ b, EqD S x y b ∧ Q (.bl b) S
def oNe : DR2 := fun x y S Q => ∃ b, EqD S x y b ∧ Q (.bl (!b)) S
def isNon : D → Bool
  | .non => true
  | _ => false
def oIs : DR2 := fun x y S Q => (y = .non ∧ Q (.bl (isNon x)) S) ∨ (∃ a b, x = .bl a ∧ y = .bl b ∧ Q (.bl (a == b)) S)
def oIx : DR2 := fun x y S Q => (∃ i xs d, y = .int i ∧ Seqs S x xs ∧ atD xs i = some d ∧ Q d S) ∨ (∃ (z : Str) (i : Int) (c : Nat), x = .str z ∧ y = .int i ∧ z.length ≤ big ∧ atS z i = some c ∧ Q (.str ⟨#[c]⟩) S)
def sCut : D → Option Int → Option Int → Sto → DK → Prop := fun x lo hi S Q => (∃ xs, x = .tup xs ∧ Q (.tup (cutD xs lo hi)) S) ∨ (∃ xs, Lst S x xs ∧ Q (.ref S.length) (S ++ [.lst (cutD xs lo hi)]))
def bLen : DB := fun vs S Q => (∃ x xs, vs = [x] ∧ Seqs S x xs ∧ Q (.int xs.length) S) ∨ (∃ z : Str, vs = [.str z] ∧ z.length ≤ big ∧ Q (.int z.length) S)
def bAbs : DB := fun vs S Q => ∃ i, vs = [.int i] ∧ Q (.int (i.natAbs : Int)) S
def bMax2 : DB := fun vs S Q => ∃ i j, vs = [.int i, .int j] ∧ Q (.int (max i j)) S
def bMin2 : DB := fun vs S Q => ∃ i j, vs = [.int i, .int j] ∧ Q (.int (min i j)) S
def bAny : DB := fun vs S Q => ∃ x bs, vs = [x] ∧ Lst S x (List.map D.bl bs) ∧ Q (.bl (bs.any id)) S
def bTuple : DB := fun vs S Q => ∃ x xs, vs = [x] ∧ Seqs S x xs ∧ Q (.tup xs) S
def bList : DB := fun vs S Q => ∃ x xs, vs = [x] ∧ Seqs S x xs ∧ Q (.ref S.length) (S ++ [.lst xs])
abbrev p2 (c : Int × Int) : D := .tup [.int c.1, .int c.2]
def mAppend : DM := fun x vs S Q => ∃ n xs y, x = .ref n ∧ vs = [y] ∧ S[n]? = some (.lst xs) ∧ xs.length < big ∧ Q .non (S.set n (.lst (xs ++ [y])))
def mPop : DM := fun x vs S Q => ∃ n xs y, x = .ref n ∧ vs = [] ∧ S[n]? = some (.lst (xs ++ [y])) ∧ Q y (S.set n (.lst xs))
def mReverse : DM := fun x vs S Q => ∃ n xs, x = .ref n ∧ vs = [] ∧ S[n]? = some (.lst xs) ∧ Q .non (S.set n (.lst xs.reverse))
def gName (i : Nat) : DG := fun d ρ S Q => Q (ρ.set i (some d)) S
def gNil : DGs := fun ds ρ S Q => ds = [] ∧ Q ρ S
def gCons (t : DG) (u : DGs) : DGs := fun ds ρ S Q => ∃ d r, ds = d :: r ∧ t d ρ S fun ρ' S' => u r ρ' S' Q
def gTup (n : Nat) (t : DGs) : DG := fun d ρ S Q => ∃ xs, d = .tup xs ∧ xs.length = n ∧ t xs ρ S Q
def gSub (to ti : DE) : DG := fun d ρ S Q => to ρ S fun o S1 => ti ρ S1 fun i S2 => ∃ n xs k j, o = .ref n ∧ i = .int k ∧ S2[n]? = some (.lst xs) ∧ ixD xs.length k = some j ∧ Q ρ (S2.set n (.lst (xs.set j d)))
def sSeq (t u : DS) : DS := fun E ρ S => t { E with nx := u E } ρ S
def sNext : DS := fun E ρ S => E.nx ρ S
def sRet (t : DE) : DS := fun E ρ S => t ρ S E.rt
def sDrop (t : DE) : DS := fun E ρ S => t ρ S fun _ S1 => E.nx ρ S1
def sAsg (t : DE) (g : DG) : DS := fun E ρ S => t ρ S fun x S1 => g x ρ S1 E.nx
def sIf (c : DT) (t u : DS) : DS := fun E ρ S => c ρ S fun b S1 => if b = true then t E ρ S1 else u E ρ S1
def sJ (t : DS) : DS := fun E ρ S => ∃ J : Rho → Sto → Prop, (∀ ρ S, J ρ S → E.nx ρ S) ∧ t { E with nx := J } ρ S
def sNever : DS := fun _ _ _ => False
def sFldS (c f : Str) (to tv : DE) : DS := fun E ρ S => tv ρ S fun y S1 => to ρ S1 fun x S2 => ∃ n fs, x = .ref n ∧ S2[n]? = some (.ins c fs) ∧ fs.length < 100 ∧ E.nx ρ (S2.set n (.ins c (putD f y fs)))
def sAug (i : Nat) (t : DE) : DS := fun E ρ S => ∃ a, ρ[i]? = some (some (.int a)) ∧ t ρ S fun y S1 => ∃ b, y = .int b ∧ E.nx (ρ.set i (some (.int (a + b)))) S1
def sWhile (c : DT) (t : DS) : DS := fun E ρ S => ∃ W : Nat → Rho → Sto → Prop, (∃ m, W m ρ S) ∧ ∀ m ρ S, W m ρ S →
  c ρ S fun b S1 => if b = true then ∃ N : Rho → Sto → Prop, (∀ ρ' S', N ρ' S' → ∃ m', m' < m ∧ W m' ρ' S') ∧ t { E with nx := N, ct := N, bk := E.nx } ρ S1 else E.nx ρ S1
def sFor (wi : DI) (g : DG) (t : DS) : DS := fun E ρ S => wi ρ S fun J S1 => ∃ W : Nat → Rho → Sto → Prop, W 0 ρ S1 ∧ (∀ i ρ S, W i ρ S → J.ok S) ∧
  (∀ i d ρ S, J.items[i]? = some d → W i ρ S → g d ρ S fun ρ2 S2 => t { E with nx := W (i + 1), ct := W (i + 1), bk := E.nx } ρ2 S2) ∧ ∀ ρ S, W J.items.length ρ S → E.nx ρ S
def signs (z : Str) : List D := z.cps.toList.map fun c => .str ⟨#[c]⟩
def SeqIt (x : D) (S1 : Sto) (R : DIt → Sto → Prop) : Prop := (∃ xs, x = .tup xs ∧ R ⟨xs, fun _ => True⟩ S1) ∨ (∃ xs, Lst S1 x xs ∧ R ⟨xs, fun S => Lst S x xs⟩ S1) ∨ (∃ z : Str, x = .str z ∧ R ⟨signs z, fun _ => True⟩ S1)
def iSeq (t : DE) : DI := fun ρ S R => t ρ S fun x S1 => SeqIt x S1 R
def upto (lo : Int) (n : Nat) : List D := (List.range n).map fun k : Nat => D.int (lo + (k : Int))
def iRng1 (t : DA) : DI := fun ρ S R => t ρ S fun vs S1 => ∃ j : Int, vs = [.int j] ∧ -(2 ^ 62) ≤ j ∧ j < 2 ^ 62 ∧ R ⟨upto 0 j.toNat, fun _ => True⟩ S1
def iRng2 (t : DA) : DI := fun ρ S R => t ρ S fun vs S1 => ∃ i j : Int, vs = [.int i, .int j] ∧ R ⟨upto i (j - i).toNat, fun _ => True⟩ S1
def enumD : Nat → List D → List D
  | _, [] => []
  | k, x :: xs => .tup [.int (k : Nat), x] :: enumD (k + 1) xs
def EnumGo (R : DIt → Sto → Prop) (vs : List D) (S1 : Sto) : Prop := (∃ x xs, vs = [x] ∧ Lst S1 x xs ∧ R ⟨enumD 0 xs, fun S => Lst S x xs⟩ S1) ∨ (∃ xs, vs = [.tup xs] ∧ R ⟨enumD 0 xs, fun _ => True⟩ S1)
def iEnum (t : DA) : DI := fun ρ S R => t ρ S (EnumGo R)
def cstD (own : Nat) (fv : List Nat) (ρ : Rho) : Rho := List.replicate own none ++ fv.map fun j => (ρ[j]?).join
def dTrue : DT := fun _ S Q => Q true S
def dLC (own : Nat) (fv : List Nat) (wi : DI) (g : DG) (tc : DT) (te : DE) : DE := fun ρ S Q => wi ρ S fun J S1 => J.items.length ≤ big ∧ ∃ W : Nat → List D → Sto → Prop, W 0 [] S1 ∧ (∀ i ys S, W i ys S → J.ok S) ∧
  (∀ i d ys S, J.items[i]? = some d → W i ys S → g d (cstD own fv ρ) S fun ρ2 S2 => tc ρ2 S2 fun b S3 => if b = true then te ρ2 S3 fun y S4 => W (i + 1) (ys ++ [y]) S4 else W (i + 1) ys S3) ∧
  ∀ ys S, W J.items.length ys S → Q (.ref S.length) (S ++ [.lst ys])
def fc : Cell → Bool
  | .lst xs => xs.all (fl 20)
  | .ins _ _ => false
def Fin (S : Sto) (Q : DK) : DK := fun d S' => Q d S' ∨ ∃ S1, S1 <+: S' ∧ S.length ≤ S1.length ∧ (fl 20 d = true ∨ ∃ n, d = .ref n ∧ n < S1.length) ∧ (∀ (n : Nat) c, S1[n]? = some c → S[n]? = some c ∨ fc c = true) ∧ Q d S1
def startD (n : Nat) (ds : List D) : Rho := ds.map some ++ List.replicate (n - ds.length) none
def BodyOk (n : Nat) (b : DS) (f : DSp) : Prop := ∀ ds S Q, f ds S Q → b ⟨fun _ S' => Fin S Q .non S', Fin S Q, fun _ _ => False, fun _ _ => False⟩ (startD n ds) S
abbrev XD := Str → Sto → Prop
abbrev XR := Rho → Str → Sto → Prop
abbrev DSpX := List D → Sto → DK → XD → Prop
def dCallX (f : DSpX) (ex : XR) (t : DA) : DE := fun ρ S Q => t ρ S fun xs S1 => f xs S1 Q (ex ρ)
def xF : XR := fun _ _ _ => False
def sRaise (ex : XR) (c : Str) : DS := fun _ ρ S => ex ρ c S
def BodyOkX (n : Nat) (b : XR → DS) (f : DSpX) : Prop := ∀ ds S Q ex, f ds S Q ex → b (fun _ => ex) ⟨fun _ S' => Fin S Q .non S', Fin S Q, fun _ _ => False, fun _ _ => False⟩ (startD n ds) S
end Dp
namespace Dp
open PySem
def New (Q : DK) (S : Sto) (xs : List D) : Prop := Q (.ref S.length) (S ++ [.lst xs])
def Put (Q : Sto → Prop) (S : Sto) (n : Nat) (c : Cell) : Prop := Q (S.set n c)
def LcGo (own : Nat) (fv : List Nat) (g : DG) (tc : DT) (te : DE) (ρ : Rho) (Q : DK) (J : DIt) (S : Sto) : Prop := J.items.length ≤ big ∧ ∃ W : Nat → List D → Sto → Prop, W 0 [] S ∧ (∀ i ys S, W i ys S → J.ok S) ∧
  (∀ i d ys S, J.items[i]? = some d → W i ys S → g d (cstD own fv ρ) S fun ρ2 S2 => tc ρ2 S2 fun b S3 => if b = true then te ρ2 S3 fun y S4 => W (i + 1) (ys ++ [y]) S4 else W (i + 1) ys S3) ∧
  ∀ ys S, W J.items.length ys S → New Q S ys
def SubGo (d : D) (ρ : Rho) (Q : Rho → Sto → Prop) (o i : D) (S2 : Sto) : Prop := ∃ n xs k j, o = .ref n ∧ i = .int k ∧ S2[n]? = some (.lst xs) ∧ ixD xs.length k = some j ∧ Q ρ (S2.set n (.lst (xs.set j d)))
def ForGo (nx : Rho → Sto → Prop) (rt : DK) (g : DG) (t : DS) (ρ : Rho) (J : DIt) (S : Sto) : Prop := ∃ W : Nat → Rho → Sto → Prop, W 0 ρ S ∧ (∀ i ρ S, W i ρ S → J.ok S) ∧
  (∀ i d ρ S, J.items[i]? = some d → W i ρ S → g d ρ S fun ρ2 S2 => t ⟨W (i + 1), rt, nx, W (i + 1)⟩ ρ2 S2) ∧ ∀ ρ S, W J.items.length ρ S → nx ρ S
def TurnD (W : Nat → Rho → Sto → Prop) (m : Nat) (t : DS) (rt : DK) (nx : Rho → Sto → Prop) (ρ : Rho) (S : Sto) : Prop := ∃ N : Rho → Sto → Prop, (∀ ρ' S', N ρ' S' → ∃ m', m' < m ∧ W m' ρ' S') ∧ t ⟨N, rt, nx, N⟩ ρ S
theorem for_by {nx : Rho → Sto → Prop} {rt : DK} {g : DG} {t : DS} {ρ : Rho} {xs : List D} {ok : Sto → Prop} {S : Sto} (W : Nat → Rho → Sto → Prop) (h0 : W 0 ρ S) (hok : ∀ i ρ S, W i ρ S → ok S)
    (step : ∀ i d ρ S, xs[i]? = some d → W i ρ S → g d ρ S fun ρ2 S2 => t ⟨W (i + 1), rt, nx, W (i + 1)⟩ ρ2 S2) (fin : ∀ ρ S, W xs.length ρ S → nx ρ S) : ForGo nx rt g t ρ ⟨xs, ok⟩ S := ⟨W, h0, hok, step, fin⟩
theorem new_0 {S : Sto} {Q : DK} {xs : List D} (h : Q (.ref S.length) (S ++ [.lst xs])) : New Q S xs := h
theorem new_A {S T : Sto} {Q : DK} {xs : List D} (h : Q (.ref (S.length + T.length)) (S ++ (T ++ [.lst xs]))) : New Q (S ++ T) xs := by
  unfold New; rw [List.length_append, List.append_assoc]; exact h
section
variable {S : Sto} {Q : DK} {xs : List D} {a b c d e f : Cell}
theorem new_1 (h : Q (.ref (S.length + 1)) (S ++ [a, .lst xs])) : New Q (S ++ [a]) xs := new_A h
theorem new_2 (h : Q (.ref (S.length + 2)) (S ++ [a, b, .lst xs])) : New Q (S ++ [a, b]) xs := new_A h
theorem new_3 (h : Q (.ref (S.length + 3)) (S ++ [a, b, c, .lst xs])) : New Q (S ++ [a, b, c]) xs := new_A h
theorem new_4 (h : Q (.ref (S.length + 4)) (S ++ [a, b, c, d, .lst xs])) : New Q (S ++ [a, b, c, d]) xs := new_A h
end
theorem put_A0 {S : Sto} {a : Cell} {T : Sto} {Q : Sto → Prop} {c : Cell} (h : Q (S ++ c :: T)) : Put Q (S ++ a :: T) S.length c := by
  unfold Put; rw [List.set_append_right _ _ (Nat.le_refl _), Nat.sub_self]; exact h
theorem put_A {S T : Sto} {Q : Sto → Prop} {k : Nat} {c : Cell} (h : Q (S ++ T.set k c)) : Put Q (S ++ T) (S.length + k) c := by
  unfold Put; rw [List.set_append_right _ _ (Nat.le_add_right _ _), Nat.add_sub_cancel_left]; exact h
section
variable {nx : Rho → Sto → Prop} {rt : DK} {bk ct : Rho → Sto → Prop} {ρ : Rho} {S : Sto}
theorem r_seq {t u : DS} (h : t ⟨u ⟨nx, rt, bk, ct⟩, rt, bk, ct⟩ ρ S) : sSeq t u ⟨nx, rt, bk, ct⟩ ρ S := h
theorem r_J {t : DS} (J : Rho → Sto → Prop) (h : t ⟨J, rt, bk, ct⟩ ρ S) (hJ : ∀ ρ S, J ρ S → nx ρ S) : sJ t ⟨nx, rt, bk, ct⟩ ρ S := ⟨J, hJ, h⟩
theorem r_next (h : nx ρ S) : sNext ⟨nx, rt, bk, ct⟩ ρ S := h
theorem r_ret {t : DE} (h : t ρ S rt) : sRet t ⟨nx, rt, bk, ct⟩ ρ S := h
theorem r_drop {t : DE} (h : t ρ S fun _ S1 => nx ρ S1) : sDrop t ⟨nx, rt, bk, ct⟩ ρ S := h
theorem r_asg {t : DE} {g : DG} (h : t ρ S fun x S1 => g x ρ S1 nx) : sAsg t g ⟨nx, rt, bk, ct⟩ ρ S := h
theorem r_if {c : DT} {t u : DS} (h : c ρ S fun b S1 => if b = true then t ⟨nx, rt, bk, ct⟩ ρ S1 else u ⟨nx, rt, bk, ct⟩ ρ S1) : sIf c t u ⟨nx, rt, bk, ct⟩ ρ S := h
theorem r_fldS {c f : Str} {to tv : DE} (h : tv ρ S fun y S1 => to ρ S1 fun x S2 => ∃ n fs, x = .ref n ∧ S2[n]? = some (.ins c fs) ∧ fs.length < 100 ∧ nx ρ (S2.set n (.ins c (putD f y fs)))) : sFldS c f to tv ⟨nx, rt, bk, ct⟩ ρ S := h
theorem r_aug {i : Nat} {t : DE} {a : Int} (e : ρ[i]? = some (some (.int a))) (h : t ρ S fun y S1 => ∃ b, y = .int b ∧ nx (ρ.set i (some (.int (a + b)))) S1) : sAug i t ⟨nx, rt, bk, ct⟩ ρ S := ⟨a, e, h⟩
theorem r_for {wi : DI} {g : DG} {t : DS} (h : wi ρ S fun J S1 => ForGo nx rt g t ρ J S1) : sFor wi g t ⟨nx, rt, bk, ct⟩ ρ S := h
theorem w_by {c : DT} {t : DS} (W : Nat → Rho → Sto → Prop) (m : Nat) (h0 : W m ρ S) (h : ∀ m ρ S, W m ρ S → c ρ S fun b S1 => if b = true then TurnD W m t rt nx ρ S1 else nx ρ S1) : sWhile c t ⟨nx, rt, bk, ct⟩ ρ S := ⟨W, ⟨m, h0⟩, h⟩
theorem r_turn {t : DS} {W : Nat → Rho → Sto → Prop} {m : Nat} (h : t ⟨fun ρ' S' => ∃ m', m' < m ∧ W m' ρ' S', rt, nx, fun ρ' S' => ∃ m', m' < m ∧ W m' ρ' S'⟩ ρ S) : TurnD W m t rt nx ρ S := ⟨_, fun _ _ z => z, h⟩
theorem r_gname {i : Nat} {d : D} {Q : Rho → Sto → Prop} (h : Q (ρ.set i (some d)) S) : gName i d ρ S Q := h
theorem r_gnil {Q : Rho → Sto → Prop} (h : Q ρ S) : gNil [] ρ S Q := ⟨rfl, h⟩
theorem r_gcons {t : DG} {u : DGs} {d : D} {r : List D} {Q : Rho → Sto → Prop} (h : t d ρ S fun ρ' S' => u r ρ' S' Q) : gCons t u (d :: r) ρ S Q := ⟨d, r, rfl, h⟩
theorem r_gtup {n : Nat} {t : DGs} {xs : List D} {Q : Rho → Sto → Prop} (e : xs.length = n) (h : t xs ρ S Q) : gTup n t (.tup xs) ρ S Q := ⟨xs, rfl, e, h⟩
theorem r_gsub {to ti : DE} {d : D} {Q : Rho → Sto → Prop} (h : to ρ S fun o S1 => ti ρ S1 fun i S2 => SubGo d ρ Q o i S2) : gSub to ti d ρ S Q := h
theorem r_var {i : Nat} {d : D} {Q : DK} (h : ρ[i]? = some (some d)) (q : Q d S) : dVar i ρ S Q := ⟨d, h, q⟩
theorem r_c {d : D} {Q : DK} (q : Q d S) : dC d ρ S Q := q
theorem r_op {r : DR2} {ta tb : DE} {Q : DK} (h : ta ρ S fun x S1 => tb ρ S1 fun y S2 => r x y S2 Q) : dOp r ta tb ρ S Q := h
theorem r_un {r : D → Sto → DK → Prop} {ta : DE} {Q : DK} (h : ta ρ S fun x S1 => r x S1 Q) : dUn r ta ρ S Q := h
theorem r_nil {Q : List D → Sto → Prop} (h : Q [] S) : dNil ρ S Q := h
theorem r_cons {ta : DE} {tr : DA} {Q : List D → Sto → Prop} (h : ta ρ S fun x S1 => tr ρ S1 fun xs S2 => Q (x :: xs) S2) : dCons ta tr ρ S Q := h
theorem r_tup {t : DA} {Q : DK} (h : t ρ S fun xs S1 => xs.length ≤ big ∧ Q (.tup xs) S1) : dTup t ρ S Q := h
theorem r_lst {t : DA} {Q : DK} (h : t ρ S fun xs S1 => xs.length ≤ big ∧ New Q S1 xs) : dLst t ρ S Q := h
theorem r_few {xs : List D} {P : Prop} (h : Nat.ble xs.length big = true) (q : P) : xs.length ≤ big ∧ P := ⟨Nat.le_of_ble_eq_true h, q⟩
theorem r_call {f : DSp} {t : DA} {Q : DK} (h : t ρ S fun xs S1 => f xs S1 Q) : dCall f t ρ S Q := h
theorem r_b {r : DB} {t : DA} {Q : DK} (h : t ρ S fun xs S1 => r xs S1 Q) : dB r t ρ S Q := h
theorem r_m {r : DM} {ta : DE} {t : DA} {Q : DK} (h : ta ρ S fun x S1 => (∃ n ys, x = .ref n ∧ S1[n]? = some (.lst ys)) ∧ t ρ S1 fun xs S2 => r x xs S2 Q) : dM r ta t ρ S Q := h
theorem r_isl {n : Nat} {ys : List D} {P : Prop} (h : S[n]? = some (.lst ys)) (q : P) : (∃ m ys, D.ref n = .ref m ∧ S[m]? = some (.lst ys)) ∧ P := ⟨⟨n, ys, rfl, h⟩, q⟩
theorem r_t {t : DE} {Q : Bool → Sto → Prop} (h : t ρ S fun x S1 => ∃ b, x = .bl b ∧ Q b S1) : dT t ρ S Q := h
theorem r_bl {c : Bool} {P : Bool → Prop} (h : P c) : ∃ b, D.bl c = D.bl b ∧ P b := ⟨c, rfl, h⟩
theorem r_int {c : Int} {P : Int → Prop} (h : P c) : ∃ b, D.int c = D.int b ∧ P b := ⟨c, rfl, h⟩
theorem r_and {t u : DT} {Q : Bool → Sto → Prop} (h : t ρ S fun c S1 => if c = true then u ρ S1 Q else Q false S1) : dAnd t u ρ S Q := h
theorem r_or {t u : DT} {Q : Bool → Sto → Prop} (h : t ρ S fun c S1 => if c = true then Q true S1 else u ρ S1 Q) : dOr t u ρ S Q := h
theorem r_not {t : DT} {Q : Bool → Sto → Prop} (h : t ρ S fun c S1 => Q (!c) S1) : dNot t ρ S Q := h
theorem r_andV {t u : DE} {Q : DK} (h : t ρ S fun x S1 => ∃ c, x = .bl c ∧ if c = true then u ρ S1 Q else Q (.bl false) S1) : dAndV t u ρ S Q := h
theorem r_orV {t u : DE} {Q : DK} (h : t ρ S fun x S1 => ∃ c, x = .bl c ∧ if c = true then Q (.bl true) S1 else u ρ S1 Q) : dOrV t u ρ S Q := h
theorem r_notV {t : DE} {Q : DK} (h : t ρ S fun x S1 => ∃ c, x = .bl c ∧ Q (.bl (!c)) S1) : dNotV t ρ S Q := h
theorem r_ifE {c : DT} {ta tb : DE} {Q : DK} (h : c ρ S fun b S1 => if b = true then ta ρ S1 Q else tb ρ S1 Q) : dIfE c ta tb ρ S Q := h
theorem r_chain {r r' : DR2} {ta tb tc : DE} {Q : DK} (h : ta ρ S fun x S1 => tb ρ S1 fun y S2 => r x y S2 fun z S3 => ∃ c, z = .bl c ∧ if c = true then tc ρ S3 fun w S4 => r' y w S4 Q else Q (.bl false) S3) : dChain r r' ta tb tc ρ S Q := h
theorem r_fld {f : Str} {ta : DE} {Q : DK} (h : ta ρ S fun x S1 => ∃ n c fs d, x = .ref n ∧ S1[n]? = some (.ins c fs) ∧ fs.lookup f = some d ∧ Q d S1) : dFld f ta ρ S Q := h
theorem r_sl {r : D → Option Int → Option Int → Sto → DK → Prop} {ta : DE} {lo hi : Option DE} {Q : DK} (h : ta ρ S fun x S1 => dOpt lo ρ S1 fun l S2 => dOpt hi ρ S2 fun h S3 => r x l h S3 Q) : dSl r ta lo hi ρ S Q := h
theorem r_opt0 {Q : Option Int → Sto → Prop} (h : Q none S) : dOpt none ρ S Q := h
theorem r_opt1 {t : DE} {Q : Option Int → Sto → Prop} (h : t ρ S fun x S1 => ∃ i, x = .int i ∧ Q (some i) S1) : dOpt (some t) ρ S Q := h
theorem r_true {Q : Bool → Sto → Prop} (h : Q true S) : dTrue ρ S Q := h
end
section
variable {S : Sto} {Q : DK}
theorem o_add {i j : Int} (q : Q (.int (i + j)) S) : oAdd (.int i) (.int j) S Q := .inl ⟨i, j, rfl, rfl, q⟩
theorem o_addL {x y : D} {xs ys : List D} (hx : Lst S x xs) (hy : Lst S y ys) (h : xs.length + ys.length ≤ big) (q : New Q S (xs ++ ys)) : oAdd x y S Q := .inr (.inr (.inl ⟨xs, ys, hx, hy, h, q⟩))
theorem o_addS {i j : Str} (h : i.length + j.length ≤ big) (q : Q (.str (i ++ j)) S) : oAdd (.str i) (.str j) S Q := .inr (.inr (.inr ⟨i, j, rfl, rfl, h, q⟩))
theorem o_sub {i j : Int} (q : Q (.int (i - j)) S) : oSub (.int i) (.int j) S Q := ⟨i, j, rfl, rfl, q⟩
theorem o_mul {i j : Int} (c : CMulD i j) (q : Q (.int (i * j)) S) : oMul (.int i) (.int j) S Q := .inl ⟨i, j, rfl, rfl, c, q⟩
theorem o_div {i j : Int} (c : 0 < j ∧ My.Bd 8000 j) (q : Q (.int (i / j)) S) : oDiv (.int i) (.int j) S Q := ⟨i, j, rfl, rfl, ⟨by omega, c.2⟩, by show Q (.int (i.fdiv j)) S; rw [Int.fdiv_eq_ediv_of_nonneg i (by omega)]; exact q⟩
theorem o_mod {i j : Int} (c : 0 < j) (q : Q (.int (i % j)) S) : oMod (.int i) (.int j) S Q := ⟨i, j, rfl, rfl, (by show j ≠ 0; omega), by show Q (.int (i.fmod j)) S; rw [Int.fmod_eq_emod_of_nonneg i (by omega)]; exact q⟩
theorem o_divN {i j : Int} (c : CDivD i j) (q : Q (.int (i.fdiv j)) S) : oDiv (.int i) (.int j) S Q := ⟨i, j, rfl, rfl, c, q⟩
theorem o_modN {i j : Int} (c : j ≠ 0) (q : Q (.int (i.fmod j)) S) : oMod (.int i) (.int j) S Q := ⟨i, j, rfl, rfl, c, q⟩
theorem o_neg {i : Int} (q : Q (.int (-i)) S) : oNeg (.int i) S Q := ⟨i, rfl, q⟩
theorem o_lt {i j : Int} (q : Q (.bl (decide (i < j))) S) : oLt (.int i) (.int j) S Q := ⟨i, j, rfl, rfl, q⟩
theorem o_le {i j : Int} (q : Q (.bl (decide (i ≤ j))) S) : oLe (.int i) (.int j) S Q := ⟨i, j, rfl, rfl, q⟩
theorem o_gt {i j : Int} (q : Q (.bl (decide (j < i))) S) : oGt (.int i) (.int j) S Q := ⟨i, j, rfl, rfl, q⟩
theorem o_ge {i j : Int} (q : Q (.bl (decide (j ≤ i))) S) : oGe (.int i) (.int j) S Q := ⟨i, j, rfl, rfl, q⟩
theorem o_eqI {i j : Int} (q : Q (.bl (decide (i = j))) S) : oEq (.int i) (.int j) S Q := ⟨_, .inl ⟨rfl, rfl, rfl⟩, q⟩
theorem o_neI {i j : Int} (q : Q (.bl (!decide (i = j))) S) : oNe (.int i) (.int j) S Q := ⟨_, .inl ⟨rfl, rfl, rfl⟩, q⟩
theorem o_eqB {i j : Bool} (q : Q (.bl (i == j)) S) : oEq (.bl i) (.bl j) S Q := ⟨_, .inl ⟨rfl, rfl, rfl⟩, q⟩
theorem o_neB {i j : Bool} (q : Q (.bl (!(i == j))) S) : oNe (.bl i) (.bl j) S Q := ⟨_, .inl ⟨rfl, rfl, rfl⟩, q⟩
theorem o_is0 (q : Q (.bl true) S) : oIs .non .non S Q := .inl ⟨rfl, q⟩
theorem o_is1 {i : Int} (q : Q (.bl false) S) : oIs (.int i) .non S Q := .inl ⟨rfl, q⟩
theorem o_is2 {xs : List D} (q : Q (.bl false) S) : oIs (.tup xs) .non S Q := .inl ⟨rfl, q⟩
theorem o_ixT {xs : List D} {i : Int} {d : D} (e : atD xs i = some d) (q : Q d S) : oIx (.tup xs) (.int i) S Q := .inl ⟨i, xs, d, rfl, .inl rfl, e, q⟩
theorem o_ixL {x : D} {xs : List D} {i : Int} {d : D} (h : Lst S x xs) (e : atD xs i = some d) (q : Q d S) : oIx x (.int i) S Q := .inl ⟨i, xs, d, rfl, .inr h, e, q⟩
theorem o_ixS {z : Str} {i : Int} {c : Nat} (hz : z.length ≤ big) (e : atS z i = some c) (q : Q (.str ⟨#[c]⟩) S) : oIx (.str z) (.int i) S Q := .inr ⟨z, i, c, rfl, rfl, hz, e, q⟩
theorem o_cutT {xs : List D} {lo hi : Option Int} (q : Q (.tup (cutD xs lo hi)) S) : sCut (.tup xs) lo hi S Q := .inl ⟨xs, rfl, q⟩
theorem o_cutL {x : D} {xs : List D} {lo hi : Option Int} (h : Lst S x xs) (q : New Q S (cutD xs lo hi)) : sCut x lo hi S Q := .inr ⟨xs, h, q⟩
theorem b_lenT {xs : List D} (q : Q (.int xs.length) S) : bLen [.tup xs] S Q := .inl ⟨_, xs, rfl, .inl rfl, q⟩
theorem b_lenL {x : D} {xs : List D} (h : Lst S x xs) (q : Q (.int xs.length) S) : bLen [x] S Q := .inl ⟨_, xs, rfl, .inr h, q⟩
theorem b_abs {i : Int} (q : Q (.int (i.natAbs : Int)) S) : bAbs [.int i] S Q := ⟨i, rfl, q⟩
theorem b_max2 {i j : Int} (q : Q (.int (max i j)) S) : bMax2 [.int i, .int j] S Q := ⟨i, j, rfl, q⟩
theorem b_min2 {i j : Int} (q : Q (.int (min i j)) S) : bMin2 [.int i, .int j] S Q := ⟨i, j, rfl, q⟩
theorem b_any {x : D} {bs : List Bool} (h : Lst S x (bs.map D.bl)) (q : Q (.bl (bs.any id)) S) : bAny [x] S Q := ⟨x, bs, rfl, h, q⟩
theorem b_tupleL {x : D} {xs : List D} (h : Lst S x xs) (q : Q (.tup xs) S) : bTuple [x] S Q := ⟨_, xs, rfl, .inr h, q⟩
theorem b_listL {x : D} {xs : List D} (h : Lst S x xs) (q : New Q S xs) : bList [x] S Q := ⟨_, xs, rfl, .inr h, q⟩
theorem m_append {n : Nat} {xs : List D} {y : D} (h : S[n]? = some (.lst xs)) (hl : xs.length < big) (q : Put (Q .non) S n (.lst (xs ++ [y]))) : mAppend (.ref n) [y] S Q := ⟨n, xs, y, rfl, rfl, h, hl, q⟩
theorem m_pop {n : Nat} {xs : List D} {y : D} (h : S[n]? = some (.lst (xs ++ [y]))) (q : Put (Q y) S n (.lst xs)) : mPop (.ref n) [] S Q := ⟨n, xs, y, rfl, rfl, h, q⟩
theorem m_reverse {n : Nat} {xs : List D} (h : S[n]? = some (.lst xs)) (q : Put (Q .non) S n (.lst xs.reverse)) : mReverse (.ref n) [] S Q := ⟨n, xs, rfl, rfl, h, q⟩
theorem g_sub {n : Nat} {xs : List D} {k : Int} {j : Nat} {d : D} {ρ : Rho} {Q : Rho → Sto → Prop} (h : S[n]? = some (.lst xs)) (e : ixD xs.length k = some j) (q : Put (Q ρ) S n (.lst (xs.set j d))) : SubGo d ρ Q (.ref n) (.int k) S := ⟨n, xs, k, j, rfl, rfl, h, e, q⟩
end
section
variable {ρ : Rho} {S : Sto} {R : DIt → Sto → Prop}
theorem r_iseq {t : DE} (h : t ρ S fun x S1 => SeqIt x S1 R) : iSeq t ρ S R := h
theorem i_tup {xs : List D} (q : R ⟨xs, fun _ => True⟩ S) : SeqIt (.tup xs) S R := .inl ⟨xs, rfl, q⟩
theorem i_lst {x : D} {xs : List D} (h : Lst S x xs) (q : R ⟨xs, fun S => Lst S x xs⟩ S) : SeqIt x S R := .inr (.inl ⟨xs, h, q⟩)
theorem r_rng1 {t : DA} (h : t ρ S fun vs S1 => ∃ j : Int, vs = [.int j] ∧ -(2 ^ 62) ≤ j ∧ j < 2 ^ 62 ∧ R ⟨upto 0 j.toNat, fun _ => True⟩ S1) : iRng1 t ρ S R := h
theorem r_rng2 {t : DA} (h : t ρ S fun vs S1 => ∃ i j : Int, vs = [.int i, .int j] ∧ R ⟨upto i (j - i).toNat, fun _ => True⟩ S1) : iRng2 t ρ S R := h
theorem r_enum {t : DA} (h : t ρ S (EnumGo R)) : iEnum t ρ S R := h
theorem en_L {x : D} {xs : List D} (h : Lst S x xs) (q : R ⟨enumD 0 xs, fun S => Lst S x xs⟩ S) : EnumGo R [x] S := .inl ⟨x, xs, rfl, h, q⟩
theorem r_lc {own : Nat} {fv : List Nat} {wi : DI} {g : DG} {tc : DT} {te : DE} {Q : DK} (h : wi ρ S fun J S1 => LcGo own fv g tc te ρ Q J S1) : dLC own fv wi g tc te ρ S Q := h
end
theorem iteF {A B : Prop} (h : B) : if false = true then A else B := by rw [if_neg Bool.false_ne_true]; exact h
theorem iteT {A B : Prop} (h : A) : if true = true then A else B := by rw [if_pos rfl]; exact h
theorem r_d {c A B : Prop} [Decidable c] (h1 : c → A) (h2 : ¬ c → B) : if decide c = true then A else B := by
  by_cases h : c
  · rw [decide_eq_true h, if_pos rfl]; exact h1 h
  · rw [decide_eq_false h, if_neg Bool.false_ne_true]; exact h2 h
theorem r_nd {c A B : Prop} [Decidable c] (h1 : ¬ c → A) (h2 : c → B) : if (!decide c) = true then A else B := by
  by_cases h : c
  · rw [decide_eq_true h]; exact h2 h
  · rw [decide_eq_false h]; exact h1 h
theorem sto_at (S T : Sto) (k : Nat) : (S ++ T)[S.length + k]? = T[k]? := by
  rw [List.getElem?_append_right (Nat.le_add_right _ _), Nat.add_sub_cancel_left]
theorem sto_at0 (S T : Sto) : (S ++ T)[S.length]? = T[0]? := sto_at S T 0
theorem sto_h0 {S T : Sto} {c : Cell} : (S ++ c :: T)[S.length]? = some c := (sto_at S (c :: T) 0).trans rfl
theorem sto_new {S T : Sto} {c : Cell} : (S ++ (T ++ [c]))[S.length + T.length]? = some c := by rw [sto_at, List.getElem?_append_right (Nat.le_refl _), Nat.sub_self]; rfl
theorem sto_set (S T : Sto) (k : Nat) (c : Cell) : (S ++ T).set (S.length + k) c = S ++ T.set k c := by
  rw [List.set_append_right _ _ (Nat.le_add_right _ _), Nat.add_sub_cancel_left]
theorem sto_set0 (S T : Sto) (a c : Cell) : (S ++ a :: T).set S.length c = S ++ c :: T := sto_set S (a :: T) 0 c
theorem sto_old {S T : Sto} {n : Nat} {c : Cell} (h : S[n]? = some c) : (S ++ T)[n]? = some c := by
  have : n < S.length := by
    rcases Nat.lt_or_ge n S.length with g | g
    · exact g
    · rw [List.getElem?_eq_none g] at h; cases h
  rw [List.getElem?_append_left this]; exact h
theorem Lst.old {S T : Sto} {x : D} {xs : List D} (h : Lst S x xs) : Lst (S ++ T) x xs := h.imp id fun ⟨n, e, h⟩ => ⟨n, e, sto_old h⟩
theorem Lst.at {S T : Sto} {k : Nat} {xs : List D} (h : T[k]? = some (.lst xs)) : Lst (S ++ T) (.ref (S.length + k)) xs := .inr ⟨_, rfl, by rw [sto_at]; exact h⟩
theorem Lst.at0 {S T : Sto} {xs : List D} : Lst (S ++ .lst xs :: T) (.ref S.length) xs := .inr ⟨_, rfl, by rw [sto_at0]; rfl⟩
theorem Lst.new {S T : Sto} {xs : List D} : Lst (S ++ (T ++ [.lst xs])) (.ref (S.length + T.length)) xs := .inr ⟨_, rfl, sto_new⟩
theorem Lst.rl {S : Sto} {xs : List D} : Lst S (.rl xs) xs := .inl rfl
theorem Lst.here {S : Sto} {n : Nat} {xs : List D} (h : S[n]? = some (.lst xs)) : Lst S (.ref n) xs := .inr ⟨n, rfl, h⟩
theorem fin_pure {S T : Sto} {Q : DK} {d : D} (h : fl 20 d = true) (q : Q d S) : Fin S Q d (S ++ T) := .inr ⟨S, List.prefix_append _ _, Nat.le_refl _, .inl h, fun _ _ e => .inl e, q⟩
theorem fin_same {S S' : Sto} {Q : DK} {d : D} (q : Q d S') : Fin S Q d S' := .inl q
section
variable {S : Sto} {Q : DK}
end
theorem iteNT {A B : Prop} (h : B) : if (!true) = true then A else B := iteF h
theorem iteNF {A B : Prop} (h : A) : if (!false) = true then A else B := iteT h
theorem b_anyE {S : Sto} {Q : DK} {x : D} {bs : List Bool} {b : Bool} (h : Lst S x (bs.map D.bl)) (e : bs.any id = b) (q : Q (.bl b) S) : bAny [x] S Q := b_any h (by rw [e]; exact q)
def LcW (S : Sto) (items : List D) (p : D → Bool) (f : D → D) (i : Nat) (ys : List D) (S' : Sto) : Prop := S' = S ∧ ys = ((items.take i).filter p).map f
theorem take_snocD {α : Type} {xs : List α} {i : Nat} {x : α} (h : xs[i]? = some x) : xs.take (i + 1) = xs.take i ++ [x] := by rw [List.take_succ, h]; rfl
theorem lcw_y {S : Sto} {items : List D} {p : D → Bool} {f : D → D} {i : Nat} {ys : List D} {d y : D} (hd : items[i]? = some d) (hw : LcW S items p f i ys S) (hp : p d = true) (hy : y = f d) : LcW S items p f (i + 1) (ys ++ [y]) S :=
  ⟨rfl, by rw [take_snocD hd, List.filter_append, List.map_append, ← hw.2, List.filter_cons_of_pos hp, hy]; rfl⟩
theorem lcw_n {S : Sto} {items : List D} {p : D → Bool} {f : D → D} {i : Nat} {ys : List D} {d : D} (hd : items[i]? = some d) (hw : LcW S items p f i ys S) (hp : p d = false) : LcW S items p f (i + 1) ys S :=
  ⟨rfl, by rw [take_snocD hd, List.filter_append, List.map_append, ← hw.2, List.filter_cons_of_neg (by rw [hp]; exact Bool.false_ne_true)]; simp⟩
theorem lc_pure {own : Nat} {fv : List Nat} {xs : List D} {ok : Sto → Prop} {g : DG} {tc : DT} {te : DE} {ρ : Rho} {S : Sto} {Q : DK} (p : D → Bool) (f : D → D) (hok : ok S) (hbig : xs.length ≤ big)
    (step : ∀ i d ys, xs[i]? = some d → LcW S xs p f i ys S → g d (cstD own fv ρ) S fun ρ2 S2 => tc ρ2 S2 fun b S3 => if b = true then te ρ2 S3 fun y S4 => LcW S xs p f (i + 1) (ys ++ [y]) S4 else LcW S xs p f (i + 1) ys S3)
    (q : New Q S ((xs.filter p).map f)) : LcGo own fv g tc te ρ Q ⟨xs, ok⟩ S := by
  refine ⟨hbig, LcW S xs p f, ⟨rfl, by simp⟩, fun i ys S' h => by rw [h.1]; exact hok, fun i d ys S' hd h => ?_, fun ys S' h => ?_⟩
  · obtain ⟨rfl, _⟩ := id h
    exact step i d ys hd h
  · obtain ⟨rfl, rfl⟩ := h
    rw [List.take_length]; exact q
theorem filter_true {α : Type} (xs : List α) : xs.filter (fun _ => true) = xs := List.filter_eq_self.mpr fun _ _ => rfl
theorem at_nat {ds : List D} {i : Nat} {d : D} (h : ds[i]? = some d) : atD ds (i : Int) = some d := by
  have hl : i < ds.length := by
    rcases Nat.lt_or_ge i ds.length with g | g
    · exact g
    · rw [List.getElem?_eq_none g] at h; cases h
  unfold atD ixD
  rw [if_pos (by omega), if_pos (by omega)]
  simpa using h
theorem upto_at {lo : Int} {n i : Nat} {d : D} (h : (upto lo n)[i]? = some d) : i < n ∧ d = .int (lo + i) := by
  unfold upto at h
  rw [List.getElem?_map] at h
  by_cases hi : i < n
  · rw [List.getElem?_range hi] at h
    exact ⟨hi, by simpa using h.symm⟩
  · rw [List.getElem?_eq_none (by simpa using hi)] at h; cases h
theorem upto_length (lo : Int) (n : Nat) : (upto lo n).length = n := by unfold upto; simp
theorem at_int {zs : List Int} {k : Int} (h0 : 0 ≤ k) (h : k < zs.length) : ∃ z, z ∈ zs ∧ atD (zs.map D.int) k = some (.int z) := by
  refine ⟨zs[k.toNat]'(by omega), List.getElem_mem _, ?_⟩
  unfold atD ixD
  rw [List.length_map, if_pos h0, if_pos h]
  simp only [Option.bind_some]
  rw [List.getElem?_map, List.getElem?_eq_getElem (by omega)]; rfl
theorem ix_int {zs : List Int} {k : Int} (h0 : 0 ≤ k) (h : k < zs.length) : ixD (zs.map D.int).length k = some k.toNat := by
  unfold ixD
  rw [List.length_map, if_pos h0, if_pos h]
theorem get_int {zs : List Int} {i : Nat} {d : D} (h : (zs.map D.int)[i]? = some d) : ∃ z, zs[i]? = some z ∧ d = .int z := by
  rw [List.getElem?_map] at h
  cases e : zs[i]? with
  | none => rw [e] at h; cases h
  | some p => rw [e] at h; cases h; exact ⟨p, rfl, rfl⟩
theorem get_p2 {cs : List (Int × Int)} {i : Nat} {d : D} (h : (cs.map p2)[i]? = some d) : ∃ c, cs[i]? = some c ∧ d = p2 c := by
  rw [List.getElem?_map] at h
  cases e : cs[i]? with
  | none => rw [e] at h; cases h
  | some p => rw [e] at h; cases h; exact ⟨p, rfl, rfl⟩
theorem lt_getD {α : Type} {xs : List α} {i : Nat} {x : α} (h : xs[i]? = some x) : i < xs.length := by
  rcases Nat.lt_or_ge i xs.length with g | g
  · exact g
  · rw [List.getElem?_eq_none g] at h; cases h
def optD : Option Int → D
  | none => .non
  | some v => .int v
theorem fin_new {S G : Sto} {Q : DK} {xs : List D} (h : fc (.lst xs) = true) (q : New Q S xs) : Fin S Q (.ref S.length) (S ++ Cell.lst xs :: G) :=
  .inr ⟨S ++ [Cell.lst xs], ⟨G, by simp⟩, by simp, .inr ⟨_, rfl, by simp⟩, (fun n c hn => by
    rcases Nat.lt_or_ge n S.length with g | g
    · rw [List.getElem?_append_left g] at hn; exact .inl hn
    · have hl2 := lt_getD hn
      rw [List.length_append] at hl2
      have e : n = S.length := by simp at hl2; omega
      subst e
      rw [List.getElem?_append_right (Nat.le_refl _), Nat.sub_self] at hn
      have : Cell.lst xs = c := by simpa using hn
      subst this
      exact .inr h), q⟩
theorem enumD_get : ∀ {xs : List D} {k i : Nat} {d : D}, (enumD k xs)[i]? = some d → ∃ x, xs[i]? = some x ∧ d = .tup [.int ((k + i : Nat) : Int), x]
  | [], k, i, d, h => by simp [enumD] at h
  | x :: xs, k, 0, d, h => ⟨x, rfl, by simpa [enumD] using h.symm⟩
  | x :: xs, k, i + 1, d, h => by
    obtain ⟨y, e1, e2⟩ := enumD_get (xs := xs) (k := k + 1) (i := i) (d := d) (by simpa [enumD] using h)
    exact ⟨y, by simpa using e1, by rw [e2, show k + 1 + i = k + (i + 1) by omega]⟩
theorem enumD_len : ∀ (k : Nat) (xs : List D), (enumD k xs).length = xs.length
  | _, [] => rfl
  | k, x :: xs => congrArg (· + 1) (enumD_len (k + 1) xs)
def sp_law : DSp := fun ds S Q => ∃ ns : List Int, ds = [.rl (ns.map D.int)] ∧ S = [] ∧ ns.length ≤ 63 ∧ ∀ S', Q (.bl true) S'
theorem len_law : ∀ ds So Q, sp_law ds So Q → ds.length = 1 := fun ds So Q ⟨ns, e, _⟩ => by rw [e]; rfl
theorem cut_map {α β : Type} (f : α → β) (xs : List α) (lo hi : Option Int) : cutD (xs.map f) lo hi = (cutD xs lo hi).map f := by
  unfold cutD
  rw [List.length_map, List.map_take, List.map_drop]
def onI (f : Int → D) : D → D
  | .int h => f h
  | d => d
theorem onI_map (f : Int → D) (hs : List Int) : (hs.map D.int).map (onI f) = hs.map f := by rw [List.map_map]; rfl
section
variable {nx : Rho → Sto → Prop} {rt : DK} {bk ct : Rho → Sto → Prop} {ρ : Rho} {S : Sto}
theorem r_callX {f : DSpX} {ex : XR} {t : DA} {Q : DK} (h : t ρ S fun xs S1 => f xs S1 Q (ex ρ)) : dCallX f ex t ρ S Q := h
theorem r_raise {ex : XR} {c : Str} (h : ex ρ c S) : sRaise ex c ⟨nx, rt, bk, ct⟩ ρ S := h
end
end Dp
namespace Rm
end Rm
namespace Rm
end Rm
namespace Rm
end Rm
namespace Dp
open PySem Rm
end Dp
namespace Dp
open PySem Rm My
theorem ix_minus {xs : List D} {x : D} : ixD (xs ++ [x]).length (-1) = some xs.length := by
  have hl : ((xs ++ [x]).length : Int) = xs.length + 1 := by simp
  unfold ixD
  rw [if_neg (by omega), if_pos (by omega)]
  congr 1; omega
theorem at_minus {xs : List D} {x : D} : atD (xs ++ [x]) (-1) = some x := by
  unfold atD
  rw [ix_minus]
  simp
end Dp
namespace Rm
open My Dp
def inS (h : Int) (c : Int × Int) : Bool := decide (c.1 ≤ h) && decide (h ≤ c.2)
structure SpOk (cs : List (Int × Int)) : Prop where
  le : ∀ c ∈ cs, c.1 ≤ c.2
  ap : cs.Pairwise fun a b => a.2 + 2 ≤ b.1
theorem inS_iff {h : Int} {c : Int × Int} : inS h c = true ↔ c.1 ≤ h ∧ h ≤ c.2 := by unfold inS; simp
theorem any_iff {h : Int} {cs : List (Int × Int)} : cs.any (inS h) = true ↔ ∃ c ∈ cs, c.1 ≤ h ∧ h ≤ c.2 := by
  rw [List.any_eq_true]
  constructor
  · rintro ⟨c, hc, g⟩; exact ⟨c, hc, inS_iff.mp g⟩
  · rintro ⟨c, hc, g⟩; exact ⟨c, hc, inS_iff.mpr g⟩
theorem SpOk.nil : SpOk [] := ⟨fun c hc => absurd hc (by simp), .nil⟩
theorem SpOk.init {ms : List (Int × Int)} {c : Int × Int} (s : SpOk (ms ++ [c])) : SpOk ms ∧ c.1 ≤ c.2 ∧ ∀ m ∈ ms, m.2 + 2 ≤ c.1 := by
  obtain ⟨h1, h2, h3⟩ := List.pairwise_append.mp s.ap
  exact ⟨⟨fun d hd => s.le d (List.mem_append_left _ hd), h1⟩, s.le c (by simp), fun m hm => h3 m hm c (by simp)⟩
end Rm
namespace Dp
open PySem Rm My
theorem _root_.Rm.SpOk.tail {c : Int × Int} {ms : List (Int × Int)} (s : SpOk (c :: ms)) : SpOk ms := ⟨fun x hx => s.le x (by simp [hx]), (List.pairwise_cons.mp s.ap).2⟩
def on2B (p : Int × Int → Bool) : D → Bool
  | .tup [.int a, .int b] => p (a, b)
  | _ => false
theorem on2B_map (p : Int × Int → Bool) (cs : List (Int × Int)) : (cs.map p2).filter (on2B p) = (cs.filter p).map p2 := by rw [List.filter_map]; rfl
theorem eqv_p2 (a b : Int × Int) : eqv (p2 a) (p2 b) = decide (a = b) := by
  obtain ⟨a1, a2⟩ := a
  obtain ⟨b1, b2⟩ := b
  show (decide (a1 = b1) && (decide (a2 = b2) && true)) = _
  rw [Bool.and_true, ← Bool.decide_and]
  exact decide_eq_decide.mpr (by simp)
end Dp
namespace Rm
open My Dp
end Rm
namespace Rm
open My Dp
end Rm
namespace Dp
open PySem Rm My
theorem Bd.btw {n : Nat} {a b x : Int} (ha : Bd n a) (hb : Bd n b) (h1 : a ≤ x) (h2 : x ≤ b) : Bd n x := by
  unfold Bd at *; omega
end Dp
namespace Dp
open PySem Rm My
def flt (a b : Int × Int) : Bool := decide (a.1 * b.2 < b.1 * a.2)
structure Emb (K : Int × Int → Prop) (R : Int × Int → Int) : Prop where
  lt : ∀ a b, K a → K b → flt a b = decide (R a < R b)
  inj : ∀ a b, K a → K b → R a = R b → a = b
  mul : ∀ a b, K a → K b → CMulD a.1 b.2
abbrev St2 := (Int × Int) × (Int × Int)
abbrev stD (s : St2) : D := .tup [p2 s.1, p2 s.2]
def rk (R : Int × Int → Int) (s : St2) : Int × Int := (R s.1, R s.2)
structure KS (K : Int × Int → Prop) (R : Int × Int → Int) (s : St2) : Prop where
  a : K s.1
  b : K s.2
  e : R s.1 % 2 = 0
  f : R s.2 % 2 = 0
theorem fl_st (xs : List St2) : fl 20 (.tup (xs.map stD)) = true := by
  show (xs.map stD).all (fl 19) = true
  rw [List.all_map, List.all_eq_true]
  intro p _; rfl
theorem get_st {xs : List St2} {i : Nat} {d : D} (h : (xs.map stD)[i]? = some d) : ∃ c, xs[i]? = some c ∧ d = stD c := by
  rw [List.getElem?_map] at h
  cases e : xs[i]? with
  | none => rw [e] at h; cases h
  | some p => rw [e] at h; cases h; exact ⟨p, rfl, rfl⟩
theorem split3 {R : Int × Int → Int} {lo hi : Int} (hlh : lo ≤ hi) : ∀ {xs : List St2}, SpOk (xs.map (rk R)) → ∃ A T B : List St2, xs = A ++ T ++ B ∧ xs.filter (fun x => decide (R x.2 < lo)) = A ∧ xs.filter (fun x => decide (hi < R x.1)) = B ∧ (∀ t ∈ T, lo ≤ R t.2 ∧ R t.1 ≤ hi)
  | [], _ => ⟨[], [], [], rfl, rfl, rfl, by simp⟩
  | x :: xs, ok => by
    obtain ⟨A, T, B, e, fA, fB, hT⟩ := split3 hlh (xs := xs) (SpOk.tail ok)
    have hx : R x.1 ≤ R x.2 := ok.le (rk R x) (by simp)
    have hn : ∀ y ∈ xs, R x.2 + 2 ≤ R y.1 ∧ R y.1 ≤ R y.2 := fun y hy => ⟨(List.pairwise_cons.mp ok.ap).1 (rk R y) (List.mem_map.mpr ⟨y, hy, rfl⟩), ok.le (rk R y) (List.mem_cons_of_mem _ (List.mem_map.mpr ⟨y, hy, rfl⟩))⟩
    by_cases h1 : R x.2 < lo
    · refine ⟨x :: A, T, B, by rw [e]; rfl, ?_, ?_, hT⟩
      · rw [List.filter_cons_of_pos (p := fun x : St2 => decide (R x.2 < lo)) (decide_eq_true h1), fA]
      · rw [List.filter_cons_of_neg (p := fun x : St2 => decide (hi < R x.1)) (by rw [decide_eq_true_eq]; omega), fB]
    · have A0 : A = [] := by
        rw [← fA, List.filter_eq_nil_iff]
        intro y hy
        have := hn y hy
        rw [decide_eq_true_eq]; omega
      subst A0
      by_cases h2 : R x.1 ≤ hi
      · refine ⟨[], x :: T, B, by rw [e]; rfl, ?_, ?_, fun t ht => ?_⟩
        · rw [List.filter_cons_of_neg (p := fun x : St2 => decide (R x.2 < lo)) (by rw [decide_eq_true_eq]; exact h1), fA]
        · rw [List.filter_cons_of_neg (p := fun x : St2 => decide (hi < R x.1)) (by rw [decide_eq_true_eq]; omega), fB]
        · rcases List.mem_cons.mp ht with rfl | ht
          · exact ⟨by omega, h2⟩
          · exact hT t ht
      · have T0 : T = [] := by
          cases T with
          | nil => rfl
          | cons t T =>
            have := hT t (by simp)
            have := hn t (by rw [e]; simp)
            omega
        subst T0
        refine ⟨[], [], x :: B, by rw [e]; rfl, ?_, ?_, by simp⟩
        · rw [List.filter_cons_of_neg (p := fun x : St2 => decide (R x.2 < lo)) (by rw [decide_eq_true_eq]; exact h1), fA]
        · rw [List.filter_cons_of_pos (p := fun x : St2 => decide (hi < R x.1)) (by rw [decide_eq_true_eq]; omega), fB]
theorem with_ok {R : Int × Int → Int} {A T B : List St2} {l h l' h' : Int} (ok : SpOk ((A ++ T ++ B).map (rk R))) (hlh : l ≤ h) (ha : ∀ x ∈ A, R x.2 + 2 ≤ l) (hb : ∀ x ∈ B, h + 2 ≤ R x.1) (ht : ∀ t ∈ T, l ≤ R t.2 ∧ R t.1 ≤ h)
    (hl : (T = [] ∧ l' = l ∧ h' = h) ∨ ∃ t u, t ∈ T ∧ u ∈ T ∧ (∀ x ∈ T, R t.1 ≤ R x.1 ∧ R x.2 ≤ R u.2) ∧ l' = min l (R t.1) ∧ h' = max h (R u.2)) :
    SpOk (A.map (rk R) ++ (l', h') :: B.map (rk R)) ∧ ∀ k, (A.map (rk R) ++ (l', h') :: B.map (rk R)).any (inS k) = (((A ++ T ++ B).map (rk R)).any (inS k) || inS k (l, h)) := by
  rw [List.map_append, List.map_append] at ok
  obtain ⟨pAT, pB, pX⟩ := List.pairwise_append.mp ok.ap
  obtain ⟨pA, pT, pY⟩ := List.pairwise_append.mp pAT
  have leA : ∀ x ∈ A, R x.1 ≤ R x.2 := fun x hx => ok.le (rk R x) (List.mem_append_left _ (List.mem_append_left _ (List.mem_map.mpr ⟨x, hx, rfl⟩)))
  have leT : ∀ x ∈ T, R x.1 ≤ R x.2 := fun x hx => ok.le (rk R x) (List.mem_append_left _ (List.mem_append_right _ (List.mem_map.mpr ⟨x, hx, rfl⟩)))
  have leB : ∀ x ∈ B, R x.1 ≤ R x.2 := fun x hx => ok.le (rk R x) (List.mem_append_right _ (List.mem_map.mpr ⟨x, hx, rfl⟩))
  have aT : ∀ x ∈ A, ∀ t ∈ T, R x.2 + 2 ≤ R t.1 := fun x hx t ht => pY _ (List.mem_map.mpr ⟨x, hx, rfl⟩) _ (List.mem_map.mpr ⟨t, ht, rfl⟩)
  have bT : ∀ t ∈ T, ∀ x ∈ B, R t.2 + 2 ≤ R x.1 := fun t ht x hx => pX _ (List.mem_append_right _ (List.mem_map.mpr ⟨t, ht, rfl⟩)) _ (List.mem_map.mpr ⟨x, hx, rfl⟩)
  have aB : ∀ a ∈ A, ∀ x ∈ B, R a.2 + 2 ≤ R x.1 := fun t ht x hx => pX _ (List.mem_append_left _ (List.mem_map.mpr ⟨t, ht, rfl⟩)) _ (List.mem_map.mpr ⟨x, hx, rfl⟩)
  have hl1 : l' ≤ l ∧ h ≤ h' ∧ (∀ x ∈ A, R x.2 + 2 ≤ l') ∧ (∀ x ∈ B, h' + 2 ≤ R x.1) ∧ (∀ t ∈ T, l' ≤ R t.1 ∧ R t.2 ≤ h') ∧ (∀ k, l' ≤ k → k ≤ h' → (l ≤ k ∧ k ≤ h) ∨ ∃ t ∈ T, R t.1 ≤ k ∧ k ≤ R t.2) := by
    rcases hl with ⟨rfl, rfl, rfl⟩ | ⟨t, u, ht1, hu1, hm, rfl, rfl⟩
    · exact ⟨Int.le_refl _, Int.le_refl _, ha, hb, by simp, fun k k1 k2 => .inl ⟨k1, k2⟩⟩
    · refine ⟨by omega, by omega, fun x hx => ?_, fun x hx => ?_, fun x hx => ?_, fun k k1 k2 => ?_⟩
      · have := ha x hx; have := aT x hx t ht1; omega
      · have := hb x hx; have := bT u hu1 x hx; omega
      · have := hm x hx; omega
      · have := ht t ht1
        have := ht u hu1
        rcases (by omega : (l ≤ k ∧ k ≤ h) ∨ k < l ∨ h < k) with g | g | g
        · exact .inl g
        · exact .inr ⟨t, ht1, by omega, by omega⟩
        · exact .inr ⟨u, hu1, by omega, by omega⟩
  obtain ⟨q1, q2, q3, q4, q5, q6⟩ := hl1
  refine ⟨⟨fun c hc => ?_, ?_⟩, fun k => ?_⟩
  · rcases List.mem_append.mp hc with hc | hc
    · obtain ⟨x, hx, rfl⟩ := List.mem_map.mp hc; exact leA x hx
    · rcases List.mem_cons.mp hc with rfl | hc
      · show l' ≤ h'; omega
      · obtain ⟨x, hx, rfl⟩ := List.mem_map.mp hc; exact leB x hx
  · refine List.pairwise_append.mpr ⟨pA, List.pairwise_cons.mpr ⟨fun c hc => ?_, pB⟩, fun c hc d hd => ?_⟩
    · obtain ⟨x, hx, rfl⟩ := List.mem_map.mp hc; exact q4 x hx
    · obtain ⟨x, hx, rfl⟩ := List.mem_map.mp hc
      rcases List.mem_cons.mp hd with rfl | hd
      · exact q3 x hx
      · obtain ⟨y, hy, rfl⟩ := List.mem_map.mp hd; exact aB x hx y hy
  · rw [List.map_append, List.map_append, List.any_append, List.any_append, List.any_append, List.any_cons]
    have mid : inS k (l', h') = ((T.map (rk R)).any (inS k) || inS k (l, h)) := by
      rw [Bool.eq_iff_iff, Bool.or_eq_true, inS_iff, inS_iff, any_iff]
      constructor
      · rintro ⟨k1, k2⟩
        rcases q6 k k1 k2 with g | ⟨t, ht, g⟩
        · exact .inr g
        · exact .inl ⟨_, List.mem_map.mpr ⟨t, ht, rfl⟩, g⟩
      · rintro (⟨c, hc, g⟩ | g)
        · obtain ⟨t, ht, rfl⟩ := List.mem_map.mp hc
          have := q5 t ht
          have g1 : R t.1 ≤ k := g.1
          have g2 : k ≤ R t.2 := g.2
          exact ⟨by show l' ≤ k; omega, by show k ≤ h'; omega⟩
        · have g1 : l ≤ k := g.1
          have g2 : k ≤ h := g.2
          exact ⟨by show l' ≤ k; omega, by show k ≤ h'; omega⟩
    rw [mid]
    cases (A.map (rk R)).any (inS k) <;> cases (T.map (rk R)).any (inS k) <;> cases (B.map (rk R)).any (inS k) <;> cases inS k (l, h) <;> rfl
end Dp
namespace Dp
open PySem Rm My
theorem flt_iff {a b : Int × Int} : flt a b = true ↔ a.1 * b.2 < b.1 * a.2 := by unfold flt; simp
theorem fl_fracs (cs : List (Int × Int)) : fc (.lst (cs.map p2)) = true := by
  show (cs.map p2).all (fl 20) = true
  rw [List.all_map, List.all_eq_true]
  intro p _; rfl
theorem at_p2 {cs : List (Int × Int)} {k : Int} (h0 : 0 ≤ k) (h : k < cs.length) : ∃ c, cs[k.toNat]? = some c ∧ atD (cs.map p2) k = some (p2 c) := by
  have hk : k.toNat < cs.length := by omega
  refine ⟨cs[k.toNat], List.getElem?_eq_getElem hk, ?_⟩
  have := at_nat (ds := cs.map p2) (i := k.toNat) (d := p2 (cs[k.toNat])) (by rw [List.getElem?_map, List.getElem?_eq_getElem hk]; rfl)
  rwa [show ((k.toNat : Nat) : Int) = k by omega] at this
structure FrOk (n : Nat) (p : Int × Int) : Prop where
  pos : 1 ≤ p.2
  g : Int.gcd p.1 p.2 = 1
  bt : Bd n p.1
  bb : Bd n p.2
end Dp
namespace Dp
open PySem Rm My
theorem o_neP1 {S : Sto} {Q : DK} {a b : Int × Int} (e : a = b) (q : Q (.bl false) S) : oNe (p2 a) (p2 b) S Q := ⟨_, .inl ⟨rfl, rfl, rfl⟩, by rw [eqv_p2, decide_eq_true e]; exact q⟩
end Dp
namespace Dp
open PySem Rm My
def lenV (ms : List (Int × Int)) : Int := (ms.map fun m => m.2 - m.1).sum
end Dp
namespace Dp
open PySem Rm My
def Sv (c : Int × Int) (t b : Int) : Prop := 0 < c.2 ∧ c.1 * b = t * c.2
def hvT (a b p : Int × Int) : Int := if 0 < b.1 - a.1 then a.2 * (b.1 - a.1) * p.2 + (b.2 - a.2) * (p.1 - a.1 * p.2) else -(a.2 * (b.1 - a.1) * p.2 + (b.2 - a.2) * (p.1 - a.1 * p.2))
def hvB (a b p : Int × Int) : Int := if 0 < b.1 - a.1 then (b.1 - a.1) * p.2 else -((b.1 - a.1) * p.2)
theorem hvB_pos {a b p : Int × Int} (h : b.1 ≠ a.1) (hp : 0 < p.2) : 0 < hvB a b p := by
  unfold hvB
  split
  · exact Int.mul_pos (by omega) hp
  · have := Int.mul_pos (show 0 < -(b.1 - a.1) by omega) hp
    rw [Int.neg_mul] at this
    exact this
theorem flt_sv {c d : Int × Int} {t b u e : Int} (hb : 0 < b) (he : 0 < e) (hc : Sv c t b) (hd : Sv d u e) : flt c d = decide (t * e < u * b) := by
  obtain ⟨c0, c1⟩ := hc
  obtain ⟨d0, d1⟩ := hd
  unfold flt
  refine decide_eq_decide.mpr ?_
  have hbe : 0 < b * e := Int.mul_pos hb he
  have hcd : 0 < c.2 * d.2 := Int.mul_pos c0 d0
  rw [← Int.mul_lt_mul_right hbe, ← Int.mul_lt_mul_right (b := t * e) (c := u * b) hcd]
  have e1 : c.1 * d.2 * (b * e) = t * e * (c.2 * d.2) := by
    have : c.1 * d.2 * (b * e) = c.1 * b * (d.2 * e) := by grind
    rw [this, c1]; grind
  have e2 : d.1 * c.2 * (b * e) = u * b * (c.2 * d.2) := by
    have : d.1 * c.2 * (b * e) = d.1 * e * (c.2 * b) := by grind
    rw [this, d1]; grind
  rw [e1, e2]
structure Grd (cs : List (Int × Int)) : Prop where
  two : 2 ≤ cs.length
  most : cs.length ≤ 40
  asc : cs.Pairwise fun a b => a.1 < b.1
  bd : ∀ c ∈ cs, Bd 170 c.1 ∧ Bd 190 c.2
def fstC (cs : List (Int × Int)) : Int := (cs.getD 0 (0, 0)).1
def lstC (cs : List (Int × Int)) : Int := (cs.getD (cs.length - 1) (0, 0)).1
def OnG (cs : List (Int × Int)) (p : Int × Int) : Prop := fstC cs * p.2 ≤ p.1 ∧ p.1 ≤ lstC cs * p.2
def segG : List (Int × Int) → Int × Int → Option ((Int × Int) × (Int × Int))
  | a :: b :: r, p => if p.1 ≤ b.1 * p.2 then some (a, b) else segG (b :: r) p
  | _, _ => none
theorem seg_at : ∀ {cs : List (Int × Int)} {p : Int × Int} {k : Nat} {a b : Int × Int}, cs[k]? = some a → cs[k + 1]? = some b → p.1 ≤ b.1 * p.2 → (∀ j c, 1 ≤ j → j ≤ k → cs[j]? = some c → c.1 * p.2 < p.1) → segG cs p = some (a, b)
  | [], p, k, a, b, h, _, _, _ => by simp at h
  | [x], p, 0, a, b, _, h, _, _ => by simp at h
  | [x], p, k + 1, a, b, h, _, _, _ => by simp at h
  | x :: y :: r, p, 0, a, b, h1, h2, h3, _ => by
    simp at h1 h2
    subst h1 h2
    unfold segG
    rw [if_pos h3]
  | x :: y :: r, p, k + 1, a, b, h1, h2, h3, h4 => by
    have := h4 1 y (by omega) (by omega) rfl
    unfold segG
    rw [if_neg (by omega)]
    exact seg_at (by simpa using h1) (by simpa using h2) h3 fun j c j1 j2 hc => h4 (j + 1) c (by omega) (by omega) (by simpa using hc)
theorem seg_ex : ∀ {cs : List (Int × Int)} {p : Int × Int}, 2 ≤ cs.length → p.1 ≤ lstC cs * p.2 → ∃ k a b, cs[k]? = some a ∧ cs[k + 1]? = some b ∧ p.1 ≤ b.1 * p.2 ∧ ∀ j c, 1 ≤ j → j ≤ k → cs[j]? = some c → c.1 * p.2 < p.1
  | [], p, h, _ => by simp at h
  | [x], p, h, _ => by simp at h
  | [x, y], p, _, h => ⟨0, x, y, rfl, rfl, h, fun j c j1 j2 => by omega⟩
  | x :: y :: z :: r, p, _, h => by
    by_cases g : p.1 ≤ y.1 * p.2
    · exact ⟨0, x, y, rfl, rfl, g, fun j c j1 j2 => by omega⟩
    · obtain ⟨k, a, b, h1, h2, h3, h4⟩ := seg_ex (cs := y :: z :: r) (p := p) (by simp) h
      refine ⟨k + 1, a, b, by simpa using h1, by simpa using h2, h3, fun j c j1 j2 hc => ?_⟩
      cases j with
      | zero => omega
      | succ j =>
        cases j with
        | zero => simp at hc; subst hc; omega
        | succ j => exact h4 (j + 1) c (by omega) (by omega) (by simpa using hc)
theorem grd_lt {cs : List (Int × Int)} (g : Grd cs) {i j : Nat} {a b : Int × Int} (hij : i < j) (ha : cs[i]? = some a) (hb : cs[j]? = some b) : a.1 < b.1 := by
  have h1 := lt_getD ha
  have h2 := lt_getD hb
  rw [List.getElem?_eq_getElem h1] at ha
  rw [List.getElem?_eq_getElem h2] at hb
  cases ha; cases hb
  exact List.pairwise_iff_getElem.mp g.asc i j h1 h2 hij
theorem grd_first {cs : List (Int × Int)} (g : Grd cs) : ∃ a, cs[0]? = some a ∧ fstC cs = a.1 := by
  have := g.two
  obtain ⟨a, h⟩ : ∃ a, cs[0]? = some a := ⟨cs[0], List.getElem?_eq_getElem (by omega)⟩
  exact ⟨a, h, by unfold fstC; rw [List.getD_eq_getElem?_getD, h]; rfl⟩
theorem grd_last {cs : List (Int × Int)} (g : Grd cs) : ∃ a, cs[cs.length - 1]? = some a ∧ lstC cs = a.1 := by
  have := g.two
  obtain ⟨a, h⟩ : ∃ a, cs[cs.length - 1]? = some a := ⟨cs[cs.length - 1], List.getElem?_eq_getElem (by omega)⟩
  exact ⟨a, h, by unfold lstC; rw [List.getD_eq_getElem?_getD, h]; rfl⟩
def btw (s p c : Int × Int) : Bool := (decide (0 < c.1 - s.1) && decide (0 < p.1 - c.1 * p.2)) || (decide (c.1 - s.1 < 0) && decide (p.1 - c.1 * p.2 < 0))
def hid (s p c : Int × Int) (t b : Int) : Bool := decide (t * hvB s c p < hvT s c p * b)
theorem hid_iff {s p c : Int × Int} {t b : Int} (hp : 0 < p.2) (hb : btw s p c = true) : hid s p c t b = decide ((t - s.2 * b) * ((c.1 - s.1).natAbs : Int) * p.2 < (c.2 - s.2) * ((p.1 - s.1 * p.2).natAbs : Int) * b) := by
  unfold btw at hb
  simp only [Bool.or_eq_true, Bool.and_eq_true, decide_eq_true_eq] at hb
  unfold hid hvT hvB
  refine decide_eq_decide.mpr ?_
  rcases hb with ⟨h1, h2⟩ | ⟨h1, h2⟩
  · have hw : 0 < p.1 - s.1 * p.2 := by
      have := Int.mul_pos h1 hp
      rw [Int.sub_mul] at this
      omega
    rw [if_pos h1, if_pos h1, show ((c.1 - s.1).natAbs : Int) = c.1 - s.1 by omega, show ((p.1 - s.1 * p.2).natAbs : Int) = p.1 - s.1 * p.2 by omega]
    generalize c.1 - s.1 = r
    generalize p.1 - s.1 * p.2 = w
    generalize c.2 - s.2 = d
    have e : t * (r * p.2) - (s.2 * r * p.2 + d * w) * b = (t - s.2 * b) * r * p.2 - d * w * b := by grind
    omega
  · have hw : p.1 - s.1 * p.2 < 0 := by
      have := Int.mul_pos (show 0 < -(c.1 - s.1) by omega) hp
      rw [Int.neg_mul, Int.sub_mul] at this
      omega
    rw [if_neg (by omega), if_neg (by omega), show ((c.1 - s.1).natAbs : Int) = -(c.1 - s.1) by omega, show ((p.1 - s.1 * p.2).natAbs : Int) = -(p.1 - s.1 * p.2) by omega]
    generalize c.1 - s.1 = r
    generalize p.1 - s.1 * p.2 = w
    generalize c.2 - s.2 = d
    have e : t * -(r * p.2) - -(s.2 * r * p.2 + d * w) * b = (t - s.2 * b) * -r * p.2 - d * -w * b := by grind
    omega
def GAt (S : Sto) (g : D) (cs : List (Int × Int)) : Prop := ∃ n l, g = .ref n ∧ S[n]? = some (.ins "Ground" [("corners", .ref l)]) ∧ S[l]? = some (.lst (cs.map p2))
theorem GAt.old {S T : Sto} {g : D} {cs : List (Int × Int)} (h : GAt S g cs) : GAt (S ++ T) g cs := let ⟨n, l, e, h1, h2⟩ := h; ⟨n, l, e, sto_old h1, sto_old h2⟩
theorem g_cor {S : Sto} {P : D → Prop} {n l : Nat} (h : S[n]? = some (.ins "Ground" [("corners", .ref l)])) (q : P (.ref l)) : ∃ m c fs d, D.ref n = .ref m ∧ S[m]? = some (.ins c fs) ∧ fs.lookup ("corners" : Str) = some d ∧ P d := ⟨n, _, _, _, rfl, h, by simp [List.lookup_cons], q⟩
def seesF (cs : List (Int × Int)) (s p : Int × Int) (t b : Int) : Bool := (cs.filter (btw s p)).all fun c => !hid s p c t b
theorem btw_ne {s p c : Int × Int} (h : btw s p c = true) : c.1 ≠ s.1 := by
  unfold btw at h
  simp only [Bool.or_eq_true, Bool.and_eq_true, decide_eq_true_eq] at h
  omega
def crB (a b c d : Int × Int) : Int := (b.2 - a.2) * (d.1 - c.1) - (d.2 - c.2) * (b.1 - a.1)
def crT (a b c d : Int × Int) : Int := (c.2 - a.2) * (b.1 - a.1) * (d.1 - c.1) + a.1 * (b.2 - a.2) * (d.1 - c.1) - c.1 * (d.2 - c.2) * (b.1 - a.1)
def fsQ (a b c d : Int × Int) : Int × Int := if crB a b c d = 0 then (c.1, 1) else (frT (crT a b c d) (crB a b c d), frB (crT a b c d) (crB a b c d))
def sdO (a b c : Int × Int) : Int := (c.2 - a.2) * (b.1 - a.1) - (c.1 - a.1) * (b.2 - a.2)
def sdI (a b c : Int × Int) : Int := if 0 < (if b.1 - a.1 < 0 then -sdO a b c else sdO a b c) then 1 else if (if b.1 - a.1 < 0 then -sdO a b c else sdO a b c) < 0 then -1 else 0
def Std (cs : List (Int × Int)) (s : Int × Int) : Prop := Bd 180 s.1 ∧ Bd 200 s.2 ∧ OnG cs (s.1, 1) ∧ ∀ a b, segG cs (s.1, 1) = some (a, b) → hvT a b (s.1, 1) ≤ s.2 * hvB a b (s.1, 1)
theorem at_lastG {cs : List (Int × Int)} (gr : Grd cs) : ∃ z, cs[cs.length - 1]? = some z ∧ lstC cs = z.1 ∧ atD (cs.map p2) (-1) = some (p2 z) := by
  have g1 := gr.two
  obtain ⟨z, hz, ez⟩ := grd_last gr
  refine ⟨z, hz, ez, ?_⟩
  have hne : cs ≠ [] := fun e => by rw [e] at g1; simp at g1
  have en : cs = cs.dropLast ++ [z] := by
    have h2 := List.dropLast_concat_getLast hne
    have h3 : cs.getLast hne = z := by
      rw [List.getLast_eq_getElem]
      have hl' := lt_getD hz
      rw [List.getElem?_eq_getElem hl'] at hz
      cases hz; rfl
    rw [h3] at h2
    exact h2.symm
  rw [en, List.map_append]; exact at_minus
theorem on_mem {cs : List (Int × Int)} (gr : Grd cs) {c : Int × Int} (h : c ∈ cs) : fstC cs ≤ c.1 ∧ c.1 ≤ lstC cs := by
  obtain ⟨a, ha, ea⟩ := grd_first gr
  obtain ⟨z, hz, ez⟩ := grd_last gr
  obtain ⟨i, hi, e⟩ := List.mem_iff_getElem.mp h
  have hc : cs[i]? = some c := by rw [List.getElem?_eq_getElem hi, e]
  rw [ea, ez]
  constructor
  · cases i with
    | zero => rw [ha] at hc; cases hc; exact Int.le_refl _
    | succ i => exact Int.le_of_lt (grd_lt gr (by omega) ha hc)
  · rcases Nat.lt_or_ge i (cs.length - 1) with g | g
    · exact Int.le_of_lt (grd_lt gr g hc hz)
    · have : i = cs.length - 1 := by omega
      subst this
      rw [hz] at hc; cases hc; exact Int.le_refl _
theorem cut_tail {α : Type} (xs : List α) : cutD xs (some 1) none = xs.drop 1 := by
  unfold cutD slD
  dsimp only
  rw [if_neg (by decide)]
  cases xs with
  | nil => rfl
  | cons a r =>
    simp only [List.length_cons]
    rw [show min (Int.toNat 1) (r.length + 1) = 1 by simp]
    simp
end Dp
namespace Dp
open PySem Rm My
def ow (g : Int) (s p : Int × Int) : Int := g * (p.1 - s.1 * p.2)
def ou (g : Int) (s c : Int × Int) : Int := g * (c.1 - s.1)
def Yv (u1 v1 u2 v2 W b : Int) : Int := v1 * (u2 * b - W) + v2 * (W - u1 * b)
theorem ow_one (g : Int) (s c : Int × Int) : ow g s (c.1, 1) = ou g s c := by unfold ow ou; simp
theorem lmul {a b k : Int} (h : a ≤ b) (hk : 0 ≤ k) : a * k ≤ b * k := Int.mul_le_mul_of_nonneg_right h hk
theorem lcan {a b k : Int} (hk : 0 < k) (h : a * k ≤ b * k) : a ≤ b := Int.le_of_mul_le_mul_right h hk
theorem lmuls {a b k : Int} (h : a < b) (hk : 0 < k) : a * k < b * k := Int.mul_lt_mul_of_pos_right h hk
theorem lcans {a b k : Int} (hk : 0 < k) (h : a * k < b * k) : a < b := Int.lt_of_mul_lt_mul_right h (Int.le_of_lt hk)
theorem hv_out {g : Int} (hg : g = 1 ∨ g = -1) {s n f p : Int × Int} (hnf : ou g s n < ou g s f) :
    hvB n f p = (ou g s f - ou g s n) * p.2 ∧ hvT n f p - s.2 * hvB n f p = Yv (ou g s n) (n.2 - s.2) (ou g s f) (f.2 - s.2) (ow g s p) p.2 := by
  rcases hg with rfl | rfl
  · unfold ou at *
    have h : 0 < f.1 - n.1 := by omega
    unfold hvB hvT Yv ow
    rw [if_pos h, if_pos h]
    constructor <;> grind
  · unfold ou at *
    have h : ¬ 0 < f.1 - n.1 := by omega
    unfold hvB hvT Yv ow
    rw [if_neg h, if_neg h]
    constructor <;> grind
theorem hv_swap {a b p : Int × Int} (h : a.1 ≠ b.1) : hvT a b p = hvT b a p ∧ hvB a b p = hvB b a p := by
  unfold hvB hvT
  by_cases g : 0 < b.1 - a.1
  · have g2 : ¬ 0 < a.1 - b.1 := by omega
    rw [if_pos g, if_pos g, if_neg g2, if_neg g2]
    constructor <;> grind
  · have g2 : 0 < a.1 - b.1 := by omega
    rw [if_neg g, if_neg g, if_pos g2, if_pos g2]
    constructor <;> grind
theorem btw_out {g : Int} (hg : g = 1 ∨ g = -1) {s p c : Int × Int} (hp : 0 < p.2) (hw : 0 < ow g s p) : btw s p c = true ↔ 0 < ou g s c ∧ ou g s c * p.2 < ow g s p := by
  unfold btw
  simp only [Bool.or_eq_true, Bool.and_eq_true, decide_eq_true_eq]
  rcases hg with rfl | rfl
  · unfold ou ow at *
    have e : (1 : Int) * (c.1 - s.1) * p.2 = c.1 * p.2 - s.1 * p.2 := by grind
    rw [e]
    constructor
    · rintro (⟨h1, h2⟩ | ⟨h1, h2⟩)
      · exact ⟨by omega, by omega⟩
      · have := Int.mul_pos (show 0 < -(c.1 - s.1) by omega) hp
        rw [Int.neg_mul, Int.sub_mul] at this
        omega
    · rintro ⟨h1, h2⟩
      exact .inl ⟨by omega, by omega⟩
  · unfold ou ow at *
    have e : (-1 : Int) * (c.1 - s.1) * p.2 = s.1 * p.2 - c.1 * p.2 := by grind
    rw [e]
    constructor
    · rintro (⟨h1, h2⟩ | ⟨h1, h2⟩)
      · have := Int.mul_pos h1 hp
        rw [Int.sub_mul] at this
        omega
      · exact ⟨by omega, by omega⟩
    · rintro ⟨h1, h2⟩
      exact .inr ⟨by omega, by omega⟩
structure Brk (cs : List (Int × Int)) (p a b : Int × Int) : Prop where
  ma : a ∈ cs
  mb : b ∈ cs
  lt : a.1 < b.1
  lo : a.1 * p.2 ≤ p.1
  hi : p.1 ≤ b.1 * p.2
  no : ∀ c ∈ cs, ¬ (a.1 < c.1 ∧ c.1 < b.1)
theorem grd_inj {cs : List (Int × Int)} (gr : Grd cs) {a b : Int × Int} (ha : a ∈ cs) (hb : b ∈ cs) (e : a.1 = b.1) : a = b := by
  obtain ⟨i, e1⟩ := List.mem_iff_getElem?.mp ha
  obtain ⟨j, e2⟩ := List.mem_iff_getElem?.mp hb
  rcases Nat.lt_trichotomy i j with h | h | h
  · have := grd_lt gr h e1 e2; omega
  · subst h; rw [e1] at e2; cases e2; rfl
  · have := grd_lt gr h e2 e1; omega
theorem hv_at_b {a b p : Int × Int} (h : a.1 < b.1) (e : p.1 = b.1 * p.2) : hvT a b p = b.2 * hvB a b p := by
  unfold hvT hvB
  rw [if_pos (by omega), if_pos (by omega), e]
  grind
theorem hv_at_a {a b p : Int × Int} (h : a.1 < b.1) (e : p.1 = a.1 * p.2) : hvT a b p = a.2 * hvB a b p := by
  unfold hvT hvB
  rw [if_pos (by omega), if_pos (by omega), e]
  grind
theorem brk_same' {cs : List (Int × Int)} (gr : Grd cs) {p a b c d : Int × Int} (hp : 0 < p.2) (h1 : Brk cs p a b) (h2 : Brk cs p c d) (h : a.1 < c.1) : hvT a b p * hvB c d p = hvT c d p * hvB a b p := by
  have hbc : b.1 ≤ c.1 := by
    have := h1.no c h2.ma
    omega
  have k1 := lmul hbc (Int.le_of_lt hp)
  have := h1.hi
  have := h2.lo
  have e1 : p.1 = b.1 * p.2 := by omega
  have e2 : p.1 = c.1 * p.2 := by omega
  have e3 : b.1 = c.1 := Int.eq_of_mul_eq_mul_right (by omega) (e1.symm.trans e2)
  have e4 := grd_inj gr h1.mb h2.ma e3
  subst e4
  rw [hv_at_b h1.lt e1, hv_at_a h2.lt e1]
  grind
theorem brk_same {cs : List (Int × Int)} (gr : Grd cs) {p a b c d : Int × Int} (hp : 0 < p.2) (h1 : Brk cs p a b) (h2 : Brk cs p c d) : hvT a b p * hvB c d p = hvT c d p * hvB a b p := by
  rcases Int.lt_trichotomy a.1 c.1 with h | h | h
  · exact brk_same' gr hp h1 h2 h
  · have e := grd_inj gr h1.ma h2.ma h
    subst e
    have e2 : b.1 = d.1 := by
      have := h1.no d h2.mb
      have := h2.no b h1.mb
      have := h1.lt
      have := h2.lt
      omega
    have e := grd_inj gr h1.mb h2.mb e2
    subst e
    rfl
  · exact (brk_same' gr hp h2 h1 h).symm
theorem seg_brk {cs : List (Int × Int)} (gr : Grd cs) {p : Int × Int} (on : OnG cs p) : ∃ a b, segG cs p = some (a, b) ∧ Brk cs p a b := by
  obtain ⟨k, a, b, ha, hb, hle, hlt⟩ := seg_ex gr.two on.2
  refine ⟨a, b, seg_at ha hb hle hlt, List.mem_of_getElem? ha, List.mem_of_getElem? hb, grd_lt gr (by omega) ha hb, ?_, hle, fun c hc h => ?_⟩
  · cases k with
    | zero =>
      obtain ⟨f, hf, ef⟩ := grd_first gr
      rw [ha] at hf
      cases hf
      have := on.1
      rw [ef] at this
      exact this
    | succ k => exact Int.le_of_lt (hlt (k + 1) a (by omega) (by omega) ha)
  · obtain ⟨j, hj⟩ := List.mem_iff_getElem?.mp hc
    rcases Nat.lt_trichotomy j k with g | g | g
    · have := grd_lt gr g hj ha; omega
    · subst g; rw [ha] at hj; cases hj; omega
    · rcases Nat.lt_or_ge (k + 1) j with g2 | g2
      · have := grd_lt gr g2 hb hj; omega
      · have : j = k + 1 := by omega
        subst this; rw [hb] at hj; cases hj; omega
theorem hid_worth {s p c : Int × Int} {t b t' b' : Int} (hb : 0 < b) (hb' : 0 < b') (e : t * b' = t' * b) : hid s p c t b = hid s p c t' b' := by
  unfold hid
  refine decide_eq_decide.mpr ?_
  generalize hvB s c p = B
  generalize hvT s c p = T
  rw [← Int.mul_lt_mul_right hb', ← Int.mul_lt_mul_right (b := t' * B) (c := T * b') hb]
  have e1 : t * B * b' = t * b' * B := by grind
  have e2 : t' * B * b = t' * b * B := by grind
  have e3 : T * b * b' = T * b' * b := by grind
  rw [e1, e2, e3, e]
def Vis (cs : List (Int × Int)) (s p : Int × Int) : Bool := match segG cs p with
  | some (a, b) => seesF cs s p (hvT a b p) (hvB a b p)
  | none => true
theorem vis_seg {cs : List (Int × Int)} {s p a b : Int × Int} (h : segG cs p = some (a, b)) : Vis cs s p = seesF cs s p (hvT a b p) (hvB a b p) := by unfold Vis; rw [h]
theorem vis_no {cs : List (Int × Int)} {s p : Int × Int} (h : ∀ c ∈ cs, btw s p c = false) : Vis cs s p = true := by
  unfold Vis
  split
  · unfold seesF
    have : ∀ L : List (Int × Int), (∀ c ∈ L, btw s p c = false) → L.filter (btw s p) = [] := fun L hL => List.filter_eq_nil_iff.mpr fun c hc => by rw [hL c hc]; exact Bool.false_ne_true
    rw [this cs h]; rfl
  · rfl
theorem vis_iff {cs : List (Int × Int)} (gr : Grd cs) {g : Int} (hg : g = 1 ∨ g = -1) {s p n f : Int × Int} (hp : 0 < p.2) (hw : 0 < ow g s p) (on : OnG cs p) (hnf : ou g s n < ou g s f) (hb : Brk cs p n f ∨ Brk cs p f n) :
    Vis cs s p = true ↔ ∀ c ∈ cs, 0 < ou g s c → ou g s c * p.2 < ow g s p → (c.2 - s.2) * ow g s p * (ou g s f - ou g s n) ≤ Yv (ou g s n) (n.2 - s.2) (ou g s f) (f.2 - s.2) (ow g s p) p.2 * ou g s c := by
  obtain ⟨a, b, hs, bk⟩ := seg_brk gr on
  obtain ⟨o1, o2⟩ := hv_out hg (p := p) hnf
  have hne : n.1 ≠ f.1 := fun e => by unfold ou at hnf; rw [e] at hnf; omega
  have worth : hvT a b p * hvB n f p = hvT n f p * hvB a b p := by
    rcases hb with hb | hb
    · exact brk_same gr hp bk hb
    · rw [(hv_swap (p := p) hne).1, (hv_swap (p := p) hne).2]
      exact brk_same gr hp bk hb
  have hB1 : 0 < hvB a b p := hvB_pos (by have := bk.lt; omega) hp
  have hB2 : 0 < hvB n f p := hvB_pos (Ne.symm hne) hp
  rw [vis_seg hs]
  unfold seesF
  rw [List.all_eq_true]
  have key : ∀ c, btw s p c = true → ((!hid s p c (hvT a b p) (hvB a b p)) = true ↔ (c.2 - s.2) * ow g s p * (ou g s f - ou g s n) ≤ Yv (ou g s n) (n.2 - s.2) (ou g s f) (f.2 - s.2) (ow g s p) p.2 * ou g s c) := fun c hc => by
    obtain ⟨c1, c2⟩ := (btw_out hg hp hw).mp hc
    rw [hid_worth hB1 hB2 worth, hid_iff hp hc, o2, o1]
    have e1 : ((c.1 - s.1).natAbs : Int) = ou g s c := by
      rcases hg with rfl | rfl <;> (unfold ou at c1 ⊢; omega)
    have e2 : ((p.1 - s.1 * p.2).natAbs : Int) = ow g s p := by
      rcases hg with rfl | rfl <;> (unfold ow at hw ⊢; omega)
    rw [e1, e2]
    generalize Yv (ou g s n) (n.2 - s.2) (ou g s f) (f.2 - s.2) (ow g s p) p.2 = Y
    generalize ou g s f - ou g s n = E
    generalize ou g s c = u
    generalize ow g s p = W
    generalize c.2 - s.2 = v
    rw [Bool.not_eq_true', decide_eq_false_iff_not, Int.not_lt]
    constructor
    · intro h
      refine lcan hp ?_
      have : v * W * (E * p.2) = v * W * E * p.2 := by grind
      rw [this] at h
      exact h
    · intro h
      have := lmul h (Int.le_of_lt hp)
      have e : v * W * (E * p.2) = v * W * E * p.2 := by grind
      rw [e]
      exact this
  constructor
  · intro h c hc c1 c2
    have hb := (btw_out hg hp hw).mpr ⟨c1, c2⟩
    exact (key c hb).mp (h c (List.mem_filter.mpr ⟨hc, hb⟩))
  · intro h c hc
    obtain ⟨hc, hb⟩ := List.mem_filter.mp hc
    obtain ⟨c1, c2⟩ := (btw_out hg hp hw).mp hb
    exact (key c hb).mpr (h c hc c1 c2)
theorem sd_out {g : Int} (hg : g = 1 ∨ g = -1) {s h f : Int × Int} (hh : 0 < ou g s h) : (0 ≤ sdI s h f) ↔ (h.2 - s.2) * ou g s f ≤ (f.2 - s.2) * ou g s h := by
  unfold sdI
  have e : (if h.1 - s.1 < 0 then -sdO s h f else sdO s h f) = (f.2 - s.2) * ou g s h - (h.2 - s.2) * ou g s f := by
    rcases hg with rfl | rfl
    · unfold ou at *
      rw [if_neg (by omega)]
      unfold sdO; grind
    · unfold ou at *
      rw [if_pos (by omega)]
      unfold sdO; grind
  rw [e]
  generalize (f.2 - s.2) * ou g s h = x
  generalize (h.2 - s.2) * ou g s f = y
  split
  · exact ⟨fun _ => by omega, fun _ => by omega⟩
  · split
    · exact ⟨fun h => by omega, fun h => by omega⟩
    · exact ⟨fun _ => by omega, fun _ => by omega⟩
theorem fs_out {g : Int} (hg : g = 1 ∨ g = -1) {s h n f : Int × Int} (hh : 0 < ou g s h) (hnf : ou g s n < ou g s f) (hn : (n.2 - s.2) * ou g s h ≤ (h.2 - s.2) * ou g s n) (hf : (h.2 - s.2) * ou g s f ≤ (f.2 - s.2) * ou g s h) :
    1 ≤ (fsQ s h n f).2 ∧ Int.gcd (fsQ s h n f).1 (fsQ s h n f).2 = 1 ∧ ou g s n * (fsQ s h n f).2 ≤ ow g s (fsQ s h n f) ∧ ow g s (fsQ s h n f) ≤ ou g s f * (fsQ s h n f).2 ∧
    ((n.2 - s.2) * ou g s h < (h.2 - s.2) * ou g s n → ou g s n * (fsQ s h n f).2 < ow g s (fsQ s h n f)) ∧
    ∀ p : Int × Int, 0 < p.2 → ou g s n * p.2 ≤ ow g s p → (ow g s (fsQ s h n f) * p.2 ≤ ow g s p * (fsQ s h n f).2 ↔ (h.2 - s.2) * ow g s p * (ou g s f - ou g s n) ≤ Yv (ou g s n) (n.2 - s.2) (ou g s f) (f.2 - s.2) (ow g s p) p.2 * ou g s h) := by
  have eB : crB s h n f = -g * ((f.2 - n.2) * ou g s h - (h.2 - s.2) * (ou g s f - ou g s n)) := by
    unfold crB ou; rcases hg with rfl | rfl <;> grind
  have eT : crT s h n f = s.1 * crB s h n f + ((n.2 - s.2) * ou g s f - (f.2 - s.2) * ou g s n) * ou g s h := by
    unfold crT crB ou; rcases hg with rfl | rfl <;> grind
  have hG : ∀ W b : Int, Yv (ou g s n) (n.2 - s.2) (ou g s f) (f.2 - s.2) W b * ou g s h - (h.2 - s.2) * W * (ou g s f - ou g s n) = ((f.2 - n.2) * ou g s h - (h.2 - s.2) * (ou g s f - ou g s n)) * W + ((n.2 - s.2) * ou g s f - (f.2 - s.2) * ou g s n) * ou g s h * b := fun W b => by
    unfold Yv; grind
  have g1 : ((f.2 - n.2) * ou g s h - (h.2 - s.2) * (ou g s f - ou g s n)) * ou g s n + ((n.2 - s.2) * ou g s f - (f.2 - s.2) * ou g s n) * ou g s h = (ou g s f - ou g s n) * ((n.2 - s.2) * ou g s h - (h.2 - s.2) * ou g s n) := by grind
  have g2 : ((f.2 - n.2) * ou g s h - (h.2 - s.2) * (ou g s f - ou g s n)) * ou g s f + ((n.2 - s.2) * ou g s f - (f.2 - s.2) * ou g s n) * ou g s h = (ou g s f - ou g s n) * ((f.2 - s.2) * ou g s h - (h.2 - s.2) * ou g s f) := by grind
  have k1 : 0 ≤ (ou g s f - ou g s n) * ((h.2 - s.2) * ou g s n - (n.2 - s.2) * ou g s h) := Int.mul_nonneg (by omega) (by omega)
  have k2 : 0 ≤ (ou g s f - ou g s n) * ((f.2 - s.2) * ou g s h - (h.2 - s.2) * ou g s f) := Int.mul_nonneg (by omega) (by omega)
  have k3 : (n.2 - s.2) * ou g s h < (h.2 - s.2) * ou g s n → 0 < (ou g s f - ou g s n) * ((h.2 - s.2) * ou g s n - (n.2 - s.2) * ou g s h) := fun z => Int.mul_pos (by omega) (by omega)
  have k4 : (ou g s f - ou g s n) * ((n.2 - s.2) * ou g s h - (h.2 - s.2) * ou g s n) = -((ou g s f - ou g s n) * ((h.2 - s.2) * ou g s n - (n.2 - s.2) * ou g s h)) := by grind
  rw [k4] at g1
  generalize (ou g s f - ou g s n) * ((h.2 - s.2) * ou g s n - (n.2 - s.2) * ou g s h) = X1 at *
  generalize (ou g s f - ou g s n) * ((f.2 - s.2) * ou g s h - (h.2 - s.2) * ou g s f) = X2 at *
  generalize hal : (f.2 - n.2) * ou g s h - (h.2 - s.2) * (ou g s f - ou g s n) = al at *
  generalize hbe : ((n.2 - s.2) * ou g s f - (f.2 - s.2) * ou g s n) * ou g s h = be at *
  by_cases h0 : crB s h n f = 0
  · have a0 : al = 0 := by rcases hg with rfl | rfl <;> omega
    subst a0
    rw [Int.zero_mul] at g1 g2
    have b0 : be = 0 := by omega
    have eQ : fsQ s h n f = (n.1, 1) := by unfold fsQ; rw [if_pos h0]
    rw [eQ, ow_one]
    refine ⟨Int.le_refl 1, by simp, by simp, by dsimp only; omega, fun z => ?_, fun p hp hn' => ?_⟩
    · have := k3 z; omega
    · have := hG (ow g s p) p.2
      rw [b0, Int.zero_mul, Int.zero_mul] at this
      dsimp only
      rw [Int.mul_one]
      exact ⟨fun _ => by omega, fun _ => hn'⟩
  · have eQ : fsQ s h n f = (frT (crT s h n f) (crB s h n f), frB (crT s h n f) (crB s h n f)) := by unfold fsQ; rw [if_neg h0]
    have c1 := fr_cross (crT s h n f) (crB s h n f)
    have c2 := frB_pos (t := crT s h n f) h0
    have c3 := fr_gcd (t := crT s h n f) h0
    rw [eQ]
    generalize frT (crT s h n f) (crB s h n f) = qt at *
    generalize frB (crT s h n f) (crB s h n f) = qb at *
    have ea : 0 < al := by
      have e : (ou g s f - ou g s n) * al = X2 + X1 := by
        have e1 : al * ou g s f - al * ou g s n = (ou g s f - ou g s n) * al := by grind
        omega
      have nn : al ≠ 0 := fun z => h0 (by rw [eB, z]; simp)
      rcases Int.lt_trichotomy al 0 with z | z | z
      · have := Int.mul_pos (show 0 < ou g s f - ou g s n by omega) (show 0 < -al by omega)
        rw [Int.mul_neg] at this
        omega
      · exact absurd z nn
      · exact z
    have eW : ow g s (qt, qb) * al = -(be * qb) := by
      unfold ow
      dsimp only
      have c1' := c1
      rw [eT, eB] at c1'
      rcases hg with rfl | rfl
      · have : (1 : Int) * (qt - s.1 * qb) * al = -(qt * (-1 * al)) + qb * (s.1 * (-1 * al)) := by grind
        rw [this, c1']
        grind
      · have : (-1 : Int) * (qt - s.1 * qb) * al = -(qt * (- -1 * al)) + qb * (s.1 * (- -1 * al)) := by grind
        rw [this, c1']
        grind
    generalize ow g s (qt, qb) = Wq at *
    refine ⟨c2, c3, ?_, ?_, fun z => ?_, fun p hp hn' => ?_⟩
    · refine lcan ea ?_
      dsimp only
      have := lmul (show 0 ≤ X1 by omega) (show 0 ≤ qb by omega)
      have e : ou g s n * qb * al = (al * ou g s n) * qb := by grind
      rw [e, show al * ou g s n = -X1 - be by omega, Int.sub_mul, Int.neg_mul]
      omega
    · refine lcan ea ?_
      dsimp only
      have := lmul k2 (show 0 ≤ qb by omega)
      have e : ou g s f * qb * al = (al * ou g s f) * qb := by grind
      rw [e, show al * ou g s f = X2 - be by omega, Int.sub_mul]
      omega
    · refine lcans ea ?_
      dsimp only
      have := lmuls (k3 z) (show 0 < qb by omega)
      have e : ou g s n * qb * al = (al * ou g s n) * qb := by grind
      rw [e, show al * ou g s n = -X1 - be by omega, Int.sub_mul, Int.neg_mul]
      omega
    · have hg' := hG (ow g s p) p.2
      generalize ow g s p = W at *
      have e1 : Wq * p.2 * al = -(be * p.2 * qb) := by
        have : Wq * p.2 * al = Wq * al * p.2 := by grind
        rw [this, eW]; grind
      have e2 : W * qb * al = al * W * qb := by grind
      constructor
      · intro h
        have := lmul h (Int.le_of_lt ea)
        dsimp only at this
        rw [e1, e2] at this
        have h2 : 0 * qb ≤ (al * W + be * p.2) * qb := by rw [Int.add_mul]; omega
        have := lcan (show 0 < qb by omega) h2
        omega
      · intro h
        refine lcan ea ?_
        dsimp only
        rw [e1, e2]
        have h2 := lmul (show 0 ≤ al * W + be * p.2 by omega) (show 0 ≤ qb by omega)
        rw [Int.add_mul] at h2
        omega
def outF (s : Int × Int) : Int × Int → Int × Int → List (Int × Int) → List St2
  | _, _, [] => []
  | h, n, f :: r => if 0 ≤ sdI s h f then (fsQ s h n f, (f.1, 1)) :: outF s f f r else outF s h f r
def outQ (s : Int × Int) : List (Int × Int) → List St2
  | [] => []
  | n :: r => ((s.1, 1), (n.1, 1)) :: outF s n n r
def HdO (g : Int) (s : Int × Int) (q : St2) (p : Int × Int) : Prop := ow g s q.1 * p.2 ≤ ow g s p * q.1.2 ∧ ow g s p * q.2.2 ≤ ow g s q.2 * p.2
structure PrO (g : Int) (s : Int × Int) (H N : List (Int × Int)) (n : Int × Int) (q : St2) : Prop where
  pos : 1 ≤ q.1.2
  gcd : Int.gcd q.1.1 q.1.2 = 1
  from' : ou g s n * q.1.2 ≤ ow g s q.1
  to : ow g s q.1 ≤ ow g s q.2 * q.1.2
  fin : ∃ f ∈ N, q.2 = (f.1, 1)
  org : ∃ (i : Nat) (h n' f : Int × Int), h ∈ H ∧ N[i]? = some n' ∧ N[i + 1]? = some f ∧ q.1 = fsQ s h n' f ∧ ou g s n' * q.1.2 ≤ ow g s q.1 ∧ ow g s q.1 ≤ ou g s f * q.1.2
theorem out_start {g : Int} (hg : g = 1 ∨ g = -1) {s : Int × Int} : ∀ (r : List (Int × Int)) (h n : Int × Int), 0 < ou g s h → 0 < ou g s n → (n.2 - s.2) * ou g s h ≤ (h.2 - s.2) * ou g s n → (n :: r).Pairwise (fun a b => ou g s a < ou g s b) →
    ∀ q ∈ outF s h n r, PrO g s (h :: n :: r) (n :: r) n q ∧ ((n.2 - s.2) * ou g s h < (h.2 - s.2) * ou g s n → ou g s n * q.1.2 < ow g s q.1)
  | [], h, n, _, _, _, _, q, hq => by simp [outF] at hq
  | f :: r, h, n, hh, hn, hs, pw, q, hq => by
    obtain ⟨p1, p2'⟩ := List.pairwise_cons.mp pw
    have hnf := p1 f (by simp)
    unfold outF at hq
    split at hq
    · rename_i hsd
      have hf := (sd_out hg hh).mp hsd
      obtain ⟨f1, f2, f3, f4, f5, f6⟩ := fs_out hg hh hnf hs hf
      rcases List.mem_cons.mp hq with rfl | hq
      · refine ⟨⟨f1, f2, f3, by rw [ow_one]; exact f4, ⟨f, by simp, rfl⟩, ⟨0, h, n, f, by simp, rfl, rfl, rfl, f3, f4⟩⟩, f5⟩
      · obtain ⟨k, _⟩ := out_start hg r f f (by omega) (by omega) (Int.le_refl _) p2' q hq
        have := k.from'
        have hq0 := k.pos
        have m := lmuls hnf (show 0 < q.1.2 by omega)
        obtain ⟨x, hx, ex⟩ := k.fin
        obtain ⟨i, h', n', f', o1, o2, o3, o4, o5, o6⟩ := k.org
        refine ⟨⟨k.pos, k.gcd, by omega, k.to, ⟨x, List.mem_cons_of_mem _ hx, ex⟩, ⟨i + 1, h', n', f', ?_, by simpa using o2, by simpa using o3, o4, o5, o6⟩⟩, fun _ => by omega⟩
        simp only [List.mem_cons] at o1 ⊢
        rcases o1 with o1 | o1 | o1 <;> simp [o1]
    · rename_i hsd
      have hf : ¬ (h.2 - s.2) * ou g s f ≤ (f.2 - s.2) * ou g s h := fun z => hsd ((sd_out hg hh).mpr z)
      obtain ⟨k, k2⟩ := out_start hg r h f hh (by omega) (by omega) p2' q hq
      have := k.from'
      have hq0 := k.pos
      have m := lmuls hnf (show 0 < q.1.2 by omega)
      obtain ⟨x, hx, ex⟩ := k.fin
      obtain ⟨i, h', n', f', o1, o2, o3, o4, o5, o6⟩ := k.org
      refine ⟨⟨k.pos, k.gcd, by omega, k.to, ⟨x, List.mem_cons_of_mem _ hx, ex⟩, ⟨i + 1, h', n', f', ?_, by simpa using o2, by simpa using o3, o4, o5, o6⟩⟩, fun _ => by omega⟩
      simp only [List.mem_cons] at o1 ⊢
      rcases o1 with o1 | o1 | o1 <;> simp [o1]
theorem slope_max {uh vh uc vc X Y : Int} (hh : 0 < uh) (hc : 0 < uc) (h : vc * uh ≤ vh * uc) (hX : 0 ≤ X) (hm : vh * X ≤ Y * uh) : vc * X ≤ Y * uc := by
  refine lcan hh ?_
  have k1 := lmul h hX
  have k2 := lmul hm (Int.le_of_lt hc)
  have e1 : vc * X * uh = vc * uh * X := by grind
  have e2 : vh * uc * X = vh * X * uc := by grind
  have e3 : Y * uh * uc = Y * uc * uh := by grind
  omega
theorem out_iff {g : Int} (hg : g = 1 ∨ g = -1) {s p : Int × Int} (hp : 0 < p.2) : ∀ (r : List (Int × Int)) (h n : Int × Int) (P : Int × Int → Prop), (∀ c, P c → 0 < ou g s c ∧ (c.2 - s.2) * ou g s h ≤ (h.2 - s.2) * ou g s c) → P h → P n → (n :: r).Pairwise (fun a b => ou g s a < ou g s b) →
    ∀ (i : Nat) (a b : Int × Int), (n :: r)[i]? = some a → (n :: r)[i + 1]? = some b → ou g s a * p.2 < ow g s p → ow g s p ≤ ou g s b * p.2 →
    ((∃ q ∈ outF s h n r, HdO g s q p) ↔ ∀ c, (P c ∨ (c ∈ r ∧ ou g s c * p.2 < ow g s p)) → (c.2 - s.2) * ow g s p * (ou g s b - ou g s a) ≤ Yv (ou g s a) (a.2 - s.2) (ou g s b) (b.2 - s.2) (ow g s p) p.2 * ou g s c)
  | [], h, n, P, _, _, _, _, i, a, b, _, hb, _, _ => by cases i <;> simp at hb
  | f :: r, h, n, P, hP, hh, hn, pw, 0, a, b, ha, hb, wa, wb => by
    have ea : n = a := by simpa using ha
    have eb : f = b := by simpa using hb
    subst ea eb
    obtain ⟨p1, p2'⟩ := List.pairwise_cons.mp pw
    have hnf := p1 f (by simp)
    have uh := (hP h hh).1
    have un := (hP n hn).1
    have hns := (hP n hn).2
    have late : ∀ c ∈ f :: r, ¬ ou g s c * p.2 < ow g s p := fun c hc z => by
      rcases List.mem_cons.mp hc with rfl | hc
      · omega
      · have := lmuls ((List.pairwise_cons.mp p2').1 c hc) hp
        omega
    have hX : 0 ≤ ow g s p * (ou g s f - ou g s n) := Int.mul_nonneg (by have := Int.mul_pos un hp; omega) (by omega)
    have all : (h.2 - s.2) * ow g s p * (ou g s f - ou g s n) ≤ Yv (ou g s n) (n.2 - s.2) (ou g s f) (f.2 - s.2) (ow g s p) p.2 * ou g s h → ∀ c, (P c ∨ (c ∈ f :: r ∧ ou g s c * p.2 < ow g s p)) → (c.2 - s.2) * ow g s p * (ou g s f - ou g s n) ≤ Yv (ou g s n) (n.2 - s.2) (ou g s f) (f.2 - s.2) (ow g s p) p.2 * ou g s c := fun z c hc => by
      rcases hc with hc | ⟨hc, hl⟩
      · rw [Int.mul_assoc] at z ⊢
        exact slope_max uh (hP c hc).1 (hP c hc).2 hX z
      · exact absurd hl (late c hc)
    unfold outF
    split
    · rename_i hsd
      have hf := (sd_out hg uh).mp hsd
      obtain ⟨f1, f2, f3, f4, f5, f6⟩ := fs_out hg uh hnf hns hf
      have f6 := f6 p hp (by omega)
      constructor
      · rintro ⟨q, hq, h1, h2⟩
        refine all (f6.mp ?_)
        rcases List.mem_cons.mp hq with rfl | hq
        · exact h1
        · obtain ⟨k, _⟩ := out_start hg r f f (by omega) (by omega) (Int.le_refl _) p2' q hq
          have k1 := lmul k.from' (Int.le_of_lt hp)
          have k2 : ou g s f * p.2 ≤ ow g s p := by
            refine lcan (show 0 < q.1.2 by have := k.pos; omega) ?_
            have e : ou g s f * q.1.2 * p.2 = ou g s f * p.2 * q.1.2 := by grind
            omega
          have e : ow g s p = ou g s f * p.2 := by omega
          rw [e]
          have := lmul f4 (Int.le_of_lt hp)
          have e2 : ou g s f * (fsQ s h n f).2 * p.2 = ou g s f * p.2 * (fsQ s h n f).2 := by grind
          omega
      · intro hall
        refine ⟨_, List.mem_cons_self .., f6.mpr (hall h (.inl hh)), ?_⟩
        show ow g s p * 1 ≤ ow g s (f.1, 1) * p.2
        rw [ow_one]; omega
    · rename_i hsd
      have hf : ¬ (h.2 - s.2) * ou g s f ≤ (f.2 - s.2) * ou g s h := fun z => hsd ((sd_out hg uh).mpr z)
      constructor
      · rintro ⟨q, hq, h1, h2⟩
        exfalso
        obtain ⟨k, k2⟩ := out_start hg r h f uh (by omega) (by omega) p2' q hq
        have k3 := lmuls (k2 (by omega)) hp
        have k4 := lmul wb (show 0 ≤ q.1.2 by have := k.pos; omega)
        have e : ou g s f * q.1.2 * p.2 = ou g s f * p.2 * q.1.2 := by grind
        omega
      · intro hall
        exfalso
        have z := hall h (.inl hh)
        have e : Yv (ou g s n) (n.2 - s.2) (ou g s f) (f.2 - s.2) (ow g s p) p.2 * ou g s h - (h.2 - s.2) * ow g s p * (ou g s f - ou g s n) = ((n.2 - s.2) * ou g s h - (h.2 - s.2) * ou g s n) * (ou g s f * p.2 - ow g s p) + ((f.2 - s.2) * ou g s h - (h.2 - s.2) * ou g s f) * (ow g s p - ou g s n * p.2) := by
          unfold Yv; grind
        have m1 := Int.mul_nonneg (show 0 ≤ -((n.2 - s.2) * ou g s h - (h.2 - s.2) * ou g s n) by omega) (show 0 ≤ ou g s f * p.2 - ow g s p by omega)
        have m2 := Int.mul_pos (show 0 < -((f.2 - s.2) * ou g s h - (h.2 - s.2) * ou g s f) by omega) (show 0 < ow g s p - ou g s n * p.2 by omega)
        rw [Int.neg_mul] at m1 m2
        omega
  | f :: r, h, n, P, hP, hh, hn, pw, i + 1, a, b, ha, hb, wa, wb => by
    obtain ⟨p1, p2'⟩ := List.pairwise_cons.mp pw
    have ha' : (f :: r)[i]? = some a := by simpa using ha
    have hb' : (f :: r)[i + 1]? = some b := by simpa using hb
    have hnf := p1 f (by simp)
    have uh := (hP h hh).1
    have un := (hP n hn).1
    have hns := (hP n hn).2
    have hfa : ou g s f * p.2 < ow g s p := by
      have : ou g s f ≤ ou g s a := by
        rcases List.mem_cons.mp (List.mem_of_getElem? ha') with e | e
        · rw [e]; exact Int.le_refl _
        · exact Int.le_of_lt ((List.pairwise_cons.mp p2').1 a e)
      have := lmul this (Int.le_of_lt hp)
      omega
    have conv : ∀ T : Int × Int → Prop, (∀ c, ((P c ∨ c = f) ∨ (c ∈ r ∧ ou g s c * p.2 < ow g s p)) → T c) ↔ ∀ c, (P c ∨ (c ∈ f :: r ∧ ou g s c * p.2 < ow g s p)) → T c := fun T => by
      constructor
      · rintro z c (hc | ⟨hc, hl⟩)
        · exact z c (.inl (.inl hc))
        · rcases List.mem_cons.mp hc with hc | hc
          · exact z c (.inl (.inr hc))
          · exact z c (.inr ⟨hc, hl⟩)
      · rintro z c ((hc | hc) | ⟨hc, hl⟩)
        · exact z c (.inl hc)
        · subst hc; exact z c (.inr ⟨by simp, hfa⟩)
        · exact z c (.inr ⟨List.mem_cons_of_mem _ hc, hl⟩)
    unfold outF
    split
    · rename_i hsd
      have hf := (sd_out hg uh).mp hsd
      have ih := out_iff hg hp r f f (fun c => P c ∨ c = f) (fun c hc => by
        rcases hc with hc | rfl
        · refine ⟨(hP c hc).1, ?_⟩
          have := slope_max (Y := f.2 - s.2) (X := ou g s f) uh (hP c hc).1 (hP c hc).2 (by omega) hf
          exact this
        · exact ⟨by omega, Int.le_refl _⟩) (.inr rfl) (.inr rfl) p2' i a b ha' hb' wa wb
      rw [← conv, ← ih]
      constructor
      · rintro ⟨q, hq, h1, h2⟩
        rcases List.mem_cons.mp hq with rfl | hq
        · exfalso
          have h2 : ow g s p * 1 ≤ ow g s (f.1, 1) * p.2 := h2
          rw [ow_one] at h2; omega
        · exact ⟨q, hq, h1, h2⟩
      · rintro ⟨q, hq, h1⟩
        exact ⟨q, List.mem_cons_of_mem _ hq, h1⟩
    · rename_i hsd
      have hf : ¬ (h.2 - s.2) * ou g s f ≤ (f.2 - s.2) * ou g s h := fun z => hsd ((sd_out hg uh).mpr z)
      have ih := out_iff hg hp r h f (fun c => P c ∨ c = f) (fun c hc => by
        rcases hc with hc | rfl
        · exact hP c hc
        · exact ⟨by omega, by omega⟩) (.inl hh) (.inr rfl) p2' i a b ha' hb' wa wb
      rw [← conv, ← ih]
theorem brk_ex {g : Int} {s p : Int × Int} : ∀ (r : List (Int × Int)) (n : Int × Int), ou g s n * p.2 < ow g s p → (∃ c ∈ n :: r, ow g s p ≤ ou g s c * p.2) → ∃ (i : Nat) (a b : Int × Int), (n :: r)[i]? = some a ∧ (n :: r)[i + 1]? = some b ∧ ou g s a * p.2 < ow g s p ∧ ow g s p ≤ ou g s b * p.2
  | [], n, h, ⟨c, hc, h2⟩ => by
    have : c = n := by simpa using hc
    subst this; omega
  | f :: r, n, h, ⟨c, hc, h2⟩ => by
    rcases (by omega : ou g s f * p.2 < ow g s p ∨ ow g s p ≤ ou g s f * p.2) with z | z
    · obtain ⟨i, a, b, h1, h3, h4, h5⟩ := brk_ex r f z ⟨c, by
        rcases List.mem_cons.mp hc with e | e
        · subst e; omega
        · exact e, h2⟩
      exact ⟨i + 1, a, b, by simpa using h1, by simpa using h3, h4, h5⟩
    · exact ⟨0, n, f, rfl, rfl, h, z⟩
structure Out (g : Int) (cs : List (Int × Int)) (s : Int × Int) (os : List (Int × Int)) : Prop where
  pw : os.Pairwise (fun a b => ou g s a < ou g s b)
  mem : ∀ c, c ∈ os ↔ c ∈ cs ∧ 0 < ou g s c
theorem on_out {cs : List (Int × Int)} (gr : Grd cs) {g : Int} (hg : g = 1 ∨ g = -1) {s p : Int × Int} (hp : 0 < p.2) (on : OnG cs p) (hw : 0 < ow g s p) : ∃ c ∈ cs, 0 < ou g s c ∧ ow g s p ≤ ou g s c * p.2 := by
  rcases hg with rfl | rfl
  · obtain ⟨z, hz, ez⟩ := grd_last gr
    have h2 := on.2
    rw [ez] at h2
    have k : ow 1 s p ≤ ou 1 s z * p.2 := by
      unfold ow ou
      have : (1 : Int) * (z.1 - s.1) * p.2 = z.1 * p.2 - s.1 * p.2 := by grind
      omega
    refine ⟨z, List.mem_of_getElem? hz, ?_, k⟩
    exact Int.pos_of_mul_pos_left (a := ou 1 s z) (b := p.2) (by omega) hp
  · obtain ⟨z, hz, ez⟩ := grd_first gr
    have h2 := on.1
    rw [ez] at h2
    have k : ow (-1) s p ≤ ou (-1) s z * p.2 := by
      unfold ow ou
      have : (-1 : Int) * (z.1 - s.1) * p.2 = s.1 * p.2 - z.1 * p.2 := by grind
      omega
    refine ⟨z, List.mem_of_getElem? hz, ?_, k⟩
    exact Int.pos_of_mul_pos_left (a := ou (-1) s z) (b := p.2) (by omega) hp
theorem outQ_iff {cs : List (Int × Int)} (gr : Grd cs) {g : Int} (hg : g = 1 ∨ g = -1) {s p : Int × Int} (hp : 0 < p.2) (on : OnG cs p) (hw : 0 < ow g s p) {os : List (Int × Int)} (ho : Out g cs s os) : (∃ q ∈ outQ s os, HdO g s q p) ↔ Vis cs s p = true := by
  obtain ⟨z, hz, hz0, hz1⟩ := on_out gr hg hp on hw
  cases os with
  | nil => exact absurd ((ho.mem z).mpr ⟨hz, hz0⟩) (by simp)
  | cons n r =>
    have hn := (ho.mem n).mp (by simp)
    obtain ⟨p1, p2'⟩ := List.pairwise_cons.mp ho.pw
    unfold outQ
    rcases (by omega : ou g s n * p.2 < ow g s p ∨ ow g s p ≤ ou g s n * p.2) with w | w
    · obtain ⟨i, a, b, h1, h2, h3, h4⟩ := brk_ex r n w ⟨z, (ho.mem z).mpr ⟨hz, hz0⟩, hz1⟩
      have ha := (ho.mem a).mp (List.mem_of_getElem? h1)
      have hb := (ho.mem b).mp (List.mem_of_getElem? h2)
      have hab : ou g s a < ou g s b := lcans hp (by omega)
      have no : ∀ c ∈ cs, ¬ (ou g s a < ou g s c ∧ ou g s c < ou g s b) := fun c hc ⟨c1, c2⟩ => by
        obtain ⟨k, hk⟩ := List.mem_iff_getElem?.mp ((ho.mem c).mpr ⟨hc, by omega⟩)
        have pw := List.pairwise_iff_getElem.mp ho.pw
        have li := lt_getD h1
        have lj := lt_getD h2
        have lk := lt_getD hk
        rw [List.getElem?_eq_getElem li] at h1
        rw [List.getElem?_eq_getElem lj] at h2
        rw [List.getElem?_eq_getElem lk] at hk
        cases h1; cases h2; cases hk
        rcases Nat.lt_trichotomy k i with e | e | e
        · have := pw k i lk li e; omega
        · subst e; omega
        · rcases Nat.lt_or_ge (i + 1) k with e2 | e2
          · have := pw (i + 1) k lj lk e2; omega
          · have : k = i + 1 := by omega
            subst this; omega
      have bk : Brk cs p a b ∨ Brk cs p b a := by
        rcases hg with rfl | rfl
        · unfold ou ow at *
          have e1 : (1 : Int) * (a.1 - s.1) * p.2 = a.1 * p.2 - s.1 * p.2 := by grind
          have e2 : (1 : Int) * (b.1 - s.1) * p.2 = b.1 * p.2 - s.1 * p.2 := by grind
          exact .inl ⟨ha.1, hb.1, by omega, by omega, by omega, fun c hc z => no c hc ⟨by omega, by omega⟩⟩
        · unfold ou ow at *
          have e1 : (-1 : Int) * (a.1 - s.1) * p.2 = s.1 * p.2 - a.1 * p.2 := by grind
          have e2 : (-1 : Int) * (b.1 - s.1) * p.2 = s.1 * p.2 - b.1 * p.2 := by grind
          exact .inr ⟨hb.1, ha.1, by omega, by omega, by omega, fun c hc z => no c hc ⟨by omega, by omega⟩⟩
      have io := out_iff hg hp r n n (fun c => c = n) (fun c hc => by subst hc; exact ⟨hn.2, Int.le_refl _⟩) rfl rfl ho.pw i a b h1 h2 h3 h4
      rw [vis_iff gr hg hp hw on hab bk]
      constructor
      · rintro ⟨q, hq, q1, q2⟩ c hc c1 c2
        have hq' : q ∈ outF s n n r := by
          rcases List.mem_cons.mp hq with rfl | hq
          · exfalso
            have q2 : ow g s p * 1 ≤ ow g s (n.1, 1) * p.2 := q2
            rw [ow_one] at q2; omega
          · exact hq
        refine io.mp ⟨q, hq', q1, q2⟩ c ?_
        rcases List.mem_cons.mp ((ho.mem c).mpr ⟨hc, c1⟩) with e | e
        · exact .inl e
        · exact .inr ⟨e, c2⟩
      · intro hall
        obtain ⟨q, hq, hh⟩ := io.mpr fun c hc => by
          rcases hc with rfl | ⟨hc, hl⟩
          · exact hall c hn.1 hn.2 w
          · have := (ho.mem c).mp (List.mem_cons_of_mem _ hc)
            exact hall c this.1 this.2 hl
        exact ⟨q, List.mem_cons_of_mem _ hq, hh⟩
    · refine ⟨fun _ => vis_no fun c hc => ?_, fun _ => ⟨_, List.mem_cons_self .., ?_, ?_⟩⟩
      · rw [Bool.eq_false_iff]
        intro hb
        obtain ⟨c1, c2⟩ := (btw_out hg hp hw).mp hb
        have : ou g s n ≤ ou g s c := by
          rcases List.mem_cons.mp ((ho.mem c).mpr ⟨hc, c1⟩) with e | e
          · rw [e]; exact Int.le_refl _
          · exact Int.le_of_lt (p1 c e)
        have := lmul this (Int.le_of_lt hp)
        omega
      · show ow g s (s.1, 1) * p.2 ≤ ow g s p * 1
        rw [ow_one]
        unfold ou
        rw [Int.sub_self, Int.mul_zero, Int.zero_mul]; omega
      · show ow g s p * 1 ≤ ow g s (n.1, 1) * p.2
        rw [ow_one]; omega
theorem outQ_pair {g : Int} (hg : g = 1 ∨ g = -1) {cs : List (Int × Int)} {s : Int × Int} {os : List (Int × Int)} (ho : Out g cs s os) : ∀ q ∈ outQ s os, 1 ≤ q.1.2 ∧ q.2.2 = 1 ∧ 0 ≤ ow g s q.1 ∧ ow g s q.1 ≤ ow g s q.2 * q.1.2 ∧ (∃ f ∈ cs, q.2 = (f.1, 1)) ∧ (q.1 = (s.1, 1) ∨ ∃ (i : Nat) (h n f : Int × Int), (h ∈ cs ∧ 0 < ou g s h) ∧ os[i]? = some n ∧ os[i + 1]? = some f ∧ q.1 = fsQ s h n f ∧ ou g s n * q.1.2 ≤ ow g s q.1 ∧ ow g s q.1 ≤ ou g s f * q.1.2) := by
  cases os with
  | nil => intro q hq; simp [outQ] at hq
  | cons n r =>
    intro q hq
    have hn := (ho.mem n).mp (by simp)
    unfold outQ at hq
    rcases List.mem_cons.mp hq with rfl | hq
    · have e0 : ow g s (s.1, 1) = 0 := by rw [ow_one]; unfold ou; rw [Int.sub_self, Int.mul_zero]
      refine ⟨Int.le_refl 1, rfl, by rw [e0]; exact Int.le_refl _, ?_, ⟨n, hn.1, rfl⟩, .inl rfl⟩
      show ow g s (s.1, 1) ≤ ow g s (n.1, 1) * 1
      rw [e0, ow_one]; omega
    · obtain ⟨k, _⟩ := out_start hg r n n hn.2 hn.2 (Int.le_refl _) ho.pw q hq
      obtain ⟨f, hf, ef⟩ := k.fin
      obtain ⟨i, h, n', f', o1, o2, o3, o4, o5, o6⟩ := k.org
      refine ⟨k.pos, by rw [ef], ?_, k.to, ⟨f, ((ho.mem f).mp hf).1, ef⟩, .inr ⟨i, h, n', f', ?_, o2, o3, o4, o5, o6⟩⟩
      · have := k.from'
        have := Int.mul_nonneg (Int.le_of_lt hn.2) (show 0 ≤ q.1.2 by have := k.pos; omega)
        omega
      · refine (ho.mem h).mp ?_
        simp only [List.mem_cons] at o1 ⊢
        rcases o1 with o1 | o1 | o1 <;> simp [o1]
theorem mm_ex : ∀ n : Nat, ∃ M : Int, 0 < M ∧ ∀ b : Int, 1 ≤ b → b ≤ n → ∃ k, M = b * k
  | 0 => ⟨1, by decide, fun b h1 h2 => by omega⟩
  | n + 1 => by
    obtain ⟨M, h0, h⟩ := mm_ex n
    refine ⟨((n + 1 : Nat) : Int) * M, Int.mul_pos (by omega) h0, fun b h1 h2 => ?_⟩
    rcases (by omega : b = ((n + 1 : Nat) : Int) ∨ b ≤ n) with e | e
    · exact ⟨M, by rw [e]⟩
    · obtain ⟨k, ek⟩ := h b h1 e
      exact ⟨((n + 1 : Nat) : Int) * k, by rw [ek]; grind⟩
noncomputable def MM : Int := Classical.choose (mm_ex (2 ^ 2000))
theorem MM_pos : 0 < MM := (Classical.choose_spec (mm_ex (2 ^ 2000))).1
theorem MM_dvd {b : Int} (h1 : 1 ≤ b) (h2 : Bd 2000 b) : ∃ k, MM = b * k := (Classical.choose_spec (mm_ex (2 ^ 2000))).2 b h1 (by unfold Bd at h2; omega)
noncomputable def eU (a : Int × Int) : Int := 2 * (a.1 * (MM / a.2))
abbrev FU (a : Int × Int) : Prop := FrOk 2000 a
theorem eU_mul {a : Int × Int} (ha : FU a) : eU a * a.2 = a.1 * (2 * MM) := by
  obtain ⟨k, e⟩ := MM_dvd ha.pos ha.bb
  unfold eU
  rw [e, Int.mul_ediv_cancel_left _ (by have := ha.pos; omega)]
  grind
theorem eU_even (a : Int × Int) : eU a % 2 = 0 := by unfold eU; omega
theorem eU_le {a : Int × Int} (ha : FU a) {h : Int} {p : Int × Int} (hp : 0 < p.2) (e : p.1 * (2 * MM) = h * p.2) : (eU a ≤ h ↔ a.1 * p.2 ≤ p.1 * a.2) ∧ (h ≤ eU a ↔ p.1 * a.2 ≤ a.1 * p.2) := by
  have e1 := eU_mul ha
  have hM := MM_pos
  have h2 : 0 < a.2 := by have := ha.pos; omega
  have hap : 0 < a.2 * p.2 := Int.mul_pos h2 hp
  generalize MM = M at *
  have x1 : eU a * (a.2 * p.2) = a.1 * p.2 * (2 * M) := by rw [← Int.mul_assoc, e1]; grind
  have x2 : h * (a.2 * p.2) = p.1 * a.2 * (2 * M) := by
    have : h * (a.2 * p.2) = h * p.2 * a.2 := by grind
    rw [this, ← e]; grind
  have h2M : 0 < 2 * M := by omega
  constructor
  · constructor
    · intro z
      have := lmul z (Int.le_of_lt hap)
      rw [x1, x2] at this
      exact lcan h2M this
    · intro z
      refine lcan hap ?_
      rw [x1, x2]
      exact lmul z (Int.le_of_lt h2M)
  · constructor
    · intro z
      have := lmul z (Int.le_of_lt hap)
      rw [x1, x2] at this
      exact lcan h2M this
    · intro z
      refine lcan hap ?_
      rw [x1, x2]
      exact lmul z (Int.le_of_lt h2M)
theorem eU_cmp {a b : Int × Int} (ha : FU a) (hb : FU b) : (eU a ≤ eU b ↔ a.1 * b.2 ≤ b.1 * a.2) := (eU_le ha (h := eU b) (p := b) (by have := hb.pos; omega) (eU_mul hb).symm).1
theorem eU_emb {K : Int × Int → Prop} (hK : ∀ a, K a → FU a) : Emb K eU where
  lt := fun a b ha hb => by
    have := eU_cmp (hK b hb) (hK a ha)
    unfold flt
    refine decide_eq_decide.mpr ?_
    omega
  inj := fun a b ha hb e => by
    have x1 := (eU_cmp (hK b hb) (hK a ha)).mp (by omega)
    have x2 := (eU_cmp (hK a ha) (hK b hb)).mp (by omega)
    have pa := (hK a ha).pos
    have pb := (hK b hb).pos
    have := fr_same (t := a.1) (b := a.2) (t' := b.1) (b' := b.2) (by omega) (by omega) (by omega)
    have fa := fr_unique (t := a.1) (b := a.2) (u := a.1) (v := a.2) (by omega) pa (hK a ha).g (by rw [Int.mul_comm])
    have fb := fr_unique (t := b.1) (b := b.2) (u := b.1) (v := b.2) (by omega) pb (hK b hb).g (by rw [Int.mul_comm])
    exact Prod.ext (by rw [← fa.1, ← fb.1, this.1]) (by rw [← fa.2, ← fb.2, this.2])
  mul := fun a b ha hb => .inl ⟨(hK a ha).bt.mono (by decide), (hK b hb).bb.mono (by decide)⟩
theorem KS_U {K : Int × Int → Prop} {s : St2} (h1 : K s.1) (h2 : K s.2) : KS K eU s := ⟨h1, h2, eU_even _, eU_even _⟩
theorem hd_right {s : Int × Int} {q : St2} {p : Int × Int} : HdO 1 s q p ↔ q.1.1 * p.2 ≤ p.1 * q.1.2 ∧ p.1 * q.2.2 ≤ q.2.1 * p.2 := by
  unfold HdO ow
  have e1 : (1 : Int) * (q.1.1 - s.1 * q.1.2) * p.2 = q.1.1 * p.2 - s.1 * q.1.2 * p.2 := by grind
  have e2 : (1 : Int) * (p.1 - s.1 * p.2) * q.1.2 = p.1 * q.1.2 - s.1 * q.1.2 * p.2 := by grind
  have e3 : (1 : Int) * (q.2.1 - s.1 * q.2.2) * p.2 = q.2.1 * p.2 - s.1 * q.2.2 * p.2 := by grind
  have e4 : (1 : Int) * (p.1 - s.1 * p.2) * q.2.2 = p.1 * q.2.2 - s.1 * q.2.2 * p.2 := by grind
  rw [e1, e2, e3, e4]
  omega
theorem hd_left {s : Int × Int} {q : St2} {p : Int × Int} : HdO (-1) s q p ↔ p.1 * q.1.2 ≤ q.1.1 * p.2 ∧ q.2.1 * p.2 ≤ p.1 * q.2.2 := by
  unfold HdO ow
  have e1 : (-1 : Int) * (q.1.1 - s.1 * q.1.2) * p.2 = s.1 * q.1.2 * p.2 - q.1.1 * p.2 := by grind
  have e2 : (-1 : Int) * (p.1 - s.1 * p.2) * q.1.2 = s.1 * q.1.2 * p.2 - p.1 * q.1.2 := by grind
  have e3 : (-1 : Int) * (q.2.1 - s.1 * q.2.2) * p.2 = s.1 * q.2.2 * p.2 - q.2.1 * p.2 := by grind
  have e4 : (-1 : Int) * (p.1 - s.1 * p.2) * q.2.2 = s.1 * q.2.2 * p.2 - p.1 * q.2.2 := by grind
  rw [e1, e2, e3, e4]
  omega
def Nb (cs : List (Int × Int)) (n f : Int × Int) : Prop := n ∈ cs ∧ f ∈ cs ∧ n.1 ≠ f.1 ∧ ∀ c ∈ cs, ¬ (min n.1 f.1 < c.1 ∧ c.1 < max n.1 f.1)
theorem out_nb {g : Int} (hg : g = 1 ∨ g = -1) {cs : List (Int × Int)} {s : Int × Int} {os : List (Int × Int)} (ho : Out g cs s os) {i : Nat} {n f : Int × Int} (h1 : os[i]? = some n) (h2 : os[i + 1]? = some f) : Nb cs n f ∧ ou g s n < ou g s f := by
  have hn := (ho.mem n).mp (List.mem_of_getElem? h1)
  have hf := (ho.mem f).mp (List.mem_of_getElem? h2)
  have pw := List.pairwise_iff_getElem.mp ho.pw
  have li := lt_getD h1
  have lj := lt_getD h2
  rw [List.getElem?_eq_getElem li] at h1
  rw [List.getElem?_eq_getElem lj] at h2
  cases h1; cases h2
  have hlt := pw i (i + 1) li lj (by omega)
  have no : ∀ c ∈ cs, ¬ (ou g s os[i] < ou g s c ∧ ou g s c < ou g s os[i + 1]) := fun c hc ⟨c1, c2⟩ => by
    obtain ⟨k, hk⟩ := List.mem_iff_getElem?.mp ((ho.mem c).mpr ⟨hc, by omega⟩)
    have lk := lt_getD hk
    rw [List.getElem?_eq_getElem lk] at hk
    cases hk
    rcases Nat.lt_trichotomy k i with e | e | e
    · have := pw k i lk li e; omega
    · subst e; omega
    · rcases Nat.lt_or_ge (i + 1) k with e2 | e2
      · have := pw (i + 1) k lj lk e2; omega
      · have : k = i + 1 := by omega
        subst this; omega
  refine ⟨⟨hn.1, hf.1, ?_, fun c hc z => no c hc ?_⟩, hlt⟩
  · rcases hg with rfl | rfl <;> (unfold ou at hlt; omega)
  · rcases hg with rfl | rfl <;> (unfold ou at hlt ⊢; omega)
def EndOf (cs : List (Int × Int)) (s a : Int × Int) : Prop := a = (s.1, 1) ∨ (∃ c ∈ cs, a = (c.1, 1)) ∨ ∃ h n f : Int × Int, h ∈ cs ∧ h.1 ≠ s.1 ∧ Nb cs n f ∧ a = fsQ s h n f ∧ a.2 * min n.1 f.1 ≤ a.1 ∧ a.1 ≤ a.2 * max n.1 f.1
abbrev KU (cs : List (Int × Int)) (s a : Int × Int) : Prop := FU a ∧ EndOf cs s a
theorem fu_one {x : Int} (h : Bd 1000 x) : FU (x, 1) := ⟨Int.le_refl 1, by simp, h.mono (by decide), (Bd.lit (by decide) (by decide) : Bd 2000 (1 : Int))⟩
theorem fu_fs {s h n f : Int × Int} (hb : ∀ x ∈ [s, h, n, f], Bd 180 x.1 ∧ Bd 200 x.2) : FU (fsQ s h n f) := by
  obtain ⟨s1, s2⟩ := hb s (by simp)
  obtain ⟨c1, c2⟩ := hb h (by simp)
  obtain ⟨a1, a2⟩ := hb n (by simp)
  obtain ⟨b1, b2⟩ := hb f (by simp)
  by_cases h0 : crB s h n f = 0
  · have eQ : fsQ s h n f = (n.1, 1) := by unfold fsQ; rw [if_pos h0]
    rw [eQ]; exact fu_one (a1.mono (by decide))
  · have eQ : fsQ s h n f = (frT (crT s h n f) (crB s h n f), frB (crT s h n f) (crB s h n f)) := by unfold fsQ; rw [if_neg h0]
    have d1 : Bd 201 (h.2 - s.2) := Bd.sub c2 s2
    have d2 : Bd 181 (h.1 - s.1) := Bd.sub c1 s1
    have d3 : Bd 201 (f.2 - n.2) := Bd.sub b2 a2
    have d4 : Bd 181 (f.1 - n.1) := Bd.sub b1 a1
    have d5 : Bd 201 (n.2 - s.2) := Bd.sub a2 s2
    have bB : Bd 400 (crB s h n f) := (Bd.sub (n := 382) (Bd.mul d1 d4) (Bd.mul d3 d2)).mono (by decide)
    have m1 : Bd 562 (s.1 * (h.2 - s.2) * (f.1 - n.1)) := Bd.mul (Bd.mul s1 d1) d4
    have m2 : Bd 562 (n.1 * (f.2 - n.2) * (h.1 - s.1)) := Bd.mul (Bd.mul a1 d3) d2
    have bT : Bd 570 (crT s h n f) := (Bd.sub (n := 564) (Bd.add (n := 563) (Bd.mul (Bd.mul d5 d2) d4) (m1.mono (by decide))) (m2.mono (by decide))).mono (by decide)
    rw [eQ]
    exact ⟨frB_pos h0, fr_gcd h0, (frT_bd bT).mono (by decide), (frB_bd bB).mono (by decide)⟩
theorem outQ_mem {g : Int} (hg : g = 1 ∨ g = -1) {cs : List (Int × Int)} {s : Int × Int} {os : List (Int × Int)} (hs : Bd 180 s.1 ∧ Bd 200 s.2) (hcs : ∀ c ∈ cs, Bd 180 c.1 ∧ Bd 200 c.2) (ho : Out g cs s os) : ∀ q ∈ outQ s os, KU cs s q.1 ∧ KU cs s q.2 := fun q hq => by
  obtain ⟨q1, q2, q3, q4, ⟨f, hf, ef⟩, q5⟩ := outQ_pair hg ho q hq
  refine ⟨?_, by rw [ef]; exact ⟨fu_one ((hcs f hf).1.mono (by decide)), .inr (.inl ⟨f, hf, rfl⟩)⟩⟩
  rcases q5 with e | ⟨i, h, n, f', h1, h2, h3, h4, h5, h6⟩
  · rw [e]; exact ⟨fu_one (hs.1.mono (by decide)), .inl rfl⟩
  · obtain ⟨nb, hlt⟩ := out_nb hg ho h2 h3
    rw [h4]
    rw [h4] at h5 h6 q1
    refine ⟨fu_fs fun x hx => ?_, .inr (.inr ⟨h, n, f', h1.1, (fun e => by have := h1.2; unfold ou at this; rw [e, Int.sub_self, Int.mul_zero] at this; omega), nb, rfl, ?_, ?_⟩)⟩
    · simp only [List.mem_cons, List.not_mem_nil, or_false] at hx
      rcases hx with rfl | rfl | rfl | rfl
      · exact hs
      · exact hcs _ h1.1
      · exact hcs _ nb.1
      · exact hcs _ nb.2.1
    · rcases hg with rfl | rfl
      · unfold ou ow at *
        rw [show min n.1 f'.1 = n.1 by omega]
        have e1 : (1 : Int) * (n.1 - s.1) * (fsQ s h n f').2 = (fsQ s h n f').2 * n.1 - s.1 * (fsQ s h n f').2 := by grind
        omega
      · unfold ou ow at *
        rw [show min n.1 f'.1 = f'.1 by omega]
        have e1 : (-1 : Int) * (f'.1 - s.1) * (fsQ s h n f').2 = s.1 * (fsQ s h n f').2 - (fsQ s h n f').2 * f'.1 := by grind
        omega
    · rcases hg with rfl | rfl
      · unfold ou ow at *
        rw [show max n.1 f'.1 = f'.1 by omega]
        have e1 : (1 : Int) * (f'.1 - s.1) * (fsQ s h n f').2 = (fsQ s h n f').2 * f'.1 - s.1 * (fsQ s h n f').2 := by grind
        omega
      · unfold ou ow at *
        rw [show max n.1 f'.1 = n.1 by omega]
        have e1 : (-1 : Int) * (n.1 - s.1) * (fsQ s h n f').2 = s.1 * (fsQ s h n f').2 - (fsQ s h n f').2 * n.1 := by grind
        omega
theorem seen_iff {cs : List (Int × Int)} (gr : Grd cs) {s : Int × Int} (hs : Bd 180 s.1 ∧ Bd 200 s.2) (son : OnG cs (s.1, 1)) {ls rs : List (Int × Int)} (hl : Out (-1) cs s ls) (hr : Out 1 cs s rs) {h : Int} {p : Int × Int} (hp : 0 < p.2) (e : p.1 * (2 * MM) = h * p.2) :
    (h = eU (s.1, 1) ∨ (∃ q ∈ outQ s ls, eU q.2 ≤ h ∧ h ≤ eU q.1) ∨ ∃ q ∈ outQ s rs, eU q.1 ≤ h ∧ h ≤ eU q.2) ↔ OnG cs p ∧ Vis cs s p = true := by
  have hcs : ∀ c ∈ cs, Bd 180 c.1 ∧ Bd 200 c.2 := fun c hc => ⟨(gr.bd c hc).1.mono (by decide), (gr.bd c hc).2.mono (by decide)⟩
  obtain ⟨o1, o2⟩ := eU_le (fu_one (hs.1.mono (by decide))) hp e
  dsimp only at o1 o2
  rw [Int.mul_one] at o1 o2
  have cl : ∀ q ∈ outQ s ls, (eU q.2 ≤ h ∧ h ≤ eU q.1) ↔ HdO (-1) s q p := fun q hq => by
    obtain ⟨m1, m2⟩ := outQ_mem (.inr rfl) hs hcs hl q hq
    rw [hd_left, (eU_le m2.1 hp e).1, (eU_le m1.1 hp e).2]
    exact And.comm
  have cr : ∀ q ∈ outQ s rs, (eU q.1 ≤ h ∧ h ≤ eU q.2) ↔ HdO 1 s q p := fun q hq => by
    obtain ⟨m1, m2⟩ := outQ_mem (.inl rfl) hs hcs hr q hq
    rw [hd_right, (eU_le m1.1 hp e).1, (eU_le m2.1 hp e).2]
  have f1 : fstC cs * 1 ≤ s.1 := son.1
  have l1 : s.1 ≤ lstC cs * 1 := son.2
  have f1' := lmul f1 (Int.le_of_lt hp)
  have l1' := lmul l1 (Int.le_of_lt hp)
  rw [Int.mul_one] at f1' l1'
  have nol : s.1 * p.2 < p.1 → ∀ q ∈ outQ s ls, ¬ HdO (-1) s q p := fun z q hq hh => by
    obtain ⟨q1, q2, q3, q4, _⟩ := outQ_pair (.inr rfl) hl q hq
    have k := (hd_left.mp hh).1
    have k2 := lmul q3 (Int.le_of_lt hp)
    have k3 := lmuls z (show 0 < q.1.2 by omega)
    unfold ow at k2
    have e1 : (-1 : Int) * (q.1.1 - s.1 * q.1.2) * p.2 = s.1 * p.2 * q.1.2 - q.1.1 * p.2 := by grind
    omega
  have nor : p.1 < s.1 * p.2 → ∀ q ∈ outQ s rs, ¬ HdO 1 s q p := fun z q hq hh => by
    obtain ⟨q1, q2, q3, q4, _⟩ := outQ_pair (.inl rfl) hr q hq
    have k := (hd_right.mp hh).1
    have k2 := lmul q3 (Int.le_of_lt hp)
    have k3 := lmuls z (show 0 < q.1.2 by omega)
    unfold ow at k2
    have e1 : (1 : Int) * (q.1.1 - s.1 * q.1.2) * p.2 = q.1.1 * p.2 - s.1 * p.2 * q.1.2 := by grind
    omega
  have onl : p.1 ≤ s.1 * p.2 → (∃ q ∈ outQ s ls, HdO (-1) s q p) → OnG cs p := fun z ⟨q, hq, hh⟩ => by
    obtain ⟨q1, q2, q3, q4, ⟨f, hf, ef⟩, _⟩ := outQ_pair (.inr rfl) hl q hq
    have k := (hd_left.mp hh).2
    rw [ef] at k
    have k : f.1 * p.2 ≤ p.1 * 1 := k
    have := lmul (on_mem gr hf).1 (Int.le_of_lt hp)
    exact ⟨by omega, by omega⟩
  have onr : s.1 * p.2 ≤ p.1 → (∃ q ∈ outQ s rs, HdO 1 s q p) → OnG cs p := fun z ⟨q, hq, hh⟩ => by
    obtain ⟨q1, q2, q3, q4, ⟨f, hf, ef⟩, _⟩ := outQ_pair (.inl rfl) hr q hq
    have k := (hd_right.mp hh).2
    rw [ef] at k
    have k : p.1 * 1 ≤ f.1 * p.2 := k
    have := lmul (on_mem gr hf).2 (Int.le_of_lt hp)
    exact ⟨by omega, by omega⟩
  have c1 : (∃ q ∈ outQ s ls, eU q.2 ≤ h ∧ h ≤ eU q.1) ↔ ∃ q ∈ outQ s ls, HdO (-1) s q p := ⟨fun ⟨q, hq, z⟩ => ⟨q, hq, (cl q hq).mp z⟩, fun ⟨q, hq, z⟩ => ⟨q, hq, (cl q hq).mpr z⟩⟩
  have c2 : (∃ q ∈ outQ s rs, eU q.1 ≤ h ∧ h ≤ eU q.2) ↔ ∃ q ∈ outQ s rs, HdO 1 s q p := ⟨fun ⟨q, hq, z⟩ => ⟨q, hq, (cr q hq).mp z⟩, fun ⟨q, hq, z⟩ => ⟨q, hq, (cr q hq).mpr z⟩⟩
  rw [c1, c2]
  clear c1 c2 cl cr
  rcases Int.lt_trichotomy p.1 (s.1 * p.2) with z | z | z
  · have hw : 0 < ow (-1) s p := by unfold ow; omega
    constructor
    · rintro (k | k | ⟨q, hq, k⟩)
      · exfalso; omega
      · exact ⟨onl (by omega) k, (outQ_iff gr (.inr rfl) hp (onl (by omega) k) hw hl).mp k⟩
      · exact absurd k (nor z q hq)
    · rintro ⟨on, v⟩
      exact .inr (.inl ((outQ_iff gr (.inr rfl) hp on hw hl).mpr v))
  · constructor
    · intro _
      refine ⟨⟨by omega, by omega⟩, vis_no fun c hc => ?_⟩
      rw [Bool.eq_false_iff]
      intro hb
      unfold btw at hb
      simp only [Bool.or_eq_true, Bool.and_eq_true, decide_eq_true_eq] at hb
      rcases hb with ⟨b1, b2⟩ | ⟨b1, b2⟩
      · have := lmuls (show s.1 < c.1 by omega) hp; omega
      · have := lmuls (show c.1 < s.1 by omega) hp; omega
    · intro _
      exact .inl (by omega)
  · have hw : 0 < ow 1 s p := by unfold ow; omega
    constructor
    · rintro (k | ⟨q, hq, k⟩ | k)
      · exfalso; omega
      · exact absurd k (nol z q hq)
      · exact ⟨onr (by omega) k, (outQ_iff gr (.inl rfl) hp (onr (by omega) k) hw hr).mp k⟩
    · rintro ⟨on, v⟩
      exact .inr (.inr ((outQ_iff gr (.inl rfl) hp on hw hr).mpr v))
theorem out_right {cs : List (Int × Int)} (gr : Grd cs) (s : Int × Int) : Out 1 cs s (cs.filter fun c => decide (s.1 < c.1)) := by
  refine ⟨?_, fun c => ?_⟩
  · exact (gr.asc.filter _).imp fun {a b} h => by unfold ou; omega
  · rw [List.mem_filter, decide_eq_true_eq]
    unfold ou
    exact ⟨fun ⟨a, b⟩ => ⟨a, by omega⟩, fun ⟨a, b⟩ => ⟨a, by omega⟩⟩
theorem out_left {cs : List (Int × Int)} (gr : Grd cs) (s : Int × Int) : Out (-1) cs s (cs.filter fun c => decide (c.1 < s.1)).reverse := by
  refine ⟨?_, fun c => ?_⟩
  · rw [List.pairwise_reverse]
    exact (gr.asc.filter _).imp fun {a b} h => by unfold ou; omega
  · rw [List.mem_reverse, List.mem_filter, decide_eq_true_eq]
    unfold ou
    exact ⟨fun ⟨a, b⟩ => ⟨a, by omega⟩, fun ⟨a, b⟩ => ⟨a, by omega⟩⟩
theorem lc_by {own : Nat} {fv : List Nat} {xs : List D} {ok : Sto → Prop} {g : DG} {tc : DT} {te : DE} {ρ : Rho} {S : Sto} {Q : DK} (W : Nat → List D → Sto → Prop) (h0 : W 0 [] S) (hok : ∀ i ys S, W i ys S → ok S) (hbig : xs.length ≤ big)
    (step : ∀ i d ys S, xs[i]? = some d → W i ys S → g d (cstD own fv ρ) S fun ρ2 S2 => tc ρ2 S2 fun b S3 => if b = true then te ρ2 S3 fun y S4 => W (i + 1) (ys ++ [y]) S4 else W (i + 1) ys S3)
    (fin : ∀ ys S, W xs.length ys S → New Q S ys) : LcGo own fv g tc te ρ Q ⟨xs, ok⟩ S := ⟨hbig, W, h0, hok, step, fin⟩
theorem KS.mono {K K' : Int × Int → Prop} {R : Int × Int → Int} {s : St2} (h : KS K R s) (hk : ∀ a, K a → K' a) : KS K' R s := ⟨hk _ h.a, hk _ h.b, h.e, h.f⟩
structure WQ (cs ss : List (Int × Int)) (n : Nat) (ys : List St2) : Prop where
  ks : ∀ y ∈ ys, KS FU eU y
  ok : SpOk (ys.map (rk eU))
  iff : ∀ (h : Int) (p : Int × Int), 0 < p.2 → p.1 * (2 * MM) = h * p.2 → ((ys.map (rk eU)).any (inS h) = true ↔ OnG cs p ∧ ∃ s ∈ ss, Vis cs s p = true)
  len : ys.length ≤ n
end Dp
namespace Dp
open PySem Rm My
theorem sd_pos {s c d : Int × Int} (h : (0 < d.1 - s.1 ∧ 0 < c.1 - d.1) ∨ (d.1 - s.1 < 0 ∧ c.1 - d.1 < 0)) : 0 < sdI s c d ↔ (c.2 - s.2) * ((d.1 - s.1).natAbs : Int) < (d.2 - s.2) * ((c.1 - s.1).natAbs : Int) := by
  have e : (if c.1 - s.1 < 0 then -sdO s c d else sdO s c d) = (d.2 - s.2) * ((c.1 - s.1).natAbs : Int) - (c.2 - s.2) * ((d.1 - s.1).natAbs : Int) := by
    rcases h with h | h
    · rw [if_neg (by omega), show ((c.1 - s.1).natAbs : Int) = c.1 - s.1 by omega, show ((d.1 - s.1).natAbs : Int) = d.1 - s.1 by omega]
      unfold sdO; grind
    · rw [if_pos (by omega), show ((c.1 - s.1).natAbs : Int) = -(c.1 - s.1) by omega, show ((d.1 - s.1).natAbs : Int) = -(d.1 - s.1) by omega]
      unfold sdO; grind
  unfold sdI
  rw [e]
  generalize (d.2 - s.2) * ((c.1 - s.1).natAbs : Int) = x
  generalize (c.2 - s.2) * ((d.1 - s.1).natAbs : Int) = y
  split
  · exact ⟨fun _ => by omega, fun _ => by decide⟩
  · split
    · exact ⟨fun h => by omega, fun h => by omega⟩
    · exact ⟨fun h => by omega, fun h => by omega⟩
theorem sd_swap {a b d : Int × Int} (h : a.1 ≠ b.1) : sdI a b d = sdI b a d := by
  have e : (if b.1 - a.1 < 0 then -sdO a b d else sdO a b d) = (if a.1 - b.1 < 0 then -sdO b a d else sdO b a d) := by
    by_cases z : b.1 - a.1 < 0
    · rw [if_pos z, if_neg (by omega)]
      unfold sdO; grind
    · rw [if_neg z, if_pos (by omega)]
      unfold sdO; grind
  unfold sdI
  rw [e]
end Dp
namespace Dp
open PySem Rm My
def StdG (cs : List (Int × Int)) (s : Int × Int) : Prop := OnG cs (s.1, 1) ∧ ∀ a b, segG cs (s.1, 1) = some (a, b) → hvT a b (s.1, 1) ≤ s.2 * hvB a b (s.1, 1)
def footT (t b : Int) : Int := -(-t / b)
theorem foot_up {t b : Int} (hb : 0 < b) : t ≤ footT t b * b ∧ (footT t b - 1) * b < t := by
  unfold footT
  have h1 := Int.ediv_mul_le (-t) (b := b) (by omega)
  have h2 := Int.lt_ediv_add_one_mul_self (-t) hb
  rw [Int.neg_mul, Int.sub_mul, Int.neg_mul, Int.one_mul]
  rw [Int.add_mul, Int.one_mul] at h2
  omega
theorem foot_le {t b z : Int} (hb : 0 < b) : footT t b ≤ z ↔ t ≤ z * b := by
  obtain ⟨h1, h2⟩ := foot_up (t := t) hb
  constructor
  · intro h
    exact Int.le_trans h1 (Int.mul_le_mul_of_nonneg_right h (Int.le_of_lt hb))
  · intro h
    rcases Int.lt_or_le z (footT t b) with g | g
    · have := Int.mul_le_mul_of_nonneg_right (show z ≤ footT t b - 1 by omega) (Int.le_of_lt hb)
      omega
    · exact g
theorem foot_bd {cs : List (Int × Int)} (gr : Grd cs) {p r : Int × Int} {xx : Int} (bk : Brk cs (xx, 1) p r) : 0 < hvB p r (xx, 1) ∧ Bd 171 (hvB p r (xx, 1)) ∧ Bd 400 (hvT p r (xx, 1)) ∧ Bd 192 (footT (hvT p r (xx, 1)) (hvB p r (xx, 1))) := by
  have hpr := bk.lt
  have hB : 0 < hvB p r (xx, 1) := hvB_pos (by omega) (show (0 : Int) < 1 by decide)
  obtain ⟨bp1, bp2⟩ := gr.bd p bk.ma
  obtain ⟨br1, br2⟩ := gr.bd r bk.mb
  have h1' : p.1 ≤ xx := by have : p.1 * 1 ≤ xx := bk.lo; omega
  have h2' : xx ≤ r.1 := by have : xx ≤ r.1 * 1 := bk.hi; omega
  have bx : Bd 171 xx := (Bd.btw (n := 170) bp1 br1 h1' h2').mono (by decide)
  have bT : Bd 400 (hvT p r (xx, 1)) := by
    have r1 : Bd 171 (r.1 - p.1) := Bd.sub br1 bp1
    have r2 : Bd 191 (r.2 - p.2) := Bd.sub br2 bp2
    have m1 : Bd 361 (p.2 * (r.1 - p.1)) := Bd.mul bp2 r1
    have m2 : Bd 172 (xx - p.1) := Bd.sub bx (bp1.mono (by decide))
    have m3 : Bd 363 ((r.2 - p.2) * (xx - p.1)) := Bd.mul r2 m2
    unfold hvT
    rw [if_pos (by omega)]
    dsimp only
    rw [Int.mul_one, Int.mul_one]
    exact (Bd.add (n := 363) (m1.mono (by decide)) m3).mono (by decide)
  have bB : Bd 171 (hvB p r (xx, 1)) := by
    unfold hvB
    rw [if_pos (by omega)]
    dsimp only
    rw [Int.mul_one]
    exact Bd.sub br1 bp1
  refine ⟨hB, bB, bT, ?_⟩
  have eT : hvT p r (xx, 1) = p.2 * (r.1 - xx) + r.2 * (xx - p.1) := by
    unfold hvT
    rw [if_pos (by omega)]
    dsimp only
    grind
  have eB : hvB p r (xx, 1) = (r.1 - xx) + (xx - p.1) := by
    unfold hvB
    rw [if_pos (by omega)]
    dsimp only
    omega
  have lo : -(2 ^ 190) * hvB p r (xx, 1) ≤ hvT p r (xx, 1) := by
    rw [eT, eB]
    have k1 := Int.mul_le_mul_of_nonneg_right (show -(2 ^ 190 : Int) ≤ p.2 by unfold Bd at bp2; omega) (show 0 ≤ r.1 - xx by omega)
    have k2 := Int.mul_le_mul_of_nonneg_right (show -(2 ^ 190 : Int) ≤ r.2 by unfold Bd at br2; omega) (show 0 ≤ xx - p.1 by omega)
    rw [Int.mul_add]
    omega
  have hi : hvT p r (xx, 1) ≤ 2 ^ 190 * hvB p r (xx, 1) := by
    rw [eT, eB]
    have k1 := Int.mul_le_mul_of_nonneg_right (show p.2 ≤ (2 ^ 190 : Int) by unfold Bd at bp2; omega) (show 0 ≤ r.1 - xx by omega)
    have k2 := Int.mul_le_mul_of_nonneg_right (show r.2 ≤ (2 ^ 190 : Int) by unfold Bd at br2; omega) (show 0 ≤ xx - p.1 by omega)
    rw [Int.mul_add]
    omega
  have d1 : -(2 ^ 190) ≤ -hvT p r (xx, 1) / hvB p r (xx, 1) := (Int.le_ediv_iff_mul_le hB).mpr (by rw [Int.neg_mul]; omega)
  have d2 : -hvT p r (xx, 1) / hvB p r (xx, 1) ≤ 2 ^ 190 := Int.ediv_le_of_le_mul hB (by
    have := lo
    rw [Int.neg_mul] at this
    omega)
  unfold footT
  show _ < 2 ^ 192
  omega
def footG (cs : List (Int × Int)) (x : Int) : Int := match segG cs (x, 1) with
  | some (a, b) => footT (hvT a b (x, 1)) (hvB a b (x, 1))
  | none => 0
theorem foot_std {cs : List (Int × Int)} (gr : Grd cs) {s : Int × Int} (on : OnG cs (s.1, 1)) : StdG cs s ↔ footG cs s.1 ≤ s.2 := by
  obtain ⟨a, b, seg, bk⟩ := seg_brk gr on
  have hB := (foot_bd gr bk).1
  unfold footG
  rw [seg]
  dsimp only
  rw [foot_le hB]
  constructor
  · intro h; exact h.2 a b seg
  · intro h
    refine ⟨on, fun a' b' seg' => ?_⟩
    rw [seg] at seg'; cases seg'; exact h
theorem footG_bd {cs : List (Int × Int)} (gr : Grd cs) {x : Int} (on : OnG cs (x, 1)) : Bd 192 (footG cs x) := by
  obtain ⟨a, b, seg, bk⟩ := seg_brk gr on
  unfold footG
  rw [seg]
  exact (foot_bd gr bk).2.2.2
theorem Std.of {cs : List (Int × Int)} {s : Int × Int} (b1 : Bd 180 s.1) (b2 : Bd 200 s.2) (h : StdG cs s) : Std cs s := ⟨b1, b2, h.1, h.2⟩
def nbP (cs : List (Int × Int)) (x y : Int) (k : Nat) : Bool := decide (min x y < (cs.getD k (0, 0)).1) && decide ((cs.getD k (0, 0)).1 < max x y)
def nbK (cs : List (Int × Int)) (x y : Int) (n : Nat) : List Int := ((List.range n).filter (nbP cs x y)).map fun k : Nat => (k : Int)
theorem nbK_y {cs : List (Int × Int)} {x y : Int} {i : Nat} (h : nbP cs x y i = true) : (nbK cs x y (i + 1)).map D.int = (nbK cs x y i).map D.int ++ [.int (i : Int)] := by
  unfold nbK
  rw [List.range_succ, List.filter_append, List.filter_cons_of_pos h]
  simp
theorem nbK_n {cs : List (Int × Int)} {x y : Int} {i : Nat} (h : nbP cs x y i = false) : nbK cs x y (i + 1) = nbK cs x y i := by
  unfold nbK
  rw [List.range_succ, List.filter_append, List.filter_cons_of_neg (by rw [h]; exact Bool.false_ne_true)]
  simp
def hinP (cs : List (Int × Int)) (a b : Int × Int) (k : Int) : Bool := decide (0 < sdI a b (cs.getD k.toNat (0, 0)))
def hinK (cs : List (Int × Int)) (a b : Int × Int) : Option Int := (nbK cs a.1 b.1 cs.length).find? (hinP cs a b)
theorem find_at {p : Int → Bool} : ∀ {ks : List Int} {i : Nat} {k : Int}, ks[i]? = some k → (∀ x ∈ ks.take i, p x = false) → p k = true → ks.find? p = some k
  | [], i, k, h, _, _ => by simp at h
  | x :: ks, 0, k, h, _, hp => by
    have e : x = k := by simpa using h
    rw [List.find?_cons, e, hp]
  | x :: ks, i + 1, k, h, hn, hp => by
    rw [List.find?_cons, hn x (by simp)]
    exact find_at (by simpa using h) (fun y hy => hn y (by rw [List.take_succ_cons]; exact List.mem_cons_of_mem _ hy)) hp
theorem find_no {p : Int → Bool} {ks : List Int} (hn : ∀ x ∈ ks, p x = false) : ks.find? p = none := List.find?_eq_none.mpr fun x hx => by rw [hn x hx]; exact Bool.false_ne_true
theorem nbK_lt {cs : List (Int × Int)} {x y k : Int} {n : Nat} (h : k ∈ nbK cs x y n) : 0 ≤ k ∧ k < n := by
  unfold nbK at h
  obtain ⟨j, hj, rfl⟩ := List.mem_map.mp h
  have := List.mem_range.mp (List.mem_filter.mp hj).1
  omega
theorem nbK_len (cs : List (Int × Int)) (x y : Int) (n : Nat) : (nbK cs x y n).length ≤ n := by
  unfold nbK
  rw [List.length_map]
  exact Nat.le_trans (List.length_filter_le _ _) (by simp)
theorem hin_none {cs : List (Int × Int)} {a b : Int × Int} : (hinK cs a b).isNone = true ↔ ∀ d ∈ cs, min a.1 b.1 < d.1 → d.1 < max a.1 b.1 → ¬ 0 < sdI a b d := by
  unfold hinK
  rw [Option.isNone_iff_eq_none, List.find?_eq_none]
  constructor
  · intro h d hd d1 d2 hp
    obtain ⟨j, hj⟩ := List.mem_iff_getElem?.mp hd
    have hl := lt_getD hj
    have eg : cs.getD j (0, 0) = d := by rw [List.getD_eq_getElem?_getD, hj]; rfl
    refine h (j : Int) ?_ ?_
    · unfold nbK
      refine List.mem_map.mpr ⟨j, List.mem_filter.mpr ⟨List.mem_range.mpr hl, ?_⟩, rfl⟩
      unfold nbP
      rw [eg, decide_eq_true d1, decide_eq_true d2]; rfl
    · unfold hinP
      rw [Int.toNat_natCast, eg]; exact decide_eq_true hp
  · intro h k hk
    unfold nbK at hk
    obtain ⟨j, hj, rfl⟩ := List.mem_map.mp hk
    obtain ⟨h1, h2⟩ := List.mem_filter.mp hj
    have hl := List.mem_range.mp h1
    unfold nbP at h2
    rw [Bool.and_eq_true, decide_eq_true_eq, decide_eq_true_eq] at h2
    have eg : cs.getD j (0, 0) = cs[j] := by rw [List.getD_eq_getElem?_getD, List.getElem?_eq_getElem hl]; rfl
    rw [eg] at h2
    unfold hinP
    rw [Int.toNat_natCast, eg, decide_eq_true_eq]
    exact h cs[j] (List.getElem_mem hl) h2.1 h2.2
theorem hin_swap {cs : List (Int × Int)} {a b : Int × Int} : hinK cs a b = hinK cs b a := by
  by_cases h : a.1 = b.1
  · have e : ∀ x : Int × Int, x.1 = x.1 → nbK cs a.1 b.1 cs.length = [] := fun _ _ => by
      unfold nbK
      rw [List.filter_eq_nil_iff.mpr fun k _ => ?_]
      · rfl
      · unfold nbP
        rw [h]
        simp only [Bool.and_eq_true, decide_eq_true_eq]
        omega
    have e1 := e a rfl
    have e2 : nbK cs b.1 a.1 cs.length = [] := by rw [h] at e1 ⊢; exact e1
    unfold hinK
    rw [e1, e2]; rfl
  · have en : nbK cs a.1 b.1 cs.length = nbK cs b.1 a.1 cs.length := by
      unfold nbK nbP
      rw [Int.min_comm, Int.max_comm]
    unfold hinK
    rw [en]
    congr 1
    funext k
    unfold hinP
    rw [sd_swap h]
end Dp
namespace Dp
open PySem Rm My
theorem nbK_in {cs : List (Int × Int)} {x y k : Int} (h : k ∈ nbK cs x y cs.length) : ∃ c, cs[k.toNat]? = some c ∧ cs.getD k.toNat (0, 0) = c ∧ 0 ≤ k ∧ k < cs.length ∧ min x y < c.1 ∧ c.1 < max x y := by
  unfold nbK at h
  obtain ⟨j, hj, rfl⟩ := List.mem_map.mp h
  obtain ⟨h1, h2⟩ := List.mem_filter.mp hj
  have hl := List.mem_range.mp h1
  unfold nbP at h2
  rw [Bool.and_eq_true, decide_eq_true_eq, decide_eq_true_eq] at h2
  refine ⟨cs[j], by rw [Int.toNat_natCast]; exact List.getElem?_eq_getElem hl, ?_, by omega, by omega, ?_⟩
  · rw [Int.toNat_natCast, List.getD_eq_getElem?_getD, List.getElem?_eq_getElem hl]; rfl
  · have eg : cs.getD j (0, 0) = cs[j] := by rw [List.getD_eq_getElem?_getD, List.getElem?_eq_getElem hl]; rfl
    rw [eg] at h2; exact h2
theorem nbK_of {cs : List (Int × Int)} {x y : Int} {j : Nat} {c : Int × Int} (hj : cs[j]? = some c) (h : min x y < c.1 ∧ c.1 < max x y) : (j : Int) ∈ nbK cs x y cs.length := by
  have hl := lt_getD hj
  have eg : cs.getD j (0, 0) = c := by rw [List.getD_eq_getElem?_getD, hj]; rfl
  unfold nbK
  refine List.mem_map.mpr ⟨j, List.mem_filter.mpr ⟨List.mem_range.mpr hl, ?_⟩, rfl⟩
  unfold nbP
  rw [eg, decide_eq_true h.1, decide_eq_true h.2]; rfl
end Dp
namespace Dp
open PySem Rm My
def gx (g : Int) (p : Int × Int) : Int := g * p.1
def D3 (g : Int) (p q d : Int × Int) : Int := (d.2 - p.2) * (gx g q - gx g p) - (q.2 - p.2) * (gx g d - gx g p)
theorem D3_swap (g : Int) (p q d : Int × Int) : D3 g p q d = -D3 g p d q := by unfold D3; grind
theorem D3_same (g : Int) (p q : Int × Int) : D3 g p q q = 0 := by unfold D3; grind
theorem D3_same0 (g : Int) (p q : Int × Int) : D3 g p q p = 0 := by unfold D3; grind
theorem sg_le {a b c x y z : Int} (e : a * x = b * y + c * z) (ha : 0 < a) (hb : 0 ≤ b) (hc : 0 ≤ c) (hy : y ≤ 0) (hz : z ≤ 0) : x ≤ 0 := by
  have h1 := Int.mul_nonneg hb (show 0 ≤ -y by omega)
  have h2 := Int.mul_nonneg hc (show 0 ≤ -z by omega)
  rw [Int.mul_neg] at h1 h2
  rcases Int.lt_or_le 0 x with h | h
  · have := Int.mul_pos ha h; omega
  · exact h
theorem sg_lt {a b c x y z : Int} (e : a * x = b * y + c * z) (ha : 0 < a) (hb : 0 < b) (hc : 0 ≤ c) (hy : y < 0) (hz : z ≤ 0) : x < 0 := by
  have h1 := Int.mul_pos hb (show 0 < -y by omega)
  have h2 := Int.mul_nonneg hc (show 0 ≤ -z by omega)
  rw [Int.mul_neg] at h1 h2
  rcases Int.lt_or_le x 0 with h | h
  · exact h
  · have := Int.mul_nonneg (Int.le_of_lt ha) h; omega
section
variable {g : Int} {p q r s d t u v : Int × Int}
theorem pop_r (h1 : gx g p < gx g q) (h2 : gx g q < gx g s) (h3 : gx g r ≤ gx g s) (a : D3 g q s r ≤ 0) (b : D3 g p s q ≤ 0) : D3 g p s r ≤ 0 :=
  sg_le (a := gx g s - gx g q) (b := gx g s - gx g p) (c := gx g s - gx g r) (by unfold D3; grind) (by omega) (by omega) (by omega) a b
theorem pop_l (h1 : gx g p ≤ gx g d) (h2 : gx g p < gx g t) (h3 : gx g p < gx g s) (a : D3 g p t d ≤ 0) (b : D3 g p s t ≤ 0) : D3 g p s d ≤ 0 :=
  sg_le (a := gx g t - gx g p) (b := gx g s - gx g p) (c := gx g d - gx g p) (by unfold D3; grind) (by omega) (by omega) (by omega) a b
theorem stop_l (h1 : gx g d ≤ gx g t) (h2 : gx g u < gx g t) (h3 : gx g t < gx g s) (a : D3 g u t d ≤ 0) (b : 0 < D3 g u s t) : D3 g t s d ≤ 0 := by
  have b' : D3 g u t s ≤ 0 := by rw [D3_swap]; omega
  exact sg_le (a := gx g t - gx g u) (b := gx g s - gx g t) (c := gx g t - gx g d) (by unfold D3; grind) (by omega) (by omega) (by omega) a b'
theorem edge_on (h1 : gx g p < gx g q) (h2 : gx g q < gx g r) (h3 : gx g q < gx g s) (a : D3 g p q r < 0) (b : D3 g q r s ≤ 0) : D3 g p q s < 0 :=
  sg_lt (a := gx g r - gx g q) (b := gx g s - gx g q) (c := gx g q - gx g p) (by unfold D3; grind) (by omega) (by omega) (by omega) a b
theorem vert_of (h0 : gx g u < gx g v) (h1 : gx g p < gx g v) (h2 : gx g v < gx g q) (a : D3 g u v p ≤ 0) (b : D3 g u v q < 0) : 0 < D3 g p q v := by
  have : -D3 g p q v < 0 := sg_lt (a := gx g v - gx g u) (b := gx g v - gx g p) (c := gx g q - gx g v) (by unfold D3; grind) (by omega) (by omega) (by omega) b a
  omega
end
def Hul (g : Int) (M : List (Int × Int)) : List (Int × Int) → Prop
  | t :: u :: r => gx g u < gx g t ∧ (∀ d ∈ M, D3 g u t d ≤ 0) ∧ (∀ v, r.head? = some v → D3 g v u t < 0) ∧ Hul g M (u :: r)
  | _ => True
theorem hul_add {g : Int} {M : List (Int × Int)} {s : Int × Int} : ∀ {t u : Int × Int} {r : List (Int × Int)}, Hul g M (t :: u :: r) → D3 g u t s ≤ 0 → gx g t < gx g s → Hul g (M ++ [s]) (t :: u :: r)
  | t, u, [], ⟨h1, h2, h3, h4⟩, hs, hx => ⟨h1, fun d hd => by
      rcases List.mem_append.mp hd with hd | hd
      · exact h2 d hd
      · have : d = s := by simpa using hd
        subst this; exact hs, h3, True.intro⟩
  | t, u, v :: r, ⟨h1, h2, h3, h4⟩, hs, hx => ⟨h1, fun d hd => by
      rcases List.mem_append.mp hd with hd | hd
      · exact h2 d hd
      · have : d = s := by simpa using hd
        subst this; exact hs, h3, hul_add h4 (Int.le_of_lt (edge_on h4.1 h1 (by omega) (h3 v rfl) hs)) (by omega)⟩
structure Stk (g : Int) (M : List (Int × Int)) (s t : Int × Int) (r : List (Int × Int)) : Prop where
  hul : Hul g M (t :: r)
  sub : (t :: r).reverse.Sublist M
  new : ∀ d ∈ M, gx g d < gx g s
  top : ∀ d ∈ M, gx g t ≤ gx g d → D3 g t s d ≤ 0
  low : ∀ d ∈ M, ∀ a, (t :: r).getLast? = some a → gx g a ≤ gx g d
theorem Stk.mem {g : Int} {M : List (Int × Int)} {s t : Int × Int} {r : List (Int × Int)} (h : Stk g M s t r) {d : Int × Int} (hd : d ∈ t :: r) : d ∈ M := h.sub.subset (List.mem_reverse.mpr hd)
theorem Stk.pop {g : Int} {M : List (Int × Int)} {s t u : Int × Int} {r : List (Int × Int)} (h : Stk g M s t (u :: r)) (hp : D3 g u s t ≤ 0) : Stk g M s u r := by
  obtain ⟨h1, h2, h3, h4⟩ := h.hul
  refine ⟨h4, ?_, h.new, fun d hd hu => ?_, fun d hd a ha => h.low d hd a (by rw [List.getLast?_cons_cons]; exact ha)⟩
  · refine List.Sublist.trans ?_ h.sub
    rw [List.reverse_cons (as := u :: r)]
    exact List.sublist_append_left _ _
  · have tm := h.new t (h.mem (by simp))
    rcases Int.lt_or_le (gx g d) (gx g t) with g1 | g1
    · exact pop_l hu h1 (by omega) (h2 d hd) hp
    · exact pop_r h1 tm (by have := h.new d hd; omega) (h.top d hd g1) hp
theorem Stk.push {g : Int} {M : List (Int × Int)} {s t : Int × Int} {r : List (Int × Int)} (h : Stk g M s t r) (hp : ∀ u, r.head? = some u → 0 < D3 g u s t) : Hul g (M ++ [s]) (s :: t :: r) ∧ (s :: t :: r).reverse.Sublist (M ++ [s]) := by
  have tm := h.new t (h.mem (by simp))
  have sb : (s :: t :: r).reverse.Sublist (M ++ [s]) := by
    rw [List.reverse_cons]
    exact List.Sublist.append h.sub (List.Sublist.refl _)
  refine ⟨?_, sb⟩
  cases r with
  | nil =>
    refine ⟨tm, fun d hd => ?_, fun v hv => by simp at hv, True.intro⟩
    rcases List.mem_append.mp hd with hd | hd
    · exact h.top d hd (h.low d hd t rfl)
    · have : d = s := by simpa using hd
      subst this; exact Int.le_of_eq (D3_same _ _ _)
  | cons u r =>
    have hu := hp u rfl
    obtain ⟨h1, h2, h3, h4⟩ := h.hul
    have hs : D3 g u t s < 0 := by rw [D3_swap]; omega
    refine ⟨tm, fun d hd => ?_, fun v hv => ?_, hul_add h.hul (Int.le_of_lt hs) tm⟩
    · rcases List.mem_append.mp hd with hd | hd
      · rcases Int.lt_or_le (gx g d) (gx g t) with g1 | g1
        · exact stop_l (Int.le_of_lt g1) h1 tm (h2 d hd) hu
        · exact h.top d hd g1
      · have : d = s := by simpa using hd
        subst this; exact Int.le_of_eq (D3_same _ _ _)
    · have : u = v := by simpa using hv
      subst this; exact hs
theorem hul_edge {g : Int} {M : List (Int × Int)} : ∀ {H : List (Int × Int)} {k : Nat} {p q : Int × Int}, Hul g M H → H[k]? = some q → H[k + 1]? = some p → gx g p < gx g q ∧ ∀ d ∈ M, D3 g p q d ≤ 0
  | [], k, p, q, _, h, _ => by simp at h
  | [t], k, p, q, _, _, h => by simp at h
  | t :: u :: r, 0, p, q, ⟨h1, h2, _, _⟩, e1, e2 => by
    have a1 : t = q := by simpa using e1
    have a2 : u = p := by simpa using e2
    subst a1 a2; exact ⟨h1, h2⟩
  | t :: u :: r, k + 1, p, q, ⟨_, _, _, h4⟩, e1, e2 => hul_edge h4 (by simpa using e1) (by simpa using e2)
theorem hul_conv {g : Int} {M : List (Int × Int)} : ∀ {H : List (Int × Int)} {k : Nat} {p q r : Int × Int}, Hul g M H → H[k]? = some r → H[k + 1]? = some q → H[k + 2]? = some p → D3 g p q r < 0
  | [], k, p, q, _, _, h, _, _ => by simp at h
  | [t], k, p, q, _, _, _, h, _ => by simp at h
  | [t, u], 0, p, q, _, _, _, _, h => by simp at h
  | [t, u], k + 1, p, q, _, _, _, h, _ => by simp at h
  | t :: u :: v :: r, 0, p, q, w, ⟨_, _, h3, _⟩, e1, e2, e3 => by
    have a1 : t = w := by simpa using e1
    have a2 : u = q := by simpa using e2
    have a3 : v = p := by simpa using e3
    subst a1 a2 a3; exact h3 _ rfl
  | t :: u :: v :: r, k + 1, p, q, _, ⟨_, _, _, h4⟩, e1, e2, e3 => hul_conv h4 (by simpa using e1) (by simpa using e2) (by simpa using e3)
structure Rop (g : Int) (L rp : List (Int × Int)) : Prop where
  sub : rp.Sublist L
  first : rp.head? = L.head?
  last : rp.getLast? = L.getLast?
  edge : ∀ (k : Nat) p q, rp[k]? = some p → rp[k + 1]? = some q → gx g p < gx g q ∧ ∀ d ∈ L, D3 g p q d ≤ 0
  conv : ∀ (k : Nat) p q r, rp[k]? = some p → rp[k + 1]? = some q → rp[k + 2]? = some r → D3 g p q r < 0
theorem hul_rop {g : Int} {L H : List (Int × Int)} (h : Hul g L H) (hs : H.reverse.Sublist L) (h1 : H.reverse.head? = L.head?) (h2 : H.reverse.getLast? = L.getLast?) : Rop g L H.reverse := by
  refine ⟨hs, h1, h2, fun k p q hp hq => ?_, fun k p q r hp hq hr => ?_⟩
  · have l1 := lt_getD hq
    rw [List.length_reverse] at l1
    rw [List.getElem?_reverse (by omega)] at hp hq
    exact hul_edge (k := H.length - 1 - (k + 1)) h hq (by rw [show H.length - 1 - (k + 1) + 1 = H.length - 1 - k by omega]; exact hp)
  · have l1 := lt_getD hr
    rw [List.length_reverse] at l1
    rw [List.getElem?_reverse (by omega)] at hp hq hr
    exact hul_conv (k := H.length - 1 - (k + 2)) h hr (by rw [show H.length - 1 - (k + 2) + 1 = H.length - 1 - (k + 1) by omega]; exact hq) (by rw [show H.length - 1 - (k + 2) + 2 = H.length - 1 - k by omega]; exact hp)
def Asc (g : Int) (L : List (Int × Int)) : Prop := L.Pairwise fun a b => gx g a < gx g b
theorem Asc.lt {g : Int} {L : List (Int × Int)} (h : Asc g L) {i j : Nat} {a b : Int × Int} (hij : i < j) (ha : L[i]? = some a) (hb : L[j]? = some b) : gx g a < gx g b := by
  have l1 := lt_getD ha
  have l2 := lt_getD hb
  rw [List.getElem?_eq_getElem l1] at ha
  rw [List.getElem?_eq_getElem l2] at hb
  cases ha; cases hb
  exact List.pairwise_iff_getElem.mp h i j l1 l2 hij
theorem Asc.eq {g : Int} {L : List (Int × Int)} (h : Asc g L) {a b : Int × Int} (ha : a ∈ L) (hb : b ∈ L) (e : gx g a = gx g b) : a = b := by
  obtain ⟨i, hi⟩ := List.mem_iff_getElem?.mp ha
  obtain ⟨j, hj⟩ := List.mem_iff_getElem?.mp hb
  rcases Nat.lt_trichotomy i j with k | k | k
  · have := h.lt k hi hj; omega
  · subst k; rw [hi] at hj; cases hj; rfl
  · have := h.lt k hj hi; omega
theorem Asc.head {g : Int} {L : List (Int × Int)} (h : Asc g L) {a d : Int × Int} (ha : L.head? = some a) (hd : d ∈ L) : gx g a ≤ gx g d := by
  cases L with
  | nil => simp at ha
  | cons x L =>
    have : x = a := by simpa using ha
    subst this
    rcases List.mem_cons.mp hd with rfl | hd
    · exact Int.le_refl _
    · exact Int.le_of_lt ((List.pairwise_cons.mp h).1 d hd)
theorem Asc.last {g : Int} {L : List (Int × Int)} (h : Asc g L) {a d : Int × Int} (ha : L.getLast? = some a) (hd : d ∈ L) : gx g d ≤ gx g a := by
  obtain ⟨j, hj⟩ := List.mem_iff_getElem?.mp hd
  rw [List.getLast?_eq_getElem?] at ha
  have l1 := lt_getD hj
  rcases Nat.lt_or_ge j (L.length - 1) with k | k
  · exact Int.le_of_lt (h.lt k hj ha)
  · have : j = L.length - 1 := by omega
    subst this; rw [hj] at ha; cases ha; exact Int.le_refl _
theorem rop_btw {g : Int} {x : Int} : ∀ {rp : List (Int × Int)} {a b : Int × Int}, rp.head? = some a → rp.getLast? = some b → gx g a ≤ x → x ≤ gx g b → a ≠ b → ∃ k p q, rp[k]? = some p ∧ rp[k + 1]? = some q ∧ gx g p ≤ x ∧ x ≤ gx g q
  | [], a, b, h, _, _, _, _ => by simp at h
  | [t], a, b, h1, h2, _, _, hn => by
    have e1 : t = a := by simpa using h1
    have e2 : t = b := by simpa using h2
    exact absurd (e1.symm.trans e2) hn
  | t :: u :: r, a, b, h1, h2, ha, hb, hn => by
    have e1 : t = a := by simpa using h1
    subst e1
    rcases Int.lt_or_le (gx g u) x with k | k
    · by_cases hu : u = b
      · subst hu; omega
      · obtain ⟨k, p, q, a1, a2, a3, a4⟩ := rop_btw (g := g) (x := x) (rp := u :: r) (a := u) (b := b) rfl (by rw [List.getLast?_cons_cons] at h2; exact h2) (Int.le_of_lt k) hb hu
        exact ⟨k + 1, p, q, by simpa using a1, by simpa using a2, a3, a4⟩
    · exact ⟨0, t, u, rfl, rfl, ha, k⟩
def vert (g : Int) (L : List (Int × Int)) (v : Int × Int) : Prop := ∀ p ∈ L, ∀ q ∈ L, gx g p < gx g v → gx g v < gx g q → 0 < D3 g p q v
theorem rop_vert {g : Int} {L rp : List (Int × Int)} (h : Rop g L rp) (as : Asc g L) {v : Int × Int} (hv : v ∈ L) : v ∈ rp ↔ vert g L v := by
  have hL : L ≠ [] := fun e => by rw [e] at hv; simp at hv
  obtain ⟨a, ha⟩ : ∃ a, L.head? = some a := ⟨_, List.head?_eq_some_head hL⟩
  obtain ⟨b, hb⟩ : ∃ b, L.getLast? = some b := ⟨_, List.getLast?_eq_some_getLast hL⟩
  constructor
  · intro hm p hp q hq h1 h2
    obtain ⟨k, hk⟩ := List.mem_iff_getElem?.mp hm
    have lk := lt_getD hk
    have k0 : k ≠ 0 := fun e => by
      subst e
      have : rp.head? = some v := by rw [List.head?_eq_getElem?]; exact hk
      rw [h.first, ha] at this; cases this
      have := as.head ha hp; omega
    have k1 : k + 1 < rp.length := by
      rcases Nat.lt_or_ge (k + 1) rp.length with e | e
      · exact e
      · have : rp.getLast? = some v := by rw [List.getLast?_eq_getElem?, show rp.length - 1 = k by omega]; exact hk
        rw [h.last, hb] at this; cases this
        have := as.last hb hq; omega
    obtain ⟨j, rfl⟩ : ∃ j, k = j + 1 := ⟨k - 1, by omega⟩
    obtain ⟨u, hu⟩ : ∃ u, rp[j]? = some u := ⟨rp[j], List.getElem?_eq_getElem (by omega)⟩
    obtain ⟨w, hw⟩ : ∃ w, rp[j + 2]? = some w := ⟨rp[j + 2], List.getElem?_eq_getElem (by omega)⟩
    obtain ⟨x1, s1⟩ := h.edge j u v hu hk
    obtain ⟨x2, s2⟩ := h.edge (j + 1) v w hk hw
    exact vert_of x1 h1 h2 (s1 p hp) (edge_on x1 x2 h2 (h.conv j u v w hu hk hw) (s2 q hq))
  · intro hvt
    by_cases hn : v ∈ rp
    · exact hn
    · exfalso
      have la := as.head ha hv
      have lb := as.last hb hv
      have hab : a ≠ b := fun e => by
        subst e
        have := as.eq hv (List.mem_of_mem_head? (by rw [ha]; rfl)) (by omega)
        subst this
        exact hn (List.mem_of_mem_head? (by rw [h.first, ha]; rfl))
      obtain ⟨k, p, q, hp, hq, l1, l2⟩ := rop_btw (g := g) (x := gx g v) (rp := rp) (a := a) (b := b) (by rw [h.first]; exact ha) (by rw [h.last]; exact hb) la lb hab
      have pm := List.mem_of_getElem? hp
      have qm := List.mem_of_getElem? hq
      have np : gx g p ≠ gx g v := fun e => hn ((as.eq (h.sub.subset pm) hv e) ▸ pm)
      have nq : gx g v ≠ gx g q := fun e => hn ((as.eq hv (h.sub.subset qm) e) ▸ qm)
      have := hvt p (h.sub.subset pm) q (h.sub.subset qm) (by omega) (by omega)
      have := (h.edge k p q hp hq).2 v hv
      omega
theorem sd_D3 {g : Int} (hg : g = 1 ∨ g = -1) {p q d : Int × Int} (h : gx g p < gx g q) : 0 < sdI p q d ↔ 0 < D3 g p q d := by
  have e : (if q.1 - p.1 < 0 then -sdO p q d else sdO p q d) = D3 g p q d := by
    unfold sdO D3 gx
    unfold gx at h
    rcases hg with rfl | rfl
    · rw [if_neg (by omega)]; grind
    · rw [if_pos (by omega)]; grind
  unfold sdI
  rw [e]
  split
  · simp; omega
  · split
    · simp; omega
    · simp; omega
end Dp
namespace Dp
open PySem Rm My
def insK (cs : List (Int × Int)) (a b : Int × Int) : List Int := if b.1 < a.1 then (nbK cs a.1 b.1 cs.length).reverse else nbK cs a.1 b.1 cs.length
def insL (cs : List (Int × Int)) (a b : Int × Int) : List (Int × Int) := (insK cs a b).map fun k => cs.getD k.toNat (0, 0)
def linL (cs : List (Int × Int)) (a b : Int × Int) : List (Int × Int) := a :: (insL cs a b ++ [b])
def dirG (a b : Int × Int) : Int := if b.1 < a.1 then -1 else 1
theorem dir_1 (a b : Int × Int) : dirG a b = 1 ∨ dirG a b = -1 := by unfold dirG; split <;> simp
theorem insK_mem {cs : List (Int × Int)} {a b : Int × Int} {k : Int} : k ∈ insK cs a b ↔ k ∈ nbK cs a.1 b.1 cs.length := by
  unfold insK; split <;> simp
theorem ins_mem {cs : List (Int × Int)} {a b d : Int × Int} : d ∈ insL cs a b ↔ d ∈ cs ∧ min a.1 b.1 < d.1 ∧ d.1 < max a.1 b.1 := by
  unfold insL
  rw [List.mem_map]
  constructor
  · rintro ⟨k, hk, rfl⟩
    obtain ⟨c, hc, eg, _, _, hb⟩ := nbK_in (insK_mem.mp hk)
    rw [eg]
    exact ⟨List.mem_of_getElem? hc, hb⟩
  · rintro ⟨hd, hb⟩
    obtain ⟨j, hj⟩ := List.mem_iff_getElem?.mp hd
    refine ⟨(j : Int), insK_mem.mpr (nbK_of hj hb), ?_⟩
    rw [Int.toNat_natCast, List.getD_eq_getElem?_getD, hj]; rfl
theorem nb_asc {cs : List (Int × Int)} (gr : Grd cs) (x y : Int) : (nbK cs x y cs.length).Pairwise fun i j => (cs.getD i.toNat (0, 0)).1 < (cs.getD j.toNat (0, 0)).1 := by
  unfold nbK
  rw [List.pairwise_map]
  refine List.Pairwise.imp_of_mem ?_ (List.Pairwise.filter _ (List.pairwise_lt_range (n := cs.length)))
  intro i j hi hj hij
  have li := List.mem_range.mp (List.mem_filter.mp hi).1
  have lj := List.mem_range.mp (List.mem_filter.mp hj).1
  rw [Int.toNat_natCast, Int.toNat_natCast, List.getD_eq_getElem?_getD, List.getD_eq_getElem?_getD, List.getElem?_eq_getElem li, List.getElem?_eq_getElem lj]
  exact List.pairwise_iff_getElem.mp gr.asc i j li lj hij
theorem lin_asc {cs : List (Int × Int)} (gr : Grd cs) {a b : Int × Int} (hab : a.1 ≠ b.1) : Asc (dirG a b) (linL cs a b) := by
  have hi : Asc (dirG a b) (insL cs a b) := by
    unfold Asc insL insK dirG
    have := nb_asc gr a.1 b.1
    split
    · rw [List.pairwise_map, List.pairwise_reverse]
      refine this.imp fun {i j} h => ?_
      unfold gx; omega
    · rw [List.pairwise_map]
      refine this.imp fun {i j} h => ?_
      unfold gx; omega
  have hm : ∀ d ∈ insL cs a b, gx (dirG a b) a < gx (dirG a b) d ∧ gx (dirG a b) d < gx (dirG a b) b := fun d hd => by
    obtain ⟨_, h⟩ := ins_mem.mp hd
    unfold gx dirG
    split <;> omega
  have h0 : gx (dirG a b) a < gx (dirG a b) b := by
    unfold gx dirG
    split <;> omega
  unfold Asc linL
  refine List.pairwise_cons.mpr ⟨fun d hd => ?_, List.pairwise_append.mpr ⟨hi, List.pairwise_singleton _ _, fun c hc d hd => ?_⟩⟩
  · rcases List.mem_append.mp hd with hd | hd
    · exact (hm d hd).1
    · have : d = b := by simpa using hd
      subst this; exact h0
  · have : d = b := by simpa using hd
    subst this; exact (hm c hc).2
theorem at_minus2 {xs : List D} {y z : D} : atD (xs ++ [y] ++ [z]) (-2) = some y := by
  unfold atD ixD
  rw [if_neg (by decide), if_pos (by simp; omega)]
  simp only [Option.bind_some]
  rw [show ((-2 : Int) + ((xs ++ [y] ++ [z]).length : Int)).toNat = xs.length by simp; omega]
  rw [List.append_assoc, List.getElem?_append_right (Nat.le_refl _), Nat.sub_self]; rfl
theorem ins_bd {cs : List (Int × Int)} (gr : Grd cs) {a b : Int × Int} (ba : Bd 180 a.1 ∧ Bd 200 a.2) (bb : Bd 180 b.1 ∧ Bd 200 b.2) {d : Int × Int} (hd : d ∈ linL cs a b) : Bd 180 d.1 ∧ Bd 200 d.2 := by
  unfold linL at hd
  rcases List.mem_cons.mp hd with rfl | hd
  · exact ba
  · rcases List.mem_append.mp hd with hd | hd
    · have := gr.bd d (ins_mem.mp hd).1
      exact ⟨this.1.mono (by decide), this.2.mono (by decide)⟩
    · have : d = b := by simpa using hd
      subst this; exact bb
end Dp
namespace Dp
open PySem Rm My
theorem dir_lt {a b : Int × Int} (hab : a.1 ≠ b.1) : gx (dirG a b) a < gx (dirG a b) b := by
  unfold gx dirG; split <;> omega
theorem lin_last (cs : List (Int × Int)) (a b : Int × Int) : (linL cs a b).getLast? = some b := by unfold linL; rw [← List.cons_append]; exact List.getLast?_concat
theorem lin_a (cs : List (Int × Int)) (a b : Int × Int) : a ∈ linL cs a b := by unfold linL; simp
theorem lin_b (cs : List (Int × Int)) (a b : Int × Int) : b ∈ linL cs a b := by unfold linL; simp
theorem lin_ins {cs : List (Int × Int)} {a b d : Int × Int} (h : d ∈ insL cs a b) : d ∈ linL cs a b := by unfold linL; exact List.mem_cons_of_mem _ (List.mem_append_left _ h)
theorem lin_cases {cs : List (Int × Int)} {a b d : Int × Int} (h : d ∈ linL cs a b) : d = a ∨ d ∈ insL cs a b ∨ d = b := by
  unfold linL at h
  rcases List.mem_cons.mp h with h | h
  · exact .inl h
  · rcases List.mem_append.mp h with h | h
    · exact .inr (.inl h)
    · exact .inr (.inr (by simpa using h))
section
variable {cs : List (Int × Int)} {a b : Int × Int} {rp : List (Int × Int)}
theorem rop_0 {g : Int} (rop : Rop g (linL cs a b) rp) : rp[0]? = some a := by
  have := rop.first
  rw [List.head?_eq_getElem?] at this
  rw [this]; rfl
theorem rop_l {g : Int} (rop : Rop g (linL cs a b) rp) : rp.getLast? = some b := by rw [rop.last, lin_last]
theorem rop_2 {g : Int} (rop : Rop g (linL cs a b) rp) (h : a ≠ b) : 2 ≤ rp.length := by
  have h1 := rop_0 rop
  have h2 := rop_l rop
  rcases rp with _ | ⟨p, _ | ⟨q, r⟩⟩
  · simp at h1
  · have a1 : p = a := by simpa using h1
    have a2 : p = b := by simpa using h2
    exact absurd (a1.symm.trans a2) h
  · simp
theorem rop_clear (gr : Grd cs) (hab : a.1 ≠ b.1) (rop : Rop (dirG a b) (linL cs a b) rp) : (hinK cs a b).isNone = decide (rp.length = 2) := by
  have hasc := lin_asc gr hab
  have h2 := rop_2 rop (fun e => hab (by rw [e]))
  have hlt := dir_lt hab
  rw [Bool.eq_iff_iff, hin_none, decide_eq_true_eq]
  constructor
  · intro h
    rcases Nat.lt_or_ge 2 rp.length with k | k
    · exfalso
      obtain ⟨v, hv⟩ : ∃ v, rp[1]? = some v := ⟨rp[1], List.getElem?_eq_getElem (by omega)⟩
      have vm := List.mem_of_getElem? hv
      have vL := rop.sub.subset vm
      have ar : Asc (dirG a b) rp := List.Pairwise.sublist rop.sub hasc
      have v0 := Asc.lt ar (show 0 < 1 by decide) (rop_0 rop) hv
      have hl := rop_l rop
      rw [List.getLast?_eq_getElem?] at hl
      have v1 := Asc.lt ar (show 1 < rp.length - 1 by omega) hv hl
      have := (rop_vert rop hasc vL).mp vm a (lin_a _ _ _) b (lin_b _ _ _) v0 v1
      rcases lin_cases vL with e | e | e
      · rw [e] at v0; omega
      · obtain ⟨c1, c2⟩ := ins_mem.mp e
        exact h v c1 c2.1 c2.2 ((sd_D3 (dir_1 a b) hlt).mpr this)
      · rw [e] at v1; omega
    · omega
  · intro h d hd d1 d2 hs
    have hl := rop_l rop
    rw [List.getLast?_eq_getElem?, h] at hl
    have := (rop.edge 0 a b (rop_0 rop) hl).2 d (lin_ins (ins_mem.mpr ⟨hd, d1, d2⟩))
    have := (sd_D3 (dir_1 a b) hlt).mp hs
    omega
end
end Dp
namespace Dp
open PySem Rm My
section
variable {w h t m : Int} {cs : List (Int × Int)}
theorem on_ex (gr : Grd cs) {x : Int} : OnG cs (x, 1) ↔ (∃ a ∈ cs, a.1 ≤ x) ∧ ∃ b ∈ cs, x ≤ b.1 := by
  obtain ⟨f, hf, ef⟩ := grd_first gr
  obtain ⟨z, hz, ez⟩ := grd_last gr
  unfold OnG
  dsimp only
  rw [Int.mul_one, Int.mul_one]
  constructor
  · rintro ⟨h1, h2⟩
    exact ⟨⟨f, List.mem_of_getElem? hf, by omega⟩, ⟨z, List.mem_of_getElem? hz, by omega⟩⟩
  · rintro ⟨⟨a, ha, h1⟩, ⟨b, hb, h2⟩⟩
    have := on_mem gr ha
    have := on_mem gr hb
    omega
theorem std_brk (gr : Grd cs) {s a b : Int × Int} (bk : Brk cs (s.1, 1) a b) : StdG cs s ↔ hvT a b (s.1, 1) ≤ s.2 * hvB a b (s.1, 1) := by
  have on : OnG cs (s.1, 1) := (on_ex gr).mpr ⟨⟨a, bk.ma, by have : a.1 * 1 ≤ s.1 := bk.lo; omega⟩, ⟨b, bk.mb, by have : s.1 ≤ b.1 * 1 := bk.hi; omega⟩⟩
  obtain ⟨c, d, seg, bk2⟩ := seg_brk gr on
  have e := brk_same gr (show (0 : Int) < 1 by decide) bk bk2
  have B1 := (foot_bd gr bk).1
  have B2 := (foot_bd gr bk2).1
  have key : hvT c d (s.1, 1) ≤ s.2 * hvB c d (s.1, 1) ↔ hvT a b (s.1, 1) ≤ s.2 * hvB a b (s.1, 1) := by
    generalize hvT a b (s.1, 1) = t1 at *
    generalize hvB a b (s.1, 1) = b1 at *
    generalize hvT c d (s.1, 1) = t2 at *
    generalize hvB c d (s.1, 1) = b2 at *
    constructor
    · intro h1
      have := Int.mul_le_mul_of_nonneg_right h1 (Int.le_of_lt B1)
      rw [← e, show s.2 * b2 * b1 = s.2 * b1 * b2 by grind] at this
      exact Int.le_of_mul_le_mul_right this B2
    · intro h1
      have := Int.mul_le_mul_of_nonneg_right h1 (Int.le_of_lt B2)
      rw [e, show s.2 * b1 * b2 = s.2 * b2 * b1 by grind] at this
      exact Int.le_of_mul_le_mul_right this B1
  rw [← key]
  constructor
  · intro h1; exact h1.2 c d seg
  · intro h1
    refine ⟨on, fun a' b' seg' => ?_⟩
    rw [seg] at seg'; cases seg'; exact h1
end
end Dp
namespace Dp
open PySem Rm My
abbrev bcD (b : Str × (Int × Int)) : D := .tup [.str b.1, .int b.2.1, .int b.2.2]
section
variable {S : Sto} {P : D → Prop} {n : Nat} {g b f h a l d : D}
end
theorem get_bc {bs : List (Str × (Int × Int))} {i : Nat} {d : D} (h : (bs.map bcD)[i]? = some d) : ∃ b, bs[i]? = some b ∧ d = bcD b := by
  rw [List.getElem?_map] at h
  cases e : bs[i]? with
  | none => rw [e] at h; cases h
  | some p => rw [e] at h; cases h; exact ⟨p, rfl, rfl⟩
def onBc (f : Str × (Int × Int) → D) : D → D
  | .tup [.str z, .int a, .int b] => f (z, a, b)
  | d => d
theorem onBc_map (f : Str × (Int × Int) → D) (bs : List (Str × (Int × Int))) : (bs.map bcD).map (onBc f) = bs.map f := by rw [List.map_map]; rfl
end Dp
namespace My
open PySem PySem.Spec PyProof.Rows L2
section
open AutoSeq1 (wpAny_loadPart')
variable {prog : Program} {w : World} {A : Around} {E : Value → Shared → Prop} {s : Shared}
theorem nextT_item {it t : Addr} {i : Nat} {items : Array Value} {x : Value} {Q : Value → Shared → Prop} (hit : s.heap.IsTupleIter it t i) (ht : s.heap.IsTuple t items) (hx : items[i]? = some x)
    (hQ : ∀ h', h'.IsTupleIter it t (i + 1) → Heap.SameBut it s.heap h' → Q x { s with heap := h' }) : wpAny (model prog w) A (Builtin.SmallTypes.nextOf (.ref it)) Q E s := by
  obtain ⟨o, ho, hc, hd⟩ := id hit
  obtain ⟨ol, hol, _, nl, hdl⟩ := ht
  unfold Builtin.SmallTypes.nextOf
  refine wpAny_bind (wpAny_callSpecial?_slot (name := Str.ofString "__next__") hit.typeIs F.slot_tuple_iterator_next (wpAny_call_entry F.slot_tuple_iterator_next hit.typeIs F.entry_tuple_iterator_next ?_ (F.args_tuple_iterator_next_1 _)))
  show wpAny _ _ (field (.ref it) 0 >>= _) _ _ s
  refine wpAny_bind (wpAny_field ho hd (x := .ref t) rfl ?_)
  show wpAny _ _ (if (Value.ref t == Value.none) = true then _ else _) _ _ s
  rw [if_neg (show ¬ ((Value.ref t == Value.none) = true) from Bool.false_ne_true)]
  show wpAny _ _ (field (.ref it) 1 >>= _) _ _ s
  refine wpAny_bind (wpAny_field ho hd (x := .int i 0) rfl ?_)
  show wpAny _ _ (seqItems? (.ref t) >>= _) _ _ s
  refine wpAny_bind (wpAny_seqItems hol hdl ?_)
  simp only [Int.toNat_natCast, hx]
  refine wpAny_bind (wpAny_setField ho hd (by simp) (wpAny_pure ⟨x, rfl, wpAny_pure (hQ _ ?_ (Heap.SameBut.update ..))⟩))
  exact ⟨_, Heap.get?_update_self _ ho (Obj.isFreed_of_fields (Obj.data_mapFields hd _)), (Obj.cls_mapFields ..).trans hc, by rw [Obj.data_mapFields hd]; simp [rawInt]⟩
theorem nextT_end {it t : Addr} {i : Nat} {items : Array Value} {Q : Value → Shared → Prop} (hh : A.handled = none) (hit : s.heap.IsTupleIter it t i) (ht : s.heap.IsTuple t items) (hx : items[i]? = none)
    (hE : ∀ h' e, Heap.ExtBut it s.heap h' → (∃ o, h'.get? e = some o ∧ o.cls = .type "StopIteration") → E (.ref e) { s with heap := h' }) : wpAny (model prog w) A (Builtin.SmallTypes.nextOf (.ref it)) Q E s := by
  obtain ⟨o, ho, hc, hd⟩ := id hit
  obtain ⟨ol, hol, _, nl, hdl⟩ := ht
  unfold Builtin.SmallTypes.nextOf
  refine wpAny_bind (wpAny_callSpecial?_slot (name := Str.ofString "__next__") hit.typeIs F.slot_tuple_iterator_next (wpAny_call_entry F.slot_tuple_iterator_next hit.typeIs F.entry_tuple_iterator_next ?_ (F.args_tuple_iterator_next_1 _)))
  show wpAny _ _ (field (.ref it) 0 >>= _) _ _ s
  refine wpAny_bind (wpAny_field ho hd (x := .ref t) rfl ?_)
  show wpAny _ _ (if (Value.ref t == Value.none) = true then _ else _) _ _ s
  rw [if_neg (show ¬ ((Value.ref t == Value.none) = true) from Bool.false_ne_true)]
  show wpAny _ _ (field (.ref it) 1 >>= _) _ _ s
  refine wpAny_bind (wpAny_field ho hd (x := .int i 0) rfl ?_)
  show wpAny _ _ (seqItems? (.ref t) >>= _) _ _ s
  refine wpAny_bind (wpAny_seqItems hol hdl ?_)
  simp only [Int.toNat_natCast, hx]
  refine wpAny_bind (wpAny_rule (wpAny_bind (wpAny_setField ho hd (by simp) ?_)))
  show wpAny _ _ (newExc (.type "StopIteration") [] >>= _) _ _ _
  refine wpAny_bind ?_
  simp only [newExc, newTuple]
  refine wpAny_bind (wpAny_newObj_type ?_ (by size_fits))
  refine wpAny_bind (m := firstArgMember _ _) (wpAny_of_eq (a := Value.none) (by first | rfl | (simp only [firstArgMember]; rfl)) ?_)
  refine wpAny_newObj_type ?_ (by size_fits)
  simp only [raiseNew]
  refine wpAny_bind (wpAny_handled ?_)
  first | rw [show A.in1.handled = none from hh] | rw [hh]
  refine wpAny_bind (wpAny_pure (wpAny_throw ?_))
  exact hE _ _ (((Heap.SameBut.update ..).extBut.push _).push _) ⟨_, Heap.get?_push_size _ rfl, rfl⟩
theorem drawsT (hh : A.handled = none) (it t : Addr) (hne : t ≠ it) (items : Array Value) :
    Draws prog w A it [it, t] items.size (fun i v => items[i]? = some v) (fun i h => h.IsTupleIter it t i ∧ h.IsTuple t items) where
  live := fun _ _ st => let ⟨o, ho, _⟩ := st.1; ⟨o, ho⟩
  frame := fun _ _ _ st hk => ⟨let ⟨o, ho, r⟩ := st.1; ⟨o, hk it (by simp) o ho, r⟩, let ⟨o, ho, r⟩ := st.2; ⟨o, hk t (by simp) o ho, r⟩⟩
  item := fun i s Q E hi st hQ => nextT_item st.1 st.2 (x := items[i]) (by simp [hi]) fun h' hit' hs' => hQ _ h' s.toks (by simp [hi]) ⟨hit', st.2.extBut hs'.extBut hne⟩ hs'
  done := fun s Q E st hE => nextT_end hh st.1 st.2 (by simp) hE
theorem drawsE (hh : A.handled = none) (it t : Addr) (items : Array Value) (i : Nat) (hx : items[i]? = none) :
    Draws prog w A it [it, t] 0 (fun _ _ => True) (fun _ h => h.IsTupleIter it t i ∧ h.IsTuple t items) where
  live := fun _ _ st => let ⟨o, ho, _⟩ := st.1; ⟨o, ho⟩
  frame := fun _ _ _ st hk => ⟨let ⟨o, ho, r⟩ := st.1; ⟨o, hk it (by simp) o ho, r⟩, let ⟨o, ho, r⟩ := st.2; ⟨o, hk t (by simp) o ho, r⟩⟩
  item := fun i s Q E hi => absurd hi (Nat.not_lt_zero _)
  done := fun s Q E st hE => nextT_end hh st.1 st.2 hx hE
theorem newT (l : Addr) (items : Array Value) (n : Nat) (dct : Option Addr) (sl : Array (Option Value)) :
    Meets (Builtin.«enumerate.__new__» ⟨[.type "enumerate", .ref l], []⟩) (fun _ R s => s.heap.get? l = some { cls := .type "tuple", dict := dct, data := .seq items n, slots := sl } ∧
      R (.ok (.ret (.ref (s.heap.push { cls := .type "tuple_iterator", data := .fields #[.ref l, .int 0 0] }).objs.size)))
        { s with heap := (s.heap.push { cls := .type "tuple_iterator", data := .fields #[.ref l, .int 0 0] }).push { cls := .type "enumerate", data := .fields #[.none, .bool false, .ref s.heap.objs.size, rawInt 0, .none, .none] } }) :=
  .of_wp fun prog w A R s h => by
    obtain ⟨hp, g, d, tk, os⟩ := s
    obtain ⟨hl, h⟩ := h
    have hsub := sub_enumerate
    have hL : Heap.IsTuple (Shared.heap ⟨hp, g, d, tk, os⟩) l items := ⟨_, hl, rfl, n, rfl⟩
    wp_walk using wpAny_loadPart' hl
    refine wpAny_stack_any fun st => wpAny_pure ?_
    split
    · rename_i c _ _ _ _ _
      cases (c == Value.type "enumerate")
      · wp_walk using wpAny_loadPart' hl, wpAny_pyIter_tuple hL
        exact ⟨_, rfl, h⟩
      · wp_walk using wpAny_loadPart' hl, wpAny_pyIter_tuple hL
        exact ⟨_, rfl, h⟩
    · wp_walk using wpAny_loadPart' hl, wpAny_pyIter_tuple hL
      exact ⟨_, rfl, h⟩
theorem enumT {l : Addr} {items : Array Value} {Q : Value → Shared → Prop} (hL : s.heap.IsTuple l items)
    (h : ∀ h', IsEnum h' (s.heap.objs.size + 1) s.heap.objs.size 0 .none → h'.IsTupleIter s.heap.objs.size l 0 → h'.objs.size = s.heap.objs.size + 2 →
      (∀ b o, s.heap.get? b = some o → h'.get? b = some o) → Q (.ref (s.heap.objs.size + 1)) { s with heap := h' }) : wpAny (model prog w) A (call (.type "enumerate") [.ref l]) Q E s := by
  obtain ⟨⟨c, dct, dt, sl⟩, hl, hc, n, hd⟩ := hL
  replace hc : c = .type "tuple" := hc
  replace hd : dt = .seq items n := hd
  subst hc hd
  refine callType_new F.called_enumerate (by decide) (F.typeCall_enumerate_1 _) (F.newCall_enumerate_1 _) (fun obj => F.args_object_init_2 obj _) F.entry_enumerate_new (newT l items n dct sl) ⟨hl, ?_⟩
  have hz : (s.heap.push { cls := .type "tuple_iterator", data := .fields #[.ref l, .int 0 0] }).objs.size = s.heap.objs.size + 1 := Heap.size_push ..
  show _ ∧ _
  rw [hz]
  have he : IsEnum ((s.heap.push { cls := .type "tuple_iterator", data := .fields #[.ref l, .int 0 0] }).push
      { cls := .type "enumerate", data := .fields #[.none, .bool false, .ref s.heap.objs.size, rawInt 0, .none, .none] }) (s.heap.objs.size + 1) s.heap.objs.size 0 .none := by
    have := Heap.get?_push_size (s.heap.push { cls := .type "tuple_iterator", data := .fields #[.ref l, .int 0 0] })
      (o := { cls := .type "enumerate", data := .fields #[.none, .bool false, .ref s.heap.objs.size, rawInt 0, .none, .none] }) rfl
    rw [hz] at this; exact this
  exact ⟨⟨_, he, rfl⟩, h _ he ⟨_, Heap.get?_push_of_some _ (Heap.get?_push_size _ rfl), rfl, rfl⟩ (by rw [Heap.size_push, hz]) fun b o x => Heap.get?_push_of_some _ (Heap.get?_push_of_some _ x)⟩
end
def IteT (K : PySem.W.Frag) (l : Addr) : It :=
  ⟨fun i H => ∃ xs x, SqT K H l xs ∧ xs[i]? = some x,
   fun i H v H' => ∃ p, v = .ref p ∧ H p = none ∧ ∀ xs x, SqT K H l xs → xs[i]? = some x → H' = upd H p (.tup [.int i, x]),
   fun i H => ∃ xs, SqT K H l xs ∧ xs.length ≤ i⟩
theorem ne_cls {h : Heap} {a b : Addr} {o u : Obj} (ha : h.get? a = some o) (hb : h.get? b = some u) (hc : o.cls ≠ u.cls) : a ≠ b := fun e => by
  subst e
  rw [ha] at hb
  cases hb
  exact hc rfl
theorem turn_enumT {P : Program} {w : World} {K : PySem.W.Frag} {es : List Expr} {kk : Nat} {pos : Pos} {e it l : Addr} (hne : e ≠ it) :
    Turn P w K (.Tuple es kk pos) (IteT K l) [e, it] e (fun i h => (∃ old, IsEnum h e it i old) ∧ h.IsTupleIter it l i) where
  mem := by simp
  obj := fun i h st b hb => by
    obtain ⟨⟨old, he⟩, ⟨o1, h1, _, h1d⟩⟩ := st
    simp only [List.mem_cons, List.not_mem_nil, or_false] at hb
    rcases hb with rfl | rfl
    · exact ⟨_, he, fun v q => by cases (show Data.fields _ = Data.cell v from q)⟩
    · exact ⟨_, h1, fun v q => by rw [h1d] at q; cases q⟩
  keep := fun i h h' st k => by
    obtain ⟨⟨old, he⟩, ⟨o, ho, r⟩⟩ := st
    exact ⟨⟨old, k e (by simp) _ he⟩, ⟨o, k it (by simp) o ho, r⟩⟩
  item := by
    intro X hP hw hK hc i pins s σ H E I hf st hg
    subst hP hw hK
    obtain ⟨⟨old, he⟩, h1⟩ := st
    obtain ⟨xs, x, hx1, hx⟩ := hg
    obtain ⟨its, rx, px, zx⟩ := I.tuple hx1
    obtain ⟨u, hu, ru⟩ := Vals.get rx hx
    have pt : s.heap.IsTuple l its.toArray := px
    obtain ⟨oi, ei, ci, _⟩ := id h1
    obtain ⟨ol, el, cl, _⟩ := id pt
    have n1 : l ≠ it := ne_cls el ei (by rw [cl, ci]; decide)
    have n2 : e ≠ l := ne_cls he el (by rw [cl]; show Value.type "enumerate" ≠ Value.type "tuple"; decide)
    have hlt : i < its.toArray.size := by
      have := (List.getElem?_eq_some_iff.mp hu).1
      simpa using this
    refine wpAny_pyNext_enum_itemD (drawsT (A := X.A.in1) (show X.A.in1.handled = none from I.ok.hd hc) it l n1 its.toArray) he ⟨h1, pt⟩ hlt hne (by simp [hne, n2]) fun u' h' tk hP a1 a2 a3 a4 hk => ?_
    have eu : u' = u := by
      have hP' : its.toArray[i]? = some u' := hP
      rw [List.getElem?_toArray, hu] at hP'
      cases hP'; rfl
    subst eu
    refine ⟨_, rfl, wpAny_letOwnedTupleGo_enum (s := { s with heap := h', toks := tk + 1 }) a1 fun h'' he'' hs'' => ?_⟩
    have lt : ∀ {c o}, s.heap.get? c = some o → s.heap.objs.size ≠ c := fun q => Nat.ne_of_gt (Heap.lt_size q)
    have k2 : ∀ b u, b ∉ [e, it] → s.heap.get? b = some u → h''.get? b = some u := fun b u hb q => by
      simp only [List.mem_cons, List.not_mem_nil, or_false, not_or] at hb
      exact hs''.extBut b u hb.1 (hk b u hb.1 hb.2 q)
    have new : h''.get? s.heap.objs.size = some { cls := .type "tuple", data := .seq #[.int i tk, u'] } := hs''.extBut _ _ (lt he) a3
    refine ⟨.ref s.heap.objs.size, upd H s.heap.objs.size (.tup [.int i, x]), I.turnNew (t' := tk + 1) hf k2 (Nat.le_refl _) ⟨by show 2 ≤ sizeLine; decide, [.int i tk, u'], .cons ⟨_, rfl⟩ (.cons ru .nil), _, new, rfl, _, rfl⟩, rfl, ⟨_, rfl, I.fresh, ?_⟩, ?_, fun b hb => ?_⟩
    · intro xs' x' hx1' hx'
      cases I.tuple_inj hx1 hx1'
      rw [hx] at hx'
      cases hx'
      rfl
    · exact ⟨⟨_, he''⟩, a2.1.extBut hs''.extBut (Ne.symm hne)⟩
    · have : ∃ o, s.heap.get? b = some o := by
        simp only [List.mem_cons, List.not_mem_nil, or_false] at hb
        rcases hb with rfl | rfl
        · exact ⟨_, he⟩
        · exact ⟨_, ei⟩
      obtain ⟨o, q⟩ := this
      rw [upd_ne (lt q).symm]
      exact (hf b hb).1
  done := by
    intro X hP hw hK hc i pins s σ H E I hf st hg
    subst hP hw hK
    obtain ⟨⟨old, he⟩, h1⟩ := st
    obtain ⟨xs, hx1, hl⟩ := hg
    obtain ⟨its, rx, px, zx⟩ := I.tuple hx1
    have n1 := rx.length
    have pt : s.heap.IsTuple l its.toArray := px
    have hnone : its.toArray[i]? = none := by rw [List.getElem?_toArray]; exact List.getElem?_eq_none (by omega)
    refine wpAny_pyNext_enum_endD (drawsE (A := X.A.in1) (show X.A.in1.handled = none from I.ok.hd hc) it l its.toArray i hnone) he ⟨h1, pt⟩ fun h' hk => ⟨rfl, I.turnedL (t' := s.toks) hf fun b u hb q => ?_⟩
    simp only [List.mem_cons, List.not_mem_nil, or_false, not_or] at hb
    exact hk b u hb.2 q
  self := fun _ _ _ _ _ st h => by
    obtain ⟨⟨old, he⟩, _⟩ := st
    exact wpAny_pyIter_enum he h
section
variable {X : Cx}
def iEnumB (K : PySem.W.Frag) (ta : TA) : TI := fun σ H R => ta σ H fun vs H1 => ∃ l, vs = [.ref l] ∧ (((∃ xs, SqL K H1 l xs) ∧ R (Ite K l) H1) ∨ ((∃ xs, SqT K H1 l xs) ∧ R (IteT K l) H1))
theorem pi_enumB {es : List Expr} {kk : Nat} {tpos : Pos} {a : Expr} {ta : TA} {p pos : Pos} (hg : Gl X "enumerate") (hm : X.mg "enumerate" = none) (ha : PA X [a] ta) (hs : starEach [a] X.env = [(false, eval a X.env)] := by rfl) :
    PI X (.Tuple es kk tpos) (.Call (.Name "enumerate" p) [a] [] pos) (iEnumB X.K ta) := by
  intro pins s σ H R I h
  refine Call_ (ld_blt I hg hm boot_enumerate (PyProof.Rows.callWith_type1 (thn (ha pos pins s σ H _ I h) fun us s1 ⟨vs, H1, I1, r1, q1⟩ => ?_) hs rfl))
  obtain ⟨l, e, q⟩ := q1
  subst e
  obtain ⟨u, rfl, ru⟩ := vals1 r1
  cases ru
  rcases q with ⟨⟨xs, hx⟩, q⟩ | ⟨⟨xs, hx⟩, q⟩
  · obtain ⟨its, rx, px, zx⟩ := I1.list hx
    refine call_enumerate_list px.isList fun h' he hit hsz hk => ?_
    have I2 : Inv X pins σ H1 { s1 with heap := h' } := I1.kept (t' := s1.toks) hk
    refine wpAny_pyIter_enum (s := { s1 with heap := h' }) he ?_
    refine ⟨_, _, _, _, H1, rfl, I2, turn_enum (Nat.ne_of_gt (Nat.lt_succ_self _)), ⟨⟨_, he⟩, hit⟩, fun b hb => ?_, q⟩
    have hb' : s1.heap.objs.size ≤ b := by
      simp only [List.mem_cons, List.not_mem_nil, or_false] at hb
      rcases hb with rfl | rfl <;> first | exact Nat.le_add_right _ _ | exact Nat.le_refl _
    exact I1.fpOk hb' (I1.hok.fresh hb')
  · obtain ⟨its, rx, px, zx⟩ := I1.tuple hx
    have pt : s1.heap.IsTuple l its.toArray := px
    refine enumT pt fun h' he hit hsz hk => ?_
    have I2 : Inv X pins σ H1 { s1 with heap := h' } := I1.kept (t' := s1.toks) hk
    refine wpAny_pyIter_enum (s := { s1 with heap := h' }) he ?_
    refine ⟨_, _, _, _, H1, rfl, I2, turn_enumT (Nat.ne_of_gt (Nat.lt_succ_self _)), ⟨⟨_, he⟩, hit⟩, fun b hb => ?_, q⟩
    have hb' : s1.heap.objs.size ≤ b := by
      simp only [List.mem_cons, List.not_mem_nil, or_false] at hb
      rcases hb with rfl | rfl <;> first | exact Nat.le_add_right _ _ | exact Nat.le_refl _
    exact I1.fpOk hb' (I1.hok.fresh hb')
end
end My
namespace My
open PySem PySem.Spec PyProof.Rows L2
section
variable {prog : Program} {w : World} {A : Around} {E : Value → Shared → Prop} {s : Shared}
end
section
variable {prog : Program} {w : World} {A : Around} {E : Value → Shared → Prop} {s : Shared}
end
section
variable {X : Cx}
end
end My
namespace My
open PySem PySem.Spec PyProof.Rows L2
section
open AutoSeq1 (wpAny_loadPart')
end
section
variable {X : Cx}
end
end My
namespace My
open PySem PySem.Spec PyProof.Rows L2
section
variable {prog : Program} {w : World} {A : Around} {E : Value → Shared → Prop} {s : Shared}
end
section
variable {X : Cx}
end
end My
namespace My
open PySem PySem.Spec PyProof.Rows L2
section
variable {X : Cx}
end
section
variable {X : Cx}
end
end My
namespace My
open PySem PySem.Spec PyProof.Rows L2
section
variable {prog : Program} {w : World} {A : Around} {E : Value → Shared → Prop} {s : Shared}
end
end My
namespace My
open PySem PySem.Spec PyProof.Rows L2
section
variable {prog : Program} {w : World} {A : Around} {E : Value → Shared → Prop} {s : Shared}
end
end My
namespace My
open PySem PySem.Spec PyProof.Rows L2
section
variable {prog : Program} {w : World} {A : Around} {E : Value → Shared → Prop} {s : Shared}
end
end My
namespace My
open PySem PySem.Spec PyProof.Rows L2
section
variable {prog : Program} {w : World} {A : Around} {s : Shared}
end
section
variable {prog : Program} {w : World} {A : Around} {E : Value → Shared → Prop} {s : Shared}
end
end My
namespace Dp
open PySem PySem.Spec PyProof.Rows L2 My
def SqLr (K : PySem.W.Frag) (H : Hp) (a : Addr) (xs : List V) : Prop :=
  (∃ o, H a = some (.frz o (.lst xs))) ∨ ∃ (o : Obj) (its : Array Value) (n : Nat), K.lookup a = some o ∧ o.cls = .type "list" ∧ o.dict = none ∧ o.data = .seq its n ∧ its.size ≤ sizeLine ∧ Vals xs its.toList
theorem SqLr.sq {K : PySem.W.Frag} {H : Hp} {a : Addr} {xs : List V} (h : SqLr K H a xs) : SqL K H a xs := h.imp (fun h => .inr h) id
mutual
inductive Rel (K : PySem.W.Frag) (ad : List Addr) (H : Hp) : D → V → Prop
  | non : Rel K ad H .non .non
  | bl (b : Bool) : Rel K ad H (.bl b) (.bl b)
  | int (i : Int) : Rel K ad H (.int i) (.int i)
  | str (x : Str) : Rel K ad H (.str x) (.str x)
  | ty (n : String) : Rel K ad H (.ty n) (.ty n)
  | tup {a : Addr} {vs : List V} {ds : List D} : H a = some (.tup vs) → RelAll K ad H ds vs → Rel K ad H (.tup ds) (.ref a)
  | rl {a : Addr} {vs : List V} {ds : List D} : SqLr K H a vs → RelAll K ad H ds vs → Rel K ad H (.rl ds) (.ref a)
  | ref {n : Nat} {a : Addr} : ad[n]? = some a → Rel K ad H (.ref n) (.ref a)
  | exn {c : Str} {a C : Addr} {o : Obj} {u : HO} : H a = some (.frz o u) → o.cls = .ref C → PySem.W.nsIn K mainGlobals c = some (some (.ref C)) → Rel K ad H (.exn c) (.ref a)
inductive RelAll (K : PySem.W.Frag) (ad : List Addr) (H : Hp) : List D → List V → Prop
  | nil : RelAll K ad H [] []
  | cons {d : D} {v : V} {ds : List D} {vs : List V} : Rel K ad H d v → RelAll K ad H ds vs → RelAll K ad H (d :: ds) (v :: vs)
end
structure Wd (ad : List Addr) (H : Hp) (ad' : List Addr) (H' : Hp) : Prop where
  pre : ad <+: ad'
  keep : ∀ b o, b ∉ ad → H b = some o → H' b = some o
  tup : ∀ b xs, H b = some (.tup xs) → H' b = some (.tup xs)
  frz : ∀ b o u, H b = some (.frz o u) → H' b = some (.frz o u)
  new : ∀ b, b ∈ ad' → b ∉ ad → H b = none
theorem Wd.refl {ad : List Addr} {H : Hp} : Wd ad H ad H := ⟨List.prefix_refl _, fun _ _ _ h => h, fun _ _ h => h, fun _ _ _ h => h, fun _ h n => absurd h n⟩
theorem Wd.trans {ad ad1 ad2 : List Addr} {H H1 H2 : Hp} (a : Wd ad H ad1 H1) (b : Wd ad1 H1 ad2 H2) : Wd ad H ad2 H2 where
  pre := a.pre.trans b.pre
  keep := fun c o hc h => b.keep c o (fun h1 => by rw [a.new c h1 hc] at h; cases h) (a.keep c o hc h)
  tup := fun c xs h => b.tup c xs (a.tup c xs h)
  frz := fun c o u h => b.frz c o u (a.frz c o u h)
  new := fun c h2 hc => by
    by_cases h1 : c ∈ ad1
    · exact a.new c h1 hc
    · have n1 := b.new c h2 h1
      cases e : H c with
      | none => rfl
      | some o => rw [a.keep c o hc e] at n1; cases n1
theorem pre_get {α : Type} {l l' : List α} (h : l <+: l') {n : Nat} {a : α} (e : l[n]? = some a) : l'[n]? = some a := by
  obtain ⟨t, rfl⟩ := h
  rw [List.getElem?_append_left (My.lt_of_get e)]; exact e
structure Wr (ad : List Addr) (H : Hp) (ad' : List Addr) (H' : Hp) : Prop where
  pre : ad <+: ad'
  tup : ∀ b xs, H b = some (.tup xs) → H' b = some (.tup xs)
  frz : ∀ b o u, H b = some (.frz o u) → H' b = some (.frz o u)
theorem Wd.wr {ad ad' : List Addr} {H H' : Hp} (w : Wd ad H ad' H') : Wr ad H ad' H' := ⟨w.pre, w.tup, w.frz⟩
theorem SqLr.wr {K : PySem.W.Frag} {ad ad' : List Addr} {H H' : Hp} {a : Addr} {xs : List V} (w : Wr ad H ad' H') (h : SqLr K H a xs) : SqLr K H' a xs := h.imp (fun ⟨o, e⟩ => ⟨o, w.frz _ _ _ e⟩) id
mutual
theorem Rel.wr {K : PySem.W.Frag} {ad ad' : List Addr} {H H' : Hp} (w : Wr ad H ad' H') : ∀ {d : D} {v : V}, Rel K ad H d v → Rel K ad' H' d v
  | _, _, .non => .non
  | _, _, .bl b => .bl b
  | _, _, .int i => .int i
  | _, _, .str x => .str x
  | _, _, .ty n => .ty n
  | _, _, .tup h r => .tup (w.tup _ _ h) (RelAll.wr w r)
  | _, _, .rl h r => .rl (h.wr w) (RelAll.wr w r)
  | _, _, .ref h => .ref (pre_get w.pre h)
  | _, _, .exn h e n => .exn (w.frz _ _ _ h) e n
theorem RelAll.wr {K : PySem.W.Frag} {ad ad' : List Addr} {H H' : Hp} (w : Wr ad H ad' H') : ∀ {ds : List D} {vs : List V}, RelAll K ad H ds vs → RelAll K ad' H' ds vs
  | _, _, .nil => .nil
  | _, _, .cons r t => .cons (Rel.wr w r) (RelAll.wr w t)
end
theorem Rel.wd {K : PySem.W.Frag} {ad ad' : List Addr} {H H' : Hp} {d : D} {v : V} (r : Rel K ad H d v) (w : Wd ad H ad' H') : Rel K ad' H' d v := Rel.wr w.wr r
theorem RelAll.wd {K : PySem.W.Frag} {ad ad' : List Addr} {H H' : Hp} {ds : List D} {vs : List V} (r : RelAll K ad H ds vs) (w : Wd ad H ad' H') : RelAll K ad' H' ds vs := RelAll.wr w.wr r
section
variable {K : PySem.W.Frag} {ad : List Addr} {H : Hp}
theorem RelAll.length : ∀ {ds : List D} {vs : List V}, RelAll K ad H ds vs → ds.length = vs.length
  | _, _, .nil => rfl
  | _, _, .cons _ t => congrArg (· + 1) (RelAll.length t)
theorem RelAll.get : ∀ {ds : List D} {vs : List V} {i : Nat} {d : D}, RelAll K ad H ds vs → ds[i]? = some d → ∃ v, vs[i]? = some v ∧ Rel K ad H d v
  | _, _, _, _, .nil, e => by simp at e
  | _, _, 0, _, .cons r _, e => by simp at e; subst e; exact ⟨_, rfl, r⟩
  | _, _, i + 1, d, .cons _ t, e => by
    obtain ⟨v, h1, h2⟩ := RelAll.get (i := i) (d := d) t (by simpa using e)
    exact ⟨v, by simpa using h1, h2⟩
theorem RelAll.append : ∀ {ds es : List D} {vs us : List V}, RelAll K ad H ds vs → RelAll K ad H es us → RelAll K ad H (ds ++ es) (vs ++ us)
  | _, _, _, _, .nil, s => s
  | _, _, _, _, .cons r t, s => .cons r (RelAll.append t s)
theorem RelAll.take : ∀ {ds : List D} {vs : List V} (n : Nat), RelAll K ad H ds vs → RelAll K ad H (ds.take n) (vs.take n)
  | _, _, 0, _ => .nil
  | _, _, _ + 1, .nil => .nil
  | _, _, n + 1, .cons r t => .cons r (RelAll.take n t)
theorem RelAll.drop : ∀ {ds : List D} {vs : List V} (n : Nat), RelAll K ad H ds vs → RelAll K ad H (ds.drop n) (vs.drop n)
  | _, _, 0, r => r
  | _, _, _ + 1, .nil => .nil
  | _, _, n + 1, .cons _ t => RelAll.drop n t
theorem RelAll.set {d : D} {v : V} (r : Rel K ad H d v) : ∀ {ds : List D} {vs : List V} (i : Nat), RelAll K ad H ds vs → RelAll K ad H (ds.set i d) (vs.set i v)
  | _, _, _, .nil => .nil
  | _, _, 0, .cons _ t => .cons r t
  | _, _, i + 1, .cons q t => .cons q (RelAll.set r i t)
theorem RelAll.reverse : ∀ {ds : List D} {vs : List V}, RelAll K ad H ds vs → RelAll K ad H ds.reverse vs.reverse
  | _, _, .nil => .nil
  | _, _, .cons r t => by rw [List.reverse_cons, List.reverse_cons]; exact (RelAll.reverse t).append (.cons r .nil)
theorem RelAll.unsnoc : ∀ {ds : List D} {d : D} {vs : List V}, RelAll K ad H (ds ++ [d]) vs → ∃ us u, vs = us ++ [u] ∧ RelAll K ad H ds us ∧ Rel K ad H d u
  | [], d, _, .cons r .nil => ⟨[], _, rfl, .nil, r⟩
  | e :: ds, d, _, .cons r t => by
    obtain ⟨us, u, rfl, h1, h2⟩ := RelAll.unsnoc (ds := ds) t
    exact ⟨_ :: us, u, rfl, .cons r h1, h2⟩
theorem RelAll.bls : ∀ {ns : List Bool} {vs : List V}, RelAll K ad H (ns.map D.bl) vs → vs = ns.map V.bl
  | [], _, .nil => rfl
  | n :: ns, _, .cons r t => by cases r; rw [RelAll.bls t]; rfl
theorem RelAll.mk_ints : ∀ (ns : List Int), RelAll K ad H (ns.map D.int) (ns.map V.int)
  | [] => .nil
  | n :: ns => .cons (.int n) (RelAll.mk_ints ns)
end
inductive RelF (K : PySem.W.Frag) (ad : List Addr) (H : Hp) : List (Str × D) → List (Str × V) → Prop
  | nil : RelF K ad H [] []
  | cons {f : Str} {d : D} {v : V} {fs : List (Str × D)} {vs : List (Str × V)} : Rel K ad H d v → RelF K ad H fs vs → RelF K ad H ((f, d) :: fs) ((f, v) :: vs)
theorem RelF.wr {K : PySem.W.Frag} {ad ad' : List Addr} {H H' : Hp} (w : Wr ad H ad' H') : ∀ {fs : List (Str × D)} {vs : List (Str × V)}, RelF K ad H fs vs → RelF K ad' H' fs vs
  | _, _, .nil => .nil
  | _, _, .cons r t => .cons (Rel.wr w r) (RelF.wr w t)
theorem RelF.look {K : PySem.W.Frag} {ad : List Addr} {H : Hp} {f : Str} : ∀ {fs : List (Str × D)} {vs : List (Str × V)} {d : D}, RelF K ad H fs vs → fs.lookup f = some d → ∃ v, vs.lookup f = some v ∧ Rel K ad H d v
  | _, _, d, .nil, e => by simp at e
  | _, _, d, @RelF.cons _ _ _ g x v fs vs r t, e => by
    rw [List.lookup_cons] at e ⊢
    cases h : f == g with
    | true => rw [h] at e; cases e; exact ⟨v, rfl, r⟩
    | false => rw [h] at e; exact RelF.look t e
theorem RelF.put {K : PySem.W.Frag} {ad : List Addr} {H : Hp} {f : Str} {d : D} {v : V} (rd : Rel K ad H d v) : ∀ {fs : List (Str × D)} {vs : List (Str × V)}, RelF K ad H fs vs → RelF K ad H (putD f d fs) (putF f v vs)
  | _, _, .nil => .cons rd .nil
  | _, _, @RelF.cons _ _ _ g x u fs vs r t => by
    show RelF K ad H (if g = f then (g, d) :: fs else (g, x) :: putD f d fs) (if g = f then (g, v) :: vs else (g, u) :: putF f v vs)
    by_cases h : g = f
    · rw [if_pos h, if_pos h]; exact .cons rd t
    · rw [if_neg h, if_neg h]; exact .cons r (RelF.put rd t)
theorem RelF.length {K : PySem.W.Frag} {ad : List Addr} {H : Hp} : ∀ {fs : List (Str × D)} {vs : List (Str × V)}, RelF K ad H fs vs → fs.length = vs.length
  | _, _, .nil => rfl
  | _, _, .cons _ t => congrArg (· + 1) (RelF.length t)
theorem putD_mem {f : Str} {d : D} {q : Str × D} : ∀ {fs : List (Str × D)}, q ∈ putD f d fs → q.1 = f ∨ q ∈ fs
  | [], h => by
    have : q = (f, d) := by simpa [putD] using h
    subst this; exact .inl rfl
  | (g, x) :: fs, h => by
    have h : q ∈ if g = f then (g, d) :: fs else (g, x) :: putD f d fs := h
    by_cases e : g = f
    · rw [if_pos e] at h
      rcases List.mem_cons.mp h with rfl | h
      · exact .inl e
      · exact .inr (List.mem_cons_of_mem _ h)
    · rw [if_neg e] at h
      rcases List.mem_cons.mp h with rfl | h
      · exact .inr (by simp)
      · exact (putD_mem h).imp id (List.mem_cons_of_mem _)
theorem look_mem {f : Str} {d : D} : ∀ {fs : List (Str × D)}, fs.lookup f = some d → ∃ q ∈ fs, q.1 = f
  | [], e => by simp at e
  | (g, x) :: fs, e => by
    rw [List.lookup_cons] at e
    cases h : f == g with
    | true => exact ⟨(g, x), by simp, (eq_of_beq h).symm⟩
    | false =>
      rw [h] at e
      obtain ⟨q, hq, e'⟩ := look_mem e
      exact ⟨q, List.mem_cons_of_mem _ hq, e'⟩
def CellOk (K : PySem.W.Frag) (ad : List Addr) (H : Hp) (a : Addr) : Cell → Prop
  | .lst ds => ∃ vs, H a = some (.lst vs) ∧ RelAll K ad H ds vs
  | .ins c fs => ∃ C dx vs, H a = some (.ins C dx vs) ∧ Cls K C ∧ PySem.W.nsIn K mainGlobals c = some (some (.ref C)) ∧ RelF K ad H fs vs ∧ ∀ q ∈ fs, NoAttr K C q.1
class Bs where
  ad : List Addr
  H : Hp
structure StOk [B : Bs] (K : PySem.W.Frag) (ad : List Addr) (H : Hp) (S : Sto) : Prop where
  wd : Wd B.ad B.H ad H
  len : ad.length = S.length
  nd : ad.Nodup
  cell : ∀ (n : Nat) (a : Addr) (c : Cell), ad[n]? = some a → S[n]? = some c → CellOk K ad H a c
structure RhoOk (K : PySem.W.Frag) (ad : List Addr) (H : Hp) (ρ : Rho) (σ : L2.St) : Prop where
  len : ρ.length = σ.length
  val : ∀ (i : Nat) (d : D), ρ[i]? = some (some d) → ∃ v, σ[i]? = some (some v) ∧ Rel K ad H d v
theorem RhoOk.wd {K : PySem.W.Frag} {ad ad' : List Addr} {H H' : Hp} {ρ : Rho} {σ : L2.St} (h : RhoOk K ad H ρ σ) (w : Wd ad H ad' H') : RhoOk K ad' H' ρ σ :=
  ⟨h.len, fun i d e => let ⟨v, e', r⟩ := h.val i d e; ⟨v, e', r.wd w⟩⟩
variable [B : Bs]
section
variable {K : PySem.W.Frag} {ad : List Addr} {H : Hp} {S : Sto}
theorem StOk.get (st : StOk K ad H S) {n : Nat} {c : Cell} (h : S[n]? = some c) : ∃ a, ad[n]? = some a ∧ CellOk K ad H a c := by
  have hn : n < ad.length := by rw [st.len]; exact My.lt_of_get h
  exact ⟨ad[n], List.getElem?_eq_getElem hn, st.cell n _ c (List.getElem?_eq_getElem hn) h⟩
theorem CellOk.some {a : Addr} {c : Cell} (h : CellOk K ad H a c) : ∃ o, H a = some o := by
  cases c with
  | lst ds => obtain ⟨vs, e, _⟩ := h; exact ⟨_, e⟩
  | ins c fs => obtain ⟨C, dx, vs, e, _⟩ := h; exact ⟨_, e⟩
theorem StOk.there (st : StOk K ad H S) {a : Addr} (h : a ∈ ad) : ∃ o, H a = some o := by
  obtain ⟨n, hn, e⟩ := List.mem_iff_getElem.mp h
  have e' : ad[n]? = some a := by rw [List.getElem?_eq_getElem hn, e]
  have hs : n < S.length := by rw [← st.len]; exact hn
  exact (st.cell n a S[n] e' (List.getElem?_eq_getElem hs)).some
theorem StOk.fresh (st : StOk K ad H S) {l : Addr} (h : H l = none) : l ∉ ad := fun m => by
  obtain ⟨o, e⟩ := st.there m
  rw [h] at e; cases e
theorem CellOk.wr {ad' : List Addr} {H' : Hp} {a : Addr} {c : Cell} (h : CellOk K ad H a c) (w : Wr ad H ad' H') (same : H' a = H a) : CellOk K ad' H' a c := by
  cases c with
  | lst ds => obtain ⟨vs, e, r⟩ := h; exact ⟨vs, same.trans e, RelAll.wr w r⟩
  | ins c fs => obtain ⟨C, dx, vs, e, c1, c2, r, n⟩ := h; exact ⟨C, dx, vs, same.trans e, c1, c2, RelF.wr w r, n⟩
theorem CellOk.wd {ad' : List Addr} {H' : Hp} {a : Addr} {c : Cell} (h : CellOk K ad H a c) (w : Wd ad H ad' H') (same : H' a = H a) : CellOk K ad' H' a c := h.wr w.wr same
theorem Wd.laid {l : Addr} {o : HO} (h : H l = none) : Wd ad H ad (upd H l o) :=
  ⟨List.prefix_refl _, fun b u _ e => keepN h e, fun b u e => keepN h e, fun b u w e => keepN h e, fun _ m n => absurd m n⟩
theorem StOk.bfree (st : StOk K ad H S) {p : Addr} (h : H p = none) : B.H p = none := by
  cases e : B.H p with
  | none => rfl
  | some o =>
    by_cases m : p ∈ B.ad
    · obtain ⟨u, hu⟩ := st.there (st.wd.pre.subset m)
      rw [h] at hu; cases hu
    · rw [st.wd.keep p o m e] at h; cases h
theorem StOk.laid (st : StOk K ad H S) {l : Addr} {o : HO} (h : H l = none) : StOk K ad (upd H l o) S :=
  ⟨st.wd.trans (Wd.laid h), st.len, st.nd, fun n a c e1 e2 => (st.cell n a c e1 e2).wd (Wd.laid h) (by
    obtain ⟨u, e⟩ := (st.cell n a c e1 e2).some
    rw [keepN h e, e])⟩
theorem Wd.newL (st : StOk K ad H S) {l : Addr} {o : HO} (h : H l = none) : Wd ad H (ad ++ [l]) (upd H l o) :=
  ⟨List.prefix_append _ _, fun b u _ e => keepN h e, fun b u e => keepN h e, fun b u w e => keepN h e, fun b m n => by
    rcases List.mem_append.mp m with m | m
    · exact absurd m n
    · have : b = l := by simpa using m
      subst this; exact h⟩
theorem StOk.newL (st : StOk K ad H S) {l : Addr} {vs : List V} {ds : List D} (h : H l = none) (r : RelAll K ad H ds vs) : StOk K (ad ++ [l]) (upd H l (.lst vs)) (S ++ [.lst ds]) where
  wd := st.wd.trans (Wd.newL st h)
  len := by rw [List.length_append, List.length_append, st.len]; rfl
  nd := by
    rw [List.nodup_append]
    refine ⟨st.nd, by simp, fun a ha b hb e => ?_⟩
    have : b = l := by simpa using hb
    subst this; subst e
    exact st.fresh h ha
  cell := fun n a c e1 e2 => by
    by_cases hn : n < ad.length
    · rw [List.getElem?_append_left hn] at e1
      rw [List.getElem?_append_left (by rw [← st.len]; exact hn)] at e2
      have ok := st.cell n a c e1 e2
      obtain ⟨u, e⟩ := ok.some
      exact ok.wd (Wd.newL st h) (by rw [keepN h e, e])
    · have hn' : ad.length ≤ n := Nat.le_of_not_lt hn
      rw [List.getElem?_append_right hn'] at e1
      rw [List.getElem?_append_right (by rw [← st.len]; exact hn'), ← st.len] at e2
      cases hk : n - ad.length with
      | zero =>
        rw [hk] at e1 e2
        have e1' : l = a := by simpa using e1
        have e2' : Cell.lst ds = c := by simpa using e2
        subst e1' e2'
        exact ⟨vs, upd_same, r.wd (Wd.newL st h)⟩
      | succ k => rw [hk] at e1; simp at e1
theorem StOk.newRef (st : StOk K ad H S) {l : Addr} {o : HO} : Rel K (ad ++ [l]) (upd H l o) (.ref S.length) (.ref l) := .ref (by rw [← st.len, List.getElem?_append_right (Nat.le_refl _), Nat.sub_self]; rfl)
theorem Wd.put {n : Nat} {a : Addr} {vs ws : List V} (e : ad[n]? = some a) (h : H a = some (.lst vs)) : Wd ad H ad (upd H a (.lst ws)) :=
  ⟨List.prefix_refl _, fun b u hb q => by
      have : b ≠ a := fun z => hb (by rw [z]; exact List.mem_of_getElem? e)
      rw [upd_ne this]; exact q,
    fun b xs q => by rw [upd_ne (ne_of q h (by intro z; cases z))]; exact q, fun b o u q => by rw [upd_ne (ne_of q h (by intro z; cases z))]; exact q, fun _ m n => absurd m n⟩
theorem StOk.put (st : StOk K ad H S) {n : Nat} {a : Addr} {vs ws : List V} {ds : List D} (e : ad[n]? = some a) (h : H a = some (.lst vs)) (r : RelAll K ad H ds ws) : StOk K ad (upd H a (.lst ws)) (S.set n (.lst ds)) where
  wd := st.wd.trans (Wd.put e h)
  len := by rw [List.length_set]; exact st.len
  nd := st.nd
  cell := fun m b c e1 e2 => by
    have w := Wd.put (ws := ws) e h
    by_cases hm : m = n
    · subst hm
      rw [e] at e1; cases e1
      rw [List.getElem?_set_self (by rw [← st.len]; exact My.lt_of_get e)] at e2
      cases e2
      exact ⟨ws, upd_same, r.wd w⟩
    · rw [List.getElem?_set_ne (Ne.symm hm)] at e2
      have ne : b ≠ a := fun z => by
        subst z
        have h1 := My.lt_of_get e1
        have h2 := My.lt_of_get e
        have q1 := (List.getElem?_eq_some_iff.mp e1).2
        have q2 := (List.getElem?_eq_some_iff.mp e).2
        exact hm ((List.getElem_inj st.nd).mp (q1.trans q2.symm))
      exact (st.cell m b c e1 e2).wd w (upd_ne ne)
theorem StOk.newI (st : StOk K ad H S) {x dx C : Addr} {c : Str} (h : H x = none) (h2 : H dx = none) (hne : dx ≠ x) (hc : Cls K C) (hn : PySem.W.nsIn K mainGlobals c = some (some (.ref C))) :
    Wd ad H (ad ++ [x]) (upd (upd H dx (.own x)) x (.ins C dx [])) ∧ StOk K (ad ++ [x]) (upd (upd H dx (.own x)) x (.ins C dx [])) (S ++ [.ins c []]) := by
  have st1 := st.laid (o := .own x) h2
  have hx : upd H dx (.own x) x = none := by rw [upd_ne (Ne.symm hne)]; exact h
  have w1 : Wd ad H ad (upd H dx (.own x)) := Wd.laid h2
  have w2 : Wd ad (upd H dx (.own x)) (ad ++ [x]) (upd (upd H dx (.own x)) x (.ins C dx [])) := Wd.newL st1 hx
  refine ⟨w1.trans w2, st.wd.trans (w1.trans w2), ?_, ?_, fun n a c' e1 e2 => ?_⟩
  · rw [List.length_append, List.length_append, st.len]; rfl
  · rw [List.nodup_append]
    refine ⟨st.nd, by simp, fun a ha b hb e => ?_⟩
    have : b = x := by simpa using hb
    subst this; subst e
    exact st.fresh h ha
  · by_cases hn' : n < ad.length
    · rw [List.getElem?_append_left hn'] at e1
      rw [List.getElem?_append_left (by rw [← st.len]; exact hn')] at e2
      have ok := st1.cell n a c' e1 e2
      obtain ⟨u, e⟩ := ok.some
      exact ok.wd w2 (by rw [keepN hx e, e])
    · have hn' : ad.length ≤ n := Nat.le_of_not_lt hn'
      rw [List.getElem?_append_right hn'] at e1
      rw [List.getElem?_append_right (by rw [← st.len]; exact hn'), ← st.len] at e2
      cases hk : n - ad.length with
      | zero =>
        rw [hk] at e1 e2
        have e1' : x = a := by simpa using e1
        have e2' : Cell.ins c [] = c' := by simpa using e2
        subst e1' e2'
        exact ⟨C, dx, [], upd_same, hc, hn, .nil, fun q hq => by cases hq⟩
      | succ k => rw [hk] at e1; simp at e1
theorem Wd.putI {n : Nat} {a C dx C' dx' : Addr} {vs ws : List (Str × V)} (e : ad[n]? = some a) (h : H a = some (.ins C dx vs)) : Wd ad H ad (upd H a (.ins C' dx' ws)) :=
  ⟨List.prefix_refl _, fun b u hb q => by
      have : b ≠ a := fun z => hb (by rw [z]; exact List.mem_of_getElem? e)
      rw [upd_ne this]; exact q,
    fun b xs q => by rw [upd_ne (ne_of q h (by intro z; cases z))]; exact q, fun b o u q => by rw [upd_ne (ne_of q h (by intro z; cases z))]; exact q, fun _ m n => absurd m n⟩
theorem StOk.putI (st : StOk K ad H S) {n : Nat} {a C dx : Addr} {c f : Str} {vs : List (Str × V)} {fs : List (Str × D)} {d : D} {v : V} (e : ad[n]? = some a) (h : H a = some (.ins C dx vs)) (hc : Cls K C) (hn : PySem.W.nsIn K mainGlobals c = some (some (.ref C))) (rf : RelF K ad H fs vs) (hna : ∀ q ∈ fs, NoAttr K C q.1) (hf : NoAttr K C f) (r : Rel K ad H d v) :
    StOk K ad (upd H a (.ins C dx (putF f v vs))) (S.set n (.ins c (putD f d fs))) where
  wd := st.wd.trans (Wd.putI e h)
  len := by rw [List.length_set]; exact st.len
  nd := st.nd
  cell := fun m b c' e1 e2 => by
    have w : Wd ad H ad (upd H a (.ins C dx (putF f v vs))) := Wd.putI e h
    by_cases hm : m = n
    · subst hm
      rw [e] at e1; cases e1
      rw [List.getElem?_set_self (by rw [← st.len]; exact My.lt_of_get e)] at e2
      cases e2
      refine ⟨C, dx, _, upd_same, hc, hn, RelF.wr w.wr (RelF.put r rf), fun q hq => ?_⟩
      rcases putD_mem hq with h1 | h1
      · rw [h1]; exact hf
      · exact hna q h1
    · rw [List.getElem?_set_ne (Ne.symm hm)] at e2
      have ne : b ≠ a := fun z => by
        subst z
        have q1 := (List.getElem?_eq_some_iff.mp e1).2
        have q2 := (List.getElem?_eq_some_iff.mp e).2
        exact hm ((List.getElem_inj st.nd).mp (q1.trans q2.symm))
      exact (st.cell m b c' e1 e2).wd w (upd_ne ne)
theorem Wd.hid {ad' : List Addr} {H' : Hp} {p : Addr} {o : HO} (w : Wd ad H ad' H') (hp : H p = none) : Wd ad H ad' (upd H' p o) :=
  ⟨w.pre, fun b u hb q => by rw [upd_ne (ne_of_none q hp)]; exact w.keep b u hb q, fun b u q => by rw [upd_ne (ne_of_none q hp)]; exact w.tup b u q, fun b u v q => by rw [upd_ne (ne_of_none q hp)]; exact w.frz b u v q, w.new⟩
theorem Wr.hid {p : Addr} {vs ws : List V} (h : H p = some (.lst vs)) : Wr ad H ad (upd H p (.lst ws)) :=
  ⟨List.prefix_refl _, fun b xs q => by rw [upd_ne (ne_of q h (by intro z; cases z))]; exact q, fun b o u q => by rw [upd_ne (ne_of q h (by intro z; cases z))]; exact q⟩
theorem StOk.hid (st : StOk K ad H S) {p : Addr} {vs ws : List V} (h : H p = some (.lst vs)) (hp : p ∉ ad) (hb : B.H p = none) : StOk K ad (upd H p (.lst ws)) S :=
  ⟨st.wd.hid hb, st.len, st.nd, fun n a c e1 e2 => (st.cell n a c e1 e2).wr (Wr.hid h) (upd_ne fun z => hp (by rw [← z]; exact List.mem_of_getElem? e1))⟩
theorem Wd.add {ad' : List Addr} {H' : Hp} {p : Addr} (w : Wd ad H ad' H') (hp : H p = none) : Wd ad H (ad' ++ [p]) H' :=
  ⟨w.pre.trans (List.prefix_append _ _), w.keep, w.tup, w.frz, fun b m n => by
    rcases List.mem_append.mp m with m | m
    · exact w.new b m n
    · have : b = p := by simpa using m
      subst this; exact hp⟩
theorem StOk.add (st : StOk K ad H S) {p : Addr} {vs : List V} {ds : List D} (h : H p = some (.lst vs)) (hp : p ∉ ad) (r : RelAll K ad H ds vs) (hb : B.H p = none) : StOk K (ad ++ [p]) H (S ++ [.lst ds]) where
  wd := st.wd.add hb
  len := by rw [List.length_append, List.length_append, st.len]; rfl
  nd := by
    rw [List.nodup_append]
    refine ⟨st.nd, by simp, fun a ha b hb e => ?_⟩
    have : b = p := by simpa using hb
    subst this; subst e
    exact hp ha
  cell := fun n a c e1 e2 => by
    have w : Wr ad H (ad ++ [p]) H := ⟨List.prefix_append _ _, fun _ _ q => q, fun _ _ _ q => q⟩
    by_cases hn : n < ad.length
    · rw [List.getElem?_append_left hn] at e1
      rw [List.getElem?_append_left (by rw [← st.len]; exact hn)] at e2
      exact (st.cell n a c e1 e2).wr w rfl
    · have hn' : ad.length ≤ n := Nat.le_of_not_lt hn
      rw [List.getElem?_append_right hn'] at e1
      rw [List.getElem?_append_right (by rw [← st.len]; exact hn'), ← st.len] at e2
      cases hk : n - ad.length with
      | zero =>
        rw [hk] at e1 e2
        have e1' : p = a := by simpa using e1
        have e2' : Cell.lst ds = c := by simpa using e2
        subst e1' e2'
        exact ⟨vs, h, RelAll.wr w r⟩
      | succ k => rw [hk] at e1; simp at e1
theorem Lst.sq (st : StOk K ad H S) {x : D} {xs : List D} {v : V} (h : Lst S x xs) (r : Rel K ad H x v) : ∃ a vs, v = .ref a ∧ SqL K H a vs ∧ RelAll K ad H xs vs := by
  rcases h with rfl | ⟨n, rfl, h⟩
  · cases r with
    | rl h r => exact ⟨_, _, rfl, h.sq, r⟩
  · cases r with
    | ref e =>
      obtain ⟨vs, e2, r⟩ := st.cell n _ _ e h
      exact ⟨_, vs, rfl, SqL.of e2, r⟩
theorem Seqs.sq (st : StOk K ad H S) {x : D} {xs : List D} {v : V} (h : Seqs S x xs) (r : Rel K ad H x v) : ∃ a vs, v = .ref a ∧ (SqL K H a vs ∨ SqT K H a vs) ∧ RelAll K ad H xs vs := by
  rcases h with rfl | h
  · cases r with
    | tup h r => exact ⟨_, _, rfl, .inr (SqT.of h), r⟩
  · obtain ⟨a, vs, e, s, r⟩ := Lst.sq st h r
    exact ⟨a, vs, e, .inl s, r⟩
end
omit B in
theorem el8 {a b c d : Type} {p1 p2 p3 p4 : a → b → c → d → Prop} {R : Prop} (h : ∃ (x : a) (y : b) (z : c) (w : d), p1 x y z w ∧ p2 x y z w ∧ p3 x y z w ∧ p4 x y z w) (f : ∀ (x : a) (y : b) (z : c) (w : d), p1 x y z w → p2 x y z w → p3 x y z w → p4 x y z w → R) : R :=
  Exists.elim h fun x h => Exists.elim h fun y h => Exists.elim h fun z h => Exists.elim h fun w h => f x y z w h.1 h.2.1 h.2.2.1 h.2.2.2
def KK (K : PySem.W.Frag) (ad : List Addr) (H : Hp) (Q0 : DK) (Q : VK) : Prop := ∀ d S' v H' ad', Q0 d S' → Wd ad H ad' H' → StOk K ad' H' S' → Rel K ad' H' d v → Q v H'
theorem KK.wd {K : PySem.W.Frag} {ad ad' : List Addr} {H H' : Hp} {Q0 : DK} {Q : VK} (k : KK K ad H Q0 Q) (w : Wd ad H ad' H') : KK K ad' H' Q0 Q := fun d S' v H' ad' q w' => k d S' v H' ad' q (w.trans w')
def up (K : PySem.W.Frag) (t : DE) : TE := fun σ H Q => ∃ ad ρ S Q0, StOk K ad H S ∧ RhoOk K ad H ρ σ ∧ t ρ S Q0 ∧ KK K ad H Q0 Q
def upT (K : PySem.W.Frag) (t : DT) : TT := fun σ H Q => ∃ ad ρ S Q0, StOk K ad H S ∧ RhoOk K ad H ρ σ ∧ t ρ S Q0 ∧ ∀ b S' H' ad', Q0 b S' → Wd ad H ad' H' → StOk K ad' H' S' → Q b H'
def upA (K : PySem.W.Frag) (t : DA) : TA := fun σ H Q => ∃ ad ρ S Q0, StOk K ad H S ∧ RhoOk K ad H ρ σ ∧ t ρ S Q0 ∧ ∀ ds S' vs H' ad', Q0 ds S' → Wd ad H ad' H' → StOk K ad' H' S' → RelAll K ad' H' ds vs → Q vs H'
theorem StOk.base {K : PySem.W.Frag} {ad : List Addr} {H : Hp} {S : Sto} (st : StOk K ad H S) : @StOk ⟨ad, H⟩ K ad H S := @StOk.mk ⟨ad, H⟩ _ _ _ _ Wd.refl st.len st.nd st.cell
theorem StOk.back {K : PySem.W.Frag} {ad ad' : List Addr} {H H' : Hp} {S S' : Sto} (st : StOk K ad H S) (st' : @StOk ⟨ad, H⟩ K ad' H' S') : StOk K ad' H' S' :=
  ⟨st.wd.trans (@StOk.wd ⟨ad, H⟩ _ _ _ _ st'), @StOk.len ⟨ad, H⟩ _ _ _ _ st', @StOk.nd ⟨ad, H⟩ _ _ _ _ st', @StOk.cell ⟨ad, H⟩ _ _ _ _ st'⟩
theorem KK.base {K : PySem.W.Frag} {ad : List Addr} {H : Hp} {S : Sto} {Q0 : DK} {Q : VK} (st : StOk K ad H S) (k : KK K ad H Q0 Q) : @KK ⟨ad, H⟩ K ad H Q0 Q := fun d S' v H' ad' q w st' r => k d S' v H' ad' q w (st.back st') r
def upF (K : PySem.W.Frag) (f : DSp) : Sp := fun vs H Q _ => ∃ ad S ds Q0, @StOk ⟨ad, H⟩ K ad H S ∧ RelAll K ad H ds vs ∧ f ds S Q0 ∧ @KK ⟨ad, H⟩ K ad H Q0 Q
structure EndsOk (K : PySem.W.Frag) (ad : List Addr) (H : Hp) (E0 : DEnds) (E : Ends) : Prop where
  nx : ∀ ρ S σ H' ad', E0.nx ρ S → Wd ad H ad' H' → StOk K ad' H' S → RhoOk K ad' H' ρ σ → E.nx σ H'
  rt : KK K ad H E0.rt E.rt
  bk : ∀ ρ S σ H' ad', E0.bk ρ S → Wd ad H ad' H' → StOk K ad' H' S → RhoOk K ad' H' ρ σ → E.bk σ H'
  ct : ∀ ρ S σ H' ad', E0.ct ρ S → Wd ad H ad' H' → StOk K ad' H' S → RhoOk K ad' H' ρ σ → E.ct σ H'
theorem EndsOk.wd {K : PySem.W.Frag} {ad ad' : List Addr} {H H' : Hp} {E0 : DEnds} {E : Ends} (k : EndsOk K ad H E0 E) (w : Wd ad H ad' H') : EndsOk K ad' H' E0 E :=
  ⟨fun ρ S σ H' ad' q w' => k.nx ρ S σ H' ad' q (w.trans w'), k.rt.wd w, fun ρ S σ H' ad' q w' => k.bk ρ S σ H' ad' q (w.trans w'), fun ρ S σ H' ad' q w' => k.ct ρ S σ H' ad' q (w.trans w')⟩
def upS (K : PySem.W.Frag) (t : DS) : TS := fun E σ H => ∃ ad ρ S E0, StOk K ad H S ∧ RhoOk K ad H ρ σ ∧ t E0 ρ S ∧ EndsOk K ad H E0 E
def PD (X : Cx) (e : Expr) (t : DE) : Prop := PE X e (up X.K t)
def PTD (X : Cx) (e : Expr) (t : DT) : Prop := PT X e (upT X.K t)
def PWD (X : Cx) (e : Expr) (t : DT) : Prop := PW X e (upT X.K t)
def PAD (X : Cx) (es : List Expr) (t : DA) : Prop := PA X es (upA X.K t)
def PSD (X : Cx) (st : Stmt) (t : DS) : Prop := PS X st (upS X.K t)
def PSsD (X : Cx) (st : List Stmt) (t : DS) : Prop := PSs X st (upS X.K t)
theorem pe_mono {X : Cx} {e : Expr} {t t' : TE} (h : PE X e t) (m : ∀ σ H Q, t' σ H Q → t σ H Q) : PE X e t' := fun pins s σ H Q I q => h pins s σ H Q I (m σ H Q q)
theorem pt_mono {X : Cx} {e : Expr} {t t' : TT} (h : PT X e t) (m : ∀ σ H Q, t' σ H Q → t σ H Q) : PT X e t' := fun pins s σ H Q I q => h pins s σ H Q I (m σ H Q q)
theorem pw_mono {X : Cx} {e : Expr} {t t' : TT} (h : PW X e t) (m : ∀ σ H Q, t' σ H Q → t σ H Q) : PW X e t' := fun wh pins s σ H Q I q => h wh pins s σ H Q I (m σ H Q q)
theorem pa_mono {X : Cx} {e : List Expr} {t t' : TA} (h : PA X e t) (m : ∀ σ H Q, t' σ H Q → t σ H Q) : PA X e t' := fun pos pins s σ H Q I q => h pos pins s σ H Q I (m σ H Q q)
theorem ps_mono {X : Cx} {st : Stmt} {t t' : TS} (h : PS X st t) (m : ∀ D σ H, t' D σ H → t D σ H) : PS X st t' := fun pins s σ H D I q => h pins s σ H D I (m D σ H q)
theorem pss_mono {X : Cx} {st : List Stmt} {t t' : TS} (h : PSs X st t) (m : ∀ D σ H, t' D σ H → t D σ H) : PSs X st t' := fun pins s σ H D I q => h pins s σ H D I (m D σ H q)
section
variable {X : Cx} {a b c : Expr} {ta tb tc : DE} {pos : Pos}
theorem pd_of {e : Expr} {t : TE} {d : DE} (h : PE X e t) (m : ∀ σ H Q, up X.K d σ H Q → t σ H Q) : PD X e d := pe_mono h m
theorem pd_var {e : Expr} {i : Nat} (h : PE X e (tVar i)) : PD X e (dVar i) := pd_of h fun σ H Q ⟨ad, ρ, S, Q0, st, rh, ⟨d, e, q⟩, k⟩ => by
  obtain ⟨v, ev, r⟩ := rh.val i d e
  exact ⟨v, ev, k d S v H ad q Wd.refl st r⟩
theorem pd_c {e : Expr} {v : V} {d : D} (h : PE X e (tC v)) (r : ∀ ad H, Rel X.K ad H d v) : PD X e (dC d) := pd_of h fun σ H Q hh => el8 hh fun ad ρ S Q0 st rh q k => k d S v H ad q Wd.refl st (r _ _)
theorem pd_int {i j} : PD X (.Constant (.int i) j pos) (dC (.int i)) := pd_c pe_int fun _ _ => .int i
theorem pd_bl {b j} : PD X (.Constant (.bool b) j pos) (dC (.bl b)) := pd_c pe_bl fun _ _ => .bl b
theorem pd_non {j} : PD X (.Constant .none j pos) (dC .non) := pd_c pe_non fun _ _ => .non
theorem pd_str {x j} : PD X (.Constant (.str x) j pos) (dC (.str x)) := pd_c pe_str fun _ _ => .str x
theorem pd_gint {x : Str} {n : Int} (hg : Gl X x) (hm : ∃ t, X.mg x = some (.int n t)) (hd : (x == ("__debug__" : Str)) = false := by decide) : PD X (.Name x pos) (dC (.int n)) := pd_c (pe_gint hg hm hd) fun _ _ => .int n
theorem pd_powc {i j : Int} {m n : Nat} {p1 p2 : Pos} (c : Int) (h : i ^ j.toNat = c) (h0 : 0 ≤ j ∧ j ≤ 1000000 ∧ i.natAbs < 2 ^ 64) : PD X (.BinOp (.Constant (.int i) m p1) .Pow (.Constant (.int j) n p2) pos) (dC (.int c)) := pd_c (pe_powc c h h0) fun _ _ => .int c
def OD (K : PySem.W.Frag) (r' : DR2) (r : R2) : Prop := ∀ ad H S x y v u Q0 Q, StOk K ad H S → Rel K ad H x v → Rel K ad H y u → r' x y S Q0 → KK K ad H Q0 Q → r v u H Q
theorem up_op {K : PySem.W.Frag} {r' : DR2} {r : R2} (o : OD K r' r) {σ : L2.St} {H : Hp} {Q : VK} (h : up K (dOp r' ta tb) σ H Q) : tOp r (up K ta) (up K tb) σ H Q := by
  obtain ⟨ad, ρ, S, Q0, st, rh, q, k⟩ := h
  refine ⟨ad, ρ, S, _, st, rh, q, fun x S1 v H1 ad1 q1 w1 st1 r1 => ?_⟩
  refine ⟨ad1, ρ, S1, _, st1, rh.wd w1, q1, fun y S2 u H2 ad2 q2 w2 st2 r2 => ?_⟩
  exact o ad2 H2 S2 x y v u Q0 Q st2 (r1.wd w2) r2 q2 (k.wd (w1.trans w2))
theorem pd_op {op : Operator} {r' : DR2} {r : R2} (ho : OpR X (binaryOp op) r) (o : OD X.K r' r) (ha : PD X a ta) (hb : PD X b tb) : PD X (.BinOp a op b pos) (dOp r' ta tb) := pd_of (pe_op ho ha hb) fun _ _ _ => up_op o
theorem od_I {K : PySem.W.Frag} {C C' : Int → Int → Prop} {g : Int → Int → D} {g' : Int → Int → V} (hc : ∀ i j, C i j → C' i j) (hg : ∀ ad H i j, Rel K ad H (g i j) (g' i j)) : OD K (oI C g) (rI C' g') := fun ad H S x y v u Q0 Q st rx ry ⟨i, j, ex, ey, c, q⟩ k => by
  subst ex ey
  cases rx
  cases ry
  exact ⟨i, j, rfl, rfl, hc i j c, k _ S _ H ad q Wd.refl st (hg ad H i j)⟩
theorem od_I0 {K : PySem.W.Frag} {g : Int → Int → D} {g' : Int → Int → V} (hg : ∀ ad H i j, Rel K ad H (g i j) (g' i j)) : OD K (oI0 g) (rI0 g') := fun ad H S x y v u Q0 Q st rx ry ⟨i, j, ex, ey, q⟩ k => by
  subst ex ey
  cases rx
  cases ry
  exact ⟨i, j, rfl, rfl, k _ S _ H ad q Wd.refl st (hg ad H i j)⟩
theorem bits64 {i : Int} (h : i.natAbs < 2 ^ 64) : -(2 ^ 64) < i ∧ i < 2 ^ 64 := ⟨by omega, by omega⟩
def CMulE (i j : Int) : Prop := CMulD i j
theorem op_mulE : OpR X (binaryOp .Mult) (rI CMulE fun i j => .int (i * j)) := opI fun i j _ _ _ _ _ hc q => by
  rcases hc with h | h | h
  · exact mul_int q (IntMulOk.of_bits (bits_of_bd h.1) (bits_of_bd h.2))
  · exact mul_int q (CMul.ok (.inl (bits64 h)))
  · exact mul_int q (CMul.ok (.inr (bits64 h)))
theorem pd_sub (ha : PD X a ta) (hb : PD X b tb) : PD X (.BinOp a .Sub b pos) (dOp oSub ta tb) := pd_op op_sub (od_I0 fun _ _ i j => .int (i - j)) ha hb
theorem mul_ok {z : Str} {n : Int} (hz : z.length ≤ 1000) (h0 : -1000 ≤ n) (h1 : n ≤ 1000) : MulOk z n := by
  refine ⟨?_, fun _ _ => ?_, fun h _ => ?_⟩
  · rw [decide_eq_false (by omega), decide_eq_false (by omega)]; rfl
  · have : (1000 : Int) ≤ (2 ^ 63 - 1) / n ∨ n < 1 := by
      rcases Int.lt_or_le n 1 with g | g
      · exact .inr g
      · exact .inl ((Int.le_ediv_iff_mul_le (by omega)).mpr (by omega))
    omega
  · have : z.length * n.toNat ≤ 1000 * 1000 := Nat.mul_le_mul hz (by omega)
    have hs : z.length * n.toNat ≤ sizeLine := Nat.le_trans this (by decide)
    first
      | exact decide_eq_false (by omega)
      | (unfold tooLong; exact decide_eq_false (by omega))
      | simp [tooLong]; omega
theorem op_mulS : OpR X (binaryOp .Mult) (fun x y H Q => ∃ z n, x = .str z ∧ y = .int n ∧ MulOk z n ∧ Q (.str (Txt.mul z n)) H) := by
  intro pins s σ H x y v u Q I rx ry h
  obtain ⟨z, n, rfl, rfl, ok, q⟩ := h
  obtain ⟨t, rfl⟩ := rx
  obtain ⟨t', rfl⟩ := ry
  exact SB.mul ok fun t' k => ⟨.str (Txt.mul z n), H, I.tok _, ⟨_, rfl⟩, q⟩
theorem pd_mul (ha : PD X a ta) (hb : PD X b tb) : PD X (.BinOp a .Mult b pos) (dOp oMul ta tb) := pd_op (op_mulE.or op_mulS) (fun ad H S x y v u Q0 Q st rx ry h k => by
  rcases h with h | ⟨z, n, rfl, rfl, hz, h0, h1, q⟩
  · exact .inl (od_I (fun _ _ h => h) (fun _ _ i j => .int (i * j)) ad H S x y v u Q0 Q st rx ry h k)
  · cases rx
    cases ry
    exact .inr ⟨z, n, rfl, rfl, mul_ok hz h0 h1, k _ S _ H ad q Wd.refl st (.str _)⟩) ha hb
theorem pd_div (ha : PD X a ta) (hb : PD X b tb) : PD X (.BinOp a .FloorDiv b pos) (dOp oDiv ta tb) := pd_op op_fdivB (od_I (fun _ _ h => h) fun _ _ i j => .int (i.fdiv j)) ha hb
theorem pd_mod (ha : PD X a ta) (hb : PD X b tb) : PD X (.BinOp a .Mod b pos) (dOp oMod ta tb) := pd_op op_modB (od_I (fun _ _ h => h) fun _ _ i j => .int (i.fmod j)) ha hb
theorem big_le {n : Nat} (h : n ≤ big) : n ≤ sizeLine := Nat.le_trans h (by decide)
theorem big_lt {n : Nat} (h : n < big) : n < sizeLine := Nat.lt_of_lt_of_le h (by decide)
theorem newL_k {K : PySem.W.Frag} {ad : List Addr} {H : Hp} {S : Sto} {Q0 : DK} {Q : VK} {ds : List D} {vs : List V} (st : StOk K ad H S) (k : KK K ad H Q0 Q) (r : RelAll K ad H ds vs) (q : Q0 (.ref S.length) (S ++ [.lst ds])) (l : Addr) (h : H l = none) : Q (.ref l) (upd H l (.lst vs)) :=
  k _ _ _ _ _ q (Wd.newL st h) (st.newL h r) st.newRef
theorem newT_k {K : PySem.W.Frag} {ad : List Addr} {H : Hp} {S : Sto} {Q0 : DK} {Q : VK} {ds : List D} {vs : List V} (st : StOk K ad H S) (k : KK K ad H Q0 Q) (r : RelAll K ad H ds vs) (q : Q0 (.tup ds) S) (l : Addr) (h : H l = none) : Q (.ref l) (upd H l (.tup vs)) :=
  k _ _ _ _ _ q (Wd.laid h) (st.laid h) (.tup upd_same (r.wd (Wd.laid h)))
theorem pd_add (ha : PD X a ta) (hb : PD X b tb) : PD X (.BinOp a .Add b pos) (dOp oAdd ta tb) :=
  pd_op (op_add.or ((op_catT2 rfl).or ((op_catK rfl).or op_add_str))) (fun ad H S x y v u Q0 Q st rx ry h k => by
    rcases h with ⟨i, j, rfl, rfl, q⟩ | ⟨xs, ys, rfl, rfl, hz, q⟩ | ⟨xs, ys, hx, hy, hz, q⟩ | ⟨i, j, rfl, rfl, hz, q⟩
    · cases rx
      cases ry
      exact .inl ⟨i, j, rfl, rfl, k _ S _ H ad q Wd.refl st (.int _)⟩
    · cases rx with
      | tup h1 r1 =>
        cases ry with
        | tup h2 r2 =>
          have l1 := r1.length
          have l2 := r2.length
          refine .inr (.inl ⟨_, _, _, _, rfl, rfl, SqT.of h1, SqT.of h2, by rw [← l1, ← l2]; exact big_le hz, fun e => ?_, fun _ e => ?_, fun _ _ p hp => newT_k st k (r1.append r2) q p hp⟩)
          · have e' : xs = [] := List.length_eq_zero_iff.mp (by rw [l1, e]; rfl)
            subst e'
            exact k _ S _ H ad q Wd.refl st (.tup h2 r2)
          · have e' : ys = [] := List.length_eq_zero_iff.mp (by rw [l2, e]; rfl)
            subst e'
            rw [List.append_nil] at q
            exact k _ S _ H ad q Wd.refl st (.tup h1 r1)
    · obtain ⟨a1, vs1, rfl, s1, r1⟩ := hx.sq st rx
      obtain ⟨a2, vs2, rfl, s2, r2⟩ := hy.sq st ry
      exact .inr (.inr (.inl ⟨_, _, _, _, rfl, rfl, s1, s2, by rw [← r1.length, ← r2.length]; exact big_le hz, fun p hp => newL_k st k (r1.append r2) q p hp⟩))
    · cases rx
      cases ry
      exact .inr (.inr (.inr ⟨i, j, rfl, rfl, big_le hz, k _ S _ H ad q Wd.refl st (.str _)⟩))) ha hb
theorem pd_neg (ha : PD X a ta) : PD X (.UnaryOp .USub a pos) (dUn oNeg ta) := pd_of (pe_un un_neg ha) fun σ H Q hh => el8 hh fun ad ρ S Q0 st rh q k => by
  refine ⟨ad, ρ, S, _, st, rh, q, fun x S1 v H1 ad1 q1 w1 st1 r1 => ?_⟩
  obtain ⟨i, rfl, q1⟩ := q1
  cases r1
  exact ⟨i, rfl, k _ _ _ _ _ q1 w1 st1 (.int _)⟩
def OC (X : Cx) (op : CmpOp) (r' : DR2) : Prop := ∃ r, OpR X (compareOp op) r ∧ OD X.K r' r
theorem od_Lt : OC X .Lt oLt := ⟨_, op_lt, od_I0 fun _ _ _ _ => .bl _⟩
theorem od_Le : OC X .LtE oLe := ⟨_, op_le, od_I0 fun _ _ _ _ => .bl _⟩
theorem od_Gt : OC X .Gt oGt := ⟨_, op_gt, od_I0 fun _ _ _ _ => .bl _⟩
theorem od_Ge : OC X .GtE oGe := ⟨_, op_ge, od_I0 fun _ _ _ _ => .bl _⟩
mutual
def pyD : D → PyData
  | .non => .none
  | .bl b => .bool b
  | .int i => .int i
  | .str x => .str x
  | .tup xs => .tuple (pyAll xs)
  | .ref _ => .none
  | .ty _ => .none
  | .rl _ => .none
  | .exn _ => .none
def pyAll : List D → List PyData
  | [] => []
  | x :: xs => pyD x :: pyAll xs
end
section
variable {pins : List (Addr × Obj)} {σ : L2.St} {H : Hp} {s : Shared} {ad : List Addr}
theorem flat_all (I : Inv X pins σ H s) (k : Nat) (h1 : ∀ d v u, fl k d = true → Rel X.K ad H d v → RelV v u → ∃ as, Reads s.heap u (pyD d) as) : ∀ ds vs us, ds.all (fl k) = true → RelAll X.K ad H ds vs → Vals vs us → ∃ as, ReadsAll s.heap us (pyAll ds) as := by
  intro ds
  induction ds with
  | nil => intro vs us _ r rv; cases r; cases rv; exact ⟨_, .nil⟩
  | cons d ds ih =>
    intro vs us hf r rv
    rw [List.all_cons, Bool.and_eq_true] at hf
    cases r with
    | cons r t =>
      cases rv with
      | cons q qt =>
        obtain ⟨as, ra⟩ := h1 d _ _ hf.1 r q
        obtain ⟨bs, rb⟩ := ih _ _ hf.2 t qt
        exact ⟨_, .cons ra rb⟩
theorem flat_one (I : Inv X pins σ H s) : ∀ (k : Nat) (d : D) (v : V) (u : Value), fl k d = true → Rel X.K ad H d v → RelV v u → ∃ as, Reads s.heap u (pyD d) as := by
  intro k
  induction k with
  | zero =>
    intro d v u hf r q
    cases r with
    | non => cases q; exact ⟨_, .none⟩
    | bl b => cases q; exact ⟨_, .bool b⟩
    | int i => obtain ⟨t, rfl⟩ := q; exact ⟨_, .int i t⟩
    | str x => obtain ⟨t, rfl⟩ := q; exact ⟨_, .str x t⟩
    | ty n => cases hf
    | tup h r => cases hf
    | rl h r => cases hf
    | ref h => cases hf
    | exn _ _ _ => cases hf
  | succ k ih =>
    intro d v u hf r q
    cases r with
    | non => cases q; exact ⟨_, .none⟩
    | bl b => cases q; exact ⟨_, .bool b⟩
    | int i => obtain ⟨t, rfl⟩ := q; exact ⟨_, .int i t⟩
    | str x => obtain ⟨t, rfl⟩ := q; exact ⟨_, .str x t⟩
    | ty n => cases hf
    | tup h r =>
      cases q
      obtain ⟨its, rv, ht, hz⟩ := I.tuple (SqT.of h)
      obtain ⟨o, ho, hc, n, hd⟩ := ht
      obtain ⟨as, ra⟩ := flat_all I k ih _ _ _ hf r rv
      exact ⟨_, .tuple ho hc hd (by simpa using ra)⟩
    | rl h r => cases hf
    | ref h => cases hf
    | exn _ _ _ => cases hf
end
theorem flat_lay : ∀ (k : Nat) (d : D), fl k d = true → (pyD d).canLay0 = true ∧ (pyD d).depth ≤ k := by
  have all : ∀ k, (∀ d, fl k d = true → (pyD d).canLay0 = true ∧ (pyD d).depth ≤ k) → ∀ ds : List D, ds.all (fl k) = true → PyData.canLayAll0 (pyAll ds) = true ∧ PyData.depthAll (pyAll ds) ≤ k := by
    intro k h ds
    induction ds with
    | nil => intro _; exact ⟨rfl, Nat.zero_le _⟩
    | cons d ds ih =>
      intro hf
      rw [List.all_cons, Bool.and_eq_true] at hf
      obtain ⟨a1, a2⟩ := h d hf.1
      obtain ⟨b1, b2⟩ := ih hf.2
      refine ⟨?_, ?_⟩
      · show (PyData.canLay0 (pyD d) && PyData.canLayAll0 (pyAll ds)) = true
        rw [a1, b1]; rfl
      · show max (PyData.depth (pyD d)) (PyData.depthAll (pyAll ds)) ≤ k
        exact Nat.max_le.mpr ⟨a2, b2⟩
  intro k
  induction k with
  | zero =>
    intro d hf
    cases d with
    | non => exact ⟨rfl, Nat.zero_le _⟩
    | bl b => exact ⟨rfl, Nat.zero_le _⟩
    | int i => exact ⟨rfl, Nat.zero_le _⟩
    | str x => exact ⟨hf, Nat.zero_le _⟩
    | tup xs => cases hf
    | ref n => cases hf
    | exn _ => cases hf
    | ty n => cases hf
    | rl xs => cases hf
  | succ k ih =>
    intro d hf
    cases d with
    | non => exact ⟨rfl, Nat.zero_le _⟩
    | bl b => exact ⟨rfl, Nat.zero_le _⟩
    | int i => exact ⟨rfl, Nat.zero_le _⟩
    | str x => exact ⟨hf, Nat.zero_le _⟩
    | tup xs =>
      obtain ⟨h1, h2⟩ := all k ih xs hf
      refine ⟨h1, ?_⟩
      show PyData.depthAll (pyAll xs) + 1 ≤ k + 1
      omega
    | ref n => cases hf
    | exn _ => cases hf
    | ty n => cases hf
    | rl xs => cases hf
theorem flat_layAll (k : Nat) : ∀ ds : List D, ds.all (fl k) = true → PyData.canLayAll0 (pyAll ds) = true ∧ PyData.depthAll (pyAll ds) ≤ k := by
  intro ds
  induction ds with
  | nil => intro _; exact ⟨rfl, Nat.zero_le _⟩
  | cons d ds ih =>
    intro hf
    rw [List.all_cons, Bool.and_eq_true] at hf
    obtain ⟨a1, a2⟩ := flat_lay k d hf.1
    obtain ⟨b1, b2⟩ := ih hf.2
    refine ⟨?_, ?_⟩
    · show (PyData.canLay0 (pyD d) && PyData.canLayAll0 (pyAll ds)) = true
      rw [a1, b1]; rfl
    · show max (PyData.depth (pyD d)) (PyData.depthAll (pyAll ds)) ≤ k
      exact Nat.max_le.mpr ⟨a2, b2⟩
mutual
theorem eqv_py : ∀ (k : Nat) (x y : D), fl k x = true → fl k y = true → PyData.eqv (pyD x) (pyD y) = eqv x y
  | k, .non, y, _, hy => by cases y <;> first | rfl | (cases k <;> cases hy)
  | k, .bl a, y, _, hy => by cases y <;> first | rfl | (cases k <;> cases hy)
  | k, .int i, y, _, hy => by
    cases y with
    | int j => show (i == j) = decide (i = j); rw [Bool.beq_eq_decide_eq]
    | ref n => cases k <;> cases hy
    | exn n => cases k <;> cases hy
    | ty n => cases k <;> cases hy
    | rl n => cases k <;> cases hy
    | _ => rfl
  | k, .str a, y, _, hy => by cases y <;> first | rfl | (cases k <;> cases hy)
  | 0, .tup xs, y, hx, _ => by cases hx
  | k + 1, .tup xs, y, hx, hy => by
    cases y with
    | tup ys => exact eqv_pyAll k xs ys hx hy
    | ref n => cases hy
    | ty n => cases hy
    | rl n => cases hy
    | _ => rfl
  | k, .ref n, y, hx, _ => by cases k <;> cases hx
  | k, .ty n, y, hx, _ => by cases k <;> cases hx
  | k, .rl n, y, hx, _ => by cases k <;> cases hx
  | k, .exn n, y, hx, _ => by cases k <;> cases hx
theorem eqv_pyAll : ∀ (k : Nat) (xs ys : List D), xs.all (fl k) = true → ys.all (fl k) = true → PyData.eqvAll (pyAll xs) (pyAll ys) = eqvAll xs ys
  | k, [], [], _, _ => rfl
  | k, [], y :: ys, _, _ => rfl
  | k, x :: xs, [], _, _ => rfl
  | k, x :: xs, y :: ys, hx, hy => by
    rw [List.all_cons, Bool.and_eq_true] at hx hy
    show (PyData.eqv (pyD x) (pyD y) && PyData.eqvAll (pyAll xs) (pyAll ys)) = (eqv x y && eqvAll xs ys)
    rw [eqv_py k x y hx.1 hy.1, eqv_pyAll k xs ys hx.2 hy.2]
end
def rEqE (X : Cx) (g : Bool → Bool) : R2 := fun x y H Q => ∃ ad S dx dy b, StOk X.K ad H S ∧ Rel X.K ad H dx x ∧ Rel X.K ad H dy y ∧ EqD S dx dy b ∧ Q (.bl (g b)) H
theorem eqd_reads {pins : List (Addr × Obj)} {σ : L2.St} {H : Hp} {s : Shared} {ad : List Addr} {S : Sto} {dx dy : D} {x y : V} {v u : Value} {b : Bool} (I : Inv X pins σ H s) (st : StOk X.K ad H S) (rx : Rel X.K ad H dx x) (ry : Rel X.K ad H dy y) (qx : RelV x v) (qy : RelV y u) (h : EqD S dx dy b) :
    ∃ px py as bs, Reads s.heap v px as ∧ Reads s.heap u py bs ∧ px.canLay0 = true ∧ py.canLay0 = true ∧ min px.depth py.depth ≤ 60 ∧ PyData.eqv px py = b := by
  rcases h with ⟨fx, fy, rfl⟩ | ⟨xs, ys, hx, hy, fx, fy, rfl⟩
  · obtain ⟨as, ra⟩ := flat_one I 20 dx x v fx rx qx
    obtain ⟨bs, rb⟩ := flat_one I 20 dy y u fy ry qy
    obtain ⟨c1, d1⟩ := flat_lay 20 dx fx
    obtain ⟨c2, d2⟩ := flat_lay 20 dy fy
    exact ⟨_, _, as, bs, ra, rb, c1, c2, by omega, eqv_py 20 dx dy fx fy⟩
  · obtain ⟨a1, vs1, rfl, s1, r1⟩ := hx.sq st rx
    obtain ⟨a2, vs2, rfl, s2, r2⟩ := hy.sq st ry
    cases qx
    cases qy
    obtain ⟨its, rv, ht, hz⟩ := I.list s1
    obtain ⟨its2, rv2, ht2, hz2⟩ := I.list s2
    obtain ⟨o, ho, hc, n, hd⟩ := ht.isList
    obtain ⟨o2, ho2, hc2, n2, hd2⟩ := ht2.isList
    obtain ⟨as, ra⟩ := flat_all I 20 (flat_one I 20) _ _ _ fx r1 rv
    obtain ⟨bs, rb⟩ := flat_all I 20 (flat_one I 20) _ _ _ fy r2 rv2
    obtain ⟨c1, d1⟩ := flat_layAll 20 xs fx
    obtain ⟨c2, d2⟩ := flat_layAll 20 ys fy
    refine ⟨.list (pyAll xs), .list (pyAll ys), _, _, .list ho hc hd (by simpa using ra), .list ho2 hc2 hd2 (by simpa using rb), c1, c2, ?_, eqv_pyAll 20 xs ys fx fy⟩
    show min (PyData.depthAll (pyAll xs) + 1) (PyData.depthAll (pyAll ys) + 1) ≤ 60
    omega
theorem od_Eq {k : Nat} (hr : Room k X.A) : OC X .Eq oEq := ⟨rEqE X id, fun pins s σ H x y v u Q I qx qy ⟨ad, S, dx, dy, b, st, rx, ry, h, q⟩ => by
    obtain ⟨px, py, as, bs, ra, rb, c1, c2, hd, e⟩ := eqd_reads I st rx ry qx qy h
    have hu := hr.units
    exact PySem.SeqAt.rcAt_reads ra rb c1 c2 (by omega) X.prog X.w X.xe _ ⟨.bl _, H, I, by rw [e]; rfl, q⟩,
  fun ad H S x y v u Q0 Q st rx ry ⟨b, h, q⟩ k => ⟨ad, S, x, y, b, st, rx, ry, h, k _ S _ H ad q Wd.refl st (.bl _)⟩⟩
theorem od_Ne {k : Nat} (hr : Room k X.A) : OC X .NotEq oNe := ⟨rEqE X (!·), fun pins s σ H x y v u Q I qx qy ⟨ad, S, dx, dy, b, st, rx, ry, h, q⟩ => by
    obtain ⟨px, py, as, bs, ra, rb, c1, c2, hd, e⟩ := eqd_reads I st rx ry qx qy h
    have hu := hr.units
    exact PySem.SeqAt.rcNeAt_reads ra rb c1 c2 (by omega) X.prog X.w X.xe _ ⟨.bl _, H, I, by rw [e]; rfl, q⟩,
  fun ad H S x y v u Q0 Q st rx ry ⟨b, h, q⟩ k => ⟨ad, S, x, y, b, st, rx, ry, h, k _ S _ H ad q Wd.refl st (.bl _)⟩⟩
theorem isNon_rel {K : PySem.W.Frag} {ad : List Addr} {H : Hp} {d : D} {v : V} (r : Rel K ad H d v) : decide (v = .non) = isNon d := by
  cases r <;> rfl
theorem op_isB : OpR X (compareOp .Is) (rB0 fun i j => .bl (i == j)) := fun pins s σ H x y v u Q I rx ry ⟨i, j, ex, ey, q⟩ => by
  subst ex ey
  cases rx
  cases ry
  exact is_bool ⟨.bl _, H, I, rfl, q⟩
theorem od_Is : OC X .Is oIs := ⟨_, opIsN.or op_isB, fun ad H S x y v u Q0 Q st rx ry h k => by
  rcases h with ⟨rfl, q⟩ | ⟨a, b, rfl, rfl, q⟩
  · cases ry
    exact .inl ⟨rfl, by rw [isNon_rel rx]; exact k _ S _ H ad q Wd.refl st (.bl _)⟩
  · cases rx
    cases ry
    exact .inr ⟨a, b, rfl, rfl, k _ S _ H ad q Wd.refl st (.bl _)⟩⟩
theorem pd_cmp {op : CmpOp} {r' : DR2} (o : OC X op r') (ha : PD X a ta) (hb : PD X b tb) (h : op ≠ .In := by decide) (h2 : op ≠ .NotIn := by decide) : PD X (.Compare a [op] [b] pos) (dOp r' ta tb) := by
  obtain ⟨r, ho, od⟩ := o
  exact pd_of (pe_cmpR ho ha hb (nomark _ h h2)) fun _ _ _ => up_op od
theorem pt_cmpD {op : CmpOp} {r' : DR2} (o : OC X op r') (ha : PD X a ta) (hb : PD X b tb) (h : op ≠ .In := by decide) (h2 : op ≠ .NotIn := by decide) : PTD X (.Compare a [op] [b] pos) (dT (dOp r' ta tb)) := by
  obtain ⟨r, ho, od⟩ := o
  refine pt_mono (pt_cmpR ho ha hb (nomark _ h h2)) fun σ H Q hh => el8 hh fun ad ρ S Q0 st rh q k => ?_
  refine up_op (Q := fun x H' => ∃ k, x = .bl k ∧ Q k H') od ⟨ad, ρ, S, _, st, rh, q, fun d S' v H' ad' ⟨b, e, q'⟩ w st' r => ?_⟩
  subst e
  cases r
  exact ⟨b, rfl, k b S' H' ad' q' w st'⟩
theorem up_chain {K : PySem.W.Frag} {r1' r2' : DR2} {r1 r2 : R2} (o1 : OD K r1' r1) (o2 : OD K r2' r2) {σ : L2.St} {H : Hp} {Q : VK} (h : up K (dChain r1' r2' ta tb tc) σ H Q) : tChain r1 r2 (up K ta) (up K tb) (up K tc) σ H Q := by
  obtain ⟨ad, ρ, S, Q0, st, rh, q, k⟩ := h
  refine ⟨ad, ρ, S, _, st, rh, q, fun x S1 v H1 ad1 q1 w1 st1 rx => ?_⟩
  refine ⟨ad1, ρ, S1, _, st1, rh.wd w1, q1, fun y S2 u H2 ad2 q2 w2 st2 ry => ?_⟩
  refine o1 ad2 H2 S2 x y v u _ _ st2 (rx.wd w2) ry q2 fun z S3 z' H3 ad3 ⟨c, e, q3⟩ w3 st3 rz => ?_
  subst e
  cases rz
  refine ⟨c, rfl, ?_⟩
  cases c with
  | true =>
    rw [if_pos rfl] at q3 ⊢
    refine ⟨ad3, ρ, S3, _, st3, rh.wd ((w1.trans w2).trans w3), q3, fun z S4 z' H4 ad4 q4 w4 st4 rz => ?_⟩
    exact o2 ad4 H4 S4 y z u z' Q0 Q st4 (ry.wd (w3.trans w4)) rz q4 (k.wd (((w1.trans w2).trans w3).trans w4))
  | false =>
    rw [if_neg Bool.false_ne_true] at q3 ⊢
    exact k _ S3 _ H3 ad3 q3 ((w1.trans w2).trans w3) st3 (.bl _)
theorem pt_valD {e : Expr} {t : DE} (h : PD X e t) (he : ∀ whole, isTrue e X.env whole = (do let v ← whole; standAt e.pos; holding [v] (truthy v)) := by intro _; rfl) : PTD X e (dT t) := pt_mono (pt_val h he) fun σ H Q hh => el8 hh fun ad ρ S Q0 st rh q k =>
  ⟨ad, ρ, S, _, st, rh, q, fun d S' v H' ad' ⟨b, e, q'⟩ w st' r => by
    subst e
    cases r
    exact ⟨b, rfl, k b S' H' ad' q' w st'⟩⟩
theorem pt_chainD {op op' : CmpOp} {r1 r2 : DR2} (o1 : OC X op r1) (o2 : OC X op' r2) (ha : PD X a ta) (hb : PD X b tb) (hc : PD X c tc) (hm : lastMarks [op, op'] [b, c] = false := by with_unfolding_all rfl) : PTD X (.Compare a [op, op'] [b, c] pos) (dT (dChain r1 r2 ta tb tc)) := by
  obtain ⟨s1, h1, d1⟩ := o1
  obtain ⟨s2, h2, d2⟩ := o2
  refine pt_mono (pt_chain h1 h2 ha hb hc hm) fun σ H Q hh => el8 hh fun ad ρ S Q0 st rh q k => ?_
  refine up_chain (Q := fun x H' => ∃ k, x = .bl k ∧ Q k H') d1 d2 ⟨ad, ρ, S, _, st, rh, q, fun d S' v H' ad' ⟨b, e, q'⟩ w st' r => ?_⟩
  subst e
  cases r
  exact ⟨b, rfl, k b S' H' ad' q' w st'⟩
variable {tA tB' : DT} {rest : List Expr}
theorem pt_notD (h : PTD X a tA) : PTD X (.UnaryOp .Not a pos) (dNot tA) := pt_mono (pt_not h) fun σ H Q hh => el8 hh fun ad ρ S Q0 st rh q k => ⟨ad, ρ, S, _, st, rh, q, fun b S' H' ad' q' w st' => k _ S' H' ad' q' w st'⟩
theorem pw_ptD {e : Expr} {t : DT} (h : PWD X e t) : PTD X e t := h _
theorem pw_and1D (ha : PTD X a tA) : PWD X (.BoolOp .And [a] pos) tA := pw_and1 ha
theorem pw_or1D (ha : PTD X a tA) : PWD X (.BoolOp .Or [a] pos) tA := pw_or1 ha
theorem pw_andD (ha : PTD X a tA) (hb : PWD X (.BoolOp .And (b :: rest) pos) tB') : PWD X (.BoolOp .And (a :: b :: rest) pos) (dAnd tA tB') := pw_mono (pw_and ha hb) fun σ H Q hh => el8 hh fun ad ρ S Q0 st rh q k =>
  ⟨ad, ρ, S, _, st, rh, q, fun b S' H' ad' q' w st' => by
    cases b with
    | true => rw [if_pos rfl] at q' ⊢; exact ⟨ad', ρ, S', Q0, st', rh.wd w, q', fun b S' H' ad' q w' => k b S' H' ad' q (w.trans w')⟩
    | false => rw [if_neg Bool.false_ne_true] at q' ⊢; exact k _ S' H' ad' q' w st'⟩
theorem pw_orD (ha : PTD X a tA) (hb : PWD X (.BoolOp .Or (b :: rest) pos) tB') : PWD X (.BoolOp .Or (a :: b :: rest) pos) (dOr tA tB') := pw_mono (pw_or ha hb) fun σ H Q hh => el8 hh fun ad ρ S Q0 st rh q k =>
  ⟨ad, ρ, S, _, st, rh, q, fun b S' H' ad' q' w st' => by
    cases b with
    | false => rw [if_neg Bool.false_ne_true] at q' ⊢; exact ⟨ad', ρ, S', Q0, st', rh.wd w, q', fun b S' H' ad' q w' => k b S' H' ad' q (w.trans w')⟩
    | true => rw [if_pos rfl] at q' ⊢; exact k _ S' H' ad' q' w st'⟩
theorem pd_one {op} {t : DE} (h : PD X a t) : PD X (.BoolOp op [a] pos) t := pe_one h
theorem pd_andV (ha : PD X a ta) (hb : PD X (.BoolOp .And (b :: rest) pos) tb) : PD X (.BoolOp .And (a :: b :: rest) pos) (dAndV ta tb) := pd_of (pe_and ha hb) fun σ H Q hh => el8 hh fun ad ρ S Q0 st rh q k =>
  ⟨ad, ρ, S, _, st, rh, q, fun d S' v H' ad' ⟨c, e, q'⟩ w st' r => by
    subst e
    cases r
    refine ⟨c, rfl, ?_⟩
    cases c with
    | true => rw [if_pos rfl] at q' ⊢; exact ⟨ad', ρ, S', Q0, st', rh.wd w, q', k.wd w⟩
    | false => rw [if_neg Bool.false_ne_true] at q' ⊢; exact k _ S' _ H' ad' q' w st' (.bl _)⟩
theorem pd_orV (ha : PD X a ta) (hb : PD X (.BoolOp .Or (b :: rest) pos) tb) : PD X (.BoolOp .Or (a :: b :: rest) pos) (dOrV ta tb) := pd_of (pe_or ha hb) fun σ H Q hh => el8 hh fun ad ρ S Q0 st rh q k =>
  ⟨ad, ρ, S, _, st, rh, q, fun d S' v H' ad' ⟨c, e, q'⟩ w st' r => by
    subst e
    cases r
    refine ⟨c, rfl, ?_⟩
    cases c with
    | false => rw [if_neg Bool.false_ne_true] at q' ⊢; exact ⟨ad', ρ, S', Q0, st', rh.wd w, q', k.wd w⟩
    | true => rw [if_pos rfl] at q' ⊢; exact k _ S' _ H' ad' q' w st' (.bl _)⟩
theorem pd_notV (ha : PD X a ta) : PD X (.UnaryOp .Not a pos) (dNotV ta) := pd_of (pe_not ha) fun σ H Q hh => el8 hh fun ad ρ S Q0 st rh q k =>
  ⟨ad, ρ, S, _, st, rh, q, fun d S' v H' ad' ⟨c, e, q'⟩ w st' r => by
    subst e
    cases r
    exact ⟨c, rfl, k _ S' _ H' ad' q' w st' (.bl _)⟩⟩
theorem pd_ifE (hc : PTD X c tA) (ha : PD X a ta) (hb : PD X b tb) : PD X (.IfExp c a b pos) (dIfE tA ta tb) := pd_of (pe_ifExp hc ha hb) fun σ H Q hh => el8 hh fun ad ρ S Q0 st rh q k =>
  ⟨ad, ρ, S, _, st, rh, q, fun b S' H' ad' q' w st' => by
    cases b with
    | true => rw [if_pos rfl] at q' ⊢; exact ⟨ad', ρ, S', Q0, st', rh.wd w, q', k.wd w⟩
    | false => rw [if_neg Bool.false_ne_true] at q' ⊢; exact ⟨ad', ρ, S', Q0, st', rh.wd w, q', k.wd w⟩⟩
end
section
variable {X : Cx} {a b e : Expr} {es : List Expr} {ta tb te : DE} {t : DA} {pos : Pos}
theorem pd_nil : PAD X [] dNil := pa_mono pa_nil fun σ H Q hh => el8 hh fun ad ρ S Q0 st rh q k => k [] S [] H ad q Wd.refl st .nil
theorem pd_cons (ha : PD X e te) (hr : PAD X es t) (hs : starEach (e :: es) X.env = (false, eval e X.env) :: starEach es X.env := by rfl) : PAD X (e :: es) (dCons te t) := pa_mono (pa_cons ha hr hs) fun σ H Q hh => el8 hh fun ad ρ S Q0 st rh q k =>
  ⟨ad, ρ, S, _, st, rh, q, fun d S1 v H1 ad1 q1 w1 st1 r1 => ⟨ad1, ρ, S1, _, st1, rh.wd w1, q1, fun ds S2 vs H2 ad2 q2 w2 st2 r2 => k _ S2 _ H2 ad2 q2 (w1.trans w2) st2 (.cons (r1.wd w2) r2)⟩⟩
theorem pd_tup {x1} (h : PAD X es t) : PD X (.Tuple es x1 pos) (dTup t) := pd_of (pe_tup h) fun σ H Q hh => el8 hh fun ad ρ S Q0 st rh q k =>
  ⟨ad, ρ, S, _, st, rh, q, fun ds S1 vs H1 ad1 ⟨hz, q1⟩ w1 st1 r1 => ⟨by rw [← r1.length]; exact big_le hz, fun p hp => newT_k st1 (k.wd w1) r1 q1 p hp⟩⟩
theorem pd_lst (h : PAD X es t) : PD X (.List es pos) (dLst t) := pd_of (pe_lst h) fun σ H Q hh => el8 hh fun ad ρ S Q0 st rh q k =>
  ⟨ad, ρ, S, _, st, rh, q, fun ds S1 vs H1 ad1 ⟨hz, q1⟩ w1 st1 r1 => ⟨by rw [← r1.length]; exact big_le hz, fun p hp => newL_k st1 (k.wd w1) r1 q1 p hp⟩⟩
theorem atD_at {xs : List D} {i : Int} {d : D} (h : atD xs i = some d) {K : PySem.W.Frag} {ad : List Addr} {H : Hp} {vs : List V} (r : RelAll K ad H xs vs) : ∃ v, atI vs i = some v ∧ Rel K ad H d v := by
  have e : ixN vs.length i = ixD xs.length i := by rw [r.length]; rfl
  unfold atD at h
  unfold atI
  rw [e]
  cases q : ixD xs.length i with
  | none => rw [q] at h; cases h
  | some j =>
    rw [q] at h
    exact r.get h
theorem pd_ix (ha : PD X a ta) (hb : PD X b tb) (hs : PlainIx b) : PD X (.Subscript a b pos) (dOp oIx ta tb) := pd_of (pe_ix (ix_list.or (ix_tup.or ix_str)) ha hb hs) fun _ _ _ => up_op fun ad H S x y v u Q0 Q st rx ry h k => by
  rcases h with ⟨i, xs, d, ey, hx, e, q⟩ | ⟨z, i, c, rfl, rfl, hz, e, q⟩
  case inr =>
    cases rx
    cases ry
    exact .inr (.inr ⟨z, i, c, rfl, rfl, big_le hz, e, k _ S _ H ad q Wd.refl st (.str _)⟩)
  subst ey
  cases ry
  obtain ⟨p, vs, rfl, hs, r⟩ := hx.sq st rx
  obtain ⟨z, ez, rz⟩ := atD_at e r
  rcases hs with hs | hs
  · exact .inl ⟨p, vs, i, z, rfl, rfl, hs, ez, k _ S _ H ad q Wd.refl st rz⟩
  · exact .inr (.inl ⟨p, vs, i, z, rfl, rfl, hs, ez, k _ S _ H ad q Wd.refl st rz⟩)
def upO (K : PySem.W.Frag) (t : Option DE) : TO := fun σ H Q => ∃ ad ρ S Q0, StOk K ad H S ∧ RhoOk K ad H ρ σ ∧ dOpt t ρ S Q0 ∧ ∀ o S' H' ad', Q0 o S' → Wd ad H ad' H' → StOk K ad' H' S' → Q o H'
theorem pd_opt0 : PO X none (upO X.K none) := fun pins s σ H Q I hh => el8 hh fun ad ρ S Q0 st rh q k => po_none pins s σ H Q I (k none S H ad q Wd.refl st)
theorem pd_opt1 {t : DE} (h : PD X e t) : PO X (some e) (upO X.K (some t)) := fun pins s σ H Q I hh => el8 hh fun ad ρ S Q0 st rh q k => po_some h pins s σ H Q I ⟨ad, ρ, S, _, st, rh, q, fun d S' v H' ad' ⟨i, e, q'⟩ w st' r => by
  subst e
  cases r
  exact ⟨i, rfl, k _ S' H' ad' q' w st'⟩⟩
theorem cut_rel {K : PySem.W.Frag} {ad : List Addr} {H : Hp} {xs : List D} {vs : List V} (lo hi : Option Int) (r : RelAll K ad H xs vs) : RelAll K ad H (cutD xs lo hi) (cutV vs lo hi) := by
  have e1 : HT.sIx vs.length 0 lo = slD xs.length 0 lo := by
    rw [r.length]; cases lo with
    | none => rfl
    | some k => show HT.sIx _ _ (some k) = _; unfold HT.sIx slD; first | rfl | (simp only []; split <;> omega)
  have e2 : HT.sIx vs.length vs.length hi = slD xs.length xs.length hi := by
    rw [r.length]; cases hi with
    | none => rfl
    | some k => show HT.sIx _ _ (some k) = _; unfold HT.sIx slD; first | rfl | (simp only []; split <;> omega)
  unfold cutD cutV
  rw [e1, e2]
  exact (r.drop _).take _
def rSlT2 (K : PySem.W.Frag) : V → Option Int → Option Int → Hp → VK → Prop := fun x lo hi H Q => ∃ a xs, x = .ref a ∧ SqT K H a xs ∧
  ((HT.sIx xs.length 0 lo = 0 ∧ HT.sIx xs.length xs.length hi = xs.length) → Q (.ref a) H) ∧ (¬ (HT.sIx xs.length 0 lo = 0 ∧ HT.sIx xs.length xs.length hi = xs.length) → ∀ p, H p = none → Q (.ref p) (upd H p (.tup (cutV xs lo hi))))
theorem getItem_whole {prog : Program} {w : World} {A : Around} {E : Value → Shared → Prop} {s : Shared} {t sl : Addr} {items : Array Value} {vl vu : Value} {lo hi : Option Int} {Q : Value → Shared → Prop} (ht : IsTup s.heap t items) (hs : s.heap.IsSliceOf sl vl vu .none) (pl : IsPart vl lo) (pu : IsPart vu hi)
    (hw : HT.sIx items.size 0 lo = 0 ∧ HT.sIx items.size items.size hi = items.size) (h : Q (.ref t) s) : wpAny (model prog w) A (getItem (.ref t) (.ref sl)) Q E s := by
  obtain ⟨os, hos, hcs, hds⟩ := id hs
  have hTs : s.TypeIs (.ref sl) "slice" := ⟨os, hos, hcs⟩
  unfold getItem
  try with_reducible refine wpAny_holding ?_
  first | refine wpAny_bind (wpAny_pure ?_) | skip
  refine wpAny_bind (wpAny_sequenceKey ht.typeIs (by decide) ?_)
  refine wpAny_bind (wpAny_callSpecial?_slot (name := Str.ofString "__getitem__") ht.typeIs PyProof.Rows.slot_tuple_getitem
    (wpAny_call_entry PyProof.Rows.slot_tuple_getitem ht.typeIs PyProof.Rows.entry_tuple_getitem ?_ (PyProof.Rows.args_tuple_getitem _ _)))
  show wpAny _ _ (Builtin.Tuple.tupleItemsOf (.ref t) >>= _) _ _ s
  refine wpAny_bind (tupleItemsOf_ ht ?_)
  refine wpAny_bind (wpAny_typeOf hTs ?_)
  rw [if_pos (by decide)]
  refine wpAny_bind (HT.sliceApplied_gen hs pl pu ?_)
  show wpAny _ _ (if (((HT.sIx items.size 0 lo : Nat) : Int) == 0 && (1 : Int) == 1 && (HT.sIx items.size items.size hi - HT.sIx items.size 0 lo) == items.size) = true then _ else _) _ _ s
  rw [if_pos (by rw [hw.1, hw.2]; simp)]
  unfold Builtin.Tuple.tupleIsExact
  refine wpAny_bind (wpAny_bind (wpAny_typeOf ht.typeIs (wpAny_pure ?_)))
  rw [if_pos (by decide)]
  refine wpAny_bind (wpAny_rule ?_)
  first
    | exact wpAny_pure ⟨_, rfl, wpAny_pure h⟩
    | exact wpAny_bind (wpAny_pure ⟨_, rfl, wpAny_pure h⟩)
    | exact wpAny_bind (wpAny_pure (wpAny_pure ⟨_, rfl, wpAny_pure h⟩))
    | trace_state
theorem sl_tup2 : SlR X (rSlT2 X.K) := by
  intro pins s σ H x v vl vu lo hi sl Q I rx hs pl pu h
  obtain ⟨a, xs, rfl, hx, q1, q2⟩ := h
  by_cases hw : HT.sIx xs.length 0 lo = 0 ∧ HT.sIx xs.length xs.length hi = xs.length
  · cases rx
    obtain ⟨its, r, ht, hz⟩ := I.tuple hx
    have hlen : its.toArray.size = xs.length := by rw [List.size_toArray]; exact r.length.symm
    refine ⟨"tuple", _, PyProof.Rows.slot_tuple_getitem.lookup, ht.typeIs, ?_⟩
    exact getItem_whole ht hs pl pu (by rw [hlen]; exact hw) ⟨.ref a, H, I, rfl, q1 hw⟩
  · exact sl_tup pins s σ H (.ref a) v vl vu lo hi sl Q I rx hs pl pu ⟨a, xs, rfl, hx, hw, q2 hw⟩
theorem cut_whole {α : Type} (xs : List α) (lo hi : Option Int) (h1 : slD xs.length 0 lo = 0) (h2 : slD xs.length xs.length hi = xs.length) : cutD xs lo hi = xs := by
  unfold cutD; rw [h1, h2]; simp
theorem sIx_slD (n d : Nat) (o : Option Int) : HT.sIx n d o = slD n d o := by
  cases o with
  | none => rfl
  | some k => rfl
theorem pd_sl {lo hi : Option Expr} {tl th : Option DE} {p2 : Pos} (ha : PD X a ta) (hl : PO X lo (upO X.K tl)) (hh : PO X hi (upO X.K th)) : PD X (.Subscript a (.Slice lo hi none p2) pos) (dSl sCut ta tl th) := pd_of (pe_slice (sl_list.or sl_tup2) ha hl hh) fun σ H Q hh => el8 hh fun ad ρ S Q0 st rh q k =>
  ⟨ad, ρ, S, _, st, rh, q, fun x S1 v H1 ad1 q1 w1 st1 r1 => ⟨ad1, ρ, S1, _, st1, rh.wd w1, q1, fun l S2 H2 ad2 q2 w2 st2 => ⟨ad2, ρ, S2, _, st2, rh.wd (w1.trans w2), q2, fun h S3 H3 ad3 q3 w3 st3 => by
    have r3 := r1.wd (w2.trans w3)
    have k3 := k.wd ((w1.trans w2).trans w3)
    rcases q3 with ⟨xs, rfl, q3⟩ | ⟨xs, hx, q3⟩
    · cases r3 with
      | tup h1 r =>
        refine .inr ⟨_, _, rfl, SqT.of h1, fun ⟨z1, z2⟩ => ?_, fun _ p hp => newT_k st3 k3 (cut_rel _ _ r) q3 p hp⟩
        rw [sIx_slD, ← r.length] at z1 z2
        rw [cut_whole xs _ _ z1 z2] at q3
        exact k3 _ S3 _ H3 ad3 q3 Wd.refl st3 (.tup h1 r)
    · obtain ⟨p, vs, rfl, hs, r⟩ := hx.sq st3 r3
      exact .inl ⟨p, vs, rfl, hs, fun l hl => newL_k st3 k3 (cut_rel _ _ r) q3 l hl⟩⟩⟩⟩
end
end Dp
namespace Dp
open PySem PySem.Spec PyProof.Rows L2 My
variable [B : Bs]
section
variable {X : Cx} {a e : Expr} {es : List Expr} {ta te : DE} {t : DA} {pos p : Pos}
theorem pd_call {k j : Nat} {x : Str} {ps : List Str} {f : DSp} (G : Got X.prog X.w X.K X.mg X.base k x ps (upF X.K f)) (hr : Room j X.A) (hk : k ≤ j) (hg : Gl X x)
    (ha : PAD X (e :: es) t) (hdb : (x == ("__debug__" : Str)) = false := by decide) (he : starEach (e :: es) X.env = (false, eval e X.env) :: starEach es X.env := by rfl) (hpl : (backTo pos (starEach es X.env)).any (·.1) = false := by rfl) :
    PD X (.Call (.Name x p) (e :: es) [] pos) (dCall f t) := pd_of (pe_got G hr hk hg ha hdb he hpl) fun σ H Q hh => el8 hh fun ad ρ S Q0 st rh q k =>
  ⟨ad, ρ, S, _, st, rh, q, fun ds S1 vs H1 ad1 q1 w1 st1 r1 => by
    show upF X.K f (vs ++ []) H1 Q E0
    rw [List.append_nil]; exact ⟨ad1, S1, ds, Q0, st1.base, r1, q1, (k.wd w1).base st1⟩⟩
def BD (K : PySem.W.Frag) (r' : DB) (r : List V → Hp → VK → Prop) : Prop := ∀ ad H S ds vs Q0 Q, StOk K ad H S → RelAll K ad H ds vs → r' ds S Q0 → KK K ad H Q0 Q → r vs H Q
def BC (X : Cx) (f : Value) (r' : DB) : Prop := ∃ r, CallR X f r ∧ BD X.K r' r
theorem pd_b {x : Str} {id : String} {r' : DB} (o : BC X (.builtin id) r') (hg : Gl X x) (hm : X.mg x = none) (hv : bootBuiltins x = some (.builtin id)) (ha : PAD X (e :: es) t) (hn : x ≠ "__name__" := by decide) (hdb : (x == ("__debug__" : Str)) = false := by decide)
    (he : starEach (e :: es) X.env = (false, eval e X.env) :: starEach es X.env := by rfl) (hpl : (backTo pos (starEach es X.env)).any (·.1) = false := by rfl) : PD X (.Call (.Name x p) (e :: es) [] pos) (dB r' t) := by
  obtain ⟨r, ho, od⟩ := o
  exact pd_of (pe_callB ho hg hm hv ha hn hdb he hpl) fun σ H Q hh => el8 hh fun ad ρ S Q0 st rh q k =>
    ⟨ad, ρ, S, _, st, rh, q, fun ds S1 vs H1 ad1 q1 w1 st1 r1 => od ad1 H1 S1 ds vs Q0 Q st1 r1 q1 (k.wd w1)⟩
theorem pd_bt {x : Str} {T : String} {r' : DB} (o : BC X (.type T) r') (hg : Gl X x) (hm : X.mg x = none) (hv : bootBuiltins x = some (.type T)) (ha : PAD X (e :: es) t) (hn : x ≠ "__name__" := by decide) (hdb : (x == ("__debug__" : Str)) = false := by decide)
    (he : starEach (e :: es) X.env = (false, eval e X.env) :: starEach es X.env := by rfl) (hpl : (backTo pos (starEach es X.env)).any (·.1) = false := by rfl) : PD X (.Call (.Name x p) (e :: es) [] pos) (dB r' t) := by
  obtain ⟨r, ho, od⟩ := o
  exact pd_of (pe_callTy ho hg hm hv ha hn hdb he hpl) fun σ H Q hh => el8 hh fun ad ρ S Q0 st rh q k =>
    ⟨ad, ρ, S, _, st, rh, q, fun ds S1 vs H1 ad1 q1 w1 st1 r1 => od ad1 H1 S1 ds vs Q0 Q st1 r1 q1 (k.wd w1)⟩
theorem rel1 {K : PySem.W.Frag} {ad : List Addr} {H : Hp} {d : D} {vs : List V} (r : RelAll K ad H [d] vs) : ∃ v, vs = [v] ∧ Rel K ad H d v := by
  cases r with
  | cons r t => cases t; exact ⟨_, rfl, r⟩
theorem rel2 {K : PySem.W.Frag} {ad : List Addr} {H : Hp} {d e : D} {vs : List V} (r : RelAll K ad H [d, e] vs) : ∃ v u, vs = [v, u] ∧ Rel K ad H d v ∧ Rel K ad H e u := by
  cases r with
  | cons r t =>
    obtain ⟨u, rfl, r2⟩ := rel1 t
    exact ⟨_, _, rfl, r, r2⟩
theorem bd_Len : BC X (.builtin "len") bLen := ⟨_, call_lenR.or call_len_str, fun ad H S ds vs Q0 Q st r h k => by
  rcases h with ⟨x, xs, e, hx, q⟩ | ⟨z, e, hz, q⟩
  case inr =>
    subst e
    obtain ⟨v, rfl, rv⟩ := rel1 r
    cases rv
    exact .inr ⟨z, rfl, big_le hz, k _ S _ H ad q Wd.refl st (.int _)⟩
  subst e
  obtain ⟨v, rfl, rv⟩ := rel1 r
  obtain ⟨a, ws, rfl, hs, rs⟩ := hx.sq st rv
  exact .inl ⟨a, ws, rfl, hs, k _ S _ H ad (by rw [rs.length] at q; exact q) Wd.refl st (.int _)⟩⟩
theorem bd_Abs : BC X (.builtin "abs") bAbs := ⟨_, call_absR, fun ad H S ds vs Q0 Q st r ⟨i, e, q⟩ k => by
  subst e
  obtain ⟨v, rfl, rv⟩ := rel1 r
  cases rv
  exact ⟨i, rfl, k _ S _ H ad q Wd.refl st (.int _)⟩⟩
theorem max_if (i j : Int) : (if j > i then j else i) = max i j := by
  rw [Int.max_def]; split <;> split <;> omega
theorem min_if (i j : Int) : (if j < i then j else i) = min i j := by
  rw [Int.min_def]; split <;> split <;> omega
theorem bd_Max2 (hc : X.calm = true := by rfl) : BC X (.builtin "max") bMax2 := ⟨_, call_maxR hc, fun ad H S ds vs Q0 Q st r ⟨i, j, e, q⟩ k => by
  subst e
  obtain ⟨v, u, rfl, rv, ru⟩ := rel2 r
  cases rv
  cases ru
  exact ⟨i, j, rfl, by rw [max_if]; exact k _ S _ H ad q Wd.refl st (.int _)⟩⟩
theorem bd_Min2 (hc : X.calm = true := by rfl) : BC X (.builtin "min") bMin2 := ⟨_, call_minR hc, fun ad H S ds vs Q0 Q st r ⟨i, j, e, q⟩ k => by
  subst e
  obtain ⟨v, u, rfl, rv, ru⟩ := rel2 r
  cases rv
  cases ru
  exact ⟨i, j, rfl, by rw [min_if]; exact k _ S _ H ad q Wd.refl st (.int _)⟩⟩
theorem bd_Any (hc : X.calm = true := by rfl) : BC X (.builtin "any") bAny := ⟨_, call_anyK rfl hc, fun ad H S ds vs Q0 Q st r ⟨x, ns, e, hx, q⟩ k => by
  subst e
  obtain ⟨v, rfl, rv⟩ := rel1 r
  obtain ⟨a, ws, rfl, hs, rs⟩ := hx.sq st rv
  cases rs.bls
  exact ⟨a, ns, rfl, hs, k _ S _ H ad q Wd.refl st (.bl _)⟩⟩
theorem bd_Tuple : BC X (.type "tuple") bTuple := ⟨_, call_tupK rfl, fun ad H S ds vs Q0 Q st r ⟨x, xs, e, hx, q⟩ k => by
  subst e
  obtain ⟨v, rfl, rv⟩ := rel1 r
  rcases hx with rfl | hx
  · cases rv with
    | tup h rr => exact ⟨_, _, rfl, .inr ⟨SqT.of h, k _ S _ H ad q Wd.refl st (.tup h rr)⟩⟩
  · obtain ⟨a, ws, rfl, hs, rs⟩ := hx.sq st rv
    exact ⟨a, ws, rfl, .inl ⟨hs, fun l hl => newT_k st k rs q l hl⟩⟩⟩
theorem bd_List : BC X (.type "list") bList := ⟨_, call_listR, fun ad H S ds vs Q0 Q st r ⟨x, xs, e, hx, q⟩ k => by
  subst e
  obtain ⟨v, rfl, rv⟩ := rel1 r
  obtain ⟨a, ws, rfl, hs, rs⟩ := hx.sq st rv
  exact ⟨a, ws, rfl, hs, fun l hl => newL_k st k rs q l hl⟩⟩
section
variable {K : PySem.W.Frag}
end
def MD (X : Cx) (id : String) (r' : DM) : Prop := ∃ r, MtR X id r ∧ ∀ ad H S x ds v vs Q0 Q, StOk X.K ad H S → Rel X.K ad H x v → RelAll X.K ad H ds vs → r' x ds S Q0 → KK X.K ad H Q0 Q → r v vs H Q
theorem isl_ty {K : PySem.W.Frag} {ad : List Addr} {H : Hp} {S : Sto} {x : D} {v : V} (st : StOk K ad H S) (h : ∃ n ys, x = .ref n ∧ S[n]? = some (.lst ys)) (r : Rel K ad H x v) : tyV K "list" v H := by
  obtain ⟨n, ys, rfl, h⟩ := h
  cases r with
  | ref e =>
    obtain ⟨vs, hv, _⟩ := st.cell n _ _ e h
    exact .inl ⟨rfl, vs, SqL.of hv⟩
theorem pd_m {o : Expr} {to : DE} {name : Str} {id : String} {apos cpos : Pos} {r' : DM} (slot : Slot "list" name id) (hty : typeOf (.builtin id) = pure (.type "method_descriptor")) (hm : MD X id r') (ho : PD X o to) (ha : PAD X (e :: es) t)
    (hbase : attributeBase o name X.env (eval o X.env) = eval o X.env := by rfl)
    (hfew : ((backTo cpos (starEach (e :: es) X.env)).all (fun x => !x.1) && (backToKw cpos (keywordEach [] X.env)).all (fun x => x.1.isSome)
      && decide ((e :: es).length + ([] : List Keyword).length + (if ([] : List Keyword).isEmpty then 0 else 1) < 30)) = true := by rfl)
    (hline : (apos.endLine == cpos.line) = true := by rfl) (hs : starEach (e :: es) X.env = (false, eval e X.env) :: starEach es X.env := by rfl) (hplain : (backTo cpos (starEach es X.env)).any (·.1) = false := by rfl) :
    PD X (.Call (.Attribute o name apos) (e :: es) [] cpos) (dM r' to t) := by
  obtain ⟨r, hr, od⟩ := hm
  exact pd_of (pe_bm PySem.F.plainAttrs_list slot hty hr ho ha hbase hfew hline hs hplain) fun σ H Q hh => el8 hh fun ad ρ S Q0 st rh q k =>
    ⟨ad, ρ, S, _, st, rh, q, fun x S1 v H1 ad1 ⟨hl, q1⟩ w1 st1 r1 => ⟨isl_ty st1 hl r1, ad1, ρ, S1, _, st1, rh.wd w1, q1, fun ds S2 vs H2 ad2 q2 w2 st2 r2 =>
      od ad2 H2 S2 x ds v vs Q0 Q st2 (r1.wd w2) r2 q2 (k.wd (w1.trans w2))⟩⟩
theorem pd_m0 {o : Expr} {to : DE} {name : Str} {id : String} {apos cpos : Pos} {r' : DM} (slot : Slot "list" name id) (hty : typeOf (.builtin id) = pure (.type "method_descriptor")) (hm : MD X id r') (ho : PD X o to)
    (hbase : attributeBase o name X.env (eval o X.env) = eval o X.env := by rfl) (hline : (apos.endLine == cpos.line) = true := by rfl) : PD X (.Call (.Attribute o name apos) [] [] cpos) (dM r' to dNil) := by
  obtain ⟨r, hr, od⟩ := hm
  exact pd_of (pe_bm0 PySem.F.plainAttrs_list slot hty hr ho hbase hline) fun σ H Q hh => el8 hh fun ad ρ S Q0 st rh q k =>
    ⟨ad, ρ, S, _, st, rh, q, fun x S1 v H1 ad1 ⟨hl, q1⟩ w1 st1 r1 => ⟨isl_ty st1 hl r1, od ad1 H1 S1 x [] v [] Q0 Q st1 r1 .nil q1 (k.wd w1)⟩⟩
theorem md_append : MD X "list.append" mAppend := ⟨_, mt_append, fun ad H S x ds v vs Q0 Q st rx r ⟨n, xs, y, ex, ey, hn, hl, q⟩ k => by
  subst ex ey
  obtain ⟨u, rfl, ru⟩ := rel1 r
  cases rx with
  | ref e =>
    obtain ⟨ws, hw, rw⟩ := st.cell n _ _ e hn
    exact ⟨_, ws, u, rfl, rfl, hw, by rw [← rw.length]; exact big_lt hl, k _ _ _ _ ad q (Wd.put e hw) (st.put e hw (rw.append (.cons ru .nil))) .non⟩⟩
theorem md_pop : MD X "list.pop" mPop := ⟨_, mt_pop, fun ad H S x ds v vs Q0 Q st rx r ⟨n, xs, y, ex, ey, hn, q⟩ k => by
  subst ex ey
  cases r
  cases rx with
  | ref e =>
    obtain ⟨ws, hw, rw⟩ := st.cell n _ _ e hn
    obtain ⟨us, u, rfl, r1, r2⟩ := rw.unsnoc
    have w := Wd.put (ws := us) e hw
    refine ⟨_, us ++ [u], u, rfl, rfl, hw, by simp, ?_⟩
    rw [List.dropLast_concat]
    exact k _ _ _ _ ad q w (st.put e hw r1) (r2.wd w)⟩
theorem md_reverse : MD X "list.reverse" mReverse := ⟨_, mt_reverse, fun ad H S x ds v vs Q0 Q st rx r ⟨n, xs, ex, ey, hn, q⟩ k => by
  subst ex ey
  cases r
  cases rx with
  | ref e =>
    obtain ⟨ws, hw, rw⟩ := st.cell n _ _ e hn
    exact ⟨_, ws, rfl, rfl, hw, k _ _ _ _ ad q (Wd.put e hw) (st.put e hw rw.reverse) .non⟩⟩
end
end Dp
namespace Dp
open PySem PySem.Spec PyProof.Rows L2 My
variable [B : Bs]
def GRel (K : PySem.W.Frag) (b : Nat) (g' : DG) (g : TG) : Prop := ∀ ad H S ρ σ d v Q0 Q, StOk K ad H S → RhoOk K ad H ρ σ → Rel K ad H d v → g' d ρ S Q0 →
  (∀ ρ' S' σ' H' ad', Q0 ρ' S' → Wd ad H ad' H' → StOk K ad' H' S' → RhoOk K ad' H' ρ' σ' → σ'.length = σ.length → (∀ j, b ≤ j → σ'[j]? = σ[j]?) → Q σ' H') → g v σ H Q
def GsRel (K : PySem.W.Frag) (b : Nat) (g' : DGs) (g : TGs) : Prop := ∀ ad H S ρ σ ds vs Q0 Q, StOk K ad H S → RhoOk K ad H ρ σ → RelAll K ad H ds vs → g' ds ρ S Q0 →
  (∀ ρ' S' σ' H' ad', Q0 ρ' S' → Wd ad H ad' H' → StOk K ad' H' S' → RhoOk K ad' H' ρ' σ' → σ'.length = σ.length → (∀ j, b ≤ j → σ'[j]? = σ[j]?) → Q σ' H') → g vs σ H Q
def PGD (X : Cx) (b : Nat) (tg : Expr) (g' : DG) : Prop := ∃ g, PG X tg g ∧ GRel X.K b g' g
def PGsD (X : Cx) (b : Nat) (tgs : List Expr) (g' : DGs) : Prop := ∃ g, PGs X tgs g ∧ GsRel X.K b g' g
theorem RhoOk.set {K : PySem.W.Frag} {ad : List Addr} {H : Hp} {ρ : Rho} {σ : L2.St} {d : D} {v : V} (h : RhoOk K ad H ρ σ) (r : Rel K ad H d v) (i : Nat) : RhoOk K ad H (ρ.set i (some d)) (σ.set i (some v)) where
  len := by rw [List.length_set, List.length_set]; exact h.len
  val := fun j e q => by
    by_cases hj : j = i
    · subst hj
      have hl : j < ρ.length := by have := My.lt_of_get q; rw [List.length_set] at this; exact this
      rw [List.getElem?_set_self hl] at q
      cases q
      exact ⟨v, List.getElem?_set_self (by rw [← h.len]; exact hl), r⟩
    · rw [List.getElem?_set_ne (Ne.symm hj)] at q
      obtain ⟨u, e1, r1⟩ := h.val j e q
      exact ⟨u, by rw [List.getElem?_set_ne (Ne.symm hj)]; exact e1, r1⟩
section
variable {X : Cx} {pos : Pos} {b : Nat}
theorem grel_name {K : PySem.W.Frag} (i : Nat) (hb : i < b) : GRel K b (gName i) (L2.gName i) := fun ad H S ρ σ d v Q0 Q st rh r q k =>
  k _ S _ H ad q Wd.refl st (rh.set r i) (List.length_set ..) fun j hj => List.getElem?_set_ne (by omega)
theorem pgd_name {i : Nat} {x : Str} (hN : X.N.Nodup) (hi : X.N[i]? = some x) (hx : Loc X.env.scope x) (hf : X.fn x = true ∨ X.env.scope.names.lookup x = some .local := by first | exact .inl rfl | exact .inr rfl | assumption) (hb : i < b := by decide) : PGD X b (.Name x pos) (gName i) :=
  ⟨_, pg_name hN hi hx hf, grel_name i hb⟩
theorem pgd_nil : PGsD X b [] gNil := ⟨_, pgs_nil, fun ad H S ρ σ ds vs Q0 Q st rh r ⟨e, q⟩ k => by
  subst e
  cases r
  exact ⟨rfl, k ρ S σ H ad q Wd.refl st rh rfl fun _ _ => rfl⟩⟩
theorem pgd_cons {e : Expr} {es : List Expr} {t : DG} {u : DGs} (h1 : PGD X b e t) (h2 : PGsD X b es u) (hs : (assignEach (e :: es) X.env).map (·.2) = assign e X.env :: (assignEach es X.env).map (·.2) := by rfl) : PGsD X b (e :: es) (gCons t u) := by
  obtain ⟨g1, p1, r1⟩ := h1
  obtain ⟨g2, p2, r2⟩ := h2
  refine ⟨_, pgs_cons p1 p2 hs, fun ad H S ρ σ ds vs Q0 Q st rh r ⟨d, rs, ed, q⟩ k => ?_⟩
  subst ed
  cases r with
  | cons r t =>
    refine ⟨_, _, rfl, r1 ad H S ρ σ d _ _ _ st rh r q fun ρ1 S1 σ1 H1 ad1 q1 w1 st1 rh1 l1 a1 => ?_⟩
    exact r2 ad1 H1 S1 ρ1 σ1 _ _ _ _ st1 rh1 (t.wd w1) q1 fun ρ2 S2 σ2 H2 ad2 q2 w2 st2 rh2 l2 a2 => k ρ2 S2 σ2 H2 ad2 q2 (w1.trans w2) st2 rh2 (l2.trans l1) fun j hj => (a2 j hj).trans (a1 j hj)
theorem pgd_tup {es : List Expr} {k n : Nat} {t : DGs} (hc : X.calm = true) (h : PGsD X b es t) (hn : (assignEach es X.env).length = n := by rfl) (hst : (assignEach es X.env).findIdx? (·.1) = none := by rfl) : PGD X b (.Tuple es k pos) (gTup n t) := by
  obtain ⟨g, p, r⟩ := h
  refine ⟨_, pg_tup hc p hn hst, fun ad H S ρ σ d v Q0 Q st rh rv ⟨xs, ed, hl, q⟩ k => ?_⟩
  subst ed
  cases rv with
  | tup h1 rs => exact ⟨_, _, rfl, SqT.of h1, by rw [← rs.length]; exact hl, r ad H S ρ σ xs _ _ _ st rh rs q k⟩
theorem pgd_sub {o i : Expr} {to ti : DE} (ho : PD X o to) (hi : PD X i ti)
    (ha : ∀ v, assign (.Subscript o i pos) X.env v = (do
      let ov ← holding [v] (eval o X.env)
      let iv ← holding [v, ov] (eval i X.env)
      standAt pos
      holding [v, ov, iv] (setItem ov iv v)
      release [v, ov, iv] []) := by intro _; rfl) : PGD X b (.Subscript o i pos) (gSub to ti) :=
  ⟨_, pg_sub ho hi set_list ha, fun ad H S ρ σ d v Q0 Q st rh r q k => ⟨ad, ρ, S, _, st, rh, q, fun x S1 u H1 ad1 q1 w1 st1 r1 => ⟨ad1, ρ, S1, _, st1, rh.wd w1, q1, fun y S2 z H2 ad2 q2 w2 st2 r2 => by
    obtain ⟨n, xs, kk, j, ex, ey, hn, hj, q3⟩ := q2
    subst ex ey
    cases r2
    cases r1 with
    | ref e =>
      have e2 := pre_get w2.pre e
      obtain ⟨ws, hw, rw⟩ := st2.cell n _ _ e2 hn
      have rd := r.wd (w1.trans w2)
      exact ⟨_, ws, kk, j, rfl, rfl, hw, by rw [← rw.length]; exact hj, k ρ _ σ _ ad2 q3 ((w1.trans w2).trans (Wd.put e2 hw)) (st2.put e2 hw (rw.set rd j)) (rh.wd ((w1.trans w2).trans (Wd.put e2 hw))) rfl fun _ _ => rfl⟩⟩⟩⟩
variable {st : Stmt} {sts : List Stmt} {t u : DS} {e : Expr} {te : DE}
theorem psds_nil : PSsD X [] sNext := pss_mono pss_nil fun E σ H hh => el8 hh fun ad ρ S E0 so rh q k => k.nx ρ S σ H ad q Wd.refl so rh
theorem psds_one (h : PSD X st t) : PSsD X [st] t := pss_one h
theorem psds_cons (h1 : PSD X st t) (h2 : PSsD X sts u) : PSsD X (st :: sts) (sSeq t u) := pss_mono (pss_cons h1 h2) fun E σ H hh => el8 hh fun ad ρ S E0 so rh q k =>
  ⟨ad, ρ, S, { E0 with nx := u E0 }, so, rh, q, ⟨fun ρ' S' σ' H' ad' q' w st' rh' => ⟨ad', ρ', S', E0, st', rh', q', k.wd w⟩, k.rt, k.bk, k.ct⟩⟩
theorem psd_never : PSD X st sNever := ps_mono ps_never fun E σ H hh => el8 hh fun ad ρ S E0 so rh q k => q
theorem psd_expr (he : PD X e te) (hs : swapsWith e none pos.line X.env = pure false := by rfl) : PSD X (.Expr e pos) (sDrop te) := ps_mono (ps_expr he hs) fun E σ H hh => el8 hh fun ad ρ S E0 so rh q k =>
  ⟨ad, ρ, S, _, so, rh, q, fun d S' v H' ad' q' w st' r => k.nx ρ S' σ H' ad' q' w st' (rh.wd w)⟩
theorem psd_ret (he : PD X e te) : PSD X (.Return (some e) pos) (sRet te) := ps_mono (ps_ret he) fun E σ H hh => el8 hh fun ad ρ S E0 so rh q k => ⟨ad, ρ, S, _, so, rh, q, k.rt⟩
theorem psd_J (h : PSD X st t) : PSD X st (sJ t) := ps_mono h fun E σ H ⟨ad, ρ, S, E0, so, rh, ⟨J, hJ, q⟩, k⟩ =>
  ⟨ad, ρ, S, { E0 with nx := J }, so, rh, q, ⟨fun ρ' S' σ' H' ad' q' w st' rh' => k.nx ρ' S' σ' H' ad' (hJ _ _ q') w st' rh', k.rt, k.bk, k.ct⟩⟩
theorem psd_if {c : Expr} {a b : List Stmt} {tc : DT} (hc : PTD X c tc) (ha : PSsD X a t) (hb : PSsD X b u) : PSD X (.If c a b pos) (sIf tc t u) := ps_mono (ps_if hc ha hb) fun E σ H hh => el8 hh fun ad ρ S E0 so rh q k =>
  ⟨ad, ρ, S, _, so, rh, q, fun b S' H' ad' q' w st' => by
    cases b with
    | true => rw [if_pos rfl] at q' ⊢; exact ⟨ad', ρ, S', E0, st', rh.wd w, q', k.wd w⟩
    | false => rw [if_neg Bool.false_ne_true] at q' ⊢; exact ⟨ad', ρ, S', E0, st', rh.wd w, q', k.wd w⟩⟩
theorem psd_set {i : Nat} {x : Str} {pos' : Pos} (hN : X.N.Nodup) (hi : X.N[i]? = some x) (hx : Loc X.env.scope x) (he : PD X e te) (hs : swapsWith e (some (.Name x pos')) pos.line X.env = pure false := by rfl) (hf : X.fn x = true ∨ X.env.scope.names.lookup x = some .local := by first | exact .inl rfl | exact .inr rfl | assumption) :
    PSD X (.Assign [.Name x pos'] e pos) (sAsg te (gName i)) := ps_mono (ps_set hN hi hx he hs hf) fun E σ H hh => el8 hh fun ad ρ S E0 so rh q k =>
  ⟨ad, ρ, S, _, so, rh, q, fun d S' v H' ad' q' w st' r => k.nx _ S' _ H' ad' q' w st' ((rh.wd w).set r i)⟩
theorem psd_asg {tg : Expr} {g : DG} (he : PD X e te) (hg : PGD X 1000 tg g) (hs : swapsWithSole [tg] e pos.line X.env = pure false := by rfl) (hw : swappedStores [tg] e X.env = pure none := by rfl)
    (h1 : (assignEach [tg] X.env).map (·.2) = [assign tg X.env] := by rfl) : PSD X (.Assign [tg] e pos) (sAsg te g) := by
  obtain ⟨g', p, r⟩ := hg
  exact ps_mono (ps_asg he p hs hw h1) fun E σ H hh => el8 hh fun ad ρ S E0 so rh q k =>
    ⟨ad, ρ, S, _, so, rh, q, fun d S' v H' ad' q' w st' rv => r ad' H' S' ρ σ d v _ _ st' (rh.wd w) rv q' fun ρ2 S2 σ2 H2 ad2 q2 w2 st2 rh2 _ _ => k.nx ρ2 S2 σ2 H2 ad2 q2 (w.trans w2) st2 rh2⟩
theorem psd_aug {i : Nat} {x : Str} {pos' : Pos} (hN : X.N.Nodup) (hi : X.N[i]? = some x) (hx : Loc X.env.scope x) (he : PD X e te) (hf : X.fn x = true ∨ X.env.scope.names.lookup x = some .local := by first | exact .inl rfl | exact .inr rfl | assumption) :
    PSD X (.AugAssign (.Name x pos') .Add e pos) (sAug i te) := ps_mono (ps_aug hN hi hx he ip_add hf) fun E σ H ⟨ad, ρ, S, E0, so, rh, ⟨a, ea, q⟩, k⟩ => by
  obtain ⟨v, ev, rv⟩ := rh.val i _ ea
  cases rv
  refine ⟨_, ev, ad, ρ, S, _, so, rh, q, fun d S' v H' ad' ⟨b, eb, q'⟩ w st' r => ?_⟩
  subst eb
  cases r
  exact ⟨a, b, rfl, rfl, k.nx _ S' _ H' ad' q' w st' ((rh.wd w).set (.int _) i)⟩
theorem psd_while {c : Expr} {body : List Stmt} {tc : DT} (hp : PassesOwn (model X.prog X.w) X.A X.env X.xe) (hc : PTD X c tc) (hb : PSsD X body t) : PSD X (.While c body [] pos) (sWhile tc t) := ps_mono (ps_while hp hc hb) fun E σ H ⟨ad, ρ, S, E0, so, rh, ⟨W, ⟨m0, w0⟩, turn⟩, k⟩ => by
  refine ⟨fun m σ' H' => ∃ ad' ρ' S', W m ρ' S' ∧ Wd ad H ad' H' ∧ StOk X.K ad' H' S' ∧ RhoOk X.K ad' H' ρ' σ', ⟨m0, ad, ρ, S, w0, Wd.refl, so, rh⟩, ?_⟩
  rintro m σ1 H1 ⟨ad1, ρ1, S1, w1, d1, st1, rh1⟩
  refine ⟨ad1, ρ1, S1, _, st1, rh1, turn m ρ1 S1 w1, fun b S2 H2 ad2 q2 d2 st2 => ?_⟩
  cases b with
  | true =>
    rw [if_pos rfl] at q2 ⊢
    obtain ⟨N, hN, q2⟩ := q2
    refine ⟨fun σ' H' => ∃ ad' ρ' S', N ρ' S' ∧ Wd ad H ad' H' ∧ StOk X.K ad' H' S' ∧ RhoOk X.K ad' H' ρ' σ', ?_, ad2, ρ1, S2, { E0 with nx := N, ct := N, bk := E0.nx }, st2, rh1.wd d2, q2, ?_⟩
    · rintro σ' H' ⟨ad', ρ', S', n', d', st', rh'⟩
      obtain ⟨m', hm, w'⟩ := hN ρ' S' n'
      exact ⟨m', hm, ad', ρ', S', w', d', st', rh'⟩
    · have d12 := d1.trans d2
      exact ⟨fun ρ' S' σ' H' ad' q' w' st' rh' => ⟨ad', ρ', S', q', d12.trans w', st', rh'⟩, k.rt.wd d12, fun ρ' S' σ' H' ad' q' w' st' rh' => k.nx ρ' S' σ' H' ad' q' (d12.trans w') st' rh', fun ρ' S' σ' H' ad' q' w' st' rh' => ⟨ad', ρ', S', q', d12.trans w', st', rh'⟩⟩
  | false =>
    rw [if_neg Bool.false_ne_true] at q2 ⊢
    exact k.nx ρ1 S2 σ1 H2 ad2 q2 (d1.trans d2) st2 (rh1.wd d2)
end
structure ItOk (K : PySem.W.Frag) (ad0 : List Addr) (H0 : Hp) (J0 : DIt) (J : It) : Prop where
  go : ∀ ad H S i, Wd ad0 H0 ad H → StOk K ad H S → J0.ok S → i < J0.items.length → J.go i H
  yld : ∀ ad H S i d x H', Wd ad0 H0 ad H → StOk K ad H S → J0.ok S → J0.items[i]? = some d → J.yld i H x H' → Wd ad H ad H' ∧ StOk K ad H' S ∧ Rel K ad H' d x
  stop : ∀ ad H S, Wd ad0 H0 ad H → StOk K ad H S → J0.ok S → J.stop J0.items.length H
def upI (K : PySem.W.Frag) (wi : DI) : TI := fun σ H R => ∃ ad ρ S R0, StOk K ad H S ∧ RhoOk K ad H ρ σ ∧ wi ρ S R0 ∧ ∀ J0 S' J H' ad', R0 J0 S' → Wd ad H ad' H' → StOk K ad' H' S' → ItOk K ad' H' J0 J → R J H'
def PID (X : Cx) (tg iter : Expr) (wi : DI) : Prop := PI X tg iter (upI X.K wi)
theorem pi_mono {X : Cx} {tg iter : Expr} {w w' : TI} (h : PI X tg iter w) (m : ∀ σ H R, w' σ H R → w σ H R) : PI X tg iter w' := fun pins s σ H R I q => h pins s σ H R I (m σ H R q)
section
variable {X : Cx} {tg e : Expr}
def Its (z : Str) : It := ⟨fun i _ => i < z.cps.size, fun i H x H' => H' = H ∧ ∃ c, z.cps[i]? = some c ∧ x = .str ⟨#[c]⟩, fun i _ => z.cps.size ≤ i⟩
theorem turn_strA {P : Program} {w : World} {K : PySem.W.Frag} {tg : Expr} (z : Str) (t : Tok) (it : Addr) : Turn P w K tg (Its z) [it] it (fun i h => h.IsStrIter it "str_ascii_iterator" z t i) where
  mem := by simp
  obj := fun i h st b hb => by
    have e : b = it := by simpa using hb
    subst e
    obtain ⟨o, e, c, d⟩ := st
    exact ⟨o, e, fun v y => by rw [d] at y; cases y⟩
  keep := fun i h h' st k => let ⟨o, e, r⟩ := st; ⟨o, k it (by simp) o e, r⟩
  item := by
    intro X hP hw hK hc i pins s σ H E I hf st hg
    subst hP hw hK
    have hg : i < z.cps.size := hg
    obtain ⟨f0, f1, f2, f3, f4, f5⟩ := hf it (by simp)
    refine wpAny_pyNext_ascii_item st (c := z.cps[i]) (by simp [hg]) fun h' st' sb => ?_
    have I1 : Inv X pins σ H { s with heap := h', toks := s.toks + 1 } := I.turned (t' := s.toks + 1) (fun b o hb e => (sb.2 b hb).trans e) f0 f1 f3 f4 f5
    obtain ⟨o, e, c, d⟩ := id st'
    exact ⟨_, rfl, go_of (s := { s with heap := h', toks := s.toks + 1 }) e c d (by decide) ⟨.str ⟨#[z.cps[i]]⟩, H, I1, ⟨_, rfl⟩, ⟨rfl, z.cps[i], by simp [hg], rfl⟩, st', fun b hb => (hf b hb).1⟩⟩
  done := by
    intro X hP hw hK hc i pins s σ H E I hf st hg
    subst hP hw hK
    have hg : z.cps.size ≤ i := hg
    obtain ⟨f0, f1, f2, f3, f4, f5⟩ := hf it (by simp)
    exact wpAny_pyNext_ascii_end (I.ok.hd hc) st (by simp [hg]) fun h' eb => ⟨rfl, I.turned (t' := s.toks) (fun b o hb e => eb b o hb e) f0 f1 f3 f4 f5⟩
  self := fun _ _ _ _ _ st hQ => wpAny_pyIter_striter_ascii st hQ
theorem turn_strW {P : Program} {w : World} {K : PySem.W.Frag} {tg : Expr} (z : Str) (t : Tok) (it : Addr) : Turn P w K tg (Its z) [it] it (fun i h => h.IsStrIter it "str_iterator" z t i) where
  mem := by simp
  obj := fun i h st b hb => by
    have e : b = it := by simpa using hb
    subst e
    obtain ⟨o, e, c, d⟩ := st
    exact ⟨o, e, fun v y => by rw [d] at y; cases y⟩
  keep := fun i h h' st k => let ⟨o, e, r⟩ := st; ⟨o, k it (by simp) o e, r⟩
  item := by
    intro X hP hw hK hc i pins s σ H E I hf st hg
    subst hP hw hK
    have hg : i < z.cps.size := hg
    obtain ⟨f0, f1, f2, f3, f4, f5⟩ := hf it (by simp)
    refine wpAny_pyNext_wide_item st (c := z.cps[i]) (by simp [hg]) fun h' st' sb => ?_
    have I1 : Inv X pins σ H { s with heap := h', toks := s.toks + 1 } := I.turned (t' := s.toks + 1) (fun b o hb e => (sb.2 b hb).trans e) f0 f1 f3 f4 f5
    obtain ⟨o, e, c, d⟩ := id st'
    exact ⟨_, rfl, go_of (s := { s with heap := h', toks := s.toks + 1 }) e c d (by decide) ⟨.str ⟨#[z.cps[i]]⟩, H, I1, ⟨_, rfl⟩, ⟨rfl, z.cps[i], by simp [hg], rfl⟩, st', fun b hb => (hf b hb).1⟩⟩
  done := by
    intro X hP hw hK hc i pins s σ H E I hf st hg
    subst hP hw hK
    have hg : z.cps.size ≤ i := hg
    obtain ⟨f0, f1, f2, f3, f4, f5⟩ := hf it (by simp)
    exact wpAny_pyNext_wide_end (I.ok.hd hc) st (by simp [hg]) fun h' eb => ⟨rfl, I.turned (t' := s.toks) (fun b o hb e => eb b o hb e) f0 f1 f3 f4 f5⟩
  self := fun _ _ _ _ _ st hQ => wpAny_pyIter_striter_wide st hQ
def iEither (K : PySem.W.Frag) (tl : TE) : TI := fun σ H R => tl σ H fun x H1 => (∃ a, x = .ref a ∧ (((∃ xs, SqL K H1 a xs) ∧ R (Itl K a) H1) ∨ ((∃ xs, SqT K H1 a xs) ∧ R (Itt K a) H1))) ∨ (∃ z, x = .str z ∧ R (Its z) H1)
theorem pi_either {l : Expr} {tl : TE} (hl : PE X l tl) : PI X tg l (iEither X.K tl) := by
  intro pins s σ H R I h
  refine thn (hl pins s σ H _ I h) fun v s1 ⟨x, H1, I1, r1, q1⟩ => ?_
  rcases q1 with ⟨a, e, q1⟩ | ⟨z, e, q⟩
  case inr =>
    subst e
    obtain ⟨t, rfl⟩ := r1
    have fp : ∀ b ∈ [s1.heap.objs.size], FpOk X pins H1 b := fun b hb => by
      have e : b = s1.heap.objs.size := by simpa using hb
      subst e
      exact I1.fpOk (Nat.le_refl _) (I1.hok.fresh (Nat.le_refl _))
    cases ha : z.cps.all (· < 128) with
    | true => exact wpAny_pyIter_ascii ha ⟨s1.heap.objs.size, [s1.heap.objs.size], _, _, H1, rfl, I1.kept (t' := s1.toks) fun b o e => Heap.get?_push_of_some _ e, turn_strA z t _, ⟨_, Heap.get?_push_size _ rfl, rfl, rfl⟩, fp, q⟩
    | false => exact wpAny_pyIter_wide ha ⟨s1.heap.objs.size, [s1.heap.objs.size], _, _, H1, rfl, I1.kept (t' := s1.toks) fun b o e => Heap.get?_push_of_some _ e, turn_strW z t _, ⟨_, Heap.get?_push_size _ rfl, rfl, rfl⟩, fp, q⟩
  subst e
  cases r1
  rcases q1 with ⟨⟨xs, hq⟩, q⟩ | ⟨⟨xs, hq⟩, q⟩
  · obtain ⟨its, rv, p, hz⟩ := I1.list hq
    refine wpAny_pyIter_list p.isList ?_
    refine ⟨s1.heap.objs.size, [s1.heap.objs.size], _, _, H1, rfl, I1.kept (t' := s1.toks) fun b o e => Heap.get?_push_of_some _ e, turn_list a _, ⟨_, Heap.get?_push_size _ rfl, rfl, rfl⟩, fun b hb => ?_, q⟩
    have e : b = s1.heap.objs.size := by simpa using hb
    subst e
    exact I1.fpOk (Nat.le_refl _) (I1.hok.fresh (Nat.le_refl _))
  · obtain ⟨its, rv, p, hz⟩ := I1.tuple hq
    refine wpAny_pyIter_tuple (show s1.heap.IsTuple a its.toArray from p) ?_
    refine ⟨s1.heap.objs.size, [s1.heap.objs.size], _, _, H1, rfl, I1.kept (t' := s1.toks) fun b o e => Heap.get?_push_of_some _ e, turn_tuple a _, ⟨_, Heap.get?_push_size _ rfl, rfl, rfl⟩, fun b hb => ?_, q⟩
    have e : b = s1.heap.objs.size := by simpa using hb
    subst e
    exact I1.fpOk (Nat.le_refl _) (I1.hok.fresh (Nat.le_refl _))
theorem it_str {K : PySem.W.Frag} {ad : List Addr} {H : Hp} (z : Str) : ItOk K ad H ⟨signs z, fun _ => True⟩ (Its z) where
  go := fun ad1 H1 S i w st _ hi => by
    show i < z.cps.size
    have : i < (signs z).length := hi
    unfold signs at this
    rw [List.length_map] at this
    simpa using this
  yld := fun ad1 H1 S i d x H' w st _ hd ⟨e, c, hc, hx⟩ => by
    subst e hx
    have hd : (signs z)[i]? = some d := hd
    unfold signs at hd
    rw [List.getElem?_map, Array.getElem?_toList, hc] at hd
    cases hd
    exact ⟨Wd.refl, st, .str _⟩
  stop := fun ad1 H1 S w st _ => by
    show z.cps.size ≤ (signs z).length
    unfold signs
    rw [List.length_map]; simp
theorem it_tup {K : PySem.W.Frag} {ad : List Addr} {H : Hp} {a : Addr} {vs : List V} {ds : List D} (h : H a = some (.tup vs)) (r : RelAll K ad H ds vs) : ItOk K ad H ⟨ds, fun _ => True⟩ (Itt K a) where
  go := fun ad1 H1 S i w st _ hi => ⟨vs, vs[i]'(by rw [← r.length]; exact hi), SqT.of (w.tup _ _ h), List.getElem?_eq_getElem _⟩
  yld := fun ad1 H1 S i d x H' w st _ hd ⟨e, hx⟩ => by
    subst e
    obtain ⟨v, ev, rv⟩ := r.get hd
    rw [hx vs (SqT.of (w.tup _ _ h))] at ev
    cases ev
    exact ⟨Wd.refl, st, rv.wd w⟩
  stop := fun ad1 H1 S w st _ => ⟨vs, SqT.of (w.tup _ _ h), by rw [← r.length]; exact Nat.le_refl _⟩
theorem it_lst {K : PySem.W.Frag} {ad : List Addr} {H : Hp} {a : Addr} {x : D} {ds : List D} (r : Rel K ad H x (.ref a)) : ItOk K ad H ⟨ds, fun S => Lst S x ds⟩ (Itl K a) where
  go := fun ad1 H1 S i w st ok hi => by
    obtain ⟨a', vs, e, s, rs⟩ := Lst.sq st ok (r.wd w)
    cases e
    exact ⟨vs, vs[i]'(by rw [← rs.length]; exact hi), s, List.getElem?_eq_getElem _⟩
  yld := fun ad1 H1 S i d y H' w st ok hd ⟨e, hx⟩ => by
    subst e
    obtain ⟨a', vs, e, s, rs⟩ := Lst.sq st ok (r.wd w)
    cases e
    obtain ⟨v, ev, rv⟩ := rs.get hd
    rw [hx vs s] at ev
    cases ev
    exact ⟨Wd.refl, st, rv⟩
  stop := fun ad1 H1 S w st ok => by
    obtain ⟨a', vs, e, s, rs⟩ := Lst.sq st ok (r.wd w)
    cases e
    exact ⟨vs, s, by rw [← rs.length]; exact Nat.le_refl _⟩
theorem id_seq {t : DE} (h : PD X e t) : PID X tg e (iSeq t) := pi_mono (pi_either h) fun σ H R hh => el8 hh fun ad ρ S R0 st rh q k =>
  ⟨ad, ρ, S, _, st, rh, q, fun x S1 v H1 ad1 q1 w1 st1 r1 => by
    rcases q1 with ⟨xs, rfl, q1⟩ | ⟨xs, hx, q1⟩ | ⟨z, rfl, q1⟩
    · cases r1 with
      | tup h1 rs => exact .inl ⟨_, rfl, .inr ⟨⟨_, SqT.of h1⟩, k _ S1 _ H1 ad1 q1 w1 st1 (it_tup h1 rs)⟩⟩
    · obtain ⟨a, vs, rfl, s, rs⟩ := hx.sq st1 r1
      exact .inl ⟨a, rfl, .inl ⟨⟨vs, s⟩, k _ S1 _ H1 ad1 q1 w1 st1 (it_lst r1)⟩⟩
    · cases r1
      exact .inr ⟨z, rfl, k _ S1 _ H1 ad1 q1 w1 st1 (it_str z)⟩⟩
theorem upto_get {lo : Int} {n i : Nat} {d : D} (h : (upto lo n)[i]? = some d) : i < n ∧ d = .int (lo + i) := by
  unfold upto at h
  rw [List.getElem?_map] at h
  have hi := My.lt_of_get (xs := List.range n) (i := i) (x := i)
  cases hr : (List.range n)[i]? with
  | none => rw [hr] at h; cases h
  | some k =>
    rw [hr] at h
    have h1 := My.lt_of_get hr
    rw [List.length_range] at h1
    have h2 : (List.range n)[i]? = some i := List.getElem?_range h1
    rw [hr] at h2
    cases h2
    cases h
    exact ⟨h1, rfl⟩
theorem upto_len (lo : Int) (n : Nat) : (upto lo n).length = n := by unfold upto; rw [List.length_map, List.length_range]
theorem it_rng {K : PySem.W.Frag} {ad : List Addr} {H : Hp} (lo : Int) (n : Nat) : ItOk K ad H ⟨upto lo n, fun _ => True⟩ (Itr lo n) where
  go := fun ad1 H1 S i w st _ hi => by rw [upto_len] at hi; exact hi
  yld := fun ad1 H1 S i d x H' w st _ hd ⟨e, hx⟩ => by
    subst e
    obtain ⟨_, rfl⟩ := upto_get hd
    rw [hx]
    exact ⟨Wd.refl, st, .int _⟩
  stop := fun ad1 H1 S w st _ => by rw [upto_len]; exact Nat.le_refl _
theorem turn_long {P : Program} {w : World} {K : PySem.W.Frag} {tg : Expr} (it : Addr) (lo : Int) (n : Nat) : Turn P w K tg (Itr lo n) [it] it (fun i h => IsLongIter h it (lo + (i : Nat) * 1) ((n : Int) - (i : Nat)) 1) where
  mem := by simp
  obj := fun i h st b hb => by
    have e : b = it := by simpa using hb
    subst e
    exact ⟨_, st, fun v z => by
      have z' : Data.fields _ = Data.cell v := z
      cases z'⟩
  keep := fun i h h' st k => k it (by simp) _ st
  item := by
    intro X hP hw hK hc i pins s σ H E I hf st' hg
    subst hP hw hK
    obtain ⟨f0, f1, f2, f3, f4, f5⟩ := hf it (by simp)
    have W := Walks.longrange (prog := X.prog) (w := X.w) (I.ok.hd hc) it lo 1 n
    refine W.item i s _ _ hg st' fun v h' tk hv st'' kk => ?_
    obtain ⟨t, rfl⟩ := hv
    have I1 : Inv X pins σ H { s with heap := h', toks := tk } := I.turned (fun b o hb e => kk b o (by simpa using hb) e) f0 f1 f3 f4 f5
    rw [Int.mul_one]
    exact ⟨_, rfl, go_of (s := { s with heap := h', toks := tk }) (n := "longrange_iterator") st'' rfl rfl (by decide) ⟨.int (lo + i), H, I1, ⟨t, rfl⟩, ⟨rfl, rfl⟩, st'', fun b hb => (hf b hb).1⟩⟩
  done := by
    intro X hP hw hK hc i pins s σ H E I hf st' hg
    subst hP hw hK
    obtain ⟨f0, f1, f2, f3, f4, f5⟩ := hf it (by simp)
    exact wpAny_pyNext_long_end (I.ok.hd hc) st' (by have : n ≤ i := hg; omega) fun h' eb => ⟨rfl, I.turned (t' := s.toks) (fun b o hb e => eb b o hb e) f0 f1 f3 f4 f5⟩
  self := fun _ _ _ _ _ st h => wpAny_pyIter_longiter st h
theorem range_any {pins : List (Addr × Obj)} {σ : L2.St} {H : Hp} {s : Shared} {R : It → Hp → Prop} {E : Value → Shared → Prop} {lo hi : Int} {t u v : Tok} {tk : Nat} (I : Inv X pins σ H s)
    (q : R (Itr lo (hi - lo).toNat) H) : wpAny (model X.prog X.w) X.A (pyIter (.ref s.heap.objs.size)) (PIE X pins σ tg R) E { s with heap := s.heap.push { cls := .type "range", data := .fields #[.int lo t, .int hi u, .int 1 v] }, toks := tk } := by
  have I1 : Inv X pins σ H { s with heap := s.heap.push { cls := .type "range", data := .fields #[.int lo t, .int hi u, .int 1 v] }, toks := tk } := I.kept fun b o e => Heap.get?_push_of_some _ e
  have e1 : lo + ((0 : Nat) : Int) * 1 = lo := by simp
  have e2 : (((hi - lo).toNat : Nat) : Int) - ((0 : Nat) : Int) = Builtin.Range.rangeSize lo hi 1 := by rw [rangeSize_one]; split <;> omega
  cases hsm : Builtin.Range.small lo hi 1 with
  | true =>
    refine wpAny_pyIter_range (IsRange.new ..) hsm ?_
    refine ⟨(s.heap.push { cls := .type "range", data := .fields #[.int lo t, .int hi u, .int 1 v] }).objs.size, [(s.heap.push { cls := .type "range", data := .fields #[.int lo t, .int hi u, .int 1 v] }).objs.size], _, _, H, rfl,
      I1.kept (t' := tk) fun b o e => Heap.get?_push_of_some _ e, turn_range _ lo (hi - lo).toNat, ?_, fun b hb => ?_, q⟩
    · show IsRangeIter _ _ (lo + ((0 : Nat) : Int) * 1) ((((hi - lo).toNat : Nat) : Int) - ((0 : Nat) : Int)) 1
      rw [e1, e2]
      exact Heap.get?_push_size _ rfl
    · have e : b = (s.heap.push { cls := .type "range", data := .fields #[.int lo t, .int hi u, .int 1 v] }).objs.size := by simpa using hb
      subst e
      exact I1.fpOk (Nat.le_refl _) (I1.hok.fresh (Nat.le_refl _))
  | false =>
    refine wpAny_pyIter_longrange (IsRange.new ..) hsm ?_
    refine ⟨(s.heap.push { cls := .type "range", data := .fields #[.int lo t, .int hi u, .int 1 v] }).objs.size, [(s.heap.push { cls := .type "range", data := .fields #[.int lo t, .int hi u, .int 1 v] }).objs.size], _, _, H, rfl,
      I1.kept (t' := tk) fun b o e => Heap.get?_push_of_some _ e, turn_long _ lo (hi - lo).toNat, ?_, fun b hb => ?_, q⟩
    · show IsLongIter _ _ (lo + ((0 : Nat) : Int) * 1) ((((hi - lo).toNat : Nat) : Int) - ((0 : Nat) : Int)) 1
      rw [e1, e2]
      exact Heap.get?_push_size _ rfl
    · have e : b = (s.heap.push { cls := .type "range", data := .fields #[.int lo t, .int hi u, .int 1 v] }).objs.size := by simpa using hb
      subst e
      exact I1.fpOk (Nat.le_refl _) (I1.hok.fresh (Nat.le_refl _))
theorem id_rng1 {a : Expr} {t : DA} {p pos : Pos} (hg : Gl X "range") (hm : X.mg "range" = none) (ha : PAD X [a] t) (hs : starEach [a] X.env = [(false, eval a X.env)] := by rfl) : PID X tg (.Call (.Name "range" p) [a] [] pos) (iRng1 t) := pi_mono (pi_range1 hg hm ha hs) fun σ H R hh => el8 hh fun ad ρ S R0 st rh q k =>
  ⟨ad, ρ, S, _, st, rh, q, fun ds S1 vs H1 ad1 ⟨j, ed, b1, b2, q1⟩ w1 st1 r1 => by
    subst ed
    obtain ⟨v, rfl, rv⟩ := rel1 r1
    cases rv
    exact ⟨j, rfl, b1, b2, k _ S1 _ H1 ad1 q1 w1 st1 (it_rng 0 j.toNat)⟩⟩
theorem id_rng2 {a b : Expr} {t : DA} {p pos : Pos} (hg : Gl X "range") (hm : X.mg "range" = none) (ha : PAD X [a, b] t) (hs : starEach [a, b] X.env = [(false, eval a X.env), (false, eval b X.env)] := by rfl) (hs2 : starEach [b] X.env = [(false, eval b X.env)] := by rfl) :
    PID X tg (.Call (.Name "range" p) [a, b] [] pos) (iRng2 t) := by
  rintro pins s σ H R I ⟨ad, ρ, S, R0, st, rh, q, k⟩
  refine Call_ (ld_blt I hg hm boot_range (PyProof.Rows.callWith_type1 (thn (ha pos pins s σ H (fun vs H1 => ∃ i j : Int, vs = [.int i, .int j] ∧ R (Itr i (j - i).toNat) H1) I ⟨ad, ρ, S, _, st, rh, q, fun ds S1 vs H1 ad1 ⟨i, j, ed, q1⟩ w1 st1 r1 => by
    subst ed
    obtain ⟨v, u, rfl, rv, ru⟩ := rel2 r1
    cases rv
    cases ru
    exact ⟨i, j, rfl, k _ S1 _ H1 ad1 q1 w1 st1 (it_rng i _)⟩⟩) fun us s1 ⟨vs, H1, I1, r1, q1⟩ => ?_) (by rw [hs, hs2]) (by rw [hs2]; rfl)))
  obtain ⟨i, j, e, q⟩ := q1
  subst e
  cases r1 with
  | cons r rr =>
    cases rr with
    | cons r' rr =>
      cases rr
      obtain ⟨t, rfl⟩ := r
      obtain ⟨t', rfl⟩ := r'
      exact call_range_2 (range_any I1 q)
theorem psd_for {iter : Expr} {body : List Stmt} {wi : DI} {g : DG} {t : DS} {pos : Pos} (hp : PassesOwn (model X.prog X.w) X.A X.env X.xe) (hc : X.calm = true) (hi : PID X tg iter wi) (hg : PGD X 1000 tg g) (hb : PSsD X body t) (hs : ∀ x, foldedSetIterable iter X.env x = pure x := by intro _; rfl) : PSD X (.For tg iter body [] pos) (sFor wi g t) := by
  obtain ⟨g', pg, rg⟩ := hg
  refine ps_mono (ps_for hp hc hi pg hb hs) fun E σ H hh => el8 hh fun ad ρ S E0 so rh q k => ?_
  refine ⟨ad, ρ, S, _, so, rh, q, fun J0 S1 J H1 ad1 ⟨W, w0, hok, step, fin⟩ d1 st1 it => ?_⟩
  refine ⟨fun i m σ' H' => m = J0.items.length - i ∧ i ≤ J0.items.length ∧ ∃ ad' ρ' S', W i ρ' S' ∧ Wd ad1 H1 ad' H' ∧ StOk X.K ad' H' S' ∧ RhoOk X.K ad' H' ρ' σ', ⟨J0.items.length, rfl, Nat.zero_le _, ad1, ρ, S1, w0, Wd.refl, st1, rh.wd d1⟩, ?_⟩
  rintro i m σ2 H2 ⟨rfl, hi2, ad2, ρ2, S2, w2, d2, st2, rh2⟩
  by_cases hlt : i < J0.items.length
  · have ed : J0.items[i]? = some J0.items[i] := List.getElem?_eq_getElem hlt
    refine .inr ⟨it.go ad2 H2 S2 i d2 st2 (hok _ _ _ w2) hlt, fun σ' H' => ∃ ad' ρ' S', W (i + 1) ρ' S' ∧ Wd ad1 H1 ad' H' ∧ StOk X.K ad' H' S' ∧ RhoOk X.K ad' H' ρ' σ', ?_, fun x H' hy => ?_⟩
    · rintro σ' H' ⟨ad', ρ', S', w', d', st', rh'⟩
      exact ⟨J0.items.length - (i + 1), by omega, rfl, hlt, ad', ρ', S', w', d', st', rh'⟩
    · obtain ⟨d3, st3, r3⟩ := it.yld ad2 H2 S2 i _ x H' d2 st2 (hok _ _ _ w2) ed hy
      refine rg ad2 H' S2 ρ2 σ2 _ x _ _ st3 (rh2.wd d3) r3 (step i _ ρ2 S2 ed w2) fun ρ4 S4 σ4 H4 ad4 q4 d4 st4 rh4 _ _ => ?_
      have d14 := (d2.trans d3).trans d4
      have d04 := d1.trans d14
      exact ⟨ad4, ρ4, S4, { E0 with nx := W (i + 1), ct := W (i + 1), bk := E0.nx }, st4, rh4, q4, ⟨fun ρ' S' σ' H' ad' q' w' st' rh' => ⟨ad', ρ', S', q', d14.trans w', st', rh'⟩, k.rt.wd d04, fun ρ' S' σ' H' ad' q' w' st' rh' => k.nx ρ' S' σ' H' ad' q' (d04.trans w') st' rh', fun ρ' S' σ' H' ad' q' w' st' rh' => ⟨ad', ρ', S', q', d14.trans w', st', rh'⟩⟩⟩
  · have e : i = J0.items.length := by omega
    subst e
    exact .inl ⟨it.stop ad2 H2 S2 d2 st2 (hok _ _ _ w2), k.nx ρ2 S2 σ2 H2 ad2 (fin ρ2 S2 w2) (d1.trans d2) st2 rh2⟩
end
theorem agr_of : ∀ {a b : L2.St} (n : Nat), (∀ j, j < n → a[j]? = some none ∨ a.length ≤ j) → b.length = a.length → (∀ j, n ≤ j → b[j]? = a[j]?) → Agr a b
  | [], [], _, _, _, _ => True.intro
  | [], _ :: _, _, _, h, _ => by simp at h
  | _ :: _, [], _, _, h, _ => by simp at h
  | x :: a, y :: b, n, h0, hl, h => by
    have hl' : b.length = a.length := by simpa using hl
    cases n with
    | zero =>
      have e := h 0 (Nat.le_refl _)
      have e' : y = x := by simpa using e
      subst e'
      have rest : Agr a b := agr_of 0 (fun j hj => absurd hj (Nat.not_lt_zero _)) hl' fun j _ => by simpa using h (j + 1) (Nat.zero_le _)
      cases y with
      | none => exact rest
      | some v => exact ⟨rfl, rest⟩
    | succ n =>
      have rest : Agr a b := agr_of n (fun j hj => by
        rcases h0 (j + 1) (by omega) with e | e
        · exact .inl (by simpa using e)
        · exact .inr (by simpa using e)) hl' fun j hj => by simpa using h (j + 1) (by omega)
      rcases h0 0 (Nat.succ_pos _) with e | e
      · have e' : x = none := by simpa using e
        subst e'
        exact rest
      · simp at e
theorem rho_cst {K : PySem.W.Frag} {ad : List Addr} {H : Hp} {ρ : Rho} {σ : L2.St} (h : RhoOk K ad H ρ σ) (own : List Str) (fv : List Nat) : RhoOk K ad H (cstD own.length fv ρ) (cst own fv σ) where
  len := by unfold cstD cst; rw [List.length_append, List.length_append, List.length_replicate, List.length_replicate, List.length_map, List.length_map]
  val := fun i d e => by
    unfold cstD at e
    unfold cst
    by_cases hi : i < own.length
    · rw [List.getElem?_append_left (by rw [List.length_replicate]; exact hi), List.getElem?_replicate] at e
      split at e <;> cases e
    · have hi' : own.length ≤ i := Nat.le_of_not_lt hi
      rw [List.getElem?_append_right (by rw [List.length_replicate]; exact hi'), List.length_replicate, List.getElem?_map] at e
      rw [List.getElem?_append_right (by rw [List.length_replicate]; exact hi'), List.length_replicate, List.getElem?_map]
      cases hf : fv[i - own.length]? with
      | none => rw [hf] at e; cases e
      | some j =>
        rw [hf] at e
        simp only [Option.map_some, Option.some.injEq] at e ⊢
        cases hr : ρ[j]? with
        | none => rw [hr] at e; cases e
        | some o =>
          rw [hr] at e
          have e' : o = some d := e
          subst e'
          obtain ⟨v, ev, rv⟩ := h.val j d hr
          exact ⟨v, by rw [ev]; rfl, rv⟩
def PFsD (X : Cx) (ifs : List Expr) (t : DT) : Prop := PFs X ifs (upT X.K t)
theorem pfd_nil {X : Cx} : PFsD X [] dTrue := fun pins s σ H Q I hh => el8 hh fun ad ρ S Q0 st rh q k => pf_nil pins s σ H Q I (k true S H ad q Wd.refl st)
theorem pfd_one {X : Cx} {c : Expr} {t : DT} (h : PTD X c t) : PFsD X [c] t := pf_one h
theorem ofT {A B : Prop} (h : if true = true then A else B) : A := by rw [if_pos rfl] at h; exact h
theorem ofF {A B : Prop} (h : if false = true then A else B) : B := by rw [if_neg Bool.false_ne_true] at h; exact h
theorem up_lc {K : PySem.W.Frag} {own : List Str} {fv : List Nat} {wi : DI} {g : DG} {g' : TG} {tc : DT} {te : DE} (rg : GRel K own.length g g') {σ : L2.St} {H : Hp} {Q : VK} (h : up K (dLC own.length fv wi g tc te) σ H Q) : tLC own fv (upI K wi) g' (upT K tc) (up K te) σ H Q := by
  obtain ⟨ad, ρ, S, Q0, so, rh, q, k⟩ := h
  refine ⟨ad, ρ, S, _, so, rh, q, fun J0 S1 J H1 ad1 ⟨hbig, W, w0, hok, step, fin⟩ d1 st1 it => ?_⟩
  intro p hp
  refine ⟨fun i m H' => m = J0.items.length - i ∧ i ≤ J0.items.length ∧ ∃ ad' S' ys vs, W i ys S' ∧ Wd ad1 H1 ad' H' ∧ StOk K ad' H' S' ∧ p ∉ ad' ∧ H' p = some (.lst vs) ∧ RelAll K ad' H' ys vs ∧ vs.length ≤ i,
    ⟨J0.items.length, rfl, Nat.zero_le _, ad1, S1, [], [], w0, Wd.laid hp, st1.laid hp, st1.fresh hp, upd_same, .nil, Nat.le_refl _⟩, ?_⟩
  rintro i m H2 ⟨rfl, hi2, ad2, S2, ys, vs, w2, d2, st2, hp2, hv2, r2, hl2⟩
  by_cases hlt : i < J0.items.length
  · have ed : J0.items[i]? = some J0.items[i] := List.getElem?_eq_getElem hlt
    refine .inr ⟨it.go ad2 H2 S2 i d2 st2 (hok _ _ _ w2) hlt, fun x H' hy => ?_⟩
    obtain ⟨d3, st3, r3⟩ := it.yld ad2 H2 S2 i _ x H' d2 st2 (hok _ _ _ w2) ed hy
    have rh3 := rho_cst (rh.wd ((d1.trans d2).trans d3)) own fv
    refine rg ad2 H' S2 _ _ _ x _ _ st3 rh3 r3 (step i _ ys S2 ed w2) fun ρ4 S4 σ4 H4 ad4 q4 d4 st4 rh4 l4 a4 => ?_
    refine ⟨agr_of own.length (fun j hj => .inl ?_) l4 a4, ad4, ρ4, S4, _, st4, rh4, q4, fun b S5 H5 ad5 q5 d5 st5 => ?_⟩
    · unfold cst
      rw [List.getElem?_append_left (by rw [List.length_replicate]; exact hj), List.getElem?_replicate, if_pos hj]
    have fwd : ∀ {ad9 : List Addr} {H9 : Hp}, Wd ad2 H2 ad9 H9 → p ∉ ad9 ∧ H9 p = some (.lst vs) := fun {ad9 H9} w => ⟨(fun m => by
      have z := w.new p m hp2
      rw [hv2] at z; cases z), w.keep p _ hp2 hv2⟩
    have d25 := (d3.trans d4).trans d5
    cases b with
    | true =>
      refine iteT ?_
      have q5 := Dp.ofT q5
      refine ⟨ad5, ρ4, S5, _, st5, rh4.wd d5, q5, fun y S6 v H6 ad6 q6 d6 st6 r6 => ?_⟩
      have d26 := d25.trans d6
      obtain ⟨n6, e6⟩ := fwd d26
      have hw : Wr ad6 H6 ad6 (upd H6 p (.lst (vs ++ [v]))) := Wr.hid e6
      have hvl : vs.length < sizeLine := big_lt (by omega)
      exact ⟨vs, e6, hvl, J0.items.length - (i + 1), by omega, rfl, hlt, ad6, S6, ys ++ [y], vs ++ [v], q6, (d2.trans d26).hid hp, st6.hid e6 n6 (st1.bfree hp), n6, upd_same, RelAll.wr hw ((r2.wd d26).append (.cons r6 .nil)), by rw [List.length_append]; exact Nat.succ_le_succ hl2⟩
    | false =>
      refine iteF ?_
      have q5 := Dp.ofF q5
      obtain ⟨n5, e5⟩ := fwd d25
      exact ⟨J0.items.length - (i + 1), by omega, rfl, hlt, ad5, S5, ys, vs, q5, d2.trans d25, st5, n5, e5, r2.wd d25, by omega⟩
  · have e : i = J0.items.length := by omega
    subst e
    refine .inl ⟨it.stop ad2 H2 S2 d2 st2 (hok _ _ _ w2), ?_⟩
    exact k _ _ _ _ (ad2 ++ [p]) (fin ys S2 w2) (d1.trans (d2.add hp)) (st2.add hv2 hp2 r2 (st1.bfree hp)) (.ref (by rw [← st2.len, List.getElem?_append_right (Nat.le_refl _), Nat.sub_self]; rfl))
section
variable {X : Cx} {sc : Scope} {tg iter elt : Expr} {ifs : List Expr} {own free : List Str} {fv : List Nat} {wi : DI} {g : DG} {tc : DT} {te : DE} {pos : Pos}
theorem pd_lc {g' : TG} (hcalm : X.calm = true) (hxe : X.xe = fun _ _ => False) (hkind : sc.kind = .function) (hcell : ∀ y ∈ sc.names, y.2 ≠ .cell) (hnames : ∀ y ∈ sc.names, y.2 = .local → sc.names.lookup y.1 = some .local)
    (hfr : FrAll (fun x => X.env.kindOf x = some .cell) sc.names) (hfv : FvOk X sc free fv) (hi : PID X tg iter wi)
    (hg : GRel X.K own.length g g' ∧ ∀ cl C s₀ H₀ ex, PG (inner X sc (own ++ free) cl C s₀ H₀ ex) tg g') (ht : ∀ cl C s₀ H₀ ex, PFsD (inner X sc (own ++ free) cl C s₀ H₀ ex) ifs tc) (he : ∀ cl C s₀ H₀ ex, PD (inner X sc (own ++ free) cl C s₀ H₀ ex) elt te)
    (hs : ∀ x, foldedSetIterable iter X.env x = pure x := by intro _; rfl) : PD X (.ListComp elt [⟨tg, iter, ifs, 0⟩] sc pos) (dLC own.length fv wi g tc te) :=
  pd_of (pe_lc (tc := upT X.K tc) (te := up X.K te) hcalm hxe hkind hcell hnames hfr hfv hi hg.2 ht he hs) fun _ _ _ => up_lc hg.1
theorem psd_setC {g' : TG} {i : Nat} {y : Str} {py spos : Pos} (hN : X.N.Nodup) (hy : X.N[i]? = some y) (hyl : X.env.scope.names.lookup y = some .local) (hcalm : X.calm = true) (hxe : X.xe = fun _ _ => False) (hkind : sc.kind = .function) (hcell : ∀ y ∈ sc.names, y.2 ≠ .cell) (hnames : ∀ y ∈ sc.names, y.2 = .local → sc.names.lookup y.1 = some .local)
    (hfr : FrAll (fun x => X.env.kindOf x = some .cell) sc.names) (hfv : FvOk X sc free fv) (hi : PID X tg iter wi)
    (hg : GRel X.K own.length g g' ∧ ∀ cl C s₀ H₀ ex, PG (inner X sc (own ++ free) cl C s₀ H₀ ex) tg g') (ht : ∀ cl C s₀ H₀ ex, PFsD (inner X sc (own ++ free) cl C s₀ H₀ ex) ifs tc) (he : ∀ cl C s₀ H₀ ex, PD (inner X sc (own ++ free) cl C s₀ H₀ ex) elt te)
    (hsw : swapsWith (.ListComp elt [⟨tg, iter, ifs, 0⟩] sc pos) (some (.Name y py)) spos.line X.env = pure true := by rfl)
    (hs : ∀ x, foldedSetIterable iter X.env x = pure x := by intro _; rfl) : PSD X (.Assign [.Name y py] (.ListComp elt [⟨tg, iter, ifs, 0⟩] sc pos) spos) (sAsg (dLC own.length fv wi g tc te) (gName i)) :=
  ps_mono (ps_setC (tc := upT X.K tc) (te := up X.K te) hN hy hyl hcalm hxe hkind hcell hnames hfr hfv hi hg.2 ht he hsw hs) fun E σ H hh => el8 hh fun ad ρ S E0 so rh q k =>
    up_lc (Q := fun x H1 => L2.gName i x σ H1 E.nx) hg.1 ⟨ad, ρ, S, _, so, rh, q, fun d S' v H' ad' q' w st' r => k.nx _ S' _ H' ad' q' w st' ((rh.wd w).set r i)⟩
theorem gsrel_nil {K : PySem.W.Frag} {b : Nat} : GsRel K b gNil L2.gNil := fun ad H S ρ σ ds vs Q0 Q st rh r ⟨e, q⟩ k => by
  subst e
  cases r
  exact ⟨rfl, k ρ S σ H ad q Wd.refl st rh rfl fun _ _ => rfl⟩
theorem gsrel_cons {K : PySem.W.Frag} {b : Nat} {t : DG} {u : DGs} {t' : TG} {u' : TGs} (r1 : GRel K b t t') (r2 : GsRel K b u u') : GsRel K b (gCons t u) (L2.gCons t' u') := fun ad H S ρ σ ds vs Q0 Q st rh r ⟨d, rs, ed, q⟩ k => by
  subst ed
  cases r with
  | cons r t =>
    refine ⟨_, _, rfl, r1 ad H S ρ σ d _ _ _ st rh r q fun ρ1 S1 σ1 H1 ad1 q1 w1 st1 rh1 l1 a1 => ?_⟩
    exact r2 ad1 H1 S1 ρ1 σ1 _ _ _ _ st1 rh1 (t.wd w1) q1 fun ρ2 S2 σ2 H2 ad2 q2 w2 st2 rh2 l2 a2 => k ρ2 S2 σ2 H2 ad2 q2 (w1.trans w2) st2 rh2 (l2.trans l1) fun j hj => (a2 j hj).trans (a1 j hj)
theorem grel_tup {K : PySem.W.Frag} {b n : Nat} {t : DGs} {t' : TGs} (r : GsRel K b t t') : GRel K b (gTup n t) (L2.gTup K n t') := fun ad H S ρ σ d v Q0 Q st rh rv ⟨xs, ed, hl, q⟩ k => by
  subst ed
  cases rv with
  | tup h1 rs => exact ⟨_, _, rfl, SqT.of h1, by rw [← rs.length]; exact hl, r ad H S ρ σ xs _ _ _ st rh rs q k⟩
end
theorem start_ok {K : PySem.W.Frag} {ad : List Addr} {H : Hp} {ds : List D} {vs : List V} (N : List Str) (r : RelAll K ad H ds vs) : RhoOk K ad H (startD N.length ds) (L2.start N vs) where
  len := by unfold startD L2.start; rw [List.length_append, List.length_append, List.length_map, List.length_map, List.length_replicate, List.length_replicate, r.length]
  val := fun i d e => by
    unfold startD at e
    unfold L2.start
    by_cases hi : i < ds.length
    · rw [List.getElem?_append_left (by rw [List.length_map]; exact hi), List.getElem?_map] at e
      rw [List.getElem?_append_left (by rw [List.length_map, ← r.length]; exact hi), List.getElem?_map]
      cases hd : ds[i]? with
      | none => rw [hd] at e; cases e
      | some d' =>
        rw [hd] at e
        cases e
        obtain ⟨v, ev, rv⟩ := r.get hd
        exact ⟨v, by rw [ev]; rfl, rv⟩
    · rw [List.getElem?_append_right (by rw [List.length_map]; exact Nat.le_of_not_lt hi), List.getElem?_replicate] at e
      split at e <;> cases e
theorem RelAll.cut1 {K : PySem.W.Frag} {ad ad' : List Addr} {H : Hp} (k : Nat) (h1 : ∀ d v, fl k d = true → Rel K ad H d v → Rel K ad' H d v) : ∀ ds vs, ds.all (fl k) = true → RelAll K ad H ds vs → RelAll K ad' H ds vs := by
  intro ds
  induction ds with
  | nil => intro vs _ r; cases r; exact .nil
  | cons d ds ih =>
    intro vs hf r
    rw [List.all_cons, Bool.and_eq_true] at hf
    cases r with
    | cons r t => exact .cons (h1 d _ hf.1 r) (ih _ hf.2 t)
theorem Rel.cut {K : PySem.W.Frag} {ad ad' : List Addr} {H : Hp} : ∀ (k : Nat) (d : D) (v : V), fl k d = true → Rel K ad H d v → Rel K ad' H d v := by
  intro k
  induction k with
  | zero =>
    intro d v hf r
    cases r with
    | non => exact .non
    | bl b => exact .bl b
    | int i => exact .int i
    | str x => exact .str x
    | ty n => cases hf
    | tup h r => cases hf
    | rl h r => cases hf
    | ref h => cases hf
    | exn _ _ _ => cases hf
  | succ k ih =>
    intro d v hf r
    cases r with
    | non => exact .non
    | bl b => exact .bl b
    | int i => exact .int i
    | str x => exact .str x
    | ty n => cases hf
    | tup h r => exact .tup h (RelAll.cut1 k ih _ _ hf r)
    | rl h r => cases hf
    | ref h => cases hf
    | exn _ _ _ => cases hf
theorem RelAll.cut {K : PySem.W.Frag} {ad ad' : List Addr} {H : Hp} (k : Nat) (ds : List D) (vs : List V) (hf : ds.all (fl k) = true) (r : RelAll K ad H ds vs) : RelAll K ad' H ds vs := RelAll.cut1 k (Rel.cut k) ds vs hf r
end Dp
namespace Dp
open PySem PySem.Spec PyProof.Rows L2 My
variable [B : Bs]
mutual
theorem Rel.low {K : PySem.W.Frag} {ad ad' : List Addr} {H H' : Hp} {m : Nat} (hm : ad.length ≤ m) : ∀ {d : D} {u v : V}, Rel K ad H d u → Rel K ad' H' d v → Rel K (ad'.take m) H' d v
  | _, _, _, .non, .non => .non
  | _, _, _, .bl b, .bl _ => .bl b
  | _, _, _, .int i, .int _ => .int i
  | _, _, _, .str x, .str _ => .str x
  | _, _, _, .ty n, .ty _ => .ty n
  | _, _, _, .tup _ r, .tup h r' => .tup h (RelAll.low hm r r')
  | _, _, _, .rl _ r, .rl h r' => .rl h (RelAll.low hm r r')
  | _, _, _, .exn _ _ _, .exn h e n => .exn h e n
  | _, _, _, .ref h, .ref h' => .ref (by rw [List.getElem?_take_of_lt (Nat.lt_of_lt_of_le (My.lt_of_get h) hm)]; exact h')
theorem RelAll.low {K : PySem.W.Frag} {ad ad' : List Addr} {H H' : Hp} {m : Nat} (hm : ad.length ≤ m) : ∀ {ds : List D} {us vs : List V}, RelAll K ad H ds us → RelAll K ad' H' ds vs → RelAll K (ad'.take m) H' ds vs
  | _, _, _, .nil, .nil => .nil
  | _, _, _, .cons r t, .cons r' t' => .cons (Rel.low hm r r') (RelAll.low hm t t')
end
theorem RelF.low {K : PySem.W.Frag} {ad ad' : List Addr} {H H' : Hp} {m : Nat} (hm : ad.length ≤ m) : ∀ {fs : List (Str × D)} {us vs : List (Str × V)}, RelF K ad H fs us → RelF K ad' H' fs vs → RelF K (ad'.take m) H' fs vs
  | _, _, _, .nil, .nil => .nil
  | _, _, _, .cons r t, .cons r' t' => .cons (Rel.low hm r r') (RelF.low hm t t')
theorem fin_ok {K : PySem.W.Frag} {ad : List Addr} {H : Hp} {S : Sto} {Q0 : DK} {Q : VK} (st : StOk K ad H S) (k : KK K ad H Q0 Q) : KK K ad H (Fin S Q0) Q := by
  intro d S' v H' ad' hf w st' r
  rcases hf with q | ⟨S1, pre, hlen, hd, hc, q⟩
  · exact k d S' v H' ad' q w st' r
  have hS : S1.length ≤ S'.length := pre.length_le
  have had : ad.length ≤ S1.length := by rw [st.len]; exact hlen
  have htk : ∀ {n : Nat} {a : Addr}, (ad'.take S1.length)[n]? = some a → ad'[n]? = some a := fun {n a} e => by
    have hn := My.lt_of_get e
    rw [List.length_take] at hn
    rw [List.getElem?_take_of_lt (by omega)] at e
    exact e
  have w1 : Wd ad H (ad'.take S1.length) H' := by
    refine ⟨?_, w.keep, w.tup, w.frz, fun b m n => w.new b (List.mem_of_mem_take m) n⟩
    obtain ⟨t, rfl⟩ := w.pre
    rw [List.take_append, List.take_of_length_le had]
    exact List.prefix_append _ _
  refine k d S1 v H' _ q w1 ⟨st.wd.trans w1, by rw [List.length_take, st'.len]; omega, st'.nd.sublist (List.take_sublist _ _), fun n a c e1 e2 => ?_⟩ ?_
  · have e1' := htk e1
    have ok := st'.cell n a c e1' (pre_get pre e2)
    rcases hc n c e2 with h | h
    · obtain ⟨a0, ea, ok0⟩ := st.get h
      cases c with
      | ins c fs =>
        obtain ⟨C, dx, vs, hv, c1, c2, rv, hn⟩ := ok
        obtain ⟨_, _, us, _, _, _, ru, _⟩ := ok0
        exact ⟨C, dx, vs, hv, c1, c2, RelF.low had ru rv, hn⟩
      | lst xs =>
        obtain ⟨vs, hv, rv⟩ := ok
        obtain ⟨us, hu, ru⟩ := ok0
        exact ⟨vs, hv, RelAll.low had ru rv⟩
    · cases c with
      | ins c fs => cases h
      | lst xs =>
        obtain ⟨vs, hv, rv⟩ := ok
        exact ⟨vs, hv, RelAll.cut 20 _ _ h rv⟩
  · rcases hd with h | ⟨n, rfl, hn⟩
    · exact Rel.cut 20 _ _ h r
    · cases r with
      | ref e => exact .ref (by rw [List.getElem?_take_of_lt hn]; exact e)
omit B in
theorem fn_deep {P : Program} {w : World} {K : PySem.W.Frag} {mg : Str → Option Value} {base : Heap} {x qual : Str} {st : Stmt} {f : Addr} {fd : FuncData} {N ps : List Str} {k : Nat} {sp : DSp} {b : DS} (F : Fun K x qual st f fd) (S : FnScope N ps (defScope st))
    (len : ∀ ds So Q, sp ds So Q → ds.length = ps.length) (body : BodyOk N.length b sp)
    (term : ∀ (cdv : Value) (A : Around) (outer : List Env) (s : Shared) (H : Hp) (E : XK), Room k (A.deeper (envOfC qual (defScope st) s.heap.objs.size f cdv)) → ∀ [Bs], PSsD (cxOf CX0 P w K mg base N qual (defScope st) f cdv A outer s H E).nox (defBody st) b) :
    FnOk P w K mg base CX0 (k + 1) f fd ps (upF K sp) := by
  refine F.ok S (fun vs H Q E ⟨ad, So, ds, Q0, so, r, hf, kk⟩ => by rw [← r.length]; exact len ds So Q0 hf) fun cdv A outer s H vs Q E hr ⟨ad, So, ds, Q0, so, r, hf, kk⟩ => ?_
  letI : Bs := ⟨ad, H⟩
  refine ⟨_, term cdv A outer s H E hr, ad, startD N.length ds, So, _, so, start_ok N r, body ds So Q0 hf, ⟨fun ρ S' σ H' ad' q w' st' rh => fin_ok so kk .non S' .non H' ad' q w' st' .non, fin_ok so kk, fun _ _ _ _ _ q => q.elim, fun _ _ _ _ _ q => q.elim⟩⟩
omit B in
theorem law_sp {K : PySem.W.Frag} {H : Hp} {a : Addr} {ns : List Int} (hl : ns.length ≤ 63) (hO : Only H) (hS : SqL K H a (ns.map V.int)) : upF K sp_law [.ref a] H (fun v _ => v = .bl true) fun _ _ _ => False := by
  have hr : SqLr K H a (ns.map V.int) := by
    rcases hS with (h | h) | h
    · rcases hO a with e | ⟨o, xs, e⟩
      · rw [h] at e; cases e
      · rw [h] at e; cases e
    · exact .inl h
    · exact .inr h
  refine ⟨[], [], [.rl (ns.map D.int)], fun d _ => d = .bl true, @StOk.mk ⟨[], H⟩ _ _ _ _ Wd.refl rfl List.nodup_nil (fun n a c e => by simp at e), .cons (.rl hr (RelAll.mk_ints ns)) .nil, ⟨ns, rfl, rfl, hl, fun _ => rfl⟩, fun d S' v H' ad' q w st' r => ?_⟩
  have q' : d = .bl true := q
  subst q'
  cases r
  rfl
omit B in
theorem len_1 {us : List Value} (hl : us.length = 1) : ∃ a0, us = [a0] := by
    cases us with
    | nil => simp at hl
    | cons a0 us =>
    cases us with
    | nil => exact ⟨a0, rfl⟩
    | cons b us => simp at hl
omit B in
theorem len_2 {us : List Value} (hl : us.length = 2) : ∃ a0 a1, us = [a0, a1] := by
    cases us with
    | nil => simp at hl
    | cons a0 us =>
    cases us with
    | nil => simp at hl
    | cons a1 us =>
    cases us with
    | nil => exact ⟨a0, a1, rfl⟩
    | cons b us => simp at hl
omit B in
theorem len_3 {us : List Value} (hl : us.length = 3) : ∃ a0 a1 a2, us = [a0, a1, a2] := by
    cases us with
    | nil => simp at hl
    | cons a0 us =>
    cases us with
    | nil => simp at hl
    | cons a1 us =>
    cases us with
    | nil => simp at hl
    | cons a2 us =>
    cases us with
    | nil => exact ⟨a0, a1, a2, rfl⟩
    | cons b us => simp at hl
omit B in
theorem len_4 {us : List Value} (hl : us.length = 4) : ∃ a0 a1 a2 a3, us = [a0, a1, a2, a3] := by
    cases us with
    | nil => simp at hl
    | cons a0 us =>
    cases us with
    | nil => simp at hl
    | cons a1 us =>
    cases us with
    | nil => simp at hl
    | cons a2 us =>
    cases us with
    | nil => simp at hl
    | cons a3 us =>
    cases us with
    | nil => exact ⟨a0, a1, a2, a3, rfl⟩
    | cons b us => simp at hl
omit B in
theorem len_5 {us : List Value} (hl : us.length = 5) : ∃ a0 a1 a2 a3 a4, us = [a0, a1, a2, a3, a4] := by
    cases us with
    | nil => simp at hl
    | cons a0 us =>
    cases us with
    | nil => simp at hl
    | cons a1 us =>
    cases us with
    | nil => simp at hl
    | cons a2 us =>
    cases us with
    | nil => simp at hl
    | cons a3 us =>
    cases us with
    | nil => simp at hl
    | cons a4 us =>
    cases us with
    | nil => exact ⟨a0, a1, a2, a3, a4, rfl⟩
    | cons b us => simp at hl
end Dp
namespace Dp
open PySem PySem.Spec PyProof.Rows L2 My
variable [B : Bs]
section
variable {X : Cx}
theorem it_enum {K : PySem.W.Frag} {ad : List Addr} {H : Hp} {a : Addr} {x : D} {ds : List D} (r : Rel K ad H x (.ref a)) : ItOk K ad H ⟨enumD 0 ds, fun S => Lst S x ds⟩ (Ite K a) where
  go := fun ad1 H1 S i w st ok hi => by
    obtain ⟨a', vs, e, s, rs⟩ := Lst.sq st ok (r.wd w)
    cases e
    have hi' : i < ds.length := by rw [← enumD_len 0 ds]; exact hi
    exact ⟨vs, vs[i]'(by rw [← rs.length]; exact hi'), s, List.getElem?_eq_getElem _⟩
  yld := fun ad1 H1 S i d y H' w st ok hd ⟨p, ey, hp, he⟩ => by
    obtain ⟨a', vs, e, s, rs⟩ := Lst.sq st ok (r.wd w)
    cases e
    obtain ⟨z, hz, rfl⟩ := enumD_get hd
    obtain ⟨v, ev, rv⟩ := rs.get hz
    rw [he vs v s ev, ey]
    refine ⟨Wd.laid hp, st.laid hp, .tup upd_same (.cons ?_ (.cons (rv.wd (Wd.laid hp)) .nil))⟩
    rw [Nat.zero_add]; exact .int _
  stop := fun ad1 H1 S w st ok => by
    obtain ⟨a', vs, e, s, rs⟩ := Lst.sq st ok (r.wd w)
    cases e
    exact ⟨vs, s, by show _ ≤ (enumD 0 ds).length; rw [enumD_len, rs.length]; exact Nat.le_refl _⟩
theorem it_enumT {K : PySem.W.Frag} {ad : List Addr} {H : Hp} {a : Addr} {vs : List V} {ds : List D} (h : H a = some (.tup vs)) (r : RelAll K ad H ds vs) : ItOk K ad H ⟨enumD 0 ds, fun _ => True⟩ (IteT K a) where
  go := fun ad1 H1 S i w st _ hi => by
    have hi' : i < ds.length := by rw [← enumD_len 0 ds]; exact hi
    exact ⟨vs, vs[i]'(by rw [← r.length]; exact hi'), SqT.of (w.tup _ _ h), List.getElem?_eq_getElem _⟩
  yld := fun ad1 H1 S i d y H' w st _ hd ⟨p, ey, hp, he⟩ => by
    obtain ⟨z, hz, rfl⟩ := enumD_get hd
    obtain ⟨v, ev, rv⟩ := r.get hz
    rw [he vs v (SqT.of (w.tup _ _ h)) ev, ey]
    refine ⟨Wd.laid hp, st.laid hp, .tup upd_same (.cons ?_ (.cons ((rv.wd w).wd (Wd.laid hp)) .nil))⟩
    rw [Nat.zero_add]; exact .int _
  stop := fun ad1 H1 S w st _ => ⟨vs, SqT.of (w.tup _ _ h), by show _ ≤ (enumD 0 ds).length; rw [enumD_len, r.length]; exact Nat.le_refl _⟩
theorem id_enumerate {es : List Expr} {kk : Nat} {tpos : Pos} {a : Expr} {t : DA} {p pos : Pos} (hg : Gl X "enumerate") (hm : X.mg "enumerate" = none) (ha : PAD X [a] t) (hs : starEach [a] X.env = [(false, eval a X.env)] := by rfl) :
    PID X (.Tuple es kk tpos) (.Call (.Name "enumerate" p) [a] [] pos) (Dp.iEnum t) := pi_mono (pi_enumB hg hm ha hs) fun σ H R hh => el8 hh fun ad ρ S R0 st rh q k =>
  ⟨ad, ρ, S, _, st, rh, q, fun ds S1 vs H1 ad1 q0 w1 st1 r1 => by
    rcases q0 with ⟨x, xs, ed, hx, q1⟩ | ⟨xs, ed, q1⟩
    · subst ed
      obtain ⟨v, rfl, rv⟩ := rel1 r1
      obtain ⟨b, ws, rfl, s, rs⟩ := hx.sq st1 rv
      exact ⟨b, rfl, .inl ⟨⟨ws, s⟩, k _ S1 _ H1 ad1 q1 w1 st1 (it_enum rv)⟩⟩
    · subst ed
      obtain ⟨v, rfl, rv⟩ := rel1 r1
      cases rv with
      | tup h r => exact ⟨_, rfl, .inr ⟨⟨_, SqT.of h⟩, k _ S1 _ H1 ad1 q1 w1 st1 (it_enumT h r)⟩⟩⟩
end
section
variable {X : Cx} {a b : Expr} {ta tb : DE} {pos : Pos}
end
section
variable {X : Cx}
end
section
variable {X : Cx} {e : Expr} {pos p2 p3 : Pos} {lo : Option Expr}
end
section
variable {X : Cx} {e : Expr} {t : DA} {p pos kp cp : Pos} {j : Nat}
end
section
variable {X : Cx} {e o value : Expr} {te to tv : DE} {f c : Str} {pos pos' : Pos}
theorem pd_fld (he : PD X e te) (hb : attributeBase e f X.env (eval e X.env) = eval e X.env) : PD X (.Attribute e f pos) (dFld f te) :=
  pd_of (pe_fld he hb) fun σ H Q hh => el8 hh fun ad ρ S Q0 st rh q k =>
    ⟨ad, ρ, S, _, st, rh, q, fun x S1 v H1 ad1 ⟨n, c, fs, d, ex, hn, hl, q1⟩ w1 st1 r1 => by
      subst ex
      cases r1 with
      | ref en =>
        obtain ⟨C, dx, vs, h1, hc, hns, rf, hna⟩ := st1.cell n _ _ en hn
        obtain ⟨v, hv, rv⟩ := rf.look hl
        obtain ⟨q2, hq2, e2⟩ := look_mem hl
        exact ⟨_, C, dx, vs, v, rfl, h1, hc, e2 ▸ hna q2 hq2, hv, k d S1 v H1 ad1 q1 w1 st1 rv⟩⟩
theorem psd_fld (hna : ∀ C, PySem.W.nsIn X.K mainGlobals c = some (some (.ref C)) → NoAttr X.K C f) (ho : PD X o to) (hv : PD X value tv) (hs : swapsWith value (some (.Attribute o f pos')) pos.line X.env = pure false := by rfl) :
    PSD X (.Assign [.Attribute o f pos'] value pos) (sFldS c f to tv) := ps_mono (ps_fld ho hv hs) fun E σ H hh => el8 hh fun ad ρ S E0 so rh q k =>
  ⟨ad, ρ, S, _, so, rh, q, fun y S1 vy H1 ad1 q1 w1 st1 r1 => ⟨ad1, ρ, S1, _, st1, rh.wd w1, q1, fun x S2 vx H2 ad2 ⟨n, fs, ex, hn, hl, q2⟩ w2 st2 r2 => by
    subst ex
    cases r2 with
    | ref en =>
      obtain ⟨C, dx, vs, h1, hc, hns, rf, hna'⟩ := st2.cell n _ _ en hn
      have w3 : Wd ad2 H2 ad2 (upd H2 _ (.ins C dx (putF f vy vs))) := Wd.putI en h1
      exact ⟨_, C, dx, vs, rfl, h1, hc, hna C hns, by rw [← rf.length]; omega, k.nx ρ _ σ _ ad2 q2 ((w1.trans w2).trans w3) (st2.putI en h1 hc hns rf hna' (hna C hns) (r1.wd w2)) (((rh.wd w1).wd w2).wd w3)⟩⟩⟩
omit B in
theorem cls_imp {K : PySem.W.Frag} {C : Addr} {c : Str} {init : DSp} (hc : Cls K C) (hn : PySem.W.nsIn K mainGlobals c = some (some (.ref C))) : ∀ vs H Q, upF K (clsSp c init) vs H Q E0 → ∀ x dx, H x = none → H dx = none → dx ≠ x →
    upF K init (.ref x :: vs) (upd (upd H dx (.own x)) x (.ins C dx [])) (fun v H2 => v = .non ∧ Q (.ref x) H2) E0 := by
  rintro vs H Q ⟨ad, S, ds, Q0, st, r, hf, k⟩ x dx hx hdx hne
  letI : Bs := ⟨ad, H⟩
  obtain ⟨w, st'⟩ := st.newI (c := c) hx hdx hne hc hn
  have rx : Rel K (ad ++ [x]) (upd (upd H dx (.own x)) x (.ins C dx [])) (.ref S.length) (.ref x) := .ref (by rw [← st.len, List.getElem?_append_right (Nat.le_refl _), Nat.sub_self]; rfl)
  have hf' : init (.ref S.length :: ds) (S ++ [.ins c []]) (fun d S2 => d = .non ∧ Q0 (.ref S.length) S2) := hf
  refine ⟨ad ++ [x], S ++ [.ins c []], .ref S.length :: ds, _, st'.base, .cons rx (r.wd w), hf', fun d S' v H' ad' q w' st2 rv => ?_⟩
  obtain ⟨rfl, q⟩ := q
  cases rv
  exact ⟨rfl, k _ S' _ H' ad' q (w.trans w') (st'.back st2) (rx.wd w')⟩
theorem pd_new {k j : Nat} {x : Str} {e : Expr} {es : List Expr} {t : DA} {p : Pos} {f : DSp} (G : GotC X.prog X.w X.K X.mg X.base k x (upF X.K f)) (hr : Room j X.A) (hk : k + 1 ≤ j) (hg : Gl X x)
    (ha : PAD X (e :: es) t) (hdb : (x == ("__debug__" : Str)) = false := by decide) (he : starEach (e :: es) X.env = (false, eval e X.env) :: starEach es X.env := by rfl) (hpl : (backTo pos (starEach es X.env)).any (·.1) = false := by rfl) :
    PD X (.Call (.Name x p) (e :: es) [] pos) (dCall f t) := pd_of (pe_mk G hr hk hg ha hdb he hpl) fun σ H Q hh => el8 hh fun ad ρ S Q0 st rh q k =>
  ⟨ad, ρ, S, _, st, rh, q, fun ds S1 vs H1 ad1 q1 w1 st1 r1 => by
    show upF X.K f (vs ++ []) H1 Q E0
    rw [List.append_nil]; exact ⟨ad1, S1, ds, Q0, st1.base, r1, q1, (k.wd w1).base st1⟩⟩
end
end Dp
namespace Dp
open PySem PySem.Spec PyProof.Rows L2 My
def Fly (h0 h : Heap) (e : Addr) (cls : Value) (H : Hp) : Prop := h0.get? e = none ∧ H e = none ∧ ∃ (a0 : Value) (oe : Obj) (vs : Array Value) (T : Addr) (oT : Obj) (ts : Array Value), h.get? e = some oe ∧ (oe.cls = cls ∧ vs[0]? = some a0) ∧ oe.data = .fields vs ∧ vs[1]? = some (.ref T) ∧ h0.get? T = none ∧ T ≠ e ∧ h.get? T = some oT ∧ oT.data = .fields ts ∧ ts[3]? = some .none ∧ H T = none
def CXd (P : Program) (w : World) : CXT := fun outer H s E e s' => ∃ (a C : Addr) (H' : Hp), e = .ref a ∧ s'.os = s.os ∧ AllBare s'.gens ∧ Un (frs outer) [] H H' s.heap s'.heap ∧ HOk P w H' s'.heap ∧ Fly s.heap s'.heap a (.ref C) H' ∧ E (.ref C) none H'
def maskH (h : Heap) (p : Addr → Bool) : Heap := { h with objs := h.objs.mapIdx fun i o => if p i = true then o else { cls := .none, data := .freed } }
theorem mask_get (h : Heap) (p : Addr → Bool) (b : Addr) : (maskH h p).get? b = if p b = true then h.get? b else none := by
  unfold maskH Heap.get?
  dsimp only
  rw [Array.getElem?_mapIdx]
  cases h.objs[b]? with
  | none => cases p b <;> rfl
  | some o => cases p b <;> rfl
theorem mask_stays (h : Heap) (p : Addr → Bool) : (maskH h p).StaysIn h := fun b o e => by
  rw [mask_get] at e
  split at e
  · exact e
  · cases e
theorem ff_base {h base base' : Heap} : ∀ {l : List Env}, h.FunFrames base l → (∀ L ∈ frs l, base'.get? L = none) → h.FunFrames base' l
  | [], _, _ => True.intro
  | env :: l, ⟨h1, ⟨L, o, h2, h3, h4, h5⟩, h6⟩, hb => ⟨h1, ⟨L, o, h2, hb L (List.mem_filterMap.mpr ⟨env, by simp, h2⟩), h4, h5⟩, ff_base h6 fun L' hL => hb L' (by
      obtain ⟨e', he, e2⟩ := List.mem_filterMap.mp hL
      exact List.mem_filterMap.mpr ⟨e', List.mem_cons_of_mem _ he, e2⟩)⟩
section
variable {X : Cx} {pins : List (Addr × Obj)} {σ : L2.St} {H : Hp} {s : Shared}
theorem old_there (I : Inv X pins σ H s) (hex : X.ex = []) {b : Addr} {o : Obj} (e : X.s₀.heap.get? b = some o) : ∃ o', s.heap.get? b = some o' := I.base.there b o e (by rw [hex]; simp)
theorem old_fresh (I : Inv X pins σ H s) (hex : X.ex = []) {b : Addr} (e : s.heap.get? b = none) : X.s₀.heap.get? b = none := by
  cases q : X.s₀.heap.get? b with
  | none => rfl
  | some o => obtain ⟨o', h⟩ := old_there I hex q; rw [e] at h; cases h
theorem hp_fresh (I : Inv X pins σ H s) {b : Addr} (e : s.heap.get? b = none) : H b = none := by
  cases q : H b with
  | none => rfl
  | some o =>
    have := (I.hok b o q).lt
    exfalso
    cases o with
    | lst xs => obtain ⟨_, _, _, _, h⟩ := I.hok b _ q; rw [e] at h; cases h
    | tup xs => obtain ⟨_, _, _, ob, h, _⟩ := I.hok b _ q; rw [e] at h; cases h
    | dK kvs => obtain ⟨_, _, _, _, ob, _, _, h, _⟩ := I.hok b _ q; rw [e] at h; cases h
    | dT kvs => obtain ⟨_, _, _, _, ob, _, _, h, _⟩ := I.hok b _ q; rw [e] at h; cases h
    | set S n => obtain ⟨ob, _, _, _, h, _⟩ := I.hok b _ q; rw [e] at h; cases h
    | ins C dx fs => obtain ⟨_, _, _, h, _⟩ := I.hok b _ q; rw [e] at h; cases h
    | own y => obtain ⟨_, h⟩ := I.hok b _ q; rw [e] at h; cases h
    | xd fs => obtain ⟨_, ⟨_, _, _, h, _⟩, _⟩ := I.hok b _ q; rw [e] at h; cases h
    | rng lo hi => obtain ⟨_, _, _, h⟩ := I.hok b _ q; rw [e] at h; cases h
    | frz ob u => obtain ⟨h, _⟩ := I.hok b _ q; rw [e] at h; cases h
    | tbl ps => have h : s.heap.get? b = some _ := I.hok b _ q; rw [e] at h; cases h
    | met f y => have h : s.heap.get? b = some _ := I.hok b _ q; rw [e] at h; cases h
    | ext φ => obtain ⟨_, ⟨_, h⟩, _⟩ := I.hok b _ q; rw [e] at h; cases h
theorem after_fly (I : Inv X pins σ H s) (hex : X.ex = []) (hst : X.stack = X.env :: X.outer) (hfr : X.env.frame = some X.env.locals) {e T0 : Addr} {h' : Heap} (he : X.s₀.heap.get? e = none) (hT : X.s₀.heap.get? T0 = none) (He : H e = none) (HT : H T0 = none)
    (hk : ∀ b o, s.heap.get? b = some o → b ≠ e → b ≠ T0 → b ∉ frs X.stack → h'.get? b = some o) (hs : ∀ b ∈ frs X.stack, ∀ o, s.heap.get? b = some o → ∃ sl, h'.get? b = some { o with slots := sl }) :
    Un X.fs [] X.H₀ H X.s₀.heap h' ∧ HOk X.prog X.w H h' := by
  have nfr : ∀ {b : Addr} {o : Obj}, X.s₀.heap.get? b = some o → b ∉ X.fs → b ∉ frs X.stack := fun {b o} q n m => by
    rw [hst] at m
    obtain ⟨e', h1, h2⟩ := List.mem_filterMap.mp m
    rcases List.mem_cons.mp h1 with rfl | h1
    · rw [hfr] at h2
      cases h2
      exact absurd (Heap.lt_size q) (Nat.not_lt.mpr I.ok.above)
    · exact n (List.mem_filterMap.mpr ⟨e', h1, h2⟩)
  have sub : ∀ {b : Addr}, b ∈ X.fs → b ∈ frs X.stack := fun {b} m => by
    obtain ⟨e', h1, h2⟩ := List.mem_filterMap.mp m
    rw [hst]
    exact List.mem_filterMap.mpr ⟨e', List.mem_cons_of_mem _ h1, h2⟩
  have nex : ∀ b : Addr, b ∉ X.ex := fun b => by rw [hex]; simp
  have ne : ∀ {b : Addr} {o : Obj}, X.s₀.heap.get? b = some o → b ≠ e ∧ b ≠ T0 := fun {b o} q => ⟨fun z => (by rw [z, he] at q; cases q), fun z => (by rw [z, hT] at q; cases q)⟩
  have ub := I.base
  refine ⟨⟨fun b o q n m _ => ?_, fun b o q n m _ => ?_, fun b o q n _ => ub.free b o q n (nex b), fun b o q _ => ?_, ub.tups, ub.frzs, ub.tbls⟩, fun a o q => ?_⟩
  · exact hk b o (ub.keep b o q n m (nex b)) (ne q).1 (ne q).2 (nfr q m)
  · obtain ⟨sl, h1⟩ := ub.slot b o q n m (nex b)
    obtain ⟨sl', h2⟩ := hs b (sub m) _ h1
    exact ⟨sl', h2⟩
  · obtain ⟨o', h1⟩ := ub.there b o q (nex b)
    by_cases m : b ∈ frs X.stack
    · obtain ⟨sl, h2⟩ := hs b m o' h1
      exact ⟨_, h2⟩
    · exact ⟨o', hk b o' h1 (ne q).1 (ne q).2 m⟩
  · have inn : ∀ {b : Addr}, H b ≠ none → b ≠ e ∧ b ≠ T0 ∧ b ∉ frs X.stack := fun {b} n => ⟨fun z => n (by rw [z]; exact He), fun z => n (by rw [z]; exact HT), fun z => n (I.stkFree b z)⟩
    refine (I.hok a o q).stay (fun b u hb r => ?_) (fun _ r => r) fun _ _ r => r
    have n : H b ≠ none := by
      rcases hb with rfl | hb
      · rw [q]; exact Option.some_ne_none _
      · rw [hb]; exact Option.some_ne_none _
    obtain ⟨n1, n2, n3⟩ := inn n
    exact hk b u r n1 n2 n3
theorem leave_fly (I : Inv X pins σ H s) (hex : X.ex = []) (hst : X.stack = X.env :: X.outer) (hfr : X.env.frame = some X.env.locals) {e C : Addr} {E : Value → Shared → Prop} {Q : Unit → Shared → Prop} (F : Fly X.s₀.heap s.heap e (.ref C) H)
    (hQ : ∀ s' : Shared, s'.os = X.s₀.os → AllBare s'.gens → Un X.fs [] X.H₀ H X.s₀.heap s'.heap → HOk X.prog X.w H s'.heap → Fly X.s₀.heap s'.heap e (.ref C) H → Q () s') : wpAny (model X.prog X.w) X.A (leaving X.env (.ref e)) Q E s := by
  obtain ⟨he, He, a0, oe, vs, T, oT, ts, f1, f2, f3, f4, f5, f6, f7, f8, f9, HT⟩ := F
  have ff : s.heap.FunFrames X.base X.stack := I.stack
  obtain ⟨p, hp⟩ : ∃ p : Addr → Bool, ∀ b, p b = true ↔ b ≠ e ∧ b ≠ T ∧ b ∉ frs X.stack := ⟨fun b => decide (b ≠ e ∧ b ≠ T ∧ b ∉ frs X.stack), fun b => decide_eq_true_iff⟩
  have mno : ∀ {b : Addr}, ¬ (b ≠ e ∧ b ≠ T ∧ b ∉ frs X.stack) → (maskH s.heap p).get? b = none := fun {b} n => by
    rw [mask_get, if_neg (fun z => n ((hp b).mp z))]
  have myes : ∀ {b : Addr} {o : Obj}, s.heap.get? b = some o → b ≠ e → b ≠ T → b ∉ frs X.stack → (maskH s.heap p).get? b = some o := fun {b o} q n1 n2 n3 => by
    rw [mask_get, if_pos ((hp b).mpr ⟨n1, n2, n3⟩)]; exact q
  have fb : s.heap.FunFrames (maskH s.heap p) X.stack := ff_base ff fun L hL => mno fun z => z.2.2 hL
  have fl : Heap.FlyingW (maskH s.heap p) X.stack e (.ref C) a0 s.heap := ⟨mask_stays _ _, mno fun z => z.1 rfl, fb, oe, vs, T, oT, ts, f1, f2, f3, f4, mno fun z => z.2.1 rfl, f6, f7, f8, f9⟩
  have fr := I.ok.frames
  rw [hst] at fr
  rw [hst] at fl
  refine wpAny_leaves_onW fr hfr fl fun h' ⟨k1, k2, k3, oe', vs', T', oT', ts', g1, g2, g3, g4, g5, g6, g7, g8, g9⟩ us => ?_
  have hs : ∀ b ∈ frs X.stack, ∀ o, s.heap.get? b = some o → ∃ sl, h'.get? b = some { o with slots := sl } := fun b hb o q => by
    obtain ⟨_, o', h1, h2⟩ := ff.mem hb
    rw [q] at h1; cases h1
    exact us b o q h2
  have hk : ∀ b o, s.heap.get? b = some o → b ≠ e → b ≠ T → b ∉ frs X.stack → h'.get? b = some o := fun b o q n1 n2 n3 => k1 b o (myes q n1 n2 n3)
  obtain ⟨u1, u2⟩ := after_fly I hex hst hfr he f5 He HT hk hs
  have nT : X.s₀.heap.get? T' = none ∧ H T' = none := by
    by_cases z1 : T' = T
    · rw [z1]; exact ⟨f5, HT⟩
    · by_cases z2 : T' ∈ frs X.stack
      · exfalso
        obtain ⟨_, o', h1, h2⟩ := ff.mem z2
        obtain ⟨sl, h3⟩ := hs T' z2 o' h1
        rw [g7] at h3; cases h3
        exact h2 ts' g8
      · have : s.heap.get? T' = none := by
          cases q : s.heap.get? T' with
          | none => rfl
          | some o => rw [myes q g6 z1 z2] at g5; cases g5
        exact ⟨old_fresh I hex this, hp_fresh I this⟩
  exact hQ _ I.os I.bare u1 u2 ⟨he, He, a0, oe', vs', T', oT', ts', g1, g2, g3, g4, nT.1, g6, g7, g8, g9, nT.2⟩
theorem leave_made (I : Inv X pins σ H s) (hex : X.ex = []) (hst : X.stack = X.env :: X.outer) (hfr : X.env.frame = some X.env.locals) {e C : Addr} {args : List Value} {h1 : Heap} {E : Value → Shared → Prop} {Q : Unit → Shared → Prop} (hx : s.heap.MadeExcOf h1 e (.ref C) args)
    (hQ : ∀ s' : Shared, s'.os = X.s₀.os → AllBare s'.gens → Un X.fs [] X.H₀ H X.s₀.heap s'.heap → HOk X.prog X.w H s'.heap → Fly X.s₀.heap s'.heap e (.ref C) H → Q () s') : wpAny (model X.prog X.w) X.A (leaving X.env (.ref e)) Q E { s with heap := h1 } := by
  have ff : s.heap.FunFrames X.base X.stack := I.stack
  obtain ⟨p, hp⟩ : ∃ p : Addr → Bool, ∀ b, p b = true ↔ b ∉ frs X.stack := ⟨fun b => decide (b ∉ frs X.stack), fun b => decide_eq_true_iff⟩
  have mno : ∀ {b : Addr}, b ∈ frs X.stack → (maskH s.heap p).get? b = none := fun {b} n => by
    rw [mask_get, if_neg (fun z => (hp b).mp z n)]
  have myes : ∀ {b : Addr} {o : Obj}, s.heap.get? b = some o → b ∉ frs X.stack → (maskH s.heap p).get? b = some o := fun {b o} q n3 => by
    rw [mask_get, if_pos ((hp b).mpr n3)]; exact q
  have fb : s.heap.FunFrames (maskH s.heap p) X.stack := ff_base ff fun L hL => mno hL
  have fr := I.ok.frames
  rw [hst] at fr
  rw [hst] at fb
  refine wpAny_leaves_madeW (base := maskH s.heap p) (h := s.heap) fr hfr (mask_stays _ _) fb hx fun h' t ⟨k1, k2, k3, oe', vs', T', oT', ts', g1, g2, g3, g4, g5, g6, g7, g8, g9⟩ _ _ us => ?_
  have us' : s.heap.UpToSlots h' := fun b o q n => us b o (hx.keeps b o q) n
  have hs : ∀ b ∈ frs X.stack, ∀ o, s.heap.get? b = some o → ∃ sl, h'.get? b = some { o with slots := sl } := fun b hb o q => by
    obtain ⟨_, o', h1, h2⟩ := ff.mem hb
    rw [q] at h1; cases h1
    exact us' b o q h2
  have hk : ∀ b o, s.heap.get? b = some o → b ≠ e → b ≠ e → b ∉ frs X.stack → h'.get? b = some o := fun b o q _ _ n3 => k1 b o (myes q n3)
  have he := old_fresh I hex hx.new
  have He := hp_fresh I hx.new
  obtain ⟨u1, u2⟩ := after_fly I hex hst hfr he he He He hk hs
  have nT : X.s₀.heap.get? T' = none ∧ H T' = none := by
    by_cases z2 : T' ∈ frs X.stack
    · exfalso
      obtain ⟨_, o', h1, h2⟩ := ff.mem z2
      obtain ⟨sl, h3⟩ := hs T' z2 o' h1
      rw [g7] at h3; cases h3
      exact h2 ts' g8
    · have : s.heap.get? T' = none := by
        cases q : s.heap.get? T' with
        | none => rfl
        | some o => rw [myes q z2] at g5; cases g5
      exact ⟨old_fresh I hex this, hp_fresh I this⟩
  exact hQ _ I.os I.bare u1 u2 ⟨he, He, _, oe', vs', T', oT', ts', g1, g2, g3, g4, nT.1, g6, g7, g8, g9, nT.2⟩
end
def upFX (K : PySem.W.Frag) (f : DSpX) : Sp := fun vs H Q E => ∃ ad S ds Q0 X0, @StOk ⟨ad, H⟩ K ad H S ∧ RelAll K ad H ds vs ∧ f ds S Q0 X0 ∧ @KK ⟨ad, H⟩ K ad H Q0 Q ∧
  ∀ (c : Str) (C : Addr) (S' : Sto) (ad' : List Addr) (H' : Hp), X0 c S' → @StOk ⟨ad, H⟩ K ad' H' S' → PySem.W.nsIn K mainGlobals c = some (some (.ref C)) → E (.ref C) none H'
structure GotX (P : Program) (w : World) (K : PySem.W.Frag) (mg : Str → Option Value) (base : Heap) (k : Nat) (x : Str) (ps : List Str) (sp : Sp) : Prop where
  ex : ∃ f fd, FnOk P w K mg base (CXd P w) k f fd ps sp ∧ Binds K fd ps [] ∧ PySem.W.keepIn K (.ref f) = true ∧ mg x = some (.ref f)
def XOk [B : Bs] (X : Cx) (ex : XR) : Prop := ∀ (pins : List (Addr × Obj)) (σ : L2.St) (H : Hp) (s s' : Shared) (ad ad' : List Addr) (ρ : Rho) (S S' : Sto) (c : Str) (C a : Addr) (H' : Hp), Inv X pins σ H s → StOk X.K ad H S → RhoOk X.K ad H ρ σ → ex ρ c S' → StOk X.K ad' H' S' → Wd ad H ad' H' →
  PySem.W.nsIn X.K mainGlobals c = some (some (.ref C)) → s'.os = s.os → AllBare s'.gens → Un (frs X.stack) [] H H' s.heap s'.heap → HOk X.prog X.w H' s'.heap → Fly s.heap s'.heap a (.ref C) H' → X.xe (.ref a) s'
def XMk [B : Bs] (X : Cx) (ex : XR) : Prop := ∀ (pins : List (Addr × Obj)) (σ : L2.St) (H : Hp) (s : Shared) (ad : List Addr) (ρ : Rho) (S : Sto) (c : Str) (C e : Addr) (args : List Value) (h1 : Heap), Inv X pins σ H s → StOk X.K ad H S → RhoOk X.K ad H ρ σ → ex ρ c S →
  PySem.W.nsIn X.K mainGlobals c = some (some (.ref C)) → s.heap.MadeExcOf h1 e (.ref C) args → X.xe (.ref e) { s with heap := h1 }
section
variable [B : Bs] {X : Cx}
theorem pd_callX {k j : Nat} {x : Str} {ps : List Str} {f : DSpX} {ex : XR} {p pos : Pos} {e : Expr} {es : List Expr} {t : DA} (G : GotX X.prog X.w X.K X.mg X.base k x ps (upFX X.K f)) (hX : XOk X ex) (hr : Room j X.A) (hk : k ≤ j) (hg : Gl X x)
    (ha : PAD X (e :: es) t) (hdb : (x == ("__debug__" : Str)) = false := by decide) (he : starEach (e :: es) X.env = (false, eval e X.env) :: starEach es X.env := by rfl) (hpl : (backTo pos (starEach es X.env)).any (·.1) = false := by rfl) :
    PD X (.Call (.Name x p) (e :: es) [] pos) (dCallX f ex t) := by
  intro pins s σ H Q I h
  obtain ⟨ad, ρ, S, Q0, st, rh, q, kk⟩ := h
  obtain ⟨fa, fd, F, b, kp, m⟩ := G.ex
  have F := F.mono hk
  refine wpAny_Call_Name_kw (ld_glob I hg m ?_ hdb)
  have hA := ha pos pins s σ H (fun vs H1 => ∃ ds S1 ad1, f ds S1 Q0 (ex ρ) ∧ Wd ad H ad1 H1 ∧ StOk X.K ad1 H1 S1 ∧ RelAll X.K ad1 H1 ds vs) I ⟨ad, ρ, S, _, st, rh, q, fun ds S1 vs H1 ad1 q1 w1 st1 r1 => ⟨ds, S1, ad1, q1, w1, st1, r1⟩⟩
  refine PySem.W.callWith_K (h₀ := X.base) I.ok.mod.kin kp (thn hA fun us s1 ⟨vs, H1, I1, r, q1⟩ => ⟨I1.kIn, ?_⟩) he hpl
  obtain ⟨ds, S1, ad1, q1, w1, st1, r1⟩ := q1
  have hsp : upFX X.K f vs H1 Q (fun cls _ H' => ∃ c C S' ad', cls = Value.ref C ∧ ex ρ c S' ∧ StOk X.K ad' H' S' ∧ Wd ad1 H1 ad' H' ∧ PySem.W.nsIn X.K mainGlobals c = some (some (.ref C))) :=
    ⟨ad1, S1, ds, Q0, ex ρ, st1.base, r1, q1, (kk.wd w1).base st1, fun c C S' ad' H' hx st' hn => ⟨c, C, S', ad', rfl, hx, st1.back st', @StOk.wd ⟨ad1, H1⟩ _ _ _ _ st', hn⟩⟩
  have hl : us.length = ps.length := by rw [← r.length]; exact F.len _ _ _ _ hsp
  refine wpAny_call (codeAny_mono (F.run X.A X.stack s1 H1 ⟨us, []⟩ us vs Q _ hr I1.env0 (by have := b s1 us I1.kIn (by rw [List.append_nil]; exact hl); rwa [List.append_nil] at this) r hsp) fun res s' hq => ?_)
  cases res with
  | error e =>
    obtain ⟨a, C, H', rfl, os, bare, un, hok, fly, c, C', S', ad', hC, hx, st', wd', hn⟩ := hq
    cases hC
    exact hX pins σ H1 s1 s' ad1 ad' ρ S1 S' c C a H' I1 st1 (rh.wd w1) hx st' wd' hn os bare un hok fly
  | ok fl =>
    cases fl with
    | ret u => exact I1.after hq
    | next => exact False.elim hq
    | brk => exact False.elim hq
    | cont => exact False.elim hq
theorem xok_F : XOk X xF := fun _ _ _ _ _ _ _ _ _ _ _ _ _ _ _ _ _ h => h.elim
structure ExC (K : PySem.W.Frag) (C : Addr) : Prop where
  ex : ∃ nm q N bs bm hdct sn sub ab col dd k0 k1 k2 k3 k5, K.lookup C = some (excClassObj nm q C N bs bm hdct sn sub ab col dd k0 k1 k2 k3 k5 "ValueError.__new__") ∧ PySem.W.nsOkIn K N = true ∧ PySem.W.nsIn K N "__init__" = some none ∧
    PySem.W.tailIn K [.type "ValueError", .type "Exception", .type "BaseException", .type "object"] bm = true
theorem psd_raise {x : Str} {ex : XR} {np cpos pos : Pos} {e : Expr} {t : DA} (hX : XMk X ex) (hc : X.calm = true) (hC : ∀ C, PySem.W.nsIn X.K mainGlobals x = some (some (.ref C)) → ExC X.K C) (hx : ∃ C, PySem.W.nsIn X.K mainGlobals x = some (some (.ref C)) ∧ X.mg x = some (.ref C)) (hg : Gl X x)
    (ha : PAD X [e] t) (ht : ∀ ρ S Q, (∀ d, Q [d] S) → t ρ S Q) (hdb : (x == ("__debug__" : Str)) = false := by decide) (he : starEach [e] X.env = (false, eval e X.env) :: starEach [] X.env := by rfl) :
    PSD X (.Raise (some (.Call (.Name x np) [e] [] cpos)) none pos) (sRaise ex x) := by
  intro pins s σ H D I h
  obtain ⟨ad, ρ, S, E0, st, rh, q, k⟩ := h
  obtain ⟨C, hn, hm⟩ := hx
  obtain ⟨nm, qn, N, bs, bm, hdct, sn, sub, ab, col, dd, k0, k1, k2, k3, k5, lk, no, ni, tl⟩ := (hC C hn).ex
  have kin := I.kIn
  have T := PySem.W.tail_of_in kin tl
  have hv := ha cpos pins s σ H (fun vs H1 => vs.length = 1 ∧ ∃ ad1, Wd ad H ad1 H1 ∧ StOk X.K ad1 H1 S) I ⟨ad, ρ, S, fun ds S' => ds.length = 1 ∧ S' = S, st, rh, ht _ _ _ (fun d => ⟨rfl, rfl⟩), fun ds S' vs H' ad' e' w' st' r' => ⟨by rw [← r'.length]; exact e'.1, ad', w', e'.2 ▸ st'⟩⟩
  refine wpAny_Raise_call_subT (C := C) (nm := nm) (q := qn) (N := N) (bs := bs) (bm := bm) (hdct := hdct) (sn := sn) (sub := sub) (ab := ab) (col := col) (dd := dd) (k0 := k0) (k1 := k1) (k2 := k2) (k3 := k3) (k5 := k5) PySem.F.excBase_ValueError (T.hasType PySem.F.excBase_ValueError.hasBase) (I.ok.hd hc) (by rw [he]; rfl) (PySem.W.nsMap_none_of_in I.ok.mod.kin no ni) (ld_glob I hg hm ⟨rfl, ?_⟩ hdb)
  rw [he] at hv ⊢
  refine Calls.evalArgs_plain (wpAny_mono hv (fun us s1 hq => ?_) fun _ _ y => y)
  obtain ⟨vs, H1, I1, r, hl, ad1, w1, st1⟩ := hq
  have k1' := I1.kIn
  have hlen : us.length ≤ sizeLine := by rw [← r.length, hl]; decide
  exact ⟨rfl, hlen, k1' _ _ lk, (Heap.Ns.of_isNs (PySem.W.isNs_of_in I.ok.mod.kin no)).keeps I1.bk, PySem.W.tail_of_in k1' tl, fun h' e' hx => hX pins σ H1 s1 ad1 ρ S x C e' us h' I1 st1 (rh.wd w1) q hn hx⟩
abbrev nxX (X : Cx) : Cx := { X with xe := fun _ _ => False }
omit B in
theorem inv_nx {pins : List (Addr × Obj)} {σ : L2.St} {H : Hp} {s : Shared} (I : Inv X pins σ H s) : Inv (nxX X) pins σ H s :=
  ⟨⟨I.ok.mod, I.ok.kind, I.ok.glob, I.ok.blt, I.ok.above, I.ok.inj, I.ok.has, I.ok.cab, I.ok.hd, I.ok.frames, I.ok.stk, I.ok.exf, I.ok.bs, I.ok.bsz, I.ok.noex, I.ok.exfs, I.ok.funs, I.ok.frf⟩, I.os, I.bare, I.base, I.loc, I.cell, I.free, I.freeC, I.pin, I.hok, I.len⟩
omit B in
theorem inv_unnx {pins : List (Addr × Obj)} {σ : L2.St} {H : Hp} {s : Shared} (I : Inv (nxX X) pins σ H s) : Inv X pins σ H s :=
  ⟨⟨I.ok.mod, I.ok.kind, I.ok.glob, I.ok.blt, I.ok.above, I.ok.inj, I.ok.has, I.ok.cab, I.ok.hd, I.ok.frames, I.ok.stk, I.ok.exf, I.ok.bs, I.ok.bsz, I.ok.noex, I.ok.exfs, I.ok.funs, I.ok.frf⟩, I.os, I.bare, I.base, I.loc, I.cell, I.free, I.freeC, I.pin, I.hok, I.len⟩
theorem pd_calm {e : Expr} {t : DE} (h : PD (nxX X) e t) : PD X e t := fun pins s σ H Q I q =>
  wpAny_mono (h pins s σ H Q (inv_nx I) q) (fun v s1 ⟨x, H1, I1, r⟩ => ⟨x, H1, inv_unnx I1, r⟩) fun _ _ z => z.elim
theorem psd_calm {st : Stmt} {t : DS} (h : PSD (nxX X) st t) : PSD X st t := fun pins s σ H D I q =>
  wpAny_mono (h pins s σ H D (inv_nx I) q) (fun f s1 hf => by
    cases f with
    | next => obtain ⟨σ', H', I', q'⟩ := hf; exact ⟨σ', H', inv_unnx I', q'⟩
    | brk => obtain ⟨σ', H', I', q'⟩ := hf; exact ⟨σ', H', inv_unnx I', q'⟩
    | cont => obtain ⟨σ', H', I', q'⟩ := hf; exact ⟨σ', H', inv_unnx I', q'⟩
    | ret u => obtain ⟨v, σ', H', I', r, q'⟩ := hf; exact ⟨v, σ', H', inv_unnx I', r, q'⟩) fun _ _ z => z.elim
omit B in
theorem fn_deepX {P : Program} {w : World} {K : PySem.W.Frag} {mg : Str → Option Value} {base : Heap} {x qual : Str} {st : Stmt} {f : Addr} {fd : FuncData} {N ps : List Str} {k : Nat} {sp : DSpX} {b : XR → DS} (F : Fun K x qual st f fd) (S : FnScope N ps (defScope st))
    (len : ∀ ds So Q ex, sp ds So Q ex → ds.length = ps.length) (body : BodyOkX N.length b sp)
    (term : ∀ (cdv : Value) (A : Around) (outer : List Env) (s : Shared) (H : Hp) (E : XK), Room k (A.deeper (envOfC qual (defScope st) s.heap.objs.size f cdv)) → ∀ [Bs] (ex : XR), XOk (cxOf (CXd P w) P w K mg base N qual (defScope st) f cdv A outer s H E) ex → XMk (cxOf (CXd P w) P w K mg base N qual (defScope st) f cdv A outer s H E) ex → PSsD (cxOf (CXd P w) P w K mg base N qual (defScope st) f cdv A outer s H E) (defBody st) (b ex)) :
    FnOk P w K mg base (CXd P w) (k + 1) f fd ps (upFX K sp) := by
  obtain ⟨oc, od, kV, doc, pm, an, cdv, ct, osl, rfl, lk, hcd⟩ := F.ex
  refine fn_of lk hcd S (fun vs H Q E ⟨ad, So, ds, Q0, X0, so, r, hf, kk, kx⟩ => by rw [← r.length]; exact len ds So Q0 X0 hf) fun A outer s H vs Q E hr ⟨ad, So, ds, Q0, X0, so, r, hf, kk, kx⟩ => ?_
  letI : Bs := ⟨ad, H⟩
  have end1 : ∀ (c : Str) (C a : Addr) (S' : Sto) (ad' : List Addr) (H' : Hp) (s' : Shared), X0 c S' → StOk K ad' H' S' → PySem.W.nsIn K mainGlobals c = some (some (.ref C)) → s'.os = s.os → AllBare s'.gens → Un (frs outer) [] H H' s.heap s'.heap → HOk P w H' s'.heap → Fly s.heap s'.heap a (.ref C) H' → CXd P w outer H s E (.ref a) s' :=
    fun c C a S' ad' H' s' hx st' hn o1 o2 o3 o4 o5 => ⟨a, C, H', rfl, o1, o2, o3, o4, o5, kx c C S' ad' H' hx st' hn⟩
  refine ⟨_, term cdv A outer s H E hr (fun _ => X0) ?_ ?_, ad, startD N.length ds, So, _, so, start_ok N r, body ds So Q0 X0 hf, ⟨fun ρ S' σ H' ad' q w' st' rh => fin_ok so kk .non S' .non H' ad' q w' st' .non, fin_ok so kk, fun _ _ _ _ _ q => q.elim, fun _ _ _ _ _ q => q.elim⟩⟩
  · intro pins σ H1 s1 s' ad1 ad' ρ S1 S' c C a H' I st1 rh hx st' wd' hn os bare un hok fly
    have I' := I.call' (ch := []) os un hok bare (fun b z => absurd z (by simp))
    have f0 : Fly s.heap s'.heap a (.ref C) H' := by
      obtain ⟨g1, g2, a0, oe, vs, T, oT, ts, h1, h2, h3, h4, h5, h6⟩ := fly
      exact ⟨old_fresh I rfl g1, g2, a0, oe, vs, T, oT, ts, h1, h2, h3, h4, old_fresh I rfl h5, h6⟩
    exact leave_fly I' rfl rfl rfl f0 fun s'' o1 o2 o3 o4 o5 => end1 c C a S' ad' H' s'' hx st' hn o1 o2 o3 o4 o5
  · intro pins σ H1 s1 ad1 ρ S1 c C e args h1 I st1 rh hx hn hmade
    exact leave_made I rfl rfl rfl hmade fun s'' o1 o2 o3 o4 o5 => end1 c C e S1 ad1 H1 s'' hx st1 hn o1 o2 o3 o4 o5
end
end Dp
namespace Dp
open PySem PySem.Spec PyProof.Rows L2 My
section
variable {X : Cx} {pins : List (Addr × Obj)} {σ : L2.St} {H H' : Hp} {s s' : Shared}
variable [B : Bs]
end
end Dp
namespace Dp
open PySem PySem.Spec PyProof.Rows L2 My
section
open PySem.W PySem.Builtin PySem.Builtin.ObjectAttr PySem.Builtin.Getset_descriptor
variable {prog : Program} {w : World} {A : Around} {E : Value → Shared → Prop} {s : Shared} {K : Frag} {x C : Addr} {o : Obj}
end
section
variable [B : Bs] {X : Cx}
end
def exIn (K : PySem.W.Frag) (C : Addr) : Bool := match K.lookup C with
  | some ⟨.type "type", _, .cls cd, sl⟩ => (match cd.mro, sl.toList with
    | .ref C' :: bm, [_, _, _, _, some (.builtin n), _] => C' == C && !cd.hasDel && n == "ValueError.__new__" && PySem.W.nsOkIn K cd.ns && PySem.W.nsIn K cd.ns "__init__" == some none && PySem.W.tailIn K [.type "ValueError", .type "Exception", .type "BaseException", .type "object"] bm
    | _, _ => false)
  | _ => false
theorem ExC.of {K : PySem.W.Frag} {C : Addr} (q : exIn K C = true) : ExC K C := by
  unfold exIn at q
  split at q
  · rename_i dd cd sl ho
    split at q
    · rename_i C' bm k0 k1 k2 k3 n k5 hm hs
      simp only [Bool.and_eq_true, beq_iff_eq, Bool.not_eq_true'] at q
      obtain ⟨⟨⟨⟨⟨rfl, hdel⟩, rfl⟩, h1⟩, h2⟩, h3⟩ := q
      obtain ⟨nm, bs, mro, ns, qn, hd, sn, sub, ab, col, del⟩ := cd
      dsimp only at hm hdel
      subst hm hdel
      have hsl : sl = #[k0, k1, k2, k3, some (.builtin "ValueError.__new__"), k5] := by
        obtain ⟨l⟩ := sl
        simp only at hs
        rw [hs]
      subst hsl
      exact ⟨nm, qn, ns, bs, bm, hd, sn, sub, ab, col, dd, k0, k1, k2, k3, k5, ho, h1, h2, h3⟩
    · cases q
  · cases q
end Dp
open PySem Dp
local macro_rules | `(tactic| walk_at "dat") => `(tactic| first | assumption | exact sto_h0 | exact sto_new | (refine (sto_at _ _ _).trans ?_; exact rfl) | exact sto_old (by assumption))
local macro_rules | `(tactic| walk_at "dlat") => `(tactic| first | assumption | exact Lst.rl | exact Lst.at0 | exact Lst.new | (refine Lst.at ?_; exact rfl) | exact Lst.old (by assumption) | exact Lst.here (by assumption) | exact Lst.here (sto_old (by assumption)))
local macro_rules | `(tactic| walk_at "dseq") => `(tactic| first | exact Or.inl rfl | (refine Or.inr ?_; walk_at "dlat"))
local macro_rules | `(tactic| walk_at "dbd") => `(tactic| first | assumption | exact My.Bd.mono (by assumption) (by decide) | exact My.Bd.lit (by decide) (by decide) | (refine My.Bd.add ?_ ?_ <;> walk_at "dbd") | (refine My.Bd.sub ?_ ?_ <;> walk_at "dbd") | (refine My.Bd.neg ?_; walk_at "dbd") | (refine My.Bd.mulH ?_ ?_ <;> walk_at "dbd") | (refine My.Bd.emod (by omega) ?_; walk_at "dbd") | (refine My.Bd.ediv ?_; walk_at "dbd"))
local macro_rules | `(tactic| walk_at "dmul") => `(tactic| first | assumption | exact Or.inr (Or.inl (by omega)) | exact Or.inr (Or.inr (by omega)) | exact Or.inl ⟨by walk_at "dbd", by walk_at "dbd"⟩)
local macro_rules | `(tactic| walk_at "ddiv") => `(tactic| first | assumption | exact ⟨by omega, by walk_at "dbd"⟩)
local macro_rules | `(tactic| walk_at "dr1") => `(tactic| first
  | with_reducible refine Dp.r_seq ?_ | with_reducible refine Dp.r_next ?_ | with_reducible refine Dp.r_par ?_ | with_reducible refine Dp.r_par2 ?_ | with_reducible refine Dp.r_ret ?_ | with_reducible refine Dp.r_raise ?_ | with_reducible refine Dp.r_try ?_ | with_reducible refine Dp.r_drop ?_ | with_reducible refine Dp.r_asg ?_ | with_reducible refine Dp.r_fldS ?_ | with_reducible refine Dp.r_fld ?_ | ((with_reducible refine Dp.g_cor (l := ?rvx) ?rvk ?_); (case rvk => walk_at "dat")) | with_reducible refine Dp.r_if ?_ | with_reducible refine Dp.r_gname ?_
  | ((with_reducible refine Dp.r_var (d := ?rvv) ?rvk ?_); (case rvk => exact rfl)) | with_reducible refine Dp.r_c ?_ | with_reducible refine Dp.r_op ?_ | with_reducible refine Dp.r_un ?_
  | with_reducible refine Dp.o_add ?_ | with_reducible refine Dp.o_inS ?_ | with_reducible refine Dp.o_notinS ?_ | with_reducible refine Dp.o_sub ?_ | with_reducible refine Dp.o_lt ?_ | with_reducible refine Dp.o_le ?_ | with_reducible refine Dp.o_gt ?_ | with_reducible refine Dp.o_ge ?_ | with_reducible refine Dp.o_eqI ?_ | with_reducible refine Dp.o_neI ?_ | with_reducible refine Dp.o_eqB ?_ | with_reducible refine Dp.o_neB ?_ | with_reducible refine Dp.o_neg ?_
  | ((with_reducible refine Dp.o_mul ?rvk ?_); (case rvk => walk_at "dmul")) | ((with_reducible refine Dp.o_div ?rvk ?_); (case rvk => walk_at "ddiv")) | ((with_reducible refine Dp.o_mod ?rvk ?_); (case rvk => first | omega | assumption)) | ((with_reducible refine Dp.o_pow ?rvk ?_); (case rvk => exact ⟨by omega, by omega, by omega⟩))
  | ((with_reducible refine Dp.o_ixT (d := ?rvv) ?rvk ?_); (case rvk => first | assumption | exact rfl)) | ((with_reducible refine Dp.o_ixL (xs := ?rvx) (d := ?rvv) ?rvl ?rvk ?_); (case rvl => walk_at "dlat"); (case rvk => first | assumption | exact rfl))
  | with_reducible refine Dp.r_t ?_ | with_reducible refine Dp.r_bl ?_ | with_reducible refine Dp.r_int ?_ | with_reducible refine Dp.r_not ?_ | with_reducible refine Dp.r_or ?_ | with_reducible refine Dp.r_and ?_ | with_reducible refine Dp.r_orV ?_ | with_reducible refine Dp.r_andV ?_ | with_reducible refine Dp.r_notV ?_ | with_reducible refine Dp.r_ifE ?_ | with_reducible refine Dp.r_chain ?_
  | with_reducible refine Dp.r_nil ?_ | with_reducible refine Dp.r_cons ?_ | with_reducible refine Dp.r_tup ?_ | with_reducible refine Dp.r_lst ?_ | ((with_reducible refine Dp.r_few ?rvk ?_); (case rvk => exact rfl)) | with_reducible refine Dp.r_call ?_ | with_reducible refine Dp.r_callX ?_ | with_reducible refine Dp.r_isx ?_ | ((with_reducible refine Dp.x_isx2 (b := ?rvv) ?rvk ?_); (case rvk => exact rfl)) | with_reducible refine Dp.r_b ?_ | with_reducible refine Dp.r_m ?_ | ((with_reducible refine Dp.r_isl (ys := ?rvx) ?rvk ?_); (case rvk => walk_at "dat"))
  | with_reducible refine Dp.new_1 ?_ | with_reducible refine Dp.new_2 ?_ | with_reducible refine Dp.new_3 ?_ | with_reducible refine Dp.new_4 ?_ | with_reducible refine Dp.new_5 ?_ | with_reducible refine Dp.new_A ?_ | with_reducible refine Dp.new_0 ?_ | with_reducible refine Dp.put_A0 ?_ | with_reducible refine Dp.put_A1 ?_ | with_reducible refine Dp.put_A2 ?_ | with_reducible refine Dp.put_A3 ?_ | with_reducible refine Dp.put_A ?_ | with_reducible refine Dp.put_0 ?_
  | with_reducible refine Dp.b_abs ?_ | with_reducible refine Dp.b_max2 ?_ | with_reducible refine Dp.b_min2 ?_ | with_reducible refine Dp.b_lenT ?_ | ((with_reducible refine Dp.b_lenL (xs := ?rvx) ?rvl ?_); (case rvl => walk_at "dlat")) | with_reducible refine Dp.b_intI ?_ | with_reducible refine Dp.b_intB ?_ | with_reducible refine Dp.b_boolI ?_ | with_reducible refine Dp.b_boolB ?_
  | with_reducible refine Dp.b_tupleT ?_ | ((with_reducible refine Dp.b_tupleL (xs := ?rvx) ?rvl ?_); (case rvl => walk_at "dlat")) | with_reducible refine Dp.b_listT ?_ | ((with_reducible refine Dp.b_listL (xs := ?rvx) ?rvl ?_); (case rvl => walk_at "dlat")) | with_reducible refine Dp.b_isi_int_int ?_ | with_reducible refine Dp.b_isi_int_bool ?_ | with_reducible refine Dp.b_isi_int_tuple ?_ | with_reducible refine Dp.b_isi_int_list ?_ | with_reducible refine Dp.b_isi_int_str ?_ | with_reducible refine Dp.b_isi_bl_int ?_ | with_reducible refine Dp.b_isi_bl_bool ?_ | with_reducible refine Dp.b_isi_bl_tuple ?_ | with_reducible refine Dp.b_isi_bl_list ?_ | with_reducible refine Dp.b_isi_bl_str ?_ | with_reducible refine Dp.b_isi_tup_int ?_ | with_reducible refine Dp.b_isi_tup_bool ?_ | with_reducible refine Dp.b_isi_tup_tuple ?_ | with_reducible refine Dp.b_isi_tup_list ?_ | with_reducible refine Dp.b_isi_tup_str ?_ | with_reducible refine Dp.b_isi_non_int ?_ | with_reducible refine Dp.b_isi_non_bool ?_ | with_reducible refine Dp.b_isi_non_tuple ?_ | with_reducible refine Dp.b_isi_non_list ?_ | with_reducible refine Dp.b_isi_non_str ?_ | with_reducible refine Dp.b_isi_str_int ?_ | with_reducible refine Dp.b_isi_str_bool ?_ | with_reducible refine Dp.b_isi_str_tuple ?_ | with_reducible refine Dp.b_isi_str_list ?_ | with_reducible refine Dp.b_isi_str_str ?_ | ((with_reducible refine Dp.b_isi_lst_list (xs := ?rvx) ?rvl ?_); (case rvl => walk_at "dat")) | ((with_reducible refine Dp.b_isi_lst_tuple (xs := ?rvx) ?rvl ?_); (case rvl => walk_at "dat"))
  | with_reducible refine Dp.r_gnil ?_ | with_reducible refine Dp.r_gcons ?_ | ((with_reducible refine Dp.r_gtup ?rvk ?_); (case rvk => exact rfl)) | with_reducible refine Dp.r_gsub ?_ | with_reducible refine Dp.r_true ?_
  | with_reducible refine Dp.o_is0 ?_ | with_reducible refine Dp.o_is1 ?_ | with_reducible refine Dp.o_is2 ?_ | with_reducible refine Dp.o_is3 ?_ | with_reducible refine Dp.o_isn0 ?_ | with_reducible refine Dp.o_isn1 ?_ | with_reducible refine Dp.o_isn2 ?_ | with_reducible refine Dp.o_isn3 ?_ | with_reducible refine Dp.o_isTT ?_ | with_reducible refine Dp.o_isnTT ?_ | with_reducible refine Dp.o_is ?_ | with_reducible refine Dp.o_isn ?_ | with_reducible refine Dp.o_isB ?_ | with_reducible refine Dp.o_isnB ?_ | with_reducible refine Dp.r_sl ?_ | with_reducible refine Dp.r_opt0 ?_ | with_reducible refine Dp.r_opt1 ?_ | ((with_reducible refine Dp.o_step (xs := ?rvx) ?rvl ?_); (case rvl => walk_at "dlat")) | with_reducible refine Dp.o_cutT ?_ | ((with_reducible refine Dp.o_cutL (xs := ?rvx) ?rvl ?_); (case rvl => walk_at "dlat"))
  | ((with_reducible refine Dp.r_aug (a := ?rvv) ?rvk ?_); (case rvk => exact rfl)) | ((with_reducible refine Dp.m_append (xs := ?rvx) ?rvk ?rvl ?_); (case rvk => walk_at "dat"); (case rvl => first | exact Nat.lt_of_ble_eq_true rfl | assumption | (simp only [big, List.length_append, List.length_cons, List.length_nil, List.length_map] at *; omega)))
  | with_reducible refine Dp.iteT ?_ | with_reducible refine Dp.iteF ?_ | with_reducible refine Dp.iteNT ?_ | with_reducible refine Dp.iteNF ?_ | with_reducible refine Dp.r_ntrue ?_ | with_reducible refine Dp.r_nfalse ?_
  | with_reducible refine Dp.r_for ?_ | with_reducible refine Dp.r_turn ?_ | with_reducible refine Dp.r_iseq ?_ | with_reducible refine Dp.i_tup ?_ | with_reducible refine Dp.i_str ?_ | ((with_reducible refine Dp.i_lst (xs := ?rvx) ?rvl ?_); (case rvl => walk_at "dlat")) | with_reducible refine Dp.r_rng1 ?_ | with_reducible refine Dp.r_rng2 ?_ | with_reducible refine Dp.r_enum ?_ | with_reducible refine Dp.en_T ?_ | with_reducible refine Dp.r_zip ?_ | with_reducible refine Dp.zi_T ?_ | with_reducible refine Dp.r_rev ?_ | with_reducible refine Dp.rev_T ?_ | with_reducible refine Dp.r_rng3 ?_ | with_reducible refine Dp.r_lc ?_)
local macro_rules | `(tactic| walk_at "dgo") => `(tactic| repeat walk_at "dr1")
local macro_rules | `(tactic| walk_at "drho") => `(tactic| simp only [startD, List.map_cons, List.map_nil, List.length_cons, List.length_nil, Nat.reduceSub, Nat.reduceAdd, List.replicate, List.cons_append, List.nil_append, List.set_cons_zero, List.set_cons_succ])
local macro_rules | `(tactic| walk_at "drho2") => `(tactic| simp only [List.set_cons_zero, List.set_cons_succ])
namespace Dp
open PySem Rm My
def sp_law_cell : DSp := fun ds S Q => ∃ (ns : List Int) (k : Nat), ds = [.rl (ns.map D.int), .int (k : Int)] ∧ Q (.int (ns.getD k 0)) S
def b_law_cell : DS :=
    (sSeq (sIf (dT (dOp oLt (dVar 1) (dB bLen (dCons (dVar 0) dNil)))) (sRet (dOp oIx (dVar 0) (dVar 1))) sNext)
    (sRet (dC (.int 0))))
theorem len_law_cell : ∀ ds So Q, sp_law_cell ds So Q → ds.length = 2 := by rintro ds So Q ⟨_, _, rfl, _⟩; rfl
theorem bo_law_cell : BodyOk 2 b_law_cell sp_law_cell := by
  rintro ds S Q ⟨ns, k, rfl, q⟩
  unfold b_law_cell
  walk_at "dgo"
  rw [List.length_map]
  refine r_d (fun h => ?_) (fun h => ?_)
  · have hk : k < ns.length := by omega
    have av : atD (ns.map D.int) (k : Int) = some (.int ns[k]) := at_nat (by rw [List.getElem?_map, List.getElem?_eq_getElem hk]; rfl)
    rw [List.getD_eq_getElem?_getD, List.getElem?_eq_getElem hk] at q
    walk_at "dgo"
    exact fin_same q
  · rw [List.getD_eq_getElem?_getD, List.getElem?_eq_none (by omega)] at q
    walk_at "dgo"
    exact fin_same q
def sp_law_folded : DSp := fun ds S Q => ∃ (ns : List Int) (st sz : Int), ds = [.rl (ns.map D.int), .int st, .int sz] ∧ ns.length ≤ 63 ∧ 0 ≤ st ∧ 0 < sz ∧ sz < 60 ∧ ∀ zs : List Int, (zs.length : Int) = sz → New Q S (zs.map D.int)
def b_law_folded : DS :=
    (sSeq (sAsg (dLC 1 [] (iRng1 (dCons (dVar 2) dNil)) (gName 0) dTrue (dOp oAdd (dOp oMul (dVar 0) (dVar 0)) (dC (.int 5)))) (gName 3))
    (sSeq (sFor (iRng2 (dCons (dVar 1) (dCons (dB bLen (dCons (dVar 0) dNil)) dNil))) (gName 4) (sAsg (dOp oAdd (dOp oMul (dOp oIx (dVar 3) (dOp oMod (dVar 4) (dVar 2))) (dC (.int 3))) (dOp oIx (dVar 0) (dVar 4))) (gSub (dVar 3) (dOp oMod (dVar 4) (dVar 2)))))
    (sRet (dVar 3))))
theorem len_law_folded : ∀ ds So Q, sp_law_folded ds So Q → ds.length = 3 := by rintro ds So Q ⟨_, _, _, rfl, _⟩; rfl
theorem bo_law_folded : BodyOk 5 b_law_folded sp_law_folded := by
  rintro ds S Q ⟨ns, st, sz, rfl, hl, s0, z0, z1, q⟩
  unfold b_law_folded
  walk_at "dgo"
  refine ⟨_, rfl, by omega, by omega, ?_⟩
  refine lc_pure (fun _ => true) (onI fun k => .int (k * k + 5)) True.intro (by rw [upto_length]; unfold big; omega) (fun i d ys hd hw => ?_) ?_
  · obtain ⟨hi, rfl⟩ := upto_at hd
    have cm : CMulD (0 + (i : Int)) (0 + (i : Int)) := .inr (.inr (show _ < 2 ^ 64 by omega))
    walk_at "dgo"
    exact lcw_y hd hw rfl rfl
  rw [filter_true]
  obtain ⟨t0, ht0, hl0⟩ : ∃ t0 : List Int, (upto 0 sz.toNat).map (onI fun k => D.int (k * k + 5)) = t0.map D.int ∧ (t0.length : Int) = sz := ⟨(List.range sz.toNat).map fun k : Nat => (0 + (k : Int)) * (0 + (k : Int)) + 5, by unfold upto; rw [List.map_map, List.map_map]; rfl, by simp; omega⟩
  rw [ht0]
  walk_at "dgo"
  rw [List.length_map]
  walk_at "drho"
  refine ⟨_, _, rfl, ?_⟩
  refine for_by (fun i ρ S' => ∃ (zs : List Int) (w : Option D), S' = S ++ [.lst (zs.map D.int)] ∧ ρ = [some (.rl (ns.map D.int)), some (.int st), some (.int sz), some (.ref S.length), w] ∧ (zs.length : Int) = sz) ⟨t0, none, rfl, rfl, hl0⟩ (fun _ _ _ _ => True.intro) ?_ ?_
  · rintro i d ρ S' hd ⟨zs, w, rfl, rfl, hzl⟩
    obtain ⟨hi, rfl⟩ := upto_at hd
    have r1 := Int.emod_nonneg (st + (i : Int)) (show sz ≠ 0 by omega)
    have r2 := Int.emod_lt_of_pos (st + (i : Int)) z0
    obtain ⟨a, _, aa⟩ := at_int (zs := zs) (k := (st + (i : Int)) % sz) r1 (by omega)
    obtain ⟨b, _, ab⟩ := at_int (zs := ns) (k := st + (i : Int)) (by omega) (by omega)
    walk_at "dgo"
    refine g_sub (n := S.length) (xs := zs.map D.int) sto_h0 (ix_int r1 (by omega)) (put_A0 ?_)
    exact ⟨zs.set ((st + (i : Int)) % sz).toNat (a * 3 + b), _, by rw [List.map_set], rfl, by rw [List.length_set]; exact hzl⟩
  rintro ρ S' ⟨zs, w, rfl, rfl, hzl⟩
  walk_at "dgo"
  exact fin_same (q zs hzl)
def sp_law_mixed : DSp := fun ds S Q => ∃ (c k : Int), ds = [.int c, .int k] ∧ 0 ≤ k ∧ k < 3000 ∧ ∀ v, 0 ≤ v → v < 2147483629 → Q (.int v) S
def b_law_mixed : DS :=
    (sSeq (sAsg (dOp oMod (dOp oMul (dOp oAdd (dOp oAdd (dOp oMod (dVar 0) (dC (.int 1000000007))) (dOp oMul (dC (.int 7919)) (dVar 1))) (dC (.int 1))) (dC (.int 48271))) (dC (.int 2147483647))) (gName 2))
    (sRet (dOp oMod (dOp oMul (dVar 2) (dVar 2)) (dC (.int 2147483629)))))
theorem len_law_mixed : ∀ ds So Q, sp_law_mixed ds So Q → ds.length = 2 := by rintro ds So Q ⟨_, _, rfl, _⟩; rfl
theorem bo_law_mixed : BodyOk 3 b_law_mixed sp_law_mixed := by
  rintro ds S Q ⟨c, k, rfl, h0, hk, q⟩
  unfold b_law_mixed
  have h1 := Int.emod_nonneg c (b := 1000000007) (by decide)
  have h2 := Int.emod_lt_of_pos c (b := 1000000007) (by decide)
  have cm1 : CMulD (c % 1000000007 + 7919 * k + 1) 48271 := .inr (.inr (show (48271 : Int).natAbs < 2 ^ 64 by decide))
  have h3 := Int.emod_nonneg ((c % 1000000007 + 7919 * k + 1) * 48271) (b := 2147483647) (by decide)
  have h4 := Int.emod_lt_of_pos ((c % 1000000007 + 7919 * k + 1) * 48271) (b := 2147483647) (by decide)
  have cm2 : CMulD ((c % 1000000007 + 7919 * k + 1) * 48271 % 2147483647) ((c % 1000000007 + 7919 * k + 1) * 48271 % 2147483647) := .inr (.inr (show _ < 2 ^ 64 by omega))
  walk_at "dgo"
  exact fin_same (q _ (Int.emod_nonneg _ (by decide)) (Int.emod_lt_of_pos _ (by decide)))
def Near (cs : List (Int × Int)) (sc : Int) : Prop := ∀ (i : Nat) a b, cs[i]? = some a → cs[i + 1]? = some b → b.1 - a.1 ≤ 4 * sc
def sp_law_ground_by : DSp := fun ds S Q => ∃ (x : D) (zs : List Int) (n sc : Int), ds = [x, .int n, .int sc] ∧ Lst S x (zs.map D.int) ∧ 2 ≤ n ∧ n ≤ 12 ∧ n ≤ zs.length ∧ 1 ≤ sc ∧ sc ≤ 10 ^ 20 ∧ ∀ cs : List (Int × Int), Grd cs → (cs.length : Int) = n → Near cs sc → New Q S (cs.map p2)
def b_law_ground_by : DS :=
    (sSeq (sAsg (dLst dNil) (gName 3))
    (sSeq (sAsg (dUn oNeg (dC (.int 10))) (gName 4))
    (sSeq (sFor (iRng1 (dCons (dVar 1) dNil)) (gName 5) (sSeq (sAsg (dCall sp_law_mixed (dCons (dOp oIx (dVar 0) (dVar 5)) (dCons (dVar 5) dNil))) (gName 6))
    (sSeq (sDrop (dM mAppend (dVar 3) (dCons (dTup (dCons (dOp oMul (dVar 4) (dVar 2)) (dCons (dOp oMul (dOp oMod (dOp oDiv (dVar 6) (dC (.int 8))) (dC (.int 9))) (dVar 2)) dNil))) dNil)))
    (sAsg (dOp oAdd (dOp oAdd (dVar 4) (dC (.int 1))) (dOp oMod (dOp oDiv (dVar 6) (dC (.int 72))) (dC (.int 4)))) (gName 4)))))
    (sRet (dVar 3)))))
theorem len_law_ground_by : ∀ ds So Q, sp_law_ground_by ds So Q → ds.length = 3 := by rintro ds So Q ⟨_, _, _, _, rfl, _⟩; rfl
theorem bo_law_ground_by : BodyOk 7 b_law_ground_by sp_law_ground_by := by
  rintro ds S Q ⟨x, zs, n, sc, rfl, hx, n2, n12, nz, sc1, sc2, q⟩
  unfold b_law_ground_by
  walk_at "dgo"
  refine ⟨_, rfl, by omega, by omega, ?_⟩
  refine for_by (fun i ρ S' => ∃ (cs : List (Int × Int)) (u : Int) (w1 w2 : Option D), S' = S ++ [.lst (cs.map p2)] ∧ ρ = [some x, some (.int n), some (.int sc), some (.ref S.length), some (.int u), w1, w2] ∧ cs.length = i ∧ -10 ≤ u ∧ u ≤ -10 + 4 * (i : Int) ∧ (cs.Pairwise fun a b => a.1 < b.1) ∧ Near cs sc ∧ (∀ c ∈ cs, c.1 < u * sc ∧ -(10 * 10 ^ 20) ≤ c.1 ∧ 0 ≤ c.2 ∧ c.2 ≤ 8 * 10 ^ 20) ∧ ∀ z, cs[cs.length - 1]? = some z → u * sc - z.1 ≤ 4 * sc) ⟨[], -10, none, none, rfl, rfl, rfl, by omega, by omega, .nil, fun i a b h => by simp at h, by simp, fun z h => by simp at h⟩ (fun _ _ _ _ => True.intro) ?_ ?_
  · rintro i d ρ S' hd ⟨cs, u, w1, w2, rfl, rfl, hcl, u0, u1, hp, hn, hc, hz⟩
    obtain ⟨hi, rfl⟩ := upto_at hd
    have hx' : Lst (S ++ [.lst (cs.map p2)]) x (zs.map D.int) := hx.old
    obtain ⟨z, _, az⟩ := at_int (zs := zs) (k := (0 : Int) + (i : Int)) (by omega) (by omega)
    have hlim : (cs.map p2).length < big := by rw [List.length_map]; unfold big; omega
    walk_at "dgo"
    refine ⟨z, _, rfl, by omega, by omega, fun m m0 m1 => ?_⟩
    have h0 := Int.emod_nonneg (m / 8) (show (9 : Int) ≠ 0 by decide)
    have h1 := Int.emod_lt_of_pos (m / 8) (show (0 : Int) < 9 by decide)
    have cm1 : CMulD u sc := .inr (.inl (show _ < 2 ^ 64 by omega))
    have cm2 : CMulD (m / 8 % 9) sc := .inr (.inl (show _ < 2 ^ 64 by omega))
    have k1 := Int.mul_nonneg h0 (show 0 ≤ sc by omega)
    have k2 : m / 8 % 9 * sc ≤ 8 * 10 ^ 20 := by
      have := Int.mul_le_mul (show m / 8 % 9 ≤ 8 by omega) sc2 (by omega) (by decide)
      exact this
    have k3 : -(10 * 10 ^ 20) ≤ u * sc := by
      rcases Int.lt_or_le u 0 with g | g
      · have := Int.mul_le_mul (show -u ≤ 10 by omega) sc2 (by omega) (by decide)
        rw [Int.neg_mul] at this
        omega
      · have := Int.mul_nonneg g (show 0 ≤ sc by omega)
        omega
    have v0 := Int.emod_nonneg (m / 72) (show (4 : Int) ≠ 0 by decide)
    have v1 := Int.emod_lt_of_pos (m / 72) (show (0 : Int) < 4 by decide)
    walk_at "dgo"
    generalize m / 72 % 4 = v at v0 v1 ⊢
    generalize hh : m / 8 % 9 * sc = hgt at k1 k2 ⊢
    have es : (u + 1 + v) * sc = u * sc + (1 + v) * sc := by grind
    have ks1 : sc ≤ (1 + v) * sc := by
      have := Int.mul_le_mul_of_nonneg_right (show 1 ≤ 1 + v by omega) (show 0 ≤ sc by omega)
      omega
    have ks2 : (1 + v) * sc ≤ 4 * sc := Int.mul_le_mul_of_nonneg_right (by omega) (by omega)
    refine ⟨cs ++ [(u * sc, hgt)], u + 1 + v, _, _, by rw [List.map_append]; rfl, rfl, by simp [hcl], by omega, by omega, List.pairwise_append.mpr ⟨hp, List.pairwise_singleton _ _, fun a ha b hb => ?_⟩, fun j a b ha hb => ?_, fun c hc' => ?_, fun z' hz' => ?_⟩
    · have : b = (u * sc, hgt) := by simpa using hb
      subst this
      exact (hc a ha).1
    · have lb := lt_getD hb
      rw [List.length_append] at lb
      have lb' : j + 1 < cs.length + 1 := lb
      rcases Nat.lt_or_ge (j + 1) cs.length with e | e
      · rw [List.getElem?_append_left (by omega)] at ha hb
        exact hn j a b ha hb
      · have e1 : j + 1 = cs.length := by omega
        rw [List.getElem?_append_right (by omega), show j + 1 - cs.length = 0 by omega] at hb
        have : (u * sc, hgt) = b := by simpa using hb
        subst this
        rw [List.getElem?_append_left (by omega)] at ha
        exact hz a (by rw [show cs.length - 1 = j by omega]; exact ha)
    · rcases List.mem_append.mp hc' with h | h
      · have := hc c h
        exact ⟨by omega, this.2.1, this.2.2.1, this.2.2.2⟩
      · have : c = (u * sc, hgt) := by simpa using h
        subst this
        exact ⟨by show u * sc < _; omega, k3, k1, k2⟩
    · rw [List.length_append, show cs.length + [(u * sc, hgt)].length - 1 = cs.length by simp, List.getElem?_append_right (Nat.le_refl _), Nat.sub_self] at hz'
      have : (u * sc, hgt) = z' := by simpa using hz'
      subst this
      show (u + 1 + v) * sc - u * sc ≤ 4 * sc
      omega
  · rintro ρ S' ⟨cs, u, w1, w2, rfl, rfl, hcl, u0, u1, hp, hn, hc, hz⟩
    rw [upto_length] at hcl u1
    walk_at "dgo"
    have hus : u * sc ≤ 40 * 10 ^ 20 := by
      rcases Int.lt_or_le u 0 with g | g
      · have := Int.mul_nonneg (show 0 ≤ -u by omega) (show 0 ≤ sc by omega)
        rw [Int.neg_mul] at this
        omega
      · exact Int.mul_le_mul (show u ≤ 40 by omega) sc2 (by omega) (by decide)
    exact fin_same (q cs ⟨by omega, by omega, hp, fun c hc' => ⟨by have := hc c hc'; show _ < 2 ^ 170; omega, by have := hc c hc'; show _ < 2 ^ 190; omega⟩⟩ (by omega) hn)
def stemOf (b : Int) : Str := if b % 4 = 0 then "" else if b % 4 = 1 then "q" else if b % 4 = 2 then "peak" else "hill"
def nmOf (b : Int) (k : Nat) : Str := stemOf b ++ ⟨#[97 + ((b / 4 + 7 * (k : Int)) % 26).toNat]⟩
theorem stem_len (b : Int) : (stemOf b).length ≤ 4 := by
  unfold stemOf
  split
  · decide +kernel
  · split
    · decide +kernel
    · split <;> decide +kernel
theorem letters_at : ∀ i : _root_.Fin 26, atS "abcdefghijklmnopqrstuvwxyz" ((i.val : Nat) : Int) = some (97 + i.val) := by decide +kernel
theorem nm_fl (b : Int) (k : Nat) : fl 20 (.str (nmOf b k)) = true := by
  show (stemOf b ++ (⟨#[97 + ((b / 4 + 7 * (k : Int)) % 26).toNat]⟩ : Str)).cps.all (· < 0x110000) = true
  show ((stemOf b).cps ++ #[97 + ((b / 4 + 7 * (k : Int)) % 26).toNat]).all (· < 0x110000) = true
  rw [Array.all_append, Bool.and_eq_true]
  refine ⟨?_, ?_⟩
  · unfold stemOf
    split
    · decide +kernel
    · split
      · decide +kernel
      · split <;> decide +kernel
  · have := Int.emod_lt_of_pos (b / 4 + 7 * (k : Int)) (show (0 : Int) < 26 by decide)
    simp
    omega
def sp_law_names : DSp := fun ds S Q => ∃ b : Int, ds = [.int b] ∧ ∀ g : Cell, Q (.ref (S.length + 1)) (S ++ [g, .lst ((List.range 14).map fun k => .str (nmOf b k))])
def b_law_names : DS :=
    (sSeq (sAsg (dOp oIx (dLst (dCons (dC (.str "")) (dCons (dC (.str "q")) (dCons (dC (.str "peak")) (dCons (dC (.str "hill")) dNil))))) (dOp oMod (dVar 0) (dC (.int 4)))) (gName 1))
    (sRet (dLC 1 [1, 0] (iRng1 (dCons (dC (.int 14)) dNil)) (gName 0) dTrue (dOp oAdd (dVar 1) (dOp oIx (dC (.str "abcdefghijklmnopqrstuvwxyz")) (dOp oMod (dOp oAdd (dOp oDiv (dVar 2) (dC (.int 4))) (dOp oMul (dC (.int 7)) (dVar 0))) (dC (.int 26))))))))
theorem len_law_names : ∀ ds So Q, sp_law_names ds So Q → ds.length = 1 := by rintro ds So Q ⟨_, rfl, _⟩; rfl
theorem bo_law_names : BodyOk 2 b_law_names sp_law_names := by
  rintro ds S Q ⟨b, rfl, q⟩
  unfold b_law_names
  have hb : b % 4 = 0 ∨ b % 4 = 1 ∨ b % 4 = 2 ∨ b % 4 = 3 := by omega
  have as : atD [.str "", .str "q", .str "peak", .str "hill"] (b % 4) = some (.str (stemOf b)) := by
    unfold stemOf
    rcases hb with e | e | e | e <;> rw [e] <;> rfl
  have sl := stem_len b
  walk_at "dgo"
  refine ⟨_, rfl, by decide, by decide, ?_⟩
  refine lc_pure (fun _ => true) (onI fun k => .str (nmOf b k.toNat)) True.intro (by rw [upto_length]; decide) (fun i d ys hd hw => ?_) ?_
  · obtain ⟨hi, rfl⟩ := upto_at hd
    have r1 := Int.emod_nonneg (b / 4 + 7 * (0 + (i : Int))) (show (26 : Int) ≠ 0 by decide)
    have r2 := Int.emod_lt_of_pos (b / 4 + 7 * (0 + (i : Int))) (show (0 : Int) < 26 by decide)
    walk_at "dgo"
    refine o_ixS (z := "abcdefghijklmnopqrstuvwxyz") (c := 97 + ((b / 4 + 7 * (0 + (i : Int))) % 26).toNat) (by decide +kernel) ?_ ?_
    · have := letters_at ⟨((b / 4 + 7 * (0 + (i : Int))) % 26).toNat, by omega⟩
      rw [show ((((b / 4 + 7 * (0 + (i : Int))) % 26).toNat : Nat) : Int) = (b / 4 + 7 * (0 + (i : Int))) % 26 by omega] at this
      exact this
    walk_at "dgo"
    refine o_addS (by show (stemOf b).length + 1 ≤ big; unfold big; omega) ?_
    refine lcw_y hd hw rfl ?_
    show _ = D.str (nmOf b (0 + (i : Int)).toNat)
    unfold nmOf
    rw [show (((0 + (i : Int)).toNat : Nat) : Int) = 0 + (i : Int) by omega]
  rw [filter_true]
  have e : (upto 0 (14 : Int).toNat).map (onI fun k => D.str (nmOf b k.toNat)) = (List.range 14).map fun k => D.str (nmOf b k) := by
    unfold upto
    rw [List.map_map]
    refine List.map_congr_left fun k _ => ?_
    show D.str (nmOf b (0 + (k : Int)).toNat) = _
    rw [show (0 + (k : Int)).toNat = k by omega]
  rw [e]
  walk_at "dgo"
  exact fin_same (q _)
def sp_law_high : DSp := fun ds S Q => ∃ (x : D) (cs : List (Int × Int)) (a : Int), ds = [x, .int a] ∧ Lst S x (cs.map p2) ∧ Grd cs ∧ Bd 180 a ∧ OnG cs (a, 1) ∧ Q (.int (footG cs a)) S
def b_law_high : DS :=
    (sSeq (sFor (iRng2 (dCons (dC (.int 1)) (dCons (dB bLen (dCons (dVar 0) dNil)) dNil))) (gName 2) (sSeq (sAsg (dOp oIx (dVar 0) (dOp oSub (dVar 2) (dC (.int 1)))) (gName 3))
    (sSeq (sAsg (dOp oIx (dVar 0) (dVar 2)) (gName 4))
    (sIf (dAnd (dT (dOp oLe (dOp oIx (dVar 3) (dC (.int 0))) (dVar 1))) (dT (dOp oLe (dVar 1) (dOp oIx (dVar 4) (dC (.int 0)))))) (sSeq (sAsg (dOp oMul (dOp oSub (dOp oIx (dVar 4) (dC (.int 1))) (dOp oIx (dVar 3) (dC (.int 1)))) (dOp oSub (dVar 1) (dOp oIx (dVar 3) (dC (.int 0))))) (gName 5))
    (sRet (dOp oSub (dOp oIx (dVar 3) (dC (.int 1))) (dOp oDiv (dUn oNeg (dVar 5)) (dOp oSub (dOp oIx (dVar 4) (dC (.int 0))) (dOp oIx (dVar 3) (dC (.int 0)))))))) sNext))))
    (sRet (dC .non)))
theorem len_law_high : ∀ ds So Q, sp_law_high ds So Q → ds.length = 2 := by rintro ds So Q ⟨_, _, _, rfl, _⟩; rfl
theorem bo_law_high : BodyOk 6 b_law_high sp_law_high := by
  rintro ds S Q ⟨x, cs, a, rfl, hx, gr, ba, on, q⟩
  unfold b_law_high
  have g1 := gr.two
  obtain ⟨kk, l, r, hkl, hkr, hle, hlt⟩ := seg_ex gr.two on.2
  have seg := seg_at hkl hkr hle hlt
  have hle' : a ≤ r.1 := by have : a ≤ r.1 * 1 := hle; omega
  have hab := grd_lt gr (show kk < kk + 1 by omega) hkl hkr
  have hlo : l.1 ≤ a := by
    cases kk with
    | zero =>
      obtain ⟨f, hf, ef⟩ := grd_first gr
      have h := on.1
      rw [ef] at h
      rw [hkl] at hf; cases hf
      have : l.1 * 1 ≤ a := h
      omega
    | succ j =>
      have := hlt (j + 1) l (by omega) (by omega) hkl
      have : l.1 * 1 < a := this
      omega
  have q' : Q (.int (l.2 - (-((r.2 - l.2) * (a - l.1))) / (r.1 - l.1))) S := by
    have e : l.2 - (-((r.2 - l.2) * (a - l.1))) / (r.1 - l.1) = footG cs a := by
      unfold footG
      rw [seg]
      unfold footT hvT hvB
      dsimp only
      rw [if_pos (by omega), if_pos (by omega), Int.mul_one, Int.mul_one, Int.mul_one]
      have e2 : -(l.2 * (r.1 - l.1) + (r.2 - l.2) * (a - l.1)) = -((r.2 - l.2) * (a - l.1)) + (-l.2) * (r.1 - l.1) := by grind
      rw [e2, Int.add_mul_ediv_right _ _ (by omega)]
      omega
    rw [e]; exact q
  walk_at "dgo"
  rw [List.length_map]
  refine ⟨_, _, rfl, ?_⟩
  refine for_by (fun i ρ S' => S' = S ∧ (∃ w2 w3 w4 w5 : Option D, ρ = [some x, some (.int a), w2, w3, w4, w5]) ∧ i ≤ kk) ⟨rfl, ⟨none, none, none, none, rfl⟩, by omega⟩ (fun _ _ _ _ => True.intro) ?_ ?_
  · rintro i d ρ S' hd ⟨rfl, ⟨w2, w3, w4, w5, rfl⟩, hik⟩
    obtain ⟨hi, rfl⟩ := upto_at hd
    obtain ⟨b, hb, ab⟩ := at_p2 (cs := cs) (k := 1 + (i : Int) - 1) (by omega) (by omega)
    obtain ⟨c, hc, ac⟩ := at_p2 (cs := cs) (k := 1 + (i : Int)) (by omega) (by omega)
    rw [show (1 + (i : Int) - 1).toNat = i by omega] at hb
    rw [show (1 + (i : Int)).toNat = i + 1 by omega] at hc
    have hbc := grd_lt gr (show i < i + 1 by omega) hb hc
    obtain ⟨bb1, bb2⟩ := gr.bd b (List.mem_of_getElem? hb)
    obtain ⟨bc1, bc2⟩ := gr.bd c (List.mem_of_getElem? hc)
    have cm : CMulD (c.2 - b.2) (a - b.1) := .inl ⟨(Bd.sub bc2 bb2).mono (by decide), (Bd.sub ba (bb1.mono (by decide))).mono (by decide)⟩
    have dv : 0 < c.1 - b.1 ∧ Bd 8000 (c.1 - b.1) := ⟨by omega, (Bd.sub bc1 bb1).mono (by decide)⟩
    walk_at "dgo"
    refine r_d (fun h1 => ?_) (fun h1 => ?_)
    · walk_at "dgo"
      refine r_d (fun h2 => ?_) (fun h2 => ?_)
      · have e : i = kk := by
          rcases Nat.lt_or_ge i kk with z | z
          · have := hlt (i + 1) c (by omega) (by omega) hc
            have : c.1 * 1 < a := this
            omega
          · omega
        subst e
        rw [hkl] at hb; cases hb
        rw [hkr] at hc; cases hc
        walk_at "dgo"
        exact fin_same q'
      · walk_at "dgo"
        refine ⟨rfl, ⟨_, _, _, _, rfl⟩, ?_⟩
        rcases Nat.lt_or_ge i kk with z | z
        · omega
        · have : i = kk := by omega
          subst this
          rw [hkr] at hc; cases hc; omega
    · exfalso
      rcases Nat.lt_or_ge i kk with z | z
      · rcases Nat.eq_zero_or_pos i with e | e
        · subst e
          obtain ⟨f, hf, ef⟩ := grd_first gr
          rw [hb] at hf; cases hf
          have h := on.1
          rw [ef] at h
          have : b.1 * 1 ≤ a := h
          omega
        · have := hlt i b e (by omega) hb
          have : b.1 * 1 < a := this
          omega
      · have : i = kk := by omega
        subst this
        rw [hkl] at hb; cases hb; omega
  · rintro ρ S' ⟨rfl, _, hik⟩
    rw [upto_length] at hik
    have := lt_getD hkr
    omega
def sp_law_beacon : DSp := fun ds S Q => ∃ (c k : Int) (x : D) (cs : List (Int × Int)) (sc : Int) (nm : Str), ds = [.int c, .int k, x, .int sc, .str nm] ∧ Lst S x (cs.map p2) ∧ Grd cs ∧ 0 ≤ k ∧ k < 100 ∧ 1 ≤ sc ∧ sc ≤ 10 ^ 20 ∧ fl 20 (.str nm) = true ∧ ∀ s : Int × Int, Bd 175 s.1 → Bd 195 s.2 → StdG cs s → Q (bcD (nm, s)) S
def b_law_beacon : DS :=
    (sSeq (sAsg (dCall sp_law_mixed (dCons (dVar 0) (dCons (dOp oAdd (dVar 1) (dC (.int 20))) dNil))) (gName 5))
    (sSeq (sAsg (dOp oDiv (dOp oSub (dOp oIx (dOp oIx (dVar 2) (dUn oNeg (dC (.int 1)))) (dC (.int 0))) (dOp oIx (dOp oIx (dVar 2) (dC (.int 0))) (dC (.int 0)))) (dVar 3)) (gName 6))
    (sSeq (sAsg (dOp oAdd (dOp oIx (dOp oIx (dVar 2) (dC (.int 0))) (dC (.int 0))) (dOp oMul (dOp oMod (dVar 5) (dOp oAdd (dVar 6) (dC (.int 1)))) (dVar 3))) (gName 7))
    (sRet (dTup (dCons (dVar 4) (dCons (dVar 7) (dCons (dOp oAdd (dCall sp_law_high (dCons (dVar 2) (dCons (dVar 7) dNil))) (dOp oMul (dOp oIx (dLst (dCons (dC (.int 0)) (dCons (dC (.int 1)) (dCons (dC (.int 1)) (dCons (dC (.int 2)) (dCons (dC (.int 4)) (dCons (dC (.int 7)) dNil))))))) (dOp oMod (dOp oDiv (dVar 5) (dC (.int 50))) (dC (.int 6)))) (dVar 3))) dNil))))))))
theorem len_law_beacon : ∀ ds So Q, sp_law_beacon ds So Q → ds.length = 5 := by rintro ds So Q ⟨_, _, _, _, _, _, rfl, _⟩; rfl
theorem bo_law_beacon : BodyOk 8 b_law_beacon sp_law_beacon := by
  rintro ds S Q ⟨c, k, x, cs, sc, nm, rfl, hx, gr, k0, k1, sc1, sc2, hnm, q⟩
  unfold b_law_beacon
  obtain ⟨f, hf, ef⟩ := grd_first gr
  obtain ⟨lc, hlc, elc, alc⟩ := at_lastG gr
  have af : atD (cs.map p2) 0 = some (p2 f) := at_nat (i := 0) (by rw [List.getElem?_map, hf]; rfl)
  have bf := (gr.bd f (List.mem_of_getElem? hf)).1
  have bl := (gr.bd lc (List.mem_of_getElem? hlc)).1
  have g1 := gr.two
  have hfl := grd_lt gr (show 0 < cs.length - 1 by omega) hf hlc
  walk_at "dgo"
  refine ⟨c, _, rfl, by omega, by omega, fun m m0 m1 => ?_⟩
  have dv : 0 < sc ∧ Bd 8000 sc := ⟨by omega, by
    have : Bd 200 sc := by show _ < 2 ^ 200; omega
    exact this.mono (by decide)⟩
  have w0 : 0 ≤ (lc.1 - f.1) / sc := Int.ediv_nonneg (by omega) (by omega)
  have w1 := Int.ediv_mul_le (lc.1 - f.1) (b := sc) (by omega)
  have v0 := Int.emod_nonneg m (show (lc.1 - f.1) / sc + 1 ≠ 0 by omega)
  have v1 := Int.emod_lt_of_pos m (show 0 < (lc.1 - f.1) / sc + 1 by omega)
  have v2 : m % ((lc.1 - f.1) / sc + 1) ≤ m := by
    have h1 := Int.mul_ediv_add_emod m ((lc.1 - f.1) / sc + 1)
    have h2 := Int.mul_nonneg (show 0 ≤ (lc.1 - f.1) / sc + 1 by omega) (Int.ediv_nonneg m0 (show 0 ≤ (lc.1 - f.1) / sc + 1 by omega))
    omega
  have cm1 : CMulD (m % ((lc.1 - f.1) / sc + 1)) sc := .inr (.inl (show _ < 2 ^ 64 by omega))
  have x0 := Int.mul_nonneg v0 (show 0 ≤ sc by omega)
  have x1 : m % ((lc.1 - f.1) / sc + 1) * sc ≤ lc.1 - f.1 := Int.le_trans (Int.mul_le_mul_of_nonneg_right (by omega) (by omega)) w1
  walk_at "dgo"
  generalize m % ((lc.1 - f.1) / sc + 1) * sc = d at x0 x1
  have on : OnG cs (f.1 + d, 1) := ⟨by rw [ef]; show f.1 * 1 ≤ f.1 + d; omega, by rw [elc]; show f.1 + d ≤ lc.1 * 1; omega⟩
  have bx : Bd 171 (f.1 + d) := (Bd.btw (n := 170) bf bl (by omega) (by omega)).mono (by decide)
  refine ⟨x, cs, f.1 + d, rfl, hx, gr, bx.mono (by decide), on, ?_⟩
  have bF := footG_bd gr on
  have r1 := Int.emod_nonneg (m / 50) (show (6 : Int) ≠ 0 by decide)
  have r2 := Int.emod_lt_of_pos (m / 50) (show (0 : Int) < 6 by decide)
  obtain ⟨u, hu, au⟩ := at_int (zs := [0, 1, 1, 2, 4, 7]) (k := m / 50 % 6) r1 (by show _ < (6 : Int); exact r2)
  have u0 : 0 ≤ u ∧ u ≤ 7 := by
    simp only [List.mem_cons, List.not_mem_nil, or_false] at hu
    rcases hu with rfl | rfl | rfl | rfl | rfl | rfl <;> omega
  clear hu
  have cm2 : CMulD u sc := .inr (.inl (show _ < 2 ^ 64 by omega))
  have t0 := Int.mul_nonneg u0.1 (show 0 ≤ sc by omega)
  have t1 : u * sc ≤ 7 * 10 ^ 20 := Int.mul_le_mul u0.2 sc2 (by omega) (by decide)
  walk_at "dgo"
  refine fin_pure ?_ (q (f.1 + d, footG cs (f.1 + d) + u * sc) (bx.mono (by decide)) ((Bd.add bF (by show _ < 2 ^ 192; omega)).mono (by decide)) ((foot_std gr (s := (f.1 + d, footG cs (f.1 + d) + u * sc)) on).mpr (by show footG cs (f.1 + d) ≤ footG cs (f.1 + d) + u * sc; omega)))
  show (fl 19 (.str nm) && true) = true
  rw [Bool.and_true]; exact hnm
def sp_law_fog : DSp := fun ds S Q => ∃ (c k : Int) (x : D) (cs : List (Int × Int)) (sc h0 h1 : Int), ds = [.int c, .int k, x, .int sc, .tup [.int h0, .int h1]] ∧ Lst S x (cs.map p2) ∧ Grd cs ∧ 0 ≤ k ∧ k < 100 ∧ 1 ≤ sc ∧ sc ≤ 10 ^ 20 ∧ h0 ≤ h1 ∧ ∀ a b c d e f g h : Int, a ≤ b → c ≤ d → e ≤ f → Q (.tup [.int a, .int b, .int c, .int d, .int e, .int f, .int g, .int h]) S
def b_law_fog : DS :=
    (sSeq (sAsg (dCall sp_law_mixed (dCons (dVar 0) (dCons (dOp oAdd (dVar 1) (dC (.int 40))) dNil))) (gName 5))
    (sSeq (sAsg (dOp oAdd (dOp oIx (dOp oIx (dVar 2) (dC (.int 0))) (dC (.int 0))) (dOp oMul (dOp oSub (dOp oMod (dVar 5) (dC (.int 14))) (dC (.int 2))) (dVar 3))) (gName 6))
    (sSeq (sAsg (dOp oMul (dOp oSub (dOp oMod (dOp oDiv (dVar 5) (dC (.int 14))) (dC (.int 14))) (dC (.int 3))) (dVar 3)) (gName 7))
    (sSeq (sAsg (dOp oAdd (dOp oSub (dOp oIx (dVar 4) (dC (.int 0))) (dC (.int 3))) (dOp oMod (dOp oDiv (dVar 5) (dC (.int 196))) (dOp oAdd (dOp oSub (dOp oIx (dVar 4) (dC (.int 1))) (dOp oIx (dVar 4) (dC (.int 0)))) (dC (.int 5))))) (gName 8))
    (sSeq (sAsg (dOp oMul (dOp oMod (dOp oDiv (dVar 5) (dC (.int 3000))) (dC (.int 4))) (dVar 3)) (gName 9))
    (sSeq (sAsg (dOp oMul (dOp oMod (dOp oDiv (dVar 5) (dC (.int 12000))) (dC (.int 4))) (dVar 3)) (gName 10))
    (sSeq (sAsg (dOp oMul (dOp oSub (dOp oMod (dOp oDiv (dVar 5) (dC (.int 48000))) (dC (.int 5))) (dC (.int 2))) (dVar 3)) (gName 11))
    (sRet (dTup (dCons (dVar 6) (dCons (dOp oAdd (dVar 6) (dVar 9)) (dCons (dVar 7) (dCons (dOp oAdd (dVar 7) (dVar 10)) (dCons (dVar 8) (dCons (dOp oAdd (dVar 8) (dOp oMod (dOp oDiv (dVar 5) (dC (.int 240000))) (dC (.int 9)))) (dCons (dVar 11) (dCons (dOp oMul (dOp oSub (dOp oMod (dOp oDiv (dVar 5) (dC (.int 2160000))) (dC (.int 3))) (dC (.int 1))) (dVar 3)) dNil)))))))))))))))))
theorem len_law_fog : ∀ ds So Q, sp_law_fog ds So Q → ds.length = 5 := by rintro ds So Q ⟨_, _, _, _, _, _, _, rfl, _⟩; rfl
theorem bo_law_fog : BodyOk 12 b_law_fog sp_law_fog := by
  rintro ds S Q ⟨c, k, x, cs, sc, h0, h1, rfl, hx, gr, k0, k1, sc1, sc2, hh, q⟩
  unfold b_law_fog
  obtain ⟨f, hf, ef⟩ := grd_first gr
  have af : atD (cs.map p2) 0 = some (p2 f) := at_nat (i := 0) (by rw [List.getElem?_map, hf]; rfl)
  walk_at "dgo"
  refine ⟨c, _, rfl, by omega, by omega, fun m m0 m1 => ?_⟩
  have cm : ∀ u : Int, u.natAbs < 2 ^ 64 → CMulD u sc := fun u h => .inr (.inl h)
  have c1 := cm (m % 14 - 2) (by omega)
  have c2 := cm (m / 14 % 14 - 3) (by omega)
  have c3 := cm (m / 3000 % 4) (by omega)
  have c4 := cm (m / 12000 % 4) (by omega)
  have c5 := cm (m / 48000 % 5 - 2) (by omega)
  have c6 := cm (m / 2160000 % 3 - 1) (by omega)
  have hm : 0 < h1 - h0 + 5 := by omega
  have w1 := Int.mul_nonneg (show 0 ≤ m / 3000 % 4 by omega) (show 0 ≤ sc by omega)
  have w2 := Int.mul_nonneg (show 0 ≤ m / 12000 % 4 by omega) (show 0 ≤ sc by omega)
  walk_at "dgo"
  exact fin_same (q _ _ _ _ _ _ _ _ (by omega) (by omega) (by omega))
def scl (c : Int) : Int := if c % 3 = 2 then 10 ^ 20 else 1
theorem scl_bd (c : Int) : 1 ≤ scl c ∧ scl c ≤ 10 ^ 20 := by unfold scl; split <;> decide
theorem scl_at (c : Int) : atD [.int 1, .int 1, .int 100000000000000000000] (c % 3) = some (.int (scl c)) := by
  have h : c % 3 = 0 ∨ c % 3 = 1 ∨ c % 3 = 2 := by omega
  unfold scl
  rcases h with e | e | e <;> rw [e] <;> rfl
theorem ext_app {S A B X : Sto} (h : ∃ T, A = S ++ T) (e : B = A ++ X) : ∃ T, B = S ++ T := let ⟨T, h⟩ := h; ⟨T ++ X, by rw [e, h, List.append_assoc]⟩
def sp_law_parts : DSp := fun ds S Q => ∃ (ns : List Int), ds = [.rl (ns.map D.int)] ∧ ns.length ≤ 63 ∧ ∀ (T : Sto) (x y z hz : D) (cs : List (Int × Int)) (bs : List (Str × (Int × Int))) (fs : List D) (h0 h1 dl : Int), Lst (S ++ T) x (cs.map p2) → Grd cs → cs.length ≤ 9 → Near cs (scl (ns.getD 0 0)) → Lst (S ++ T) y (bs.map bcD) → 1 ≤ bs.length → bs.length ≤ 6 →
  (∀ b ∈ bs, StdG cs b.2 ∧ Bd 175 b.2.1 ∧ Bd 195 b.2.2) → Lst (S ++ T) z fs → Q (.tup [x, y, z, hz, .int h0, .int h1, .int dl]) (S ++ T)
def b_law_parts : DS :=
    (sSeq (sAsg (dCall sp_law_cell (dCons (dVar 0) (dCons (dC (.int 0)) dNil))) (gName 1))
    (sSeq (sAsg (dCall sp_law_cell (dCons (dVar 0) (dCons (dC (.int 1)) dNil))) (gName 2))
    (sSeq (sAsg (dCall sp_law_cell (dCons (dVar 0) (dCons (dC (.int 2)) dNil))) (gName 3))
    (sSeq (sAsg (dCall sp_law_folded (dCons (dVar 0) (dCons (dC (.int 3)) (dCons (dC (.int 18)) dNil)))) (gName 4))
    (sSeq (sAsg (dOp oIx (dLst (dCons (dC (.int 1)) (dCons (dC (.int 1)) (dCons (dC (.int 100000000000000000000)) dNil)))) (dOp oMod (dVar 1) (dC (.int 3)))) (gName 5))
    (sSeq (sAsg (dOp oIx (dLst (dCons (dC (.int 0)) (dCons (dC (.int 7)) (dCons (dUn oNeg (dC (.int 1000000000000000000000000000000))) dNil)))) (dOp oMod (dOp oDiv (dVar 1) (dC (.int 3))) (dC (.int 3)))) (gName 6))
    (sSeq (sAsg (dTup (dCons (dVar 6) (dCons (dOp oAdd (dVar 6) (dOp oMod (dOp oDiv (dVar 1) (dC (.int 9))) (dC (.int 12)))) dNil))) (gName 7))
    (sSeq (sAsg (dCall sp_law_ground_by (dCons (dVar 4) (dCons (dOp oAdd (dC (.int 3)) (dOp oMod (dOp oDiv (dVar 1) (dC (.int 540))) (dC (.int 6)))) (dCons (dVar 5) dNil)))) (gName 8))
    (sSeq (sAsg (dCall sp_law_names (dCons (dOp oDiv (dVar 2) (dC (.int 30))) dNil)) (gName 9))
    (sSeq (sAsg (dLC 1 [8, 5, 4, 9] (iRng1 (dCons (dOp oAdd (dC (.int 1)) (dOp oMod (dVar 2) (dC (.int 6)))) dNil)) (gName 0) dTrue (dCall sp_law_beacon (dCons (dOp oIx (dVar 3) (dOp oAdd (dC (.int 8)) (dVar 0))) (dCons (dVar 0) (dCons (dVar 1) (dCons (dVar 2) (dCons (dOp oIx (dVar 4) (dVar 0)) dNil))))))) (gName 10))
    (sSeq (sAsg (dLC 1 [8, 5, 7, 4] (iRng1 (dCons (dOp oMod (dOp oDiv (dVar 2) (dC (.int 6))) (dC (.int 5))) dNil)) (gName 0) dTrue (dCall sp_law_fog (dCons (dOp oIx (dVar 4) (dOp oAdd (dC (.int 14)) (dOp oMod (dVar 0) (dC (.int 4))))) (dCons (dVar 0) (dCons (dVar 1) (dCons (dVar 2) (dCons (dVar 3) dNil))))))) (gName 11))
    (sSeq (sAsg (dC .non) (gName 12))
    (sSeq (sJ (sIf (dT (dOp oEq (dOp oMod (dVar 3) (dC (.int 2))) (dC (.int 1)))) (sAsg (dOp oMul (dOp oMul (dOp oMod (dOp oDiv (dVar 3) (dC (.int 2))) (dC (.int 25))) (dVar 5)) (dOp oMul (dOp oMod (dOp oDiv (dVar 3) (dC (.int 2))) (dC (.int 25))) (dVar 5))) (gName 12)) sNext))
    (sRet (dTup (dCons (dVar 8) (dCons (dVar 10) (dCons (dVar 11) (dCons (dVar 12) (dCons (dOp oIx (dVar 7) (dC (.int 0))) (dCons (dOp oIx (dVar 7) (dC (.int 1))) (dCons (dOp oIx (dLst (dCons (dC (.int 0)) (dCons (dC (.int 1)) (dCons (dC (.int 1)) (dCons (dC (.int 2)) (dCons (dC (.int 5)) dNil)))))) (dOp oMod (dOp oDiv (dVar 1) (dC (.int 108))) (dC (.int 5)))) dNil))))))))))))))))))))))
theorem len_law_parts : ∀ ds So Q, sp_law_parts ds So Q → ds.length = 1 := by rintro ds So Q ⟨_, rfl, _⟩; rfl
theorem bo_law_parts : BodyOk 13 b_law_parts sp_law_parts := by
  rintro ds S Q ⟨ns, rfl, hl, q⟩
  unfold b_law_parts
  walk_at "dgo"
  refine ⟨ns, 0, rfl, ?_⟩
  walk_at "dgo"
  refine ⟨ns, 1, rfl, ?_⟩
  walk_at "dgo"
  refine ⟨ns, 2, rfl, ?_⟩
  obtain ⟨sb1, sb2⟩ := scl_bd (ns.getD 0 0)
  have asc := scl_at (ns.getD 0 0)
  generalize hsc : scl (ns.getD 0 0) = sc at sb1 sb2 asc q
  generalize ns.getD 0 0 = c0 at asc
  generalize ns.getD 1 0 = c1
  generalize ns.getD 2 0 = c2
  walk_at "dgo"
  refine ⟨ns, _, _, rfl, hl, by decide, by decide, by decide, fun cells hcl => ?_⟩
  have r1 := Int.emod_nonneg (c0 / 3) (show (3 : Int) ≠ 0 by decide)
  have r2 := Int.emod_lt_of_pos (c0 / 3) (show (0 : Int) < 3 by decide)
  obtain ⟨fh, _, afh⟩ := at_int (zs := [0, 7, -1000000000000000000000000000000]) (k := c0 / 3 % 3) r1 (by show _ < (3 : Int); exact r2)
  walk_at "dgo"
  walk_at "drho"
  obtain ⟨Sg, hSg⟩ : ∃ Sg : Sto, Sg = S ++ [Cell.lst (cells.map D.int), .lst [.int 1, .int 1, .int 100000000000000000000], .lst [.int 0, .int 7, .int (-1000000000000000000000000000000)]] := ⟨_, rfl⟩
  have kg : Lst Sg (.ref S.length) (cells.map D.int) := hSg ▸ Lst.at0
  rw [← hSg]
  refine ⟨_, cells, _, sc, rfl, kg, by omega, by omega, by omega, sb1, sb2, fun cs gr hcn near => ?_⟩
  have g9 : cs.length ≤ 9 := by omega
  unfold New
  obtain ⟨S1, hS1⟩ : ∃ S1 : Sto, S1 = Sg ++ [.lst (cs.map p2)] := ⟨_, rfl⟩
  have kc : Lst S1 (.ref Sg.length) (cs.map p2) := hS1 ▸ Lst.at0
  have kg1 : Lst S1 (.ref S.length) (cells.map D.int) := hS1 ▸ kg.old
  rw [← hS1]
  walk_at "dgo"
  refine ⟨_, rfl, fun gb => ?_⟩
  obtain ⟨S2, hS2⟩ : ∃ S2 : Sto, S2 = S1 ++ [gb, .lst ((List.range 14).map fun k => .str (nmOf (c1 / 30) k))] := ⟨_, rfl⟩
  have kn : Lst S2 (.ref (S1.length + 1)) ((List.range 14).map fun k => .str (nmOf (c1 / 30) k)) := hS2 ▸ Lst.at rfl
  have kc2 : Lst S2 (.ref Sg.length) (cs.map p2) := hS2 ▸ kc.old
  have kg2 : Lst S2 (.ref S.length) (cells.map D.int) := hS2 ▸ kg1.old
  rw [← hS2]
  have b0 := Int.emod_nonneg c1 (show (6 : Int) ≠ 0 by decide)
  have b1 := Int.emod_lt_of_pos c1 (show (0 : Int) < 6 by decide)
  walk_at "dgo"
  refine ⟨_, rfl, by omega, by omega, ?_⟩
  refine lc_by (fun i ys S' => S' = S2 ∧ ∃ bs : List (Str × (Int × Int)), ys = bs.map bcD ∧ bs.length = i ∧ ∀ b ∈ bs, StdG cs b.2 ∧ Bd 175 b.2.1 ∧ Bd 195 b.2.2) ⟨rfl, [], rfl, rfl, by simp⟩ (fun _ _ _ _ => True.intro) (by rw [upto_length]; unfold big; omega) ?_ ?_
  · rintro i d ys S' hd ⟨rfl, bs, rfl, hbl, hbs⟩
    obtain ⟨hi, rfl⟩ := upto_at hd
    obtain ⟨v, _, av⟩ := at_int (zs := cells) (k := 8 + (0 + (i : Int))) (by omega) (by omega)
    have an : atD ((List.range 14).map fun k => D.str (nmOf (c1 / 30) k)) (0 + (i : Int)) = some (.str (nmOf (c1 / 30) i)) := by
      rw [show (0 : Int) + (i : Int) = (i : Int) by omega]
      exact at_nat (by rw [List.getElem?_map, List.getElem?_range (by omega)]; rfl)
    walk_at "dgo"
    refine ⟨v, _, _, cs, sc, _, rfl, kc2, gr, by omega, by omega, sb1, sb2, nm_fl _ _, fun s s1 s2 ss => ?_⟩
    refine ⟨rfl, bs ++ [(nmOf (c1 / 30) i, s)], by rw [List.map_append]; rfl, by simp [hbl], fun b hb => ?_⟩
    rcases List.mem_append.mp hb with h | h
    · exact hbs b h
    · have : b = (nmOf (c1 / 30) i, s) := by simpa using h
      subst this
      exact ⟨ss, s1, s2⟩
  rintro ys S' ⟨rfl, bs, rfl, hbl, hbs⟩
  rw [upto_length] at hbl
  unfold New
  obtain ⟨S3, hS3⟩ : ∃ S3 : Sto, S3 = S' ++ [.lst (bs.map bcD)] := ⟨_, rfl⟩
  have kb : Lst S3 (.ref S'.length) (bs.map bcD) := hS3 ▸ Lst.at0
  have kc3 : Lst S3 (.ref Sg.length) (cs.map p2) := hS3 ▸ kc2.old
  have kg3 : Lst S3 (.ref S.length) (cells.map D.int) := hS3 ▸ kg2.old
  rw [← hS3]
  walk_at "dgo"
  refine ⟨_, rfl, by omega, by omega, ?_⟩
  refine lc_by (fun i ys S' => S' = S3) rfl (fun _ _ _ _ => True.intro) (by rw [upto_length]; unfold big; omega) ?_ ?_
  · rintro i d ys S'' hd rfl
    obtain ⟨hi, rfl⟩ := upto_at hd
    obtain ⟨v, _, av⟩ := at_int (zs := cells) (k := 14 + (0 + (i : Int)) % 4) (by omega) (by omega)
    walk_at "dgo"
    refine ⟨v, _, _, cs, sc, fh, _, rfl, kc3, gr, by omega, by omega, sb1, sb2, by omega, fun a b c d e f g h _ _ _ => ?_⟩
    rfl
  rintro fs S'' rfl
  unfold New
  obtain ⟨S4, hS4⟩ : ∃ S4 : Sto, S4 = S'' ++ [.lst fs] := ⟨_, rfl⟩
  have kf : Lst S4 (.ref S''.length) fs := hS4 ▸ Lst.at0
  have kb4 : Lst S4 (.ref S'.length) (bs.map bcD) := hS4 ▸ kb.old
  have kc4 : Lst S4 (.ref Sg.length) (cs.map p2) := hS4 ▸ kc3.old
  have e4 : ∃ T, S4 = S ++ T := ext_app (ext_app (ext_app (ext_app ⟨_, hSg⟩ hS1) hS2) hS3) hS4
  rw [← hS4]
  clear hS4 hS3 hS2 hS1 hSg
  have h25 : ∀ u : Int, u.natAbs < 2 ^ 60 → CMulD u sc := fun u h => .inr (.inl (by omega))
  have cm1 := h25 (c2 / 2 % 25) (by omega)
  have bz : Bd 200 (c2 / 2 % 25 * sc) := by
    have t0 := Int.mul_nonneg (show 0 ≤ c2 / 2 % 25 by omega) (show 0 ≤ sc by omega)
    have t1 : c2 / 2 % 25 * sc ≤ 25 * 10 ^ 20 := Int.mul_le_mul (by omega) sb2 (by omega) (by decide)
    show _ < 2 ^ 200
    omega
  have cm2 : CMulD (c2 / 2 % 25 * sc) (c2 / 2 % 25 * sc) := .inl ⟨bz.mono (by decide), bz.mono (by decide)⟩
  obtain ⟨T4, rfl⟩ := e4
  have d1 := Int.emod_nonneg (c0 / 108) (show (5 : Int) ≠ 0 by decide)
  have d2 := Int.emod_lt_of_pos (c0 / 108) (show (0 : Int) < 5 by decide)
  obtain ⟨dl, _, adl⟩ := at_int (zs := [0, 1, 1, 2, 5]) (k := c0 / 108 % 5) d1 (by show _ < (5 : Int); exact d2)
  have near' : Near cs (scl (ns.getD 0 0)) := by rw [hsc]; exact near
  have fin : ∀ (T : Sto) (hz : D) (h0 h1 dl : Int), Q (.tup [.ref Sg.length, .ref S'.length, .ref S''.length, hz, .int h0, .int h1, .int dl]) (S ++ (T4 ++ T)) := fun T hz h0 h1 dl => q (T4 ++ T) _ _ _ hz cs bs fs h0 h1 dl (by rw [← List.append_assoc]; exact kc4.old) gr g9 near (by rw [← List.append_assoc]; exact kb4.old) (by omega) (by omega) hbs (by rw [← List.append_assoc]; exact kf.old)
  walk_at "dgo"
  refine r_J (fun ρ S5 => S5 = S ++ T4 ∧ ∃ hz : D, ρ = [some (.rl (ns.map D.int)), some (.int c0), some (.int c1), some (.int c2), some (.ref S.length), some (.int sc), some (.int fh), some (.tup [.int fh, .int (fh + c0 / 9 % 12)]), some (.ref Sg.length), some (.ref (S1.length + 1)), some (.ref S'.length), some (.ref S''.length), some hz]) ?_ ?_
  · walk_at "dgo"
    refine r_d (fun _ => ?_) (fun _ => ?_)
    · walk_at "dgo"
      exact ⟨rfl, _, rfl⟩
    · walk_at "dgo"
      exact ⟨rfl, _, rfl⟩
  rintro ρ S5 ⟨rfl, hz, rfl⟩
  walk_at "dgo"
  exact fin_same (fin _ _ _ _ _)
def sp_refuse_bad_corners : DSp := fun ds S Q => ∃ (x : D) (cs : List (Int × Int)), ds = [x] ∧ Lst S x (cs.map p2) ∧ Grd cs ∧ Q .non S
def b_refuse_bad_corners : DS :=
    (sSeq (sIf (dOr (dT (dOp oLt (dB bLen (dCons (dVar 0) dNil)) (dC (.int 2)))) (dT (dOp oGt (dB bLen (dCons (dVar 0) dNil)) (dC (.int 40))))) sNever sNext)
    (sFor (iRng2 (dCons (dC (.int 1)) (dCons (dB bLen (dCons (dVar 0) dNil)) dNil))) (gName 1) (sIf (dT (dOp oLe (dOp oIx (dOp oIx (dVar 0) (dVar 1)) (dC (.int 0))) (dOp oIx (dOp oIx (dVar 0) (dOp oSub (dVar 1) (dC (.int 1)))) (dC (.int 0))))) sNever sNext)))
theorem len_refuse_bad_corners : ∀ ds So Q, sp_refuse_bad_corners ds So Q → ds.length = 1 := by rintro ds So Q ⟨_, _, rfl, _⟩; rfl
theorem bo_refuse_bad_corners : BodyOk 2 b_refuse_bad_corners sp_refuse_bad_corners := by
  rintro ds S Q ⟨x, cs, rfl, hx, g, q⟩
  unfold b_refuse_bad_corners
  have g1 := g.two
  have g2 := g.most
  walk_at "dgo"
  rw [List.length_map]
  refine r_d (fun z => absurd z (by omega)) (fun _ => ?_)
  walk_at "dgo"
  rw [List.length_map]
  refine r_d (fun z => absurd z (by omega)) (fun _ => ?_)
  walk_at "dgo"
  rw [List.length_map]
  refine ⟨_, _, rfl, ?_⟩
  refine for_by (fun i ρ S' => S' = S ∧ ∃ w : Option D, ρ = [some x, w]) ⟨rfl, none, rfl⟩ (fun _ _ _ _ => True.intro) ?_ ?_
  · rintro i d ρ S' hd ⟨rfl, w, rfl⟩
    obtain ⟨hi, rfl⟩ := upto_at hd
    obtain ⟨a, ha, aa⟩ := at_p2 (cs := cs) (k := 1 + (i : Int)) (by omega) (by omega)
    obtain ⟨b, hb, ab⟩ := at_p2 (cs := cs) (k := 1 + (i : Int) - 1) (by omega) (by omega)
    have hlt := grd_lt g (show (1 + (i : Int) - 1).toNat < (1 + (i : Int)).toNat by omega) hb ha
    walk_at "dgo"
    refine r_d (fun z => absurd z (by omega)) (fun _ => ?_)
    walk_at "dgo"
    exact ⟨rfl, _, rfl⟩
  · rintro ρ S' ⟨rfl, w, rfl⟩
    exact fin_same q
def sp_Ground_init : DSp := fun ds S Q => ∃ (S0 : Sto) (x : D) (cs : List (Int × Int)), ds = [.ref S0.length, x] ∧ S = S0 ++ [.ins "Ground" []] ∧ Lst S0 x (cs.map p2) ∧ Grd cs ∧ Q .non (S0 ++ [.ins "Ground" [("corners", .ref (S0.length + 1))], .lst (cs.map p2)])
def b_Ground_init : DS :=
    (sSeq (sDrop (dCall sp_refuse_bad_corners (dCons (dVar 1) dNil)))
    (sFldS "Ground" "corners" (dVar 0) (dB bList (dCons (dVar 1) dNil))))
theorem len_Ground_init : ∀ ds So Q, sp_Ground_init ds So Q → ds.length = 2 := by rintro ds So Q ⟨_, _, _, rfl, _⟩; rfl
theorem bo_Ground_init : BodyOk 2 b_Ground_init sp_Ground_init := by
  rintro ds S Q ⟨S0, x, cs, rfl, rfl, hx, g, q⟩
  unfold b_Ground_init
  have hx' : Lst (S0 ++ [.ins "Ground" []]) x (cs.map p2) := hx.old
  walk_at "dgo"
  refine ⟨x, cs, rfl, hx', g, ?_⟩
  walk_at "dgo"
  refine ⟨S0.length, [], rfl, sto_h0, by decide, ?_⟩
  rw [sto_set0]
  exact fin_same q
def sp_Ground : DSp := clsSp "Ground" sp_Ground_init
def FootAt (cs : List (Int × Int)) (t : Int × Int) : Prop := ∃ a b, Brk cs (t.1, 1) a b ∧ hvT a b (t.1, 1) = t.2 * hvB a b (t.1, 1)
theorem brk_adj {cs : List (Int × Int)} (gr : Grd cs) {i : Nat} {a b : Int × Int} (ha : cs[i]? = some a) (hb : cs[i + 1]? = some b) {x : Int} (h1 : a.1 ≤ x) (h2 : x ≤ b.1) : Brk cs (x, 1) a b := by
  refine ⟨List.mem_of_getElem? ha, List.mem_of_getElem? hb, grd_lt gr (by omega) ha hb, by show a.1 * 1 ≤ x; omega, by show x ≤ b.1 * 1; omega, fun c hc hh => ?_⟩
  obtain ⟨j, hj⟩ := List.mem_iff_getElem?.mp hc
  rcases Nat.lt_trichotomy j i with k | k | k
  · have := grd_lt gr k hj ha; omega
  · subst k; rw [ha] at hj; cases hj; omega
  · rcases Nat.lt_trichotomy j (i + 1) with l | l | l
    · omega
    · subst l; rw [hb] at hj; cases hj; omega
    · have := grd_lt gr l hb hj; omega
def sp_law_feet : DSp := fun ds S Q => ∃ (x : D) (cs : List (Int × Int)) (sc : Int), ds = [x, .int sc] ∧ Lst S x (cs.map p2) ∧ Grd cs ∧ cs.length ≤ 9 ∧ 1 ≤ sc ∧ sc ≤ 10 ^ 20 ∧ Near cs sc ∧ ∀ ts : List (Int × Int), ts.length ≤ 100 → (∀ t ∈ ts, FootAt cs t) → New Q S (ts.map p2)
def b_law_feet : DS :=
    (sSeq (sAsg (dLst dNil) (gName 2))
    (sSeq (sFor (iRng2 (dCons (dC (.int 1)) (dCons (dB bLen (dCons (dVar 0) dNil)) dNil))) (gName 3) (sSeq (sAsg (dOp oIx (dVar 0) (dOp oSub (dVar 3) (dC (.int 1)))) (gName 4))
    (sSeq (sAsg (dOp oIx (dVar 0) (dVar 3)) (gName 5))
    (sFor (iRng1 (dCons (dOp oAdd (dOp oDiv (dOp oSub (dOp oIx (dVar 5) (dC (.int 0))) (dOp oIx (dVar 4) (dC (.int 0)))) (dVar 1)) (dC (.int 1))) dNil)) (gName 6) (sSeq (sAsg (dOp oMul (dOp oMul (dOp oSub (dOp oIx (dVar 5) (dC (.int 1))) (dOp oIx (dVar 4) (dC (.int 1)))) (dVar 6)) (dVar 1)) (gName 7))
    (sIf (dT (dOp oEq (dOp oMod (dVar 7) (dOp oSub (dOp oIx (dVar 5) (dC (.int 0))) (dOp oIx (dVar 4) (dC (.int 0))))) (dC (.int 0)))) (sDrop (dM mAppend (dVar 2) (dCons (dTup (dCons (dOp oAdd (dOp oIx (dVar 4) (dC (.int 0))) (dOp oMul (dVar 6) (dVar 1))) (dCons (dOp oAdd (dOp oIx (dVar 4) (dC (.int 1))) (dOp oDiv (dVar 7) (dOp oSub (dOp oIx (dVar 5) (dC (.int 0))) (dOp oIx (dVar 4) (dC (.int 0)))))) dNil))) dNil))) sNext))))))
    (sRet (dVar 2))))
theorem len_law_feet : ∀ ds So Q, sp_law_feet ds So Q → ds.length = 2 := by rintro ds So Q ⟨_, _, _, rfl, _⟩; rfl
theorem bo_law_feet : BodyOk 8 b_law_feet sp_law_feet := by
  rintro ds S Q ⟨x, cs, sc, rfl, hx, gr, g9, sc1, sc2, near, q⟩
  unfold b_law_feet
  have g1 := gr.two
  have hx' : Lst (S ++ [.lst []]) x (cs.map p2) := hx.old
  walk_at "dgo"
  rw [List.length_map]
  walk_at "drho"
  refine ⟨_, _, rfl, ?_⟩
  refine for_by (fun i ρ S' => ∃ (ts : List (Int × Int)) (w1 w2 w3 w4 w5 : Option D), S' = S ++ [.lst (ts.map p2)] ∧ ρ = [some x, some (.int sc), some (.ref S.length), w1, w2, w3, w4, w5] ∧ ts.length ≤ 5 * i ∧ ∀ t ∈ ts, FootAt cs t) ⟨[], none, none, none, none, none, rfl, rfl, by simp, by simp⟩ (fun _ _ _ _ => True.intro) ?_ ?_
  · rintro i d ρ S' hd ⟨ts, w1, w2, w3, w4, w5, rfl, rfl, htl, hts⟩
    obtain ⟨hi, rfl⟩ := upto_at hd
    obtain ⟨a, ha, aa⟩ := at_p2 (cs := cs) (k := 1 + (i : Int) - 1) (by omega) (by omega)
    obtain ⟨b, hb, ab⟩ := at_p2 (cs := cs) (k := 1 + (i : Int)) (by omega) (by omega)
    rw [show (1 + (i : Int) - 1).toNat = i by omega] at ha
    rw [show (1 + (i : Int)).toNat = i + 1 by omega] at hb
    have hab := grd_lt gr (show i < i + 1 by omega) ha hb
    have hnr := near i a b ha hb
    obtain ⟨ba1, ba2⟩ := gr.bd a (List.mem_of_getElem? ha)
    obtain ⟨bb1, bb2⟩ := gr.bd b (List.mem_of_getElem? hb)
    have hx2 : Lst (S ++ [.lst (ts.map p2)]) x (cs.map p2) := hx.old
    have dv : 0 < sc ∧ Bd 8000 sc := ⟨by omega, by
      have : Bd 200 sc := by show _ < 2 ^ 200; omega
      exact this.mono (by decide)⟩
    have n0 : 0 ≤ (b.1 - a.1) / sc := Int.ediv_nonneg (by omega) (by omega)
    have n4 : (b.1 - a.1) / sc ≤ 4 := Int.ediv_le_of_le_mul (by omega) hnr
    have nm := Int.ediv_mul_le (b.1 - a.1) (b := sc) (by omega)
    walk_at "dgo"
    generalize hn : (b.1 - a.1) / sc = n at n0 n4 nm
    refine ⟨_, rfl, by omega, by omega, ?_⟩
    refine for_by (fun j ρ S' => ∃ (us : List (Int × Int)) (w4 w5 : Option D), S' = S ++ [.lst (us.map p2)] ∧ ρ = [some x, some (.int sc), some (.ref S.length), some (.int (1 + (i : Int))), some (p2 a), some (p2 b), w4, w5] ∧ us.length ≤ 5 * i + j ∧ ∀ t ∈ us, FootAt cs t) ⟨ts, _, _, rfl, rfl, by omega, hts⟩ (fun _ _ _ _ => True.intro) ?_ ?_
    · rintro j d ρ S' hd ⟨us, w4, w5, rfl, rfl, hul, hus⟩
      obtain ⟨hj, rfl⟩ := upto_at hd
      have jn : (0 : Int) + (j : Int) ≤ n := by omega
      have k1 := Int.mul_nonneg (show 0 ≤ (0 : Int) + (j : Int) by omega) (show 0 ≤ sc by omega)
      have k2 : (0 + (j : Int)) * sc ≤ b.1 - a.1 := Int.le_trans (Int.mul_le_mul_of_nonneg_right jn (by omega)) nm
      have hlim : (us.map p2).length < big := by rw [List.length_map]; unfold big; omega
      have c1 : CMulD (b.2 - a.2) (0 + (j : Int)) := .inr (.inr (show _ < 2 ^ 64 by omega))
      have bj : Bd 10 (0 + (j : Int)) := by show _ < 2 ^ 10; omega
      have bs : Bd 100 sc := by show _ < 2 ^ 100; omega
      have c2 : CMulD ((b.2 - a.2) * (0 + (j : Int))) sc := .inl ⟨(Bd.mul (Bd.sub bb2 ba2) bj).mono (by decide), bs.mono (by decide)⟩
      have c3 : CMulD (0 + (j : Int)) sc := .inr (.inl (show _ < 2 ^ 64 by omega))
      have dw : 0 < b.1 - a.1 ∧ Bd 8000 (b.1 - a.1) := ⟨by omega, (Bd.sub bb1 ba1).mono (by decide)⟩
      have dm : 0 < b.1 - a.1 := by omega
      walk_at "dgo"
      refine r_d (fun h0 => ?_) (fun h0 => ?_)
      · walk_at "dgo"
        refine ⟨us ++ [(a.1 + (0 + (j : Int)) * sc, a.2 + (b.2 - a.2) * (0 + (j : Int)) * sc / (b.1 - a.1))], _, _, by rw [List.map_append]; rfl, rfl, by simp; omega, fun t ht => ?_⟩
        rcases List.mem_append.mp ht with h | h
        · exact hus t h
        · have : t = (a.1 + (0 + (j : Int)) * sc, a.2 + (b.2 - a.2) * (0 + (j : Int)) * sc / (b.1 - a.1)) := by simpa using h
          subst this
          refine ⟨a, b, brk_adj gr ha hb (by show a.1 ≤ a.1 + _; omega) (by show a.1 + _ ≤ b.1; omega), ?_⟩
          unfold hvT hvB
          rw [if_pos (by omega), if_pos (by omega)]
          dsimp only
          have hd := Int.ediv_mul_cancel (Int.dvd_of_emod_eq_zero h0)
          rw [Int.mul_one, Int.mul_one, Int.mul_one]
          generalize (b.2 - a.2) * (0 + (j : Int)) * sc / (b.1 - a.1) = qq at hd ⊢
          rw [Int.add_mul a.2 qq, hd]
          grind
      · walk_at "dgo"
        exact ⟨us, _, _, rfl, rfl, by omega, hus⟩
    · rintro ρ S' ⟨us, w4, w5, rfl, rfl, hul, hus⟩
      rw [upto_length] at hul
      exact ⟨us, _, _, _, _, _, rfl, rfl, by omega, hus⟩
  · rintro ρ S' ⟨ts, w1, w2, w3, w4, w5, rfl, rfl, htl, hts⟩
    rw [upto_length] at htl
    walk_at "dgo"
    exact fin_same (q ts (by omega) hts)
def sp_less : DSp := fun ds S Q => ∃ (a b : Int × Int), ds = [p2 a, p2 b] ∧ CMulD a.1 b.2 ∧ CMulD b.1 a.2 ∧ Q (.bl (flt a b)) S
theorem less_emb {K : Int × Int → Prop} {R : Int × Int → Int} {a b : Int × Int} {S : Sto} {Q : DK} (E : Emb K R) (ka : K a) (kb : K b) (q : Q (.bl (decide (R a < R b))) S) : sp_less [p2 a, p2 b] S Q := ⟨a, b, rfl, E.mul a b ka kb, E.mul b a kb ka, by rw [E.lt a b ka kb]; exact q⟩
def b_less : DS :=
    (sRet (dOp oLt (dOp oMul (dOp oIx (dVar 0) (dC (.int 0))) (dOp oIx (dVar 1) (dC (.int 1)))) (dOp oMul (dOp oIx (dVar 1) (dC (.int 0))) (dOp oIx (dVar 0) (dC (.int 1))))))
theorem len_less : ∀ ds So Q, sp_less ds So Q → ds.length = 2 := by rintro ds So Q ⟨_, _, rfl, _⟩; rfl
theorem bo_less : BodyOk 2 b_less sp_less := by
  rintro ds S Q ⟨a, b, rfl, c1, c2, q⟩
  unfold b_less
  walk_at "dgo"
  exact fin_same q
def sp_is_on : DSp := fun ds S Q => ∃ (g : D) (cs : List (Int × Int)) (p : Int × Int), ds = [g, p2 p] ∧ GAt S g cs ∧ Grd cs ∧ Bd 1000 p.1 ∧ Bd 1000 p.2 ∧ Q (.bl (decide (fstC cs * p.2 ≤ p.1) && decide (p.1 ≤ lstC cs * p.2))) S
def b_is_on : DS :=
    (sSeq (sAsg (dTup (dCons (dOp oIx (dOp oIx (dFld "corners" (dVar 0)) (dC (.int 0))) (dC (.int 0))) (dCons (dC (.int 1)) dNil))) (gName 2))
    (sSeq (sAsg (dTup (dCons (dOp oIx (dOp oIx (dFld "corners" (dVar 0)) (dUn oNeg (dC (.int 1)))) (dC (.int 0))) (dCons (dC (.int 1)) dNil))) (gName 3))
    (sRet (dAndV (dNotV (dCall sp_less (dCons (dVar 1) (dCons (dVar 2) dNil)))) (dNotV (dCall sp_less (dCons (dVar 3) (dCons (dVar 1) dNil))))))))
theorem len_is_on : ∀ ds So Q, sp_is_on ds So Q → ds.length = 2 := by rintro ds So Q ⟨_, _, _, rfl, _⟩; rfl
theorem bo_is_on : BodyOk 4 b_is_on sp_is_on := by
  rintro ds S Q ⟨g, cs, p, rfl, ⟨n, l, rfl, hn, hl⟩, gr, b1, b2, q⟩
  unfold b_is_on
  have g1 := gr.two
  obtain ⟨a, ha, ea⟩ := grd_first gr
  obtain ⟨z, hz, ez⟩ := grd_last gr
  have aa : atD (cs.map p2) 0 = some (p2 a) := at_nat (i := 0) (by rw [List.getElem?_map, ha]; rfl)
  have az : atD (cs.map p2) (-1) = some (p2 z) := by
    have hne : cs ≠ [] := fun e => by rw [e] at g1; simp at g1
    have en : cs = cs.dropLast ++ [z] := by
      have h2 := List.dropLast_concat_getLast hne
      have h3 : cs.getLast hne = z := by
        rw [List.getLast_eq_getElem]
        have hl' := lt_getD hz
        rw [List.getElem?_eq_getElem hl'] at hz
        cases hz; rfl
      rw [h3] at h2
      exact h2.symm
    rw [en, List.map_append]; exact at_minus
  obtain ⟨ba, _⟩ := gr.bd a (List.mem_of_getElem? ha)
  obtain ⟨bz, _⟩ := gr.bd z (List.mem_of_getElem? hz)
  rw [ea, ez] at q
  have e1 : flt p (a.1, 1) = decide (p.1 < a.1 * p.2) := by unfold flt; dsimp only; rw [Int.mul_one]
  have e2 : flt (z.1, 1) p = decide (z.1 * p.2 < p.1) := by unfold flt; dsimp only; rw [Int.mul_one]
  have c1 : CMulD a.1 p.2 := .inl ⟨ba.mono (by decide), b2.mono (by decide)⟩
  have c2 : CMulD z.1 p.2 := .inl ⟨bz.mono (by decide), b2.mono (by decide)⟩
  have c3 : ∀ u : Int, CMulD u 1 := fun u => .inr (.inr (by decide))
  walk_at "dgo"
  refine ⟨p, (a.1, 1), rfl, c3 _, c1, ?_⟩
  rw [e1]
  walk_at "dgo"
  refine r_nd (fun g => ?_) (fun g => ?_)
  · walk_at "dgo"
    refine ⟨(z.1, 1), p, rfl, c2, c3 _, ?_⟩
    rw [e2]
    walk_at "dgo"
    rw [decide_eq_true (show a.1 * p.2 ≤ p.1 by omega), Bool.true_and] at q
    rw [show (!decide (z.1 * p.2 < p.1)) = decide (p.1 ≤ z.1 * p.2) by rw [← decide_not]; exact decide_eq_decide.mpr (by omega)]
    exact fin_same q
  · rw [decide_eq_false (show ¬ a.1 * p.2 ≤ p.1 by omega), Bool.false_and] at q
    exact fin_same q
def sp_common_divisor : DSp := fun ds S Q => ∃ (t b : Int), ds = [.int t, .int b] ∧ Q (.int ((Int.gcd t b : Nat) : Int)) S
def b_common_divisor : DS :=
    (sSeq (sWhile (dT (dOp oNe (dVar 1) (dC (.int 0)))) (sSeq (sAsg (dOp oMod (dVar 0) (dVar 1)) (gName 2))
    (sSeq (sAsg (dVar 1) (gName 0))
    (sAsg (dVar 2) (gName 1)))))
    (sRet (dB bAbs (dCons (dVar 0) dNil))))
theorem len_common_divisor : ∀ ds So Q, sp_common_divisor ds So Q → ds.length = 2 := by rintro ds So Q ⟨_, _, rfl, _⟩; rfl
theorem bo_common_divisor : BodyOk 3 b_common_divisor sp_common_divisor := by
  rintro ds S Q ⟨t, b, rfl, q⟩
  unfold b_common_divisor
  refine Dp.r_seq ?_
  refine w_by (fun m ρ S' => S' = S ∧ ∃ (x y : Int) (w : Option D), ρ = [some (.int x), some (.int y), w] ∧ m = y.natAbs ∧ Int.gcd x y = Int.gcd t b) b.natAbs ⟨rfl, _, _, none, rfl, rfl, rfl⟩ ?_
  rintro m ρ S' ⟨rfl, x, y, w, rfl, rfl, e⟩
  walk_at "dgo"
  refine r_nd (fun h0 => ?_) (fun h0 => ?_)
  · refine r_turn ?_
    refine Dp.r_seq ?_
    refine Dp.r_asg ?_
    refine Dp.r_op ?_
    refine Dp.r_var rfl ?_
    refine Dp.r_var rfl ?_
    refine o_modN h0 ?_
    walk_at "dgo"
    exact ⟨_, fmod_lt_abs h0, rfl, _, _, _, rfl, rfl, (gcd_fmod x y).trans e⟩
  · subst h0
    rw [Int.gcd_zero] at e
    walk_at "dgo"
    rw [← e] at q
    exact fin_same q
def sp_fraction : DSp := fun ds S Q => ∃ (t b : Int), ds = [.int t, .int b] ∧ b ≠ 0 ∧ Bd 8000 b ∧ Q (p2 (frT t b, frB t b)) S
def b_fraction : DS :=
    (sSeq (sAsg (dCall sp_common_divisor (dCons (dVar 0) (dCons (dVar 1) dNil))) (gName 2))
    (sSeq (sJ (sIf (dT (dOp oLt (dVar 1) (dC (.int 0)))) (sAsg (dUn oNeg (dVar 2)) (gName 2)) sNext))
    (sRet (dTup (dCons (dOp oDiv (dVar 0) (dVar 2)) (dCons (dOp oDiv (dVar 1) (dVar 2)) dNil))))))
theorem len_fraction : ∀ ds So Q, sp_fraction ds So Q → ds.length = 2 := by rintro ds So Q ⟨_, _, rfl, _⟩; rfl
theorem bo_fraction : BodyOk 3 b_fraction sp_fraction := by
  rintro ds S Q ⟨t, b, rfl, hb, bb, q⟩
  unfold b_fraction
  have hgn := gd_ne (t := t) (b := b) hb
  have hgb := gd_bd (t := t) (b := b) hb bb
  walk_at "dgo"
  refine ⟨t, b, rfl, ?_⟩
  walk_at "dgo"
  refine r_J (fun ρ S' => S' = S ∧ ρ = [some (.int t), some (.int b), some (.int (gd t b))]) ?_ ?_
  · walk_at "dgo"
    refine r_d (fun g => ?_) (fun g => ?_)
    · have hg : gd t b = -((Int.gcd t b : Nat) : Int) := if_pos g
      walk_at "dgo"
      exact ⟨rfl, by rw [hg]; rfl⟩
    · have hg : gd t b = ((Int.gcd t b : Nat) : Int) := if_neg g
      walk_at "dgo"
      exact ⟨rfl, by rw [hg]; rfl⟩
  rintro ρ S' ⟨rfl, rfl⟩
  refine Dp.r_ret ?_
  refine Dp.r_tup ?_
  refine Dp.r_cons ?_
  refine Dp.r_op ?_
  refine Dp.r_var rfl ?_
  refine Dp.r_var rfl ?_
  refine o_divN ⟨hgn, hgb⟩ ?_
  refine Dp.r_cons ?_
  refine Dp.r_op ?_
  refine Dp.r_var rfl ?_
  refine Dp.r_var rfl ?_
  refine o_divN ⟨hgn, hgb⟩ ?_
  walk_at "dgo"
  exact fin_same q
def sp_height_on : DSp := fun ds S Q => ∃ (a b p : Int × Int), ds = [p2 a, p2 b, p2 p] ∧ b.1 ≠ a.1 ∧ 0 < p.2 ∧ Bd 180 a.1 ∧ Bd 200 a.2 ∧ Bd 180 b.1 ∧ Bd 200 b.2 ∧ Bd 1000 p.1 ∧ Bd 1000 p.2 ∧ ∀ c : Int × Int, Sv c (hvT a b p) (hvB a b p) → Int.gcd c.1 c.2 = 1 → Bd 1400 c.1 → Bd 1400 c.2 → Q (p2 c) S
theorem sv_fr {t b : Int} (hb : b ≠ 0) : Sv (frT t b, frB t b) (if 0 < b then t else -t) (if 0 < b then b else -b) := by
  have h1 := fr_cross t b
  have h2 := frB_pos (t := t) hb
  refine ⟨by show 0 < frB t b; omega, ?_⟩
  show frT t b * _ = _ * frB t b
  split
  · rw [h1, Int.mul_comm]
  · rw [Int.mul_neg, h1, Int.neg_mul, Int.mul_comm]
def b_height_on : DS :=
    (sSeq (sAsg (dOp oSub (dOp oIx (dVar 1) (dC (.int 0))) (dOp oIx (dVar 0) (dC (.int 0)))) (gName 3))
    (sSeq (sAsg (dOp oSub (dOp oIx (dVar 1) (dC (.int 1))) (dOp oIx (dVar 0) (dC (.int 1)))) (gName 4))
    (sSeq (sAsg (dOp oAdd (dOp oMul (dOp oMul (dOp oIx (dVar 0) (dC (.int 1))) (dVar 3)) (dOp oIx (dVar 2) (dC (.int 1)))) (dOp oMul (dVar 4) (dOp oSub (dOp oIx (dVar 2) (dC (.int 0))) (dOp oMul (dOp oIx (dVar 0) (dC (.int 0))) (dOp oIx (dVar 2) (dC (.int 1))))))) (gName 5))
    (sRet (dCall sp_fraction (dCons (dVar 5) (dCons (dOp oMul (dVar 3) (dOp oIx (dVar 2) (dC (.int 1)))) dNil)))))))
theorem len_height_on : ∀ ds So Q, sp_height_on ds So Q → ds.length = 3 := by rintro ds So Q ⟨_, _, _, rfl, _⟩; rfl
theorem bo_height_on : BodyOk 6 b_height_on sp_height_on := by
  rintro ds S Q ⟨a, b, p, rfl, hne, hp, b1, b2, b3, b4, b5, b6, q⟩
  unfold b_height_on
  have r1 : Bd 181 (b.1 - a.1) := Bd.sub b3 b1
  have r2 : Bd 201 (b.2 - a.2) := Bd.sub b4 b2
  have m1 : Bd 381 (a.2 * (b.1 - a.1)) := Bd.mul b2 r1
  have m2 : Bd 1381 (a.2 * (b.1 - a.1) * p.2) := Bd.mul m1 b6
  have m3 : Bd 1180 (a.1 * p.2) := Bd.mul b1 b6
  have m4 : Bd 1181 (p.1 - a.1 * p.2) := Bd.sub (b5.mono (by decide)) m3
  have m5 : Bd 1382 ((b.2 - a.2) * (p.1 - a.1 * p.2)) := Bd.mul r2 m4
  have m6 : Bd 1181 ((b.1 - a.1) * p.2) := Bd.mul r1 b6
  have bT : Bd 1400 (a.2 * (b.1 - a.1) * p.2 + (b.2 - a.2) * (p.1 - a.1 * p.2)) := (Bd.add (n := 1382) (m2.mono (by decide)) m5).mono (by decide)
  have c1 : CMulD a.2 (b.1 - a.1) := .inl ⟨b2.mono (by decide), r1.mono (by decide)⟩
  have c2 : CMulD (a.2 * (b.1 - a.1)) p.2 := .inl ⟨m1.mono (by decide), b6.mono (by decide)⟩
  have c3 : CMulD a.1 p.2 := .inl ⟨b1.mono (by decide), b6.mono (by decide)⟩
  have c4 : CMulD (b.2 - a.2) (p.1 - a.1 * p.2) := .inl ⟨r2.mono (by decide), m4.mono (by decide)⟩
  have c5 : CMulD (b.1 - a.1) p.2 := .inl ⟨r1.mono (by decide), b6.mono (by decide)⟩
  walk_at "dgo"
  have hr : (b.1 - a.1) * p.2 ≠ 0 := Int.mul_ne_zero (by omega) (by omega)
  refine ⟨_, _, rfl, hr, m6.mono (by decide), ?_⟩
  refine fin_same (q _ ?_ (fr_gcd hr) (frT_bd bT) ((frB_bd m6).mono (by decide)))
  have hs := sv_fr (t := a.2 * (b.1 - a.1) * p.2 + (b.2 - a.2) * (p.1 - a.1 * p.2)) hr
  unfold hvT hvB
  by_cases g : 0 < b.1 - a.1
  · have : 0 < (b.1 - a.1) * p.2 := Int.mul_pos g hp
    rw [if_pos this, if_pos this] at hs
    rw [if_pos g, if_pos g]; exact hs
  · have : ¬ 0 < (b.1 - a.1) * p.2 := fun z => by
      have := Int.mul_pos (show 0 < -(b.1 - a.1) by omega) hp
      rw [Int.neg_mul] at this
      omega
    rw [if_neg this, if_neg this] at hs
    rw [if_neg g, if_neg g]; exact hs
def sp_ground_at : DSpX := fun ds S Q ex => ∃ (g : D) (cs : List (Int × Int)) (p : Int × Int), ds = [g, p2 p] ∧ GAt S g cs ∧ Grd cs ∧ 0 < p.2 ∧ Bd 1000 p.1 ∧ Bd 1000 p.2 ∧ (¬ OnG cs p → ex "OffGround" S) ∧ (OnG cs p → ∀ a b c : Int × Int, segG cs p = some (a, b) → Sv c (hvT a b p) (hvB a b p) → 0 < hvB a b p → Int.gcd c.1 c.2 = 1 → Bd 1400 c.1 → Bd 1400 c.2 → Q (p2 c) S)
def b_ground_at (ex : XR) : DS :=
    (sSeq (sIf (dNot (dT (dCall sp_is_on (dCons (dVar 0) (dCons (dVar 1) dNil))))) (sRaise ex "OffGround") sNext)
    (sSeq (sAsg (dFld "corners" (dVar 0)) (gName 2))
    (sSeq (sAsg (dC (.int 1)) (gName 3))
    (sSeq (sWhile (dT (dCall sp_less (dCons (dTup (dCons (dOp oIx (dOp oIx (dVar 2) (dVar 3)) (dC (.int 0))) (dCons (dC (.int 1)) dNil))) (dCons (dVar 1) dNil)))) (sAug 3 (dC (.int 1))))
    (sRet (dCall sp_height_on (dCons (dOp oIx (dVar 2) (dOp oSub (dVar 3) (dC (.int 1)))) (dCons (dOp oIx (dVar 2) (dVar 3)) (dCons (dVar 1) dNil)))))))))
theorem len_ground_at : ∀ ds So Q ex, sp_ground_at ds So Q ex → ds.length = 2 := by rintro ds So Q ex ⟨_, _, _, rfl, _⟩; rfl
theorem bo_ground_at : BodyOkX 4 b_ground_at sp_ground_at := by
  rintro ds S Q ex ⟨g, cs, p, rfl, hg, gr, hp, b1, b2, hx, q⟩
  unfold b_ground_at
  obtain ⟨n, l, rfl, hn, hl⟩ := id hg
  walk_at "dgo"
  refine ⟨_, cs, p, rfl, hg, gr, b1, b2, ?_⟩
  by_cases on : OnG cs p
  case neg =>
    have e : (decide (fstC cs * p.2 ≤ p.1) && decide (p.1 ≤ lstC cs * p.2)) = false := Bool.eq_false_iff.mpr fun z => on (by rw [Bool.and_eq_true, decide_eq_true_eq, decide_eq_true_eq] at z; exact z)
    rw [e]
    walk_at "dgo"
    exact hx on
  have q := q on
  obtain ⟨kk, a, b, ha, hb, hle, hlt⟩ := seg_ex gr.two on.2
  have seg := seg_at ha hb hle hlt
  have hk := lt_getD hb
  rw [decide_eq_true on.1, decide_eq_true on.2, show (true && true) = true from rfl]
  walk_at "dgo"
  refine w_by (fun m ρ S' => S' = S ∧ ∃ j : Nat, ρ = [some (.ref n), some (p2 p), some (.ref l), some (.int ((j : Int) + 1))] ∧ m = kk - j ∧ j ≤ kk) kk ⟨rfl, 0, rfl, rfl, by omega⟩ ?_
  rintro m ρ S' ⟨rfl, j, rfl, rfl, hj⟩
  obtain ⟨c, hc, ac⟩ := at_p2 (cs := cs) (k := (j : Int) + 1) (by omega) (by omega)
  have hc' : cs[j + 1]? = some c := by rwa [show ((j : Int) + 1).toNat = j + 1 by omega] at hc
  obtain ⟨bc, bc2⟩ := gr.bd c (List.mem_of_getElem? hc)
  have e1 : flt (c.1, 1) p = decide (c.1 * p.2 < p.1) := by unfold flt; dsimp only; rw [Int.mul_one]
  walk_at "dgo"
  refine ⟨(c.1, 1), p, rfl, .inl ⟨bc.mono (by decide), b2.mono (by decide)⟩, .inr (.inr (show (1 : Int).natAbs < 2 ^ 64 by decide)), ?_⟩
  rw [e1]
  walk_at "dgo"
  refine r_d (fun h => ?_) (fun h => ?_)
  · walk_at "dgo"
    have hjk : j < kk := by
      rcases Nat.lt_or_ge j kk with z | z
      · exact z
      · have : j = kk := by omega
        subst this
        rw [hb] at hc'
        cases hc'
        omega
    exact ⟨kk - (j + 1), by omega, rfl, j + 1, by simp, rfl, by omega⟩
  · have hjk : j = kk := by
      rcases Nat.lt_or_ge j kk with z | z
      · have := hlt (j + 1) c (by omega) (by omega) hc'
        omega
      · omega
    subst hjk
    rw [hb] at hc'
    cases hc'
    have aa : atD (cs.map p2) ((j : Int) + 1 - 1) = some (p2 a) := by
      rw [show (j : Int) + 1 - 1 = (j : Int) by omega]
      exact at_nat (by rw [List.getElem?_map, ha]; rfl)
    obtain ⟨ba1, ba2⟩ := gr.bd a (List.mem_of_getElem? ha)
    have hab := grd_lt gr (show j < j + 1 by omega) ha hb
    walk_at "dgo"
    refine ⟨a, b, p, rfl, by omega, hp, ba1.mono (by decide), ba2.mono (by decide), bc.mono (by decide), bc2.mono (by decide), b1, b2, fun c hs hg d1 d2 => ?_⟩
    exact fin_same (q a b c seg hs (hvB_pos (by omega) hp) hg d1 d2)
def sp_stands : DSp := fun ds S Q => ∃ (g : D) (cs : List (Int × Int)) (s : Int × Int), ds = [g, p2 s] ∧ GAt S g cs ∧ Grd cs ∧ Bd 180 s.1 ∧ Bd 200 s.2 ∧ ∀ b : Bool, (b = true ↔ StdG cs s) → Q (.bl b) S
def b_stands : DS :=
    (sSeq (sAsg (dTup (dCons (dOp oIx (dVar 1) (dC (.int 0))) (dCons (dC (.int 1)) dNil))) (gName 2))
    (sSeq (sIf (dNot (dT (dCall sp_is_on (dCons (dVar 0) (dCons (dVar 2) dNil))))) (sRet (dC (.bl false))) sNext)
    (sRet (dNotV (dCall sp_less (dCons (dTup (dCons (dOp oIx (dVar 1) (dC (.int 1))) (dCons (dC (.int 1)) dNil))) (dCons (dCallX sp_ground_at xF (dCons (dVar 0) (dCons (dVar 2) dNil))) dNil)))))))
theorem len_stands : ∀ ds So Q, sp_stands ds So Q → ds.length = 2 := by rintro ds So Q ⟨_, _, _, rfl, _⟩; rfl
theorem bo_stands : BodyOk 3 b_stands sp_stands := by
  rintro ds S Q ⟨g, cs, s, rfl, hg, gr, b1, b2, q⟩
  unfold b_stands
  have bo : Bd 1000 (1 : Int) := Bd.lit (by decide) (by decide)
  walk_at "dgo"
  refine ⟨g, cs, (s.1, 1), rfl, hg, gr, b1.mono (by decide), bo, ?_⟩
  by_cases on : OnG cs (s.1, 1)
  case neg =>
    have e : (decide (fstC cs * (s.1, (1 : Int)).2 ≤ (s.1, (1 : Int)).1) && decide ((s.1, (1 : Int)).1 ≤ lstC cs * (s.1, (1 : Int)).2)) = false := Bool.eq_false_iff.mpr fun z => on (by rw [Bool.and_eq_true, decide_eq_true_eq, decide_eq_true_eq] at z; exact z)
    rw [e]
    walk_at "dgo"
    exact fin_same (q false ⟨fun z => (by cases z), fun z => absurd z.1 on⟩)
  rw [decide_eq_true on.1, decide_eq_true on.2, show (true && true) = true from rfl]
  walk_at "dgo"
  refine ⟨g, cs, (s.1, 1), rfl, hg, gr, (show (0 : Int) < 1 by decide), b1.mono (by decide), bo, fun off => absurd on off, fun _ a b c seg sv hb hgcd d1 d2 => ?_⟩
  walk_at "dgo"
  refine ⟨(s.2, 1), c, rfl, .inl ⟨b2.mono (by decide), d2.mono (by decide)⟩, .inr (.inr (show (1 : Int).natAbs < 2 ^ 64 by decide)), ?_⟩
  rw [flt_sv (t := s.2) (b := 1) (by decide) hb ⟨(show (0 : Int) < 1 by decide), rfl⟩ sv]
  walk_at "dgo"
  refine fin_same (q _ ?_)
  rw [Bool.not_eq_true', decide_eq_false_iff_not]
  constructor
  · intro h
    refine ⟨on, fun a' b' seg' => ?_⟩
    rw [seg] at seg'; cases seg'; omega
  · intro h
    have := h.2 a b seg
    omega
def sp_refuse_not_standing : DSpX := fun ds S Q ex => ∃ (g : D) (cs : List (Int × Int)) (s : Int × Int), ds = [g, p2 s] ∧ GAt S g cs ∧ Grd cs ∧ Bd 180 s.1 ∧ Bd 200 s.2 ∧ (¬ StdG cs s → ex "OffGround" S) ∧ (StdG cs s → Q .non S)
def b_refuse_not_standing (ex : XR) : DS :=
    (sIf (dNot (dT (dCall sp_stands (dCons (dVar 0) (dCons (dVar 1) dNil))))) (sRaise ex "OffGround") sNext)
theorem len_refuse_not_standing : ∀ ds So Q ex, sp_refuse_not_standing ds So Q ex → ds.length = 2 := by rintro ds So Q ex ⟨_, _, _, rfl, _⟩; rfl
theorem bo_refuse_not_standing : BodyOkX 2 b_refuse_not_standing sp_refuse_not_standing := by
  rintro ds S Q ex ⟨g, cs, s, rfl, hg, gr, b1, b2, hx, q⟩
  unfold b_refuse_not_standing
  walk_at "dgo"
  refine ⟨g, cs, s, rfl, hg, gr, b1, b2, fun b hb => ?_⟩
  cases b with
  | true => walk_at "dgo"; exact fin_same (q (hb.mp rfl))
  | false => walk_at "dgo"; exact hx fun z => (by have := hb.mpr z; cases this)
def sp_side_of : DSp := fun ds S Q => ∃ (a b c : Int × Int), ds = [p2 a, p2 b, p2 c] ∧ CMulD (c.2 - a.2) (b.1 - a.1) ∧ CMulD (c.1 - a.1) (b.2 - a.2) ∧ Q (.int (sdI a b c)) S
def b_side_of : DS :=
    (sSeq (sAsg (dOp oSub (dOp oIx (dVar 1) (dC (.int 0))) (dOp oIx (dVar 0) (dC (.int 0)))) (gName 3))
    (sSeq (sAsg (dOp oSub (dOp oIx (dVar 1) (dC (.int 1))) (dOp oIx (dVar 0) (dC (.int 1)))) (gName 4))
    (sSeq (sAsg (dOp oSub (dOp oMul (dOp oSub (dOp oIx (dVar 2) (dC (.int 1))) (dOp oIx (dVar 0) (dC (.int 1)))) (dVar 3)) (dOp oMul (dOp oSub (dOp oIx (dVar 2) (dC (.int 0))) (dOp oIx (dVar 0) (dC (.int 0)))) (dVar 4))) (gName 5))
    (sSeq (sJ (sIf (dT (dOp oLt (dVar 3) (dC (.int 0)))) (sAsg (dUn oNeg (dVar 5)) (gName 5)) sNext))
    (sSeq (sIf (dT (dOp oGt (dVar 5) (dC (.int 0)))) (sRet (dC (.int 1))) sNext)
    (sSeq (sIf (dT (dOp oLt (dVar 5) (dC (.int 0)))) (sRet (dUn oNeg (dC (.int 1)))) sNext)
    (sRet (dC (.int 0)))))))))
theorem len_side_of : ∀ ds So Q, sp_side_of ds So Q → ds.length = 3 := by rintro ds So Q ⟨_, _, _, rfl, _⟩; rfl
theorem bo_side_of : BodyOk 6 b_side_of sp_side_of := by
  rintro ds S Q ⟨a, b, c, rfl, c1, c2, q⟩
  unfold b_side_of
  walk_at "dgo"
  unfold sdI at q
  have key : ∀ o : Int, o = (if b.1 - a.1 < 0 then -sdO a b c else sdO a b c) → (if 0 < o then Q (.int 1) S else if o < 0 then Q (.int (-1)) S else Q (.int 0) S) := fun o e => by
    rw [← e] at q
    by_cases h : 0 < o
    · rw [if_pos h] at q ⊢; exact q
    · rw [if_neg h] at q ⊢
      by_cases h2 : o < 0
      · rw [if_pos h2] at q ⊢; exact q
      · rw [if_neg h2] at q ⊢; exact q
  refine r_J (fun ρ S' => S' = S ∧ ρ = [some (p2 a), some (p2 b), some (p2 c), some (.int (b.1 - a.1)), some (.int (b.2 - a.2)), some (.int (if b.1 - a.1 < 0 then -sdO a b c else sdO a b c))]) ?_ ?_
  · walk_at "dgo"
    refine r_d (fun g => ?_) (fun g => ?_)
    · walk_at "dgo"
      exact ⟨rfl, by rw [if_pos g]; rfl⟩
    · walk_at "dgo"
      exact ⟨rfl, by rw [if_neg g]; rfl⟩
  rintro ρ S' ⟨rfl, rfl⟩
  have k := key _ rfl
  generalize (if b.1 - a.1 < 0 then -sdO a b c else sdO a b c) = o at k
  walk_at "dgo"
  refine r_d (fun g => ?_) (fun g => ?_)
  · rw [if_pos g] at k
    walk_at "dgo"
    exact fin_same k
  · rw [if_neg g] at k
    walk_at "dgo"
    refine r_d (fun g2 => ?_) (fun g2 => ?_)
    · rw [if_pos g2] at k
      walk_at "dgo"
      exact fin_same k
    · rw [if_neg g2] at k
      walk_at "dgo"
      exact fin_same k
def sp_crossing : DSp := fun ds S Q => ∃ (a b c d : Int × Int), ds = [p2 a, p2 b, p2 c, p2 d] ∧ (∀ x ∈ [a, b, c, d], Bd 180 x.1 ∧ Bd 200 x.2) ∧ Q (if crB a b c d = 0 then .non else p2 (frT (crT a b c d) (crB a b c d), frB (crT a b c d) (crB a b c d))) S
def b_crossing : DS :=
    (sSeq (sAsg (dOp oSub (dOp oIx (dVar 1) (dC (.int 0))) (dOp oIx (dVar 0) (dC (.int 0)))) (gName 4))
    (sSeq (sAsg (dOp oSub (dOp oIx (dVar 1) (dC (.int 1))) (dOp oIx (dVar 0) (dC (.int 1)))) (gName 5))
    (sSeq (sAsg (dOp oSub (dOp oIx (dVar 3) (dC (.int 0))) (dOp oIx (dVar 2) (dC (.int 0)))) (gName 6))
    (sSeq (sAsg (dOp oSub (dOp oIx (dVar 3) (dC (.int 1))) (dOp oIx (dVar 2) (dC (.int 1)))) (gName 7))
    (sSeq (sAsg (dOp oSub (dOp oMul (dVar 5) (dVar 6)) (dOp oMul (dVar 7) (dVar 4))) (gName 8))
    (sSeq (sIf (dT (dOp oEq (dVar 8) (dC (.int 0)))) (sRet (dC .non)) sNext)
    (sSeq (sAsg (dOp oMul (dOp oMul (dOp oSub (dOp oIx (dVar 2) (dC (.int 1))) (dOp oIx (dVar 0) (dC (.int 1)))) (dVar 4)) (dVar 6)) (gName 9))
    (sSeq (sAsg (dOp oSub (dOp oAdd (dVar 9) (dOp oMul (dOp oMul (dOp oIx (dVar 0) (dC (.int 0))) (dVar 5)) (dVar 6))) (dOp oMul (dOp oMul (dOp oIx (dVar 2) (dC (.int 0))) (dVar 7)) (dVar 4))) (gName 9))
    (sRet (dCall sp_fraction (dCons (dVar 9) (dCons (dVar 8) dNil))))))))))))
theorem len_crossing : ∀ ds So Q, sp_crossing ds So Q → ds.length = 4 := by rintro ds So Q ⟨_, _, _, _, rfl, _⟩; rfl
theorem bo_crossing : BodyOk 10 b_crossing sp_crossing := by
  rintro ds S Q ⟨a, b, c, d, rfl, hb, q⟩
  obtain ⟨a1, a2⟩ := hb a (by simp)
  obtain ⟨b1, b2⟩ := hb b (by simp)
  obtain ⟨c1, c2⟩ := hb c (by simp)
  obtain ⟨d1, d2⟩ := hb d (by simp)
  have r1 : Bd 210 (b.1 - a.1) := (Bd.sub b1 a1).mono (by decide)
  have r2 : Bd 210 (b.2 - a.2) := (Bd.sub b2 a2).mono (by decide)
  have r3 : Bd 210 (d.1 - c.1) := (Bd.sub d1 c1).mono (by decide)
  have r4 : Bd 210 (d.2 - c.2) := (Bd.sub d2 c2).mono (by decide)
  have r5 : Bd 210 (c.2 - a.2) := (Bd.sub c2 a2).mono (by decide)
  unfold b_crossing
  walk_at "dgo"
  refine r_d (fun g => ?_) (fun g => ?_)
  · rw [if_pos (show crB a b c d = 0 from g)] at q
    walk_at "dgo"
    exact fin_same q
  · rw [if_neg (show ¬ crB a b c d = 0 from g)] at q
    walk_at "dgo"
    refine ⟨_, _, rfl, g, ?_, ?_⟩
    · have h : Bd 8000 ((b.2 - a.2) * (d.1 - c.1) - (d.2 - c.2) * (b.1 - a.1)) := by walk_at "dbd"
      exact h
    · exact fin_same q
def sp_first_seen : DSp := fun ds S Q => ∃ (a b c d : Int × Int), ds = [p2 a, p2 b, p2 c, p2 d] ∧ (∀ x ∈ [a, b, c, d], Bd 180 x.1 ∧ Bd 200 x.2) ∧ Q (p2 (fsQ a b c d)) S
def b_first_seen : DS :=
    (sSeq (sAsg (dCall sp_crossing (dCons (dVar 0) (dCons (dVar 1) (dCons (dVar 2) (dCons (dVar 3) dNil))))) (gName 4))
    (sSeq (sIf (dT (dOp oIs (dVar 4) (dC .non))) (sRet (dTup (dCons (dOp oIx (dVar 2) (dC (.int 0))) (dCons (dC (.int 1)) dNil)))) sNext)
    (sRet (dVar 4))))
theorem len_first_seen : ∀ ds So Q, sp_first_seen ds So Q → ds.length = 4 := by rintro ds So Q ⟨_, _, _, _, rfl, _⟩; rfl
theorem bo_first_seen : BodyOk 5 b_first_seen sp_first_seen := by
  rintro ds S Q ⟨a, b, c, d, rfl, hb, q⟩
  unfold b_first_seen
  walk_at "dgo"
  refine ⟨a, b, c, d, rfl, hb, ?_⟩
  unfold fsQ at q
  by_cases g : crB a b c d = 0
  · rw [if_pos g] at q ⊢
    walk_at "dgo"
    exact fin_same q
  · rw [if_neg g] at q ⊢
    walk_at "dgo"
    exact fin_same q
theorem fl_sts (xs : List St2) : fc (.lst (xs.map stD)) = true := by
  show (xs.map stD).all (fl 20) = true
  rw [List.all_map, List.all_eq_true]
  intro p _; rfl
theorem outF_len (s : Int × Int) : ∀ (r : List (Int × Int)) (h n : Int × Int), (outF s h n r).length ≤ r.length
  | [], _, _ => by simp [outF]
  | f :: r, h, n => by
    unfold outF
    split
    · have := outF_len s r f f; simp; omega
    · have := outF_len s r h f; simp; omega
theorem outQ_len (s : Int × Int) (os : List (Int × Int)) : (outQ s os).length ≤ os.length := by
  cases os with
  | nil => simp [outQ]
  | cons n r => have := outF_len s r n n; simp [outQ]; omega
def sp_seen_outward : DSp := fun ds S Q => ∃ (s : Int × Int) (x : D) (os : List (Int × Int)), ds = [p2 s, x] ∧ Lst S x (os.map p2) ∧ Bd 180 s.1 ∧ Bd 200 s.2 ∧ (∀ o ∈ os, Bd 180 o.1 ∧ Bd 200 o.2) ∧ os.length ≤ 40 ∧ New Q S ((outQ s os).map stD)
def b_seen_outward : DS :=
    (sSeq (sIf (dT (dOp oEq (dB bLen (dCons (dVar 1) dNil)) (dC (.int 0)))) (sRet (dLst dNil)) sNext)
    (sSeq (sAsg (dOp oIx (dVar 1) (dC (.int 0))) (gName 2))
    (sSeq (sAsg (dVar 2) (gName 3))
    (sSeq (sAsg (dLst (dCons (dTup (dCons (dTup (dCons (dOp oIx (dVar 0) (dC (.int 0))) (dCons (dC (.int 1)) dNil))) (dCons (dTup (dCons (dOp oIx (dVar 2) (dC (.int 0))) (dCons (dC (.int 1)) dNil))) dNil))) dNil)) (gName 4))
    (sSeq (sFor (iSeq (dSl sCut (dVar 1) (some (dC (.int 1))) none)) (gName 5) (sSeq (sJ (sIf (dT (dOp oGe (dCall sp_side_of (dCons (dVar 0) (dCons (dVar 3) (dCons (dVar 5) dNil)))) (dC (.int 0)))) (sSeq (sDrop (dM mAppend (dVar 4) (dCons (dTup (dCons (dCall sp_first_seen (dCons (dVar 0) (dCons (dVar 3) (dCons (dVar 2) (dCons (dVar 5) dNil))))) (dCons (dTup (dCons (dOp oIx (dVar 5) (dC (.int 0))) (dCons (dC (.int 1)) dNil))) dNil))) dNil)))
    (sAsg (dVar 5) (gName 3))) sNext))
    (sAsg (dVar 5) (gName 2))))
    (sRet (dVar 4)))))))
theorem len_seen_outward : ∀ ds So Q, sp_seen_outward ds So Q → ds.length = 2 := by rintro ds So Q ⟨_, _, _, rfl, _⟩; rfl
theorem bo_seen_outward : BodyOk 6 b_seen_outward sp_seen_outward := by
  rintro ds S Q ⟨s, x, os, rfl, hx, s1, s2, hb, hl, q⟩
  unfold b_seen_outward
  walk_at "dgo"
  rw [List.length_map]
  refine r_d (fun g => ?_) (fun g => ?_)
  · have : os = [] := List.length_eq_zero_iff.mp (by omega)
    subst this
    walk_at "dgo"
    exact fin_same q
  cases os with
  | nil => exact absurd rfl g
  | cons n r =>
  have a0 : atD ((n :: r).map p2) 0 = some (p2 n) := at_nat (i := 0) rfl
  walk_at "dgo"
  walk_at "drho"
  have hx1 : Lst (S ++ [.lst [stD ((s.1, 1), (n.1, 1))]]) x ((n :: r).map p2) := hx.old
  walk_at "dgo"
  rw [cut_tail, List.drop_one, List.tail_cons]
  refine for_by (fun i ρ S' => ∃ (fs : List St2) (n' h' : Int × Int) (w : Option D), ρ = [some (p2 s), some x, some (p2 n'), some (p2 h'), some (.ref S.length), w] ∧ S' = S ++ [.lst (fs.map stD), .lst (r.map p2)] ∧ fs ++ outF s h' n' (r.drop i) = outQ s (n :: r) ∧ fs.length ≤ i + 1 ∧ (n' ∈ n :: r) ∧ (h' ∈ n :: r))
    ⟨[((s.1, 1), (n.1, 1))], n, n, none, rfl, rfl, rfl, by simp, by simp, by simp⟩ (fun i ρ S' ⟨fs, n', h', w, _, e, _⟩ => e ▸ Lst.at rfl) ?_ ?_
  · rintro i d ρ S' hd ⟨fs, n', h', w, rfl, rfl, ef, lf, mn, mh⟩
    obtain ⟨f, hf, rfl⟩ := get_p2 hd
    have hi := lt_getD hf
    have mf : f ∈ n :: r := List.mem_cons_of_mem _ (List.mem_of_getElem? hf)
    have hdrop : r.drop i = f :: r.drop (i + 1) := by
      rw [List.getElem?_eq_getElem hi] at hf
      cases hf
      exact List.drop_eq_getElem_cons hi
    rw [hdrop] at ef
    obtain ⟨bf1, bf2⟩ := hb f mf
    obtain ⟨bh1, bh2⟩ := hb h' mh
    have hlim : (fs.map stD).length < big := by
      rw [List.length_map]
      simp only [List.length_cons] at hl
      unfold big; omega
    walk_at "dgo"
    refine r_J (fun ρ S' => ∃ (fs : List St2) (h' : Int × Int), ρ = [some (p2 s), some x, some (p2 n'), some (p2 h'), some (.ref S.length), some (p2 f)] ∧ S' = S ++ [.lst (fs.map stD), .lst (r.map p2)] ∧ fs ++ outF s h' f (r.drop (i + 1)) = outQ s (n :: r) ∧ fs.length ≤ i + 2 ∧ (h' ∈ n :: r)) ?_ ?_
    · walk_at "dgo"
      refine ⟨s, h', f, rfl, .inl ⟨(Bd.sub bf2 s2).mono (by decide), (Bd.sub bh1 s1).mono (by decide)⟩, .inl ⟨(Bd.sub bf1 s1).mono (by decide), (Bd.sub bh2 s2).mono (by decide)⟩, ?_⟩
      unfold outF at ef
      walk_at "dgo"
      refine r_d (fun g => ?_) (fun g => ?_)
      · rw [if_pos g] at ef
        walk_at "dgo"
        refine ⟨s, h', n', f, rfl, fun y hy => ?_, ?_⟩
        · simp only [List.mem_cons, List.not_mem_nil, or_false] at hy
          rcases hy with rfl | rfl | rfl | rfl
          · exact ⟨s1, s2⟩
          · exact ⟨bh1, bh2⟩
          · exact hb _ mn
          · exact ⟨bf1, bf2⟩
        walk_at "dgo"
        exact ⟨fs ++ [(fsQ s h' n' f, (f.1, 1))], f, rfl, by rw [List.map_append]; rfl, by rw [List.append_assoc]; exact ef, by simp; omega, mf⟩
      · rw [if_neg g] at ef
        walk_at "dgo"
        exact ⟨fs, h', rfl, rfl, ef, by omega, mh⟩
    rintro ρ S' ⟨fs, h2, rfl, rfl, ef, lf, mh⟩
    walk_at "dgo"
    exact ⟨fs, f, h2, _, rfl, rfl, ef, by omega, mf, mh⟩
  · rintro ρ S' ⟨fs, n', h', w, rfl, rfl, ef, lf, mn, mh⟩
    rw [List.length_map, List.drop_length] at ef
    unfold outF at ef
    rw [List.append_nil] at ef
    rw [← ef] at q
    walk_at "dgo"
    exact fin_new (fl_sts fs) q
def sp_lesser : DSp := fun ds S Q => ∃ (a b : Int × Int), ds = [p2 a, p2 b] ∧ CMulD a.1 b.2 ∧ CMulD b.1 a.2 ∧ Q (p2 (if flt a b = true then a else b)) S
theorem lesser_emb {K : Int × Int → Prop} {R : Int × Int → Int} {a b : Int × Int} {S : Sto} {Q : DK} (E : Emb K R) (ka : K a) (kb : K b) (q : ∀ c, K c → (c = a ∨ c = b) → R c = min (R a) (R b) → Q (p2 c) S) : sp_lesser [p2 a, p2 b] S Q := by
  refine ⟨a, b, rfl, E.mul a b ka kb, E.mul b a kb ka, ?_⟩
  rw [E.lt a b ka kb]
  by_cases h : R a < R b
  · rw [decide_eq_true h, if_pos rfl]; exact q a ka (.inl rfl) (by omega)
  · rw [decide_eq_false h, if_neg Bool.false_ne_true]; exact q b kb (.inr rfl) (by omega)
def b_lesser : DS :=
    (sRet (dIfE (dT (dCall sp_less (dCons (dVar 0) (dCons (dVar 1) dNil)))) (dVar 0) (dVar 1)))
theorem len_lesser : ∀ ds So Q, sp_lesser ds So Q → ds.length = 2 := by rintro ds So Q ⟨_, _, rfl, _⟩; rfl
theorem bo_lesser : BodyOk 2 b_lesser sp_lesser := by
  rintro ds S Q ⟨a, b, rfl, c1, c2, q⟩
  unfold b_lesser
  walk_at "dgo"
  refine ⟨a, b, rfl, c1, c2, ?_⟩
  walk_at "dgo"
  cases h : flt a b with
  | true => rw [h, if_pos rfl] at q; walk_at "dgo"; exact fin_same q
  | false => rw [h, if_neg Bool.false_ne_true] at q; walk_at "dgo"; exact fin_same q
def sp_greater : DSp := fun ds S Q => ∃ (a b : Int × Int), ds = [p2 a, p2 b] ∧ CMulD a.1 b.2 ∧ CMulD b.1 a.2 ∧ Q (p2 (if flt a b = true then b else a)) S
theorem greater_emb {K : Int × Int → Prop} {R : Int × Int → Int} {a b : Int × Int} {S : Sto} {Q : DK} (E : Emb K R) (ka : K a) (kb : K b) (q : ∀ c, K c → (c = a ∨ c = b) → R c = max (R a) (R b) → Q (p2 c) S) : sp_greater [p2 a, p2 b] S Q := by
  refine ⟨a, b, rfl, E.mul a b ka kb, E.mul b a kb ka, ?_⟩
  rw [E.lt a b ka kb]
  by_cases h : R a < R b
  · rw [decide_eq_true h, if_pos rfl]; exact q b kb (.inr rfl) (by omega)
  · rw [decide_eq_false h, if_neg Bool.false_ne_true]; exact q a ka (.inl rfl) (by omega)
def b_greater : DS :=
    (sRet (dIfE (dT (dCall sp_less (dCons (dVar 0) (dCons (dVar 1) dNil)))) (dVar 1) (dVar 0)))
theorem len_greater : ∀ ds So Q, sp_greater ds So Q → ds.length = 2 := by rintro ds So Q ⟨_, _, rfl, _⟩; rfl
theorem bo_greater : BodyOk 2 b_greater sp_greater := by
  rintro ds S Q ⟨a, b, rfl, c1, c2, q⟩
  unfold b_greater
  walk_at "dgo"
  refine ⟨a, b, rfl, c1, c2, ?_⟩
  walk_at "dgo"
  cases h : flt a b with
  | true => rw [h, if_pos rfl] at q; walk_at "dgo"; exact fin_same q
  | false => rw [h, if_neg Bool.false_ne_true] at q; walk_at "dgo"; exact fin_same q
def onS (p : St2 → Bool) : D → Bool
  | .tup [.tup [.int a, .int b], .tup [.int c, .int d]] => p ((a, b), (c, d))
  | _ => false
theorem onS_map (p : St2 → Bool) (xs : List St2) : (xs.map stD).filter (onS p) = (xs.filter p).map stD := by rw [List.filter_map]; rfl
theorem cut3 {α : Type} (A T B : List α) : cutD (A ++ T ++ B) (some (A.length : Int)) (some (((A ++ T ++ B).length : Int) - (B.length : Int))) = T := by
  have hn : (A ++ T ++ B).length = A.length + T.length + B.length := by simp; omega
  unfold cutD slD
  dsimp only
  rw [hn, if_neg (by omega), if_neg (by omega), Int.toNat_natCast]
  rw [show (((A.length + T.length + B.length : Nat) : Int) - (B.length : Int)).toNat = A.length + T.length by omega, Nat.min_eq_left (by omega), Nat.min_eq_left (by omega), List.append_assoc, List.drop_left, show A.length + T.length - A.length = T.length by omega, List.take_left]
def sp_with_stretch : DSp := fun ds S Q => ∃ (K : Int × Int → Prop) (R : Int × Int → Int) (xs : List St2) (lo hi : Int × Int), ds = [.tup (xs.map stD), p2 lo, p2 hi] ∧ Emb K R ∧ (∀ x ∈ xs, KS K R x) ∧ KS K R (lo, hi) ∧ SpOk (xs.map (rk R)) ∧ R lo ≤ R hi ∧ xs.length ≤ 1000 ∧
  ∀ ys : List St2, (∀ y ∈ ys, KS K R y) → SpOk (ys.map (rk R)) → (∀ h, (ys.map (rk R)).any (inS h) = ((xs.map (rk R)).any (inS h) || inS h (R lo, R hi))) → ys.length ≤ xs.length + 1 → Q (.tup (ys.map stD)) S
def b_with_stretch : DS :=
    (sSeq (sAsg (dLC 1 [1] (iSeq (dVar 0)) (gName 0) (dT (dCall sp_less (dCons (dOp oIx (dVar 0) (dC (.int 1))) (dCons (dVar 1) dNil)))) (dVar 0)) (gName 3))
    (sSeq (sAsg (dLC 1 [2] (iSeq (dVar 0)) (gName 0) (dT (dCall sp_less (dCons (dVar 1) (dCons (dOp oIx (dVar 0) (dC (.int 0))) dNil)))) (dVar 0)) (gName 4))
    (sSeq (sAsg (dSl sCut (dVar 0) (some (dB bLen (dCons (dVar 3) dNil))) (some (dOp oSub (dB bLen (dCons (dVar 0) dNil)) (dB bLen (dCons (dVar 4) dNil))))) (gName 5))
    (sSeq (sJ (sIf (dT (dOp oGt (dB bLen (dCons (dVar 5) dNil)) (dC (.int 0)))) (sSeq (sAsg (dCall sp_lesser (dCons (dVar 1) (dCons (dOp oIx (dOp oIx (dVar 5) (dC (.int 0))) (dC (.int 0))) dNil))) (gName 1))
    (sAsg (dCall sp_greater (dCons (dVar 2) (dCons (dOp oIx (dOp oIx (dVar 5) (dUn oNeg (dC (.int 1)))) (dC (.int 1))) dNil))) (gName 2))) sNext))
    (sRet (dB bTuple (dCons (dOp oAdd (dOp oAdd (dVar 3) (dLst (dCons (dTup (dCons (dVar 1) (dCons (dVar 2) dNil))) dNil))) (dVar 4)) dNil)))))))
theorem len_with_stretch : ∀ ds So Q, sp_with_stretch ds So Q → ds.length = 3 := by rintro ds So Q ⟨_, _, _, _, _, rfl, _⟩; rfl
theorem bo_with_stretch : BodyOk 6 b_with_stretch sp_with_stretch := by
  rintro ds S Q ⟨K, R, xs, lo, hi, rfl, E, hK, hk, ok, hlh, hlen, q⟩
  unfold b_with_stretch
  have klo := hk.a
  have khi := hk.b
  have elo := hk.e
  have ehi := hk.f
  dsimp only at klo khi elo ehi
  obtain ⟨A, T, B, eX, fA, fB, hT⟩ := split3 (R := R) hlh ok
  have hlX : A.length + T.length + B.length = xs.length := by rw [eX]; simp; omega
  walk_at "dgo"
  refine lc_pure (onS fun x => decide (R x.2 < R lo)) id True.intro ?_ (fun i d ys hd hw => ?_) ?_
  · rw [List.length_map]; unfold big; omega
  · obtain ⟨c, hc, rfl⟩ := get_st hd
    have kc := hK c (List.mem_of_getElem? hc)
    walk_at "dgo"
    refine less_emb E kc.b klo ?_
    walk_at "dgo"
    refine r_d (fun g => ?_) (fun g => ?_)
    · walk_at "dgo"
      exact lcw_y hd hw (decide_eq_true g) rfl
    · walk_at "dgo"
      exact lcw_n hd hw (decide_eq_false g)
  rw [onS_map, List.map_id, fA]
  walk_at "dgo"
  refine lc_pure (onS fun x => decide (R hi < R x.1)) id True.intro ?_ (fun i d ys hd hw => ?_) ?_
  · rw [List.length_map]; unfold big; omega
  · obtain ⟨c, hc, rfl⟩ := get_st hd
    have kc := hK c (List.mem_of_getElem? hc)
    walk_at "dgo"
    refine less_emb E khi kc.a ?_
    walk_at "dgo"
    refine r_d (fun g => ?_) (fun g => ?_)
    · walk_at "dgo"
      exact lcw_y hd hw (decide_eq_true g) rfl
    · walk_at "dgo"
      exact lcw_n hd hw (decide_eq_false g)
  rw [onS_map, List.map_id, fB]
  walk_at "dgo"
  rw [cut_map, List.length_map, List.length_map, List.length_map]
  have ec : cutD xs (some (A.length : Int)) (some ((xs.length : Int) - (B.length : Int))) = T := by rw [eX]; exact cut3 A T B
  rw [ec]
  have kA : ∀ x ∈ A, KS K R x := fun x hx => hK x (by rw [eX]; simp [hx])
  have kT : ∀ x ∈ T, KS K R x := fun x hx => hK x (by rw [eX]; simp [hx])
  have kB : ∀ x ∈ B, KS K R x := fun x hx => hK x (by rw [eX]; simp [hx])
  have hA : ∀ x ∈ A, R x.2 + 2 ≤ R lo := fun x hx => by
    rw [← fA] at hx
    have := of_decide_eq_true (List.mem_filter.mp hx).2
    have := (hK x (List.mem_filter.mp hx).1).f
    omega
  have hB : ∀ x ∈ B, R hi + 2 ≤ R x.1 := fun x hx => by
    rw [← fB] at hx
    have := of_decide_eq_true (List.mem_filter.mp hx).2
    have := (hK x (List.mem_filter.mp hx).1).e
    omega
  refine r_J (fun ρ S' => ∃ (l' h' : Int × Int) (w : Option D), ρ = [some (.tup (xs.map stD)), some (p2 l'), some (p2 h'), some (.ref S.length), some (.ref (S.length + 1)), w] ∧ S' = S ++ [.lst (A.map stD), .lst (B.map stD)] ∧ KS K R (l', h') ∧
    ((T = [] ∧ R l' = R lo ∧ R h' = R hi) ∨ ∃ t u, t ∈ T ∧ u ∈ T ∧ (∀ x ∈ T, R t.1 ≤ R x.1 ∧ R x.2 ≤ R u.2) ∧ R l' = min (R lo) (R t.1) ∧ R h' = max (R hi) (R u.2))) ?_ ?_
  · walk_at "dgo"
    rw [List.length_map]
    refine r_d (fun g => ?_) (fun g => ?_)
    · obtain ⟨T0, u, eu⟩ : ∃ T0 u, T = T0 ++ [u] := by
        have : T ≠ [] := fun e => by rw [e] at g; simp at g
        exact ⟨T.dropLast, T.getLast this, (List.dropLast_concat_getLast this).symm⟩
      obtain ⟨t, T1, et⟩ : ∃ t T1, T = t :: T1 := by
        cases T with
        | nil => simp at g
        | cons t T1 => exact ⟨t, T1, rfl⟩
      have a0 : atD (T.map stD) 0 = some (stD t) := by rw [et]; exact at_nat (i := 0) rfl
      have am : atD (T.map stD) (-1) = some (stD u) := by rw [eu, List.map_append]; exact at_minus
      have ht : t ∈ T := by rw [et]; simp
      have hu : u ∈ T := by rw [eu]; simp
      have okT : SpOk (T.map (rk R)) := by
        rw [eX, List.map_append, List.map_append] at ok
        obtain ⟨pAT, _, _⟩ := List.pairwise_append.mp ok.ap
        obtain ⟨_, pT, _⟩ := List.pairwise_append.mp pAT
        exact ⟨fun c hc => ok.le c (List.mem_append_left _ (List.mem_append_right _ hc)), pT⟩
      have hm : ∀ x ∈ T, R t.1 ≤ R x.1 ∧ R x.2 ≤ R u.2 := fun x hx => by
        have hxl : R x.1 ≤ R x.2 := okT.le (rk R x) (List.mem_map.mpr ⟨x, hx, rfl⟩)
        constructor
        · have ok1 := okT
          rw [et, List.map_cons] at ok1
          rw [et] at hx
          rcases List.mem_cons.mp hx with rfl | hx
          · exact Int.le_refl _
          · have h1 : R t.2 + 2 ≤ R x.1 := (List.pairwise_cons.mp ok1.ap).1 (rk R x) (List.mem_map.mpr ⟨x, hx, rfl⟩)
            have h2 : R t.1 ≤ R t.2 := ok1.le (rk R t) (by simp)
            omega
        · have ok1 := okT
          rw [eu, List.map_append] at ok1
          obtain ⟨_, h2, h3⟩ := SpOk.init (c := rk R u) ok1
          rw [eu] at hx
          rcases List.mem_append.mp hx with hx | hx
          · have h4 : R x.2 + 2 ≤ R u.1 := h3 (rk R x) (List.mem_map.mpr ⟨x, hx, rfl⟩)
            have h5 : R u.1 ≤ R u.2 := h2
            omega
          · have : x = u := by simpa using hx
            subst this; exact Int.le_refl _
      walk_at "dgo"
      refine lesser_emb E klo (kT t ht).a (fun c kc hc rc => ?_)
      walk_at "dgo"
      refine greater_emb E khi (kT u hu).b (fun c2 kc2 hc2 rc2 => ?_)
      walk_at "dgo"
      refine ⟨c, c2, _, rfl, rfl, ⟨kc, kc2, ?_, ?_⟩, .inr ⟨t, u, ht, hu, hm, rc, rc2⟩⟩
      · show R c % 2 = 0
        rcases hc with rfl | rfl
        · exact elo
        · exact (kT t ht).e
      · show R c2 % 2 = 0
        rcases hc2 with rfl | rfl
        · exact ehi
        · exact (kT u hu).f
    · have T0 : T = [] := List.length_eq_zero_iff.mp (by omega)
      walk_at "dgo"
      exact ⟨lo, hi, _, rfl, rfl, hk, .inl ⟨T0, rfl, rfl⟩⟩
  rintro ρ S' ⟨l', h', w, rfl, rfl, hk', hsel⟩
  obtain ⟨o1, a1⟩ := with_ok (R := R) (l := R lo) (h := R hi) (l' := R l') (h' := R h') (eX ▸ ok) hlh hA hB hT hsel
  walk_at "dgo"
  refine o_addL (xs := A.map stD) (ys := [(l', h')].map stD) Lst.at0 (by walk_at "dlat") (by rw [List.length_map]; show _ + 1 ≤ big; unfold big; omega) ?_
  rw [← List.map_append]
  walk_at "dgo"
  refine o_addL (xs := (A ++ [(l', h')]).map stD) (ys := B.map stD) (by walk_at "dlat") (Lst.at rfl) (by rw [List.length_map, List.length_map, List.length_append]; show A.length + 1 + B.length ≤ big; unfold big; omega) ?_
  rw [← List.map_append]
  walk_at "dgo"
  have em : (A ++ [(l', h')] ++ B).map (rk R) = A.map (rk R) ++ (R l', R h') :: B.map (rk R) := by
    rw [List.map_append, List.map_append, List.append_assoc]; rfl
  refine fin_pure (fl_st _) (q _ (fun y hy => ?_) (by rw [em]; exact o1) (fun h => by rw [em, a1 h, eX]) ?_)
  · rcases List.mem_append.mp hy with hy | hy
    · rcases List.mem_append.mp hy with hy | hy
      · exact kA y hy
      · have : y = (l', h') := by simpa using hy
        subst this; exact hk'
    · exact kB y hy
  · rw [List.length_append, List.length_append]
    show A.length + 1 + B.length ≤ _
    omega
def SeenQ (cs : List (Int × Int)) (s : Int × Int) (ys : List St2) : Prop := (∀ y ∈ ys, KS (KU cs s) eU y) ∧ SpOk (ys.map (rk eU)) ∧ (∀ (h : Int) (p : Int × Int), 0 < p.2 → p.1 * (2 * MM) = h * p.2 → ((ys.map (rk eU)).any (inS h) = true ↔ OnG cs p ∧ Vis cs s p = true)) ∧ ys.length ≤ 100
def sp_seen : DSpX := fun ds S Q ex => ∃ (g : D) (cs : List (Int × Int)) (s : Int × Int), ds = [g, p2 s] ∧ GAt S g cs ∧ Grd cs ∧ (Bd 180 s.1 ∧ Bd 200 s.2) ∧ (¬ StdG cs s → ex "OffGround" S) ∧ (StdG cs s → ∀ ys, SeenQ cs s ys → Q (.tup (ys.map stD)) S)
theorem outQ_le {g : Int} (hg : g = 1 ∨ g = -1) {cs : List (Int × Int)} {s : Int × Int} {os : List (Int × Int)} (hs : Bd 180 s.1 ∧ Bd 200 s.2) (hcs : ∀ c ∈ cs, Bd 180 c.1 ∧ Bd 200 c.2) (ho : Out g cs s os) {q : St2} (hq : q ∈ outQ s os) : (g = 1 → eU q.1 ≤ eU q.2) ∧ (g = -1 → eU q.2 ≤ eU q.1) := by
  obtain ⟨m1, m2⟩ := outQ_mem hg hs hcs ho q hq
  obtain ⟨q1, q2, q3, q4, _⟩ := outQ_pair hg ho q hq
  have k := eU_le m2.1 (h := eU q.1) (p := q.1) (by omega) (eU_mul m1.1).symm
  constructor
  · rintro rfl
    refine k.2.mpr ?_
    unfold ow at q4
    rw [q2] at q4 ⊢
    have : (1 : Int) * (q.2.1 - s.1 * 1) * q.1.2 = q.2.1 * q.1.2 - s.1 * q.1.2 := by grind
    omega
  · rintro rfl
    refine k.1.mpr ?_
    unfold ow at q4
    rw [q2] at q4 ⊢
    have : (-1 : Int) * (q.2.1 - s.1 * 1) * q.1.2 = s.1 * q.1.2 - q.2.1 * q.1.2 := by grind
    omega
def b_seen (ex : XR) : DS :=
    (sSeq (sDrop (dCallX sp_refuse_not_standing ex (dCons (dVar 0) (dCons (dVar 1) dNil))))
    (sSeq (sAsg (dTup (dCons (dOp oIx (dVar 1) (dC (.int 0))) (dCons (dC (.int 1)) dNil))) (gName 2))
    (sSeq (sAsg (dTup (dCons (dTup (dCons (dVar 2) (dCons (dVar 2) dNil))) dNil)) (gName 3))
    (sSeq (sAsg (dLC 1 [1] (iSeq (dFld "corners" (dVar 0))) (gName 0) (dT (dOp oLt (dOp oIx (dVar 0) (dC (.int 0))) (dOp oIx (dVar 1) (dC (.int 0))))) (dVar 0)) (gName 4))
    (sSeq (sDrop (dM mReverse (dVar 4) dNil))
    (sSeq (sFor (iSeq (dCall sp_seen_outward (dCons (dVar 1) (dCons (dVar 4) dNil)))) (gTup 2 (gCons (gName 5) (gCons (gName 6) gNil))) (sAsg (dCall sp_with_stretch (dCons (dVar 3) (dCons (dVar 6) (dCons (dVar 5) dNil)))) (gName 3)))
    (sSeq (sAsg (dLC 1 [1] (iSeq (dFld "corners" (dVar 0))) (gName 0) (dT (dOp oGt (dOp oIx (dVar 0) (dC (.int 0))) (dOp oIx (dVar 1) (dC (.int 0))))) (dVar 0)) (gName 7))
    (sSeq (sFor (iSeq (dCall sp_seen_outward (dCons (dVar 1) (dCons (dVar 7) dNil)))) (gTup 2 (gCons (gName 5) (gCons (gName 6) gNil))) (sAsg (dCall sp_with_stretch (dCons (dVar 3) (dCons (dVar 5) (dCons (dVar 6) dNil)))) (gName 3)))
    (sRet (dVar 3))))))))))
theorem len_seen : ∀ ds So Q ex, sp_seen ds So Q ex → ds.length = 2 := by rintro ds So Q ex ⟨_, _, _, rfl, _⟩; rfl
theorem bo_seen : BodyOkX 8 b_seen sp_seen := by
  rintro ds S Q ex ⟨g, cs, s, rfl, hg, gr, bs, hx, q⟩
  unfold b_seen
  have E : Emb (KU cs s) eU := eU_emb fun a h => h.1
  obtain ⟨s1, s2⟩ := id bs
  obtain ⟨n, l, rfl, hn, hl⟩ := id hg
  have hOL := out_left gr s
  have hOR := out_right gr s
  have ml := gr.most
  have hbd : ∀ c ∈ cs, Bd 180 c.1 ∧ Bd 200 c.2 := fun c hc => ⟨(gr.bd c hc).1.mono (by decide), (gr.bd c hc).2.mono (by decide)⟩
  walk_at "dgo"
  refine ⟨_, cs, s, rfl, hg, gr, s1, s2, hx, fun sg => ?_⟩
  have q := q sg
  have son := sg.1
  walk_at "dgo"
  refine lc_pure (on2B fun c => decide (c.1 < s.1)) id (Lst.here hl) ?_ (fun i d ys hd hw => ?_) ?_
  · rw [List.length_map]; unfold big; omega
  · obtain ⟨c, hc, rfl⟩ := get_p2 hd
    walk_at "dgo"
    refine r_d (fun z => ?_) (fun z => ?_)
    · walk_at "dgo"
      exact lcw_y hd hw (decide_eq_true z) rfl
    · walk_at "dgo"
      exact lcw_n hd hw (decide_eq_false z)
  rw [on2B_map, List.map_id]
  walk_at "dgo"
  walk_at "drho"
  refine m_reverse sto_h0 ?_
  rw [← List.map_reverse]
  walk_at "dgo"
  have hll : (cs.filter fun c => decide (c.1 < s.1)).reverse.length ≤ 40 := by
    rw [List.length_reverse]; exact Nat.le_trans (List.length_filter_le _ _) ml
  have hlr : (cs.filter fun c => decide (s.1 < c.1)).length ≤ 40 := Nat.le_trans (List.length_filter_le _ _) ml
  generalize hls : (cs.filter fun c => decide (c.1 < s.1)).reverse = ls at hOL hll
  generalize hrs : (cs.filter fun c => decide (s.1 < c.1)) = rs at hOR hlr
  refine ⟨s, _, ls, rfl, Lst.at0, s1, s2, fun o ho => hbd o ((hOL.mem o).mp ho).1, hll, ?_⟩
  have lol := outQ_len s ls
  have lor := outQ_len s rs
  have fin : ∀ xs : List St2, (∀ x ∈ xs, KS (KU cs s) (eU) x) → SpOk (xs.map (rk eU)) → (∀ h, (xs.map (rk eU)).any (inS h) = true ↔ (h = eU (s.1, 1) ∨ ∃ c ∈ outQ s ls, eU c.2 ≤ h ∧ h ≤ eU c.1) ∨ ∃ c ∈ outQ s rs, eU c.1 ≤ h ∧ h ≤ eU c.2) → xs.length ≤ 100 → SeenQ cs s xs := fun xs k1 k2 k3 k4 => ⟨k1, k2, fun h p hp e => by rw [k3 h, or_assoc, seen_iff gr ⟨s1, s2⟩ son hOL hOR hp e], k4⟩
  have ml' := fun c hq => outQ_mem (.inr rfl) ⟨s1, s2⟩ hbd hOL c hq
  have mr' := fun c hq => outQ_mem (.inl rfl) ⟨s1, s2⟩ hbd hOR c hq
  have el' := fun {c} (hq : c ∈ outQ s ls) => (outQ_le (.inr rfl) ⟨s1, s2⟩ hbd hOL hq).2 rfl
  have er' := fun {c} (hq : c ∈ outQ s rs) => (outQ_le (.inl rfl) ⟨s1, s2⟩ hbd hOR hq).1 rfl
  have hown : KS (KU cs s) (eU) ((s.1, 1), (s.1, 1)) := KS_U ⟨fu_one (s1.mono (by decide)), .inl rfl⟩ ⟨fu_one (s1.mono (by decide)), .inl rfl⟩
  generalize outQ s ls = ql at *
  walk_at "dgo"
  refine for_by (fun i ρ S' => ∃ (xs : List St2) (w1 w2 : Option D), ρ = [some (.ref n), some (p2 s), some (p2 (s.1, 1)), some (.tup (xs.map stD)), some (.ref S.length), w1, w2, none] ∧ S' = S ++ [.lst (ls.map p2), .lst (ql.map stD)] ∧ (∀ x ∈ xs, KS (KU cs s) (eU) x) ∧ SpOk (xs.map (rk eU)) ∧ (∀ h, (xs.map (rk eU)).any (inS h) = true ↔ h = eU (s.1, 1) ∨ ∃ c ∈ ql.take i, eU c.2 ≤ h ∧ h ≤ eU c.1) ∧ xs.length ≤ i + 1)
    ⟨[((s.1, 1), (s.1, 1))], none, none, rfl, rfl, ?_, ?_, ?_, by simp⟩ (fun i ρ S' ⟨xs, w1, w2, _, e, _⟩ => e ▸ Lst.at rfl) ?_ ?_
  · intro x hx
    have : x = ((s.1, 1), (s.1, 1)) := by simpa using hx
    subst this; exact hown
  · exact ⟨fun c hc => by
      have : c = rk (eU) ((s.1, 1), (s.1, 1)) := by simpa using hc
      subst this; exact Int.le_refl _, List.pairwise_singleton _ _⟩
  · intro h
    simp [rk, inS]
    omega
  · rintro i d ρ S' hd ⟨xs, w1, w2, rfl, rfl, k1, k2, k3, k4⟩
    obtain ⟨c, hcq, rfl⟩ := get_st hd
    have hm := List.mem_of_getElem? hcq
    have hi := lt_getD hcq
    obtain ⟨m1, m2⟩ := ml' c hm
    walk_at "dgo"
    refine ⟨_, _, xs, c.2, c.1, rfl, E, k1, KS_U m2 m1, k2, el' hm, by omega, fun ys y1 y2 y3 y4 => ?_⟩
    walk_at "dgo"
    refine ⟨ys, _, _, rfl, rfl, y1, y2, fun h => ?_, by omega⟩
    rw [y3 h, Bool.or_eq_true, k3 h, inS_iff, take_snocD hcq, or_assoc]
    refine or_congr_right ⟨?_, ?_⟩
    · rintro (⟨c', h1, h2⟩ | h2)
      · exact ⟨c', by simp [h1], h2⟩
      · exact ⟨c, by simp, h2⟩
    · rintro ⟨c', h1, h2⟩
      rcases List.mem_append.mp h1 with h1 | h1
      · exact .inl ⟨c', h1, h2⟩
      · have : c' = c := by simpa using h1
        subst this; exact .inr h2
  rintro ρ S' ⟨xs, w1, w2, rfl, rfl, k1, k2, k3, k4⟩
  rw [List.length_map] at k3 k4
  rw [List.take_length] at k3
  have hn2 : (S ++ [Cell.lst (ls.map p2), .lst (ql.map stD)])[n]? = some (.ins "Ground" [("corners", .ref l)]) := sto_old hn
  have hl2 : (S ++ [Cell.lst (ls.map p2), .lst (ql.map stD)])[l]? = some (.lst (cs.map p2)) := sto_old hl
  walk_at "dgo"
  refine lc_pure (on2B fun c => decide (s.1 < c.1)) id (Lst.here hl2) ?_ (fun i d ys hd hw => ?_) ?_
  · rw [List.length_map]; unfold big; omega
  · obtain ⟨c, hc, rfl⟩ := get_p2 hd
    walk_at "dgo"
    refine r_d (fun z => ?_) (fun z => ?_)
    · walk_at "dgo"
      exact lcw_y hd hw (decide_eq_true z) rfl
    · walk_at "dgo"
      exact lcw_n hd hw (decide_eq_false z)
  rw [on2B_map, List.map_id, hrs]
  walk_at "dgo"
  refine ⟨s, _, rs, rfl, Lst.at rfl, s1, s2, fun o ho => hbd o ((hOR.mem o).mp ho).1, hlr, ?_⟩
  generalize outQ s rs = qr at *
  walk_at "dgo"
  refine for_by (fun i ρ S' => ∃ (xs : List St2) (w1 w2 : Option D), ρ = [some (.ref n), some (p2 s), some (p2 (s.1, 1)), some (.tup (xs.map stD)), some (.ref S.length), w1, w2, some (.ref (S.length + 2))] ∧ S' = S ++ [.lst (ls.map p2), .lst (ql.map stD), .lst (rs.map p2), .lst (qr.map stD)] ∧ (∀ x ∈ xs, KS (KU cs s) (eU) x) ∧ SpOk (xs.map (rk eU)) ∧ (∀ h, (xs.map (rk eU)).any (inS h) = true ↔ (h = eU (s.1, 1) ∨ ∃ c ∈ ql, eU c.2 ≤ h ∧ h ≤ eU c.1) ∨ ∃ c ∈ qr.take i, eU c.1 ≤ h ∧ h ≤ eU c.2) ∧ xs.length ≤ i + 50)
    ⟨xs, _, _, rfl, rfl, k1, k2, fun h => by rw [k3 h]; simp, by omega⟩ (fun i ρ S' ⟨xs, w1, w2, _, e, _⟩ => e ▸ Lst.at rfl) ?_ ?_
  · rintro i d ρ S' hd ⟨xs, w1, w2, rfl, rfl, k1, k2, k3, k4⟩
    obtain ⟨c, hcq, rfl⟩ := get_st hd
    have hm := List.mem_of_getElem? hcq
    have hi := lt_getD hcq
    obtain ⟨m1, m2⟩ := mr' c hm
    walk_at "dgo"
    refine ⟨_, _, xs, c.1, c.2, rfl, E, k1, KS_U m1 m2, k2, er' hm, by omega, fun ys y1 y2 y3 y4 => ?_⟩
    walk_at "dgo"
    refine ⟨ys, _, _, rfl, rfl, y1, y2, fun h => ?_, by omega⟩
    rw [y3 h, Bool.or_eq_true, k3 h, inS_iff, take_snocD hcq, or_assoc]
    refine or_congr_right ⟨?_, ?_⟩
    · rintro (⟨c', h1, h2⟩ | h2)
      · exact ⟨c', by simp [h1], h2⟩
      · exact ⟨c, by simp, h2⟩
    · rintro ⟨c', h1, h2⟩
      rcases List.mem_append.mp h1 with h1 | h1
      · exact .inl ⟨c', h1, h2⟩
      · have : c' = c := by simpa using h1
        subst this; exact .inr h2
  · rintro ρ S' ⟨xs, w1, w2, rfl, rfl, k1, k2, k3, k4⟩
    rw [List.length_map] at k3 k4
    rw [List.take_length] at k3
    walk_at "dgo"
    exact fin_pure (fl_st _) (q xs (fin xs k1 k2 k3 (by omega)))
def sp_joined : DSp := fun ds S Q => ∃ (K : Int × Int → Prop) (R : Int × Int → Int) (xs ys : List St2), ds = [.tup (xs.map stD), .tup (ys.map stD)] ∧ Emb K R ∧ (∀ x ∈ xs, KS K R x) ∧ (∀ y ∈ ys, KS K R y) ∧ SpOk (xs.map (rk R)) ∧ (∀ y ∈ ys, R y.1 ≤ R y.2) ∧ xs.length + ys.length ≤ 1000 ∧
  ∀ zs : List St2, (∀ z ∈ zs, KS K R z) → SpOk (zs.map (rk R)) → (∀ h, (zs.map (rk R)).any (inS h) = ((xs.map (rk R)).any (inS h) || (ys.map (rk R)).any (inS h))) → zs.length ≤ xs.length + ys.length → Q (.tup (zs.map stD)) S
def b_joined : DS :=
    (sSeq (sAsg (dVar 0) (gName 2))
    (sSeq (sFor (iSeq (dVar 1)) (gTup 2 (gCons (gName 3) (gCons (gName 4) gNil))) (sAsg (dCall sp_with_stretch (dCons (dVar 2) (dCons (dVar 3) (dCons (dVar 4) dNil)))) (gName 2)))
    (sRet (dVar 2))))
theorem len_joined : ∀ ds So Q, sp_joined ds So Q → ds.length = 2 := by rintro ds So Q ⟨_, _, _, _, rfl, _⟩; rfl
theorem bo_joined : BodyOk 5 b_joined sp_joined := by
  rintro ds S Q ⟨K, R, xs, ys, rfl, E, hx, hy, ok, hle, hlen, q⟩
  unfold b_joined
  walk_at "dgo"
  refine for_by (fun i ρ S' => ∃ (zs : List St2) (w1 w2 : Option D), ρ = [some (.tup (xs.map stD)), some (.tup (ys.map stD)), some (.tup (zs.map stD)), w1, w2] ∧ S' = S ∧ (∀ z ∈ zs, KS K R z) ∧ SpOk (zs.map (rk R)) ∧ (∀ h, (zs.map (rk R)).any (inS h) = ((xs.map (rk R)).any (inS h) || ((ys.take i).map (rk R)).any (inS h))) ∧ zs.length ≤ xs.length + i)
    ⟨xs, none, none, rfl, rfl, hx, ok, fun h => by simp, Nat.le_refl _⟩ (fun _ _ _ _ => True.intro) ?_ ?_
  · rintro i d ρ S' hd ⟨zs, w1, w2, rfl, rfl, hz, oz, az, lz⟩
    obtain ⟨c, hc, rfl⟩ := get_st hd
    have hi := lt_getD hc
    have hm := List.mem_of_getElem? hc
    walk_at "dgo"
    refine ⟨K, R, zs, c.1, c.2, rfl, E, hz, hy c hm, oz, hle c hm, by omega, fun vs hv ov av lv => ?_⟩
    walk_at "dgo"
    refine ⟨vs, _, _, rfl, rfl, hv, ov, fun h => ?_, by omega⟩
    rw [av h, az h, take_snocD hc, List.map_append, List.any_append, Bool.or_assoc]
    simp [rk]
  · rintro ρ S' ⟨zs, w1, w2, rfl, rfl, hz, oz, az, lz⟩
    rw [List.length_map] at az lz
    rw [List.take_length] at az
    walk_at "dgo"
    exact fin_same (q zs hz oz az lz)
def sp_watched : DSpX := fun ds S Q ex => ∃ (g : D) (cs : List (Int × Int)) (x : D) (ss : List (Int × Int)), ds = [g, x] ∧ GAt S g cs ∧ Grd cs ∧ Lst S x (ss.map p2) ∧ (∀ s ∈ ss, Bd 180 s.1 ∧ Bd 200 s.2) ∧ ss.length ≤ 9 ∧ (¬ (∀ s ∈ ss, StdG cs s) → ex "OffGround" S) ∧ ((∀ s ∈ ss, StdG cs s) → ∀ ys, WQ cs ss 900 ys → Q (.tup (ys.map stD)) S)
def b_watched (ex : XR) : DS :=
    (sSeq (sAsg (dTup dNil) (gName 2))
    (sSeq (sFor (iSeq (dVar 1)) (gName 3) (sAsg (dCall sp_joined (dCons (dVar 2) (dCons (dCallX sp_seen ex (dCons (dVar 0) (dCons (dVar 3) dNil))) dNil))) (gName 2)))
    (sRet (dVar 2))))
theorem len_watched : ∀ ds So Q ex, sp_watched ds So Q ex → ds.length = 2 := by rintro ds So Q ex ⟨_, _, _, _, rfl, _⟩; rfl
theorem bo_watched : BodyOkX 4 b_watched sp_watched := by
  rintro ds S Q ex ⟨g, cs, x, ss, rfl, hg, gr, hx, hs, hl, hex, q⟩
  unfold b_watched
  have E : Emb FU eU := eU_emb fun a h => h
  walk_at "dgo"
  refine for_by (fun i ρ S' => S' = S ∧ ∃ (zs : List St2) (w : Option D), ρ = [some g, some x, some (.tup (zs.map stD)), w] ∧ WQ cs (ss.take i) (100 * i) zs ∧ ∀ s ∈ ss.take i, StdG cs s)
    ⟨rfl, [], none, rfl, ⟨by simp, SpOk.nil, fun h p _ _ => by simp, by simp⟩, by simp⟩ (fun i ρ S' z => z.1 ▸ hx) ?_ ?_
  · rintro i d ρ S' hd ⟨rfl, zs, w, rfl, wq, hst⟩
    obtain ⟨s, hsi, rfl⟩ := get_p2 hd
    have hm := List.mem_of_getElem? hsi
    have hi := lt_getD hsi
    walk_at "dgo"
    refine ⟨g, cs, s, rfl, hg, gr, hs s hm, fun no => hex fun z => no (z s hm), fun sg ys hys => ?_⟩
    obtain ⟨y1, y2, y3, y4⟩ := hys
    walk_at "dgo"
    refine ⟨_, _, zs, ys, rfl, E, wq.ks, fun y hy => (y1 y hy).mono fun a h => h.1, wq.ok, fun y hy => y2.le (rk eU y) (List.mem_map.mpr ⟨y, hy, rfl⟩), by have := wq.len; omega, fun vs v1 v2 v3 v4 => ?_⟩
    walk_at "dgo"
    refine ⟨rfl, vs, _, rfl, ⟨v1, v2, fun h p hp e => ?_, by have := wq.len; omega⟩, fun s' hs' => by rw [take_snocD hsi] at hs'; rcases List.mem_append.mp hs' with h1 | h1; exact hst s' h1; rw [show s' = s by simpa using h1]; exact sg⟩
    rw [v3 h, Bool.or_eq_true, wq.iff h p hp e, y3 h p hp e, take_snocD hsi]
    constructor
    · rintro (⟨on, s', h1, h2⟩ | ⟨on, h2⟩)
      · exact ⟨on, s', List.mem_append_left _ h1, h2⟩
      · exact ⟨on, s, by simp, h2⟩
    · rintro ⟨on, s', h1, h2⟩
      rcases List.mem_append.mp h1 with h1 | h1
      · exact .inl ⟨on, s', h1, h2⟩
      · have : s' = s := by simpa using h1
        subst this; exact .inr ⟨on, h2⟩
  · rintro ρ S' ⟨rfl, zs, w, rfl, wq, hst⟩
    rw [List.length_map, List.take_length] at wq hst
    walk_at "dgo"
    exact fin_same (q hst zs ⟨wq.ks, wq.ok, wq.iff, by have := wq.len; omega⟩)
def sp_holds_place : DSp := fun ds S Q => ∃ (K : Int × Int → Prop) (R : Int × Int → Int) (xs : List St2) (p : Int × Int), ds = [.tup (xs.map stD), p2 p] ∧ Emb K R ∧ (∀ x ∈ xs, K x.1 ∧ K x.2) ∧ K p ∧ xs.length ≤ 1000 ∧ Q (.bl ((xs.map (rk R)).any (inS (R p)))) S
def onT (f : St2 → D) : D → D
  | .tup [.tup [.int a, .int b], .tup [.int c, .int d]] => f ((a, b), (c, d))
  | d => d
theorem onT_map (f : St2 → D) (xs : List St2) : (xs.map stD).map (onT f) = xs.map f := by rw [List.map_map]; rfl
def b_holds_place : DS :=
    (sRet (dB bAny (dCons (dLC 2 [1] (iSeq (dVar 0)) (gTup 2 (gCons (gName 0) (gCons (gName 1) gNil))) dTrue (dAndV (dNotV (dCall sp_less (dCons (dVar 2) (dCons (dVar 0) dNil)))) (dNotV (dCall sp_less (dCons (dVar 1) (dCons (dVar 2) dNil)))))) dNil)))
theorem len_holds_place : ∀ ds So Q, sp_holds_place ds So Q → ds.length = 2 := by rintro ds So Q ⟨_, _, _, _, rfl, _⟩; rfl
theorem bo_holds_place : BodyOk 2 b_holds_place sp_holds_place := by
  rintro ds S Q ⟨K, R, xs, p, rfl, E, hK, kp, hlen, q⟩
  unfold b_holds_place
  walk_at "dgo"
  refine lc_pure (fun _ => true) (onT fun x => .bl (inS (R p) (rk R x))) True.intro ?_ (fun i d ys hd hw => ?_) ?_
  · rw [List.length_map]; unfold big; omega
  · obtain ⟨c, hc, rfl⟩ := get_st hd
    obtain ⟨k1, k2⟩ := hK c (List.mem_of_getElem? hc)
    walk_at "dgo"
    refine less_emb E kp k1 ?_
    walk_at "dgo"
    refine r_nd (fun g => ?_) (fun g => ?_)
    · walk_at "dgo"
      refine less_emb E k2 kp ?_
      walk_at "dgo"
      refine lcw_y hd hw rfl ?_
      show _ = D.bl (inS (R p) (rk R c))
      congr 1
      unfold inS rk
      dsimp only
      rw [decide_eq_true (show R c.1 ≤ R p by omega), Bool.true_and, ← decide_not]
      exact decide_eq_decide.mpr (by omega)
    · refine lcw_y hd hw rfl ?_
      show _ = D.bl (inS (R p) (rk R c))
      congr 1
      unfold inS rk
      dsimp only
      rw [decide_eq_false (show ¬ R c.1 ≤ R p by omega), Bool.false_and]
  rw [filter_true, onT_map, show (xs.map fun x => D.bl (inS (R p) (rk R x))) = (xs.map fun x => inS (R p) (rk R x)).map D.bl by rw [List.map_map]; rfl]
  walk_at "dgo"
  refine b_anyE (bs := xs.map fun x => inS (R p) (rk R x)) (b := (xs.map (rk R)).any (inS (R p))) Lst.at0 (by rw [List.any_map, List.any_map]; rfl) ?_
  exact fin_pure rfl q
def sp_numbers_between : DSp := fun ds S Q => ∃ (g : D) (cs : List (Int × Int)) (x y : Int), ds = [g, .int x, .int y] ∧ GAt S g cs ∧ cs.length ≤ 40 ∧ New Q S ((nbK cs x y cs.length).map D.int)
def b_numbers_between : DS :=
    (sSeq (sAsg (dB bMin2 (dCons (dVar 1) (dCons (dVar 2) dNil))) (gName 3))
    (sSeq (sAsg (dB bMax2 (dCons (dVar 1) (dCons (dVar 2) dNil))) (gName 4))
    (sRet (dLC 2 [3, 4] (iEnum (dCons (dFld "corners" (dVar 0)) dNil)) (gTup 2 (gCons (gName 0) (gCons (gName 1) gNil))) (dT (dChain oLt oLt (dVar 2) (dOp oIx (dVar 1) (dC (.int 0))) (dVar 3))) (dVar 0)))))
theorem len_numbers_between : ∀ ds So Q, sp_numbers_between ds So Q → ds.length = 3 := by rintro ds So Q ⟨_, _, _, _, rfl, _⟩; rfl
theorem bo_numbers_between : BodyOk 5 b_numbers_between sp_numbers_between := by
  rintro ds S Q ⟨g, cs, x, y, rfl, ⟨n, l, rfl, hn, hl⟩, h40, q⟩
  unfold b_numbers_between
  walk_at "dgo"
  refine en_L (xs := cs.map p2) (Lst.here hl) ?_
  refine ⟨by rw [enumD_len, List.length_map]; unfold big; omega, fun i ys S' => S' = S ∧ ys = (nbK cs x y i).map D.int, ⟨rfl, rfl⟩, fun i ys S' ⟨e, _⟩ => e ▸ Lst.here hl, ?_, ?_⟩
  · rintro i d ys S' hd ⟨rfl, rfl⟩
    obtain ⟨u, hu, rfl⟩ := enumD_get hd
    obtain ⟨c, hc, rfl⟩ := get_p2 hu
    have e0 : ((0 + i : Nat) : Int) = (i : Int) := by omega
    have eg : cs.getD i (0, 0) = c := by rw [List.getD_eq_getElem?_getD, hc]; rfl
    rw [e0]
    walk_at "dgo"
    refine r_d (fun g1 => ?_) (fun g1 => ?_)
    · walk_at "dgo"
      refine r_d (fun g2 => ?_) (fun g2 => ?_)
      · walk_at "dgo"
        exact ⟨rfl, (nbK_y (by unfold nbP; rw [eg, decide_eq_true g1, decide_eq_true g2]; rfl)).symm⟩
      · walk_at "dgo"
        exact ⟨rfl, by rw [nbK_n (by unfold nbP; rw [eg, decide_eq_false g2, Bool.and_false])]⟩
    · walk_at "dgo"
      exact ⟨rfl, by rw [nbK_n (by unfold nbP; rw [eg, decide_eq_false g1, Bool.false_and])]⟩
  · rintro ys S' ⟨rfl, rfl⟩
    rw [enumD_len, List.length_map]
    exact fin_same q
def sp_hinder : DSpX := fun ds S Q ex => ∃ (g : D) (cs : List (Int × Int)) (a b : Int × Int), ds = [g, p2 a, p2 b] ∧ GAt S g cs ∧ Grd cs ∧ (Bd 180 a.1 ∧ Bd 200 a.2) ∧ (Bd 180 b.1 ∧ Bd 200 b.2) ∧ (¬ (StdG cs a ∧ StdG cs b) → ex "OffGround" S) ∧ (StdG cs a → StdG cs b → Q (optD (hinK cs a b)) S)
def b_hinder (ex : XR) : DS :=
    (sSeq (sDrop (dCallX sp_refuse_not_standing ex (dCons (dVar 0) (dCons (dVar 1) dNil))))
    (sSeq (sDrop (dCallX sp_refuse_not_standing ex (dCons (dVar 0) (dCons (dVar 2) dNil))))
    (sSeq (sFor (iSeq (dCall sp_numbers_between (dCons (dVar 0) (dCons (dOp oIx (dVar 1) (dC (.int 0))) (dCons (dOp oIx (dVar 2) (dC (.int 0))) dNil))))) (gName 3) (sIf (dT (dOp oGt (dCall sp_side_of (dCons (dVar 1) (dCons (dVar 2) (dCons (dOp oIx (dFld "corners" (dVar 0)) (dVar 3)) dNil)))) (dC (.int 0)))) (sRet (dVar 3)) sNext))
    (sRet (dC .non)))))
theorem len_hinder : ∀ ds So Q ex, sp_hinder ds So Q ex → ds.length = 3 := by rintro ds So Q ex ⟨_, _, _, _, rfl, _⟩; rfl
theorem bo_hinder : BodyOkX 4 b_hinder sp_hinder := by
  rintro ds S Q ex ⟨g, cs, a, b, rfl, hg, gr, ba, bb, hx, q⟩
  unfold b_hinder
  walk_at "dgo"
  refine ⟨g, cs, a, rfl, hg, gr, ba.1, ba.2, fun z => hx fun y => z y.1, fun za => ?_⟩
  walk_at "dgo"
  refine ⟨g, cs, b, rfl, hg, gr, bb.1, bb.2, fun z => hx fun y => z y.2, fun zb => ?_⟩
  have sa := Std.of ba.1 ba.2 za
  have sb := Std.of bb.1 bb.2 zb
  have q := q za zb
  walk_at "dgo"
  refine ⟨g, cs, _, _, rfl, hg, gr.most, ?_⟩
  have kl : ∀ k ∈ nbK cs a.1 b.1 cs.length, 0 ≤ k ∧ k < cs.length := fun k hk => nbK_lt hk
  unfold hinK at q
  generalize nbK cs a.1 b.1 cs.length = ks at q kl
  unfold New
  walk_at "dgo"
  refine for_by (fun i ρ S' => ∃ w1, ρ = [some g, some (p2 a), some (p2 b), w1] ∧ S' = S ++ [.lst (ks.map D.int)] ∧ ∀ x ∈ ks.take i, hinP cs a b x = false) ⟨none, rfl, rfl, by simp⟩ (fun i ρ S' ⟨w1, _, e, _⟩ => e ▸ Lst.at0) ?_ ?_
  · rintro i d ρ S' hd ⟨w1, rfl, rfl, hn⟩
    obtain ⟨k, hk, rfl⟩ := get_int hd
    obtain ⟨k0, k1⟩ := kl k (List.mem_of_getElem? hk)
    obtain ⟨c, hc, ac⟩ := at_p2 (cs := cs) k0 k1
    have eg : cs.getD k.toNat (0, 0) = c := by rw [List.getD_eq_getElem?_getD, hc]; rfl
    obtain ⟨bc1, bc2⟩ := gr.bd c (List.mem_of_getElem? hc)
    obtain ⟨n, l, rfl, hgn, hgl⟩ := hg.old (T := [.lst (ks.map D.int)])
    walk_at "dgo"
    refine ⟨a, b, c, rfl, .inl ⟨(Bd.sub (bc2.mono (by decide : (190 : Nat) ≤ 200)) sa.2.1).mono (by decide), (Bd.sub sb.1 sa.1).mono (by decide)⟩, .inl ⟨(Bd.sub (bc1.mono (by decide : (170 : Nat) ≤ 180)) sa.1).mono (by decide), (Bd.sub sb.2.1 sa.2.1).mono (by decide)⟩, ?_⟩
    walk_at "dgo"
    refine r_d (fun g1 => ?_) (fun g1 => ?_)
    · walk_at "dgo"
      rw [find_at hk hn (by unfold hinP; rw [eg]; exact decide_eq_true g1)] at q
      exact fin_pure rfl q
    · walk_at "dgo"
      refine ⟨_, rfl, rfl, fun x hx => ?_⟩
      rw [take_snocD hk] at hx
      rcases List.mem_append.mp hx with hx | hx
      · exact hn x hx
      · have : x = k := by simpa using hx
        subst this
        unfold hinP; rw [eg]; exact decide_eq_false g1
  · rintro ρ S' ⟨w1, rfl, rfl, hn⟩
    rw [List.length_map, List.take_length] at hn
    rw [find_no hn] at q
    walk_at "dgo"
    exact fin_pure rfl q
def sp_clear : DSpX := fun ds S Q ex => ∃ (g : D) (cs : List (Int × Int)) (a b : Int × Int), ds = [g, p2 a, p2 b] ∧ GAt S g cs ∧ Grd cs ∧ (Bd 180 a.1 ∧ Bd 200 a.2) ∧ (Bd 180 b.1 ∧ Bd 200 b.2) ∧ (¬ (StdG cs a ∧ StdG cs b) → ex "OffGround" S) ∧ (StdG cs a → StdG cs b → Q (.bl (hinK cs a b).isNone) S)
def b_clear (ex : XR) : DS :=
    (sRet (dOp oIs (dCallX sp_hinder ex (dCons (dVar 0) (dCons (dVar 1) (dCons (dVar 2) dNil)))) (dC .non)))
theorem len_clear : ∀ ds So Q ex, sp_clear ds So Q ex → ds.length = 3 := by rintro ds So Q ex ⟨_, _, _, _, rfl, _⟩; rfl
theorem bo_clear : BodyOkX 3 b_clear sp_clear := by
  rintro ds S Q ex ⟨g, cs, a, b, rfl, hg, gr, ba, bb, hx, q⟩
  unfold b_clear
  walk_at "dgo"
  refine ⟨g, cs, a, b, rfl, hg, gr, ba, bb, hx, fun za zb => ?_⟩
  have q := q za zb
  cases h : hinK cs a b with
  | none => rw [h] at q; show oIs .non .non _ _; walk_at "dgo"; exact fin_same q
  | some k => rw [h] at q; show oIs (.int k) .non _ _; walk_at "dgo"; exact fin_same q
def sp_corners_between : DSp := fun ds S Q => ∃ (g : D) (cs : List (Int × Int)) (s p : Int × Int), ds = [g, p2 (s.1, 1), p2 p] ∧ GAt S g cs ∧ Grd cs ∧ Bd 180 s.1 ∧ 0 < p.2 ∧ Bd 1000 p.1 ∧ Bd 1000 p.2 ∧ New Q S ((cs.filter (btw s p)).map p2)
theorem btw_lo {s p c : Int × Int} (hp : 0 < p.2) (h : flt (s.1, 1) p = true) : btw s p c = (flt (s.1, 1) (c.1, 1) && flt (c.1, 1) p) := by
  rw [flt_iff] at h
  have h : s.1 * p.2 < p.1 * 1 := h
  unfold btw flt
  dsimp only
  rw [Bool.eq_iff_iff]
  simp only [Bool.or_eq_true, Bool.and_eq_true, decide_eq_true_eq, Int.mul_one]
  constructor
  · rintro (⟨a, b⟩ | ⟨a, b⟩)
    · exact ⟨by omega, by omega⟩
    · have := Int.mul_pos (show 0 < -(c.1 - s.1) by omega) hp
      rw [Int.neg_mul, Int.sub_mul] at this
      omega
  · rintro ⟨a, b⟩
    exact .inl ⟨by omega, by omega⟩
theorem btw_hi {s p c : Int × Int} (hp : 0 < p.2) (h : flt (s.1, 1) p = false) : btw s p c = (flt p (c.1, 1) && flt (c.1, 1) (s.1, 1)) := by
  have h : ¬ s.1 * p.2 < p.1 * 1 := fun z => by
    have : flt (s.1, 1) p = true := flt_iff.mpr z
    rw [this] at h; cases h
  unfold btw flt
  dsimp only
  rw [Bool.eq_iff_iff]
  simp only [Bool.or_eq_true, Bool.and_eq_true, decide_eq_true_eq, Int.mul_one]
  constructor
  · rintro (⟨a, b⟩ | ⟨a, b⟩)
    · have := Int.mul_pos a hp
      rw [Int.sub_mul] at this
      omega
    · exact ⟨by omega, by omega⟩
  · rintro ⟨a, b⟩
    exact .inr ⟨by omega, by omega⟩
def b_corners_between : DS :=
    (sSeq (sAsg (dCall sp_lesser (dCons (dVar 1) (dCons (dVar 2) dNil))) (gName 3))
    (sSeq (sAsg (dCall sp_greater (dCons (dVar 1) (dCons (dVar 2) dNil))) (gName 4))
    (sRet (dLC 1 [3, 4] (iSeq (dFld "corners" (dVar 0))) (gName 0) (dAnd (dT (dCall sp_less (dCons (dVar 1) (dCons (dTup (dCons (dOp oIx (dVar 0) (dC (.int 0))) (dCons (dC (.int 1)) dNil))) dNil)))) (dT (dCall sp_less (dCons (dTup (dCons (dOp oIx (dVar 0) (dC (.int 0))) (dCons (dC (.int 1)) dNil))) (dCons (dVar 2) dNil))))) (dVar 0)))))
theorem len_corners_between : ∀ ds So Q, sp_corners_between ds So Q → ds.length = 3 := by rintro ds So Q ⟨_, _, _, _, rfl, _⟩; rfl
theorem bo_corners_between : BodyOk 5 b_corners_between sp_corners_between := by
  rintro ds S Q ⟨g, cs, s, p, rfl, ⟨n, l, rfl, hn, hl⟩, gr, b1, hp, b2, b3, q⟩
  unfold b_corners_between
  have bo : Bd 1000 (1 : Int) := Bd.lit (by decide) (by decide)
  have cA : CMulD s.1 p.2 := .inl ⟨b1.mono (by decide), b3.mono (by decide)⟩
  have cB : ∀ u : Int, CMulD u 1 := fun u => .inr (.inr (by decide))
  have cC : ∀ u : Int, CMulD 1 u := fun u => .inr (.inl (by decide))
  have fin : New Q S ((cs.filter (btw s p)).map p2) → New (Fin S Q) S ((cs.filter (btw s p)).map p2) := fun h => fin_same h
  walk_at "dgo"
  refine ⟨(s.1, 1), p, rfl, cA, cB _, ?_⟩
  walk_at "dgo"
  refine ⟨(s.1, 1), p, rfl, cA, cB _, ?_⟩
  cases h : flt (s.1, 1) p with
  | true =>
    rw [if_pos rfl, if_pos rfl]
    walk_at "dgo"
    refine lc_pure (on2B (btw s p)) id (Lst.here hl) ?_ (fun i d ys hd hw => ?_) ?_
    · rw [List.length_map]; have := gr.most; unfold big; omega
    · obtain ⟨c, hc, rfl⟩ := get_p2 hd
      obtain ⟨bc, _⟩ := gr.bd c (List.mem_of_getElem? hc)
      have eb := btw_lo (c := c) hp h
      walk_at "dgo"
      refine ⟨(s.1, 1), (c.1, 1), rfl, cB _, cB _, ?_⟩
      cases h1 : flt (s.1, 1) (c.1, 1) with
      | true =>
        walk_at "dgo"
        refine ⟨(c.1, 1), p, rfl, .inl ⟨bc.mono (by decide), b3.mono (by decide)⟩, cB _, ?_⟩
        cases h2 : flt (c.1, 1) p with
        | true =>
          walk_at "dgo"
          exact lcw_y hd hw (by show btw s p c = true; rw [eb, h1, h2]; rfl) rfl
        | false =>
          walk_at "dgo"
          exact lcw_n hd hw (by show btw s p c = false; rw [eb, h1, h2]; rfl)
      | false =>
        walk_at "dgo"
        exact lcw_n hd hw (by show btw s p c = false; rw [eb, h1]; rfl)
    rw [on2B_map, List.map_id]
    exact fin q
  | false =>
    rw [if_neg Bool.false_ne_true, if_neg Bool.false_ne_true]
    walk_at "dgo"
    refine lc_pure (on2B (btw s p)) id (Lst.here hl) ?_ (fun i d ys hd hw => ?_) ?_
    · rw [List.length_map]; have := gr.most; unfold big; omega
    · obtain ⟨c, hc, rfl⟩ := get_p2 hd
      obtain ⟨bc, _⟩ := gr.bd c (List.mem_of_getElem? hc)
      have eb := btw_hi (c := c) hp h
      walk_at "dgo"
      refine ⟨p, (c.1, 1), rfl, cB _, .inl ⟨bc.mono (by decide), b3.mono (by decide)⟩, ?_⟩
      cases h1 : flt p (c.1, 1) with
      | true =>
        walk_at "dgo"
        refine ⟨(c.1, 1), (s.1, 1), rfl, cB _, cB _, ?_⟩
        cases h2 : flt (c.1, 1) (s.1, 1) with
        | true =>
          walk_at "dgo"
          exact lcw_y hd hw (by show btw s p c = true; rw [eb, h1, h2]; rfl) rfl
        | false =>
          walk_at "dgo"
          exact lcw_n hd hw (by show btw s p c = false; rw [eb, h1, h2]; rfl)
      | false =>
        walk_at "dgo"
        exact lcw_n hd hw (by show btw s p c = false; rw [eb, h1]; rfl)
    rw [on2B_map, List.map_id]
    exact fin q
def sp_sees_place : DSpX := fun ds S Q ex => ∃ (g : D) (cs : List (Int × Int)) (s p : Int × Int), ds = [g, p2 s, p2 p] ∧ GAt S g cs ∧ Grd cs ∧ Bd 180 s.1 ∧ Bd 200 s.2 ∧ 0 < p.2 ∧ Bd 1000 p.1 ∧ Bd 1000 p.2 ∧ (¬ (StdG cs s ∧ OnG cs p) → ex "OffGround" S) ∧
  (StdG cs s → OnG cs p → ∀ a b, segG cs p = some (a, b) → Q (.bl (seesF cs s p (hvT a b p) (hvB a b p))) S)
def b_sees_place (ex : XR) : DS :=
    (sSeq (sDrop (dCallX sp_refuse_not_standing ex (dCons (dVar 0) (dCons (dVar 1) dNil))))
    (sSeq (sAsg (dCallX sp_ground_at ex (dCons (dVar 0) (dCons (dVar 2) dNil))) (gName 3))
    (sSeq (sFor (iSeq (dCall sp_corners_between (dCons (dVar 0) (dCons (dTup (dCons (dOp oIx (dVar 1) (dC (.int 0))) (dCons (dC (.int 1)) dNil))) (dCons (dVar 2) dNil))))) (gName 4) (sIf (dT (dCall sp_less (dCons (dVar 3) (dCons (dCall sp_height_on (dCons (dVar 1) (dCons (dVar 4) (dCons (dVar 2) dNil)))) dNil)))) (sRet (dC (.bl false))) sNext))
    (sRet (dC (.bl true))))))
theorem len_sees_place : ∀ ds So Q ex, sp_sees_place ds So Q ex → ds.length = 3 := by rintro ds So Q ex ⟨_, _, _, _, rfl, _⟩; rfl
theorem bo_sees_place : BodyOkX 5 b_sees_place sp_sees_place := by
  rintro ds S Q ex ⟨g, cs, s, p, rfl, hg, gr, b1, b2, hp, b3, b4, hx, q⟩
  unfold b_sees_place
  walk_at "dgo"
  refine ⟨g, cs, s, rfl, hg, gr, b1, b2, fun z => hx fun y => z y.1, fun zs => ?_⟩
  walk_at "dgo"
  refine ⟨g, cs, p, rfl, hg, gr, hp, b3, b4, fun z => hx fun y => z y.2, fun on a b h seg sv hb hgcd d1 d2 => ?_⟩
  have q := q zs on
  walk_at "dgo"
  refine ⟨g, cs, s, p, rfl, hg, gr, b1, hp, b3, b4, ?_⟩
  have q' := q a b seg
  unfold seesF at q'
  have hf : ∀ c ∈ cs.filter (btw s p), btw s p c = true ∧ c ∈ cs := fun c hc => ⟨(List.mem_filter.mp hc).2, (List.mem_filter.mp hc).1⟩
  generalize cs.filter (btw s p) = fs at q' hf ⊢
  walk_at "dgo"
  refine for_by (fun i ρ S' => S' = S ++ [.lst (fs.map p2)] ∧ (∃ w : Option D, ρ = [some g, some (p2 s), some (p2 p), some (p2 h), w]) ∧ (fs.take i).all (fun c => !hid s p c (hvT a b p) (hvB a b p)) = true) ⟨rfl, ⟨none, rfl⟩, rfl⟩ (fun i ρ S' z => z.1 ▸ Lst.at0) ?_ ?_
  · rintro i d ρ S' hd ⟨rfl, ⟨w, rfl⟩, hall⟩
    obtain ⟨c, hc, rfl⟩ := get_p2 hd
    obtain ⟨hbt, hcm⟩ := hf c (List.mem_of_getElem? hc)
    obtain ⟨bc1, bc2⟩ := gr.bd c hcm
    walk_at "dgo"
    refine ⟨s, c, p, rfl, btw_ne hbt, hp, b1, b2, bc1.mono (by decide), bc2.mono (by decide), b3, b4, fun e sv2 hg2 d3 d4 => ?_⟩
    walk_at "dgo"
    refine ⟨h, e, rfl, .inl ⟨d1.mono (by decide), d4.mono (by decide)⟩, .inl ⟨d3.mono (by decide), d2.mono (by decide)⟩, ?_⟩
    rw [flt_sv hb (hvB_pos (btw_ne hbt) hp) sv sv2]
    walk_at "dgo"
    refine r_d (fun z => ?_) (fun z => ?_)
    · walk_at "dgo"
      have : fs.all (fun c => !hid s p c (hvT a b p) (hvB a b p)) = false := by
        rw [Bool.eq_false_iff]
        intro zz
        have := List.all_eq_true.mp zz c (List.mem_of_getElem? hc)
        unfold hid at this
        rw [decide_eq_true z] at this
        cases this
      rw [this] at q'
      exact fin_pure rfl q'
    · walk_at "dgo"
      refine ⟨rfl, ⟨_, rfl⟩, ?_⟩
      rw [take_snocD hc, List.all_append, hall]
      unfold hid
      simp [z]
  · rintro ρ S' ⟨rfl, ⟨w, rfl⟩, hall⟩
    rw [List.length_map, List.take_length] at hall
    rw [hall] at q'
    walk_at "dgo"
    exact fin_pure rfl q'
def sp_rope : DSpX := fun ds S Q ex => ∃ (g : D) (cs : List (Int × Int)) (a b : Int × Int), ds = [g, p2 a, p2 b] ∧ GAt S g cs ∧ Grd cs ∧ (Bd 180 a.1 ∧ Bd 200 a.2) ∧ (Bd 180 b.1 ∧ Bd 200 b.2) ∧ (¬ (StdG cs a ∧ StdG cs b) → ex "OffGround" S) ∧ (StdG cs a → StdG cs b → a.1 ≠ b.1 ∧ ∀ rp, Rop (dirG a b) (linL cs a b) rp → New Q S (rp.map p2))
def b_rope (ex : XR) : DS :=
    (sSeq (sDrop (dCallX sp_refuse_not_standing ex (dCons (dVar 0) (dCons (dVar 1) dNil))))
    (sSeq (sDrop (dCallX sp_refuse_not_standing ex (dCons (dVar 0) (dCons (dVar 2) dNil))))
    (sSeq (sAsg (dLst (dCons (dVar 1) dNil)) (gName 3))
    (sSeq (sAsg (dCall sp_numbers_between (dCons (dVar 0) (dCons (dOp oIx (dVar 1) (dC (.int 0))) (dCons (dOp oIx (dVar 2) (dC (.int 0))) dNil)))) (gName 4))
    (sSeq (sJ (sIf (dT (dOp oLt (dOp oIx (dVar 2) (dC (.int 0))) (dOp oIx (dVar 1) (dC (.int 0))))) (sDrop (dM mReverse (dVar 4) dNil)) sNext))
    (sSeq (sFor (iSeq (dOp oAdd (dLC 1 [0] (iSeq (dVar 4)) (gName 0) dTrue (dOp oIx (dFld "corners" (dVar 1)) (dVar 0))) (dLst (dCons (dVar 2) dNil)))) (gName 5) (sSeq (sWhile (dAnd (dT (dOp oGt (dB bLen (dCons (dVar 3) dNil)) (dC (.int 1)))) (dT (dOp oLe (dCall sp_side_of (dCons (dOp oIx (dVar 3) (dUn oNeg (dC (.int 2)))) (dCons (dVar 5) (dCons (dOp oIx (dVar 3) (dUn oNeg (dC (.int 1)))) dNil)))) (dC (.int 0))))) (sDrop (dM mPop (dVar 3) dNil)))
    (sDrop (dM mAppend (dVar 3) (dCons (dVar 5) dNil)))))
    (sRet (dVar 3))))))))
theorem len_rope : ∀ ds So Q ex, sp_rope ds So Q ex → ds.length = 3 := by rintro ds So Q ex ⟨_, _, _, _, rfl, _⟩; rfl
theorem bo_rope : BodyOkX 6 b_rope sp_rope := by
  rintro ds S Q ex ⟨g, cs, a, b, rfl, hg, gr, ba, bb, hx, q⟩
  unfold b_rope
  walk_at "dgo"
  refine ⟨g, cs, a, rfl, hg, gr, ba.1, ba.2, fun z => hx fun y => z y.1, fun za => ?_⟩
  walk_at "dgo"
  refine ⟨g, cs, b, rfl, hg, gr, bb.1, bb.2, fun z => hx fun y => z y.2, fun zb => ?_⟩
  obtain ⟨hab, q⟩ := q za zb
  have hlb : ∀ d ∈ linL cs a b, Bd 180 d.1 ∧ Bd 200 d.2 := fun d hd => ins_bd gr ba bb hd
  have hasc := lin_asc gr hab
  walk_at "dgo"
  refine ⟨g, cs, _, _, rfl, hg.old, gr.most, ?_⟩
  walk_at "dgo"
  refine r_J (fun ρ S' => S' = S ++ [.lst [p2 a], .lst ((insK cs a b).map D.int)] ∧ ρ = [some g, some (p2 a), some (p2 b), some (.ref S.length), some (.ref (S.length + 1)), none]) ?_ ?_
  · walk_at "dgo"
    refine r_d (fun h => ?_) (fun h => ?_)
    · walk_at "dgo"
      refine m_reverse ((sto_at _ _ _).trans rfl) (put_A ?_)
      walk_at "dgo"
      exact ⟨by unfold insK; rw [if_pos h, List.map_reverse]; rfl, rfl⟩
    · walk_at "dgo"
      exact ⟨by unfold insK; rw [if_neg h], rfl⟩
  rintro ρ S' ⟨rfl, rfl⟩
  have kl : ∀ k ∈ insK cs a b, 0 ≤ k ∧ k < cs.length := fun k hk => nbK_lt (insK_mem.mp hk)
  have hkl : (insK cs a b).length ≤ 40 := by
    have h1 := nbK_len cs a.1 b.1 cs.length
    have h2 := gr.most
    unfold insK
    split
    · rw [List.length_reverse]; omega
    · omega
  have eL : linL cs a b = a :: ((insK cs a b).map (fun k => cs.getD k.toNat (0, 0)) ++ [b]) := rfl
  generalize insK cs a b = ks at kl hkl eL
  obtain ⟨n, l, rfl, hn, hl⟩ := hg.old (T := [.lst [p2 a], .lst (ks.map D.int)])
  walk_at "dgo"
  refine lc_pure (fun _ => true) (onI fun k => p2 (cs.getD k.toNat (0, 0))) (Lst.at rfl) (by rw [List.length_map]; unfold big; omega) (fun i d ys hd hw => ?_) ?_
  · obtain ⟨k, hk, rfl⟩ := get_int hd
    obtain ⟨k0, k1⟩ := kl k (List.mem_of_getElem? hk)
    obtain ⟨c, hc, ac⟩ := at_p2 (cs := cs) k0 k1
    have eg : cs.getD k.toNat (0, 0) = c := by rw [List.getD_eq_getElem?_getD, hc]; rfl
    walk_at "dgo"
    exact lcw_y hd hw rfl (by show p2 c = p2 (cs.getD k.toNat (0, 0)); rw [eg])
  rw [filter_true, onI_map]
  have em : ks.map (fun k => p2 (cs.getD k.toNat (0, 0))) = (ks.map fun k => cs.getD k.toNat (0, 0)).map p2 := by rw [List.map_map]; rfl
  rw [em]
  have hil : (ks.map fun k => cs.getD k.toNat (0, 0)).length ≤ 40 := by rw [List.length_map]; exact hkl
  generalize (ks.map fun k => cs.getD k.toNat (0, 0)) = ins at eL hil
  walk_at "dgo"
  refine o_addL (xs := ins.map p2) (ys := [b].map p2) (by walk_at "dlat") (by walk_at "dlat") (by rw [List.length_map, List.length_map]; show ins.length + 1 ≤ big; unfold big; omega) ?_
  rw [← List.map_append]
  rw [eL] at q hlb hasc
  have hpl : (ins ++ [b]).length ≤ 41 := by rw [List.length_append]; show ins.length + 1 ≤ 41; omega
  have hpb : (ins ++ [b]).getLast? = some b := by simp
  have hpn : ins ++ [b] ≠ [] := by simp
  generalize ins ++ [b] = pts at q hlb hasc hpl hpb hpn
  walk_at "dgo"
  generalize hT : [Cell.lst (ks.map D.int), .lst (ins.map p2), .lst [p2 b], .lst (pts.map p2)] = T
  have hT3 : T[3]? = some (.lst (pts.map p2)) := by rw [← hT]; rfl
  have hgd := dir_1 a b
  generalize dirG a b = gd at q hasc hgd
  refine for_by (fun i ρ S' => ∃ (t : Int × Int) (r : List (Int × Int)) (w : Option D), ρ = [some (.ref n), some (p2 a), some (p2 b), some (.ref S.length), some (.ref (S.length + 1)), w] ∧ S' = S ++ Cell.lst (r.reverse.map p2 ++ [p2 t]) :: T ∧
      Hul gd (a :: pts.take i) (t :: r) ∧ (t :: r).reverse.Sublist (a :: pts.take i) ∧ (a :: pts.take i).getLast? = some t ∧ (t :: r).getLast? = some a ∧ r.length ≤ i) ⟨a, [], none, rfl, by rw [← hT]; rfl, True.intro, by simp, by simp, rfl, by simp⟩ (fun i ρ S' ⟨t, r, w, _, e, _⟩ => by rw [e]; exact Lst.at (k := 4) hT3) ?_ ?_
  · rintro i d ρ S' hd ⟨t, r, w, rfl, rfl, hul, sub, lst, bot, hrl⟩
    obtain ⟨s, hs, rfl⟩ := get_p2 hd
    have hi : i < pts.length := lt_getD hs
    have et : (a :: pts.take i) ++ [s] = a :: pts.take (i + 1) := by rw [take_snocD hs]; rfl
    have hpre : (a :: pts.take (i + 1)).Sublist (a :: pts) := List.Sublist.cons_cons _ (List.take_sublist _ _)
    have hasc' : Asc gd (a :: pts.take (i + 1)) := List.Pairwise.sublist hpre hasc
    rw [← et] at hasc'
    have hpa := List.pairwise_append.mp hasc'
    have hM : Asc gd (a :: pts.take i) := hpa.1
    have hnew : ∀ d ∈ a :: pts.take i, gx gd d < gx gd s := fun d hd => hpa.2.2 d hd s (by simp)
    have hbM : ∀ d ∈ a :: pts.take i, Bd 180 d.1 ∧ Bd 200 d.2 := fun d hd => hlb d (hpre.subset (by rw [← et]; exact List.mem_append_left _ hd))
    obtain ⟨bs1, bs2⟩ := hlb s (hpre.subset (by rw [← et]; simp))
    have hstk : Stk gd (a :: pts.take i) s t r := by
      refine ⟨hul, sub, hnew, fun d hd ht => ?_, fun d hd a' ha' => ?_⟩
      · have := hM.last lst hd
        have e := hM.eq hd (List.mem_of_getLast? lst) (by omega)
        subst e; exact Int.le_of_eq (D3_same0 _ _ _)
      · rw [bot] at ha'; cases ha'
        exact hM.head rfl hd
    walk_at "dgo"
    refine w_by (fun m ρ S' => ∃ (t : Int × Int) (r : List (Int × Int)), ρ = [some (.ref n), some (p2 a), some (p2 b), some (.ref S.length), some (.ref (S.length + 1)), some (p2 s)] ∧ S' = S ++ Cell.lst (r.reverse.map p2 ++ [p2 t]) :: T ∧ m = r.length ∧ r.length ≤ i ∧ Stk gd (a :: pts.take i) s t r ∧ (t :: r).getLast? = some a) r.length ⟨t, r, rfl, rfl, rfl, hrl, hstk, bot⟩ ?_
    clear hstk hul sub lst bot hrl
    rintro m ρ S' ⟨t, r, rfl, rfl, rfl, hrl, hstk, bot⟩
    have hlim : (r.reverse.map p2 ++ [p2 t]).length < big := by rw [List.length_append, List.length_map, List.length_reverse]; show r.length + 1 < big; unfold big; omega
    have fin : (∀ u, r.head? = some u → 0 < D3 gd u s t) → ∃ (t' : Int × Int) (r' : List (Int × Int)) (w : Option D), [some (.ref n), some (p2 a), some (p2 b), some (.ref S.length), some (.ref (S.length + 1)), some (p2 s)] = [some (.ref n), some (p2 a), some (p2 b), some (.ref S.length), some (.ref (S.length + 1)), w] ∧ S ++ Cell.lst (r.reverse.map p2 ++ [p2 t] ++ [p2 s]) :: T = S ++ Cell.lst (r'.reverse.map p2 ++ [p2 t']) :: T ∧
      Hul gd (a :: pts.take (i + 1)) (t' :: r') ∧ (t' :: r').reverse.Sublist (a :: pts.take (i + 1)) ∧ (a :: pts.take (i + 1)).getLast? = some t' ∧ (t' :: r').getLast? = some a ∧ r'.length ≤ i + 1 := fun hu => by
      obtain ⟨h1, h2⟩ := hstk.push hu
      rw [et] at h1 h2
      exact ⟨s, t :: r, _, rfl, by rw [List.reverse_cons, List.map_append]; rfl, h1, h2, by rw [← et]; exact List.getLast?_concat, by rw [List.getLast?_cons_cons]; exact bot, by simp; omega⟩
    rcases r with _ | ⟨u, r⟩
    · have e0 : (([] : List (Int × Int)).reverse.map p2 ++ [p2 t]) = [p2 t] := rfl
      rw [e0] at hlim fin ⊢
      walk_at "dgo"
      refine r_d (fun z => absurd z (by show ¬ (1 : Int) < ((1 : Nat) : Int); decide)) (fun _ => ?_)
      walk_at "dgo"
      exact fin (fun u hu => by simp at hu)
    · have e0 : (u :: r).reverse.map p2 ++ [p2 t] = r.reverse.map p2 ++ [p2 u] ++ [p2 t] := by rw [List.reverse_cons, List.map_append]; rfl
      rw [e0] at hlim fin ⊢
      have a1 : atD (r.reverse.map p2 ++ [p2 u] ++ [p2 t]) (-1) = some (p2 t) := at_minus
      have a2 : atD (r.reverse.map p2 ++ [p2 u] ++ [p2 t]) (-2) = some (p2 u) := at_minus2
      obtain ⟨bt1, bt2⟩ := hbM t (hstk.mem (by simp))
      obtain ⟨bu1, bu2⟩ := hbM u (hstk.mem (by simp))
      have hus := hnew u (hstk.mem (by simp))
      walk_at "dgo"
      refine r_d (fun _ => ?_) (fun z => absurd (by rw [List.length_append, List.length_append]; show (1 : Int) < ((_ + 1 + 1 : Nat) : Int); omega) z)
      walk_at "dgo"
      refine ⟨u, s, t, rfl, .inl ⟨(Bd.sub bt2 bu2).mono (by decide), (Bd.sub bs1 bu1).mono (by decide)⟩, .inl ⟨(Bd.sub bt1 bu1).mono (by decide), (Bd.sub bs2 bu2).mono (by decide)⟩, ?_⟩
      have hsd := sd_D3 hgd (d := t) hus
      walk_at "dgo"
      refine r_d (fun z => ?_) (fun z => ?_)
      · walk_at "dgo"
        refine m_pop (xs := r.reverse.map p2 ++ [p2 u]) (y := p2 t) sto_h0 (put_A0 ?_)
        walk_at "dgo"
        exact ⟨r.length, by simp, u, r, rfl, rfl, rfl, by simp at hrl; omega, hstk.pop (by
          rcases Int.lt_or_le 0 (D3 gd u s t) with k | k
          · have := hsd.mpr k; omega
          · exact k), by rw [List.getLast?_cons_cons] at bot; exact bot⟩
      · walk_at "dgo"
        exact fin (fun v hv => by
          have : u = v := by simpa using hv
          subst this
          exact hsd.mp (by omega))
  · rintro ρ S' ⟨t, r, w, rfl, rfl, hul, sub, lst, bot, hrl⟩
    rw [List.length_map, List.take_length] at hul sub lst
    walk_at "dgo"
    have hq := q _ (hul_rop hul sub (by rw [List.head?_reverse, bot]; rfl) (by rw [List.getLast?_reverse, lst]; rfl))
    rw [List.reverse_cons, List.map_append] at hq
    refine fin_new ?_ hq
    show _ = true
    have := fl_fracs (r.reverse ++ [t])
    rw [List.map_append] at this
    exact this
theorem good_at {c : Int × Int} {t b u : Int} (hb : 0 < b) (sv : Sv c t b) (e : t = u * b) (hg : Int.gcd c.1 c.2 = 1) : c = (u, 1) := by
  obtain ⟨c0, c1⟩ := sv
  have e1 : c.1 = u * c.2 := by
    rw [e] at c1
    have : c.1 * b = u * c.2 * b := by rw [c1]; grind
    exact Int.eq_of_mul_eq_mul_right (by omega) this
  have hd : c.2 ∣ (1 : Int) := by
    have h1 : c.2 ∣ c.1 := ⟨u, by rw [e1, Int.mul_comm]⟩
    have := Int.dvd_coe_gcd h1 (Int.dvd_refl c.2)
    rw [hg] at this
    exact this
  have e2 : c.2 = 1 := by
    have := Int.le_of_dvd (by decide) hd
    omega
  rw [e2, Int.mul_one] at e1
  exact Prod.ext e1 e2
theorem foot_at {cs : List (Int × Int)} (gr : Grd cs) {t : Int × Int} (h : FootAt cs t) : OnG cs (t.1, 1) ∧ StdG cs t ∧ (∀ a b, Brk cs (t.1, 1) a b → hvT a b (t.1, 1) = t.2 * hvB a b (t.1, 1)) ∧ Bd 180 t.1 ∧ Bd 200 t.2 := by
  obtain ⟨a, b, bk, e⟩ := h
  have on : OnG cs (t.1, 1) := (on_ex gr).mpr ⟨⟨a, bk.ma, by have : a.1 * 1 ≤ t.1 := bk.lo; omega⟩, ⟨b, bk.mb, by have : t.1 ≤ b.1 * 1 := bk.hi; omega⟩⟩
  have all : ∀ c d, Brk cs (t.1, 1) c d → hvT c d (t.1, 1) = t.2 * hvB c d (t.1, 1) := fun c d bk2 => by
    have s := brk_same gr (show (0 : Int) < 1 by decide) bk bk2
    have hB := (foot_bd gr bk).1
    rw [e] at s
    have : hvT c d (t.1, 1) * hvB a b (t.1, 1) = t.2 * hvB c d (t.1, 1) * hvB a b (t.1, 1) := by rw [← s]; grind
    exact Int.eq_of_mul_eq_mul_right (by omega) this
  refine ⟨on, (std_brk gr bk).mpr (Int.le_of_eq e), all, ?_, ?_⟩
  · exact (Bd.btw (n := 170) (gr.bd a bk.ma).1 (gr.bd b bk.mb).1 (by have : a.1 * 1 ≤ t.1 := bk.lo; omega) (by have : t.1 ≤ b.1 * 1 := bk.hi; omega)).mono (by decide)
  · obtain ⟨c, d, seg, bk2⟩ := seg_brk gr on
    have hB := (foot_bd gr bk2).1
    have hF := (foot_bd gr bk2).2.2.2
    have e2 : footT (hvT c d (t.1, 1)) (hvB c d (t.1, 1)) = t.2 := by
      rw [all c d bk2]
      unfold footT
      rw [← Int.neg_mul, Int.mul_ediv_cancel _ (by omega)]
      omega
    rw [e2] at hF
    exact hF.mono (by decide)
theorem vis_foot {cs : List (Int × Int)} (gr : Grd cs) {s t : Int × Int} (h : FootAt cs t) : Vis cs s (t.1, 1) = (hinK cs s t).isNone := by
  obtain ⟨on, _, all, _, _⟩ := foot_at gr h
  obtain ⟨a, b, seg, bk⟩ := seg_brk gr on
  have hB := (foot_bd gr bk).1
  rw [vis_seg seg, Bool.eq_iff_iff, hin_none]
  unfold seesF
  rw [List.all_eq_true]
  have hbt : ∀ c, btw s (t.1, 1) c = true ↔ (min s.1 t.1 < c.1 ∧ c.1 < max s.1 t.1) := fun c => by
    unfold btw
    simp only [Bool.or_eq_true, Bool.and_eq_true, decide_eq_true_eq, Int.mul_one]
    omega
  have key : ∀ c, btw s (t.1, 1) c = true → (hid s (t.1, 1) c (hvT a b (t.1, 1)) (hvB a b (t.1, 1)) = true ↔ 0 < sdI s t c) := fun c hc => by
    have h1 := (hbt c).mp hc
    rw [hid_iff (show (0 : Int) < 1 by decide) hc, decide_eq_true_eq, all a b bk, sd_pos (by rcases Int.lt_or_le s.1 t.1 with g | g; left; omega; right; omega)]
    dsimp only
    rw [Int.mul_one, Int.mul_one]
    have e1 : (t.2 * hvB a b (t.1, 1) - s.2 * hvB a b (t.1, 1)) * ((c.1 - s.1).natAbs : Int) = (t.2 - s.2) * ((c.1 - s.1).natAbs : Int) * hvB a b (t.1, 1) := by grind
    rw [e1]
    exact Int.mul_lt_mul_right hB
  constructor
  · intro hh c hc c1 c2 hp
    have hb := (hbt c).mpr ⟨c1, c2⟩
    have := hh c (List.mem_filter.mpr ⟨hc, hb⟩)
    rw [(key c hb).mpr hp] at this
    cases this
  · intro hh c hc
    obtain ⟨h1, h2⟩ := List.mem_filter.mp hc
    have h3 := (hbt c).mp h2
    cases e : hid s (t.1, 1) c (hvT a b (t.1, 1)) (hvB a b (t.1, 1)) with
    | false => rfl
    | true => exact absurd ((key c h2).mp e) (hh c h1 h3.1 h3.2)
def sp_law_foot_good : DSp := fun ds S Q => ∃ (g : D) (cs : List (Int × Int)) (s t : Int × Int) (v : Bool), ds = [g, p2 s, p2 t, .bl v] ∧ GAt S g cs ∧ Grd cs ∧ (Bd 180 s.1 ∧ Bd 200 s.2) ∧ StdG cs s ∧ FootAt cs t ∧ v = Vis cs s (t.1, 1) ∧ Q (.bl true) S
def b_law_foot_good : DS :=
    (sSeq (sAsg (dCallX sp_clear xF (dCons (dVar 0) (dCons (dVar 1) (dCons (dVar 2) dNil)))) (gName 4))
    (sSeq (sAsg (dTup (dCons (dOp oIx (dVar 2) (dC (.int 0))) (dCons (dC (.int 1)) dNil))) (gName 5))
    (sSeq (sIf (dOr (dT (dOp oNe (dCallX sp_ground_at xF (dCons (dVar 0) (dCons (dVar 5) dNil))) (dTup (dCons (dOp oIx (dVar 2) (dC (.int 1))) (dCons (dC (.int 1)) dNil))))) (dT (dOp oNe (dCallX sp_sees_place xF (dCons (dVar 0) (dCons (dVar 1) (dCons (dVar 5) dNil)))) (dVar 4)))) (sRet (dC (.bl false))) sNext)
    (sSeq (sIf (dT (dOp oNe (dVar 3) (dVar 4))) (sRet (dC (.bl false))) sNext)
    (sRet (dOrV (dOp oEq (dOp oIx (dVar 2) (dC (.int 0))) (dOp oIx (dVar 1) (dC (.int 0)))) (dOp oEq (dOp oEq (dB bLen (dCons (dCallX sp_rope xF (dCons (dVar 0) (dCons (dVar 2) (dCons (dVar 1) dNil)))) dNil)) (dC (.int 2))) (dVar 4))))))))
theorem len_law_foot_good : ∀ ds So Q, sp_law_foot_good ds So Q → ds.length = 4 := by rintro ds So Q ⟨_, _, _, _, _, rfl, _⟩; rfl
theorem bo_law_foot_good : BodyOk 6 b_law_foot_good sp_law_foot_good := by
  rintro ds S Q ⟨g, cs, s, t, v, rfl, hg, gr, bs, ss, ft, rfl, q⟩
  unfold b_law_foot_good
  obtain ⟨on, st, all, bt1, bt2⟩ := foot_at gr ft
  have ev := vis_foot gr (s := s) ft
  walk_at "dgo"
  refine ⟨g, cs, s, t, rfl, hg, gr, bs, ⟨bt1, bt2⟩, fun no => absurd ⟨ss, st⟩ no, fun _ _ => ?_⟩
  rw [← ev]
  generalize hvv : Vis cs s (t.1, 1) = v at ev
  walk_at "dgo"
  refine ⟨g, cs, (t.1, 1), rfl, hg, gr, (show (0 : Int) < 1 by decide), bt1.mono (by decide), (show Bd 1000 1 from Bd.lit (by decide) (by decide)), fun off => absurd on off, fun _ a b c seg sv hB hgcd d1 d2 => ?_⟩
  obtain ⟨a', b', seg', bk⟩ := seg_brk gr on
  rw [seg] at seg'
  cases seg'
  obtain rfl := good_at hB sv (all a b bk) hgcd
  walk_at "dgo"
  refine o_neP1 (a := (t.2, 1)) (b := (t.2, 1)) rfl ?_
  walk_at "dgo"
  refine ⟨g, cs, s, (t.1, 1), rfl, hg, gr, bs.1, bs.2, (show (0 : Int) < 1 by decide), bt1.mono (by decide), (show Bd 1000 1 from Bd.lit (by decide) (by decide)), fun no => absurd ⟨ss, on⟩ no, fun _ _ a2 b2 seg2 => ?_⟩
  rw [← vis_seg seg2, hvv]
  walk_at "dgo"
  rw [show (!(v == v)) = false by simp]
  walk_at "dgo"
  rw [show (!(v == v)) = false by simp]
  walk_at "dgo"
  refine r_d (fun e => ?_) (fun e => ?_)
  · exact fin_same q
  · walk_at "dgo"
    refine ⟨g, cs, t, s, rfl, hg, gr, ⟨bt1, bt2⟩, bs, fun no => absurd ⟨st, ss⟩ no, fun _ _ => ⟨e, fun rp rop => ?_⟩⟩
    walk_at "dgo"
    rw [List.length_map]
    have ec := rop_clear gr e rop
    rw [hin_swap] at ec
    have e2 : decide ((rp.length : Int) = 2) = v := by
      rw [ev, ec]
      exact decide_eq_decide.mpr (by omega)
    rw [e2, show (v == v) = true by simp]
    exact fin_pure rfl q
def b_law : DS :=
    (sSeq (sAsg (dCall sp_law_parts (dCons (dVar 0) dNil)) (gName 1))
    (sSeq (sAsg (dOp oIx (dVar 1) (dC (.int 0))) (gName 2))
    (sSeq (sAsg (dOp oIx (dLst (dCons (dC (.int 1)) (dCons (dC (.int 1)) (dCons (dC (.int 100000000000000000000)) dNil)))) (dOp oMod (dCall sp_law_cell (dCons (dVar 0) (dCons (dC (.int 0)) dNil))) (dC (.int 3)))) (gName 3))
    (sSeq (sAsg (dCall sp_Ground (dCons (dB bList (dCons (dVar 2) dNil)) dNil)) (gName 4))
    (sSeq (sAsg (dLC 1 [] (iSeq (dOp oIx (dVar 1) (dC (.int 1)))) (gName 0) dTrue (dSl sCut (dVar 0) (some (dC (.int 1))) none)) (gName 5))
    (sSeq (sAsg (dCall sp_law_feet (dCons (dVar 2) (dCons (dVar 3) dNil))) (gName 6))
    (sSeq (sFor (iSeq (dSl sCut (dVar 5) none (some (dC (.int 3))))) (gName 7) (sSeq (sAsg (dCallX sp_watched xF (dCons (dVar 4) (dCons (dLst (dCons (dVar 7) (dCons (dOp oIx (dVar 5) (dUn oNeg (dC (.int 1)))) dNil))) dNil))) (gName 8))
    (sSeq (sAsg (dCallX sp_seen xF (dCons (dVar 4) (dCons (dOp oIx (dVar 5) (dUn oNeg (dC (.int 1)))) dNil))) (gName 9))
    (sSeq (sAsg (dCallX sp_seen xF (dCons (dVar 4) (dCons (dVar 7) dNil))) (gName 10))
    (sFor (iSeq (dVar 6)) (gName 11) (sSeq (sAsg (dTup (dCons (dOp oIx (dVar 11) (dC (.int 0))) (dCons (dC (.int 1)) dNil))) (gName 12))
    (sSeq (sAsg (dCall sp_holds_place (dCons (dVar 10) (dCons (dVar 12) dNil))) (gName 13))
    (sSeq (sIf (dNot (dT (dCall sp_law_foot_good (dCons (dVar 4) (dCons (dVar 7) (dCons (dVar 11) (dCons (dVar 13) dNil))))))) (sRet (dC (.bl false))) sNext)
    (sIf (dT (dOp oNe (dCall sp_holds_place (dCons (dVar 8) (dCons (dVar 12) dNil))) (dOrV (dVar 13) (dCall sp_holds_place (dCons (dVar 9) (dCons (dVar 12) dNil)))))) (sRet (dC (.bl false))) sNext)))))))))
    (sRet (dC (.bl true))))))))))
theorem bo_law : BodyOk 14 b_law sp_law := by
  rintro ds S Q ⟨ns, rfl, _, hl, q⟩
  unfold b_law
  walk_at "dgo"
  refine ⟨ns, rfl, hl, fun T x y z hz cs bs fs h0 h1 dl kc gr g9 near kb b1 b6 hbs kf => ?_⟩
  obtain ⟨sb1, sb2⟩ := scl_bd (ns.getD 0 0)
  have asc := scl_at (ns.getD 0 0)
  generalize S ++ T = S1 at kc kb kf
  walk_at "dgo"
  refine ⟨ns, 0, rfl, ?_⟩
  generalize scl (ns.getD 0 0) = sc at sb1 sb2 asc near
  generalize ns.getD 0 0 = c0 at asc
  have kc1 : Lst (S1 ++ [.lst [.int 1, .int 1, .int 100000000000000000000]]) x (cs.map p2) := kc.old
  walk_at "dgo"
  walk_at "drho"
  obtain ⟨Sx, hSx⟩ : ∃ Sx : Sto, Sx = S1 ++ [Cell.lst [.int 1, .int 1, .int 100000000000000000000], .lst (cs.map p2)] := ⟨_, rfl⟩
  have kd : Lst Sx (.ref (S1.length + 1)) (cs.map p2) := hSx ▸ Lst.at rfl
  have kc2 : Lst Sx x (cs.map p2) := hSx ▸ kc.old
  have kb2 : Lst Sx y (bs.map bcD) := hSx ▸ kb.old
  rw [← hSx]
  refine ⟨Sx, _, cs, rfl, rfl, kd, gr, ⟨rfl, ?_⟩⟩
  obtain ⟨Sy, hSy⟩ : ∃ Sy : Sto, Sy = Sx ++ [.ins "Ground" [("corners", .ref (Sx.length + 1))], .lst (cs.map p2)] := ⟨_, rfl⟩
  have hg : GAt Sy (.ref Sx.length) cs := hSy ▸ ⟨Sx.length, Sx.length + 1, rfl, sto_h0, (sto_at _ _ _).trans rfl⟩
  have kc3 : Lst Sy x (cs.map p2) := hSy ▸ kc2.old
  have kb3 : Lst Sy y (bs.map bcD) := hSy ▸ kb2.old
  rw [← hSy]
  clear hSx hSy kd
  walk_at "dgo"
  refine lc_pure (fun _ => true) (onBc fun b => p2 b.2) kb3 (by rw [List.length_map]; unfold big; omega) (fun i d ys hd hw => ?_) ?_
  · obtain ⟨b, hb, rfl⟩ := get_bc hd
    walk_at "dgo"
    exact lcw_y hd hw rfl rfl
  rw [filter_true, onBc_map, show bs.map (fun b => p2 b.2) = (bs.map fun b => b.2).map p2 by rw [List.map_map]; rfl]
  have hss : ∀ s ∈ bs.map (fun b => b.2), StdG cs s ∧ Bd 180 s.1 ∧ Bd 200 s.2 := fun s hs => by
    obtain ⟨b, hb, rfl⟩ := List.mem_map.mp hs
    obtain ⟨k1, k2, k3⟩ := hbs b hb
    exact ⟨k1, k2.mono (by decide), k3.mono (by decide)⟩
  have hsl : (bs.map fun b => b.2).length = bs.length := List.length_map _
  generalize bs.map (fun b => b.2) = ss at hss hsl
  have kc4 : Lst (Sy ++ [.lst (ss.map p2)]) x (cs.map p2) := kc3.old
  walk_at "dgo"
  refine ⟨x, cs, sc, rfl, kc4, gr, g9, sb1, sb2, near, fun ts htl hts => ?_⟩
  obtain ⟨s0, sl, esl⟩ : ∃ i x, ss = i ++ [x] := by
    have : ss ≠ [] := fun e => by rw [e] at hsl; simp at hsl; omega
    exact ⟨ss.dropLast, ss.getLast this, (List.dropLast_concat_getLast this).symm⟩
  have asl : atD (ss.map p2) (-1) = some (p2 sl) := by rw [esl, List.map_append]; exact at_minus
  have slm : sl ∈ ss := by rw [esl]; simp
  obtain ⟨sls, slb⟩ := hss sl slm
  walk_at "dgo"
  rw [cut_map]
  have hcu : ∀ s ∈ cutD ss none (some 3), s ∈ ss := fun s hs => by
    unfold cutD at hs
    exact List.mem_of_mem_drop (List.mem_of_mem_take hs)
  generalize cutD ss none (some 3) = us at hcu
  walk_at "dgo"
  walk_at "drho2"
  obtain ⟨Sz, hSz⟩ : ∃ Sz : Sto, Sz = Sy ++ [.lst (ss.map p2), .lst (ts.map p2), .lst (us.map p2)] := ⟨_, rfl⟩
  have ks : Lst Sz (.ref Sy.length) (ss.map p2) := hSz ▸ Lst.at0
  have kt : Lst Sz (.ref (Sy.length + 1)) (ts.map p2) := hSz ▸ Lst.at rfl
  have ku : Lst Sz (.ref (Sy.length + 2)) (us.map p2) := hSz ▸ Lst.at rfl
  have hgz : GAt Sz (.ref Sx.length) cs := hSz ▸ hg.old
  rw [← hSz]
  clear hSz
  have hMM := MM_pos
  refine for_by (fun i ρ S' => ∃ (G : Sto) (w7 w8 w9 w10 w11 w12 w13 : Option D), S' = Sz ++ G ∧ ρ = [some (.rl (ns.map D.int)), some (.tup [x, y, z, hz, .int h0, .int h1, .int dl]), some x, some (.int sc), some (.ref Sx.length), some (.ref Sy.length), some (.ref (Sy.length + 1)), w7, w8, w9, w10, w11, w12, w13]) ⟨[], none, none, none, none, none, none, none, by simp, rfl⟩ (fun i ρ S' ⟨G, _, _, _, _, _, _, _, e, _⟩ => by rw [e]; exact ku.old) ?_ ?_
  · rintro i d ρ S' hd ⟨G, w7, w8, w9, w10, w11, w12, w13, rfl, rfl⟩
    obtain ⟨s, hs, rfl⟩ := get_p2 hd
    obtain ⟨ss', sb⟩ := hss s (hcu s (List.mem_of_getElem? hs))
    have ks1 : Lst (Sz ++ G) (.ref Sy.length) (ss.map p2) := ks.old
    walk_at "dgo"
    obtain ⟨S4, hS4⟩ : ∃ S4 : Sto, S4 = Sz ++ (G ++ [.lst [p2 s, p2 sl]]) := ⟨_, rfl⟩
    have kw : Lst S4 (.ref (Sz.length + G.length)) ([s, sl].map p2) := hS4 ▸ Lst.new
    have ks4 : Lst S4 (.ref Sy.length) (ss.map p2) := hS4 ▸ ks.old
    have kt4 : Lst S4 (.ref (Sy.length + 1)) (ts.map p2) := hS4 ▸ kt.old
    have hg4 : GAt S4 (.ref Sx.length) cs := hS4 ▸ hgz.old
    rw [← hS4]
    refine ⟨_, cs, _, [s, sl], rfl, hg4, gr, kw, fun s' hs' => ?_, by show 2 ≤ 9; decide, fun no => absurd (fun s' hs' => ?_) no, fun _ ys wq => ?_⟩
    · simp only [List.mem_cons, List.not_mem_nil, or_false] at hs'
      rcases hs' with rfl | rfl
      · exact sb
      · exact slb
    · simp only [List.mem_cons, List.not_mem_nil, or_false] at hs'
      rcases hs' with rfl | rfl
      · exact ss'
      · exact sls
    walk_at "dgo"
    refine ⟨_, cs, sl, rfl, hg4, gr, slb, fun no => absurd sls no, fun _ os so => ?_⟩
    walk_at "dgo"
    refine ⟨_, cs, s, rfl, hg4, gr, sb, fun no => absurd ss' no, fun _ vs sv => ?_⟩
    walk_at "dgo"
    refine for_by (fun j ρ S' => S' = S4 ∧ ∃ (w11 w12 w13 : Option D), ρ = [some (.rl (ns.map D.int)), some (.tup [x, y, z, hz, .int h0, .int h1, .int dl]), some x, some (.int sc), some (.ref Sx.length), some (.ref Sy.length), some (.ref (Sy.length + 1)), some (p2 s), some (.tup (ys.map stD)), some (.tup (os.map stD)), some (.tup (vs.map stD)), w11, w12, w13]) ⟨rfl, _, _, _, rfl⟩ (fun j ρ S' h => h.1 ▸ kt4) ?_ ?_
    · rintro j d ρ S' hd ⟨rfl, w11, w12, w13, rfl⟩
      obtain ⟨t, ht, rfl⟩ := get_p2 hd
      have fa := hts t (List.mem_of_getElem? ht)
      obtain ⟨on, st, all, bt1, bt2⟩ := foot_at gr fa
      have fuT : FU (t.1, 1) := fu_one (bt1.mono (by decide))
      have E : Emb FU eU := eU_emb fun a h => h
      have mul : (t.1, (1 : Int)).1 * (2 * MM) = eU (t.1, 1) * (t.1, (1 : Int)).2 := (eU_mul fuT).symm
      have hv : (vs.map (rk eU)).any (inS (eU (t.1, 1))) = Vis cs s (t.1, 1) := by
        rw [Bool.eq_iff_iff, sv.2.2.1 _ _ (show (0 : Int) < 1 by decide) mul]
        exact ⟨fun h => h.2, fun h => ⟨on, h⟩⟩
      have ho : (os.map (rk eU)).any (inS (eU (t.1, 1))) = Vis cs sl (t.1, 1) := by
        rw [Bool.eq_iff_iff, so.2.2.1 _ _ (show (0 : Int) < 1 by decide) mul]
        exact ⟨fun h => h.2, fun h => ⟨on, h⟩⟩
      have hy : (ys.map (rk eU)).any (inS (eU (t.1, 1))) = (Vis cs s (t.1, 1) || Vis cs sl (t.1, 1)) := by
        rw [Bool.eq_iff_iff, wq.iff _ _ (show (0 : Int) < 1 by decide) mul, Bool.or_eq_true]
        constructor
        · rintro ⟨_, s', hs', h⟩
          simp only [List.mem_cons, List.not_mem_nil, or_false] at hs'
          rcases hs' with rfl | rfl
          · exact .inl h
          · exact .inr h
        · rintro (h | h)
          · exact ⟨on, s, by simp, h⟩
          · exact ⟨on, sl, by simp, h⟩
      walk_at "dgo"
      refine ⟨FU, eU, vs, (t.1, 1), rfl, E, fun y hy => ⟨(sv.1 y hy).a.1, (sv.1 y hy).b.1⟩, fuT, by have := sv.2.2.2; omega, ?_⟩
      rw [hv]
      walk_at "dgo"
      refine ⟨_, cs, s, t, _, rfl, hg4, gr, sb, ss', fa, rfl, ?_⟩
      generalize Vis cs s (t.1, 1) = a1 at *
      generalize Vis cs sl (t.1, 1) = a2 at *
      walk_at "dgo"
      refine ⟨FU, eU, ys, (t.1, 1), rfl, E, fun y hy => ⟨(wq.ks y hy).a, (wq.ks y hy).b⟩, fuT, by have := wq.len; omega, ?_⟩
      rw [hy]
      walk_at "dgo"
      cases a1 with
      | true =>
        walk_at "dgo"
        rw [show (!((true || a2) == true)) = false by cases a2 <;> rfl]
        walk_at "dgo"
        exact ⟨rfl, _, _, _, rfl⟩
      | false =>
        walk_at "dgo"
        refine ⟨FU, eU, os, (t.1, 1), rfl, E, fun y hy => ⟨(so.1 y hy).a.1, (so.1 y hy).b.1⟩, fuT, by have := so.2.2.2; omega, ?_⟩
        rw [ho]
        walk_at "dgo"
        rw [show (!((false || a2) == a2)) = false by cases a2 <;> rfl]
        walk_at "dgo"
        exact ⟨rfl, _, _, _, rfl⟩
    · rintro ρ S' ⟨rfl, w11, w12, w13, rfl⟩
      exact ⟨_, _, _, _, _, _, _, _, hS4, rfl⟩
  · rintro ρ S' ⟨G, w7, w8, w9, w10, w11, w12, w13, rfl, rfl⟩
    walk_at "dgo"
    exact fin_same (q _)
end Dp
namespace Law
open PySem PySem.Spec PyProof.Rows L2 My Dp
def top (i : Nat) : Stmt := PySem.Challenge.pw_beaconvale_k97_whole_seen_and_clear.main.body.getD i (.Pass ⟨0, 0, 0, 0⟩)
abbrev s_law_cell : Stmt := top 38
abbrev s_law_folded : Stmt := top 40
abbrev s_law_mixed : Stmt := top 39
abbrev s_law_ground_by : Stmt := top 42
abbrev s_law_names : Stmt := top 43
abbrev s_law_high : Stmt := top 41
abbrev s_law_beacon : Stmt := top 44
abbrev s_law_fog : Stmt := top 45
abbrev s_law_parts : Stmt := top 46
abbrev s_refuse_bad_corners : Stmt := top 16
abbrev s_Ground_init : Stmt := inClass (top 17) 0
abbrev s_law_feet : Stmt := top 47
abbrev s_less : Stmt := top 7
abbrev s_is_on : Stmt := top 18
abbrev s_common_divisor : Stmt := top 5
abbrev s_fraction : Stmt := top 6
abbrev s_height_on : Stmt := top 11
abbrev s_ground_at : Stmt := top 19
abbrev s_stands : Stmt := top 20
abbrev s_refuse_not_standing : Stmt := top 21
abbrev s_side_of : Stmt := top 10
abbrev s_crossing : Stmt := top 12
abbrev s_first_seen : Stmt := top 33
abbrev s_seen_outward : Stmt := top 34
abbrev s_lesser : Stmt := top 8
abbrev s_greater : Stmt := top 9
abbrev s_with_stretch : Stmt := top 27
abbrev s_seen : Stmt := top 35
abbrev s_joined : Stmt := top 28
abbrev s_watched : Stmt := top 36
abbrev s_holds_place : Stmt := top 29
abbrev s_numbers_between : Stmt := top 22
abbrev s_hinder : Stmt := top 23
abbrev s_clear : Stmt := top 24
abbrev s_corners_between : Stmt := top 31
abbrev s_sees_place : Stmt := top 32
abbrev s_rope : Stmt := top 25
abbrev s_law_foot_good : Stmt := top 48
abbrev s_law : Stmt := top 49
section
variable {P : Program} {w : World} {K : PySem.W.Frag} {mg : Str → Option Value} {base : Heap} {f : Addr} {fd : FuncData}
theorem sc_law_cell : FnScope ["script", "k"] ["script", "k"] (defScope s_law_cell) := ⟨rfl, rfl, rfl, by decide +kernel, rfl, by decide +kernel, by decide +kernel⟩
theorem ok_law_cell (F : Fun K "_law_cell" "_law_cell" s_law_cell f fd) (m_len : mg "len" = none) : FnOk P w K mg base CX0 1 f fd ["script", "k"] (upF K Dp.sp_law_cell) := by
  refine fn_deep (b := Dp.b_law_cell) F sc_law_cell Dp.len_law_cell Dp.bo_law_cell (fun cdv A outer s H E hr => ?_)
  unfold Dp.b_law_cell
  exact (psds_cons (psd_if (pt_cmpD od_Lt (pd_var (pv 1)) (pd_b bd_Len rfl m_len boot_len (pd_cons (pd_var (pv 0)) pd_nil))) (psds_one (psd_ret (pd_ix (pd_var (pv 0)) (pd_var (pv 1)) (fun _ _ => rfl)))) psds_nil)
    (psds_one (psd_ret pd_int)))
theorem sc_law_folded : FnScope ["script", "start", "size", "told", "k"] ["script", "start", "size"] (defScope s_law_folded) := ⟨rfl, rfl, rfl, by decide +kernel, rfl, by decide +kernel, by decide +kernel⟩
theorem ok_law_folded (F : Fun K "_law_folded" "_law_folded" s_law_folded f fd) (m_range : mg "range" = none) (m_len : mg "len" = none) : FnOk P w K mg base CX0 1 f fd ["script", "start", "size"] (upF K Dp.sp_law_folded) := by
  refine fn_deep (b := Dp.b_law_folded) F sc_law_folded Dp.len_law_folded Dp.bo_law_folded (fun cdv A outer s H E hr => ?_)
  unfold Dp.b_law_folded
  exact (psds_cons (psd_setC (i := 3) sc_law_folded.nd rfl rfl (own := ["k"]) (free := []) (fv := []) rfl rfl rfl (by decide +kernel) (by decide +kernel) True.intro True.intro (id_rng1 rfl m_range (pd_cons (pd_var (pv 2)) pd_nil)) ⟨(grel_name 0 (by decide)), fun _ _ _ _ _ => (pg_name (i := 0) (show List.Nodup (["k"] : List Str) by decide +kernel) rfl (Or.inl rfl) (Or.inr rfl))⟩ (fun _ _ _ _ _ => pfd_nil) (fun _ _ _ _ _ => (pd_add (pd_mul (pd_var (pv 0)) (pd_var (pv 0))) pd_int)))
    (psds_cons (psd_for PassesOwn.never rfl (id_rng2 rfl m_range (pd_cons (pd_var (pv 1)) (pd_cons (pd_b bd_Len rfl m_len boot_len (pd_cons (pd_var (pv 0)) pd_nil)) pd_nil))) (pgd_name (i := 4) sc_law_folded.nd rfl (Or.inl rfl)) (psds_one (psd_asg (pd_add (pd_mul (pd_ix (pd_var (pv 3)) (pd_mod (pd_var (pv 4)) (pd_var (pv 2))) (fun _ _ => rfl)) pd_int) (pd_ix (pd_var (pv 0)) (pd_var (pv 4)) (fun _ _ => rfl))) (pgd_sub (pd_var (pv 3)) (pd_mod (pd_var (pv 4)) (pd_var (pv 2)))))))
    (psds_one (psd_ret (pd_var (pv 3))))))
theorem sc_law_mixed : FnScope ["cell", "k", "stir"] ["cell", "k"] (defScope s_law_mixed) := ⟨rfl, rfl, rfl, by decide +kernel, rfl, by decide +kernel, by decide +kernel⟩
theorem ok_law_mixed (F : Fun K "_law_mixed" "_law_mixed" s_law_mixed f fd) : FnOk P w K mg base CX0 1 f fd ["cell", "k"] (upF K Dp.sp_law_mixed) := by
  refine fn_deep (b := Dp.b_law_mixed) F sc_law_mixed Dp.len_law_mixed Dp.bo_law_mixed (fun cdv A outer s H E hr => ?_)
  unfold Dp.b_law_mixed
  exact (psds_cons (psd_set (i := 2) sc_law_mixed.nd rfl (Or.inl rfl) (pd_mod (pd_mul (pd_add (pd_add (pd_mod (pd_var (pv 0)) pd_int) (pd_mul pd_int (pd_var (pv 1)))) pd_int) pd_int) pd_int))
    (psds_one (psd_ret (pd_mod (pd_mul (pd_var (pv 2)) (pd_var (pv 2))) pd_int))))
theorem sc_law_ground_by : FnScope ["cells", "count", "scale", "corners", "x", "k", "m"] ["cells", "count", "scale"] (defScope s_law_ground_by) := ⟨rfl, rfl, rfl, by decide +kernel, rfl, by decide +kernel, by decide +kernel⟩
theorem ok_law_ground_by (F : Fun K "_law_ground_by" "_law_ground_by" s_law_ground_by f fd) (G_law_mixed : Got P w K mg base 1 "_law_mixed" ["cell", "k"] (upF K Dp.sp_law_mixed)) (m_range : mg "range" = none) : FnOk P w K mg base CX0 2 f fd ["cells", "count", "scale"] (upF K Dp.sp_law_ground_by) := by
  refine fn_deep (b := Dp.b_law_ground_by) F sc_law_ground_by Dp.len_law_ground_by Dp.bo_law_ground_by (fun cdv A outer s H E hr => ?_)
  unfold Dp.b_law_ground_by
  exact (psds_cons (psd_set (i := 3) sc_law_ground_by.nd rfl (Or.inl rfl) (pd_lst pd_nil))
    (psds_cons (psd_set (i := 4) sc_law_ground_by.nd rfl (Or.inl rfl) (pd_neg pd_int))
    (psds_cons (psd_for PassesOwn.never rfl (id_rng1 rfl m_range (pd_cons (pd_var (pv 1)) pd_nil)) (pgd_name (i := 5) sc_law_ground_by.nd rfl (Or.inl rfl)) (psds_cons (psd_set (i := 6) sc_law_ground_by.nd rfl (Or.inl rfl) (pd_call G_law_mixed hr (by decide) rfl (pd_cons (pd_ix (pd_var (pv 0)) (pd_var (pv 5)) (fun _ _ => rfl)) (pd_cons (pd_var (pv 5)) pd_nil))))
    (psds_cons (psd_expr (pd_m PySem.F.slot_list_append PySem.F.type_list_append md_append (pd_var (pv 3)) (pd_cons (pd_tup (pd_cons (pd_mul (pd_var (pv 4)) (pd_var (pv 2))) (pd_cons (pd_mul (pd_mod (pd_div (pd_var (pv 6)) pd_int) pd_int) (pd_var (pv 2))) pd_nil))) pd_nil)))
    (psds_one (psd_set (i := 4) sc_law_ground_by.nd rfl (Or.inl rfl) (pd_add (pd_add (pd_var (pv 4)) pd_int) (pd_mod (pd_div (pd_var (pv 6)) pd_int) pd_int)))))))
    (psds_one (psd_ret (pd_var (pv 3)))))))
theorem sc_law_names : FnScope ["base", "stem"] ["base"] (defScope s_law_names) := ⟨rfl, rfl, rfl, by decide +kernel, rfl, by decide +kernel, by decide +kernel⟩
theorem ok_law_names (F : Fun K "_law_names" "_law_names" s_law_names f fd) (m_range : mg "range" = none) : FnOk P w K mg base CX0 1 f fd ["base"] (upF K Dp.sp_law_names) := by
  refine fn_deep (b := Dp.b_law_names) F sc_law_names Dp.len_law_names Dp.bo_law_names (fun cdv A outer s H E hr => ?_)
  unfold Dp.b_law_names
  exact (psds_cons (psd_set (i := 1) sc_law_names.nd rfl (Or.inr rfl) (pd_ix (pd_lst (pd_cons pd_str (pd_cons pd_str (pd_cons pd_str (pd_cons pd_str pd_nil))))) (pd_mod (pd_var (pv 0)) pd_int) (fun _ _ => rfl)))
    (psds_one (psd_ret (pd_lc (own := ["k"]) (free := ["stem", "base"]) (fv := [1, 0]) rfl rfl rfl (by decide +kernel) (by decide +kernel) ⟨rfl, rfl, True.intro⟩ ⟨rfl, rfl, rfl, rfl, rfl, rfl, True.intro⟩ (id_rng1 rfl m_range (pd_cons pd_int pd_nil)) ⟨(grel_name 0 (by decide)), fun _ _ _ _ _ => (pg_name (i := 0) (show List.Nodup (["k", "stem", "base"] : List Str) by decide +kernel) rfl (Or.inl rfl) (Or.inr rfl))⟩ (fun _ _ _ _ _ => pfd_nil) (fun _ _ _ _ _ => (pd_add (pd_var (pv 1)) (pd_ix pd_str (pd_mod (pd_add (pd_div (pd_var (pv 2)) pd_int) (pd_mul pd_int (pd_var (pv 0)))) pd_int) (fun _ _ => rfl))))))))
theorem sc_law_high : FnScope ["corners", "x", "k", "left", "right", "rise"] ["corners", "x"] (defScope s_law_high) := ⟨rfl, rfl, rfl, by decide +kernel, rfl, by decide +kernel, by decide +kernel⟩
theorem ok_law_high (F : Fun K "_law_high" "_law_high" s_law_high f fd) (m_range : mg "range" = none) (m_len : mg "len" = none) : FnOk P w K mg base CX0 1 f fd ["corners", "x"] (upF K Dp.sp_law_high) := by
  refine fn_deep (b := Dp.b_law_high) F sc_law_high Dp.len_law_high Dp.bo_law_high (fun cdv A outer s H E hr => ?_)
  unfold Dp.b_law_high
  exact (psds_cons (psd_for PassesOwn.never rfl (id_rng2 rfl m_range (pd_cons pd_int (pd_cons (pd_b bd_Len rfl m_len boot_len (pd_cons (pd_var (pv 0)) pd_nil)) pd_nil))) (pgd_name (i := 2) sc_law_high.nd rfl (Or.inl rfl)) (psds_cons (psd_set (i := 3) sc_law_high.nd rfl (Or.inl rfl) (pd_ix (pd_var (pv 0)) (pd_sub (pd_var (pv 2)) pd_int) (fun _ _ => rfl)))
    (psds_cons (psd_set (i := 4) sc_law_high.nd rfl (Or.inl rfl) (pd_ix (pd_var (pv 0)) (pd_var (pv 2)) (fun _ _ => rfl)))
    (psds_one (psd_if (pw_ptD (pw_andD (pt_cmpD od_Le (pd_ix (pd_var (pv 3)) pd_int (fun _ _ => rfl)) (pd_var (pv 1))) (pw_and1D (pt_cmpD od_Le (pd_var (pv 1)) (pd_ix (pd_var (pv 4)) pd_int (fun _ _ => rfl)))))) (psds_cons (psd_set (i := 5) sc_law_high.nd rfl (Or.inl rfl) (pd_mul (pd_sub (pd_ix (pd_var (pv 4)) pd_int (fun _ _ => rfl)) (pd_ix (pd_var (pv 3)) pd_int (fun _ _ => rfl))) (pd_sub (pd_var (pv 1)) (pd_ix (pd_var (pv 3)) pd_int (fun _ _ => rfl)))))
    (psds_one (psd_ret (pd_sub (pd_ix (pd_var (pv 3)) pd_int (fun _ _ => rfl)) (pd_div (pd_neg (pd_var (pv 5))) (pd_sub (pd_ix (pd_var (pv 4)) pd_int (fun _ _ => rfl)) (pd_ix (pd_var (pv 3)) pd_int (fun _ _ => rfl)))))))) psds_nil)))))
    (psds_one (psd_ret pd_non)))
theorem sc_law_beacon : FnScope ["cell", "k", "corners", "scale", "name", "m", "wide", "x"] ["cell", "k", "corners", "scale", "name"] (defScope s_law_beacon) := ⟨rfl, rfl, rfl, by decide +kernel, rfl, by decide +kernel, by decide +kernel⟩
theorem ok_law_beacon (F : Fun K "_law_beacon" "_law_beacon" s_law_beacon f fd) (G_law_mixed : Got P w K mg base 1 "_law_mixed" ["cell", "k"] (upF K Dp.sp_law_mixed)) (G_law_high : Got P w K mg base 1 "_law_high" ["corners", "x"] (upF K Dp.sp_law_high)) : FnOk P w K mg base CX0 2 f fd ["cell", "k", "corners", "scale", "name"] (upF K Dp.sp_law_beacon) := by
  refine fn_deep (b := Dp.b_law_beacon) F sc_law_beacon Dp.len_law_beacon Dp.bo_law_beacon (fun cdv A outer s H E hr => ?_)
  unfold Dp.b_law_beacon
  exact (psds_cons (psd_set (i := 5) sc_law_beacon.nd rfl (Or.inl rfl) (pd_call G_law_mixed hr (by decide) rfl (pd_cons (pd_var (pv 0)) (pd_cons (pd_add (pd_var (pv 1)) pd_int) pd_nil))))
    (psds_cons (psd_set (i := 6) sc_law_beacon.nd rfl (Or.inl rfl) (pd_div (pd_sub (pd_ix (pd_ix (pd_var (pv 2)) (pd_neg pd_int) (fun _ _ => rfl)) pd_int (fun _ _ => rfl)) (pd_ix (pd_ix (pd_var (pv 2)) pd_int (fun _ _ => rfl)) pd_int (fun _ _ => rfl))) (pd_var (pv 3))))
    (psds_cons (psd_set (i := 7) sc_law_beacon.nd rfl (Or.inl rfl) (pd_add (pd_ix (pd_ix (pd_var (pv 2)) pd_int (fun _ _ => rfl)) pd_int (fun _ _ => rfl)) (pd_mul (pd_mod (pd_var (pv 5)) (pd_add (pd_var (pv 6)) pd_int)) (pd_var (pv 3)))))
    (psds_one (psd_ret (pd_tup (pd_cons (pd_var (pv 4)) (pd_cons (pd_var (pv 7)) (pd_cons (pd_add (pd_call G_law_high hr (by decide) rfl (pd_cons (pd_var (pv 2)) (pd_cons (pd_var (pv 7)) pd_nil))) (pd_mul (pd_ix (pd_lst (pd_cons pd_int (pd_cons pd_int (pd_cons pd_int (pd_cons pd_int (pd_cons pd_int (pd_cons pd_int pd_nil))))))) (pd_mod (pd_div (pd_var (pv 5)) pd_int) pd_int) (fun _ _ => rfl)) (pd_var (pv 3)))) pd_nil)))))))))
theorem sc_law_fog : FnScope ["cell", "k", "corners", "scale", "hours", "m", "left", "low", "first", "wide", "high", "drift"] ["cell", "k", "corners", "scale", "hours"] (defScope s_law_fog) := ⟨rfl, rfl, rfl, by decide +kernel, rfl, by decide +kernel, by decide +kernel⟩
theorem ok_law_fog (F : Fun K "_law_fog" "_law_fog" s_law_fog f fd) (G_law_mixed : Got P w K mg base 1 "_law_mixed" ["cell", "k"] (upF K Dp.sp_law_mixed)) : FnOk P w K mg base CX0 2 f fd ["cell", "k", "corners", "scale", "hours"] (upF K Dp.sp_law_fog) := by
  refine fn_deep (b := Dp.b_law_fog) F sc_law_fog Dp.len_law_fog Dp.bo_law_fog (fun cdv A outer s H E hr => ?_)
  unfold Dp.b_law_fog
  exact (psds_cons (psd_set (i := 5) sc_law_fog.nd rfl (Or.inl rfl) (pd_call G_law_mixed hr (by decide) rfl (pd_cons (pd_var (pv 0)) (pd_cons (pd_add (pd_var (pv 1)) pd_int) pd_nil))))
    (psds_cons (psd_set (i := 6) sc_law_fog.nd rfl (Or.inl rfl) (pd_add (pd_ix (pd_ix (pd_var (pv 2)) pd_int (fun _ _ => rfl)) pd_int (fun _ _ => rfl)) (pd_mul (pd_sub (pd_mod (pd_var (pv 5)) pd_int) pd_int) (pd_var (pv 3)))))
    (psds_cons (psd_set (i := 7) sc_law_fog.nd rfl (Or.inl rfl) (pd_mul (pd_sub (pd_mod (pd_div (pd_var (pv 5)) pd_int) pd_int) pd_int) (pd_var (pv 3))))
    (psds_cons (psd_set (i := 8) sc_law_fog.nd rfl (Or.inl rfl) (pd_add (pd_sub (pd_ix (pd_var (pv 4)) pd_int (fun _ _ => rfl)) pd_int) (pd_mod (pd_div (pd_var (pv 5)) pd_int) (pd_add (pd_sub (pd_ix (pd_var (pv 4)) pd_int (fun _ _ => rfl)) (pd_ix (pd_var (pv 4)) pd_int (fun _ _ => rfl))) pd_int))))
    (psds_cons (psd_set (i := 9) sc_law_fog.nd rfl (Or.inl rfl) (pd_mul (pd_mod (pd_div (pd_var (pv 5)) pd_int) pd_int) (pd_var (pv 3))))
    (psds_cons (psd_set (i := 10) sc_law_fog.nd rfl (Or.inl rfl) (pd_mul (pd_mod (pd_div (pd_var (pv 5)) pd_int) pd_int) (pd_var (pv 3))))
    (psds_cons (psd_set (i := 11) sc_law_fog.nd rfl (Or.inl rfl) (pd_mul (pd_sub (pd_mod (pd_div (pd_var (pv 5)) pd_int) pd_int) pd_int) (pd_var (pv 3))))
    (psds_one (psd_ret (pd_tup (pd_cons (pd_var (pv 6)) (pd_cons (pd_add (pd_var (pv 6)) (pd_var (pv 9))) (pd_cons (pd_var (pv 7)) (pd_cons (pd_add (pd_var (pv 7)) (pd_var (pv 10))) (pd_cons (pd_var (pv 8)) (pd_cons (pd_add (pd_var (pv 8)) (pd_mod (pd_div (pd_var (pv 5)) pd_int) pd_int)) (pd_cons (pd_var (pv 11)) (pd_cons (pd_mul (pd_sub (pd_mod (pd_div (pd_var (pv 5)) pd_int) pd_int) pd_int) (pd_var (pv 3))) pd_nil))))))))))))))))))
theorem sc_law_parts : FnScope ["script", "head", "second", "third", "cells", "scale", "first", "hours", "corners", "names", "beacons", "fogs", "haze"] ["script"] (defScope s_law_parts) := ⟨rfl, rfl, rfl, by decide +kernel, rfl, by decide +kernel, by decide +kernel⟩
theorem ok_law_parts (F : Fun K "_law_parts" "_law_parts" s_law_parts f fd) (G_law_cell : Got P w K mg base 1 "_law_cell" ["script", "k"] (upF K Dp.sp_law_cell)) (G_law_folded : Got P w K mg base 1 "_law_folded" ["script", "start", "size"] (upF K Dp.sp_law_folded)) (G_law_ground_by : Got P w K mg base 2 "_law_ground_by" ["cells", "count", "scale"] (upF K Dp.sp_law_ground_by)) (G_law_names : Got P w K mg base 1 "_law_names" ["base"] (upF K Dp.sp_law_names)) (G_law_beacon : Got P w K mg base 2 "_law_beacon" ["cell", "k", "corners", "scale", "name"] (upF K Dp.sp_law_beacon)) (G_law_fog : Got P w K mg base 2 "_law_fog" ["cell", "k", "corners", "scale", "hours"] (upF K Dp.sp_law_fog)) (m_range : mg "range" = none) : FnOk P w K mg base CX0 3 f fd ["script"] (upF K Dp.sp_law_parts) := by
  refine fn_deep (b := Dp.b_law_parts) F sc_law_parts Dp.len_law_parts Dp.bo_law_parts (fun cdv A outer s H E hr => ?_)
  unfold Dp.b_law_parts
  exact (psds_cons (psd_set (i := 1) sc_law_parts.nd rfl (Or.inl rfl) (pd_call G_law_cell hr (by decide) rfl (pd_cons (pd_var (pv 0)) (pd_cons pd_int pd_nil))))
    (psds_cons (psd_set (i := 2) sc_law_parts.nd rfl (Or.inl rfl) (pd_call G_law_cell hr (by decide) rfl (pd_cons (pd_var (pv 0)) (pd_cons pd_int pd_nil))))
    (psds_cons (psd_set (i := 3) sc_law_parts.nd rfl (Or.inl rfl) (pd_call G_law_cell hr (by decide) rfl (pd_cons (pd_var (pv 0)) (pd_cons pd_int pd_nil))))
    (psds_cons (psd_set (i := 4) sc_law_parts.nd rfl (Or.inr rfl) (pd_call G_law_folded hr (by decide) rfl (pd_cons (pd_var (pv 0)) (pd_cons pd_int (pd_cons pd_int pd_nil)))))
    (psds_cons (psd_set (i := 5) sc_law_parts.nd rfl (Or.inr rfl) (pd_ix (pd_lst (pd_cons pd_int (pd_cons pd_int (pd_cons (pd_powc 100000000000000000000 (by decide +kernel) ⟨by decide, by decide, by decide⟩) pd_nil)))) (pd_mod (pd_var (pv 1)) pd_int) (fun _ _ => rfl)))
    (psds_cons (psd_set (i := 6) sc_law_parts.nd rfl (Or.inl rfl) (pd_ix (pd_lst (pd_cons pd_int (pd_cons pd_int (pd_cons (pd_neg (pd_powc 1000000000000000000000000000000 (by decide +kernel) ⟨by decide, by decide, by decide⟩)) pd_nil)))) (pd_mod (pd_div (pd_var (pv 1)) pd_int) pd_int) (fun _ _ => rfl)))
    (psds_cons (psd_set (i := 7) sc_law_parts.nd rfl (Or.inr rfl) (pd_tup (pd_cons (pd_var (pv 6)) (pd_cons (pd_add (pd_var (pv 6)) (pd_mod (pd_div (pd_var (pv 1)) pd_int) pd_int)) pd_nil))))
    (psds_cons (psd_set (i := 8) sc_law_parts.nd rfl (Or.inr rfl) (pd_call G_law_ground_by hr (by decide) rfl (pd_cons (pd_var (pv 4)) (pd_cons (pd_add pd_int (pd_mod (pd_div (pd_var (pv 1)) pd_int) pd_int)) (pd_cons (pd_var (pv 5)) pd_nil)))))
    (psds_cons (psd_set (i := 9) sc_law_parts.nd rfl (Or.inr rfl) (pd_call G_law_names hr (by decide) rfl (pd_cons (pd_div (pd_var (pv 2)) pd_int) pd_nil)))
    (psds_cons (psd_setC (i := 10) sc_law_parts.nd rfl rfl (own := ["k"]) (free := ["corners", "scale", "cells", "names"]) (fv := [8, 5, 4, 9]) rfl rfl rfl (by decide +kernel) (by decide +kernel) ⟨rfl, rfl, rfl, rfl, True.intro⟩ ⟨rfl, rfl, rfl, rfl, rfl, rfl, rfl, rfl, rfl, rfl, rfl, rfl, True.intro⟩ (id_rng1 rfl m_range (pd_cons (pd_add pd_int (pd_mod (pd_var (pv 2)) pd_int)) pd_nil)) ⟨(grel_name 0 (by decide)), fun _ _ _ _ _ => (pg_name (i := 0) (show List.Nodup (["k", "corners", "scale", "cells", "names"] : List Str) by decide +kernel) rfl (Or.inl rfl) (Or.inr rfl))⟩ (fun _ _ _ _ _ => pfd_nil) (fun _ _ _ _ _ => (pd_call G_law_beacon hr (by decide) rfl (pd_cons (pd_ix (pd_var (pv 3)) (pd_add pd_int (pd_var (pv 0))) (fun _ _ => rfl)) (pd_cons (pd_var (pv 0)) (pd_cons (pd_var (pv 1)) (pd_cons (pd_var (pv 2)) (pd_cons (pd_ix (pd_var (pv 4)) (pd_var (pv 0)) (fun _ _ => rfl)) pd_nil))))))))
    (psds_cons (psd_setC (i := 11) sc_law_parts.nd rfl rfl (own := ["k"]) (free := ["corners", "scale", "hours", "cells"]) (fv := [8, 5, 7, 4]) rfl rfl rfl (by decide +kernel) (by decide +kernel) ⟨rfl, rfl, rfl, rfl, True.intro⟩ ⟨rfl, rfl, rfl, rfl, rfl, rfl, rfl, rfl, rfl, rfl, rfl, rfl, True.intro⟩ (id_rng1 rfl m_range (pd_cons (pd_mod (pd_div (pd_var (pv 2)) pd_int) pd_int) pd_nil)) ⟨(grel_name 0 (by decide)), fun _ _ _ _ _ => (pg_name (i := 0) (show List.Nodup (["k", "corners", "scale", "hours", "cells"] : List Str) by decide +kernel) rfl (Or.inl rfl) (Or.inr rfl))⟩ (fun _ _ _ _ _ => pfd_nil) (fun _ _ _ _ _ => (pd_call G_law_fog hr (by decide) rfl (pd_cons (pd_ix (pd_var (pv 4)) (pd_add pd_int (pd_mod (pd_var (pv 0)) pd_int)) (fun _ _ => rfl)) (pd_cons (pd_var (pv 0)) (pd_cons (pd_var (pv 1)) (pd_cons (pd_var (pv 2)) (pd_cons (pd_var (pv 3)) pd_nil))))))))
    (psds_cons (psd_set (i := 12) sc_law_parts.nd rfl (Or.inl rfl) pd_non)
    (psds_cons (psd_J (psd_if (pt_cmpD (od_Eq hr) (pd_mod (pd_var (pv 3)) pd_int) pd_int) (psds_one (psd_set (i := 12) sc_law_parts.nd rfl (Or.inl rfl) (pd_mul (pd_mul (pd_mod (pd_div (pd_var (pv 3)) pd_int) pd_int) (pd_var (pv 5))) (pd_mul (pd_mod (pd_div (pd_var (pv 3)) pd_int) pd_int) (pd_var (pv 5)))))) psds_nil))
    (psds_one (psd_ret (pd_tup (pd_cons (pd_var (pv 8)) (pd_cons (pd_var (pv 10)) (pd_cons (pd_var (pv 11)) (pd_cons (pd_var (pv 12)) (pd_cons (pd_ix (pd_var (pv 7)) pd_int (fun _ _ => rfl)) (pd_cons (pd_ix (pd_var (pv 7)) pd_int (fun _ _ => rfl)) (pd_cons (pd_ix (pd_lst (pd_cons pd_int (pd_cons pd_int (pd_cons pd_int (pd_cons pd_int (pd_cons pd_int pd_nil)))))) (pd_mod (pd_div (pd_var (pv 1)) pd_int) pd_int) (fun _ _ => rfl)) pd_nil)))))))))))))))))))))))
theorem sc_refuse_bad_corners : FnScope ["corners", "k"] ["corners"] (defScope s_refuse_bad_corners) := ⟨rfl, rfl, rfl, by decide +kernel, rfl, by decide +kernel, by decide +kernel⟩
theorem ok_refuse_bad_corners (F : Fun K "refuse_bad_corners" "refuse_bad_corners" s_refuse_bad_corners f fd) (k_LEAST_CORNERS : ∃ t, mg "LEAST_CORNERS" = some (.int 2 t)) (k_MOST_CORNERS : ∃ t, mg "MOST_CORNERS" = some (.int 40 t)) (m_len : mg "len" = none) (m_range : mg "range" = none) : FnOk P w K mg base CX0 1 f fd ["corners"] (upF K Dp.sp_refuse_bad_corners) := by
  refine fn_deep (b := Dp.b_refuse_bad_corners) F sc_refuse_bad_corners Dp.len_refuse_bad_corners Dp.bo_refuse_bad_corners (fun cdv A outer s H E hr => ?_)
  unfold Dp.b_refuse_bad_corners
  exact (psds_cons (psd_if (pw_ptD (pw_orD (pt_cmpD od_Lt (pd_b bd_Len rfl m_len boot_len (pd_cons (pd_var (pv 0)) pd_nil)) (pd_gint rfl k_LEAST_CORNERS)) (pw_or1D (pt_cmpD od_Gt (pd_b bd_Len rfl m_len boot_len (pd_cons (pd_var (pv 0)) pd_nil)) (pd_gint rfl k_MOST_CORNERS))))) (psds_one psd_never) psds_nil)
    (psds_one (psd_for PassesOwn.never rfl (id_rng2 rfl m_range (pd_cons pd_int (pd_cons (pd_b bd_Len rfl m_len boot_len (pd_cons (pd_var (pv 0)) pd_nil)) pd_nil))) (pgd_name (i := 1) sc_refuse_bad_corners.nd rfl (Or.inl rfl)) (psds_one (psd_if (pt_cmpD od_Le (pd_ix (pd_ix (pd_var (pv 0)) (pd_var (pv 1)) (fun _ _ => rfl)) pd_int (fun _ _ => rfl)) (pd_ix (pd_ix (pd_var (pv 0)) (pd_sub (pd_var (pv 1)) pd_int) (fun _ _ => rfl)) pd_int (fun _ _ => rfl))) (psds_one psd_never) psds_nil)))))
theorem sc_Ground_init : FnScope ["self", "corners"] ["self", "corners"] (defScope s_Ground_init) := ⟨rfl, rfl, rfl, by decide +kernel, rfl, by decide +kernel, by decide +kernel⟩
theorem ok_Ground_init (F : Fun K "__init__" "Ground.__init__" s_Ground_init f fd) (G_refuse_bad_corners : Got P w K mg base 1 "refuse_bad_corners" ["corners"] (upF K Dp.sp_refuse_bad_corners)) (na_Ground_corners : ∀ C, PySem.W.nsIn K mainGlobals "Ground" = some (some (.ref C)) → NoAttr K C "corners") (m_list : mg "list" = none) : FnOk P w K mg base CX0 2 f fd ["self", "corners"] (upF K Dp.sp_Ground_init) := by
  refine fn_deep (b := Dp.b_Ground_init) F sc_Ground_init Dp.len_Ground_init Dp.bo_Ground_init (fun cdv A outer s H E hr => ?_)
  unfold Dp.b_Ground_init
  exact (psds_cons (psd_expr (pd_call G_refuse_bad_corners hr (by decide) rfl (pd_cons (pd_var (pv 1)) pd_nil)))
    (psds_one (psd_fld na_Ground_corners (pd_var (pv 0)) (pd_bt bd_List rfl m_list boot_list (pd_cons (pd_var (pv 1)) pd_nil)))))
theorem sc_law_feet : FnScope ["corners", "scale", "told", "k", "left", "right", "j", "rise"] ["corners", "scale"] (defScope s_law_feet) := ⟨rfl, rfl, rfl, by decide +kernel, rfl, by decide +kernel, by decide +kernel⟩
theorem ok_law_feet (F : Fun K "_law_feet" "_law_feet" s_law_feet f fd) (m_range : mg "range" = none) (m_len : mg "len" = none) : FnOk P w K mg base CX0 1 f fd ["corners", "scale"] (upF K Dp.sp_law_feet) := by
  refine fn_deep (b := Dp.b_law_feet) F sc_law_feet Dp.len_law_feet Dp.bo_law_feet (fun cdv A outer s H E hr => ?_)
  unfold Dp.b_law_feet
  exact (psds_cons (psd_set (i := 2) sc_law_feet.nd rfl (Or.inl rfl) (pd_lst pd_nil))
    (psds_cons (psd_for PassesOwn.never rfl (id_rng2 rfl m_range (pd_cons pd_int (pd_cons (pd_b bd_Len rfl m_len boot_len (pd_cons (pd_var (pv 0)) pd_nil)) pd_nil))) (pgd_name (i := 3) sc_law_feet.nd rfl (Or.inl rfl)) (psds_cons (psd_set (i := 4) sc_law_feet.nd rfl (Or.inl rfl) (pd_ix (pd_var (pv 0)) (pd_sub (pd_var (pv 3)) pd_int) (fun _ _ => rfl)))
    (psds_cons (psd_set (i := 5) sc_law_feet.nd rfl (Or.inl rfl) (pd_ix (pd_var (pv 0)) (pd_var (pv 3)) (fun _ _ => rfl)))
    (psds_one (psd_for PassesOwn.never rfl (id_rng1 rfl m_range (pd_cons (pd_add (pd_div (pd_sub (pd_ix (pd_var (pv 5)) pd_int (fun _ _ => rfl)) (pd_ix (pd_var (pv 4)) pd_int (fun _ _ => rfl))) (pd_var (pv 1))) pd_int) pd_nil)) (pgd_name (i := 6) sc_law_feet.nd rfl (Or.inl rfl)) (psds_cons (psd_set (i := 7) sc_law_feet.nd rfl (Or.inl rfl) (pd_mul (pd_mul (pd_sub (pd_ix (pd_var (pv 5)) pd_int (fun _ _ => rfl)) (pd_ix (pd_var (pv 4)) pd_int (fun _ _ => rfl))) (pd_var (pv 6))) (pd_var (pv 1))))
    (psds_one (psd_if (pt_cmpD (od_Eq hr) (pd_mod (pd_var (pv 7)) (pd_sub (pd_ix (pd_var (pv 5)) pd_int (fun _ _ => rfl)) (pd_ix (pd_var (pv 4)) pd_int (fun _ _ => rfl)))) pd_int) (psds_one (psd_expr (pd_m PySem.F.slot_list_append PySem.F.type_list_append md_append (pd_var (pv 2)) (pd_cons (pd_tup (pd_cons (pd_add (pd_ix (pd_var (pv 4)) pd_int (fun _ _ => rfl)) (pd_mul (pd_var (pv 6)) (pd_var (pv 1)))) (pd_cons (pd_add (pd_ix (pd_var (pv 4)) pd_int (fun _ _ => rfl)) (pd_div (pd_var (pv 7)) (pd_sub (pd_ix (pd_var (pv 5)) pd_int (fun _ _ => rfl)) (pd_ix (pd_var (pv 4)) pd_int (fun _ _ => rfl))))) pd_nil))) pd_nil)))) psds_nil))))))))
    (psds_one (psd_ret (pd_var (pv 2))))))
theorem sc_less : FnScope ["one", "other"] ["one", "other"] (defScope s_less) := ⟨rfl, rfl, rfl, by decide +kernel, rfl, by decide +kernel, by decide +kernel⟩
theorem ok_less (F : Fun K "less" "less" s_less f fd) : FnOk P w K mg base CX0 1 f fd ["one", "other"] (upF K Dp.sp_less) := by
  refine fn_deep (b := Dp.b_less) F sc_less Dp.len_less Dp.bo_less (fun cdv A outer s H E hr => ?_)
  unfold Dp.b_less
  exact (psds_one (psd_ret (pd_cmp od_Lt (pd_mul (pd_ix (pd_var (pv 0)) pd_int (fun _ _ => rfl)) (pd_ix (pd_var (pv 1)) pd_int (fun _ _ => rfl))) (pd_mul (pd_ix (pd_var (pv 1)) pd_int (fun _ _ => rfl)) (pd_ix (pd_var (pv 0)) pd_int (fun _ _ => rfl))))))
theorem sc_is_on : FnScope ["ground", "place", "first", "last"] ["ground", "place"] (defScope s_is_on) := ⟨rfl, rfl, rfl, by decide +kernel, rfl, by decide +kernel, by decide +kernel⟩
theorem ok_is_on (F : Fun K "is_on" "is_on" s_is_on f fd) (G_less : Got P w K mg base 1 "less" ["one", "other"] (upF K Dp.sp_less)) : FnOk P w K mg base CX0 2 f fd ["ground", "place"] (upF K Dp.sp_is_on) := by
  refine fn_deep (b := Dp.b_is_on) F sc_is_on Dp.len_is_on Dp.bo_is_on (fun cdv A outer s H E hr => ?_)
  unfold Dp.b_is_on
  exact (psds_cons (psd_set (i := 2) sc_is_on.nd rfl (Or.inl rfl) (pd_tup (pd_cons (pd_ix (pd_ix (pd_fld (pd_var (pv 0)) rfl) pd_int (fun _ _ => rfl)) pd_int (fun _ _ => rfl)) (pd_cons pd_int pd_nil))))
    (psds_cons (psd_set (i := 3) sc_is_on.nd rfl (Or.inl rfl) (pd_tup (pd_cons (pd_ix (pd_ix (pd_fld (pd_var (pv 0)) rfl) (pd_neg pd_int) (fun _ _ => rfl)) pd_int (fun _ _ => rfl)) (pd_cons pd_int pd_nil))))
    (psds_one (psd_ret (pd_andV (pd_notV (pd_call G_less hr (by decide) rfl (pd_cons (pd_var (pv 1)) (pd_cons (pd_var (pv 2)) pd_nil)))) (pd_one (pd_notV (pd_call G_less hr (by decide) rfl (pd_cons (pd_var (pv 3)) (pd_cons (pd_var (pv 1)) pd_nil))))))))))
theorem sc_common_divisor : FnScope ["one", "other", "rest"] ["one", "other"] (defScope s_common_divisor) := ⟨rfl, rfl, rfl, by decide +kernel, rfl, by decide +kernel, by decide +kernel⟩
theorem ok_common_divisor (F : Fun K "common_divisor" "common_divisor" s_common_divisor f fd) (m_abs : mg "abs" = none) : FnOk P w K mg base CX0 1 f fd ["one", "other"] (upF K Dp.sp_common_divisor) := by
  refine fn_deep (b := Dp.b_common_divisor) F sc_common_divisor Dp.len_common_divisor Dp.bo_common_divisor (fun cdv A outer s H E hr => ?_)
  unfold Dp.b_common_divisor
  exact (psds_cons (psd_while PassesOwn.never (pt_cmpD (od_Ne hr) (pd_var (pv 1)) pd_int) (psds_cons (psd_set (i := 2) sc_common_divisor.nd rfl (Or.inl rfl) (pd_mod (pd_var (pv 0)) (pd_var (pv 1))))
    (psds_cons (psd_set (i := 0) sc_common_divisor.nd rfl (Or.inl rfl) (pd_var (pv 1)))
    (psds_one (psd_set (i := 1) sc_common_divisor.nd rfl (Or.inl rfl) (pd_var (pv 2)))))))
    (psds_one (psd_ret (pd_b bd_Abs rfl m_abs boot_abs (pd_cons (pd_var (pv 0)) pd_nil)))))
theorem sc_fraction : FnScope ["top", "bottom", "divisor"] ["top", "bottom"] (defScope s_fraction) := ⟨rfl, rfl, rfl, by decide +kernel, rfl, by decide +kernel, by decide +kernel⟩
theorem ok_fraction (F : Fun K "fraction" "fraction" s_fraction f fd) (G_common_divisor : Got P w K mg base 1 "common_divisor" ["one", "other"] (upF K Dp.sp_common_divisor)) : FnOk P w K mg base CX0 2 f fd ["top", "bottom"] (upF K Dp.sp_fraction) := by
  refine fn_deep (b := Dp.b_fraction) F sc_fraction Dp.len_fraction Dp.bo_fraction (fun cdv A outer s H E hr => ?_)
  unfold Dp.b_fraction
  exact (psds_cons (psd_set (i := 2) sc_fraction.nd rfl (Or.inl rfl) (pd_call G_common_divisor hr (by decide) rfl (pd_cons (pd_var (pv 0)) (pd_cons (pd_var (pv 1)) pd_nil))))
    (psds_cons (psd_J (psd_if (pt_cmpD od_Lt (pd_var (pv 1)) pd_int) (psds_one (psd_set (i := 2) sc_fraction.nd rfl (Or.inl rfl) (pd_neg (pd_var (pv 2))))) psds_nil))
    (psds_one (psd_ret (pd_tup (pd_cons (pd_div (pd_var (pv 0)) (pd_var (pv 2))) (pd_cons (pd_div (pd_var (pv 1)) (pd_var (pv 2))) pd_nil)))))))
theorem sc_height_on : FnScope ["one", "other", "place", "run", "rise", "top"] ["one", "other", "place"] (defScope s_height_on) := ⟨rfl, rfl, rfl, by decide +kernel, rfl, by decide +kernel, by decide +kernel⟩
theorem ok_height_on (F : Fun K "height_on" "height_on" s_height_on f fd) (G_fraction : Got P w K mg base 2 "fraction" ["top", "bottom"] (upF K Dp.sp_fraction)) : FnOk P w K mg base CX0 3 f fd ["one", "other", "place"] (upF K Dp.sp_height_on) := by
  refine fn_deep (b := Dp.b_height_on) F sc_height_on Dp.len_height_on Dp.bo_height_on (fun cdv A outer s H E hr => ?_)
  unfold Dp.b_height_on
  exact (psds_cons (psd_set (i := 3) sc_height_on.nd rfl (Or.inl rfl) (pd_sub (pd_ix (pd_var (pv 1)) pd_int (fun _ _ => rfl)) (pd_ix (pd_var (pv 0)) pd_int (fun _ _ => rfl))))
    (psds_cons (psd_set (i := 4) sc_height_on.nd rfl (Or.inl rfl) (pd_sub (pd_ix (pd_var (pv 1)) pd_int (fun _ _ => rfl)) (pd_ix (pd_var (pv 0)) pd_int (fun _ _ => rfl))))
    (psds_cons (psd_set (i := 5) sc_height_on.nd rfl (Or.inl rfl) (pd_add (pd_mul (pd_mul (pd_ix (pd_var (pv 0)) pd_int (fun _ _ => rfl)) (pd_var (pv 3))) (pd_ix (pd_var (pv 2)) pd_int (fun _ _ => rfl))) (pd_mul (pd_var (pv 4)) (pd_sub (pd_ix (pd_var (pv 2)) pd_int (fun _ _ => rfl)) (pd_mul (pd_ix (pd_var (pv 0)) pd_int (fun _ _ => rfl)) (pd_ix (pd_var (pv 2)) pd_int (fun _ _ => rfl)))))))
    (psds_one (psd_ret (pd_call G_fraction hr (by decide) rfl (pd_cons (pd_var (pv 5)) (pd_cons (pd_mul (pd_var (pv 3)) (pd_ix (pd_var (pv 2)) pd_int (fun _ _ => rfl))) pd_nil))))))))
theorem sc_ground_at : FnScope ["ground", "place", "corners", "k"] ["ground", "place"] (defScope s_ground_at) := ⟨rfl, rfl, rfl, by decide +kernel, rfl, by decide +kernel, by decide +kernel⟩
theorem ok_ground_at (F : Fun K "ground_at" "ground_at" s_ground_at f fd) (G_is_on : Got P w K mg base 2 "is_on" ["ground", "place"] (upF K Dp.sp_is_on)) (G_less : Got P w K mg base 1 "less" ["one", "other"] (upF K Dp.sp_less)) (G_height_on : Got P w K mg base 3 "height_on" ["one", "other", "place"] (upF K Dp.sp_height_on)) (hC_OffGround : ∀ C, PySem.W.nsIn K mainGlobals "OffGround" = some (some (.ref C)) → ExC K C) (hx_OffGround : ∃ C, PySem.W.nsIn K mainGlobals "OffGround" = some (some (.ref C)) ∧ mg "OffGround" = some (.ref C)) : FnOk P w K mg base (CXd P w) 4 f fd ["ground", "place"] (upFX K Dp.sp_ground_at) := by
  refine fn_deepX (b := Dp.b_ground_at) F sc_ground_at Dp.len_ground_at Dp.bo_ground_at (fun cdv A outer s H E hr _ ex hX hM => ?_)
  unfold Dp.b_ground_at
  exact (psds_cons (psd_if (pt_notD (pt_valD (pd_call G_is_on hr (by decide) rfl (pd_cons (pd_var (pv 0)) (pd_cons (pd_var (pv 1)) pd_nil))))) (psds_one (psd_raise hM rfl hC_OffGround hx_OffGround rfl (pd_cons pd_str pd_nil) (fun _ _ _ h => h _))) psds_nil)
    (psds_cons (psd_set (i := 2) sc_ground_at.nd rfl (Or.inl rfl) (pd_fld (pd_var (pv 0)) rfl))
    (psds_cons (psd_set (i := 3) sc_ground_at.nd rfl (Or.inl rfl) pd_int)
    (psds_cons (psd_while PassesOwn.leaving (pt_valD (pd_call G_less hr (by decide) rfl (pd_cons (pd_tup (pd_cons (pd_ix (pd_ix (pd_var (pv 2)) (pd_var (pv 3)) (fun _ _ => rfl)) pd_int (fun _ _ => rfl)) (pd_cons pd_int pd_nil))) (pd_cons (pd_var (pv 1)) pd_nil)))) (psds_one (psd_aug (i := 3) sc_ground_at.nd rfl (Or.inl rfl) pd_int)))
    (psds_one (psd_ret (pd_call G_height_on hr (by decide) rfl (pd_cons (pd_ix (pd_var (pv 2)) (pd_sub (pd_var (pv 3)) pd_int) (fun _ _ => rfl)) (pd_cons (pd_ix (pd_var (pv 2)) (pd_var (pv 3)) (fun _ _ => rfl)) (pd_cons (pd_var (pv 1)) pd_nil))))))))))
theorem sc_stands : FnScope ["ground", "spot", "place"] ["ground", "spot"] (defScope s_stands) := ⟨rfl, rfl, rfl, by decide +kernel, rfl, by decide +kernel, by decide +kernel⟩
theorem ok_stands (F : Fun K "stands" "stands" s_stands f fd) (G_is_on : Got P w K mg base 2 "is_on" ["ground", "place"] (upF K Dp.sp_is_on)) (G_ground_at : GotX P w K mg base 4 "ground_at" ["ground", "place"] (upFX K Dp.sp_ground_at)) (G_less : Got P w K mg base 1 "less" ["one", "other"] (upF K Dp.sp_less)) : FnOk P w K mg base CX0 5 f fd ["ground", "spot"] (upF K Dp.sp_stands) := by
  refine fn_deep (b := Dp.b_stands) F sc_stands Dp.len_stands Dp.bo_stands (fun cdv A outer s H E hr => ?_)
  unfold Dp.b_stands
  exact (psds_cons (psd_set (i := 2) sc_stands.nd rfl (Or.inl rfl) (pd_tup (pd_cons (pd_ix (pd_var (pv 1)) pd_int (fun _ _ => rfl)) (pd_cons pd_int pd_nil))))
    (psds_cons (psd_if (pt_notD (pt_valD (pd_call G_is_on hr (by decide) rfl (pd_cons (pd_var (pv 0)) (pd_cons (pd_var (pv 2)) pd_nil))))) (psds_one (psd_ret pd_bl)) psds_nil)
    (psds_one (psd_ret (pd_notV (pd_call G_less hr (by decide) rfl (pd_cons (pd_tup (pd_cons (pd_ix (pd_var (pv 1)) pd_int (fun _ _ => rfl)) (pd_cons pd_int pd_nil))) (pd_cons (pd_callX G_ground_at xok_F hr (by decide) rfl (pd_cons (pd_var (pv 0)) (pd_cons (pd_var (pv 2)) pd_nil))) pd_nil))))))))
theorem sc_refuse_not_standing : FnScope ["ground", "spot"] ["ground", "spot"] (defScope s_refuse_not_standing) := ⟨rfl, rfl, rfl, by decide +kernel, rfl, by decide +kernel, by decide +kernel⟩
theorem ok_refuse_not_standing (F : Fun K "refuse_not_standing" "refuse_not_standing" s_refuse_not_standing f fd) (G_stands : Got P w K mg base 5 "stands" ["ground", "spot"] (upF K Dp.sp_stands)) (hC_OffGround : ∀ C, PySem.W.nsIn K mainGlobals "OffGround" = some (some (.ref C)) → ExC K C) (hx_OffGround : ∃ C, PySem.W.nsIn K mainGlobals "OffGround" = some (some (.ref C)) ∧ mg "OffGround" = some (.ref C)) : FnOk P w K mg base (CXd P w) 6 f fd ["ground", "spot"] (upFX K Dp.sp_refuse_not_standing) := by
  refine fn_deepX (b := Dp.b_refuse_not_standing) F sc_refuse_not_standing Dp.len_refuse_not_standing Dp.bo_refuse_not_standing (fun cdv A outer s H E hr _ ex hX hM => ?_)
  unfold Dp.b_refuse_not_standing
  exact (psds_one (psd_if (pt_notD (pt_valD (pd_call G_stands hr (by decide) rfl (pd_cons (pd_var (pv 0)) (pd_cons (pd_var (pv 1)) pd_nil))))) (psds_one (psd_raise hM rfl hC_OffGround hx_OffGround rfl (pd_cons pd_str pd_nil) (fun _ _ _ h => h _))) psds_nil))
theorem sc_side_of : FnScope ["one", "other", "spot", "run", "rise", "over"] ["one", "other", "spot"] (defScope s_side_of) := ⟨rfl, rfl, rfl, by decide +kernel, rfl, by decide +kernel, by decide +kernel⟩
theorem ok_side_of (F : Fun K "side_of" "side_of" s_side_of f fd) : FnOk P w K mg base CX0 1 f fd ["one", "other", "spot"] (upF K Dp.sp_side_of) := by
  refine fn_deep (b := Dp.b_side_of) F sc_side_of Dp.len_side_of Dp.bo_side_of (fun cdv A outer s H E hr => ?_)
  unfold Dp.b_side_of
  exact (psds_cons (psd_set (i := 3) sc_side_of.nd rfl (Or.inl rfl) (pd_sub (pd_ix (pd_var (pv 1)) pd_int (fun _ _ => rfl)) (pd_ix (pd_var (pv 0)) pd_int (fun _ _ => rfl))))
    (psds_cons (psd_set (i := 4) sc_side_of.nd rfl (Or.inl rfl) (pd_sub (pd_ix (pd_var (pv 1)) pd_int (fun _ _ => rfl)) (pd_ix (pd_var (pv 0)) pd_int (fun _ _ => rfl))))
    (psds_cons (psd_set (i := 5) sc_side_of.nd rfl (Or.inl rfl) (pd_sub (pd_mul (pd_sub (pd_ix (pd_var (pv 2)) pd_int (fun _ _ => rfl)) (pd_ix (pd_var (pv 0)) pd_int (fun _ _ => rfl))) (pd_var (pv 3))) (pd_mul (pd_sub (pd_ix (pd_var (pv 2)) pd_int (fun _ _ => rfl)) (pd_ix (pd_var (pv 0)) pd_int (fun _ _ => rfl))) (pd_var (pv 4)))))
    (psds_cons (psd_J (psd_if (pt_cmpD od_Lt (pd_var (pv 3)) pd_int) (psds_one (psd_set (i := 5) sc_side_of.nd rfl (Or.inl rfl) (pd_neg (pd_var (pv 5))))) psds_nil))
    (psds_cons (psd_if (pt_cmpD od_Gt (pd_var (pv 5)) pd_int) (psds_one (psd_ret pd_int)) psds_nil)
    (psds_cons (psd_if (pt_cmpD od_Lt (pd_var (pv 5)) pd_int) (psds_one (psd_ret (pd_neg pd_int))) psds_nil)
    (psds_one (psd_ret pd_int))))))))
theorem sc_crossing : FnScope ["one", "other", "three", "four", "run", "rise", "second_run", "second_rise", "bottom", "top"] ["one", "other", "three", "four"] (defScope s_crossing) := ⟨rfl, rfl, rfl, by decide +kernel, rfl, by decide +kernel, by decide +kernel⟩
theorem ok_crossing (F : Fun K "crossing" "crossing" s_crossing f fd) (G_fraction : Got P w K mg base 2 "fraction" ["top", "bottom"] (upF K Dp.sp_fraction)) : FnOk P w K mg base CX0 3 f fd ["one", "other", "three", "four"] (upF K Dp.sp_crossing) := by
  refine fn_deep (b := Dp.b_crossing) F sc_crossing Dp.len_crossing Dp.bo_crossing (fun cdv A outer s H E hr => ?_)
  unfold Dp.b_crossing
  exact (psds_cons (psd_set (i := 4) sc_crossing.nd rfl (Or.inl rfl) (pd_sub (pd_ix (pd_var (pv 1)) pd_int (fun _ _ => rfl)) (pd_ix (pd_var (pv 0)) pd_int (fun _ _ => rfl))))
    (psds_cons (psd_set (i := 5) sc_crossing.nd rfl (Or.inl rfl) (pd_sub (pd_ix (pd_var (pv 1)) pd_int (fun _ _ => rfl)) (pd_ix (pd_var (pv 0)) pd_int (fun _ _ => rfl))))
    (psds_cons (psd_set (i := 6) sc_crossing.nd rfl (Or.inl rfl) (pd_sub (pd_ix (pd_var (pv 3)) pd_int (fun _ _ => rfl)) (pd_ix (pd_var (pv 2)) pd_int (fun _ _ => rfl))))
    (psds_cons (psd_set (i := 7) sc_crossing.nd rfl (Or.inl rfl) (pd_sub (pd_ix (pd_var (pv 3)) pd_int (fun _ _ => rfl)) (pd_ix (pd_var (pv 2)) pd_int (fun _ _ => rfl))))
    (psds_cons (psd_set (i := 8) sc_crossing.nd rfl (Or.inl rfl) (pd_sub (pd_mul (pd_var (pv 5)) (pd_var (pv 6))) (pd_mul (pd_var (pv 7)) (pd_var (pv 4)))))
    (psds_cons (psd_if (pt_cmpD (od_Eq hr) (pd_var (pv 8)) pd_int) (psds_one (psd_ret pd_non)) psds_nil)
    (psds_cons (psd_set (i := 9) sc_crossing.nd rfl (Or.inl rfl) (pd_mul (pd_mul (pd_sub (pd_ix (pd_var (pv 2)) pd_int (fun _ _ => rfl)) (pd_ix (pd_var (pv 0)) pd_int (fun _ _ => rfl))) (pd_var (pv 4))) (pd_var (pv 6))))
    (psds_cons (psd_set (i := 9) sc_crossing.nd rfl (Or.inl rfl) (pd_sub (pd_add (pd_var (pv 9)) (pd_mul (pd_mul (pd_ix (pd_var (pv 0)) pd_int (fun _ _ => rfl)) (pd_var (pv 5))) (pd_var (pv 6)))) (pd_mul (pd_mul (pd_ix (pd_var (pv 2)) pd_int (fun _ _ => rfl)) (pd_var (pv 7))) (pd_var (pv 4)))))
    (psds_one (psd_ret (pd_call G_fraction hr (by decide) rfl (pd_cons (pd_var (pv 9)) (pd_cons (pd_var (pv 8)) pd_nil)))))))))))))
theorem sc_first_seen : FnScope ["spot", "highest", "near", "far", "place"] ["spot", "highest", "near", "far"] (defScope s_first_seen) := ⟨rfl, rfl, rfl, by decide +kernel, rfl, by decide +kernel, by decide +kernel⟩
theorem ok_first_seen (F : Fun K "first_seen" "first_seen" s_first_seen f fd) (G_crossing : Got P w K mg base 3 "crossing" ["one", "other", "three", "four"] (upF K Dp.sp_crossing)) : FnOk P w K mg base CX0 4 f fd ["spot", "highest", "near", "far"] (upF K Dp.sp_first_seen) := by
  refine fn_deep (b := Dp.b_first_seen) F sc_first_seen Dp.len_first_seen Dp.bo_first_seen (fun cdv A outer s H E hr => ?_)
  unfold Dp.b_first_seen
  exact (psds_cons (psd_set (i := 4) sc_first_seen.nd rfl (Or.inl rfl) (pd_call G_crossing hr (by decide) rfl (pd_cons (pd_var (pv 0)) (pd_cons (pd_var (pv 1)) (pd_cons (pd_var (pv 2)) (pd_cons (pd_var (pv 3)) pd_nil))))))
    (psds_cons (psd_if (pt_cmpD od_Is (pd_var (pv 4)) pd_non) (psds_one (psd_ret (pd_tup (pd_cons (pd_ix (pd_var (pv 2)) pd_int (fun _ _ => rfl)) (pd_cons pd_int pd_nil))))) psds_nil)
    (psds_one (psd_ret (pd_var (pv 4))))))
theorem sc_seen_outward : FnScope ["spot", "corners", "near", "highest", "found", "far"] ["spot", "corners"] (defScope s_seen_outward) := ⟨rfl, rfl, rfl, by decide +kernel, rfl, by decide +kernel, by decide +kernel⟩
theorem ok_seen_outward (F : Fun K "seen_outward" "seen_outward" s_seen_outward f fd) (G_side_of : Got P w K mg base 1 "side_of" ["one", "other", "spot"] (upF K Dp.sp_side_of)) (G_first_seen : Got P w K mg base 4 "first_seen" ["spot", "highest", "near", "far"] (upF K Dp.sp_first_seen)) (m_len : mg "len" = none) : FnOk P w K mg base CX0 5 f fd ["spot", "corners"] (upF K Dp.sp_seen_outward) := by
  refine fn_deep (b := Dp.b_seen_outward) F sc_seen_outward Dp.len_seen_outward Dp.bo_seen_outward (fun cdv A outer s H E hr => ?_)
  unfold Dp.b_seen_outward
  exact (psds_cons (psd_if (pt_cmpD (od_Eq hr) (pd_b bd_Len rfl m_len boot_len (pd_cons (pd_var (pv 1)) pd_nil)) pd_int) (psds_one (psd_ret (pd_lst pd_nil))) psds_nil)
    (psds_cons (psd_set (i := 2) sc_seen_outward.nd rfl (Or.inl rfl) (pd_ix (pd_var (pv 1)) pd_int (fun _ _ => rfl)))
    (psds_cons (psd_set (i := 3) sc_seen_outward.nd rfl (Or.inl rfl) (pd_var (pv 2)))
    (psds_cons (psd_set (i := 4) sc_seen_outward.nd rfl (Or.inl rfl) (pd_lst (pd_cons (pd_tup (pd_cons (pd_tup (pd_cons (pd_ix (pd_var (pv 0)) pd_int (fun _ _ => rfl)) (pd_cons pd_int pd_nil))) (pd_cons (pd_tup (pd_cons (pd_ix (pd_var (pv 2)) pd_int (fun _ _ => rfl)) (pd_cons pd_int pd_nil))) pd_nil))) pd_nil)))
    (psds_cons (psd_for PassesOwn.never rfl (id_seq (pd_sl (pd_var (pv 1)) (pd_opt1 pd_int) pd_opt0)) (pgd_name (i := 5) sc_seen_outward.nd rfl (Or.inl rfl)) (psds_cons (psd_J (psd_if (pt_cmpD od_Ge (pd_call G_side_of hr (by decide) rfl (pd_cons (pd_var (pv 0)) (pd_cons (pd_var (pv 3)) (pd_cons (pd_var (pv 5)) pd_nil)))) pd_int) (psds_cons (psd_expr (pd_m PySem.F.slot_list_append PySem.F.type_list_append md_append (pd_var (pv 4)) (pd_cons (pd_tup (pd_cons (pd_call G_first_seen hr (by decide) rfl (pd_cons (pd_var (pv 0)) (pd_cons (pd_var (pv 3)) (pd_cons (pd_var (pv 2)) (pd_cons (pd_var (pv 5)) pd_nil))))) (pd_cons (pd_tup (pd_cons (pd_ix (pd_var (pv 5)) pd_int (fun _ _ => rfl)) (pd_cons pd_int pd_nil))) pd_nil))) pd_nil)))
    (psds_one (psd_set (i := 3) sc_seen_outward.nd rfl (Or.inl rfl) (pd_var (pv 5))))) psds_nil))
    (psds_one (psd_set (i := 2) sc_seen_outward.nd rfl (Or.inl rfl) (pd_var (pv 5))))))
    (psds_one (psd_ret (pd_var (pv 4)))))))))
theorem sc_lesser : FnScope ["one", "other"] ["one", "other"] (defScope s_lesser) := ⟨rfl, rfl, rfl, by decide +kernel, rfl, by decide +kernel, by decide +kernel⟩
theorem ok_lesser (F : Fun K "lesser" "lesser" s_lesser f fd) (G_less : Got P w K mg base 1 "less" ["one", "other"] (upF K Dp.sp_less)) : FnOk P w K mg base CX0 2 f fd ["one", "other"] (upF K Dp.sp_lesser) := by
  refine fn_deep (b := Dp.b_lesser) F sc_lesser Dp.len_lesser Dp.bo_lesser (fun cdv A outer s H E hr => ?_)
  unfold Dp.b_lesser
  exact (psds_one (psd_ret (pd_ifE (pt_valD (pd_call G_less hr (by decide) rfl (pd_cons (pd_var (pv 0)) (pd_cons (pd_var (pv 1)) pd_nil)))) (pd_var (pv 0)) (pd_var (pv 1)))))
theorem sc_greater : FnScope ["one", "other"] ["one", "other"] (defScope s_greater) := ⟨rfl, rfl, rfl, by decide +kernel, rfl, by decide +kernel, by decide +kernel⟩
theorem ok_greater (F : Fun K "greater" "greater" s_greater f fd) (G_less : Got P w K mg base 1 "less" ["one", "other"] (upF K Dp.sp_less)) : FnOk P w K mg base CX0 2 f fd ["one", "other"] (upF K Dp.sp_greater) := by
  refine fn_deep (b := Dp.b_greater) F sc_greater Dp.len_greater Dp.bo_greater (fun cdv A outer s H E hr => ?_)
  unfold Dp.b_greater
  exact (psds_one (psd_ret (pd_ifE (pt_valD (pd_call G_less hr (by decide) rfl (pd_cons (pd_var (pv 0)) (pd_cons (pd_var (pv 1)) pd_nil)))) (pd_var (pv 1)) (pd_var (pv 0)))))
theorem sc_with_stretch : FnScope ["stretches", "low", "high", "ahead", "behind", "touched"] ["stretches", "low", "high"] (defScope s_with_stretch) := ⟨rfl, rfl, rfl, by decide +kernel, rfl, by decide +kernel, by decide +kernel⟩
theorem ok_with_stretch (F : Fun K "with_stretch" "with_stretch" s_with_stretch f fd) (G_less : Got P w K mg base 1 "less" ["one", "other"] (upF K Dp.sp_less)) (G_lesser : Got P w K mg base 2 "lesser" ["one", "other"] (upF K Dp.sp_lesser)) (G_greater : Got P w K mg base 2 "greater" ["one", "other"] (upF K Dp.sp_greater)) (m_len : mg "len" = none) (m_tuple : mg "tuple" = none) : FnOk P w K mg base CX0 3 f fd ["stretches", "low", "high"] (upF K Dp.sp_with_stretch) := by
  refine fn_deep (b := Dp.b_with_stretch) F sc_with_stretch Dp.len_with_stretch Dp.bo_with_stretch (fun cdv A outer s H E hr => ?_)
  unfold Dp.b_with_stretch
  exact (psds_cons (psd_setC (i := 3) sc_with_stretch.nd rfl rfl (own := ["pair"]) (free := ["low"]) (fv := [1]) rfl rfl rfl (by decide +kernel) (by decide +kernel) ⟨rfl, True.intro⟩ ⟨rfl, rfl, rfl, True.intro⟩ (id_seq (pd_var (pv 0))) ⟨(grel_name 0 (by decide)), fun _ _ _ _ _ => (pg_name (i := 0) (show List.Nodup (["pair", "low"] : List Str) by decide +kernel) rfl (Or.inl rfl) (Or.inr rfl))⟩ (fun _ _ _ _ _ => (pfd_one (pt_valD (pd_call G_less hr (by decide) rfl (pd_cons (pd_ix (pd_var (pv 0)) pd_int (fun _ _ => rfl)) (pd_cons (pd_var (pv 1)) pd_nil)))))) (fun _ _ _ _ _ => (pd_var (pv 0))))
    (psds_cons (psd_setC (i := 4) sc_with_stretch.nd rfl rfl (own := ["pair"]) (free := ["high"]) (fv := [2]) rfl rfl rfl (by decide +kernel) (by decide +kernel) ⟨rfl, True.intro⟩ ⟨rfl, rfl, rfl, True.intro⟩ (id_seq (pd_var (pv 0))) ⟨(grel_name 0 (by decide)), fun _ _ _ _ _ => (pg_name (i := 0) (show List.Nodup (["pair", "high"] : List Str) by decide +kernel) rfl (Or.inl rfl) (Or.inr rfl))⟩ (fun _ _ _ _ _ => (pfd_one (pt_valD (pd_call G_less hr (by decide) rfl (pd_cons (pd_var (pv 1)) (pd_cons (pd_ix (pd_var (pv 0)) pd_int (fun _ _ => rfl)) pd_nil)))))) (fun _ _ _ _ _ => (pd_var (pv 0))))
    (psds_cons (psd_set (i := 5) sc_with_stretch.nd rfl (Or.inl rfl) (pd_sl (pd_var (pv 0)) (pd_opt1 (pd_b bd_Len rfl m_len boot_len (pd_cons (pd_var (pv 3)) pd_nil))) (pd_opt1 (pd_sub (pd_b bd_Len rfl m_len boot_len (pd_cons (pd_var (pv 0)) pd_nil)) (pd_b bd_Len rfl m_len boot_len (pd_cons (pd_var (pv 4)) pd_nil))))))
    (psds_cons (psd_J (psd_if (pt_cmpD od_Gt (pd_b bd_Len rfl m_len boot_len (pd_cons (pd_var (pv 5)) pd_nil)) pd_int) (psds_cons (psd_set (i := 1) sc_with_stretch.nd rfl (Or.inr rfl) (pd_call G_lesser hr (by decide) rfl (pd_cons (pd_var (pv 1)) (pd_cons (pd_ix (pd_ix (pd_var (pv 5)) pd_int (fun _ _ => rfl)) pd_int (fun _ _ => rfl)) pd_nil))))
    (psds_one (psd_set (i := 2) sc_with_stretch.nd rfl (Or.inr rfl) (pd_call G_greater hr (by decide) rfl (pd_cons (pd_var (pv 2)) (pd_cons (pd_ix (pd_ix (pd_var (pv 5)) (pd_neg pd_int) (fun _ _ => rfl)) pd_int (fun _ _ => rfl)) pd_nil)))))) psds_nil))
    (psds_one (psd_ret (pd_bt bd_Tuple rfl m_tuple boot_tuple (pd_cons (pd_add (pd_add (pd_var (pv 3)) (pd_lst (pd_cons (pd_tup (pd_cons (pd_var (pv 1)) (pd_cons (pd_var (pv 2)) pd_nil))) pd_nil))) (pd_var (pv 4))) pd_nil))))))))
theorem sc_seen : FnScope ["ground", "spot", "own", "found", "left_corners", "near", "far", "right_corners"] ["ground", "spot"] (defScope s_seen) := ⟨rfl, rfl, rfl, by decide +kernel, rfl, by decide +kernel, by decide +kernel⟩
theorem ok_seen (F : Fun K "seen" "seen" s_seen f fd) (G_refuse_not_standing : GotX P w K mg base 6 "refuse_not_standing" ["ground", "spot"] (upFX K Dp.sp_refuse_not_standing)) (G_seen_outward : Got P w K mg base 5 "seen_outward" ["spot", "corners"] (upF K Dp.sp_seen_outward)) (G_with_stretch : Got P w K mg base 3 "with_stretch" ["stretches", "low", "high"] (upF K Dp.sp_with_stretch)) : FnOk P w K mg base (CXd P w) 7 f fd ["ground", "spot"] (upFX K Dp.sp_seen) := by
  refine fn_deepX (b := Dp.b_seen) F sc_seen Dp.len_seen Dp.bo_seen (fun cdv A outer s H E hr _ ex hX hM => ?_)
  unfold Dp.b_seen
  exact (psds_cons (psd_expr (pd_callX G_refuse_not_standing hX hr (by decide) rfl (pd_cons (pd_var (pv 0)) (pd_cons (pd_var (pv 1)) pd_nil))))
    (psds_cons (psd_set (i := 2) sc_seen.nd rfl (Or.inl rfl) (pd_tup (pd_cons (pd_ix (pd_var (pv 1)) pd_int (fun _ _ => rfl)) (pd_cons pd_int pd_nil))))
    (psds_cons (psd_set (i := 3) sc_seen.nd rfl (Or.inl rfl) (pd_tup (pd_cons (pd_tup (pd_cons (pd_var (pv 2)) (pd_cons (pd_var (pv 2)) pd_nil))) pd_nil)))
    (psds_cons (psd_calm (psd_setC (i := 4) sc_seen.nd rfl rfl (own := ["corner"]) (free := ["spot"]) (fv := [1]) rfl rfl rfl (by decide +kernel) (by decide +kernel) ⟨rfl, True.intro⟩ ⟨rfl, rfl, rfl, True.intro⟩ (id_seq (pd_fld (pd_var (pv 0)) rfl)) ⟨(grel_name 0 (by decide)), fun _ _ _ _ _ => (pg_name (i := 0) (show List.Nodup (["corner", "spot"] : List Str) by decide +kernel) rfl (Or.inl rfl) (Or.inr rfl))⟩ (fun _ _ _ _ _ => (pfd_one (pt_cmpD od_Lt (pd_ix (pd_var (pv 0)) pd_int (fun _ _ => rfl)) (pd_ix (pd_var (pv 1)) pd_int (fun _ _ => rfl))))) (fun _ _ _ _ _ => (pd_var (pv 0)))))
    (psds_cons (psd_expr (pd_m0 PySem.F.slot_list_reverse PySem.F.type_list_reverse md_reverse (pd_var (pv 4))))
    (psds_cons (psd_for PassesOwn.leaving rfl (id_seq (pd_call G_seen_outward hr (by decide) rfl (pd_cons (pd_var (pv 1)) (pd_cons (pd_var (pv 4)) pd_nil)))) (pgd_tup (n := 2) rfl (pgd_cons (pgd_name (i := 5) sc_seen.nd rfl (Or.inl rfl)) (pgd_cons (pgd_name (i := 6) sc_seen.nd rfl (Or.inl rfl)) pgd_nil))) (psds_one (psd_set (i := 3) sc_seen.nd rfl (Or.inl rfl) (pd_call G_with_stretch hr (by decide) rfl (pd_cons (pd_var (pv 3)) (pd_cons (pd_var (pv 6)) (pd_cons (pd_var (pv 5)) pd_nil)))))))
    (psds_cons (psd_calm (psd_setC (i := 7) sc_seen.nd rfl rfl (own := ["corner"]) (free := ["spot"]) (fv := [1]) rfl rfl rfl (by decide +kernel) (by decide +kernel) ⟨rfl, True.intro⟩ ⟨rfl, rfl, rfl, True.intro⟩ (id_seq (pd_fld (pd_var (pv 0)) rfl)) ⟨(grel_name 0 (by decide)), fun _ _ _ _ _ => (pg_name (i := 0) (show List.Nodup (["corner", "spot"] : List Str) by decide +kernel) rfl (Or.inl rfl) (Or.inr rfl))⟩ (fun _ _ _ _ _ => (pfd_one (pt_cmpD od_Gt (pd_ix (pd_var (pv 0)) pd_int (fun _ _ => rfl)) (pd_ix (pd_var (pv 1)) pd_int (fun _ _ => rfl))))) (fun _ _ _ _ _ => (pd_var (pv 0)))))
    (psds_cons (psd_for PassesOwn.leaving rfl (id_seq (pd_call G_seen_outward hr (by decide) rfl (pd_cons (pd_var (pv 1)) (pd_cons (pd_var (pv 7)) pd_nil)))) (pgd_tup (n := 2) rfl (pgd_cons (pgd_name (i := 5) sc_seen.nd rfl (Or.inl rfl)) (pgd_cons (pgd_name (i := 6) sc_seen.nd rfl (Or.inl rfl)) pgd_nil))) (psds_one (psd_set (i := 3) sc_seen.nd rfl (Or.inl rfl) (pd_call G_with_stretch hr (by decide) rfl (pd_cons (pd_var (pv 3)) (pd_cons (pd_var (pv 5)) (pd_cons (pd_var (pv 6)) pd_nil)))))))
    (psds_one (psd_ret (pd_var (pv 3))))))))))))
theorem sc_joined : FnScope ["one", "other", "found", "low", "high"] ["one", "other"] (defScope s_joined) := ⟨rfl, rfl, rfl, by decide +kernel, rfl, by decide +kernel, by decide +kernel⟩
theorem ok_joined (F : Fun K "joined" "joined" s_joined f fd) (G_with_stretch : Got P w K mg base 3 "with_stretch" ["stretches", "low", "high"] (upF K Dp.sp_with_stretch)) : FnOk P w K mg base CX0 4 f fd ["one", "other"] (upF K Dp.sp_joined) := by
  refine fn_deep (b := Dp.b_joined) F sc_joined Dp.len_joined Dp.bo_joined (fun cdv A outer s H E hr => ?_)
  unfold Dp.b_joined
  exact (psds_cons (psd_set (i := 2) sc_joined.nd rfl (Or.inl rfl) (pd_var (pv 0)))
    (psds_cons (psd_for PassesOwn.never rfl (id_seq (pd_var (pv 1))) (pgd_tup (n := 2) rfl (pgd_cons (pgd_name (i := 3) sc_joined.nd rfl (Or.inl rfl)) (pgd_cons (pgd_name (i := 4) sc_joined.nd rfl (Or.inl rfl)) pgd_nil))) (psds_one (psd_set (i := 2) sc_joined.nd rfl (Or.inl rfl) (pd_call G_with_stretch hr (by decide) rfl (pd_cons (pd_var (pv 2)) (pd_cons (pd_var (pv 3)) (pd_cons (pd_var (pv 4)) pd_nil)))))))
    (psds_one (psd_ret (pd_var (pv 2))))))
theorem sc_watched : FnScope ["ground", "spots", "found", "spot"] ["ground", "spots"] (defScope s_watched) := ⟨rfl, rfl, rfl, by decide +kernel, rfl, by decide +kernel, by decide +kernel⟩
theorem ok_watched (F : Fun K "watched" "watched" s_watched f fd) (G_seen : GotX P w K mg base 7 "seen" ["ground", "spot"] (upFX K Dp.sp_seen)) (G_joined : Got P w K mg base 4 "joined" ["one", "other"] (upF K Dp.sp_joined)) : FnOk P w K mg base (CXd P w) 8 f fd ["ground", "spots"] (upFX K Dp.sp_watched) := by
  refine fn_deepX (b := Dp.b_watched) F sc_watched Dp.len_watched Dp.bo_watched (fun cdv A outer s H E hr _ ex hX hM => ?_)
  unfold Dp.b_watched
  exact (psds_cons (psd_set (i := 2) sc_watched.nd rfl (Or.inl rfl) (pd_tup pd_nil))
    (psds_cons (psd_for PassesOwn.leaving rfl (id_seq (pd_var (pv 1))) (pgd_name (i := 3) sc_watched.nd rfl (Or.inl rfl)) (psds_one (psd_set (i := 2) sc_watched.nd rfl (Or.inl rfl) (pd_call G_joined hr (by decide) rfl (pd_cons (pd_var (pv 2)) (pd_cons (pd_callX G_seen hX hr (by decide) rfl (pd_cons (pd_var (pv 0)) (pd_cons (pd_var (pv 3)) pd_nil))) pd_nil))))))
    (psds_one (psd_ret (pd_var (pv 2))))))
theorem sc_holds_place : FnScope ["stretches", "place"] ["stretches", "place"] (defScope s_holds_place) := ⟨rfl, rfl, rfl, by decide +kernel, rfl, by decide +kernel, by decide +kernel⟩
theorem ok_holds_place (F : Fun K "holds_place" "holds_place" s_holds_place f fd) (G_less : Got P w K mg base 1 "less" ["one", "other"] (upF K Dp.sp_less)) (m_any : mg "any" = none) : FnOk P w K mg base CX0 2 f fd ["stretches", "place"] (upF K Dp.sp_holds_place) := by
  refine fn_deep (b := Dp.b_holds_place) F sc_holds_place Dp.len_holds_place Dp.bo_holds_place (fun cdv A outer s H E hr => ?_)
  unfold Dp.b_holds_place
  exact (psds_one (psd_ret (pd_b bd_Any rfl m_any boot_any (pd_cons (pd_lc (own := ["low", "high"]) (free := ["place"]) (fv := [1]) rfl rfl rfl (by decide +kernel) (by decide +kernel) ⟨rfl, True.intro⟩ ⟨rfl, rfl, rfl, True.intro⟩ (id_seq (pd_var (pv 0))) ⟨(grel_tup (gsrel_cons (grel_name 0 (by decide)) (gsrel_cons (grel_name 1 (by decide)) gsrel_nil))), fun _ _ _ _ _ => (pg_tup (n := 2) rfl (pgs_cons (pg_name (i := 0) (show List.Nodup (["low", "high", "place"] : List Str) by decide +kernel) rfl (Or.inl rfl) (Or.inr rfl)) (pgs_cons (pg_name (i := 1) (show List.Nodup (["low", "high", "place"] : List Str) by decide +kernel) rfl (Or.inl rfl) (Or.inr rfl)) pgs_nil)))⟩ (fun _ _ _ _ _ => pfd_nil) (fun _ _ _ _ _ => (pd_andV (pd_notV (pd_call G_less hr (by decide) rfl (pd_cons (pd_var (pv 2)) (pd_cons (pd_var (pv 0)) pd_nil)))) (pd_one (pd_notV (pd_call G_less hr (by decide) rfl (pd_cons (pd_var (pv 1)) (pd_cons (pd_var (pv 2)) pd_nil)))))))) pd_nil))))
theorem sc_numbers_between : FnScope ["ground", "x", "other_x", "low", "high"] ["ground", "x", "other_x"] (defScope s_numbers_between) := ⟨rfl, rfl, rfl, by decide +kernel, rfl, by decide +kernel, by decide +kernel⟩
theorem ok_numbers_between (F : Fun K "numbers_between" "numbers_between" s_numbers_between f fd) (m_min : mg "min" = none) (m_max : mg "max" = none) (m_enumerate : mg "enumerate" = none) : FnOk P w K mg base CX0 1 f fd ["ground", "x", "other_x"] (upF K Dp.sp_numbers_between) := by
  refine fn_deep (b := Dp.b_numbers_between) F sc_numbers_between Dp.len_numbers_between Dp.bo_numbers_between (fun cdv A outer s H E hr => ?_)
  unfold Dp.b_numbers_between
  exact (psds_cons (psd_set (i := 3) sc_numbers_between.nd rfl (Or.inr rfl) (pd_b bd_Min2 rfl m_min boot_min (pd_cons (pd_var (pv 1)) (pd_cons (pd_var (pv 2)) pd_nil))))
    (psds_cons (psd_set (i := 4) sc_numbers_between.nd rfl (Or.inr rfl) (pd_b bd_Max2 rfl m_max boot_max (pd_cons (pd_var (pv 1)) (pd_cons (pd_var (pv 2)) pd_nil))))
    (psds_one (psd_ret (pd_lc (own := ["k", "corner"]) (free := ["low", "high"]) (fv := [3, 4]) rfl rfl rfl (by decide +kernel) (by decide +kernel) ⟨rfl, rfl, True.intro⟩ ⟨rfl, rfl, rfl, rfl, rfl, rfl, True.intro⟩ (id_enumerate rfl m_enumerate (pd_cons (pd_fld (pd_var (pv 0)) rfl) pd_nil)) ⟨(grel_tup (gsrel_cons (grel_name 0 (by decide)) (gsrel_cons (grel_name 1 (by decide)) gsrel_nil))), fun _ _ _ _ _ => (pg_tup (n := 2) rfl (pgs_cons (pg_name (i := 0) (show List.Nodup (["k", "corner", "low", "high"] : List Str) by decide +kernel) rfl (Or.inl rfl) (Or.inr rfl)) (pgs_cons (pg_name (i := 1) (show List.Nodup (["k", "corner", "low", "high"] : List Str) by decide +kernel) rfl (Or.inl rfl) (Or.inr rfl)) pgs_nil)))⟩ (fun _ _ _ _ _ => (pfd_one (pt_chainD od_Lt od_Lt (pd_var (pv 2)) (pd_ix (pd_var (pv 1)) pd_int (fun _ _ => rfl)) (pd_var (pv 3))))) (fun _ _ _ _ _ => (pd_var (pv 0))))))))
theorem sc_hinder : FnScope ["ground", "one", "other", "k"] ["ground", "one", "other"] (defScope s_hinder) := ⟨rfl, rfl, rfl, by decide +kernel, rfl, by decide +kernel, by decide +kernel⟩
theorem ok_hinder (F : Fun K "hinder" "hinder" s_hinder f fd) (G_refuse_not_standing : GotX P w K mg base 6 "refuse_not_standing" ["ground", "spot"] (upFX K Dp.sp_refuse_not_standing)) (G_numbers_between : Got P w K mg base 1 "numbers_between" ["ground", "x", "other_x"] (upF K Dp.sp_numbers_between)) (G_side_of : Got P w K mg base 1 "side_of" ["one", "other", "spot"] (upF K Dp.sp_side_of)) : FnOk P w K mg base (CXd P w) 7 f fd ["ground", "one", "other"] (upFX K Dp.sp_hinder) := by
  refine fn_deepX (b := Dp.b_hinder) F sc_hinder Dp.len_hinder Dp.bo_hinder (fun cdv A outer s H E hr _ ex hX hM => ?_)
  unfold Dp.b_hinder
  exact (psds_cons (psd_expr (pd_callX G_refuse_not_standing hX hr (by decide) rfl (pd_cons (pd_var (pv 0)) (pd_cons (pd_var (pv 1)) pd_nil))))
    (psds_cons (psd_expr (pd_callX G_refuse_not_standing hX hr (by decide) rfl (pd_cons (pd_var (pv 0)) (pd_cons (pd_var (pv 2)) pd_nil))))
    (psds_cons (psd_for PassesOwn.leaving rfl (id_seq (pd_call G_numbers_between hr (by decide) rfl (pd_cons (pd_var (pv 0)) (pd_cons (pd_ix (pd_var (pv 1)) pd_int (fun _ _ => rfl)) (pd_cons (pd_ix (pd_var (pv 2)) pd_int (fun _ _ => rfl)) pd_nil))))) (pgd_name (i := 3) sc_hinder.nd rfl (Or.inl rfl)) (psds_one (psd_if (pt_cmpD od_Gt (pd_call G_side_of hr (by decide) rfl (pd_cons (pd_var (pv 1)) (pd_cons (pd_var (pv 2)) (pd_cons (pd_ix (pd_fld (pd_var (pv 0)) rfl) (pd_var (pv 3)) (fun _ _ => rfl)) pd_nil)))) pd_int) (psds_one (psd_ret (pd_var (pv 3)))) psds_nil)))
    (psds_one (psd_ret pd_non)))))
theorem sc_clear : FnScope ["ground", "one", "other"] ["ground", "one", "other"] (defScope s_clear) := ⟨rfl, rfl, rfl, by decide +kernel, rfl, by decide +kernel, by decide +kernel⟩
theorem ok_clear (F : Fun K "clear" "clear" s_clear f fd) (G_hinder : GotX P w K mg base 7 "hinder" ["ground", "one", "other"] (upFX K Dp.sp_hinder)) : FnOk P w K mg base (CXd P w) 8 f fd ["ground", "one", "other"] (upFX K Dp.sp_clear) := by
  refine fn_deepX (b := Dp.b_clear) F sc_clear Dp.len_clear Dp.bo_clear (fun cdv A outer s H E hr _ ex hX hM => ?_)
  unfold Dp.b_clear
  exact (psds_one (psd_ret (pd_cmp od_Is (pd_callX G_hinder hX hr (by decide) rfl (pd_cons (pd_var (pv 0)) (pd_cons (pd_var (pv 1)) (pd_cons (pd_var (pv 2)) pd_nil)))) pd_non)))
theorem sc_corners_between : FnScope ["ground", "place", "other_place", "low", "high"] ["ground", "place", "other_place"] (defScope s_corners_between) := ⟨rfl, rfl, rfl, by decide +kernel, rfl, by decide +kernel, by decide +kernel⟩
theorem ok_corners_between (F : Fun K "corners_between" "corners_between" s_corners_between f fd) (G_lesser : Got P w K mg base 2 "lesser" ["one", "other"] (upF K Dp.sp_lesser)) (G_greater : Got P w K mg base 2 "greater" ["one", "other"] (upF K Dp.sp_greater)) (G_less : Got P w K mg base 1 "less" ["one", "other"] (upF K Dp.sp_less)) : FnOk P w K mg base CX0 3 f fd ["ground", "place", "other_place"] (upF K Dp.sp_corners_between) := by
  refine fn_deep (b := Dp.b_corners_between) F sc_corners_between Dp.len_corners_between Dp.bo_corners_between (fun cdv A outer s H E hr => ?_)
  unfold Dp.b_corners_between
  exact (psds_cons (psd_set (i := 3) sc_corners_between.nd rfl (Or.inr rfl) (pd_call G_lesser hr (by decide) rfl (pd_cons (pd_var (pv 1)) (pd_cons (pd_var (pv 2)) pd_nil))))
    (psds_cons (psd_set (i := 4) sc_corners_between.nd rfl (Or.inr rfl) (pd_call G_greater hr (by decide) rfl (pd_cons (pd_var (pv 1)) (pd_cons (pd_var (pv 2)) pd_nil))))
    (psds_one (psd_ret (pd_lc (own := ["corner"]) (free := ["low", "high"]) (fv := [3, 4]) rfl rfl rfl (by decide +kernel) (by decide +kernel) ⟨rfl, rfl, True.intro⟩ ⟨rfl, rfl, rfl, rfl, rfl, rfl, True.intro⟩ (id_seq (pd_fld (pd_var (pv 0)) rfl)) ⟨(grel_name 0 (by decide)), fun _ _ _ _ _ => (pg_name (i := 0) (show List.Nodup (["corner", "low", "high"] : List Str) by decide +kernel) rfl (Or.inl rfl) (Or.inr rfl))⟩ (fun _ _ _ _ _ => (pfd_one (pw_ptD (pw_andD (pt_valD (pd_call G_less hr (by decide) rfl (pd_cons (pd_var (pv 1)) (pd_cons (pd_tup (pd_cons (pd_ix (pd_var (pv 0)) pd_int (fun _ _ => rfl)) (pd_cons pd_int pd_nil))) pd_nil)))) (pw_and1D (pt_valD (pd_call G_less hr (by decide) rfl (pd_cons (pd_tup (pd_cons (pd_ix (pd_var (pv 0)) pd_int (fun _ _ => rfl)) (pd_cons pd_int pd_nil))) (pd_cons (pd_var (pv 2)) pd_nil))))))))) (fun _ _ _ _ _ => (pd_var (pv 0))))))))
theorem sc_sees_place : FnScope ["ground", "spot", "place", "height", "corner"] ["ground", "spot", "place"] (defScope s_sees_place) := ⟨rfl, rfl, rfl, by decide +kernel, rfl, by decide +kernel, by decide +kernel⟩
theorem ok_sees_place (F : Fun K "sees_place" "sees_place" s_sees_place f fd) (G_refuse_not_standing : GotX P w K mg base 6 "refuse_not_standing" ["ground", "spot"] (upFX K Dp.sp_refuse_not_standing)) (G_ground_at : GotX P w K mg base 4 "ground_at" ["ground", "place"] (upFX K Dp.sp_ground_at)) (G_corners_between : Got P w K mg base 3 "corners_between" ["ground", "place", "other_place"] (upF K Dp.sp_corners_between)) (G_height_on : Got P w K mg base 3 "height_on" ["one", "other", "place"] (upF K Dp.sp_height_on)) (G_less : Got P w K mg base 1 "less" ["one", "other"] (upF K Dp.sp_less)) : FnOk P w K mg base (CXd P w) 7 f fd ["ground", "spot", "place"] (upFX K Dp.sp_sees_place) := by
  refine fn_deepX (b := Dp.b_sees_place) F sc_sees_place Dp.len_sees_place Dp.bo_sees_place (fun cdv A outer s H E hr _ ex hX hM => ?_)
  unfold Dp.b_sees_place
  exact (psds_cons (psd_expr (pd_callX G_refuse_not_standing hX hr (by decide) rfl (pd_cons (pd_var (pv 0)) (pd_cons (pd_var (pv 1)) pd_nil))))
    (psds_cons (psd_set (i := 3) sc_sees_place.nd rfl (Or.inl rfl) (pd_callX G_ground_at hX hr (by decide) rfl (pd_cons (pd_var (pv 0)) (pd_cons (pd_var (pv 2)) pd_nil))))
    (psds_cons (psd_for PassesOwn.leaving rfl (id_seq (pd_call G_corners_between hr (by decide) rfl (pd_cons (pd_var (pv 0)) (pd_cons (pd_tup (pd_cons (pd_ix (pd_var (pv 1)) pd_int (fun _ _ => rfl)) (pd_cons pd_int pd_nil))) (pd_cons (pd_var (pv 2)) pd_nil))))) (pgd_name (i := 4) sc_sees_place.nd rfl (Or.inl rfl)) (psds_one (psd_if (pt_valD (pd_call G_less hr (by decide) rfl (pd_cons (pd_var (pv 3)) (pd_cons (pd_call G_height_on hr (by decide) rfl (pd_cons (pd_var (pv 1)) (pd_cons (pd_var (pv 4)) (pd_cons (pd_var (pv 2)) pd_nil)))) pd_nil)))) (psds_one (psd_ret pd_bl)) psds_nil)))
    (psds_one (psd_ret pd_bl)))))
theorem sc_rope : FnScope ["ground", "one", "other", "path", "numbers", "spot"] ["ground", "one", "other"] (defScope s_rope) := ⟨rfl, rfl, rfl, by decide +kernel, rfl, by decide +kernel, by decide +kernel⟩
theorem ok_rope (F : Fun K "rope" "rope" s_rope f fd) (G_refuse_not_standing : GotX P w K mg base 6 "refuse_not_standing" ["ground", "spot"] (upFX K Dp.sp_refuse_not_standing)) (G_numbers_between : Got P w K mg base 1 "numbers_between" ["ground", "x", "other_x"] (upF K Dp.sp_numbers_between)) (G_side_of : Got P w K mg base 1 "side_of" ["one", "other", "spot"] (upF K Dp.sp_side_of)) (m_len : mg "len" = none) : FnOk P w K mg base (CXd P w) 7 f fd ["ground", "one", "other"] (upFX K Dp.sp_rope) := by
  refine fn_deepX (b := Dp.b_rope) F sc_rope Dp.len_rope Dp.bo_rope (fun cdv A outer s H E hr _ ex hX hM => ?_)
  unfold Dp.b_rope
  exact (psds_cons (psd_expr (pd_callX G_refuse_not_standing hX hr (by decide) rfl (pd_cons (pd_var (pv 0)) (pd_cons (pd_var (pv 1)) pd_nil))))
    (psds_cons (psd_expr (pd_callX G_refuse_not_standing hX hr (by decide) rfl (pd_cons (pd_var (pv 0)) (pd_cons (pd_var (pv 2)) pd_nil))))
    (psds_cons (psd_set (i := 3) sc_rope.nd rfl (Or.inl rfl) (pd_lst (pd_cons (pd_var (pv 1)) pd_nil)))
    (psds_cons (psd_set (i := 4) sc_rope.nd rfl (Or.inl rfl) (pd_call G_numbers_between hr (by decide) rfl (pd_cons (pd_var (pv 0)) (pd_cons (pd_ix (pd_var (pv 1)) pd_int (fun _ _ => rfl)) (pd_cons (pd_ix (pd_var (pv 2)) pd_int (fun _ _ => rfl)) pd_nil)))))
    (psds_cons (psd_J (psd_if (pt_cmpD od_Lt (pd_ix (pd_var (pv 2)) pd_int (fun _ _ => rfl)) (pd_ix (pd_var (pv 1)) pd_int (fun _ _ => rfl))) (psds_one (psd_expr (pd_m0 PySem.F.slot_list_reverse PySem.F.type_list_reverse md_reverse (pd_var (pv 4))))) psds_nil))
    (psds_cons (psd_for PassesOwn.leaving rfl (id_seq (pd_add (pd_calm (pd_lc (own := ["k"]) (free := ["ground"]) (fv := [0]) rfl rfl rfl (by decide +kernel) (by decide +kernel) ⟨rfl, True.intro⟩ ⟨rfl, rfl, rfl, True.intro⟩ (id_seq (pd_var (pv 4))) ⟨(grel_name 0 (by decide)), fun _ _ _ _ _ => (pg_name (i := 0) (show List.Nodup (["k", "ground"] : List Str) by decide +kernel) rfl (Or.inl rfl) (Or.inr rfl))⟩ (fun _ _ _ _ _ => pfd_nil) (fun _ _ _ _ _ => (pd_ix (pd_fld (pd_var (pv 1)) rfl) (pd_var (pv 0)) (fun _ _ => rfl))))) (pd_lst (pd_cons (pd_var (pv 2)) pd_nil)))) (pgd_name (i := 5) sc_rope.nd rfl (Or.inl rfl)) (psds_cons (psd_while PassesOwn.leaving (pw_ptD (pw_andD (pt_cmpD od_Gt (pd_b bd_Len rfl m_len boot_len (pd_cons (pd_var (pv 3)) pd_nil)) pd_int) (pw_and1D (pt_cmpD od_Le (pd_call G_side_of hr (by decide) rfl (pd_cons (pd_ix (pd_var (pv 3)) (pd_neg pd_int) (fun _ _ => rfl)) (pd_cons (pd_var (pv 5)) (pd_cons (pd_ix (pd_var (pv 3)) (pd_neg pd_int) (fun _ _ => rfl)) pd_nil)))) pd_int)))) (psds_one (psd_expr (pd_m0 PySem.F.slot_list_pop PySem.F.type_list_pop md_pop (pd_var (pv 3))))))
    (psds_one (psd_expr (pd_m PySem.F.slot_list_append PySem.F.type_list_append md_append (pd_var (pv 3)) (pd_cons (pd_var (pv 5)) pd_nil))))))
    (psds_one (psd_ret (pd_var (pv 3))))))))))
theorem sc_law_foot_good : FnScope ["ground", "spot", "foot", "held", "free", "place"] ["ground", "spot", "foot", "held"] (defScope s_law_foot_good) := ⟨rfl, rfl, rfl, by decide +kernel, rfl, by decide +kernel, by decide +kernel⟩
theorem ok_law_foot_good (F : Fun K "_law_foot_good" "_law_foot_good" s_law_foot_good f fd) (G_clear : GotX P w K mg base 8 "clear" ["ground", "one", "other"] (upFX K Dp.sp_clear)) (G_ground_at : GotX P w K mg base 4 "ground_at" ["ground", "place"] (upFX K Dp.sp_ground_at)) (G_sees_place : GotX P w K mg base 7 "sees_place" ["ground", "spot", "place"] (upFX K Dp.sp_sees_place)) (G_rope : GotX P w K mg base 7 "rope" ["ground", "one", "other"] (upFX K Dp.sp_rope)) (m_len : mg "len" = none) : FnOk P w K mg base CX0 9 f fd ["ground", "spot", "foot", "held"] (upF K Dp.sp_law_foot_good) := by
  refine fn_deep (b := Dp.b_law_foot_good) F sc_law_foot_good Dp.len_law_foot_good Dp.bo_law_foot_good (fun cdv A outer s H E hr => ?_)
  unfold Dp.b_law_foot_good
  exact (psds_cons (psd_set (i := 4) sc_law_foot_good.nd rfl (Or.inl rfl) (pd_callX G_clear xok_F hr (by decide) rfl (pd_cons (pd_var (pv 0)) (pd_cons (pd_var (pv 1)) (pd_cons (pd_var (pv 2)) pd_nil)))))
    (psds_cons (psd_set (i := 5) sc_law_foot_good.nd rfl (Or.inl rfl) (pd_tup (pd_cons (pd_ix (pd_var (pv 2)) pd_int (fun _ _ => rfl)) (pd_cons pd_int pd_nil))))
    (psds_cons (psd_if (pw_ptD (pw_orD (pt_cmpD (od_Ne hr) (pd_callX G_ground_at xok_F hr (by decide) rfl (pd_cons (pd_var (pv 0)) (pd_cons (pd_var (pv 5)) pd_nil))) (pd_tup (pd_cons (pd_ix (pd_var (pv 2)) pd_int (fun _ _ => rfl)) (pd_cons pd_int pd_nil)))) (pw_or1D (pt_cmpD (od_Ne hr) (pd_callX G_sees_place xok_F hr (by decide) rfl (pd_cons (pd_var (pv 0)) (pd_cons (pd_var (pv 1)) (pd_cons (pd_var (pv 5)) pd_nil)))) (pd_var (pv 4)))))) (psds_one (psd_ret pd_bl)) psds_nil)
    (psds_cons (psd_if (pt_cmpD (od_Ne hr) (pd_var (pv 3)) (pd_var (pv 4))) (psds_one (psd_ret pd_bl)) psds_nil)
    (psds_one (psd_ret (pd_orV (pd_cmp (od_Eq hr) (pd_ix (pd_var (pv 2)) pd_int (fun _ _ => rfl)) (pd_ix (pd_var (pv 1)) pd_int (fun _ _ => rfl))) (pd_one (pd_cmp (od_Eq hr) (pd_cmp (od_Eq hr) (pd_b bd_Len rfl m_len boot_len (pd_cons (pd_callX G_rope xok_F hr (by decide) rfl (pd_cons (pd_var (pv 0)) (pd_cons (pd_var (pv 2)) (pd_cons (pd_var (pv 1)) pd_nil)))) pd_nil)) pd_int) (pd_var (pv 4)))))))))))
theorem sc_law : FnScope ["script", "parts", "corners", "scale", "ground", "spots", "feet", "spot", "both_seen", "other", "own", "foot", "place", "held"] ["script"] (defScope s_law) := ⟨rfl, rfl, rfl, by decide +kernel, rfl, by decide +kernel, by decide +kernel⟩
theorem ok_law (F : Fun K "law" "law" s_law f fd) (G_law_parts : Got P w K mg base 3 "_law_parts" ["script"] (upF K Dp.sp_law_parts)) (G_law_cell : Got P w K mg base 1 "_law_cell" ["script", "k"] (upF K Dp.sp_law_cell)) (G_Ground : GotC P w K mg base 2 "Ground" (upF K Dp.sp_Ground)) (G_law_feet : Got P w K mg base 1 "_law_feet" ["corners", "scale"] (upF K Dp.sp_law_feet)) (G_watched : GotX P w K mg base 8 "watched" ["ground", "spots"] (upFX K Dp.sp_watched)) (G_seen : GotX P w K mg base 7 "seen" ["ground", "spot"] (upFX K Dp.sp_seen)) (G_holds_place : Got P w K mg base 2 "holds_place" ["stretches", "place"] (upF K Dp.sp_holds_place)) (G_law_foot_good : Got P w K mg base 9 "_law_foot_good" ["ground", "spot", "foot", "held"] (upF K Dp.sp_law_foot_good)) (m_list : mg "list" = none) : FnOk P w K mg base CX0 10 f fd ["script"] (upF K Dp.sp_law) := by
  refine fn_deep (b := Dp.b_law) F sc_law Dp.len_law Dp.bo_law (fun cdv A outer s H E hr => ?_)
  unfold Dp.b_law
  exact (psds_cons (psd_set (i := 1) sc_law.nd rfl (Or.inl rfl) (pd_call G_law_parts hr (by decide) rfl (pd_cons (pd_var (pv 0)) pd_nil)))
    (psds_cons (psd_set (i := 2) sc_law.nd rfl (Or.inl rfl) (pd_ix (pd_var (pv 1)) pd_int (fun _ _ => rfl)))
    (psds_cons (psd_set (i := 3) sc_law.nd rfl (Or.inl rfl) (pd_ix (pd_lst (pd_cons pd_int (pd_cons pd_int (pd_cons (pd_powc 100000000000000000000 (by decide +kernel) ⟨by decide, by decide, by decide⟩) pd_nil)))) (pd_mod (pd_call G_law_cell hr (by decide) rfl (pd_cons (pd_var (pv 0)) (pd_cons pd_int pd_nil))) pd_int) (fun _ _ => rfl)))
    (psds_cons (psd_set (i := 4) sc_law.nd rfl (Or.inl rfl) (pd_new G_Ground hr (by decide) rfl (pd_cons (pd_bt bd_List rfl m_list boot_list (pd_cons (pd_var (pv 2)) pd_nil)) pd_nil)))
    (psds_cons (psd_setC (i := 5) sc_law.nd rfl rfl (own := ["beacon"]) (free := []) (fv := []) rfl rfl rfl (by decide +kernel) (by decide +kernel) True.intro True.intro (id_seq (pd_ix (pd_var (pv 1)) pd_int (fun _ _ => rfl))) ⟨(grel_name 0 (by decide)), fun _ _ _ _ _ => (pg_name (i := 0) (show List.Nodup (["beacon"] : List Str) by decide +kernel) rfl (Or.inl rfl) (Or.inr rfl))⟩ (fun _ _ _ _ _ => pfd_nil) (fun _ _ _ _ _ => (pd_sl (pd_var (pv 0)) (pd_opt1 pd_int) pd_opt0)))
    (psds_cons (psd_set (i := 6) sc_law.nd rfl (Or.inl rfl) (pd_call G_law_feet hr (by decide) rfl (pd_cons (pd_var (pv 2)) (pd_cons (pd_var (pv 3)) pd_nil))))
    (psds_cons (psd_for PassesOwn.never rfl (id_seq (pd_sl (pd_var (pv 5)) pd_opt0 (pd_opt1 pd_int))) (pgd_name (i := 7) sc_law.nd rfl (Or.inl rfl)) (psds_cons (psd_set (i := 8) sc_law.nd rfl (Or.inl rfl) (pd_callX G_watched xok_F hr (by decide) rfl (pd_cons (pd_var (pv 4)) (pd_cons (pd_lst (pd_cons (pd_var (pv 7)) (pd_cons (pd_ix (pd_var (pv 5)) (pd_neg pd_int) (fun _ _ => rfl)) pd_nil))) pd_nil))))
    (psds_cons (psd_set (i := 9) sc_law.nd rfl (Or.inl rfl) (pd_callX G_seen xok_F hr (by decide) rfl (pd_cons (pd_var (pv 4)) (pd_cons (pd_ix (pd_var (pv 5)) (pd_neg pd_int) (fun _ _ => rfl)) pd_nil))))
    (psds_cons (psd_set (i := 10) sc_law.nd rfl (Or.inl rfl) (pd_callX G_seen xok_F hr (by decide) rfl (pd_cons (pd_var (pv 4)) (pd_cons (pd_var (pv 7)) pd_nil))))
    (psds_one (psd_for PassesOwn.never rfl (id_seq (pd_var (pv 6))) (pgd_name (i := 11) sc_law.nd rfl (Or.inl rfl)) (psds_cons (psd_set (i := 12) sc_law.nd rfl (Or.inl rfl) (pd_tup (pd_cons (pd_ix (pd_var (pv 11)) pd_int (fun _ _ => rfl)) (pd_cons pd_int pd_nil))))
    (psds_cons (psd_set (i := 13) sc_law.nd rfl (Or.inl rfl) (pd_call G_holds_place hr (by decide) rfl (pd_cons (pd_var (pv 10)) (pd_cons (pd_var (pv 12)) pd_nil))))
    (psds_cons (psd_if (pt_notD (pt_valD (pd_call G_law_foot_good hr (by decide) rfl (pd_cons (pd_var (pv 4)) (pd_cons (pd_var (pv 7)) (pd_cons (pd_var (pv 11)) (pd_cons (pd_var (pv 13)) pd_nil))))))) (psds_one (psd_ret pd_bl)) psds_nil)
    (psds_one (psd_if (pt_cmpD (od_Ne hr) (pd_call G_holds_place hr (by decide) rfl (pd_cons (pd_var (pv 8)) (pd_cons (pd_var (pv 12)) pd_nil))) (pd_orV (pd_var (pv 13)) (pd_one (pd_call G_holds_place hr (by decide) rfl (pd_cons (pd_var (pv 9)) (pd_cons (pd_var (pv 12)) pd_nil)))))) (psds_one (psd_ret pd_bl)) psds_nil)))))))))))
    (psds_one (psd_ret pd_bl)))))))))
end
theorem all_mk {l : PySem.W.OpenLaw} {w : World} {K : PySem.W.Frag} {h : Heap} {mg : Str → Option Value} {fa : Addr} (X : K.In h) (G : h.Ns mainGlobals mg) (hfa : mg "law" = some (.ref fa))
    {od_law_cell an_law_cell : Option Addr} {sl_law_cell : Array (Option Value)} {oc_law_cell kV_law_cell dc_law_cell pm_law_cell cd_law_cell ct_law_cell : Value} {f_law_cell : Addr}
    {od_law_folded an_law_folded : Option Addr} {sl_law_folded : Array (Option Value)} {oc_law_folded kV_law_folded dc_law_folded pm_law_folded cd_law_folded ct_law_folded : Value} {f_law_folded : Addr}
    {od_law_mixed an_law_mixed : Option Addr} {sl_law_mixed : Array (Option Value)} {oc_law_mixed kV_law_mixed dc_law_mixed pm_law_mixed cd_law_mixed ct_law_mixed : Value} {f_law_mixed : Addr}
    {od_law_ground_by an_law_ground_by : Option Addr} {sl_law_ground_by : Array (Option Value)} {oc_law_ground_by kV_law_ground_by dc_law_ground_by pm_law_ground_by cd_law_ground_by ct_law_ground_by : Value} {f_law_ground_by : Addr}
    {od_law_names an_law_names : Option Addr} {sl_law_names : Array (Option Value)} {oc_law_names kV_law_names dc_law_names pm_law_names cd_law_names ct_law_names : Value} {f_law_names : Addr}
    {od_law_high an_law_high : Option Addr} {sl_law_high : Array (Option Value)} {oc_law_high kV_law_high dc_law_high pm_law_high cd_law_high ct_law_high : Value} {f_law_high : Addr}
    {od_law_beacon an_law_beacon : Option Addr} {sl_law_beacon : Array (Option Value)} {oc_law_beacon kV_law_beacon dc_law_beacon pm_law_beacon cd_law_beacon ct_law_beacon : Value} {f_law_beacon : Addr}
    {od_law_fog an_law_fog : Option Addr} {sl_law_fog : Array (Option Value)} {oc_law_fog kV_law_fog dc_law_fog pm_law_fog cd_law_fog ct_law_fog : Value} {f_law_fog : Addr}
    {od_law_parts an_law_parts : Option Addr} {sl_law_parts : Array (Option Value)} {oc_law_parts kV_law_parts dc_law_parts pm_law_parts cd_law_parts ct_law_parts : Value} {f_law_parts : Addr}
    {od_refuse_bad_corners an_refuse_bad_corners : Option Addr} {sl_refuse_bad_corners : Array (Option Value)} {oc_refuse_bad_corners kV_refuse_bad_corners dc_refuse_bad_corners pm_refuse_bad_corners cd_refuse_bad_corners ct_refuse_bad_corners : Value} {f_refuse_bad_corners : Addr}
    {od_Ground_init an_Ground_init : Option Addr} {sl_Ground_init : Array (Option Value)} {oc_Ground_init kV_Ground_init dc_Ground_init pm_Ground_init cd_Ground_init ct_Ground_init : Value} {f_Ground_init : Addr} {C_Ground_init : Addr}
    {od_law_feet an_law_feet : Option Addr} {sl_law_feet : Array (Option Value)} {oc_law_feet kV_law_feet dc_law_feet pm_law_feet cd_law_feet ct_law_feet : Value} {f_law_feet : Addr}
    {od_less an_less : Option Addr} {sl_less : Array (Option Value)} {oc_less kV_less dc_less pm_less cd_less ct_less : Value} {f_less : Addr}
    {od_is_on an_is_on : Option Addr} {sl_is_on : Array (Option Value)} {oc_is_on kV_is_on dc_is_on pm_is_on cd_is_on ct_is_on : Value} {f_is_on : Addr}
    {od_common_divisor an_common_divisor : Option Addr} {sl_common_divisor : Array (Option Value)} {oc_common_divisor kV_common_divisor dc_common_divisor pm_common_divisor cd_common_divisor ct_common_divisor : Value} {f_common_divisor : Addr}
    {od_fraction an_fraction : Option Addr} {sl_fraction : Array (Option Value)} {oc_fraction kV_fraction dc_fraction pm_fraction cd_fraction ct_fraction : Value} {f_fraction : Addr}
    {od_height_on an_height_on : Option Addr} {sl_height_on : Array (Option Value)} {oc_height_on kV_height_on dc_height_on pm_height_on cd_height_on ct_height_on : Value} {f_height_on : Addr}
    {od_ground_at an_ground_at : Option Addr} {sl_ground_at : Array (Option Value)} {oc_ground_at kV_ground_at dc_ground_at pm_ground_at cd_ground_at ct_ground_at : Value} {f_ground_at : Addr}
    {od_stands an_stands : Option Addr} {sl_stands : Array (Option Value)} {oc_stands kV_stands dc_stands pm_stands cd_stands ct_stands : Value} {f_stands : Addr}
    {od_refuse_not_standing an_refuse_not_standing : Option Addr} {sl_refuse_not_standing : Array (Option Value)} {oc_refuse_not_standing kV_refuse_not_standing dc_refuse_not_standing pm_refuse_not_standing cd_refuse_not_standing ct_refuse_not_standing : Value} {f_refuse_not_standing : Addr}
    {od_side_of an_side_of : Option Addr} {sl_side_of : Array (Option Value)} {oc_side_of kV_side_of dc_side_of pm_side_of cd_side_of ct_side_of : Value} {f_side_of : Addr}
    {od_crossing an_crossing : Option Addr} {sl_crossing : Array (Option Value)} {oc_crossing kV_crossing dc_crossing pm_crossing cd_crossing ct_crossing : Value} {f_crossing : Addr}
    {od_first_seen an_first_seen : Option Addr} {sl_first_seen : Array (Option Value)} {oc_first_seen kV_first_seen dc_first_seen pm_first_seen cd_first_seen ct_first_seen : Value} {f_first_seen : Addr}
    {od_seen_outward an_seen_outward : Option Addr} {sl_seen_outward : Array (Option Value)} {oc_seen_outward kV_seen_outward dc_seen_outward pm_seen_outward cd_seen_outward ct_seen_outward : Value} {f_seen_outward : Addr}
    {od_lesser an_lesser : Option Addr} {sl_lesser : Array (Option Value)} {oc_lesser kV_lesser dc_lesser pm_lesser cd_lesser ct_lesser : Value} {f_lesser : Addr}
    {od_greater an_greater : Option Addr} {sl_greater : Array (Option Value)} {oc_greater kV_greater dc_greater pm_greater cd_greater ct_greater : Value} {f_greater : Addr}
    {od_with_stretch an_with_stretch : Option Addr} {sl_with_stretch : Array (Option Value)} {oc_with_stretch kV_with_stretch dc_with_stretch pm_with_stretch cd_with_stretch ct_with_stretch : Value} {f_with_stretch : Addr}
    {od_seen an_seen : Option Addr} {sl_seen : Array (Option Value)} {oc_seen kV_seen dc_seen pm_seen cd_seen ct_seen : Value} {f_seen : Addr}
    {od_joined an_joined : Option Addr} {sl_joined : Array (Option Value)} {oc_joined kV_joined dc_joined pm_joined cd_joined ct_joined : Value} {f_joined : Addr}
    {od_watched an_watched : Option Addr} {sl_watched : Array (Option Value)} {oc_watched kV_watched dc_watched pm_watched cd_watched ct_watched : Value} {f_watched : Addr}
    {od_holds_place an_holds_place : Option Addr} {sl_holds_place : Array (Option Value)} {oc_holds_place kV_holds_place dc_holds_place pm_holds_place cd_holds_place ct_holds_place : Value} {f_holds_place : Addr}
    {od_numbers_between an_numbers_between : Option Addr} {sl_numbers_between : Array (Option Value)} {oc_numbers_between kV_numbers_between dc_numbers_between pm_numbers_between cd_numbers_between ct_numbers_between : Value} {f_numbers_between : Addr}
    {od_hinder an_hinder : Option Addr} {sl_hinder : Array (Option Value)} {oc_hinder kV_hinder dc_hinder pm_hinder cd_hinder ct_hinder : Value} {f_hinder : Addr}
    {od_clear an_clear : Option Addr} {sl_clear : Array (Option Value)} {oc_clear kV_clear dc_clear pm_clear cd_clear ct_clear : Value} {f_clear : Addr}
    {od_corners_between an_corners_between : Option Addr} {sl_corners_between : Array (Option Value)} {oc_corners_between kV_corners_between dc_corners_between pm_corners_between cd_corners_between ct_corners_between : Value} {f_corners_between : Addr}
    {od_sees_place an_sees_place : Option Addr} {sl_sees_place : Array (Option Value)} {oc_sees_place kV_sees_place dc_sees_place pm_sees_place cd_sees_place ct_sees_place : Value} {f_sees_place : Addr}
    {od_rope an_rope : Option Addr} {sl_rope : Array (Option Value)} {oc_rope kV_rope dc_rope pm_rope cd_rope ct_rope : Value} {f_rope : Addr}
    {od_law_foot_good an_law_foot_good : Option Addr} {sl_law_foot_good : Array (Option Value)} {oc_law_foot_good kV_law_foot_good dc_law_foot_good pm_law_foot_good cd_law_foot_good ct_law_foot_good : Value} {f_law_foot_good : Addr}
    {od_law an_law : Option Addr} {sl_law : Array (Option Value)} {oc_law kV_law dc_law pm_law cd_law ct_law : Value} {f_law : Addr}
    {C_OffGround : Addr}
    {tk_LEAST_CORNERS : Tok} {tk_MOST_CORNERS : Tok}
    (a_law_cell : PySem.W.nsIn K mainGlobals "_law_cell" = some (some (.ref f_law_cell))) (l_law_cell : K.lookup f_law_cell = some ⟨oc_law_cell, od_law_cell, .func (PySem.W.fnOf "_law_cell" "_law_cell" (defArgs s_law_cell) (defBody s_law_cell) (defScope s_law_cell) .none kV_law_cell dc_law_cell pm_law_cell an_law_cell cd_law_cell ct_law_cell), sl_law_cell⟩) (c_law_cell : PySem.W.codeIn K cd_law_cell "_law_cell" = true) (k_law_cell : PySem.W.keepIn K (.ref f_law_cell) = true)
    (a_law_folded : PySem.W.nsIn K mainGlobals "_law_folded" = some (some (.ref f_law_folded))) (l_law_folded : K.lookup f_law_folded = some ⟨oc_law_folded, od_law_folded, .func (PySem.W.fnOf "_law_folded" "_law_folded" (defArgs s_law_folded) (defBody s_law_folded) (defScope s_law_folded) .none kV_law_folded dc_law_folded pm_law_folded an_law_folded cd_law_folded ct_law_folded), sl_law_folded⟩) (c_law_folded : PySem.W.codeIn K cd_law_folded "_law_folded" = true) (k_law_folded : PySem.W.keepIn K (.ref f_law_folded) = true)
    (a_law_mixed : PySem.W.nsIn K mainGlobals "_law_mixed" = some (some (.ref f_law_mixed))) (l_law_mixed : K.lookup f_law_mixed = some ⟨oc_law_mixed, od_law_mixed, .func (PySem.W.fnOf "_law_mixed" "_law_mixed" (defArgs s_law_mixed) (defBody s_law_mixed) (defScope s_law_mixed) .none kV_law_mixed dc_law_mixed pm_law_mixed an_law_mixed cd_law_mixed ct_law_mixed), sl_law_mixed⟩) (c_law_mixed : PySem.W.codeIn K cd_law_mixed "_law_mixed" = true) (k_law_mixed : PySem.W.keepIn K (.ref f_law_mixed) = true)
    (a_law_ground_by : PySem.W.nsIn K mainGlobals "_law_ground_by" = some (some (.ref f_law_ground_by))) (l_law_ground_by : K.lookup f_law_ground_by = some ⟨oc_law_ground_by, od_law_ground_by, .func (PySem.W.fnOf "_law_ground_by" "_law_ground_by" (defArgs s_law_ground_by) (defBody s_law_ground_by) (defScope s_law_ground_by) .none kV_law_ground_by dc_law_ground_by pm_law_ground_by an_law_ground_by cd_law_ground_by ct_law_ground_by), sl_law_ground_by⟩) (c_law_ground_by : PySem.W.codeIn K cd_law_ground_by "_law_ground_by" = true) (k_law_ground_by : PySem.W.keepIn K (.ref f_law_ground_by) = true)
    (a_law_names : PySem.W.nsIn K mainGlobals "_law_names" = some (some (.ref f_law_names))) (l_law_names : K.lookup f_law_names = some ⟨oc_law_names, od_law_names, .func (PySem.W.fnOf "_law_names" "_law_names" (defArgs s_law_names) (defBody s_law_names) (defScope s_law_names) .none kV_law_names dc_law_names pm_law_names an_law_names cd_law_names ct_law_names), sl_law_names⟩) (c_law_names : PySem.W.codeIn K cd_law_names "_law_names" = true) (k_law_names : PySem.W.keepIn K (.ref f_law_names) = true)
    (a_law_high : PySem.W.nsIn K mainGlobals "_law_high" = some (some (.ref f_law_high))) (l_law_high : K.lookup f_law_high = some ⟨oc_law_high, od_law_high, .func (PySem.W.fnOf "_law_high" "_law_high" (defArgs s_law_high) (defBody s_law_high) (defScope s_law_high) .none kV_law_high dc_law_high pm_law_high an_law_high cd_law_high ct_law_high), sl_law_high⟩) (c_law_high : PySem.W.codeIn K cd_law_high "_law_high" = true) (k_law_high : PySem.W.keepIn K (.ref f_law_high) = true)
    (a_law_beacon : PySem.W.nsIn K mainGlobals "_law_beacon" = some (some (.ref f_law_beacon))) (l_law_beacon : K.lookup f_law_beacon = some ⟨oc_law_beacon, od_law_beacon, .func (PySem.W.fnOf "_law_beacon" "_law_beacon" (defArgs s_law_beacon) (defBody s_law_beacon) (defScope s_law_beacon) .none kV_law_beacon dc_law_beacon pm_law_beacon an_law_beacon cd_law_beacon ct_law_beacon), sl_law_beacon⟩) (c_law_beacon : PySem.W.codeIn K cd_law_beacon "_law_beacon" = true) (k_law_beacon : PySem.W.keepIn K (.ref f_law_beacon) = true)
    (a_law_fog : PySem.W.nsIn K mainGlobals "_law_fog" = some (some (.ref f_law_fog))) (l_law_fog : K.lookup f_law_fog = some ⟨oc_law_fog, od_law_fog, .func (PySem.W.fnOf "_law_fog" "_law_fog" (defArgs s_law_fog) (defBody s_law_fog) (defScope s_law_fog) .none kV_law_fog dc_law_fog pm_law_fog an_law_fog cd_law_fog ct_law_fog), sl_law_fog⟩) (c_law_fog : PySem.W.codeIn K cd_law_fog "_law_fog" = true) (k_law_fog : PySem.W.keepIn K (.ref f_law_fog) = true)
    (a_law_parts : PySem.W.nsIn K mainGlobals "_law_parts" = some (some (.ref f_law_parts))) (l_law_parts : K.lookup f_law_parts = some ⟨oc_law_parts, od_law_parts, .func (PySem.W.fnOf "_law_parts" "_law_parts" (defArgs s_law_parts) (defBody s_law_parts) (defScope s_law_parts) .none kV_law_parts dc_law_parts pm_law_parts an_law_parts cd_law_parts ct_law_parts), sl_law_parts⟩) (c_law_parts : PySem.W.codeIn K cd_law_parts "_law_parts" = true) (k_law_parts : PySem.W.keepIn K (.ref f_law_parts) = true)
    (a_refuse_bad_corners : PySem.W.nsIn K mainGlobals "refuse_bad_corners" = some (some (.ref f_refuse_bad_corners))) (l_refuse_bad_corners : K.lookup f_refuse_bad_corners = some ⟨oc_refuse_bad_corners, od_refuse_bad_corners, .func (PySem.W.fnOf "refuse_bad_corners" "refuse_bad_corners" (defArgs s_refuse_bad_corners) (defBody s_refuse_bad_corners) (defScope s_refuse_bad_corners) .none kV_refuse_bad_corners dc_refuse_bad_corners pm_refuse_bad_corners an_refuse_bad_corners cd_refuse_bad_corners ct_refuse_bad_corners), sl_refuse_bad_corners⟩) (c_refuse_bad_corners : PySem.W.codeIn K cd_refuse_bad_corners "refuse_bad_corners" = true) (k_refuse_bad_corners : PySem.W.keepIn K (.ref f_refuse_bad_corners) = true)
    (a_Ground_init : PySem.W.nsIn K mainGlobals "Ground" = some (some (.ref C_Ground_init))) (l_Ground_init : K.lookup f_Ground_init = some ⟨oc_Ground_init, od_Ground_init, .func (PySem.W.fnOf "__init__" "Ground.__init__" (defArgs s_Ground_init) (defBody s_Ground_init) (defScope s_Ground_init) .none kV_Ground_init dc_Ground_init pm_Ground_init an_Ground_init cd_Ground_init ct_Ground_init), sl_Ground_init⟩) (c_Ground_init : PySem.W.codeIn K cd_Ground_init "Ground.__init__" = true) (k_Ground_init : PySem.W.keepIn K (.ref f_Ground_init) = true)
    (q1_Ground_init : PySem.W.makesIn K C_Ground_init = true) (q2_Ground_init : PySem.W.findIn K (.ref C_Ground_init) "__init__" = some (some (.ref f_Ground_init))) (q3_Ground_init : PySem.W.isFn K (.ref f_Ground_init) = true) (q4_Ground_init : PySem.W.keepIn K (.ref C_Ground_init) = true) (q5_Ground_init : PySem.W.plainGet K C_Ground_init Str.empty = true) (q6_Ground_init : PySem.W.hasDictIn K C_Ground_init = true) (q7_Ground_init : PySem.W.plainOver K C_Ground_init = true) (q8_Ground_init : PySem.W.findIn K (.ref C_Ground_init) "__setattr__" = some (some (.builtin "object.__setattr__"))) (n0_Ground_init : PySem.W.findIn K (.ref C_Ground_init) "corners" = some none)
    (a_law_feet : PySem.W.nsIn K mainGlobals "_law_feet" = some (some (.ref f_law_feet))) (l_law_feet : K.lookup f_law_feet = some ⟨oc_law_feet, od_law_feet, .func (PySem.W.fnOf "_law_feet" "_law_feet" (defArgs s_law_feet) (defBody s_law_feet) (defScope s_law_feet) .none kV_law_feet dc_law_feet pm_law_feet an_law_feet cd_law_feet ct_law_feet), sl_law_feet⟩) (c_law_feet : PySem.W.codeIn K cd_law_feet "_law_feet" = true) (k_law_feet : PySem.W.keepIn K (.ref f_law_feet) = true)
    (a_less : PySem.W.nsIn K mainGlobals "less" = some (some (.ref f_less))) (l_less : K.lookup f_less = some ⟨oc_less, od_less, .func (PySem.W.fnOf "less" "less" (defArgs s_less) (defBody s_less) (defScope s_less) .none kV_less dc_less pm_less an_less cd_less ct_less), sl_less⟩) (c_less : PySem.W.codeIn K cd_less "less" = true) (k_less : PySem.W.keepIn K (.ref f_less) = true)
    (a_is_on : PySem.W.nsIn K mainGlobals "is_on" = some (some (.ref f_is_on))) (l_is_on : K.lookup f_is_on = some ⟨oc_is_on, od_is_on, .func (PySem.W.fnOf "is_on" "is_on" (defArgs s_is_on) (defBody s_is_on) (defScope s_is_on) .none kV_is_on dc_is_on pm_is_on an_is_on cd_is_on ct_is_on), sl_is_on⟩) (c_is_on : PySem.W.codeIn K cd_is_on "is_on" = true) (k_is_on : PySem.W.keepIn K (.ref f_is_on) = true)
    (a_common_divisor : PySem.W.nsIn K mainGlobals "common_divisor" = some (some (.ref f_common_divisor))) (l_common_divisor : K.lookup f_common_divisor = some ⟨oc_common_divisor, od_common_divisor, .func (PySem.W.fnOf "common_divisor" "common_divisor" (defArgs s_common_divisor) (defBody s_common_divisor) (defScope s_common_divisor) .none kV_common_divisor dc_common_divisor pm_common_divisor an_common_divisor cd_common_divisor ct_common_divisor), sl_common_divisor⟩) (c_common_divisor : PySem.W.codeIn K cd_common_divisor "common_divisor" = true) (k_common_divisor : PySem.W.keepIn K (.ref f_common_divisor) = true)
    (a_fraction : PySem.W.nsIn K mainGlobals "fraction" = some (some (.ref f_fraction))) (l_fraction : K.lookup f_fraction = some ⟨oc_fraction, od_fraction, .func (PySem.W.fnOf "fraction" "fraction" (defArgs s_fraction) (defBody s_fraction) (defScope s_fraction) .none kV_fraction dc_fraction pm_fraction an_fraction cd_fraction ct_fraction), sl_fraction⟩) (c_fraction : PySem.W.codeIn K cd_fraction "fraction" = true) (k_fraction : PySem.W.keepIn K (.ref f_fraction) = true)
    (a_height_on : PySem.W.nsIn K mainGlobals "height_on" = some (some (.ref f_height_on))) (l_height_on : K.lookup f_height_on = some ⟨oc_height_on, od_height_on, .func (PySem.W.fnOf "height_on" "height_on" (defArgs s_height_on) (defBody s_height_on) (defScope s_height_on) .none kV_height_on dc_height_on pm_height_on an_height_on cd_height_on ct_height_on), sl_height_on⟩) (c_height_on : PySem.W.codeIn K cd_height_on "height_on" = true) (k_height_on : PySem.W.keepIn K (.ref f_height_on) = true)
    (a_ground_at : PySem.W.nsIn K mainGlobals "ground_at" = some (some (.ref f_ground_at))) (l_ground_at : K.lookup f_ground_at = some ⟨oc_ground_at, od_ground_at, .func (PySem.W.fnOf "ground_at" "ground_at" (defArgs s_ground_at) (defBody s_ground_at) (defScope s_ground_at) .none kV_ground_at dc_ground_at pm_ground_at an_ground_at cd_ground_at ct_ground_at), sl_ground_at⟩) (c_ground_at : PySem.W.codeIn K cd_ground_at "ground_at" = true) (k_ground_at : PySem.W.keepIn K (.ref f_ground_at) = true)
    (a_stands : PySem.W.nsIn K mainGlobals "stands" = some (some (.ref f_stands))) (l_stands : K.lookup f_stands = some ⟨oc_stands, od_stands, .func (PySem.W.fnOf "stands" "stands" (defArgs s_stands) (defBody s_stands) (defScope s_stands) .none kV_stands dc_stands pm_stands an_stands cd_stands ct_stands), sl_stands⟩) (c_stands : PySem.W.codeIn K cd_stands "stands" = true) (k_stands : PySem.W.keepIn K (.ref f_stands) = true)
    (a_refuse_not_standing : PySem.W.nsIn K mainGlobals "refuse_not_standing" = some (some (.ref f_refuse_not_standing))) (l_refuse_not_standing : K.lookup f_refuse_not_standing = some ⟨oc_refuse_not_standing, od_refuse_not_standing, .func (PySem.W.fnOf "refuse_not_standing" "refuse_not_standing" (defArgs s_refuse_not_standing) (defBody s_refuse_not_standing) (defScope s_refuse_not_standing) .none kV_refuse_not_standing dc_refuse_not_standing pm_refuse_not_standing an_refuse_not_standing cd_refuse_not_standing ct_refuse_not_standing), sl_refuse_not_standing⟩) (c_refuse_not_standing : PySem.W.codeIn K cd_refuse_not_standing "refuse_not_standing" = true) (k_refuse_not_standing : PySem.W.keepIn K (.ref f_refuse_not_standing) = true)
    (a_side_of : PySem.W.nsIn K mainGlobals "side_of" = some (some (.ref f_side_of))) (l_side_of : K.lookup f_side_of = some ⟨oc_side_of, od_side_of, .func (PySem.W.fnOf "side_of" "side_of" (defArgs s_side_of) (defBody s_side_of) (defScope s_side_of) .none kV_side_of dc_side_of pm_side_of an_side_of cd_side_of ct_side_of), sl_side_of⟩) (c_side_of : PySem.W.codeIn K cd_side_of "side_of" = true) (k_side_of : PySem.W.keepIn K (.ref f_side_of) = true)
    (a_crossing : PySem.W.nsIn K mainGlobals "crossing" = some (some (.ref f_crossing))) (l_crossing : K.lookup f_crossing = some ⟨oc_crossing, od_crossing, .func (PySem.W.fnOf "crossing" "crossing" (defArgs s_crossing) (defBody s_crossing) (defScope s_crossing) .none kV_crossing dc_crossing pm_crossing an_crossing cd_crossing ct_crossing), sl_crossing⟩) (c_crossing : PySem.W.codeIn K cd_crossing "crossing" = true) (k_crossing : PySem.W.keepIn K (.ref f_crossing) = true)
    (a_first_seen : PySem.W.nsIn K mainGlobals "first_seen" = some (some (.ref f_first_seen))) (l_first_seen : K.lookup f_first_seen = some ⟨oc_first_seen, od_first_seen, .func (PySem.W.fnOf "first_seen" "first_seen" (defArgs s_first_seen) (defBody s_first_seen) (defScope s_first_seen) .none kV_first_seen dc_first_seen pm_first_seen an_first_seen cd_first_seen ct_first_seen), sl_first_seen⟩) (c_first_seen : PySem.W.codeIn K cd_first_seen "first_seen" = true) (k_first_seen : PySem.W.keepIn K (.ref f_first_seen) = true)
    (a_seen_outward : PySem.W.nsIn K mainGlobals "seen_outward" = some (some (.ref f_seen_outward))) (l_seen_outward : K.lookup f_seen_outward = some ⟨oc_seen_outward, od_seen_outward, .func (PySem.W.fnOf "seen_outward" "seen_outward" (defArgs s_seen_outward) (defBody s_seen_outward) (defScope s_seen_outward) .none kV_seen_outward dc_seen_outward pm_seen_outward an_seen_outward cd_seen_outward ct_seen_outward), sl_seen_outward⟩) (c_seen_outward : PySem.W.codeIn K cd_seen_outward "seen_outward" = true) (k_seen_outward : PySem.W.keepIn K (.ref f_seen_outward) = true)
    (a_lesser : PySem.W.nsIn K mainGlobals "lesser" = some (some (.ref f_lesser))) (l_lesser : K.lookup f_lesser = some ⟨oc_lesser, od_lesser, .func (PySem.W.fnOf "lesser" "lesser" (defArgs s_lesser) (defBody s_lesser) (defScope s_lesser) .none kV_lesser dc_lesser pm_lesser an_lesser cd_lesser ct_lesser), sl_lesser⟩) (c_lesser : PySem.W.codeIn K cd_lesser "lesser" = true) (k_lesser : PySem.W.keepIn K (.ref f_lesser) = true)
    (a_greater : PySem.W.nsIn K mainGlobals "greater" = some (some (.ref f_greater))) (l_greater : K.lookup f_greater = some ⟨oc_greater, od_greater, .func (PySem.W.fnOf "greater" "greater" (defArgs s_greater) (defBody s_greater) (defScope s_greater) .none kV_greater dc_greater pm_greater an_greater cd_greater ct_greater), sl_greater⟩) (c_greater : PySem.W.codeIn K cd_greater "greater" = true) (k_greater : PySem.W.keepIn K (.ref f_greater) = true)
    (a_with_stretch : PySem.W.nsIn K mainGlobals "with_stretch" = some (some (.ref f_with_stretch))) (l_with_stretch : K.lookup f_with_stretch = some ⟨oc_with_stretch, od_with_stretch, .func (PySem.W.fnOf "with_stretch" "with_stretch" (defArgs s_with_stretch) (defBody s_with_stretch) (defScope s_with_stretch) .none kV_with_stretch dc_with_stretch pm_with_stretch an_with_stretch cd_with_stretch ct_with_stretch), sl_with_stretch⟩) (c_with_stretch : PySem.W.codeIn K cd_with_stretch "with_stretch" = true) (k_with_stretch : PySem.W.keepIn K (.ref f_with_stretch) = true)
    (a_seen : PySem.W.nsIn K mainGlobals "seen" = some (some (.ref f_seen))) (l_seen : K.lookup f_seen = some ⟨oc_seen, od_seen, .func (PySem.W.fnOf "seen" "seen" (defArgs s_seen) (defBody s_seen) (defScope s_seen) .none kV_seen dc_seen pm_seen an_seen cd_seen ct_seen), sl_seen⟩) (c_seen : PySem.W.codeIn K cd_seen "seen" = true) (k_seen : PySem.W.keepIn K (.ref f_seen) = true)
    (a_joined : PySem.W.nsIn K mainGlobals "joined" = some (some (.ref f_joined))) (l_joined : K.lookup f_joined = some ⟨oc_joined, od_joined, .func (PySem.W.fnOf "joined" "joined" (defArgs s_joined) (defBody s_joined) (defScope s_joined) .none kV_joined dc_joined pm_joined an_joined cd_joined ct_joined), sl_joined⟩) (c_joined : PySem.W.codeIn K cd_joined "joined" = true) (k_joined : PySem.W.keepIn K (.ref f_joined) = true)
    (a_watched : PySem.W.nsIn K mainGlobals "watched" = some (some (.ref f_watched))) (l_watched : K.lookup f_watched = some ⟨oc_watched, od_watched, .func (PySem.W.fnOf "watched" "watched" (defArgs s_watched) (defBody s_watched) (defScope s_watched) .none kV_watched dc_watched pm_watched an_watched cd_watched ct_watched), sl_watched⟩) (c_watched : PySem.W.codeIn K cd_watched "watched" = true) (k_watched : PySem.W.keepIn K (.ref f_watched) = true)
    (a_holds_place : PySem.W.nsIn K mainGlobals "holds_place" = some (some (.ref f_holds_place))) (l_holds_place : K.lookup f_holds_place = some ⟨oc_holds_place, od_holds_place, .func (PySem.W.fnOf "holds_place" "holds_place" (defArgs s_holds_place) (defBody s_holds_place) (defScope s_holds_place) .none kV_holds_place dc_holds_place pm_holds_place an_holds_place cd_holds_place ct_holds_place), sl_holds_place⟩) (c_holds_place : PySem.W.codeIn K cd_holds_place "holds_place" = true) (k_holds_place : PySem.W.keepIn K (.ref f_holds_place) = true)
    (a_numbers_between : PySem.W.nsIn K mainGlobals "numbers_between" = some (some (.ref f_numbers_between))) (l_numbers_between : K.lookup f_numbers_between = some ⟨oc_numbers_between, od_numbers_between, .func (PySem.W.fnOf "numbers_between" "numbers_between" (defArgs s_numbers_between) (defBody s_numbers_between) (defScope s_numbers_between) .none kV_numbers_between dc_numbers_between pm_numbers_between an_numbers_between cd_numbers_between ct_numbers_between), sl_numbers_between⟩) (c_numbers_between : PySem.W.codeIn K cd_numbers_between "numbers_between" = true) (k_numbers_between : PySem.W.keepIn K (.ref f_numbers_between) = true)
    (a_hinder : PySem.W.nsIn K mainGlobals "hinder" = some (some (.ref f_hinder))) (l_hinder : K.lookup f_hinder = some ⟨oc_hinder, od_hinder, .func (PySem.W.fnOf "hinder" "hinder" (defArgs s_hinder) (defBody s_hinder) (defScope s_hinder) .none kV_hinder dc_hinder pm_hinder an_hinder cd_hinder ct_hinder), sl_hinder⟩) (c_hinder : PySem.W.codeIn K cd_hinder "hinder" = true) (k_hinder : PySem.W.keepIn K (.ref f_hinder) = true)
    (a_clear : PySem.W.nsIn K mainGlobals "clear" = some (some (.ref f_clear))) (l_clear : K.lookup f_clear = some ⟨oc_clear, od_clear, .func (PySem.W.fnOf "clear" "clear" (defArgs s_clear) (defBody s_clear) (defScope s_clear) .none kV_clear dc_clear pm_clear an_clear cd_clear ct_clear), sl_clear⟩) (c_clear : PySem.W.codeIn K cd_clear "clear" = true) (k_clear : PySem.W.keepIn K (.ref f_clear) = true)
    (a_corners_between : PySem.W.nsIn K mainGlobals "corners_between" = some (some (.ref f_corners_between))) (l_corners_between : K.lookup f_corners_between = some ⟨oc_corners_between, od_corners_between, .func (PySem.W.fnOf "corners_between" "corners_between" (defArgs s_corners_between) (defBody s_corners_between) (defScope s_corners_between) .none kV_corners_between dc_corners_between pm_corners_between an_corners_between cd_corners_between ct_corners_between), sl_corners_between⟩) (c_corners_between : PySem.W.codeIn K cd_corners_between "corners_between" = true) (k_corners_between : PySem.W.keepIn K (.ref f_corners_between) = true)
    (a_sees_place : PySem.W.nsIn K mainGlobals "sees_place" = some (some (.ref f_sees_place))) (l_sees_place : K.lookup f_sees_place = some ⟨oc_sees_place, od_sees_place, .func (PySem.W.fnOf "sees_place" "sees_place" (defArgs s_sees_place) (defBody s_sees_place) (defScope s_sees_place) .none kV_sees_place dc_sees_place pm_sees_place an_sees_place cd_sees_place ct_sees_place), sl_sees_place⟩) (c_sees_place : PySem.W.codeIn K cd_sees_place "sees_place" = true) (k_sees_place : PySem.W.keepIn K (.ref f_sees_place) = true)
    (a_rope : PySem.W.nsIn K mainGlobals "rope" = some (some (.ref f_rope))) (l_rope : K.lookup f_rope = some ⟨oc_rope, od_rope, .func (PySem.W.fnOf "rope" "rope" (defArgs s_rope) (defBody s_rope) (defScope s_rope) .none kV_rope dc_rope pm_rope an_rope cd_rope ct_rope), sl_rope⟩) (c_rope : PySem.W.codeIn K cd_rope "rope" = true) (k_rope : PySem.W.keepIn K (.ref f_rope) = true)
    (a_law_foot_good : PySem.W.nsIn K mainGlobals "_law_foot_good" = some (some (.ref f_law_foot_good))) (l_law_foot_good : K.lookup f_law_foot_good = some ⟨oc_law_foot_good, od_law_foot_good, .func (PySem.W.fnOf "_law_foot_good" "_law_foot_good" (defArgs s_law_foot_good) (defBody s_law_foot_good) (defScope s_law_foot_good) .none kV_law_foot_good dc_law_foot_good pm_law_foot_good an_law_foot_good cd_law_foot_good ct_law_foot_good), sl_law_foot_good⟩) (c_law_foot_good : PySem.W.codeIn K cd_law_foot_good "_law_foot_good" = true) (k_law_foot_good : PySem.W.keepIn K (.ref f_law_foot_good) = true)
    (a_law : PySem.W.nsIn K mainGlobals "law" = some (some (.ref f_law))) (l_law : K.lookup f_law = some ⟨oc_law, od_law, .func (PySem.W.fnOf "law" "law" (defArgs s_law) (defBody s_law) (defScope s_law) .none kV_law dc_law pm_law an_law cd_law ct_law), sl_law⟩) (c_law : PySem.W.codeIn K cd_law "law" = true) (k_law : PySem.W.keepIn K (.ref f_law) = true)
    (a_OffGround : PySem.W.nsIn K mainGlobals "OffGround" = some (some (.ref C_OffGround))) (x_OffGround : exIn K C_OffGround = true)
    (z_len : PySem.W.nsIn K mainGlobals "len" = some none) (z_range : PySem.W.nsIn K mainGlobals "range" = some none) (z_list : PySem.W.nsIn K mainGlobals "list" = some none) (z_abs : PySem.W.nsIn K mainGlobals "abs" = some none) (z_tuple : PySem.W.nsIn K mainGlobals "tuple" = some none) (z_any : PySem.W.nsIn K mainGlobals "any" = some none) (z_min : PySem.W.nsIn K mainGlobals "min" = some none) (z_max : PySem.W.nsIn K mainGlobals "max" = some none) (z_enumerate : PySem.W.nsIn K mainGlobals "enumerate" = some none)
    (v_LEAST_CORNERS : PySem.W.nsIn K mainGlobals "LEAST_CORNERS" = some (some (.int 2 tk_LEAST_CORNERS))) (v_MOST_CORNERS : PySem.W.nsIn K mainGlobals "MOST_CORNERS" = some (some (.int 40 tk_MOST_CORNERS))) :
    ∃ fd : FuncData, (∀ (s : Shared) (v : Value), BindsTo s fd ⟨[v], []⟩ [("script", v)]) ∧ ∀ base : Heap, K.In base → base.Ns mainGlobals mg → FnOk l.prog w K mg base CX0 10 fa fd ["script"] (upF K Dp.sp_law) := by
  have e := hfa.symm.trans (PySem.W.mg_of X G a_law)
  cases e
  have F_law_cell := fun_mk (st := s_law_cell) l_law_cell c_law_cell k_law_cell
  have b_law_cell := F_law_cell.binds (ps := ["script", "k"]) fun _ _ _ _ _ _ us hl => by obtain ⟨_, _, rfl⟩ := len_2 hl; rfl
  have F_law_folded := fun_mk (st := s_law_folded) l_law_folded c_law_folded k_law_folded
  have b_law_folded := F_law_folded.binds (ps := ["script", "start", "size"]) fun _ _ _ _ _ _ us hl => by obtain ⟨_, _, _, rfl⟩ := len_3 hl; rfl
  have F_law_mixed := fun_mk (st := s_law_mixed) l_law_mixed c_law_mixed k_law_mixed
  have b_law_mixed := F_law_mixed.binds (ps := ["cell", "k"]) fun _ _ _ _ _ _ us hl => by obtain ⟨_, _, rfl⟩ := len_2 hl; rfl
  have F_law_ground_by := fun_mk (st := s_law_ground_by) l_law_ground_by c_law_ground_by k_law_ground_by
  have b_law_ground_by := F_law_ground_by.binds (ps := ["cells", "count", "scale"]) fun _ _ _ _ _ _ us hl => by obtain ⟨_, _, _, rfl⟩ := len_3 hl; rfl
  have F_law_names := fun_mk (st := s_law_names) l_law_names c_law_names k_law_names
  have b_law_names := F_law_names.binds (ps := ["base"]) fun _ _ _ _ _ _ us hl => by obtain ⟨_, rfl⟩ := len_1 hl; rfl
  have F_law_high := fun_mk (st := s_law_high) l_law_high c_law_high k_law_high
  have b_law_high := F_law_high.binds (ps := ["corners", "x"]) fun _ _ _ _ _ _ us hl => by obtain ⟨_, _, rfl⟩ := len_2 hl; rfl
  have F_law_beacon := fun_mk (st := s_law_beacon) l_law_beacon c_law_beacon k_law_beacon
  have b_law_beacon := F_law_beacon.binds (ps := ["cell", "k", "corners", "scale", "name"]) fun _ _ _ _ _ _ us hl => by obtain ⟨_, _, _, _, _, rfl⟩ := len_5 hl; rfl
  have F_law_fog := fun_mk (st := s_law_fog) l_law_fog c_law_fog k_law_fog
  have b_law_fog := F_law_fog.binds (ps := ["cell", "k", "corners", "scale", "hours"]) fun _ _ _ _ _ _ us hl => by obtain ⟨_, _, _, _, _, rfl⟩ := len_5 hl; rfl
  have F_law_parts := fun_mk (st := s_law_parts) l_law_parts c_law_parts k_law_parts
  have b_law_parts := F_law_parts.binds (ps := ["script"]) fun _ _ _ _ _ _ us hl => by obtain ⟨_, rfl⟩ := len_1 hl; rfl
  have F_refuse_bad_corners := fun_mk (st := s_refuse_bad_corners) l_refuse_bad_corners c_refuse_bad_corners k_refuse_bad_corners
  have b_refuse_bad_corners := F_refuse_bad_corners.binds (ps := ["corners"]) fun _ _ _ _ _ _ us hl => by obtain ⟨_, rfl⟩ := len_1 hl; rfl
  have na_Ground_corners : ∀ C, PySem.W.nsIn K mainGlobals "Ground" = some (some (.ref C)) → NoAttr K C "corners" := fun C hC => by
    rw [a_Ground_init] at hC; cases hC; exact n0_Ground_init
  have F_Ground_init := fun_mk (st := s_Ground_init) l_Ground_init c_Ground_init k_Ground_init
  have b_Ground_init := F_Ground_init.binds (ps := ["self", "corners"]) fun _ _ _ _ _ _ us hl => by obtain ⟨_, _, rfl⟩ := len_2 hl; rfl
  have F_law_feet := fun_mk (st := s_law_feet) l_law_feet c_law_feet k_law_feet
  have b_law_feet := F_law_feet.binds (ps := ["corners", "scale"]) fun _ _ _ _ _ _ us hl => by obtain ⟨_, _, rfl⟩ := len_2 hl; rfl
  have F_less := fun_mk (st := s_less) l_less c_less k_less
  have b_less := F_less.binds (ps := ["one", "other"]) fun _ _ _ _ _ _ us hl => by obtain ⟨_, _, rfl⟩ := len_2 hl; rfl
  have F_is_on := fun_mk (st := s_is_on) l_is_on c_is_on k_is_on
  have b_is_on := F_is_on.binds (ps := ["ground", "place"]) fun _ _ _ _ _ _ us hl => by obtain ⟨_, _, rfl⟩ := len_2 hl; rfl
  have F_common_divisor := fun_mk (st := s_common_divisor) l_common_divisor c_common_divisor k_common_divisor
  have b_common_divisor := F_common_divisor.binds (ps := ["one", "other"]) fun _ _ _ _ _ _ us hl => by obtain ⟨_, _, rfl⟩ := len_2 hl; rfl
  have F_fraction := fun_mk (st := s_fraction) l_fraction c_fraction k_fraction
  have b_fraction := F_fraction.binds (ps := ["top", "bottom"]) fun _ _ _ _ _ _ us hl => by obtain ⟨_, _, rfl⟩ := len_2 hl; rfl
  have F_height_on := fun_mk (st := s_height_on) l_height_on c_height_on k_height_on
  have b_height_on := F_height_on.binds (ps := ["one", "other", "place"]) fun _ _ _ _ _ _ us hl => by obtain ⟨_, _, _, rfl⟩ := len_3 hl; rfl
  have F_ground_at := fun_mk (st := s_ground_at) l_ground_at c_ground_at k_ground_at
  have b_ground_at := F_ground_at.binds (ps := ["ground", "place"]) fun _ _ _ _ _ _ us hl => by obtain ⟨_, _, rfl⟩ := len_2 hl; rfl
  have F_stands := fun_mk (st := s_stands) l_stands c_stands k_stands
  have b_stands := F_stands.binds (ps := ["ground", "spot"]) fun _ _ _ _ _ _ us hl => by obtain ⟨_, _, rfl⟩ := len_2 hl; rfl
  have F_refuse_not_standing := fun_mk (st := s_refuse_not_standing) l_refuse_not_standing c_refuse_not_standing k_refuse_not_standing
  have b_refuse_not_standing := F_refuse_not_standing.binds (ps := ["ground", "spot"]) fun _ _ _ _ _ _ us hl => by obtain ⟨_, _, rfl⟩ := len_2 hl; rfl
  have F_side_of := fun_mk (st := s_side_of) l_side_of c_side_of k_side_of
  have b_side_of := F_side_of.binds (ps := ["one", "other", "spot"]) fun _ _ _ _ _ _ us hl => by obtain ⟨_, _, _, rfl⟩ := len_3 hl; rfl
  have F_crossing := fun_mk (st := s_crossing) l_crossing c_crossing k_crossing
  have b_crossing := F_crossing.binds (ps := ["one", "other", "three", "four"]) fun _ _ _ _ _ _ us hl => by obtain ⟨_, _, _, _, rfl⟩ := len_4 hl; rfl
  have F_first_seen := fun_mk (st := s_first_seen) l_first_seen c_first_seen k_first_seen
  have b_first_seen := F_first_seen.binds (ps := ["spot", "highest", "near", "far"]) fun _ _ _ _ _ _ us hl => by obtain ⟨_, _, _, _, rfl⟩ := len_4 hl; rfl
  have F_seen_outward := fun_mk (st := s_seen_outward) l_seen_outward c_seen_outward k_seen_outward
  have b_seen_outward := F_seen_outward.binds (ps := ["spot", "corners"]) fun _ _ _ _ _ _ us hl => by obtain ⟨_, _, rfl⟩ := len_2 hl; rfl
  have F_lesser := fun_mk (st := s_lesser) l_lesser c_lesser k_lesser
  have b_lesser := F_lesser.binds (ps := ["one", "other"]) fun _ _ _ _ _ _ us hl => by obtain ⟨_, _, rfl⟩ := len_2 hl; rfl
  have F_greater := fun_mk (st := s_greater) l_greater c_greater k_greater
  have b_greater := F_greater.binds (ps := ["one", "other"]) fun _ _ _ _ _ _ us hl => by obtain ⟨_, _, rfl⟩ := len_2 hl; rfl
  have F_with_stretch := fun_mk (st := s_with_stretch) l_with_stretch c_with_stretch k_with_stretch
  have b_with_stretch := F_with_stretch.binds (ps := ["stretches", "low", "high"]) fun _ _ _ _ _ _ us hl => by obtain ⟨_, _, _, rfl⟩ := len_3 hl; rfl
  have F_seen := fun_mk (st := s_seen) l_seen c_seen k_seen
  have b_seen := F_seen.binds (ps := ["ground", "spot"]) fun _ _ _ _ _ _ us hl => by obtain ⟨_, _, rfl⟩ := len_2 hl; rfl
  have F_joined := fun_mk (st := s_joined) l_joined c_joined k_joined
  have b_joined := F_joined.binds (ps := ["one", "other"]) fun _ _ _ _ _ _ us hl => by obtain ⟨_, _, rfl⟩ := len_2 hl; rfl
  have F_watched := fun_mk (st := s_watched) l_watched c_watched k_watched
  have b_watched := F_watched.binds (ps := ["ground", "spots"]) fun _ _ _ _ _ _ us hl => by obtain ⟨_, _, rfl⟩ := len_2 hl; rfl
  have F_holds_place := fun_mk (st := s_holds_place) l_holds_place c_holds_place k_holds_place
  have b_holds_place := F_holds_place.binds (ps := ["stretches", "place"]) fun _ _ _ _ _ _ us hl => by obtain ⟨_, _, rfl⟩ := len_2 hl; rfl
  have F_numbers_between := fun_mk (st := s_numbers_between) l_numbers_between c_numbers_between k_numbers_between
  have b_numbers_between := F_numbers_between.binds (ps := ["ground", "x", "other_x"]) fun _ _ _ _ _ _ us hl => by obtain ⟨_, _, _, rfl⟩ := len_3 hl; rfl
  have F_hinder := fun_mk (st := s_hinder) l_hinder c_hinder k_hinder
  have b_hinder := F_hinder.binds (ps := ["ground", "one", "other"]) fun _ _ _ _ _ _ us hl => by obtain ⟨_, _, _, rfl⟩ := len_3 hl; rfl
  have F_clear := fun_mk (st := s_clear) l_clear c_clear k_clear
  have b_clear := F_clear.binds (ps := ["ground", "one", "other"]) fun _ _ _ _ _ _ us hl => by obtain ⟨_, _, _, rfl⟩ := len_3 hl; rfl
  have F_corners_between := fun_mk (st := s_corners_between) l_corners_between c_corners_between k_corners_between
  have b_corners_between := F_corners_between.binds (ps := ["ground", "place", "other_place"]) fun _ _ _ _ _ _ us hl => by obtain ⟨_, _, _, rfl⟩ := len_3 hl; rfl
  have F_sees_place := fun_mk (st := s_sees_place) l_sees_place c_sees_place k_sees_place
  have b_sees_place := F_sees_place.binds (ps := ["ground", "spot", "place"]) fun _ _ _ _ _ _ us hl => by obtain ⟨_, _, _, rfl⟩ := len_3 hl; rfl
  have F_rope := fun_mk (st := s_rope) l_rope c_rope k_rope
  have b_rope := F_rope.binds (ps := ["ground", "one", "other"]) fun _ _ _ _ _ _ us hl => by obtain ⟨_, _, _, rfl⟩ := len_3 hl; rfl
  have F_law_foot_good := fun_mk (st := s_law_foot_good) l_law_foot_good c_law_foot_good k_law_foot_good
  have b_law_foot_good := F_law_foot_good.binds (ps := ["ground", "spot", "foot", "held"]) fun _ _ _ _ _ _ us hl => by obtain ⟨_, _, _, _, rfl⟩ := len_4 hl; rfl
  have F_law := fun_mk (st := s_law) l_law c_law k_law
  have hC_OffGround : ∀ C, PySem.W.nsIn K mainGlobals "OffGround" = some (some (.ref C)) → ExC K C := fun C h => by
    rw [a_OffGround] at h; cases h; exact ExC.of x_OffGround
  have hx_OffGround : ∃ C, PySem.W.nsIn K mainGlobals "OffGround" = some (some (.ref C)) ∧ mg "OffGround" = some (.ref C) := ⟨_, a_OffGround, PySem.W.mg_of X G a_OffGround⟩
  have m_len := PySem.W.mg_none_of X G z_len
  have m_range := PySem.W.mg_none_of X G z_range
  have m_list := PySem.W.mg_none_of X G z_list
  have m_abs := PySem.W.mg_none_of X G z_abs
  have m_tuple := PySem.W.mg_none_of X G z_tuple
  have m_any := PySem.W.mg_none_of X G z_any
  have m_min := PySem.W.mg_none_of X G z_min
  have m_max := PySem.W.mg_none_of X G z_max
  have m_enumerate := PySem.W.mg_none_of X G z_enumerate
  have k_LEAST_CORNERS : ∃ t, mg "LEAST_CORNERS" = some (.int 2 t) := ⟨_, PySem.W.mg_of X G v_LEAST_CORNERS⟩
  have k_MOST_CORNERS : ∃ t, mg "MOST_CORNERS" = some (.int 40 t) := ⟨_, PySem.W.mg_of X G v_MOST_CORNERS⟩
  refine ⟨PySem.W.fnOf "law" "law" (defArgs s_law) (defBody s_law) (defScope s_law) .none kV_law dc_law pm_law an_law cd_law ct_law, fun s v => .of_eq rfl, fun base _ _ => ?_⟩
  have G_law_cell : Got l.prog w K mg base 1 "_law_cell" ["script", "k"] (upF K Dp.sp_law_cell) := ⟨⟨_, _, ok_law_cell F_law_cell m_len, b_law_cell, k_law_cell, PySem.W.mg_of X G a_law_cell⟩⟩
  have G_law_folded : Got l.prog w K mg base 1 "_law_folded" ["script", "start", "size"] (upF K Dp.sp_law_folded) := ⟨⟨_, _, ok_law_folded F_law_folded m_range m_len, b_law_folded, k_law_folded, PySem.W.mg_of X G a_law_folded⟩⟩
  have G_law_mixed : Got l.prog w K mg base 1 "_law_mixed" ["cell", "k"] (upF K Dp.sp_law_mixed) := ⟨⟨_, _, ok_law_mixed F_law_mixed, b_law_mixed, k_law_mixed, PySem.W.mg_of X G a_law_mixed⟩⟩
  have G_law_ground_by : Got l.prog w K mg base 2 "_law_ground_by" ["cells", "count", "scale"] (upF K Dp.sp_law_ground_by) := ⟨⟨_, _, ok_law_ground_by F_law_ground_by G_law_mixed m_range, b_law_ground_by, k_law_ground_by, PySem.W.mg_of X G a_law_ground_by⟩⟩
  have G_law_names : Got l.prog w K mg base 1 "_law_names" ["base"] (upF K Dp.sp_law_names) := ⟨⟨_, _, ok_law_names F_law_names m_range, b_law_names, k_law_names, PySem.W.mg_of X G a_law_names⟩⟩
  have G_law_high : Got l.prog w K mg base 1 "_law_high" ["corners", "x"] (upF K Dp.sp_law_high) := ⟨⟨_, _, ok_law_high F_law_high m_range m_len, b_law_high, k_law_high, PySem.W.mg_of X G a_law_high⟩⟩
  have G_law_beacon : Got l.prog w K mg base 2 "_law_beacon" ["cell", "k", "corners", "scale", "name"] (upF K Dp.sp_law_beacon) := ⟨⟨_, _, ok_law_beacon F_law_beacon G_law_mixed G_law_high, b_law_beacon, k_law_beacon, PySem.W.mg_of X G a_law_beacon⟩⟩
  have G_law_fog : Got l.prog w K mg base 2 "_law_fog" ["cell", "k", "corners", "scale", "hours"] (upF K Dp.sp_law_fog) := ⟨⟨_, _, ok_law_fog F_law_fog G_law_mixed, b_law_fog, k_law_fog, PySem.W.mg_of X G a_law_fog⟩⟩
  have G_law_parts : Got l.prog w K mg base 3 "_law_parts" ["script"] (upF K Dp.sp_law_parts) := ⟨⟨_, _, ok_law_parts F_law_parts G_law_cell G_law_folded G_law_ground_by G_law_names G_law_beacon G_law_fog m_range, b_law_parts, k_law_parts, PySem.W.mg_of X G a_law_parts⟩⟩
  have G_refuse_bad_corners : Got l.prog w K mg base 1 "refuse_bad_corners" ["corners"] (upF K Dp.sp_refuse_bad_corners) := ⟨⟨_, _, ok_refuse_bad_corners F_refuse_bad_corners k_LEAST_CORNERS k_MOST_CORNERS m_len m_range, b_refuse_bad_corners, k_refuse_bad_corners, PySem.W.mg_of X G a_refuse_bad_corners⟩⟩
  have G_Ground : GotC l.prog w K mg base 2 "Ground" (upF K Dp.sp_Ground) := ⟨⟨_, _, _, _, _, ⟨q1_Ground_init, q2_Ground_init, q3_Ground_init, q4_Ground_init⟩, ok_Ground_init F_Ground_init G_refuse_bad_corners na_Ground_corners m_list, b_Ground_init, PySem.W.mg_of X G a_Ground_init, cls_imp ⟨q5_Ground_init, q6_Ground_init, q7_Ground_init, q8_Ground_init⟩ a_Ground_init⟩⟩
  have G_law_feet : Got l.prog w K mg base 1 "_law_feet" ["corners", "scale"] (upF K Dp.sp_law_feet) := ⟨⟨_, _, ok_law_feet F_law_feet m_range m_len, b_law_feet, k_law_feet, PySem.W.mg_of X G a_law_feet⟩⟩
  have G_less : Got l.prog w K mg base 1 "less" ["one", "other"] (upF K Dp.sp_less) := ⟨⟨_, _, ok_less F_less, b_less, k_less, PySem.W.mg_of X G a_less⟩⟩
  have G_is_on : Got l.prog w K mg base 2 "is_on" ["ground", "place"] (upF K Dp.sp_is_on) := ⟨⟨_, _, ok_is_on F_is_on G_less, b_is_on, k_is_on, PySem.W.mg_of X G a_is_on⟩⟩
  have G_common_divisor : Got l.prog w K mg base 1 "common_divisor" ["one", "other"] (upF K Dp.sp_common_divisor) := ⟨⟨_, _, ok_common_divisor F_common_divisor m_abs, b_common_divisor, k_common_divisor, PySem.W.mg_of X G a_common_divisor⟩⟩
  have G_fraction : Got l.prog w K mg base 2 "fraction" ["top", "bottom"] (upF K Dp.sp_fraction) := ⟨⟨_, _, ok_fraction F_fraction G_common_divisor, b_fraction, k_fraction, PySem.W.mg_of X G a_fraction⟩⟩
  have G_height_on : Got l.prog w K mg base 3 "height_on" ["one", "other", "place"] (upF K Dp.sp_height_on) := ⟨⟨_, _, ok_height_on F_height_on G_fraction, b_height_on, k_height_on, PySem.W.mg_of X G a_height_on⟩⟩
  have G_ground_at : GotX l.prog w K mg base 4 "ground_at" ["ground", "place"] (upFX K Dp.sp_ground_at) := ⟨⟨_, _, ok_ground_at F_ground_at G_is_on G_less G_height_on hC_OffGround hx_OffGround, b_ground_at, k_ground_at, PySem.W.mg_of X G a_ground_at⟩⟩
  have G_stands : Got l.prog w K mg base 5 "stands" ["ground", "spot"] (upF K Dp.sp_stands) := ⟨⟨_, _, ok_stands F_stands G_is_on G_ground_at G_less, b_stands, k_stands, PySem.W.mg_of X G a_stands⟩⟩
  have G_refuse_not_standing : GotX l.prog w K mg base 6 "refuse_not_standing" ["ground", "spot"] (upFX K Dp.sp_refuse_not_standing) := ⟨⟨_, _, ok_refuse_not_standing F_refuse_not_standing G_stands hC_OffGround hx_OffGround, b_refuse_not_standing, k_refuse_not_standing, PySem.W.mg_of X G a_refuse_not_standing⟩⟩
  have G_side_of : Got l.prog w K mg base 1 "side_of" ["one", "other", "spot"] (upF K Dp.sp_side_of) := ⟨⟨_, _, ok_side_of F_side_of, b_side_of, k_side_of, PySem.W.mg_of X G a_side_of⟩⟩
  have G_crossing : Got l.prog w K mg base 3 "crossing" ["one", "other", "three", "four"] (upF K Dp.sp_crossing) := ⟨⟨_, _, ok_crossing F_crossing G_fraction, b_crossing, k_crossing, PySem.W.mg_of X G a_crossing⟩⟩
  have G_first_seen : Got l.prog w K mg base 4 "first_seen" ["spot", "highest", "near", "far"] (upF K Dp.sp_first_seen) := ⟨⟨_, _, ok_first_seen F_first_seen G_crossing, b_first_seen, k_first_seen, PySem.W.mg_of X G a_first_seen⟩⟩
  have G_seen_outward : Got l.prog w K mg base 5 "seen_outward" ["spot", "corners"] (upF K Dp.sp_seen_outward) := ⟨⟨_, _, ok_seen_outward F_seen_outward G_side_of G_first_seen m_len, b_seen_outward, k_seen_outward, PySem.W.mg_of X G a_seen_outward⟩⟩
  have G_lesser : Got l.prog w K mg base 2 "lesser" ["one", "other"] (upF K Dp.sp_lesser) := ⟨⟨_, _, ok_lesser F_lesser G_less, b_lesser, k_lesser, PySem.W.mg_of X G a_lesser⟩⟩
  have G_greater : Got l.prog w K mg base 2 "greater" ["one", "other"] (upF K Dp.sp_greater) := ⟨⟨_, _, ok_greater F_greater G_less, b_greater, k_greater, PySem.W.mg_of X G a_greater⟩⟩
  have G_with_stretch : Got l.prog w K mg base 3 "with_stretch" ["stretches", "low", "high"] (upF K Dp.sp_with_stretch) := ⟨⟨_, _, ok_with_stretch F_with_stretch G_less G_lesser G_greater m_len m_tuple, b_with_stretch, k_with_stretch, PySem.W.mg_of X G a_with_stretch⟩⟩
  have G_seen : GotX l.prog w K mg base 7 "seen" ["ground", "spot"] (upFX K Dp.sp_seen) := ⟨⟨_, _, ok_seen F_seen G_refuse_not_standing G_seen_outward G_with_stretch, b_seen, k_seen, PySem.W.mg_of X G a_seen⟩⟩
  have G_joined : Got l.prog w K mg base 4 "joined" ["one", "other"] (upF K Dp.sp_joined) := ⟨⟨_, _, ok_joined F_joined G_with_stretch, b_joined, k_joined, PySem.W.mg_of X G a_joined⟩⟩
  have G_watched : GotX l.prog w K mg base 8 "watched" ["ground", "spots"] (upFX K Dp.sp_watched) := ⟨⟨_, _, ok_watched F_watched G_seen G_joined, b_watched, k_watched, PySem.W.mg_of X G a_watched⟩⟩
  have G_holds_place : Got l.prog w K mg base 2 "holds_place" ["stretches", "place"] (upF K Dp.sp_holds_place) := ⟨⟨_, _, ok_holds_place F_holds_place G_less m_any, b_holds_place, k_holds_place, PySem.W.mg_of X G a_holds_place⟩⟩
  have G_numbers_between : Got l.prog w K mg base 1 "numbers_between" ["ground", "x", "other_x"] (upF K Dp.sp_numbers_between) := ⟨⟨_, _, ok_numbers_between F_numbers_between m_min m_max m_enumerate, b_numbers_between, k_numbers_between, PySem.W.mg_of X G a_numbers_between⟩⟩
  have G_hinder : GotX l.prog w K mg base 7 "hinder" ["ground", "one", "other"] (upFX K Dp.sp_hinder) := ⟨⟨_, _, ok_hinder F_hinder G_refuse_not_standing G_numbers_between G_side_of, b_hinder, k_hinder, PySem.W.mg_of X G a_hinder⟩⟩
  have G_clear : GotX l.prog w K mg base 8 "clear" ["ground", "one", "other"] (upFX K Dp.sp_clear) := ⟨⟨_, _, ok_clear F_clear G_hinder, b_clear, k_clear, PySem.W.mg_of X G a_clear⟩⟩
  have G_corners_between : Got l.prog w K mg base 3 "corners_between" ["ground", "place", "other_place"] (upF K Dp.sp_corners_between) := ⟨⟨_, _, ok_corners_between F_corners_between G_lesser G_greater G_less, b_corners_between, k_corners_between, PySem.W.mg_of X G a_corners_between⟩⟩
  have G_sees_place : GotX l.prog w K mg base 7 "sees_place" ["ground", "spot", "place"] (upFX K Dp.sp_sees_place) := ⟨⟨_, _, ok_sees_place F_sees_place G_refuse_not_standing G_ground_at G_corners_between G_height_on G_less, b_sees_place, k_sees_place, PySem.W.mg_of X G a_sees_place⟩⟩
  have G_rope : GotX l.prog w K mg base 7 "rope" ["ground", "one", "other"] (upFX K Dp.sp_rope) := ⟨⟨_, _, ok_rope F_rope G_refuse_not_standing G_numbers_between G_side_of m_len, b_rope, k_rope, PySem.W.mg_of X G a_rope⟩⟩
  have G_law_foot_good : Got l.prog w K mg base 9 "_law_foot_good" ["ground", "spot", "foot", "held"] (upF K Dp.sp_law_foot_good) := ⟨⟨_, _, ok_law_foot_good F_law_foot_good G_clear G_ground_at G_sees_place G_rope m_len, b_law_foot_good, k_law_foot_good, PySem.W.mg_of X G a_law_foot_good⟩⟩
  exact ok_law F_law G_law_parts G_law_cell G_Ground G_law_feet G_watched G_seen G_holds_place G_law_foot_good m_list
theorem walk {l : PySem.W.OpenLaw} {q : Program} {loose : List Str} {XP : (Str → Option Value) → Heap → Prop} {YP : World → Heap → Prop} {d : DefRec} {K : Params → PySem.W.Frag} (hn : l.most = some 63) (hdf : d.params.defaults = [])
    (hY : ∀ (w : World) (h : Heap), YP w h → (K w.params).In h)
    (F : ∀ (w : World) (mg : Str → Option Value) (fa : Addr) (h : Heap), (K w.params).In h → h.Ns mainGlobals mg → mg d.name = some (.ref fa) →
      ∃ fd : FuncData, (∀ (s : Shared) (u : Value), BindsTo s fd ⟨[u], []⟩ [("script", u)]) ∧ ∀ base : Heap, (K w.params).In base → base.Ns mainGlobals mg → FnOk l.prog w (K w.params) mg base CX0 10 fa fd ["script"] (upF (K w.params) Dp.sp_law)) :
    PySem.W.WalkO q loose XP YP l.row.toRowW d [] (fun f vs => PySem.call f vs) :=
  L2.walk_of (n := 63) (k := 10) (x := "script") (CX := fun _ => CX0) (sp := fun w => upF (K w.params) Dp.sp_law) hn (by decide) hdf ⟨rfl, by decide, by decide⟩ hY F (fun _ _ _ _ hl hO hS => law_sp hl hO hS) fun _ _ _ _ _ z => z
end Law
open PySem PySem.W PyProof.Rows
def PySem.W.Fast.tw8531841566027815336 : Unit := ()
def PySem.W.Fast.tw2515972824829333606 : Unit := ()
def PySem.W.Fast.tw13613943772700792877 : Unit := ()
def PySem.W.Fast.tw4869183400738630025 : Unit := ()
def PySem.W.Fast.tw1997386987323347669 : Unit := ()
def PySem.W.Fast.tw12932758543485558318 : Unit := ()
def PySem.W.Fast.tw14035606321238409372 : Unit := ()
def PySem.W.Fast.tw17028498658549813985 : Unit := ()
def PySem.W.Fast.tw5896398355503427547 : Unit := ()
def PySem.W.Fast.tw4767515984740221665 : Unit := ()
def PySem.W.Fast.tw12116157554954907957 : Unit := ()
def PySem.W.Fast.tw9735655732888419871 : Unit := ()
def PySem.W.Fast.tw8067429047185582550 : Unit := ()
def PySem.W.Fast.tw15962618176692244075 : Unit := ()
def PySem.W.Fast.tw11802316019929657612 : Unit := ()
def PySem.W.Fast.tw1343852776524243266 : Unit := ()
def PySem.W.Fast.tw7918786745522870406 : Unit := ()
def PySem.W.Fast.tw10974834719455477329 : Unit := ()
def PySem.W.Fast.tw13121813732893491387 : Unit := ()
def PySem.W.Fast.tw3032544209328857562 : Unit := ()
def PySem.W.Fast.tw9930743895663065867 : Unit := ()
def PySem.W.Fast.tw5245404787574285943 : Unit := ()
def PySem.W.Fast.tw8524739330890133880 : Unit := ()
def PySem.W.Fast.tw853148834752902662 : Unit := ()
def PySem.W.Fast.tw3762401915967838475 : Unit := ()
def PySem.W.Fast.tw14089290728228112829 : Unit := ()
def PySem.W.Fast.tw7575571898382611750 : Unit := ()
def PySem.W.Fast.tw14263912701034136687 : Unit := ()
def PySem.W.Fast.tw1789663429060482605 : Unit := ()
def PySem.W.Fast.tw4370493975019130835 : Unit := ()
def PySem.W.Fast.tw10519624009480637158 : Unit := ()
def PySem.W.Fast.tw14209199696633695580 : Unit := ()
def PySem.W.Fast.tw4703738909614440639 : Unit := ()
def PySem.W.Fast.tw1434611867075032109 : Unit := ()
def PySem.W.Fast.tw17219149854397987143 : Unit := ()
def PySem.W.Fast.tw13586835484445952353 : Unit := ()
def PySem.W.Fast.tw1650630535111962896 : Unit := ()
def PySem.W.Fast.tw31898481813078683 : Unit := ()
def PySem.W.Fast.tw7347336905153970141 : Unit := ()
def PySem.W.Fast.tw496324254404905425 : Unit := ()
def PySem.W.Fast.tw4324669840771227807 : Unit := ()
def PySem.W.Fast.tw12684864320322333881 : Unit := ()
def PySem.W.Fast.tw4423355990344290534 : Unit := ()
def PySem.W.Fast.tw3724752881629750892 : Unit := ()
def PySem.W.Fast.tw5418271723141663580 : Unit := ()
def PySem.W.Fast.tw3561767482124372322 : Unit := ()
def PySem.W.Fast.tw14180292454610337523 : Unit := ()
def PySem.W.Fast.tw5444393846425209846 : Unit := ()
def PySem.W.Fast.tw758046321918159933 : Unit := ()
def PySem.W.Fast.tw14689313734720190423 : Unit := ()
def PySem.W.Fast.tw9963982843623633029 : Unit := ()
def PySem.W.Fast.tw11963651069731263100 : Unit := ()
def PySem.W.Fast.tw4210119288734301515 : Unit := ()
def PySem.W.Fast.tw13713808134298151086 : Unit := ()
def PySem.W.Fast.tw7158807996654172805 : Unit := ()
def PySem.W.Fast.tw16500906812539694146 : Unit := ()
def PySem.W.Fast.tw13187242264082832324 : Unit := ()
def PySem.W.Fast.tw7569195202274073885 : Unit := ()
def PySem.W.Fast.tw5510530340744606547 : Unit := ()
def PySem.W.Fast.tw15484722006286344748 : Unit := ()
def PySem.W.Fast.tw11396168240886901999 : Unit := ()
def PySem.W.Fast.tw16339335851918464059 : Unit := ()
def PySem.W.Fast.tw3637085922055500902 : Unit := ()
def PySem.W.Fast.tw3563862735437919598 : Unit := ()
def PySem.W.Fast.tw5468959035225694720 : Unit := ()
def PySem.W.Fast.tw11098964207693157585 : Unit := ()
def PySem.W.Fast.tw8915816280522975805 : Unit := ()
def PySem.W.Fast.tw14833200762517478388 : Unit := ()
def PySem.W.Fast.tw5267480668556941809 : Unit := ()
def PySem.W.Fast.tw16073477537006657688 : Unit := ()
def PySem.W.Fast.tw15070708545235586760 : Unit := ()
def PySem.W.Fast.tw14539969766460520651 : Unit := ()
def PySem.W.Fast.tw8819732270531725974 : Unit := ()
def PySem.W.Fast.tw10409147053232148196 : Unit := ()
def PySem.W.Fast.tw7637118501752809362 : Unit := ()
def PySem.W.Fast.tw4895351404528082673 : Unit := ()
def PySem.W.Fast.tw11388022990619398860 : Unit := ()
def PySem.W.Fast.tw7051014912254551908 : Unit := ()
def PySem.W.Fast.tw7180938535676879812 : Unit := ()
def PySem.W.Fast.tw8227315019046845900 : Unit := ()
def PySem.W.Fast.tw14298195371670668284 : Unit := ()
def PySem.W.Fast.tw10886245433869426495 : Unit := ()
def PySem.W.Fast.tw2793405331229467889 : Unit := ()
def PySem.W.Fast.tw2402984655193591710 : Unit := ()
def PySem.W.Fast.tw11199891706557119870 : Unit := ()
def PySem.W.Fast.tw15325038827960013195 : Unit := ()
def PySem.W.Fast.tw13468200328738674511 : Unit := ()
def PySem.W.Fast.tw9221589975339645766 : Unit := ()
def PySem.W.Fast.tw3686372853122561421 : Unit := ()
def PySem.W.Fast.tw711841222456606170 : Unit := ()
def PySem.W.Fast.tw17997501698395222236 : Unit := ()
def PySem.W.Fast.tw8189621746112291354 : Unit := ()
def PySem.W.Fast.tw13568047998041273975 : Unit := ()
def PySem.W.Fast.tw8029051407140701735 : Unit := ()
def PySem.W.Fast.tw15288855108913714954 : Unit := ()
def PySem.W.Fast.tw4218410851807449580 : Unit := ()
def PySem.W.Fast.tw8708625107802496989 : Unit := ()
def PySem.W.Fast.tw9199153111677333457 : Unit := ()
def PySem.W.Fast.tw2827465931805770840 : Unit := ()
def PySem.W.Fast.tw7798380905220513136 : Unit := ()
set_option maxRecDepth 100000 in
set_option maxHeartbeats 0 in
theorem PySem.Challenge.cw_beaconvale_k97_whole_seen_and_clear_holds : PySem.Challenge.rw_beaconvale_k97_whole_seen_and_clear.Holds := by
  w_on; o_law; k_head; (case hw => w_witness2)
  k_fill
  refine Law.walk (l := PySem.Challenge.rw_beaconvale_k97_whole_seen_and_clear) rfl rfl (fun w h Y => PySem.W.kIn_of Y) ?F
  case F =>
    intro w mg fa h KX G hmg
    refine' Law.all_mk KX G hmg ?a_law_cell ?l_law_cell ?c_law_cell ?k_law_cell ?a_law_folded ?l_law_folded ?c_law_folded ?k_law_folded ?a_law_mixed ?l_law_mixed ?c_law_mixed ?k_law_mixed ?a_law_ground_by ?l_law_ground_by ?c_law_ground_by ?k_law_ground_by ?a_law_names ?l_law_names ?c_law_names ?k_law_names ?a_law_high ?l_law_high ?c_law_high ?k_law_high ?a_law_beacon ?l_law_beacon ?c_law_beacon ?k_law_beacon ?a_law_fog ?l_law_fog ?c_law_fog ?k_law_fog ?a_law_parts ?l_law_parts ?c_law_parts ?k_law_parts ?a_refuse_bad_corners ?l_refuse_bad_corners ?c_refuse_bad_corners ?k_refuse_bad_corners ?a_Ground_init ?l_Ground_init ?c_Ground_init ?k_Ground_init ?q1_Ground_init ?q2_Ground_init ?q3_Ground_init ?q4_Ground_init ?q5_Ground_init ?q6_Ground_init ?q7_Ground_init ?q8_Ground_init ?n0_Ground_init ?a_law_feet ?l_law_feet ?c_law_feet ?k_law_feet ?a_less ?l_less ?c_less ?k_less ?a_is_on ?l_is_on ?c_is_on ?k_is_on ?a_common_divisor ?l_common_divisor ?c_common_divisor ?k_common_divisor ?a_fraction ?l_fraction ?c_fraction ?k_fraction ?a_height_on ?l_height_on ?c_height_on ?k_height_on ?a_ground_at ?l_ground_at ?c_ground_at ?k_ground_at ?a_stands ?l_stands ?c_stands ?k_stands ?a_refuse_not_standing ?l_refuse_not_standing ?c_refuse_not_standing ?k_refuse_not_standing ?a_side_of ?l_side_of ?c_side_of ?k_side_of ?a_crossing ?l_crossing ?c_crossing ?k_crossing ?a_first_seen ?l_first_seen ?c_first_seen ?k_first_seen ?a_seen_outward ?l_seen_outward ?c_seen_outward ?k_seen_outward ?a_lesser ?l_lesser ?c_lesser ?k_lesser ?a_greater ?l_greater ?c_greater ?k_greater ?a_with_stretch ?l_with_stretch ?c_with_stretch ?k_with_stretch ?a_seen ?l_seen ?c_seen ?k_seen ?a_joined ?l_joined ?c_joined ?k_joined ?a_watched ?l_watched ?c_watched ?k_watched ?a_holds_place ?l_holds_place ?c_holds_place ?k_holds_place ?a_numbers_between ?l_numbers_between ?c_numbers_between ?k_numbers_between ?a_hinder ?l_hinder ?c_hinder ?k_hinder ?a_clear ?l_clear ?c_clear ?k_clear ?a_corners_between ?l_corners_between ?c_corners_between ?k_corners_between ?a_sees_place ?l_sees_place ?c_sees_place ?k_sees_place ?a_rope ?l_rope ?c_rope ?k_rope ?a_law_foot_good ?l_law_foot_good ?c_law_foot_good ?k_law_foot_good ?a_law ?l_law ?c_law ?k_law ?a_OffGround ?x_OffGround ?z_len ?z_range ?z_list ?z_abs ?z_tuple ?z_any ?z_min ?z_max ?z_enumerate ?v_LEAST_CORNERS ?v_MOST_CORNERS
    (case a_OffGround => k_is)
    (case a_Ground_init => k_is)
    (case q2_Ground_init => k_is)
    (case a_law_cell => k_is)
    (case l_law_cell => k_is)
    (case c_law_cell => k_is)
    (case k_law_cell => k_is)
    (case a_law_folded => k_is)
    (case l_law_folded => k_is)
    (case c_law_folded => k_is)
    (case k_law_folded => k_is)
    (case a_law_mixed => k_is)
    (case l_law_mixed => k_is)
    (case c_law_mixed => k_is)
    (case k_law_mixed => k_is)
    (case a_law_ground_by => k_is)
    (case l_law_ground_by => k_is)
    (case c_law_ground_by => k_is)
    (case k_law_ground_by => k_is)
    (case a_law_names => k_is)
    (case l_law_names => k_is)
    (case c_law_names => k_is)
    (case k_law_names => k_is)
    (case a_law_high => k_is)
    (case l_law_high => k_is)
    (case c_law_high => k_is)
    (case k_law_high => k_is)
    (case a_law_beacon => k_is)
    (case l_law_beacon => k_is)
    (case c_law_beacon => k_is)
    (case k_law_beacon => k_is)
    (case a_law_fog => k_is)
    (case l_law_fog => k_is)
    (case c_law_fog => k_is)
    (case k_law_fog => k_is)
    (case a_law_parts => k_is)
    (case l_law_parts => k_is)
    (case c_law_parts => k_is)
    (case k_law_parts => k_is)
    (case a_refuse_bad_corners => k_is)
    (case l_refuse_bad_corners => k_is)
    (case c_refuse_bad_corners => k_is)
    (case k_refuse_bad_corners => k_is)
    (case l_Ground_init => k_is)
    (case c_Ground_init => k_is)
    (case k_Ground_init => k_is)
    (case q1_Ground_init => k_is)
    (case q3_Ground_init => k_is)
    (case q4_Ground_init => k_is)
    (case q5_Ground_init => k_is)
    (case q6_Ground_init => k_is)
    (case q7_Ground_init => k_is)
    (case q8_Ground_init => k_is)
    (case n0_Ground_init => k_is)
    (case a_law_feet => k_is)
    (case l_law_feet => k_is)
    (case c_law_feet => k_is)
    (case k_law_feet => k_is)
    (case a_less => k_is)
    (case l_less => k_is)
    (case c_less => k_is)
    (case k_less => k_is)
    (case a_is_on => k_is)
    (case l_is_on => k_is)
    (case c_is_on => k_is)
    (case k_is_on => k_is)
    (case a_common_divisor => k_is)
    (case l_common_divisor => k_is)
    (case c_common_divisor => k_is)
    (case k_common_divisor => k_is)
    (case a_fraction => k_is)
    (case l_fraction => k_is)
    (case c_fraction => k_is)
    (case k_fraction => k_is)
    (case a_height_on => k_is)
    (case l_height_on => k_is)
    (case c_height_on => k_is)
    (case k_height_on => k_is)
    (case a_ground_at => k_is)
    (case l_ground_at => k_is)
    (case c_ground_at => k_is)
    (case k_ground_at => k_is)
    (case a_stands => k_is)
    (case l_stands => k_is)
    (case c_stands => k_is)
    (case k_stands => k_is)
    (case a_refuse_not_standing => k_is)
    (case l_refuse_not_standing => k_is)
    (case c_refuse_not_standing => k_is)
    (case k_refuse_not_standing => k_is)
    (case a_side_of => k_is)
    (case l_side_of => k_is)
    (case c_side_of => k_is)
    (case k_side_of => k_is)
    (case a_crossing => k_is)
    (case l_crossing => k_is)
    (case c_crossing => k_is)
    (case k_crossing => k_is)
    (case a_first_seen => k_is)
    (case l_first_seen => k_is)
    (case c_first_seen => k_is)
    (case k_first_seen => k_is)
    (case a_seen_outward => k_is)
    (case l_seen_outward => k_is)
    (case c_seen_outward => k_is)
    (case k_seen_outward => k_is)
    (case a_lesser => k_is)
    (case l_lesser => k_is)
    (case c_lesser => k_is)
    (case k_lesser => k_is)
    (case a_greater => k_is)
    (case l_greater => k_is)
    (case c_greater => k_is)
    (case k_greater => k_is)
    (case a_with_stretch => k_is)
    (case l_with_stretch => k_is)
    (case c_with_stretch => k_is)
    (case k_with_stretch => k_is)
    (case a_seen => k_is)
    (case l_seen => k_is)
    (case c_seen => k_is)
    (case k_seen => k_is)
    (case a_joined => k_is)
    (case l_joined => k_is)
    (case c_joined => k_is)
    (case k_joined => k_is)
    (case a_watched => k_is)
    (case l_watched => k_is)
    (case c_watched => k_is)
    (case k_watched => k_is)
    (case a_holds_place => k_is)
    (case l_holds_place => k_is)
    (case c_holds_place => k_is)
    (case k_holds_place => k_is)
    (case a_numbers_between => k_is)
    (case l_numbers_between => k_is)
    (case c_numbers_between => k_is)
    (case k_numbers_between => k_is)
    (case a_hinder => k_is)
    (case l_hinder => k_is)
    (case c_hinder => k_is)
    (case k_hinder => k_is)
    (case a_clear => k_is)
    (case l_clear => k_is)
    (case c_clear => k_is)
    (case k_clear => k_is)
    (case a_corners_between => k_is)
    (case l_corners_between => k_is)
    (case c_corners_between => k_is)
    (case k_corners_between => k_is)
    (case a_sees_place => k_is)
    (case l_sees_place => k_is)
    (case c_sees_place => k_is)
    (case k_sees_place => k_is)
    (case a_rope => k_is)
    (case l_rope => k_is)
    (case c_rope => k_is)
    (case k_rope => k_is)
    (case a_law_foot_good => k_is)
    (case l_law_foot_good => k_is)
    (case c_law_foot_good => k_is)
    (case k_law_foot_good => k_is)
    (case a_law => k_is)
    (case l_law => k_is)
    (case c_law => k_is)
    (case k_law => k_is)
    (case x_OffGround => kernel_rfl)
    (case z_len => k_is)
    (case z_range => k_is)
    (case z_list => k_is)
    (case z_abs => k_is)
    (case z_tuple => k_is)
    (case z_any => k_is)
    (case z_min => k_is)
    (case z_max => k_is)
    (case z_enumerate => k_is)
    (case v_LEAST_CORNERS => k_is)
    (case v_MOST_CORNERS => k_is)
#print axioms PySem.Challenge.cw_beaconvale_k97_whole_seen_and_clear_holds
