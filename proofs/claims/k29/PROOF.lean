import PyProof.Rows.All
import Wide.All
import OpenK.AllK
import Wide.FinOn
import Lean
import PyProof.EqAt
import PyProof.EqKinds
import PyProof.TupleCall
import PyProof.NeData
import PyProof.P3Eq
import PySem.Challenge.RW_beaconvale_k29_whole_hours_gone_through
set_option Elab.async false
set_option linter.all false
set_option maxRecDepth 100000
set_option maxHeartbeats 4000000
set_option Elab.async false
set_option linter.all false
set_option maxRecDepth 100000
namespace L2
open PySem PySem.Spec PyProof.Rows
abbrev Key := Sum Int Str
def keyIs : Key → Value → Bool
  | .inl k, v => Value.isInt k v
  | .inr x, v => Value.isStrOf x v
def keyH (w : World) : Key → Int
  | .inl k => hashInt k
  | .inr x => hashStr w x
theorem keyIs_shape : ∀ {k : Key} {v : Value}, keyIs k v = true → (∃ i t, k = Sum.inl i ∧ v = Value.int i t) ∨ (∃ x t, k = Sum.inr x ∧ v = Value.str x t)
  | .inl i, v, h => by
    obtain ⟨t, e⟩ := Value.isInt_shape (k := i) (v := v) h
    exact .inl ⟨i, t, rfl, e⟩
  | .inr x, v, h => by
    obtain ⟨t, e⟩ := Value.isStrOf_shape (x := x) (v := v) h
    exact .inr ⟨x, t, rfl, e⟩
theorem key_ll (a b : Int) : decide ((Sum.inl a : Key) = Sum.inl b) = (a == b) := by
  by_cases e : a = b
  · subst e; simp
  · have h : ¬ (Sum.inl a : Key) = Sum.inl b := fun q => e (Sum.inl.inj q)
    rw [decide_eq_false h]
    exact (beq_eq_false_iff_ne.mpr e).symm
theorem key_rr (a b : Str) : decide ((Sum.inr a : Key) = Sum.inr b) = decide (a = b) := by
  by_cases e : a = b
  · subst e; simp
  · have h : ¬ (Sum.inr a : Key) = Sum.inr b := fun q => e (Sum.inr.inj q)
    rw [decide_eq_false h, decide_eq_false e]
theorem key_lr (a : Int) (b : Str) : decide ((Sum.inl a : Key) = Sum.inr b) = false := decide_eq_false (fun q => nomatch q)
theorem key_rl (a : Str) (b : Int) : decide ((Sum.inr a : Key) = Sum.inl b) = false := decide_eq_false (fun q => nomatch q)
def mixKind (prog : Program) (w : World) : PySem.KeyKind prog w Key where
  is := keyIs
  hash := keyH w
  inj := fun v a b ha hb => by
    rcases keyIs_shape ha with ⟨i, t, rfl, rfl⟩ | ⟨x, t, rfl, rfl⟩
    · rcases keyIs_shape hb with ⟨j, u, rfl, e⟩ | ⟨y, u, rfl, e⟩
      · injection e with e1 _; rw [e1]
      · exact nomatch e
    · rcases keyIs_shape hb with ⟨j, u, rfl, e⟩ | ⟨y, u, rfl, e⟩
      · exact nomatch e
      · injection e with e1 _; rw [e1]
  byValue := fun k v h => by
    rcases keyIs_shape h with ⟨i, t, rfl, rfl⟩ | ⟨x, t, rfl, rfl⟩ <;> rfl
  pyHash := fun hv h => by
    rcases keyIs_shape hv with ⟨i, t, rfl, rfl⟩ | ⟨x, t, rfl, rfl⟩
    · exact wpAny_pyHash_int h
    · exact wpAny_pyHash_str h
  eqBool := fun hu hv h => by
    rcases keyIs_shape hu with ⟨i, t, rfl, rfl⟩ | ⟨x, t, rfl, rfl⟩
    · rcases keyIs_shape hv with ⟨j, u, rfl, rfl⟩ | ⟨y, u, rfl, rfl⟩
      · rw [key_ll] at h; exact wpAny_eqBool_int h
      · rw [key_lr] at h; exact SeqAt.EqAt.int_str i t y u _ _ _ _ h
    · rcases keyIs_shape hv with ⟨j, u, rfl, rfl⟩ | ⟨y, u, rfl, rfl⟩
      · rw [key_rl] at h; exact SeqAt.EqAt.str_int x t j u _ _ _ _ h
      · rw [key_rr] at h; exact wpAny_eqBool_str h
  «strs» := fun k x t v h => by
    rcases keyIs_shape h with ⟨i, u, rfl, e⟩ | ⟨y, u, rfl, e⟩
    · exact nomatch e
    · injection e with e1 _
      subst e1
      cases v <;> rfl
end L2
namespace L2
open PySem PySem.Spec PyProof.Rows
inductive V where
  | non | bl (b : Bool) | int (i : Int) | str (x : Str) | byt (b : Array UInt8) | flt (b : UInt64) | ref (a : Addr) | ty (n : String)
  deriving DecidableEq
def RelV : V → Value → Prop
  | .non, u => u = Value.none
  | .bl b, u => u = Value.bool b
  | .int i, u => ∃ t, u = Value.int i t
  | .str x, u => ∃ t, u = Value.str x t
  | .byt b, u => ∃ t, u = Value.bytes b t
  | .flt b, u => ∃ t, u = Value.float b t
  | .ref a, u => u = Value.ref a
  | .ty n, u => u = Value.type n
abbrev Vals : List V → List Value → Prop := Paired RelV
theorem Vals.length {xs : List V} {us : List Value} (r : Vals xs us) : xs.length = us.length := Paired.length r
theorem Vals.get : ∀ {xs : List V} {us : List Value} {i : Nat} {x : V}, Vals xs us → xs[i]? = some x → ∃ u, us[i]? = some u ∧ RelV x u
  | _, _, _, _, .nil, e => by simp at e
  | _, _, 0, _, .cons r _, e => by simp at e; subst e; exact ⟨_, rfl, r⟩
  | _, _, i + 1, x, .cons _ t, e => by
    obtain ⟨u, h1, h2⟩ := Vals.get (i := i) (x := x) t (by simpa using e)
    exact ⟨u, by simpa using h1, h2⟩
theorem Vals.set {x : V} {u : Value} (r : RelV x u) : ∀ {xs : List V} {us : List Value} (i : Nat), Vals xs us → Vals (xs.set i x) (us.set i u)
  | _, _, _, .nil => .nil
  | _, _, 0, .cons _ t => .cons r t
  | _, _, i + 1, .cons q t => .cons q (Vals.set r i t)
theorem Vals.append : ∀ {xs ys : List V} {us ws : List Value}, Vals xs us → Vals ys ws → Vals (xs ++ ys) (us ++ ws)
  | _, _, _, _, .nil, s => s
  | _, _, _, _, .cons r t, s => .cons r (Vals.append t s)
theorem Vals.take : ∀ {xs : List V} {us : List Value} (n : Nat), Vals xs us → Vals (xs.take n) (us.take n)
  | _, _, 0, _ => .nil
  | _, _, _ + 1, .nil => .nil
  | _, _, n + 1, .cons r t => .cons r (Vals.take n t)
theorem Vals.drop : ∀ {xs : List V} {us : List Value} (n : Nat), Vals xs us → Vals (xs.drop n) (us.drop n)
  | _, _, 0, r => r
  | _, _, _ + 1, .nil => .nil
  | _, _, n + 1, .cons _ t => Vals.drop n t
def RelO : Option V → Option Value → Prop
  | some v, some u => RelV v u
  | none, none => True
  | _, _ => False
def KV {κ : Type} : List (κ × V) → List (κ × Value) → Prop := Paired fun (p : κ × V) (q : κ × Value) => p.1 = q.1 ∧ RelV p.2 q.2
def kV : Key → V
  | .inl i => .int i
  | .inr x => .str x
inductive HO where
  | lst (xs : List V)
  | tup (xs : List V)
  | dK (kvs : List (Key × V)) | dT (kvs : List (List Key × V))
  | set (S : Int → Bool) (n : Nat)
  | ins (C dx : Addr) (fs : List (Str × V))
  | own (x : Addr)
  | xd (fs : List (Str × V))
  | met (f x : Addr)
  | rng (lo hi : Int)
  | frz (o : Obj) (u : HO)
  | tbl (ps : Array Value)
  | ext (φ : Heap → Prop)
abbrev Hp := Addr → Option HO
def upd (H : Hp) (a : Addr) (o : HO) : Hp := fun b => if b = a then some o else H b
theorem upd_same {H : Hp} {a : Addr} {o : HO} : upd H a o a = some o := by unfold upd; rw [if_pos rfl]
theorem upd_ne {H : Hp} {a b : Addr} {o : HO} (h : b ≠ a) : upd H a o b = H b := by unfold upd; rw [if_neg h]
theorem ne_of {H : Hp} {a b : Addr} {o u : HO} (h : H a = some o) (h' : H b = some u) (d : o ≠ u) : a ≠ b := by
  intro e; subst e; rw [h] at h'; exact d (Option.some.inj h')
theorem ne_of_none {H : Hp} {a b : Addr} {o : HO} (h : H a = some o) (h' : H b = none) : a ≠ b := by
  intro e; subst e; rw [h] at h'; cases h'
section
variable (P : Program) (w : World)
def ObjOk (H : Hp) (h : Heap) (a : Addr) : HO → Prop
  | .lst xs => xs.length ≤ sizeLine ∧ ∃ (its : List Value) (n : Nat), Vals xs its ∧ h.get? a = some { cls := .type "list", data := .seq its.toArray n }
  | .tup xs => xs.length ≤ sizeLine ∧ ∃ its : List Value, Vals xs its ∧ IsTup h a its.toArray
  | .dK kvs => kvs.length ≤ sizeLine ∧ (a == sysModules) = false ∧ ∃ vs, KV kvs vs ∧ h.DictOf (mixKind P w) a vs
  | .dT kvs => kvs.length ≤ sizeLine ∧ (a == sysModules) = false ∧ ∃ xs : List (List Key × Addr × Value),
      Paired (fun (p : List Key × V) (q : List Key × Addr × Value) => p.1 = q.1 ∧ H q.2.1 = some (.tup (p.1.map kV)) ∧ RelV p.2 q.2.2) kvs xs ∧
      ∃ o es ep, h.get? a = some o ∧ o.ExactDict ∧ o.data = .dict es ep ∧ es.toList = xs.map (entryOfKey (tupleKind (mixKind P w))) ∧ (xs.map (·.1)).Nodup
  | .set S n => h.SetOf (intKind P w) a S n
  | .ins C dx fs => H dx = some (.own a) ∧ fs.length ≤ 1000 ∧ dx ≠ a ∧ h.get? a = some (PySem.W.instObj C dx) ∧
      ∃ mA, h.Ns1 dx mA ∧ (∀ f, RelO (fs.lookup f) (mA f)) ∧ PySem.Within mA (fs.map (·.1))
  | .own _ => ∃ o, h.get? a = some o
  | .xd fs => ∃ mA, h.Ns1 a mA ∧ ∀ f, RelO (fs.lookup f) (mA f)
  | .rng lo hi => ∃ t u v, h.get? a = some { cls := .type "range", data := .fields #[.int lo t, .int hi u, .int 1 v] }
  | .frz o u => h.get? a = some o ∧ ObjOk H h a u
  | .tbl ps => h.get? a = some { cls := .none, data := .fields ps }
  | .met f x => h.get? a = some (PySem.W.methodObj (.ref f) (.ref x))
  | .ext φ => φ h ∧ (∃ o, h.get? a = some o) ∧ ∀ h1 h2 : Heap, φ h1 → (∀ o, h1.get? a = some o → h2.get? a = some o) → φ h2
def HOk (H : Hp) (h : Heap) : Prop := ∀ a o, H a = some o → ObjOk P w H h a o
end
section
variable {P : Program} {w : World} {H H' : Hp} {h h' : Heap} {a : Addr} {o : HO}
theorem ObjOk.lt (x : ObjOk P w H h a o) : a < h.objs.size := by
  cases o with
  | lst xs => obtain ⟨_, _, _, _, e⟩ := x; exact Heap.lt_size e
  | tup xs => obtain ⟨_, _, _, p⟩ := x; exact p.lt
  | dK kvs => obtain ⟨_, _, _, _, o, _, _, e, _⟩ := x; exact Heap.lt_size e
  | dT kvs => obtain ⟨_, _, _, _, o, _, _, e, _⟩ := x; exact Heap.lt_size e
  | set S n => obtain ⟨o, _, _, _, e, _⟩ := x; exact Heap.lt_size e
  | ins C dx fs => obtain ⟨_, _, _, e, _⟩ := x; exact Heap.lt_size e
  | own y => obtain ⟨_, e⟩ := x; exact Heap.lt_size e
  | xd fs => obtain ⟨_, ⟨_, _, _, e, _⟩, _⟩ := x; exact Heap.lt_size e
  | rng lo hi => obtain ⟨_, _, _, e⟩ := x; exact Heap.lt_size e
  | frz ob u => obtain ⟨e, _⟩ := x; exact Heap.lt_size e
  | tbl ps => exact Heap.lt_size (show h.get? a = some _ from x)
  | met f y => exact Heap.lt_size (show h.get? a = some _ from x)
  | ext φ => obtain ⟨_, ⟨_, e⟩, _⟩ := x; exact Heap.lt_size e
theorem Paired.mapP {α β : Type} {F G : α → β → Prop} : ∀ {l₁ : List α} {l₂ : List β}, Paired F l₁ l₂ → (∀ a b, F a b → G a b) → Paired G l₁ l₂
  | _, _, .nil, _ => .nil
  | _, _, .cons r t, f => .cons (f _ _ r) (Paired.mapP t f)
theorem Paired.imp' {α β : Type} {F G : α → β → Prop} (f : ∀ a b, F a b → G a b) {l₁ : List α} {l₂ : List β} (r : Paired F l₁ l₂) : Paired G l₁ l₂ := Paired.mapP r f
theorem ObjOk.stay (x : ObjOk P w H h a o) (k : ∀ b u, (b = a ∨ H b = some (.own a)) → h.get? b = some u → h'.get? b = some u)
    (ho : ∀ b, H b = some (.own a) → H' b = some (.own a)) (ht : ∀ b xs, H b = some (.tup xs) → H' b = some (.tup xs)) : ObjOk P w H' h' a o := by
  induction o with
  | lst xs => obtain ⟨z, its, n, r, e⟩ := x; exact ⟨z, its, n, r, k _ _ (.inl rfl) e⟩
  | tup xs => obtain ⟨z, its, r, ob, e, c⟩ := x; exact ⟨z, its, r, ob, k _ _ (.inl rfl) e, c⟩
  | dK kvs => obtain ⟨z, y, vs, r, ob, es, ep, e, c⟩ := x; exact ⟨z, y, vs, r, ob, es, ep, k _ _ (.inl rfl) e, c⟩
  | dT kvs =>
    obtain ⟨z, y, xs, r, ob, es, ep, e, c⟩ := x
    exact ⟨z, y, xs, Paired.mapP r fun p q z => ⟨z.1, ht _ _ z.2.1, z.2.2⟩, ob, es, ep, k _ _ (.inl rfl) e, c⟩
  | set S n => obtain ⟨ob, es, ep, t, e, c⟩ := x; exact ⟨ob, es, ep, t, k _ _ (.inl rfl) e, c⟩
  | ins C dx fs =>
    obtain ⟨d, z, ne, e, mA, ⟨od, es, ep, e2, c⟩, r⟩ := x
    exact ⟨ho _ d, z, ne, k _ _ (.inl rfl) e, mA, ⟨od, es, ep, k _ _ (.inr d) e2, c⟩, r⟩
  | own y => obtain ⟨ob, e⟩ := x; exact ⟨ob, k _ _ (.inl rfl) e⟩
  | xd fs => obtain ⟨mA, ⟨od, es, ep, e, c⟩, r⟩ := x; exact ⟨mA, ⟨od, es, ep, k _ _ (.inl rfl) e, c⟩, r⟩
  | rng lo hi => obtain ⟨t, u, v, e⟩ := x; exact ⟨t, u, v, k _ _ (.inl rfl) e⟩
  | frz ob u ih => obtain ⟨e, q⟩ := x; exact ⟨k _ _ (.inl rfl) e, ih q⟩
  | tbl ps =>
    have e : h.get? a = some { cls := .none, data := .fields ps } := x
    show h'.get? a = some { cls := .none, data := .fields ps }
    exact k a _ (.inl rfl) e
  | met f y =>
    have e : h.get? a = some (PySem.W.methodObj (.ref f) (.ref y)) := x
    show h'.get? a = some (PySem.W.methodObj (.ref f) (.ref y))
    exact k a _ (.inl rfl) e
  | ext φ => obtain ⟨p, ⟨o, e⟩, st⟩ := x; exact ⟨st _ _ p fun o q => k _ _ (.inl rfl) q, ⟨o, k _ _ (.inl rfl) e⟩, st⟩
theorem HOk.lt (x : HOk P w H h) (e : H a = some o) : a < h.objs.size := (x a o e).lt
theorem HOk.fresh (x : HOk P w H h) (e : h.objs.size ≤ a) : H a = none := by
  cases q : H a with
  | none => rfl
  | some u => exact absurd (Nat.lt_of_lt_of_le (x.lt q) e) (Nat.lt_irrefl _)
theorem HOk.kept (x : HOk P w H h) (k : ∀ b u, h.get? b = some u → h'.get? b = some u) : HOk P w H h' := fun a o e =>
  (x a o e).stay (fun b u _ q => k b u q) (fun _ q => q) fun _ _ q => q
theorem HOk.laid (x : HOk P w H h) (k : ∀ b u, h.get? b = some u → h'.get? b = some u) (hp : h.objs.size ≤ a) (new : ObjOk P w (upd H a o) h' a o) : HOk P w (upd H a o) h' := fun b u e => by
  have hn := x.fresh hp
  by_cases hb : b = a
  · subst hb; rw [upd_same] at e; cases e; exact new
  · rw [upd_ne hb] at e
    exact (x b u e).stay (fun c v _ q => k c v q) (fun c q => by rw [upd_ne (ne_of_none q hn)]; exact q) fun c xs q => by rw [upd_ne (ne_of_none q hn)]; exact q
end
def Rd (H : Hp) (a : Addr) (u : HO) : Prop := H a = some u ∨ ∃ o, H a = some (.frz o u)
theorem Rd.of {H : Hp} {a : Addr} {u : HO} (h : H a = some u) : Rd H a u := .inl h
theorem Rd.ok {P : Program} {w : World} {H : Hp} {h : Heap} {a : Addr} {u : HO} (r : Rd H a u) (x : HOk P w H h) : ObjOk P w H h a u := by
  rcases r with r | ⟨o, r⟩
  · exact x a u r
  · obtain ⟨_, q⟩ := x a _ r
    exact q
def Mut : Option HO → Prop
  | some (.lst _) => True
  | some (.dK _) => True
  | some (.dT _) => True
  | some (.set _ _) => True
  | some (.ins _ _ _) => True
  | some (.ext _) => True
  | _ => False
section
variable {P : Program} {w : World} {H : Hp} {h h' : Heap} {x e : Addr} {o' : HO}
theorem HOk.write (ok : HOk P w H h) (mu : Mut (H x)) (he : e = x ∨ H e = some (.own x)) (k : ∀ b u, b ≠ e → h.get? b = some u → h'.get? b = some u) (heo : ∃ u, h'.get? e = some u)
    (new : ObjOk P w (upd H x o') h' x o') : HOk P w (upd H x o') h' := fun b u q => by
  have nown : ∀ c y, H c = some (.own y) → c ≠ x := fun c y r z => by subst z; rw [r] at mu; exact mu
  have ntup : ∀ c xs, H c = some (.tup xs) → c ≠ x := fun c xs r z => by subst z; rw [r] at mu; exact mu
  by_cases hb : b = x
  · subst hb; rw [upd_same] at q; cases q; exact new
  · rw [upd_ne hb] at q
    by_cases hbe : b = e
    · have q' : H b = some (.own x) := by
        rcases he with z | z
        · exact absurd (hbe.trans z) hb
        · rw [hbe]; exact z
      rw [q] at q'; cases q'
      obtain ⟨v, hv⟩ := heo
      exact ⟨v, by rw [hbe]; exact hv⟩
    · refine (ok b u q).stay (fun c v hc r => k c v ?_ r) (fun c r => by rw [upd_ne (nown c b r)]; exact r) fun c xs r => by rw [upd_ne (ntup c xs r)]; exact r
      rcases hc with rfl | hc
      · exact hbe
      · rintro rfl
        rcases he with z | z
        · exact nown c b hc z
        · rw [hc] at z; cases z; exact hb rfl
end
structure Un (fs ex : List Addr) (H H' : Hp) (h h' : Heap) : Prop where
  keep : ∀ b o, h.get? b = some o → H b = none → b ∉ fs → b ∉ ex → h'.get? b = some o
  slot : ∀ b o, h.get? b = some o → H b = none → b ∈ fs → b ∉ ex → ∃ sl, h'.get? b = some { o with slots := sl }
  free : ∀ b o, h.get? b = some o → H b = none → b ∉ ex → H' b = none
  there : ∀ b o, h.get? b = some o → b ∉ ex → ∃ o', h'.get? b = some o'
  tups : ∀ b xs, H b = some (.tup xs) → H' b = some (.tup xs)
  frzs : ∀ b o u, H b = some (.frz o u) → H' b = some (.frz o u)
  tbls : ∀ b ps, H b = some (.tbl ps) → ∃ more, H' b = some (.tbl (ps ++ more))
section
variable {fs fs' ex ex' : List Addr} {H H1 H2 : Hp} {h h1 h2 h' : Heap} {a x e : Addr} {o : HO}
theorem Un.any (u : Un fs ex H H1 h h1) {b : Addr} {ob : Obj} (q : h.get? b = some ob) (n : H b = none) (hx : b ∉ ex) : ∃ sl, h1.get? b = some { ob with slots := sl } := by
  by_cases hb : b ∈ fs
  · exact u.slot b ob q n hb hx
  · exact ⟨ob.slots, u.keep b ob q n hb hx⟩
theorem Un.trans (a : Un fs ex H H1 h h1) (b : Un fs ex H1 H2 h1 h2) : Un fs ex H H2 h h2 where
  keep := fun c ob q n hc hx => b.keep c ob (a.keep c ob q n hc hx) (a.free c ob q n hx) hc hx
  slot := fun c ob q n hc hx => by
    obtain ⟨sl, e1⟩ := a.slot c ob q n hc hx
    obtain ⟨sl', e2⟩ := b.slot c _ e1 (a.free c ob q n hx) hc hx
    exact ⟨sl', e2⟩
  free := fun c ob q n hx => by
    obtain ⟨o', e1⟩ := a.there c ob q hx
    exact b.free c o' e1 (a.free c ob q n hx) hx
  there := fun c ob q hx => by
    obtain ⟨o', e1⟩ := a.there c ob q hx
    exact b.there c o' e1 hx
  tups := fun c xs q => b.tups c xs (a.tups c xs q)
  frzs := fun c ob xs q => b.frzs c ob xs (a.frzs c ob xs q)
  tbls := fun c ps q => by
    obtain ⟨m1, e1⟩ := a.tbls c ps q
    obtain ⟨m2, e2⟩ := b.tbls c _ e1
    exact ⟨m1 ++ m2, by rw [e2, Array.append_assoc]⟩
theorem Un.kept (k : ∀ b u, h.get? b = some u → h'.get? b = some u) : Un fs ex H H h h' :=
  ⟨fun b ob q _ _ _ => k b ob q, fun b ob q _ _ _ => ⟨ob.slots, k b ob q⟩, fun _ _ _ n _ => n, fun b ob q _ => ⟨ob, k b ob q⟩, fun _ _ q => q, fun _ _ _ q => q, fun _ ps q => ⟨#[], by rw [q]; simp⟩⟩
theorem Un.refl : Un fs ex H H h h := Un.kept fun _ _ q => q
theorem Un.laid (k : ∀ b u, h.get? b = some u → h'.get? b = some u) (hp : h.objs.size ≤ a) (hn : H a = none) : Un fs ex H (upd H a o) h h' where
  keep := fun b u q _ _ _ => k b u q
  slot := fun b u q _ _ _ => ⟨u.slots, k b u q⟩
  free := fun b u q n _ => by rw [upd_ne (Nat.ne_of_lt (Nat.lt_of_lt_of_le (Heap.lt_size q) hp))]; exact n
  there := fun b u q _ => ⟨u, k b u q⟩
  tups := fun b xs q => by rw [upd_ne (ne_of_none q hn)]; exact q
  frzs := fun b u xs q => by rw [upd_ne (ne_of_none q hn)]; exact q
  tbls := fun b ps q => ⟨#[], by rw [upd_ne (ne_of_none q hn), q]; simp⟩
theorem Un.write (mu : Mut (H x)) (he : e = x ∨ H e = some (.own x)) (k : ∀ b u, b ≠ e → h.get? b = some u → h'.get? b = some u) (heo : ∃ u, h'.get? e = some u) : Un fs ex H (upd H x o) h h' := by
  have hx : ∀ b, H b = none → b ≠ x := fun b n z => by subst z; rw [n] at mu; exact mu
  have hb : ∀ b, H b = none → b ≠ e := fun b n z => by
    subst z
    rcases he with r | r
    · exact hx b n r
    · rw [n] at r; cases r
  have hm : ∀ b u, H b = some u → ¬ Mut (some u) → b ≠ x := fun b u q nm z => by subst z; rw [q] at mu; exact nm mu
  refine ⟨fun b u q n _ _ => k b u (hb b n) q, fun b u q n _ _ => ⟨u.slots, k b u (hb b n) q⟩, fun b u q n _ => by rw [upd_ne (hx b n)]; exact n, fun b u q _ => ?_,
    fun b xs q => by rw [upd_ne (hm b _ q fun z => z)]; exact q, fun b u xs q => by rw [upd_ne (hm b _ q fun z => z)]; exact q, fun b ps q => ⟨#[], by rw [upd_ne (hm b _ q fun z => z), q]; simp⟩⟩
  by_cases hbe : b = e
  · subst hbe; exact heo
  · exact ⟨u, k b u hbe q⟩
theorem Un.mono (u : Un fs ex H H1 h h1) (hs : ∀ b ∈ fs, b ∈ fs') (hx : ∀ b ∈ ex, b ∈ ex') : Un fs' ex' H H1 h h1 :=
  ⟨fun b ob q n hb he => u.keep b ob q n (fun z => hb (hs b z)) fun z => he (hx b z), fun _ _ q n _ he => u.any q n fun z => he (hx _ z), fun b ob q n he => u.free b ob q n fun z => he (hx b z), fun b ob q he => u.there b ob q fun z => he (hx b z), u.tups, u.frzs, u.tbls⟩
end
def trk (h : Heap) (H : Hp) : List Addr := (List.range h.objs.size).filter fun a => (H a).isSome
def hidT (h : Heap) (H : Hp) : Heap := PySem.W.hideAll h (trk h H)
theorem hidT_size (h : Heap) (H : Hp) : (hidT h H).objs.size = h.objs.size := PySem.W.hideAll_size _ _
theorem hidT_get {h : Heap} {H : Hp} {b : Addr} {o : Obj} (e : h.get? b = some o) (n : H b = none) : (hidT h H).get? b = some o :=
  PySem.W.hideAll_get _ e fun hm => by
    have q : (H b).isSome = true := (List.mem_filter.mp hm).2
    rw [n] at q; simp at q
theorem of_hidT {h : Heap} {H : Hp} {b : Addr} {o : Obj} (e : (hidT h H).get? b = some o) : h.get? b = some o ∧ H b = none := by
  have e' : h.get? b = some o := PySem.W.of_hideAll (trk h H) e
  refine ⟨e', ?_⟩
  cases q : H b with
  | none => rfl
  | some x =>
    have hm : b ∈ trk h H := List.mem_filter.mpr ⟨List.mem_range.mpr (Heap.lt_size e'), by simp [q]⟩
    have z : (hidT h H).get? b = none := PySem.W.hideAll_none (trk h H) hm
    rw [z] at e; cases e
def allNews (g h : Heap) (L : Addr) : List (Addr × Obj) := (List.range h.objs.size).filterMap fun a => if a = L ∨ (g.get? a).isSome = true then none else (h.get? a).map fun o => (a, o)
def rest (g h : Heap) (L d : Addr) : List (Addr × Obj) := (allNews g h L).filter fun p => decide (p.1 ≠ d)
end L2
namespace L2
open PySem PySem.Spec PyProof.Rows
structure Mod (K : PySem.W.Frag) (mg : Str → Option Value) (base : Heap) : Prop where
  kin : K.In base
  glob : base.Ns mainGlobals mg
  blt : ∃ mb, base.Ns builtinsNs mb ∧ ∀ x : Str, x ≠ "__name__" → mb x = bootBuiltins x
  nolimit : base.NoLimit
/-- the context: a def's body (or a comprehension's block) running. base: fixed through the whole law; s₀, H₀: the entry; outer: the frames whose slots others may change (a def's callers); stack: all frames that run;
   ex: iterators that were made ahead of the entry and are walked here (a comprehension's); fn: the names whose cells were made at the entry (a def: all; a comprehension's block: its own); calm: not within an except suite; pn: pins that every state bears; xe: what is wanted of an exception that leaves the code -/
structure Cx where
  prog : Program
  w : World
  K : PySem.W.Frag
  mg : Str → Option Value
  base : Heap
  A : Around
  N : List Str
  s₀ : Shared
  H₀ : Hp
  env : Env
  outer : List Env
  stack : List Env
  ex : List Addr
  fn : Str → Bool
  calm : Bool
  pn : List (Addr × Obj)
  xe : Value → Shared → Prop
def frs (l : List Env) : List Addr := l.filterMap (·.frame)
abbrev Cx.fs (X : Cx) : List Addr := frs X.outer
def Vis (sc : Scope) (x : Str) : Prop := sc.names.lookup x = some .local ∨ sc.names.lookup x = some .cell ∨ sc.names.lookup x = some .free
def Loc (sc : Scope) (x : Str) : Prop := sc.names.lookup x = some .local ∨ sc.names.lookup x = some .cell
def Look (env : Env) (h : Heap) (m : Str → Option Value) (x : Str) (u : Value) : Prop :=
  (env.kindOf x = some .local ∧ m x = some u) ∨ ((env.kindOf x = some .cell ∨ env.kindOf x = some .free) ∧ ∃ c, env.cells.lookup x = some c ∧ h.IsCell c (some u))
structure Cx.Ok (X : Cx) : Prop where
  mod : Mod X.K X.mg X.base
  kind : X.env.scope.kind = .function
  glob : X.env.globals = mainGlobals
  blt : X.env.builtins = builtinsNs
  above : X.s₀.heap.objs.size ≤ X.env.locals
  inj : ∀ x y c, X.env.cells.lookup x = some c → X.env.cells.lookup y = some c → x = y
  has : ∀ x, (X.env.kindOf x = some .cell ∨ X.env.kindOf x = some .free) → ∃ c, X.env.cells.lookup x = some c
  cab : ∀ x c, X.fn x = true → X.env.cells.lookup x = some c → X.s₀.heap.objs.size ≤ c
  hd : X.calm = true → X.A.handled = none
  frames : X.A.frames = some X.stack
  stk : X.stack = X.outer ∨ (X.stack = X.env :: X.outer ∧ X.env.frame = some X.env.locals)
  exf : ∀ b ∈ X.ex, b ≠ X.env.locals ∧ ∀ x c, X.env.cells.lookup x = some c → c ≠ b
  bs : ∀ b o, X.base.get? b = some o → X.s₀.heap.get? b = some o ∧ X.H₀ b = none
  bsz : X.base.objs.size ≤ X.s₀.heap.objs.size
  noex : ∀ b o, X.base.get? b = some o → b ∉ X.ex
  exfs : ∀ b ∈ X.ex, b ∉ X.fs
  funs : X.s₀.heap.FunFrames X.base X.outer
  frf : ∀ b ∈ X.fs, X.H₀ b = none
structure Inv (X : Cx) (pins : List (Addr × Obj)) (σ : List (Option V)) (H : Hp) (s : Shared) : Prop where
  ok : X.Ok
  os : s.os = X.s₀.os
  bare : AllBare s.gens
  base : Un X.fs X.ex X.H₀ H X.s₀.heap s.heap
  loc : ∃ m, s.heap.Ns X.env.locals m ∧ ∀ (i : Nat) (x : Str) (v : V), X.N[i]? = some x → σ[i]? = some (some v) → Vis X.env.scope x → ∃ u, RelV v u ∧ Look X.env s.heap m x u
  cell : ∀ x c, X.env.cells.lookup x = some c → ∃ v, s.heap.IsCell c v
  free : H X.env.locals = none
  freeC : ∀ x c, X.env.cells.lookup x = some c → H c = none
  pin : ∀ p ∈ X.pn ++ pins, s.heap.get? p.1 = some p.2 ∧ H p.1 = none ∧ p.1 ≠ X.env.locals ∧ p.1 ∉ X.fs ∧ ∀ v, p.2.data ≠ .cell v
  hok : HOk X.prog X.w H s.heap
  len : σ.length = X.N.length
section
variable {X : Cx} {pins : List (Addr × Obj)} {σ : List (Option V)} {H H' : Hp} {s : Shared} {h' : Heap}
theorem Cx.Ok.nofr (ok : X.Ok) {b : Addr} {o : Obj} (e : X.base.get? b = some o) : b ∉ X.fs := fun hb => by
  have := (ok.funs.mem hb).1
  rw [e] at this; cases this
theorem Inv.bs (I : Inv X pins σ H s) : ∀ b o, X.base.get? b = some o → s.heap.get? b = some o ∧ H b = none := fun b o e =>
  ⟨I.base.keep b o (I.ok.bs b o e).1 (I.ok.bs b o e).2 (I.ok.nofr e) (I.ok.noex b o e), I.base.free b o (I.ok.bs b o e).1 (I.ok.bs b o e).2 (I.ok.noex b o e)⟩
theorem Inv.bk (I : Inv X pins σ H s) : ∀ b o, X.base.get? b = some o → s.heap.get? b = some o := fun b o e => (I.bs b o e).1
theorem Inv.mod (I : Inv X pins σ H s) : Mod X.K X.mg X.base := I.ok.mod
theorem Inv.kIn (I : Inv X pins σ H s) : X.K.In s.heap := I.ok.mod.kin.keeps I.bk
theorem Inv.nolimit (I : Inv X pins σ H s) : s.heap.NoLimit := I.ok.mod.nolimit.keeps I.bk
theorem Inv.fr (I : Inv X pins σ H s) : ∃ m, Fr X.base X.env.locals s.heap m :=
  let ⟨m, hn, _⟩ := I.loc
  ⟨m, hn, I.bk, Nat.le_trans I.ok.bsz I.ok.above⟩
theorem Inv.lt (I : Inv X pins σ H s) : X.env.locals < s.heap.objs.size := let ⟨_, hn, _⟩ := I.loc; hn.lt
theorem Inv.sz (I : Inv X pins σ H s) : X.s₀.heap.objs.size ≤ s.heap.objs.size := Nat.le_trans I.ok.above (Nat.le_of_lt I.lt)
theorem Inv.nofs (I : Inv X pins σ H s) {a : Addr} (h : s.heap.objs.size ≤ a) : a ∉ X.fs := fun hb => by
  obtain ⟨_, o, ho, _⟩ := I.ok.funs.mem hb
  exact absurd (Nat.lt_of_lt_of_le (Heap.lt_size ho) (Nat.le_trans I.sz h)) (Nat.lt_irrefl _)
theorem Inv.cne (I : Inv X pins σ H s) : ∀ x c, X.env.cells.lookup x = some c → c ≠ X.env.locals := fun x c e z => by
  obtain ⟨v, o, ho, hd⟩ := I.cell x c e
  obtain ⟨m, ⟨o', es, ep, ho', hd', _⟩, _⟩ := I.loc
  rw [z, ho'] at ho; cases ho; rw [hd'] at hd; cases hd
theorem Inv.funs (I : Inv X pins σ H s) : s.heap.FunFrames X.base X.outer := by
  have all : ∀ (l : List Env), (∀ b ∈ frs l, b ∈ X.fs) → X.s₀.heap.FunFrames X.base l → s.heap.FunFrames X.base l := by
    intro l
    induction l with
    | nil => intro _ _; trivial
    | cons env r ih =>
      intro hs hl
      obtain ⟨hk, ⟨L, o, hf, hn, ho, hd⟩, hr⟩ := hl
      have hL : L ∈ X.fs := hs L (by unfold frs; rw [List.filterMap_cons, hf]; exact List.mem_cons_self)
      obtain ⟨sl, e⟩ := I.base.slot L o ho (I.ok.frf L hL) hL fun z => I.ok.exfs L z hL
      exact ⟨hk, ⟨L, _, hf, hn, e, hd⟩, ih (fun b hb => hs b (by unfold frs; rw [List.filterMap_cons, hf]; exact List.mem_cons_of_mem _ hb)) hr⟩
  exact all X.outer (fun _ hb => hb) I.ok.funs
theorem Inv.stack (I : Inv X pins σ H s) : s.heap.FunFrames X.base X.stack := by
  rcases I.ok.stk with e | ⟨e, hf⟩
  · rw [e]; exact I.funs
  · rw [e]
    obtain ⟨m, hn, _⟩ := I.loc
    refine .cons (by rw [I.ok.kind]; decide) hf hn ?_ I.funs
    exact Heap.get?_none_of_le (Nat.le_trans I.ok.bsz I.ok.above)
theorem Inv.stkSub (I : Inv X pins σ H s) : ∀ b ∈ frs X.stack, b ∈ X.env.locals :: X.fs := fun b hb => by
  rcases I.ok.stk with e | ⟨e, hf⟩
  · rw [e] at hb; exact List.mem_cons_of_mem _ hb
  · rw [e] at hb
    unfold frs at hb
    rw [List.filterMap_cons, hf] at hb
    exact hb
theorem Inv.stkFree (I : Inv X pins σ H s) : ∀ b ∈ frs X.stack, H b = none := fun b hb => by
  rcases List.mem_cons.mp (I.stkSub b hb) with e | hb
  · rw [e]; exact I.free
  · obtain ⟨_, o, ho, _⟩ := I.ok.funs.mem hb
    exact I.base.free b o ho (I.ok.frf b hb) fun z => I.ok.exfs b z hb
theorem Inv.step {g' : Array GenState} {t' : Nat} {d' : Drawn} {ch : List Addr} (I : Inv X pins σ H s)
    (hch : ∀ b ∈ ch, (b ∈ X.ex ∨ X.s₀.heap.objs.size ≤ b) ∧ b ≠ X.env.locals ∧ (∀ x c, X.env.cells.lookup x = some c → c ≠ b) ∧ ∀ p ∈ X.pn ++ pins, p.1 ≠ b)
    (keep : ∀ b o, b ≠ X.env.locals → b ∉ X.fs → b ∉ ch → s.heap.get? b = some o → H b = none → h'.get? b = some o)
    (slot : ∀ b o, b ≠ X.env.locals → b ∈ X.fs → b ∉ ch → s.heap.get? b = some o → H b = none → ∃ sl, h'.get? b = some { o with slots := sl }) (free : ∀ b o, b ∉ ch → s.heap.get? b = some o → H b = none → H' b = none)
    (there : ∀ b o, b ∉ ch → s.heap.get? b = some o → ∃ o', h'.get? b = some o')
    (tups : ∀ b xs, H b = some (.tup xs) → H' b = some (.tup xs)) (frzs : ∀ b o u, H b = some (.frz o u) → H' b = some (.frz o u)) (tbls : ∀ b ps, H b = some (.tbl ps) → ∃ more, H' b = some (.tbl (ps ++ more)))
    (ns : ∀ m, s.heap.Ns X.env.locals m → h'.Ns X.env.locals m) (hok : HOk X.prog X.w H' h') (hg : AllBare g') :
    Inv X pins σ H' { s with heap := h', gens := g', drawn := d', toks := t' } := by
  have neL : ∀ b o, X.s₀.heap.get? b = some o → b ≠ X.env.locals := fun b o e => Nat.ne_of_lt (Nat.lt_of_lt_of_le (Heap.lt_size e) I.ok.above)
  have neC : ∀ b o, X.s₀.heap.get? b = some o → b ∉ X.ex → b ∉ ch := fun b o e hx hb => by
    rcases (hch b hb).1 with z | z
    · exact hx z
    · exact absurd (Nat.lt_of_lt_of_le (Heap.lt_size e) z) (Nat.lt_irrefl _)
  have cellK : ∀ x c, X.env.cells.lookup x = some c → ∀ v, s.heap.IsCell c v → h'.IsCell c v := fun x c e v ⟨o, ho, hd⟩ => by
    have nch : c ∉ ch := fun z => (hch c z).2.2.1 x c e rfl
    by_cases hc : c ∈ X.fs
    · obtain ⟨sl, q⟩ := slot c o (I.cne x c e) hc nch ho (I.freeC x c e)
      exact ⟨_, q, hd⟩
    · exact ⟨o, keep c o (I.cne x c e) hc nch ho (I.freeC x c e), hd⟩
  refine ⟨I.ok, I.os, hg, ⟨fun b o e n hb hx => ?_, fun b o e n hb hx => ?_, fun b o e n hx => ?_, fun b o e hx => ?_, fun b xs e => tups b xs (I.base.tups b xs e), fun b o xs e => frzs b o xs (I.base.frzs b o xs e), fun b ps e => ?_⟩, ?_, fun x c e => ?_, ?_, fun x c e => ?_, fun p hp => ?_, hok, I.len⟩
  · exact keep b o (neL b o e) hb (neC b o e hx) (I.base.keep b o e n hb hx) (I.base.free b o e n hx)
  · obtain ⟨sl, e1⟩ := I.base.slot b o e n hb hx
    obtain ⟨sl', e2⟩ := slot b _ (neL b o e) hb (neC b o e hx) e1 (I.base.free b o e n hx)
    exact ⟨sl', e2⟩
  · obtain ⟨o', e1⟩ := I.base.there b o e hx
    exact free b o' (neC b o e hx) e1 (I.base.free b o e n hx)
  · obtain ⟨o', e1⟩ := I.base.there b o e hx
    exact there b o' (neC b o e hx) e1
  · obtain ⟨m1, e1⟩ := I.base.tbls b ps e
    obtain ⟨m2, e2⟩ := tbls b _ e1
    exact ⟨m1 ++ m2, by rw [e2, Array.append_assoc]⟩
  · obtain ⟨m, hn, hl⟩ := I.loc
    refine ⟨m, ns m hn, fun i x v e1 e2 e3 => ?_⟩
    obtain ⟨u, r, l⟩ := hl i x v e1 e2 e3
    refine ⟨u, r, ?_⟩
    rcases l with l | ⟨k, c, e, z⟩
    · exact .inl l
    · exact .inr ⟨k, c, e, cellK x c e _ z⟩
  · obtain ⟨v, z⟩ := I.cell x c e
    exact ⟨v, cellK x c e v z⟩
  · obtain ⟨m, ⟨o, _, _, ho, _⟩, _⟩ := I.loc
    exact free _ o (fun z => (hch _ z).2.1 rfl) ho I.free
  · obtain ⟨v, o, ho, hd⟩ := I.cell x c e
    exact free c o (fun z => (hch c z).2.2.1 x c e rfl) ho (I.freeC x c e)
  · obtain ⟨e, n, ne, nf, d⟩ := I.pin p hp
    have nch : p.1 ∉ ch := fun z => (hch p.1 z).2.2.2 p hp rfl
    exact ⟨keep p.1 p.2 ne nf nch e n, free p.1 p.2 nch e n, ne, nf, d⟩
theorem Inv.un {t' : Nat} (I : Inv X pins σ H s) (u : Un X.fs [] H H' s.heap h') (hok : HOk X.prog X.w H' h') : Inv X pins σ H' { s with heap := h', toks := t' } := by
  obtain ⟨m, ⟨o, es, ep, ho, r⟩, _⟩ := id I.loc
  obtain ⟨sl, hL⟩ := u.any ho I.free (by simp)
  exact I.step (g' := s.gens) (d' := s.drawn) (ch := []) (fun _ z => nomatch z) (fun b o _ hb _ e n => u.keep b o e n hb (by simp)) (fun b o _ hb _ e n => u.slot b o e n hb (by simp)) (fun b o _ e n => u.free b o e n (by simp)) (fun b o _ e => u.there b o e (by simp)) u.tups u.frzs u.tbls (fun m' hm => by
    obtain ⟨o', es', ep', ho', r'⟩ := hm
    rw [ho] at ho'; cases ho'
    exact ⟨_, es', ep', hL, r'⟩) hok I.bare
theorem Inv.call {g' : Array GenState} {t' : Nat} {d' : Drawn} {ch : List Addr} (I : Inv X pins σ H s) (u : Un (frs X.stack) ch H H' s.heap h') (hok : HOk X.prog X.w H' h') (hg : AllBare g')
    (hch : ∀ b ∈ ch, (b ∈ X.ex ∨ X.s₀.heap.objs.size ≤ b) ∧ b ≠ X.env.locals ∧ (∀ x c, X.env.cells.lookup x = some c → c ≠ b) ∧ ∀ p ∈ X.pn ++ pins, p.1 ≠ b) :
    Inv X pins σ H' { s with heap := h', gens := g', drawn := d', toks := t' } := by
  obtain ⟨m, ⟨o, es, ep, ho, r⟩, _⟩ := id I.loc
  obtain ⟨sl, hL⟩ := u.any ho I.free fun z => (hch _ z).2.1 rfl
  exact I.step (ch := ch) hch (fun b o hL hb hc e n => u.keep b o e n (fun z => (List.mem_cons.mp (I.stkSub b z)).elim hL hb) hc) (fun b o _ _ hc e n => u.any e n hc) (fun b o hc e n => u.free b o e n hc) (fun b o hc e => u.there b o e hc) u.tups u.frzs u.tbls (fun m' hm => by
    obtain ⟨o', es', ep', ho', r'⟩ := hm
    rw [ho] at ho'; cases ho'
    exact ⟨_, es', ep', hL, r'⟩) hok hg
theorem Inv.turned {t' : Nat} {it : Addr} (I : Inv X pins σ H s) (k : ∀ b o, b ≠ it → s.heap.get? b = some o → h'.get? b = some o) (hn : H it = none) (hL : it ≠ X.env.locals)
    (h1 : it ∈ X.ex ∨ X.s₀.heap.objs.size ≤ it) (h2 : ∀ x c, X.env.cells.lookup x = some c → c ≠ it) (h3 : ∀ p ∈ X.pn ++ pins, p.1 ≠ it) : Inv X pins σ H { s with heap := h', toks := t' } := by
  have nit : ∀ b u, H b = some u → b ≠ it := fun b u e z => by rw [z, hn] at e; cases e
  refine I.step (g' := s.gens) (d' := s.drawn) (ch := [it]) (fun b hb => ?_) (fun b o _ _ hc e _ => k b o (fun z => hc (by simp [z])) e) (fun b o _ _ hc e _ => ⟨o.slots, k b o (fun z => hc (by simp [z])) e⟩) (fun _ _ _ _ n => n)
    (fun b o hc e => ⟨o, k b o (fun z => hc (by simp [z])) e⟩) (fun _ _ e => e) (fun _ _ _ e => e) (fun b ps e => ⟨#[], by rw [e]; simp⟩) (fun m hm => ?_) (fun b u e => ?_) I.bare
  · have e : b = it := by simpa using hb
    subst e
    exact ⟨h1, hL, h2, h3⟩
  · obtain ⟨o, es, ep, ho, r⟩ := hm
    exact ⟨o, es, ep, k _ o (Ne.symm hL) ho, r⟩
  · refine (I.hok b u e).stay (fun c v hc q => k c v ?_ q) (fun _ q => q) fun _ _ q => q
    rcases hc with z | z
    · rw [z]; exact nit b u e
    · exact nit c _ z
theorem Inv.tok (I : Inv X pins σ H s) (t : Nat) : Inv X pins σ H { s with toks := t } := I.un (h' := s.heap) (t' := t) Un.refl I.hok
theorem Inv.kept {t' : Nat} (I : Inv X pins σ H s) (k : ∀ b u, s.heap.get? b = some u → h'.get? b = some u) : Inv X pins σ H { s with heap := h', toks := t' } := I.un (Un.kept k) (I.hok.kept k)
theorem Inv.laid {a : Addr} {o : HO} {t' : Nat} (I : Inv X pins σ H s) (k : ∀ b u, s.heap.get? b = some u → h'.get? b = some u) (hp : s.heap.objs.size ≤ a) (new : ObjOk X.prog X.w (upd H a o) h' a o) :
    Inv X pins σ (upd H a o) { s with heap := h', toks := t' } := I.un (Un.laid k hp (I.hok.fresh hp)) (I.hok.laid k hp new)
theorem Inv.write {x e : Addr} {o : HO} {t' : Nat} (I : Inv X pins σ H s) (mu : Mut (H x)) (he : e = x ∨ H e = some (.own x)) (k : ∀ b u, b ≠ e → s.heap.get? b = some u → h'.get? b = some u) (heo : ∃ u, h'.get? e = some u)
    (new : ObjOk X.prog X.w (upd H x o) h' x o) : Inv X pins σ (upd H x o) { s with heap := h', toks := t' } := I.un (Un.write mu he k heo) (I.hok.write mu he k heo new)
theorem Inv.weak {σ' : List (Option V)} (I : Inv X pins σ H s) (hl : σ'.length = σ.length) (w : ∀ (i : Nat) v, σ'[i]? = some (some v) → σ[i]? = some (some v)) : Inv X pins σ' H s :=
  ⟨I.ok, I.os, I.bare, I.base, let ⟨m, hn, hl'⟩ := I.loc; ⟨m, hn, fun i x v e1 e2 e3 => hl' i x v e1 (w i v e2) e3⟩, I.cell, I.free, I.freeC, I.pin, I.hok, hl.trans I.len⟩
theorem Inv.pins_of {pins' : List (Addr × Obj)} (I : Inv X pins σ H s) (h : ∀ p ∈ pins', s.heap.get? p.1 = some p.2 ∧ H p.1 = none ∧ p.1 ≠ X.env.locals ∧ p.1 ∉ X.fs ∧ ∀ v, p.2.data ≠ .cell v) : Inv X pins' σ H s :=
  ⟨I.ok, I.os, I.bare, I.base, I.loc, I.cell, I.free, I.freeC, fun p hp => (List.mem_append.mp hp).elim (fun z => I.pin p (List.mem_append_left _ z)) (h p), I.hok, I.len⟩
theorem nodup_ix {N : List Str} (hN : N.Nodup) {i j : Nat} {x : Str} (a : N[i]? = some x) (b : N[j]? = some x) : i = j := by
  obtain ⟨h1, e1⟩ := List.getElem?_eq_some_iff.mp a
  obtain ⟨h2, e2⟩ := List.getElem?_eq_some_iff.mp b
  exact (List.getElem_inj hN).mp (e1.trans e2.symm)
theorem store_ok2 {M : Model} {A : Around} {E : Value → Shared → Prop} {i : Nat} {x : Str} {v : V} {u : Value} {Q : Unit → Shared → Prop} (I : Inv X pins σ H s) (hN : X.N.Nodup) (hi : X.N[i]? = some x) (hx : Loc X.env.scope x) (r : RelV v u)
    (h : ∀ s', Inv X pins (σ.set i (some v)) H s' → (∃ a, Heap.SameBut a s.heap s'.heap ∧ (a = X.env.locals ∨ X.env.cells.lookup x = some a)) → Q () s') (hf : X.fn x = true ∨ X.env.scope.names.lookup x = some .local := by first | exact .inl rfl | exact .inr rfl | assumption) : wpAny M A (storeName X.env x u) Q E s := by
  obtain ⟨m, hn, hl⟩ := id I.loc
  have hcls : (X.env.scope.kind == .class || (X.env.scope.kind == .module && X.env.locals != X.env.globals)) = false := by rw [I.ok.kind]; rfl
  have hiσ : i < σ.length := by rw [I.len]; exact (List.getElem?_eq_some_iff.mp hi).1
  have cne := I.cne
  have tracked : ∀ {a : Addr} {h' : Heap}, (∃ o, s.heap.get? a = some o ∧ H a = none) → Heap.SameBut a s.heap h' → HOk X.prog X.w H h' := fun {a h'} ha hs b ob e => by
    obtain ⟨_, _, hfree⟩ := ha
    refine (I.hok b ob e).stay (fun c w' hc q => (hs.2 c ?_).trans q) (fun _ q => q) fun _ _ q => q
    rintro rfl
    rcases hc with rfl | hc
    · rw [hfree] at e; cases e
    · rw [hfree] at hc; cases hc
  rcases hx with hk | hk
  · refine wpAny_storeName_local hk hn (fun h' hn' hs => ?_) hcls
    obtain ⟨oL, _, _, hoL, _⟩ := id hn
    refine h _ ⟨I.ok, I.os, I.bare, ⟨fun b o e n hb hx => ?_, fun b o e n hb hx => ?_, I.base.free, fun b o e hx => ?_, I.base.tups, I.base.frzs, I.base.tbls⟩, ⟨_, hn', fun j y v' e1 e2 e3 => ?_⟩, fun y c e => ?_, I.free, I.freeC, fun p hp => ?_, tracked ⟨oL, hoL, I.free⟩ hs, by simpa using I.len⟩ ⟨_, hs, .inl rfl⟩
    · exact (hs.2 b (Nat.ne_of_lt (Nat.lt_of_lt_of_le (Heap.lt_size e) I.ok.above))).trans (I.base.keep b o e n hb hx)
    · obtain ⟨sl, e1⟩ := I.base.slot b o e n hb hx
      exact ⟨sl, (hs.2 b (Nat.ne_of_lt (Nat.lt_of_lt_of_le (Heap.lt_size e) I.ok.above))).trans e1⟩
    · obtain ⟨o', e1⟩ := I.base.there b o e hx
      exact ⟨o', (hs.2 b (Nat.ne_of_lt (Nat.lt_of_lt_of_le (Heap.lt_size e) I.ok.above))).trans e1⟩
    · by_cases hj : j = i
      · subst hj
        rw [hi] at e1; cases e1
        rw [List.getElem?_set_self hiσ] at e2
        cases e2
        exact ⟨u, r, .inl ⟨hk, by simp⟩⟩
      · rw [List.getElem?_set_ne (Ne.symm hj)] at e2
        obtain ⟨u', r', q⟩ := hl j y v' e1 e2 e3
        refine ⟨u', r', ?_⟩
        rcases q with ⟨k, e⟩ | ⟨k, c, e, z⟩
        · refine .inl ⟨k, ?_⟩
          have : y ≠ x := fun e => hj (nodup_ix hN e1 (e ▸ hi))
          simp [this, e]
        · exact .inr ⟨k, c, e, z.sameBut hs (cne y c e)⟩
    · obtain ⟨w', z⟩ := I.cell y c e
      exact ⟨w', z.sameBut hs (cne y c e)⟩
    · obtain ⟨e, n, ne, nf, d⟩ := I.pin p hp
      exact ⟨(hs.2 p.1 ne).trans e, n, ne, nf, d⟩
  · have hfn : X.fn x = true := by
      rcases hf with z | z
      · exact z
      · rw [z] at hk; cases hk
    obtain ⟨c, hc⟩ := I.ok.has x (.inl hk)
    obtain ⟨w', z⟩ := I.cell x c hc
    refine wpAny_storeName_cell I.ok.kind hk hc z (fun h' hc' hs => ?_)
    obtain ⟨oc, hoc, hocd⟩ := id z
    refine h { s with heap := h' } ⟨I.ok, I.os, I.bare, ⟨fun b o e n hb hx => ?_, fun b o e n hb hx => ?_, I.base.free, fun b o e hx => ?_, I.base.tups, I.base.frzs, I.base.tbls⟩, ⟨m, hn.sameBut hs (Ne.symm (cne x c hc)), fun j y v' e1 e2 e3 => ?_⟩, fun y c' e => ?_, I.free, I.freeC, fun p hp => ?_, tracked ⟨oc, hoc, I.freeC x c hc⟩ hs, by simpa using I.len⟩ ⟨c, hs, .inr hc⟩
    · exact (hs.2 b (Nat.ne_of_lt (Nat.lt_of_lt_of_le (Heap.lt_size e) (I.ok.cab x c hfn hc)))).trans (I.base.keep b o e n hb hx)
    · obtain ⟨sl, e1⟩ := I.base.slot b o e n hb hx
      exact ⟨sl, (hs.2 b (Nat.ne_of_lt (Nat.lt_of_lt_of_le (Heap.lt_size e) (I.ok.cab x c hfn hc)))).trans e1⟩
    · obtain ⟨o', e1⟩ := I.base.there b o e hx
      exact ⟨o', (hs.2 b (Nat.ne_of_lt (Nat.lt_of_lt_of_le (Heap.lt_size e) (I.ok.cab x c hfn hc)))).trans e1⟩
    · by_cases hj : j = i
      · subst hj
        rw [hi] at e1; cases e1
        rw [List.getElem?_set_self hiσ] at e2
        cases e2
        exact ⟨u, r, .inr ⟨.inl hk, c, hc, hc'⟩⟩
      · rw [List.getElem?_set_ne (Ne.symm hj)] at e2
        obtain ⟨u', r', q⟩ := hl j y v' e1 e2 e3
        refine ⟨u', r', ?_⟩
        rcases q with q | ⟨k, c', e, z'⟩
        · exact .inl q
        · refine .inr ⟨k, c', e, z'.sameBut hs ?_⟩
          rintro rfl
          exact hj (nodup_ix hN e1 (I.ok.inj _ _ _ e hc ▸ hi))
    · by_cases hcc : c' = c
      · subst hcc; exact ⟨_, hc'⟩
      · obtain ⟨w2, z2⟩ := I.cell y c' e
        exact ⟨w2, z2.sameBut hs hcc⟩
    · obtain ⟨e, n, ne, nf, d⟩ := I.pin p hp
      refine ⟨(hs.2 p.1 ?_).trans e, n, ne, nf, d⟩
      intro q
      rw [q, hoc] at e
      have q' : oc = p.2 := Option.some.inj e
      exact d w' (by rw [← q']; exact hocd)
theorem store_ok {M : Model} {A : Around} {E : Value → Shared → Prop} {i : Nat} {x : Str} {v : V} {u : Value} {Q : Unit → Shared → Prop} (I : Inv X pins σ H s) (hN : X.N.Nodup) (hi : X.N[i]? = some x) (hx : Loc X.env.scope x) (r : RelV v u)
    (h : ∀ s', Inv X pins (σ.set i (some v)) H s' → Q () s') (hf : X.fn x = true ∨ X.env.scope.names.lookup x = some .local := by first | exact .inl rfl | exact .inr rfl | assumption) : wpAny M A (storeName X.env x u) Q E s :=
  store_ok2 I hN hi hx r (fun s' I' _ => h s' I') hf
theorem Inv.call' {s' : Shared} {ch : List Addr} (I : Inv X pins σ H s) (ho : s'.os = s.os) (u : Un (frs X.stack) ch H H' s.heap s'.heap) (hok : HOk X.prog X.w H' s'.heap) (hg : AllBare s'.gens)
    (hch : ∀ b ∈ ch, (b ∈ X.ex ∨ X.s₀.heap.objs.size ≤ b) ∧ b ≠ X.env.locals ∧ (∀ x c, X.env.cells.lookup x = some c → c ≠ b) ∧ ∀ p ∈ X.pn ++ pins, p.1 ≠ b) : Inv X pins σ H' s' := by
  obtain ⟨h', g', d', t', o'⟩ := s'
  have e : o' = s.os := ho
  subst e
  exact I.call (g' := g') (t' := t') (d' := d') u hok hg hch
end
abbrev XK := Value → Option Addr → Hp → Prop
abbrev St := List (Option V)
abbrev VK := V → Hp → Prop
abbrev TE := St → Hp → VK → Prop
abbrev TT := St → Hp → (Bool → Hp → Prop) → Prop
abbrev TA := St → Hp → (List V → Hp → Prop) → Prop
structure Ends where
  nx : St → Hp → Prop
  rt : VK
  bk : St → Hp → Prop := fun _ _ => False
  ct : St → Hp → Prop := fun _ _ => False
abbrev TS := Ends → St → Hp → Prop
def EP (X : Cx) (pins : List (Addr × Obj)) (σ : St) (Q : VK) (u : Value) (s' : Shared) : Prop := ∃ v H', Inv X pins σ H' s' ∧ RelV v u ∧ Q v H'
def TP (X : Cx) (pins : List (Addr × Obj)) (σ : St) (Q : Bool → Hp → Prop) (b : Bool) (s' : Shared) : Prop := ∃ H', Inv X pins σ H' s' ∧ Q b H'
def AP (X : Cx) (pins : List (Addr × Obj)) (σ : St) (Q : List V → Hp → Prop) (us : List Value) (s' : Shared) : Prop := ∃ vs H', Inv X pins σ H' s' ∧ Vals vs us ∧ Q vs H'
def SP (X : Cx) (pins : List (Addr × Obj)) (D : Ends) (f : Flow) (s' : Shared) : Prop :=
  match f with
  | .next => ∃ σ' H', Inv X pins σ' H' s' ∧ D.nx σ' H'
  | .brk => ∃ σ' H', Inv X pins σ' H' s' ∧ D.bk σ' H'
  | .cont => ∃ σ' H', Inv X pins σ' H' s' ∧ D.ct σ' H'
  | .ret u => ∃ v σ' H', Inv X pins σ' H' s' ∧ RelV v u ∧ D.rt v H'
def PE (X : Cx) (e : Expr) (t : TE) : Prop :=
  ∀ (pins : List (Addr × Obj)) (s : Shared) (σ : St) (H : Hp) (Q : VK), Inv X pins σ H s → t σ H Q → wpAny (model X.prog X.w) X.A (eval e X.env) (EP X pins σ Q) X.xe s
def PT (X : Cx) (e : Expr) (t : TT) : Prop :=
  ∀ (pins : List (Addr × Obj)) (s : Shared) (σ : St) (H : Hp) (Q : Bool → Hp → Prop), Inv X pins σ H s → t σ H Q → wpAny (model X.prog X.w) X.A (isTrue e X.env (eval e X.env)) (TP X pins σ Q) X.xe s
def PW (X : Cx) (e : Expr) (t : TT) : Prop :=
  ∀ (whole : Sem Value) (pins : List (Addr × Obj)) (s : Shared) (σ : St) (H : Hp) (Q : Bool → Hp → Prop), Inv X pins σ H s → t σ H Q → wpAny (model X.prog X.w) X.A (isTrue e X.env whole) (TP X pins σ Q) X.xe s
def PA (X : Cx) (es : List Expr) (t : TA) : Prop :=
  ∀ (pos : Pos) (pins : List (Addr × Obj)) (s : Shared) (σ : St) (H : Hp) (Q : List V → Hp → Prop), Inv X pins σ H s → t σ H Q → wpAny (model X.prog X.w) X.A (spliced (backTo pos (starEach es X.env))) (AP X pins σ Q) X.xe s
def PS (X : Cx) (st : Stmt) (t : TS) : Prop :=
  ∀ (pins : List (Addr × Obj)) (s : Shared) (σ : St) (H : Hp) (D : Ends), Inv X pins σ H s → t D σ H → wpAny (model X.prog X.w) X.A (exec st X.env) (SP X pins D) X.xe s
def PSs (X : Cx) (st : List Stmt) (t : TS) : Prop :=
  ∀ (pins : List (Addr × Obj)) (s : Shared) (σ : St) (H : Hp) (D : Ends), Inv X pins σ H s → t D σ H → wpAny (model X.prog X.w) X.A (execs st X.env) (SP X pins D) X.xe s
theorem thn {α : Type} {t : Sem α} {Q Q' : α → Shared → Prop} {M : Model} {A : Around} {E : Value → Shared → Prop} {s : Shared} (h : wpAny M A t Q E s) (hQ : ∀ a s, Q a s → Q' a s) : wpAny M A t Q' E s := wpAny_mono h hQ fun _ _ x => x
end L2
namespace L2
open PySem PySem.Spec PyProof.Rows
section
variable {X : Cx}
def tVar (i : Nat) : TE := fun σ H Q => ∃ v, σ[i]? = some (some v) ∧ Q v H
def tC (v : V) : TE := fun _ H Q => Q v H
theorem pe_var {i : Nat} {x : Str} {pos : Pos} (hN : X.N[i]? = some x) (hv : Vis X.env.scope x) (hd : (x == ("__debug__" : Str)) = false := by decide) (hcd : (x == ("__classdict__" : Str)) = false := by decide) : PE X (.Name x pos) (tVar i) := by
  intro pins s σ H Q I h
  obtain ⟨v, e, h⟩ := h
  obtain ⟨m, hn, hl⟩ := I.loc
  obtain ⟨u, r, l⟩ := hl i x v hN e hv
  have fin : EP X pins σ Q u s := ⟨v, H, I, r, h⟩
  rcases l with ⟨hk, hm⟩ | ⟨hk, c, hc, hcell⟩
  · exact wpAny_Name (wpAny_loadName_local I.ok.kind hk hn hm fin) hd
  · rcases hk with hk | hk
    · exact wpAny_Name (wpAny_loadName_cell I.ok.kind hk hc hcell fin) hd
    · exact wpAny_Name (wpAny_loadName_free I.ok.kind hk hc hcell fin hcd) hd
theorem pe_int {i j pos} : PE X (.Constant (.int i) j pos) (tC (.int i)) := fun _ _ _ H _ I h => wpAny_Constant_int ⟨.int i, H, I.tok _, ⟨_, rfl⟩, h⟩
theorem pe_bl {b j pos} : PE X (.Constant (.bool b) j pos) (tC (.bl b)) := fun _ _ _ H _ I h => Constant_bool ⟨.bl b, H, I, rfl, h⟩
theorem pe_non {j pos} : PE X (.Constant .none j pos) (tC .non) := fun _ _ _ H _ I h => Constant_none ⟨.non, H, I, rfl, h⟩
def Gl (X : Cx) (x : Str) : Prop := X.env.kindOf x = some .globalImplicit
theorem ld_glob {E : Value → Shared → Prop} {pins : List (Addr × Obj)} {s : Shared} {σ : St} {H : Hp} {x : Str} {u : Value} {pos : Pos} {Q : Value → Shared → Prop} (I : Inv X pins σ H s) (hg : Gl X x) (hm : X.mg x = some u) (h : Q u s)
    (hd : (x == ("__debug__" : Str)) = false := by decide) : wpAny (model X.prog X.w) X.A (eval (.Name x pos) X.env) Q E s :=
  Calls.Name_function_global I.ok.kind hg (Calls.loadGlobal_global (by rw [I.ok.glob]; exact I.mod.glob.keeps I.bk) hm h) hd
theorem ld_blt {E : Value → Shared → Prop} {pins : List (Addr × Obj)} {s : Shared} {σ : St} {H : Hp} {x : Str} {u : Value} {pos : Pos} {Q : Value → Shared → Prop} (I : Inv X pins σ H s) (hg : Gl X x) (hm : X.mg x = none) (hv : bootBuiltins x = some u) (h : Q u s)
    (hn : x ≠ "__name__" := by decide) (hd : (x == ("__debug__" : Str)) = false := by decide) : wpAny (model X.prog X.w) X.A (eval (.Name x pos) X.env) Q E s := by
  obtain ⟨mb, h1, h2⟩ := I.mod.blt
  exact Calls.Name_function_global I.ok.kind hg (Calls.loadGlobal_builtin (by rw [I.ok.glob]; exact I.mod.glob.keeps I.bk) hm (by rw [I.ok.blt]; exact h1.keeps I.bk) ((h2 x hn).trans hv) h) hd
variable {a b : Expr} {ta tb : TE} {pos : Pos}
def tB (t : TE) : TT := fun σ H Q => t σ H fun x H1 => ∃ c, x = .bl c ∧ Q c H1
theorem pt_val {e : Expr} {t : TE} (h : PE X e t) (he : ∀ whole, isTrue e X.env whole = (do let v ← whole; standAt e.pos; holding [v] (truthy v)) := by intro _; rfl) : PT X e (tB t) := by
  intro pins s σ H Q I hw
  refine isTrue_plain (thn (h pins s σ H _ I hw) fun v s1 ⟨x, H1, I1, r1, q1⟩ => ?_) (he _)
  obtain ⟨d, rfl, q⟩ := q1
  cases r1
  exact wpAny_truthy_bool ⟨H1, I1, q⟩
variable {tA tB' : TT} {rest : List Expr}
def tAnd (t u : TT) : TT := fun σ H Q => t σ H fun c H1 => if c = true then u σ H1 Q else Q false H1
def tOr (t u : TT) : TT := fun σ H Q => t σ H fun c H1 => if c = true then Q true H1 else u σ H1 Q
def tNot (t : TT) : TT := fun σ H Q => t σ H fun c H1 => Q (!c) H1
theorem pw_and1 (ha : PT X a tA) : PW X (.BoolOp .And [a] pos) tA := by
  intro wh pins s σ H Q I h
  refine isTrue_and (thn (ha pins s σ H Q I h) fun c s1 e => ?_)
  cases c with
  | true => exact isTrue_and_nil e
  | false => exact e
theorem pw_or1 (ha : PT X a tA) : PW X (.BoolOp .Or [a] pos) tA := by
  intro wh pins s σ H Q I h
  refine isTrue_or (thn (ha pins s σ H Q I h) fun c s1 e => ?_)
  cases c with
  | false => exact isTrue_or_nil e
  | true => exact e
theorem pw_and (ha : PT X a tA) (hb : PW X (.BoolOp .And (b :: rest) pos) tB') : PW X (.BoolOp .And (a :: b :: rest) pos) (tAnd tA tB') := by
  intro wh pins s σ H Q I h
  refine isTrue_and (thn (ha pins s σ H _ I h) fun c s1 ⟨H1, I1, q1⟩ => ?_)
  cases c with
  | true => exact hb wh pins s1 σ H1 Q I1 q1
  | false => exact ⟨H1, I1, q1⟩
theorem pw_or (ha : PT X a tA) (hb : PW X (.BoolOp .Or (b :: rest) pos) tB') : PW X (.BoolOp .Or (a :: b :: rest) pos) (tOr tA tB') := by
  intro wh pins s σ H Q I h
  refine isTrue_or (thn (ha pins s σ H _ I h) fun c s1 ⟨H1, I1, q1⟩ => ?_)
  cases c with
  | true => exact ⟨H1, I1, q1⟩
  | false => exact hb wh pins s1 σ H1 Q I1 q1
def tAndV (ta tb : TE) : TE := fun σ H Q => ta σ H fun x H1 => ∃ c, x = .bl c ∧ if c = true then tb σ H1 Q else Q (.bl false) H1
def tOrV (ta tb : TE) : TE := fun σ H Q => ta σ H fun x H1 => ∃ c, x = .bl c ∧ if c = true then Q (.bl true) H1 else tb σ H1 Q
def tNotV (ta : TE) : TE := fun σ H Q => ta σ H fun x H1 => ∃ c, x = .bl c ∧ Q (.bl (!c)) H1
theorem pe_one {op} {t : TE} (h : PE X a t) : PE X (.BoolOp op [a] pos) t := fun pins s σ H Q I hw => BoolOp_one (h pins s σ H Q I hw)
theorem pe_and (ha : PE X a ta) (hb : PE X (.BoolOp .And (b :: rest) pos) tb) : PE X (.BoolOp .And (a :: b :: rest) pos) (tAndV ta tb) := by
  intro pins s σ H Q I h
  refine BoolOp_and (thn (ha pins s σ H _ I h) fun v s1 ⟨x, H1, I1, r1, q1⟩ => ?_)
  obtain ⟨c, rfl, q1⟩ := q1
  cases r1
  refine wpAny_truthy_bool ?_
  cases c with
  | true => exact hb pins s1 σ H1 Q I1 q1
  | false => exact ⟨.bl false, H1, I1, rfl, q1⟩
theorem pe_or (ha : PE X a ta) (hb : PE X (.BoolOp .Or (b :: rest) pos) tb) : PE X (.BoolOp .Or (a :: b :: rest) pos) (tOrV ta tb) := by
  intro pins s σ H Q I h
  refine BoolOp_or (thn (ha pins s σ H _ I h) fun v s1 ⟨x, H1, I1, r1, q1⟩ => ?_)
  obtain ⟨c, rfl, q1⟩ := q1
  cases r1
  refine wpAny_truthy_bool ?_
  cases c with
  | false => exact hb pins s1 σ H1 Q I1 q1
  | true => exact ⟨.bl true, H1, I1, rfl, q1⟩
theorem pe_not (ha : PE X a ta) : PE X (.UnaryOp .Not a pos) (tNotV ta) := by
  intro pins s σ H Q I h
  refine UnaryOp_ (thn (ha pins s σ H _ I h) fun v s1 ⟨x, H1, I1, r1, q1⟩ => ?_)
  obtain ⟨c, rfl, q1⟩ := q1
  cases r1
  exact not_of (wpAny_truthy_bool ⟨.bl (!c), H1, I1, rfl, q1⟩)
def tIf (t : TT) (ta tb : TE) : TE := fun σ H Q => t σ H fun c H1 => if c = true then ta σ H1 Q else tb σ H1 Q
end
end L2
namespace L2
open PySem PySem.Spec PyProof.Rows
def SqL (K : PySem.W.Frag) (H : Hp) (a : Addr) (xs : List V) : Prop :=
  Rd H a (.lst xs) ∨
    ∃ (o : Obj) (its : Array Value) (n : Nat), K.lookup a = some o ∧ o.cls = .type "list" ∧ o.dict = none ∧ o.data = .seq its n ∧ its.size ≤ sizeLine ∧ Vals xs its.toList
def SqT (K : PySem.W.Frag) (H : Hp) (a : Addr) (xs : List V) : Prop :=
  Rd H a (.tup xs) ∨
    ∃ (o : Obj) (its : Array Value) (n : Nat), K.lookup a = some o ∧ o.cls = .type "tuple" ∧ o.data = .seq its n ∧ its.size ≤ sizeLine ∧ Vals xs its.toList
def absV : Value → Option V
  | .none => some .non
  | .bool b => some (.bl b)
  | .int i _ => some (.int i)
  | .str x _ => some (.str x)
  | .bytes b _ => some (.byt b)
  | .float b _ => some (.flt b)
  | .ref a => some (.ref a)
  | .type n => some (.ty n)
  | _ => none
theorem RelV.abs {x : V} {u : Value} (r : RelV x u) : absV u = some x := by
  cases x with
  | non => cases r; rfl
  | bl _ => cases r; rfl
  | int _ => obtain ⟨t, rfl⟩ := r; rfl
  | str _ => obtain ⟨t, rfl⟩ := r; rfl
  | byt _ => obtain ⟨t, rfl⟩ := r; rfl
  | flt _ => obtain ⟨t, rfl⟩ := r; rfl
  | ref _ => cases r; rfl
  | ty _ => cases r; rfl
theorem RelV.inj {x y : V} {u : Value} (r : RelV x u) (q : RelV y u) : x = y := Option.some.inj (r.abs.symm.trans q.abs)
theorem Vals.inj : ∀ {xs ys : List V} {us : List Value}, Vals xs us → Vals ys us → xs = ys
  | _, _, _, .nil, .nil => rfl
  | _, _, _, .cons r t, .cons r' t' => by rw [r.inj r', Vals.inj t t']
section
variable {X : Cx} {pins : List (Addr × Obj)} {σ : St} {H : Hp} {s : Shared} {a : Addr} {xs ys : List V}
theorem SqL.of {K : PySem.W.Frag} (h : H a = some (.lst xs)) : SqL K H a xs := .inl (.inl h)
theorem SqT.of {K : PySem.W.Frag} (h : H a = some (.tup xs)) : SqT K H a xs := .inl (.inl h)
theorem Inv.list (I : Inv X pins σ H s) (h : SqL X.K H a xs) : ∃ its : List Value, Vals xs its ∧ PlainL s.heap a its.toArray ∧ xs.length ≤ sizeLine := by
  rcases h with h | ⟨o, its, n, hk, hc, hd, hs, hz, r⟩
  · obtain ⟨z, its, n, r, e⟩ := h.ok I.hok
    exact ⟨its, r, ⟨_, n, e, rfl, rfl, rfl⟩, z⟩
  · refine ⟨its.toList, r, ⟨o, n, I.kIn a o hk, hc, hd, by simpa using hs⟩, ?_⟩
    have e := r.length
    simp only [Array.length_toList] at e
    omega
theorem Inv.tuple (I : Inv X pins σ H s) (h : SqT X.K H a xs) : ∃ its : List Value, Vals xs its ∧ IsTup s.heap a its.toArray ∧ xs.length ≤ sizeLine := by
  rcases h with h | ⟨o, its, n, hk, hc, hs, hz, r⟩
  · obtain ⟨z, its, r, p⟩ := h.ok I.hok
    exact ⟨its, r, p, z⟩
  · refine ⟨its.toList, r, ⟨o, I.kIn a o hk, hc, n, by simpa using hs⟩, ?_⟩
    have e := r.length
    simp only [Array.length_toList] at e
    omega
theorem Inv.list_inj (I : Inv X pins σ H s) (h : SqL X.K H a xs) (h' : SqL X.K H a ys) : xs = ys := by
  obtain ⟨its, r, ⟨o, n, e, _, _, d⟩, _⟩ := I.list h
  obtain ⟨its', r', ⟨o', n', e', _, _, d'⟩, _⟩ := I.list h'
  rw [e] at e'; cases e'
  rw [d] at d'
  injection d' with d1 _
  have : its = its' := by simpa using congrArg Array.toList d1
  subst this
  exact r.inj r'
theorem Inv.tuple_inj (I : Inv X pins σ H s) (h : SqT X.K H a xs) (h' : SqT X.K H a ys) : xs = ys := by
  obtain ⟨its, r, ⟨o, e, _, n, d⟩, _⟩ := I.tuple h
  obtain ⟨its', r', ⟨o', e', _, n', d'⟩, _⟩ := I.tuple h'
  rw [e] at e'; cases e'
  rw [d] at d'
  injection d' with d1 _
  have : its = its' := by simpa using congrArg Array.toList d1
  subst this
  exact r.inj r'
end
abbrev Cx.wish (X : Cx) (E : Value → Shared → Prop) : Cx := { X with xe := E }
abbrev Cx.nox (X : Cx) : Cx := X.wish fun _ _ => False
theorem Cx.Ok.wish {X : Cx} (ok : X.Ok) (E : Value → Shared → Prop) : (X.wish E).Ok :=
  ⟨ok.mod, ok.kind, ok.glob, ok.blt, ok.above, ok.inj, ok.has, ok.cab, ok.hd, ok.frames, ok.stk, ok.exf, ok.bs, ok.bsz, ok.noex, ok.exfs, ok.funs, ok.frf⟩
theorem Cx.Ok.unwish {X : Cx} {E : Value → Shared → Prop} (ok : (X.wish E).Ok) : X.Ok :=
  ⟨ok.mod, ok.kind, ok.glob, ok.blt, ok.above, ok.inj, ok.has, ok.cab, ok.hd, ok.frames, ok.stk, ok.exf, ok.bs, ok.bsz, ok.noex, ok.exfs, ok.funs, ok.frf⟩
section
variable {X : Cx} {pins : List (Addr × Obj)} {σ : St} {H : Hp} {s : Shared} {E : Value → Shared → Prop}
theorem Inv.wish (I : Inv X pins σ H s) (E : Value → Shared → Prop) : Inv (X.wish E) pins σ H s := ⟨I.ok.wish E, I.os, I.bare, I.base, I.loc, I.cell, I.free, I.freeC, I.pin, I.hok, I.len⟩
theorem Inv.unwish (I : Inv (X.wish E) pins σ H s) : Inv X pins σ H s := ⟨I.ok.unwish, I.os, I.bare, I.base, I.loc, I.cell, I.free, I.freeC, I.pin, I.hok, I.len⟩
theorem SP.unwish {D : Ends} {f : Flow} {s' : Shared} (h : SP (X.wish E) pins D f s') : SP X pins D f s' := by
  cases f with
  | next => obtain ⟨σ', H', I, q⟩ := h; exact ⟨σ', H', I.unwish, q⟩
  | brk => obtain ⟨σ', H', I, q⟩ := h; exact ⟨σ', H', I.unwish, q⟩
  | cont => obtain ⟨σ', H', I, q⟩ := h; exact ⟨σ', H', I.unwish, q⟩
  | ret u => obtain ⟨v, σ', H', I, r, q⟩ := h; exact ⟨v, σ', H', I.unwish, r, q⟩
theorem PE.nox {e : Expr} {t : TE} (h : PE X.nox e t) : PE X e t := fun pins s σ H Q I hw =>
  wpAny_mono (h pins s σ H Q (I.wish _) hw) (fun _ _ ⟨v, H', I', r, q⟩ => ⟨v, H', I'.unwish, r, q⟩) fun _ _ z => False.elim z
theorem PT.nox {e : Expr} {t : TT} (h : PT X.nox e t) : PT X e t := fun pins s σ H Q I hw =>
  wpAny_mono (h pins s σ H Q (I.wish _) hw) (fun _ _ ⟨H', I', q⟩ => ⟨H', I'.unwish, q⟩) fun _ _ z => False.elim z
theorem PSs.nox {st : List Stmt} {t : TS} (h : PSs X.nox st t) : PSs X st t := fun pins s σ H D I hw =>
  wpAny_mono (h pins s σ H D (I.wish _) hw) (fun _ _ q => q.unwish) fun _ _ z => False.elim z
end
section
variable {X : Cx} {st : Stmt} {rest : List Stmt} {t u : TS} {e : Expr} {te : TE} {pos : Pos}
def tNext : TS := fun D σ H => D.nx σ H
def tSeq (t u : TS) : TS := fun D σ H => t { D with nx := u D } σ H
theorem pss_nil : PSs X [] tNext := fun _ _ σ H _ I h => wpAny_execs_nil ⟨σ, H, I, h⟩
theorem pss_cons (h1 : PS X st t) (h2 : PSs X rest u) : PSs X (st :: rest) (tSeq t u) := by
  intro pins s σ H D I h
  refine wpAny_execs_cons (thn (h1 pins s σ H { D with nx := u D } I h) fun f s1 q => ?_)
  cases f with
  | next =>
    obtain ⟨σ', H', I', q⟩ := q
    exact h2 pins s1 σ' H' D I' q
  | ret v => exact q
  | brk => exact q
  | cont => exact q
theorem pss_one (h1 : PS X st t) : PSs X [st] t := by
  intro pins s σ H D I h
  refine wpAny_execs_cons (thn (h1 pins s σ H D I h) fun f s1 q => ?_)
  cases f with
  | next => exact wpAny_execs_nil q
  | ret v => exact q
  | brk => exact q
  | cont => exact q
theorem Inv.quiet {pins : List (Addr × Obj)} {σ : St} {H : Hp} {s : Shared} (I : Inv X pins σ H s) : interactive X.env = false := by simp [interactive, I.ok.kind]
def tDrop (te : TE) : TS := fun D σ H => te σ H fun _ H1 => D.nx σ H1
theorem ps_expr (he : PE X e te) (hs : swapsWith e none pos.line X.env = pure false := by rfl) : PS X (.Expr e pos) (tDrop te) := by
  intro pins s σ H D I h
  exact wpAny_Expr_any (thn (he pins s σ H _ I h) fun v s1 ⟨x, H1, I1, r1, q1⟩ => ⟨σ, H1, I1, q1⟩) I.quiet hs
def tRet (te : TE) : TS := fun D σ H => te σ H D.rt
theorem ps_ret (he : PE X e te) : PS X (.Return (some e) pos) (tRet te) := by
  intro pins s σ H D I h
  exact wpAny_Return_some (thn (he pins s σ H _ I h) fun v s1 ⟨x, H1, I1, r1, q1⟩ => ⟨x, σ, H1, I1, r1, q1⟩)
def tIfS (c : TT) (t u : TS) : TS := fun D σ H => c σ H fun b H1 => if b = true then t D σ H1 else u D σ H1
theorem ps_if {c : Expr} {a b : List Stmt} {tc : TT} (hc : PT X c tc) (ha : PSs X a t) (hb : PSs X b u) : PS X (.If c a b pos) (tIfS tc t u) := by
  intro pins s σ H D I h
  refine wpAny_If (thn (hc pins s σ H _ I h) fun d s1 ⟨H1, I1, q1⟩ => ?_)
  cases d with
  | true => exact ha pins s1 σ H1 D I1 q1
  | false => exact hb pins s1 σ H1 D I1 q1
end
abbrev TG := V → St → Hp → (St → Hp → Prop) → Prop
abbrev TGs := List V → St → Hp → (St → Hp → Prop) → Prop
def PG (X : Cx) (target : Expr) (t : TG) : Prop :=
  ∀ (pins : List (Addr × Obj)) (s : Shared) (σ : St) (H : Hp) (v : V) (u : Value) (Q : St → Hp → Prop), Inv X pins σ H s → RelV v u → t v σ H Q →
    wpAny (model X.prog X.w) X.A (assign target X.env u) (fun _ s' => ∃ σ' H', Inv X pins σ' H' s' ∧ Q σ' H') X.xe s
def PGs (X : Cx) (ts : List Expr) (t : TGs) : Prop :=
  ∀ (pins : List (Addr × Obj)) (s : Shared) (σ : St) (H : Hp) (vs : List V) (us : List Value) (Q : St → Hp → Prop), Inv X pins σ H s → Vals vs us → t vs σ H Q →
    wpAny (model X.prog X.w) X.A (assignInOrder ((assignEach ts X.env).map (·.2)) us) (fun _ s' => ∃ σ' H', Inv X pins σ' H' s' ∧ Q σ' H') X.xe s
abbrev TSet := V → V → V → Hp → (Hp → Prop) → Prop
def PSet (X : Cx) (t : TSet) : Prop :=
  ∀ (pins : List (Addr × Obj)) (s : Shared) (σ : St) (H : Hp) (o i v : V) (ov iv u : Value) (Q : Hp → Prop), Inv X pins σ H s → RelV o ov → RelV i iv → RelV v u → t o i v H Q →
    wpAny (model X.prog X.w) X.A (setItem ov iv u) (fun _ s' => ∃ H', Inv X pins σ H' s' ∧ Q H') X.xe s
abbrev TIp := V → V → Hp → VK → Prop
section
variable {X : Cx} {pos : Pos}
def gName (i : Nat) : TG := fun v σ H Q => Q (σ.set i (some v)) H
theorem pg_name {i : Nat} {x : Str} (hN : X.N.Nodup) (hi : X.N[i]? = some x) (hx : Loc X.env.scope x) (hf : X.fn x = true ∨ X.env.scope.names.lookup x = some .local := by first | exact .inl rfl | exact .inr rfl | assumption) : PG X (.Name x pos) (gName i) := by
  intro pins s σ H v u Q I r h
  exact wpAny_assign_Name (store_ok I hN hi hx r (fun s' I' => ⟨_, H, I', h⟩) hf)
def gNil : TGs := fun vs σ H Q => vs = [] ∧ Q σ H
def gCons (t : TG) (u : TGs) : TGs := fun vs σ H Q => ∃ v r, vs = v :: r ∧ t v σ H fun σ' H' => u r σ' H' Q
theorem pgs_nil : PGs X [] gNil := by
  intro pins s σ H vs us Q I r h
  obtain ⟨e, h⟩ := h
  subst e
  cases r
  exact assignInOrder_nil ⟨σ, H, I, h⟩
theorem pgs_cons {e : Expr} {es : List Expr} {t : TG} {u : TGs} (h1 : PG X e t) (h2 : PGs X es u)
    (hs : (assignEach (e :: es) X.env).map (·.2) = assign e X.env :: (assignEach es X.env).map (·.2) := by rfl) : PGs X (e :: es) (gCons t u) := by
  intro pins s σ H vs us Q I r h
  obtain ⟨v, vr, e1, h⟩ := h
  subst e1
  cases r with
  | cons r rr =>
    rw [hs]
    refine assignInOrder_cons (thn (h1 pins s σ H _ _ _ I r h) fun _ s1 ⟨σ1, H1, I1, q1⟩ => ?_)
    exact h2 pins s1 σ1 H1 _ _ Q I1 rr q1
def gTup (K : PySem.W.Frag) (n : Nat) (t : TGs) : TG := fun v σ H Q => ∃ a xs, v = .ref a ∧ SqT K H a xs ∧ xs.length = n ∧ t xs σ H Q
theorem pg_tup {es : List Expr} {k : Nat} {t : TGs} {n : Nat} (hc : X.calm = true) (h : PGs X es t)
    (hn : (assignEach es X.env).length = n := by rfl) (hst : (assignEach es X.env).findIdx? (·.1) = none := by rfl) : PG X (.Tuple es k pos) (gTup X.K n t) := by
  intro pins s σ H v u Q I r hw
  obtain ⟨a, xs, e1, hq, hl, hw⟩ := hw
  subst e1
  cases r
  obtain ⟨its, rv, ht, hz⟩ := I.tuple hq
  refine assign_Tuple_tuple (I.ok.hd hc) ht (by simp [hn, ← hl, rv.length]) hst fun h' hx => ?_
  have I1 : Inv X pins σ H { s with heap := h' } := I.kept (t' := s.toks) fun b o e => hx b o (Nat.ne_of_lt (Heap.lt_size e)) e
  exact h pins _ σ H xs _ Q I1 (by simpa using rv) hw
def gSub (to ti : TE) (t : TSet) : TG := fun v σ H Q => to σ H fun o H1 => ti σ H1 fun i H2 => t o i v H2 fun H3 => Q σ H3
theorem pg_sub {o i : Expr} {to ti : TE} {t : TSet} (ho : PE X o to) (hi : PE X i ti) (hs : PSet X t)
    (ha : ∀ v, assign (.Subscript o i pos) X.env v = (do
      let ov ← holding [v] (eval o X.env)
      let iv ← holding [v, ov] (eval i X.env)
      standAt pos
      holding [v, ov, iv] (setItem ov iv v)
      release [v, ov, iv] []) := by intro _; rfl) : PG X (.Subscript o i pos) (gSub to ti t) := by
  intro pins s σ H v u Q I r h
  rw [ha]
  refine wpAny_bind (wpAny_holding (thn (ho pins s σ H _ I h) fun ov s1 ⟨x, H1, I1, r1, q1⟩ => ?_))
  refine wpAny_bind (wpAny_holding (thn (hi pins s1 σ H1 _ I1 q1) fun iv s2 ⟨y, H2, I2, r2, q2⟩ => ?_))
  refine wpAny_bind (wpAny_standAt (wpAny_bind (wpAny_holding (thn (hs pins s2 σ H2 x y v ov iv u _ I2 r1 r2 r q2) fun _ s3 ⟨H3, I3, q3⟩ => ?_))))
  exact wpAny_release ⟨σ, H3, I3, q3⟩
def tAsg (te : TE) (g : TG) : TS := fun D σ H => te σ H fun x H1 => g x σ H1 D.nx
theorem ps_asg {tg e : Expr} {te : TE} {g : TG} (he : PE X e te) (hg : PG X tg g) (hs : swapsWithSole [tg] e pos.line X.env = pure false := by rfl) (hw : swappedStores [tg] e X.env = pure none := by rfl)
    (h1 : (assignEach [tg] X.env).map (·.2) = [assign tg X.env] := by rfl) : PS X (.Assign [tg] e pos) (tAsg te g) := by
  intro pins s σ H D I h
  refine wpAny_Assign_stores (thn (he pins s σ H _ I h) fun v s1 ⟨x, H1, I1, r1, q1⟩ => ?_) hs hw
  rw [h1]
  exact thn (hg pins s1 σ H1 x v _ I1 r1 q1) fun _ s2 q => q
theorem ps_set {i : Nat} {x : Str} {e : Expr} {te : TE} {pos' : Pos} (hN : X.N.Nodup) (hi : X.N[i]? = some x) (hx : Loc X.env.scope x) (he : PE X e te) (hs : swapsWith e (some (.Name x pos')) pos.line X.env = pure false := by rfl) (hf : X.fn x = true ∨ X.env.scope.names.lookup x = some .local := by first | exact .inl rfl | exact .inr rfl | assumption) :
    PS X (.Assign [.Name x pos'] e pos) (tAsg te (gName i)) := by
  intro pins s σ H D I h
  refine wpAny_Assign_Name (thn (he pins s σ H _ I h) fun v s1 ⟨y, H1, I1, r1, q1⟩ => ?_) hs
  exact store_ok I1 hN hi hx r1 (fun s2 I2 => ⟨_, H1, I2, q1⟩) hf
def tAug (i : Nat) (te : TE) (ti : TIp) : TS := fun D σ H => ∃ x, σ[i]? = some (some x) ∧ te σ H fun y H1 => ti x y H1 fun z H2 => D.nx (σ.set i (some z)) H2
end
section
variable {X : Cx} {pos : Pos}
end
structure It where
  go : Nat → Hp → Prop
  yld : Nat → Hp → V → Hp → Prop
  stop : Nat → Hp → Prop
def FpOk (X : Cx) (pins : List (Addr × Obj)) (H : Hp) (b : Addr) : Prop :=
  H b = none ∧ b ≠ X.env.locals ∧ b ∉ X.fs ∧ (b ∈ X.ex ∨ X.s₀.heap.objs.size ≤ b) ∧ (∀ x c, X.env.cells.lookup x = some c → c ≠ b) ∧ ∀ p ∈ X.pn ++ pins, p.1 ≠ b
theorem Inv.fpOk {X : Cx} {pins : List (Addr × Obj)} {σ : St} {H H' : Hp} {s : Shared} {b : Addr} (I : Inv X pins σ H s) (hb : s.heap.objs.size ≤ b) (hn : H' b = none) : FpOk X pins H' b := by
  refine ⟨hn, Nat.ne_of_gt (Nat.lt_of_lt_of_le I.lt hb), I.nofs hb, .inr (Nat.le_trans I.sz hb), fun x c e z => ?_, fun p hp z => ?_⟩
  · obtain ⟨v, q⟩ := I.cell x c e
    exact absurd (Nat.lt_of_lt_of_le q.lt (by rw [z]; exact hb)) (Nat.lt_irrefl _)
  · exact absurd (Nat.lt_of_lt_of_le (Heap.lt_size (I.pin p hp).1) (by rw [z]; exact hb)) (Nat.lt_irrefl _)
structure Turn (P : Program) (w : World) (K : PySem.W.Frag) (tg : Expr) (J : It) (fp : List Addr) (it : Addr) (tn : Nat → Heap → Prop) : Prop where
  mem : it ∈ fp
  obj : ∀ i h, tn i h → ∀ b ∈ fp, ∃ o, h.get? b = some o ∧ ∀ v, o.data ≠ .cell v
  keep : ∀ i h h', tn i h → (∀ b ∈ fp, ∀ o, h.get? b = some o → h'.get? b = some o) → tn i h'
  item : ∀ (X : Cx), X.prog = P → X.w = w → X.K = K → X.calm = true → ∀ (i : Nat) (pins : List (Addr × Obj)) (s : Shared) (σ : St) (H : Hp) (E : Value → Shared → Prop), Inv X pins σ H s → (∀ b ∈ fp, FpOk X pins H b) → tn i s.heap → J.go i H →
    wpAny (model P w) X.A (pyNext (.ref it)) (fun r s1 => ∃ u, r = some u ∧
      wpAny (model P w) X.A (letOwnedTupleGo tg (.ref it) u) (fun _ s2 => ∃ x H', Inv X pins σ H' s2 ∧ RelV x u ∧ J.yld i H x H' ∧ tn (i + 1) s2.heap ∧ ∀ b ∈ fp, H' b = none) E s1) E s
  done : ∀ (X : Cx), X.prog = P → X.w = w → X.K = K → X.calm = true → ∀ (i : Nat) (pins : List (Addr × Obj)) (s : Shared) (σ : St) (H : Hp) (E : Value → Shared → Prop), Inv X pins σ H s → (∀ b ∈ fp, FpOk X pins H b) → tn i s.heap → J.stop i H →
    wpAny (model P w) X.A (pyNext (.ref it)) (fun r s1 => r = none ∧ Inv X pins σ H s1) E s
  self : ∀ (A : Around) (i : Nat) (s : Shared) (Q : Value → Shared → Prop) (E : Value → Shared → Prop), tn i s.heap → Q (.ref it) s → wpAny (model P w) A (pyIter (.ref it)) Q E s
abbrev TI := St → Hp → (It → Hp → Prop) → Prop
def PIE (X : Cx) (pins : List (Addr × Obj)) (σ : St) (tg : Expr) (R : It → Hp → Prop) (itv : Value) (s2 : Shared) : Prop :=
  ∃ (it : Addr) (fp : List Addr) (tn : Nat → Heap → Prop) (J : It) (H' : Hp), itv = .ref it ∧ Inv X pins σ H' s2 ∧ Turn X.prog X.w X.K tg J fp it tn ∧ tn 0 s2.heap ∧ (∀ b ∈ fp, FpOk X pins H' b) ∧ R J H'
def PI (X : Cx) (tg iter : Expr) (wi : TI) : Prop :=
  ∀ (pins : List (Addr × Obj)) (s : Shared) (σ : St) (H : Hp) (R : It → Hp → Prop), Inv X pins σ H s → wi σ H R →
    wpAny (model X.prog X.w) X.A (eval iter X.env) (fun v s1 => wpAny (model X.prog X.w) X.A (pyIter v) (PIE X pins σ tg R) X.xe s1) X.xe s
theorem go_of {M : Model} {A : Around} {E : Value → Shared → Prop} {s : Shared} {tg : Expr} {it : Addr} {u : Value} {o : Obj} {n : String} {vs : Array Value} {Q : Unit → Shared → Prop} (ho : s.heap.get? it = some o) (hc : o.cls = .type n) (hd : o.data = .fields vs)
    (hn : ["enumerate", "zip", "dict_itemiterator", "dict_reverseitemiterator", "odict_iterator", "itertools.zip_longest", "itertools.pairwise"].contains n = false) (hQ : Q () s) : wpAny M A (letOwnedTupleGo tg (.ref it) u) Q E s := by
  unfold letOwnedTupleGo
  cases tg <;> first
    | exact wpAny_pure hQ
    | (cases u <;> first
        | exact wpAny_pure hQ
        | (refine wpAny_bind (wpAny_load ho ?_)
           rw [hc, hd]
           show wpAny M A (if (["enumerate", "zip", "dict_itemiterator", "dict_reverseitemiterator", "odict_iterator", "itertools.zip_longest", "itertools.pairwise"].contains n && vs[0]? == some (rawInt _)) = true then _ else _) Q E s
           rw [if_neg (by intro h; rw [hn, Bool.false_and] at h; cases h)]
           exact wpAny_pure hQ))
def Itl (K : PySem.W.Frag) (a : Addr) : It :=
  ⟨fun i H => ∃ xs x, SqL K H a xs ∧ xs[i]? = some x, fun i H x H' => H' = H ∧ ∀ xs, SqL K H a xs → xs[i]? = some x, fun i H => ∃ xs, SqL K H a xs ∧ xs.length ≤ i⟩
def Itt (K : PySem.W.Frag) (a : Addr) : It :=
  ⟨fun i H => ∃ xs x, SqT K H a xs ∧ xs[i]? = some x, fun i H x H' => H' = H ∧ ∀ xs, SqT K H a xs → xs[i]? = some x, fun i H => ∃ xs, SqT K H a xs ∧ xs.length ≤ i⟩
def Itr (lo : Int) (n : Nat) : It := ⟨fun i _ => i < n, fun i H x H' => H' = H ∧ x = .int (lo + i), fun i _ => n ≤ i⟩
theorem turn_list {P : Program} {w : World} {K : PySem.W.Frag} {tg : Expr} (a it : Addr) : Turn P w K tg (Itl K a) [it] it (fun i h => h.IsListIter it a i) where
  mem := by simp
  obj := fun i h st b hb => by
    have e : b = it := by simpa using hb
    subst e
    obtain ⟨o, e, c, d⟩ := st
    exact ⟨o, e, fun v z => by rw [d] at z; cases z⟩
  keep := fun i h h' st k => st.at fun o e => k it (by simp) o e
  item := by
    intro X hP hw hK hc i pins s σ H E I hf st hg
    subst hP hw hK
    obtain ⟨xs, x, hq, hx⟩ := hg
    obtain ⟨its, rv, p, hz⟩ := I.list hq
    obtain ⟨u, hu, ru⟩ := rv.get hx
    obtain ⟨f0, f1, f2, f3, f4, f5⟩ := hf it (by simp)
    refine wpAny_pyNext_list_item st p.isList (x := u) (by simpa using hu) fun h' st' sb => ?_
    have I1 : Inv X pins σ H { s with heap := h' } := I.turned (t' := s.toks) (fun b o hb e => (sb.2 b hb).trans e) f0 f1 f3 f4 f5
    obtain ⟨o, e, c, d⟩ := id st'
    exact ⟨u, rfl, go_of (s := { s with heap := h' }) e c d (by decide) ⟨x, H, I1, ru, ⟨rfl, fun ys hy => by rw [I.list_inj hy hq]; exact hx⟩, st', fun b hb => (hf b hb).1⟩⟩
  done := by
    intro X hP hw hK hc i pins s σ H E I hf st hg
    subst hP hw hK
    obtain ⟨xs, hq, hx⟩ := hg
    obtain ⟨its, rv, p, hz⟩ := I.list hq
    obtain ⟨f0, f1, f2, f3, f4, f5⟩ := hf it (by simp)
    have hl := rv.length
    exact wpAny_pyNext_list_end (I.ok.hd hc) st p.isList (by simp; omega) fun h' eb => ⟨rfl, I.turned (t' := s.toks) (fun b o hb e => eb b o hb e) f0 f1 f3 f4 f5⟩
  self := fun _ _ _ _ _ st h => wpAny_pyIter_listiter st h
theorem turn_tuple {P : Program} {w : World} {K : PySem.W.Frag} {tg : Expr} (a it : Addr) : Turn P w K tg (Itt K a) [it] it (fun i h => h.IsTupleIter it a i) where
  mem := by simp
  obj := fun i h st b hb => by
    have e : b = it := by simpa using hb
    subst e
    obtain ⟨o, e, c, d⟩ := st
    exact ⟨o, e, fun v z => by rw [d] at z; cases z⟩
  keep := fun i h h' st k => st.at fun o e => k it (by simp) o e
  item := by
    intro X hP hw hK hc i pins s σ H E I hf st hg
    subst hP hw hK
    obtain ⟨xs, x, hq, hx⟩ := hg
    obtain ⟨its, rv, p, hz⟩ := I.tuple hq
    obtain ⟨u, hu, ru⟩ := rv.get hx
    obtain ⟨f0, f1, f2, f3, f4, f5⟩ := hf it (by simp)
    refine wpAny_pyNext_tuple_item st (show s.heap.IsTuple a its.toArray from p) (x := u) (by simpa using hu) fun h' st' sb => ?_
    have I1 : Inv X pins σ H { s with heap := h' } := I.turned (t' := s.toks) (fun b o hb e => (sb.2 b hb).trans e) f0 f1 f3 f4 f5
    obtain ⟨o, e, c, d⟩ := id st'
    exact ⟨u, rfl, go_of (s := { s with heap := h' }) e c d (by decide) ⟨x, H, I1, ru, ⟨rfl, fun ys hy => by rw [I.tuple_inj hy hq]; exact hx⟩, st', fun b hb => (hf b hb).1⟩⟩
  done := by
    intro X hP hw hK hc i pins s σ H E I hf st hg
    subst hP hw hK
    obtain ⟨xs, hq, hx⟩ := hg
    obtain ⟨its, rv, p, hz⟩ := I.tuple hq
    obtain ⟨f0, f1, f2, f3, f4, f5⟩ := hf it (by simp)
    have hl := rv.length
    exact wpAny_pyNext_tuple_end (I.ok.hd hc) st (show s.heap.IsTuple a its.toArray from p) (by simp; omega) fun h' eb => ⟨rfl, I.turned (t' := s.toks) (fun b o hb e => eb b o hb e) f0 f1 f3 f4 f5⟩
  self := fun _ _ _ _ _ st h => wpAny_pyIter_tupleiter st h
theorem turn_range {P : Program} {w : World} {K : PySem.W.Frag} {tg : Expr} (it : Addr) (lo : Int) (n : Nat) : Turn P w K tg (Itr lo n) [it] it (fun i h => IsRangeIter h it (lo + (i : Nat) * 1) ((n : Int) - (i : Nat)) 1) where
  mem := by simp
  obj := fun i h st b hb => by
    have e : b = it := by simpa using hb
    subst e
    exact ⟨_, st, fun v z => by
      have z' : Data.fields _ = Data.cell v := z
      cases z'⟩
  keep := fun i h h' st k => k it (by simp) _ st
  item := by
    intro X hP hw hK hc i pins s σ H E I hf st hg
    subst hP hw hK
    obtain ⟨f0, f1, f2, f3, f4, f5⟩ := hf it (by simp)
    have W := Walks.range (prog := X.prog) (w := X.w) (I.ok.hd hc) it lo 1 n
    refine W.item i s _ _ hg st fun v h' tk hv st' kk => ?_
    obtain ⟨t, rfl⟩ := hv
    have I1 : Inv X pins σ H { s with heap := h', toks := tk } := I.turned (fun b o hb e => kk b o (by simpa using hb) e) f0 f1 f3 f4 f5
    refine ⟨_, rfl, go_of (s := { s with heap := h', toks := tk }) (n := "range_iterator") st' rfl rfl (by decide) ⟨.int (lo + i), H, I1, ⟨t, ?_⟩, ⟨rfl, rfl⟩, st', fun b hb => (hf b hb).1⟩⟩
    rw [Int.mul_one]
  done := by
    intro X hP hw hK hc i pins s σ H E I hf st hg
    subst hP hw hK
    obtain ⟨f0, f1, f2, f3, f4, f5⟩ := hf it (by simp)
    exact wpAny_pyNext_range_end (I.ok.hd hc) st (by have : n ≤ i := hg; omega) fun h' eb => ⟨rfl, I.turned (t' := s.toks) (fun b o hb e => eb b o hb e) f0 f1 f3 f4 f5⟩
  self := fun _ _ _ _ _ st h => wpAny_pyIter_rangeiter st h
end L2
namespace L2
open PySem PySem.Spec PyProof.Rows
section
variable {X : Cx} {tg : Expr}
def iList (K : PySem.W.Frag) (tl : TE) : TI := fun σ H R => tl σ H fun x H1 => ∃ a, x = .ref a ∧ (∃ xs, SqL K H1 a xs) ∧ R (Itl K a) H1
def iTup (K : PySem.W.Frag) (tl : TE) : TI := fun σ H R => tl σ H fun x H1 => ∃ a, x = .ref a ∧ (∃ xs, SqT K H1 a xs) ∧ R (Itt K a) H1
theorem range_it {pins : List (Addr × Obj)} {σ : St} {H : Hp} {s : Shared} {R : It → Hp → Prop} {E : Value → Shared → Prop} {lo hi : Int} {t u v : Tok} {tk : Nat} (I : Inv X pins σ H s) (h1 : -(2 ^ 62) ≤ lo) (h2 : lo < 2 ^ 62) (h3 : -(2 ^ 62) ≤ hi) (h4 : hi < 2 ^ 62)
    (q : R (Itr lo (hi - lo).toNat) H) : wpAny (model X.prog X.w) X.A (pyIter (.ref s.heap.objs.size)) (PIE X pins σ tg R) E { s with heap := s.heap.push { cls := .type "range", data := .fields #[.int lo t, .int hi u, .int 1 v] }, toks := tk } := by
  refine wpAny_pyIter_range (IsRange.new ..) (small_one h1 h2 h3 h4) ?_
  have I1 : Inv X pins σ H { s with heap := s.heap.push { cls := .type "range", data := .fields #[.int lo t, .int hi u, .int 1 v] }, toks := tk } := I.kept fun b o e => Heap.get?_push_of_some _ e
  refine ⟨(s.heap.push { cls := .type "range", data := .fields #[.int lo t, .int hi u, .int 1 v] }).objs.size, [(s.heap.push { cls := .type "range", data := .fields #[.int lo t, .int hi u, .int 1 v] }).objs.size], _, _, H, rfl,
    I1.kept (t' := tk) fun b o e => Heap.get?_push_of_some _ e, turn_range _ lo (hi - lo).toNat, ?_, fun b hb => ?_, q⟩
  · have e1 : lo + ((0 : Nat) : Int) * 1 = lo := by simp
    have e2 : (((hi - lo).toNat : Nat) : Int) - ((0 : Nat) : Int) = Builtin.Range.rangeSize lo hi 1 := by rw [rangeSize_one]; split <;> omega
    show IsRangeIter _ _ (lo + ((0 : Nat) : Int) * 1) ((((hi - lo).toNat : Nat) : Int) - ((0 : Nat) : Int)) 1
    rw [e1, e2]
    exact Heap.get?_push_size _ rfl
  · have e : b = (s.heap.push { cls := .type "range", data := .fields #[.int lo t, .int hi u, .int 1 v] }).objs.size := by simpa using hb
    subst e
    exact I1.fpOk (Nat.le_refl _) (I1.hok.fresh (Nat.le_refl _))
def iRng1 (ta : TA) : TI := fun σ H R => ta σ H fun vs H1 => ∃ j : Int, vs = [.int j] ∧ -(2 ^ 62) ≤ j ∧ j < 2 ^ 62 ∧ R (Itr 0 j.toNat) H1
def iRng2 (ta : TA) : TI := fun σ H R => ta σ H fun vs H1 => ∃ i j : Int, vs = [.int i, .int j] ∧ (-(2 ^ 62) ≤ i ∧ i < 2 ^ 62 ∧ -(2 ^ 62) ≤ j ∧ j < 2 ^ 62) ∧ R (Itr i (j - i).toNat) H1
theorem pi_range1 {a : Expr} {ta : TA} {p pos : Pos} (hg : Gl X "range") (hm : X.mg "range" = none) (ha : PA X [a] ta) (hs : starEach [a] X.env = [(false, eval a X.env)] := by rfl) : PI X tg (.Call (.Name "range" p) [a] [] pos) (iRng1 ta) := by
  intro pins s σ H R I h
  refine Call_ (ld_blt I hg hm boot_range (PyProof.Rows.callWith_type1 (thn (ha pos pins s σ H _ I h) fun us s1 ⟨vs, H1, I1, r1, q1⟩ => ?_) hs rfl))
  obtain ⟨j, e, q1, q2, q⟩ := q1
  subst e
  cases r1 with
  | cons r rr =>
    cases rr
    obtain ⟨t, rfl⟩ := r
    exact call_range_1 (range_it I1 (by omega) (by omega) q1 q2 (by simpa using q))
def tFor (wi : TI) (g : TG) (tb : TS) : TS := fun D σ H => wi σ H fun J H1 => ∃ W : Nat → Nat → St → Hp → Prop, (∃ m, W 0 m σ H1) ∧ ∀ i m σ H, W i m σ H →
  (J.stop i H ∧ D.nx σ H) ∨ (J.go i H ∧ ∃ N : St → Hp → Prop, (∀ σ' H', N σ' H' → ∃ m', m' < m ∧ W (i + 1) m' σ' H') ∧ ∀ x H', J.yld i H x H' → g x σ H' fun σ2 H2 => tb { D with nx := N, ct := N, bk := D.nx } σ2 H2)
def pinsAt (fp : List Addr) (h : Heap) : List (Addr × Obj) := fp.filterMap fun b => (h.get? b).map fun o => (b, o)
theorem mem_pinsAt {fp : List Addr} {h : Heap} {b : Addr} {o : Obj} (hb : b ∈ fp) (e : h.get? b = some o) : (b, o) ∈ pinsAt fp h := List.mem_filterMap.mpr ⟨b, hb, by rw [e]; rfl⟩
theorem of_pinsAt {fp : List Addr} {h : Heap} {p : Addr × Obj} (hp : p ∈ pinsAt fp h) : p.1 ∈ fp ∧ h.get? p.1 = some p.2 := by
  obtain ⟨b, hb, e⟩ := List.mem_filterMap.mp hp
  cases q : h.get? b with
  | none => rw [q] at e; cases e
  | some o =>
    rw [q] at e
    have e' : (b, o) = p := Option.some.inj e
    subst e'
    exact ⟨hb, q⟩
theorem Inv.pinned {pins : List (Addr × Obj)} {σ : St} {H : Hp} {s : Shared} {fp : List Addr} (I : Inv X pins σ H s) (hf : ∀ b ∈ fp, FpOk X pins H b) (ho : ∀ b ∈ fp, ∃ o, s.heap.get? b = some o ∧ ∀ v, o.data ≠ .cell v) : Inv X (pins ++ pinsAt fp s.heap) σ H s :=
  I.pins_of fun p hp => (List.mem_append.mp hp).elim (fun z => I.pin p (List.mem_append_right _ z)) fun z => by
    obtain ⟨hb, e⟩ := of_pinsAt z
    obtain ⟨f0, f1, f2, _⟩ := hf p.1 hb
    obtain ⟨o, e', d⟩ := ho p.1 hb
    rw [e] at e'; cases e'
    exact ⟨e, f0, f1, f2, d⟩
theorem Inv.unpinned {pins pl : List (Addr × Obj)} {σ : St} {H : Hp} {s : Shared} (I : Inv X (pins ++ pl) σ H s) : Inv X pins σ H s := I.pins_of fun p hp => I.pin p (List.mem_append_right _ (List.mem_append_left _ hp))
theorem ps_for {iter : Expr} {body : List Stmt} {wi : TI} {g : TG} {tb : TS} {pos : Pos} (hp : PassesOwn (model X.prog X.w) X.A X.env X.xe) (hc : X.calm = true) (hi : PI X tg iter wi) (hg : PG X tg g) (hb : PSs X body tb)
    (hs : ∀ x, foldedSetIterable iter X.env x = pure x := by intro _; rfl) : PS X (.For tg iter body [] pos) (tFor wi g tb) := by
  intro pins s σ H D I h
  refine wpAny_For (thn (hi pins s σ H _ I h) fun v s1 h1 => thn h1 fun itv s2 h2 => ?_) hs
  obtain ⟨it, fp, tn, J, H2, e, I2, T, st2, f2, W, ⟨m0, w0⟩, turn⟩ := h2
  subst e
  have stat : ∀ {H' : Hp}, (∀ b ∈ fp, H' b = none) → ∀ b ∈ fp, FpOk X pins H' b := fun hn b hb => ⟨hn b hb, (f2 b hb).2⟩
  refine codeAny_forLoop_any (fun n s' => ∃ i σ' H', Inv X pins σ' H' s' ∧ tn i s'.heap ∧ (∀ b ∈ fp, H' b = none) ∧ W i n σ' H') ?_ m0 ⟨0, σ, H2, I2, st2, fun b hb => (f2 b hb).1, w0⟩
  rintro n s3 ⟨i, σ3, H3, I3, st3, fr3, w3⟩
  rcases turn i n σ3 H3 w3 with ⟨stop, qn⟩ | ⟨go, N, hN, step⟩
  · refine wpAny_passesOwn hp (thn (T.done X rfl rfl rfl hc i pins s3 σ3 H3 X.xe I3 (stat fr3) st3 stop) fun r s4 ⟨hr, I4⟩ => ?_)
    subst hr
    exact wpAny_execs_nil ⟨σ3, H3, I4, qn⟩
  · refine wpAny_passesOwn hp (thn (T.item X rfl rfl rfl hc i pins s3 σ3 H3 X.xe I3 (stat fr3) st3 go) fun r s4 ⟨u, hr, h4⟩ => ?_)
    subst hr
    refine wpAny_passesOwn hp (thn h4 fun _ s5 ⟨x, H5, I5, r5, y5, st5, fr5⟩ => ?_)
    have I5' := I5.pinned (stat fr5) (T.obj _ _ st5)
    refine wpAny_passesOwn hp (thn (hg _ s5 σ3 H5 x u _ I5' r5 (step x H5 y5)) fun _ s6 ⟨σ6, H6, I6, q6⟩ => ?_)
    refine wpAny_passesOwn hp (thn (hb _ s6 σ6 H6 _ I6 q6) fun f s7 q7 => ?_)
    have again : ∀ {σ7 : St} {H7 : Hp}, Inv X (pins ++ pinsAt fp s5.heap) σ7 H7 s7 → N σ7 H7 → ∃ m, m < n ∧ ∃ i σ' H', Inv X pins σ' H' s7 ∧ tn i s7.heap ∧ (∀ b ∈ fp, H' b = none) ∧ W i m σ' H' := fun {σ7 H7} I7 n7 => by
      obtain ⟨m', hm, w7⟩ := hN σ7 H7 n7
      refine ⟨m', hm, i + 1, σ7, H7, I7.unpinned, T.keep _ _ _ st5 fun b hb o e => (I7.pin (b, o) (List.mem_append_right _ (List.mem_append_right _ (mem_pinsAt hb e)))).1, fun b hb => ?_, w7⟩
      obtain ⟨o, e, d⟩ := T.obj _ _ st5 b hb
      exact (I7.pin (b, o) (List.mem_append_right _ (List.mem_append_right _ (mem_pinsAt hb e)))).2.1
    cases f with
    | next => obtain ⟨σ7, H7, I7, n7⟩ := q7; exact again I7 n7
    | cont => obtain ⟨σ7, H7, I7, n7⟩ := q7; exact again I7 n7
    | brk => obtain ⟨σ7, H7, I7, q7⟩ := q7; exact ⟨σ7, H7, I7.unpinned, q7⟩
    | ret v => obtain ⟨x7, σ7, H7, I7, r7, q7⟩ := q7; exact ⟨x7, σ7, H7, I7.unpinned, r7, q7⟩
end
end L2
namespace L2
open PySem PySem.Spec PyProof.Rows
abbrev R2 := V → V → Hp → VK → Prop
def OpR (X : Cx) (f : Value → Value → Sem Value) (r : R2) : Prop :=
  ∀ (pins : List (Addr × Obj)) (s : Shared) (σ : St) (H : Hp) (x y : V) (v u : Value) (Q : VK), Inv X pins σ H s → RelV x v → RelV y u → r x y H Q →
    wpAny (model X.prog X.w) X.A (f v u) (EP X pins σ Q) X.xe s
def UnR (X : Cx) (f : Value → Sem Value) (r : V → Hp → VK → Prop) : Prop :=
  ∀ (pins : List (Addr × Obj)) (s : Shared) (σ : St) (H : Hp) (x : V) (v : Value) (Q : VK), Inv X pins σ H s → RelV x v → r x H Q →
    wpAny (model X.prog X.w) X.A (f v) (EP X pins σ Q) X.xe s
def CallR (X : Cx) (f : Value) (r : List V → Hp → VK → Prop) : Prop :=
  ∀ (pins : List (Addr × Obj)) (s : Shared) (σ : St) (H : Hp) (xs : List V) (us : List Value) (Q : VK), Inv X pins σ H s → Vals xs us → r xs H Q →
    wpAny (model X.prog X.w) X.A (call f us) (EP X pins σ Q) X.xe s
def tOp (r : R2) (ta tb : TE) : TE := fun σ H Q => ta σ H fun x H1 => tb σ H1 fun y H2 => r x y H2 Q
def tUn (r : V → Hp → VK → Prop) (ta : TE) : TE := fun σ H Q => ta σ H fun x H1 => r x H1 Q
def rI (C : Int → Int → Prop) (g : Int → Int → V) : R2 := fun x y H Q => ∃ i j, x = .int i ∧ y = .int j ∧ C i j ∧ Q (g i j) H
def rI0 (g : Int → Int → V) : R2 := fun x y H Q => ∃ i j, x = .int i ∧ y = .int j ∧ Q (g i j) H
def rU (g : Int → V) : V → Hp → VK → Prop := fun x H Q => ∃ i, x = .int i ∧ Q (g i) H
section
variable {X : Cx} {a b c : Expr} {ta tb tc : TE} {pos : Pos}
theorem binT (ha : PE X a ta) (hb : PE X b tb) {pins : List (Addr × Obj)} {s : Shared} {σ : St} {H : Hp} {R : V → V → Hp → Prop} (I : Inv X pins σ H s)
    (h : ta σ H fun x H1 => tb σ H1 fun y H2 => R x y H2) {Q : Value → Shared → Prop} {f : Value → Value → Sem Value}
    (hf : ∀ v u s2 x y H2, Inv X pins σ H2 s2 → RelV x v → RelV y u → R x y H2 → wpAny (model X.prog X.w) X.A (f v u) Q X.xe s2) :
    wpAny (model X.prog X.w) X.A (eval a X.env) (fun v s₁ => wpAny (model X.prog X.w) X.A (eval b X.env) (fun u s₂ => wpAny (model X.prog X.w) X.A (f v u) Q X.xe s₂) X.xe s₁) X.xe s := by
  refine thn (ha pins s σ H _ I h) fun v s1 ⟨x, H1, I1, r1, q1⟩ => ?_
  refine thn (hb pins s1 σ H1 _ I1 q1) fun u s2 ⟨y, H2, I2, r2, q2⟩ => ?_
  exact hf v u s2 x y H2 I2 r1 r2 q2
theorem pe_op {op : Operator} {r : R2} (ho : OpR X (binaryOp op) r) (ha : PE X a ta) (hb : PE X b tb) : PE X (.BinOp a op b pos) (tOp r ta tb) := by
  intro pins s σ H Q I h
  exact wpAny_BinOp (binT ha hb I h fun v u s2 x y H2 I2 rx ry q => ho pins s2 σ H2 x y v u Q I2 rx ry q)
theorem pe_un {op : UnaryOp} {r : V → Hp → VK → Prop} (ho : UnR X (unaryOp op) r) (ha : PE X a ta) : PE X (.UnaryOp op a pos) (tUn r ta) := by
  intro pins s σ H Q I h
  exact UnaryOp_ (thn (ha pins s σ H _ I h) fun v s1 ⟨x, H1, I1, r1, q1⟩ => ho pins s1 σ H1 x v Q I1 r1 q1)
theorem opI {f : Value → Value → Sem Value} {C : Int → Int → Prop} {g : Int → Int → Int}
    (rule : ∀ (i j : Int) (t u : Tok) (s : Shared) (Q : Value → Shared → Prop) (E : Value → Shared → Prop), C i j → Q (.int (g i j) s.toks) { s with toks := s.toks + 1 } → wpAny (model X.prog X.w) X.A (f (.int i t) (.int j u)) Q E s) :
    OpR X f (rI C fun i j => .int (g i j)) := by
  intro pins s σ H x y v u Q I rx ry h
  obtain ⟨i, j, rfl, rfl, hc, q⟩ := h
  obtain ⟨t, rfl⟩ := rx
  obtain ⟨t', rfl⟩ := ry
  exact rule i j t t' s _ _ hc ⟨.int (g i j), H, I.tok _, ⟨_, rfl⟩, q⟩
theorem opI0 {f : Value → Value → Sem Value} {g : Int → Int → Int}
    (rule : ∀ (i j : Int) (t u : Tok) (s : Shared) (Q : Value → Shared → Prop) (E : Value → Shared → Prop), Q (.int (g i j) s.toks) { s with toks := s.toks + 1 } → wpAny (model X.prog X.w) X.A (f (.int i t) (.int j u)) Q E s) :
    OpR X f (rI0 fun i j => .int (g i j)) := by
  intro pins s σ H x y v u Q I rx ry h
  obtain ⟨i, j, rfl, rfl, q⟩ := h
  obtain ⟨t, rfl⟩ := rx
  obtain ⟨t', rfl⟩ := ry
  exact rule i j t t' s _ _ ⟨.int (g i j), H, I.tok _, ⟨_, rfl⟩, q⟩
theorem opB0 {f : Value → Value → Sem Value} {g : Int → Int → Bool}
    (rule : ∀ (i j : Int) (t u : Tok) (s : Shared) (Q : Value → Shared → Prop) (E : Value → Shared → Prop), Q (.bool (g i j)) s → wpAny (model X.prog X.w) X.A (f (.int i t) (.int j u)) Q E s) :
    OpR X f (rI0 fun i j => .bl (g i j)) := by
  intro pins s σ H x y v u Q I rx ry h
  obtain ⟨i, j, rfl, rfl, q⟩ := h
  obtain ⟨t, rfl⟩ := rx
  obtain ⟨t', rfl⟩ := ry
  exact rule i j t t' s _ _ ⟨.bl (g i j), H, I, rfl, q⟩
def CPow (i j : Int) : Prop := 0 ≤ j ∧ j ≤ 1000000 ∧ i.natAbs < 2 ^ 64
def CMul (i j : Int) : Prop := (-(2 ^ 64) < i ∧ i < 2 ^ 64) ∨ (-(2 ^ 64) < j ∧ j < 2 ^ 64)
theorem CMul.ok {i j : Int} (h : CMul i j) : IntMulOk i j := by
  rcases h with ⟨h1, h2⟩ | ⟨h1, h2⟩
  · exact .of_left (intBits_le_64 h1 h2)
  · exact .of_right (intBits_le_64 h1 h2)
theorem op_add : OpR X (binaryOp .Add) (rI0 fun i j => .int (i + j)) := opI0 fun _ _ _ _ _ _ _ q => add_int q
theorem op_sub : OpR X (binaryOp .Sub) (rI0 fun i j => .int (i - j)) := opI0 fun _ _ _ _ _ _ _ q => sub_int q
theorem op_modN : OpR X (binaryOp .Mod) (rI (fun _ j => j ≠ 0) fun i j => .int (i.fmod j)) := opI fun _ _ _ _ _ _ _ hc q => mod_int' hc q
theorem op_pow : OpR X (binaryOp .Pow) (rI CPow fun i j => .int (i ^ j.toNat)) := opI fun _ _ _ _ _ _ _ hc q => pow_int_small hc.1 hc.2.1 hc.2.2 q
theorem unI {f : Value → Sem Value} {g : Int → Int}
    (rule : ∀ (i : Int) (t : Tok) (s : Shared) (Q : Value → Shared → Prop) (E : Value → Shared → Prop), Q (.int (g i) s.toks) { s with toks := s.toks + 1 } → wpAny (model X.prog X.w) X.A (f (.int i t)) Q E s) :
    UnR X f (rU fun i => .int (g i)) := by
  intro pins s σ H x v Q I rx h
  obtain ⟨i, rfl, q⟩ := h
  obtain ⟨t, rfl⟩ := rx
  exact rule i t s _ _ ⟨.int (g i), H, I.tok _, ⟨_, rfl⟩, q⟩
theorem un_neg : UnR X (unaryOp .USub) (rU fun i => .int (-i)) := unI fun _ _ _ _ _ q => neg_int q
end
section
variable {X : Cx} {a b c : Expr} {ta tb tc : TE} {pos : Pos}
theorem op_lt : OpR X (compareOp .Lt) (rI0 fun i j => .bl (decide (i < j))) := opB0 fun _ _ _ _ _ _ _ q => lt_int q
theorem op_le : OpR X (compareOp .LtE) (rI0 fun i j => .bl (decide (i ≤ j))) := opB0 fun _ _ _ _ _ _ _ q => le_int q
theorem op_gt : OpR X (compareOp .Gt) (rI0 fun i j => .bl (decide (j < i))) := opB0 fun _ _ _ _ _ _ _ q => gt_int q
theorem OpR.or {f : Value → Value → Sem Value} {r r' : R2} (h : OpR X f r) (h' : OpR X f r') : OpR X f (fun x y H Q => r x y H Q ∨ r' x y H Q) := by
  intro pins s σ H x y v u Q I rx ry q
  rcases q with q | q
  · exact h pins s σ H x y v u Q I rx ry q
  · exact h' pins s σ H x y v u Q I rx ry q
theorem nomark (b : Expr) {op : CmpOp} (h : op ≠ .In := by decide) (h2 : op ≠ .NotIn := by decide) : behindInMarks op b = false := by
  have e1 : (op == CmpOp.In) = false := by cases op <;> first | rfl | exact absurd rfl h
  have e2 : (op == CmpOp.NotIn) = false := by cases op <;> first | rfl | exact absurd rfl h2
  cases b <;> simp [behindInMarks, e1, e2]
theorem pe_cmpR {op : CmpOp} {r : R2} (ho : OpR X (compareOp op) r) (ha : PE X a ta) (hb : PE X b tb) (hm : behindInMarks op b = false) : PE X (.Compare a [op] [b] pos) (tOp r ta tb) := by
  intro pins s σ H Q I h
  exact wpAny_Compare1 (binT ha hb I h fun v u s2 x y H2 I2 rx ry q => ho pins s2 σ H2 x y v u Q I2 rx ry q) hm
def tTest (t : TE) : TT := fun σ H Q => t σ H fun x H' => ∃ k, x = .bl k ∧ Q k H'
theorem pt_cmpR {op : CmpOp} {r : R2} (ho : OpR X (compareOp op) r) (ha : PE X a ta) (hb : PE X b tb) (hm : behindInMarks op b = false) : PT X (.Compare a [op] [b] pos) (tTest (tOp r ta tb)) := by
  intro pins s σ H Q I h
  refine wpAny_isTrue_Compare1 (thn (ha pins s σ H _ I h) fun v s1 ⟨x, H1, I1, r1, q1⟩ => thn (hb pins s1 σ H1 _ I1 q1) fun u s2 ⟨y, H2, I2, r2, q2⟩ =>
    thn (ho pins s2 σ H2 x y v u _ I2 r1 r2 q2) fun c s3 ⟨z, H3, I3, r3, k, e, q3⟩ => ?_) hm
  subst e
  cases r3
  exact wpAny_truthy_bool ⟨H3, I3, q3⟩
def tChain (r r' : R2) (ta tb tc : TE) : TE := fun σ H Q => ta σ H fun x H1 => tb σ H1 fun y H2 => r x y H2 fun z H3 => ∃ k, z = .bl k ∧
  (if k = true then tc σ H3 fun w' H4 => r' y w' H4 Q else Q (.bl false) H3)
theorem pe_chain {op op' : CmpOp} {r r' : R2} (ho : OpR X (compareOp op) r) (ho' : OpR X (compareOp op') r') (ha : PE X a ta) (hb : PE X b tb) (hc : PE X c tc)
    (hm : lastMarks [op, op'] [b, c] = false := by with_unfolding_all rfl) : PE X (.Compare a [op, op'] [b, c] pos) (tChain r r' ta tb tc) := by
  intro pins s σ H Q I h
  refine Compare_chain (thn (ha pins s σ H _ I h) fun v s1 ⟨x, H1, I1, r1, q1⟩ => chain_link (thn (hb pins s1 σ H1 _ I1 q1) fun u s2 ⟨y, H2, I2, r2, q2⟩ =>
    thn (ho pins s2 σ H2 x y v u _ I2 r1 r2 q2) fun d s3 ⟨z, H3, I3, r3, k, e, q3⟩ => ?_)) hm
  subst e
  cases r3
  refine wpAny_truthy_bool ?_
  cases k with
  | false => exact ite_ff ⟨.bl false, H3, I3, rfl, q3⟩
  | true => exact ite_tt (chain_last (thn (hc pins s3 σ H3 _ I3 q3) fun w' s4 ⟨z', H4, I4, r4, q4⟩ => ho' pins s4 σ H4 y z' u w' Q I4 r2 r4 q4))
theorem line63 : (sizeLine : Nat) < 2 ^ 63 := by rw [sizeLine_eq]; decide
theorem vals1 {x : V} {us : List Value} (r : Vals [x] us) : ∃ u, us = [u] ∧ RelV x u := by
  cases r with
  | cons r1 r2 => cases r2; exact ⟨_, rfl, r1⟩
theorem vals2 {x y : V} {us : List Value} (r : Vals [x, y] us) : ∃ u w', us = [u, w'] ∧ RelV x u ∧ RelV y w' := by
  cases r with
  | cons r1 r2 =>
    cases r2 with
    | cons r3 r4 => cases r4; exact ⟨_, _, rfl, r1, r3⟩
theorem call_max2 (hc : X.calm = true) : CallR X (.builtin "max") (fun xs H Q => ∃ i j, xs = [.int i, .int j] ∧ Q (.int (if j > i then j else i)) H) := by
  intro pins s σ H xs us Q I r h
  obtain ⟨i, j, rfl, q⟩ := h
  obtain ⟨u, w', rfl, ⟨t, rfl⟩, ⟨t', rfl⟩⟩ := vals2 r
  refine max_two_ints (I.ok.hd hc) fun h' tk k => ⟨_, H, I.kept k, ?_, q⟩
  by_cases hj : j > i
  · rw [if_pos hj, if_pos hj]; exact ⟨_, rfl⟩
  · rw [if_neg hj, if_neg hj]; exact ⟨_, rfl⟩
theorem call_min2 (hc : X.calm = true) : CallR X (.builtin "min") (fun xs H Q => ∃ i j, xs = [.int i, .int j] ∧ Q (.int (if j < i then j else i)) H) := by
  intro pins s σ H xs us Q I r h
  obtain ⟨i, j, rfl, q⟩ := h
  obtain ⟨u, w', rfl, ⟨t, rfl⟩, ⟨t', rfl⟩⟩ := vals2 r
  refine min_two_ints (I.ok.hd hc) fun h' tk k => ⟨_, H, I.kept k, ?_, q⟩
  by_cases hj : j < i
  · rw [if_pos hj, if_pos hj]; exact ⟨_, rfl⟩
  · rw [if_neg hj, if_neg hj]; exact ⟨_, rfl⟩
end
end L2
namespace L2
open PySem PySem.Spec PyProof.Rows
structure ObjM (h : Heap) (x dx C : Addr) (mA : Str → Option Value) : Prop where
  obj : h.get? x = some (PySem.W.instObj C dx)
  ns : h.Ns1 dx mA
  ne : dx ≠ x
theorem lookIn_ns {h : Heap} {dx : Addr} {mA : Str → Option Value} (n : h.Ns1 dx mA) : ∃ od, h.get? dx = some od ∧ ∀ name, PySem.W.lookIn name od = some (mA name) := by
  obtain ⟨o, es, ep, ho, hd, hk, _, hm⟩ := n
  refine ⟨o, ho, fun name => ?_⟩
  have e := hm name
  unfold nsFind findBy at e
  rw [← Array.find?_toList] at e
  unfold PySem.W.lookIn
  rw [hd]
  dsimp only
  split
  · rename_i y q
    rw [q] at e
    exact congrArg some e
  · rename_i q
    rw [q] at e
    have a : es.toList.any (·.refKey) = false := by
      rw [List.any_eq_false]
      intro y hy
      obtain ⟨z, t, hkey⟩ := hk y (Array.mem_toList_iff.mp hy)
      simp [DictEntry.refKey, hkey]
    have a' : ¬ es.toList.any (·.refKey) = true := by rw [a]; exact Bool.false_ne_true
    rw [if_neg a']
    exact congrArg some e
theorem ObjM.look {h : Heap} {x dx C : Addr} {mA : Str → Option Value} (I : ObjM h x dx C mA) : ∃ od, PySem.W.InstAt h x (PySem.W.instObj C dx) C (some od) ∧ ∀ name, PySem.W.lookIn name od = some (mA name) :=
  let ⟨od, ho, hl⟩ := lookIn_ns I.ns
  ⟨od, ⟨I.obj, rfl, rfl, ho⟩, hl⟩
section
variable {prog : Program} {w : World} {A : Around} {E : Value → Shared → Prop} {s : Shared} {K : PySem.W.Frag} {x dx C f : Addr} {mA : Str → Option Value} {name : Str} {v : Value}
end
def putF (f : Str) (v : V) : List (Str × V) → List (Str × V)
  | [] => [(f, v)]
  | (g, x) :: r => if g = f then (g, v) :: r else (g, x) :: putF f v r
section
variable {P : Program} {w : World} {H H' : Hp} {h h' : Heap} {a C dx : Addr} {fs fs' : List (Str × V)}
theorem ins_get (hok : HOk P w H h) (e : H a = some (.ins C dx fs)) : ∃ mA, ObjM h a dx C mA ∧ (∀ f, RelO (fs.lookup f) (mA f)) ∧ PySem.Within mA (fs.map (·.1)) ∧ fs.length ≤ 1000 ∧ H dx = some (.own a) := by
  obtain ⟨d, z, ne, ob, mA, n, r, q⟩ := (show ObjOk P w H h a (.ins C dx fs) from hok a _ e)
  exact ⟨mA, ⟨ob, n, ne⟩, r, q, z, d⟩
end
structure Cls (K : PySem.W.Frag) (C : Addr) : Prop where
  pg : PySem.W.plainGet K C Str.empty = true
  hd : PySem.W.hasDictIn K C = true
  po : PySem.W.plainOver K C = true
  sa : PySem.W.findIn K (.ref C) "__setattr__" = some (some (.builtin "object.__setattr__"))
theorem Cls.get {K : PySem.W.Frag} {C : Addr} (c : Cls K C) (f : Str) : PySem.W.plainGet K C f = true := c.pg
def NoAttr (K : PySem.W.Frag) (C : Addr) (f : Str) : Prop := PySem.W.findIn K (.ref C) f = some none
section
variable {X : Cx} {pins : List (Addr × Obj)} {σ : St} {H : Hp} {s : Shared} {a C dx : Addr} {fs : List (Str × V)} {f : Str} {v : V} {A : Around} {E : Value → Shared → Prop}
theorem Inv.made (I : Inv X pins σ H s) : Inv X pins σ (upd (upd H s.heap.objs.size (.own (s.heap.objs.size + 1))) (s.heap.objs.size + 1) (.ins C s.heap.objs.size []))
    { s with heap := (s.heap.push PySem.W.emptyDict).push (PySem.W.instObj C s.heap.objs.size) } := by
  have e1 : (s.heap.push PySem.W.emptyDict).get? s.heap.objs.size = some PySem.W.emptyDict := Heap.get?_push_size s.heap rfl
  have e2 : ((s.heap.push PySem.W.emptyDict).push (PySem.W.instObj C s.heap.objs.size)).get? (s.heap.objs.size + 1) = some (PySem.W.instObj C s.heap.objs.size) := by
    have := Heap.get?_push_size (s.heap.push PySem.W.emptyDict) (o := PySem.W.instObj C s.heap.objs.size) rfl
    rwa [Heap.size_push] at this
  have e3 : (s.heap.push PySem.W.emptyDict).Ns s.heap.objs.size (fun _ => none) := ⟨PySem.W.emptyDict, #[], _, e1, rfl, (fun e he => absurd he (by simp)), fun _ => rfl⟩
  have I1 := I.laid (a := s.heap.objs.size) (o := .own (s.heap.objs.size + 1)) (h' := s.heap.push PySem.W.emptyDict) (t' := s.toks) (fun b u q => Heap.get?_push_of_some _ q) (Nat.le_refl _) ⟨_, e1⟩
  refine I1.laid (a := s.heap.objs.size + 1) (o := .ins C s.heap.objs.size []) (t' := s.toks) (fun b u q => Heap.get?_push_of_some _ q) (Nat.le_of_eq (Heap.size_push _ _)) ?_
  have ne : s.heap.objs.size ≠ s.heap.objs.size + 1 := Nat.ne_of_lt (Nat.lt_succ_self _)
  refine ⟨by rw [upd_ne ne, upd_same], Nat.zero_le _, ne, e2, fun _ => none, (Heap.Ns1.of_empty e3).at fun o q => Heap.get?_push_of_some _ q, fun _ => True.intro, fun y hy => absurd rfl hy⟩
end
def tFld (K : PySem.W.Frag) (ta : TE) (f : Str) : TE := fun σ H Q => ta σ H fun x H1 => ∃ a C dx fs v, x = .ref a ∧ H1 a = some (.ins C dx fs) ∧ Cls K C ∧ NoAttr K C f ∧ fs.lookup f = some v ∧ Q v H1
section
variable {X : Cx} {o e value : Expr} {f : Str} {pos pos' tpos : Pos} {ta tv : TE}
end
section
variable {X : Cx} {pins : List (Addr × Obj)} {σ : St} {H : Hp} {s : Shared} {A : Around} {E : Value → Shared → Prop} {Q : Value → Shared → Prop} {c : Value} {b : Bool}
inductive TyOf (K : PySem.W.Frag) (H : Hp) : V → Value → Prop where
  | non : TyOf K H .non (.type "NoneType")
  | bl (x : Bool) : TyOf K H (.bl x) (.type "bool")
  | int (i : Int) : TyOf K H (.int i) (.type "int")
  | str (x : Str) : TyOf K H (.str x) (.type "str")
  | flt (x : UInt64) : TyOf K H (.flt x) (.type "float")
  | lst {a : Addr} {xs : List V} (e : H a = some (.lst xs)) : TyOf K H (.ref a) (.type "list")
  | frz {a : Addr} {o : Obj} {xs : List V} (e : H a = some (.frz o (.lst xs))) : TyOf K H (.ref a) (.type "list")
  | tup {a : Addr} {xs : List V} (e : H a = some (.tup xs)) : TyOf K H (.ref a) (.type "tuple")
  | dK {a : Addr} {kvs : List (Key × V)} (e : H a = some (.dK kvs)) : TyOf K H (.ref a) (.type "dict")
  | dT {a : Addr} {kvs : List (List Key × V)} (e : H a = some (.dT kvs)) : TyOf K H (.ref a) (.type "dict")
  | ins {a C dx : Addr} {fs : List (Str × V)} (e : H a = some (.ins C dx fs)) (cl : Cls K C) (ha : PySem.W.findIn K (.ref C) "__class__" = some (some (.builtin "object.__class__")))
      (hn : PySem.W.specialIn K (.builtin "object.__class__") "__get__" = some (some (.builtin "getset_descriptor.__get__"))) (htk : PySem.W.takesIn K (.builtin "object.__class__") = some true)
      (hm : PySem.W.mroIn K C (.type "object") = some true) : TyOf K H (.ref a) (.ref C)
theorem isinst_ok {x : V} {u t : Value} (I : Inv X pins σ H s) (rx : RelV x u) (ty : TyOf X.K H x t) (e : PySem.W.kitOne X.K t c = some b) (h : ∀ tk, Q (.bool b) { s with toks := tk }) :
    wpAny (model X.prog X.w) A (call (.builtin "isinstance") [u, c]) Q E s := by
  cases ty with
  | non => cases (show u = Value.none from rx); exact PySem.W.kia_one PySem.W.kitx_none I.kIn True.intro e (fun z => nomatch z) h
  | bl y => cases (show u = Value.bool y from rx); exact PySem.W.kia_one PySem.W.kitx_bool I.kIn True.intro e (fun z => nomatch z) h
  | int i => obtain ⟨t, q⟩ := (show ∃ t, u = Value.int i t from rx); cases q; exact PySem.W.kia_one PySem.W.kitx_int I.kIn True.intro e (fun z => nomatch z) h
  | str y => obtain ⟨t, q⟩ := (show ∃ t, u = Value.str y t from rx); cases q; exact PySem.W.kia_one PySem.W.kitx_str I.kIn True.intro e (fun z => nomatch z) h
  | flt y => obtain ⟨t, q⟩ := (show ∃ t, u = Value.float y t from rx); cases q; exact PySem.W.kia_one PySem.W.kitx_float I.kIn True.intro e (fun z => nomatch z) h
  | @lst a xs ea =>
    cases (show u = Value.ref a from rx)
    obtain ⟨_, _, n, _, h1⟩ := (show ObjOk X.prog X.w H s.heap a (.lst xs) from I.hok a _ ea)
    exact PySem.W.kia_one PySem.W.kitx_list I.kIn ⟨_, h1, rfl⟩ e (fun z => nomatch z) h
  | @frz a ob xs ea =>
    cases (show u = Value.ref a from rx)
    obtain ⟨_, _, _, n, _, h1⟩ := (show ObjOk X.prog X.w H s.heap a (.frz ob (.lst xs)) from I.hok a _ ea)
    exact PySem.W.kia_one PySem.W.kitx_list I.kIn ⟨_, h1, rfl⟩ e (fun z => nomatch z) h
  | @tup a xs ea =>
    cases (show u = Value.ref a from rx)
    obtain ⟨_, _, _, p⟩ := (show ObjOk X.prog X.w H s.heap a (.tup xs) from I.hok a _ ea)
    obtain ⟨o, h1, h2, _⟩ := p
    exact PySem.W.kia_one PySem.W.kitx_tuple I.kIn ⟨o, h1, h2⟩ e (fun z => nomatch z) h
  | @dK a kvs ea =>
    cases (show u = Value.ref a from rx)
    obtain ⟨_, _, vs, _, p⟩ := (show ObjOk X.prog X.w H s.heap a (.dK kvs) from I.hok a _ ea)
    obtain ⟨o, es, ep, h1, h2, _⟩ := p
    exact PySem.W.kia_one PySem.W.kitx_dict I.kIn ⟨o, h1, h2.1⟩ e (fun z => nomatch z) h
  | @dT a kvs ea =>
    cases (show u = Value.ref a from rx)
    obtain ⟨_, _, xs, _, o, es, ep, h1, h2, _⟩ := (show ObjOk X.prog X.w H s.heap a (.dT kvs) from I.hok a _ ea)
    exact PySem.W.kia_one PySem.W.kitx_dict I.kIn ⟨o, h1, h2.1⟩ e (fun z => nomatch z) h
  | @ins a C dx fs ea cl ha hn htk hm =>
    cases (show u = Value.ref a from rx)
    obtain ⟨mA, O, _⟩ := ins_get I.hok ea
    obtain ⟨od, J, _⟩ := O.look
    exact PySem.W.kia_one (PySem.W.kitx_own (cl.get _) cl.hd ha hn htk hm) I.kIn J e (fun z => nomatch z) h
end
end L2
namespace L2
open PySem PySem.Spec PyProof.Rows
structure Room (k : Nat) (A : Around) : Prop where
  hd : A.handled = none
  dp : A.depth + 3 * k + 5 < recursionLimit
  un : A.units + 16 * k + 200 < cLine
theorem Room.mono {j k : Nat} {A : Around} (r : Room k A) (h : j ≤ k) : Room j A := ⟨r.hd, by have := r.dp; omega, by have := r.un; omega⟩
theorem Room.deeper {k : Nat} {A : Around} (r : Room (k + 1) A) (env : Env) : Room k (A.deeper env) :=
  ⟨r.hd, by have := r.dp; show A.depth + 1 + 3 * k + 5 < _; omega, by have := r.un; show A.units + 3 + 16 * k + 200 < _; omega⟩
theorem Room.in1 {k : Nat} {A : Around} (r : Room (k + 1) A) : Room k A.in1 :=
  ⟨r.hd, by have := r.dp; show A.depth + 3 * k + 5 < _; omega, by have := r.un; show A.units + 1 + 16 * k + 200 < _; omega⟩
theorem Room.depth {k : Nat} {A : Around} (r : Room k A) : A.depth < recursionLimit := by have := r.dp; omega
theorem Room.units {k : Nat} {A : Around} (r : Room k A) : A.units + 64 < cLine := by have := r.un; omega
def tNil : TA := fun _ H Q => Q [] H
def tCons (ta : TE) (tr : TA) : TA := fun σ H Q => ta σ H fun x H1 => tr σ H1 fun xs H2 => Q (x :: xs) H2
section
variable {X : Cx} {e : Expr} {es : List Expr} {te : TE} {t : TA} {pos : Pos}
theorem pa_nil : PA X [] tNil := fun _ _ _ _ H Q I h => Calls.spliced_nil ⟨[], H, I, .nil, h⟩
theorem pa_cons (ha : PE X e te) (hr : PA X es t) (hs : starEach (e :: es) X.env = (false, eval e X.env) :: starEach es X.env := by rfl) : PA X (e :: es) (tCons te t) := by
  intro pos pins s σ H Q I h
  rw [hs]
  show wpAny _ _ (spliced ((false, eval e X.env) :: backTo pos (starEach es X.env))) _ _ s
  refine Calls.spliced_cons (thn (ha pins s σ H _ I h) fun u s1 ⟨x, H1, I1, r1, q1⟩ => ?_)
  exact thn (hr pos pins s1 σ H1 _ I1 q1) fun us s2 ⟨xs, H2, I2, r2, q2⟩ => ⟨x :: xs, H2, I2, .cons r1 r2, q2⟩
def tTup (t : TA) : TE := fun σ H Q => t σ H fun xs H1 => xs.length ≤ sizeLine ∧ ∀ p, H1 p = none → Q (.ref p) (upd H1 p (.tup xs))
def tLst (t : TA) : TE := fun σ H Q => t σ H fun xs H1 => xs.length ≤ sizeLine ∧ ∀ p, H1 p = none → Q (.ref p) (upd H1 p (.lst xs))
theorem pe_tup {x1} (h : PA X es t) : PE X (.Tuple es x1 pos) (tTup t) := by
  intro pins s σ H Q I hq
  refine wpAny_Tuple_spliced (thn (h pos pins s σ H _ I hq) fun us s1 ⟨xs, H1, I1, r, z, q⟩ => ⟨by rw [← r.length]; exact z, ?_⟩)
  have hf : H1 s1.heap.objs.size = none := I1.hok.fresh (Nat.le_refl _)
  refine ⟨.ref s1.heap.objs.size, upd H1 s1.heap.objs.size (.tup xs), I1.laid (t' := s1.toks) (fun b u e => Heap.get?_push_of_some _ e) (Nat.le_refl _) ?_, rfl, q _ hf⟩
  exact ⟨z, us, r, ⟨_, Heap.get?_push_size _ rfl, rfl, _, rfl⟩⟩
theorem pe_lst (h : PA X es t) : PE X (.List es pos) (tLst t) := by
  intro pins s σ H Q I hq
  refine wpAny_List_spliced (thn (h pos pins s σ H _ I hq) fun us s1 ⟨xs, H1, I1, r, z, q⟩ => ⟨by rw [← r.length]; exact z, ?_⟩)
  have hf : H1 s1.heap.objs.size = none := I1.hok.fresh (Nat.le_refl _)
  refine ⟨.ref s1.heap.objs.size, upd H1 s1.heap.objs.size (.lst xs), I1.laid (t' := s1.toks) (fun b u e => Heap.get?_push_of_some _ e) (Nat.le_refl _) ?_, rfl, q _ hf⟩
  exact ⟨z, us, 0, r, Heap.get?_push_size _ rfl⟩
end
abbrev Sp := List V → Hp → VK → XK → Prop
abbrev CXT := List Env → Hp → Shared → XK → Value → Shared → Prop
structure Env0 (P : Program) (w : World) (K : PySem.W.Frag) (mg : Str → Option Value) (base : Heap) (A : Around) (outer : List Env) (s : Shared) (H : Hp) : Prop where
  frames : A.frames = some outer
  mod : Mod K mg base
  bs : ∀ b o, base.get? b = some o → s.heap.get? b = some o ∧ H b = none
  bsz : base.objs.size ≤ s.heap.objs.size
  funs : s.heap.FunFrames base outer
  frf : ∀ b ∈ frs outer, H b = none
  hok : HOk P w H s.heap
  bare : AllBare s.gens
def CE (outer : List Env) (P : Program) (w : World) (H : Hp) (s : Shared) (Q : VK) (u : Value) (s' : Shared) : Prop :=
  ∃ v H', s'.os = s.os ∧ AllBare s'.gens ∧ Un (frs outer) [] H H' s.heap s'.heap ∧ HOk P w H' s'.heap ∧ RelV v u ∧ Q v H'
def CR (CX : CXT) (outer : List Env) (P : Program) (w : World) (H : Hp) (s : Shared) (Q : VK) (E : XK) (r : Result) (s' : Shared) : Prop :=
  match r with
  | .ok (.ret u) => CE outer P w H s Q u s'
  | .ok _ => False
  | .error e => CX outer H s E e s'
structure FnOk (P : Program) (w : World) (K : PySem.W.Frag) (mg : Str → Option Value) (base : Heap) (CX : CXT) (k : Nat) (f : Addr) (fd : FuncData) (ps : List Str) (sp : Sp) : Prop where
  len : ∀ vs H Q E, sp vs H Q E → vs.length = ps.length
  run : ∀ (A : Around) (outer : List Env) (s : Shared) (H : Hp) (args : Args) (us : List Value) (vs : List V) (Q : VK) (E : XK), Room k A → Env0 P w K mg base A outer s H → BindsTo s fd args (ps.zip us) → Vals vs us → sp vs H Q E →
    codeAny (model P w) A (.call (.ref f) args) (CR CX outer P w H s Q E) s
theorem FnOk.mono {P : Program} {w : World} {K : PySem.W.Frag} {mg : Str → Option Value} {base : Heap} {CX : CXT} {j k : Nat} {f : Addr} {fd : FuncData} {ps : List Str} {sp : Sp} (F : FnOk P w K mg base CX j f fd ps sp) (h : j ≤ k) :
    FnOk P w K mg base CX k f fd ps sp := ⟨F.len, fun A outer s H args us vs Q E hr => F.run A outer s H args us vs Q E (hr.mono h)⟩
theorem FnOk.imp {P : Program} {w : World} {K : PySem.W.Frag} {mg : Str → Option Value} {base : Heap} {CX : CXT} {k : Nat} {f : Addr} {fd : FuncData} {ps : List Str} {sp sp' : Sp} (F : FnOk P w K mg base CX k f fd ps sp)
    (h : ∀ vs H Q E, sp' vs H Q E → sp vs H Q E) : FnOk P w K mg base CX k f fd ps sp' :=
  ⟨fun vs H Q E q => F.len vs H Q E (h _ _ _ _ q), fun A outer s H args us vs Q E hr he hb hv hs => F.run A outer s H args us vs Q E hr he hb hv (h _ _ _ _ hs)⟩
theorem Env0.in1 {P : Program} {w : World} {K : PySem.W.Frag} {mg : Str → Option Value} {base : Heap} {A : Around} {outer : List Env} {s : Shared} {H : Hp} (e : Env0 P w K mg base A outer s H) :
    Env0 P w K mg base A.in1 outer s H := ⟨e.frames, e.mod, e.bs, e.bsz, e.funs, e.frf, e.hok, e.bare⟩
section
variable {X : Cx} {pins : List (Addr × Obj)} {σ : St} {H : Hp} {s s' : Shared}
theorem Inv.env0 (I : Inv X pins σ H s) : Env0 X.prog X.w X.K X.mg X.base X.A X.stack s H :=
  ⟨I.ok.frames, I.ok.mod, I.bs, Nat.le_trans I.ok.bsz I.sz, I.stack, I.stkFree, I.hok, I.bare⟩
theorem Inv.after {Q : VK} {u : Value} (I : Inv X pins σ H s) (h : CE X.stack X.prog X.w H s Q u s') : EP X pins σ Q u s' := by
  obtain ⟨v, H', os, bare, un, hok, r, q⟩ := h
  obtain ⟨hh, g, d, t, os'⟩ := s'
  obtain rfl : os' = s.os := os
  exact ⟨v, H', I.call (h' := hh) (g' := g) (d' := d) (t' := t) (ch := []) un hok bare (fun b z => absurd z (by simp)), r, q⟩
end
def tCall (sp : Sp) (dvs : List V) (E : XK) (t : TA) : TE := fun σ H Q => t σ H fun vs H1 => sp (vs ++ dvs) H1 Q E
def Binds (K : PySem.W.Frag) (fd : FuncData) (ps : List Str) (ds : List Value) : Prop :=
  ∀ (s : Shared) (us : List Value), K.In s.heap → (us ++ ds).length = ps.length → BindsTo s fd ⟨us, []⟩ (ps.zip (us ++ ds))
theorem Binds.all {K : PySem.W.Frag} {fd : FuncData} {ps : List Str} (h : ∀ us : List Value, us.length = ps.length → bindArgs fd ⟨us, []⟩ = pure (ps.zip us)) : Binds K fd ps [] := fun s us _ hl => by
  rw [List.append_nil] at hl ⊢
  exact .of_eq (h us hl)
def Passes (CX : CXT) (X : Cx) (E : XK) : Prop := ∀ (pins : List (Addr × Obj)) (σ : St) (H : Hp) (s : Shared) (e : Value) (s' : Shared), Inv X pins σ H s → CX X.stack H s E e s' → X.xe e s'
section
variable {X : Cx} {CX : CXT} {k : Nat} {f C : Addr} {fd : FuncData} {ps : List Str} {sp : Sp} {dvs : List V} {ds : List Value} {E : XK} {x m : Str} {p pos apos : Pos} {e o : Expr} {es : List Expr} {ta : TE} {t : TA}
theorem run_fn {pins : List (Addr × Obj)} {σ : St} {H : Hp} {s : Shared} {Q : VK} {us : List Value} {vs : List V} (F : FnOk X.prog X.w X.K X.mg X.base CX k f fd ps sp) (hr : Room k X.A) (hb : Binds X.K fd ps ds) (hd : Vals dvs ds) (hx : Passes CX X E)
    (I : Inv X pins σ H s) (r : Vals vs us) (h : sp (vs ++ dvs) H Q E) : wpAny (model X.prog X.w) X.A (call (.ref f) us) (EP X pins σ Q) X.xe s := by
  have r2 : Vals (vs ++ dvs) (us ++ ds) := r.append hd
  have hl : (us ++ ds).length = ps.length := by rw [← r2.length]; exact F.len _ _ _ _ h
  refine wpAny_call (codeAny_mono (F.run X.A X.stack s H ⟨us, []⟩ (us ++ ds) (vs ++ dvs) Q E hr I.env0 (hb s us I.kIn hl) r2 h) fun r s' hq => ?_)
  cases r with
  | error e => exact hx pins σ H s e s' I hq
  | ok fl =>
    cases fl with
    | ret u => exact I.after hq
    | next => exact False.elim hq
    | brk => exact False.elim hq
    | cont => exact False.elim hq
theorem pe_call (F : FnOk X.prog X.w X.K X.mg X.base CX k f fd ps sp) (hr : Room k X.A) (hg : Gl X x) (hm : X.mg x = some (.ref f)) (hk : PySem.W.keepIn X.K (.ref f) = true) (hb : Binds X.K fd ps ds) (hd : Vals dvs ds) (hx : Passes CX X E)
    (ha : PA X (e :: es) t) (hdb : (x == ("__debug__" : Str)) = false := by decide) (he : starEach (e :: es) X.env = (false, eval e X.env) :: starEach es X.env := by rfl) (hpl : (backTo pos (starEach es X.env)).any (·.1) = false := by rfl) :
    PE X (.Call (.Name x p) (e :: es) [] pos) (tCall sp dvs E t) := by
  intro pins s σ H Q I h
  refine wpAny_Call_Name_kw (ld_glob I hg hm ?_ hdb)
  refine PySem.W.callWith_K (h₀ := X.base) I.ok.mod.kin hk (thn (ha pos pins s σ H _ I h) fun us s1 ⟨vs, H1, I1, r, q⟩ => ⟨I1.kIn, ?_⟩) he hpl
  exact run_fn F hr hb hd hx I1 r q
end
section
variable {X : Cx} {CX : CXT} {k : Nat} {f C : Addr} {fd : FuncData} {ps ks : List Str} {sp : Sp} {E : XK} {x m : Str} {p pos apos kpos : Pos} {e o : Expr} {es : List Expr} {kws : List Keyword} {te ta : TE} {t tk : TA} {nm : Option Str}
variable {g : List Value → List Value → List Value} {gV : List V → List V → List V}
end
structure FnScope (N P : List Str) (sc : Scope) : Prop where
  kind : sc.kind = .function
  co : sc.isCoroutine = false
  gen : sc.isGenerator = false
  nd : N.Nodup
  pre : N.take P.length = P
  par : ∀ x ∈ P, sc.names.lookup x = some .local ∨ sc.names.lookup x = some .cell
  nofree : ∀ y ∈ sc.names, y.2 ≠ .free
theorem bindL_out {kindOf : Str → Option NameKind} {x : Str} : ∀ {binds : List (Str × Value)} {m : Str → Option Value}, (∀ v, (x, v) ∉ binds) → bindL kindOf binds m x = m x
  | [], _, _ => rfl
  | (n, v) :: r, m, h => by
    unfold bindL
    rw [bindL_out fun w hw => h w (List.mem_cons_of_mem _ hw)]
    split
    · have : x ≠ n := by rintro rfl; exact h v List.mem_cons_self
      simp [this]
    · rfl
theorem bindC_out {kindOf : Str → Option NameKind} {x : Str} : ∀ {binds : List (Str × Value)} {m : Str → Option Value}, (∀ v, (x, v) ∉ binds) → bindC kindOf binds m x = m x
  | [], _, _ => rfl
  | (n, v) :: r, m, h => by
    unfold bindC
    rw [bindC_out fun w hw => h w (List.mem_cons_of_mem _ hw)]
    split
    · rfl
    · have : x ≠ n := by rintro rfl; exact h v List.mem_cons_self
      simp [this]
theorem bindL_get {kindOf : Str → Option NameKind} {x : Str} {v : Value} : ∀ {P : List Str} {vs : List Value} {i : Nat} {m : Str → Option Value}, P.Nodup → P[i]? = some x → vs[i]? = some v → kindOf x = some .local →
    bindL kindOf (P.zip vs) m x = some v
  | [], _, _, _, _, h, _, _ => by simp at h
  | _ :: _, [], _, _, _, _, h, _ => by simp at h
  | p :: P, w :: vs, 0, m, nd, h1, h2, hk => by
    simp at h1 h2; subst h1; subst h2
    show bindL kindOf ((p, w) :: P.zip vs) m p = _
    unfold bindL
    rw [bindL_out fun v hv => (List.nodup_cons.mp nd).1 (List.of_mem_zip hv).1, if_pos hk]
    simp
  | p :: P, w :: vs, i + 1, m, nd, h1, h2, hk => by
    show bindL kindOf ((p, w) :: P.zip vs) m x = _
    unfold bindL
    exact bindL_get (i := i) (List.nodup_cons.mp nd).2 (by simpa using h1) (by simpa using h2) hk
theorem bindC_get {kindOf : Str → Option NameKind} {x : Str} {v : Value} : ∀ {P : List Str} {vs : List Value} {i : Nat} {m : Str → Option Value}, P.Nodup → P[i]? = some x → vs[i]? = some v → kindOf x ≠ some .local →
    bindC kindOf (P.zip vs) m x = some v
  | [], _, _, _, _, h, _, _ => by simp at h
  | _ :: _, [], _, _, _, _, h, _ => by simp at h
  | p :: P, w :: vs, 0, m, nd, h1, h2, hk => by
    simp at h1 h2; subst h1; subst h2
    show bindC kindOf ((p, w) :: P.zip vs) m p = _
    unfold bindC
    rw [bindC_out fun v hv => (List.nodup_cons.mp nd).1 (List.of_mem_zip hv).1, if_neg hk]
    simp
  | p :: P, w :: vs, i + 1, m, nd, h1, h2, hk => by
    show bindC kindOf ((p, w) :: P.zip vs) m x = _
    unfold bindC
    exact bindC_get (i := i) (List.nodup_cons.mp nd).2 (by simpa using h1) (by simpa using h2) hk
def start (N : List Str) (vs : List V) : St := vs.map some ++ List.replicate (N.length - vs.length) none
def cxOf (CX : CXT) (P : Program) (w : World) (K : PySem.W.Frag) (mg : Str → Option Value) (base : Heap) (N : List Str) (qual : Str) (scope : Scope) (f : Addr) (cd : Value) (A : Around) (outer : List Env) (s : Shared) (H : Hp) (E : XK) : Cx where
  prog := P
  w := w
  K := K
  mg := mg
  base := base
  A := A.deeper (envOfC qual scope s.heap.objs.size f cd)
  N := N
  s₀ := s
  H₀ := H
  env := envOfC qual scope s.heap.objs.size f cd
  outer := outer
  stack := envOfC qual scope s.heap.objs.size f cd :: outer
  ex := []
  calm := true
  fn := fun _ => true
  pn := []
  xe := fun e s' => wpAny (model P w) (A.deeper (envOfC qual scope s.heap.objs.size f cd)) (leaving (envOfC qual scope s.heap.objs.size f cd) e) (fun _ s'' => CX outer H s E e s'') (fun e' s'' => CX outer H s E e' s'') s'
theorem cell_has {sc : Scope} {n : Nat} {x : Str} (h : sc.names.lookup x = some .cell) : ∃ c, (cellsFrom n sc.names []).lookup x = some c := by
  have q := PySem.W.cellsFrom_some sc.names n [] (.inl h)
  exact Option.isSome_iff_exists.mp q
theorem inv_start {CX : CXT} {P : Program} {w : World} {K : PySem.W.Frag} {mg : Str → Option Value} {base : Heap} {N ps : List Str} {qual : Str} {scope : Scope} {f : Addr} {cd : Value} {A : Around} {outer : List Env} {s s1 : Shared} {H : Hp} {E : XK} {us : List Value} {vs : List V}
    (S : FnScope N ps scope) (hd : A.handled = none) (e0 : Env0 P w K mg base A outer s H) (hl : vs.length = ps.length) (r : Vals vs us)
    (x : InCallC s s.heap.objs.size (bindL (envOfC qual scope s.heap.objs.size f cd).kindOf (ps.zip us) fun _ => none) (cellsFrom (s.heap.objs.size + 1) scope.names []) (bindC (envOfC qual scope s.heap.objs.size f cd).kindOf (ps.zip us) fun _ => none) s1) :
    Inv (cxOf CX P w K mg base N qual scope f cd A outer s H E) [] (start N vs) H s1 := by
  have hpl : ps.length ≤ N.length := by have := congrArg List.length S.pre; rw [List.length_take] at this; omega
  obtain ⟨h1, tk, rfl, hk⟩ := x.done
  have noA : ∀ b : Addr, b ∉ (cxOf CX P w K mg base N qual scope f cd A outer s H E).ex := fun b z => absurd (show b ∈ ([] : List Addr) from z) (by simp)
  refine ⟨⟨e0.mod, S.kind, rfl, rfl, Nat.le_refl _, fun y z c h1 h2 => ?_, fun y hy => ?_, fun y c _ h => ?_, fun _ => hd, Around.frames_deeper e0.frames, .inr ⟨rfl, rfl⟩, fun b z => absurd z (noA b), e0.bs, e0.bsz, fun b _ _ => noA b, fun b z => absurd z (noA b), e0.funs, e0.frf⟩,
    rfl, e0.bare, Un.kept hk, ⟨_, x.toInCall.ns, fun i y v h1 h2 h3 => ?_⟩, fun y c h => ⟨_, x.cell y c h⟩, e0.hok.fresh (Nat.le_refl _), fun y c h => ?_, fun p hp => absurd (show p ∈ ([] : List (Addr × Obj)) from hp) (by simp), e0.hok.kept hk, ?_⟩
  · exact name_of_addr x.apart (PySem.mem_of_lookup h1) (PySem.mem_of_lookup h2)
  · have hy : scope.names.lookup y = some .cell ∨ scope.names.lookup y = some .free := hy
    rcases hy with hy | hy
    · exact cell_has hy
    · exact absurd rfl (S.nofree _ (PySem.mem_of_lookup hy))
  · exact Nat.le_of_lt (x.above y c (PySem.mem_of_lookup h))
  · have hi : i < vs.length := by
      unfold start at h2
      by_cases hi : i < vs.length
      · exact hi
      · rw [List.getElem?_append_right (by simpa using hi)] at h2
        rw [List.getElem?_replicate] at h2
        split at h2 <;> cases h2
    have ha : vs[i]? = some v := by
      unfold start at h2
      rw [List.getElem?_append_left (by simpa using hi), List.getElem?_map] at h2
      cases e : vs[i]? with
      | none => rw [e] at h2; cases h2
      | some a => rw [e] at h2; cases h2; rfl
    obtain ⟨u, hu, rv⟩ := r.get ha
    have hp : ps[i]? = some y := by
      rw [← S.pre, List.getElem?_take_of_lt (by omega)]; exact h1
    have ndP : ps.Nodup := by rw [← S.pre]; exact S.nd.sublist (List.take_sublist _ _)
    refine ⟨u, rv, ?_⟩
    rcases S.par y (List.mem_of_getElem? hp) with k | k
    · exact .inl ⟨k, bindL_get ndP hp hu k⟩
    · obtain ⟨c, e⟩ := cell_has (n := s.heap.objs.size + 1) k
      refine .inr ⟨.inl k, c, e, ?_⟩
      have q := x.cell y c e
      rw [bindC_get ndP hp hu (by show scope.names.lookup y ≠ _; rw [k]; decide)] at q
      exact q
  · exact e0.hok.fresh (Nat.le_of_lt (x.above y c (PySem.mem_of_lookup h)))
  · unfold start
    show _ = N.length
    rw [List.length_append, List.length_map, List.length_replicate]
    omega
theorem fn_of {CX : CXT} {P : Program} {w : World} {K : PySem.W.Frag} {mg : Str → Option Value} {base : Heap} {k : Nat} {f : Addr} {name qual : Str} {params : Arguments} {body : List Stmt} {scope : Scope} {dV kV doc pm cdv ct oc : Value} {an od : Option Addr}
    {osl : Array (Option Value)} {N ps : List Str} {sp : Sp} (lk : K.lookup f = some ⟨oc, od, .func (PySem.W.fnOf name qual params body scope dV kV doc pm an cdv ct), osl⟩) (hcd : PySem.W.codeIn K cdv qual = true) (S : FnScope N ps scope)
    (len : ∀ vs H Q E, sp vs H Q E → vs.length = ps.length)
    (hbody : ∀ (A : Around) (outer : List Env) (s : Shared) (H : Hp) (vs : List V) (Q : VK) (E : XK), Room k (A.deeper (envOfC qual scope s.heap.objs.size f cdv)) → sp vs H Q E →
      ∃ t, PSs (cxOf CX P w K mg base N qual scope f cdv A outer s H E) body t ∧ t { nx := fun _ H' => Q .non H', rt := Q } (start N vs) H) :
    FnOk P w K mg base CX (k + 1) f (PySem.W.fnOf name qual params body scope dV kV doc pm an cdv ct) ps sp := by
  refine ⟨len, fun A outer s H args us vs Q E hr e0 hb r hsp => ?_⟩
  have hl := len _ _ _ _ hsp
  have KX : K.In s.heap := e0.mod.kin.keeps fun b o e => (e0.bs b o e).1
  have lim : s.heap.NoLimit := e0.mod.nolimit.keeps fun b o e => (e0.bs b o e).1
  have hkind : ∀ y ∈ ps.zip us, scope.names.lookup y.1 = some .local ∨ (scope.names.lookup y.1 = some .cell ∧ ((cellsFrom (s.heap.objs.size + 1) scope.names []).lookup y.1).isSome = true) := fun ⟨n, v⟩ hy => by
    rcases S.par n (List.of_mem_zip hy).1 with q | q
    · exact .inl q
    · exact .inr ⟨q, PySem.W.cellsFrom_some _ _ _ (.inl q)⟩
  refine codeAny_call_function hr.depth (KX _ _ lk) rfl S.co S.gen rfl (PySem.W.codeRec_of KX hcd) (hb _ _ _ _ ?_)
  refine wpAny_newFunctionEnv_cells S.kind hkind fun env he s1 x => ?_
  subst he
  refine ⟨lim.keeps x.toInCall.keep, codeAny_func ?_⟩
  obtain ⟨t, ht, hq⟩ := hbody A outer s H vs Q E (hr.deeper _) hsp
  have I : Inv (cxOf CX P w K mg base N qual scope f cdv A outer s H E) [] (start N vs) H s1 := inv_start S hr.hd e0 hl r x
  refine wpAny_mono (ht [] s1 (start N vs) H _ I hq) (fun fl s' hs => ?_) fun e s' hs => hs
  have fin : ∀ {σ' : St} {H' : Hp} {v : V} {u : Value}, Inv (cxOf CX P w K mg base N qual scope f cdv A outer s H E) [] σ' H' s' → RelV v u → Q v H' → CE outer P w H s Q u s' :=
    fun {σ' H' v u} J rv q => ⟨v, H', J.os, J.bare, J.base, J.hok, rv, q⟩
  cases fl with
  | ret u =>
    obtain ⟨v, σ', H', J, rv, q⟩ := hs
    exact fin J rv q
  | next =>
    obtain ⟨σ', H', J, q⟩ := hs
    exact fin (v := V.non) (u := Value.none) J rfl q
  | brk =>
    obtain ⟨_, _, _, q⟩ := hs
    exact False.elim q
  | cont =>
    obtain ⟨_, _, _, q⟩ := hs
    exact False.elim q
end L2
namespace L2
open PySem PySem.Spec PyProof.Rows
section
variable {X : Cx} {x : Str} {p pos : Pos} {e : Expr} {es : List Expr} {t : TA} {id T : String} {r : List V → Hp → VK → Prop}
def tCB (r : List V → Hp → VK → Prop) (t : TA) : TE := fun σ H Q => t σ H fun vs H1 => r vs H1 Q
theorem pe_callB (hc : CallR X (.builtin id) r) (hg : Gl X x) (hm : X.mg x = none) (hv : bootBuiltins x = some (.builtin id)) (ha : PA X (e :: es) t) (hn : x ≠ "__name__" := by decide) (hdb : (x == ("__debug__" : Str)) = false := by decide)
    (he : starEach (e :: es) X.env = (false, eval e X.env) :: starEach es X.env := by rfl) (hpl : (backTo pos (starEach es X.env)).any (·.1) = false := by rfl) : PE X (.Call (.Name x p) (e :: es) [] pos) (tCB r t) := by
  intro pins s σ H Q I h
  refine wpAny_Call_Name_kw (ld_blt I hg hm hv ?_ hn hdb)
  exact PyProof.Rows.callWith_builtin1 (thn (ha pos pins s σ H _ I h) fun us s1 ⟨vs, H1, I1, r1, q1⟩ => hc pins s1 σ H1 vs us Q I1 r1 q1) he hpl
theorem pe_callTy (hc : CallR X (.type T) r) (hg : Gl X x) (hm : X.mg x = none) (hv : bootBuiltins x = some (.type T)) (ha : PA X (e :: es) t) (hn : x ≠ "__name__" := by decide) (hdb : (x == ("__debug__" : Str)) = false := by decide)
    (he : starEach (e :: es) X.env = (false, eval e X.env) :: starEach es X.env := by rfl) (hpl : (backTo pos (starEach es X.env)).any (·.1) = false := by rfl) : PE X (.Call (.Name x p) (e :: es) [] pos) (tCB r t) := by
  intro pins s σ H Q I h
  refine wpAny_Call_Name_kw (ld_blt I hg hm hv ?_ hn hdb)
  exact PyProof.Rows.callWith_type1 (thn (ha pos pins s σ H _ I h) fun us s1 ⟨vs, H1, I1, r1, q1⟩ => hc pins s1 σ H1 vs us Q I1 r1 q1) he hpl
end
end L2
namespace HT
open PySem PyProof.Rows
section
open PySem.SeqAt
open PySem.AutoSeq1 (wpAny_loadPart')
open PySem.MeetsSeq PySem.MeetsSeq2 PySem.MeetsSeq3
end
section
variable {prog : Program} {w : World} {A : Around} {E : Value → Shared → Prop} {s : Shared}
theorem cat_tup {t b : Addr} {vs ws : List Value} {Q : Value → Shared → Prop} (ht : IsTup s.heap t vs.toArray) (hb : IsTup s.heap b ws.toArray) (hv : vs ≠ [])
    (h1 : ws = [] → Q (.ref t) s) (h2 : ws ≠ [] → Q (.ref s.heap.objs.size) { s with heap := s.heap.push { cls := .type "tuple", data := .seq (vs ++ ws).toArray } })
    (hsz : vs.length + ws.length ≤ sizeLine) : wpAny (model prog w) A (binaryOp .Add (.ref t) (.ref b)) Q E s := by
  obtain ⟨⟨cls, dd, data, sl⟩, ho, hc, n, hd⟩ := id ht
  obtain ⟨⟨cls2, dd2, data2, sl2⟩, ho2, hc2, n2, hd2⟩ := id hb
  simp only at hc hd hc2 hd2
  subst hc hd hc2 hd2
  have e : vs.toArray ++ ws.toArray = (vs ++ ws).toArray := by simp
  by_cases hw : ws = []
  · exact concat_meets ⟨_, ho, rfl⟩ ⟨_, ho2, rfl⟩ noFill_tuple_add seq_tuple_add PySem.F.slot_tuple_add PySem.F.entry_tuple_add (PySem.F.args_tuple_add_2 _ _)
      (tuple_addW1 t b vs.toArray ws.toArray n n2 dd dd2 sl sl2 (by simpa using hv) (by simp [hw])) ⟨ho, ho2, h1 hw⟩
  · refine concat_meets ⟨_, ho, rfl⟩ ⟨_, ho2, rfl⟩ noFill_tuple_add seq_tuple_add PySem.F.slot_tuple_add PySem.F.entry_tuple_add (PySem.F.args_tuple_add_2 _ _)
      (tuple_addW2 t b vs.toArray ws.toArray n n2 dd dd2 sl sl2 (by simpa using hv) (by simpa using hw) (by rw [List.size_toArray, List.size_toArray]; exact hsz)) ⟨ho, ho2, ?_⟩
    rw [e]
    exact h2 hw
end
end HT
namespace L2
open PySem PySem.Spec PyProof.Rows
abbrev TO := St → Hp → (Option Int → Hp → Prop) → Prop
section
variable {X : Cx} {e : Expr} {te : TE} {lo hi : Option Expr} {tl th : TO} {pos p2 : Pos}
def SlR (X : Cx) (r : V → Option Int → Option Int → Hp → VK → Prop) : Prop :=
  ∀ (pins : List (Addr × Obj)) (s : Shared) (σ : St) (H : Hp) (x : V) (v vl vu : Value) (lo hi : Option Int) (sl : Addr) (Q : VK), Inv X pins σ H s → RelV x v → s.heap.IsSliceOf sl vl vu .none → IsPart vl lo → IsPart vu hi → r x lo hi H Q →
    ∃ T id, typeLookup (.type T) "__getitem__" = pure (some (.builtin id)) ∧ s.TypeIs v T ∧ wpAny (model X.prog X.w) X.A (getItem v (.ref sl)) (EP X pins σ Q) X.xe s
theorem SlR.or {r r' : V → Option Int → Option Int → Hp → VK → Prop} (h : SlR X r) (h' : SlR X r') : SlR X (fun x lo hi H Q => r x lo hi H Q ∨ r' x lo hi H Q) := by
  intro pins s σ H x v vl vu lo hi sl Q I rx hs pl pu q
  rcases q with q | q
  · exact h pins s σ H x v vl vu lo hi sl Q I rx hs pl pu q
  · exact h' pins s σ H x v vl vu lo hi sl Q I rx hs pl pu q
def tSl (r : V → Option Int → Option Int → Hp → VK → Prop) (te : TE) (tl th : TO) : TE := fun σ H Q => te σ H fun x H1 => tl σ H1 fun l H2 => th σ H2 fun u H3 => r x l u H3 Q
def rCatT (K : PySem.W.Frag) : R2 := fun x y H Q => ∃ a b xs ys, x = .ref a ∧ y = .ref b ∧ SqT K H a xs ∧ SqT K H b ys ∧ xs ≠ [] ∧ xs.length + ys.length ≤ sizeLine ∧
  (ys = [] → Q (.ref a) H) ∧ (ys ≠ [] → ∀ p, H p = none → Q (.ref p) (upd H p (.tup (xs ++ ys))))
theorem Vals.nil_iff {xs : List V} {us : List Value} (r : Vals xs us) : us = [] ↔ xs = [] := by
  cases r with
  | nil => simp
  | cons _ _ => simp
theorem op_catT : OpR X (binaryOp .Add) (rCatT X.K) := by
  intro pins s σ H x y v u Q I rx ry h
  obtain ⟨a, b, xs, ys, rfl, rfl, ha, hb, hx, hz, q1, q2⟩ := h
  cases rx
  cases ry
  obtain ⟨its, r1, p1, _⟩ := I.tuple ha
  obtain ⟨its2, r2, p2, _⟩ := I.tuple hb
  refine HT.cat_tup p1 p2 (fun z => hx (r1.nil_iff.mp z)) (fun z => ⟨.ref a, H, I, rfl, q1 (r2.nil_iff.mp z)⟩) (fun z => ?_) (by rw [← r1.length, ← r2.length]; exact hz)
  refine ⟨.ref s.heap.objs.size, _, I.laid (t' := s.toks) (o := .tup (xs ++ ys)) (fun b ob q => Heap.get?_push_of_some _ q) (Nat.le_refl _) ?_, rfl, q2 (fun w => z (r2.nil_iff.mpr w)) _ (I.hok.fresh (Nat.le_refl _))⟩
  exact ⟨by rw [List.length_append]; exact hz, _, r1.append r2, IsTup.new _ _⟩
end
end L2
namespace L2
open PySem PySem.Spec PyProof.Rows
def ixN (n : Nat) (i : Int) : Option Nat := if 0 ≤ i then (if i < n then some i.toNat else none) else if -(n : Int) ≤ i then some (i + n).toNat else none
def atI {α : Type} (xs : List α) (i : Int) : Option α := (ixN xs.length i).bind fun j => xs[j]?
theorem ixN_seq {n : Nat} {i : Int} {j : Nat} (h : ixN n i = some j) : seqIndex? i n = some j ∧ j < n ∧ -(n : Int) ≤ i ∧ i < n := by
  unfold ixN at h
  by_cases h0 : 0 ≤ i
  · rw [if_pos h0] at h
    by_cases h1 : i < n
    · rw [if_pos h1] at h
      have e : i.toNat = j := Option.some.inj h
      exact ⟨by rw [seqIndex_of h0 h1, e], by omega, by omega, h1⟩
    · rw [if_neg h1] at h; cases h
  · rw [if_neg h0] at h
    by_cases h1 : -(n : Int) ≤ i
    · rw [if_pos h1] at h
      have e : (i + n).toNat = j := Option.some.inj h
      exact ⟨by rw [seqIndex_neg (by omega) h1, e], by omega, h1, by omega⟩
    · rw [if_neg h1] at h; cases h
theorem atI_get {α : Type} {xs : List α} {i : Int} {v : α} (h : atI xs i = some v) : ∃ j, seqIndex? i xs.length = some j ∧ xs[j]? = some v ∧ j < xs.length ∧ -(xs.length : Int) ≤ i ∧ i < xs.length := by
  unfold atI at h
  cases e : ixN xs.length i with
  | none => rw [e] at h; cases h
  | some j =>
    rw [e] at h
    obtain ⟨h1, h2, h3, h4⟩ := ixN_seq e
    exact ⟨j, h1, h, h2, h3, h4⟩
theorem atI_nat {α : Type} {xs : List α} {j : Nat} {v : α} (h : xs[j]? = some v) : atI xs (j : Int) = some v := by
  have hj : j < xs.length := (List.getElem?_eq_some_iff.mp h).1
  have e : ixN xs.length (j : Int) = some j := by
    unfold ixN
    rw [if_pos (by omega), if_pos (by omega)]; simp
  unfold atI; rw [e]; exact h
def PlainIx (b : Expr) : Prop := ∀ o i, subscripted b false o i = operate [o, i] (getItem o i)
def IxR (X : Cx) (r : R2) : Prop :=
  ∀ (value slice : Expr) (pins : List (Addr × Obj)) (s : Shared) (σ : St) (H : Hp) (x y : V) (v u : Value) (Q : VK), Inv X pins σ H s → RelV x v → RelV y u → r x y H Q →
    subscripted slice false v u = operate [v, u] (getItem v u) → wpAny (model X.prog X.w) X.A (subscriptTail value slice v u) (EP X pins σ Q) X.xe s
def MtR (X : Cx) (id : String) (r : V → List V → Hp → VK → Prop) : Prop :=
  ∀ (pins : List (Addr × Obj)) (s : Shared) (σ : St) (H : Hp) (x : V) (xs : List V) (v : Value) (us : List Value) (Q : VK), Inv X pins σ H s → RelV x v → Vals xs us → r x xs H Q →
    wpAny (model X.prog X.w) X.A (call (.builtin id) (v :: us)) (EP X pins σ Q) X.xe s
section
variable {X : Cx} {a b : Expr} {ta tb : TE} {pos : Pos}
theorem IxR.or {r r' : R2} (h : IxR X r) (h' : IxR X r') : IxR X (fun x y H Q => r x y H Q ∨ r' x y H Q) := by
  intro value slice pins s σ H x y v u Q I rx ry q hs
  rcases q with q | q
  · exact h value slice pins s σ H x y v u Q I rx ry q hs
  · exact h' value slice pins s σ H x y v u Q I rx ry q hs
theorem MtR.or {id : String} {r r' : V → List V → Hp → VK → Prop} (h : MtR X id r) (h' : MtR X id r') : MtR X id (fun x xs H Q => r x xs H Q ∨ r' x xs H Q) := by
  intro pins s σ H x xs v us Q I rx rs q
  rcases q with q | q
  · exact h pins s σ H x xs v us Q I rx rs q
  · exact h' pins s σ H x xs v us Q I rx rs q
theorem pe_ix {r : R2} (hr : IxR X r) (ha : PE X a ta) (hb : PE X b tb) (hs : PlainIx b) : PE X (.Subscript a b pos) (tOp r ta tb) := by
  intro pins s σ H Q I h
  exact Subscript_ (binT ha hb I h fun v u s2 x y H2 I2 rx ry q => hr a b pins s2 σ H2 x y v u Q I2 rx ry q (hs _ _))
def rIxL (K : PySem.W.Frag) : R2 := fun x y H Q => ∃ p xs i v, x = .ref p ∧ y = .int i ∧ SqL K H p xs ∧ atI xs i = some v ∧ Q v H
def rIxT (K : PySem.W.Frag) : R2 := fun x y H Q => ∃ p xs i v, x = .ref p ∧ y = .int i ∧ SqT K H p xs ∧ atI xs i = some v ∧ Q v H
theorem ix_list : IxR X (rIxL X.K) := by
  intro value slice pins s σ H x y v u Q I rx ry h hs
  obtain ⟨p, xs, i, z, rfl, rfl, hq, he, q⟩ := h
  cases rx
  obtain ⟨t, rfl⟩ := ry
  obtain ⟨its, r, pl, hz⟩ := I.list hq
  obtain ⟨j, h1, h2, h3, h4, h5⟩ := atI_get he
  obtain ⟨w, ew, rw'⟩ := r.get h2
  have hl := r.length
  have hn := line63
  have fin : EP X pins σ Q w s := ⟨z, H, I, rw', q⟩
  by_cases h0 : 0 ≤ i
  · have hj : i.toNat = j := by
      rw [seqIndex_of h0 h5] at h1
      exact Option.some.inj h1
    exact item_listR pl.isList h0 (by omega) (by rw [hj]; simpa using ew) fin hs
  · have hj : (i + (its.toArray.size : Int)).toNat = j := by
      rw [seqIndex_neg (by omega) h4] at h1
      rw [List.size_toArray, ← hl]
      exact Option.some.inj h1
    exact subscriptTail_builtinR (x := w) pl.isList.typeIs slot_list_getitem.lookup
      (wpAny_getItem_list_neg (Q := fun r s' => r = w ∧ EP X pins σ Q r s') pl.isList (by omega) (by rw [List.size_toArray] <;> omega) (by omega) (by rw [hj]; simpa using ew) ⟨rfl, fin⟩) hs
theorem ix_tup : IxR X (rIxT X.K) := by
  intro value slice pins s σ H x y v u Q I rx ry h hs
  obtain ⟨p, xs, i, z, rfl, rfl, hq, he, q⟩ := h
  cases rx
  obtain ⟨t, rfl⟩ := ry
  obtain ⟨its, r, pl, hz⟩ := I.tuple hq
  obtain ⟨j, h1, h2, h3, h4, h5⟩ := atI_get he
  obtain ⟨w, ew, rw'⟩ := r.get h2
  have hl := r.length
  have hn := line63
  have fin : EP X pins σ Q w s := ⟨z, H, I, rw', q⟩
  exact subscriptTail_builtinR (x := w) pl.typeIs slot_tuple_getitem.lookup
    (getItem_tuple (j := j) (Q := fun r s' => r = w ∧ EP X pins σ Q r s') pl (by omega) (by omega) (by rw [List.size_toArray, ← hl]; exact h1) (by simpa using ew) ⟨rfl, fin⟩) hs
theorem mapSeq_set (its : List Value) (n j : Nat) (u : Value) : Obj.mapSeq (·.setIfInBounds j u) { cls := .type "list", data := .seq its.toArray n } = { cls := .type "list", data := .seq (its.set j u).toArray n } := by
  simp [Obj.mapSeq]
theorem Inv.lst {pins : List (Addr × Obj)} {σ : St} {H : Hp} {s : Shared} {p : Addr} {xs : List V} (I : Inv X pins σ H s) (h : H p = some (.lst xs)) :
    ∃ (its : List Value) (n : Nat), Vals xs its ∧ s.heap.get? p = some { cls := .type "list", data := .seq its.toArray n } ∧ xs.length ≤ sizeLine := by
  obtain ⟨z, its, n, r, e⟩ := I.hok p _ h
  exact ⟨its, n, r, e, z⟩
theorem Inv.lstUpd {pins : List (Addr × Obj)} {σ : St} {H : Hp} {s : Shared} {p : Addr} {xs ys : List V} {its its' : List Value} {n n' : Nat} {f : Obj → Obj} (I : Inv X pins σ H s) (h : H p = some (.lst xs))
    (ho : s.heap.get? p = some { cls := .type "list", data := .seq its.toArray n }) (hf : f { cls := .type "list", data := .seq its.toArray n } = { cls := .type "list", data := .seq its'.toArray n' }) (r : Vals ys its') (hz : ys.length ≤ sizeLine) (t : Nat) :
    Inv X pins σ (upd H p (.lst ys)) { s with heap := s.heap.update p f, toks := t } := by
  have e : (s.heap.update p f).get? p = some { cls := .type "list", data := .seq its'.toArray n' } := by
    rw [Heap.get?_update_self f ho (by rw [hf] <;> rfl), hf]
  refine I.write (x := p) (e := p) (by rw [h]; trivial) (.inl rfl) (fun b u hb q => (Heap.get?_update_other _ _ (Ne.symm hb)).trans q) ⟨_, e⟩ ?_
  exact ⟨hz, its', n', r, e⟩
def rSetL : V → V → V → Hp → (Hp → Prop) → Prop := fun o i v H Q => ∃ p xs k j, o = .ref p ∧ i = .int k ∧ H p = some (.lst xs) ∧ ixN xs.length k = some j ∧ Q (upd H p (.lst (xs.set j v)))
theorem set_list : PSet X rSetL := by
  intro pins s σ H o i v ov iv u Q I ro ri rv h
  obtain ⟨p, xs, k, j, rfl, rfl, hp, hj, q⟩ := h
  cases ro
  obtain ⟨t, rfl⟩ := ri
  obtain ⟨its, n, r, ho, hz⟩ := I.lst hp
  obtain ⟨h1, h2, h3, h4⟩ := ixN_seq hj
  have hl := r.length
  have hn := line63
  have I' : Inv X pins σ (upd H p (.lst (xs.set j v))) { s with heap := s.heap.update p (Obj.mapSeq (·.setIfInBounds j u)) } :=
    I.lstUpd hp ho (mapSeq_set its n j u) (r.set rv j) (by rw [List.length_set]; exact hz) s.toks
  by_cases h0 : 0 ≤ k
  · have hk : k.toNat = j := by
      rw [seqIndex_of h0 h4] at h1
      exact Option.some.inj h1
    exact PySem.W.ki_setAt ho h0 (by omega) (by rw [List.size_toArray, ← hl]; exact h4) (by rw [hk]; exact ⟨_, I', q⟩)
  · have hk : (k + (its.toArray.size : Int)).toNat = j := by
      rw [seqIndex_neg (by omega) h3] at h1
      rw [List.size_toArray, ← hl]
      exact Option.some.inj h1
    exact PySem.W.ki_setBack ho (by omega) (by rw [List.size_toArray, ← hl]; exact h3) (by omega) (by rw [hk]; exact ⟨_, I', q⟩)
theorem call_len_seq : CallR X (.builtin "len") (fun xs H Q => ∃ p ys, xs = [.ref p] ∧ (SqL X.K H p ys ∨ SqT X.K H p ys) ∧ Q (.int ys.length) H) := by
  intro pins s σ H xs us Q I r h
  obtain ⟨p, ys, rfl, hq, q⟩ := h
  obtain ⟨u, rfl, rx⟩ := vals1 r
  cases rx
  have hn := line63
  rcases hq with hq | hq
  · obtain ⟨its, r', pl, hz⟩ := I.list hq
    have hlen := r'.length
    exact Calls.call_len_list pl.isList (by simp only [List.size_toArray] <;> omega) ⟨.int ys.length, H, I.tok _, ⟨s.toks + 1, by rw [List.size_toArray, hlen]⟩, q⟩
  · obtain ⟨its, r', pl, hz⟩ := I.tuple hq
    have hlen := r'.length
    exact len_tuple pl (by simp only [List.size_toArray] <;> omega) ⟨.int ys.length, H, I.tok _, ⟨s.toks + 1, by rw [List.size_toArray, hlen]⟩, q⟩
theorem CallR.or {f : Value} {r r' : List V → Hp → VK → Prop} (h : CallR X f r) (h' : CallR X f r') : CallR X f (fun xs H Q => r xs H Q ∨ r' xs H Q) := by
  intro pins s σ H xs us Q I rs q
  rcases q with q | q
  · exact h pins s σ H xs us Q I rs q
  · exact h' pins s σ H xs us Q I rs q
theorem call_tuple_of : CallR X (.type "tuple") (fun xs H Q => ∃ p ys, xs = [.ref p] ∧ ((SqL X.K H p ys ∧ ∀ l, H l = none → Q (.ref l) (upd H l (.tup ys))) ∨ (SqT X.K H p ys ∧ Q (.ref p) H))) := by
  intro pins s σ H xs us Q I r h
  obtain ⟨p, ys, rfl, h⟩ := h
  obtain ⟨u, rfl, rx⟩ := vals1 r
  cases rx
  rcases h with ⟨hq, q⟩ | ⟨hq, q⟩
  · obtain ⟨its, r', pl, hz⟩ := I.list hq
    have hlen := r'.length
    refine call_tuple_list pl.isList (fun h' kp => ?_) (by simp only [List.size_toArray] <;> omega)
    have I1 : Inv X pins σ H { s with heap := h' } := I.kept (t' := s.toks) kp
    have I2 : Inv X pins σ (upd H h'.objs.size (.tup ys)) { s with heap := h'.push { cls := .type "tuple", data := .seq its.toArray } } :=
      I1.laid (t' := s.toks) (fun b o e => Heap.get?_push_of_some _ e) (Nat.le_refl _) (show ObjOk X.prog X.w _ _ _ (.tup ys) from ⟨hz, its, r', IsTup.new _ _⟩)
    exact ⟨.ref h'.objs.size, _, I2, rfl, q _ (I1.hok.fresh (Nat.le_refl _))⟩
  · obtain ⟨its, r', pl, hz⟩ := I.tuple hq
    exact call_tuple_same pl ⟨.ref p, H, I, rfl, q⟩
def tyV (K : PySem.W.Frag) (T : String) (x : V) (H : Hp) : Prop := match x with
  | .str _ => T = "str"
  | .int _ => T = "int"
  | .ref p => (T = "list" ∧ ∃ xs, SqL K H p xs) ∨ (T = "tuple" ∧ ∃ o, K.lookup p = some o ∧ o.cls = .type "tuple" ∧ o.dict = none) ∨
      (T = "dict" ∧ ((∃ kvs, H p = some (.dK kvs)) ∨ ∃ kvs, H p = some (.dT kvs))) ∨ (T = "set" ∧ ∃ S n, H p = some (.set S n))
  | _ => False
theorem tyV_is {pins : List (Addr × Obj)} {σ : St} {H : Hp} {s : Shared} {T : String} {x : V} {v : Value} (I : Inv X pins σ H s) (r : RelV x v) (ty : tyV X.K T x H) :
    s.TypeIs v T ∧ ∀ a, v = .ref a → ∃ ob, s.heap.get? a = some ob ∧ ob.dict = none := by
  cases x with
  | str z =>
    obtain ⟨t, rfl⟩ := r
    cases (show T = "str" from ty)
    exact ⟨typeIs_str s z t, fun _ e => nomatch e⟩
  | int i =>
    obtain ⟨t, rfl⟩ := r
    cases (show T = "int" from ty)
    exact ⟨typeIs_int s i t, fun _ e => nomatch e⟩
  | ref p =>
    cases r
    rcases ty with ⟨rfl, xs, hq⟩ | ⟨rfl, o, hk, hc, hd⟩ | ⟨rfl, hk⟩ | ⟨rfl, S, n, hk⟩
    · obtain ⟨its, _, pl, _⟩ := I.list hq
      refine ⟨pl.isList.typeIs, fun a e => ?_⟩
      cases e
      obtain ⟨o, n, e, c, hd, _⟩ := pl
      exact ⟨o, e, hd⟩
    · refine ⟨⟨o, I.kIn p o hk, hc⟩, fun a e => ?_⟩
      cases e
      exact ⟨o, I.kIn _ o hk, hd⟩
    · have z : ∃ o, s.heap.get? p = some o ∧ o.ExactDict := by
        rcases hk with ⟨kvs, hk⟩ | ⟨kvs, hk⟩
        · obtain ⟨_, _, _, _, o, _, _, e, ex, _⟩ := I.hok p _ hk
          exact ⟨o, e, ex⟩
        · obtain ⟨_, _, _, _, o, _, _, e, ex, _⟩ := I.hok p _ hk
          exact ⟨o, e, ex⟩
      obtain ⟨o, e, ex⟩ := z
      refine ⟨⟨o, e, ex.1⟩, fun a e2 => ?_⟩
      cases e2
      exact ⟨o, e, ex.2.1⟩
    · obtain ⟨o, _, _, _, e, ex, _⟩ := I.hok p _ hk
      refine ⟨⟨o, e, ex.1⟩, fun a e2 => ?_⟩
      cases e2
      exact ⟨o, e, ex.2.1⟩
  | _ => exact False.elim ty
def tBM (K : PySem.W.Frag) (T : String) (r : V → List V → Hp → VK → Prop) (to : TE) (t : TA) : TE := fun σ H Q => to σ H fun x H1 => tyV K T x H1 ∧ t σ H1 fun xs H2 => r x xs H2 Q
variable {o e : Expr} {es : List Expr} {to : TE} {t : TA} {name : Str} {apos cpos : Pos} {T id : String} {r : V → List V → Hp → VK → Prop}
theorem pe_bm (pa : PlainAttrs T) (slot : Slot T name id) (hty : typeOf (.builtin id) = pure (.type "method_descriptor")) (hm : MtR X id r) (ho : PE X o to) (ha : PA X (e :: es) t)
    (hbase : attributeBase o name X.env (eval o X.env) = eval o X.env := by rfl)
    (hfew : ((backTo cpos (starEach (e :: es) X.env)).all (fun x => !x.1) && (backToKw cpos (keywordEach [] X.env)).all (fun x => x.1.isSome)
      && decide ((e :: es).length + ([] : List Keyword).length + (if ([] : List Keyword).isEmpty then 0 else 1) < 30)) = true := by rfl)
    (hline : (apos.endLine == cpos.line) = true := by rfl) (hs : starEach (e :: es) X.env = (false, eval e X.env) :: starEach es X.env := by rfl) (hplain : (backTo cpos (starEach es X.env)).any (·.1) = false := by rfl) :
    PE X (.Call (.Attribute o name apos) (e :: es) [] cpos) (tBM X.K T r to t) := by
  intro pins s σ H Q I h
  refine wpAny_Call_method_late hbase hfew hline rfl (thn (ho pins s σ H _ I h) fun v s1 ⟨x, H1, I1, r1, ty, q1⟩ => ?_)
  obtain ⟨h1, h2⟩ := tyV_is I1 r1 ty
  refine ⟨T, id, pa, slot, hty, h1, h2, ?_⟩
  have hA := ha cpos pins s1 σ H1 _ I1 q1
  rw [hs] at hA ⊢
  refine Calls.callWith_builtin (by show (false || (backTo cpos (starEach es X.env)).any (·.1)) = false; rw [hplain] <;> rfl) (Calls.evalArgs_plain ?_)
  exact thn hA fun us s2 ⟨vs, H2, I2, r2, q2⟩ => hm pins s2 σ H2 x vs v us Q I2 r1 r2 q2
/- xs.append(e), list.index on a module's tuple .. are MtR facts of 06m -/
end
end L2
namespace L2
open PySem PySem.Spec PyProof.Rows
def MtM (X : Cx) (id : String) (r : V → List V → Hp → VK → Prop) : Prop :=
  ∀ (pins : List (Addr × Obj)) (s : Shared) (σ : St) (H : Hp) (x : V) (xs : List V) (v : Value) (us : List Value) (Q : VK), Inv X pins σ H s → RelV x v → Vals xs us → r x xs H Q →
    wpAny (model X.prog X.w) X.A (call (.builtin id) (v :: us)) (EP X pins σ Q) X.xe s
theorem Vals.one : ∀ {x : V} {us : List Value}, Vals [x] us → ∃ u, us = [u] ∧ RelV x u
  | _, _, .cons r .nil => ⟨_, rfl, r⟩
theorem Vals.two : ∀ {x y : V} {us : List Value}, Vals [x, y] us → ∃ u v, us = [u, v] ∧ RelV x u ∧ RelV y v
  | _, _, _, .cons r (.cons q .nil) => ⟨_, _, rfl, r, q⟩
theorem Vals.zero : ∀ {us : List Value}, Vals [] us → us = []
  | _, .nil => rfl
theorem Vals.dropLast {xs : List V} {us : List Value} (h : Vals xs us) : Vals xs.dropLast us.dropLast := by
  induction h with
  | nil => exact .nil
  | cons r t ih =>
    cases t with
    | nil => exact .nil
    | cons q t' => exact .cons r ih
theorem Vals.reverse {xs : List V} {us : List Value} (h : Vals xs us) : Vals xs.reverse us.reverse := by
  induction h with
  | nil => exact .nil
  | cons r t ih => rw [List.reverse_cons, List.reverse_cons]; exact Vals.append ih (.cons r .nil)
section
variable {X : Cx} {pins : List (Addr × Obj)} {σ : St} {H : Hp} {s : Shared} {l b : Addr} {xs ys zs : List V}
theorem Inv.lset {its its' : List Value} {n : Nat} {f : Array Value → Array Value} {t' : Nat} (I : Inv X pins σ H s) (hH : H l = some (.lst xs))
    (e : s.heap.get? l = some { cls := .type "list", data := .seq its.toArray n }) (hf : f its.toArray = its'.toArray) (hv : Vals ys its') (hz : ys.length ≤ sizeLine) :
    Inv X pins σ (upd H l (.lst ys)) { s with heap := s.heap.update l (Obj.mapSeq f), toks := t' } := by
  have q := PySem.IsL.update e f
  rw [hf] at q
  refine I.write (x := l) (e := l) (by rw [hH]; exact trivial) (.inl rfl) (fun b' u hb hu => (Heap.get?_update_other s.heap (Obj.mapSeq f) (Ne.symm hb)).trans hu) ⟨_, q⟩ ?_
  exact ⟨hz, its', _, hv, q⟩
theorem Inv.lnew {its : List Value} {t' : Nat} (I : Inv X pins σ H s) (hv : Vals ys its) (hz : ys.length ≤ sizeLine) :
    Inv X pins σ (upd H s.heap.objs.size (.lst ys)) { s with heap := s.heap.push { cls := .type "list", data := .seq its.toArray }, toks := t' } :=
  I.laid (fun _ _ q => Heap.get?_push_of_some _ q) (Nat.le_refl _) ⟨hz, its, 0, hv, Heap.get?_push_size _ rfl⟩
theorem Inv.fresh (I : Inv X pins σ H s) : H s.heap.objs.size = none := I.hok.fresh (Nat.le_refl _)
theorem Inv.lstM (I : Inv X pins σ H s) (hH : H l = some (.lst xs)) : xs.length ≤ sizeLine ∧ ∃ (its : List Value) (n : Nat), Vals xs its ∧ xs.length = its.length ∧ s.heap.get? l = some { cls := .type "list", data := .seq its.toArray n } := by
  obtain ⟨z, its, n, r, e⟩ := I.hok l _ hH
  exact ⟨z, its, n, r, r.length, e⟩
end
section
variable {X : Cx}
def rAppend : V → List V → Hp → VK → Prop := fun x vs H Q => ∃ l xs y, x = .ref l ∧ vs = [y] ∧ H l = some (.lst xs) ∧ xs.length < sizeLine ∧ Q .non (upd H l (.lst (xs ++ [y])))
theorem mt_append : MtM X "list.append" rAppend := by
  intro pins s σ H x vs v us Q I rx rv h
  obtain ⟨l, xs, y, rfl, rfl, hH, hz, q⟩ := h
  cases rx
  obtain ⟨u, rfl, ru⟩ := rv.one
  obtain ⟨z, its, n, r, hl, e⟩ := I.lstM hH
  refine call_meets F.slot_list_append ⟨_, e, rfl⟩ F.entry_list_append (F.args_list_append_2 _ _) (PySem.list_append l its.toArray n u (by rw [List.size_toArray]; omega)) ⟨e, ?_⟩
  refine ⟨.non, _, I.lset (its' := its ++ [u]) hH e (by simp) (r.append (.cons ru .nil)) ?_, rfl, q⟩
  rw [List.length_append, List.length_singleton]
  omega
end
section
variable {prog : Program} {w : World} {A : Around} {E : Value → Shared → Prop} {s : Shared}
end
section
variable {X : Cx}
end
end L2
namespace Att
open PySem PySem.W PySem.Calls PyProof.Rows
theorem ints_of_wellAll {P : Params} {h : Heap} : ∀ (ns : List Int) (vs : List Value), WellAll P h vs (ns.map WData.int) → IntsAre vs ns := by
  intro ns
  induction ns with
  | nil =>
    intro vs w
    rw [List.map_nil] at w
    cases w
    exact .nil
  | cons n ns ih =>
    intro vs w
    rw [List.map_cons] at w
    cases w with
    | cons a b =>
      cases a
      exact .cons _ _ (ih _ b)
theorem script_of {l : OpenLaw} {n : Nat} (hn : l.most = some n) {P : Params} {h : Heap} {args : List WData} {vals : List Value}
    (hpre : l.row.toRowW.claim.pre args = true) (hwl : WellAll P h vals args) :
    ∃ a vs ns, vals = [Value.ref a] ∧ args = [WData.list (ns.map WData.int)] ∧ h.get? a = some { cls := .type "list", data := .seq vs.toArray } ∧ IntsAre vs ns ∧ ns.length ≤ n := by
  have hsh : WShape.hasAll [] args [.list .int] = true := (pre_splitW hpre).1
  have hc : l.pre.holds [] { args := args } = true := (pre_splitW hpre).2
  obtain ⟨d, r, rfl, h1, h2⟩ := hasAllW_cons hsh
  obtain rfl := hasAllW_nil h2
  obtain ⟨xs, rfl, h3⟩ := hasW_list h1
  obtain ⟨ns, rfl⟩ := items_int h3
  have hlen : ns.length ≤ n := by
    unfold OpenLaw.pre at hc
    have h4 : (WTm.not (.lt (.lit (.int (n : Int))) (.len (.arg 0)))).holds [] { args := [.list (ns.map .int)] } = true := by
      have h4 := (holds_andW hc).1
      rw [hn] at h4
      exact h4
    have h5 := condW_of h4 (w_not (w_lt w_lit (w_len_list (w_arg rfl))))
    rw [List.length_map] at h5
    refine Nat.le_of_not_lt fun q => ?_
    have q' : (n : Int) < ((ns.length : Nat) : Int) := by omega
    first
      | (rw [decide_eq_true q'] at h5; exact absurd h5 (by decide))
      | (simp at h5; omega)
  cases hwl with
  | cons w1 w2 =>
    cases w2
    cases w1 with
    | list ho hall => exact ⟨_, _, ns, rfl, rfl, ho, ints_of_wellAll ns _ hall, hlen⟩
theorem post_true (l : OpenLaw) (args : List WData) : l.row.toRowW.claim.post args (.bool true) args = true :=
  postW_of (r := l.row.toRowW) (X := (true == true))
    (show WShape.has [] (.bool true) .bool = true by first | rfl | decide | simp [WShape.has, WShape.arms, WShape.armsAll])
    (show (WTm.eq .res (.lit (.bool true))).value [] { args := args, res := some (.bool true), after := args } = some (.bool (true == true)) from w_eq_bool (w_res rfl) w_lit) rfl
theorem attach_call {l : OpenLaw} {n : Nat} {q : Program} {loose : List Str} {XP : (Str → Option Value) → Heap → Prop} {YP : World → Heap → Prop} {d : DefRec}
    (hn : l.most = some n) (hdf : d.params.defaults = [])
    (call : ∀ (w : World) (s₀ s₁ : Shared) (mg mb : Str → Option Value) (fa : Addr) (o : Obj) (pm cd doc : Value) (a : Addr) (vs : List Value) (ns : List Int),
      Ground q loose [] XP w s₀ mg mb s₁.heap → YP w s₁.heap →
      s₁.heap.get? fa = some o → o.data = .func (docDef d.name d.params d.body d.scope pm cd doc) → s₁.heap.CodeRec cd d.name → mg d.name = some (.ref fa) →
      s₁.heap.get? a = some { cls := .type "list", data := .seq vs.toArray } → IntsAre vs ns → ns.length ≤ n → s₁.gens = #[] →
      codeAny (model l.prog w) callerA (.call (.ref fa) ⟨[.ref a], []⟩) (fun r s' => r = .ok (.ret (.bool true)) ∧ OldK s₁.heap s'.heap ∧ s'.os = s₁.os ∧ AllBare s'.gens) s₁) :
    WalkO q loose XP YP l.row.toRowW d [] (fun f vs => PySem.call f vs) := by
  intro w s₀ s₁ mg mb G Y fa o pm cd doc dV kV ho hd hcd hD hmg hg args vals as hpre hlay hrd hwl hlo
  obtain rfl : dV = .none := Dflts.none hD hdf
  obtain rfl : kV = .none := Dflts.noKw hD
  obtain ⟨a, vs, ns, rfl, rfl, hobj, hints, hlen⟩ := script_of hn hpre hwl
  refine enter_call (codeAny_mono (call w s₀ s₁ mg mb fa o pm cd doc a vs ns G Y ho (fd_plain hd) hcd hmg hobj hints hlen hg) fun r s' hq => ?_)
  obtain ⟨rfl, h2, h3, h4⟩ := hq
  exact ⟨.inl ⟨.bool true, .bool true, [], rfl, fun _ => rfl, .bool true, post_true l _, fun _ => ⟨List.Pairwise.nil, fun _ hm => (nomatch hm)⟩⟩, h2, h3, h4⟩
section
variable {prog : Program} {w : World} {A : Around} {E : Value → Shared → Prop} {s : Shared} {K : Frag}
end
end Att
namespace L2
open PySem PySem.Spec PyProof.Rows
theorem vals_ints : ∀ {vs : List Value} {ns : List Int}, IntsAre vs ns → Vals (ns.map V.int) vs
  | _, _, .nil => .nil
  | _, _, .cons n t h => .cons ⟨t, rfl⟩ (vals_ints h)
def Only (H : Hp) : Prop := ∀ b, H b = none ∨ ∃ o xs, H b = some (.frz o (.lst xs))
theorem law_call {P : Program} {w : World} {K : PySem.W.Frag} {mg mb : Str → Option Value} {CX : CXT} {k : Nat} {fa a : Addr} {fd : FuncData} {x : Str} {sp : Sp} {s₁ : Shared} {vs : List Value} {ns : List Int}
    (KX : K.In s₁.heap) (hns : s₁.heap.Ns mainGlobals mg) (hb : s₁.heap.Ns builtinsNs mb) (hbb : ∀ x : Str, x ≠ "__name__" → mb x = bootBuiltins x) (hlim : s₁.heap.NoLimit) (hg : s₁.gens = #[])
    (ha : s₁.heap.get? a = some { cls := .type "list", data := .seq vs.toArray }) (hi : IntsAre vs ns) (hl : ns.length ≤ sizeLine) (hr : Room k callerA)
    (F : ∀ base : Heap, K.In base → base.Ns mainGlobals mg → FnOk P w K mg base CX k fa fd [x] sp) (hbind : ∀ (s : Shared) (u : Value), BindsTo s fd ⟨[u], []⟩ [(x, u)])
    (hsp : ∀ H : Hp, Only H → SqL K H a (ns.map V.int) → sp [.ref a] H (fun v _ => v = .bl true) fun _ _ _ => False)
    (hCX : ∀ H e s', CX [] H s₁ (fun _ _ _ => False) e s' → False) :
    codeAny (model P w) callerA (.call (.ref fa) ⟨[.ref a], []⟩) (fun r s' => r = .ok (.ret (.bool true)) ∧ OldK s₁.heap s'.heap ∧ s'.os = s₁.os ∧ AllBare s'.gens) s₁ := by
  have rv := vals_ints hi
  have lenV := hi.length
  have core : ∀ H : Hp, Only H → SqL K H a (ns.map V.int) → HOk P w H s₁.heap → (∀ b, H b ≠ none → b = a) → (H a ≠ none → K.lookup a = none) →
      codeAny (model P w) callerA (.call (.ref fa) ⟨[.ref a], []⟩) (fun r s' => r = .ok (.ret (.bool true)) ∧ OldK s₁.heap s'.heap ∧ s'.os = s₁.os ∧ AllBare s'.gens) s₁ := by
    intro H hO hS hok hA hK
    have base_of : ∀ {b : Addr} {o : Obj}, s₁.heap.get? b = some o → H b = none → (hidT s₁.heap H).get? b = some o := fun e n => hidT_get e n
    have noA : ∀ {b : Addr} {o : Obj} {es : Array DictEntry} {ep : Nat}, s₁.heap.get? b = some o → o.data = .dict es ep → H b = none := fun {b o es ep} e d => by
      cases q : H b with
      | none => rfl
      | some u =>
        have e' : b = a := hA b (by rw [q]; simp)
        subst e'
        rw [ha] at e; cases e
        have d' : Data.seq vs.toArray _ = Data.dict es ep := d
        cases d'
    have nsK : ∀ {b : Addr} {m : Str → Option Value}, s₁.heap.Ns b m → (hidT s₁.heap H).Ns b m := fun {b m} ⟨o, es, ep, e, d, r⟩ => ⟨o, es, ep, base_of e (noA e d), d, r⟩
    have hKb : K.In (hidT s₁.heap H) := fun b o e => base_of (KX b o e) (by
      cases q : H b with
      | none => rfl
      | some u =>
        have e' : b = a := hA b (by rw [q]; simp)
        subst e'
        rw [hK (by rw [q]; simp)] at e; cases e)
    have hM : Mod K mg (hidT s₁.heap H) := ⟨hKb, nsK hns, ⟨mb, nsK hb, hbb⟩, let ⟨mc, h1, h2⟩ := hlim; ⟨mc, nsK h1, h2⟩⟩
    have e0 : Env0 P w K mg (hidT s₁.heap H) callerA [] s₁ H := ⟨rfl, hM, fun b o e => of_hidT e, Nat.le_of_eq (hidT_size _ _), trivial, fun b hb => absurd (show b ∈ ([] : List Addr) from hb) (by simp), hok, .of_eq hg⟩
    refine codeAny_mono ((F _ hKb (nsK hns)).run callerA [] s₁ H ⟨[.ref a], []⟩ [.ref a] [.ref a] _ _ hr e0 (hbind s₁ (.ref a)) (.cons rfl .nil) (hsp H hO hS)) fun r s' h => ?_
    cases r with
    | error e => exact (hCX H e s' h).elim
    | ok fl =>
      cases fl with
      | next => exact False.elim h
      | brk => exact False.elim h
      | cont => exact False.elim h
      | ret u =>
        obtain ⟨v, H', os, bare, un, hok', r', q⟩ := h
        have q' : v = .bl true := q
        subst q'
        obtain rfl : u = Value.bool true := r'
        refine ⟨rfl, OldK.of_keep fun b o e => ?_, os, bare⟩
        cases q : H b with
        | none => exact un.keep b o e q (by intro z; exact absurd (show b ∈ ([] : List Addr) from z) (by simp)) (by simp)
        | some u =>
          rcases hO b with z | ⟨ob, xs, z⟩
          · rw [q] at z; cases z
          · have z2 := un.frzs b ob _ z
            obtain ⟨e1, _⟩ := hok b _ z
            obtain ⟨e2, _⟩ := hok' b _ z2
            rw [e] at e1; cases e1
            exact e2
  cases hk : K.lookup a with
  | some o =>
    have e := KX a o hk
    rw [ha] at e
    cases e
    refine core (fun _ => none) (fun _ => .inl rfl) (.inr ⟨_, vs.toArray, _, hk, rfl, rfl, rfl, by rw [List.size_toArray, lenV]; exact hl, by simpa using rv⟩) (fun b u z => by have z' : (none : Option HO) = some u := z; cases z') (fun b z => absurd rfl z) fun z => absurd rfl z
  | none =>
    refine core (fun b => if b = a then some (.frz { cls := .type "list", data := .seq vs.toArray } (.lst (ns.map V.int))) else none) (fun b => ?_) (.inl (.inr ⟨{ cls := .type "list", data := .seq vs.toArray }, if_pos rfl⟩)) (fun b u z => ?_) (fun b z => ?_) fun _ => hk
    · by_cases hb : b = a
      · exact .inr ⟨_, _, if_pos hb⟩
      · exact .inl (if_neg hb)
    · by_cases hb : b = a
      · have z' := (if_pos hb).symm.trans z
        cases z'
        subst hb
        exact ⟨ha, by rw [List.length_map]; exact hl, vs, _, rv, ha⟩
      · have z' := (if_neg hb).symm.trans z
        cases z'
    · by_cases hb : b = a
      · exact hb
      · exact absurd (if_neg hb) z
end L2
namespace L2
open PySem PySem.Spec PyProof.Rows
theorem walk_of {l : PySem.W.OpenLaw} {n k : Nat} {q : Program} {loose : List Str} {XP : (Str → Option Value) → Heap → Prop} {YP : World → Heap → Prop} {d : DefRec} {K : Params → PySem.W.Frag} {CX : World → CXT} {sp : World → Sp} {x : Str}
    (hn : l.most = some n) (hn2 : n ≤ sizeLine) (hdf : d.params.defaults = []) (hr : Room k callerA)
    (hY : ∀ (w : World) (h : Heap), YP w h → (K w.params).In h)
    (F : ∀ (w : World) (mg : Str → Option Value) (fa : Addr) (h : Heap), (K w.params).In h → h.Ns mainGlobals mg → mg d.name = some (.ref fa) →
      ∃ fd : FuncData, (∀ (s : Shared) (u : Value), BindsTo s fd ⟨[u], []⟩ [(x, u)]) ∧
        ∀ base : Heap, (K w.params).In base → base.Ns mainGlobals mg → FnOk l.prog w (K w.params) mg base (CX w) k fa fd [x] (sp w))
    (hsp : ∀ (w : World) (H : Hp) (a : Addr) (ns : List Int), ns.length ≤ n → Only H → SqL (K w.params) H a (ns.map V.int) → sp w [.ref a] H (fun v _ => v = .bl true) fun _ _ _ => False)
    (hCX : ∀ (w : World) (H : Hp) (s : Shared) (e : Value) (s' : Shared), CX w [] H s (fun _ _ _ => False) e s' → False) :
    PySem.W.WalkO q loose XP YP l.row.toRowW d [] (fun f vs => PySem.call f vs) := by
  refine Att.attach_call hn hdf fun w s₀ s₁ mg mb fa o pm cd doc a vs ns G Y ho hd hcd hmg hobj hints hlen hg => ?_
  have KX := hY w _ Y
  obtain ⟨fd, hb, hF⟩ := F w mg fa _ KX G.T.g hmg
  exact law_call KX G.T.g G.T.b G.T.builtins G.T.nolimit hg hobj hints (Nat.le_trans hlen hn2) hr hF hb (fun H hO hS => hsp w H a ns hlen hO hS) fun H e s' => hCX w H s₁ e s'
end L2
namespace L2
open PySem PySem.Spec PyProof.Rows
def defArgs (s : Stmt) : Arguments := match s with
  | .FunctionDef _ a _ _ _ _ _ _ _ _ => a
  | _ => { posonlyargs := [], args := [], vararg := none, kwonlyargs := [], kw_defaults := [], kwarg := none, defaults := [] }
def defBody (s : Stmt) : List Stmt := match s with
  | .FunctionDef _ _ b _ _ _ _ _ _ _ => b
  | _ => []
def defScope (s : Stmt) : Scope := match s with
  | .FunctionDef _ _ _ _ _ _ sc _ _ _ => sc
  | _ => { kind := .function, names := [], isGenerator := false, isCoroutine := false }
abbrev CX0 : CXT := fun _ _ _ _ _ _ => False
abbrev E0 : XK := fun _ _ _ => False
theorem pass0 {X : Cx} : Passes CX0 X E0 := fun _ _ _ _ _ _ _ h => h.elim
structure Fun (K : PySem.W.Frag) (x qual : Str) (st : Stmt) (f : Addr) (fd : FuncData) : Prop where
  ex : ∃ (oc : Value) (od : Option Addr) (kV doc pm : Value) (an : Option Addr) (cdv ct : Value) (osl : Array (Option Value)),
    fd = PySem.W.fnOf x qual (defArgs st) (defBody st) (defScope st) .none kV doc pm an cdv ct ∧ K.lookup f = some ⟨oc, od, .func fd, osl⟩ ∧ PySem.W.codeIn K cdv qual = true
  kp : PySem.W.keepIn K (.ref f) = true
section
variable {P : Program} {w : World} {K : PySem.W.Frag} {mg : Str → Option Value} {base : Heap}
theorem Fun.ok {x qual : Str} {st : Stmt} {f : Addr} {fd : FuncData} {N ps : List Str} {k : Nat} {sp : Sp} (F : Fun K x qual st f fd) (S : FnScope N ps (defScope st)) (len : ∀ vs H Q E, sp vs H Q E → vs.length = ps.length)
    (hbody : ∀ (cdv : Value) (A : Around) (outer : List Env) (s : Shared) (H : Hp) (vs : List V) (Q : VK) (E : XK), Room k (A.deeper (envOfC qual (defScope st) s.heap.objs.size f cdv)) → sp vs H Q E →
      ∃ t, PSs (cxOf CX0 P w K mg base N qual (defScope st) f cdv A outer s H E).nox (defBody st) t ∧ t { nx := fun _ H' => Q .non H', rt := Q } (start N vs) H) : FnOk P w K mg base CX0 (k + 1) f fd ps sp := by
  obtain ⟨oc, od, kV, doc, pm, an, cdv, ct, osl, rfl, lk, hcd⟩ := F.ex
  refine fn_of lk hcd S len fun A outer s H vs Q E hr hsp => ?_
  obtain ⟨t, h, q⟩ := hbody cdv A outer s H vs Q E hr hsp
  exact ⟨t, h.nox, q⟩
theorem Fun.binds {x qual : Str} {st : Stmt} {f : Addr} {fd : FuncData} {ps : List Str} (F : Fun K x qual st f fd)
    (h : ∀ (kV doc pm : Value) (an : Option Addr) (cdv ct : Value) (us : List Value), us.length = ps.length → bindArgs (PySem.W.fnOf x qual (defArgs st) (defBody st) (defScope st) .none kV doc pm an cdv ct) ⟨us, []⟩ = pure (ps.zip us)) : Binds K fd ps [] := by
  obtain ⟨oc, od, kV, doc, pm, an, cdv, ct, osl, rfl, lk, hcd⟩ := F.ex
  exact .all (h kV doc pm an cdv ct)
theorem fun_mk {x qual : Str} {st : Stmt} {f : Addr} {oc : Value} {od an : Option Addr} {osl : Array (Option Value)} {kV doc pm cdv ct : Value} (l : K.lookup f = some ⟨oc, od, .func (PySem.W.fnOf x qual (defArgs st) (defBody st) (defScope st) .none kV doc pm an cdv ct), osl⟩)
    (c : PySem.W.codeIn K cdv qual = true) (k : PySem.W.keepIn K (.ref f) = true) : Fun K x qual st f (PySem.W.fnOf x qual (defArgs st) (defBody st) (defScope st) .none kV doc pm an cdv ct) := ⟨⟨oc, od, kV, doc, pm, an, cdv, ct, osl, rfl, l, c⟩, k⟩
end
section
variable {X : Cx}
theorem pv (i : Nat) {x : Str} {pos : Pos} (hN : X.N[i]? = some x := by rfl) (hv : Vis X.env.scope x := by first | exact Or.inl rfl | exact Or.inr (Or.inl rfl) | exact Or.inr (Or.inr rfl)) (hd : (x == ("__debug__" : Str)) = false := by decide)
    (hcd : (x == ("__classdict__" : Str)) = false := by decide) : PE X (.Name x pos) (tVar i) := pe_var hN hv hd hcd
end
theorem iteF {A B : Prop} (h : B) : if false = true then A else B := by
  rw [if_neg Bool.false_ne_true]
  exact h
theorem iteT {A B : Prop} (h : A) : if true = true then A else B := by
  rw [if_pos rfl]
  exact h
def Same (H H' : Hp) : Prop := ∀ b o, H b = some o → H' b = some o
theorem Same.refl (H : Hp) : Same H H := fun _ _ h => h
theorem Same.trans {H H1 H2 : Hp} (a : Same H H1) (b : Same H1 H2) : Same H H2 := fun c o h => b c o (a c o h)
theorem Same.free {H H' : Hp} (e : Same H H') {l : Addr} (h : H' l = Option.none) : H l = Option.none := by
  cases q : H l with
  | none => rfl
  | some o =>
    rw [e l o q] at h
    cases h
theorem Same.seq {K : PySem.W.Frag} {H H' : Hp} {a : Addr} {xs : List V} (e : Same H H') (h : SqL K H a xs) : SqL K H' a xs := by
  rcases h with (h | ⟨o, h⟩) | h
  · exact .inl (.inl (e _ _ h))
  · exact .inl (.inr ⟨o, e _ _ h⟩)
  · exact .inr h
end L2
namespace My
def Bd (n : Nat) (x : Int) : Prop := x.natAbs < 2 ^ n
theorem Bd.mono {m n : Nat} {x : Int} (h : Bd m x) (hmn : m ≤ n) : Bd n x := Nat.lt_of_lt_of_le h (Nat.pow_le_pow_right (by decide) hmn)
theorem Bd.add {n : Nat} {x y : Int} (h : Bd n x) (h' : Bd n y) : Bd (n + 1) (x + y) := by
  unfold Bd at *; rw [Nat.pow_succ]; omega
theorem Bd.sub {n : Nat} {x y : Int} (h : Bd n x) (h' : Bd n y) : Bd (n + 1) (x - y) := by
  unfold Bd at *; rw [Nat.pow_succ]; omega
theorem Bd.neg {n : Nat} {x : Int} (h : Bd n x) : Bd n (-x) := by unfold Bd at *; omega
theorem Bd.mul {m n : Nat} {x y : Int} (h : Bd m x) (h' : Bd n y) : Bd (m + n) (x * y) := by
  unfold Bd at *; rw [Int.natAbs_mul, Nat.pow_add]; exact Nat.mul_lt_mul'' h h'
theorem Bd.of_le {n : Nat} {x y : Int} (h : Bd n y) (h' : x.natAbs ≤ y.natAbs) : Bd n x := Nat.lt_of_le_of_lt h' h
theorem Bd.rng {n : Nat} {x : Int} (h1 : -((2 ^ n : Nat) : Int) < x) (h2 : x < ((2 ^ n : Nat) : Int)) : Bd n x := by unfold Bd; omega
theorem Bd.fdiv {n : Nat} {x y : Int} (h : Bd n x) : Bd n (x.fdiv y) := h.of_le (Int.natAbs_fdiv_le_natAbs x y)
theorem Bd.ediv {n : Nat} {x y : Int} (h : Bd n x) : Bd n (x / y) := h.of_le (Int.natAbs_ediv_le_natAbs x y)
theorem Bd.mulH {n : Nat} {x y : Int} (h : Bd (n / 2) x) (h' : Bd (n / 2) y) : Bd n (x * y) := (h.mul h').mono (by omega)
theorem Bd.lit {n : Nat} {x : Int} (h : x.natAbs < 2 ^ 200) (hn : 200 ≤ n) : Bd n x := Bd.mono (m := 200) h hn
theorem Bd.emod {n : Nat} {x m : Int} (h0 : 0 < m) (h : Bd n m) : Bd n (x % m) := by
  have h1 := Int.emod_nonneg x (Int.ne_of_gt h0)
  have h2 := Int.emod_lt_of_pos x h0
  exact h.of_le (by omega)
def gd (t b : Int) : Int := if b < 0 then -((Int.gcd t b : Nat) : Int) else ((Int.gcd t b : Nat) : Int)
def frT (t b : Int) : Int := t.fdiv (gd t b)
def frB (t b : Int) : Int := b.fdiv (gd t b)
end My
namespace My
open PySem PySem.Spec PyProof.Rows L2
def CDivB (_ j : Int) : Prop := j ≠ 0 ∧ Bd 8000 j
def CModN (_ j : Int) : Prop := j ≠ 0
theorem log2_of_bd {j : Int} (h : Bd 8000 j) : j.natAbs.log2 < 9000 := by
  rcases Nat.eq_zero_or_pos j.natAbs with e | e
  · rw [e]; decide
  · have : j.natAbs.log2 < 8000 := (Nat.log2_lt (Nat.ne_of_gt e)).mpr h
    omega
theorem bits_of_bd {j : Int} (h : Bd 8000 j) : Builtin.Int.intBits j ≤ 2 ^ 20 := by
  unfold Builtin.Int.intBits
  split
  · exact Nat.zero_le _
  · have := log2_of_bd h
    omega
section
variable {X : Cx}
theorem op_fdivB : OpR X (binaryOp .FloorDiv) (rI CDivB fun i j => .int (i.fdiv j)) := opI fun _ _ _ _ _ _ _ hc q => floordiv_int hc.1 q (.inl (PyProof.noPylong_of_log2 (log2_of_bd hc.2)))
theorem op_modB : OpR X (binaryOp .Mod) (rI CModN fun i j => .int (i.fmod j)) := op_modN
theorem pe_powc {i j : Int} {a b : Nat} {p1 p2 pos : Pos} (c : Int) (h : i ^ j.toNat = c) (h0 : 0 ≤ j ∧ j ≤ 1000000 ∧ i.natAbs < 2 ^ 64) : PE X (.BinOp (.Constant (.int i) a p1) .Pow (.Constant (.int j) b p2) pos) (tC (.int c)) := by
  intro pins s σ H Q I q
  have q' : Q (.int c) H := q
  rw [← h] at q'
  exact pe_op op_pow pe_int pe_int pins s σ H Q I ⟨i, j, rfl, rfl, h0, q'⟩
def rLen (K : PySem.W.Frag) : List V → Hp → VK → Prop := fun xs H Q => ∃ p ys, xs = [.ref p] ∧ (SqL K H p ys ∨ SqT K H p ys) ∧ Q (.int ys.length) H
theorem call_lenR : CallR X (.builtin "len") (rLen X.K) := call_len_seq
def rMax : List V → Hp → VK → Prop := fun xs H Q => ∃ i j, xs = [.int i, .int j] ∧ Q (.int (if j > i then j else i)) H
theorem call_maxR (hc : X.calm = true) : CallR X (.builtin "max") rMax := call_max2 hc
def rMin : List V → Hp → VK → Prop := fun xs H Q => ∃ i j, xs = [.int i, .int j] ∧ Q (.int (if j < i then j else i)) H
theorem call_minR (hc : X.calm = true) : CallR X (.builtin "min") rMin := call_min2 hc
def rIsi (K : PySem.W.Frag) : List V → Hp → VK → Prop := fun xs H Q => ∃ x c t b, xs = [x, .ty c] ∧ TyOf K H x t ∧ PySem.W.kitOne K t (.type c) = some b ∧ Q (.bl b) H
theorem call_isi : CallR X (.builtin "isinstance") (rIsi X.K) := fun pins s σ H xs us Q I r h => by
  obtain ⟨x, c, t, b, rfl, ty, e, q⟩ := h
  obtain ⟨u, w', rfl, ru, rw'⟩ := vals2 r
  cases rw'
  exact isinst_ok I ru ty e fun tk => ⟨.bl b, H, I.tok _, rfl, q⟩
end
section
variable {X : Cx} {K : PySem.W.Frag}
theorem call_isiK (h : X.K = K) : CallR X (.builtin "isinstance") (rIsi K) := h ▸ call_isi
end
structure Got (P : Program) (w : World) (K : PySem.W.Frag) (mg : Str → Option Value) (base : Heap) (k : Nat) (x : Str) (ps : List Str) (sp : Sp) : Prop where
  ex : ∃ f fd, FnOk P w K mg base CX0 k f fd ps sp ∧ Binds K fd ps [] ∧ PySem.W.keepIn K (.ref f) = true ∧ mg x = some (.ref f)
theorem pe_got {X : Cx} {k j : Nat} {x : Str} {ps : List Str} {sp : Sp} {p pos : Pos} {e : Expr} {es : List Expr} {t : TA} (G : Got X.prog X.w X.K X.mg X.base k x ps sp) (hr : Room j X.A) (hk : k ≤ j) (hg : Gl X x)
    (ha : PA X (e :: es) t) (hdb : (x == ("__debug__" : Str)) = false := by decide) (he : starEach (e :: es) X.env = (false, eval e X.env) :: starEach es X.env := by rfl) (hpl : (backTo pos (starEach es X.env)).any (·.1) = false := by rfl) :
    PE X (.Call (.Name x p) (e :: es) [] pos) (tCall sp [] E0 t) := by
  intro pins s σ H Q I h
  obtain ⟨f, fd, F, b, kp, m⟩ := G.ex
  exact pe_call (F.mono hk) hr hg m kp b .nil pass0 ha hdb he hpl pins s σ H Q I h
section
variable {nx : L2.St → Hp → Prop} {rt : VK} {bk ct : L2.St → Hp → Prop} {σ : L2.St} {H : Hp} {K : PySem.W.Frag}
theorem r_seq {t u : TS} (h : t ⟨u ⟨nx, rt, bk, ct⟩, rt, bk, ct⟩ σ H) : tSeq t u ⟨nx, rt, bk, ct⟩ σ H := h
theorem r_next (h : nx σ H) : tNext ⟨nx, rt, bk, ct⟩ σ H := h
theorem r_ret {te : TE} (h : te σ H rt) : tRet te ⟨nx, rt, bk, ct⟩ σ H := h
theorem r_drop {te : TE} (h : te σ H fun _ H1 => nx σ H1) : tDrop te ⟨nx, rt, bk, ct⟩ σ H := h
theorem r_asg {te : TE} {g : TG} (h : te σ H fun x H1 => g x σ H1 nx) : tAsg te g ⟨nx, rt, bk, ct⟩ σ H := h
theorem r_gname {i : Nat} {v : V} {Q : L2.St → Hp → Prop} (h : Q (σ.set i (some v)) H) : gName i v σ H Q := h
theorem r_var {i : Nat} {v : V} {Q : VK} (h : σ[i]? = some (some v)) (q : Q v H) : tVar i σ H Q := ⟨v, h, q⟩
theorem r_c {v : V} {Q : VK} (q : Q v H) : tC v σ H Q := q
theorem r_op {r : R2} {ta tb : TE} {Q : VK} (h : ta σ H fun x H1 => tb σ H1 fun y H2 => r x y H2 Q) : tOp r ta tb σ H Q := h
theorem r_un {r : V → Hp → VK → Prop} {ta : TE} {Q : VK} (h : ta σ H fun x H1 => r x H1 Q) : tUn r ta σ H Q := h
theorem r_bl {c : Bool} {P : Bool → Prop} (h : P c) : ∃ k, V.bl c = V.bl k ∧ P k := ⟨c, rfl, h⟩
theorem r_not {t : TT} {Q : Bool → Hp → Prop} (h : t σ H fun c H1 => Q (!c) H1) : tNot t σ H Q := h
theorem r_or {t u : TT} {Q : Bool → Hp → Prop} (h : t σ H fun c H1 => if c = true then Q true H1 else u σ H1 Q) : tOr t u σ H Q := h
theorem r_and {t u : TT} {Q : Bool → Hp → Prop} (h : t σ H fun c H1 => if c = true then u σ H1 Q else Q false H1) : tAnd t u σ H Q := h
theorem r_orV {t u : TE} {Q : VK} (h : t σ H fun x H1 => ∃ c, x = .bl c ∧ if c = true then Q (.bl true) H1 else u σ H1 Q) : tOrV t u σ H Q := h
theorem r_andV {t u : TE} {Q : VK} (h : t σ H fun x H1 => ∃ c, x = .bl c ∧ if c = true then u σ H1 Q else Q (.bl false) H1) : tAndV t u σ H Q := h
theorem r_notV {t : TE} {Q : VK} (h : t σ H fun x H1 => ∃ c, x = .bl c ∧ Q (.bl (!c)) H1) : tNotV t σ H Q := h
theorem r_ifE {c : TT} {ta tb : TE} {Q : VK} (h : c σ H fun b H1 => if b = true then ta σ H1 Q else tb σ H1 Q) : tIf c ta tb σ H Q := h
theorem r_nil {Q : List V → Hp → Prop} (h : Q [] H) : tNil σ H Q := h
theorem r_cons {ta : TE} {tr : TA} {Q : List V → Hp → Prop} (h : ta σ H fun x H1 => tr σ H1 fun xs H2 => Q (x :: xs) H2) : tCons ta tr σ H Q := h
theorem r_tup {t : TA} {Q : VK} (h : t σ H fun xs H1 => xs.length ≤ sizeLine ∧ ∀ p, H1 p = none → Q (.ref p) (upd H1 p (.tup xs))) : tTup t σ H Q := h
theorem r_lst {t : TA} {Q : VK} (h : t σ H fun xs H1 => xs.length ≤ sizeLine ∧ ∀ p, H1 p = none → Q (.ref p) (upd H1 p (.lst xs))) : tLst t σ H Q := h
theorem r_call {sp : Sp} {dvs : List V} {E : XK} {t : TA} {Q : VK} (h : t σ H fun vs H1 => sp (vs ++ dvs) H1 Q E) : tCall sp dvs E t σ H Q := h
theorem r_d {p : Prop} [Decidable p] {A B : Prop} (h1 : p → A) (h2 : ¬ p → B) : if decide p = true then A else B := by
  by_cases h : p
  · rw [if_pos (decide_eq_true h)]; exact h1 h
  · rw [if_neg (by rw [decide_eq_false h]; exact Bool.false_ne_true)]; exact h2 h
theorem r_b {c : Bool} {A B : Prop} (h1 : c = true → A) (h2 : c = false → B) : if c = true then A else B := by
  cases c
  · exact iteF (h2 rfl)
  · exact iteT (h1 rfl)
theorem r_ntrue {A B : Prop} (h : B) : if (!true) = true then A else B := iteF h
theorem r_nfalse {A B : Prop} (h : A) : if (!false) = true then A else B := iteT h
theorem r_turn {tb : TS} {W : Nat → L2.St → Hp → Prop} {m : Nat} (h : tb ⟨fun σ' H' => ∃ m', m' < m ∧ W m' σ' H', rt, nx, fun σ' H' => ∃ m', m' < m ∧ W m' σ' H'⟩ σ H) :
    ∃ N : L2.St → Hp → Prop, (∀ σ' H', N σ' H' → ∃ m', m' < m ∧ W m' σ' H') ∧ tb ⟨N, rt, nx, N⟩ σ H := ⟨_, fun _ _ h => h, h⟩
theorem r_for {wi : TI} {g : TG} {tb : TS} (h : wi σ H fun J H1 => ∃ W : Nat → Nat → L2.St → Hp → Prop, (∃ m, W 0 m σ H1) ∧ ∀ i m σ H, W i m σ H →
  (J.stop i H ∧ nx σ H) ∨ (J.go i H ∧ ∃ N : L2.St → Hp → Prop, (∀ σ' H', N σ' H' → ∃ m', m' < m ∧ W (i + 1) m' σ' H') ∧ ∀ x H', J.yld i H x H' → g x σ H' fun σ2 H2 => tb ⟨N, rt, nx, N⟩ σ2 H2)) : tFor wi g tb ⟨nx, rt, bk, ct⟩ σ H := h
end
section
variable {σ : L2.St} {H : Hp} {K : PySem.W.Frag}
theorem r_sl {r : V → Option Int → Option Int → Hp → VK → Prop} {te : TE} {tl th : TO} {Q : VK} (h : te σ H fun x H1 => tl σ H1 fun l H2 => th σ H2 fun u H3 => r x l u H3 Q) : tSl r te tl th σ H Q := h
theorem r_chain {r r' : R2} {ta tb tc : TE} {Q : VK} (h : ta σ H fun x H1 => tb σ H1 fun y H2 => r x y H2 fun z H3 => ∃ k, z = .bl k ∧ (if k = true then tc σ H3 fun w' H4 => r' y w' H4 Q else Q (.bl false) H3)) : tChain r r' ta tb tc σ H Q := h
end
theorem keepN {H : Hp} {p b : Addr} {o u : HO} (hp : H p = none) (h : H b = some u) : upd H p o b = some u := by
  rw [upd_ne (ne_of_none h hp)]; exact h
theorem Same.new {H0 H : Hp} {p : Addr} {o : HO} (hp : H p = none) (s : Same H0 H) : Same H0 (upd H p o) := fun b u h => keepN hp (s b u h)
theorem Same.put {H0 H : Hp} {p : Addr} {o : HO} (hp : H0 p = none) (s : Same H0 H) : Same H0 (upd H p o) := fun b u h => by
  rw [upd_ne (ne_of_none h hp)]; exact s b u h
theorem Same.app {H H' : Hp} {b : Addr} {o : HO} (s : Same H H') (h : H b = some o) : H' b = some o := s b o h
end My
namespace My
open PySem PySem.Spec PyProof.Rows L2
theorem compLoop_go {prog : Program} {w : World} {A : Around} {R : Result → Shared → Prop} {s : Shared} {elt target iter : Expr} {ifs : List Expr} {scope : Scope} {pos : Pos} {it acc : Value} {env : Env} (I : Nat → Shared → Prop)
    (turn : ∀ n s, I n s → wpAny (model prog w) A (pyNext it) (fun r s₁ => match r with
      | none => R (.ok .next) s₁
      | some v => wpAny (model prog w) A (letOwnedTupleGo target it v) (fun _ s₁' => wpAny (model prog w) A (assign target env v) (fun _ s₂ =>
          wpAny (model prog w) A (forIn ifs true fun c r => if r = true then do let ok ← isTrue c env (eval c env); pure (ForInStep.yield ok) else pure (ForInStep.yield r)) (fun ok s₃ =>
            if ok = true then wpAny (model prog w) A (eval elt env) (fun x s₄ =>
              wpAny (model prog w) A (call (.builtin "list.append") [acc, x]) (fun _ s₅ => ∃ m, m < n ∧ I m s₅) (fun _ _ => False) s₄) (fun _ _ => False) s₃
            else ∃ m, m < n ∧ I m s₃) (fun _ _ => False) s₂) (fun _ _ => False) s₁') (fun _ _ => False) s₁) (fun _ _ => False) s)
    (n : Nat) (h : I n s) : codeAny (model prog w) A (.compLoop (.ListComp elt [⟨target, iter, ifs, 0⟩] scope pos) 0 it acc env) R s := by
  refine codeAny_loop rfl I (fun n s hI => ?_) n h
  show wpAny _ A ((compTurn (.ListComp elt [⟨target, iter, ifs, 0⟩] scope pos) 0 it acc env).onRaise (fun x => do noteFrame x env; theTreesLotGoes x)) _ _ s
  refine wpAny_noted ?_
  rw [compTurn_list]
  refine wpAny_bind (wpAny_standAt (wpAny_bind (wpAny_mono (turn n s hI) (fun r s₁ h₁ => ?_) fun _ _ h' => h'.elim)))
  cases r with
  | none => exact wpAny_pure h₁
  | some v =>
    refine wpAny_bind (wpAny_mono h₁ (fun _ s₁' h₁' => ?_) fun _ _ h' => h'.elim)
    refine wpAny_bind (wpAny_mono h₁' (fun _ s₂ h₂ => wpAny_bind (wpAny_mono h₂ (fun ok s₃ h₃ => ?_) fun _ _ h' => h'.elim)) fun _ _ h' => h'.elim)
    cases ok with
    | false => exact wpAny_pure ⟨rfl, h₃⟩
    | true =>
      exact wpAny_bind (wpAny_bind (wpAny_mono h₃ (fun x s₄ h₄ => wpAny_bind (wpAny_mono h₄ (fun _ s₅ h₅ => wpAny_pure (wpAny_pure ⟨rfl, h₅⟩)) fun _ _ h' => h'.elim)) fun _ _ h' => h'.elim))
def inner (X : Cx) (sc : Scope) (N : List Str) (cl : List (Str × Addr)) (C : Addr) (s₀ : Shared) (H₀ : Hp) (ex : List Addr) : Cx :=
  { X with N := N, s₀ := s₀, H₀ := H₀, env := compEnvC sc cl C X.env, outer := X.stack, ex := ex, fn := fun _ => false, pn := [] }
def PFs (X : Cx) (ifs : List Expr) (t : TT) : Prop :=
  ∀ (pins : List (Addr × Obj)) (s : Shared) (σ : L2.St) (H : Hp) (Q : Bool → Hp → Prop), Inv X pins σ H s → t σ H Q →
    wpAny (model X.prog X.w) X.A (forIn ifs true fun c r => if r = true then do let ok ← isTrue c X.env (eval c X.env); pure (ForInStep.yield ok) else pure (ForInStep.yield r)) (TP X pins σ Q) X.xe s
def tTrue : TT := fun _ H Q => Q true H
theorem pf_nil {X : Cx} : PFs X [] tTrue := fun _ _ _ H _ I h => wpAny_tests_nil ⟨H, I, h⟩
theorem pf_one {X : Cx} {c : Expr} {t : TT} (h : PT X c t) : PFs X [c] t := fun pins s σ H Q I q => wpAny_tests_one (h pins s σ H Q I q)
def FvOk (X : Cx) (sc : Scope) : List Str → List Nat → Prop
  | [], [] => True
  | x :: xs, j :: js => X.N[j]? = some x ∧ sc.names.lookup x = some .free ∧ X.env.kindOf x = some .cell ∧ FvOk X sc xs js
  | _, _ => False
def FrAll (P : Str → Prop) : List (Str × NameKind) → Prop
  | [] => True
  | (n, .free) :: r => P n ∧ FrAll P r
  | _ :: r => FrAll P r
theorem FrAll.of {P : Str → Prop} : ∀ {l : List (Str × NameKind)}, FrAll P l → ∀ y ∈ l, y.2 = .free → P y.1
  | (n, k) :: r, h, y, hy, e => by
    rcases List.mem_cons.mp hy with rfl | hy
    · dsimp only at e; subst e; exact h.1
    · refine FrAll.of (l := r) ?_ y hy e
      cases k <;> first | exact h.2 | exact h
def cst (own : List Str) (fv : List Nat) (σ : L2.St) : L2.St := List.replicate own.length none ++ fv.map fun j => (σ[j]?).join
def Agr : L2.St → L2.St → Prop
  | [], [] => True
  | none :: r, _ :: s => Agr r s
  | some v :: r, some w :: s => v = w ∧ Agr r s
  | _, _ => False
theorem Agr.len : ∀ {a b : L2.St}, Agr a b → b.length = a.length
  | [], [], _ => rfl
  | none :: r, _ :: s, h => congrArg (· + 1) (Agr.len (a := r) (b := s) h)
  | some v :: r, some w :: s, h => congrArg (· + 1) (Agr.len (a := r) (b := s) h.2)
theorem Agr.get : ∀ {a b : L2.St}, Agr a b → ∀ (i : Nat) (v : V), a[i]? = some (some v) → b[i]? = some (some v)
  | none :: r, _ :: s, h, i, v, e => by
    cases i with
    | zero => simp at e
    | succ i => simpa using Agr.get (a := r) (b := s) h i v (by simpa using e)
  | some v' :: r, some w :: s, h, i, v, e => by
    cases i with
    | zero => simp at e; subst e; simp [h.1]
    | succ i => simpa using Agr.get (a := r) (b := s) h.2 i v (by simpa using e)
def tLC (own : List Str) (fv : List Nat) (wi : TI) (g : TG) (tc : TT) (te : TE) : TE := fun σ H Q => wi σ H fun J H1 => ∀ p, H1 p = none →
  ∃ W : Nat → Nat → Hp → Prop, (∃ m, W 0 m (upd H1 p (.lst []))) ∧ ∀ i m H2, W i m H2 →
    (J.stop i H2 ∧ Q (.ref p) H2) ∨ (J.go i H2 ∧ ∀ x H', J.yld i H2 x H' → g x (cst own fv σ) H' fun σ2 H3 => Agr (cst own fv σ) σ2 ∧ tc σ2 H3 fun b H4 =>
      if b = true then te σ2 H4 fun y H5 => ∃ ys, H5 p = some (.lst ys) ∧ ys.length < sizeLine ∧ ∃ m', m' < m ∧ W (i + 1) m' (upd H5 p (.lst (ys ++ [y])))
      else ∃ m', m' < m ∧ W (i + 1) m' H4)
theorem cellOf_some {env : Env} {n : Str} {c : Addr} (h : env.cells.lookup n = some c) : cellOf env n = pure c := by
  unfold cellOf; rw [h]
theorem closure_go {env : Env} : ∀ (names : List (Str × NameKind)) (cs : List (Str × Addr)), (∀ y ∈ names, y.2 = .free → ∃ c, env.cells.lookup y.1 = some c) → (∀ x c, cs.lookup x = some c → env.cells.lookup x = some c) →
    ∃ cl, (forIn names cs fun (x : Str × NameKind) (r : List (Str × Addr)) => if (x.2 == NameKind.free) = true then do let a ← cellOf env x.1; pure (ForInStep.yield ((x.1, a) :: r)) else pure (ForInStep.yield r)) = (pure cl : Sem (List (Str × Addr))) ∧
      (∀ x c, cl.lookup x = some c → env.cells.lookup x = some c) ∧ (∀ x, (cs.lookup x).isSome = true → (cl.lookup x).isSome = true) ∧ ∀ y ∈ names, y.2 = .free → (cl.lookup y.1).isSome = true
  | [], cs, _, h2 => ⟨cs, rfl, h2, fun _ h => h, fun _ h => nomatch h⟩
  | (n, k) :: r, cs, h1, h2 => by
    rw [List.forIn_cons]
    by_cases hk : k = .free
    · subst hk
      obtain ⟨c, hc⟩ := h1 (n, .free) List.mem_cons_self rfl
      obtain ⟨cl, e, a1, a2, a3⟩ := closure_go (env := env) r ((n, c) :: cs) (fun y hy => h1 y (List.mem_cons_of_mem _ hy)) (fun x d hx => by
        rw [List.lookup_cons] at hx
        by_cases hxn : x = n
        · subst hxn; simp at hx; subst hx; exact hc
        · have : (x == n) = false := by simpa using hxn
          rw [this] at hx; exact h2 x d hx)
      refine ⟨cl, ?_, a1, fun x hx => a2 x ?_, fun y hy e' => ?_⟩
      · simp only [beq_self_eq_true, if_true, cellOf_some hc]
        simpa using e
      · rw [List.lookup_cons]; split <;> simp_all
      · rcases List.mem_cons.mp hy with rfl | hy
        · exact a2 _ (by simp [List.lookup_cons])
        · exact a3 y hy e'
    · have hb : (k == NameKind.free) = false := by simpa using hk
      obtain ⟨cl, e, a1, a2, a3⟩ := closure_go (env := env) r cs (fun y hy => h1 y (List.mem_cons_of_mem _ hy)) h2
      refine ⟨cl, ?_, a1, a2, fun y hy e' => ?_⟩
      · simp only [hb, Bool.false_eq_true, if_false]
        simpa using e
      · rcases List.mem_cons.mp hy with rfl | hy
        · exact absurd e' hk
        · exact a3 y hy e'
theorem closure_ok {env : Env} {sc : Scope} (h : ∀ y ∈ sc.names, y.2 = .free → ∃ c, env.cells.lookup y.1 = some c) :
    ∃ cl, closureFor sc env = pure cl ∧ (∀ x c, cl.lookup x = some c → env.cells.lookup x = some c) ∧ ∀ y ∈ sc.names, y.2 = .free → (cl.lookup y.1).isSome = true := by
  obtain ⟨cl, e, a1, _, a3⟩ := closure_go (env := env) sc.names [] h (fun x c hx => by simp at hx)
  refine ⟨cl, ?_, a1, a3⟩
  unfold closureFor
  have e2 := e
  first
    | exact e2
    | (show (do let cs ← forIn sc.names [] _; pure cs) = _; rw [show (forIn sc.names [] _ : Sem (List (Str × Addr))) = pure cl from e2]; rfl)
    | simpa using e2
theorem lookup_relabel {env : Env} {x : Str} : ∀ {names : List (Str × NameKind)}, (names.map fun (n, k) => if (k == NameKind.free && env.scope.kind == .function && env.kindOf n == some .cell) then (n, NameKind.cell) else (n, k)).lookup x =
    (names.lookup x).map fun k => if (k == NameKind.free && env.scope.kind == .function && env.kindOf x == some .cell) then NameKind.cell else k
  | [] => rfl
  | (n, k) :: r => by
    have ih := lookup_relabel (env := env) (x := x) (names := r)
    rw [List.map_cons]
    by_cases hx : x = n
    · subst hx
      dsimp only
      split <;> simp_all [List.lookup_cons]
    · have hb : (x == n) = false := by simpa using hx
      dsimp only
      split <;> (rw [List.lookup_cons, List.lookup_cons, hb]; exact ih)
theorem mem_of_lookup {β : Type} {x : Str} {k : β} : ∀ {l : List (Str × β)}, l.lookup x = some k → (x, k) ∈ l
  | (n, b) :: r, h => by
    rw [List.lookup_cons] at h
    by_cases hx : x = n
    · subst hx; simp at h; subst h; exact List.mem_cons_self
    · have hb : (x == n) = false := by simpa using hx
      rw [hb] at h
      exact List.mem_cons_of_mem _ (mem_of_lookup h)
section
variable {X : Cx} {sc : Scope} {tg iter elt : Expr} {ifs : List Expr} {own free : List Str} {fv : List Nat} {wi : TI} {g : TG} {tc : TT} {te : TE} {pos : Pos}
theorem fv_at {σ : L2.St} : ∀ {free : List Str} {fv : List Nat}, FvOk X sc free fv → ∀ (k : Nat) (x : Str) (v : V), free[k]? = some x → (fv.map fun j => (σ[j]?).join)[k]? = some (some v) →
    ∃ j : Nat, X.N[j]? = some x ∧ σ[j]? = some (some v) ∧ sc.names.lookup x = some .free ∧ X.env.kindOf x = some .cell
  | x' :: xs, j :: js, h, k, x, v, e1, e2 => by
    cases k with
    | zero =>
      simp at e1 e2
      subst e1
      refine ⟨j, h.1, ?_, h.2.1, h.2.2.1⟩
      cases q : σ[j]? with
      | none => rw [q] at e2; simp at e2
      | some o => rw [q] at e2; simp at e2; rw [e2]
    | succ k => exact fv_at (free := xs) (fv := js) h.2.2.2 k x v (by simpa using e1) (by simpa using e2)
  | [], [], _, k, x, v, e1, _ => by simp at e1
theorem fv_len : ∀ {free : List Str} {fv : List Nat}, FvOk X sc free fv → fv.length = free.length
  | [], [], _ => rfl
  | _ :: _, _ :: _, h => congrArg (· + 1) (fv_len h.2.2.2)
theorem comp_block {RR : Value → Addr → Result → Shared → Prop} (hcalm : X.calm = true) (hxe : X.xe = fun _ _ => False) (hkind : sc.kind = .function) (hcell : ∀ y ∈ sc.names, y.2 ≠ .cell)
    (hfr : FrAll (fun x => X.env.kindOf x = some .cell) sc.names) (hfv : FvOk X sc free fv)
    (hg : ∀ cl C s₀ H₀ ex, PG (inner X sc (own ++ free) cl C s₀ H₀ ex) tg g) (ht : ∀ cl C s₀ H₀ ex, PFs (inner X sc (own ++ free) cl C s₀ H₀ ex) ifs tc) (he : ∀ cl C s₀ H₀ ex, PE (inner X sc (own ++ free) cl C s₀ H₀ ex) elt te)
    {pins : List (Addr × Obj)} {s2 : Shared} {σ : L2.St} {H2 : Hp} {it : Addr} {fp : List Addr} {tn : Nat → Heap → Prop} {J : It} {Q : VK} (I2 : Inv X pins σ H2 s2) (T : Turn X.prog X.w X.K tg J fp it tn) (st2 : tn 0 s2.heap) (f2 : ∀ b ∈ fp, FpOk X pins H2 b)
    (h : ∀ p, H2 p = none → ∃ W : Nat → Nat → Hp → Prop, (∃ m, W 0 m (upd H2 p (.lst []))) ∧ ∀ i m H2, W i m H2 →
      (J.stop i H2 ∧ Q (.ref p) H2) ∨ (J.go i H2 ∧ ∀ x H', J.yld i H2 x H' → g x (cst own fv σ) H' fun σ2 H3 => Agr (cst own fv σ) σ2 ∧ tc σ2 H3 fun b H4 =>
        if b = true then te σ2 H4 fun y H5 => ∃ ys, H5 p = some (.lst ys) ∧ ys.length < sizeLine ∧ ∃ m', m' < m ∧ W (i + 1) m' (upd H5 p (.lst (ys ++ [y])))
        else ∃ m', m' < m ∧ W (i + 1) m' H4))
    {cl : List (Str × Addr)} (hcl1 : ∀ x c, cl.lookup x = some c → X.env.cells.lookup x = some c) (hcl2 : ∀ y ∈ sc.names, y.2 = .free → (cl.lookup y.1).isSome = true)
    (hRR : ∀ (p C : Addr) (m : Str → Option Value) (H' : Hp) (s' : Shared), s'.heap.Ns C m → Inv X pins σ H' s' → H' C = none → C ≠ X.env.locals → X.s₀.heap.objs.size ≤ C → (∀ x c, X.env.cells.lookup x = some c → c ≠ C) → (∀ q ∈ X.pn ++ pins, q.1 ≠ C) → Q (.ref p) H' →
      RR (.ref p) C (.ok .next) s') :
    wpAny (model X.prog X.w) X.A (newList []) (fun acc s3 => wpAny (model X.prog X.w) X.A (newFunctionEnv sc X.env.globals cl [] X.env.qual none .none (some X.env)) (fun cenv s4 =>
      codeAny (model X.prog X.w) X.A (.compStart (.ListComp elt [⟨tg, iter, ifs, 0⟩] sc pos) 0 (.ref it) acc { cenv with scope := relabel sc X.env }) (RR acc cenv.locals) s4) X.xe s3) X.xe s2 := by
  rw [hxe]
  refine wpAny_newObj_type ?_
  have I3 : Inv X pins σ (upd H2 s2.heap.objs.size (.lst [])) { s2 with heap := s2.heap.push { cls := .type "list", data := .seq ([] : List Value).toArray } } := I2.lnew (t' := s2.toks) .nil (Nat.zero_le _)
  generalize hs3 : ({ s2 with heap := s2.heap.push { cls := .type "list", data := .seq ([] : List Value).toArray } } : Shared) = s3 at I3 ⊢
  have hp : H2 s2.heap.objs.size = none := I2.fresh
  obtain ⟨W, ⟨m0, w0⟩, turn⟩ := h s2.heap.objs.size hp
  generalize hH3 : upd H2 s2.heap.objs.size (.lst []) = H3 at I3 w0 ⊢
  have hk3 : ∀ b o, s2.heap.get? b = some o → s3.heap.get? b = some o := fun b o e => by rw [← hs3]; exact Heap.get?_push_of_some _ e
  have hz3 : s3.heap.objs.size = s2.heap.objs.size + 1 := by rw [← hs3]; exact Heap.size_push ..
  have st3 : tn 0 s3.heap := T.keep _ _ _ st2 fun b _ o e => hk3 b o e
  have hfpo : ∀ b ∈ fp, ∃ o, s3.heap.get? b = some o := fun b hb => let ⟨o, e, _⟩ := T.obj _ _ st3 b hb; ⟨o, e⟩
  have hfpn : ∀ b ∈ fp, b ≠ s2.heap.objs.size := fun b hb e => by
    obtain ⟨o, e', _⟩ := T.obj _ _ st2 b hb
    have := Heap.lt_size e'
    rw [e] at this; exact Nat.lt_irrefl _ this
  have f3 : ∀ b ∈ fp, H3 b = none := fun b hb => by rw [← hH3, upd_ne (hfpn b hb)]; exact (f2 b hb).1
  refine wpAny_newFunctionEnv hcell (by intro y hy; simp at hy) (fun h1 hns1 hsb1 => ?_) hkind
  have hC0 : H3 s3.heap.objs.size = none := I3.fresh
  have old : ∀ b o, s3.heap.get? b = some o → h1.get? b = some o := fun b o e => hsb1.extBut b o (Nat.ne_of_lt (Heap.lt_size e)) (Heap.get?_push_of_some _ e)
  have hlow : X.s₀.heap.objs.size ≤ s3.heap.objs.size := I3.sz
  have hloc : X.env.locals < s3.heap.objs.size := I3.lt
  have hcells : ∀ x c, X.env.cells.lookup x = some c → c < s3.heap.objs.size := fun x c e => by
    obtain ⟨v, o, ho, _⟩ := I3.cell x c e
    exact Heap.lt_size ho
  have YOk : (inner X sc (own ++ free) cl s3.heap.objs.size s3 H3 fp).Ok := {
    mod := I3.ok.mod
    kind := by show (relabel sc X.env).kind = .function; exact hkind
    glob := I3.ok.glob
    blt := I3.ok.blt
    above := Nat.le_refl _
    inj := fun x y c hx hy => I3.ok.inj x y c (hcl1 x c hx) (hcl1 y c hy)
    has := fun x hx => by
      have e : (sc.names.lookup x).map (fun k => if (k == NameKind.free && X.env.scope.kind == .function && X.env.kindOf x == some .cell) then NameKind.cell else k) = some .cell ∨
          (sc.names.lookup x).map (fun k => if (k == NameKind.free && X.env.scope.kind == .function && X.env.kindOf x == some .cell) then NameKind.cell else k) = some .free := by
        have := @lookup_relabel X.env x sc.names
        rcases hx with hx | hx
        · exact .inl (this.symm.trans hx)
        · exact .inr (this.symm.trans hx)
      cases q : sc.names.lookup x with
      | none => rw [q] at e; simp at e
      | some k =>
        have hm := mem_of_lookup q
        by_cases hkf : k = .free
        · subst hkf
          exact Option.isSome_iff_exists.mp (hcl2 (x, .free) hm rfl)
        · have hkc : k ≠ .cell := hcell (x, k) hm
          rw [q] at e
          have hb : (k == NameKind.free) = false := by simpa using hkf
          simp only [Option.map_some, hb, Bool.false_and, Bool.false_eq_true, if_false, Option.some.injEq] at e
          rcases e with e | e
          · exact absurd e hkc
          · exact absurd e hkf
    cab := fun x c hx => by cases hx
    hd := I3.ok.hd
    frames := I3.ok.frames
    stk := .inl rfl
    exf := fun b hb => ⟨fun e => by obtain ⟨o, e'⟩ := hfpo b hb; have := Heap.lt_size e'; rw [e] at this; exact Nat.lt_irrefl _ this, fun x c hx => (f2 b hb).2.2.2.2.1 x c (hcl1 x c hx)⟩
    bs := I3.bs
    bsz := Nat.le_trans I3.ok.bsz I3.sz
    noex := fun b o hb hm => by
      rcases (f2 b hm).2.2.2.1 with hx | hx
      · exact I3.ok.noex b o hb hx
      · exact Nat.lt_irrefl _ (Nat.lt_of_lt_of_le (Nat.lt_of_lt_of_le (Heap.lt_size hb) I3.ok.bsz) hx)
    exfs := fun b hb hm => by
      rcases List.mem_cons.mp (I3.stkSub b hm) with e | e
      · exact (f2 b hb).2.1 e
      · exact (f2 b hb).2.2.1 e
    funs := I3.stack
    frf := I3.stkFree }
  have hlen0 : (cst own fv σ).length = (own ++ free).length := by
    unfold cst; rw [List.length_append, List.length_append, List.length_replicate, List.length_map, fv_len hfv]
  have I4 : ∀ tk, Inv (inner X sc (own ++ free) cl s3.heap.objs.size s3 H3 fp) [] (cst own fv σ) H3 { s3 with heap := h1, toks := tk } := fun tk => {
    ok := YOk
    os := rfl
    bare := I3.bare
    base := Un.kept old
    loc := by
      refine ⟨_, hns1, fun i x v hN hσ _ => ?_⟩
      have hN' : (own ++ free)[i]? = some x := hN
      have hσ' : (List.replicate own.length none ++ fv.map fun j => (σ[j]?).join)[i]? = some (some v) := hσ
      by_cases hi : i < own.length
      · rw [List.getElem?_append_left (by rw [List.length_replicate]; exact hi)] at hσ'
        rw [List.getElem?_replicate] at hσ'
        split at hσ' <;> simp at hσ'
      · rw [List.getElem?_append_right (by omega)] at hN'
        rw [List.getElem?_append_right (by rw [List.length_replicate]; omega), List.length_replicate] at hσ'
        obtain ⟨j, hj, hσj, hsx, hkx⟩ := fv_at hfv _ x v hN' hσ'
        obtain ⟨m, _, hall⟩ := I3.loc
        obtain ⟨u, ru, lk⟩ := hall j x v hj hσj (.inr (.inl hkx))
        refine ⟨u, ru, .inr ⟨?_, ?_⟩⟩
        · have := @lookup_relabel X.env x sc.names
          rw [hsx] at this
          have e2 : Env.kindOf (inner X sc (own ++ free) cl s3.heap.objs.size s3 H3 fp).env x = (sc.names.map fun (n, k) => if (k == NameKind.free && X.env.scope.kind == .function && X.env.kindOf n == some .cell) then (n, NameKind.cell) else (n, k)).lookup x := rfl
          rw [e2, this]
          simp only [Option.map_some]
          split
          · exact .inl rfl
          · exact .inr rfl
        · rcases lk with ⟨hl, _⟩ | ⟨_, c, hc, hcell'⟩
          · rw [hkx] at hl; cases hl
          · obtain ⟨c', hc'⟩ := Option.isSome_iff_exists.mp (hcl2 (x, .free) (mem_of_lookup hsx) rfl)
            have := hcl1 x c' hc'
            rw [hc] at this
            cases this
            refine ⟨c, hc', ?_⟩
            obtain ⟨o, ho, hd⟩ := hcell'
            exact ⟨o, old _ _ ho, hd⟩
    cell := fun x c hx => by
      obtain ⟨v, o, ho, hd⟩ := I3.cell x c (hcl1 x c hx)
      exact ⟨v, o, old _ _ ho, hd⟩
    free := hC0
    freeC := fun x c hx => I3.freeC x c (hcl1 x c hx)
    pin := fun q hq => nomatch hq
    hok := I3.hok.kept old
    len := hlen0 }
  have back : ∀ (m : Str → Option Value) (H' : Hp) (s' : Shared), s'.heap.Ns s3.heap.objs.size m → Inv (inner X sc (own ++ free) cl s3.heap.objs.size s3 H3 fp) [] (cst own fv σ) H' s' → Q (.ref s2.heap.objs.size) H' → RR (.ref s2.heap.objs.size) s3.heap.objs.size (.ok .next) s' := fun m H' s' hm IY q => by
    have u1 : Un (frs X.stack) fp H3 H' s3.heap s'.heap := IY.base
    have IX : Inv X pins σ H' s' := I3.call' (ch := fp) (IY.os) u1 IY.hok IY.bare fun b hb => ⟨(f2 b hb).2.2.2.1, (f2 b hb).2.1, (f2 b hb).2.2.2.2.1, (f2 b hb).2.2.2.2.2⟩
    refine hRR _ _ m H' s' hm IX IY.free (Nat.ne_of_gt hloc) hlow (fun x c hx => Nat.ne_of_lt (hcells x c hx)) (fun q' hq => ?_) q
    have := (I3.pin q' hq).1
    exact Nat.ne_of_lt (Heap.lt_size this)
  have stat : ∀ {H' : Hp}, (∀ b ∈ fp, H' b = none) → ∀ b ∈ fp, FpOk (inner X sc (own ++ free) cl s3.heap.objs.size s3 H3 fp) [] H' b := fun hn b hb =>
    ⟨hn b hb, (YOk.exf b hb).1, YOk.exfs b hb, .inl hb, (YOk.exf b hb).2, fun q hq => nomatch hq⟩
  have hYxe : (inner X sc (own ++ free) cl s3.heap.objs.size s3 H3 fp).xe = fun _ _ => False := hxe
  have loop : ∀ tk, codeAny (model X.prog X.w) X.A (.compLoop (.ListComp elt [⟨tg, iter, ifs, 0⟩] sc pos) 0 (.ref it) (.ref s2.heap.objs.size) (compEnvC sc cl s3.heap.objs.size X.env)) (RR (.ref s2.heap.objs.size) s3.heap.objs.size) { s3 with heap := h1, toks := tk } := fun tk => by
    refine compLoop_go (fun n s' => ∃ i H', Inv (inner X sc (own ++ free) cl s3.heap.objs.size s3 H3 fp) [] (cst own fv σ) H' s' ∧ tn i s'.heap ∧ (∀ b ∈ fp, H' b = none) ∧ W i n H') ?_ m0 ⟨0, H3, I4 tk, T.keep _ _ _ st3 (fun b _ o e => old b o e), f3, w0⟩
    rintro n s5 ⟨i, H5, I5, st5, fr5, w5⟩
    rcases turn i n H5 w5 with ⟨stop, q⟩ | ⟨go, step⟩
    · refine thn (T.done (inner X sc (own ++ free) cl s3.heap.objs.size s3 H3 fp) rfl rfl rfl hcalm i [] s5 _ H5 _ I5 (stat fr5) st5 stop) fun r s6 ⟨hr, I6⟩ => ?_
      subst hr
      obtain ⟨m, hm, _⟩ := I6.loc
      exact back m H5 s6 hm I6 q
    · refine thn (T.item (inner X sc (own ++ free) cl s3.heap.objs.size s3 H3 fp) rfl rfl rfl hcalm i [] s5 _ H5 _ I5 (stat fr5) st5 go) fun r s6 ⟨u, hr, h6⟩ => ?_
      subst hr
      refine thn h6 fun _ s7 ⟨x, H7, I7, r7, y7, st7, fr7⟩ => ?_
      have I7' := I7.pinned (stat fr7) (T.obj _ _ st7)
      have hg' := hg cl s3.heap.objs.size s3 H3 fp _ s7 _ H7 x u _ I7' r7 (step x H7 y7)
      have ht' := ht cl s3.heap.objs.size s3 H3 fp
      have he' := he cl s3.heap.objs.size s3 H3 fp
      have ap : MtM (inner X sc (own ++ free) cl s3.heap.objs.size s3 H3 fp) "list.append" rAppend := mt_append
      unfold PFs at ht'
      unfold PE at he'
      unfold MtM at ap
      rw [hYxe] at hg' ht' he' ap
      have again : ∀ {pl : List (Addr × Obj)} {σ8 : L2.St} {H8 : Hp} {s8 : Shared}, pl = pinsAt fp s7.heap → Inv (inner X sc (own ++ free) cl s3.heap.objs.size s3 H3 fp) ([] ++ pl) σ8 H8 s8 → Agr (cst own fv σ) σ8 → (∃ m', m' < n ∧ W (i + 1) m' H8) →
          ∃ m, m < n ∧ ∃ i H', Inv (inner X sc (own ++ free) cl s3.heap.objs.size s3 H3 fp) [] (cst own fv σ) H' s8 ∧ tn i s8.heap ∧ (∀ b ∈ fp, H' b = none) ∧ W i m H' := fun {pl σ8 H8 s8} hpl I8 ag ⟨m', hm, w8⟩ => by
        subst hpl
        refine ⟨m', hm, i + 1, H8, (I8.unpinned).weak ag.len.symm (fun j v e => ag.get j v e), T.keep _ _ _ st7 fun b hb o e => (I8.pin (b, o) (List.mem_append_right _ (List.mem_append_right _ (mem_pinsAt hb e)))).1, fun b hb => ?_, w8⟩
        obtain ⟨o, e, d⟩ := T.obj _ _ st7 b hb
        exact (I8.pin (b, o) (List.mem_append_right _ (List.mem_append_right _ (mem_pinsAt hb e)))).2.1
      refine thn hg' fun _ s8 ⟨σ8, H8, I8, ag, q8⟩ => ?_
      refine thn (ht' _ s8 σ8 H8 _ I8 q8) fun b s9 ⟨H9, I9, q9⟩ => ?_
      cases b with
      | false =>
        rw [if_neg Bool.false_ne_true] at q9 ⊢
        exact again rfl I9 ag q9
      | true =>
        rw [if_pos rfl] at q9 ⊢
        refine thn (he' _ s9 σ8 H9 _ I9 q9) fun y s10 ⟨yv, H10, I10, ry, ys, hy, hlt, q10⟩ => ?_
        refine thn (ap _ s10 σ8 H10 (.ref s2.heap.objs.size) [yv] (.ref s2.heap.objs.size) [y] (fun v H' => v = .non ∧ H' = upd H10 s2.heap.objs.size (.lst (ys ++ [yv]))) I10 rfl (.cons ry .nil) ⟨_, ys, yv, rfl, rfl, hy, hlt, rfl, rfl⟩) fun z s11 ⟨v11, H11, I11, _, _, e11⟩ => ?_
        subst e11
        exact again rfl I11 ag q10
  refine codeAny_compStart_list (loop _) (T.self _ 0 _ _ _ (T.keep _ _ _ st3 fun b _ o e => old b o e) (loop _))
theorem pe_lc (hcalm : X.calm = true) (hxe : X.xe = fun _ _ => False) (hkind : sc.kind = .function) (hcell : ∀ y ∈ sc.names, y.2 ≠ .cell) (hnames : ∀ y ∈ sc.names, y.2 = .local → sc.names.lookup y.1 = some .local)
    (hfr : FrAll (fun x => X.env.kindOf x = some .cell) sc.names) (hfv : FvOk X sc free fv) (hi : PI X tg iter wi)
    (hg : ∀ cl C s₀ H₀ ex, PG (inner X sc (own ++ free) cl C s₀ H₀ ex) tg g) (ht : ∀ cl C s₀ H₀ ex, PFs (inner X sc (own ++ free) cl C s₀ H₀ ex) ifs tc) (he : ∀ cl C s₀ H₀ ex, PE (inner X sc (own ++ free) cl C s₀ H₀ ex) elt te)
    (hs : ∀ x, foldedSetIterable iter X.env x = pure x := by intro _; rfl) : PE X (.ListComp elt [⟨tg, iter, ifs, 0⟩] sc pos) (tLC own fv wi g tc te) := by
  intro pins s σ H Q I q
  obtain ⟨cl, hclos, hcl1, hcl2⟩ := closure_ok (env := X.env) (sc := sc) fun y hy e => I.ok.has y.1 (.inl (hfr.of y hy e))
  rw [eval_ListComp]
  refine wpAny_comprehension_free (use := none) rfl hs hclos hkind hnames (thn (hi pins s σ H _ I q) fun v s1 h1 => thn h1 fun itv s2 h2 => ?_)
  obtain ⟨it, fp, tn, J, H2, e, I2, T, st2, f2, q2⟩ := h2
  subst e
  refine comp_block (RR := fun acc C => compPost (model X.prog X.w) X.A X.xe none (EP X pins σ Q) acc C) hcalm hxe hkind hcell hfr hfv hg ht he I2 T st2 f2 q2 hcl1 hcl2 ?_
  intro p C m H' s' hm I' hC hCl hC0 hCc hCp q'
  exact ⟨m, hm, fun h' hs' => ⟨.ref p, H', I'.turned (t' := s'.toks) (fun b o hb e => hs'.extBut b o hb e) hC hCl (.inr hC0) hCc hCp, rfl, q'⟩⟩
theorem ps_setC {i : Nat} {y : Str} {py spos : Pos} (hN : X.N.Nodup) (hy : X.N[i]? = some y) (hyl : X.env.scope.names.lookup y = some .local) (hcalm : X.calm = true) (hxe : X.xe = fun _ _ => False) (hkind : sc.kind = .function) (hcell : ∀ y ∈ sc.names, y.2 ≠ .cell) (hnames : ∀ y ∈ sc.names, y.2 = .local → sc.names.lookup y.1 = some .local)
    (hfr : FrAll (fun x => X.env.kindOf x = some .cell) sc.names) (hfv : FvOk X sc free fv) (hi : PI X tg iter wi)
    (hg : ∀ cl C s₀ H₀ ex, PG (inner X sc (own ++ free) cl C s₀ H₀ ex) tg g) (ht : ∀ cl C s₀ H₀ ex, PFs (inner X sc (own ++ free) cl C s₀ H₀ ex) ifs tc) (he : ∀ cl C s₀ H₀ ex, PE (inner X sc (own ++ free) cl C s₀ H₀ ex) elt te)
    (hsw : swapsWith (.ListComp elt [⟨tg, iter, ifs, 0⟩] sc pos) (some (.Name y py)) spos.line X.env = pure true := by rfl)
    (hs : ∀ x, foldedSetIterable iter X.env x = pure x := by intro _; rfl) : PS X (.Assign [.Name y py] (.ListComp elt [⟨tg, iter, ifs, 0⟩] sc pos) spos) (tAsg (tLC own fv wi g tc te) (gName i)) := by
  intro pins s σ H D I q
  obtain ⟨cl, hclos, hcl1, hcl2⟩ := closure_ok (env := X.env) (sc := sc) fun y hy e => I.ok.has y.1 (.inl (hfr.of y hy e))
  rw [exec_Assign_Name_used _ _ _ _ hsw]
  refine wpAny_bind (wpAny_standAt (wpAny_bind ?_))
  show wpAny _ X.A (do let _ ← comprehension (.ListComp elt [⟨tg, iter, ifs, 0⟩] sc pos) sc X.env _ (newList []) false (eval iter X.env) (some (assign (.Name y py) X.env))) _ _ s
  refine wpAny_bind (wpAny_mono (wpAny_comprehension_free (use := some (assign (.Name y py) X.env)) (Q := fun _ s' => SP X pins D .next s') rfl hs hclos hkind hnames
    (thn (hi pins s σ H _ I q) fun v s1 h1 => thn h1 fun itv s2 h2 => ?_)) (fun _ s' hq => wpAny_pure (wpAny_pure hq)) fun _ _ e => e)
  obtain ⟨it, fp, tn, J, H2, e, I2, T, st2, f2, q2⟩ := h2
  subst e
  refine comp_block (RR := fun acc C => compPost (model X.prog X.w) X.A X.xe (some (assign (.Name y py) X.env)) (fun _ s' => SP X pins D .next s') acc C) (Q := fun x H1 => gName i x σ H1 D.nx) hcalm hxe hkind hcell hfr hfv hg ht he I2 T st2 f2 q2 hcl1 hcl2 ?_
  intro p C m H' s' hm I' hC hCl hC0 hCc hCp q'
  show wpAny _ X.A (assign (.Name y py) X.env (.ref p)) _ _ _
  refine wpAny_assign_Name (store_ok2 (v := .ref p) I' hN hy (.inl hyl) rfl (fun s'' I'' hsb => ?_) (.inr hyl))
  obtain ⟨a, hsb, ha⟩ := hsb
  have hCa : C ≠ a := by
    rcases ha with rfl | ha
    · exact hCl
    · exact fun e => hCc _ _ ha e.symm
  refine ⟨m, hm.sameBut hsb hCa, fun h' hs' => ⟨_, H', I''.turned (t' := s''.toks) (fun b o hb e => hs'.extBut b o hb e) hC hCl (.inr hC0) hCc hCp, q'⟩⟩
end
end My
namespace My
open PySem PySem.Spec PyProof.Rows L2
section
variable {σ : L2.St} {H : Hp} {K : PySem.W.Frag}
theorem r_true {Q : Bool → Hp → Prop} (h : Q true H) : tTrue σ H Q := h
theorem r_lc {own : List Str} {fv : List Nat} {wi : TI} {g : TG} {tc : TT} {te : TE} {Q : VK} (h : wi σ H fun J H1 => ∀ p, H1 p = none →
  ∃ W : Nat → Nat → Hp → Prop, (∃ m, W 0 m (upd H1 p (.lst []))) ∧ ∀ i m H2, W i m H2 →
    (J.stop i H2 ∧ Q (.ref p) H2) ∨ (J.go i H2 ∧ ∀ x H', J.yld i H2 x H' → g x (cst own fv σ) H' fun σ2 H3 => Agr (cst own fv σ) σ2 ∧ tc σ2 H3 fun b H4 =>
      if b = true then te σ2 H4 fun y H5 => ∃ ys, H5 p = some (.lst ys) ∧ ys.length < sizeLine ∧ ∃ m', m' < m ∧ W (i + 1) m' (upd H5 p (.lst (ys ++ [y])))
      else ∃ m', m' < m ∧ W (i + 1) m' H4)) : tLC own fv wi g tc te σ H Q := h
theorem r_gtup {n : Nat} {t : TGs} {a : Addr} {xs : List V} {Q : L2.St → Hp → Prop} (h : SqT K H a xs) (e : xs.length = n) (q : t xs σ H Q) : gTup K n t (.ref a) σ H Q := ⟨a, xs, rfl, h, e, q⟩
theorem r_gcons {t : TG} {u : TGs} {v : V} {r : List V} {Q : L2.St → Hp → Prop} (h : t v σ H fun σ' H' => u r σ' H' Q) : gCons t u (v :: r) σ H Q := ⟨v, r, rfl, h⟩
theorem r_gnil {Q : L2.St → Hp → Prop} (h : Q σ H) : gNil [] σ H Q := ⟨rfl, h⟩
end
end My
namespace My
open PySem PySem.Spec PyProof.Rows L2
def Itrs (lo st : Int) (n : Nat) : It := ⟨fun i _ => i < n, fun i H x H' => H' = H ∧ x = .int (lo + i * st), fun i _ => n ≤ i⟩
section
variable {X : Cx} {tg : Expr}
def iRng3 (ta : TA) : TI := fun σ H R => ta σ H fun vs H1 => ∃ i j c : Int, vs = [.int i, .int j, .int c] ∧ (-(2 ^ 30) ≤ i ∧ i < 2 ^ 30 ∧ -(2 ^ 30) ≤ j ∧ j < 2 ^ 30 ∧ 0 < c ∧ c < 2 ^ 30) ∧ R (Itrs i c (if i < j then (j - i - 1) / c + 1 else 0).toNat) H1
end
end My
namespace My
open PySem PySem.Spec PyProof.Rows L2
mutual
inductive Dt (K : PySem.W.Frag) (H : Hp) : V → PyData → Prop
  | non : Dt K H .non .none
  | bl (b : Bool) : Dt K H (.bl b) (.bool b)
  | int (i : Int) : Dt K H (.int i) (.int i)
  | tup {a : Addr} {xs : List V} {ds : List PyData} : SqT K H a xs → DtAll K H xs ds → Dt K H (.ref a) (.tuple ds)
  | lst {a : Addr} {xs : List V} {ds : List PyData} : SqL K H a xs → DtAll K H xs ds → Dt K H (.ref a) (.list ds)
inductive DtAll (K : PySem.W.Frag) (H : Hp) : List V → List PyData → Prop
  | nil : DtAll K H [] []
  | cons {x : V} {xs : List V} {d : PyData} {ds : List PyData} : Dt K H x d → DtAll K H xs ds → DtAll K H (x :: xs) (d :: ds)
end
section
variable {X : Cx} {pins : List (Addr × Obj)} {σ : L2.St} {H : Hp} {s : Shared}
theorem Dt.pair {K : PySem.W.Frag} {H : Hp} {p : Addr} {a b : Int} (h : H p = some (.tup [.int a, .int b])) : Dt K H (.ref p) (.tuple [.int a, .int b]) := .tup (SqT.of h) (.cons (.int a) (.cons (.int b) .nil))
end
end My
namespace My
open PySem PySem.Spec PyProof.Rows L2
section
variable {X : Cx} {pins : List (Addr × Obj)} {σ : L2.St} {H : Hp} {s : Shared}
end
def Itz (K : PySem.W.Frag) (l1 l2 : Addr) : It :=
  ⟨fun i H => ∃ xs ys x y, SqL K H l1 xs ∧ SqL K H l2 ys ∧ xs[i]? = some x ∧ ys[i]? = some y,
   fun i H v H' => ∃ p, v = .ref p ∧ H p = none ∧ ∀ xs ys x y, SqL K H l1 xs → SqL K H l2 ys → xs[i]? = some x → ys[i]? = some y → H' = upd H p (.tup [x, y]),
   fun i H => ∃ xs ys, SqL K H l1 xs ∧ SqL K H l2 ys ∧ (xs.length ≤ i ∨ ys.length ≤ i)⟩
section
variable {X : Cx}
def iZip (K : PySem.W.Frag) (ta : TA) : TI := fun σ H R => ta σ H fun vs H1 => ∃ l1 l2, vs = [.ref l1, .ref l2] ∧ (∃ xs, SqL K H1 l1 xs) ∧ (∃ ys, SqL K H1 l2 ys) ∧ R (Itz K l1 l2) H1
end
theorem r_zip {K : PySem.W.Frag} {σ : L2.St} {H : Hp} {ta : TA} {R : It → Hp → Prop} (h : ta σ H fun vs H1 => ∃ l1 l2, vs = [.ref l1, .ref l2] ∧ (∃ xs, SqL K H1 l1 xs) ∧ (∃ ys, SqL K H1 l2 ys) ∧ R (Itz K l1 l2) H1) : iZip K ta σ H R := h
def Ite (K : PySem.W.Frag) (l : Addr) : It :=
  ⟨fun i H => ∃ xs x, SqL K H l xs ∧ xs[i]? = some x,
   fun i H v H' => ∃ p, v = .ref p ∧ H p = none ∧ ∀ xs x, SqL K H l xs → xs[i]? = some x → H' = upd H p (.tup [.int i, x]),
   fun i H => ∃ xs, SqL K H l xs ∧ xs.length ≤ i⟩
section
variable {X : Cx}
def iEnum (K : PySem.W.Frag) (ta : TA) : TI := fun σ H R => ta σ H fun vs H1 => ∃ l, vs = [.ref l] ∧ (∃ xs, SqL K H1 l xs) ∧ R (Ite K l) H1
end
theorem r_enum {K : PySem.W.Frag} {σ : L2.St} {H : Hp} {ta : TA} {R : It → Hp → Prop} (h : ta σ H fun vs H1 => ∃ l, vs = [.ref l] ∧ (∃ xs, SqL K H1 l xs) ∧ R (Ite K l) H1) : iEnum K ta σ H R := h
end My
namespace My
open PySem PySem.Spec PyProof.Rows L2
end My
namespace My
open PySem PySem.Spec PyProof.Rows L2
def cx (cs : List (Int × Int)) (k : Nat) : Int := (cs.getD k (0, 0)).1
def cz (cs : List (Int × Int)) (k : Nat) : Int := (cs.getD k (0, 0)).2
def Crn (H : Hp) (l : Addr) (cs : List (Int × Int)) : Prop := ∃ ps : List Addr, H l = some (.lst (ps.map V.ref)) ∧ Paired (fun (p : Addr) (c : Int × Int) => H p = some (.tup [.int c.1, .int c.2])) ps cs
theorem Crn.same {H H' : Hp} {l : Addr} {cs : List (Int × Int)} (s : Same H H') (h : Crn H l cs) : Crn H' l cs := by
  obtain ⟨ps, e, p⟩ := h
  exact ⟨ps, s _ _ e, Paired.imp' (fun _ _ q => s _ _ q) p⟩
theorem paired_getD {F : Addr → Int × Int → Prop} : ∀ {l : List Addr} {m : List (Int × Int)}, Paired F l m → ∀ i, i < m.length → ∃ a, l[i]? = some a ∧ F a (m.getD i (0, 0))
  | _, _, .cons h t, 0, _ => ⟨_, rfl, h⟩
  | _, _, .cons h t, i + 1, hi => by
    obtain ⟨a, e1, f⟩ := paired_getD t i (Nat.lt_of_succ_lt_succ hi)
    exact ⟨a, by simpa using e1, by simpa using f⟩
theorem Crn.at {H : Hp} {l : Addr} {cs : List (Int × Int)} (h : Crn H l cs) (k : Int) (h0 : 0 ≤ k) (hk : k < cs.length) :
    ∃ xs p, H l = some (.lst xs) ∧ xs.length = cs.length ∧ atI xs k = some (.ref p) ∧ H p = some (.tup [.int (cx cs k.toNat), .int (cz cs k.toNat)]) := by
  obtain ⟨ps, e, pq⟩ := h
  obtain ⟨a, ea, f⟩ := paired_getD pq k.toNat (by omega)
  refine ⟨_, a, e, by rw [List.length_map]; exact pq.length, ?_, f⟩
  have : atI (ps.map V.ref) ((k.toNat : Nat) : Int) = some (.ref a) := atI_nat (by rw [List.getElem?_map, ea]; rfl)
  rwa [Int.toNat_of_nonneg h0] at this
theorem Crn.last {H : Hp} {l : Addr} {cs : List (Int × Int)} (h : Crn H l cs) (hk : 0 < cs.length) :
    ∃ xs p, H l = some (.lst xs) ∧ xs.length = cs.length ∧ atI xs (-1) = some (.ref p) ∧ H p = some (.tup [.int (cx cs (cs.length - 1)), .int (cz cs (cs.length - 1))]) := by
  obtain ⟨ps, e, pq⟩ := h
  have hl := pq.length
  obtain ⟨a, ea, f⟩ := paired_getD pq (cs.length - 1) (by omega)
  refine ⟨_, a, e, by rw [List.length_map]; exact hl, ?_, f⟩
  unfold atI ixN
  rw [List.length_map, if_neg (by decide), if_pos (by omega)]
  have : ((-1 : Int) + (ps.length : Int)).toNat = cs.length - 1 := by omega
  rw [this]
  show (ps.map V.ref)[cs.length - 1]? = _
  rw [List.getElem?_map, ea]; rfl
theorem Crn.len {H : Hp} {l : Addr} {cs : List (Int × Int)} (h : Crn H l cs) : ∃ xs, H l = some (.lst xs) ∧ xs.length = cs.length := by
  obtain ⟨ps, e, pq⟩ := h
  exact ⟨_, e, by rw [List.length_map]; exact pq.length⟩
def GObj (K : PySem.W.Frag) (H : Hp) (g l : Addr) : Prop := ∃ C dx, H g = some (.ins C dx [("corners", V.ref l)]) ∧ Cls K C ∧ NoAttr K C "corners"
theorem GObj.same {K : PySem.W.Frag} {H H' : Hp} {g l : Addr} (s : Same H H') (h : GObj K H g l) : GObj K H' g l := by
  obtain ⟨C, dx, e, r⟩ := h
  exact ⟨C, dx, s _ _ e, r⟩
def rFld (K : PySem.W.Frag) (f : Str) (x : V) (H : Hp) (Q : VK) : Prop := ∃ a C dx fs v, x = .ref a ∧ H a = some (.ins C dx fs) ∧ Cls K C ∧ NoAttr K C f ∧ fs.lookup f = some v ∧ Q v H
theorem r_fld {K : PySem.W.Frag} {σ : L2.St} {H : Hp} {ta : TE} {f : Str} {Q : VK} (h : ta σ H fun x H1 => rFld K f x H1 Q) : tFld K ta f σ H Q := h
structure Good (cs : List (Int × Int)) : Prop where
  two : 2 ≤ cs.length
  most : cs.length ≤ 40
  asc : ∀ i, i + 1 < cs.length → cx cs i < cx cs (i + 1)
  bx : ∀ i, Bd 200 (cx cs i)
  bz : ∀ i, Bd 200 (cz cs i)
theorem Good.lt {cs : List (Int × Int)} (g : Good cs) : ∀ {i j : Nat}, i < j → j < cs.length → cx cs i < cx cs j := by
  intro i j h
  induction h with
  | refl => exact fun hj => g.asc i hj
  | step h ih => exact fun hj => Int.lt_trans (ih (by omega)) (g.asc _ hj)
def On (cs : List (Int × Int)) (a b : Int) : Prop := cx cs 0 * b ≤ a ∧ a ≤ cx cs (cs.length - 1) * b
instance (cs : List (Int × Int)) (a b : Int) : Decidable (On cs a b) := by unfold On; infer_instance
def hT (x1 z1 x2 z2 a b : Int) : Int := z1 * (x2 - x1) * b + (z2 - z1) * (a - x1 * b)
def hB (x1 x2 b : Int) : Int := (x2 - x1) * b
section
variable {σ : L2.St} {H : Hp}
theorem r_aug {nx : L2.St → Hp → Prop} {rt : VK} {bk ct : L2.St → Hp → Prop} {i : Nat} {te : TE} {ti : TIp} {x : V} (h : σ[i]? = some (some x)) (q : te σ H fun y H1 => ti x y H1 fun z H2 => nx (σ.set i (some z)) H2) : tAug i te ti ⟨nx, rt, bk, ct⟩ σ H := ⟨x, h, q⟩
end
section
variable {σ : L2.St} {H : Hp} {K : PySem.W.Frag}
theorem r_gsub {to ti : TE} {t : TSet} {v : V} {Q : L2.St → Hp → Prop} (h : to σ H fun o H1 => ti σ H1 fun i H2 => t o i v H2 fun H3 => Q σ H3) : gSub to ti t v σ H Q := h
end
end My
namespace My
open PySem PySem.Spec PyProof.Rows L2
section
variable {X : Cx} {K : PySem.W.Frag}
theorem listIt {pins : List (Addr × Obj)} {σ : L2.St} {H : Hp} {s : Shared} {p : Addr} {its : List Value} (_ : Inv X pins σ H s) (pl : PlainL s.heap p its.toArray) :
    p < s.heap.objs.size ∧ (s.heap.push { cls := .type "list_iterator", data := .fields #[.ref p, .int 0 0] }).IsListIter s.heap.objs.size p 0 := by
  obtain ⟨o, ho, _⟩ := pl.isList
  exact ⟨Heap.lt_size ho, _, Heap.get?_push_size _ rfl, rfl, rfl⟩
theorem keptIt {H : Hp} {pins : List (Addr × Obj)} {σ : L2.St} {s : Shared} {h' : Heap} {tk : Nat} (I : Inv X pins σ H s) {o : Obj} (hk : ∀ b u, b ∉ [s.heap.objs.size] → (s.heap.push o).get? b = some u → h'.get? b = some u) :
    Inv X pins σ H { s with heap := h', toks := tk } := I.kept (t' := tk) fun d u e => hk d u (fun hm => by
      have h1 : d = s.heap.objs.size := by simpa using hm
      have h2 := Heap.lt_size e
      rw [h1] at h2
      exact Nat.lt_irrefl _ h2) (Heap.get?_push_of_some _ e)
def rAny (K : PySem.W.Frag) : List V → Hp → VK → Prop := fun xs H Q => ∃ (p : Addr) (bs : List Bool), xs = [.ref p] ∧ SqL K H p (bs.map V.bl) ∧ Q (.bl (bs.any id)) H
theorem bools_at {bs : List Bool} {its : List Value} (rv : Vals (bs.map V.bl) its) {i : Nat} {v : Value} (h : its.toArray[i]? = some v) : v = .bool (bs.getD i false) := by
  rw [← Array.getElem?_toList] at h
  have hi : i < its.length := by
    rcases Nat.lt_or_ge i its.length with g | g
    · exact g
    · rw [List.getElem?_eq_none (by simpa using g)] at h; cases h
  have hl := rv.length
  rw [List.length_map] at hl
  have e : (bs.map V.bl)[i]? = some (.bl (bs.getD i false)) := by
    rw [List.getElem?_map, List.getElem?_eq_getElem (by omega)]
    simp [List.getD_eq_getElem?_getD, List.getElem?_eq_getElem (show i < bs.length by omega)]
  obtain ⟨u, hu, ru⟩ := rv.get e
  rw [show its.toArray.toList = its from rfl, hu] at h
  cases h
  exact ru
theorem any_range (bs : List Bool) : (List.range bs.length).any (fun i => bs.getD i false) = bs.any id := by
  rw [Bool.eq_iff_iff, List.any_eq_true, List.any_eq_true]
  constructor
  · rintro ⟨i, hi, h⟩
    rw [List.mem_range] at hi
    refine ⟨bs[i], List.getElem_mem hi, ?_⟩
    simpa [List.getD_eq_getElem?_getD, List.getElem?_eq_getElem hi] using h
  · rintro ⟨b, hb, h⟩
    obtain ⟨i, hi, rfl⟩ := List.mem_iff_getElem.mp hb
    exact ⟨i, List.mem_range.mpr hi, by simpa [List.getD_eq_getElem?_getD, List.getElem?_eq_getElem hi] using h⟩
theorem call_anyK (hK : X.K = K) (hc : X.calm = true) : CallR X (.builtin "any") (rAny K) := fun pins s σ H xs us Q I r h => by
  subst hK
  obtain ⟨p, bs, rfl, hS, q⟩ := h
  obtain ⟨u, rfl, ru⟩ := vals1 r
  cases ru
  obtain ⟨its, rv, pl, hz⟩ := I.list hS
  obtain ⟨lt, st⟩ := listIt I pl
  have hl := rv.length
  rw [List.length_map] at hl
  have W := Walks.list (prog := X.prog) (w := X.w) (A := X.A.in1) (I.ok.hd hc) s.heap.objs.size p (Nat.ne_of_lt lt) its.toArray
  refine call_any_walk (wpAny_pyIter_list pl.isList ⟨s.heap.objs.size, [s.heap.objs.size, p], [s.heap.objs.size], _, _, _, fun i => bs.getD i false, rfl, W, ⟨st, pl.isList.push _⟩, ?_, ?_⟩)
  · intro i v s' Q' E' hv hq
    rw [bools_at rv hv]
    exact wpAny_truthy_bool hq
  · intro h' tk hk
    rw [List.size_toArray, ← hl, any_range]
    exact ⟨.bl _, H, keptIt (s := s) I hk, rfl, q⟩
theorem ints_at {ns : List Int} {its : List Value} (rv : Vals (ns.map V.int) its) {i : Nat} {v : Value} (h : its.toArray[i]? = some v) : ∃ t, v = .int (ns.getD i 0) t := by
  rw [← Array.getElem?_toList] at h
  have hi : i < its.length := by
    rcases Nat.lt_or_ge i its.length with g | g
    · exact g
    · rw [List.getElem?_eq_none (by simpa using g)] at h; cases h
  have hl := rv.length
  rw [List.length_map] at hl
  have e : (ns.map V.int)[i]? = some (.int (ns.getD i 0)) := by
    rw [List.getElem?_map, List.getElem?_eq_getElem (by omega)]
    simp [List.getD_eq_getElem?_getD, List.getElem?_eq_getElem (show i < ns.length by omega)]
  obtain ⟨u, hu, ru⟩ := rv.get e
  rw [show its.toArray.toList = its from rfl, hu] at h
  cases h
  exact ru
theorem preSum_take (ns : List Int) : ∀ k, k ≤ ns.length → preSum (fun i => ns.getD i 0) k = (ns.take k).sum
  | 0, _ => by simp [preSum]
  | k + 1, h => by
    have ih := preSum_take ns k (by omega)
    show preSum (fun i => ns.getD i 0) k + ns.getD k 0 = _
    rw [ih, List.take_succ, List.sum_append]
    simp [List.getD_eq_getElem?_getD, List.getElem?_eq_getElem (show k < ns.length by omega)]
def rSumN (K : PySem.W.Frag) : List V → Hp → VK → Prop := fun xs H Q => ∃ (p : Addr) (ns : List Int), xs = [.ref p] ∧ SqL K H p (ns.map V.int) ∧ Q (.int ns.sum) H
theorem call_sumN (hK : X.K = K) (hc : X.calm = true) : CallR X (.builtin "sum") (rSumN K) := fun pins s σ H xs us Q I r h => by
  subst hK
  obtain ⟨p, ns, rfl, hS, q⟩ := h
  obtain ⟨u, rfl, ru⟩ := vals1 r
  cases ru
  obtain ⟨its, rv, pl, hz⟩ := I.list hS
  obtain ⟨lt, st⟩ := listIt I pl
  have hl := rv.length
  rw [List.length_map] at hl
  have W := Walks.list (prog := X.prog) (w := X.w) (A := X.A.in1) (I.ok.hd hc) s.heap.objs.size p (Nat.ne_of_lt lt) its.toArray
  refine call_sum_walkG (wpAny_pyIter_list pl.isList ⟨s.heap.objs.size, [s.heap.objs.size, p], [s.heap.objs.size], _, _, _, fun i => ns.getD i 0, rfl, W, ⟨st, pl.isList.push _⟩, ?_, ?_, ?_⟩)
  · intro d hd
    simp only [List.mem_cons, List.not_mem_nil, or_false] at hd
    rw [Heap.size_push]
    rcases hd with rfl | rfl
    · exact Nat.lt_succ_self _
    · exact Nat.lt_succ_of_lt lt
  · intro i v hv
    exact ints_at rv hv
  · intro h' tk t' hk
    rw [List.size_toArray, ← hl, preSum_take ns _ (Nat.le_refl _), List.take_length]
    exact ⟨.int _, H, keptIt (s := s) I hk, ⟨t', rfl⟩, q⟩
theorem vals_items : ∀ {ns : List Int} {its : List Value}, Vals (ns.map V.int) its → ∃ xs : Array (Int × Tok), its.toArray = intItems xs ∧ xs.toList.map (·.1) = ns
  | [], _, h => by cases h; exact ⟨#[], by simp [intItems], rfl⟩
  | n :: ns, _, h => by
    cases h with
    | cons r t =>
      obtain ⟨tk, rfl⟩ := r
      obtain ⟨xs, e1, e2⟩ := vals_items t
      refine ⟨#[(n, tk)] ++ xs, ?_, ?_⟩
      · apply Array.toList_inj.mp
        have := congrArg Array.toList e1
        simp [intItems] at this ⊢
        exact this
      · simp [e2]
def rTupL (K : PySem.W.Frag) : List V → Hp → VK → Prop := fun xs H Q => ∃ p ys, xs = [.ref p] ∧ ((SqL K H p ys ∧ ∀ l, H l = none → Q (.ref l) (upd H l (.tup ys))) ∨ (SqT K H p ys ∧ Q (.ref p) H))
theorem call_tupK (hK : X.K = K) : CallR X (.type "tuple") (rTupL K) := hK ▸ call_tuple_of
end
section
variable {X : Cx} {K : PySem.W.Frag}
def rCatS (K : PySem.W.Frag) : R2 := fun x y H Q => ∃ l b xs zs, x = .ref l ∧ y = .ref b ∧ SqL K H l xs ∧ SqL K H b zs ∧ xs.length + zs.length ≤ sizeLine ∧ ∀ p, H p = none → Q (.ref p) (upd H p (.lst (xs ++ zs)))
theorem op_catK (hK : X.K = K) : OpR X (binaryOp .Add) (rCatS K) := by
  subst hK
  intro pins s σ H x y v u Q I rx ry h
  obtain ⟨l, b, xs, zs, rfl, rfl, hH, hB, hz, q⟩ := h
  cases rx
  cases ry
  obtain ⟨its, r, pl, _⟩ := I.list hH
  obtain ⟨its2, r2, pl2, _⟩ := I.list hB
  obtain ⟨⟨cls, dd, data, sl⟩, ho, hc, n, hd⟩ := pl.isList
  obtain ⟨⟨cls2, dd2, data2, sl2⟩, ho2, hc2, n2, hd2⟩ := pl2.isList
  simp only at hc hd hc2 hd2
  subst hc hd hc2 hd2
  have e1 := r.length
  have e2 := r2.length
  refine concat_meets ⟨_, ho, rfl⟩ ⟨_, ho2, rfl⟩ noFill_list_add seq_list_add PySem.F.slot_list_add PySem.F.entry_list_add (PySem.F.args_list_add_2 _ _) (list_addW l b its.toArray its2.toArray n n2 dd dd2 sl sl2 (by rw [List.size_toArray, List.size_toArray]; omega)) ⟨ho, ho2, ?_⟩
  have ea : its.toArray ++ its2.toArray = (its ++ its2).toArray := by simp
  rw [ea]
  exact ⟨.ref _, _, I.lnew (t' := s.toks) (r.append r2) (by rw [List.length_append]; omega), rfl, q _ I.fresh⟩
end
end My
namespace My
open PySem PySem.Spec PyProof.Rows L2
section
variable {σ : L2.St} {K : PySem.W.Frag} {own : List Str} {fv : List Nat} {g : TG} {tc : TT} {te : TE} {R : Hp → Prop} {H1 : Hp} {p a : Addr} {xs : List V}
end
end My
namespace My
open PySem PySem.Spec PyProof.Rows L2
def PrsAt (H : Hp) (ps : List Addr) (cs : List (Int × Int)) : Prop := Paired (fun (p : Addr) (c : Int × Int) => H p = some (.tup [.int c.1, .int c.2])) ps cs
def SpT (H : Hp) (r : Addr) (cs : List (Int × Int)) : Prop := ∃ ps : List Addr, H r = some (.tup (ps.map V.ref)) ∧ PrsAt H ps cs
theorem PrsAt.same {H H' : Hp} {ps : List Addr} {cs : List (Int × Int)} (s : Same H H') (h : PrsAt H ps cs) : PrsAt H' ps cs := Paired.imp' (fun _ _ hd => s _ _ hd) h
theorem SpT.same {H H' : Hp} {r : Addr} {cs : List (Int × Int)} (s : Same H H') (h : SpT H r cs) : SpT H' r cs := by
  obtain ⟨ps, e, pq⟩ := h
  exact ⟨ps, s _ _ e, pq.same s⟩
theorem PrsAt.item : ∀ {H : Hp} {ps : List Addr} {cs : List (Int × Int)}, PrsAt H ps cs → ∀ {i : Nat} {v : V}, (ps.map V.ref)[i]? = some v → ∃ p c, v = .ref p ∧ cs[i]? = some c ∧ H p = some (.tup [.int c.1, .int c.2])
  | _, _, _, .nil, i, v, h => by simp at h
  | _, _, _, .cons r _, 0, v, h => ⟨_, _, by simpa using h.symm, rfl, r⟩
  | H, _ :: ps, _ :: cs, .cons _ t, i + 1, v, h => by
    obtain ⟨p, c, e1, e2, e3⟩ := PrsAt.item (H := H) (ps := ps) (cs := cs) t (i := i) (v := v) (by simpa using h)
    exact ⟨p, c, e1, by simpa using e2, e3⟩
theorem PrsAt.length {H : Hp} {ps : List Addr} {cs : List (Int × Int)} (h : PrsAt H ps cs) : ps.length = cs.length := Paired.length h
theorem lt_of_get {α : Type} {xs : List α} {i : Nat} {x : α} (h : xs[i]? = some x) : i < xs.length := by
  rcases Nat.lt_or_ge i xs.length with g | g
  · exact g
  · rw [List.getElem?_eq_none g] at h; cases h
theorem PrsAt.snoc {H : Hp} {ps : List Addr} {cs : List (Int × Int)} {p : Addr} {c : Int × Int} (h : PrsAt H ps cs) (hp : H p = some (.tup [.int c.1, .int c.2])) : PrsAt H (ps ++ [p]) (cs ++ [c]) := Paired.snoc h hp
theorem PrsAt.at {H : Hp} {ps : List Addr} {cs : List (Int × Int)} (h : PrsAt H ps cs) (k : Int) (h0 : 0 ≤ k) (hk : k < cs.length) : ∃ p, atI (ps.map V.ref) k = some (.ref p) ∧ H p = some (.tup [.int (cs.getD k.toNat (0, 0)).1, .int (cs.getD k.toNat (0, 0)).2]) := by
  obtain ⟨a, ea, f⟩ := paired_getD h k.toNat (by omega)
  refine ⟨a, ?_, f⟩
  have : atI (ps.map V.ref) ((k.toNat : Nat) : Int) = some (.ref a) := atI_nat (by rw [List.getElem?_map, ea]; rfl)
  rw [Int.toNat_of_nonneg h0] at this
  exact this
def iSeq (K : PySem.W.Frag) (tl : TE) : TI := fun σ H R => iList K tl σ H R ∨ iTup K tl σ H R
def SqP (H : Hp) (r : Addr) (cs : List (Int × Int)) : Prop := ∃ ps : List Addr, (H r = some (.lst (ps.map V.ref)) ∨ H r = some (.tup (ps.map V.ref))) ∧ PrsAt H ps cs
theorem SqP.same {H H' : Hp} {r : Addr} {cs : List (Int × Int)} (s : Same H H') (h : SqP H r cs) : SqP H' r cs := by
  obtain ⟨ps, e, pq⟩ := h
  exact ⟨ps, e.imp (s _ _) (s _ _), pq.same s⟩
theorem SpT.sq {H : Hp} {r : Addr} {cs : List (Int × Int)} (h : SpT H r cs) : SqP H r cs := let ⟨ps, e, pq⟩ := h; ⟨ps, .inr e, pq⟩
theorem Crn.sq {H : Hp} {r : Addr} {cs : List (Int × Int)} (h : Crn H r cs) : SqP H r cs := let ⟨ps, e, pq⟩ := h; ⟨ps, .inl e, pq⟩
end My
namespace My
open PySem PySem.W PyProof.Rows
def krun {α : Type} (lt : Nat → Nat → Bool) : KasT α → α
  | .ret a => a
  | .ask i j k => krun lt (k (lt i j))
theorem krun_bind {α β : Type} (lt : Nat → Nat → Bool) (f : α → KasT β) : ∀ t : KasT α, krun lt (t.bind f) = krun lt (f (krun lt t))
  | .ret _ => rfl
  | .ask i j k => krun_bind lt f (k (lt i j))
structure Swo (lt : Nat → Nat → Bool) : Prop where
  asymm : ∀ a b, lt a b = true → lt b a = false
  ntrans : ∀ a b c, lt b a = false → lt c b = false → lt c a = false
section
variable {lt : Nat → Nat → Bool}
abbrev ga (p : Array Nat) (i : Nat) : Nat := p.getD i 0
theorem ga_q (p : Array Nat) (i : Nat) : ga p i = (p[i]?).getD 0 := by simp [ga, Array.getD_eq_getD_getElem?]
theorem ga_bubble {p : Array Nat} {src d : Nat} (hs : src < p.size) (hd : d ≤ src) (k : Nat) : ga (bubble p src d) k = if k = src - d then ga p src else if src - d < k ∧ k ≤ src then ga p (k - 1) else ga p k := by
  rw [ga_q, getElem?_bubble hs d hd]
  by_cases h1 : k = src - d
  · rw [if_pos h1, if_pos h1, ga_q]
  · rw [if_neg h1, if_neg h1]
    by_cases h2 : src - d < k ∧ k ≤ src
    · rw [if_pos h2, if_pos h2, ga_q]
    · rw [if_neg h2, if_neg h2, ga_q]
theorem ga_rev {p : Array Nat} {i j : Nat} (hj : j ≤ p.size) (k : Nat) : ga (kas_rev p i j) k = if i ≤ k ∧ k < j then ga p (i + j - 1 - k) else ga p k := by
  unfold kas_rev
  rw [ga_q, getElem?_mirror_all hj]
  split <;> rw [ga_q]
def Asc (lt : Nat → Nat → Bool) (p : Array Nat) (n : Nat) : Prop := ∀ i j, i ≤ j → j < n → lt (ga p j) (ga p i) = false
def Dsc (lt : Nat → Nat → Bool) (p : Array Nat) (n : Nat) : Prop := ∀ i j, i ≤ j → j < n → lt (ga p i) (ga p j) = false
def Eqs (lt : Nat → Nat → Bool) (p : Array Nat) (a b : Nat) : Prop := ∀ i j, a ≤ i → i < b → a ≤ j → j < b → lt (ga p i) (ga p j) = false
theorem irr (S : Swo lt) (a : Nat) : lt a a = false := by
  cases h : lt a a with
  | false => rfl
  | true => have := S.asymm a a h; rw [h] at this; exact this
theorem Asc.snoc (S : Swo lt) {p : Array Nat} {n : Nat} (h1 : 1 ≤ n) (h : Asc lt p n) (hn : lt (ga p n) (ga p (n - 1)) = false) : Asc lt p (n + 1) := by
  intro i j hij hj
  rcases Nat.lt_or_ge j n with g | g
  · exact h i j hij g
  · have e : j = n := by omega
    subst e
    rcases Nat.lt_or_ge i j with g' | g'
    · exact S.ntrans (ga p i) (ga p (j - 1)) (ga p j) (h i (j - 1) (by omega) (by omega)) hn
    · have : i = j := by omega
      subst this
      exact irr S _
theorem Dsc.snoc (S : Swo lt) {p : Array Nat} {n : Nat} (h1 : 1 ≤ n) (h : Dsc lt p n) (hn : lt (ga p (n - 1)) (ga p n) = false) : Dsc lt p (n + 1) := by
  intro i j hij hj
  rcases Nat.lt_or_ge j n with g | g
  · exact h i j hij g
  · have e : j = n := by omega
    subst e
    rcases Nat.lt_or_ge i j with g' | g'
    · exact S.ntrans (ga p j) (ga p (j - 1)) (ga p i) hn (h i (j - 1) (by omega) (by omega))
    · have : i = j := by omega
      subst this
      exact irr S _
theorem Dsc.rev {p : Array Nat} {n : Nat} (hn : n ≤ p.size) (h : Dsc lt p n) : Asc lt (kas_rev p 0 n) n := by
  intro i j hij hj
  rw [ga_rev hn, ga_rev hn, if_pos ⟨by omega, hj⟩, if_pos ⟨by omega, by omega⟩]
  exact h _ _ (by omega) (by omega)
theorem Asc.rev {p : Array Nat} {n : Nat} (hn : n ≤ p.size) (h : Asc lt p n) : Dsc lt (kas_rev p 0 n) n := by
  intro i j hij hj
  rw [ga_rev hn, ga_rev hn, if_pos ⟨by omega, by omega⟩, if_pos ⟨by omega, by omega⟩]
  exact h _ _ (by omega) (by omega)
theorem Dsc.turn (S : Swo lt) {p : Array Nat} {n a : Nat} (hn : n ≤ p.size) (ha : a ≤ n) (h : Dsc lt p n) (he : Eqs lt p a n) : Dsc lt (kas_rev p a n) n := by
  intro i j hij hj
  rw [ga_rev hn, ga_rev hn]
  by_cases hi : a ≤ i
  · rw [if_pos ⟨hi, by omega⟩, if_pos ⟨by omega, hj⟩]
    exact he _ _ (by omega) (by omega) (by omega) (by omega)
  · rw [if_neg (by omega)]
    by_cases hj' : a ≤ j
    · rw [if_pos ⟨hj', hj⟩]
      exact h _ _ (by omega) (by omega)
    · rw [if_neg (by omega)]
      exact h _ _ hij hj
theorem rev_size {p : Array Nat} {i j : Nat} : (kas_rev p i j).size = p.size := mirror_size _ _ _ _
theorem rev_perm {p : Array Nat} {i j : Nat} : (kas_rev p i j).Perm p := mirror_perm _ _ _ _
theorem asc_ok (S : Swo lt) (p : Array Nat) : ∀ f n, 1 ≤ n → Asc lt p n → Asc lt p (krun lt (kas_asc p f n)) ∧ n ≤ krun lt (kas_asc p f n) ∧ krun lt (kas_asc p f n) ≤ n + f ∧ (krun lt (kas_asc p f n) < n + f → lt (ga p (krun lt (kas_asc p f n))) (ga p (krun lt (kas_asc p f n) - 1)) = true)
  | 0, n, _, h => ⟨h, Nat.le_refl _, Nat.le_refl _, fun z => absurd z (Nat.lt_irrefl _)⟩
  | f + 1, n, h1, h => by
    cases hc : lt (ga p n) (ga p (n - 1)) with
    | true =>
      have e : krun lt (kas_asc p (f + 1) n) = n := by
        show krun lt (if lt (ga p n) (ga p (n - 1)) = true then KasT.ret n else kas_asc p f (n + 1)) = n
        rw [if_pos hc]; rfl
      rw [e]
      exact ⟨h, Nat.le_refl _, by omega, fun _ => hc⟩
    | false =>
      have e : krun lt (kas_asc p (f + 1) n) = krun lt (kas_asc p f (n + 1)) := by
        show krun lt (if lt (ga p n) (ga p (n - 1)) = true then KasT.ret n else kas_asc p f (n + 1)) = _
        rw [if_neg (by rw [hc]; exact Bool.false_ne_true)]
      rw [e]
      obtain ⟨a1, a2, a3, a4⟩ := asc_ok S p f (n + 1) (by omega) (h.snoc S h1 hc)
      exact ⟨a1, by omega, by omega, fun z => a4 (by omega)⟩
theorem desc_ok (S : Swo lt) : ∀ f (p : Array Nat) n q, 1 ≤ n → n + f ≤ p.size → q + 1 ≤ n → Dsc lt p n → Eqs lt p (n - (q + 1)) n →
    let r := krun lt (kas_desc f p n q)
    r.1.size = p.size ∧ r.1.Perm p ∧ n ≤ r.2.1 ∧ r.2.1 ≤ n + f ∧ r.2.2 + 1 ≤ r.2.1 ∧ Dsc lt r.1 r.2.1 ∧ Eqs lt r.1 (r.2.1 - (r.2.2 + 1)) r.2.1
  | 0, p, n, q, h1, hz, hq, h, he => ⟨rfl, Array.Perm.refl _, Nat.le_refl _, Nat.le_refl _, hq, h, he⟩
  | f + 1, p, n, q, h1, hz, hq, h, he => by
    have one : ∀ p' : Array Nat, Eqs lt p' (n + 1 - (0 + 1)) (n + 1) := fun p' i j a b c d => by
      have e1 : i = n := by omega
      have e2 : j = n := by omega
      subst e1; subst e2
      exact irr S _
    cases hc : lt (ga p n) (ga p (n - 1)) with
    | true =>
      have hn : lt (ga p (n - 1)) (ga p n) = false := S.asymm _ _ hc
      by_cases hq0 : q > 0
      · have e : krun lt (kas_desc (f + 1) p n q) = krun lt (kas_desc f (kas_rev p (n - (q + 1)) n) (n + 1) 0) := by
          show krun lt (if lt (ga p n) (ga p (n - 1)) = true then (if q > 0 then kas_desc f (kas_rev p (n - (q + 1)) n) (n + 1) 0 else kas_desc f p (n + 1) 0) else _) = _
          rw [if_pos hc, if_pos hq0]
        have ht := h.turn S (a := n - (q + 1)) (by omega) (by omega) he
        have k1 : ga (kas_rev p (n - (q + 1)) n) n = ga p n := by rw [ga_rev (by omega), if_neg (by omega)]
        have k2 : ga (kas_rev p (n - (q + 1)) n) (n - 1) = ga p (n - (q + 1)) := by
          rw [ga_rev (by omega), if_pos ⟨by omega, by omega⟩]
          congr 1; omega
        have hs := Dsc.snoc S (p := kas_rev p (n - (q + 1)) n) h1 ht (by
          rw [k1, k2]
          exact S.ntrans (ga p n) (ga p (n - 1)) (ga p (n - (q + 1))) hn (he _ _ (by omega) (by omega) (by omega) (by omega)))
        have ih := desc_ok S f (kas_rev p (n - (q + 1)) n) (n + 1) 0 (by omega) (by rw [rev_size]; omega) (by omega) hs (one _)
        rw [e]
        obtain ⟨a1, a2, a3, a4, a5, a6, a7⟩ := ih
        exact ⟨a1.trans rev_size, a2.trans rev_perm, by omega, by omega, a5, a6, a7⟩
      · have e : krun lt (kas_desc (f + 1) p n q) = krun lt (kas_desc f p (n + 1) 0) := by
          show krun lt (if lt (ga p n) (ga p (n - 1)) = true then (if q > 0 then kas_desc f (kas_rev p (n - (q + 1)) n) (n + 1) 0 else kas_desc f p (n + 1) 0) else _) = _
          rw [if_pos hc, if_neg hq0]
        have ih := desc_ok S f p (n + 1) 0 (by omega) (by omega) (by omega) (h.snoc S h1 hn) (one _)
        rw [e]
        obtain ⟨a1, a2, a3, a4, a5, a6, a7⟩ := ih
        exact ⟨a1, a2, by omega, by omega, a5, a6, a7⟩
    | false =>
      cases hd : lt (ga p (n - 1)) (ga p n) with
      | true =>
        have e : krun lt (kas_desc (f + 1) p n q) = (p, n, q) := by
          show krun lt (if lt (ga p n) (ga p (n - 1)) = true then _ else KasT.ask (ga p (n - 1)) (ga p n) fun d => if d = true then .ret (p, n, q) else kas_desc f p (n + 1) (q + 1)) = _
          rw [if_neg (by rw [hc]; exact Bool.false_ne_true)]
          show krun lt (if lt (ga p (n - 1)) (ga p n) = true then _ else _) = _
          rw [if_pos hd]; rfl
        rw [e]
        exact ⟨rfl, Array.Perm.refl _, Nat.le_refl _, by show n ≤ _; omega, hq, h, he⟩
      | false =>
        have e : krun lt (kas_desc (f + 1) p n q) = krun lt (kas_desc f p (n + 1) (q + 1)) := by
          show krun lt (if lt (ga p n) (ga p (n - 1)) = true then _ else KasT.ask (ga p (n - 1)) (ga p n) fun d => if d = true then .ret (p, n, q) else kas_desc f p (n + 1) (q + 1)) = _
          rw [if_neg (by rw [hc]; exact Bool.false_ne_true)]
          show krun lt (if lt (ga p (n - 1)) (ga p n) = true then _ else _) = _
          rw [if_neg (by rw [hd]; exact Bool.false_ne_true)]
        have heq : Eqs lt p (n + 1 - (q + 1 + 1)) (n + 1) := by
          intro i j a b c d
          rcases Nat.lt_or_ge i n with gi | gi <;> rcases Nat.lt_or_ge j n with gj | gj
          · exact he i j (by omega) gi (by omega) gj
          · have : j = n := by omega
            subst this
            exact S.ntrans (ga p j) (ga p (j - 1)) (ga p i) hd (he i (j - 1) (by omega) gi (by omega) (by omega))
          · have : i = n := by omega
            subst this
            exact S.ntrans (ga p j) (ga p (i - 1)) (ga p i) (he (i - 1) j (by omega) (by omega) (by omega) gj) hc
          · have e1 : i = n := by omega
            have e2 : j = n := by omega
            subst e1; subst e2
            exact irr S _
        have ih := desc_ok S f p (n + 1) (q + 1) (by omega) (by omega) (by omega) (h.snoc S h1 hd) heq
        rw [e]
        obtain ⟨a1, a2, a3, a4, a5, a6, a7⟩ := ih
        exact ⟨a1, a2, by omega, by omega, a5, a6, a7⟩
def CountOk (lt : Nat → Nat → Bool) (p : Array Nat) (nrem : Nat) (r : Nat × Array Nat) : Prop := r.2.size = p.size ∧ r.2.Perm p ∧ 1 ≤ r.1 ∧ r.1 ≤ nrem ∧ Asc lt r.2 r.1
theorem tail_ok (S : Swo lt) {p : Array Nat} {n nrem : Nat} (h1 : 1 ≤ n) (hn : n ≤ nrem) (hz : nrem ≤ p.size) (h : Dsc lt p n) : CountOk lt p nrem (krun lt (kas_tail3 n nrem p)) := by
  have e : krun lt (kas_tail3 n nrem p) = (krun lt (kas_asc (kas_rev p 0 n) (nrem - n) n), kas_rev p 0 n) := by
    unfold kas_tail3; rw [krun_bind]; rfl
  rw [e]
  obtain ⟨a1, a2, a3, _⟩ := asc_ok S (kas_rev p 0 n) (nrem - n) n h1 (h.rev (by omega))
  exact ⟨rev_size, rev_perm, by show 1 ≤ krun lt _; omega, by show krun lt _ ≤ nrem; omega, a1⟩
theorem descPart_ok (S : Swo lt) {p : Array Nat} {n nrem : Nat} (h1 : 1 ≤ n) (hn : n + 1 ≤ nrem) (hz : nrem ≤ p.size) (h : Dsc lt p (n + 1)) : CountOk lt p nrem (krun lt (kas_descPart n nrem p)) := by
  unfold kas_descPart
  rw [krun_bind]
  have d := desc_ok S (nrem - (n + 1)) p (n + 1) 0 (by omega) (by omega) (by omega) h (fun i j a b c d => by
    have e1 : i = n := by omega
    have e2 : j = n := by omega
    subst e1; subst e2
    exact irr S _)
  dsimp only at d
  generalize krun lt (kas_desc (nrem - (n + 1)) p (n + 1) 0) = r at d ⊢
  obtain ⟨a1, a2, a3, a4, a5, a6, a7⟩ := d
  by_cases hq : r.2.2 > 0
  · rw [if_pos hq]
    obtain ⟨b1, b2, b3, b4, b5⟩ := tail_ok S (p := kas_rev r.1 (r.2.1 - (r.2.2 + 1)) r.2.1) (n := r.2.1) (nrem := nrem) (by omega) (by omega) (by rw [rev_size]; omega) (a6.turn S (by omega) (by omega) a7)
    exact ⟨b1.trans (rev_size.trans a1), b2.trans (rev_perm.trans a2), b3, b4, b5⟩
  · rw [if_neg hq]
    obtain ⟨b1, b2, b3, b4, b5⟩ := tail_ok S (p := r.1) (n := r.2.1) (nrem := nrem) (by omega) (by omega) (by omega) a6
    exact ⟨b1.trans a1, b2.trans a2, b3, b4, b5⟩
theorem count_ok (S : Swo lt) {p : Array Nat} {nrem : Nat} (h1 : 1 ≤ nrem) (hz : nrem ≤ p.size) : CountOk lt p nrem (krun lt (kas_count nrem p)) := by
  unfold kas_count
  rw [krun_bind]
  have h0 : Asc lt p 1 := fun i j a b => by
    have e1 : i = 0 := by omega
    have e2 : j = 0 := by omega
    subst e1; subst e2
    exact irr S _
  obtain ⟨a1, a2, a3, a4⟩ := asc_ok S p (nrem - 1) 1 (Nat.le_refl _) h0
  generalize krun lt (kas_asc p (nrem - 1) 1) = n at a1 a2 a3 a4 ⊢
  by_cases hn : (n == nrem) = true
  · rw [if_pos hn]
    have : n = nrem := by simpa using hn
    exact ⟨rfl, Array.Perm.refl _, a2, by show n ≤ nrem; omega, a1⟩
  · rw [if_neg hn]
    have hne : n ≠ nrem := by simpa using hn
    have hlt := a4 (by omega)
    by_cases hn1 : n > 1
    · rw [if_pos hn1]
      show CountOk lt p nrem (krun lt (if lt (ga p 0) (ga p (n - 1)) = true then KasT.ret (n, p) else kas_descPart n nrem (kas_rev p 0 n)))
      cases hc : lt (ga p 0) (ga p (n - 1)) with
      | true => rw [if_pos rfl]; exact ⟨rfl, Array.Perm.refl _, a2, by show n ≤ nrem; omega, a1⟩
      | false =>
        rw [if_neg Bool.false_ne_true]
        have hd := a1.rev (n := n) (by omega)
        have hs := Dsc.snoc S (p := kas_rev p 0 n) a2 hd (by
          have k1 : ga (kas_rev p 0 n) n = ga p n := by rw [ga_rev (by omega), if_neg (by omega)]
          have k2 : ga (kas_rev p 0 n) (n - 1) = ga p 0 := by rw [ga_rev (by omega), if_pos ⟨by omega, by omega⟩]; congr 1; omega
          rw [k1, k2]
          exact S.ntrans (ga p n) (ga p (n - 1)) (ga p 0) (S.asymm _ _ hlt) hc)
        obtain ⟨b1, b2, b3, b4, b5⟩ := descPart_ok S (p := kas_rev p 0 n) (n := n) (nrem := nrem) a2 (by omega) (by rw [rev_size]; omega) hs
        exact ⟨b1.trans rev_size, b2.trans rev_perm, b3, b4, b5⟩
    · rw [if_neg hn1]
      have e : n = 1 := by omega
      subst e
      exact descPart_ok S (Nat.le_refl _) (by omega) hz (Dsc.snoc S (Nat.le_refl _) (fun i j a b => by
        have e1 : i = 0 := by omega
        have e2 : j = 0 := by omega
        subst e1; subst e2
        exact irr S _) (S.asymm _ _ hlt))
theorem place_ok (S : Swo lt) {p : Array Nat} {k : Nat} (h : Asc lt p k) : ∀ f l r, l ≤ r → r ≤ k → r - l ≤ f → (∀ i, i < l → lt (ga p k) (ga p i) = false) → (∀ i, r ≤ i → i < k → lt (ga p k) (ga p i) = true) →
    let m := krun lt (kas_place p k f l r)
    m ≤ k ∧ (∀ i, i < m → lt (ga p k) (ga p i) = false) ∧ (∀ i, m ≤ i → i < k → lt (ga p k) (ga p i) = true)
  | 0, l, r, h1, h2, h3, hl, hr => by
    have : l = r := by omega
    subst this
    exact ⟨h2, hl, hr⟩
  | f + 1, l, r, h1, h2, h3, hl, hr => by
    by_cases hlr : l ≥ r
    · have e : krun lt (kas_place p k (f + 1) l r) = l := by
        unfold kas_place; rw [if_pos hlr]; rfl
      rw [e]
      have : l = r := by omega
      subst this
      exact ⟨h2, hl, hr⟩
    · have e : krun lt (kas_place p k (f + 1) l r) = krun lt (if lt (ga p k) (ga p ((l + r) / 2)) = true then kas_place p k f l ((l + r) / 2) else kas_place p k f ((l + r) / 2 + 1) r) := by
        conv => lhs; unfold kas_place
        rw [if_neg hlr]; rfl
      rw [e]
      cases hc : lt (ga p k) (ga p ((l + r) / 2)) with
      | true =>
        rw [if_pos rfl]
        refine place_ok S h f l ((l + r) / 2) (by omega) (by omega) (by omega) hl fun i hi hik => ?_
        cases hx : lt (ga p k) (ga p i) with
        | true => rfl
        | false =>
          have := S.ntrans (ga p ((l + r) / 2)) (ga p i) (ga p k) (h _ _ hi hik) hx
          rw [hc] at this; exact this.symm
      | false =>
        rw [if_neg Bool.false_ne_true]
        refine place_ok S h f ((l + r) / 2 + 1) r (by omega) h2 (by omega) (fun i hi => ?_) hr
        exact S.ntrans (ga p i) (ga p ((l + r) / 2)) (ga p k) (h _ _ (by omega) (by omega)) hc
theorem bin_ok (S : Swo lt) : ∀ f (p : Array Nat) k, k + f ≤ p.size → Asc lt p k → let r := krun lt (kas_bin f p k); r.size = p.size ∧ r.Perm p ∧ Asc lt r (k + f)
  | 0, p, k, _, h => ⟨rfl, Array.Perm.refl _, h⟩
  | f + 1, p, k, hz, h => by
    have e : krun lt (kas_bin (f + 1) p k) = krun lt (kas_bin f (bubble p k (k - krun lt (kas_place p k k 0 k))) (k + 1)) := by
      show krun lt ((kas_place p k k 0 k).bind fun l => kas_bin f (bubble p k (k - l)) (k + 1)) = _
      rw [krun_bind]
    rw [e]
    obtain ⟨m1, m2, m3⟩ := place_ok S h k 0 k (Nat.zero_le _) (Nat.le_refl _) (by omega) (fun i hi => absurd hi (by omega)) (fun i hi hik => absurd hi (by omega))
    generalize krun lt (kas_place p k k 0 k) = m at m1 m2 m3 ⊢
    have hb : ∀ i, ga (bubble p k (k - m)) i = if i = m then ga p k else if m < i ∧ i ≤ k then ga p (i - 1) else ga p i := fun i => by
      rw [ga_bubble (by omega) (by omega), show k - (k - m) = m by omega]
    have hs : Asc lt (bubble p k (k - m)) (k + 1) := by
      intro i j hij hj
      rw [hb, hb]
      by_cases hi : i = m
      · rw [if_pos hi]
        by_cases hjm : j = m
        · rw [if_pos hjm]; exact irr S _
        · rw [if_neg hjm, if_pos ⟨by omega, by omega⟩]
          exact S.asymm _ _ (m3 (j - 1) (by omega) (by omega))
      · rw [if_neg hi]
        by_cases hjm : j = m
        · rw [if_pos hjm, if_neg (by omega)]
          exact m2 i (by omega)
        · rw [if_neg hjm]
          by_cases hi2 : m < i
          · rw [if_pos (show m < i ∧ i ≤ k from ⟨hi2, by omega⟩), if_pos (show m < j ∧ j ≤ k from ⟨by omega, by omega⟩)]
            exact h _ _ (by omega) (by omega)
          · rw [if_neg (show ¬ (m < i ∧ i ≤ k) by omega)]
            by_cases hj2 : m < j
            · rw [if_pos (show m < j ∧ j ≤ k from ⟨hj2, by omega⟩)]
              exact h _ _ (by omega) (by omega)
            · rw [if_neg (show ¬ (m < j ∧ j ≤ k) by omega)]
              exact h _ _ hij (by omega)
    obtain ⟨a1, a2, a3⟩ := bin_ok S f (bubble p k (k - m)) (k + 1) (by rw [bubble_size]; omega) hs
    exact ⟨a1.trans (bubble_size _ _ _), a2.trans (bubble_perm _ _ _), by rw [show k + (f + 1) = k + 1 + f by omega]; exact a3⟩
theorem sort_ok (S : Swo lt) {n : Nat} (h1 : 1 ≤ n) : (krun lt (kas_sort n)).size = n ∧ (krun lt (kas_sort n)).Perm (List.toArray (List.range n)) ∧ Asc lt (krun lt (kas_sort n)) n := by
  unfold kas_sort
  rw [krun_bind]
  obtain ⟨a1, a2, a3, a4, a5⟩ := count_ok S (p := List.toArray (List.range n)) (nrem := n) h1 (by simp)
  generalize krun lt (kas_count n (List.toArray (List.range n))) = r at a1 a2 a3 a4 a5 ⊢
  have hsz : (List.toArray (List.range n)).size = n := by simp
  by_cases hr : r.1 < n
  · rw [if_pos hr]
    have em : max r.1 1 = r.1 := by omega
    rw [em]
    obtain ⟨b1, b2, b3⟩ := bin_ok S (n - r.1) r.2 r.1 (by omega) a5
    exact ⟨b1.trans (a1.trans hsz), b2.trans a2, by rw [show r.1 + (n - r.1) = n by omega] at b3; exact b3⟩
  · rw [if_neg hr]
    have e : r.1 = n := by omega
    rw [e] at a5
    exact ⟨a1.trans hsz, a2, a5⟩
def KIn {α : Type} (n : Nat) (post : α → Prop) : KasT α → Prop
  | .ret a => post a
  | .ask i j k => i < n ∧ j < n ∧ ∀ b, KIn n post (k b)
theorem KIn.bind {α β : Type} {n : Nat} {post : α → Prop} {post' : β → Prop} {f : α → KasT β} (hf : ∀ a, post a → KIn n post' (f a)) : ∀ (t : KasT α), KIn n post t → KIn n post' (t.bind f)
  | .ret a, h => hf a h
  | .ask i j k, h => ⟨h.1, h.2.1, fun b => KIn.bind hf (k b) (h.2.2 b)⟩
def Ent (n : Nat) (p : Array Nat) : Prop := ∀ x ∈ p.toList, x < n
theorem Ent.at {n : Nat} {p : Array Nat} (h0 : 0 < n) (h : Ent n p) (i : Nat) : ga p i < n := by
  rw [ga_q]
  cases e : p[i]? with
  | none => exact h0
  | some x =>
    rw [← Array.getElem?_toList] at e
    exact h x (List.mem_of_getElem? e)
theorem Ent.perm {n : Nat} {p r : Array Nat} (hp : r.Perm p) (h : Ent n p) : Ent n r := fun x hx => h x ((Array.perm_iff_toList_perm.mp hp).mem_iff.mp hx)
theorem asc_in {n : Nat} {p : Array Nat} (h0 : 0 < n) (h : Ent n p) : ∀ f k, KIn n (fun _ => True) (kas_asc p f k)
  | 0, _ => trivial
  | f + 1, k => ⟨h.at h0 _, h.at h0 _, fun b => by
    cases b with
    | true => exact trivial
    | false => exact asc_in h0 h f (k + 1)⟩
theorem desc_in {n : Nat} (h0 : 0 < n) : ∀ f (p : Array Nat) k q, Ent n p → KIn n (fun r => Ent n r.1) (kas_desc f p k q)
  | 0, p, k, q, h => h
  | f + 1, p, k, q, h => ⟨h.at h0 _, h.at h0 _, fun b => by
    cases b with
    | true =>
      show KIn n _ (if q > 0 then _ else _)
      by_cases hq : q > 0
      · rw [if_pos hq]; exact desc_in h0 f _ _ _ (h.perm rev_perm)
      · rw [if_neg hq]; exact desc_in h0 f _ _ _ h
    | false => exact ⟨h.at h0 _, h.at h0 _, fun d => by
        cases d with
        | true => exact h
        | false => exact desc_in h0 f _ _ _ h⟩⟩
theorem tail_in {n k m : Nat} {p : Array Nat} (h0 : 0 < n) (h : Ent n p) : KIn n (fun r => Ent n r.2) (kas_tail3 k m p) := by
  refine KIn.bind (post := fun _ => True) (fun r _ => ?_) _ (asc_in h0 (h.perm rev_perm) _ _)
  exact h.perm rev_perm
theorem descPart_in {n k m : Nat} {p : Array Nat} (h0 : 0 < n) (h : Ent n p) : KIn n (fun r => Ent n r.2) (kas_descPart k m p) := by
  refine KIn.bind (post := fun r => Ent n r.1) (fun r hr => ?_) _ (desc_in h0 _ _ _ _ h)
  by_cases hq : r.2.2 > 0
  · rw [if_pos hq]; exact tail_in h0 (hr.perm rev_perm)
  · rw [if_neg hq]; exact tail_in h0 hr
theorem count_in {n m : Nat} {p : Array Nat} (h0 : 0 < n) (h : Ent n p) : KIn n (fun r => Ent n r.2) (kas_count m p) := by
  refine KIn.bind (post := fun _ => True) (fun k _ => ?_) _ (asc_in h0 h _ _)
  by_cases hk : (k == m) = true
  · rw [if_pos hk]; exact h
  · rw [if_neg hk]
    by_cases h1 : k > 1
    · rw [if_pos h1]
      refine ⟨h.at h0 _, h.at h0 _, fun c => ?_⟩
      cases c with
      | true => exact h
      | false => exact descPart_in h0 (h.perm rev_perm)
    · rw [if_neg h1]; exact descPart_in h0 h
theorem place_in {n : Nat} {p : Array Nat} {k : Nat} (h0 : 0 < n) (h : Ent n p) : ∀ f l r, KIn n (fun _ => True) (kas_place p k f l r)
  | 0, _, _ => trivial
  | f + 1, l, r => by
    unfold kas_place
    by_cases hl : l ≥ r
    · rw [if_pos hl]; exact trivial
    · rw [if_neg hl]
      refine ⟨h.at h0 _, h.at h0 _, fun c => ?_⟩
      cases c with
      | true => exact place_in h0 h f _ _
      | false => exact place_in h0 h f _ _
theorem bin_in {n : Nat} (h0 : 0 < n) : ∀ f (p : Array Nat) k, Ent n p → KIn n (fun r => Ent n r) (kas_bin f p k)
  | 0, p, k, h => h
  | f + 1, p, k, h => KIn.bind (post := fun _ => True) (fun l _ => bin_in h0 f _ _ (h.perm (bubble_perm _ _ _))) _ (place_in h0 h _ _ _)
theorem sort_in {n : Nat} (h0 : 0 < n) : KIn n (fun _ => True) (kas_sort n) := by
  refine KIn.bind (post := fun r => Ent n r.2) (fun r hr => ?_) _ (count_in h0 (p := List.toArray (List.range n)) (fun x hx => by simpa using hx))
  by_cases h : r.1 < n
  · rw [if_pos h]
    have hb := bin_in h0 (n - max r.1 1) r.2 (max r.1 1) hr
    clear h
    generalize kas_bin (n - max r.1 1) r.2 (max r.1 1) = t at hb
    induction t with
    | ret a => exact trivial
    | ask i j k ih => exact ⟨hb.1, hb.2.1, fun b => ih b (hb.2.2 b)⟩
  · rw [if_neg h]; exact trivial
end
end My
namespace My
open PySem PySem.Spec PySem.W PyProof.Rows L2
def plt (a b : Int × Int) : Bool := if a.1 = b.1 then decide (a.2 < b.2) else decide (a.1 < b.1)
theorem plt_swo (cs : List (Int × Int)) : Swo fun i j => plt (cs.getD i (0, 0)) (cs.getD j (0, 0)) where
  asymm := fun a b h => by
    unfold plt at h ⊢
    generalize cs.getD a (0, 0) = A at *
    generalize cs.getD b (0, 0) = B at *
    split at h <;> split <;> simp at h ⊢ <;> omega
  ntrans := fun a b c h1 h2 => by
    unfold plt at h1 h2 ⊢
    generalize cs.getD a (0, 0) = A at *
    generalize cs.getD b (0, 0) = B at *
    generalize cs.getD c (0, 0) = C at *
    split at h1 <;> split at h2 <;> split <;> simp at h1 h2 ⊢ <;> omega
def PrV (h : Heap) (v : Value) (c : Int × Int) : Prop := ∃ (a : Addr) (o : Obj) (n : Nat) (t u : Tok), v = .ref a ∧ h.get? a = some o ∧ o.cls = .type "tuple" ∧ o.data = .seq #[.int c.1 t, .int c.2 u] n
theorem kwp {α : Type} {cmp : Nat → Nat → (Bool → Shared → Prop) → Shared → Prop} {lt : Nat → Nat → Bool} {n : Nat} {s : Shared} (hc : ∀ i j C, i < n → j < n → C (lt i j) s → cmp i j C s) {post : α → Prop} (Q : α → Shared → Prop) :
    ∀ t : KasT α, KIn n post t → Q (krun lt t) s → t.kasWp cmp Q s
  | .ret _, _, q => q
  | .ask i j k, h, q => hc i j _ h.1 h.2.1 (kwp hc Q (k (lt i j)) (h.2.2 _) q)
section
variable {prog : Program} {w : World} {A : Around} {E : Value → Shared → Prop} {s : Shared}
theorem pairs_lt {v v' : Value} {c d : Int × Int} {Q : Bool → Shared → Prop} (h1 : PrV s.heap v c) (h2 : PrV s.heap v' d) (q : Q (plt c d) s) : wpAny (model prog w) A (keyLt' (tuples' true) v v') Q E s := by
  obtain ⟨a, o, n, t, u, rfl, ho, _, hd⟩ := h1
  obtain ⟨a', o', n', t', u', rfl, ho', _, hd'⟩ := h2
  refine kat_lt ho hd ho' hd' ?_
  show KatLex prog w A true _ Q [(.int c.1 t, .int d.1 t'), (.int c.2 u, .int d.2 u')] 0 s
  refine kat_cons (wpAny_eqBool_int ?_)
  by_cases e : c.1 = d.1
  · rw [show (c.1 == d.1) = true by simpa using e]
    refine kat_yes (kat_cons (wpAny_eqBool_int ?_))
    by_cases e2 : c.2 = d.2
    · rw [show (c.2 == d.2) = true by simpa using e2]
      refine kat_yes (kat_nil ?_)
      have : plt c d = false := by unfold plt; rw [if_pos e, e2]; simp
      rw [this] at q
      exact q
    · rw [show (c.2 == d.2) = false by simpa using e2]
      refine kat_no ?_
      show wpAny (model prog w) A (oneLt' false _ _) Q _ s
      refine kat_one _ _ (lt_int ?_)
      have : plt c d = decide (c.2 < d.2) := by unfold plt; rw [if_pos e]
      rw [this] at q
      exact q
  · rw [show (c.1 == d.1) = false by simpa using e]
    refine kat_no ?_
    show wpAny (model prog w) A (oneLt' true _ _) Q _ s
    refine oneLt_int ?_
    have : plt c d = decide (c.1 < d.1) := by unfold plt; rw [if_neg e]
    rw [this] at q
    exact q
theorem prv_tups {h : Heap} : ∀ {vs : List Value} {cs : List (Int × Int)}, Paired (PrV h) vs cs → ∃ fs : List Value, KatTups h vs fs ∧ fs.length = vs.length ∧ ∀ f ∈ fs, ∃ i t, f = .int i t
  | _, _, .nil => ⟨[], trivial, rfl, fun f hf => absurd hf (by simp)⟩
  | _, _, .cons (a := v) (b := c) r t => by
    obtain ⟨fs, k, hl, hf⟩ := prv_tups t
    obtain ⟨a, o, n, tk, u, rfl, ho, hc, hd⟩ := r
    refine ⟨.int c.1 tk :: fs, KatTups.cons ho hc hd rfl k, by simp [hl], fun f hm => ?_⟩
    rcases List.mem_cons.mp hm with rfl | hm
    · exact ⟨_, _, rfl⟩
    · exact hf f hm
theorem paired_at {α β : Type} {F : α → β → Prop} {da : α} {db : β} : ∀ {l : List α} {m : List β}, Paired F l m → ∀ i, i < l.length → F (l.getD i da) (m.getD i db)
  | _, _, .nil, i, h => absurd h (by simp)
  | _, _, .cons r _, 0, _ => r
  | _ :: _, _ :: _, .cons _ t, i + 1, h => paired_at (da := da) (db := db) t i (by simpa using h)
theorem list_sort_pairs {a : Addr} {vs : List Value} {cs : List (Int × Int)} {n : Nat} {P : PySem.Fin → Shared → Prop} (ho : s.heap.get? a = some (seqObj "list" vs.toArray n)) (hv : Paired (PrV s.heap) vs cs) (h64 : vs.length < 64)
    (h : ∀ p : List Nat, p.Perm (List.range vs.length) → (∀ i j, i ≤ j → j < vs.length → plt (cs.getD (p.getD j 0) (0, 0)) (cs.getD (p.getD i 0) (0, 0)) = false) →
      P (.done (.ret .none)) { s with heap := sortedHeap s.heap a vs (p.map fun i => vs.getD i Value.none).toArray }) :
    wpAny (model prog w) A (Builtin.«list.sort» ⟨[.ref a], []⟩) P E s := by
  rw [list_sort_plain]
  have ha : a < s.heap.objs.size := Heap.lt_size ho
  refine wpAny_bind (listItems_at ho rfl ?_)
  refine wpAny_bind (listUpdate_at ho rfl ?_)
  obtain ⟨e1, ho1⟩ : ∃ e1, (s.heap.update a (Obj.mapSeq fun _ => #[])).get? a = some (seqObj "list" #[] e1) := ⟨_, get?_update_seq ho (fun _ => #[])⟩
  refine wpAny_bind (seqEpoch_at ho1 rfl ?_)
  refine wpAny_bind (wpAny_newTuple ?_)
  refine wpAny_bind (wpAny_newList ?_)
  refine wpAny_holding ?_
  have ho6 : (((s.heap.update a (Obj.mapSeq fun _ => #[])).push (seqObj "tuple" vs.toArray 0)).push (seqObj "list" #[] 0)).get? a = some (seqObj "list" #[] e1) := by
    rw [Heap.get?_push_ne _ _ _ (by rw [size_push', Heap.size_update]; exact Nat.ne_of_lt (Nat.lt_succ_of_lt ha)), Heap.get?_push_ne _ _ _ (by rw [Heap.size_update]; exact Nat.ne_of_lt ha)]
    exact ho1
  have keep : ∀ b u, b ≠ a → s.heap.get? b = some u → (((s.heap.update a (Obj.mapSeq fun _ => #[])).push (seqObj "tuple" vs.toArray 0)).push (seqObj "list" #[] 0)).get? b = some u := fun b u hb hu => by
    have hlt : b < s.heap.objs.size := Heap.lt_size hu
    rw [Heap.get?_push_ne _ _ _ (by rw [size_push', Heap.size_update]; exact Nat.ne_of_lt (Nat.lt_succ_of_lt hlt)), Heap.get?_push_ne _ _ _ (by rw [Heap.size_update]; exact Nat.ne_of_lt hlt), Heap.get?_update_ne _ _ _ _ hb]
    exact hu
  have hv6 : Paired (PrV (((s.heap.update a (Obj.mapSeq fun _ => #[])).push (seqObj "tuple" vs.toArray 0)).push (seqObj "list" #[] 0))) vs cs := Paired.imp' (fun v c hp => by
    obtain ⟨b, o, m, t, u, rfl, hb, hc, hd⟩ := hp
    refine ⟨b, o, m, t, u, rfl, keep b o (fun e => ?_) hb, hc, hd⟩
    subst e
    rw [ho] at hb
    cases hb
    injection hc with hc
    exact absurd hc (by decide)) hv
  show wpAny (model prog w) A _ P E { s with heap := ((s.heap.update a (Obj.mapSeq fun _ => #[])).push (seqObj "tuple" vs.toArray 0)).push (seqObj "list" #[] 0) }
  have hh : sortedHeap s.heap a vs = fun out => (((s.heap.update a (Obj.mapSeq fun _ => #[])).push (seqObj "tuple" vs.toArray 0)).push (seqObj "list" #[] 0)).update a (Obj.mapSeq fun _ => out) := rfl
  rw [hh] at h
  generalize ((s.heap.update a (Obj.mapSeq fun _ => #[])).push (seqObj "tuple" vs.toArray 0)).push (seqObj "list" #[] 0) = h6 at *
  dsimp only
  have hsz : vs.toArray.size = vs.length := by simp
  by_cases h2 : vs.toArray.size < 2
  · rw [if_pos h2, if_pos h2]
    refine wpAny_bind (wpAny_pure ?_)
    rw [StateT.run_pure]
    refine wpAny_bind (wpAny_pure ?_)
    dsimp only
    refine wpAny_bind (seqEpoch_at ho6 rfl ?_)
    refine wpAny_bind (listUpdate_at ho6 rfl ?_ (hsz2 := by rw [Array.size_map]; show (pairsOf vs).size ≤ _; rw [pairsOf_size, sizeLine_eq]; omega))
    simp only [bne_self_eq_false, Bool.false_eq_true, if_false]
    have q := h (List.range vs.length) (List.Perm.refl _) (fun i j hij hj => by
      have e1 : i = 0 := by omega
      have e2 : j = 0 := by omega
      subst e1; subst e2
      exact irr (plt_swo cs) _)
    have eo : (List.map (fun i => vs.getD i Value.none) (List.range vs.length)).toArray = Array.map (·.2) (vs.toArray.zip vs.toArray) := by
      have hz : vs.length < 2 := by omega
      clear q h hv6 hh hv ho h64 hsz h2
      match vs, hz with
      | [], _ => simp
      | [x], _ => simp [List.range_succ]
    rw [eo] at q
    exact wpAny_pure q
  · rw [if_neg h2, if_neg h2]
    have hn2 : 2 ≤ vs.length := by omega
    obtain ⟨fs, kt, hfl, hfi⟩ := prv_tups hv6
    refine wpAny_bind (kat_kind (s := { s with heap := h6 }) (T := .type "int") kt (by omega) (fun v hm => ?_) (by rfl) ?_)
    · obtain ⟨i, t, rfl⟩ := hfi v hm
      exact Looks.of_pure rfl
    have cmp : ∀ (i j : Nat) (C : Bool → Shared → Prop), i < vs.length → j < vs.length → C (plt (cs.getD i (0, 0)) (cs.getD j (0, 0))) { s with heap := h6 } → kas_ask prog w A (tuples' (Value.type "int" != Value.type "tuple")) vs i j C { s with heap := h6 } := fun i j C hi hj hC =>
      pairs_lt (s := { s with heap := h6 }) (paired_at hv6 i hi) (paired_at hv6 j hj) hC
    refine wpAny_bind (wpAny_mono (kat_run (ks := vs) (vs := vs) (Q := fun st' s' => ∃ p : Array Nat, p = krun (fun i j => plt (cs.getD i (0, 0)) (cs.getD j (0, 0))) (kas_sort vs.length) ∧ s' = { s with heap := h6 } ∧ arrOf st' = p.map (kas_item (vs.toArray.zip vs.toArray)) ∧ failedOf st' = none)
      (G := fun p s' => p = krun (fun i j => plt (cs.getD i (0, 0)) (cs.getD j (0, 0))) (kas_sort vs.length) ∧ s' = { s with heap := h6 }) rfl hn2 h64 (fun p' st' s' a1 a2 a3 a4 => ⟨p', a4.1, a4.2, a2, a3⟩) (kwp cmp _ _ (sort_in (by omega)) ⟨rfl, rfl⟩)) ?_ fun _ _ e => e)
    rintro ⟨⟨⟩, st'⟩ s' ⟨p, hp, rfl, har, hf⟩
    dsimp only
    obtain ⟨z1, z2, z3⟩ := sort_ok (plt_swo cs) (n := vs.length) (by omega)
    rw [← hp] at z1 z2 z3
    have hout := kat_snds (vs := vs) (ks := vs) rfl har
    have hsz2 : (List.toArray (p.toList.map fun i => vs.getD i Value.none)).size = vs.length := by rw [List.size_toArray, List.length_map, Array.length_toList, z1]
    rw [hout]
    refine wpAny_bind (seqEpoch_at ho6 rfl ?_)
    refine wpAny_bind (listUpdate_at ho6 rfl ?_ (hsz2 := by rw [hsz2, sizeLine_eq]; omega))
    rw [hf]
    simp only [bne_self_eq_false, Bool.false_eq_true, if_false]
    refine wpAny_pure (h p.toList ?_ fun i j hij hj => ?_)
    · have := Array.perm_iff_toList_perm.mp z2
      simpa using this
    · have e : ∀ k, p.toList.getD k 0 = ga p k := fun k => by rw [ga_q, List.getD_eq_getElem?_getD, Array.getElem?_toList]
      rw [e, e]
      exact z3 i j hij hj
theorem sorted_pairs {l : Addr} {vs : List Value} {cs : List (Int × Int)} {Q : Value → Shared → Prop} (hl : s.heap.IsList l vs.toArray) (hv : Paired (PrV s.heap) vs cs) (h64 : vs.length < 64)
    (h : ∀ p : List Nat, p.Perm (List.range vs.length) → (∀ i j, i ≤ j → j < vs.length → plt (cs.getD (p.getD j 0) (0, 0)) (cs.getD (p.getD i 0) (0, 0)) = false) →
      Q (.ref (s.heap.objs.size + 1)) { s with heap := sortedAll s.heap vs (p.map fun i => vs.getD i Value.none).toArray }) :
    wpAny (model prog w) A (call (.builtin "sorted") [.ref l]) Q E s := by
  refine Calls.call_function_entry kind_sorted plain_sorted entry_sorted (args_sorted1 _) ?_
  unfold Builtin.«sorted»
  refine wpAny_bind (m := checkCount "sorted" 1 1 _) (wpAny_pure ?_)
  refine wpAny_bind (collect_list hl ?_)
  refine wpAny_bind (wpAny_newList ?_)
  have hsz : ((s.heap.push (seqObj "list" #[] 0)).update s.heap.objs.size (Obj.mapSeq (· ++ vs.toArray))).objs.size = s.heap.objs.size + 1 := by
    rw [Heap.size_update, size_push']
  have hoL : (((s.heap.push (seqObj "list" #[] 0)).update s.heap.objs.size (Obj.mapSeq (· ++ vs.toArray))).push (seqObj "list" vs.toArray 0)).get? (s.heap.objs.size + 1) = some (seqObj "list" vs.toArray 0) := by
    rw [← hsz]; exact Heap.get?_push_size _ rfl
  have keep : ∀ b o, s.heap.get? b = some o → (((s.heap.push (seqObj "list" #[] 0)).update s.heap.objs.size (Obj.mapSeq (· ++ vs.toArray))).push (seqObj "list" vs.toArray 0)).get? b = some o := fun b o q => by
    have hlt : b < s.heap.objs.size := Heap.lt_size q
    rw [Heap.get?_push_ne _ _ _ (by rw [hsz]; exact Nat.ne_of_lt (Nat.lt_succ_of_lt hlt)), Heap.get?_update_ne _ _ _ _ (Nat.ne_of_lt hlt), Heap.get?_push_ne _ _ _ (Nat.ne_of_lt hlt)]
    exact q
  show wpAny _ _ _ _ _ { s with heap := ((s.heap.push (seqObj "list" #[] 0)).update s.heap.objs.size (Obj.mapSeq (· ++ vs.toArray))).push (seqObj "list" vs.toArray 0) }
  rw [hsz]
  refine wpAny_bind (wpAny_holding (wpAny_call_entry slot_list_sort ⟨_, hoL, rfl⟩ entry_list_sort (list_sort_pairs (s := { s with heap := ((s.heap.push (seqObj "list" #[] 0)).update s.heap.objs.size (Obj.mapSeq (· ++ vs.toArray))).push (seqObj "list" vs.toArray 0) }) hoL (Paired.imp' (fun v c hp => by
    obtain ⟨b, o, m, t, u, e, hb, hc, hd⟩ := hp
    exact ⟨b, o, m, t, u, e, keep b o hb, hc, hd⟩) hv) h64 fun p a1 a2 => ⟨_, rfl, ?_⟩) (args_list_sort _)))
  exact wpAny_pure ⟨_, rfl, h p a1 a2⟩
end
def rSortP (K : PySem.W.Frag) : List V → Hp → VK → Prop := fun xs H Q => ∃ (p : Addr) (ps : List Addr) (cs : List (Int × Int)), xs = [.ref p] ∧ SqL K H p (ps.map V.ref) ∧ PrsAt H ps cs ∧ cs.length < 64 ∧
  ∀ (l : Addr) (ps' : List Addr) (cs' : List (Int × Int)), H l = none → PrsAt H ps' cs' → cs'.Perm cs → cs'.Pairwise (fun a b => plt b a = false) → Q (.ref l) (upd H l (.lst (ps'.map V.ref)))
theorem vals_refs : ∀ {ps : List Addr} {its : List Value}, Vals (ps.map V.ref) its → its = ps.map Value.ref
  | [], _, h => by cases h; rfl
  | p :: ps, _, h => by
    cases h with
    | cons r t =>
      have := vals_refs t
      cases r
      rw [this]; rfl
theorem refs_vals : ∀ ps : List Addr, Vals (ps.map V.ref) (ps.map Value.ref)
  | [] => .nil
  | _ :: ps => .cons rfl (refs_vals ps)
theorem map_perm_range {α : Type} (l : List α) (d : α) {p : List Nat} (h : p.Perm (List.range l.length)) : (p.map fun i => l.getD i d).Perm l := by
  have := h.map fun i => l.getD i d
  refine this.trans ?_
  have e : (List.range l.length).map (fun i => l.getD i d) = l := by
    apply List.ext_getElem
    · simp
    · intro i h1 h2
      simp [List.getD_eq_getElem?_getD, List.getElem?_eq_getElem h2]
  rw [e]
theorem call_sortedP {X : Cx} {K : PySem.W.Frag} (hK : X.K = K) : CallR X (.builtin "sorted") (rSortP K) := fun pins s σ H xs us Q I r h => by
  subst hK
  obtain ⟨p, ps, cs, rfl, hS, hP, h64, q⟩ := h
  obtain ⟨u, rfl, ru⟩ := vals1 r
  cases ru
  obtain ⟨its, rv, pl, hz⟩ := I.list hS
  have ei := vals_refs rv
  subst ei
  have hlen := hP.length
  have prv : ∀ {ps : List Addr} {cs : List (Int × Int)}, PrsAt H ps cs → Paired (PrV s.heap) (ps.map Value.ref) cs := by
    intro ps cs hP
    induction hP with
    | nil => exact .nil
    | cons r t ih =>
      refine .cons ?_ ih
      obtain ⟨its2, r2, pl2, _⟩ := I.tuple (SqT.of r)
      obtain ⟨o, ho, hc, n, hd⟩ := pl2
      cases r2 with | cons x1 r2 => cases r2 with | cons x2 r2 =>
      cases r2
      obtain ⟨t1, rfl⟩ := x1
      obtain ⟨t2, rfl⟩ := x2
      exact ⟨_, o, n, t1, t2, rfl, ho, hc, hd⟩
  refine sorted_pairs pl.isList (prv hP) (by rw [List.length_map]; omega) fun pm hpm hso => ?_
  rw [List.length_map] at hpm hso
  have eo : (pm.map fun i => (ps.map Value.ref).getD i Value.none) = (pm.map fun i => ps.getD i 0).map Value.ref := by
    rw [List.map_map]
    apply List.map_congr_left
    intro i hi
    have hi' : i < ps.length := by simpa using hpm.mem_iff.mp hi
    simp [List.getD_eq_getElem?_getD, List.getElem?_eq_getElem hi']
  rw [eo]
  have hPl : (pm.map fun i => ps.getD i 0).length = ps.length := by rw [List.length_map, hpm.length_eq, List.length_range]
  obtain ⟨e, he⟩ := sortedAll_at s.heap (ps.map Value.ref) ((pm.map fun i => ps.getD i 0).map Value.ref).toArray
  have hPr : PrsAt H (pm.map fun i => ps.getD i 0) (pm.map fun i => cs.getD i (0, 0)) := by
    have hb : ∀ i ∈ pm, i < ps.length := fun i hi => by simpa using hpm.mem_iff.mp hi
    clear eo hPl he hpm hso
    induction pm with
    | nil => exact .nil
    | cons i pm ih => exact .cons (paired_at hP i (hb i (by simp))) (ih fun j hj => hb j (by simp [hj]))
  refine ⟨.ref (s.heap.objs.size + 1), _, I.laid (t' := s.toks) (a := s.heap.objs.size + 1) (o := .lst ((pm.map fun i => ps.getD i 0).map V.ref)) (fun b o q => sortedAll_old q) (Nat.le_succ _) ⟨by rw [List.length_map, hPl]; have := hz; rw [List.length_map] at this; exact this, _, e, refs_vals _, he⟩, rfl, q _ _ _ (I.hok.fresh (Nat.le_succ _)) hPr ?_ ?_⟩
  · rw [hlen] at hpm
    exact map_perm_range cs (0, 0) hpm
  · rw [List.pairwise_map, List.pairwise_iff_getElem]
    intro i j hi hj hij
    have := hso i j (Nat.le_of_lt hij) (by rw [← List.length_range (n := ps.length), ← hpm.length_eq]; exact hj)
    simpa [List.getD_eq_getElem?_getD, List.getElem?_eq_getElem hi, List.getElem?_eq_getElem hj] using this
end My
namespace My
open PySem PySem.Spec PyProof.Rows L2
section
variable {K : PySem.W.Frag} {H : Hp}
end
theorem PrsAt.append {H : Hp} : ∀ {ps qs : List Addr} {cs ds : List (Int × Int)}, PrsAt H ps cs → PrsAt H qs ds → PrsAt H (ps ++ qs) (cs ++ ds)
  | _, _, _, _, .nil, h => h
  | _, _, _, _, .cons r t, h => .cons r (PrsAt.append t h)
def rCatTT (K : PySem.W.Frag) : R2 := fun x y H Q => ∃ a b xs ys, x = .ref a ∧ y = .ref b ∧ SqT K H a xs ∧ SqT K H b ys ∧ xs.length + ys.length ≤ sizeLine ∧ (xs = [] → Q (.ref b) H) ∧ (xs ≠ [] → ys = [] → Q (.ref a) H) ∧ (xs ≠ [] → ys ≠ [] → ∀ p, H p = none → Q (.ref p) (upd H p (.tup (xs ++ ys))))
theorem op_catT2 {X : Cx} {K : PySem.W.Frag} (hK : X.K = K) : OpR X (binaryOp .Add) (rCatTT K) := by
  subst hK
  intro pins s σ H x y v u Q I rx ry h
  obtain ⟨a, b, xs, ys, rfl, rfl, ha, hb, hz, q0, q1, q2⟩ := h
  by_cases hx : xs = []
  · subst hx
    cases rx
    cases ry
    obtain ⟨its, r1, p1, _⟩ := I.tuple ha
    obtain ⟨its2, r2, p2, _⟩ := I.tuple hb
    cases r1
    obtain ⟨⟨cls, dd, data, sl⟩, ho, hc, n, hd⟩ := id p1
    obtain ⟨⟨cls2, dd2, data2, sl2⟩, ho2, hc2, n2, hd2⟩ := id p2
    simp only at hc hd hc2 hd2
    subst hc hd hc2 hd2
    exact concat_meets ⟨_, ho, rfl⟩ ⟨_, ho2, rfl⟩ noFill_tuple_add seq_tuple_add PySem.F.slot_tuple_add PySem.F.entry_tuple_add (PySem.F.args_tuple_add_2 _ _)
      (tuple_addW0 a b _ its2.toArray n n2 dd dd2 sl sl2 (by simp)) ⟨ho, ho2, ⟨.ref b, H, I, rfl, q0 rfl⟩⟩
  · exact op_catT pins s σ H _ _ v u Q I rx ry ⟨a, b, xs, ys, rfl, rfl, ha, hb, hx, hz, q1 hx, q2 hx⟩
end My
namespace Dp
open PySem
inductive D where
  | non | bl (b : Bool) | int (i : Int) | str (x : Str) | tup (xs : List D) | ref (n : Nat) | ty (n : String) | rl (xs : List D)
  deriving Inhabited
inductive Cell where
  | lst (xs : List D) | ins (c : Str) (fs : List (Str × D))
  deriving Inhabited
abbrev Sto := List Cell
abbrev Rho := List (Option D)
abbrev DK := D → Sto → Prop
abbrev DE := Rho → Sto → DK → Prop
abbrev DT := Rho → Sto → (Bool → Sto → Prop) → Prop
abbrev DA := Rho → Sto → (List D → Sto → Prop) → Prop
abbrev DG := D → Rho → Sto → (Rho → Sto → Prop) → Prop
abbrev DGs := List D → Rho → Sto → (Rho → Sto → Prop) → Prop
structure DEnds where
  nx : Rho → Sto → Prop
  rt : DK
  bk : Rho → Sto → Prop := fun _ _ => False
  ct : Rho → Sto → Prop := fun _ _ => False
abbrev DS := DEnds → Rho → Sto → Prop
structure DIt where
  items : List D
  ok : Sto → Prop
abbrev DI := Rho → Sto → (DIt → Sto → Prop) → Prop
abbrev DSp := List D → Sto → DK → Prop
def big : Nat := 1000000
def fl : Nat → D → Bool
  | _, .ref _ => false
  | _, .ty _ => false
  | _, .rl _ => false
  | 0, .tup _ => false
  | k + 1, .tup xs => xs.all (fl k)
  | _, .non => true
  | _, .bl _ => true
  | _, .int _ => true
  | _, .str x => x.cps.all (· < 0x110000)
mutual
def eqv : D → D → Bool
  | .non, .non => true
  | .bl a, .bl b => a == b
  | .bl a, .int j => (if a then 1 else 0) == j
  | .int i, .bl b => i == (if b then 1 else 0)
  | .int i, .int j => decide (i = j)
  | .str x, .str y => x == y
  | .tup xs, .tup ys => eqvAll xs ys
  | _, _ => false
def eqvAll : List D → List D → Bool
  | [], [] => true
  | x :: xs, y :: ys => eqv x y && eqvAll xs ys
  | _, _ => false
end
def Lst (S : Sto) (x : D) (xs : List D) : Prop := x = .rl xs ∨ ∃ n, x = .ref n ∧ S[n]? = some (.lst xs)
def Seqs (S : Sto) (x : D) (xs : List D) : Prop := x = .tup xs ∨ Lst S x xs
def ixD (n : Nat) (k : Int) : Option Nat := if 0 ≤ k then (if k < n then some k.toNat else none) else if -(n : Int) ≤ k then some (k + n).toNat else none
def atD (xs : List D) (k : Int) : Option D := (ixD xs.length k).bind fun j => xs[j]?
def slD (n : Nat) (d : Nat) : Option Int → Nat
  | none => d
  | some k => if k < 0 then (k + n).toNat else min k.toNat n
def cutD {α : Type} (xs : List α) (lo hi : Option Int) : List α := (xs.drop (slD xs.length 0 lo)).take (slD xs.length xs.length hi - slD xs.length 0 lo)
def dVar (i : Nat) : DE := fun ρ S Q => ∃ d, ρ[i]? = some (some d) ∧ Q d S
def dC (d : D) : DE := fun _ S Q => Q d S
abbrev DR2 := D → D → Sto → DK → Prop
def dOp (r : DR2) (ta tb : DE) : DE := fun ρ S Q => ta ρ S fun x S1 => tb ρ S1 fun y S2 => r x y S2 Q
def dUn (r : D → Sto → DK → Prop) (ta : DE) : DE := fun ρ S Q => ta ρ S fun x S1 => r x S1 Q
def dNil : DA := fun _ S Q => Q [] S
def dCons (ta : DE) (tr : DA) : DA := fun ρ S Q => ta ρ S fun x S1 => tr ρ S1 fun xs S2 => Q (x :: xs) S2
def dTup (t : DA) : DE := fun ρ S Q => t ρ S fun xs S1 => xs.length ≤ big ∧ Q (.tup xs) S1
def dLst (t : DA) : DE := fun ρ S Q => t ρ S fun xs S1 => xs.length ≤ big ∧ Q (.ref S1.length) (S1 ++ [.lst xs])
def dCall (f : DSp) (t : DA) : DE := fun ρ S Q => t ρ S fun xs S1 => f xs S1 Q
abbrev DB := List D → Sto → DK → Prop
def dB (r : DB) (t : DA) : DE := fun ρ S Q => t ρ S fun xs S1 => r xs S1 Q
def dT (t : DE) : DT := fun ρ S Q => t ρ S fun x S1 => ∃ b, x = .bl b ∧ Q b S1
def dAnd (t u : DT) : DT := fun ρ S Q => t ρ S fun c S1 => if c = true then u ρ S1 Q else Q false S1
def dOr (t u : DT) : DT := fun ρ S Q => t ρ S fun c S1 => if c = true then Q true S1 else u ρ S1 Q
def dNot (t : DT) : DT := fun ρ S Q => t ρ S fun c S1 => Q (!c) S1
def dAndV (t u : DE) : DE := fun ρ S Q => t ρ S fun x S1 => ∃ c, x = .bl c ∧ if c = true then u ρ S1 Q else Q (.bl false) S1
def dOrV (t u : DE) : DE := fun ρ S Q => t ρ S fun x S1 => ∃ c, x = .bl c ∧ if c = true then Q (.bl true) S1 else u ρ S1 Q
def dNotV (t : DE) : DE := fun ρ S Q => t ρ S fun x S1 => ∃ c, x = .bl c ∧ Q (.bl (!c)) S1
def dIfE (c : DT) (ta tb : DE) : DE := fun ρ S Q => c ρ S fun b S1 => if b = true then ta ρ S1 Q else tb ρ S1 Q
def dChain (r r' : DR2) (ta tb tc : DE) : DE := fun ρ S Q => ta ρ S fun x S1 => tb ρ S1 fun y S2 => r x y S2 fun z S3 => ∃ c, z = .bl c ∧ if c = true then tc ρ S3 fun w S4 => r' y w S4 Q else Q (.bl false) S3
def dOpt : Option DE → Rho → Sto → (Option Int → Sto → Prop) → Prop
  | none => fun _ S Q => Q none S
  | some t => fun ρ S Q => t ρ S fun x S1 => ∃ i, x = .int i ∧ Q (some i) S1
def dSl (r : D → Option Int → Option Int → Sto → DK → Prop) (ta : DE) (lo hi : Option DE) : DE := fun ρ S Q => ta ρ S fun x S1 => dOpt lo ρ S1 fun l S2 => dOpt hi ρ S2 fun h S3 => r x l h S3 Q
def dFld (f : Str) (ta : DE) : DE := fun ρ S Q => ta ρ S fun x S1 => ∃ n c fs d, x = .ref n ∧ S1[n]? = some (.ins c fs) ∧ fs.lookup f = some d ∧ Q d S1
def putD (f : Str) (v : D) : List (Str × D) → List (Str × D)
  | [] => [(f, v)]
  | (g, x) :: r => if g = f then (g, v) :: r else (g, x) :: putD f v r
abbrev DM := D → List D → Sto → DK → Prop
def dM (r : DM) (ta : DE) (t : DA) : DE := fun ρ S Q => ta ρ S fun x S1 => (∃ n ys, x = .ref n ∧ S1[n]? = some (.lst ys)) ∧ t ρ S1 fun xs S2 => r x xs S2 Q
def oI (C : Int → Int → Prop) (g : Int → Int → D) : DR2 := fun x y S Q => ∃ i j, x = .int i ∧ y = .int j ∧ C i j ∧ Q (g i j) S
def oI0 (g : Int → Int → D) : DR2 := fun x y S Q => ∃ i j, x = .int i ∧ y = .int j ∧ Q (g i j) S
def oU (g : Int → D) : D → Sto → DK → Prop := fun x S Q => ∃ i, x = .int i ∧ Q (g i) S
def CMulD (i j : Int) : Prop := (My.Bd 8000 i ∧ My.Bd 8000 j) ∨ i.natAbs < 2 ^ 64 ∨ j.natAbs < 2 ^ 64
def CDivD (_ j : Int) : Prop := j ≠ 0 ∧ My.Bd 8000 j
def CModD (_ j : Int) : Prop := j ≠ 0
def CPowD (i j : Int) : Prop := 0 ≤ j ∧ j ≤ 1000000 ∧ i.natAbs < 2 ^ 64
def oAdd : DR2 := fun x y S Q => (∃ i j, x = .int i ∧ y = .int j ∧ Q (.int (i + j)) S) ∨ (∃ xs ys, x = .tup xs ∧ y = .tup ys ∧ xs.length + ys.length ≤ big ∧ Q (.tup (xs ++ ys)) S) ∨
  (∃ xs ys, Lst S x xs ∧ Lst S y ys ∧ xs.length + ys.length ≤ big ∧ Q (.ref S.length) (S ++ [.lst (xs ++ ys)]))
def oSub : DR2 := oI0 fun i j => .int (i - j)
def oMul : DR2 := oI CMulD fun i j => .int (i * j)
def oDiv : DR2 := oI CDivD fun i j => .int (i.fdiv j)
def oMod : DR2 := oI CModD fun i j => .int (i.fmod j)
def oPow : DR2 := oI CPowD fun i j => .int (i ^ j.toNat)
def oNeg : D → Sto → DK → Prop := oU fun i => .int (-i)
def oLt : DR2 := oI0 fun i j => .bl (decide (i < j))
def oLe : DR2 := oI0 fun i j => .bl (decide (i ≤ j))
def oGt : DR2 := oI0 fun i j => .bl (decide (j < i))
def oGe : DR2 := oI0 fun i j => .bl (decide (j ≤ i))
def EqD (S : Sto) (x y : D) (b : Bool) : Prop := (fl 20 x = true ∧ fl 20 y = true ∧ b = eqv x y) ∨ (∃ xs ys, Lst S x xs ∧ Lst S y ys ∧ xs.all (fl 20) = true ∧ ys.all (fl 20) = true ∧ b = eqvAll xs ys)
def oEq : DR2 := fun x y S Q => ∃ b, EqD S x y b ∧ Q (.bl b) S
def oNe : DR2 := fun x y S Q => ∃ b, EqD S x y b ∧ Q (.bl (!b)) S
def isNon : D → Bool
  | .non => true
  | _ => false
def oIs : DR2 := fun x y S Q => (y = .non ∧ Q (.bl (isNon x)) S) ∨ (∃ a b, x = .bl a ∧ y = .bl b ∧ Q (.bl (a == b)) S)
def oIsN : DR2 := fun x y S Q => (y = .non ∧ Q (.bl (!isNon x)) S) ∨ (∃ a b, x = .bl a ∧ y = .bl b ∧ Q (.bl (!(a == b))) S)
def oIx : DR2 := fun x y S Q => ∃ i xs d, y = .int i ∧ Seqs S x xs ∧ atD xs i = some d ∧ Q d S
def sCut : D → Option Int → Option Int → Sto → DK → Prop := fun x lo hi S Q => (∃ xs, x = .tup xs ∧ Q (.tup (cutD xs lo hi)) S) ∨ (∃ xs, Lst S x xs ∧ Q (.ref S.length) (S ++ [.lst (cutD xs lo hi)]))
def stepD {α : Type} (st : Nat) (xs : List α) : List α := (List.range ((xs.length + st - 1) / st)).filterMap fun k => xs[k * st]?
def sStep (st : Nat) : D → Option Int → Option Int → Sto → DK → Prop := fun x lo hi S Q => ∃ xs, Lst S x xs ∧ Q (.ref S.length) (S ++ [.lst (stepD st (cutD xs lo hi))])
def bLen : DB := fun vs S Q => ∃ x xs, vs = [x] ∧ Seqs S x xs ∧ Q (.int xs.length) S
def bAbs : DB := fun vs S Q => ∃ i, vs = [.int i] ∧ Q (.int (i.natAbs : Int)) S
def bMax2 : DB := fun vs S Q => ∃ i j, vs = [.int i, .int j] ∧ Q (.int (max i j)) S
def bMin2 : DB := fun vs S Q => ∃ i j, vs = [.int i, .int j] ∧ Q (.int (min i j)) S
def bMaxD : DB := fun vs S Q => ∃ x ns, vs = [x] ∧ Lst S x (List.map D.int ns) ∧ (ns = [] → Q .non S) ∧ ∀ m : Int, m ∈ ns → (∀ a ∈ ns, a ≤ m) → Q (.int m) S
def bMinD : DB := fun vs S Q => ∃ x ns, vs = [x] ∧ Lst S x (List.map D.int ns) ∧ (ns = [] → Q .non S) ∧ ∀ m : Int, m ∈ ns → (∀ a ∈ ns, m ≤ a) → Q (.int m) S
def bSum : DB := fun vs S Q => ∃ x ns, vs = [x] ∧ Lst S x (List.map D.int ns) ∧ Q (.int ns.sum) S
def bAny : DB := fun vs S Q => ∃ x bs, vs = [x] ∧ Lst S x (List.map D.bl bs) ∧ Q (.bl (bs.any id)) S
def bTuple : DB := fun vs S Q => ∃ x xs, vs = [x] ∧ Seqs S x xs ∧ Q (.tup xs) S
def bList : DB := fun vs S Q => ∃ x xs, vs = [x] ∧ Seqs S x xs ∧ Q (.ref S.length) (S ++ [.lst xs])
def bInt : DB := fun vs S Q => (∃ i, vs = [.int i] ∧ Q (.int i) S) ∨ ∃ b, vs = [.bl b] ∧ Q (.int (if b then 1 else 0)) S
def bBool : DB := fun vs S Q => (∃ i : Int, vs = [.int i] ∧ Q (.bl (i != 0)) S) ∨ ∃ b, vs = [.bl b] ∧ Q (.bl b) S
def isTy (t : String) : Bool := t == "int" || t == "bool" || t == "tuple" || t == "list" || t == "str"
def isiD (S : Sto) (t : String) (d : D) : Option Bool := if (!isTy t) = true then none else match d with
  | .non => some false
  | .bl _ => some (t == "bool" || t == "int")
  | .int _ => some (t == "int")
  | .str _ => some (t == "str")
  | .tup _ => some (t == "tuple")
  | .ref n => match S[n]? with
    | some (.lst _) => some (t == "list")
    | _ => none
  | .ty _ => none
  | .rl _ => none
def bIsi : DB := fun vs S Q => ∃ x t b, vs = [x, .ty t] ∧ isiD S t x = some b ∧ Q (.bl b) S
abbrev p2 (c : Int × Int) : D := .tup [.int c.1, .int c.2]
def plt2 (a b : Int × Int) : Bool := decide (a.1 < b.1 ∨ (a.1 = b.1 ∧ a.2 < b.2))
def bSort2 : DB := fun vs S Q => ∃ x cs, vs = [x] ∧ Lst S x (List.map p2 cs) ∧ cs.length < 64 ∧ ∀ ss : List (Int × Int), ss.Perm cs → ss.Pairwise (fun a b => plt2 b a = false) → Q (.ref S.length) (S ++ [.lst (ss.map p2)])
def bSortI : DB := fun vs S Q => ∃ x ns, vs = [x] ∧ Lst S x (List.map D.int ns) ∧ ns.length < 64 ∧ ∀ ss : List Int, ss.Perm ns → ss.Pairwise (fun a b => a ≤ b) → Q (.ref S.length) (S ++ [.lst (ss.map D.int)])
def bSort : DB := fun vs S Q => bSort2 vs S Q ∨ bSortI vs S Q
def mAppend : DM := fun x vs S Q => ∃ n xs y, x = .ref n ∧ vs = [y] ∧ S[n]? = some (.lst xs) ∧ xs.length < big ∧ Q .non (S.set n (.lst (xs ++ [y])))
def gName (i : Nat) : DG := fun d ρ S Q => Q (ρ.set i (some d)) S
def gNil : DGs := fun ds ρ S Q => ds = [] ∧ Q ρ S
def gCons (t : DG) (u : DGs) : DGs := fun ds ρ S Q => ∃ d r, ds = d :: r ∧ t d ρ S fun ρ' S' => u r ρ' S' Q
def gTup (n : Nat) (t : DGs) : DG := fun d ρ S Q => ∃ xs, d = .tup xs ∧ xs.length = n ∧ t xs ρ S Q
def gSub (to ti : DE) : DG := fun d ρ S Q => to ρ S fun o S1 => ti ρ S1 fun i S2 => ∃ n xs k j, o = .ref n ∧ i = .int k ∧ S2[n]? = some (.lst xs) ∧ ixD xs.length k = some j ∧ Q ρ (S2.set n (.lst (xs.set j d)))
def sSeq (t u : DS) : DS := fun E ρ S => t { E with nx := u E } ρ S
def sNext : DS := fun E ρ S => E.nx ρ S
def sRet (t : DE) : DS := fun E ρ S => t ρ S E.rt
def sDrop (t : DE) : DS := fun E ρ S => t ρ S fun _ S1 => E.nx ρ S1
def sAsg (t : DE) (g : DG) : DS := fun E ρ S => t ρ S fun x S1 => g x ρ S1 E.nx
def sIf (c : DT) (t u : DS) : DS := fun E ρ S => c ρ S fun b S1 => if b = true then t E ρ S1 else u E ρ S1
def sFldS (c f : Str) (to tv : DE) : DS := fun E ρ S => tv ρ S fun y S1 => to ρ S1 fun x S2 => ∃ n fs, x = .ref n ∧ S2[n]? = some (.ins c fs) ∧ fs.length < 100 ∧ E.nx ρ (S2.set n (.ins c (putD f y fs)))
def sAug (i : Nat) (t : DE) : DS := fun E ρ S => ∃ a, ρ[i]? = some (some (.int a)) ∧ t ρ S fun y S1 => ∃ b, y = .int b ∧ E.nx (ρ.set i (some (.int (a + b)))) S1
def sFor (wi : DI) (g : DG) (t : DS) : DS := fun E ρ S => wi ρ S fun J S1 => ∃ W : Nat → Rho → Sto → Prop, W 0 ρ S1 ∧ (∀ i ρ S, W i ρ S → J.ok S) ∧
  (∀ i d ρ S, J.items[i]? = some d → W i ρ S → g d ρ S fun ρ2 S2 => t { E with nx := W (i + 1), ct := W (i + 1), bk := E.nx } ρ2 S2) ∧ ∀ ρ S, W J.items.length ρ S → E.nx ρ S
def SeqIt (x : D) (S1 : Sto) (R : DIt → Sto → Prop) : Prop := (∃ xs, x = .tup xs ∧ R ⟨xs, fun _ => True⟩ S1) ∨ (∃ xs, Lst S1 x xs ∧ R ⟨xs, fun S => Lst S x xs⟩ S1)
def iSeq (t : DE) : DI := fun ρ S R => t ρ S fun x S1 => SeqIt x S1 R
def upto (lo : Int) (n : Nat) : List D := (List.range n).map fun k : Nat => D.int (lo + (k : Int))
def iRng1 (t : DA) : DI := fun ρ S R => t ρ S fun vs S1 => ∃ j : Int, vs = [.int j] ∧ -(2 ^ 62) ≤ j ∧ j < 2 ^ 62 ∧ R ⟨upto 0 j.toNat, fun _ => True⟩ S1
def iRng2 (t : DA) : DI := fun ρ S R => t ρ S fun vs S1 => ∃ i j : Int, vs = [.int i, .int j] ∧ R ⟨upto i (j - i).toNat, fun _ => True⟩ S1
def steps (lo st : Int) (n : Nat) : List D := (List.range n).map fun k : Nat => D.int (lo + (k : Int) * st)
def iRng3 (t : DA) : DI := fun ρ S R => t ρ S fun vs S1 => ∃ i j c : Int, vs = [.int i, .int j, .int c] ∧ (-(2 ^ 30) ≤ i ∧ i < 2 ^ 30 ∧ -(2 ^ 30) ≤ j ∧ j < 2 ^ 30 ∧ 0 < c ∧ c < 2 ^ 30) ∧ R ⟨steps i c (if i < j then (j - i - 1) / c + 1 else 0).toNat, fun _ => True⟩ S1
def enumD : Nat → List D → List D
  | _, [] => []
  | k, x :: xs => .tup [.int (k : Nat), x] :: enumD (k + 1) xs
def zipD : List D → List D → List D
  | x :: xs, y :: ys => .tup [x, y] :: zipD xs ys
  | _, _ => []
def bLZip : DB := fun vs S Q => ∃ x y xs ys, vs = [x, y] ∧ Lst S x xs ∧ Lst S y ys ∧ Q (.ref S.length) (S ++ [.lst (zipD xs ys)])
def EnumGo (R : DIt → Sto → Prop) (vs : List D) (S1 : Sto) : Prop := (∃ x xs, vs = [x] ∧ Lst S1 x xs ∧ R ⟨enumD 0 xs, fun S => Lst S x xs⟩ S1) ∨ (∃ xs, vs = [.tup xs] ∧ R ⟨enumD 0 xs, fun _ => True⟩ S1)
def iEnum (t : DA) : DI := fun ρ S R => t ρ S (EnumGo R)
def ZipGo (R : DIt → Sto → Prop) (vs : List D) (S1 : Sto) : Prop := (∃ x y xs ys, vs = [x, y] ∧ Lst S1 x xs ∧ Lst S1 y ys ∧ R ⟨zipD xs ys, fun S => Lst S x xs ∧ Lst S y ys⟩ S1) ∨ (∃ xs ys, vs = [.tup xs, .tup ys] ∧ R ⟨zipD xs ys, fun _ => True⟩ S1)
def iZip (t : DA) : DI := fun ρ S R => t ρ S (ZipGo R)
def RevGo (R : DIt → Sto → Prop) (vs : List D) (S1 : Sto) : Prop := (∃ x xs, vs = [x] ∧ Lst S1 x xs ∧ R ⟨xs.reverse, fun S => Lst S x xs⟩ S1) ∨ (∃ xs, vs = [.tup xs] ∧ R ⟨xs.reverse, fun _ => True⟩ S1)
def iRev (t : DA) : DI := fun ρ S R => t ρ S (RevGo R)
def cstD (own : Nat) (fv : List Nat) (ρ : Rho) : Rho := List.replicate own none ++ fv.map fun j => (ρ[j]?).join
def dTrue : DT := fun _ S Q => Q true S
def dLC (own : Nat) (fv : List Nat) (wi : DI) (g : DG) (tc : DT) (te : DE) : DE := fun ρ S Q => wi ρ S fun J S1 => J.items.length ≤ big ∧ ∃ W : Nat → List D → Sto → Prop, W 0 [] S1 ∧ (∀ i ys S, W i ys S → J.ok S) ∧
  (∀ i d ys S, J.items[i]? = some d → W i ys S → g d (cstD own fv ρ) S fun ρ2 S2 => tc ρ2 S2 fun b S3 => if b = true then te ρ2 S3 fun y S4 => W (i + 1) (ys ++ [y]) S4 else W (i + 1) ys S3) ∧
  ∀ ys S, W J.items.length ys S → Q (.ref S.length) (S ++ [.lst ys])
def fc : Cell → Bool
  | .lst xs => xs.all (fl 20)
  | .ins _ _ => false
def Fin (S : Sto) (Q : DK) : DK := fun d S' => Q d S' ∨ ∃ S1, S1 <+: S' ∧ S.length ≤ S1.length ∧ (fl 20 d = true ∨ ∃ n, d = .ref n ∧ n < S1.length) ∧ (∀ (n : Nat) c, S1[n]? = some c → S[n]? = some c ∨ fc c = true) ∧ Q d S1
def startD (n : Nat) (ds : List D) : Rho := ds.map some ++ List.replicate (n - ds.length) none
def BodyOk (n : Nat) (b : DS) (f : DSp) : Prop := ∀ ds S Q, f ds S Q → b ⟨fun _ S' => Fin S Q .non S', Fin S Q, fun _ _ => False, fun _ _ => False⟩ (startD n ds) S
end Dp
namespace Dp
open PySem
def New (Q : DK) (S : Sto) (xs : List D) : Prop := Q (.ref S.length) (S ++ [.lst xs])
def Put (Q : Sto → Prop) (S : Sto) (n : Nat) (c : Cell) : Prop := Q (S.set n c)
def LcGo (own : Nat) (fv : List Nat) (g : DG) (tc : DT) (te : DE) (ρ : Rho) (Q : DK) (J : DIt) (S : Sto) : Prop := J.items.length ≤ big ∧ ∃ W : Nat → List D → Sto → Prop, W 0 [] S ∧ (∀ i ys S, W i ys S → J.ok S) ∧
  (∀ i d ys S, J.items[i]? = some d → W i ys S → g d (cstD own fv ρ) S fun ρ2 S2 => tc ρ2 S2 fun b S3 => if b = true then te ρ2 S3 fun y S4 => W (i + 1) (ys ++ [y]) S4 else W (i + 1) ys S3) ∧
  ∀ ys S, W J.items.length ys S → New Q S ys
def SubGo (d : D) (ρ : Rho) (Q : Rho → Sto → Prop) (o i : D) (S2 : Sto) : Prop := ∃ n xs k j, o = .ref n ∧ i = .int k ∧ S2[n]? = some (.lst xs) ∧ ixD xs.length k = some j ∧ Q ρ (S2.set n (.lst (xs.set j d)))
def ForGo (nx : Rho → Sto → Prop) (rt : DK) (g : DG) (t : DS) (ρ : Rho) (J : DIt) (S : Sto) : Prop := ∃ W : Nat → Rho → Sto → Prop, W 0 ρ S ∧ (∀ i ρ S, W i ρ S → J.ok S) ∧
  (∀ i d ρ S, J.items[i]? = some d → W i ρ S → g d ρ S fun ρ2 S2 => t ⟨W (i + 1), rt, nx, W (i + 1)⟩ ρ2 S2) ∧ ∀ ρ S, W J.items.length ρ S → nx ρ S
def TurnD (W : Nat → Rho → Sto → Prop) (m : Nat) (t : DS) (rt : DK) (nx : Rho → Sto → Prop) (ρ : Rho) (S : Sto) : Prop := ∃ N : Rho → Sto → Prop, (∀ ρ' S', N ρ' S' → ∃ m', m' < m ∧ W m' ρ' S') ∧ t ⟨N, rt, nx, N⟩ ρ S
theorem for_by {nx : Rho → Sto → Prop} {rt : DK} {g : DG} {t : DS} {ρ : Rho} {xs : List D} {ok : Sto → Prop} {S : Sto} (W : Nat → Rho → Sto → Prop) (h0 : W 0 ρ S) (hok : ∀ i ρ S, W i ρ S → ok S)
    (step : ∀ i d ρ S, xs[i]? = some d → W i ρ S → g d ρ S fun ρ2 S2 => t ⟨W (i + 1), rt, nx, W (i + 1)⟩ ρ2 S2) (fin : ∀ ρ S, W xs.length ρ S → nx ρ S) : ForGo nx rt g t ρ ⟨xs, ok⟩ S := ⟨W, h0, hok, step, fin⟩
theorem new_0 {S : Sto} {Q : DK} {xs : List D} (h : Q (.ref S.length) (S ++ [.lst xs])) : New Q S xs := h
theorem new_A {S T : Sto} {Q : DK} {xs : List D} (h : Q (.ref (S.length + T.length)) (S ++ (T ++ [.lst xs]))) : New Q (S ++ T) xs := by
  unfold New; rw [List.length_append, List.append_assoc]; exact h
section
variable {S : Sto} {Q : DK} {xs : List D} {a b c d e f : Cell}
theorem new_1 (h : Q (.ref (S.length + 1)) (S ++ [a, .lst xs])) : New Q (S ++ [a]) xs := new_A h
theorem new_2 (h : Q (.ref (S.length + 2)) (S ++ [a, b, .lst xs])) : New Q (S ++ [a, b]) xs := new_A h
theorem new_3 (h : Q (.ref (S.length + 3)) (S ++ [a, b, c, .lst xs])) : New Q (S ++ [a, b, c]) xs := new_A h
theorem new_4 (h : Q (.ref (S.length + 4)) (S ++ [a, b, c, d, .lst xs])) : New Q (S ++ [a, b, c, d]) xs := new_A h
theorem new_5 (h : Q (.ref (S.length + 5)) (S ++ [a, b, c, d, e, .lst xs])) : New Q (S ++ [a, b, c, d, e]) xs := new_A h
end
theorem put_A0 {S : Sto} {a : Cell} {T : Sto} {Q : Sto → Prop} {c : Cell} (h : Q (S ++ c :: T)) : Put Q (S ++ a :: T) S.length c := by
  unfold Put; rw [List.set_append_right _ _ (Nat.le_refl _), Nat.sub_self]; exact h
theorem put_A1 {S : Sto} {a : Cell} {G T : Sto} {Q : Sto → Prop} {c : Cell} (h : Q (S ++ c :: (G ++ T))) : Put Q (S ++ (a :: G ++ T)) S.length c := put_A0 h
theorem put_A2 {S : Sto} {a : Cell} {G T U : Sto} {Q : Sto → Prop} {c : Cell} (h : Q (S ++ c :: (G ++ T ++ U))) : Put Q (S ++ (a :: G ++ T ++ U)) S.length c := put_A0 h
theorem put_A3 {S : Sto} {a : Cell} {G T U V : Sto} {Q : Sto → Prop} {c : Cell} (h : Q (S ++ c :: (G ++ T ++ U ++ V))) : Put Q (S ++ (a :: G ++ T ++ U ++ V)) S.length c := put_A0 h
theorem put_0 {S : Sto} {Q : Sto → Prop} {n : Nat} {c : Cell} (h : Q (S.set n c)) : Put Q S n c := h
theorem put_A {S T : Sto} {Q : Sto → Prop} {k : Nat} {c : Cell} (h : Q (S ++ T.set k c)) : Put Q (S ++ T) (S.length + k) c := by
  unfold Put; rw [List.set_append_right _ _ (Nat.le_add_right _ _), Nat.add_sub_cancel_left]; exact h
section
variable {nx : Rho → Sto → Prop} {rt : DK} {bk ct : Rho → Sto → Prop} {ρ : Rho} {S : Sto}
theorem r_seq {t u : DS} (h : t ⟨u ⟨nx, rt, bk, ct⟩, rt, bk, ct⟩ ρ S) : sSeq t u ⟨nx, rt, bk, ct⟩ ρ S := h
theorem r_next (h : nx ρ S) : sNext ⟨nx, rt, bk, ct⟩ ρ S := h
theorem r_ret {t : DE} (h : t ρ S rt) : sRet t ⟨nx, rt, bk, ct⟩ ρ S := h
theorem r_drop {t : DE} (h : t ρ S fun _ S1 => nx ρ S1) : sDrop t ⟨nx, rt, bk, ct⟩ ρ S := h
theorem r_asg {t : DE} {g : DG} (h : t ρ S fun x S1 => g x ρ S1 nx) : sAsg t g ⟨nx, rt, bk, ct⟩ ρ S := h
theorem r_if {c : DT} {t u : DS} (h : c ρ S fun b S1 => if b = true then t ⟨nx, rt, bk, ct⟩ ρ S1 else u ⟨nx, rt, bk, ct⟩ ρ S1) : sIf c t u ⟨nx, rt, bk, ct⟩ ρ S := h
theorem r_fldS {c f : Str} {to tv : DE} (h : tv ρ S fun y S1 => to ρ S1 fun x S2 => ∃ n fs, x = .ref n ∧ S2[n]? = some (.ins c fs) ∧ fs.length < 100 ∧ nx ρ (S2.set n (.ins c (putD f y fs)))) : sFldS c f to tv ⟨nx, rt, bk, ct⟩ ρ S := h
theorem r_aug {i : Nat} {t : DE} {a : Int} (e : ρ[i]? = some (some (.int a))) (h : t ρ S fun y S1 => ∃ b, y = .int b ∧ nx (ρ.set i (some (.int (a + b)))) S1) : sAug i t ⟨nx, rt, bk, ct⟩ ρ S := ⟨a, e, h⟩
theorem r_for {wi : DI} {g : DG} {t : DS} (h : wi ρ S fun J S1 => ForGo nx rt g t ρ J S1) : sFor wi g t ⟨nx, rt, bk, ct⟩ ρ S := h
theorem r_turn {t : DS} {W : Nat → Rho → Sto → Prop} {m : Nat} (h : t ⟨fun ρ' S' => ∃ m', m' < m ∧ W m' ρ' S', rt, nx, fun ρ' S' => ∃ m', m' < m ∧ W m' ρ' S'⟩ ρ S) : TurnD W m t rt nx ρ S := ⟨_, fun _ _ z => z, h⟩
theorem r_gname {i : Nat} {d : D} {Q : Rho → Sto → Prop} (h : Q (ρ.set i (some d)) S) : gName i d ρ S Q := h
theorem r_gnil {Q : Rho → Sto → Prop} (h : Q ρ S) : gNil [] ρ S Q := ⟨rfl, h⟩
theorem r_gcons {t : DG} {u : DGs} {d : D} {r : List D} {Q : Rho → Sto → Prop} (h : t d ρ S fun ρ' S' => u r ρ' S' Q) : gCons t u (d :: r) ρ S Q := ⟨d, r, rfl, h⟩
theorem r_gtup {n : Nat} {t : DGs} {xs : List D} {Q : Rho → Sto → Prop} (e : xs.length = n) (h : t xs ρ S Q) : gTup n t (.tup xs) ρ S Q := ⟨xs, rfl, e, h⟩
theorem r_gsub {to ti : DE} {d : D} {Q : Rho → Sto → Prop} (h : to ρ S fun o S1 => ti ρ S1 fun i S2 => SubGo d ρ Q o i S2) : gSub to ti d ρ S Q := h
theorem r_var {i : Nat} {d : D} {Q : DK} (h : ρ[i]? = some (some d)) (q : Q d S) : dVar i ρ S Q := ⟨d, h, q⟩
theorem r_c {d : D} {Q : DK} (q : Q d S) : dC d ρ S Q := q
theorem r_op {r : DR2} {ta tb : DE} {Q : DK} (h : ta ρ S fun x S1 => tb ρ S1 fun y S2 => r x y S2 Q) : dOp r ta tb ρ S Q := h
theorem r_un {r : D → Sto → DK → Prop} {ta : DE} {Q : DK} (h : ta ρ S fun x S1 => r x S1 Q) : dUn r ta ρ S Q := h
theorem r_nil {Q : List D → Sto → Prop} (h : Q [] S) : dNil ρ S Q := h
theorem r_cons {ta : DE} {tr : DA} {Q : List D → Sto → Prop} (h : ta ρ S fun x S1 => tr ρ S1 fun xs S2 => Q (x :: xs) S2) : dCons ta tr ρ S Q := h
theorem r_tup {t : DA} {Q : DK} (h : t ρ S fun xs S1 => xs.length ≤ big ∧ Q (.tup xs) S1) : dTup t ρ S Q := h
theorem r_lst {t : DA} {Q : DK} (h : t ρ S fun xs S1 => xs.length ≤ big ∧ New Q S1 xs) : dLst t ρ S Q := h
theorem r_few {xs : List D} {P : Prop} (h : Nat.ble xs.length big = true) (q : P) : xs.length ≤ big ∧ P := ⟨Nat.le_of_ble_eq_true h, q⟩
theorem r_call {f : DSp} {t : DA} {Q : DK} (h : t ρ S fun xs S1 => f xs S1 Q) : dCall f t ρ S Q := h
theorem r_b {r : DB} {t : DA} {Q : DK} (h : t ρ S fun xs S1 => r xs S1 Q) : dB r t ρ S Q := h
theorem r_m {r : DM} {ta : DE} {t : DA} {Q : DK} (h : ta ρ S fun x S1 => (∃ n ys, x = .ref n ∧ S1[n]? = some (.lst ys)) ∧ t ρ S1 fun xs S2 => r x xs S2 Q) : dM r ta t ρ S Q := h
theorem r_isl {n : Nat} {ys : List D} {P : Prop} (h : S[n]? = some (.lst ys)) (q : P) : (∃ m ys, D.ref n = .ref m ∧ S[m]? = some (.lst ys)) ∧ P := ⟨⟨n, ys, rfl, h⟩, q⟩
theorem r_t {t : DE} {Q : Bool → Sto → Prop} (h : t ρ S fun x S1 => ∃ b, x = .bl b ∧ Q b S1) : dT t ρ S Q := h
theorem r_bl {c : Bool} {P : Bool → Prop} (h : P c) : ∃ b, D.bl c = D.bl b ∧ P b := ⟨c, rfl, h⟩
theorem r_int {c : Int} {P : Int → Prop} (h : P c) : ∃ b, D.int c = D.int b ∧ P b := ⟨c, rfl, h⟩
theorem r_and {t u : DT} {Q : Bool → Sto → Prop} (h : t ρ S fun c S1 => if c = true then u ρ S1 Q else Q false S1) : dAnd t u ρ S Q := h
theorem r_or {t u : DT} {Q : Bool → Sto → Prop} (h : t ρ S fun c S1 => if c = true then Q true S1 else u ρ S1 Q) : dOr t u ρ S Q := h
theorem r_not {t : DT} {Q : Bool → Sto → Prop} (h : t ρ S fun c S1 => Q (!c) S1) : dNot t ρ S Q := h
theorem r_andV {t u : DE} {Q : DK} (h : t ρ S fun x S1 => ∃ c, x = .bl c ∧ if c = true then u ρ S1 Q else Q (.bl false) S1) : dAndV t u ρ S Q := h
theorem r_orV {t u : DE} {Q : DK} (h : t ρ S fun x S1 => ∃ c, x = .bl c ∧ if c = true then Q (.bl true) S1 else u ρ S1 Q) : dOrV t u ρ S Q := h
theorem r_notV {t : DE} {Q : DK} (h : t ρ S fun x S1 => ∃ c, x = .bl c ∧ Q (.bl (!c)) S1) : dNotV t ρ S Q := h
theorem r_ifE {c : DT} {ta tb : DE} {Q : DK} (h : c ρ S fun b S1 => if b = true then ta ρ S1 Q else tb ρ S1 Q) : dIfE c ta tb ρ S Q := h
theorem r_chain {r r' : DR2} {ta tb tc : DE} {Q : DK} (h : ta ρ S fun x S1 => tb ρ S1 fun y S2 => r x y S2 fun z S3 => ∃ c, z = .bl c ∧ if c = true then tc ρ S3 fun w S4 => r' y w S4 Q else Q (.bl false) S3) : dChain r r' ta tb tc ρ S Q := h
theorem r_fld {f : Str} {ta : DE} {Q : DK} (h : ta ρ S fun x S1 => ∃ n c fs d, x = .ref n ∧ S1[n]? = some (.ins c fs) ∧ fs.lookup f = some d ∧ Q d S1) : dFld f ta ρ S Q := h
theorem r_sl {r : D → Option Int → Option Int → Sto → DK → Prop} {ta : DE} {lo hi : Option DE} {Q : DK} (h : ta ρ S fun x S1 => dOpt lo ρ S1 fun l S2 => dOpt hi ρ S2 fun h S3 => r x l h S3 Q) : dSl r ta lo hi ρ S Q := h
theorem r_opt0 {Q : Option Int → Sto → Prop} (h : Q none S) : dOpt none ρ S Q := h
theorem r_opt1 {t : DE} {Q : Option Int → Sto → Prop} (h : t ρ S fun x S1 => ∃ i, x = .int i ∧ Q (some i) S1) : dOpt (some t) ρ S Q := h
theorem r_true {Q : Bool → Sto → Prop} (h : Q true S) : dTrue ρ S Q := h
end
section
variable {S : Sto} {Q : DK}
theorem o_add {i j : Int} (q : Q (.int (i + j)) S) : oAdd (.int i) (.int j) S Q := .inl ⟨i, j, rfl, rfl, q⟩
theorem o_addT {xs ys : List D} (h : xs.length + ys.length ≤ big) (q : Q (.tup (xs ++ ys)) S) : oAdd (.tup xs) (.tup ys) S Q := .inr (.inl ⟨xs, ys, rfl, rfl, h, q⟩)
theorem o_addL {x y : D} {xs ys : List D} (hx : Lst S x xs) (hy : Lst S y ys) (h : xs.length + ys.length ≤ big) (q : New Q S (xs ++ ys)) : oAdd x y S Q := .inr (.inr ⟨xs, ys, hx, hy, h, q⟩)
theorem o_sub {i j : Int} (q : Q (.int (i - j)) S) : oSub (.int i) (.int j) S Q := ⟨i, j, rfl, rfl, q⟩
theorem o_mul {i j : Int} (c : CMulD i j) (q : Q (.int (i * j)) S) : oMul (.int i) (.int j) S Q := ⟨i, j, rfl, rfl, c, q⟩
theorem o_div {i j : Int} (c : 0 < j ∧ My.Bd 8000 j) (q : Q (.int (i / j)) S) : oDiv (.int i) (.int j) S Q := ⟨i, j, rfl, rfl, ⟨by omega, c.2⟩, by show Q (.int (i.fdiv j)) S; rw [Int.fdiv_eq_ediv_of_nonneg i (by omega)]; exact q⟩
theorem o_mod {i j : Int} (c : 0 < j) (q : Q (.int (i % j)) S) : oMod (.int i) (.int j) S Q := ⟨i, j, rfl, rfl, (by show j ≠ 0; omega), by show Q (.int (i.fmod j)) S; rw [Int.fmod_eq_emod_of_nonneg i (by omega)]; exact q⟩
theorem o_pow {i j : Int} (c : CPowD i j) (q : Q (.int (i ^ j.toNat)) S) : oPow (.int i) (.int j) S Q := ⟨i, j, rfl, rfl, c, q⟩
theorem o_neg {i : Int} (q : Q (.int (-i)) S) : oNeg (.int i) S Q := ⟨i, rfl, q⟩
theorem o_lt {i j : Int} (q : Q (.bl (decide (i < j))) S) : oLt (.int i) (.int j) S Q := ⟨i, j, rfl, rfl, q⟩
theorem o_le {i j : Int} (q : Q (.bl (decide (i ≤ j))) S) : oLe (.int i) (.int j) S Q := ⟨i, j, rfl, rfl, q⟩
theorem o_gt {i j : Int} (q : Q (.bl (decide (j < i))) S) : oGt (.int i) (.int j) S Q := ⟨i, j, rfl, rfl, q⟩
theorem o_ge {i j : Int} (q : Q (.bl (decide (j ≤ i))) S) : oGe (.int i) (.int j) S Q := ⟨i, j, rfl, rfl, q⟩
theorem o_eqI {i j : Int} (q : Q (.bl (decide (i = j))) S) : oEq (.int i) (.int j) S Q := ⟨_, .inl ⟨rfl, rfl, rfl⟩, q⟩
theorem o_neI {i j : Int} (q : Q (.bl (!decide (i = j))) S) : oNe (.int i) (.int j) S Q := ⟨_, .inl ⟨rfl, rfl, rfl⟩, q⟩
theorem o_eqB {i j : Bool} (q : Q (.bl (i == j)) S) : oEq (.bl i) (.bl j) S Q := ⟨_, .inl ⟨rfl, rfl, rfl⟩, q⟩
theorem o_neB {i j : Bool} (q : Q (.bl (!(i == j))) S) : oNe (.bl i) (.bl j) S Q := ⟨_, .inl ⟨rfl, rfl, rfl⟩, q⟩
theorem o_is {x : D} (q : Q (.bl (isNon x)) S) : oIs x .non S Q := .inl ⟨rfl, q⟩
theorem o_is0 (q : Q (.bl true) S) : oIs .non .non S Q := .inl ⟨rfl, q⟩
theorem o_is1 {i : Int} (q : Q (.bl false) S) : oIs (.int i) .non S Q := .inl ⟨rfl, q⟩
theorem o_is2 {xs : List D} (q : Q (.bl false) S) : oIs (.tup xs) .non S Q := .inl ⟨rfl, q⟩
theorem o_is3 {n : Nat} (q : Q (.bl false) S) : oIs (.ref n) .non S Q := .inl ⟨rfl, q⟩
theorem o_isn0 (q : Q (.bl false) S) : oIsN .non .non S Q := .inl ⟨rfl, q⟩
theorem o_isn1 {i : Int} (q : Q (.bl true) S) : oIsN (.int i) .non S Q := .inl ⟨rfl, q⟩
theorem o_isn2 {xs : List D} (q : Q (.bl true) S) : oIsN (.tup xs) .non S Q := .inl ⟨rfl, q⟩
theorem o_isn3 {n : Nat} (q : Q (.bl true) S) : oIsN (.ref n) .non S Q := .inl ⟨rfl, q⟩
theorem o_isTT (q : Q (.bl true) S) : oIs (.bl true) (.bl true) S Q := .inr ⟨_, _, rfl, rfl, q⟩
theorem o_isnTT (q : Q (.bl false) S) : oIsN (.bl true) (.bl true) S Q := .inr ⟨_, _, rfl, rfl, q⟩
theorem o_isB {a b : Bool} (q : Q (.bl (a == b)) S) : oIs (.bl a) (.bl b) S Q := .inr ⟨a, b, rfl, rfl, q⟩
theorem o_isn {x : D} (q : Q (.bl (!isNon x)) S) : oIsN x .non S Q := .inl ⟨rfl, q⟩
theorem o_isnB {a b : Bool} (q : Q (.bl (!(a == b))) S) : oIsN (.bl a) (.bl b) S Q := .inr ⟨a, b, rfl, rfl, q⟩
theorem o_ixT {xs : List D} {i : Int} {d : D} (e : atD xs i = some d) (q : Q d S) : oIx (.tup xs) (.int i) S Q := ⟨i, xs, d, rfl, .inl rfl, e, q⟩
theorem o_ixL {x : D} {xs : List D} {i : Int} {d : D} (h : Lst S x xs) (e : atD xs i = some d) (q : Q d S) : oIx x (.int i) S Q := ⟨i, xs, d, rfl, .inr h, e, q⟩
theorem o_cutT {xs : List D} {lo hi : Option Int} (q : Q (.tup (cutD xs lo hi)) S) : sCut (.tup xs) lo hi S Q := .inl ⟨xs, rfl, q⟩
theorem o_cutL {x : D} {xs : List D} {lo hi : Option Int} (h : Lst S x xs) (q : New Q S (cutD xs lo hi)) : sCut x lo hi S Q := .inr ⟨xs, h, q⟩
theorem b_lenT {xs : List D} (q : Q (.int xs.length) S) : bLen [.tup xs] S Q := ⟨_, xs, rfl, .inl rfl, q⟩
theorem b_lenL {x : D} {xs : List D} (h : Lst S x xs) (q : Q (.int xs.length) S) : bLen [x] S Q := ⟨_, xs, rfl, .inr h, q⟩
theorem b_abs {i : Int} (q : Q (.int (i.natAbs : Int)) S) : bAbs [.int i] S Q := ⟨i, rfl, q⟩
theorem b_max2 {i j : Int} (q : Q (.int (max i j)) S) : bMax2 [.int i, .int j] S Q := ⟨i, j, rfl, q⟩
theorem b_min2 {i j : Int} (q : Q (.int (min i j)) S) : bMin2 [.int i, .int j] S Q := ⟨i, j, rfl, q⟩
theorem b_maxD {x : D} {ns : List Int} (h : Lst S x (ns.map D.int)) (q0 : ns = [] → Q .non S) (q : ∀ m : Int, m ∈ ns → (∀ a ∈ ns, a ≤ m) → Q (.int m) S) : bMaxD [x] S Q := ⟨x, ns, rfl, h, q0, q⟩
theorem b_minD {x : D} {ns : List Int} (h : Lst S x (ns.map D.int)) (q0 : ns = [] → Q .non S) (q : ∀ m : Int, m ∈ ns → (∀ a ∈ ns, m ≤ a) → Q (.int m) S) : bMinD [x] S Q := ⟨x, ns, rfl, h, q0, q⟩
theorem b_sum {x : D} {ns : List Int} (h : Lst S x (ns.map D.int)) (q : Q (.int ns.sum) S) : bSum [x] S Q := ⟨x, ns, rfl, h, q⟩
theorem b_any {x : D} {bs : List Bool} (h : Lst S x (bs.map D.bl)) (q : Q (.bl (bs.any id)) S) : bAny [x] S Q := ⟨x, bs, rfl, h, q⟩
theorem b_tupleL {x : D} {xs : List D} (h : Lst S x xs) (q : Q (.tup xs) S) : bTuple [x] S Q := ⟨_, xs, rfl, .inr h, q⟩
theorem b_tupleT {xs : List D} (q : Q (.tup xs) S) : bTuple [.tup xs] S Q := ⟨_, xs, rfl, .inl rfl, q⟩
theorem b_listL {x : D} {xs : List D} (h : Lst S x xs) (q : New Q S xs) : bList [x] S Q := ⟨_, xs, rfl, .inr h, q⟩
theorem b_listT {xs : List D} (q : New Q S xs) : bList [.tup xs] S Q := ⟨_, xs, rfl, .inl rfl, q⟩
theorem b_intI {i : Int} (q : Q (.int i) S) : bInt [.int i] S Q := .inl ⟨i, rfl, q⟩
theorem b_intB {b : Bool} (q : Q (.int (if b then 1 else 0)) S) : bInt [.bl b] S Q := .inr ⟨b, rfl, q⟩
theorem b_boolI {i : Int} (q : Q (.bl (i != 0)) S) : bBool [.int i] S Q := .inl ⟨i, rfl, q⟩
theorem b_boolB {b : Bool} (q : Q (.bl b) S) : bBool [.bl b] S Q := .inr ⟨b, rfl, q⟩
theorem b_sortP {x : D} {cs : List (Int × Int)} (h : Lst S x (cs.map p2)) (hl : cs.length < 64) (q : ∀ ss : List (Int × Int), ss.Perm cs → ss.Pairwise (fun a b => plt2 b a = false) → New Q S (ss.map p2)) : bSort [x] S Q := .inl ⟨x, cs, rfl, h, hl, q⟩
theorem m_append {n : Nat} {xs : List D} {y : D} (h : S[n]? = some (.lst xs)) (hl : xs.length < big) (q : Put (Q .non) S n (.lst (xs ++ [y]))) : mAppend (.ref n) [y] S Q := ⟨n, xs, y, rfl, rfl, h, hl, q⟩
theorem g_sub {n : Nat} {xs : List D} {k : Int} {j : Nat} {d : D} {ρ : Rho} {Q : Rho → Sto → Prop} (h : S[n]? = some (.lst xs)) (e : ixD xs.length k = some j) (q : Put (Q ρ) S n (.lst (xs.set j d))) : SubGo d ρ Q (.ref n) (.int k) S := ⟨n, xs, k, j, rfl, rfl, h, e, q⟩
end
section
variable {ρ : Rho} {S : Sto} {R : DIt → Sto → Prop}
theorem r_iseq {t : DE} (h : t ρ S fun x S1 => SeqIt x S1 R) : iSeq t ρ S R := h
theorem i_tup {xs : List D} (q : R ⟨xs, fun _ => True⟩ S) : SeqIt (.tup xs) S R := .inl ⟨xs, rfl, q⟩
theorem i_lst {x : D} {xs : List D} (h : Lst S x xs) (q : R ⟨xs, fun S => Lst S x xs⟩ S) : SeqIt x S R := .inr ⟨xs, h, q⟩
theorem r_rng1 {t : DA} (h : t ρ S fun vs S1 => ∃ j : Int, vs = [.int j] ∧ -(2 ^ 62) ≤ j ∧ j < 2 ^ 62 ∧ R ⟨upto 0 j.toNat, fun _ => True⟩ S1) : iRng1 t ρ S R := h
theorem r_rng3 {ρ : Rho} {t : DA} {R : DIt → Sto → Prop} (h : t ρ S fun vs S1 => ∃ i j c : Int, vs = [.int i, .int j, .int c] ∧ (-(2 ^ 30) ≤ i ∧ i < 2 ^ 30 ∧ -(2 ^ 30) ≤ j ∧ j < 2 ^ 30 ∧ 0 < c ∧ c < 2 ^ 30) ∧ R ⟨steps i c (if i < j then (j - i - 1) / c + 1 else 0).toNat, fun _ => True⟩ S1) : iRng3 t ρ S R := h
theorem r_rng2 {t : DA} (h : t ρ S fun vs S1 => ∃ i j : Int, vs = [.int i, .int j] ∧ R ⟨upto i (j - i).toNat, fun _ => True⟩ S1) : iRng2 t ρ S R := h
theorem r_enum {t : DA} (h : t ρ S (EnumGo R)) : iEnum t ρ S R := h
theorem en_T {xs : List D} (q : R ⟨enumD 0 xs, fun _ => True⟩ S) : EnumGo R [.tup xs] S := .inr ⟨xs, rfl, q⟩
theorem b_lzip {Q : DK} {x y : D} {xs ys : List D} (hx : Lst S x xs) (hy : Lst S y ys) (q : New Q S (zipD xs ys)) : bLZip [x, y] S Q := ⟨x, y, xs, ys, rfl, hx, hy, q⟩
theorem r_zip {t : DA} (h : t ρ S (ZipGo R)) : iZip t ρ S R := h
theorem zi_T {xs ys : List D} (q : R ⟨zipD xs ys, fun _ => True⟩ S) : ZipGo R [.tup xs, .tup ys] S := .inr ⟨xs, ys, rfl, q⟩
theorem r_rev {t : DA} (h : t ρ S (RevGo R)) : iRev t ρ S R := h
theorem rev_T {xs : List D} (q : R ⟨xs.reverse, fun _ => True⟩ S) : RevGo R [.tup xs] S := .inr ⟨xs, rfl, q⟩
theorem r_lc {own : Nat} {fv : List Nat} {wi : DI} {g : DG} {tc : DT} {te : DE} {Q : DK} (h : wi ρ S fun J S1 => LcGo own fv g tc te ρ Q J S1) : dLC own fv wi g tc te ρ S Q := h
end
theorem iteF {A B : Prop} (h : B) : if false = true then A else B := by rw [if_neg Bool.false_ne_true]; exact h
theorem iteT {A B : Prop} (h : A) : if true = true then A else B := by rw [if_pos rfl]; exact h
theorem r_d {c A B : Prop} [Decidable c] (h1 : c → A) (h2 : ¬ c → B) : if decide c = true then A else B := by
  by_cases h : c
  · rw [decide_eq_true h, if_pos rfl]; exact h1 h
  · rw [decide_eq_false h, if_neg Bool.false_ne_true]; exact h2 h
theorem r_ntrue {P : Bool → Prop} (h : P false) : P (!true) := h
theorem r_nfalse {P : Bool → Prop} (h : P true) : P (!false) := h
theorem sto_at (S T : Sto) (k : Nat) : (S ++ T)[S.length + k]? = T[k]? := by
  rw [List.getElem?_append_right (Nat.le_add_right _ _), Nat.add_sub_cancel_left]
theorem sto_at0 (S T : Sto) : (S ++ T)[S.length]? = T[0]? := sto_at S T 0
theorem sto_h0 {S T : Sto} {c : Cell} : (S ++ c :: T)[S.length]? = some c := (sto_at S (c :: T) 0).trans rfl
theorem sto_new {S T : Sto} {c : Cell} : (S ++ (T ++ [c]))[S.length + T.length]? = some c := by rw [sto_at, List.getElem?_append_right (Nat.le_refl _), Nat.sub_self]; rfl
theorem sto_old {S T : Sto} {n : Nat} {c : Cell} (h : S[n]? = some c) : (S ++ T)[n]? = some c := by
  have : n < S.length := by
    rcases Nat.lt_or_ge n S.length with g | g
    · exact g
    · rw [List.getElem?_eq_none g] at h; cases h
  rw [List.getElem?_append_left this]; exact h
theorem Lst.old {S T : Sto} {x : D} {xs : List D} (h : Lst S x xs) : Lst (S ++ T) x xs := h.imp id fun ⟨n, e, h⟩ => ⟨n, e, sto_old h⟩
theorem Lst.at {S T : Sto} {k : Nat} {xs : List D} (h : T[k]? = some (.lst xs)) : Lst (S ++ T) (.ref (S.length + k)) xs := .inr ⟨_, rfl, by rw [sto_at]; exact h⟩
theorem Lst.at0 {S T : Sto} {xs : List D} : Lst (S ++ .lst xs :: T) (.ref S.length) xs := .inr ⟨_, rfl, by rw [sto_at0]; rfl⟩
theorem Lst.new {S T : Sto} {xs : List D} : Lst (S ++ (T ++ [.lst xs])) (.ref (S.length + T.length)) xs := .inr ⟨_, rfl, sto_new⟩
theorem Lst.rl {S : Sto} {xs : List D} : Lst S (.rl xs) xs := .inl rfl
theorem Lst.here {S : Sto} {n : Nat} {xs : List D} (h : S[n]? = some (.lst xs)) : Lst S (.ref n) xs := .inr ⟨n, rfl, h⟩
theorem fin_pure {S T : Sto} {Q : DK} {d : D} (h : fl 20 d = true) (q : Q d S) : Fin S Q d (S ++ T) := .inr ⟨S, List.prefix_append _ _, Nat.le_refl _, .inl h, fun _ _ e => .inl e, q⟩
theorem fin_same {S S' : Sto} {Q : DK} {d : D} (q : Q d S') : Fin S Q d S' := .inl q
section
variable {S : Sto} {Q : DK}
theorem b_isi_int_int {i : Int} (q : Q (.bl true) S) : bIsi [.int i, .ty "int"] S Q := ⟨_, _, true, rfl, by rfl, q⟩
theorem b_isi_int_bool {i : Int} (q : Q (.bl false) S) : bIsi [.int i, .ty "bool"] S Q := ⟨_, _, false, rfl, by rfl, q⟩
theorem b_isi_int_tuple {i : Int} (q : Q (.bl false) S) : bIsi [.int i, .ty "tuple"] S Q := ⟨_, _, false, rfl, by rfl, q⟩
theorem b_isi_int_list {i : Int} (q : Q (.bl false) S) : bIsi [.int i, .ty "list"] S Q := ⟨_, _, false, rfl, by rfl, q⟩
theorem b_isi_int_str {i : Int} (q : Q (.bl false) S) : bIsi [.int i, .ty "str"] S Q := ⟨_, _, false, rfl, by rfl, q⟩
theorem b_isi_bl_int {i : Bool} (q : Q (.bl true) S) : bIsi [.bl i, .ty "int"] S Q := ⟨_, _, true, rfl, by rfl, q⟩
theorem b_isi_bl_bool {i : Bool} (q : Q (.bl true) S) : bIsi [.bl i, .ty "bool"] S Q := ⟨_, _, true, rfl, by rfl, q⟩
theorem b_isi_bl_tuple {i : Bool} (q : Q (.bl false) S) : bIsi [.bl i, .ty "tuple"] S Q := ⟨_, _, false, rfl, by rfl, q⟩
theorem b_isi_bl_list {i : Bool} (q : Q (.bl false) S) : bIsi [.bl i, .ty "list"] S Q := ⟨_, _, false, rfl, by rfl, q⟩
theorem b_isi_bl_str {i : Bool} (q : Q (.bl false) S) : bIsi [.bl i, .ty "str"] S Q := ⟨_, _, false, rfl, by rfl, q⟩
theorem b_isi_tup_int {xs : List D} (q : Q (.bl false) S) : bIsi [.tup xs, .ty "int"] S Q := ⟨_, _, false, rfl, by rfl, q⟩
theorem b_isi_tup_bool {xs : List D} (q : Q (.bl false) S) : bIsi [.tup xs, .ty "bool"] S Q := ⟨_, _, false, rfl, by rfl, q⟩
theorem b_isi_tup_tuple {xs : List D} (q : Q (.bl true) S) : bIsi [.tup xs, .ty "tuple"] S Q := ⟨_, _, true, rfl, by rfl, q⟩
theorem b_isi_tup_list {xs : List D} (q : Q (.bl false) S) : bIsi [.tup xs, .ty "list"] S Q := ⟨_, _, false, rfl, by rfl, q⟩
theorem b_isi_tup_str {xs : List D} (q : Q (.bl false) S) : bIsi [.tup xs, .ty "str"] S Q := ⟨_, _, false, rfl, by rfl, q⟩
theorem b_isi_non_int  (q : Q (.bl false) S) : bIsi [.non, .ty "int"] S Q := ⟨_, _, false, rfl, by rfl, q⟩
theorem b_isi_non_bool  (q : Q (.bl false) S) : bIsi [.non, .ty "bool"] S Q := ⟨_, _, false, rfl, by rfl, q⟩
theorem b_isi_non_tuple  (q : Q (.bl false) S) : bIsi [.non, .ty "tuple"] S Q := ⟨_, _, false, rfl, by rfl, q⟩
theorem b_isi_non_list  (q : Q (.bl false) S) : bIsi [.non, .ty "list"] S Q := ⟨_, _, false, rfl, by rfl, q⟩
theorem b_isi_non_str  (q : Q (.bl false) S) : bIsi [.non, .ty "str"] S Q := ⟨_, _, false, rfl, by rfl, q⟩
theorem b_isi_str_int {x : Str} (q : Q (.bl false) S) : bIsi [.str x, .ty "int"] S Q := ⟨_, _, false, rfl, by rfl, q⟩
theorem b_isi_str_bool {x : Str} (q : Q (.bl false) S) : bIsi [.str x, .ty "bool"] S Q := ⟨_, _, false, rfl, by rfl, q⟩
theorem b_isi_str_tuple {x : Str} (q : Q (.bl false) S) : bIsi [.str x, .ty "tuple"] S Q := ⟨_, _, false, rfl, by rfl, q⟩
theorem b_isi_str_list {x : Str} (q : Q (.bl false) S) : bIsi [.str x, .ty "list"] S Q := ⟨_, _, false, rfl, by rfl, q⟩
theorem b_isi_str_str {x : Str} (q : Q (.bl true) S) : bIsi [.str x, .ty "str"] S Q := ⟨_, _, true, rfl, by rfl, q⟩
theorem b_isi_lst_list {n : Nat} {xs : List D} (h : S[n]? = some (.lst xs)) (q : Q (.bl true) S) : bIsi [.ref n, .ty "list"] S Q := ⟨_, _, true, rfl, by unfold isiD; rw [if_neg (by decide)]; simp only [h]; rfl, q⟩
theorem b_isi_lst_tuple {n : Nat} {xs : List D} (h : S[n]? = some (.lst xs)) (q : Q (.bl false) S) : bIsi [.ref n, .ty "tuple"] S Q := ⟨_, _, false, rfl, by unfold isiD; rw [if_neg (by decide)]; simp only [h]; rfl, q⟩
end
theorem iteNT {A B : Prop} (h : B) : if (!true) = true then A else B := iteF h
theorem iteNF {A B : Prop} (h : A) : if (!false) = true then A else B := iteT h
theorem b_anyE {S : Sto} {Q : DK} {x : D} {bs : List Bool} {b : Bool} (h : Lst S x (bs.map D.bl)) (e : bs.any id = b) (q : Q (.bl b) S) : bAny [x] S Q := b_any h (by rw [e]; exact q)
def LcW (S : Sto) (items : List D) (p : D → Bool) (f : D → D) (i : Nat) (ys : List D) (S' : Sto) : Prop := S' = S ∧ ys = ((items.take i).filter p).map f
theorem take_snocD {α : Type} {xs : List α} {i : Nat} {x : α} (h : xs[i]? = some x) : xs.take (i + 1) = xs.take i ++ [x] := by rw [List.take_succ, h]; rfl
theorem lcw_y {S : Sto} {items : List D} {p : D → Bool} {f : D → D} {i : Nat} {ys : List D} {d y : D} (hd : items[i]? = some d) (hw : LcW S items p f i ys S) (hp : p d = true) (hy : y = f d) : LcW S items p f (i + 1) (ys ++ [y]) S :=
  ⟨rfl, by rw [take_snocD hd, List.filter_append, List.map_append, ← hw.2, List.filter_cons_of_pos hp, hy]; rfl⟩
theorem lcw_n {S : Sto} {items : List D} {p : D → Bool} {f : D → D} {i : Nat} {ys : List D} {d : D} (hd : items[i]? = some d) (hw : LcW S items p f i ys S) (hp : p d = false) : LcW S items p f (i + 1) ys S :=
  ⟨rfl, by rw [take_snocD hd, List.filter_append, List.map_append, ← hw.2, List.filter_cons_of_neg (by rw [hp]; exact Bool.false_ne_true)]; simp⟩
theorem lc_pure {own : Nat} {fv : List Nat} {xs : List D} {ok : Sto → Prop} {g : DG} {tc : DT} {te : DE} {ρ : Rho} {S : Sto} {Q : DK} (p : D → Bool) (f : D → D) (hok : ok S) (hbig : xs.length ≤ big)
    (step : ∀ i d ys, xs[i]? = some d → LcW S xs p f i ys S → g d (cstD own fv ρ) S fun ρ2 S2 => tc ρ2 S2 fun b S3 => if b = true then te ρ2 S3 fun y S4 => LcW S xs p f (i + 1) (ys ++ [y]) S4 else LcW S xs p f (i + 1) ys S3)
    (q : New Q S ((xs.filter p).map f)) : LcGo own fv g tc te ρ Q ⟨xs, ok⟩ S := by
  refine ⟨hbig, LcW S xs p f, ⟨rfl, by simp⟩, fun i ys S' h => by rw [h.1]; exact hok, fun i d ys S' hd h => ?_, fun ys S' h => ?_⟩
  · obtain ⟨rfl, _⟩ := id h
    exact step i d ys hd h
  · obtain ⟨rfl, rfl⟩ := h
    rw [List.take_length]; exact q
theorem map_const {α β : Type} (xs : List α) (c : β) : xs.map (fun _ => c) = List.replicate xs.length c := by
  induction xs with
  | nil => rfl
  | cons x xs ih => rw [List.map_cons, ih]; rfl
theorem filter_true {α : Type} (xs : List α) : xs.filter (fun _ => true) = xs := List.filter_eq_self.mpr fun _ _ => rfl
theorem at_nat {ds : List D} {i : Nat} {d : D} (h : ds[i]? = some d) : atD ds (i : Int) = some d := by
  have hl : i < ds.length := by
    rcases Nat.lt_or_ge i ds.length with g | g
    · exact g
    · rw [List.getElem?_eq_none g] at h; cases h
  unfold atD ixD
  rw [if_pos (by omega), if_pos (by omega)]
  simpa using h
theorem upto_at {lo : Int} {n i : Nat} {d : D} (h : (upto lo n)[i]? = some d) : i < n ∧ d = .int (lo + i) := by
  unfold upto at h
  rw [List.getElem?_map] at h
  by_cases hi : i < n
  · rw [List.getElem?_range hi] at h
    exact ⟨hi, by simpa using h.symm⟩
  · rw [List.getElem?_eq_none (by simpa using hi)] at h; cases h
theorem upto_length (lo : Int) (n : Nat) : (upto lo n).length = n := by unfold upto; simp
theorem at_int {zs : List Int} {k : Int} (h0 : 0 ≤ k) (h : k < zs.length) : ∃ z, z ∈ zs ∧ atD (zs.map D.int) k = some (.int z) := by
  refine ⟨zs[k.toNat]'(by omega), List.getElem_mem _, ?_⟩
  unfold atD ixD
  rw [List.length_map, if_pos h0, if_pos h]
  simp only [Option.bind_some]
  rw [List.getElem?_map, List.getElem?_eq_getElem (by omega)]; rfl
theorem ix_int {zs : List Int} {k : Int} (h0 : 0 ≤ k) (h : k < zs.length) : ixD (zs.map D.int).length k = some k.toNat := by
  unfold ixD
  rw [List.length_map, if_pos h0, if_pos h]
theorem mem_setI {zs : List Int} {i : Nat} {v z : Int} (h : z ∈ zs.set i v) : z ∈ zs ∨ z = v := by
  rcases List.mem_or_eq_of_mem_set h with h | h
  · exact .inl h
  · exact .inr h
theorem get_p2 {cs : List (Int × Int)} {i : Nat} {d : D} (h : (cs.map p2)[i]? = some d) : ∃ c, cs[i]? = some c ∧ d = p2 c := by
  rw [List.getElem?_map] at h
  cases e : cs[i]? with
  | none => rw [e] at h; cases h
  | some p => rw [e] at h; cases h; exact ⟨p, rfl, rfl⟩
theorem lt_getD {α : Type} {xs : List α} {i : Nat} {x : α} (h : xs[i]? = some x) : i < xs.length := by
  rcases Nat.lt_or_ge i xs.length with g | g
  · exact g
  · rw [List.getElem?_eq_none g] at h; cases h
def optD : Option Int → D
  | none => .non
  | some v => .int v
theorem o_step {S : Sto} {Q : DK} {st : Nat} {x : D} {xs : List D} {lo hi : Option Int} (h : Lst S x xs) (q : New Q S (stepD st (cutD xs lo hi))) : sStep st x lo hi S Q := ⟨xs, h, q⟩
def sp_law : DSp := fun ds S Q => ∃ ns : List Int, ds = [.rl (ns.map D.int)] ∧ S = [] ∧ ns.length ≤ 63 ∧ ∀ S', Q (.bl true) S'
theorem len_law : ∀ ds So Q, sp_law ds So Q → ds.length = 1 := fun ds So Q ⟨ns, e, _⟩ => by rw [e]; rfl
def onI (f : Int → D) : D → D
  | .int h => f h
  | d => d
def onB (p : Int → Bool) : D → Bool
  | .int h => p h
  | _ => false
end Dp
namespace Rm
structure Pc where
  lo : Int
  hi : Int
  to : Int
  st : Int
instance : DecidableEq Pc := fun p q => if h : p.lo = q.lo ∧ p.hi = q.hi ∧ p.to = q.to ∧ p.st = q.st then isTrue (by cases p; cases q; obtain ⟨h1, h2, h3, h4⟩ := h; cases h1; cases h2; cases h3; cases h4; rfl) else isFalse (fun e => h (by subst e; exact ⟨rfl, rfl, rfl, rfl⟩))
def Pc.led (p : Pc) (h : Int) : Int := p.to + p.st * (h - p.lo)
def Pc.fin (p : Pc) : Int := p.led p.hi
def draw (p : Pc) (t : Int) : Prop := if p.lo = p.hi then t = p.to ∨ t = p.to + 1 else t = p.led (p.hi + 1)
instance (p : Pc) (t : Int) : Decidable (draw p t) := by unfold draw; infer_instance
structure Good (p : Pc) : Prop where
  le : p.lo ≤ p.hi
  st : p.st = 0 ∨ p.st = 1
  one : p.lo = p.hi → p.st = 0
structure Link (p q : Pc) : Prop where
  nx : q.lo = p.hi + 1
  up : p.fin ≤ q.to
  nd : ¬ draw p q.to
structure IsR (ps : List Pc) : Prop where
  good : ∀ p ∈ ps, Good p
  link : ∀ (i : Nat) p q, ps[i]? = some p → ps[i + 1]? = some q → Link p q
theorem IsR.nil : IsR [] := ⟨(fun _ h => by simp at h), fun i p q h => by simp at h⟩
def inP (p : Pc) (h : Int) : Prop := p.lo ≤ h ∧ h ≤ p.hi
instance (p : Pc) (h : Int) : Decidable (inP p h) := by unfold inP; infer_instance
def at' : List Pc → Int → Option Int
  | [], _ => none
  | p :: r, h => if inP p h then some (p.led h) else at' r h
theorem at_cons (p : Pc) (r : List Pc) (h : Int) : at' (p :: r) h = if inP p h then some (p.led h) else at' r h := rfl
theorem at_append (a b : List Pc) (h : Int) : at' (a ++ b) h = (at' a h).or (at' b h) := by
  induction a with
  | nil => simp [at']
  | cons p a ih =>
    rw [List.cons_append, at_cons, at_cons]
    split
    · rfl
    · exact ih
theorem IsR.init {ps : List Pc} {p : Pc} (h : IsR (ps ++ [p])) : IsR ps ∧ Good p ∧ ∀ q, ps.getLast? = some q → Link q p := by
  refine ⟨⟨fun q hq => h.good q (by simp [hq]), fun i a b ha hb => h.link i a b ?_ ?_⟩, h.good p (by simp), fun q hq => ?_⟩
  · rw [List.getElem?_append_left (by
      rcases Nat.lt_or_ge i ps.length with g | g
      · exact g
      · rw [List.getElem?_eq_none g] at ha; cases ha)]; exact ha
  · rw [List.getElem?_append_left (by
      rcases Nat.lt_or_ge (i + 1) ps.length with g | g
      · exact g
      · rw [List.getElem?_eq_none g] at hb; cases hb)]; exact hb
  · have hne : ps ≠ [] := by intro e; rw [e] at hq; simp at hq
    have hl : 0 < ps.length := List.length_pos_iff.mpr hne
    refine h.link (ps.length - 1) q p ?_ ?_
    · rw [List.getElem?_append_left (by omega), ← List.getLast?_eq_getElem?]; exact hq
    · rw [show ps.length - 1 + 1 = ps.length by omega, List.getElem?_append_right (Nat.le_refl _), Nat.sub_self]; rfl
theorem IsR.snoc {ps : List Pc} {p : Pc} (h : IsR ps) (g : Good p) (l : ∀ q, ps.getLast? = some q → Link q p) : IsR (ps ++ [p]) := by
  refine ⟨fun q hq => ?_, fun i a b ha hb => ?_⟩
  · rcases List.mem_append.mp hq with hq | hq
    · exact h.good q hq
    · have : q = p := by simpa using hq
      subst this; exact g
  · rcases Nat.lt_or_ge (i + 1) ps.length with hi | hi
    · rw [List.getElem?_append_left (by omega)] at ha
      rw [List.getElem?_append_left hi] at hb
      exact h.link i a b ha hb
    · rcases Nat.lt_or_ge i ps.length with hj | hj
      · have e : i + 1 = ps.length := by omega
        rw [List.getElem?_append_left hj] at ha
        rw [e, List.getElem?_append_right (Nat.le_refl _), Nat.sub_self] at hb
        have eb : p = b := by simpa using hb
        subst eb
        exact l a (by rw [List.getLast?_eq_getElem?, show ps.length - 1 = i by omega]; exact ha)
      · rw [List.getElem?_append_right (by omega)] at hb
        rw [List.getElem?_eq_none (by simp; omega)] at hb
        cases hb
theorem IsR.below : ∀ {ps : List Pc} {p : Pc}, IsR (ps ++ [p]) → ∀ q ∈ ps, q.hi < p.lo := by
  intro ps
  induction hn : ps.length generalizing ps with
  | zero => intro p h q hq; have := List.length_eq_zero_iff.mp hn; subst this; simp at hq
  | succ n ih =>
    intro p h q hq
    have hne : ps ≠ [] := by intro e; rw [e] at hn; simp at hn
    have hs := List.dropLast_concat_getLast hne
    obtain ⟨h1, hg, hl⟩ := h.init
    have lk := hl (ps.getLast hne) (List.getLast?_eq_some_getLast hne)
    have gl := h1.good _ (List.getLast_mem hne)
    have a1 := lk.nx
    rw [← hs] at hq
    rcases List.mem_append.mp hq with hq | hq
    · have h1' : IsR (ps.dropLast ++ [ps.getLast hne]) := by rw [hs]; exact h1
      have := ih (ps := ps.dropLast) (by rw [List.length_dropLast, hn]; rfl) h1' q hq
      have := gl.le
      omega
    · have : q = ps.getLast hne := by simpa using hq
      rw [this]; omega
theorem at_none {ps : List Pc} {h : Int} (hb : ∀ q ∈ ps, q.hi < h) : at' ps h = none := by
  induction ps with
  | nil => rfl
  | cons p r ih =>
    rw [at_cons, if_neg (by intro z; have := hb p (by simp); have := z.2; omega)]
    exact ih fun q hq => hb q (by simp [hq])
theorem at_snoc {ps : List Pc} {p : Pc} (hr : IsR (ps ++ [p])) (h : Int) : at' (ps ++ [p]) h = if inP p h then some (p.led h) else at' ps h := by
  rw [at_append]
  by_cases hi : inP p h
  · rw [if_pos hi, at_none fun q hq => by have := hr.below q hq; have := hi.1; omega]
    rw [at_cons, if_pos hi]; rfl
  · rw [if_neg hi]
    have : at' [p] h = none := by rw [at_cons, if_neg hi]; rfl
    rw [this, Option.or_none]
structure PutOk (ps : List Pc) (lo hi to st : Int) (qs : List Pc) : Prop where
  isR : IsR qs
  led : ∀ h, at' qs h = if lo ≤ h ∧ h ≤ hi then some (to + st * (h - lo)) else at' ps h
  last : lo ≤ hi → ∃ q, qs.getLast? = some q ∧ q.hi = hi ∧ q.fin = to + st * (hi - lo)
  none : hi < lo → qs = ps
  len : qs.length ≤ ps.length + 1
  head : ∀ p, ps.head? = some p → ∃ q, qs.head? = some q ∧ q.lo = p.lo ∧ q.to = p.to
  first : ps = [] → lo ≤ hi → ∃ q, qs.head? = some q ∧ q.lo = lo ∧ q.to = to
theorem Link.same {q p P : Pc} (h : Link q p) (h1 : P.lo = p.lo) (h2 : P.to = p.to) : Link q P := ⟨by rw [h1]; exact h.nx, by rw [h2]; exact h.up, by rw [h2]; exact h.nd⟩
end Rm
namespace Rm
theorem IsR.tail {p : Pc} {r : List Pc} (h : IsR (p :: r)) : IsR r := ⟨fun q hq => h.good q (by simp [hq]), fun i a b ha hb => h.link (i + 1) a b (by simpa using ha) (by simpa using hb)⟩
theorem IsR.hd {p q : Pc} {r : List Pc} (h : IsR (p :: q :: r)) : Link p q := h.link 0 p q rfl rfl
theorem IsR.above : ∀ {r : List Pc} {p : Pc}, IsR (p :: r) → ∀ q ∈ r, p.hi < q.lo
  | [], _, _, q, hq => by simp at hq
  | a :: r, p, h, q, hq => by
    have l := h.hd.nx
    have g := (h.good a (by simp)).le
    rcases List.mem_cons.mp hq with rfl | hq
    · omega
    · have := IsR.above h.tail q hq
      omega
theorem led_lo (p : Pc) : p.led p.lo = p.to := by unfold Pc.led; simp
structure Pre (f : Int → Option Int) (a n : Int) (ps : List Pc) : Prop where
  isR : IsR ps
  le : a ≤ n
  led : ∀ h, at' ps h = if a ≤ h ∧ h < n then f h else none
  all : ∀ h, a ≤ h → h < n → ∃ v, f h = some v
  emp : ps = [] → n = a
  last : ∀ p, ps.getLast? = some p → p.hi + 1 = n ∧ f p.hi = some p.fin
theorem Pre.start (f : Int → Option Int) (a : Int) : Pre f a a [] := ⟨IsR.nil, Int.le_refl _, fun h => by rw [if_neg (by omega)]; rfl, fun h h1 h2 => by omega, fun _ => rfl, by simp⟩
def MonoF (f : Int → Option Int) : Prop := ∀ a b x y, f a = some x → f b = some y → a ≤ b → x ≤ y
theorem Pre.put {f : Int → Option Int} {a n lo hi to st : Int} {ps qs : List Pc} (h : Pre f a n ps) (hlo : lo ≤ hi → lo = n) (hf : ∀ x, lo ≤ x → x ≤ hi → f x = some (to + st * (x - lo))) (hq : PutOk ps lo hi to st qs) : Pre f a (if lo ≤ hi then hi + 1 else n) qs := by
  by_cases hl : lo ≤ hi
  · rw [if_pos hl]
    have e := hlo hl
    subst e
    have hle := h.le
    refine ⟨hq.isR, by omega, fun x => ?_, fun x h1 h2 => ?_, fun z => ?_, fun p hp => ?_⟩
    · rw [hq.led, h.led]
      by_cases c : lo ≤ x ∧ x ≤ hi
      · rw [if_pos c, if_pos ⟨by omega, by omega⟩, hf x c.1 c.2]
      · rw [if_neg c]
        by_cases d : a ≤ x ∧ x < lo
        · rw [if_pos d, if_pos ⟨d.1, by omega⟩]
        · rw [if_neg d, if_neg (by omega)]
    · by_cases c : x < lo
      · exact h.all x h1 c
      · exact ⟨_, hf x (by omega) (by omega)⟩
    · obtain ⟨q, e, _⟩ := hq.last hl
      rw [z] at e; simp at e
    · obtain ⟨q, e, e2, e3⟩ := hq.last hl
      rw [hp] at e
      cases e
      exact ⟨by omega, by rw [e2, e3]; exact hf hi hl (Int.le_refl _)⟩
  · rw [if_neg hl, hq.none (by omega)]; exact h
theorem Pre.done {f : Int → Option Int} {a n : Int} {ps : List Pc} (h : Pre f a n ps) (ha : ∀ x, x < a → f x = none) (hn : ∀ x, n ≤ x → f x = none) (x : Int) : at' ps x = f x := by
  rw [h.led]
  by_cases c : a ≤ x ∧ x < n
  · rw [if_pos c]
  · rw [if_neg c]
    by_cases d : x < a
    · rw [ha x d]
    · rw [hn x (by omega)]
theorem Pre.snoc {f : Int → Option Int} {a n : Int} {ps : List Pc} {p : Pc} (h : Pre f a n ps) (m : MonoF f) (g : Good p) (hlo : p.lo = n) (hf : ∀ x, inP p x → f x = some (p.led x)) (nd : ∀ q, ps.getLast? = some q → ¬ draw q p.to) : Pre f a (p.hi + 1) (ps ++ [p]) := by
  have hle := h.le
  have gl := g.le
  have hr : IsR (ps ++ [p]) := h.isR.snoc g fun q hq => by
    obtain ⟨e1, e2⟩ := h.last q hq
    have e3 := hf p.lo ⟨Int.le_refl _, gl⟩
    have := m q.hi p.lo _ _ e2 e3 (by omega)
    rw [led_lo] at this
    exact ⟨by omega, this, nd q hq⟩
  refine ⟨hr, by omega, fun x => ?_, fun x h1 h2 => ?_, fun z => by simp at z, fun q hq => ?_⟩
  · rw [at_snoc hr, h.led]
    by_cases c : inP p x
    · have c1 := c.1
      have c2 := c.2
      rw [if_pos c, if_pos ⟨by omega, by omega⟩, hf x c]
    · rw [if_neg c]
      by_cases d : a ≤ x ∧ x < n
      · rw [if_pos d, if_pos ⟨d.1, by omega⟩]
      · rw [if_neg d, if_neg]
        intro z
        exact c ⟨by omega, by omega⟩
  · by_cases c : x < n
    · exact h.all x h1 c
    · exact ⟨_, hf x ⟨by omega, by omega⟩⟩
  · rw [List.getLast?_concat] at hq
    cases hq
    exact ⟨rfl, hf p.hi ⟨gl, Int.le_refl _⟩⟩
end Rm
namespace Rm
def UnF (f g : Int → Option Int) : Option Int → Prop
  | none => ∀ h, f h = g h
  | some u => f u ≠ g u ∧ ∀ h, h < u → f h = g h
theorem UnF.symm {f g : Int → Option Int} : ∀ {o : Option Int}, UnF f g o → UnF g f o
  | none, h => fun x => (h x).symm
  | some _, h => ⟨h.1.symm, fun x hx => (h.2 x hx).symm⟩
end Rm
namespace Dp
open PySem Rm
theorem apart {ps : List Pc} (hr : IsR ps) : ∀ {i j : Nat} {a b : Pc}, i < j → ps[i]? = some a → ps[j]? = some b → a.hi < b.lo := by
  have key : ∀ (k j : Nat) (a b : Pc), ps[j]? = some a → ps[j + k + 1]? = some b → a.hi < b.lo := by
    intro k
    induction k with
    | zero => intro j a b ha hb; have := (hr.link j a b ha hb).nx; omega
    | succ k ih =>
      intro j a b ha hb
      have hlb := lt_getD hb
      have hm : ps[j + k + 1]? = some (ps[j + k + 1]'(by omega)) := List.getElem?_eq_getElem _
      have h1 := ih j a _ ha hm
      have h2 := (hr.link (j + k + 1) _ b hm hb).nx
      have h3 := (hr.good _ (List.getElem_mem (by omega : j + k + 1 < ps.length))).le
      omega
  intro i j a b hij ha hb
  refine key (j - i - 1) i a b ha ?_
  rw [show i + (j - i - 1) + 1 = j by omega]; exact hb
end Dp
namespace Dp
open PySem Rm My
def SpanOk : List (Int × Int) → Prop
  | [] => True
  | c :: r => c.1 ≤ c.2 ∧ (∀ d ∈ r, c.2 + 2 ≤ d.1) ∧ SpanOk r
theorem SpanOk.mem : ∀ {cs : List (Int × Int)}, SpanOk cs → ∀ {i : Nat} {c : Int × Int}, cs[i]? = some c → c.1 ≤ c.2 ∧ ∀ d ∈ cs.take i, d.2 + 2 ≤ c.1
  | [], _, i, c, h => by simp at h
  | a :: r, ok, 0, c, h => by simp at h; subst h; exact ⟨ok.1, by simp⟩
  | a :: r, ok, i + 1, c, h => by
    have h' : r[i]? = some c := by simpa using h
    obtain ⟨h1, h2⟩ := SpanOk.mem ok.2.2 h'
    refine ⟨h1, fun d hd => ?_⟩
    rw [List.take_succ_cons] at hd
    rcases List.mem_cons.mp hd with rfl | hd
    · exact ok.2.1 c (List.mem_of_getElem? h')
    · exact h2 d hd
theorem fl_p2 (cs : List (Int × Int)) : fl 20 (.tup (cs.map p2)) = true := by
  show (cs.map p2).all (fl 19) = true
  rw [List.all_map, List.all_eq_true]
  intro p _; rfl
theorem ix_minus {xs : List D} {x : D} : ixD (xs ++ [x]).length (-1) = some xs.length := by
  have hl : ((xs ++ [x]).length : Int) = xs.length + 1 := by simp
  unfold ixD
  rw [if_neg (by omega), if_pos (by omega)]
  congr 1; omega
theorem at_minus {xs : List D} {x : D} : atD (xs ++ [x]) (-1) = some x := by
  unfold atD
  rw [ix_minus]
  simp
end Dp
namespace Rm
open My Dp
def inS (h : Int) (c : Int × Int) : Bool := decide (c.1 ≤ h) && decide (h ≤ c.2)
def lec (c : Int × Int) : Bool := decide (c.1 ≤ c.2)
structure SpOk (cs : List (Int × Int)) : Prop where
  le : ∀ c ∈ cs, c.1 ≤ c.2
  ap : cs.Pairwise fun a b => a.2 + 2 ≤ b.1
theorem inS_iff {h : Int} {c : Int × Int} : inS h c = true ↔ c.1 ≤ h ∧ h ≤ c.2 := by unfold inS; simp
theorem any_iff {h : Int} {cs : List (Int × Int)} : cs.any (inS h) = true ↔ ∃ c ∈ cs, c.1 ≤ h ∧ h ≤ c.2 := by
  rw [List.any_eq_true]
  constructor
  · rintro ⟨c, hc, g⟩; exact ⟨c, hc, inS_iff.mp g⟩
  · rintro ⟨c, hc, g⟩; exact ⟨c, hc, inS_iff.mpr g⟩
theorem SpOk.nil : SpOk [] := ⟨fun c hc => absurd hc (by simp), .nil⟩
theorem SpOk.snoc {ms : List (Int × Int)} {c : Int × Int} (s : SpOk ms) (hc : c.1 ≤ c.2) (h : ∀ m ∈ ms, m.2 + 2 ≤ c.1) : SpOk (ms ++ [c]) := by
  refine ⟨fun d hd => ?_, List.pairwise_append.mpr ⟨s.ap, List.pairwise_singleton _ _, fun a ha b hb => ?_⟩⟩
  · rcases List.mem_append.mp hd with g | g
    · exact s.le d g
    · have : d = c := by simpa using g
      subst this; exact hc
  · have : b = c := by simpa using hb
    subst this; exact h a ha
theorem SpOk.init {ms : List (Int × Int)} {c : Int × Int} (s : SpOk (ms ++ [c])) : SpOk ms ∧ c.1 ≤ c.2 ∧ ∀ m ∈ ms, m.2 + 2 ≤ c.1 := by
  obtain ⟨h1, h2, h3⟩ := List.pairwise_append.mp s.ap
  exact ⟨⟨fun d hd => s.le d (List.mem_append_left _ hd), h1⟩, s.le c (by simp), fun m hm => h3 m hm c (by simp)⟩
theorem merge_ok {ms : List (Int × Int)} {l c : Int × Int} (s : SpOk (ms ++ [l])) (hc : c.1 ≤ c.2) (h1 : l.1 ≤ c.1) (h2 : c.1 ≤ l.2 + 1) :
    SpOk (ms ++ [(l.1, max l.2 c.2)]) ∧ ∀ h, (ms ++ [(l.1, max l.2 c.2)]).any (inS h) = ((ms ++ [l]).any (inS h) || inS h c) := by
  obtain ⟨s0, hl, hm⟩ := s.init
  refine ⟨s0.snoc (by show l.1 ≤ max l.2 c.2; omega) hm, fun h => ?_⟩
  rw [List.any_append, List.any_append, Bool.or_assoc]
  congr 1
  rw [Bool.eq_iff_iff, Bool.or_eq_true]
  simp only [List.any_cons, List.any_nil, Bool.or_false, inS_iff]
  omega
theorem plt_le {a b : Int × Int} (h : plt2 b a = false) : a.1 ≤ b.1 := by
  unfold plt2 at h
  rw [decide_eq_false_iff_not] at h
  omega
theorem sp_unique : ∀ {a b : List (Int × Int)}, SpOk a → SpOk b → (∀ h, a.any (inS h) = b.any (inS h)) → a = b
  | [], [], _, _, _ => rfl
  | [], d :: b, _, sb, e => by
    have := e d.1
    have hd := sb.le d (by simp)
    rw [show (d :: b).any (inS d.1) = true from any_iff.mpr ⟨d, by simp, Int.le_refl _, hd⟩] at this
    simp at this
  | c :: a, [], sa, _, e => by
    have := e c.1
    have hd := sa.le c (by simp)
    rw [show (c :: a).any (inS c.1) = true from any_iff.mpr ⟨c, by simp, Int.le_refl _, hd⟩] at this
    simp at this
  | c :: a, d :: b, sa, sb, e => by
    have hc := sa.le c (by simp)
    have hd := sb.le d (by simp)
    obtain ⟨ca, pa⟩ := List.pairwise_cons.mp sa.ap
    obtain ⟨db, pb⟩ := List.pairwise_cons.mp sb.ap
    have inA : ∀ h, (∃ x ∈ c :: a, x.1 ≤ h ∧ h ≤ x.2) ↔ ∃ x ∈ d :: b, x.1 ≤ h ∧ h ≤ x.2 := fun h => by rw [← any_iff, ← any_iff, e h]
    have l1 : d.1 ≤ c.1 := by
      obtain ⟨x, hx, g1, g2⟩ := (inA c.1).mp ⟨c, by simp, Int.le_refl _, hc⟩
      rcases List.mem_cons.mp hx with rfl | hx
      · exact g1
      · have := db x hx; omega
    have l2 : c.1 ≤ d.1 := by
      obtain ⟨x, hx, g1, g2⟩ := (inA d.1).mpr ⟨d, by simp, Int.le_refl _, hd⟩
      rcases List.mem_cons.mp hx with rfl | hx
      · exact g1
      · have := ca x hx; omega
    have el : c.1 = d.1 := by omega
    have r1 : c.2 ≤ d.2 := by
      rcases (by omega : d.2 < c.2 ∨ c.2 ≤ d.2) with g | g
      · obtain ⟨x, hx, g1, g2⟩ := (inA (d.2 + 1)).mp ⟨c, by simp, by omega, by omega⟩
        rcases List.mem_cons.mp hx with rfl | hx
        · omega
        · have := db x hx; omega
      · exact g
    have r2 : d.2 ≤ c.2 := by
      rcases (by omega : c.2 < d.2 ∨ d.2 ≤ c.2) with g | g
      · obtain ⟨x, hx, g1, g2⟩ := (inA (c.2 + 1)).mpr ⟨d, by simp, by omega, by omega⟩
        rcases List.mem_cons.mp hx with rfl | hx
        · omega
        · have := ca x hx; omega
      · exact g
    have ec : c = d := by
      cases c; cases d
      simp only [Prod.mk.injEq]
      exact ⟨el, by omega⟩
    subst ec
    have sa' : SpOk a := ⟨fun x hx => sa.le x (by simp [hx]), pa⟩
    have sb' : SpOk b := ⟨fun x hx => sb.le x (by simp [hx]), pb⟩
    rw [sp_unique sa' sb' fun h => ?_]
    rw [Bool.eq_iff_iff, any_iff, any_iff]
    constructor
    · rintro ⟨x, hx, g1, g2⟩
      obtain ⟨y, hy, k1, k2⟩ := (inA h).mp ⟨x, by simp [hx], g1, g2⟩
      rcases List.mem_cons.mp hy with rfl | hy
      · have := ca x hx; omega
      · exact ⟨y, hy, k1, k2⟩
    · rintro ⟨x, hx, g1, g2⟩
      obtain ⟨y, hy, k1, k2⟩ := (inA h).mpr ⟨x, by simp [hx], g1, g2⟩
      rcases List.mem_cons.mp hy with rfl | hy
      · have := db x hx; omega
      · exact ⟨y, hy, k1, k2⟩
theorem any_filter (cs : List (Int × Int)) (h : Int) : (cs.filter fun c => decide (c.1 ≤ c.2)).any (inS h) = cs.any (inS h) := by
  rw [Bool.eq_iff_iff, any_iff, any_iff]
  constructor
  · rintro ⟨c, hc, g⟩; exact ⟨c, (List.mem_filter.mp hc).1, g⟩
  · rintro ⟨c, hc, g⟩; exact ⟨c, List.mem_filter.mpr ⟨hc, decide_eq_true (by omega)⟩, g⟩
theorem any_perm {a b : List (Int × Int)} (p : a.Perm b) (h : Int) : a.any (inS h) = b.any (inS h) := by
  rw [Bool.eq_iff_iff, any_iff, any_iff]
  constructor
  · rintro ⟨c, hc, g⟩; exact ⟨c, p.mem_iff.mp hc, g⟩
  · rintro ⟨c, hc, g⟩; exact ⟨c, p.mem_iff.mpr hc, g⟩
def meetC (a b : Int × Int) : Int × Int := (max a.1 b.1, min a.2 b.2)
def meets2 (as bs : List (Int × Int)) : List (Int × Int) := as.flatMap fun a => bs.map (meetC a)
theorem any_meets2 (as bs : List (Int × Int)) (h : Int) : (meets2 as bs).any (inS h) = (as.any (inS h) && bs.any (inS h)) := by
  rw [Bool.eq_iff_iff, Bool.and_eq_true, any_iff, any_iff, any_iff]
  unfold meets2
  constructor
  · rintro ⟨c, hc, g1, g2⟩
    obtain ⟨a, ha, hm⟩ := List.mem_flatMap.mp hc
    obtain ⟨b, hb, rfl⟩ := List.mem_map.mp hm
    unfold meetC at g1 g2
    dsimp only at g1 g2
    refine ⟨⟨a, ha, ?_⟩, ⟨b, hb, ?_⟩⟩ <;> omega
  · rintro ⟨⟨a, ha, g1, g2⟩, ⟨b, hb, k1, k2⟩⟩
    refine ⟨meetC a b, List.mem_flatMap.mpr ⟨a, ha, List.mem_map.mpr ⟨b, hb, rfl⟩⟩, ?_⟩
    unfold meetC
    dsimp only
    constructor <;> omega
theorem meetC_le {a b : Int × Int} (ha : a.1 ≤ a.2) (hb : b.1 ≤ b.2) : (meetC a b).1 ≤ (meetC a b).2 ↔ b.1 ≤ a.2 ∧ a.1 ≤ b.2 := by
  unfold meetC
  dsimp only
  omega
theorem few_one {a : Int × Int} (ha : a.1 ≤ a.2) : ∀ {bs : List (Int × Int)}, SpOk bs → ((bs.map (meetC a)).filter fun c => decide (c.1 ≤ c.2)).length ≤ (bs.filter fun b => decide (b.2 ≤ a.2)).length + 1
  | [], _ => by simp
  | b :: bs, s => by
    obtain ⟨cb, pb⟩ := List.pairwise_cons.mp s.ap
    have hb := s.le b (by simp)
    have s' : SpOk bs := ⟨fun x hx => s.le x (by simp [hx]), pb⟩
    have ih := few_one ha s'
    rw [List.map_cons]
    by_cases h1 : b.2 ≤ a.2
    · rw [List.filter_cons_of_pos (p := fun b : Int × Int => decide (b.2 ≤ a.2)) (decide_eq_true h1)]
      have : (((meetC a b) :: bs.map (meetC a)).filter fun c => decide (c.1 ≤ c.2)).length ≤ ((bs.map (meetC a)).filter fun c => decide (c.1 ≤ c.2)).length + 1 := by
        rw [List.filter_cons]; split <;> simp
      simp only [List.length_cons]
      omega
    · have none : (bs.map (meetC a)).filter (fun c => decide (c.1 ≤ c.2)) = [] := by
        rw [List.filter_eq_nil_iff]
        intro c hc
        obtain ⟨x, hx, rfl⟩ := List.mem_map.mp hc
        have := cb x hx
        have hx2 := s'.le x hx
        rw [decide_eq_true_eq, meetC_le ha hx2]
        omega
      rw [List.filter_cons, none]
      split <;> simp
theorem few_meet : ∀ {as bs : List (Int × Int)}, SpOk as → SpOk bs → ((meets2 as bs).filter fun c => decide (c.1 ≤ c.2)).length ≤ as.length + bs.length
  | [], bs, _, _ => by simp [meets2]
  | a :: as, bs, sa, sb => by
    obtain ⟨ca, pa⟩ := List.pairwise_cons.mp sa.ap
    have ha := sa.le a (by simp)
    have sa' : SpOk as := ⟨fun x hx => sa.le x (by simp [hx]), pa⟩
    have sb2 : SpOk (bs.filter fun b => !decide (b.2 ≤ a.2)) := ⟨fun x hx => sb.le x (List.mem_filter.mp hx).1, sb.ap.filter _⟩
    have ih := few_meet sa' sb2
    have one := few_one ha sb
    have same : ((meets2 as bs).filter fun c => decide (c.1 ≤ c.2)).length = ((meets2 as (bs.filter fun b => !decide (b.2 ≤ a.2))).filter fun c => decide (c.1 ≤ c.2)).length := by
      clear ih one
      induction as with
      | nil => rfl
      | cons d ds ihd =>
        have hd : a.2 + 2 ≤ d.1 := ca d (by simp)
        have hd2 := sa.le d (by simp)
        unfold meets2 at ihd ⊢
        rw [List.flatMap_cons, List.flatMap_cons, List.filter_append, List.filter_append, List.length_append, List.length_append]
        have e1 : ((bs.map (meetC d)).filter fun c => decide (c.1 ≤ c.2)).length = (((bs.filter fun b => !decide (b.2 ≤ a.2)).map (meetC d)).filter fun c => decide (c.1 ≤ c.2)).length := by
          have hle := sb.le
          clear ihd sb sb2
          induction bs with
          | nil => rfl
          | cons b bs ihb =>
            have ih' := ihb fun x hx => hle x (by simp [hx])
            have hb := hle b (by simp)
            by_cases h1 : b.2 ≤ a.2
            · rw [List.filter_cons_of_neg (p := fun b : Int × Int => !decide (b.2 ≤ a.2)) (by simp [h1]), List.map_cons, List.filter_cons_of_neg (by rw [decide_eq_true_eq, meetC_le hd2 hb]; omega)]
              exact ih'
            · rw [List.filter_cons_of_pos (p := fun b : Int × Int => !decide (b.2 ≤ a.2)) (by simp [h1]), List.map_cons, List.map_cons, List.filter_cons, List.filter_cons]
              split
              · simp only [List.length_cons]; omega
              · exact ih'
        have pa2 := List.pairwise_cons.mp (List.pairwise_cons.mp sa.ap).2
        have sd : SpOk (a :: ds) := ⟨fun x hx => by
          rcases List.mem_cons.mp hx with rfl | hx
          · exact ha
          · exact sa.le x (by simp [hx]), List.pairwise_cons.mpr ⟨fun x hx => ca x (by simp [hx]), pa2.2⟩⟩
        have e2 := ihd sd (fun x hx => ca x (by simp [hx])) pa2.2 ⟨fun x hx => sd.le x (by simp [hx]), pa2.2⟩
        rw [e1, e2]
    have split2 : bs.length = (bs.filter fun b => decide (b.2 ≤ a.2)).length + (bs.filter fun b => !decide (b.2 ≤ a.2)).length := by
      clear ih one same sb sb2
      induction bs with
      | nil => rfl
      | cons b bs ihb =>
        rw [List.filter_cons, List.filter_cons]
        by_cases h1 : b.2 ≤ a.2
        · simp [h1]; omega
        · simp [h1]; omega
    unfold meets2 at same ih ⊢
    rw [List.flatMap_cons, List.filter_append, List.length_append, same]
    simp only [List.length_cons]
    omega
end Rm
namespace Dp
open PySem Rm My
def firstF : List (Int × Int) → Int → Option Int
  | [], _ => none
  | c :: r, h => if h ≤ c.2 then some (max c.1 h) else firstF r h
def lastF : List (Int × Int) → Int → Option Int
  | [], _ => none
  | c :: r, h => if c.1 ≤ h then some (min c.2 h) else lastF r h
def laterL (ms : List (Int × Int)) (h : Int) : List Int := (ms.filter fun c => decide (h ≤ c.2)).map fun c => max c.1 h
def soonerL (ms : List (Int × Int)) (h : Int) : List Int := (ms.filter fun c => decide (c.1 ≤ h)).map fun c => min c.2 h
theorem _root_.Rm.SpOk.tail {c : Int × Int} {ms : List (Int × Int)} (s : SpOk (c :: ms)) : SpOk ms := ⟨fun x hx => s.le x (by simp [hx]), (List.pairwise_cons.mp s.ap).2⟩
theorem first_none : ∀ {ms : List (Int × Int)} {h : Int}, laterL ms h = [] → firstF ms h = none
  | [], h, _ => rfl
  | c :: r, h, e => by
    unfold laterL at e
    by_cases g : h ≤ c.2
    · rw [List.filter_cons_of_pos (p := fun c : Int × Int => decide (h ≤ c.2)) (decide_eq_true g)] at e; cases e
    · rw [List.filter_cons_of_neg (p := fun c : Int × Int => decide (h ≤ c.2)) (by simpa using g)] at e
      unfold firstF
      rw [if_neg g]
      exact first_none e
theorem first_min : ∀ {ms : List (Int × Int)} {h m : Int}, SpOk ms → m ∈ laterL ms h → (∀ a ∈ laterL ms h, m ≤ a) → firstF ms h = some m
  | [], h, m, _, hm, _ => absurd hm (by simp [laterL])
  | c :: r, h, m, ok, hm, hle => by
    obtain ⟨ca, _⟩ := List.pairwise_cons.mp ok.ap
    have hc := ok.le c (by simp)
    unfold laterL at hm hle
    unfold firstF
    by_cases g : h ≤ c.2
    · rw [List.filter_cons_of_pos (p := fun c : Int × Int => decide (h ≤ c.2)) (decide_eq_true g), List.map_cons] at hm hle
      rw [if_pos g]
      have h1 := hle (max c.1 h) (by simp)
      congr 1
      rcases List.mem_cons.mp hm with e | hm
      · exact e.symm
      · obtain ⟨d, hd, rfl⟩ := List.mem_map.mp hm
        have := ca d (List.mem_filter.mp hd).1
        omega
    · rw [List.filter_cons_of_neg (p := fun c : Int × Int => decide (h ≤ c.2)) (by simpa using g)] at hm hle
      rw [if_neg g]
      exact first_min ok.tail hm hle
theorem last_none : ∀ {rs : List (Int × Int)} {h : Int}, (∀ c ∈ rs, ¬ c.1 ≤ h) → lastF rs h = none
  | [], h, _ => rfl
  | c :: r, h, e => by
    unfold lastF
    rw [if_neg (e c (by simp))]
    exact last_none fun d hd => e d (by simp [hd])
theorem last_max : ∀ {rs : List (Int × Int)} {h m : Int}, (∀ c ∈ rs, c.1 ≤ c.2) → rs.Pairwise (fun a b => b.2 + 2 ≤ a.1) → (∃ c ∈ rs, c.1 ≤ h ∧ m = min c.2 h) → (∀ c ∈ rs, c.1 ≤ h → min c.2 h ≤ m) → lastF rs h = some m
  | [], h, m, _, _, ⟨c, hc, _⟩, _ => absurd hc (by simp)
  | c :: r, h, m, hle, hp, ⟨d, hd, d1, d2⟩, hm => by
    obtain ⟨ca, cp⟩ := List.pairwise_cons.mp hp
    have hc := hle c (by simp)
    unfold lastF
    by_cases g : c.1 ≤ h
    · rw [if_pos g]
      congr 1
      have h1 := hm c (by simp) g
      rcases List.mem_cons.mp hd with rfl | hd
      · exact d2.symm
      · have := ca d hd
        have := hle d (by simp [hd])
        omega
    · rw [if_neg g]
      refine last_max (fun x hx => hle x (by simp [hx])) cp ?_ fun x hx => hm x (by simp [hx])
      rcases List.mem_cons.mp hd with rfl | hd
      · exact absurd d1 g
      · exact ⟨d, hd, d1, d2⟩
theorem sooner_none {ms : List (Int × Int)} {h : Int} (e : soonerL ms h = []) : lastF ms.reverse h = none :=
  last_none fun c hc g => by
    have : min c.2 h ∈ soonerL ms h := List.mem_map.mpr ⟨c, List.mem_filter.mpr ⟨List.mem_reverse.mp hc, decide_eq_true g⟩, rfl⟩
    rw [e] at this; cases this
theorem sooner_max {ms : List (Int × Int)} {h m : Int} (ok : SpOk ms) (hm : m ∈ soonerL ms h) (hle : ∀ a ∈ soonerL ms h, a ≤ m) : lastF ms.reverse h = some m := by
  refine last_max (fun c hc => ok.le c (List.mem_reverse.mp hc)) (List.pairwise_reverse.mpr ok.ap) ?_ fun c hc g => hle _ (List.mem_map.mpr ⟨c, List.mem_filter.mpr ⟨List.mem_reverse.mp hc, decide_eq_true g⟩, rfl⟩)
  obtain ⟨c, hc, e⟩ := List.mem_map.mp hm
  obtain ⟨h1, h2⟩ := List.mem_filter.mp hc
  exact ⟨c, List.mem_reverse.mpr h1, of_decide_eq_true h2, e.symm⟩
def on2 (f : Int × Int → D) : D → D
  | .tup [.int a, .int b] => f (a, b)
  | d => d
def on2B (p : Int × Int → Bool) : D → Bool
  | .tup [.int a, .int b] => p (a, b)
  | _ => false
theorem on2_map (f : Int × Int → D) (cs : List (Int × Int)) : (cs.map p2).map (on2 f) = cs.map f := by rw [List.map_map]; rfl
theorem on2B_map (p : Int × Int → Bool) (cs : List (Int × Int)) : (cs.map p2).filter (on2B p) = (cs.filter p).map p2 := by rw [List.filter_map]; rfl
theorem eqv_p2 (a b : Int × Int) : eqv (p2 a) (p2 b) = decide (a = b) := by
  obtain ⟨a1, a2⟩ := a
  obtain ⟨b1, b2⟩ := b
  show (decide (a1 = b1) && (decide (a2 = b2) && true)) = _
  rw [Bool.and_true, ← Bool.decide_and]
  exact decide_eq_decide.mpr (by simp)
theorem eqv_p2s : ∀ (as bs : List (Int × Int)), eqvAll (as.map p2) (bs.map p2) = decide (as = bs)
  | [], [] => rfl
  | [], b :: bs => rfl
  | a :: as, [] => rfl
  | a :: as, b :: bs => by
    show (eqv (p2 a) (p2 b) && eqvAll (as.map p2) (bs.map p2)) = _
    rw [eqv_p2, eqv_p2s as bs, ← Bool.decide_and]
    exact decide_eq_decide.mpr (by simp)
theorem eqv_p2t (as bs : List (Int × Int)) : eqv (.tup (as.map p2)) (.tup (bs.map p2)) = decide (as = bs) := eqv_p2s as bs
theorem o_neS {S : Sto} {Q : DK} {as bs : List (Int × Int)} (q : Q (.bl (!decide (as = bs))) S) : oNe (.tup (as.map p2)) (.tup (bs.map p2)) S Q := ⟨_, .inl ⟨fl_p2 as, fl_p2 bs, rfl⟩, by rw [eqv_p2t]; exact q⟩
theorem o_neS1 {S : Sto} {Q : DK} {as bs : List (Int × Int)} (e : as = bs) (q : Q (.bl false) S) : oNe (.tup (as.map p2)) (.tup (bs.map p2)) S Q := o_neS (by rw [decide_eq_true e]; exact q)
theorem i_seqs {S : Sto} {x : D} {xs : List D} {R : DIt → Sto → Prop} (h : Seqs S x xs) (q : ∀ ok : Sto → Prop, (∀ T, ok (S ++ T)) → R ⟨xs, ok⟩ S) : SeqIt x S R := by
  rcases h with rfl | h
  · exact .inl ⟨xs, rfl, q _ fun _ => True.intro⟩
  · exact .inr ⟨xs, h, q _ fun T => h.old⟩
theorem Seqs.old {S T : Sto} {x : D} {xs : List D} (h : Seqs S x xs) : Seqs (S ++ T) x xs := h.imp id Lst.old
theorem meets2_len (as bs : List (Int × Int)) : (meets2 as bs).length = as.length * bs.length := by
  unfold meets2
  induction as with
  | nil => simp
  | cons a as ih => rw [List.flatMap_cons, List.length_append, ih, List.length_map, List.length_cons, Nat.succ_mul, Nat.add_comm]
theorem meets2_snoc {as bs : List (Int × Int)} {i : Nat} {a : Int × Int} (h : as[i]? = some a) : meets2 (as.take (i + 1)) bs = meets2 (as.take i) bs ++ bs.map (meetC a) := by
  unfold meets2
  rw [take_snocD h, List.flatMap_append]; simp
def gapsM : Int → List (Int × Int) → List (Int × Int) × Int
  | st, [] => ([], st)
  | st, c :: cs => ((st, c.1 - 1) :: (gapsM (c.2 + 1) cs).1, (gapsM (c.2 + 1) cs).2)
theorem gapsM_len : ∀ (st : Int) (cs : List (Int × Int)), (gapsM st cs).1.length = cs.length
  | _, [] => rfl
  | st, c :: cs => by show ((gapsM (c.2 + 1) cs).1.length + 1) = _; rw [gapsM_len]; rfl
theorem gapsM_snoc : ∀ (st : Int) (cs : List (Int × Int)) (c : Int × Int), gapsM st (cs ++ [c]) = ((gapsM st cs).1 ++ [((gapsM st cs).2, c.1 - 1)], c.2 + 1)
  | st, [], c => rfl
  | st, d :: cs, c => by
    show ((st, d.1 - 1) :: (gapsM (d.2 + 1) (cs ++ [c])).1, (gapsM (d.2 + 1) (cs ++ [c])).2) = _
    rw [gapsM_snoc]; rfl
theorem gapsM_in {hi h : Int} (hh : h ≤ hi) : ∀ (st : Int) {cs : List (Int × Int)}, SpOk cs → st ≤ h → (∀ c ∈ cs, c.2 ≤ h → True) → (((gapsM st cs).1 ++ [((gapsM st cs).2, hi)]).any (inS h) = true ↔ ¬ ∃ c ∈ cs, c.1 ≤ h ∧ h ≤ c.2)
  | st, [], _, hs, _ => by
    simp [gapsM, inS_iff, hs, hh]
  | st, c :: cs, s, hs, _ => by
    obtain ⟨cb, pb⟩ := List.pairwise_cons.mp s.ap
    have hc := s.le c (by simp)
    have s' : SpOk cs := ⟨fun x hx => s.le x (by simp [hx]), pb⟩
    show (((st, c.1 - 1) :: ((gapsM (c.2 + 1) cs).1 ++ [((gapsM (c.2 + 1) cs).2, hi)])).any (inS h) = true ↔ _)
    rw [List.any_cons, Bool.or_eq_true, inS_iff]
    rcases (by omega : h < c.1 ∨ (c.1 ≤ h ∧ h ≤ c.2) ∨ c.2 < h) with g | g | g
    · constructor
      · rintro - ⟨x, hx, k1, k2⟩
        rcases List.mem_cons.mp hx with rfl | hx
        · omega
        · have := cb x hx; omega
      · intro _
        exact .inl ⟨hs, by show h ≤ c.1 - 1; omega⟩
    · constructor
      · intro z
        exfalso
        rcases z with ⟨_, z⟩ | z
        · have : h ≤ c.1 - 1 := z
          omega
        · obtain ⟨x, hx, k1, k2⟩ := any_iff.mp z
          have low : ∀ (st : Int) (cs : List (Int × Int)), SpOk cs → (∀ d ∈ cs, st ≤ d.1) → ∀ x ∈ (gapsM st cs).1 ++ [((gapsM st cs).2, hi)], st ≤ x.1 := by
            intro st cs
            induction cs generalizing st with
            | nil => intro _ _ x hx; have : x = (st, hi) := by simpa [gapsM] using hx
                     subst this; exact Int.le_refl _
            | cons d ds ih =>
              intro sd hd x hx
              obtain ⟨c2, p2⟩ := List.pairwise_cons.mp sd.ap
              have hd1 := hd d (by simp)
              have hd2 := sd.le d (by simp)
              have hx : x ∈ (st, d.1 - 1) :: ((gapsM (d.2 + 1) ds).1 ++ [((gapsM (d.2 + 1) ds).2, hi)]) := hx
              rcases List.mem_cons.mp hx with rfl | hx
              · exact Int.le_refl _
              · have := ih (d.2 + 1) ⟨fun y hy => sd.le y (by simp [hy]), p2⟩ (fun y hy => by have := c2 y hy; omega) x hx
                omega
          have := low (c.2 + 1) cs s' (fun d hd => by have := cb d hd; omega) x hx
          omega
      · intro z
        exact absurd ⟨c, by simp, g.1, g.2⟩ z
    · have ih := gapsM_in hh (c.2 + 1) s' (by omega) (fun _ _ _ => trivial)
      constructor
      · rintro z ⟨x, hx, k1, k2⟩
        rcases List.mem_cons.mp hx with rfl | hx
        · omega
        · rcases z with ⟨_, z⟩ | z
          · have : h ≤ c.1 - 1 := z
            omega
          · exact ih.mp z ⟨x, hx, k1, k2⟩
      · intro z
        exact .inr (ih.mpr fun ⟨x, hx, k⟩ => z ⟨x, by simp [hx], k⟩)
def cnt (cs : List (Int × Int)) : Int := (cs.map fun c => c.2 - c.1 + 1).sum
def ind (b : Bool) : Int := if b = true then 1 else 0
def cntH (p : Int → Bool) (lo : Int) : Nat → Int
  | 0 => 0
  | n + 1 => cntH p lo n + ind (p (lo + n))
theorem cntH_add {p q r s : Int → Bool} {lo : Int} (h : ∀ k, ind (p k) + ind (q k) = ind (r k) + ind (s k)) : ∀ n, cntH p lo n + cntH q lo n = cntH r lo n + cntH s lo n
  | 0 => rfl
  | n + 1 => by
    have := cntH_add (lo := lo) h n
    have := h (lo + n)
    show cntH p lo n + ind (p (lo + n)) + (cntH q lo n + ind (q (lo + n))) = cntH r lo n + ind (r (lo + n)) + (cntH s lo n + ind (s (lo + n)))
    omega
theorem cntH_zero (lo : Int) : ∀ n, cntH (fun _ => false) lo n = 0
  | 0 => rfl
  | n + 1 => by
    show cntH (fun _ => false) lo n + ind false = 0
    rw [cntH_zero lo n]; rfl
theorem cntH_one (c : Int × Int) (lo : Int) : ∀ n : Nat, cntH (fun h => inS h c) lo n = max 0 (min (lo + n) (c.2 + 1) - max lo c.1)
  | 0 => by show (0 : Int) = _; omega
  | n + 1 => by
    show cntH (fun h => inS h c) lo n + ind (inS (lo + n) c) = _
    rw [cntH_one c lo n]
    by_cases g : inS (lo + n) c = true
    · rw [g]
      have := inS_iff.mp g
      show _ + (1 : Int) = _
      omega
    · have g' : ¬ (c.1 ≤ lo + n ∧ lo + n ≤ c.2) := fun z => g (inS_iff.mpr z)
      rw [Bool.not_eq_true] at g
      rw [g]
      show _ + (0 : Int) = _
      omega
theorem cnt_eq {lo : Int} {n : Nat} : ∀ {cs : List (Int × Int)}, SpOk cs → (∀ c ∈ cs, lo ≤ c.1 ∧ c.2 < lo + n) → cnt cs = cntH (fun h => cs.any (inS h)) lo n
  | [], _, _ => by
    show (0 : Int) = cntH (fun h => false) lo n
    rw [cntH_zero]
  | c :: r, ok, hb => by
    have ih := cnt_eq ok.tail fun x hx => hb x (by simp [hx])
    have hc := ok.le c (by simp)
    have hb1 := hb c (by simp)
    obtain ⟨ca, _⟩ := List.pairwise_cons.mp ok.ap
    have e : cnt (c :: r) = c.2 - c.1 + 1 + cnt r := by unfold cnt; simp
    have h1 := cntH_one c lo n
    have h2 := cntH_add (p := fun h => (c :: r).any (inS h)) (q := fun _ => false) (r := fun h => inS h c) (s := fun h => r.any (inS h)) (lo := lo) (fun k => by
      show ind (inS k c || r.any (inS k)) + 0 = _
      cases g : inS k c with
      | false =>
        rw [Bool.false_or]
        show ind _ + 0 = 0 + ind _
        omega
      | true =>
        have g1 := inS_iff.mp g
        have : r.any (inS k) = false := by
          rw [Bool.eq_false_iff]
          intro z
          obtain ⟨x, hx, k1, k2⟩ := any_iff.mp z
          have := ca x hx
          omega
        rw [this]; rfl) n
    rw [cntH_zero] at h2
    omega
end Dp
namespace Rm
open My Dp
end Rm
namespace Rm
open My Dp
end Rm
namespace Dp
open PySem Rm My
end Dp
namespace Dp
open PySem Rm My
def flt (a b : Int × Int) : Bool := decide (a.1 * b.2 < b.1 * a.2)
end Dp
namespace Dp
open PySem Rm My
end Dp
namespace Dp
open PySem Rm My
end Dp
namespace Dp
open PySem Rm My
def frV (V : Int) : Int × Int := (frT V 2520, frB V 2520)
def KV (a : Int × Int) : Prop := ∃ V, a = frV V ∧ Bd 300 V
def lenV (ms : List (Int × Int)) : Int := (ms.map fun m => m.2 - m.1).sum
end Dp
namespace Dp
open PySem Rm My
def Sv (c : Int × Int) (t b : Int) : Prop := 0 < c.2 ∧ c.1 * b = t * c.2
def hvT (a b p : Int × Int) : Int := if 0 < b.1 - a.1 then a.2 * (b.1 - a.1) * p.2 + (b.2 - a.2) * (p.1 - a.1 * p.2) else -(a.2 * (b.1 - a.1) * p.2 + (b.2 - a.2) * (p.1 - a.1 * p.2))
def hvB (a b p : Int × Int) : Int := if 0 < b.1 - a.1 then (b.1 - a.1) * p.2 else -((b.1 - a.1) * p.2)
theorem Sv.self {c : Int × Int} (h : 0 < c.2) : Sv c c.1 c.2 := ⟨h, rfl⟩
def hid (s p c : Int × Int) (t b : Int) : Bool := decide (t * hvB s c p < hvT s c p * b)
def GAt (S : Sto) (g : D) (cs : List (Int × Int)) : Prop := ∃ n l, g = .ref n ∧ S[n]? = some (.ins "Ground" [("corners", .ref l)]) ∧ S[l]? = some (.lst (cs.map p2))
theorem GAt.old {S T : Sto} {g : D} {cs : List (Int × Int)} (h : GAt S g cs) : GAt (S ++ T) g cs := let ⟨n, l, e, h1, h2⟩ := h; ⟨n, l, e, sto_old h1, sto_old h2⟩
theorem g_cor {S : Sto} {P : D → Prop} {n l : Nat} (h : S[n]? = some (.ins "Ground" [("corners", .ref l)])) (q : P (.ref l)) : ∃ m c fs d, D.ref n = .ref m ∧ S[m]? = some (.ins c fs) ∧ fs.lookup ("corners" : Str) = some d ∧ P d := ⟨n, _, _, _, rfl, h, by simp [List.lookup_cons], q⟩
end Dp
namespace My
open PySem PySem.Spec PyProof.Rows L2
section
open AutoSeq1 (wpAny_loadPart')
variable {prog : Program} {w : World} {A : Around} {E : Value → Shared → Prop} {s : Shared}
theorem nextT_item {it t : Addr} {i : Nat} {items : Array Value} {x : Value} {Q : Value → Shared → Prop} (hit : s.heap.IsTupleIter it t i) (ht : s.heap.IsTuple t items) (hx : items[i]? = some x)
    (hQ : ∀ h', h'.IsTupleIter it t (i + 1) → Heap.SameBut it s.heap h' → Q x { s with heap := h' }) : wpAny (model prog w) A (Builtin.SmallTypes.nextOf (.ref it)) Q E s := by
  obtain ⟨o, ho, hc, hd⟩ := id hit
  obtain ⟨ol, hol, _, nl, hdl⟩ := ht
  unfold Builtin.SmallTypes.nextOf
  refine wpAny_bind (wpAny_callSpecial?_slot (name := Str.ofString "__next__") hit.typeIs F.slot_tuple_iterator_next (wpAny_call_entry F.slot_tuple_iterator_next hit.typeIs F.entry_tuple_iterator_next ?_ (F.args_tuple_iterator_next_1 _)))
  show wpAny _ _ (field (.ref it) 0 >>= _) _ _ s
  refine wpAny_bind (wpAny_field ho hd (x := .ref t) rfl ?_)
  show wpAny _ _ (if (Value.ref t == Value.none) = true then _ else _) _ _ s
  rw [if_neg (show ¬ ((Value.ref t == Value.none) = true) from Bool.false_ne_true)]
  show wpAny _ _ (field (.ref it) 1 >>= _) _ _ s
  refine wpAny_bind (wpAny_field ho hd (x := .int i 0) rfl ?_)
  show wpAny _ _ (seqItems? (.ref t) >>= _) _ _ s
  refine wpAny_bind (wpAny_seqItems hol hdl ?_)
  simp only [Int.toNat_natCast, hx]
  refine wpAny_bind (wpAny_setField ho hd (by simp) (wpAny_pure ⟨x, rfl, wpAny_pure (hQ _ ?_ (Heap.SameBut.update ..))⟩))
  exact ⟨_, Heap.get?_update_self _ ho (Obj.isFreed_of_fields (Obj.data_mapFields hd _)), (Obj.cls_mapFields ..).trans hc, by rw [Obj.data_mapFields hd]; simp [rawInt]⟩
theorem nextT_end {it t : Addr} {i : Nat} {items : Array Value} {Q : Value → Shared → Prop} (hh : A.handled = none) (hit : s.heap.IsTupleIter it t i) (ht : s.heap.IsTuple t items) (hx : items[i]? = none)
    (hE : ∀ h' e, Heap.ExtBut it s.heap h' → (∃ o, h'.get? e = some o ∧ o.cls = .type "StopIteration") → E (.ref e) { s with heap := h' }) : wpAny (model prog w) A (Builtin.SmallTypes.nextOf (.ref it)) Q E s := by
  obtain ⟨o, ho, hc, hd⟩ := id hit
  obtain ⟨ol, hol, _, nl, hdl⟩ := ht
  unfold Builtin.SmallTypes.nextOf
  refine wpAny_bind (wpAny_callSpecial?_slot (name := Str.ofString "__next__") hit.typeIs F.slot_tuple_iterator_next (wpAny_call_entry F.slot_tuple_iterator_next hit.typeIs F.entry_tuple_iterator_next ?_ (F.args_tuple_iterator_next_1 _)))
  show wpAny _ _ (field (.ref it) 0 >>= _) _ _ s
  refine wpAny_bind (wpAny_field ho hd (x := .ref t) rfl ?_)
  show wpAny _ _ (if (Value.ref t == Value.none) = true then _ else _) _ _ s
  rw [if_neg (show ¬ ((Value.ref t == Value.none) = true) from Bool.false_ne_true)]
  show wpAny _ _ (field (.ref it) 1 >>= _) _ _ s
  refine wpAny_bind (wpAny_field ho hd (x := .int i 0) rfl ?_)
  show wpAny _ _ (seqItems? (.ref t) >>= _) _ _ s
  refine wpAny_bind (wpAny_seqItems hol hdl ?_)
  simp only [Int.toNat_natCast, hx]
  refine wpAny_bind (wpAny_rule (wpAny_bind (wpAny_setField ho hd (by simp) ?_)))
  show wpAny _ _ (newExc (.type "StopIteration") [] >>= _) _ _ _
  refine wpAny_bind ?_
  simp only [newExc, newTuple]
  refine wpAny_bind (wpAny_newObj_type ?_ (by size_fits))
  refine wpAny_bind (m := firstArgMember _ _) (wpAny_of_eq (a := Value.none) (by first | rfl | (simp only [firstArgMember]; rfl)) ?_)
  refine wpAny_newObj_type ?_ (by size_fits)
  simp only [raiseNew]
  refine wpAny_bind (wpAny_handled ?_)
  first | rw [show A.in1.handled = none from hh] | rw [hh]
  refine wpAny_bind (wpAny_pure (wpAny_throw ?_))
  exact hE _ _ (((Heap.SameBut.update ..).extBut.push _).push _) ⟨_, Heap.get?_push_size _ rfl, rfl⟩
end
section
variable {X : Cx}
end
end My
namespace My
open PySem PySem.Spec PyProof.Rows L2
def ItAt : Bool → Heap → Addr → Addr → Nat → Prop
  | true, h, it, l, k => h.IsListIter it l k
  | false, h, it, l, k => h.IsTupleIter it l k
def SqAt : Bool → Heap → Addr → Array Value → Prop
  | true, h, l, xs => h.IsList l xs
  | false, h, l, xs => h.IsTuple l xs
theorem ItAt.grow {b : Bool} {h h' : Heap} {c it l : Addr} {k : Nat} (x : ItAt b h it l k) (e : Heap.ExtBut c h h') (n : it ≠ c) : ItAt b h' it l k := by
  cases b
  · exact Heap.IsTupleIter.extBut (show h.IsTupleIter it l k from x) e n
  · exact Heap.IsListIter.extBut (show h.IsListIter it l k from x) e n
theorem SqAt.grow {b : Bool} {h h' : Heap} {c l : Addr} {xs : Array Value} (x : SqAt b h l xs) (e : Heap.ExtBut c h h') (n : l ≠ c) : SqAt b h' l xs := by
  cases b
  · exact Heap.IsTuple.extBut (show h.IsTuple l xs from x) e n
  · exact Heap.IsList.extBut (show h.IsList l xs from x) e n
theorem ItAt.obj {b : Bool} {h : Heap} {it l : Addr} {k : Nat} (x : ItAt b h it l k) : ∃ o, h.get? it = some o ∧ (o.cls = .type "list_iterator" ∨ o.cls = .type "tuple_iterator") ∧ ∃ vs, o.data = .fields vs := by
  cases b
  · obtain ⟨o, ho, hc, hd⟩ : h.IsTupleIter it l k := x
    exact ⟨o, ho, .inr hc, _, hd⟩
  · obtain ⟨o, ho, hc, hd⟩ : h.IsListIter it l k := x
    exact ⟨o, ho, .inl hc, _, hd⟩
theorem ItAt.at {b : Bool} {h h' : Heap} {it l : Addr} {k : Nat} (x : ItAt b h it l k) (e : ∀ o, h.get? it = some o → h'.get? it = some o) : ItAt b h' it l k := by
  cases b
  · obtain ⟨o, ho, hc, hd⟩ : h.IsTupleIter it l k := x
    exact (⟨o, e o ho, hc, hd⟩ : h'.IsTupleIter it l k)
  · obtain ⟨o, ho, hc, hd⟩ : h.IsListIter it l k := x
    exact (⟨o, e o ho, hc, hd⟩ : h'.IsListIter it l k)
theorem SqAt.lt {b : Bool} {h : Heap} {l : Addr} {xs : Array Value} (x : SqAt b h l xs) : l < h.objs.size := by
  cases b
  · obtain ⟨o, ho, _⟩ : h.IsTuple l xs := x
    exact Heap.lt_size ho
  · obtain ⟨o, ho, _⟩ : h.IsList l xs := x
    exact Heap.lt_size ho
section
variable {prog : Program} {w : World} {A : Around} {E : Value → Shared → Prop} {s : Shared}
theorem nextG_item {b : Bool} {it t : Addr} {i : Nat} {items : Array Value} {x : Value} {Q : Value → Shared → Prop} (hit : ItAt b s.heap it t i) (ht : SqAt b s.heap t items) (hx : items[i]? = some x)
    (hQ : ∀ h', ItAt b h' it t (i + 1) → Heap.SameBut it s.heap h' → Q x { s with heap := h' }) : wpAny (model prog w) A (Builtin.SmallTypes.nextOf (.ref it)) Q E s := by
  cases b
  · exact nextT_item hit ht hx hQ
  · exact wpAny_nextOf_list_item hit ht hx hQ
theorem nextG_end {b : Bool} {it t : Addr} {i : Nat} {items : Array Value} {Q : Value → Shared → Prop} (hh : A.handled = none) (hit : ItAt b s.heap it t i) (ht : SqAt b s.heap t items) (hx : items[i]? = none)
    (hE : ∀ h' e, Heap.ExtBut it s.heap h' → (∃ o, h'.get? e = some o ∧ o.cls = .type "StopIteration") → E (.ref e) { s with heap := h' }) : wpAny (model prog w) A (Builtin.SmallTypes.nextOf (.ref it)) Q E s := by
  cases b
  · exact nextT_end hh hit ht hx hE
  · exact wpAny_nextOf_list_end hh hit ht hx hE
theorem nextZ_item {b1 b2 : Bool} {z TI TO i1 i2 l1 l2 : Addr} {k : Nat} {xs ys : Array Value} {x y a b : Value} {Q : Option Value → Shared → Prop} (D : ZipApart z TI TO i1 i2 l1 l2)
    (hz : IsZip s.heap z TI TO .none) (hTI : IsPair s.heap TI (.ref i1) (.ref i2)) (hTO : IsPair s.heap TO a b) (h1 : ItAt b1 s.heap i1 l1 k) (h2 : ItAt b2 s.heap i2 l2 k) (hl1 : SqAt b1 s.heap l1 xs) (hl2 : SqAt b2 s.heap l2 ys) (hx : xs[k]? = some x) (hy : ys[k]? = some y)
    (hQ : ∀ h', IsZip h' z TI TO (rawInt s.heap.objs.size) → IsPair h' TO x y → ItAt b1 h' i1 l1 (k + 1) → ItAt b2 h' i2 l2 (k + 1) → IsPair h' s.heap.objs.size x y →
      (∀ c o, c ≠ z → c ≠ TO → c ≠ i1 → c ≠ i2 → s.heap.get? c = some o → h'.get? c = some o) → Q (some (.ref s.heap.objs.size)) { s with heap := h' }) : wpAny (model prog w) A (pyNext (.ref z)) Q E s := by
  have hT : s.TypeIs (.ref z) "zip" := ⟨_, hz, rfl⟩
  unfold pyNext
  refine wpAny_bind (wpAny_attempt (wpAny_callSpecial?_slot (name := Str.ofString "__next__") hT F.slot_zip_next (wpAny_call_entry F.slot_zip_next hT F.entry_zip_next ?_ (F.args_zip_next_1 _))))
  show wpAny _ _ (field (.ref z) 2 >>= _) _ _ _
  refine wpAny_bind (wpAny_field hz rfl (x := .bool false) rfl ?_); show wpAny _ _ (field (.ref z) 3 >>= _) _ _ _
  refine wpAny_bind (wpAny_field hz rfl (x := .ref TI) rfl (wpAny_bind (wpAny_seqItems hTI rfl ?_))); show wpAny _ _ (Builtin.SmallTypes.ownedTupleIsFree (.ref z) >>= _) _ _ _
  refine wpAny_bind ?_; unfold Builtin.SmallTypes.ownedTupleIsFree
  refine wpAny_bind (wpAny_field hz rfl (x := .none) rfl (wpAny_pure ?_)); simp only [if_true]
  refine wpAny_bind (wpAny_rule (wpAny_bind (wpAny_field hz rfl (x := .ref TO) rfl (wpAny_bind (wpAny_setField_rec hz (by simp) fun g1 z1 e1 => ?_)))))
  replace z1 : IsZip g1 z TI TO .ellipsis := z1
  refine wpAny_bind ?_; simp only [List.zipIdx_cons, List.zipIdx_nil, List.forIn_cons, List.forIn_nil]
  refine wpAny_bind (wpAny_bind (wpAny_onRaise ?_)); show wpAny _ _ (Builtin.SmallTypes.nextOf (.ref i1) >>= _) _ _ _
  refine wpAny_bind (nextG_item (h1.grow e1.extBut D.i1z) (hl1.grow e1.extBut D.l1z) hx fun g2 t1 e2 => wpAny_pure ?_)
  have p2 : IsPair g2 TO a b := e2.extBut _ _ D.TOi1 (e1.extBut _ _ D.TOz hTO)
  refine wpAny_bind (wpAny_seqItems p2 rfl (wpAny_bind (wpAny_updateSeq_pair p2 fun g3 p3 e3 => wpAny_bind (wpAny_letGo (wpAny_pure ?_)))))
  replace p3 : IsPair g3 TO x b := p3
  refine wpAny_bind (wpAny_bind (wpAny_onRaise ?_)); show wpAny _ _ (Builtin.SmallTypes.nextOf (.ref i2) >>= _) _ _ _
  refine wpAny_bind (nextG_item (((h2.grow e1.extBut D.i2z).grow e2.extBut D.i12.symm).grow e3.extBut D.TOi2.symm) (((hl2.grow e1.extBut D.l2z).grow e2.extBut D.l2i1).grow e3.extBut D.l2TO) hy fun g4 t2 e4 => wpAny_pure ?_)
  have p4 : IsPair g4 TO x b := e4.extBut _ _ D.TOi2 p3
  refine wpAny_bind (wpAny_seqItems p4 rfl (wpAny_bind (wpAny_updateSeq_pair p4 fun g5 p5 e5 => wpAny_bind (wpAny_letGo (wpAny_pure (wpAny_pure ?_))))))
  replace p5 : IsPair g5 TO x y := p5
  refine wpAny_bind (wpAny_seqItems p5 rfl (wpAny_bind (wpAny_newTuple ?_)))
  have sz : g5.objs.size = s.heap.objs.size := by rw [e5.1, e4.1, e3.1, e2.1, e1.1]
  have z5 : IsZip g5 z TI TO .ellipsis := e5.extBut _ _ D.TOz.symm (e4.extBut _ _ D.i2z.symm (e3.extBut _ _ D.TOz.symm (e2.extBut _ _ D.i1z.symm z1)))
  have k5 : ∀ c o, c ≠ z → c ≠ TO → c ≠ i1 → c ≠ i2 → s.heap.get? c = some o → g5.get? c = some o := fun c o c1 c2 c3 c4 e => e5.extBut _ _ c2 (e4.extBut _ _ c4 (e3.extBut _ _ c2 (e2.extBut _ _ c3 (e1.extBut _ _ c1 e))))
  have u1 : ItAt b1 g5 i1 l1 (k + 1) := ((t1.grow e3.extBut D.TOi1.symm).grow e4.extBut D.i12).grow e5.extBut D.TOi1.symm
  have u2 : ItAt b2 g5 i2 l2 (k + 1) := t2.grow e5.extBut D.TOi2.symm
  have zl : z < g5.objs.size := Heap.lt_size z5
  show wpAny _ _ (Builtin.SmallTypes.ownedTupleHandOut (.ref z) (.ref g5.objs.size) >>= _) _ _ _
  refine wpAny_bind ?_; unfold Builtin.SmallTypes.ownedTupleHandOut
  have z6 : IsZip (g5.push { cls := .type "tuple", data := .seq #[x, y] }) z TI TO .ellipsis := Heap.get?_push_of_some _ z5
  refine wpAny_bind (wpAny_setField_rec z6 (by simp) fun g7 z7 e7 => ?_)
  replace z7 : IsZip g7 z TI TO (rawInt g5.objs.size) := z7
  refine wpAny_setField_rec z7 (by simp) fun g8 z8 e8 => ?_
  replace z8 : IsZip g8 z TI TO (rawInt g5.objs.size) := z8
  have up : ∀ c o, c ≠ z → g5.get? c = some o → g8.get? c = some o := fun c o c1 e => e8.extBut _ _ c1 (e7.extBut _ _ c1 (Heap.get?_push_of_some _ e))
  have t8 : IsPair g8 g5.objs.size x y := e8.extBut _ _ (Nat.ne_of_gt zl) (e7.extBut _ _ (Nat.ne_of_gt zl) (Heap.get?_push_size _ rfl))
  rw [sz] at z8 t8
  refine wpAny_pure ⟨_, rfl, wpAny_pure ?_⟩
  show Q (some (.ref g5.objs.size)) _
  rw [sz]
  exact hQ g8 z8 (up _ _ D.TOz p5) (u1.at fun o e => up _ o D.i1z e) (u2.at fun o e => up _ o D.i2z e) t8 fun c o c1 c2 c3 c4 e => up c o c1 (k5 c o c1 c2 c3 c4 e)
theorem nextZ_end {b1 b2 : Bool} {z TI TO i1 i2 l1 l2 : Addr} {k : Nat} {xs ys : Array Value} {a b : Value} {Q : Option Value → Shared → Prop} (hh : A.handled = none) (D : ZipApart z TI TO i1 i2 l1 l2)
    (hz : IsZip s.heap z TI TO .none) (hTI : IsPair s.heap TI (.ref i1) (.ref i2)) (hTO : IsPair s.heap TO a b) (h1 : ItAt b1 s.heap i1 l1 k) (h2 : ItAt b2 s.heap i2 l2 k) (hl1 : SqAt b1 s.heap l1 xs) (hl2 : SqAt b2 s.heap l2 ys) (hend : xs[k]? = none ∨ ys[k]? = none)
    (hQ : ∀ h', (∀ c o, c ≠ z → c ≠ TO → c ≠ i1 → c ≠ i2 → s.heap.get? c = some o → h'.get? c = some o) → Q none { s with heap := h' }) : wpAny (model prog w) A (pyNext (.ref z)) Q E s := by
  have hT : s.TypeIs (.ref z) "zip" := ⟨_, hz, rfl⟩
  unfold pyNext
  refine wpAny_bind (wpAny_attempt (wpAny_callSpecial?_slot (name := Str.ofString "__next__") hT F.slot_zip_next (wpAny_call_entry F.slot_zip_next hT F.entry_zip_next ?_ (F.args_zip_next_1 _))))
  have out : ∀ h' e, (∀ c o, c ≠ z → c ≠ TO → c ≠ i1 → c ≠ i2 → s.heap.get? c = some o → h'.get? c = some o) → (∃ o, h'.get? e = some o ∧ o.cls = .type "StopIteration") →
      wpAny (model prog w) A ((isInstance (.ref e) (.type "StopIteration")) >>= fun b => if b = true then pure none else throw (.ref e)) Q E { s with heap := h' } := fun h' e hk he => by
    obtain ⟨o, ho, hc⟩ := he
    exact wpAny_bind (wpAny_isInstance (T := "StopIteration") (b := true) ⟨o, ho, hc⟩ isSubtype_stop (wpAny_pure (hQ _ hk)))
  show wpAny _ _ (field (.ref z) 2 >>= _) _ _ _
  refine wpAny_bind (wpAny_field hz rfl (x := .bool false) rfl ?_); show wpAny _ _ (field (.ref z) 3 >>= _) _ _ _
  refine wpAny_bind (wpAny_field hz rfl (x := .ref TI) rfl (wpAny_bind (wpAny_seqItems hTI rfl ?_))); show wpAny _ _ (Builtin.SmallTypes.ownedTupleIsFree (.ref z) >>= _) _ _ _
  refine wpAny_bind ?_; unfold Builtin.SmallTypes.ownedTupleIsFree
  refine wpAny_bind (wpAny_field hz rfl (x := .none) rfl (wpAny_pure ?_)); simp only [if_true]
  refine wpAny_bind (wpAny_rule (wpAny_bind (wpAny_field hz rfl (x := .ref TO) rfl (wpAny_bind (wpAny_setField_rec hz (by simp) fun g1 z1 e1 => ?_)))))
  replace z1 : IsZip g1 z TI TO .ellipsis := z1
  refine wpAny_bind ?_; simp only [List.zipIdx_cons, List.zipIdx_nil, List.forIn_cons, List.forIn_nil]
  refine wpAny_bind (wpAny_bind (wpAny_onRaise ?_)); show wpAny _ _ (Builtin.SmallTypes.nextOf (.ref i1) >>= _) _ _ _
  cases hx : xs[k]? with
  | none =>
    refine wpAny_bind (nextG_end hh (h1.grow e1.extBut D.i1z) (hl1.grow e1.extBut D.l1z) hx fun g2 e e2 ⟨oe, hoe, hce⟩ => ?_)
    have z2 : IsZip g2 z TI TO .ellipsis := e2 _ _ D.i1z.symm z1
    have ne : e ≠ z := fun q => by subst q; rw [z2] at hoe; cases hoe; simp at hce
    exact wpAny_setField_rec z2 (by simp) fun g3 _ e3 => out g3 e (fun c o c1 _ c3 _ q => e3.extBut _ _ c1 (e2 _ _ c3 (e1.extBut _ _ c1 q))) ⟨oe, e3.extBut _ _ ne hoe, hce⟩
  | some x =>
    have hy : ys[k]? = none := by rcases hend with h | h; rw [hx] at h; cases h; exact h
    refine wpAny_bind (nextG_item (h1.grow e1.extBut D.i1z) (hl1.grow e1.extBut D.l1z) hx fun g2 t1 e2 => wpAny_pure ?_)
    have p2 : IsPair g2 TO a b := e2.extBut _ _ D.TOi1 (e1.extBut _ _ D.TOz hTO)
    refine wpAny_bind (wpAny_seqItems p2 rfl (wpAny_bind (wpAny_updateSeq_pair p2 fun g3 p3 e3 => wpAny_bind (wpAny_letGo (wpAny_pure ?_)))))
    refine wpAny_bind (wpAny_bind (wpAny_onRaise ?_)); show wpAny _ _ (Builtin.SmallTypes.nextOf (.ref i2) >>= _) _ _ _
    refine wpAny_bind (nextG_end hh (((h2.grow e1.extBut D.i2z).grow e2.extBut D.i12.symm).grow e3.extBut D.TOi2.symm) (((hl2.grow e1.extBut D.l2z).grow e2.extBut D.l2i1).grow e3.extBut D.l2TO) hy fun g4 e e4 ⟨oe, hoe, hce⟩ => ?_)
    have z4 : IsZip g4 z TI TO .ellipsis := e4 _ _ D.i2z.symm (e3.extBut _ _ D.TOz.symm (e2.extBut _ _ D.i1z.symm z1))
    have ne : e ≠ z := fun q => by subst q; rw [z4] at hoe; cases hoe; simp at hce
    exact wpAny_setField_rec z4 (by simp) fun g5 _ e5 => out g5 e (fun c o c1 c2 c3 c4 q => e5.extBut _ _ c1 (e4 _ _ c4 (e3.extBut _ _ c2 (e2.extBut _ _ c3 (e1.extBut _ _ c1 q))))) ⟨oe, e5.extBut _ _ ne hoe, hce⟩
end
abbrev itN (b : Bool) : String := if b = true then "list_iterator" else "tuple_iterator"
abbrev zg1 (b : Bool) (h : Heap) (l : Addr) : Heap := h.push { cls := .type (itN b), data := .fields #[.ref l, .int 0 0] }
abbrev zg2 (b1 b2 : Bool) (h : Heap) (l1 l2 : Addr) : Heap := zg1 b2 (zg1 b1 h l1) l2
abbrev zg3 (b1 b2 : Bool) (h : Heap) (l1 l2 : Addr) : Heap := (zg2 b1 b2 h l1 l2).push { cls := .type "tuple", data := .seq #[.ref h.objs.size, .ref (zg1 b1 h l1).objs.size] }
abbrev zg4 (b1 b2 : Bool) (h : Heap) (l1 l2 : Addr) : Heap := (zg3 b1 b2 h l1 l2).push { cls := .type "tuple", data := .seq #[.none, .none] }
abbrev zg5 (b1 b2 : Bool) (h : Heap) (l1 l2 : Addr) : Heap := (zg4 b1 b2 h l1 l2).push { cls := .type "zip", data := .fields #[.none, .bool false, .bool false, .ref (zg2 b1 b2 h l1 l2).objs.size, .ref (zg3 b1 b2 h l1 l2).objs.size] }
theorem SqAt.push {b : Bool} {h : Heap} {l : Addr} {xs : Array Value} (x : SqAt b h l xs) (o : Obj) : SqAt b (h.push o) l xs := by
  cases b
  · obtain ⟨u, hu, r⟩ : h.IsTuple l xs := x
    exact (⟨u, Heap.get?_push_of_some _ hu, r⟩ : (h.push o).IsTuple l xs)
  · obtain ⟨u, hu, r⟩ : h.IsList l xs := x
    exact (⟨u, Heap.get?_push_of_some _ hu, r⟩ : (h.push o).IsList l xs)
theorem newZ (b : Bool) (l1 l2 : Addr) (xs ys : Array Value) :
    Meets (Builtin.«zip.__new__» ⟨[.type "zip", .ref l1, .ref l2], []⟩) (fun _ R s => SqAt b s.heap l1 xs ∧ SqAt b s.heap l2 ys ∧ R (.ok (.ret (.ref (zg4 b b s.heap l1 l2).objs.size))) { s with heap := zg5 b b s.heap l1 l2 }) := by
  cases b
  · exact .of_wp fun prog w A R s h => by
      obtain ⟨hp, g, d, tk, os⟩ := s
      obtain ⟨h1, h2, h⟩ := h
      have hsub := sub_zip
      have q1 : Heap.IsTuple (Shared.heap ⟨hp, g, d, tk, os⟩) l1 xs := h1
      have q2 : Heap.IsTuple (Shared.heap ⟨hp.push { cls := .type "tuple_iterator", data := .fields #[.ref l1, .int 0 0] }, g, d, tk, os⟩) l2 ys := SqAt.push (b := false) h2 _
      wp_walk using wpAny_pyIter_tuple q1, wpAny_pyIter_tuple q2
      exact ⟨_, rfl, h⟩
  · exact meets_zip_new l1 l2 xs ys
theorem itNew {b : Bool} {h : Heap} {it l : Addr} (e : h.get? it = some { cls := .type (itN b), data := .fields #[.ref l, .int 0 0] }) : ItAt b h it l 0 := by
  cases b
  · exact (⟨_, e, rfl, rfl⟩ : h.IsTupleIter it l 0)
  · exact (⟨_, e, rfl, rfl⟩ : h.IsListIter it l 0)
section
variable {prog : Program} {w : World} {A : Around} {E : Value → Shared → Prop} {s : Shared}
theorem callZ {b : Bool} {l1 l2 : Addr} {xs ys : Array Value} {Q : Value → Shared → Prop} (hl1 : SqAt b s.heap l1 xs) (hl2 : SqAt b s.heap l2 ys)
    (h : ∀ h', IsZip h' (s.heap.objs.size + 4) (s.heap.objs.size + 2) (s.heap.objs.size + 3) .none → IsPair h' (s.heap.objs.size + 2) (.ref s.heap.objs.size) (.ref (s.heap.objs.size + 1)) → IsPair h' (s.heap.objs.size + 3) .none .none → ItAt b h' s.heap.objs.size l1 0 → ItAt b h' (s.heap.objs.size + 1) l2 0 →
      (∀ c o, s.heap.get? c = some o → h'.get? c = some o) → Q (.ref (s.heap.objs.size + 4)) { s with heap := h' }) : wpAny (model prog w) A (call (.type "zip") [.ref l1, .ref l2]) Q E s := by
  refine callType_new F.called_zip (by decide) (F.typeCall_zip_2 _ _) (F.newCall_zip_2 _ _) (fun obj => F.args_object_init_3 obj _ _) F.entry_zip_new (newZ b l1 l2 xs ys) ⟨hl1, hl2, ?_⟩
  have s1 : (zg1 b s.heap l1).objs.size = s.heap.objs.size + 1 := Heap.size_push ..
  have s2 : (zg2 b b s.heap l1 l2).objs.size = s.heap.objs.size + 2 := by rw [Heap.size_push, s1]
  have s3 : (zg3 b b s.heap l1 l2).objs.size = s.heap.objs.size + 3 := by rw [Heap.size_push, s2]
  have s4 : (zg4 b b s.heap l1 l2).objs.size = s.heap.objs.size + 4 := by rw [Heap.size_push, s3]
  have v1 : (zg5 b b s.heap l1 l2).get? s.heap.objs.size = some _ := (fun c o q => Heap.get?_push_of_some _ (Heap.get?_push_of_some _ (Heap.get?_push_of_some _ (Heap.get?_push_of_some _ q))) : ∀ c o, (zg1 b s.heap l1).get? c = some o → (zg5 b b s.heap l1 l2).get? c = some o) _ _ (Heap.get?_push_size _ rfl)
  have v2 : (zg5 b b s.heap l1 l2).get? (zg1 b s.heap l1).objs.size = some _ := (fun c o q => Heap.get?_push_of_some _ (Heap.get?_push_of_some _ (Heap.get?_push_of_some _ q)) : ∀ c o, (zg2 b b s.heap l1 l2).get? c = some o → (zg5 b b s.heap l1 l2).get? c = some o) _ _ (Heap.get?_push_size _ rfl)
  have v3 : (zg5 b b s.heap l1 l2).get? (zg2 b b s.heap l1 l2).objs.size = some _ := (fun c o q => Heap.get?_push_of_some _ (Heap.get?_push_of_some _ q) : ∀ c o, (zg3 b b s.heap l1 l2).get? c = some o → (zg5 b b s.heap l1 l2).get? c = some o) _ _ (Heap.get?_push_size _ rfl)
  have v4 : (zg5 b b s.heap l1 l2).get? (zg3 b b s.heap l1 l2).objs.size = some _ := Heap.get?_push_of_some _ (Heap.get?_push_size _ rfl)
  have v5 : (zg5 b b s.heap l1 l2).get? (zg4 b b s.heap l1 l2).objs.size = some _ := Heap.get?_push_size _ rfl
  show _ ∧ _
  rw [s2, s3, s4] at v5
  rw [s1, s2] at v3
  rw [s3] at v4
  rw [s1] at v2
  rw [s4]
  exact ⟨⟨_, v5, rfl⟩, h _ v5 v3 v4 (itNew v1) (itNew v2) fun c o x => Heap.get?_push_of_some _ (Heap.get?_push_of_some _ (Heap.get?_push_of_some _ (Heap.get?_push_of_some _ (Heap.get?_push_of_some _ x))))⟩
end
def SqB (K : PySem.W.Frag) (b : Bool) (H : Hp) (l : Addr) (xs : List V) : Prop := match b with
  | true => SqL K H l xs
  | false => SqT K H l xs
theorem SqB.items {X : Cx} {pins : List (Addr × Obj)} {σ : L2.St} {H : Hp} {s : Shared} {b : Bool} {l : Addr} {xs : List V} (I : Inv X pins σ H s) (h : SqB X.K b H l xs) : ∃ its : List Value, Vals xs its ∧ SqAt b s.heap l its.toArray := by
  cases b
  · obtain ⟨its, r, p, _⟩ := I.tuple (show SqT X.K H l xs from h)
    exact ⟨its, r, p⟩
  · obtain ⟨its, r, p, _⟩ := I.list (show SqL X.K H l xs from h)
    exact ⟨its, r, p.isList⟩
theorem SqB.inj {X : Cx} {pins : List (Addr × Obj)} {σ : L2.St} {H : Hp} {s : Shared} {b : Bool} {l : Addr} {xs ys : List V} (I : Inv X pins σ H s) (h : SqB X.K b H l xs) (h' : SqB X.K b H l ys) : xs = ys := by
  cases b
  · exact I.tuple_inj (show SqT X.K H l xs from h) h'
  · exact I.list_inj (show SqL X.K H l xs from h) h'
section
variable {X : Cx}
def ItRev (K : PySem.W.Frag) (a : Addr) (n : Nat) : It :=
  ⟨fun i H => ∃ xs x, SqL K H a xs ∧ i < n ∧ xs[n - 1 - i]? = some x, fun i H x H' => H' = H ∧ ∀ xs, SqL K H a xs → xs[n - 1 - i]? = some x, fun i _ => i = n⟩
theorem turn_rev {P : Program} {w : World} {K : PySem.W.Frag} {tg : Expr} (a it : Addr) (n : Nat) : Turn P w K tg (ItRev K a n) [it] it (fun i h => i ≤ n ∧ h.IsRevIter it a ((n : Int) - 1 - (i : Int))) where
  mem := by simp
  obj := fun i h st b hb => by
    have e : b = it := by simpa using hb
    subst e
    obtain ⟨_, o, e, c, d⟩ := st
    exact ⟨o, e, fun v z => by rw [d] at z; cases z⟩
  keep := fun i h h' st k => ⟨st.1, st.2.at fun o e => k it (by simp) o e⟩
  item := by
    intro X hP hw hK hc i pins s σ H E I hf st hg
    subst hP hw hK
    obtain ⟨xs, x, hq, hi, hx⟩ := hg
    obtain ⟨its, rv, p, hz⟩ := I.list hq
    obtain ⟨u, hu, ru⟩ := rv.get hx
    obtain ⟨f0, f1, f2, f3, f4, f5⟩ := hf it (by simp)
    have ei : (n : Int) - 1 - (i : Int) = ((n - 1 - i : Nat) : Int) := by omega
    have hit := st.2
    rw [ei] at hit
    refine wpAny_pyNext_rev_item hit p.isList (x := u) (by simpa using hu) fun h' st' sb => ?_
    have I1 : Inv X pins σ H { s with heap := h' } := I.turned (t' := s.toks) (fun b o hb e => (sb.2 b hb).trans e) f0 f1 f3 f4 f5
    obtain ⟨o, e, c, d⟩ := id st'
    refine ⟨u, rfl, go_of (s := { s with heap := h' }) e c d (by decide) ⟨x, H, I1, ru, ⟨rfl, fun ys hy => by rw [I.list_inj hy hq]; exact hx⟩, ⟨hi, ?_⟩, fun b hb => (hf b hb).1⟩⟩
    have e2 : ((n - 1 - i : Nat) : Int) - 1 = (n : Int) - 1 - ((i + 1 : Nat) : Int) := by omega
    rw [e2] at st'
    exact st'
  done := by
    intro X hP hw hK hc i pins s σ H E I hf st hg
    subst hP hw hK
    obtain ⟨f0, f1, f2, f3, f4, f5⟩ := hf it (by simp)
    have hi : i = n := hg
    subst hi
    have ei : (i : Int) - 1 - (i : Int) = -1 := by omega
    have hit := st.2
    rw [ei] at hit
    exact wpAny_pyNext_rev_end (I.ok.hd hc) hit fun h' eb => ⟨rfl, I.turned (t' := s.toks) (fun b o hb e => eb b o hb e) f0 f1 f3 f4 f5⟩
  self := fun _ _ _ _ _ st h => wpAny_pyIter_revIter st.2 h
end
end My
namespace My
open PySem PySem.Spec PyProof.Rows L2
theorem big_line : sizeLine < 2 ^ 62 := by decide
section
open AutoSeq1 (wpAny_loadPart')
end
section
variable {X : Cx}
end
end My
namespace My
open PySem PySem.Spec PyProof.Rows L2
theorem owner_rev : Manifest.owners.lookup (String.ofList ['d', 'e', 's', 'r', 'e', 'v', 'e', 'r'].reverse) = some Manifest.sig_reversed := by kernel_rfl
theorem slot_rev_next : Slot "reversed" "__next__" "reversed.__next__" :=
  .of (owner := "reversed") (n := "__next__") (by rw [typeLookup_type, builtinLookup_eq_fast]; kernel_rfl) (by decide +kernel) (by decide +kernel) (by decide +kernel)
    (by first | exact .inl (by decide +kernel) | exact .inr (by decide +kernel)) (by rw [isSubtype_type]; kernel_rfl)
theorem entry_rev_next : entryFor table "reversed.__next__" = some Builtin.«reversed.__next__» := entryFor_of_tree (by kernel_rfl)
theorem args_rev_next_1 (a : Value) : argsOk "reversed.__next__" ⟨[a], []⟩ := by
  unfold argsOk; rw [signature?_of (id := "reversed.__next__") (n := ['_', '_', 't', 'x', 'e', 'n', '_', '_']) (o := ['d', 'e', 's', 'r', 'e', 'v', 'e', 'r']) (by kernel_rfl) owner_rev]; kernel_rfl
theorem slot_rev_iter : Slot "reversed" "__iter__" "reversed.__iter__" :=
  .of (owner := "reversed") (n := "__iter__") (by rw [typeLookup_type, builtinLookup_eq_fast]; kernel_rfl) (by decide +kernel) (by decide +kernel) (by decide +kernel)
    (by first | exact .inl (by decide +kernel) | exact .inr (by decide +kernel)) (by rw [isSubtype_type]; kernel_rfl)
theorem entry_rev_iter : entryFor table "reversed.__iter__" = some Builtin.«dict_keyiterator.__iter__» :=
  entryFor_alias (id' := "dict_keyiterator.__iter__") (by kernel_rfl) (by first | rfl | decide +kernel | (unfold String.splitOn; simp +decide [String.splitOnAux])) (by decide +kernel) (by kernel_rfl)
theorem args_rev_iter_1 (a : Value) : argsOk "reversed.__iter__" ⟨[a], []⟩ := by
  unfold argsOk; rw [signature?_of (id := "reversed.__iter__") (n := ['_', '_', 'r', 'e', 't', 'i', '_', '_']) (o := ['d', 'e', 's', 'r', 'e', 'v', 'e', 'r']) (by kernel_rfl) owner_rev]; kernel_rfl
theorem slot_rev_init : Slot "reversed" "__init__" "object.__init__" :=
  .of (owner := "object") (n := "__init__") (by rw [typeLookup_type, builtinLookup_eq_fast]; kernel_rfl) (by decide +kernel) (by decide +kernel) (by decide +kernel)
    (by first | exact .inl (by decide +kernel) | exact .inr (by decide +kernel)) (by rw [isSubtype_type]; kernel_rfl)
theorem called_rev : TypeCalled "reversed" "reversed.__new__" "object.__init__" :=
  ⟨by decide +kernel, by decide +kernel, ⟨_, _, F.mro_reversed⟩, F.made_reversed, by decide +kernel, by rw [isSubtype_type]; kernel_rfl, slot_rev_init⟩
theorem look_tuple_reversed : typeLookup (.type "tuple") "__reversed__" = pure none := by rw [typeLookup_type, builtinLookup_eq_fast]; kernel_rfl
theorem sub_tuple_dict : isSubtype (.type "tuple") (.type "dict") = pure false := by rw [isSubtype_type]; kernel_rfl
def RevT (h : Heap) (a t : Addr) (i : Int) : Prop := ∃ o, h.get? a = some o ∧ o.cls = .type "reversed" ∧ o.data = .fields #[.ref t, rawInt i]
theorem RevT.typeIs {s : Shared} {a l : Addr} {i : Int} (x : RevT s.heap a l i) : s.TypeIs (.ref a) "reversed" := let ⟨o, ho, hc, _⟩ := x; ⟨o, ho, hc⟩
theorem RevT.at {h h' : Heap} {a l : Addr} {i : Int} (x : RevT h a l i) (e : ∀ o, h.get? a = some o → h'.get? a = some o) : RevT h' a l i := let ⟨o, ho, r⟩ := x; ⟨o, e _ ho, r⟩
abbrev revT (l : Addr) (i : Int) : Obj := { cls := .type "reversed", data := .fields #[.ref l, rawInt i] }
theorem newRevT (l : Addr) (items : Array Value) (hfit : (items.size : Int) < 2 ^ 63) :
    Meets (Builtin.«reversed.__new__» ⟨[.type "reversed", .ref l], []⟩) (fun _ R s => IsTup s.heap l items ∧
      R (.ok (.ret (.ref s.heap.objs.size))) { s with heap := s.heap.push (revT l ((items.size : Int) - 1)), toks := s.toks + 1 + 1 }) :=
  .of_wp fun prog w A R s h => by
    obtain ⟨ht, h⟩ := h
    unfold Builtin.«reversed.__new__»
    refine wpAny_bind (wpAny_of_eq (newClass_reversed _) ?_)
    try dsimp only
    refine wpAny_bind (wpAny_of_eq (a := ()) (by first | rfl | kernel_rfl) ?_)
    refine wpAny_bind (wpAny_of_eq (a := ()) (by first | rfl | kernel_rfl) ?_)
    try dsimp only
    refine wpAny_bind (wpAny_specialOf ht.typeIs look_tuple_reversed ?_)
    try dsimp only
    refine wpAny_bind ?_
    show wpAny _ _ (isInstance (.ref l) (.type "dict") >>= _) _ _ s
    refine wpAny_bind (wpAny_isInstance ht.typeIs sub_tuple_dict ?_)
    refine wpAny_bind (wpAny_specialOf ht.typeIs slot_tuple_getitem.lookup ?_)
    refine wpAny_pure ?_
    refine wpAny_bind (len_tuple ht hfit ?_)
    refine wpAny_bind (wpAny_of_eq (a := some (items.size : Int)) rfl ?_)
    try dsimp only
    show wpAny _ _ (newObj (.type "reversed") (.fields #[.ref l, rawInt ((items.size : Int) - 1)]) >>= _) _ _ _
    refine wpAny_bind (wpAny_newObj_type ?_ (by size_fits))
    exact wpAny_pure ⟨_, rfl, h⟩
section
variable {prog : Program} {w : World} {A : Around} {E : Value → Shared → Prop} {s : Shared}
theorem call_revT {l : Addr} {items : Array Value} {Q : Value → Shared → Prop} (hfit : (items.size : Int) < 2 ^ 63) (hl : IsTup s.heap l items)
    (h : Q (.ref s.heap.objs.size) { s with heap := s.heap.push (revT l ((items.size : Int) - 1)), toks := s.toks + 1 + 1 }) : wpAny (model prog w) A (call (.type "reversed") [.ref l]) Q E s :=
  callType_new called_rev (by decide) (F.typeCall_reversed_1 _) (F.newCall_reversed_1 _) (fun obj => F.args_object_init_2 obj _) F.entry_reversed_new (newRevT l items hfit) ⟨hl, ⟨_, Heap.get?_push_size _ rfl, rfl⟩, h⟩
theorem next_revT {it l : Addr} {i : Nat} {items : Array Value} {x : Value} {Q : Option Value → Shared → Prop} (hfit : (items.size : Int) < 2 ^ 63) (hit : RevT s.heap it l (i : Int)) (hl : IsTup s.heap l items) (hx : items[i]? = some x)
    (hQ : ∀ h', RevT h' it l ((i : Int) - 1) → Heap.SameBut it s.heap h' → Q (some x) { s with heap := h', toks := s.toks + 1 }) : wpAny (model prog w) A (pyNext (.ref it)) Q E s := by
  obtain ⟨o, ho, hc, hd⟩ := id hit
  have hi : i < items.size := by
    rcases Nat.lt_or_ge i items.size with g | g
    · exact g
    · rw [Array.getElem?_eq_none g] at hx; cases hx
  unfold pyNext
  refine wpAny_bind (wpAny_attempt (wpAny_callSpecial?_slot (name := Str.ofString "__next__") hit.typeIs slot_rev_next
    (wpAny_call_entry slot_rev_next hit.typeIs entry_rev_next ?_ (args_rev_next_1 _))))
  unfold Builtin.«reversed.__next__»
  refine wpAny_bind (wpAny_of_eq (a := (Value.ref it, [])) rfl ?_)
  try dsimp only
  refine wpAny_bind (wpAny_field ho hd (x := .ref l) rfl ?_)
  refine wpAny_bind (wpAny_field ho hd (x := rawInt (i : Int)) rfl ?_)
  show wpAny _ _ (if (i : Int) < 0 then _ else _) _ _ s
  rw [if_neg (by omega)]
  refine wpAny_bind (wpAny_specialOf hl.typeIs slot_tuple_getitem.lookup ?_)
  try dsimp only
  refine wpAny_bind (wpAny_mkInt ?_)
  refine wpAny_bind (wpAny_attempt (getItem_tuple (s := { s with toks := s.toks + 1 }) (j := i) (x := x) hl (by omega) (by omega) (by unfold seqIndex?; simp; omega) hx ?_))
  try dsimp only
  refine wpAny_bind (wpAny_field (s := { s with toks := s.toks + 1 }) ho hd (x := rawInt (i : Int)) rfl ?_)
  refine wpAny_bind (wpAny_setField (s := { s with toks := s.toks + 1 }) ho hd (by simp) ?_)
  first
  | refine wpAny_pure ⟨x, rfl, wpAny_pure (hQ _ ?_ (Heap.SameBut.update ..))⟩
  | refine wpAny_bind (wpAny_pure (wpAny_pure ⟨x, rfl, wpAny_pure (hQ _ ?_ (Heap.SameBut.update ..))⟩))
  exact ⟨_, Heap.get?_update_self _ ho (Obj.isFreed_of_fields (Obj.data_mapFields hd _)), (Obj.cls_mapFields ..).trans hc, by
    rw [Obj.data_mapFields hd]; simp⟩
theorem end_revT {it l : Addr} {Q : Option Value → Shared → Prop} (hh : A.handled = none) (hit : RevT s.heap it l (-1))
    (hQ : ∀ h', Heap.ExtBut it s.heap h' → Q none { s with heap := h' }) : wpAny (model prog w) A (pyNext (.ref it)) Q E s := by
  obtain ⟨o, ho, hc, hd⟩ := id hit
  unfold pyNext
  refine wpAny_bind (wpAny_attempt (wpAny_callSpecial?_slot (name := Str.ofString "__next__") hit.typeIs slot_rev_next
    (wpAny_call_entry slot_rev_next hit.typeIs entry_rev_next ?_ (args_rev_next_1 _))))
  unfold Builtin.«reversed.__next__»
  refine wpAny_bind (wpAny_of_eq (a := (Value.ref it, [])) rfl ?_)
  try dsimp only
  refine wpAny_bind (wpAny_field ho hd (x := .ref l) rfl ?_)
  refine wpAny_bind (wpAny_field ho hd (x := rawInt (-1)) rfl ?_)
  show wpAny _ _ (if (-1 : Int) < 0 then _ else _) _ _ s
  rw [if_pos (by decide)]
  refine wpAny_bind (wpAny_rule ?_)
  refine wpAny_bind ?_
  show wpAny _ _ (setField (.ref it) 1 (rawInt (-1)) >>= _) _ _ _
  refine wpAny_bind (wpAny_setField ho hd (by simp) ?_)
  have ho2 := Heap.get?_update_self (fun o => o.mapFields fun fs => fs.set! 1 (rawInt (-1))) ho (Obj.isFreed_of_fields (Obj.data_mapFields hd _))
  refine wpAny_setField ho2 (Obj.data_mapFields hd _) (by simp) ?_
  first
  | show wpAny _ _ (newExc (.type "StopIteration") [] >>= _) _ _ _
  | (refine wpAny_bind ?_; show wpAny _ _ (newExc (.type "StopIteration") [] >>= _) _ _ _)
  refine wpAny_bind ?_
  simp only [newExc, newTuple]
  refine wpAny_bind (wpAny_newObj_type ?_ (by size_fits))
  refine wpAny_bind (m := firstArgMember _ _) (wpAny_of_eq (a := Value.none) (by first | rfl | (simp only [firstArgMember]; rfl)) ?_)
  refine wpAny_newObj_type ?_ (by size_fits)
  simp only [raiseNew]
  refine wpAny_bind (wpAny_handled ?_)
  first | rw [show A.in1.handled = none from hh] | rw [hh]
  refine wpAny_bind (wpAny_pure (wpAny_throw ?_))
  refine wpAny_bind (wpAny_isInstance (T := "StopIteration") (b := true) ⟨_, Heap.get?_push_size _ rfl, rfl⟩ isSubtype_stop ?_)
  refine wpAny_pure (hQ _ ?_)
  exact (((Heap.SameBut.update ..).extBut.trans (Heap.SameBut.update ..).extBut).push _).push _
theorem iter_revT {it l : Addr} {i : Int} {Q : Value → Shared → Prop} (hit : RevT s.heap it l i) (h : Q (.ref it) s) : wpAny (model prog w) A (pyIter (.ref it)) Q E s := by
  refine wpAny_pyIter_slot hit.typeIs slot_rev_iter (wpAny_call_entry slot_rev_iter hit.typeIs entry_rev_iter ?_ (args_rev_iter_1 _))
  show wpAny _ _ (ret (.ref it)) _ _ s
  exact wpAny_pure ⟨_, rfl, "reversed", _, hit.typeIs, slot_rev_next.lookup, h⟩
end
def ItRevT (K : PySem.W.Frag) (a : Addr) (n : Nat) : It :=
  ⟨fun i H => ∃ xs x, SqT K H a xs ∧ i < n ∧ xs[n - 1 - i]? = some x, fun i H x H' => H' = H ∧ ∀ xs, SqT K H a xs → xs[n - 1 - i]? = some x, fun i _ => i = n⟩
theorem turn_revT {P : Program} {w : World} {K : PySem.W.Frag} {tg : Expr} (a it : Addr) (n : Nat) : Turn P w K tg (ItRevT K a n) [it] it (fun i h => i ≤ n ∧ RevT h it a ((n : Int) - 1 - (i : Int))) where
  mem := by simp
  obj := fun i h st b hb => by
    have e : b = it := by simpa using hb
    subst e
    obtain ⟨_, o, e, c, d⟩ := st
    exact ⟨o, e, fun v z => by rw [d] at z; cases z⟩
  keep := fun i h h' st k => ⟨st.1, st.2.at fun o e => k it (by simp) o e⟩
  item := by
    intro X hP hw hK hc i pins s σ H E I hf st hg
    subst hP hw hK
    obtain ⟨xs, x, hq, hi, hx⟩ := hg
    obtain ⟨its, rv, p, hz⟩ := I.tuple hq
    have hl := rv.length
    obtain ⟨u, hu, ru⟩ := rv.get hx
    obtain ⟨f0, f1, f2, f3, f4, f5⟩ := hf it (by simp)
    have ei : (n : Int) - 1 - (i : Int) = ((n - 1 - i : Nat) : Int) := by omega
    have hit := st.2
    rw [ei] at hit
    have hfit : (its.toArray.size : Int) < 2 ^ 63 := by
      have := big_line
      rw [List.size_toArray]; omega
    refine next_revT hfit hit p (x := u) (by simpa using hu) fun h' st' sb => ?_
    have I1 : Inv X pins σ H { s with heap := h', toks := s.toks + 1 } := I.turned (t' := s.toks + 1) (fun b o hb e => (sb.2 b hb).trans e) f0 f1 f3 f4 f5
    obtain ⟨o, e, c, d⟩ := id st'
    refine ⟨u, rfl, go_of (s := { s with heap := h', toks := s.toks + 1 }) e c d (by decide) ⟨x, H, I1, ru, ⟨rfl, fun ys hy => by rw [I.tuple_inj hy hq]; exact hx⟩, ⟨hi, ?_⟩, fun b hb => (hf b hb).1⟩⟩
    have e2 : ((n - 1 - i : Nat) : Int) - 1 = (n : Int) - 1 - ((i + 1 : Nat) : Int) := by omega
    rw [e2] at st'
    exact st'
  done := by
    intro X hP hw hK hc i pins s σ H E I hf st hg
    subst hP hw hK
    obtain ⟨f0, f1, f2, f3, f4, f5⟩ := hf it (by simp)
    have hi : i = n := hg
    subst hi
    have ei : (i : Int) - 1 - (i : Int) = -1 := by omega
    have hit := st.2
    rw [ei] at hit
    exact end_revT (I.ok.hd hc) hit fun h' eb => ⟨rfl, I.turned (t' := s.toks) (fun b o hb e => eb b o hb e) f0 f1 f3 f4 f5⟩
  self := fun _ _ _ _ _ st h => iter_revT st.2 h
def iRevC (K : PySem.W.Frag) (ta : TA) : TI := fun σ H R => ta σ H fun vs H1 => ∃ l xs, vs = [.ref l] ∧ ((SqL K H1 l xs ∧ R (ItRev K l xs.length) H1) ∨ (SqT K H1 l xs ∧ R (ItRevT K l xs.length) H1))
section
variable {X : Cx}
theorem pi_revC {tg a : Expr} {ta : TA} {p pos : Pos} (hg : Gl X "reversed") (hm : X.mg "reversed" = none) (ha : PA X [a] ta) (hs : starEach [a] X.env = [(false, eval a X.env)] := by rfl) :
    PI X tg (.Call (.Name "reversed" p) [a] [] pos) (iRevC X.K ta) := by
  intro pins s σ H R I h
  refine Call_ (ld_blt I hg hm boot_reversed (PyProof.Rows.callWith_type1 (thn (ha pos pins s σ H _ I h) fun us s1 ⟨vs, H1, I1, r1, q1⟩ => ?_) hs rfl))
  obtain ⟨l, xs, e, hx⟩ := q1
  subst e
  obtain ⟨u, rfl, ru⟩ := vals1 r1
  cases ru
  rcases hx with ⟨hx, q⟩ | ⟨hx, q⟩
  · obtain ⟨its, rx, px, zx⟩ := I1.list hx
    have hn : its.toArray.size = xs.length := by rw [List.size_toArray, rx.length]
    refine call_reversed_list px.isList ?_
    have I2 : Inv X pins σ H1 { s1 with heap := s1.heap.push (revObj l ((its.toArray.size : Int) - 1)) } := I1.kept (t' := s1.toks) fun b o q => Heap.get?_push_of_some _ q
    have st : Heap.IsRevIter (s1.heap.push (revObj l ((its.toArray.size : Int) - 1))) s1.heap.objs.size l ((xs.length : Int) - 1 - ((0 : Nat) : Int)) := ⟨_, Heap.get?_push_size _ rfl, rfl, by rw [hn]; simp [revObj]⟩
    refine wpAny_pyIter_revIter st ⟨_, _, _, _, H1, rfl, I2, turn_rev l _ xs.length, ⟨Nat.zero_le _, st⟩, fun b hb => ?_, q⟩
    have e : b = s1.heap.objs.size := by simpa using hb
    subst e
    exact I1.fpOk (Nat.le_refl _) (I1.hok.fresh (Nat.le_refl _))
  · obtain ⟨its, rx, px, zx⟩ := I1.tuple hx
    have hn : its.toArray.size = xs.length := by rw [List.size_toArray, rx.length]
    have hfit : (its.toArray.size : Int) < 2 ^ 63 := by
      have := big_line
      rw [hn]; omega
    refine call_revT hfit px ?_
    have I2 : Inv X pins σ H1 { s1 with heap := s1.heap.push (revT l ((its.toArray.size : Int) - 1)), toks := s1.toks + 1 + 1 } := I1.kept (t' := s1.toks + 1 + 1) fun b o q => Heap.get?_push_of_some _ q
    have st : RevT (s1.heap.push (revT l ((its.toArray.size : Int) - 1))) s1.heap.objs.size l ((xs.length : Int) - 1 - ((0 : Nat) : Int)) := ⟨_, Heap.get?_push_size _ rfl, rfl, by rw [hn]; simp⟩
    refine iter_revT (s := { s1 with heap := s1.heap.push (revT l ((its.toArray.size : Int) - 1)), toks := s1.toks + 1 + 1 }) st ⟨_, _, _, _, H1, rfl, I2, turn_revT l _ xs.length, ⟨Nat.zero_le _, st⟩, fun b hb => ?_, q⟩
    have e : b = s1.heap.objs.size := by simpa using hb
    subst e
    exact I1.fpOk (Nat.le_refl _) (I1.hok.fresh (Nat.le_refl _))
end
end My
namespace My
open PySem PySem.Spec PyProof.Rows L2
def twoOf : Option Value → Array Value
  | none => #[]
  | some v => #[v, v]
theorem tree_kw {prog : Program} {w : World} {A : Around} {E : Value → Shared → Prop} {s : Shared} {id : String} {b : Builtin} {args : List Value} {kw : List (Str × Value)} {Q : Value → Shared → Prop} (hk : builtinKind id = none) (hp : plainId id = true)
    (hb : entryFor table id = some b) (ha : argsOk id ⟨args, kw⟩)
    (hc : wpAny (model prog w) A.in1 (b ⟨args, kw⟩) (fun fin s' => match fin with
      | .done f => (match (Except.ok f : Result) with | .ok (.ret v) => Q v s' | .ok _ => False | .error e => E e s')
      | .again c' => c'.quiet = true ∧ codeAny (model prog w) A c' (fun r s' => match r with | .ok (.ret v) => Q v s' | .ok _ => False | .error e => E e s') s') E s) :
    wpAny (model prog w) A (call (.builtin id) args kw) Q E s := by
  refine wpAny_call (codeAny_call_builtin hp hb ?_)
  simp only [checkBuiltinCall, hk]
  cases hsig : Manifest.signature? id with
  | none => exact wpAny_pure hc
  | some sig =>
    have h2 : Bind.checkArgs id sig ⟨args, kw⟩ = pure () := by simpa only [argsOk, hsig] using ha
    simp only [h2]
    exact wpAny_pure hc
theorem args_maxD (a d : Value) : argsOk "max" ⟨[a], [(Str.ofString "default", d)]⟩ := by unfold argsOk; kernel_rfl
theorem max_loopD {prog : Program} {w : World} {A : Around} {R : Result → Shared → Prop} {I : Addr} {fp wr : List Addr} {n : Nat} {P : Nat → Value → Prop} {St : Nat → Heap → Prop} {d : Value}
    (W : Walks prog w A.in1 I fp wr n P St) (bt : Nat → Nat → Bool) (hcmp : CmpOf prog w A.in1 .Gt P bt) (S : Addr) (hSf : S ∉ fp) :
    ∀ (k j : Nat) (s : Shared) (b : Option Value) (c : Nat), n - j = k → j ≤ n → St j s.heap → (match b with | none => j = 0 | some v => 0 < j ∧ P (argBest bt (j - 1)) v) →
    s.heap.get? S = some { cls := .type "list", dict := none, data := .seq (twoOf b) c, slots := #[] } →
    (∀ v h' tk, (n = 0 ∧ v = d ∨ 0 < n ∧ P (argBest bt (n - 1)) v) → (∀ b o, b ∉ wr → b ≠ S → s.heap.get? b = some o → h'.get? b = some o) → R (.ok (.ret v)) { s with heap := h', toks := tk }) →
    codeAny (model prog w) A (.builtin "max.loop" ⟨[.ref I, .none, .ref S], [(Str.ofString "default", d)]⟩) R s := by
  have hSw : S ∉ wr := fun h => hSf (W.sub _ h)
  have hname : (toString "max" ++ toString ".loop" : String) = "max.loop" := by decide
  intro k
  induction k with
  | zero =>
    intro j s b c hk hj hst hb hS hR
    have hin : j = n := by omega
    refine codeAny_builtin F.entry_max_loop ?_
    rw [Around.under_plainId F.plain_max_loop _]
    show wpAny _ A.in1 (seqItems? (.ref S) >>= _) _ _ s
    refine wpAny_bind (wpAny_seqItems hS rfl ?_)
    show wpAny _ A.in1 (tryCatch (pyNext (.ref I)) _ >>= _) _ _ s
    refine wpAny_bind (wpAny_tryCatch (W.done s _ _ (hin ▸ hst) fun h' tk hk' => ?_))
    have hS' := hk' S _ hSw hS
    cases b with
    | none =>
      have hj0 : j = 0 := hb
      show wpAny _ A.in1 (rule _ >>= _) _ _ _
      refine wpAny_bind (wpAny_rule (wpAny_pure ?_))
      exact hR d _ tk (.inl ⟨by omega, rfl⟩) fun b o hbw hbS e => hk' b o hbw e
    | some vb =>
      replace hS' : h'.get? S = some { cls := .type "list", dict := none, data := .seq #[vb, vb] c, slots := #[] } := hS'
      show wpAny _ A.in1 (updateSeq S (fun _ => #[]) >>= _) _ _ _
      refine wpAny_bind ?_
      refine wpAny_updateSeq hS' rfl (wpAny_bind (wpAny_letGo (wpAny_pure ?_)))
      have hb1 : 0 < j := hb.1
      exact hR vb _ tk (.inr ⟨by omega, by rw [← hin]; exact hb.2⟩) fun b o hbw hbS e => (Heap.get?_update_other _ _ (Ne.symm hbS)).trans (hk' b o hbw e)
  | succ k ih =>
    intro j s b c hk hj hst hb hS hR
    have hlt : j < n := by omega
    refine codeAny_builtin F.entry_max_loop ?_
    rw [Around.under_plainId F.plain_max_loop _]
    show wpAny _ A.in1 (seqItems? (.ref S) >>= _) _ _ s
    refine wpAny_bind (wpAny_seqItems hS rfl ?_)
    show wpAny _ A.in1 (tryCatch (pyNext (.ref I)) _ >>= _) _ _ s
    refine wpAny_bind (wpAny_tryCatch (W.item j s _ _ hlt hst fun v h' tk hP hst' hk' => ?_))
    have hS' := hk' S _ hSw hS
    cases b with
    | none =>
      have hj0 : j = 0 := hb
      subst hj0
      show wpAny _ A.in1 (updateSeq S (fun _ => #[v, v]) >>= _) _ _ _
      refine wpAny_bind ?_
      refine wpAny_updateSeq hS' rfl ?_
      rw [hname]
      refine wpAny_pure ⟨plainId_quiet F.plain_max_loop _, ih 1 _ (some v) _ (by omega) hlt (W.frame _ _ _ hst' fun b hbf o e => ?_) ⟨Nat.one_pos, hP⟩ (Heap.get?_update_self _ hS' rfl) fun v' h'' tk'' hP' hk'' => ?_⟩
      · exact (Heap.get?_update_other _ _ (fun h : S = b => hSf (by rw [h]; exact hbf))).trans e
      · exact hR v' h'' tk'' hP' fun b o hbw hbS e => hk'' b o hbw hbS ((Heap.get?_update_other _ _ (Ne.symm hbS)).trans (hk' b o hbw e))
    | some vb =>
      obtain ⟨j', rfl⟩ : ∃ j', j = j' + 1 := ⟨j - 1, by have := hb.1; omega⟩
      have hPb : P (argBest bt j') vb := hb.2
      replace hS' : h'.get? S = some { cls := .type "list", dict := none, data := .seq #[vb, vb] c, slots := #[] } := hS'
      show wpAny _ A.in1 (tryCatch (holding [v, v] (richCompare .Gt v vb >>= _)) _ >>= _) _ _ _
      refine wpAny_bind (wpAny_tryCatch (wpAny_holding (wpAny_bind (hcmp (j' + 1) (argBest bt j') v vb _ _ _ hP hPb ?_))))
      refine wpAny_bind (wpAny_holding (wpAny_truthy_bool ?_))
      refine wpAny_bind (wpAny_letGo (wpAny_pure ?_))
      cases hbb : bt (j' + 1) (argBest bt j') with
      | true =>
        simp only [if_true]
        refine wpAny_bind ?_
        refine wpAny_updateSeq hS' rfl (wpAny_bind (wpAny_letGo ?_))
        rw [hname]
        refine wpAny_pure ⟨plainId_quiet F.plain_max_loop _, ih (j' + 1 + 1) _ (some v) _ (by omega) hlt (W.frame _ _ _ hst' fun b hbf o e => ?_) ⟨Nat.succ_pos _, by show P (argBest bt (j' + 1)) v; simp only [argBest, hbb, if_true]; exact hP⟩ (Heap.get?_update_self _ hS' rfl)
          fun v' h'' tk'' hP' hk'' => ?_⟩
        · exact (Heap.get?_update_other _ _ (fun h : S = b => hSf (by rw [h]; exact hbf))).trans e
        · exact hR v' h'' tk'' hP' fun b o hbw hbS e => hk'' b o hbw hbS ((Heap.get?_update_other _ _ (Ne.symm hbS)).trans (hk' b o hbw e))
      | false =>
        simp only [Bool.false_eq_true, if_false]
        refine wpAny_bind (wpAny_letGo ?_)
        rw [hname]
        refine wpAny_pure ⟨plainId_quiet F.plain_max_loop _, ih (j' + 1 + 1) _ (some vb) c (by omega) hlt hst' ⟨Nat.succ_pos _, by show P (argBest bt (j' + 1)) vb; simp only [argBest, hbb, Bool.false_eq_true, if_false]; exact hPb⟩ hS' fun v' h'' tk'' hP' hk'' => ?_⟩
        exact hR v' h'' tk'' hP' fun b o hbw hbS e => hk'' b o hbw hbS (hk' b o hbw e)
theorem max_callD {prog : Program} {w : World} {A : Around} {E : Value → Shared → Prop} {s : Shared} {d : Value} {x : Value} {Q : Value → Shared → Prop}
    (h : wpAny (model prog w) A.in1 (pyIter x) (fun it s₂ => ∃ I fp wr n P St bt, it = .ref I ∧ Walks prog w A.in1 I fp wr n P St ∧ St 0 s₂.heap ∧ (∀ b ∈ fp, b < s₂.heap.objs.size) ∧ CmpOf prog w A.in1 .Gt P bt ∧
      ∀ v h' tk, (n = 0 ∧ v = d ∨ 0 < n ∧ P (argBest bt (n - 1)) v) → (∀ b o, b ∉ wr → s₂.heap.get? b = some o → h'.get? b = some o) → Q v { s₂ with heap := h', toks := tk }) E s) :
    wpAny (model prog w) A (call (.builtin "max") [x] [(Str.ofString "default", d)]) Q E s := by
  have hname : (toString "max" ++ toString ".loop" : String) = "max.loop" := by decide
  refine tree_kw F.kind_max F.plain_max F.entry_max (args_maxD _ _) ?_
  show wpAny _ A.in1 (Builtin.Builtins.bindParams "max" ["key", "default"] 0 ⟨[], [(Str.ofString "default", d)]⟩ >>= _) _ _ s
  refine wpAny_bind (wpAny_of_eq (show Builtin.Builtins.bindParams "max" ["key", "default"] 0 ⟨[], [(Str.ofString "default", d)]⟩ = pure [none, some d] from rfl) ?_)
  refine wpAny_bind (wpAny_pure ?_)
  refine wpAny_bind (wpAny_mono h (fun it s₂ h₂ => ?_) fun _ _ e => e)
  obtain ⟨I, fp, wr, n, P, St, bt, rfl, W, hst, hfp, hcmp, hQ⟩ := h₂
  refine wpAny_bind (wpAny_newObj_type ?_)
  have hSf : s₂.heap.objs.size ∉ fp := fun hm => Nat.lt_irrefl _ (hfp _ hm)
  rw [hname]
  refine wpAny_pure ⟨plainId_quiet F.plain_max_loop _, max_loopD W bt hcmp s₂.heap.objs.size hSf _ 0 _ none _ rfl (Nat.zero_le _) (W.frame _ _ _ hst fun b _ o e => Heap.get?_push_of_some _ e) rfl (Heap.get?_push_size _ rfl) fun v h' tk hP hk => ?_⟩
  exact hQ v h' tk hP fun b o hbw e => hk b o hbw (Nat.ne_of_lt (Heap.lt_size e)) (Heap.get?_push_of_some _ e)
theorem max_listD {prog : Program} {w : World} {A : Around} {E : Value → Shared → Prop} {s : Shared} {l : Addr} {xs : Array (Int × Tok)} {d : Value} {Q : Value → Shared → Prop} (hh : A.handled = none) (hl : s.heap.IsList l (intItems xs))
    (h : ∀ v h' tk, (xs.size = 0 ∧ v = d ∨ 0 < xs.size ∧ (intItems xs)[argBest (fun i j => decide (numAt xs i > numAt xs j)) (xs.size - 1)]? = some v) → (∀ b o, s.heap.get? b = some o → h'.get? b = some o) → Q v { s with heap := h', toks := tk }) :
    wpAny (model prog w) A (call (.builtin "max") [.ref l] [(Str.ofString "default", d)]) Q E s := by
  refine max_callD (iter_intList hl fun s₂ e st hfp hlI => ?_)
  subst e
  refine ⟨_, _, _, _, _, _, _, rfl, Walks.list (A := A.in1) hh _ l hlI (intItems xs), st, hfp, CmpOf.ints_gt (numAt xs) (fun _ _ => intItems_at), fun v h' tk hP hk => ?_⟩
  exact h v h' tk (by simpa [intItems] using hP) (old_kept hk)
def rmaxD (K : PySem.W.Frag) : List V → Hp → VK → Prop := fun xs H Q => ∃ (p : Addr) (ns : List Int), xs = [.ref p] ∧ SqL K H p (ns.map V.int) ∧ (ns = [] → Q .non H) ∧ ∀ m : Int, m ∈ ns → (∀ a ∈ ns, a ≤ m) → Q (.int m) H
section
variable {X : Cx}
theorem pe_maxD {e : Expr} {t : TA} {p kp pos cp : Pos} {j : Nat} (hc : X.calm = true) (hg : Gl X "max") (hm : X.mg "max" = none) (hv : bootBuiltins "max" = some (.builtin "max")) (ha : PA X [e] t)
    (he : backTo pos (starEach [e] X.env) = (false, eval e X.env) :: backTo pos (starEach [] X.env) := by rfl) (hpl : (backTo pos (starEach [e] X.env)).any (·.1) = false := by rfl) :
    PE X (.Call (.Name "max" p) [e] [⟨some "default", .Constant .none j cp, kp⟩] pos) (tCB (rmaxD X.K) t) := by
  intro pins s σ H Q I h
  refine wpAny_Call_Name_kw (ld_blt I hg hm hv ?_)
  refine callWith_kw (thn (ha pos pins s σ H _ I h) fun us s1 ⟨vs, H1, I1, r1, q1⟩ => ?_) he hpl
  refine kws_cons (Constant_none (kws_nil ?_))
  obtain ⟨q, ns, rfl, hS, q0, q⟩ := q1
  obtain ⟨u, rfl, ru⟩ := vals1 r1
  cases ru
  obtain ⟨its, rv, pl, hz⟩ := I1.list hS
  obtain ⟨xs, e1, e2⟩ := vals_items rv
  refine max_listD (d := .none) (I1.ok.hd hc) (e1 ▸ pl.isList) fun v h' tk hv hk => ?_
  rcases hv with ⟨hn, rfl⟩ | ⟨hn, hv⟩
  · have hns : ns = [] := by
      rw [← e2]
      have : xs.toList = [] := List.length_eq_zero_iff.mp (by rw [Array.length_toList]; exact hn)
      rw [this]; rfl
    exact ⟨.non, H1, I1.kept (t' := tk) hk, rfl, q0 hns⟩
  · obtain ⟨t, rfl⟩ := intItems_at hv
    obtain ⟨h1, h2⟩ := argBest_gt (numAt xs) (xs.size - 1)
    refine ⟨.int _, H1, I1.kept (t' := tk) hk, ⟨t, rfl⟩, q _ ?_ fun a ha => ?_⟩
    · rw [← e2, numAt_eq]; exact getD_mem (by rw [List.length_map, Array.length_toList]; omega)
    · rw [← e2] at ha
      obtain ⟨j, hj, rfl⟩ := mem_getD ha
      rw [List.length_map, Array.length_toList] at hj
      rw [← numAt_eq]; exact h2 j (by omega)
end
theorem args_minD (a d : Value) : argsOk "min" ⟨[a], [(Str.ofString "default", d)]⟩ := by unfold argsOk; kernel_rfl
theorem min_loopD {prog : Program} {w : World} {A : Around} {R : Result → Shared → Prop} {I : Addr} {fp wr : List Addr} {n : Nat} {P : Nat → Value → Prop} {St : Nat → Heap → Prop} {d : Value}
    (W : Walks prog w A.in1 I fp wr n P St) (bt : Nat → Nat → Bool) (hcmp : CmpOf prog w A.in1 .Lt P bt) (S : Addr) (hSf : S ∉ fp) :
    ∀ (k j : Nat) (s : Shared) (b : Option Value) (c : Nat), n - j = k → j ≤ n → St j s.heap → (match b with | none => j = 0 | some v => 0 < j ∧ P (argBest bt (j - 1)) v) →
    s.heap.get? S = some { cls := .type "list", dict := none, data := .seq (twoOf b) c, slots := #[] } →
    (∀ v h' tk, (n = 0 ∧ v = d ∨ 0 < n ∧ P (argBest bt (n - 1)) v) → (∀ b o, b ∉ wr → b ≠ S → s.heap.get? b = some o → h'.get? b = some o) → R (.ok (.ret v)) { s with heap := h', toks := tk }) →
    codeAny (model prog w) A (.builtin "min.loop" ⟨[.ref I, .none, .ref S], [(Str.ofString "default", d)]⟩) R s := by
  have hSw : S ∉ wr := fun h => hSf (W.sub _ h)
  have hname : (toString "min" ++ toString ".loop" : String) = "min.loop" := by decide
  intro k
  induction k with
  | zero =>
    intro j s b c hk hj hst hb hS hR
    have hin : j = n := by omega
    refine codeAny_builtin F.entry_min_loop ?_
    rw [Around.under_plainId F.plain_min_loop _]
    show wpAny _ A.in1 (seqItems? (.ref S) >>= _) _ _ s
    refine wpAny_bind (wpAny_seqItems hS rfl ?_)
    show wpAny _ A.in1 (tryCatch (pyNext (.ref I)) _ >>= _) _ _ s
    refine wpAny_bind (wpAny_tryCatch (W.done s _ _ (hin ▸ hst) fun h' tk hk' => ?_))
    have hS' := hk' S _ hSw hS
    cases b with
    | none =>
      have hj0 : j = 0 := hb
      show wpAny _ A.in1 (rule _ >>= _) _ _ _
      refine wpAny_bind (wpAny_rule (wpAny_pure ?_))
      exact hR d _ tk (.inl ⟨by omega, rfl⟩) fun b o hbw hbS e => hk' b o hbw e
    | some vb =>
      replace hS' : h'.get? S = some { cls := .type "list", dict := none, data := .seq #[vb, vb] c, slots := #[] } := hS'
      show wpAny _ A.in1 (updateSeq S (fun _ => #[]) >>= _) _ _ _
      refine wpAny_bind ?_
      refine wpAny_updateSeq hS' rfl (wpAny_bind (wpAny_letGo (wpAny_pure ?_)))
      have hb1 : 0 < j := hb.1
      exact hR vb _ tk (.inr ⟨by omega, by rw [← hin]; exact hb.2⟩) fun b o hbw hbS e => (Heap.get?_update_other _ _ (Ne.symm hbS)).trans (hk' b o hbw e)
  | succ k ih =>
    intro j s b c hk hj hst hb hS hR
    have hlt : j < n := by omega
    refine codeAny_builtin F.entry_min_loop ?_
    rw [Around.under_plainId F.plain_min_loop _]
    show wpAny _ A.in1 (seqItems? (.ref S) >>= _) _ _ s
    refine wpAny_bind (wpAny_seqItems hS rfl ?_)
    show wpAny _ A.in1 (tryCatch (pyNext (.ref I)) _ >>= _) _ _ s
    refine wpAny_bind (wpAny_tryCatch (W.item j s _ _ hlt hst fun v h' tk hP hst' hk' => ?_))
    have hS' := hk' S _ hSw hS
    cases b with
    | none =>
      have hj0 : j = 0 := hb
      subst hj0
      show wpAny _ A.in1 (updateSeq S (fun _ => #[v, v]) >>= _) _ _ _
      refine wpAny_bind ?_
      refine wpAny_updateSeq hS' rfl ?_
      rw [hname]
      refine wpAny_pure ⟨plainId_quiet F.plain_min_loop _, ih 1 _ (some v) _ (by omega) hlt (W.frame _ _ _ hst' fun b hbf o e => ?_) ⟨Nat.one_pos, hP⟩ (Heap.get?_update_self _ hS' rfl) fun v' h'' tk'' hP' hk'' => ?_⟩
      · exact (Heap.get?_update_other _ _ (fun h : S = b => hSf (by rw [h]; exact hbf))).trans e
      · exact hR v' h'' tk'' hP' fun b o hbw hbS e => hk'' b o hbw hbS ((Heap.get?_update_other _ _ (Ne.symm hbS)).trans (hk' b o hbw e))
    | some vb =>
      obtain ⟨j', rfl⟩ : ∃ j', j = j' + 1 := ⟨j - 1, by have := hb.1; omega⟩
      have hPb : P (argBest bt j') vb := hb.2
      replace hS' : h'.get? S = some { cls := .type "list", dict := none, data := .seq #[vb, vb] c, slots := #[] } := hS'
      show wpAny _ A.in1 (tryCatch (holding [v, v] (richCompare .Lt v vb >>= _)) _ >>= _) _ _ _
      refine wpAny_bind (wpAny_tryCatch (wpAny_holding (wpAny_bind (hcmp (j' + 1) (argBest bt j') v vb _ _ _ hP hPb ?_))))
      refine wpAny_bind (wpAny_holding (wpAny_truthy_bool ?_))
      refine wpAny_bind (wpAny_letGo (wpAny_pure ?_))
      cases hbb : bt (j' + 1) (argBest bt j') with
      | true =>
        simp only [if_true]
        refine wpAny_bind ?_
        refine wpAny_updateSeq hS' rfl (wpAny_bind (wpAny_letGo ?_))
        rw [hname]
        refine wpAny_pure ⟨plainId_quiet F.plain_min_loop _, ih (j' + 1 + 1) _ (some v) _ (by omega) hlt (W.frame _ _ _ hst' fun b hbf o e => ?_) ⟨Nat.succ_pos _, by show P (argBest bt (j' + 1)) v; simp only [argBest, hbb, if_true]; exact hP⟩ (Heap.get?_update_self _ hS' rfl)
          fun v' h'' tk'' hP' hk'' => ?_⟩
        · exact (Heap.get?_update_other _ _ (fun h : S = b => hSf (by rw [h]; exact hbf))).trans e
        · exact hR v' h'' tk'' hP' fun b o hbw hbS e => hk'' b o hbw hbS ((Heap.get?_update_other _ _ (Ne.symm hbS)).trans (hk' b o hbw e))
      | false =>
        simp only [Bool.false_eq_true, if_false]
        refine wpAny_bind (wpAny_letGo ?_)
        rw [hname]
        refine wpAny_pure ⟨plainId_quiet F.plain_min_loop _, ih (j' + 1 + 1) _ (some vb) c (by omega) hlt hst' ⟨Nat.succ_pos _, by show P (argBest bt (j' + 1)) vb; simp only [argBest, hbb, Bool.false_eq_true, if_false]; exact hPb⟩ hS' fun v' h'' tk'' hP' hk'' => ?_⟩
        exact hR v' h'' tk'' hP' fun b o hbw hbS e => hk'' b o hbw hbS (hk' b o hbw e)
theorem min_callD {prog : Program} {w : World} {A : Around} {E : Value → Shared → Prop} {s : Shared} {d : Value} {x : Value} {Q : Value → Shared → Prop}
    (h : wpAny (model prog w) A.in1 (pyIter x) (fun it s₂ => ∃ I fp wr n P St bt, it = .ref I ∧ Walks prog w A.in1 I fp wr n P St ∧ St 0 s₂.heap ∧ (∀ b ∈ fp, b < s₂.heap.objs.size) ∧ CmpOf prog w A.in1 .Lt P bt ∧
      ∀ v h' tk, (n = 0 ∧ v = d ∨ 0 < n ∧ P (argBest bt (n - 1)) v) → (∀ b o, b ∉ wr → s₂.heap.get? b = some o → h'.get? b = some o) → Q v { s₂ with heap := h', toks := tk }) E s) :
    wpAny (model prog w) A (call (.builtin "min") [x] [(Str.ofString "default", d)]) Q E s := by
  have hname : (toString "min" ++ toString ".loop" : String) = "min.loop" := by decide
  refine tree_kw F.kind_min F.plain_min F.entry_min (args_minD _ _) ?_
  show wpAny _ A.in1 (Builtin.Builtins.bindParams "min" ["key", "default"] 0 ⟨[], [(Str.ofString "default", d)]⟩ >>= _) _ _ s
  refine wpAny_bind (wpAny_of_eq (show Builtin.Builtins.bindParams "min" ["key", "default"] 0 ⟨[], [(Str.ofString "default", d)]⟩ = pure [none, some d] from rfl) ?_)
  refine wpAny_bind (wpAny_pure ?_)
  refine wpAny_bind (wpAny_mono h (fun it s₂ h₂ => ?_) fun _ _ e => e)
  obtain ⟨I, fp, wr, n, P, St, bt, rfl, W, hst, hfp, hcmp, hQ⟩ := h₂
  refine wpAny_bind (wpAny_newObj_type ?_)
  have hSf : s₂.heap.objs.size ∉ fp := fun hm => Nat.lt_irrefl _ (hfp _ hm)
  rw [hname]
  refine wpAny_pure ⟨plainId_quiet F.plain_min_loop _, min_loopD W bt hcmp s₂.heap.objs.size hSf _ 0 _ none _ rfl (Nat.zero_le _) (W.frame _ _ _ hst fun b _ o e => Heap.get?_push_of_some _ e) rfl (Heap.get?_push_size _ rfl) fun v h' tk hP hk => ?_⟩
  exact hQ v h' tk hP fun b o hbw e => hk b o hbw (Nat.ne_of_lt (Heap.lt_size e)) (Heap.get?_push_of_some _ e)
theorem min_listD {prog : Program} {w : World} {A : Around} {E : Value → Shared → Prop} {s : Shared} {l : Addr} {xs : Array (Int × Tok)} {d : Value} {Q : Value → Shared → Prop} (hh : A.handled = none) (hl : s.heap.IsList l (intItems xs))
    (h : ∀ v h' tk, (xs.size = 0 ∧ v = d ∨ 0 < xs.size ∧ (intItems xs)[argBest (fun i j => decide (numAt xs i < numAt xs j)) (xs.size - 1)]? = some v) → (∀ b o, s.heap.get? b = some o → h'.get? b = some o) → Q v { s with heap := h', toks := tk }) :
    wpAny (model prog w) A (call (.builtin "min") [.ref l] [(Str.ofString "default", d)]) Q E s := by
  refine min_callD (iter_intList hl fun s₂ e st hfp hlI => ?_)
  subst e
  refine ⟨_, _, _, _, _, _, _, rfl, Walks.list (A := A.in1) hh _ l hlI (intItems xs), st, hfp, CmpOf.ints_lt (numAt xs) (fun _ _ => intItems_at), fun v h' tk hP hk => ?_⟩
  exact h v h' tk (by simpa [intItems] using hP) (old_kept hk)
def rminD (K : PySem.W.Frag) : List V → Hp → VK → Prop := fun xs H Q => ∃ (p : Addr) (ns : List Int), xs = [.ref p] ∧ SqL K H p (ns.map V.int) ∧ (ns = [] → Q .non H) ∧ ∀ m : Int, m ∈ ns → (∀ a ∈ ns, m ≤ a) → Q (.int m) H
section
variable {X : Cx}
theorem pe_minD {e : Expr} {t : TA} {p kp pos cp : Pos} {j : Nat} (hc : X.calm = true) (hg : Gl X "min") (hm : X.mg "min" = none) (hv : bootBuiltins "min" = some (.builtin "min")) (ha : PA X [e] t)
    (he : backTo pos (starEach [e] X.env) = (false, eval e X.env) :: backTo pos (starEach [] X.env) := by rfl) (hpl : (backTo pos (starEach [e] X.env)).any (·.1) = false := by rfl) :
    PE X (.Call (.Name "min" p) [e] [⟨some "default", .Constant .none j cp, kp⟩] pos) (tCB (rminD X.K) t) := by
  intro pins s σ H Q I h
  refine wpAny_Call_Name_kw (ld_blt I hg hm hv ?_)
  refine callWith_kw (thn (ha pos pins s σ H _ I h) fun us s1 ⟨vs, H1, I1, r1, q1⟩ => ?_) he hpl
  refine kws_cons (Constant_none (kws_nil ?_))
  obtain ⟨q, ns, rfl, hS, q0, q⟩ := q1
  obtain ⟨u, rfl, ru⟩ := vals1 r1
  cases ru
  obtain ⟨its, rv, pl, hz⟩ := I1.list hS
  obtain ⟨xs, e1, e2⟩ := vals_items rv
  refine min_listD (d := .none) (I1.ok.hd hc) (e1 ▸ pl.isList) fun v h' tk hv hk => ?_
  rcases hv with ⟨hn, rfl⟩ | ⟨hn, hv⟩
  · have hns : ns = [] := by
      rw [← e2]
      have : xs.toList = [] := List.length_eq_zero_iff.mp (by rw [Array.length_toList]; exact hn)
      rw [this]; rfl
    exact ⟨.non, H1, I1.kept (t' := tk) hk, rfl, q0 hns⟩
  · obtain ⟨t, rfl⟩ := intItems_at hv
    obtain ⟨h1, h2⟩ := argBest_lt (numAt xs) (xs.size - 1)
    refine ⟨.int _, H1, I1.kept (t' := tk) hk, ⟨t, rfl⟩, q _ ?_ fun a ha => ?_⟩
    · rw [← e2, numAt_eq]; exact getD_mem (by rw [List.length_map, Array.length_toList]; omega)
    · rw [← e2] at ha
      obtain ⟨j, hj, rfl⟩ := mem_getD ha
      rw [List.length_map, Array.length_toList] at hj
      rw [← numAt_eq]; exact h2 j (by omega)
end
end My
namespace My
open PySem PySem.Spec PyProof.Rows L2
section
variable {prog : Program} {w : World} {A : Around} {E : Value → Shared → Prop} {s : Shared}
end
end My
namespace My
open PySem PySem.Spec PyProof.Rows L2
abbrev IsZipO (h : Heap) (z TI TO a : Addr) (f : Bool) : Prop := h.get? z = some { cls := .type "zip", data := .fields #[rawInt a, .bool f, .bool false, .ref TI, .ref TO] }
section
variable {prog : Program} {w : World} {A : Around} {E : Value → Shared → Prop} {s : Shared}
theorem aliveZ {a : Addr} {o : Obj} {Q : Option Obj → Shared → Prop} (ho : s.heap.get? a = some o) (h : Q (some o) s) : wpAny (model prog w) A (loadIfAlive a) Q E s := by
  have h' : Q (s.heap.get? a) s := by rw [ho]; exact h
  exact fun _ _ _ => h'
theorem ownZ {z TI TO a : Addr} {f : Bool} {o : Obj} {Q : Bool → Shared → Prop} (hz : IsZipO s.heap z TI TO a f) (ha : s.heap.get? a = some o)
    (h : ∀ h', IsZipO h' z TI TO a true → Heap.SameBut z s.heap h' → Q false { s with heap := h' }) : wpAny (model prog w) A (Builtin.SmallTypes.ownedTupleIsFree (.ref z)) Q E s := by
  unfold Builtin.SmallTypes.ownedTupleIsFree
  refine wpAny_bind (wpAny_field hz rfl (x := rawInt a) rfl ?_)
  show wpAny _ _ (loadIfAlive ((a : Int).toNat) >>= _) _ _ _
  rw [Int.toNat_natCast]
  refine wpAny_bind (aliveZ ha ?_)
  simp only [Option.isNone_some, Bool.false_eq_true, if_false]
  refine wpAny_bind (wpAny_field hz rfl (x := .bool f) rfl ?_)
  cases f with
  | true =>
    rw [if_neg (show ¬ ((Value.bool true != Value.bool true) = true) from Bool.false_ne_true)]
    exact wpAny_pure (h s.heap hz (Heap.SameBut.refl ..))
  | false =>
    rw [if_pos (show (Value.bool false != Value.bool true) = true from rfl)]
    refine wpAny_bind (wpAny_setField_rec hz (by simp) fun h₃ he₃ hs₃ => ?_)
    exact wpAny_pure (h h₃ he₃ hs₃)
theorem nextO_item {z TI TO i1 i2 l1 l2 q : Addr} {f : Bool} {oq : Obj} {k : Nat} {xs ys : Array Value} {x y : Value} {Q : Option Value → Shared → Prop} (D : ZipApart z TI TO i1 i2 l1 l2)
    (hz : IsZipO s.heap z TI TO q f) (hq : s.heap.get? q = some oq) (hTI : IsPair s.heap TI (.ref i1) (.ref i2)) (h1 : ItAt true s.heap i1 l1 k) (h2 : ItAt true s.heap i2 l2 k) (hl1 : SqAt true s.heap l1 xs) (hl2 : SqAt true s.heap l2 ys) (hx : xs[k]? = some x) (hy : ys[k]? = some y)
    (hQ : ∀ h', IsZipO h' z TI TO q true → ItAt true h' i1 l1 (k + 1) → ItAt true h' i2 l2 (k + 1) → IsPair h' s.heap.objs.size x y → h'.objs.size = s.heap.objs.size + 1 →
      (∀ c o, c ≠ z → c ≠ TO → c ≠ i1 → c ≠ i2 → s.heap.get? c = some o → h'.get? c = some o) → Q (some (.ref s.heap.objs.size)) { s with heap := h' }) : wpAny (model prog w) A (pyNext (.ref z)) Q E s := by
  have hT : s.TypeIs (.ref z) "zip" := ⟨_, hz, rfl⟩
  unfold pyNext
  refine wpAny_bind (wpAny_attempt (wpAny_callSpecial?_slot (name := Str.ofString "__next__") hT F.slot_zip_next (wpAny_call_entry F.slot_zip_next hT F.entry_zip_next ?_ (F.args_zip_next_1 _))))
  show wpAny _ _ (field (.ref z) 2 >>= _) _ _ _
  refine wpAny_bind (wpAny_field hz rfl (x := .bool false) rfl ?_); show wpAny _ _ (field (.ref z) 3 >>= _) _ _ _
  refine wpAny_bind (wpAny_field hz rfl (x := .ref TI) rfl (wpAny_bind (wpAny_seqItems hTI rfl ?_))); show wpAny _ _ (Builtin.SmallTypes.ownedTupleIsFree (.ref z) >>= _) _ _ _
  refine wpAny_bind (ownZ hz hq fun g1 z1 e1 => ?_)
  simp only [Bool.false_eq_true, if_false]
  refine wpAny_bind ?_
  simp only [List.forIn_toArray, List.forIn_cons, List.forIn_nil]
  refine wpAny_bind (wpAny_bind (wpAny_holding ?_)); show wpAny _ _ (Builtin.SmallTypes.nextOf (.ref i1) >>= _) _ _ _
  refine wpAny_bind (nextG_item (h1.grow e1.extBut D.i1z) (hl1.grow e1.extBut D.l1z) hx fun g2 t1 e2 => wpAny_pure (wpAny_pure ?_))
  refine wpAny_bind (wpAny_bind (wpAny_holding ?_)); show wpAny _ _ (Builtin.SmallTypes.nextOf (.ref i2) >>= _) _ _ _
  refine wpAny_bind (nextG_item ((h2.grow e1.extBut D.i2z).grow e2.extBut D.i12.symm) ((hl2.grow e1.extBut D.l2z).grow e2.extBut D.l2i1) hy fun g3 t2 e3 => wpAny_pure (wpAny_pure (wpAny_pure ?_)))
  show wpAny _ _ (newTuple [x, y] >>= _) _ _ _
  refine wpAny_bind (wpAny_newTuple ?_)
  have sz : g3.objs.size = s.heap.objs.size := by rw [e3.1, e2.1, e1.1]
  have kk : ∀ c o, c ≠ z → c ≠ TO → c ≠ i1 → c ≠ i2 → s.heap.get? c = some o → g3.get? c = some o := fun c o c1 _ c3 c4 e => e3.extBut _ _ c4 (e2.extBut _ _ c3 (e1.extBut _ _ c1 e))
  refine wpAny_pure ⟨_, rfl, wpAny_pure ?_⟩
  show Q (some (.ref g3.objs.size)) _
  have t3 : ItAt true g3 i1 l1 (k + 1) := t1.grow e3.extBut D.i12
  have z3 : IsZipO g3 z TI TO q true := e3.extBut _ _ D.i2z.symm (e2.extBut _ _ D.i1z.symm z1)
  rw [sz]
  exact hQ _ (Heap.get?_push_of_some _ z3) (t3.at fun o e => Heap.get?_push_of_some _ e) (t2.at fun o e => Heap.get?_push_of_some _ e) (by rw [← sz]; exact Heap.get?_push_size _ rfl) (by rw [Heap.size_push, sz])
    fun c o c1 c2 c3 c4 e => Heap.get?_push_of_some _ (kk c o c1 c2 c3 c4 e)
theorem nextO_end {z TI TO i1 i2 l1 l2 q : Addr} {f : Bool} {oq : Obj} {k : Nat} {xs ys : Array Value} {Q : Option Value → Shared → Prop} (hh : A.handled = none) (D : ZipApart z TI TO i1 i2 l1 l2)
    (hz : IsZipO s.heap z TI TO q f) (hq : s.heap.get? q = some oq) (hTI : IsPair s.heap TI (.ref i1) (.ref i2)) (h1 : ItAt true s.heap i1 l1 k) (h2 : ItAt true s.heap i2 l2 k) (hl1 : SqAt true s.heap l1 xs) (hl2 : SqAt true s.heap l2 ys) (hend : xs[k]? = none ∨ ys[k]? = none)
    (hQ : ∀ h', (∀ c o, c ≠ z → c ≠ TO → c ≠ i1 → c ≠ i2 → s.heap.get? c = some o → h'.get? c = some o) → Q none { s with heap := h' }) : wpAny (model prog w) A (pyNext (.ref z)) Q E s := by
  have hT : s.TypeIs (.ref z) "zip" := ⟨_, hz, rfl⟩
  unfold pyNext
  refine wpAny_bind (wpAny_attempt (wpAny_callSpecial?_slot (name := Str.ofString "__next__") hT F.slot_zip_next (wpAny_call_entry F.slot_zip_next hT F.entry_zip_next ?_ (F.args_zip_next_1 _))))
  have out : ∀ h' e, (∀ c o, c ≠ z → c ≠ TO → c ≠ i1 → c ≠ i2 → s.heap.get? c = some o → h'.get? c = some o) → (∃ o, h'.get? e = some o ∧ o.cls = .type "StopIteration") →
      wpAny (model prog w) A ((isInstance (.ref e) (.type "StopIteration")) >>= fun b => if b = true then pure none else throw (.ref e)) Q E { s with heap := h' } := fun h' e hk he => by
    obtain ⟨o, ho, hc⟩ := he
    exact wpAny_bind (wpAny_isInstance (T := "StopIteration") (b := true) ⟨o, ho, hc⟩ isSubtype_stop (wpAny_pure (hQ _ hk)))
  show wpAny _ _ (field (.ref z) 2 >>= _) _ _ _
  refine wpAny_bind (wpAny_field hz rfl (x := .bool false) rfl ?_); show wpAny _ _ (field (.ref z) 3 >>= _) _ _ _
  refine wpAny_bind (wpAny_field hz rfl (x := .ref TI) rfl (wpAny_bind (wpAny_seqItems hTI rfl ?_))); show wpAny _ _ (Builtin.SmallTypes.ownedTupleIsFree (.ref z) >>= _) _ _ _
  refine wpAny_bind (ownZ hz hq fun g1 z1 e1 => ?_)
  simp only [Bool.false_eq_true, if_false]
  refine wpAny_bind ?_
  simp only [List.forIn_toArray, List.forIn_cons, List.forIn_nil]
  refine wpAny_bind (wpAny_bind (wpAny_holding ?_)); show wpAny _ _ (Builtin.SmallTypes.nextOf (.ref i1) >>= _) _ _ _
  cases hx : xs[k]? with
  | none =>
    refine wpAny_bind (nextG_end hh (h1.grow e1.extBut D.i1z) (hl1.grow e1.extBut D.l1z) hx fun g2 e e2 he => ?_)
    exact out g2 e (fun c o c1 _ c3 _ q => e2 _ _ c3 (e1.extBut _ _ c1 q)) he
  | some x =>
    have hy : ys[k]? = none := by rcases hend with h | h; rw [hx] at h; cases h; exact h
    refine wpAny_bind (nextG_item (h1.grow e1.extBut D.i1z) (hl1.grow e1.extBut D.l1z) hx fun g2 t1 e2 => wpAny_pure (wpAny_pure ?_))
    refine wpAny_bind (wpAny_bind (wpAny_holding ?_)); show wpAny _ _ (Builtin.SmallTypes.nextOf (.ref i2) >>= _) _ _ _
    refine wpAny_bind (nextG_end hh ((h2.grow e1.extBut D.i2z).grow e2.extBut D.i12.symm) ((hl2.grow e1.extBut D.l2z).grow e2.extBut D.l2i1) hy fun g3 e e3 he => ?_)
    exact out g3 e (fun c o c1 _ c3 c4 q => e3 _ _ c4 (e2.extBut _ _ c3 (e1.extBut _ _ c1 q))) he
def ZSt (h : Heap) (z TI TO i1 i2 l1 l2 : Addr) (xs ys : Array Value) (k : Nat) : Prop :=
  ((IsZip h z TI TO .none ∧ ∃ a b, IsPair h TO a b) ∨ ∃ q f u v, IsZipO h z TI TO q f ∧ IsPair h q u v ∧ q ≠ z ∧ q ≠ TO ∧ q ≠ i1 ∧ q ≠ i2) ∧ IsPair h TI (.ref i1) (.ref i2) ∧ ItAt true h i1 l1 k ∧ ItAt true h i2 l2 k ∧ SqAt true h l1 xs ∧ SqAt true h l2 ys
theorem SqAt.up {b : Bool} {h h' : Heap} {l : Addr} {xs : Array Value} (x : SqAt b h l xs) (e : ∀ o, h.get? l = some o → h'.get? l = some o) : SqAt b h' l xs := by
  cases b
  · obtain ⟨o, ho, r⟩ : h.IsTuple l xs := x
    exact (⟨o, e o ho, r⟩ : h'.IsTuple l xs)
  · obtain ⟨o, ho, r⟩ : h.IsList l xs := x
    exact (⟨o, e o ho, r⟩ : h'.IsList l xs)
theorem zst_item {z TI TO i1 i2 l1 l2 : Addr} {k : Nat} {xs ys : Array Value} {x y : Value} {Q : Option Value → Shared → Prop} (D : ZipApart z TI TO i1 i2 l1 l2) (hZ : ZSt s.heap z TI TO i1 i2 l1 l2 xs ys k) (hx : xs[k]? = some x) (hy : ys[k]? = some y)
    (hQ : ∀ h', ZSt h' z TI TO i1 i2 l1 l2 xs ys (k + 1) → IsPair h' s.heap.objs.size x y →
      (∀ c o, c ≠ z → c ≠ TO → c ≠ i1 → c ≠ i2 → s.heap.get? c = some o → h'.get? c = some o) → Q (some (.ref s.heap.objs.size)) { s with heap := h' }) : wpAny (model prog w) A (pyNext (.ref z)) Q E s := by
  obtain ⟨h0, hTI, h1, h2, hl1, hl2⟩ := hZ
  rcases h0 with ⟨hz, a, b, hTO⟩ | ⟨q, f, u, v, hz, hq, q1, q2, q3, q4⟩
  · refine nextZ_item D hz hTI hTO h1 h2 hl1 hl2 hx hy fun h' a1 a2 a3 a4 a5 hk => hQ h' ⟨.inr ⟨_, false, x, y, a1, a5, ?_, ?_, ?_, ?_⟩, hk _ _ D.TIz D.TITO D.TIi1 D.TIi2 hTI, a3, a4, hl1.up fun o e => hk _ o D.l1z D.l1TO D.l1i1 D.l1i2 e, hl2.up fun o e => hk _ o D.l2z D.l2TO D.l2i1 D.l2i2 e⟩ a5 hk
    · exact Nat.ne_of_gt (Heap.lt_size hz)
    · exact Nat.ne_of_gt (Heap.lt_size hTO)
    · obtain ⟨o, e, _⟩ := h1.obj; exact Nat.ne_of_gt (Heap.lt_size e)
    · obtain ⟨o, e, _⟩ := h2.obj; exact Nat.ne_of_gt (Heap.lt_size e)
  · exact nextO_item D hz hq hTI h1 h2 hl1 hl2 hx hy fun h' a1 a3 a4 a5 _ hk => hQ h' ⟨.inr ⟨q, true, u, v, a1, hk _ _ q1 q2 q3 q4 hq, q1, q2, q3, q4⟩, hk _ _ D.TIz D.TITO D.TIi1 D.TIi2 hTI, a3, a4, hl1.up fun o e => hk _ o D.l1z D.l1TO D.l1i1 D.l1i2 e, hl2.up fun o e => hk _ o D.l2z D.l2TO D.l2i1 D.l2i2 e⟩ a5 hk
theorem zst_end {z TI TO i1 i2 l1 l2 : Addr} {k : Nat} {xs ys : Array Value} {Q : Option Value → Shared → Prop} (hh : A.handled = none) (D : ZipApart z TI TO i1 i2 l1 l2) (hZ : ZSt s.heap z TI TO i1 i2 l1 l2 xs ys k) (hend : xs[k]? = none ∨ ys[k]? = none)
    (hQ : ∀ h', (∀ c o, c ≠ z → c ≠ TO → c ≠ i1 → c ≠ i2 → s.heap.get? c = some o → h'.get? c = some o) → Q none { s with heap := h' }) : wpAny (model prog w) A (pyNext (.ref z)) Q E s := by
  obtain ⟨h0, hTI, h1, h2, hl1, hl2⟩ := hZ
  rcases h0 with ⟨hz, a, b, hTO⟩ | ⟨q, f, u, v, hz, hq, q1, q2, q3, q4⟩
  · exact nextZ_end hh D hz hTI hTO h1 h2 hl1 hl2 hend hQ
  · exact nextO_end hh D hz hq hTI h1 h2 hl1 hl2 hend hQ
theorem ZSt.keep {h h' : Heap} {z TI TO i1 i2 l1 l2 S : Addr} {xs ys : Array Value} {k : Nat} {oS : Obj} (hZ : ZSt h z TI TO i1 i2 l1 l2 xs ys k) (hS : h.get? S = some oS) (hc : oS.cls = .type "list") (n1 : l1 ≠ S) (n2 : l2 ≠ S) (e : ∀ b o, b ≠ S → h.get? b = some o → h'.get? b = some o) : ZSt h' z TI TO i1 i2 l1 l2 xs ys k := by
  obtain ⟨h0, hTI, h1, h2, hl1, hl2⟩ := hZ
  have ne : ∀ {b o}, h.get? b = some o → o.cls ≠ .type "list" → b ≠ S := fun q n z => by subst z; rw [hS] at q; cases q; exact n hc
  have ni : ∀ {i l}, ItAt true h i l k → i ≠ S := fun q => by
    obtain ⟨o, ho, hcl, _⟩ := q.obj
    exact ne ho (by rcases hcl with hcl | hcl <;> rw [hcl] <;> simp)
  refine ⟨?_, e _ _ (ne hTI (by simp)) hTI, h1.at fun o q => e _ o (ni h1) q, h2.at fun o q => e _ o (ni h2) q, hl1.up fun o q => e _ o n1 q, hl2.up fun o q => e _ o n2 q⟩
  rcases h0 with ⟨hz, a, b, hTO⟩ | ⟨q, f, u, v, hz, hq, r⟩
  · exact .inl ⟨e _ _ (ne hz (by simp)) hz, a, b, e _ _ (ne hTO (by simp)) hTO⟩
  · exact .inr ⟨q, f, u, v, e _ _ (ne hz (by simp)) hz, e _ _ (ne hq (by simp)) hq, r⟩
def GotZ (h : Heap) (B S : Addr) (z TO i1 i2 : Addr) (xs ys : Array Value) (ps : List Addr) : Prop :=
  ps.Nodup ∧ ∀ (j : Nat) (p : Addr), ps[j]? = some p → B ≤ p ∧ p ≠ S ∧ p ≠ z ∧ p ≠ TO ∧ p ≠ i1 ∧ p ≠ i2 ∧ ∃ x y, xs[j]? = some x ∧ ys[j]? = some y ∧ IsPair h p x y
theorem GotZ.keep {h h' : Heap} {B S z TO i1 i2 : Addr} {xs ys : Array Value} {ps : List Addr} (g : GotZ h B S z TO i1 i2 xs ys ps) (k : ∀ c o, c ≠ S → c ≠ z → c ≠ TO → c ≠ i1 → c ≠ i2 → h.get? c = some o → h'.get? c = some o) : GotZ h' B S z TO i1 i2 xs ys ps :=
  ⟨g.1, fun j p hj => by
    obtain ⟨a0, a1, a2, a3, a4, a5, x, y, hx, hy, hp⟩ := g.2 j p hj
    exact ⟨a0, a1, a2, a3, a4, a5, x, y, hx, hy, k _ _ a1 a2 a3 a4 a5 hp⟩⟩
theorem GotZ.push {h : Heap} {B S z TO i1 i2 p : Addr} {xs ys : Array Value} {ps : List Addr} {x y : Value} (g : GotZ h B S z TO i1 i2 xs ys ps) (hn : p ∉ ps) (hB : B ≤ p) (a1 : p ≠ S) (a2 : p ≠ z) (a3 : p ≠ TO) (a4 : p ≠ i1) (a5 : p ≠ i2) (hx : xs[ps.length]? = some x) (hy : ys[ps.length]? = some y) (hp : IsPair h p x y) : GotZ h B S z TO i1 i2 xs ys (ps ++ [p]) := by
  refine ⟨List.nodup_append.mpr ⟨g.1, by simp, fun a ha b hb e => by simp at hb; subst hb; exact hn (e ▸ ha)⟩, fun j q hj => ?_⟩
  rw [List.getElem?_append] at hj
  split at hj
  · exact g.2 j q hj
  · rename_i hlt
    have : j = ps.length := by
      rcases Nat.lt_or_ge (j - ps.length) 1 with h | h
      · omega
      · rw [List.getElem?_eq_none (by simpa using h)] at hj; cases hj
    subst this
    simp at hj
    subst hj
    exact ⟨hB, a1, a2, a3, a4, a5, x, y, hx, hy, hp⟩
theorem codeZ {R : Result → Shared → Prop} {z TI TO i1 i2 l1 l2 S B : Addr} {xs ys : Array Value} {n : Nat} (hh : A.in1.handled = none) (D : ZipApart z TI TO i1 i2 l1 l2) (n1 : l1 ≠ S) (n2 : l2 ≠ S) (s1 : S ≠ z) (s2 : S ≠ TO) (tl : TO < B) (s3 : S ≠ i1) (s4 : S ≠ i2) (hn : n ≤ sizeLine) (hmin : n = min xs.size ys.size) (res : Value) :
    ∀ (k i : Nat) (s : Shared) (acc : Array Value) (c : Nat) (ps : List Addr), n - i = k → i ≤ n → ZSt s.heap z TI TO i1 i2 l1 l2 xs ys i → s.heap.get? S = some { cls := .type "list", dict := none, data := .seq acc c, slots := #[] } →
    acc.toList = ps.map .ref → ps.length = i → GotZ s.heap B S z TO i1 i2 xs ys ps → B ≤ s.heap.objs.size →
    (∀ h' acc' c' ps', (∀ b o, b ≠ S → b ≠ z → b ≠ TO → b ≠ i1 → b ≠ i2 → s.heap.get? b = some o → h'.get? b = some o) → h'.get? S = some { cls := .type "list", dict := none, data := .seq acc' c', slots := #[] } → acc'.toList = ps'.map .ref → ps'.length = n → GotZ h' B S z TO i1 i2 xs ys ps' → R (.ok (.ret res)) { s with heap := h' }) →
    codeAny (model prog w) A (.builtin "list.extend.loop" ⟨[.ref S, .ref z, res], []⟩) R s := by
  intro k
  induction k with
  | zero =>
    intro i s acc c ps hk hi hst hS hacc hl hg hB hR
    have hin : i = n := by omega
    subst hin
    refine codeAny_builtin F.entry_extend_loop ?_
    rw [Around.under_plainId F.plain_extend_loop _]
    show wpAny _ A.in1 (pyNext (.ref z) >>= _) _ _ s
    have hend : xs[i]? = none ∨ ys[i]? = none := by
      rcases Nat.le_total xs.size ys.size with h | h
      · exact .inl (Array.getElem?_eq_none (by omega))
      · exact .inr (Array.getElem?_eq_none (by omega))
    refine wpAny_bind (zst_end hh D hst hend fun h' hk => ?_)
    exact wpAny_pure (hR h' acc c ps (fun b o _ b2 b3 b4 b5 e => hk b o b2 b3 b4 b5 e) (hk S _ s1 s2 s3 s4 hS) hacc hl (hg.keep fun b o _ b2 b3 b4 b5 e => hk b o b2 b3 b4 b5 e))
  | succ k ih =>
    intro i s acc c ps hk hi hst hS hacc hl hg hB hR
    have hlt : i < n := by omega
    refine codeAny_builtin F.entry_extend_loop ?_
    rw [Around.under_plainId F.plain_extend_loop _]
    show wpAny _ A.in1 (pyNext (.ref z) >>= _) _ _ s
    have lx : i < xs.size := by omega
    have ly : i < ys.size := by omega
    have hx : xs[i]? = some xs[i] := Array.getElem?_eq_getElem lx
    have hy : ys[i]? = some ys[i] := Array.getElem?_eq_getElem ly
    refine wpAny_bind (zst_item D hst hx hy fun h' hst' hp hkk => ?_)
    have hS' := hkk S _ s1 s2 s3 s4 hS
    show wpAny _ A.in1 (updateSeq S (·.push (.ref s.heap.objs.size)) >>= _) _ _ _
    have hsz : acc.size = i := by rw [← Array.length_toList, hacc, List.length_map, hl]
    refine wpAny_bind ?_
    have gt : ∀ {b o}, s.heap.get? b = some o → s.heap.objs.size ≠ b := fun q => Nat.ne_of_gt (Heap.lt_size q)
    obtain ⟨h0, hTI, hi1, hi2, _⟩ := id hst
    have zl : ∃ o, s.heap.get? z = some o := by
      rcases h0 with ⟨hz, _⟩ | ⟨q, f, u, v, hz, _⟩
      · exact ⟨_, hz⟩
      · exact ⟨_, hz⟩
    obtain ⟨oz, hz⟩ := zl
    obtain ⟨o1, g1, _⟩ := hi1.obj
    obtain ⟨o2, g2, _⟩ := hi2.obj
    have oth : ∀ b o, b ≠ S → h'.get? b = some o → (h'.update S (Obj.mapSeq (·.push (.ref s.heap.objs.size)))).get? b = some o := fun b o hb e => (Heap.get?_update_other _ _ (Ne.symm hb)).trans e
    refine wpAny_updateSeq hS' rfl (wpAny_pure ⟨plainId_quiet F.plain_extend_loop _, ih (i + 1) _ (acc.push (.ref s.heap.objs.size)) _ (ps ++ [s.heap.objs.size]) (by omega) hlt (hst'.keep hS' rfl n1 n2 oth) (Heap.get?_update_self _ hS' rfl) (by simp [hacc]) (by simp [hl]) ?_ ?_ fun h'' acc' c' ps' hm'' hS'' ha' hl' hg' => ?_⟩)
      (by rw [hsz]; omega) (by show (acc.push _).size ≤ sizeLine + 1; rw [Array.size_push, hsz]; omega)
    · refine GotZ.push ((hg.keep fun b o _ b2 b3 b4 b5 e => hkk b o b2 b3 b4 b5 e).keep fun b o b1 _ _ _ _ e => oth b o b1 e) (fun hm => ?_) hB (gt hS) (gt hz) (Nat.ne_of_gt (Nat.lt_of_lt_of_le tl hB)) (gt g1) (gt g2) (by rw [hl]; exact hx) (by rw [hl]; exact hy) (oth _ _ (gt hS) hp)
      obtain ⟨j, hj⟩ := List.getElem?_of_mem hm
      obtain ⟨_, _, _, _, _, _, x, y, _, _, hp'⟩ := hg.2 j _ hj
      exact Nat.lt_irrefl _ (Heap.lt_size hp')
    · show B ≤ (h'.update S _).objs.size
      exact Nat.le_trans hB (Nat.le_of_lt (Heap.lt_size (oth _ _ (gt hS) hp)))
    · exact hR h'' acc' c' ps' (fun b o b1 b2 b3 b4 b5 e => hm'' b o b1 b2 b3 b4 b5 (oth b o b1 (hkk b o b2 b3 b4 b5 e))) hS'' ha' hl' hg'
theorem zip_no_len : typeLookup (.type "zip") "__len__" = pure none := by rw [typeLookup_type, builtinLookup_eq_fast]; kernel_rfl
theorem zip_no_hint : typeLookup (.type "zip") "__length_hint__" = pure none := by rw [typeLookup_type, builtinLookup_eq_fast]; kernel_rfl
theorem extendZ {R : Result → Shared → Prop} {z TI TO i1 i2 l1 l2 S B : Addr} {xs ys : Array Value} {n : Nat} (hh : A.in1.handled = none) (D : ZipApart z TI TO i1 i2 l1 l2) (n1 : l1 ≠ S) (n2 : l2 ≠ S) (s1 : S ≠ z) (s2 : S ≠ TO) (tl : TO < B) (s3 : S ≠ i1) (s4 : S ≠ i2) (hn : n ≤ sizeLine) (hmin : n = min xs.size ys.size) (res : Value) (c₀ : Nat)
    (hz : IsZip s.heap z TI TO .none) (hst : ZSt s.heap z TI TO i1 i2 l1 l2 xs ys 0) (hS : s.heap.get? S = some { cls := .type "list", data := .seq #[] c₀ }) (hB : B ≤ s.heap.objs.size)
    (hR : ∀ h' acc' c' ps', (∀ b o, b ≠ S → b ≠ z → b ≠ TO → b ≠ i1 → b ≠ i2 → s.heap.get? b = some o → h'.get? b = some o) → h'.get? S = some { cls := .type "list", dict := none, data := .seq acc' c', slots := #[] } → acc'.toList = ps'.map .ref → ps'.length = n → GotZ h' B S z TO i1 i2 xs ys ps' → R (.ok (.ret res)) { s with heap := h' }) :
    wpAny (model prog w) A.in1 (Builtin.List.listExtendWith (.ref S) (.ref z) res)
      (fun fin s' => match fin with | .done f => R (.ok f) s' | .again c' => c'.quiet = true ∧ codeAny (model prog w) A c' R s') (fun e s' => R (.error e) s') s := by
  have hT : s.TypeIs (.ref z) "zip" := ⟨_, hz, rfl⟩
  unfold Builtin.List.listExtendWith
  refine wpAny_bind (wpAny_typeOf hT ?_)
  have h1 : Builtin.List.listSameRef (.ref S) (.ref z) = false := by simp [Builtin.List.listSameRef, s1]
  have h2 : (Value.type "zip" == Value.type "list") = false := by decide
  have h3 : (Value.type "zip" == Value.type "tuple") = false := by decide
  simp only [h1, h2, h3, Bool.or_false, Bool.false_eq_true, if_false]
  refine wpAny_bind (wpAny_pyIter_zip hz ?_)
  refine wpAny_bind (wpAny_holding ?_)
  unfold Builtin.List.listLengthHint
  refine wpAny_bind (wpAny_specialOf hT zip_no_len ?_)
  show wpAny _ A.in1 (specialOf (Value.ref z) (Str.ofString "__length_hint__") >>= _) _ _ _
  refine wpAny_bind (wpAny_specialOf hT zip_no_hint ?_)
  refine wpAny_pure ?_
  show wpAny _ A.in1 (rule "list.extend.makes-room" >>= fun _ => Builtin.List.listTouch (.ref S) >>= fun _ =>
    again (.builtin "list.extend.loop" ⟨[.ref S, .ref z, res], []⟩)) _ _ _
  refine wpAny_bind (wpAny_rule ?_)
  refine wpAny_bind ?_
  show wpAny _ A.in1 (updateSeq S (·.push .none) >>= fun _ => updateSeq S (·.pop)) _ _ _
  refine wpAny_bind (wpAny_updateSeq hS rfl ?_)
  have hS₂ := Heap.get?_update_self (Obj.mapSeq (·.push Value.none)) hS rfl
  refine wpAny_updateSeq (hz := by seq_fits) hS₂ rfl ?_
  have hS₃ := Heap.get?_update_self (Obj.mapSeq (·.pop)) hS₂ rfl
  have oth : ∀ b o, b ≠ S → s.heap.get? b = some o → ((s.heap.update S (Obj.mapSeq (·.push Value.none))).update S (Obj.mapSeq (·.pop))).get? b = some o :=
    fun b o hb e => (Heap.get?_update_other _ _ (Ne.symm hb)).trans ((Heap.get?_update_other _ _ (Ne.symm hb)).trans e)
  refine wpAny_pure ⟨plainId_quiet F.plain_extend_loop _, codeZ hh D n1 n2 s1 s2 tl s3 s4 hn hmin res n 0 _ _ _ [] rfl (Nat.zero_le _) (hst.keep hS rfl n1 n2 oth) hS₃ rfl rfl ⟨by simp, fun j p hj => by simp at hj⟩ ?_ fun h' acc' c' ps' hm hS' ha hl hg => ?_⟩
  · have : s.heap.objs.size ≤ ((s.heap.update S (Obj.mapSeq (·.push Value.none))).update S (Obj.mapSeq (·.pop))).objs.size := by rw [Heap.size_update, Heap.size_update]; exact Nat.le_refl _
    exact Nat.le_trans hB this
  · exact hR h' acc' c' ps' (fun b o b1 b2 b3 b4 b5 e => hm b o b1 b2 b3 b4 b5 (oth b o b1 e)) hS' ha hl hg
theorem initZ {R : Result → Shared → Prop} {z TI TO i1 i2 l1 l2 S B : Addr} {xs ys : Array Value} {n : Nat} (hh : A.in1.handled = none) (D : ZipApart z TI TO i1 i2 l1 l2) (n1 : l1 ≠ S) (n2 : l2 ≠ S) (s1 : S ≠ z) (s2 : S ≠ TO) (tl : TO < B) (s3 : S ≠ i1) (s4 : S ≠ i2) (hn : n ≤ sizeLine) (hmin : n = min xs.size ys.size)
    (hz : IsZip s.heap z TI TO .none) (hst : ZSt s.heap z TI TO i1 i2 l1 l2 xs ys 0) (hS : s.heap.get? S = some { cls := .type "list", data := .seq #[] }) (hB : B ≤ s.heap.objs.size)
    (hR : ∀ h' acc' c' ps', (∀ b o, b ≠ S → b ≠ z → b ≠ TO → b ≠ i1 → b ≠ i2 → s.heap.get? b = some o → h'.get? b = some o) → h'.get? S = some { cls := .type "list", dict := none, data := .seq acc' c', slots := #[] } → acc'.toList = ps'.map .ref → ps'.length = n → GotZ h' B S z TO i1 i2 xs ys ps' → R (.ok (.ret .none)) { s with heap := h' }) :
    wpAny (model prog w) A.in1 (Builtin.«list.__init__» ⟨[.ref S, .ref z], []⟩)
      (fun fin s' => match fin with | .done f => R (.ok f) s' | .again c' => c'.quiet = true ∧ codeAny (model prog w) A c' R s') (fun e s' => R (.error e) s') s := by
  show wpAny _ A.in1 (do let old ← Builtin.List.listItems (.ref S); Builtin.List.listUpdate (.ref S) (fun _ => #[]); letGo old.toList.reverse; Builtin.List.listExtendWith (.ref S) (.ref z) .none) _ _ s
  refine wpAny_bind ?_
  unfold Builtin.List.listItems
  refine wpAny_bind (wpAny_seqItems hS rfl (wpAny_pure ?_))
  show wpAny _ A.in1 (updateSeq S (fun _ => #[]) >>= fun _ => letGo (#[] : Array Value).toList.reverse >>= fun _ => Builtin.List.listExtendWith (.ref S) (.ref z) .none) _ _ s
  refine wpAny_bind (wpAny_updateSeq hS rfl ?_)
  have hS₂ := Heap.get?_update_self (Obj.mapSeq (fun _ => (#[] : Array Value))) hS rfl
  have oth : ∀ b o, b ≠ S → s.heap.get? b = some o → (s.heap.update S (Obj.mapSeq (fun _ => (#[] : Array Value)))).get? b = some o :=
    fun b o hb e => (Heap.get?_update_other _ _ (Ne.symm hb)).trans e
  refine wpAny_bind (wpAny_letGo ?_)
  refine extendZ hh D n1 n2 s1 s2 tl s3 s4 hn hmin .none _ (oth _ _ (Ne.symm s1) hz) (hst.keep hS rfl n1 n2 oth) hS₂ (by show B ≤ (Heap.update ..).objs.size; rw [Heap.size_update]; exact hB) fun h' acc' c' ps' hm hS' ha hl hg => ?_
  exact hR h' acc' c' ps' (fun b o b1 b2 b3 b4 b5 e => hm b o b1 b2 b3 b4 b5 (oth b o b1 e)) hS' ha hl hg
theorem call_listZ {Q : Value → Shared → Prop} {z TI TO i1 i2 l1 l2 : Addr} {xs ys : Array Value} {n : Nat} (hh : A.in1.in1.handled = none) (D : ZipApart z TI TO i1 i2 l1 l2) (hn : n ≤ sizeLine) (hmin : n = min xs.size ys.size)
    (hz : IsZip s.heap z TI TO .none) (hst : ZSt s.heap z TI TO i1 i2 l1 l2 xs ys 0) (tl : TO < s.heap.objs.size)
    (hQ : ∀ h' acc' c' ps', (∀ b o, b ≠ z → b ≠ TO → b ≠ i1 → b ≠ i2 → s.heap.get? b = some o → h'.get? b = some o) → h'.get? s.heap.objs.size = some { cls := .type "list", dict := none, data := .seq acc' c', slots := #[] } → acc'.toList = ps'.map .ref → ps'.length = n →
      GotZ h' s.heap.objs.size s.heap.objs.size z TO i1 i2 xs ys ps' → Q (.ref s.heap.objs.size) { s with heap := h' }) :
    wpAny (model prog w) A (call (.type "list") [.ref z]) Q E s := by
  have gt : ∀ {b o}, s.heap.get? b = some o → s.heap.objs.size ≠ b := fun q => Nat.ne_of_gt (Heap.lt_size q)
  obtain ⟨_, hTI, hi1, hi2, hl1, hl2⟩ := id hst
  obtain ⟨o1, g1, _⟩ := hi1.obj
  obtain ⟨o2, g2, _⟩ := hi2.obj
  refine callType_codes (Q₁ := fun obj s₁ => obj = .ref s.heap.objs.size ∧ s₁ = { s with heap := s.heap.push { cls := .type "list", data := .seq #[] } }) F.called_list (F.typeCall_list_1 _) F.entry_list_init
    (code_list_new _ ⟨rfl, rfl⟩) fun obj s₁ h₁ => ?_
  obtain ⟨rfl, rfl⟩ := h₁
  have hS : (s.heap.push { cls := .type "list", data := .seq #[] }).get? s.heap.objs.size = some { cls := .type "list", data := .seq #[] } := Heap.get?_push_size _ rfl
  have up : ∀ b o, s.heap.get? b = some o → (s.heap.push { cls := .type "list", data := .seq #[] }).get? b = some o := fun b o e => Heap.get?_push_of_some _ e
  have hst2 : ZSt (s.heap.push { cls := .type "list", data := .seq #[] }) z TI TO i1 i2 l1 l2 xs ys 0 := by
    obtain ⟨h0, hTI, h1, h2, hl1, hl2⟩ := hst
    refine ⟨?_, up _ _ hTI, h1.at (up _), h2.at (up _), hl1.up (up _), hl2.up (up _)⟩
    rcases h0 with ⟨hz, a, b, hTO⟩ | ⟨q, f, u, v, hz, hq, r⟩
    · exact .inl ⟨up _ _ hz, a, b, up _ _ hTO⟩
    · exact .inr ⟨q, f, u, v, up _ _ hz, up _ _ hq, r⟩
  refine ⟨⟨_, hS, rfl⟩, F.args_list_init_2 _ _, initZ (A := A.in1) hh D (Nat.ne_of_lt hl1.lt) (Nat.ne_of_lt hl2.lt) (gt hz) (Nat.ne_of_gt tl) tl (gt g1) (gt g2) hn hmin (up _ _ hz) hst2 hS (by rw [Heap.size_push]; exact Nat.le_succ _) fun h' acc' c' ps' hm hS' ha hl hg => ?_⟩
  exact ⟨rfl, hQ h' acc' c' ps' (fun b o b2 b3 b4 b5 e => hm b o (Nat.ne_of_lt (Heap.lt_size e)) b2 b3 b4 b5 (up b o e)) hS' ha hl hg⟩
end
theorem _root_.L2.Inv.laidMany {X : Cx} {pins : List (Addr × Obj)} {σ : List (Option V)} {H H' : Hp} {s : Shared} {h' : Heap} {t' : Nat} (I : Inv X pins σ H s) (k : ∀ b u, s.heap.get? b = some u → h'.get? b = some u) (old : ∀ b, b < s.heap.objs.size → H' b = H b)
    (new : ∀ b o, s.heap.objs.size ≤ b → H' b = some o → ObjOk X.prog X.w H' h' b o) : Inv X pins σ H' { s with heap := h', toks := t' } := by
  have lt : ∀ {b o}, H b = some o → H' b = some o := fun e => by rw [old _ (I.hok.lt e)]; exact e
  refine I.un ⟨fun b u q _ _ _ => k b u q, fun b u q _ _ _ => ⟨u.slots, k b u q⟩, fun b u q n _ => by rw [old b (Heap.lt_size q)]; exact n, fun b u q _ => ⟨u, k b u q⟩, fun b xs q => lt q, fun b u xs q => lt q, fun b ps q => ⟨#[], by rw [lt q]; simp⟩⟩ fun b u e => ?_
  rcases Nat.lt_or_ge b s.heap.objs.size with hb | hb
  · rw [old b hb] at e
    exact (I.hok b u e).stay (fun c v _ q => k c v q) (fun c q => lt q) fun c xs q => lt q
  · exact new b u hb e
def grow : Hp → List Addr → List (V × V) → Hp
  | H, p :: ps, v :: vs => grow (upd H p (.tup [v.1, v.2])) ps vs
  | H, _, _ => H
theorem grow_not : ∀ {ps : List Addr} {vs : List (V × V)} {H : Hp} {b : Addr}, b ∉ ps → grow H ps vs b = H b
  | [], [], _, _, _ => rfl
  | [], _ :: _, _, _, _ => rfl
  | _ :: _, [], _, _, _ => rfl
  | p :: ps, v :: vs, H, b, hb => by
    show grow (upd H p _) ps vs b = _
    rw [grow_not (fun h => hb (List.mem_cons_of_mem _ h)), upd_ne (fun e : b = p => hb (by rw [e]; exact List.mem_cons_self))]
theorem grow_at : ∀ {ps : List Addr} {vs : List (V × V)} {H : Hp} {j : Nat} {p : Addr} {v : V × V}, ps.Nodup → ps[j]? = some p → vs[j]? = some v → grow H ps vs p = some (.tup [v.1, v.2])
  | [], _, _, _, _, _, _, h, _ => by simp at h
  | _ :: _, [], _, _, _, _, _, _, h => by simp at h
  | p :: ps, v :: vs, H, 0, q, u, hn, h, h' => by
    simp at h h'
    subst h; subst h'
    show grow (upd H p _) ps vs p = _
    rw [grow_not (List.nodup_cons.mp hn).1, upd_same]
  | p :: ps, v :: vs, H, j + 1, q, u, hn, h, h' => by
    show grow (upd H p _) ps vs q = _
    exact grow_at (j := j) (List.nodup_cons.mp hn).2 (by simpa using h) (by simpa using h')
theorem valsRefs : ∀ ps : List Addr, Vals (ps.map V.ref) (ps.map Value.ref)
  | [] => .nil
  | _ :: ps => .cons rfl (valsRefs ps)
def tLZ (K : PySem.W.Frag) (ta : TA) : TE := fun σ H Q => ta σ H fun vs H1 => ∃ l1 l2 xs ys, vs = [.ref l1, .ref l2] ∧ SqL K H1 l1 xs ∧ SqL K H1 l2 ys ∧
  ∀ ps l, ps.Nodup → ps.length = (xs.zip ys).length → (∀ p ∈ ps, H1 p = none ∧ p ≠ l) → H1 l = none → Q (.ref l) (upd (grow H1 ps (xs.zip ys)) l (.lst (ps.map V.ref)))
theorem pe_lzip {X : Cx} {a b : Expr} {ta : TA} {p1 p2 pos1 pos2 : Pos} (hc : X.calm = true) (hgl : Gl X "list") (hml : X.mg "list" = none) (hgr : Gl X "zip") (hmr : X.mg "zip" = none) (ha : PA X [a, b] ta)
    (hs : starEach [a, b] X.env = [(false, eval a X.env), (false, eval b X.env)] := by rfl) (hs2 : starEach [b] X.env = [(false, eval b X.env)] := by rfl)
    (hs3 : starEach [.Call (.Name "zip" p2) [a, b] [] pos2] X.env = [(false, eval (.Call (.Name "zip" p2) [a, b] [] pos2) X.env)] := by rfl) :
    PE X (.Call (.Name "list" p1) [.Call (.Name "zip" p2) [a, b] [] pos2] [] pos1) (tLZ X.K ta) := by
  intro pins s σ H Q I h
  refine Call_ (ld_blt I hgl hml boot_list (PyProof.Rows.callWith_type1 ?_ (by rw [hs3]; rfl) (by rfl)))
  rw [hs3]
  show wpAny _ _ (spliced ((false, eval (.Call (.Name "zip" p2) [a, b] [] pos2) X.env) :: backTo pos1 [])) _ _ s
  refine Calls.spliced_cons (Call_ (ld_blt I hgr hmr boot_zip (PyProof.Rows.callWith_type1 (thn (ha pos2 pins s σ H _ I h) fun us s1 ⟨vs, H1, I1, r1, q1⟩ => ?_) (by rw [hs, hs2]) (by rw [hs2]; rfl))))
  obtain ⟨l1, l2, xs, ys, e, hx, hy, q⟩ := q1
  subst e
  obtain ⟨u, v, rfl, ru, rv⟩ := vals2 r1
  cases ru
  cases rv
  obtain ⟨its, rx, px, zx⟩ := I1.list hx
  obtain ⟨jts, ry, py, zy⟩ := I1.list hy
  have bx : SqAt true s1.heap l1 its.toArray := px.isList
  have by' : SqAt true s1.heap l2 jts.toArray := py.isList
  refine callZ bx by' fun h' hz hTI hTO h1 h2 hk => Calls.spliced_nil ?_
  have nl : (xs.zip ys).length = min its.toArray.size jts.toArray.size := by rw [List.length_zip, List.size_toArray, List.size_toArray, rx.length, ry.length]
  have big : s1.heap.objs.size + 4 < h'.objs.size := Heap.lt_size hz
  refine call_listZ (n := (xs.zip ys).length) (s := { s1 with heap := h' }) (show _ = none from I1.ok.hd hc) (PyProof.Rows.zipApart_new bx.lt by'.lt) ?_ nl hz ⟨.inl ⟨hz, _, _, hTO⟩, hTI, h1, h2, bx.up (hk _), by'.up (hk _)⟩ (by show _ < h'.objs.size; omega) fun h'' acc' c' ps' hm hS' hacc hl hg => ?_
  · rw [List.length_zip]; exact Nat.le_trans (Nat.min_le_left _ _) zx
  have hin : ∀ p ∈ ps', h'.objs.size ≤ p ∧ p ≠ h'.objs.size := fun p hp => by
    obtain ⟨j, hj⟩ := List.getElem?_of_mem hp
    exact ⟨(hg.2 j p hj).1, (hg.2 j p hj).2.1⟩
  have fr : ∀ {b}, s1.heap.objs.size ≤ b → H1 b = none := fun hb => I1.hok.fresh hb
  refine ⟨.ref _, upd (grow H1 ps' (xs.zip ys)) h'.objs.size (.lst (ps'.map V.ref)), I1.laidMany (t' := s1.toks) (fun b o e => ?_) (fun b hb => ?_) (fun b o hb e => ?_), rfl, q ps' h'.objs.size hg.1 hl (fun p hp => ⟨fr (by have := (hin p hp).1; omega), (hin p hp).2⟩) (fr (by omega))⟩
  · have lb : b < s1.heap.objs.size := Heap.lt_size e
    exact hm b o (Nat.ne_of_lt (Nat.lt_of_lt_of_le lb (Nat.le_add_right _ _))) (Nat.ne_of_lt (Nat.lt_of_lt_of_le lb (Nat.le_add_right _ _))) (Nat.ne_of_lt lb) (Nat.ne_of_lt (Nat.lt_of_lt_of_le lb (Nat.le_add_right _ _))) (hk b o e)
  · have lb : b < h'.objs.size := Nat.lt_of_lt_of_le hb (Nat.le_of_lt (Nat.lt_of_le_of_lt (Nat.le_add_right _ _) big))
    rw [upd_ne (Nat.ne_of_lt lb), grow_not]
    intro hp
    exact Nat.lt_irrefl _ (Nat.lt_of_lt_of_le lb (hin b hp).1)
  · by_cases hS : b = h'.objs.size
    · subst hS
      rw [upd_same] at e
      cases e
      refine ⟨by rw [List.length_map, hl, List.length_zip]; exact Nat.le_trans (Nat.min_le_left _ _) zx, acc'.toList, c', by rw [hacc]; exact valsRefs ps', by rw [Array.toArray_toList]; exact hS'⟩
    rw [upd_ne hS] at e
    by_cases hp : b ∈ ps'
    · obtain ⟨j, hj⟩ := List.getElem?_of_mem hp
      obtain ⟨_, _, _, _, _, _, x, y, hx', hy', hpr⟩ := hg.2 j b hj
      have hjl : j < (xs.zip ys).length := by
        rw [← hl]
        exact (List.getElem?_eq_some_iff.mp hj).1
      have jl := hjl
      rw [List.length_zip] at jl
      have ex : xs[j]? = some xs[j] := List.getElem?_eq_getElem (by omega)
      have ey : ys[j]? = some ys[j] := List.getElem?_eq_getElem (by omega)
      have ez : (xs.zip ys)[j]? = some (xs[j], ys[j]) := by rw [List.getElem?_eq_getElem hjl, List.getElem_zip]
      rw [grow_at hg.1 hj ez] at e
      cases e
      obtain ⟨u, hu, ru⟩ := Vals.get rx ex
      obtain ⟨v, hv, rv⟩ := Vals.get ry ey
      have hx2 : its[j]? = some x := by simpa using hx'
      have hy2 : jts[j]? = some y := by simpa using hy'
      rw [hu] at hx2; cases hx2
      rw [hv] at hy2; cases hy2
      exact ⟨by show 2 ≤ sizeLine; decide, [x, y], .cons ru (.cons rv .nil), _, hpr, rfl, _, rfl⟩
    · rw [grow_not hp, fr hb] at e
      cases e
end My
namespace Dp
open PySem PySem.Spec PyProof.Rows L2 My
def SqLr (K : PySem.W.Frag) (H : Hp) (a : Addr) (xs : List V) : Prop :=
  (∃ o, H a = some (.frz o (.lst xs))) ∨ ∃ (o : Obj) (its : Array Value) (n : Nat), K.lookup a = some o ∧ o.cls = .type "list" ∧ o.dict = none ∧ o.data = .seq its n ∧ its.size ≤ sizeLine ∧ Vals xs its.toList
theorem SqLr.sq {K : PySem.W.Frag} {H : Hp} {a : Addr} {xs : List V} (h : SqLr K H a xs) : SqL K H a xs := h.imp (fun h => .inr h) id
mutual
inductive Rel (K : PySem.W.Frag) (ad : List Addr) (H : Hp) : D → V → Prop
  | non : Rel K ad H .non .non
  | bl (b : Bool) : Rel K ad H (.bl b) (.bl b)
  | int (i : Int) : Rel K ad H (.int i) (.int i)
  | str (x : Str) : Rel K ad H (.str x) (.str x)
  | ty (n : String) : Rel K ad H (.ty n) (.ty n)
  | tup {a : Addr} {vs : List V} {ds : List D} : H a = some (.tup vs) → RelAll K ad H ds vs → Rel K ad H (.tup ds) (.ref a)
  | rl {a : Addr} {vs : List V} {ds : List D} : SqLr K H a vs → RelAll K ad H ds vs → Rel K ad H (.rl ds) (.ref a)
  | ref {n : Nat} {a : Addr} : ad[n]? = some a → Rel K ad H (.ref n) (.ref a)
inductive RelAll (K : PySem.W.Frag) (ad : List Addr) (H : Hp) : List D → List V → Prop
  | nil : RelAll K ad H [] []
  | cons {d : D} {v : V} {ds : List D} {vs : List V} : Rel K ad H d v → RelAll K ad H ds vs → RelAll K ad H (d :: ds) (v :: vs)
end
structure Wd (ad : List Addr) (H : Hp) (ad' : List Addr) (H' : Hp) : Prop where
  pre : ad <+: ad'
  keep : ∀ b o, b ∉ ad → H b = some o → H' b = some o
  tup : ∀ b xs, H b = some (.tup xs) → H' b = some (.tup xs)
  frz : ∀ b o u, H b = some (.frz o u) → H' b = some (.frz o u)
  new : ∀ b, b ∈ ad' → b ∉ ad → H b = none
theorem Wd.refl {ad : List Addr} {H : Hp} : Wd ad H ad H := ⟨List.prefix_refl _, fun _ _ _ h => h, fun _ _ h => h, fun _ _ _ h => h, fun _ h n => absurd h n⟩
theorem Wd.trans {ad ad1 ad2 : List Addr} {H H1 H2 : Hp} (a : Wd ad H ad1 H1) (b : Wd ad1 H1 ad2 H2) : Wd ad H ad2 H2 where
  pre := a.pre.trans b.pre
  keep := fun c o hc h => b.keep c o (fun h1 => by rw [a.new c h1 hc] at h; cases h) (a.keep c o hc h)
  tup := fun c xs h => b.tup c xs (a.tup c xs h)
  frz := fun c o u h => b.frz c o u (a.frz c o u h)
  new := fun c h2 hc => by
    by_cases h1 : c ∈ ad1
    · exact a.new c h1 hc
    · have n1 := b.new c h2 h1
      cases e : H c with
      | none => rfl
      | some o => rw [a.keep c o hc e] at n1; cases n1
theorem pre_get {α : Type} {l l' : List α} (h : l <+: l') {n : Nat} {a : α} (e : l[n]? = some a) : l'[n]? = some a := by
  obtain ⟨t, rfl⟩ := h
  rw [List.getElem?_append_left (My.lt_of_get e)]; exact e
structure Wr (ad : List Addr) (H : Hp) (ad' : List Addr) (H' : Hp) : Prop where
  pre : ad <+: ad'
  tup : ∀ b xs, H b = some (.tup xs) → H' b = some (.tup xs)
  frz : ∀ b o u, H b = some (.frz o u) → H' b = some (.frz o u)
theorem Wd.wr {ad ad' : List Addr} {H H' : Hp} (w : Wd ad H ad' H') : Wr ad H ad' H' := ⟨w.pre, w.tup, w.frz⟩
theorem SqLr.wr {K : PySem.W.Frag} {ad ad' : List Addr} {H H' : Hp} {a : Addr} {xs : List V} (w : Wr ad H ad' H') (h : SqLr K H a xs) : SqLr K H' a xs := h.imp (fun ⟨o, e⟩ => ⟨o, w.frz _ _ _ e⟩) id
mutual
theorem Rel.wr {K : PySem.W.Frag} {ad ad' : List Addr} {H H' : Hp} (w : Wr ad H ad' H') : ∀ {d : D} {v : V}, Rel K ad H d v → Rel K ad' H' d v
  | _, _, .non => .non
  | _, _, .bl b => .bl b
  | _, _, .int i => .int i
  | _, _, .str x => .str x
  | _, _, .ty n => .ty n
  | _, _, .tup h r => .tup (w.tup _ _ h) (RelAll.wr w r)
  | _, _, .rl h r => .rl (h.wr w) (RelAll.wr w r)
  | _, _, .ref h => .ref (pre_get w.pre h)
theorem RelAll.wr {K : PySem.W.Frag} {ad ad' : List Addr} {H H' : Hp} (w : Wr ad H ad' H') : ∀ {ds : List D} {vs : List V}, RelAll K ad H ds vs → RelAll K ad' H' ds vs
  | _, _, .nil => .nil
  | _, _, .cons r t => .cons (Rel.wr w r) (RelAll.wr w t)
end
theorem Rel.wd {K : PySem.W.Frag} {ad ad' : List Addr} {H H' : Hp} {d : D} {v : V} (r : Rel K ad H d v) (w : Wd ad H ad' H') : Rel K ad' H' d v := Rel.wr w.wr r
theorem RelAll.wd {K : PySem.W.Frag} {ad ad' : List Addr} {H H' : Hp} {ds : List D} {vs : List V} (r : RelAll K ad H ds vs) (w : Wd ad H ad' H') : RelAll K ad' H' ds vs := RelAll.wr w.wr r
section
variable {K : PySem.W.Frag} {ad : List Addr} {H : Hp}
theorem RelAll.length : ∀ {ds : List D} {vs : List V}, RelAll K ad H ds vs → ds.length = vs.length
  | _, _, .nil => rfl
  | _, _, .cons _ t => congrArg (· + 1) (RelAll.length t)
theorem RelAll.get : ∀ {ds : List D} {vs : List V} {i : Nat} {d : D}, RelAll K ad H ds vs → ds[i]? = some d → ∃ v, vs[i]? = some v ∧ Rel K ad H d v
  | _, _, _, _, .nil, e => by simp at e
  | _, _, 0, _, .cons r _, e => by simp at e; subst e; exact ⟨_, rfl, r⟩
  | _, _, i + 1, d, .cons _ t, e => by
    obtain ⟨v, h1, h2⟩ := RelAll.get (i := i) (d := d) t (by simpa using e)
    exact ⟨v, by simpa using h1, h2⟩
theorem RelAll.append : ∀ {ds es : List D} {vs us : List V}, RelAll K ad H ds vs → RelAll K ad H es us → RelAll K ad H (ds ++ es) (vs ++ us)
  | _, _, _, _, .nil, s => s
  | _, _, _, _, .cons r t, s => .cons r (RelAll.append t s)
theorem RelAll.take : ∀ {ds : List D} {vs : List V} (n : Nat), RelAll K ad H ds vs → RelAll K ad H (ds.take n) (vs.take n)
  | _, _, 0, _ => .nil
  | _, _, _ + 1, .nil => .nil
  | _, _, n + 1, .cons r t => .cons r (RelAll.take n t)
theorem RelAll.drop : ∀ {ds : List D} {vs : List V} (n : Nat), RelAll K ad H ds vs → RelAll K ad H (ds.drop n) (vs.drop n)
  | _, _, 0, r => r
  | _, _, _ + 1, .nil => .nil
  | _, _, n + 1, .cons _ t => RelAll.drop n t
theorem RelAll.set {d : D} {v : V} (r : Rel K ad H d v) : ∀ {ds : List D} {vs : List V} (i : Nat), RelAll K ad H ds vs → RelAll K ad H (ds.set i d) (vs.set i v)
  | _, _, _, .nil => .nil
  | _, _, 0, .cons _ t => .cons r t
  | _, _, i + 1, .cons q t => .cons q (RelAll.set r i t)
theorem RelAll.reverse : ∀ {ds : List D} {vs : List V}, RelAll K ad H ds vs → RelAll K ad H ds.reverse vs.reverse
  | _, _, .nil => .nil
  | _, _, .cons r t => by rw [List.reverse_cons, List.reverse_cons]; exact (RelAll.reverse t).append (.cons r .nil)
theorem RelAll.ints : ∀ {ns : List Int} {vs : List V}, RelAll K ad H (ns.map D.int) vs → vs = ns.map V.int
  | [], _, .nil => rfl
  | n :: ns, _, .cons r t => by cases r; rw [RelAll.ints t]; rfl
theorem RelAll.bls : ∀ {ns : List Bool} {vs : List V}, RelAll K ad H (ns.map D.bl) vs → vs = ns.map V.bl
  | [], _, .nil => rfl
  | n :: ns, _, .cons r t => by cases r; rw [RelAll.bls t]; rfl
theorem RelAll.mk_ints : ∀ (ns : List Int), RelAll K ad H (ns.map D.int) (ns.map V.int)
  | [] => .nil
  | n :: ns => .cons (.int n) (RelAll.mk_ints ns)
end
inductive RelF (K : PySem.W.Frag) (ad : List Addr) (H : Hp) : List (Str × D) → List (Str × V) → Prop
  | nil : RelF K ad H [] []
  | cons {f : Str} {d : D} {v : V} {fs : List (Str × D)} {vs : List (Str × V)} : Rel K ad H d v → RelF K ad H fs vs → RelF K ad H ((f, d) :: fs) ((f, v) :: vs)
theorem RelF.wr {K : PySem.W.Frag} {ad ad' : List Addr} {H H' : Hp} (w : Wr ad H ad' H') : ∀ {fs : List (Str × D)} {vs : List (Str × V)}, RelF K ad H fs vs → RelF K ad' H' fs vs
  | _, _, .nil => .nil
  | _, _, .cons r t => .cons (Rel.wr w r) (RelF.wr w t)
theorem RelF.look {K : PySem.W.Frag} {ad : List Addr} {H : Hp} {f : Str} : ∀ {fs : List (Str × D)} {vs : List (Str × V)} {d : D}, RelF K ad H fs vs → fs.lookup f = some d → ∃ v, vs.lookup f = some v ∧ Rel K ad H d v
  | _, _, d, .nil, e => by simp at e
  | _, _, d, @RelF.cons _ _ _ g x v fs vs r t, e => by
    rw [List.lookup_cons] at e ⊢
    cases h : f == g with
    | true => rw [h] at e; cases e; exact ⟨v, rfl, r⟩
    | false => rw [h] at e; exact RelF.look t e
theorem RelF.put {K : PySem.W.Frag} {ad : List Addr} {H : Hp} {f : Str} {d : D} {v : V} (rd : Rel K ad H d v) : ∀ {fs : List (Str × D)} {vs : List (Str × V)}, RelF K ad H fs vs → RelF K ad H (putD f d fs) (putF f v vs)
  | _, _, .nil => .cons rd .nil
  | _, _, @RelF.cons _ _ _ g x u fs vs r t => by
    show RelF K ad H (if g = f then (g, d) :: fs else (g, x) :: putD f d fs) (if g = f then (g, v) :: vs else (g, u) :: putF f v vs)
    by_cases h : g = f
    · rw [if_pos h, if_pos h]; exact .cons rd t
    · rw [if_neg h, if_neg h]; exact .cons r (RelF.put rd t)
theorem RelF.length {K : PySem.W.Frag} {ad : List Addr} {H : Hp} : ∀ {fs : List (Str × D)} {vs : List (Str × V)}, RelF K ad H fs vs → fs.length = vs.length
  | _, _, .nil => rfl
  | _, _, .cons _ t => congrArg (· + 1) (RelF.length t)
def CellOk (K : PySem.W.Frag) (ad : List Addr) (H : Hp) (a : Addr) : Cell → Prop
  | .lst ds => ∃ vs, H a = some (.lst vs) ∧ RelAll K ad H ds vs
  | .ins c fs => ∃ C dx vs, H a = some (.ins C dx vs) ∧ Cls K C ∧ PySem.W.nsIn K mainGlobals c = some (some (.ref C)) ∧ RelF K ad H fs vs ∧ ∀ q ∈ fs, NoAttr K C q.1
structure StOk (K : PySem.W.Frag) (ad : List Addr) (H : Hp) (S : Sto) : Prop where
  len : ad.length = S.length
  nd : ad.Nodup
  cell : ∀ (n : Nat) (a : Addr) (c : Cell), ad[n]? = some a → S[n]? = some c → CellOk K ad H a c
structure RhoOk (K : PySem.W.Frag) (ad : List Addr) (H : Hp) (ρ : Rho) (σ : L2.St) : Prop where
  len : ρ.length = σ.length
  val : ∀ (i : Nat) (d : D), ρ[i]? = some (some d) → ∃ v, σ[i]? = some (some v) ∧ Rel K ad H d v
theorem RhoOk.wd {K : PySem.W.Frag} {ad ad' : List Addr} {H H' : Hp} {ρ : Rho} {σ : L2.St} (h : RhoOk K ad H ρ σ) (w : Wd ad H ad' H') : RhoOk K ad' H' ρ σ :=
  ⟨h.len, fun i d e => let ⟨v, e', r⟩ := h.val i d e; ⟨v, e', r.wd w⟩⟩
section
variable {K : PySem.W.Frag} {ad : List Addr} {H : Hp} {S : Sto}
theorem StOk.get (st : StOk K ad H S) {n : Nat} {c : Cell} (h : S[n]? = some c) : ∃ a, ad[n]? = some a ∧ CellOk K ad H a c := by
  have hn : n < ad.length := by rw [st.len]; exact My.lt_of_get h
  exact ⟨ad[n], List.getElem?_eq_getElem hn, st.cell n _ c (List.getElem?_eq_getElem hn) h⟩
theorem CellOk.some {a : Addr} {c : Cell} (h : CellOk K ad H a c) : ∃ o, H a = some o := by
  cases c with
  | lst ds => obtain ⟨vs, e, _⟩ := h; exact ⟨_, e⟩
  | ins c fs => obtain ⟨C, dx, vs, e, _⟩ := h; exact ⟨_, e⟩
theorem StOk.there (st : StOk K ad H S) {a : Addr} (h : a ∈ ad) : ∃ o, H a = some o := by
  obtain ⟨n, hn, e⟩ := List.mem_iff_getElem.mp h
  have e' : ad[n]? = some a := by rw [List.getElem?_eq_getElem hn, e]
  have hs : n < S.length := by rw [← st.len]; exact hn
  exact (st.cell n a S[n] e' (List.getElem?_eq_getElem hs)).some
theorem StOk.fresh (st : StOk K ad H S) {l : Addr} (h : H l = none) : l ∉ ad := fun m => by
  obtain ⟨o, e⟩ := st.there m
  rw [h] at e; cases e
theorem CellOk.wr {ad' : List Addr} {H' : Hp} {a : Addr} {c : Cell} (h : CellOk K ad H a c) (w : Wr ad H ad' H') (same : H' a = H a) : CellOk K ad' H' a c := by
  cases c with
  | lst ds => obtain ⟨vs, e, r⟩ := h; exact ⟨vs, same.trans e, RelAll.wr w r⟩
  | ins c fs => obtain ⟨C, dx, vs, e, c1, c2, r, n⟩ := h; exact ⟨C, dx, vs, same.trans e, c1, c2, RelF.wr w r, n⟩
theorem CellOk.wd {ad' : List Addr} {H' : Hp} {a : Addr} {c : Cell} (h : CellOk K ad H a c) (w : Wd ad H ad' H') (same : H' a = H a) : CellOk K ad' H' a c := h.wr w.wr same
theorem Wd.laid {l : Addr} {o : HO} (h : H l = none) : Wd ad H ad (upd H l o) :=
  ⟨List.prefix_refl _, fun b u _ e => keepN h e, fun b u e => keepN h e, fun b u w e => keepN h e, fun _ m n => absurd m n⟩
theorem StOk.laid (st : StOk K ad H S) {l : Addr} {o : HO} (h : H l = none) : StOk K ad (upd H l o) S :=
  ⟨st.len, st.nd, fun n a c e1 e2 => (st.cell n a c e1 e2).wd (Wd.laid h) (by
    obtain ⟨u, e⟩ := (st.cell n a c e1 e2).some
    rw [keepN h e, e])⟩
theorem Wd.newL (st : StOk K ad H S) {l : Addr} {o : HO} (h : H l = none) : Wd ad H (ad ++ [l]) (upd H l o) :=
  ⟨List.prefix_append _ _, fun b u _ e => keepN h e, fun b u e => keepN h e, fun b u w e => keepN h e, fun b m n => by
    rcases List.mem_append.mp m with m | m
    · exact absurd m n
    · have : b = l := by simpa using m
      subst this; exact h⟩
theorem StOk.newL (st : StOk K ad H S) {l : Addr} {vs : List V} {ds : List D} (h : H l = none) (r : RelAll K ad H ds vs) : StOk K (ad ++ [l]) (upd H l (.lst vs)) (S ++ [.lst ds]) where
  len := by rw [List.length_append, List.length_append, st.len]; rfl
  nd := by
    rw [List.nodup_append]
    refine ⟨st.nd, by simp, fun a ha b hb e => ?_⟩
    have : b = l := by simpa using hb
    subst this; subst e
    exact st.fresh h ha
  cell := fun n a c e1 e2 => by
    by_cases hn : n < ad.length
    · rw [List.getElem?_append_left hn] at e1
      rw [List.getElem?_append_left (by rw [← st.len]; exact hn)] at e2
      have ok := st.cell n a c e1 e2
      obtain ⟨u, e⟩ := ok.some
      exact ok.wd (Wd.newL st h) (by rw [keepN h e, e])
    · have hn' : ad.length ≤ n := Nat.le_of_not_lt hn
      rw [List.getElem?_append_right hn'] at e1
      rw [List.getElem?_append_right (by rw [← st.len]; exact hn'), ← st.len] at e2
      cases hk : n - ad.length with
      | zero =>
        rw [hk] at e1 e2
        have e1' : l = a := by simpa using e1
        have e2' : Cell.lst ds = c := by simpa using e2
        subst e1' e2'
        exact ⟨vs, upd_same, r.wd (Wd.newL st h)⟩
      | succ k => rw [hk] at e1; simp at e1
theorem StOk.newRef (st : StOk K ad H S) {l : Addr} {o : HO} : Rel K (ad ++ [l]) (upd H l o) (.ref S.length) (.ref l) := .ref (by rw [← st.len, List.getElem?_append_right (Nat.le_refl _), Nat.sub_self]; rfl)
theorem Wd.put {n : Nat} {a : Addr} {vs ws : List V} (e : ad[n]? = some a) (h : H a = some (.lst vs)) : Wd ad H ad (upd H a (.lst ws)) :=
  ⟨List.prefix_refl _, fun b u hb q => by
      have : b ≠ a := fun z => hb (by rw [z]; exact List.mem_of_getElem? e)
      rw [upd_ne this]; exact q,
    fun b xs q => by rw [upd_ne (ne_of q h (by intro z; cases z))]; exact q, fun b o u q => by rw [upd_ne (ne_of q h (by intro z; cases z))]; exact q, fun _ m n => absurd m n⟩
theorem StOk.put (st : StOk K ad H S) {n : Nat} {a : Addr} {vs ws : List V} {ds : List D} (e : ad[n]? = some a) (h : H a = some (.lst vs)) (r : RelAll K ad H ds ws) : StOk K ad (upd H a (.lst ws)) (S.set n (.lst ds)) where
  len := by rw [List.length_set]; exact st.len
  nd := st.nd
  cell := fun m b c e1 e2 => by
    have w := Wd.put (ws := ws) e h
    by_cases hm : m = n
    · subst hm
      rw [e] at e1; cases e1
      rw [List.getElem?_set_self (by rw [← st.len]; exact My.lt_of_get e)] at e2
      cases e2
      exact ⟨ws, upd_same, r.wd w⟩
    · rw [List.getElem?_set_ne (Ne.symm hm)] at e2
      have ne : b ≠ a := fun z => by
        subst z
        have h1 := My.lt_of_get e1
        have h2 := My.lt_of_get e
        have q1 := (List.getElem?_eq_some_iff.mp e1).2
        have q2 := (List.getElem?_eq_some_iff.mp e).2
        exact hm ((List.getElem_inj st.nd).mp (q1.trans q2.symm))
      exact (st.cell m b c e1 e2).wd w (upd_ne ne)
theorem Wd.hid {ad' : List Addr} {H' : Hp} {p : Addr} {o : HO} (w : Wd ad H ad' H') (hp : H p = none) : Wd ad H ad' (upd H' p o) :=
  ⟨w.pre, fun b u hb q => by rw [upd_ne (ne_of_none q hp)]; exact w.keep b u hb q, fun b u q => by rw [upd_ne (ne_of_none q hp)]; exact w.tup b u q, fun b u v q => by rw [upd_ne (ne_of_none q hp)]; exact w.frz b u v q, w.new⟩
theorem Wr.hid {p : Addr} {vs ws : List V} (h : H p = some (.lst vs)) : Wr ad H ad (upd H p (.lst ws)) :=
  ⟨List.prefix_refl _, fun b xs q => by rw [upd_ne (ne_of q h (by intro z; cases z))]; exact q, fun b o u q => by rw [upd_ne (ne_of q h (by intro z; cases z))]; exact q⟩
theorem StOk.hid (st : StOk K ad H S) {p : Addr} {vs ws : List V} (h : H p = some (.lst vs)) (hp : p ∉ ad) : StOk K ad (upd H p (.lst ws)) S :=
  ⟨st.len, st.nd, fun n a c e1 e2 => (st.cell n a c e1 e2).wr (Wr.hid h) (upd_ne fun z => hp (by rw [← z]; exact List.mem_of_getElem? e1))⟩
theorem Wd.add {ad' : List Addr} {H' : Hp} {p : Addr} (w : Wd ad H ad' H') (hp : H p = none) : Wd ad H (ad' ++ [p]) H' :=
  ⟨w.pre.trans (List.prefix_append _ _), w.keep, w.tup, w.frz, fun b m n => by
    rcases List.mem_append.mp m with m | m
    · exact w.new b m n
    · have : b = p := by simpa using m
      subst this; exact hp⟩
theorem StOk.add (st : StOk K ad H S) {p : Addr} {vs : List V} {ds : List D} (h : H p = some (.lst vs)) (hp : p ∉ ad) (r : RelAll K ad H ds vs) : StOk K (ad ++ [p]) H (S ++ [.lst ds]) where
  len := by rw [List.length_append, List.length_append, st.len]; rfl
  nd := by
    rw [List.nodup_append]
    refine ⟨st.nd, by simp, fun a ha b hb e => ?_⟩
    have : b = p := by simpa using hb
    subst this; subst e
    exact hp ha
  cell := fun n a c e1 e2 => by
    have w : Wr ad H (ad ++ [p]) H := ⟨List.prefix_append _ _, fun _ _ q => q, fun _ _ _ q => q⟩
    by_cases hn : n < ad.length
    · rw [List.getElem?_append_left hn] at e1
      rw [List.getElem?_append_left (by rw [← st.len]; exact hn)] at e2
      exact (st.cell n a c e1 e2).wr w rfl
    · have hn' : ad.length ≤ n := Nat.le_of_not_lt hn
      rw [List.getElem?_append_right hn'] at e1
      rw [List.getElem?_append_right (by rw [← st.len]; exact hn'), ← st.len] at e2
      cases hk : n - ad.length with
      | zero =>
        rw [hk] at e1 e2
        have e1' : p = a := by simpa using e1
        have e2' : Cell.lst ds = c := by simpa using e2
        subst e1' e2'
        exact ⟨vs, h, RelAll.wr w r⟩
      | succ k => rw [hk] at e1; simp at e1
theorem Lst.sq (st : StOk K ad H S) {x : D} {xs : List D} {v : V} (h : Lst S x xs) (r : Rel K ad H x v) : ∃ a vs, v = .ref a ∧ SqL K H a vs ∧ RelAll K ad H xs vs := by
  rcases h with rfl | ⟨n, rfl, h⟩
  · cases r with
    | rl h r => exact ⟨_, _, rfl, h.sq, r⟩
  · cases r with
    | ref e =>
      obtain ⟨vs, e2, r⟩ := st.cell n _ _ e h
      exact ⟨_, vs, rfl, SqL.of e2, r⟩
theorem Seqs.sq (st : StOk K ad H S) {x : D} {xs : List D} {v : V} (h : Seqs S x xs) (r : Rel K ad H x v) : ∃ a vs, v = .ref a ∧ (SqL K H a vs ∨ SqT K H a vs) ∧ RelAll K ad H xs vs := by
  rcases h with rfl | h
  · cases r with
    | tup h r => exact ⟨_, _, rfl, .inr (SqT.of h), r⟩
  · obtain ⟨a, vs, e, s, r⟩ := Lst.sq st h r
    exact ⟨a, vs, e, .inl s, r⟩
end
def KK (K : PySem.W.Frag) (ad : List Addr) (H : Hp) (Q0 : DK) (Q : VK) : Prop := ∀ d S' v H' ad', Q0 d S' → Wd ad H ad' H' → StOk K ad' H' S' → Rel K ad' H' d v → Q v H'
theorem KK.wd {K : PySem.W.Frag} {ad ad' : List Addr} {H H' : Hp} {Q0 : DK} {Q : VK} (k : KK K ad H Q0 Q) (w : Wd ad H ad' H') : KK K ad' H' Q0 Q := fun d S' v H' ad' q w' => k d S' v H' ad' q (w.trans w')
def up (K : PySem.W.Frag) (t : DE) : TE := fun σ H Q => ∃ ad ρ S Q0, StOk K ad H S ∧ RhoOk K ad H ρ σ ∧ t ρ S Q0 ∧ KK K ad H Q0 Q
def upT (K : PySem.W.Frag) (t : DT) : TT := fun σ H Q => ∃ ad ρ S Q0, StOk K ad H S ∧ RhoOk K ad H ρ σ ∧ t ρ S Q0 ∧ ∀ b S' H' ad', Q0 b S' → Wd ad H ad' H' → StOk K ad' H' S' → Q b H'
def upA (K : PySem.W.Frag) (t : DA) : TA := fun σ H Q => ∃ ad ρ S Q0, StOk K ad H S ∧ RhoOk K ad H ρ σ ∧ t ρ S Q0 ∧ ∀ ds S' vs H' ad', Q0 ds S' → Wd ad H ad' H' → StOk K ad' H' S' → RelAll K ad' H' ds vs → Q vs H'
def upF (K : PySem.W.Frag) (f : DSp) : Sp := fun vs H Q _ => ∃ ad S ds Q0, StOk K ad H S ∧ RelAll K ad H ds vs ∧ f ds S Q0 ∧ KK K ad H Q0 Q
structure EndsOk (K : PySem.W.Frag) (ad : List Addr) (H : Hp) (E0 : DEnds) (E : Ends) : Prop where
  nx : ∀ ρ S σ H' ad', E0.nx ρ S → Wd ad H ad' H' → StOk K ad' H' S → RhoOk K ad' H' ρ σ → E.nx σ H'
  rt : KK K ad H E0.rt E.rt
  bk : ∀ ρ S σ H' ad', E0.bk ρ S → Wd ad H ad' H' → StOk K ad' H' S → RhoOk K ad' H' ρ σ → E.bk σ H'
  ct : ∀ ρ S σ H' ad', E0.ct ρ S → Wd ad H ad' H' → StOk K ad' H' S → RhoOk K ad' H' ρ σ → E.ct σ H'
theorem EndsOk.wd {K : PySem.W.Frag} {ad ad' : List Addr} {H H' : Hp} {E0 : DEnds} {E : Ends} (k : EndsOk K ad H E0 E) (w : Wd ad H ad' H') : EndsOk K ad' H' E0 E :=
  ⟨fun ρ S σ H' ad' q w' => k.nx ρ S σ H' ad' q (w.trans w'), k.rt.wd w, fun ρ S σ H' ad' q w' => k.bk ρ S σ H' ad' q (w.trans w'), fun ρ S σ H' ad' q w' => k.ct ρ S σ H' ad' q (w.trans w')⟩
def upS (K : PySem.W.Frag) (t : DS) : TS := fun E σ H => ∃ ad ρ S E0, StOk K ad H S ∧ RhoOk K ad H ρ σ ∧ t E0 ρ S ∧ EndsOk K ad H E0 E
def PD (X : Cx) (e : Expr) (t : DE) : Prop := PE X e (up X.K t)
def PTD (X : Cx) (e : Expr) (t : DT) : Prop := PT X e (upT X.K t)
def PWD (X : Cx) (e : Expr) (t : DT) : Prop := PW X e (upT X.K t)
def PAD (X : Cx) (es : List Expr) (t : DA) : Prop := PA X es (upA X.K t)
def PSD (X : Cx) (st : Stmt) (t : DS) : Prop := PS X st (upS X.K t)
def PSsD (X : Cx) (st : List Stmt) (t : DS) : Prop := PSs X st (upS X.K t)
theorem pe_mono {X : Cx} {e : Expr} {t t' : TE} (h : PE X e t) (m : ∀ σ H Q, t' σ H Q → t σ H Q) : PE X e t' := fun pins s σ H Q I q => h pins s σ H Q I (m σ H Q q)
theorem pt_mono {X : Cx} {e : Expr} {t t' : TT} (h : PT X e t) (m : ∀ σ H Q, t' σ H Q → t σ H Q) : PT X e t' := fun pins s σ H Q I q => h pins s σ H Q I (m σ H Q q)
theorem pw_mono {X : Cx} {e : Expr} {t t' : TT} (h : PW X e t) (m : ∀ σ H Q, t' σ H Q → t σ H Q) : PW X e t' := fun wh pins s σ H Q I q => h wh pins s σ H Q I (m σ H Q q)
theorem pa_mono {X : Cx} {e : List Expr} {t t' : TA} (h : PA X e t) (m : ∀ σ H Q, t' σ H Q → t σ H Q) : PA X e t' := fun pos pins s σ H Q I q => h pos pins s σ H Q I (m σ H Q q)
theorem ps_mono {X : Cx} {st : Stmt} {t t' : TS} (h : PS X st t) (m : ∀ D σ H, t' D σ H → t D σ H) : PS X st t' := fun pins s σ H D I q => h pins s σ H D I (m D σ H q)
theorem pss_mono {X : Cx} {st : List Stmt} {t t' : TS} (h : PSs X st t) (m : ∀ D σ H, t' D σ H → t D σ H) : PSs X st t' := fun pins s σ H D I q => h pins s σ H D I (m D σ H q)
section
variable {X : Cx} {a b c : Expr} {ta tb tc : DE} {pos : Pos}
theorem pd_of {e : Expr} {t : TE} {d : DE} (h : PE X e t) (m : ∀ σ H Q, up X.K d σ H Q → t σ H Q) : PD X e d := pe_mono h m
theorem pd_var {e : Expr} {i : Nat} (h : PE X e (tVar i)) : PD X e (dVar i) := pd_of h fun σ H Q ⟨ad, ρ, S, Q0, st, rh, ⟨d, e, q⟩, k⟩ => by
  obtain ⟨v, ev, r⟩ := rh.val i d e
  exact ⟨v, ev, k d S v H ad q Wd.refl st r⟩
theorem pd_c {e : Expr} {v : V} {d : D} (h : PE X e (tC v)) (r : ∀ ad H, Rel X.K ad H d v) : PD X e (dC d) := pd_of h fun σ H Q ⟨ad, ρ, S, Q0, st, rh, q, k⟩ => k d S v H ad q Wd.refl st (r _ _)
theorem pd_int {i j} : PD X (.Constant (.int i) j pos) (dC (.int i)) := pd_c pe_int fun _ _ => .int i
theorem pd_bl {b j} : PD X (.Constant (.bool b) j pos) (dC (.bl b)) := pd_c pe_bl fun _ _ => .bl b
theorem pd_non {j} : PD X (.Constant .none j pos) (dC .non) := pd_c pe_non fun _ _ => .non
theorem pd_powc {i j : Int} {m n : Nat} {p1 p2 : Pos} (c : Int) (h : i ^ j.toNat = c) (h0 : 0 ≤ j ∧ j ≤ 1000000 ∧ i.natAbs < 2 ^ 64) : PD X (.BinOp (.Constant (.int i) m p1) .Pow (.Constant (.int j) n p2) pos) (dC (.int c)) := pd_c (pe_powc c h h0) fun _ _ => .int c
def OD (K : PySem.W.Frag) (r' : DR2) (r : R2) : Prop := ∀ ad H S x y v u Q0 Q, StOk K ad H S → Rel K ad H x v → Rel K ad H y u → r' x y S Q0 → KK K ad H Q0 Q → r v u H Q
theorem up_op {K : PySem.W.Frag} {r' : DR2} {r : R2} (o : OD K r' r) {σ : L2.St} {H : Hp} {Q : VK} (h : up K (dOp r' ta tb) σ H Q) : tOp r (up K ta) (up K tb) σ H Q := by
  obtain ⟨ad, ρ, S, Q0, st, rh, q, k⟩ := h
  refine ⟨ad, ρ, S, _, st, rh, q, fun x S1 v H1 ad1 q1 w1 st1 r1 => ?_⟩
  refine ⟨ad1, ρ, S1, _, st1, rh.wd w1, q1, fun y S2 u H2 ad2 q2 w2 st2 r2 => ?_⟩
  exact o ad2 H2 S2 x y v u Q0 Q st2 (r1.wd w2) r2 q2 (k.wd (w1.trans w2))
theorem pd_op {op : Operator} {r' : DR2} {r : R2} (ho : OpR X (binaryOp op) r) (o : OD X.K r' r) (ha : PD X a ta) (hb : PD X b tb) : PD X (.BinOp a op b pos) (dOp r' ta tb) := pd_of (pe_op ho ha hb) fun _ _ _ => up_op o
theorem od_I {K : PySem.W.Frag} {C C' : Int → Int → Prop} {g : Int → Int → D} {g' : Int → Int → V} (hc : ∀ i j, C i j → C' i j) (hg : ∀ ad H i j, Rel K ad H (g i j) (g' i j)) : OD K (oI C g) (rI C' g') := fun ad H S x y v u Q0 Q st rx ry ⟨i, j, ex, ey, c, q⟩ k => by
  subst ex ey
  cases rx
  cases ry
  exact ⟨i, j, rfl, rfl, hc i j c, k _ S _ H ad q Wd.refl st (hg ad H i j)⟩
theorem od_I0 {K : PySem.W.Frag} {g : Int → Int → D} {g' : Int → Int → V} (hg : ∀ ad H i j, Rel K ad H (g i j) (g' i j)) : OD K (oI0 g) (rI0 g') := fun ad H S x y v u Q0 Q st rx ry ⟨i, j, ex, ey, q⟩ k => by
  subst ex ey
  cases rx
  cases ry
  exact ⟨i, j, rfl, rfl, k _ S _ H ad q Wd.refl st (hg ad H i j)⟩
theorem bits64 {i : Int} (h : i.natAbs < 2 ^ 64) : -(2 ^ 64) < i ∧ i < 2 ^ 64 := ⟨by omega, by omega⟩
def CMulE (i j : Int) : Prop := CMulD i j
theorem op_mulE : OpR X (binaryOp .Mult) (rI CMulE fun i j => .int (i * j)) := opI fun i j _ _ _ _ _ hc q => by
  rcases hc with h | h | h
  · exact mul_int q (IntMulOk.of_bits (bits_of_bd h.1) (bits_of_bd h.2))
  · exact mul_int q (CMul.ok (.inl (bits64 h)))
  · exact mul_int q (CMul.ok (.inr (bits64 h)))
theorem pd_sub (ha : PD X a ta) (hb : PD X b tb) : PD X (.BinOp a .Sub b pos) (dOp oSub ta tb) := pd_op op_sub (od_I0 fun _ _ i j => .int (i - j)) ha hb
theorem pd_mul (ha : PD X a ta) (hb : PD X b tb) : PD X (.BinOp a .Mult b pos) (dOp oMul ta tb) := pd_op op_mulE (od_I (fun _ _ h => h) fun _ _ i j => .int (i * j)) ha hb
theorem pd_div (ha : PD X a ta) (hb : PD X b tb) : PD X (.BinOp a .FloorDiv b pos) (dOp oDiv ta tb) := pd_op op_fdivB (od_I (fun _ _ h => h) fun _ _ i j => .int (i.fdiv j)) ha hb
theorem pd_mod (ha : PD X a ta) (hb : PD X b tb) : PD X (.BinOp a .Mod b pos) (dOp oMod ta tb) := pd_op op_modB (od_I (fun _ _ h => h) fun _ _ i j => .int (i.fmod j)) ha hb
theorem big_le {n : Nat} (h : n ≤ big) : n ≤ sizeLine := Nat.le_trans h (by decide)
theorem big_lt {n : Nat} (h : n < big) : n < sizeLine := Nat.lt_of_lt_of_le h (by decide)
theorem newL_k {K : PySem.W.Frag} {ad : List Addr} {H : Hp} {S : Sto} {Q0 : DK} {Q : VK} {ds : List D} {vs : List V} (st : StOk K ad H S) (k : KK K ad H Q0 Q) (r : RelAll K ad H ds vs) (q : Q0 (.ref S.length) (S ++ [.lst ds])) (l : Addr) (h : H l = none) : Q (.ref l) (upd H l (.lst vs)) :=
  k _ _ _ _ _ q (Wd.newL st h) (st.newL h r) st.newRef
theorem newT_k {K : PySem.W.Frag} {ad : List Addr} {H : Hp} {S : Sto} {Q0 : DK} {Q : VK} {ds : List D} {vs : List V} (st : StOk K ad H S) (k : KK K ad H Q0 Q) (r : RelAll K ad H ds vs) (q : Q0 (.tup ds) S) (l : Addr) (h : H l = none) : Q (.ref l) (upd H l (.tup vs)) :=
  k _ _ _ _ _ q (Wd.laid h) (st.laid h) (.tup upd_same (r.wd (Wd.laid h)))
theorem pd_add (ha : PD X a ta) (hb : PD X b tb) : PD X (.BinOp a .Add b pos) (dOp oAdd ta tb) :=
  pd_op (op_add.or ((op_catT2 rfl).or (op_catK rfl))) (fun ad H S x y v u Q0 Q st rx ry h k => by
    rcases h with ⟨i, j, rfl, rfl, q⟩ | ⟨xs, ys, rfl, rfl, hz, q⟩ | ⟨xs, ys, hx, hy, hz, q⟩
    · cases rx
      cases ry
      exact .inl ⟨i, j, rfl, rfl, k _ S _ H ad q Wd.refl st (.int _)⟩
    · cases rx with
      | tup h1 r1 =>
        cases ry with
        | tup h2 r2 =>
          have l1 := r1.length
          have l2 := r2.length
          refine .inr (.inl ⟨_, _, _, _, rfl, rfl, SqT.of h1, SqT.of h2, by rw [← l1, ← l2]; exact big_le hz, fun e => ?_, fun _ e => ?_, fun _ _ p hp => newT_k st k (r1.append r2) q p hp⟩)
          · have e' : xs = [] := List.length_eq_zero_iff.mp (by rw [l1, e]; rfl)
            subst e'
            exact k _ S _ H ad q Wd.refl st (.tup h2 r2)
          · have e' : ys = [] := List.length_eq_zero_iff.mp (by rw [l2, e]; rfl)
            subst e'
            rw [List.append_nil] at q
            exact k _ S _ H ad q Wd.refl st (.tup h1 r1)
    · obtain ⟨a1, vs1, rfl, s1, r1⟩ := hx.sq st rx
      obtain ⟨a2, vs2, rfl, s2, r2⟩ := hy.sq st ry
      exact .inr (.inr ⟨_, _, _, _, rfl, rfl, s1, s2, by rw [← r1.length, ← r2.length]; exact big_le hz, fun p hp => newL_k st k (r1.append r2) q p hp⟩)) ha hb
theorem pd_neg (ha : PD X a ta) : PD X (.UnaryOp .USub a pos) (dUn oNeg ta) := pd_of (pe_un un_neg ha) fun σ H Q ⟨ad, ρ, S, Q0, st, rh, q, k⟩ => by
  refine ⟨ad, ρ, S, _, st, rh, q, fun x S1 v H1 ad1 q1 w1 st1 r1 => ?_⟩
  obtain ⟨i, rfl, q1⟩ := q1
  cases r1
  exact ⟨i, rfl, k _ _ _ _ _ q1 w1 st1 (.int _)⟩
def OC (X : Cx) (op : CmpOp) (r' : DR2) : Prop := ∃ r, OpR X (compareOp op) r ∧ OD X.K r' r
theorem od_Lt : OC X .Lt oLt := ⟨_, op_lt, od_I0 fun _ _ _ _ => .bl _⟩
theorem od_Le : OC X .LtE oLe := ⟨_, op_le, od_I0 fun _ _ _ _ => .bl _⟩
theorem od_Gt : OC X .Gt oGt := ⟨_, op_gt, od_I0 fun _ _ _ _ => .bl _⟩
mutual
def pyD : D → PyData
  | .non => .none
  | .bl b => .bool b
  | .int i => .int i
  | .str x => .str x
  | .tup xs => .tuple (pyAll xs)
  | .ref _ => .none
  | .ty _ => .none
  | .rl _ => .none
def pyAll : List D → List PyData
  | [] => []
  | x :: xs => pyD x :: pyAll xs
end
section
variable {pins : List (Addr × Obj)} {σ : L2.St} {H : Hp} {s : Shared} {ad : List Addr}
theorem flat_all (I : Inv X pins σ H s) (k : Nat) (h1 : ∀ d v u, fl k d = true → Rel X.K ad H d v → RelV v u → ∃ as, Reads s.heap u (pyD d) as) : ∀ ds vs us, ds.all (fl k) = true → RelAll X.K ad H ds vs → Vals vs us → ∃ as, ReadsAll s.heap us (pyAll ds) as := by
  intro ds
  induction ds with
  | nil => intro vs us _ r rv; cases r; cases rv; exact ⟨_, .nil⟩
  | cons d ds ih =>
    intro vs us hf r rv
    rw [List.all_cons, Bool.and_eq_true] at hf
    cases r with
    | cons r t =>
      cases rv with
      | cons q qt =>
        obtain ⟨as, ra⟩ := h1 d _ _ hf.1 r q
        obtain ⟨bs, rb⟩ := ih _ _ hf.2 t qt
        exact ⟨_, .cons ra rb⟩
theorem flat_one (I : Inv X pins σ H s) : ∀ (k : Nat) (d : D) (v : V) (u : Value), fl k d = true → Rel X.K ad H d v → RelV v u → ∃ as, Reads s.heap u (pyD d) as := by
  intro k
  induction k with
  | zero =>
    intro d v u hf r q
    cases r with
    | non => cases q; exact ⟨_, .none⟩
    | bl b => cases q; exact ⟨_, .bool b⟩
    | int i => obtain ⟨t, rfl⟩ := q; exact ⟨_, .int i t⟩
    | str x => obtain ⟨t, rfl⟩ := q; exact ⟨_, .str x t⟩
    | ty n => cases hf
    | tup h r => cases hf
    | rl h r => cases hf
    | ref h => cases hf
  | succ k ih =>
    intro d v u hf r q
    cases r with
    | non => cases q; exact ⟨_, .none⟩
    | bl b => cases q; exact ⟨_, .bool b⟩
    | int i => obtain ⟨t, rfl⟩ := q; exact ⟨_, .int i t⟩
    | str x => obtain ⟨t, rfl⟩ := q; exact ⟨_, .str x t⟩
    | ty n => cases hf
    | tup h r =>
      cases q
      obtain ⟨its, rv, ht, hz⟩ := I.tuple (SqT.of h)
      obtain ⟨o, ho, hc, n, hd⟩ := ht
      obtain ⟨as, ra⟩ := flat_all I k ih _ _ _ hf r rv
      exact ⟨_, .tuple ho hc hd (by simpa using ra)⟩
    | rl h r => cases hf
    | ref h => cases hf
end
theorem flat_lay : ∀ (k : Nat) (d : D), fl k d = true → (pyD d).canLay0 = true ∧ (pyD d).depth ≤ k := by
  have all : ∀ k, (∀ d, fl k d = true → (pyD d).canLay0 = true ∧ (pyD d).depth ≤ k) → ∀ ds : List D, ds.all (fl k) = true → PyData.canLayAll0 (pyAll ds) = true ∧ PyData.depthAll (pyAll ds) ≤ k := by
    intro k h ds
    induction ds with
    | nil => intro _; exact ⟨rfl, Nat.zero_le _⟩
    | cons d ds ih =>
      intro hf
      rw [List.all_cons, Bool.and_eq_true] at hf
      obtain ⟨a1, a2⟩ := h d hf.1
      obtain ⟨b1, b2⟩ := ih hf.2
      refine ⟨?_, ?_⟩
      · show (PyData.canLay0 (pyD d) && PyData.canLayAll0 (pyAll ds)) = true
        rw [a1, b1]; rfl
      · show max (PyData.depth (pyD d)) (PyData.depthAll (pyAll ds)) ≤ k
        exact Nat.max_le.mpr ⟨a2, b2⟩
  intro k
  induction k with
  | zero =>
    intro d hf
    cases d with
    | non => exact ⟨rfl, Nat.zero_le _⟩
    | bl b => exact ⟨rfl, Nat.zero_le _⟩
    | int i => exact ⟨rfl, Nat.zero_le _⟩
    | str x => exact ⟨hf, Nat.zero_le _⟩
    | tup xs => cases hf
    | ref n => cases hf
    | ty n => cases hf
    | rl xs => cases hf
  | succ k ih =>
    intro d hf
    cases d with
    | non => exact ⟨rfl, Nat.zero_le _⟩
    | bl b => exact ⟨rfl, Nat.zero_le _⟩
    | int i => exact ⟨rfl, Nat.zero_le _⟩
    | str x => exact ⟨hf, Nat.zero_le _⟩
    | tup xs =>
      obtain ⟨h1, h2⟩ := all k ih xs hf
      refine ⟨h1, ?_⟩
      show PyData.depthAll (pyAll xs) + 1 ≤ k + 1
      omega
    | ref n => cases hf
    | ty n => cases hf
    | rl xs => cases hf
theorem flat_layAll (k : Nat) : ∀ ds : List D, ds.all (fl k) = true → PyData.canLayAll0 (pyAll ds) = true ∧ PyData.depthAll (pyAll ds) ≤ k := by
  intro ds
  induction ds with
  | nil => intro _; exact ⟨rfl, Nat.zero_le _⟩
  | cons d ds ih =>
    intro hf
    rw [List.all_cons, Bool.and_eq_true] at hf
    obtain ⟨a1, a2⟩ := flat_lay k d hf.1
    obtain ⟨b1, b2⟩ := ih hf.2
    refine ⟨?_, ?_⟩
    · show (PyData.canLay0 (pyD d) && PyData.canLayAll0 (pyAll ds)) = true
      rw [a1, b1]; rfl
    · show max (PyData.depth (pyD d)) (PyData.depthAll (pyAll ds)) ≤ k
      exact Nat.max_le.mpr ⟨a2, b2⟩
mutual
theorem eqv_py : ∀ (k : Nat) (x y : D), fl k x = true → fl k y = true → PyData.eqv (pyD x) (pyD y) = eqv x y
  | k, .non, y, _, hy => by cases y <;> first | rfl | (cases k <;> cases hy)
  | k, .bl a, y, _, hy => by cases y <;> first | rfl | (cases k <;> cases hy)
  | k, .int i, y, _, hy => by
    cases y with
    | int j => show (i == j) = decide (i = j); rw [Bool.beq_eq_decide_eq]
    | ref n => cases k <;> cases hy
    | ty n => cases k <;> cases hy
    | rl n => cases k <;> cases hy
    | _ => rfl
  | k, .str a, y, _, hy => by cases y <;> first | rfl | (cases k <;> cases hy)
  | 0, .tup xs, y, hx, _ => by cases hx
  | k + 1, .tup xs, y, hx, hy => by
    cases y with
    | tup ys => exact eqv_pyAll k xs ys hx hy
    | ref n => cases hy
    | ty n => cases hy
    | rl n => cases hy
    | _ => rfl
  | k, .ref n, y, hx, _ => by cases k <;> cases hx
  | k, .ty n, y, hx, _ => by cases k <;> cases hx
  | k, .rl n, y, hx, _ => by cases k <;> cases hx
theorem eqv_pyAll : ∀ (k : Nat) (xs ys : List D), xs.all (fl k) = true → ys.all (fl k) = true → PyData.eqvAll (pyAll xs) (pyAll ys) = eqvAll xs ys
  | k, [], [], _, _ => rfl
  | k, [], y :: ys, _, _ => rfl
  | k, x :: xs, [], _, _ => rfl
  | k, x :: xs, y :: ys, hx, hy => by
    rw [List.all_cons, Bool.and_eq_true] at hx hy
    show (PyData.eqv (pyD x) (pyD y) && PyData.eqvAll (pyAll xs) (pyAll ys)) = (eqv x y && eqvAll xs ys)
    rw [eqv_py k x y hx.1 hy.1, eqv_pyAll k xs ys hx.2 hy.2]
end
def rEqE (X : Cx) (g : Bool → Bool) : R2 := fun x y H Q => ∃ ad S dx dy b, StOk X.K ad H S ∧ Rel X.K ad H dx x ∧ Rel X.K ad H dy y ∧ EqD S dx dy b ∧ Q (.bl (g b)) H
theorem eqd_reads {pins : List (Addr × Obj)} {σ : L2.St} {H : Hp} {s : Shared} {ad : List Addr} {S : Sto} {dx dy : D} {x y : V} {v u : Value} {b : Bool} (I : Inv X pins σ H s) (st : StOk X.K ad H S) (rx : Rel X.K ad H dx x) (ry : Rel X.K ad H dy y) (qx : RelV x v) (qy : RelV y u) (h : EqD S dx dy b) :
    ∃ px py as bs, Reads s.heap v px as ∧ Reads s.heap u py bs ∧ px.canLay0 = true ∧ py.canLay0 = true ∧ min px.depth py.depth ≤ 60 ∧ PyData.eqv px py = b := by
  rcases h with ⟨fx, fy, rfl⟩ | ⟨xs, ys, hx, hy, fx, fy, rfl⟩
  · obtain ⟨as, ra⟩ := flat_one I 20 dx x v fx rx qx
    obtain ⟨bs, rb⟩ := flat_one I 20 dy y u fy ry qy
    obtain ⟨c1, d1⟩ := flat_lay 20 dx fx
    obtain ⟨c2, d2⟩ := flat_lay 20 dy fy
    exact ⟨_, _, as, bs, ra, rb, c1, c2, by omega, eqv_py 20 dx dy fx fy⟩
  · obtain ⟨a1, vs1, rfl, s1, r1⟩ := hx.sq st rx
    obtain ⟨a2, vs2, rfl, s2, r2⟩ := hy.sq st ry
    cases qx
    cases qy
    obtain ⟨its, rv, ht, hz⟩ := I.list s1
    obtain ⟨its2, rv2, ht2, hz2⟩ := I.list s2
    obtain ⟨o, ho, hc, n, hd⟩ := ht.isList
    obtain ⟨o2, ho2, hc2, n2, hd2⟩ := ht2.isList
    obtain ⟨as, ra⟩ := flat_all I 20 (flat_one I 20) _ _ _ fx r1 rv
    obtain ⟨bs, rb⟩ := flat_all I 20 (flat_one I 20) _ _ _ fy r2 rv2
    obtain ⟨c1, d1⟩ := flat_layAll 20 xs fx
    obtain ⟨c2, d2⟩ := flat_layAll 20 ys fy
    refine ⟨.list (pyAll xs), .list (pyAll ys), _, _, .list ho hc hd (by simpa using ra), .list ho2 hc2 hd2 (by simpa using rb), c1, c2, ?_, eqv_pyAll 20 xs ys fx fy⟩
    show min (PyData.depthAll (pyAll xs) + 1) (PyData.depthAll (pyAll ys) + 1) ≤ 60
    omega
theorem od_Eq {k : Nat} (hr : Room k X.A) : OC X .Eq oEq := ⟨rEqE X id, fun pins s σ H x y v u Q I qx qy ⟨ad, S, dx, dy, b, st, rx, ry, h, q⟩ => by
    obtain ⟨px, py, as, bs, ra, rb, c1, c2, hd, e⟩ := eqd_reads I st rx ry qx qy h
    have hu := hr.units
    exact PySem.SeqAt.rcAt_reads ra rb c1 c2 (by omega) X.prog X.w X.xe _ ⟨.bl _, H, I, by rw [e]; rfl, q⟩,
  fun ad H S x y v u Q0 Q st rx ry ⟨b, h, q⟩ k => ⟨ad, S, x, y, b, st, rx, ry, h, k _ S _ H ad q Wd.refl st (.bl _)⟩⟩
theorem od_Ne {k : Nat} (hr : Room k X.A) : OC X .NotEq oNe := ⟨rEqE X (!·), fun pins s σ H x y v u Q I qx qy ⟨ad, S, dx, dy, b, st, rx, ry, h, q⟩ => by
    obtain ⟨px, py, as, bs, ra, rb, c1, c2, hd, e⟩ := eqd_reads I st rx ry qx qy h
    have hu := hr.units
    exact PySem.SeqAt.rcNeAt_reads ra rb c1 c2 (by omega) X.prog X.w X.xe _ ⟨.bl _, H, I, by rw [e]; rfl, q⟩,
  fun ad H S x y v u Q0 Q st rx ry ⟨b, h, q⟩ k => ⟨ad, S, x, y, b, st, rx, ry, h, k _ S _ H ad q Wd.refl st (.bl _)⟩⟩
theorem pd_cmp {op : CmpOp} {r' : DR2} (o : OC X op r') (ha : PD X a ta) (hb : PD X b tb) (h : op ≠ .In := by decide) (h2 : op ≠ .NotIn := by decide) : PD X (.Compare a [op] [b] pos) (dOp r' ta tb) := by
  obtain ⟨r, ho, od⟩ := o
  exact pd_of (pe_cmpR ho ha hb (nomark _ h h2)) fun _ _ _ => up_op od
theorem pt_cmpD {op : CmpOp} {r' : DR2} (o : OC X op r') (ha : PD X a ta) (hb : PD X b tb) (h : op ≠ .In := by decide) (h2 : op ≠ .NotIn := by decide) : PTD X (.Compare a [op] [b] pos) (dT (dOp r' ta tb)) := by
  obtain ⟨r, ho, od⟩ := o
  refine pt_mono (pt_cmpR ho ha hb (nomark _ h h2)) fun σ H Q ⟨ad, ρ, S, Q0, st, rh, q, k⟩ => ?_
  refine up_op (Q := fun x H' => ∃ k, x = .bl k ∧ Q k H') od ⟨ad, ρ, S, _, st, rh, q, fun d S' v H' ad' ⟨b, e, q'⟩ w st' r => ?_⟩
  subst e
  cases r
  exact ⟨b, rfl, k b S' H' ad' q' w st'⟩
theorem up_chain {K : PySem.W.Frag} {r1' r2' : DR2} {r1 r2 : R2} (o1 : OD K r1' r1) (o2 : OD K r2' r2) {σ : L2.St} {H : Hp} {Q : VK} (h : up K (dChain r1' r2' ta tb tc) σ H Q) : tChain r1 r2 (up K ta) (up K tb) (up K tc) σ H Q := by
  obtain ⟨ad, ρ, S, Q0, st, rh, q, k⟩ := h
  refine ⟨ad, ρ, S, _, st, rh, q, fun x S1 v H1 ad1 q1 w1 st1 rx => ?_⟩
  refine ⟨ad1, ρ, S1, _, st1, rh.wd w1, q1, fun y S2 u H2 ad2 q2 w2 st2 ry => ?_⟩
  refine o1 ad2 H2 S2 x y v u _ _ st2 (rx.wd w2) ry q2 fun z S3 z' H3 ad3 ⟨c, e, q3⟩ w3 st3 rz => ?_
  subst e
  cases rz
  refine ⟨c, rfl, ?_⟩
  cases c with
  | true =>
    rw [if_pos rfl] at q3 ⊢
    refine ⟨ad3, ρ, S3, _, st3, rh.wd ((w1.trans w2).trans w3), q3, fun z S4 z' H4 ad4 q4 w4 st4 rz => ?_⟩
    exact o2 ad4 H4 S4 y z u z' Q0 Q st4 (ry.wd (w3.trans w4)) rz q4 (k.wd (((w1.trans w2).trans w3).trans w4))
  | false =>
    rw [if_neg Bool.false_ne_true] at q3 ⊢
    exact k _ S3 _ H3 ad3 q3 ((w1.trans w2).trans w3) st3 (.bl _)
theorem pd_chain {op op' : CmpOp} {r1 r2 : DR2} (o1 : OC X op r1) (o2 : OC X op' r2) (ha : PD X a ta) (hb : PD X b tb) (hc : PD X c tc) (hm : lastMarks [op, op'] [b, c] = false := by with_unfolding_all rfl) : PD X (.Compare a [op, op'] [b, c] pos) (dChain r1 r2 ta tb tc) := by
  obtain ⟨s1, h1, d1⟩ := o1
  obtain ⟨s2, h2, d2⟩ := o2
  exact pd_of (pe_chain h1 h2 ha hb hc hm) fun _ _ _ => up_chain d1 d2
theorem pt_valD {e : Expr} {t : DE} (h : PD X e t) (he : ∀ whole, isTrue e X.env whole = (do let v ← whole; standAt e.pos; holding [v] (truthy v)) := by intro _; rfl) : PTD X e (dT t) := pt_mono (pt_val h he) fun σ H Q ⟨ad, ρ, S, Q0, st, rh, q, k⟩ =>
  ⟨ad, ρ, S, _, st, rh, q, fun d S' v H' ad' ⟨b, e, q'⟩ w st' r => by
    subst e
    cases r
    exact ⟨b, rfl, k b S' H' ad' q' w st'⟩⟩
variable {tA tB' : DT} {rest : List Expr}
theorem pw_ptD {e : Expr} {t : DT} (h : PWD X e t) : PTD X e t := h _
theorem pw_and1D (ha : PTD X a tA) : PWD X (.BoolOp .And [a] pos) tA := pw_and1 ha
theorem pw_or1D (ha : PTD X a tA) : PWD X (.BoolOp .Or [a] pos) tA := pw_or1 ha
theorem pw_andD (ha : PTD X a tA) (hb : PWD X (.BoolOp .And (b :: rest) pos) tB') : PWD X (.BoolOp .And (a :: b :: rest) pos) (dAnd tA tB') := pw_mono (pw_and ha hb) fun σ H Q ⟨ad, ρ, S, Q0, st, rh, q, k⟩ =>
  ⟨ad, ρ, S, _, st, rh, q, fun b S' H' ad' q' w st' => by
    cases b with
    | true => rw [if_pos rfl] at q' ⊢; exact ⟨ad', ρ, S', Q0, st', rh.wd w, q', fun b S' H' ad' q w' => k b S' H' ad' q (w.trans w')⟩
    | false => rw [if_neg Bool.false_ne_true] at q' ⊢; exact k _ S' H' ad' q' w st'⟩
theorem pw_orD (ha : PTD X a tA) (hb : PWD X (.BoolOp .Or (b :: rest) pos) tB') : PWD X (.BoolOp .Or (a :: b :: rest) pos) (dOr tA tB') := pw_mono (pw_or ha hb) fun σ H Q ⟨ad, ρ, S, Q0, st, rh, q, k⟩ =>
  ⟨ad, ρ, S, _, st, rh, q, fun b S' H' ad' q' w st' => by
    cases b with
    | false => rw [if_neg Bool.false_ne_true] at q' ⊢; exact ⟨ad', ρ, S', Q0, st', rh.wd w, q', fun b S' H' ad' q w' => k b S' H' ad' q (w.trans w')⟩
    | true => rw [if_pos rfl] at q' ⊢; exact k _ S' H' ad' q' w st'⟩
theorem pd_one {op} {t : DE} (h : PD X a t) : PD X (.BoolOp op [a] pos) t := pe_one h
theorem pd_andV (ha : PD X a ta) (hb : PD X (.BoolOp .And (b :: rest) pos) tb) : PD X (.BoolOp .And (a :: b :: rest) pos) (dAndV ta tb) := pd_of (pe_and ha hb) fun σ H Q ⟨ad, ρ, S, Q0, st, rh, q, k⟩ =>
  ⟨ad, ρ, S, _, st, rh, q, fun d S' v H' ad' ⟨c, e, q'⟩ w st' r => by
    subst e
    cases r
    refine ⟨c, rfl, ?_⟩
    cases c with
    | true => rw [if_pos rfl] at q' ⊢; exact ⟨ad', ρ, S', Q0, st', rh.wd w, q', k.wd w⟩
    | false => rw [if_neg Bool.false_ne_true] at q' ⊢; exact k _ S' _ H' ad' q' w st' (.bl _)⟩
theorem pd_orV (ha : PD X a ta) (hb : PD X (.BoolOp .Or (b :: rest) pos) tb) : PD X (.BoolOp .Or (a :: b :: rest) pos) (dOrV ta tb) := pd_of (pe_or ha hb) fun σ H Q ⟨ad, ρ, S, Q0, st, rh, q, k⟩ =>
  ⟨ad, ρ, S, _, st, rh, q, fun d S' v H' ad' ⟨c, e, q'⟩ w st' r => by
    subst e
    cases r
    refine ⟨c, rfl, ?_⟩
    cases c with
    | false => rw [if_neg Bool.false_ne_true] at q' ⊢; exact ⟨ad', ρ, S', Q0, st', rh.wd w, q', k.wd w⟩
    | true => rw [if_pos rfl] at q' ⊢; exact k _ S' _ H' ad' q' w st' (.bl _)⟩
theorem pd_notV (ha : PD X a ta) : PD X (.UnaryOp .Not a pos) (dNotV ta) := pd_of (pe_not ha) fun σ H Q ⟨ad, ρ, S, Q0, st, rh, q, k⟩ =>
  ⟨ad, ρ, S, _, st, rh, q, fun d S' v H' ad' ⟨c, e, q'⟩ w st' r => by
    subst e
    cases r
    exact ⟨c, rfl, k _ S' _ H' ad' q' w st' (.bl _)⟩⟩
end
section
variable {X : Cx} {a b e : Expr} {es : List Expr} {ta tb te : DE} {t : DA} {pos : Pos}
theorem pd_nil : PAD X [] dNil := pa_mono pa_nil fun σ H Q ⟨ad, ρ, S, Q0, st, rh, q, k⟩ => k [] S [] H ad q Wd.refl st .nil
theorem pd_cons (ha : PD X e te) (hr : PAD X es t) (hs : starEach (e :: es) X.env = (false, eval e X.env) :: starEach es X.env := by rfl) : PAD X (e :: es) (dCons te t) := pa_mono (pa_cons ha hr hs) fun σ H Q ⟨ad, ρ, S, Q0, st, rh, q, k⟩ =>
  ⟨ad, ρ, S, _, st, rh, q, fun d S1 v H1 ad1 q1 w1 st1 r1 => ⟨ad1, ρ, S1, _, st1, rh.wd w1, q1, fun ds S2 vs H2 ad2 q2 w2 st2 r2 => k _ S2 _ H2 ad2 q2 (w1.trans w2) st2 (.cons (r1.wd w2) r2)⟩⟩
theorem pd_tup {x1} (h : PAD X es t) : PD X (.Tuple es x1 pos) (dTup t) := pd_of (pe_tup h) fun σ H Q ⟨ad, ρ, S, Q0, st, rh, q, k⟩ =>
  ⟨ad, ρ, S, _, st, rh, q, fun ds S1 vs H1 ad1 ⟨hz, q1⟩ w1 st1 r1 => ⟨by rw [← r1.length]; exact big_le hz, fun p hp => newT_k st1 (k.wd w1) r1 q1 p hp⟩⟩
theorem pd_lst (h : PAD X es t) : PD X (.List es pos) (dLst t) := pd_of (pe_lst h) fun σ H Q ⟨ad, ρ, S, Q0, st, rh, q, k⟩ =>
  ⟨ad, ρ, S, _, st, rh, q, fun ds S1 vs H1 ad1 ⟨hz, q1⟩ w1 st1 r1 => ⟨by rw [← r1.length]; exact big_le hz, fun p hp => newL_k st1 (k.wd w1) r1 q1 p hp⟩⟩
theorem atD_at {xs : List D} {i : Int} {d : D} (h : atD xs i = some d) {K : PySem.W.Frag} {ad : List Addr} {H : Hp} {vs : List V} (r : RelAll K ad H xs vs) : ∃ v, atI vs i = some v ∧ Rel K ad H d v := by
  have e : ixN vs.length i = ixD xs.length i := by rw [r.length]; rfl
  unfold atD at h
  unfold atI
  rw [e]
  cases q : ixD xs.length i with
  | none => rw [q] at h; cases h
  | some j =>
    rw [q] at h
    exact r.get h
theorem pd_ix (ha : PD X a ta) (hb : PD X b tb) (hs : PlainIx b) : PD X (.Subscript a b pos) (dOp oIx ta tb) := pd_of (pe_ix (ix_list.or ix_tup) ha hb hs) fun _ _ _ => up_op fun ad H S x y v u Q0 Q st rx ry ⟨i, xs, d, ey, hx, e, q⟩ k => by
  subst ey
  cases ry
  obtain ⟨p, vs, rfl, hs, r⟩ := hx.sq st rx
  obtain ⟨z, ez, rz⟩ := atD_at e r
  rcases hs with hs | hs
  · exact .inl ⟨p, vs, i, z, rfl, rfl, hs, ez, k _ S _ H ad q Wd.refl st rz⟩
  · exact .inr ⟨p, vs, i, z, rfl, rfl, hs, ez, k _ S _ H ad q Wd.refl st rz⟩
end
end Dp
namespace Dp
open PySem PySem.Spec PyProof.Rows L2 My
section
variable {X : Cx} {a e : Expr} {es : List Expr} {ta te : DE} {t : DA} {pos p : Pos}
theorem pd_call {k j : Nat} {x : Str} {ps : List Str} {f : DSp} (G : Got X.prog X.w X.K X.mg X.base k x ps (upF X.K f)) (hr : Room j X.A) (hk : k ≤ j) (hg : Gl X x)
    (ha : PAD X (e :: es) t) (hdb : (x == ("__debug__" : Str)) = false := by decide) (he : starEach (e :: es) X.env = (false, eval e X.env) :: starEach es X.env := by rfl) (hpl : (backTo pos (starEach es X.env)).any (·.1) = false := by rfl) :
    PD X (.Call (.Name x p) (e :: es) [] pos) (dCall f t) := pd_of (pe_got G hr hk hg ha hdb he hpl) fun σ H Q ⟨ad, ρ, S, Q0, st, rh, q, k⟩ =>
  ⟨ad, ρ, S, _, st, rh, q, fun ds S1 vs H1 ad1 q1 w1 st1 r1 => by
    show upF X.K f (vs ++ []) H1 Q E0
    rw [List.append_nil]; exact ⟨ad1, S1, ds, Q0, st1, r1, q1, k.wd w1⟩⟩
def BD (K : PySem.W.Frag) (r' : DB) (r : List V → Hp → VK → Prop) : Prop := ∀ ad H S ds vs Q0 Q, StOk K ad H S → RelAll K ad H ds vs → r' ds S Q0 → KK K ad H Q0 Q → r vs H Q
def BC (X : Cx) (f : Value) (r' : DB) : Prop := ∃ r, CallR X f r ∧ BD X.K r' r
theorem pd_b {x : Str} {id : String} {r' : DB} (o : BC X (.builtin id) r') (hg : Gl X x) (hm : X.mg x = none) (hv : bootBuiltins x = some (.builtin id)) (ha : PAD X (e :: es) t) (hn : x ≠ "__name__" := by decide) (hdb : (x == ("__debug__" : Str)) = false := by decide)
    (he : starEach (e :: es) X.env = (false, eval e X.env) :: starEach es X.env := by rfl) (hpl : (backTo pos (starEach es X.env)).any (·.1) = false := by rfl) : PD X (.Call (.Name x p) (e :: es) [] pos) (dB r' t) := by
  obtain ⟨r, ho, od⟩ := o
  exact pd_of (pe_callB ho hg hm hv ha hn hdb he hpl) fun σ H Q ⟨ad, ρ, S, Q0, st, rh, q, k⟩ =>
    ⟨ad, ρ, S, _, st, rh, q, fun ds S1 vs H1 ad1 q1 w1 st1 r1 => od ad1 H1 S1 ds vs Q0 Q st1 r1 q1 (k.wd w1)⟩
theorem pd_bt {x : Str} {T : String} {r' : DB} (o : BC X (.type T) r') (hg : Gl X x) (hm : X.mg x = none) (hv : bootBuiltins x = some (.type T)) (ha : PAD X (e :: es) t) (hn : x ≠ "__name__" := by decide) (hdb : (x == ("__debug__" : Str)) = false := by decide)
    (he : starEach (e :: es) X.env = (false, eval e X.env) :: starEach es X.env := by rfl) (hpl : (backTo pos (starEach es X.env)).any (·.1) = false := by rfl) : PD X (.Call (.Name x p) (e :: es) [] pos) (dB r' t) := by
  obtain ⟨r, ho, od⟩ := o
  exact pd_of (pe_callTy ho hg hm hv ha hn hdb he hpl) fun σ H Q ⟨ad, ρ, S, Q0, st, rh, q, k⟩ =>
    ⟨ad, ρ, S, _, st, rh, q, fun ds S1 vs H1 ad1 q1 w1 st1 r1 => od ad1 H1 S1 ds vs Q0 Q st1 r1 q1 (k.wd w1)⟩
theorem rel1 {K : PySem.W.Frag} {ad : List Addr} {H : Hp} {d : D} {vs : List V} (r : RelAll K ad H [d] vs) : ∃ v, vs = [v] ∧ Rel K ad H d v := by
  cases r with
  | cons r t => cases t; exact ⟨_, rfl, r⟩
theorem rel2 {K : PySem.W.Frag} {ad : List Addr} {H : Hp} {d e : D} {vs : List V} (r : RelAll K ad H [d, e] vs) : ∃ v u, vs = [v, u] ∧ Rel K ad H d v ∧ Rel K ad H e u := by
  cases r with
  | cons r t =>
    obtain ⟨u, rfl, r2⟩ := rel1 t
    exact ⟨_, _, rfl, r, r2⟩
theorem bd_Len : BC X (.builtin "len") bLen := ⟨_, call_lenR, fun ad H S ds vs Q0 Q st r ⟨x, xs, e, hx, q⟩ k => by
  subst e
  obtain ⟨v, rfl, rv⟩ := rel1 r
  obtain ⟨a, ws, rfl, hs, rs⟩ := hx.sq st rv
  exact ⟨a, ws, rfl, hs, k _ S _ H ad (by rw [rs.length] at q; exact q) Wd.refl st (.int _)⟩⟩
theorem max_if (i j : Int) : (if j > i then j else i) = max i j := by
  rw [Int.max_def]; split <;> split <;> omega
theorem min_if (i j : Int) : (if j < i then j else i) = min i j := by
  rw [Int.min_def]; split <;> split <;> omega
theorem bd_Max2 (hc : X.calm = true := by rfl) : BC X (.builtin "max") bMax2 := ⟨_, call_maxR hc, fun ad H S ds vs Q0 Q st r ⟨i, j, e, q⟩ k => by
  subst e
  obtain ⟨v, u, rfl, rv, ru⟩ := rel2 r
  cases rv
  cases ru
  exact ⟨i, j, rfl, by rw [max_if]; exact k _ S _ H ad q Wd.refl st (.int _)⟩⟩
theorem bd_Min2 (hc : X.calm = true := by rfl) : BC X (.builtin "min") bMin2 := ⟨_, call_minR hc, fun ad H S ds vs Q0 Q st r ⟨i, j, e, q⟩ k => by
  subst e
  obtain ⟨v, u, rfl, rv, ru⟩ := rel2 r
  cases rv
  cases ru
  exact ⟨i, j, rfl, by rw [min_if]; exact k _ S _ H ad q Wd.refl st (.int _)⟩⟩
theorem bd_Sum (hc : X.calm = true := by rfl) : BC X (.builtin "sum") bSum := ⟨_, call_sumN rfl hc, fun ad H S ds vs Q0 Q st r ⟨x, ns, e, hx, q⟩ k => by
  subst e
  obtain ⟨v, rfl, rv⟩ := rel1 r
  obtain ⟨a, ws, rfl, hs, rs⟩ := hx.sq st rv
  cases rs.ints
  exact ⟨a, ns, rfl, hs, k _ S _ H ad q Wd.refl st (.int _)⟩⟩
theorem bd_Any (hc : X.calm = true := by rfl) : BC X (.builtin "any") bAny := ⟨_, call_anyK rfl hc, fun ad H S ds vs Q0 Q st r ⟨x, ns, e, hx, q⟩ k => by
  subst e
  obtain ⟨v, rfl, rv⟩ := rel1 r
  obtain ⟨a, ws, rfl, hs, rs⟩ := hx.sq st rv
  cases rs.bls
  exact ⟨a, ns, rfl, hs, k _ S _ H ad q Wd.refl st (.bl _)⟩⟩
theorem bd_Tuple : BC X (.type "tuple") bTuple := ⟨_, call_tupK rfl, fun ad H S ds vs Q0 Q st r ⟨x, xs, e, hx, q⟩ k => by
  subst e
  obtain ⟨v, rfl, rv⟩ := rel1 r
  rcases hx with rfl | hx
  · cases rv with
    | tup h rr => exact ⟨_, _, rfl, .inr ⟨SqT.of h, k _ S _ H ad q Wd.refl st (.tup h rr)⟩⟩
  · obtain ⟨a, ws, rfl, hs, rs⟩ := hx.sq st rv
    exact ⟨a, ws, rfl, .inl ⟨hs, fun l hl => newT_k st k rs q l hl⟩⟩⟩
section
variable {K : PySem.W.Frag}
theorem kit_all (t : String) (h : isTy t = true) : PySem.W.kitOne K (.type "NoneType") (.type t) = some false ∧ PySem.W.kitOne K (.type "bool") (.type t) = some (t == "bool" || t == "int") ∧ PySem.W.kitOne K (.type "int") (.type t) = some (t == "int") ∧
    PySem.W.kitOne K (.type "str") (.type t) = some (t == "str") ∧ PySem.W.kitOne K (.type "tuple") (.type t) = some (t == "tuple") ∧ PySem.W.kitOne K (.type "list") (.type t) = some (t == "list") := by
  unfold isTy at h
  simp only [Bool.or_eq_true, beq_iff_eq] at h
  rcases h with (((rfl | rfl) | rfl) | rfl) | rfl
  · exact ⟨by kernel_rfl, by kernel_rfl, by kernel_rfl, by kernel_rfl, by kernel_rfl, by kernel_rfl⟩
  · exact ⟨by kernel_rfl, by kernel_rfl, by kernel_rfl, by kernel_rfl, by kernel_rfl, by kernel_rfl⟩
  · exact ⟨by kernel_rfl, by kernel_rfl, by kernel_rfl, by kernel_rfl, by kernel_rfl, by kernel_rfl⟩
  · exact ⟨by kernel_rfl, by kernel_rfl, by kernel_rfl, by kernel_rfl, by kernel_rfl, by kernel_rfl⟩
  · exact ⟨by kernel_rfl, by kernel_rfl, by kernel_rfl, by kernel_rfl, by kernel_rfl, by kernel_rfl⟩
end
theorem bd_Isi : BC X (.builtin "isinstance") bIsi := ⟨_, call_isi, fun ad H S ds vs Q0 Q st r ⟨x, t, b, e, h, q⟩ k => by
  subst e
  obtain ⟨v, u, rfl, rv, ru⟩ := rel2 r
  cases ru
  have fin := k _ S _ H ad q Wd.refl st (.bl b)
  unfold isiD at h
  split at h
  · cases h
  rename_i hty
  have hty' : isTy t = true := by
    cases hh : isTy t
    · exact absurd (by show (!isTy t) = true; rw [hh]; rfl) hty
    · rfl
  obtain ⟨k1, k2, k3, k4, k5, k6⟩ := kit_all (K := X.K) t hty'
  cases rv with
  | non => cases h; exact ⟨_, _, _, _, rfl, .non, k1, fin⟩
  | bl c => cases h; exact ⟨_, _, _, _, rfl, .bl c, k2, fin⟩
  | int i => cases h; exact ⟨_, _, _, _, rfl, .int i, k3, fin⟩
  | str y => cases h; exact ⟨_, _, _, _, rfl, .str y, k4, fin⟩
  | ty n => cases h
  | tup ht rt => cases h; exact ⟨_, _, _, _, rfl, .tup ht, k5, fin⟩
  | rl hl rl => cases h
  | @ref n a hn =>
    have h : (match S[n]? with | some (.lst _) => some (t == "list") | _ => none) = some b := h
    cases hS : S[n]? with
    | none => rw [hS] at h; cases h
    | some c =>
      rw [hS] at h
      cases c with
      | ins c fs => cases h
      | lst xs =>
        cases h
        obtain ⟨vs, hv, _⟩ := st.cell n a _ hn hS
        exact ⟨_, _, _, _, rfl, .lst hv, k6, fin⟩⟩
theorem p2_rels : ∀ {K : PySem.W.Frag} {ad : List Addr} {H : Hp} {cs : List (Int × Int)} {vs : List V}, RelAll K ad H (cs.map p2) vs → ∃ ps : List Addr, vs = ps.map V.ref ∧ PrsAt H ps cs
  | _, _, _, [], _, .nil => ⟨[], rfl, .nil⟩
  | _, _, _, c :: cs, _, .cons r t => by
    obtain ⟨ps, rfl, h⟩ := p2_rels t
    cases r with
    | tup h1 r1 =>
      obtain ⟨v, u, rfl, rv, ru⟩ := rel2 r1
      cases rv
      cases ru
      exact ⟨_ :: ps, rfl, .cons h1 h⟩
theorem p2_mk : ∀ {K : PySem.W.Frag} {ad : List Addr} {H : Hp} {cs : List (Int × Int)} {ps : List Addr}, PrsAt H ps cs → RelAll K ad H (cs.map p2) (ps.map V.ref)
  | _, _, _, _, _, .nil => .nil
  | _, _, _, _, _, .cons r t => .cons (.tup r (.cons (.int _) (.cons (.int _) .nil))) (p2_mk t)
theorem plt_eq (a b : Int × Int) : plt a b = plt2 a b := by
  unfold plt plt2
  by_cases h : a.1 = b.1
  · simp [h]
  · simp [h]
theorem bd_Sort2 : BC X (.builtin "sorted") bSort2 := ⟨_, call_sortedP rfl, fun ad H S ds vs Q0 Q st r ⟨x, cs, e, hx, h64, q⟩ k => by
  subst e
  obtain ⟨v, rfl, rv⟩ := rel1 r
  obtain ⟨a, ws, rfl, hs, rs⟩ := hx.sq st rv
  obtain ⟨ps, rfl, hp⟩ := p2_rels rs
  exact ⟨a, ps, cs, rfl, hs, hp, h64, fun l ps' cs' hl hp' hperm hpw => newL_k st k (p2_mk hp') (q cs' hperm (hpw.imp fun h => by rw [← plt_eq]; exact h)) l hl⟩⟩
def MD (X : Cx) (id : String) (r' : DM) : Prop := ∃ r, MtR X id r ∧ ∀ ad H S x ds v vs Q0 Q, StOk X.K ad H S → Rel X.K ad H x v → RelAll X.K ad H ds vs → r' x ds S Q0 → KK X.K ad H Q0 Q → r v vs H Q
theorem isl_ty {K : PySem.W.Frag} {ad : List Addr} {H : Hp} {S : Sto} {x : D} {v : V} (st : StOk K ad H S) (h : ∃ n ys, x = .ref n ∧ S[n]? = some (.lst ys)) (r : Rel K ad H x v) : tyV K "list" v H := by
  obtain ⟨n, ys, rfl, h⟩ := h
  cases r with
  | ref e =>
    obtain ⟨vs, hv, _⟩ := st.cell n _ _ e h
    exact .inl ⟨rfl, vs, SqL.of hv⟩
theorem pd_m {o : Expr} {to : DE} {name : Str} {id : String} {apos cpos : Pos} {r' : DM} (slot : Slot "list" name id) (hty : typeOf (.builtin id) = pure (.type "method_descriptor")) (hm : MD X id r') (ho : PD X o to) (ha : PAD X (e :: es) t)
    (hbase : attributeBase o name X.env (eval o X.env) = eval o X.env := by rfl)
    (hfew : ((backTo cpos (starEach (e :: es) X.env)).all (fun x => !x.1) && (backToKw cpos (keywordEach [] X.env)).all (fun x => x.1.isSome)
      && decide ((e :: es).length + ([] : List Keyword).length + (if ([] : List Keyword).isEmpty then 0 else 1) < 30)) = true := by rfl)
    (hline : (apos.endLine == cpos.line) = true := by rfl) (hs : starEach (e :: es) X.env = (false, eval e X.env) :: starEach es X.env := by rfl) (hplain : (backTo cpos (starEach es X.env)).any (·.1) = false := by rfl) :
    PD X (.Call (.Attribute o name apos) (e :: es) [] cpos) (dM r' to t) := by
  obtain ⟨r, hr, od⟩ := hm
  exact pd_of (pe_bm PySem.F.plainAttrs_list slot hty hr ho ha hbase hfew hline hs hplain) fun σ H Q ⟨ad, ρ, S, Q0, st, rh, q, k⟩ =>
    ⟨ad, ρ, S, _, st, rh, q, fun x S1 v H1 ad1 ⟨hl, q1⟩ w1 st1 r1 => ⟨isl_ty st1 hl r1, ad1, ρ, S1, _, st1, rh.wd w1, q1, fun ds S2 vs H2 ad2 q2 w2 st2 r2 =>
      od ad2 H2 S2 x ds v vs Q0 Q st2 (r1.wd w2) r2 q2 (k.wd (w1.trans w2))⟩⟩
theorem md_append : MD X "list.append" mAppend := ⟨_, mt_append, fun ad H S x ds v vs Q0 Q st rx r ⟨n, xs, y, ex, ey, hn, hl, q⟩ k => by
  subst ex ey
  obtain ⟨u, rfl, ru⟩ := rel1 r
  cases rx with
  | ref e =>
    obtain ⟨ws, hw, rw⟩ := st.cell n _ _ e hn
    exact ⟨_, ws, u, rfl, rfl, hw, by rw [← rw.length]; exact big_lt hl, k _ _ _ _ ad q (Wd.put e hw) (st.put e hw (rw.append (.cons ru .nil))) .non⟩⟩
end
end Dp
namespace Dp
open PySem PySem.Spec PyProof.Rows L2 My
def GRel (K : PySem.W.Frag) (b : Nat) (g' : DG) (g : TG) : Prop := ∀ ad H S ρ σ d v Q0 Q, StOk K ad H S → RhoOk K ad H ρ σ → Rel K ad H d v → g' d ρ S Q0 →
  (∀ ρ' S' σ' H' ad', Q0 ρ' S' → Wd ad H ad' H' → StOk K ad' H' S' → RhoOk K ad' H' ρ' σ' → σ'.length = σ.length → (∀ j, b ≤ j → σ'[j]? = σ[j]?) → Q σ' H') → g v σ H Q
def GsRel (K : PySem.W.Frag) (b : Nat) (g' : DGs) (g : TGs) : Prop := ∀ ad H S ρ σ ds vs Q0 Q, StOk K ad H S → RhoOk K ad H ρ σ → RelAll K ad H ds vs → g' ds ρ S Q0 →
  (∀ ρ' S' σ' H' ad', Q0 ρ' S' → Wd ad H ad' H' → StOk K ad' H' S' → RhoOk K ad' H' ρ' σ' → σ'.length = σ.length → (∀ j, b ≤ j → σ'[j]? = σ[j]?) → Q σ' H') → g vs σ H Q
def PGD (X : Cx) (b : Nat) (tg : Expr) (g' : DG) : Prop := ∃ g, PG X tg g ∧ GRel X.K b g' g
def PGsD (X : Cx) (b : Nat) (tgs : List Expr) (g' : DGs) : Prop := ∃ g, PGs X tgs g ∧ GsRel X.K b g' g
theorem RhoOk.set {K : PySem.W.Frag} {ad : List Addr} {H : Hp} {ρ : Rho} {σ : L2.St} {d : D} {v : V} (h : RhoOk K ad H ρ σ) (r : Rel K ad H d v) (i : Nat) : RhoOk K ad H (ρ.set i (some d)) (σ.set i (some v)) where
  len := by rw [List.length_set, List.length_set]; exact h.len
  val := fun j e q => by
    by_cases hj : j = i
    · subst hj
      have hl : j < ρ.length := by have := My.lt_of_get q; rw [List.length_set] at this; exact this
      rw [List.getElem?_set_self hl] at q
      cases q
      exact ⟨v, List.getElem?_set_self (by rw [← h.len]; exact hl), r⟩
    · rw [List.getElem?_set_ne (Ne.symm hj)] at q
      obtain ⟨u, e1, r1⟩ := h.val j e q
      exact ⟨u, by rw [List.getElem?_set_ne (Ne.symm hj)]; exact e1, r1⟩
section
variable {X : Cx} {pos : Pos} {b : Nat}
theorem grel_name {K : PySem.W.Frag} (i : Nat) (hb : i < b) : GRel K b (gName i) (L2.gName i) := fun ad H S ρ σ d v Q0 Q st rh r q k =>
  k _ S _ H ad q Wd.refl st (rh.set r i) (List.length_set ..) fun j hj => List.getElem?_set_ne (by omega)
theorem pgd_name {i : Nat} {x : Str} (hN : X.N.Nodup) (hi : X.N[i]? = some x) (hx : Loc X.env.scope x) (hf : X.fn x = true ∨ X.env.scope.names.lookup x = some .local := by first | exact .inl rfl | exact .inr rfl | assumption) (hb : i < b := by decide) : PGD X b (.Name x pos) (gName i) :=
  ⟨_, pg_name hN hi hx hf, grel_name i hb⟩
theorem pgd_nil : PGsD X b [] gNil := ⟨_, pgs_nil, fun ad H S ρ σ ds vs Q0 Q st rh r ⟨e, q⟩ k => by
  subst e
  cases r
  exact ⟨rfl, k ρ S σ H ad q Wd.refl st rh rfl fun _ _ => rfl⟩⟩
theorem pgd_cons {e : Expr} {es : List Expr} {t : DG} {u : DGs} (h1 : PGD X b e t) (h2 : PGsD X b es u) (hs : (assignEach (e :: es) X.env).map (·.2) = assign e X.env :: (assignEach es X.env).map (·.2) := by rfl) : PGsD X b (e :: es) (gCons t u) := by
  obtain ⟨g1, p1, r1⟩ := h1
  obtain ⟨g2, p2, r2⟩ := h2
  refine ⟨_, pgs_cons p1 p2 hs, fun ad H S ρ σ ds vs Q0 Q st rh r ⟨d, rs, ed, q⟩ k => ?_⟩
  subst ed
  cases r with
  | cons r t =>
    refine ⟨_, _, rfl, r1 ad H S ρ σ d _ _ _ st rh r q fun ρ1 S1 σ1 H1 ad1 q1 w1 st1 rh1 l1 a1 => ?_⟩
    exact r2 ad1 H1 S1 ρ1 σ1 _ _ _ _ st1 rh1 (t.wd w1) q1 fun ρ2 S2 σ2 H2 ad2 q2 w2 st2 rh2 l2 a2 => k ρ2 S2 σ2 H2 ad2 q2 (w1.trans w2) st2 rh2 (l2.trans l1) fun j hj => (a2 j hj).trans (a1 j hj)
theorem pgd_tup {es : List Expr} {k n : Nat} {t : DGs} (hc : X.calm = true) (h : PGsD X b es t) (hn : (assignEach es X.env).length = n := by rfl) (hst : (assignEach es X.env).findIdx? (·.1) = none := by rfl) : PGD X b (.Tuple es k pos) (gTup n t) := by
  obtain ⟨g, p, r⟩ := h
  refine ⟨_, pg_tup hc p hn hst, fun ad H S ρ σ d v Q0 Q st rh rv ⟨xs, ed, hl, q⟩ k => ?_⟩
  subst ed
  cases rv with
  | tup h1 rs => exact ⟨_, _, rfl, SqT.of h1, by rw [← rs.length]; exact hl, r ad H S ρ σ xs _ _ _ st rh rs q k⟩
theorem pgd_sub {o i : Expr} {to ti : DE} (ho : PD X o to) (hi : PD X i ti)
    (ha : ∀ v, assign (.Subscript o i pos) X.env v = (do
      let ov ← holding [v] (eval o X.env)
      let iv ← holding [v, ov] (eval i X.env)
      standAt pos
      holding [v, ov, iv] (setItem ov iv v)
      release [v, ov, iv] []) := by intro _; rfl) : PGD X b (.Subscript o i pos) (gSub to ti) :=
  ⟨_, pg_sub ho hi set_list ha, fun ad H S ρ σ d v Q0 Q st rh r q k => ⟨ad, ρ, S, _, st, rh, q, fun x S1 u H1 ad1 q1 w1 st1 r1 => ⟨ad1, ρ, S1, _, st1, rh.wd w1, q1, fun y S2 z H2 ad2 q2 w2 st2 r2 => by
    obtain ⟨n, xs, kk, j, ex, ey, hn, hj, q3⟩ := q2
    subst ex ey
    cases r2
    cases r1 with
    | ref e =>
      have e2 := pre_get w2.pre e
      obtain ⟨ws, hw, rw⟩ := st2.cell n _ _ e2 hn
      have rd := r.wd (w1.trans w2)
      exact ⟨_, ws, kk, j, rfl, rfl, hw, by rw [← rw.length]; exact hj, k ρ _ σ _ ad2 q3 ((w1.trans w2).trans (Wd.put e2 hw)) (st2.put e2 hw (rw.set rd j)) (rh.wd ((w1.trans w2).trans (Wd.put e2 hw))) rfl fun _ _ => rfl⟩⟩⟩⟩
variable {st : Stmt} {sts : List Stmt} {t u : DS} {e : Expr} {te : DE}
theorem psds_nil : PSsD X [] sNext := pss_mono pss_nil fun E σ H ⟨ad, ρ, S, E0, so, rh, q, k⟩ => k.nx ρ S σ H ad q Wd.refl so rh
theorem psds_one (h : PSD X st t) : PSsD X [st] t := pss_one h
theorem psds_cons (h1 : PSD X st t) (h2 : PSsD X sts u) : PSsD X (st :: sts) (sSeq t u) := pss_mono (pss_cons h1 h2) fun E σ H ⟨ad, ρ, S, E0, so, rh, q, k⟩ =>
  ⟨ad, ρ, S, { E0 with nx := u E0 }, so, rh, q, ⟨fun ρ' S' σ' H' ad' q' w st' rh' => ⟨ad', ρ', S', E0, st', rh', q', k.wd w⟩, k.rt, k.bk, k.ct⟩⟩
theorem psd_expr (he : PD X e te) (hs : swapsWith e none pos.line X.env = pure false := by rfl) : PSD X (.Expr e pos) (sDrop te) := ps_mono (ps_expr he hs) fun E σ H ⟨ad, ρ, S, E0, so, rh, q, k⟩ =>
  ⟨ad, ρ, S, _, so, rh, q, fun d S' v H' ad' q' w st' r => k.nx ρ S' σ H' ad' q' w st' (rh.wd w)⟩
theorem psd_ret (he : PD X e te) : PSD X (.Return (some e) pos) (sRet te) := ps_mono (ps_ret he) fun E σ H ⟨ad, ρ, S, E0, so, rh, q, k⟩ => ⟨ad, ρ, S, _, so, rh, q, k.rt⟩
theorem psd_if {c : Expr} {a b : List Stmt} {tc : DT} (hc : PTD X c tc) (ha : PSsD X a t) (hb : PSsD X b u) : PSD X (.If c a b pos) (sIf tc t u) := ps_mono (ps_if hc ha hb) fun E σ H ⟨ad, ρ, S, E0, so, rh, q, k⟩ =>
  ⟨ad, ρ, S, _, so, rh, q, fun b S' H' ad' q' w st' => by
    cases b with
    | true => rw [if_pos rfl] at q' ⊢; exact ⟨ad', ρ, S', E0, st', rh.wd w, q', k.wd w⟩
    | false => rw [if_neg Bool.false_ne_true] at q' ⊢; exact ⟨ad', ρ, S', E0, st', rh.wd w, q', k.wd w⟩⟩
theorem psd_set {i : Nat} {x : Str} {pos' : Pos} (hN : X.N.Nodup) (hi : X.N[i]? = some x) (hx : Loc X.env.scope x) (he : PD X e te) (hs : swapsWith e (some (.Name x pos')) pos.line X.env = pure false := by rfl) (hf : X.fn x = true ∨ X.env.scope.names.lookup x = some .local := by first | exact .inl rfl | exact .inr rfl | assumption) :
    PSD X (.Assign [.Name x pos'] e pos) (sAsg te (gName i)) := ps_mono (ps_set hN hi hx he hs hf) fun E σ H ⟨ad, ρ, S, E0, so, rh, q, k⟩ =>
  ⟨ad, ρ, S, _, so, rh, q, fun d S' v H' ad' q' w st' r => k.nx _ S' _ H' ad' q' w st' ((rh.wd w).set r i)⟩
theorem psd_asg {tg : Expr} {g : DG} (he : PD X e te) (hg : PGD X 1000 tg g) (hs : swapsWithSole [tg] e pos.line X.env = pure false := by rfl) (hw : swappedStores [tg] e X.env = pure none := by rfl)
    (h1 : (assignEach [tg] X.env).map (·.2) = [assign tg X.env] := by rfl) : PSD X (.Assign [tg] e pos) (sAsg te g) := by
  obtain ⟨g', p, r⟩ := hg
  exact ps_mono (ps_asg he p hs hw h1) fun E σ H ⟨ad, ρ, S, E0, so, rh, q, k⟩ =>
    ⟨ad, ρ, S, _, so, rh, q, fun d S' v H' ad' q' w st' rv => r ad' H' S' ρ σ d v _ _ st' (rh.wd w) rv q' fun ρ2 S2 σ2 H2 ad2 q2 w2 st2 rh2 _ _ => k.nx ρ2 S2 σ2 H2 ad2 q2 (w.trans w2) st2 rh2⟩
end
structure ItOk (K : PySem.W.Frag) (ad0 : List Addr) (H0 : Hp) (J0 : DIt) (J : It) : Prop where
  go : ∀ ad H S i, Wd ad0 H0 ad H → StOk K ad H S → J0.ok S → i < J0.items.length → J.go i H
  yld : ∀ ad H S i d x H', Wd ad0 H0 ad H → StOk K ad H S → J0.ok S → J0.items[i]? = some d → J.yld i H x H' → Wd ad H ad H' ∧ StOk K ad H' S ∧ Rel K ad H' d x
  stop : ∀ ad H S, Wd ad0 H0 ad H → StOk K ad H S → J0.ok S → J.stop J0.items.length H
def upI (K : PySem.W.Frag) (wi : DI) : TI := fun σ H R => ∃ ad ρ S R0, StOk K ad H S ∧ RhoOk K ad H ρ σ ∧ wi ρ S R0 ∧ ∀ J0 S' J H' ad', R0 J0 S' → Wd ad H ad' H' → StOk K ad' H' S' → ItOk K ad' H' J0 J → R J H'
def PID (X : Cx) (tg iter : Expr) (wi : DI) : Prop := PI X tg iter (upI X.K wi)
theorem pi_mono {X : Cx} {tg iter : Expr} {w w' : TI} (h : PI X tg iter w) (m : ∀ σ H R, w' σ H R → w σ H R) : PI X tg iter w' := fun pins s σ H R I q => h pins s σ H R I (m σ H R q)
section
variable {X : Cx} {tg e : Expr}
def iEither (K : PySem.W.Frag) (tl : TE) : TI := fun σ H R => tl σ H fun x H1 => ∃ a, x = .ref a ∧ (((∃ xs, SqL K H1 a xs) ∧ R (Itl K a) H1) ∨ ((∃ xs, SqT K H1 a xs) ∧ R (Itt K a) H1))
theorem pi_either {l : Expr} {tl : TE} (hl : PE X l tl) : PI X tg l (iEither X.K tl) := by
  intro pins s σ H R I h
  refine thn (hl pins s σ H _ I h) fun v s1 ⟨x, H1, I1, r1, q1⟩ => ?_
  obtain ⟨a, e, q1⟩ := q1
  subst e
  cases r1
  rcases q1 with ⟨⟨xs, hq⟩, q⟩ | ⟨⟨xs, hq⟩, q⟩
  · obtain ⟨its, rv, p, hz⟩ := I1.list hq
    refine wpAny_pyIter_list p.isList ?_
    refine ⟨s1.heap.objs.size, [s1.heap.objs.size], _, _, H1, rfl, I1.kept (t' := s1.toks) fun b o e => Heap.get?_push_of_some _ e, turn_list a _, ⟨_, Heap.get?_push_size _ rfl, rfl, rfl⟩, fun b hb => ?_, q⟩
    have e : b = s1.heap.objs.size := by simpa using hb
    subst e
    exact I1.fpOk (Nat.le_refl _) (I1.hok.fresh (Nat.le_refl _))
  · obtain ⟨its, rv, p, hz⟩ := I1.tuple hq
    refine wpAny_pyIter_tuple (show s1.heap.IsTuple a its.toArray from p) ?_
    refine ⟨s1.heap.objs.size, [s1.heap.objs.size], _, _, H1, rfl, I1.kept (t' := s1.toks) fun b o e => Heap.get?_push_of_some _ e, turn_tuple a _, ⟨_, Heap.get?_push_size _ rfl, rfl, rfl⟩, fun b hb => ?_, q⟩
    have e : b = s1.heap.objs.size := by simpa using hb
    subst e
    exact I1.fpOk (Nat.le_refl _) (I1.hok.fresh (Nat.le_refl _))
theorem it_tup {K : PySem.W.Frag} {ad : List Addr} {H : Hp} {a : Addr} {vs : List V} {ds : List D} (h : H a = some (.tup vs)) (r : RelAll K ad H ds vs) : ItOk K ad H ⟨ds, fun _ => True⟩ (Itt K a) where
  go := fun ad1 H1 S i w st _ hi => ⟨vs, vs[i]'(by rw [← r.length]; exact hi), SqT.of (w.tup _ _ h), List.getElem?_eq_getElem _⟩
  yld := fun ad1 H1 S i d x H' w st _ hd ⟨e, hx⟩ => by
    subst e
    obtain ⟨v, ev, rv⟩ := r.get hd
    rw [hx vs (SqT.of (w.tup _ _ h))] at ev
    cases ev
    exact ⟨Wd.refl, st, rv.wd w⟩
  stop := fun ad1 H1 S w st _ => ⟨vs, SqT.of (w.tup _ _ h), by rw [← r.length]; exact Nat.le_refl _⟩
theorem it_lst {K : PySem.W.Frag} {ad : List Addr} {H : Hp} {a : Addr} {x : D} {ds : List D} (r : Rel K ad H x (.ref a)) : ItOk K ad H ⟨ds, fun S => Lst S x ds⟩ (Itl K a) where
  go := fun ad1 H1 S i w st ok hi => by
    obtain ⟨a', vs, e, s, rs⟩ := Lst.sq st ok (r.wd w)
    cases e
    exact ⟨vs, vs[i]'(by rw [← rs.length]; exact hi), s, List.getElem?_eq_getElem _⟩
  yld := fun ad1 H1 S i d y H' w st ok hd ⟨e, hx⟩ => by
    subst e
    obtain ⟨a', vs, e, s, rs⟩ := Lst.sq st ok (r.wd w)
    cases e
    obtain ⟨v, ev, rv⟩ := rs.get hd
    rw [hx vs s] at ev
    cases ev
    exact ⟨Wd.refl, st, rv⟩
  stop := fun ad1 H1 S w st ok => by
    obtain ⟨a', vs, e, s, rs⟩ := Lst.sq st ok (r.wd w)
    cases e
    exact ⟨vs, s, by rw [← rs.length]; exact Nat.le_refl _⟩
theorem id_seq {t : DE} (h : PD X e t) : PID X tg e (iSeq t) := pi_mono (pi_either h) fun σ H R ⟨ad, ρ, S, R0, st, rh, q, k⟩ =>
  ⟨ad, ρ, S, _, st, rh, q, fun x S1 v H1 ad1 q1 w1 st1 r1 => by
    rcases q1 with ⟨xs, rfl, q1⟩ | ⟨xs, hx, q1⟩
    · cases r1 with
      | tup h1 rs => exact ⟨_, rfl, .inr ⟨⟨_, SqT.of h1⟩, k _ S1 _ H1 ad1 q1 w1 st1 (it_tup h1 rs)⟩⟩
    · obtain ⟨a, vs, rfl, s, rs⟩ := hx.sq st1 r1
      exact ⟨a, rfl, .inl ⟨⟨vs, s⟩, k _ S1 _ H1 ad1 q1 w1 st1 (it_lst r1)⟩⟩⟩
theorem upto_get {lo : Int} {n i : Nat} {d : D} (h : (upto lo n)[i]? = some d) : i < n ∧ d = .int (lo + i) := by
  unfold upto at h
  rw [List.getElem?_map] at h
  have hi := My.lt_of_get (xs := List.range n) (i := i) (x := i)
  cases hr : (List.range n)[i]? with
  | none => rw [hr] at h; cases h
  | some k =>
    rw [hr] at h
    have h1 := My.lt_of_get hr
    rw [List.length_range] at h1
    have h2 : (List.range n)[i]? = some i := List.getElem?_range h1
    rw [hr] at h2
    cases h2
    cases h
    exact ⟨h1, rfl⟩
theorem upto_len (lo : Int) (n : Nat) : (upto lo n).length = n := by unfold upto; rw [List.length_map, List.length_range]
theorem it_rng {K : PySem.W.Frag} {ad : List Addr} {H : Hp} (lo : Int) (n : Nat) : ItOk K ad H ⟨upto lo n, fun _ => True⟩ (Itr lo n) where
  go := fun ad1 H1 S i w st _ hi => by rw [upto_len] at hi; exact hi
  yld := fun ad1 H1 S i d x H' w st _ hd ⟨e, hx⟩ => by
    subst e
    obtain ⟨_, rfl⟩ := upto_get hd
    rw [hx]
    exact ⟨Wd.refl, st, .int _⟩
  stop := fun ad1 H1 S w st _ => by rw [upto_len]; exact Nat.le_refl _
theorem turn_long {P : Program} {w : World} {K : PySem.W.Frag} {tg : Expr} (it : Addr) (lo : Int) (n : Nat) : Turn P w K tg (Itr lo n) [it] it (fun i h => IsLongIter h it (lo + (i : Nat) * 1) ((n : Int) - (i : Nat)) 1) where
  mem := by simp
  obj := fun i h st b hb => by
    have e : b = it := by simpa using hb
    subst e
    exact ⟨_, st, fun v z => by
      have z' : Data.fields _ = Data.cell v := z
      cases z'⟩
  keep := fun i h h' st k => k it (by simp) _ st
  item := by
    intro X hP hw hK hc i pins s σ H E I hf st' hg
    subst hP hw hK
    obtain ⟨f0, f1, f2, f3, f4, f5⟩ := hf it (by simp)
    have W := Walks.longrange (prog := X.prog) (w := X.w) (I.ok.hd hc) it lo 1 n
    refine W.item i s _ _ hg st' fun v h' tk hv st'' kk => ?_
    obtain ⟨t, rfl⟩ := hv
    have I1 : Inv X pins σ H { s with heap := h', toks := tk } := I.turned (fun b o hb e => kk b o (by simpa using hb) e) f0 f1 f3 f4 f5
    rw [Int.mul_one]
    exact ⟨_, rfl, go_of (s := { s with heap := h', toks := tk }) (n := "longrange_iterator") st'' rfl rfl (by decide) ⟨.int (lo + i), H, I1, ⟨t, rfl⟩, ⟨rfl, rfl⟩, st'', fun b hb => (hf b hb).1⟩⟩
  done := by
    intro X hP hw hK hc i pins s σ H E I hf st' hg
    subst hP hw hK
    obtain ⟨f0, f1, f2, f3, f4, f5⟩ := hf it (by simp)
    exact wpAny_pyNext_long_end (I.ok.hd hc) st' (by have : n ≤ i := hg; omega) fun h' eb => ⟨rfl, I.turned (t' := s.toks) (fun b o hb e => eb b o hb e) f0 f1 f3 f4 f5⟩
  self := fun _ _ _ _ _ st h => wpAny_pyIter_longiter st h
theorem range_any {pins : List (Addr × Obj)} {σ : L2.St} {H : Hp} {s : Shared} {R : It → Hp → Prop} {E : Value → Shared → Prop} {lo hi : Int} {t u v : Tok} {tk : Nat} (I : Inv X pins σ H s)
    (q : R (Itr lo (hi - lo).toNat) H) : wpAny (model X.prog X.w) X.A (pyIter (.ref s.heap.objs.size)) (PIE X pins σ tg R) E { s with heap := s.heap.push { cls := .type "range", data := .fields #[.int lo t, .int hi u, .int 1 v] }, toks := tk } := by
  have I1 : Inv X pins σ H { s with heap := s.heap.push { cls := .type "range", data := .fields #[.int lo t, .int hi u, .int 1 v] }, toks := tk } := I.kept fun b o e => Heap.get?_push_of_some _ e
  have e1 : lo + ((0 : Nat) : Int) * 1 = lo := by simp
  have e2 : (((hi - lo).toNat : Nat) : Int) - ((0 : Nat) : Int) = Builtin.Range.rangeSize lo hi 1 := by rw [rangeSize_one]; split <;> omega
  cases hsm : Builtin.Range.small lo hi 1 with
  | true =>
    refine wpAny_pyIter_range (IsRange.new ..) hsm ?_
    refine ⟨(s.heap.push { cls := .type "range", data := .fields #[.int lo t, .int hi u, .int 1 v] }).objs.size, [(s.heap.push { cls := .type "range", data := .fields #[.int lo t, .int hi u, .int 1 v] }).objs.size], _, _, H, rfl,
      I1.kept (t' := tk) fun b o e => Heap.get?_push_of_some _ e, turn_range _ lo (hi - lo).toNat, ?_, fun b hb => ?_, q⟩
    · show IsRangeIter _ _ (lo + ((0 : Nat) : Int) * 1) ((((hi - lo).toNat : Nat) : Int) - ((0 : Nat) : Int)) 1
      rw [e1, e2]
      exact Heap.get?_push_size _ rfl
    · have e : b = (s.heap.push { cls := .type "range", data := .fields #[.int lo t, .int hi u, .int 1 v] }).objs.size := by simpa using hb
      subst e
      exact I1.fpOk (Nat.le_refl _) (I1.hok.fresh (Nat.le_refl _))
  | false =>
    refine wpAny_pyIter_longrange (IsRange.new ..) hsm ?_
    refine ⟨(s.heap.push { cls := .type "range", data := .fields #[.int lo t, .int hi u, .int 1 v] }).objs.size, [(s.heap.push { cls := .type "range", data := .fields #[.int lo t, .int hi u, .int 1 v] }).objs.size], _, _, H, rfl,
      I1.kept (t' := tk) fun b o e => Heap.get?_push_of_some _ e, turn_long _ lo (hi - lo).toNat, ?_, fun b hb => ?_, q⟩
    · show IsLongIter _ _ (lo + ((0 : Nat) : Int) * 1) ((((hi - lo).toNat : Nat) : Int) - ((0 : Nat) : Int)) 1
      rw [e1, e2]
      exact Heap.get?_push_size _ rfl
    · have e : b = (s.heap.push { cls := .type "range", data := .fields #[.int lo t, .int hi u, .int 1 v] }).objs.size := by simpa using hb
      subst e
      exact I1.fpOk (Nat.le_refl _) (I1.hok.fresh (Nat.le_refl _))
theorem id_rng1 {a : Expr} {t : DA} {p pos : Pos} (hg : Gl X "range") (hm : X.mg "range" = none) (ha : PAD X [a] t) (hs : starEach [a] X.env = [(false, eval a X.env)] := by rfl) : PID X tg (.Call (.Name "range" p) [a] [] pos) (iRng1 t) := pi_mono (pi_range1 hg hm ha hs) fun σ H R ⟨ad, ρ, S, R0, st, rh, q, k⟩ =>
  ⟨ad, ρ, S, _, st, rh, q, fun ds S1 vs H1 ad1 ⟨j, ed, b1, b2, q1⟩ w1 st1 r1 => by
    subst ed
    obtain ⟨v, rfl, rv⟩ := rel1 r1
    cases rv
    exact ⟨j, rfl, b1, b2, k _ S1 _ H1 ad1 q1 w1 st1 (it_rng 0 j.toNat)⟩⟩
theorem id_rng2 {a b : Expr} {t : DA} {p pos : Pos} (hg : Gl X "range") (hm : X.mg "range" = none) (ha : PAD X [a, b] t) (hs : starEach [a, b] X.env = [(false, eval a X.env), (false, eval b X.env)] := by rfl) (hs2 : starEach [b] X.env = [(false, eval b X.env)] := by rfl) :
    PID X tg (.Call (.Name "range" p) [a, b] [] pos) (iRng2 t) := by
  rintro pins s σ H R I ⟨ad, ρ, S, R0, st, rh, q, k⟩
  refine Call_ (ld_blt I hg hm boot_range (PyProof.Rows.callWith_type1 (thn (ha pos pins s σ H (fun vs H1 => ∃ i j : Int, vs = [.int i, .int j] ∧ R (Itr i (j - i).toNat) H1) I ⟨ad, ρ, S, _, st, rh, q, fun ds S1 vs H1 ad1 ⟨i, j, ed, q1⟩ w1 st1 r1 => by
    subst ed
    obtain ⟨v, u, rfl, rv, ru⟩ := rel2 r1
    cases rv
    cases ru
    exact ⟨i, j, rfl, k _ S1 _ H1 ad1 q1 w1 st1 (it_rng i _)⟩⟩) fun us s1 ⟨vs, H1, I1, r1, q1⟩ => ?_) (by rw [hs, hs2]) (by rw [hs2]; rfl)))
  obtain ⟨i, j, e, q⟩ := q1
  subst e
  cases r1 with
  | cons r rr =>
    cases rr with
    | cons r' rr =>
      cases rr
      obtain ⟨t, rfl⟩ := r
      obtain ⟨t', rfl⟩ := r'
      exact call_range_2 (range_any I1 q)
theorem psd_for {iter : Expr} {body : List Stmt} {wi : DI} {g : DG} {t : DS} {pos : Pos} (hp : PassesOwn (model X.prog X.w) X.A X.env X.xe) (hc : X.calm = true) (hi : PID X tg iter wi) (hg : PGD X 1000 tg g) (hb : PSsD X body t) (hs : ∀ x, foldedSetIterable iter X.env x = pure x := by intro _; rfl) : PSD X (.For tg iter body [] pos) (sFor wi g t) := by
  obtain ⟨g', pg, rg⟩ := hg
  refine ps_mono (ps_for hp hc hi pg hb hs) fun E σ H ⟨ad, ρ, S, E0, so, rh, q, k⟩ => ?_
  refine ⟨ad, ρ, S, _, so, rh, q, fun J0 S1 J H1 ad1 ⟨W, w0, hok, step, fin⟩ d1 st1 it => ?_⟩
  refine ⟨fun i m σ' H' => m = J0.items.length - i ∧ i ≤ J0.items.length ∧ ∃ ad' ρ' S', W i ρ' S' ∧ Wd ad1 H1 ad' H' ∧ StOk X.K ad' H' S' ∧ RhoOk X.K ad' H' ρ' σ', ⟨J0.items.length, rfl, Nat.zero_le _, ad1, ρ, S1, w0, Wd.refl, st1, rh.wd d1⟩, ?_⟩
  rintro i m σ2 H2 ⟨rfl, hi2, ad2, ρ2, S2, w2, d2, st2, rh2⟩
  by_cases hlt : i < J0.items.length
  · have ed : J0.items[i]? = some J0.items[i] := List.getElem?_eq_getElem hlt
    refine .inr ⟨it.go ad2 H2 S2 i d2 st2 (hok _ _ _ w2) hlt, fun σ' H' => ∃ ad' ρ' S', W (i + 1) ρ' S' ∧ Wd ad1 H1 ad' H' ∧ StOk X.K ad' H' S' ∧ RhoOk X.K ad' H' ρ' σ', ?_, fun x H' hy => ?_⟩
    · rintro σ' H' ⟨ad', ρ', S', w', d', st', rh'⟩
      exact ⟨J0.items.length - (i + 1), by omega, rfl, hlt, ad', ρ', S', w', d', st', rh'⟩
    · obtain ⟨d3, st3, r3⟩ := it.yld ad2 H2 S2 i _ x H' d2 st2 (hok _ _ _ w2) ed hy
      refine rg ad2 H' S2 ρ2 σ2 _ x _ _ st3 (rh2.wd d3) r3 (step i _ ρ2 S2 ed w2) fun ρ4 S4 σ4 H4 ad4 q4 d4 st4 rh4 _ _ => ?_
      have d14 := (d2.trans d3).trans d4
      have d04 := d1.trans d14
      exact ⟨ad4, ρ4, S4, { E0 with nx := W (i + 1), ct := W (i + 1), bk := E0.nx }, st4, rh4, q4, ⟨fun ρ' S' σ' H' ad' q' w' st' rh' => ⟨ad', ρ', S', q', d14.trans w', st', rh'⟩, k.rt.wd d04, fun ρ' S' σ' H' ad' q' w' st' rh' => k.nx ρ' S' σ' H' ad' q' (d04.trans w') st' rh', fun ρ' S' σ' H' ad' q' w' st' rh' => ⟨ad', ρ', S', q', d14.trans w', st', rh'⟩⟩⟩
  · have e : i = J0.items.length := by omega
    subst e
    exact .inl ⟨it.stop ad2 H2 S2 d2 st2 (hok _ _ _ w2), k.nx ρ2 S2 σ2 H2 ad2 (fin ρ2 S2 w2) (d1.trans d2) st2 rh2⟩
end
theorem agr_of : ∀ {a b : L2.St} (n : Nat), (∀ j, j < n → a[j]? = some none ∨ a.length ≤ j) → b.length = a.length → (∀ j, n ≤ j → b[j]? = a[j]?) → Agr a b
  | [], [], _, _, _, _ => True.intro
  | [], _ :: _, _, _, h, _ => by simp at h
  | _ :: _, [], _, _, h, _ => by simp at h
  | x :: a, y :: b, n, h0, hl, h => by
    have hl' : b.length = a.length := by simpa using hl
    cases n with
    | zero =>
      have e := h 0 (Nat.le_refl _)
      have e' : y = x := by simpa using e
      subst e'
      have rest : Agr a b := agr_of 0 (fun j hj => absurd hj (Nat.not_lt_zero _)) hl' fun j _ => by simpa using h (j + 1) (Nat.zero_le _)
      cases y with
      | none => exact rest
      | some v => exact ⟨rfl, rest⟩
    | succ n =>
      have rest : Agr a b := agr_of n (fun j hj => by
        rcases h0 (j + 1) (by omega) with e | e
        · exact .inl (by simpa using e)
        · exact .inr (by simpa using e)) hl' fun j hj => by simpa using h (j + 1) (by omega)
      rcases h0 0 (Nat.succ_pos _) with e | e
      · have e' : x = none := by simpa using e
        subst e'
        exact rest
      · simp at e
theorem rho_cst {K : PySem.W.Frag} {ad : List Addr} {H : Hp} {ρ : Rho} {σ : L2.St} (h : RhoOk K ad H ρ σ) (own : List Str) (fv : List Nat) : RhoOk K ad H (cstD own.length fv ρ) (cst own fv σ) where
  len := by unfold cstD cst; rw [List.length_append, List.length_append, List.length_replicate, List.length_replicate, List.length_map, List.length_map]
  val := fun i d e => by
    unfold cstD at e
    unfold cst
    by_cases hi : i < own.length
    · rw [List.getElem?_append_left (by rw [List.length_replicate]; exact hi), List.getElem?_replicate] at e
      split at e <;> cases e
    · have hi' : own.length ≤ i := Nat.le_of_not_lt hi
      rw [List.getElem?_append_right (by rw [List.length_replicate]; exact hi'), List.length_replicate, List.getElem?_map] at e
      rw [List.getElem?_append_right (by rw [List.length_replicate]; exact hi'), List.length_replicate, List.getElem?_map]
      cases hf : fv[i - own.length]? with
      | none => rw [hf] at e; cases e
      | some j =>
        rw [hf] at e
        simp only [Option.map_some, Option.some.injEq] at e ⊢
        cases hr : ρ[j]? with
        | none => rw [hr] at e; cases e
        | some o =>
          rw [hr] at e
          have e' : o = some d := e
          subst e'
          obtain ⟨v, ev, rv⟩ := h.val j d hr
          exact ⟨v, by rw [ev]; rfl, rv⟩
def PFsD (X : Cx) (ifs : List Expr) (t : DT) : Prop := PFs X ifs (upT X.K t)
theorem pfd_nil {X : Cx} : PFsD X [] dTrue := fun pins s σ H Q I ⟨ad, ρ, S, Q0, st, rh, q, k⟩ => pf_nil pins s σ H Q I (k true S H ad q Wd.refl st)
theorem pfd_one {X : Cx} {c : Expr} {t : DT} (h : PTD X c t) : PFsD X [c] t := pf_one h
theorem ofT {A B : Prop} (h : if true = true then A else B) : A := by rw [if_pos rfl] at h; exact h
theorem ofF {A B : Prop} (h : if false = true then A else B) : B := by rw [if_neg Bool.false_ne_true] at h; exact h
theorem up_lc {K : PySem.W.Frag} {own : List Str} {fv : List Nat} {wi : DI} {g : DG} {g' : TG} {tc : DT} {te : DE} (rg : GRel K own.length g g') {σ : L2.St} {H : Hp} {Q : VK} (h : up K (dLC own.length fv wi g tc te) σ H Q) : tLC own fv (upI K wi) g' (upT K tc) (up K te) σ H Q := by
  obtain ⟨ad, ρ, S, Q0, so, rh, q, k⟩ := h
  refine ⟨ad, ρ, S, _, so, rh, q, fun J0 S1 J H1 ad1 ⟨hbig, W, w0, hok, step, fin⟩ d1 st1 it => ?_⟩
  intro p hp
  refine ⟨fun i m H' => m = J0.items.length - i ∧ i ≤ J0.items.length ∧ ∃ ad' S' ys vs, W i ys S' ∧ Wd ad1 H1 ad' H' ∧ StOk K ad' H' S' ∧ p ∉ ad' ∧ H' p = some (.lst vs) ∧ RelAll K ad' H' ys vs ∧ vs.length ≤ i,
    ⟨J0.items.length, rfl, Nat.zero_le _, ad1, S1, [], [], w0, Wd.laid hp, st1.laid hp, st1.fresh hp, upd_same, .nil, Nat.le_refl _⟩, ?_⟩
  rintro i m H2 ⟨rfl, hi2, ad2, S2, ys, vs, w2, d2, st2, hp2, hv2, r2, hl2⟩
  by_cases hlt : i < J0.items.length
  · have ed : J0.items[i]? = some J0.items[i] := List.getElem?_eq_getElem hlt
    refine .inr ⟨it.go ad2 H2 S2 i d2 st2 (hok _ _ _ w2) hlt, fun x H' hy => ?_⟩
    obtain ⟨d3, st3, r3⟩ := it.yld ad2 H2 S2 i _ x H' d2 st2 (hok _ _ _ w2) ed hy
    have rh3 := rho_cst (rh.wd ((d1.trans d2).trans d3)) own fv
    refine rg ad2 H' S2 _ _ _ x _ _ st3 rh3 r3 (step i _ ys S2 ed w2) fun ρ4 S4 σ4 H4 ad4 q4 d4 st4 rh4 l4 a4 => ?_
    refine ⟨agr_of own.length (fun j hj => .inl ?_) l4 a4, ad4, ρ4, S4, _, st4, rh4, q4, fun b S5 H5 ad5 q5 d5 st5 => ?_⟩
    · unfold cst
      rw [List.getElem?_append_left (by rw [List.length_replicate]; exact hj), List.getElem?_replicate, if_pos hj]
    have fwd : ∀ {ad9 : List Addr} {H9 : Hp}, Wd ad2 H2 ad9 H9 → p ∉ ad9 ∧ H9 p = some (.lst vs) := fun {ad9 H9} w => ⟨(fun m => by
      have z := w.new p m hp2
      rw [hv2] at z; cases z), w.keep p _ hp2 hv2⟩
    have d25 := (d3.trans d4).trans d5
    cases b with
    | true =>
      refine iteT ?_
      have q5 := Dp.ofT q5
      refine ⟨ad5, ρ4, S5, _, st5, rh4.wd d5, q5, fun y S6 v H6 ad6 q6 d6 st6 r6 => ?_⟩
      have d26 := d25.trans d6
      obtain ⟨n6, e6⟩ := fwd d26
      have hw : Wr ad6 H6 ad6 (upd H6 p (.lst (vs ++ [v]))) := Wr.hid e6
      have hvl : vs.length < sizeLine := big_lt (by omega)
      exact ⟨vs, e6, hvl, J0.items.length - (i + 1), by omega, rfl, hlt, ad6, S6, ys ++ [y], vs ++ [v], q6, (d2.trans d26).hid hp, st6.hid e6 n6, n6, upd_same, RelAll.wr hw ((r2.wd d26).append (.cons r6 .nil)), by rw [List.length_append]; exact Nat.succ_le_succ hl2⟩
    | false =>
      refine iteF ?_
      have q5 := Dp.ofF q5
      obtain ⟨n5, e5⟩ := fwd d25
      exact ⟨J0.items.length - (i + 1), by omega, rfl, hlt, ad5, S5, ys, vs, q5, d2.trans d25, st5, n5, e5, r2.wd d25, by omega⟩
  · have e : i = J0.items.length := by omega
    subst e
    refine .inl ⟨it.stop ad2 H2 S2 d2 st2 (hok _ _ _ w2), ?_⟩
    exact k _ _ _ _ (ad2 ++ [p]) (fin ys S2 w2) (d1.trans (d2.add hp)) (st2.add hv2 hp2 r2) (.ref (by rw [← st2.len, List.getElem?_append_right (Nat.le_refl _), Nat.sub_self]; rfl))
section
variable {X : Cx} {sc : Scope} {tg iter elt : Expr} {ifs : List Expr} {own free : List Str} {fv : List Nat} {wi : DI} {g : DG} {tc : DT} {te : DE} {pos : Pos}
theorem pd_lc {g' : TG} (hcalm : X.calm = true) (hxe : X.xe = fun _ _ => False) (hkind : sc.kind = .function) (hcell : ∀ y ∈ sc.names, y.2 ≠ .cell) (hnames : ∀ y ∈ sc.names, y.2 = .local → sc.names.lookup y.1 = some .local)
    (hfr : FrAll (fun x => X.env.kindOf x = some .cell) sc.names) (hfv : FvOk X sc free fv) (hi : PID X tg iter wi)
    (hg : GRel X.K own.length g g' ∧ ∀ cl C s₀ H₀ ex, PG (inner X sc (own ++ free) cl C s₀ H₀ ex) tg g') (ht : ∀ cl C s₀ H₀ ex, PFsD (inner X sc (own ++ free) cl C s₀ H₀ ex) ifs tc) (he : ∀ cl C s₀ H₀ ex, PD (inner X sc (own ++ free) cl C s₀ H₀ ex) elt te)
    (hs : ∀ x, foldedSetIterable iter X.env x = pure x := by intro _; rfl) : PD X (.ListComp elt [⟨tg, iter, ifs, 0⟩] sc pos) (dLC own.length fv wi g tc te) :=
  pd_of (pe_lc (tc := upT X.K tc) (te := up X.K te) hcalm hxe hkind hcell hnames hfr hfv hi hg.2 ht he hs) fun _ _ _ => up_lc hg.1
theorem psd_setC {g' : TG} {i : Nat} {y : Str} {py spos : Pos} (hN : X.N.Nodup) (hy : X.N[i]? = some y) (hyl : X.env.scope.names.lookup y = some .local) (hcalm : X.calm = true) (hxe : X.xe = fun _ _ => False) (hkind : sc.kind = .function) (hcell : ∀ y ∈ sc.names, y.2 ≠ .cell) (hnames : ∀ y ∈ sc.names, y.2 = .local → sc.names.lookup y.1 = some .local)
    (hfr : FrAll (fun x => X.env.kindOf x = some .cell) sc.names) (hfv : FvOk X sc free fv) (hi : PID X tg iter wi)
    (hg : GRel X.K own.length g g' ∧ ∀ cl C s₀ H₀ ex, PG (inner X sc (own ++ free) cl C s₀ H₀ ex) tg g') (ht : ∀ cl C s₀ H₀ ex, PFsD (inner X sc (own ++ free) cl C s₀ H₀ ex) ifs tc) (he : ∀ cl C s₀ H₀ ex, PD (inner X sc (own ++ free) cl C s₀ H₀ ex) elt te)
    (hsw : swapsWith (.ListComp elt [⟨tg, iter, ifs, 0⟩] sc pos) (some (.Name y py)) spos.line X.env = pure true := by rfl)
    (hs : ∀ x, foldedSetIterable iter X.env x = pure x := by intro _; rfl) : PSD X (.Assign [.Name y py] (.ListComp elt [⟨tg, iter, ifs, 0⟩] sc pos) spos) (sAsg (dLC own.length fv wi g tc te) (gName i)) :=
  ps_mono (ps_setC (tc := upT X.K tc) (te := up X.K te) hN hy hyl hcalm hxe hkind hcell hnames hfr hfv hi hg.2 ht he hsw hs) fun E σ H ⟨ad, ρ, S, E0, so, rh, q, k⟩ =>
    up_lc (Q := fun x H1 => L2.gName i x σ H1 E.nx) hg.1 ⟨ad, ρ, S, _, so, rh, q, fun d S' v H' ad' q' w st' r => k.nx _ S' _ H' ad' q' w st' ((rh.wd w).set r i)⟩
theorem gsrel_nil {K : PySem.W.Frag} {b : Nat} : GsRel K b gNil L2.gNil := fun ad H S ρ σ ds vs Q0 Q st rh r ⟨e, q⟩ k => by
  subst e
  cases r
  exact ⟨rfl, k ρ S σ H ad q Wd.refl st rh rfl fun _ _ => rfl⟩
theorem gsrel_cons {K : PySem.W.Frag} {b : Nat} {t : DG} {u : DGs} {t' : TG} {u' : TGs} (r1 : GRel K b t t') (r2 : GsRel K b u u') : GsRel K b (gCons t u) (L2.gCons t' u') := fun ad H S ρ σ ds vs Q0 Q st rh r ⟨d, rs, ed, q⟩ k => by
  subst ed
  cases r with
  | cons r t =>
    refine ⟨_, _, rfl, r1 ad H S ρ σ d _ _ _ st rh r q fun ρ1 S1 σ1 H1 ad1 q1 w1 st1 rh1 l1 a1 => ?_⟩
    exact r2 ad1 H1 S1 ρ1 σ1 _ _ _ _ st1 rh1 (t.wd w1) q1 fun ρ2 S2 σ2 H2 ad2 q2 w2 st2 rh2 l2 a2 => k ρ2 S2 σ2 H2 ad2 q2 (w1.trans w2) st2 rh2 (l2.trans l1) fun j hj => (a2 j hj).trans (a1 j hj)
theorem grel_tup {K : PySem.W.Frag} {b n : Nat} {t : DGs} {t' : TGs} (r : GsRel K b t t') : GRel K b (gTup n t) (L2.gTup K n t') := fun ad H S ρ σ d v Q0 Q st rh rv ⟨xs, ed, hl, q⟩ k => by
  subst ed
  cases rv with
  | tup h1 rs => exact ⟨_, _, rfl, SqT.of h1, by rw [← rs.length]; exact hl, r ad H S ρ σ xs _ _ _ st rh rs q k⟩
end
theorem start_ok {K : PySem.W.Frag} {ad : List Addr} {H : Hp} {ds : List D} {vs : List V} (N : List Str) (r : RelAll K ad H ds vs) : RhoOk K ad H (startD N.length ds) (L2.start N vs) where
  len := by unfold startD L2.start; rw [List.length_append, List.length_append, List.length_map, List.length_map, List.length_replicate, List.length_replicate, r.length]
  val := fun i d e => by
    unfold startD at e
    unfold L2.start
    by_cases hi : i < ds.length
    · rw [List.getElem?_append_left (by rw [List.length_map]; exact hi), List.getElem?_map] at e
      rw [List.getElem?_append_left (by rw [List.length_map, ← r.length]; exact hi), List.getElem?_map]
      cases hd : ds[i]? with
      | none => rw [hd] at e; cases e
      | some d' =>
        rw [hd] at e
        cases e
        obtain ⟨v, ev, rv⟩ := r.get hd
        exact ⟨v, by rw [ev]; rfl, rv⟩
    · rw [List.getElem?_append_right (by rw [List.length_map]; exact Nat.le_of_not_lt hi), List.getElem?_replicate] at e
      split at e <;> cases e
theorem RelAll.cut1 {K : PySem.W.Frag} {ad ad' : List Addr} {H : Hp} (k : Nat) (h1 : ∀ d v, fl k d = true → Rel K ad H d v → Rel K ad' H d v) : ∀ ds vs, ds.all (fl k) = true → RelAll K ad H ds vs → RelAll K ad' H ds vs := by
  intro ds
  induction ds with
  | nil => intro vs _ r; cases r; exact .nil
  | cons d ds ih =>
    intro vs hf r
    rw [List.all_cons, Bool.and_eq_true] at hf
    cases r with
    | cons r t => exact .cons (h1 d _ hf.1 r) (ih _ hf.2 t)
theorem Rel.cut {K : PySem.W.Frag} {ad ad' : List Addr} {H : Hp} : ∀ (k : Nat) (d : D) (v : V), fl k d = true → Rel K ad H d v → Rel K ad' H d v := by
  intro k
  induction k with
  | zero =>
    intro d v hf r
    cases r with
    | non => exact .non
    | bl b => exact .bl b
    | int i => exact .int i
    | str x => exact .str x
    | ty n => cases hf
    | tup h r => cases hf
    | rl h r => cases hf
    | ref h => cases hf
  | succ k ih =>
    intro d v hf r
    cases r with
    | non => exact .non
    | bl b => exact .bl b
    | int i => exact .int i
    | str x => exact .str x
    | ty n => cases hf
    | tup h r => exact .tup h (RelAll.cut1 k ih _ _ hf r)
    | rl h r => cases hf
    | ref h => cases hf
theorem RelAll.cut {K : PySem.W.Frag} {ad ad' : List Addr} {H : Hp} (k : Nat) (ds : List D) (vs : List V) (hf : ds.all (fl k) = true) (r : RelAll K ad H ds vs) : RelAll K ad' H ds vs := RelAll.cut1 k (Rel.cut k) ds vs hf r
end Dp
namespace Dp
open PySem PySem.Spec PyProof.Rows L2 My
mutual
theorem Rel.low {K : PySem.W.Frag} {ad ad' : List Addr} {H H' : Hp} {m : Nat} (hm : ad.length ≤ m) : ∀ {d : D} {u v : V}, Rel K ad H d u → Rel K ad' H' d v → Rel K (ad'.take m) H' d v
  | _, _, _, .non, .non => .non
  | _, _, _, .bl b, .bl _ => .bl b
  | _, _, _, .int i, .int _ => .int i
  | _, _, _, .str x, .str _ => .str x
  | _, _, _, .ty n, .ty _ => .ty n
  | _, _, _, .tup _ r, .tup h r' => .tup h (RelAll.low hm r r')
  | _, _, _, .rl _ r, .rl h r' => .rl h (RelAll.low hm r r')
  | _, _, _, .ref h, .ref h' => .ref (by rw [List.getElem?_take_of_lt (Nat.lt_of_lt_of_le (My.lt_of_get h) hm)]; exact h')
theorem RelAll.low {K : PySem.W.Frag} {ad ad' : List Addr} {H H' : Hp} {m : Nat} (hm : ad.length ≤ m) : ∀ {ds : List D} {us vs : List V}, RelAll K ad H ds us → RelAll K ad' H' ds vs → RelAll K (ad'.take m) H' ds vs
  | _, _, _, .nil, .nil => .nil
  | _, _, _, .cons r t, .cons r' t' => .cons (Rel.low hm r r') (RelAll.low hm t t')
end
theorem RelF.low {K : PySem.W.Frag} {ad ad' : List Addr} {H H' : Hp} {m : Nat} (hm : ad.length ≤ m) : ∀ {fs : List (Str × D)} {us vs : List (Str × V)}, RelF K ad H fs us → RelF K ad' H' fs vs → RelF K (ad'.take m) H' fs vs
  | _, _, _, .nil, .nil => .nil
  | _, _, _, .cons r t, .cons r' t' => .cons (Rel.low hm r r') (RelF.low hm t t')
theorem fin_ok {K : PySem.W.Frag} {ad : List Addr} {H : Hp} {S : Sto} {Q0 : DK} {Q : VK} (st : StOk K ad H S) (k : KK K ad H Q0 Q) : KK K ad H (Fin S Q0) Q := by
  intro d S' v H' ad' hf w st' r
  rcases hf with q | ⟨S1, pre, hlen, hd, hc, q⟩
  · exact k d S' v H' ad' q w st' r
  have hS : S1.length ≤ S'.length := pre.length_le
  have had : ad.length ≤ S1.length := by rw [st.len]; exact hlen
  have htk : ∀ {n : Nat} {a : Addr}, (ad'.take S1.length)[n]? = some a → ad'[n]? = some a := fun {n a} e => by
    have hn := My.lt_of_get e
    rw [List.length_take] at hn
    rw [List.getElem?_take_of_lt (by omega)] at e
    exact e
  have w1 : Wd ad H (ad'.take S1.length) H' := by
    refine ⟨?_, w.keep, w.tup, w.frz, fun b m n => w.new b (List.mem_of_mem_take m) n⟩
    obtain ⟨t, rfl⟩ := w.pre
    rw [List.take_append, List.take_of_length_le had]
    exact List.prefix_append _ _
  refine k d S1 v H' _ q w1 ⟨by rw [List.length_take, st'.len]; omega, st'.nd.sublist (List.take_sublist _ _), fun n a c e1 e2 => ?_⟩ ?_
  · have e1' := htk e1
    have ok := st'.cell n a c e1' (pre_get pre e2)
    rcases hc n c e2 with h | h
    · obtain ⟨a0, ea, ok0⟩ := st.get h
      cases c with
      | ins c fs =>
        obtain ⟨C, dx, vs, hv, c1, c2, rv, hn⟩ := ok
        obtain ⟨_, _, us, _, _, _, ru, _⟩ := ok0
        exact ⟨C, dx, vs, hv, c1, c2, RelF.low had ru rv, hn⟩
      | lst xs =>
        obtain ⟨vs, hv, rv⟩ := ok
        obtain ⟨us, hu, ru⟩ := ok0
        exact ⟨vs, hv, RelAll.low had ru rv⟩
    · cases c with
      | ins c fs => cases h
      | lst xs =>
        obtain ⟨vs, hv, rv⟩ := ok
        exact ⟨vs, hv, RelAll.cut 20 _ _ h rv⟩
  · rcases hd with h | ⟨n, rfl, hn⟩
    · exact Rel.cut 20 _ _ h r
    · cases r with
      | ref e => exact .ref (by rw [List.getElem?_take_of_lt hn]; exact e)
theorem fn_deep {P : Program} {w : World} {K : PySem.W.Frag} {mg : Str → Option Value} {base : Heap} {x qual : Str} {st : Stmt} {f : Addr} {fd : FuncData} {N ps : List Str} {k : Nat} {sp : DSp} {b : DS} (F : Fun K x qual st f fd) (S : FnScope N ps (defScope st))
    (len : ∀ ds So Q, sp ds So Q → ds.length = ps.length) (body : BodyOk N.length b sp)
    (term : ∀ (cdv : Value) (A : Around) (outer : List Env) (s : Shared) (H : Hp) (E : XK), Room k (A.deeper (envOfC qual (defScope st) s.heap.objs.size f cdv)) → PSsD (cxOf CX0 P w K mg base N qual (defScope st) f cdv A outer s H E).nox (defBody st) b) :
    FnOk P w K mg base CX0 (k + 1) f fd ps (upF K sp) := by
  refine F.ok S (fun vs H Q E ⟨ad, So, ds, Q0, so, r, hf, kk⟩ => by rw [← r.length]; exact len ds So Q0 hf) fun cdv A outer s H vs Q E hr ⟨ad, So, ds, Q0, so, r, hf, kk⟩ => ?_
  refine ⟨_, term cdv A outer s H E hr, ad, startD N.length ds, So, _, so, start_ok N r, body ds So Q0 hf, ⟨fun ρ S' σ H' ad' q w' st' rh => fin_ok so kk .non S' .non H' ad' q w' st' .non, fin_ok so kk, fun _ _ _ _ _ q => q.elim, fun _ _ _ _ _ q => q.elim⟩⟩
theorem law_sp {K : PySem.W.Frag} {H : Hp} {a : Addr} {ns : List Int} (hl : ns.length ≤ 63) (hO : Only H) (hS : SqL K H a (ns.map V.int)) : upF K sp_law [.ref a] H (fun v _ => v = .bl true) fun _ _ _ => False := by
  have hr : SqLr K H a (ns.map V.int) := by
    rcases hS with (h | h) | h
    · rcases hO a with e | ⟨o, xs, e⟩
      · rw [h] at e; cases e
      · rw [h] at e; cases e
    · exact .inl h
    · exact .inr h
  refine ⟨[], [], [.rl (ns.map D.int)], fun d _ => d = .bl true, ⟨rfl, List.nodup_nil, fun n a c e => by simp at e⟩, .cons (.rl hr (RelAll.mk_ints ns)) .nil, ⟨ns, rfl, rfl, hl, fun _ => rfl⟩, fun d S' v H' ad' q w st' r => ?_⟩
  have q' : d = .bl true := q
  subst q'
  cases r
  rfl
end Dp
namespace Dp
open PySem PySem.Spec PyProof.Rows L2 My
section
variable {X : Cx}
theorem rev_get {ds : List D} {i : Nat} (h : i < ds.length) : ds.reverse[i]? = ds[ds.length - 1 - i]? := List.getElem?_reverse h
theorem it_rev {K : PySem.W.Frag} {ad : List Addr} {H : Hp} {a : Addr} {x : D} {ds : List D} (r : Rel K ad H x (.ref a)) : ItOk K ad H ⟨ds.reverse, fun S => Lst S x ds⟩ (ItRev K a ds.length) where
  go := fun ad1 H1 S i w st ok hi => by
    obtain ⟨a', vs, e, s, rs⟩ := Lst.sq st ok (r.wd w)
    cases e
    have hi' : i < ds.length := by rw [← List.length_reverse]; exact hi
    exact ⟨vs, vs[ds.length - 1 - i]'(by rw [← rs.length]; omega), s, hi', List.getElem?_eq_getElem _⟩
  yld := fun ad1 H1 S i d y H' w st ok hd ⟨e, hx⟩ => by
    subst e
    obtain ⟨a', vs, e, s, rs⟩ := Lst.sq st ok (r.wd w)
    cases e
    have hi' : i < ds.length := by have := (List.getElem?_eq_some_iff.mp hd).1; rw [← List.length_reverse]; exact this
    have hd' : ds[ds.length - 1 - i]? = some d := (rev_get hi').symm.trans hd
    obtain ⟨v, ev, rv⟩ := rs.get hd'
    rw [hx vs s] at ev
    cases ev
    exact ⟨Wd.refl, st, rv⟩
  stop := fun ad1 H1 S w st ok => by show ds.reverse.length = ds.length; exact List.length_reverse
theorem it_revT {K : PySem.W.Frag} {ad : List Addr} {H : Hp} {a : Addr} {vs : List V} {ds : List D} (h : H a = some (.tup vs)) (r : RelAll K ad H ds vs) : ItOk K ad H ⟨ds.reverse, fun _ => True⟩ (ItRevT K a ds.length) where
  go := fun ad1 H1 S i w st ok hi => by
    have hi' : i < ds.length := by rw [← List.length_reverse]; exact hi
    exact ⟨vs, vs[ds.length - 1 - i]'(by rw [← r.length]; omega), SqT.of (w.tup _ _ h), hi', List.getElem?_eq_getElem _⟩
  yld := fun ad1 H1 S i d y H' w st ok hd ⟨e, hx⟩ => by
    subst e
    have hi' : i < ds.length := by have := (List.getElem?_eq_some_iff.mp hd).1; rw [← List.length_reverse]; exact this
    have hd' : ds[ds.length - 1 - i]? = some d := (rev_get hi').symm.trans hd
    obtain ⟨v, ev, rv⟩ := r.get hd'
    rw [hx vs (SqT.of (w.tup _ _ h))] at ev
    cases ev
    exact ⟨Wd.refl, st, rv.wd w⟩
  stop := fun ad1 H1 S w st ok => by show ds.reverse.length = ds.length; exact List.length_reverse
theorem id_reversed {tg a : Expr} {t : DA} {p pos : Pos} (hg : Gl X "reversed") (hm : X.mg "reversed" = none) (ha : PAD X [a] t) (hs : starEach [a] X.env = [(false, eval a X.env)] := by rfl) :
    PID X tg (.Call (.Name "reversed" p) [a] [] pos) (Dp.iRev t) := pi_mono (pi_revC hg hm ha hs) fun σ H R ⟨ad, ρ, S, R0, st, rh, q, k⟩ =>
  ⟨ad, ρ, S, _, st, rh, q, fun ds S1 vs H1 ad1 hx w1 st1 r1 => by
    rcases hx with ⟨x, xs, ed, hx, q1⟩ | ⟨xs, ed, q1⟩
    · subst ed
      obtain ⟨v, rfl, rv⟩ := rel1 r1
      obtain ⟨b, ws, rfl, s, rs⟩ := hx.sq st1 rv
      refine ⟨b, ws, rfl, .inl ⟨s, k _ S1 _ H1 ad1 q1 w1 st1 ?_⟩⟩
      rw [← rs.length]
      exact it_rev rv
    · subst ed
      obtain ⟨v, rfl, rv⟩ := rel1 r1
      cases rv with
      | tup h rr =>
        refine ⟨_, _, rfl, .inr ⟨SqT.of h, k _ S1 _ H1 ad1 q1 w1 st1 ?_⟩⟩
        rw [← rr.length]
        exact it_revT h rr⟩
end
section
variable {X : Cx} {a b : Expr} {ta tb : DE} {pos : Pos}
end
section
variable {X : Cx}
theorem ints_of : ∀ {ns : List Int} {its : List Value}, Vals (ns.map V.int) its → IntsAre its ns
  | [], _, r => by cases r; exact .nil
  | n :: ns, _, r => by
    cases r with
    | cons h t =>
      obtain ⟨k, rfl⟩ := h
      exact .cons _ _ (ints_of t)
theorem of_ints : ∀ {ns : List Int} {its : List Value}, IntsAre its ns → Vals (ns.map V.int) its
  | [], _, r => by cases r; exact .nil
  | n :: ns, _, r => by
    cases r with
    | cons _ _ t => exact .cons ⟨_, rfl⟩ (of_ints t)
def rSortI (K : PySem.W.Frag) : List V → Hp → VK → Prop := fun xs H Q => ∃ (p : Addr) (ns : List Int), xs = [.ref p] ∧ SqL K H p (ns.map V.int) ∧ ns.length < 64 ∧ ∀ (l : Addr) (ss : List Int), H l = none → ss.Perm ns → ss.Pairwise (fun a b => a ≤ b) → Q (.ref l) (upd H l (.lst (ss.map V.int)))
theorem call_sortedI {K : PySem.W.Frag} (hK : X.K = K) : CallR X (.builtin "sorted") (rSortI K) := fun pins s σ H xs us Q I r h => by
  subst hK
  obtain ⟨p, ns, rfl, hS, h64, q⟩ := h
  obtain ⟨u, rfl, ru⟩ := vals1 r
  cases ru
  obtain ⟨its, rv, pl, hz⟩ := I.list hS
  have hI := ints_of rv
  have hlen := rv.length
  rw [List.length_map] at hlen hz
  refine sorted_ints pl.isList hI (by omega) fun out ss h1 h2 h3 => ?_
  obtain ⟨e, he⟩ := sortedAll_at s.heap its out
  have hv := of_ints h1
  refine ⟨.ref (s.heap.objs.size + 1), _, I.laid (t' := s.toks) (a := s.heap.objs.size + 1) (o := .lst (ss.map V.int)) (fun b o q => sortedAll_old q) (Nat.le_succ _) ⟨?_, out.toList, e, hv, ?_⟩, rfl, q _ ss (I.hok.fresh (Nat.le_succ _)) h2 h3⟩
  · rw [List.length_map, h2.length_eq]; exact hz
  · rw [he]
theorem bd_SortI : BC X (.builtin "sorted") bSortI := ⟨_, call_sortedI rfl, fun ad H S ds vs Q0 Q st r ⟨x, ns, e, hx, h64, q⟩ k => by
  subst e
  obtain ⟨v, rfl, rv⟩ := rel1 r
  obtain ⟨a, ws, rfl, hs, rs⟩ := hx.sq st rv
  cases rs.ints
  exact ⟨a, ns, rfl, hs, h64, fun l ss hl hp hw => newL_k st k (RelAll.mk_ints ss) (q ss hp hw) l hl⟩⟩
theorem bd_Sort : BC X (.builtin "sorted") bSort := by
  obtain ⟨r1, c1, d1⟩ := bd_Sort2 (X := X)
  obtain ⟨r2, c2, d2⟩ := bd_SortI (X := X)
  refine ⟨fun xs H Q => r1 xs H Q ∨ r2 xs H Q, fun pins s σ H xs us Q I r h => ?_, fun ad H S ds vs Q0 Q st r h k => ?_⟩
  · rcases h with h | h
    · exact c1 pins s σ H xs us Q I r h
    · exact c2 pins s σ H xs us Q I r h
  · rcases h with h | h
    · exact .inl (d1 ad H S ds vs Q0 Q st r h k)
    · exact .inr (d2 ad H S ds vs Q0 Q st r h k)
end
section
variable {X : Cx} {e : Expr} {pos p2 p3 : Pos} {lo : Option Expr}
end
theorem grow_ok {K : PySem.W.Frag} {ad : List Addr} {S : Sto} : ∀ {ps : List Addr} {ds es : List D} {ws us : List V} {H : Hp}, StOk K ad H S → RelAll K ad H ds ws → RelAll K ad H es us → ps.Nodup → ps.length = (ws.zip us).length → (∀ p ∈ ps, H p = none) →
    Wd ad H ad (grow H ps (ws.zip us)) ∧ StOk K ad (grow H ps (ws.zip us)) S ∧ RelAll K ad (grow H ps (ws.zip us)) (zipD ds es) (ps.map V.ref)
  | [], [], _, [], _, _, st, _, _, _, _, _ => ⟨Wd.refl, st, .nil⟩
  | [], _ :: _, [], _ :: _, [], _, st, _, _, _, _, _ => ⟨Wd.refl, st, .nil⟩
  | [], _ :: _, _ :: _, _ :: _, _ :: _, _, _, _, _, _, hl, _ => by simp at hl
  | _ :: _, _, _, [], _, _, _, _, _, _, hl, _ => by simp at hl
  | _ :: _, _, _, _ :: _, [], _, _, _, _, _, hl, _ => by simp at hl
  | p :: ps, d :: ds, e :: es, w :: ws, u :: us, H, st, .cons r rs, .cons r' rs', nd, hl, hn => by
    have hp : H p = none := hn p List.mem_cons_self
    have w1 : Wd ad H ad (upd H p (.tup [w, u])) := Wd.laid hp
    obtain ⟨a1, a2, a3⟩ := grow_ok (ps := ps) (st.laid (o := .tup [w, u]) hp) (rs.wd w1) (rs'.wd w1) (List.nodup_cons.mp nd).2 (by simpa using hl) fun q hq => by
      rw [upd_ne (fun z : q = p => (List.nodup_cons.mp nd).1 (z ▸ hq))]
      exact hn q (List.mem_cons_of_mem _ hq)
    exact ⟨w1.trans a1, a2, .cons (.tup (a1.tup _ _ upd_same) (.cons ((r.wd w1).wd a1) (.cons ((r'.wd w1).wd a1) .nil))) a3⟩
theorem pd_lzip {X : Cx} {a b : Expr} {t : DA} {p1 p2 pos1 pos2 : Pos} (hgl : Gl X "list") (hml : X.mg "list" = none) (hgr : Gl X "zip") (hmr : X.mg "zip" = none) (ha : PAD X [a, b] t) (hc : X.calm = true := by rfl)
    (hs : starEach [a, b] X.env = [(false, eval a X.env), (false, eval b X.env)] := by rfl) (hs2 : starEach [b] X.env = [(false, eval b X.env)] := by rfl)
    (hs3 : starEach [.Call (.Name "zip" p2) [a, b] [] pos2] X.env = [(false, eval (.Call (.Name "zip" p2) [a, b] [] pos2) X.env)] := by rfl) :
    PD X (.Call (.Name "list" p1) [.Call (.Name "zip" p2) [a, b] [] pos2] [] pos1) (dB bLZip t) :=
  pd_of (pe_lzip hc hgl hml hgr hmr ha hs hs2 hs3) fun σ H Q ⟨ad, ρ, S, Q0, st, rh, q, k⟩ =>
    ⟨ad, ρ, S, _, st, rh, q, fun ds S1 vs H1 ad1 ⟨x, y, xs, ys, ed, hx, hy, q1⟩ w1 st1 r1 => by
      subst ed
      obtain ⟨v, u, rfl, rv, ru⟩ := rel2 r1
      obtain ⟨a1, ws, rfl, hs, rs⟩ := hx.sq st1 rv
      obtain ⟨a2, us, rfl, hs2, rs2⟩ := hy.sq st1 ru
      refine ⟨a1, a2, ws, us, rfl, hs, hs2, fun ps l nd hl hn hl0 => ?_⟩
      obtain ⟨w2, st2, rr⟩ := grow_ok st1 rs rs2 nd hl fun p hp => (hn p hp).1
      have hl2 : grow H1 ps (ws.zip us) l = none := by rw [grow_not (fun h => (hn l h).2 rfl)]; exact hl0
      exact newL_k st2 ((k.wd w1).wd w2) rr q1 l hl2⟩
section
variable {X : Cx} {e : Expr} {t : DA} {p pos kp cp : Pos} {j : Nat}
theorem pd_maxD (hg : Gl X "max") (hm : X.mg "max" = none) (ha : PAD X [e] t) (hc : X.calm = true := by rfl)
    (he : backTo pos (starEach [e] X.env) = (false, eval e X.env) :: backTo pos (starEach [] X.env) := by rfl) (hpl : (backTo pos (starEach [e] X.env)).any (·.1) = false := by rfl) : PD X (.Call (.Name "max" p) [e] [⟨some "default", .Constant .none j cp, kp⟩] pos) (dB bMaxD t) :=
  pd_of (pe_maxD hc hg hm boot_max ha he hpl) fun σ H Q ⟨ad, ρ, S, Q0, st, rh, q, k⟩ =>
    ⟨ad, ρ, S, _, st, rh, q, fun ds S1 vs H1 ad1 ⟨x, ns, ed, hx, q0, q1⟩ w1 st1 r1 => by
      subst ed
      obtain ⟨v, rfl, rv⟩ := rel1 r1
      obtain ⟨a, ws, rfl, hs, rs⟩ := hx.sq st1 rv
      cases rs.ints
      exact ⟨a, ns, rfl, hs, fun e0 => (k.wd w1) _ S1 _ H1 ad1 (q0 e0) Wd.refl st1 .non, fun m h1 h2 => (k.wd w1) _ S1 _ H1 ad1 (q1 m h1 h2) Wd.refl st1 (.int _)⟩⟩
theorem pd_minD (hg : Gl X "min") (hm : X.mg "min" = none) (ha : PAD X [e] t) (hc : X.calm = true := by rfl)
    (he : backTo pos (starEach [e] X.env) = (false, eval e X.env) :: backTo pos (starEach [] X.env) := by rfl) (hpl : (backTo pos (starEach [e] X.env)).any (·.1) = false := by rfl) : PD X (.Call (.Name "min" p) [e] [⟨some "default", .Constant .none j cp, kp⟩] pos) (dB bMinD t) :=
  pd_of (pe_minD hc hg hm boot_min ha he hpl) fun σ H Q ⟨ad, ρ, S, Q0, st, rh, q, k⟩ =>
    ⟨ad, ρ, S, _, st, rh, q, fun ds S1 vs H1 ad1 ⟨x, ns, ed, hx, q0, q1⟩ w1 st1 r1 => by
      subst ed
      obtain ⟨v, rfl, rv⟩ := rel1 r1
      obtain ⟨a, ws, rfl, hs, rs⟩ := hx.sq st1 rv
      cases rs.ints
      exact ⟨a, ns, rfl, hs, fun e0 => (k.wd w1) _ S1 _ H1 ad1 (q0 e0) Wd.refl st1 .non, fun m h1 h2 => (k.wd w1) _ S1 _ H1 ad1 (q1 m h1 h2) Wd.refl st1 (.int _)⟩⟩
end
section
variable {X : Cx} {e o value : Expr} {te to tv : DE} {f c : Str} {pos pos' : Pos}
end
end Dp
open PySem Dp
local macro_rules | `(tactic| walk_at "dat") => `(tactic| first | assumption | exact sto_h0 | exact sto_new | (refine (sto_at _ _ _).trans ?_; exact rfl) | exact sto_old (by assumption))
local macro_rules | `(tactic| walk_at "dlat") => `(tactic| first | assumption | exact Lst.rl | exact Lst.at0 | exact Lst.new | (refine Lst.at ?_; exact rfl) | exact Lst.old (by assumption) | exact Lst.here (by assumption) | exact Lst.here (sto_old (by assumption)))
local macro_rules | `(tactic| walk_at "dseq") => `(tactic| first | exact Or.inl rfl | (refine Or.inr ?_; walk_at "dlat"))
local macro_rules | `(tactic| walk_at "dbd") => `(tactic| first | assumption | exact My.Bd.mono (by assumption) (by decide) | exact My.Bd.lit (by decide) (by decide) | (refine My.Bd.add ?_ ?_ <;> walk_at "dbd") | (refine My.Bd.sub ?_ ?_ <;> walk_at "dbd") | (refine My.Bd.neg ?_; walk_at "dbd") | (refine My.Bd.mulH ?_ ?_ <;> walk_at "dbd") | (refine My.Bd.emod (by omega) ?_; walk_at "dbd") | (refine My.Bd.ediv ?_; walk_at "dbd"))
local macro_rules | `(tactic| walk_at "dmul") => `(tactic| first | assumption | exact Or.inr (Or.inl (by omega)) | exact Or.inr (Or.inr (by omega)) | exact Or.inl ⟨by walk_at "dbd", by walk_at "dbd"⟩)
local macro_rules | `(tactic| walk_at "ddiv") => `(tactic| first | assumption | exact ⟨by omega, by walk_at "dbd"⟩)
local macro_rules | `(tactic| walk_at "dr1") => `(tactic| first
  | with_reducible refine Dp.r_seq ?_ | with_reducible refine Dp.r_next ?_ | with_reducible refine Dp.r_ret ?_ | with_reducible refine Dp.r_drop ?_ | with_reducible refine Dp.r_asg ?_ | with_reducible refine Dp.r_fldS ?_ | with_reducible refine Dp.r_fld ?_ | ((with_reducible refine Dp.g_cor (l := ?rvx) ?rvk ?_); (case rvk => walk_at "dat")) | with_reducible refine Dp.r_if ?_ | with_reducible refine Dp.r_gname ?_
  | ((with_reducible refine Dp.r_var (d := ?rvv) ?rvk ?_); (case rvk => exact rfl)) | with_reducible refine Dp.r_c ?_ | with_reducible refine Dp.r_op ?_ | with_reducible refine Dp.r_un ?_
  | with_reducible refine Dp.o_add ?_ | with_reducible refine Dp.o_sub ?_ | with_reducible refine Dp.o_lt ?_ | with_reducible refine Dp.o_le ?_ | with_reducible refine Dp.o_gt ?_ | with_reducible refine Dp.o_ge ?_ | with_reducible refine Dp.o_eqI ?_ | with_reducible refine Dp.o_neI ?_ | with_reducible refine Dp.o_eqB ?_ | with_reducible refine Dp.o_neB ?_ | with_reducible refine Dp.o_neg ?_
  | ((with_reducible refine Dp.o_mul ?rvk ?_); (case rvk => walk_at "dmul")) | ((with_reducible refine Dp.o_div ?rvk ?_); (case rvk => walk_at "ddiv")) | ((with_reducible refine Dp.o_mod ?rvk ?_); (case rvk => first | omega | assumption)) | ((with_reducible refine Dp.o_pow ?rvk ?_); (case rvk => exact ⟨by omega, by omega, by omega⟩))
  | ((with_reducible refine Dp.o_ixT (d := ?rvv) ?rvk ?_); (case rvk => first | assumption | exact rfl)) | ((with_reducible refine Dp.o_ixL (xs := ?rvx) (d := ?rvv) ?rvl ?rvk ?_); (case rvl => walk_at "dlat"); (case rvk => first | assumption | exact rfl))
  | with_reducible refine Dp.r_t ?_ | with_reducible refine Dp.r_bl ?_ | with_reducible refine Dp.r_int ?_ | with_reducible refine Dp.r_not ?_ | with_reducible refine Dp.r_or ?_ | with_reducible refine Dp.r_and ?_ | with_reducible refine Dp.r_orV ?_ | with_reducible refine Dp.r_andV ?_ | with_reducible refine Dp.r_notV ?_ | with_reducible refine Dp.r_ifE ?_ | with_reducible refine Dp.r_chain ?_
  | with_reducible refine Dp.r_nil ?_ | with_reducible refine Dp.r_cons ?_ | with_reducible refine Dp.r_tup ?_ | with_reducible refine Dp.r_lst ?_ | ((with_reducible refine Dp.r_few ?rvk ?_); (case rvk => exact rfl)) | with_reducible refine Dp.r_call ?_ | with_reducible refine Dp.r_b ?_ | with_reducible refine Dp.r_m ?_ | ((with_reducible refine Dp.r_isl (ys := ?rvx) ?rvk ?_); (case rvk => walk_at "dat"))
  | with_reducible refine Dp.new_1 ?_ | with_reducible refine Dp.new_2 ?_ | with_reducible refine Dp.new_3 ?_ | with_reducible refine Dp.new_4 ?_ | with_reducible refine Dp.new_5 ?_ | with_reducible refine Dp.new_A ?_ | with_reducible refine Dp.new_0 ?_ | with_reducible refine Dp.put_A0 ?_ | with_reducible refine Dp.put_A1 ?_ | with_reducible refine Dp.put_A2 ?_ | with_reducible refine Dp.put_A3 ?_ | with_reducible refine Dp.put_A ?_ | with_reducible refine Dp.put_0 ?_
  | with_reducible refine Dp.b_abs ?_ | with_reducible refine Dp.b_max2 ?_ | with_reducible refine Dp.b_min2 ?_ | with_reducible refine Dp.b_lenT ?_ | ((with_reducible refine Dp.b_lenL (xs := ?rvx) ?rvl ?_); (case rvl => walk_at "dlat")) | with_reducible refine Dp.b_intI ?_ | with_reducible refine Dp.b_intB ?_ | with_reducible refine Dp.b_boolI ?_ | with_reducible refine Dp.b_boolB ?_
  | with_reducible refine Dp.b_tupleT ?_ | ((with_reducible refine Dp.b_tupleL (xs := ?rvx) ?rvl ?_); (case rvl => walk_at "dlat")) | with_reducible refine Dp.b_listT ?_ | ((with_reducible refine Dp.b_listL (xs := ?rvx) ?rvl ?_); (case rvl => walk_at "dlat")) | with_reducible refine Dp.b_isi_int_int ?_ | with_reducible refine Dp.b_isi_int_bool ?_ | with_reducible refine Dp.b_isi_int_tuple ?_ | with_reducible refine Dp.b_isi_int_list ?_ | with_reducible refine Dp.b_isi_int_str ?_ | with_reducible refine Dp.b_isi_bl_int ?_ | with_reducible refine Dp.b_isi_bl_bool ?_ | with_reducible refine Dp.b_isi_bl_tuple ?_ | with_reducible refine Dp.b_isi_bl_list ?_ | with_reducible refine Dp.b_isi_bl_str ?_ | with_reducible refine Dp.b_isi_tup_int ?_ | with_reducible refine Dp.b_isi_tup_bool ?_ | with_reducible refine Dp.b_isi_tup_tuple ?_ | with_reducible refine Dp.b_isi_tup_list ?_ | with_reducible refine Dp.b_isi_tup_str ?_ | with_reducible refine Dp.b_isi_non_int ?_ | with_reducible refine Dp.b_isi_non_bool ?_ | with_reducible refine Dp.b_isi_non_tuple ?_ | with_reducible refine Dp.b_isi_non_list ?_ | with_reducible refine Dp.b_isi_non_str ?_ | with_reducible refine Dp.b_isi_str_int ?_ | with_reducible refine Dp.b_isi_str_bool ?_ | with_reducible refine Dp.b_isi_str_tuple ?_ | with_reducible refine Dp.b_isi_str_list ?_ | with_reducible refine Dp.b_isi_str_str ?_ | ((with_reducible refine Dp.b_isi_lst_list (xs := ?rvx) ?rvl ?_); (case rvl => walk_at "dat")) | ((with_reducible refine Dp.b_isi_lst_tuple (xs := ?rvx) ?rvl ?_); (case rvl => walk_at "dat"))
  | with_reducible refine Dp.r_gnil ?_ | with_reducible refine Dp.r_gcons ?_ | ((with_reducible refine Dp.r_gtup ?rvk ?_); (case rvk => exact rfl)) | with_reducible refine Dp.r_gsub ?_ | with_reducible refine Dp.r_true ?_
  | with_reducible refine Dp.o_is0 ?_ | with_reducible refine Dp.o_is1 ?_ | with_reducible refine Dp.o_is2 ?_ | with_reducible refine Dp.o_is3 ?_ | with_reducible refine Dp.o_isn0 ?_ | with_reducible refine Dp.o_isn1 ?_ | with_reducible refine Dp.o_isn2 ?_ | with_reducible refine Dp.o_isn3 ?_ | with_reducible refine Dp.o_isTT ?_ | with_reducible refine Dp.o_isnTT ?_ | with_reducible refine Dp.o_is ?_ | with_reducible refine Dp.o_isn ?_ | with_reducible refine Dp.o_isB ?_ | with_reducible refine Dp.o_isnB ?_ | with_reducible refine Dp.r_sl ?_ | with_reducible refine Dp.r_opt0 ?_ | with_reducible refine Dp.r_opt1 ?_ | ((with_reducible refine Dp.o_step (xs := ?rvx) ?rvl ?_); (case rvl => walk_at "dlat")) | with_reducible refine Dp.o_cutT ?_ | ((with_reducible refine Dp.o_cutL (xs := ?rvx) ?rvl ?_); (case rvl => walk_at "dlat"))
  | ((with_reducible refine Dp.r_aug (a := ?rvv) ?rvk ?_); (case rvk => exact rfl)) | ((with_reducible refine Dp.m_append (xs := ?rvx) ?rvk ?rvl ?_); (case rvk => walk_at "dat"); (case rvl => first | exact Nat.lt_of_ble_eq_true rfl | assumption | (simp only [big, List.length_append, List.length_cons, List.length_nil, List.length_map] at *; omega)))
  | with_reducible refine Dp.iteT ?_ | with_reducible refine Dp.iteF ?_ | with_reducible refine Dp.iteNT ?_ | with_reducible refine Dp.iteNF ?_ | with_reducible refine Dp.r_ntrue ?_ | with_reducible refine Dp.r_nfalse ?_
  | with_reducible refine Dp.r_for ?_ | with_reducible refine Dp.r_turn ?_ | with_reducible refine Dp.r_iseq ?_ | with_reducible refine Dp.i_tup ?_ | ((with_reducible refine Dp.i_lst (xs := ?rvx) ?rvl ?_); (case rvl => walk_at "dlat")) | with_reducible refine Dp.r_rng1 ?_ | with_reducible refine Dp.r_rng2 ?_ | with_reducible refine Dp.r_enum ?_ | with_reducible refine Dp.en_T ?_ | with_reducible refine Dp.r_zip ?_ | with_reducible refine Dp.zi_T ?_ | with_reducible refine Dp.r_rev ?_ | with_reducible refine Dp.rev_T ?_ | with_reducible refine Dp.r_rng3 ?_ | with_reducible refine Dp.r_lc ?_)
local macro_rules | `(tactic| walk_at "dgo") => `(tactic| repeat walk_at "dr1")
local macro_rules | `(tactic| walk_at "drho") => `(tactic| simp only [startD, List.map_cons, List.map_nil, List.length_cons, List.length_nil, Nat.reduceSub, Nat.reduceAdd, List.replicate, List.cons_append, List.nil_append, List.set_cons_zero, List.set_cons_succ])
local macro_rules | `(tactic| walk_at "drho2") => `(tactic| simp only [List.set_cons_zero, List.set_cons_succ])
namespace Dp
open PySem Rm My
def sp_law_at : DSp := fun ds S Q => ∃ (ns : List Int) (k : Int), ds = [.rl (ns.map D.int), .int k] ∧ 0 ≤ k ∧ ∀ v, Q (.int v) S
def b_law_at : DS :=
    (sSeq (sIf (dT (dOp oLt (dVar 1) (dB bLen (dCons (dVar 0) dNil)))) (sRet (dOp oIx (dVar 0) (dVar 1))) sNext)
    (sRet (dC (.int 0))))
theorem len_law_at : ∀ ds So Q, sp_law_at ds So Q → ds.length = 2 := by rintro ds So Q ⟨_, _, rfl, _⟩; rfl
theorem bo_law_at : BodyOk 2 b_law_at sp_law_at := by
  rintro ds S Q ⟨ns, k, rfl, h0, q⟩
  unfold b_law_at
  walk_at "dgo"
  rw [List.length_map]
  refine r_d (fun g => ?_) (fun g => ?_)
  · obtain ⟨v, _, av⟩ := at_int (zs := ns) h0 (by omega)
    walk_at "dgo"
    exact fin_same (q _)
  · walk_at "dgo"
    exact fin_same (q _)
def sp_law_mix : DSp := fun ds S Q => ∃ (c k s : Int), ds = [.int c, .int k, .int s] ∧ 0 ≤ k ∧ k < 1000 ∧ 0 < s ∧ ∀ v, 0 ≤ v → v < s → Q (.int v) S
def b_law_mix : DS :=
    (sSeq (sAsg (dC (.int 618970019642690137449562111)) (gName 3))
    (sSeq (sAsg (dOp oMul (dOp oAdd (dOp oAdd (dOp oMod (dVar 0) (dC (.int 1000000000000000000000000000000000000000000000000000000000000))) (dOp oMul (dC (.int 7907)) (dVar 1))) (dC (.int 1))) (dC (.int 271828182845904523536028747135266249775))) (gName 4))
    (sSeq (sAsg (dOp oMod (dOp oMul (dVar 4) (dVar 4)) (dVar 3)) (gName 5))
    (sSeq (sAsg (dOp oMod (dOp oMul (dOp oAdd (dVar 5) (dOp oMul (dC (.int 104729)) (dOp oAdd (dVar 1) (dC (.int 1))))) (dVar 5)) (dVar 3)) (gName 5))
    (sRet (dOp oMod (dOp oDiv (dVar 5) (dC (.int 8))) (dVar 2)))))))
theorem len_law_mix : ∀ ds So Q, sp_law_mix ds So Q → ds.length = 3 := by rintro ds So Q ⟨_, _, _, rfl, _⟩; rfl
theorem bo_law_mix : BodyOk 6 b_law_mix sp_law_mix := by
  rintro ds S Q ⟨c, k, s, rfl, h0, hk, hs, q⟩
  unfold b_law_mix
  have b1 : My.Bd 300 (c % 1000000000000000000000000000000000000000000000000000000000000 + 7907 * k + 1) := by
    have h1 := Int.emod_nonneg c (b := 1000000000000000000000000000000000000000000000000000000000000) (by decide)
    have h2 := Int.emod_lt_of_pos c (b := 1000000000000000000000000000000000000000000000000000000000000) (by decide)
    show _ < 2 ^ 300
    omega
  have b2 : My.Bd 200 (271828182845904523536028747135266249775 : Int) := My.Bd.lit (by decide) (by decide)
  have b3 := My.Bd.mul b1 b2
  have cm1 : CMulD (c % 1000000000000000000000000000000000000000000000000000000000000 + 7907 * k + 1) 271828182845904523536028747135266249775 := .inl ⟨b1.mono (by decide), b2.mono (by decide)⟩
  generalize hb : c % 1000000000000000000000000000000000000000000000000000000000000 + 7907 * k + 1 = u at *
  have cm2 : CMulD (u * 271828182845904523536028747135266249775) (u * 271828182845904523536028747135266249775) := .inl ⟨b3.mono (by decide), b3.mono (by decide)⟩
  walk_at "dgo"
  rw [hb]
  walk_at "dgo"
  have b4 : My.Bd 200 (u * 271828182845904523536028747135266249775 * (u * 271828182845904523536028747135266249775) % 618970019642690137449562111) := My.Bd.emod (by decide) (My.Bd.lit (by decide) (by decide))
  generalize u * 271828182845904523536028747135266249775 * (u * 271828182845904523536028747135266249775) % 618970019642690137449562111 = m at *
  have b5 : My.Bd 200 (104729 * (k + 1)) := by
    show _ < 2 ^ 200
    omega
  have cm3 : CMulD (m + 104729 * (k + 1)) m := .inl ⟨(My.Bd.add b4 b5).mono (by decide), b4.mono (by decide)⟩
  walk_at "dgo"
  exact fin_same (q _ (Int.emod_nonneg _ (by omega)) (Int.emod_lt_of_pos _ (by omega)))
def sp_law_folded : DSp := fun ds S Q => ∃ (ns : List Int) (st most : Int), ds = [.rl (ns.map D.int), .int st, .int most] ∧ ns.length ≤ 63 ∧ 0 ≤ st ∧ 0 < most ∧ most < 60 ∧ ∀ zs : List Int, (zs.length : Int) ≤ most → (∀ z ∈ zs, 0 ≤ z ∧ z < 10 ^ 60) → New Q S (zs.map D.int)
def b_law_folded : DS :=
    (sSeq (sAsg (dLst dNil) (gName 3))
    (sSeq (sFor (iRng2 (dCons (dVar 1) (dCons (dB bLen (dCons (dVar 0) dNil)) dNil))) (gName 4) (sIf (dT (dOp oLt (dB bLen (dCons (dVar 3) dNil)) (dVar 2))) (sDrop (dM mAppend (dVar 3) (dCons (dOp oMod (dOp oIx (dVar 0) (dVar 4)) (dC (.int 1000000000000000000000000000000000000000000000000000000000000))) dNil))) (sSeq (sAsg (dOp oAdd (dOp oMul (dOp oIx (dVar 3) (dOp oMod (dVar 4) (dVar 2))) (dC (.int 10007))) (dOp oMod (dOp oIx (dVar 0) (dVar 4)) (dC (.int 1000000000000000000000000000000000000000000000000000000000000)))) (gName 5))
    (sAsg (dOp oMod (dVar 5) (dC (.int 1000000000000000000000000000000000000000000000000000000000000))) (gSub (dVar 3) (dOp oMod (dVar 4) (dVar 2)))))))
    (sRet (dVar 3))))
theorem len_law_folded : ∀ ds So Q, sp_law_folded ds So Q → ds.length = 3 := by rintro ds So Q ⟨_, _, _, rfl, _⟩; rfl
theorem bo_law_folded : BodyOk 6 b_law_folded sp_law_folded := by
  rintro ds S Q ⟨ns, st, most, rfl, hl, hst, h0, h1, q⟩
  unfold b_law_folded
  walk_at "dgo"
  refine ⟨_, _, rfl, ?_⟩
  refine for_by (fun i ρ S' => ∃ zs w1 w2, ρ = [some (.rl (ns.map D.int)), some (.int st), some (.int most), some (.ref S.length), w1, w2] ∧ S' = S ++ [.lst (zs.map D.int)] ∧ (zs.length : Int) ≤ most ∧ ∀ z ∈ zs, 0 ≤ z ∧ z < 10 ^ 60)
    ⟨[], none, none, rfl, rfl, by show (0 : Int) ≤ most; omega, by simp⟩ (fun _ _ _ _ => True.intro) ?_ ?_
  · rintro i d ρ S' hd ⟨zs, w1, w2, rfl, rfl, hz, hb⟩
    obtain ⟨hi, rfl⟩ := upto_at hd
    rw [List.length_map] at hi
    obtain ⟨v, _, av⟩ := at_int (zs := ns) (k := st + i) (by omega) (by omega)
    have hv1 := Int.emod_nonneg v (b := 1000000000000000000000000000000000000000000000000000000000000) (by decide)
    have hv2 := Int.emod_lt_of_pos v (b := 1000000000000000000000000000000000000000000000000000000000000) (by decide)
    walk_at "dgo"
    rw [List.length_map]
    refine r_d (fun g => ?_) (fun g => ?_)
    · walk_at "dgo"
      refine ⟨zs ++ [v % 1000000000000000000000000000000000000000000000000000000000000], _, _, rfl, by rw [List.map_append]; rfl, by rw [List.length_append]; show ((zs.length + 1 : Nat) : Int) ≤ most; omega, fun z hz => ?_⟩
      rcases List.mem_append.mp hz with hz | hz
      · exact hb z hz
      · have : z = v % 1000000000000000000000000000000000000000000000000000000000000 := by simpa using hz
        subst this; exact ⟨hv1, by omega⟩
    · have m1 := Int.emod_nonneg (st + i) (b := most) (by omega)
      have m2 := Int.emod_lt_of_pos (st + i) (b := most) (by omega)
      obtain ⟨u, hu, au⟩ := at_int (zs := zs) (k := (st + i) % most) m1 (by omega)
      have iu := ix_int (zs := zs) (k := (st + i) % most) m1 (by omega)
      walk_at "dgo"
      refine g_sub sto_h0 iu ?_
      walk_at "dgo"
      refine ⟨zs.set _ _, _, _, rfl, by rw [List.map_set], by simpa using hz, fun z hz' => ?_⟩
      rcases mem_setI hz' with h | h
      · exact hb z h
      · subst h
        exact ⟨Int.emod_nonneg _ (by decide), Int.lt_of_lt_of_le (Int.emod_lt_of_pos _ (by decide)) (by decide)⟩
  · rintro ρ S' ⟨zs, w1, w2, rfl, rfl, hz, hb⟩
    walk_at "dgo"
    exact fin_same (q zs hz hb)
def mk (bs : List Bool) (f h : Int) : Bool := decide (f ≤ h) && bs.getD (h - f).toNat false
theorem mk_at {bs : List Bool} {f : Int} {k : Nat} {b : Bool} (h : bs[k]? = some b) : mk bs f (f + k) = b := by
  unfold mk
  rw [decide_eq_true (by omega : f ≤ f + (k : Int)), show (f + (k : Int) - f).toNat = k by omega, List.getD_eq_getElem?_getD, h]
  rfl
theorem mk_in {bs : List Bool} {f h : Int} (e : mk bs f h = true) : ∃ k : Nat, k < bs.length ∧ bs[k]? = some true ∧ h = f + k := by
  unfold mk at e
  rw [Bool.and_eq_true, decide_eq_true_iff] at e
  have hlt : (h - f).toNat < bs.length := by
    rcases Nat.lt_or_ge (h - f).toNat bs.length with g | g
    · exact g
    · rw [List.getD_eq_getElem?_getD, List.getElem?_eq_none g] at e
      cases e.2
  refine ⟨(h - f).toNat, hlt, ?_, by omega⟩
  rw [List.getD_eq_getElem?_getD, List.getElem?_eq_getElem hlt] at e
  rw [List.getElem?_eq_getElem hlt]
  exact congrArg some e.2
theorem mk_bd {bs : List Bool} {f h : Int} (e : mk bs f h = true) : f ≤ h ∧ h < f + bs.length := by
  obtain ⟨k, hk, _, rfl⟩ := mk_in e
  omega
theorem mk_map2 (g : Bool → Bool → Bool) (g0 : g false false = false) {as bs : List Bool} (e : as.length = bs.length) (f h : Int) : mk (List.zipWith g as bs) f h = (decide (f ≤ h) && g (as.getD (h - f).toNat false) (bs.getD (h - f).toNat false)) := by
  unfold mk
  congr 1
  rw [List.getD_eq_getElem?_getD, List.getD_eq_getElem?_getD, List.getD_eq_getElem?_getD, List.getElem?_zipWith]
  rcases Nat.lt_or_ge (h - f).toNat as.length with g' | g'
  · rw [List.getElem?_eq_getElem g', List.getElem?_eq_getElem (by omega)]; rfl
  · rw [List.getElem?_eq_none g', List.getElem?_eq_none (by omega)]; exact g0.symm
theorem sp_few : ∀ {ms : List (Int × Int)} {lo hi : Int}, SpOk ms → lo ≤ hi + 2 → (∀ c ∈ ms, lo ≤ c.1 ∧ c.2 ≤ hi) → 2 * (ms.length : Int) ≤ hi - lo + 2
  | [], lo, hi, _, hl, _ => by simp; omega
  | c :: ms, lo, hi, ok, hl, hb => by
    have hc := hb c List.mem_cons_self
    have hle := ok.le c List.mem_cons_self
    have := sp_few (lo := c.2 + 2) (hi := hi) ok.tail (by omega) fun d hd => ⟨(List.pairwise_cons.mp ok.ap).1 d hd, (hb d (List.mem_cons_of_mem _ hd)).2⟩
    rw [List.length_cons]
    omega
theorem mk_box {ms : List (Int × Int)} {bs : List Bool} {f : Int} (ok : SpOk ms) (hm : ∀ h, ms.any (inS h) = mk bs f h) : ∀ c ∈ ms, f ≤ c.1 ∧ c.2 < f + bs.length := fun c hc => by
  have hle := ok.le c hc
  have h1 := mk_bd (by rw [← hm c.1]; exact any_iff.mpr ⟨c, hc, by omega, by omega⟩)
  have h2 := mk_bd (by rw [← hm c.2]; exact any_iff.mpr ⟨c, hc, by omega, by omega⟩)
  omega
theorem mk_few {ms : List (Int × Int)} {bs : List Bool} {f : Int} (ok : SpOk ms) (hm : ∀ h, ms.any (inS h) = mk bs f h) (hl : bs.length = 40) : ms.length ≤ 20 := by
  have := sp_few (lo := f) (hi := f + 39) ok (by omega) fun c hc => by have := mk_box ok hm c hc; omega
  omega
def sp_law_marks : DSp := fun ds S Q => ∃ (x : D) (zs : List Int) (k : Int), ds = [x, .int k] ∧ Lst S x (zs.map D.int) ∧ zs.length ≤ 40 ∧ 0 ≤ k ∧ k < 1000 ∧ ∀ (c1 c2 : Cell) (bs : List Bool), bs.length = 40 → New Q (S ++ [c1, c2]) (bs.map D.bl)
def b_law_marks : DS :=
    (sRet (dLC 1 [1] (iSeq (dOp oAdd (dVar 0) (dLC 1 [1] (iRng1 (dCons (dOp oSub (dC (.int 40)) (dB bLen (dCons (dVar 0) dNil))) dNil)) (gName 0) dTrue (dVar 1)))) (gName 0) dTrue (dOp oEq (dCall sp_law_mix (dCons (dVar 0) (dCons (dVar 1) (dCons (dC (.int 2)) dNil)))) (dC (.int 1)))))
theorem len_law_marks : ∀ ds So Q, sp_law_marks ds So Q → ds.length = 2 := by rintro ds So Q ⟨_, _, _, rfl, _⟩; rfl
theorem bo_law_marks : BodyOk 2 b_law_marks sp_law_marks := by
  rintro ds S Q ⟨x, zs, k, rfl, hx, hl, k0, k1, q⟩
  unfold b_law_marks
  walk_at "dgo"
  rw [List.length_map]
  refine ⟨_, rfl, by omega, by omega, ?_⟩
  refine lc_pure (fun _ => true) (fun _ => .int k) True.intro ?_ (fun i d ys hd hw => ?_) ?_
  · rw [upto_length]; unfold big; omega
  · obtain ⟨_, rfl⟩ := upto_at hd
    walk_at "dgo"
    exact lcw_y hd hw rfl rfl
  rw [filter_true, map_const, upto_length]
  walk_at "dgo"
  generalize hr : List.replicate ((40 : Int) - (zs.length : Int)).toNat (D.int k) = rs
  have hrl : rs.length = ((40 : Int) - (zs.length : Int)).toNat := by rw [← hr, List.length_replicate]
  refine o_addL (xs := zs.map D.int) (ys := rs) hx.old Lst.at0 (by rw [List.length_map]; unfold big; omega) ?_
  have hus : ∀ d ∈ zs.map D.int ++ rs, ∃ z, d = D.int z := fun d hd => by
    rcases List.mem_append.mp hd with h | h
    · obtain ⟨z, _, rfl⟩ := List.mem_map.mp h; exact ⟨z, rfl⟩
    · rw [← hr] at h; exact ⟨k, (List.mem_replicate.mp h).2⟩
  have hul : (zs.map D.int ++ rs).length = 40 := by rw [List.length_append, List.length_map]; omega
  generalize zs.map D.int ++ rs = us at hus hul
  walk_at "dgo"
  refine ⟨by rw [hul]; unfold big; omega, fun i ys S' => S' = S ++ [.lst rs, .lst us] ∧ ∃ bs : List Bool, ys = bs.map D.bl ∧ bs.length = i, ⟨rfl, [], rfl, rfl⟩, fun i ys S' ⟨e, _⟩ => e ▸ Lst.at rfl, ?_, ?_⟩
  · rintro i d ys S' hd ⟨rfl, bs, rfl, hb⟩
    obtain ⟨z, rfl⟩ := hus d (List.mem_of_getElem? hd)
    walk_at "dgo"
    refine ⟨_, _, _, rfl, k0, k1, by decide, fun v _ _ => ?_⟩
    walk_at "dgo"
    exact ⟨rfl, bs ++ [decide (v = 1)], by rw [List.map_append]; rfl, by simp [hb]⟩
  · rintro ys S' ⟨rfl, bs, rfl, hb⟩
    rw [hul] at hb
    exact fin_same (q _ _ bs hb)
def sp_tidy : DSp := fun ds S Q => ∃ (x : D) (cs : List (Int × Int)), ds = [x] ∧ Seqs S x (cs.map p2) ∧ cs.length ≤ 4000 ∧ (cs.filter lec).length < 64 ∧
  ∀ ms : List (Int × Int), SpOk ms → (∀ h, ms.any (inS h) = cs.any (inS h)) → ms.length ≤ (cs.filter lec).length → Q (.tup (ms.map p2)) S
theorem sorted_low {ss : List (Int × Int)} (srt : ss.Pairwise fun a b => plt2 b a = false) {i : Nat} {c d : Int × Int} (hc : ss[i]? = some c) (hd : d ∈ ss.take i) : d.1 ≤ c.1 := by
  obtain ⟨j, hj, e⟩ := List.mem_iff_getElem.mp hd
  rw [List.length_take] at hj
  rw [List.getElem_take] at e
  have hi := lt_getD hc
  rw [List.getElem?_eq_getElem hi] at hc
  cases hc
  subst e
  exact plt_le (List.pairwise_iff_getElem.mp srt j i (by omega) hi (by omega))
theorem any_take_succ {ss : List (Int × Int)} {i : Nat} {c : Int × Int} (hc : ss[i]? = some c) (h : Int) : (ss.take (i + 1)).any (inS h) = ((ss.take i).any (inS h) || inS h c) := by
  rw [take_snocD hc, List.any_append]; simp
theorem snocX {α : Type} {l : List α} (h : 0 < l.length) : ∃ i x, l = i ++ [x] := by
  have : l ≠ [] := fun e => by rw [e] at h; cases h
  exact ⟨l.dropLast, l.getLast this, (List.dropLast_concat_getLast this).symm⟩
def b_tidy : DS :=
    (sSeq (sAsg (dLst dNil) (gName 1))
    (sSeq (sFor (iSeq (dB bSort (dCons (dLC 1 [] (iSeq (dVar 0)) (gName 0) (dT (dOp oLe (dOp oIx (dVar 0) (dC (.int 0))) (dOp oIx (dVar 0) (dC (.int 1))))) (dTup (dCons (dOp oIx (dVar 0) (dC (.int 0))) (dCons (dOp oIx (dVar 0) (dC (.int 1))) dNil)))) dNil))) (gTup 2 (gCons (gName 2) (gCons (gName 3) gNil))) (sIf (dAnd (dT (dOp oGt (dB bLen (dCons (dVar 1) dNil)) (dC (.int 0)))) (dT (dOp oLe (dVar 2) (dOp oAdd (dOp oIx (dOp oIx (dVar 1) (dUn oNeg (dC (.int 1)))) (dC (.int 1))) (dC (.int 1)))))) (sAsg (dTup (dCons (dOp oIx (dOp oIx (dVar 1) (dUn oNeg (dC (.int 1)))) (dC (.int 0))) (dCons (dB bMax2 (dCons (dOp oIx (dOp oIx (dVar 1) (dUn oNeg (dC (.int 1)))) (dC (.int 1))) (dCons (dVar 3) dNil))) dNil))) (gSub (dVar 1) (dUn oNeg (dC (.int 1))))) (sDrop (dM mAppend (dVar 1) (dCons (dTup (dCons (dVar 2) (dCons (dVar 3) dNil))) dNil)))))
    (sRet (dB bTuple (dCons (dVar 1) dNil)))))
theorem len_tidy : ∀ ds So Q, sp_tidy ds So Q → ds.length = 1 := by rintro ds So Q ⟨_, _, rfl, _⟩; rfl
theorem bo_tidy : BodyOk 4 b_tidy sp_tidy := by
  rintro ds S Q ⟨x, cs, rfl, hx, hcl, hfl, q⟩
  unfold b_tidy
  walk_at "dgo"
  refine i_seqs (xs := cs.map p2) hx.old fun ok hok => ?_
  refine lc_pure (on2B lec) (on2 p2) (by have := hok []; rwa [List.append_nil] at this) ?_ (fun i d ys hd hw => ?_) ?_
  · rw [List.length_map]; unfold big; omega
  · obtain ⟨c, hc, rfl⟩ := get_p2 hd
    walk_at "dgo"
    refine r_d (fun g => ?_) (fun g => ?_)
    · walk_at "dgo"
      exact lcw_y hd hw (decide_eq_true g) rfl
    · walk_at "dgo"
      exact lcw_n hd hw (decide_eq_false g)
  rw [on2B_map, on2_map]
  walk_at "dgo"
  refine b_sortP (cs := cs.filter lec) (Lst.at rfl) hfl fun ss perm srt => ?_
  have hsl : ss.length = (cs.filter lec).length := perm.length_eq
  have hsle : ∀ c ∈ ss, c.1 ≤ c.2 := fun c hc => of_decide_eq_true (List.mem_filter.mp (perm.mem_iff.mp hc)).2
  walk_at "dgo"
  refine for_by (fun i ρ S' => ∃ (ms : List (Int × Int)) (w1 w2 : Option D), ρ = [some x, some (.ref S.length), w1, w2] ∧ S' = S ++ [.lst (ms.map p2), .lst ((cs.filter lec).map p2), .lst (ss.map p2)] ∧ SpOk ms ∧ ms.length ≤ i ∧
    (∀ h, ms.any (inS h) = (ss.take i).any (inS h)) ∧ ∀ m ∈ ms, ∃ d ∈ ss.take i, m.1 = d.1)
    ⟨[], none, none, rfl, rfl, SpOk.nil, Nat.le_refl _, fun h => rfl, by simp⟩ (fun i ρ S' ⟨ms, w1, w2, _, e, _⟩ => e ▸ Lst.at rfl) ?_ ?_
  · rintro i d ρ S' hd ⟨ms, w1, w2, rfl, rfl, ok, hml, hany, hlow⟩
    obtain ⟨c, hc, rfl⟩ := get_p2 hd
    have hil := lt_getD hc
    have hcle := hsle c (List.mem_of_getElem? hc)
    have low : ∀ m ∈ ms, m.1 ≤ c.1 := fun m hm => by
      obtain ⟨d, hd, e⟩ := hlow m hm
      rw [e]
      exact sorted_low srt hc hd
    have hlow' : ∀ m, (∃ d ∈ ss.take i, m = d.1) → ∃ d ∈ ss.take (i + 1), m = d.1 := fun m ⟨d, hd, e⟩ => ⟨d, by rw [take_snocD hc]; exact List.mem_append_left _ hd, e⟩
    have hnew : ∃ d ∈ ss.take (i + 1), c.1 = d.1 := ⟨c, by rw [take_snocD hc]; simp, rfl⟩
    have app : (∀ m ∈ ms, m.2 + 2 ≤ c.1) → ∃ (ms' : List (Int × Int)) (w1 w2 : Option D), ([some x, some (.ref S.length), some (.int c.1), some (.int c.2)] : Rho) = [some x, some (.ref S.length), w1, w2] ∧ S ++ [Cell.lst (ms.map p2 ++ [p2 c]), .lst ((cs.filter lec).map p2), .lst (ss.map p2)] = S ++ [.lst (ms'.map p2), .lst ((cs.filter lec).map p2), .lst (ss.map p2)] ∧ SpOk ms' ∧ ms'.length ≤ i + 1 ∧
        (∀ h, ms'.any (inS h) = (ss.take (i + 1)).any (inS h)) ∧ ∀ m ∈ ms', ∃ d ∈ ss.take (i + 1), m.1 = d.1 := fun ap => by
      refine ⟨ms ++ [c], _, _, rfl, by rw [List.map_append]; rfl, ok.snoc hcle ap, by rw [List.length_append]; exact Nat.succ_le_succ hml, fun h => by rw [List.any_append, hany h, any_take_succ hc]; simp, fun y hy => ?_⟩
      rcases List.mem_append.mp hy with hy | hy
      · exact hlow' _ (hlow y hy)
      · have : y = c := by simpa using hy
        subst this
        exact hnew
    walk_at "dgo"
    rw [List.length_map]
    refine r_d (fun h0 => ?_) (fun h0 => ?_)
    · obtain ⟨ms0, m, rfl⟩ := snocX (l := ms) (by omega)
      have hm1 := low m (by simp)
      have am : atD (List.map p2 (ms0 ++ [m])) (-1) = some (p2 m) := by rw [List.map_append]; exact at_minus
      have im : ixD (List.map p2 (ms0 ++ [m])).length (-1) = some (ms0.map p2).length := by rw [List.map_append]; exact ix_minus
      walk_at "dgo"
      refine r_d (fun h1 => ?_) (fun h1 => ?_)
      · walk_at "dgo"
        refine g_sub sto_h0 im ?_
        walk_at "dgo"
        obtain ⟨ok2, any2⟩ := merge_ok ok hcle hm1 h1
        refine ⟨ms0 ++ [(m.1, max m.2 c.2)], _, _, rfl, ?_, ok2, by rw [List.length_append] at hml ⊢; exact Nat.le_succ_of_le hml, fun h => by rw [any2 h, hany h, any_take_succ hc], fun y hy => ?_⟩
        · rw [List.map_append, List.map_append, List.set_append_right _ _ (Nat.le_refl _), Nat.sub_self]; rfl
        · rcases List.mem_append.mp hy with hy | hy
          · exact hlow' _ (hlow y (List.mem_append_left _ hy))
          · have : y = (m.1, max m.2 c.2) := by simpa using hy
            subst this
            exact hlow' _ (hlow m (by simp))
      · walk_at "dgo"
        obtain ⟨ok0, hmle, hap⟩ := ok.init
        exact app fun y hy => by
          rcases List.mem_append.mp hy with hy | hy
          · have := hap y hy
            omega
          · have : y = m := by simpa using hy
            subst this
            omega
    · have em : ms = [] := List.length_eq_zero_iff.mp (by omega)
      walk_at "dgo"
      exact app (by rw [em]; simp)
  · rintro ρ S' ⟨ms, w1, w2, rfl, rfl, ok, hml, hany, hlow⟩
    rw [List.length_map] at hml hany
    walk_at "dgo"
    exact fin_pure (fl_p2 ms) (q ms ok (fun h => by rw [hany h, List.take_length, any_perm perm, show cs.filter lec = cs.filter (fun c => decide (c.1 ≤ c.2)) from rfl, any_filter]) (by omega))
theorem mk_succ {bs : List Bool} {f : Int} {i : Nat} {b : Bool} (e : bs[i]? = some b) (h : Int) : mk (bs.take (i + 1)) f h = (mk (bs.take i) f h || (b && decide (h = f + i))) := by
  have hi : i < bs.length := (List.getElem?_eq_some_iff.mp e).1
  unfold mk
  rw [List.getD_eq_getElem?_getD, List.getD_eq_getElem?_getD, take_snocD e, List.getElem?_append]
  by_cases hf : f ≤ h
  · rw [decide_eq_true hf]
    by_cases he : h = f + i
    · subst he
      rw [show (f + (i : Int) - f).toNat = i by omega, decide_eq_true rfl, if_neg (by rw [List.length_take]; omega), List.length_take, show min i bs.length = i by omega, Nat.sub_self, List.getElem?_eq_none (l := bs.take i) (by rw [List.length_take]; omega)]
      simp
    · rw [decide_eq_false he]
      split
      · simp
      · rename_i g
        rw [List.length_take] at g
        rw [List.getElem?_eq_none (l := bs.take i) (by rw [List.length_take]; omega), List.getElem?_eq_none (l := [b]) (by rw [List.length_take]; simp; omega)]
        simp
  · rw [decide_eq_false hf, decide_eq_false (by omega : ¬ h = f + i)]
    simp
theorem get_bl {bs : List Bool} {i : Nat} {d : D} (h : (bs.map D.bl)[i]? = some d) : ∃ b, bs[i]? = some b ∧ d = .bl b := by
  rw [List.getElem?_map] at h
  cases e : bs[i]? with
  | none => rw [e] at h; cases h
  | some b => rw [e] at h; exact ⟨b, rfl, by simpa using h.symm⟩
theorem at_bl {bs : List Bool} {i : Nat} {b : Bool} (h : bs[i]? = some b) : atD (bs.map D.bl) (i : Int) = some (.bl b) := at_nat (by rw [List.getElem?_map, h]; rfl)
def sp_law_runs : DSp := fun ds S Q => ∃ (x : D) (bs : List Bool) (f : Int), ds = [x, .int f] ∧ Lst S x (bs.map D.bl) ∧ bs.length = 40 ∧ ∀ ms : List (Int × Int), SpOk ms → (∀ h, ms.any (inS h) = mk bs f h) → Q (.tup (ms.map p2)) S
def b_law_runs : DS :=
    (sSeq (sAsg (dLst dNil) (gName 2))
    (sSeq (sFor (iRng1 (dCons (dB bLen (dCons (dVar 0) dNil)) dNil)) (gName 3) (sIf (dT (dOp oIx (dVar 0) (dVar 3))) (sIf (dAnd (dT (dOp oGt (dVar 3) (dC (.int 0)))) (dT (dOp oIx (dVar 0) (dOp oSub (dVar 3) (dC (.int 1)))))) (sAsg (dTup (dCons (dOp oIx (dOp oIx (dVar 2) (dUn oNeg (dC (.int 1)))) (dC (.int 0))) (dCons (dOp oAdd (dVar 1) (dVar 3)) dNil))) (gSub (dVar 2) (dUn oNeg (dC (.int 1))))) (sDrop (dM mAppend (dVar 2) (dCons (dTup (dCons (dOp oAdd (dVar 1) (dVar 3)) (dCons (dOp oAdd (dVar 1) (dVar 3)) dNil))) dNil)))) sNext))
    (sRet (dB bTuple (dCons (dVar 2) dNil)))))
theorem len_law_runs : ∀ ds So Q, sp_law_runs ds So Q → ds.length = 2 := by rintro ds So Q ⟨_, _, _, rfl, _⟩; rfl
theorem bo_law_runs : BodyOk 4 b_law_runs sp_law_runs := by
  rintro ds S Q ⟨x, bs, f, rfl, hx, hl, q⟩
  unfold b_law_runs
  walk_at "dgo"
  rw [List.length_map, hl]
  refine ⟨_, rfl, by decide, by decide, ?_⟩
  refine for_by (fun i ρ S' => ∃ (ms : List (Int × Int)) (w1 : Option D), ρ = [some x, some (.int f), some (.ref S.length), w1] ∧ S' = S ++ [.lst (ms.map p2)] ∧ SpOk ms ∧ ms.length ≤ i ∧ (∀ h, ms.any (inS h) = mk (bs.take i) f h) ∧ (∀ j : Nat, i = j + 1 → bs[j]? = some true → ∃ ms0 a, ms = ms0 ++ [(a, f + j)]))
    ⟨[], none, rfl, rfl, SpOk.nil, Nat.le_refl _, fun h => by unfold mk; simp, fun j e => by omega⟩ (fun _ _ _ _ => True.intro) ?_ ?_
  · rintro i d ρ S' hd ⟨ms, w1, rfl, rfl, ok, hml, hany, hlast⟩
    obtain ⟨hi, rfl⟩ := upto_at hd
    have hi : i < 40 := hi
    have hb : bs[i]? = some bs[i] := List.getElem?_eq_getElem (by omega)
    generalize bs[i] = b at hb
    have ab := at_bl hb
    rw [show (0 + (i : Int)) = (i : Int) by omega]
    walk_at "dgo"
    cases b with
    | false =>
      walk_at "dgo"
      exact ⟨ms, _, rfl, rfl, ok, by omega, fun h => by rw [hany h, mk_succ hb]; simp, fun j e hj => absurd hj (by rw [show j = i by omega, hb]; simp)⟩
    | true =>
      have apnd : (∀ m ∈ ms, m.2 + 2 ≤ f + i) → ∃ (ms' : List (Int × Int)) (w1 : Option D), ([some x, some (.int f), some (.ref S.length), some (.int i)] : Rho) = [some x, some (.int f), some (.ref S.length), w1] ∧ S ++ [Cell.lst (ms.map p2 ++ [.tup [.int (f + i), .int (f + i)]])] = S ++ [.lst (ms'.map p2)] ∧ SpOk ms' ∧ ms'.length ≤ i + 1 ∧ (∀ h, ms'.any (inS h) = mk (bs.take (i + 1)) f h) ∧ (∀ j : Nat, i + 1 = j + 1 → bs[j]? = some true → ∃ ms0 a, ms' = ms0 ++ [(a, f + j)]) := fun ap => by
        refine ⟨ms ++ [(f + i, f + i)], _, rfl, by rw [List.map_append]; rfl, ok.snoc (Int.le_refl _) ap, by rw [List.length_append]; exact Nat.succ_le_succ hml, fun h => ?_, fun j e hj => ⟨ms, f + i, (by rw [show j = i by omega])⟩⟩
        rw [List.any_append, hany h, mk_succ hb]
        congr 1
        rw [List.any_cons, List.any_nil, Bool.or_false, Bool.true_and, Bool.eq_iff_iff, inS_iff, decide_eq_true_iff]
        exact ⟨fun g => by omega, fun g => by subst g; exact ⟨Int.le_refl _, Int.le_refl _⟩⟩
      walk_at "dgo"
      refine r_d (fun h0 => ?_) (fun h0 => ?_)
      · obtain ⟨j, rfl⟩ : ∃ j : Nat, i = j + 1 := ⟨i - 1, by omega⟩
        have hc : bs[j]? = some bs[j] := List.getElem?_eq_getElem (by omega)
        generalize bs[j] = c at hc
        have ac : atD (bs.map D.bl) (((j + 1 : Nat) : Int) - 1) = some (.bl c) := by rw [show ((j + 1 : Nat) : Int) - 1 = (j : Int) by omega]; exact at_bl hc
        walk_at "dgo"
        cases c with
        | true =>
          obtain ⟨ms0, a, rfl⟩ := hlast j rfl hc
          have am : atD (List.map p2 (ms0 ++ [(a, f + (j : Int))])) (-1) = some (p2 (a, f + j)) := by rw [List.map_append]; exact at_minus
          have im : ixD (List.map p2 (ms0 ++ [(a, f + (j : Int))])).length (-1) = some (ms0.map p2).length := by rw [List.map_append]; exact ix_minus
          walk_at "dgo"
          refine g_sub sto_h0 im ?_
          walk_at "dgo"
          obtain ⟨ok0, hle, hap⟩ := ok.init
          have hle : a ≤ f + j := hle
          refine ⟨ms0 ++ [(a, f + (j + 1 : Nat))], _, rfl, ?_, ok0.snoc (by show a ≤ _; omega) hap, by rw [List.length_append] at hml ⊢; exact Nat.le_succ_of_le hml, fun h => ?_, fun j' e hj => ⟨ms0, a, (by rw [show j' = j + 1 by omega])⟩⟩
          · rw [List.map_append, List.map_append, List.set_append_right _ _ (Nat.le_refl _), Nat.sub_self]; rfl
          · have := hany h
            rw [List.any_append] at this
            rw [List.any_append, mk_succ hb, ← this, Bool.or_assoc]
            congr 1
            rw [List.any_cons, List.any_nil, Bool.or_false, List.any_cons, List.any_nil, Bool.or_false, Bool.true_and, Bool.eq_iff_iff, Bool.or_eq_true, inS_iff, inS_iff, decide_eq_true_iff]
            show a ≤ h ∧ h ≤ f + (j + 1 : Nat) ↔ (a ≤ h ∧ h ≤ f + j) ∨ h = f + (j + 1 : Nat)
            omega
        | false =>
          walk_at "dgo"
          refine apnd fun m hm => ?_
          have hle := ok.le m hm
          have hm2 : mk (bs.take (j + 1)) f m.2 = true := by rw [← hany m.2]; exact any_iff.mpr ⟨m, hm, hle, Int.le_refl _⟩
          rw [mk_succ hc, Bool.false_and, Bool.or_false] at hm2
          have := (mk_bd hm2).2
          rw [List.length_take] at this
          omega
      · have e0 : i = 0 := by omega
        subst e0
        have em : ms = [] := List.length_eq_zero_iff.mp (by omega)
        walk_at "dgo"
        exact apnd (by rw [em]; simp)
  · rintro ρ S' ⟨ms, w1, rfl, rfl, ok, hml, hany, hlast⟩
    rw [upto_length] at hany
    walk_at "dgo"
    exact fin_pure (fl_p2 ms) (q ms ok fun h => by rw [hany h, List.take_of_length_le (by rw [hl]; decide)])
def sp_both : DSp := fun ds S Q => ∃ (as bs : List (Int × Int)), ds = [.tup (as.map p2), .tup (bs.map p2)] ∧ SpOk as ∧ SpOk bs ∧ as.length + bs.length < 64 ∧
  ∀ ms : List (Int × Int), SpOk ms → (∀ h, ms.any (inS h) = (as.any (inS h) && bs.any (inS h))) → ms.length ≤ as.length + bs.length → Q (.tup (ms.map p2)) S
def b_both : DS :=
    (sSeq (sAsg (dLst dNil) (gName 2))
    (sSeq (sFor (iSeq (dVar 0)) (gTup 2 (gCons (gName 3) (gCons (gName 4) gNil))) (sFor (iSeq (dVar 1)) (gTup 2 (gCons (gName 5) (gCons (gName 6) gNil))) (sDrop (dM mAppend (dVar 2) (dCons (dTup (dCons (dB bMax2 (dCons (dVar 3) (dCons (dVar 5) dNil))) (dCons (dB bMin2 (dCons (dVar 4) (dCons (dVar 6) dNil))) dNil))) dNil)))))
    (sRet (dCall sp_tidy (dCons (dVar 2) dNil)))))
theorem len_both : ∀ ds So Q, sp_both ds So Q → ds.length = 2 := by rintro ds So Q ⟨_, _, rfl, _⟩; rfl
theorem bo_both : BodyOk 7 b_both sp_both := by
  rintro ds S Q ⟨as, bs, rfl, oka, okb, hlen, q⟩
  unfold b_both
  have hmul : as.length * bs.length ≤ 3969 := Nat.le_trans (Nat.mul_le_mul (show as.length ≤ 63 by omega) (show bs.length ≤ 63 by omega)) (by decide)
  walk_at "dgo"
  refine for_by (fun i ρ S' => ∃ (w1 w2 w3 w4 : Option D), ρ = [some (.tup (as.map p2)), some (.tup (bs.map p2)), some (.ref S.length), w1, w2, w3, w4] ∧ S' = S ++ [.lst ((meets2 (as.take i) bs).map p2)]) ⟨none, none, none, none, rfl, rfl⟩ (fun _ _ _ _ => True.intro) ?_ ?_
  · rintro i d ρ S' hd ⟨w1, w2, w3, w4, rfl, rfl⟩
    obtain ⟨a, ha, rfl⟩ := get_p2 hd
    have hi := lt_getD ha
    walk_at "dgo"
    refine for_by (fun j ρ S' => ∃ (w3 w4 : Option D), ρ = [some (.tup (as.map p2)), some (.tup (bs.map p2)), some (.ref S.length), some (.int a.1), some (.int a.2), w3, w4] ∧ S' = S ++ [.lst ((meets2 (as.take i) bs ++ (bs.take j).map (meetC a)).map p2)]) ⟨w3, w4, rfl, by simp⟩ (fun _ _ _ _ => True.intro) ?_ ?_
    · rintro j d ρ S' hd ⟨w3, w4, rfl, rfl⟩
      obtain ⟨b, hb, rfl⟩ := get_p2 hd
      have hj := lt_getD hb
      have hlim : (List.map p2 (meets2 (as.take i) bs ++ (bs.take j).map (meetC a))).length < big := by
        rw [List.length_map, List.length_append, meets2_len, List.length_map, List.length_take, List.length_take]
        have : min i as.length * bs.length ≤ as.length * bs.length := Nat.mul_le_mul (Nat.min_le_right _ _) (Nat.le_refl _)
        unfold big; omega
      walk_at "dgo"
      refine ⟨_, _, rfl, ?_⟩
      have e : meets2 (as.take i) bs ++ (bs.take (j + 1)).map (meetC a) = meets2 (as.take i) bs ++ (bs.take j).map (meetC a) ++ [meetC a b] := by
        rw [take_snocD hb, List.map_append, ← List.append_assoc]; rfl
      rw [e, List.map_append (l₂ := [meetC a b])]
      rfl
    · rintro ρ S' ⟨w3, w4, rfl, rfl⟩
      refine ⟨_, _, _, _, rfl, ?_⟩
      rw [List.length_map, List.take_length, meets2_snoc ha]
  · rintro ρ S' ⟨w1, w2, w3, w4, rfl, rfl⟩
    rw [List.length_map, List.take_length]
    have hf : ((meets2 as bs).filter lec).length ≤ as.length + bs.length := few_meet oka okb
    walk_at "dgo"
    refine ⟨_, meets2 as bs, rfl, .inr Lst.at0, by rw [meets2_len]; omega, by omega, fun ms ok hany hml => ?_⟩
    exact fin_pure (fl_p2 ms) (q ms ok (fun h => by rw [hany h, any_meets2]) (by omega))
def sp_either : DSp := fun ds S Q => ∃ (as bs : List (Int × Int)), ds = [.tup (as.map p2), .tup (bs.map p2)] ∧ as.length + bs.length < 64 ∧
  ∀ ms : List (Int × Int), SpOk ms → (∀ h, ms.any (inS h) = (as.any (inS h) || bs.any (inS h))) → ms.length ≤ as.length + bs.length → Q (.tup (ms.map p2)) S
def b_either : DS :=
    (sRet (dCall sp_tidy (dCons (dOp oAdd (dVar 0) (dVar 1)) dNil)))
theorem len_either : ∀ ds So Q, sp_either ds So Q → ds.length = 2 := by rintro ds So Q ⟨_, _, rfl, _⟩; rfl
theorem bo_either : BodyOk 2 b_either sp_either := by
  rintro ds S Q ⟨as, bs, rfl, hlen, q⟩
  unfold b_either
  have hf := List.length_filter_le lec (as ++ bs)
  rw [List.length_append] at hf
  walk_at "dgo"
  refine o_addT (by rw [List.length_map, List.length_map]; unfold big; omega) ?_
  rw [← List.map_append]
  walk_at "dgo"
  refine ⟨_, as ++ bs, rfl, .inl rfl, by rw [List.length_append]; omega, by omega, fun ms ok hany hml => ?_⟩
  exact fin_same (q ms ok (fun h => by rw [hany h, List.any_append]) (by omega))
def sp_gaps : DSp := fun ds S Q => ∃ (cs : List (Int × Int)) (lo hi : Int), ds = [.tup (cs.map p2), .int lo, .int hi] ∧ SpOk cs ∧ cs.length < 63 ∧
  ∀ ms : List (Int × Int), SpOk ms → (∀ h, lo ≤ h → h ≤ hi → ms.any (inS h) = !(cs.any (inS h))) → ms.length ≤ cs.length + 1 → Q (.tup (ms.map p2)) S
def b_gaps : DS :=
    (sSeq (sAsg (dLst dNil) (gName 3))
    (sSeq (sAsg (dVar 1) (gName 4))
    (sSeq (sFor (iSeq (dVar 0)) (gName 5) (sSeq (sDrop (dM mAppend (dVar 3) (dCons (dTup (dCons (dVar 4) (dCons (dOp oSub (dOp oIx (dVar 5) (dC (.int 0))) (dC (.int 1))) dNil))) dNil)))
    (sAsg (dOp oAdd (dOp oIx (dVar 5) (dC (.int 1))) (dC (.int 1))) (gName 4))))
    (sSeq (sDrop (dM mAppend (dVar 3) (dCons (dTup (dCons (dVar 4) (dCons (dVar 2) dNil))) dNil)))
    (sRet (dCall sp_tidy (dCons (dVar 3) dNil)))))))
theorem len_gaps : ∀ ds So Q, sp_gaps ds So Q → ds.length = 3 := by rintro ds So Q ⟨_, _, _, rfl, _⟩; rfl
theorem bo_gaps : BodyOk 6 b_gaps sp_gaps := by
  rintro ds S Q ⟨cs, lo, hi, rfl, ok, h31, q⟩
  unfold b_gaps
  walk_at "dgo"
  refine for_by (fun i ρ S' => ∃ (w : Option D), ρ = [some (.tup (cs.map p2)), some (.int lo), some (.int hi), some (.ref S.length), some (.int (gapsM lo (cs.take i)).2), w] ∧ S' = S ++ [.lst ((gapsM lo (cs.take i)).1.map p2)]) ⟨none, rfl, rfl⟩ (fun _ _ _ _ => True.intro) ?_ ?_
  · rintro i d ρ S' hd ⟨w, rfl, rfl⟩
    obtain ⟨c, hc, rfl⟩ := get_p2 hd
    have hi' := lt_getD hc
    have hlim : (List.map p2 (gapsM lo (cs.take i)).1).length < big := by
      rw [List.length_map, gapsM_len, List.length_take]; unfold big; omega
    walk_at "dgo"
    refine ⟨some (p2 c), ?_, ?_⟩
    · rw [take_snocD hc, gapsM_snoc]; rfl
    · rw [take_snocD hc, gapsM_snoc, List.map_append]; rfl
  · rintro ρ S' ⟨w, rfl, rfl⟩
    rw [List.length_map, List.take_length]
    have hlim : (List.map p2 (gapsM lo cs).1).length < big := by
      rw [List.length_map, gapsM_len]; unfold big; omega
    have hf := List.length_filter_le lec ((gapsM lo cs).1 ++ [((gapsM lo cs).2, hi)])
    rw [List.length_append, gapsM_len] at hf
    have hf : ((((gapsM lo cs).1 ++ [((gapsM lo cs).2, hi)])).filter lec).length ≤ cs.length + 1 := hf
    walk_at "dgo"
    refine ⟨_, (gapsM lo cs).1 ++ [((gapsM lo cs).2, hi)], rfl, .inr (by rw [List.map_append]; exact Lst.at0), by rw [List.length_append, gapsM_len]; show cs.length + 1 ≤ 4000; omega, by omega, fun ms okm hany hml => ?_⟩
    refine fin_pure (fl_p2 ms) (q ms okm (fun h h0 h1 => ?_) (by omega))
    rw [hany h, Bool.eq_iff_iff, gapsM_in h1 lo ok h0 (fun _ _ _ => trivial), ← any_iff]
    cases cs.any (inS h) <;> simp
def sp_without : DSp := fun ds S Q => ∃ (as bs : List (Int × Int)), ds = [.tup (as.map p2), .tup (bs.map p2)] ∧ SpOk as ∧ SpOk bs ∧ as.length + bs.length < 63 ∧
  ∀ ms : List (Int × Int), SpOk ms → (∀ h, ms.any (inS h) = (as.any (inS h) && !(bs.any (inS h)))) → ms.length ≤ as.length + bs.length + 1 → Q (.tup (ms.map p2)) S
def b_without : DS :=
    (sSeq (sIf (dT (dOp oEq (dB bLen (dCons (dVar 0) dNil)) (dC (.int 0)))) (sRet (dTup dNil)) sNext)
    (sRet (dCall sp_both (dCons (dVar 0) (dCons (dCall sp_gaps (dCons (dVar 1) (dCons (dOp oIx (dOp oIx (dVar 0) (dC (.int 0))) (dC (.int 0))) (dCons (dOp oIx (dOp oIx (dVar 0) (dUn oNeg (dC (.int 1)))) (dC (.int 1))) dNil)))) dNil)))))
theorem len_without : ∀ ds So Q, sp_without ds So Q → ds.length = 2 := by rintro ds So Q ⟨_, _, rfl, _⟩; rfl
theorem bo_without : BodyOk 2 b_without sp_without := by
  rintro ds S Q ⟨as, bs, rfl, oka, okb, hlen, q⟩
  unfold b_without
  walk_at "dgo"
  rw [List.length_map]
  refine r_d (fun g => ?_) (fun g => ?_)
  · have ea : as = [] := List.length_eq_zero_iff.mp (by omega)
    subst ea
    walk_at "dgo"
    exact fin_same (q [] SpOk.nil (fun h => rfl) (by simp))
  · obtain ⟨c, as', rfl⟩ : ∃ c as', as = c :: as' := by
      cases as with
      | nil => exact absurd (by simp) g
      | cons c as' => exact ⟨c, as', rfl⟩
    obtain ⟨ms0, m, em⟩ := snocX (l := c :: as') (by simp)
    have a0 : atD (List.map p2 (c :: as')) 0 = some (p2 c) := at_nat (i := 0) rfl
    have am : atD (List.map p2 (c :: as')) (-1) = some (p2 m) := by rw [em, List.map_append]; exact at_minus
    walk_at "dgo"
    refine ⟨bs, c.1, m.2, rfl, okb, by omega, fun gs okg hg hgl => ?_⟩
    walk_at "dgo"
    refine ⟨c :: as', gs, rfl, oka, okg, by omega, fun ms ok hany hml => ?_⟩
    refine fin_same (q ms ok (fun h => ?_) (by omega))
    rw [hany h]
    cases hA : (c :: as').any (inS h) with
    | false => rfl
    | true =>
      obtain ⟨x, hx, x1, x2⟩ := any_iff.mp hA
      have lo : c.1 ≤ h := by
        rcases List.mem_cons.mp hx with rfl | hx
        · exact x1
        · have := (List.pairwise_cons.mp oka.ap).1 x hx
          have := oka.le c (by simp)
          omega
      have hi : h ≤ m.2 := by
        rw [em] at hx oka
        obtain ⟨_, hm, hap⟩ := oka.init
        rcases List.mem_append.mp hx with hx | hx
        · have := hap x hx
          omega
        · have : x = m := by simpa using hx
          subst this
          exact x2
      rw [hg h lo hi]
def sp_holds : DSp := fun ds S Q => ∃ (cs : List (Int × Int)) (h : Int), ds = [.tup (cs.map p2), .int h] ∧ cs.length ≤ 400 ∧ Q (.bl (cs.any (inS h))) S
def b_holds : DS :=
    (sRet (dB bAny (dCons (dLC 2 [1] (iSeq (dVar 0)) (gTup 2 (gCons (gName 0) (gCons (gName 1) gNil))) dTrue (dChain oLe oLe (dVar 0) (dVar 2) (dVar 1))) dNil)))
theorem len_holds : ∀ ds So Q, sp_holds ds So Q → ds.length = 2 := by rintro ds So Q ⟨_, _, rfl, _⟩; rfl
theorem bo_holds : BodyOk 2 b_holds sp_holds := by
  rintro ds S Q ⟨cs, h, rfl, h4, q⟩
  unfold b_holds
  walk_at "dgo"
  refine lc_pure (fun _ => true) (on2 fun c => .bl (inS h c)) True.intro ?_ (fun i d ys hd hw => ?_) ?_
  · rw [List.length_map]; unfold big; omega
  · obtain ⟨c, hc, rfl⟩ := get_p2 hd
    walk_at "dgo"
    refine r_d (fun g => ?_) (fun g => ?_)
    · walk_at "dgo"
      exact lcw_y hd hw rfl (by show _ = D.bl (inS h c); unfold inS; rw [decide_eq_true g]; rfl)
    · walk_at "dgo"
      exact lcw_y hd hw rfl (by show _ = D.bl (inS h c); unfold inS; rw [decide_eq_false g]; rfl)
  rw [filter_true, on2_map, show (cs.map fun c => D.bl (inS h c)) = (cs.map (inS h)).map D.bl by rw [List.map_map]; rfl]
  walk_at "dgo"
  refine b_anyE (bs := cs.map (inS h)) (b := cs.any (inS h)) Lst.at0 (by rw [List.any_map]; rfl) ?_
  exact fin_pure rfl q
def sp_first_from : DSp := fun ds S Q => ∃ (ms : List (Int × Int)) (h : Int), ds = [.tup (ms.map p2), .int h] ∧ Q (optD (firstF ms h)) S
def b_first_from : DS :=
    (sSeq (sFor (iSeq (dVar 0)) (gTup 2 (gCons (gName 2) (gCons (gName 3) gNil))) (sIf (dT (dOp oLe (dVar 1) (dVar 3))) (sRet (dB bMax2 (dCons (dVar 2) (dCons (dVar 1) dNil)))) sNext))
    (sRet (dC .non)))
theorem len_first_from : ∀ ds So Q, sp_first_from ds So Q → ds.length = 2 := by rintro ds So Q ⟨_, _, rfl, _⟩; rfl
theorem bo_first_from : BodyOk 4 b_first_from sp_first_from := by
  rintro ds S Q ⟨ms, h, rfl, q⟩
  unfold b_first_from
  walk_at "dgo"
  refine for_by (fun i ρ S' => ∃ w1 w2, ρ = [some (.tup (ms.map p2)), some (.int h), w1, w2] ∧ S' = S ∧ firstF ms h = firstF (ms.drop i) h) ⟨none, none, rfl, rfl, rfl⟩ (fun _ _ _ _ => True.intro) ?_ ?_
  · rintro i d ρ S' hd ⟨w1, w2, rfl, rfl, e⟩
    obtain ⟨c, hc, rfl⟩ := get_p2 hd
    have hi := lt_getD hc
    have ed : ms.drop i = c :: ms.drop (i + 1) := by
      rw [List.drop_eq_getElem_cons hi]
      rw [List.getElem?_eq_getElem hi] at hc
      cases hc; rfl
    rw [ed] at e
    walk_at "dgo"
    refine r_d (fun g => ?_) (fun g => ?_)
    · walk_at "dgo"
      have e2 : firstF ms h = some (max c.1 h) := by rw [e]; unfold firstF; rw [if_pos g]
      rw [e2] at q
      exact fin_same q
    · walk_at "dgo"
      refine ⟨_, _, rfl, rfl, ?_⟩
      rw [e]
      show (if h ≤ c.2 then _ else _) = _
      rw [if_neg g]
  · rintro ρ S' ⟨w1, w2, rfl, rfl, e⟩
    rw [List.length_map, List.drop_length] at e
    rw [e] at q
    walk_at "dgo"
    exact fin_same q
def sp_last_to : DSp := fun ds S Q => ∃ (ms : List (Int × Int)) (h : Int), ds = [.tup (ms.map p2), .int h] ∧ Q (optD (lastF ms.reverse h)) S
def b_last_to : DS :=
    (sSeq (sFor (iRev (dCons (dVar 0) dNil)) (gTup 2 (gCons (gName 2) (gCons (gName 3) gNil))) (sIf (dT (dOp oLe (dVar 2) (dVar 1))) (sRet (dB bMin2 (dCons (dVar 3) (dCons (dVar 1) dNil)))) sNext))
    (sRet (dC .non)))
theorem len_last_to : ∀ ds So Q, sp_last_to ds So Q → ds.length = 2 := by rintro ds So Q ⟨_, _, rfl, _⟩; rfl
theorem bo_last_to : BodyOk 4 b_last_to sp_last_to := by
  rintro ds S Q ⟨ms, h, rfl, q⟩
  unfold b_last_to
  walk_at "dgo"
  rw [← List.map_reverse]
  generalize ms.reverse = rs at q ⊢
  refine for_by (fun i ρ S' => ∃ w1 w2, ρ = [some (.tup (ms.map p2)), some (.int h), w1, w2] ∧ S' = S ∧ lastF rs h = lastF (rs.drop i) h) ⟨none, none, rfl, rfl, rfl⟩ (fun _ _ _ _ => True.intro) ?_ ?_
  · rintro i d ρ S' hd ⟨w1, w2, rfl, rfl, e⟩
    obtain ⟨c, hc, rfl⟩ := get_p2 hd
    have hi := lt_getD hc
    have ed : rs.drop i = c :: rs.drop (i + 1) := by
      rw [List.drop_eq_getElem_cons hi]
      rw [List.getElem?_eq_getElem hi] at hc
      cases hc; rfl
    rw [ed] at e
    walk_at "dgo"
    refine r_d (fun g => ?_) (fun g => ?_)
    · walk_at "dgo"
      have e2 : lastF rs h = some (min c.2 h) := by rw [e]; unfold lastF; rw [if_pos g]
      rw [e2] at q
      exact fin_same q
    · walk_at "dgo"
      refine ⟨_, _, rfl, rfl, ?_⟩
      rw [e]
      show (if c.1 ≤ h then _ else _) = _
      rw [if_neg g]
  · rintro ρ S' ⟨w1, w2, rfl, rfl, e⟩
    rw [List.length_map, List.drop_length] at e
    rw [e] at q
    walk_at "dgo"
    exact fin_same q
def sp_many : DSp := fun ds S Q => ∃ (cs : List (Int × Int)), ds = [.tup (cs.map p2)] ∧ cs.length ≤ 400 ∧ Q (.int (cnt cs)) S
def b_many : DS :=
    (sRet (dB bSum (dCons (dLC 2 [] (iSeq (dVar 0)) (gTup 2 (gCons (gName 0) (gCons (gName 1) gNil))) dTrue (dOp oAdd (dOp oSub (dVar 1) (dVar 0)) (dC (.int 1)))) dNil)))
theorem len_many : ∀ ds So Q, sp_many ds So Q → ds.length = 1 := by rintro ds So Q ⟨_, rfl, _⟩; rfl
theorem bo_many : BodyOk 1 b_many sp_many := by
  rintro ds S Q ⟨cs, rfl, h4, q⟩
  unfold b_many
  walk_at "dgo"
  refine lc_pure (fun _ => true) (on2 fun c => .int (c.2 - c.1 + 1)) True.intro ?_ (fun i d ys hd hw => ?_) ?_
  · rw [List.length_map]; unfold big; omega
  · obtain ⟨c, hc, rfl⟩ := get_p2 hd
    walk_at "dgo"
    exact lcw_y hd hw rfl rfl
  rw [filter_true, on2_map, show (cs.map fun c => D.int (c.2 - c.1 + 1)) = (cs.map fun c => c.2 - c.1 + 1).map D.int by rw [List.map_map]; rfl]
  walk_at "dgo"
  refine b_sum (ns := cs.map fun c => c.2 - c.1 + 1) Lst.at0 ?_
  exact fin_pure rfl q
theorem first_char {ms : List (Int × Int)} {h m : Int} (ok : SpOk ms) (hm : ms.any (inS m) = true) (h0 : h ≤ m) (hle : ∀ a, h ≤ a → ms.any (inS a) = true → m ≤ a) : firstF ms h = some m := by
  have key : ∀ a ∈ laterL ms h, m ≤ a := fun a ha => by
    unfold laterL at ha
    obtain ⟨c, hc, rfl⟩ := List.mem_map.mp ha
    obtain ⟨hc, g⟩ := List.mem_filter.mp hc
    have g : h ≤ c.2 := of_decide_eq_true g
    have := ok.le c hc
    exact hle _ (by omega) (any_iff.mpr ⟨c, hc, by omega, by omega⟩)
  refine first_min ok ?_ key
  obtain ⟨c, hc, c1, c2⟩ := any_iff.mp hm
  have hin : max c.1 h ∈ laterL ms h := by
    unfold laterL
    exact List.mem_map.mpr ⟨c, List.mem_filter.mpr ⟨hc, decide_eq_true (by omega)⟩, rfl⟩
  have := key _ hin
  have e : max c.1 h = m := by omega
  rw [← e]; exact hin
theorem first_nil {ms : List (Int × Int)} {h : Int} (ok : SpOk ms) (hno : ∀ a, h ≤ a → ¬ ms.any (inS a) = true) : firstF ms h = none := by
  refine first_none ?_
  unfold laterL
  rw [List.map_eq_nil_iff, List.filter_eq_nil_iff]
  intro c hc g
  have g : h ≤ c.2 := of_decide_eq_true g
  exact hno c.2 g (any_iff.mpr ⟨c, hc, ok.le c hc, Int.le_refl _⟩)
theorem last_char {ms : List (Int × Int)} {h m : Int} (ok : SpOk ms) (hm : ms.any (inS m) = true) (h0 : m ≤ h) (hle : ∀ a, a ≤ h → ms.any (inS a) = true → a ≤ m) : lastF ms.reverse h = some m := by
  have key : ∀ a ∈ soonerL ms h, a ≤ m := fun a ha => by
    unfold soonerL at ha
    obtain ⟨c, hc, rfl⟩ := List.mem_map.mp ha
    obtain ⟨hc, g⟩ := List.mem_filter.mp hc
    have g : c.1 ≤ h := of_decide_eq_true g
    have := ok.le c hc
    exact hle _ (by omega) (any_iff.mpr ⟨c, hc, by omega, by omega⟩)
  refine sooner_max ok ?_ key
  obtain ⟨c, hc, c1, c2⟩ := any_iff.mp hm
  have hin : min c.2 h ∈ soonerL ms h := by
    unfold soonerL
    exact List.mem_map.mpr ⟨c, List.mem_filter.mpr ⟨hc, decide_eq_true (by omega)⟩, rfl⟩
  have := key _ hin
  have e : min c.2 h = m := by omega
  rw [← e]; exact hin
theorem last_nil {ms : List (Int × Int)} {h : Int} (ok : SpOk ms) (hno : ∀ a, a ≤ h → ¬ ms.any (inS a) = true) : lastF ms.reverse h = none := by
  refine sooner_none ?_
  unfold soonerL
  rw [List.map_eq_nil_iff, List.filter_eq_nil_iff]
  intro c hc g
  have g : c.1 ≤ h := of_decide_eq_true g
  exact hno c.1 g (any_iff.mpr ⟨c, hc, Int.le_refl _, ok.le c hc⟩)
theorem cnt_marks {bs : List Bool} {f : Int} : ∀ n, n ≤ bs.length → cntH (mk bs f) f n = (((bs.take n).filter id).length : Int)
  | 0, _ => rfl
  | n + 1, h => by
    have e : bs[n]? = some bs[n] := List.getElem?_eq_getElem (by omega)
    show cntH (mk bs f) f n + ind (mk bs f (f + n)) = _
    rw [cnt_marks n (by omega), mk_at e, take_snocD e, List.filter_append, List.length_append]
    cases bs[n] <;> simp [ind]
def hoursL (bs : List Bool) (f : Int) (lo : Int) (n : Nat) : List Int := ((List.range n).filter fun j : Nat => bs.getD (lo + j).toNat false).map fun j : Nat => f + (lo + j)
theorem mem_hours {bs : List Bool} {f lo : Int} {n : Nat} {a : Int} (h0 : 0 ≤ lo) : a ∈ hoursL bs f lo n ↔ mk bs f a = true ∧ f + lo ≤ a ∧ a < f + lo + n := by
  unfold hoursL
  constructor
  · intro h
    obtain ⟨j, hj, rfl⟩ := List.mem_map.mp h
    obtain ⟨hj, g⟩ := List.mem_filter.mp hj
    have := List.mem_range.mp hj
    refine ⟨?_, by omega, by omega⟩
    unfold mk
    rw [decide_eq_true (by omega), show (f + (lo + (j : Int)) - f).toNat = (lo + (j : Int)).toNat by omega, Bool.true_and]
    exact g
  · rintro ⟨g, h1, h2⟩
    refine List.mem_map.mpr ⟨(a - f - lo).toNat, List.mem_filter.mpr ⟨List.mem_range.mpr (by omega), ?_⟩, by omega⟩
    unfold mk at g
    rw [Bool.and_eq_true] at g
    rw [show (lo + (((a - f - lo).toNat : Nat) : Int)).toNat = (a - f).toNat by omega]
    exact g.2
theorem hours_lc {bs : List Bool} {f lo : Int} (n : Nat) : ((upto lo n).filter (onB fun k => bs.getD k.toNat false)).map (onI fun k => .int (f + k)) = (hoursL bs f lo n).map D.int := by
  unfold upto hoursL
  rw [List.filter_map, List.map_map, List.map_map]; rfl
theorem b_minH {S : Sto} {Q : DK} {x : D} {ms : List (Int × Int)} {bs : List Bool} {f lo k : Int} {n : Nat} (h : Lst S x ((hoursL bs f lo n).map D.int)) (ok : SpOk ms) (hm : ∀ h, ms.any (inS h) = mk bs f h) (hl : bs.length = 40) (e1 : lo = max 0 k) (e2 : n = (40 - lo).toNat) (q : Q (optD (firstF ms (f + k))) S) : bMinD [x] S Q := by
  have l0 : 0 ≤ lo := by omega
  have mem : ∀ a, f + k ≤ a → ms.any (inS a) = true → a ∈ hoursL bs f lo n := fun a ha h => by
    rw [hm a] at h
    have := mk_bd h
    exact (mem_hours l0).mpr ⟨h, by omega, by omega⟩
  refine b_minD h (fun e => ?_) (fun m h1 h2 => ?_)
  · rw [first_nil ok (fun a ha g => by have := mem a ha g; rw [e] at this; cases this)] at q
    exact q
  · obtain ⟨g1, g2, g3⟩ := (mem_hours l0).mp h1
    rw [first_char ok (m := m) (by rw [hm m]; exact g1) (by omega) fun a ha g => h2 a (mem a ha g)] at q
    exact q
theorem b_maxH {S : Sto} {Q : DK} {x : D} {ms : List (Int × Int)} {bs : List Bool} {f k : Int} {n : Nat} (h : Lst S x ((hoursL bs f 0 n).map D.int)) (ok : SpOk ms) (hm : ∀ h, ms.any (inS h) = mk bs f h) (hl : bs.length = 40) (e2 : n = (min 40 (k + 1)).toNat) (q : Q (optD (lastF ms.reverse (f + k))) S) : bMaxD [x] S Q := by
  have mem : ∀ a, a ≤ f + k → ms.any (inS a) = true → a ∈ hoursL bs f 0 n := fun a ha h => by
    rw [hm a] at h
    have := mk_bd h
    exact (mem_hours (Int.le_refl _)).mpr ⟨h, by omega, by omega⟩
  refine b_maxD h (fun e => ?_) (fun m h1 h2 => ?_)
  · rw [last_nil ok (fun a ha g => by have := mem a ha g; rw [e] at this; cases this)] at q
    exact q
  · obtain ⟨g1, g2, g3⟩ := (mem_hours (Int.le_refl _)).mp h1
    rw [last_char ok (m := m) (by rw [hm m]; exact g1) (by omega) fun a ha g => h2 a (mem a ha g)] at q
    exact q
theorem o_neO {S : Sto} {Q : DK} {v : Option Int} (q : Q (.bl false) S) : oNe (optD v) (optD v) S Q := by
  cases v with
  | none => exact ⟨_, .inl ⟨rfl, rfl, rfl⟩, q⟩
  | some m => exact o_neI (by simpa using q)
def onBl (g : Bool → Bool) : D → Bool
  | .bl b => g b
  | _ => false
theorem onBl_len (bs : List Bool) : (((bs.map D.bl).filter (onBl id)).map (fun d => d)).length = (bs.filter id).length := by
  rw [List.length_map, List.filter_map, List.length_map]; rfl
theorem lt_bl {bs : List Bool} {k : Int} (h0 : 0 ≤ k) (h1 : k < bs.length) : ∃ b, atD (bs.map D.bl) k = some (.bl b) ∧ bs.getD k.toNat false = b ∧ ∀ f, mk bs f (f + k) = b := by
  obtain ⟨j, rfl⟩ : ∃ j : Nat, k = j := ⟨k.toNat, by omega⟩
  have e : bs[j]? = some bs[j] := List.getElem?_eq_getElem (by omega)
  exact ⟨bs[j], at_bl e, by rw [show (j : Int).toNat = j by omega, List.getD_eq_getElem?_getD, e]; rfl, fun f => mk_at e⟩
def sp_law_ways_good : DSp := fun ds S Q => ∃ (ms : List (Int × Int)) (x : D) (bs : List Bool) (f : Int), ds = [.tup (ms.map p2), x, .int f] ∧ Lst S x (bs.map D.bl) ∧ bs.length = 40 ∧ SpOk ms ∧ (∀ h, ms.any (inS h) = mk bs f h) ∧ Q (.bl true) S
def b_law_ways_good : DS :=
    (sSeq (sFor (iRng2 (dCons (dUn oNeg (dC (.int 1))) (dCons (dC (.int 41)) dNil))) (gName 3) (sSeq (sAsg (dAndV (dOp oLe (dC (.int 0)) (dVar 3)) (dAndV (dOp oLt (dVar 3) (dC (.int 40))) (dOp oIx (dVar 1) (dVar 3)))) (gName 4))
    (sSeq (sIf (dT (dOp oNe (dCall sp_holds (dCons (dVar 0) (dCons (dOp oAdd (dVar 2) (dVar 3)) dNil))) (dVar 4))) (sRet (dC (.bl false))) sNext)
    (sSeq (sAsg (dLC 1 [2, 1] (iRng2 (dCons (dB bMax2 (dCons (dC (.int 0)) (dCons (dVar 3) dNil))) (dCons (dC (.int 40)) dNil))) (gName 0) (dT (dOp oIx (dVar 2) (dVar 0))) (dOp oAdd (dVar 1) (dVar 0))) (gName 5))
    (sSeq (sAsg (dLC 1 [2, 1] (iRng2 (dCons (dC (.int 0)) (dCons (dB bMin2 (dCons (dC (.int 40)) (dCons (dOp oAdd (dVar 3) (dC (.int 1))) dNil))) dNil))) (gName 0) (dT (dOp oIx (dVar 2) (dVar 0))) (dOp oAdd (dVar 1) (dVar 0))) (gName 6))
    (sSeq (sIf (dT (dOp oNe (dCall sp_first_from (dCons (dVar 0) (dCons (dOp oAdd (dVar 2) (dVar 3)) dNil))) (dB bMinD (dCons (dVar 5) dNil)))) (sRet (dC (.bl false))) sNext)
    (sIf (dT (dOp oNe (dCall sp_last_to (dCons (dVar 0) (dCons (dOp oAdd (dVar 2) (dVar 3)) dNil))) (dB bMaxD (dCons (dVar 6) dNil)))) (sRet (dC (.bl false))) sNext)))))))
    (sRet (dOp oEq (dCall sp_many (dCons (dVar 0) dNil)) (dB bLen (dCons (dLC 1 [] (iSeq (dVar 1)) (gName 0) (dT (dVar 0)) (dVar 0)) dNil)))))
theorem len_law_ways_good : ∀ ds So Q, sp_law_ways_good ds So Q → ds.length = 3 := by rintro ds So Q ⟨_, _, _, _, rfl, _⟩; rfl
theorem bo_law_ways_good : BodyOk 7 b_law_ways_good sp_law_ways_good := by
  rintro ds S Q ⟨ms, x, bs, f, rfl, hx, hl, ok, hm, q⟩
  have h20 := mk_few ok hm hl
  unfold b_law_ways_good
  walk_at "dgo"
  refine ⟨_, _, rfl, ?_⟩
  refine for_by (fun i ρ S' => ∃ (G : Sto) (w1 w2 w3 w4 : Option D), ρ = [some (.tup (ms.map p2)), some x, some (.int f), w1, w2, w3, w4] ∧ S' = S ++ G) ⟨[], none, none, none, none, rfl, (List.append_nil S).symm⟩ (fun _ _ _ _ => True.intro) ?_ ?_
  · rintro i d ρ S' hd ⟨G, w1, w2, w3, w4, rfl, rfl⟩
    obtain ⟨hi, rfl⟩ := upto_at hd
    have hi : i < 42 := hi
    generalize hk : (-1 + (i : Int)) = k
    have hx := hx.old (T := G)
    generalize hS1 : S ++ G = S1 at hx
    have held : ∀ (ρ : Rho) (K : DK), ρ = [some (.tup (ms.map p2)), some x, some (.int f), some (.int k), w2, w3, w4] → K (.bl (mk bs f (f + k))) S1 → dAndV (dOp oLe (dC (.int 0)) (dVar 3)) (dAndV (dOp oLt (dVar 3) (dC (.int 40))) (dOp oIx (dVar 1) (dVar 3))) ρ S1 K := fun ρ K e hK => by
      subst e
      walk_at "dgo"
      refine r_d (fun g0 => ?_) (fun g0 => ?_)
      · walk_at "dgo"
        refine r_d (fun g1 => ?_) (fun g1 => ?_)
        · obtain ⟨b, ab, _, mb⟩ := lt_bl (bs := bs) g0 (by omega)
          rw [mb f] at hK
          walk_at "dgo"
          exact hK
        · have e : mk bs f (f + k) = false := by
            cases e : mk bs f (f + k) with
            | false => rfl
            | true => have := mk_bd e; omega
          rw [e] at hK
          walk_at "dgo"
          exact hK
      · have e : mk bs f (f + k) = false := by
          cases e : mk bs f (f + k) with
          | false => rfl
          | true => have := mk_bd e; omega
        rw [e] at hK
        walk_at "dgo"
        exact hK
    refine r_gname ?_
    refine r_seq ?_
    refine r_asg ?_
    refine held _ _ rfl ?_
    walk_at "dgo"
    refine ⟨ms, _, rfl, by omega, ?_⟩
    rw [hm (f + k)]
    walk_at "dgo"
    rw [beq_self_eq_true]
    walk_at "dgo"
    refine ⟨_, _, rfl, ?_⟩
    refine lc_pure (onB fun k => bs.getD k.toNat false) (onI fun k => .int (f + k)) True.intro ?_ (fun i d ys hd hw => ?_) ?_
    · rw [upto_length]; unfold big; omega
    · obtain ⟨hj, rfl⟩ := upto_at hd
      obtain ⟨b, ab, gb, _⟩ := lt_bl (bs := bs) (k := max 0 k + (i : Int)) (by omega) (by omega)
      walk_at "dgo"
      cases b with
      | true => walk_at "dgo"; exact lcw_y hd hw gb rfl
      | false => walk_at "dgo"; exact lcw_n hd hw gb
    rw [hours_lc]
    walk_at "dgo"
    refine ⟨_, _, rfl, ?_⟩
    refine lc_pure (onB fun k => bs.getD k.toNat false) (onI fun k => .int (f + k)) True.intro ?_ (fun i d ys hd hw => ?_) ?_
    · rw [upto_length]; unfold big; omega
    · obtain ⟨hj, rfl⟩ := upto_at hd
      obtain ⟨b, ab, gb, _⟩ := lt_bl (bs := bs) (k := 0 + (i : Int)) (by omega) (by omega)
      walk_at "dgo"
      cases b with
      | true => walk_at "dgo"; exact lcw_y hd hw gb rfl
      | false => walk_at "dgo"; exact lcw_n hd hw gb
    rw [hours_lc]
    walk_at "dgo"
    refine ⟨ms, _, rfl, ?_⟩
    walk_at "dgo"
    refine b_minH (lo := max 0 k) (k := k) (Lst.at0) ok hm hl rfl rfl ?_
    refine o_neO ?_
    walk_at "dgo"
    refine ⟨ms, _, rfl, ?_⟩
    walk_at "dgo"
    refine b_maxH (k := k) (Lst.at rfl) ok hm hl (by omega) ?_
    refine o_neO ?_
    walk_at "dgo"
    subst hS1
    exact ⟨_, _, _, _, _, rfl, List.append_assoc _ _ _⟩
  · rintro ρ S' ⟨G, w1, w2, w3, w4, rfl, rfl⟩
    walk_at "dgo"
    refine ⟨ms, rfl, by omega, ?_⟩
    walk_at "dgo"
    refine lc_pure (onBl id) (fun d => d) hx.old ?_ (fun i d ys hd hw => ?_) ?_
    · rw [List.length_map, hl]; unfold big; omega
    · obtain ⟨b, hb, rfl⟩ := get_bl hd
      walk_at "dgo"
      cases b with
      | true => walk_at "dgo"; exact lcw_y hd hw rfl rfl
      | false => walk_at "dgo"; exact lcw_n hd hw rfl
    walk_at "dgo"
    rw [onBl_len]
    have e : cnt ms = ((bs.filter id).length : Int) := by
      rw [cnt_eq (lo := f) (n := 40) ok (fun c hc => by have := mk_box ok hm c hc; omega), show (fun h => ms.any (inS h)) = mk bs f from funext hm, cnt_marks 40 (by omega), List.take_of_length_le (by omega)]
    rw [decide_eq_true e]
    exact fin_pure rfl q
theorem two_at (v w : Int) (h0 : 0 ≤ w) (h1 : w < 2) : ∃ f, atD [.int 0, .int v] w = some (.int f) := by
  rcases (by omega : w = 0 ∨ w = 1) with rfl | rfl
  · exact ⟨0, rfl⟩
  · exact ⟨v, rfl⟩
def dbl (hs : List Int) : List (Int × Int) := hs.map fun h => (h, h)
theorem dbl_any (hs : List Int) (h : Int) : (dbl hs).any (inS h) = decide (h ∈ hs) := by
  rw [Bool.eq_iff_iff, any_iff, decide_eq_true_iff]
  unfold dbl
  constructor
  · rintro ⟨c, hc, c1, c2⟩
    obtain ⟨a, ha, rfl⟩ := List.mem_map.mp hc
    have c1 : a ≤ h := c1
    have c2 : h ≤ a := c2
    rw [show h = a by omega]; exact ha
  · intro hh
    exact ⟨(h, h), List.mem_map.mpr ⟨h, hh, rfl⟩, Int.le_refl _, Int.le_refl _⟩
def hoursR (bs : List Bool) (f : Int) : List Int := ((List.range 40).filter fun j : Nat => bs.getD (39 - (0 + (j : Int))).toNat false).map fun j : Nat => f + 39 - (0 + (j : Int))
theorem mem_hoursR {bs : List Bool} {f a : Int} (hl : bs.length = 40) : a ∈ hoursR bs f ↔ mk bs f a = true := by
  unfold hoursR
  constructor
  · intro h
    obtain ⟨j, hj, rfl⟩ := List.mem_map.mp h
    obtain ⟨hj, g⟩ := List.mem_filter.mp hj
    have := List.mem_range.mp hj
    unfold mk
    rw [decide_eq_true (by omega), show (f + 39 - (0 + (j : Int)) - f).toNat = (39 - (0 + (j : Int))).toNat by omega, Bool.true_and]
    exact g
  · intro g
    have hb := mk_bd g
    refine List.mem_map.mpr ⟨(39 - (a - f)).toNat, List.mem_filter.mpr ⟨List.mem_range.mpr (by omega), ?_⟩, by omega⟩
    unfold mk at g
    rw [Bool.and_eq_true] at g
    show bs.getD (39 - (0 + (((39 - (a - f)).toNat : Nat) : Int))).toNat false = true
    rw [show (39 - (0 + (((39 - (a - f)).toNat : Nat) : Int))).toNat = (a - f).toNat by omega]
    exact g.2
theorem hours40 {bs : List Bool} {f a : Int} (hl : bs.length = 40) : a ∈ hoursL bs f 0 40 ↔ mk bs f a = true := by
  rw [mem_hours (Int.le_refl _)]
  exact ⟨fun h => h.1, fun h => ⟨h, by have := mk_bd h; omega, by have := mk_bd h; omega⟩⟩
theorem hours_any {hs : List Int} {bs : List Bool} {f : Int} (e : ∀ a, a ∈ hs ↔ mk bs f a = true) (h : Int) : (dbl hs).any (inS h) = mk bs f h := by
  rw [dbl_any, Bool.eq_iff_iff, decide_eq_true_iff]
  exact e h
theorem hoursL_len (bs : List Bool) (f lo : Int) (n : Nat) : (hoursL bs f lo n).length ≤ n := by
  unfold hoursL
  rw [List.length_map]
  exact Nat.le_trans (List.length_filter_le _ _) (by simp)
theorem hoursR_len (bs : List Bool) (f : Int) : (hoursR bs f).length ≤ 40 := by
  unfold hoursR
  rw [List.length_map]
  exact Nat.le_trans (List.length_filter_le _ _) (by simp)
theorem dbl_len (hs : List Int) : (dbl hs).length = hs.length := by unfold dbl; simp
theorem dbl_few (hs : List Int) : ((dbl hs).filter lec).length ≤ hs.length := Nat.le_trans (List.length_filter_le _ _) (Nat.le_of_eq (dbl_len hs))
theorem hours_lc2 {bs : List Bool} {f lo : Int} (n : Nat) : ((upto lo n).filter (onB fun k => bs.getD k.toNat false)).map (onI fun k => p2 (f + k, f + k)) = (dbl (hoursL bs f lo n)).map p2 := by
  unfold upto hoursL dbl
  rw [List.filter_map, List.map_map, List.map_map, List.map_map]; rfl
theorem hoursR_lc {bs : List Bool} {f : Int} : ((upto 0 40).filter (onB fun k => bs.getD (39 - k).toNat false)).map (onI fun k => p2 (f + 39 - k, f + 39 - k)) = (dbl (hoursR bs f)).map p2 := by
  unfold upto hoursR dbl
  rw [List.filter_map, List.map_map, List.map_map, List.map_map]; rfl
def bp (c : Bool × Bool) : D := .tup [.bl c.1, .bl c.2]
theorem zipD_bl : ∀ (as bs : List Bool), zipD (as.map D.bl) (bs.map D.bl) = (as.zip bs).map bp
  | [], _ => by simp [zipD]
  | _ :: _, [] => by simp [zipD]
  | a :: as, b :: bs => by
    show D.tup [.bl a, .bl b] :: zipD (as.map D.bl) (bs.map D.bl) = bp (a, b) :: (as.zip bs).map bp
    rw [zipD_bl as bs]; rfl
def onBp (g : Bool → Bool → Bool) : D → D
  | .tup [.bl a, .bl b] => .bl (g a b)
  | _ => .non
theorem onBp_map (g : Bool → Bool → Bool) : ∀ (as bs : List Bool), ((as.zip bs).map bp).map (onBp g) = (List.zipWith g as bs).map D.bl
  | [], _ => rfl
  | _ :: _, [] => rfl
  | a :: as, b :: bs => by
    show D.bl (g a b) :: ((as.zip bs).map bp).map (onBp g) = D.bl (g a b) :: (List.zipWith g as bs).map D.bl
    rw [onBp_map g as bs]
theorem get_bp {cs : List (Bool × Bool)} {i : Nat} {d : D} (h : (cs.map bp)[i]? = some d) : ∃ a b, d = .tup [.bl a, .bl b] := by
  rw [List.getElem?_map] at h
  cases e : cs[i]? with
  | none => rw [e] at h; cases h
  | some c => rw [e] at h; exact ⟨c.1, c.2, by simpa [bp] using h.symm⟩
theorem mk2 {as bs : List Bool} (e : as.length = bs.length) (f h : Int) : mk as f h = (decide (f ≤ h) && as.getD (h - f).toNat false) ∧ mk bs f h = (decide (f ≤ h) && bs.getD (h - f).toNat false) := ⟨rfl, rfl⟩
def b_law : DS :=
    (sSeq (sAsg (dOp oIx (dLst (dCons (dC (.int 0)) (dCons (dOp oSub (dOp oMod (dCall sp_law_at (dCons (dVar 0) (dCons (dC (.int 0)) dNil))) (dC (.int 100000000000000000000000000000000000000000000000000))) (dOp oMul (dC (.int 5)) (dC (.int 10000000000000000000000000000000000000000000000000)))) dNil))) (dCall sp_law_mix (dCons (dCall sp_law_at (dCons (dVar 0) (dCons (dC (.int 0)) dNil))) (dCons (dC (.int 0)) (dCons (dC (.int 2)) dNil))))) (gName 1))
    (sSeq (sAsg (dCall sp_law_folded (dCons (dVar 0) (dCons (dC (.int 1)) (dCons (dC (.int 40)) dNil)))) (gName 2))
    (sSeq (sAsg (dCall sp_law_marks (dCons (dVar 2) (dCons (dC (.int 1)) dNil))) (gName 3))
    (sSeq (sAsg (dCall sp_law_marks (dCons (dVar 2) (dCons (dC (.int 2)) dNil))) (gName 4))
    (sSeq (sAsg (dCall sp_tidy (dCons (dLC 1 [1, 3] (iRng1 (dCons (dC (.int 40)) dNil)) (gName 0) (dT (dOp oIx (dVar 2) (dVar 0))) (dTup (dCons (dOp oAdd (dVar 1) (dVar 0)) (dCons (dOp oAdd (dVar 1) (dVar 0)) dNil)))) dNil)) (gName 5))
    (sSeq (sAsg (dCall sp_tidy (dCons (dLC 1 [1, 4] (iRng1 (dCons (dC (.int 40)) dNil)) (gName 0) (dT (dOp oIx (dVar 2) (dOp oSub (dC (.int 39)) (dVar 0)))) (dTup (dCons (dOp oSub (dOp oAdd (dVar 1) (dC (.int 39))) (dVar 0)) (dCons (dOp oSub (dOp oAdd (dVar 1) (dC (.int 39))) (dVar 0)) dNil)))) dNil)) (gName 6))
    (sSeq (sIf (dOr (dT (dOp oNe (dVar 5) (dCall sp_law_runs (dCons (dVar 3) (dCons (dVar 1) dNil))))) (dT (dOp oNe (dVar 6) (dCall sp_law_runs (dCons (dVar 4) (dCons (dVar 1) dNil)))))) (sRet (dC (.bl false))) sNext)
    (sSeq (sAsg (dB bLZip (dCons (dVar 3) (dCons (dVar 4) dNil))) (gName 7))
    (sSeq (sIf (dT (dOp oNe (dCall sp_both (dCons (dVar 5) (dCons (dVar 6) dNil))) (dCall sp_law_runs (dCons (dLC 2 [] (iSeq (dVar 7)) (gTup 2 (gCons (gName 0) (gCons (gName 1) gNil))) dTrue (dAndV (dVar 0) (dVar 1))) (dCons (dVar 1) dNil))))) (sRet (dC (.bl false))) sNext)
    (sSeq (sIf (dT (dOp oNe (dCall sp_either (dCons (dVar 5) (dCons (dVar 6) dNil))) (dCall sp_law_runs (dCons (dLC 2 [] (iSeq (dVar 7)) (gTup 2 (gCons (gName 0) (gCons (gName 1) gNil))) dTrue (dOrV (dVar 0) (dVar 1))) (dCons (dVar 1) dNil))))) (sRet (dC (.bl false))) sNext)
    (sSeq (sIf (dT (dOp oNe (dCall sp_without (dCons (dVar 5) (dCons (dVar 6) dNil))) (dCall sp_law_runs (dCons (dLC 2 [] (iSeq (dVar 7)) (gTup 2 (gCons (gName 0) (gCons (gName 1) gNil))) dTrue (dAndV (dVar 0) (dNotV (dVar 1)))) (dCons (dVar 1) dNil))))) (sRet (dC (.bl false))) sNext)
    (sRet (dAndV (dCall sp_law_ways_good (dCons (dVar 5) (dCons (dVar 3) (dCons (dVar 1) dNil)))) (dCall sp_law_ways_good (dCons (dVar 6) (dCons (dVar 4) (dCons (dVar 1) dNil)))))))))))))))))
theorem bo_law : BodyOk 8 b_law sp_law := by
  rintro ds S Q ⟨ns, rfl, _, hl, q⟩
  unfold b_law
  walk_at "dgo"
  refine ⟨ns, _, rfl, by decide, fun v => ?_⟩
  walk_at "dgo"
  refine ⟨ns, _, rfl, by decide, fun v2 => ?_⟩
  walk_at "dgo"
  refine ⟨_, _, _, rfl, by decide, by decide, by decide, fun w w0 w1 => ?_⟩
  obtain ⟨f, af⟩ := two_at (v % 100000000000000000000000000000000000000000000000000 - 5 * 10000000000000000000000000000000000000000000000000) w w0 w1
  walk_at "dgo"
  refine ⟨ns, _, _, rfl, hl, by decide, by decide, by decide, fun zs z0 zb => ?_⟩
  unfold New
  generalize S ++ [Cell.lst [D.int 0, D.int (v % 100000000000000000000000000000000000000000000000000 - 5 * 10000000000000000000000000000000000000000000000000)]] = S1
  have hz : Lst (S1 ++ [.lst (zs.map D.int)]) (.ref S1.length) (zs.map D.int) := Lst.at0
  generalize S1 ++ [.lst (zs.map D.int)] = S2 at hz ⊢
  generalize D.ref S1.length = z at hz ⊢
  walk_at "dgo"
  refine ⟨_, zs, _, rfl, hz, by omega, by decide, by decide, fun c1 c2 as hla => ?_⟩
  unfold New
  have h1 : Lst (S2 ++ [c1, c2] ++ [.lst (as.map D.bl)]) (.ref (S2 ++ [c1, c2]).length) (as.map D.bl) := Lst.at0
  have hz := (hz.old (T := [c1, c2])).old (T := [.lst (as.map D.bl)])
  generalize S2 ++ [c1, c2] ++ [.lst (as.map D.bl)] = S3 at hz h1 ⊢
  generalize D.ref (S2 ++ [c1, c2]).length = x1 at h1 ⊢
  walk_at "dgo"
  refine ⟨_, zs, _, rfl, hz, by omega, by decide, by decide, fun c3 c4 bs hlb => ?_⟩
  unfold New
  have h2 : Lst (S3 ++ [c3, c4] ++ [.lst (bs.map D.bl)]) (.ref (S3 ++ [c3, c4]).length) (bs.map D.bl) := Lst.at0
  have h1 := (h1.old (T := [c3, c4])).old (T := [.lst (bs.map D.bl)])
  generalize S3 ++ [c3, c4] ++ [.lst (bs.map D.bl)] = S4 at h1 h2 ⊢
  generalize D.ref (S3 ++ [c3, c4]).length = x2 at h2 ⊢
  walk_at "dgo"
  refine ⟨_, rfl, by decide, by decide, ?_⟩
  refine lc_pure (onB fun k => as.getD k.toNat false) (onI fun k => p2 (f + k, f + k)) True.intro ?_ (fun i d ys hd hw => ?_) ?_
  · rw [upto_length]; decide
  · obtain ⟨hj, rfl⟩ := upto_at hd
    have hj : i < 40 := hj
    obtain ⟨b, ab, gb, _⟩ := lt_bl (bs := as) (k := 0 + (i : Int)) (by omega) (by omega)
    walk_at "dgo"
    cases b with
    | true => walk_at "dgo"; exact lcw_y hd hw gb rfl
    | false => walk_at "dgo"; exact lcw_n hd hw gb
  rw [show ((40 : Int)).toNat = 40 from rfl, hours_lc2]
  have k1 := hoursL_len as f 0 40
  have k2 := dbl_few (hoursL as f 0 40)
  have k3 := dbl_len (hoursL as f 0 40)
  walk_at "dgo"
  refine ⟨_, dbl (hoursL as f 0 40), rfl, .inr Lst.at0, by omega, by omega, fun m1 ok1 hm1 _ => ?_⟩
  replace hm1 : ∀ h, m1.any (inS h) = mk as f h := fun h => (hm1 h).trans (hours_any (fun a => hours40 hla) h)
  have l1 := mk_few ok1 hm1 hla
  have h1 := h1.old (T := [.lst ((dbl (hoursL as f 0 40)).map p2)])
  have h2 := h2.old (T := [.lst ((dbl (hoursL as f 0 40)).map p2)])
  generalize S4 ++ [.lst ((dbl (hoursL as f 0 40)).map p2)] = S5 at h1 h2 ⊢
  walk_at "dgo"
  refine ⟨_, rfl, by decide, by decide, ?_⟩
  refine lc_pure (onB fun k => bs.getD (39 - k).toNat false) (onI fun k => p2 (f + 39 - k, f + 39 - k)) True.intro ?_ (fun i d ys hd hw => ?_) ?_
  · rw [upto_length]; decide
  · obtain ⟨hj, rfl⟩ := upto_at hd
    have hj : i < 40 := hj
    obtain ⟨b, ab, gb, _⟩ := lt_bl (bs := bs) (k := 39 - (0 + (i : Int))) (by omega) (by omega)
    walk_at "dgo"
    cases b with
    | true => walk_at "dgo"; exact lcw_y hd hw gb rfl
    | false => walk_at "dgo"; exact lcw_n hd hw gb
  rw [show ((40 : Int)).toNat = 40 from rfl, hoursR_lc]
  have k1 := hoursR_len bs f
  have k2 := dbl_few (hoursR bs f)
  have k3 := dbl_len (hoursR bs f)
  walk_at "dgo"
  refine ⟨_, dbl (hoursR bs f), rfl, .inr Lst.at0, by omega, by omega, fun m2 ok2 hm2 _ => ?_⟩
  replace hm2 : ∀ h, m2.any (inS h) = mk bs f h := fun h => (hm2 h).trans (hours_any (fun a => mem_hoursR hlb) h)
  have l2 := mk_few ok2 hm2 hlb
  have h1 := h1.old (T := [.lst ((dbl (hoursR bs f)).map p2)])
  have h2 := h2.old (T := [.lst ((dbl (hoursR bs f)).map p2)])
  generalize S5 ++ [.lst ((dbl (hoursR bs f)).map p2)] = S6 at h1 h2 ⊢
  walk_at "dgo"
  refine ⟨_, as, f, rfl, h1, hla, fun n1 okn1 hn1 => ?_⟩
  walk_at "dgo"
  refine o_neS1 (sp_unique ok1 okn1 fun h => by rw [hm1 h, hn1 h]) ?_
  walk_at "dgo"
  refine ⟨_, bs, f, rfl, h2, hlb, fun n2 okn2 hn2 => ?_⟩
  walk_at "dgo"
  refine o_neS1 (sp_unique ok2 okn2 fun h => by rw [hm2 h, hn2 h]) ?_
  walk_at "dgo"
  refine b_lzip h1 h2 ?_
  rw [zipD_bl]
  unfold New
  have h3 : Lst (S6 ++ [.lst ((as.zip bs).map bp)]) (.ref S6.length) ((as.zip bs).map bp) := Lst.at0
  have h1 := h1.old (T := [.lst ((as.zip bs).map bp)])
  have h2 := h2.old (T := [.lst ((as.zip bs).map bp)])
  generalize S6 ++ [.lst ((as.zip bs).map bp)] = S7 at h1 h2 h3 ⊢
  generalize D.ref S6.length = x3 at h3 ⊢
  walk_at "dgo"
  refine ⟨m1, m2, rfl, ok1, ok2, by omega, fun m3 ok3 hm3 _ => ?_⟩
  walk_at "dgo"
  refine lc_pure (fun _ => true) (onBp fun a b => a && b) (by assumption) ?_ (fun i d ys hd hw => ?_) ?_
  · rw [List.length_map, List.length_zip]; unfold big; omega
  · obtain ⟨a, b, rfl⟩ := get_bp hd
    walk_at "dgo"
    cases a <;> walk_at "dgo" <;> exact lcw_y hd hw rfl rfl
  rw [filter_true, onBp_map]
  have lw3 : (List.zipWith (fun a b => a && b) as bs).length = 40 := by rw [List.length_zipWith]; omega
  walk_at "dgo"
  refine ⟨_, _, f, rfl, Lst.at0, lw3, fun n3 okn3 hn3 => ?_⟩
  refine o_neS1 (sp_unique ok3 okn3 fun h => by rw [hm3 h, hn3 h, hm1 h, hm2 h, mk_map2 _ rfl (hla.trans hlb.symm), (mk2 (hla.trans hlb.symm) f h).1, (mk2 (hla.trans hlb.symm) f h).2]; cases decide (f ≤ h) <;> simp) ?_
  have h1 := h1.old (T := [.lst ((List.zipWith (fun a b => a && b) as bs).map D.bl)])
  have h2 := h2.old (T := [.lst ((List.zipWith (fun a b => a && b) as bs).map D.bl)])
  have h3 := h3.old (T := [.lst ((List.zipWith (fun a b => a && b) as bs).map D.bl)])
  generalize S7 ++ [.lst ((List.zipWith (fun a b => a && b) as bs).map D.bl)] = S8 at h1 h2 h3 ⊢
  walk_at "dgo"
  refine ⟨m1, m2, rfl, by omega, fun m4 ok4 hm4 _ => ?_⟩
  walk_at "dgo"
  refine lc_pure (fun _ => true) (onBp fun a b => a || b) (by assumption) ?_ (fun i d ys hd hw => ?_) ?_
  · rw [List.length_map, List.length_zip]; unfold big; omega
  · obtain ⟨a, b, rfl⟩ := get_bp hd
    walk_at "dgo"
    cases a <;> walk_at "dgo" <;> exact lcw_y hd hw rfl rfl
  rw [filter_true, onBp_map]
  have lw4 : (List.zipWith (fun a b => a || b) as bs).length = 40 := by rw [List.length_zipWith]; omega
  walk_at "dgo"
  refine ⟨_, _, f, rfl, Lst.at0, lw4, fun n4 okn4 hn4 => ?_⟩
  refine o_neS1 (sp_unique ok4 okn4 fun h => by rw [hm4 h, hn4 h, hm1 h, hm2 h, mk_map2 _ rfl (hla.trans hlb.symm), (mk2 (hla.trans hlb.symm) f h).1, (mk2 (hla.trans hlb.symm) f h).2]; cases decide (f ≤ h) <;> simp) ?_
  have h1 := h1.old (T := [.lst ((List.zipWith (fun a b => a || b) as bs).map D.bl)])
  have h2 := h2.old (T := [.lst ((List.zipWith (fun a b => a || b) as bs).map D.bl)])
  have h3 := h3.old (T := [.lst ((List.zipWith (fun a b => a || b) as bs).map D.bl)])
  generalize S8 ++ [.lst ((List.zipWith (fun a b => a || b) as bs).map D.bl)] = S9 at h1 h2 h3 ⊢
  walk_at "dgo"
  refine ⟨m1, m2, rfl, ok1, ok2, by omega, fun m5 ok5 hm5 _ => ?_⟩
  walk_at "dgo"
  refine lc_pure (fun _ => true) (onBp fun a b => a && !b) (by assumption) ?_ (fun i d ys hd hw => ?_) ?_
  · rw [List.length_map, List.length_zip]; unfold big; omega
  · obtain ⟨a, b, rfl⟩ := get_bp hd
    walk_at "dgo"
    cases a <;> walk_at "dgo" <;> exact lcw_y hd hw rfl rfl
  rw [filter_true, onBp_map]
  have lw5 : (List.zipWith (fun a b => a && !b) as bs).length = 40 := by rw [List.length_zipWith]; omega
  walk_at "dgo"
  refine ⟨_, _, f, rfl, Lst.at0, lw5, fun n5 okn5 hn5 => ?_⟩
  refine o_neS1 (sp_unique ok5 okn5 fun h => by rw [hm5 h, hn5 h, hm1 h, hm2 h, mk_map2 _ rfl (hla.trans hlb.symm), (mk2 (hla.trans hlb.symm) f h).1, (mk2 (hla.trans hlb.symm) f h).2]; cases decide (f ≤ h) <;> simp) ?_
  have h1 := h1.old (T := [.lst ((List.zipWith (fun a b => a && !b) as bs).map D.bl)])
  have h2 := h2.old (T := [.lst ((List.zipWith (fun a b => a && !b) as bs).map D.bl)])
  generalize S9 ++ [.lst ((List.zipWith (fun a b => a && !b) as bs).map D.bl)] = S10 at h1 h2 ⊢
  walk_at "dgo"
  refine ⟨m1, _, as, f, rfl, h1, hla, ok1, hm1, ?_⟩
  walk_at "dgo"
  refine ⟨m2, _, bs, f, rfl, h2, hlb, ok2, hm2, ?_⟩
  walk_at "dgo"
  exact fin_same (q _)
end Dp
namespace Law
open PySem PySem.Spec PyProof.Rows L2 My Dp
def top (i : Nat) : Stmt := PySem.Challenge.pw_beaconvale_k29_whole_hours_gone_through.main.body.getD i (.Pass ⟨0, 0, 0, 0⟩)
abbrev s_law_at : Stmt := top 11
abbrev s_law_mix : Stmt := top 12
abbrev s_law_folded : Stmt := top 13
abbrev s_law_marks : Stmt := top 15
abbrev s_tidy : Stmt := top 1
abbrev s_law_runs : Stmt := top 14
abbrev s_both : Stmt := top 2
abbrev s_either : Stmt := top 3
abbrev s_gaps : Stmt := top 4
abbrev s_without : Stmt := top 5
abbrev s_holds : Stmt := top 6
abbrev s_first_from : Stmt := top 8
abbrev s_last_to : Stmt := top 9
abbrev s_many : Stmt := top 7
abbrev s_law_ways_good : Stmt := top 16
abbrev s_law : Stmt := top 17
section
variable {P : Program} {w : World} {K : PySem.W.Frag} {mg : Str → Option Value} {base : Heap} {f : Addr} {fd : FuncData}
theorem sc_law_at : FnScope ["script", "k"] ["script", "k"] (defScope s_law_at) := ⟨rfl, rfl, rfl, by decide +kernel, rfl, by decide +kernel, by decide +kernel⟩
theorem ok_law_at (F : Fun K "_law_at" "_law_at" s_law_at f fd) (m_len : mg "len" = none) : FnOk P w K mg base CX0 1 f fd ["script", "k"] (upF K Dp.sp_law_at) := by
  refine fn_deep (b := Dp.b_law_at) F sc_law_at Dp.len_law_at Dp.bo_law_at (fun cdv A outer s H E hr => ?_)
  unfold Dp.b_law_at
  exact (psds_cons (psd_if (pt_cmpD od_Lt (pd_var (pv 1)) (pd_b bd_Len rfl m_len boot_len (pd_cons (pd_var (pv 0)) pd_nil))) (psds_one (psd_ret (pd_ix (pd_var (pv 0)) (pd_var (pv 1)) (fun _ _ => rfl)))) psds_nil)
    (psds_one (psd_ret pd_int)))
theorem sc_law_mix : FnScope ["cell", "k", "size", "prime", "base", "mixed"] ["cell", "k", "size"] (defScope s_law_mix) := ⟨rfl, rfl, rfl, by decide +kernel, rfl, by decide +kernel, by decide +kernel⟩
theorem ok_law_mix (F : Fun K "_law_mix" "_law_mix" s_law_mix f fd) : FnOk P w K mg base CX0 1 f fd ["cell", "k", "size"] (upF K Dp.sp_law_mix) := by
  refine fn_deep (b := Dp.b_law_mix) F sc_law_mix Dp.len_law_mix Dp.bo_law_mix (fun cdv A outer s H E hr => ?_)
  unfold Dp.b_law_mix
  exact (psds_cons (psd_set (i := 3) sc_law_mix.nd rfl (Or.inl rfl) pd_int)
    (psds_cons (psd_set (i := 4) sc_law_mix.nd rfl (Or.inl rfl) (pd_mul (pd_add (pd_add (pd_mod (pd_var (pv 0)) (pd_powc 1000000000000000000000000000000000000000000000000000000000000 (by decide +kernel) ⟨by decide, by decide, by decide⟩)) (pd_mul pd_int (pd_var (pv 1)))) pd_int) pd_int))
    (psds_cons (psd_set (i := 5) sc_law_mix.nd rfl (Or.inl rfl) (pd_mod (pd_mul (pd_var (pv 4)) (pd_var (pv 4))) (pd_var (pv 3))))
    (psds_cons (psd_set (i := 5) sc_law_mix.nd rfl (Or.inl rfl) (pd_mod (pd_mul (pd_add (pd_var (pv 5)) (pd_mul pd_int (pd_add (pd_var (pv 1)) pd_int))) (pd_var (pv 5))) (pd_var (pv 3))))
    (psds_one (psd_ret (pd_mod (pd_div (pd_var (pv 5)) pd_int) (pd_var (pv 2)))))))))
theorem sc_law_folded : FnScope ["script", "first", "most", "numbers", "k", "kept"] ["script", "first", "most"] (defScope s_law_folded) := ⟨rfl, rfl, rfl, by decide +kernel, rfl, by decide +kernel, by decide +kernel⟩
theorem ok_law_folded (F : Fun K "_law_folded" "_law_folded" s_law_folded f fd) (m_range : mg "range" = none) (m_len : mg "len" = none) : FnOk P w K mg base CX0 1 f fd ["script", "first", "most"] (upF K Dp.sp_law_folded) := by
  refine fn_deep (b := Dp.b_law_folded) F sc_law_folded Dp.len_law_folded Dp.bo_law_folded (fun cdv A outer s H E hr => ?_)
  unfold Dp.b_law_folded
  exact (psds_cons (psd_set (i := 3) sc_law_folded.nd rfl (Or.inl rfl) (pd_lst pd_nil))
    (psds_cons (psd_for PassesOwn.never rfl (id_rng2 rfl m_range (pd_cons (pd_var (pv 1)) (pd_cons (pd_b bd_Len rfl m_len boot_len (pd_cons (pd_var (pv 0)) pd_nil)) pd_nil))) (pgd_name (i := 4) sc_law_folded.nd rfl (Or.inl rfl)) (psds_one (psd_if (pt_cmpD od_Lt (pd_b bd_Len rfl m_len boot_len (pd_cons (pd_var (pv 3)) pd_nil)) (pd_var (pv 2))) (psds_one (psd_expr (pd_m PySem.F.slot_list_append PySem.F.type_list_append md_append (pd_var (pv 3)) (pd_cons (pd_mod (pd_ix (pd_var (pv 0)) (pd_var (pv 4)) (fun _ _ => rfl)) (pd_powc 1000000000000000000000000000000000000000000000000000000000000 (by decide +kernel) ⟨by decide, by decide, by decide⟩)) pd_nil)))) (psds_cons (psd_set (i := 5) sc_law_folded.nd rfl (Or.inl rfl) (pd_add (pd_mul (pd_ix (pd_var (pv 3)) (pd_mod (pd_var (pv 4)) (pd_var (pv 2))) (fun _ _ => rfl)) pd_int) (pd_mod (pd_ix (pd_var (pv 0)) (pd_var (pv 4)) (fun _ _ => rfl)) (pd_powc 1000000000000000000000000000000000000000000000000000000000000 (by decide +kernel) ⟨by decide, by decide, by decide⟩))))
    (psds_one (psd_asg (pd_mod (pd_var (pv 5)) (pd_powc 1000000000000000000000000000000000000000000000000000000000000 (by decide +kernel) ⟨by decide, by decide, by decide⟩)) (pgd_sub (pd_var (pv 3)) (pd_mod (pd_var (pv 4)) (pd_var (pv 2))))))))))
    (psds_one (psd_ret (pd_var (pv 3))))))
theorem sc_law_marks : FnScope ["numbers", "k"] ["numbers", "k"] (defScope s_law_marks) := ⟨rfl, rfl, rfl, by decide +kernel, rfl, by decide +kernel, by decide +kernel⟩
theorem ok_law_marks (F : Fun K "_law_marks" "_law_marks" s_law_marks f fd) (G_law_mix : Got P w K mg base 1 "_law_mix" ["cell", "k", "size"] (upF K Dp.sp_law_mix)) (m_range : mg "range" = none) (m_len : mg "len" = none) : FnOk P w K mg base CX0 2 f fd ["numbers", "k"] (upF K Dp.sp_law_marks) := by
  refine fn_deep (b := Dp.b_law_marks) F sc_law_marks Dp.len_law_marks Dp.bo_law_marks (fun cdv A outer s H E hr => ?_)
  unfold Dp.b_law_marks
  exact (psds_one (psd_ret (pd_lc (own := ["cell"]) (free := ["k"]) (fv := [1]) rfl rfl rfl (by decide +kernel) (by decide +kernel) ⟨rfl, True.intro⟩ ⟨rfl, rfl, rfl, True.intro⟩ (id_seq (pd_add (pd_var (pv 0)) (pd_lc (own := ["j"]) (free := ["k"]) (fv := [1]) rfl rfl rfl (by decide +kernel) (by decide +kernel) ⟨rfl, True.intro⟩ ⟨rfl, rfl, rfl, True.intro⟩ (id_rng1 rfl m_range (pd_cons (pd_sub pd_int (pd_b bd_Len rfl m_len boot_len (pd_cons (pd_var (pv 0)) pd_nil))) pd_nil)) ⟨(grel_name 0 (by decide)), fun _ _ _ _ _ => (pg_name (i := 0) (show List.Nodup (["j", "k"] : List Str) by decide +kernel) rfl (Or.inl rfl) (Or.inr rfl))⟩ (fun _ _ _ _ _ => pfd_nil) (fun _ _ _ _ _ => (pd_var (pv 1)))))) ⟨(grel_name 0 (by decide)), fun _ _ _ _ _ => (pg_name (i := 0) (show List.Nodup (["cell", "k"] : List Str) by decide +kernel) rfl (Or.inl rfl) (Or.inr rfl))⟩ (fun _ _ _ _ _ => pfd_nil) (fun _ _ _ _ _ => (pd_cmp (od_Eq hr) (pd_call G_law_mix hr (by decide) rfl (pd_cons (pd_var (pv 0)) (pd_cons (pd_var (pv 1)) (pd_cons pd_int pd_nil)))) pd_int)))))
theorem sc_tidy : FnScope ["pairs", "found", "low", "high"] ["pairs"] (defScope s_tidy) := ⟨rfl, rfl, rfl, by decide +kernel, rfl, by decide +kernel, by decide +kernel⟩
theorem ok_tidy (F : Fun K "tidy" "tidy" s_tidy f fd) (m_sorted : mg "sorted" = none) (m_len : mg "len" = none) (m_max : mg "max" = none) (m_tuple : mg "tuple" = none) : FnOk P w K mg base CX0 1 f fd ["pairs"] (upF K Dp.sp_tidy) := by
  refine fn_deep (b := Dp.b_tidy) F sc_tidy Dp.len_tidy Dp.bo_tidy (fun cdv A outer s H E hr => ?_)
  unfold Dp.b_tidy
  exact (psds_cons (psd_set (i := 1) sc_tidy.nd rfl (Or.inl rfl) (pd_lst pd_nil))
    (psds_cons (psd_for PassesOwn.never rfl (id_seq (pd_b bd_Sort rfl m_sorted boot_sorted (pd_cons (pd_lc (own := ["pair"]) (free := []) (fv := []) rfl rfl rfl (by decide +kernel) (by decide +kernel) True.intro True.intro (id_seq (pd_var (pv 0))) ⟨(grel_name 0 (by decide)), fun _ _ _ _ _ => (pg_name (i := 0) (show List.Nodup (["pair"] : List Str) by decide +kernel) rfl (Or.inl rfl) (Or.inr rfl))⟩ (fun _ _ _ _ _ => (pfd_one (pt_cmpD od_Le (pd_ix (pd_var (pv 0)) pd_int (fun _ _ => rfl)) (pd_ix (pd_var (pv 0)) pd_int (fun _ _ => rfl))))) (fun _ _ _ _ _ => (pd_tup (pd_cons (pd_ix (pd_var (pv 0)) pd_int (fun _ _ => rfl)) (pd_cons (pd_ix (pd_var (pv 0)) pd_int (fun _ _ => rfl)) pd_nil))))) pd_nil))) (pgd_tup (n := 2) rfl (pgd_cons (pgd_name (i := 2) sc_tidy.nd rfl (Or.inl rfl)) (pgd_cons (pgd_name (i := 3) sc_tidy.nd rfl (Or.inl rfl)) pgd_nil))) (psds_one (psd_if (pw_ptD (pw_andD (pt_cmpD od_Gt (pd_b bd_Len rfl m_len boot_len (pd_cons (pd_var (pv 1)) pd_nil)) pd_int) (pw_and1D (pt_cmpD od_Le (pd_var (pv 2)) (pd_add (pd_ix (pd_ix (pd_var (pv 1)) (pd_neg pd_int) (fun _ _ => rfl)) pd_int (fun _ _ => rfl)) pd_int))))) (psds_one (psd_asg (pd_tup (pd_cons (pd_ix (pd_ix (pd_var (pv 1)) (pd_neg pd_int) (fun _ _ => rfl)) pd_int (fun _ _ => rfl)) (pd_cons (pd_b bd_Max2 rfl m_max boot_max (pd_cons (pd_ix (pd_ix (pd_var (pv 1)) (pd_neg pd_int) (fun _ _ => rfl)) pd_int (fun _ _ => rfl)) (pd_cons (pd_var (pv 3)) pd_nil))) pd_nil))) (pgd_sub (pd_var (pv 1)) (pd_neg pd_int)))) (psds_one (psd_expr (pd_m PySem.F.slot_list_append PySem.F.type_list_append md_append (pd_var (pv 1)) (pd_cons (pd_tup (pd_cons (pd_var (pv 2)) (pd_cons (pd_var (pv 3)) pd_nil))) pd_nil)))))))
    (psds_one (psd_ret (pd_bt bd_Tuple rfl m_tuple boot_tuple (pd_cons (pd_var (pv 1)) pd_nil))))))
theorem sc_law_runs : FnScope ["marks", "first", "told", "k"] ["marks", "first"] (defScope s_law_runs) := ⟨rfl, rfl, rfl, by decide +kernel, rfl, by decide +kernel, by decide +kernel⟩
theorem ok_law_runs (F : Fun K "_law_runs" "_law_runs" s_law_runs f fd) (m_range : mg "range" = none) (m_len : mg "len" = none) (m_tuple : mg "tuple" = none) : FnOk P w K mg base CX0 1 f fd ["marks", "first"] (upF K Dp.sp_law_runs) := by
  refine fn_deep (b := Dp.b_law_runs) F sc_law_runs Dp.len_law_runs Dp.bo_law_runs (fun cdv A outer s H E hr => ?_)
  unfold Dp.b_law_runs
  exact (psds_cons (psd_set (i := 2) sc_law_runs.nd rfl (Or.inl rfl) (pd_lst pd_nil))
    (psds_cons (psd_for PassesOwn.never rfl (id_rng1 rfl m_range (pd_cons (pd_b bd_Len rfl m_len boot_len (pd_cons (pd_var (pv 0)) pd_nil)) pd_nil)) (pgd_name (i := 3) sc_law_runs.nd rfl (Or.inl rfl)) (psds_one (psd_if (pt_valD (pd_ix (pd_var (pv 0)) (pd_var (pv 3)) (fun _ _ => rfl))) (psds_one (psd_if (pw_ptD (pw_andD (pt_cmpD od_Gt (pd_var (pv 3)) pd_int) (pw_and1D (pt_valD (pd_ix (pd_var (pv 0)) (pd_sub (pd_var (pv 3)) pd_int) (fun _ _ => rfl)))))) (psds_one (psd_asg (pd_tup (pd_cons (pd_ix (pd_ix (pd_var (pv 2)) (pd_neg pd_int) (fun _ _ => rfl)) pd_int (fun _ _ => rfl)) (pd_cons (pd_add (pd_var (pv 1)) (pd_var (pv 3))) pd_nil))) (pgd_sub (pd_var (pv 2)) (pd_neg pd_int)))) (psds_one (psd_expr (pd_m PySem.F.slot_list_append PySem.F.type_list_append md_append (pd_var (pv 2)) (pd_cons (pd_tup (pd_cons (pd_add (pd_var (pv 1)) (pd_var (pv 3))) (pd_cons (pd_add (pd_var (pv 1)) (pd_var (pv 3))) pd_nil))) pd_nil)))))) psds_nil)))
    (psds_one (psd_ret (pd_bt bd_Tuple rfl m_tuple boot_tuple (pd_cons (pd_var (pv 2)) pd_nil))))))
theorem sc_both : FnScope ["one", "other", "found", "low", "high", "other_low", "other_high"] ["one", "other"] (defScope s_both) := ⟨rfl, rfl, rfl, by decide +kernel, rfl, by decide +kernel, by decide +kernel⟩
theorem ok_both (F : Fun K "both" "both" s_both f fd) (G_tidy : Got P w K mg base 1 "tidy" ["pairs"] (upF K Dp.sp_tidy)) (m_max : mg "max" = none) (m_min : mg "min" = none) : FnOk P w K mg base CX0 2 f fd ["one", "other"] (upF K Dp.sp_both) := by
  refine fn_deep (b := Dp.b_both) F sc_both Dp.len_both Dp.bo_both (fun cdv A outer s H E hr => ?_)
  unfold Dp.b_both
  exact (psds_cons (psd_set (i := 2) sc_both.nd rfl (Or.inl rfl) (pd_lst pd_nil))
    (psds_cons (psd_for PassesOwn.never rfl (id_seq (pd_var (pv 0))) (pgd_tup (n := 2) rfl (pgd_cons (pgd_name (i := 3) sc_both.nd rfl (Or.inl rfl)) (pgd_cons (pgd_name (i := 4) sc_both.nd rfl (Or.inl rfl)) pgd_nil))) (psds_one (psd_for PassesOwn.never rfl (id_seq (pd_var (pv 1))) (pgd_tup (n := 2) rfl (pgd_cons (pgd_name (i := 5) sc_both.nd rfl (Or.inl rfl)) (pgd_cons (pgd_name (i := 6) sc_both.nd rfl (Or.inl rfl)) pgd_nil))) (psds_one (psd_expr (pd_m PySem.F.slot_list_append PySem.F.type_list_append md_append (pd_var (pv 2)) (pd_cons (pd_tup (pd_cons (pd_b bd_Max2 rfl m_max boot_max (pd_cons (pd_var (pv 3)) (pd_cons (pd_var (pv 5)) pd_nil))) (pd_cons (pd_b bd_Min2 rfl m_min boot_min (pd_cons (pd_var (pv 4)) (pd_cons (pd_var (pv 6)) pd_nil))) pd_nil))) pd_nil)))))))
    (psds_one (psd_ret (pd_call G_tidy hr (by decide) rfl (pd_cons (pd_var (pv 2)) pd_nil))))))
theorem sc_either : FnScope ["one", "other"] ["one", "other"] (defScope s_either) := ⟨rfl, rfl, rfl, by decide +kernel, rfl, by decide +kernel, by decide +kernel⟩
theorem ok_either (F : Fun K "either" "either" s_either f fd) (G_tidy : Got P w K mg base 1 "tidy" ["pairs"] (upF K Dp.sp_tidy)) : FnOk P w K mg base CX0 2 f fd ["one", "other"] (upF K Dp.sp_either) := by
  refine fn_deep (b := Dp.b_either) F sc_either Dp.len_either Dp.bo_either (fun cdv A outer s H E hr => ?_)
  unfold Dp.b_either
  exact (psds_one (psd_ret (pd_call G_tidy hr (by decide) rfl (pd_cons (pd_add (pd_var (pv 0)) (pd_var (pv 1))) pd_nil))))
theorem sc_gaps : FnScope ["spans", "low", "high", "found", "start", "span"] ["spans", "low", "high"] (defScope s_gaps) := ⟨rfl, rfl, rfl, by decide +kernel, rfl, by decide +kernel, by decide +kernel⟩
theorem ok_gaps (F : Fun K "gaps" "gaps" s_gaps f fd) (G_tidy : Got P w K mg base 1 "tidy" ["pairs"] (upF K Dp.sp_tidy)) : FnOk P w K mg base CX0 2 f fd ["spans", "low", "high"] (upF K Dp.sp_gaps) := by
  refine fn_deep (b := Dp.b_gaps) F sc_gaps Dp.len_gaps Dp.bo_gaps (fun cdv A outer s H E hr => ?_)
  unfold Dp.b_gaps
  exact (psds_cons (psd_set (i := 3) sc_gaps.nd rfl (Or.inl rfl) (pd_lst pd_nil))
    (psds_cons (psd_set (i := 4) sc_gaps.nd rfl (Or.inl rfl) (pd_var (pv 1)))
    (psds_cons (psd_for PassesOwn.never rfl (id_seq (pd_var (pv 0))) (pgd_name (i := 5) sc_gaps.nd rfl (Or.inl rfl)) (psds_cons (psd_expr (pd_m PySem.F.slot_list_append PySem.F.type_list_append md_append (pd_var (pv 3)) (pd_cons (pd_tup (pd_cons (pd_var (pv 4)) (pd_cons (pd_sub (pd_ix (pd_var (pv 5)) pd_int (fun _ _ => rfl)) pd_int) pd_nil))) pd_nil)))
    (psds_one (psd_set (i := 4) sc_gaps.nd rfl (Or.inl rfl) (pd_add (pd_ix (pd_var (pv 5)) pd_int (fun _ _ => rfl)) pd_int)))))
    (psds_cons (psd_expr (pd_m PySem.F.slot_list_append PySem.F.type_list_append md_append (pd_var (pv 3)) (pd_cons (pd_tup (pd_cons (pd_var (pv 4)) (pd_cons (pd_var (pv 2)) pd_nil))) pd_nil)))
    (psds_one (psd_ret (pd_call G_tidy hr (by decide) rfl (pd_cons (pd_var (pv 3)) pd_nil))))))))
theorem sc_without : FnScope ["one", "other"] ["one", "other"] (defScope s_without) := ⟨rfl, rfl, rfl, by decide +kernel, rfl, by decide +kernel, by decide +kernel⟩
theorem ok_without (F : Fun K "without" "without" s_without f fd) (G_gaps : Got P w K mg base 2 "gaps" ["spans", "low", "high"] (upF K Dp.sp_gaps)) (G_both : Got P w K mg base 2 "both" ["one", "other"] (upF K Dp.sp_both)) (m_len : mg "len" = none) : FnOk P w K mg base CX0 3 f fd ["one", "other"] (upF K Dp.sp_without) := by
  refine fn_deep (b := Dp.b_without) F sc_without Dp.len_without Dp.bo_without (fun cdv A outer s H E hr => ?_)
  unfold Dp.b_without
  exact (psds_cons (psd_if (pt_cmpD (od_Eq hr) (pd_b bd_Len rfl m_len boot_len (pd_cons (pd_var (pv 0)) pd_nil)) pd_int) (psds_one (psd_ret (pd_tup pd_nil))) psds_nil)
    (psds_one (psd_ret (pd_call G_both hr (by decide) rfl (pd_cons (pd_var (pv 0)) (pd_cons (pd_call G_gaps hr (by decide) rfl (pd_cons (pd_var (pv 1)) (pd_cons (pd_ix (pd_ix (pd_var (pv 0)) pd_int (fun _ _ => rfl)) pd_int (fun _ _ => rfl)) (pd_cons (pd_ix (pd_ix (pd_var (pv 0)) (pd_neg pd_int) (fun _ _ => rfl)) pd_int (fun _ _ => rfl)) pd_nil)))) pd_nil))))))
theorem sc_holds : FnScope ["spans", "hour"] ["spans", "hour"] (defScope s_holds) := ⟨rfl, rfl, rfl, by decide +kernel, rfl, by decide +kernel, by decide +kernel⟩
theorem ok_holds (F : Fun K "holds" "holds" s_holds f fd) (m_any : mg "any" = none) : FnOk P w K mg base CX0 1 f fd ["spans", "hour"] (upF K Dp.sp_holds) := by
  refine fn_deep (b := Dp.b_holds) F sc_holds Dp.len_holds Dp.bo_holds (fun cdv A outer s H E hr => ?_)
  unfold Dp.b_holds
  exact (psds_one (psd_ret (pd_b bd_Any rfl m_any boot_any (pd_cons (pd_lc (own := ["low", "high"]) (free := ["hour"]) (fv := [1]) rfl rfl rfl (by decide +kernel) (by decide +kernel) ⟨rfl, True.intro⟩ ⟨rfl, rfl, rfl, True.intro⟩ (id_seq (pd_var (pv 0))) ⟨(grel_tup (gsrel_cons (grel_name 0 (by decide)) (gsrel_cons (grel_name 1 (by decide)) gsrel_nil))), fun _ _ _ _ _ => (pg_tup (n := 2) rfl (pgs_cons (pg_name (i := 0) (show List.Nodup (["low", "high", "hour"] : List Str) by decide +kernel) rfl (Or.inl rfl) (Or.inr rfl)) (pgs_cons (pg_name (i := 1) (show List.Nodup (["low", "high", "hour"] : List Str) by decide +kernel) rfl (Or.inl rfl) (Or.inr rfl)) pgs_nil)))⟩ (fun _ _ _ _ _ => pfd_nil) (fun _ _ _ _ _ => (pd_chain od_Le od_Le (pd_var (pv 0)) (pd_var (pv 2)) (pd_var (pv 1))))) pd_nil))))
theorem sc_first_from : FnScope ["spans", "hour", "low", "high"] ["spans", "hour"] (defScope s_first_from) := ⟨rfl, rfl, rfl, by decide +kernel, rfl, by decide +kernel, by decide +kernel⟩
theorem ok_first_from (F : Fun K "first_from" "first_from" s_first_from f fd) (m_max : mg "max" = none) : FnOk P w K mg base CX0 1 f fd ["spans", "hour"] (upF K Dp.sp_first_from) := by
  refine fn_deep (b := Dp.b_first_from) F sc_first_from Dp.len_first_from Dp.bo_first_from (fun cdv A outer s H E hr => ?_)
  unfold Dp.b_first_from
  exact (psds_cons (psd_for PassesOwn.never rfl (id_seq (pd_var (pv 0))) (pgd_tup (n := 2) rfl (pgd_cons (pgd_name (i := 2) sc_first_from.nd rfl (Or.inl rfl)) (pgd_cons (pgd_name (i := 3) sc_first_from.nd rfl (Or.inl rfl)) pgd_nil))) (psds_one (psd_if (pt_cmpD od_Le (pd_var (pv 1)) (pd_var (pv 3))) (psds_one (psd_ret (pd_b bd_Max2 rfl m_max boot_max (pd_cons (pd_var (pv 2)) (pd_cons (pd_var (pv 1)) pd_nil))))) psds_nil)))
    (psds_one (psd_ret pd_non)))
theorem sc_last_to : FnScope ["spans", "hour", "low", "high"] ["spans", "hour"] (defScope s_last_to) := ⟨rfl, rfl, rfl, by decide +kernel, rfl, by decide +kernel, by decide +kernel⟩
theorem ok_last_to (F : Fun K "last_to" "last_to" s_last_to f fd) (m_reversed : mg "reversed" = none) (m_min : mg "min" = none) : FnOk P w K mg base CX0 1 f fd ["spans", "hour"] (upF K Dp.sp_last_to) := by
  refine fn_deep (b := Dp.b_last_to) F sc_last_to Dp.len_last_to Dp.bo_last_to (fun cdv A outer s H E hr => ?_)
  unfold Dp.b_last_to
  exact (psds_cons (psd_for PassesOwn.never rfl (id_reversed rfl m_reversed (pd_cons (pd_var (pv 0)) pd_nil)) (pgd_tup (n := 2) rfl (pgd_cons (pgd_name (i := 2) sc_last_to.nd rfl (Or.inl rfl)) (pgd_cons (pgd_name (i := 3) sc_last_to.nd rfl (Or.inl rfl)) pgd_nil))) (psds_one (psd_if (pt_cmpD od_Le (pd_var (pv 2)) (pd_var (pv 1))) (psds_one (psd_ret (pd_b bd_Min2 rfl m_min boot_min (pd_cons (pd_var (pv 3)) (pd_cons (pd_var (pv 1)) pd_nil))))) psds_nil)))
    (psds_one (psd_ret pd_non)))
theorem sc_many : FnScope ["spans"] ["spans"] (defScope s_many) := ⟨rfl, rfl, rfl, by decide +kernel, rfl, by decide +kernel, by decide +kernel⟩
theorem ok_many (F : Fun K "many" "many" s_many f fd) (m_sum : mg "sum" = none) : FnOk P w K mg base CX0 1 f fd ["spans"] (upF K Dp.sp_many) := by
  refine fn_deep (b := Dp.b_many) F sc_many Dp.len_many Dp.bo_many (fun cdv A outer s H E hr => ?_)
  unfold Dp.b_many
  exact (psds_one (psd_ret (pd_b bd_Sum rfl m_sum boot_sum (pd_cons (pd_lc (own := ["low", "high"]) (free := []) (fv := []) rfl rfl rfl (by decide +kernel) (by decide +kernel) True.intro True.intro (id_seq (pd_var (pv 0))) ⟨(grel_tup (gsrel_cons (grel_name 0 (by decide)) (gsrel_cons (grel_name 1 (by decide)) gsrel_nil))), fun _ _ _ _ _ => (pg_tup (n := 2) rfl (pgs_cons (pg_name (i := 0) (show List.Nodup (["low", "high"] : List Str) by decide +kernel) rfl (Or.inl rfl) (Or.inr rfl)) (pgs_cons (pg_name (i := 1) (show List.Nodup (["low", "high"] : List Str) by decide +kernel) rfl (Or.inl rfl) (Or.inr rfl)) pgs_nil)))⟩ (fun _ _ _ _ _ => pfd_nil) (fun _ _ _ _ _ => (pd_add (pd_sub (pd_var (pv 1)) (pd_var (pv 0))) pd_int))) pd_nil))))
theorem sc_law_ways_good : FnScope ["spans", "marks", "first", "k", "held", "later", "sooner"] ["spans", "marks", "first"] (defScope s_law_ways_good) := ⟨rfl, rfl, rfl, by decide +kernel, rfl, by decide +kernel, by decide +kernel⟩
theorem ok_law_ways_good (F : Fun K "_law_ways_good" "_law_ways_good" s_law_ways_good f fd) (G_holds : Got P w K mg base 1 "holds" ["spans", "hour"] (upF K Dp.sp_holds)) (G_first_from : Got P w K mg base 1 "first_from" ["spans", "hour"] (upF K Dp.sp_first_from)) (G_last_to : Got P w K mg base 1 "last_to" ["spans", "hour"] (upF K Dp.sp_last_to)) (G_many : Got P w K mg base 1 "many" ["spans"] (upF K Dp.sp_many)) (m_range : mg "range" = none) (m_max : mg "max" = none) (m_min : mg "min" = none) (m_len : mg "len" = none) : FnOk P w K mg base CX0 2 f fd ["spans", "marks", "first"] (upF K Dp.sp_law_ways_good) := by
  refine fn_deep (b := Dp.b_law_ways_good) F sc_law_ways_good Dp.len_law_ways_good Dp.bo_law_ways_good (fun cdv A outer s H E hr => ?_)
  unfold Dp.b_law_ways_good
  exact (psds_cons (psd_for PassesOwn.never rfl (id_rng2 rfl m_range (pd_cons (pd_neg pd_int) (pd_cons pd_int pd_nil))) (pgd_name (i := 3) sc_law_ways_good.nd rfl (Or.inl rfl)) (psds_cons (psd_set (i := 4) sc_law_ways_good.nd rfl (Or.inl rfl) (pd_andV (pd_cmp od_Le pd_int (pd_var (pv 3))) (pd_andV (pd_cmp od_Lt (pd_var (pv 3)) pd_int) (pd_one (pd_ix (pd_var (pv 1)) (pd_var (pv 3)) (fun _ _ => rfl))))))
    (psds_cons (psd_if (pt_cmpD (od_Ne hr) (pd_call G_holds hr (by decide) rfl (pd_cons (pd_var (pv 0)) (pd_cons (pd_add (pd_var (pv 2)) (pd_var (pv 3))) pd_nil))) (pd_var (pv 4))) (psds_one (psd_ret pd_bl)) psds_nil)
    (psds_cons (psd_setC (i := 5) sc_law_ways_good.nd rfl rfl (own := ["j"]) (free := ["first", "marks"]) (fv := [2, 1]) rfl rfl rfl (by decide +kernel) (by decide +kernel) ⟨rfl, rfl, True.intro⟩ ⟨rfl, rfl, rfl, rfl, rfl, rfl, True.intro⟩ (id_rng2 rfl m_range (pd_cons (pd_b bd_Max2 rfl m_max boot_max (pd_cons pd_int (pd_cons (pd_var (pv 3)) pd_nil))) (pd_cons pd_int pd_nil))) ⟨(grel_name 0 (by decide)), fun _ _ _ _ _ => (pg_name (i := 0) (show List.Nodup (["j", "first", "marks"] : List Str) by decide +kernel) rfl (Or.inl rfl) (Or.inr rfl))⟩ (fun _ _ _ _ _ => (pfd_one (pt_valD (pd_ix (pd_var (pv 2)) (pd_var (pv 0)) (fun _ _ => rfl))))) (fun _ _ _ _ _ => (pd_add (pd_var (pv 1)) (pd_var (pv 0)))))
    (psds_cons (psd_setC (i := 6) sc_law_ways_good.nd rfl rfl (own := ["j"]) (free := ["first", "marks"]) (fv := [2, 1]) rfl rfl rfl (by decide +kernel) (by decide +kernel) ⟨rfl, rfl, True.intro⟩ ⟨rfl, rfl, rfl, rfl, rfl, rfl, True.intro⟩ (id_rng2 rfl m_range (pd_cons pd_int (pd_cons (pd_b bd_Min2 rfl m_min boot_min (pd_cons pd_int (pd_cons (pd_add (pd_var (pv 3)) pd_int) pd_nil))) pd_nil))) ⟨(grel_name 0 (by decide)), fun _ _ _ _ _ => (pg_name (i := 0) (show List.Nodup (["j", "first", "marks"] : List Str) by decide +kernel) rfl (Or.inl rfl) (Or.inr rfl))⟩ (fun _ _ _ _ _ => (pfd_one (pt_valD (pd_ix (pd_var (pv 2)) (pd_var (pv 0)) (fun _ _ => rfl))))) (fun _ _ _ _ _ => (pd_add (pd_var (pv 1)) (pd_var (pv 0)))))
    (psds_cons (psd_if (pt_cmpD (od_Ne hr) (pd_call G_first_from hr (by decide) rfl (pd_cons (pd_var (pv 0)) (pd_cons (pd_add (pd_var (pv 2)) (pd_var (pv 3))) pd_nil))) (pd_minD rfl m_min (pd_cons (pd_var (pv 5)) pd_nil))) (psds_one (psd_ret pd_bl)) psds_nil)
    (psds_one (psd_if (pt_cmpD (od_Ne hr) (pd_call G_last_to hr (by decide) rfl (pd_cons (pd_var (pv 0)) (pd_cons (pd_add (pd_var (pv 2)) (pd_var (pv 3))) pd_nil))) (pd_maxD rfl m_max (pd_cons (pd_var (pv 6)) pd_nil))) (psds_one (psd_ret pd_bl)) psds_nil))))))))
    (psds_one (psd_ret (pd_cmp (od_Eq hr) (pd_call G_many hr (by decide) rfl (pd_cons (pd_var (pv 0)) pd_nil)) (pd_b bd_Len rfl m_len boot_len (pd_cons (pd_lc (own := ["mark"]) (free := []) (fv := []) rfl rfl rfl (by decide +kernel) (by decide +kernel) True.intro True.intro (id_seq (pd_var (pv 1))) ⟨(grel_name 0 (by decide)), fun _ _ _ _ _ => (pg_name (i := 0) (show List.Nodup (["mark"] : List Str) by decide +kernel) rfl (Or.inl rfl) (Or.inr rfl))⟩ (fun _ _ _ _ _ => (pfd_one (pt_valD (pd_var (pv 0))))) (fun _ _ _ _ _ => (pd_var (pv 0)))) pd_nil))))))
theorem sc_law : FnScope ["script", "first", "numbers", "one", "other", "mine", "yours", "pairs"] ["script"] (defScope s_law) := ⟨rfl, rfl, rfl, by decide +kernel, rfl, by decide +kernel, by decide +kernel⟩
theorem ok_law (F : Fun K "law" "law" s_law f fd) (G_law_at : Got P w K mg base 1 "_law_at" ["script", "k"] (upF K Dp.sp_law_at)) (G_law_mix : Got P w K mg base 1 "_law_mix" ["cell", "k", "size"] (upF K Dp.sp_law_mix)) (G_law_folded : Got P w K mg base 1 "_law_folded" ["script", "first", "most"] (upF K Dp.sp_law_folded)) (G_law_marks : Got P w K mg base 2 "_law_marks" ["numbers", "k"] (upF K Dp.sp_law_marks)) (G_tidy : Got P w K mg base 1 "tidy" ["pairs"] (upF K Dp.sp_tidy)) (G_law_runs : Got P w K mg base 1 "_law_runs" ["marks", "first"] (upF K Dp.sp_law_runs)) (G_both : Got P w K mg base 2 "both" ["one", "other"] (upF K Dp.sp_both)) (G_either : Got P w K mg base 2 "either" ["one", "other"] (upF K Dp.sp_either)) (G_without : Got P w K mg base 3 "without" ["one", "other"] (upF K Dp.sp_without)) (G_law_ways_good : Got P w K mg base 2 "_law_ways_good" ["spans", "marks", "first"] (upF K Dp.sp_law_ways_good)) (m_range : mg "range" = none) (m_list : mg "list" = none) (m_zip : mg "zip" = none) : FnOk P w K mg base CX0 4 f fd ["script"] (upF K Dp.sp_law) := by
  refine fn_deep (b := Dp.b_law) F sc_law Dp.len_law Dp.bo_law (fun cdv A outer s H E hr => ?_)
  unfold Dp.b_law
  exact (psds_cons (psd_set (i := 1) sc_law.nd rfl (Or.inr rfl) (pd_ix (pd_lst (pd_cons pd_int (pd_cons (pd_sub (pd_mod (pd_call G_law_at hr (by decide) rfl (pd_cons (pd_var (pv 0)) (pd_cons pd_int pd_nil))) (pd_powc 100000000000000000000000000000000000000000000000000 (by decide +kernel) ⟨by decide, by decide, by decide⟩)) (pd_mul pd_int (pd_powc 10000000000000000000000000000000000000000000000000 (by decide +kernel) ⟨by decide, by decide, by decide⟩))) pd_nil))) (pd_call G_law_mix hr (by decide) rfl (pd_cons (pd_call G_law_at hr (by decide) rfl (pd_cons (pd_var (pv 0)) (pd_cons pd_int pd_nil))) (pd_cons pd_int (pd_cons pd_int pd_nil)))) (fun _ _ => rfl)))
    (psds_cons (psd_set (i := 2) sc_law.nd rfl (Or.inl rfl) (pd_call G_law_folded hr (by decide) rfl (pd_cons (pd_var (pv 0)) (pd_cons pd_int (pd_cons pd_int pd_nil)))))
    (psds_cons (psd_set (i := 3) sc_law.nd rfl (Or.inr rfl) (pd_call G_law_marks hr (by decide) rfl (pd_cons (pd_var (pv 2)) (pd_cons pd_int pd_nil))))
    (psds_cons (psd_set (i := 4) sc_law.nd rfl (Or.inr rfl) (pd_call G_law_marks hr (by decide) rfl (pd_cons (pd_var (pv 2)) (pd_cons pd_int pd_nil))))
    (psds_cons (psd_set (i := 5) sc_law.nd rfl (Or.inl rfl) (pd_call G_tidy hr (by decide) rfl (pd_cons (pd_lc (own := ["k"]) (free := ["first", "one"]) (fv := [1, 3]) rfl rfl rfl (by decide +kernel) (by decide +kernel) ⟨rfl, rfl, True.intro⟩ ⟨rfl, rfl, rfl, rfl, rfl, rfl, True.intro⟩ (id_rng1 rfl m_range (pd_cons pd_int pd_nil)) ⟨(grel_name 0 (by decide)), fun _ _ _ _ _ => (pg_name (i := 0) (show List.Nodup (["k", "first", "one"] : List Str) by decide +kernel) rfl (Or.inl rfl) (Or.inr rfl))⟩ (fun _ _ _ _ _ => (pfd_one (pt_valD (pd_ix (pd_var (pv 2)) (pd_var (pv 0)) (fun _ _ => rfl))))) (fun _ _ _ _ _ => (pd_tup (pd_cons (pd_add (pd_var (pv 1)) (pd_var (pv 0))) (pd_cons (pd_add (pd_var (pv 1)) (pd_var (pv 0))) pd_nil))))) pd_nil)))
    (psds_cons (psd_set (i := 6) sc_law.nd rfl (Or.inl rfl) (pd_call G_tidy hr (by decide) rfl (pd_cons (pd_lc (own := ["k"]) (free := ["first", "other"]) (fv := [1, 4]) rfl rfl rfl (by decide +kernel) (by decide +kernel) ⟨rfl, rfl, True.intro⟩ ⟨rfl, rfl, rfl, rfl, rfl, rfl, True.intro⟩ (id_rng1 rfl m_range (pd_cons pd_int pd_nil)) ⟨(grel_name 0 (by decide)), fun _ _ _ _ _ => (pg_name (i := 0) (show List.Nodup (["k", "first", "other"] : List Str) by decide +kernel) rfl (Or.inl rfl) (Or.inr rfl))⟩ (fun _ _ _ _ _ => (pfd_one (pt_valD (pd_ix (pd_var (pv 2)) (pd_sub pd_int (pd_var (pv 0))) (fun _ _ => rfl))))) (fun _ _ _ _ _ => (pd_tup (pd_cons (pd_sub (pd_add (pd_var (pv 1)) pd_int) (pd_var (pv 0))) (pd_cons (pd_sub (pd_add (pd_var (pv 1)) pd_int) (pd_var (pv 0))) pd_nil))))) pd_nil)))
    (psds_cons (psd_if (pw_ptD (pw_orD (pt_cmpD (od_Ne hr) (pd_var (pv 5)) (pd_call G_law_runs hr (by decide) rfl (pd_cons (pd_var (pv 3)) (pd_cons (pd_var (pv 1)) pd_nil)))) (pw_or1D (pt_cmpD (od_Ne hr) (pd_var (pv 6)) (pd_call G_law_runs hr (by decide) rfl (pd_cons (pd_var (pv 4)) (pd_cons (pd_var (pv 1)) pd_nil))))))) (psds_one (psd_ret pd_bl)) psds_nil)
    (psds_cons (psd_set (i := 7) sc_law.nd rfl (Or.inl rfl) (pd_lzip rfl m_list rfl m_zip (pd_cons (pd_var (pv 3)) (pd_cons (pd_var (pv 4)) pd_nil))))
    (psds_cons (psd_if (pt_cmpD (od_Ne hr) (pd_call G_both hr (by decide) rfl (pd_cons (pd_var (pv 5)) (pd_cons (pd_var (pv 6)) pd_nil))) (pd_call G_law_runs hr (by decide) rfl (pd_cons (pd_lc (own := ["left", "right"]) (free := []) (fv := []) rfl rfl rfl (by decide +kernel) (by decide +kernel) True.intro True.intro (id_seq (pd_var (pv 7))) ⟨(grel_tup (gsrel_cons (grel_name 0 (by decide)) (gsrel_cons (grel_name 1 (by decide)) gsrel_nil))), fun _ _ _ _ _ => (pg_tup (n := 2) rfl (pgs_cons (pg_name (i := 0) (show List.Nodup (["left", "right"] : List Str) by decide +kernel) rfl (Or.inl rfl) (Or.inr rfl)) (pgs_cons (pg_name (i := 1) (show List.Nodup (["left", "right"] : List Str) by decide +kernel) rfl (Or.inl rfl) (Or.inr rfl)) pgs_nil)))⟩ (fun _ _ _ _ _ => pfd_nil) (fun _ _ _ _ _ => (pd_andV (pd_var (pv 0)) (pd_one (pd_var (pv 1)))))) (pd_cons (pd_var (pv 1)) pd_nil)))) (psds_one (psd_ret pd_bl)) psds_nil)
    (psds_cons (psd_if (pt_cmpD (od_Ne hr) (pd_call G_either hr (by decide) rfl (pd_cons (pd_var (pv 5)) (pd_cons (pd_var (pv 6)) pd_nil))) (pd_call G_law_runs hr (by decide) rfl (pd_cons (pd_lc (own := ["left", "right"]) (free := []) (fv := []) rfl rfl rfl (by decide +kernel) (by decide +kernel) True.intro True.intro (id_seq (pd_var (pv 7))) ⟨(grel_tup (gsrel_cons (grel_name 0 (by decide)) (gsrel_cons (grel_name 1 (by decide)) gsrel_nil))), fun _ _ _ _ _ => (pg_tup (n := 2) rfl (pgs_cons (pg_name (i := 0) (show List.Nodup (["left", "right"] : List Str) by decide +kernel) rfl (Or.inl rfl) (Or.inr rfl)) (pgs_cons (pg_name (i := 1) (show List.Nodup (["left", "right"] : List Str) by decide +kernel) rfl (Or.inl rfl) (Or.inr rfl)) pgs_nil)))⟩ (fun _ _ _ _ _ => pfd_nil) (fun _ _ _ _ _ => (pd_orV (pd_var (pv 0)) (pd_one (pd_var (pv 1)))))) (pd_cons (pd_var (pv 1)) pd_nil)))) (psds_one (psd_ret pd_bl)) psds_nil)
    (psds_cons (psd_if (pt_cmpD (od_Ne hr) (pd_call G_without hr (by decide) rfl (pd_cons (pd_var (pv 5)) (pd_cons (pd_var (pv 6)) pd_nil))) (pd_call G_law_runs hr (by decide) rfl (pd_cons (pd_lc (own := ["left", "right"]) (free := []) (fv := []) rfl rfl rfl (by decide +kernel) (by decide +kernel) True.intro True.intro (id_seq (pd_var (pv 7))) ⟨(grel_tup (gsrel_cons (grel_name 0 (by decide)) (gsrel_cons (grel_name 1 (by decide)) gsrel_nil))), fun _ _ _ _ _ => (pg_tup (n := 2) rfl (pgs_cons (pg_name (i := 0) (show List.Nodup (["left", "right"] : List Str) by decide +kernel) rfl (Or.inl rfl) (Or.inr rfl)) (pgs_cons (pg_name (i := 1) (show List.Nodup (["left", "right"] : List Str) by decide +kernel) rfl (Or.inl rfl) (Or.inr rfl)) pgs_nil)))⟩ (fun _ _ _ _ _ => pfd_nil) (fun _ _ _ _ _ => (pd_andV (pd_var (pv 0)) (pd_one (pd_notV (pd_var (pv 1))))))) (pd_cons (pd_var (pv 1)) pd_nil)))) (psds_one (psd_ret pd_bl)) psds_nil)
    (psds_one (psd_ret (pd_andV (pd_call G_law_ways_good hr (by decide) rfl (pd_cons (pd_var (pv 5)) (pd_cons (pd_var (pv 3)) (pd_cons (pd_var (pv 1)) pd_nil)))) (pd_one (pd_call G_law_ways_good hr (by decide) rfl (pd_cons (pd_var (pv 6)) (pd_cons (pd_var (pv 4)) (pd_cons (pd_var (pv 1)) pd_nil)))))))))))))))))))
end
theorem all_mk {l : PySem.W.OpenLaw} {w : World} {K : PySem.W.Frag} {h : Heap} {mg : Str → Option Value} {fa : Addr} (X : K.In h) (G : h.Ns mainGlobals mg) (hfa : mg "law" = some (.ref fa))
    {od_law_at an_law_at : Option Addr} {sl_law_at : Array (Option Value)} {oc_law_at kV_law_at dc_law_at pm_law_at cd_law_at ct_law_at : Value} {f_law_at : Addr}
    {od_law_mix an_law_mix : Option Addr} {sl_law_mix : Array (Option Value)} {oc_law_mix kV_law_mix dc_law_mix pm_law_mix cd_law_mix ct_law_mix : Value} {f_law_mix : Addr}
    {od_law_folded an_law_folded : Option Addr} {sl_law_folded : Array (Option Value)} {oc_law_folded kV_law_folded dc_law_folded pm_law_folded cd_law_folded ct_law_folded : Value} {f_law_folded : Addr}
    {od_law_marks an_law_marks : Option Addr} {sl_law_marks : Array (Option Value)} {oc_law_marks kV_law_marks dc_law_marks pm_law_marks cd_law_marks ct_law_marks : Value} {f_law_marks : Addr}
    {od_tidy an_tidy : Option Addr} {sl_tidy : Array (Option Value)} {oc_tidy kV_tidy dc_tidy pm_tidy cd_tidy ct_tidy : Value} {f_tidy : Addr}
    {od_law_runs an_law_runs : Option Addr} {sl_law_runs : Array (Option Value)} {oc_law_runs kV_law_runs dc_law_runs pm_law_runs cd_law_runs ct_law_runs : Value} {f_law_runs : Addr}
    {od_both an_both : Option Addr} {sl_both : Array (Option Value)} {oc_both kV_both dc_both pm_both cd_both ct_both : Value} {f_both : Addr}
    {od_either an_either : Option Addr} {sl_either : Array (Option Value)} {oc_either kV_either dc_either pm_either cd_either ct_either : Value} {f_either : Addr}
    {od_gaps an_gaps : Option Addr} {sl_gaps : Array (Option Value)} {oc_gaps kV_gaps dc_gaps pm_gaps cd_gaps ct_gaps : Value} {f_gaps : Addr}
    {od_without an_without : Option Addr} {sl_without : Array (Option Value)} {oc_without kV_without dc_without pm_without cd_without ct_without : Value} {f_without : Addr}
    {od_holds an_holds : Option Addr} {sl_holds : Array (Option Value)} {oc_holds kV_holds dc_holds pm_holds cd_holds ct_holds : Value} {f_holds : Addr}
    {od_first_from an_first_from : Option Addr} {sl_first_from : Array (Option Value)} {oc_first_from kV_first_from dc_first_from pm_first_from cd_first_from ct_first_from : Value} {f_first_from : Addr}
    {od_last_to an_last_to : Option Addr} {sl_last_to : Array (Option Value)} {oc_last_to kV_last_to dc_last_to pm_last_to cd_last_to ct_last_to : Value} {f_last_to : Addr}
    {od_many an_many : Option Addr} {sl_many : Array (Option Value)} {oc_many kV_many dc_many pm_many cd_many ct_many : Value} {f_many : Addr}
    {od_law_ways_good an_law_ways_good : Option Addr} {sl_law_ways_good : Array (Option Value)} {oc_law_ways_good kV_law_ways_good dc_law_ways_good pm_law_ways_good cd_law_ways_good ct_law_ways_good : Value} {f_law_ways_good : Addr}
    {od_law an_law : Option Addr} {sl_law : Array (Option Value)} {oc_law kV_law dc_law pm_law cd_law ct_law : Value} {f_law : Addr}
    (a_law_at : PySem.W.nsIn K mainGlobals "_law_at" = some (some (.ref f_law_at))) (l_law_at : K.lookup f_law_at = some ⟨oc_law_at, od_law_at, .func (PySem.W.fnOf "_law_at" "_law_at" (defArgs s_law_at) (defBody s_law_at) (defScope s_law_at) .none kV_law_at dc_law_at pm_law_at an_law_at cd_law_at ct_law_at), sl_law_at⟩) (c_law_at : PySem.W.codeIn K cd_law_at "_law_at" = true) (k_law_at : PySem.W.keepIn K (.ref f_law_at) = true)
    (a_law_mix : PySem.W.nsIn K mainGlobals "_law_mix" = some (some (.ref f_law_mix))) (l_law_mix : K.lookup f_law_mix = some ⟨oc_law_mix, od_law_mix, .func (PySem.W.fnOf "_law_mix" "_law_mix" (defArgs s_law_mix) (defBody s_law_mix) (defScope s_law_mix) .none kV_law_mix dc_law_mix pm_law_mix an_law_mix cd_law_mix ct_law_mix), sl_law_mix⟩) (c_law_mix : PySem.W.codeIn K cd_law_mix "_law_mix" = true) (k_law_mix : PySem.W.keepIn K (.ref f_law_mix) = true)
    (a_law_folded : PySem.W.nsIn K mainGlobals "_law_folded" = some (some (.ref f_law_folded))) (l_law_folded : K.lookup f_law_folded = some ⟨oc_law_folded, od_law_folded, .func (PySem.W.fnOf "_law_folded" "_law_folded" (defArgs s_law_folded) (defBody s_law_folded) (defScope s_law_folded) .none kV_law_folded dc_law_folded pm_law_folded an_law_folded cd_law_folded ct_law_folded), sl_law_folded⟩) (c_law_folded : PySem.W.codeIn K cd_law_folded "_law_folded" = true) (k_law_folded : PySem.W.keepIn K (.ref f_law_folded) = true)
    (a_law_marks : PySem.W.nsIn K mainGlobals "_law_marks" = some (some (.ref f_law_marks))) (l_law_marks : K.lookup f_law_marks = some ⟨oc_law_marks, od_law_marks, .func (PySem.W.fnOf "_law_marks" "_law_marks" (defArgs s_law_marks) (defBody s_law_marks) (defScope s_law_marks) .none kV_law_marks dc_law_marks pm_law_marks an_law_marks cd_law_marks ct_law_marks), sl_law_marks⟩) (c_law_marks : PySem.W.codeIn K cd_law_marks "_law_marks" = true) (k_law_marks : PySem.W.keepIn K (.ref f_law_marks) = true)
    (a_tidy : PySem.W.nsIn K mainGlobals "tidy" = some (some (.ref f_tidy))) (l_tidy : K.lookup f_tidy = some ⟨oc_tidy, od_tidy, .func (PySem.W.fnOf "tidy" "tidy" (defArgs s_tidy) (defBody s_tidy) (defScope s_tidy) .none kV_tidy dc_tidy pm_tidy an_tidy cd_tidy ct_tidy), sl_tidy⟩) (c_tidy : PySem.W.codeIn K cd_tidy "tidy" = true) (k_tidy : PySem.W.keepIn K (.ref f_tidy) = true)
    (a_law_runs : PySem.W.nsIn K mainGlobals "_law_runs" = some (some (.ref f_law_runs))) (l_law_runs : K.lookup f_law_runs = some ⟨oc_law_runs, od_law_runs, .func (PySem.W.fnOf "_law_runs" "_law_runs" (defArgs s_law_runs) (defBody s_law_runs) (defScope s_law_runs) .none kV_law_runs dc_law_runs pm_law_runs an_law_runs cd_law_runs ct_law_runs), sl_law_runs⟩) (c_law_runs : PySem.W.codeIn K cd_law_runs "_law_runs" = true) (k_law_runs : PySem.W.keepIn K (.ref f_law_runs) = true)
    (a_both : PySem.W.nsIn K mainGlobals "both" = some (some (.ref f_both))) (l_both : K.lookup f_both = some ⟨oc_both, od_both, .func (PySem.W.fnOf "both" "both" (defArgs s_both) (defBody s_both) (defScope s_both) .none kV_both dc_both pm_both an_both cd_both ct_both), sl_both⟩) (c_both : PySem.W.codeIn K cd_both "both" = true) (k_both : PySem.W.keepIn K (.ref f_both) = true)
    (a_either : PySem.W.nsIn K mainGlobals "either" = some (some (.ref f_either))) (l_either : K.lookup f_either = some ⟨oc_either, od_either, .func (PySem.W.fnOf "either" "either" (defArgs s_either) (defBody s_either) (defScope s_either) .none kV_either dc_either pm_either an_either cd_either ct_either), sl_either⟩) (c_either : PySem.W.codeIn K cd_either "either" = true) (k_either : PySem.W.keepIn K (.ref f_either) = true)
    (a_gaps : PySem.W.nsIn K mainGlobals "gaps" = some (some (.ref f_gaps))) (l_gaps : K.lookup f_gaps = some ⟨oc_gaps, od_gaps, .func (PySem.W.fnOf "gaps" "gaps" (defArgs s_gaps) (defBody s_gaps) (defScope s_gaps) .none kV_gaps dc_gaps pm_gaps an_gaps cd_gaps ct_gaps), sl_gaps⟩) (c_gaps : PySem.W.codeIn K cd_gaps "gaps" = true) (k_gaps : PySem.W.keepIn K (.ref f_gaps) = true)
    (a_without : PySem.W.nsIn K mainGlobals "without" = some (some (.ref f_without))) (l_without : K.lookup f_without = some ⟨oc_without, od_without, .func (PySem.W.fnOf "without" "without" (defArgs s_without) (defBody s_without) (defScope s_without) .none kV_without dc_without pm_without an_without cd_without ct_without), sl_without⟩) (c_without : PySem.W.codeIn K cd_without "without" = true) (k_without : PySem.W.keepIn K (.ref f_without) = true)
    (a_holds : PySem.W.nsIn K mainGlobals "holds" = some (some (.ref f_holds))) (l_holds : K.lookup f_holds = some ⟨oc_holds, od_holds, .func (PySem.W.fnOf "holds" "holds" (defArgs s_holds) (defBody s_holds) (defScope s_holds) .none kV_holds dc_holds pm_holds an_holds cd_holds ct_holds), sl_holds⟩) (c_holds : PySem.W.codeIn K cd_holds "holds" = true) (k_holds : PySem.W.keepIn K (.ref f_holds) = true)
    (a_first_from : PySem.W.nsIn K mainGlobals "first_from" = some (some (.ref f_first_from))) (l_first_from : K.lookup f_first_from = some ⟨oc_first_from, od_first_from, .func (PySem.W.fnOf "first_from" "first_from" (defArgs s_first_from) (defBody s_first_from) (defScope s_first_from) .none kV_first_from dc_first_from pm_first_from an_first_from cd_first_from ct_first_from), sl_first_from⟩) (c_first_from : PySem.W.codeIn K cd_first_from "first_from" = true) (k_first_from : PySem.W.keepIn K (.ref f_first_from) = true)
    (a_last_to : PySem.W.nsIn K mainGlobals "last_to" = some (some (.ref f_last_to))) (l_last_to : K.lookup f_last_to = some ⟨oc_last_to, od_last_to, .func (PySem.W.fnOf "last_to" "last_to" (defArgs s_last_to) (defBody s_last_to) (defScope s_last_to) .none kV_last_to dc_last_to pm_last_to an_last_to cd_last_to ct_last_to), sl_last_to⟩) (c_last_to : PySem.W.codeIn K cd_last_to "last_to" = true) (k_last_to : PySem.W.keepIn K (.ref f_last_to) = true)
    (a_many : PySem.W.nsIn K mainGlobals "many" = some (some (.ref f_many))) (l_many : K.lookup f_many = some ⟨oc_many, od_many, .func (PySem.W.fnOf "many" "many" (defArgs s_many) (defBody s_many) (defScope s_many) .none kV_many dc_many pm_many an_many cd_many ct_many), sl_many⟩) (c_many : PySem.W.codeIn K cd_many "many" = true) (k_many : PySem.W.keepIn K (.ref f_many) = true)
    (a_law_ways_good : PySem.W.nsIn K mainGlobals "_law_ways_good" = some (some (.ref f_law_ways_good))) (l_law_ways_good : K.lookup f_law_ways_good = some ⟨oc_law_ways_good, od_law_ways_good, .func (PySem.W.fnOf "_law_ways_good" "_law_ways_good" (defArgs s_law_ways_good) (defBody s_law_ways_good) (defScope s_law_ways_good) .none kV_law_ways_good dc_law_ways_good pm_law_ways_good an_law_ways_good cd_law_ways_good ct_law_ways_good), sl_law_ways_good⟩) (c_law_ways_good : PySem.W.codeIn K cd_law_ways_good "_law_ways_good" = true) (k_law_ways_good : PySem.W.keepIn K (.ref f_law_ways_good) = true)
    (a_law : PySem.W.nsIn K mainGlobals "law" = some (some (.ref f_law))) (l_law : K.lookup f_law = some ⟨oc_law, od_law, .func (PySem.W.fnOf "law" "law" (defArgs s_law) (defBody s_law) (defScope s_law) .none kV_law dc_law pm_law an_law cd_law ct_law), sl_law⟩) (c_law : PySem.W.codeIn K cd_law "law" = true) (k_law : PySem.W.keepIn K (.ref f_law) = true)
    (z_len : PySem.W.nsIn K mainGlobals "len" = some none) (z_range : PySem.W.nsIn K mainGlobals "range" = some none) (z_sorted : PySem.W.nsIn K mainGlobals "sorted" = some none) (z_max : PySem.W.nsIn K mainGlobals "max" = some none) (z_tuple : PySem.W.nsIn K mainGlobals "tuple" = some none) (z_min : PySem.W.nsIn K mainGlobals "min" = some none) (z_any : PySem.W.nsIn K mainGlobals "any" = some none) (z_reversed : PySem.W.nsIn K mainGlobals "reversed" = some none) (z_sum : PySem.W.nsIn K mainGlobals "sum" = some none) (z_list : PySem.W.nsIn K mainGlobals "list" = some none) (z_zip : PySem.W.nsIn K mainGlobals "zip" = some none) :
    ∃ fd : FuncData, (∀ (s : Shared) (v : Value), BindsTo s fd ⟨[v], []⟩ [("script", v)]) ∧ ∀ base : Heap, K.In base → base.Ns mainGlobals mg → FnOk l.prog w K mg base CX0 4 fa fd ["script"] (upF K Dp.sp_law) := by
  have e := hfa.symm.trans (PySem.W.mg_of X G a_law)
  cases e
  have F_law_at := fun_mk (st := s_law_at) l_law_at c_law_at k_law_at
  have b_law_at := F_law_at.binds (ps := ["script", "k"]) fun _ _ _ _ _ _ us hl => match us, hl with | [_, _], _ => rfl
  have F_law_mix := fun_mk (st := s_law_mix) l_law_mix c_law_mix k_law_mix
  have b_law_mix := F_law_mix.binds (ps := ["cell", "k", "size"]) fun _ _ _ _ _ _ us hl => match us, hl with | [_, _, _], _ => rfl
  have F_law_folded := fun_mk (st := s_law_folded) l_law_folded c_law_folded k_law_folded
  have b_law_folded := F_law_folded.binds (ps := ["script", "first", "most"]) fun _ _ _ _ _ _ us hl => match us, hl with | [_, _, _], _ => rfl
  have F_law_marks := fun_mk (st := s_law_marks) l_law_marks c_law_marks k_law_marks
  have b_law_marks := F_law_marks.binds (ps := ["numbers", "k"]) fun _ _ _ _ _ _ us hl => match us, hl with | [_, _], _ => rfl
  have F_tidy := fun_mk (st := s_tidy) l_tidy c_tidy k_tidy
  have b_tidy := F_tidy.binds (ps := ["pairs"]) fun _ _ _ _ _ _ us hl => match us, hl with | [_], _ => rfl
  have F_law_runs := fun_mk (st := s_law_runs) l_law_runs c_law_runs k_law_runs
  have b_law_runs := F_law_runs.binds (ps := ["marks", "first"]) fun _ _ _ _ _ _ us hl => match us, hl with | [_, _], _ => rfl
  have F_both := fun_mk (st := s_both) l_both c_both k_both
  have b_both := F_both.binds (ps := ["one", "other"]) fun _ _ _ _ _ _ us hl => match us, hl with | [_, _], _ => rfl
  have F_either := fun_mk (st := s_either) l_either c_either k_either
  have b_either := F_either.binds (ps := ["one", "other"]) fun _ _ _ _ _ _ us hl => match us, hl with | [_, _], _ => rfl
  have F_gaps := fun_mk (st := s_gaps) l_gaps c_gaps k_gaps
  have b_gaps := F_gaps.binds (ps := ["spans", "low", "high"]) fun _ _ _ _ _ _ us hl => match us, hl with | [_, _, _], _ => rfl
  have F_without := fun_mk (st := s_without) l_without c_without k_without
  have b_without := F_without.binds (ps := ["one", "other"]) fun _ _ _ _ _ _ us hl => match us, hl with | [_, _], _ => rfl
  have F_holds := fun_mk (st := s_holds) l_holds c_holds k_holds
  have b_holds := F_holds.binds (ps := ["spans", "hour"]) fun _ _ _ _ _ _ us hl => match us, hl with | [_, _], _ => rfl
  have F_first_from := fun_mk (st := s_first_from) l_first_from c_first_from k_first_from
  have b_first_from := F_first_from.binds (ps := ["spans", "hour"]) fun _ _ _ _ _ _ us hl => match us, hl with | [_, _], _ => rfl
  have F_last_to := fun_mk (st := s_last_to) l_last_to c_last_to k_last_to
  have b_last_to := F_last_to.binds (ps := ["spans", "hour"]) fun _ _ _ _ _ _ us hl => match us, hl with | [_, _], _ => rfl
  have F_many := fun_mk (st := s_many) l_many c_many k_many
  have b_many := F_many.binds (ps := ["spans"]) fun _ _ _ _ _ _ us hl => match us, hl with | [_], _ => rfl
  have F_law_ways_good := fun_mk (st := s_law_ways_good) l_law_ways_good c_law_ways_good k_law_ways_good
  have b_law_ways_good := F_law_ways_good.binds (ps := ["spans", "marks", "first"]) fun _ _ _ _ _ _ us hl => match us, hl with | [_, _, _], _ => rfl
  have F_law := fun_mk (st := s_law) l_law c_law k_law
  have m_len := PySem.W.mg_none_of X G z_len
  have m_range := PySem.W.mg_none_of X G z_range
  have m_sorted := PySem.W.mg_none_of X G z_sorted
  have m_max := PySem.W.mg_none_of X G z_max
  have m_tuple := PySem.W.mg_none_of X G z_tuple
  have m_min := PySem.W.mg_none_of X G z_min
  have m_any := PySem.W.mg_none_of X G z_any
  have m_reversed := PySem.W.mg_none_of X G z_reversed
  have m_sum := PySem.W.mg_none_of X G z_sum
  have m_list := PySem.W.mg_none_of X G z_list
  have m_zip := PySem.W.mg_none_of X G z_zip
  refine ⟨PySem.W.fnOf "law" "law" (defArgs s_law) (defBody s_law) (defScope s_law) .none kV_law dc_law pm_law an_law cd_law ct_law, fun s v => .of_eq rfl, fun base _ _ => ?_⟩
  have G_law_at : Got l.prog w K mg base 1 "_law_at" ["script", "k"] (upF K Dp.sp_law_at) := ⟨⟨_, _, ok_law_at F_law_at m_len, b_law_at, k_law_at, PySem.W.mg_of X G a_law_at⟩⟩
  have G_law_mix : Got l.prog w K mg base 1 "_law_mix" ["cell", "k", "size"] (upF K Dp.sp_law_mix) := ⟨⟨_, _, ok_law_mix F_law_mix, b_law_mix, k_law_mix, PySem.W.mg_of X G a_law_mix⟩⟩
  have G_law_folded : Got l.prog w K mg base 1 "_law_folded" ["script", "first", "most"] (upF K Dp.sp_law_folded) := ⟨⟨_, _, ok_law_folded F_law_folded m_range m_len, b_law_folded, k_law_folded, PySem.W.mg_of X G a_law_folded⟩⟩
  have G_law_marks : Got l.prog w K mg base 2 "_law_marks" ["numbers", "k"] (upF K Dp.sp_law_marks) := ⟨⟨_, _, ok_law_marks F_law_marks G_law_mix m_range m_len, b_law_marks, k_law_marks, PySem.W.mg_of X G a_law_marks⟩⟩
  have G_tidy : Got l.prog w K mg base 1 "tidy" ["pairs"] (upF K Dp.sp_tidy) := ⟨⟨_, _, ok_tidy F_tidy m_sorted m_len m_max m_tuple, b_tidy, k_tidy, PySem.W.mg_of X G a_tidy⟩⟩
  have G_law_runs : Got l.prog w K mg base 1 "_law_runs" ["marks", "first"] (upF K Dp.sp_law_runs) := ⟨⟨_, _, ok_law_runs F_law_runs m_range m_len m_tuple, b_law_runs, k_law_runs, PySem.W.mg_of X G a_law_runs⟩⟩
  have G_both : Got l.prog w K mg base 2 "both" ["one", "other"] (upF K Dp.sp_both) := ⟨⟨_, _, ok_both F_both G_tidy m_max m_min, b_both, k_both, PySem.W.mg_of X G a_both⟩⟩
  have G_either : Got l.prog w K mg base 2 "either" ["one", "other"] (upF K Dp.sp_either) := ⟨⟨_, _, ok_either F_either G_tidy, b_either, k_either, PySem.W.mg_of X G a_either⟩⟩
  have G_gaps : Got l.prog w K mg base 2 "gaps" ["spans", "low", "high"] (upF K Dp.sp_gaps) := ⟨⟨_, _, ok_gaps F_gaps G_tidy, b_gaps, k_gaps, PySem.W.mg_of X G a_gaps⟩⟩
  have G_without : Got l.prog w K mg base 3 "without" ["one", "other"] (upF K Dp.sp_without) := ⟨⟨_, _, ok_without F_without G_gaps G_both m_len, b_without, k_without, PySem.W.mg_of X G a_without⟩⟩
  have G_holds : Got l.prog w K mg base 1 "holds" ["spans", "hour"] (upF K Dp.sp_holds) := ⟨⟨_, _, ok_holds F_holds m_any, b_holds, k_holds, PySem.W.mg_of X G a_holds⟩⟩
  have G_first_from : Got l.prog w K mg base 1 "first_from" ["spans", "hour"] (upF K Dp.sp_first_from) := ⟨⟨_, _, ok_first_from F_first_from m_max, b_first_from, k_first_from, PySem.W.mg_of X G a_first_from⟩⟩
  have G_last_to : Got l.prog w K mg base 1 "last_to" ["spans", "hour"] (upF K Dp.sp_last_to) := ⟨⟨_, _, ok_last_to F_last_to m_reversed m_min, b_last_to, k_last_to, PySem.W.mg_of X G a_last_to⟩⟩
  have G_many : Got l.prog w K mg base 1 "many" ["spans"] (upF K Dp.sp_many) := ⟨⟨_, _, ok_many F_many m_sum, b_many, k_many, PySem.W.mg_of X G a_many⟩⟩
  have G_law_ways_good : Got l.prog w K mg base 2 "_law_ways_good" ["spans", "marks", "first"] (upF K Dp.sp_law_ways_good) := ⟨⟨_, _, ok_law_ways_good F_law_ways_good G_holds G_first_from G_last_to G_many m_range m_max m_min m_len, b_law_ways_good, k_law_ways_good, PySem.W.mg_of X G a_law_ways_good⟩⟩
  exact ok_law F_law G_law_at G_law_mix G_law_folded G_law_marks G_tidy G_law_runs G_both G_either G_without G_law_ways_good m_range m_list m_zip
theorem walk {l : PySem.W.OpenLaw} {q : Program} {loose : List Str} {XP : (Str → Option Value) → Heap → Prop} {YP : World → Heap → Prop} {d : DefRec} {K : Params → PySem.W.Frag} (hn : l.most = some 63) (hdf : d.params.defaults = [])
    (hY : ∀ (w : World) (h : Heap), YP w h → (K w.params).In h)
    (F : ∀ (w : World) (mg : Str → Option Value) (fa : Addr) (h : Heap), (K w.params).In h → h.Ns mainGlobals mg → mg d.name = some (.ref fa) →
      ∃ fd : FuncData, (∀ (s : Shared) (u : Value), BindsTo s fd ⟨[u], []⟩ [("script", u)]) ∧ ∀ base : Heap, (K w.params).In base → base.Ns mainGlobals mg → FnOk l.prog w (K w.params) mg base CX0 4 fa fd ["script"] (upF (K w.params) Dp.sp_law)) :
    PySem.W.WalkO q loose XP YP l.row.toRowW d [] (fun f vs => PySem.call f vs) :=
  L2.walk_of (n := 63) (k := 4) (x := "script") (CX := fun _ => CX0) (sp := fun w => upF (K w.params) Dp.sp_law) hn (by decide) hdf ⟨rfl, by decide, by decide⟩ hY F (fun _ _ _ _ hl hO hS => law_sp hl hO hS) fun _ _ _ _ _ z => z
end Law
open PySem PySem.W PyProof.Rows
set_option maxRecDepth 100000 in
set_option maxHeartbeats 0 in
theorem PySem.Challenge.cw_beaconvale_k29_whole_hours_gone_through_holds : PySem.Challenge.rw_beaconvale_k29_whole_hours_gone_through.Holds := by
  w_on; o_law; k_head; (case hw => w_witness2)
  k_fill
  refine Law.walk (l := PySem.Challenge.rw_beaconvale_k29_whole_hours_gone_through) rfl rfl (fun w h Y => PySem.W.kIn_of Y) ?F
  case F =>
    intro w mg fa h KX G hmg
    refine' Law.all_mk KX G hmg ?a_law_at ?l_law_at ?c_law_at ?k_law_at ?a_law_mix ?l_law_mix ?c_law_mix ?k_law_mix ?a_law_folded ?l_law_folded ?c_law_folded ?k_law_folded ?a_law_marks ?l_law_marks ?c_law_marks ?k_law_marks ?a_tidy ?l_tidy ?c_tidy ?k_tidy ?a_law_runs ?l_law_runs ?c_law_runs ?k_law_runs ?a_both ?l_both ?c_both ?k_both ?a_either ?l_either ?c_either ?k_either ?a_gaps ?l_gaps ?c_gaps ?k_gaps ?a_without ?l_without ?c_without ?k_without ?a_holds ?l_holds ?c_holds ?k_holds ?a_first_from ?l_first_from ?c_first_from ?k_first_from ?a_last_to ?l_last_to ?c_last_to ?k_last_to ?a_many ?l_many ?c_many ?k_many ?a_law_ways_good ?l_law_ways_good ?c_law_ways_good ?k_law_ways_good ?a_law ?l_law ?c_law ?k_law ?z_len ?z_range ?z_sorted ?z_max ?z_tuple ?z_min ?z_any ?z_reversed ?z_sum ?z_list ?z_zip
    (case a_law_at => k_is)
    (case l_law_at => k_is)
    (case c_law_at => k_is)
    (case k_law_at => k_is)
    (case a_law_mix => k_is)
    (case l_law_mix => k_is)
    (case c_law_mix => k_is)
    (case k_law_mix => k_is)
    (case a_law_folded => k_is)
    (case l_law_folded => k_is)
    (case c_law_folded => k_is)
    (case k_law_folded => k_is)
    (case a_law_marks => k_is)
    (case l_law_marks => k_is)
    (case c_law_marks => k_is)
    (case k_law_marks => k_is)
    (case a_tidy => k_is)
    (case l_tidy => k_is)
    (case c_tidy => k_is)
    (case k_tidy => k_is)
    (case a_law_runs => k_is)
    (case l_law_runs => k_is)
    (case c_law_runs => k_is)
    (case k_law_runs => k_is)
    (case a_both => k_is)
    (case l_both => k_is)
    (case c_both => k_is)
    (case k_both => k_is)
    (case a_either => k_is)
    (case l_either => k_is)
    (case c_either => k_is)
    (case k_either => k_is)
    (case a_gaps => k_is)
    (case l_gaps => k_is)
    (case c_gaps => k_is)
    (case k_gaps => k_is)
    (case a_without => k_is)
    (case l_without => k_is)
    (case c_without => k_is)
    (case k_without => k_is)
    (case a_holds => k_is)
    (case l_holds => k_is)
    (case c_holds => k_is)
    (case k_holds => k_is)
    (case a_first_from => k_is)
    (case l_first_from => k_is)
    (case c_first_from => k_is)
    (case k_first_from => k_is)
    (case a_last_to => k_is)
    (case l_last_to => k_is)
    (case c_last_to => k_is)
    (case k_last_to => k_is)
    (case a_many => k_is)
    (case l_many => k_is)
    (case c_many => k_is)
    (case k_many => k_is)
    (case a_law_ways_good => k_is)
    (case l_law_ways_good => k_is)
    (case c_law_ways_good => k_is)
    (case k_law_ways_good => k_is)
    (case a_law => k_is)
    (case l_law => k_is)
    (case c_law => k_is)
    (case k_law => k_is)
    (case z_len => k_is)
    (case z_range => k_is)
    (case z_sorted => k_is)
    (case z_max => k_is)
    (case z_tuple => k_is)
    (case z_min => k_is)
    (case z_any => k_is)
    (case z_reversed => k_is)
    (case z_sum => k_is)
    (case z_list => k_is)
    (case z_zip => k_is)
#print axioms PySem.Challenge.cw_beaconvale_k29_whole_hours_gone_through_holds
