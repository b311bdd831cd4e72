import PyProof.Rows.All
import Wide.All
import OpenK.AllK
import Wide.FinOn
import Lean
import PyProof.EqAt
import PyProof.EqKinds
import PyProof.TupleCall
import PyProof.NeData
import PyProof.P3Eq
import PySem.Challenge.RW_everyplace_k12_signs_are_kept
set_option Elab.async false
set_option linter.all false
set_option maxRecDepth 100000
namespace L2
open PySem PySem.Spec PyProof.Rows

abbrev Key := Sum Int Str
def keyIs : Key → Value → Bool
  | .inl k, v => Value.isInt k v
  | .inr x, v => Value.isStrOf x v
def keyH (w : World) : Key → Int
  | .inl k => hashInt k
  | .inr x => hashStr w x
theorem keyIs_shape : ∀ {k : Key} {v : Value}, keyIs k v = true → (∃ i t, k = Sum.inl i ∧ v = Value.int i t) ∨ (∃ x t, k = Sum.inr x ∧ v = Value.str x t)
  | .inl i, v, h => by
    obtain ⟨t, e⟩ := Value.isInt_shape (k := i) (v := v) h
    exact .inl ⟨i, t, rfl, e⟩
  | .inr x, v, h => by
    obtain ⟨t, e⟩ := Value.isStrOf_shape (x := x) (v := v) h
    exact .inr ⟨x, t, rfl, e⟩
theorem key_ll (a b : Int) : decide ((Sum.inl a : Key) = Sum.inl b) = (a == b) := by
  by_cases e : a = b
  · subst e; simp
  · have h : ¬ (Sum.inl a : Key) = Sum.inl b := fun q => e (Sum.inl.inj q)
    rw [decide_eq_false h]
    exact (beq_eq_false_iff_ne.mpr e).symm
theorem key_rr (a b : Str) : decide ((Sum.inr a : Key) = Sum.inr b) = decide (a = b) := by
  by_cases e : a = b
  · subst e; simp
  · have h : ¬ (Sum.inr a : Key) = Sum.inr b := fun q => e (Sum.inr.inj q)
    rw [decide_eq_false h, decide_eq_false e]
theorem key_lr (a : Int) (b : Str) : decide ((Sum.inl a : Key) = Sum.inr b) = false := decide_eq_false (fun q => nomatch q)
theorem key_rl (a : Str) (b : Int) : decide ((Sum.inr a : Key) = Sum.inl b) = false := decide_eq_false (fun q => nomatch q)

def mixKind (prog : Program) (w : World) : PySem.KeyKind prog w Key where
  is := keyIs
  hash := keyH w
  inj := fun v a b ha hb => by
    rcases keyIs_shape ha with ⟨i, t, rfl, rfl⟩ | ⟨x, t, rfl, rfl⟩
    · rcases keyIs_shape hb with ⟨j, u, rfl, e⟩ | ⟨y, u, rfl, e⟩
      · injection e with e1 _; rw [e1]
      · exact nomatch e
    · rcases keyIs_shape hb with ⟨j, u, rfl, e⟩ | ⟨y, u, rfl, e⟩
      · exact nomatch e
      · injection e with e1 _; rw [e1]
  byValue := fun k v h => by
    rcases keyIs_shape h with ⟨i, t, rfl, rfl⟩ | ⟨x, t, rfl, rfl⟩ <;> rfl
  pyHash := fun hv h => by
    rcases keyIs_shape hv with ⟨i, t, rfl, rfl⟩ | ⟨x, t, rfl, rfl⟩
    · exact wpAny_pyHash_int h
    · exact wpAny_pyHash_str h
  eqBool := fun hu hv h => by
    rcases keyIs_shape hu with ⟨i, t, rfl, rfl⟩ | ⟨x, t, rfl, rfl⟩
    · rcases keyIs_shape hv with ⟨j, u, rfl, rfl⟩ | ⟨y, u, rfl, rfl⟩
      · rw [key_ll] at h; exact wpAny_eqBool_int h
      · rw [key_lr] at h; exact SeqAt.EqAt.int_str i t y u _ _ _ _ h
    · rcases keyIs_shape hv with ⟨j, u, rfl, rfl⟩ | ⟨y, u, rfl, rfl⟩
      · rw [key_rl] at h; exact SeqAt.EqAt.str_int x t j u _ _ _ _ h
      · rw [key_rr] at h; exact wpAny_eqBool_str h
  «strs» := fun k x t v h => by
    rcases keyIs_shape h with ⟨i, u, rfl, e⟩ | ⟨y, u, rfl, e⟩
    · exact nomatch e
    · injection e with e1 _
      subst e1
      cases v <;> rfl

end L2

namespace L2
open PySem PySem.Spec PyProof.Rows

inductive V where
  | non | bl (b : Bool) | int (i : Int) | str (x : Str) | byt (b : Array UInt8) | flt (b : UInt64) | ref (a : Addr) | ty (n : String)
  deriving DecidableEq

def RelV : V → Value → Prop
  | .non, u => u = Value.none
  | .bl b, u => u = Value.bool b
  | .int i, u => ∃ t, u = Value.int i t
  | .str x, u => ∃ t, u = Value.str x t
  | .byt b, u => ∃ t, u = Value.bytes b t
  | .flt b, u => ∃ t, u = Value.float b t
  | .ref a, u => u = Value.ref a
  | .ty n, u => u = Value.type n

abbrev Vals : List V → List Value → Prop := Paired RelV
theorem Vals.length {xs : List V} {us : List Value} (r : Vals xs us) : xs.length = us.length := Paired.length r
theorem Vals.get : ∀ {xs : List V} {us : List Value} {i : Nat} {x : V}, Vals xs us → xs[i]? = some x → ∃ u, us[i]? = some u ∧ RelV x u
  | _, _, _, _, .nil, e => by simp at e
  | _, _, 0, _, .cons r _, e => by simp at e; subst e; exact ⟨_, rfl, r⟩
  | _, _, i + 1, x, .cons _ t, e => by
    obtain ⟨u, h1, h2⟩ := Vals.get (i := i) (x := x) t (by simpa using e)
    exact ⟨u, by simpa using h1, h2⟩
theorem Vals.set {x : V} {u : Value} (r : RelV x u) : ∀ {xs : List V} {us : List Value} (i : Nat), Vals xs us → Vals (xs.set i x) (us.set i u)
  | _, _, _, .nil => .nil
  | _, _, 0, .cons _ t => .cons r t
  | _, _, i + 1, .cons q t => .cons q (Vals.set r i t)
theorem Vals.append : ∀ {xs ys : List V} {us ws : List Value}, Vals xs us → Vals ys ws → Vals (xs ++ ys) (us ++ ws)
  | _, _, _, _, .nil, s => s
  | _, _, _, _, .cons r t, s => .cons r (Vals.append t s)
theorem Vals.take : ∀ {xs : List V} {us : List Value} (n : Nat), Vals xs us → Vals (xs.take n) (us.take n)
  | _, _, 0, _ => .nil
  | _, _, _ + 1, .nil => .nil
  | _, _, n + 1, .cons r t => .cons r (Vals.take n t)
theorem Vals.drop : ∀ {xs : List V} {us : List Value} (n : Nat), Vals xs us → Vals (xs.drop n) (us.drop n)
  | _, _, 0, r => r
  | _, _, _ + 1, .nil => .nil
  | _, _, n + 1, .cons _ t => Vals.drop n t

def RelO : Option V → Option Value → Prop
  | some v, some u => RelV v u
  | none, none => True
  | _, _ => False
def KV {κ : Type} : List (κ × V) → List (κ × Value) → Prop := Paired fun (p : κ × V) (q : κ × Value) => p.1 = q.1 ∧ RelV p.2 q.2

def kV : Key → V
  | .inl i => .int i
  | .inr x => .str x

inductive HO where
  | lst (xs : List V)
  | tup (xs : List V)
  | dK (kvs : List (Key × V)) | dT (kvs : List (List Key × V))
  | set (S : Int → Bool) (n : Nat)
  | ins (C dx : Addr) (fs : List (Str × V))
  | own (x : Addr)
  | xd (fs : List (Str × V))
  | met (f x : Addr)
  | rng (lo hi : Int)
  | frz (o : Obj) (u : HO)
  | tbl (ps : Array Value)
  | ext (φ : Heap → Prop)

abbrev Hp := Addr → Option HO
def upd (H : Hp) (a : Addr) (o : HO) : Hp := fun b => if b = a then some o else H b
theorem upd_same {H : Hp} {a : Addr} {o : HO} : upd H a o a = some o := by unfold upd; rw [if_pos rfl]
theorem upd_ne {H : Hp} {a b : Addr} {o : HO} (h : b ≠ a) : upd H a o b = H b := by unfold upd; rw [if_neg h]
theorem ne_of_none {H : Hp} {a b : Addr} {o : HO} (h : H a = some o) (h' : H b = none) : a ≠ b := by
  intro e; subst e; rw [h] at h'; cases h'

section
variable (P : Program) (w : World)
def ObjOk (H : Hp) (h : Heap) (a : Addr) : HO → Prop
  | .lst xs => xs.length ≤ sizeLine ∧ ∃ (its : List Value) (n : Nat), Vals xs its ∧ h.get? a = some { cls := .type "list", data := .seq its.toArray n }
  | .tup xs => xs.length ≤ sizeLine ∧ ∃ its : List Value, Vals xs its ∧ IsTup h a its.toArray
  | .dK kvs => kvs.length ≤ sizeLine ∧ (a == sysModules) = false ∧ ∃ vs, KV kvs vs ∧ h.DictOf (mixKind P w) a vs
  | .dT kvs => kvs.length ≤ sizeLine ∧ (a == sysModules) = false ∧ ∃ xs : List (List Key × Addr × Value),
      Paired (fun (p : List Key × V) (q : List Key × Addr × Value) => p.1 = q.1 ∧ H q.2.1 = some (.tup (p.1.map kV)) ∧ RelV p.2 q.2.2) kvs xs ∧
      ∃ o es ep, h.get? a = some o ∧ o.ExactDict ∧ o.data = .dict es ep ∧ es.toList = xs.map (entryOfKey (tupleKind (mixKind P w))) ∧ (xs.map (·.1)).Nodup
  | .set S n => h.SetOf (intKind P w) a S n
  | .ins C dx fs => H dx = some (.own a) ∧ fs.length ≤ 1000 ∧ dx ≠ a ∧ h.get? a = some (PySem.W.instObj C dx) ∧
      ∃ mA, h.Ns1 dx mA ∧ (∀ f, RelO (fs.lookup f) (mA f)) ∧ PySem.Within mA (fs.map (·.1))
  | .own _ => ∃ o, h.get? a = some o
  | .xd fs => ∃ mA, h.Ns1 a mA ∧ ∀ f, RelO (fs.lookup f) (mA f)
  | .rng lo hi => ∃ t u v, h.get? a = some { cls := .type "range", data := .fields #[.int lo t, .int hi u, .int 1 v] }
  | .frz o u => h.get? a = some o ∧ ObjOk H h a u
  | .tbl ps => h.get? a = some { cls := .none, data := .fields ps }
  | .met f x => h.get? a = some (PySem.W.methodObj (.ref f) (.ref x))
  | .ext φ => φ h ∧ (∃ o, h.get? a = some o) ∧ ∀ h1 h2 : Heap, φ h1 → (∀ o, h1.get? a = some o → h2.get? a = some o) → φ h2
def HOk (H : Hp) (h : Heap) : Prop := ∀ a o, H a = some o → ObjOk P w H h a o
end

section
variable {P : Program} {w : World} {H H' : Hp} {h h' : Heap} {a : Addr} {o : HO}
theorem ObjOk.lt (x : ObjOk P w H h a o) : a < h.objs.size := by
  cases o with
  | lst xs => obtain ⟨_, _, _, _, e⟩ := x; exact Heap.lt_size e
  | tup xs => obtain ⟨_, _, _, p⟩ := x; exact p.lt
  | dK kvs => obtain ⟨_, _, _, _, o, _, _, e, _⟩ := x; exact Heap.lt_size e
  | dT kvs => obtain ⟨_, _, _, _, o, _, _, e, _⟩ := x; exact Heap.lt_size e
  | set S n => obtain ⟨o, _, _, _, e, _⟩ := x; exact Heap.lt_size e
  | ins C dx fs => obtain ⟨_, _, _, e, _⟩ := x; exact Heap.lt_size e
  | own y => obtain ⟨_, e⟩ := x; exact Heap.lt_size e
  | xd fs => obtain ⟨_, ⟨_, _, _, e, _⟩, _⟩ := x; exact Heap.lt_size e
  | rng lo hi => obtain ⟨_, _, _, e⟩ := x; exact Heap.lt_size e
  | frz ob u => obtain ⟨e, _⟩ := x; exact Heap.lt_size e
  | tbl ps => exact Heap.lt_size (show h.get? a = some _ from x)
  | met f y => exact Heap.lt_size (show h.get? a = some _ from x)
  | ext φ => obtain ⟨_, ⟨_, e⟩, _⟩ := x; exact Heap.lt_size e
theorem Paired.mapP {α β : Type} {F G : α → β → Prop} : ∀ {l₁ : List α} {l₂ : List β}, Paired F l₁ l₂ → (∀ a b, F a b → G a b) → Paired G l₁ l₂
  | _, _, .nil, _ => .nil
  | _, _, .cons r t, f => .cons (f _ _ r) (Paired.mapP t f)
theorem ObjOk.stay (x : ObjOk P w H h a o) (k : ∀ b u, (b = a ∨ H b = some (.own a)) → h.get? b = some u → h'.get? b = some u)
    (ho : ∀ b, H b = some (.own a) → H' b = some (.own a)) (ht : ∀ b xs, H b = some (.tup xs) → H' b = some (.tup xs)) : ObjOk P w H' h' a o := by
  induction o with
  | lst xs => obtain ⟨z, its, n, r, e⟩ := x; exact ⟨z, its, n, r, k _ _ (.inl rfl) e⟩
  | tup xs => obtain ⟨z, its, r, ob, e, c⟩ := x; exact ⟨z, its, r, ob, k _ _ (.inl rfl) e, c⟩
  | dK kvs => obtain ⟨z, y, vs, r, ob, es, ep, e, c⟩ := x; exact ⟨z, y, vs, r, ob, es, ep, k _ _ (.inl rfl) e, c⟩
  | dT kvs =>
    obtain ⟨z, y, xs, r, ob, es, ep, e, c⟩ := x
    exact ⟨z, y, xs, Paired.mapP r fun p q z => ⟨z.1, ht _ _ z.2.1, z.2.2⟩, ob, es, ep, k _ _ (.inl rfl) e, c⟩
  | set S n => obtain ⟨ob, es, ep, t, e, c⟩ := x; exact ⟨ob, es, ep, t, k _ _ (.inl rfl) e, c⟩
  | ins C dx fs =>
    obtain ⟨d, z, ne, e, mA, ⟨od, es, ep, e2, c⟩, r⟩ := x
    exact ⟨ho _ d, z, ne, k _ _ (.inl rfl) e, mA, ⟨od, es, ep, k _ _ (.inr d) e2, c⟩, r⟩
  | own y => obtain ⟨ob, e⟩ := x; exact ⟨ob, k _ _ (.inl rfl) e⟩
  | xd fs => obtain ⟨mA, ⟨od, es, ep, e, c⟩, r⟩ := x; exact ⟨mA, ⟨od, es, ep, k _ _ (.inl rfl) e, c⟩, r⟩
  | rng lo hi => obtain ⟨t, u, v, e⟩ := x; exact ⟨t, u, v, k _ _ (.inl rfl) e⟩
  | frz ob u ih => obtain ⟨e, q⟩ := x; exact ⟨k _ _ (.inl rfl) e, ih q⟩
  | tbl ps =>
    have e : h.get? a = some { cls := .none, data := .fields ps } := x
    show h'.get? a = some { cls := .none, data := .fields ps }
    exact k a _ (.inl rfl) e
  | met f y =>
    have e : h.get? a = some (PySem.W.methodObj (.ref f) (.ref y)) := x
    show h'.get? a = some (PySem.W.methodObj (.ref f) (.ref y))
    exact k a _ (.inl rfl) e
  | ext φ => obtain ⟨p, ⟨o, e⟩, st⟩ := x; exact ⟨st _ _ p fun o q => k _ _ (.inl rfl) q, ⟨o, k _ _ (.inl rfl) e⟩, st⟩
theorem HOk.lt (x : HOk P w H h) (e : H a = some o) : a < h.objs.size := (x a o e).lt
theorem HOk.fresh (x : HOk P w H h) (e : h.objs.size ≤ a) : H a = none := by
  cases q : H a with
  | none => rfl
  | some u => exact absurd (Nat.lt_of_lt_of_le (x.lt q) e) (Nat.lt_irrefl _)
theorem HOk.kept (x : HOk P w H h) (k : ∀ b u, h.get? b = some u → h'.get? b = some u) : HOk P w H h' := fun a o e =>
  (x a o e).stay (fun b u _ q => k b u q) (fun _ q => q) fun _ _ q => q
theorem HOk.laid (x : HOk P w H h) (k : ∀ b u, h.get? b = some u → h'.get? b = some u) (hp : h.objs.size ≤ a) (new : ObjOk P w (upd H a o) h' a o) : HOk P w (upd H a o) h' := fun b u e => by
  have hn := x.fresh hp
  by_cases hb : b = a
  · subst hb; rw [upd_same] at e; cases e; exact new
  · rw [upd_ne hb] at e
    exact (x b u e).stay (fun c v _ q => k c v q) (fun c q => by rw [upd_ne (ne_of_none q hn)]; exact q) fun c xs q => by rw [upd_ne (ne_of_none q hn)]; exact q
end

def Rd (H : Hp) (a : Addr) (u : HO) : Prop := H a = some u ∨ ∃ o, H a = some (.frz o u)
theorem Rd.of {H : Hp} {a : Addr} {u : HO} (h : H a = some u) : Rd H a u := .inl h
theorem Rd.ok {P : Program} {w : World} {H : Hp} {h : Heap} {a : Addr} {u : HO} (r : Rd H a u) (x : HOk P w H h) : ObjOk P w H h a u := by
  rcases r with r | ⟨o, r⟩
  · exact x a u r
  · obtain ⟨_, q⟩ := x a _ r
    exact q
def Mut : Option HO → Prop
  | some (.lst _) => True
  | some (.dK _) => True
  | some (.dT _) => True
  | some (.set _ _) => True
  | some (.ins _ _ _) => True
  | some (.ext _) => True
  | _ => False
section
variable {P : Program} {w : World} {H : Hp} {h h' : Heap} {x e : Addr} {o' : HO}
theorem HOk.write (ok : HOk P w H h) (mu : Mut (H x)) (he : e = x ∨ H e = some (.own x)) (k : ∀ b u, b ≠ e → h.get? b = some u → h'.get? b = some u) (heo : ∃ u, h'.get? e = some u)
    (new : ObjOk P w (upd H x o') h' x o') : HOk P w (upd H x o') h' := fun b u q => by
  have nown : ∀ c y, H c = some (.own y) → c ≠ x := fun c y r z => by subst z; rw [r] at mu; exact mu
  have ntup : ∀ c xs, H c = some (.tup xs) → c ≠ x := fun c xs r z => by subst z; rw [r] at mu; exact mu
  by_cases hb : b = x
  · subst hb; rw [upd_same] at q; cases q; exact new
  · rw [upd_ne hb] at q
    by_cases hbe : b = e
    · have q' : H b = some (.own x) := by
        rcases he with z | z
        · exact absurd (hbe.trans z) hb
        · rw [hbe]; exact z
      rw [q] at q'; cases q'
      obtain ⟨v, hv⟩ := heo
      exact ⟨v, by rw [hbe]; exact hv⟩
    · refine (ok b u q).stay (fun c v hc r => k c v ?_ r) (fun c r => by rw [upd_ne (nown c b r)]; exact r) fun c xs r => by rw [upd_ne (ntup c xs r)]; exact r
      rcases hc with rfl | hc
      · exact hbe
      · rintro rfl
        rcases he with z | z
        · exact nown c b hc z
        · rw [hc] at z; cases z; exact hb rfl
end

structure Un (fs ex : List Addr) (H H' : Hp) (h h' : Heap) : Prop where
  keep : ∀ b o, h.get? b = some o → H b = none → b ∉ fs → b ∉ ex → h'.get? b = some o
  slot : ∀ b o, h.get? b = some o → H b = none → b ∈ fs → b ∉ ex → ∃ sl, h'.get? b = some { o with slots := sl }
  free : ∀ b o, h.get? b = some o → H b = none → b ∉ ex → H' b = none
  there : ∀ b o, h.get? b = some o → b ∉ ex → ∃ o', h'.get? b = some o'
  tups : ∀ b xs, H b = some (.tup xs) → H' b = some (.tup xs)
  frzs : ∀ b o u, H b = some (.frz o u) → H' b = some (.frz o u)
  tbls : ∀ b ps, H b = some (.tbl ps) → ∃ more, H' b = some (.tbl (ps ++ more))
section
variable {fs fs' ex ex' : List Addr} {H H1 H2 : Hp} {h h1 h2 h' : Heap} {a x e : Addr} {o : HO}
theorem Un.any (u : Un fs ex H H1 h h1) {b : Addr} {ob : Obj} (q : h.get? b = some ob) (n : H b = none) (hx : b ∉ ex) : ∃ sl, h1.get? b = some { ob with slots := sl } := by
  by_cases hb : b ∈ fs
  · exact u.slot b ob q n hb hx
  · exact ⟨ob.slots, u.keep b ob q n hb hx⟩
theorem Un.trans (a : Un fs ex H H1 h h1) (b : Un fs ex H1 H2 h1 h2) : Un fs ex H H2 h h2 where
  keep := fun c ob q n hc hx => b.keep c ob (a.keep c ob q n hc hx) (a.free c ob q n hx) hc hx
  slot := fun c ob q n hc hx => by
    obtain ⟨sl, e1⟩ := a.slot c ob q n hc hx
    obtain ⟨sl', e2⟩ := b.slot c _ e1 (a.free c ob q n hx) hc hx
    exact ⟨sl', e2⟩
  free := fun c ob q n hx => by
    obtain ⟨o', e1⟩ := a.there c ob q hx
    exact b.free c o' e1 (a.free c ob q n hx) hx
  there := fun c ob q hx => by
    obtain ⟨o', e1⟩ := a.there c ob q hx
    exact b.there c o' e1 hx
  tups := fun c xs q => b.tups c xs (a.tups c xs q)
  frzs := fun c ob xs q => b.frzs c ob xs (a.frzs c ob xs q)
  tbls := fun c ps q => by
    obtain ⟨m1, e1⟩ := a.tbls c ps q
    obtain ⟨m2, e2⟩ := b.tbls c _ e1
    exact ⟨m1 ++ m2, by rw [e2, Array.append_assoc]⟩
theorem Un.kept (k : ∀ b u, h.get? b = some u → h'.get? b = some u) : Un fs ex H H h h' :=
  ⟨fun b ob q _ _ _ => k b ob q, fun b ob q _ _ _ => ⟨ob.slots, k b ob q⟩, fun _ _ _ n _ => n, fun b ob q _ => ⟨ob, k b ob q⟩, fun _ _ q => q, fun _ _ _ q => q, fun _ ps q => ⟨#[], by rw [q]; simp⟩⟩
theorem Un.refl : Un fs ex H H h h := Un.kept fun _ _ q => q
theorem Un.laid (k : ∀ b u, h.get? b = some u → h'.get? b = some u) (hp : h.objs.size ≤ a) (hn : H a = none) : Un fs ex H (upd H a o) h h' where
  keep := fun b u q _ _ _ => k b u q
  slot := fun b u q _ _ _ => ⟨u.slots, k b u q⟩
  free := fun b u q n _ => by rw [upd_ne (Nat.ne_of_lt (Nat.lt_of_lt_of_le (Heap.lt_size q) hp))]; exact n
  there := fun b u q _ => ⟨u, k b u q⟩
  tups := fun b xs q => by rw [upd_ne (ne_of_none q hn)]; exact q
  frzs := fun b u xs q => by rw [upd_ne (ne_of_none q hn)]; exact q
  tbls := fun b ps q => ⟨#[], by rw [upd_ne (ne_of_none q hn), q]; simp⟩
theorem Un.write (mu : Mut (H x)) (he : e = x ∨ H e = some (.own x)) (k : ∀ b u, b ≠ e → h.get? b = some u → h'.get? b = some u) (heo : ∃ u, h'.get? e = some u) : Un fs ex H (upd H x o) h h' := by
  have hx : ∀ b, H b = none → b ≠ x := fun b n z => by subst z; rw [n] at mu; exact mu
  have hb : ∀ b, H b = none → b ≠ e := fun b n z => by
    subst z
    rcases he with r | r
    · exact hx b n r
    · rw [n] at r; cases r
  have hm : ∀ b u, H b = some u → ¬ Mut (some u) → b ≠ x := fun b u q nm z => by subst z; rw [q] at mu; exact nm mu
  refine ⟨fun b u q n _ _ => k b u (hb b n) q, fun b u q n _ _ => ⟨u.slots, k b u (hb b n) q⟩, fun b u q n _ => by rw [upd_ne (hx b n)]; exact n, fun b u q _ => ?_,
    fun b xs q => by rw [upd_ne (hm b _ q fun z => z)]; exact q, fun b u xs q => by rw [upd_ne (hm b _ q fun z => z)]; exact q, fun b ps q => ⟨#[], by rw [upd_ne (hm b _ q fun z => z), q]; simp⟩⟩
  by_cases hbe : b = e
  · subst hbe; exact heo
  · exact ⟨u, k b u hbe q⟩
theorem Un.mono (u : Un fs ex H H1 h h1) (hs : ∀ b ∈ fs, b ∈ fs') (hx : ∀ b ∈ ex, b ∈ ex') : Un fs' ex' H H1 h h1 :=
  ⟨fun b ob q n hb he => u.keep b ob q n (fun z => hb (hs b z)) fun z => he (hx b z), fun _ _ q n _ he => u.any q n fun z => he (hx _ z), fun b ob q n he => u.free b ob q n fun z => he (hx b z), fun b ob q he => u.there b ob q fun z => he (hx b z), u.tups, u.frzs, u.tbls⟩
end

def trk (h : Heap) (H : Hp) : List Addr := (List.range h.objs.size).filter fun a => (H a).isSome
def hidT (h : Heap) (H : Hp) : Heap := PySem.W.hideAll h (trk h H)
theorem hidT_size (h : Heap) (H : Hp) : (hidT h H).objs.size = h.objs.size := PySem.W.hideAll_size _ _
theorem hidT_get {h : Heap} {H : Hp} {b : Addr} {o : Obj} (e : h.get? b = some o) (n : H b = none) : (hidT h H).get? b = some o :=
  PySem.W.hideAll_get _ e fun hm => by
    have q : (H b).isSome = true := (List.mem_filter.mp hm).2
    rw [n] at q; simp at q
theorem of_hidT {h : Heap} {H : Hp} {b : Addr} {o : Obj} (e : (hidT h H).get? b = some o) : h.get? b = some o ∧ H b = none := by
  have e' : h.get? b = some o := PySem.W.of_hideAll (trk h H) e
  refine ⟨e', ?_⟩
  cases q : H b with
  | none => rfl
  | some x =>
    have hm : b ∈ trk h H := List.mem_filter.mpr ⟨List.mem_range.mpr (Heap.lt_size e'), by simp [q]⟩
    have z : (hidT h H).get? b = none := PySem.W.hideAll_none (trk h H) hm
    rw [z] at e; cases e

def allNews (g h : Heap) (L : Addr) : List (Addr × Obj) := (List.range h.objs.size).filterMap fun a => if a = L ∨ (g.get? a).isSome = true then none else (h.get? a).map fun o => (a, o)
def rest (g h : Heap) (L d : Addr) : List (Addr × Obj) := (allNews g h L).filter fun p => decide (p.1 ≠ d)
end L2

namespace L2
open PySem PySem.Spec PyProof.Rows

structure Mod (K : PySem.W.Frag) (mg : Str → Option Value) (base : Heap) : Prop where
  kin : K.In base
  glob : base.Ns mainGlobals mg
  blt : ∃ mb, base.Ns builtinsNs mb ∧ ∀ x : Str, x ≠ "__name__" → mb x = bootBuiltins x
  nolimit : base.NoLimit

/-- the context: a def's body (or a comprehension's block) running. base: fixed through the whole law; s₀, H₀: the entry; outer: the frames whose slots others may change (a def's callers); stack: all frames that run;
   ex: iterators that were made ahead of the entry and are walked here (a comprehension's); fn: the names whose cells were made at the entry (a def: all; a comprehension's block: its own); calm: not within an except suite; pn: pins that every state bears; xe: what is wanted of an exception that leaves the code -/
structure Cx where
  prog : Program
  w : World
  K : PySem.W.Frag
  mg : Str → Option Value
  base : Heap
  A : Around
  N : List Str
  s₀ : Shared
  H₀ : Hp
  env : Env
  outer : List Env
  stack : List Env
  ex : List Addr
  fn : Str → Bool
  calm : Bool
  pn : List (Addr × Obj)
  xe : Value → Shared → Prop
def frs (l : List Env) : List Addr := l.filterMap (·.frame)
abbrev Cx.fs (X : Cx) : List Addr := frs X.outer

def Vis (sc : Scope) (x : Str) : Prop := sc.names.lookup x = some .local ∨ sc.names.lookup x = some .cell ∨ sc.names.lookup x = some .free
def Loc (sc : Scope) (x : Str) : Prop := sc.names.lookup x = some .local ∨ sc.names.lookup x = some .cell
def Look (env : Env) (h : Heap) (m : Str → Option Value) (x : Str) (u : Value) : Prop :=
  (env.kindOf x = some .local ∧ m x = some u) ∨ ((env.kindOf x = some .cell ∨ env.kindOf x = some .free) ∧ ∃ c, env.cells.lookup x = some c ∧ h.IsCell c (some u))

structure Cx.Ok (X : Cx) : Prop where
  mod : Mod X.K X.mg X.base
  kind : X.env.scope.kind = .function
  glob : X.env.globals = mainGlobals
  blt : X.env.builtins = builtinsNs
  above : X.s₀.heap.objs.size ≤ X.env.locals
  inj : ∀ x y c, X.env.cells.lookup x = some c → X.env.cells.lookup y = some c → x = y
  has : ∀ x, (X.env.kindOf x = some .cell ∨ X.env.kindOf x = some .free) → ∃ c, X.env.cells.lookup x = some c
  cab : ∀ x c, X.fn x = true → X.env.cells.lookup x = some c → X.s₀.heap.objs.size ≤ c
  hd : X.calm = true → X.A.handled = none
  frames : X.A.frames = some X.stack
  stk : X.stack = X.outer ∨ (X.stack = X.env :: X.outer ∧ X.env.frame = some X.env.locals)
  exf : ∀ b ∈ X.ex, b ≠ X.env.locals ∧ ∀ x c, X.env.cells.lookup x = some c → c ≠ b
  bs : ∀ b o, X.base.get? b = some o → X.s₀.heap.get? b = some o ∧ X.H₀ b = none
  bsz : X.base.objs.size ≤ X.s₀.heap.objs.size
  noex : ∀ b o, X.base.get? b = some o → b ∉ X.ex
  exfs : ∀ b ∈ X.ex, b ∉ X.fs
  funs : X.s₀.heap.FunFrames X.base X.outer
  frf : ∀ b ∈ X.fs, X.H₀ b = none

structure Inv (X : Cx) (pins : List (Addr × Obj)) (σ : List (Option V)) (H : Hp) (s : Shared) : Prop where
  ok : X.Ok
  os : s.os = X.s₀.os
  bare : AllBare s.gens
  base : Un X.fs X.ex X.H₀ H X.s₀.heap s.heap
  loc : ∃ m, s.heap.Ns X.env.locals m ∧ ∀ (i : Nat) (x : Str) (v : V), X.N[i]? = some x → σ[i]? = some (some v) → Vis X.env.scope x → ∃ u, RelV v u ∧ Look X.env s.heap m x u
  cell : ∀ x c, X.env.cells.lookup x = some c → ∃ v, s.heap.IsCell c v
  free : H X.env.locals = none
  freeC : ∀ x c, X.env.cells.lookup x = some c → H c = none
  pin : ∀ p ∈ X.pn ++ pins, s.heap.get? p.1 = some p.2 ∧ H p.1 = none ∧ p.1 ≠ X.env.locals ∧ p.1 ∉ X.fs ∧ ∀ v, p.2.data ≠ .cell v
  hok : HOk X.prog X.w H s.heap
  len : σ.length = X.N.length

section
variable {X : Cx} {pins : List (Addr × Obj)} {σ : List (Option V)} {H H' : Hp} {s : Shared} {h' : Heap}

theorem Cx.Ok.nofr (ok : X.Ok) {b : Addr} {o : Obj} (e : X.base.get? b = some o) : b ∉ X.fs := fun hb => by
  have := (ok.funs.mem hb).1
  rw [e] at this; cases this
theorem Inv.bs (I : Inv X pins σ H s) : ∀ b o, X.base.get? b = some o → s.heap.get? b = some o ∧ H b = none := fun b o e =>
  ⟨I.base.keep b o (I.ok.bs b o e).1 (I.ok.bs b o e).2 (I.ok.nofr e) (I.ok.noex b o e), I.base.free b o (I.ok.bs b o e).1 (I.ok.bs b o e).2 (I.ok.noex b o e)⟩
theorem Inv.bk (I : Inv X pins σ H s) : ∀ b o, X.base.get? b = some o → s.heap.get? b = some o := fun b o e => (I.bs b o e).1
theorem Inv.mod (I : Inv X pins σ H s) : Mod X.K X.mg X.base := I.ok.mod
theorem Inv.kIn (I : Inv X pins σ H s) : X.K.In s.heap := I.ok.mod.kin.keeps I.bk
theorem Inv.nolimit (I : Inv X pins σ H s) : s.heap.NoLimit := I.ok.mod.nolimit.keeps I.bk
theorem Inv.lt (I : Inv X pins σ H s) : X.env.locals < s.heap.objs.size := let ⟨_, hn, _⟩ := I.loc; hn.lt
theorem Inv.sz (I : Inv X pins σ H s) : X.s₀.heap.objs.size ≤ s.heap.objs.size := Nat.le_trans I.ok.above (Nat.le_of_lt I.lt)
theorem Inv.nofs (I : Inv X pins σ H s) {a : Addr} (h : s.heap.objs.size ≤ a) : a ∉ X.fs := fun hb => by
  obtain ⟨_, o, ho, _⟩ := I.ok.funs.mem hb
  exact absurd (Nat.lt_of_lt_of_le (Heap.lt_size ho) (Nat.le_trans I.sz h)) (Nat.lt_irrefl _)
theorem Inv.cne (I : Inv X pins σ H s) : ∀ x c, X.env.cells.lookup x = some c → c ≠ X.env.locals := fun x c e z => by
  obtain ⟨v, o, ho, hd⟩ := I.cell x c e
  obtain ⟨m, ⟨o', es, ep, ho', hd', _⟩, _⟩ := I.loc
  rw [z, ho'] at ho; cases ho; rw [hd'] at hd; cases hd
theorem Inv.funs (I : Inv X pins σ H s) : s.heap.FunFrames X.base X.outer := by
  have all : ∀ (l : List Env), (∀ b ∈ frs l, b ∈ X.fs) → X.s₀.heap.FunFrames X.base l → s.heap.FunFrames X.base l := by
    intro l
    induction l with
    | nil => intro _ _; trivial
    | cons env r ih =>
      intro hs hl
      obtain ⟨hk, ⟨L, o, hf, hn, ho, hd⟩, hr⟩ := hl
      have hL : L ∈ X.fs := hs L (by unfold frs; rw [List.filterMap_cons, hf]; exact List.mem_cons_self)
      obtain ⟨sl, e⟩ := I.base.slot L o ho (I.ok.frf L hL) hL fun z => I.ok.exfs L z hL
      exact ⟨hk, ⟨L, _, hf, hn, e, hd⟩, ih (fun b hb => hs b (by unfold frs; rw [List.filterMap_cons, hf]; exact List.mem_cons_of_mem _ hb)) hr⟩
  exact all X.outer (fun _ hb => hb) I.ok.funs

theorem Inv.stack (I : Inv X pins σ H s) : s.heap.FunFrames X.base X.stack := by
  rcases I.ok.stk with e | ⟨e, hf⟩
  · rw [e]; exact I.funs
  · rw [e]
    obtain ⟨m, hn, _⟩ := I.loc
    refine .cons (by rw [I.ok.kind]; decide) hf hn ?_ I.funs
    exact Heap.get?_none_of_le (Nat.le_trans I.ok.bsz I.ok.above)
theorem Inv.stkSub (I : Inv X pins σ H s) : ∀ b ∈ frs X.stack, b ∈ X.env.locals :: X.fs := fun b hb => by
  rcases I.ok.stk with e | ⟨e, hf⟩
  · rw [e] at hb; exact List.mem_cons_of_mem _ hb
  · rw [e] at hb
    unfold frs at hb
    rw [List.filterMap_cons, hf] at hb
    exact hb
theorem Inv.stkFree (I : Inv X pins σ H s) : ∀ b ∈ frs X.stack, H b = none := fun b hb => by
  rcases List.mem_cons.mp (I.stkSub b hb) with e | hb
  · rw [e]; exact I.free
  · obtain ⟨_, o, ho, _⟩ := I.ok.funs.mem hb
    exact I.base.free b o ho (I.ok.frf b hb) fun z => I.ok.exfs b z hb

theorem Inv.step {g' : Array GenState} {t' : Nat} {d' : Drawn} {ch : List Addr} (I : Inv X pins σ H s)
    (hch : ∀ b ∈ ch, (b ∈ X.ex ∨ X.s₀.heap.objs.size ≤ b) ∧ b ≠ X.env.locals ∧ (∀ x c, X.env.cells.lookup x = some c → c ≠ b) ∧ ∀ p ∈ X.pn ++ pins, p.1 ≠ b)
    (keep : ∀ b o, b ≠ X.env.locals → b ∉ X.fs → b ∉ ch → s.heap.get? b = some o → H b = none → h'.get? b = some o)
    (slot : ∀ b o, b ≠ X.env.locals → b ∈ X.fs → b ∉ ch → s.heap.get? b = some o → H b = none → ∃ sl, h'.get? b = some { o with slots := sl }) (free : ∀ b o, b ∉ ch → s.heap.get? b = some o → H b = none → H' b = none)
    (there : ∀ b o, b ∉ ch → s.heap.get? b = some o → ∃ o', h'.get? b = some o')
    (tups : ∀ b xs, H b = some (.tup xs) → H' b = some (.tup xs)) (frzs : ∀ b o u, H b = some (.frz o u) → H' b = some (.frz o u)) (tbls : ∀ b ps, H b = some (.tbl ps) → ∃ more, H' b = some (.tbl (ps ++ more)))
    (ns : ∀ m, s.heap.Ns X.env.locals m → h'.Ns X.env.locals m) (hok : HOk X.prog X.w H' h') (hg : AllBare g') :
    Inv X pins σ H' { s with heap := h', gens := g', drawn := d', toks := t' } := by
  have neL : ∀ b o, X.s₀.heap.get? b = some o → b ≠ X.env.locals := fun b o e => Nat.ne_of_lt (Nat.lt_of_lt_of_le (Heap.lt_size e) I.ok.above)
  have neC : ∀ b o, X.s₀.heap.get? b = some o → b ∉ X.ex → b ∉ ch := fun b o e hx hb => by
    rcases (hch b hb).1 with z | z
    · exact hx z
    · exact absurd (Nat.lt_of_lt_of_le (Heap.lt_size e) z) (Nat.lt_irrefl _)
  have cellK : ∀ x c, X.env.cells.lookup x = some c → ∀ v, s.heap.IsCell c v → h'.IsCell c v := fun x c e v ⟨o, ho, hd⟩ => by
    have nch : c ∉ ch := fun z => (hch c z).2.2.1 x c e rfl
    by_cases hc : c ∈ X.fs
    · obtain ⟨sl, q⟩ := slot c o (I.cne x c e) hc nch ho (I.freeC x c e)
      exact ⟨_, q, hd⟩
    · exact ⟨o, keep c o (I.cne x c e) hc nch ho (I.freeC x c e), hd⟩
  refine ⟨I.ok, I.os, hg, ⟨fun b o e n hb hx => ?_, fun b o e n hb hx => ?_, fun b o e n hx => ?_, fun b o e hx => ?_, fun b xs e => tups b xs (I.base.tups b xs e), fun b o xs e => frzs b o xs (I.base.frzs b o xs e), fun b ps e => ?_⟩, ?_, fun x c e => ?_, ?_, fun x c e => ?_, fun p hp => ?_, hok, I.len⟩
  · exact keep b o (neL b o e) hb (neC b o e hx) (I.base.keep b o e n hb hx) (I.base.free b o e n hx)
  · obtain ⟨sl, e1⟩ := I.base.slot b o e n hb hx
    obtain ⟨sl', e2⟩ := slot b _ (neL b o e) hb (neC b o e hx) e1 (I.base.free b o e n hx)
    exact ⟨sl', e2⟩
  · obtain ⟨o', e1⟩ := I.base.there b o e hx
    exact free b o' (neC b o e hx) e1 (I.base.free b o e n hx)
  · obtain ⟨o', e1⟩ := I.base.there b o e hx
    exact there b o' (neC b o e hx) e1
  · obtain ⟨m1, e1⟩ := I.base.tbls b ps e
    obtain ⟨m2, e2⟩ := tbls b _ e1
    exact ⟨m1 ++ m2, by rw [e2, Array.append_assoc]⟩
  · obtain ⟨m, hn, hl⟩ := I.loc
    refine ⟨m, ns m hn, fun i x v e1 e2 e3 => ?_⟩
    obtain ⟨u, r, l⟩ := hl i x v e1 e2 e3
    refine ⟨u, r, ?_⟩
    rcases l with l | ⟨k, c, e, z⟩
    · exact .inl l
    · exact .inr ⟨k, c, e, cellK x c e _ z⟩
  · obtain ⟨v, z⟩ := I.cell x c e
    exact ⟨v, cellK x c e v z⟩
  · obtain ⟨m, ⟨o, _, _, ho, _⟩, _⟩ := I.loc
    exact free _ o (fun z => (hch _ z).2.1 rfl) ho I.free
  · obtain ⟨v, o, ho, hd⟩ := I.cell x c e
    exact free c o (fun z => (hch c z).2.2.1 x c e rfl) ho (I.freeC x c e)
  · obtain ⟨e, n, ne, nf, d⟩ := I.pin p hp
    have nch : p.1 ∉ ch := fun z => (hch p.1 z).2.2.2 p hp rfl
    exact ⟨keep p.1 p.2 ne nf nch e n, free p.1 p.2 nch e n, ne, nf, d⟩
theorem Inv.un {t' : Nat} (I : Inv X pins σ H s) (u : Un X.fs [] H H' s.heap h') (hok : HOk X.prog X.w H' h') : Inv X pins σ H' { s with heap := h', toks := t' } := by
  obtain ⟨m, ⟨o, es, ep, ho, r⟩, _⟩ := id I.loc
  obtain ⟨sl, hL⟩ := u.any ho I.free (by simp)
  exact I.step (g' := s.gens) (d' := s.drawn) (ch := []) (fun _ z => nomatch z) (fun b o _ hb _ e n => u.keep b o e n hb (by simp)) (fun b o _ hb _ e n => u.slot b o e n hb (by simp)) (fun b o _ e n => u.free b o e n (by simp)) (fun b o _ e => u.there b o e (by simp)) u.tups u.frzs u.tbls (fun m' hm => by
    obtain ⟨o', es', ep', ho', r'⟩ := hm
    rw [ho] at ho'; cases ho'
    exact ⟨_, es', ep', hL, r'⟩) hok I.bare
theorem Inv.call {g' : Array GenState} {t' : Nat} {d' : Drawn} {ch : List Addr} (I : Inv X pins σ H s) (u : Un (frs X.stack) ch H H' s.heap h') (hok : HOk X.prog X.w H' h') (hg : AllBare g')
    (hch : ∀ b ∈ ch, (b ∈ X.ex ∨ X.s₀.heap.objs.size ≤ b) ∧ b ≠ X.env.locals ∧ (∀ x c, X.env.cells.lookup x = some c → c ≠ b) ∧ ∀ p ∈ X.pn ++ pins, p.1 ≠ b) :
    Inv X pins σ H' { s with heap := h', gens := g', drawn := d', toks := t' } := by
  obtain ⟨m, ⟨o, es, ep, ho, r⟩, _⟩ := id I.loc
  obtain ⟨sl, hL⟩ := u.any ho I.free fun z => (hch _ z).2.1 rfl
  exact I.step (ch := ch) hch (fun b o hL hb hc e n => u.keep b o e n (fun z => (List.mem_cons.mp (I.stkSub b z)).elim hL hb) hc) (fun b o _ _ hc e n => u.any e n hc) (fun b o hc e n => u.free b o e n hc) (fun b o hc e => u.there b o e hc) u.tups u.frzs u.tbls (fun m' hm => by
    obtain ⟨o', es', ep', ho', r'⟩ := hm
    rw [ho] at ho'; cases ho'
    exact ⟨_, es', ep', hL, r'⟩) hok hg
theorem Inv.turned {t' : Nat} {it : Addr} (I : Inv X pins σ H s) (k : ∀ b o, b ≠ it → s.heap.get? b = some o → h'.get? b = some o) (hn : H it = none) (hL : it ≠ X.env.locals)
    (h1 : it ∈ X.ex ∨ X.s₀.heap.objs.size ≤ it) (h2 : ∀ x c, X.env.cells.lookup x = some c → c ≠ it) (h3 : ∀ p ∈ X.pn ++ pins, p.1 ≠ it) : Inv X pins σ H { s with heap := h', toks := t' } := by
  have nit : ∀ b u, H b = some u → b ≠ it := fun b u e z => by rw [z, hn] at e; cases e
  refine I.step (g' := s.gens) (d' := s.drawn) (ch := [it]) (fun b hb => ?_) (fun b o _ _ hc e _ => k b o (fun z => hc (by simp [z])) e) (fun b o _ _ hc e _ => ⟨o.slots, k b o (fun z => hc (by simp [z])) e⟩) (fun _ _ _ _ n => n)
    (fun b o hc e => ⟨o, k b o (fun z => hc (by simp [z])) e⟩) (fun _ _ e => e) (fun _ _ _ e => e) (fun b ps e => ⟨#[], by rw [e]; simp⟩) (fun m hm => ?_) (fun b u e => ?_) I.bare
  · have e : b = it := by simpa using hb
    subst e
    exact ⟨h1, hL, h2, h3⟩
  · obtain ⟨o, es, ep, ho, r⟩ := hm
    exact ⟨o, es, ep, k _ o (Ne.symm hL) ho, r⟩
  · refine (I.hok b u e).stay (fun c v hc q => k c v ?_ q) (fun _ q => q) fun _ _ q => q
    rcases hc with z | z
    · rw [z]; exact nit b u e
    · exact nit c _ z
theorem Inv.tok (I : Inv X pins σ H s) (t : Nat) : Inv X pins σ H { s with toks := t } := I.un (h' := s.heap) (t' := t) Un.refl I.hok
theorem Inv.kept {t' : Nat} (I : Inv X pins σ H s) (k : ∀ b u, s.heap.get? b = some u → h'.get? b = some u) : Inv X pins σ H { s with heap := h', toks := t' } := I.un (Un.kept k) (I.hok.kept k)
theorem Inv.laid {a : Addr} {o : HO} {t' : Nat} (I : Inv X pins σ H s) (k : ∀ b u, s.heap.get? b = some u → h'.get? b = some u) (hp : s.heap.objs.size ≤ a) (new : ObjOk X.prog X.w (upd H a o) h' a o) :
    Inv X pins σ (upd H a o) { s with heap := h', toks := t' } := I.un (Un.laid k hp (I.hok.fresh hp)) (I.hok.laid k hp new)
theorem Inv.write {x e : Addr} {o : HO} {t' : Nat} (I : Inv X pins σ H s) (mu : Mut (H x)) (he : e = x ∨ H e = some (.own x)) (k : ∀ b u, b ≠ e → s.heap.get? b = some u → h'.get? b = some u) (heo : ∃ u, h'.get? e = some u)
    (new : ObjOk X.prog X.w (upd H x o) h' x o) : Inv X pins σ (upd H x o) { s with heap := h', toks := t' } := I.un (Un.write mu he k heo) (I.hok.write mu he k heo new)
theorem Inv.weak {σ' : List (Option V)} (I : Inv X pins σ H s) (hl : σ'.length = σ.length) (w : ∀ (i : Nat) v, σ'[i]? = some (some v) → σ[i]? = some (some v)) : Inv X pins σ' H s :=
  ⟨I.ok, I.os, I.bare, I.base, let ⟨m, hn, hl'⟩ := I.loc; ⟨m, hn, fun i x v e1 e2 e3 => hl' i x v e1 (w i v e2) e3⟩, I.cell, I.free, I.freeC, I.pin, I.hok, hl.trans I.len⟩
theorem Inv.pins_of {pins' : List (Addr × Obj)} (I : Inv X pins σ H s) (h : ∀ p ∈ pins', s.heap.get? p.1 = some p.2 ∧ H p.1 = none ∧ p.1 ≠ X.env.locals ∧ p.1 ∉ X.fs ∧ ∀ v, p.2.data ≠ .cell v) : Inv X pins' σ H s :=
  ⟨I.ok, I.os, I.bare, I.base, I.loc, I.cell, I.free, I.freeC, fun p hp => (List.mem_append.mp hp).elim (fun z => I.pin p (List.mem_append_left _ z)) (h p), I.hok, I.len⟩

theorem nodup_ix {N : List Str} (hN : N.Nodup) {i j : Nat} {x : Str} (a : N[i]? = some x) (b : N[j]? = some x) : i = j := by
  obtain ⟨h1, e1⟩ := List.getElem?_eq_some_iff.mp a
  obtain ⟨h2, e2⟩ := List.getElem?_eq_some_iff.mp b
  exact (List.getElem_inj hN).mp (e1.trans e2.symm)

theorem store_ok2 {M : Model} {A : Around} {E : Value → Shared → Prop} {i : Nat} {x : Str} {v : V} {u : Value} {Q : Unit → Shared → Prop} (I : Inv X pins σ H s) (hN : X.N.Nodup) (hi : X.N[i]? = some x) (hx : Loc X.env.scope x) (r : RelV v u)
    (h : ∀ s', Inv X pins (σ.set i (some v)) H s' → (∃ a, Heap.SameBut a s.heap s'.heap ∧ (a = X.env.locals ∨ X.env.cells.lookup x = some a)) → Q () s') (hf : X.fn x = true ∨ X.env.scope.names.lookup x = some .local := by first | exact .inl rfl | exact .inr rfl | assumption) : wpAny M A (storeName X.env x u) Q E s := by
  obtain ⟨m, hn, hl⟩ := id I.loc
  have hcls : (X.env.scope.kind == .class || (X.env.scope.kind == .module && X.env.locals != X.env.globals)) = false := by rw [I.ok.kind]; rfl
  have hiσ : i < σ.length := by rw [I.len]; exact (List.getElem?_eq_some_iff.mp hi).1
  have cne := I.cne
  have tracked : ∀ {a : Addr} {h' : Heap}, (∃ o, s.heap.get? a = some o ∧ H a = none) → Heap.SameBut a s.heap h' → HOk X.prog X.w H h' := fun {a h'} ha hs b ob e => by
    obtain ⟨_, _, hfree⟩ := ha
    refine (I.hok b ob e).stay (fun c w' hc q => (hs.2 c ?_).trans q) (fun _ q => q) fun _ _ q => q
    rintro rfl
    rcases hc with rfl | hc
    · rw [hfree] at e; cases e
    · rw [hfree] at hc; cases hc
  rcases hx with hk | hk
  · refine wpAny_storeName_local hk hn (fun h' hn' hs => ?_) hcls
    obtain ⟨oL, _, _, hoL, _⟩ := id hn
    refine h _ ⟨I.ok, I.os, I.bare, ⟨fun b o e n hb hx => ?_, fun b o e n hb hx => ?_, I.base.free, fun b o e hx => ?_, I.base.tups, I.base.frzs, I.base.tbls⟩, ⟨_, hn', fun j y v' e1 e2 e3 => ?_⟩, fun y c e => ?_, I.free, I.freeC, fun p hp => ?_, tracked ⟨oL, hoL, I.free⟩ hs, by simpa using I.len⟩ ⟨_, hs, .inl rfl⟩
    · exact (hs.2 b (Nat.ne_of_lt (Nat.lt_of_lt_of_le (Heap.lt_size e) I.ok.above))).trans (I.base.keep b o e n hb hx)
    · obtain ⟨sl, e1⟩ := I.base.slot b o e n hb hx
      exact ⟨sl, (hs.2 b (Nat.ne_of_lt (Nat.lt_of_lt_of_le (Heap.lt_size e) I.ok.above))).trans e1⟩
    · obtain ⟨o', e1⟩ := I.base.there b o e hx
      exact ⟨o', (hs.2 b (Nat.ne_of_lt (Nat.lt_of_lt_of_le (Heap.lt_size e) I.ok.above))).trans e1⟩
    · by_cases hj : j = i
      · subst hj
        rw [hi] at e1; cases e1
        rw [List.getElem?_set_self hiσ] at e2
        cases e2
        exact ⟨u, r, .inl ⟨hk, by simp⟩⟩
      · rw [List.getElem?_set_ne (Ne.symm hj)] at e2
        obtain ⟨u', r', q⟩ := hl j y v' e1 e2 e3
        refine ⟨u', r', ?_⟩
        rcases q with ⟨k, e⟩ | ⟨k, c, e, z⟩
        · refine .inl ⟨k, ?_⟩
          have : y ≠ x := fun e => hj (nodup_ix hN e1 (e ▸ hi))
          simp [this, e]
        · exact .inr ⟨k, c, e, z.sameBut hs (cne y c e)⟩
    · obtain ⟨w', z⟩ := I.cell y c e
      exact ⟨w', z.sameBut hs (cne y c e)⟩
    · obtain ⟨e, n, ne, nf, d⟩ := I.pin p hp
      exact ⟨(hs.2 p.1 ne).trans e, n, ne, nf, d⟩
  · have hfn : X.fn x = true := by
      rcases hf with z | z
      · exact z
      · rw [z] at hk; cases hk
    obtain ⟨c, hc⟩ := I.ok.has x (.inl hk)
    obtain ⟨w', z⟩ := I.cell x c hc
    refine wpAny_storeName_cell I.ok.kind hk hc z (fun h' hc' hs => ?_)
    obtain ⟨oc, hoc, hocd⟩ := id z
    refine h { s with heap := h' } ⟨I.ok, I.os, I.bare, ⟨fun b o e n hb hx => ?_, fun b o e n hb hx => ?_, I.base.free, fun b o e hx => ?_, I.base.tups, I.base.frzs, I.base.tbls⟩, ⟨m, hn.sameBut hs (Ne.symm (cne x c hc)), fun j y v' e1 e2 e3 => ?_⟩, fun y c' e => ?_, I.free, I.freeC, fun p hp => ?_, tracked ⟨oc, hoc, I.freeC x c hc⟩ hs, by simpa using I.len⟩ ⟨c, hs, .inr hc⟩
    · exact (hs.2 b (Nat.ne_of_lt (Nat.lt_of_lt_of_le (Heap.lt_size e) (I.ok.cab x c hfn hc)))).trans (I.base.keep b o e n hb hx)
    · obtain ⟨sl, e1⟩ := I.base.slot b o e n hb hx
      exact ⟨sl, (hs.2 b (Nat.ne_of_lt (Nat.lt_of_lt_of_le (Heap.lt_size e) (I.ok.cab x c hfn hc)))).trans e1⟩
    · obtain ⟨o', e1⟩ := I.base.there b o e hx
      exact ⟨o', (hs.2 b (Nat.ne_of_lt (Nat.lt_of_lt_of_le (Heap.lt_size e) (I.ok.cab x c hfn hc)))).trans e1⟩
    · by_cases hj : j = i
      · subst hj
        rw [hi] at e1; cases e1
        rw [List.getElem?_set_self hiσ] at e2
        cases e2
        exact ⟨u, r, .inr ⟨.inl hk, c, hc, hc'⟩⟩
      · rw [List.getElem?_set_ne (Ne.symm hj)] at e2
        obtain ⟨u', r', q⟩ := hl j y v' e1 e2 e3
        refine ⟨u', r', ?_⟩
        rcases q with q | ⟨k, c', e, z'⟩
        · exact .inl q
        · refine .inr ⟨k, c', e, z'.sameBut hs ?_⟩
          rintro rfl
          exact hj (nodup_ix hN e1 (I.ok.inj _ _ _ e hc ▸ hi))
    · by_cases hcc : c' = c
      · subst hcc; exact ⟨_, hc'⟩
      · obtain ⟨w2, z2⟩ := I.cell y c' e
        exact ⟨w2, z2.sameBut hs hcc⟩
    · obtain ⟨e, n, ne, nf, d⟩ := I.pin p hp
      refine ⟨(hs.2 p.1 ?_).trans e, n, ne, nf, d⟩
      intro q
      rw [q, hoc] at e
      have q' : oc = p.2 := Option.some.inj e
      exact d w' (by rw [← q']; exact hocd)
theorem store_ok {M : Model} {A : Around} {E : Value → Shared → Prop} {i : Nat} {x : Str} {v : V} {u : Value} {Q : Unit → Shared → Prop} (I : Inv X pins σ H s) (hN : X.N.Nodup) (hi : X.N[i]? = some x) (hx : Loc X.env.scope x) (r : RelV v u)
    (h : ∀ s', Inv X pins (σ.set i (some v)) H s' → Q () s') (hf : X.fn x = true ∨ X.env.scope.names.lookup x = some .local := by first | exact .inl rfl | exact .inr rfl | assumption) : wpAny M A (storeName X.env x u) Q E s :=
  store_ok2 I hN hi hx r (fun s' I' _ => h s' I') hf
theorem Inv.call' {s' : Shared} {ch : List Addr} (I : Inv X pins σ H s) (ho : s'.os = s.os) (u : Un (frs X.stack) ch H H' s.heap s'.heap) (hok : HOk X.prog X.w H' s'.heap) (hg : AllBare s'.gens)
    (hch : ∀ b ∈ ch, (b ∈ X.ex ∨ X.s₀.heap.objs.size ≤ b) ∧ b ≠ X.env.locals ∧ (∀ x c, X.env.cells.lookup x = some c → c ≠ b) ∧ ∀ p ∈ X.pn ++ pins, p.1 ≠ b) : Inv X pins σ H' s' := by
  obtain ⟨h', g', d', t', o'⟩ := s'
  have e : o' = s.os := ho
  subst e
  exact I.call (g' := g') (t' := t') (d' := d') u hok hg hch
end

abbrev XK := Value → Option Addr → Hp → Prop
abbrev St := List (Option V)
abbrev VK := V → Hp → Prop
abbrev TE := St → Hp → VK → Prop
abbrev TT := St → Hp → (Bool → Hp → Prop) → Prop
abbrev TA := St → Hp → (List V → Hp → Prop) → Prop
structure Ends where
  nx : St → Hp → Prop
  rt : VK
  bk : St → Hp → Prop := fun _ _ => False
  ct : St → Hp → Prop := fun _ _ => False
abbrev TS := Ends → St → Hp → Prop

def EP (X : Cx) (pins : List (Addr × Obj)) (σ : St) (Q : VK) (u : Value) (s' : Shared) : Prop := ∃ v H', Inv X pins σ H' s' ∧ RelV v u ∧ Q v H'
def TP (X : Cx) (pins : List (Addr × Obj)) (σ : St) (Q : Bool → Hp → Prop) (b : Bool) (s' : Shared) : Prop := ∃ H', Inv X pins σ H' s' ∧ Q b H'
def AP (X : Cx) (pins : List (Addr × Obj)) (σ : St) (Q : List V → Hp → Prop) (us : List Value) (s' : Shared) : Prop := ∃ vs H', Inv X pins σ H' s' ∧ Vals vs us ∧ Q vs H'
def SP (X : Cx) (pins : List (Addr × Obj)) (D : Ends) (f : Flow) (s' : Shared) : Prop :=
  match f with
  | .next => ∃ σ' H', Inv X pins σ' H' s' ∧ D.nx σ' H'
  | .brk => ∃ σ' H', Inv X pins σ' H' s' ∧ D.bk σ' H'
  | .cont => ∃ σ' H', Inv X pins σ' H' s' ∧ D.ct σ' H'
  | .ret u => ∃ v σ' H', Inv X pins σ' H' s' ∧ RelV v u ∧ D.rt v H'

def PE (X : Cx) (e : Expr) (t : TE) : Prop :=
  ∀ (pins : List (Addr × Obj)) (s : Shared) (σ : St) (H : Hp) (Q : VK), Inv X pins σ H s → t σ H Q → wpAny (model X.prog X.w) X.A (eval e X.env) (EP X pins σ Q) X.xe s
def PT (X : Cx) (e : Expr) (t : TT) : Prop :=
  ∀ (pins : List (Addr × Obj)) (s : Shared) (σ : St) (H : Hp) (Q : Bool → Hp → Prop), Inv X pins σ H s → t σ H Q → wpAny (model X.prog X.w) X.A (isTrue e X.env (eval e X.env)) (TP X pins σ Q) X.xe s
def PW (X : Cx) (e : Expr) (t : TT) : Prop :=
  ∀ (whole : Sem Value) (pins : List (Addr × Obj)) (s : Shared) (σ : St) (H : Hp) (Q : Bool → Hp → Prop), Inv X pins σ H s → t σ H Q → wpAny (model X.prog X.w) X.A (isTrue e X.env whole) (TP X pins σ Q) X.xe s
theorem PW.pt {X : Cx} {e : Expr} {t : TT} (h : PW X e t) : PT X e t := h _
def PA (X : Cx) (es : List Expr) (t : TA) : Prop :=
  ∀ (pos : Pos) (pins : List (Addr × Obj)) (s : Shared) (σ : St) (H : Hp) (Q : List V → Hp → Prop), Inv X pins σ H s → t σ H Q → wpAny (model X.prog X.w) X.A (spliced (backTo pos (starEach es X.env))) (AP X pins σ Q) X.xe s
def PS (X : Cx) (st : Stmt) (t : TS) : Prop :=
  ∀ (pins : List (Addr × Obj)) (s : Shared) (σ : St) (H : Hp) (D : Ends), Inv X pins σ H s → t D σ H → wpAny (model X.prog X.w) X.A (exec st X.env) (SP X pins D) X.xe s
def PSs (X : Cx) (st : List Stmt) (t : TS) : Prop :=
  ∀ (pins : List (Addr × Obj)) (s : Shared) (σ : St) (H : Hp) (D : Ends), Inv X pins σ H s → t D σ H → wpAny (model X.prog X.w) X.A (execs st X.env) (SP X pins D) X.xe s
theorem thn {α : Type} {t : Sem α} {Q Q' : α → Shared → Prop} {M : Model} {A : Around} {E : Value → Shared → Prop} {s : Shared} (h : wpAny M A t Q E s) (hQ : ∀ a s, Q a s → Q' a s) : wpAny M A t Q' E s := wpAny_mono h hQ fun _ _ x => x
end L2

namespace L2
open PySem PySem.Spec PyProof.Rows
section
variable {X : Cx}


def tVar (i : Nat) : TE := fun σ H Q => ∃ v, σ[i]? = some (some v) ∧ Q v H
def tC (v : V) : TE := fun _ H Q => Q v H
theorem pe_var {i : Nat} {x : Str} {pos : Pos} (hN : X.N[i]? = some x) (hv : Vis X.env.scope x) (hd : (x == ("__debug__" : Str)) = false := by decide) (hcd : (x == ("__classdict__" : Str)) = false := by decide) : PE X (.Name x pos) (tVar i) := by
  intro pins s σ H Q I h
  obtain ⟨v, e, h⟩ := h
  obtain ⟨m, hn, hl⟩ := I.loc
  obtain ⟨u, r, l⟩ := hl i x v hN e hv
  have fin : EP X pins σ Q u s := ⟨v, H, I, r, h⟩
  rcases l with ⟨hk, hm⟩ | ⟨hk, c, hc, hcell⟩
  · exact wpAny_Name (wpAny_loadName_local I.ok.kind hk hn hm fin) hd
  · rcases hk with hk | hk
    · exact wpAny_Name (wpAny_loadName_cell I.ok.kind hk hc hcell fin) hd
    · exact wpAny_Name (wpAny_loadName_free I.ok.kind hk hc hcell fin hcd) hd
theorem pe_int {i j pos} : PE X (.Constant (.int i) j pos) (tC (.int i)) := fun _ _ _ H _ I h => wpAny_Constant_int ⟨.int i, H, I.tok _, ⟨_, rfl⟩, h⟩
theorem pe_bl {b j pos} : PE X (.Constant (.bool b) j pos) (tC (.bl b)) := fun _ _ _ H _ I h => Constant_bool ⟨.bl b, H, I, rfl, h⟩
theorem pe_non {j pos} : PE X (.Constant .none j pos) (tC .non) := fun _ _ _ H _ I h => Constant_none ⟨.non, H, I, rfl, h⟩

def Gl (X : Cx) (x : Str) : Prop := X.env.kindOf x = some .globalImplicit
theorem ld_glob {E : Value → Shared → Prop} {pins : List (Addr × Obj)} {s : Shared} {σ : St} {H : Hp} {x : Str} {u : Value} {pos : Pos} {Q : Value → Shared → Prop} (I : Inv X pins σ H s) (hg : Gl X x) (hm : X.mg x = some u) (h : Q u s)
    (hd : (x == ("__debug__" : Str)) = false := by decide) : wpAny (model X.prog X.w) X.A (eval (.Name x pos) X.env) Q E s :=
  Calls.Name_function_global I.ok.kind hg (Calls.loadGlobal_global (by rw [I.ok.glob]; exact I.mod.glob.keeps I.bk) hm h) hd
theorem ld_blt {E : Value → Shared → Prop} {pins : List (Addr × Obj)} {s : Shared} {σ : St} {H : Hp} {x : Str} {u : Value} {pos : Pos} {Q : Value → Shared → Prop} (I : Inv X pins σ H s) (hg : Gl X x) (hm : X.mg x = none) (hv : bootBuiltins x = some u) (h : Q u s)
    (hn : x ≠ "__name__" := by decide) (hd : (x == ("__debug__" : Str)) = false := by decide) : wpAny (model X.prog X.w) X.A (eval (.Name x pos) X.env) Q E s := by
  obtain ⟨mb, h1, h2⟩ := I.mod.blt
  exact Calls.Name_function_global I.ok.kind hg (Calls.loadGlobal_builtin (by rw [I.ok.glob]; exact I.mod.glob.keeps I.bk) hm (by rw [I.ok.blt]; exact h1.keeps I.bk) ((h2 x hn).trans hv) h) hd

def t2I (ta tb : TE) (k : Int → Int → Hp → Prop) : St → Hp → Prop := fun σ H => ta σ H fun x H1 => tb σ H1 fun y H2 => ∃ i j, x = .int i ∧ y = .int j ∧ k i j H2
def tAdd (ta tb : TE) : TE := fun σ H Q => t2I ta tb (fun i j H2 => Q (.int (i + j)) H2) σ H
def tSub (ta tb : TE) : TE := fun σ H Q => t2I ta tb (fun i j H2 => Q (.int (i - j)) H2) σ H
def tMul (ta tb : TE) : TE := fun σ H Q => t2I ta tb (fun i j H2 => (-(2 ^ 64) < i ∧ i < 2 ^ 64) ∧ Q (.int (i * j)) H2) σ H
variable {a b : Expr} {ta tb : TE} {pos : Pos}

def PC (X : Cx) (op : CmpOp) (a b : Expr) (t : TE) : Prop :=
  ∀ (pins : List (Addr × Obj)) (s : Shared) (σ : St) (H : Hp) (Q : VK), Inv X pins σ H s → t σ H Q →
    wpAny (model X.prog X.w) X.A (eval a X.env) (fun v s₁ => wpAny (model X.prog X.w) X.A (eval b X.env) (fun u s₂ => wpAny (model X.prog X.w) X.A (compareOp op v u) (EP X pins σ Q) X.xe s₂) X.xe s₁) X.xe s
theorem nobehind (b : Expr) {op : CmpOp} (h : op ≠ .In) (h2 : op ≠ .NotIn) : behindInMarks op b = false := by
  have e1 : (op == CmpOp.In) = false := by cases op <;> first | rfl | exact absurd rfl h
  have e2 : (op == CmpOp.NotIn) = false := by cases op <;> first | rfl | exact absurd rfl h2
  cases b <;> simp [behindInMarks, e1, e2]
def tCmp (p : Int → Int → Bool) (ta tb : TE) : TE := fun σ H Q => t2I ta tb (fun i j H2 => Q (.bl (p i j)) H2) σ H
abbrev tLt : TE → TE → TE := tCmp fun i j => decide (i < j)
abbrev tLe : TE → TE → TE := tCmp fun i j => decide (i ≤ j)
abbrev tGt : TE → TE → TE := tCmp fun i j => decide (j < i)
abbrev tGe : TE → TE → TE := tCmp fun i j => decide (j ≤ i)
abbrev tEqI : TE → TE → TE := tCmp fun i j => decide (i = j)
abbrev tNeI : TE → TE → TE := tCmp fun i j => !decide (i = j)
def tIsN (ta : TE) : TE := fun σ H Q => ta σ H fun x H1 => Q (.bl (decide (x = .non))) H1
def tNotN (ta : TE) : TE := fun σ H Q => ta σ H fun x H1 => Q (.bl (!decide (x = .non))) H1
theorem RelV.none_iff {x : V} {v : Value} (r : RelV x v) : (v == Value.none) = decide (x = .non) := by
  cases x with
  | non => cases r; rfl
  | bl _ => cases r; rfl
  | int _ => obtain ⟨t, rfl⟩ := r; rfl
  | str _ => obtain ⟨t, rfl⟩ := r; rfl
  | byt _ => obtain ⟨t, rfl⟩ := r; rfl
  | flt _ => obtain ⟨t, rfl⟩ := r; rfl
  | ref _ => cases r; rfl
  | ty _ => cases r; rfl
theorem pc_isN {j pos'} (ha : PE X a ta) : PC X .Is a (.Constant .none j pos') (tIsN ta) := by
  intro pins s σ H Q I h
  refine thn (ha pins s σ H _ I h) fun v s1 ⟨x, H1, I1, r1, q1⟩ => ?_
  exact Constant_none (is_none_gen ⟨.bl _, H1, I1, by rw [r1.none_iff]; rfl, q1⟩)
def tB (t : TE) : TT := fun σ H Q => t σ H fun x H1 => ∃ c, x = .bl c ∧ Q c H1
theorem pt_cmp {op : CmpOp} {t : TE} (h : PC X op a b t) (h1 : behindInMarks op b = false := by first | exact nobehind _ (by decide) (by decide) | rfl) : PT X (.Compare a [op] [b] pos) (tB t) := by
  intro pins s σ H Q I hw
  refine wpAny_isTrue_Compare1 (thn (h pins s σ H _ I hw) fun v s1 h1 => thn h1 fun u s2 h2 => thn h2 fun c s3 ⟨x, H1, I1, r1, q1⟩ => ?_) h1
  obtain ⟨d, rfl, q⟩ := q1
  cases r1
  exact wpAny_truthy_bool ⟨H1, I1, q⟩
theorem pt_val {e : Expr} {t : TE} (h : PE X e t) (he : ∀ whole, isTrue e X.env whole = (do let v ← whole; standAt e.pos; holding [v] (truthy v)) := by intro _; rfl) : PT X e (tB t) := by
  intro pins s σ H Q I hw
  refine isTrue_plain (thn (h pins s σ H _ I hw) fun v s1 ⟨x, H1, I1, r1, q1⟩ => ?_) (he _)
  obtain ⟨d, rfl, q⟩ := q1
  cases r1
  exact wpAny_truthy_bool ⟨H1, I1, q⟩

variable {tA tB' : TT} {rest : List Expr}
def tAnd (t u : TT) : TT := fun σ H Q => t σ H fun c H1 => if c = true then u σ H1 Q else Q false H1
def tOr (t u : TT) : TT := fun σ H Q => t σ H fun c H1 => if c = true then Q true H1 else u σ H1 Q
def tNot (t : TT) : TT := fun σ H Q => t σ H fun c H1 => Q (!c) H1
theorem pw_and1 (ha : PT X a tA) : PW X (.BoolOp .And [a] pos) tA := by
  intro wh pins s σ H Q I h
  refine isTrue_and (thn (ha pins s σ H Q I h) fun c s1 e => ?_)
  cases c with
  | true => exact isTrue_and_nil e
  | false => exact e
theorem pw_or1 (ha : PT X a tA) : PW X (.BoolOp .Or [a] pos) tA := by
  intro wh pins s σ H Q I h
  refine isTrue_or (thn (ha pins s σ H Q I h) fun c s1 e => ?_)
  cases c with
  | false => exact isTrue_or_nil e
  | true => exact e
theorem pw_and (ha : PT X a tA) (hb : PW X (.BoolOp .And (b :: rest) pos) tB') : PW X (.BoolOp .And (a :: b :: rest) pos) (tAnd tA tB') := by
  intro wh pins s σ H Q I h
  refine isTrue_and (thn (ha pins s σ H _ I h) fun c s1 ⟨H1, I1, q1⟩ => ?_)
  cases c with
  | true => exact hb wh pins s1 σ H1 Q I1 q1
  | false => exact ⟨H1, I1, q1⟩
theorem pw_or (ha : PT X a tA) (hb : PW X (.BoolOp .Or (b :: rest) pos) tB') : PW X (.BoolOp .Or (a :: b :: rest) pos) (tOr tA tB') := by
  intro wh pins s σ H Q I h
  refine isTrue_or (thn (ha pins s σ H _ I h) fun c s1 ⟨H1, I1, q1⟩ => ?_)
  cases c with
  | true => exact ⟨H1, I1, q1⟩
  | false => exact hb wh pins s1 σ H1 Q I1 q1
theorem pt_not (ha : PT X a tA) : PT X (.UnaryOp .Not a pos) (tNot tA) := by
  intro pins s σ H Q I h
  exact isTrue_not (ha pins s σ H (fun c H1 => Q (!c) H1) I h)
def tAndV (ta tb : TE) : TE := fun σ H Q => ta σ H fun x H1 => ∃ c, x = .bl c ∧ if c = true then tb σ H1 Q else Q (.bl false) H1
def tOrV (ta tb : TE) : TE := fun σ H Q => ta σ H fun x H1 => ∃ c, x = .bl c ∧ if c = true then Q (.bl true) H1 else tb σ H1 Q
def tNotV (ta : TE) : TE := fun σ H Q => ta σ H fun x H1 => ∃ c, x = .bl c ∧ Q (.bl (!c)) H1
theorem pe_one {op} {t : TE} (h : PE X a t) : PE X (.BoolOp op [a] pos) t := fun pins s σ H Q I hw => BoolOp_one (h pins s σ H Q I hw)
theorem pe_and (ha : PE X a ta) (hb : PE X (.BoolOp .And (b :: rest) pos) tb) : PE X (.BoolOp .And (a :: b :: rest) pos) (tAndV ta tb) := by
  intro pins s σ H Q I h
  refine BoolOp_and (thn (ha pins s σ H _ I h) fun v s1 ⟨x, H1, I1, r1, q1⟩ => ?_)
  obtain ⟨c, rfl, q1⟩ := q1
  cases r1
  refine wpAny_truthy_bool ?_
  cases c with
  | true => exact hb pins s1 σ H1 Q I1 q1
  | false => exact ⟨.bl false, H1, I1, rfl, q1⟩
def tIf (t : TT) (ta tb : TE) : TE := fun σ H Q => t σ H fun c H1 => if c = true then ta σ H1 Q else tb σ H1 Q
theorem pe_ifExp {c : Expr} (hc : PT X c tA) (ha : PE X a ta) (hb : PE X b tb) : PE X (.IfExp c a b pos) (tIf tA ta tb) := by
  intro pins s σ H Q I h
  refine wpAny_IfExp (thn (hc pins s σ H _ I h) fun d s1 ⟨H1, I1, q1⟩ => ?_)
  cases d with
  | true => exact ha pins s1 σ H1 Q I1 q1
  | false => exact hb pins s1 σ H1 Q I1 q1
end
end L2

namespace L2
open PySem PySem.Spec PyProof.Rows

def SqL (K : PySem.W.Frag) (H : Hp) (a : Addr) (xs : List V) : Prop :=
  Rd H a (.lst xs) ∨
    ∃ (o : Obj) (its : Array Value) (n : Nat), K.lookup a = some o ∧ o.cls = .type "list" ∧ o.dict = none ∧ o.data = .seq its n ∧ its.size ≤ sizeLine ∧ Vals xs its.toList
def SqT (K : PySem.W.Frag) (H : Hp) (a : Addr) (xs : List V) : Prop :=
  Rd H a (.tup xs) ∨
    ∃ (o : Obj) (its : Array Value) (n : Nat), K.lookup a = some o ∧ o.cls = .type "tuple" ∧ o.data = .seq its n ∧ its.size ≤ sizeLine ∧ Vals xs its.toList
def absV : Value → Option V
  | .none => some .non
  | .bool b => some (.bl b)
  | .int i _ => some (.int i)
  | .str x _ => some (.str x)
  | .bytes b _ => some (.byt b)
  | .float b _ => some (.flt b)
  | .ref a => some (.ref a)
  | .type n => some (.ty n)
  | _ => none
theorem RelV.abs {x : V} {u : Value} (r : RelV x u) : absV u = some x := by
  cases x with
  | non => cases r; rfl
  | bl _ => cases r; rfl
  | int _ => obtain ⟨t, rfl⟩ := r; rfl
  | str _ => obtain ⟨t, rfl⟩ := r; rfl
  | byt _ => obtain ⟨t, rfl⟩ := r; rfl
  | flt _ => obtain ⟨t, rfl⟩ := r; rfl
  | ref _ => cases r; rfl
  | ty _ => cases r; rfl
theorem RelV.inj {x y : V} {u : Value} (r : RelV x u) (q : RelV y u) : x = y := Option.some.inj (r.abs.symm.trans q.abs)
theorem Vals.inj : ∀ {xs ys : List V} {us : List Value}, Vals xs us → Vals ys us → xs = ys
  | _, _, _, .nil, .nil => rfl
  | _, _, _, .cons r t, .cons r' t' => by rw [r.inj r', Vals.inj t t']
section
variable {X : Cx} {pins : List (Addr × Obj)} {σ : St} {H : Hp} {s : Shared} {a : Addr} {xs ys : List V}
theorem SqL.of {K : PySem.W.Frag} (h : H a = some (.lst xs)) : SqL K H a xs := .inl (.inl h)
theorem SqT.of {K : PySem.W.Frag} (h : H a = some (.tup xs)) : SqT K H a xs := .inl (.inl h)
theorem Inv.list (I : Inv X pins σ H s) (h : SqL X.K H a xs) : ∃ its : List Value, Vals xs its ∧ PlainL s.heap a its.toArray ∧ xs.length ≤ sizeLine := by
  rcases h with h | ⟨o, its, n, hk, hc, hd, hs, hz, r⟩
  · obtain ⟨z, its, n, r, e⟩ := h.ok I.hok
    exact ⟨its, r, ⟨_, n, e, rfl, rfl, rfl⟩, z⟩
  · refine ⟨its.toList, r, ⟨o, n, I.kIn a o hk, hc, hd, by simpa using hs⟩, ?_⟩
    have e := r.length
    simp only [Array.length_toList] at e
    omega
theorem Inv.tuple (I : Inv X pins σ H s) (h : SqT X.K H a xs) : ∃ its : List Value, Vals xs its ∧ IsTup s.heap a its.toArray ∧ xs.length ≤ sizeLine := by
  rcases h with h | ⟨o, its, n, hk, hc, hs, hz, r⟩
  · obtain ⟨z, its, r, p⟩ := h.ok I.hok
    exact ⟨its, r, p, z⟩
  · refine ⟨its.toList, r, ⟨o, I.kIn a o hk, hc, n, by simpa using hs⟩, ?_⟩
    have e := r.length
    simp only [Array.length_toList] at e
    omega
theorem Inv.list_inj (I : Inv X pins σ H s) (h : SqL X.K H a xs) (h' : SqL X.K H a ys) : xs = ys := by
  obtain ⟨its, r, ⟨o, n, e, _, _, d⟩, _⟩ := I.list h
  obtain ⟨its', r', ⟨o', n', e', _, _, d'⟩, _⟩ := I.list h'
  rw [e] at e'; cases e'
  rw [d] at d'
  injection d' with d1 _
  have : its = its' := by simpa using congrArg Array.toList d1
  subst this
  exact r.inj r'
end

abbrev Cx.wish (X : Cx) (E : Value → Shared → Prop) : Cx := { X with xe := E }
abbrev Cx.nox (X : Cx) : Cx := X.wish fun _ _ => False
theorem Cx.Ok.wish {X : Cx} (ok : X.Ok) (E : Value → Shared → Prop) : (X.wish E).Ok :=
  ⟨ok.mod, ok.kind, ok.glob, ok.blt, ok.above, ok.inj, ok.has, ok.cab, ok.hd, ok.frames, ok.stk, ok.exf, ok.bs, ok.bsz, ok.noex, ok.exfs, ok.funs, ok.frf⟩
theorem Cx.Ok.unwish {X : Cx} {E : Value → Shared → Prop} (ok : (X.wish E).Ok) : X.Ok :=
  ⟨ok.mod, ok.kind, ok.glob, ok.blt, ok.above, ok.inj, ok.has, ok.cab, ok.hd, ok.frames, ok.stk, ok.exf, ok.bs, ok.bsz, ok.noex, ok.exfs, ok.funs, ok.frf⟩
section
variable {X : Cx} {pins : List (Addr × Obj)} {σ : St} {H : Hp} {s : Shared} {E : Value → Shared → Prop}
theorem Inv.wish (I : Inv X pins σ H s) (E : Value → Shared → Prop) : Inv (X.wish E) pins σ H s := ⟨I.ok.wish E, I.os, I.bare, I.base, I.loc, I.cell, I.free, I.freeC, I.pin, I.hok, I.len⟩
theorem Inv.unwish (I : Inv (X.wish E) pins σ H s) : Inv X pins σ H s := ⟨I.ok.unwish, I.os, I.bare, I.base, I.loc, I.cell, I.free, I.freeC, I.pin, I.hok, I.len⟩
theorem SP.unwish {D : Ends} {f : Flow} {s' : Shared} (h : SP (X.wish E) pins D f s') : SP X pins D f s' := by
  cases f with
  | next => obtain ⟨σ', H', I, q⟩ := h; exact ⟨σ', H', I.unwish, q⟩
  | brk => obtain ⟨σ', H', I, q⟩ := h; exact ⟨σ', H', I.unwish, q⟩
  | cont => obtain ⟨σ', H', I, q⟩ := h; exact ⟨σ', H', I.unwish, q⟩
  | ret u => obtain ⟨v, σ', H', I, r, q⟩ := h; exact ⟨v, σ', H', I.unwish, r, q⟩
theorem PE.nox {e : Expr} {t : TE} (h : PE X.nox e t) : PE X e t := fun pins s σ H Q I hw =>
  wpAny_mono (h pins s σ H Q (I.wish _) hw) (fun _ _ ⟨v, H', I', r, q⟩ => ⟨v, H', I'.unwish, r, q⟩) fun _ _ z => False.elim z
theorem PT.nox {e : Expr} {t : TT} (h : PT X.nox e t) : PT X e t := fun pins s σ H Q I hw =>
  wpAny_mono (h pins s σ H Q (I.wish _) hw) (fun _ _ ⟨H', I', q⟩ => ⟨H', I'.unwish, q⟩) fun _ _ z => False.elim z
theorem PSs.nox {st : List Stmt} {t : TS} (h : PSs X.nox st t) : PSs X st t := fun pins s σ H D I hw =>
  wpAny_mono (h pins s σ H D (I.wish _) hw) (fun _ _ q => q.unwish) fun _ _ z => False.elim z
end

section
variable {X : Cx} {st : Stmt} {rest : List Stmt} {t u : TS} {e : Expr} {te : TE} {pos : Pos}
def tNext : TS := fun D σ H => D.nx σ H
def tSeq (t u : TS) : TS := fun D σ H => t { D with nx := u D } σ H
theorem pss_nil : PSs X [] tNext := fun _ _ σ H _ I h => wpAny_execs_nil ⟨σ, H, I, h⟩
theorem pss_cons (h1 : PS X st t) (h2 : PSs X rest u) : PSs X (st :: rest) (tSeq t u) := by
  intro pins s σ H D I h
  refine wpAny_execs_cons (thn (h1 pins s σ H { D with nx := u D } I h) fun f s1 q => ?_)
  cases f with
  | next =>
    obtain ⟨σ', H', I', q⟩ := q
    exact h2 pins s1 σ' H' D I' q
  | ret v => exact q
  | brk => exact q
  | cont => exact q
def tBreak : TS := fun D σ H => D.bk σ H
def tCont : TS := fun D σ H => D.ct σ H
theorem Inv.quiet {pins : List (Addr × Obj)} {σ : St} {H : Hp} {s : Shared} (I : Inv X pins σ H s) : interactive X.env = false := by simp [interactive, I.ok.kind]
def tDrop (te : TE) : TS := fun D σ H => te σ H fun _ H1 => D.nx σ H1
theorem ps_expr (he : PE X e te) (hs : swapsWith e none pos.line X.env = pure false := by rfl) : PS X (.Expr e pos) (tDrop te) := by
  intro pins s σ H D I h
  exact wpAny_Expr_any (thn (he pins s σ H _ I h) fun v s1 ⟨x, H1, I1, r1, q1⟩ => ⟨σ, H1, I1, q1⟩) I.quiet hs
def tRet (te : TE) : TS := fun D σ H => te σ H D.rt
theorem ps_ret (he : PE X e te) : PS X (.Return (some e) pos) (tRet te) := by
  intro pins s σ H D I h
  exact wpAny_Return_some (thn (he pins s σ H _ I h) fun v s1 ⟨x, H1, I1, r1, q1⟩ => ⟨x, σ, H1, I1, r1, q1⟩)
def tRetN : TS := fun D _ H => D.rt .non H
def tIfS (c : TT) (t u : TS) : TS := fun D σ H => c σ H fun b H1 => if b = true then t D σ H1 else u D σ H1
theorem ps_if {c : Expr} {a b : List Stmt} {tc : TT} (hc : PT X c tc) (ha : PSs X a t) (hb : PSs X b u) : PS X (.If c a b pos) (tIfS tc t u) := by
  intro pins s σ H D I h
  refine wpAny_If (thn (hc pins s σ H _ I h) fun d s1 ⟨H1, I1, q1⟩ => ?_)
  cases d with
  | true => exact ha pins s1 σ H1 D I1 q1
  | false => exact hb pins s1 σ H1 D I1 q1
def tNever : TS := fun _ _ _ => False
theorem pss_never {sts : List Stmt} : PSs X sts tNever := fun _ _ _ _ _ _ h => h.elim
end

abbrev TG := V → St → Hp → (St → Hp → Prop) → Prop
abbrev TGs := List V → St → Hp → (St → Hp → Prop) → Prop
def PG (X : Cx) (target : Expr) (t : TG) : Prop :=
  ∀ (pins : List (Addr × Obj)) (s : Shared) (σ : St) (H : Hp) (v : V) (u : Value) (Q : St → Hp → Prop), Inv X pins σ H s → RelV v u → t v σ H Q →
    wpAny (model X.prog X.w) X.A (assign target X.env u) (fun _ s' => ∃ σ' H', Inv X pins σ' H' s' ∧ Q σ' H') X.xe s
def PGs (X : Cx) (ts : List Expr) (t : TGs) : Prop :=
  ∀ (pins : List (Addr × Obj)) (s : Shared) (σ : St) (H : Hp) (vs : List V) (us : List Value) (Q : St → Hp → Prop), Inv X pins σ H s → Vals vs us → t vs σ H Q →
    wpAny (model X.prog X.w) X.A (assignInOrder ((assignEach ts X.env).map (·.2)) us) (fun _ s' => ∃ σ' H', Inv X pins σ' H' s' ∧ Q σ' H') X.xe s
abbrev TSet := V → V → V → Hp → (Hp → Prop) → Prop
def PSet (X : Cx) (t : TSet) : Prop :=
  ∀ (pins : List (Addr × Obj)) (s : Shared) (σ : St) (H : Hp) (o i v : V) (ov iv u : Value) (Q : Hp → Prop), Inv X pins σ H s → RelV o ov → RelV i iv → RelV v u → t o i v H Q →
    wpAny (model X.prog X.w) X.A (setItem ov iv u) (fun _ s' => ∃ H', Inv X pins σ H' s' ∧ Q H') X.xe s
abbrev TIp := V → V → Hp → VK → Prop
def PIp (X : Cx) (op : Operator) (t : TIp) : Prop :=
  ∀ (pins : List (Addr × Obj)) (s : Shared) (σ : St) (H : Hp) (x y : V) (v u : Value) (Q : VK), Inv X pins σ H s → RelV x v → RelV y u → t x y H Q →
    wpAny (model X.prog X.w) X.A (inplaceOp op v u) (EP X pins σ Q) X.xe s
section
variable {X : Cx} {pos : Pos}
def gName (i : Nat) : TG := fun v σ H Q => Q (σ.set i (some v)) H
theorem pg_name {i : Nat} {x : Str} (hN : X.N.Nodup) (hi : X.N[i]? = some x) (hx : Loc X.env.scope x) (hf : X.fn x = true ∨ X.env.scope.names.lookup x = some .local := by first | exact .inl rfl | exact .inr rfl | assumption) : PG X (.Name x pos) (gName i) := by
  intro pins s σ H v u Q I r h
  exact wpAny_assign_Name (store_ok I hN hi hx r (fun s' I' => ⟨_, H, I', h⟩) hf)
def gNil : TGs := fun vs σ H Q => vs = [] ∧ Q σ H
def gCons (t : TG) (u : TGs) : TGs := fun vs σ H Q => ∃ v r, vs = v :: r ∧ t v σ H fun σ' H' => u r σ' H' Q
theorem pgs_nil : PGs X [] gNil := by
  intro pins s σ H vs us Q I r h
  obtain ⟨e, h⟩ := h
  subst e
  cases r
  exact assignInOrder_nil ⟨σ, H, I, h⟩
theorem pgs_cons {e : Expr} {es : List Expr} {t : TG} {u : TGs} (h1 : PG X e t) (h2 : PGs X es u)
    (hs : (assignEach (e :: es) X.env).map (·.2) = assign e X.env :: (assignEach es X.env).map (·.2) := by rfl) : PGs X (e :: es) (gCons t u) := by
  intro pins s σ H vs us Q I r h
  obtain ⟨v, vr, e1, h⟩ := h
  subst e1
  cases r with
  | cons r rr =>
    rw [hs]
    refine assignInOrder_cons (thn (h1 pins s σ H _ _ _ I r h) fun _ s1 ⟨σ1, H1, I1, q1⟩ => ?_)
    exact h2 pins s1 σ1 H1 _ _ Q I1 rr q1
def gTup (K : PySem.W.Frag) (n : Nat) (t : TGs) : TG := fun v σ H Q => ∃ a xs, v = .ref a ∧ SqT K H a xs ∧ xs.length = n ∧ t xs σ H Q
theorem pg_tup {es : List Expr} {k : Nat} {t : TGs} {n : Nat} (hc : X.calm = true) (h : PGs X es t)
    (hn : (assignEach es X.env).length = n := by rfl) (hst : (assignEach es X.env).findIdx? (·.1) = none := by rfl) : PG X (.Tuple es k pos) (gTup X.K n t) := by
  intro pins s σ H v u Q I r hw
  obtain ⟨a, xs, e1, hq, hl, hw⟩ := hw
  subst e1
  cases r
  obtain ⟨its, rv, ht, hz⟩ := I.tuple hq
  refine assign_Tuple_tuple (I.ok.hd hc) ht (by simp [hn, ← hl, rv.length]) hst fun h' hx => ?_
  have I1 : Inv X pins σ H { s with heap := h' } := I.kept (t' := s.toks) fun b o e => hx b o (Nat.ne_of_lt (Heap.lt_size e)) e
  exact h pins _ σ H xs _ Q I1 (by simpa using rv) hw
def gSub (to ti : TE) (t : TSet) : TG := fun v σ H Q => to σ H fun o H1 => ti σ H1 fun i H2 => t o i v H2 fun H3 => Q σ H3
theorem pg_sub {o i : Expr} {to ti : TE} {t : TSet} (ho : PE X o to) (hi : PE X i ti) (hs : PSet X t)
    (ha : ∀ v, assign (.Subscript o i pos) X.env v = (do
      let ov ← holding [v] (eval o X.env)
      let iv ← holding [v, ov] (eval i X.env)
      standAt pos
      holding [v, ov, iv] (setItem ov iv v)
      release [v, ov, iv] []) := by intro _; rfl) : PG X (.Subscript o i pos) (gSub to ti t) := by
  intro pins s σ H v u Q I r h
  rw [ha]
  refine wpAny_bind (wpAny_holding (thn (ho pins s σ H _ I h) fun ov s1 ⟨x, H1, I1, r1, q1⟩ => ?_))
  refine wpAny_bind (wpAny_holding (thn (hi pins s1 σ H1 _ I1 q1) fun iv s2 ⟨y, H2, I2, r2, q2⟩ => ?_))
  refine wpAny_bind (wpAny_standAt (wpAny_bind (wpAny_holding (thn (hs pins s2 σ H2 x y v ov iv u _ I2 r1 r2 r q2) fun _ s3 ⟨H3, I3, q3⟩ => ?_))))
  exact wpAny_release ⟨σ, H3, I3, q3⟩
def tAsg (te : TE) (g : TG) : TS := fun D σ H => te σ H fun x H1 => g x σ H1 D.nx
theorem ps_asg {tg e : Expr} {te : TE} {g : TG} (he : PE X e te) (hg : PG X tg g) (hs : swapsWithSole [tg] e pos.line X.env = pure false := by rfl) (hw : swappedStores [tg] e X.env = pure none := by rfl)
    (h1 : (assignEach [tg] X.env).map (·.2) = [assign tg X.env] := by rfl) : PS X (.Assign [tg] e pos) (tAsg te g) := by
  intro pins s σ H D I h
  refine wpAny_Assign_stores (thn (he pins s σ H _ I h) fun v s1 ⟨x, H1, I1, r1, q1⟩ => ?_) hs hw
  rw [h1]
  exact thn (hg pins s1 σ H1 x v _ I1 r1 q1) fun _ s2 q => q
theorem ps_set {i : Nat} {x : Str} {e : Expr} {te : TE} {pos' : Pos} (hN : X.N.Nodup) (hi : X.N[i]? = some x) (hx : Loc X.env.scope x) (he : PE X e te) (hs : swapsWith e (some (.Name x pos')) pos.line X.env = pure false := by rfl) (hf : X.fn x = true ∨ X.env.scope.names.lookup x = some .local := by first | exact .inl rfl | exact .inr rfl | assumption) :
    PS X (.Assign [.Name x pos'] e pos) (tAsg te (gName i)) := by
  intro pins s σ H D I h
  refine wpAny_Assign_Name (thn (he pins s σ H _ I h) fun v s1 ⟨y, H1, I1, r1, q1⟩ => ?_) hs
  exact store_ok I1 hN hi hx r1 (fun s2 I2 => ⟨_, H1, I2, q1⟩) hf
def tPar (i j : Nat) (ta : TA) : TS := fun D σ H => ta σ H fun vs H1 => ∃ v w, vs = [v, w] ∧ D.nx ((σ.set i (some v)).set j (some w)) H1
def tAug (i : Nat) (te : TE) (ti : TIp) : TS := fun D σ H => ∃ x, σ[i]? = some (some x) ∧ te σ H fun y H1 => ti x y H1 fun z H2 => D.nx (σ.set i (some z)) H2
def tAugS (to ti te : TE) (tget : V → V → Hp → VK → Prop) (tip : TIp) (tset : TSet) : TS := fun D σ H => to σ H fun o H1 => ti σ H1 fun i H2 => tget o i H2 fun x H3 => te σ H3 fun y H4 => tip x y H4 fun z H5 => tset o i z H5 fun H6 => D.nx σ H6
def PGet (X : Cx) (t : V → V → Hp → VK → Prop) : Prop :=
  ∀ (pins : List (Addr × Obj)) (s : Shared) (σ : St) (H : Hp) (o i : V) (ov iv : Value) (Q : VK), Inv X pins σ H s → RelV o ov → RelV i iv → t o i H Q →
    wpAny (model X.prog X.w) X.A (getItem ov iv) (EP X pins σ Q) X.xe s
def ipI (f : Int → Int → Int) : TIp := fun x y H Q => ∃ i j, x = .int i ∧ y = .int j ∧ Q (.int (f i j)) H
end

section
variable {X : Cx} {pos : Pos}
def tWhile (c : TT) (tb : TS) : TS := fun D σ H => ∃ W : Nat → St → Hp → Prop, (∃ m, W m σ H) ∧ ∀ m σ H, W m σ H →
  c σ H fun b H1 => if b = true then ∃ N : St → Hp → Prop, (∀ σ' H', N σ' H' → ∃ m', m' < m ∧ W m' σ' H') ∧ tb { D with nx := N, ct := N, bk := D.nx } σ H1 else D.nx σ H1
theorem ps_while {c : Expr} {body : List Stmt} {tc : TT} {tb : TS} (hp : PassesOwn (model X.prog X.w) X.A X.env X.xe) (hc : PT X c tc) (hb : PSs X body tb) : PS X (.While c body [] pos) (tWhile tc tb) := by
  intro pins s σ H D I h
  obtain ⟨W, ⟨m0, w0⟩, turn⟩ := h
  refine wpAny_While (codeAny_whileLoop (fun n s' => ∃ σ' H', Inv X pins σ' H' s' ∧ W n σ' H') ?_ m0 ⟨σ, H, I, w0⟩)
  rintro n s1 ⟨σ1, H1, I1, w1⟩
  refine wpAny_passesOwn hp (thn (hc pins s1 σ1 H1 _ I1 (turn n σ1 H1 w1)) fun b s2 ⟨H2, I2, q2⟩ => ?_)
  cases b with
  | true =>
    obtain ⟨N, hN, q2⟩ := q2
    rw [if_pos rfl]
    refine wpAny_passesOwn hp (thn (hb pins s2 σ1 H2 _ I2 q2) fun f s3 q3 => ?_)
    cases f with
    | next =>
      obtain ⟨σ3, H3, I3, n3⟩ := q3
      obtain ⟨m', hm, w3⟩ := hN σ3 H3 n3
      exact ⟨m', hm, σ3, H3, I3, w3⟩
    | cont =>
      obtain ⟨σ3, H3, I3, n3⟩ := q3
      obtain ⟨m', hm, w3⟩ := hN σ3 H3 n3
      exact ⟨m', hm, σ3, H3, I3, w3⟩
    | brk => exact q3
    | ret v => exact q3
  | false =>
    rw [if_neg Bool.false_ne_true]
    exact wpAny_execs_nil ⟨σ1, H2, I2, q2⟩
end

structure It where
  go : Nat → Hp → Prop
  yld : Nat → Hp → V → Hp → Prop
  stop : Nat → Hp → Prop
def FpOk (X : Cx) (pins : List (Addr × Obj)) (H : Hp) (b : Addr) : Prop :=
  H b = none ∧ b ≠ X.env.locals ∧ b ∉ X.fs ∧ (b ∈ X.ex ∨ X.s₀.heap.objs.size ≤ b) ∧ (∀ x c, X.env.cells.lookup x = some c → c ≠ b) ∧ ∀ p ∈ X.pn ++ pins, p.1 ≠ b
theorem Inv.fpOk {X : Cx} {pins : List (Addr × Obj)} {σ : St} {H H' : Hp} {s : Shared} {b : Addr} (I : Inv X pins σ H s) (hb : s.heap.objs.size ≤ b) (hn : H' b = none) : FpOk X pins H' b := by
  refine ⟨hn, Nat.ne_of_gt (Nat.lt_of_lt_of_le I.lt hb), I.nofs hb, .inr (Nat.le_trans I.sz hb), fun x c e z => ?_, fun p hp z => ?_⟩
  · obtain ⟨v, q⟩ := I.cell x c e
    exact absurd (Nat.lt_of_lt_of_le q.lt (by rw [z]; exact hb)) (Nat.lt_irrefl _)
  · exact absurd (Nat.lt_of_lt_of_le (Heap.lt_size (I.pin p hp).1) (by rw [z]; exact hb)) (Nat.lt_irrefl _)
structure Turn (P : Program) (w : World) (K : PySem.W.Frag) (tg : Expr) (J : It) (fp : List Addr) (it : Addr) (tn : Nat → Heap → Prop) : Prop where
  mem : it ∈ fp
  obj : ∀ i h, tn i h → ∀ b ∈ fp, ∃ o, h.get? b = some o ∧ ∀ v, o.data ≠ .cell v
  keep : ∀ i h h', tn i h → (∀ b ∈ fp, ∀ o, h.get? b = some o → h'.get? b = some o) → tn i h'
  item : ∀ (X : Cx), X.prog = P → X.w = w → X.K = K → X.calm = true → ∀ (i : Nat) (pins : List (Addr × Obj)) (s : Shared) (σ : St) (H : Hp) (E : Value → Shared → Prop), Inv X pins σ H s → (∀ b ∈ fp, FpOk X pins H b) → tn i s.heap → J.go i H →
    wpAny (model P w) X.A (pyNext (.ref it)) (fun r s1 => ∃ u, r = some u ∧
      wpAny (model P w) X.A (letOwnedTupleGo tg (.ref it) u) (fun _ s2 => ∃ x H', Inv X pins σ H' s2 ∧ RelV x u ∧ J.yld i H x H' ∧ tn (i + 1) s2.heap ∧ ∀ b ∈ fp, H' b = none) E s1) E s
  done : ∀ (X : Cx), X.prog = P → X.w = w → X.K = K → X.calm = true → ∀ (i : Nat) (pins : List (Addr × Obj)) (s : Shared) (σ : St) (H : Hp) (E : Value → Shared → Prop), Inv X pins σ H s → (∀ b ∈ fp, FpOk X pins H b) → tn i s.heap → J.stop i H →
    wpAny (model P w) X.A (pyNext (.ref it)) (fun r s1 => r = none ∧ Inv X pins σ H s1) E s
  self : ∀ (A : Around) (i : Nat) (s : Shared) (Q : Value → Shared → Prop) (E : Value → Shared → Prop), tn i s.heap → Q (.ref it) s → wpAny (model P w) A (pyIter (.ref it)) Q E s
abbrev TI := St → Hp → (It → Hp → Prop) → Prop
def PIE (X : Cx) (pins : List (Addr × Obj)) (σ : St) (tg : Expr) (R : It → Hp → Prop) (itv : Value) (s2 : Shared) : Prop :=
  ∃ (it : Addr) (fp : List Addr) (tn : Nat → Heap → Prop) (J : It) (H' : Hp), itv = .ref it ∧ Inv X pins σ H' s2 ∧ Turn X.prog X.w X.K tg J fp it tn ∧ tn 0 s2.heap ∧ (∀ b ∈ fp, FpOk X pins H' b) ∧ R J H'
def PI (X : Cx) (tg iter : Expr) (wi : TI) : Prop :=
  ∀ (pins : List (Addr × Obj)) (s : Shared) (σ : St) (H : Hp) (R : It → Hp → Prop), Inv X pins σ H s → wi σ H R →
    wpAny (model X.prog X.w) X.A (eval iter X.env) (fun v s1 => wpAny (model X.prog X.w) X.A (pyIter v) (PIE X pins σ tg R) X.xe s1) X.xe s

theorem go_of {M : Model} {A : Around} {E : Value → Shared → Prop} {s : Shared} {tg : Expr} {it : Addr} {u : Value} {o : Obj} {n : String} {vs : Array Value} {Q : Unit → Shared → Prop} (ho : s.heap.get? it = some o) (hc : o.cls = .type n) (hd : o.data = .fields vs)
    (hn : ["enumerate", "zip", "dict_itemiterator", "dict_reverseitemiterator", "odict_iterator", "itertools.zip_longest", "itertools.pairwise"].contains n = false) (hQ : Q () s) : wpAny M A (letOwnedTupleGo tg (.ref it) u) Q E s := by
  unfold letOwnedTupleGo
  cases tg <;> first
    | exact wpAny_pure hQ
    | (cases u <;> first
        | exact wpAny_pure hQ
        | (refine wpAny_bind (wpAny_load ho ?_)
           rw [hc, hd]
           show wpAny M A (if (["enumerate", "zip", "dict_itemiterator", "dict_reverseitemiterator", "odict_iterator", "itertools.zip_longest", "itertools.pairwise"].contains n && vs[0]? == some (rawInt _)) = true then _ else _) Q E s
           rw [if_neg (by intro h; rw [hn, Bool.false_and] at h; cases h)]
           exact wpAny_pure hQ))

def Itl (K : PySem.W.Frag) (a : Addr) : It :=
  ⟨fun i H => ∃ xs x, SqL K H a xs ∧ xs[i]? = some x, fun i H x H' => H' = H ∧ ∀ xs, SqL K H a xs → xs[i]? = some x, fun i H => ∃ xs, SqL K H a xs ∧ xs.length ≤ i⟩
def Itt (K : PySem.W.Frag) (a : Addr) : It :=
  ⟨fun i H => ∃ xs x, SqT K H a xs ∧ xs[i]? = some x, fun i H x H' => H' = H ∧ ∀ xs, SqT K H a xs → xs[i]? = some x, fun i H => ∃ xs, SqT K H a xs ∧ xs.length ≤ i⟩
def Itr (lo : Int) (n : Nat) : It := ⟨fun i _ => i < n, fun i H x H' => H' = H ∧ x = .int (lo + i), fun i _ => n ≤ i⟩
theorem turn_list {P : Program} {w : World} {K : PySem.W.Frag} {tg : Expr} (a it : Addr) : Turn P w K tg (Itl K a) [it] it (fun i h => h.IsListIter it a i) where
  mem := by simp
  obj := fun i h st b hb => by
    have e : b = it := by simpa using hb
    subst e
    obtain ⟨o, e, c, d⟩ := st
    exact ⟨o, e, fun v z => by rw [d] at z; cases z⟩
  keep := fun i h h' st k => st.at fun o e => k it (by simp) o e
  item := by
    intro X hP hw hK hc i pins s σ H E I hf st hg
    subst hP hw hK
    obtain ⟨xs, x, hq, hx⟩ := hg
    obtain ⟨its, rv, p, hz⟩ := I.list hq
    obtain ⟨u, hu, ru⟩ := rv.get hx
    obtain ⟨f0, f1, f2, f3, f4, f5⟩ := hf it (by simp)
    refine wpAny_pyNext_list_item st p.isList (x := u) (by simpa using hu) fun h' st' sb => ?_
    have I1 : Inv X pins σ H { s with heap := h' } := I.turned (t' := s.toks) (fun b o hb e => (sb.2 b hb).trans e) f0 f1 f3 f4 f5
    obtain ⟨o, e, c, d⟩ := id st'
    exact ⟨u, rfl, go_of (s := { s with heap := h' }) e c d (by decide) ⟨x, H, I1, ru, ⟨rfl, fun ys hy => by rw [I.list_inj hy hq]; exact hx⟩, st', fun b hb => (hf b hb).1⟩⟩
  done := by
    intro X hP hw hK hc i pins s σ H E I hf st hg
    subst hP hw hK
    obtain ⟨xs, hq, hx⟩ := hg
    obtain ⟨its, rv, p, hz⟩ := I.list hq
    obtain ⟨f0, f1, f2, f3, f4, f5⟩ := hf it (by simp)
    have hl := rv.length
    exact wpAny_pyNext_list_end (I.ok.hd hc) st p.isList (by simp; omega) fun h' eb => ⟨rfl, I.turned (t' := s.toks) (fun b o hb e => eb b o hb e) f0 f1 f3 f4 f5⟩
  self := fun _ _ _ _ _ st h => wpAny_pyIter_listiter st h
theorem turn_range {P : Program} {w : World} {K : PySem.W.Frag} {tg : Expr} (it : Addr) (lo : Int) (n : Nat) : Turn P w K tg (Itr lo n) [it] it (fun i h => IsRangeIter h it (lo + (i : Nat) * 1) ((n : Int) - (i : Nat)) 1) where
  mem := by simp
  obj := fun i h st b hb => by
    have e : b = it := by simpa using hb
    subst e
    exact ⟨_, st, fun v z => by
      have z' : Data.fields _ = Data.cell v := z
      cases z'⟩
  keep := fun i h h' st k => k it (by simp) _ st
  item := by
    intro X hP hw hK hc i pins s σ H E I hf st hg
    subst hP hw hK
    obtain ⟨f0, f1, f2, f3, f4, f5⟩ := hf it (by simp)
    have W := Walks.range (prog := X.prog) (w := X.w) (I.ok.hd hc) it lo 1 n
    refine W.item i s _ _ hg st fun v h' tk hv st' kk => ?_
    obtain ⟨t, rfl⟩ := hv
    have I1 : Inv X pins σ H { s with heap := h', toks := tk } := I.turned (fun b o hb e => kk b o (by simpa using hb) e) f0 f1 f3 f4 f5
    refine ⟨_, rfl, go_of (s := { s with heap := h', toks := tk }) (n := "range_iterator") st' rfl rfl (by decide) ⟨.int (lo + i), H, I1, ⟨t, ?_⟩, ⟨rfl, rfl⟩, st', fun b hb => (hf b hb).1⟩⟩
    rw [Int.mul_one]
  done := by
    intro X hP hw hK hc i pins s σ H E I hf st hg
    subst hP hw hK
    obtain ⟨f0, f1, f2, f3, f4, f5⟩ := hf it (by simp)
    exact wpAny_pyNext_range_end (I.ok.hd hc) st (by have : n ≤ i := hg; omega) fun h' eb => ⟨rfl, I.turned (t' := s.toks) (fun b o hb e => eb b o hb e) f0 f1 f3 f4 f5⟩
  self := fun _ _ _ _ _ st h => wpAny_pyIter_rangeiter st h
end L2

namespace L2
open PySem PySem.Spec PyProof.Rows
section
variable {X : Cx} {tg : Expr}
def iList (K : PySem.W.Frag) (tl : TE) : TI := fun σ H R => tl σ H fun x H1 => ∃ a, x = .ref a ∧ (∃ xs, SqL K H1 a xs) ∧ R (Itl K a) H1
def iTup (K : PySem.W.Frag) (tl : TE) : TI := fun σ H R => tl σ H fun x H1 => ∃ a, x = .ref a ∧ (∃ xs, SqT K H1 a xs) ∧ R (Itt K a) H1
theorem pi_list {l : Expr} {tl : TE} (hl : PE X l tl) : PI X tg l (iList X.K tl) := by
  intro pins s σ H R I h
  refine thn (hl pins s σ H _ I h) fun v s1 ⟨x, H1, I1, r1, q1⟩ => ?_
  obtain ⟨a, e, ⟨xs, hq⟩, q⟩ := q1
  subst e
  cases r1
  obtain ⟨its, rv, p, hz⟩ := I1.list hq
  refine wpAny_pyIter_list p.isList ?_
  refine ⟨s1.heap.objs.size, [s1.heap.objs.size], _, _, H1, rfl, I1.kept (t' := s1.toks) fun b o e => Heap.get?_push_of_some _ e, turn_list a _, ⟨_, Heap.get?_push_size _ rfl, rfl, rfl⟩, fun b hb => ?_, q⟩
  have e : b = s1.heap.objs.size := by simpa using hb
  subst e
  exact I1.fpOk (Nat.le_refl _) (I1.hok.fresh (Nat.le_refl _))
theorem range_it {pins : List (Addr × Obj)} {σ : St} {H : Hp} {s : Shared} {R : It → Hp → Prop} {E : Value → Shared → Prop} {lo hi : Int} {t u v : Tok} {tk : Nat} (I : Inv X pins σ H s) (h1 : -(2 ^ 62) ≤ lo) (h2 : lo < 2 ^ 62) (h3 : -(2 ^ 62) ≤ hi) (h4 : hi < 2 ^ 62)
    (q : R (Itr lo (hi - lo).toNat) H) : wpAny (model X.prog X.w) X.A (pyIter (.ref s.heap.objs.size)) (PIE X pins σ tg R) E { s with heap := s.heap.push { cls := .type "range", data := .fields #[.int lo t, .int hi u, .int 1 v] }, toks := tk } := by
  refine wpAny_pyIter_range (IsRange.new ..) (small_one h1 h2 h3 h4) ?_
  have I1 : Inv X pins σ H { s with heap := s.heap.push { cls := .type "range", data := .fields #[.int lo t, .int hi u, .int 1 v] }, toks := tk } := I.kept fun b o e => Heap.get?_push_of_some _ e
  refine ⟨(s.heap.push { cls := .type "range", data := .fields #[.int lo t, .int hi u, .int 1 v] }).objs.size, [(s.heap.push { cls := .type "range", data := .fields #[.int lo t, .int hi u, .int 1 v] }).objs.size], _, _, H, rfl,
    I1.kept (t' := tk) fun b o e => Heap.get?_push_of_some _ e, turn_range _ lo (hi - lo).toNat, ?_, fun b hb => ?_, q⟩
  · have e1 : lo + ((0 : Nat) : Int) * 1 = lo := by simp
    have e2 : (((hi - lo).toNat : Nat) : Int) - ((0 : Nat) : Int) = Builtin.Range.rangeSize lo hi 1 := by rw [rangeSize_one]; split <;> omega
    show IsRangeIter _ _ (lo + ((0 : Nat) : Int) * 1) ((((hi - lo).toNat : Nat) : Int) - ((0 : Nat) : Int)) 1
    rw [e1, e2]
    exact Heap.get?_push_size _ rfl
  · have e : b = (s.heap.push { cls := .type "range", data := .fields #[.int lo t, .int hi u, .int 1 v] }).objs.size := by simpa using hb
    subst e
    exact I1.fpOk (Nat.le_refl _) (I1.hok.fresh (Nat.le_refl _))
def iRng1 (ta : TA) : TI := fun σ H R => ta σ H fun vs H1 => ∃ j : Int, vs = [.int j] ∧ -(2 ^ 62) ≤ j ∧ j < 2 ^ 62 ∧ R (Itr 0 j.toNat) H1
def iRng2 (ta : TA) : TI := fun σ H R => ta σ H fun vs H1 => ∃ i j : Int, vs = [.int i, .int j] ∧ (-(2 ^ 62) ≤ i ∧ i < 2 ^ 62 ∧ -(2 ^ 62) ≤ j ∧ j < 2 ^ 62) ∧ R (Itr i (j - i).toNat) H1
theorem pi_range1 {a : Expr} {ta : TA} {p pos : Pos} (hg : Gl X "range") (hm : X.mg "range" = none) (ha : PA X [a] ta) (hs : starEach [a] X.env = [(false, eval a X.env)] := by rfl) : PI X tg (.Call (.Name "range" p) [a] [] pos) (iRng1 ta) := by
  intro pins s σ H R I h
  refine Call_ (ld_blt I hg hm boot_range (PyProof.Rows.callWith_type1 (thn (ha pos pins s σ H _ I h) fun us s1 ⟨vs, H1, I1, r1, q1⟩ => ?_) hs rfl))
  obtain ⟨j, e, q1, q2, q⟩ := q1
  subst e
  cases r1 with
  | cons r rr =>
    cases rr
    obtain ⟨t, rfl⟩ := r
    exact call_range_1 (range_it I1 (by omega) (by omega) q1 q2 (by simpa using q))
theorem pi_range2 {a b : Expr} {ta : TA} {p pos : Pos} (hg : Gl X "range") (hm : X.mg "range" = none) (ha : PA X [a, b] ta) (hs : starEach [a, b] X.env = [(false, eval a X.env), (false, eval b X.env)] := by rfl) (hs2 : starEach [b] X.env = [(false, eval b X.env)] := by rfl) :
    PI X tg (.Call (.Name "range" p) [a, b] [] pos) (iRng2 ta) := by
  intro pins s σ H R I h
  refine Call_ (ld_blt I hg hm boot_range (PyProof.Rows.callWith_type1 (thn (ha pos pins s σ H _ I h) fun us s1 ⟨vs, H1, I1, r1, q1⟩ => ?_) (by rw [hs, hs2]) (by rw [hs2]; rfl)))
  obtain ⟨i, j, e, ⟨q1, q2, q3, q4⟩, q⟩ := q1
  subst e
  cases r1 with
  | cons r rr =>
    cases rr with
    | cons r' rr =>
      cases rr
      obtain ⟨t, rfl⟩ := r
      obtain ⟨t', rfl⟩ := r'
      exact call_range_2 (range_it I1 q1 q2 q3 q4 q)

def tFor (wi : TI) (g : TG) (tb : TS) : TS := fun D σ H => wi σ H fun J H1 => ∃ W : Nat → Nat → St → Hp → Prop, (∃ m, W 0 m σ H1) ∧ ∀ i m σ H, W i m σ H →
  (J.stop i H ∧ D.nx σ H) ∨ (J.go i H ∧ ∃ N : St → Hp → Prop, (∀ σ' H', N σ' H' → ∃ m', m' < m ∧ W (i + 1) m' σ' H') ∧ ∀ x H', J.yld i H x H' → g x σ H' fun σ2 H2 => tb { D with nx := N, ct := N, bk := D.nx } σ2 H2)
def pinsAt (fp : List Addr) (h : Heap) : List (Addr × Obj) := fp.filterMap fun b => (h.get? b).map fun o => (b, o)
theorem mem_pinsAt {fp : List Addr} {h : Heap} {b : Addr} {o : Obj} (hb : b ∈ fp) (e : h.get? b = some o) : (b, o) ∈ pinsAt fp h := List.mem_filterMap.mpr ⟨b, hb, by rw [e]; rfl⟩
theorem of_pinsAt {fp : List Addr} {h : Heap} {p : Addr × Obj} (hp : p ∈ pinsAt fp h) : p.1 ∈ fp ∧ h.get? p.1 = some p.2 := by
  obtain ⟨b, hb, e⟩ := List.mem_filterMap.mp hp
  cases q : h.get? b with
  | none => rw [q] at e; cases e
  | some o =>
    rw [q] at e
    have e' : (b, o) = p := Option.some.inj e
    subst e'
    exact ⟨hb, q⟩
theorem Inv.pinned {pins : List (Addr × Obj)} {σ : St} {H : Hp} {s : Shared} {fp : List Addr} (I : Inv X pins σ H s) (hf : ∀ b ∈ fp, FpOk X pins H b) (ho : ∀ b ∈ fp, ∃ o, s.heap.get? b = some o ∧ ∀ v, o.data ≠ .cell v) : Inv X (pins ++ pinsAt fp s.heap) σ H s :=
  I.pins_of fun p hp => (List.mem_append.mp hp).elim (fun z => I.pin p (List.mem_append_right _ z)) fun z => by
    obtain ⟨hb, e⟩ := of_pinsAt z
    obtain ⟨f0, f1, f2, _⟩ := hf p.1 hb
    obtain ⟨o, e', d⟩ := ho p.1 hb
    rw [e] at e'; cases e'
    exact ⟨e, f0, f1, f2, d⟩
theorem Inv.unpinned {pins pl : List (Addr × Obj)} {σ : St} {H : Hp} {s : Shared} (I : Inv X (pins ++ pl) σ H s) : Inv X pins σ H s := I.pins_of fun p hp => I.pin p (List.mem_append_right _ (List.mem_append_left _ hp))
theorem ps_for {iter : Expr} {body : List Stmt} {wi : TI} {g : TG} {tb : TS} {pos : Pos} (hp : PassesOwn (model X.prog X.w) X.A X.env X.xe) (hc : X.calm = true) (hi : PI X tg iter wi) (hg : PG X tg g) (hb : PSs X body tb)
    (hs : ∀ x, foldedSetIterable iter X.env x = pure x := by intro _; rfl) : PS X (.For tg iter body [] pos) (tFor wi g tb) := by
  intro pins s σ H D I h
  refine wpAny_For (thn (hi pins s σ H _ I h) fun v s1 h1 => thn h1 fun itv s2 h2 => ?_) hs
  obtain ⟨it, fp, tn, J, H2, e, I2, T, st2, f2, W, ⟨m0, w0⟩, turn⟩ := h2
  subst e
  -- what stays true of the iterator's objects through the loop
  have stat : ∀ {H' : Hp}, (∀ b ∈ fp, H' b = none) → ∀ b ∈ fp, FpOk X pins H' b := fun hn b hb => ⟨hn b hb, (f2 b hb).2⟩
  refine codeAny_forLoop_any (fun n s' => ∃ i σ' H', Inv X pins σ' H' s' ∧ tn i s'.heap ∧ (∀ b ∈ fp, H' b = none) ∧ W i n σ' H') ?_ m0 ⟨0, σ, H2, I2, st2, fun b hb => (f2 b hb).1, w0⟩
  rintro n s3 ⟨i, σ3, H3, I3, st3, fr3, w3⟩
  rcases turn i n σ3 H3 w3 with ⟨stop, qn⟩ | ⟨go, N, hN, step⟩
  · refine wpAny_passesOwn hp (thn (T.done X rfl rfl rfl hc i pins s3 σ3 H3 X.xe I3 (stat fr3) st3 stop) fun r s4 ⟨hr, I4⟩ => ?_)
    subst hr
    exact wpAny_execs_nil ⟨σ3, H3, I4, qn⟩
  · refine wpAny_passesOwn hp (thn (T.item X rfl rfl rfl hc i pins s3 σ3 H3 X.xe I3 (stat fr3) st3 go) fun r s4 ⟨u, hr, h4⟩ => ?_)
    subst hr
    refine wpAny_passesOwn hp (thn h4 fun _ s5 ⟨x, H5, I5, r5, y5, st5, fr5⟩ => ?_)
    have I5' := I5.pinned (stat fr5) (T.obj _ _ st5)
    refine wpAny_passesOwn hp (thn (hg _ s5 σ3 H5 x u _ I5' r5 (step x H5 y5)) fun _ s6 ⟨σ6, H6, I6, q6⟩ => ?_)
    refine wpAny_passesOwn hp (thn (hb _ s6 σ6 H6 _ I6 q6) fun f s7 q7 => ?_)
    have again : ∀ {σ7 : St} {H7 : Hp}, Inv X (pins ++ pinsAt fp s5.heap) σ7 H7 s7 → N σ7 H7 → ∃ m, m < n ∧ ∃ i σ' H', Inv X pins σ' H' s7 ∧ tn i s7.heap ∧ (∀ b ∈ fp, H' b = none) ∧ W i m σ' H' := fun {σ7 H7} I7 n7 => by
      obtain ⟨m', hm, w7⟩ := hN σ7 H7 n7
      refine ⟨m', hm, i + 1, σ7, H7, I7.unpinned, T.keep _ _ _ st5 fun b hb o e => (I7.pin (b, o) (List.mem_append_right _ (List.mem_append_right _ (mem_pinsAt hb e)))).1, fun b hb => ?_, w7⟩
      obtain ⟨o, e, d⟩ := T.obj _ _ st5 b hb
      exact (I7.pin (b, o) (List.mem_append_right _ (List.mem_append_right _ (mem_pinsAt hb e)))).2.1
    cases f with
    | next => obtain ⟨σ7, H7, I7, n7⟩ := q7; exact again I7 n7
    | cont => obtain ⟨σ7, H7, I7, n7⟩ := q7; exact again I7 n7
    | brk => obtain ⟨σ7, H7, I7, q7⟩ := q7; exact ⟨σ7, H7, I7.unpinned, q7⟩
    | ret v => obtain ⟨x7, σ7, H7, I7, r7, q7⟩ := q7; exact ⟨x7, σ7, H7, I7.unpinned, r7, q7⟩
end

theorem for_list {K : PySem.W.Frag} {a : Addr} {xs : List V} {g : TG} {tb : TS} {D : Ends} {σ : St} {H : Hp} (Pv : Nat → St → Hp → Prop) (h0 : Pv 0 σ H) (hl : ∀ i σ H, i ≤ xs.length → Pv i σ H → SqL K H a xs)
    (hs : ∀ i x σ H, xs[i]? = some x → Pv i σ H → g x σ H fun σ2 H2 => tb { D with nx := Pv (i + 1), ct := Pv (i + 1), bk := D.nx } σ2 H2) (hd : ∀ σ H, Pv xs.length σ H → D.nx σ H) :
    ∃ W : Nat → Nat → St → Hp → Prop, (∃ m, W 0 m σ H) ∧ ∀ i m σ H, W i m σ H →
      ((Itl K a).stop i H ∧ D.nx σ H) ∨ ((Itl K a).go i H ∧ ∃ N : St → Hp → Prop, (∀ σ' H', N σ' H' → ∃ m', m' < m ∧ W (i + 1) m' σ' H') ∧ ∀ x H', (Itl K a).yld i H x H' → g x σ H' fun σ2 H2 => tb { D with nx := N, ct := N, bk := D.nx } σ2 H2) := by
  refine ⟨fun i m σ H => m = xs.length - i ∧ i ≤ xs.length ∧ Pv i σ H, ⟨xs.length, by simp, Nat.zero_le _, h0⟩, ?_⟩
  rintro i m σ H ⟨rfl, hi, p⟩
  have q := hl i σ H hi p
  by_cases hlt : i < xs.length
  · refine .inr ⟨⟨xs, xs[i], q, by simp [hlt]⟩, Pv (i + 1), fun σ' H' p' => ⟨xs.length - (i + 1), by omega, rfl, hlt, p'⟩, fun x H' y => ?_⟩
    obtain ⟨e, y⟩ := y
    subst e
    exact hs i x σ _ (y xs q) p
  · have e : i = xs.length := by omega
    subst e
    exact .inl ⟨⟨xs, q, Nat.le_refl _⟩, hd σ H p⟩
theorem for_range {lo : Int} {n : Nat} {g : TG} {tb : TS} {D : Ends} {σ : St} {H : Hp} (Pv : Nat → St → Hp → Prop) (h0 : Pv 0 σ H)
    (hs : ∀ i σ H, i < n → Pv i σ H → g (.int (lo + i)) σ H fun σ2 H2 => tb { D with nx := Pv (i + 1), ct := Pv (i + 1), bk := D.nx } σ2 H2) (hd : ∀ σ H, Pv n σ H → D.nx σ H) :
    ∃ W : Nat → Nat → St → Hp → Prop, (∃ m, W 0 m σ H) ∧ ∀ i m σ H, W i m σ H →
      ((Itr lo n).stop i H ∧ D.nx σ H) ∨ ((Itr lo n).go i H ∧ ∃ N : St → Hp → Prop, (∀ σ' H', N σ' H' → ∃ m', m' < m ∧ W (i + 1) m' σ' H') ∧ ∀ x H', (Itr lo n).yld i H x H' → g x σ H' fun σ2 H2 => tb { D with nx := N, ct := N, bk := D.nx } σ2 H2) := by
  refine ⟨fun i m σ H => m = n - i ∧ i ≤ n ∧ Pv i σ H, ⟨n, by simp, Nat.zero_le _, h0⟩, ?_⟩
  rintro i m σ H ⟨rfl, hi, p⟩
  by_cases hlt : i < n
  · refine .inr ⟨hlt, Pv (i + 1), fun σ' H' p' => ⟨n - (i + 1), by omega, rfl, hlt, p'⟩, fun x H' y => ?_⟩
    obtain ⟨e, y⟩ := y
    subst e y
    exact hs i σ _ hlt p
  · have e : i = n := by omega
    subst e
    exact .inl ⟨Nat.le_refl _, hd σ H p⟩
end L2

namespace L2
open PySem PySem.Spec PyProof.Rows

abbrev R2 := V → V → Hp → VK → Prop
def OpR (X : Cx) (f : Value → Value → Sem Value) (r : R2) : Prop :=
  ∀ (pins : List (Addr × Obj)) (s : Shared) (σ : St) (H : Hp) (x y : V) (v u : Value) (Q : VK), Inv X pins σ H s → RelV x v → RelV y u → r x y H Q →
    wpAny (model X.prog X.w) X.A (f v u) (EP X pins σ Q) X.xe s
def UnR (X : Cx) (f : Value → Sem Value) (r : V → Hp → VK → Prop) : Prop :=
  ∀ (pins : List (Addr × Obj)) (s : Shared) (σ : St) (H : Hp) (x : V) (v : Value) (Q : VK), Inv X pins σ H s → RelV x v → r x H Q →
    wpAny (model X.prog X.w) X.A (f v) (EP X pins σ Q) X.xe s
def CallR (X : Cx) (f : Value) (r : List V → Hp → VK → Prop) : Prop :=
  ∀ (pins : List (Addr × Obj)) (s : Shared) (σ : St) (H : Hp) (xs : List V) (us : List Value) (Q : VK), Inv X pins σ H s → Vals xs us → r xs H Q →
    wpAny (model X.prog X.w) X.A (call f us) (EP X pins σ Q) X.xe s
def TruR (X : Cx) (r : V → Hp → (Bool → Hp → Prop) → Prop) : Prop :=
  ∀ (pins : List (Addr × Obj)) (s : Shared) (σ : St) (H : Hp) (x : V) (v : Value) (Q : Bool → Hp → Prop), Inv X pins σ H s → RelV x v → r x H Q →
    wpAny (model X.prog X.w) X.A (truthy v) (TP X pins σ Q) X.xe s

def tOp (r : R2) (ta tb : TE) : TE := fun σ H Q => ta σ H fun x H1 => tb σ H1 fun y H2 => r x y H2 Q
def tUn (r : V → Hp → VK → Prop) (ta : TE) : TE := fun σ H Q => ta σ H fun x H1 => r x H1 Q
def rI (C : Int → Int → Prop) (g : Int → Int → V) : R2 := fun x y H Q => ∃ i j, x = .int i ∧ y = .int j ∧ C i j ∧ Q (g i j) H
def rI0 (g : Int → Int → V) : R2 := fun x y H Q => ∃ i j, x = .int i ∧ y = .int j ∧ Q (g i j) H
def rU (g : Int → V) : V → Hp → VK → Prop := fun x H Q => ∃ i, x = .int i ∧ Q (g i) H

section
variable {X : Cx} {a b c : Expr} {ta tb tc : TE} {pos : Pos}

theorem binT (ha : PE X a ta) (hb : PE X b tb) {pins : List (Addr × Obj)} {s : Shared} {σ : St} {H : Hp} {R : V → V → Hp → Prop} (I : Inv X pins σ H s)
    (h : ta σ H fun x H1 => tb σ H1 fun y H2 => R x y H2) {Q : Value → Shared → Prop} {f : Value → Value → Sem Value}
    (hf : ∀ v u s2 x y H2, Inv X pins σ H2 s2 → RelV x v → RelV y u → R x y H2 → wpAny (model X.prog X.w) X.A (f v u) Q X.xe s2) :
    wpAny (model X.prog X.w) X.A (eval a X.env) (fun v s₁ => wpAny (model X.prog X.w) X.A (eval b X.env) (fun u s₂ => wpAny (model X.prog X.w) X.A (f v u) Q X.xe s₂) X.xe s₁) X.xe s := by
  refine thn (ha pins s σ H _ I h) fun v s1 ⟨x, H1, I1, r1, q1⟩ => ?_
  refine thn (hb pins s1 σ H1 _ I1 q1) fun u s2 ⟨y, H2, I2, r2, q2⟩ => ?_
  exact hf v u s2 x y H2 I2 r1 r2 q2

theorem pe_op {op : Operator} {r : R2} (ho : OpR X (binaryOp op) r) (ha : PE X a ta) (hb : PE X b tb) : PE X (.BinOp a op b pos) (tOp r ta tb) := by
  intro pins s σ H Q I h
  exact wpAny_BinOp (binT ha hb I h fun v u s2 x y H2 I2 rx ry q => ho pins s2 σ H2 x y v u Q I2 rx ry q)
theorem pe_un {op : UnaryOp} {r : V → Hp → VK → Prop} (ho : UnR X (unaryOp op) r) (ha : PE X a ta) : PE X (.UnaryOp op a pos) (tUn r ta) := by
  intro pins s σ H Q I h
  exact UnaryOp_ (thn (ha pins s σ H _ I h) fun v s1 ⟨x, H1, I1, r1, q1⟩ => ho pins s1 σ H1 x v Q I1 r1 q1)

theorem opI {f : Value → Value → Sem Value} {C : Int → Int → Prop} {g : Int → Int → Int}
    (rule : ∀ (i j : Int) (t u : Tok) (s : Shared) (Q : Value → Shared → Prop) (E : Value → Shared → Prop), C i j → Q (.int (g i j) s.toks) { s with toks := s.toks + 1 } → wpAny (model X.prog X.w) X.A (f (.int i t) (.int j u)) Q E s) :
    OpR X f (rI C fun i j => .int (g i j)) := by
  intro pins s σ H x y v u Q I rx ry h
  obtain ⟨i, j, rfl, rfl, hc, q⟩ := h
  obtain ⟨t, rfl⟩ := rx
  obtain ⟨t', rfl⟩ := ry
  exact rule i j t t' s _ _ hc ⟨.int (g i j), H, I.tok _, ⟨_, rfl⟩, q⟩
theorem opI0 {f : Value → Value → Sem Value} {g : Int → Int → Int}
    (rule : ∀ (i j : Int) (t u : Tok) (s : Shared) (Q : Value → Shared → Prop) (E : Value → Shared → Prop), Q (.int (g i j) s.toks) { s with toks := s.toks + 1 } → wpAny (model X.prog X.w) X.A (f (.int i t) (.int j u)) Q E s) :
    OpR X f (rI0 fun i j => .int (g i j)) := by
  intro pins s σ H x y v u Q I rx ry h
  obtain ⟨i, j, rfl, rfl, q⟩ := h
  obtain ⟨t, rfl⟩ := rx
  obtain ⟨t', rfl⟩ := ry
  exact rule i j t t' s _ _ ⟨.int (g i j), H, I.tok _, ⟨_, rfl⟩, q⟩
theorem opB0 {f : Value → Value → Sem Value} {g : Int → Int → Bool}
    (rule : ∀ (i j : Int) (t u : Tok) (s : Shared) (Q : Value → Shared → Prop) (E : Value → Shared → Prop), Q (.bool (g i j)) s → wpAny (model X.prog X.w) X.A (f (.int i t) (.int j u)) Q E s) :
    OpR X f (rI0 fun i j => .bl (g i j)) := by
  intro pins s σ H x y v u Q I rx ry h
  obtain ⟨i, j, rfl, rfl, q⟩ := h
  obtain ⟨t, rfl⟩ := rx
  obtain ⟨t', rfl⟩ := ry
  exact rule i j t t' s _ _ ⟨.bl (g i j), H, I, rfl, q⟩

def CDiv (i j : Int) : Prop := 0 < j ∧ j < 1073741824
def CDivN (i j : Int) : Prop := j ≠ 0 ∧ j.natAbs < 1073741824
def CPow (i j : Int) : Prop := 0 ≤ j ∧ j ≤ 1000000 ∧ i.natAbs < 2 ^ 64
def CMul (i j : Int) : Prop := (-(2 ^ 64) < i ∧ i < 2 ^ 64) ∨ (-(2 ^ 64) < j ∧ j < 2 ^ 64)
theorem CMul.ok {i j : Int} (h : CMul i j) : IntMulOk i j := by
  rcases h with ⟨h1, h2⟩ | ⟨h1, h2⟩
  · exact .of_left (intBits_le_64 h1 h2)
  · exact .of_right (intBits_le_64 h1 h2)

theorem op_add : OpR X (binaryOp .Add) (rI0 fun i j => .int (i + j)) := opI0 fun _ _ _ _ _ _ _ q => add_int q
theorem op_sub : OpR X (binaryOp .Sub) (rI0 fun i j => .int (i - j)) := opI0 fun _ _ _ _ _ _ _ q => sub_int q
theorem op_modN : OpR X (binaryOp .Mod) (rI (fun _ j => j ≠ 0) fun i j => .int (i.fmod j)) := opI fun _ _ _ _ _ _ _ hc q => mod_int' hc q
theorem op_pow : OpR X (binaryOp .Pow) (rI CPow fun i j => .int (i ^ j.toNat)) := opI fun _ _ _ _ _ _ _ hc q => pow_int_small hc.1 hc.2.1 hc.2.2 q
theorem op_shl : OpR X (binaryOp .LShift) (rI CPow fun i j => .int (i * 2 ^ j.toNat)) := opI fun _ _ _ _ _ _ _ hc q => lshift_int_small hc.1 hc.2.1 hc.2.2 q


theorem unI {f : Value → Sem Value} {g : Int → Int}
    (rule : ∀ (i : Int) (t : Tok) (s : Shared) (Q : Value → Shared → Prop) (E : Value → Shared → Prop), Q (.int (g i) s.toks) { s with toks := s.toks + 1 } → wpAny (model X.prog X.w) X.A (f (.int i t)) Q E s) :
    UnR X f (rU fun i => .int (g i)) := by
  intro pins s σ H x v Q I rx h
  obtain ⟨i, rfl, q⟩ := h
  obtain ⟨t, rfl⟩ := rx
  exact rule i t s _ _ ⟨.int (g i), H, I.tok _, ⟨_, rfl⟩, q⟩
theorem un_neg : UnR X (unaryOp .USub) (rU fun i => .int (-i)) := unI fun _ _ _ _ _ q => neg_int q

end

def scal : V → V → Bool
  | .non, .non => true | .non, .int _ => true | .int _, .non => true | .non, .bl _ => true | .bl _, .non => true | .non, .str _ => true | .str _, .non => true
  | .int _, .int _ => true | .bl _, .bl _ => true | .str _, .str _ => true | .byt _, .byt _ => true
  | .int _, .str _ => true | .str _, .int _ => true | .bl _, .str _ => true | .str _, .bl _ => true
  | _, _ => false
def rEq : R2 := fun x y H Q => scal x y = true ∧ Q (.bl (decide (x = y))) H
def rNe : R2 := fun x y H Q => scal x y = true ∧ Q (.bl (!decide (x = y))) H

theorem dec_int {i j : Int} : decide (V.int i = V.int j) = (i == j) := by
  rw [Bool.eq_iff_iff]
  simp
theorem dec_bl {i j : Bool} : decide (V.bl i = V.bl j) = (i == j) := by
  rw [Bool.eq_iff_iff]
  simp
theorem dec_str {i j : Str} : decide (V.str i = V.str j) = (i == j) := by
  rw [Bool.eq_iff_iff]
  simp
theorem dec_byt {i j : Array UInt8} : decide (V.byt i = V.byt j) = (i.toList == j.toList) := by
  rw [Bool.eq_iff_iff]
  cases i
  cases j
  simp

section
variable {X : Cx} {a b c : Expr} {ta tb tc : TE} {pos : Pos}
theorem fin_bl {pins : List (Addr × Obj)} {σ : St} {H : Hp} {s : Shared} {Q : VK} {k k' : Bool} (I : Inv X pins σ H s) (q : Q (.bl k) H) (e : k = k') : EP X pins σ Q (.bool k') s := by
  subst e
  exact ⟨.bl k, H, I, rfl, q⟩
theorem op_eq : OpR X (compareOp .Eq) rEq := by
  intro pins s σ H x y v u Q I rx ry h
  obtain ⟨hs, q⟩ := h
  cases x with
  | non =>
    cases rx
    cases y with
    | non => cases ry; exact PySem.EqNone.eq_none_none (fin_bl I q (by simp))
    | bl j => cases ry; exact PySem.EqNone.eq_none_bool (fin_bl I q (by simp))
    | int j => obtain ⟨t', rfl⟩ := ry; exact PySem.EqNone.eq_none_int (fin_bl I q (by simp))
    | str j => obtain ⟨t', rfl⟩ := ry; exact PySem.EqNone.eq_none_str (fin_bl I q (by simp))
    | _ => exact absurd (show false = true from hs) Bool.false_ne_true
  | bl i =>
    cases rx
    cases y with
    | non => cases ry; exact PySem.EqNone.eq_bool_none (fin_bl I q (by simp))
    | bl j => cases ry; exact eq_bool (fin_bl I q dec_bl)
    | str j => obtain ⟨t', rfl⟩ := ry; exact PySem.EqMixed.eq_bool_str (fin_bl I q (by simp))
    | _ => exact absurd (show false = true from hs) Bool.false_ne_true
  | int i =>
    obtain ⟨t, rfl⟩ := rx
    cases y with
    | non => cases ry; exact PySem.EqNone.eq_int_none (fin_bl I q (by simp))
    | int j => obtain ⟨t', rfl⟩ := ry; exact eq_int (fin_bl I q dec_int)
    | str j => obtain ⟨t', rfl⟩ := ry; exact PySem.EqMixed.eq_int_str (fin_bl I q (by simp))
    | _ => exact absurd (show false = true from hs) Bool.false_ne_true
  | str i =>
    obtain ⟨t, rfl⟩ := rx
    cases y with
    | non => cases ry; exact PySem.EqNone.eq_str_none (fin_bl I q (by simp))
    | bl j => cases ry; exact PySem.EqMixed.eq_str_bool (fin_bl I q (by simp))
    | int j => obtain ⟨t', rfl⟩ := ry; exact PySem.EqMixed.eq_str_int (fin_bl I q (by simp))
    | str j => obtain ⟨t', rfl⟩ := ry; exact eq_str (fin_bl I q dec_str)
    | _ => exact absurd (show false = true from hs) Bool.false_ne_true
  | byt i =>
    obtain ⟨t, rfl⟩ := rx
    cases y with
    | byt j => obtain ⟨t', rfl⟩ := ry; exact PySem.W.eq_bytes (fin_bl I q dec_byt)
    | _ => exact absurd (show false = true from hs) Bool.false_ne_true
  | _ => cases y <;> exact absurd (show false = true from hs) Bool.false_ne_true
theorem op_ne : OpR X (compareOp .NotEq) rNe := by
  intro pins s σ H x y v u Q I rx ry h
  obtain ⟨hs, q⟩ := h
  cases x with
  | non =>
    cases rx
    cases y with
    | non => cases ry; exact PySem.EqNone.ne_none_none (fin_bl I q (by simp))
    | bl j => cases ry; exact PySem.EqNone.ne_none_bool (fin_bl I q (by simp))
    | int j => obtain ⟨t', rfl⟩ := ry; exact PySem.EqNone.ne_none_int (fin_bl I q (by simp))
    | str j => obtain ⟨t', rfl⟩ := ry; exact PySem.EqNone.ne_none_str (fin_bl I q (by simp))
    | _ => exact absurd (show false = true from hs) Bool.false_ne_true
  | bl i =>
    cases rx
    cases y with
    | non => cases ry; exact PySem.EqNone.ne_bool_none (fin_bl I q (by simp))
    | bl j => cases ry; exact ne_bool (fin_bl I q (congrArg not dec_bl))
    | str j => obtain ⟨t', rfl⟩ := ry; exact PySem.EqMixed.ne_bool_str (fin_bl I q (by simp))
    | _ => exact absurd (show false = true from hs) Bool.false_ne_true
  | int i =>
    obtain ⟨t, rfl⟩ := rx
    cases y with
    | non => cases ry; exact PySem.EqNone.ne_int_none (fin_bl I q (by simp))
    | int j => obtain ⟨t', rfl⟩ := ry; exact ne_int (fin_bl I q (congrArg not dec_int))
    | str j => obtain ⟨t', rfl⟩ := ry; exact PySem.EqMixed.ne_int_str (fin_bl I q (by simp))
    | _ => exact absurd (show false = true from hs) Bool.false_ne_true
  | str i =>
    obtain ⟨t, rfl⟩ := rx
    cases y with
    | non => cases ry; exact PySem.EqNone.ne_str_none (fin_bl I q (by simp))
    | bl j => cases ry; exact PySem.EqMixed.ne_str_bool (fin_bl I q (by simp))
    | int j => obtain ⟨t', rfl⟩ := ry; exact PySem.EqMixed.ne_str_int (fin_bl I q (by simp))
    | str j => obtain ⟨t', rfl⟩ := ry; exact ne_str (fin_bl I q (congrArg not dec_str))
    | _ => exact absurd (show false = true from hs) Bool.false_ne_true
  | byt i =>
    obtain ⟨t, rfl⟩ := rx
    cases y with
    | byt j => obtain ⟨t', rfl⟩ := ry; exact PySem.W.ne_bytes (fin_bl I q (congrArg not dec_byt))
    | _ => exact absurd (show false = true from hs) Bool.false_ne_true
  | _ => cases y <;> exact absurd (show false = true from hs) Bool.false_ne_true

theorem op_lt : OpR X (compareOp .Lt) (rI0 fun i j => .bl (decide (i < j))) := opB0 fun _ _ _ _ _ _ _ q => lt_int q
theorem op_le : OpR X (compareOp .LtE) (rI0 fun i j => .bl (decide (i ≤ j))) := opB0 fun _ _ _ _ _ _ _ q => le_int q
theorem op_gt : OpR X (compareOp .Gt) (rI0 fun i j => .bl (decide (j < i))) := opB0 fun _ _ _ _ _ _ _ q => gt_int q
theorem op_ge : OpR X (compareOp .GtE) (rI0 fun i j => .bl (decide (j ≤ i))) := opB0 fun _ _ _ _ _ _ _ q => ge_int q


def isObj : HO → Bool
  | .lst _ => true
  | .ins _ _ _ => true
  | _ => false


theorem nomark (b : Expr) {op : CmpOp} (h : op ≠ .In := by decide) (h2 : op ≠ .NotIn := by decide) : behindInMarks op b = false := by
  have e1 : (op == CmpOp.In) = false := by cases op <;> first | rfl | exact absurd rfl h
  have e2 : (op == CmpOp.NotIn) = false := by cases op <;> first | rfl | exact absurd rfl h2
  cases b <;> simp [behindInMarks, e1, e2]
theorem pe_cmpR {op : CmpOp} {r : R2} (ho : OpR X (compareOp op) r) (ha : PE X a ta) (hb : PE X b tb) (hm : behindInMarks op b = false) : PE X (.Compare a [op] [b] pos) (tOp r ta tb) := by
  intro pins s σ H Q I h
  exact wpAny_Compare1 (binT ha hb I h fun v u s2 x y H2 I2 rx ry q => ho pins s2 σ H2 x y v u Q I2 rx ry q) hm
def tTest (t : TE) : TT := fun σ H Q => t σ H fun x H' => ∃ k, x = .bl k ∧ Q k H'
theorem pt_cmpR {op : CmpOp} {r : R2} (ho : OpR X (compareOp op) r) (ha : PE X a ta) (hb : PE X b tb) (hm : behindInMarks op b = false) : PT X (.Compare a [op] [b] pos) (tTest (tOp r ta tb)) := by
  intro pins s σ H Q I h
  refine wpAny_isTrue_Compare1 (thn (ha pins s σ H _ I h) fun v s1 ⟨x, H1, I1, r1, q1⟩ => thn (hb pins s1 σ H1 _ I1 q1) fun u s2 ⟨y, H2, I2, r2, q2⟩ =>
    thn (ho pins s2 σ H2 x y v u _ I2 r1 r2 q2) fun c s3 ⟨z, H3, I3, r3, k, e, q3⟩ => ?_) hm
  subst e
  cases r3
  exact wpAny_truthy_bool ⟨H3, I3, q3⟩
def tChain (r r' : R2) (ta tb tc : TE) : TE := fun σ H Q => ta σ H fun x H1 => tb σ H1 fun y H2 => r x y H2 fun z H3 => ∃ k, z = .bl k ∧
  (if k = true then tc σ H3 fun w' H4 => r' y w' H4 Q else Q (.bl false) H3)

def TruV (K : PySem.W.Frag) (x : V) (H : Hp) (k : Bool) : Prop :=
  match x with
  | .non => k = false
  | .bl b => k = b
  | .int i => k = (i != 0)
  | .str y => y.length ≤ sizeLine ∧ k = ((y.length : Int) != 0)
  | .byt y => y.size ≤ sizeLine ∧ k = ((y.size : Int) != 0)
  | .ref p => (∃ xs, SqL K H p xs ∧ k = !xs.isEmpty) ∨ (∃ xs, SqT K H p xs ∧ k = !xs.isEmpty) ∨ ∃ kvs, H p = some (.dK kvs) ∧ k = !kvs.isEmpty
  | _ => False
theorem line63 : (sizeLine : Nat) < 2 ^ 63 := by rw [sizeLine_eq]; decide


def PlainIxT (b : Expr) : Prop := ∀ o i, subscripted b false o i = operate [o, i] (getItem o i)

theorem vals1 {x : V} {us : List Value} (r : Vals [x] us) : ∃ u, us = [u] ∧ RelV x u := by
  cases r with
  | cons r1 r2 => cases r2; exact ⟨_, rfl, r1⟩
theorem vals2 {x y : V} {us : List Value} (r : Vals [x, y] us) : ∃ u w', us = [u, w'] ∧ RelV x u ∧ RelV y w' := by
  cases r with
  | cons r1 r2 =>
    cases r2 with
    | cons r3 r4 => cases r4; exact ⟨_, _, rfl, r1, r3⟩
theorem call_abs : CallR X (.builtin "abs") (fun xs H Q => ∃ i, xs = [.int i] ∧ Q (.int (if i < 0 then -i else i)) H) := by
  intro pins s σ H xs us Q I r h
  obtain ⟨i, rfl, q⟩ := h
  obtain ⟨u, rfl, t, rfl⟩ := vals1 r
  exact call_abs_int fun u tk => ⟨.int (if i < 0 then -i else i), H, I.tok _, ⟨_, rfl⟩, q⟩
theorem call_max2 (hc : X.calm = true) : CallR X (.builtin "max") (fun xs H Q => ∃ i j, xs = [.int i, .int j] ∧ Q (.int (if j > i then j else i)) H) := by
  intro pins s σ H xs us Q I r h
  obtain ⟨i, j, rfl, q⟩ := h
  obtain ⟨u, w', rfl, ⟨t, rfl⟩, ⟨t', rfl⟩⟩ := vals2 r
  refine max_two_ints (I.ok.hd hc) fun h' tk k => ⟨_, H, I.kept k, ?_, q⟩
  by_cases hj : j > i
  · rw [if_pos hj, if_pos hj]; exact ⟨_, rfl⟩
  · rw [if_neg hj, if_neg hj]; exact ⟨_, rfl⟩
theorem call_min2 (hc : X.calm = true) : CallR X (.builtin "min") (fun xs H Q => ∃ i j, xs = [.int i, .int j] ∧ Q (.int (if j < i then j else i)) H) := by
  intro pins s σ H xs us Q I r h
  obtain ⟨i, j, rfl, q⟩ := h
  obtain ⟨u, w', rfl, ⟨t, rfl⟩, ⟨t', rfl⟩⟩ := vals2 r
  refine min_two_ints (I.ok.hd hc) fun h' tk k => ⟨_, H, I.kept k, ?_, q⟩
  by_cases hj : j < i
  · rw [if_pos hj, if_pos hj]; exact ⟨_, rfl⟩
  · rw [if_neg hj, if_neg hj]; exact ⟨_, rfl⟩
theorem call_int1 : CallR X (.type "int") (fun xs H Q => (∃ i, xs = [.int i] ∧ Q (.int i) H) ∨ ∃ k, xs = [.bl k] ∧ Q (.int (if k then 1 else 0)) H) := by
  intro pins s σ H xs us Q I r h
  rcases h with ⟨i, rfl, q⟩ | ⟨k, rfl, q⟩
  · obtain ⟨u, rfl, t, rfl⟩ := vals1 r
    exact call_int_int ⟨.int i, H, I, ⟨_, rfl⟩, q⟩
  · obtain ⟨u, rfl, r1⟩ := vals1 r
    cases r1
    exact call_int_bool ⟨.int (if k then 1 else 0), H, I.tok _, ⟨_, rfl⟩, q⟩
def LenV (K : PySem.W.Frag) (x : V) (H : Hp) (n : Nat) : Prop :=
  match x with
  | .str y => y.length ≤ sizeLine ∧ n = y.length
  | .byt y => y.size ≤ sizeLine ∧ n = y.size
  | .ref p => (∃ xs, SqL K H p xs ∧ n = xs.length) ∨ ∃ xs, SqT K H p xs ∧ n = xs.length
  | _ => False
end
end L2

namespace L2
open PySem PySem.Spec PyProof.Rows

structure ObjM (h : Heap) (x dx C : Addr) (mA : Str → Option Value) : Prop where
  obj : h.get? x = some (PySem.W.instObj C dx)
  ns : h.Ns1 dx mA
  ne : dx ≠ x



section
variable {prog : Program} {w : World} {A : Around} {E : Value → Shared → Prop} {s : Shared} {K : PySem.W.Frag} {x dx C f : Addr} {mA : Str → Option Value} {name : Str} {v : Value}





end

def putF (f : Str) (v : V) : List (Str × V) → List (Str × V)
  | [] => [(f, v)]
  | (g, x) :: r => if g = f then (g, v) :: r else (g, x) :: putF f v r


section
variable {P : Program} {w : World} {H H' : Hp} {h h' : Heap} {a C dx : Addr} {fs fs' : List (Str × V)}
end

structure Cls (K : PySem.W.Frag) (C : Addr) : Prop where
  pg : PySem.W.plainGet K C Str.empty = true
  hd : PySem.W.hasDictIn K C = true
  po : PySem.W.plainOver K C = true
  sa : PySem.W.findIn K (.ref C) "__setattr__" = some (some (.builtin "object.__setattr__"))
theorem Cls.get {K : PySem.W.Frag} {C : Addr} (c : Cls K C) (f : Str) : PySem.W.plainGet K C f = true := c.pg
def NoAttr (K : PySem.W.Frag) (C : Addr) (f : Str) : Prop := PySem.W.findIn K (.ref C) f = some none
structure Con (K : PySem.W.Frag) (C : Addr) (f : Str) (v : V) (u : Value) : Prop where
  at_ : PySem.W.findIn K (.ref C) f = some (some u)
  rel : RelV v u
  get : PySem.W.specialIn K u "__get__" = some none
  cp : PySem.W.copiedNames.contains f = false
structure Meth (K : PySem.W.Frag) (C : Addr) (m : Str) (f : Addr) : Prop where
  at_ : PySem.W.findIn K (.ref C) m = some (some (.ref f))
  fn : PySem.W.isFn K (.ref f) = true
  kp : PySem.W.keepIn K (.ref f) = true

section
variable {X : Cx} {pins : List (Addr × Obj)} {σ : St} {H : Hp} {s : Shared} {a C dx : Addr} {fs : List (Str × V)} {f : Str} {v : V} {A : Around} {E : Value → Shared → Prop}






end

def tFld (K : PySem.W.Frag) (ta : TE) (f : Str) : TE := fun σ H Q => ta σ H fun x H1 => ∃ a C dx fs v, x = .ref a ∧ H1 a = some (.ins C dx fs) ∧ Cls K C ∧ NoAttr K C f ∧ fs.lookup f = some v ∧ Q v H1
def tCon (K : PySem.W.Frag) (ta : TE) (f : Str) : TE := fun σ H Q => ta σ H fun x H1 => ∃ a C dx fs v u, x = .ref a ∧ H1 a = some (.ins C dx fs) ∧ Cls K C ∧ Con K C f v u ∧ fs.lookup f = none ∧ Q v H1
def sFld (K : PySem.W.Frag) (ta tv : TE) (f : Str) : TS := fun D σ H => tv σ H fun y H1 => ta σ H1 fun x H2 => ∃ a C dx fs, x = .ref a ∧ H2 a = some (.ins C dx fs) ∧ Cls K C ∧ NoAttr K C f ∧ fs.length < 1000 ∧
  D.nx σ (upd H2 a (.ins C dx (putF f y fs)))
def InOp (X : Cx) (op : Operator) (rd : V → V → Hp → VK → Prop) : Prop :=
  ∀ (pins : List (Addr × Obj)) (s : Shared) (σ : St) (H : Hp) (x y : V) (u v : Value) (Q : VK), Inv X pins σ H s → RelV x u → RelV y v → rd x y H Q → wpAny (model X.prog X.w) X.A (inplaceOp op u v) (EP X pins σ Q) X.xe s
def sFldAug (K : PySem.W.Frag) (ta tv : TE) (rd : V → V → Hp → VK → Prop) (f : Str) : TS := fun D σ H => ta σ H fun x H1 => ∃ a C dx fs v, x = .ref a ∧ H1 a = some (.ins C dx fs) ∧ Cls K C ∧ NoAttr K C f ∧ fs.lookup f = some v ∧
  tv σ H1 fun y H2 => rd v y H2 fun z H3 => ∃ dx' fs', H3 a = some (.ins C dx' fs') ∧ fs'.length < 1000 ∧ D.nx σ (upd H3 a (.ins C dx' (putF f z fs')))

section
variable {X : Cx} {o e value : Expr} {f : Str} {pos pos' tpos : Pos} {ta tv : TE}
def rAdd : V → V → Hp → VK → Prop := fun x y H Q => ∃ i j, x = .int i ∧ y = .int j ∧ Q (.int (i + j)) H
def rSub : V → V → Hp → VK → Prop := fun x y H Q => ∃ i j, x = .int i ∧ y = .int j ∧ Q (.int (i - j)) H

end

section
variable {X : Cx} {pins : List (Addr × Obj)} {σ : St} {H : Hp} {s : Shared} {A : Around} {E : Value → Shared → Prop} {Q : Value → Shared → Prop} {c : Value} {b : Bool}
inductive TyOf (K : PySem.W.Frag) (H : Hp) : V → Value → Prop where
  | non : TyOf K H .non (.type "NoneType")
  | bl (x : Bool) : TyOf K H (.bl x) (.type "bool")
  | int (i : Int) : TyOf K H (.int i) (.type "int")
  | str (x : Str) : TyOf K H (.str x) (.type "str")
  | flt (x : UInt64) : TyOf K H (.flt x) (.type "float")
  | lst {a : Addr} {xs : List V} (e : H a = some (.lst xs)) : TyOf K H (.ref a) (.type "list")
  | frz {a : Addr} {o : Obj} {xs : List V} (e : H a = some (.frz o (.lst xs))) : TyOf K H (.ref a) (.type "list")
  | tup {a : Addr} {xs : List V} (e : H a = some (.tup xs)) : TyOf K H (.ref a) (.type "tuple")
  | dK {a : Addr} {kvs : List (Key × V)} (e : H a = some (.dK kvs)) : TyOf K H (.ref a) (.type "dict")
  | dT {a : Addr} {kvs : List (List Key × V)} (e : H a = some (.dT kvs)) : TyOf K H (.ref a) (.type "dict")
  | ins {a C dx : Addr} {fs : List (Str × V)} (e : H a = some (.ins C dx fs)) (cl : Cls K C) (ha : PySem.W.findIn K (.ref C) "__class__" = some (some (.builtin "object.__class__")))
      (hn : PySem.W.specialIn K (.builtin "object.__class__") "__get__" = some (some (.builtin "getset_descriptor.__get__"))) (htk : PySem.W.takesIn K (.builtin "object.__class__") = some true)
      (hm : PySem.W.mroIn K C (.type "object") = some true) : TyOf K H (.ref a) (.ref C)
end
end L2

namespace L2
open PySem PySem.Spec PyProof.Rows

structure Room (k : Nat) (A : Around) : Prop where
  hd : A.handled = none
  dp : A.depth + 3 * k + 5 < recursionLimit
  un : A.units + 16 * k + 200 < cLine
theorem Room.mono {j k : Nat} {A : Around} (r : Room k A) (h : j ≤ k) : Room j A := ⟨r.hd, by have := r.dp; omega, by have := r.un; omega⟩
theorem Room.deeper {k : Nat} {A : Around} (r : Room (k + 1) A) (env : Env) : Room k (A.deeper env) :=
  ⟨r.hd, by have := r.dp; show A.depth + 1 + 3 * k + 5 < _; omega, by have := r.un; show A.units + 3 + 16 * k + 200 < _; omega⟩
theorem Room.depth {k : Nat} {A : Around} (r : Room k A) : A.depth < recursionLimit := by have := r.dp; omega
theorem Room.units {k : Nat} {A : Around} (r : Room k A) : A.units + 64 < cLine := by have := r.un; omega

def tNil : TA := fun _ H Q => Q [] H
def tCons (ta : TE) (tr : TA) : TA := fun σ H Q => ta σ H fun x H1 => tr σ H1 fun xs H2 => Q (x :: xs) H2
section
variable {X : Cx} {e : Expr} {es : List Expr} {te : TE} {t : TA} {pos : Pos}
theorem pa_nil : PA X [] tNil := fun _ _ _ _ H Q I h => Calls.spliced_nil ⟨[], H, I, .nil, h⟩
theorem pa_cons (ha : PE X e te) (hr : PA X es t) (hs : starEach (e :: es) X.env = (false, eval e X.env) :: starEach es X.env := by rfl) : PA X (e :: es) (tCons te t) := by
  intro pos pins s σ H Q I h
  rw [hs]
  show wpAny _ _ (spliced ((false, eval e X.env) :: backTo pos (starEach es X.env))) _ _ s
  refine Calls.spliced_cons (thn (ha pins s σ H _ I h) fun u s1 ⟨x, H1, I1, r1, q1⟩ => ?_)
  exact thn (hr pos pins s1 σ H1 _ I1 q1) fun us s2 ⟨xs, H2, I2, r2, q2⟩ => ⟨x :: xs, H2, I2, .cons r1 r2, q2⟩

def tTup (t : TA) : TE := fun σ H Q => t σ H fun xs H1 => xs.length ≤ sizeLine ∧ ∀ p, H1 p = none → Q (.ref p) (upd H1 p (.tup xs))
def tLst (t : TA) : TE := fun σ H Q => t σ H fun xs H1 => xs.length ≤ sizeLine ∧ ∀ p, H1 p = none → Q (.ref p) (upd H1 p (.lst xs))
theorem pe_tup {x1} (h : PA X es t) : PE X (.Tuple es x1 pos) (tTup t) := by
  intro pins s σ H Q I hq
  refine wpAny_Tuple_spliced (thn (h pos pins s σ H _ I hq) fun us s1 ⟨xs, H1, I1, r, z, q⟩ => ⟨by rw [← r.length]; exact z, ?_⟩)
  have hf : H1 s1.heap.objs.size = none := I1.hok.fresh (Nat.le_refl _)
  refine ⟨.ref s1.heap.objs.size, upd H1 s1.heap.objs.size (.tup xs), I1.laid (t' := s1.toks) (fun b u e => Heap.get?_push_of_some _ e) (Nat.le_refl _) ?_, rfl, q _ hf⟩
  exact ⟨z, us, r, ⟨_, Heap.get?_push_size _ rfl, rfl, _, rfl⟩⟩
theorem pe_lst (h : PA X es t) : PE X (.List es pos) (tLst t) := by
  intro pins s σ H Q I hq
  refine wpAny_List_spliced (thn (h pos pins s σ H _ I hq) fun us s1 ⟨xs, H1, I1, r, z, q⟩ => ⟨by rw [← r.length]; exact z, ?_⟩)
  have hf : H1 s1.heap.objs.size = none := I1.hok.fresh (Nat.le_refl _)
  refine ⟨.ref s1.heap.objs.size, upd H1 s1.heap.objs.size (.lst xs), I1.laid (t' := s1.toks) (fun b u e => Heap.get?_push_of_some _ e) (Nat.le_refl _) ?_, rfl, q _ hf⟩
  exact ⟨z, us, 0, r, Heap.get?_push_size _ rfl⟩
end

abbrev Sp := List V → Hp → VK → XK → Prop
abbrev CXT := List Env → Hp → Shared → XK → Value → Shared → Prop

structure Env0 (P : Program) (w : World) (K : PySem.W.Frag) (mg : Str → Option Value) (base : Heap) (A : Around) (outer : List Env) (s : Shared) (H : Hp) : Prop where
  frames : A.frames = some outer
  mod : Mod K mg base
  bs : ∀ b o, base.get? b = some o → s.heap.get? b = some o ∧ H b = none
  bsz : base.objs.size ≤ s.heap.objs.size
  funs : s.heap.FunFrames base outer
  frf : ∀ b ∈ frs outer, H b = none
  hok : HOk P w H s.heap
  bare : AllBare s.gens
def CE (outer : List Env) (P : Program) (w : World) (H : Hp) (s : Shared) (Q : VK) (u : Value) (s' : Shared) : Prop :=
  ∃ v H', s'.os = s.os ∧ AllBare s'.gens ∧ Un (frs outer) [] H H' s.heap s'.heap ∧ HOk P w H' s'.heap ∧ RelV v u ∧ Q v H'
def CR (CX : CXT) (outer : List Env) (P : Program) (w : World) (H : Hp) (s : Shared) (Q : VK) (E : XK) (r : Result) (s' : Shared) : Prop :=
  match r with
  | .ok (.ret u) => CE outer P w H s Q u s'
  | .ok _ => False
  | .error e => CX outer H s E e s'
structure FnOk (P : Program) (w : World) (K : PySem.W.Frag) (mg : Str → Option Value) (base : Heap) (CX : CXT) (k : Nat) (f : Addr) (fd : FuncData) (ps : List Str) (sp : Sp) : Prop where
  len : ∀ vs H Q E, sp vs H Q E → vs.length = ps.length
  run : ∀ (A : Around) (outer : List Env) (s : Shared) (H : Hp) (args : Args) (us : List Value) (vs : List V) (Q : VK) (E : XK), Room k A → Env0 P w K mg base A outer s H → BindsTo s fd args (ps.zip us) → Vals vs us → sp vs H Q E →
    codeAny (model P w) A (.call (.ref f) args) (CR CX outer P w H s Q E) s
theorem FnOk.mono {P : Program} {w : World} {K : PySem.W.Frag} {mg : Str → Option Value} {base : Heap} {CX : CXT} {j k : Nat} {f : Addr} {fd : FuncData} {ps : List Str} {sp : Sp} (F : FnOk P w K mg base CX j f fd ps sp) (h : j ≤ k) :
    FnOk P w K mg base CX k f fd ps sp := ⟨F.len, fun A outer s H args us vs Q E hr => F.run A outer s H args us vs Q E (hr.mono h)⟩
theorem FnOk.imp {P : Program} {w : World} {K : PySem.W.Frag} {mg : Str → Option Value} {base : Heap} {CX : CXT} {k : Nat} {f : Addr} {fd : FuncData} {ps : List Str} {sp sp' : Sp} (F : FnOk P w K mg base CX k f fd ps sp)
    (h : ∀ vs H Q E, sp' vs H Q E → sp vs H Q E) : FnOk P w K mg base CX k f fd ps sp' :=
  ⟨fun vs H Q E q => F.len vs H Q E (h _ _ _ _ q), fun A outer s H args us vs Q E hr he hb hv hs => F.run A outer s H args us vs Q E hr he hb hv (h _ _ _ _ hs)⟩


section
variable {X : Cx} {pins : List (Addr × Obj)} {σ : St} {H : Hp} {s s' : Shared}
theorem Inv.env0 (I : Inv X pins σ H s) : Env0 X.prog X.w X.K X.mg X.base X.A X.stack s H :=
  ⟨I.ok.frames, I.ok.mod, I.bs, Nat.le_trans I.ok.bsz I.sz, I.stack, I.stkFree, I.hok, I.bare⟩
theorem Inv.after {Q : VK} {u : Value} (I : Inv X pins σ H s) (h : CE X.stack X.prog X.w H s Q u s') : EP X pins σ Q u s' := by
  obtain ⟨v, H', os, bare, un, hok, r, q⟩ := h
  obtain ⟨hh, g, d, t, os'⟩ := s'
  obtain rfl : os' = s.os := os
  exact ⟨v, H', I.call (h' := hh) (g' := g) (d' := d) (t' := t) (ch := []) un hok bare (fun b z => absurd z (by simp)), r, q⟩
end

def tCall (sp : Sp) (dvs : List V) (E : XK) (t : TA) : TE := fun σ H Q => t σ H fun vs H1 => sp (vs ++ dvs) H1 Q E
def tMeth (C : Addr) (m : Str) (sp : Sp) (dvs : List V) (E : XK) (ta : TE) (t : TA) : TE := fun σ H Q => ta σ H fun x H1 => ∃ a dx fs, x = .ref a ∧ H1 a = some (.ins C dx fs) ∧ fs.lookup m = none ∧
  t σ H1 fun vs H2 => sp (x :: (vs ++ dvs)) H2 Q E
def tMake (C : Addr) (sp : Sp) (dvs : List V) (E : XK) (t : TA) : TE := fun σ H Q => t σ H fun vs H1 => ∀ x dx, H1 x = none → H1 dx = none → dx ≠ x →
  sp (.ref x :: (vs ++ dvs)) (upd (upd H1 dx (.own x)) x (.ins C dx [])) (fun v H2 => v = .non ∧ Q (.ref x) H2) E

def Binds (K : PySem.W.Frag) (fd : FuncData) (ps : List Str) (ds : List Value) : Prop :=
  ∀ (s : Shared) (us : List Value), K.In s.heap → (us ++ ds).length = ps.length → BindsTo s fd ⟨us, []⟩ (ps.zip (us ++ ds))
theorem Binds.all {K : PySem.W.Frag} {fd : FuncData} {ps : List Str} (h : ∀ us : List Value, us.length = ps.length → bindArgs fd ⟨us, []⟩ = pure (ps.zip us)) : Binds K fd ps [] := fun s us _ hl => by
  rw [List.append_nil] at hl ⊢
  exact .of_eq (h us hl)

def Passes (CX : CXT) (X : Cx) (E : XK) : Prop := ∀ (pins : List (Addr × Obj)) (σ : St) (H : Hp) (s : Shared) (e : Value) (s' : Shared), Inv X pins σ H s → CX X.stack H s E e s' → X.xe e s'

section
variable {X : Cx} {CX : CXT} {k : Nat} {f C : Addr} {fd : FuncData} {ps : List Str} {sp : Sp} {dvs : List V} {ds : List Value} {E : XK} {x m : Str} {p pos apos : Pos} {e o : Expr} {es : List Expr} {ta : TE} {t : TA}

theorem run_fn {pins : List (Addr × Obj)} {σ : St} {H : Hp} {s : Shared} {Q : VK} {us : List Value} {vs : List V} (F : FnOk X.prog X.w X.K X.mg X.base CX k f fd ps sp) (hr : Room k X.A) (hb : Binds X.K fd ps ds) (hd : Vals dvs ds) (hx : Passes CX X E)
    (I : Inv X pins σ H s) (r : Vals vs us) (h : sp (vs ++ dvs) H Q E) : wpAny (model X.prog X.w) X.A (call (.ref f) us) (EP X pins σ Q) X.xe s := by
  have r2 : Vals (vs ++ dvs) (us ++ ds) := r.append hd
  have hl : (us ++ ds).length = ps.length := by rw [← r2.length]; exact F.len _ _ _ _ h
  refine wpAny_call (codeAny_mono (F.run X.A X.stack s H ⟨us, []⟩ (us ++ ds) (vs ++ dvs) Q E hr I.env0 (hb s us I.kIn hl) r2 h) fun r s' hq => ?_)
  cases r with
  | error e => exact hx pins σ H s e s' I hq
  | ok fl =>
    cases fl with
    | ret u => exact I.after hq
    | next => exact False.elim hq
    | brk => exact False.elim hq
    | cont => exact False.elim hq

theorem pe_call (F : FnOk X.prog X.w X.K X.mg X.base CX k f fd ps sp) (hr : Room k X.A) (hg : Gl X x) (hm : X.mg x = some (.ref f)) (hk : PySem.W.keepIn X.K (.ref f) = true) (hb : Binds X.K fd ps ds) (hd : Vals dvs ds) (hx : Passes CX X E)
    (ha : PA X (e :: es) t) (hdb : (x == ("__debug__" : Str)) = false := by decide) (he : starEach (e :: es) X.env = (false, eval e X.env) :: starEach es X.env := by rfl) (hpl : (backTo pos (starEach es X.env)).any (·.1) = false := by rfl) :
    PE X (.Call (.Name x p) (e :: es) [] pos) (tCall sp dvs E t) := by
  intro pins s σ H Q I h
  refine wpAny_Call_Name_kw (ld_glob I hg hm ?_ hdb)
  refine PySem.W.callWith_K (h₀ := X.base) I.ok.mod.kin hk (thn (ha pos pins s σ H _ I h) fun us s1 ⟨vs, H1, I1, r, q⟩ => ⟨I1.kIn, ?_⟩) he hpl
  exact run_fn F hr hb hd hx I1 r q


structure Mk (K : PySem.W.Frag) (C f : Addr) : Prop where
  makes : PySem.W.makesIn K C = true
  init : PySem.W.findIn K (.ref C) "__init__" = some (some (.ref f))
  fn : PySem.W.isFn K (.ref f) = true
  kp : PySem.W.keepIn K (.ref C) = true

end

def PK (X : Cx) (kws : List Keyword) (t : TA) : Prop :=
  ∀ (pos : Pos) (pins : List (Addr × Obj)) (s : Shared) (σ : St) (H : Hp) (Q : List V → Hp → Prop), Inv X pins σ H s → t σ H Q → wpAny (model X.prog X.w) X.A (evalAll ((backToKw pos (keywordEach kws X.env)).map (·.2))) (AP X pins σ Q) X.xe s
section
variable {X : Cx} {CX : CXT} {k : Nat} {f C : Addr} {fd : FuncData} {ps ks : List Str} {sp : Sp} {E : XK} {x m : Str} {p pos apos kpos : Pos} {e o : Expr} {es : List Expr} {kws : List Keyword} {te ta : TE} {t tk : TA} {nm : Option Str}

structure KBinds (K : PySem.W.Frag) (fd : FuncData) (ps ks : List Str) (g : List Value → List Value → List Value) (gV : List V → List V → List V) : Prop where
  to : ∀ (s : Shared) (us ws : List Value), K.In s.heap → (g us ws).length = ps.length → BindsTo s fd ⟨us, ks.zip ws⟩ (ps.zip (g us ws))
  rel : ∀ {vs : List V} {us : List Value} {zs : List V} {ws : List Value}, Vals vs us → Vals zs ws → Vals (gV vs zs) (g us ws)
def tCallK (sp : Sp) (gV : List V → List V → List V) (E : XK) (t tk : TA) : TE := fun σ H Q => t σ H fun vs H1 => tk σ H1 fun zs H2 => sp (gV vs zs) H2 Q E
variable {g : List Value → List Value → List Value} {gV : List V → List V → List V}
end

structure FnScope (N P : List Str) (sc : Scope) : Prop where
  kind : sc.kind = .function
  co : sc.isCoroutine = false
  gen : sc.isGenerator = false
  nd : N.Nodup
  pre : N.take P.length = P
  par : ∀ x ∈ P, sc.names.lookup x = some .local ∨ sc.names.lookup x = some .cell
  nofree : ∀ y ∈ sc.names, y.2 ≠ .free

theorem bindL_out {kindOf : Str → Option NameKind} {x : Str} : ∀ {binds : List (Str × Value)} {m : Str → Option Value}, (∀ v, (x, v) ∉ binds) → bindL kindOf binds m x = m x
  | [], _, _ => rfl
  | (n, v) :: r, m, h => by
    unfold bindL
    rw [bindL_out fun w hw => h w (List.mem_cons_of_mem _ hw)]
    split
    · have : x ≠ n := by rintro rfl; exact h v List.mem_cons_self
      simp [this]
    · rfl
theorem bindC_out {kindOf : Str → Option NameKind} {x : Str} : ∀ {binds : List (Str × Value)} {m : Str → Option Value}, (∀ v, (x, v) ∉ binds) → bindC kindOf binds m x = m x
  | [], _, _ => rfl
  | (n, v) :: r, m, h => by
    unfold bindC
    rw [bindC_out fun w hw => h w (List.mem_cons_of_mem _ hw)]
    split
    · rfl
    · have : x ≠ n := by rintro rfl; exact h v List.mem_cons_self
      simp [this]
theorem bindL_get {kindOf : Str → Option NameKind} {x : Str} {v : Value} : ∀ {P : List Str} {vs : List Value} {i : Nat} {m : Str → Option Value}, P.Nodup → P[i]? = some x → vs[i]? = some v → kindOf x = some .local →
    bindL kindOf (P.zip vs) m x = some v
  | [], _, _, _, _, h, _, _ => by simp at h
  | _ :: _, [], _, _, _, _, h, _ => by simp at h
  | p :: P, w :: vs, 0, m, nd, h1, h2, hk => by
    simp at h1 h2; subst h1; subst h2
    show bindL kindOf ((p, w) :: P.zip vs) m p = _
    unfold bindL
    rw [bindL_out fun v hv => (List.nodup_cons.mp nd).1 (List.of_mem_zip hv).1, if_pos hk]
    simp
  | p :: P, w :: vs, i + 1, m, nd, h1, h2, hk => by
    show bindL kindOf ((p, w) :: P.zip vs) m x = _
    unfold bindL
    exact bindL_get (i := i) (List.nodup_cons.mp nd).2 (by simpa using h1) (by simpa using h2) hk
theorem bindC_get {kindOf : Str → Option NameKind} {x : Str} {v : Value} : ∀ {P : List Str} {vs : List Value} {i : Nat} {m : Str → Option Value}, P.Nodup → P[i]? = some x → vs[i]? = some v → kindOf x ≠ some .local →
    bindC kindOf (P.zip vs) m x = some v
  | [], _, _, _, _, h, _, _ => by simp at h
  | _ :: _, [], _, _, _, _, h, _ => by simp at h
  | p :: P, w :: vs, 0, m, nd, h1, h2, hk => by
    simp at h1 h2; subst h1; subst h2
    show bindC kindOf ((p, w) :: P.zip vs) m p = _
    unfold bindC
    rw [bindC_out fun v hv => (List.nodup_cons.mp nd).1 (List.of_mem_zip hv).1, if_neg hk]
    simp
  | p :: P, w :: vs, i + 1, m, nd, h1, h2, hk => by
    show bindC kindOf ((p, w) :: P.zip vs) m x = _
    unfold bindC
    exact bindC_get (i := i) (List.nodup_cons.mp nd).2 (by simpa using h1) (by simpa using h2) hk

def start (N : List Str) (vs : List V) : St := vs.map some ++ List.replicate (N.length - vs.length) none

def cxOf (CX : CXT) (P : Program) (w : World) (K : PySem.W.Frag) (mg : Str → Option Value) (base : Heap) (N : List Str) (qual : Str) (scope : Scope) (f : Addr) (cd : Value) (A : Around) (outer : List Env) (s : Shared) (H : Hp) (E : XK) : Cx where
  prog := P
  w := w
  K := K
  mg := mg
  base := base
  A := A.deeper (envOfC qual scope s.heap.objs.size f cd)
  N := N
  s₀ := s
  H₀ := H
  env := envOfC qual scope s.heap.objs.size f cd
  outer := outer
  stack := envOfC qual scope s.heap.objs.size f cd :: outer
  ex := []
  calm := true
  fn := fun _ => true
  pn := []
  xe := fun e s' => wpAny (model P w) (A.deeper (envOfC qual scope s.heap.objs.size f cd)) (leaving (envOfC qual scope s.heap.objs.size f cd) e) (fun _ s'' => CX outer H s E e s'') (fun e' s'' => CX outer H s E e' s'') s'

theorem cell_has {sc : Scope} {n : Nat} {x : Str} (h : sc.names.lookup x = some .cell) : ∃ c, (cellsFrom n sc.names []).lookup x = some c := by
  have q := PySem.W.cellsFrom_some sc.names n [] (.inl h)
  exact Option.isSome_iff_exists.mp q

theorem inv_start {CX : CXT} {P : Program} {w : World} {K : PySem.W.Frag} {mg : Str → Option Value} {base : Heap} {N ps : List Str} {qual : Str} {scope : Scope} {f : Addr} {cd : Value} {A : Around} {outer : List Env} {s s1 : Shared} {H : Hp} {E : XK} {us : List Value} {vs : List V}
    (S : FnScope N ps scope) (hd : A.handled = none) (e0 : Env0 P w K mg base A outer s H) (hl : vs.length = ps.length) (r : Vals vs us)
    (x : InCallC s s.heap.objs.size (bindL (envOfC qual scope s.heap.objs.size f cd).kindOf (ps.zip us) fun _ => none) (cellsFrom (s.heap.objs.size + 1) scope.names []) (bindC (envOfC qual scope s.heap.objs.size f cd).kindOf (ps.zip us) fun _ => none) s1) :
    Inv (cxOf CX P w K mg base N qual scope f cd A outer s H E) [] (start N vs) H s1 := by
  have hpl : ps.length ≤ N.length := by have := congrArg List.length S.pre; rw [List.length_take] at this; omega
  obtain ⟨h1, tk, rfl, hk⟩ := x.done
  have noA : ∀ b : Addr, b ∉ (cxOf CX P w K mg base N qual scope f cd A outer s H E).ex := fun b z => absurd (show b ∈ ([] : List Addr) from z) (by simp)
  refine ⟨⟨e0.mod, S.kind, rfl, rfl, Nat.le_refl _, fun y z c h1 h2 => ?_, fun y hy => ?_, fun y c _ h => ?_, fun _ => hd, Around.frames_deeper e0.frames, .inr ⟨rfl, rfl⟩, fun b z => absurd z (noA b), e0.bs, e0.bsz, fun b _ _ => noA b, fun b z => absurd z (noA b), e0.funs, e0.frf⟩,
    rfl, e0.bare, Un.kept hk, ⟨_, x.toInCall.ns, fun i y v h1 h2 h3 => ?_⟩, fun y c h => ⟨_, x.cell y c h⟩, e0.hok.fresh (Nat.le_refl _), fun y c h => ?_, fun p hp => absurd (show p ∈ ([] : List (Addr × Obj)) from hp) (by simp), e0.hok.kept hk, ?_⟩
  · exact name_of_addr x.apart (PySem.mem_of_lookup h1) (PySem.mem_of_lookup h2)
  · have hy : scope.names.lookup y = some .cell ∨ scope.names.lookup y = some .free := hy
    rcases hy with hy | hy
    · exact cell_has hy
    · exact absurd rfl (S.nofree _ (PySem.mem_of_lookup hy))
  · exact Nat.le_of_lt (x.above y c (PySem.mem_of_lookup h))
  · have hi : i < vs.length := by
      unfold start at h2
      by_cases hi : i < vs.length
      · exact hi
      · rw [List.getElem?_append_right (by simpa using hi)] at h2
        rw [List.getElem?_replicate] at h2
        split at h2 <;> cases h2
    have ha : vs[i]? = some v := by
      unfold start at h2
      rw [List.getElem?_append_left (by simpa using hi), List.getElem?_map] at h2
      cases e : vs[i]? with
      | none => rw [e] at h2; cases h2
      | some a => rw [e] at h2; cases h2; rfl
    obtain ⟨u, hu, rv⟩ := r.get ha
    have hp : ps[i]? = some y := by
      rw [← S.pre, List.getElem?_take_of_lt (by omega)]; exact h1
    have ndP : ps.Nodup := by rw [← S.pre]; exact S.nd.sublist (List.take_sublist _ _)
    refine ⟨u, rv, ?_⟩
    rcases S.par y (List.mem_of_getElem? hp) with k | k
    · exact .inl ⟨k, bindL_get ndP hp hu k⟩
    · obtain ⟨c, e⟩ := cell_has (n := s.heap.objs.size + 1) k
      refine .inr ⟨.inl k, c, e, ?_⟩
      have q := x.cell y c e
      rw [bindC_get ndP hp hu (by show scope.names.lookup y ≠ _; rw [k]; decide)] at q
      exact q
  · exact e0.hok.fresh (Nat.le_of_lt (x.above y c (PySem.mem_of_lookup h)))
  · unfold start
    show _ = N.length
    rw [List.length_append, List.length_map, List.length_replicate]
    omega

theorem fn_of {CX : CXT} {P : Program} {w : World} {K : PySem.W.Frag} {mg : Str → Option Value} {base : Heap} {k : Nat} {f : Addr} {name qual : Str} {params : Arguments} {body : List Stmt} {scope : Scope} {dV kV doc pm cdv ct oc : Value} {an od : Option Addr}
    {osl : Array (Option Value)} {N ps : List Str} {sp : Sp} (lk : K.lookup f = some ⟨oc, od, .func (PySem.W.fnOf name qual params body scope dV kV doc pm an cdv ct), osl⟩) (hcd : PySem.W.codeIn K cdv qual = true) (S : FnScope N ps scope)
    (len : ∀ vs H Q E, sp vs H Q E → vs.length = ps.length)
    (hbody : ∀ (A : Around) (outer : List Env) (s : Shared) (H : Hp) (vs : List V) (Q : VK) (E : XK), Room k (A.deeper (envOfC qual scope s.heap.objs.size f cdv)) → sp vs H Q E →
      ∃ t, PSs (cxOf CX P w K mg base N qual scope f cdv A outer s H E) body t ∧ t { nx := fun _ H' => Q .non H', rt := Q } (start N vs) H) :
    FnOk P w K mg base CX (k + 1) f (PySem.W.fnOf name qual params body scope dV kV doc pm an cdv ct) ps sp := by
  refine ⟨len, fun A outer s H args us vs Q E hr e0 hb r hsp => ?_⟩
  have hl := len _ _ _ _ hsp
  have KX : K.In s.heap := e0.mod.kin.keeps fun b o e => (e0.bs b o e).1
  have lim : s.heap.NoLimit := e0.mod.nolimit.keeps fun b o e => (e0.bs b o e).1
  have hkind : ∀ y ∈ ps.zip us, scope.names.lookup y.1 = some .local ∨ (scope.names.lookup y.1 = some .cell ∧ ((cellsFrom (s.heap.objs.size + 1) scope.names []).lookup y.1).isSome = true) := fun ⟨n, v⟩ hy => by
    rcases S.par n (List.of_mem_zip hy).1 with q | q
    · exact .inl q
    · exact .inr ⟨q, PySem.W.cellsFrom_some _ _ _ (.inl q)⟩
  refine codeAny_call_function hr.depth (KX _ _ lk) rfl S.co S.gen rfl (PySem.W.codeRec_of KX hcd) (hb _ _ _ _ ?_)
  refine wpAny_newFunctionEnv_cells S.kind hkind fun env he s1 x => ?_
  subst he
  refine ⟨lim.keeps x.toInCall.keep, codeAny_func ?_⟩
  obtain ⟨t, ht, hq⟩ := hbody A outer s H vs Q E (hr.deeper _) hsp
  have I : Inv (cxOf CX P w K mg base N qual scope f cdv A outer s H E) [] (start N vs) H s1 := inv_start S hr.hd e0 hl r x
  refine wpAny_mono (ht [] s1 (start N vs) H _ I hq) (fun fl s' hs => ?_) fun e s' hs => hs
  have fin : ∀ {σ' : St} {H' : Hp} {v : V} {u : Value}, Inv (cxOf CX P w K mg base N qual scope f cdv A outer s H E) [] σ' H' s' → RelV v u → Q v H' → CE outer P w H s Q u s' :=
    fun {σ' H' v u} J rv q => ⟨v, H', J.os, J.bare, J.base, J.hok, rv, q⟩
  cases fl with
  | ret u =>
    obtain ⟨v, σ', H', J, rv, q⟩ := hs
    exact fin J rv q
  | next =>
    obtain ⟨σ', H', J, q⟩ := hs
    exact fin (v := V.non) (u := Value.none) J rfl q
  | brk =>
    obtain ⟨_, _, _, q⟩ := hs
    exact False.elim q
  | cont =>
    obtain ⟨_, _, _, q⟩ := hs
    exact False.elim q
end L2

namespace L2
open PySem PySem.Spec PyProof.Rows
section
variable {X : Cx} {x : Str} {p pos : Pos} {e : Expr} {es : List Expr} {t : TA} {id T : String} {r : List V → Hp → VK → Prop}

def tCB (r : List V → Hp → VK → Prop) (t : TA) : TE := fun σ H Q => t σ H fun vs H1 => r vs H1 Q
theorem pe_callB (hc : CallR X (.builtin id) r) (hg : Gl X x) (hm : X.mg x = none) (hv : bootBuiltins x = some (.builtin id)) (ha : PA X (e :: es) t) (hn : x ≠ "__name__" := by decide) (hdb : (x == ("__debug__" : Str)) = false := by decide)
    (he : starEach (e :: es) X.env = (false, eval e X.env) :: starEach es X.env := by rfl) (hpl : (backTo pos (starEach es X.env)).any (·.1) = false := by rfl) : PE X (.Call (.Name x p) (e :: es) [] pos) (tCB r t) := by
  intro pins s σ H Q I h
  refine wpAny_Call_Name_kw (ld_blt I hg hm hv ?_ hn hdb)
  exact PyProof.Rows.callWith_builtin1 (thn (ha pos pins s σ H _ I h) fun us s1 ⟨vs, H1, I1, r1, q1⟩ => hc pins s1 σ H1 vs us Q I1 r1 q1) he hpl
theorem pe_callTy (hc : CallR X (.type T) r) (hg : Gl X x) (hm : X.mg x = none) (hv : bootBuiltins x = some (.type T)) (ha : PA X (e :: es) t) (hn : x ≠ "__name__" := by decide) (hdb : (x == ("__debug__" : Str)) = false := by decide)
    (he : starEach (e :: es) X.env = (false, eval e X.env) :: starEach es X.env := by rfl) (hpl : (backTo pos (starEach es X.env)).any (·.1) = false := by rfl) : PE X (.Call (.Name x p) (e :: es) [] pos) (tCB r t) := by
  intro pins s σ H Q I h
  refine wpAny_Call_Name_kw (ld_blt I hg hm hv ?_ hn hdb)
  exact PyProof.Rows.callWith_type1 (thn (ha pos pins s σ H _ I h) fun us s1 ⟨vs, H1, I1, r1, q1⟩ => hc pins s1 σ H1 vs us Q I1 r1 q1) he hpl
end
end L2

namespace HT
open PySem PyProof.Rows

def lexLt : List Int → List Int → Bool
  | [], [] => false
  | [], _ :: _ => true
  | _ :: _, [] => false
  | x :: xs, y :: ys => if x = y then lexLt xs ys else decide (x < y)


section
open PySem.SeqAt
open PySem.AutoSeq1 (wpAny_loadPart')
open PySem.MeetsSeq PySem.MeetsSeq2 PySem.MeetsSeq3

end

section
variable {prog : Program} {w : World} {A : Around} {E : Value → Shared → Prop} {s : Shared}



def sIx (n d : Nat) : Option Int → Nat
  | none => d
  | some v => if v < 0 then (v + (n : Int)).toNat else min v.toNat n
theorem sIx_none (n d : Nat) : sIx n d none = d := rfl
theorem sIx_nat (n d k : Nat) : sIx n d (some (k : Int)) = min k n := by
  show (if (k : Int) < 0 then ((k : Int) + (n : Int)).toNat else min (k : Int).toNat n) = min k n
  rw [if_neg (by omega), Int.toNat_natCast]

end
end HT

namespace L2
open PySem PySem.Spec PyProof.Rows

abbrev TO := St → Hp → (Option Int → Hp → Prop) → Prop
def PO (X : Cx) (e : Option Expr) (t : TO) : Prop :=
  ∀ (pins : List (Addr × Obj)) (s : Shared) (σ : St) (H : Hp) (Q : Option Int → Hp → Prop), Inv X pins σ H s → t σ H Q →
    wpAny (model X.prog X.w) X.A (evalPart e X.env) (fun u s' => ∃ o H', Inv X pins σ H' s' ∧ IsPart u o ∧ Q o H') X.xe s
def tNoPart : TO := fun _ H Q => Q none H
def tPart (t : TE) : TO := fun σ H Q => t σ H fun x H1 => ∃ i, x = .int i ∧ Q (some i) H1

theorem intsAre_of {ns : List Int} : ∀ {us : List Value}, Vals (ns.map V.int) us → IntsAre us ns := by
  induction ns with
  | nil => intro us r; rw [List.map_nil] at r; cases r; exact .nil
  | cons n ns ih =>
    intro us r
    rw [List.map_cons] at r
    cases r with
    | cons r1 r2 =>
      obtain ⟨t, e⟩ := r1
      subst e
      exact .cons n t (ih r2)

section
variable {X : Cx} {e : Expr} {te : TE} {lo hi : Option Expr} {tl th : TO} {pos p2 : Pos}

theorem po_none : PO X none tNoPart := by
  intro pins s σ H Q I h
  rw [evalPart_none]
  exact wpAny_pure ⟨none, H, I, .none, h⟩
theorem po_some (h : PE X e te) : PO X (some e) (tPart te) := by
  intro pins s σ H Q I hw
  rw [evalPart_some]
  refine thn (h pins s σ H _ I hw) fun u s1 ⟨x, H1, I1, r1, q1⟩ => ?_
  obtain ⟨i, rfl, q⟩ := q1
  obtain ⟨t, rfl⟩ := r1
  exact ⟨some i, H1, I1, .int i t, q⟩

def SlR (X : Cx) (r : V → Option Int → Option Int → Hp → VK → Prop) : Prop :=
  ∀ (pins : List (Addr × Obj)) (s : Shared) (σ : St) (H : Hp) (x : V) (v vl vu : Value) (lo hi : Option Int) (sl : Addr) (Q : VK), Inv X pins σ H s → RelV x v → s.heap.IsSliceOf sl vl vu .none → IsPart vl lo → IsPart vu hi → r x lo hi H Q →
    ∃ T id, typeLookup (.type T) "__getitem__" = pure (some (.builtin id)) ∧ s.TypeIs v T ∧ wpAny (model X.prog X.w) X.A (getItem v (.ref sl)) (EP X pins σ Q) X.xe s
def tSl (r : V → Option Int → Option Int → Hp → VK → Prop) (te : TE) (tl th : TO) : TE := fun σ H Q => te σ H fun x H1 => tl σ H1 fun l H2 => th σ H2 fun u H3 => r x l u H3 Q
theorem pe_slice {r : V → Option Int → Option Int → Hp → VK → Prop} (hr : SlR X r) (he : PE X e te) (hl : PO X lo tl) (hu : PO X hi th) : PE X (.Subscript e (.Slice lo hi none p2) pos) (tSl r te tl th) := by
  intro pins s σ H Q I h
  refine Subscript_ (thn (he pins s σ H _ I h) fun v s1 ⟨x, H1, I1, r1, q1⟩ => ?_)
  refine wpAny_Slice (thn (hl pins s1 σ H1 _ I1 q1) fun vl s2 ⟨l, H2, I2, pl, q2⟩ => thn (hu pins s2 σ H2 _ I2 q2) fun vu s3 ⟨u, H3, I3, pu, q3⟩ => ?_)
  rw [evalPart_none]
  refine wpAny_pure ?_
  have I4 : Inv X pins σ H3 { s3 with heap := s3.heap.push { cls := .type "slice", data := .fields #[vl, vu, .none] } } := I3.kept (t' := s3.toks) fun b ob q => Heap.get?_push_of_some _ q
  obtain ⟨T, id, hT, ht, hg⟩ := hr pins { s3 with heap := s3.heap.push { cls := .type "slice", data := .fields #[vl, vu, .none] } } σ H3 x v vl vu l u s3.heap.objs.size Q I4 r1 (Heap.IsSliceOf.new ..) pl pu q3
  show wpAny (model X.prog X.w) X.A (subscriptTail e (.Slice lo hi none p2) v (.ref s3.heap.objs.size)) (EP X pins σ Q) X.xe { s3 with heap := s3.heap.push { cls := .type "slice", data := .fields #[vl, vu, .none] } }
  exact tail_any (ops := [.ref s3.heap.objs.size, v]) ht hT hg (by with_unfolding_all rfl)

def cutV (xs : List V) (lo hi : Option Int) : List V := (xs.drop (HT.sIx xs.length 0 lo)).take (HT.sIx xs.length xs.length hi - HT.sIx xs.length 0 lo)
theorem cutV_length (xs : List V) (lo hi : Option Int) : (cutV xs lo hi).length ≤ xs.length := by
  unfold cutV
  rw [List.length_take, List.length_drop]
  omega
def rSlT (K : PySem.W.Frag) : V → Option Int → Option Int → Hp → VK → Prop := fun x lo hi H Q => ∃ a xs, x = .ref a ∧ SqT K H a xs ∧
  ¬ (HT.sIx xs.length 0 lo = 0 ∧ HT.sIx xs.length xs.length hi = xs.length) ∧ ∀ p, H p = none → Q (.ref p) (upd H p (.tup (cutV xs lo hi)))

def rLtT (K : PySem.W.Frag) : R2 := fun x y H Q => ∃ a b ns ms, x = .ref a ∧ y = .ref b ∧ SqT K H a (ns.map V.int) ∧ SqT K H b (ms.map V.int) ∧ Q (.bl (HT.lexLt ns ms)) H
def rCatT (K : PySem.W.Frag) : R2 := fun x y H Q => ∃ a b xs ys, x = .ref a ∧ y = .ref b ∧ SqT K H a xs ∧ SqT K H b ys ∧ xs ≠ [] ∧ xs.length + ys.length ≤ sizeLine ∧
  (ys = [] → Q (.ref a) H) ∧ (ys ≠ [] → ∀ p, H p = none → Q (.ref p) (upd H p (.tup (xs ++ ys))))
end
end L2

namespace L2
open PySem PySem.Spec PyProof.Rows

def ixN (n : Nat) (i : Int) : Option Nat := if 0 ≤ i then (if i < n then some i.toNat else none) else if -(n : Int) ≤ i then some (i + n).toNat else none
def atI {α : Type} (xs : List α) (i : Int) : Option α := (ixN xs.length i).bind fun j => xs[j]?
theorem ixN_seq {n : Nat} {i : Int} {j : Nat} (h : ixN n i = some j) : seqIndex? i n = some j ∧ j < n ∧ -(n : Int) ≤ i ∧ i < n := by
  unfold ixN at h
  by_cases h0 : 0 ≤ i
  · rw [if_pos h0] at h
    by_cases h1 : i < n
    · rw [if_pos h1] at h
      have e : i.toNat = j := Option.some.inj h
      exact ⟨by rw [seqIndex_of h0 h1, e], by omega, by omega, h1⟩
    · rw [if_neg h1] at h; cases h
  · rw [if_neg h0] at h
    by_cases h1 : -(n : Int) ≤ i
    · rw [if_pos h1] at h
      have e : (i + n).toNat = j := Option.some.inj h
      exact ⟨by rw [seqIndex_neg (by omega) h1, e], by omega, h1, by omega⟩
    · rw [if_neg h1] at h; cases h
theorem atI_get {α : Type} {xs : List α} {i : Int} {v : α} (h : atI xs i = some v) : ∃ j, seqIndex? i xs.length = some j ∧ xs[j]? = some v ∧ j < xs.length ∧ -(xs.length : Int) ≤ i ∧ i < xs.length := by
  unfold atI at h
  cases e : ixN xs.length i with
  | none => rw [e] at h; cases h
  | some j =>
    rw [e] at h
    obtain ⟨h1, h2, h3, h4⟩ := ixN_seq e
    exact ⟨j, h1, h, h2, h3, h4⟩
theorem atI_nat {α : Type} {xs : List α} {j : Nat} {v : α} (h : xs[j]? = some v) : atI xs (j : Int) = some v := by
  have hj : j < xs.length := (List.getElem?_eq_some_iff.mp h).1
  have e : ixN xs.length (j : Int) = some j := by
    unfold ixN
    rw [if_pos (by omega), if_pos (by omega)]; simp
  unfold atI; rw [e]; exact h

def PlainIx (b : Expr) : Prop := ∀ o i, subscripted b false o i = operate [o, i] (getItem o i)
def IxR (X : Cx) (r : R2) : Prop :=
  ∀ (value slice : Expr) (pins : List (Addr × Obj)) (s : Shared) (σ : St) (H : Hp) (x y : V) (v u : Value) (Q : VK), Inv X pins σ H s → RelV x v → RelV y u → r x y H Q →
    subscripted slice false v u = operate [v, u] (getItem v u) → wpAny (model X.prog X.w) X.A (subscriptTail value slice v u) (EP X pins σ Q) X.xe s
def MtR (X : Cx) (id : String) (r : V → List V → Hp → VK → Prop) : Prop :=
  ∀ (pins : List (Addr × Obj)) (s : Shared) (σ : St) (H : Hp) (x : V) (xs : List V) (v : Value) (us : List Value) (Q : VK), Inv X pins σ H s → RelV x v → Vals xs us → r x xs H Q →
    wpAny (model X.prog X.w) X.A (call (.builtin id) (v :: us)) (EP X pins σ Q) X.xe s
section
variable {X : Cx} {a b : Expr} {ta tb : TE} {pos : Pos}
theorem pe_ix {r : R2} (hr : IxR X r) (ha : PE X a ta) (hb : PE X b tb) (hs : PlainIx b) : PE X (.Subscript a b pos) (tOp r ta tb) := by
  intro pins s σ H Q I h
  exact Subscript_ (binT ha hb I h fun v u s2 x y H2 I2 rx ry q => hr a b pins s2 σ H2 x y v u Q I2 rx ry q (hs _ _))

def rIxL (K : PySem.W.Frag) : R2 := fun x y H Q => ∃ p xs i v, x = .ref p ∧ y = .int i ∧ SqL K H p xs ∧ atI xs i = some v ∧ Q v H
def rIxT (K : PySem.W.Frag) : R2 := fun x y H Q => ∃ p xs i v, x = .ref p ∧ y = .int i ∧ SqT K H p xs ∧ atI xs i = some v ∧ Q v H
def rIxS : R2 := fun x y H Q => ∃ z i c, x = .str z ∧ y = .int i ∧ z.length ≤ sizeLine ∧ atI z.cps.toList i = some c ∧ Q (.str ⟨#[c]⟩) H
theorem ix_list : IxR X (rIxL X.K) := by
  intro value slice pins s σ H x y v u Q I rx ry h hs
  obtain ⟨p, xs, i, z, rfl, rfl, hq, he, q⟩ := h
  cases rx
  obtain ⟨t, rfl⟩ := ry
  obtain ⟨its, r, pl, hz⟩ := I.list hq
  obtain ⟨j, h1, h2, h3, h4, h5⟩ := atI_get he
  obtain ⟨w, ew, rw'⟩ := r.get h2
  have hl := r.length
  have hn := line63
  have fin : EP X pins σ Q w s := ⟨z, H, I, rw', q⟩
  by_cases h0 : 0 ≤ i
  · have hj : i.toNat = j := by
      rw [seqIndex_of h0 h5] at h1
      exact Option.some.inj h1
    exact item_listR pl.isList h0 (by omega) (by rw [hj]; simpa using ew) fin hs
  · have hj : (i + (its.toArray.size : Int)).toNat = j := by
      rw [seqIndex_neg (by omega) h4] at h1
      rw [List.size_toArray, ← hl]
      exact Option.some.inj h1
    exact subscriptTail_builtinR (x := w) pl.isList.typeIs slot_list_getitem.lookup
      (wpAny_getItem_list_neg (Q := fun r s' => r = w ∧ EP X pins σ Q r s') pl.isList (by omega) (by rw [List.size_toArray] <;> omega) (by omega) (by rw [hj]; simpa using ew) ⟨rfl, fin⟩) hs
theorem ix_tup : IxR X (rIxT X.K) := by
  intro value slice pins s σ H x y v u Q I rx ry h hs
  obtain ⟨p, xs, i, z, rfl, rfl, hq, he, q⟩ := h
  cases rx
  obtain ⟨t, rfl⟩ := ry
  obtain ⟨its, r, pl, hz⟩ := I.tuple hq
  obtain ⟨j, h1, h2, h3, h4, h5⟩ := atI_get he
  obtain ⟨w, ew, rw'⟩ := r.get h2
  have hl := r.length
  have hn := line63
  have fin : EP X pins σ Q w s := ⟨z, H, I, rw', q⟩
  exact subscriptTail_builtinR (x := w) pl.typeIs slot_tuple_getitem.lookup
    (getItem_tuple (j := j) (Q := fun r s' => r = w ∧ EP X pins σ Q r s') pl (by omega) (by omega) (by rw [List.size_toArray, ← hl]; exact h1) (by simpa using ew) ⟨rfl, fin⟩) hs
def rIx (K : PySem.W.Frag) : R2 := fun x y H Q => rIxL K x y H Q ∨ rIxT K x y H Q ∨ rIxS x y H Q

theorem mapSeq_set (its : List Value) (n j : Nat) (u : Value) : Obj.mapSeq (·.setIfInBounds j u) { cls := .type "list", data := .seq its.toArray n } = { cls := .type "list", data := .seq (its.set j u).toArray n } := by
  simp [Obj.mapSeq]
theorem Inv.lst {pins : List (Addr × Obj)} {σ : St} {H : Hp} {s : Shared} {p : Addr} {xs : List V} (I : Inv X pins σ H s) (h : H p = some (.lst xs)) :
    ∃ (its : List Value) (n : Nat), Vals xs its ∧ s.heap.get? p = some { cls := .type "list", data := .seq its.toArray n } ∧ xs.length ≤ sizeLine := by
  obtain ⟨z, its, n, r, e⟩ := I.hok p _ h
  exact ⟨its, n, r, e, z⟩
theorem Inv.lstUpd {pins : List (Addr × Obj)} {σ : St} {H : Hp} {s : Shared} {p : Addr} {xs ys : List V} {its its' : List Value} {n n' : Nat} {f : Obj → Obj} (I : Inv X pins σ H s) (h : H p = some (.lst xs))
    (ho : s.heap.get? p = some { cls := .type "list", data := .seq its.toArray n }) (hf : f { cls := .type "list", data := .seq its.toArray n } = { cls := .type "list", data := .seq its'.toArray n' }) (r : Vals ys its') (hz : ys.length ≤ sizeLine) (t : Nat) :
    Inv X pins σ (upd H p (.lst ys)) { s with heap := s.heap.update p f, toks := t } := by
  have e : (s.heap.update p f).get? p = some { cls := .type "list", data := .seq its'.toArray n' } := by
    rw [Heap.get?_update_self f ho (by rw [hf] <;> rfl), hf]
  refine I.write (x := p) (e := p) (by rw [h]; trivial) (.inl rfl) (fun b u hb q => (Heap.get?_update_other _ _ (Ne.symm hb)).trans q) ⟨_, e⟩ ?_
  exact ⟨hz, its', n', r, e⟩
def rSetL : V → V → V → Hp → (Hp → Prop) → Prop := fun o i v H Q => ∃ p xs k j, o = .ref p ∧ i = .int k ∧ H p = some (.lst xs) ∧ ixN xs.length k = some j ∧ Q (upd H p (.lst (xs.set j v)))
theorem set_list : PSet X rSetL := by
  intro pins s σ H o i v ov iv u Q I ro ri rv h
  obtain ⟨p, xs, k, j, rfl, rfl, hp, hj, q⟩ := h
  cases ro
  obtain ⟨t, rfl⟩ := ri
  obtain ⟨its, n, r, ho, hz⟩ := I.lst hp
  obtain ⟨h1, h2, h3, h4⟩ := ixN_seq hj
  have hl := r.length
  have hn := line63
  have I' : Inv X pins σ (upd H p (.lst (xs.set j v))) { s with heap := s.heap.update p (Obj.mapSeq (·.setIfInBounds j u)) } :=
    I.lstUpd hp ho (mapSeq_set its n j u) (r.set rv j) (by rw [List.length_set]; exact hz) s.toks
  by_cases h0 : 0 ≤ k
  · have hk : k.toNat = j := by
      rw [seqIndex_of h0 h4] at h1
      exact Option.some.inj h1
    exact PySem.W.ki_setAt ho h0 (by omega) (by rw [List.size_toArray, ← hl]; exact h4) (by rw [hk]; exact ⟨_, I', q⟩)
  · have hk : (k + (its.toArray.size : Int)).toNat = j := by
      rw [seqIndex_neg (by omega) h3] at h1
      rw [List.size_toArray, ← hl]
      exact Option.some.inj h1
    exact PySem.W.ki_setBack ho (by omega) (by rw [List.size_toArray, ← hl]; exact h3) (by omega) (by rw [hk]; exact ⟨_, I', q⟩)

theorem slice_bounds (lo hi : Option Int) (n : Nat) : (sliceBounds lo hi none n).1 = ((HT.sIx n 0 lo : Nat) : Int) ∧ (sliceBounds lo hi none n).2.1 = ((HT.sIx n n hi : Nat) : Int) ∧ (sliceBounds lo hi none n).2.2 = 1 := by
  refine ⟨?_, ?_, rfl⟩
  · cases lo with
    | none => simp [sliceBounds, HT.sIx]
    | some i =>
      simp only [sliceBounds, HT.sIx, Option.getD_none, show (1 : Int) > 0 by decide, if_true]
      by_cases h : i < 0
      · simp only [h, if_true] <;> omega
      · simp only [h, if_false] <;> omega
  · cases hi with
    | none => simp [sliceBounds, HT.sIx]
    | some i =>
      simp only [sliceBounds, HT.sIx, Option.getD_none, show (1 : Int) > 0 by decide, if_true]
      by_cases h : i < 0
      · simp only [h, if_true] <;> omega
      · simp only [h, if_false] <;> omega
theorem slicePick_cut (its : List Value) (lo hi : Option Int) : slicePick its.toArray lo hi none = ((its.drop (HT.sIx its.length 0 lo)).take (HT.sIx its.length its.length hi - HT.sIx its.length 0 lo)).toArray := by
  obtain ⟨h1, h2, h3⟩ := slice_bounds lo hi its.toArray.size
  unfold slicePick
  rw [h1, h2, h3]
  simp only [sliceRange_one, pick_run, List.size_toArray] <;> rfl
def rSlL (K : PySem.W.Frag) : V → Option Int → Option Int → Hp → VK → Prop := fun x lo hi H Q => ∃ a xs, x = .ref a ∧ SqL K H a xs ∧ ∀ p, H p = none → Q (.ref p) (upd H p (.lst (cutV xs lo hi)))
theorem sl_list : SlR X (rSlL X.K) := by
  intro pins s σ H x v vl vu lo hi sl Q I rx hs pl pu h
  obtain ⟨a, xs, rfl, hx, q⟩ := h
  cases rx
  obtain ⟨its, r, ht, hz⟩ := I.list hx
  have hlen := r.length
  refine ⟨"list", _, slot_list_getitem.lookup, ht.isList.typeIs, ?_⟩
  refine wpAny_getItem_list_slice ht.isList hs pl pu .none (by simp) ?_ (by rw [List.size_toArray] <;> omega)
  rw [slicePick_cut, ← hlen]
  refine ⟨.ref s.heap.objs.size, _, I.laid (t' := s.toks) (o := .lst (cutV xs lo hi)) (fun b ob q => Heap.get?_push_of_some _ q) (Nat.le_refl _) ?_, rfl, q _ (I.hok.fresh (Nat.le_refl _))⟩
  exact ⟨Nat.le_trans (cutV_length xs lo hi) hz, _, 0, (r.drop (HT.sIx xs.length 0 lo)).take (HT.sIx xs.length xs.length hi - HT.sIx xs.length 0 lo), Heap.get?_push_size _ rfl⟩

def flatV : V → Bool
  | .non => true
  | .bl _ => true
  | .int _ => true
  | .str _ => true
  | _ => false
def eqV : V → V → Bool
  | .non, .non => true
  | .bl a, .bl b => a == b
  | .bl a, .int b => (if a then 1 else 0) == b
  | .int a, .bl b => a == (if b then 1 else 0)
  | .int a, .int b => a == b
  | .str a, .str b => a == b
  | _, _ => false
def eqU (x : V) (u : Value) : Bool := match u with
  | .none => eqV .non x
  | .bool b => eqV (.bl b) x
  | .int i _ => eqV (.int i) x
  | .str z _ => eqV (.str z) x
  | _ => false
def inV (x : V) (xs : List V) : Bool := xs.any fun y => eqV y x
def rIn (K : PySem.W.Frag) (neg : Bool) : R2 := fun x y H Q => ∃ p xs, y = .ref p ∧ (SqL K H p xs ∨ SqT K H p xs) ∧ flatV x = true ∧ xs.all flatV = true ∧ Q (.bl (if neg then !inV x xs else inV x xs)) H

theorem call_len_seq : CallR X (.builtin "len") (fun xs H Q => ∃ p ys, xs = [.ref p] ∧ (SqL X.K H p ys ∨ SqT X.K H p ys) ∧ Q (.int ys.length) H) := by
  intro pins s σ H xs us Q I r h
  obtain ⟨p, ys, rfl, hq, q⟩ := h
  obtain ⟨u, rfl, rx⟩ := vals1 r
  cases rx
  have hn := line63
  rcases hq with hq | hq
  · obtain ⟨its, r', pl, hz⟩ := I.list hq
    have hlen := r'.length
    exact Calls.call_len_list pl.isList (by simp only [List.size_toArray] <;> omega) ⟨.int ys.length, H, I.tok _, ⟨s.toks + 1, by rw [List.size_toArray, hlen]⟩, q⟩
  · obtain ⟨its, r', pl, hz⟩ := I.tuple hq
    have hlen := r'.length
    exact len_tuple pl (by simp only [List.size_toArray] <;> omega) ⟨.int ys.length, H, I.tok _, ⟨s.toks + 1, by rw [List.size_toArray, hlen]⟩, q⟩
theorem call_list_of : CallR X (.type "list") (fun xs H Q => ∃ p ys, xs = [.ref p] ∧ (SqL X.K H p ys ∨ SqT X.K H p ys) ∧ ∀ l, H l = none → Q (.ref l) (upd H l (.lst ys))) := by
  intro pins s σ H xs us Q I r h
  obtain ⟨p, ys, rfl, hq, q⟩ := h
  obtain ⟨u, rfl, rx⟩ := vals1 r
  cases rx
  have fin : ∀ (its : List Value), Vals ys its → ys.length ≤ sizeLine → ∀ (h' : Heap) (c' : Nat), (∀ b o', s.heap.get? b = some o' → h'.get? b = some o') →
      h'.get? s.heap.objs.size = some { cls := .type "list", dict := none, data := .seq its.toArray c', slots := #[] } → EP X pins σ Q (.ref s.heap.objs.size) { s with heap := h' } := fun its r' hz h' c' kp e =>
    ⟨.ref s.heap.objs.size, _, I.laid (t' := s.toks) kp (Nat.le_refl _) (show ObjOk X.prog X.w _ h' _ (.lst ys) from ⟨hz, its, c', r', e⟩), rfl, q _ (I.hok.fresh (Nat.le_refl _))⟩
  rcases hq with hq | hq
  · obtain ⟨its, r', pl, hz⟩ := I.list hq
    have hlen := r'.length
    obtain ⟨o, ho, hc, n, hd⟩ := pl.isList
    exact call_list_seq p (.inl rfl) ho hc hd (fun h' c' kp e => fin its r' hz h' c' kp e) (by simp only [List.size_toArray] <;> omega)
  · obtain ⟨its, r', pl, hz⟩ := I.tuple hq
    have hlen := r'.length
    obtain ⟨o, ho, hc, n, hd⟩ := pl
    exact call_list_seq p (.inr rfl) ho hc hd (fun h' c' kp e => fin its r' hz h' c' kp e) (by simp only [List.size_toArray] <;> omega)

def tyV (K : PySem.W.Frag) (T : String) (x : V) (H : Hp) : Prop := match x with
  | .str _ => T = "str"
  | .int _ => T = "int"
  | .ref p => (T = "list" ∧ ∃ xs, SqL K H p xs) ∨ (T = "tuple" ∧ ∃ o, K.lookup p = some o ∧ o.cls = .type "tuple" ∧ o.dict = none) ∨
      (T = "dict" ∧ ((∃ kvs, H p = some (.dK kvs)) ∨ ∃ kvs, H p = some (.dT kvs))) ∨ (T = "set" ∧ ∃ S n, H p = some (.set S n))
  | _ => False
theorem tyV_is {pins : List (Addr × Obj)} {σ : St} {H : Hp} {s : Shared} {T : String} {x : V} {v : Value} (I : Inv X pins σ H s) (r : RelV x v) (ty : tyV X.K T x H) :
    s.TypeIs v T ∧ ∀ a, v = .ref a → ∃ ob, s.heap.get? a = some ob ∧ ob.dict = none := by
  cases x with
  | str z =>
    obtain ⟨t, rfl⟩ := r
    cases (show T = "str" from ty)
    exact ⟨typeIs_str s z t, fun _ e => nomatch e⟩
  | int i =>
    obtain ⟨t, rfl⟩ := r
    cases (show T = "int" from ty)
    exact ⟨typeIs_int s i t, fun _ e => nomatch e⟩
  | ref p =>
    cases r
    rcases ty with ⟨rfl, xs, hq⟩ | ⟨rfl, o, hk, hc, hd⟩ | ⟨rfl, hk⟩ | ⟨rfl, S, n, hk⟩
    · obtain ⟨its, _, pl, _⟩ := I.list hq
      refine ⟨pl.isList.typeIs, fun a e => ?_⟩
      cases e
      obtain ⟨o, n, e, c, hd, _⟩ := pl
      exact ⟨o, e, hd⟩
    · refine ⟨⟨o, I.kIn p o hk, hc⟩, fun a e => ?_⟩
      cases e
      exact ⟨o, I.kIn _ o hk, hd⟩
    · have z : ∃ o, s.heap.get? p = some o ∧ o.ExactDict := by
        rcases hk with ⟨kvs, hk⟩ | ⟨kvs, hk⟩
        · obtain ⟨_, _, _, _, o, _, _, e, ex, _⟩ := I.hok p _ hk
          exact ⟨o, e, ex⟩
        · obtain ⟨_, _, _, _, o, _, _, e, ex, _⟩ := I.hok p _ hk
          exact ⟨o, e, ex⟩
      obtain ⟨o, e, ex⟩ := z
      refine ⟨⟨o, e, ex.1⟩, fun a e2 => ?_⟩
      cases e2
      exact ⟨o, e, ex.2.1⟩
    · obtain ⟨o, _, _, _, e, ex, _⟩ := I.hok p _ hk
      refine ⟨⟨o, e, ex.1⟩, fun a e2 => ?_⟩
      cases e2
      exact ⟨o, e, ex.2.1⟩
  | _ => exact False.elim ty
def tBM0 (K : PySem.W.Frag) (T : String) (r : V → List V → Hp → VK → Prop) (to : TE) : TE := fun σ H Q => to σ H fun x H1 => tyV K T x H1 ∧ r x [] H1 Q
def tBM (K : PySem.W.Frag) (T : String) (r : V → List V → Hp → VK → Prop) (to : TE) (t : TA) : TE := fun σ H Q => to σ H fun x H1 => tyV K T x H1 ∧ t σ H1 fun xs H2 => r x xs H2 Q
variable {o e : Expr} {es : List Expr} {to : TE} {t : TA} {name : Str} {apos cpos : Pos} {T id : String} {r : V → List V → Hp → VK → Prop}
theorem pe_bm0 (pa : PlainAttrs T) (slot : Slot T name id) (hty : typeOf (.builtin id) = pure (.type "method_descriptor")) (hm : MtR X id r) (ho : PE X o to)
    (hbase : attributeBase o name X.env (eval o X.env) = eval o X.env := by rfl) (hline : (apos.endLine == cpos.line) = true := by rfl) : PE X (.Call (.Attribute o name apos) [] [] cpos) (tBM0 X.K T r to) := by
  intro pins s σ H Q I h
  refine wpAny_Call_method0_late hbase hline (thn (ho pins s σ H _ I h) fun v s1 ⟨x, H1, I1, r1, ty, q1⟩ => ?_)
  obtain ⟨h1, h2⟩ := tyV_is I1 r1 ty
  exact ⟨T, id, pa, slot, hty, h1, h2, Calls.callWith_builtin rfl (PySem.evalArgs_none (hm pins s1 σ H1 x [] v [] Q I1 r1 .nil q1))⟩
theorem pe_bm (pa : PlainAttrs T) (slot : Slot T name id) (hty : typeOf (.builtin id) = pure (.type "method_descriptor")) (hm : MtR X id r) (ho : PE X o to) (ha : PA X (e :: es) t)
    (hbase : attributeBase o name X.env (eval o X.env) = eval o X.env := by rfl)
    (hfew : ((backTo cpos (starEach (e :: es) X.env)).all (fun x => !x.1) && (backToKw cpos (keywordEach [] X.env)).all (fun x => x.1.isSome)
      && decide ((e :: es).length + ([] : List Keyword).length + (if ([] : List Keyword).isEmpty then 0 else 1) < 30)) = true := by rfl)
    (hline : (apos.endLine == cpos.line) = true := by rfl) (hs : starEach (e :: es) X.env = (false, eval e X.env) :: starEach es X.env := by rfl) (hplain : (backTo cpos (starEach es X.env)).any (·.1) = false := by rfl) :
    PE X (.Call (.Attribute o name apos) (e :: es) [] cpos) (tBM X.K T r to t) := by
  intro pins s σ H Q I h
  refine wpAny_Call_method_late hbase hfew hline rfl (thn (ho pins s σ H _ I h) fun v s1 ⟨x, H1, I1, r1, ty, q1⟩ => ?_)
  obtain ⟨h1, h2⟩ := tyV_is I1 r1 ty
  refine ⟨T, id, pa, slot, hty, h1, h2, ?_⟩
  have hA := ha cpos pins s1 σ H1 _ I1 q1
  rw [hs] at hA ⊢
  refine Calls.callWith_builtin (by show (false || (backTo cpos (starEach es X.env)).any (·.1)) = false; rw [hplain] <;> rfl) (Calls.evalArgs_plain ?_)
  exact thn hA fun us s2 ⟨vs, H2, I2, r2, q2⟩ => hm pins s2 σ H2 x vs v us Q I2 r1 r2 q2
end
end L2

namespace L2
open PySem PySem.Spec PyProof.Rows

def MtM (X : Cx) (id : String) (r : V → List V → Hp → VK → Prop) : Prop :=
  ∀ (pins : List (Addr × Obj)) (s : Shared) (σ : St) (H : Hp) (x : V) (xs : List V) (v : Value) (us : List Value) (Q : VK), Inv X pins σ H s → RelV x v → Vals xs us → r x xs H Q →
    wpAny (model X.prog X.w) X.A (call (.builtin id) (v :: us)) (EP X pins σ Q) X.xe s

theorem Vals.one : ∀ {x : V} {us : List Value}, Vals [x] us → ∃ u, us = [u] ∧ RelV x u
  | _, _, .cons r .nil => ⟨_, rfl, r⟩
theorem Vals.zero : ∀ {us : List Value}, Vals [] us → us = []
  | _, .nil => rfl
theorem Vals.dropLast {xs : List V} {us : List Value} (h : Vals xs us) : Vals xs.dropLast us.dropLast := by
  induction h with
  | nil => exact .nil
  | cons r t ih =>
    cases t with
    | nil => exact .nil
    | cons q t' => exact .cons r ih
theorem Vals.eraseIdx : ∀ {xs : List V} {us : List Value} (i : Nat), Vals xs us → Vals (xs.eraseIdx i) (us.eraseIdx i)
  | _, _, _, .nil => .nil
  | _, _, 0, .cons _ t => t
  | _, _, i + 1, .cons r t => .cons r (Vals.eraseIdx i t)
theorem Vals.reverse {xs : List V} {us : List Value} (h : Vals xs us) : Vals xs.reverse us.reverse := by
  induction h with
  | nil => exact .nil
  | cons r t ih => rw [List.reverse_cons, List.reverse_cons]; exact Vals.append ih (.cons r .nil)

section
variable {X : Cx} {pins : List (Addr × Obj)} {σ : St} {H : Hp} {s : Shared} {l b : Addr} {xs ys zs : List V}

theorem Inv.lset {its its' : List Value} {n : Nat} {f : Array Value → Array Value} {t' : Nat} (I : Inv X pins σ H s) (hH : H l = some (.lst xs))
    (e : s.heap.get? l = some { cls := .type "list", data := .seq its.toArray n }) (hf : f its.toArray = its'.toArray) (hv : Vals ys its') (hz : ys.length ≤ sizeLine) :
    Inv X pins σ (upd H l (.lst ys)) { s with heap := s.heap.update l (Obj.mapSeq f), toks := t' } := by
  have q := PySem.IsL.update e f
  rw [hf] at q
  refine I.write (x := l) (e := l) (by rw [hH]; exact trivial) (.inl rfl) (fun b' u hb hu => (Heap.get?_update_other s.heap (Obj.mapSeq f) (Ne.symm hb)).trans hu) ⟨_, q⟩ ?_
  exact ⟨hz, its', _, hv, q⟩
theorem Inv.lnew {its : List Value} {t' : Nat} (I : Inv X pins σ H s) (hv : Vals ys its) (hz : ys.length ≤ sizeLine) :
    Inv X pins σ (upd H s.heap.objs.size (.lst ys)) { s with heap := s.heap.push { cls := .type "list", data := .seq its.toArray }, toks := t' } :=
  I.laid (fun _ _ q => Heap.get?_push_of_some _ q) (Nat.le_refl _) ⟨hz, its, 0, hv, Heap.get?_push_size _ rfl⟩
theorem Inv.fresh (I : Inv X pins σ H s) : H s.heap.objs.size = none := I.hok.fresh (Nat.le_refl _)
theorem Inv.lstM (I : Inv X pins σ H s) (hH : H l = some (.lst xs)) : xs.length ≤ sizeLine ∧ ∃ (its : List Value) (n : Nat), Vals xs its ∧ xs.length = its.length ∧ s.heap.get? l = some { cls := .type "list", data := .seq its.toArray n } := by
  obtain ⟨z, its, n, r, e⟩ := I.hok l _ hH
  exact ⟨z, its, n, r, r.length, e⟩

end

section
variable {X : Cx}

def rAppend : V → List V → Hp → VK → Prop := fun x vs H Q => ∃ l xs y, x = .ref l ∧ vs = [y] ∧ H l = some (.lst xs) ∧ xs.length < sizeLine ∧ Q .non (upd H l (.lst (xs ++ [y])))
theorem mt_append : MtM X "list.append" rAppend := by
  intro pins s σ H x vs v us Q I rx rv h
  obtain ⟨l, xs, y, rfl, rfl, hH, hz, q⟩ := h
  cases rx
  obtain ⟨u, rfl, ru⟩ := rv.one
  obtain ⟨z, its, n, r, hl, e⟩ := I.lstM hH
  refine call_meets F.slot_list_append ⟨_, e, rfl⟩ F.entry_list_append (F.args_list_append_2 _ _) (PySem.list_append l its.toArray n u (by rw [List.size_toArray]; omega)) ⟨e, ?_⟩
  refine ⟨.non, _, I.lset (its' := its ++ [u]) hH e (by simp) (r.append (.cons ru .nil)) ?_, rfl, q⟩
  rw [List.length_append, List.length_singleton]
  omega

def rExtend : V → List V → Hp → VK → Prop := fun x vs H Q => ∃ l b xs zs, x = .ref l ∧ vs = [.ref b] ∧ H l = some (.lst xs) ∧ H b = some (.lst zs) ∧ xs.length + zs.length ≤ sizeLine ∧ Q .non (upd H l (.lst (xs ++ zs)))

def rPop : V → List V → Hp → VK → Prop := fun x vs H Q => ∃ l xs y, x = .ref l ∧ vs = [] ∧ H l = some (.lst xs) ∧ xs[xs.length - 1]? = some y ∧ Q y (upd H l (.lst xs.dropLast))

def rPopAt : V → List V → Hp → VK → Prop := fun x vs H Q => ∃ l xs i k y, x = .ref l ∧ vs = [.int i] ∧ H l = some (.lst xs) ∧ -(2 ^ 63) ≤ i ∧ i < 2 ^ 63 ∧ seqIndex? i xs.length = some k ∧ xs[k]? = some y ∧ Q y (upd H l (.lst (xs.eraseIdx k)))

def rReverse : V → List V → Hp → VK → Prop := fun x vs H Q => ∃ l xs, x = .ref l ∧ vs = [] ∧ H l = some (.lst xs) ∧ Q .non (upd H l (.lst xs.reverse))
theorem mt_reverse : MtM X "list.reverse" rReverse := by
  intro pins s σ H x vs v us Q I rx rv h
  obtain ⟨l, xs, rfl, rfl, hH, q⟩ := h
  cases rx
  have hus := rv.zero
  subst hus
  obtain ⟨z, its, n, r, hl, e⟩ := I.lstM hH
  refine call_meets F.slot_list_reverse ⟨_, e, rfl⟩ F.entry_list_reverse (F.args_list_reverse_1 _) (AutoSeq1.list_reverse_list_0 l its.toArray n (by rw [List.size_toArray]; omega)) ⟨e, ?_⟩
  refine ⟨.non, _, I.lset (its' := its.reverse) hH e (by simp) r.reverse ?_, rfl, q⟩
  rw [List.length_reverse]
  omega

def rClear : V → List V → Hp → VK → Prop := fun x vs H Q => ∃ l xs, x = .ref l ∧ vs = [] ∧ H l = some (.lst xs) ∧ Q .non (upd H l (.lst []))

def rCat : R2 := fun x y H Q => ∃ l b xs zs, x = .ref l ∧ y = .ref b ∧ H l = some (.lst xs) ∧ H b = some (.lst zs) ∧ xs.length + zs.length ≤ sizeLine ∧ ∀ p, H p = none → Q (.ref p) (upd H p (.lst (xs ++ zs)))
def rRep : R2 := fun x y H Q => ∃ l k xs, x = .ref l ∧ y = .int k ∧ H l = some (.lst xs) ∧ -(2 ^ 63) ≤ k ∧ k < 2 ^ 63 ∧ xs.length * k.toNat ≤ sizeLine ∧
  ∀ p, H p = none → Q (.ref p) (upd H p (.lst (List.replicate k.toNat xs).flatten))

end

section
variable {prog : Program} {w : World} {A : Around} {E : Value → Shared → Prop} {s : Shared}
end

section
variable {X : Cx}
end
end L2

namespace Att
open PySem PySem.W PySem.Calls PyProof.Rows

theorem ints_of_wellAll {P : Params} {h : Heap} : ∀ (ns : List Int) (vs : List Value), WellAll P h vs (ns.map WData.int) → IntsAre vs ns := by
  intro ns
  induction ns with
  | nil =>
    intro vs w
    rw [List.map_nil] at w
    cases w
    exact .nil
  | cons n ns ih =>
    intro vs w
    rw [List.map_cons] at w
    cases w with
    | cons a b =>
      cases a
      exact .cons _ _ (ih _ b)

theorem script_of {l : OpenLaw} {n : Nat} (hn : l.most = some n) {P : Params} {h : Heap} {args : List WData} {vals : List Value}
    (hpre : l.row.toRowW.claim.pre args = true) (hwl : WellAll P h vals args) :
    ∃ a vs ns, vals = [Value.ref a] ∧ args = [WData.list (ns.map WData.int)] ∧ h.get? a = some { cls := .type "list", data := .seq vs.toArray } ∧ IntsAre vs ns ∧ ns.length ≤ n := by
  have hsh : WShape.hasAll [] args [.list .int] = true := (pre_splitW hpre).1
  have hc : l.pre.holds [] { args := args } = true := (pre_splitW hpre).2
  obtain ⟨d, r, rfl, h1, h2⟩ := hasAllW_cons hsh
  obtain rfl := hasAllW_nil h2
  obtain ⟨xs, rfl, h3⟩ := hasW_list h1
  obtain ⟨ns, rfl⟩ := items_int h3
  have hlen : ns.length ≤ n := by
    unfold OpenLaw.pre at hc
    have h4 : (WTm.not (.lt (.lit (.int (n : Int))) (.len (.arg 0)))).holds [] { args := [.list (ns.map .int)] } = true := by
      have h4 := (holds_andW hc).1
      rw [hn] at h4
      exact h4
    have h5 := condW_of h4 (w_not (w_lt w_lit (w_len_list (w_arg rfl))))
    rw [List.length_map] at h5
    refine Nat.le_of_not_lt fun q => ?_
    have q' : (n : Int) < ((ns.length : Nat) : Int) := by omega
    first
      | (rw [decide_eq_true q'] at h5; exact absurd h5 (by decide))
      | (simp at h5; omega)
  cases hwl with
  | cons w1 w2 =>
    cases w2
    cases w1 with
    | list ho hall => exact ⟨_, _, ns, rfl, rfl, ho, ints_of_wellAll ns _ hall, hlen⟩

theorem post_true (l : OpenLaw) (args : List WData) : l.row.toRowW.claim.post args (.bool true) args = true :=
  postW_of (r := l.row.toRowW) (X := (true == true))
    (show WShape.has [] (.bool true) .bool = true by first | rfl | decide | simp [WShape.has, WShape.arms, WShape.armsAll])
    (show (WTm.eq .res (.lit (.bool true))).value [] { args := args, res := some (.bool true), after := args } = some (.bool (true == true)) from w_eq_bool (w_res rfl) w_lit) rfl


theorem attach_call {l : OpenLaw} {n : Nat} {q : Program} {loose : List Str} {XP : (Str → Option Value) → Heap → Prop} {YP : World → Heap → Prop} {d : DefRec}
    (hn : l.most = some n) (hdf : d.params.defaults = [])
    (call : ∀ (w : World) (s₀ s₁ : Shared) (mg mb : Str → Option Value) (fa : Addr) (o : Obj) (pm cd doc : Value) (a : Addr) (vs : List Value) (ns : List Int),
      Ground q loose [] XP w s₀ mg mb s₁.heap → YP w s₁.heap →
      s₁.heap.get? fa = some o → o.data = .func (docDef d.name d.params d.body d.scope pm cd doc) → s₁.heap.CodeRec cd d.name → mg d.name = some (.ref fa) →
      s₁.heap.get? a = some { cls := .type "list", data := .seq vs.toArray } → IntsAre vs ns → ns.length ≤ n → s₁.gens = #[] →
      codeAny (model l.prog w) callerA (.call (.ref fa) ⟨[.ref a], []⟩) (fun r s' => r = .ok (.ret (.bool true)) ∧ OldK s₁.heap s'.heap ∧ s'.os = s₁.os ∧ AllBare s'.gens) s₁) :
    WalkO q loose XP YP l.row.toRowW d [] (fun f vs => PySem.call f vs) := by
  intro w s₀ s₁ mg mb G Y fa o pm cd doc dV kV ho hd hcd hD hmg hg args vals as hpre hlay hrd hwl hlo
  obtain rfl : dV = .none := Dflts.none hD hdf
  obtain rfl : kV = .none := Dflts.noKw hD
  obtain ⟨a, vs, ns, rfl, rfl, hobj, hints, hlen⟩ := script_of hn hpre hwl
  refine enter_call (codeAny_mono (call w s₀ s₁ mg mb fa o pm cd doc a vs ns G Y ho (fd_plain hd) hcd hmg hobj hints hlen hg) fun r s' hq => ?_)
  obtain ⟨rfl, h2, h3, h4⟩ := hq
  exact ⟨.inl ⟨.bool true, .bool true, [], rfl, fun _ => rfl, .bool true, post_true l _, fun _ => ⟨List.Pairwise.nil, fun _ hm => (nomatch hm)⟩⟩, h2, h3, h4⟩


section
variable {prog : Program} {w : World} {A : Around} {E : Value → Shared → Prop} {s : Shared} {K : Frag}





def noObjs (h : Heap) : Heap := { h with objs := #[] }
def ledger (h : Heap) (L d : Addr) : List (Addr × Obj) := (List.range h.objs.size).filterMap fun a => if a = L ∨ a = d then none else (h.get? a).map fun o => (a, o)

end
end Att

namespace L2
open PySem PySem.Spec PyProof.Rows

theorem vals_ints : ∀ {vs : List Value} {ns : List Int}, IntsAre vs ns → Vals (ns.map V.int) vs
  | _, _, .nil => .nil
  | _, _, .cons n t h => .cons ⟨t, rfl⟩ (vals_ints h)

def Only (H : Hp) : Prop := ∀ b, H b = none ∨ ∃ o xs, H b = some (.frz o (.lst xs))

theorem law_call {P : Program} {w : World} {K : PySem.W.Frag} {mg mb : Str → Option Value} {CX : CXT} {k : Nat} {fa a : Addr} {fd : FuncData} {x : Str} {sp : Sp} {s₁ : Shared} {vs : List Value} {ns : List Int}
    (KX : K.In s₁.heap) (hns : s₁.heap.Ns mainGlobals mg) (hb : s₁.heap.Ns builtinsNs mb) (hbb : ∀ x : Str, x ≠ "__name__" → mb x = bootBuiltins x) (hlim : s₁.heap.NoLimit) (hg : s₁.gens = #[])
    (ha : s₁.heap.get? a = some { cls := .type "list", data := .seq vs.toArray }) (hi : IntsAre vs ns) (hl : ns.length ≤ sizeLine) (hr : Room k callerA)
    (F : ∀ base : Heap, K.In base → base.Ns mainGlobals mg → FnOk P w K mg base CX k fa fd [x] sp) (hbind : ∀ (s : Shared) (u : Value), BindsTo s fd ⟨[u], []⟩ [(x, u)])
    (hsp : ∀ H : Hp, Only H → SqL K H a (ns.map V.int) → sp [.ref a] H (fun v _ => v = .bl true) fun _ _ _ => False)
    (hCX : ∀ H e s', CX [] H s₁ (fun _ _ _ => False) e s' → False) :
    codeAny (model P w) callerA (.call (.ref fa) ⟨[.ref a], []⟩) (fun r s' => r = .ok (.ret (.bool true)) ∧ OldK s₁.heap s'.heap ∧ s'.os = s₁.os ∧ AllBare s'.gens) s₁ := by
  have rv := vals_ints hi
  have lenV := hi.length
  -- from an abstract heap in which nothing but the script may be tracked
  have core : ∀ H : Hp, Only H → SqL K H a (ns.map V.int) → HOk P w H s₁.heap → (∀ b, H b ≠ none → b = a) → (H a ≠ none → K.lookup a = none) →
      codeAny (model P w) callerA (.call (.ref fa) ⟨[.ref a], []⟩) (fun r s' => r = .ok (.ret (.bool true)) ∧ OldK s₁.heap s'.heap ∧ s'.os = s₁.os ∧ AllBare s'.gens) s₁ := by
    intro H hO hS hok hA hK
    have base_of : ∀ {b : Addr} {o : Obj}, s₁.heap.get? b = some o → H b = none → (hidT s₁.heap H).get? b = some o := fun e n => hidT_get e n
    have noA : ∀ {b : Addr} {o : Obj} {es : Array DictEntry} {ep : Nat}, s₁.heap.get? b = some o → o.data = .dict es ep → H b = none := fun {b o es ep} e d => by
      cases q : H b with
      | none => rfl
      | some u =>
        have e' : b = a := hA b (by rw [q]; simp)
        subst e'
        rw [ha] at e; cases e
        have d' : Data.seq vs.toArray _ = Data.dict es ep := d
        cases d'
    have nsK : ∀ {b : Addr} {m : Str → Option Value}, s₁.heap.Ns b m → (hidT s₁.heap H).Ns b m := fun {b m} ⟨o, es, ep, e, d, r⟩ => ⟨o, es, ep, base_of e (noA e d), d, r⟩
    have hKb : K.In (hidT s₁.heap H) := fun b o e => base_of (KX b o e) (by
      cases q : H b with
      | none => rfl
      | some u =>
        have e' : b = a := hA b (by rw [q]; simp)
        subst e'
        rw [hK (by rw [q]; simp)] at e; cases e)
    have hM : Mod K mg (hidT s₁.heap H) := ⟨hKb, nsK hns, ⟨mb, nsK hb, hbb⟩, let ⟨mc, h1, h2⟩ := hlim; ⟨mc, nsK h1, h2⟩⟩
    have e0 : Env0 P w K mg (hidT s₁.heap H) callerA [] s₁ H := ⟨rfl, hM, fun b o e => of_hidT e, Nat.le_of_eq (hidT_size _ _), trivial, fun b hb => absurd (show b ∈ ([] : List Addr) from hb) (by simp), hok, .of_eq hg⟩
    refine codeAny_mono ((F _ hKb (nsK hns)).run callerA [] s₁ H ⟨[.ref a], []⟩ [.ref a] [.ref a] _ _ hr e0 (hbind s₁ (.ref a)) (.cons rfl .nil) (hsp H hO hS)) fun r s' h => ?_
    cases r with
    | error e => exact (hCX H e s' h).elim
    | ok fl =>
      cases fl with
      | next => exact False.elim h
      | brk => exact False.elim h
      | cont => exact False.elim h
      | ret u =>
        obtain ⟨v, H', os, bare, un, hok', r', q⟩ := h
        have q' : v = .bl true := q
        subst q'
        obtain rfl : u = Value.bool true := r'
        refine ⟨rfl, OldK.of_keep fun b o e => ?_, os, bare⟩
        cases q : H b with
        | none => exact un.keep b o e q (by intro z; exact absurd (show b ∈ ([] : List Addr) from z) (by simp)) (by simp)
        | some u =>
          rcases hO b with z | ⟨ob, xs, z⟩
          · rw [q] at z; cases z
          · have z2 := un.frzs b ob _ z
            obtain ⟨e1, _⟩ := hok b _ z
            obtain ⟨e2, _⟩ := hok' b _ z2
            rw [e] at e1; cases e1
            exact e2
  cases hk : K.lookup a with
  | some o =>
    -- the script is one of the module's own objects
    have e := KX a o hk
    rw [ha] at e
    cases e
    refine core (fun _ => none) (fun _ => .inl rfl) (.inr ⟨_, vs.toArray, _, hk, rfl, rfl, rfl, by rw [List.size_toArray, lenV]; exact hl, by simpa using rv⟩) (fun b u z => by have z' : (none : Option HO) = some u := z; cases z') (fun b z => absurd rfl z) fun z => absurd rfl z
  | none =>
    refine core (fun b => if b = a then some (.frz { cls := .type "list", data := .seq vs.toArray } (.lst (ns.map V.int))) else none) (fun b => ?_) (.inl (.inr ⟨{ cls := .type "list", data := .seq vs.toArray }, if_pos rfl⟩)) (fun b u z => ?_) (fun b z => ?_) fun _ => hk
    · by_cases hb : b = a
      · exact .inr ⟨_, _, if_pos hb⟩
      · exact .inl (if_neg hb)
    · by_cases hb : b = a
      · have z' := (if_pos hb).symm.trans z
        cases z'
        subst hb
        exact ⟨ha, by rw [List.length_map]; exact hl, vs, _, rv, ha⟩
      · have z' := (if_neg hb).symm.trans z
        cases z'
    · by_cases hb : b = a
      · exact hb
      · exact absurd (if_neg hb) z
end L2

namespace L2
open PySem PySem.Spec PyProof.Rows

abbrev KOf {K : PySem.W.Frag} {h : Heap} (_ : K.In h) : PySem.W.Frag := K

theorem walk_of {l : PySem.W.OpenLaw} {n k : Nat} {q : Program} {loose : List Str} {XP : (Str → Option Value) → Heap → Prop} {YP : World → Heap → Prop} {d : DefRec} {K : Params → PySem.W.Frag} {CX : World → CXT} {sp : World → Sp} {x : Str}
    (hn : l.most = some n) (hn2 : n ≤ sizeLine) (hdf : d.params.defaults = []) (hr : Room k callerA)
    (hY : ∀ (w : World) (h : Heap), YP w h → (K w.params).In h)
    (F : ∀ (w : World) (mg : Str → Option Value) (fa : Addr) (h : Heap), (K w.params).In h → h.Ns mainGlobals mg → mg d.name = some (.ref fa) →
      ∃ fd : FuncData, (∀ (s : Shared) (u : Value), BindsTo s fd ⟨[u], []⟩ [(x, u)]) ∧
        ∀ base : Heap, (K w.params).In base → base.Ns mainGlobals mg → FnOk l.prog w (K w.params) mg base (CX w) k fa fd [x] (sp w))
    (hsp : ∀ (w : World) (H : Hp) (a : Addr) (ns : List Int), ns.length ≤ n → Only H → SqL (K w.params) H a (ns.map V.int) → sp w [.ref a] H (fun v _ => v = .bl true) fun _ _ _ => False)
    (hCX : ∀ (w : World) (H : Hp) (s : Shared) (e : Value) (s' : Shared), CX w [] H s (fun _ _ _ => False) e s' → False) :
    PySem.W.WalkO q loose XP YP l.row.toRowW d [] (fun f vs => PySem.call f vs) := by
  refine Att.attach_call hn hdf fun w s₀ s₁ mg mb fa o pm cd doc a vs ns G Y ho hd hcd hmg hobj hints hlen hg => ?_
  have KX := hY w _ Y
  obtain ⟨fd, hb, hF⟩ := F w mg fa _ KX G.T.g hmg
  exact law_call KX G.T.g G.T.b G.T.builtins G.T.nolimit hg hobj hints (Nat.le_trans hlen hn2) hr hF hb (fun H hO hS => hsp w H a ns hlen hO hS) fun H e s' => hCX w H s₁ e s'
theorem walk_ofK {l : PySem.W.OpenLaw} {n k : Nat} {q : Program} {loose : List Str} {XP : (Str → Option Value) → Heap → Prop} {YP : World → Heap → Prop} {d : DefRec} {K : Params → PySem.W.Frag} {CX : CXT} {sp : PySem.W.Frag → Sp} {x : Str}
    (hn : l.most = some n) (hn2 : n ≤ sizeLine) (hdf : d.params.defaults = []) (hr : Room k callerA)
    (hY : ∀ (w : World) (h : Heap), YP w h → (K w.params).In h)
    (F : ∀ (w : World) (mg : Str → Option Value) (fa : Addr) (h : Heap), (K w.params).In h → h.Ns mainGlobals mg → mg d.name = some (.ref fa) →
      ∃ fd : FuncData, (∀ (s : Shared) (u : Value), BindsTo s fd ⟨[u], []⟩ [(x, u)]) ∧
        ∀ base : Heap, (K w.params).In base → base.Ns mainGlobals mg → FnOk l.prog w (K w.params) mg base CX k fa fd [x] (sp (K w.params)))
    (hsp : ∀ (K : PySem.W.Frag) (H : Hp) (a : Addr) (ns : List Int), ns.length ≤ n → Only H → SqL K H a (ns.map V.int) → sp K [.ref a] H (fun v _ => v = .bl true) fun _ _ _ => False)
    (hCX : ∀ (H : Hp) (s : Shared) (e : Value) (s' : Shared), CX [] H s (fun _ _ _ => False) e s' → False) :
    PySem.W.WalkO q loose XP YP l.row.toRowW d [] (fun f vs => PySem.call f vs) :=
  walk_of (K := K) (CX := fun _ => CX) (sp := fun w => sp (K w.params)) hn hn2 hdf hr hY F (fun w H a ns h1 h2 h3 => hsp (K w.params) H a ns h1 h2 h3) fun _ H s e s' => hCX H s e s'
end L2

namespace L2
open PySem PySem.Spec PyProof.Rows

def inClass (s : Stmt) (j : Nat) : Stmt := match s with
  | .ClassDef _ _ _ body _ _ _ _ _ _ _ => body.getD j (.Pass ⟨0, 0, 0, 0⟩)
  | _ => .Pass ⟨0, 0, 0, 0⟩
def defArgs (s : Stmt) : Arguments := match s with
  | .FunctionDef _ a _ _ _ _ _ _ _ _ => a
  | _ => { posonlyargs := [], args := [], vararg := none, kwonlyargs := [], kw_defaults := [], kwarg := none, defaults := [] }
def defBody (s : Stmt) : List Stmt := match s with
  | .FunctionDef _ _ b _ _ _ _ _ _ _ => b
  | _ => []
def defScope (s : Stmt) : Scope := match s with
  | .FunctionDef _ _ _ _ _ _ sc _ _ _ => sc
  | _ => { kind := .function, names := [], isGenerator := false, isCoroutine := false }

abbrev CX0 : CXT := fun _ _ _ _ _ _ => False
abbrev E0 : XK := fun _ _ _ => False
theorem pass0 {X : Cx} : Passes CX0 X E0 := fun _ _ _ _ _ _ _ h => h.elim

structure Fun (K : PySem.W.Frag) (x qual : Str) (st : Stmt) (f : Addr) (fd : FuncData) : Prop where
  ex : ∃ (oc : Value) (od : Option Addr) (kV doc pm : Value) (an : Option Addr) (cdv ct : Value) (osl : Array (Option Value)),
    fd = PySem.W.fnOf x qual (defArgs st) (defBody st) (defScope st) .none kV doc pm an cdv ct ∧ K.lookup f = some ⟨oc, od, .func fd, osl⟩ ∧ PySem.W.codeIn K cdv qual = true
  kp : PySem.W.keepIn K (.ref f) = true
section
variable {P : Program} {w : World} {K : PySem.W.Frag} {mg : Str → Option Value} {base : Heap}
theorem Fun.ok {x qual : Str} {st : Stmt} {f : Addr} {fd : FuncData} {N ps : List Str} {k : Nat} {sp : Sp} (F : Fun K x qual st f fd) (S : FnScope N ps (defScope st)) (len : ∀ vs H Q E, sp vs H Q E → vs.length = ps.length)
    (hbody : ∀ (cdv : Value) (A : Around) (outer : List Env) (s : Shared) (H : Hp) (vs : List V) (Q : VK) (E : XK), Room k (A.deeper (envOfC qual (defScope st) s.heap.objs.size f cdv)) → sp vs H Q E →
      ∃ t, PSs (cxOf CX0 P w K mg base N qual (defScope st) f cdv A outer s H E).nox (defBody st) t ∧ t { nx := fun _ H' => Q .non H', rt := Q } (start N vs) H) : FnOk P w K mg base CX0 (k + 1) f fd ps sp := by
  obtain ⟨oc, od, kV, doc, pm, an, cdv, ct, osl, rfl, lk, hcd⟩ := F.ex
  refine fn_of lk hcd S len fun A outer s H vs Q E hr hsp => ?_
  obtain ⟨t, h, q⟩ := hbody cdv A outer s H vs Q E hr hsp
  exact ⟨t, h.nox, q⟩
theorem Fun.binds {x qual : Str} {st : Stmt} {f : Addr} {fd : FuncData} {ps : List Str} (F : Fun K x qual st f fd)
    (h : ∀ (kV doc pm : Value) (an : Option Addr) (cdv ct : Value) (us : List Value), us.length = ps.length → bindArgs (PySem.W.fnOf x qual (defArgs st) (defBody st) (defScope st) .none kV doc pm an cdv ct) ⟨us, []⟩ = pure (ps.zip us)) : Binds K fd ps [] := by
  obtain ⟨oc, od, kV, doc, pm, an, cdv, ct, osl, rfl, lk, hcd⟩ := F.ex
  exact .all (h kV doc pm an cdv ct)
theorem fun_mk {x qual : Str} {st : Stmt} {f : Addr} {oc : Value} {od an : Option Addr} {osl : Array (Option Value)} {kV doc pm cdv ct : Value} (l : K.lookup f = some ⟨oc, od, .func (PySem.W.fnOf x qual (defArgs st) (defBody st) (defScope st) .none kV doc pm an cdv ct), osl⟩)
    (c : PySem.W.codeIn K cdv qual = true) (k : PySem.W.keepIn K (.ref f) = true) : Fun K x qual st f (PySem.W.fnOf x qual (defArgs st) (defBody st) (defScope st) .none kV doc pm an cdv ct) := ⟨⟨oc, od, kV, doc, pm, an, cdv, ct, osl, rfl, l, c⟩, k⟩
end
theorem small1000 {n : Nat} (h : n ≤ 1000) : n < sizeLine := Nat.lt_of_le_of_lt h (by decide)

section
variable {X : Cx}
theorem pv (i : Nat) {x : Str} {pos : Pos} (hN : X.N[i]? = some x := by rfl) (hv : Vis X.env.scope x := by first | exact Or.inl rfl | exact Or.inr (Or.inl rfl) | exact Or.inr (Or.inr rfl)) (hd : (x == ("__debug__" : Str)) = false := by decide)
    (hcd : (x == ("__classdict__" : Str)) = false := by decide) : PE X (.Name x pos) (tVar i) := pe_var hN hv hd hcd
end

theorem iteF {A B : Prop} (h : B) : if false = true then A else B := by
  rw [if_neg Bool.false_ne_true]
  exact h
theorem iteT {A B : Prop} (h : A) : if true = true then A else B := by
  rw [if_pos rfl]
  exact h

def Same (H H' : Hp) : Prop := ∀ b o, H b = some o → H' b = some o
theorem Same.refl (H : Hp) : Same H H := fun _ _ h => h
theorem Same.trans {H H1 H2 : Hp} (a : Same H H1) (b : Same H1 H2) : Same H H2 := fun c o h => b c o (a c o h)
theorem Same.free {H H' : Hp} (e : Same H H') {l : Addr} (h : H' l = Option.none) : H l = Option.none := by
  cases q : H l with
  | none => rfl
  | some o =>
    rw [e l o q] at h
    cases h
theorem Same.seq {K : PySem.W.Frag} {H H' : Hp} {a : Addr} {xs : List V} (e : Same H H') (h : SqL K H a xs) : SqL K H' a xs := by
  rcases h with (h | ⟨o, h⟩) | h
  · exact .inl (.inl (e _ _ h))
  · exact .inl (.inr ⟨o, e _ _ h⟩)
  · exact .inr h

end L2


namespace L2
open PySem PySem.Spec PyProof.Rows
def CInj (acc : List (Str × Addr)) : Prop := ∀ x y c, acc.lookup x = some c → acc.lookup y = some c → x = y
theorem lookup_cons_some {α : Type} {x n : Str} {a c : α} {r : List (Str × α)} (h : List.lookup x ((n, a) :: r) = some c) : (x = n ∧ a = c) ∨ (x ≠ n ∧ r.lookup x = some c) := by
  rw [List.lookup_cons] at h
  cases hb : x == n with
  | true => rw [hb] at h; cases h; exact .inl ⟨beq_iff_eq.mp hb, rfl⟩
  | false => rw [hb] at h; exact .inr ⟨(fun z => by (rw [z, beq_self_eq_true] at hb; cases hb)), h⟩
theorem cf_ok : ∀ (names : List (Str × NameKind)) (n : Nat) (acc : List (Str × Addr)), CInj acc → (∀ x c, acc.lookup x = some c → c < n) →
    CInj (cellsFrom n names acc) ∧ ∀ x c, (cellsFrom n names acc).lookup x = some c → acc.lookup x = some c ∨ n ≤ c
  | [], _, _, hi, _ => ⟨hi, fun _ _ h => .inl h⟩
  | (y, k) :: r, n, acc, hi, hb => by
    unfold cellsFrom
    by_cases hk : (k == NameKind.cell) = true
    · rw [if_pos hk]
      have h1 : CInj ((y, n) :: acc) := fun a b c e1 e2 => by
        rcases lookup_cons_some e1 with ⟨q1, q2⟩ | ⟨q1, q2⟩ <;> rcases lookup_cons_some e2 with ⟨p1, p2⟩ | ⟨p1, p2⟩
        · rw [q1, p1]
        · exact absurd (hb _ _ p2) (by rw [← q2]; exact Nat.lt_irrefl _)
        · exact absurd (hb _ _ q2) (by rw [← p2]; exact Nat.lt_irrefl _)
        · exact hi a b c q2 p2
      have h2 : ∀ x c, List.lookup x ((y, n) :: acc) = some c → c < n + 1 := fun x c e => by
        rcases lookup_cons_some e with ⟨_, q2⟩ | ⟨_, q2⟩
        · rw [← q2]; exact Nat.lt_succ_self _
        · exact Nat.lt_succ_of_lt (hb _ _ q2)
      obtain ⟨i1, i2⟩ := cf_ok r (n + 1) ((y, n) :: acc) h1 h2
      refine ⟨i1, fun x c e => ?_⟩
      rcases i2 x c e with q | q
      · rcases lookup_cons_some q with ⟨_, q2⟩ | ⟨_, q2⟩
        · exact .inr (Nat.le_of_eq q2)
        · exact .inl q2
      · exact .inr (Nat.le_of_succ_le q)
    · rw [if_neg hk]
      exact cf_ok r n acc hi hb
theorem cf_cell : ∀ (names : List (Str × NameKind)) (h : Heap) (acc : List (Str × Addr)) (x : Str) (c : Addr), (cellsFrom h.objs.size names acc).lookup x = some c → acc.lookup x = some c ∨ (pushCells h names).IsCell c none
  | [], _, _, _, _, e => .inl e
  | (y, k) :: r, h, acc, x, c, e => by
    unfold cellsFrom at e
    unfold pushCells
    by_cases hk : (k == NameKind.cell) = true
    · rw [if_pos hk] at e ⊢
      have e' : (cellsFrom (h.push { cls := .type "cell", data := .cell none }).objs.size r ((y, h.objs.size) :: acc)).lookup x = some c := by rw [Heap.size_push]; exact e
      rcases cf_cell r (h.push { cls := .type "cell", data := .cell none }) ((y, h.objs.size) :: acc) x c e' with q | q
      · rcases lookup_cons_some q with ⟨_, q2⟩ | ⟨_, q2⟩
        · refine .inr ?_
          subst q2
          exact ⟨_, pushCells_keeps _ _ _ _ (Heap.get?_push_size _ rfl), rfl⟩
        · exact .inl q2
      · exact .inr q
    · rw [if_neg hk] at e ⊢
      exact cf_cell r h acc x c e
theorem cf_keep : ∀ (names : List (Str × NameKind)) (n : Nat) (acc : List (Str × Addr)) (x : Str), (∀ y ∈ names, y.1 = x → y.2 ≠ .cell) → (cellsFrom n names acc).lookup x = acc.lookup x
  | [], _, _, _, _ => rfl
  | (y, k) :: r, n, acc, x, h => by
    unfold cellsFrom
    by_cases hk : (k == NameKind.cell) = true
    · rw [if_pos hk, cf_keep r (n + 1) _ x fun z hz => h z (List.mem_cons_of_mem _ hz), List.lookup_cons]
      have hx : (x == y) = false := by
        cases hb : x == y with
        | false => rfl
        | true => exact absurd (by simpa using hk) (h (y, k) List.mem_cons_self (beq_iff_eq.mp hb).symm)
      rw [hx]
    · rw [if_neg hk]
      exact cf_keep r n acc x fun z hz => h z (List.mem_cons_of_mem _ hz)
def clOf (env : Env) : List (Str × NameKind) → List (Str × Addr) → List (Str × Addr)
  | [], acc => acc
  | (n, k) :: r, acc => clOf env r (if k == .free then (n, (env.cells.lookup n).getD 0) :: acc else acc)
theorem clos_go {env : Env} : ∀ (names : List (Str × NameKind)) (acc : List (Str × Addr)), (∀ x ∈ names, x.2 = .free → ∃ c, env.cells.lookup x.1 = some c) →
    (forIn names acc fun x cs => (if (x.2 == NameKind.free) = true then (do let a ← cellOf env x.1; pure (ForInStep.yield ((x.1, a) :: cs))) else pure (ForInStep.yield cs) : Sem (ForInStep (List (Str × Addr))))) = pure (clOf env names acc)
  | [], _, _ => rfl
  | (n, k) :: r, acc, h => by
    rw [List.forIn_cons]
    have hr := fun acc => clos_go r acc fun x hx => h x (List.mem_cons_of_mem _ hx)
    unfold clOf
    by_cases hk : (k == NameKind.free) = true
    · obtain ⟨c, hc⟩ := h (n, k) List.mem_cons_self (by simpa using hk)
      have hc' : env.cells.lookup n = some c := hc
      have e : cellOf env n = pure c := by unfold cellOf; rw [hc']
      simp only [hk, if_true, e, hc', Option.getD_some, pure_bind]
      exact hr _
    · simp only [hk, if_false, pure_bind]
      exact hr _
theorem closureFor_clOf {env : Env} {scope : Scope} (h : ∀ x ∈ scope.names, x.2 = .free → ∃ c, env.cells.lookup x.1 = some c) : closureFor scope env = pure (clOf env scope.names []) := by
  have := clos_go (env := env) scope.names [] h
  unfold closureFor
  simp only [bind_pure_comp]
  first | exact this | simpa using this
theorem clOf_lookup {env : Env} {x : Str} : ∀ (names : List (Str × NameKind)) (acc : List (Str × Addr)) (c : Addr), (∀ y ∈ names, y.2 = .free → ∃ c, env.cells.lookup y.1 = some c) → (clOf env names acc).lookup x = some c → acc.lookup x = some c ∨ env.cells.lookup x = some c
  | [], _, _, _, e => .inl e
  | (n, k) :: r, acc, c, h, e => by
    unfold clOf at e
    have hr := fun acc => clOf_lookup (x := x) r acc c fun y hy => h y (List.mem_cons_of_mem _ hy)
    by_cases hk : (k == NameKind.free) = true
    · rw [if_pos hk] at e
      rcases hr _ e with q | q
      · rcases lookup_cons_some q with ⟨q1, q2⟩ | ⟨_, q2⟩
        · obtain ⟨c', hc'⟩ := h (n, k) List.mem_cons_self (by simpa using hk)
          have hc2 : env.cells.lookup n = some c' := hc'
          rw [hc2] at q2
          right
          rw [q1, hc2]
          exact congrArg some q2
        · exact .inl q2
      · exact .inr q
    · rw [if_neg hk] at e
      exact hr _ e
theorem clOf_has {env : Env} {x : Str} : ∀ (names : List (Str × NameKind)) (acc : List (Str × Addr)), ((x, NameKind.free) ∈ names ∨ ∃ c, acc.lookup x = some c) → ∃ c, (clOf env names acc).lookup x = some c
  | [], _, h => h.elim (fun z => nomatch z) id
  | (n, k) :: r, acc, h => by
    unfold clOf
    refine clOf_has r _ ?_
    rcases h with h | ⟨c, h⟩
    · rcases List.mem_cons.mp h with e | h
      · cases e
        right
        rw [if_pos (by decide)]
        exact ⟨_, by rw [List.lookup_cons, beq_self_eq_true]⟩
      · exact .inl h
    · right
      split
      · rw [List.lookup_cons]
        split
        · exact ⟨_, rfl⟩
        · exact ⟨c, h⟩
      · exact ⟨c, h⟩
end L2
namespace L2
open PySem PySem.Spec PyProof.Rows
def blk (X : Cx) (N : List Str) (scope : Scope) (C : Addr) (s : Shared) (H : Hp) (fp : List Addr) : Cx where
  prog := X.prog
  w := X.w
  K := X.K
  mg := X.mg
  base := X.base
  A := X.A
  N := N
  s₀ := s
  H₀ := H
  env := { scope := relabel scope X.env, locals := C, globals := X.env.globals, cells := cellsFrom (C + 1) scope.names (clOf X.env scope.names []), qual := X.env.qual, func := none, code := X.env.code, frame := X.env.frame, builtins := X.env.builtins }
  outer := X.stack
  stack := X.stack
  ex := fp
  fn := fun x => match scope.names.lookup x with | some .cell => true | _ => false
  calm := X.calm
  pn := []
  xe := fun _ _ => False
theorem relabel_lookup {env : Env} : ∀ {names : List (Str × NameKind)} {x : Str} {k : NameKind}, (names.map fun (n, k) => if (k == NameKind.free && env.scope.kind == .function && env.kindOf n == some .cell) then (n, NameKind.cell) else (n, k)).lookup x = some k →
    ∃ k0, names.lookup x = some k0 ∧ (k = k0 ∨ k0 = .free)
  | [], _, _, h => by simp at h
  | (n, q) :: r, x, k, h => by
    rw [List.map_cons] at h
    have h' : List.lookup x ((if (q == NameKind.free && env.scope.kind == .function && env.kindOf n == some .cell) = true then (n, NameKind.cell) else (n, q)) :: _) = some k := h
    have fstn : ∀ b : Bool, (if b = true then (n, NameKind.cell) else (n, q)) = (n, if b = true then NameKind.cell else q) := fun b => by cases b <;> rfl
    rw [fstn] at h'
    rw [List.lookup_cons]
    rcases lookup_cons_some h' with ⟨e1, e2⟩ | ⟨e1, e2⟩
    · rw [e1, beq_self_eq_true]
      refine ⟨q, rfl, ?_⟩
      rw [← e2]
      by_cases hb : (q == NameKind.free && env.scope.kind == .function && env.kindOf n == some .cell) = true
      · right
        have := (Bool.and_eq_true_iff.mp (Bool.and_eq_true_iff.mp hb).1).1
        simpa using this
      · left; rw [if_neg hb]
    · have hx : (x == n) = false := by
        cases hb : x == n with
        | false => rfl
        | true => exact absurd (beq_iff_eq.mp hb) e1
      rw [hx]
      exact relabel_lookup e2
structure CScope (X : Cx) (scope : Scope) (tn : List Str) (js : List Nat) : Prop where
  kind : scope.kind = .function
  loc : ∀ x ∈ scope.names, x.2 = .local → scope.names.lookup x.1 = some .local
  fre : ∀ x ∈ scope.names, x.2 = .free → scope.names.lookup x.1 = some .free ∧ (X.env.kindOf x.1 = some .cell ∨ X.env.kindOf x.1 = some .free)
  one : ∀ x ∈ scope.names, ∀ y ∈ scope.names, x.1 = y.1 → x.2 = y.2
  js : ∀ j ∈ js, ∃ x, X.N[j]? = some x ∧ scope.names.lookup x = some .free
def cN (X : Cx) (tn : List Str) (js : List Nat) : List Str := tn ++ js.map fun j => (X.N[j]?).getD ("" : Str)
def cσ (σ : St) (tn : List Str) (js : List Nat) : St := tn.map (fun _ => none) ++ js.map fun j => (σ[j]?).getD none
theorem mem_of_lookup_kind {names : List (Str × NameKind)} {x : Str} {k : NameKind} (h : names.lookup x = some k) : (x, k) ∈ names := PySem.mem_of_lookup h
section
variable {X : Cx} {pins : List (Addr × Obj)} {σ : St} {H : Hp} {s : Shared} {scope : Scope} {tn : List Str} {js : List Nat} {fp : List Addr}
theorem has_cell (ok : X.Ok) (S : CScope X scope tn js) : ∀ x ∈ scope.names, x.2 = .free → ∃ c, X.env.cells.lookup x.1 = some c := fun x hx hf => ok.has x.1 (S.fre x hx hf).2
theorem blk_cells (ok : X.Ok) (S : CScope X scope tn js) {n : Nat} (hb : ∀ x c, X.env.cells.lookup x = some c → c < n) :
    CInj (cellsFrom n scope.names (clOf X.env scope.names [])) ∧ ∀ x c, (cellsFrom n scope.names (clOf X.env scope.names [])).lookup x = some c → X.env.cells.lookup x = some c ∨ n ≤ c := by
  have hc : ∀ x c, (clOf X.env scope.names []).lookup x = some c → X.env.cells.lookup x = some c := fun x c e => by
    rcases clOf_lookup scope.names [] c (has_cell ok S) e with q | q
    · cases q
    · exact q
  obtain ⟨h1, h2⟩ := cf_ok scope.names n (clOf X.env scope.names []) (fun x y c e1 e2 => ok.inj x y c (hc x c e1) (hc y c e2)) (fun x c e => hb x c (hc x c e))
  exact ⟨h1, fun x c e => (h2 x c e).imp (hc x c) id⟩
theorem inv_block {h4 : Heap} {m : Str → Option Value} {t' : Nat} (I : Inv X pins σ H s) (S : CScope X scope tn js) (hf : ∀ b ∈ fp, FpOk X pins H b ∧ b < s.heap.objs.size) (hns : h4.Ns s.heap.objs.size m)
    (hk : ∀ b o, s.heap.get? b = some o → h4.get? b = some o) (hcell : ∀ x c, (cellsFrom (s.heap.objs.size + 1) scope.names (clOf X.env scope.names [])).lookup x = some c → X.env.cells.lookup x = some c ∨ h4.IsCell c none) :
    Inv (blk X (cN X tn js) scope s.heap.objs.size s H fp) [] (cσ σ tn js) H { s with heap := h4, toks := t' } := by
  have hlt : ∀ x c, X.env.cells.lookup x = some c → c < s.heap.objs.size + 1 := fun x c e => by
    obtain ⟨v, q⟩ := I.cell x c e
    exact Nat.lt_succ_of_lt q.lt
  obtain ⟨hinj, hcs⟩ := blk_cells I.ok S hlt
  have hC : H s.heap.objs.size = none := I.hok.fresh (Nat.le_refl _)
  refine ⟨⟨I.ok.mod, S.kind, I.ok.glob, I.ok.blt, Nat.le_refl _, hinj, fun x hx => ?_, fun x c hx e => ?_, I.ok.hd, I.ok.frames, .inl rfl, fun b hb => ⟨Nat.ne_of_lt (hf b hb).2, fun x c e z => ?_⟩, I.bs, Nat.le_trans I.ok.bsz I.sz, fun b o e hb => ?_, fun b hb z => ?_, I.stack, I.stkFree⟩,
    rfl, I.bare, Un.kept hk, ⟨m, hns, fun i x v h1 h2 h3 => ?_⟩, fun x c e => ?_, hC, fun x c e => ?_, (fun p hp => nomatch hp), I.hok.kept hk, ?_⟩
  · -- has
    have hx' : (relabel scope X.env).names.lookup x = some .cell ∨ (relabel scope X.env).names.lookup x = some .free := hx
    have own : scope.names.lookup x = some .cell → ∃ c, (cellsFrom (s.heap.objs.size + 1) scope.names (clOf X.env scope.names [])).lookup x = some c := fun q =>
      Option.isSome_iff_exists.mp (PySem.W.cellsFrom_some scope.names _ _ (.inl q))
    have fre : scope.names.lookup x = some .free → ∃ c, (cellsFrom (s.heap.objs.size + 1) scope.names (clOf X.env scope.names [])).lookup x = some c := fun q =>
      Option.isSome_iff_exists.mp (PySem.W.cellsFrom_some scope.names _ _ (.inr (Option.isSome_iff_exists.mpr (clOf_has scope.names [] (.inl (mem_of_lookup_kind q))))))
    rcases hx' with q | q
    · obtain ⟨k0, q1, q2⟩ := relabel_lookup q
      rcases q2 with q2 | q2
      · subst q2; exact own q1
      · subst q2; exact fre q1
    · obtain ⟨k0, q1, q2⟩ := relabel_lookup q
      rcases q2 with q2 | q2
      · subst q2; exact fre q1
      · subst q2; exact fre q1
  · -- cab
    rcases hcs x c e with q | q
    · exfalso
      have hx' : (match scope.names.lookup x with | some .cell => true | _ => false) = true := hx
      split at hx'
      · rename_i hl
        -- an own cell is new
        have hb : ∀ y c', (clOf X.env scope.names []).lookup y = some c' → c' < s.heap.objs.size + 1 := fun y c' e' => by
          rcases clOf_lookup scope.names [] c' (has_cell I.ok S) e' with z | z
          · cases z
          · exact hlt y c' z
        have nof : (clOf X.env scope.names []).lookup x = none := by
          cases z : (clOf X.env scope.names []).lookup x with
          | none => rfl
          | some c' =>
            exfalso
            have mem : ∀ (names : List (Str × NameKind)) (acc : List (Str × Addr)), (∃ c', (clOf X.env names acc).lookup x = some c') → (x, NameKind.free) ∈ names ∨ ∃ c', acc.lookup x = some c' := by
              intro names
              induction names with
              | nil => exact fun acc z => .inr z
              | cons p r ih =>
                obtain ⟨n, k⟩ := p
                intro acc z
                unfold clOf at z
                rcases ih _ z with z | ⟨c', z⟩
                · exact .inl (List.mem_cons_of_mem _ z)
                · split at z
                  · rename_i hk
                    rcases lookup_cons_some z with ⟨e1, _⟩ | ⟨_, e2⟩
                    · left
                      have : k = NameKind.free := by simpa using hk
                      rw [e1, this]; exact List.mem_cons_self
                    · exact .inr ⟨c', e2⟩
                  · exact .inr ⟨c', z⟩
            rcases mem scope.names [] ⟨c', z⟩ with z | ⟨_, z⟩
            · have := S.one _ z _ (mem_of_lookup_kind hl) rfl
              cases this
            · cases z
        have hh := cf_ok scope.names (s.heap.objs.size + 1) (clOf X.env scope.names []) (fun a b c' e1 e2 => by
          rcases clOf_lookup scope.names [] c' (has_cell I.ok S) e1 with z | z
          · cases z
          · rcases clOf_lookup scope.names [] c' (has_cell I.ok S) e2 with z' | z'
            · cases z'
            · exact I.ok.inj a b c' z z') hb
        rcases hh.2 x c e with z | z
        · rw [nof] at z; cases z
        · exact absurd (hlt x c q) (Nat.not_lt.mpr z)
      · cases hx'
    · exact Nat.le_of_succ_le q
  · -- exf
    obtain ⟨⟨f0, f1, f2, f3, f4, f5⟩, hbl⟩ := hf b hb
    rcases hcs x c e with q | q
    · exact f4 x c q z
    · rw [z] at q; exact absurd hbl (Nat.not_lt.mpr (Nat.le_of_succ_le q))
  · -- noex
    obtain ⟨⟨f0, f1, f2, f3, f4, f5⟩, hbl⟩ := hf b hb
    rcases f3 with q | q
    · exact I.ok.noex b o e q
    · exact absurd (Nat.lt_of_lt_of_le (Heap.lt_size e) (Nat.le_trans I.ok.bsz q)) (Nat.lt_irrefl _)
  · -- exfs
    obtain ⟨⟨f0, f1, f2, f3, f4, f5⟩, hbl⟩ := hf b hb
    rcases List.mem_cons.mp (I.stkSub b z) with q | q
    · exact f1 q
    · exact f2 q
  · -- the names
    have h2' : (cσ σ tn js)[i]? = some (some v) := h2
    have h1' : (cN X tn js)[i]? = some x := h1
    unfold cσ at h2'
    unfold cN at h1'
    by_cases hi : i < tn.length
    · rw [List.getElem?_append_left (by simpa using hi), List.getElem?_map] at h2'
      cases q : tn[i]? with
      | none => rw [q] at h2'; cases h2'
      | some y => rw [q] at h2'; cases h2'
    · rw [List.getElem?_append_right (by simpa using hi), List.getElem?_map, List.length_map] at h2'
      rw [List.getElem?_append_right (by simpa using hi), List.getElem?_map] at h1'
      cases q : js[i - tn.length]? with
      | none => rw [q] at h2'; cases h2'
      | some j =>
        rw [q] at h2' h1'
        obtain ⟨y, hy1, hy2⟩ := S.js j (List.mem_of_getElem? q)
        have exy : y = x := by
          have : some ((X.N[j]?).getD ("" : Str)) = some x := h1'
          rw [hy1] at this
          exact Option.some.inj this
        subst exy
        have hv : σ[j]? = some (some v) := by
          have : some ((σ[j]?).getD none) = some (some v) := h2'
          cases z : σ[j]? with
          | none => rw [z] at this; cases this
          | some o => rw [z] at this; exact congrArg some (Option.some.inj this)
        have kfr := (S.fre _ (mem_of_lookup_kind hy2) rfl).2
        have vis : Vis X.env.scope y := kfr.elim (fun z => .inr (.inl z)) fun z => .inr (.inr z)
        obtain ⟨m0, hn0, hl0⟩ := I.loc
        obtain ⟨u, ru, lk⟩ := hl0 j y v hy1 hv vis
        refine ⟨u, ru, .inr ⟨?_, ?_⟩⟩
        · have h3' : (relabel scope X.env).names.lookup y = some .local ∨ (relabel scope X.env).names.lookup y = some .cell ∨ (relabel scope X.env).names.lookup y = some .free := h3
          rcases h3' with z | z | z
          · obtain ⟨k0, z1, z2⟩ := relabel_lookup z
            rw [hy2] at z1; cases z1
            rcases z2 with z2 | z2
            · cases z2
            · exfalso
              -- free is relabelled to cell or stays
              have := z
              have nolocal : ∀ {names : List (Str × NameKind)}, (∀ p ∈ names, p.1 = y → p.2 = .free) → (names.map fun (n, k) => if (k == NameKind.free && X.env.scope.kind == .function && X.env.kindOf n == some .cell) then (n, NameKind.cell) else (n, k)).lookup y ≠ some .local := by
                intro names
                induction names with
                | nil => intro _ w; simp at w
                | cons p r ih =>
                  obtain ⟨n, k⟩ := p
                  intro hp w
                  rw [List.map_cons] at w
                  have w' : List.lookup y ((if (k == NameKind.free && X.env.scope.kind == .function && X.env.kindOf n == some .cell) = true then (n, NameKind.cell) else (n, k)) :: _) = some .local := w
                  have fstn : ∀ b : Bool, (if b = true then (n, NameKind.cell) else (n, k)) = (n, if b = true then NameKind.cell else k) := fun b => by cases b <;> rfl
                  rw [fstn] at w'
                  rcases lookup_cons_some w' with ⟨e1, e2⟩ | ⟨e1, e2⟩
                  · have hk : k = .free := hp (n, k) List.mem_cons_self e1.symm
                    subst hk
                    split at e2 <;> cases e2
                  · exact ih (fun p hp' => hp p (List.mem_cons_of_mem _ hp')) e2
              exact nolocal (fun p hp e => S.one p hp _ (mem_of_lookup_kind hy2) e) z
          · exact .inl z
          · exact .inr z
        · have lk' : ∃ c, X.env.cells.lookup y = some c ∧ s.heap.IsCell c (some u) := by
            rcases lk with ⟨z, _⟩ | ⟨_, z⟩
            · exfalso
              rcases kfr with q | q
              · rw [q] at z; cases z
              · rw [q] at z; cases z
            · exact z
          obtain ⟨c, hc1, hc2⟩ := lk'
          refine ⟨c, ?_, hc2.keeps hk⟩
          show (cellsFrom (s.heap.objs.size + 1) scope.names (clOf X.env scope.names [])).lookup y = some c
          rw [cf_keep scope.names _ _ y fun p hp e => by (rw [S.one p hp _ (mem_of_lookup_kind hy2) e]; intro z; cases z)]
          obtain ⟨c', hc'⟩ := clOf_has (env := X.env) scope.names [] (.inl (mem_of_lookup_kind hy2))
          rcases clOf_lookup scope.names [] c' (has_cell I.ok S) hc' with z | z
          · cases z
          · rw [hc1] at z; cases z; exact hc'
  · -- cells are there
    rcases hcell x c e with q | q
    · obtain ⟨v, z⟩ := I.cell x c q
      exact ⟨v, z.keeps hk⟩
    · exact ⟨none, q⟩
  · -- and free
    rcases hcs x c e with q | q
    · exact I.freeC x c q
    · exact I.hok.fresh (Nat.le_of_succ_le q)
  · show (cσ σ tn js).length = (cN X tn js).length
    unfold cσ cN
    simp
end
end L2
namespace L2
open PySem PySem.Spec PyProof.Rows
section
variable {M : Model} {A : Around} {E : Value → Shared → Prop} {s : Shared}
theorem newEnv_comp {scope : Scope} {globals : Addr} {cl : List (Str × Addr)} {qual : Str} {env : Env} {Q : Env → Shared → Prop}
    (hQ : ∀ h', h'.Ns s.heap.objs.size (fun _ => none) → (∀ b o, s.heap.get? b = some o → h'.get? b = some o) → (∀ x c, (cellsFrom (s.heap.objs.size + 1) scope.names cl).lookup x = some c → cl.lookup x = some c ∨ h'.IsCell c none) →
      Q { scope, locals := s.heap.objs.size, globals, cells := cellsFrom (s.heap.objs.size + 1) scope.names cl, qual, func := none, code := env.code, frame := env.frame, builtins := env.builtins } { s with heap := h' }) :
    wpAny M A (newFunctionEnv scope globals cl [] qual none .none (some env)) Q E s := by
  simp only [newFunctionEnv, Option.isSome_some, if_true]
  refine wpAny_bind (wpAny_alloc ?_)
  refine wpAny_bind (wpAny_layCells _ (fun name kind cells => by cases hkc : kind == NameKind.cell <;> simp [hkc]) _ _ _ _ ?_)
  rw [show ({ s with heap := s.heap.push { cls := .type "dict", data := .dict #[] } } : Shared).heap.objs.size = s.heap.objs.size + 1 from Heap.size_push ..]
  refine wpAny_bind ?_
  rw [List.forIn_nil]
  refine wpAny_pure (wpAny_pure ?_)
  refine hQ _ ((Heap.Ns.new s.heap (.type "dict")).keeps (pushCells_keeps _ _)) (fun b o e => pushCells_keeps _ _ b o (Heap.get?_push_of_some _ e)) fun x c e => ?_
  refine cf_cell scope.names _ cl x c ?_
  rw [Heap.size_push]; exact e
end
section
variable {prog : Program} {w : World} {A : Around} {R : Result → Shared → Prop} {s : Shared}
theorem comp_loop {elt target iter : Expr} {ifs : List Expr} {scope : Scope} {pos : Pos} {it acc : Value} {env : Env} (I : Nat → Shared → Prop)
    (turn : ∀ n s, I n s → wpAny (model prog w) A (pyNext it) (fun r s₁ => match r with
      | none => R (.ok .next) s₁
      | some v => wpAny (model prog w) A (letOwnedTupleGo target it v) (fun _ s₂' => wpAny (model prog w) A (assign target env v) (fun _ s₂ =>
          wpAny (model prog w) A (forIn ifs true fun c r => if r = true then do let ok ← isTrue c env (eval c env); pure (ForInStep.yield ok) else pure (ForInStep.yield r)) (fun ok s₃ =>
            if ok = true then wpAny (model prog w) A (eval elt env) (fun x s₄ =>
              wpAny (model prog w) A (call (.builtin "list.append") [acc, x]) (fun _ s₅ => ∃ m, m < n ∧ I m s₅) (fun _ _ => False) s₄) (fun _ _ => False) s₃
            else ∃ m, m < n ∧ I m s₃) (fun _ _ => False) s₂) (fun _ _ => False) s₂') (fun _ _ => False) s₁) (fun _ _ => False) s)
    (n : Nat) (h : I n s) :
    codeAny (model prog w) A (.compLoop (.ListComp elt [⟨target, iter, ifs, 0⟩] scope pos) 0 it acc env) R s := by
  refine codeAny_loop rfl I (fun n s hI => ?_) n h
  show wpAny _ A ((compTurn (.ListComp elt [⟨target, iter, ifs, 0⟩] scope pos) 0 it acc env).onRaise (fun x => do noteFrame x env; theTreesLotGoes x)) _ _ s
  refine wpAny_noted ?_
  rw [compTurn_list]
  refine wpAny_bind (wpAny_standAt (wpAny_bind (wpAny_mono (turn n s hI) (fun r s₁ h₁ => ?_) fun _ _ z => z.elim)))
  cases r with
  | none => exact wpAny_pure h₁
  | some v =>
    refine wpAny_bind (wpAny_mono h₁ (fun _ s₂' h₂' => ?_) fun _ _ z => z.elim)
    refine wpAny_bind (wpAny_mono h₂' (fun _ s₂ h₂ => wpAny_bind (wpAny_mono h₂ (fun ok s₃ h₃ => ?_) fun _ _ z => z.elim)) fun _ _ z => z.elim)
    cases ok with
    | false => exact wpAny_pure ⟨rfl, h₃⟩
    | true =>
      exact wpAny_bind (wpAny_bind (wpAny_mono h₃ (fun x s₄ h₄ => wpAny_bind (wpAny_mono h₄ (fun _ s₅ h₅ => wpAny_pure (wpAny_pure ⟨rfl, h₅⟩)) fun _ _ z => z.elim)) fun _ _ z => z.elim))
end
def PF (X : Cx) (ifs : List Expr) (t : TT) : Prop :=
  ∀ (pins : List (Addr × Obj)) (s : Shared) (σ : St) (H : Hp) (Q : Bool → Hp → Prop), Inv X pins σ H s → t σ H Q →
    wpAny (model X.prog X.w) X.A (forIn ifs true fun c r => if r = true then do let ok ← isTrue c X.env (eval c X.env); pure (ForInStep.yield ok) else pure (ForInStep.yield r)) (TP X pins σ Q) X.xe s
theorem pf_nil {X : Cx} : PF X [] (fun _ H Q => Q true H) := fun pins s σ H Q I q => wpAny_tests_nil ⟨H, I, q⟩
theorem pf_one {X : Cx} {c : Expr} {t : TT} (h : PT X c t) : PF X [c] t := fun pins s σ H Q I q => wpAny_tests_one (h pins s σ H Q I q)
def KeepC (σ : St) (tn : List Str) (js : List Nat) (σ' : St) : Prop := (∀ (j : Nat) (v : V), tn.length ≤ j → (cσ σ tn js)[j]? = some (some v) → σ'[j]? = some (some v)) ∧ σ'.length = (cσ σ tn js).length
def tLC (wi : TI) (tn : List Str) (js : List Nat) (g : TG) (tt : TT) (te : TE) : TE := fun σ H Q => wi σ H fun J H1 => ∀ D, H1 D = none → ∃ W : Nat → Nat → Hp → List V → Prop, (∃ m, W 0 m (upd H1 D (.lst [])) []) ∧
  ∀ i m H xs, W i m H xs → H D = some (.lst xs) ∧ ((J.stop i H ∧ Q (.ref D) H) ∨ (J.go i H ∧ ∀ x H', J.yld i H x H' → g x (cσ σ tn js) H' fun σ2 H2 => KeepC σ tn js σ2 ∧ tt σ2 H2 fun ok H3 =>
    if ok = true then te σ2 H3 fun y H4 => H4 D = some (.lst xs) ∧ xs.length < sizeLine ∧ ∃ m', m' < m ∧ W (i + 1) m' (upd H4 D (.lst (xs ++ [y]))) (xs ++ [y])
    else ∃ m', m' < m ∧ W (i + 1) m' H3 xs))
section
variable {X : Cx} {pins : List (Addr × Obj)} {σ : St} {H : Hp} {s : Shared} {scope : Scope} {tn : List Str} {js : List Nat} {elt target iter : Expr} {ifs : List Expr} {pos : Pos} {wi : TI} {g : TG} {tt : TT} {te : TE}
theorem comp_core {Q : VK} {RR : Value → Addr → Result → Shared → Prop} (S : CScope X scope tn js) (hc : X.calm = true) (hi : PI X target iter wi)
    (hb : ∀ C s H fp, PG (blk X (cN X tn js) scope C s H fp) target g ∧ PF (blk X (cN X tn js) scope C s H fp) ifs tt ∧ PE (blk X (cN X tn js) scope C s H fp) elt te)
    (I : Inv X pins σ H s) (h : tLC wi tn js g tt te σ H Q)
    (hRR : ∀ D C s' H' oC m, Inv X (pins ++ [(C, oC)]) σ H' s' → s'.heap.get? C = some oC → s'.heap.Ns C m → X.s₀.heap.objs.size ≤ C → C ≠ X.env.locals → (∀ x c, X.env.cells.lookup x = some c → c ≠ C) → (∀ p ∈ X.pn ++ pins, p.1 ≠ C) → Q (.ref D) H' → RR (.ref D) C (.ok .next) s') :
    wpAny (model X.prog X.w) X.A (eval iter X.env) (fun x s₁ => wpAny (model X.prog X.w) X.A (pyIter x) (fun it s₂ => wpAny (model X.prog X.w) X.A (newList []) (fun acc s₃ =>
      wpAny (model X.prog X.w) X.A (newFunctionEnv scope X.env.globals (clOf X.env scope.names []) [] X.env.qual none .none (some X.env)) (fun cenv s₄ =>
        codeAny (model X.prog X.w) X.A (.compStart (.ListComp elt [⟨target, iter, ifs, 0⟩] scope pos) 0 it acc { cenv with scope := relabel scope X.env }) (RR acc cenv.locals) s₄) X.xe s₃) X.xe s₂) X.xe s₁) X.xe s := by
  refine thn (hi pins s σ H _ I h) fun v s1 h1 => thn h1 fun itv s2 h2 => ?_
  obtain ⟨it, fp, tnn, J, H2, e, I2, T, st2, f2, hJ⟩ := h2
  subst e
  refine wpAny_newList ?_
  have D0 : H2 s2.heap.objs.size = none := I2.hok.fresh (Nat.le_refl _)
  obtain ⟨W, ⟨m0, w0⟩, turn⟩ := hJ s2.heap.objs.size D0
  have I3 : Inv X pins σ (upd H2 s2.heap.objs.size (.lst [])) { s2 with heap := s2.heap.push { cls := .type "list", data := .seq ([] : List Value).toArray }, toks := s2.toks } := I2.lnew .nil (Nat.zero_le _)
  generalize hs3 : ({ s2 with heap := s2.heap.push { cls := .type "list", data := .seq ([] : List Value).toArray }, toks := s2.toks } : Shared) = s3 at I3
  have s3s : s3.heap.objs.size = s2.heap.objs.size + 1 := by rw [← hs3]; exact Heap.size_push ..
  have k23 : ∀ b o, s2.heap.get? b = some o → s3.heap.get? b = some o := fun b o e => by rw [← hs3]; exact Heap.get?_push_of_some _ e
  have u23 : Un (frs X.stack) fp H2 (upd H2 s2.heap.objs.size (.lst [])) s2.heap s3.heap := Un.laid k23 (Nat.le_refl _) D0
  generalize hH3 : upd H2 s2.heap.objs.size (.lst []) = H3 at I3 u23 w0
  generalize hD : s2.heap.objs.size = D at *
  have fpl : ∀ b ∈ fp, b < D := fun b hb => by
    obtain ⟨o, e, _⟩ := T.obj 0 _ st2 b hb
    rw [← hD]; exact Heap.lt_size e
  have f3 : ∀ b ∈ fp, FpOk X pins H3 b ∧ b < s3.heap.objs.size := fun b hb => by
    obtain ⟨q0, q⟩ := f2 b hb
    refine ⟨⟨?_, q⟩, by have := fpl b hb; rw [s3s]; exact Nat.lt_succ_of_lt this⟩
    rw [← hH3, upd_ne (Nat.ne_of_lt (fpl b hb))]; exact q0
  refine newEnv_comp fun h4 hns hk hcell => ?_
  have cl0 : ∀ x c, (clOf X.env scope.names []).lookup x = some c → X.env.cells.lookup x = some c := fun x c e => by
    rcases clOf_lookup scope.names [] c (has_cell I.ok S) e with q | q
    · cases q
    · exact q
  have I4 : Inv (blk X (cN X tn js) scope s3.heap.objs.size s3 H3 fp) [] (cσ σ tn js) H3 { s3 with heap := h4, toks := s3.toks } := inv_block I3 S f3 hns hk fun x c e => (hcell x c e).imp (cl0 x c) id
  have st4 : tnn 0 h4 := T.keep 0 _ _ st2 fun b hb o e => hk b o (k23 b o e)
  have fpk : ∀ {H' : Hp}, (∀ b ∈ fp, H' b = none) → ∀ b ∈ fp, FpOk (blk X (cN X tn js) scope s3.heap.objs.size s3 H3 fp) [] H' b := fun hn b hb => by
    obtain ⟨⟨q0, q1, q2, q3, q4, q5⟩, ql⟩ := f3 b hb
    refine ⟨hn b hb, Nat.ne_of_lt ql, fun z => ?_, .inl hb, fun x c e z => ?_, fun p hp => nomatch hp⟩
    · rcases List.mem_cons.mp (I3.stkSub b z) with q | q
      · exact q1 q
      · exact q2 q
    · exact (I4.ok.exf b hb).2 x c e z
  have loop : codeAny (model X.prog X.w) X.A (.compLoop (.ListComp elt [⟨target, iter, ifs, 0⟩] scope pos) 0 (.ref it) (.ref D) (blk X (cN X tn js) scope s3.heap.objs.size s3 H3 fp).env) (RR (.ref D) s3.heap.objs.size) { s3 with heap := h4, toks := s3.toks } := by
    refine comp_loop (fun n s' => ∃ i σ' H' xs, Inv (blk X (cN X tn js) scope s3.heap.objs.size s3 H3 fp) [] σ' H' s' ∧ tnn i s'.heap ∧ (∀ b ∈ fp, H' b = none) ∧ W i n H' xs ∧ KeepC σ tn js σ') ?_ m0
      ⟨0, _, H3, [], I4, st4, fun b hb => (f3 b hb).1.1, w0, fun _ _ _ z => z, rfl⟩
    rintro n s5 ⟨i, σ5, H5, xs, I5, st5, fr5, w5, kσ, lσ⟩
    -- the state with the targets forgotten
    have I5' : Inv (blk X (cN X tn js) scope s3.heap.objs.size s3 H3 fp) [] (cσ σ tn js) H5 s5 := I5.weak lσ.symm fun j v e => by
      by_cases hj : tn.length ≤ j
      · exact kσ j v hj e
      · exfalso
        unfold cσ at e
        rw [List.getElem?_append_left (by simpa using Nat.lt_of_not_le hj), List.getElem?_map] at e
        cases q : tn[j]? with
        | none => rw [q] at e; cases e
        | some y => rw [q] at e; cases e
    obtain ⟨hDx, hturn⟩ := turn i n H5 xs w5
    rcases hturn with ⟨stop, q⟩ | ⟨go, step⟩
    · refine thn (T.done (blk X (cN X tn js) scope s3.heap.objs.size s3 H3 fp) rfl rfl rfl hc i [] s5 _ H5 (fun _ _ => False) I5' (fpk fr5) st5 stop) fun r s6 ⟨hr, I6⟩ => ?_
      subst hr
      -- back to the def's own state
      have u36 : Un (frs X.stack) fp H3 H5 s3.heap s6.heap := I6.base
      have u26 : Un (frs X.stack) fp H2 H5 s2.heap s6.heap := u23.trans u36
      have I6X : Inv X pins σ H5 s6 := I2.call' (I6.os.trans (show s3.os = s2.os by rw [← hs3])) u26 I6.hok I6.bare fun b hb => ⟨(f2 b hb).2.2.2.1, (f2 b hb).2.1, (f2 b hb).2.2.2.2.1, (f2 b hb).2.2.2.2.2⟩
      obtain ⟨mm, hnn, _⟩ := I6.loc
      obtain ⟨oC, es, ep, hoC, rC⟩ := id hnn
      have Cge : D ≤ s3.heap.objs.size := by rw [s3s]; exact Nat.le_succ _
      have lt2 : ∀ {b : Addr} {o : Obj}, s2.heap.get? b = some o → b ≠ s3.heap.objs.size := fun e z => absurd (Heap.lt_size e) (Nat.not_lt.mpr (by rw [hD, z]; exact Cge))
      have cC : ∀ x c, X.env.cells.lookup x = some c → c ≠ s3.heap.objs.size := fun x c e z => by
        obtain ⟨v, o, q1, _⟩ := I2.cell x c e
        exact lt2 q1 z
      have pC : ∀ p ∈ X.pn ++ pins, p.1 ≠ s3.heap.objs.size := fun p hp => lt2 (I2.pin p hp).1
      have lC : s3.heap.objs.size ≠ X.env.locals := fun z => by
        have := I2.lt
        rw [hD, ← z] at this
        exact absurd this (Nat.not_lt.mpr Cge)
      refine hRR D s3.heap.objs.size s6 H5 oC mm (I6X.pins_of fun p hp => ?_) hoC hnn (Nat.le_trans I2.sz (by rw [hD]; exact Cge)) lC cC pC q
      rcases List.mem_append.mp hp with hp | hp
      · exact I6X.pin p (List.mem_append_right _ hp)
      · have : p = (s3.heap.objs.size, oC) := by simpa using hp
        subst this
        refine ⟨hoC, I6.free, lC, fun z => ?_, fun v z => ?_⟩
        · have := I2.ok.funs.mem z
          have hz := I2.funs.mem z
          obtain ⟨_, o, hz, _⟩ := hz
          exact lt2 hz rfl
        · have := rC.1
          rw [z] at this; cases this
    · refine thn (T.item (blk X (cN X tn js) scope s3.heap.objs.size s3 H3 fp) rfl rfl rfl hc i [] s5 _ H5 (fun _ _ => False) I5' (fpk fr5) st5 go) fun r s6 ⟨u, hr, h6⟩ => ?_
      subst hr
      refine thn h6 fun _ s7 ⟨x, H7, I7, r7, y7, st7, fr7⟩ => ?_
      have I7' := I7.pinned (fpk fr7) (T.obj _ _ st7)
      refine thn ((hb s3.heap.objs.size s3 H3 fp).1 _ s7 _ H7 x u _ I7' r7 (step x H7 y7)) fun _ s8 ⟨σ8, H8, I8, kc8, q8⟩ => ?_
      -- what the pins say of the iterator, later
      have again : ∀ {σ' : St} {H' : Hp} {s' : Shared} {xs' : List V} {m' : Nat}, Inv (blk X (cN X tn js) scope s3.heap.objs.size s3 H3 fp) ([] ++ pinsAt fp s7.heap) σ' H' s' → m' < n → W (i + 1) m' H' xs' → KeepC σ tn js σ' →
          ∃ m, m < n ∧ ∃ i σ' H' xs, Inv (blk X (cN X tn js) scope s3.heap.objs.size s3 H3 fp) [] σ' H' s' ∧ tnn i s'.heap ∧ (∀ b ∈ fp, H' b = none) ∧ W i m H' xs ∧ KeepC σ tn js σ' := fun {σ' H' s' xs' m'} I' hm w' k' => by
        refine ⟨m', hm, i + 1, σ', H', xs', I'.unpinned, T.keep _ _ _ st7 fun b hb o e => (I'.pin (b, o) (List.mem_append_right _ (List.mem_append_right _ (mem_pinsAt hb e)))).1, fun b hb => ?_, w', k'⟩
        obtain ⟨o, e, d⟩ := T.obj _ _ st7 b hb
        exact (I'.pin (b, o) (List.mem_append_right _ (List.mem_append_right _ (mem_pinsAt hb e)))).2.1
      refine thn ((hb s3.heap.objs.size s3 H3 fp).2.1 _ s8 σ8 H8 _ I8 q8) fun ok s9 ⟨H9, I9, q9⟩ => ?_
      cases ok with
      | false =>
        have q9' : ∃ m', m' < n ∧ W (i + 1) m' H9 xs := by
          have z := q9
          rw [if_neg Bool.false_ne_true] at z
          exact z
        obtain ⟨m', hm, w9⟩ := q9'
        exact again I9 hm w9 kc8
      | true =>
        rw [if_pos rfl] at q9 ⊢
        refine thn ((hb s3.heap.objs.size s3 H3 fp).2.2 _ s9 σ8 H9 _ I9 q9) fun yv s10 ⟨y, H10, I10, r10, hD10, hz, m', hm, w10⟩ => ?_
        exact thn (mt_append _ s10 σ8 H10 (.ref D) [y] (.ref D) [yv] (fun _ H' => H' = upd H10 D (.lst (xs ++ [y]))) I10 rfl (.cons r10 .nil) ⟨D, xs, y, rfl, rfl, hD10, hz, rfl⟩) fun _ s11 ⟨_, H11, I11, _, e11⟩ => by
          subst e11
          exact again I11 hm w10 kc8
  exact codeAny_compStart_list loop (T.self _ 0 _ _ _ st4 loop)
theorem pe_lc (S : CScope X scope tn js) (hc : X.calm = true) (hi : PI X target iter wi)
    (hb : ∀ C s H fp, PG (blk X (cN X tn js) scope C s H fp) target g ∧ PF (blk X (cN X tn js) scope C s H fp) ifs tt ∧ PE (blk X (cN X tn js) scope C s H fp) elt te)
    (hs : ∀ x, foldedSetIterable iter X.env x = pure x := by intro _; rfl) : PE X (.ListComp elt [⟨target, iter, ifs, 0⟩] scope pos) (tLC wi tn js g tt te) := by
  intro pins s σ H Q I h
  rw [eval_ListComp]
  refine wpAny_comprehension_free (use := none) rfl hs (closureFor_clOf (has_cell I.ok S)) S.kind S.loc ?_
  refine comp_core (RR := fun acc C => compPost (model X.prog X.w) X.A X.xe none (EP X pins σ Q) acc C) S hc hi hb I h ?_
  intro D C s' H' oC m I' hoC hn h1 h2 h3 h4 q
  refine ⟨m, hn, fun h' sb => ⟨.ref D, H', ?_, rfl, q⟩⟩
  have I2 : Inv X pins σ H' s' := I'.pins_of fun p hp => I'.pin p (List.mem_append_right _ (List.mem_append_left _ hp))
  exact I2.turned (t' := s'.toks) (fun b o hb e => sb.extBut b o hb e) (I'.pin (C, oC) (List.mem_append_right _ (List.mem_append_right _ (by simp)))).2.1 (Ne.symm (Ne.symm h2)) (.inr h1) h3 h4
theorem ps_setLC {i : Nat} {y : Str} {py spos : Pos} (hN : X.N.Nodup) (hiN : X.N[i]? = some y) (hy : Loc X.env.scope y) (hf : X.fn y = true ∨ X.env.scope.names.lookup y = some .local) (S : CScope X scope tn js) (hc : X.calm = true) (hi : PI X target iter wi)
    (hb : ∀ C s H fp, PG (blk X (cN X tn js) scope C s H fp) target g ∧ PF (blk X (cN X tn js) scope C s H fp) ifs tt ∧ PE (blk X (cN X tn js) scope C s H fp) elt te)
    (hsw : swapsWith (.ListComp elt [⟨target, iter, ifs, 0⟩] scope pos) (some (.Name y py)) spos.line X.env = pure true)
    (hs : ∀ x, foldedSetIterable iter X.env x = pure x := by intro _; rfl) : PS X (.Assign [.Name y py] (.ListComp elt [⟨target, iter, ifs, 0⟩] scope pos) spos) (fun D σ H => tLC wi tn js g tt te σ H fun v H1 => D.nx (σ.set i (some v)) H1) := by
  intro pins s σ H De I h
  rw [exec_Assign_Name_used _ _ _ _ hsw]
  refine wpAny_bind (wpAny_standAt (wpAny_bind ?_))
  show wpAny _ X.A (do let _ ← comprehension (.ListComp elt [⟨target, iter, ifs, 0⟩] scope pos) scope X.env _ (newList []) false (eval iter X.env) (some (assign (.Name y py) X.env))) _ _ s
  refine wpAny_bind (wpAny_mono (wpAny_comprehension_free (use := some (assign (.Name y py) X.env)) (Q := fun _ s' => SP X pins De .next s') rfl hs (closureFor_clOf (has_cell I.ok S)) S.kind S.loc ?_) (fun _ s' hq => wpAny_pure (wpAny_pure hq)) fun _ _ e => e)
  refine comp_core (RR := fun acc C => compPost (model X.prog X.w) X.A X.xe (some (assign (.Name y py) X.env)) (fun _ s' => SP X pins De .next s') acc C) S hc hi hb I h ?_
  intro D C s' H' oC m I' hoC hn h1 h2 h3 h4 q
  show wpAny _ X.A (assign (.Name y py) X.env (.ref D)) _ _ _
  refine thn (pg_name (pos := py) hN hiN hy hf _ s' σ H' (.ref D) (.ref D) (fun σ2 H2 => σ2 = σ.set i (some (.ref D)) ∧ H2 = H') I' rfl ⟨rfl, rfl⟩) fun _ s'' ⟨σ2, H2, I2, e1, e2⟩ => ?_
  subst e1 e2
  obtain ⟨g1, g2, _⟩ := I2.pin (C, oC) (List.mem_append_right _ (List.mem_append_right _ (by simp)))
  refine ⟨m, hn.at' fun o e => ?_, fun h' sb => ?_⟩
  · rw [hoC] at e; cases e; exact g1
  · have I3 : Inv X pins (σ.set i (some (.ref D))) H2 s'' := I2.pins_of fun p hp => I2.pin p (List.mem_append_right _ (List.mem_append_left _ hp))
    exact ⟨_, H2, I3.turned (t' := s''.toks) (fun b o hb e => sb.extBut b o hb e) g2 h2 (.inr h1) h3 h4, q⟩
end
end L2
namespace L2
open PySem PySem.Spec PyProof.Rows
section
variable {X : Cx}
theorem op_mulK : OpR X (binaryOp .Mult) (rI IntMulOk fun i j => .int (i * j)) := opI fun _ _ _ _ _ _ _ hc q => mul_int q hc
def CDivK (_ j : Int) : Prop := j ≠ 0 ∧ j.natAbs.log2 < 9000
theorem op_fdivK : OpR X (binaryOp .FloorDiv) (rI CDivK fun i j => .int (i.fdiv j)) := opI fun _ _ _ _ _ _ _ hc q => floordiv_int hc.1 q (.inl (PyProof.noPylong_of_log2 hc.2))

def Itc (lo c : Int) (n : Nat) : It := ⟨fun i _ => i < n, fun i H x H' => H' = H ∧ x = .int (lo + i * c), fun i _ => n ≤ i⟩
theorem turn_rangeC {P : Program} {w : World} {K : PySem.W.Frag} {tg : Expr} (it : Addr) (lo c : Int) (n : Nat) : Turn P w K tg (Itc lo c n) [it] it (fun i h => IsRangeIter h it (lo + (i : Nat) * c) ((n : Int) - (i : Nat)) c) where
  mem := by simp
  obj := fun i h st b hb => by
    have e : b = it := by simpa using hb
    subst e
    exact ⟨_, st, fun v z => by
      have z' : Data.fields _ = Data.cell v := z
      cases z'⟩
  keep := fun i h h' st k => k it (by simp) _ st
  item := by
    intro X hP hw hK hc i pins s σ H E I hf st hg
    subst hP hw hK
    obtain ⟨f0, f1, f2, f3, f4, f5⟩ := hf it (by simp)
    have W := Walks.range (prog := X.prog) (w := X.w) (I.ok.hd hc) it lo c n
    refine W.item i s _ _ hg st fun v h' tk hv st' kk => ?_
    obtain ⟨t, rfl⟩ := hv
    have I1 : Inv X pins σ H { s with heap := h', toks := tk } := I.turned (fun b o hb e => kk b o (by simpa using hb) e) f0 f1 f3 f4 f5
    exact ⟨_, rfl, go_of (s := { s with heap := h', toks := tk }) (n := "range_iterator") st' rfl rfl (by decide) ⟨.int (lo + i * c), H, I1, ⟨t, rfl⟩, ⟨rfl, rfl⟩, st', fun b hb => (hf b hb).1⟩⟩
  done := by
    intro X hP hw hK hc i pins s σ H E I hf st hg
    subst hP hw hK
    obtain ⟨f0, f1, f2, f3, f4, f5⟩ := hf it (by simp)
    exact wpAny_pyNext_range_end (I.ok.hd hc) st (by have : n ≤ i := hg; omega) fun h' eb => ⟨rfl, I.turned (t' := s.toks) (fun b o hb e => eb b o hb e) f0 f1 f3 f4 f5⟩
  self := fun _ _ _ _ _ st h => wpAny_pyIter_rangeiter st h
theorem small_c {a b c : Int} (ha : -(2 ^ 62) ≤ a) (ha' : a < 2 ^ 62) (hb : -(2 ^ 62) ≤ b) (hb' : b < 2 ^ 62) (hc : c ≠ 0) (hc1 : -1000 ≤ c) (hc2 : c ≤ 1000) : Builtin.Range.small a b c = true := by
  have h1 := rangeSize_toNat a b c
  have h2 := rangeSize_toNat_le a b c
  unfold Builtin.Range.small
  generalize Builtin.Range.rangeSize a b c = r at *
  simp only [Builtin.Range.rangeFitsLong, Bool.and_eq_true, Bool.or_eq_true, decide_eq_true_eq, beq_iff_eq]
  refine ⟨⟨⟨⟨⟨by omega, by omega⟩, by omega, by omega⟩, by omega, by omega⟩, by omega, by omega⟩, ?_⟩
  right
  split <;> simp only [Bool.and_eq_true, decide_eq_true_eq] <;> omega
variable {tg : Expr}
theorem range_itC {pins : List (Addr × Obj)} {σ : St} {H : Hp} {s : Shared} {R : It → Hp → Prop} {E : Value → Shared → Prop} {lo hi c : Int} {t u v : Tok} {tk : Nat} (I : Inv X pins σ H s) (h1 : -(2 ^ 62) ≤ lo) (h2 : lo < 2 ^ 62) (h3 : -(2 ^ 62) ≤ hi) (h4 : hi < 2 ^ 62)
    (c0 : c ≠ 0) (c1 : -1000 ≤ c) (c2 : c ≤ 1000)
    (q : R (Itc lo c (Builtin.Range.rangeSize lo hi c).toNat) H) : wpAny (model X.prog X.w) X.A (pyIter (.ref s.heap.objs.size)) (PIE X pins σ tg R) E { s with heap := s.heap.push { cls := .type "range", data := .fields #[.int lo t, .int hi u, .int c v] }, toks := tk } := by
  refine wpAny_pyIter_range (IsRange.new ..) (small_c h1 h2 h3 h4 c0 c1 c2) ?_
  have I1 : Inv X pins σ H { s with heap := s.heap.push { cls := .type "range", data := .fields #[.int lo t, .int hi u, .int c v] }, toks := tk } := I.kept fun b o e => Heap.get?_push_of_some _ e
  refine ⟨(s.heap.push { cls := .type "range", data := .fields #[.int lo t, .int hi u, .int c v] }).objs.size, [(s.heap.push { cls := .type "range", data := .fields #[.int lo t, .int hi u, .int c v] }).objs.size], _, _, H, rfl,
    I1.kept (t' := tk) fun b o e => Heap.get?_push_of_some _ e, turn_rangeC _ lo c (Builtin.Range.rangeSize lo hi c).toNat, ?_, fun b hb => ?_, q⟩
  · have e1 : lo + ((0 : Nat) : Int) * c = lo := by simp
    have e2 : (((Builtin.Range.rangeSize lo hi c).toNat : Nat) : Int) - ((0 : Nat) : Int) = Builtin.Range.rangeSize lo hi c := by have := rangeSize_toNat lo hi c; omega
    show IsRangeIter _ _ (lo + ((0 : Nat) : Int) * c) ((((Builtin.Range.rangeSize lo hi c).toNat : Nat) : Int) - ((0 : Nat) : Int)) c
    rw [e1, e2]
    exact Heap.get?_push_size _ rfl
  · have e : b = (s.heap.push { cls := .type "range", data := .fields #[.int lo t, .int hi u, .int c v] }).objs.size := by simpa using hb
    subst e
    exact I1.fpOk (Nat.le_refl _) (I1.hok.fresh (Nat.le_refl _))
def iRng3 (ta : TA) : TI := fun σ H R => ta σ H fun vs H1 => ∃ i j c : Int, vs = [.int i, .int j, .int c] ∧ (-(2 ^ 62) ≤ i ∧ i < 2 ^ 62 ∧ -(2 ^ 62) ≤ j ∧ j < 2 ^ 62) ∧ (c ≠ 0 ∧ -1000 ≤ c ∧ c ≤ 1000) ∧ R (Itc i c (Builtin.Range.rangeSize i j c).toNat) H1
theorem pi_range3 {a b c : Expr} {ta : TA} {p pos : Pos} (hg : Gl X "range") (hm : X.mg "range" = none) (ha : PA X [a, b, c] ta) (he : starEach [a, b, c] X.env = (false, eval a X.env) :: starEach [b, c] X.env := by rfl)
    (hpl : (backTo pos (starEach [b, c] X.env)).any (·.1) = false := by rfl) : PI X tg (.Call (.Name "range" p) [a, b, c] [] pos) (iRng3 ta) := by
  intro pins s σ H R I h
  refine Call_ (ld_blt I hg hm boot_range (PyProof.Rows.callWith_type1 (thn (ha pos pins s σ H _ I h) fun us s1 ⟨vs, H1, I1, r1, q1⟩ => ?_) he hpl))
  obtain ⟨i, j, c, e, ⟨q1, q2, q3, q4⟩, ⟨c0, c1, c2⟩, q⟩ := q1
  subst e
  cases r1 with
  | cons r rr =>
    cases rr with
    | cons r' rr =>
      cases rr with
      | cons r'' rr =>
        cases rr
        obtain ⟨t, rfl⟩ := r
        obtain ⟨t', rfl⟩ := r'
        obtain ⟨t'', rfl⟩ := r''
        exact call_range_3 c0 (range_itC I1 q1 q2 q3 q4 c0 c1 c2 q) (.inl (PyProof.noPylong_small (by omega)))
theorem for_rangeC {lo c : Int} {n : Nat} {g : TG} {tb : TS} {D : Ends} {σ : St} {H : Hp} (Pv : Nat → St → Hp → Prop) (h0 : Pv 0 σ H)
    (hs : ∀ i σ H, i < n → Pv i σ H → g (.int (lo + i * c)) σ H fun σ2 H2 => tb { D with nx := Pv (i + 1), ct := Pv (i + 1), bk := D.nx } σ2 H2) (hd : ∀ σ H, Pv n σ H → D.nx σ H) :
    ∃ W : Nat → Nat → St → Hp → Prop, (∃ m, W 0 m σ H) ∧ ∀ i m σ H, W i m σ H →
      ((Itc lo c n).stop i H ∧ D.nx σ H) ∨ ((Itc lo c n).go i H ∧ ∃ N : St → Hp → Prop, (∀ σ' H', N σ' H' → ∃ m', m' < m ∧ W (i + 1) m' σ' H') ∧ ∀ x H', (Itc lo c n).yld i H x H' → g x σ H' fun σ2 H2 => tb { D with nx := N, ct := N, bk := D.nx } σ2 H2) := by
  refine ⟨fun i m σ H => m = n - i ∧ i ≤ n ∧ Pv i σ H, ⟨n, by simp, Nat.zero_le _, h0⟩, ?_⟩
  rintro i m σ H ⟨rfl, hi, p⟩
  by_cases hlt : i < n
  · refine .inr ⟨hlt, Pv (i + 1), fun σ' H' p' => ⟨n - (i + 1), by omega, rfl, hlt, p'⟩, fun x H' y => ?_⟩
    obtain ⟨e, y⟩ := y
    subst e y
    exact hs i σ _ hlt p
  · have e : i = n := by omega
    subst e
    exact .inl ⟨Nat.le_refl _, hd σ H p⟩
end

mutual
inductive DR (K : PySem.W.Frag) (H : Hp) : V → PyData → Prop
  | non : DR K H .non .none
  | bl (b : Bool) : DR K H (.bl b) (.bool b)
  | int (i : Int) : DR K H (.int i) (.int i)
  | str (x : Str) : DR K H (.str x) (.str x)
  | lst {a : Addr} {xs : List V} {ds : List PyData} : SqL K H a xs → DRs K H xs ds → DR K H (.ref a) (.list ds)
  | tup {a : Addr} {xs : List V} {ds : List PyData} : SqT K H a xs → DRs K H xs ds → DR K H (.ref a) (.tuple ds)
inductive DRs (K : PySem.W.Frag) (H : Hp) : List V → List PyData → Prop
  | nil : DRs K H [] []
  | cons {x : V} {xs : List V} {d : PyData} {ds : List PyData} : DR K H x d → DRs K H xs ds → DRs K H (x :: xs) (d :: ds)
end
section
variable {X : Cx} {pins : List (Addr × Obj)} {σ : St} {H : Hp} {s : Shared}
mutual
theorem DR.reads (I : Inv X pins σ H s) : ∀ {x : V} {d : PyData} {u : Value}, DR X.K H x d → RelV x u → ∃ as, Reads s.heap u d as
  | _, _, _, .non, r => by cases r; exact ⟨_, .none⟩
  | _, _, _, .bl b, r => by cases r; exact ⟨_, .bool b⟩
  | _, _, _, .int i, r => by obtain ⟨t, rfl⟩ := r; exact ⟨_, .int i t⟩
  | _, _, _, .str x, r => by obtain ⟨t, rfl⟩ := r; exact ⟨_, .str x t⟩
  | _, _, _, .lst h hs, r => by
    cases r
    obtain ⟨its, rv, p, _⟩ := I.list h
    obtain ⟨as, ra⟩ := DRs.reads I hs rv
    obtain ⟨o, e1, e2, n, e3⟩ := p.isList
    exact ⟨_, .list e1 e2 e3 (by simpa using ra)⟩
  | _, _, _, .tup h hs, r => by
    cases r
    obtain ⟨its, rv, p, _⟩ := I.tuple h
    obtain ⟨as, ra⟩ := DRs.reads I hs rv
    obtain ⟨o, e1, e2, n, e3⟩ := p
    exact ⟨_, .tuple e1 e2 e3 (by simpa using ra)⟩
theorem DRs.reads (I : Inv X pins σ H s) : ∀ {xs : List V} {ds : List PyData} {us : List Value}, DRs X.K H xs ds → Vals xs us → ∃ as, ReadsAll s.heap us ds as
  | _, _, _, .nil, r => by cases r; exact ⟨_, .nil⟩
  | _, _, _, .cons h hs, r => by
    cases r with
    | cons r1 r2 =>
      obtain ⟨as, a⟩ := DR.reads I h r1
      obtain ⟨bs, b⟩ := DRs.reads I hs r2
      exact ⟨_, .cons a b⟩
end
end
section
variable {X : Cx}
def rEqD (K : PySem.W.Frag) : R2 := fun x y H Q => ∃ d e, DR K H x d ∧ DR K H y e ∧ d.canLay0 = true ∧ e.canLay0 = true ∧ d.depth ≤ 60 ∧ Q (.bl (PyData.eqv d e)) H
def rNeD (K : PySem.W.Frag) : R2 := fun x y H Q => ∃ d e, DR K H x d ∧ DR K H y e ∧ d.canLay0 = true ∧ e.canLay0 = true ∧ d.depth ≤ 60 ∧ Q (.bl (!PyData.eqv d e)) H
theorem op_neD (hu : X.A.units + 60 < cLine) : OpR X (compareOp .NotEq) (rNeD X.K) := by
  intro pins s σ H x y v u Q I rx ry h
  obtain ⟨d, e, hd, he, c1, c2, dp, q⟩ := h
  obtain ⟨as, ra⟩ := hd.reads I rx
  obtain ⟨bs, rb⟩ := he.reads I ry
  exact SeqAt.compareNe_reads ra rb c1 c2 (by have := Nat.min_le_left d.depth e.depth; omega) ⟨.bl _, H, I, rfl, q⟩
end
end L2
namespace L2.EP
open PySem PySem.Spec PyProof.Rows
open Classical in
noncomputable def off (H : Hp) (O : Addr → Prop) : Hp := fun b => if O b then none else H b
theorem off_get {H : Hp} {O : Addr → Prop} {b : Addr} (h : ¬ O b) : off H O b = H b := by unfold off; rw [if_neg h]
theorem off_own {H : Hp} {O : Addr → Prop} {b : Addr} (h : O b) : off H O b = none := by unfold off; rw [if_pos h]
theorem off_some {H : Hp} {O : Addr → Prop} {b : Addr} {o : HO} (h : off H O b = some o) : ¬ O b ∧ H b = some o := by
  by_cases hb : O b
  · rw [off_own hb] at h; cases h
  · rw [off_get hb] at h; exact ⟨hb, h⟩
theorem off_same (H : Hp) (O : Addr → Prop) : Same (off H O) H := fun _ _ h => (off_some h).2
theorem off_mono {H H' : Hp} {O : Addr → Prop} (s : Same H H') : Same (off H O) (off H' O) := fun b o h => by
  obtain ⟨h1, h2⟩ := off_some h
  rw [off_get h1]; exact s _ _ h2
theorem off_less {H : Hp} {O O' : Addr → Prop} (l : ∀ b, O' b → O b) : Same (off H O) (off H O') := fun b o h => by
  obtain ⟨h1, h2⟩ := off_some h
  rw [off_get fun z => h1 (l _ z)]; exact h2
theorem off_nil (H : Hp) : off H (fun _ => False) = H := funext fun _ => off_get fun z => z
theorem off_upd {H : Hp} {O : Addr → Prop} {p : Addr} {o : HO} (h : O p) : off (upd H p o) O = off H O := funext fun b => by
  by_cases hb : O b
  · rw [off_own hb, off_own hb]
  · rw [off_get hb, off_get hb, upd_ne]; rintro rfl; exact hb h
theorem same_upd {H : Hp} {p : Addr} (h : H p = none) (o : HO) : Same H (upd H p o) := fun b u q => by rw [upd_ne (ne_of_none q h)]; exact q
theorem Same.rd {H H' : Hp} {a : Addr} {u : HO} (e : Same H H') (h : Rd H a u) : Rd H' a u := by
  rcases h with h | ⟨o, h⟩
  · exact .inl (e _ _ h)
  · exact .inr ⟨o, e _ _ h⟩

theorem sqT_rd {K : PySem.W.Frag} {H H' : Hp} {p : Addr} {xs : List V} (e : Same H H') (h : Rd H p (.tup xs)) : SqT K H' p xs := .inl (Same.rd e h)
inductive Nn where
  | any
  | new (H0 : Hp)
  | set (D : Addr → Prop)
inductive Mt where
  | inl (xs : List V)
  | inr (kvs : List (Key × V))
  | inT (kvs : List (List Key × V))
def mo : Mt → HO
  | .inl xs => .lst xs
  | .inr kvs => .dK kvs
  | .inT kvs => .dT kvs
def Mo (K : PySem.W.Frag) (H : Hp) (p : Addr) : Mt → Prop
  | .inl xs => SqL K H p xs
  | .inr kvs => Rd H p (.dK kvs)
  | .inT kvs => Rd H p (.dT kvs)
theorem Mo.mono {K : PySem.W.Frag} {H H' : Hp} {p : Addr} {o : Mt} (s : Same H H') (h : Mo K H p o) : Mo K H' p o := by
  cases o with
  | inl xs => exact s.seq h
  | inr kvs => exact Same.rd s h
  | inT kvs => exact Same.rd s h
theorem Mo.of {K : PySem.W.Frag} {H : Hp} {p : Addr} {o : Mt} (h : H p = some (mo o)) : Mo K H p o := by
  cases o with
  | inl xs => exact SqL.of h
  | inr kvs => exact .inl h
  | inT kvs => exact .inl h
def Nn.has : Nn → Hp → Addr → Mt → Prop
  | .any, _, _, _ => True
  | .new H0, H, p, xs => H0 p = none ∧ H p = some (mo xs)
  | .set D, H, p, xs => D p ∧ H p = some (mo xs)
theorem Nn.mono {N : Nn} {H H' : Hp} {p : Addr} {xs : Mt} (s : Same H H') (h : N.has H p xs) : N.has H' p xs := by
  cases N with
  | any => exact True.intro
  | new H0 => exact ⟨h.1, s _ _ h.2⟩
  | set D => exact ⟨h.1, s _ _ h.2⟩
class Py (α : Type) where
  rp : PySem.W.Frag → Nn → Hp → V → α → Prop
  tr : ∀ {K : PySem.W.Frag} {N N' : Nn} {H H' : Hp} {v : V} {a : α}, (∀ p (o : Mt), Mo K H p o → N.has H p o → Mo K H' p o ∧ N'.has H' p o) → (∀ p xs, Rd H p (.tup xs) → Rd H' p (.tup xs)) → rp K N H v a → rp K N' H' v a
theorem rp_mono {α : Type} [Py α] {K : PySem.W.Frag} {N : Nn} {H H' : Hp} {v : V} {a : α} (s : Same H H') (h : Py.rp K N H v a) : Py.rp K N H' v a :=
  Py.tr (fun _ _ q n => ⟨Mo.mono s q, Nn.mono s n⟩) (fun _ _ q => Same.rd s q) h
theorem rp_wid {α : Type} [Py α] {K : PySem.W.Frag} {N N' : Nn} {H : Hp} {v : V} {a : α} (w : ∀ p (o : Mt), N.has H p o → N'.has H p o) (h : Py.rp K N H v a) : Py.rp K N' H v a :=
  Py.tr (fun _ _ q n => ⟨q, w _ _ n⟩) (fun _ _ q => q) h
instance : Py Int where
  rp _ _ _ v a := v = .int a
  tr _ _ h := h
instance : Py Bool where
  rp _ _ _ v a := v = .bl a
  tr _ _ h := h
instance : Py Unit where
  rp _ _ _ v _ := v = .non
  tr _ _ h := h
instance : Py Str where
  rp _ _ _ v a := v = .str a
  tr _ _ h := h
structure Any where
instance : Py Any where
  rp _ _ _ _ _ := True
  tr _ _ h := h
instance {α : Type} [Py α] : Py (Option α) where
  rp K N H v a := match a with | none => v = .non | some b => Py.rp K N H v b
  tr {K N N' H H' v a} l t h := by
    cases a with
    | none => exact h
    | some b => exact Py.tr (α := α) l t h
instance {α β : Type} [Py α] [Py β] : Py (α × β) where
  rp K N H v a := ∃ p x y, v = .ref p ∧ Rd H p (.tup [x, y]) ∧ Py.rp K N H x a.1 ∧ Py.rp K N H y a.2
  tr l t h := by
    obtain ⟨p, x, y, e, s, h1, h2⟩ := h
    exact ⟨p, x, y, e, t _ _ s, Py.tr l t h1, Py.tr l t h2⟩
structure T3 (α β γ : Type) where
  a : α
  b : β
  c : γ
  deriving DecidableEq
instance {α β γ : Type} [Py α] [Py β] [Py γ] : Py (T3 α β γ) where
  rp K N H v a := ∃ p x y z, v = .ref p ∧ Rd H p (.tup [x, y, z]) ∧ Py.rp K N H x a.a ∧ Py.rp K N H y a.b ∧ Py.rp K N H z a.c
  tr l t h := by
    obtain ⟨p, x, y, z, e, s, h1, h2, h3⟩ := h
    exact ⟨p, x, y, z, e, t _ _ s, Py.tr l t h1, Py.tr l t h2, Py.tr l t h3⟩
theorem pr_imp {α β : Type} {F G : α → β → Prop} (f : ∀ a b, F a b → G a b) : ∀ {l₁ : List α} {l₂ : List β}, Paired F l₁ l₂ → Paired G l₁ l₂
  | _, _, .nil => .nil
  | _, _, .cons h t => .cons (f _ _ h) (pr_imp f t)
theorem pr_len {α β : Type} {F : α → β → Prop} : ∀ {l₁ : List α} {l₂ : List β}, Paired F l₁ l₂ → l₁.length = l₂.length
  | _, _, .nil => rfl
  | _, _, .cons _ t => congrArg (· + 1) (pr_len t)
theorem pr_get {α β : Type} {F : α → β → Prop} : ∀ {l₁ : List α} {l₂ : List β} {i : Nat} {b : β}, Paired F l₁ l₂ → l₂[i]? = some b → ∃ a, l₁[i]? = some a ∧ F a b
  | _, _, _, _, .nil, e => by simp at e
  | _, _, 0, _, .cons h _, e => by simp at e; subst e; exact ⟨_, rfl, h⟩
  | _, _, i + 1, _, .cons _ t, e => by
    obtain ⟨a, h1, h2⟩ := pr_get (i := i) t (by simpa using e)
    exact ⟨a, by simpa using h1, h2⟩
theorem pr_get' {α β : Type} {F : α → β → Prop} : ∀ {l₁ : List α} {l₂ : List β} {i : Nat} {a : α}, Paired F l₁ l₂ → l₁[i]? = some a → ∃ b, l₂[i]? = some b ∧ F a b
  | _, _, _, _, .nil, e => by simp at e
  | _, _, 0, _, .cons h _, e => by simp at e; subst e; exact ⟨_, rfl, h⟩
  | _, _, i + 1, _, .cons _ t, e => by
    obtain ⟨a, h1, h2⟩ := pr_get' (i := i) t (by simpa using e)
    exact ⟨a, by simpa using h1, h2⟩
theorem pr_app {α β : Type} {F : α → β → Prop} : ∀ {l₁ m₁ : List α} {l₂ m₂ : List β}, Paired F l₁ l₂ → Paired F m₁ m₂ → Paired F (l₁ ++ m₁) (l₂ ++ m₂)
  | _, _, _, _, .nil, h => h
  | _, _, _, _, .cons h t, h' => .cons h (pr_app t h')
theorem pr_set {α β : Type} {F : α → β → Prop} {a : α} {b : β} (f : F a b) : ∀ {l₁ : List α} {l₂ : List β} (i : Nat), Paired F l₁ l₂ → Paired F (l₁.set i a) (l₂.set i b)
  | _, _, _, .nil => .nil
  | _, _, 0, .cons _ t => .cons f t
  | _, _, i + 1, .cons h t => .cons h (pr_set f i t)
theorem pr_drop {α β : Type} {F : α → β → Prop} : ∀ {l₁ : List α} {l₂ : List β} (n : Nat), Paired F l₁ l₂ → Paired F (l₁.drop n) (l₂.drop n)
  | _, _, 0, h => h
  | _, _, _ + 1, .nil => .nil
  | _, _, n + 1, .cons _ t => pr_drop n t
instance {α : Type} [Py α] : Py (List α) where
  rp K N H v a := ∃ p xs, v = .ref p ∧ SqL K H p xs ∧ N.has H p (.inl xs) ∧ Paired (fun x b => Py.rp K N H x b) xs a
  tr l t h := by
    obtain ⟨p, xs, e, s, n, r⟩ := h
    obtain ⟨s', n'⟩ := l _ (.inl xs) s n
    exact ⟨p, xs, e, s', n', pr_imp (fun _ _ q => Py.tr l t q) r⟩

class PyD (α : Type) extends Py α where
  dat : α → PyData
  dr : ∀ {K : PySem.W.Frag} {N : Nn} {H : Hp} {v : V} {a : α}, Py.rp K N H v a → DR K H v (dat a)
  lay : ∀ a, (dat a).canLay0 = true
  dep : Nat
  depth : ∀ a, (dat a).depth ≤ dep
  eqv : ∀ a b, PyData.eqv (dat a) (dat b) = true ↔ a = b
instance : PyD Int where
  dat := .int
  dr h := by cases h; exact .int _
  lay _ := rfl
  dep := 0
  depth _ := Nat.le_refl _
  eqv a b := by simp [PyData.eqv]
instance : PyD Bool where
  dat := .bool
  dr h := by cases h; exact .bl _
  lay _ := rfl
  dep := 0
  depth _ := Nat.le_refl _
  eqv a b := by simp [PyData.eqv]
instance {α β : Type} [PyD α] [PyD β] : PyD (α × β) where
  dat a := .tuple [PyD.dat a.1, PyD.dat a.2]
  dr h := by
    obtain ⟨p, x, y, e, s, h1, h2⟩ := h
    subst e
    exact .tup (.inl s) (.cons (PyD.dr h1) (.cons (PyD.dr h2) .nil))
  lay a := by
    show PyData.canLayAll0 [PyD.dat a.1, PyD.dat a.2] = true
    simp [PyData.canLayAll0, PyD.lay]
  dep := max (PyD.dep α) (PyD.dep β) + 1
  depth a := by
    have h1 := PyD.depth a.1
    have h2 := PyD.depth a.2
    show PyData.depthAll [PyD.dat a.1, PyD.dat a.2] + 1 ≤ _
    simp only [PyData.depthAll]
    omega
  eqv a b := by
    rw [PyData.eqv]
    simp only [PyData.eqvAll, Bool.and_true, Bool.and_eq_true, PyD.eqv]
    exact ⟨fun h => Prod.ext h.1 h.2, fun h => by subst h; exact ⟨rfl, rfl⟩⟩
theorem drs_list {α : Type} [PyD α] {K : PySem.W.Frag} {N : Nn} {H : Hp} : ∀ {xs : List V} {as : List α}, Paired (fun x b => Py.rp K N H x b) xs as → DRs K H xs (as.map PyD.dat)
  | _, _, .nil => .nil
  | _, _, .cons h t => .cons (PyD.dr h) (drs_list t)
theorem lay_list {α : Type} [PyD α] : ∀ as : List α, PyData.canLayAll0 (as.map PyD.dat) = true
  | [] => rfl
  | a :: as => by simp [PyData.canLayAll0, PyD.lay, lay_list as]
theorem dep_list {α : Type} [PyD α] : ∀ as : List α, PyData.depthAll (as.map PyD.dat) ≤ PyD.dep α
  | [] => Nat.zero_le _
  | a :: as => by
    have h1 := PyD.depth a
    have h2 := dep_list as
    simp only [List.map_cons, PyData.depthAll]
    omega
theorem eqv_list {α : Type} [PyD α] : ∀ as bs : List α, PyData.eqvAll (as.map PyD.dat) (bs.map PyD.dat) = true ↔ as = bs
  | [], [] => by simp [PyData.eqvAll]
  | [], _ :: _ => by simp [PyData.eqvAll]
  | _ :: _, [] => by simp [PyData.eqvAll]
  | a :: as, b :: bs => by simp [PyData.eqvAll, PyD.eqv, eqv_list as bs]
instance {α : Type} [PyD α] : PyD (List α) where
  dat a := .list (a.map PyD.dat)
  dr h := by
    obtain ⟨p, xs, e, s, n, r⟩ := h
    subst e
    exact .lst s (drs_list r)
  lay a := lay_list a
  dep := PyD.dep α + 1
  depth a := by
    show PyData.depthAll (a.map PyD.dat) + 1 ≤ _
    have := dep_list a
    omega
  eqv a b := by rw [PyData.eqv]; exact eqv_list a b

inductive Bd : Type 1
  | val {α : Type} [Py α] (b : Bool) (a : α) : Bd
  | own {α : Type} [Py α] (b : Bool) (as : List α) : Bd
  | dpo {α : Type} [Py α] (a : α) : Bd
abbrev GEnv := List (Option Bd)
def Nf (H0 : Hp) : Bool → Nn
  | true => .new H0
  | false => .any
theorem Nf.wk {H0 H : Hp} {b : Bool} {p : Addr} {xs : Mt} (h : H0 p = none) (hx : H p = some (mo xs)) : (Nf H0 b).has H p xs := by cases b; exact True.intro; exact ⟨h, hx⟩
theorem Nf.le {H0 H : Hp} {b b' : Bool} {p : Addr} {xs : Mt} (l : b' = true → b = true) (h : (Nf H0 b).has H p xs) : (Nf H0 b').has H p xs := by
  cases b' with
  | false => exact True.intro
  | true => rw [l rfl] at h; exact h
def Bd.ok (K : PySem.W.Frag) (H0 : Hp) (O : Addr → Prop) (H : Hp) (v : V) : Bd → Prop
  | @Bd.val _ _ b a => Py.rp K (Nf H0 b) (off H O) v a
  | @Bd.own _ _ _ _ => False
  | @Bd.dpo _ _ _ => False
def Bd.okD (K : PySem.W.Frag) (H0 : Hp) (O : Addr → Prop) (H : Hp) (D : Addr → Prop) (v : V) : Bd → Prop
  | @Bd.val _ _ _ _ => False
  | @Bd.own _ _ b as => ∃ p xs, v = .ref p ∧ D p ∧ H p = some (.lst xs) ∧ Paired (fun x a => Py.rp K (Nf H0 b) (off H O) x a) xs as
  | @Bd.dpo _ _ a => Py.rp K (.set D) H v a
def Bd.isOwn : Bd → Prop
  | @Bd.val _ _ _ _ => False
  | @Bd.own _ _ _ _ => True
  | @Bd.dpo _ _ _ => True
structure Sta (K : PySem.W.Frag) (H0 : Hp) (F O : Addr → Prop) (Γ : GEnv) (σ : St) (H : Hp) : Prop where
  same : Same H0 H
  fo : ∀ p, F p → O p
  f0 : ∀ p, F p → ∃ xs : Mt, H0 p = some (mo xs)
  own : ∀ p, O p → ∃ xs : Mt, H p = some (mo xs)
  len : σ.length = Γ.length
  at_ : ∀ (i : Nat) (g : Bd), Γ[i]? = some (some g) → ¬ g.isOwn → ∃ v, σ[i]? = some (some v) ∧ g.ok K H0 O H v
  dis : ∃ D : Nat → Addr → Prop, (∀ i j p, D i p → D j p → i = j) ∧ (∀ i p, D i p → O p ∧ H0 p = none) ∧ ∀ (i : Nat) (g : Bd), Γ[i]? = some (some g) → g.isOwn → ∃ v, σ[i]? = some (some v) ∧ g.okD K H0 O H (D i) v
section
variable {K : PySem.W.Frag} {H0 : Hp} {F O : Addr → Prop} {Γ : GEnv} {σ : St} {H H' : Hp}
theorem Bd.go {v : V} {g : Bd} (s : Same H H') (h : g.ok K H0 O H v) : g.ok K H0 O H' v := by
  cases g with
  | val b a => exact rp_mono (off_mono s) h
  | own b as => exact h
  | dpo a => exact h
theorem Bd.goD {v : V} {g : Bd} {D O' : Addr → Prop} (h : g.okD K H0 O H D v) (hD : ∀ p (xs : Mt), D p → H p = some (mo xs) → H' p = some (mo xs)) (so : Same (off H O) (off H' O')) (hO : ∀ p, D p → O p) (hOl : ∀ p, O p → ∃ xs : Mt, H p = some (mo xs)) : g.okD K H0 O' H' D v := by
  cases g with
  | val b a => exact h
  | own b as =>
    obtain ⟨p, xs, e, o, q, r⟩ := h
    exact ⟨p, xs, e, o, hD p (.inl xs) o q, pr_imp (fun _ _ z => rp_mono so z) r⟩
  | dpo a =>
    have h' : Py.rp K (.set D) H v a := h
    refine Py.tr (α := _) (a := a) (fun p xs q n => ?_) (fun p xs q => ?_) h'
    · obtain ⟨n1, n2⟩ := n
      have h2 := hD p xs n1 n2
      exact ⟨Mo.of h2, n1, h2⟩
    · have hp : ∀ u, (H p = some (.tup u) ∨ ∃ o, H p = some (.frz o (.tup u))) → ¬ O p := fun u z hp => by
        obtain ⟨ys, w⟩ := hOl p hp
        rcases z with z | ⟨o, z⟩
        · rw [z] at w; rcases ys with ys | ys | ys <;> cases w
        · rw [z] at w; rcases ys with ys | ys | ys <;> cases w
      have hp' := hp xs q
      rcases q with q | ⟨o, q⟩
      · exact .inl ((off_same _ _) _ _ (so _ _ (by rw [off_get hp']; exact q)))
      · exact .inr ⟨o, (off_same _ _) _ _ (so _ _ (by rw [off_get hp']; exact q))⟩
theorem Sta.go (S : Sta K H0 F O Γ σ H) (s : Same H H') : Sta K H0 F O Γ σ H' where
  same := S.same.trans s
  fo := S.fo
  f0 := S.f0
  own := fun p h => let ⟨xs, q⟩ := S.own p h; ⟨xs, s _ _ q⟩
  len := S.len
  at_ := fun i g e n => let ⟨v, q, r⟩ := S.at_ i g e n; ⟨v, q, Bd.go s r⟩
  dis := by
    obtain ⟨D, d1, d2, d3⟩ := S.dis
    refine ⟨D, d1, d2, fun i g e o => ?_⟩
    obtain ⟨v, q, r⟩ := d3 i g e o
    exact ⟨v, q, Bd.goD r (fun p xs _ z => s _ _ z) (off_mono s) (fun p z => (d2 i p z).1) S.own⟩
theorem Sta.free0 (S : Sta K H0 F O Γ σ H) {p : Addr} (h : H p = none) : H0 p = none := S.same.free h
theorem Sta.notOwn (S : Sta K H0 F O Γ σ H) {p : Addr} (h : H p = none) : ¬ O p := fun o => by
  obtain ⟨xs, q⟩ := S.own p o
  rw [h] at q; cases q
theorem Sta.back {α : Type} [Py α] {b : Bool} {v : V} {a : α} (S : Sta K H0 F O Γ σ H) (h : Py.rp K (Nf H b) (off H' O) v a) : Py.rp K (Nf H0 b) (off H' O) v a :=
  rp_wid (fun p xs n => by cases b with | true => exact ⟨S.free0 n.1, n.2⟩ | false => exact True.intro) h
end
theorem get_set_ne.{u} {α : Type u} {l : List α} {i j : Nat} {a : α} (h : j ≠ i) : (l.set i a)[j]? = l[j]? := by
  rw [List.getElem?_set_ne (Ne.symm h)]
theorem get_set_eq.{u} {α : Type u} {l : List α} {i : Nat} {a : α} (h : i < l.length) : (l.set i a)[i]? = some a := by
  rw [List.getElem?_set_self h]
theorem get_set_some.{u} {α : Type u} {l : List (Option α)} {i : Nat} {a x : α} (h : (l.set i (some a))[i]? = some (some x)) : i < l.length ∧ a = x := by
  by_cases hl : i < l.length
  · rw [get_set_eq hl] at h
    injection h with h; injection h with h
    exact ⟨hl, h⟩
  · rw [List.getElem?_eq_none (by rw [List.length_set]; omega)] at h; cases h
theorem Sta.set {K : PySem.W.Frag} {H0 : Hp} {F O : Addr → Prop} {Γ : GEnv} {σ : St} {H : Hp} {α : Type} [Py α] {b : Bool} {a : α} {v : V} {i : Nat} (S : Sta K H0 F O Γ σ H) (r : Py.rp K (Nf H0 b) (off H O) v a) :
    Sta K H0 F O (Γ.set i (some (.val b a))) (σ.set i (some v)) H where
  same := S.same
  fo := S.fo
  f0 := S.f0
  own := S.own
  len := by rw [List.length_set, List.length_set]; exact S.len
  at_ := fun j g e n => by
    by_cases hj : j = i
    · subst hj
      obtain ⟨hl, e'⟩ := get_set_some e
      subst e'
      exact ⟨v, get_set_eq (by rw [S.len]; exact hl), r⟩
    · rw [get_set_ne hj] at e
      obtain ⟨w, q, z⟩ := S.at_ j g e n
      exact ⟨w, by rw [get_set_ne hj]; exact q, z⟩
  dis := by
    obtain ⟨D, d1, d2, d3⟩ := S.dis
    refine ⟨D, d1, d2, fun j g e o => ?_⟩
    have hj : j ≠ i := by
      rintro rfl
      obtain ⟨_, e'⟩ := get_set_some e
      subst e'; exact o
    rw [get_set_ne hj] at e
    obtain ⟨w, q, z⟩ := d3 j g e o
    exact ⟨w, by rw [get_set_ne hj]; exact q, z⟩
def tV {α : Type} [Py α] (K : PySem.W.Frag) (Γ : GEnv) (b : Bool) (a : α) : TE := fun σ H Q => ∃ H0 F O, Sta K H0 F O Γ σ H ∧ ∀ v H', Same H H' → Py.rp K (Nf H0 b) (off H' O) v a → Q v H'
@[irreducible] def E {α : Type} [Py α] (X : Cx) (Γ : GEnv) (e : Expr) (b : Bool) (a : α) : Prop := PE X e (tV X.K Γ b a)
def tVT (K : PySem.W.Frag) (Γ : GEnv) (c : Bool) : TT := fun σ H Q => ∃ H0 F O, Sta K H0 F O Γ σ H ∧ ∀ H', Same H H' → Q c H'
@[irreducible] def T (X : Cx) (Γ : GEnv) (e : Expr) (c : Bool) : Prop := PT X e (tVT X.K Γ c)
@[irreducible] def TW (X : Cx) (Γ : GEnv) (e : Expr) (c : Bool) : Prop := PW X e (tVT X.K Γ c)
theorem pe_wk {X : Cx} {e : Expr} {t t' : TE} (h : PE X e t) (w : ∀ σ H Q, t' σ H Q → t σ H Q) : PE X e t' := fun pins s σ H Q I q => h pins s σ H Q I (w _ _ _ q)
theorem pt_wk {X : Cx} {e : Expr} {t t' : TT} (h : PT X e t) (w : ∀ σ H Q, t' σ H Q → t σ H Q) : PT X e t' := fun pins s σ H Q I q => h pins s σ H Q I (w _ _ _ q)
theorem pw_wk {X : Cx} {e : Expr} {t t' : TT} (h : PW X e t) (w : ∀ σ H Q, t' σ H Q → t σ H Q) : PW X e t' := fun wh pins s σ H Q I q => h wh pins s σ H Q I (w _ _ _ q)
section
variable {X : Cx} {Γ : GEnv} {α β γ : Type} [Py α] [Py β] [Py γ] {e e1 e2 e3 : Expr} {b b1 b2 b3 : Bool} {pos : Pos}
theorem E.wk {a : α} (h : E X Γ e b a) (l : b' = true → b = true) : E X Γ e b' a := by
  with_unfolding_all
    exact pe_wk h fun σ H Q ⟨H0, F, O, S, q⟩ => ⟨H0, F, O, S, fun v H' s r => q v H' s (rp_wid (fun _ _ n => Nf.le l n) r)⟩
theorem e_var (i : Nat) {a : α} {x : Str} (h : Γ[i]? = some (some (.val b a)) := by rfl) (hN : X.N[i]? = some x := by rfl) (hv : Vis X.env.scope x := by first | exact Or.inl rfl | exact Or.inr (Or.inl rfl) | exact Or.inr (Or.inr rfl))
    (hd : (x == ("__debug__" : Str)) = false := by decide) (hcd : (x == ("__classdict__" : Str)) = false := by decide) : E X Γ (.Name x pos) b a := by
  with_unfolding_all
    exact pe_wk (pv i hN hv hd hcd) fun σ H Q ⟨H0, F, O, S, q⟩ => by
        obtain ⟨v, h1, h2⟩ := S.at_ i _ h (fun z => z)
        exact ⟨v, h1, q v H (Same.refl _) h2⟩
theorem e_int {i : Int} {j : Nat} : E X Γ (.Constant (.int i) j pos) true i := by
  with_unfolding_all
    exact pe_wk pe_int fun σ H Q ⟨H0, F, O, S, q⟩ => q _ H (Same.refl _) rfl
theorem e_bl {i : Bool} {j : Nat} : E X Γ (.Constant (.bool i) j pos) true i := by
  with_unfolding_all
    exact pe_wk pe_bl fun σ H Q ⟨H0, F, O, S, q⟩ => q _ H (Same.refl _) rfl
theorem e_non {j : Nat} : E X Γ (.Constant .none j pos) true (none : Option α) := by
  with_unfolding_all
    exact pe_wk pe_non fun σ H Q ⟨H0, F, O, S, q⟩ => q _ H (Same.refl _) rfl
theorem E.some {a : α} (h : E X Γ e b a) : E X Γ e b (some a) := by
  with_unfolding_all
    exact pe_wk h fun σ H Q ⟨H0, F, O, S, q⟩ => ⟨H0, F, O, S, fun v H' s r => q v H' s r⟩
theorem e_ii {op : Operator} {C : Int → Int → Prop} {g : Int → Int → Int} {i j : Int} (ho : OpR X (binaryOp op) (rI C fun i j => .int (g i j))) (ha : E X Γ e1 b1 i) (hb : E X Γ e2 b2 j) (hc : C i j) : E X Γ (.BinOp e1 op e2 pos) true (g i j) := by
  with_unfolding_all
    exact pe_wk (pe_op ho ha hb) fun σ H Q ⟨H0, F, O, S, q⟩ => ⟨H0, F, O, S, fun v H1 s1 r1 => ⟨H0, F, O, S.go s1, fun w H2 s2 r2 => ⟨i, j, r1, r2, hc, q _ H2 (s1.trans s2) rfl⟩⟩⟩
theorem e_add {i j : Int} (ha : E X Γ e1 b1 i) (hb : E X Γ e2 b2 j) : E X Γ (.BinOp e1 .Add e2 pos) true (i + j) := by
  with_unfolding_all
    exact e_ii (C := fun _ _ => True) (fun pins s σ H x y v u Q I rx ry ⟨i, j, h1, h2, _, q⟩ => op_add pins s σ H x y v u Q I rx ry ⟨i, j, h1, h2, q⟩) ha hb True.intro
theorem e_sub {i j : Int} (ha : E X Γ e1 b1 i) (hb : E X Γ e2 b2 j) : E X Γ (.BinOp e1 .Sub e2 pos) true (i - j) := by
  with_unfolding_all
    exact e_ii (C := fun _ _ => True) (fun pins s σ H x y v u Q I rx ry ⟨i, j, h1, h2, _, q⟩ => op_sub pins s σ H x y v u Q I rx ry ⟨i, j, h1, h2, q⟩) ha hb True.intro
theorem e_mul {i j : Int} (ha : E X Γ e1 b1 i) (hb : E X Γ e2 b2 j) (hc : IntMulOk i j) : E X Γ (.BinOp e1 .Mult e2 pos) true (i * j) := by
  with_unfolding_all
    exact e_ii op_mulK ha hb hc
theorem e_fdiv {i j : Int} (ha : E X Γ e1 b1 i) (hb : E X Γ e2 b2 j) (hc : CDivK i j) : E X Γ (.BinOp e1 .FloorDiv e2 pos) true (i.fdiv j) := by
  with_unfolding_all
    exact e_ii op_fdivK ha hb hc
theorem e_mod {i j : Int} (ha : E X Γ e1 b1 i) (hb : E X Γ e2 b2 j) (hc : j ≠ 0) : E X Γ (.BinOp e1 .Mod e2 pos) true (i.fmod j) := by
  with_unfolding_all
    exact e_ii op_modN ha hb hc
theorem e_pow {i j : Int} (ha : E X Γ e1 b1 i) (hb : E X Γ e2 b2 j) (hc : CPow i j) : E X Γ (.BinOp e1 .Pow e2 pos) true (i ^ j.toNat) := by
  with_unfolding_all
    exact e_ii op_pow ha hb hc
theorem e_neg {i : Int} (ha : E X Γ e1 b1 i) : E X Γ (.UnaryOp .USub e1 pos) true (-i) := by
  with_unfolding_all
    exact pe_wk (pe_un un_neg ha) fun σ H Q ⟨H0, F, O, S, q⟩ => ⟨H0, F, O, S, fun v H1 s1 r1 => ⟨i, r1, q _ H1 s1 rfl⟩⟩
def CV (X : Cx) (op : CmpOp) (x : α) (y : β) (c : Bool) : Prop := ∃ r, OpR X (compareOp op) r ∧ ∀ (N N' : Nn) (H : Hp) (u v : V) (Q : VK), Py.rp X.K N H u x → Py.rp X.K N' H v y → Q (.bl c) H → r u v H Q
theorem cv_ii {op : CmpOp} {g : Int → Int → Bool} (ho : OpR X (compareOp op) (rI0 fun i j => .bl (g i j))) (i j : Int) : CV X op i j (g i j) := ⟨_, ho, fun N N' H u v Q h1 h2 q => ⟨i, j, h1, h2, q⟩⟩
theorem cv_lt {i j : Int} : CV X .Lt i j (decide (i < j)) := cv_ii op_lt i j
theorem cv_le {i j : Int} : CV X .LtE i j (decide (i ≤ j)) := cv_ii op_le i j
theorem cv_gt {i j : Int} : CV X .Gt i j (decide (j < i)) := cv_ii op_gt i j
theorem cv_ge {i j : Int} : CV X .GtE i j (decide (j ≤ i)) := cv_ii op_ge i j
theorem cv_eqI {i j : Int} : CV X .Eq i j (decide (i = j)) := ⟨_, op_eq, fun N N' H u v Q h1 h2 q => by
  cases h1; cases h2
  refine ⟨rfl, ?_⟩
  rw [dec_int, Bool.beq_eq_decide_eq]; exact q⟩
theorem cv_neI {i j : Int} : CV X .NotEq i j (!decide (i = j)) := ⟨_, op_ne, fun N N' H u v Q h1 h2 q => by
  cases h1; cases h2
  refine ⟨rfl, ?_⟩
  rw [dec_int, Bool.beq_eq_decide_eq]; exact q⟩
theorem cv_ne {α : Type} [PyD α] [DecidableEq α] {x y : α} (hu : X.A.units + 60 < cLine) (hd : PyD.dep α ≤ 60 := by decide) : CV X .NotEq x y (!decide (x = y)) := ⟨_, op_neD hu, fun N N' H u v Q h1 h2 q => by
  refine ⟨_, _, PyD.dr h1, PyD.dr h2, PyD.lay _, PyD.lay _, Nat.le_trans (PyD.depth _) hd, ?_⟩
  have e : PyData.eqv (PyD.dat x) (PyD.dat y) = decide (x = y) := by
    by_cases h : x = y
    · rw [decide_eq_true h]; exact (PyD.eqv x y).mpr h
    · rw [decide_eq_false h]; exact Bool.eq_false_iff.mpr fun z => h ((PyD.eqv x y).mp z)
  rw [e]; exact q⟩
theorem e_cmp {op : CmpOp} {x : α} {y : β} {c : Bool} (hc : CV X op x y c) (ha : E X Γ e1 b1 x) (hb : E X Γ e2 b2 y) (hm : behindInMarks op e2 = false := by first | exact nomark _ | rfl) : E X Γ (.Compare e1 [op] [e2] pos) true c := by
  with_unfolding_all
    obtain ⟨r, ho, hr⟩ := hc
    exact pe_wk (pe_cmpR ho ha hb hm) fun σ H Q ⟨H0, F, O, S, q⟩ => ⟨H0, F, O, S, fun v H1 s1 r1 => ⟨H0, F, O, S.go s1, fun w H2 s2 r2 =>
      hr _ _ H2 v w _ (rp_mono ((off_mono s2).trans (off_same _ _)) r1) (rp_mono (off_same _ _) r2) (q _ H2 (s1.trans s2) rfl)⟩⟩
theorem t_cmp {op : CmpOp} {x : α} {y : β} {c : Bool} (hc : CV X op x y c) (ha : E X Γ e1 b1 x) (hb : E X Γ e2 b2 y) (hm : behindInMarks op e2 = false := by first | exact nomark _ | rfl) : T X Γ (.Compare e1 [op] [e2] pos) c := by
  with_unfolding_all
    obtain ⟨r, ho, hr⟩ := hc
    exact pt_wk (pt_cmpR ho ha hb hm) fun σ H Q ⟨H0, F, O, S, q⟩ => ⟨H0, F, O, S, fun v H1 s1 r1 => ⟨H0, F, O, S.go s1, fun w H2 s2 r2 =>
      hr _ _ H2 v w _ (rp_mono ((off_mono s2).trans (off_same _ _)) r1) (rp_mono (off_same _ _) r2) ⟨c, rfl, q H2 (s1.trans s2)⟩⟩⟩
theorem t_isN {x : Option α} {j : Nat} {p : Pos} (ha : E X Γ e1 b1 x) (hx : ∀ (K : PySem.W.Frag) (N : Nn) (H : Hp) (a : α), ¬ Py.rp K N H .non a) : T X Γ (.Compare e1 [.Is] [.Constant .none j p] pos) x.isNone := by
  with_unfolding_all
    exact pt_wk (pt_cmp (pc_isN ha)) fun σ H Q ⟨H0, F, O, S, q⟩ => ⟨H0, F, O, S, fun v H1 s1 r1 => by
        refine ⟨decide (v = .non), rfl, ?_⟩
        have e : decide (v = .non) = x.isNone := by
          cases x with
          | none => cases r1; rfl
          | some a =>
            have hv : v ≠ .non := by rintro rfl; exact hx _ _ _ a r1
            rw [decide_eq_false hv]; rfl
        rw [e]; exact q H1 s1⟩
theorem t_val {c : Bool} (h : E X Γ e b c) (he : ∀ whole, isTrue e X.env whole = (do let v ← whole; standAt e.pos; holding [v] (truthy v)) := by intro _; rfl) : T X Γ e c := by
  with_unfolding_all
    exact pt_wk (pt_val h he) fun σ H Q ⟨H0, F, O, S, q⟩ => ⟨H0, F, O, S, fun v H1 s1 r1 => ⟨c, r1, q H1 s1⟩⟩
theorem t_not {c : Bool} (h : T X Γ e c) : T X Γ (.UnaryOp .Not e pos) (!c) := by
  with_unfolding_all
    exact pt_wk (pt_not h) fun σ H Q ⟨H0, F, O, S, q⟩ => ⟨H0, F, O, S, fun H1 s1 => q H1 s1⟩
variable {rest : List Expr}
theorem tw_and1 {c : Bool} (h : T X Γ e c) : TW X Γ (.BoolOp .And [e] pos) c := by
  with_unfolding_all
    exact pw_and1 h
theorem tw_or1 {c : Bool} (h : T X Γ e c) : TW X Γ (.BoolOp .Or [e] pos) c := by
  with_unfolding_all
    exact pw_or1 h
theorem pw_no : PW X e (fun _ _ _ => False) := fun _ _ _ _ _ _ _ h => h.elim
theorem pe_no : PE X e (fun _ _ _ => False) := fun _ _ _ _ _ _ h => h.elim
theorem tw_and {c c' : Bool} (h : T X Γ e1 c) (h' : c = true → TW X Γ (.BoolOp .And (e2 :: rest) pos) c') : TW X Γ (.BoolOp .And (e1 :: e2 :: rest) pos) (c && c') := by
  with_unfolding_all
    cases c with
    | true => exact pw_wk (pw_and h (h' rfl)) fun σ H Q ⟨H0, F, O, S, q⟩ => ⟨H0, F, O, S, fun H1 s1 => iteT ⟨H0, F, O, S.go s1, fun H2 s2 => q H2 (s1.trans s2)⟩⟩
    | false => exact pw_wk (pw_and h pw_no) fun σ H Q ⟨H0, F, O, S, q⟩ => ⟨H0, F, O, S, fun H1 s1 => iteF (q H1 s1)⟩
theorem tw_or {c c' : Bool} (h : T X Γ e1 c) (h' : c = false → TW X Γ (.BoolOp .Or (e2 :: rest) pos) c') : TW X Γ (.BoolOp .Or (e1 :: e2 :: rest) pos) (c || c') := by
  with_unfolding_all
    cases c with
    | false => exact pw_wk (pw_or h (h' rfl)) fun σ H Q ⟨H0, F, O, S, q⟩ => ⟨H0, F, O, S, fun H1 s1 => iteF ⟨H0, F, O, S.go s1, fun H2 s2 => q H2 (s1.trans s2)⟩⟩
    | true => exact pw_wk (pw_or h pw_no) fun σ H Q ⟨H0, F, O, S, q⟩ => ⟨H0, F, O, S, fun H1 s1 => iteT (q H1 s1)⟩
theorem TW.t {c : Bool} (h : TW X Γ e c) : T X Γ e c := by
  with_unfolding_all
    exact h.pt
theorem e_one {op : BoolOp} {a : α} (h : E X Γ e b a) : E X Γ (.BoolOp op [e] pos) b a := by
  with_unfolding_all
    exact pe_one h
theorem e_and {c c' : Bool} (h : E X Γ e1 b1 c) (h' : c = true → E X Γ (.BoolOp .And (e2 :: rest) pos) b2 c') : E X Γ (.BoolOp .And (e1 :: e2 :: rest) pos) true (c && c') := by
  with_unfolding_all
    cases c with
    | true => exact pe_wk (pe_and h (h' rfl)) fun σ H Q ⟨H0, F, O, S, q⟩ => ⟨H0, F, O, S, fun v H1 s1 r1 => ⟨true, r1, iteT ⟨H0, F, O, S.go s1, fun w H2 s2 r2 => q w H2 (s1.trans s2) r2⟩⟩⟩
    | false => exact pe_wk (pe_and h pe_no) fun σ H Q ⟨H0, F, O, S, q⟩ => ⟨H0, F, O, S, fun v H1 s1 r1 => ⟨false, r1, iteF (q _ H1 s1 rfl)⟩⟩
theorem e_if {c : Bool} {x y : α} (hc : T X Γ e c) (ha : c = true → E X Γ e1 b x) (hb : c = false → E X Γ e2 b y) : E X Γ (.IfExp e e1 e2 pos) b (if c then x else y) := by
  with_unfolding_all
    cases c with
    | true => exact pe_wk (pe_ifExp hc (ha rfl) pe_no) fun σ H Q ⟨H0, F, O, S, q⟩ => ⟨H0, F, O, S, fun H1 s1 => iteT ⟨H0, F, O, S.go s1, fun w H2 s2 r2 => q w H2 (s1.trans s2) r2⟩⟩
    | false => exact pe_wk (pe_ifExp hc pe_no (hb rfl)) fun σ H Q ⟨H0, F, O, S, q⟩ => ⟨H0, F, O, S, fun H1 s1 => iteF ⟨H0, F, O, S.go s1, fun w H2 s2 r2 => q w H2 (s1.trans s2) r2⟩⟩
theorem nf_and1 {H0 H : Hp} {p : Addr} {xs : Mt} (h : (Nf H0 b1).has H p xs) : (Nf H0 (b1 && b2)).has H p xs := Nf.le (fun z => (Bool.and_eq_true_iff.mp z).1) h
theorem nf_and2 {H0 H : Hp} {p : Addr} {xs : Mt} (h : (Nf H0 b2).has H p xs) : (Nf H0 (b1 && b2)).has H p xs := Nf.le (fun z => (Bool.and_eq_true_iff.mp z).2) h
theorem laid_tup {K : PySem.W.Frag} {H0 H : Hp} {F O : Addr → Prop} {Γ : GEnv} {σ : St} {p : Addr} {xs : List V} (S : Sta K H0 F O Γ σ H) (hp : H p = none) : Same H (upd H p (.tup xs)) ∧ Rd (off (upd H p (.tup xs)) O) p (.tup xs) := by
  with_unfolding_all
    exact ⟨same_upd hp _, .inl (by rw [off_get (S.notOwn hp)]; exact upd_same)⟩
theorem laid_lst {K : PySem.W.Frag} {H0 H : Hp} {F O : Addr → Prop} {Γ : GEnv} {σ : St} {p : Addr} {xs : List V} (S : Sta K H0 F O Γ σ H) (hp : H p = none) : Same H (upd H p (.lst xs)) ∧ off (upd H p (.lst xs)) O p = some (.lst xs) := by
  with_unfolding_all
    exact ⟨same_upd hp _, by rw [off_get (S.notOwn hp)]; exact upd_same⟩
theorem e_tup2 {x : α} {y : β} {k : Nat} (ha : E X Γ e1 b1 x) (hb : E X Γ e2 b2 y) (hs : starEach [e1, e2] X.env = (false, eval e1 X.env) :: starEach [e2] X.env := by rfl) (hs2 : starEach [e2] X.env = (false, eval e2 X.env) :: starEach [] X.env := by rfl) :
    E X Γ (.Tuple [e1, e2] k pos) (b1 && b2) (x, y) := by
  with_unfolding_all
    exact pe_wk (pe_tup (pa_cons ha (pa_cons hb pa_nil hs2) hs)) fun σ H Q ⟨H0, F, O, S, q⟩ => ⟨H0, F, O, S, fun v H1 s1 r1 => ⟨H0, F, O, S.go s1, fun w H2 s2 r2 => ⟨by show 2 ≤ sizeLine; decide, fun p hp => by
        obtain ⟨z1, z2⟩ := laid_tup (xs := [v, w]) ((S.go s1).go s2) hp
        refine q _ _ (s1.trans (s2.trans z1)) ⟨p, v, w, rfl, z2, ?_, ?_⟩
        · exact rp_wid (fun _ _ n => nf_and1 n) (rp_mono ((off_mono s2).trans (off_mono z1)) r1)
        · exact rp_wid (fun _ _ n => nf_and2 n) (rp_mono (off_mono z1) r2)⟩⟩⟩
@[irreducible] def EA (X : Cx) (Γ : GEnv) (es : List Expr) (b : Bool) (as : List α) : Prop :=
  PA X es fun σ H Q => ∃ H0 F O, Sta X.K H0 F O Γ σ H ∧ ∀ vs H', Same H H' → Paired (fun x a => Py.rp X.K (Nf H0 b) (off H' O) x a) vs as → Q vs H'
theorem pa_wk {X : Cx} {es : List Expr} {t t' : TA} (h : PA X es t) (w : ∀ σ H Q, t' σ H Q → t σ H Q) : PA X es t' := fun p pins s σ H Q I q => h p pins s σ H Q I (w _ _ _ q)
theorem ea_nil : EA X Γ [] b ([] : List α) := by
  with_unfolding_all
    exact pa_wk pa_nil fun σ H Q ⟨H0, F, O, S, q⟩ => q [] H (Same.refl _) .nil
theorem ea_cons {es : List Expr} {a : α} {as : List α} (h : E X Γ e b a) (h' : EA X Γ es b as) (hs : starEach (e :: es) X.env = (false, eval e X.env) :: starEach es X.env := by rfl) : EA X Γ (e :: es) b (a :: as) := by
  with_unfolding_all
    exact pa_wk (pa_cons h h' hs) fun σ H Q ⟨H0, F, O, S, q⟩ => ⟨H0, F, O, S, fun v H1 s1 r1 => ⟨H0, F, O, S.go s1, fun vs H2 s2 r2 => q _ H2 (s1.trans s2) (.cons (rp_mono (off_mono s2) r1) r2)⟩⟩
theorem e_lst {es : List Expr} {as : List α} (h : EA X Γ es b as) (hl : as.length ≤ 1000) : E X Γ (.List es pos) b as := by
  with_unfolding_all
    exact pe_wk (pe_lst h) fun σ H Q ⟨H0, F, O, S, q⟩ => ⟨H0, F, O, S, fun vs H1 s1 r1 => ⟨by rw [pr_len r1]; exact Nat.le_of_lt (small1000 hl), fun p hp => by
        obtain ⟨z1, z2⟩ := laid_lst (xs := vs) (S.go s1) hp
        exact q _ _ (s1.trans z1) ⟨p, vs, rfl, SqL.of z2, Nf.wk ((S.go s1).free0 hp) z2, pr_imp (fun _ _ r => rp_mono (off_mono z1) r) r1⟩⟩⟩
theorem e_ixL {xs : List α} {i : Int} {a : α} (ha : E X Γ e1 b xs) (hb : E X Γ e2 b2 i) (h : atI xs i = some a) (hs : PlainIx e2 := by intro _ _; rfl) : E X Γ (.Subscript e1 e2 pos) b a := by
  with_unfolding_all
    exact pe_wk (pe_ix ix_list ha hb hs) fun σ H Q ⟨H0, F, O, S, q⟩ => ⟨H0, F, O, S, fun v H1 s1 r1 => ⟨H0, F, O, S.go s1, fun w H2 s2 r2 => by
        obtain ⟨p, vs, e, sq, n, r⟩ := r1
        obtain ⟨j, h1, h2, h3, h4, h5⟩ := atI_get h
        obtain ⟨x, g1, g2⟩ := pr_get r h2
        refine ⟨p, vs, i, x, e, r2, (off_same _ _).seq ((off_mono s2).seq sq), ?_, q x H2 (s1.trans s2) (rp_mono (off_mono s2) g2)⟩
        unfold atI at h ⊢
        rw [pr_len r]
        cases hx : ixN xs.length i with
        | none => rw [hx] at h; cases h
        | some k =>
          have hk := (ixN_seq hx).1
          rw [h1] at hk; cases hk
          exact g1⟩⟩
theorem e_fst {u : α × β} {j : Nat} {p' : Pos} (ha : E X Γ e1 b u) : E X Γ (.Subscript e1 (.Constant (.int 0) j p') pos) b u.1 := by
  with_unfolding_all
    exact pe_wk (pe_ix ix_tup ha e_int (fun _ _ => rfl)) fun σ H Q ⟨H0, F, O, S, q⟩ => ⟨H0, F, O, S, fun v H1 s1 r1 => ⟨H0, F, O, S.go s1, fun w H2 s2 r2 => by
        obtain ⟨p, u, w', e, sq, g1, g2⟩ := r1
        exact ⟨p, _, 0, u, e, r2, sqT_rd (off_same _ _) (Same.rd (off_mono s2) sq), rfl, q u H2 (s1.trans s2) (rp_mono (off_mono s2) g1)⟩⟩⟩
theorem e_snd {u : α × β} {j : Nat} {p' : Pos} (ha : E X Γ e1 b u) : E X Γ (.Subscript e1 (.Constant (.int 1) j p') pos) b u.2 := by
  with_unfolding_all
    exact pe_wk (pe_ix ix_tup ha e_int (fun _ _ => rfl)) fun σ H Q ⟨H0, F, O, S, q⟩ => ⟨H0, F, O, S, fun v H1 s1 r1 => ⟨H0, F, O, S.go s1, fun w H2 s2 r2 => by
        obtain ⟨p, u, w', e, sq, g1, g2⟩ := r1
        exact ⟨p, _, 1, w', e, r2, sqT_rd (off_same _ _) (Same.rd (off_mono s2) sq), rfl, q w' H2 (s1.trans s2) (rp_mono (off_mono s2) g2)⟩⟩⟩
theorem e_abs {i : Int} {p : Pos} (hg : Gl X "abs") (hm : X.mg "abs" = none) (ha : E X Γ e b i) (hs : starEach [e] X.env = (false, eval e X.env) :: starEach [] X.env := by rfl) : E X Γ (.Call (.Name "abs" p) [e] [] pos) true (if i < 0 then -i else i) := by
  with_unfolding_all
    exact pe_wk (pe_callB call_abs hg hm boot_abs (pa_cons ha pa_nil hs) (he := hs)) fun σ H Q ⟨H0, F, O, S, q⟩ => ⟨H0, F, O, S, fun v H1 s1 r1 => ⟨i, by cases r1; rfl, q _ H1 s1 rfl⟩⟩
theorem e_min {i j : Int} {p : Pos} (hc : X.calm = true) (hg : Gl X "min") (hm : X.mg "min" = none) (ha : E X Γ e1 b1 i) (hb : E X Γ e2 b2 j) (hs : starEach [e1, e2] X.env = (false, eval e1 X.env) :: starEach [e2] X.env := by rfl) (hs2 : starEach [e2] X.env = (false, eval e2 X.env) :: starEach [] X.env := by rfl) (hpl : (backTo pos (starEach [e2] X.env)).any (·.1) = false := by rfl) :
    E X Γ (.Call (.Name "min" p) [e1, e2] [] pos) true (if j < i then j else i) := by
  with_unfolding_all
    exact pe_wk (pe_callB (call_min2 hc) hg hm boot_min (pa_cons ha (pa_cons hb pa_nil hs2) hs) (he := hs) (hpl := hpl)) fun σ H Q ⟨H0, F, O, S, q⟩ => ⟨H0, F, O, S, fun v H1 s1 r1 => ⟨H0, F, O, S.go s1, fun w H2 s2 r2 => ⟨i, j, by cases r1; cases r2; rfl, q _ H2 (s1.trans s2) rfl⟩⟩⟩
theorem e_max {i j : Int} {p : Pos} (hc : X.calm = true) (hg : Gl X "max") (hm : X.mg "max" = none) (ha : E X Γ e1 b1 i) (hb : E X Γ e2 b2 j) (hs : starEach [e1, e2] X.env = (false, eval e1 X.env) :: starEach [e2] X.env := by rfl) (hs2 : starEach [e2] X.env = (false, eval e2 X.env) :: starEach [] X.env := by rfl) (hpl : (backTo pos (starEach [e2] X.env)).any (·.1) = false := by rfl) :
    E X Γ (.Call (.Name "max" p) [e1, e2] [] pos) true (if j > i then j else i) := by
  with_unfolding_all
    exact pe_wk (pe_callB (call_max2 hc) hg hm boot_max (pa_cons ha (pa_cons hb pa_nil hs2) hs) (he := hs) (hpl := hpl)) fun σ H Q ⟨H0, F, O, S, q⟩ => ⟨H0, F, O, S, fun v H1 s1 r1 => ⟨H0, F, O, S.go s1, fun w H2 s2 r2 => ⟨i, j, by cases r1; cases r2; rfl, q _ H2 (s1.trans s2) rfl⟩⟩⟩
theorem e_lenL {xs : List α} {p : Pos} (hg : Gl X "len") (hm : X.mg "len" = none) (ha : E X Γ e b xs) (hs : starEach [e] X.env = (false, eval e X.env) :: starEach [] X.env := by rfl) : E X Γ (.Call (.Name "len" p) [e] [] pos) true (xs.length : Int) := by
  with_unfolding_all
    exact pe_wk (pe_callB call_len_seq hg hm PySem.boot_len (pa_cons ha pa_nil hs) (he := hs)) fun σ H Q ⟨H0, F, O, S, q⟩ => ⟨H0, F, O, S, fun v H1 s1 r1 => by
        obtain ⟨p, vs, e, sq, n, r⟩ := r1
        refine ⟨p, vs, by rw [e], .inl ((off_same _ _).seq sq), q _ H1 s1 ?_⟩
        show V.int _ = V.int _
        rw [pr_len r]⟩
theorem e_intB {c : Bool} {p : Pos} (hg : Gl X "int") (hm : X.mg "int" = none) (ha : E X Γ e b c) (hs : starEach [e] X.env = (false, eval e X.env) :: starEach [] X.env := by rfl) : E X Γ (.Call (.Name "int" p) [e] [] pos) true (if c then (1 : Int) else 0) := by
  with_unfolding_all
    exact pe_wk (pe_callTy call_int1 hg hm PyProof.Rows.boot_int (pa_cons ha pa_nil hs) (he := hs)) fun σ H Q ⟨H0, F, O, S, q⟩ => ⟨H0, F, O, S, fun v H1 s1 r1 => .inr ⟨c, by cases r1; rfl, q _ H1 s1 rfl⟩⟩
end
structure GD where
  nx : GEnv → Prop
  rt : Bd → Prop
  bk : GEnv → Prop := fun _ => False
  ct : GEnv → Prop := fun _ => False
def Bd.okR (K : PySem.W.Frag) (H0 : Hp) (F : Addr → Prop) (H : Hp) (v : V) : Bd → Prop
  | @Bd.val _ _ b a => Py.rp K (Nf H0 b) (off H F) v a
  | @Bd.own _ _ _ _ => False
  | @Bd.dpo _ _ _ => False
def tG (K : PySem.W.Frag) (Γ : GEnv) (D : GD) : TS := fun De σ H => ∃ H0 F O, Sta K H0 F O Γ σ H ∧
  (∀ Γ' σ' H' O', Same (off H O) (off H' O') → Sta K H0 F O' Γ' σ' H' → D.nx Γ' → De.nx σ' H') ∧
  (∀ g v H', Same H0 H' → Bd.okR K H0 F H' v g → D.rt g → De.rt v H') ∧
  (∀ Γ' σ' H' O', Same (off H O) (off H' O') → Sta K H0 F O' Γ' σ' H' → D.bk Γ' → De.bk σ' H') ∧
  (∀ Γ' σ' H' O', Same (off H O) (off H' O') → Sta K H0 F O' Γ' σ' H' → D.ct Γ' → De.ct σ' H')
@[irreducible] def S (X : Cx) (Γ : GEnv) (st : List Stmt) (D : GD) : Prop := PSs X st (tG X.K Γ D)
@[irreducible] def S1 (X : Cx) (Γ : GEnv) (st : Stmt) (D : GD) : Prop := PS X st (tG X.K Γ D)
theorem ps_wk {X : Cx} {st : Stmt} {t t' : TS} (h : PS X st t) (w : ∀ D σ H, t' D σ H → t D σ H) : PS X st t' := fun pins s σ H D I q => h pins s σ H D I (w _ _ _ q)
theorem pss_wk {X : Cx} {st : List Stmt} {t t' : TS} (h : PSs X st t) (w : ∀ D σ H, t' D σ H → t D σ H) : PSs X st t' := fun pins s σ H D I q => h pins s σ H D I (w _ _ _ q)
section
variable {X : Cx} {Γ : GEnv} {D : GD} {α β γ : Type} [Py α] [Py β] [Py γ] {e e1 e2 e3 : Expr} {b b1 b2 b3 : Bool} {pos : Pos} {st : Stmt} {rest body orelse : List Stmt}
theorem s_nil (h : D.nx Γ) : S X Γ [] D := by
  with_unfolding_all
    exact pss_wk pss_nil fun De σ H ⟨H0, F, O, Z, n, _⟩ => n Γ σ H O (Same.refl _) Z h
theorem pss_some {X : Cx} {st : List Stmt} {ι : Type 1} {P : ι → Prop} {t : ι → TS} (h : ∀ i, P i → PSs X st (t i)) : PSs X st (fun D σ H => ∃ i, P i ∧ t i D σ H) := fun pins s σ H D I ⟨i, p, q⟩ => h i p pins s σ H D I q
theorem s_seq (h : S1 X Γ st { D with nx := fun Γ' => S X Γ' rest D }) : S X Γ (st :: rest) D := by
  with_unfolding_all
    exact pss_wk (pss_cons h (pss_some (ι := GEnv) (P := fun Γ' => S X Γ' rest D) (t := fun Γ' => tG X.K Γ' D) fun _ q => q)) fun De σ H ⟨H0, F, O, Z, n, r, bk, ct⟩ =>
        ⟨H0, F, O, Z, fun Γ' σ' H' O' sm Z' q => ⟨Γ', q, H0, F, O', Z', fun Γ2 σ2 H2 O2 sm2 Z2 q2 => n Γ2 σ2 H2 O2 (sm.trans sm2) Z2 q2, r, fun Γ2 σ2 H2 O2 sm2 Z2 q2 => bk Γ2 σ2 H2 O2 (sm.trans sm2) Z2 q2,
          fun Γ2 σ2 H2 O2 sm2 Z2 q2 => ct Γ2 σ2 H2 O2 (sm.trans sm2) Z2 q2⟩, r, bk, ct⟩
theorem s_asg (i : Nat) {x : Str} {a : α} {p : Pos} (hN : X.N.Nodup) (he : E X Γ e b a) (h : S X (Γ.set i (some (.val b a))) rest D) (hi : X.N[i]? = some x := by rfl) (hx : Loc X.env.scope x := by first | exact Or.inl rfl | exact Or.inr rfl)
    (hs : swapsWith e (some (.Name x p)) pos.line X.env = pure false := by rfl) (hf : X.fn x = true ∨ X.env.scope.names.lookup x = some .local := by first | exact .inl rfl | exact .inr rfl) : S X Γ (.Assign [.Name x p] e pos :: rest) D := by
  with_unfolding_all
    exact s_seq (ps_wk (ps_set hN hi hx he hs hf) fun De σ H ⟨H0, F, O, Z, n, _⟩ => ⟨H0, F, O, Z, fun v H1 s1 r1 => n _ _ H1 O (off_mono s1) ((Z.go s1).set r1) h⟩)
theorem s_ret {a : α} (he : E X Γ e b a) (h : D.rt (.val b a)) : S X Γ (.Return (some e) pos :: rest) D := by
  with_unfolding_all
    exact s_seq (ps_wk (ps_ret he) fun De σ H ⟨H0, F, O, Z, n, r, _⟩ => ⟨H0, F, O, Z, fun v H1 s1 r1 => r (.val b a) v H1 ((Z.go s1).same) (rp_mono (off_less Z.fo) r1) h⟩)
theorem s_if {c : Bool} (hc : T X Γ e c) (h1 : c = true → S X Γ body { D with nx := fun Γ' => S X Γ' rest D }) (h2 : c = false → S X Γ orelse { D with nx := fun Γ' => S X Γ' rest D }) : S X Γ (.If e body orelse pos :: rest) D := by
  with_unfolding_all
    cases c with
    | true => exact s_seq (ps_wk (ps_if hc (h1 rfl) pss_never) fun De σ H ⟨H0, F, O, Z, n, r, bk, ct⟩ => ⟨H0, F, O, Z, fun H1 s1 => iteT ⟨H0, F, O, Z.go s1, fun Γ2 σ2 H2 O2 sm => n Γ2 σ2 H2 O2 ((off_mono s1).trans sm), r, fun Γ2 σ2 H2 O2 sm => bk Γ2 σ2 H2 O2 ((off_mono s1).trans sm), fun Γ2 σ2 H2 O2 sm => ct Γ2 σ2 H2 O2 ((off_mono s1).trans sm)⟩⟩)
    | false => exact s_seq (ps_wk (ps_if hc pss_never (h2 rfl)) fun De σ H ⟨H0, F, O, Z, n, r, bk, ct⟩ => ⟨H0, F, O, Z, fun H1 s1 => iteF ⟨H0, F, O, Z.go s1, fun Γ2 σ2 H2 O2 sm => n Γ2 σ2 H2 O2 ((off_mono s1).trans sm), r, fun Γ2 σ2 H2 O2 sm => bk Γ2 σ2 H2 O2 ((off_mono s1).trans sm), fun Γ2 σ2 H2 O2 sm => ct Γ2 σ2 H2 O2 ((off_mono s1).trans sm)⟩⟩)
theorem s_if1 {c : Bool} (hc : T X Γ e c) (h1 : c = true → S X Γ body { D with nx := fun Γ' => S X Γ' rest D }) (h2 : c = false → S X Γ rest D) : S X Γ (.If e body [] pos :: rest) D := by
  with_unfolding_all
    exact s_if hc h1 fun z => s_nil (h2 z)

def bodyT (X : Cx) (body : List Stmt) : TS := fun De σ H => ∃ Γ', ∃ D', S X Γ' body D' ∧ tG X.K Γ' D' De σ H
theorem bodyT_ok : PSs X body (bodyT X body) := by
  with_unfolding_all
    exact fun pins s σ H De I ⟨Γ', D', t, q⟩ => (show PSs X body (tG X.K Γ' D') from t) pins s σ H De I q
theorem s_while {ι : Type} (J : ι → GEnv → Prop) (μ : ι → Nat) (i0 : ι) (h0 : J i0 Γ) (ht : ∀ i Γ', J i Γ' → ∃ c, T X Γ' e c ∧ (c = true → S X Γ' body { D with nx := fun Γ2 => ∃ j, J j Γ2 ∧ μ j < μ i, ct := fun Γ2 => ∃ j, J j Γ2 ∧ μ j < μ i, bk := fun Γ2 => S X Γ2 rest D }) ∧ (c = false → S X Γ' rest D))
    (hp : PassesOwn (model X.prog X.w) X.A X.env X.xe := by exact PassesOwn.never) : S X Γ (.While e body [] pos :: rest) D := by
  with_unfolding_all
    refine s_seq (ps_wk (ps_while (tc := fun σ H Q => ∃ Γ', ∃ c, T X Γ' e c ∧ tVT X.K Γ' c σ H Q) (tb := bodyT X body) hp
      (fun pins s σ H Q I ⟨Γ', c, t, q⟩ => (show PT X e (tVT X.K Γ' c) from t) pins s σ H Q I q) bodyT_ok) fun De σ H ⟨H0, F, O, Z, n, r, bk, ct⟩ => ?_)
    refine ⟨fun m σ' H' => ∃ i Γ' O', Same (off H O) (off H' O') ∧ Sta X.K H0 F O' Γ' σ' H' ∧ J i Γ' ∧ m = μ i, ⟨_, i0, Γ, O, Same.refl _, Z, h0, rfl⟩, ?_⟩
    rintro m σ' H' ⟨i, Γ', O', sm, Z', j, rfl⟩
    obtain ⟨c, t, ht1, ht2⟩ := ht i Γ' j
    refine ⟨Γ', c, t, H0, F, O', Z', fun H1 s1 => ?_⟩
    cases c with
    | true =>
      refine iteT ⟨fun σ2 H2 => ∃ i2 Γ2 O2, Same (off H O) (off H2 O2) ∧ Sta X.K H0 F O2 Γ2 σ2 H2 ∧ J i2 Γ2 ∧ μ i2 < μ i, fun σ2 H2 ⟨i2, Γ2, O2, sm2, Z2, j2, l⟩ => ⟨μ i2, l, i2, Γ2, O2, sm2, Z2, j2, rfl⟩, Γ', _, ht1 rfl, H0, F, O', Z'.go s1, ?_, r, ?_, ?_⟩
      · exact fun Γ2 σ2 H2 O2 sm2 Z2 ⟨i2, q1, q2⟩ => ⟨i2, Γ2, O2, sm.trans ((off_mono s1).trans sm2), Z2, q1, q2⟩
      · exact fun Γ2 σ2 H2 O2 sm2 Z2 q => n Γ2 σ2 H2 O2 (sm.trans ((off_mono s1).trans sm2)) Z2 q
      · exact fun Γ2 σ2 H2 O2 sm2 Z2 ⟨i2, q1, q2⟩ => ⟨i2, Γ2, O2, sm.trans ((off_mono s1).trans sm2), Z2, q1, q2⟩
    | false => exact iteF (n Γ' σ' H1 O' (sm.trans (off_mono s1)) (Z'.go s1) (ht2 rfl))
def GP (g : TG) (α : Type) [Py α] (put : Bool → α → GEnv → GEnv) (tc : Nat → Prop) (K : PySem.W.Frag) : Prop :=
  ∀ (b : Bool) (a : α) (H0 : Hp) (F O : Addr → Prop) (Γ : GEnv) (σ : St) (H : Hp) (v : V) (Q : St → Hp → Prop), Sta K H0 F O Γ σ H → Py.rp K (Nf H0 b) (off H O) v a →
    (∀ σ', Sta K H0 F O (put b a Γ) σ' H → σ'.length = σ.length → (∀ j, ¬ tc j → σ'[j]? = σ[j]?) → Q σ' H) → g v σ H Q
def G (X : Cx) (tg : Expr) (g : TG) (α : Type) [Py α] (put : Bool → α → GEnv → GEnv) (tc : Nat → Prop) : Prop := PG X tg g ∧ GP g α put tc X.K
theorem gp_name (i : Nat) {K : PySem.W.Frag} : GP (gName i) α (fun b a Γ => Γ.set i (some (.val b a))) (· = i) K := fun b a H0 F O Γ σ H v Q Z r q => q _ (Z.set r) (List.length_set ..) fun j hj => get_set_ne hj
theorem g_name (i : Nat) {x : Str} (hN : X.N.Nodup) (hi : X.N[i]? = some x := by rfl) (hx : Loc X.env.scope x := by first | exact Or.inl rfl | exact Or.inr rfl) (hf : X.fn x = true ∨ X.env.scope.names.lookup x = some .local := by first | exact .inl rfl | exact .inr rfl) :
    G X (.Name x pos) (gName i) α (fun b a Γ => Γ.set i (some (.val b a))) (· = i) := ⟨pg_name hN hi hx hf, gp_name i⟩
end
section
variable {X : Cx} {Γ : GEnv} {D : GD} {α β γ δ : Type} [Py α] [Py β] [Py γ] [Py δ] {e e1 e2 e3 : Expr} {b b1 b2 b3 : Bool} {pos : Pos} {st : Stmt} {rest body orelse : List Stmt} {tg : Expr} {g : TG} {tc : Nat → Prop}
theorem s_forRange {put : Bool → Int → GEnv → GEnv} {n : Int} {p ps : Pos} (J : Nat → GEnv → Prop) (hg : Gl X "range") (hm : X.mg "range" = none) (hG : G X tg g Int put tc) (he : E X Γ e b n) (h1 : -(2 ^ 62) ≤ n) (h2 : n < 2 ^ 62) (h0 : J 0 Γ)
    (ht : ∀ (i : Nat) Γ', i < n.toNat → J i Γ' → S X (put true (i : Int) Γ') body { D with nx := J (i + 1), ct := J (i + 1), bk := fun Γ2 => S X Γ2 rest D }) (hd : ∀ Γ', J n.toNat Γ' → S X Γ' rest D)
    (hc : X.calm = true := by rfl) (hp : PassesOwn (model X.prog X.w) X.A X.env X.xe := by exact PassesOwn.never) (hs : starEach [e] X.env = [(false, eval e X.env)] := by rfl) (hs1 : starEach [e] X.env = (false, eval e X.env) :: starEach [] X.env := by rfl)
    (hfs : ∀ x, foldedSetIterable (.Call (.Name "range" p) [e] [] ps) X.env x = pure x := by intro _; rfl) : S X Γ (.For tg (.Call (.Name "range" p) [e] [] ps) body [] pos :: rest) D := by
  with_unfolding_all
    refine s_seq (ps_wk (ps_for hp hc (pi_range1 hg hm (pa_cons he pa_nil hs1) hs) hG.1 (tb := bodyT X body) bodyT_ok hfs) fun De σ H ⟨H0, F, O, Z, nx, r, bk, ct⟩ => ?_)
    refine ⟨H0, F, O, Z, fun v H1 s1 r1 => ⟨n, by cases r1; rfl, h1, h2, for_range (lo := 0) (n := n.toNat) (g := g) (tb := bodyT X body) (D := De) (fun i σ' H' => ∃ Γ' O', Same (off H O) (off H' O') ∧ Sta X.K H0 F O' Γ' σ' H' ∧ J i Γ') ⟨Γ, O, off_mono s1, Z.go s1, h0⟩ ?_ ?_⟩⟩
    · rintro i σ' H' hi ⟨Γ', O', sm, Z', j⟩
      refine hG.2 true (i : Int) H0 F O' Γ' σ' H' _ _ Z' (by show V.int _ = V.int _; rw [Int.zero_add]) fun σ2 Z2 _ _ => ?_
      refine ⟨_, _, ht i Γ' hi j, H0, F, O', Z2, ?_, r, ?_, ?_⟩
      · exact fun Γ2 σ2 H2 O2 sm2 Z2 q => ⟨Γ2, O2, sm.trans sm2, Z2, q⟩
      · exact fun Γ2 σ2 H2 O2 sm2 Z2 q => nx Γ2 σ2 H2 O2 (sm.trans sm2) Z2 q
      · exact fun Γ2 σ2 H2 O2 sm2 Z2 q => ⟨Γ2, O2, sm.trans sm2, Z2, q⟩
    · rintro σ' H' ⟨Γ', O', sm, Z', j⟩
      exact nx Γ' σ' H' O' sm Z' (hd Γ' j)
theorem s_forRange2 {put : Bool → Int → GEnv → GEnv} {lo n : Int} {p ps : Pos} (J : Nat → GEnv → Prop) (hg : Gl X "range") (hm : X.mg "range" = none) (hG : G X tg g Int put tc) (he1 : E X Γ e1 b1 lo) (he2 : E X Γ e2 b2 n) (hb : -(2 ^ 62) ≤ lo ∧ lo < 2 ^ 62 ∧ -(2 ^ 62) ≤ n ∧ n < 2 ^ 62) (h0 : J 0 Γ)
    (ht : ∀ (i : Nat) Γ', i < (n - lo).toNat → J i Γ' → S X (put true (lo + i : Int) Γ') body { D with nx := J (i + 1), ct := J (i + 1), bk := fun Γ2 => S X Γ2 rest D }) (hd : ∀ Γ', J (n - lo).toNat Γ' → S X Γ' rest D)
    (hc : X.calm = true := by rfl) (hp : PassesOwn (model X.prog X.w) X.A X.env X.xe := by exact PassesOwn.never) (hs : starEach [e1, e2] X.env = [(false, eval e1 X.env), (false, eval e2 X.env)] := by rfl) (hs2 : starEach [e2] X.env = [(false, eval e2 X.env)] := by rfl)
    (hs3 : starEach [e1, e2] X.env = (false, eval e1 X.env) :: starEach [e2] X.env := by rfl) (hs4 : starEach [e2] X.env = (false, eval e2 X.env) :: starEach [] X.env := by rfl)
    (hfs : ∀ x, foldedSetIterable (.Call (.Name "range" p) [e1, e2] [] ps) X.env x = pure x := by intro _; rfl) : S X Γ (.For tg (.Call (.Name "range" p) [e1, e2] [] ps) body [] pos :: rest) D := by
  with_unfolding_all
    refine s_seq (ps_wk (ps_for hp hc (pi_range2 hg hm (pa_cons he1 (pa_cons he2 pa_nil hs4) hs3) hs hs2) hG.1 (tb := bodyT X body) bodyT_ok hfs) fun De σ H ⟨H0, F, O, Z, nx, r, bk, ct⟩ => ?_)
    refine ⟨H0, F, O, Z, fun v H1 s1 r1 => ⟨H0, F, O, Z.go s1, fun v' H1' s1' r1' => ⟨lo, n, by cases r1; cases r1'; rfl, hb, for_range (lo := lo) (n := (n - lo).toNat) (g := g) (tb := bodyT X body) (D := De) (fun i σ' H' => ∃ Γ' O', Same (off H O) (off H' O') ∧ Sta X.K H0 F O' Γ' σ' H' ∧ J i Γ') ⟨Γ, O, off_mono (s1.trans s1'), Z.go (s1.trans s1'), h0⟩ ?_ ?_⟩⟩⟩
    · rintro i σ' H' hi ⟨Γ', O', sm, Z', j⟩
      refine hG.2 true (lo + i : Int) H0 F O' Γ' σ' H' _ _ Z' rfl fun σ2 Z2 _ _ => ?_
      refine ⟨_, _, ht i Γ' hi j, H0, F, O', Z2, ?_, r, ?_, ?_⟩
      · exact fun Γ2 σ2 H2 O2 sm2 Z2 q => ⟨Γ2, O2, sm.trans sm2, Z2, q⟩
      · exact fun Γ2 σ2 H2 O2 sm2 Z2 q => nx Γ2 σ2 H2 O2 (sm.trans sm2) Z2 q
      · exact fun Γ2 σ2 H2 O2 sm2 Z2 q => ⟨Γ2, O2, sm.trans sm2, Z2, q⟩
    · rintro σ' H' ⟨Γ', O', sm, Z', j⟩
      exact nx Γ' σ' H' O' sm Z' (hd Γ' j)
theorem s_forRange3 {put : Bool → Int → GEnv → GEnv} {lo n c : Int} {p ps : Pos} (J : Nat → GEnv → Prop) (hg : Gl X "range") (hm : X.mg "range" = none) (hG : G X tg g Int put tc) (he1 : E X Γ e1 b1 lo) (he2 : E X Γ e2 b2 n) (he3 : E X Γ e3 b3 c) (hb : -(2 ^ 62) ≤ lo ∧ lo < 2 ^ 62 ∧ -(2 ^ 62) ≤ n ∧ n < 2 ^ 62) (hcc : c ≠ 0 ∧ -1000 ≤ c ∧ c ≤ 1000) (h0 : J 0 Γ)
    (ht : ∀ (i : Nat) Γ', i < (Builtin.Range.rangeSize lo n c).toNat → J i Γ' → S X (put true (lo + i * c : Int) Γ') body { D with nx := J (i + 1), ct := J (i + 1), bk := fun Γ2 => S X Γ2 rest D }) (hd : ∀ Γ', J (Builtin.Range.rangeSize lo n c).toNat Γ' → S X Γ' rest D)
    (hc : X.calm = true := by rfl) (hp : PassesOwn (model X.prog X.w) X.A X.env X.xe := by exact PassesOwn.never)
    (hs1 : starEach [e1, e2, e3] X.env = (false, eval e1 X.env) :: starEach [e2, e3] X.env := by rfl) (hs2 : starEach [e2, e3] X.env = (false, eval e2 X.env) :: starEach [e3] X.env := by rfl) (hs3 : starEach [e3] X.env = (false, eval e3 X.env) :: starEach [] X.env := by rfl)
    (hpl : (backTo ps (starEach [e2, e3] X.env)).any (·.1) = false := by rfl) (hfs : ∀ x, foldedSetIterable (.Call (.Name "range" p) [e1, e2, e3] [] ps) X.env x = pure x := by intro _; rfl) : S X Γ (.For tg (.Call (.Name "range" p) [e1, e2, e3] [] ps) body [] pos :: rest) D := by
  with_unfolding_all
    refine s_seq (ps_wk (ps_for hp hc (pi_range3 hg hm (pa_cons he1 (pa_cons he2 (pa_cons he3 pa_nil hs3) hs2) hs1) hs1 hpl) hG.1 (tb := bodyT X body) bodyT_ok hfs) fun De σ H ⟨H0, F, O, Z, nx, r, bk, ct⟩ => ?_)
    refine ⟨H0, F, O, Z, fun v H1 s1 r1 => ⟨H0, F, O, Z.go s1, fun v' H2 s2 r2 => ⟨H0, F, O, Z.go (s1.trans s2), fun v'' H3 s3 r3 => ⟨lo, n, c, by cases r1; cases r2; cases r3; rfl, hb, hcc, for_rangeC (lo := lo) (c := c) (n := (Builtin.Range.rangeSize lo n c).toNat) (g := g) (tb := bodyT X body) (D := De) (fun i σ' H' => ∃ Γ' O', Same (off H O) (off H' O') ∧ Sta X.K H0 F O' Γ' σ' H' ∧ J i Γ') ⟨Γ, O, off_mono (s1.trans (s2.trans s3)), Z.go (s1.trans (s2.trans s3)), h0⟩ ?_ ?_⟩⟩⟩⟩
    · rintro i σ' H' hi ⟨Γ', O', sm, Z', j⟩
      refine hG.2 true (lo + i * c : Int) H0 F O' Γ' σ' H' _ _ Z' rfl fun σ2 Z2 _ _ => ?_
      refine ⟨_, _, ht i Γ' hi j, H0, F, O', Z2, ?_, r, ?_, ?_⟩
      · exact fun Γ2 σ2 H2 O2 sm2 Z2 q => ⟨Γ2, O2, sm.trans sm2, Z2, q⟩
      · exact fun Γ2 σ2 H2 O2 sm2 Z2 q => nx Γ2 σ2 H2 O2 (sm.trans sm2) Z2 q
      · exact fun Γ2 σ2 H2 O2 sm2 Z2 q => ⟨Γ2, O2, sm.trans sm2, Z2, q⟩
    · rintro σ' H' ⟨Γ', O', sm, Z', j⟩
      exact nx Γ' σ' H' O' sm Z' (hd Γ' j)
theorem s_forL {put : Bool → α → GEnv → GEnv} {xs : List α} (J : Nat → GEnv → Prop) (hG : G X tg g α put tc) (he : E X Γ e b xs) (h0 : J 0 Γ)
    (ht : ∀ (i : Nat) (a : α) Γ', xs[i]? = some a → J i Γ' → S X (put b a Γ') body { D with nx := J (i + 1), ct := J (i + 1), bk := fun Γ2 => S X Γ2 rest D }) (hd : ∀ Γ', J xs.length Γ' → S X Γ' rest D)
    (hc : X.calm = true := by rfl) (hp : PassesOwn (model X.prog X.w) X.A X.env X.xe := by exact PassesOwn.never)
    (hfs : ∀ x, foldedSetIterable e X.env x = pure x := by intro _; rfl) : S X Γ (.For tg e body [] pos :: rest) D := by
  with_unfolding_all
    refine s_seq (ps_wk (ps_for hp hc (pi_list he) hG.1 (tb := bodyT X body) bodyT_ok hfs) fun De σ H ⟨H0, F, O, Z, nx, r, bk, ct⟩ => ?_)
    refine ⟨H0, F, O, Z, fun v H1 s1 r1 => ?_⟩
    obtain ⟨p, vs, e, sq, nn, rr⟩ := r1
    refine ⟨p, e, ⟨vs, (off_same _ _).seq sq⟩, for_list (K := X.K) (a := p) (xs := vs) (g := g) (tb := bodyT X body) (D := De) (fun i σ' H' => ∃ Γ' O', Same (off H1 O) (off H' O') ∧ Sta X.K H0 F O' Γ' σ' H' ∧ J i Γ') ⟨Γ, O, Same.refl _, Z.go s1, h0⟩ ?_ ?_ ?_⟩
    · rintro i σ' H' hi ⟨Γ', O', sm, Z', j⟩
      exact (off_same _ _).seq (sm.seq sq)
    · rintro i x σ' H' hi ⟨Γ', O', sm, Z', j⟩
      obtain ⟨a, h1, h2⟩ := pr_get' rr hi
      refine hG.2 b a H0 F O' Γ' σ' H' _ _ Z' (rp_mono sm h2) fun σ2 Z2 _ _ => ?_
      refine ⟨_, _, ht i a Γ' h1 j, H0, F, O', Z2, ?_, r, ?_, ?_⟩
      · exact fun Γ2 σ2 H2 O2 sm2 Z2 q => ⟨Γ2, O2, sm.trans sm2, Z2, q⟩
      · exact fun Γ2 σ2 H2 O2 sm2 Z2 q => nx Γ2 σ2 H2 O2 ((off_mono s1).trans (sm.trans sm2)) Z2 q
      · exact fun Γ2 σ2 H2 O2 sm2 Z2 q => ⟨Γ2, O2, sm.trans sm2, Z2, q⟩
    · rintro σ' H' ⟨Γ', O', sm, Z', j⟩
      rw [pr_len rr] at j
      exact nx Γ' σ' H' O' ((off_mono s1).trans sm) Z' (hd Γ' j)
end

structure Cal (P : Program) (w : World) (K : PySem.W.Frag) (mg : Str → Option Value) (base : Heap) (k : Nat) (name : Str) (ps : List Str) (sp : Sp) : Prop where
  ex : ∃ (f : Addr) (fd : FuncData), FnOk P w K mg base CX0 k f fd ps sp ∧ Binds K fd ps [] ∧ PySem.W.keepIn K (.ref f) = true ∧ mg name = some (.ref f)
def OwnL (H : Hp) (O : Addr → Prop) : Prop := ∀ p, O p → ∃ xs : Mt, H p = some (mo xs)
def sp1 {α β : Type} [Py α] [Py β] (K : PySem.W.Frag) (pre : α → Prop) (b : Bool) (f : α → β) : Sp := fun vs H Q _ => ∃ O v a, OwnL H O ∧ vs = [v] ∧ Py.rp K .any (off H O) v a ∧ pre a ∧ ∀ r H', Same H H' → Py.rp K (Nf H b) (off H' O) r (f a) → Q r H'
def sp2 {α β γ : Type} [Py α] [Py β] [Py γ] (K : PySem.W.Frag) (pre : α → β → Prop) (b : Bool) (f : α → β → γ) : Sp := fun vs H Q _ => ∃ O v w a c, OwnL H O ∧ vs = [v, w] ∧ Py.rp K .any (off H O) v a ∧ Py.rp K .any (off H O) w c ∧ pre a c ∧ ∀ r H', Same H H' → Py.rp K (Nf H b) (off H' O) r (f a c) → Q r H'
def sp3 {α β γ δ : Type} [Py α] [Py β] [Py γ] [Py δ] (K : PySem.W.Frag) (pre : α → β → γ → Prop) (b : Bool) (f : α → β → γ → δ) : Sp := fun vs H Q _ => ∃ O v w x a c d, OwnL H O ∧ vs = [v, w, x] ∧ Py.rp K .any (off H O) v a ∧ Py.rp K .any (off H O) w c ∧ Py.rp K .any (off H O) x d ∧ pre a c d ∧ ∀ r H', Same H H' → Py.rp K (Nf H b) (off H' O) r (f a c d) → Q r H'
def sp4 {α β γ δ ε : Type} [Py α] [Py β] [Py γ] [Py δ] [Py ε] (K : PySem.W.Frag) (pre : α → β → γ → δ → Prop) (b : Bool) (f : α → β → γ → δ → ε) : Sp := fun vs H Q _ => ∃ O v w x y a c d g, OwnL H O ∧ vs = [v, w, x, y] ∧ Py.rp K .any (off H O) v a ∧ Py.rp K .any (off H O) w c ∧ Py.rp K .any (off H O) x d ∧ Py.rp K .any (off H O) y g ∧ pre a c d g ∧ ∀ r H', Same H H' → Py.rp K (Nf H b) (off H' O) r (f a c d g) → Q r H'
theorem nf_true {H0 H : Hp} {b : Bool} : ∀ p xs, (Nf H0 b).has H p xs → Nn.any.has H p xs := fun _ _ _ => True.intro
section
variable {X : Cx} {Γ : GEnv} {D : GD} {α β γ δ ε : Type} [Py α] [Py β] [Py γ] [Py δ] [Py ε] {e e1 e2 e3 e4 : Expr} {b b1 b2 b3 b4 : Bool} {p pos : Pos} {k : Nat} {name : Str} {ps : List Str}
theorem e_call1 {pre : α → Prop} {f : α → β} {a : α} (C : Cal X.prog X.w X.K X.mg X.base k name ps (sp1 X.K pre b f)) (hr : Room k X.A) (hg : Gl X name) (h1 : E X Γ e1 b1 a) (hp : pre a)
    (hs1 : starEach [e1] X.env = (false, eval e1 X.env) :: starEach [] X.env := by rfl) (hdb : (name == ("__debug__" : Str)) = false := by decide) (hpl : (backTo pos (starEach [] X.env)).any (·.1) = false := by rfl) :
    E X Γ (.Call (.Name name p) [e1] [] pos) b (f a) := by
  with_unfolding_all
    obtain ⟨fa, fd, F, B, kp, m⟩ := C.ex
    exact pe_wk (pe_call F hr hg m kp B .nil pass0 (pa_cons h1 pa_nil hs1) hdb hs1 hpl) fun σ H Q ⟨H0, F, O, S, q⟩ => ⟨H0, F, O, S, fun v1 H1 s1 r1 =>
      ⟨O, v1, a, (S.go s1).own, rfl, rp_wid nf_true r1, hp, fun r H' s' z => q r H' (s1.trans s') ((S.go s1).back z)⟩⟩
theorem e_call2 {pre : α → β → Prop} {f : α → β → γ} {a : α} {c : β} (C : Cal X.prog X.w X.K X.mg X.base k name ps (sp2 X.K pre b f)) (hr : Room k X.A) (hg : Gl X name) (h1 : E X Γ e1 b1 a) (h2 : E X Γ e2 b2 c) (hp : pre a c)
    (hs1 : starEach [e1, e2] X.env = (false, eval e1 X.env) :: starEach [e2] X.env := by rfl) (hs2 : starEach [e2] X.env = (false, eval e2 X.env) :: starEach [] X.env := by rfl) (hdb : (name == ("__debug__" : Str)) = false := by decide) (hpl : (backTo pos (starEach [e2] X.env)).any (·.1) = false := by rfl) :
    E X Γ (.Call (.Name name p) [e1, e2] [] pos) b (f a c) := by
  with_unfolding_all
    obtain ⟨fa, fd, F, B, kp, m⟩ := C.ex
    exact pe_wk (pe_call F hr hg m kp B .nil pass0 (pa_cons h1 (pa_cons h2 pa_nil hs2) hs1) hdb hs1 hpl) fun σ H Q ⟨H0, F, O, S, q⟩ => ⟨H0, F, O, S, fun v1 H1 s1 r1 => ⟨H0, F, O, S.go s1, fun v2 H2 s2 r2 =>
      ⟨O, v1, v2, a, c, (S.go (s1.trans s2)).own, rfl, rp_wid nf_true (rp_mono (off_mono s2) r1), rp_wid nf_true r2, hp, fun r H' s' z => q r H' (s1.trans (s2.trans s')) ((S.go (s1.trans s2)).back z)⟩⟩⟩
theorem e_call3 {pre : α → β → γ → Prop} {f : α → β → γ → δ} {a : α} {c : β} {d : γ} (C : Cal X.prog X.w X.K X.mg X.base k name ps (sp3 X.K pre b f)) (hr : Room k X.A) (hg : Gl X name) (h1 : E X Γ e1 b1 a) (h2 : E X Γ e2 b2 c) (h3 : E X Γ e3 b3 d) (hp : pre a c d)
    (hs1 : starEach [e1, e2, e3] X.env = (false, eval e1 X.env) :: starEach [e2, e3] X.env := by rfl) (hs2 : starEach [e2, e3] X.env = (false, eval e2 X.env) :: starEach [e3] X.env := by rfl) (hs3 : starEach [e3] X.env = (false, eval e3 X.env) :: starEach [] X.env := by rfl)
    (hdb : (name == ("__debug__" : Str)) = false := by decide) (hpl : (backTo pos (starEach [e2, e3] X.env)).any (·.1) = false := by rfl) :
    E X Γ (.Call (.Name name p) [e1, e2, e3] [] pos) b (f a c d) := by
  with_unfolding_all
    obtain ⟨fa, fd, F, B, kp, m⟩ := C.ex
    exact pe_wk (pe_call F hr hg m kp B .nil pass0 (pa_cons h1 (pa_cons h2 (pa_cons h3 pa_nil hs3) hs2) hs1) hdb hs1 hpl) fun σ H Q ⟨H0, F, O, S, q⟩ => ⟨H0, F, O, S, fun v1 H1 s1 r1 => ⟨H0, F, O, S.go s1, fun v2 H2 s2 r2 => ⟨H0, F, O, S.go (s1.trans s2), fun v3 H3 s3 r3 =>
      ⟨O, v1, v2, v3, a, c, d, (S.go (s1.trans (s2.trans s3))).own, rfl, rp_wid nf_true (rp_mono ((off_mono s2).trans (off_mono s3)) r1), rp_wid nf_true (rp_mono (off_mono s3) r2), rp_wid nf_true r3, hp, fun r H' s' z => q r H' (s1.trans (s2.trans (s3.trans s'))) ((S.go (s1.trans (s2.trans s3))).back z)⟩⟩⟩⟩
theorem e_call4 {pre : α → β → γ → δ → Prop} {f : α → β → γ → δ → ε} {a : α} {c : β} {d : γ} {g : δ} (C : Cal X.prog X.w X.K X.mg X.base k name ps (sp4 X.K pre b f)) (hr : Room k X.A) (hg : Gl X name) (h1 : E X Γ e1 b1 a) (h2 : E X Γ e2 b2 c) (h3 : E X Γ e3 b3 d) (h4 : E X Γ e4 b4 g) (hp : pre a c d g)
    (hs1 : starEach [e1, e2, e3, e4] X.env = (false, eval e1 X.env) :: starEach [e2, e3, e4] X.env := by rfl) (hs2 : starEach [e2, e3, e4] X.env = (false, eval e2 X.env) :: starEach [e3, e4] X.env := by rfl) (hs3 : starEach [e3, e4] X.env = (false, eval e3 X.env) :: starEach [e4] X.env := by rfl) (hs4 : starEach [e4] X.env = (false, eval e4 X.env) :: starEach [] X.env := by rfl)
    (hdb : (name == ("__debug__" : Str)) = false := by decide) (hpl : (backTo pos (starEach [e2, e3, e4] X.env)).any (·.1) = false := by rfl) :
    E X Γ (.Call (.Name name p) [e1, e2, e3, e4] [] pos) b (f a c d g) := by
  with_unfolding_all
    obtain ⟨fa, fd, F, B, kp, m⟩ := C.ex
    exact pe_wk (pe_call F hr hg m kp B .nil pass0 (pa_cons h1 (pa_cons h2 (pa_cons h3 (pa_cons h4 pa_nil hs4) hs3) hs2) hs1) hdb hs1 hpl) fun σ H Q ⟨H0, F, O, S, q⟩ => ⟨H0, F, O, S, fun v1 H1 s1 r1 => ⟨H0, F, O, S.go s1, fun v2 H2 s2 r2 => ⟨H0, F, O, S.go (s1.trans s2), fun v3 H3 s3 r3 => ⟨H0, F, O, S.go (s1.trans (s2.trans s3)), fun v4 H4 s4 r4 =>
      ⟨O, v1, v2, v3, v4, a, c, d, g, (S.go (s1.trans (s2.trans (s3.trans s4)))).own, rfl, rp_wid nf_true (rp_mono ((off_mono s2).trans ((off_mono s3).trans (off_mono s4))) r1), rp_wid nf_true (rp_mono ((off_mono s3).trans (off_mono s4)) r2), rp_wid nf_true (rp_mono (off_mono s4) r3), rp_wid nf_true r4, hp, fun r H' s' z => q r H' (s1.trans (s2.trans (s3.trans (s4.trans s')))) ((S.go (s1.trans (s2.trans (s3.trans s4)))).back z)⟩⟩⟩⟩⟩
end
def gst (N : List Str) (gs : List Bd) : GEnv := gs.map some ++ List.replicate (N.length - gs.length) none
def RT {α : Type} [Py α] (b : Bool) (a : α) : GD := { nx := fun _ => False, rt := fun g => g = .val b a }
inductive Args (K : PySem.W.Frag) (H : Hp) : List V → List Bd → Prop
  | nil : Args K H [] []
  | cons {α : Type} [Py α] {v : V} {a : α} {vs : List V} {gs : List Bd} : Py.rp K .any H v a → Args K H vs gs → Args K H (v :: vs) (.val false a :: gs)
theorem Args.len {K : PySem.W.Frag} {H : Hp} : ∀ {vs : List V} {gs : List Bd}, Args K H vs gs → vs.length = gs.length
  | _, _, .nil => rfl
  | _, _, @Args.cons _ _ _ _ _ _ _ _ _ t => congrArg (· + 1) t.len
theorem Args.get {K : PySem.W.Frag} {H0 H : Hp} {O : Addr → Prop} : ∀ {vs : List V} {gs : List Bd} {i : Nat} {g : Bd}, Args K (off H O) vs gs → gs[i]? = some g → ∃ v, vs[i]? = some v ∧ g.ok K H0 O H v ∧ ¬ g.isOwn
  | _, _, _, _, .nil, e => by simp at e
  | _, _, 0, _, @Args.cons _ _ _ _ _ _ _ _ h _, e => by simp at e; subst e; exact ⟨_, rfl, h, fun z => z⟩
  | _, _, i + 1, _, @Args.cons _ _ _ _ _ _ _ _ _ t, e => by
    obtain ⟨a, h1, h2⟩ := Args.get (i := i) t (by simpa using e)
    exact ⟨a, by simpa using h1, h2⟩
theorem sta_start {K : PySem.W.Frag} {H : Hp} {O : Addr → Prop} {N : List Str} {vs : List V} {gs : List Bd} (ho : OwnL H O) (h : Args K (off H O) vs gs) : Sta K H O O (gst N gs) (start N vs) H := by
  have hl := h.len
  have hget : ∀ (i : Nat) (g : Bd), (gst N gs)[i]? = some (some g) → gs[i]? = some g := fun i g e => by
    unfold gst at e
    by_cases hi : i < (gs.map some).length
    · rw [List.getElem?_append_left hi, List.getElem?_map] at e
      cases q : gs[i]? with
      | none => rw [q] at e; cases e
      | some g' => rw [q] at e; simpa using e
    · rw [List.getElem?_append_right (by omega)] at e
      have := List.mem_of_getElem? e
      rw [List.mem_replicate] at this
      cases this.2
  refine ⟨Same.refl _, fun _ z => z, ho, ho, by simp [gst, start, hl], fun i g e _ => ?_, ⟨fun _ _ => False, fun _ _ _ z => z.elim, fun _ _ z => z.elim, fun i g e o => ?_⟩⟩
  · obtain ⟨v, h1, h2, _⟩ := Args.get (H0 := H) h (hget i g e)
    refine ⟨v, ?_, h2⟩
    unfold start
    have hi : i < (vs.map some).length := by
      rw [List.length_map]
      exact (List.getElem?_eq_some_iff.mp h1).1
    rw [List.getElem?_append_left hi, List.getElem?_map, h1]; rfl
  · obtain ⟨_, _, _, no⟩ := Args.get (H0 := H) h (hget i g e)
    exact absurd o no
section
variable {P : Program} {w : World} {K : PySem.W.Frag} {mg : Str → Option Value} {base : Heap} {N ps : List Str} {k : Nat} {x qual : Str} {st : Stmt} {f : Addr} {fd : FuncData}
abbrev cx (P : Program) (w : World) (K : PySem.W.Frag) (mg : Str → Option Value) (base : Heap) (N : List Str) (qual : Str) (st : Stmt) (f : Addr) (cdv : Value) (A : Around) (outer : List Env) (s : Shared) (H : Hp) (E : XK) : Cx := (cxOf CX0 P w K mg base N qual (defScope st) f cdv A outer s H E).nox
def Body (P : Program) (w : World) (K : PySem.W.Frag) (mg : Str → Option Value) (base : Heap) (N : List Str) (qual : Str) (st : Stmt) (f : Addr) (k : Nat) (gs : List Bd) (D : GD) : Prop :=
  ∀ (cdv : Value) (A : Around) (outer : List Env) (s : Shared) (H : Hp) (E : XK), Room k (A.deeper (envOfC qual (defScope st) s.heap.objs.size f cdv)) → S (cx P w K mg base N qual st f cdv A outer s H E) (gst N gs) (defBody st) D
theorem body_run {gs : List Bd} {vs : List V} {H : Hp} {O : Addr → Prop} {α : Type} [Py α] {b : Bool} {a : α} {Q : VK} {cdv : Value} {A : Around} {outer : List Env} {s : Shared} {E : XK} (B : Body P w K mg base N qual st f k gs (RT b a)) (hr : Room k (A.deeper (envOfC qual (defScope st) s.heap.objs.size f cdv)))
    (ho : OwnL H O) (h : Args K (off H O) vs gs) (q : ∀ r H', Same H H' → Py.rp K (Nf H b) (off H' O) r a → Q r H') :
    ∃ t, PSs (cxOf CX0 P w K mg base N qual (defScope st) f cdv A outer s H E).nox (defBody st) t ∧ t { nx := fun _ H' => Q .non H', rt := Q } (start N vs) H := by
  with_unfolding_all
    refine ⟨_, B cdv A outer s H E hr, H, O, O, sta_start ho h, fun _ _ _ _ _ _ z => z.elim, fun g v H' sm z e => ?_, fun _ _ _ _ _ _ z => z.elim, fun _ _ _ _ _ _ z => z.elim⟩
    have e' : g = .val b a := e
    subst e'
    exact q v H' sm z
theorem fn1 {α β : Type} [Py α] [Py β] {pre : α → Prop} {b : Bool} {g : α → β} (F : Fun K x qual st f fd) (sc : FnScope N ps (defScope st)) (hl : ps.length = 1) (B : ∀ a, pre a → Body P w K mg base N qual st f k [.val false a] (RT b (g a))) :
    FnOk P w K mg base CX0 (k + 1) f fd ps (sp1 K pre b g) := by
  with_unfolding_all
    refine F.ok sc (fun vs H Q E h => ?_) fun cdv A outer s H vs Q E hr h => ?_
    · obtain ⟨O, v, a, _, rfl, _⟩ := h; rw [hl]; rfl
    · obtain ⟨O, v, a, ho, rfl, r, hp, q⟩ := h
      exact body_run (B a hp) hr ho (.cons r .nil) q
theorem fn2 {α β γ : Type} [Py α] [Py β] [Py γ] {pre : α → β → Prop} {b : Bool} {g : α → β → γ} (F : Fun K x qual st f fd) (sc : FnScope N ps (defScope st)) (hl : ps.length = 2) (B : ∀ a c, pre a c → Body P w K mg base N qual st f k [.val false a, .val false c] (RT b (g a c))) :
    FnOk P w K mg base CX0 (k + 1) f fd ps (sp2 K pre b g) := by
  with_unfolding_all
    refine F.ok sc (fun vs H Q E h => ?_) fun cdv A outer s H vs Q E hr h => ?_
    · obtain ⟨O, v, v2, a, c, _, rfl, _⟩ := h; rw [hl]; rfl
    · obtain ⟨O, v, v2, a, c, ho, rfl, r, r2, hp, q⟩ := h
      exact body_run (B a c hp) hr ho (.cons r (.cons r2 .nil)) q
theorem fn3 {α β γ δ : Type} [Py α] [Py β] [Py γ] [Py δ] {pre : α → β → γ → Prop} {b : Bool} {g : α → β → γ → δ} (F : Fun K x qual st f fd) (sc : FnScope N ps (defScope st)) (hl : ps.length = 3) (B : ∀ a c d, pre a c d → Body P w K mg base N qual st f k [.val false a, .val false c, .val false d] (RT b (g a c d))) :
    FnOk P w K mg base CX0 (k + 1) f fd ps (sp3 K pre b g) := by
  with_unfolding_all
    refine F.ok sc (fun vs H Q E h => ?_) fun cdv A outer s H vs Q E hr h => ?_
    · obtain ⟨O, v, v2, v3, a, c, d, _, rfl, _⟩ := h; rw [hl]; rfl
    · obtain ⟨O, v, v2, v3, a, c, d, ho, rfl, r, r2, r3, hp, q⟩ := h
      exact body_run (B a c d hp) hr ho (.cons r (.cons r2 (.cons r3 .nil))) q
theorem fn4 {α β γ δ ε : Type} [Py α] [Py β] [Py γ] [Py δ] [Py ε] {pre : α → β → γ → δ → Prop} {b : Bool} {g : α → β → γ → δ → ε} (F : Fun K x qual st f fd) (sc : FnScope N ps (defScope st)) (hl : ps.length = 4) (B : ∀ a c d y, pre a c d y → Body P w K mg base N qual st f k [.val false a, .val false c, .val false d, .val false y] (RT b (g a c d y))) :
    FnOk P w K mg base CX0 (k + 1) f fd ps (sp4 K pre b g) := by
  with_unfolding_all
    refine F.ok sc (fun vs H Q E h => ?_) fun cdv A outer s H vs Q E hr h => ?_
    · obtain ⟨O, v, v2, v3, v4, a, c, d, y, _, rfl, _⟩ := h; rw [hl]; rfl
    · obtain ⟨O, v, v2, v3, v4, a, c, d, y, ho, rfl, r, r2, r3, r4, hp, q⟩ := h
      exact body_run (B a c d y hp) hr ho (.cons r (.cons r2 (.cons r3 (.cons r4 .nil)))) q
end
end L2.EP
namespace L2.EP
open PySem PySem.Spec PyProof.Rows
section
variable {X : Cx} {Γ : GEnv} {α β : Type} [Py α] [Py β] {e : Expr} {b : Bool} {p p2 pos : Pos}
end
end L2.EP
namespace L2.EP
open PySem PySem.Spec PyProof.Rows
def Sm (n : Nat) (i : Int) : Prop := i.natAbs < 2 ^ n
theorem Sm.bits {n : Nat} {i : Int} (h : Sm n i) : Builtin.Int.intBits i ≤ n := by
  unfold Builtin.Int.intBits
  split
  · exact Nat.zero_le _
  · rename_i hi
    have h0 : i.natAbs ≠ 0 := by
      intro z; apply hi; simp; omega
    have := (Nat.log2_lt h0).mpr h
    omega
theorem Sm.le {m n : Nat} {i : Int} (h : Sm m i) (l : m ≤ n) : Sm n i := Nat.lt_of_lt_of_le h (Nat.pow_le_pow_right (by decide) l)
theorem Sm.ok {m n : Nat} {i j : Int} (h : Sm m i) (h' : Sm n j) (l : m ≤ 1048576 := by decide) (l' : n ≤ 1048576 := by decide) : IntMulOk i j := IntMulOk.of_bits (Nat.le_trans h.bits (Nat.le_trans l (by decide))) (Nat.le_trans h'.bits (Nat.le_trans l' (by decide)))
theorem Sm.mul {m n : Nat} {i j : Int} (h : Sm m i) (h' : Sm n j) : Sm (m + n) (i * j) := by
  unfold Sm at *
  rw [Int.natAbs_mul, Nat.pow_add]
  rcases Nat.eq_zero_or_pos j.natAbs with z | z
  · rw [z, Nat.mul_zero]; exact Nat.mul_pos (Nat.two_pow_pos _) (Nat.two_pow_pos _)
  · exact Nat.mul_lt_mul_of_lt_of_le h (Nat.le_of_lt h') (Nat.two_pow_pos _)
theorem Sm.add {m n : Nat} {i j : Int} (h : Sm m i) (h' : Sm n j) : Sm (max m n + 1) (i + j) := by
  have h1 : i.natAbs < 2 ^ max m n := Nat.lt_of_lt_of_le h (Nat.pow_le_pow_right (by decide) (Nat.le_max_left _ _))
  have h2 : j.natAbs < 2 ^ max m n := Nat.lt_of_lt_of_le h' (Nat.pow_le_pow_right (by decide) (Nat.le_max_right _ _))
  have h3 := Int.natAbs_add_le i j
  unfold Sm
  rw [Nat.pow_succ]
  omega
theorem Sm.neg {m : Nat} {i : Int} (h : Sm m i) : Sm m (-i) := by unfold Sm at *; rw [Int.natAbs_neg]; exact h
theorem Sm.of_le {n : Nat} {i j : Int} (h : i.natAbs ≤ j.natAbs) (h' : Sm n j) : Sm n i := Nat.lt_of_le_of_lt h h'
theorem Sm.div {n : Nat} {i j : Int} (h : Sm n j) (hj : j ≠ 0) (l : n ≤ 9000 := by decide) : CDivK i j := ⟨hj, (Nat.log2_lt (by omega)).mpr (Nat.lt_of_lt_of_le h (Nat.pow_le_pow_right (by decide) l))⟩
theorem Sm.of64 {i : Int} (h1 : -(2 ^ 64) < i) (h2 : i < 2 ^ 64) : Sm 64 i := by unfold Sm; omega
theorem mulL {i j : Int} (h1 : -(2 ^ 64) < i) (h2 : i < 2 ^ 64) : IntMulOk i j := CMul.ok (.inl ⟨h1, h2⟩)
theorem mulR {i j : Int} (h1 : -(2 ^ 64) < j) (h2 : j < 2 ^ 64) : IntMulOk i j := CMul.ok (.inr ⟨h1, h2⟩)
theorem cdK {i j : Int} (h : j ≠ 0 := by decide) (h2 : j.natAbs.log2 < 9000 := by decide) : CDivK i j := ⟨h, h2⟩
theorem cpK {i j : Int} (h : 0 ≤ j := by decide) (h2 : j ≤ 1000000 := by decide) (h3 : i.natAbs < 2 ^ 64 := by decide) : CPow i j := ⟨h, h2, h3⟩
theorem hu60 {k : Nat} {A : Around} (hr : Room k A) : A.units + 60 < cLine := by have := hr.un; omega
structure Bu (mg : Str → Option Value) : Prop where
  abs : mg "abs" = none
  len : mg "len" = none
  min : mg "min" = none
  max : mg "max" = none
  range : mg "range" = none
  isinstance : mg "isinstance" = none
  int : mg "int" = none
  bool : mg "bool" = none
  list : mg "list" = none
  tuple : mg "tuple" = none
  sum : mg "sum" = none
  all : mg "all" = none
  zip : mg "zip" = none
  enumerate : mg "enumerate" = none
  any : mg "any" = none
  sorted : mg "sorted" = none
  set : mg "set" = none
  str : mg "str" = none
  reversed : mg "reversed" = none
theorem fmod_pos {a b : Int} (h : 0 < b) : 0 ≤ a.fmod b ∧ a.fmod b < b := ⟨Int.fmod_nonneg_of_pos a h, Int.fmod_lt_of_pos a h⟩
theorem Sm.fmod {n : Nat} {a b : Int} (h : 0 < b) (hb : Sm n b) : Sm n (a.fmod b) := by
  have := fmod_pos (a := a) h
  exact Sm.of_le (by omega) hb
end L2.EP
namespace L2.EP
open PySem PySem.Spec PyProof.Rows
def Df (K : PySem.W.Frag) (x : Str) (st : Stmt) : Prop := ∃ (f : Addr) (fd : FuncData), PySem.W.nsIn K mainGlobals x = some (some (.ref f)) ∧ Fun K x x st f fd
theorem Df.mk {K : PySem.W.Frag} {x : Str} {st : Stmt} {f : Addr} {oc : Value} {od an : Option Addr} {osl : Array (Option Value)} {kV doc pm cdv ct : Value} (a : PySem.W.nsIn K mainGlobals x = some (some (.ref f)))
    (l : K.lookup f = some ⟨oc, od, .func (PySem.W.fnOf x x (defArgs st) (defBody st) (defScope st) .none kV doc pm an cdv ct), osl⟩) (c : PySem.W.codeIn K cdv x = true) (k : PySem.W.keepIn K (.ref f) = true) : Df K x st := ⟨f, _, a, fun_mk l c k⟩
theorem bu_mk {K : PySem.W.Frag} {h : Heap} {mg : Str → Option Value} (X : K.In h) (G : h.Ns mainGlobals mg) (z1 : PySem.W.nsIn K mainGlobals "abs" = some none) (z2 : PySem.W.nsIn K mainGlobals "len" = some none) (z3 : PySem.W.nsIn K mainGlobals "min" = some none) (z4 : PySem.W.nsIn K mainGlobals "max" = some none)
    (z5 : PySem.W.nsIn K mainGlobals "range" = some none) (z6 : PySem.W.nsIn K mainGlobals "isinstance" = some none) (z7 : PySem.W.nsIn K mainGlobals "int" = some none) (z8 : PySem.W.nsIn K mainGlobals "bool" = some none) (z9 : PySem.W.nsIn K mainGlobals "list" = some none) (z10 : PySem.W.nsIn K mainGlobals "tuple" = some none)
    (z11 : PySem.W.nsIn K mainGlobals "sum" = some none) (z12 : PySem.W.nsIn K mainGlobals "all" = some none) (z13 : PySem.W.nsIn K mainGlobals "zip" = some none) (z14 : PySem.W.nsIn K mainGlobals "enumerate" = some none) (z15 : PySem.W.nsIn K mainGlobals "any" = some none) (z16 : PySem.W.nsIn K mainGlobals "sorted" = some none) (z17 : PySem.W.nsIn K mainGlobals "set" = some none) (z18 : PySem.W.nsIn K mainGlobals "str" = some none) (z19 : PySem.W.nsIn K mainGlobals "reversed" = some none) : Bu mg :=
  ⟨PySem.W.mg_none_of X G z1, PySem.W.mg_none_of X G z2, PySem.W.mg_none_of X G z3, PySem.W.mg_none_of X G z4, PySem.W.mg_none_of X G z5, PySem.W.mg_none_of X G z6, PySem.W.mg_none_of X G z7, PySem.W.mg_none_of X G z8, PySem.W.mg_none_of X G z9, PySem.W.mg_none_of X G z10, PySem.W.mg_none_of X G z11, PySem.W.mg_none_of X G z12, PySem.W.mg_none_of X G z13, PySem.W.mg_none_of X G z14, PySem.W.mg_none_of X G z15, PySem.W.mg_none_of X G z16, PySem.W.mg_none_of X G z17, PySem.W.mg_none_of X G z18, PySem.W.mg_none_of X G z19⟩
section
variable {P : Program} {w : World} {K : PySem.W.Frag} {mg : Str → Option Value} {base h : Heap} {x : Str} {st : Stmt} {N ps : List Str} {k : Nat}
theorem Df.cal {sp : Sp} (D : Df K x st) (X : K.In h) (G : h.Ns mainGlobals mg) (hb : ∀ (kV doc pm : Value) (an : Option Addr) (cdv ct : Value) (us : List Value), us.length = ps.length → bindArgs (PySem.W.fnOf x x (defArgs st) (defBody st) (defScope st) .none kV doc pm an cdv ct) ⟨us, []⟩ = pure (ps.zip us))
    (ok : ∀ f fd, Fun K x x st f fd → FnOk P w K mg base CX0 k f fd ps sp) : Cal P w K mg base k x ps sp := by
  obtain ⟨f, fd, a, F⟩ := D
  exact ⟨f, fd, ok f fd F, F.binds hb, F.kp, PySem.W.mg_of X G a⟩
def spLaw (K : PySem.W.Frag) : Sp := sp1 K (fun (ns : List Int) => ns.length ≤ 63) true (fun _ => true)
theorem pr_ints {K : PySem.W.Frag} {N : Nn} {H : Hp} : ∀ ns : List Int, Paired (fun x (b : Int) => Py.rp K N H x b) (ns.map V.int) ns
  | [] => .nil
  | _ :: r => .cons rfl (pr_ints r)
theorem law_start (K : PySem.W.Frag) (H : Hp) (a : Addr) (ns : List Int) (hl : ns.length ≤ 63) (hS : SqL K H a (ns.map V.int)) : spLaw K [.ref a] H (fun v _ => v = .bl true) fun _ _ _ => False :=
  ⟨fun _ => False, .ref a, ns, fun _ z => z.elim, rfl, by rw [off_nil]; exact ⟨a, _, rfl, hS, True.intro, pr_ints ns⟩, hl, fun r H' _ z => z⟩
theorem law_end {fa : Addr} {lp : Program} (D : Df K "law" st) (X : K.In h) (G : h.Ns mainGlobals mg) (hfa : mg "law" = some (.ref fa)) {y : Str}
    (hb : ∀ (kV doc pm : Value) (an : Option Addr) (cdv ct : Value) (s : Shared) (u : Value), BindsTo s (PySem.W.fnOf "law" "law" (defArgs st) (defBody st) (defScope st) .none kV doc pm an cdv ct) ⟨[u], []⟩ [(y, u)])
    (ok : ∀ base, K.In base → base.Ns mainGlobals mg → ∀ f fd, Fun K "law" "law" st f fd → FnOk lp w K mg base CX0 k f fd [y] (spLaw K)) :
    ∃ fd : FuncData, (∀ (s : Shared) (u : Value), BindsTo s fd ⟨[u], []⟩ [(y, u)]) ∧ ∀ base : Heap, K.In base → base.Ns mainGlobals mg → FnOk lp w K mg base CX0 k fa fd [y] (spLaw K) := by
  obtain ⟨f, fd, a, F⟩ := D
  have e := hfa.symm.trans (PySem.W.mg_of X G a)
  cases e
  refine ⟨fd, ?_, fun base kb nb => ok base kb nb _ fd F⟩
  obtain ⟨oc, od, kV, doc, pm, an, cdv, ct, osl, rfl, lk, hcd⟩ := F.ex
  exact hb kV doc pm an cdv ct
end
end L2.EP

namespace L2.EP
open PySem PySem.Spec PyProof.Rows
def ITS {α : Type} [Py α] (K : PySem.W.Frag) (H0 : Hp) (O : Addr → Prop) (b : Bool) (as : List α) (J : It) (H1 : Hp) : Prop :=
  ∀ (H' : Hp) (O' : Addr → Prop), OwnL H' O' → Same (off H1 O) (off H' O') → (∀ (i : Nat) (a : α), as[i]? = some a → J.go i H' ∧ ∀ x H'', J.yld i H' x H'' → Same H' H'' ∧ Py.rp K (Nf H0 b) (off H'' O') x a) ∧ J.stop as.length H'
def EI {α : Type} [Py α] (X : Cx) (Γ : GEnv) (tg iter : Expr) (b : Bool) (as : List α) : Prop := ∃ wi, PI X tg iter wi ∧
  ∀ (σ : St) (H H0 : Hp) (F O : Addr → Prop) (R : It → Hp → Prop), Sta X.K H0 F O Γ σ H → (∀ J H1, Same H H1 → ITS X.K H0 O b as J H1 → R J H1) → wi σ H R
def seqI (lo c : Int) (n : Nat) : List Int := (List.range n).map fun i : Nat => lo + (i : Int) * c
theorem seqI_get {lo c : Int} {n i : Nat} {a : Int} (h : (seqI lo c n)[i]? = some a) : i < n ∧ a = lo + (i : Int) * c := by
  unfold seqI at h
  rw [List.getElem?_map] at h
  by_cases hi : i < n
  · rw [List.getElem?_range hi] at h
    exact ⟨hi, (Option.some.inj h).symm⟩
  · rw [List.getElem?_eq_none (by rw [List.length_range]; omega)] at h; cases h
theorem seqI_len (lo c : Int) (n : Nat) : (seqI lo c n).length = n := by unfold seqI; rw [List.length_map, List.length_range]
section
variable {X : Cx} {Γ : GEnv} {α β : Type} [Py α] [Py β] {e e1 e2 e3 tg : Expr} {b b1 b2 b3 : Bool}
theorem ei_list {xs : List α} (he : E X Γ e b xs) : EI X Γ tg e b xs := by
  with_unfolding_all
    exact ⟨_, pi_list he, fun σ H H0 F O R Z q => ⟨H0, F, O, Z, fun v H1 s1 r1 => by
      obtain ⟨p, vs, e, sq, nn, rr⟩ := r1
      refine ⟨p, e, ⟨vs, (off_same _ _).seq sq⟩, q _ H1 s1 fun H' O' _ sm => ⟨fun i a ha => ?_, ?_⟩⟩
      · obtain ⟨x, h1, h2⟩ := pr_get rr ha
        refine ⟨⟨vs, x, (off_same _ _).seq (sm.seq sq), h1⟩, fun y H'' hy => ?_⟩
        obtain ⟨e', hy⟩ := hy
        subst e'
        have := hy vs ((off_same _ _).seq (sm.seq sq))
        rw [h1] at this; cases this
        exact ⟨Same.refl _, rp_mono sm h2⟩
      · exact ⟨vs, (off_same _ _).seq (sm.seq sq), by rw [pr_len rr]; exact Nat.le_refl _⟩⟩⟩
theorem its_range {K : PySem.W.Frag} {H0 : Hp} {O : Addr → Prop} {lo : Int} {n : Nat} {H1 : Hp} : ITS K H0 O true (seqI lo 1 n) (Itr lo n) H1 := fun H' O' _ sm => ⟨fun i a ha => by
  obtain ⟨h1, h2⟩ := seqI_get ha
  refine ⟨h1, fun x H'' hy => ?_⟩
  obtain ⟨e1, e2⟩ := hy
  subst e1 e2 h2
  exact ⟨Same.refl _, by show V.int _ = V.int _; rw [Int.mul_one]⟩, by show n ≤ _; rw [seqI_len]; exact Nat.le_refl _⟩
theorem ei_range {n : Int} {p ps : Pos} (hg : Gl X "range") (hm : X.mg "range" = none) (he : E X Γ e b n) (h1 : -(2 ^ 62) ≤ n) (h2 : n < 2 ^ 62)
    (hs : starEach [e] X.env = [(false, eval e X.env)] := by rfl) (hs1 : starEach [e] X.env = (false, eval e X.env) :: starEach [] X.env := by rfl) : EI X Γ tg (.Call (.Name "range" p) [e] [] ps) true (seqI 0 1 n.toNat) := by
  with_unfolding_all
    exact ⟨_, pi_range1 hg hm (pa_cons he pa_nil hs1) hs, fun σ H H0 F O R Z q => ⟨H0, F, O, Z, fun v H1 s1 r1 => ⟨n, by cases r1; rfl, h1, h2, q _ H1 s1 its_range⟩⟩⟩
theorem s_for {D : GD} {pos : Pos} {rest body : List Stmt} {g : TG} {tc : Nat → Prop} {put : Bool → α → GEnv → GEnv} {as : List α} (J : Nat → GEnv → Prop) (hG : G X tg g α put tc) (he : EI X Γ tg e b as) (h0 : J 0 Γ)
    (ht : ∀ (i : Nat) (a : α) Γ', as[i]? = some a → J i Γ' → S X (put b a Γ') body { D with nx := J (i + 1), ct := J (i + 1), bk := fun Γ2 => S X Γ2 rest D }) (hd : ∀ Γ', J as.length Γ' → S X Γ' rest D)
    (hc : X.calm = true := by rfl) (hp : PassesOwn (model X.prog X.w) X.A X.env X.xe := by exact PassesOwn.never)
    (hfs : ∀ x, foldedSetIterable e X.env x = pure x := by intro _; rfl) : S X Γ (.For tg e body [] pos :: rest) D := by
  with_unfolding_all
    obtain ⟨wi, hi, hw⟩ := he
    refine s_seq (ps_wk (ps_for hp hc hi hG.1 (tb := bodyT X body) bodyT_ok hfs) fun De σ H ⟨H0, F, O, Z, nx, r, bk, ct⟩ => ?_)
    refine hw σ H H0 F O _ Z fun Jt H1 s1 its => ?_
    refine ⟨fun i m σ' H' => m = as.length - i ∧ i ≤ as.length ∧ ∃ Γ' O', Same (off H1 O) (off H' O') ∧ Sta X.K H0 F O' Γ' σ' H' ∧ J i Γ', ⟨_, rfl, Nat.zero_le _, Γ, O, Same.refl _, Z.go s1, h0⟩, ?_⟩
    rintro i m σ' H' ⟨rfl, hi', Γ', O', sm, Z', j⟩
    obtain ⟨t1, t2⟩ := its H' O' Z'.own sm
    by_cases hlt : i < as.length
    · have ha : as[i]? = some as[i] := List.getElem?_eq_getElem hlt
      obtain ⟨go, yl⟩ := t1 i _ ha
      refine .inr ⟨go, fun σ2 H2 => ∃ Γ2 O2, Same (off H1 O) (off H2 O2) ∧ Sta X.K H0 F O2 Γ2 σ2 H2 ∧ J (i + 1) Γ2, fun σ2 H2 q => ⟨as.length - (i + 1), by omega, rfl, hlt, q⟩, fun x H'' hy => ?_⟩
      obtain ⟨s2, rx⟩ := yl x H'' hy
      refine hG.2 b as[i] H0 F O' Γ' σ' H'' _ _ (Z'.go s2) rx fun σ2 Z2 _ _ => ?_
      refine ⟨_, _, ht i _ Γ' ha j, H0, F, O', Z2, ?_, r, ?_, ?_⟩
      · exact fun Γ2 σ2 H2 O2 sm2 Z2 q => ⟨Γ2, O2, sm.trans ((off_mono s2).trans sm2), Z2, q⟩
      · exact fun Γ2 σ2 H2 O2 sm2 Z2 q => nx Γ2 σ2 H2 O2 ((off_mono s1).trans (sm.trans ((off_mono s2).trans sm2))) Z2 q
      · exact fun Γ2 σ2 H2 O2 sm2 Z2 q => ⟨Γ2, O2, sm.trans ((off_mono s2).trans sm2), Z2, q⟩
    · have ei : i = as.length := by omega
      subst ei
      exact .inl ⟨t2, nx Γ' σ' H' O' ((off_mono s1).trans sm) Z' (hd Γ' j)⟩
end

def cB : Option (Option Bd) → Option Bd
  | some (some (@Bd.val _ _ b a)) => some (.val b a)
  | _ => none
def cΓ (Γ : GEnv) (tn : List Str) (js : List Nat) : GEnv := tn.map (fun _ => none) ++ js.map fun j => cB Γ[j]?
theorem cB_val {o : Option (Option Bd)} {g : Bd} (h : cB o = some g) : o = some (some g) ∧ ¬ g.isOwn := by
  unfold cB at h
  split at h
  · cases h; exact ⟨rfl, fun z => z⟩
  · cases h
theorem cΓ_get {Γ : GEnv} {σ : St} {tn : List Str} {js : List Nat} {i : Nat} {g : Bd} (h : (cΓ Γ tn js)[i]? = some (some g)) : ∃ j, js[i - tn.length]? = some j ∧ tn.length ≤ i ∧ Γ[j]? = some (some g) ∧ ¬ g.isOwn ∧ (cσ σ tn js)[i]? = some ((σ[j]?).getD none) := by
  unfold cΓ at h
  unfold cσ
  by_cases hi : i < tn.length
  · rw [List.getElem?_append_left (by simpa using hi), List.getElem?_map] at h
    cases q : tn[i]? with
    | none => rw [q] at h; cases h
    | some y => rw [q] at h; cases h
  · rw [List.getElem?_append_right (by simpa using hi), List.getElem?_map, List.length_map] at h
    rw [List.getElem?_append_right (by simpa using hi), List.getElem?_map, List.length_map]
    cases q : js[i - tn.length]? with
    | none => rw [q] at h; cases h
    | some j =>
      rw [q] at h
      obtain ⟨h1, h2⟩ := cB_val (Option.some.inj h)
      exact ⟨j, rfl, by omega, h1, h2, rfl⟩
section
variable {K : PySem.W.Frag} {H0 : Hp} {F O : Addr → Prop} {Γ : GEnv} {σ : St} {H : Hp}
theorem Sta.blk (Z : Sta K H0 F O Γ σ H) (tn : List Str) (js : List Nat) : Sta K H0 F O (cΓ Γ tn js) (cσ σ tn js) H where
  same := Z.same
  fo := Z.fo
  f0 := Z.f0
  own := Z.own
  len := by unfold cΓ cσ; simp
  at_ := fun i g e n => by
    obtain ⟨j, h1, h2, h3, h4, h5⟩ := cΓ_get (σ := σ) e
    obtain ⟨v, q1, q2⟩ := Z.at_ j g h3 n
    exact ⟨v, by rw [h5, q1]; rfl, q2⟩
  dis := ⟨fun _ _ => False, fun _ _ _ z => z.elim, fun _ _ z => z.elim, fun i g e o => by
    obtain ⟨_, _, _, _, h4, _⟩ := cΓ_get (σ := σ) e
    exact absurd o h4⟩
theorem Sta.ownIn {H' : Hp} {D : Addr} {xs : List V} (Z : Sta K H0 F O Γ σ H) (hD : H D = none) (sm : Same H H') (hx : H' D = some (.lst xs)) : Sta K H0 F (fun p => O p ∨ p = D) Γ σ H' ∧ Same (off H O) (off H' fun p => O p ∨ p = D) := by
  have so : Same (off H O) (off H' fun p => O p ∨ p = D) := fun b o h => by
    obtain ⟨h1, h2⟩ := off_some h
    have hb : b ≠ D := fun z => by rw [z, hD] at h2; cases h2
    rw [off_get (by rintro (z | z); exact h1 z; exact hb z)]; exact sm _ _ h2
  refine ⟨⟨Z.same.trans sm, fun p h => .inl (Z.fo p h), Z.f0, fun p h => ?_, Z.len, fun i g e n => ?_, ?_⟩, so⟩
  · rcases h with h | h
    · obtain ⟨ys, q⟩ := Z.own p h
      exact ⟨ys, sm _ _ q⟩
    · subst h; exact ⟨.inl xs, hx⟩
  · obtain ⟨v, q1, q2⟩ := Z.at_ i g e n
    refine ⟨v, q1, ?_⟩
    cases g with
    | val b a => exact rp_mono so q2
    | own b as => exact q2
    | dpo a => exact q2
  · obtain ⟨D', d1, d2, d3⟩ := Z.dis
    refine ⟨D', d1, fun i p h => ⟨.inl (d2 i p h).1, (d2 i p h).2⟩, fun i g e o => ?_⟩
    obtain ⟨v, q1, q2⟩ := d3 i g e o
    exact ⟨v, q1, Bd.goD q2 (fun p ys _ z => sm _ _ z) so (fun p z => (d2 i p z).1) Z.own⟩
end
section
variable {X : Cx} {Γ : GEnv} {D : GD} {α β : Type} [Py α] [Py β] {elt target iter c : Expr} {b b' : Bool} {pos : Pos} {scope : Scope} {tn : List Str} {js : List Nat} {g : TG} {tc : Nat → Prop} {put : Bool → α → GEnv → GEnv} {as : List α} {f : α → β} {p : α → Bool} {ifs : List Expr}
def teC (X : Cx) (tn : List Str) (js : List Nat) (scope : Scope) (elt : Expr) (β : Type) [Py β] (b : Bool) : TE := fun σ H Q => ∃ Γ', ∃ v : β, (∀ C s H fp, E (blk X (cN X tn js) scope C s H fp) Γ' elt b v) ∧ tV X.K Γ' b v σ H Q
@[irreducible] def FT (X : Cx) (Γ : GEnv) (ifs : List Expr) (c : Bool) : Prop := PF X ifs (tVT X.K Γ c)
def ttC (X : Cx) (tn : List Str) (js : List Nat) (scope : Scope) (ifs : List Expr) : TT := fun σ H Q => ∃ Γ' c, (∀ C s H fp, FT (blk X (cN X tn js) scope C s H fp) Γ' ifs c) ∧ tVT X.K Γ' c σ H Q
theorem ft_nil : FT X Γ [] true := by
  with_unfolding_all
    exact fun pins s σ H Q I ⟨H0, F, O, Z, q⟩ => pf_nil pins s σ H Q I (q H (Same.refl _))
theorem ft_one {k : Bool} (h : T X Γ c k) : FT X Γ [c] k := by
  with_unfolding_all
    exact pf_one h
theorem comp_wk {wi : TI} (hw : ∀ (σ : St) (H H0 : Hp) (F O : Addr → Prop) (R : It → Hp → Prop), Sta X.K H0 F O Γ σ H → (∀ J H1, Same H H1 → ITS X.K H0 O b as J H1 → R J H1) → wi σ H R)
    (hgp : GP g α put tc X.K) (htc : ∀ j, tc j → j < tn.length)
    (ht : ∀ (i : Nat) (a : α), as[i]? = some a → ∀ C s H fp, FT (blk X (cN X tn js) scope C s H fp) (put b a (cΓ Γ tn js)) ifs (p a))
    (hb : ∀ (i : Nat) (a : α), as[i]? = some a → p a = true → ∀ C s H fp, E (blk X (cN X tn js) scope C s H fp) (put b a (cΓ Γ tn js)) elt b' (f a)) (hl : as.length ≤ 1000)
    {σ : St} {H : Hp} {Q : VK} {H0 : Hp} {F O : Addr → Prop} (Z : Sta X.K H0 F O Γ σ H) (q : ∀ v H', Same H H' → Py.rp X.K (Nf H0 b') (off H' O) v ((as.filter p).map f) → Q v H') :
    tLC wi tn js g (ttC X tn js scope ifs) (teC X tn js scope elt β b') σ H Q := by
  with_unfolding_all
    refine hw σ H H0 F O _ Z fun J H1 s1 its D hD => ?_
    have Z1 := Z.go s1
    refine ⟨fun i m H' xs => m = as.length - i ∧ i ≤ as.length ∧ Same H1 H' ∧ H' D = some (.lst xs) ∧ Paired (fun x a => Py.rp X.K (Nf H0 b') (off H' fun p => O p ∨ p = D) x a) xs (((as.take i).filter p).map f),
      ⟨_, rfl, Nat.zero_le _, same_upd hD _, upd_same, .nil⟩, ?_⟩
    rintro i m H' xs ⟨rfl, hi, sm, hx, rr⟩
    refine ⟨hx, ?_⟩
    obtain ⟨Z', so⟩ := Z1.ownIn hD sm hx
    obtain ⟨t1, t2⟩ := its H' _ Z'.own so
    by_cases hlt : i < as.length
    · have ha : as[i]? = some as[i] := List.getElem?_eq_getElem hlt
      have htk : as.take (i + 1) = as.take i ++ [as[i]] := by rw [List.take_succ, ha]; rfl
      obtain ⟨go, yl⟩ := t1 i _ ha
      refine .inr ⟨go, fun x H'' hy => ?_⟩
      obtain ⟨s2, rx⟩ := yl x H'' hy
      refine hgp b as[i] H0 F _ (cΓ Γ tn js) (cσ σ tn js) H'' x _ ((Z'.go s2).blk tn js) rx fun σ2 Z2 l2 k2 => ?_
      refine ⟨⟨fun j v hj e => ?_, l2⟩, _, _, ht i _ ha, H0, F, _, Z2, fun H3 s3 => ?_⟩
      · rw [k2 j fun z => absurd (htc j z) (Nat.not_lt.mpr hj)]; exact e
      cases hp : p as[i] with
      | false =>
        refine iteF ⟨as.length - (i + 1), by omega, rfl, hlt, sm.trans (s2.trans s3), s3 _ _ (s2 _ _ hx), ?_⟩
        rw [htk, List.filter_append, List.filter_cons, hp]
        simp only [Bool.false_eq_true, if_false, List.filter_nil, List.append_nil]
        exact pr_imp (fun _ _ z => rp_mono (off_mono (s2.trans s3)) z) rr
      | true =>
        refine iteT ⟨_, _, hb i _ ha hp, H0, F, _, Z2.go s3, fun y H4 s4 ry => ?_⟩
        have hx4 : H4 D = some (.lst xs) := s4 _ _ (s3 _ _ (s2 _ _ hx))
        have hOD : (fun p => O p ∨ p = D) D := .inr rfl
        refine ⟨hx4, ?_, as.length - (i + 1), by omega, rfl, hlt, ?_, upd_same, ?_⟩
        · have := pr_len rr
          rw [List.length_map] at this
          have h2 := List.length_filter_le p (as.take i)
          have h3 := List.length_take_le i as
          exact Nat.lt_of_le_of_lt (by omega) (small1000 hl)
        · exact fun c o z => by
            have hc : c ≠ D := fun w => by rw [w, hD] at z; cases z
            rw [upd_ne hc]; exact s4 _ _ (s3 _ _ (s2 _ _ (sm _ _ z)))
        · rw [off_upd hOD, htk, List.filter_append, List.filter_cons, hp]
          simp only [if_true, List.filter_nil, List.map_append, List.map_cons, List.map_nil]
          exact pr_app (pr_imp (fun _ _ z => rp_mono (off_mono (s2.trans (s3.trans s4))) z) rr) (.cons ry .nil)
    · have ei : i = as.length := by omega
      subst ei
      rw [List.take_length] at rr
      have hxo : off H' O D = some (.lst xs) := by rw [off_get (Z1.notOwn hD)]; exact hx
      refine .inl ⟨t2, q _ H' (s1.trans sm) ⟨D, xs, rfl, SqL.of hxo, Nf.wk (Z1.free0 hD) hxo, ?_⟩⟩
      · exact pr_imp (fun _ _ z => rp_mono (off_less fun _ w => .inl w) z) rr
theorem teC_ok {C : Addr} {s : Shared} {H : Hp} {fp : List Addr} : PE (blk X (cN X tn js) scope C s H fp) elt (teC X tn js scope elt β b') := by
  with_unfolding_all
    exact fun pins s' σ H' Q I ⟨Γ', v, h, q⟩ => (show PE (blk X (cN X tn js) scope C s H fp) elt (tV X.K Γ' b' v) from h C s H fp) pins s' σ H' Q I q
theorem ttC_ok {C : Addr} {s : Shared} {H : Hp} {fp : List Addr} : PF (blk X (cN X tn js) scope C s H fp) ifs (ttC X tn js scope ifs) := by
  with_unfolding_all
    exact fun pins s' σ H' Q I ⟨Γ', c, h, q⟩ => (show PF (blk X (cN X tn js) scope C s H fp) ifs (tVT X.K Γ' c) from h C s H fp) pins s' σ H' Q I q
theorem e_compF (tn : List Str) (js : List Nat) (S : CScope X scope tn js) (he : EI X Γ target iter b as) (hgp : GP g α put tc X.K) (hg : ∀ C s H fp, PG (blk X (cN X tn js) scope C s H fp) target g) (htc : ∀ j, tc j → j < tn.length)
    (ht : ∀ (i : Nat) (a : α), as[i]? = some a → ∀ C s H fp, FT (blk X (cN X tn js) scope C s H fp) (put b a (cΓ Γ tn js)) ifs (p a))
    (hb : ∀ (i : Nat) (a : α), as[i]? = some a → p a = true → ∀ C s H fp, E (blk X (cN X tn js) scope C s H fp) (put b a (cΓ Γ tn js)) elt b' (f a)) (hl : as.length ≤ 1000) (hc : X.calm = true := by rfl)
    (hs : ∀ x, foldedSetIterable iter X.env x = pure x := by intro _; rfl) : E X Γ (.ListComp elt [⟨target, iter, ifs, 0⟩] scope pos) b' ((as.filter p).map f) := by
  with_unfolding_all
    obtain ⟨wi, hi, hw⟩ := he
    exact pe_wk (pe_lc S hc hi (fun C s H fp => ⟨hg C s H fp, ttC_ok, teC_ok⟩) hs) fun σ H Q ⟨H0, F, O, Z, q⟩ => comp_wk hw hgp htc ht hb hl Z q
theorem e_comp (tn : List Str) (js : List Nat) (S : CScope X scope tn js) (he : EI X Γ target iter b as) (hgp : GP g α put tc X.K) (hg : ∀ C s H fp, PG (blk X (cN X tn js) scope C s H fp) target g) (htc : ∀ j, tc j → j < tn.length)
    (hb : ∀ (i : Nat) (a : α), as[i]? = some a → ∀ C s H fp, E (blk X (cN X tn js) scope C s H fp) (put b a (cΓ Γ tn js)) elt b' (f a)) (hl : as.length ≤ 1000) (hc : X.calm = true := by rfl)
    (hs : ∀ x, foldedSetIterable iter X.env x = pure x := by intro _; rfl) : E X Γ (.ListComp elt [⟨target, iter, [], 0⟩] scope pos) b' (as.map f) := by
  with_unfolding_all
    have h := e_compF (pos := pos) (p := fun _ => true) tn js S he hgp hg htc (fun i a _ C s H fp => ft_nil) (fun i a ha _ => hb i a ha) hl hc hs
    rw [List.filter_eq_self.mpr (fun _ _ => rfl)] at h
    exact h
theorem s_compF (i : Nat) {y : Str} {py spos : Pos} {rest : List Stmt} (hN : X.N.Nodup) (tn : List Str) (js : List Nat) (S' : CScope X scope tn js) (he : EI X Γ target iter b as) (hgp : GP g α put tc X.K) (hg : ∀ C s H fp, PG (blk X (cN X tn js) scope C s H fp) target g) (htc : ∀ j, tc j → j < tn.length)
    (ht : ∀ (i : Nat) (a : α), as[i]? = some a → ∀ C s H fp, FT (blk X (cN X tn js) scope C s H fp) (put b a (cΓ Γ tn js)) ifs (p a))
    (hb : ∀ (i : Nat) (a : α), as[i]? = some a → p a = true → ∀ C s H fp, E (blk X (cN X tn js) scope C s H fp) (put b a (cΓ Γ tn js)) elt b' (f a)) (hl : as.length ≤ 1000)
    (h : S X (Γ.set i (some (.val b' ((as.filter p).map f)))) rest D) (hiN : X.N[i]? = some y := by rfl) (hy : Loc X.env.scope y := by first | exact Or.inl rfl | exact Or.inr rfl)
    (hf : X.fn y = true ∨ X.env.scope.names.lookup y = some .local := by first | exact .inl rfl | exact .inr rfl) (hc : X.calm = true := by rfl)
    (hsw : swapsWith (.ListComp elt [⟨target, iter, ifs, 0⟩] scope pos) (some (.Name y py)) spos.line X.env = pure true := by rfl)
    (hs : ∀ x, foldedSetIterable iter X.env x = pure x := by intro _; rfl) : EP.S X Γ (.Assign [.Name y py] (.ListComp elt [⟨target, iter, ifs, 0⟩] scope pos) spos :: rest) D := by
  with_unfolding_all
    obtain ⟨wi, hi, hw⟩ := he
    exact s_seq (ps_wk (ps_setLC hN hiN hy hf S' hc hi (fun C s H fp => ⟨hg C s H fp, ttC_ok, teC_ok⟩) hsw hs) fun De σ H ⟨H0, F, O, Z, n, _⟩ => comp_wk hw hgp htc ht hb hl Z fun v H1 s1 r1 => n _ _ H1 O (off_mono s1) ((Z.go s1).set r1) h)
theorem s_comp (i : Nat) {y : Str} {py spos : Pos} {rest : List Stmt} (hN : X.N.Nodup) (tn : List Str) (js : List Nat) (S' : CScope X scope tn js) (he : EI X Γ target iter b as) (hgp : GP g α put tc X.K) (hg : ∀ C s H fp, PG (blk X (cN X tn js) scope C s H fp) target g) (htc : ∀ j, tc j → j < tn.length)
    (hb : ∀ (i : Nat) (a : α), as[i]? = some a → ∀ C s H fp, E (blk X (cN X tn js) scope C s H fp) (put b a (cΓ Γ tn js)) elt b' (f a)) (hl : as.length ≤ 1000)
    (h : S X (Γ.set i (some (.val b' (as.map f)))) rest D) (hiN : X.N[i]? = some y := by rfl) (hy : Loc X.env.scope y := by first | exact Or.inl rfl | exact Or.inr rfl)
    (hf : X.fn y = true ∨ X.env.scope.names.lookup y = some .local := by first | exact .inl rfl | exact .inr rfl) (hc : X.calm = true := by rfl)
    (hsw : swapsWith (.ListComp elt [⟨target, iter, [], 0⟩] scope pos) (some (.Name y py)) spos.line X.env = pure true := by rfl)
    (hs : ∀ x, foldedSetIterable iter X.env x = pure x := by intro _; rfl) : EP.S X Γ (.Assign [.Name y py] (.ListComp elt [⟨target, iter, [], 0⟩] scope pos) spos :: rest) D := by
  with_unfolding_all
    refine s_compF (p := fun _ => true) i hN tn js S' he hgp hg htc (fun i a _ C s H fp => ft_nil) (fun i a ha _ => hb i a ha) hl ?_ hiN hy hf hc hsw hs
    rw [List.filter_eq_self.mpr (fun _ _ => rfl)]
    exact h
end
end L2.EP

namespace L2.EP
open PySem PySem.Spec PyProof.Rows
section
variable {X : Cx}
theorem call_sumL (hc : X.calm = true) : CallR X (.builtin "sum") (fun xs H Q => ∃ p, ∃ ns : List Int, xs = [.ref p] ∧ SqL X.K H p (ns.map V.int) ∧ Q (.int ns.sum) H) := by
  intro pins s σ H xs us Q I r h
  obtain ⟨p, ns, rfl, sq, q⟩ := h
  obtain ⟨u, rfl, rx⟩ := vals1 r
  cases rx
  obtain ⟨its, rr, pl, _⟩ := I.list sq
  have hi := intsAre_of rr
  obtain ⟨ys, hx⟩ := hi.allInts.items
  have hl' : s.heap.IsList p (intItems ys) := hx ▸ pl.isList
  refine sum_intListG (I.ok.hd hc) hl' fun h' tk t' hk => ?_
  have e1 : ns = ys.toList.map (·.1) := by
    rw [← nums_intItems, ← hx]
    exact (show numsOf its.toArray.toList = ns from hi.numsOf).symm
  have e2 : preSum (numAt ys) ys.size = ns.sum := by
    rw [preSum_eq, List.take_of_length_le (by simp), e1]
  rw [e2]
  exact ⟨.int _, H, I.kept hk, ⟨_, rfl⟩, q⟩
end
theorem pr_int {K : PySem.W.Frag} {N : Nn} {H : Hp} : ∀ {xs : List V} {bs : List Int}, Paired (fun x (b : Int) => Py.rp K N H x b) xs bs → xs = bs.map V.int
  | _, _, .nil => rfl
  | _, _, .cons h t => by rw [show _ = V.int _ from h, pr_int t]; rfl
section
variable {X : Cx} {Γ : GEnv} {α β γ : Type} [Py α] [Py β] [Py γ] {e e1 e2 e3 : Expr} {b b1 b2 b3 : Bool} {pos : Pos}
theorem e_sum {ns : List Int} {p : Pos} (hc : X.calm = true) (hg : Gl X "sum") (hm : X.mg "sum" = none) (ha : E X Γ e b ns) (hs : starEach [e] X.env = (false, eval e X.env) :: starEach [] X.env := by rfl) : E X Γ (.Call (.Name "sum" p) [e] [] pos) true ns.sum := by
  with_unfolding_all
    exact pe_wk (pe_callB (call_sumL hc) hg hm PyProof.Rows.boot_sum (pa_cons ha pa_nil hs) (he := hs)) fun σ H Q ⟨H0, F, O, S, q⟩ => ⟨H0, F, O, S, fun v H1 s1 r1 => by
        obtain ⟨p, vs, e, sq, n, r⟩ := r1
        rw [pr_int r] at sq
        exact ⟨p, ns, by rw [e], (off_same _ _).seq sq, q _ H1 s1 rfl⟩⟩
theorem e_from {xs : List α} {k : Int} {p2 : Pos} (ha : E X Γ e1 b xs) (hb : E X Γ e2 b2 k) (h0 : 0 ≤ k) : E X Γ (.Subscript e1 (.Slice (some e2) none none p2) pos) b (xs.drop k.toNat) := by
  with_unfolding_all
    exact pe_wk (pe_slice sl_list ha (po_some hb) po_none) fun σ H Q ⟨H0, F, O, S, q⟩ => ⟨H0, F, O, S, fun v H1 s1 r1 => ⟨H0, F, O, S.go s1, fun w H2 s2 r2 => by
        obtain ⟨p, vs, e, sq, n, r⟩ := r1
        refine ⟨k, r2, p, vs, e, (off_same _ _).seq ((off_mono s2).seq sq), fun l hl => ?_⟩
        obtain ⟨z1, z2⟩ := laid_lst (xs := cutV vs (some k) none) ((S.go s1).go s2) hl
        refine q _ _ (s1.trans (s2.trans z1)) ⟨l, _, rfl, SqL.of z2, Nf.wk (((S.go s1).go s2).free0 hl) z2, ?_⟩
        have ec : cutV vs (some k) none = vs.drop k.toNat := by
          unfold cutV
          have hk : k = ((k.toNat : Nat) : Int) := by omega
          rw [hk, HT.sIx_nat, HT.sIx_none]
          simp only [Int.toNat_natCast]
          by_cases hkn : k.toNat ≤ vs.length
          · rw [Nat.min_eq_left hkn, List.take_of_length_le (by rw [List.length_drop]; exact Nat.le_refl _)]
          · rw [Nat.min_eq_right (by omega), List.drop_eq_nil_of_le (Nat.le_refl _), List.drop_eq_nil_of_le (by omega)]; simp
        have rr := pr_imp (fun _ _ z => rp_mono ((off_mono s2).trans (off_mono z1)) z) (pr_drop k.toNat r)
        rw [← ec] at rr
        exact rr⟩⟩
end
end L2.EP

namespace L2.EP
open PySem PySem.Spec PyProof.Rows
def ckS (osc : Scope) (N : List Str) (scope : Scope) (js : List Nat) : Bool :=
  (scope.kind == .function) && scope.names.all (fun x => (!(x.2 == .local) || scope.names.lookup x.1 == some .local) && (!(x.2 == .free) || (scope.names.lookup x.1 == some .free && (osc.names.lookup x.1 == some .cell || osc.names.lookup x.1 == some .free))) && scope.names.all (fun y => !(x.1 == y.1) || x.2 == y.2)) &&
    js.all (fun j => match N[j]? with | some x => scope.names.lookup x == some .free | none => false)
theorem cscope {X : Cx} {scope : Scope} {tn : List Str} {js : List Nat} (osc : Scope) (N : List Str) (h1 : X.env.scope = osc) (h2 : X.N = N) (h : ckS osc N scope js = true) : CScope X scope tn js := by
  subst h1 h2
  unfold ckS at h
  simp only [Bool.and_eq_true, List.all_eq_true] at h
  obtain ⟨⟨hk, ha⟩, hj⟩ := h
  refine ⟨by simpa using hk, fun x hx e => ?_, fun x hx e => ?_, fun x hx y hy e => ?_, fun j hjm => ?_⟩
  · obtain ⟨⟨h1, h2⟩, h3⟩ := ha x hx
    simpa [e] using h1
  · obtain ⟨⟨h1, h2⟩, h3⟩ := ha x hx
    have h2' : (scope.names.lookup x.1 == some .free && (X.env.scope.names.lookup x.1 == some .cell || X.env.scope.names.lookup x.1 == some .free)) = true := by simpa [e] using h2
    obtain ⟨q1, q2⟩ := Bool.and_eq_true_iff.mp h2'
    refine ⟨by simpa using q1, ?_⟩
    rcases Bool.or_eq_true_iff.mp q2 with z | z
    · exact .inl (show X.env.scope.names.lookup x.1 = _ by simpa using z)
    · exact .inr (show X.env.scope.names.lookup x.1 = _ by simpa using z)
  · obtain ⟨⟨h1, h2⟩, h3⟩ := ha x hx
    have := h3 y hy
    simpa [e] using this
  · have := hj j hjm
    split at this
    · rename_i x hx
      exact ⟨x, hx, by simpa using this⟩
    · cases this
theorem rel_at {env : Env} {x : Str} : ∀ (names : List (Str × NameKind)), (names.map fun (n, k) => if (k == NameKind.free && env.scope.kind == .function && env.kindOf n == some .cell) then (n, NameKind.cell) else (n, k)).lookup x =
    (names.lookup x).map fun k => if (k == NameKind.free && env.scope.kind == .function && env.kindOf x == some .cell) then NameKind.cell else k
  | [] => rfl
  | (n, k) :: r => by
    have ih := rel_at (env := env) (x := x) r
    by_cases e : x = n
    · subst e
      cases hc : (k == NameKind.free && env.scope.kind == .function && env.kindOf x == some .cell) <;>
        simp only [hc, List.map_cons, List.lookup_cons, beq_self_eq_true, if_true, Option.map_some, Bool.false_eq_true, if_false]
    · have hn : (x == n) = false := by simpa using e
      cases hc : (k == NameKind.free && env.scope.kind == .function && env.kindOf n == some .cell) <;>
        simp only [hc, hn, List.map_cons, List.lookup_cons, if_true, Bool.false_eq_true, if_false] <;> exact ih
theorem relabel_cell {env : Env} {names : List (Str × NameKind)} {x : Str} (h : names.lookup x = some .cell) : (names.map fun (n, k) => if (k == NameKind.free && env.scope.kind == .function && env.kindOf n == some .cell) then (n, NameKind.cell) else (n, k)).lookup x = some .cell := by
  rw [rel_at, h]; rfl
theorem pg_cn {X : Cx} {scope : Scope} {tn : List Str} {js : List Nat} {C : Addr} {s : Shared} {H : Hp} {fp : List Addr} {x : Str} {pos : Pos} (i : Nat) (N : List Str) (h : cN X tn js = N := by rfl) (hd : N.Nodup := by decide +kernel) (hi : N[i]? = some x := by rfl)
    (hl : scope.names.lookup x = some .local ∨ scope.names.lookup x = some .cell := by first | exact .inl rfl | exact .inr rfl) : PG (blk X (cN X tn js) scope C s H fp) (.Name x pos) (gName i) := by
  refine pg_name (show (cN X tn js).Nodup by rw [h]; exact hd) (show (cN X tn js)[i]? = some x by rw [h]; exact hi) ?_ ?_
  · rcases hl with z | z
    · exact .inl (lookup_relabel_local z)
    · exact .inr (relabel_cell z)
  · rcases hl with z | z
    · exact .inr (lookup_relabel_local z)
    · refine .inl ?_
      show (match scope.names.lookup x with | some .cell => true | _ => false) = true
      rw [z]
theorem lt_of_eq {i n : Nat} (h : i < n := by decide) : ∀ j, j = i → j < n := fun j e => by rw [e]; exact h
end L2.EP

namespace L2.EP
open PySem PySem.Spec PyProof.Rows
section
variable {K : PySem.W.Frag} {H0 : Hp} {F O : Addr → Prop} {Γ : GEnv} {σ : St} {H H' : Hp}
theorem Sta.putOwn {v : V} {i : Nat} (Z : Sta K H0 F O Γ σ H) (sm : Same H H') (N : Addr → Prop) (hN : ∀ q, N q → H q = none ∧ ∃ xs : Mt, H' q = some (mo xs)) (g : Bd) (hg : g.isOwn) (hv : g.okD K H0 (fun p => O p ∨ N p) H' N v) :
    Sta K H0 F (fun p => O p ∨ N p) (Γ.set i (some g)) (σ.set i (some v)) H' ∧ Same (off H O) (off H' fun p => O p ∨ N p) := by
  have so : Same (off H O) (off H' fun p => O p ∨ N p) := fun b o h => by
    obtain ⟨h1, h2⟩ := off_some h
    have hb : ¬ N b := fun z => by rw [(hN b z).1] at h2; cases h2
    rw [off_get (by rintro (z | z); exact h1 z; exact hb z)]; exact sm _ _ h2
  refine ⟨⟨Z.same.trans sm, fun p h => .inl (Z.fo p h), Z.f0, fun p h => ?_, by rw [List.length_set, List.length_set]; exact Z.len, fun j g' e n => ?_, ?_⟩, so⟩
  · rcases h with h | h
    · obtain ⟨ys, q⟩ := Z.own p h
      exact ⟨ys, sm _ _ q⟩
    · exact (hN p h).2
  · by_cases hj : j = i
    · subst hj
      obtain ⟨hl, e'⟩ := get_set_some e
      subst e'; exact absurd hg n
    · rw [get_set_ne hj] at e
      obtain ⟨w, q1, q2⟩ := Z.at_ j g' e n
      refine ⟨w, by rw [get_set_ne hj]; exact q1, ?_⟩
      cases g' with
      | val b a => exact rp_mono so q2
      | own b as => exact q2
      | dpo a => exact q2
  · obtain ⟨D, d1, d2, d3⟩ := Z.dis
    refine ⟨fun j q => (j = i ∧ N q) ∨ (j ≠ i ∧ D j q), fun j k q h1 h2 => ?_, fun j q h => ?_, fun j g' e o => ?_⟩
    · rcases h1 with ⟨e1, n1⟩ | ⟨e1, n1⟩ <;> rcases h2 with ⟨e2, n2⟩ | ⟨e2, n2⟩
      · rw [e1, e2]
      · exact absurd (d2 k q n2).1 (Z.notOwn (hN q n1).1)
      · exact absurd (d2 j q n1).1 (Z.notOwn (hN q n2).1)
      · exact d1 j k q n1 n2
    · rcases h with ⟨_, n⟩ | ⟨_, n⟩
      · exact ⟨.inr n, Z.free0 (hN q n).1⟩
      · exact ⟨.inl (d2 j q n).1, (d2 j q n).2⟩
    · by_cases hj : j = i
      · subst hj
        obtain ⟨hl, e'⟩ := get_set_some e
        subst e'
        refine ⟨v, get_set_eq (by rw [Z.len]; exact hl), ?_⟩
        have : (fun q => (j = j ∧ N q) ∨ (j ≠ j ∧ D j q)) = N := funext fun q => propext ⟨fun z => by rcases z with ⟨_, z⟩ | ⟨z, _⟩; exact z; exact absurd rfl z, fun z => .inl ⟨rfl, z⟩⟩
        show Bd.okD K H0 (fun p => O p ∨ N p) H' (fun q => (j = j ∧ N q) ∨ (j ≠ j ∧ D j q)) v g
        rw [this]; exact hv
      · rw [get_set_ne hj] at e
        obtain ⟨w, q1, q2⟩ := d3 j g' e o
        refine ⟨w, by rw [get_set_ne hj]; exact q1, ?_⟩
        have : (fun q => (j = i ∧ N q) ∨ (j ≠ i ∧ D j q)) = D j := funext fun q => propext ⟨fun z => by rcases z with ⟨z, _⟩ | ⟨_, z⟩; exact absurd z hj; exact z, fun z => .inr ⟨hj, z⟩⟩
        show Bd.okD K H0 (fun p => O p ∨ N p) H' (fun q => (j = i ∧ N q) ∨ (j ≠ i ∧ D j q)) w g'
        rw [this]
        exact Bd.goD q2 (fun p ys _ z => sm _ _ z) so (fun p z => (d2 j p z).1) Z.own
theorem Sta.writeM {i : Nat} {g : Bd} (Z : Sta K H0 F O Γ σ H) (hg : Γ[i]? = some (some g)) (ho : g.isOwn) : ∃ v D, σ[i]? = some (some v) ∧ g.okD K H0 O H D v ∧ (∀ p, D p → O p ∧ H0 p = none) ∧
    ∀ (p : Addr) (ys : Mt) (g' : Option Bd), D p → (∀ g'', g' = some g'' → g''.isOwn ∧ g''.okD K H0 O (upd H p (mo ys)) D v) → Sta K H0 F O (Γ.set i g') σ (upd H p (mo ys)) ∧ off (upd H p (mo ys)) O = off H O := by
  obtain ⟨D, d1, d2, d3⟩ := Z.dis
  obtain ⟨v, q1, q2⟩ := d3 i g hg ho
  refine ⟨v, D i, q1, q2, d2 i, fun p ys g' hp hok => ?_⟩
  have hOp := (d2 i p hp).1
  have eo := off_upd (H := H) (o := mo ys) hOp
  refine ⟨⟨fun b o z => ?_, Z.fo, Z.f0, fun b hb => ?_, by rw [List.length_set]; exact Z.len, fun j g2 e n => ?_, D, d1, d2, fun j g2 e o => ?_⟩, eo⟩
  · have : b ≠ p := fun w => by rw [w, (d2 i p hp).2] at z; cases z
    rw [upd_ne this]; exact Z.same _ _ z
  · by_cases hbp : b = p
    · subst hbp; exact ⟨ys, upd_same⟩
    · rw [upd_ne hbp]; exact Z.own b hb
  · by_cases hj : j = i
    · subst hj
      have hl : j < Γ.length := (List.getElem?_eq_some_iff.mp hg).1
      rw [get_set_eq hl] at e
      have e' : g' = some g2 := Option.some.inj e
      exact absurd (hok g2 e').1 n
    · rw [get_set_ne hj] at e
      obtain ⟨w, q3, q4⟩ := Z.at_ j g2 e n
      refine ⟨w, q3, ?_⟩
      cases g2 with
      | val b a =>
        show Py.rp K _ (off (upd H p _) O) w a
        rw [eo]; exact q4
      | own b as => exact q4
      | dpo a => exact q4
  · by_cases hj : j = i
    · subst hj
      have hl : j < Γ.length := (List.getElem?_eq_some_iff.mp hg).1
      rw [get_set_eq hl] at e
      have e' : g' = some g2 := Option.some.inj e
      exact ⟨v, q1, (hok g2 e').2⟩
    · rw [get_set_ne hj] at e
      obtain ⟨w, q3, q4⟩ := d3 j g2 e o
      refine ⟨w, q3, Bd.goD q4 (fun q xs hq z => ?_) (by rw [eo]; exact Same.refl _) (fun q z => (d2 j q z).1) Z.own⟩
      have : q ≠ p := fun w => hj (d1 j i q hq (w ▸ hp))
      rw [upd_ne this]; exact z
theorem Sta.write {i : Nat} {g : Bd} (Z : Sta K H0 F O Γ σ H) (hg : Γ[i]? = some (some g)) (ho : g.isOwn) : ∃ v D, σ[i]? = some (some v) ∧ g.okD K H0 O H D v ∧ (∀ p, D p → O p ∧ H0 p = none) ∧
    ∀ (p : Addr) (ys : List V) (g' : Option Bd), D p → (∀ g'', g' = some g'' → g''.isOwn ∧ g''.okD K H0 O (upd H p (.lst ys)) D v) → Sta K H0 F O (Γ.set i g') σ (upd H p (.lst ys)) ∧ off (upd H p (.lst ys)) O = off H O := by
  obtain ⟨v, D, a, b, c, f⟩ := Z.writeM hg ho
  exact ⟨v, D, a, b, c, fun p ys => f p (.inl ys)⟩
theorem Sta.freeze {i : Nat} {g g' : Bd} (Z : Sta K H0 F O Γ σ H) (hg : Γ[i]? = some (some g)) (ho : g.isOwn) (hn : ¬ g'.isOwn)
    (hk : ∀ (D O' : Addr → Prop) v, g.okD K H0 O H D v → (∀ p, D p → H0 p = none ∧ ¬ O' p) → Same (off H O) (off H O') → (∀ p xs, Rd H p (.tup xs) → Rd (off H O') p (.tup xs)) → g'.ok K H0 O' H v) :
    ∃ O', Sta K H0 F O' (Γ.set i (some g')) σ H ∧ Same (off H O) (off H O') := by
  obtain ⟨D, d1, d2, d3⟩ := Z.dis
  obtain ⟨v, q1, q2⟩ := d3 i g hg ho
  have so : Same (off H O) (off H fun p => O p ∧ ¬ D i p) := off_less fun p h => h.1
  refine ⟨fun p => O p ∧ ¬ D i p, ⟨Z.same, fun p h => ⟨Z.fo p h, fun z => ?_⟩, Z.f0, fun p h => Z.own p h.1, by rw [List.length_set]; exact Z.len, fun j g2 e n => ?_, fun j q => j ≠ i ∧ D j q, fun j k q h1 h2 => d1 j k q h1.2 h2.2, fun j q h => ⟨⟨(d2 j q h.2).1, fun z => h.1 (d1 j i q h.2 z)⟩, (d2 j q h.2).2⟩, fun j g2 e o => ?_⟩, so⟩
  · obtain ⟨xs, w⟩ := Z.f0 p h
    rw [(d2 i p z).2] at w; cases w
  · by_cases hj : j = i
    · subst hj
      obtain ⟨_, e'⟩ := get_set_some e
      subst e'
      refine ⟨v, q1, hk (D j) _ v q2 (fun p z => ⟨(d2 j p z).2, fun w => w.2 z⟩) so fun p xs q => ?_⟩
      have hp : ∀ u, (H p = some (.tup u) ∨ ∃ o, H p = some (.frz o (.tup u))) → ¬ (O p ∧ ¬ D j p) := fun u z w => by
        obtain ⟨ys, w'⟩ := Z.own p w.1
        rcases z with z | ⟨o, z⟩
        · rw [z] at w'; rcases ys with ys | ys | ys <;> cases w'
        · rw [z] at w'; rcases ys with ys | ys | ys <;> cases w'
      have hp' := hp xs q
      rcases q with q | ⟨o, q⟩
      · exact .inl (by rw [off_get hp']; exact q)
      · exact .inr ⟨o, by rw [off_get hp']; exact q⟩
    · rw [get_set_ne hj] at e
      obtain ⟨w, q3, q4⟩ := Z.at_ j g2 e n
      refine ⟨w, q3, ?_⟩
      cases g2 with
      | val b a => exact rp_mono so q4
      | own b as => exact q4
      | dpo a => exact q4
  · have hj : j ≠ i := by
      rintro rfl
      obtain ⟨_, e'⟩ := get_set_some e
      subst e'; exact hn o
    rw [get_set_ne hj] at e
    obtain ⟨w, q3, q4⟩ := d3 j g2 e o
    refine ⟨w, q3, ?_⟩
    have : (fun q => j ≠ i ∧ D j q) = D j := funext fun q => propext ⟨fun z => z.2, fun z => ⟨hj, z⟩⟩
    show Bd.okD K H0 (fun p => O p ∧ ¬ D i p) H (fun q => j ≠ i ∧ D j q) w g2
    rw [this]
    exact Bd.goD q4 (fun p ys _ z => z) so (fun p z => (d2 j p z).1) Z.own
theorem ok_own {α : Type} [Py α] {b : Bool} {as : List α} {D O' : Addr → Prop} {v : V} (h : (Bd.own b as).okD K H0 O H D v) (hD : ∀ p, D p → H0 p = none ∧ ¬ O' p) (so : Same (off H O) (off H O')) : (Bd.val b as).ok K H0 O' H v := by
  obtain ⟨p, xs, e, o, q, r⟩ := h
  have hx : off H O' p = some (.lst xs) := by rw [off_get (hD p o).2]; exact q
  exact ⟨p, xs, e, SqL.of hx, Nf.wk (hD p o).1 hx, pr_imp (fun _ _ z => rp_mono so z) r⟩
theorem ok_dpo {α : Type} [Py α] {a : α} {D O' : Addr → Prop} {v : V} (h : (Bd.dpo a).okD K H0 O H D v) (hD : ∀ p, D p → H0 p = none ∧ ¬ O' p) (ht : ∀ p xs, Rd H p (.tup xs) → Rd (off H O') p (.tup xs)) : (Bd.val true a).ok K H0 O' H v := by
  refine Py.tr (fun p xs q n => ?_) ht h
  obtain ⟨n1, n2⟩ := n
  have hx : off H O' p = some (mo xs) := by rw [off_get (hD p n1).2]; exact n2
  exact ⟨Mo.of hx, (hD p n1).1, hx⟩
end
section
variable {X : Cx} {Γ : GEnv} {D : GD} {α β γ : Type} [Py α] [Py β] [Py γ] {e e1 e2 : Expr} {b b1 b2 : Bool} {pos : Pos} {rest st : List Stmt}
theorem s_own (i : Nat) (α : Type) [Py α] {x : Str} {p p2 : Pos} (hN : X.N.Nodup) (h : S X (Γ.set i (some (.own true ([] : List α)))) rest D) (hi : X.N[i]? = some x := by rfl) (hx : Loc X.env.scope x := by first | exact Or.inl rfl | exact Or.inr rfl)
    (hs : swapsWith (.List [] p2) (some (.Name x p)) pos.line X.env = pure false := by rfl) (hf : X.fn x = true ∨ X.env.scope.names.lookup x = some .local := by first | exact .inl rfl | exact .inr rfl) : S X Γ (.Assign [.Name x p] (.List [] p2) pos :: rest) D := by
  with_unfolding_all
    exact s_seq (ps_wk (ps_set hN hi hx (pe_lst pa_nil) hs hf) fun De σ H ⟨H0, F, O, Z, n, _⟩ => ⟨Nat.zero_le _, fun q hq => by
        obtain ⟨Z', so⟩ := Z.putOwn (i := i) (v := .ref q) (same_upd hq (.lst [])) (· = q) (fun r e => by subst e; exact ⟨hq, .inl [], upd_same⟩) (Bd.own true ([] : List α)) True.intro ⟨q, [], rfl, rfl, upd_same, .nil⟩
        exact n _ _ _ _ so Z' h⟩)
theorem s_append (i : Nat) {as : List α} {a : α} {x : Str} {p ap cp : Pos} (hg : Γ[i]? = some (some (.own b as))) (he : E X Γ e b a) (hl : as.length ≤ 1000) (h : S X (Γ.set i (some (.own b (as ++ [a])))) rest D) (hi : X.N[i]? = some x := by rfl)
    (hv : Vis X.env.scope x := by first | exact Or.inl rfl | exact Or.inr (Or.inl rfl) | exact Or.inr (Or.inr rfl)) (hd : (x == ("__debug__" : Str)) = false := by decide) (hcd : (x == ("__classdict__" : Str)) = false := by decide)
    (hbase : attributeBase (.Name x p) "append" X.env (eval (.Name x p) X.env) = eval (.Name x p) X.env := by rfl)
    (hfew : ((backTo cp (starEach [e] X.env)).all (fun x => !x.1) && (backToKw cp (keywordEach [] X.env)).all (fun x => x.1.isSome)
      && decide (([e] : List Expr).length + ([] : List Keyword).length + (if ([] : List Keyword).isEmpty then 0 else 1) < 30)) = true := by rfl)
    (hline : (ap.endLine == cp.line) = true := by rfl) (hs : starEach [e] X.env = (false, eval e X.env) :: starEach [] X.env := by rfl) (hplain : (backTo cp (starEach [] X.env)).any (·.1) = false := by rfl)
    (hsw : swapsWith (.Call (.Attribute (.Name x p) "append" ap) [e] [] cp) none pos.line X.env = pure false := by rfl) :
    S X Γ (.Expr (.Call (.Attribute (.Name x p) "append" ap) [e] [] cp) pos :: rest) D := by
  with_unfolding_all
    exact s_seq (ps_wk (ps_expr (pe_bm PySem.F.plainAttrs_list PySem.F.slot_list_append PySem.F.type_list_append mt_append (pv i hi hv hd hcd) (pa_cons he pa_nil hs) hbase hfew hline hs hplain) hsw) fun De σ H ⟨H0, F, O, Z, n, _⟩ => by
        obtain ⟨v, Di, hv1, ⟨q, xs, hq1, hq2, hq3, hq4⟩, _, _⟩ := Z.write hg True.intro
        subst hq1
        refine ⟨.ref q, hv1, .inl ⟨rfl, xs, SqL.of hq3⟩, H0, F, O, Z, fun y H2 s2 ry => ⟨q, xs, y, rfl, rfl, s2 _ _ hq3, ?_, ?_⟩⟩
        · rw [pr_len hq4]; exact small1000 hl
        · obtain ⟨v', D', hv2, ⟨q', xs', w1, w2, w3, w4⟩, hO', wr⟩ := (Z.go s2).write hg True.intro
          rw [hv1] at hv2
          have ev : V.ref q = v' := by injection hv2 with z; injection z
          subst ev
          cases w1
          have ex : xs' = xs := by
            have := s2 _ _ hq3
            rw [w3] at this; cases this; rfl
          subst ex
          obtain ⟨Z', eo⟩ := wr q (xs' ++ [y]) (some (.own b (as ++ [a]))) w2 fun g'' e' => by
            cases e'
            refine ⟨True.intro, q, _, rfl, w2, upd_same, ?_⟩
            rw [off_upd (hO' q w2).1]
            exact pr_app w4 (.cons ry .nil)
          exact n _ _ _ _ (by rw [eo]; exact off_mono s2) Z' h)
theorem pss_frz {g g' : Bd} (i : Nat) (hg : Γ[i]? = some (some g)) (ho : g.isOwn) (hn : ¬ g'.isOwn)
    (hk : ∀ (H0 H : Hp) (O D O' : Addr → Prop) v, g.okD X.K H0 O H D v → (∀ p, D p → H0 p = none ∧ ¬ O' p) → Same (off H O) (off H O') → (∀ p xs, Rd H p (.tup xs) → Rd (off H O') p (.tup xs)) → g'.ok X.K H0 O' H v)
    (h : S X (Γ.set i (some g')) st D) : S X Γ st D := by
  with_unfolding_all
    exact pss_wk h fun De σ H ⟨H0, F, O, Z, n, r, bk, ct⟩ => by
      obtain ⟨O', Z', so⟩ := Z.freeze hg ho hn fun Di O' v => hk H0 H O Di O' v
      exact ⟨H0, F, O', Z', fun Γ2 σ2 H2 O2 sm => n Γ2 σ2 H2 O2 (so.trans sm), r, fun Γ2 σ2 H2 O2 sm => bk Γ2 σ2 H2 O2 (so.trans sm), fun Γ2 σ2 H2 O2 sm => ct Γ2 σ2 H2 O2 (so.trans sm)⟩
theorem s_freeze (i : Nat) {as : List α} (hg : Γ[i]? = some (some (.own b as))) (h : S X (Γ.set i (some (.val b as))) st D) : S X Γ st D := by
  with_unfolding_all
    exact pss_frz (g' := .val b as) i hg True.intro (fun z => z) (fun H0 H O Di O' v z1 z2 z3 _ => ok_own z1 z2 z3) h
theorem s_thaw (i : Nat) {a : α} (hg : Γ[i]? = some (some (.dpo a))) (h : S X (Γ.set i (some (.val true a))) st D) : S X Γ st D := by
  with_unfolding_all
    exact pss_frz (g' := .val true a) i hg True.intro (fun z => z) (fun H0 H O Di O' v z1 z2 _ z4 => ok_dpo z1 z2 z4) h
theorem s_asg2 (i j : Nat) {x y : Str} {u : α × β} {p1 p2 p3 : Pos} {k : Nat} (hN : X.N.Nodup) (he : E X Γ e b u) (h : S X ((Γ.set i (some (.val b u.1))).set j (some (.val b u.2))) rest D) (hc : X.calm = true := by rfl) (hi : X.N[i]? = some x := by rfl) (hj : X.N[j]? = some y := by rfl)
    (hx : Loc X.env.scope x := by first | exact Or.inl rfl | exact Or.inr rfl) (hy : Loc X.env.scope y := by first | exact Or.inl rfl | exact Or.inr rfl)
    (hf : X.fn x = true ∨ X.env.scope.names.lookup x = some .local := by first | exact .inl rfl | exact .inr rfl) (hf2 : X.fn y = true ∨ X.env.scope.names.lookup y = some .local := by first | exact .inl rfl | exact .inr rfl)
    (hs : swapsWithSole [.Tuple [.Name x p1, .Name y p2] k p3] e pos.line X.env = pure false := by rfl) (hw : swappedStores [.Tuple [.Name x p1, .Name y p2] k p3] e X.env = pure none := by rfl)
    (h1 : (assignEach [.Tuple [.Name x p1, .Name y p2] k p3] X.env).map (·.2) = [assign (.Tuple [.Name x p1, .Name y p2] k p3) X.env] := by rfl) (hn : (assignEach [.Name x p1, .Name y p2] X.env).length = 2 := by rfl)
    (hst : (assignEach [.Name x p1, .Name y p2] X.env).findIdx? (·.1) = none := by rfl) (ha1 : assignEach [.Name x p1, .Name y p2] X.env = (false, assign (.Name x p1) X.env) :: assignEach [.Name y p2] X.env := by rfl) (ha2 : assignEach [.Name y p2] X.env = (false, assign (.Name y p2) X.env) :: assignEach [] X.env := by rfl) :
    S X Γ (.Assign [.Tuple [.Name x p1, .Name y p2] k p3] e pos :: rest) D := by
  with_unfolding_all
    exact s_seq (ps_wk (ps_asg he (pg_tup hc (pgs_cons (pg_name hN hi hx hf) (pgs_cons (pg_name hN hj hy hf2) pgs_nil))) hs hw h1) fun De σ H ⟨H0, F, O, Z, n, _⟩ => ⟨H0, F, O, Z, fun v H1 s1 r1 => by
        obtain ⟨q, v1, v2, e', sq, g1, g2⟩ := r1
        refine ⟨q, _, e', sqT_rd (off_same _ _) sq, rfl, v1, [v2], rfl, v2, [], rfl, rfl, ?_⟩
        exact n _ _ H1 O (off_mono s1) (((Z.go s1).set g1).set g2) h⟩)
theorem gp_two (i j : Nat) {K : PySem.W.Frag} : GP (gTup K 2 (gCons (gName i) (gCons (gName j) gNil))) (α × β) (fun b u Γ => (Γ.set i (some (.val b u.1))).set j (some (.val b u.2))) (fun k => k = i ∨ k = j) K := fun b u H0 F O Γ σ H v Q Z r q => by
  obtain ⟨p, v1, v2, e', sq, g1, g2⟩ := r
  refine ⟨p, _, e', sqT_rd (off_same _ _) sq, rfl, v1, [v2], rfl, v2, [], rfl, rfl, ?_⟩
  exact q _ ((Z.set g1).set g2) (by rw [List.length_set, List.length_set]) fun k hk => by rw [get_set_ne fun z => hk (.inr z), get_set_ne fun z => hk (.inl z)]
end
end L2.EP

namespace L2
open PySem PySem.Spec PyProof.Rows
def Itz (K : PySem.W.Frag) (a b : Addr) : It :=
  ⟨fun i H => ∃ xs ys x y, SqL K H a xs ∧ SqL K H b ys ∧ xs[i]? = some x ∧ ys[i]? = some y,
   fun i H v H' => ∃ T x y, H T = none ∧ v = .ref T ∧ H' = upd H T (.tup [x, y]) ∧ (∀ xs, SqL K H a xs → xs[i]? = some x) ∧ ∀ ys, SqL K H b ys → ys[i]? = some y,
   fun i H => ∃ xs ys, SqL K H a xs ∧ SqL K H b ys ∧ (xs.length ≤ i ∨ ys.length ≤ i)⟩
theorem cls_ne {h : Heap} {a b : Addr} {o u : Obj} (e1 : h.get? a = some o) (e2 : h.get? b = some u) (d : o.cls ≠ u.cls) : a ≠ b := fun z => by
  subst z; rw [e1] at e2; cases e2; exact d rfl
theorem zip_apart {h : Heap} {z TI TO i1 i2 l1 l2 : Addr} {f0 va vb wa wb : Value} {k1 k2 : Nat} {xs ys : Array Value} (hz : IsZip h z TI TO f0) (hTI : IsPair h TI va vb) (hTO : IsPair h TO wa wb) (h1 : h.IsListIter i1 l1 k1) (h2 : h.IsListIter i2 l2 k2)
    (hl1 : h.IsList l1 xs) (hl2 : h.IsList l2 ys) (n1 : TI ≠ TO) (n2 : i1 ≠ i2) : ZipApart z TI TO i1 i2 l1 l2 := by
  obtain ⟨o1, a1, b1, _⟩ := h1
  obtain ⟨o2, a2, b2, _⟩ := h2
  obtain ⟨p1, c1, d1, _⟩ := hl1
  obtain ⟨p2, c2, d2, _⟩ := hl2
  have X : ∀ {s t : String}, s ≠ t → Value.type s ≠ Value.type t := fun ne e => ne (by injection e)
  exact ⟨cls_ne hTI hz (X (by decide)), cls_ne hTO hz (X (by decide)), cls_ne a1 hz (by rw [b1]; exact X (by decide)), cls_ne a2 hz (by rw [b2]; exact X (by decide)), n1, cls_ne hTI a1 (by rw [b1]; exact X (by decide)), cls_ne hTI a2 (by rw [b2]; exact X (by decide)),
    cls_ne hTO a1 (by rw [b1]; exact X (by decide)), cls_ne hTO a2 (by rw [b2]; exact X (by decide)), n2, cls_ne c1 hz (by rw [d1]; exact X (by decide)), cls_ne c1 hTO (by rw [d1]; exact X (by decide)), cls_ne c1 a1 (by rw [d1, b1]; exact X (by decide)), cls_ne c1 a2 (by rw [d1, b2]; exact X (by decide)),
    cls_ne c2 hz (by rw [d2]; exact X (by decide)), cls_ne c2 hTO (by rw [d2]; exact X (by decide)), cls_ne c2 a1 (by rw [d2, b1]; exact X (by decide)), cls_ne c2 a2 (by rw [d2, b2]; exact X (by decide))⟩
section
variable {X : Cx} {pins : List (Addr × Obj)} {σ : St} {H H' : Hp} {s : Shared}
theorem Inv.turnedT {h' : Heap} {t' : Nat} {ch : List Addr} {T : Addr} {xs : List V} (I : Inv X pins σ H s) (hT : s.heap.objs.size ≤ T) (k : ∀ b o, b ∉ ch → s.heap.get? b = some o → h'.get? b = some o) (th : ∀ b o, s.heap.get? b = some o → ∃ o', h'.get? b = some o') (hf : ∀ b ∈ ch, FpOk X pins H b)
    (new : ObjOk X.prog X.w (upd H T (.tup xs)) h' T (.tup xs)) : Inv X pins σ (upd H T (.tup xs)) { s with heap := h', toks := t' } := by
  with_unfolding_all
    have hn : H T = none := I.hok.fresh hT
    have nch : ∀ b u, H b = some u → b ∉ ch := fun b u e z => by rw [(hf b z).1] at e; cases e
    refine I.step (g' := s.gens) (d' := s.drawn) (ch := ch) (fun b hb => ⟨(hf b hb).2.2.2.1, (hf b hb).2.1, (hf b hb).2.2.2.2.1, (hf b hb).2.2.2.2.2⟩) (fun b o _ _ hc e _ => k b o hc e) (fun b o _ _ hc e _ => ⟨o.slots, k b o hc e⟩)
      (fun b o hc e n => by rw [upd_ne (Nat.ne_of_lt (Nat.lt_of_lt_of_le (Heap.lt_size e) hT))]; exact n) (fun b o hc e => ⟨o, k b o hc e⟩) (fun b ys e => by rw [upd_ne (ne_of_none e hn)]; exact e) (fun b u ys e => by rw [upd_ne (ne_of_none e hn)]; exact e) (fun b ps e => ⟨#[], by rw [upd_ne (ne_of_none e hn), e]; simp⟩) (fun m hm => ?_) (fun b u e => ?_) I.bare
    · obtain ⟨o, es, ep, ho, r⟩ := hm
      exact ⟨o, es, ep, k _ o (fun z => (hf _ z).2.1 rfl) ho, r⟩
    · by_cases hb : b = T
      · subst hb
        rw [upd_same] at e; cases e; exact new
      · rw [upd_ne hb] at e
        refine (I.hok b u e).stay (fun c v hc q => k c v ?_ q) (fun c z => ?_) fun c ys z => ?_
        · rcases hc with z | z
          · rw [z]; exact nch b u e
          · exact nch c _ z
        · rw [upd_ne (ne_of_none z hn)]; exact z
        · rw [upd_ne (ne_of_none z hn)]; exact z
end
theorem turn_zip {P : Program} {w : World} {K : PySem.W.Frag} {elts : List Expr} {kk : Nat} {tp : Pos} (z TI TO i1 i2 a b : Addr) (n1 : TI ≠ TO) (n2 : i1 ≠ i2) : Turn P w K (.Tuple elts kk tp) (Itz K a b) [z, TI, TO, i1, i2] z
    (fun i h => IsZip h z TI TO .none ∧ IsPair h TI (.ref i1) (.ref i2) ∧ (∃ x y, IsPair h TO x y) ∧ h.IsListIter i1 a i ∧ h.IsListIter i2 b i) where
  mem := by simp
  obj := fun i h st c hc => by
    obtain ⟨hz, hTI, ⟨x, y, hTO⟩, h1, h2⟩ := st
    have hc' : c = z ∨ c = TI ∨ c = TO ∨ c = i1 ∨ c = i2 := by simpa using hc
    rcases hc' with e | e | e | e | e
    · subst e; exact ⟨_, hz, fun v q => by cases q⟩
    · subst e; exact ⟨_, hTI, fun v q => by cases q⟩
    · subst e; exact ⟨_, hTO, fun v q => by cases q⟩
    · subst e; obtain ⟨o, q1, q2, q3⟩ := h1; exact ⟨o, q1, fun v q => by rw [q3] at q; cases q⟩
    · subst e; obtain ⟨o, q1, q2, q3⟩ := h2; exact ⟨o, q1, fun v q => by rw [q3] at q; cases q⟩
  keep := fun i h h' st k => by
    obtain ⟨hz, hTI, ⟨x, y, hTO⟩, h1, h2⟩ := st
    exact ⟨k z (by simp) _ hz, k TI (by simp) _ hTI, ⟨x, y, k TO (by simp) _ hTO⟩, h1.at fun o e => k i1 (by simp) o e, h2.at fun o e => k i2 (by simp) o e⟩
  item := by
    intro X hP hw hK hc i pins s σ H E I hf st hg
    subst hP hw hK
    obtain ⟨xs, ys, x, y, sx, sy, gx, gy⟩ := hg
    obtain ⟨hz, hTI, ⟨wa, wb, hTO⟩, h1, h2⟩ := st
    obtain ⟨ix, rx, px, _⟩ := I.list sx
    obtain ⟨iy, ry, py, _⟩ := I.list sy
    have D := zip_apart hz hTI hTO h1 h2 px.isList py.isList n1 n2
    obtain ⟨u, ux, uxr⟩ := rx.get gx
    obtain ⟨v, vy, vyr⟩ := ry.get gy
    refine wpAny_pyNext_zip_item D hz hTI hTO h1 h2 px.isList py.isList (by simpa using ux) (by simpa using vy) fun h' a1 a2 a3 a4 a5 a6 hk => ?_
    have hT0 : H s.heap.objs.size = none := I.hok.fresh (Nat.le_refl _)
    have I1 : Inv X pins σ (upd H s.heap.objs.size (.tup [x, y])) { s with heap := h', toks := s.toks } := by
      refine I.turnedT (ch := [z, TO, i1, i2]) (Nat.le_refl _) (fun c o hc' e => hk c o (fun q => hc' (by simp [q])) (fun q => hc' (by simp [q])) (fun q => hc' (by simp [q])) (fun q => hc' (by simp [q])) e) (fun c o e => ?_) (fun c hc' => hf c (by simp at hc' ⊢; rcases hc' with q | q | q | q <;> simp [q])) ?_
      · have hlt := Heap.lt_size e
        have : c < h'.objs.size := by rw [a6]; exact Nat.lt_succ_of_lt hlt
        by_cases q1 : c = z
        · subst q1; exact ⟨_, a1⟩
        by_cases q2 : c = TO
        · subst q2; exact ⟨_, a2⟩
        by_cases q3 : c = i1
        · subst q3; obtain ⟨o', q, _⟩ := a3; exact ⟨o', q⟩
        by_cases q4 : c = i2
        · subst q4; obtain ⟨o', q, _⟩ := a4; exact ⟨o', q⟩
        exact ⟨o, hk c o q1 q2 q3 q4 e⟩
      · exact ⟨by show 2 ≤ sizeLine; decide, [u, v], .cons uxr (.cons vyr .nil), ⟨_, a5, rfl, _, rfl⟩⟩
    refine ⟨_, rfl, ?_⟩
    have fz := hf z (by simp)
    refine wpAny_letOwnedTupleGo_zip a1 fun h2' hz' hs' => ?_
    have zT : z ≠ s.heap.objs.size := Nat.ne_of_lt (Heap.lt_size hz)
    have I2 : Inv X pins σ (upd H s.heap.objs.size (.tup [x, y])) { ({ s with heap := h', toks := s.toks } : Shared) with heap := h2', toks := s.toks } := I1.turned (fun c o hc' e => hs'.extBut c o hc' e) (by rw [upd_ne zT]; exact fz.1) fz.2.1 fz.2.2.2.1 fz.2.2.2.2.1 fz.2.2.2.2.2
    refine ⟨.ref s.heap.objs.size, upd H s.heap.objs.size (.tup [x, y]), I2, rfl, ⟨s.heap.objs.size, x, y, hT0, rfl, rfl, fun xs' sx' => ?_, fun ys' sy' => ?_⟩, ⟨hz', hs'.extBut _ _ D.TIz (hk _ _ D.TIz D.TITO D.TIi1 D.TIi2 hTI), ⟨_, _, hs'.extBut _ _ D.TOz a2⟩, a3.extBut hs'.extBut D.i1z, a4.extBut hs'.extBut D.i2z⟩, fun c hc' => ?_⟩
    · rw [I.list_inj sx' sx]; exact gx
    · rw [I.list_inj sy' sy]; exact gy
    · have hcl : c < s.heap.objs.size := by
        have hc2 : c = z ∨ c = TI ∨ c = TO ∨ c = i1 ∨ c = i2 := by simpa using hc'
        rcases hc2 with e | e | e | e | e
        · subst e; exact Heap.lt_size hz
        · subst e; exact Heap.lt_size hTI
        · subst e; exact Heap.lt_size hTO
        · subst e; obtain ⟨_, q, _⟩ := h1; exact Heap.lt_size q
        · subst e; obtain ⟨_, q, _⟩ := h2; exact Heap.lt_size q
      rw [upd_ne (Nat.ne_of_lt hcl)]; exact (hf c hc').1
  done := by
    intro X hP hw hK hc i pins s σ H E I hf st hg
    subst hP hw hK
    obtain ⟨xs, ys, sx, sy, hend⟩ := hg
    obtain ⟨hz, hTI, ⟨wa, wb, hTO⟩, h1, h2⟩ := st
    obtain ⟨ix, rx, px, _⟩ := I.list sx
    obtain ⟨iy, ry, py, _⟩ := I.list sy
    have D := zip_apart hz hTI hTO h1 h2 px.isList py.isList n1 n2
    refine wpAny_pyNext_zip_end (I.ok.hd hc) D hz hTI hTO h1 h2 px.isList py.isList ?_ fun h' hk => ⟨rfl, ?_⟩
    · rcases hend with q | q
      · left; simp [← rx.length]; omega
      · right; simp [← ry.length]; omega
    · have fz := hf z (by simp)
      have fo := hf TO (by simp)
      have f1 := hf i1 (by simp)
      have f2 := hf i2 (by simp)
      refine I.step (g' := s.gens) (d' := s.drawn) (t' := s.toks) (ch := [z, TO, i1, i2]) (fun b hb => ?_) (fun b o _ _ hc' e _ => hk b o (fun q => hc' (by simp [q])) (fun q => hc' (by simp [q])) (fun q => hc' (by simp [q])) (fun q => hc' (by simp [q])) e) (fun b o _ _ hc' e _ => ⟨o.slots, hk b o (fun q => hc' (by simp [q])) (fun q => hc' (by simp [q])) (fun q => hc' (by simp [q])) (fun q => hc' (by simp [q])) e⟩) (fun _ _ _ _ n => n)
        (fun b o hc' e => ⟨o, hk b o (fun q => hc' (by simp [q])) (fun q => hc' (by simp [q])) (fun q => hc' (by simp [q])) (fun q => hc' (by simp [q])) e⟩) (fun _ _ e => e) (fun _ _ _ e => e) (fun b ps e => ⟨#[], by rw [e]; simp⟩) (fun m hm => ?_) (fun b u e => ?_) I.bare
      · have q := hf b (by simp at hb ⊢; rcases hb with q | q | q | q <;> simp [q])
        exact ⟨q.2.2.2.1, q.2.1, q.2.2.2.2.1, q.2.2.2.2.2⟩
      · obtain ⟨o, es, ep, ho, r⟩ := hm
        exact ⟨o, es, ep, hk _ o (Ne.symm fz.2.1) (Ne.symm fo.2.1) (Ne.symm f1.2.1) (Ne.symm f2.2.1) ho, r⟩
      · have nn : ∀ c v, H c = some v → c ≠ z ∧ c ≠ TO ∧ c ≠ i1 ∧ c ≠ i2 := fun c v e => ⟨(fun q => by (rw [q, fz.1] at e; cases e)), (fun q => by (rw [q, fo.1] at e; cases e)), (fun q => by (rw [q, f1.1] at e; cases e)), (fun q => by (rw [q, f2.1] at e; cases e))⟩
        refine (I.hok b u e).stay (fun c v hc' q => ?_) (fun _ q => q) fun _ _ q => q
        have := nn c
        rcases hc' with e' | e'
        · subst e'; obtain ⟨w1, w2, w3, w4⟩ := nn c _ e; exact hk c v w1 w2 w3 w4 q
        · obtain ⟨w1, w2, w3, w4⟩ := nn c _ e'; exact hk c v w1 w2 w3 w4 q
  self := fun _ _ _ _ _ st h => wpAny_pyIter_zip st.1 h
section
variable {X : Cx} {elts : List Expr} {kk : Nat} {tp : Pos}
def iZip (K : PySem.W.Frag) (ta : TA) : TI := fun σ H R => ta σ H fun vs H1 => ∃ a b, vs = [.ref a, .ref b] ∧ (∃ xs, SqL K H1 a xs) ∧ (∃ ys, SqL K H1 b ys) ∧ R (Itz K a b) H1
theorem pi_zip {e1 e2 : Expr} {ta : TA} {p pos : Pos} (hg : Gl X "zip") (hm : X.mg "zip" = none) (ha : PA X [e1, e2] ta) (he : starEach [e1, e2] X.env = (false, eval e1 X.env) :: starEach [e2] X.env := by rfl)
    (hpl : (backTo pos (starEach [e2] X.env)).any (·.1) = false := by rfl) : PI X (.Tuple elts kk tp) (.Call (.Name "zip" p) [e1, e2] [] pos) (iZip X.K ta) := by
  intro pins s σ H R I h
  refine Call_ (ld_blt I hg hm PyProof.Rows.boot_zip (PyProof.Rows.callWith_type1 (thn (ha pos pins s σ H _ I h) fun us s1 ⟨vs, H1, I1, r1, q1⟩ => ?_) he hpl))
  obtain ⟨a, b, e, ⟨xs, sx⟩, ⟨ys, sy⟩, q⟩ := q1
  subst e
  obtain ⟨u, w', rfl, ra, rb⟩ := vals2 r1
  cases ra; cases rb
  obtain ⟨ix, rx, px, _⟩ := I1.list sx
  obtain ⟨iy, ry, py, _⟩ := I1.list sy
  refine call_zip_2 px.isList py.isList fun h' z1 z2 z3 z4 z5 z6 hk => ?_
  have I2 : Inv X pins σ H1 { s1 with heap := h', toks := s1.toks } := I1.kept hk
  refine wpAny_pyIter_zip (s := { s1 with heap := h' }) z1 ?_
  refine ⟨s1.heap.objs.size + 4, [s1.heap.objs.size + 4, s1.heap.objs.size + 2, s1.heap.objs.size + 3, s1.heap.objs.size, s1.heap.objs.size + 1], _, Itz X.K a b, H1, rfl, I2, turn_zip (s1.heap.objs.size + 4) (s1.heap.objs.size + 2) (s1.heap.objs.size + 3) s1.heap.objs.size (s1.heap.objs.size + 1) a b (Nat.ne_of_lt (Nat.lt_succ_self _)) (Nat.ne_of_lt (Nat.lt_succ_self _)), ⟨z1, z2, ⟨_, _, z3⟩, z4, z5⟩, fun c hc => ?_, q⟩
  have hge : s1.heap.objs.size ≤ c := by
    simp at hc
    rcases hc with e | e | e | e | e <;> subst e <;> omega
  exact I1.fpOk hge (I1.hok.fresh hge)
end
end L2
namespace L2.EP
open PySem PySem.Spec PyProof.Rows
section
variable {X : Cx} {Γ : GEnv} {α β : Type} [Py α] [Py β] {e1 e2 : Expr} {b1 b2 : Bool} {elts : List Expr} {kk : Nat} {tp p ps : Pos}
theorem ei_zip {xs : List α} {ys : List β} (hg : Gl X "zip") (hm : X.mg "zip" = none) (h1 : E X Γ e1 b1 xs) (h2 : E X Γ e2 b2 ys) (hs1 : starEach [e1, e2] X.env = (false, eval e1 X.env) :: starEach [e2] X.env := by rfl) (hs2 : starEach [e2] X.env = (false, eval e2 X.env) :: starEach [] X.env := by rfl)
    (hpl : (backTo ps (starEach [e2] X.env)).any (·.1) = false := by rfl) : EI X Γ (.Tuple elts kk tp) (.Call (.Name "zip" p) [e1, e2] [] ps) (b1 && b2) (xs.zip ys) := by
  with_unfolding_all
    exact ⟨_, pi_zip hg hm (pa_cons h1 (pa_cons h2 pa_nil hs2) hs1) hs1 hpl, fun σ H H0 F O R Z q => ⟨H0, F, O, Z, fun v H1 s1 r1 => ⟨H0, F, O, Z.go s1, fun w H2 s2 r2 => by
        obtain ⟨a, va, ea, sa, na, ra⟩ := r1
        obtain ⟨c, vc, ec, sc, nc, rc⟩ := r2
        have sa2 := (off_mono (O := O) s2).seq sa
        refine ⟨a, c, by rw [ea, ec], ⟨va, (off_same _ _).seq sa2⟩, ⟨vc, (off_same _ _).seq sc⟩, q _ H2 (s1.trans s2) fun H' O' hO' sm => ⟨fun i u hu => ?_, ?_⟩⟩
        · obtain ⟨hx, hy⟩ := List.getElem?_zip_eq_some.mp hu
          obtain ⟨x, gx, rx⟩ := pr_get ra hx
          obtain ⟨y, gy, ry⟩ := pr_get rc hy
          have sa' := (off_same _ _).seq (sm.seq sa2)
          have sc' := (off_same _ _).seq (sm.seq sc)
          refine ⟨⟨va, vc, x, y, sa', sc', gx, gy⟩, fun v' H'' hv => ?_⟩
          obtain ⟨T, x', y', hT, rfl, rfl, f1, f2⟩ := hv
          have ex := f1 va sa'
          have ey := f2 vc sc'
          rw [gx] at ex; cases ex
          rw [gy] at ey; cases ey
          have hTO : ¬ O' T := fun z => by
            obtain ⟨zs, w⟩ := hO' T z
            rw [hT] at w; cases w
          refine ⟨same_upd hT _, T, x, y, rfl, .inl (by rw [off_get hTO]; exact upd_same), ?_, ?_⟩
          · exact rp_wid (fun _ _ n => nf_and1 n) (rp_mono ((off_mono s2).trans (sm.trans (off_mono (same_upd hT _)))) rx)
          · exact rp_wid (fun _ _ n => nf_and2 n) (rp_mono (sm.trans (off_mono (same_upd hT _))) ry)
        · refine ⟨va, vc, (off_same _ _).seq (sm.seq sa2), (off_same _ _).seq (sm.seq sc), ?_⟩
          rw [pr_len ra, pr_len rc, List.length_zip]
          omega⟩⟩⟩
theorem pg_cn2 {scope : Scope} {tn : List Str} {js : List Nat} {C : Addr} {s : Shared} {H : Hp} {fp : List Addr} {x y : Str} {p1 p2 p3 : Pos} {k : Nat} (i j : Nat) (N : List Str) (hc : X.calm = true := by rfl) (h : cN X tn js = N := by rfl) (hd : N.Nodup := by decide +kernel) (hi : N[i]? = some x := by rfl) (hj : N[j]? = some y := by rfl)
    (hl : scope.names.lookup x = some .local ∨ scope.names.lookup x = some .cell := by first | exact .inl rfl | exact .inr rfl) (hl2 : scope.names.lookup y = some .local ∨ scope.names.lookup y = some .cell := by first | exact .inl rfl | exact .inr rfl) :
    PG (blk X (cN X tn js) scope C s H fp) (.Tuple [.Name x p1, .Name y p2] k p3) (gTup X.K 2 (gCons (gName i) (gCons (gName j) gNil))) :=
  pg_tup (X := blk X (cN X tn js) scope C s H fp) hc (pgs_cons (pg_cn i N h hd hi hl) (pgs_cons (pg_cn j N h hd hj hl2) pgs_nil))
theorem lt_of_eq2 {i j n : Nat} (h : i < n := by decide) (h2 : j < n := by decide) : ∀ k, k = i ∨ k = j → k < n := fun k e => by rcases e with e | e <;> rw [e] <;> assumption
end
end L2.EP

namespace L2.EP
open PySem PySem.Spec PyProof.Rows
class PyT (β : Type) [Py β] : Prop where
  free : ∀ {K : PySem.W.Frag} {N N' : Nn} {H H' : Hp} {v : V} {b : β}, (∀ p xs, Rd H p (.tup xs) → Rd H' p (.tup xs)) → Py.rp K N H v b → Py.rp K N' H' v b
  nl : ∀ {K : PySem.W.Frag} {N : Nn} {H : Hp} {q : Addr} {b : β} {xs : List V}, Py.rp K N H (.ref q) b → H q = some (.lst xs) → False
instance : PyT Int where
  free _ h := h
  nl h _ := nomatch h
instance : PyT Bool where
  free _ h := h
  nl h _ := nomatch h
instance {α β : Type} [Py α] [Py β] [PyT α] [PyT β] : PyT (α × β) where
  free t h := by
    obtain ⟨p, x, y, e, s, h1, h2⟩ := h
    exact ⟨p, x, y, e, t _ _ s, PyT.free t h1, PyT.free t h2⟩
  nl h e := by
    obtain ⟨p, x, y, e', s, h1, h2⟩ := h
    cases e'
    rcases s with s | ⟨o, s⟩
    · rw [e] at s; cases s
    · rw [e] at s; cases s
def tN {α : Type} [Py α] (K : PySem.W.Frag) (Γ : GEnv) (a : α) : TE := fun σ H Q => ∃ H0 F O, Sta K H0 F O Γ σ H ∧ ∀ v H', Same H H' → Py.rp K (.new H) (off H' O) v a → Q v H'
@[irreducible] def EN {α : Type} [Py α] (X : Cx) (Γ : GEnv) (e : Expr) (a : α) : Prop := PE X e (tN X.K Γ a)
theorem new_less {α : Type} [Py α] {K : PySem.W.Frag} {H H1 Hx : Hp} {v : V} {a : α} (s : Same H H1) (h : Py.rp K (.new H1) Hx v a) : Py.rp K (.new H) Hx v a := rp_wid (N := .new H1) (N' := .new H) (fun _ _ n => ⟨s.free n.1, n.2⟩) h
section
variable {X : Cx} {Γ : GEnv} {D : GD} {α β γ : Type} [Py α] [Py β] [Py γ] {e e1 e2 : Expr} {b b1 b2 : Bool} {pos p : Pos} {rest st : List Stmt} {k : Nat} {name : Str} {ps : List Str}
theorem en_call1 {pre : α → Prop} {f : α → β} {a : α} (C : Cal X.prog X.w X.K X.mg X.base k name ps (sp1 X.K pre true f)) (hr : Room k X.A) (hg : Gl X name) (h1 : E X Γ e1 b1 a) (hp : pre a)
    (hs1 : starEach [e1] X.env = (false, eval e1 X.env) :: starEach [] X.env := by rfl) (hdb : (name == ("__debug__" : Str)) = false := by decide) (hpl : (backTo pos (starEach [] X.env)).any (·.1) = false := by rfl) :
    EN X Γ (.Call (.Name name p) [e1] [] pos) (f a) := by
  with_unfolding_all
    obtain ⟨fa, fd, F, B, kp, m⟩ := C.ex
    exact pe_wk (pe_call F hr hg m kp B .nil pass0 (pa_cons h1 pa_nil hs1) hdb hs1 hpl) fun σ H Q ⟨H0, F, O, S, q⟩ => ⟨H0, F, O, S, fun v1 H1 s1 r1 =>
      ⟨O, v1, a, (S.go s1).own, rfl, rp_wid nf_true r1, hp, fun r H' s' z => q r H' (s1.trans s') (new_less s1 z)⟩⟩
theorem en_call2 {pre : α → β → Prop} {f : α → β → γ} {a : α} {c : β} (C : Cal X.prog X.w X.K X.mg X.base k name ps (sp2 X.K pre true f)) (hr : Room k X.A) (hg : Gl X name) (h1 : E X Γ e1 b1 a) (h2 : E X Γ e2 b2 c) (hp : pre a c)
    (hs1 : starEach [e1, e2] X.env = (false, eval e1 X.env) :: starEach [e2] X.env := by rfl) (hs2 : starEach [e2] X.env = (false, eval e2 X.env) :: starEach [] X.env := by rfl) (hdb : (name == ("__debug__" : Str)) = false := by decide) (hpl : (backTo pos (starEach [e2] X.env)).any (·.1) = false := by rfl) :
    EN X Γ (.Call (.Name name p) [e1, e2] [] pos) (f a c) := by
  with_unfolding_all
    obtain ⟨fa, fd, F, B, kp, m⟩ := C.ex
    exact pe_wk (pe_call F hr hg m kp B .nil pass0 (pa_cons h1 (pa_cons h2 pa_nil hs2) hs1) hdb hs1 hpl) fun σ H Q ⟨H0, F, O, S, q⟩ => ⟨H0, F, O, S, fun v1 H1 s1 r1 => ⟨H0, F, O, S.go s1, fun v2 H2 s2 r2 =>
      ⟨O, v1, v2, a, c, (S.go (s1.trans s2)).own, rfl, rp_wid nf_true (rp_mono (off_mono s2) r1), rp_wid nf_true r2, hp, fun r H' s' z => q r H' (s1.trans (s2.trans s')) (new_less (s1.trans s2) z)⟩⟩⟩
theorem s_deep (i : Nat) {x : Str} {a : α} {p : Pos} (hN : X.N.Nodup) (he : EN X Γ e a) (h : S X (Γ.set i (some (.dpo a))) rest D) (hi : X.N[i]? = some x := by rfl) (hx : Loc X.env.scope x := by first | exact Or.inl rfl | exact Or.inr rfl)
    (hs : swapsWith e (some (.Name x p)) pos.line X.env = pure false := by rfl) (hf : X.fn x = true ∨ X.env.scope.names.lookup x = some .local := by first | exact .inl rfl | exact .inr rfl) : S X Γ (.Assign [.Name x p] e pos :: rest) D := by
  with_unfolding_all
    exact s_seq (ps_wk (ps_set hN hi hx he hs hf) fun De σ H ⟨H0, F, O, Z, n, _⟩ => ⟨H0, F, O, Z, fun v H1 s1 r1 => by
        obtain ⟨Z', so⟩ := Z.putOwn (i := i) (v := v) s1 (fun q => H q = none ∧ ∃ xs : Mt, H1 q = some (mo xs)) (fun q z => z) (Bd.dpo a) True.intro (by
          refine Py.tr (fun q xs sq nn => ?_) (fun q xs sq => Same.rd (off_same _ _) sq) r1
          have := (off_same _ _) _ _ nn.2
          exact ⟨Mo.of this, ⟨nn.1, xs, this⟩, this⟩)
        exact n _ _ _ _ so Z' h⟩)
end
end L2.EP

namespace L2.EP
open PySem PySem.Spec PyProof.Rows
theorem relabel_free {env : Env} {names : List (Str × NameKind)} {x : Str} (h : names.lookup x = some .free) :
    (names.map fun (n, k) => if (k == NameKind.free && env.scope.kind == .function && env.kindOf n == some .cell) then (n, NameKind.cell) else (n, k)).lookup x = some .cell ∨
    (names.map fun (n, k) => if (k == NameKind.free && env.scope.kind == .function && env.kindOf n == some .cell) then (n, NameKind.cell) else (n, k)).lookup x = some .free := by
  rw [rel_at, h, Option.map_some]
  split
  · exact .inl rfl
  · exact .inr rfl
theorem cscope2 {X : Cx} {scope0 scope : Scope} {tn : List Str} {js : List Nat} {N' : List Str} {C : Addr} {s : Shared} {H : Hp} {fp : List Addr} (N : List Str) (h2 : N' = N) (h : ckS scope0 N scope js = true) : CScope (blk X N' scope0 C s H fp) scope tn js := by
  subst h2
  unfold ckS at h
  simp only [Bool.and_eq_true, List.all_eq_true] at h
  obtain ⟨⟨hk, ha⟩, hj⟩ := h
  refine ⟨by simpa using hk, fun x hx e => ?_, fun x hx e => ?_, fun x hx y hy e => ?_, fun j hjm => ?_⟩
  · obtain ⟨⟨h1, h2⟩, h3⟩ := ha x hx
    simpa [e] using h1
  · obtain ⟨⟨h1, h2⟩, h3⟩ := ha x hx
    have h2' : (scope.names.lookup x.1 == some .free && (scope0.names.lookup x.1 == some .cell || scope0.names.lookup x.1 == some .free)) = true := by simpa [e] using h2
    obtain ⟨q1, q2⟩ := Bool.and_eq_true_iff.mp h2'
    refine ⟨by simpa using q1, ?_⟩
    rcases Bool.or_eq_true_iff.mp q2 with z | z
    · exact .inl (relabel_cell (by simpa using z))
    · exact relabel_free (by simpa using z)
  · obtain ⟨⟨h1, h2⟩, h3⟩ := ha x hx
    have := h3 y hy
    simpa [e] using this
  · have := hj j hjm
    split at this
    · rename_i x hx
      exact ⟨x, hx, by simpa using this⟩
    · cases this
section
variable {X : Cx} {Γ : GEnv} {α : Type} [Py α] {e : Expr} {b b' : Bool} {pos : Pos}
theorem E.up [PyT α] {a : α} (h : E X Γ e b a) : E X Γ e b' a := by
  with_unfolding_all
    exact pe_wk h fun σ H Q ⟨H0, F, O, S, q⟩ => ⟨H0, F, O, S, fun v H' s r => q v H' s (PyT.free (fun _ _ z => z) r)⟩
theorem e_up [PyT α] {a : α} (h : E X Γ e b a) : E X Γ e b' a := by
  with_unfolding_all
    exact E.up h
end
theorem take_fold {α β : Type} {g : β → α → β} {z : β} {us : List α} {i : Nat} {a : α} (h : us[i]? = some a) : (us.take (i + 1)).foldl g z = g ((us.take i).foldl g z) a := by
  rw [List.take_add_one, h, List.foldl_append]; rfl
end L2.EP

namespace EP
theorem gcd_fmod (a b : Int) : Int.gcd b (a.fmod b) = Int.gcd a b := by
  rw [Int.fmod_def, Int.gcd_comm a b]
  exact Int.gcd_sub_mul_left_right ..
theorem fmod_lt (a b : Int) (hb : b ≠ 0) : (a.fmod b).natAbs < b.natAbs := by
  rcases Int.lt_or_gt_of_ne hb with h | h
  · have e := Int.neg_fmod_neg a b
    have h' : (0:Int) < -b := by omega
    have h1 := Int.fmod_nonneg_of_pos (-a) h'
    have h2 := Int.fmod_lt_of_pos (-a) h'
    omega
  · have h1 := Int.fmod_nonneg_of_pos a h
    have h2 := Int.fmod_lt_of_pos a h
    omega
def fd (t b : Int) : Int := if b < 0 then -(Int.gcd t b : Int) else (Int.gcd t b : Int)
def fr (t b : Int) : Int × Int := (t.fdiv (fd t b), b.fdiv (fd t b))
theorem fd_ne {t b : Int} (hb : b ≠ 0) : fd t b ≠ 0 := by
  have h : Int.gcd t b ≠ 0 := by
    intro h; rw [Int.gcd_eq_zero_iff] at h; exact hb h.2
  unfold fd; split <;> omega
theorem fd_dvd_left (t b : Int) : fd t b ∣ t := by
  unfold fd; split
  · exact (Int.neg_dvd).mpr (Int.gcd_dvd_left ..)
  · exact Int.gcd_dvd_left ..
theorem fd_dvd_right (t b : Int) : fd t b ∣ b := by
  unfold fd; split
  · exact (Int.neg_dvd).mpr (Int.gcd_dvd_right ..)
  · exact Int.gcd_dvd_right ..
theorem fdiv_mul {a d : Int} (h : d ∣ a) : d * a.fdiv d = a := by
  have e := Int.mul_fdiv_cancel' h
  exact e
theorem fr_top (t b : Int) : fd t b * (fr t b).1 = t := fdiv_mul (fd_dvd_left t b)
theorem fr_bot (t b : Int) : fd t b * (fr t b).2 = b := fdiv_mul (fd_dvd_right t b)
theorem fr_cross (t b : Int) : (fr t b).1 * b = t * (fr t b).2 := by
  have h1 := fr_top t b; have h2 := fr_bot t b
  generalize (fr t b).1 = x at *; generalize (fr t b).2 = y at *; generalize fd t b = d at *
  subst h1; subst h2
  rw [← Int.mul_assoc, Int.mul_comm x d]
theorem fr_pos {t b : Int} (hb : b ≠ 0) : 1 ≤ (fr t b).2 := by
  have h2 := fr_bot t b
  have h3 := fd_ne (t := t) hb
  have h4 : fd t b < 0 ↔ b < 0 := by
    unfold fd
    have : 0 ≤ (Int.gcd t b : Int) := Int.natCast_nonneg _
    unfold fd at h3
    split <;> split at h3 <;> omega
  generalize (fr t b).2 = y at *; generalize fd t b = d at *
  apply Int.not_lt.mp
  intro hy
  have hy0 : y ≤ 0 := by omega
  rcases Int.lt_or_gt_of_ne h3 with h | h
  · have := Int.mul_nonneg_of_nonpos_of_nonpos (Int.le_of_lt h) hy0
    have := h4.mp h
    omega
  · have := Int.mul_nonpos_of_nonneg_of_nonpos (Int.le_of_lt h) hy0
    have : ¬ b < 0 := fun q => by have := h4.mpr q; omega
    omega
theorem fd_abs (t b : Int) : (fd t b).natAbs = Int.gcd t b := by
  unfold fd; split <;> omega
theorem fr_gcd {t b : Int} (hb : b ≠ 0) : Int.gcd (fr t b).1 (fr t b).2 = 1 := by
  have h1 := fr_top t b; have h2 := fr_bot t b
  have h3 := fd_ne (t := t) hb
  have h5 := fd_abs t b
  have h6 : Int.gcd (fd t b * (fr t b).1) (fd t b * (fr t b).2) = (fd t b).natAbs * Int.gcd (fr t b).1 (fr t b).2 := Int.gcd_mul_left ..
  rw [h1, h2, h5] at h6
  have h7 : 0 < Int.gcd t b := by omega
  have h8 : Int.gcd t b * 1 = Int.gcd t b * Int.gcd (fr t b).1 (fr t b).2 := by omega
  exact (Nat.eq_of_mul_eq_mul_left h7 h8).symm
theorem fr_abs1 {t b : Int} (hb : b ≠ 0) : (fr t b).1.natAbs ≤ t.natAbs := by
  have h1 := fr_top t b
  have h3 := fd_ne (t := t) hb
  have h : t.natAbs = (fd t b).natAbs * (fr t b).1.natAbs := by rw [← Int.natAbs_mul, h1]
  rw [h]; exact Nat.le_mul_of_pos_left _ (by omega)
theorem fr_abs2 {t b : Int} (hb : b ≠ 0) : (fr t b).2.natAbs ≤ b.natAbs := by
  have h1 := fr_bot t b
  have h3 := fd_ne (t := t) hb
  have h : b.natAbs = (fd t b).natAbs * (fr t b).2.natAbs := by rw [← Int.natAbs_mul, h1]
  rw [h]; exact Nat.le_mul_of_pos_left _ (by omega)
theorem fd_le {t b : Int} (hb : b ≠ 0) : (fd t b).natAbs ≤ b.natAbs := by
  rw [fd_abs]; exact Nat.le_of_dvd (by omega) (Int.natAbs_dvd_natAbs.mpr (Int.gcd_dvd_right t b))
theorem dvd_of_coprime {a b c : Int} (h : a ∣ b * c) (g : Int.gcd a b = 1) : a ∣ c := by
  have h' : a.natAbs ∣ b.natAbs * c.natAbs := by rw [← Int.natAbs_mul]; exact Int.natAbs_dvd_natAbs.mpr h
  exact Int.natAbs_dvd_natAbs.mp (Nat.Coprime.dvd_of_dvd_mul_left (show Nat.Coprime a.natAbs b.natAbs from g) h')
theorem fr_unique {t b x y : Int} (hb : b ≠ 0) (hy : 1 ≤ y) (hg : Int.gcd x y = 1) (h : x * b = t * y) : fr t b = (x, y) := by
  have h1 := fr_top t b; have h2 := fr_bot t b
  have hp := fr_pos (t := t) hb
  have hg' := fr_gcd (t := t) hb
  have hc := fr_cross t b
  have hd := fd_ne (t := t) hb
  generalize hu : (fr t b).1 = u at *; generalize hv : (fr t b).2 = v at *
  generalize fd t b = d at *
  subst h1; subst h2
  have he : x * v = u * y := by
    have : d * (x * v) = d * (u * y) := by
      rw [← Int.mul_assoc, ← Int.mul_assoc, Int.mul_comm d x, Int.mul_assoc, h]
    exact Int.eq_of_mul_eq_mul_left hd this
  -- v ∣ u * y, gcd u v = 1 → v ∣ y ; y ∣ x * v → y ∣ v
  have d1 : v ∣ y := by
    have : v ∣ u * y := ⟨x, by rw [← he, Int.mul_comm]⟩
    exact dvd_of_coprime this (by rw [Int.gcd_comm]; exact hg')
  have d2 : y ∣ v := by
    have : y ∣ x * v := ⟨u, by rw [he, Int.mul_comm]⟩
    exact dvd_of_coprime this (by rw [Int.gcd_comm]; exact hg)
  have e : v = y := Int.dvd_antisymm (by omega) (by omega) d1 d2
  have e2 : x = u := by
    rw [e] at he
    exact Int.eq_of_mul_eq_mul_right (by omega) he
  apply Prod.ext
  · rw [hu, e2]
  · rw [hv, e]
end EP

namespace EP
def fadd (u v : Int × Int) : Int × Int := fr (u.1 * v.2 + v.1 * u.2) (u.2 * v.2)
def fsub (u v : Int × Int) : Int × Int := fr (u.1 * v.2 - v.1 * u.2) (u.2 * v.2)
def fmul (u v : Int × Int) : Int × Int := fr (u.1 * v.1) (u.2 * v.2)
def fdv (u v : Int × Int) : Int × Int := fr (u.1 * v.2) (u.2 * v.1)
def Low (u : Int × Int) : Prop := 1 ≤ u.2 ∧ Int.gcd u.1 u.2 = 1
theorem fr_lowP {t b : Int} (hb : b ≠ 0) : Low (fr t b) := ⟨fr_pos hb, fr_gcd hb⟩
theorem Low.ne {u : Int × Int} (h : Low u) : u.2 ≠ 0 := by have := h.1; omega
theorem fr_is {t b : Int} {u : Int × Int} (hb : b ≠ 0) (h : Low u) (e : u.1 * b = t * u.2) : fr t b = u := fr_unique (x := u.1) (y := u.2) hb h.1 h.2 e
end EP

namespace EP
abbrev Fr := Int × Int
def rng (n : Nat) : List Int := (List.range n).map fun i : Nat => (i : Int)
theorem rng_len (n : Nat) : (rng n).length = n := by unfold rng; simp
theorem rng_at {n i : Nat} (h : i < n) : (rng n)[i]? = some (i : Int) := by
  unfold rng
  rw [List.getElem?_map, List.getElem?_range h]; rfl
def lcmB (us : List Fr) : Int := us.foldl (fun b u => (b * u.2).fdiv (Int.gcd b u.2 : Nat)) 1
theorem lcm_step {b c : Int} (hb : 1 ≤ b) (hc : 1 ≤ c) : 1 ≤ (b * c).fdiv (Int.gcd b c : Nat) ∧ b ∣ (b * c).fdiv (Int.gcd b c : Nat) ∧ c ∣ (b * c).fdiv (Int.gcd b c : Nat) ∧ (b * c).fdiv (Int.gcd b c : Nat) ≤ b * c := by
  have hg : 0 < Int.gcd b c := by
    rcases Nat.eq_zero_or_pos (Int.gcd b c) with h | h
    · rw [Int.gcd_eq_zero_iff] at h; omega
    · exact h
  have d1 : ((Int.gcd b c : Nat) : Int) ∣ b := Int.gcd_dvd_left ..
  have d2 : ((Int.gcd b c : Nat) : Int) ∣ c := Int.gcd_dvd_right ..
  generalize Int.gcd b c = g at *
  obtain ⟨x, hx⟩ := d1
  obtain ⟨y, hy⟩ := d2
  have e : (b * c).fdiv (g : Int) = b * y := by
    rw [hy, ← Int.mul_assoc, Int.mul_comm b (g : Int), Int.mul_assoc]
    rw [Int.mul_fdiv_cancel_left _ (by omega)]
  have hg' : (1 : Int) ≤ g := by omega
  have hx1 : 1 ≤ x := by
    apply Int.not_lt.mp; intro h
    have : (g : Int) * x ≤ 0 := Int.mul_nonpos_of_nonneg_of_nonpos (by omega) (by omega)
    omega
  have hy1 : 1 ≤ y := by
    apply Int.not_lt.mp; intro h
    have : (g : Int) * y ≤ 0 := Int.mul_nonpos_of_nonneg_of_nonpos (by omega) (by omega)
    omega
  rw [e]
  refine ⟨?_, ⟨y, rfl⟩, ⟨x, ?_⟩, ?_⟩
  · have := Int.mul_le_mul hb hy1 (by omega) (by omega); simpa using this
  · rw [hx, hy]; grind
  · refine Int.mul_le_mul_of_nonneg_left ?_ (by omega)
    rw [hy]
    have := Int.mul_le_mul_of_nonneg_right hg' (show 0 ≤ y by omega)
    simpa using this
theorem lcm_go : ∀ (us : List Fr) (b : Int), 1 ≤ b → (∀ u ∈ us, 1 ≤ u.2) → 1 ≤ us.foldl (fun b u => (b * u.2).fdiv (Int.gcd b u.2 : Nat)) b ∧ b ∣ us.foldl (fun b u => (b * u.2).fdiv (Int.gcd b u.2 : Nat)) b ∧ ∀ u ∈ us, u.2 ∣ us.foldl (fun b u => (b * u.2).fdiv (Int.gcd b u.2 : Nat)) b
  | [], b, hb, _ => ⟨hb, Int.dvd_refl _, fun _ h => by cases h⟩
  | u :: us, b, hb, h => by
    obtain ⟨s1, s2, s3, _⟩ := lcm_step hb (h u List.mem_cons_self)
    obtain ⟨g1, g2, g3⟩ := lcm_go us _ s1 fun w hw => h w (List.mem_cons_of_mem _ hw)
    refine ⟨g1, Int.dvd_trans s2 g2, fun w hw => ?_⟩
    rcases List.mem_cons.mp hw with e | hw
    · rw [e]; exact Int.dvd_trans s3 g2
    · exact g3 w hw
theorem lcmB_pos {us : List Fr} (h : ∀ u ∈ us, 1 ≤ u.2) : 1 ≤ lcmB us := (lcm_go us 1 (by decide) h).1
theorem lcmB_dvd {us : List Fr} (h : ∀ u ∈ us, 1 ≤ u.2) {u : Fr} (hu : u ∈ us) : u.2 ∣ lcmB us := (lcm_go us 1 (by decide) h).2.2 u hu
def oob (us : List Fr) : List Int × Int := (us.map fun u => u.1 * (lcmB us).fdiv u.2, lcmB us)
def dotI (xs ys : List Int) : Int := ((xs.zip ys).map fun p => p.1 * p.2).sum
def sop (a b : List Int × Int) : Fr := fr (dotI a.1 b.1) (a.2 * b.2)
def dotF (us vs : List Fr) : Fr := (us.zip vs).foldl (fun acc p => fadd acc (fmul p.1 p.2)) (0, 1)
theorem low_eq {u w : Fr} (hu : Low u) (hw : Low w) (h : u.1 * w.2 = w.1 * u.2) : u = w := by
  have h1 := fr_is (t := w.1) (b := w.2) hw.ne hu h
  have h2 := fr_is (t := w.1) (b := w.2) hw.ne hw rfl
  rw [← h1, h2]
theorem low01 : Low (0, 1) := ⟨by decide, by decide⟩
theorem low_add {u v : Fr} (hu : Low u) (hv : Low v) : Low (fadd u v) := fr_lowP (Int.mul_ne_zero hu.ne hv.ne)
theorem low_mul {u v : Fr} (hu : Low u) (hv : Low v) : Low (fmul u v) := fr_lowP (Int.mul_ne_zero hu.ne hv.ne)
theorem dot_val {A B : Int} (hA : A ≠ 0) (hB : B ≠ 0) (f g : Fr → Int) : ∀ (ps : List (Fr × Fr)) (acc : Fr) (s : Int), Low acc → acc.1 * (A * B) = s * acc.2 → (∀ p ∈ ps, Low p.1 ∧ Low p.2 ∧ f p.1 * p.1.2 = p.1.1 * A ∧ g p.2 * p.2.2 = p.2.1 * B) →
    Low (ps.foldl (fun acc p => fadd acc (fmul p.1 p.2)) acc) ∧ (ps.foldl (fun acc p => fadd acc (fmul p.1 p.2)) acc).1 * (A * B) = (s + (ps.map fun p => f p.1 * g p.2).sum) * (ps.foldl (fun acc p => fadd acc (fmul p.1 p.2)) acc).2
  | [], acc, s, ha, he, _ => ⟨ha, by simpa using he⟩
  | p :: ps, acc, s, ha, he, h => by
    obtain ⟨l1, l2, e1, e2⟩ := h p List.mem_cons_self
    have lm := low_mul l1 l2
    have la := low_add ha lm
    have c1 : (fmul p.1 p.2).1 * (p.1.2 * p.2.2) = (p.1.1 * p.2.1) * (fmul p.1 p.2).2 := fr_cross _ _
    have c2 : (fadd acc (fmul p.1 p.2)).1 * (acc.2 * (fmul p.1 p.2).2) = (acc.1 * (fmul p.1 p.2).2 + (fmul p.1 p.2).1 * acc.2) * (fadd acc (fmul p.1 p.2)).2 := fr_cross _ _
    have n1 := l1.ne
    have n2 := l2.ne
    have n3 := ha.ne
    have n4 := lm.ne
    have m1 : (fmul p.1 p.2).1 * (A * B) = (f p.1 * g p.2) * (fmul p.1 p.2).2 := by
      generalize fmul p.1 p.2 = m at *
      apply Int.eq_of_mul_eq_mul_right (Int.mul_ne_zero n1 n2)
      have : m.1 * (A * B) * (p.1.2 * p.2.2) = (m.1 * (p.1.2 * p.2.2)) * (A * B) := by grind
      rw [this, c1]
      have : f p.1 * g p.2 * m.2 * (p.1.2 * p.2.2) = (f p.1 * p.1.2) * (g p.2 * p.2.2) * m.2 := by grind
      rw [this, e1, e2]
      grind
    have step : (fadd acc (fmul p.1 p.2)).1 * (A * B) = (s + f p.1 * g p.2) * (fadd acc (fmul p.1 p.2)).2 := by
      generalize fadd acc (fmul p.1 p.2) = a at *
      generalize fmul p.1 p.2 = m at *
      apply Int.eq_of_mul_eq_mul_right (Int.mul_ne_zero n3 n4)
      have : a.1 * (A * B) * (acc.2 * m.2) = (a.1 * (acc.2 * m.2)) * (A * B) := by grind
      rw [this, c2]
      have : (acc.1 * m.2 + m.1 * acc.2) * a.2 * (A * B) = ((acc.1 * (A * B)) * m.2 + (m.1 * (A * B)) * acc.2) * a.2 := by grind
      rw [this, he, m1]
      grind
    have r := dot_val hA hB f g ps (fadd acc (fmul p.1 p.2)) (s + f p.1 * g p.2) la step fun q hq => h q (List.mem_cons_of_mem _ hq)
    rw [List.foldl_cons, List.map_cons, List.sum_cons, ← Int.add_assoc]
    exact r
theorem zip_map_mul (f g : Fr → Int) : ∀ (us vs : List Fr), dotI (us.map f) (vs.map g) = ((us.zip vs).map fun p => f p.1 * g p.2).sum
  | [], _ => by simp [dotI]
  | _ :: _, [] => by simp [dotI]
  | u :: us, v :: vs => by
    have := zip_map_mul f g us vs
    unfold dotI at this ⊢
    simp only [List.map_cons, List.zip_cons_cons, List.sum_cons, this]
theorem div_mul {a b : Int} (h : b ∣ a) (c : Int) : (c * a.fdiv b) * b = c * a := by
  have := fdiv_mul h
  rw [Int.mul_assoc, Int.mul_comm _ b, this]
theorem mem_zip_l {α β : Type} {xs : List α} {ys : List β} {p : α × β} (h : p ∈ xs.zip ys) : p.1 ∈ xs ∧ p.2 ∈ ys := List.of_mem_zip (a := p.1) (b := p.2) h
theorem sop_dot {us vs : List Fr} (hu : ∀ u ∈ us, Low u) (hv : ∀ v ∈ vs, Low v) : sop (oob us) (oob vs) = dotF us vs := by
  have pA := lcmB_pos fun u h => (hu u h).1
  have pB := lcmB_pos fun u h => (hv u h).1
  have nA : lcmB us ≠ 0 := by omega
  have nB : lcmB vs ≠ 0 := by omega
  obtain ⟨h1, h2⟩ := dot_val nA nB (fun u => u.1 * (lcmB us).fdiv u.2) (fun u => u.1 * (lcmB vs).fdiv u.2) (us.zip vs) (0, 1) 0 low01 (by simp) fun p hp => by
    obtain ⟨m1, m2⟩ := mem_zip_l hp
    exact ⟨hu _ m1, hv _ m2, div_mul (lcmB_dvd (fun u h => (hu u h).1) m1) _, div_mul (lcmB_dvd (fun u h => (hv u h).1) m2) _⟩
  rw [Int.zero_add] at h2
  unfold sop oob
  rw [zip_map_mul]
  exact fr_is (Int.mul_ne_zero nA nB) h1 h2
theorem dotF_low {us vs : List Fr} (hu : ∀ u ∈ us, Low u) (hv : ∀ v ∈ vs, Low v) : Low (dotF us vs) := by
  rw [← sop_dot hu hv]
  have pA := lcmB_pos fun u h => (hu u h).1
  have pB := lcmB_pos fun u h => (hv u h).1
  exact fr_lowP (Int.mul_ne_zero (by show lcmB us ≠ 0; omega) (by show lcmB vs ≠ 0; omega))
abbrev Tb := List (List Fr)
def colm (T : Tb) (j : Int) : List Fr := T.map fun r => r.getD j.toNat (0, 1)
def tov (T : Tb) : Tb := (rng T.length).map (colm T)
def prd (A B : Tb) : Tb := A.map fun r => ((tov B).map oob).map (sop (oob r))
structure Sq (n : Nat) (T : Tb) : Prop where
  len : T.length = n
  row : ∀ r ∈ T, r.length = n
  low : ∀ r ∈ T, ∀ u ∈ r, Low u
theorem getD_mem {α : Type} {l : List α} {i : Nat} {d : α} (h : i < l.length) : l.getD i d ∈ l := by
  rw [List.getD_eq_getElem?_getD, List.getElem?_eq_getElem h]; exact List.getElem_mem h
theorem Sq.col {n : Nat} {T : Tb} (h : Sq n T) {j : Int} (h0 : 0 ≤ j) (hj : j < n) : (colm T j).length = n ∧ ∀ u ∈ colm T j, Low u := by
  refine ⟨by unfold colm; rw [List.length_map]; exact h.len, fun u hu => ?_⟩
  unfold colm at hu
  obtain ⟨r, hr, e⟩ := List.mem_map.mp hu
  subst e
  exact h.low r hr _ (getD_mem (by rw [h.row r hr]; omega))
theorem mem_rng {n : Nat} {j : Int} (h : j ∈ rng n) : 0 ≤ j ∧ j < n := by
  unfold rng at h
  obtain ⟨i, hi, e⟩ := List.mem_map.mp h
  have := List.mem_range.mp hi
  omega
theorem Sq.tov {n : Nat} {T : Tb} (h : Sq n T) : Sq n (tov T) := by
  refine ⟨by unfold EP.tov; rw [List.length_map, rng_len]; exact h.len, fun r hr => ?_, fun r hr => ?_⟩
  · obtain ⟨j, hj, e⟩ := List.mem_map.mp hr
    obtain ⟨j0, j1⟩ := mem_rng hj
    rw [h.len] at j1
    subst e; exact (h.col j0 j1).1
  · obtain ⟨j, hj, e⟩ := List.mem_map.mp hr
    obtain ⟨j0, j1⟩ := mem_rng hj
    rw [h.len] at j1
    subst e; exact (h.col j0 j1).2
theorem prd_eq {n : Nat} {A B : Tb} (hA : Sq n A) (hB : Sq n B) : prd A B = A.map fun r => (rng n).map fun j => dotF r (colm B j) := by
  unfold prd
  apply List.map_congr_left
  intro r hr
  unfold EP.tov
  rw [List.map_map, List.map_map, hB.len]
  apply List.map_congr_left
  intro j hj
  obtain ⟨j0, j1⟩ := mem_rng hj
  exact sop_dot (hA.low r hr) (hB.col j0 j1).2
theorem Sq.prd {n : Nat} {A B : Tb} (hA : Sq n A) (hB : Sq n B) : Sq n (prd A B) := by
  rw [prd_eq hA hB]
  refine ⟨by rw [List.length_map]; exact hA.len, fun r hr => ?_, fun r hr u hu => ?_⟩
  · obtain ⟨q, hq, e⟩ := List.mem_map.mp hr
    subst e; rw [List.length_map, rng_len]
  · obtain ⟨q, hq, e⟩ := List.mem_map.mp hr
    subst e
    obtain ⟨j, hj, e⟩ := List.mem_map.mp hu
    obtain ⟨j0, j1⟩ := mem_rng hj
    subst e
    exact dotF_low (hA.low q hq) (hB.col j0 j1).2
def lsum (r : List Fr) (B : Tb) (j : Int) : Nat → Fr
  | 0 => (0, 1)
  | k + 1 => fadd (lsum r B j k) (fmul (r.getD k (0, 1)) ((B.getD k []).getD j.toNat (0, 1)))
def lprd (A B : Tb) : Tb := A.map fun r => (rng B.length).map fun j => lsum r B j r.length
theorem zip_take_succ {us vs : List Fr} {k : Nat} (h1 : k < us.length) (h2 : k < vs.length) : (us.zip vs).take (k + 1) = (us.zip vs).take k ++ [(us.getD k (0, 1), vs.getD k (0, 1))] := by
  have hk : k < (us.zip vs).length := by rw [List.length_zip]; omega
  rw [List.take_succ, List.getElem?_eq_getElem hk, List.getD_eq_getElem?_getD, List.getD_eq_getElem?_getD, List.getElem?_eq_getElem h1, List.getElem?_eq_getElem h2]
  simp
theorem lsum_fold (r : List Fr) (B : Tb) (j : Int) (hl : r.length = B.length) : ∀ k, k ≤ r.length → lsum r B j k = ((r.zip (colm B j)).take k).foldl (fun acc p => fadd acc (fmul p.1 p.2)) (0, 1)
  | 0, _ => rfl
  | k + 1, h => by
    have hc : (colm B j).length = B.length := by unfold colm; rw [List.length_map]
    rw [lsum, lsum_fold r B j hl k (by omega), zip_take_succ (by omega) (by omega), List.foldl_append]
    simp only [List.foldl_cons, List.foldl_nil]
    congr 2
    unfold colm
    rw [List.getD_eq_getElem?_getD (l := B.map _), List.getElem?_map, List.getD_eq_getElem?_getD (l := B), List.getElem?_eq_getElem (show k < B.length by omega)]
    rfl
theorem lprd_eq {n : Nat} {A B : Tb} (hA : Sq n A) (hB : Sq n B) : lprd A B = prd A B := by
  rw [prd_eq hA hB]
  unfold lprd
  apply List.map_congr_left
  intro r hr
  rw [hB.len]
  apply List.map_congr_left
  intro j hj
  rw [lsum_fold r B j (by rw [hA.row r hr, hB.len]) r.length (Nat.le_refl _), List.take_of_length_le (by rw [List.length_zip]; omega)]
  rfl
def plL (n : Nat) (i : Int) : List Fr := (rng n).map fun j => if j = i then (1, 1) else (0, 1)
def plT (n : Nat) : Tb := (rng n).map fun i => plL n i
theorem plL_get {n k : Nat} {i : Int} (h : k < n) : (plL n i)[k]? = some (if (k : Int) = i then (1, 1) else (0, 1)) := by
  unfold plL; rw [List.getElem?_map, rng_at h]; rfl
theorem plL_len (n : Nat) (i : Int) : (plL n i).length = n := by unfold plL; rw [List.length_map, rng_len]
theorem low11 : Low (1, 1) := ⟨by decide, by decide⟩
theorem plT_sq (n : Nat) : Sq n (plT n) := by
  refine ⟨by unfold plT; rw [List.length_map, rng_len], fun r hr => ?_, fun r hr u hu => ?_⟩
  · obtain ⟨i, _, e⟩ := List.mem_map.mp hr
    subst e; exact plL_len n i
  · obtain ⟨i, _, e⟩ := List.mem_map.mp hr
    subst e
    obtain ⟨j, _, e⟩ := List.mem_map.mp hu
    subst e
    split
    · exact low11
    · exact low01
theorem tb_ext {n : Nat} {A B : Tb} (hA : Sq n A) (hB : Sq n B) (h : ∀ i j : Nat, i < n → j < n → (A.getD i []).getD j (0, 1) = (B.getD i []).getD j (0, 1)) : A = B := by
  refine List.ext_getElem (by rw [hA.len, hB.len]) fun i h1 h2 => ?_
  have r1 := hA.row _ (List.getElem_mem h1)
  have r2 := hB.row _ (List.getElem_mem h2)
  refine List.ext_getElem (by rw [r1, r2]) fun j h3 h4 => ?_
  have := h i j (by rw [← hA.len]; exact h1) (by rw [← r1]; exact h3)
  simp only [List.getD_eq_getElem?_getD, List.getElem?_eq_getElem h1, List.getElem?_eq_getElem h2, Option.getD_some, List.getElem?_eq_getElem h3, List.getElem?_eq_getElem h4] at this
  exact this
theorem getD_map {α β : Type} {l : List α} {f : α → β} {i : Nat} {d : β} {e : α} (h : i < l.length) : (l.map f).getD i d = f (l.getD i e) := by
  rw [List.getD_eq_getElem?_getD, List.getElem?_map, List.getD_eq_getElem?_getD, List.getElem?_eq_getElem h]; rfl
theorem rng_getD {n i : Nat} {d : Int} (h : i < n) : (rng n).getD i d = (i : Int) := by rw [List.getD_eq_getElem?_getD, rng_at h]; rfl
theorem tov_get {n : Nat} {T : Tb} (h : Sq n T) {i j : Nat} (hi : i < n) (hj : j < n) : ((tov T).getD i []).getD j (0, 1) = (T.getD j []).getD i (0, 1) := by
  unfold EP.tov
  rw [getD_map (e := 0) (by rw [rng_len, h.len]; exact hi), rng_getD (by rw [h.len]; exact hi)]
  unfold colm
  rw [getD_map (e := []) (by rw [h.len]; exact hj), Int.toNat_natCast]
theorem tov_tov {n : Nat} {T : Tb} (h : Sq n T) : tov (tov T) = T := tb_ext h.tov.tov h fun i j hi hj => by rw [tov_get h.tov hi hj, tov_get h hj hi]
theorem prd_get {n : Nat} {A B : Tb} (hA : Sq n A) (hB : Sq n B) {i j : Nat} (hi : i < n) (hj : j < n) : ((prd A B).getD i []).getD j (0, 1) = dotF (A.getD i []) (colm B j) := by
  rw [prd_eq hA hB, getD_map (e := []) (by rw [hA.len]; exact hi), getD_map (e := 0) (by rw [rng_len]; exact hj), rng_getD hj]
theorem row_mem {n : Nat} {A : Tb} (hA : Sq n A) {i : Nat} (hi : i < n) : A.getD i [] ∈ A := getD_mem (by rw [hA.len]; exact hi)
theorem colm_getD {n : Nat} {A : Tb} (hA : Sq n A) {i : Nat} {j : Int} (hi : i < n) : (colm A j).getD i (0, 1) = (A.getD i []).getD j.toNat (0, 1) := by
  unfold colm; rw [getD_map (e := []) (by rw [hA.len]; exact hi)]
theorem plT_getD {n i : Nat} (h : i < n) : (plT n).getD i [] = plL n i := by
  unfold plT; rw [getD_map (e := 0) (by rw [rng_len]; exact h), rng_getD h]
end EP

namespace EP
def val (u : Fr) : Rat := Rat.divInt u.1 u.2
theorem val_fr {t b : Int} (hb : b ≠ 0) : val (fr t b) = Rat.divInt t b :=
  (Rat.divInt_eq_divInt_iff (fr_lowP hb).ne hb).mpr (fr_cross t b)
theorem val_inj {u v : Fr} (hu : Low u) (hv : Low v) (h : val u = val v) : u = v :=
  low_eq hu hv ((Rat.divInt_eq_divInt_iff hu.ne hv.ne).mp h)
theorem val_add {u v : Fr} (hu : Low u) (hv : Low v) : val (fadd u v) = val u + val v := by
  unfold fadd
  rw [val_fr (Int.mul_ne_zero hu.ne hv.ne)]
  exact (Rat.divInt_add_divInt u.1 v.1 hu.ne hv.ne).symm
theorem val_mul {u v : Fr} (hu : Low u) (hv : Low v) : val (fmul u v) = val u * val v := by
  unfold fmul
  rw [val_fr (Int.mul_ne_zero hu.ne hv.ne)]
  exact (Rat.divInt_mul_divInt u.1 v.1).symm
theorem val01 : val (0, 1) = 0 := Rat.zero_divInt 1
def sN (f : Nat → Rat) : Nat → Rat
  | 0 => 0
  | n + 1 => sN f n + f n
theorem sN_congr {f g : Nat → Rat} : ∀ n, (∀ i, i < n → f i = g i) → sN f n = sN g n
  | 0, _ => rfl
  | n + 1, h => by
    show sN f n + f n = sN g n + g n
    rw [sN_congr n fun i hi => h i (by omega), h n (by omega)]
theorem sN_mulL (c : Rat) (f : Nat → Rat) : ∀ n, sN (fun i => c * f i) n = c * sN f n
  | 0 => by show (0 : Rat) = c * 0; grind
  | n + 1 => by
    show sN (fun i => c * f i) n + c * f n = c * (sN f n + f n)
    rw [sN_mulL c f n]; grind
theorem sN_mulR (c : Rat) (f : Nat → Rat) (n : Nat) : sN (fun i => f i * c) n = sN f n * c := by
  rw [Rat.mul_comm, ← sN_mulL]
  exact sN_congr n fun i _ => Rat.mul_comm _ _
theorem sN_add (f g : Nat → Rat) : ∀ n, sN (fun i => f i + g i) n = sN f n + sN g n
  | 0 => by show (0 : Rat) = 0 + 0; grind
  | n + 1 => by
    show sN (fun i => f i + g i) n + (f n + g n) = sN f n + f n + (sN g n + g n)
    rw [sN_add f g n]; grind
theorem sN_zero : ∀ n, sN (fun _ => 0) n = 0
  | 0 => rfl
  | n + 1 => by show sN (fun _ => 0) n + 0 = 0; rw [sN_zero n]; grind
theorem sN_swap (f : Nat → Nat → Rat) (m : Nat) : ∀ n, sN (fun i => sN (f i) m) n = sN (fun j => sN (fun i => f i j) n) m
  | 0 => (sN_zero m).symm
  | n + 1 => by
    show sN (fun i => sN (f i) m) n + sN (f n) m = sN (fun j => sN (fun i => f i j) n + f n j) m
    rw [sN_swap f m n, sN_add]
def vsum (r x : List Fr) : Nat → Fr
  | 0 => (0, 1)
  | k + 1 => fadd (vsum r x k) (fmul (r.getD k (0, 1)) (x.getD k (0, 1)))
theorem low_getD {l : List Fr} (h : ∀ u ∈ l, Low u) (k : Nat) : Low (l.getD k (0, 1)) := by
  by_cases hk : k < l.length
  · exact h _ (getD_mem hk)
  · rw [List.getD_eq_getElem?_getD, List.getElem?_eq_none (by omega)]; exact low01
theorem vsum_val {r x : List Fr} (hr : ∀ u ∈ r, Low u) (hx : ∀ u ∈ x, Low u) : ∀ k, Low (vsum r x k) ∧ val (vsum r x k) = sN (fun i => val (r.getD i (0, 1)) * val (x.getD i (0, 1))) k
  | 0 => ⟨low01, val01⟩
  | k + 1 => by
    obtain ⟨a, b⟩ := vsum_val hr hx k
    have h1 := low_getD hr k
    have h2 := low_getD hx k
    refine ⟨low_add a (low_mul h1 h2), ?_⟩
    show val (fadd _ (fmul _ _)) = sN _ k + _
    rw [val_add a (low_mul h1 h2), val_mul h1 h2, b]
theorem vsum_fold (r x : List Fr) (hl : r.length = x.length) : ∀ k, k ≤ r.length → vsum r x k = ((r.zip x).take k).foldl (fun acc p => fadd acc (fmul p.1 p.2)) (0, 1)
  | 0, _ => rfl
  | k + 1, h => by
    rw [zip_take_succ (by omega) (by omega), List.foldl_append, ← vsum_fold r x hl k (by omega)]
    rfl
theorem dot_vsum {r x : List Fr} {n : Nat} (h1 : r.length = n) (h2 : x.length = n) : dotF r x = vsum r x n := by
  rw [vsum_fold r x (by omega) n (by omega), List.take_of_length_le (by rw [List.length_zip]; omega)]
  rfl
theorem dot_val' {r x : List Fr} {n : Nat} (h1 : r.length = n) (h2 : x.length = n) (hr : ∀ u ∈ r, Low u) (hx : ∀ u ∈ x, Low u) : val (dotF r x) = sN (fun i => val (r.getD i (0, 1)) * val (x.getD i (0, 1))) n := by
  rw [dot_vsum h1 h2]; exact (vsum_val hr hx n).2
def atv (T : Tb) (x : List Fr) : List Fr := (T.map oob).map (sop (oob x))
def latv (T : Tb) (x : List Fr) : List Fr := T.map fun r => vsum r x x.length
end EP

namespace EP
def rtN : Nat → Nat
  | 0 => 0
  | n + 1 => if (rtN n + 1) * (rtN n + 1) ≤ n + 1 then rtN n + 1 else rtN n
theorem rtN_le : ∀ n, rtN n * rtN n ≤ n
  | 0 => Nat.le_refl _
  | n + 1 => by
    have := rtN_le n
    unfold rtN
    split <;> omega
theorem rtN_lt : ∀ n, n < (rtN n + 1) * (rtN n + 1)
  | 0 => by decide
  | n + 1 => by
    have h := rtN_lt n
    unfold rtN
    split
    · have : (rtN n + 1) * (rtN n + 1) < (rtN n + 1 + 1) * (rtN n + 1 + 1) := Nat.mul_lt_mul'' (by omega) (by omega)
      omega
    · omega
def rt (k : Int) : Int := (rtN k.toNat : Int)
theorem rt_nonneg (k : Int) : 0 ≤ rt k := by unfold rt; omega
theorem rt_le {k : Int} (h : 0 ≤ k) : rt k * rt k ≤ k := by
  have := rtN_le k.toNat
  unfold rt
  have e : ((rtN k.toNat * rtN k.toNat : Nat) : Int) ≤ ((k.toNat : Nat) : Int) := by omega
  rw [Int.natCast_mul] at e
  omega
theorem rt_lt {k : Int} (h : 0 ≤ k) : k < (rt k + 1) * (rt k + 1) := by
  have := rtN_lt k.toNat
  unfold rt
  have e : ((k.toNat : Nat) : Int) < (((rtN k.toNat + 1) * (rtN k.toNat + 1) : Nat) : Int) := by omega
  rw [Int.natCast_mul] at e
  simp only [Int.natCast_add, Int.natCast_one] at e
  omega
theorem sq_lt {a b : Int} (h0 : 0 ≤ a) (h : a * a < b * b) (hb : 0 ≤ b) : a < b := by
  apply Classical.byContradiction
  intro hn
  have : b * b ≤ a * a := Int.mul_le_mul (by omega) (by omega) hb h0
  omega
theorem rt_unique {k r : Int} (h0 : 0 ≤ r) (h1 : r * r ≤ k) (h2 : k < (r + 1) * (r + 1)) : r = rt k := by
  have hk : 0 ≤ k := Int.le_trans (Int.mul_nonneg h0 h0) h1
  have a := rt_le hk
  have b := rt_lt hk
  have c := rt_nonneg k
  have := sq_lt h0 (show r * r < (rt k + 1) * (rt k + 1) by omega) (by omega)
  have := sq_lt c (show rt k * rt k < (r + 1) * (r + 1) by omega) (by omega)
  omega
def OddFree (k : Int) : Prop := ∀ d : Int, 3 ≤ d → d * d ≤ k → d % 2 = 1 → ¬ d ∣ k
open Classical in
noncomputable def isP (k : Int) : Bool := decide (k = 2 ∨ (3 ≤ k ∧ k % 2 = 1 ∧ OddFree k))
def nodiv (n : Nat) (m : Nat) : Bool := @Nat.rec (fun _ => Bool) true (fun i ih => cond (Nat.beq (n % (2 * i + 3)) 0) false ih) m
def PB : Int := 1070000011
noncomputable def pfF : Nat → Int → Int
  | 0, k => k
  | n + 1, k => if isP k then k else pfF n (k + 2)
noncomputable def pf (k : Int) : Int := if k < 3 then 2 else pfF 1073741824 (k + 1 - k % 2)
def NdS (k b m : Int) (r : Option Int) : Prop := match r with
  | none => ∀ d, b ≤ d → d < m → (d - b) % 2 = 0 → ¬ d ∣ k
  | some d => b ≤ d ∧ d < m ∧ (d - b) % 2 = 0 ∧ d ∣ k ∧ ∀ d', b ≤ d' → d' < d → (d' - b) % 2 = 0 → ¬ d' ∣ k
theorem NdS.ex (k b m : Int) : ∀ n : Nat, (∃ d, NdS k b m (some d)) ∨ ∀ d, b ≤ d → d < m → d < b + 2 * n → (d - b) % 2 = 0 → ¬ d ∣ k
  | 0 => .inr fun d h1 h2 h3 => by omega
  | n + 1 => by
    rcases NdS.ex k b m n with h | h
    · exact .inl h
    · by_cases hm : b + 2 * n < m ∧ (b + 2 * n : Int) ∣ k
      · exact .inl ⟨b + 2 * n, by omega, hm.1, by omega, hm.2, fun d' h1 h2 h3 => h d' h1 (by omega) h2 h3⟩
      · refine .inr fun d h1 h2 h3 h4 hd => ?_
        by_cases e : d = b + 2 * n
        · subst e; exact hm ⟨h2, hd⟩
        · exact h d h1 h2 (by omega) h4 hd
noncomputable def ndM (k b m : Int) : Option Int := Classical.epsilon (NdS k b m)
noncomputable def ndv (k b e : Int) : Option Int := ndM k b (if rt k + 1 < e then rt k + 1 else e)
end EP

namespace EP
def ent (F : Tb) (i j : Nat) : Fr := (F.getD i []).getD j (0, 1)
theorem ent_low {n : Nat} {F : Tb} (h : Sq n F) (i j : Nat) : Low (ent F i j) := by
  unfold ent
  rcases Nat.lt_or_ge i F.length with z | z
  · exact low_getD (h.low _ (getD_mem z)) j
  · rw [List.getD_eq_getElem?_getD (l := F), List.getElem?_eq_none (by omega)]
    exact low_getD (by simp) j
def frm (F : Tb) (x : List Fr) : Fr := sop (oob (atv F x)) (oob x)
def lvR (F : Tb) (x : List Fr) (i : Nat) : Nat → Fr → Fr
  | 0, t => t
  | j + 1, t => fadd (lvR F x i j t) (fmul (ent F i j) (fmul (x.getD i (0, 1)) (x.getD j (0, 1))))
def lvO (F : Tb) (x : List Fr) : Nat → Fr
  | 0 => (0, 1)
  | i + 1 => lvR F x i x.length (lvO F x i)
def lval (F : Tb) (x : List Fr) : Fr := lvO F x x.length
def setIJ (T : Tb) (i j : Nat) (v : Fr) : Tb := T.set i ((T.getD i []).set j v)
theorem ent_set {n : Nat} {T : Tb} (h : Sq n T) {i j : Nat} (v : Fr) (hi : i < n) (hj : j < n) (a b : Nat) (ha : a < n) (hb : b < n) : ent (setIJ T i j v) a b = if a = i ∧ b = j then v else ent T a b := by
  have hl := h.len
  have hr := h.row _ (row_mem h hi)
  unfold ent setIJ
  by_cases z : a = i
  · subst z
    rw [List.getD_eq_getElem?_getD (l := T.set a _), List.getElem?_set_self (by omega)]
    simp only [Option.getD_some]
    by_cases w : b = j
    · subst w
      rw [if_pos (by simp), List.getD_eq_getElem?_getD, List.getElem?_set_self (by omega)]
      rfl
    · rw [if_neg (fun q => w q.2), List.getD_eq_getElem?_getD, List.getElem?_set_ne (Ne.symm w), ← List.getD_eq_getElem?_getD]
  · rw [if_neg (fun q => z q.1), List.getD_eq_getElem?_getD (l := T.set i _), List.getElem?_set_ne (Ne.symm z), ← List.getD_eq_getElem?_getD]
theorem mem_set {α : Type} {l : List α} {i : Nat} {v x : α} (h : x ∈ l.set i v) : x ∈ l ∨ x = v := List.mem_or_eq_of_mem_set h
structure AllT (n : Nat) (Q : Fr → Prop) (T : Tb) : Prop where
  len : T.length = n
  row : ∀ r ∈ T, r.length = n
  all : ∀ r ∈ T, ∀ u ∈ r, Q u
theorem AllT.set {n : Nat} {Q : Fr → Prop} {T : Tb} (h : AllT n Q T) {i j : Nat} {v : Fr} (hi : i < n) (hv : Q v) : AllT n Q (setIJ T i j v) := by
  have hm : T.getD i [] ∈ T := getD_mem (by rw [h.len]; exact hi)
  refine ⟨by unfold setIJ; rw [List.length_set]; exact h.len, fun r hr => ?_, fun r hr u hu => ?_⟩
  · rcases mem_set hr with z | z
    · exact h.row r z
    · rw [z, List.length_set]; exact h.row _ hm
  · rcases mem_set hr with z | z
    · exact h.all r z u hu
    · rw [z] at hu
      rcases mem_set hu with w | w
      · exact h.all _ hm u w
      · rw [w]; exact hv
theorem AllT.sq {n : Nat} {Q : Fr → Prop} {T : Tb} (h : AllT n Q T) (hq : ∀ u, Q u → Low u) : Sq n T := ⟨h.len, h.row, fun r hr u hu => hq u (h.all r hr u hu)⟩
def Sym (n : Nat) (T : Tb) : Prop := ∀ a b, a < n → b < n → ent T a b = ent T b a
theorem Sym.set {n : Nat} {Q : Fr → Prop} {T : Tb} (h : AllT n Q T) (hq : ∀ u, Q u → Low u) (s : Sym n T) {i j : Nat} {v : Fr} (hi : i < n) (hj : j < n) (hv : Q v) : Sym n (setIJ (setIJ T i j v) j i v) := fun a b ha hb => by
  have h1 := (h.set (j := j) hi hv)
  rw [ent_set (h1.sq hq) v hj hi a b ha hb, ent_set (h1.sq hq) v hj hi b a hb ha, ent_set (h.sq hq) v hi hj a b ha hb, ent_set (h.sq hq) v hi hj b a hb ha, s a b ha hb]
  by_cases z1 : a = j ∧ b = i
  · rw [if_pos z1]
    by_cases z2 : b = j ∧ a = i
    · rw [if_pos z2]
    · rw [if_neg z2, if_pos ⟨z1.2, z1.1⟩]
  · rw [if_neg z1]
    by_cases z2 : b = j ∧ a = i
    · rw [if_pos z2, if_pos ⟨z2.2, z2.1⟩]
    · rw [if_neg z2, if_neg (fun q => z2 ⟨q.2, q.1⟩), if_neg (fun q => z1 ⟨q.2, q.1⟩)]
theorem sym_tov {n : Nat} {T : Tb} (h : Sq n T) : tov T = T ↔ Sym n T := by
  constructor
  · intro e a b ha hb
    have := tov_get h ha hb
    rw [e] at this
    exact this
  · intro s
    exact tb_ext h.tov h fun i j hi hj => by rw [tov_get h hi hj]; exact s j i hj hi
def zeT (n : Nat) : Tb := (rng n).map fun _ => (rng n).map fun _ => (0, 1)
theorem zeT_all {n : Nat} {Q : Fr → Prop} (h : Q (0, 1)) : AllT n Q (zeT n) := by
  unfold zeT
  refine ⟨by rw [List.length_map, rng_len], fun r hr => ?_, fun r hr u hu => ?_⟩
  · obtain ⟨_, _, rfl⟩ := List.mem_map.mp hr
    rw [List.length_map, rng_len]
  · obtain ⟨_, _, rfl⟩ := List.mem_map.mp hr
    obtain ⟨_, _, rfl⟩ := List.mem_map.mp hu
    exact h
theorem zeT_sym (n : Nat) : Sym n (zeT n) := fun a b ha hb => by
  have e : ∀ a b, a < n → b < n → ent (zeT n) a b = (0, 1) := fun a b ha hb => by
    unfold ent zeT
    rw [getD_map (e := 0) (by rw [rng_len]; exact ha), getD_map (e := 0) (by rw [rng_len]; exact hb)]
  rw [e a b ha hb, e b a hb ha]
end EP

namespace L2.EP
open PySem PySem.Spec PyProof.Rows
section
variable {X : Cx} {Γ : GEnv} {D : GD} {α β : Type} [Py α] [Py β] {e e1 e2 : Expr} {b b1 b2 : Bool} {pos : Pos} {rest : List Stmt}
theorem e_shl {i j : Int} (ha : E X Γ e1 b1 i) (hb : E X Γ e2 b2 j) (hc : CPow i j) : E X Γ (.BinOp e1 .LShift e2 pos) true (i * 2 ^ j.toNat) := by
  with_unfolding_all
    exact e_ii (g := fun i j => i * 2 ^ j.toNat) op_shl ha hb hc
theorem S.nxW {D : GD} {nx' : GEnv → Prop} {st : List Stmt} (h : S X Γ st D) (w : ∀ Γ', D.nx Γ' → nx' Γ') : S X Γ st { D with nx := nx' } := by
  with_unfolding_all
    exact pss_wk h fun De σ H ⟨H0, F, O, Z, n, r, bk, ct⟩ => ⟨H0, F, O, Z, fun Γ' σ' H' O' sm Z' q => n Γ' σ' H' O' sm Z' (w Γ' q), r, bk, ct⟩
theorem s_ifJ {c : Bool} {body orelse : List Stmt} (J : GEnv → Prop) (hc : T X Γ e c) (h1 : c = true → S X Γ body { D with nx := J }) (h2 : c = false → S X Γ orelse { D with nx := J }) (h : ∀ Γ', J Γ' → S X Γ' rest D) : S X Γ (.If e body orelse pos :: rest) D := by
  with_unfolding_all
    exact s_if hc (fun z => (h1 z).nxW h) (fun z => (h2 z).nxW h)
def MgI (mg : Str → Option Value) (x : Str) (i : Int) : Prop := ∃ t, mg x = some (.int i t)
end
theorem atGetD {α : Type} {xs : List α} {k : Int} {d : α} (h0 : 0 ≤ k) (h : k < (xs.length : Int)) : atI xs k = some (xs.getD k.toNat d) := by
  have hk : k.toNat < xs.length := by omega
  have e : k = ((k.toNat : Nat) : Int) := by omega
  have q : atI xs ((k.toNat : Nat) : Int) = some xs[k.toNat] := atI_nat (by rw [List.getElem?_eq_getElem hk])
  rw [← e] at q
  rw [q, List.getD_eq_getElem?_getD, List.getElem?_eq_getElem hk]; rfl
end L2.EP

namespace L2.EP
open PySem PySem.Spec PyProof.Rows
structure TupL (α : Type) where
  l : List α
theorem sqT_tr {K : PySem.W.Frag} {H H' : Hp} {p : Addr} {xs : List V} (t : ∀ p xs, Rd H p (.tup xs) → Rd H' p (.tup xs)) (h : SqT K H p xs) : SqT K H' p xs := h.imp (t _ _) id
instance {α : Type} [Py α] : Py (TupL α) where
  rp K N H v a := ∃ p xs, v = .ref p ∧ SqT K H p xs ∧ Paired (fun x b => Py.rp K N H x b) xs a.l
  tr l t h := by
    obtain ⟨p, xs, e, s, r⟩ := h
    exact ⟨p, xs, e, sqT_tr t s, pr_imp (fun _ _ q => Py.tr l t q) r⟩
instance {α β : Type} [Py α] [Py β] : Py (α ⊕ β) where
  rp K N H v a := match a with | .inl x => Py.rp K N H v x | .inr y => Py.rp K N H v y
  tr {K N N' H H' v a} l t h := by
    cases a with
    | inl x => exact Py.tr (α := α) l t h
    | inr y => exact Py.tr (α := β) l t h
section
variable {X : Cx} {Γ : GEnv} {D : GD} {α β : Type} [Py α] [Py β] {e e1 e2 tg : Expr} {b b1 b2 : Bool} {pos : Pos} {rest : List Stmt}
def MgT (K : PySem.W.Frag) (mg : Str → Option Value) (x : Str) (xs : List Int) : Prop := ∃ (p : Addr) (o : Obj) (its : Array Value) (n : Nat), mg x = some (.ref p) ∧ K.lookup p = some o ∧ o.cls = .type "tuple" ∧ o.data = .seq its n ∧ its.size ≤ sizeLine ∧ Vals (xs.map V.int) its.toList
theorem MgI.mk {K : PySem.W.Frag} {h : Heap} {mg : Str → Option Value} {x : Str} {i : Int} {t : Tok} (Y : K.In h) (G : h.Ns mainGlobals mg) (a : PySem.W.nsIn K mainGlobals x = some (some (.int i t))) : MgI mg x i := ⟨t, PySem.W.mg_of Y G a⟩
theorem MgT.mk {K : PySem.W.Frag} {h : Heap} {mg : Str → Option Value} {x : Str} {xs : List Int} {p : Addr} {od : Option Addr} {its : Array Value} {n : Nat} {osl : Array (Option Value)} (Y : K.In h) (G : h.Ns mainGlobals mg) (a : PySem.W.nsIn K mainGlobals x = some (some (.ref p)))
    (l : K.lookup p = some ⟨.type "tuple", od, .seq its n, osl⟩) (hz : its.size ≤ 1000) (hv : Vals (xs.map V.int) its.toList) : MgT K mg x xs := ⟨p, _, its, n, PySem.W.mg_of Y G a, l, rfl, rfl, Nat.le_of_lt (small1000 hz), hv⟩
theorem e_get {a : α} (h : E X Γ e b (some a)) : E X Γ e b a := by
  with_unfolding_all
    exact h
theorem e_some {a : α} (h : E X Γ e b a) : E X Γ e b (some a) := by
  with_unfolding_all
    exact h
end
section
variable {X : Cx} {Γ : GEnv} {D : GD} {α β γ : Type} [Py α] [Py β] [Py γ] {e e1 e2 e3 : Expr} {b b1 b2 b3 : Bool} {pos : Pos} {rest : List Stmt}
end
def RTU : GD := { nx := fun _ => True, rt := fun _ => False }
section
variable {P : Program} {w : World} {K : PySem.W.Frag} {mg : Str → Option Value} {base : Heap} {N ps : List Str} {x qual : Str} {st : Stmt} {f : Addr} {k : Nat} {fd : FuncData}
def unit1 {α : Type} (_ : α) : Unit := ()
end
end L2.EP

namespace L2.EP
open PySem PySem.Spec PyProof.Rows
theorem rd_tup_off {H : Hp} {O : Addr → Prop} (ho : ∀ p, O p → ∃ xs : Mt, H p = some (mo xs)) (p : Addr) (xs : List V) (h : Rd H p (.tup xs)) : Rd (off H O) p (.tup xs) := by
  have hn : ¬ O p := fun z => by
    obtain ⟨ys, e⟩ := ho p z
    rcases h with h | ⟨o, h⟩
    · rw [e] at h; rcases ys with ys | ys | ys <;> cases h
    · rw [e] at h; rcases ys with ys | ys | ys <;> cases h
  rcases h with h | ⟨o, h⟩
  · exact .inl (by rw [off_get hn]; exact h)
  · exact .inr ⟨o, by rw [off_get hn]; exact h⟩
theorem pr_cat {α β : Type} {F : α → β → Prop} : ∀ {l₁ l₂ : List α} {m₁ m₂ : List β}, Paired F l₁ m₁ → Paired F l₂ m₂ → Paired F (l₁ ++ l₂) (m₁ ++ m₂)
  | _, _, _, _, .nil, h => h
  | _, _, _, _, .cons h r, h' => .cons h (pr_cat r h')
section
variable {X : Cx} {Γ : GEnv} {D : GD} {α β γ : Type} [Py α] [Py β] [Py γ] {e e1 e2 : Expr} {b b1 b2 : Bool} {pos : Pos} {st rest : List Stmt}
def cInts : List Expr → Option (List Int)
  | [] => some []
  | .Constant (.int i) _ _ :: es => match cInts es with
    | some ns => some (i :: ns)
    | none => none
  | _ => none
theorem e_eq {a a' : α} (h : E X Γ e b a) (ha : a = a') : E X Γ e b a' := by
  with_unfolding_all
    subst ha; exact h
end
end L2.EP

namespace L2
open PySem PySem.Spec PyProof.Rows
section
variable {X : Cx} {pos : Pos}
def gLst (K : PySem.W.Frag) (n : Nat) (t : TGs) : TG := fun v σ H Q => ∃ a xs, v = .ref a ∧ SqL K H a xs ∧ xs.length = n ∧ t xs σ H Q
end
end L2
namespace L2.EP
open PySem PySem.Spec PyProof.Rows
section
variable {X : Cx} {Γ : GEnv} {D : GD} {α β γ : Type} [Py α] [Py β] [Py γ] {e e1 e2 : Expr} {b b1 b2 : Bool} {pos : Pos} {rest st : List Stmt}
end
end L2.EP
namespace L2.EP
open PySem PySem.Spec PyProof.Rows
theorem op_catS {X : Cx} : OpR X (binaryOp .Add) (fun x y H Q => ∃ l b xs zs, x = .ref l ∧ y = .ref b ∧ SqL X.K H l xs ∧ SqL X.K H b zs ∧ xs.length + zs.length ≤ sizeLine ∧ ∀ p, H p = none → Q (.ref p) (upd H p (.lst (xs ++ zs)))) := by
  intro pins s σ H x y v u Q I rx ry h
  obtain ⟨l, b, xs, zs, rfl, rfl, hH, hB, hz, q⟩ := h
  cases rx
  cases ry
  obtain ⟨its, r, pl, _⟩ := I.list hH
  obtain ⟨its2, r2, pl2, _⟩ := I.list hB
  obtain ⟨⟨cls, dd, data, sl⟩, n, ho, hc, hdd, hd⟩ := pl
  obtain ⟨⟨cls2, dd2, data2, sl2⟩, n2, ho2, hc2, hdd2, hd2⟩ := pl2
  simp only at hc hdd hd hc2 hdd2 hd2
  subst hc hdd hd hc2 hdd2 hd2
  have l1 := r.length
  have l2 := r2.length
  have ea : its.toArray ++ its2.toArray = (its ++ its2).toArray := by simp
  refine concat_meets ⟨_, ho, rfl⟩ ⟨_, ho2, rfl⟩ noFill_list_add seq_list_add PySem.F.slot_list_add PySem.F.entry_list_add (PySem.F.args_list_add_2 _ _) (list_addW l b its.toArray its2.toArray n n2 none none sl sl2 (by rw [List.size_toArray, List.size_toArray]; omega)) ⟨ho, ho2, ?_⟩
  rw [ea]
  exact ⟨.ref _, _, I.lnew (t' := s.toks) (r.append r2) (by rw [List.length_append]; omega), rfl, q _ I.fresh⟩
section
variable {X : Cx} {Γ : GEnv} {D : GD} {α β γ : Type} [Py α] [Py β] [Py γ] {e e1 e2 : Expr} {b b1 b2 : Bool} {pos : Pos} {rest st : List Stmt}
theorem e_catT [PyT α] {xs ys : List α} (ha : E X Γ e1 b1 xs) (hb : E X Γ e2 b2 ys) (hl : xs.length + ys.length ≤ 1000) : E X Γ (.BinOp e1 .Add e2 pos) true (xs ++ ys) := by
  with_unfolding_all
    exact pe_wk (pe_op op_catS ha hb) fun σ H Q ⟨H0, F, O, S, q⟩ => ⟨H0, F, O, S, fun v H1 s1 r1 => ⟨H0, F, O, S.go s1, fun w H2 s2 r2 => by
        obtain ⟨p, vs, e1, sq1, n1, rr1⟩ := r1
        obtain ⟨p', vs', e2, sq2, n2, rr2⟩ := r2
        refine ⟨p, p', vs, vs', e1, e2, (off_same _ _).seq ((off_mono s2).seq sq1), (off_same _ _).seq sq2, by rw [pr_len rr1, pr_len rr2]; exact Nat.le_of_lt (small1000 hl), fun l hl' => ?_⟩
        obtain ⟨z1, z2⟩ := laid_lst (xs := vs ++ vs') ((S.go s1).go s2) hl'
        refine q _ _ (s1.trans (s2.trans z1)) ⟨l, _, rfl, SqL.of z2, Nf.wk (b := true) (((S.go s1).go s2).free0 hl') z2, pr_cat ?_ ?_⟩
        · exact pr_imp (fun _ _ z => PyT.free (fun _ _ t => Same.rd ((off_mono s2).trans (off_mono z1)) t) z) rr1
        · exact pr_imp (fun _ _ z => PyT.free (fun _ _ t => Same.rd (off_mono z1) t) z) rr2⟩⟩
end
end L2.EP
namespace L2.EP
open PySem PySem.Spec PyProof.Rows
def cIntsN : Nat → List Expr → Option (List Int)
  | 0, _ => some []
  | n + 1, .Constant (.int i) _ _ :: es => match cIntsN n es with
    | some ns => some (i :: ns)
    | none => none
  | _, _ => none
end L2.EP
namespace L2
open PySem PySem.Spec PyProof.Rows
def Ite (K : PySem.W.Frag) (a : Addr) : It :=
  ⟨fun i H => ∃ xs x, SqL K H a xs ∧ xs[i]? = some x,
   fun i H v H' => ∃ T x, H T = none ∧ v = .ref T ∧ H' = upd H T (.tup [.int (i : Int), x]) ∧ ∀ xs, SqL K H a xs → xs[i]? = some x,
   fun i H => ∃ xs, SqL K H a xs ∧ xs.length ≤ i⟩
theorem turn_enum {P : Program} {w : World} {K : PySem.W.Frag} {elts : List Expr} {kk : Nat} {tp : Pos} (z it a : Addr) : Turn P w K (.Tuple elts kk tp) (Ite K a) [z, it] z
    (fun i h => (∃ old, IsEnum h z it ((i : Nat) : Int) old) ∧ h.IsListIter it a i) where
  mem := by simp
  obj := fun i h st c hc => by
    obtain ⟨⟨old, hz⟩, h1⟩ := st
    have hc' : c = z ∨ c = it := by simpa using hc
    rcases hc' with e | e
    · subst e; exact ⟨_, hz, fun v q => by cases q⟩
    · subst e; obtain ⟨o, q1, q2, q3⟩ := h1; exact ⟨o, q1, fun v q => by rw [q3] at q; cases q⟩
  keep := fun i h h' st k => by
    obtain ⟨⟨old, hz⟩, h1⟩ := st
    exact ⟨⟨old, k z (by simp) _ hz⟩, h1.at fun o e => k it (by simp) o e⟩
  item := by
    intro X hP hw hK hc i pins s σ H E I hf st hg
    subst hP hw hK
    obtain ⟨xs, x, sx, gx⟩ := hg
    obtain ⟨⟨old, hz⟩, h1⟩ := st
    obtain ⟨ix, rx, px, _⟩ := I.list sx
    have X' : ∀ {s t : String}, s ≠ t → Value.type s ≠ Value.type t := fun ne e => ne (by injection e)
    have hne : z ≠ it := by
      obtain ⟨o1, a1, b1, _⟩ := h1
      exact cls_ne hz a1 (by rw [b1]; exact X' (by decide))
    obtain ⟨u, ux, uxr⟩ := rx.get gx
    refine wpAny_pyNext_enum_item hz h1 px.isList (by simpa using ux) hne fun h' a1 a3 a5 a6 hk => ?_
    have hT0 : H s.heap.objs.size = none := I.hok.fresh (Nat.le_refl _)
    have I1 : Inv X pins σ (upd H s.heap.objs.size (.tup [.int (i : Int), x])) { s with heap := h', toks := s.toks + 1 } := by
      refine I.turnedT (ch := [z, it]) (Nat.le_refl _) (fun c o hc' e => hk c o (fun q => hc' (by simp [q])) (fun q => hc' (by simp [q])) e) (fun c o e => ?_) (fun c hc' => hf c hc') ?_
      · by_cases q1 : c = z
        · subst q1; exact ⟨_, a1⟩
        by_cases q3 : c = it
        · subst q3; obtain ⟨o', q, _⟩ := a3; exact ⟨o', q⟩
        exact ⟨o, hk c o q1 q3 e⟩
      · exact ⟨by show 2 ≤ sizeLine; decide, [.int i s.toks, u], .cons ⟨_, rfl⟩ (.cons uxr .nil), ⟨_, a5, rfl, _, rfl⟩⟩
    refine ⟨_, rfl, ?_⟩
    have fz := hf z (by simp)
    refine wpAny_letOwnedTupleGo_enum a1 fun h2' hz' hs' => ?_
    have zT : z ≠ s.heap.objs.size := Nat.ne_of_lt (Heap.lt_size hz)
    have I2 : Inv X pins σ (upd H s.heap.objs.size (.tup [.int (i : Int), x])) { ({ s with heap := h', toks := s.toks + 1 } : Shared) with heap := h2', toks := s.toks + 1 } := I1.turned (fun c o hc' e => hs'.extBut c o hc' e) (by rw [upd_ne zT]; exact fz.1) fz.2.1 fz.2.2.2.1 fz.2.2.2.2.1 fz.2.2.2.2.2
    refine ⟨.ref s.heap.objs.size, upd H s.heap.objs.size (.tup [.int (i : Int), x]), I2, rfl, ⟨s.heap.objs.size, x, hT0, rfl, rfl, fun xs' sx' => ?_⟩, ⟨⟨_, hz'⟩, a3.extBut hs'.extBut (Ne.symm hne)⟩, fun c hc' => ?_⟩
    · rw [I.list_inj sx' sx]; exact gx
    · have hcl : c < s.heap.objs.size := by
        have hc2 : c = z ∨ c = it := by simpa using hc'
        rcases hc2 with e | e
        · subst e; exact Heap.lt_size hz
        · subst e; obtain ⟨_, q, _⟩ := h1; exact Heap.lt_size q
      rw [upd_ne (Nat.ne_of_lt hcl)]; exact (hf c hc').1
  done := by
    intro X hP hw hK hc i pins s σ H E I hf st hg
    subst hP hw hK
    obtain ⟨xs, sx, hend⟩ := hg
    obtain ⟨⟨old, hz⟩, h1⟩ := st
    obtain ⟨ix, rx, px, _⟩ := I.list sx
    refine wpAny_pyNext_enum_end (I.ok.hd hc) hz h1 px.isList ?_ fun h' hk => ⟨rfl, ?_⟩
    · have := rx.length
      simp; omega
    · have f1 := hf it (by simp)
      refine I.step (g' := s.gens) (d' := s.drawn) (t' := s.toks) (ch := [it]) (fun b hb => ?_) (fun b o _ _ hc' e _ => hk b o (fun q => hc' (by simp [q])) e) (fun b o _ _ hc' e _ => ⟨o.slots, hk b o (fun q => hc' (by simp [q])) e⟩) (fun _ _ _ _ n => n)
        (fun b o hc' e => ⟨o, hk b o (fun q => hc' (by simp [q])) e⟩) (fun _ _ e => e) (fun _ _ _ e => e) (fun b ps e => ⟨#[], by rw [e]; simp⟩) (fun m hm => ?_) (fun b u e => ?_) I.bare
      · have q := hf b (by simp at hb ⊢; simp [hb])
        exact ⟨q.2.2.2.1, q.2.1, q.2.2.2.2.1, q.2.2.2.2.2⟩
      · obtain ⟨o, es, ep, ho, r⟩ := hm
        exact ⟨o, es, ep, hk _ o (Ne.symm f1.2.1) ho, r⟩
      · have nn : ∀ c v, H c = some v → c ≠ it := fun c v e q => by rw [q, f1.1] at e; cases e
        refine (I.hok b u e).stay (fun c v hc' q => ?_) (fun _ q => q) fun _ _ q => q
        rcases hc' with e' | e'
        · subst e'; exact hk c v (nn c _ e) q
        · exact hk c v (nn c _ e') q
  self := fun _ _ _ _ _ st h => by
    obtain ⟨⟨old, hz⟩, _⟩ := st
    exact wpAny_pyIter_enum hz h
section
variable {X : Cx} {elts : List Expr} {kk : Nat} {tp : Pos}
def iEnum (K : PySem.W.Frag) (ta : TA) : TI := fun σ H R => ta σ H fun vs H1 => ∃ a, vs = [.ref a] ∧ (∃ xs, SqL K H1 a xs) ∧ R (Ite K a) H1
theorem pi_enum {e1 : Expr} {ta : TA} {p pos : Pos} (hg : Gl X "enumerate") (hm : X.mg "enumerate" = none) (ha : PA X [e1] ta) (he : starEach [e1] X.env = (false, eval e1 X.env) :: starEach [] X.env := by rfl)
    (hpl : (backTo pos (starEach [] X.env)).any (·.1) = false := by rfl) : PI X (.Tuple elts kk tp) (.Call (.Name "enumerate" p) [e1] [] pos) (iEnum X.K ta) := by
  intro pins s σ H R I h
  refine Call_ (ld_blt I hg hm PyProof.Rows.boot_enumerate (PyProof.Rows.callWith_type1 (thn (ha pos pins s σ H _ I h) fun us s1 ⟨vs, H1, I1, r1, q1⟩ => ?_) he hpl))
  obtain ⟨a, e, ⟨xs, sx⟩, q⟩ := q1
  subst e
  obtain ⟨u, rfl, ra⟩ := vals1 r1
  cases ra
  obtain ⟨ix, rx, px, _⟩ := I1.list sx
  refine call_enumerate_list px.isList fun h' z1 z4 z6 hk => ?_
  have I2 : Inv X pins σ H1 { s1 with heap := h', toks := s1.toks } := I1.kept hk
  refine wpAny_pyIter_enum (s := { s1 with heap := h' }) z1 ?_
  refine ⟨s1.heap.objs.size + 1, [s1.heap.objs.size + 1, s1.heap.objs.size], _, Ite X.K a, H1, rfl, I2, turn_enum (s1.heap.objs.size + 1) s1.heap.objs.size a, ⟨⟨_, z1⟩, z4⟩, fun c hc => ?_, q⟩
  have hge : s1.heap.objs.size ≤ c := by
    simp at hc
    rcases hc with e | e <;> subst e <;> omega
  exact I1.fpOk hge (I1.hok.fresh hge)
end
end L2
namespace L2.EP
open PySem PySem.Spec PyProof.Rows
def enI {α : Type} (xs : List α) : List (Int × α) := xs.mapIdx fun i x => ((i : Int), x)
theorem enI_get {α : Type} {xs : List α} {i : Nat} {u : Int × α} (h : (enI xs)[i]? = some u) : xs[i]? = some u.2 ∧ u.1 = (i : Int) := by
  unfold enI at h
  rw [List.getElem?_mapIdx] at h
  cases e : xs[i]? with
  | none => rw [e] at h; cases h
  | some x => rw [e] at h; cases h; exact ⟨rfl, rfl⟩
theorem enI_len {α : Type} (xs : List α) : (enI xs).length = xs.length := by unfold enI; rw [List.length_mapIdx]
section
variable {X : Cx} {Γ : GEnv} {α β : Type} [Py α] [Py β] {e1 e2 : Expr} {b1 b2 : Bool} {elts : List Expr} {kk : Nat} {tp p ps : Pos}
theorem ei_enum {xs : List α} (hg : Gl X "enumerate") (hm : X.mg "enumerate" = none) (h1 : E X Γ e1 b1 xs) (hs1 : starEach [e1] X.env = (false, eval e1 X.env) :: starEach [] X.env := by rfl)
    (hpl : (backTo ps (starEach [] X.env)).any (·.1) = false := by rfl) : EI X Γ (.Tuple elts kk tp) (.Call (.Name "enumerate" p) [e1] [] ps) b1 (enI xs) := by
  with_unfolding_all
    exact ⟨_, pi_enum hg hm (pa_cons h1 pa_nil hs1) hs1 hpl, fun σ H H0 F O R Z q => ⟨H0, F, O, Z, fun v H1 s1 r1 => by
        obtain ⟨a, va, ea, sa, na, ra⟩ := r1
        refine ⟨a, by rw [ea], ⟨va, (off_same _ _).seq sa⟩, q _ H1 s1 fun H' O' hO' sm => ⟨fun i u hu => ?_, ?_⟩⟩
        · obtain ⟨hx, hi⟩ := enI_get hu
          obtain ⟨x, gx, rx⟩ := pr_get ra hx
          have sa' := (off_same _ _).seq (sm.seq sa)
          refine ⟨⟨va, x, sa', gx⟩, fun v' H'' hv => ?_⟩
          obtain ⟨T, x', hT, rfl, rfl, f1⟩ := hv
          have ex := f1 va sa'
          rw [gx] at ex; cases ex
          have hTO : ¬ O' T := fun z => by
            obtain ⟨zs, w⟩ := hO' T z
            rw [hT] at w; cases w
          refine ⟨same_upd hT _, T, .int (i : Int), x, rfl, .inl (by rw [off_get hTO]; exact upd_same), ?_, ?_⟩
          · show V.int _ = V.int _
            rw [hi]
          · exact rp_mono (sm.trans (off_mono (same_upd hT _))) rx
        · refine ⟨va, (off_same _ _).seq (sm.seq sa), ?_⟩
          rw [pr_len ra, enI_len]
          omega⟩⟩
end
end L2.EP

namespace L2.EP
open PySem PySem.Spec PyProof.Rows
structure TbO (β : Type) where
  rows : List (List β)
instance {β : Type} [Py β] : Py (TbO β) where
  rp K N H v a := ∃ p xs, v = .ref p ∧ SqL K H p xs ∧ N.has H p (.inl xs) ∧ xs.Nodup ∧ Paired (fun x (r : List β) => Py.rp K N H x r) xs a.rows
  tr l t h := by
    obtain ⟨p, xs, e, s, n, nd, r⟩ := h
    obtain ⟨s', n'⟩ := l _ (.inl xs) s n
    exact ⟨p, xs, e, s', n', nd, pr_imp (fun _ _ q => Py.tr l t q) r⟩
theorem tb_list {β : Type} [Py β] {K : PySem.W.Frag} {N : Nn} {H : Hp} {v : V} {rows : List (List β)} (h : Py.rp K N H v (TbO.mk rows)) : Py.rp K N H v rows := by
  obtain ⟨p, xs, e, s, n, _, r⟩ := h
  exact ⟨p, xs, e, s, n, r⟩
section
variable {X : Cx} {Γ : GEnv} {D : GD} {α β : Type} [Py α] [Py β] {elt target iter c : Expr} {b b' : Bool} {pos : Pos} {scope : Scope} {tn : List Str} {js : List Nat} {g : TG} {tc : Nat → Prop} {put : Bool → α → GEnv → GEnv} {as : List α}
def teN (X : Cx) (tn : List Str) (js : List Nat) (scope : Scope) (elt : Expr) (β : Type) [Py β] : TE := fun σ H Q => ∃ Γ', ∃ v : β, (∀ C s H fp, EN (blk X (cN X tn js) scope C s H fp) Γ' elt v) ∧ tN X.K Γ' v σ H Q
theorem teN_ok {C : Addr} {s : Shared} {H : Hp} {fp : List Addr} : PE (blk X (cN X tn js) scope C s H fp) elt (teN X tn js scope elt β) := by
  with_unfolding_all
    exact fun pins s' σ H' Q I ⟨Γ', v, h, q⟩ => (show PE (blk X (cN X tn js) scope C s H fp) elt (tN X.K Γ' v) from h C s H fp) pins s' σ H' Q I q
theorem comp_wkT {f : α → List β} {wi : TI} (hw : ∀ (σ : St) (H H0 : Hp) (F O : Addr → Prop) (R : It → Hp → Prop), Sta X.K H0 F O Γ σ H → (∀ J H1, Same H H1 → ITS X.K H0 O b as J H1 → R J H1) → wi σ H R)
    (hgp : GP g α put tc X.K) (htc : ∀ j, tc j → j < tn.length)
    (hb : ∀ (i : Nat) (a : α), as[i]? = some a → ∀ C s H fp, EN (blk X (cN X tn js) scope C s H fp) (put b a (cΓ Γ tn js)) elt (f a)) (hl : as.length ≤ 1000)
    {σ : St} {H : Hp} {Q : VK} {H0 : Hp} {F O : Addr → Prop} (Z : Sta X.K H0 F O Γ σ H) (q : ∀ v H', Same H H' → Py.rp X.K (.new H) (off H' O) v (TbO.mk (as.map f)) → Q v H') :
    tLC wi tn js g (ttC X tn js scope []) (teN X tn js scope elt (List β)) σ H Q := by
  with_unfolding_all
    refine hw σ H H0 F O _ Z fun J H1 s1 its D hD => ?_
    have Z1 := Z.go s1
    refine ⟨fun i m H' xs => m = as.length - i ∧ i ≤ as.length ∧ Same H1 H' ∧ H' D = some (.lst xs) ∧ xs.Nodup ∧ (∀ x ∈ xs, ∃ q ys, x = .ref q ∧ H' q = some (.lst ys)) ∧ Paired (fun x a => Py.rp X.K (.new H) (off H' fun p => O p ∨ p = D) x a) xs ((as.take i).map f),
      ⟨_, rfl, Nat.zero_le _, same_upd hD _, upd_same, List.nodup_nil, (fun x h => by cases h), .nil⟩, ?_⟩
    rintro i m H' xs ⟨rfl, hi, sm, hx, nd, hxs, rr⟩
    refine ⟨hx, ?_⟩
    obtain ⟨Z', so⟩ := Z1.ownIn hD sm hx
    obtain ⟨t1, t2⟩ := its H' _ Z'.own so
    by_cases hlt : i < as.length
    · have ha : as[i]? = some as[i] := List.getElem?_eq_getElem hlt
      have htk : as.take (i + 1) = as.take i ++ [as[i]] := by rw [List.take_succ, ha]; rfl
      obtain ⟨go, yl⟩ := t1 i _ ha
      refine .inr ⟨go, fun x H'' hy => ?_⟩
      obtain ⟨s2, rx⟩ := yl x H'' hy
      refine hgp b as[i] H0 F _ (cΓ Γ tn js) (cσ σ tn js) H'' x _ ((Z'.go s2).blk tn js) rx fun σ2 Z2 l2 k2 => ?_
      refine ⟨⟨fun j v hj e => ?_, l2⟩, _, _, fun C s H fp => ft_nil, H0, F, _, Z2, fun H3 s3 => ?_⟩
      · rw [k2 j fun z => absurd (htc j z) (Nat.not_lt.mpr hj)]; exact e
      refine iteT ⟨_, _, hb i _ ha, H0, F, _, Z2.go s3, fun y H4 s4 ry => ?_⟩
      have hx4 : H4 D = some (.lst xs) := s4 _ _ (s3 _ _ (s2 _ _ hx))
      have hOD : (fun p => O p ∨ p = D) D := .inr rfl
      have sH3 : Same H H3 := s1.trans (sm.trans (s2.trans s3))
      have ry' := new_less sH3 ry
      obtain ⟨q0, ys0, e0, sq0, nn0, rr0⟩ := ry
      have h40 : H4 q0 = some (.lst ys0) := (off_same _ _) _ _ nn0.2
      have hq0D : q0 ≠ D := fun w => by
        have h3 : H3 D = some (.lst xs) := s3 _ _ (s2 _ _ hx)
        rw [← w, nn0.1] at h3; cases h3
      refine ⟨hx4, ?_, as.length - (i + 1), by omega, rfl, hlt, ?_, upd_same, ?_, ?_, ?_⟩
      · have := pr_len rr
        rw [List.length_map] at this
        have h3 := List.length_take_le i as
        exact Nat.lt_of_le_of_lt (by omega) (small1000 hl)
      · exact fun c o z => by
          have hc : c ≠ D := fun w => by rw [w, hD] at z; cases z
          rw [upd_ne hc]; exact s4 _ _ (s3 _ _ (s2 _ _ (sm _ _ z)))
      · rw [List.nodup_append]
        refine ⟨nd, by simp, fun a ha1 c hc1 => ?_⟩
        rw [List.mem_singleton.mp hc1]
        obtain ⟨q1, ys1, e1, h1⟩ := hxs a ha1
        rw [e1, e0]
        intro w
        cases w
        have h3 : H3 q0 = some (.lst ys1) := s3 _ _ (s2 _ _ h1)
        rw [nn0.1] at h3; cases h3
      · intro x' hx'
        rcases List.mem_append.mp hx' with z | z
        · obtain ⟨q1, ys1, e1, h1⟩ := hxs x' z
          by_cases hqD : q1 = D
          · exact ⟨q1, xs ++ [y], e1, by rw [hqD]; exact upd_same⟩
          · exact ⟨q1, ys1, e1, by rw [upd_ne hqD]; exact s4 _ _ (s3 _ _ (s2 _ _ h1))⟩
        · rw [List.mem_singleton.mp z]
          exact ⟨q0, ys0, e0, by rw [upd_ne hq0D]; exact h40⟩
      · rw [off_upd hOD, htk]
        simp only [List.map_append, List.map_cons, List.map_nil]
        exact pr_app (pr_imp (fun _ _ z => rp_mono (off_mono (s2.trans (s3.trans s4))) z) rr) (.cons ry' .nil)
    · have ei : i = as.length := by omega
      subst ei
      rw [List.take_length] at rr
      have hxo : off H' O D = some (.lst xs) := by rw [off_get (Z1.notOwn hD)]; exact hx
      refine .inl ⟨t2, q _ H' (s1.trans sm) ⟨D, xs, rfl, SqL.of hxo, ⟨s1.free hD, hxo⟩, nd, ?_⟩⟩
      exact pr_imp (fun _ _ z => rp_mono (off_less fun _ w => .inl w) z) rr
theorem comp_wkN [PyT β] {f : α → β} {wi : TI} (hw : ∀ (σ : St) (H H0 : Hp) (F O : Addr → Prop) (R : It → Hp → Prop), Sta X.K H0 F O Γ σ H → (∀ J H1, Same H H1 → ITS X.K H0 O b as J H1 → R J H1) → wi σ H R)
    (hgp : GP g α put tc X.K) (htc : ∀ j, tc j → j < tn.length)
    (hb : ∀ (i : Nat) (a : α), as[i]? = some a → ∀ C s H fp, E (blk X (cN X tn js) scope C s H fp) (put b a (cΓ Γ tn js)) elt b' (f a)) (hl : as.length ≤ 1000)
    {σ : St} {H : Hp} {Q : VK} {H0 : Hp} {F O : Addr → Prop} (Z : Sta X.K H0 F O Γ σ H) (q : ∀ v H', Same H H' → Py.rp X.K (.new H) (off H' O) v (as.map f) → Q v H') :
    tLC wi tn js g (ttC X tn js scope []) (teC X tn js scope elt β b') σ H Q := by
  with_unfolding_all
    refine hw σ H H0 F O _ Z fun J H1 s1 its D hD => ?_
    have Z1 := Z.go s1
    refine ⟨fun i m H' xs => m = as.length - i ∧ i ≤ as.length ∧ Same H1 H' ∧ H' D = some (.lst xs) ∧ Paired (fun x a => Py.rp X.K (.new H) (off H' fun p => O p ∨ p = D) x a) xs ((as.take i).map f),
      ⟨_, rfl, Nat.zero_le _, same_upd hD _, upd_same, .nil⟩, ?_⟩
    rintro i m H' xs ⟨rfl, hi, sm, hx, rr⟩
    refine ⟨hx, ?_⟩
    obtain ⟨Z', so⟩ := Z1.ownIn hD sm hx
    obtain ⟨t1, t2⟩ := its H' _ Z'.own so
    by_cases hlt : i < as.length
    · have ha : as[i]? = some as[i] := List.getElem?_eq_getElem hlt
      have htk : as.take (i + 1) = as.take i ++ [as[i]] := by rw [List.take_succ, ha]; rfl
      obtain ⟨go, yl⟩ := t1 i _ ha
      refine .inr ⟨go, fun x H'' hy => ?_⟩
      obtain ⟨s2, rx⟩ := yl x H'' hy
      refine hgp b as[i] H0 F _ (cΓ Γ tn js) (cσ σ tn js) H'' x _ ((Z'.go s2).blk tn js) rx fun σ2 Z2 l2 k2 => ?_
      refine ⟨⟨fun j v hj e => ?_, l2⟩, _, _, fun C s H fp => ft_nil, H0, F, _, Z2, fun H3 s3 => ?_⟩
      · rw [k2 j fun z => absurd (htc j z) (Nat.not_lt.mpr hj)]; exact e
      refine iteT ⟨_, _, hb i _ ha, H0, F, _, Z2.go s3, fun y H4 s4 ry => ?_⟩
      have hx4 : H4 D = some (.lst xs) := s4 _ _ (s3 _ _ (s2 _ _ hx))
      have hOD : (fun p => O p ∨ p = D) D := .inr rfl
      refine ⟨hx4, ?_, as.length - (i + 1), by omega, rfl, hlt, ?_, upd_same, ?_⟩
      · have := pr_len rr
        rw [List.length_map] at this
        have h3 := List.length_take_le i as
        exact Nat.lt_of_le_of_lt (by omega) (small1000 hl)
      · exact fun c o z => by
          have hc : c ≠ D := fun w => by rw [w, hD] at z; cases z
          rw [upd_ne hc]; exact s4 _ _ (s3 _ _ (s2 _ _ (sm _ _ z)))
      · rw [off_upd hOD, htk]
        simp only [List.map_append, List.map_cons, List.map_nil]
        exact pr_app (pr_imp (fun _ _ z => rp_mono (off_mono (s2.trans (s3.trans s4))) z) rr) (.cons (PyT.free (fun _ _ w => w) ry) .nil)
    · have ei : i = as.length := by omega
      subst ei
      rw [List.take_length] at rr
      have hxo : off H' O D = some (.lst xs) := by rw [off_get (Z1.notOwn hD)]; exact hx
      refine .inl ⟨t2, q _ H' (s1.trans sm) ⟨D, xs, rfl, SqL.of hxo, ⟨s1.free hD, hxo⟩, ?_⟩⟩
      exact pr_imp (fun _ _ z => rp_mono (off_less fun _ w => .inl w) z) rr
theorem en_compT [PyT β] {f : α → β} (tn : List Str) (js : List Nat) (S : CScope X scope tn js) (he : EI X Γ target iter b as) (hgp : GP g α put tc X.K) (hg : ∀ C s H fp, PG (blk X (cN X tn js) scope C s H fp) target g) (htc : ∀ j, tc j → j < tn.length)
    (hb : ∀ (i : Nat) (a : α), as[i]? = some a → ∀ C s H fp, E (blk X (cN X tn js) scope C s H fp) (put b a (cΓ Γ tn js)) elt b' (f a)) (hl : as.length ≤ 1000) (hc : X.calm = true := by rfl)
    (hs : ∀ x, foldedSetIterable iter X.env x = pure x := by intro _; rfl) : EN X Γ (.ListComp elt [⟨target, iter, [], 0⟩] scope pos) (as.map f) := by
  with_unfolding_all
    obtain ⟨wi, hi, hw⟩ := he
    exact pe_wk (pe_lc S hc hi (fun C s H fp => ⟨hg C s H fp, ttC_ok, teC_ok⟩) hs) fun σ H Q ⟨H0, F, O, Z, q⟩ => comp_wkN hw hgp htc hb hl Z q
theorem s_compT (i : Nat) {f : α → List β} {y : Str} {py spos : Pos} {rest : List Stmt} (hN : X.N.Nodup) (tn : List Str) (js : List Nat) (S' : CScope X scope tn js) (he : EI X Γ target iter b as) (hgp : GP g α put tc X.K) (hg : ∀ C s H fp, PG (blk X (cN X tn js) scope C s H fp) target g) (htc : ∀ j, tc j → j < tn.length)
    (hb : ∀ (i : Nat) (a : α), as[i]? = some a → ∀ C s H fp, EN (blk X (cN X tn js) scope C s H fp) (put b a (cΓ Γ tn js)) elt (f a)) (hl : as.length ≤ 1000)
    (h : S X (Γ.set i (some (.dpo (TbO.mk (as.map f))))) rest D) (hiN : X.N[i]? = some y := by rfl) (hy : Loc X.env.scope y := by first | exact Or.inl rfl | exact Or.inr rfl)
    (hf : X.fn y = true ∨ X.env.scope.names.lookup y = some .local := by first | exact .inl rfl | exact .inr rfl) (hc : X.calm = true := by rfl)
    (hsw : swapsWith (.ListComp elt [⟨target, iter, [], 0⟩] scope pos) (some (.Name y py)) spos.line X.env = pure true := by rfl)
    (hs : ∀ x, foldedSetIterable iter X.env x = pure x := by intro _; rfl) : EP.S X Γ (.Assign [.Name y py] (.ListComp elt [⟨target, iter, [], 0⟩] scope pos) spos :: rest) D := by
  with_unfolding_all
    obtain ⟨wi, hi, hw⟩ := he
    exact s_seq (ps_wk (ps_setLC hN hiN hy hf S' hc hi (fun C s H fp => ⟨hg C s H fp, ttC_ok, teN_ok⟩) hsw hs) fun De σ H ⟨H0, F, O, Z, n, _⟩ => comp_wkT hw hgp htc hb hl Z fun v H1 s1 r1 => by
      obtain ⟨Z', so⟩ := Z.putOwn (i := i) (v := v) s1 (fun q => H q = none ∧ ∃ xs : Mt, H1 q = some (mo xs)) (fun q z => z) (Bd.dpo (TbO.mk (as.map f))) True.intro (by
        refine Py.tr (fun q xs sq nn => ?_) (fun q xs sq => Same.rd (off_same _ _) sq) r1
        have := (off_same _ _) _ _ nn.2
        exact ⟨Mo.of this, ⟨nn.1, xs, this⟩, this⟩)
      exact n _ _ _ _ so Z' h)
end
section
variable {X : Cx} {Γ : GEnv} {D : GD} {α β γ : Type} [Py α] [Py β] [Py γ] {e e1 e2 : Expr} {b b1 b2 : Bool} {pos p : Pos} {rest st : List Stmt}
theorem en_listT [PyT α] {xs : List α} {p : Pos} (hg : Gl X "list") (hm : X.mg "list" = none) (ha : E X Γ e b xs) (hs : starEach [e] X.env = (false, eval e X.env) :: starEach [] X.env := by rfl) : EN X Γ (.Call (.Name "list" p) [e] [] pos) xs := by
  with_unfolding_all
    exact pe_wk (pe_callTy call_list_of hg hm PyProof.Rows.boot_list (pa_cons ha pa_nil hs) (he := hs)) fun σ H Q ⟨H0, F, O, S, q⟩ => ⟨H0, F, O, S, fun v H1 s1 r1 => by
        obtain ⟨p, vs, e, sq, n, r⟩ := r1
        refine ⟨p, vs, by rw [e], .inl ((off_same _ _).seq sq), fun l hl => ?_⟩
        obtain ⟨z1, z2⟩ := laid_lst (xs := vs) (S.go s1) hl
        exact q _ _ (s1.trans z1) ⟨l, vs, rfl, SqL.of z2, ⟨s1.free hl, z2⟩, pr_imp (fun _ _ z => PyT.free (fun _ _ t => Same.rd (off_mono z1) t) z) r⟩⟩
theorem s_thawT (i : Nat) {rows : List (List β)} (hg : Γ[i]? = some (some (.dpo (TbO.mk rows)))) (h : S X (Γ.set i (some (.val true rows))) st D) : S X Γ st D := by
  with_unfolding_all
    exact pss_frz (g' := Bd.val true rows) i hg True.intro (fun z => z) (fun H0 H O Di O' v z1 z2 _ z4 => tb_list (ok_dpo (a := TbO.mk rows) z1 z2 z4)) h
theorem rows_set [PyT β] {K : PySem.W.Frag} {D : Addr → Prop} {H : Hp} {q : Addr} {ys zs : List V} {r' : List β} (hq : H q = some (.lst ys)) (hD : D q) (hz : Paired (fun x (c : β) => Py.rp K .any (upd H q (.lst zs)) x c) zs r') :
    ∀ {vs : List V} {rows : List (List β)} {k : Nat}, Paired (fun x r => Py.rp K (.set D) H x r) vs rows → vs.Nodup → vs[k]? = some (.ref q) → Paired (fun x r => Py.rp K (.set D) (upd H q (.lst zs)) x r) vs (rows.set k r') := by
  have ht : ∀ p xs, Rd H p (.tup xs) → Rd (upd H q (.lst zs)) p (.tup xs) := fun p xs h => by
    have hp : p ≠ q := fun w => by
      subst w
      rcases h with h | ⟨o, h⟩
      · rw [hq] at h; cases h
      · rw [hq] at h; cases h
    rcases h with h | ⟨o, h⟩
    · exact .inl (by rw [upd_ne hp]; exact h)
    · exact .inr ⟨o, by rw [upd_ne hp]; exact h⟩
  have other : ∀ {x : V} {r : List β}, Py.rp K (.set D) H x r → x ≠ .ref q → Py.rp K (.set D) (upd H q (.lst zs)) x r := fun {x r} h hne => by
    obtain ⟨p, xs, e, sq, nn, rr⟩ := h
    have hp : p ≠ q := fun w => hne (by rw [e, w])
    have e2 : upd H q (.lst zs) p = some (.lst xs) := by rw [upd_ne hp]; exact nn.2
    exact ⟨p, xs, e, SqL.of e2, ⟨nn.1, e2⟩, pr_imp (fun _ _ z => PyT.free ht z) rr⟩
  have here : Py.rp K (.set D) (upd H q (.lst zs)) (.ref q) r' := ⟨q, zs, rfl, SqL.of upd_same, ⟨hD, upd_same⟩, pr_imp (fun _ _ z => PyT.free (fun _ _ w => w) z) hz⟩
  intro vs rows k h
  induction h generalizing k with
  | nil => intro _ e; simp at e
  | @cons x r l1 l2 hx t ih =>
    intro nd e
    obtain ⟨n1, n2⟩ := List.nodup_cons.mp nd
    cases k with
    | zero =>
      have ex : x = .ref q := by simpa using e
      subst ex
      refine .cons here ?_
      have : ∀ {l1 : List V} {l2 : List (List β)}, Paired (fun x r => Py.rp K (.set D) H x r) l1 l2 → (V.ref q) ∉ l1 → Paired (fun x r => Py.rp K (.set D) (upd H q (.lst zs)) x r) l1 l2 := fun {l1 l2} t => by
        induction t with
        | nil => intro _; exact .nil
        | cons h t ih => intro hn; exact .cons (other h fun w => hn (by rw [w]; exact List.mem_cons_self ..)) (ih fun w => hn (List.mem_cons_of_mem _ w))
      exact this t n1
    | succ k =>
      have e' : l1[k]? = some (.ref q) := by simpa using e
      refine .cons (other hx fun w => n1 (by rw [w]; exact List.mem_of_getElem? e')) (ih n2 e')
theorem outer_neK [PyT β] {K : PySem.W.Frag} {D : Addr → Prop} {H : Hp} {p q : Addr} {xs ys : List V} {k : Nat} (hp : H p = some (.lst xs)) (hq : H q = some (.lst ys)) (h0 : xs[k]? = some (.ref q)) (r0 : List β) (hr : Paired (fun x (c : β) => Py.rp K (.set D) H x c) ys r0) : p ≠ q := fun w => by
  subst w
  rw [hp] at hq; cases hq
  obtain ⟨c, _, h2⟩ := pr_get' hr h0
  exact PyT.nl h2 hp
theorem s_setkl [PyT β] (i : Nat) {rows : List (List β)} {r0 : List β} {c : β} {k l : Int} {x : Str} {p s1 s2 : Pos} (hg : Γ[i]? = some (some (.dpo (TbO.mk rows)))) (hk : 0 ≤ k) (hr : rows[k.toNat]? = some r0) (hl0 : 0 ≤ l) (hl : l.toNat < r0.length) (he : E X Γ e b c) (hek : E X Γ e1 b1 k) (hel : E X Γ e2 b2 l)
    (h : S X (Γ.set i (some (.dpo (TbO.mk (rows.set k.toNat (r0.set l.toNat c)))))) rest D) (hi : X.N[i]? = some x := by rfl)
    (hv : Vis X.env.scope x := by first | exact Or.inl rfl | exact Or.inr (Or.inl rfl) | exact Or.inr (Or.inr rfl)) (hd : (x == ("__debug__" : Str)) = false := by decide) (hcd : (x == ("__classdict__" : Str)) = false := by decide)
    (hp1 : PlainIx e1 := by intro _ _; rfl)
    (ha : ∀ v, assign (.Subscript (.Subscript (.Name x p) e1 s1) e2 s2) X.env v = (do
      let ov ← holding [v] (eval (.Subscript (.Name x p) e1 s1) X.env)
      let iv ← holding [v, ov] (eval e2 X.env)
      standAt s2
      holding [v, ov, iv] (setItem ov iv v)
      release [v, ov, iv] []) := by intro _; rfl)
    (hs : swapsWithSole [.Subscript (.Subscript (.Name x p) e1 s1) e2 s2] e pos.line X.env = pure false := by rfl) (hw : swappedStores [.Subscript (.Subscript (.Name x p) e1 s1) e2 s2] e X.env = pure none := by rfl)
    (h1 : (assignEach [.Subscript (.Subscript (.Name x p) e1 s1) e2 s2] X.env).map (·.2) = [assign (.Subscript (.Subscript (.Name x p) e1 s1) e2 s2) X.env] := by rfl) :
    S X Γ (.Assign [.Subscript (.Subscript (.Name x p) e1 s1) e2 s2] e pos :: rest) D := by
  with_unfolding_all
    exact s_seq (ps_wk (ps_asg he (pg_sub (pe_ix ix_list (pv i hi hv hd hcd) hek hp1) hel set_list ha) hs hw h1) fun De σ H ⟨H0, F, O, Z, n, _⟩ => ⟨H0, F, O, Z, fun u H1 z1 ru => by
        obtain ⟨v, _, hv1, _, _, _⟩ := (Z.go z1).write hg True.intro
        refine ⟨v, hv1, H0, F, O, Z.go z1, fun ku H2 z2 rk => ?_⟩
        cases rk
        obtain ⟨v', Di2, hv2, ⟨q2, xs2, ee2, sq2, nn2, nd2, rr2⟩, _, _⟩ := ((Z.go z1).go z2).write hg True.intro
        have evv : v = v' := by rw [hv1] at hv2; exact Option.some.inj (Option.some.inj hv2)
        subst evv
        obtain ⟨v0, hx0, ⟨q0, ys2, e0, s0, n0, rr0⟩⟩ := pr_get rr2 hr
        subst e0
        refine ⟨q2, xs2, k, .ref q0, ee2, rfl, sq2, ?_, H0, F, O, (Z.go z1).go z2, fun lu H3 z3 rl => ?_⟩
        · have hkk : k = ((k.toNat : Nat) : Int) := by omega
          rw [hkk]
          exact atI_nat hx0
        cases rl
        obtain ⟨v3, Di, hv3, ⟨q, xs, e1', sq, nn, nd, rr⟩, hO, wr⟩ := (((Z.go z1).go z2).go z3).write hg True.intro
        have ev3 : v = v3 := by rw [hv1] at hv3; exact Option.some.inj (Option.some.inj hv3)
        subst ev3
        have eq2 : q2 = q := by rw [ee2] at e1'; cases e1'; rfl
        subst eq2
        have exs : xs2 = xs := by
          have a1 := z3 _ _ nn2.2
          rw [nn.2] at a1; cases a1; rfl
        subst exs
        obtain ⟨v0', hx0', ⟨q0', ys, e0', s0', n0', rr0'⟩⟩ := pr_get rr hr
        have eq0 : V.ref q0 = v0' := by rw [hx0] at hx0'; exact Option.some.inj hx0'
        rw [e0'] at eq0
        cases eq0
        have hly : l.toNat < ys.length := by rw [pr_len rr0']; exact hl
        have hix : ixN ys.length l = some l.toNat := by unfold ixN; rw [if_pos hl0, if_pos (by omega)]
        refine ⟨q0, ys, l, l.toNat, rfl, rfl, n0'.2, hix, ?_⟩
        have hne := outer_neK nn.2 n0'.2 hx0 r0 rr0'
        have ht : ∀ p xs, Rd H3 p (.tup xs) → Rd (upd H3 q0 (.lst (ys.set l.toNat u))) p (.tup xs) := fun p xs h => by
          have hp : p ≠ q0 := fun w => by
            subst w
            rcases h with h | ⟨o, h⟩
            · rw [n0'.2] at h; cases h
            · rw [n0'.2] at h; cases h
          rcases h with h | ⟨o, h⟩
          · exact .inl (by rw [upd_ne hp]; exact h)
          · exact .inr ⟨o, by rw [upd_ne hp]; exact h⟩
        have pr' := rows_set (zs := ys.set l.toNat u) (r' := r0.set l.toNat c) n0'.2 n0'.1 (pr_set (PyT.free (fun p xs w => ht p xs (Same.rd (z2.trans z3) (Same.rd (off_same _ _) w))) ru) l.toNat (pr_imp (fun _ _ z => PyT.free ht z) rr0')) rr nd hx0
        obtain ⟨Z', eo⟩ := wr q0 (ys.set l.toNat u) (some (.dpo (TbO.mk (rows.set k.toNat (r0.set l.toNat c))))) n0'.1 fun g'' e' => by
          cases e'
          have e2 : upd H3 q0 (.lst (ys.set l.toNat u)) q2 = some (.lst xs2) := by rw [upd_ne hne]; exact nn.2
          exact ⟨True.intro, q2, xs2, ee2, SqL.of e2, ⟨nn.1, e2⟩, nd, pr'⟩
        exact n _ _ _ _ (by rw [eo]; exact off_mono (z1.trans (z2.trans z3))) Z' h⟩)
end
end L2.EP

namespace EP
abbrev Vc := Nat → Rat
def wd (r : Vc) : (List Nat → Rat) → List Nat → Rat
  | _, [] => 0
  | φ, c :: cs => r c * φ cs - wd r (fun l => φ (c :: l)) cs
theorem wd_add (r : Vc) : ∀ (cs : List Nat) (φ ψ : List Nat → Rat), wd r (fun l => φ l + ψ l) cs = wd r φ cs + wd r ψ cs
  | [], _, _ => by simp only [wd]; grind
  | c :: cs, φ, ψ => by
    simp only [wd]
    rw [wd_add r cs]
    grind
theorem wd_mul (r : Vc) (a : Rat) : ∀ (cs : List Nat) (φ : List Nat → Rat), wd r (fun l => a * φ l) cs = a * wd r φ cs
  | [], _ => by simp only [wd]; grind
  | c :: cs, φ => by
    simp only [wd]
    rw [wd_mul r a cs]
    grind
theorem wd_sub (r : Vc) (cs : List Nat) (φ ψ : List Nat → Rat) : wd r (fun l => φ l - ψ l) cs = wd r φ cs - wd r ψ cs := by
  have h := wd_add r cs φ (fun l => (-1) * ψ l)
  rw [wd_mul] at h
  have e : (fun l => φ l - ψ l) = fun l => φ l + (-1) * ψ l := funext fun l => by grind
  rw [e, h]
  grind
theorem wd_addR (r s : Vc) : ∀ (cs : List Nat) (φ : List Nat → Rat), wd (fun j => r j + s j) φ cs = wd r φ cs + wd s φ cs
  | [], _ => by simp only [wd]; grind
  | c :: cs, φ => by
    simp only [wd]
    rw [wd_addR r s cs]
    grind
theorem wd_mulR (a : Rat) (r : Vc) : ∀ (cs : List Nat) (φ : List Nat → Rat), wd (fun j => a * r j) φ cs = a * wd r φ cs
  | [], _ => by simp only [wd]; grind
  | c :: cs, φ => by
    simp only [wd]
    rw [wd_mulR a r cs]
    grind
theorem wd_congr {r : Vc} {φ ψ : List Nat → Rat} (h : ∀ l, φ l = ψ l) (cs : List Nat) : wd r φ cs = wd r ψ cs := by
  rw [show φ = ψ from funext h]
theorem wd_zero (r : Vc) (cs : List Nat) : wd r (fun _ => 0) cs = 0 := by
  have := wd_mul r 0 cs (fun _ => 0)
  have e : (fun _ : List Nat => (0 : Rat) * 0) = fun _ => 0 := funext fun _ => by grind
  rw [e] at this
  grind
theorem wd_sq (r : Vc) : ∀ (cs : List Nat) (φ : List Nat → Rat), wd r (fun l => wd r φ l) cs = 0
  | [], _ => rfl
  | c :: cs, φ => by
    have e : (fun l => wd r φ (c :: l)) = fun l => r c * φ l - wd r (fun l => φ (c :: l)) l := rfl
    show r c * wd r φ cs - wd r (fun l => wd r φ (c :: l)) cs = 0
    rw [e, wd_sub, wd_mul, wd_sq r cs]
    grind
theorem wd_anti (r s : Vc) (cs : List Nat) (φ : List Nat → Rat) : wd r (fun l => wd s φ l) cs = - wd s (fun l => wd r φ l) cs := by
  have h := wd_sq (fun j => r j + s j) cs φ
  rw [wd_addR] at h
  have e1 : (fun l => wd (fun j => r j + s j) φ l) = fun l => wd r φ l + wd s φ l := funext fun l => wd_addR r s l φ
  rw [e1, wd_add, wd_add, wd_sq, wd_sq] at h
  grind
theorem wd_on (r : Vc) : ∀ (cs : List Nat) (φ : List Nat → Rat), (∀ c ∈ cs, r c = 0) → wd r φ cs = 0
  | [], _, _ => rfl
  | c :: cs, φ, h => by
    simp only [wd]
    rw [wd_on r cs _ fun d hd => h d (List.mem_cons_of_mem _ hd), h c List.mem_cons_self]
    grind
def DD : List Vc → List Nat → Rat
  | [], [] => 1
  | [], _ :: _ => 0
  | r :: rs, cs => wd r (DD rs) cs
theorem DD_col (c : Nat) : ∀ (rs : List Vc) (l : List Nat), (∀ r ∈ rs, r c = 0) → DD rs (c :: l) = 0
  | [], _, _ => rfl
  | r :: rs, l, h => by
    show r c * DD rs l - wd r (fun l => DD rs (c :: l)) l = 0
    rw [wd_congr (fun m => DD_col c rs m fun q hq => h q (List.mem_cons_of_mem _ hq)), wd_zero, h r List.mem_cons_self]
    grind
def ZB (B : Nat) (x : Rat) : Prop := ∃ z : Int, x = (z : Rat) ∧ z.natAbs ≤ B
def VB (B : Nat) (r : Vc) : Prop := ∀ j, ZB B (r j)
def fct : Nat → Nat
  | 0 => 1
  | n + 1 => (n + 1) * fct n
theorem wd_ZB {B M : Nat} {r : Vc} (hr : VB B r) : ∀ (n : Nat) (cs : List Nat) (φ : List Nat → Rat), cs.length = n + 1 → (∀ l, l.length = n → ZB M (φ l)) → ZB ((n + 1) * (B * M)) (wd r φ cs)
  | n, [], _, h, _ => nomatch h
  | 0, c :: cs, φ, h, hf => by
    have e : cs = [] := List.eq_nil_of_length_eq_zero (Nat.succ.inj h)
    subst e
    obtain ⟨x, hx, bx⟩ := hr c
    obtain ⟨y, hy, by'⟩ := hf [] rfl
    refine ⟨x * y, ?_, ?_⟩
    · simp only [wd]
      rw [hx, hy]
      push_cast
      grind
    · rw [Int.natAbs_mul, Nat.one_mul]
      exact Nat.mul_le_mul bx by'
  | n + 1, c :: cs, φ, h, hf => by
    obtain ⟨x, hx, bx⟩ := hr c
    obtain ⟨y, hy, by'⟩ := hf cs (Nat.succ.inj h)
    obtain ⟨z, hz, bz⟩ := wd_ZB hr n cs (fun l => φ (c :: l)) (Nat.succ.inj h) fun l hl => hf (c :: l) (by rw [List.length_cons, hl])
    refine ⟨x * y - z, ?_, ?_⟩
    · simp only [wd]
      rw [hx, hy, hz]
      push_cast
      rfl
    · have h1 : (x * y).natAbs ≤ B * M := by rw [Int.natAbs_mul]; exact Nat.mul_le_mul bx by'
      have h2 : (n + 1 + 1) * (B * M) = B * M + (n + 1) * (B * M) := by rw [Nat.add_mul (n + 1) 1, Nat.one_mul, Nat.add_comm]
      omega
theorem DD_ZB {B : Nat} : ∀ (rs : List Vc) (cs : List Nat), (∀ r ∈ rs, VB B r) → cs.length = rs.length → ZB (fct rs.length * B ^ rs.length) (DD rs cs)
  | [], cs, _, h => by
    have e : cs = [] := List.eq_nil_of_length_eq_zero h
    subst e
    exact ⟨1, by simp [DD], by simp [fct]⟩
  | r :: rs, cs, hr, h => by
    have := wd_ZB (M := fct rs.length * B ^ rs.length) (hr r List.mem_cons_self) rs.length cs (DD rs) h fun l hl => DD_ZB rs l (fun q hq => hr q (List.mem_cons_of_mem _ hq)) hl
    have e : fct (r :: rs).length * B ^ (r :: rs).length = (rs.length + 1) * (B * (fct rs.length * B ^ rs.length)) := by
      show (rs.length + 1) * fct rs.length * B ^ (rs.length + 1) = _
      rw [Nat.pow_succ]
      grind
    rw [e]
    exact this
end EP

namespace EP
def dn : Nat → List Nat
  | 0 => []
  | k + 1 => k :: dn k
theorem dn_len : ∀ k, (dn k).length = k
  | 0 => rfl
  | k + 1 => by show (dn k).length + 1 = k + 1; rw [dn_len k]
theorem dn_mem : ∀ {k c : Nat}, c ∈ dn k → c < k
  | k + 1, c, h => by
    rcases List.mem_cons.mp h with e | h
    · omega
    · have := dn_mem h; omega
def glr (g : Nat → Vc) : Nat → List Vc
  | 0 => []
  | k + 1 => g k :: glr g k
theorem glr_len (g : Nat → Vc) : ∀ k, (glr g k).length = k
  | 0 => rfl
  | k + 1 => by show (glr g k).length + 1 = k + 1; rw [glr_len g k]
theorem glr_mem {g : Nat → Vc} : ∀ {k : Nat} {r : Vc}, r ∈ glr g k → ∃ i, i < k ∧ r = g i
  | k + 1, r, h => by
    rcases List.mem_cons.mp h with e | h
    · exact ⟨k, by omega, e⟩
    · obtain ⟨i, hi, e⟩ := glr_mem h; exact ⟨i, by omega, e⟩
def Un1 (g : Nat → Vc) (k m : Nat) : Prop := ∀ i, i < k → ∀ j, j < m → g i j = if i = j then 1 else 0
theorem DD_unit {g : Nat → Vc} {m : Nat} : ∀ k, k ≤ m → Un1 g k m → DD (glr g k) (dn k) = 1
  | 0, _, _ => rfl
  | k + 1, hm, hu => by
    show g k k * DD (glr g k) (dn k) - wd (g k) (fun l => DD (glr g k) (k :: l)) (dn k) = 1
    rw [DD_unit k (by omega) fun i hi => hu i (by omega), wd_on, hu k (by omega) k (by omega), if_pos rfl]
    · grind
    · intro c hc
      have := dn_mem hc
      rw [hu k (by omega) c (by omega), if_neg (by omega)]
def dnR (i j : Nat) : Nat → List Nat
  | 0 => []
  | k + 1 => (if k = i then j else k) :: dnR i j k
theorem dnR_len (i j : Nat) : ∀ k, (dnR i j k).length = k
  | 0 => rfl
  | k + 1 => by show (dnR i j k).length + 1 = k + 1; rw [dnR_len i j k]
theorem dnR_lt {i j : Nat} : ∀ {k : Nat}, k ≤ i → dnR i j k = dn k
  | 0, _ => rfl
  | k + 1, h => by
    show (if k = i then j else k) :: dnR i j k = k :: dn k
    rw [if_neg (by omega), dnR_lt (by omega)]
theorem DD_unitR {g : Nat → Vc} {m i j : Nat} : ∀ k, k ≤ m → i < k → Un1 g k m → DD (glr g k) (dnR i j k) = g i j
  | k + 1, hm, hi, hu => by
    have hd : dnR i j (k + 1) = (if k = i then j else k) :: dnR i j k := rfl
    rw [hd]
    by_cases e : k = i
    · subst e
      rw [if_pos rfl, dnR_lt (Nat.le_refl _)]
      show g k j * DD (glr g k) (dn k) - wd (g k) (fun l => DD (glr g k) (j :: l)) (dn k) = g k j
      rw [DD_unit k (by omega) fun i hi => hu i (by omega), wd_on]
      · grind
      · intro c hc
        have := dn_mem hc
        rw [hu k (by omega) c (by omega), if_neg (by omega)]
    · rw [if_neg e]
      show g k k * DD (glr g k) (dnR i j k) - wd (g k) (fun l => DD (glr g k) (k :: l)) (dnR i j k) = g i j
      rw [DD_unitR k (by omega) (by omega) fun i hi => hu i (by omega), hu k (by omega) k (by omega), if_pos rfl, wd_congr (ψ := fun _ => 0) (fun l => DD_col k (glr g k) l fun r hr => ?_), wd_zero]
      · grind
      · obtain ⟨a, ha, e2⟩ := glr_mem hr
        rw [e2, hu a (by omega) k (by omega), if_neg (by omega)]
structure El (n k B : Nat) (g : Nat → Vc) (d : Rat) : Prop where
  kn : k ≤ n
  d0 : d ≠ 0
  un : Un1 g n k
  om : ∃ rs : List Vc, rs.length = k ∧ (∀ r ∈ rs, VB B r) ∧ ∀ cs, DD rs cs = d * DD (glr g k) cs
  bk : ∀ i, k ≤ i → i < n → ∃ ρ, VB B ρ ∧ ∀ cs, wd ρ (DD (glr g k)) cs = wd (g i) (DD (glr g k)) cs
def bnd (B k : Nat) : Nat := fct k * B ^ k
theorem El.low {n k B : Nat} {g : Nat → Vc} {d : Rat} (h : El n k B g d) {i : Nat} (hi : i < k) (j : Nat) : ZB (bnd B k) (d * g i j) := by
  obtain ⟨rs, hl, hB, e⟩ := h.om
  have := DD_ZB rs (dnR i j k) hB (by rw [dnR_len, hl])
  rw [e, DD_unitR (m := k) k (Nat.le_refl _) hi (fun a ha => h.un a (by have := h.kn; omega)), hl] at this
  exact this
theorem El.high {n k B : Nat} {g : Nat → Vc} {d : Rat} (h : El n k B g d) {i : Nat} (hk : k ≤ i) (hi : i < n) (j : Nat) : ZB (bnd B (k + 1)) (d * g i j) := by
  obtain ⟨rs, hl, hB, e⟩ := h.om
  obtain ⟨ρ, hρ, e2⟩ := h.bk i hk hi
  have := DD_ZB (ρ :: rs) (j :: dn k) (fun r hr => by
    rcases List.mem_cons.mp hr with z | z
    · rw [z]; exact hρ
    · exact hB r z) (by rw [List.length_cons, List.length_cons, dn_len, hl])
  have e3 : DD (ρ :: rs) (j :: dn k) = d * g i j := by
    show wd ρ (DD rs) (j :: dn k) = _
    rw [wd_congr (ψ := fun l => d * DD (glr g k) l) e, wd_mul, e2]
    show d * (g i j * DD (glr g k) (dn k) - wd (g i) (fun l => DD (glr g k) (j :: l)) (dn k)) = _
    rw [DD_unit (m := k) k (Nat.le_refl _) (fun a ha => h.un a (by have := h.kn; omega)), wd_on]
    · grind
    · intro c hc
      have := dn_mem hc
      rw [h.un i hi c this, if_neg (by omega)]
  rw [e3, List.length_cons, hl] at this
  exact this
theorem bnd_mono {B k : Nat} (hB : 1 ≤ B) : bnd B k ≤ bnd B (k + 1) := by
  unfold bnd
  show fct k * B ^ k ≤ (k + 1) * fct k * B ^ (k + 1)
  rw [Nat.pow_succ]
  have h1 : fct k * B ^ k * 1 ≤ fct k * B ^ k * ((k + 1) * B) := Nat.mul_le_mul_left _ (Nat.mul_pos (by omega) hB)
  have h2 : fct k * B ^ k * ((k + 1) * B) = (k + 1) * fct k * (B ^ k * B) := by grind
  omega
theorem ZB.mono {B C : Nat} {x : Rat} (h : ZB B x) (hl : B ≤ C) : ZB C x := by
  obtain ⟨z, e, hz⟩ := h
  exact ⟨z, e, by omega⟩
theorem El.all {n k B : Nat} {g : Nat → Vc} {d : Rat} (hB : 1 ≤ B) (h : El n k B g d) {i : Nat} (hi : i < n) (j : Nat) : ZB (bnd B (k + 1)) (d * g i j) := by
  by_cases z : i < k
  · exact (h.low z j).mono (bnd_mono hB)
  · exact h.high (by omega) hi j
def nxt (g : Nat → Vc) (k : Nat) (i : Nat) : Vc := if i = k then (fun j => (g k k)⁻¹ * g k j) else fun j => g i j - g i k * ((g k k)⁻¹ * g k j)
theorem wd_clear (s : Vc) (c : Nat → Rat) (g : Nat → Vc) : ∀ (k : Nat) (cs : List Nat), wd s (DD (glr (fun i j => g i j - c i * s j) k)) cs = wd s (DD (glr g k)) cs
  | 0, cs => rfl
  | k + 1, cs => by
    have e1 : ∀ cs, wd s (DD (glr (fun i j => g i j - c i * s j) (k + 1))) cs = - wd (fun j => g k j - c k * s j) (fun l => wd s (DD (glr g k)) l) cs := fun cs => by
      show wd s (fun l => wd (fun j => g k j - c k * s j) (DD (glr (fun i j => g i j - c i * s j) k)) l) cs = _
      rw [wd_anti]
      congr 1
      exact wd_congr (fun l => wd_clear s c g k l) cs
    rw [e1]
    have e2 : wd s (DD (glr g (k + 1))) cs = - wd (g k) (fun l => wd s (DD (glr g k)) l) cs := by
      show wd s (fun l => wd (g k) (DD (glr g k)) l) cs = _
      rw [wd_anti]
    rw [e2]
    congr 1
    have e3 : (fun j => g k j - c k * s j) = fun j => g k j + (-(c k)) * s j := funext fun j => by grind
    rw [e3, wd_addR, wd_mulR, wd_sq]
    grind
theorem glr_congr {g g' : Nat → Vc} : ∀ k, (∀ i, i < k → g i = g' i) → glr g k = glr g' k
  | 0, _ => rfl
  | k + 1, h => by
    show g k :: glr g k = g' k :: glr g' k
    rw [h k (by omega), glr_congr k fun i hi => h i (by omega)]
theorem El.step {n k B : Nat} {g : Nat → Vc} {d : Rat} (h : El n k B g d) (hk : k < n) (hp : g k k ≠ 0) : El n (k + 1) B (nxt g k) (d * g k k) := by
  have hinv : (g k k)⁻¹ * g k k = 1 := Rat.inv_mul_cancel _ hp
  obtain ⟨s, hs⟩ : ∃ s : Vc, s = fun j => (g k k)⁻¹ * g k j := ⟨_, rfl⟩
  have hsk : ∀ j, g k j = g k k * s j := fun j => by rw [hs]; dsimp only; grind
  have n1 : nxt g k k = s := by unfold nxt; rw [if_pos rfl, hs]
  have n2 : ∀ i, i ≠ k → nxt g k i = fun j => g i j - g i k * s j := fun i hi => by unfold nxt; rw [if_neg hi, hs]
  have hg : glr (nxt g k) k = glr (fun i j => g i j - g i k * s j) k := glr_congr k fun i hi => n2 i (by omega)
  have lam : ∀ cs, DD (glr (nxt g k) (k + 1)) cs = wd s (DD (glr g k)) cs := fun cs => by
    show wd (nxt g k k) (DD (glr (nxt g k) k)) cs = _
    rw [n1, hg]
    exact wd_clear s (fun i => g i k) g k cs
  have gk : ∀ cs, wd (g k) (DD (glr g k)) cs = g k k * wd s (DD (glr g k)) cs := fun cs => by
    rw [← wd_mulR]
    rw [show g k = fun j => g k k * s j from funext hsk]
    exact (by rw [show (fun j => g k k * s j) k = g k k from (hsk k).symm])
  refine ⟨by omega, ?_, fun i hi j hj => ?_, ?_, fun i hi hin => ?_⟩
  · intro z
    have h0 := h.d0
    rcases Rat.mul_eq_zero.mp z with y | y
    · exact h0 y
    · exact hp y
  · have su : ∀ j, j < k → s j = 0 := fun j hj => by
      have := h.un k hk j hj
      rw [if_neg (by omega)] at this
      rw [hs]; dsimp only; rw [this]; grind
    have sk : s k = 1 := by rw [hs]; exact hinv
    by_cases e : i = k
    · subst e
      rw [n1]
      by_cases e2 : j = i
      · subst e2; rw [sk, if_pos rfl]
      · rw [su j (by omega), if_neg (by omega)]
    · rw [n2 i e]
      dsimp only
      by_cases e2 : j = k
      · subst e2; rw [sk, if_neg e]; grind
      · rw [su j (by omega), h.un i hi j (by omega)]
        grind
  · obtain ⟨rs, hl, hB, e⟩ := h.om
    obtain ⟨ρ, hρ, e2⟩ := h.bk k (Nat.le_refl _) hk
    refine ⟨ρ :: rs, by rw [List.length_cons, hl], fun r hr => ?_, fun cs => ?_⟩
    · rcases List.mem_cons.mp hr with z | z
      · rw [z]; exact hρ
      · exact hB r z
    · show wd ρ (DD rs) cs = _
      rw [wd_congr (ψ := fun l => d * DD (glr g k) l) e, wd_mul, e2, gk, lam]
      grind
  · obtain ⟨ρ, hρ, e2⟩ := h.bk i (by omega) hin
    refine ⟨ρ, hρ, fun cs => ?_⟩
    have e1 : ∀ r : Vc, wd r (DD (glr (nxt g k) (k + 1))) cs = - wd s (fun l => wd r (DD (glr g k)) l) cs := fun r => by
      rw [wd_congr (ψ := fun l => wd s (DD (glr g k)) l) lam, wd_anti]
    rw [e1, e1, wd_congr e2, n2 i (by omega)]
    congr 1
    have e3 : ∀ l, wd (fun j => g i j - g i k * s j) (DD (glr g k)) l = wd (g i) (DD (glr g k)) l - g i k * wd s (DD (glr g k)) l := fun l => by
      have e4 : (fun j => g i j - g i k * s j) = fun j => g i j + (-(g i k)) * s j := funext fun j => by grind
      rw [e4, wd_addR, wd_mulR]
      grind
    rw [wd_congr e3, wd_sub, wd_mul, wd_sq]
    grind
def swp (g : Nat → Vc) (a b : Nat) (i : Nat) : Vc := if i = a then g b else if i = b then g a else g i
theorem El.swap {n k B : Nat} {g : Nat → Vc} {d : Rat} (h : El n k B g d) {a b : Nat} (ha : k ≤ a) (hb : k ≤ b) (han : a < n) (hbn : b < n) : El n k B (swp g a b) d := by
  have hg : glr (swp g a b) k = glr g k := glr_congr k fun i hi => by unfold swp; rw [if_neg (by omega), if_neg (by omega)]
  refine ⟨h.kn, h.d0, fun i hi j hj => ?_, by rw [hg]; exact h.om, fun i hi hin => ?_⟩
  · unfold swp
    by_cases e : i = a
    · rw [if_pos e, h.un b hbn j hj, if_neg (by omega), if_neg (by omega)]
    · rw [if_neg e]
      by_cases e2 : i = b
      · rw [if_pos e2, h.un a han j hj, if_neg (by omega), if_neg (by omega)]
      · rw [if_neg e2]; exact h.un i hi j hj
  · rw [hg]
    unfold swp
    by_cases e : i = a
    · rw [if_pos e]; exact h.bk b hb hbn
    · rw [if_neg e]
      by_cases e2 : i = b
      · rw [if_pos e2]; exact h.bk a ha han
      · rw [if_neg e2]; exact h.bk i hi hin
theorem El.start {n B : Nat} {g : Nat → Vc} (h : ∀ i, i < n → VB B (g i)) : El n 0 B g 1 :=
  ⟨Nat.zero_le _, by decide, fun i _ j hj => absurd hj (Nat.not_lt_zero j), ⟨[], rfl, (fun r hr => by cases hr), fun cs => by show DD [] cs = 1 * DD [] cs; grind⟩, fun i _ hi => ⟨g i, h i hi, fun cs => rfl⟩⟩
end EP

namespace EP
theorem sN_one (v : Rat) {k : Nat} : ∀ n, k < n → sN (fun a => if a = k then v else 0) n = v
  | n + 1, h => by
    show sN _ n + (if n = k then v else 0) = v
    by_cases e : n = k
    · subst e
      rw [if_pos rfl, sN_congr (g := fun _ => 0) n (fun i hi => if_neg (by omega)), sN_zero]
      grind
    · rw [if_neg e, sN_one v n (by omega)]
      grind
theorem sN_sub (f g : Nat → Rat) (n : Nat) : sN (fun i => f i - g i) n = sN f n - sN g n := by
  have h := sN_add f (fun i => (-1) * g i) n
  rw [sN_mulL] at h
  rw [sN_congr (g := fun i => f i + (-1) * g i) n (fun i _ => by grind), h]
  grind
theorem sN_exch (f : Nat → Rat) {x y n : Nat} (hx : x < n) (hy : y < n) : sN (fun a => f (if a = x then y else if a = y then x else a)) n = sN f n := by
  by_cases e : x = y
  · subst e
    refine sN_congr n fun i _ => ?_
    by_cases z : i = x
    · rw [if_pos z, z]
    · rw [if_neg z, if_neg z]
  · have h : ∀ i, f (if i = x then y else if i = y then x else i) = f i + ((if i = x then f y - f x else 0) + (if i = y then f x - f y else 0)) := fun i => by
      by_cases z : i = x
      · subst z; rw [if_pos rfl, if_pos rfl, if_neg e]; grind
      · rw [if_neg z, if_neg z]
        by_cases z2 : i = y
        · subst z2; rw [if_pos rfl, if_pos rfl]; grind
        · rw [if_neg z2, if_neg z2]; grind
    rw [sN_congr n (fun i _ => h i), sN_add, sN_add, sN_one _ n hx, sN_one _ n hy]
    grind
def Spn (g : Nat → Vc) (n : Nat) (ρ : Vc) : Prop := ∃ c : Nat → Rat, ∀ j, ρ j = sN (fun a => c a * g a j) n
def Lft (g : Nat → Vc) (n : Nat) (T : Nat → Nat → Rat) : Prop := ∀ i, i < n → ∀ j, j < n → g i j = sN (fun m => g i (n + m) * T m j) n
theorem Spn.swap {g : Nat → Vc} {n a b : Nat} {ρ : Vc} (h : Spn g n ρ) (ha : a < n) (hb : b < n) : Spn (swp g a b) n ρ := by
  obtain ⟨c, e⟩ := h
  refine ⟨fun i => c (if i = a then b else if i = b then a else i), fun j => ?_⟩
  rw [e, ← sN_exch (fun i => c i * g i j) ha hb]
  refine sN_congr n fun i _ => ?_
  unfold swp
  dsimp only
  by_cases z : i = a
  · rw [if_pos z, if_pos z]
  · rw [if_neg z, if_neg z]
    by_cases z2 : i = b
    · rw [if_pos z2, if_pos z2]
    · rw [if_neg z2, if_neg z2]
theorem Lft.swap {g : Nat → Vc} {n a b : Nat} {T : Nat → Nat → Rat} (h : Lft g n T) (ha : a < n) (hb : b < n) : Lft (swp g a b) n T := fun i hi j hj => by
  unfold swp
  by_cases z : i = a
  · rw [if_pos z]; exact h b hb j hj
  · rw [if_neg z]
    by_cases z2 : i = b
    · rw [if_pos z2]; exact h a ha j hj
    · rw [if_neg z2]; exact h i hi j hj
theorem Lft.step {g : Nat → Vc} {n k : Nat} {T : Nat → Nat → Rat} (h : Lft g n T) (hk : k < n) : Lft (nxt g k) n T := fun i hi j hj => by
  unfold nxt
  by_cases z : i = k
  · rw [if_pos z]
    try dsimp only
    rw [h k hk j hj, ← sN_mulL]
    exact sN_congr n fun m _ => by grind
  · rw [if_neg z]
    try dsimp only
    rw [h i hi j hj, h k hk j hj, ← sN_mulL, ← sN_mulL, ← sN_sub]
    exact sN_congr n fun m _ => by grind
theorem Spn.step {g : Nat → Vc} {n k : Nat} {ρ : Vc} (h : Spn g n ρ) (hk : k < n) (hp : g k k ≠ 0) : Spn (nxt g k) n ρ := by
  obtain ⟨c, e⟩ := h
  have hinv : (g k k)⁻¹ * g k k = 1 := Rat.inv_mul_cancel _ hp
  refine ⟨fun a => if a = k then sN (fun b => c b * g b k) n else c a, fun j => ?_⟩
  have key : ∀ a, (if a = k then sN (fun b => c b * g b k) n else c a) * nxt g k a j = (c a * g a j - c a * g a k * ((g k k)⁻¹ * g k j)) + (if a = k then sN (fun b => c b * g b k) n * ((g k k)⁻¹ * g k j) else 0) := fun a => by
    unfold nxt
    by_cases z : a = k
    · subst z
      rw [if_pos rfl, if_pos rfl, if_pos rfl]
      try dsimp only
      have : c a * g a a * ((g a a)⁻¹ * g a j) = c a * g a j * ((g a a)⁻¹ * g a a) := by grind
      rw [this, hinv]
      grind
    · rw [if_neg z, if_neg z, if_neg z]
      try dsimp only
      grind
  rw [sN_congr n (fun a _ => key a), sN_add, sN_sub, sN_one _ n hk, sN_mulR, ← e]
  grind
theorem end_left {g : Nat → Vc} {n : Nat} {T : Nat → Nat → Rat} (hu : Un1 g n n) (hl : Lft g n T) {i j : Nat} (hi : i < n) (hj : j < n) : sN (fun m => g i (n + m) * T m j) n = if i = j then 1 else 0 := by
  rw [← hl i hi j hj, hu i hi j hj]
theorem unit_sum {c : Nat → Rat} {g : Nat → Vc} {n : Nat} (hu : Un1 g n n) {j : Nat} (hj : j < n) : sN (fun a => c a * g a j) n = c j := by
  rw [sN_congr (g := fun a => if a = j then c j else 0) n (fun a ha => ?_), sN_one _ n hj]
  rw [hu a ha j hj]
  by_cases z : a = j
  · rw [if_pos z, if_pos z, z]; grind
  · rw [if_neg z, if_neg z]; grind
theorem end_right {g : Nat → Vc} {n : Nat} {ρ : Vc} {s : Rat} {t : Nat → Rat} {i : Nat} (hu : Un1 g n n) (hs : Spn g n ρ) (s0 : s ≠ 0) (e1 : ∀ j, j < n → ρ j = s * t j) (e2 : ∀ m, m < n → ρ (n + m) = if i = m then s else 0) {m : Nat} (hm : m < n) : sN (fun a => t a * g a (n + m)) n = if i = m then 1 else 0 := by
  obtain ⟨c, e⟩ := hs
  have hc : ∀ j, j < n → c j = s * t j := fun j hj => by rw [← e1 j hj, e, unit_sum hu hj]
  have h := e (n + m)
  rw [e2 m hm, sN_congr (g := fun a => s * (t a * g a (n + m))) n (fun a ha => by rw [hc a ha]; grind), sN_mulL] at h
  have hx : s * (sN (fun a => t a * g a (n + m)) n - if i = m then 1 else 0) = 0 := by
    by_cases z : i = m
    · rw [if_pos z] at h ⊢; grind
    · rw [if_neg z] at h ⊢; grind
  rcases Rat.mul_eq_zero.mp hx with y | y
  · exact absurd y s0
  · grind
theorem end_none {g : Nat → Vc} {n k : Nat} (hk : k < n) (hu : Un1 g n k) (h0 : ∀ i, k ≤ i → i < n → g i k = 0) : ∃ x : Nat → Rat, x k = 1 ∧ ∀ ρ, Spn g n ρ → sN (fun j => ρ j * x j) n = 0 := by
  refine ⟨fun j => if j = k then 1 else if j < k then - g j k else 0, by simp, ?_⟩
  rintro ρ ⟨c, e⟩
  have row : ∀ i, i < n → sN (fun j => g i j * (if j = k then 1 else if j < k then - g j k else 0)) n = 0 := fun i hi => by
    have key : ∀ j, j < n → g i j * (if j = k then 1 else if j < k then - g j k else 0) = (if j = k then g i k else 0) + (if j = i then (if i < k then - g i k else 0) else 0) := fun j hj => by
      by_cases z : j = k
      · subst z
        rw [if_pos rfl, if_pos rfl]
        by_cases z2 : j = i
        · subst z2; rw [if_pos rfl, if_neg (Nat.lt_irrefl j)]; grind
        · rw [if_neg z2]; grind
      · rw [if_neg z, if_neg z]
        by_cases z2 : j < k
        · rw [if_pos z2, hu i hi j z2]
          by_cases z3 : i = j
          · subst z3; rw [if_pos rfl, if_pos rfl, if_pos z2]; grind
          · rw [if_neg z3, if_neg (fun y => z3 y.symm)]; grind
        · rw [if_neg z2]
          by_cases z3 : j = i
          · subst z3; rw [if_pos rfl, if_neg z2]; grind
          · rw [if_neg z3]; grind
    rw [sN_congr n key, sN_add, sN_one _ n hk, sN_one _ n hi]
    by_cases z : i < k
    · rw [if_pos z]; grind
    · rw [if_neg z, h0 i (by omega) hi]; grind
  rw [sN_congr (g := fun j => sN (fun a => c a * (g a j * (if j = k then 1 else if j < k then - g j k else 0))) n) n (fun j _ => by
    rw [e, ← sN_mulR]
    exact sN_congr n fun a _ => by grind), sN_swap, sN_congr (g := fun _ => 0) n (fun a ha => by rw [sN_mulL, row a ha]; grind), sN_zero]
end EP

namespace EP
abbrev Rw := List (List Int)
def ent2 (rows : Rw) (i j : Nat) : Int := (rows.getD i []).getD j 0
def fwN (rows : Rw) (k : Nat) : Option Nat := (List.range' k (rows.length - k)).find? fun i => !decide (ent2 rows i k = 0)
def exF (rows : Rw) (i j : Nat) : Rw := (rows.set i (rows.getD j [])).set j (rows.getD i [])
def crF (row taken : List Int) (k : Nat) (bf : Int) : List Int := (row.zip taken).map fun p => (taken.getD k 0 * p.1 - row.getD k 0 * p.2).fdiv bf
def stF (rows : Rw) (k : Nat) (bf : Int) : Rw := (List.range rows.length).map fun i => if i = k then rows.getD i [] else crF (rows.getD i []) (rows.getD k []) k bf
def clL (n : Nat) : Nat → Rw → Int → Int → Int × Rw
  | 0, rows, sg, bf => (sg * bf, rows)
  | m + 1, rows, sg, bf => match fwN rows (n - (m + 1)) with
    | none => (0, rows)
    | some f => if f = n - (m + 1) then clL n m (stF rows (n - (m + 1)) bf) sg (ent2 rows (n - (m + 1)) (n - (m + 1))) else clL n m (stF (exF rows f (n - (m + 1))) (n - (m + 1)) bf) (-sg) (ent2 (exF rows f (n - (m + 1))) (n - (m + 1)) (n - (m + 1)))
def clF (rows : Rw) : Int × Rw := clL rows.length rows.length rows 1 1
theorem fwN_some {rows : Rw} {k f : Nat} (h : fwN rows k = some f) : k ≤ f ∧ f < rows.length ∧ ent2 rows f k ≠ 0 := by
  unfold fwN at h
  have h1 := List.mem_of_find?_eq_some h
  have h2 := List.find?_some h
  rw [List.mem_range'_1] at h1
  exact ⟨h1.1, by omega, by simpa using h2⟩
theorem fwN_none {rows : Rw} {k : Nat} (h : fwN rows k = none) {i : Nat} (hk : k ≤ i) (hi : i < rows.length) : ent2 rows i k = 0 := by
  unfold fwN at h
  have := List.find?_eq_none.mp h i (List.mem_range'_1.mpr ⟨hk, by omega⟩)
  simpa using this
theorem getD_setR {rows : Rw} {i a : Nat} {r : List Int} (h : i < rows.length) : (rows.set i r).getD a [] = if a = i then r else rows.getD a [] := by
  rw [List.getD_eq_getElem?_getD, List.getD_eq_getElem?_getD, List.getElem?_set]
  by_cases e : i = a
  · subst e; rw [if_pos rfl, if_pos h, if_pos rfl]; rfl
  · rw [if_neg e, if_neg fun z => e z.symm]
theorem exF_len (rows : Rw) (i j : Nat) : (exF rows i j).length = rows.length := by unfold exF; rw [List.length_set, List.length_set]
theorem exF_get {rows : Rw} {i j a : Nat} (hi : i < rows.length) (hj : j < rows.length) : (exF rows i j).getD a [] = if a = j then rows.getD i [] else if a = i then rows.getD j [] else rows.getD a [] := by
  unfold exF
  rw [getD_setR (by rw [List.length_set]; exact hj), getD_setR hi]
theorem stF_len (rows : Rw) (k : Nat) (bf : Int) : (stF rows k bf).length = rows.length := by unfold stF; rw [List.length_map, List.length_range]
theorem stF_get {rows : Rw} {k i : Nat} {bf : Int} (hi : i < rows.length) : (stF rows k bf).getD i [] = if i = k then rows.getD i [] else crF (rows.getD i []) (rows.getD k []) k bf := by
  unfold stF
  rw [List.getD_eq_getElem?_getD, List.getElem?_map, List.getElem?_range hi]
  rfl
theorem crF_get {row taken : List Int} {k j : Nat} {bf : Int} (h : j < row.length) (h2 : j < taken.length) : (crF row taken k bf).getD j 0 = (taken.getD k 0 * row.getD j 0 - row.getD k 0 * taken.getD j 0).fdiv bf := by
  unfold crF
  rw [List.getD_eq_getElem?_getD, List.getElem?_map, (List.getElem?_zip_eq_some (z := (row[j], taken[j]))).mpr ⟨List.getElem?_eq_getElem h, List.getElem?_eq_getElem h2⟩]
  show (_ - _ : Int).fdiv bf = _
  rw [List.getD_eq_getElem?_getD (l := row) (i := j), List.getElem?_eq_getElem h, List.getD_eq_getElem?_getD (l := taken) (i := j), List.getElem?_eq_getElem h2]
  rfl
theorem crF_len {row taken : List Int} {k m : Nat} {bf : Int} (h : row.length = m) (h2 : taken.length = m) : (crF row taken k bf).length = m := by
  unfold crF
  rw [List.length_map, List.length_zip, h, h2, Nat.min_self]
theorem getD_out {l : List Int} {j : Nat} (h : l.length ≤ j) : l.getD j 0 = 0 := by rw [List.getD_eq_getElem?_getD, List.getElem?_eq_none h]; rfl
structure Gd (n m k B : Nat) (rows : Rw) (bf : Int) (g : Nat → Vc) : Prop where
  len : rows.length = n
  rl : ∀ i, i < n → (rows.getD i []).length = m
  el : El n k B g (bf : Rat)
  eq : ∀ i, i < n → ∀ j, ((ent2 rows i j : Int) : Rat) = (bf : Rat) * g i j
theorem cast_inj {a b : Int} (h : (a : Rat) = (b : Rat)) : a = b := Rat.intCast_inj.mp h
theorem Gd.bf0 {n m k B : Nat} {rows : Rw} {bf : Int} {g : Nat → Vc} (h : Gd n m k B rows bf g) : bf ≠ 0 := fun z => h.el.d0 (by rw [z]; rfl)
theorem Gd.size {n m k B : Nat} {rows : Rw} {bf : Int} {g : Nat → Vc} (h : Gd n m k B rows bf g) (hB : 1 ≤ B) {i : Nat} (hi : i < n) (j : Nat) : (ent2 rows i j).natAbs ≤ bnd B (k + 1) := by
  obtain ⟨z, e, hz⟩ := h.el.all hB hi j
  rw [← h.eq i hi j] at e
  rw [cast_inj e]; exact hz
theorem Gd.swap {n m k B : Nat} {rows : Rw} {bf : Int} {g : Nat → Vc} (h : Gd n m k B rows bf g) {f : Nat} (hf : k ≤ f) (hn : f < n) (hk : k < n) : Gd n m k B (exF rows f k) bf (swp g k f) := by
  have l := h.len
  refine ⟨by rw [exF_len]; exact l, fun i hi => ?_, h.el.swap (Nat.le_refl _) hf hk hn, fun i hi j => ?_⟩
  · rw [exF_get (by omega) (by omega)]
    by_cases e : i = k
    · rw [if_pos e]; exact h.rl f hn
    · rw [if_neg e]
      by_cases e2 : i = f
      · rw [if_pos e2]; exact h.rl k hk
      · rw [if_neg e2]; exact h.rl i hi
  · unfold ent2 swp
    rw [exF_get (by omega) (by omega)]
    by_cases e : i = k
    · rw [if_pos e, if_pos e]; exact h.eq f hn j
    · rw [if_neg e, if_neg e]
      by_cases e2 : i = f
      · rw [if_pos e2, if_pos e2]; exact h.eq k hk j
      · rw [if_neg e2, if_neg e2]; exact h.eq i hi j
theorem Gd.pivot {n m k B : Nat} {rows : Rw} {bf : Int} {g : Nat → Vc} (h : Gd n m k B rows bf g) (hk : k < n) (h0 : ent2 rows k k ≠ 0) : g k k ≠ 0 := fun z => h0 (cast_inj (by rw [h.eq k hk k, z]; show (bf : Rat) * 0 = 0; grind))
theorem Gd.div {n m k B : Nat} {rows : Rw} {bf : Int} {g : Nat → Vc} (h : Gd n m k B rows bf g) (hB : 1 ≤ B) (hk : k < n) (h0 : ent2 rows k k ≠ 0) {i : Nat} (hi : i < n) (hik : i ≠ k) (j : Nat) :
    (((ent2 rows k k * ent2 rows i j - ent2 rows i k * ent2 rows k j).fdiv bf : Int) : Rat) = (ent2 rows k k : Rat) * nxt g k i j := by
  have hp := h.pivot hk h0
  have el := h.el.step hk hp
  obtain ⟨z, ez, _⟩ := el.all hB hi j
  have hinv : (g k k)⁻¹ * g k k = 1 := Rat.inv_mul_cancel _ hp
  have key : ((ent2 rows k k * ent2 rows i j - ent2 rows i k * ent2 rows k j : Int) : Rat) = ((bf * z : Int) : Rat) := by
    push_cast
    rw [h.eq k hk k, h.eq i hi j, h.eq i hi k, h.eq k hk j, ← ez]
    unfold nxt
    rw [if_neg hik]
    have : (bf : Rat) * (bf * g k k * (g i j - g i k * ((g k k)⁻¹ * g k j))) = bf * bf * (g k k * g i j - g i k * g k j * ((g k k)⁻¹ * g k k)) := by grind
    rw [this, hinv]
    grind
  rw [cast_inj key, Int.mul_fdiv_cancel_left _ h.bf0, ← ez, h.eq k hk k]
theorem Gd.step {n m k B : Nat} {rows : Rw} {bf : Int} {g : Nat → Vc} (h : Gd n m k B rows bf g) (hB : 1 ≤ B) (hk : k < n) (h0 : ent2 rows k k ≠ 0) : Gd n m (k + 1) B (stF rows k bf) (ent2 rows k k) (nxt g k) := by
  have l := h.len
  have hp := h.pivot hk h0
  have hinv : (g k k)⁻¹ * g k k = 1 := Rat.inv_mul_cancel _ hp
  refine ⟨by rw [stF_len]; exact l, fun i hi => ?_, ?_, fun i hi j => ?_⟩
  · rw [stF_get (by omega)]
    by_cases e : i = k
    · rw [if_pos e]; exact h.rl i hi
    · rw [if_neg e]; exact crF_len (h.rl i hi) (h.rl k hk)
  · rw [h.eq k hk k]; exact h.el.step hk hp
  · have e0 : ent2 (stF rows k bf) i j = (if i = k then rows.getD i [] else crF (rows.getD i []) (rows.getD k []) k bf).getD j 0 := by unfold ent2; rw [stF_get (by omega)]
    rw [e0]
    by_cases e : i = k
    · subst e
      rw [if_pos rfl]
      show ((ent2 rows i j : Int) : Rat) = _
      rw [h.eq i hi j, h.eq i hi i]
      unfold nxt
      rw [if_pos rfl]
      have : (bf : Rat) * g i i * ((g i i)⁻¹ * g i j) = bf * g i j * ((g i i)⁻¹ * g i i) := by grind
      rw [this, hinv]
      grind
    · rw [if_neg e]
      by_cases hj : j < m
      · rw [crF_get (by rw [h.rl i hi]; exact hj) (by rw [h.rl k hk]; exact hj)]
        exact h.div hB hk h0 hi e j
      · rw [getD_out (by rw [crF_len (h.rl i hi) (h.rl k hk)]; omega)]
        have a1 : ent2 rows i j = 0 := getD_out (by rw [h.rl i hi]; omega)
        have a2 : ent2 rows k j = 0 := getD_out (by rw [h.rl k hk]; omega)
        have := h.div hB hk h0 hi e j
        rw [a1, a2] at this
        simpa using this
theorem Gd.start {n m B : Nat} {rows : Rw} (hl : rows.length = n) (hr : ∀ i, i < n → (rows.getD i []).length = m) (hb : ∀ i, i < n → ∀ j, (ent2 rows i j).natAbs ≤ B) : Gd n m 0 B rows 1 (fun i j => ((ent2 rows i j : Int) : Rat)) :=
  ⟨hl, hr, El.start fun i hi j => ⟨_, rfl, hb i hi j⟩, fun i hi j => by show _ = (1 : Rat) * _; grind⟩
theorem cl_end {n m B : Nat} (hB : 1 ≤ B) (T : Nat → Nat → Rat) (Rs : List Vc) : ∀ (r : Nat) (rows : Rw) (sg bf : Int) (g : Nat → Vc), r ≤ n → Gd n m (n - r) B rows bf g → (∀ ρ ∈ Rs, Spn g n ρ) → Lft g n T → (sg = 1 ∨ sg = -1) →
    ((clL n r rows sg bf).1 = 0 ∧ ∃ x : Nat → Rat, (∃ k, k < n ∧ x k = 1) ∧ ∀ ρ ∈ Rs, sN (fun j => ρ j * x j) n = 0) ∨
    ((clL n r rows sg bf).1 ≠ 0 ∧ ∃ bf' g', Gd n m n B (clL n r rows sg bf).2 bf' g' ∧ (∀ ρ ∈ Rs, Spn g' n ρ) ∧ Lft g' n T)
  | 0, rows, sg, bf, g, _, h, hs, hl, hsg => by
    right
    refine ⟨?_, bf, g, h, hs, hl⟩
    show sg * bf ≠ 0
    exact Int.mul_ne_zero (by omega) h.bf0
  | r + 1, rows, sg, bf, g, hr, h, hs, hl, hsg => by
    have hk : n - (r + 1) < n := by omega
    have e1 : n - (r + 1) + 1 = n - r := by omega
    unfold clL
    generalize n - (r + 1) = k at *
    cases e : fwN rows k with
    | none =>
      left
      refine ⟨rfl, ?_⟩
      obtain ⟨x, x1, x2⟩ := end_none hk h.el.un fun i hi hin => by
        have z := fwN_none e hi (by rw [h.len]; exact hin)
        have := h.eq i hin k
        rw [z] at this
        have h0 := h.el.d0
        have : (bf : Rat) * g i k = 0 := by rw [← this]; rfl
        rcases Rat.mul_eq_zero.mp this with y | y
        · exact absurd y h0
        · exact y
      exact ⟨x, ⟨k, hk, x1⟩, fun ρ hρ => x2 ρ (hs ρ hρ)⟩
    | some f =>
      obtain ⟨f1, f2, f3⟩ := fwN_some e
      rw [h.len] at f2
      dsimp only
      by_cases z : f = k
      · rw [if_pos z]
        subst z
        have hp := h.pivot hk f3
        have := h.step hB hk f3
        rw [e1] at this
        exact cl_end hB T Rs r _ sg _ _ (by omega) this (fun ρ hρ => (hs ρ hρ).step hk hp) (hl.step hk) hsg
      · rw [if_neg z]
        have h' := h.swap f1 f2 hk
        have f3' : ent2 (exF rows f k) k k ≠ 0 := by
          unfold ent2
          rw [exF_get (by rw [h.len]; exact f2) (by rw [h.len]; exact hk), if_pos rfl]
          exact f3
        have hp := h'.pivot hk f3'
        have := h'.step hB hk f3'
        rw [e1] at this
        exact cl_end hB T Rs r _ (-sg) _ _ (by omega) this (fun ρ hρ => ((hs ρ hρ).swap hk f2).step hk hp) ((hl.swap hk f2).step hk) (by omega)
end EP

namespace EP
def Tf (T : Tb) (i j : Nat) : Rat := val ((T.getD i []).getD j (0, 1))
theorem gcd_one_r (b : Int) : Int.gcd b 1 = 1 := by simp
theorem lcm_ones : ∀ (us : List Fr) (b : Int), 1 ≤ b → (∀ u ∈ us, u.2 = 1) → us.foldl (fun b u => (b * u.2).fdiv (Int.gcd b u.2 : Nat)) b = b
  | [], _, _, _ => rfl
  | u :: us, b, hb, h => by
    rw [List.foldl_cons, h u List.mem_cons_self, gcd_one_r, Int.mul_one]
    have : b.fdiv ((1 : Nat) : Int) = b := by show b.fdiv 1 = b; exact Int.fdiv_one b
    rw [this]
    exact lcm_ones us b hb fun v hv => h v (List.mem_cons_of_mem _ hv)
theorem plL_mem {n : Nat} {i : Int} {u : Fr} (h : u ∈ plL n i) : u = (1, 1) ∨ u = (0, 1) := by
  unfold plL at h
  obtain ⟨j, _, e⟩ := List.mem_map.mp h
  by_cases z : j = i
  · rw [if_pos z] at e; exact .inl e.symm
  · rw [if_neg z] at e; exact .inr e.symm
theorem plL_low {n : Nat} {i : Int} {u : Fr} (h : u ∈ plL n i) : Low u := by
  rcases plL_mem h with e | e <;> rw [e]
  · exact low11
  · exact low01
theorem lcm_app {r : List Fr} (h : ∀ u ∈ r, Low u) (n : Nat) (i : Int) : lcmB (r ++ plL n i) = lcmB r := by
  unfold lcmB
  rw [List.foldl_append]
  exact lcm_ones _ _ (lcmB_pos fun u hu => (h u hu).1) fun u hu => by rcases plL_mem hu with e | e <;> rw [e]
theorem lcm_dvd {M : Int} : ∀ (us : List Fr) (b : Int), 1 ≤ b → b ∣ M → (∀ u ∈ us, 1 ≤ u.2 ∧ u.2 ∣ M) → us.foldl (fun b u => (b * u.2).fdiv (Int.gcd b u.2 : Nat)) b ∣ M
  | [], _, _, hd, _ => hd
  | u :: us, b, hb, hd, h => by
    rw [List.foldl_cons]
    obtain ⟨u1, u2⟩ := h u List.mem_cons_self
    have z := lcm_step hb u1
    refine lcm_dvd us _ z.1 ?_ fun v hv => h v (List.mem_cons_of_mem _ hv)
    have hg : (0 : Int) < (Int.gcd b u.2 : Nat) := by
      have := Int.gcd_pos_of_ne_zero_left u.2 (show b ≠ 0 by omega)
      omega
    have e : (b * u.2).fdiv (Int.gcd b u.2 : Nat) = ((Int.lcm b u.2 : Nat) : Int) := by
      have h1 : (Int.gcd b u.2 : Nat) * Int.lcm b u.2 = (b * u.2).natAbs := by rw [Int.gcd_mul_lcm, Int.natAbs_mul]
      have h2 : (b * u.2) = ((Int.gcd b u.2 : Nat) : Int) * ((Int.lcm b u.2 : Nat) : Int) := by
        have h3 : 0 ≤ b * u.2 := Int.mul_nonneg (by omega) (by omega)
        have : (((Int.gcd b u.2 : Nat) * Int.lcm b u.2 : Nat) : Int) = ((b * u.2).natAbs : Int) := by rw [h1]
        rw [Int.natAbs_of_nonneg h3] at this
        rw [← this]; push_cast; rfl
      rw [h2, Int.mul_fdiv_cancel_left _ (by omega)]
    rw [e]
    exact Int.coe_lcm_dvd hd u2
def row0 (T : Tb) (n : Nat) (i : Int) : List Int := (oob (T.getD i.toNat [] ++ plL n i)).1
def rows0 (T : Tb) (n : Nat) : Rw := (rng n).map (row0 T n)
def quF (tops : List Int) (bottom : Int) : List Fr := tops.map fun t => fr t bottom
def bkR (rows : Rw) (n : Nat) : Tb := rows.mapIdx fun i row => quF (row.drop n) (row.getD i 0)
def bakF (T : Tb) : Option Tb := if (clF (rows0 T T.length)).1 = 0 then none else some (bkR (clF (rows0 T T.length)).2 T.length)
structure Bk (n b : Nat) (T : Tb) : Prop where
  sq : Sq n T
  mm : ∀ r ∈ T, ∃ M : Int, 1 ≤ M ∧ (∀ u ∈ r, u.2 ∣ M) ∧ M.natAbs ≤ 2 ^ b ∧ ∀ u ∈ r, (u.1 * (M / u.2)).natAbs ≤ 2 ^ b
theorem row0_len {n b : Nat} {T : Tb} (h : Bk n b T) {i : Nat} (hi : i < n) : (row0 T n i).length = n + n := by
  unfold row0 oob
  rw [List.length_map, List.length_append, Int.toNat_natCast, h.sq.row _ (row_mem h.sq hi), plL_len]
theorem rows0_get {n : Nat} {T : Tb} {i : Nat} (hi : i < n) : (rows0 T n).getD i [] = row0 T n i := by
  unfold rows0
  rw [getD_map (e := 0) (by rw [rng_len]; exact hi), rng_getD hi]
theorem rows0_len (T : Tb) (n : Nat) : (rows0 T n).length = n := by unfold rows0; rw [List.length_map, rng_len]
theorem row0_at {n b : Nat} {T : Tb} (h : Bk n b T) {i : Nat} (hi : i < n) : (∀ j, j < n → (row0 T n i).getD j 0 = ((T.getD i []).getD j (0, 1)).1 * (lcmB (T.getD i [])).fdiv ((T.getD i []).getD j (0, 1)).2) ∧ ∀ m, m < n → (row0 T n i).getD (n + m) 0 = if m = i then lcmB (T.getD i []) else 0 := by
  have lr := h.sq.row _ (row_mem h.sq hi)
  have ll := lcm_app (h.sq.low _ (row_mem h.sq hi)) n i
  unfold row0 oob
  dsimp only
  rw [Int.toNat_natCast, ll]
  refine ⟨fun j hj => ?_, fun m hm => ?_⟩
  · rw [getD_map (e := (0, 1)) (by rw [List.length_append, lr]; omega), List.getD_eq_getElem?_getD, List.getElem?_append_left (by rw [lr]; exact hj), ← List.getD_eq_getElem?_getD]
  · rw [getD_map (e := (0, 1)) (by rw [List.length_append, lr, plL_len]; omega), List.getD_eq_getElem?_getD, List.getElem?_append_right (by rw [lr]; omega), lr, show n + m - n = m by omega, plL_get hm]
    by_cases e : m = i
    · rw [if_pos (by omega), if_pos e]
      show (1 : Int) * (lcmB (T.getD i [])).fdiv 1 = _
      rw [Int.fdiv_one, Int.one_mul]
    · rw [if_neg (by omega), if_neg e]
      show (0 : Int) * _ = 0
      rw [Int.zero_mul]
theorem lcm_pos' {n b : Nat} {T : Tb} (h : Bk n b T) {i : Nat} (hi : i < n) : 1 ≤ lcmB (T.getD i []) := lcmB_pos fun u hu => (h.sq.low _ (row_mem h.sq hi) u hu).1
theorem top_val {u : Fr} {L : Int} (hu : Low u) (hd : u.2 ∣ L) : ((u.1 * L.fdiv u.2 : Int) : Rat) = (L : Rat) * val u := by
  obtain ⟨q, e⟩ := hd
  have h0 := hu.ne
  rw [e, Int.mul_fdiv_cancel_left _ h0]
  unfold val
  rw [Rat.divInt_eq_div]
  push_cast
  have h1 : (u.2 : Rat) ≠ 0 := fun z => h0 (cast_inj (by rw [z]; rfl))
  have h2 : (u.2 : Rat) * (u.2 : Rat)⁻¹ = 1 := Rat.mul_inv_cancel _ h1
  rw [Rat.div_def]
  have : (u.2 : Rat) * q * (u.1 * (u.2 : Rat)⁻¹) = u.1 * q * ((u.2 : Rat) * (u.2 : Rat)⁻¹) := by grind
  rw [this, h2]
  grind
theorem ent0_val {n b : Nat} {T : Tb} (h : Bk n b T) {i : Nat} (hi : i < n) : (∀ j, j < n → ((ent2 (rows0 T n) i j : Int) : Rat) = (lcmB (T.getD i []) : Rat) * Tf T i j) ∧ ∀ m, m < n → ((ent2 (rows0 T n) i (n + m) : Int) : Rat) = if m = i then (lcmB (T.getD i []) : Rat) else 0 := by
  obtain ⟨a1, a2⟩ := row0_at h hi
  unfold ent2
  rw [rows0_get hi]
  refine ⟨fun j hj => ?_, fun m hm => ?_⟩
  · rw [a1 j hj]
    have hm : (T.getD i []).getD j (0, 1) ∈ T.getD i [] := getD_mem (by rw [h.sq.row _ (row_mem h.sq hi)]; exact hj)
    exact top_val (h.sq.low _ (row_mem h.sq hi) _ hm) (lcmB_dvd (fun u hu => (h.sq.low _ (row_mem h.sq hi) u hu).1) hm)
  · rw [a2 m hm]
    by_cases e : m = i
    · rw [if_pos e, if_pos e]
    · rw [if_neg e, if_neg e]; rfl
theorem ent0_size {n b : Nat} {T : Tb} (h : Bk n b T) {i : Nat} (hi : i < n) (j : Nat) : (ent2 (rows0 T n) i j).natAbs ≤ 2 ^ b := by
  have hr := row_mem h.sq hi
  have lr := h.sq.row _ hr
  obtain ⟨M, m1, m2, m3, m4⟩ := h.mm _ hr
  have hL : lcmB (T.getD i []) ∣ M := lcm_dvd _ 1 (by decide) ⟨M, (Int.one_mul M).symm⟩ fun u hu => ⟨(h.sq.low _ hr u hu).1, m2 u hu⟩
  have hL1 := lcm_pos' h hi
  have hLM : lcmB (T.getD i []) ≤ M := Int.le_of_dvd (by omega) hL
  obtain ⟨a1, a2⟩ := row0_at h hi
  unfold ent2
  rw [rows0_get hi]
  by_cases hj : j < n
  · rw [a1 j hj]
    have hm : (T.getD i []).getD j (0, 1) ∈ T.getD i [] := getD_mem (by rw [lr]; exact hj)
    have u1 := (h.sq.low _ hr _ hm).1
    have := m4 _ hm
    refine Nat.le_trans ?_ this
    rw [Int.natAbs_mul, Int.natAbs_mul]
    refine Nat.mul_le_mul_left _ ?_
    rw [Int.fdiv_eq_ediv_of_nonneg _ (by omega)]
    have d1 : 0 ≤ lcmB (T.getD i []) / ((T.getD i []).getD j (0, 1)).2 := Int.ediv_nonneg (by omega) (by omega)
    have d2 : lcmB (T.getD i []) / ((T.getD i []).getD j (0, 1)).2 ≤ M / ((T.getD i []).getD j (0, 1)).2 := Int.ediv_le_ediv (by omega) hLM
    omega
  · by_cases hj2 : j < n + n
    · obtain ⟨m, rfl⟩ : ∃ m, j = n + m := ⟨j - n, by omega⟩
      rw [a2 m (by omega)]
      by_cases e : m = i
      · rw [if_pos e]; omega
      · rw [if_neg e]; exact Nat.zero_le _
    · rw [getD_out (by rw [row0_len h hi]; omega)]; exact Nat.zero_le _
theorem gd0 {n b : Nat} {T : Tb} (h : Bk n b T) : Gd n (n + n) 0 (2 ^ b) (rows0 T n) 1 (fun i j => ((ent2 (rows0 T n) i j : Int) : Rat)) :=
  Gd.start (rows0_len T n) (fun i hi => by rw [rows0_get hi]; exact row0_len h hi) fun i hi j => ent0_size h hi j
theorem bk_end {n b : Nat} {T : Tb} (h : Bk n b T) :
    ((clF (rows0 T n)).1 = 0 ∧ ∃ x : Nat → Rat, (∃ k, k < n ∧ x k = 1) ∧ ∀ i, i < n → sN (fun j => Tf T i j * x j) n = 0) ∨
    ((clF (rows0 T n)).1 ≠ 0 ∧ ∃ bf g, Gd n (n + n) n (2 ^ b) (clF (rows0 T n)).2 bf g ∧ (∀ i, i < n → ∀ j, j < n → sN (fun m => g i (n + m) * Tf T m j) n = if i = j then 1 else 0) ∧ ∀ i, i < n → ∀ j, j < n → sN (fun m => Tf T i m * g m (n + j)) n = if i = j then 1 else 0) := by
  have hsp : ∀ ρ ∈ (List.range n).map (fun i j => ((ent2 (rows0 T n) i j : Int) : Rat)), Spn (fun i j => ((ent2 (rows0 T n) i j : Int) : Rat)) n ρ := fun ρ hρ => by
    obtain ⟨i, hi, e⟩ := List.mem_map.mp hρ
    have hi := List.mem_range.mp hi
    subst e
    refine ⟨fun a => if a = i then 1 else 0, fun j => ?_⟩
    rw [sN_congr (g := fun a => if a = i then ((ent2 (rows0 T n) i j : Int) : Rat) else 0) n (fun a _ => ?_), sN_one _ n hi]
    dsimp only
    by_cases e : a = i
    · rw [if_pos e, if_pos e, e]; grind
    · rw [if_neg e, if_neg e]; grind
  have hlf : Lft (fun i j => ((ent2 (rows0 T n) i j : Int) : Rat)) n (Tf T) := fun i hi j hj => by
    obtain ⟨v1, v2⟩ := ent0_val h hi
    show ((ent2 (rows0 T n) i j : Int) : Rat) = sN (fun m => ((ent2 (rows0 T n) i (n + m) : Int) : Rat) * Tf T m j) n
    rw [v1 j hj, sN_congr (g := fun m => if m = i then (lcmB (T.getD i []) : Rat) * Tf T i j else 0) n (fun m hm => ?_), sN_one _ n hi]
    rw [v2 m hm]
    by_cases e : m = i
    · rw [if_pos e, if_pos e, e]
    · rw [if_neg e, if_neg e]; grind
  have hL0 : ∀ i, i < n → (lcmB (T.getD i []) : Rat) ≠ 0 := fun i hi z => by
    have h1 := lcm_pos' h hi
    have := cast_inj (a := lcmB (T.getD i [])) (b := 0) (by rw [z]; rfl)
    omega
  have hc := cl_end (T := Tf T) (Nat.two_pow_pos b) _ n (rows0 T n) 1 1 _ (Nat.le_refl n) (by rw [Nat.sub_self]; exact gd0 h) hsp hlf (.inl rfl)
  have ecl : clL n n (rows0 T n) 1 1 = clF (rows0 T n) := by unfold clF; rw [rows0_len]
  rw [ecl] at hc
  rcases hc with ⟨c0, x, hx, hz⟩ | ⟨c0, bf, g, hg, hs, hl⟩
  · refine .inl ⟨c0, x, hx, fun i hi => ?_⟩
    have := hz _ (List.mem_map.mpr ⟨i, List.mem_range.mpr hi, rfl⟩)
    rw [sN_congr (g := fun j => (lcmB (T.getD i []) : Rat) * (Tf T i j * x j)) n (fun j hj => by rw [(ent0_val h hi).1 j hj]; grind), sN_mulL] at this
    rcases Rat.mul_eq_zero.mp this with y | y
    · exact absurd y (hL0 i hi)
    · exact y
  · refine .inr ⟨c0, bf, g, hg, fun i hi j hj => end_left hg.el.un hl hi hj, fun i hi j hj => ?_⟩
    exact end_right (ρ := fun j => ((ent2 (rows0 T n) i j : Int) : Rat)) (s := (lcmB (T.getD i []) : Rat)) (t := Tf T i) (i := i) hg.el.un (hs _ (List.mem_map.mpr ⟨i, List.mem_range.mpr hi, rfl⟩)) (hL0 i hi) (fun j hj => (ent0_val h hi).1 j hj) (fun m hm => by
      rw [(ent0_val h hi).2 m hm]
      by_cases e : m = i
      · rw [if_pos e, if_pos e.symm]
      · rw [if_neg e, if_neg fun z => e z.symm]) hj
def Inv2 (n : Nat) (T X : Tb) : Prop := (∀ i, i < n → ∀ j, j < n → sN (fun m => Tf X i m * Tf T m j) n = if i = j then 1 else 0) ∧ ∀ i, i < n → ∀ j, j < n → sN (fun m => Tf T i m * Tf X m j) n = if i = j then 1 else 0
theorem back_none {n b : Nat} {T : Tb} (h : Bk n b T) (e : bakF T = none) : ∃ x : Nat → Rat, (∃ k, k < n ∧ x k = 1) ∧ ∀ i, i < n → sN (fun j => Tf T i j * x j) n = 0 := by
  unfold bakF at e
  rw [h.sq.len] at e
  rcases bk_end h with ⟨c0, hx⟩ | ⟨c0, _⟩
  · exact hx
  · rw [if_neg c0] at e; cases e
theorem Inv2.symm {n : Nat} {T X : Tb} (h : Inv2 n T X) : Inv2 n X T := ⟨h.2, h.1⟩
end EP

namespace EP
theorem pigeonN : ∀ (n : Nat) (p : Nat → Nat), (∀ a, a < n → p a < n) → (∀ a, a < n → ∀ c, c < n → p a = p c → a = c) → ∀ j, j < n → ∃ a, a < n ∧ p a = j
  | 0, _, _, _, j, hj => absurd hj (Nat.not_lt_zero j)
  | n + 1, p, h1, h2, j, hj => by
    have ih := pigeonN n (fun a => if p a = n then p n else p a) (fun a ha => by
      try dsimp only
      by_cases e : p a = n
      · rw [if_pos e]
        have := h1 n (by omega)
        have : p n ≠ n := fun z => by have := h2 a (by omega) n (by omega) (by rw [e, z]); omega
        omega
      · rw [if_neg e]
        have := h1 a (by omega)
        omega) (fun a ha c hc e => by
      try dsimp only at e
      by_cases ea : p a = n <;> by_cases ec : p c = n
      · exact h2 a (by omega) c (by omega) (by rw [ea, ec])
      · rw [if_pos ea, if_neg ec] at e
        have := h2 n (by omega) c (by omega) e
        omega
      · rw [if_neg ea, if_pos ec] at e
        have := h2 a (by omega) n (by omega) e
        omega
      · rw [if_neg ea, if_neg ec] at e
        exact h2 a (by omega) c (by omega) e)
    by_cases hjn : j = n
    · by_cases hv : p n = n
      · exact ⟨n, by omega, by rw [hv, hjn]⟩
      · have hvn : p n < n := by have := h1 n (by omega); omega
        obtain ⟨a, ha, e⟩ := ih (p n) hvn
        try dsimp only at e
        by_cases ea : p a = n
        · exact ⟨a, by omega, by rw [ea, hjn]⟩
        · rw [if_neg ea] at e
          have := h2 a (by omega) n (by omega) e
          omega
    · obtain ⟨a, ha, e⟩ := ih j (by omega)
      try dsimp only at e
      by_cases ea : p a = n
      · rw [if_pos ea] at e; exact ⟨n, by omega, e⟩
      · rw [if_neg ea] at e; exact ⟨a, by omega, e⟩
abbrev Bs := List (Int × List Fr)
def bv (base : Bs) (a : Nat) : Vc := fun j => val ((base.getD a (0, [])).2.getD j (0, 1))
def bp (base : Bs) (a : Nat) : Nat := (base.getD a (0, [])).1.toNat
def rv (r : List Fr) : Vc := fun j => val (r.getD j (0, 1))
def pl (base : Bs) : Nat → List Nat
  | 0 => []
  | s + 1 => bp base s :: pl base s
theorem pl_len (base : Bs) : ∀ s, (pl base s).length = s
  | 0 => rfl
  | s + 1 => by show (pl base s).length + 1 = s + 1; rw [pl_len base s]
theorem pl_mem {base : Bs} : ∀ {s c : Nat}, c ∈ pl base s → ∃ a, a < s ∧ c = bp base a
  | s + 1, c, h => by
    rcases List.mem_cons.mp h with e | h
    · exact ⟨s, by omega, e⟩
    · obtain ⟨a, ha, e⟩ := pl_mem h; exact ⟨a, by omega, e⟩
structure Ech (n B : Nat) (base : Bs) : Prop where
  wf : ∀ u ∈ base, u.2.length = n ∧ (∀ v ∈ u.2, Low v) ∧ 0 ≤ u.1 ∧ u.1 < n
  nz : ∀ a, a < base.length → bv base a (bp base a) ≠ 0
  zr : ∀ a, a < base.length → ∀ c, c < a → bv base a (bp base c) = 0
  om : ∀ s, s ≤ base.length → ∃ rs : List Vc, rs.length = s ∧ (∀ r ∈ rs, VB B r) ∧ ∃ e : Rat, e ≠ 0 ∧ ∀ cs, DD rs cs = e * DD (glr (bv base) s) cs
theorem tri_ne {n B : Nat} {base : Bs} (h : Ech n B base) : ∀ s, s ≤ base.length → DD (glr (bv base) s) (pl base s) ≠ 0
  | 0, _ => by show (1 : Rat) ≠ 0; decide
  | s + 1, hs => by
    show bv base s (bp base s) * DD (glr (bv base) s) (pl base s) - wd (bv base s) (fun l => DD (glr (bv base) s) (bp base s :: l)) (pl base s) ≠ 0
    rw [wd_on]
    · intro z
      have : bv base s (bp base s) * DD (glr (bv base) s) (pl base s) = 0 := by grind
      rcases Rat.mul_eq_zero.mp this with y | y
      · exact h.nz s (by omega) y
      · exact tri_ne h s (by omega) y
    · intro c hc
      obtain ⟨a, ha, e⟩ := pl_mem hc
      rw [e]; exact h.zr s (by omega) a ha
structure Fre (n B : Nat) (base : Bs) (s : Nat) (m : Int) (ρ : Vc) (y : List Fr) : Prop where
  len : y.length = n
  low : ∀ v ∈ y, Low v
  zr : ∀ a, a < s → rv y (bp base a) = 0
  fm : ∀ cs, wd ρ (DD (glr (bv base) s)) cs = (m : Rat) * wd (rv y) (DD (glr (bv base) s)) cs
theorem Fre.size {n B s : Nat} {base : Bs} {m : Int} {ρ : Vc} {y : List Fr} (hE : Ech n B base) (hs : s ≤ base.length) (h : Fre n B base s m ρ y) (hρ : VB B ρ) (hm : m ≠ 0) (j : Nat) : ∃ P Q : Int, Q ≠ 0 ∧ P.natAbs ≤ bnd B (s + 1) ∧ Q.natAbs ≤ m.natAbs * bnd B s ∧ rv y j = (P : Rat) * (Q : Rat)⁻¹ := by
  obtain ⟨rs, hl, hB, e, e0, ee⟩ := hE.om s hs
  obtain ⟨P, p1, p2⟩ := DD_ZB (ρ :: rs) (j :: pl base s) (fun r hr => by
    rcases List.mem_cons.mp hr with z | z
    · rw [z]; exact hρ
    · exact hB r z) (by rw [List.length_cons, List.length_cons, pl_len, hl])
  obtain ⟨Q, q1, q2⟩ := DD_ZB rs (pl base s) hB (by rw [pl_len, hl])
  have t := tri_ne hE s hs
  have q1' : e * DD (glr (bv base) s) (pl base s) = Q := by rw [← ee]; exact q1
  have Q0 : (Q : Rat) ≠ 0 := fun z => by
    rw [z] at q1'
    rcases Rat.mul_eq_zero.mp q1' with y | y
    · exact e0 y
    · exact t y
  have m0 : (m : Rat) ≠ 0 := fun z => hm (cast_inj (by rw [z]; rfl))
  have key : (P : Rat) = (m : Rat) * rv y j * Q := by
    rw [← p1, ← q1']
    show wd ρ (DD rs) (j :: pl base s) = _
    rw [wd_congr (ψ := fun l => e * DD (glr (bv base) s) l) ee, wd_mul, h.fm]
    show e * ((m : Rat) * (rv y j * DD (glr (bv base) s) (pl base s) - wd (rv y) (fun l => DD (glr (bv base) s) (j :: l)) (pl base s))) = _
    rw [wd_on]
    · grind
    · intro c hc
      obtain ⟨a, ha, e⟩ := pl_mem hc
      rw [e]; exact h.zr a ha
  rw [List.length_cons, hl] at p2
  rw [hl] at q2
  refine ⟨P, m * Q, Int.mul_ne_zero hm fun z => Q0 (by rw [z]; rfl), p2, by rw [Int.natAbs_mul]; exact Nat.mul_le_mul_left _ q2, ?_⟩
  rw [key]
  push_cast
  have h1 : ((m : Rat) * Q) * ((m : Rat) * Q)⁻¹ = 1 := Rat.mul_inv_cancel _ fun z => by
    rcases Rat.mul_eq_zero.mp z with y | y
    · exact m0 y
    · exact Q0 y
  have h2 : (m : Rat) * rv y j * Q * ((m : Rat) * Q)⁻¹ = rv y j * (((m : Rat) * Q) * ((m : Rat) * Q)⁻¹) := by grind
  rw [h2, h1]
  grind
theorem low_le {u : Fr} {P Q : Int} (hu : Low u) (hQ : Q ≠ 0) (e : val u = (P : Rat) * (Q : Rat)⁻¹) : u.1.natAbs ≤ P.natAbs ∧ u.2.natAbs ≤ Q.natAbs := by
  have e2 : u = fr P Q := val_inj hu (fr_lowP hQ) (by rw [val_fr hQ, Rat.divInt_eq_div, Rat.div_def]; exact e)
  rw [e2]
  exact ⟨fr_abs1 hQ, fr_abs2 hQ⟩
def manyF (y : List Fr) (u : Int × List Fr) : Fr := fr (-(y.getD u.1.toNat (0, 1)).1 * (u.2.getD u.1.toNat (0, 1)).2) ((y.getD u.1.toNat (0, 1)).2 * (u.2.getD u.1.toNat (0, 1)).1)
def freS (y : List Fr) (u : Int × List Fr) : List Fr := (rng y.length).map fun k => fadd (y.getD k.toNat (0, 1)) (fmul (manyF y u) (u.2.getD k.toNat (0, 1)))
theorem val_ne {u : Fr} (hu : Low u) : val u ≠ 0 ↔ u.1 ≠ 0 := by
  unfold val
  rw [Rat.divInt_eq_div, Rat.div_def]
  have h1 : (u.2 : Rat) ≠ 0 := fun z => hu.ne (cast_inj (by rw [z]; rfl))
  constructor
  · intro h z; apply h; rw [z]; show (0 : Rat) * _ = 0; grind
  · intro h z
    rcases Rat.mul_eq_zero.mp z with y | y
    · exact h (cast_inj (by rw [y]; rfl))
    · have := Rat.mul_inv_cancel _ h1; rw [y] at this; grind
theorem many_val {y : List Fr} {u : Int × List Fr} (hy : Low (y.getD u.1.toNat (0, 1))) (hu : Low (u.2.getD u.1.toNat (0, 1))) (h0 : (u.2.getD u.1.toNat (0, 1)).1 ≠ 0) : Low (manyF y u) ∧ val (manyF y u) = -(val (y.getD u.1.toNat (0, 1)) * (val (u.2.getD u.1.toNat (0, 1)))⁻¹) := by
  have hb : (y.getD u.1.toNat (0, 1)).2 * (u.2.getD u.1.toNat (0, 1)).1 ≠ 0 := Int.mul_ne_zero hy.ne h0
  unfold manyF
  refine ⟨fr_lowP hb, ?_⟩
  rw [val_fr hb]
  unfold val
  generalize y.getD u.1.toNat (0, 1) = a at *
  generalize u.2.getD u.1.toNat (0, 1) = c at *
  rw [Rat.divInt_eq_div, Rat.divInt_eq_div, Rat.divInt_eq_div, Rat.div_def, Rat.div_def, Rat.div_def]
  have n1 : (a.2 : Rat) ≠ 0 := fun z => hy.ne (cast_inj (by rw [z]; rfl))
  have n2 : (c.2 : Rat) ≠ 0 := fun z => hu.ne (cast_inj (by rw [z]; rfl))
  have n3 : (c.1 : Rat) ≠ 0 := fun z => h0 (cast_inj (by rw [z]; rfl))
  push_cast
  grind
theorem freS_get {n : Nat} {y : List Fr} {u : Int × List Fr} (hl : y.length = n) {k : Nat} (hk : k < n) : (freS y u).getD k (0, 1) = fadd (y.getD k (0, 1)) (fmul (manyF y u) (u.2.getD k (0, 1))) := by
  unfold freS
  rw [getD_map (e := 0) (by rw [rng_len]; omega), rng_getD (by omega), Int.toNat_natCast]
theorem freS_len (y : List Fr) (u : Int × List Fr) : (freS y u).length = y.length := by unfold freS; rw [List.length_map, rng_len]
theorem base_at {base : Bs} {s : Nat} (hs : s < base.length) : base.getD s (0, []) ∈ base := getD_mem hs
theorem Fre.step {n B s : Nat} {base : Bs} {m : Int} {ρ : Vc} {y : List Fr} (hE : Ech n B base) (hs : s < base.length) (h : Fre n B base s m ρ y) : Fre n B base (s + 1) m ρ (freS y (base.getD s (0, []))) ∧ ∀ x : Nat → Rat, sN (fun j => rv y j * x j) n = 0 → sN (fun j => bv base s j * x j) n = 0 → sN (fun j => rv (freS y (base.getD s (0, []))) j * x j) n = 0 := by
  obtain ⟨w1, w2, w3, w4⟩ := hE.wf _ (base_at hs)
  have hbp : bp base s < n := by unfold bp; omega
  have hu0 := hE.nz s hs
  have hb : ∀ j, bv base s j = val ((base.getD s (0, [])).2.getD j (0, 1)) := fun j => rfl
  have hly : ∀ k, Low (y.getD k (0, 1)) := fun k => low_getD h.low k
  have hlu : ∀ k, Low ((base.getD s (0, [])).2.getD k (0, 1)) := fun k => low_getD w2 k
  have c0 : ((base.getD s (0, [])).2.getD (base.getD s (0, [])).1.toNat (0, 1)).1 ≠ 0 := (val_ne (hlu _)).mp hu0
  obtain ⟨ml, mv⟩ := many_val (y := y) (hly _) (hlu _) c0
  have ez : ∀ k, k < n → rv (freS y (base.getD s (0, []))) k = rv y k - rv y (bp base s) * (bv base s (bp base s))⁻¹ * bv base s k := fun k hk => by
    show val ((freS y (base.getD s (0, []))).getD k (0, 1)) = _
    rw [freS_get h.len hk, val_add (hly k) (low_mul ml (hlu k)), val_mul ml (hlu k), mv]
    show rv y k + -(rv y (bp base s) * (bv base s (bp base s))⁻¹) * bv base s k = _
    grind
  have out : ∀ (l : List Fr) (k : Nat), l.length = n → ¬ k < n → val (l.getD k (0, 1)) = 0 := fun l k hl hk => by rw [List.getD_eq_getElem?_getD, List.getElem?_eq_none (by omega)]; exact val01
  have ez' : ∀ k, rv (freS y (base.getD s (0, []))) k = rv y k - rv y (bp base s) * (bv base s (bp base s))⁻¹ * bv base s k := fun k => by
    by_cases hk : k < n
    · exact ez k hk
    · have a1 : rv (freS y (base.getD s (0, []))) k = 0 := out _ k (by rw [freS_len]; exact h.len) hk
      have a2 : rv y k = 0 := out _ k h.len hk
      have a3 : bv base s k = 0 := out _ k w1 hk
      rw [a1, a2, a3]; grind
  have inv := Rat.inv_mul_cancel _ hu0
  refine ⟨⟨by rw [freS_len]; exact h.len, fun v hv => ?_, fun a ha => ?_, fun cs => ?_⟩, fun x hx hb' => ?_⟩
  · unfold freS at hv
    obtain ⟨k, _, e⟩ := List.mem_map.mp hv
    subst e
    exact low_add (hly _) (low_mul ml (hlu _))
  · rw [ez']
    by_cases e : a = s
    · subst e
      have : rv y (bp base a) - rv y (bp base a) * (bv base a (bp base a))⁻¹ * bv base a (bp base a) = rv y (bp base a) - rv y (bp base a) * ((bv base a (bp base a))⁻¹ * bv base a (bp base a)) := by grind
      rw [this, inv]; grind
    · rw [h.zr a (by omega), hE.zr s hs a (by omega)]; grind
  · have e1 : ∀ r : Vc, wd r (DD (glr (bv base) (s + 1))) cs = - wd (bv base s) (fun l => wd r (DD (glr (bv base) s)) l) cs := fun r => by
      show wd r (fun l => wd (bv base s) (DD (glr (bv base) s)) l) cs = _
      rw [wd_anti]
    have e2 : wd (rv (freS y (base.getD s (0, [])))) (DD (glr (bv base) (s + 1))) cs = wd (rv y) (DD (glr (bv base) (s + 1))) cs := by
      have e3 : rv (freS y (base.getD s (0, []))) = fun j => rv y j + (-(rv y (bp base s) * (bv base s (bp base s))⁻¹)) * bv base s j := funext fun j => by rw [ez']; grind
      rw [e3, wd_addR, wd_mulR]
      have : wd (bv base s) (DD (glr (bv base) (s + 1))) cs = 0 := wd_sq (bv base s) cs _
      rw [this]; grind
    rw [e2, e1, e1, wd_congr (ψ := fun l => (m : Rat) * wd (rv y) (DD (glr (bv base) s)) l) h.fm, wd_mul]
    grind
  · rw [sN_congr (g := fun j => rv y j * x j - rv y (bp base s) * (bv base s (bp base s))⁻¹ * (bv base s j * x j)) n (fun j _ => by rw [ez']; grind), sN_sub, sN_mulL, hx, hb']
    grind
theorem Ech.nil (n B : Nat) : Ech n B [] := ⟨fun u hu => (by cases hu), fun a ha => absurd ha (Nat.not_lt_zero a), fun a ha => absurd ha (Nat.not_lt_zero a), fun s hs => by
  have : s = 0 := by simpa using hs
  subst this
  exact ⟨[], rfl, (fun r hr => by cases hr), 1, by decide, fun cs => by show DD [] cs = 1 * DD [] cs; grind⟩⟩
theorem Ech.ker {n B : Nat} {base : Bs} (h : Ech n B base) (hl : base.length = n) {x : Nat → Rat} (hx : ∀ a, a < n → sN (fun j => bv base a j * x j) n = 0) : ∀ k, k < n → x k = 0 := by
  have hp : ∀ a, a < n → bp base a < n := fun a ha => by
    obtain ⟨_, _, w3, w4⟩ := h.wf _ (base_at (base := base) (s := a) (by omega))
    unfold bp; omega
  have hinj : ∀ a, a < n → ∀ c, c < n → bp base a = bp base c → a = c := fun a ha c hc e => by
    rcases Nat.lt_trichotomy a c with z | z | z
    · have := h.nz c (by omega)
      rw [← e] at this
      exact absurd (h.zr c (by omega) a z) this
    · exact z
    · have := h.nz a (by omega)
      rw [e] at this
      exact absurd (h.zr a (by omega) c z) this
  have sur := pigeonN n (bp base) hp hinj
  have down : ∀ d a, a < n → n - a ≤ d → x (bp base a) = 0 := fun d => by
    induction d with
    | zero => intro a ha hd; omega
    | succ d ih =>
      intro a ha hd
      have hs := hx a ha
      rw [sN_congr (g := fun j => if j = bp base a then bv base a (bp base a) * x (bp base a) else 0) n (fun j hj => ?_), sN_one _ n (hp a ha)] at hs
      · rcases Rat.mul_eq_zero.mp hs with y | y
        · exact absurd y (h.nz a (by omega))
        · exact y
      · by_cases e : j = bp base a
        · rw [if_pos e, e]
        · rw [if_neg e]
          obtain ⟨c, hc, ec⟩ := sur j hj
          subst ec
          rcases Nat.lt_trichotomy c a with z | z | z
          · rw [h.zr a (by omega) c z]; grind
          · rw [z] at e; exact absurd rfl e
          · rw [ih c hc (by omega)]; grind
  intro k hk
  obtain ⟨a, ha, e⟩ := sur k hk
  rw [← e]
  exact down (n - a) a ha (Nat.le_refl _)
end EP

namespace EP
theorem Tf_prd {n : Nat} {A B : Tb} (hA : Sq n A) (hB : Sq n B) {i j : Nat} (hi : i < n) (hj : j < n) : Tf (prd A B) i j = sN (fun m => Tf A i m * Tf B m j) n := by
  unfold Tf
  have c := hB.col (j := (j : Int)) (by omega) (by omega)
  rw [prd_get hA hB hi hj, dot_val' (hA.row _ (row_mem hA hi)) c.1 (hA.low _ (row_mem hA hi)) c.2]
  exact sN_congr n fun m hm => by rw [colm_getD hB hm, Int.toNat_natCast]
theorem Tf_tov {n : Nat} {T : Tb} (h : Sq n T) {i j : Nat} (hi : i < n) (hj : j < n) : Tf (tov T) i j = Tf T j i := by
  unfold Tf; rw [tov_get h hi hj]
theorem tf_ext {n : Nat} {A B : Tb} (hA : Sq n A) (hB : Sq n B) (h : ∀ i, i < n → ∀ j, j < n → Tf A i j = Tf B i j) : A = B :=
  tb_ext hA hB fun i j hi hj => val_inj (low_getD (hA.low _ (row_mem hA hi)) j) (low_getD (hB.low _ (row_mem hB hi)) j) (h i hi j hj)
theorem prd_assoc {n : Nat} {A B C : Tb} (hA : Sq n A) (hB : Sq n B) (hC : Sq n C) : prd (prd A B) C = prd A (prd B C) := by
  refine tf_ext ((hA.prd hB).prd hC) (hA.prd (hB.prd hC)) fun i hi j hj => ?_
  rw [Tf_prd (hA.prd hB) hC hi hj, Tf_prd hA (hB.prd hC) hi hj]
  rw [sN_congr (g := fun m => sN (fun k => Tf A i k * (Tf B k m * Tf C m j)) n) n (fun m hm => by rw [Tf_prd hA hB hi hm, ← sN_mulR]; exact sN_congr n fun k _ => by grind), sN_swap]
  exact sN_congr n fun k hk => by rw [Tf_prd hB hC hk hj, ← sN_mulL]
theorem tov_prd {n : Nat} {A B : Tb} (hA : Sq n A) (hB : Sq n B) : tov (prd A B) = prd (tov B) (tov A) := by
  refine tf_ext (hA.prd hB).tov (hB.tov.prd hA.tov) fun i hi j hj => ?_
  rw [Tf_tov (hA.prd hB) hi hj, Tf_prd hA hB hj hi, Tf_prd hB.tov hA.tov hi hj]
  exact sN_congr n fun m hm => by rw [Tf_tov hB hi hm, Tf_tov hA hm hj]; grind
def ledF (F T : Tb) : Tb := prd (tov T) (prd F T)
theorem led_sq {n : Nat} {F T : Tb} (hF : Sq n F) (hT : Sq n T) : Sq n (ledF F T) := hT.tov.prd (hF.prd hT)
theorem led_tov {n : Nat} {F T : Tb} (hF : Sq n F) (hT : Sq n T) (s : tov F = F) : tov (ledF F T) = ledF F T := by
  unfold ledF
  rw [tov_prd hT.tov (hF.prd hT), tov_tov hT, tov_prd hF hT, s, prd_assoc hT.tov hF hT]
def Ov (M : Int) (B : Nat) (u : Fr) : Prop := ∃ P : Int, P.natAbs ≤ B ∧ val u * (M : Rat) = (P : Rat)
theorem Ov.mono {M : Int} {B B' : Nat} {u : Fr} (h : Ov M B u) (l : B ≤ B') : Ov M B' u := by
  obtain ⟨P, a, b⟩ := h
  exact ⟨P, Nat.le_trans a l, b⟩
theorem ov_le {M : Int} {B : Nat} {u : Fr} (h : Ov M B u) (hu : Low u) (m : 1 ≤ M) : u.1.natAbs ≤ B ∧ u.2.natAbs ≤ M.natAbs ∧ u.2 ∣ M := by
  obtain ⟨P, a, b⟩ := h
  have m0 : M ≠ 0 := by omega
  have mr : (M : Rat) ≠ 0 := fun z => m0 (cast_inj (by rw [z]; rfl))
  have e : val u = (P : Rat) * (M : Rat)⁻¹ := by
    rw [← b]
    have := Rat.mul_inv_cancel _ mr
    grind
  obtain ⟨k1, k2⟩ := low_le hu m0 e
  have e2 : u = fr P M := val_inj hu (fr_lowP m0) (by rw [val_fr m0, Rat.divInt_eq_div, Rat.div_def]; exact e)
  refine ⟨by omega, k2, ?_⟩
  rw [e2]
  exact ⟨_, by rw [Int.mul_comm]; exact (fr_bot P M).symm⟩
theorem ov_of {M : Int} {u : Fr} (hu : Low u) (hd : u.2 ∣ M) (m : 1 ≤ M) : Ov M (u.1.natAbs * M.natAbs) u := by
  refine ⟨u.1 * M.fdiv u.2, ?_, ?_⟩
  · rw [Int.natAbs_mul]
    refine Nat.mul_le_mul_left _ ?_
    have h1 := hu.1
    rw [Int.fdiv_eq_ediv_of_nonneg M (by omega)]
    have : 0 ≤ M / u.2 := Int.ediv_nonneg (by omega) (by omega)
    have := Int.ediv_le_self u.2 (show 0 ≤ M by omega)
    omega
  · rw [top_val hu hd]; grind
theorem sN_ov {f : Nat → Rat} {M : Int} {B : Nat} : ∀ n, (∀ i, i < n → ∃ P : Int, P.natAbs ≤ B ∧ f i * (M : Rat) = (P : Rat)) → ∃ P : Int, P.natAbs ≤ n * B ∧ sN f n * (M : Rat) = (P : Rat)
  | 0, _ => ⟨0, by simp, by show (0 : Rat) * _ = _; rw [Rat.zero_mul]; rfl⟩
  | n + 1, h => by
    obtain ⟨P, a, b⟩ := sN_ov n fun i hi => h i (by omega)
    obtain ⟨Q, c, d⟩ := h n (by omega)
    refine ⟨P + Q, ?_, ?_⟩
    · rw [Nat.add_mul, Nat.one_mul]; omega
    · show (sN f n + f n) * (M : Rat) = _
      push_cast
      rw [← b, ← d]
      grind
theorem mul_ov {x y : Rat} {M N : Int} {B C : Nat} (h : ∃ P : Int, P.natAbs ≤ B ∧ x * (M : Rat) = (P : Rat)) (h' : ∃ P : Int, P.natAbs ≤ C ∧ y * (N : Rat) = (P : Rat)) : ∃ P : Int, P.natAbs ≤ B * C ∧ (x * y) * ((M * N : Int) : Rat) = (P : Rat) := by
  obtain ⟨P, a, b⟩ := h
  obtain ⟨Q, c, d⟩ := h'
  refine ⟨P * Q, by rw [Int.natAbs_mul]; exact Nat.mul_le_mul a c, ?_⟩
  push_cast
  rw [← b, ← d]
  grind
def Ot (M : Int) (B : Nat) (T : Tb) : Prop := ∀ r ∈ T, ∀ u ∈ r, Ov M B u
theorem Ot.at {n : Nat} {M : Int} {B : Nat} {T : Tb} (h : Ot M B T) (hT : Sq n T) {i j : Nat} (hi : i < n) (hj : j < n) : ∃ P : Int, P.natAbs ≤ B ∧ Tf T i j * (M : Rat) = (P : Rat) :=
  h _ (row_mem hT hi) _ (getD_mem (by rw [hT.row _ (row_mem hT hi)]; exact hj))
theorem Ot.of {n : Nat} {M : Int} {B : Nat} {T : Tb} (hT : Sq n T) (h : ∀ i, i < n → ∀ j, j < n → ∃ P : Int, P.natAbs ≤ B ∧ Tf T i j * (M : Rat) = (P : Rat)) : Ot M B T := fun r hr u hu => by
  obtain ⟨i, hi, e⟩ := List.mem_iff_getElem.mp hr
  obtain ⟨j, hj, e2⟩ := List.mem_iff_getElem.mp hu
  have := h i (by rw [← hT.len]; exact hi) j (by rw [← hT.row r hr]; exact hj)
  unfold Tf at this
  rw [List.getD_eq_getElem?_getD (l := T), List.getElem?_eq_getElem hi, e] at this
  dsimp only [Option.getD] at this
  rw [List.getD_eq_getElem?_getD, List.getElem?_eq_getElem hj, e2] at this
  exact this
theorem Ot.tov {n : Nat} {M : Int} {B : Nat} {T : Tb} (h : Ot M B T) (hT : Sq n T) : Ot M B (tov T) := Ot.of hT.tov fun i hi j hj => by
  rw [Tf_tov hT hi hj]; exact h.at hT hj hi
theorem Ot.prd {n : Nat} {M N : Int} {B C : Nat} {T U : Tb} (h : Ot M B T) (h' : Ot N C U) (hT : Sq n T) (hU : Sq n U) : Ot (M * N) (n * (B * C)) (prd T U) := Ot.of (hT.prd hU) fun i hi j hj => by
  rw [Tf_prd hT hU hi hj]
  exact sN_ov n fun m hm => mul_ov (h.at hT hi hm) (h'.at hU hm hj)
theorem Ot.led {n : Nat} {M N : Int} {B C : Nat} {F T : Tb} (h : Ot M B F) (h' : Ot N C T) (hF : Sq n F) (hT : Sq n T) : Ot (N * (M * N)) (n * (C * (n * (B * C)))) (ledF F T) := (h'.tov hT).prd (h.prd h' hF hT) hT.tov (hF.prd hT)
theorem sN_top {f : Nat → Rat} {i : Nat} : ∀ n, i < n → (∀ j, j < n → j ≠ i → f j = 0) → sN f n = f i
  | 0, h, _ => absurd h (Nat.not_lt_zero i)
  | n + 1, h, h0 => by
    show sN f n + f n = f i
    by_cases e : i = n
    · subst e
      rw [sN_congr (g := fun _ => 0) i (fun j hj => h0 j (by omega) (by omega)), sN_zero]; grind
    · rw [sN_top n (by omega) (fun j hj hne => h0 j (by omega) hne), h0 n (by omega) (fun z => e z.symm)]; grind
theorem low_ker {n : Nat} {L : Nat → Nat → Rat} {y : Nat → Rat} (h1 : ∀ i, i < n → L i i ≠ 0) (h2 : ∀ i j, i < n → j < n → i < j → L i j = 0) (hy : ∀ i, i < n → sN (fun j => L i j * y j) n = 0) : ∀ m i, i < n → i < m → y i = 0
  | 0, _, _, h => absurd h (Nat.not_lt_zero _)
  | m + 1, i, hi, hm => by
    have ih := low_ker h1 h2 hy m
    have e := hy i hi
    rw [sN_top n hi fun j hj hne => ?_] at e
    · rcases Rat.mul_eq_zero.mp e with z | z
      · exact absurd z (h1 i hi)
      · exact z
    · rcases Nat.lt_or_ge j i with q | q
      · rw [ih j hj (by omega)]; grind
      · rw [h2 i j hi hj (by omega)]; grind
theorem up_ker {n : Nat} {U : Nat → Nat → Rat} {y : Nat → Rat} (h1 : ∀ i, i < n → U i i ≠ 0) (h2 : ∀ i j, i < n → j < i → U i j = 0) (hy : ∀ i, i < n → sN (fun j => U i j * y j) n = 0) : ∀ m i, i < n → n - i ≤ m → y i = 0
  | 0, i, hi, h => by omega
  | m + 1, i, hi, hm => by
    have ih := up_ker h1 h2 hy m
    have e := hy i hi
    rw [sN_top n hi fun j hj hne => ?_] at e
    · rcases Rat.mul_eq_zero.mp e with z | z
      · exact absurd z (h1 i hi)
      · exact z
    · rcases Nat.lt_or_ge j i with q | q
      · rw [h2 i j hi q]; grind
      · rw [ih j hj (by omega)]; grind
theorem rev_ker {n : Nat} {T : Tb} (hT : Sq n T) {x : Nat → Rat} (h : ∀ i, i < n → sN (fun j => Tf T.reverse i j * x j) n = 0) : ∀ i, i < n → sN (fun j => Tf T i j * x j) n = 0 := fun i hi => by
  have e := h (n - 1 - i) (by omega)
  have : T.reverse.getD (n - 1 - i) [] = T.getD i [] := by
    rw [List.getD_eq_getElem?_getD, List.getD_eq_getElem?_getD, List.getElem?_reverse (by rw [hT.len]; omega), hT.len, show n - 1 - (n - 1 - i) = i by omega]
  unfold Tf at e ⊢
  rw [this] at e
  exact e
theorem rev_sq {n : Nat} {T : Tb} (hT : Sq n T) : Sq n T.reverse := ⟨by rw [List.length_reverse]; exact hT.len, fun r hr => hT.row r (List.mem_reverse.mp hr), fun r hr => hT.low r (List.mem_reverse.mp hr)⟩
theorem lu_ker {n : Nat} {L U : Tb} (hL : Sq n L) (hU : Sq n U) (l1 : ∀ i, i < n → Tf L i i ≠ 0) (l2 : ∀ i j, i < n → j < n → i < j → Tf L i j = 0) (u1 : ∀ i, i < n → Tf U i i ≠ 0) (u2 : ∀ i j, i < n → j < i → Tf U i j = 0) {x : Nat → Rat} (h : ∀ i, i < n → sN (fun j => Tf (prd L U) i j * x j) n = 0) : ∀ k, k < n → x k = 0 := fun k hk => by
  refine up_ker u1 u2 (y := x) (fun i hi => ?_) n k hk (by omega)
  refine low_ker l1 l2 (y := fun m => sN (fun j => Tf U m j * x j) n) (fun i hi => ?_) n i hi (by omega)
  rw [← h i hi]
  rw [sN_congr (g := fun m => sN (fun j => (Tf L i m * Tf U m j) * x j) n) n (fun m _ => by rw [← sN_mulL]; exact sN_congr n fun j _ => by grind), sN_swap]
  exact sN_congr n fun j hj => by rw [sN_mulR, Tf_prd hL hU hi hj]
end EP

namespace EP
def up (g : Nat → Vc) (i : Nat) (r : Vc) : Nat → Vc := fun a => if a = i then r else g a
theorem wd_in {g : Nat → Vc} {a : Nat} : ∀ m, a < m → ∀ cs, wd (g a) (DD (glr g m)) cs = 0
  | m + 1, h, cs => by
    show wd (g a) (fun l => wd (g m) (DD (glr g m)) l) cs = 0
    by_cases e : a = m
    · subst e; exact wd_sq _ _ _
    · rw [wd_anti, wd_congr (ψ := fun _ => 0) (fun l => wd_in m (by omega) l), wd_zero]; grind
theorem DD_alt {g : Nat → Vc} {a b : Nat} (hab : a < b) (e : g a = g b) : ∀ n, b < n → ∀ cs, DD (glr g n) cs = 0
  | n + 1, h, cs => by
    show wd (g n) (DD (glr g n)) cs = 0
    by_cases z : b = n
    · subst z
      rw [← e]
      exact wd_in b hab cs
    · rw [wd_congr (ψ := fun _ => 0) (fun l => DD_alt hab e n (by omega) l), wd_zero]
theorem DD_lin (g : Nat → Vc) {i : Nat} (x y : Vc) (c : Rat) : ∀ n, i < n → ∀ cs, DD (glr (up g i fun j => x j + c * y j) n) cs = DD (glr (up g i x) n) cs + c * DD (glr (up g i y) n) cs
  | n + 1, h, cs => by
    show wd (up g i (fun j => x j + c * y j) n) (DD (glr (up g i fun j => x j + c * y j) n)) cs = wd (up g i x n) (DD (glr (up g i x) n)) cs + c * wd (up g i y n) (DD (glr (up g i y) n)) cs
    by_cases z : n = i
    · subst z
      have e : ∀ r, glr (up g n r) n = glr g n := fun r => glr_congr n fun a ha => by unfold up; rw [if_neg (by omega)]
      rw [e, e, e]
      have e2 : ∀ r, up g n r n = r := fun r => by unfold up; rw [if_pos rfl]
      rw [e2, e2, e2, wd_addR, wd_mulR]
    · have e2 : ∀ r, up g i r n = g n := fun r => by unfold up; rw [if_neg z]
      rw [e2, e2, e2, wd_congr (fun l => DD_lin g x y c n (by omega) l), wd_add, wd_mul]
theorem up_self (g : Nat → Vc) (i : Nat) : up g i (g i) = g := funext fun a => by
  unfold up; split
  · rename_i h; rw [h]
  · rfl
theorem DD_same {g : Nat → Vc} {i k n : Nat} (hi : i < n) (hk : k < n) (hik : i ≠ k) (cs : List Nat) : DD (glr (up g i (g k)) n) cs = 0 := by
  have e1 : up g i (g k) i = up g i (g k) k := by unfold up; rw [if_pos rfl, if_neg (by omega)]
  rcases Nat.lt_or_gt_of_ne hik with z | z
  · exact DD_alt z e1 n hk cs
  · exact DD_alt z e1.symm n hi cs
theorem DD_addrow {g : Nat → Vc} {i k n : Nat} (c : Rat) (hi : i < n) (hk : k < n) (hik : i ≠ k) (cs : List Nat) : DD (glr (up g i fun j => g i j + c * g k j) n) cs = DD (glr g n) cs := by
  rw [DD_lin g (g i) (g k) c n hi, DD_same hi hk hik, up_self]; grind
theorem DD_scale {g : Nat → Vc} {i n : Nat} (c : Rat) (hi : i < n) (cs : List Nat) : DD (glr (up g i fun j => c * g i j) n) cs = c * DD (glr g n) cs := by
  have h := DD_lin g (fun _ => 0) (g i) c n hi cs
  have h0 := DD_lin g (fun _ => 0) (fun _ => 0) (-1) n hi cs
  have e0 : (fun j : Nat => (0 : Rat) + -1 * 0) = fun _ => 0 := funext fun j => by grind
  rw [e0] at h0
  have e : (fun j : Nat => (0 : Rat) + c * g i j) = fun j => c * g i j := funext fun j => by grind
  rw [e, up_self] at h
  rw [h]
  grind
theorem DD_swap {g : Nat → Vc} {a b n : Nat} (ha : a < n) (hb : b < n) (hab : a ≠ b) (cs : List Nat) : DD (glr (swp g a b) n) cs = - DD (glr g n) cs := by
  -- rows (a, b): (x, y) -> (x + y, y) -> (x + y, -x) -> (y, -x) -> (y, x)
  have s1 := DD_addrow (g := g) (1 : Rat) ha hb hab cs
  generalize h1 : (up g a fun j => g a j + 1 * g b j) = g1 at s1
  have s2 := DD_addrow (g := g1) (-1 : Rat) hb ha (Ne.symm hab) cs
  generalize h2 : (up g1 b fun j => g1 b j + -1 * g1 a j) = g2 at s2
  have s3 := DD_addrow (g := g2) (1 : Rat) ha hb hab cs
  generalize h3 : (up g2 a fun j => g2 a j + 1 * g2 b j) = g3 at s3
  have s4 := DD_scale (g := g3) (-1 : Rat) hb cs
  have e : up g3 b (fun j => -1 * g3 b j) = swp g a b := by
    funext i j
    subst h3 h2 h1
    unfold up swp
    by_cases z1 : i = b
    · subst z1
      simp only [if_true, if_neg hab, if_neg (Ne.symm hab)]
      grind
    · by_cases z2 : i = a
      · subst z2
        simp only [if_true, if_neg hab, if_neg (Ne.symm hab), if_neg z1]
        grind
      · simp only [if_neg z1, if_neg z2]
  rw [e, s3, s2, s1] at s4
  rw [s4]
  grind
def elm (h : Nat → Vc) (k : Nat) (s : Rat) (c : Nat → Rat) (i : Nat) : Vc := if i = k then (fun j => s * h k j) else fun j => h i j - c i * (s * h k j)
theorem DD_elm {h : Nat → Vc} {k n : Nat} (s : Rat) (c : Nat → Rat) (hk : k < n) (cs : List Nat) : DD (glr (elm h k s c) n) cs = s * DD (glr h n) cs := by
  rw [← DD_scale s hk cs]
  generalize e1 : (up h k fun j => s * h k j) = h1
  have key : ∀ t, t ≤ n → DD (glr (fun i => if i < t ∧ i ≠ k then elm h k s c i else h1 i) n) cs = DD (glr h1 n) cs := fun t => by
    induction t with
    | zero =>
      intro _
      have : (fun i => if i < 0 ∧ i ≠ k then elm h k s c i else h1 i) = h1 := funext fun i => by rw [if_neg (by omega)]
      rw [this]
    | succ t ih =>
      intro ht
      rw [← ih (by omega)]
      generalize e2 : (fun i => if i < t ∧ i ≠ k then elm h k s c i else h1 i) = g
      by_cases z : t = k
      · have : (fun i => if i < t + 1 ∧ i ≠ k then elm h k s c i else h1 i) = g := by
          rw [← e2]
          funext i
          by_cases y : i < t ∧ i ≠ k
          · rw [if_pos y, if_pos (by omega)]
          · rw [if_neg y, if_neg (by omega)]
        rw [this]
      · rw [← DD_addrow (g := g) (-(c t)) (show t < n by omega) hk z cs]
        congr 2
        funext i j
        subst e2
        unfold up
        by_cases y : i = t
        · subst y
          have gk : (fun a => if a < i ∧ a ≠ k then elm h k s c a else h1 a) k j = s * h k j := by
            show (if k < i ∧ k ≠ k then elm h k s c k else h1 k) j = _
            rw [if_neg (by omega), ← e1]
            unfold up
            rw [if_pos rfl]
          have gi : (fun a => if a < i ∧ a ≠ k then elm h k s c a else h1 a) i j = h i j := by
            show (if i < i ∧ i ≠ k then elm h k s c i else h1 i) j = _
            rw [if_neg (by omega), ← e1]
            unfold up
            rw [if_neg z]
          rw [if_pos (show i < i + 1 ∧ i ≠ k from ⟨by omega, z⟩), if_pos rfl]
          unfold elm
          rw [if_neg z]
          show h i j - c i * (s * h k j) = (fun a => if a < i ∧ a ≠ k then elm h k s c a else h1 a) i j + -c i * (fun a => if a < i ∧ a ≠ k then elm h k s c a else h1 a) k j
          rw [gk, gi]
          grind
        · rw [if_neg y]
          show _ = (if i < t ∧ i ≠ k then elm h k s c i else h1 i) j
          by_cases x : i < t ∧ i ≠ k
          · rw [if_pos x, if_pos (by omega)]
          · rw [if_neg x, if_neg (by omega)]
  have := key n (Nat.le_refl n)
  rw [← this]
  congr 1
  refine glr_congr n fun i hi => ?_
  by_cases y : i = k
  · rw [if_neg (by omega), ← e1]
    unfold up elm
    rw [if_pos y, if_pos y]
  · rw [if_pos ⟨hi, y⟩]
theorem nxt_elm (g : Nat → Vc) (k : Nat) : nxt g k = elm g k (g k k)⁻¹ fun i => g i k := rfl
def dt (n : Nat) (g : Nat → Vc) : Rat := DD (glr g n) (dn n)
theorem dt_swap {n : Nat} {g : Nat → Vc} {a b : Nat} (ha : a < n) (hb : b < n) (hab : a ≠ b) : dt n (swp g a b) = - dt n g := DD_swap ha hb hab _
theorem dt_elm {n : Nat} {h : Nat → Vc} {k : Nat} (s : Rat) (c : Nat → Rat) (hk : k < n) : dt n (elm h k s c) = s * dt n h := DD_elm s c hk _
def WW : List Vc → (List Nat → Rat) → List Nat → Rat
  | [], φ, cs => φ cs
  | r :: rs, φ, cs => wd r (WW rs φ) cs
theorem DD_app (rest : List Vc) : ∀ (rs : List Vc) (cs : List Nat), DD (rs ++ rest) cs = WW rs (DD rest) cs
  | [], _ => rfl
  | r :: rs, cs => wd_congr (fun l => DD_app rest rs l) cs
def Sp1 : List Vc → Vc → Prop
  | [], r => r = fun _ => 0
  | b :: bs, r => ∃ c r', Sp1 bs r' ∧ r = fun j => c * b j + r' j
theorem WW_lin (x y : Vc) (c : Rat) (rest : List Vc) (φ : List Nat → Rat) : ∀ (pre : List Vc) (cs : List Nat), WW (pre ++ (fun j => c * x j + y j) :: rest) φ cs = c * WW (pre ++ x :: rest) φ cs + WW (pre ++ y :: rest) φ cs
  | [], cs => by
    show wd (fun j => c * x j + y j) (WW rest φ) cs = c * wd x (WW rest φ) cs + wd y (WW rest φ) cs
    rw [wd_addR, wd_mulR]
  | r :: pre, cs => by
    show wd r (WW (pre ++ (fun j => c * x j + y j) :: rest) φ) cs = c * wd r (WW (pre ++ x :: rest) φ) cs + wd r (WW (pre ++ y :: rest) φ) cs
    rw [wd_congr (fun l => WW_lin x y c rest φ pre l), wd_add, wd_mul]
theorem WW_front (b : Vc) (rest : List Vc) (φ : List Nat → Rat) : ∀ (pre : List Vc), ∃ s : Rat, ∀ cs, WW (pre ++ b :: rest) φ cs = s * wd b (WW (pre ++ rest) φ) cs
  | [] => ⟨1, fun cs => by show wd b (WW rest φ) cs = 1 * wd b (WW rest φ) cs; grind⟩
  | r :: pre => by
    obtain ⟨s, h⟩ := WW_front b rest φ pre
    refine ⟨-s, fun cs => ?_⟩
    show wd r (WW (pre ++ b :: rest) φ) cs = -s * wd b (fun l => wd r (WW (pre ++ rest) φ) l) cs
    rw [wd_congr (fun l => h l), wd_mul, wd_anti]
    grind
inductive Cl (b : Vc) : List Vc → List Vc → Prop
  | nil : Cl b [] []
  | cons {t : Vc} {rs ts : List Vc} (c : Rat) : Cl b rs ts → Cl b ((fun j => c * b j + t j) :: rs) (t :: ts)
theorem Cl.len {b : Vc} {rs ts : List Vc} (h : Cl b rs ts) : rs.length = ts.length := by
  induction h with
  | nil => rfl
  | cons c _ ih => show _ + 1 = _ + 1; rw [ih]
theorem Cl.app {b : Vc} {rs ts rs' ts' : List Vc} (h : Cl b rs ts) (h' : Cl b rs' ts') : Cl b (rs ++ rs') (ts ++ ts') := by
  induction h with
  | nil => exact h'
  | cons c _ ih => exact .cons c ih
theorem Cl.refl (b : Vc) : ∀ rs, Cl b rs rs
  | [] => .nil
  | r :: rs => by
    have := Cl.cons (b := b) (t := r) 0 (Cl.refl b rs)
    rw [show (fun j => 0 * b j + r j) = r from funext fun j => by grind] at this
    exact this
theorem WW_clear (b : Vc) (φ : List Nat → Rat) {rs ts : List Vc} (h : Cl b rs ts) : ∀ cs, wd b (WW rs φ) cs = wd b (WW ts φ) cs := by
  induction h with
  | nil => exact fun _ => rfl
  | @cons t rs ts c h ih =>
    intro cs
    show wd b (fun l => wd (fun j => c * b j + t j) (WW rs φ) l) cs = wd b (fun l => wd t (WW ts φ) l) cs
    rw [wd_anti b, wd_anti b t, wd_congr (fun l => ih l), wd_addR, wd_mulR, wd_sq]
    grind
theorem sp_cl {b : Vc} {bs : List Vc} : ∀ {rs : List Vc}, (∀ r ∈ rs, Sp1 (b :: bs) r) → ∃ ts, Cl b rs ts ∧ ∀ t ∈ ts, Sp1 bs t
  | [], _ => ⟨[], .nil, fun t ht => by cases ht⟩
  | r :: rs, h => by
    obtain ⟨ts, h1, h2⟩ := sp_cl (rs := rs) fun q hq => h q (List.mem_cons_of_mem _ hq)
    obtain ⟨c, r', h3, e⟩ := h r List.mem_cons_self
    subst e
    refine ⟨r' :: ts, .cons c h1, fun t ht => ?_⟩
    rcases List.mem_cons.mp ht with z | z
    · rw [z]; exact h3
    · exact h2 t z
theorem WW_zero (rest : List Vc) (φ : List Nat → Rat) : ∀ (pre : List Vc) (cs : List Nat), WW (pre ++ (fun _ => 0) :: rest) φ cs = 0
  | [], cs => wd_on _ cs _ fun _ _ => rfl
  | r :: pre, cs => by
    show wd r (WW (pre ++ (fun _ => 0) :: rest) φ) cs = 0
    rw [wd_congr (ψ := fun _ => 0) (fun l => WW_zero rest φ pre l), wd_zero]
theorem WW_few (φ : List Nat → Rat) : ∀ (bs rs : List Vc), (∀ r ∈ rs, Sp1 bs r) → bs.length < rs.length → ∀ cs, WW rs φ cs = 0
  | [], [], _, h, _ => by simp at h
  | [], r :: rs, hr, _, cs => by
    have e : r = fun _ => 0 := hr r List.mem_cons_self
    rw [e]
    exact WW_zero rs φ [] cs
  | b :: bs, rs, hr, hl, cs => by
    have key : ∀ (rs pre : List Vc), (∀ r ∈ pre, Sp1 bs r) → (∀ r ∈ rs, Sp1 (b :: bs) r) → bs.length + 1 < pre.length + rs.length → ∀ cs, WW (pre ++ rs) φ cs = 0 := fun rs => by
      induction rs with
      | nil =>
        intro pre hp _ hl cs
        rw [List.append_nil]
        exact WW_few φ bs pre hp (by simp at hl; omega) cs
      | cons r rs ih =>
        intro pre hp hr hl cs
        obtain ⟨c, r', h3, e⟩ := hr r List.mem_cons_self
        have hr2 : ∀ q ∈ rs, Sp1 (b :: bs) q := fun q hq => hr q (List.mem_cons_of_mem _ hq)
        subst e
        rw [WW_lin]
        have z1 : WW (pre ++ r' :: rs) φ cs = 0 := by
          have := ih (pre ++ [r']) (fun q hq => by
            rcases List.mem_append.mp hq with z | z
            · exact hp q z
            · rw [List.mem_singleton.mp z]; exact h3) hr2 (by simp at hl ⊢; omega) cs
          rw [List.append_assoc] at this
          exact this
        have z2 : WW (pre ++ b :: rs) φ cs = 0 := by
          obtain ⟨s, hs⟩ := WW_front b rs φ pre
          obtain ⟨ts, h1, h2⟩ := sp_cl hr2
          have hc := (Cl.refl b pre).app h1
          rw [hs cs, WW_clear b φ hc, wd_congr (ψ := fun _ => 0) (fun l => WW_few φ bs (pre ++ ts) (fun q hq => by
            rcases List.mem_append.mp hq with z | z
            · exact hp q z
            · exact h2 q z) (by
              have := h1.len
              simp at hl ⊢; omega) l), wd_zero]
          grind
        rw [z1, z2]
        grind
    exact key rs [] (fun r hr => by cases hr) hr (by simp at hl ⊢; omega) cs
end EP

namespace EP
theorem un_swp {n k : Nat} {g : Nat → Vc} (h : Un1 g n k) {a b : Nat} (ha : k ≤ a) (hb : k ≤ b) (han : a < n) (hbn : b < n) : Un1 (swp g a b) n k := fun i hi j hj => by
  unfold swp
  by_cases e : i = a
  · rw [if_pos e, h b hbn j hj, if_neg (by omega), if_neg (by omega)]
  · rw [if_neg e]
    by_cases e2 : i = b
    · rw [if_pos e2, h a han j hj, if_neg (by omega), if_neg (by omega)]
    · rw [if_neg e2]; exact h i hi j hj
theorem un_nxt {n k : Nat} {g : Nat → Vc} (h : Un1 g n k) (hk : k < n) (hp : g k k ≠ 0) : Un1 (nxt g k) n (k + 1) := fun i hi j hj => by
  have inv := Rat.inv_mul_cancel _ hp
  unfold nxt
  by_cases e : i = k
  · subst e
    rw [if_pos rfl]
    by_cases ej : j = i
    · subst ej; rw [if_pos rfl]; exact inv
    · rw [if_neg (by omega), h i hi j (by omega), if_neg (by omega)]; grind
  · rw [if_neg e]
    by_cases ej : j = k
    · subst ej
      rw [if_neg e]
      show g i j - g i j * ((g j j)⁻¹ * g j j) = 0
      rw [inv]; grind
    · rw [h k hk j (by omega), if_neg (by omega), h i hi j (by omega)]
      split <;> grind
theorem elim_ind {n : Nat} {P : (Nat → Vc) → Prop} (hswap : ∀ g a b, a < n → b < n → a ≠ b → P (swp g a b) → P g) (hstep : ∀ g k, k < n → g k k ≠ 0 → P (nxt g k) → P g)
    (hend : ∀ g, Un1 g n n → P g) (hnone : ∀ g k, k < n → Un1 g n k → (∀ i, k ≤ i → i < n → g i k = 0) → P g) (g : Nat → Vc) : P g := by
  have key : ∀ r k g, k + r = n → Un1 g n k → P g := fun r => by
    induction r with
    | zero => intro k g hk hu; have : k = n := by omega
              subst this; exact hend g hu
    | succ r ih =>
      intro k g hk hu
      by_cases h : ∀ i, k ≤ i → i < n → g i k = 0
      · exact hnone g k (by omega) hu h
      · obtain ⟨f, h⟩ := Classical.not_forall.mp h
        obtain ⟨f1, h⟩ := Classical.not_imp.mp h
        obtain ⟨f2, h⟩ := Classical.not_imp.mp h
        by_cases e : f = k
        · subst e
          exact hstep g f f2 h (ih (f + 1) _ (by omega) (un_nxt hu f2 h))
        · have hp : swp g k f k k ≠ 0 := by unfold swp; rw [if_pos rfl]; exact h
          have hu2 := un_swp hu (Nat.le_refl k) f1 (show k < n by omega) f2
          exact hswap g k f (by omega) f2 (fun z => e z.symm) (hstep _ k (by omega) hp (ih (k + 1) _ (by omega) (un_nxt hu2 (by omega) hp)))
  exact key n 0 g (by omega) fun i _ j hj => absurd hj (Nat.not_lt_zero j)
def mm (n : Nat) (g B : Nat → Vc) : Nat → Vc := fun i j => sN (fun m => g i m * B m j) n
def tr (g : Nat → Vc) : Nat → Vc := fun i j => g j i
def idm : Nat → Vc := fun i j => if i = j then 1 else 0
theorem wd_ext {n : Nat} {r r' : Vc} (hr : ∀ c, c < n → r c = r' c) : ∀ (cs : List Nat) (φ ψ : List Nat → Rat), (∀ c ∈ cs, c < n) → (∀ l, (∀ c ∈ l, c < n) → φ l = ψ l) → wd r φ cs = wd r' ψ cs
  | [], _, _, _, _ => rfl
  | c :: cs, φ, ψ, hc, hf => by
    show r c * φ cs - wd r (fun l => φ (c :: l)) cs = r' c * ψ cs - wd r' (fun l => ψ (c :: l)) cs
    have h1 := hc c List.mem_cons_self
    have h2 : ∀ d ∈ cs, d < n := fun d hd => hc d (List.mem_cons_of_mem _ hd)
    rw [hr c h1, hf cs h2, wd_ext hr cs (fun l => φ (c :: l)) (fun l => ψ (c :: l)) h2 fun l hl => hf _ fun d hd => ?_]
    rcases List.mem_cons.mp hd with z | z
    · rw [z]; exact h1
    · exact hl d z
theorem DD_ext {n : Nat} {g g' : Nat → Vc} : ∀ k, (∀ i, i < k → ∀ c, c < n → g i c = g' i c) → ∀ cs, (∀ c ∈ cs, c < n) → DD (glr g k) cs = DD (glr g' k) cs
  | 0, _, _, _ => rfl
  | k + 1, h, cs, hc => wd_ext (h k (by omega)) cs _ _ hc fun l hl => DD_ext k (fun i hi => h i (by omega)) l hl
theorem dt_ext {n : Nat} {g g' : Nat → Vc} (h : ∀ i, i < n → ∀ c, c < n → g i c = g' i c) : dt n g = dt n g' := DD_ext n h _ fun c hc => dn_mem hc
theorem dt_un {n : Nat} {g : Nat → Vc} (h : Un1 g n n) : dt n g = 1 := DD_unit n (Nat.le_refl n) h
theorem glr_split (g : Nat → Vc) (k : Nat) : ∀ n, k ≤ n → ∃ top : List Vc, glr g n = top ++ glr g k ∧ top.length = n - k ∧ ∀ r ∈ top, ∃ i, k ≤ i ∧ i < n ∧ r = g i
  | n, h => by
    by_cases e : n = k
    · subst e; exact ⟨[], rfl, by simp, fun r hr => by cases hr⟩
    · cases n with
      | zero => omega
      | succ n =>
        obtain ⟨top, h1, h2, h3⟩ := glr_split g k n (by omega)
        refine ⟨g n :: top, by show g n :: glr g n = _; rw [h1]; rfl, by rw [List.length_cons, h2]; omega, fun r hr => ?_⟩
        rcases List.mem_cons.mp hr with z | z
        · exact ⟨n, by omega, by omega, z⟩
        · obtain ⟨i, a, b, c⟩ := h3 r z; exact ⟨i, a, by omega, c⟩
theorem mm_id {n : Nat} {g : Nat → Vc} {i c : Nat} (hc : c < n) : mm n g idm i c = g i c := by
  unfold mm idm
  rw [sN_congr (g := fun m => if m = c then g i c else 0) n (fun m _ => ?_), sN_one _ n hc]
  by_cases e : m = c
  · rw [if_pos e, if_pos e, e]; grind
  · rw [if_neg e, if_neg e]; grind
theorem id_mm {n : Nat} {g B : Nat → Vc} (h : Un1 g n n) {i : Nat} (hi : i < n) : mm n g B i = B i := by
  funext j
  unfold mm
  rw [sN_congr (g := fun m => if m = i then B i j else 0) n (fun m hm => ?_), sN_one _ n hi]
  rw [h i hi m hm]
  by_cases e : i = m
  · rw [if_pos e, if_pos e.symm, e]; grind
  · rw [if_neg e, if_neg fun z => e z.symm]; grind
theorem sp_sum (B : Nat → Vc) (a : Nat → Rat) (lo : Nat) : ∀ m, Sp1 ((List.range' lo m).map B) (fun j => sN (fun t => a (lo + t) * B (lo + t) j) m)
  | 0 => rfl
  | m + 1 => by
    have app : ∀ (bs : List Vc) (x r : Vc) (c : Rat), Sp1 bs r → Sp1 (bs ++ [x]) (fun j => r j + c * x j) := fun bs => by
      induction bs with
      | nil => intro x r c h; exact ⟨c, fun _ => 0, rfl, funext fun j => by rw [show r = _ from h]; grind⟩
      | cons b bs ih =>
        intro x r c ⟨d, r', h, e⟩
        subst e
        exact ⟨d, _, ih x r' c h, funext fun j => by grind⟩
    rw [List.range'_concat, List.map_append, Nat.one_mul]
    exact app _ _ _ _ (sp_sum B a lo m)
theorem sN_from {f : Nat → Rat} {k : Nat} : ∀ n, k ≤ n → (∀ m, m < k → f m = 0) → sN f n = sN (fun t => f (k + t)) (n - k)
  | n, h, h0 => by
    by_cases e : n = k
    · subst e
      rw [Nat.sub_self, sN_congr (g := fun _ => 0) n h0, sN_zero]; rfl
    · cases n with
      | zero => omega
      | succ n =>
        have ih := sN_from n (by omega) h0
        show sN f n + f n = _
        rw [ih, show n + 1 - k = (n - k) + 1 by omega]
        show _ = sN _ (n - k) + f (k + (n - k))
        rw [show k + (n - k) = n by omega]
theorem none_mm {n k : Nat} {g : Nat → Vc} (hk : k < n) (hu : Un1 g n k) (h0 : ∀ i, k ≤ i → i < n → g i k = 0) (B : Nat → Vc) : dt n (mm n g B) = 0 := by
  obtain ⟨top, e, l, h⟩ := glr_split (mm n g B) k n (by omega)
  unfold dt
  rw [e, DD_app]
  refine WW_few _ ((List.range' (k + 1) (n - (k + 1))).map B) top (fun r hr => ?_) (by rw [List.length_map, List.length_range', l]; omega) _
  obtain ⟨i, a, b, c⟩ := h r hr
  subst c
  have : mm n g B i = fun j => sN (fun t => g i (k + 1 + t) * B (k + 1 + t) j) (n - (k + 1)) := funext fun j => by
    unfold mm
    rw [sN_from (k := k + 1) n (by omega) fun m hm => ?_]
    by_cases e : m = k
    · rw [e, h0 i a b]; grind
    · rw [hu i b m (by omega), if_neg (by omega)]; grind
  rw [this]
  exact sp_sum B (g i) (k + 1) (n - (k + 1))
theorem none_dt {n k : Nat} {g : Nat → Vc} (hk : k < n) (hu : Un1 g n k) (h0 : ∀ i, k ≤ i → i < n → g i k = 0) : dt n g = 0 := by
  rw [← none_mm hk hu h0 idm]
  exact dt_ext fun i _ c hc => (mm_id hc).symm
theorem nxt_dt {n k : Nat} {g : Nat → Vc} (hk : k < n) (hp : g k k ≠ 0) : dt n g = g k k * dt n (nxt g k) := by
  rw [nxt_elm, dt_elm _ _ hk]
  have := Rat.mul_inv_cancel _ hp
  grind
theorem dt_mul {n : Nat} (g B : Nat → Vc) : dt n (mm n g B) = dt n g * dt n B := by
  refine elim_ind (n := n) (P := fun g => dt n (mm n g B) = dt n g * dt n B) (fun g a b ha hb hab h => ?_) (fun g k hk hp h => ?_) (fun g hu => ?_) (fun g k hk hu h0 => ?_) g
  · have e : mm n (swp g a b) B = swp (mm n g B) a b := by
      funext i j
      unfold mm swp
      by_cases z : i = a
      · simp only [if_pos z]
      · by_cases z2 : i = b
        · simp only [if_neg z, if_pos z2]
        · simp only [if_neg z, if_neg z2]
    rw [e, dt_swap ha hb hab, dt_swap ha hb hab] at h
    grind
  · have e : mm n (nxt g k) B = elm (mm n g B) k (g k k)⁻¹ fun i => g i k := by
      funext i j
      unfold mm nxt elm
      by_cases z : i = k
      · simp only [if_pos z]
        rw [← sN_mulL]
        exact sN_congr n fun m _ => by grind
      · simp only [if_neg z]
        rw [← sN_mulL, ← sN_mulL, ← sN_sub]
        exact sN_congr n fun m _ => by grind
    rw [e, nxt_elm, dt_elm _ _ hk, dt_elm _ _ hk] at h
    have := Rat.mul_inv_cancel _ hp
    have h2 : g k k * ((g k k)⁻¹ * dt n (mm n g B)) = g k k * ((g k k)⁻¹ * dt n g * dt n B) := by rw [h]
    grind
  · rw [dt_un hu, dt_ext (g' := B) fun i hi c _ => by rw [id_mm hu hi]]
    grind
  · rw [none_mm hk hu h0, none_dt hk hu h0]; grind
theorem id_un (n : Nat) : Un1 idm n n := fun _ _ _ _ => rfl
theorem dt_row {n k : Nat} (hk : k < n) (r : Vc) : dt n (up idm k r) = r k := by
  have key : ∀ t, t ≤ n → dt n (up idm k fun j => if j < t ∧ j ≠ k then 0 else r j) = dt n (up idm k r) := fun t => by
    induction t with
    | zero =>
      intro _
      have : (fun j => if j < 0 ∧ j ≠ k then (0 : Rat) else r j) = r := funext fun j => by rw [if_neg (by omega)]
      rw [this]
    | succ t ih =>
      intro ht
      rw [← ih (by omega)]
      by_cases z : t = k
      · congr 2
        funext j
        by_cases y : j < t ∧ j ≠ k
        · rw [if_pos y, if_pos (by omega)]
        · rw [if_neg y, if_neg (by omega)]
      · generalize hg : (up idm k fun j => if j < t ∧ j ≠ k then (0 : Rat) else r j) = g
        have := DD_addrow (g := g) (-(r t)) hk (show t < n by omega) (fun e => z e.symm) (dn n)
        unfold dt
        rw [← this]
        congr 2
        funext i j
        subst hg
        unfold up
        by_cases y : i = k
        · rw [if_pos y, if_pos y, if_pos rfl, if_neg z]
          unfold idm
          by_cases x : j = t
          · subst x
            rw [if_pos (show j < j + 1 ∧ j ≠ k from ⟨by omega, z⟩), if_neg (by omega), if_pos rfl]; grind
          · by_cases w : j < t ∧ j ≠ k
            · rw [if_pos w, if_pos (show j < t + 1 ∧ j ≠ k from ⟨by omega, w.2⟩), if_neg (fun e => x e.symm)]; grind
            · rw [if_neg w, if_neg (by omega), if_neg (fun e => x e.symm)]; grind
        · rw [if_neg y, if_neg y, if_neg y]
  rw [← key n (Nat.le_refl n)]
  have e : dt n (up idm k fun j => if j < n ∧ j ≠ k then 0 else r j) = dt n (up idm k fun j => r k * idm k j) := dt_ext fun i hi c hc => by
    unfold up
    by_cases y : i = k
    · rw [if_pos y, if_pos y]
      unfold idm
      by_cases x : c = k
      · rw [if_neg (by omega), if_pos x.symm, x]; grind
      · rw [if_pos ⟨hc, x⟩, if_neg (fun e => x e.symm)]; grind
    · rw [if_neg y, if_neg y]
  rw [e]
  have := DD_scale (g := idm) (r k) hk (dn n)
  unfold dt
  rw [this, DD_unit n (Nat.le_refl n) (id_un n)]
  grind
theorem dt_tr {n : Nat} (g : Nat → Vc) : dt n (tr g) = dt n g := by
  refine elim_ind (n := n) (P := fun g => dt n (tr g) = dt n g) (fun g a b ha hb hab h => ?_) (fun g k hk hp h => ?_) (fun g hu => ?_) (fun g k hk hu h0 => ?_) g
  · have e : dt n (tr (swp g a b)) = dt n (mm n (tr g) (swp idm a b)) := dt_ext fun i hi c hc => by
      unfold tr mm
      have e1 : ∀ (x : Nat), x < n → sN (fun m => g m i * (if m = x then (1 : Rat) else 0)) n = g x i := fun x hx => by
        rw [sN_congr (g := fun m => if m = x then g x i else 0) n (fun m _ => ?_), sN_one _ n hx]
        by_cases z : m = x
        · rw [if_pos z, if_pos z, z]; grind
        · rw [if_neg z, if_neg z]; grind
      have e2 : ∀ m, swp idm a b m c = if m = (if c = a then b else if c = b then a else c) then 1 else 0 := fun m => by
        have s : swp idm a b m c = if (if m = a then b else if m = b then a else m) = c then 1 else 0 := by
          unfold swp idm
          by_cases z : m = a
          · rw [if_pos z, if_pos z]
          · rw [if_neg z, if_neg z]
            by_cases z2 : m = b
            · rw [if_pos z2, if_pos z2]
            · rw [if_neg z2, if_neg z2]
        rw [s]
        by_cases y : (if m = a then b else if m = b then a else m) = c
        · rw [if_pos y, if_pos (by grind)]
        · rw [if_neg y, if_neg (by grind)]
      rw [sN_congr (g := fun m => g m i * (if m = (if c = a then b else if c = b then a else c) then (1 : Rat) else 0)) n (fun m _ => by rw [e2 m]), e1 _ (by split; exact hb; split; exact ha; exact hc)]
      unfold swp
      split
      · rfl
      · split <;> rfl
    rw [e, dt_mul, dt_swap ha hb hab, dt_swap ha hb hab, dt_un (id_un n)] at h
    grind
  · have e : dt n (tr g) = dt n (mm n (tr (nxt g k)) (up idm k fun m => g m k)) := dt_ext fun i hi c hc => by
      unfold tr mm
      have inv := Rat.mul_inv_cancel _ hp
      by_cases z : c = k
      · subst z
        rw [sN_congr (g := fun m => if m = c then g c i else 0) n (fun m hm => ?_), sN_one _ n hc]
        show nxt g c m i * up idm c (fun m => g m c) m c = _
        unfold up nxt idm
        by_cases y : m = c
        · subst y
          rw [if_pos rfl, if_pos rfl, if_pos rfl]; grind
        · rw [if_neg y, if_neg y, if_neg y, if_neg y]; grind
      · rw [sN_congr (g := fun m => (if m = c then nxt g k c i else 0) + (if m = k then nxt g k k i * g c k else 0)) n (fun m hm => ?_), sN_add, sN_one _ n hc, sN_one _ n hk]
        · unfold nxt
          rw [if_neg z, if_pos rfl]
          grind
        · show nxt g k m i * up idm k (fun m => g m k) m c = _
          unfold up idm
          by_cases y : m = k
          · subst y
            rw [if_pos rfl, if_neg (fun e => z e.symm), if_pos rfl]; grind
          · by_cases x : m = c
            · subst x
              rw [if_neg y, if_pos rfl, if_pos rfl, if_neg y]; grind
            · rw [if_neg y, if_neg x, if_neg x, if_neg y]; grind
    rw [e, dt_mul, dt_row hk, h, nxt_dt hk hp]
    grind
  · rw [dt_un hu, dt_un (fun i hi j hj => by show g j i = _; rw [hu j hj i hi]; by_cases z : i = j
                                             · rw [if_pos z, if_pos z.symm]
                                             · rw [if_neg z, if_neg fun e => z e.symm])]
  · rw [none_dt hk hu h0]
    have e : dt n (tr g) = dt n (mm n (tr g) idm) := dt_ext fun i _ c hc => (mm_id hc).symm
    rw [e]
    obtain ⟨top, e, l, h⟩ := glr_split (mm n (tr g) idm) (k + 1) n (by omega)
    unfold dt
    rw [e, DD_app]
    have z : ∀ cs, DD (glr (mm n (tr g) idm) (k + 1)) cs = 0 := fun cs => by
      have ea : DD (glr (mm n (tr g) idm) (k + 1)) cs = WW (glr (mm n (tr g) idm) (k + 1)) (DD []) cs := by
        rw [← DD_app, List.append_nil]
      rw [ea]
      refine WW_few _ ((List.range' 0 k).map idm) _ (fun r hr => ?_) (by rw [List.length_map, List.length_range', glr_len]; omega) _
      obtain ⟨i, hi, e⟩ := glr_mem hr
      subst e
      have : mm n (tr g) idm i = fun j => sN (fun t => g (0 + t) i * idm (0 + t) j) k := funext fun j => by
        unfold mm tr
        have hz : ∀ m, k ≤ m → m < n → g m i = 0 := fun m a b => by
          by_cases x : i = k
          · rw [x]; exact h0 m a b
          · rw [hu m b i (by omega), if_neg (by omega)]
        have cut : ∀ n', k ≤ n' → n' ≤ n → sN (fun m => g m i * idm m j) n' = sN (fun m => g m i * idm m j) k := fun n' => by
          induction n' with
          | zero => intro a _; rw [show k = 0 by omega]
          | succ n' ih =>
            intro a b
            by_cases x : n' + 1 = k
            · rw [x]
            · show sN _ n' + g n' i * idm n' j = _
              rw [ih (by omega) (by omega), hz n' (by omega) (by omega)]; grind
        rw [cut n (by omega) (Nat.le_refl n)]
        exact sN_congr k fun t _ => by rw [Nat.zero_add]
      rw [this]
      exact sp_sum idm (fun t => g t i) 0 k
    have zz : ∀ (ts : List Vc) cs, WW ts (DD (glr (mm n (tr g) idm) (k + 1))) cs = 0 := fun ts => by
      induction ts with
      | nil => exact z
      | cons t ts ih => intro cs; show wd t (WW ts _) cs = 0; rw [wd_congr (ψ := fun _ => 0) ih, wd_zero]
    exact zz top _
theorem cl_det {n m B : Nat} (hB : 1 ≤ B) : ∀ (r : Nat) (rows : Rw) (sg bf : Int) (g : Nat → Vc), r ≤ n → Gd n m (n - r) B rows bf g → (((clL n r rows sg bf).1 : Int) : Rat) = ((sg * bf : Int) : Rat) * dt n g
  | 0, rows, sg, bf, g, _, h => by
    have hu := h.el.un
    rw [Nat.sub_zero] at hu
    rw [dt_un hu]
    show ((sg * bf : Int) : Rat) = _
    grind
  | r + 1, rows, sg, bf, g, hr, h => by
    have hk : n - (r + 1) < n := by omega
    have e1 : n - (r + 1) + 1 = n - r := by omega
    unfold clL
    generalize n - (r + 1) = k at *
    cases e : fwN rows k with
    | none =>
      rw [none_dt hk h.el.un fun i hi hin => by
        have z := fwN_none e hi (by rw [h.len]; exact hin)
        have := h.eq i hin k
        rw [z] at this
        have h0 := h.el.d0
        have : (bf : Rat) * g i k = 0 := by rw [← this]; rfl
        rcases Rat.mul_eq_zero.mp this with y | y
        · exact absurd y h0
        · exact y]
      show ((0 : Int) : Rat) = _
      grind
    | some f =>
      obtain ⟨f1, f2, f3⟩ := fwN_some e
      rw [h.len] at f2
      dsimp only
      by_cases z : f = k
      · rw [if_pos z]
        subst z
        have hp := h.pivot hk f3
        have hs := h.step hB hk f3
        rw [e1] at hs
        rw [cl_det hB r _ sg _ _ (by omega) hs, nxt_dt hk hp]
        have := h.eq f hk f
        push_cast
        rw [this]
        grind
      · rw [if_neg z]
        have h' := h.swap f1 f2 hk
        have f3' : ent2 (exF rows f k) k k ≠ 0 := by
          unfold ent2
          rw [exF_get (by rw [h.len]; exact f2) (by rw [h.len]; exact hk), if_pos rfl]
          exact f3
        have hp := h'.pivot hk f3'
        have hs := h'.step hB hk f3'
        rw [e1] at hs
        rw [cl_det hB r _ (-sg) _ _ (by omega) hs]
        have h2 := nxt_dt hk hp
        rw [dt_swap hk f2 (fun e => z e.symm)] at h2
        have := h'.eq k hk k
        push_cast
        rw [this]
        have h3 : dt n g = -(swp g k f k k * dt n (nxt (swp g k f) k)) := by rw [← h2]; grind
        rw [h3]
        grind
end EP

namespace EP
def bt (u j : Nat) : Bool := decide (u / 2 ^ j % 2 = 1)
def cna (n : Nat) (p : Nat → Bool) (j : Nat) : Nat := ((List.range' (j + 1) (n - (j + 1))).filter p).length
def sgn (k : Nat) : Rat := if k % 2 = 1 then -1 else 1
def pc (n u : Nat) : Nat := ((dn n).filter (bt u)).length
def dv (n : Nat) (g : Nat → Vc) (r u : Nat) : Rat := DD (glr g r) ((dn n).filter (bt u))
def tm (n : Nat) (g : Nat → Vc) (r u j : Nat) : Rat := sgn (cna n (bt u) j) * (g r j * dv n g r u)
def tS (F : Nat → Rat) : List Nat → Rat
  | [] => 0
  | u :: us => F u + tS F us
def cnd (u j M : Nat) : Bool := !bt u j && decide (u + 2 ^ j = M)
def S1 (n : Nat) (g : Nat → Vc) (r M u : Nat) (k : Nat) : Rat := sN (fun j => if cnd u j M = true then tm n g r u j else 0) k
def ofR (x : Rat) : Fr := fr x.num x.den
theorem ofR_low (x : Rat) : Low (ofR x) := fr_lowP (by have := x.den_nz; omega)
theorem ofR_val (x : Rat) : val (ofR x) = x := by
  unfold ofR
  rw [val_fr (by have := x.den_nz; omega)]
  exact Rat.num_divInt_den x
theorem ofR_eq {u : Fr} {x : Rat} (h : Low u) (e : val u = x) : u = ofR x := val_inj h (ofR_low x) (by rw [ofR_val, e])
def pL (L : Nat → Rat) : Nat → Rat
  | 0 => 1
  | k + 1 => L k * pL L k
theorem DD_rows (L : Nat → Rat) (g : Nat → Vc) : ∀ k cs, DD (glr (fun i j => L i * g i j) k) cs = pL L k * DD (glr g k) cs
  | 0, cs => by show DD [] cs = 1 * DD [] cs; grind
  | k + 1, cs => by
    show wd (fun j => L k * g k j) (DD (glr (fun i j => L i * g i j) k)) cs = L k * pL L k * wd (g k) (DD (glr g k)) cs
    rw [wd_mulR, wd_congr (fun l => DD_rows L g k l), wd_mul]
    grind
theorem dt_rows (L : Nat → Rat) (g : Nat → Vc) (n : Nat) : dt n (fun i j => L i * g i j) = pL L n * dt n g := DD_rows L g n _
end EP

namespace EP
def szR (T : Tb) : Rw := T.map fun r => (oob r).1
def botF (T : Tb) : Int := T.foldl (fun b r => b * lcmB r) 1
def Lr (T : Tb) (i : Nat) : Rat := (lcmB (T.getD i []) : Rat)
theorem bot_val (T : Tb) : ∀ k, k ≤ T.length → ((botF (T.take k) : Int) : Rat) = pL (Lr T) k
  | 0, _ => rfl
  | k + 1, h => by
    have hg : T[k]? = some T[k] := List.getElem?_eq_getElem (by omega)
    have e : T.take (k + 1) = T.take k ++ [T[k]] := by rw [List.take_succ, hg]; rfl
    have e2 : T.getD k [] = T[k] := by rw [List.getD_eq_getElem?_getD, hg]; rfl
    unfold botF
    rw [e, List.foldl_append]
    show ((botF (T.take k) * lcmB T[k] : Int) : Rat) = Lr T k * pL (Lr T) k
    rw [← bot_val T k (by omega)]
    unfold Lr
    rw [e2]
    push_cast
    grind
theorem bot_pos {n : Nat} {T : Tb} (h : Sq n T) : ∀ k, k ≤ T.length → 1 ≤ botF (T.take k)
  | 0, _ => Int.le_refl 1
  | k + 1, hk => by
    have hg : T[k]? = some T[k] := List.getElem?_eq_getElem (by omega)
    have e : T.take (k + 1) = T.take k ++ [T[k]] := by rw [List.take_succ, hg]; rfl
    unfold botF
    rw [e, List.foldl_append]
    show 1 ≤ botF (T.take k) * lcmB T[k]
    have h1 := bot_pos h k (by omega)
    have h2 := lcmB_pos fun u hu => (h.low T[k] (List.getElem_mem _) u hu).1
    have : 1 * 1 ≤ botF (T.take k) * lcmB T[k] := Int.mul_le_mul h1 h2 (by decide) (by omega)
    omega
theorem Lr_pos {n : Nat} {T : Tb} (h : Sq n T) : ∀ k, k ≤ n → pL (Lr T) k ≠ 0 := fun k hk z => by
  rw [← bot_val T k (by rw [h.len]; exact hk)] at z
  have := bot_pos h k (by rw [h.len]; exact hk)
  have : botF (T.take k) = 0 := cast_inj (by rw [z]; rfl)
  omega
theorem bak_dt {n b : Nat} {T : Tb} (h : Bk n b T) : bakF T = none ↔ dt n (Tf T) = 0 := by
  have e : (((clF (rows0 T n)).1 : Int) : Rat) = pL (Lr T) n * dt n (Tf T) := by
    have g' : Gd n (n + n) (n - n) (2 ^ b) (rows0 T n) 1 (fun i j => ((ent2 (rows0 T n) i j : Int) : Rat)) := by rw [Nat.sub_self]; exact gd0 h
    have := cl_det (Nat.two_pow_pos b) n (rows0 T n) 1 1 _ (Nat.le_refl n) g'
    unfold clF
    rw [rows0_len, this, ← dt_rows, dt_ext (g' := fun i j => Lr T i * Tf T i j) fun i hi c hc => (ent0_val h hi).1 c hc]
    show (1 : Rat) * _ = _
    grind
  have p0 := Lr_pos h.sq n (Nat.le_refl n)
  unfold bakF
  rw [h.sq.len]
  constructor
  · intro hb
    by_cases z : (clF (rows0 T n)).1 = 0
    · rw [z] at e
      have : pL (Lr T) n * dt n (Tf T) = 0 := by rw [← e]; rfl
      rcases Rat.mul_eq_zero.mp this with y | y
      · exact absurd y p0
      · exact y
    · rw [if_neg z] at hb; cases hb
  · intro hd
    rw [if_pos]
    exact cast_inj (by rw [e, hd]; show _ * (0 : Rat) = 0; grind)
end EP

namespace EP
def rl (σ : Nat → Nat) (r : Vc) : Vc := fun j => r (σ j)
theorem wd_rl (σ : Nat → Nat) (r : Vc) : ∀ (cs : List Nat) (φ : List Nat → Rat), wd (rl σ r) (fun l => φ (l.map σ)) cs = wd r φ (cs.map σ)
  | [], _ => rfl
  | c :: cs, φ => by
    show r (σ c) * φ (cs.map σ) - wd (rl σ r) (fun l => φ (σ c :: l.map σ)) cs = r (σ c) * φ (cs.map σ) - wd r (fun l => φ (σ c :: l)) (cs.map σ)
    rw [← wd_rl σ r cs (fun l => φ (σ c :: l))]
theorem DD_rl (σ : Nat → Nat) : ∀ (rs : List Vc) (cs : List Nat), DD (rs.map (rl σ)) cs = DD rs (cs.map σ)
  | [], [] => rfl
  | [], _ :: _ => rfl
  | r :: rs, cs => by
    show wd (rl σ r) (DD (rs.map (rl σ))) cs = wd r (DD rs) (cs.map σ)
    rw [wd_congr (fun l => DD_rl σ rs l), wd_rl]
theorem glr_map (L : Vc → Vc) (g : Nat → Vc) : ∀ k, glr (fun i => L (g i)) k = (glr g k).map L
  | 0 => rfl
  | k + 1 => by show L (g k) :: glr (fun i => L (g i)) k = L (g k) :: (glr g k).map L; rw [glr_map L g k]
theorem El.cols {n k B : Nat} {g : Nat → Vc} {d : Rat} (h : El n k B g d) (σ : Nat → Nat) (hs : ∀ j, j < k → σ j = j) : El n k B (fun i => rl σ (g i)) d := by
  refine ⟨h.kn, h.d0, fun i hi j hj => ?_, ?_, fun i hi hin => ?_⟩
  · show g i (σ j) = _
    rw [hs j hj]; exact h.un i hi j hj
  · obtain ⟨rs, hl, hB, e⟩ := h.om
    refine ⟨rs.map (rl σ), by rw [List.length_map]; exact hl, fun r hr => ?_, fun cs => ?_⟩
    · obtain ⟨q, hq, e⟩ := List.mem_map.mp hr
      subst e
      exact fun j => hB q hq (σ j)
    · rw [DD_rl, glr_map, DD_rl, e]
  · obtain ⟨ρ, h1, h2⟩ := h.bk i hi hin
    refine ⟨rl σ ρ, fun j => h1 (σ j), fun cs => ?_⟩
    rw [glr_map, wd_congr (fun l => DD_rl σ (glr g k) l), wd_congr (r := rl σ (g i)) (fun l => DD_rl σ (glr g k) l), wd_rl, wd_rl, h2]
def ca (i j : Nat) (r : Vc) : Vc := fun c => if c = i then r i + r j else r c
def La (i j : Nat) : (List Nat → Rat) → List Nat → Rat
  | φ, [] => φ []
  | φ, c :: cs => La i j (fun l => φ (c :: l)) cs + if c = i then La i j (fun l => φ (j :: l)) cs else 0
theorem La_lin (i j : Nat) (a : Rat) : ∀ (cs : List Nat) (φ ψ : List Nat → Rat), La i j (fun l => a * φ l - ψ l) cs = a * La i j φ cs - La i j ψ cs
  | [], _, _ => rfl
  | c :: cs, φ, ψ => by
    show La i j (fun l => a * φ (c :: l) - ψ (c :: l)) cs + (if c = i then La i j (fun l => a * φ (j :: l) - ψ (j :: l)) cs else 0) = a * (La i j (fun l => φ (c :: l)) cs + if c = i then La i j (fun l => φ (j :: l)) cs else 0) - (La i j (fun l => ψ (c :: l)) cs + if c = i then La i j (fun l => ψ (j :: l)) cs else 0)
    rw [La_lin i j a cs, La_lin i j a cs]
    split <;> grind
theorem La_zero (i j : Nat) (cs : List Nat) : La i j (fun _ => 0) cs = 0 := by
  have := La_lin i j 0 cs (fun _ => 0) (fun _ => 0)
  have e : (fun _ : List Nat => (0 : Rat) * 0 - 0) = fun _ => 0 := funext fun _ => by grind
  rw [e] at this
  grind
theorem La_congr {i j : Nat} {φ ψ : List Nat → Rat} (h : ∀ l, φ l = ψ l) (cs : List Nat) : La i j φ cs = La i j ψ cs := by rw [show φ = ψ from funext h]
theorem wd_ca (i j : Nat) (r : Vc) : ∀ (cs : List Nat) (φ : List Nat → Rat), wd (ca i j r) (fun l => La i j φ l) cs = La i j (fun l => wd r φ l) cs
  | [], _ => rfl
  | c :: cs, φ => by
    have e1 : (fun l => La i j φ (c :: l)) = fun l => La i j (fun l => φ (c :: l)) l + (if c = i then 1 else 0) * La i j (fun l => φ (j :: l)) l := funext fun l => by
      show La i j (fun l => φ (c :: l)) l + (if c = i then La i j (fun l => φ (j :: l)) l else 0) = _
      split <;> grind
    show ca i j r c * La i j φ cs - wd (ca i j r) (fun l => La i j φ (c :: l)) cs = La i j (fun l => r c * φ l - wd r (fun m => φ (c :: m)) l) cs + if c = i then La i j (fun l => r j * φ l - wd r (fun m => φ (j :: m)) l) cs else 0
    rw [e1, wd_add, wd_mul, wd_ca i j r cs, wd_ca i j r cs, La_lin, La_lin]
    unfold ca
    split
    · rename_i h; subst h; grind
    · grind
theorem DD_ca (i j : Nat) : ∀ (rs : List Vc) (cs : List Nat), DD (rs.map (ca i j)) cs = La i j (DD rs) cs
  | [], [] => rfl
  | [], c :: cs => by
    show (0 : Rat) = La i j (fun l => DD [] (c :: l)) cs + if c = i then La i j (fun l => DD [] (j :: l)) cs else 0
    have e : ∀ d : Nat, La i j (fun l => DD [] (d :: l)) cs = 0 := fun d => La_zero i j cs
    rw [e, e]
    split <;> grind
  | r :: rs, cs => by
    show wd (ca i j r) (DD (rs.map (ca i j))) cs = La i j (fun l => wd r (DD rs) l) cs
    rw [wd_congr (fun l => DD_ca i j rs l), wd_ca]
theorem VB.mono {B C : Nat} {r : Vc} (h : VB B r) (l : B ≤ C) : VB C r := fun j => (h j).mono l
theorem VB.ca {B i j : Nat} {r : Vc} (h : VB B r) : VB (2 * B) (ca i j r) := fun c => by
  unfold EP.ca
  split
  · obtain ⟨x, e1, h1⟩ := h i
    obtain ⟨y, e2, h2⟩ := h j
    exact ⟨x + y, by rw [e1, e2]; push_cast; rfl, by omega⟩
  · exact (h c).mono (by omega)
theorem El.add {n k B : Nat} {g : Nat → Vc} {d : Rat} (h : El n k B g d) {i j : Nat} (hi : k ≤ i) : El n k (2 * B) (fun a => ca i j (g a)) d := by
  refine ⟨h.kn, h.d0, fun a ha c hc => ?_, ?_, fun a ha han => ?_⟩
  · show (if c = i then _ else g a c) = _
    rw [if_neg (by omega)]; exact h.un a ha c hc
  · obtain ⟨rs, hl, hB, e⟩ := h.om
    refine ⟨rs.map (ca i j), by rw [List.length_map]; exact hl, fun r hr => ?_, fun cs => ?_⟩
    · obtain ⟨q, hq, e⟩ := List.mem_map.mp hr
      subst e
      exact (hB q hq).ca
    · rw [DD_ca, glr_map, DD_ca, La_congr e]
      have := La_lin i j d cs (DD (glr g k)) (fun _ => 0)
      rw [La_zero] at this
      have e0 : (fun l => d * DD (glr g k) l - 0) = fun l => d * DD (glr g k) l := funext fun l => by grind
      rw [e0] at this
      rw [this]
      grind
  · obtain ⟨ρ, h1, h2⟩ := h.bk a ha han
    refine ⟨ca i j ρ, h1.ca, fun cs => ?_⟩
    rw [glr_map, wd_congr (fun l => DD_ca i j (glr g k) l), wd_congr (r := ca i j (g a)) (fun l => DD_ca i j (glr g k) l), wd_ca, wd_ca, La_congr h2]
theorem El.combo {n k B C : Nat} {g : Nat → Vc} {d : Rat} (h : El n k B g d) {a b : Nat} (ha : k ≤ a) (han : a < n) (hb : k ≤ b) (hbn : b < n) {x y : Int} (hx : x.natAbs ≤ C) (hy : y.natAbs ≤ C) (hC : 1 ≤ C) : El n k (2 * (C * B)) (up g a fun c => (x : Rat) * g a c + (y : Rat) * g b c) d := by
  have hBB : B ≤ 2 * (C * B) := by
    have : 1 * B ≤ C * B := Nat.mul_le_mul_right B hC
    omega
  have hg : glr (up g a fun c => (x : Rat) * g a c + (y : Rat) * g b c) k = glr g k := glr_congr k fun i hi => by unfold up; rw [if_neg (by omega)]
  refine ⟨h.kn, h.d0, fun i hi j hj => ?_, ?_, fun i hi hin => ?_⟩
  · unfold up
    by_cases e : i = a
    · rw [if_pos e, h.un a han j hj, h.un b hbn j hj, if_neg (by omega), if_neg (by omega), if_neg (by omega)]; grind
    · rw [if_neg e]; exact h.un i hi j hj
  · obtain ⟨rs, hl, hB, e⟩ := h.om
    exact ⟨rs, hl, fun r hr => (hB r hr).mono hBB, fun cs => by rw [hg]; exact e cs⟩
  · rw [hg]
    unfold up
    by_cases e : i = a
    · obtain ⟨ρ, h1, h2⟩ := h.bk a ha han
      obtain ⟨τ, h3, h4⟩ := h.bk b hb hbn
      refine ⟨fun c => (x : Rat) * ρ c + (y : Rat) * τ c, fun c => ?_, fun cs => ?_⟩
      · obtain ⟨p, e1, l1⟩ := h1 c
        obtain ⟨q, e2, l2⟩ := h3 c
        refine ⟨x * p + y * q, by show (x : Rat) * ρ c + (y : Rat) * τ c = _; rw [e1, e2]; push_cast; rfl, ?_⟩
        have z1 : (x * p).natAbs ≤ C * B := by rw [Int.natAbs_mul]; exact Nat.mul_le_mul hx l1
        have z2 : (y * q).natAbs ≤ C * B := by rw [Int.natAbs_mul]; exact Nat.mul_le_mul hy l2
        omega
      · rw [if_pos e, wd_addR, wd_mulR, wd_mulR, wd_addR, wd_mulR, wd_mulR, h2, h4]
    · rw [if_neg e]
      obtain ⟨ρ, h1, h2⟩ := h.bk i hi hin
      exact ⟨ρ, h1.mono hBB, h2⟩
end EP

namespace EP
def bl (n : Nat) (F : Nat → Nat → Rat) (x y : Vc) : Rat := sN (fun a => x a * sN (fun b => F a b * y b) n) n
theorem bl_addL (n : Nat) (F : Nat → Nat → Rat) (x y z : Vc) (c : Rat) : bl n F (fun j => x j + c * y j) z = bl n F x z + c * bl n F y z := by
  unfold bl
  rw [← sN_mulL, ← sN_add]
  exact sN_congr n fun a _ => by grind
theorem bl_sym {n : Nat} {F : Nat → Nat → Rat} (hF : ∀ a, a < n → ∀ b, b < n → F a b = F b a) (x y : Vc) : bl n F x y = bl n F y x := by
  unfold bl
  rw [sN_congr (g := fun a => sN (fun b => x a * (F a b * y b)) n) n (fun a _ => by rw [← sN_mulL]), sN_swap]
  refine sN_congr n fun b hb => ?_
  rw [← sN_mulL]
  exact sN_congr n fun a ha => by rw [hF a ha b hb]; grind
theorem bl_addR {n : Nat} {F : Nat → Nat → Rat} (hF : ∀ a, a < n → ∀ b, b < n → F a b = F b a) (x y z : Vc) (c : Rat) : bl n F z (fun j => x j + c * y j) = bl n F z x + c * bl n F z y := by
  rw [bl_sym hF, bl_addL, bl_sym hF x, bl_sym hF y]
structure Up (n k B : Nat) (R : Nat → Nat → Int) (bo dv : Nat → Int) (bf : Int) (F : Nat → Nat → Rat) (S : Nat → Vc) : Prop where
  el : ∃ g, El n k B g (bf : Rat) ∧ ∀ i, k ≤ i → i < n → ∀ j, ((R i j : Int) : Rat) = (bf : Rat) * g i j
  lo : ∀ i, k ≤ i → i < n → (∀ j, j < n → ((R i j : Int) : Rat) = (bf : Rat) * bo i * bl n F (S i) (S j)) ∧ ∀ m, m < n → ((R i (n + m) : Int) : Rat) = (bf : Rat) * bo i * S i m
  dd : ∀ i, i < k → dv i ≠ 0 ∧ ((R i i : Int) : Rat) = (dv i : Rat) * bl n F (S i) (S i) ∧ bl n F (S i) (S i) ≠ 0 ∧ ∀ m, m < n → ((R i (n + m) : Int) : Rat) = (dv i : Rat) * S i m
  og : ∀ i, i < k → ∀ j, j < n → j ≠ i → bl n F (S i) (S j) = 0
  ds : dt n S ≠ 0
  bp : ∀ i, k ≤ i → i < n → 1 ≤ bo i
def Wa (R : Nat → Nat → Int) (i j a c : Nat) : Int := if c = i then R a i + R a j else R a c
theorem Up.add {n k B C : Nat} {R R' : Nat → Nat → Int} {bo dv : Nat → Int} {bf : Int} {F : Nat → Nat → Rat} {S : Nat → Vc} (h : Up n k B R bo dv bf F S) (hF : ∀ a, a < n → ∀ b, b < n → F a b = F b a) {i j : Nat} (hi : k ≤ i) (hin : i < n) (hj : k ≤ j) (hjn : j < n) (hij : i ≠ j)
    (hC : 1 ≤ C) (hx : (bo i).natAbs ≤ C) (hy : (bo j).natAbs ≤ C) (h1 : ∀ a c, a < n → a ≠ i → R' a c = Wa R i j a c) (h2 : ∀ c, R' i c = Wa R i j i c * bo j + Wa R i j j c * bo i) :
    Up n k (2 * (C * (2 * B))) R' (fun a => if a = i then bo i * bo j else bo a) dv bf F (up S i fun c => S i c + 1 * S j c) := by
  obtain ⟨g, el, eq⟩ := h.el
  have S' : ∀ a, a ≠ i → up S i (fun c => S i c + 1 * S j c) a = S a := fun a ha => by unfold up; rw [if_neg ha]
  have Si : up S i (fun c => S i c + 1 * S j c) i = fun c => S i c + 1 * S j c := by unfold up; rw [if_pos rfl]
  have eW : ∀ a, k ≤ a → a < n → ∀ c, ((Wa R i j a c : Int) : Rat) = (bf : Rat) * ca i j (g a) c := fun a ha han c => by
    unfold Wa ca
    split
    · push_cast; rw [eq a ha han i, eq a ha han j]; grind
    · exact eq a ha han c
  have lW : ∀ a, k ≤ a → a < n → (∀ c, c < n → ((Wa R i j a c : Int) : Rat) = (bf : Rat) * bo a * bl n F (S a) (up S i (fun c => S i c + 1 * S j c) c)) ∧ ∀ m, m < n → ((Wa R i j a (n + m) : Int) : Rat) = (bf : Rat) * bo a * S a m := fun a ha han => by
    obtain ⟨l1, l2⟩ := h.lo a ha han
    refine ⟨fun c hc => ?_, fun m hm => ?_⟩
    · unfold Wa
      by_cases e : c = i
      · subst e
        rw [if_pos rfl, Si, bl_addR hF]
        push_cast
        rw [l1 c hin, l1 j hjn]
        grind
      · rw [if_neg e, S' c e]; exact l1 c hc
    · unfold Wa
      rw [if_neg (by omega)]; exact l2 m hm
  refine ⟨⟨_, (el.add (j := j) hi).combo hi hin hj hjn hy hx hC, fun a ha han c => ?_⟩, fun a ha han => ?_, fun a ha => ?_, fun a ha b hb hab => ?_, ?_, fun a ha han => ?_⟩
  · unfold up
    by_cases e : a = i
    · subst e
      rw [if_pos rfl, h2 c]
      push_cast
      rw [eW a ha han c, eW j hj hjn c]
      grind
    · rw [if_neg e, h1 a c han e]; exact eW a ha han c
  · by_cases e : a = i
    · subst e
      obtain ⟨l1, l2⟩ := lW a ha han
      obtain ⟨l3, l4⟩ := lW j hj hjn
      rw [Si]
      refine ⟨fun c hc => ?_, fun m hm => ?_⟩
      · rw [h2 c, if_pos rfl, bl_addL]
        push_cast
        rw [l1 c hc, l3 c hc]
        grind
      · rw [h2 (n + m), if_pos rfl]
        push_cast
        rw [l2 m hm, l4 m hm]
        grind
    · obtain ⟨l1, l2⟩ := lW a ha han
      rw [S' a e]
      refine ⟨fun c hc => ?_, fun m hm => ?_⟩
      · rw [h1 a c han e, if_neg e]; exact l1 c hc
      · rw [h1 a (n + m) han e, if_neg e]; exact l2 m hm
  · obtain ⟨d1, d2, d3, d4⟩ := h.dd a ha
    rw [S' a (by omega)]
    refine ⟨d1, ?_, d3, fun m hm => ?_⟩
    · rw [h1 a a (by omega) (by omega)]
      unfold Wa
      rw [if_neg (by omega)]; exact d2
    · rw [h1 a (n + m) (by omega) (by omega)]
      unfold Wa
      rw [if_neg (by omega)]; exact d4 m hm
  · rw [S' a (by omega)]
    by_cases e : b = i
    · subst e
      rw [Si, bl_addR hF, h.og a ha b hb hab, h.og a ha j hjn (by omega)]; grind
    · rw [S' b e]; exact h.og a ha b hb hab
  · have := DD_addrow (g := S) (1 : Rat) hin hjn hij (dn n)
    show DD (glr _ n) (dn n) ≠ 0
    rw [this]; exact h.ds
  · show 1 ≤ if a = i then bo i * bo j else bo a
    split
    · have : 1 * 1 ≤ bo i * bo j := Int.mul_le_mul (h.bp i hi hin) (h.bp j hj hjn) (by decide) (by have := h.bp i hi hin; omega)
      omega
    · exact h.bp a ha han
def sw (a b i : Nat) : Nat := if i = a then b else if i = b then a else i
theorem swp_sw (g : Nat → Vc) (a b i : Nat) : swp g a b i = g (sw a b i) := by
  unfold swp sw
  split
  · rfl
  · split <;> rfl
theorem Up.swap {n k B : Nat} {R R' : Nat → Nat → Int} {bo dv : Nat → Int} {bf : Int} {F : Nat → Nat → Rat} {S : Nat → Vc} (h : Up n k B R bo dv bf F S) {f : Nat} (hf : k ≤ f) (hfn : f < n) (hkn : k < n) (h1 : ∀ a c, a < n → R' a c = R (sw k f a) (sw k f c)) :
    Up n k B R' (fun a => bo (sw k f a)) dv bf F (fun a => S (sw k f a)) := by
  obtain ⟨g, el, eq⟩ := h.el
  have s1 : ∀ a, k ≤ a → a < n → k ≤ sw k f a ∧ sw k f a < n := fun a ha han => by
    unfold sw
    split
    · omega
    · split <;> omega
  have s2 : ∀ a, a < k → sw k f a = a := fun a ha => by unfold sw; rw [if_neg (by omega), if_neg (by omega)]
  have s3 : ∀ m, n ≤ m → sw k f m = m := fun a ha => by unfold sw; rw [if_neg (by omega), if_neg (by omega)]
  have s4 : ∀ a, a < n → sw k f a < n := fun a han => by
    unfold sw
    split
    · omega
    · split <;> omega
  have s5 : ∀ a, sw k f (sw k f a) = a := fun a => by unfold sw; grind
  refine ⟨⟨fun a => rl (sw k f) (swp g k f a), (el.swap (Nat.le_refl k) hf hkn hfn).cols (sw k f) s2, fun a ha han c => ?_⟩, fun a ha han => ?_, fun a ha => ?_, fun a ha b hb hab => ?_, ?_, fun a ha han => ?_⟩
  · obtain ⟨t1, t2⟩ := s1 a ha han
    rw [h1 a c han, eq _ t1 t2]
    show _ = (bf : Rat) * swp g k f a (sw k f c)
    rw [swp_sw]
  · obtain ⟨t1, t2⟩ := s1 a ha han
    obtain ⟨l1, l2⟩ := h.lo _ t1 t2
    refine ⟨fun c hc => ?_, fun m hm => ?_⟩
    · rw [h1 a c han]; exact l1 _ (s4 c hc)
    · rw [h1 a (n + m) han, s3 (n + m) (by omega)]; exact l2 m hm
  · obtain ⟨d1, d2, d3, d4⟩ := h.dd a ha
    rw [s2 a ha]
    refine ⟨d1, ?_, d3, fun m hm => ?_⟩
    · rw [h1 a a (by omega), s2 a ha]; exact d2
    · rw [h1 a (n + m) (by omega), s2 a ha, s3 (n + m) (by omega)]; exact d4 m hm
  · rw [s2 a ha]
    exact h.og a ha _ (s4 b hb) fun z => hab (by rw [← s5 b, z, s2 a ha])
  · have e : (fun a => S (sw k f a)) = swp S k f := funext fun a => (swp_sw S k f a).symm
    rw [e]
    by_cases z : k = f
    · subst z
      have : swp S k k = S := funext fun a => by rw [swp_sw]; congr 1; unfold sw; split <;> omega
      rw [this]; exact h.ds
    · rw [dt_swap hkn hfn z]
      intro w
      exact h.ds (by grind)
  · obtain ⟨t1, t2⟩ := s1 a ha han
    exact h.bp _ t1 t2

theorem Up.elim {n k B : Nat} {R R' : Nat → Nat → Int} {bo dv : Nat → Int} {bf : Int} {F : Nat → Nat → Rat} {S : Nat → Vc} (hB : 1 ≤ B) (h : Up n k B R bo dv bf F S) (hF : ∀ a, a < n → ∀ b, b < n → F a b = F b a) (hkn : k < n) (h0 : R k k ≠ 0) (h1 : ∀ a c, a ≤ k → R' a c = R a c)
    (h2 : ∀ a c, k < a → a < n → R' a c = (R k k * R a c - R a k * R k c).fdiv bf) :
    Up n (k + 1) B R' bo (fun a => if a = k then bf * bo k else dv a) (R k k) F (elm S k 1 fun i => if i ≤ k then 0 else bl n F (S i) (S k) * (bl n F (S k) (S k))⁻¹) := by
  obtain ⟨g, el, eq⟩ := h.el
  obtain ⟨l1, l2⟩ := h.lo k (Nat.le_refl k) hkn
  have bf0 : bf ≠ 0 := fun z => el.d0 (by rw [z]; rfl)
  have bk1 := h.bp k (Nat.le_refl k) hkn
  have G0 : bl n F (S k) (S k) ≠ 0 := fun z => h0 (cast_inj (by rw [l1 k hkn, z]; show _ * (0 : Rat) = 0; grind))
  have g0 : g k k ≠ 0 := fun z => h0 (cast_inj (by rw [eq k (Nat.le_refl k) hkn k, z]; show (bf : Rat) * 0 = 0; grind))
  have Gi := Rat.mul_inv_cancel _ G0
  have gi := Rat.inv_mul_cancel _ g0
  have el' := el.step hkn g0
  have ek := eq k (Nat.le_refl k) hkn
  rw [← ek k] at el'
  have dv2 : ∀ a c, k < a → a < n → ((R' a c : Int) : Rat) = (R k k : Rat) * nxt g k a c ∧ (bf : Rat) * (R' a c : Int) = (R k k : Rat) * R a c - (R a k : Rat) * R k c := fun a c ha han => by
    obtain ⟨z, ez, _⟩ := el'.all hB han c
    have ea := eq a (by omega) han
    have key : ((R k k * R a c - R a k * R k c : Int) : Rat) = ((bf * z : Int) : Rat) := by
      push_cast
      rw [← ez, ek k, ea c, ea k, ek c]
      unfold nxt
      rw [if_neg (by omega)]
      have : (bf : Rat) * (bf * g k k * (g a c - g a k * ((g k k)⁻¹ * g k c))) = bf * bf * (g k k * g a c - g a k * g k c * ((g k k)⁻¹ * g k k)) := by grind
      rw [this, gi]
      grind
    have hR : R' a c = z := by rw [h2 a c ha han, cast_inj key, Int.mul_fdiv_cancel_left _ bf0]
    refine ⟨by rw [hR, ← ez], ?_⟩
    rw [hR]
    have := key
    push_cast at this
    rw [← this]
  generalize hc : (fun i => if i ≤ k then (0 : Rat) else bl n F (S i) (S k) * (bl n F (S k) (S k))⁻¹) = c at *
  have Sk : ∀ a, a ≤ k → elm S k 1 c a = S a := fun a ha => by
    unfold elm
    by_cases e : a = k
    · subst e; rw [if_pos rfl]; exact funext fun j => by grind
    · have c0 : c a = 0 := by
        rw [← hc]
        show (if a ≤ k then (0 : Rat) else _) = 0
        rw [if_pos ha]
      rw [if_neg e]
      funext j
      rw [c0]; grind
  have Sa : ∀ a, k < a → elm S k 1 c a = fun j => S a j + (-(c a)) * S k j := fun a ha => by
    unfold elm
    rw [if_neg (by omega)]
    exact funext fun j => by grind
  have ca' : ∀ a, k < a → c a * bl n F (S k) (S k) = bl n F (S a) (S k) := fun a ha => by
    rw [← hc]
    show (if a ≤ k then (0 : Rat) else bl n F (S a) (S k) * (bl n F (S k) (S k))⁻¹) * _ = _
    rw [if_neg (by omega)]
    grind
  have blk : ∀ x a, k < a → bl n F x (elm S k 1 c a) = bl n F x (S a) - c a * bl n F x (S k) := fun x a ha => by rw [Sa a ha, bl_addR hF]; grind
  have blk2 : ∀ x a, k < a → bl n F (elm S k 1 c a) x = bl n F (S a) x - c a * bl n F (S k) x := fun x a ha => by rw [Sa a ha, bl_addL]; grind
  have bz : ∀ a, k < a → bl n F (S k) (elm S k 1 c a) = 0 := fun a ha => by rw [blk _ a ha, ca' a ha, bl_sym hF (S a)]; grind
  have og' : ∀ i, i < k + 1 → ∀ j, j < n → j ≠ i → bl n F (elm S k 1 c i) (elm S k 1 c j) = 0 := fun i hi j hj hij => by
    rw [Sk i (by omega)]
    by_cases e : i = k
    · subst e
      by_cases z : j < i
      · rw [Sk j (by omega), bl_sym hF]; exact h.og j z i hkn (by omega)
      · exact bz j (by omega)
    · by_cases z : j ≤ k
      · rw [Sk j z]; exact h.og i (by omega) j hj hij
      · rw [blk _ j (by omega), h.og i (by omega) j hj hij, h.og i (by omega) k hkn (by omega)]; grind
  refine ⟨⟨nxt g k, el', fun a ha han j => (dv2 a j (by omega) han).1⟩, fun a ha han => ?_, fun a ha => ?_, og', ?_, fun a ha han => h.bp a (by omega) han⟩
  · obtain ⟨m1, m2⟩ := h.lo a (by omega) han
    have b0 : (bf : Rat) ≠ 0 := el.d0
    have canc : ∀ x y : Rat, (bf : Rat) * x = bf * y → x = y := fun x y e => by
      have := Rat.inv_mul_cancel _ b0
      have h3 : (bf : Rat)⁻¹ * (bf * x) = (bf : Rat)⁻¹ * (bf * y) := by rw [e]
      grind
    refine ⟨fun j hj => canc _ _ ?_, fun m hm => canc _ _ ?_⟩
    · rw [(dv2 a j (by omega) han).2, m1 j hj, m1 k hkn, l1 j hj, l1 k hkn]
      have e1 : bl n F (elm S k 1 c a) (elm S k 1 c j) = bl n F (S a) (S j) - c a * bl n F (S k) (S j) := by
        by_cases z : j ≤ k
        · rw [Sk j z, blk2 _ a (by omega)]
        · rw [blk _ j (by omega), blk2 _ a (by omega), blk2 _ a (by omega), ← ca' a (by omega)]; grind
      rw [e1, ← ca' a (by omega)]
      grind
    · rw [(dv2 a (n + m) (by omega) han).2, m2 m hm, m1 k hkn, l2 m hm, l1 k hkn, Sa a (by omega), ← ca' a (by omega)]
      grind
  · rw [Sk a (by omega)]
    by_cases e : a = k
    · subst e
      refine ⟨?_, ?_, G0, fun m hm => ?_⟩
      · rw [if_pos rfl]; exact Int.mul_ne_zero bf0 (by omega)
      · rw [if_pos rfl, h1 a a (Nat.le_refl a), l1 a hkn]; push_cast; rfl
      · rw [if_pos rfl, h1 a (n + m) (Nat.le_refl a), l2 m hm]; push_cast; rfl
    · obtain ⟨d1, d2, d3, d4⟩ := h.dd a (by omega)
      rw [if_neg e]
      exact ⟨d1, by rw [h1 a a (by omega)]; exact d2, d3, fun m hm => by rw [h1 a (n + m) (by omega)]; exact d4 m hm⟩
  · rw [dt_elm _ _ hkn]
    intro w
    exact h.ds (by grind)
end EP

namespace EP
def wsF (i j : Nat) (row : List Int) : List Int := row.set i (row.getD i 0 + row.getD j 0)
def adR (rows : Rw) (bo : List Int) (i j : Nat) : List Int := (((rows.map (wsF i j)).getD i []).zip ((rows.map (wsF i j)).getD j [])).map fun p => p.1 * bo.getD j 0 + p.2 * bo.getD i 0
def adF (rows : Rw) (bo : List Int) (i j : Nat) : Rw := (rows.map (wsF i j)).set i (adR rows bo i j)
def adB (bo : List Int) (i j : Nat) : List Int := (List.range bo.length).map fun k => if k = i then bo.getD i 0 * bo.getD j 0 else bo.getD k 0
def exL (row : List Int) (i j : Nat) : List Int := (row.set i (row.getD j 0)).set j (row.getD i 0)
def uxF (rows : Rw) (i j : Nat) : Rw := (exF rows i j).map fun row => exL row i j
def slF (rows : Rw) (k : Nat) (bf : Int) : Rw := (List.range rows.length).map fun i => if i ≤ k then rows.getD i [] else crF (rows.getD i []) (rows.getD k []) k bf
def npF (rows : Rw) (k : Nat) : Option (Nat × Nat) :=
  match (List.range' k (rows.length - k)).find? fun j => !decide (ent2 rows j j = 0) with
  | some j => some (j, j)
  | none => (List.range' k (rows.length - k)).findSome? fun i => ((List.range' (i + 1) (rows.length - (i + 1))).find? fun j => !decide (ent2 rows i j = 0)).map fun j => (i, j)
def tuL (n : Nat) : Nat → Rw → List Int → List Int → Int → Rw × List Int
  | 0, rows, _, dv, _ => (rows, dv)
  | m + 1, rows, bo, dv, bf => match npF rows (n - (m + 1)) with
    | none => (rows, dv ++ (bo.drop (n - (m + 1))).map fun x => bf * x)
    | some (i, j) => tuL n m (slF (uxF (if i = j then rows else adF rows bo i j) (n - (m + 1)) i) (n - (m + 1)) bf) (exL (if i = j then bo else adB bo i j) (n - (m + 1)) i) (dv ++ [bf * (exL (if i = j then bo else adB bo i j) (n - (m + 1)) i).getD (n - (m + 1)) 0]) (ent2 (uxF (if i = j then rows else adF rows bo i j) (n - (m + 1)) i) (n - (m + 1)) (n - (m + 1)))
theorem getD_set0 {l : List Int} {i c : Nat} {v : Int} (h : i < l.length) : (l.set i v).getD c 0 = if c = i then v else l.getD c 0 := by
  rw [List.getD_eq_getElem?_getD, List.getD_eq_getElem?_getD, List.getElem?_set]
  by_cases e : i = c
  · subst e; rw [if_pos rfl, if_pos h, if_pos rfl]; rfl
  · rw [if_neg e, if_neg fun z => e z.symm]
theorem ws_get {row : List Int} {i j c : Nat} (h : i < row.length) : (wsF i j row).getD c 0 = if c = i then row.getD i 0 + row.getD j 0 else row.getD c 0 := by
  unfold wsF; rw [getD_set0 h]
theorem ws_len (i j : Nat) (row : List Int) : (wsF i j row).length = row.length := by unfold wsF; rw [List.length_set]
theorem exL_len (row : List Int) (i j : Nat) : (exL row i j).length = row.length := by unfold exL; rw [List.length_set, List.length_set]
theorem exL_get {row : List Int} {i j c : Nat} (hi : i < row.length) (hj : j < row.length) : (exL row i j).getD c 0 = row.getD (sw i j c) 0 := by
  unfold exL sw
  rw [getD_set0 (by rw [List.length_set]; exact hj), getD_set0 hi]
  by_cases e : c = j
  · by_cases e2 : c = i
    · rw [if_pos e, if_pos e2]
      have : i = j := by omega
      subst this; rfl
    · rw [if_pos e, if_neg e2, if_pos e]
  · by_cases e2 : c = i
    · rw [if_neg e, if_pos e2, if_pos e2]
    · rw [if_neg e, if_neg e2, if_neg e2, if_neg e]
theorem map_get {rows : Rw} {f : List Int → List Int} {a : Nat} (h : a < rows.length) : (rows.map f).getD a [] = f (rows.getD a []) := getD_map (e := []) h
structure Rc (n m : Nat) (rows : Rw) : Prop where
  len : rows.length = n
  rl : ∀ i, i < n → (rows.getD i []).length = m
theorem Rc.out {n m : Nat} {rows : Rw} (h : Rc n m rows) {a c : Nat} (ha : a < n) (hc : m ≤ c) : ent2 rows a c = 0 := getD_out (by rw [h.rl a ha]; exact hc)
theorem ws_ent {n m : Nat} {rows : Rw} (h : Rc n m rows) {i j a c : Nat} (hi : i < m) (ha : a < n) : ((rows.map (wsF i j)).getD a []).getD c 0 = Wa (ent2 rows) i j a c := by
  rw [map_get (by rw [h.len]; exact ha), ws_get (by rw [h.rl a ha]; exact hi)]
  rfl
theorem ad_row {n m : Nat} {rows : Rw} (h : Rc n m rows) {bo : List Int} {i j : Nat} (hi : i < m) (hin : i < n) (hjn : j < n) (hj : j < m) : (adR rows bo i j).length = m ∧ ∀ c, (adR rows bo i j).getD c 0 = Wa (ent2 rows) i j i c * bo.getD j 0 + Wa (ent2 rows) i j j c * bo.getD i 0 := by
  have li : ((rows.map (wsF i j)).getD i []).length = m := by rw [map_get (by rw [h.len]; exact hin), ws_len, h.rl i hin]
  have lj : ((rows.map (wsF i j)).getD j []).length = m := by rw [map_get (by rw [h.len]; exact hjn), ws_len, h.rl j hjn]
  have l : (adR rows bo i j).length = m := by unfold adR; rw [List.length_map, List.length_zip, li, lj, Nat.min_self]
  refine ⟨l, fun c => ?_⟩
  by_cases hc : c < m
  · rw [← ws_ent h hi hin, ← ws_ent h hi hjn]
    unfold adR
    generalize (rows.map (wsF i j)).getD i [] = x at *
    generalize (rows.map (wsF i j)).getD j [] = y at *
    rw [List.getD_eq_getElem?_getD, List.getElem?_map, (List.getElem?_zip_eq_some (z := (x[c]'(by omega), y[c]'(by omega)))).mpr ⟨List.getElem?_eq_getElem (by omega), List.getElem?_eq_getElem (by omega)⟩]
    rw [List.getD_eq_getElem?_getD (l := x), List.getElem?_eq_getElem (by omega), List.getD_eq_getElem?_getD (l := y), List.getElem?_eq_getElem (by omega)]
    rfl
  · rw [getD_out (by omega)]
    have z : ∀ a, a < n → Wa (ent2 rows) i j a c = 0 := fun a ha => by
      unfold Wa
      rw [if_neg (by omega)]; exact h.out ha (by omega)
    rw [z i hin, z j hjn]; simp
theorem ad_rc {n m : Nat} {rows : Rw} (h : Rc n m rows) {bo : List Int} {i j : Nat} (hi : i < m) (hin : i < n) (hjn : j < n) (hj : j < m) : Rc n m (adF rows bo i j) := by
  refine ⟨by unfold adF; rw [List.length_set, List.length_map, h.len], fun a ha => ?_⟩
  unfold adF
  rw [getD_setR (by rw [List.length_map, h.len]; exact hin)]
  split
  · exact (ad_row h hi hin hjn hj).1
  · rw [map_get (by rw [h.len]; exact ha), ws_len, h.rl a ha]
theorem ad_ent {n m : Nat} {rows : Rw} (h : Rc n m rows) {bo : List Int} {i j : Nat} (hi : i < m) (hin : i < n) (hjn : j < n) (hj : j < m) : (∀ a c, a < n → a ≠ i → ent2 (adF rows bo i j) a c = Wa (ent2 rows) i j a c) ∧ ∀ c, ent2 (adF rows bo i j) i c = Wa (ent2 rows) i j i c * bo.getD j 0 + Wa (ent2 rows) i j j c * bo.getD i 0 := by
  refine ⟨fun a c ha hai => ?_, fun c => ?_⟩
  · rw [← ws_ent h hi ha]
    unfold ent2 adF
    rw [getD_setR (by rw [List.length_map, h.len]; exact hin), if_neg hai]
  · rw [← (ad_row (bo := bo) h hi hin hjn hj).2 c]
    unfold ent2 adF
    rw [getD_setR (by rw [List.length_map, h.len]; exact hin), if_pos rfl]
theorem ux_rc {n m : Nat} {rows : Rw} (h : Rc n m rows) {i j : Nat} (hi : i < n) (hj : j < n) : Rc n m (uxF rows i j) := by
  refine ⟨by unfold uxF; rw [List.length_map, exF_len, h.len], fun a ha => ?_⟩
  unfold uxF
  rw [map_get (by rw [exF_len, h.len]; exact ha), exL_len, exF_get (by rw [h.len]; exact hi) (by rw [h.len]; exact hj)]
  split
  · exact h.rl i hi
  · split
    · exact h.rl j hj
    · exact h.rl a ha
theorem ux_ent {n m : Nat} {rows : Rw} (h : Rc n m rows) (hnm : n ≤ m) {i j : Nat} (hi : i < n) (hj : j < n) (a c : Nat) (ha : a < n) : ent2 (uxF rows i j) a c = ent2 rows (sw i j a) (sw i j c) := by
  have hs : sw i j a < n := by
    unfold sw
    split
    · exact hj
    · split
      · exact hi
      · exact ha
  have e : (exF rows i j).getD a [] = rows.getD (sw i j a) [] := by
    rw [exF_get (by rw [h.len]; exact hi) (by rw [h.len]; exact hj)]
    unfold sw
    by_cases e1 : a = j
    · by_cases e2 : a = i
      · rw [if_pos e1, if_pos e2]
        have : i = j := by omega
        subst this; rfl
      · rw [if_pos e1, if_neg e2, if_pos e1]
    · by_cases e2 : a = i
      · rw [if_neg e1, if_pos e2, if_pos e2]
      · rw [if_neg e1, if_neg e2, if_neg e2, if_neg e1]
  unfold uxF ent2
  rw [map_get (by rw [exF_len, h.len]; exact ha), e]
  exact exL_get (by rw [h.rl _ hs]; omega) (by rw [h.rl _ hs]; omega)
theorem sl_get {rows : Rw} {k i : Nat} {bf : Int} (hi : i < rows.length) : (slF rows k bf).getD i [] = if i ≤ k then rows.getD i [] else crF (rows.getD i []) (rows.getD k []) k bf := by
  unfold slF
  rw [List.getD_eq_getElem?_getD, List.getElem?_map, List.getElem?_range hi]
  rfl
theorem sl_rc {n m : Nat} {rows : Rw} (h : Rc n m rows) {k : Nat} (hk : k < n) (bf : Int) : Rc n m (slF rows k bf) := by
  refine ⟨by unfold slF; rw [List.length_map, List.length_range, h.len], fun a ha => ?_⟩
  rw [sl_get (by rw [h.len]; exact ha)]
  split
  · exact h.rl a ha
  · exact crF_len (h.rl a ha) (h.rl k hk)
theorem sl_ent {n m : Nat} {rows : Rw} (h : Rc n m rows) {k : Nat} (hk : k < n) (bf : Int) : (∀ a c, a < n → a ≤ k → ent2 (slF rows k bf) a c = ent2 rows a c) ∧ ∀ a c, k < a → a < n → ent2 (slF rows k bf) a c = (ent2 rows k k * ent2 rows a c - ent2 rows a k * ent2 rows k c).fdiv bf := by
  refine ⟨fun a c ha hak => ?_, fun a c hka ha => ?_⟩
  · unfold ent2
    rw [sl_get (by rw [h.len]; exact ha), if_pos hak]
  · by_cases hc : c < m
    · unfold ent2
      rw [sl_get (by rw [h.len]; exact ha), if_neg (by omega), crF_get (by rw [h.rl a ha]; exact hc) (by rw [h.rl k hk]; exact hc)]
    · rw [h.out (c := c) ha (by omega), h.out (c := c) hk (by omega), (sl_rc h hk bf).out ha (by omega)]
      simp
theorem np_some {n m : Nat} {rows : Rw} (h : Rc n m rows) {k i j : Nat} (e : npF rows k = some (i, j)) : k ≤ i ∧ i ≤ j ∧ j < n ∧ ent2 rows i j ≠ 0 ∧ (i ≠ j → ∀ a, k ≤ a → a < n → ent2 rows a a = 0) := by
  unfold npF at e
  rw [h.len] at e
  split at e
  · rename_i x hx
    have h1 := List.mem_of_find?_eq_some hx
    have h2 := List.find?_some hx
    rw [List.mem_range'_1] at h1
    cases e
    exact ⟨h1.1, Nat.le_refl _, by omega, by simpa using h2, fun z => absurd rfl z⟩
  · rename_i hx
    obtain ⟨i', h3, h4⟩ := List.exists_of_findSome?_eq_some e
    rw [List.mem_range'_1] at h3
    obtain ⟨j', h5, h6⟩ := Option.map_eq_some_iff.mp h4
    cases h6
    have h7 := List.mem_of_find?_eq_some h5
    have h8 := List.find?_some h5
    rw [List.mem_range'_1] at h7
    refine ⟨h3.1, by omega, by omega, by simpa using h8, fun _ a ha han => ?_⟩
    have := List.find?_eq_none.mp hx a (List.mem_range'_1.mpr ⟨ha, by omega⟩)
    simpa using this
theorem np_none {n m : Nat} {rows : Rw} (h : Rc n m rows) {k : Nat} (e : npF rows k = none) : ∀ i j, k ≤ i → i ≤ j → j < n → ent2 rows i j = 0 := fun i j hi hij hj => by
  unfold npF at e
  rw [h.len] at e
  split at e
  · cases e
  · rename_i hx
    by_cases z : i = j
    · subst z
      have := List.find?_eq_none.mp hx i (List.mem_range'_1.mpr ⟨hi, by omega⟩)
      simpa using this
    · have h1 := List.findSome?_eq_none_iff.mp e i (List.mem_range'_1.mpr ⟨hi, by omega⟩)
      rw [Option.map_eq_none_iff] at h1
      have := List.find?_eq_none.mp h1 j (List.mem_range'_1.mpr ⟨by omega, by omega⟩)
      simpa using this
end EP

namespace EP
theorem El.mono {n k B C : Nat} {g : Nat → Vc} {d : Rat} (h : El n k B g d) (l : B ≤ C) : El n k C g d := by
  obtain ⟨rs, h1, h2, h3⟩ := h.om
  refine ⟨h.kn, h.d0, h.un, ⟨rs, h1, fun r hr => (h2 r hr).mono l, h3⟩, fun i hi hin => ?_⟩
  obtain ⟨ρ, a, b⟩ := h.bk i hi hin
  exact ⟨ρ, a.mono l, b⟩
theorem Up.congr {n k B C : Nat} {R R' : Nat → Nat → Int} {bo bo' dv dv' : Nat → Int} {bf : Int} {F : Nat → Nat → Rat} {S : Nat → Vc} (h : Up n k B R bo dv bf F S) (hB : B ≤ C) (hR : ∀ a c, a < n → R' a c = R a c) (hb : ∀ a, k ≤ a → a < n → bo' a = bo a) (hd : ∀ a, a < k → dv' a = dv a) : Up n k C R' bo' dv' bf F S := by
  obtain ⟨g, el, eq⟩ := h.el
  have hkn := el.kn
  refine ⟨⟨g, el.mono hB, fun i hi hin j => by rw [hR i j hin]; exact eq i hi hin j⟩, fun i hi hin => ?_, fun i hi => ?_, h.og, h.ds, fun i hi hin => by rw [hb i hi hin]; exact h.bp i hi hin⟩
  · obtain ⟨l1, l2⟩ := h.lo i hi hin
    exact ⟨fun j hj => by rw [hR i j hin, hb i hi hin]; exact l1 j hj, fun m hm => by rw [hR i (n + m) hin, hb i hi hin]; exact l2 m hm⟩
  · obtain ⟨d1, d2, d3, d4⟩ := h.dd i hi
    rw [hd i hi]
    exact ⟨d1, by rw [hR i i (by omega)]; exact d2, d3, fun m hm => by rw [hR i (n + m) (by omega)]; exact d4 m hm⟩
def Bu (b k : Nat) : Nat := 2 ^ (b + (b + 2) * k)
theorem Bu_succ (b k : Nat) : Bu b (k + 1) = 2 * (2 ^ b * (2 * Bu b k)) := by
  unfold Bu
  rw [show b + (b + 2) * (k + 1) = 1 + b + 1 + (b + (b + 2) * k) by rw [Nat.mul_add]; omega, Nat.pow_add, Nat.pow_add, Nat.pow_add]
  grind
theorem Bu_mono (b k : Nat) : Bu b k ≤ Bu b (k + 1) := by
  rw [Bu_succ]
  have : 1 * Bu b k ≤ 2 ^ b * Bu b k := Nat.mul_le_mul_right _ (Nat.two_pow_pos b)
  have e : 2 ^ b * (2 * Bu b k) = 2 * (2 ^ b * Bu b k) := by grind
  omega
structure Ul (n b k : Nat) (rows : Rw) (bo dv : List Int) (bf : Int) (F : Nat → Nat → Rat) (S : Nat → Vc) : Prop where
  rc : Rc n (n + n) rows
  bl : bo.length = n
  dl : dv.length = k
  up : Up n k (Bu b k) (ent2 rows) (fun i => bo.getD i 0) (fun i => dv.getD i 0) bf F S
  bb : ∀ i, k ≤ i → i < n → (bo.getD i 0).natAbs ≤ 2 ^ b
theorem adB_get {bo : List Int} {i j k : Nat} (hk : k < bo.length) : (adB bo i j).getD k 0 = if k = i then bo.getD i 0 * bo.getD j 0 else bo.getD k 0 := by
  unfold adB
  rw [List.getD_eq_getElem?_getD, List.getElem?_map, List.getElem?_range hk]; rfl
theorem adB_len (bo : List Int) (i j : Nat) : (adB bo i j).length = bo.length := by unfold adB; rw [List.length_map, List.length_range]
def r2 (rows : Rw) (bo : List Int) (i j : Nat) : Rw := if i = j then rows else adF rows bo i j
def b2 (bo : List Int) (i j : Nat) : List Int := if i = j then bo else adB bo i j
theorem sw_self (k i : Nat) : sw k i k = i := by unfold sw; rw [if_pos rfl]
def s1F (S : Nat → Vc) (i j : Nat) : Nat → Vc := if i = j then S else up S i fun c => S i c + 1 * S j c
def s2F (S : Nat → Vc) (k i j : Nat) : Nat → Vc := fun a => s1F S i j (sw k i a)
def stS (n : Nat) (F : Nat → Nat → Rat) (S : Nat → Vc) (k i j : Nat) : Nat → Vc := elm (s2F S k i j) k 1 fun a => if a ≤ k then 0 else bl n F (s2F S k i j a) (s2F S k i j k) * (bl n F (s2F S k i j k) (s2F S k i j k))⁻¹
theorem Ul.mid {n b k : Nat} {rows : Rw} {bo dv : List Int} {bf : Int} {F : Nat → Nat → Rat} {S : Nat → Vc} (h : Ul n b k rows bo dv bf F S) (hF : ∀ a, a < n → ∀ b, b < n → F a b = F b a) (hk : k < n) {i j : Nat} (e : npF rows k = some (i, j)) :
    ent2 (uxF (r2 rows bo i j) k i) k k ≠ 0 ∧ Up n k (Bu b (k + 1)) (ent2 (uxF (r2 rows bo i j) k i)) (fun a => (exL (b2 bo i j) k i).getD a 0) (fun a => dv.getD a 0) bf F (s2F S k i j) ∧ Ul n b (k + 1) (slF (uxF (r2 rows bo i j) k i) k bf) (exL (b2 bo i j) k i) (dv ++ [bf * (exL (b2 bo i j) k i).getD k 0]) (ent2 (uxF (r2 rows bo i j) k i) k k) F (stS n F S k i j) := by
  obtain ⟨n1, n2, n3, n4, n5⟩ := np_some h.rc e
  have hin : i < n := by omega
  have bl := h.bl
  -- the sum
  have st : Rc n (n + n) (r2 rows bo i j) ∧ (b2 bo i j).length = n ∧ Up n k (Bu b (k + 1)) (ent2 (r2 rows bo i j)) (fun a => (b2 bo i j).getD a 0) (fun a => dv.getD a 0) bf F (s1F S i j) ∧ ent2 (r2 rows bo i j) i i ≠ 0 ∧ ∀ a, k ≤ a → a < n → a ≠ i → (b2 bo i j).getD a 0 = bo.getD a 0 := by
    by_cases z : i = j
    · unfold r2 b2 s1F
      rw [if_pos z, if_pos z, if_pos z]
      refine ⟨h.rc, bl, h.up.congr (Bu_mono b k) (fun _ _ _ => rfl) (fun _ _ _ => rfl) (fun _ _ => rfl), ?_, fun _ _ _ _ => rfl⟩
      rw [← z] at n4; exact n4
    · unfold r2 b2 s1F
      rw [if_neg z, if_neg z, if_neg z]
      obtain ⟨e1, e2⟩ := ad_ent (bo := bo) h.rc (i := i) (j := j) (by omega) hin n3 (by omega)
      have up1 := h.up.add (C := 2 ^ b) (R' := ent2 (adF rows bo i j)) hF n1 hin (by omega) n3 z (Nat.two_pow_pos b) (h.bb i n1 hin) (h.bb j (by omega) n3) e1 e2
      rw [← Bu_succ] at up1
      refine ⟨ad_rc h.rc (by omega) hin n3 (by omega), by rw [adB_len]; exact bl, up1.congr (Nat.le_refl _) (fun _ _ _ => rfl) (fun a _ han => adB_get (by rw [bl]; exact han)) (fun _ _ => rfl), ?_, fun a _ han hai => by rw [adB_get (by rw [bl]; exact han), if_neg hai]⟩
      have bf0 : (bf : Rat) ≠ 0 := by obtain ⟨g, el, _⟩ := h.up.el; exact el.d0
      have b0 : ∀ a, k ≤ a → a < n → ((bo.getD a 0 : Int) : Rat) ≠ 0 := fun a ha han w => by
        have := h.up.bp a ha han
        have : bo.getD a 0 = 0 := cast_inj (by rw [w]; rfl)
        omega
      have gz : ∀ a, k ≤ a → a < n → EP.bl n F (S a) (S a) = 0 := fun a ha han => by
        have l := (h.up.lo a ha han).1 a han
        rw [n5 z a ha han] at l
        have l' : (bf : Rat) * (bo.getD a 0 : Int) * EP.bl n F (S a) (S a) = 0 := by rw [← l]; rfl
        rcases Rat.mul_eq_zero.mp l' with y | y
        · rcases Rat.mul_eq_zero.mp y with y | y
          · exact absurd y bf0
          · exact absurd y (b0 a ha han)
        · exact y
      have gij : EP.bl n F (S i) (S j) ≠ 0 := fun w => n4 (cast_inj (by rw [(h.up.lo i n1 hin).1 j n3, w]; show _ * (0 : Rat) = 0; grind))
      intro w
      have l := (up1.lo i n1 hin).1 i hin
      rw [w, if_pos rfl] at l
      have Si : EP.up S i (fun c => S i c + 1 * S j c) i = fun c => S i c + 1 * S j c := by unfold EP.up; rw [if_pos rfl]
      rw [Si, bl_addL, bl_addR hF, bl_addR hF, gz i n1 hin, gz j (by omega) n3, bl_sym hF (S j)] at l
      have l' : (bf : Rat) * ((bo.getD i 0 * bo.getD j 0 : Int) : Rat) * (2 * EP.bl n F (S i) (S j)) = 0 := by
        have l2 : (0 : Rat) = _ := l
        rw [show (2 : Rat) * EP.bl n F (S i) (S j) = 0 + 1 * EP.bl n F (S i) (S j) + 1 * (EP.bl n F (S i) (S j) + 1 * 0) by grind]
        exact l2.symm
      push_cast at l'
      rcases Rat.mul_eq_zero.mp l' with y | y
      · rcases Rat.mul_eq_zero.mp y with y | y
        · exact bf0 y
        · rcases Rat.mul_eq_zero.mp y with y | y
          · exact b0 i n1 hin y
          · exact b0 j (by omega) n3 y
      · rcases Rat.mul_eq_zero.mp y with y | y
        · exact absurd y (by decide)
        · exact gij y
  unfold stS s2F
  obtain ⟨rc1, bl1, up1, p1, bb1⟩ := st
  generalize s1F S i j = S1 at *
  generalize r2 rows bo i j = rows1 at *
  generalize b2 bo i j = bo1 at *
  have rc2 := ux_rc rc1 hk hin
  have up2 := up1.swap (R' := ent2 (uxF rows1 k i)) n1 hin hk (fun a c ha => ux_ent rc1 (by omega) hk hin a c ha)
  have p2 : ent2 (uxF rows1 k i) k k ≠ 0 := by rw [ux_ent rc1 (by omega) hk hin k k hk, sw_self]; exact p1
  have eb : ∀ a, (exL bo1 k i).getD a 0 = bo1.getD (sw k i a) 0 := fun a => exL_get (by omega) (by omega)
  refine ⟨p2, up2.congr (Nat.le_refl _) (fun _ _ _ => rfl) (fun a _ _ => eb a) (fun _ _ => rfl), ?_⟩
  obtain ⟨s1, s2⟩ := sl_ent rc2 hk bf
  have hBu : 1 ≤ Bu b (k + 1) := Nat.two_pow_pos _
  have up3 := up2.elim (R' := ent2 (slF (uxF rows1 k i) k bf)) hBu hF hk p2 (fun a c ha => s1 a c (by omega) ha) s2
  refine ⟨sl_rc rc2 hk bf, by rw [exL_len]; exact bl1, by rw [List.length_append, h.dl]; rfl, up3.congr (Nat.le_refl _) (fun _ _ _ => rfl) (fun a _ _ => eb a) (fun a ha => ?_), fun a ha han => ?_⟩
  · by_cases w : a = k
    · subst w
      rw [if_pos rfl, List.getD_eq_getElem?_getD, List.getElem?_append_right (by rw [h.dl]; exact Nat.le_refl _), h.dl, Nat.sub_self]
      show bf * (exL bo1 a i).getD a 0 = _
      rw [eb a]
    · rw [if_neg w, List.getD_eq_getElem?_getD, List.getElem?_append_left (by rw [h.dl]; omega)]
      rfl
  · rw [eb a]
    by_cases w : a = i
    · subst w
      have : sw k a a = k := by unfold sw; rw [if_neg (by omega), if_pos rfl]
      rw [this]
      by_cases v : k = a
      · omega
      · rw [bb1 k (Nat.le_refl k) hk v]; exact h.bb k (Nat.le_refl k) hk
    · have : sw k i a = a := by unfold sw; rw [if_neg (by omega), if_neg w]
      rw [this, bb1 a (by omega) han w]; exact h.bb a (by omega) han
theorem Ul.step {n b k : Nat} {rows : Rw} {bo dv : List Int} {bf : Int} {F : Nat → Nat → Rat} {S : Nat → Vc} (h : Ul n b k rows bo dv bf F S) (hF : ∀ a, a < n → ∀ b, b < n → F a b = F b a) (hk : k < n) {i j : Nat} (e : npF rows k = some (i, j)) :
    ent2 (uxF (r2 rows bo i j) k i) k k ≠ 0 ∧ ∃ S', Ul n b (k + 1) (slF (uxF (r2 rows bo i j) k i) k bf) (exL (b2 bo i j) k i) (dv ++ [bf * (exL (b2 bo i j) k i).getD k 0]) (ent2 (uxF (r2 rows bo i j) k i) k k) F S' :=
  let ⟨a, _, c⟩ := h.mid hF hk e
  ⟨a, _, c⟩
structure Ud (n : Nat) (F : Nat → Nat → Rat) (rows : Rw) (dv : List Int) (S : Nat → Vc) : Prop where
  rc : Rc n (n + n) rows
  dl : dv.length = n
  dd : ∀ i, i < n → dv.getD i 0 ≠ 0 ∧ ((ent2 rows i i : Int) : Rat) = (dv.getD i 0 : Rat) * bl n F (S i) (S i) ∧ ∀ m, m < n → ((ent2 rows i (n + m) : Int) : Rat) = (dv.getD i 0 : Rat) * S i m
  og : ∀ i, i < n → ∀ j, j < n → j ≠ i → bl n F (S i) (S j) = 0
  ds : dt n S ≠ 0
  zz : ∃ k, ∀ i, i < n → (bl n F (S i) (S i) = 0 ↔ k ≤ i)
theorem Ul.finN {n b k : Nat} {rows : Rw} {bo dv : List Int} {bf : Int} {F : Nat → Nat → Rat} {S : Nat → Vc} (hF : ∀ a, a < n → ∀ b, b < n → F a b = F b a) (h : Ul n b k rows bo dv bf F S) (hk : k < n) (e : npF rows k = none) : Ud n F rows (dv ++ (bo.drop k).map fun x => bf * x) S := by
  have z0 := np_none h.rc e
  have bf0 : bf ≠ 0 := by obtain ⟨g, el, _⟩ := h.up.el; exact fun z => el.d0 (by rw [z]; rfl)
  have bfr : (bf : Rat) ≠ 0 := fun z => bf0 (cast_inj (by rw [z]; rfl))
  have gz : ∀ i j, k ≤ i → i ≤ j → j < n → EP.bl n F (S i) (S j) = 0 := fun i j hi hij hj => by
    have l := (h.up.lo i hi (by omega)).1 j hj
    rw [z0 i j hi hij hj] at l
    have bp := h.up.bp i hi (by omega)
    have l' : (bf : Rat) * (bo.getD i 0 : Int) * EP.bl n F (S i) (S j) = 0 := by rw [← l]; rfl
    rcases Rat.mul_eq_zero.mp l' with y | y
    · rcases Rat.mul_eq_zero.mp y with y | y
      · exact absurd y bfr
      · have : bo.getD i 0 = 0 := cast_inj (by rw [y]; rfl)
        omega
    · exact y
  have gd : ∀ i, (dv ++ (bo.drop k).map fun x => bf * x).getD i 0 = if i < k then dv.getD i 0 else if i < n then bf * bo.getD i 0 else 0 := fun i => by
    by_cases w : i < k
    · rw [if_pos w, List.getD_eq_getElem?_getD, List.getElem?_append_left (by rw [h.dl]; exact w)]; rfl
    · rw [if_neg w, List.getD_eq_getElem?_getD, List.getElem?_append_right (by rw [h.dl]; omega), h.dl, List.getElem?_map, List.getElem?_drop, show k + (i - k) = i by omega]
      by_cases v : i < n
      · rw [if_pos v, List.getElem?_eq_getElem (by rw [h.bl]; exact v), List.getD_eq_getElem?_getD, List.getElem?_eq_getElem (by rw [h.bl]; exact v)]; rfl
      · rw [if_neg v, List.getElem?_eq_none (by rw [h.bl]; omega)]; rfl
  refine ⟨h.rc, by rw [List.length_append, List.length_map, List.length_drop, h.dl, h.bl]; omega, fun i hi => ?_, fun i hi j hj hij => ?_, h.up.ds, k, fun i hi => ?_⟩
  · rw [gd i]
    by_cases w : i < k
    · obtain ⟨d1, d2, d3, d4⟩ := h.up.dd i w
      rw [if_pos w]; exact ⟨d1, d2, d4⟩
    · rw [if_neg w, if_pos hi]
      obtain ⟨l1, l2⟩ := h.up.lo i (by omega) hi
      have bp := h.up.bp i (by omega) hi
      refine ⟨Int.mul_ne_zero bf0 (by omega), ?_, fun q hq => ?_⟩
      · rw [l1 i hi]; push_cast; rfl
      · rw [l2 q hq]; push_cast; rfl
  · by_cases w : i < k
    · exact h.up.og i w j hj hij
    · by_cases v : j < k
      · rw [bl_sym hF]; exact h.up.og j v i hi (fun z => hij z.symm)
      · rcases Nat.le_total i j with y | y
        · exact gz i j (by omega) y hj
        · rw [bl_sym hF]; exact gz j i (by omega) y hi
  · constructor
    · intro z
      rcases Nat.lt_or_ge i k with w | w
      · exact absurd z (h.up.dd i w).2.2.1
      · exact w
    · intro w
      exact gz i i w (Nat.le_refl i) hi
theorem Ul.fin0 {n b : Nat} {rows : Rw} {bo dv : List Int} {bf : Int} {F : Nat → Nat → Rat} {S : Nat → Vc} (h : Ul n b n rows bo dv bf F S) : Ud n F rows dv S := by
  refine ⟨h.rc, h.dl, fun i hi => ?_, fun i hi j hj hij => h.up.og i hi j hj hij, h.up.ds, n, fun i hi => ⟨fun z => absurd z (h.up.dd i hi).2.2.1, fun z => by omega⟩⟩
  obtain ⟨d1, d2, d3, d4⟩ := h.up.dd i hi
  exact ⟨d1, d2, d4⟩
theorem tu_end {n b : Nat} {F : Nat → Nat → Rat} (hF : ∀ a, a < n → ∀ b, b < n → F a b = F b a) : ∀ (m : Nat) (rows : Rw) (bo dv : List Int) (bf : Int) (S : Nat → Vc), m ≤ n → Ul n b (n - m) rows bo dv bf F S → ∃ S', Ud n F (tuL n m rows bo dv bf).1 (tuL n m rows bo dv bf).2 S'
  | 0, rows, bo, dv, bf, S, _, h => by
    rw [Nat.sub_zero] at h
    exact ⟨S, h.fin0⟩
  | m + 1, rows, bo, dv, bf, S, hm, h => by
    have hk : n - (m + 1) < n := by omega
    have e1 : n - (m + 1) + 1 = n - m := by omega
    unfold tuL
    generalize n - (m + 1) = k at *
    cases e : npF rows k with
    | none => exact ⟨S, h.finN hF hk e⟩
    | some p =>
      obtain ⟨i, j⟩ := p
      obtain ⟨_, S', h'⟩ := h.step hF hk e
      rw [e1] at h'
      exact tu_end hF m _ _ _ _ S' (by omega) h'
end EP

namespace EP
def bots0 (T : Tb) (n : Nat) : List Int := (rng n).map fun i => lcmB (T.getD i.toNat [] ++ plL n i)
theorem bots0_len (T : Tb) (n : Nat) : (bots0 T n).length = n := by unfold bots0; rw [List.length_map, rng_len]
theorem bots0_get {n b : Nat} {T : Tb} (h : Bk n b T) {i : Nat} (hi : i < n) : (bots0 T n).getD i 0 = lcmB (T.getD i []) := by
  unfold bots0
  rw [getD_map (e := 0) (by rw [rng_len]; exact hi), rng_getD hi, Int.toNat_natCast]
  exact lcm_app (h.sq.low _ (row_mem h.sq hi)) n i
theorem bl_id {n : Nat} {F : Nat → Nat → Rat} {i j : Nat} (hi : i < n) (hj : j < n) : bl n F (idm i) (idm j) = F i j := by
  unfold bl
  rw [sN_congr (g := fun a => if a = i then F i j else 0) n (fun a ha => ?_), sN_one _ n hi]
  rw [sN_congr (g := fun b => if b = j then F a j else 0) n (fun b hb => ?_), sN_one _ n hj]
  · unfold idm
    by_cases e : i = a
    · rw [if_pos e, if_pos e.symm, e]; grind
    · rw [if_neg e, if_neg fun z => e z.symm]; grind
  · unfold idm
    by_cases e : j = b
    · rw [if_pos e, if_pos e.symm, e]; grind
    · rw [if_neg e, if_neg fun z => e z.symm]; grind
theorem ul_start {n b : Nat} {T : Tb} (h : Bk n b T) : Ul n b 0 (rows0 T n) (bots0 T n) [] 1 (Tf T) idm := by
  have g := gd0 h
  have lp : ∀ i, i < n → 1 ≤ lcmB (T.getD i []) := fun i hi => lcm_pos' h hi
  refine ⟨⟨rows0_len T n, fun i hi => by rw [rows0_get hi]; exact row0_len h hi⟩, bots0_len T n, rfl, ⟨⟨_, g.el.mono (by unfold Bu; exact Nat.pow_le_pow_right (by decide) (by omega)), fun i _ hi j => g.eq i hi j⟩, fun i _ hi => ⟨fun j hj => ?_, fun m hm => ?_⟩, fun i hi => absurd hi (Nat.not_lt_zero i), fun i hi => absurd hi (Nat.not_lt_zero i), ?_, fun i _ hi => ?_⟩, fun i _ hi => ?_⟩
  · rw [(ent0_val h hi).1 j hj, bots0_get h hi, bl_id hi hj]
    show _ = (1 : Rat) * _ * _
    grind
  · rw [(ent0_val h hi).2 m hm, bots0_get h hi]
    unfold idm
    show _ = (1 : Rat) * _ * _
    by_cases e : m = i
    · rw [if_pos e, if_pos e.symm]; grind
    · rw [if_neg e, if_neg fun z => e z.symm]; grind
  · rw [dt_un (id_un n)]; decide
  · rw [bots0_get h hi]; exact lp i hi
  · rw [bots0_get h hi]
    have hr := row_mem h.sq hi
    obtain ⟨M, m1, m2, m3, m4⟩ := h.mm _ hr
    have hL : lcmB (T.getD i []) ∣ M := lcm_dvd _ 1 (by decide) ⟨M, (Int.one_mul M).symm⟩ fun u hu => ⟨(h.sq.low _ hr u hu).1, m2 u hu⟩
    have := Int.le_of_dvd (by omega) hL
    have := lp i hi
    omega
def Zb (b k : Nat) : Nat := bnd (Bu b k) (k + 1)
theorem bnd_le2 {B C k : Nat} (h : B ≤ C) : bnd B k ≤ bnd C k := Nat.mul_le_mul_left _ (Nat.pow_le_pow_left h k)
theorem Zb_step (b k : Nat) : 2 ^ (b + 2) * Zb b k ≤ Zb b (k + 1) := by
  have e : Bu b (k + 1) = 2 ^ (b + 2) * Bu b k := by rw [Bu_succ, Nat.pow_add]; grind
  have h1 : bnd (Bu b k) (k + 1) ≤ bnd (Bu b (k + 1)) (k + 1) := bnd_le2 (Bu_mono b k)
  have h2 : bnd (Bu b (k + 1)) (k + 2) = (k + 2) * (Bu b (k + 1) * bnd (Bu b (k + 1)) (k + 1)) := by
    unfold bnd
    show (k + 1 + 1) * fct (k + 1) * Bu b (k + 1) ^ (k + 1 + 1) = _
    rw [Nat.pow_succ]
    grind
  unfold Zb
  rw [show k + 1 + 1 = k + 2 from rfl, h2]
  have h3 : 2 ^ (b + 2) ≤ Bu b (k + 1) := by rw [e]; exact Nat.le_mul_of_pos_right _ (Nat.two_pow_pos _)
  have h4 : 2 ^ (b + 2) * bnd (Bu b k) (k + 1) ≤ Bu b (k + 1) * bnd (Bu b (k + 1)) (k + 1) := Nat.mul_le_mul h3 h1
  exact Nat.le_trans h4 (Nat.le_mul_of_pos_left _ (by omega))
def Uz (n Z : Nat) (rows : Rw) : Prop := ∀ a, a < n → ∀ c, (ent2 rows a c).natAbs ≤ Z
theorem Ul.size {n b k : Nat} {rows : Rw} {bo dv : List Int} {bf : Int} {F : Nat → Nat → Rat} {S : Nat → Vc} (h : Ul n b k rows bo dv bf F S) {a : Nat} (ha : k ≤ a) (han : a < n) (c : Nat) : (ent2 rows a c).natAbs ≤ Zb b k := by
  obtain ⟨g, el, eq⟩ := h.up.el
  obtain ⟨z, ez, hz⟩ := el.high ha han c
  have : ent2 rows a c = z := cast_inj (by rw [eq a ha han c, ez])
  rw [this]; exact hz
theorem r2_size {n m Z b : Nat} {rows : Rw} {bo : List Int} {i j : Nat} (rc : Rc n m rows) (hi : i < m) (hin : i < n) (hjn : j < n) (hj : j < m) (hz : Uz n Z rows) (hb1 : (bo.getD i 0).natAbs ≤ 2 ^ b) (hb2 : (bo.getD j 0).natAbs ≤ 2 ^ b) : Uz n (2 ^ (b + 2) * Z) (r2 rows bo i j) := fun a ha c => by
  have p : 1 ≤ 2 ^ b := Nat.two_pow_pos b
  have e4 : 2 ^ (b + 2) * Z = 4 * (2 ^ b * Z) := by rw [Nat.pow_add]; grind
  have zle : Z ≤ 2 ^ b * Z := Nat.le_mul_of_pos_left _ p
  unfold r2
  by_cases z : i = j
  · rw [if_pos z]
    have := hz a ha c
    omega
  · rw [if_neg z]
    have hw : ∀ a, a < n → (Wa (ent2 rows) i j a c).natAbs ≤ 2 * Z := fun a ha => by
      unfold Wa
      split
      · have := hz a ha i
        have := hz a ha j
        omega
      · have := hz a ha c
        omega
    obtain ⟨e1, e2⟩ := ad_ent (bo := bo) rc hi hin hjn hj
    by_cases w : a = i
    · subst w
      rw [e2 c]
      have z1 : (Wa (ent2 rows) a j a c * bo.getD j 0).natAbs ≤ 2 * Z * 2 ^ b := by rw [Int.natAbs_mul]; exact Nat.mul_le_mul (hw a ha) hb2
      have z2 : (Wa (ent2 rows) a j j c * bo.getD a 0).natAbs ≤ 2 * Z * 2 ^ b := by rw [Int.natAbs_mul]; exact Nat.mul_le_mul (hw j hjn) hb1
      have e5 : 2 * Z * 2 ^ b = 2 * (2 ^ b * Z) := by grind
      omega
    · rw [e1 a c ha w]
      have := hw a ha
      omega
theorem ux_size {n m Z : Nat} {rows : Rw} (rc : Rc n m rows) (hnm : n ≤ m) {i j : Nat} (hi : i < n) (hj : j < n) (hz : Uz n Z rows) : Uz n Z (uxF rows i j) := fun a ha c => by
  rw [ux_ent rc hnm hi hj a c ha]
  refine hz _ ?_ _
  unfold sw
  split
  · exact hj
  · split
    · exact hi
    · exact ha
theorem sl_size {n b k : Nat} {rows : Rw} {bo dv : List Int} {bf bf' : Int} {F : Nat → Nat → Rat} {S : Nat → Vc} (rc : Rc n (n + n) rows) (hk : k < n) (hz : Uz n (2 ^ (b + 2) * Zb b k) rows) (h : Ul n b (k + 1) (slF rows k bf) bo dv bf' F S) : Uz n (Zb b (k + 1)) (slF rows k bf) := fun a ha c => by
  rcases Nat.lt_or_ge k a with z | z
  · exact h.size z ha c
  · rw [(sl_ent rc hk bf).1 a c ha z]
    exact Nat.le_trans (hz a ha c) (Zb_step b k)
def upN (K : Rw × List Int) (n : Nat) : List Fr := (rng n).map fun i => fr (ent2 K.1 i.toNat i.toNat) (K.2.getD i.toNat 0)
def upC (K : Rw × List Int) (n : Nat) : Tb := (rng n).map fun i => quF ((K.1.getD i.toNat []).drop n) (K.2.getD i.toNat 0)
def tuF (T : Tb) : Rw × List Int := tuL T.length T.length (rows0 T T.length) (bots0 T T.length) [] 1
def uprF (T : Tb) : List Fr × Tb := (upN (tuF T) T.length, tov (upC (tuF T) T.length))
theorem upN_get {n : Nat} {F : Nat → Nat → Rat} {K : Rw × List Int} {S : Nat → Vc} (h : Ud n F K.1 K.2 S) {i : Nat} (hi : i < n) : Low ((upN K n).getD i (0, 1)) ∧ val ((upN K n).getD i (0, 1)) = bl n F (S i) (S i) := by
  obtain ⟨d1, d2, d3⟩ := h.dd i hi
  have e : (upN K n).getD i (0, 1) = fr (ent2 K.1 i i) (K.2.getD i 0) := by
    unfold upN
    rw [getD_map (e := 0) (by rw [rng_len]; exact hi), rng_getD hi, Int.toNat_natCast]
  rw [e]
  refine ⟨fr_lowP d1, ?_⟩
  have d0 : ((K.2.getD i 0 : Int) : Rat) ≠ 0 := fun z => d1 (cast_inj (by rw [z]; rfl))
  rw [val_fr d1, Rat.divInt_eq_div, d2, Rat.div_def]
  have := Rat.mul_inv_cancel _ d0
  grind
theorem upC_sq {n : Nat} {F : Nat → Nat → Rat} {K : Rw × List Int} {S : Nat → Vc} (h : Ud n F K.1 K.2 S) : Sq n (upC K n) ∧ ∀ i, i < n → ∀ m, m < n → Tf (upC K n) i m = S i m := by
  have row : ∀ i, i < n → (upC K n).getD i [] = quF ((K.1.getD i []).drop n) (K.2.getD i 0) := fun i hi => by
    unfold upC
    rw [getD_map (e := 0) (by rw [rng_len]; exact hi), rng_getD hi, Int.toNat_natCast]
  have len : (upC K n).length = n := by unfold upC; rw [List.length_map, rng_len]
  have rlen : ∀ i, i < n → (quF ((K.1.getD i []).drop n) (K.2.getD i 0)).length = n := fun i hi => by
    unfold quF
    rw [List.length_map, List.length_drop, h.rc.rl i hi]; omega
  have mem : ∀ r ∈ upC K n, ∃ i, i < n ∧ r = quF ((K.1.getD i []).drop n) (K.2.getD i 0) := fun r hr => by
    obtain ⟨i, hi, e⟩ := List.mem_iff_getElem.mp hr
    have hi' : i < n := by rw [← len]; exact hi
    refine ⟨i, hi', ?_⟩
    rw [← row i hi', List.getD_eq_getElem?_getD, List.getElem?_eq_getElem hi, e]; rfl
  refine ⟨⟨len, fun r hr => ?_, fun r hr u hu => ?_⟩, fun i hi m hm => ?_⟩
  · obtain ⟨i, hi, e⟩ := mem r hr
    rw [e]; exact rlen i hi
  · obtain ⟨i, hi, e⟩ := mem r hr
    rw [e] at hu
    obtain ⟨t, _, e2⟩ := List.mem_map.mp hu
    rw [← e2]; exact fr_lowP (h.dd i hi).1
  · obtain ⟨d1, d2, d3⟩ := h.dd i hi
    have d0 : ((K.2.getD i 0 : Int) : Rat) ≠ 0 := fun z => d1 (cast_inj (by rw [z]; rfl))
    unfold Tf
    rw [row i hi]
    have e : (quF ((K.1.getD i []).drop n) (K.2.getD i 0)).getD m (0, 1) = fr (ent2 K.1 i (n + m)) (K.2.getD i 0) := by
      unfold quF
      rw [getD_map (e := 0) (by rw [List.length_drop, h.rc.rl i hi]; omega)]
      unfold ent2
      rw [List.getD_eq_getElem?_getD, List.getElem?_drop, List.getD_eq_getElem?_getD (l := K.1.getD i [])]
    rw [e, val_fr d1, Rat.divInt_eq_div, d3 m hm, Rat.div_def]
    have := Rat.mul_inv_cancel _ d0
    grind
theorem upr_ok {n b : Nat} {T : Tb} (h : Bk n b T) (hs : tov T = T) : ∃ k, Sq n (uprF T).2 ∧ (uprF T).1.length = n ∧ (∀ i, i < n → Low ((uprF T).1.getD i (0, 1)) ∧ ((uprF T).1.getD i (0, 1) = (0, 1) ↔ k ≤ i)) ∧ (∀ i, i < n → ∀ j, j < n → ((ledF T (uprF T).2).getD i []).getD j (0, 1) = if i = j then (uprF T).1.getD i (0, 1) else (0, 1)) ∧ dt n (Tf (uprF T).2) ≠ 0 := by
  have hF : ∀ a, a < n → ∀ b, b < n → Tf T a b = Tf T b a := fun a ha b hb => by rw [← Tf_tov h.sq hb ha, hs]
  have st : Ul n b (n - n) (rows0 T n) (bots0 T n) [] 1 (Tf T) idm := by rw [Nat.sub_self]; exact ul_start h
  obtain ⟨S, hd⟩ := tu_end hF n (rows0 T n) (bots0 T n) [] 1 idm (Nat.le_refl n) st
  have eT : tuL n n (rows0 T n) (bots0 T n) [] 1 = tuF T := by unfold tuF; rw [h.sq.len]
  rw [eT] at hd
  obtain ⟨sq, tf⟩ := upC_sq hd
  obtain ⟨k, hk⟩ := hd.zz
  have tc : ∀ m, m < n → ∀ i, i < n → Tf (uprF T).2 m i = S i m := fun m hm i hi => by
    unfold uprF
    rw [h.sq.len]
    show Tf (tov _) m i = _
    rw [Tf_tov sq hm hi, tf i hi m hm]
  have sq2 : Sq n (uprF T).2 := by unfold uprF; rw [h.sq.len]; exact sq.tov
  have e1 : (uprF T).1 = upN (tuF T) n := by unfold uprF; rw [h.sq.len]
  have led : ∀ i, i < n → ∀ j, j < n → Tf (ledF T (uprF T).2) i j = bl n (Tf T) (S i) (S j) := fun i hi j hj => by
    unfold ledF bl
    rw [Tf_prd sq2.tov (h.sq.prd sq2) hi hj]
    refine sN_congr n fun a ha => ?_
    rw [Tf_tov sq2 hi ha, tc a ha i hi, Tf_prd h.sq sq2 ha hj]
    congr 1
    exact sN_congr n fun b hb => by rw [tc b hb j hj]
  refine ⟨k, sq2, by rw [e1]; unfold upN; rw [List.length_map, rng_len], fun i hi => ?_, fun i hi j hj => ?_, ?_⟩
  · rw [e1]
    obtain ⟨l, v⟩ := upN_get hd hi
    refine ⟨l, ?_⟩
    rw [← hk i hi, ← v]
    constructor
    · intro z; rw [z]; exact val01
    · intro z; exact val_inj l low01 (by rw [z, val01])
  · have lq := led_sq h.sq sq2
    refine val_inj (low_getD (lq.low _ (row_mem lq hi)) j) ?_ ?_
    · split
      · rw [e1]; exact (upN_get hd hi).1
      · exact low01
    · show Tf (ledF T (uprF T).2) i j = _
      rw [led i hi j hj]
      split
      · rename_i e
        rw [e1, (upN_get hd hi).2, e]
      · rename_i e
        rw [val01]; exact hd.og i hi j hj fun z => e z.symm
  · rw [dt_ext (g' := tr S) fun a ha c hc => tc a ha c hc, dt_tr]; exact hd.ds
end EP

namespace EP
theorem Zb_mono (b : Nat) {k n : Nat} (h : k ≤ n) : Zb b k ≤ Zb b n := by
  induction n with
  | zero => rw [show k = 0 by omega]; exact Nat.le_refl _
  | succ n ih =>
    by_cases e : k = n + 1
    · rw [e]; exact Nat.le_refl _
    · refine Nat.le_trans (ih (by omega)) (Nat.le_trans ?_ (Zb_step b n))
      exact Nat.le_mul_of_pos_left _ (Nat.two_pow_pos _)
theorem tu_size {n b : Nat} {F : Nat → Nat → Rat} (hF : ∀ a, a < n → ∀ b, b < n → F a b = F b a) : ∀ (m : Nat) (rows : Rw) (bo dv : List Int) (bf : Int) (S : Nat → Vc), m ≤ n → Ul n b (n - m) rows bo dv bf F S → Uz n (Zb b (n - m)) rows → bf.natAbs ≤ Zb b (n - m) → (∀ i, i < n - m → (dv.getD i 0).natAbs ≤ 2 ^ b * 2 ^ b * Zb b n) →
    Uz n (Zb b n) (tuL n m rows bo dv bf).1 ∧ ∀ i, i < n → ((tuL n m rows bo dv bf).2.getD i 0).natAbs ≤ 2 ^ b * 2 ^ b * Zb b n
  | 0, rows, bo, dv, bf, S, _, h, hz, hbf, hd => by
    rw [Nat.sub_zero] at hz hd
    exact ⟨hz, hd⟩
  | m + 1, rows, bo, dv, bf, S, hm, h, hz, hbf, hd => by
    have hk : n - (m + 1) < n := by omega
    have e1 : n - (m + 1) + 1 = n - m := by omega
    have p1 : 1 ≤ 2 ^ b := Nat.two_pow_pos b
    unfold tuL
    generalize n - (m + 1) = k at *
    have zk := Zb_mono b (Nat.le_of_lt hk)
    cases e : npF rows k with
    | none =>
      refine ⟨fun a ha c => Nat.le_trans (hz a ha c) zk, fun i hi => ?_⟩
      dsimp only
      by_cases w : i < k
      · rw [List.getD_eq_getElem?_getD, List.getElem?_append_left (by rw [h.dl]; exact w)]
        exact hd i w
      · have hib : i < bo.length := by rw [h.bl]; exact hi
        rw [List.getD_eq_getElem?_getD, List.getElem?_append_right (by rw [h.dl]; omega), h.dl, List.getElem?_map, List.getElem?_drop, show k + (i - k) = i by omega, List.getElem?_eq_getElem (by rw [h.bl]; exact hi)]
        show (bf * bo[i]).natAbs ≤ _
        have := h.bb i (by omega) hi
        rw [List.getD_eq_getElem?_getD, List.getElem?_eq_getElem (by rw [h.bl]; exact hi)] at this
        rw [Int.natAbs_mul, Nat.mul_comm]
        have this' : bo[i].natAbs ≤ 2 ^ b := this
        exact Nat.mul_le_mul (Nat.le_trans this' (Nat.le_mul_of_pos_left _ p1)) (Nat.le_trans hbf zk)
    | some p =>
      obtain ⟨i, j⟩ := p
      obtain ⟨m1, m2, m3, m4, m5⟩ := np_some h.rc e
      obtain ⟨_, S', h'⟩ := h.step hF hk e
      have rz := r2_size (b := b) (bo := bo) (i := i) (j := j) h.rc (by omega) (by omega) m3 (by omega) hz (h.bb i m1 (by omega)) (h.bb j (by omega) m3)
      have rc1 : Rc n (n + n) (r2 rows bo i j) := by
        unfold r2
        split
        · exact h.rc
        · exact ad_rc h.rc (by omega) (by omega) m3 (by omega)
      have bl1 : (b2 bo i j).length = n := by
        unfold b2
        split
        · exact h.bl
        · rw [adB_len]; exact h.bl
      have hin : i < n := by omega
      have rc2 := ux_rc rc1 hk hin
      have uz2 := ux_size rc1 (by omega) hk hin rz
      have usz := sl_size rc2 hk uz2 h'
      have bfz := Nat.le_trans (uz2 k hk k) (Zb_step b k)
      have bi : ((b2 bo i j).getD i 0).natAbs ≤ 2 ^ b * 2 ^ b := by
        have q1 := h.bb i m1 (by omega)
        have q2 := h.bb j (by omega) m3
        unfold b2
        split
        · exact Nat.le_trans q1 (Nat.le_mul_of_pos_left _ p1)
        · rw [adB_get (by rw [h.bl]; omega), if_pos rfl, Int.natAbs_mul]
          exact Nat.mul_le_mul q1 q2
      have dd : ∀ a, a < k + 1 → ((dv ++ [bf * (exL (b2 bo i j) k i).getD k 0]).getD a 0).natAbs ≤ 2 ^ b * 2 ^ b * Zb b n := fun a ha => by
        by_cases w : a < k
        · rw [List.getD_eq_getElem?_getD, List.getElem?_append_left (by rw [h.dl]; exact w)]
          exact hd a w
        · have : a = k := by omega
          subst this
          rw [List.getD_eq_getElem?_getD, List.getElem?_append_right (by rw [h.dl]; exact Nat.le_refl _), h.dl, Nat.sub_self]
          show (bf * (exL (b2 bo i j) a i).getD a 0).natAbs ≤ _
          rw [exL_get (by omega) (by omega), sw_self, Int.natAbs_mul, Nat.mul_comm]
          exact Nat.mul_le_mul bi (Nat.le_trans hbf zk)
      rw [e1] at h' usz bfz dd
      exact tu_size hF m _ _ _ _ S' (by omega) h' usz bfz dd
end EP

namespace EP
def Rb (b i : Nat) : Nat := 2 ^ (b + 2) * Zb b i
def Fb (b : Nat) : Nat → Nat
  | 0 => 1
  | i + 1 => Rb b i
theorem Rb_mono (b : Nat) {k i : Nat} (h : k ≤ i) : Rb b k ≤ Rb b i := Nat.mul_le_mul_left _ (Zb_mono b h)
theorem Zb_pos (b k : Nat) : 1 ≤ Zb b k := by
  refine Nat.le_trans ?_ (Zb_mono b (Nat.zero_le k))
  unfold Zb Bu bnd
  exact Nat.mul_pos (by decide) (Nat.pow_pos (Nat.two_pow_pos _))
theorem Zb_Rb (b i : Nat) : Zb b i ≤ Rb b i := Nat.le_mul_of_pos_left _ (Nat.two_pow_pos _)
theorem Fb_mono (b : Nat) {k i : Nat} (h : k ≤ i) : Fb b k ≤ Fb b i := by
  match k, i, h with
  | 0, 0, _ => exact Nat.le_refl _
  | 0, i + 1, _ => exact Nat.mul_pos (Nat.two_pow_pos _) (Zb_pos b i)
  | k + 1, i + 1, h => exact Rb_mono b (by omega)
theorem sw_lt {k i a : Nat} (h1 : a < k) (h2 : k ≤ i) : sw k i a = a := by
  unfold sw
  rw [if_neg (by omega), if_neg (by omega)]
theorem sw_gt {k i c n : Nat} (hk : k < n) (hi : i < n) (hc : n ≤ c) : sw k i c = c := by
  unfold sw
  rw [if_neg (by omega), if_neg (by omega)]
theorem tu_fine {n b : Nat} {F : Nat → Nat → Rat} (hF : ∀ a, a < n → ∀ b, b < n → F a b = F b a) : ∀ (m : Nat) (rows : Rw) (bo dv : List Int) (bf : Int) (S : Nat → Vc), m ≤ n → Ul n b (n - m) rows bo dv bf F S → Uz n (Zb b (n - m)) rows → (∀ a, a < n - m → ∀ c, (n ≤ c ∨ c = a) → (ent2 rows a c).natAbs ≤ Rb b a) → bf.natAbs ≤ Fb b (n - m) → (∀ i, i < n - m → (dv.getD i 0).natAbs ≤ 2 ^ b * 2 ^ b * Fb b i) →
    (∀ a, a < n → ∀ c, (n ≤ c ∨ c = a) → (ent2 (tuL n m rows bo dv bf).1 a c).natAbs ≤ Rb b a) ∧ ∀ i, i < n → ((tuL n m rows bo dv bf).2.getD i 0).natAbs ≤ 2 ^ b * 2 ^ b * Fb b i
  | 0, rows, bo, dv, bf, S, _, h, hz, hr, hbf, hd => by
    rw [Nat.sub_zero] at hr hd
    exact ⟨hr, hd⟩
  | m + 1, rows, bo, dv, bf, S, hm, h, hz, hr, hbf, hd => by
    have hk : n - (m + 1) < n := by omega
    have e1 : n - (m + 1) + 1 = n - m := by omega
    have p1 : 1 ≤ 2 ^ b := Nat.two_pow_pos b
    unfold tuL
    generalize n - (m + 1) = k at *
    cases e : npF rows k with
    | none =>
      refine ⟨fun a ha c hc => ?_, fun i hi => ?_⟩
      · by_cases w : a < k
        · exact hr a w c hc
        · exact Nat.le_trans (hz a ha c) (Nat.le_trans (Zb_mono b (by omega)) (Zb_Rb b a))
      dsimp only
      by_cases w : i < k
      · rw [List.getD_eq_getElem?_getD, List.getElem?_append_left (by rw [h.dl]; exact w)]
        exact hd i w
      · have hib : i < bo.length := by rw [h.bl]; exact hi
        rw [List.getD_eq_getElem?_getD, List.getElem?_append_right (by rw [h.dl]; omega), h.dl, List.getElem?_map, List.getElem?_drop, show k + (i - k) = i by omega, List.getElem?_eq_getElem (by rw [h.bl]; exact hi)]
        show (bf * bo[i]).natAbs ≤ _
        have := h.bb i (by omega) hi
        rw [List.getD_eq_getElem?_getD, List.getElem?_eq_getElem (by rw [h.bl]; exact hi)] at this
        rw [Int.natAbs_mul, Nat.mul_comm]
        have this' : bo[i].natAbs ≤ 2 ^ b := this
        exact Nat.mul_le_mul (Nat.le_trans this' (Nat.le_mul_of_pos_left _ p1)) (Nat.le_trans hbf (Fb_mono b (by omega)))
    | some p =>
      obtain ⟨i, j⟩ := p
      obtain ⟨m1, m2, m3, m4, m5⟩ := np_some h.rc e
      obtain ⟨_, S', h'⟩ := h.step hF hk e
      have rz := r2_size (b := b) (bo := bo) (i := i) (j := j) h.rc (by omega) (by omega) m3 (by omega) hz (h.bb i m1 (by omega)) (h.bb j (by omega) m3)
      have rc1 : Rc n (n + n) (r2 rows bo i j) := by
        unfold r2
        split
        · exact h.rc
        · exact ad_rc h.rc (by omega) (by omega) m3 (by omega)
      have bl1 : (b2 bo i j).length = n := by
        unfold b2
        split
        · exact h.bl
        · rw [adB_len]; exact h.bl
      have hin : i < n := by omega
      have rc2 := ux_rc rc1 hk hin
      have uz2 := ux_size rc1 (by omega) hk hin rz
      have usz := sl_size rc2 hk uz2 h'
      have bfz : (ent2 (uxF (r2 rows bo i j) k i) k k).natAbs ≤ Fb b (k + 1) := uz2 k hk k
      have rr : ∀ a, a < k + 1 → ∀ c, (n ≤ c ∨ c = a) → (ent2 (slF (uxF (r2 rows bo i j) k i) k bf) a c).natAbs ≤ Rb b a := fun a ha c hc => by
        rw [(sl_ent rc2 hk bf).1 a c (by omega) (by omega)]
        by_cases w : a < k
        · have hsc : sw k i c = c := by
            rcases hc with hc | hc
            · exact sw_gt hk hin hc
            · rw [hc]; exact sw_lt w m1
          rw [ux_ent rc1 (by omega) hk hin a c (by omega), sw_lt w m1, hsc]
          unfold r2
          split
          · exact hr a w c hc
          · rw [(ad_ent (bo := bo) h.rc (show i < n + n by omega) hin m3 (by omega)).1 a c (by omega) (by omega)]
            unfold Wa
            rw [if_neg (by omega)]
            exact hr a w c hc
        · have : a = k := by omega
          subst this
          exact uz2 a hk c
      have bi : ((b2 bo i j).getD i 0).natAbs ≤ 2 ^ b * 2 ^ b := by
        have q1 := h.bb i m1 (by omega)
        have q2 := h.bb j (by omega) m3
        unfold b2
        split
        · exact Nat.le_trans q1 (Nat.le_mul_of_pos_left _ p1)
        · rw [adB_get (by rw [h.bl]; omega), if_pos rfl, Int.natAbs_mul]
          exact Nat.mul_le_mul q1 q2
      have dd : ∀ a, a < k + 1 → ((dv ++ [bf * (exL (b2 bo i j) k i).getD k 0]).getD a 0).natAbs ≤ 2 ^ b * 2 ^ b * Fb b a := fun a ha => by
        by_cases w : a < k
        · rw [List.getD_eq_getElem?_getD, List.getElem?_append_left (by rw [h.dl]; exact w)]
          exact hd a w
        · have : a = k := by omega
          subst this
          rw [List.getD_eq_getElem?_getD, List.getElem?_append_right (by rw [h.dl]; exact Nat.le_refl _), h.dl, Nat.sub_self]
          show (bf * (exL (b2 bo i j) a i).getD a 0).natAbs ≤ _
          rw [exL_get (by omega) (by omega), sw_self, Int.natAbs_mul, Nat.mul_comm]
          exact Nat.mul_le_mul bi hbf
      rw [e1] at h' usz bfz dd rr
      exact tu_fine hF m _ _ _ _ S' (by omega) h' usz rr bfz dd
def piZ (d : Nat → Int) : Nat → Int
  | 0 => 1
  | n + 1 => piZ d n * d n
def piN (d : Nat → Nat) : Nat → Nat
  | 0 => 1
  | n + 1 => piN d n * d n
theorem piZ_le {d : Nat → Int} {D : Nat → Nat} : ∀ n, (∀ i, i < n → (d i).natAbs ≤ D i) → (piZ d n).natAbs ≤ piN D n
  | 0, _ => Nat.le_refl _
  | n + 1, h => by
    show (piZ d n * d n).natAbs ≤ piN D n * D n
    rw [Int.natAbs_mul]
    exact Nat.mul_le_mul (piZ_le n fun i hi => h i (by omega)) (h n (by omega))
theorem piZ_pos {d : Nat → Int} : ∀ n, (∀ i, i < n → 1 ≤ d i) → 1 ≤ piZ d n
  | 0, _ => Int.le_refl 1
  | n + 1, h => Int.mul_pos (piZ_pos n fun i hi => h i (by omega)) (h n (by omega))
theorem piZ_ext {d e : Nat → Int} : ∀ n, (∀ i, i < n → d i = e i) → piZ d n = piZ e n
  | 0, _ => rfl
  | n + 1, h => by
    show piZ d n * d n = piZ e n * e n
    rw [piZ_ext n fun i hi => h i (by omega), h n (by omega)]
def wo (d : Nat → Int) (j i : Nat) : Int := if i = j then 1 else d i
def woN (d : Nat → Nat) (j i : Nat) : Nat := if i = j then 1 else d i
theorem piZ_wo {d : Nat → Int} {j : Nat} : ∀ n, j < n → piZ d n = d j * piZ (wo d j) n
  | 0, h => absurd h (Nat.not_lt_zero j)
  | n + 1, h => by
    show piZ d n * d n = d j * (piZ (wo d j) n * wo d j n)
    by_cases e : j = n
    · subst e
      have : piZ (wo d j) j = piZ d j := piZ_ext j fun i hi => by unfold wo; rw [if_neg (by omega)]
      rw [this]
      unfold wo
      rw [if_pos rfl]
      grind
    · rw [piZ_wo (j := j) n (by omega)]
      have : wo d j n = d n := by unfold wo; rw [if_neg (fun z => e z.symm)]
      rw [this]
      grind
structure Cf (n : Nat) (R D : Nat → Nat) (C : Tb) (d : Nat → Int) : Prop where
  sq : Sq n C
  p : ∀ i, i < n → 1 ≤ d i
  s : ∀ i, i < n → (d i).natAbs ≤ D i
  e : ∀ i, i < n → ∀ m, m < n → ∃ P : Int, P.natAbs ≤ R i ∧ Tf C m i * (d i : Rat) = (P : Rat)
theorem upr_top {n b : Nat} {T : Tb} (h : Bk n b T) (hs : tov T = T) : ∀ i, i < n → ((uprF T).1.getD i (0, 1)).1.natAbs ≤ Rb b i ∧ ((uprF T).1.getD i (0, 1)).2.natAbs ≤ 2 ^ b * 2 ^ b * Fb b i := fun i hi => by
  have hF : ∀ a, a < n → ∀ b, b < n → Tf T a b = Tf T b a := fun a ha b hb => by rw [← Tf_tov h.sq hb ha, hs]
  have st0 := ul_start h
  have st : Ul n b (n - n) (rows0 T n) (bots0 T n) [] 1 (Tf T) idm := by rw [Nat.sub_self]; exact st0
  obtain ⟨S, hd⟩ := tu_end hF n (rows0 T n) (bots0 T n) [] 1 idm (Nat.le_refl n) st
  obtain ⟨f1, f2⟩ := tu_fine hF n (rows0 T n) (bots0 T n) [] 1 idm (Nat.le_refl n) st (by rw [Nat.sub_self]; exact fun a ha c => st0.size (Nat.zero_le a) ha c) (fun a ha => by omega) (by rw [Nat.sub_self]; exact Nat.le_refl _) (fun i hi => by omega)
  have eT : tuL n n (rows0 T n) (bots0 T n) [] 1 = tuF T := by unfold tuF; rw [h.sq.len]
  rw [eT] at hd f1 f2
  have e1 : (uprF T).1 = upN (tuF T) n := by unfold uprF; rw [h.sq.len]
  have d0 := (hd.dd i hi).1
  have e : (upN (tuF T) n).getD i (0, 1) = fr (ent2 (tuF T).1 i i) ((tuF T).2.getD i 0) := by
    unfold upN
    rw [getD_map (e := 0) (by rw [rng_len]; exact hi), rng_getD hi, Int.toNat_natCast]
  rw [e1, e]
  exact ⟨Nat.le_trans (fr_abs1 d0) (f1 i hi i (.inr rfl)), Nat.le_trans (fr_abs2 d0) (f2 i hi)⟩
theorem Ov.top {M : Int} {u : Fr} {P : Int} (hu : Low u) (hd : u.2 ∣ M) (h : val u * (M : Rat) = (P : Rat)) : u.1 * (M / u.2) = P := by
  have e := top_val hu hd
  rw [Int.fdiv_eq_ediv_of_nonneg _ (by have := hu.1; omega)] at e
  refine cast_inj ?_
  rw [e, ← h]
  grind
theorem Cf.bk {n b' : Nat} {R D : Nat → Nat} {C : Tb} {d : Nat → Int} (h : Cf n R D C d) (h1 : piN D n ≤ 2 ^ b') (h2 : ∀ j, j < n → R j * piN (woN D j) n ≤ 2 ^ b') : Bk n b' C := by
  have dv : ∀ m, m < n → ∀ j, j < n → ((C.getD m []).getD j (0, 1)).2 ∣ d j := fun m hm j hj => by
    obtain ⟨P, a, e⟩ := h.e j hj m hm
    exact (ov_le (show Ov (d j) (R j) _ from ⟨P, a, e⟩) (low_getD (h.sq.low _ (row_mem h.sq hm)) j) (h.p j hj)).2.2
  refine ⟨h.sq, fun r hr => ⟨piZ d n, piZ_pos n h.p, ?_, Nat.le_trans (piZ_le n h.s) h1, ?_⟩⟩
  · intro u hu
    obtain ⟨m, hm, rfl⟩ := List.mem_iff_getElem.mp hr
    obtain ⟨j, hj, rfl⟩ := List.mem_iff_getElem.mp hu
    have hm' : m < n := by rw [← h.sq.len]; exact hm
    have hj' : j < n := by rw [← h.sq.row _ hr]; exact hj
    have := dv m hm' j hj'
    rw [List.getD_eq_getElem?_getD (l := C), List.getElem?_eq_getElem hm, Option.getD_some, List.getD_eq_getElem?_getD, List.getElem?_eq_getElem hj] at this
    exact Int.dvd_trans this ⟨_, piZ_wo n hj'⟩
  · intro u hu
    obtain ⟨m, hm, rfl⟩ := List.mem_iff_getElem.mp hr
    obtain ⟨j, hj, rfl⟩ := List.mem_iff_getElem.mp hu
    have hm' : m < n := by rw [← h.sq.len]; exact hm
    have hj' : j < n := by rw [← h.sq.row _ hr]; exact hj
    have dj := dv m hm' j hj'
    obtain ⟨P, a, e⟩ := h.e j hj' m hm'
    unfold Tf at e
    have el : (C.getD m []).getD j (0, 1) = C[m][j] := by
      rw [List.getD_eq_getElem?_getD (l := C), List.getElem?_eq_getElem hm, Option.getD_some, List.getD_eq_getElem?_getD, List.getElem?_eq_getElem hj]; rfl
    rw [el] at e dj
    have lw := h.sq.low _ hr _ hu
    have := Ov.top (M := piZ d n) (P := P * piZ (wo d j) n) lw (Int.dvd_trans dj ⟨_, piZ_wo n hj'⟩) (by
      rw [piZ_wo n hj']
      push_cast
      rw [← e]
      grind)
    rw [this, Int.natAbs_mul]
    refine Nat.le_trans (Nat.mul_le_mul a (piZ_le (D := woN D j) n fun i hi => ?_)) (h2 j hj')
    unfold wo woN
    split
    · exact Nat.le_refl _
    · exact h.s i hi
end EP

namespace EP
def Rv (n e x : Nat) (A : Tb) : Prop := ∀ a, a < n → ∃ M : Int, 1 ≤ M ∧ M.natAbs < 2 ^ e ∧ ∀ i, i < n → ∃ P : Int, P.natAbs ≤ 2 ^ x ∧ Tf A a i * (M : Rat) = (P : Rat)
def Cv (n e x : Nat) (A : Tb) : Prop := ∀ a, a < n → ∃ M : Int, 1 ≤ M ∧ M.natAbs < 2 ^ e ∧ ∀ i, i < n → ∃ P : Int, P.natAbs ≤ 2 ^ x ∧ Tf A i a * (M : Rat) = (P : Rat)
theorem tab_mem {n : Nat} {A : Tb} (sq : Sq n A) {r : List Fr} (hr : r ∈ A) {u : Fr} (hu : u ∈ r) : ∃ a, a < n ∧ ∃ i, i < n ∧ Tf A a i = val u := by
  obtain ⟨a, ha, e⟩ := List.mem_iff_getElem.mp hr
  obtain ⟨i, hi, e2⟩ := List.mem_iff_getElem.mp hu
  refine ⟨a, by rw [← sq.len]; exact ha, i, by rw [← sq.row r hr]; exact hi, ?_⟩
  unfold Tf
  rw [List.getD_eq_getElem?_getD (l := A), List.getElem?_eq_getElem ha, Option.getD_some, e, List.getD_eq_getElem?_getD, List.getElem?_eq_getElem hi, e2]
  rfl
theorem Rv.size {n e x : Nat} {A : Tb} (h : Rv n e x A) (sq : Sq n A) : ∀ r ∈ A, ∀ u ∈ r, u.1.natAbs ≤ 2 ^ x ∧ u.2.natAbs < 2 ^ e := fun r hr u hu => by
  obtain ⟨a, ha, i, hi, ev⟩ := tab_mem sq hr hu
  obtain ⟨M, m1, m2, m3⟩ := h a ha
  have m3 := m3 i hi
  rw [ev] at m3
  have := ov_le (show Ov M (2 ^ x) u from m3) (sq.low r hr u hu) m1
  exact ⟨this.1, by omega⟩
theorem Cv.size {n e x : Nat} {A : Tb} (h : Cv n e x A) (sq : Sq n A) : ∀ r ∈ A, ∀ u ∈ r, u.1.natAbs ≤ 2 ^ x ∧ u.2.natAbs < 2 ^ e := fun r hr u hu => by
  obtain ⟨a, ha, i, hi, ev⟩ := tab_mem sq hr hu
  obtain ⟨M, m1, m2, m3⟩ := h i hi
  have m3 := m3 a ha
  rw [ev] at m3
  have := ov_le (show Ov M (2 ^ x) u from m3) (sq.low r hr u hu) m1
  exact ⟨this.1, by omega⟩
theorem nat_mul_lt {a b c d : Nat} (h1 : a < c) (h2 : b < d) : a * b < c * d := by
  rcases Nat.eq_zero_or_pos b with z | z
  · rw [z, Nat.mul_zero]; exact Nat.mul_pos (by omega) (by omega)
  · exact Nat.mul_lt_mul_of_lt_of_le h1 (Nat.le_of_lt h2) (by omega)
theorem Cv.tv {n e x : Nat} {C : Tb} (h : Cv n e x C) (sq : Sq n C) : Rv n e x (tov C) := fun a ha => by
  obtain ⟨M, m1, m2, m3⟩ := h a ha
  exact ⟨M, m1, m2, fun i hi => by rw [Tf_tov sq ha hi]; exact m3 i hi⟩
theorem Cv.prd {n e x e' x' : Nat} {M : Int} {B : Nat} {F C : Tb} (h : Cv n e x C) (hF : Ot M B F) (sF : Sq n F) (sC : Sq n C) (m : 1 ≤ M) (n8 : n ≤ 8) (he : M.natAbs < 2 ^ e') (hB : B ≤ 2 ^ x') : Cv n (e' + e) (3 + (x' + x)) (prd F C) := fun a ha => by
  obtain ⟨N, m1, m2, m3⟩ := h a ha
  refine ⟨M * N, Int.mul_pos m m1, by rw [Int.natAbs_mul, Nat.pow_add]; exact nat_mul_lt he m2, fun i hi => ?_⟩
  obtain ⟨P, p, q⟩ := sN_ov (f := fun b => Tf F i b * Tf C b a) (M := M * N) (B := 2 ^ x' * 2 ^ x) n fun b hb => mul_ov (by
    obtain ⟨P, p, q⟩ := hF.at sF hi hb
    exact ⟨P, Nat.le_trans p hB, q⟩) (m3 b hb)
  refine ⟨P, Nat.le_trans p ?_, ?_⟩
  · rw [Nat.pow_add, Nat.pow_add]
    exact Nat.mul_le_mul_right _ n8
  · rw [Tf_prd sF sC hi ha]; exact q
def nbB (b b' n : Nat) : Bool := decide (2 ^ b * 2 ^ b * (2 ^ (b + 2) * Zb b n) < 2 ^ 8000) && decide (piN (fun i => 2 ^ b * 2 ^ b * Fb b i) n ≤ 2 ^ b') && (List.range n).all fun i => decide (Rb b i ≤ 2 ^ 1100) && decide (2 ^ b * 2 ^ b * Fb b i < 2 ^ 1100) && decide (Rb b i * piN (woN (fun i => 2 ^ b * 2 ^ b * Fb b i) i) n ≤ 2 ^ b')
end EP

namespace EP
def vF (x : List Fr) (i : Nat) : Rat := val (x.getD i (0, 1))
def vO (n : Nat) (v : Vc) : List Fr := (rng n).map fun m => ofR (v m.toNat)
def cO (n : Nat) (S : Nat → Vc) : Tb := (rng n).map fun j => vO n (S j.toNat)
theorem vO_len (n : Nat) (v : Vc) : (vO n v).length = n := by unfold vO; rw [List.length_map, rng_len]
theorem vO_get {n m : Nat} (v : Vc) (h : m < n) : (vO n v).getD m (0, 1) = ofR (v m) := by
  unfold vO
  rw [getD_map (e := 0) (by rw [rng_len]; exact h), rng_getD h, Int.toNat_natCast]
theorem vO_of {n : Nat} {x : List Fr} {v : Vc} (hl : x.length = n) (hx : ∀ u ∈ x, Low u) (h : ∀ m, m < n → vF x m = v m) : x = vO n v := by
  refine List.ext_getElem (by rw [vO_len, hl]) fun m h1 h2 => ?_
  have hm : m < n := by omega
  have e1 : x.getD m (0, 1) = x[m] := by rw [List.getD_eq_getElem?_getD, List.getElem?_eq_getElem h1]; rfl
  have e2 : (vO n v).getD m (0, 1) = (vO n v)[m] := by rw [List.getD_eq_getElem?_getD, List.getElem?_eq_getElem h2]; rfl
  rw [← e1, ← e2, vO_get v hm]
  exact ofR_eq (low_getD hx m) (h m hm)
theorem cO_len (n : Nat) (S : Nat → Vc) : (cO n S).length = n := by unfold cO; rw [List.length_map, rng_len]
theorem cO_get {n j : Nat} (S : Nat → Vc) (h : j < n) : (cO n S).getD j [] = vO n (S j) := by
  unfold cO
  rw [getD_map (e := 0) (by rw [rng_len]; exact h), rng_getD h, Int.toNat_natCast]
theorem bl_ext {n : Nat} {F : Nat → Nat → Rat} {x x' y y' : Vc} (hx : ∀ m, m < n → x m = x' m) (hy : ∀ m, m < n → y m = y' m) : bl n F x y = bl n F x' y' := by
  unfold bl
  exact sN_congr n fun a ha => by rw [hx a ha]; congr 1; exact sN_congr n fun b hb => by rw [hy b hb]
theorem ofR0 : ofR 0 = (0, 1) := (ofR_eq low01 val01).symm
theorem ofR_z {x : Rat} : ofR x = (0, 1) ↔ x = 0 := by
  constructor
  · intro h
    rw [← ofR_val x, h, val01]
  · intro h; rw [h, ofR0]
def bothF (F : Tb) (x y : List Fr) : Fr := ofR (bl F.length (Tf F) (vF x) (vF y))
def lesF (x : List Fr) (u : Fr) (y : List Fr) : List Fr := (rng x.length).map fun k => fadd (x.getD k.toNat (0, 1)) (fmul (-u.1, u.2) (y.getD k.toNat (0, 1)))
theorem neg_lw {u : Fr} (h : Low u) : Low (-u.1, u.2) ∧ val (-u.1, u.2) = -val u := by
  refine ⟨⟨h.1, by show Int.gcd (-u.1) u.2 = 1; rw [Int.neg_gcd]; exact h.2⟩, ?_⟩
  unfold val
  show Rat.divInt (-u.1) u.2 = _
  rw [Rat.neg_divInt]
def Vo (n e x : Nat) (v : Vc) : Prop := ∃ M : Int, 1 ≤ M ∧ M.natAbs < 2 ^ e ∧ ∀ m, m < n → ∃ P : Int, P.natAbs ≤ 2 ^ x ∧ v m * (M : Rat) = (P : Rat)
theorem Vo.ext {n e x : Nat} {v w : Vc} (h : Vo n e x v) (hw : ∀ m, m < n → w m = v m) : Vo n e x w := by
  obtain ⟨M, a, b, c⟩ := h
  exact ⟨M, a, b, fun m hm => by rw [hw m hm]; exact c m hm⟩
theorem Vo.at {n e x : Nat} {v : Vc} (h : Vo n e x v) {m : Nat} (hm : m < n) : (ofR (v m)).1.natAbs ≤ 2 ^ x ∧ (ofR (v m)).2.natAbs < 2 ^ e := by
  obtain ⟨M, a, b, c⟩ := h
  have := ov_le (u := ofR (v m)) (show Ov M (2 ^ x) _ from by
    obtain ⟨P, p, q⟩ := c m hm
    exact ⟨P, p, by rw [ofR_val]; exact q⟩) (ofR_low _) a
  exact ⟨this.1, by omega⟩
def Wo (e x : Nat) (v : Rat) : Prop := ∃ M : Int, 1 ≤ M ∧ M.natAbs < 2 ^ e ∧ ∃ P : Int, P.natAbs ≤ 2 ^ x ∧ v * (M : Rat) = (P : Rat)
theorem Wo.at {e x : Nat} {v : Rat} (h : Wo e x v) : (ofR v).1.natAbs ≤ 2 ^ x ∧ (ofR v).2.natAbs < 2 ^ e := by
  obtain ⟨M, a, b, P, p, q⟩ := h
  have := ov_le (u := ofR v) (show Ov M (2 ^ x) _ from ⟨P, p, by rw [ofR_val]; exact q⟩) (ofR_low _) a
  exact ⟨this.1, by omega⟩
theorem Ul.zero {n b k : Nat} {rows : Rw} {bo dv : List Int} {bf : Int} {F : Nat → Nat → Rat} {S : Nat → Vc} (h : Ul n b k rows bo dv bf F S) {a c : Nat} (ha : k ≤ a) (han : a < n) (hc : c < n) : ent2 rows a c = 0 ↔ EP.bl n F (S a) (S c) = 0 := by
  have l := (h.up.lo a ha han).1 c hc
  have bf0 : bf ≠ 0 := by obtain ⟨g, el, _⟩ := h.up.el; exact fun z => el.d0 (by rw [z]; rfl)
  have bfr : (bf : Rat) ≠ 0 := fun z => bf0 (cast_inj (by rw [z]; rfl))
  have bp := h.up.bp a ha han
  constructor
  · intro z
    rw [z] at l
    have l' : (bf : Rat) * (bo.getD a 0 : Int) * EP.bl n F (S a) (S c) = 0 := by rw [← l]; rfl
    rcases Rat.mul_eq_zero.mp l' with y | y
    · rcases Rat.mul_eq_zero.mp y with y | y
      · exact absurd y bfr
      · have : bo.getD a 0 = 0 := cast_inj (by rw [y]; rfl)
        omega
    · exact y
  · intro z
    rw [z] at l
    exact cast_inj (by rw [l]; show _ * (0 : Rat) = 0; grind)
structure Us (n b k : Nat) (rows : Rw) (bf : Int) : Prop where
  uz : Uz n (Zb b k) rows
  bf : bf.natAbs ≤ Fb b k
theorem Ul.next {n b k : Nat} {rows : Rw} {bo dv : List Int} {bf : Int} {F : Nat → Nat → Rat} {S : Nat → Vc} (hF : ∀ a, a < n → ∀ b, b < n → F a b = F b a) (h : Ul n b k rows bo dv bf F S) (s : Us n b k rows bf) (hk : k < n) {i j : Nat} (e : npF rows k = some (i, j)) :
    Us n b (k + 1) (slF (uxF (r2 rows bo i j) k i) k bf) (ent2 (uxF (r2 rows bo i j) k i) k k) ∧ Uz n (Rb b k) (uxF (r2 rows bo i j) k i) ∧ ∀ a, k ≤ a → a < n → ((exL (b2 bo i j) k i).getD a 0).natAbs ≤ 2 ^ b * 2 ^ b := by
  obtain ⟨m1, m2, m3, m4, m5⟩ := np_some h.rc e
  obtain ⟨_, S', h'⟩ := h.step hF hk e
  have p1 : 1 ≤ 2 ^ b := Nat.two_pow_pos b
  have rz := r2_size (b := b) (bo := bo) (i := i) (j := j) h.rc (by omega) (by omega) m3 (by omega) s.uz (h.bb i m1 (by omega)) (h.bb j (by omega) m3)
  have rc1 : Rc n (n + n) (r2 rows bo i j) := by
    unfold r2
    split
    · exact h.rc
    · exact ad_rc h.rc (by omega) (by omega) m3 (by omega)
  have bl1 : (b2 bo i j).length = n := by
    unfold b2
    split
    · exact h.bl
    · rw [adB_len]; exact h.bl
  have hin : i < n := by omega
  have rc2 := ux_rc rc1 hk hin
  have uz2 := ux_size rc1 (by omega) hk hin rz
  have usz := sl_size rc2 hk uz2 h'
  refine ⟨⟨usz, uz2 k hk k⟩, uz2, fun a ha han => ?_⟩
  rw [exL_get (by omega) (by omega)]
  have key : ∀ c, k ≤ c → c < n → ((b2 bo i j).getD c 0).natAbs ≤ 2 ^ b * 2 ^ b := fun c hc hcn => by
    have q1 := h.bb c hc hcn
    unfold b2
    split
    · exact Nat.le_trans q1 (Nat.le_mul_of_pos_left _ p1)
    · rw [adB_get (by rw [h.bl]; omega)]
      split
      · rw [Int.natAbs_mul]; exact Nat.mul_le_mul (h.bb i m1 hin) (h.bb j (by omega) m3)
      · exact Nat.le_trans q1 (Nat.le_mul_of_pos_left _ p1)
  refine key _ ?_ ?_
  · unfold sw
    split
    · exact m1
    · split <;> omega
  · unfold sw
    split
    · exact hin
    · split <;> omega
def pairN (z : Nat → Nat → Rat) (k n : Nat) : Option (Nat × Nat) := (List.range' k (n - k)).findSome? fun i => ((List.range' (i + 1) (n - (i + 1))).find? fun j => !decide (z i j = 0)).map fun j => (i, j)
theorem cols_end {n : Nat} {T : Tb} (hl : T.length = n) {F : Nat → Nat → Rat} {S : Nat → Vc} (h : Ud n F (tuF T).1 (tuF T).2 S) : cO n S = upC (tuF T) n ∧ ∀ i, i < n → (uprF T).1.getD i (0, 1) = ofR (bl n F (S i) (S i)) := by
  obtain ⟨sq, tf⟩ := upC_sq h
  refine ⟨?_, fun i hi => ?_⟩
  · refine (List.ext_getElem (by rw [cO_len, sq.len]) fun i h1 h2 => ?_).symm
    have hi : i < n := by rw [← sq.len]; exact h1
    have e2 : (cO n S)[i] = vO n (S i) := by rw [← cO_get S hi, List.getD_eq_getElem?_getD, List.getElem?_eq_getElem h2]; rfl
    have e1 : (upC (tuF T) n).getD i [] = (upC (tuF T) n)[i] := by rw [List.getD_eq_getElem?_getD, List.getElem?_eq_getElem h1]; rfl
    rw [e2]
    refine vO_of (sq.row _ (List.getElem_mem h1)) (sq.low _ (List.getElem_mem h1)) fun m hm => ?_
    rw [← tf i hi m hm]
    unfold Tf vF
    rw [e1]
  · have e1 : (uprF T).1 = upN (tuF T) n := by unfold uprF; rw [hl]
    rw [e1]
    obtain ⟨a, b⟩ := upN_get h hi
    exact ofR_eq a b
end EP

namespace EP
def mixS (n : Nat) (F : Nat → Nat → Rat) (S : Nat → Vc) (k i j t a : Nat) : Vc := if a < k + 1 + t then stS n F S k i j a else s2F S k i j a
theorem val_bt {u : Fr} (h : Low u) : val u * (u.2 : Rat) = (u.1 : Rat) := by
  have b0 : ((u.2 : Int) : Rat) ≠ 0 := fun z => h.ne (cast_inj (by rw [z]; rfl))
  unfold val
  rw [Rat.divInt_eq_div, Rat.div_def]
  have := Rat.mul_inv_cancel _ b0
  grind
end EP

namespace EP
theorem sN_sw (f : Nat → Rat) {a b n : Nat} (ha : a < n) (hb : b < n) : sN (fun j => f (sw a b j)) n = sN f n := by
  by_cases e : a = b
  · subst e
    refine sN_congr n fun j _ => ?_
    unfold sw
    split
    · rename_i h; rw [h]
    · rfl
  · have h : ∀ j, f (sw a b j) = f j + ((if j = a then f b - f a else 0) + (if j = b then f a - f b else 0)) := fun j => by
      unfold sw
      by_cases h1 : j = a
      · subst h1
        rw [if_pos rfl, if_pos rfl, if_neg e]
        grind
      · rw [if_neg h1, if_neg h1]
        by_cases h2 : j = b
        · subst h2
          rw [if_pos rfl, if_pos rfl]
          grind
        · rw [if_neg h2, if_neg h2]
          grind
    rw [sN_congr n fun j _ => h j, sN_add, sN_add, sN_one _ n ha, sN_one _ n hb]
    grind
theorem ker : ∀ (m p : Nat) (g : Nat → Nat → Rat), m < p → ∃ x : Nat → Rat, (∃ j, j < p ∧ x j ≠ 0) ∧ ∀ i, i < m → sN (fun j => g i j * x j) p = 0
  | 0, p, g, h => ⟨fun _ => 1, ⟨0, h, by decide⟩, fun i hi => absurd hi (Nat.not_lt_zero i)⟩
  | m + 1, p, g, h => by
    by_cases hz : ∃ q, q < p ∧ g m q ≠ 0
    · obtain ⟨q, hq, g0⟩ := hz
      obtain ⟨p', rfl⟩ : ∃ p', p = p' + 1 := ⟨p - 1, by omega⟩
      have hp : sw q p' p' = q := by
        unfold sw
        split
        · rename_i h; exact h
        · rw [if_pos rfl]
      have hss : ∀ j, sw q p' (sw q p' j) = j := fun j => by unfold sw; split <;> split <;> (try split) <;> omega
      obtain ⟨y, ⟨t, ht, yt⟩, hy⟩ := ker m p' (fun i j => g i (sw q p' j) - g i q * (g m q)⁻¹ * g m (sw q p' j)) (by omega)
      have inv := Rat.mul_inv_cancel _ g0
      have key : ∀ i, sN (fun j => g i j * (if sw q p' j = p' then -((g m q)⁻¹ * sN (fun j => g m (sw q p' j) * y j) p') else y (sw q p' j))) (p' + 1) = sN (fun j => g i (sw q p' j) * y j) p' - g i q * ((g m q)⁻¹ * sN (fun j => g m (sw q p' j) * y j) p') := fun i => by
        have e1 := sN_sw (fun j => g i (sw q p' j) * (if j = p' then -((g m q)⁻¹ * sN (fun j => g m (sw q p' j) * y j) p') else y j)) (a := q) (b := p') (n := p' + 1) hq (by omega)
        have e2 : (fun j => g i (sw q p' (sw q p' j)) * (if sw q p' j = p' then -((g m q)⁻¹ * sN (fun j => g m (sw q p' j) * y j) p') else y (sw q p' j))) = fun j => g i j * (if sw q p' j = p' then -((g m q)⁻¹ * sN (fun j => g m (sw q p' j) * y j) p') else y (sw q p' j)) := funext fun j => by rw [hss]
        rw [e2] at e1
        rw [e1]
        show sN _ p' + g i (sw q p' p') * (if p' = p' then _ else _) = _
        rw [if_pos rfl, hp, sN_congr (g := fun j => g i (sw q p' j) * y j) p' fun j hj => by rw [if_neg (by omega)]]
        grind
      refine ⟨fun j => if sw q p' j = p' then -((g m q)⁻¹ * sN (fun j => g m (sw q p' j) * y j) p') else y (sw q p' j), ⟨sw q p' t, ?_, ?_⟩, fun i hi => ?_⟩
      rotate_left 2
      · exact key i |>.trans (by
          by_cases e : i = m
          · subst e
            grind
          · have z := hy i (by omega)
            have e3 : sN (fun j => (g i (sw q p' j) - g i q * (g m q)⁻¹ * g m (sw q p' j)) * y j) p' = sN (fun j => g i (sw q p' j) * y j) p' - g i q * ((g m q)⁻¹ * sN (fun j => g m (sw q p' j) * y j) p') := by
              have : ∀ k, sN (fun j => (g i (sw q p' j) - g i q * (g m q)⁻¹ * g m (sw q p' j)) * y j) k = sN (fun j => g i (sw q p' j) * y j) k - g i q * ((g m q)⁻¹ * sN (fun j => g m (sw q p' j) * y j) k) := fun k => by
                induction k with
                | zero => show (0 : Rat) = 0 - g i q * ((g m q)⁻¹ * 0); grind
                | succ k ih =>
                  show sN _ k + _ = sN _ k + _ - g i q * ((g m q)⁻¹ * (sN _ k + _))
                  rw [ih]; grind
              exact this p'
            rw [← e3]; exact z)
      · unfold sw
        split
        · omega
        · split <;> omega
      · show (if sw q p' (sw q p' t) = p' then _ else y (sw q p' (sw q p' t))) ≠ 0
        rw [hss, if_neg (by omega)]; exact yt
    · obtain ⟨x, hx, e⟩ := ker m p g (by omega)
      refine ⟨x, hx, fun i hi => ?_⟩
      by_cases w : i = m
      · subst w
        rw [sN_congr (g := fun _ => 0) p fun j hj => ?_, sN_zero]
        have : g i j = 0 := by
          refine Classical.byContradiction fun z => hz ⟨j, hj, z⟩
        rw [this]; grind
      · exact e i (by omega)
theorem dep_dt {n : Nat} {S : Nat → Vc} {a : Nat → Rat} {q : Nat} (hq : q < n) (ha : a q ≠ 0) (h : ∀ m, m < n → sN (fun i => a i * S i m) n = 0) : dt n S = 0 := by
  have e := dt_mul (n := n) (up idm q a) S
  rw [dt_row hq] at e
  have z : dt n (mm n (up idm q a) S) = 0 := by
    have e2 : dt n (mm n (up idm q a) S) = dt n (up (mm n (up idm q a) S) q fun j => 0 * mm n (up idm q a) S q j) := dt_ext fun i hi c hc => by
      unfold up
      split
      · rename_i w
        show sN (fun m => (if i = q then a else idm i) m * S m c) n = _
        rw [if_pos w, h c hc]
        grind
      · rfl
    rw [e2]
    unfold dt
    rw [DD_scale 0 hq]
    grind
  rw [z] at e
  rcases Rat.mul_eq_zero.mp e.symm with w | w
  · exact absurd w ha
  · exact w
theorem span {n : Nat} {S : Nat → Vc} (hd : dt n S ≠ 0) (v : Vc) : ∃ a : Nat → Rat, ∀ m, m < n → v m = sN (fun i => a i * S i m) n := by
  obtain ⟨x, ⟨t, ht, xt⟩, hx⟩ := ker n (n + 1) (fun i j => if j < n then S j i else v i) (by omega)
  have e : ∀ m, m < n → sN (fun i => x i * S i m) n + v m * x n = 0 := fun m hm => by
    rw [← hx m hm]
    show _ = sN _ n + (if n < n then _ else _) * x n
    rw [if_neg (Nat.lt_irrefl n)]
    congr 1
    exact sN_congr n fun i hi => by rw [if_pos hi]; grind
  by_cases w : x n = 0
  · have ht' : t < n := by
      rcases Nat.lt_or_ge t n with z | z
      · exact z
      · exact absurd (by rw [show t = n by omega]; exact w) xt
    refine absurd (dep_dt ht' xt fun m hm => ?_) hd
    have := e m hm
    rw [w] at this
    grind
  · refine ⟨fun i => -(x n)⁻¹ * x i, fun m hm => ?_⟩
    have h1 : sN (fun i => -(x n)⁻¹ * x i * S i m) n = -(x n)⁻¹ * sN (fun i => x i * S i m) n := by
      rw [← sN_mulL]
      exact sN_congr n fun i _ => by grind
    rw [h1]
    have := e m hm
    have inv := Rat.mul_inv_cancel _ w
    grind
theorem bl_sumL {n : Nat} {F : Nat → Nat → Rat} (a : Nat → Rat) (S : Nat → Vc) (w : Vc) : ∀ N, bl n F (fun m => sN (fun i => a i * S i m) N) w = sN (fun i => a i * bl n F (S i) w) N
  | 0 => by
    unfold bl
    rw [sN_congr (g := fun _ => 0) n fun a _ => by show (0 : Rat) * _ = 0; grind, sN_zero]
    rfl
  | N + 1 => by
    show bl n F (fun m => sN (fun i => a i * S i m) N + a N * S N m) w = sN _ N + _
    rw [bl_addL, bl_sumL a S w N]
structure Og (n : Nat) (F : Nat → Nat → Rat) (S : Nat → Vc) : Prop where
  sy : ∀ a, a < n → ∀ b, b < n → F a b = F b a
  og : ∀ i, i < n → ∀ j, j < n → j ≠ i → bl n F (S i) (S j) = 0
  ds : dt n S ≠ 0
theorem Og.at {n : Nat} {F : Nat → Nat → Rat} {S : Nat → Vc} (h : Og n F S) {v : Vc} {a : Nat → Rat} (e : ∀ m, m < n → v m = sN (fun i => a i * S i m) n) {i : Nat} (hi : i < n) : bl n F (S i) v = a i * bl n F (S i) (S i) := by
  rw [bl_sym h.sy, bl_ext (x' := fun m => sN (fun i => a i * S i m) n) (y' := S i) e (fun _ _ => rfl), bl_sumL, sN_congr (g := fun j => if j = i then a i * bl n F (S i) (S i) else 0) n fun j hj => ?_, sN_one _ n hi]
  by_cases w : j = i
  · rw [if_pos w, w]
  · rw [if_neg w, h.og j hj i hi fun z => w z.symm]; grind
theorem Og.dg {n : Nat} {F : Nat → Nat → Rat} {S : Nat → Vc} (h : Og n F S) (v w : Vc) : bl n F v w = sN (fun i => bl n F (S i) v * bl n F (S i) w * (bl n F (S i) (S i))⁻¹) n := by
  obtain ⟨a, ea⟩ := span h.ds v
  obtain ⟨b, eb⟩ := span h.ds w
  rw [bl_ext (x' := fun m => sN (fun i => a i * S i m) n) (y' := w) ea (fun _ _ => rfl), bl_sumL]
  refine sN_congr n fun i hi => ?_
  rw [h.at ea hi, h.at eb hi]
  by_cases z : bl n F (S i) (S i) = 0
  · rw [z]; grind
  · have := Rat.mul_inv_cancel _ z
    grind
def plc (n : Nat) (p : Nat → Bool) : List Nat := (List.range n).filter p
theorem plc_mem {n : Nat} {p : Nat → Bool} {i : Nat} : i ∈ plc n p ↔ i < n ∧ p i = true := by
  unfold plc
  rw [List.mem_filter, List.mem_range]
theorem plc_nd (n : Nat) (p : Nat → Bool) : (plc n p).Nodup := List.Pairwise.filter p List.nodup_range
theorem plc_at {n : Nat} {p : Nat → Bool} {t : Nat} (h : t < (plc n p).length) : (plc n p).getD t 0 < n ∧ p ((plc n p).getD t 0) = true := plc_mem.mp (getD_mem h)
theorem plc_inj {n : Nat} {p : Nat → Bool} {s t : Nat} (hs : s < (plc n p).length) (ht : t < (plc n p).length) (e : (plc n p).getD s 0 = (plc n p).getD t 0) : s = t := by
  rw [List.getD_eq_getElem?_getD, List.getD_eq_getElem?_getD, List.getElem?_eq_getElem hs, List.getElem?_eq_getElem ht] at e
  have nd := List.pairwise_iff_getElem.mp (plc_nd n p)
  rcases Nat.lt_trichotomy s t with z | z | z
  · exact absurd e (nd s t hs ht z)
  · exact z
  · exact absurd e.symm (nd t s ht hs z)
theorem rat_lc {a b : Rat} (h : a ≤ b) : a < b ∨ a = b := by grind
theorem rat_sq_nn (x : Rat) : 0 ≤ x * x := by
  rcases Rat.le_total (a := 0) (b := x) with h | h
  · exact Rat.mul_nonneg h h
  · have : 0 ≤ -x := by grind
    have := Rat.mul_nonneg this this
    grind
theorem sN_nn {f : Nat → Rat} : ∀ n, (∀ i, i < n → 0 ≤ f i) → 0 ≤ sN f n
  | 0, _ => Rat.le_refl
  | n + 1, h => by
    have h1 := sN_nn n fun i hi => h i (by omega)
    have h2 := h n (by omega)
    show 0 ≤ sN f n + f n
    grind
theorem sN_pos {f : Nat → Rat} : ∀ n, (∀ i, i < n → 0 ≤ f i) → (∃ i, i < n ∧ 0 < f i) → 0 < sN f n
  | 0, _, ⟨i, hi, _⟩ => absurd hi (Nat.not_lt_zero i)
  | n + 1, h, ⟨i, hi, hp⟩ => by
    show 0 < sN f n + f n
    have h2 := h n (by omega)
    by_cases e : i = n
    · subst e
      have h1 := sN_nn i fun j hj => h j (by omega)
      grind
    · have h1 := sN_pos n (fun j hj => h j (by omega)) ⟨i, by omega, hp⟩
      grind
theorem inert {n : Nat} {F : Nat → Nat → Rat} {S S' : Nat → Vc} (h : Og n F S) (h' : Og n F S') : (plc n fun i => decide (0 < bl n F (S' i) (S' i))).length ≤ (plc n fun i => decide (0 < bl n F (S i) (S i))).length := by
  refine Classical.byContradiction fun hn => ?_
  generalize hA : (plc n fun i => decide (0 < bl n F (S i) (S i))) = LA at hn
  generalize hB : (plc n fun i => decide (0 < bl n F (S' i) (S' i))) = LB at hn
  obtain ⟨c, ⟨t, ht, ct⟩, hc⟩ := ker LA.length LB.length (fun i t => bl n F (S' (LB.getD t 0)) (S (LA.getD i 0))) (by omega)
  have hB' : ∀ s, s < LB.length → LB.getD s 0 < n ∧ 0 < bl n F (S' (LB.getD s 0)) (S' (LB.getD s 0)) := fun s hs => by
    subst hB
    have := plc_at hs
    exact ⟨this.1, of_decide_eq_true this.2⟩
  let v : Vc := fun m => sN (fun s => c s * S' (LB.getD s 0) m) LB.length
  have e1 : ∀ w, bl n F v w = sN (fun s => c s * bl n F (S' (LB.getD s 0)) w) LB.length := fun w => bl_sumL c (fun s => S' (LB.getD s 0)) w LB.length
  have e2 : ∀ s, s < LB.length → bl n F v (S' (LB.getD s 0)) = c s * bl n F (S' (LB.getD s 0)) (S' (LB.getD s 0)) := fun s hs => by
    rw [e1, sN_congr (g := fun r => if r = s then c s * bl n F (S' (LB.getD s 0)) (S' (LB.getD s 0)) else 0) LB.length fun r hr => ?_, sN_one _ _ hs]
    by_cases w : r = s
    · rw [if_pos w, w]
    · rw [if_neg w, h'.og _ (hB' r hr).1 _ (hB' s hs).1 fun z => w (by subst hB; exact (plc_inj hs hr z).symm)]
      grind
  have p1 : 0 < bl n F v v := by
    rw [e1]
    have e3 : sN (fun s => c s * bl n F (S' (LB.getD s 0)) v) LB.length = sN (fun s => c s * c s * bl n F (S' (LB.getD s 0)) (S' (LB.getD s 0))) LB.length := sN_congr _ fun s hs => by
      rw [bl_sym h.sy, e2 s hs]; grind
    rw [e3]
    refine sN_pos _ (fun s hs => Rat.mul_nonneg (rat_sq_nn _) (Rat.le_of_lt (hB' s hs).2)) ⟨t, ht, ?_⟩
    have : 0 < c t * c t := by
      have := rat_sq_nn (c t)
      rcases rat_lc this with z | z
      · exact z
      · rcases Rat.mul_eq_zero.mp z.symm with w | w <;> exact absurd w ct
    exact Rat.mul_pos this (hB' t ht).2
  have p2 : bl n F v v ≤ 0 := by
    rw [h.dg v v]
    have : 0 ≤ sN (fun i => -(bl n F (S i) v * bl n F (S i) v * (bl n F (S i) (S i))⁻¹)) n := sN_nn n fun i hi => by
      by_cases hp : 0 < bl n F (S i) (S i)
      · have hm : i ∈ LA := by subst hA; exact plc_mem.mpr ⟨hi, decide_eq_true hp⟩
        obtain ⟨a, ha, ea⟩ := List.mem_iff_getElem.mp hm
        have eg : LA.getD a 0 = i := by rw [List.getD_eq_getElem?_getD, List.getElem?_eq_getElem ha, ea]; rfl
        have z := hc a ha
        rw [eg] at z
        have e4 : bl n F (S i) v = 0 := by
          rw [bl_sym h.sy, e1]
          rw [← z]
          exact sN_congr _ fun s _ => by grind
        rw [e4]
        have : -((0 : Rat) * 0 * (bl n F (S i) (S i))⁻¹) = 0 := by grind
        rw [this]
        exact Rat.le_refl
      · have hd : bl n F (S i) (S i) ≤ 0 := Rat.not_lt.mp hp
        have hinv : 0 ≤ -(bl n F (S i) (S i))⁻¹ := by
          rcases rat_lc hd with z | z
          · have h1 : 0 < -bl n F (S i) (S i) := by grind
            have h2 := Rat.inv_pos.mpr h1
            have d0 : bl n F (S i) (S i) ≠ 0 := by grind
            have h3 := Rat.mul_inv_cancel _ d0
            have h4 := Rat.mul_inv_cancel (-bl n F (S i) (S i)) (by grind)
            have h5 : -(bl n F (S i) (S i))⁻¹ = (-bl n F (S i) (S i))⁻¹ := by grind
            rw [h5]
            exact Rat.le_of_lt h2
          · rw [z]
            have : -((0 : Rat))⁻¹ = 0 := by rw [Rat.inv_zero]; rfl
            rw [this]; exact Rat.le_refl
        have := Rat.mul_nonneg (rat_sq_nn (bl n F (S i) v)) hinv
        grind
    have e5 : sN (fun i => -(bl n F (S i) v * bl n F (S i) v * (bl n F (S i) (S i))⁻¹)) n = -sN (fun i => bl n F (S i) v * bl n F (S i) v * (bl n F (S i) (S i))⁻¹) n := by
      have : ∀ k, sN (fun i => -(bl n F (S i) v * bl n F (S i) v * (bl n F (S i) (S i))⁻¹)) k = -sN (fun i => bl n F (S i) v * bl n F (S i) v * (bl n F (S i) (S i))⁻¹) k := fun k => by
        induction k with
        | zero => show (0 : Rat) = -0; grind
        | succ k ih => show sN _ k + _ = -(sN _ k + _); rw [ih]; grind
      exact this n
    rw [e5] at this
    grind
  exact absurd p1 (Rat.not_lt.mpr p2)
end EP

namespace EP
theorem sN_upto {f : Nat → Rat} {r : Nat} : ∀ n, r ≤ n → (∀ i, r ≤ i → i < n → f i = 0) → sN f n = sN f r
  | 0, h, _ => by rw [show r = 0 by omega]
  | n + 1, h, z => by
    by_cases e : r = n + 1
    · rw [e]
    · show sN f n + f n = _
      rw [sN_upto n (by omega) fun i h1 h2 => z i h1 (by omega), z n (by omega) (by omega)]
      grind
theorem pL_inv {d : Nat → Rat} : ∀ r, (∀ i, i < r → d i ≠ 0) → pL d r ≠ 0 ∧ pL d r * pL (fun i => (d i)⁻¹) r = 1
  | 0, _ => ⟨by show (1 : Rat) ≠ 0; decide, by show (1 : Rat) * 1 = 1; grind⟩
  | r + 1, h => by
    obtain ⟨a, b⟩ := pL_inv r fun i hi => h i (by omega)
    have c := h r (by omega)
    have i1 := Rat.mul_inv_cancel _ c
    refine ⟨fun z => ?_, ?_⟩
    · rcases Rat.mul_eq_zero.mp (show d r * pL d r = 0 from z) with w | w
      · exact c w
      · exact a w
    · show d r * pL d r * ((d r)⁻¹ * pL _ r) = 1
      grind
theorem disc {n r : Nat} {F : Nat → Nat → Rat} {S S' : Nat → Vc} (h : Og n F S) (h' : Og n F S') (hr : r ≤ n) (hd : ∀ i, i < n → (bl n F (S i) (S i) ≠ 0 ↔ i < r)) :
    ∃ u : Rat, pL (fun i => bl n F (S i) (S i)) r * pL (fun i => bl n F (S' i) (S' i)) r = u * u := by
  refine ⟨dt r fun a i => bl n F (S i) (S' a), ?_⟩
  have e1 : ∀ a, a < r → ∀ c, c < r → mm r (fun a i => bl n F (S i) (S' a)) (fun i c => (bl n F (S i) (S i))⁻¹ * tr (fun a i => bl n F (S i) (S' a)) i c) a c = bl n F (S' a) (S' a) * idm a c := fun a ha c hc => by
    have z := h.dg (S' a) (S' c)
    rw [sN_upto (r := r) n hr fun i h1 h2 => ?_] at z
    · show sN _ r = _
      rw [sN_congr (g := fun i => bl n F (S i) (S' a) * bl n F (S i) (S' c) * (bl n F (S i) (S i))⁻¹) r fun i hi => ?_, ← z]
      · unfold idm
        by_cases e : a = c
        · subst e; rw [if_pos rfl]; grind
        · rw [if_neg e, h'.og a (by omega) c (by omega) fun w => e w.symm]; grind
      · show _ * (_ * bl n F (S i) (S' c)) = _
        grind
    · have d0 : bl n F (S i) (S i) = 0 := Classical.byContradiction fun w => by have := (hd i h2).mp w; omega
      obtain ⟨a', ea⟩ := span h.ds (S' a)
      rw [h.at ea h2, d0]; grind
  have e2 := dt_mul (n := r) (fun a i => bl n F (S i) (S' a)) (fun i c => (bl n F (S i) (S i))⁻¹ * tr (fun a i => bl n F (S i) (S' a)) i c)
  rw [dt_ext e1, dt_rows, dt_rows, dt_tr, dt_un (id_un r)] at e2
  obtain ⟨_, p2⟩ := pL_inv (d := fun i => bl n F (S i) (S i)) r fun i hi => (hd i (by omega)).mpr hi
  generalize dt r (fun a i => bl n F (S i) (S' a)) = u at *
  generalize pL (fun i => bl n F (S i) (S i)) r = x at *
  generalize pL (fun i => (bl n F (S i) (S i))⁻¹) r = y at *
  have e3 : pL (fun i => bl n F (S' i) (S' i)) r = u * (y * u) := by
    have : pL (fun i => bl n F (S' i) (S' i)) r * 1 = u * (y * u) := e2
    grind
  rw [e3]
  grind
theorem bl_neg (n : Nat) (F : Nat → Nat → Rat) (x y : Vc) : bl n (fun a b => -F a b) x y = -bl n F x y := by
  have e1 : ∀ (f : Nat → Rat) k, sN (fun i => -f i) k = -sN f k := fun f k => by
    induction k with
    | zero => show (0 : Rat) = -0; grind
    | succ k ih => show sN _ k + _ = -(sN _ k + _); rw [ih]; grind
  unfold bl
  rw [← e1]
  refine sN_congr n fun a _ => ?_
  have : sN (fun b => -F a b * y b) n = -sN (fun b => F a b * y b) n := by
    rw [← e1]; exact sN_congr n fun b _ => by grind
  rw [this]; grind
theorem Og.neg {n : Nat} {F : Nat → Nat → Rat} {S : Nat → Vc} (h : Og n F S) : Og n (fun a b => -F a b) S :=
  ⟨fun a ha b hb => by rw [h.sy a ha b hb], fun i hi j hj hij => by rw [bl_neg, h.og i hi j hj hij]; grind, h.ds⟩
theorem sN_asc (A : Nat → Rat) (B : Nat → Nat → Rat) (y : Nat → Rat) (n : Nat) : sN (fun b => sN (fun i => A i * B i b) n * y b) n = sN (fun i => A i * sN (fun b => B i b * y b) n) n := by
  have e1 : sN (fun b => sN (fun i => A i * B i b) n * y b) n = sN (fun b => sN (fun i => A i * B i b * y b) n) n := sN_congr n fun b _ => by
    rw [show sN (fun i => A i * B i b) n * y b = y b * sN (fun i => A i * B i b) n by grind, ← sN_mulL]
    exact sN_congr n fun i _ => by grind
  rw [e1, sN_swap]
  refine sN_congr n fun i _ => ?_
  rw [← sN_mulL]
  exact sN_congr n fun b _ => by grind
def ldV (n : Nat) (C : Nat → Nat → Rat) (x : Vc) : Vc := fun m => sN (fun b => C m b * x b) n
theorem bl_led {n : Nat} {F C : Tb} (hF : Sq n F) (hC : Sq n C) (x y : Vc) : bl n (Tf (ledF F C)) x y = bl n (Tf F) (ldV n (Tf C) x) (ldV n (Tf C) y) := by
  have e1 : ∀ a, a < n → sN (fun b => Tf (ledF F C) a b * y b) n = sN (fun i => Tf C i a * sN (fun j => Tf F i j * ldV n (Tf C) y j) n) n := fun a ha => by
    have g : ∀ b, b < n → Tf (ledF F C) a b = sN (fun i => Tf C i a * sN (fun j => Tf F i j * Tf C j b) n) n := fun b hb => by
      unfold ledF
      rw [Tf_prd hC.tov (hF.prd hC) ha hb]
      refine sN_congr n fun i hi => ?_
      rw [Tf_tov hC ha hi, Tf_prd hF hC hi hb]
    rw [sN_congr n fun b hb => by rw [g b hb], sN_asc]
    refine sN_congr n fun i _ => ?_
    congr 1
    exact sN_asc _ _ _ n
  unfold bl
  rw [sN_congr n fun a ha => by rw [e1 a ha]]
  have e2 := sN_asc (fun a => x a) (fun a i => Tf C i a) (fun i => sN (fun j => Tf F i j * ldV n (Tf C) y j) n) n
  rw [← e2]
  refine sN_congr n fun i _ => ?_
  congr 1
  unfold ldV
  exact sN_congr n fun a _ => by grind
theorem Og.led {n : Nat} {F C : Tb} {S : Nat → Vc} (hF : Sq n F) (hC : Sq n C) (hs : ∀ a, a < n → ∀ b, b < n → Tf F a b = Tf F b a) (hd : dt n (Tf C) ≠ 0) (h : Og n (Tf (ledF F C)) S) : Og n (Tf F) (fun i => ldV n (Tf C) (S i)) := by
  refine ⟨hs, fun i hi j hj hij => by rw [← bl_led hF hC]; exact h.og i hi j hj hij, ?_⟩
  have e : dt n (fun i => ldV n (Tf C) (S i)) = dt n (mm n S (tr (Tf C))) := dt_ext fun i _ c _ => by
    unfold ldV mm tr
    exact sN_congr n fun b _ => by grind
  rw [e, dt_mul, dt_tr]
  intro z
  rcases Rat.mul_eq_zero.mp z with w | w
  · exact h.ds w
  · exact hd w
theorem upr_og {n b : Nat} {T : Tb} (h : Bk n b T) (hs : tov T = T) : ∃ S k, Og n (Tf T) S ∧ (uprF T).1 = (List.range n).map (fun i => ofR (bl n (Tf T) (S i) (S i))) ∧ ∀ i, i < n → (bl n (Tf T) (S i) (S i) = 0 ↔ k ≤ i) := by
  have hF : ∀ a, a < n → ∀ b, b < n → Tf T a b = Tf T b a := fun a ha b hb => by rw [← Tf_tov h.sq hb ha, hs]
  have st : Ul n b (n - n) (rows0 T n) (bots0 T n) [] 1 (Tf T) idm := by rw [Nat.sub_self]; exact ul_start h
  obtain ⟨S, hd⟩ := tu_end hF n (rows0 T n) (bots0 T n) [] 1 idm (Nat.le_refl n) st
  have eT : tuL n n (rows0 T n) (bots0 T n) [] 1 = tuF T := by unfold tuF; rw [h.sq.len]
  rw [eT] at hd
  obtain ⟨_, c2⟩ := cols_end h.sq.len hd
  obtain ⟨k, hk⟩ := hd.zz
  refine ⟨S, k, ⟨hF, hd.og, hd.ds⟩, ?_, hk⟩
  have e1 : (uprF T).1.length = n := by unfold uprF upN; rw [List.length_map, rng_len, h.sq.len]
  refine List.ext_getElem (by rw [e1, List.length_map, List.length_range]) fun i h1 h2 => ?_
  have z := c2 i (by omega)
  rw [List.getD_eq_getElem?_getD, List.getElem?_eq_getElem h1] at z
  rw [List.getElem_map, List.getElem_range]
  exact z
def posC (us : List Fr) : Nat := (us.filter fun u => decide (0 < u.1)).length
def negC (us : List Fr) : Nat := (us.filter fun u => decide (u.1 < 0)).length
theorem ofR_sg (x : Rat) : (0 < (ofR x).1 ↔ 0 < x) ∧ ((ofR x).1 < 0 ↔ x < 0) := by
  have lo := ofR_low x
  have hb := val_bt lo
  rw [ofR_val] at hb
  have p : (0 : Rat) < ((ofR x).2 : Int) := by
    have := lo.1
    have h0 : ((0 : Int) : Rat) < (((ofR x).2 : Int) : Rat) := Rat.intCast_lt_intCast.mpr (by omega)
    exact h0
  have key : 0 < x → 0 < (ofR x).1 := fun h => by
    have := Rat.mul_pos h p
    rw [hb] at this
    exact Rat.intCast_lt_intCast.mp this
  have key2 : x < 0 → (ofR x).1 < 0 := fun h => by
    have h1 : 0 < -x := by grind
    have := Rat.mul_pos h1 p
    have e : -x * ((ofR x).2 : Rat) = ((-(ofR x).1 : Int) : Rat) := by push_cast; rw [← hb]; grind
    rw [e] at this
    have := Rat.intCast_lt_intCast.mp (show ((0 : Int) : Rat) < _ from this)
    omega
  have key0 : x = 0 → (ofR x).1 = 0 := fun h => by rw [h, ofR0]
  constructor
  · constructor
    · intro h
      refine Classical.byContradiction fun w => ?_
      rcases rat_lc (Rat.not_lt.mp w) with z | z
      · have := key2 z; omega
      · have := key0 z; omega
    · exact key
  · constructor
    · intro h
      refine Classical.byContradiction fun w => ?_
      rcases rat_lc (Rat.not_lt.mp w) with z | z
      · have := key z; omega
      · have := key0 z.symm; omega
    · exact key2
theorem cnt_plc {n : Nat} (d : Nat → Rat) : posC ((List.range n).map fun i => ofR (d i)) = (plc n fun i => decide (0 < d i)).length ∧ negC ((List.range n).map fun i => ofR (d i)) = (plc n fun i => decide (d i < 0)).length := by
  unfold posC negC plc
  rw [List.filter_map, List.length_map, List.filter_map, List.length_map]
  constructor
  · congr 1
    refine List.filter_congr fun i _ => ?_
    exact decide_eq_decide.mpr (ofR_sg (d i)).1
  · congr 1
    refine List.filter_congr fun i _ => ?_
    exact decide_eq_decide.mpr (ofR_sg (d i)).2
theorem inert2 {n : Nat} {F : Nat → Nat → Rat} {S S' : Nat → Vc} (h : Og n F S) (h' : Og n F S') : (plc n fun i => decide (0 < bl n F (S' i) (S' i))).length = (plc n fun i => decide (0 < bl n F (S i) (S i))).length ∧ (plc n fun i => decide (bl n F (S' i) (S' i) < 0)).length = (plc n fun i => decide (bl n F (S i) (S i) < 0)).length := by
  refine ⟨Nat.le_antisymm (inert h h') (inert h' h), ?_⟩
  have e : ∀ S : Nat → Vc, (plc n fun i => decide (0 < bl n (fun a b => -F a b) (S i) (S i))) = plc n fun i => decide (bl n F (S i) (S i) < 0) := fun S => by
    unfold plc
    refine List.filter_congr fun i _ => ?_
    rw [bl_neg]
    refine decide_eq_decide.mpr ?_
    constructor <;> intro z <;> grind
  have a := inert h.neg h'.neg
  have b := inert h'.neg h.neg
  rw [e, e] at a b
  exact Nat.le_antisymm a b
theorem nz_cnt {n : Nat} (d : Nat → Rat) {k : Nat} (hk : ∀ i, i < n → (d i = 0 ↔ k ≤ i)) : (plc n fun i => decide (0 < d i)).length + (plc n fun i => decide (d i < 0)).length = min k n := by
  induction n with
  | zero => rw [Nat.min_zero]; rfl
  | succ n ih =>
    have ih := ih fun i hi => hk i (by omega)
    have e : ∀ p : Nat → Bool, (plc (n + 1) p).length = (plc n p).length + if p n = true then 1 else 0 := fun p => by
      unfold plc
      rw [List.range_succ, List.filter_append, List.length_append]
      congr 1
      rw [List.filter_cons]
      split <;> rfl
    rw [e, e]
    have hn := hk n (by omega)
    by_cases z : d n = 0
    · have h1 : ¬ (0 < d n) := by grind
      have h2 : ¬ (d n < 0) := by grind
      rw [decide_eq_false h1, decide_eq_false h2]
      have := hn.mp z
      show _ + 0 + (_ + 0) = _
      omega
    · have hkn : ¬ k ≤ n := fun w => z (hn.mpr w)
      by_cases h1 : 0 < d n
      · have h2 : ¬ (d n < 0) := by grind
        rw [decide_eq_true h1, decide_eq_false h2]
        show _ + 1 + (_ + 0) = _
        omega
      · have h2 : d n < 0 := by grind
        rw [decide_eq_false h1, decide_eq_true h2]
        show _ + 0 + (_ + 1) = _
        omega
end EP

namespace EP
def pdF (us : List Fr) : Fr := us.foldl (fun t u => if u = (0, 1) then t else fmul t u) (1, 1)
theorem pdF_snoc {us : List Fr} {i : Nat} {u : Fr} (h : us[i]? = some u) : pdF (us.take (i + 1)) = if u = (0, 1) then pdF (us.take i) else fmul (pdF (us.take i)) u := by
  unfold pdF
  rw [List.take_add_one, h, Option.toList_some, List.foldl_append]
  rfl
theorem pdF_size {us : List Fr} {R D : Nat → Nat} (hl : ∀ u ∈ us, Low u) (hs : ∀ i, i < us.length → (us.getD i (0, 1)).1.natAbs ≤ R i ∧ (us.getD i (0, 1)).2.natAbs ≤ D i) (hR : ∀ i, 1 ≤ R i) (hD : ∀ i, 1 ≤ D i) : ∀ i, i ≤ us.length → Low (pdF (us.take i)) ∧ (pdF (us.take i)).1.natAbs ≤ piN R i ∧ (pdF (us.take i)).2.natAbs ≤ piN D i
  | 0, _ => ⟨low11, Nat.le_refl _, Nat.le_refl _⟩
  | i + 1, hi => by
    obtain ⟨a, b, c⟩ := pdF_size hl hs hR hD i (by omega)
    have hg : us[i]? = some us[i] := List.getElem?_eq_getElem (by omega)
    have lu := hl _ (List.getElem_mem (show i < us.length by omega))
    have e : us.getD i (0, 1) = us[i] := by rw [List.getD_eq_getElem?_getD, hg]; rfl
    obtain ⟨s1, s2⟩ := hs i (by omega)
    rw [e] at s1 s2
    rw [pdF_snoc hg]
    show _ ∧ _ ≤ piN R i * R i ∧ _ ≤ piN D i * D i
    split
    · exact ⟨a, Nat.le_trans b (Nat.le_mul_of_pos_right _ (hR i)), Nat.le_trans c (Nat.le_mul_of_pos_right _ (hD i))⟩
    · refine ⟨low_mul a lu, ?_, ?_⟩
      · refine Nat.le_trans (fr_abs1 (Int.mul_ne_zero a.ne lu.ne)) ?_
        rw [Int.natAbs_mul]
        exact Nat.mul_le_mul b s1
      · refine Nat.le_trans (fr_abs2 (Int.mul_ne_zero a.ne lu.ne)) ?_
        rw [Int.natAbs_mul]
        exact Nat.mul_le_mul c s2
theorem pdF_val {n k : Nat} {d : Nat → Rat} (hk : ∀ i, i < n → (d i = 0 ↔ k ≤ i)) : ∀ i, i ≤ n → pdF (((List.range n).map fun i => ofR (d i)).take i) = ofR (pL d (min k i))
  | 0, _ => by
    rw [Nat.min_zero]
    exact ofR_eq (u := (1, 1)) low11 (by show val (1, 1) = (1 : Rat); unfold val; rfl)
  | i + 1, hi => by
    have hg : ((List.range n).map fun i => ofR (d i))[i]? = some (ofR (d i)) := by
      rw [List.getElem?_map, List.getElem?_range (by omega)]; rfl
    rw [pdF_snoc hg, pdF_val hk i (by omega)]
    have hki := hk i (by omega)
    by_cases z : d i = 0
    · rw [if_pos (ofR_z.mpr z)]
      have := hki.mp z
      rw [show min k (i + 1) = min k i by omega]
    · rw [if_neg (fun w => z (ofR_z.mp w))]
      have : ¬ k ≤ i := fun w => z (hki.mpr w)
      rw [show min k (i + 1) = min k i + 1 by omega]
      refine ofR_eq (low_mul (ofR_low _) (ofR_low _)) ?_
      rw [val_mul (ofR_low _) (ofR_low _), ofR_val, ofR_val]
      show _ = d (min k i) * pL d (min k i)
      rw [show min k i = i by omega]
      grind
theorem ofR_sq (u : Rat) : ofR (u * u) = ((ofR u).1 * (ofR u).1, (ofR u).2 * (ofR u).2) := by
  have lo := ofR_low u
  refine (ofR_eq ?_ ?_).symm
  · refine ⟨Int.mul_pos lo.1 lo.1, ?_⟩
    show Int.gcd _ _ = 1
    have h1 : Nat.Coprime (ofR u).1.natAbs (ofR u).2.natAbs := lo.2
    show Nat.gcd ((ofR u).1 * (ofR u).1).natAbs ((ofR u).2 * (ofR u).2).natAbs = 1
    rw [Int.natAbs_mul, Int.natAbs_mul]
    have h2 : Nat.Coprime ((ofR u).1.natAbs * (ofR u).1.natAbs) (ofR u).2.natAbs := Nat.Coprime.mul_left h1 h1
    exact Nat.Coprime.mul_right h2 h2
  · have hb := val_bt lo
    rw [ofR_val] at hb
    have b0 : (((ofR u).2 : Int) : Rat) ≠ 0 := fun z => lo.ne (cast_inj (by rw [z]; rfl))
    unfold val
    rw [Rat.divInt_eq_div, Rat.div_def]
    push_cast
    rw [← hb]
    have := Rat.mul_inv_cancel _ b0
    have h2 : (((ofR u).2 : Rat) * ((ofR u).2 : Rat)) ≠ 0 := fun z => by rcases Rat.mul_eq_zero.mp z with w | w <;> exact b0 w
    have := Rat.mul_inv_cancel _ h2
    grind
theorem led_signs {n b b' : Nat} {F C : Tb} (h : Bk n b F) (hs : tov F = F) (hC : Sq n C) (hd : dt n (Tf C) ≠ 0) (h' : Bk n b' (ledF F C)) (hs' : tov (ledF F C) = ledF F C) : posC (uprF (ledF F C)).1 = posC (uprF F).1 ∧ negC (uprF (ledF F C)).1 = negC (uprF F).1 ∧ ∃ u : Rat, fmul (pdF (uprF F).1) (pdF (uprF (ledF F C)).1) = ((ofR u).1 * (ofR u).1, (ofR u).2 * (ofR u).2) := by
  obtain ⟨S, k, og, eN, hk⟩ := upr_og h hs
  obtain ⟨S', k', og', eN', hk'⟩ := upr_og h' hs'
  have og2 := Og.led h.sq hC og.sy hd og'
  have eb : ∀ i, bl n (Tf (ledF F C)) (S' i) (S' i) = bl n (Tf F) (ldV n (Tf C) (S' i)) (ldV n (Tf C) (S' i)) := fun i => bl_led h.sq hC _ _
  obtain ⟨i1, i2⟩ := inert2 og og2
  have e2 : (fun i => bl n (Tf (ledF F C)) (S' i) (S' i)) = fun i => bl n (Tf F) (ldV n (Tf C) (S' i)) (ldV n (Tf C) (S' i)) := funext eb
  have hk2 : ∀ i, i < n → (bl n (Tf F) (ldV n (Tf C) (S' i)) (ldV n (Tf C) (S' i)) = 0 ↔ k' ≤ i) := fun i hi => by rw [← eb]; exact hk' i hi
  have eN2 : (uprF (ledF F C)).1 = (List.range n).map fun i => ofR (bl n (Tf F) (ldV n (Tf C) (S' i)) (ldV n (Tf C) (S' i))) := by
    rw [eN']
    exact List.map_congr_left fun i _ => by rw [eb]
  obtain ⟨c1, c2⟩ := cnt_plc (n := n) fun i => bl n (Tf F) (S i) (S i)
  obtain ⟨c3, c4⟩ := cnt_plc (n := n) fun i => bl n (Tf F) (ldV n (Tf C) (S' i)) (ldV n (Tf C) (S' i))
  have r1 := nz_cnt (n := n) (fun i => bl n (Tf F) (S i) (S i)) hk
  have r2 := nz_cnt (n := n) (fun i => bl n (Tf F) (ldV n (Tf C) (S' i)) (ldV n (Tf C) (S' i))) hk2
  have er : min k n = min k' n := by omega
  refine ⟨by rw [eN2, eN, c3, c1]; exact i1, by rw [eN2, eN, c4, c2]; exact i2, ?_⟩
  obtain ⟨u, hu⟩ := disc og og2 (r := min k n) (Nat.min_le_right k n) fun i hi => by
    have := hk i hi
    constructor
    · intro z
      have : ¬ k ≤ i := fun w => z (this.mpr w)
      omega
    · intro z w
      have := this.mp w
      omega
  refine ⟨u, ?_⟩
  have p1 := pdF_val hk n (Nat.le_refl n)
  have p2 := pdF_val hk2 n (Nat.le_refl n)
  rw [List.take_of_length_le (by rw [List.length_map, List.length_range]; exact Nat.le_refl n)] at p1 p2
  rw [eN, eN2, p1, p2, ← er, ← ofR_sq]
  refine ofR_eq (low_mul (ofR_low _) (ofR_low _)) ?_
  rw [val_mul (ofR_low _) (ofR_low _), ofR_val, ofR_val]
  exact hu
theorem neg_signs {n b b' : Nat} {F G : Tb} (h : Bk n b F) (hs : tov F = F) (h' : Bk n b' G) (hs' : tov G = G) (hG : ∀ i, i < n → ∀ j, j < n → Tf G i j = -Tf F i j) : posC (uprF G).1 = negC (uprF F).1 ∧ negC (uprF G).1 = posC (uprF F).1 := by
  obtain ⟨S, k, og, eN, hk⟩ := upr_og h hs
  obtain ⟨S', k', og', eN', hk'⟩ := upr_og h' hs'
  have eb : ∀ x y, bl n (Tf G) x y = -bl n (Tf F) x y := fun x y => by
    rw [← bl_neg]
    unfold bl
    exact sN_congr n fun a ha => by congr 1; exact sN_congr n fun b hb => by rw [hG a ha b hb]
  have og2 : Og n (Tf F) S' := ⟨og.sy, fun i hi j hj hij => by
    have := og'.og i hi j hj hij
    rw [eb] at this
    grind, og'.ds⟩
  obtain ⟨i1, i2⟩ := inert2 og og2
  obtain ⟨c1, c2⟩ := cnt_plc (n := n) fun i => bl n (Tf F) (S i) (S i)
  obtain ⟨c3, c4⟩ := cnt_plc (n := n) fun i => bl n (Tf G) (S' i) (S' i)
  rw [eN, eN', c1, c2, c3, c4, ← i1, ← i2]
  have e1 : (plc n fun i => decide (0 < bl n (Tf G) (S' i) (S' i))) = plc n fun i => decide (bl n (Tf F) (S' i) (S' i) < 0) := by
    unfold plc
    refine List.filter_congr fun i _ => ?_
    rw [eb]
    refine decide_eq_decide.mpr ?_
    constructor <;> intro z <;> grind
  have e2 : (plc n fun i => decide (bl n (Tf G) (S' i) (S' i) < 0)) = plc n fun i => decide (0 < bl n (Tf F) (S' i) (S' i)) := by
    unfold plc
    refine List.filter_congr fun i _ => ?_
    rw [eb]
    refine decide_eq_decide.mpr ?_
    constructor <;> intro z <;> grind
  rw [e1, e2]
  exact ⟨rfl, rfl⟩
end EP

namespace EP
def nb2B (b p q n : Nat) : Bool := decide (n * b + 16 < 8000) && decide (b < 1900) && decide (2 ^ b * 2 ^ b * (2 ^ (b + 2) * Zb b n) < 2 ^ 8000) && decide (piN (Rb b) n < 2 ^ p) && decide (piN (fun i => 2 ^ b * 2 ^ b * Fb b i) n < 2 ^ q)
set_option maxRecDepth 100000 in
theorem nb2_61 : ∀ n ∈ List.range 5, nb2B 61 2200 1600 n = true := by decide +kernel
set_option maxRecDepth 100000 in
theorem nb2_3 : ∀ n ∈ List.range 9, nb2B 3 2200 1600 n = true := by decide +kernel
set_option maxRecDepth 100000 in
theorem nb2_207 : ∀ n ∈ List.range 5, nb2B 207 7200 5300 n = true := by decide +kernel
set_option maxRecDepth 100000 in
theorem nb2_26 : ∀ n ∈ List.range 7, nb2B 26 7200 5300 n = true := by decide +kernel
theorem nb2_ok {b p q n : Nat} (h : nb2B b p q n = true) : n * b + 16 < 8000 ∧ b < 1900 ∧ 2 ^ b * 2 ^ b * (2 ^ (b + 2) * Zb b n) < 2 ^ 8000 ∧ piN (Rb b) n < 2 ^ p ∧ piN (fun i => 2 ^ b * 2 ^ b * Fb b i) n < 2 ^ q := by
  unfold nb2B at h
  rw [Bool.and_eq_true, Bool.and_eq_true, Bool.and_eq_true, Bool.and_eq_true] at h
  obtain ⟨⟨⟨⟨a1, a2⟩, a3⟩, a4⟩, a5⟩ := h
  exact ⟨of_decide_eq_true a1, of_decide_eq_true a2, of_decide_eq_true a3, of_decide_eq_true a4, of_decide_eq_true a5⟩
theorem Rb_pos (b i : Nat) : 1 ≤ Rb b i := Nat.mul_pos (Nat.two_pow_pos _) (Zb_pos b i)
theorem Db_pos (b i : Nat) : 1 ≤ 2 ^ b * 2 ^ b * Fb b i := by
  refine Nat.mul_pos (Nat.mul_pos (Nat.two_pow_pos _) (Nat.two_pow_pos _)) ?_
  match i with
  | 0 => exact Nat.le_refl 1
  | i + 1 => exact Rb_pos b i
theorem piN_mono {R : Nat → Nat} (hR : ∀ i, 1 ≤ R i) {i n : Nat} (h : i ≤ n) : piN R i ≤ piN R n := by
  induction n with
  | zero => rw [show i = 0 by omega]; exact Nat.le_refl _
  | succ n ih =>
    by_cases e : i = n + 1
    · rw [e]; exact Nat.le_refl _
    · exact Nat.le_trans (ih (by omega)) (Nat.le_mul_of_pos_right _ (hR n))
theorem Ot.bk {n b : Nat} {M : Int} {D : Nat} {T : Tb} (h : Ot M D T) (sq : Sq n T) (m : 1 ≤ M) (hM : M.natAbs ≤ 2 ^ b) (hD : D ≤ 2 ^ b) : Bk n b T := by
  refine ⟨sq, fun r hr => ⟨M, m, fun u hu => (ov_le (h r hr u hu) (sq.low r hr u hu) m).2.2, hM, fun u hu => ?_⟩⟩
  obtain ⟨P, p, q⟩ := h r hr u hu
  rw [Ov.top (sq.low r hr u hu) (ov_le (h r hr u hu) (sq.low r hr u hu) m).2.2 q]
  omega
def ngT (T : Tb) : Tb := T.map fun r => r.map fun u => (-u.1, u.2)
theorem ngT_get {n : Nat} {T : Tb} (sq : Sq n T) {i j : Nat} (hi : i < n) (hj : j < n) : ((ngT T).getD i []).getD j (0, 1) = (-((T.getD i []).getD j (0, 1)).1, ((T.getD i []).getD j (0, 1)).2) := by
  unfold ngT
  rw [getD_map (e := []) (by rw [sq.len]; exact hi), getD_map (e := (0, 1)) (by rw [sq.row _ (row_mem sq hi)]; exact hj)]
theorem ngT_val {n : Nat} {T : Tb} (sq : Sq n T) {i j : Nat} (hi : i < n) (hj : j < n) : Tf (ngT T) i j = -Tf T i j := by
  unfold Tf
  rw [ngT_get sq hi hj]
  exact (neg_lw (low_getD (sq.low _ (row_mem sq hi)) j)).2
end EP

namespace L2.EP
open PySem PySem.Spec PyProof.Rows
section
variable {X : Cx} {Γ : GEnv} {D : GD} {α β γ : Type} [Py α] [Py β] [Py γ] {e e1 e2 ek ec : Expr} {b b1 b2 : Bool} {pos : Pos} {rest st : List Stmt}
theorem s_setL [PyT β] (i : Nat) {xs : List β} {k : Int} {c : β} {x : Str} {p p' : Pos} (hg : Γ[i]? = some (some (.dpo xs))) (hk : E X Γ ek b2 k) (he : E X Γ e b c) (h0 : 0 ≤ k) (hl : k < xs.length) (h : S X (Γ.set i (some (.dpo (xs.set k.toNat c)))) rest D) (hi : X.N[i]? = some x := by rfl)
    (hv : Vis X.env.scope x := by first | exact Or.inl rfl | exact Or.inr (Or.inl rfl) | exact Or.inr (Or.inr rfl)) (hd : (x == ("__debug__" : Str)) = false := by decide) (hcd : (x == ("__classdict__" : Str)) = false := by decide)
    (ha : ∀ v, assign (.Subscript (.Name x p) ek p') X.env v = (do
      let ov ← holding [v] (eval (.Name x p) X.env)
      let iv ← holding [v, ov] (eval ek X.env)
      standAt p'
      holding [v, ov, iv] (setItem ov iv v)
      release [v, ov, iv] []) := by intro _; rfl)
    (hs : swapsWithSole [.Subscript (.Name x p) ek p'] e pos.line X.env = pure false := by rfl) (hw : swappedStores [.Subscript (.Name x p) ek p'] e X.env = pure none := by rfl)
    (h1 : (assignEach [.Subscript (.Name x p) ek p'] X.env).map (·.2) = [assign (.Subscript (.Name x p) ek p') X.env] := by rfl) : S X Γ (.Assign [.Subscript (.Name x p) ek p'] e pos :: rest) D := by
  with_unfolding_all
    exact s_seq (ps_wk (ps_asg he (pg_sub (pv i hi hv hd hcd) hk set_list ha) hs hw h1) fun De σ H ⟨H0, F, O, Z, n, _⟩ => ⟨H0, F, O, Z, fun u H1 z1 ru => by
        obtain ⟨v, Di, hv1, _, _, _⟩ := (Z.go z1).write hg True.intro
        refine ⟨v, hv1, H0, F, O, Z.go z1, fun y H3 z3 ry => ?_⟩
        obtain ⟨v', Di, hv2, ⟨q, ys, e1, sq, nn, rr⟩, hO, wr⟩ := (Z.go (z1.trans z3)).write hg True.intro
        rw [hv1] at hv2
        have ev : v = v' := Option.some.inj (Option.some.inj hv2)
        subst ev
        have ey : y = V.int k := ry
        subst ey
        have hq : H3 q = some (.lst ys) := nn.2
        have hly : k < ys.length := by rw [pr_len rr]; exact hl
        have hix : ixN ys.length k = some k.toNat := by
          unfold ixN; rw [if_pos h0, if_pos (by omega)]
        have ht : ∀ p zs, Rd H3 p (.tup zs) → Rd (upd H3 q (.lst (ys.set k.toNat u))) p (.tup zs) := fun p zs h => by
          have hp : p ≠ q := fun w => by
            subst w
            rcases h with h | ⟨o, h⟩
            · rw [hq] at h; cases h
            · rw [hq] at h; cases h
          rcases h with h | ⟨o, h⟩
          · exact .inl (by rw [upd_ne hp]; exact h)
          · exact .inr ⟨o, by rw [upd_ne hp]; exact h⟩
        refine ⟨q, ys, k, k.toNat, e1, rfl, hq, hix, ?_⟩
        obtain ⟨Z', eo⟩ := wr q (ys.set k.toNat u) (some (.dpo (xs.set k.toNat c))) nn.1 fun g'' e' => by
          cases e'
          exact ⟨True.intro, q, _, e1, SqL.of upd_same, ⟨nn.1, upd_same⟩, pr_set (PyT.free (fun p xs w => ht p xs (Same.rd ((off_same _ _).trans z3) w)) ru) k.toNat (pr_imp (fun _ _ z => PyT.free ht z) rr)⟩
        exact n _ _ _ _ (by rw [eo]; exact off_mono (z1.trans z3)) Z' h⟩)
end
end L2.EP

namespace L2.EP
open PySem PySem.Spec PyProof.Rows
section
variable {X : Cx} {Γ : GEnv} {D : GD} {α β γ : Type} [Py α] [Py β] [Py γ] {e e1 e2 : Expr} {b b1 b2 : Bool} {pos : Pos} {rest st : List Stmt}
theorem g_two (i j : Nat) {x y : Str} {p1 p2 p3 : Pos} {k : Nat} (hN : X.N.Nodup) (hc : X.calm = true := by rfl) (hi : X.N[i]? = some x := by rfl) (hj : X.N[j]? = some y := by rfl)
    (hx : Loc X.env.scope x := by first | exact Or.inl rfl | exact Or.inr rfl) (hy : Loc X.env.scope y := by first | exact Or.inl rfl | exact Or.inr rfl)
    (hf : X.fn x = true ∨ X.env.scope.names.lookup x = some .local := by first | exact .inl rfl | exact .inr rfl) (hf2 : X.fn y = true ∨ X.env.scope.names.lookup y = some .local := by first | exact .inl rfl | exact .inr rfl)
    (hn : (assignEach [.Name x p1, .Name y p2] X.env).length = 2 := by rfl)
    (hst : (assignEach [.Name x p1, .Name y p2] X.env).findIdx? (·.1) = none := by rfl) (ha1 : assignEach [.Name x p1, .Name y p2] X.env = (false, assign (.Name x p1) X.env) :: assignEach [.Name y p2] X.env := by rfl) (ha2 : assignEach [.Name y p2] X.env = (false, assign (.Name y p2) X.env) :: assignEach [] X.env := by rfl) :
    G X (.Tuple [.Name x p1, .Name y p2] k p3) (gTup X.K 2 (gCons (gName i) (gCons (gName j) gNil))) (α × β) (fun b u Γ => (Γ.set i (some (.val b u.1))).set j (some (.val b u.2))) (fun k => k = i ∨ k = j) := by
  with_unfolding_all
    exact ⟨pg_tup hc (pgs_cons (pg_name hN hi hx hf) (pgs_cons (pg_name hN hj hy hf2) pgs_nil)), gp_two i j⟩
end
end L2.EP

namespace L2.EP
open PySem PySem.Spec PyProof.Rows
section
variable {X : Cx} {Γ : GEnv} {D : GD} {α β γ : Type} [Py α] [Py β] [Py γ] {e e1 e2 ek : Expr} {b b1 b2 : Bool} {pos : Pos} {rest st : List Stmt}
theorem s_ownlist (i : Nat) {as : List α} {x : Str} {p pl p1 : Pos} (hN : X.N.Nodup) (hg : Gl X "list") (hm : X.mg "list" = none) (ha : E X Γ e b as) (h : S X (Γ.set i (some (.own b as))) rest D) (hs0 : starEach [e] X.env = (false, eval e X.env) :: starEach [] X.env := by rfl) (hi : X.N[i]? = some x := by rfl) (hx : Loc X.env.scope x := by first | exact Or.inl rfl | exact Or.inr rfl)
    (hs2 : swapsWith (.Call (.Name "list" pl) [e] [] p) (some (.Name x p1)) pos.line X.env = pure false := by rfl) (hf : X.fn x = true ∨ X.env.scope.names.lookup x = some .local := by first | exact .inl rfl | exact .inr rfl) : S X Γ (.Assign [.Name x p1] (.Call (.Name "list" pl) [e] [] p) pos :: rest) D := by
  with_unfolding_all
    exact s_seq (ps_wk (ps_set hN hi hx (pe_callTy call_list_of hg hm PyProof.Rows.boot_list (pa_cons ha pa_nil hs0) (he := hs0)) hs2 hf) fun De σ H ⟨H0, F, O, Z, n, _⟩ => ⟨H0, F, O, Z, fun v H1 s1 r1 => by
        obtain ⟨q0, vs, ev, sq, nn, r⟩ := r1
        refine ⟨q0, vs, by rw [ev], .inl ((off_same _ _).seq sq), fun q hq => ?_⟩
        have zz := same_upd hq (.lst vs)
        have hq0 : H q = none := s1.free hq
        have kp : Same (off H1 O) (off (upd H1 q (.lst vs)) fun p => O p ∨ p = q) := fun a o w => by
          obtain ⟨w1, w2⟩ := off_some w
          have haq : a ≠ q := ne_of_none w2 hq
          rw [off_get (by rintro (z | z); exact w1 z; exact haq z), upd_ne haq]
          exact w2
        obtain ⟨Z', so⟩ := Z.putOwn (i := i) (v := .ref q) (s1.trans zz) (· = q) (fun r e => by subst e; exact ⟨hq0, .inl vs, upd_same⟩) (Bd.own b as) True.intro ⟨q, vs, rfl, rfl, upd_same, pr_imp (fun _ _ z => rp_mono kp z) r⟩
        exact n _ _ _ _ so Z' h⟩)
theorem s_setO (i : Nat) {as : List α} {a : α} {k : Int} {x : Str} {p p' : Pos} (hg : Γ[i]? = some (some (.own b as))) (hk : E X Γ ek b2 k) (he : E X Γ e b a) (h0 : 0 ≤ k) (hl : k < as.length) (h : S X (Γ.set i (some (.own b (as.set k.toNat a)))) rest D) (hi : X.N[i]? = some x := by rfl)
    (hv : Vis X.env.scope x := by first | exact Or.inl rfl | exact Or.inr (Or.inl rfl) | exact Or.inr (Or.inr rfl)) (hd : (x == ("__debug__" : Str)) = false := by decide) (hcd : (x == ("__classdict__" : Str)) = false := by decide)
    (ha : ∀ v, assign (.Subscript (.Name x p) ek p') X.env v = (do
      let ov ← holding [v] (eval (.Name x p) X.env)
      let iv ← holding [v, ov] (eval ek X.env)
      standAt p'
      holding [v, ov, iv] (setItem ov iv v)
      release [v, ov, iv] []) := by intro _; rfl)
    (hs : swapsWithSole [.Subscript (.Name x p) ek p'] e pos.line X.env = pure false := by rfl) (hw : swappedStores [.Subscript (.Name x p) ek p'] e X.env = pure none := by rfl)
    (h1 : (assignEach [.Subscript (.Name x p) ek p'] X.env).map (·.2) = [assign (.Subscript (.Name x p) ek p') X.env] := by rfl) : S X Γ (.Assign [.Subscript (.Name x p) ek p'] e pos :: rest) D := by
  with_unfolding_all
    exact s_seq (ps_wk (ps_asg he (pg_sub (pv i hi hv hd hcd) hk set_list ha) hs hw h1) fun De σ H ⟨H0, F, O, Z, n, _⟩ => ⟨H0, F, O, Z, fun u H1 z1 ru => by
        obtain ⟨v, Di, hv1, _, _, _⟩ := (Z.go z1).write hg True.intro
        refine ⟨v, hv1, H0, F, O, Z.go z1, fun y H3 z3 ry => ?_⟩
        obtain ⟨v', Di, hv2, ⟨q, ys, e1, w2, hq, rr⟩, hO, wr⟩ := (Z.go (z1.trans z3)).write hg True.intro
        rw [hv1] at hv2
        have ev : v = v' := Option.some.inj (Option.some.inj hv2)
        subst ev
        have ey : y = V.int k := ry
        subst ey
        have hly : k < ys.length := by rw [pr_len rr]; exact hl
        have hix : ixN ys.length k = some k.toNat := by
          unfold ixN; rw [if_pos h0, if_pos (by omega)]
        refine ⟨q, ys, k, k.toNat, e1, rfl, hq, hix, ?_⟩
        obtain ⟨Z', eo⟩ := wr q (ys.set k.toNat u) (some (.own b (as.set k.toNat a))) w2 fun g'' e' => by
          cases e'
          refine ⟨True.intro, q, _, e1, w2, upd_same, ?_⟩
          rw [off_upd (hO q w2).1]
          exact pr_set (rp_mono (off_mono z3) ru) k.toNat rr
        exact n _ _ _ _ (by rw [eo]; exact off_mono (z1.trans z3)) Z' h⟩)
theorem s_ownN [PyT β] (i : Nat) {rows : List (List β)} {x : Str} {p : Pos} (hN : X.N.Nodup) (he : EN X Γ e rows) (h : S X (Γ.set i (some (.own true rows))) rest D) (hi : X.N[i]? = some x := by rfl) (hx : Loc X.env.scope x := by first | exact Or.inl rfl | exact Or.inr rfl)
    (hs : swapsWith e (some (.Name x p)) pos.line X.env = pure false := by rfl) (hf : X.fn x = true ∨ X.env.scope.names.lookup x = some .local := by first | exact .inl rfl | exact .inr rfl) : S X Γ (.Assign [.Name x p] e pos :: rest) D := by
  with_unfolding_all
    exact s_seq (ps_wk (ps_set hN hi hx he hs hf) fun De σ H ⟨H0, F, O, Z, n, _⟩ => ⟨H0, F, O, Z, fun v H1 s1 r1 => by
        obtain ⟨q, vs, ev, sq, nn, r⟩ := r1
        subst ev
        obtain ⟨n1, n2⟩ := nn
        have hq1 : H1 q = some (.lst vs) := (off_same _ _) _ _ n2
        have hne : ∀ x r', x ∈ vs → Py.rp X.K (.new H) (off H1 O) x r' → ∀ q', x = V.ref q' → ∀ (ws : List V), off H1 O q' = some (.lst ws) → Paired (fun x (b : β) => Py.rp X.K (.new H) (off H1 O) x b) ws r' → q' ≠ q := fun x r' hx hr q' e1 ws m2 rr z => by
          subst z
          have hw : ws = vs := by
            have := (off_same _ _) _ _ m2
            rw [hq1] at this; cases this; rfl
          subst hw
          cases rr with
          | nil => cases hx
          | cons a1 _ => cases r with
            | cons b1 _ =>
              obtain ⟨q2, ws2, e2, sq2, nn2, _⟩ := b1
              subst e2
              exact PyT.nl a1 nn2.2
        have ho : ∀ a o, off H1 O a = some o → a ≠ q → off H1 (fun p => O p ∨ p = q) a = some o := fun a o w hne => by
          obtain ⟨w1, w2⟩ := off_some w
          rw [off_get (by rintro (z | z); exact w1 z; exact hne z)]; exact w2
        have ht : ∀ a xs, Rd (off H1 O) a (.tup xs) → Rd (off H1 fun p => O p ∨ p = q) a (.tup xs) := fun a xs w => by
          have haq : a ≠ q := fun z => by
            subst z
            rcases w with w | ⟨o, w⟩
            · have := (off_same _ _) _ _ w; rw [hq1] at this; cases this
            · have := (off_same _ _) _ _ w; rw [hq1] at this; cases this
          rcases w with w | ⟨o, w⟩
          · exact .inl (ho _ _ w haq)
          · exact .inr ⟨o, ho _ _ w haq⟩
        have key : ∀ (l : List V) (rs : List (List β)), (∀ x ∈ l, x ∈ vs) → Paired (fun x b => Py.rp X.K (.new H) (off H1 O) x b) l rs → Paired (fun x a => Py.rp X.K (Nf H0 true) (off H1 fun p => O p ∨ p = q) x a) l rs := fun l rs hl pr => by
          induction pr with
          | nil => exact .nil
          | cons z _ ih =>
            refine .cons ?_ (ih fun x hx => hl x (List.mem_cons_of_mem _ hx))
            have hx := hl _ List.mem_cons_self
            have z' := z
            obtain ⟨q', ws, e1, sq', ⟨m1, m2⟩, rr⟩ := z
            have m2' := ho _ _ m2 (hne _ _ hx z' q' e1 ws m2 rr)
            exact ⟨q', ws, e1, SqL.of m2', ⟨Z.free0 m1, m2'⟩, pr_imp (fun _ _ z => PyT.free ht z) rr⟩
        obtain ⟨Z', so⟩ := Z.putOwn (i := i) (v := .ref q) s1 (· = q) (fun r e => by subst e; exact ⟨n1, .inl vs, hq1⟩) (Bd.own true rows) True.intro ⟨q, vs, rfl, rfl, hq1, key vs rows (fun x hx => hx) r⟩
        exact n _ _ _ _ so Z' h⟩)
end
end L2.EP

namespace L2.EP
open PySem PySem.Spec PyProof.Rows
section
variable {X : Cx} {Γ : GEnv} {D : GD} {α β γ : Type} [Py α] [Py β] [Py γ] {e e1 e2 : Expr} {b b1 b2 : Bool} {pos p : Pos} {rest st : List Stmt}
theorem en_borrowO [PyT β] (i : Nat) {as : List α} {xs : List β} (hg : Γ[i]? = some (some (.own b as))) (h : EN X (Γ.set i (some (.val b as))) e xs) : EN X Γ e xs := by
  with_unfolding_all
    exact pe_wk h fun σ H Q ⟨H0, F, O, Z, q⟩ => by
      obtain ⟨O', Z', so⟩ := Z.freeze hg True.intro (g' := .val b as) (fun z => z) fun Di O' v z1 z2 z3 _ => ok_own z1 z2 z3
      refine ⟨H0, F, O', Z', fun v H' s r => q v H' s ?_⟩
      obtain ⟨p, vs, e, sq, n, r⟩ := r
      have hO : ¬ O p := Z.notOwn n.1
      have hp : off H' O p = some (.lst vs) := by
        rw [off_get hO]
        exact off_same _ _ _ _ n.2
      exact ⟨p, vs, e, SqL.of hp, ⟨n.1, hp⟩, pr_imp (fun _ _ z => PyT.free (fun a xs w => rd_tup_off (Z.go s).own a xs (Same.rd (off_same _ _) w)) z) r⟩
end
end L2.EP

namespace L2.EP
open PySem PySem.Spec PyProof.Rows
section
variable {X : Cx} {Γ : GEnv} {D : GD} {α β : Type} [Py α] [Py β] {e elt target iter : Expr} {b b' : Bool} {pos : Pos} {rest st : List Stmt} {scope : Scope} {tn : List Str} {js : List Nat} {g : TG} {tc : Nat → Prop} {put : Bool → α → GEnv → GEnv} {as : List α}
theorem pr_rev {α β : Type} {F : α → β → Prop} : ∀ {l₁ : List α} {l₂ : List β}, Paired F l₁ l₂ → Paired F l₁.reverse l₂.reverse
  | _, _, .nil => .nil
  | _, _, .cons h t => by
    rw [List.reverse_cons, List.reverse_cons]
    exact pr_app (pr_rev t) (.cons h .nil)
theorem s_reverse (i : Nat) {as : List α} {x : Str} {p ap cp : Pos} (hg : Γ[i]? = some (some (.own b as))) (h : S X (Γ.set i (some (.own b as.reverse))) rest D) (hi : X.N[i]? = some x := by rfl)
    (hv : Vis X.env.scope x := by first | exact Or.inl rfl | exact Or.inr (Or.inl rfl) | exact Or.inr (Or.inr rfl)) (hd : (x == ("__debug__" : Str)) = false := by decide) (hcd : (x == ("__classdict__" : Str)) = false := by decide)
    (hbase : attributeBase (.Name x p) "reverse" X.env (eval (.Name x p) X.env) = eval (.Name x p) X.env := by rfl)
    (hline : (ap.endLine == cp.line) = true := by rfl) (hsw : swapsWith (.Call (.Attribute (.Name x p) "reverse" ap) [] [] cp) none pos.line X.env = pure false := by rfl) :
    S X Γ (.Expr (.Call (.Attribute (.Name x p) "reverse" ap) [] [] cp) pos :: rest) D := by
  with_unfolding_all
    exact s_seq (ps_wk (ps_expr (pe_bm0 PySem.F.plainAttrs_list PySem.F.slot_list_reverse PySem.F.type_list_reverse mt_reverse (pv i hi hv hd hcd) hbase hline) hsw) fun De σ H ⟨H0, F, O, Z, n, _⟩ => by
        obtain ⟨v, Di, hv1, ⟨q, xs, hq1, hq2, hq3, hq4⟩, hO', wr⟩ := Z.write hg True.intro
        subst hq1
        refine ⟨.ref q, hv1, .inl ⟨rfl, xs, SqL.of hq3⟩, q, xs, rfl, rfl, hq3, ?_⟩
        obtain ⟨Z', eo⟩ := wr q xs.reverse (some (.own b as.reverse)) hq2 fun g'' e' => by
          cases e'
          refine ⟨True.intro, q, _, rfl, hq2, upd_same, ?_⟩
          rw [off_upd (hO' q hq2).1]
          exact pr_rev hq4
        exact n _ _ _ _ (by rw [eo]; exact Same.refl _) Z' h)
theorem e_compTT {f : α → List β} (tn : List Str) (js : List Nat) (S : CScope X scope tn js) (he : EI X Γ target iter b as) (hgp : GP g α put tc X.K) (hg : ∀ C s H fp, PG (blk X (cN X tn js) scope C s H fp) target g) (htc : ∀ j, tc j → j < tn.length)
    (hb : ∀ (i : Nat) (a : α), as[i]? = some a → ∀ C s H fp, EN (blk X (cN X tn js) scope C s H fp) (put b a (cΓ Γ tn js)) elt (f a)) (hl : as.length ≤ 1000) (hc : X.calm = true := by rfl)
    (hs : ∀ x, foldedSetIterable iter X.env x = pure x := by intro _; rfl) : E X Γ (.ListComp elt [⟨target, iter, [], 0⟩] scope pos) true (TbO.mk (as.map f)) := by
  with_unfolding_all
    obtain ⟨wi, hi, hw⟩ := he
    exact pe_wk (pe_lc S hc hi (fun C s H fp => ⟨hg C s H fp, ttC_ok, teN_ok⟩) hs) fun σ H Q ⟨H0, F, O, Z, q⟩ => comp_wkT hw hgp htc hb hl Z fun v H' s' r' => q v H' s' (new_less Z.same r')
end
end L2.EP

namespace L2.EP
open PySem PySem.Spec PyProof.Rows
section
variable {X : Cx} {Γ : GEnv} {D : GD} {α β γ δ : Type} [Py α] [Py β] [Py γ] [Py δ] {e e1 e2 e3 : Expr} {b b1 b2 b3 : Bool} {pos p : Pos} {k : Nat} {name : Str} {ps : List Str}
theorem en_call3 {pre : α → β → γ → Prop} {f : α → β → γ → δ} {a : α} {c : β} {d : γ} (C : Cal X.prog X.w X.K X.mg X.base k name ps (sp3 X.K pre true f)) (hr : Room k X.A) (hg : Gl X name) (h1 : E X Γ e1 b1 a) (h2 : E X Γ e2 b2 c) (h3 : E X Γ e3 b3 d) (hp : pre a c d)
    (hs1 : starEach [e1, e2, e3] X.env = (false, eval e1 X.env) :: starEach [e2, e3] X.env := by rfl) (hs2 : starEach [e2, e3] X.env = (false, eval e2 X.env) :: starEach [e3] X.env := by rfl) (hs3 : starEach [e3] X.env = (false, eval e3 X.env) :: starEach [] X.env := by rfl) (hdb : (name == ("__debug__" : Str)) = false := by decide) (hpl : (backTo pos (starEach [e2, e3] X.env)).any (·.1) = false := by rfl) :
    EN X Γ (.Call (.Name name p) [e1, e2, e3] [] pos) (f a c d) := by
  with_unfolding_all
    obtain ⟨fa, fd, F, B, kp, m⟩ := C.ex
    exact pe_wk (pe_call F hr hg m kp B .nil pass0 (pa_cons h1 (pa_cons h2 (pa_cons h3 pa_nil hs3) hs2) hs1) hdb hs1 hpl) fun σ H Q ⟨H0, F, O, S, q⟩ => ⟨H0, F, O, S, fun v1 H1 s1 r1 => ⟨H0, F, O, S.go s1, fun v2 H2 s2 r2 => ⟨H0, F, O, (S.go s1).go s2, fun v3 H3 s3 r3 =>
      ⟨O, v1, v2, v3, a, c, d, (S.go (s1.trans (s2.trans s3))).own, rfl, rp_wid nf_true (rp_mono (off_mono (s2.trans s3)) r1), rp_wid nf_true (rp_mono (off_mono s3) r2), rp_wid nf_true r3, hp, fun r H' s' z => q r H' (s1.trans (s2.trans (s3.trans s'))) (new_less (s1.trans (s2.trans s3)) z)⟩⟩⟩⟩
theorem e_new {a : α} (h : EN X Γ e a) : E X Γ e true a := by
  with_unfolding_all
    exact pe_wk h fun σ H Q ⟨H0, F, O, Z, q⟩ => ⟨H0, F, O, Z, fun v H1 s1 r1 => q v H1 s1 (new_less Z.same r1)⟩
end
end L2.EP

namespace L2.EP
open PySem PySem.Spec PyProof.Rows
section
variable {X : Cx} {Γ : GEnv} {D : GD} {α β : Type} [Py α] [Py β] {elt target iter : Expr} {b : Bool} {pos : Pos} {scope : Scope} {g : TG} {tc : Nat → Prop} {put : Bool → α → GEnv → GEnv} {as : List α}
theorem s_compO [PyT β] (i : Nat) {f : α → List β} {y : Str} {py spos : Pos} {rest : List Stmt} (hN : X.N.Nodup) (tn : List Str) (js : List Nat) (S' : CScope X scope tn js) (he : EI X Γ target iter b as) (hgp : GP g α put tc X.K) (hg : ∀ C s H fp, PG (blk X (cN X tn js) scope C s H fp) target g) (htc : ∀ j, tc j → j < tn.length)
    (hb : ∀ (i : Nat) (a : α), as[i]? = some a → ∀ C s H fp, EN (blk X (cN X tn js) scope C s H fp) (put b a (cΓ Γ tn js)) elt (f a)) (hl : as.length ≤ 1000)
    (h : S X (Γ.set i (some (.own true (as.map f)))) rest D) (hiN : X.N[i]? = some y := by rfl) (hy : Loc X.env.scope y := by first | exact Or.inl rfl | exact Or.inr rfl)
    (hf : X.fn y = true ∨ X.env.scope.names.lookup y = some .local := by first | exact .inl rfl | exact .inr rfl) (hc : X.calm = true := by rfl)
    (hsw : swapsWith (.ListComp elt [⟨target, iter, [], 0⟩] scope pos) (some (.Name y py)) spos.line X.env = pure true := by rfl)
    (hs : ∀ x, foldedSetIterable iter X.env x = pure x := by intro _; rfl) : EP.S X Γ (.Assign [.Name y py] (.ListComp elt [⟨target, iter, [], 0⟩] scope pos) spos :: rest) D := by
  with_unfolding_all
    obtain ⟨wi, hi, hw⟩ := he
    exact s_seq (ps_wk (ps_setLC hN hiN hy hf S' hc hi (fun C s H fp => ⟨hg C s H fp, ttC_ok, teN_ok⟩) hsw hs) fun De σ H ⟨H0, F, O, Z, n, _⟩ => comp_wkT hw hgp htc hb hl Z fun v H1 s1 r1 => by
        replace r1 := tb_list r1
        generalize as.map f = rows at *
        obtain ⟨q, vs, ev, sq, nn, r⟩ := r1
        subst ev
        obtain ⟨n1, n2⟩ := nn
        have hq1 : H1 q = some (.lst vs) := (off_same _ _) _ _ n2
        have hne : ∀ x r', x ∈ vs → Py.rp X.K (.new H) (off H1 O) x r' → ∀ q', x = V.ref q' → ∀ (ws : List V), off H1 O q' = some (.lst ws) → Paired (fun x (b : β) => Py.rp X.K (.new H) (off H1 O) x b) ws r' → q' ≠ q := fun x r' hx hr q' e1 ws m2 rr z => by
          subst z
          have hw : ws = vs := by
            have := (off_same _ _) _ _ m2
            rw [hq1] at this; cases this; rfl
          subst hw
          cases rr with
          | nil => cases hx
          | cons a1 _ => cases r with
            | cons b1 _ =>
              obtain ⟨q2, ws2, e2, sq2, nn2, _⟩ := b1
              subst e2
              exact PyT.nl a1 nn2.2
        have ho : ∀ a o, off H1 O a = some o → a ≠ q → off H1 (fun p => O p ∨ p = q) a = some o := fun a o w hne => by
          obtain ⟨w1, w2⟩ := off_some w
          rw [off_get (by rintro (z | z); exact w1 z; exact hne z)]; exact w2
        have ht : ∀ a xs, Rd (off H1 O) a (.tup xs) → Rd (off H1 fun p => O p ∨ p = q) a (.tup xs) := fun a xs w => by
          have haq : a ≠ q := fun z => by
            subst z
            rcases w with w | ⟨o, w⟩
            · have := (off_same _ _) _ _ w; rw [hq1] at this; cases this
            · have := (off_same _ _) _ _ w; rw [hq1] at this; cases this
          rcases w with w | ⟨o, w⟩
          · exact .inl (ho _ _ w haq)
          · exact .inr ⟨o, ho _ _ w haq⟩
        have key : ∀ (l : List V) (rs : List (List β)), (∀ x ∈ l, x ∈ vs) → Paired (fun x b => Py.rp X.K (.new H) (off H1 O) x b) l rs → Paired (fun x a => Py.rp X.K (Nf H0 true) (off H1 fun p => O p ∨ p = q) x a) l rs := fun l rs hl pr => by
          induction pr with
          | nil => exact .nil
          | cons z _ ih =>
            refine .cons ?_ (ih fun x hx => hl x (List.mem_cons_of_mem _ hx))
            have hx := hl _ List.mem_cons_self
            have z' := z
            obtain ⟨q', ws, e1, sq', ⟨m1, m2⟩, rr⟩ := z
            have m2' := ho _ _ m2 (hne _ _ hx z' q' e1 ws m2 rr)
            exact ⟨q', ws, e1, SqL.of m2', ⟨Z.free0 m1, m2'⟩, pr_imp (fun _ _ z => PyT.free ht z) rr⟩
        obtain ⟨Z', so⟩ := Z.putOwn (i := i) (v := .ref q) s1 (· = q) (fun r e => by subst e; exact ⟨n1, .inl vs, hq1⟩) (Bd.own true rows) True.intro ⟨q, vs, rfl, rfl, hq1, key vs rows (fun x hx => hx) r⟩
        exact n _ _ _ _ so Z' h)
end
end L2.EP

namespace L2.EP
open PySem PySem.Spec PyProof.Rows
structure Ap (β : Type) where
  a : List β
  b : List (List β)
instance {β : Type} [Py β] : Py (Ap β) where
  rp K N H v u := ∃ p x y q ys, v = .ref p ∧ Rd H p (.tup [x, y]) ∧ Py.rp K N H x u.a ∧ y = .ref q ∧ x ≠ y ∧ SqL K H q ys ∧ N.has H q (.inl ys) ∧ x ∉ ys ∧ Paired (fun z (r : List β) => Py.rp K N H z r) ys u.b
  tr l t h := by
    obtain ⟨p, x, y, q, ys, e, s, h1, e2, ne, s2, n, nm, h2⟩ := h
    obtain ⟨s', n'⟩ := l _ (.inl ys) s2 n
    exact ⟨p, x, y, q, ys, e, t _ _ s, Py.tr l t h1, e2, ne, s', n', nm, pr_imp (fun _ _ z => Py.tr l t z) h2⟩
theorem ap_pair {β : Type} [Py β] {K : PySem.W.Frag} {N : Nn} {H : Hp} {v : V} {u : Ap β} (h : Py.rp K N H v u) : Py.rp K N H v (u.a, u.b) := by
  obtain ⟨p, x, y, q, ys, e, s, h1, e2, ne, s2, n, nm, h2⟩ := h
  exact ⟨p, x, y, e, s, h1, q, ys, e2, s2, n, h2⟩
section
variable {K : PySem.W.Frag} {H0 : Hp} {F O : Addr → Prop} {Γ : GEnv} {σ : St} {H H' : Hp}
end
section
variable {X : Cx} {Γ : GEnv} {D : GD} {α β γ : Type} [Py α] [Py β] [Py γ] {e e1 e2 : Expr} {b b1 b2 : Bool} {pos p : Pos} {rest st : List Stmt}
theorem e_tupAp [PyT β] {a : List β} {c : List (List β)} {k : Nat} (ha : E X Γ e1 true a) (hb : EN X Γ e2 c) (hs : starEach [e1, e2] X.env = (false, eval e1 X.env) :: starEach [e2] X.env := by rfl) (hs2 : starEach [e2] X.env = (false, eval e2 X.env) :: starEach [] X.env := by rfl) :
    E X Γ (.Tuple [e1, e2] k pos) true (Ap.mk a c) := by
  with_unfolding_all
    exact pe_wk (pe_tup (pa_cons ha (pa_cons hb pa_nil hs2) hs)) fun σ H Q ⟨H0, F, O, S, q⟩ => ⟨H0, F, O, S, fun v H1 s1 r1 => ⟨H0, F, O, S.go s1, fun w H2 s2 r2 => ⟨by show 2 ≤ sizeLine; decide, fun p hp => by
        obtain ⟨z1, z2⟩ := laid_tup (xs := [v, w]) ((S.go s1).go s2) hp
        obtain ⟨p1, xs, ex, sx, nx, rx⟩ := r1
        have hx1 : H1 p1 = some (.lst xs) := (off_same _ _) _ _ nx.2
        obtain ⟨p2, ys, ey, sy, ny, ry⟩ := r2
        have hne : ∀ z, H1 z = none → z ≠ p1 := fun z hz w => by rw [w, hx1] at hz; cases hz
        refine q _ _ (s1.trans (s2.trans z1)) ⟨p, v, w, p2, ys, rfl, z2, rp_mono ((off_mono s2).trans (off_mono z1)) ⟨p1, xs, ex, sx, nx, rx⟩, ey, ?_, (off_mono z1).seq sy, Nn.mono (off_mono z1) (N := .new H0) ⟨(S.go s1).free0 ny.1, ny.2⟩, ?_, ?_⟩
        · rw [ex, ey]
          intro z
          cases z
          exact hne _ ny.1 rfl
        · rw [ex]
          intro hm
          obtain ⟨m, hm⟩ := List.mem_iff_getElem?.mp hm
          obtain ⟨r', _, ⟨p3, zs, e3, s3, n3, r3⟩⟩ := pr_get' ry hm
          cases e3
          exact hne _ n3.1 rfl
        · exact pr_imp (fun _ _ z => rp_mono (off_mono z1) (rp_wid (N := .new H1) (N' := .new H0) (fun _ _ n => ⟨(S.go s1).free0 n.1, n.2⟩) z)) ry⟩⟩⟩
theorem e_ap {u : Ap β} (h : E X Γ e b u) : E X Γ e b (u.a, u.b) := by
  with_unfolding_all
    exact pe_wk h fun σ H Q ⟨H0, F, O, Z, q⟩ => ⟨H0, F, O, Z, fun v H1 s1 r1 => q v H1 s1 (ap_pair r1)⟩
end
end L2.EP

namespace L2.EP
open PySem PySem.Spec PyProof.Rows
def CPowB (i j : Int) : Prop := 0 ≤ j ∧ (Builtin.Int.intBits i : Int) * j ≤ 2 ^ 27
theorem op_powB {X : Cx} : OpR X (binaryOp .Pow) (rI CPowB fun i j => .int (i ^ j.toNat)) := opI fun _ _ _ _ _ _ _ hc q => pow_int hc.1 hc.2 q
theorem e_powB {X : Cx} {Γ : GEnv} {e1 e2 : Expr} {b1 b2 : Bool} {pos : Pos} {i j : Int} (ha : E X Γ e1 b1 i) (hb : E X Γ e2 b2 j) (hc : CPowB i j) : E X Γ (.BinOp e1 .Pow e2 pos) true (i ^ j.toNat) := by
  with_unfolding_all
    exact e_ii op_powB ha hb hc
theorem Sm.powB {n : Nat} {i j : Int} (h : Sm n i) (hj : 0 ≤ j) (l : (n : Int) * j ≤ 2 ^ 27) : CPowB i j := by
  refine ⟨hj, Int.le_trans (Int.mul_le_mul_of_nonneg_right ?_ hj) l⟩
  have := h.bits
  omega
theorem Cal.imp2 {P : Program} {w : World} {K : PySem.W.Frag} {mg : Str → Option Value} {base : Heap} {k : Nat} {name : Str} {ps : List Str} {α β γ : Type} [Py α] [Py β] [Py γ] {pre pre' : α → β → Prop} {b : Bool} {f : α → β → γ} (C : Cal P w K mg base k name ps (sp2 K pre b f)) (h : ∀ a c, pre' a c → pre a c) : Cal P w K mg base k name ps (sp2 K pre' b f) := by
  obtain ⟨fa, fd, F, B, kp, m⟩ := C.ex
  exact ⟨fa, fd, F.imp fun vs H Q E ⟨O, v, w, a, c, h1, h2, h3, h4, h5, h6⟩ => ⟨O, v, w, a, c, h1, h2, h3, h4, h _ _ h5, h6⟩, B, kp, m⟩
end L2.EP

namespace L2.EP.K
open PySem PySem.Spec PyProof.Rows
open _root_.EP (fr fd)
def top (i : Nat) : Stmt := PySem.Challenge.pw_everyplace_k12_signs_are_kept.main.body.getD i (.Pass ⟨0, 0, 0, 0⟩)
abbrev s_common_divisor : Stmt := top 1
abbrev N_common_divisor : List Str := ["a", "b", "rest"]
theorem sc_common_divisor : FnScope N_common_divisor ["a", "b"] (defScope s_common_divisor) := ⟨rfl, rfl, rfl, by decide +kernel, rfl, by decide +kernel, by decide +kernel⟩
abbrev s_fraction : Stmt := top 2
abbrev N_fraction : List Str := ["top", "bottom", "divisor"]
theorem sc_fraction : FnScope N_fraction ["top", "bottom"] (defScope s_fraction) := ⟨rfl, rfl, rfl, by decide +kernel, rfl, by decide +kernel, by decide +kernel⟩
abbrev s_plain_list : Stmt := top 4
abbrev N_plain_list : List Str := ["n", "place"]
theorem sc_plain_list : FnScope N_plain_list ["n", "place"] (defScope s_plain_list) := ⟨rfl, rfl, rfl, by decide +kernel, rfl, by decide +kernel, by decide +kernel⟩
abbrev s_column : Stmt := top 5
abbrev N_column : List Str := ["T", "j"]
theorem sc_column : FnScope N_column ["T", "j"] (defScope s_column) := ⟨rfl, rfl, rfl, by decide +kernel, rfl, by decide +kernel, by decide +kernel⟩
abbrev s_turned_over : Stmt := top 6
abbrev N_turned_over : List Str := ["T"]
theorem sc_turned_over : FnScope N_turned_over ["T"] (defScope s_turned_over) := ⟨rfl, rfl, rfl, by decide +kernel, rfl, by decide +kernel, by decide +kernel⟩
abbrev s_common_bottom : Stmt := top 7
abbrev N_common_bottom : List Str := ["numbers", "bottom", "u"]
theorem sc_common_bottom : FnScope N_common_bottom ["numbers"] (defScope s_common_bottom) := ⟨rfl, rfl, rfl, by decide +kernel, rfl, by decide +kernel, by decide +kernel⟩
abbrev s_over_one_bottom : Stmt := top 8
abbrev N_over_one_bottom : List Str := ["numbers", "bottom"]
theorem sc_over_one_bottom : FnScope N_over_one_bottom ["numbers"] (defScope s_over_one_bottom) := ⟨rfl, rfl, rfl, by decide +kernel, rfl, by decide +kernel, by decide +kernel⟩
abbrev s_sum_of_products : Stmt := top 9
abbrev N_sum_of_products : List Str := ["one", "other", "total"]
theorem sc_sum_of_products : FnScope N_sum_of_products ["one", "other"] (defScope s_sum_of_products) := ⟨rfl, rfl, rfl, by decide +kernel, rfl, by decide +kernel, by decide +kernel⟩
abbrev s_sums_with : Stmt := top 10
abbrev N_sums_with : List Str := ["one", "others"]
theorem sc_sums_with : FnScope N_sums_with ["one", "others"] (defScope s_sums_with) := ⟨rfl, rfl, rfl, by decide +kernel, rfl, by decide +kernel, by decide +kernel⟩
abbrev s_product : Stmt := top 11
abbrev N_product : List Str := ["one", "other", "columns"]
theorem sc_product : FnScope N_product ["one", "other"] (defScope s_product) := ⟨rfl, rfl, rfl, by decide +kernel, rfl, by decide +kernel, by decide +kernel⟩
abbrev s_exchanged : Stmt := top 12
abbrev N_exchanged : List Str := ["rows", "i", "j", "answer"]
theorem sc_exchanged : FnScope N_exchanged ["rows", "i", "j"] (defScope s_exchanged) := ⟨rfl, rfl, rfl, by decide +kernel, rfl, by decide +kernel, by decide +kernel⟩
abbrev s_cleared_row : Stmt := top 13
abbrev N_cleared_row : List Str := ["row", "taken", "k", "before"]
theorem sc_cleared_row : FnScope N_cleared_row ["row", "taken", "k", "before"] (defScope s_cleared_row) := ⟨rfl, rfl, rfl, by decide +kernel, rfl, by decide +kernel, by decide +kernel⟩
abbrev s_quotients : Stmt := top 14
abbrev N_quotients : List Str := ["tops", "bottom"]
theorem sc_quotients : FnScope N_quotients ["tops", "bottom"] (defScope s_quotients) := ⟨rfl, rfl, rfl, by decide +kernel, rfl, by decide +kernel, by decide +kernel⟩
abbrev s_led : Stmt := top 16
abbrev N_led : List Str := ["F", "T"]
theorem sc_led : FnScope N_led ["F", "T"] (defScope s_led) := ⟨rfl, rfl, rfl, by decide +kernel, rfl, by decide +kernel, by decide +kernel⟩
abbrev s_opened : Stmt := top 17
abbrev N_opened : List Str := ["F", "n", "rows", "bottoms", "i", "numbers", "whole"]
theorem sc_opened : FnScope N_opened ["F"] (defScope s_opened) := ⟨rfl, rfl, rfl, by decide +kernel, rfl, by decide +kernel, by decide +kernel⟩
abbrev s_next_places : Stmt := top 18
abbrev N_next_places : List Str := ["rows", "k", "n", "j", "i"]
theorem sc_next_places : FnScope N_next_places ["rows", "k"] (defScope s_next_places) := ⟨rfl, rfl, rfl, by decide +kernel, rfl, by decide +kernel, by decide +kernel⟩
abbrev s_with_sum : Stmt := top 19
abbrev N_with_sum : List Str := ["numbers", "i", "j", "answer"]
theorem sc_with_sum : FnScope N_with_sum ["numbers", "i", "j"] (defScope s_with_sum) := ⟨rfl, rfl, rfl, by decide +kernel, rfl, by decide +kernel, by decide +kernel⟩
abbrev s_added : Stmt := top 20
abbrev N_added : List Str := ["rows", "bottoms", "i", "j", "summed", "bottom"]
theorem sc_added : FnScope N_added ["rows", "bottoms", "i", "j"] (defScope s_added) := ⟨rfl, rfl, rfl, by decide +kernel, rfl, by decide +kernel, by decide +kernel⟩
abbrev s_unknowns_exchanged : Stmt := top 21
abbrev N_unknowns_exchanged : List Str := ["rows", "i", "j"]
theorem sc_unknowns_exchanged : FnScope N_unknowns_exchanged ["rows", "i", "j"] (defScope s_unknowns_exchanged) := ⟨rfl, rfl, rfl, by decide +kernel, rfl, by decide +kernel, by decide +kernel⟩
abbrev s_turned : Stmt := top 22
abbrev N_turned : List Str := ["rows", "bottoms", "n", "divisors", "before", "k", "places", "summed", "taken"]
theorem sc_turned : FnScope N_turned ["rows", "bottoms"] (defScope s_turned) := ⟨rfl, rfl, rfl, by decide +kernel, rfl, by decide +kernel, by decide +kernel⟩
abbrev s_upright : Stmt := top 23
abbrev N_upright : List Str := ["F", "n", "start", "known", "numbers", "columns", "i", "row"]
theorem sc_upright : FnScope N_upright ["F"] (defScope s_upright) := ⟨rfl, rfl, rfl, by decide +kernel, rfl, by decide +kernel, by decide +kernel⟩
abbrev s_law_big : Stmt := top 25
abbrev N_law_big : List Str := ["_law_script", "_law_k", "_law_cell", "_law_number", "_law_j", "_law_step"]
theorem sc_law_big : FnScope N_law_big ["_law_script", "_law_k"] (defScope s_law_big) := ⟨rfl, rfl, rfl, by decide +kernel, rfl, by decide +kernel, by decide +kernel⟩
abbrev s_law_low : Stmt := top 26
abbrev N_law_low : List Str := ["_law_top", "_law_bottom", "_law_one", "_law_other", "_law_rest"]
theorem sc_law_low : FnScope N_law_low ["_law_top", "_law_bottom"] (defScope s_law_low) := ⟨rfl, rfl, rfl, by decide +kernel, rfl, by decide +kernel, by decide +kernel⟩
abbrev s_law_plus : Stmt := top 27
abbrev N_law_plus : List Str := ["_law_u", "_law_v"]
theorem sc_law_plus : FnScope N_law_plus ["_law_u", "_law_v"] (defScope s_law_plus) := ⟨rfl, rfl, rfl, by decide +kernel, rfl, by decide +kernel, by decide +kernel⟩
abbrev s_law_times : Stmt := top 28
abbrev N_law_times : List Str := ["_law_u", "_law_v"]
theorem sc_law_times : FnScope N_law_times ["_law_u", "_law_v"] (defScope s_law_times) := ⟨rfl, rfl, rfl, by decide +kernel, rfl, by decide +kernel, by decide +kernel⟩
abbrev s_law_drawn : Stmt := top 29
abbrev N_law_drawn : List Str := ["_law_rest", "_law_way", "_law_found"]
theorem sc_law_drawn : FnScope N_law_drawn ["_law_rest"] (defScope s_law_drawn) := ⟨rfl, rfl, rfl, by decide +kernel, rfl, by decide +kernel, by decide +kernel⟩
abbrev s_law_narrowed : Stmt := top 30
abbrev N_law_narrowed : List Str := ["_law_number", "_law_wide"]
theorem sc_law_narrowed : FnScope N_law_narrowed ["_law_number", "_law_wide"] (defScope s_law_narrowed) := ⟨rfl, rfl, rfl, by decide +kernel, rfl, by decide +kernel, by decide +kernel⟩
abbrev s_law_product : Stmt := top 31
abbrev N_law_product : List Str := ["_law_one", "_law_other", "_law_table", "_law_row", "_law_made", "_law_j", "_law_total", "_law_k"]
theorem sc_law_product : FnScope N_law_product ["_law_one", "_law_other"] (defScope s_law_product) := ⟨rfl, rfl, rfl, by decide +kernel, rfl, by decide +kernel, by decide +kernel⟩
abbrev s_law_plain : Stmt := top 32
abbrev N_law_plain : List Str := ["_law_n"]
theorem sc_law_plain : FnScope N_law_plain ["_law_n"] (defScope s_law_plain) := ⟨rfl, rfl, rfl, by decide +kernel, rfl, by decide +kernel, by decide +kernel⟩
abbrev s_law_form : Stmt := top 33
abbrev N_law_form : List Str := ["_law_n", "_law_rest", "_law_wide", "_law_i", "_law_j", "_law_form_here", "_law_number"]
theorem sc_law_form : FnScope N_law_form ["_law_n", "_law_rest", "_law_wide"] (defScope s_law_form) := ⟨rfl, rfl, rfl, by decide +kernel, rfl, by decide +kernel, by decide +kernel⟩
abbrev s_law_poor : Stmt := top 34
abbrev N_law_poor : List Str := ["_law_form_here", "_law_rest", "_law_n", "_law_made", "_law_way", "_law_k", "_law_j"]
theorem sc_law_poor : FnScope N_law_poor ["_law_form_here", "_law_rest"] (defScope s_law_poor) := ⟨rfl, rfl, rfl, by decide +kernel, rfl, by decide +kernel, by decide +kernel⟩
abbrev s_law_change : Stmt := top 35
abbrev N_law_change : List Str := ["_law_n", "_law_rest", "_law_lower", "_law_above", "_law_i", "_law_j", "_law_found"]
theorem sc_law_change : FnScope N_law_change ["_law_n", "_law_rest"] (defScope s_law_change) := ⟨rfl, rfl, rfl, by decide +kernel, rfl, by decide +kernel, by decide +kernel⟩
abbrev s_law_root : Stmt := top 36
abbrev N_law_root : List Str := ["_law_number", "_law_low_here", "_law_high", "_law_half"]
theorem sc_law_root : FnScope N_law_root ["_law_number"] (defScope s_law_root) := ⟨rfl, rfl, rfl, by decide +kernel, rfl, by decide +kernel, by decide +kernel⟩
abbrev s_law_signs : Stmt := top 37
abbrev N_law_signs : List Str := ["_law_numbers", "_law_above"]
theorem sc_law_signs : FnScope N_law_signs ["_law_numbers"] (defScope s_law_signs) := ⟨rfl, rfl, rfl, by decide +kernel, rfl, by decide +kernel, by decide +kernel⟩
abbrev s_law_product_of : Stmt := top 38
abbrev N_law_product_of : List Str := ["_law_numbers", "_law_total", "_law_number"]
theorem sc_law_product_of : FnScope N_law_product_of ["_law_numbers"] (defScope s_law_product_of) := ⟨rfl, rfl, rfl, by decide +kernel, rfl, by decide +kernel, by decide +kernel⟩
abbrev s_law_alike : Stmt := top 39
abbrev N_law_alike : List Str := ["_law_one", "_law_other", "_law_both"]
theorem sc_law_alike : FnScope N_law_alike ["_law_one", "_law_other"] (defScope s_law_alike) := ⟨rfl, rfl, rfl, by decide +kernel, rfl, by decide +kernel, by decide +kernel⟩
abbrev s_law : Stmt := top 40
abbrev N_law : List Str := ["_law_script", "_law_k", "_law_cell", "_law_n", "_law_form_here", "_law_numbers", "_law_others", "_law_turned", "_law_above", "_law_below"]
theorem sc_law : FnScope N_law ["_law_script"] (defScope s_law) := ⟨rfl, rfl, rfl, by decide +kernel, rfl, by decide +kernel, by decide +kernel⟩
section
variable {P : Program} {w : World} {K : PySem.W.Frag} {mg : Str → Option Value} {base : Heap} {f : Addr} {k : Nat} (B : Bu mg)
include B in
theorem b_common_divisor (a b : Int) : Body P w K mg base N_common_divisor "common_divisor" s_common_divisor f k [.val false a, .val false b] (RT true ((Int.gcd a b : Nat) : Int)) := by
  intro cdv A outer s H E hr
  refine s_while (ι := Bool × Bool × Int × Int) (fun i Γ => ∃ r, Γ = [some (.val i.1 i.2.2.1), some (.val i.2.1 i.2.2.2), r] ∧ Int.gcd i.2.2.1 i.2.2.2 = Int.gcd a b) (fun i => i.2.2.2.natAbs) (false, false, a, b) ⟨none, rfl, rfl⟩ ?_
  rintro ⟨b1, b2, x, y⟩ Γ' ⟨r, rfl, hg⟩
  refine ⟨_, t_cmp cv_neI (e_var 1) e_int, fun hc => ?_, fun hc => ?_⟩
  · have hy : y ≠ 0 := by simpa using hc
    refine s_asg 2 sc_common_divisor.nd (e_mod (e_var 0) (e_var 1) hy) ?_
    refine s_asg 0 sc_common_divisor.nd (e_var 1) ?_
    refine s_asg 1 sc_common_divisor.nd (e_var 2) ?_
    exact s_nil ⟨(b2, true, y, x.fmod y), ⟨_, rfl, (_root_.EP.gcd_fmod x y).trans hg⟩, _root_.EP.fmod_lt x y hy⟩
  · have hy : y = 0 := by simpa using hc
    refine s_ret (e_abs rfl B.abs (e_var 0)) ?_
    dsimp only at hg ⊢
    rw [hy, Int.gcd_zero_right] at hg
    rw [← hg]
    show Bd.val _ _ = Bd.val _ _
    congr 1
    split <;> omega

def PFr (_ b : Int) : Prop := b ≠ 0 ∧ Sm 9000 b
theorem b_fraction (c_common_divisor : Cal P w K mg base 1 "common_divisor" ["a", "b"] (sp2 K (fun _ _ => True) true fun a b => ((Int.gcd a b : Nat) : Int))) (t b : Int) (hb : b ≠ 0) (hs : Sm 9000 b) :
    Body P w K mg base N_fraction "fraction" s_fraction f 1 [.val false t, .val false b] (RT true (fr t b)) := by
  intro cdv A outer s H E hr
  have hn := _root_.EP.fd_ne (t := t) hb
  have hz : Sm 9000 (fd t b) := Sm.of_le (_root_.EP.fd_le hb) hs
  refine s_asg 2 sc_fraction.nd (e_call2 c_common_divisor hr rfl (e_var 0) (e_var 1) True.intro) ?_
  have last : ∀ d : Int, d = fd t b → S (cx P w K mg base N_fraction "fraction" s_fraction f cdv A outer s H E) [some (.val false t), some (.val false b), some (.val true d)] [(defBody s_fraction).getD 2 (.Pass ⟨0, 0, 0, 0⟩)] (RT true (fr t b)) := by
    rintro d rfl
    exact s_ret (e_tup2 (e_fdiv (e_var 0) (e_var 2) (hz.div hn)) (e_fdiv (e_var 1) (e_var 2) (hz.div hn))) rfl
  refine s_if1 (t_cmp cv_lt (e_var 1) e_int) (fun hc => ?_) (fun hc => ?_)
  · refine s_asg 2 sc_fraction.nd (e_neg (e_var 2)) (s_nil ?_)
    exact last _ (by unfold fd; rw [if_pos (by simpa using hc)])
  · exact last _ (by unfold fd; rw [if_neg (by simpa using hc)])

open _root_.EP (Fr Tb Low Sq rng plL plT colm tov lcmB oob dotI sop dotF prd lsum lprd fadd fmul)
theorem seq_rng (n : Nat) : seqI 0 1 n = rng n := by
  unfold seqI rng
  exact List.map_congr_left fun i _ => by omega
structure PRow (us : List Fr) : Prop where
  len : us.length ≤ 8
  low : ∀ u ∈ us, Low u
  s1 : ∀ u ∈ us, Sm 2000 u.1
  s2 : ∀ u ∈ us, Sm 500 u.2
structure POb (o : List Int × Int) : Prop where
  len : o.1.length ≤ 8
  sm : ∀ x ∈ o.1, Sm 6001 x
  pos : 1 ≤ o.2
  s2 : Sm 4001 o.2
def swi (a : List Int × Int) (bs : List (List Int × Int)) : List Fr := bs.map (sop a)
def plLz (n i : Int) : List Fr := plL n.toNat i
def plTz (n : Int) : Tb := plT n.toNat
theorem mem_at {α : Type} {l : List α} {i : Nat} {a : α} (h : l[i]? = some a) : a ∈ l := List.mem_of_getElem? h
theorem lcm_sm {us : List Fr} (h : PRow us) (i : Nat) (hi : i ≤ us.length) : 1 ≤ lcmB (us.take i) ∧ Sm (1 + 500 * i) (lcmB (us.take i)) := by
  induction i with
  | zero => exact ⟨by show (1 : Int) ≤ 1; decide, by show (1 : Int).natAbs < 2 ^ 1; decide⟩
  | succ i ih =>
    obtain ⟨h1, h2⟩ := ih (by omega)
    have hg : us[i]? = some us[i] := List.getElem?_eq_getElem (by omega)
    have hm := mem_at hg
    have e : lcmB (us.take (i + 1)) = (lcmB (us.take i) * us[i].2).fdiv (Int.gcd (lcmB (us.take i)) us[i].2 : Nat) := take_fold hg
    have z := _root_.EP.lcm_step h1 (h.low _ hm).1
    rw [← e] at z
    refine ⟨z.1, ?_⟩
    have s := h2.mul (h.s2 _ hm)
    have l := z.2.2.2
    have : Sm (1 + 500 * i + 500) (lcmB (us.take (i + 1))) := Sm.of_le (by omega) s
    exact this.le (by omega)
theorem lcm_all {us : List Fr} (h : PRow us) : 1 ≤ lcmB us ∧ Sm 4001 (lcmB us) := by
  have z := lcm_sm h us.length (Nat.le_refl _)
  rw [List.take_length] at z
  exact ⟨z.1, z.2.le (by have := h.len; omega)⟩
theorem gcd_sm {n : Nat} {a b : Int} (hb : 1 ≤ b) (h : Sm n b) : ((Int.gcd a b : Nat) : Int) ≠ 0 ∧ Sm n ((Int.gcd a b : Nat) : Int) := by
  have h1 : Int.gcd a b ≠ 0 := fun z => by rw [Int.gcd_eq_zero_iff] at z; omega
  refine ⟨by omega, Sm.of_le ?_ h⟩
  have : (Int.gcd a b) ≤ b.natAbs := Nat.le_of_dvd (by omega) (Int.gcd_dvd_natAbs_right a b)
  omega
theorem ediv_sm {n : Nat} {a b : Int} (ha : 1 ≤ a) (hb : 1 ≤ b) (h : Sm n a) : Sm n (a.fdiv b) := by
  refine Sm.of_le ?_ h
  rw [Int.fdiv_eq_ediv_of_nonneg a (by omega)]
  have h1 : 0 ≤ a / b := Int.ediv_nonneg (by omega) (by omega)
  have h2 : a / b ≤ a := Int.ediv_le_self b (by omega)
  omega
theorem oob_ok {us : List Fr} (h : PRow us) : POb (oob us) := by
  obtain ⟨h1, h2⟩ := lcm_all h
  refine ⟨by show (us.map _).length ≤ 8; rw [List.length_map]; exact h.len, fun x hx => ?_, h1, h2⟩
  obtain ⟨u, hu, rfl⟩ := List.mem_map.mp hx
  exact (h.s1 u hu).mul (ediv_sm h1 (h.low u hu).1 h2)
structure PTb (n : Nat) (T : Tb) : Prop where
  sq : Sq n T
  n8 : n ≤ 8
  s1 : ∀ r ∈ T, ∀ u ∈ r, Sm 2000 u.1
  s2 : ∀ r ∈ T, ∀ u ∈ r, Sm 500 u.2
theorem PTb.row {n : Nat} {T : Tb} (h : PTb n T) {r : List Fr} (hr : r ∈ T) : PRow r := ⟨by rw [h.sq.row r hr]; exact h.n8, h.sq.low r hr, h.s1 r hr, h.s2 r hr⟩
theorem PTb.len {n : Nat} {T : Tb} (h : PTb n T) : T.length ≤ 8 := by rw [h.sq.len]; exact h.n8
theorem PTb.tov {n : Nat} {T : Tb} (h : PTb n T) : PTb n (tov T) := by
  have key : ∀ r ∈ _root_.EP.tov T, ∀ u ∈ r, ∃ r' ∈ T, u ∈ r' := fun r hr u hu => by
    obtain ⟨j, hj, rfl⟩ := List.mem_map.mp hr
    obtain ⟨r', hr', rfl⟩ := List.mem_map.mp hu
    have := _root_.EP.mem_rng hj
    rw [h.sq.len] at this
    exact ⟨r', hr', _root_.EP.getD_mem (by rw [h.sq.row r' hr']; omega)⟩
  exact ⟨h.sq.tov, h.n8, fun r hr u hu => by obtain ⟨r', a, b⟩ := key r hr u hu; exact h.s1 r' a u b, fun r hr u hu => by obtain ⟨r', a, b⟩ := key r hr u hu; exact h.s2 r' a u b⟩
theorem at_getD' {α : Type} {d : α} {xs : List α} {k : Int} (h0 : 0 ≤ k) (h : k < (xs.length : Int)) : atI xs k = some (xs.getD k.toNat d) := by
  have hk : k.toNat < xs.length := by omega
  have e : k = ((k.toNat : Nat) : Int) := by omega
  have q : atI xs ((k.toNat : Nat) : Int) = some xs[k.toNat] := atI_nat (by rw [List.getElem?_eq_getElem hk])
  rw [← e] at q
  rw [q, List.getD_eq_getElem?_getD, List.getElem?_eq_getElem hk]; rfl
def LAdd (u v : Fr) : Prop := (u.2 ≠ 0 ∧ v.2 ≠ 0) ∧ Sm 4000 u.1 ∧ Sm 4000 u.2 ∧ Sm 4000 v.1 ∧ Sm 4000 v.2
theorem at_nat {α : Type} {d : α} {xs : List α} {k : Nat} (h : k < xs.length) : atI xs (k : Int) = some (xs.getD k d) := by
  rw [atI_nat (by rw [List.getElem?_eq_getElem h]), List.getD_eq_getElem?_getD, List.getElem?_eq_getElem h]; rfl
theorem rng_succ (n : Nat) : rng (n + 1) = rng n ++ [(n : Int)] := by unfold rng; rw [List.range_succ, List.map_append]; rfl
theorem take_snoc {α : Type} {us : List α} {i : Nat} {a : α} (h : us[i]? = some a) : us.take (i + 1) = us.take i ++ [a] := by rw [List.take_add_one, h]; rfl
structure STb (n : Nat) (T : Tb) : Prop where
  sq : Sq n T
  n8 : n ≤ 8
  s1 : ∀ r ∈ T, ∀ u ∈ r, Sm 20 u.1
  s2 : ∀ r ∈ T, ∀ u ∈ r, Sm 10 u.2
theorem STb.p {n : Nat} {T : Tb} (h : STb n T) : PTb n T := ⟨h.sq, h.n8, fun r a u b => (h.s1 r a u b).le (by decide), fun r a u b => (h.s2 r a u b).le (by decide)⟩
def cpy (T : Tb) : Tb := T
def PIs (T : Tb) (n : Int) : Prop := 0 ≤ n ∧ n ≤ 8 ∧ Sq n.toNat T ∧ ∀ r ∈ T, ∀ u ∈ r, Sm 9000 u.2

include B in
theorem b_plain_list (n i : Int) (h0 : 0 ≤ n) (h1 : n ≤ 8) : Body P w K mg base N_plain_list "plain_list" s_plain_list f k [.val false n, .val false i] (RT true (plLz n i)) := by
  intro cdv A outer s H E hr
  refine s_ret (e_comp (f := fun j => if decide (j = i) then (1, 1) else (0, 1)) ["j"] [1] (cscope (defScope s_plain_list) N_plain_list rfl rfl (by decide +kernel)) (ei_range rfl B.range (e_var 0) (by omega) (by omega)) (gp_name 0) (fun C s H fp => pg_cn 0 ["j", "place"]) lt_of_eq (fun k j hj C s H fp => e_if (t_cmp cv_eqI (e_var 0) (e_var 1)) (fun _ => e_tup2 e_int e_int) fun _ => e_tup2 e_int e_int) (by rw [seqI_len]; omega)) ?_
  rw [seq_rng]
  show Bd.val _ _ = Bd.val _ _
  congr 1
  unfold plLz plL
  exact List.map_congr_left fun j _ => by by_cases z : j = i <;> simp [z]

theorem b_column (T : Tb) (j : Int) (h0 : T.length ≤ 8) (h1 : 0 ≤ j) (h2 : ∀ r ∈ T, j < (r.length : Int)) : Body P w K mg base N_column "column" s_column f k [.val false T, .val false j] (RT true (colm T j)) := by
  intro cdv A outer s H E hr
  exact s_ret (e_comp (f := fun r : List Fr => r.getD j.toNat (0, 1)) ["numbers"] [1] (cscope (defScope s_column) N_column rfl rfl (by decide +kernel)) (ei_list (e_var 0)) (gp_name 0) (fun C s H fp => pg_cn 0 ["numbers", "j"]) lt_of_eq (fun k r hr C s H fp => e_up (e_ixL (e_var 0) (e_var 1) (at_getD' h1 (h2 r (mem_at hr))))) (by omega)) rfl

structure PTv (T : Tb) : Prop where
  l : T.length ≤ 8
  r : ∀ r ∈ T, T.length ≤ r.length
include B in
theorem b_turned_over (c_column : Cal P w K mg base 1 "column" ["T", "j"] (sp2 K (fun (T : Tb) (j : Int) => T.length ≤ 8 ∧ 0 ≤ j ∧ ∀ r ∈ T, j < (r.length : Int)) true colm)) (T : Tb) (h : PTv T) : Body P w K mg base N_turned_over "turned_over" s_turned_over f 1 [.val false T] (RT true (tov T)) := by
  intro cdv A outer s H E hr
  have hl := h.l
  refine s_ret (e_comp (f := fun j => colm T j) ["j"] [0] (cscope (defScope s_turned_over) N_turned_over rfl rfl (by decide +kernel)) (ei_range rfl B.range (e_lenL rfl B.len (e_var 0)) (by omega) (by omega)) (gp_name 0) (fun C s H fp => pg_cn 0 ["j", "T"]) lt_of_eq (fun k j hj C s H fp => e_call2 c_column (hr.mono (by decide)) rfl (e_var 1) (e_var 0) ⟨hl, ?_, fun r hr => ?_⟩) (by rw [seqI_len]; omega)) ?_
  · have := (seqI_get hj).2; omega
  · have := (seqI_get hj)
    have e2 := h.r r hr
    omega
  · rw [seq_rng]; rfl

include B in
theorem b_sum_of_products (c_fraction : Cal P w K mg base 2 "fraction" ["top", "bottom"] (sp2 K PFr true fr)) (a b : List Int × Int) (ha : POb a) (hb : POb b) : Body P w K mg base N_sum_of_products "sum_of_products" s_sum_of_products f 2 [.val false a, .val false b] (RT true (sop a b)) := by
  intro cdv A outer s H E hr
  refine s_asg 2 sc_sum_of_products.nd (e_sum rfl rfl B.sum (e_comp (f := fun p : Int × Int => p.1 * p.2) ["a", "b"] [] (cscope (defScope s_sum_of_products) N_sum_of_products rfl rfl (by decide +kernel)) (ei_zip rfl B.zip (e_fst (e_var 0)) (e_fst (e_var 1))) (gp_two 0 1) (fun C s H fp => pg_cn2 0 1 ["a", "b"]) lt_of_eq2 (fun k p hp C s H fp => e_mul (e_var 0) (e_var 1) ((ha.sm _ (_root_.EP.mem_zip_l (mem_at hp)).1).ok (hb.sm _ (_root_.EP.mem_zip_l (mem_at hp)).2))) (by rw [List.length_zip]; have := ha.len; omega))) ?_
  exact s_ret (e_call2 c_fraction (hr.mono (by decide)) rfl (e_var 2) (e_mul (e_snd (e_var 0)) (e_snd (e_var 1)) (ha.s2.ok hb.s2)) ⟨Int.mul_ne_zero (by have := ha.pos; omega) (by have := hb.pos; omega), (ha.s2.mul hb.s2).le (by decide)⟩) rfl

theorem b_sums_with (c_sum_of_products : Cal P w K mg base 3 "sum_of_products" ["one", "other"] (sp2 K (fun a b => POb a ∧ POb b) true sop)) (a : List Int × Int) (bs : List (List Int × Int)) (ha : POb a) (hl : bs.length ≤ 8) (hb : ∀ b ∈ bs, POb b) : Body P w K mg base N_sums_with "sums_with" s_sums_with f 3 [.val false a, .val false bs] (RT true (swi a bs)) := by
  intro cdv A outer s H E hr
  exact s_ret (e_comp (f := fun b => sop a b) ["other"] [0] (cscope (defScope s_sums_with) N_sums_with rfl rfl (by decide +kernel)) (ei_list (e_var 1)) (gp_name 0) (fun C s H fp => pg_cn 0 ["other", "one"]) lt_of_eq (fun k b hp C s H fp => e_call2 c_sum_of_products (hr.mono (by decide)) rfl (e_var 1) (e_var 0) ⟨ha, hb b (mem_at hp)⟩) (by omega)) rfl

open _root_.EP (Rw ent2 fwN exF crF stF clL clF bnd fct Gd Vc Bk)
structure PRw (us : List Fr) : Prop where
  len : us.length ≤ 16
  low : ∀ u ∈ us, Low u
  s1 : ∀ u ∈ us, Sm 2000 u.1
  mm : ∃ M : Int, 1 ≤ M ∧ Sm 4001 M ∧ ∀ u ∈ us, u.2 ∣ M
theorem PRw.s2 {us : List Fr} (h : PRw us) : ∀ u ∈ us, Sm 4001 u.2 := fun u hu => by
  obtain ⟨M, m1, m2, m3⟩ := h.mm
  have := Int.le_of_dvd (by omega) (m3 u hu)
  have := (h.low u hu).1
  exact Sm.of_le (by omega) m2
theorem PRw.lcm {us : List Fr} (h : PRw us) (i : Nat) : 1 ≤ lcmB (us.take i) ∧ Sm 4001 (lcmB (us.take i)) := by
  obtain ⟨M, m1, m2, m3⟩ := h.mm
  have hp : ∀ u ∈ us.take i, 1 ≤ u.2 ∧ u.2 ∣ M := fun u hu => ⟨(h.low u (List.mem_of_mem_take hu)).1, m3 u (List.mem_of_mem_take hu)⟩
  have h1 := _root_.EP.lcmB_pos fun u hu => (hp u hu).1
  have h2 : lcmB (us.take i) ∣ M := _root_.EP.lcm_dvd _ 1 (by decide) ⟨M, (Int.one_mul M).symm⟩ hp
  have := Int.le_of_dvd (by omega) h2
  exact ⟨h1, Sm.of_le (by omega) m2⟩
theorem b_common_bottom (c_common_divisor : Cal P w K mg base 1 "common_divisor" ["a", "b"] (sp2 K (fun _ _ => True) true fun a b => ((Int.gcd a b : Nat) : Int))) (us : List Fr) (h : PRw us) : Body P w K mg base N_common_bottom "common_bottom" s_common_bottom f 1 [.val false us] (RT true (lcmB us)) := by
  intro cdv A outer s H E hr
  refine s_asg 1 sc_common_bottom.nd e_int ?_
  refine s_forL (fun i Γ => ∃ r, Γ = [some (.val false us), some (.val true (lcmB (us.take i))), r]) (g_name 2 sc_common_bottom.nd) (e_var 0) ⟨none, rfl⟩ ?_ ?_
  · rintro i u Γ' hu ⟨r, rfl⟩
    have hm := mem_at hu
    obtain ⟨z1, z3⟩ := h.lcm i
    have g := gcd_sm (a := lcmB (us.take i)) (h.low u hm).1 (h.s2 u hm)
    refine s_asg 1 sc_common_bottom.nd (e_fdiv (e_mul (e_var 1) (e_snd (e_var 2)) (z3.ok (h.s2 u hm))) (e_call2 c_common_divisor (hr.mono (by decide)) rfl (e_var 1) (e_snd (e_var 2)) True.intro) (g.2.div g.1)) ?_
    refine s_nil ⟨some (.val false u), ?_⟩
    unfold lcmB
    rw [take_fold hu]
    rfl
  · rintro Γ' ⟨r, rfl⟩
    rw [List.take_length]
    exact s_ret (e_var 1) rfl
theorem b_over_one_bottom (c_common_bottom : Cal P w K mg base 2 "common_bottom" ["numbers"] (sp1 K PRw true lcmB)) (us : List Fr) (h : PRw us) : Body P w K mg base N_over_one_bottom "over_one_bottom" s_over_one_bottom f 2 [.val false us] (RT true (oob us)) := by
  intro cdv A outer s H E hr
  obtain ⟨z1, z2⟩ := h.lcm us.length
  rw [List.take_length] at z1 z2
  refine s_asg 1 sc_over_one_bottom.nd (e_call1 c_common_bottom (hr.mono (by decide)) rfl (e_var 0) h) ?_
  exact s_ret (e_tup2 (e_comp (f := fun u : Fr => u.1 * (lcmB us).fdiv u.2) ["u"] [1] (cscope (defScope s_over_one_bottom) N_over_one_bottom rfl rfl (by decide +kernel)) (ei_list (e_var 0)) (gp_name 0) (fun C s H fp => pg_cn 0 ["u", "bottom"]) lt_of_eq (fun k u hu C s H fp => e_mul (e_fst (e_var 0)) (e_fdiv (e_var 1) (e_snd (e_var 0)) ((h.s2 u (mem_at hu)).div (h.low u (mem_at hu)).ne)) ((h.s1 u (mem_at hu)).ok (ediv_sm z1 (h.low u (mem_at hu)).1 z2))) (by have := h.len; omega)) (e_var 1)) rfl
theorem PRow.rw {us : List Fr} (h : PRow us) : PRw us := ⟨by have := h.len; omega, h.low, h.s1, lcmB us, (lcm_all h).1, (lcm_all h).2, fun u hu => _root_.EP.lcmB_dvd (fun u hu => (h.low u hu).1) hu⟩
def fwI (rows : Rw) (k : Int) : Option Int := (fwN rows k.toNat).map fun n => (n : Int)
structure PFw (rows : Rw) (k : Int) : Prop where
  k0 : 0 ≤ k
  kl : k ≤ rows.length
  l : rows.length ≤ 100
  r : ∀ r ∈ rows, k < r.length
theorem at2 {rows : Rw} {i j : Nat} {r : List Int} (hi : i < rows.length) : atI rows (i : Int) = some (rows.getD i []) := atI_nat (by rw [List.getD_eq_getElem?_getD, List.getElem?_eq_getElem hi]; rfl)
theorem at1 {r : List Int} {j : Nat} (hj : j < r.length) : atI r (j : Int) = some (r.getD j 0) := atI_nat (by rw [List.getD_eq_getElem?_getD, List.getElem?_eq_getElem hj]; rfl)
def exI (rows : Rw) (i j : Int) : Rw := exF rows i.toNat j.toNat
structure PEx (rows : Rw) (i j : Int) : Prop where
  i0 : 0 ≤ i
  il : i < rows.length
  j0 : 0 ≤ j
  jl : j < rows.length
include B in
theorem b_exchanged (rows : Rw) (i j : Int) (h : PEx rows i j) : Body P w K mg base N_exchanged "exchanged" s_exchanged f kk [.val false rows, .val false i, .val false j] (RT false (exI rows i j)) := by
  intro cdv A outer s H E hr
  have := h.i0
  have := h.il
  have := h.j0
  have := h.jl
  refine s_ownlist 3 sc_exchanged.nd rfl B.list (e_var 0) ?_
  refine s_setO 3 rfl (e_var 1) (e_ixL (e_var 0) (e_var 2) (atGetD (d := []) h.j0 h.jl)) h.i0 h.il ?_
  refine s_setO 3 rfl (e_var 2) (e_ixL (e_var 0) (e_var 1) (atGetD (d := []) h.i0 h.il)) h.j0 (by rw [List.length_set]; exact h.jl) ?_
  refine s_freeze 3 rfl ?_
  exact s_ret (e_var 3) rfl
def crI (row taken : List Int) (k bf : Int) : List Int := crF row taken k.toNat bf
structure PCr (row taken : List Int) (k bf : Int) : Prop where
  k0 : 0 ≤ k
  k1 : k < row.length
  k2 : k < taken.length
  l : row.length ≤ 100
  s1 : ∀ x ∈ row, Sm 8000 x
  s2 : ∀ x ∈ taken, Sm 8000 x
  b0 : bf ≠ 0
  b1 : Sm 8000 bf
include B in
theorem b_cleared_row (row taken : List Int) (k bf : Int) (h : PCr row taken k bf) : Body P w K mg base N_cleared_row "cleared_row" s_cleared_row f kk [.val false row, .val false taken, .val false k, .val false bf] (RT true (crI row taken k bf)) := by
  intro cdv A outer s H E hr
  have h1 := atGetD (d := 0) h.k0 h.k1
  have h2 := atGetD (d := 0) h.k0 h.k2
  have m1 : Sm 8000 (row.getD k.toNat 0) := h.s1 _ (_root_.EP.getD_mem (by have := h.k1; have := h.k0; omega))
  have m2 : Sm 8000 (taken.getD k.toNat 0) := h.s2 _ (_root_.EP.getD_mem (by have := h.k2; have := h.k0; omega))
  exact s_ret (e_comp (f := fun p : Int × Int => (taken.getD k.toNat 0 * p.1 - row.getD k.toNat 0 * p.2).fdiv bf) ["a", "b"] [0, 1, 2, 3] (cscope (defScope s_cleared_row) N_cleared_row rfl rfl (by decide +kernel)) (ei_zip rfl B.zip (e_var 0) (e_var 1)) (gp_two 0 1) (fun C s H fp => pg_cn2 0 1 ["a", "b", "row", "taken", "k", "before"]) lt_of_eq2
    (fun i p hp C s H fp => e_fdiv (e_sub (e_mul (e_ixL (e_var 3) (e_var 4) h2) (e_var 0) (m2.ok (h.s1 _ (_root_.EP.mem_zip_l (mem_at hp)).1))) (e_mul (e_ixL (e_var 2) (e_var 4) h1) (e_var 1) (m1.ok (h.s2 _ (_root_.EP.mem_zip_l (mem_at hp)).2)))) (e_var 5) (h.b1.div h.b0)) (by rw [List.length_zip]; have := h.l; omega)) rfl
structure PCl (rows : Rw) : Prop where
  ex : ∃ m b, 1 ≤ rows.length ∧ rows.length ≤ 8 ∧ m ≤ 16 ∧ rows.length ≤ m ∧ (∀ i, i < rows.length → (rows.getD i []).length = m) ∧ (∀ i, i < rows.length → ∀ j, (ent2 rows i j).natAbs ≤ 2 ^ b) ∧ rows.length * b + 16 < 8000
theorem fct_le : ∀ k ∈ List.range 9, fct k < 2 ^ 16 := by decide
theorem bnd_le {n b k : Nat} (hk : k ≤ n) (hn : n ≤ 8) : bnd (2 ^ b) k < 2 ^ (n * b + 16) := by
  unfold bnd
  have h1 := fct_le k (List.mem_range.mpr (by omega))
  rw [← Nat.pow_mul]
  have h2 : 2 ^ (b * k) ≤ 2 ^ (n * b) := Nat.pow_le_pow_right (by decide) (by rw [Nat.mul_comm]; exact Nat.mul_le_mul_right b hk)
  have h3 : 2 ^ (n * b + 16) = 2 ^ 16 * 2 ^ (n * b) := by rw [Nat.pow_add, Nat.mul_comm]
  rw [h3]
  exact Nat.lt_of_le_of_lt (Nat.mul_le_mul_left _ h2) (Nat.mul_lt_mul_of_pos_right h1 (Nat.two_pow_pos _))
theorem Gd.sm {n m k b : Nat} {rows : Rw} {bf : Int} {g : Nat → Vc} (h : Gd n m k (2 ^ b) rows bf g) (hk : k < n) (hn : n ≤ 8) (hb : n * b + 16 < 8000) : (∀ i, i < n → ∀ j, Sm 8000 (ent2 rows i j)) ∧ ∀ i, i < n → ∀ x ∈ rows.getD i [], Sm 8000 x := by
  have a1 : ∀ i, i < n → ∀ j, Sm 8000 (ent2 rows i j) := fun i hi j => by
    have := h.size (Nat.two_pow_pos b) hi j
    have h2 := bnd_le (b := b) (show k + 1 ≤ n by omega) hn
    have h3 : 2 ^ (n * b + 16) ≤ 2 ^ 8000 := Nat.pow_le_pow_right (by decide) (by omega)
    show _ < _
    exact Nat.lt_of_le_of_lt this (Nat.lt_of_lt_of_le h2 h3)
  refine ⟨a1, fun i hi x hx => ?_⟩
  obtain ⟨j, hj, e⟩ := List.mem_iff_getElem.mp hx
  have := a1 i hi j
  unfold ent2 at this
  rw [List.getD_eq_getElem?_getD (l := rows.getD i []), List.getElem?_eq_getElem hj, e] at this
  exact this
theorem rowI {rows : Rw} {i : Nat} {k : Int} (h : i < rows.length) (e : k = (i : Int)) : atI rows k = some (rows.getD i []) := by subst e; exact at2 (j := 0) (r := []) h
structure PQu (tops : List Int) (bottom : Int) : Prop where
  l : tops.length ≤ 100
  b0 : bottom ≠ 0
  b1 : Sm 8000 bottom
theorem b_quotients (c_fraction : Cal P w K mg base 2 "fraction" ["top", "bottom"] (sp2 K PFr true fr)) (tops : List Int) (bottom : Int) (h : PQu tops bottom) : Body P w K mg base N_quotients "quotients" s_quotients f 2 [.val false tops, .val false bottom] (RT true (_root_.EP.quF tops bottom)) := by
  intro cdv A outer s H E hr
  exact s_ret (e_comp (f := fun t : Int => fr t bottom) ["top"] [1] (cscope (defScope s_quotients) N_quotients rfl rfl (by decide +kernel)) (ei_list (e_var 0)) (gp_name 0) (fun C s H fp => pg_cn 0 ["top", "bottom"]) lt_of_eq (fun k t ht C s H fp => e_call2 c_fraction (hr.mono (by decide)) rfl (e_var 0) (e_var 1) ⟨h.b0, h.b1.le (by decide)⟩) (by have := h.l; omega)) rfl
structure PBk (T : Tb) : Prop where
  ex : ∃ b, 1 ≤ T.length ∧ T.length ≤ 8 ∧ Bk T.length b T ∧ T.length * b + 16 < 8000 ∧ b < 1900
theorem bk_row {T : Tb} {b i : Nat} (h : Bk T.length b T) (hi : i < T.length) (n8 : T.length ≤ 8) (hb : b < 1900) : PRw (T.getD i [] ++ plL T.length i) := by
  have hr := _root_.EP.row_mem h.sq hi
  obtain ⟨M, m1, m2, m3, m4⟩ := h.mm _ hr
  have lr := h.sq.row _ hr
  have sm : ∀ x : Int, x.natAbs ≤ 2 ^ b → Sm 2000 x := fun x hx => by
    show _ < _
    exact Nat.lt_of_le_of_lt hx (Nat.pow_lt_pow_right (by decide) (by omega))
  refine ⟨by rw [List.length_append, lr, _root_.EP.plL_len]; omega, fun u hu => ?_, fun u hu => ?_, M, m1, (sm M m3).le (by decide), fun u hu => ?_⟩
  · rcases List.mem_append.mp hu with z | z
    · exact h.sq.low _ hr u z
    · exact _root_.EP.plL_low z
  · rcases List.mem_append.mp hu with z | z
    · refine sm _ (Nat.le_trans ?_ (m4 u z))
      rw [Int.natAbs_mul]
      have u1 := (h.sq.low _ hr u z).1
      have := Int.ediv_pos_of_pos_of_dvd (show 0 < M by omega) (show 0 ≤ u.2 by omega) (m2 u z)
      exact Nat.le_mul_of_pos_right _ (by omega)
    · rcases _root_.EP.plL_mem z with e | e <;> rw [e]
      · exact Sm.le (m := 1) (by unfold Sm; decide) (by decide)
      · exact Sm.le (m := 1) (by unfold Sm; decide) (by decide)
  · rcases List.mem_append.mp hu with z | z
    · exact m2 u z
    · rcases _root_.EP.plL_mem z with e | e <;> rw [e] <;> exact ⟨M, (Int.one_mul M).symm⟩

theorem PTb.tv {n : Nat} {T : Tb} (h : PTb n T) : PTv T := ⟨h.len, fun r hr => by rw [h.sq.len, h.sq.row r hr]; exact Nat.le_refl _⟩
theorem b_product (c_turned_over : Cal P w K mg base 2 "turned_over" ["T"] (sp1 K PTv true tov)) (c_over_one_bottom : Cal P w K mg base 3 "over_one_bottom" ["numbers"] (sp1 K PRw true oob)) (c_sums_with : Cal P w K mg base 4 "sums_with" ["one", "others"] (sp2 K (fun (a : List Int × Int) (bs : List (List Int × Int)) => POb a ∧ bs.length ≤ 8 ∧ ∀ b ∈ bs, POb b) true swi))
    (n : Nat) (T U : Tb) (ha : PTb n T) (hb : PTb n U) : Body P w K mg base N_product "product" s_product f 4 [.val false T, .val false U] (RT true (prd T U)) := by
  intro cdv A outer s H E hr
  have hv := hb.tov
  refine s_asg 2 sc_product.nd (e_comp (f := fun r => oob r) ["numbers"] [] (cscope (defScope s_product) N_product rfl rfl (by decide +kernel)) (ei_list (e_call1 c_turned_over (hr.mono (by decide)) rfl (e_var 1) hb.tv)) (gp_name 0) (fun C s H fp => pg_cn 0 ["numbers"]) lt_of_eq (fun k r hr' C s H fp => e_call1 c_over_one_bottom (hr.mono (by decide)) rfl (e_var 0) (hv.row (mem_at hr')).rw) (by have := hv.len; omega)) ?_
  refine s_ret (e_comp (f := fun r => swi (oob r) ((tov U).map oob)) ["numbers"] [2] (cscope (defScope s_product) N_product rfl rfl (by decide +kernel)) (ei_list (e_var 0)) (gp_name 0) (fun C s H fp => pg_cn 0 ["numbers", "columns"]) lt_of_eq (fun k r hr' C s H fp => e_call2 c_sums_with (hr.mono (by decide)) rfl (e_call1 c_over_one_bottom (hr.mono (by decide)) rfl (e_var 0) (ha.row (mem_at hr')).rw) (e_var 1) ⟨oob_ok (ha.row (mem_at hr')), ?_, fun b hb' => ?_⟩) (by have := ha.len; omega)) ?_
  · rw [List.length_map]; exact hv.len
  · obtain ⟨r', z, rfl⟩ := List.mem_map.mp hb'
    exact oob_ok (hv.row z)
  · rfl
structure PLd (F T : Tb) : Prop where
  ex : ∃ n, PTb n F ∧ PTb n T ∧ PTb n (prd F T)
theorem b_led (c_turned_over : Cal P w K mg base 2 "turned_over" ["T"] (sp1 K PTv true tov)) (c_product : Cal P w K mg base 5 "product" ["one", "other"] (sp2 K (fun (A B : Tb) => ∃ n, PTb n A ∧ PTb n B) true prd)) (F T : Tb) (hp : PLd F T) : Body P w K mg base N_led "led" s_led f 5 [.val false F, .val false T] (RT true (_root_.EP.ledF F T)) := by
  intro cdv A outer s H E hr
  obtain ⟨n, h1, h2, h3⟩ := hp.ex
  exact s_ret (e_call2 c_product (hr.mono (by decide)) rfl (e_call1 c_turned_over (hr.mono (by decide)) rfl (e_var 1) h2.tv) (e_call2 c_product (hr.mono (by decide)) rfl (e_var 0) (e_var 1) ⟨n, h1, h2⟩) ⟨n, h2.tov, h3⟩) rfl

open _root_.EP (exL wsF npF uxF rows0 bots0 row0 Rc)
def exLz (row : List Int) (i j : Int) : List Int := exL row i.toNat j.toNat
def wsI (row : List Int) (i j : Int) : List Int := wsF i.toNat j.toNat row
structure PEx2 (row : List Int) (i j : Int) : Prop where
  i0 : 0 ≤ i
  il : i < row.length
  j0 : 0 ≤ j
  jl : j < row.length
include B in
theorem b_exchanged2 (row : List Int) (i j : Int) (h : PEx2 row i j) : Body P w K mg base N_exchanged "exchanged" s_exchanged f kk [.val false row, .val false i, .val false j] (RT false (exLz row i j)) := by
  intro cdv A outer s H E hr
  have := h.i0
  have := h.il
  have := h.j0
  have := h.jl
  refine s_ownlist 3 sc_exchanged.nd rfl B.list (e_var 0) ?_
  refine s_setO 3 rfl (e_var 1) (e_up (e_ixL (e_var 0) (e_var 2) (atGetD (d := 0) h.j0 h.jl))) h.i0 h.il ?_
  refine s_setO 3 rfl (e_var 2) (e_up (e_ixL (e_var 0) (e_var 1) (atGetD (d := 0) h.i0 h.il))) h.j0 (by rw [List.length_set]; exact h.jl) ?_
  refine s_freeze 3 rfl ?_
  exact s_ret (e_var 3) rfl
include B in
theorem b_with_sum (row : List Int) (i j : Int) (h : PEx2 row i j) : Body P w K mg base N_with_sum "with_sum" s_with_sum f kk [.val false row, .val false i, .val false j] (RT true (wsI row i j)) := by
  intro cdv A outer s H E hr
  refine s_deep 3 sc_with_sum.nd (en_listT rfl B.list (e_var 0)) ?_
  refine s_setL 3 rfl (e_var 1) (e_add (e_ixL (e_var 0) (e_var 1) (atGetD (d := 0) h.i0 h.il)) (e_ixL (e_var 0) (e_var 2) (atGetD (d := 0) h.j0 h.jl))) h.i0 h.il ?_
  refine s_thaw 3 rfl ?_
  exact s_ret (e_var 3) rfl
structure PUx (rows : Rw) (i j : Int) : Prop where
  i0 : 0 ≤ i
  il : i < rows.length
  j0 : 0 ≤ j
  jl : j < rows.length
  l : rows.length ≤ 100
  r : ∀ r ∈ rows, i < r.length ∧ j < r.length
def uxI (rows : Rw) (i j : Int) : Rw := uxF rows i.toNat j.toNat
theorem b_unknowns_exchanged (c_exchanged : Cal P w K mg base 1 "exchanged" ["rows", "i", "j"] (sp3 K PEx false exI)) (c_exchanged2 : Cal P w K mg base 1 "exchanged" ["rows", "i", "j"] (sp3 K PEx2 false exLz)) (rows : Rw) (i j : Int) (h : PUx rows i j) :
    Body P w K mg base N_unknowns_exchanged "unknowns_exchanged" s_unknowns_exchanged f 1 [.val false rows, .val false i, .val false j] (RT false (uxI rows i j)) := by
  intro cdv A outer s H E hr
  have := h.i0
  have := h.il
  have := h.j0
  have := h.jl
  have hmem : ∀ r ∈ exI rows i j, r ∈ rows := fun r hr => by
    have hi : rows.getD i.toNat [] ∈ rows := _root_.EP.getD_mem (by omega)
    have hj : rows.getD j.toNat [] ∈ rows := _root_.EP.getD_mem (by omega)
    rcases List.mem_or_eq_of_mem_set hr with z | z
    · rcases List.mem_or_eq_of_mem_set z with y | y
      · exact y
      · rw [y]; exact hj
    · rw [z]; exact hi
  refine s_ret (e_comp (f := fun r : List Int => exLz r i j) (b' := false) ["row"] [1, 2] (cscope (defScope s_unknowns_exchanged) N_unknowns_exchanged rfl rfl (by decide +kernel)) (ei_list (e_call3 c_exchanged (hr.mono (by decide)) rfl (e_var 0) (e_var 1) (e_var 2) ⟨h.i0, h.il, h.j0, h.jl⟩)) (gp_name 0) (fun C s H fp => pg_cn 0 ["row", "i", "j"]) lt_of_eq (fun a r hr' C s H fp => e_call3 c_exchanged2 (hr.mono (by decide)) rfl (e_var 0) (e_var 1) (e_var 2) ?_) (by show (exI rows i j).length ≤ 1000; unfold exI; rw [_root_.EP.exF_len]; have := h.l; omega)) rfl
  obtain ⟨r1, r2⟩ := h.r r (hmem r (mem_at hr'))
  exact ⟨h.i0, r1, h.j0, r2⟩
def opF (T : Tb) : Rw × List Int := (rows0 T T.length, bots0 T T.length)
set_option maxHeartbeats 1000000 in
include B in
theorem b_opened (c_plain_list : Cal P w K mg base 1 "plain_list" ["n", "place"] (sp2 K (fun n (_ : Int) => (0 : Int) ≤ n ∧ n ≤ 8) true plLz)) (c_over_one_bottom : Cal P w K mg base 3 "over_one_bottom" ["numbers"] (sp1 K PRw true oob)) (T : Tb) (h : PBk T) : Body P w K mg base N_opened "opened" s_opened f 3 [.val false T] (RT true (opF T)) := by
  intro cdv A outer s H E hr
  obtain ⟨b, n1, n8, hB, hb, hb2⟩ := h.ex
  refine s_asg 1 sc_opened.nd (e_lenL rfl B.len (e_var 0)) ?_
  refine s_own 2 (List Int) sc_opened.nd ?_
  refine s_own 3 Int sc_opened.nd ?_
  refine s_for (fun i Γ => ∃ r4 r5 r6, Γ = [some (.val false T), some (.val true (T.length : Int)), some (.own true ((rng i).map (row0 T T.length))), some (.own true ((rng i).map fun i => lcmB (T.getD i.toNat [] ++ plL T.length i))), r4, r5, r6]) (g_two 4 5 sc_opened.nd) (ei_enum rfl B.enumerate (e_var 0)) ⟨none, none, none, rfl⟩ ?_ ?_
  · rintro i u Γ' hu ⟨r4, r5, r6, rfl⟩
    obtain ⟨u1, u2⟩ := enI_get hu
    have hal : i < T.length := (List.getElem?_eq_some_iff.mp u1).1
    have eu : T.getD i [] = u.2 := by rw [List.getD_eq_getElem?_getD, u1]; rfl
    have lr := hB.sq.row _ (_root_.EP.row_mem hB.sq hal)
    have epl : plLz (T.length : Int) u.1 = plL T.length i := by unfold plLz; rw [Int.toNat_natCast, u2]
    have pr := bk_row hB hal n8 hb2
    rw [eu] at pr lr
    refine s_asg 6 sc_opened.nd (e_call1 c_over_one_bottom (hr.mono (by decide)) rfl (e_catT (e_var 5) (e_call2 c_plain_list (hr.mono (by decide)) rfl (e_var 1) (e_var 4) ⟨by omega, by omega⟩) (by rw [epl, lr, _root_.EP.plL_len]; omega)) (by rw [epl]; exact pr)) ?_
    rw [epl]
    refine s_append 2 rfl (e_fst (e_var 6)) (by rw [List.length_map, _root_.EP.rng_len]; omega) ?_
    refine s_append 3 rfl (e_snd (e_var 6)) (by rw [List.length_map, _root_.EP.rng_len]; omega) ?_
    have e1 : (rng (i + 1)).map (row0 T T.length) = (rng i).map (row0 T T.length) ++ [(oob (u.2 ++ plL T.length i)).1] := by
      rw [rng_succ, List.map_append, ← eu]
      rfl
    have e2 : (rng (i + 1)).map (fun i => lcmB (T.getD i.toNat [] ++ plL T.length i)) = (rng i).map (fun i => lcmB (T.getD i.toNat [] ++ plL T.length i)) ++ [(oob (u.2 ++ plL T.length i)).2] := by
      rw [rng_succ, List.map_append, ← eu]
      rfl
    refine s_nil ?_
    show ∃ r4 r5 r6, _ = _
    rw [e1, e2]
    exact ⟨_, _, _, rfl⟩
  · rintro Γ' ⟨r4, r5, r6, rfl⟩
    rw [enI_len]
    refine s_freeze 2 rfl ?_
    refine s_freeze 3 rfl ?_
    exact s_ret (e_tup2 (b1 := true) (b2 := true) (e_var 2) (e_var 3)) rfl

open _root_.EP (adF adB adR Wa)
def adI (rows : Rw) (bo : List Int) (i j : Int) : Rw × List Int := (adF rows bo i.toNat j.toNat, adB bo i.toNat j.toNat)
structure PAd (rows : Rw) (bo : List Int) (i j : Int) : Prop where
  ex : ∃ n m, Rc n m rows ∧ n ≤ m ∧ m ≤ 16 ∧ bo.length = n ∧ 0 ≤ i ∧ i < n ∧ 0 ≤ j ∧ j < n ∧ (∀ r ∈ rows, ∀ x ∈ r, Sm 8000 x) ∧ Sm 8000 (bo.getD i.toNat 0) ∧ Sm 8000 (bo.getD j.toNat 0)
theorem ws_sm {row : List Int} {i j : Nat} (hi : i < row.length) (hj : j < row.length) (h : ∀ x ∈ row, Sm 8000 x) : ∀ x ∈ wsF i j row, Sm 8001 x := fun x hx => by
  rcases List.mem_or_eq_of_mem_set hx with z | z
  · exact (h x z).le (by decide)
  · rw [z]
    exact ((h _ (_root_.EP.getD_mem hi)).add (h _ (_root_.EP.getD_mem hj))).le (by decide)
set_option maxHeartbeats 1000000 in
include B in
theorem b_added (c_with_sum : Cal P w K mg base 1 "with_sum" ["numbers", "i", "j"] (sp3 K PEx2 true wsI)) (rows : Rw) (bo : List Int) (i j : Int) (hp : PAd rows bo i j) :
    Body P w K mg base N_added "added" s_added f 1 [.val false rows, .val false bo, .val false i, .val false j] (RT true (adI rows bo i j)) := by
  intro cdv A outer s H E hr
  obtain ⟨n, m, rc, nm, m16, bl, i0, il, j0, jl, hs, hbi, hbj⟩ := hp.ex
  have hl := rc.len
  have rlen : ∀ r ∈ rows, r.length = m := fun r hr => by
    obtain ⟨a, ha, e⟩ := List.mem_iff_getElem.mp hr
    have := rc.rl a (by omega)
    rw [List.getD_eq_getElem?_getD, List.getElem?_eq_getElem ha, e] at this
    exact this
  refine s_compO (β := Int) (f := fun r : List Int => wsI r i j) 4 sc_added.nd ["row"] [2, 3] (cscope (defScope s_added) N_added rfl rfl (by decide +kernel)) (ei_list (e_var 0)) (gp_name 0) (fun C s H fp => pg_cn 0 ["row", "i", "j"]) lt_of_eq (fun a r hr' C s H fp => en_call3 c_with_sum (hr.mono (by decide)) rfl (e_var 0) (e_var 1) (e_var 2) ⟨i0, by rw [rlen r (mem_at hr')]; omega, j0, by rw [rlen r (mem_at hr')]; omega⟩) (by omega) ?_
  have ew : (rows.map fun r : List Int => wsI r i j) = rows.map (wsF i.toNat j.toNat) := rfl
  rw [ew]
  have lw : (rows.map (wsF i.toNat j.toNat)).length = n := by rw [List.length_map]; exact hl
  have hat : ∀ x : Int, 0 ≤ x → x < n → atI (rows.map (wsF i.toNat j.toNat)) x = some ((rows.map (wsF i.toNat j.toNat)).getD x.toNat []) := fun x x0 x1 => atGetD x0 (by omega)
  have hba : ∀ x : Int, 0 ≤ x → x < n → atI bo x = some (bo.getD x.toNat 0) := fun x x0 x1 => atGetD x0 (by omega)
  have hwm : ∀ x : Int, 0 ≤ x → x < n → ∀ y ∈ (rows.map (wsF i.toNat j.toNat)).getD x.toNat [], Sm 8001 y := fun x x0 x1 y hy => by
    have hm : (rows.map (wsF i.toNat j.toNat)).getD x.toNat [] ∈ rows.map (wsF i.toNat j.toNat) := _root_.EP.getD_mem (by omega)
    obtain ⟨r, hr', e⟩ := List.mem_map.mp hm
    rw [← e] at hy
    exact ws_sm (by rw [rlen r hr']; omega) (by rw [rlen r hr']; omega) (hs r hr') y hy
  have hwl : ∀ x : Int, 0 ≤ x → x < n → ((rows.map (wsF i.toNat j.toNat)).getD x.toNat []).length = m := fun x x0 x1 => by
    rw [_root_.EP.map_get (by omega), _root_.EP.ws_len]; exact rc.rl _ (by omega)
  refine s_setO 4 rfl (e_var 2) (e_new (en_borrowO (β := Int) 4 rfl (en_compT (f := fun p : Int × Int => p.1 * bo.getD j.toNat 0 + p.2 * bo.getD i.toNat 0) (b' := true) ["a", "b"] [1, 2, 3] (cscope (defScope s_added) N_added rfl rfl (by decide +kernel)) (ei_zip rfl B.zip (e_ixL (e_var 4) (e_var 2) (hat i i0 il)) (e_ixL (e_var 4) (e_var 3) (hat j j0 jl))) (gp_two 0 1) (fun C s H fp => pg_cn2 0 1 ["a", "b", "bottoms", "i", "j"]) lt_of_eq2 (fun a p hp' C s H fp => e_add (e_mul (e_var 0) (e_ixL (e_var 2) (e_var 4) (hba j j0 jl)) ((hwm i i0 il _ (_root_.EP.mem_zip_l (mem_at hp')).1).ok hbj)) (e_mul (e_var 1) (e_ixL (e_var 2) (e_var 3) (hba i i0 il)) ((hwm j j0 jl _ (_root_.EP.mem_zip_l (mem_at hp')).2).ok hbi))) (by rw [List.length_zip, hwl i i0 il]; omega)))) i0 (by omega) ?_
  refine s_asg 5 sc_added.nd (e_mul (e_ixL (e_var 1) (e_var 2) (hba i i0 il)) (e_ixL (e_var 1) (e_var 3) (hba j j0 jl)) (hbi.ok hbj)) ?_
  refine s_freeze 4 rfl ?_
  refine s_ret (e_tup2 (b1 := true) (b2 := true) (e_var 4) (e_comp (f := fun k : Int => if decide (k = i) = true then bo.getD i.toNat 0 * bo.getD j.toNat 0 else bo.getD k.toNat 0) (b' := true) ["k"] [1, 2, 5] (cscope (defScope s_added) N_added rfl rfl (by decide +kernel)) (ei_range rfl B.range (e_lenL rfl B.len (e_var 1)) (by omega) (by omega)) (gp_name 0) (fun C s H fp => pg_cn 0 ["k", "bottoms", "i", "bottom"]) lt_of_eq (fun a t ht C s H fp => ?_) (by rw [seqI_len]; omega))) ?_
  · obtain ⟨t1, t2⟩ := seqI_get ht
    have ht' : t = (a : Int) := by omega
    subst ht'
    refine e_if (t_cmp cv_eqI (e_var 0) (e_var 2)) (fun _ => e_up (b' := true) (e_var 3)) fun _ => e_up (b' := true) (e_ixL (e_var 1) (e_var 0) ?_)
    exact hba (a : Int) (by omega) (by omega)
  · show Bd.val _ _ = Bd.val _ _
    congr 1
    unfold adI _root_.EP.adF _root_.EP.adR _root_.EP.adB
    congr 1
    rw [Int.toNat_natCast, seq_rng]
    unfold _root_.EP.rng
    rw [List.map_map]
    refine List.map_congr_left fun k _ => ?_
    show (if decide ((k : Int) = i) = true then _ else _) = _
    by_cases z : k = i.toNat
    · rw [if_pos (by simp; omega), if_pos z]
    · rw [if_neg (by simp; omega), if_neg z, Int.toNat_natCast]

def npI (rows : Rw) (k : Int) : Option (Int × Int) := (npF rows k.toNat).map fun p => ((p.1 : Int), (p.2 : Int))
structure PNp (rows : Rw) (k : Int) : Prop where
  k0 : 0 ≤ k
  kl : k ≤ rows.length
  l : rows.length ≤ 100
  r : ∀ r ∈ rows, rows.length ≤ r.length
theorem find_range {p : Nat → Bool} {k n m : Nat} (h0 : ∀ j, j < m → p (k + j) = false) (hm : k + m < n) (h1 : p (k + m) = true) : (List.range' k (n - k)).find? p = some (k + m) := by
  rw [List.find?_eq_some_iff_getElem]
  refine ⟨h1, m, by rw [List.length_range']; omega, by simp, fun j hj => ?_⟩
  simpa using h0 j hj
theorem find_none {p : Nat → Bool} {k n : Nat} (h0 : ∀ j, k ≤ j → j < n → p j = false) : (List.range' k (n - k)).find? p = none := by
  rw [List.find?_eq_none]
  intro j hj
  rw [List.mem_range'_1] at hj
  rw [h0 j hj.1 (by omega)]
  decide
theorem np_diag {rows : Rw} {k m : Nat} (h0 : ∀ j, j < m → ent2 rows (k + j) (k + j) = 0) (hm : k + m < rows.length) (h1 : ent2 rows (k + m) (k + m) ≠ 0) : npF rows k = some (k + m, k + m) := by
  unfold _root_.EP.npF
  rw [find_range (p := fun j => !decide (ent2 rows j j = 0)) (fun j hj => by simp [h0 j hj]) hm (by simp [h1])]
theorem np_off {rows : Rw} {k i j : Nat} (hd : ∀ a, k ≤ a → a < rows.length → ent2 rows a a = 0) (hr : ∀ a, k ≤ a → a < i → ∀ c, a < c → c < rows.length → ent2 rows a c = 0) (hc : ∀ c, i < c → c < j → ent2 rows i c = 0) (hk : k ≤ i) (hij : i < j) (hj : j < rows.length) (h1 : ent2 rows i j ≠ 0) : npF rows k = some (i, j) := by
  unfold _root_.EP.npF
  rw [find_none (p := fun j => !decide (ent2 rows j j = 0)) (fun a ha hb => by simp [hd a ha hb])]
  dsimp only
  rw [List.findSome?_eq_some_iff]
  refine ⟨List.range' k (i - k), i, List.range' (i + 1) (rows.length - (i + 1)), ?_, ?_, fun a ha => ?_⟩
  · rw [show rows.length - k = (i - k) + ((rows.length - (i + 1)) + 1) by omega, ← List.range'_append, Nat.one_mul, show k + (i - k) = i by omega, List.range'_succ]
  · rw [Option.map_eq_some_iff]
    refine ⟨j, ?_, rfl⟩
    have := find_range (p := fun c => !decide (ent2 rows i c = 0)) (k := i + 1) (n := rows.length) (m := j - (i + 1)) (fun c hc' => by simp [hc (i + 1 + c) (by omega) (by omega)]) (by omega) (by rw [show i + 1 + (j - (i + 1)) = j by omega]; simp [h1])
    rw [show i + 1 + (j - (i + 1)) = j by omega] at this
    exact this
  · rw [List.mem_range'_1] at ha
    rw [Option.map_eq_none_iff]
    exact find_none fun c hc1 hc2 => by simp [hr a ha.1 (by omega) c (by omega) hc2]
theorem np_no {rows : Rw} {k : Nat} (hd : ∀ a, k ≤ a → a < rows.length → ent2 rows a a = 0) (hr : ∀ a, k ≤ a → a < rows.length → ∀ c, a < c → c < rows.length → ent2 rows a c = 0) : npF rows k = none := by
  unfold _root_.EP.npF
  rw [find_none (p := fun j => !decide (ent2 rows j j = 0)) (fun a ha hb => by simp [hd a ha hb])]
  dsimp only
  rw [List.findSome?_eq_none_iff]
  intro a ha
  rw [List.mem_range'_1] at ha
  rw [Option.map_eq_none_iff]
  exact find_none fun c hc1 hc2 => by simp [hr a ha.1 (by omega) c (by omega) hc2]
set_option maxHeartbeats 1000000 in
include B in
theorem b_next_places (rows : Rw) (k : Int) (h : PNp rows k) : Body P w K mg base N_next_places "next_places" s_next_places f kk [.val false rows, .val false k] (RT true (npI rows k)) := by
  intro cdv A outer s H E hr
  obtain ⟨k, rfl⟩ : ∃ n : Nat, k = (n : Int) := ⟨k.toNat, by have := h.k0; omega⟩
  have hl := h.l
  have hkl := h.kl
  have e0 : npI rows (k : Int) = (npF rows k).map fun p => ((p.1 : Int), (p.2 : Int)) := by unfold npI; rw [Int.toNat_natCast]
  rw [e0]
  have ix : ∀ a c : Nat, a < rows.length → c < rows.length → ∀ x y : Int, x = (a : Int) → y = (c : Int) → atI rows x = some (rows.getD a []) ∧ atI (rows.getD a []) y = some (ent2 rows a c) := fun a c ha hc x y ex ey => by
    subst ex; subst ey
    have := h.r _ (_root_.EP.getD_mem (d := []) ha)
    exact ⟨at2 (j := 0) (r := []) ha, at1 (by omega)⟩
  refine s_asg 2 sc_next_places.nd (e_lenL rfl B.len (e_var 0)) ?_
  refine s_forRange2 (fun i Γ => (∀ j, j < i → ent2 rows (k + j) (k + j) = 0) ∧ ∃ r, Γ = [some (.val false rows), some (.val false (k : Int)), some (.val true (rows.length : Int)), r, none]) rfl B.range (g_name 3 sc_next_places.nd) (e_var 1) (e_var 2) ⟨by omega, by omega, by omega, by omega⟩ ⟨fun j hj => absurd hj (Nat.not_lt_zero j), none, rfl⟩ ?_ ?_
  · rintro i Γ' hi ⟨hj, r, rfl⟩
    have hki : k + i < rows.length := by omega
    obtain ⟨x1, x2⟩ := ix (k + i) (k + i) hki hki ((k : Int) + (i : Int)) ((k : Int) + (i : Int)) (by omega) (by omega)
    refine s_if1 (t_cmp cv_neI (e_ixL (e_ixL (e_var 0) (e_var 3) x1) (e_var 3) x2) e_int) (fun hc => ?_) (fun hc => ?_)
    · have h1 : ent2 rows (k + i) (k + i) ≠ 0 := by simpa using hc
      rw [np_diag hj hki h1]
      refine s_ret (α := Option (Int × Int)) (a := some ((k : Int) + (i : Int), (k : Int) + (i : Int))) (e_some (e_tup2 (b1 := true) (b2 := true) (e_var 3) (e_var 3))) ?_
      show Bd.val _ _ = Bd.val _ _
      congr 1
    · have h1 : ent2 rows (k + i) (k + i) = 0 := by simpa using hc
      refine s_nil ⟨fun j hlt => ?_, _, rfl⟩
      by_cases q : j = i
      · subst q; exact h1
      · exact hj j (by omega)
  · rintro Γ' ⟨hj, r, rfl⟩
    have hd : ∀ a, k ≤ a → a < rows.length → ent2 rows a a = 0 := fun a ha hb => by
      have := hj (a - k) (by omega)
      rw [show k + (a - k) = a by omega] at this
      exact this
    refine s_forRange2 (fun i Γ => (∀ a, k ≤ a → a < k + i → ∀ c, a < c → c < rows.length → ent2 rows a c = 0) ∧ ∃ r3 r4, Γ = [some (.val false rows), some (.val false (k : Int)), some (.val true (rows.length : Int)), r3, r4]) rfl B.range (g_name 4 sc_next_places.nd) (e_var 1) (e_var 2) ⟨by omega, by omega, by omega, by omega⟩ ⟨fun a ha hb => by omega, _, _, rfl⟩ ?_ ?_
    · rintro i Γ' hi ⟨hr0, r3, r4, rfl⟩
      have hki : k + i < rows.length := by omega
      refine s_forRange2 (lo := (k : Int) + (i : Int) + 1) (n := (rows.length : Int)) (fun j Γ => (∀ c, k + i < c → c < k + i + 1 + j → ent2 rows (k + i) c = 0) ∧ ∃ r3, Γ = [some (.val false rows), some (.val false (k : Int)), some (.val true (rows.length : Int)), r3, some (.val true ((k : Int) + (i : Int)))]) rfl B.range (g_name 3 sc_next_places.nd) (e_add (e_var 4) e_int) (e_var 2) ⟨by omega, by omega, by omega, by omega⟩ ⟨fun c h1 h2 => by omega, _, rfl⟩ ?_ ?_
      · rintro j Γ' hj2 ⟨hc0, r3, rfl⟩
        have hjl : k + i + 1 + j < rows.length := by omega
        obtain ⟨x1, x2⟩ := ix (k + i) (k + i + 1 + j) hki hjl ((k : Int) + (i : Int)) ((k : Int) + (i : Int) + 1 + (j : Int)) (by omega) (by omega)
        refine s_if1 (t_cmp cv_neI (e_ixL (e_ixL (e_var 0) (e_var 4) x1) (e_var 3) x2) e_int) (fun hc => ?_) (fun hc => ?_)
        · have h1 : ent2 rows (k + i) (k + i + 1 + j) ≠ 0 := by simpa using hc
          rw [np_off hd hr0 (fun c h1 h2 => hc0 c h1 h2) (by omega) (by omega) hjl h1]
          refine s_ret (α := Option (Int × Int)) (a := some ((k : Int) + (i : Int), (k : Int) + (i : Int) + 1 + (j : Int))) (e_some (e_tup2 (b1 := true) (b2 := true) (e_var 4) (e_var 3))) ?_
          show Bd.val _ _ = Bd.val _ _
          congr 1
        · have h1 : ent2 rows (k + i) (k + i + 1 + j) = 0 := by simpa using hc
          refine s_nil ⟨fun c h2 h3 => ?_, _, rfl⟩
          by_cases q : c = k + i + 1 + j
          · rw [q]; exact h1
          · exact hc0 c h2 (by omega)
      · rintro Γ' ⟨hc0, r3, rfl⟩
        refine s_nil ⟨fun a h1 h2 c h3 h4 => ?_, _, _, rfl⟩
        by_cases q : a = k + i
        · subst q; exact hc0 c h3 (by omega)
        · exact hr0 a h1 (by omega) c h3 h4
    · rintro Γ' ⟨hr0, r3, r4, rfl⟩
      rw [np_no hd fun a h1 h2 c h3 h4 => hr0 a h1 (by omega) c h3 h4]
      exact s_ret (α := Option (Int × Int)) (a := none) e_non rfl

open _root_.EP (tuL slF Ul Uz Zb r2 b2 Tf)
theorem notNonP (K : PySem.W.Frag) (N : Nn) (H : Hp) (a : Int × Int) : ¬ Py.rp K N H .non a := fun ⟨_, _, _, e, _⟩ => nomatch e
def tuI (rows : Rw) (bo : List Int) : Rw × List Int := tuL rows.length rows.length rows bo [] 1
structure PTu (rows : Rw) (bo : List Int) : Prop where
  ex : ∃ (n b : Nat) (F : Nat → Nat → Rat) (S : Nat → Nat → Rat), 1 ≤ n ∧ n ≤ 8 ∧ (∀ a, a < n → ∀ b, b < n → F a b = F b a) ∧ Ul n b 0 rows bo [] 1 F S ∧ Uz n (Zb b 0) rows ∧ (∀ k, k ≤ n → 2 ^ (b + 2) * Zb b k < 2 ^ 8000) ∧ b ≤ 1900
theorem tu_none {n k : Nat} {rows : Rw} {bo dv : List Int} {bf : Int} (hk : k < n) (e : npF rows k = none) : tuL n (n - k) rows bo dv bf = (rows, dv ++ (bo.drop k).map fun x => bf * x) := by
  have e1 : n - k = (n - (k + 1)) + 1 := by omega
  have e2 : n - (n - (k + 1) + 1) = k := by omega
  rw [e1, tuL, e2, e]
theorem tu_some {n k i j : Nat} {rows : Rw} {bo dv : List Int} {bf : Int} (hk : k < n) (e : npF rows k = some (i, j)) : tuL n (n - k) rows bo dv bf = tuL n (n - (k + 1)) (slF (uxF (r2 rows bo i j) k i) k bf) (exL (b2 bo i j) k i) (dv ++ [bf * (exL (b2 bo i j) k i).getD k 0]) (ent2 (uxF (r2 rows bo i j) k i) k k) := by
  have e1 : n - k = (n - (k + 1)) + 1 := by omega
  have e2 : n - (n - (k + 1) + 1) = k := by omega
  rw [e1, tuL, e2, e]
  rfl
theorem uz_sm {n m Z : Nat} {rows : Rw} (rc : Rc n m rows) (hz : Uz n Z rows) (h : Z < 2 ^ 8000) : ∀ a, a < n → ∀ x ∈ rows.getD a [], Sm 8000 x := fun a ha x hx => by
  obtain ⟨c, hc, e⟩ := List.mem_iff_getElem.mp hx
  have := hz a ha c
  unfold ent2 at this
  rw [List.getD_eq_getElem?_getD (l := rows.getD a []), List.getElem?_eq_getElem hc, e] at this
  exact Nat.lt_of_le_of_lt this h
set_option maxHeartbeats 2000000 in
include B in
theorem b_turned (c_exchanged2 : Cal P w K mg base 1 "exchanged" ["rows", "i", "j"] (sp3 K PEx2 false exLz)) (c_cleared_row : Cal P w K mg base 1 "cleared_row" ["row", "taken", "k", "before"] (sp4 K PCr true crI)) (c_next_places : Cal P w K mg base 1 "next_places" ["rows", "k"] (sp2 K PNp true npI)) (c_added : Cal P w K mg base 2 "added" ["rows", "bottoms", "i", "j"] (sp4 K PAd true adI)) (c_unknowns_exchanged : Cal P w K mg base 2 "unknowns_exchanged" ["rows", "i", "j"] (sp3 K PUx false uxI)) (rows0 : Rw) (bo0 : List Int) (hp : PTu rows0 bo0) :
    Body P w K mg base N_turned "turned" s_turned f 2 [.val false rows0, .val false bo0] (RT false (tuI rows0 bo0)) := by
  intro cdv A outer s H E hr
  obtain ⟨n, b, F, S0, n1, n8, hF, u0, z0, hZ, hb19⟩ := hp.ex
  have l0 := u0.rc.len
  refine s_asg 2 sc_turned.nd (e_lenL rfl B.len (e_var 0)) ?_
  refine s_own 3 Int sc_turned.nd ?_
  refine s_asg 4 sc_turned.nd e_int ?_
  rw [l0]
  have eI : tuI rows0 bo0 = tuL n n rows0 bo0 [] 1 := by unfold tuI; rw [l0]
  rw [eI]
  have one : 1 ≤ Zb b 0 := by
    unfold _root_.EP.Zb _root_.EP.Bu bnd
    exact Nat.mul_pos (by decide) (Nat.pow_pos (Nat.two_pow_pos _))
  refine s_forRange (n := (n : Int)) (fun k Γ => k ≤ n ∧ ∃ rows bo dv bf S r5 r6 r7 r8, Γ = [some (.val false rows), some (.val false bo), some (.val true (n : Int)), some (.own true dv), some (.val true bf), r5, r6, r7, r8] ∧ tuL n (n - k) rows bo dv bf = tuL n n rows0 bo0 [] 1 ∧ Ul n b k rows bo dv bf F S ∧ Uz n (Zb b k) rows ∧ bf.natAbs ≤ Zb b k) rfl B.range (g_name 5 sc_turned.nd) (e_var 2) (by omega) (by omega) ⟨Nat.zero_le _, rows0, bo0, [], 1, S0, none, none, none, none, rfl, by rw [Nat.sub_zero], u0, z0, one⟩ ?_ ?_
  · rintro k Γ' hk ⟨hkn, rows, bo, dv, bf, S, r5, r6, r7, r8, rfl, htu, ul, uz, hbf⟩
    have hk' : k < n := by omega
    have rc := ul.rc
    have hl := rc.len
    have hZk := hZ k hkn
    have zle : Zb b k < 2 ^ 8000 := Nat.lt_of_le_of_lt (Nat.le_mul_of_pos_left _ (Nat.two_pow_pos _)) hZk
    have rlen : ∀ {rs : Rw}, Rc n (n + n) rs → ∀ r ∈ rs, r.length = n + n := fun {rs} rc' r hr => by
      obtain ⟨a, ha, e⟩ := List.mem_iff_getElem.mp hr
      have := rc'.rl a (by have := rc'.len; omega)
      rw [List.getD_eq_getElem?_getD, List.getElem?_eq_getElem ha, e] at this
      exact this
    have bsm : ∀ a, k ≤ a → a < n → Sm 8000 (bo.getD a 0) := fun a ha han => by
      show _ < _
      exact Nat.lt_of_le_of_lt (ul.bb a ha han) (Nat.pow_lt_pow_right (by decide) (by omega))
    have bfs : Sm 8000 bf := Nat.lt_of_le_of_lt hbf zle
    have bf0 : bf ≠ 0 := by obtain ⟨g, el, _⟩ := ul.up.el; exact fun z => el.d0 (by rw [z]; rfl)
    have hnp : PNp rows (k : Int) := ⟨by omega, by omega, by omega, fun r hr => by rw [rlen rc r hr]; omega⟩
    refine s_asg 6 sc_turned.nd (e_call2 c_next_places (hr.mono (by decide)) rfl (e_var 0) (e_var 5) hnp) ?_
    have enp : npI rows (k : Int) = (npF rows k).map fun p => ((p.1 : Int), (p.2 : Int)) := by unfold npI; rw [Int.toNat_natCast]
    rw [enp, ← htu]
    cases hf : npF rows k with
    | none =>
      rw [tu_none hk' hf]
      refine s_if1 (t_isN (α := Int × Int) (x := none) (e_var 6) notNonP) (fun hc => ?_) (fun hc => ?_)
      · refine s_freeze 3 rfl ?_
        have bl := ul.bl
        have dl := ul.dl
        have hsm : ∀ (a : Nat) (x : Int), (bo.drop ((k : Int)).toNat)[a]? = some x → Sm 8000 x := fun a x hx => by
          rw [List.getElem?_drop, Int.toNat_natCast] at hx
          have hlt : k + a < bo.length := (List.getElem?_eq_some_iff.mp hx).1
          have := bsm (k + a) (by omega) (by omega)
          rw [List.getD_eq_getElem?_getD, hx] at this
          exact this
        refine s_ret (e_tup2 (b1 := false) (b2 := false) (e_var 0) (_root_.L2.EP.E.wk (e_catT (e_var 3) (e_comp (f := fun x : Int => bf * x) (b' := true) ["bottom"] [4] (cscope (defScope s_turned) N_turned rfl rfl (by decide +kernel)) (ei_list (e_from (e_var 1) (e_var 5) (by omega))) (gp_name 0) (fun C s H fp => pg_cn 0 ["bottom", "before"]) lt_of_eq (fun a x hx C s H fp => e_mul (e_var 1) (e_var 0) (bfs.ok (hsm a x hx))) (by rw [List.length_drop]; omega)) (by rw [List.length_map, List.length_drop]; omega)) (fun z => by cases z))) ?_
        rw [Int.toNat_natCast]
        rfl
      · cases hc
    | some p =>
      obtain ⟨i, j⟩ := p
      obtain ⟨m1, m2, m3, m4, m5⟩ := _root_.EP.np_some rc hf
      obtain ⟨piv, S', ul'⟩ := ul.step hF hk' hf
      rw [tu_some hk' hf]
      refine s_if1 (t_isN (α := Int × Int) (x := some ((i : Int), (j : Int))) (e_var 6) notNonP) (fun hc => ?_) (fun _ => ?_)
      · cases hc
      have rz := _root_.EP.r2_size (b := b) (bo := bo) (i := i) (j := j) rc (by omega) (by omega) m3 (by omega) uz (ul.bb i m1 (by omega)) (ul.bb j (by omega) m3)
      refine s_ifJ (fun Γ => ∃ r7, Γ = [some (.val false (r2 rows bo i j)), some (.val false (b2 bo i j)), some (.val true (n : Int)), some (.own true dv), some (.val true bf), some (.val true (k : Int)), some (.val true (some ((i : Int), (j : Int)))), r7, r8]) (t_cmp cv_neI (e_fst (e_get (α := Int × Int) (a := ((i : Int), (j : Int))) (e_var 6))) (e_snd (e_get (α := Int × Int) (a := ((i : Int), (j : Int))) (e_var 6)))) (fun hc => ?_) (fun hc => ?_) ?_
      · have hne : i ≠ j := by
          have : ¬ (i : Int) = (j : Int) := by simpa using hc
          omega
        have pad : PAd rows bo (i : Int) (j : Int) := ⟨n, n + n, rc, by omega, by omega, ul.bl, by omega, by omega, by omega, by omega, fun r hr x hx => by
          obtain ⟨a, ha, e⟩ := List.mem_iff_getElem.mp hr
          have := uz_sm rc uz zle a (by omega) x
          rw [List.getD_eq_getElem?_getD, List.getElem?_eq_getElem ha, e] at this
          exact this hx, by rw [Int.toNat_natCast]; exact bsm i m1 (by omega), by rw [Int.toNat_natCast]; exact bsm j (by omega) m3⟩
        refine s_asg 7 sc_turned.nd (e_call4 c_added (hr.mono (by decide)) rfl (e_var 0) (e_var 1) (e_fst (e_get (α := Int × Int) (a := ((i : Int), (j : Int))) (e_var 6))) (e_snd (e_get (α := Int × Int) (a := ((i : Int), (j : Int))) (e_var 6))) pad) ?_
        have ead : adI rows bo (i : Int) (j : Int) = (r2 rows bo i j, b2 bo i j) := by
          unfold adI _root_.EP.r2 _root_.EP.b2
          rw [Int.toNat_natCast, Int.toNat_natCast, if_neg hne, if_neg hne]
        rw [ead]
        refine s_asg 0 sc_turned.nd (_root_.L2.EP.E.wk (b := true) (b' := false) (e_fst (e_var 7)) (fun z => by cases z)) ?_
        refine s_asg 1 sc_turned.nd (_root_.L2.EP.E.wk (b := true) (b' := false) (e_snd (e_var 7)) (fun z => by cases z)) ?_
        exact s_nil ⟨_, rfl⟩
      · have he : i = j := by
          have : (i : Int) = (j : Int) := by simpa using hc
          omega
        have e1 : r2 rows bo i j = rows := by unfold _root_.EP.r2; rw [if_pos he]
        have e2 : b2 bo i j = bo := by unfold _root_.EP.b2; rw [if_pos he]
        rw [e1, e2]
        exact s_nil ⟨_, rfl⟩
      rintro Γ' ⟨r7', rfl⟩
      have rc1 : Rc n (n + n) (r2 rows bo i j) := by
        unfold _root_.EP.r2
        split
        · exact rc
        · exact _root_.EP.ad_rc rc (by omega) (by omega) m3 (by omega)
      have bl1 : (b2 bo i j).length = n := by
        unfold _root_.EP.b2
        split
        · exact ul.bl
        · rw [_root_.EP.adB_len]; exact ul.bl
      have bi : ((b2 bo i j).getD i 0).natAbs ≤ 2 ^ b * 2 ^ b := by
        have q1 := ul.bb i m1 (by omega)
        have q2 := ul.bb j (by omega) m3
        have p1 : 1 ≤ 2 ^ b := Nat.two_pow_pos b
        unfold _root_.EP.b2
        split
        · exact Nat.le_trans q1 (Nat.le_mul_of_pos_left _ p1)
        · rw [_root_.EP.adB_get (by rw [ul.bl]; omega), if_pos rfl, Int.natAbs_mul]
          exact Nat.mul_le_mul q1 q2
      generalize r2 rows bo i j = rows1 at *
      generalize b2 bo i j = bo1 at *
      have hin : i < n := by omega
      have rc2 := _root_.EP.ux_rc rc1 hk' hin
      have uz2 := _root_.EP.ux_size rc1 (by omega) hk' hin rz
      have l1 := rc1.len
      have l2 := rc2.len
      refine s_asg 0 sc_turned.nd (e_call3 c_unknowns_exchanged (hr.mono (by decide)) rfl (e_var 0) (e_var 5) (e_fst (e_get (α := Int × Int) (a := ((i : Int), (j : Int))) (e_var 6))) ⟨by omega, by omega, by omega, by omega, by omega, fun r hr => by rw [rlen rc1 r hr]; omega⟩) ?_
      have eux : uxI rows1 (k : Int) (i : Int) = uxF rows1 k i := by unfold uxI; rw [Int.toNat_natCast, Int.toNat_natCast]
      rw [eux]
      refine s_asg 1 sc_turned.nd (e_call3 c_exchanged2 (hr.mono (by decide)) rfl (e_var 1) (e_var 5) (e_fst (e_get (α := Int × Int) (a := ((i : Int), (j : Int))) (e_var 6))) ⟨by omega, by omega, by omega, by omega⟩) ?_
      have eex : exLz bo1 (k : Int) (i : Int) = exL bo1 k i := by unfold exLz; rw [Int.toNat_natCast, Int.toNat_natCast]
      rw [eex]
      have bk : (exL bo1 k i).getD k 0 = bo1.getD i 0 := by rw [_root_.EP.exL_get (by omega) (by omega), _root_.EP.sw_self]
      have bks : Sm 8000 ((exL bo1 k i).getD k 0) := by
        rw [bk]
        show _ < _
        refine Nat.lt_of_le_of_lt bi ?_
        rw [← Nat.pow_add]
        exact Nat.pow_lt_pow_right (by decide) (by omega)
      have lex : (exL bo1 k i).length = n := by rw [_root_.EP.exL_len]; exact bl1
      have hst := ul'.up
      have usz := _root_.EP.sl_size rc2 hk' uz2 ul'
      have bfz : (ent2 (uxF rows1 k i) k k).natAbs ≤ Zb b (k + 1) := Nat.le_trans (uz2 k hk' k) (_root_.EP.Zb_step b k)
      generalize uxF rows1 k i = rows2 at *
      generalize exL bo1 k i = bo2 at *
      have rl2 := rc2.rl
      have sm2 := uz_sm rc2 uz2 hZk
      refine s_asg 8 sc_turned.nd (e_ixL (e_var 0) (e_var 5) (rowI (i := k) (by omega) rfl)) ?_
      refine s_asg 0 sc_turned.nd (_root_.L2.EP.E.wk (b := false) (e_comp (f := fun t : Int => if decide (t ≤ (k : Int)) = true then rows2.getD t.toNat [] else crI (rows2.getD t.toNat []) (rows2.getD k []) (k : Int) bf) (b' := false) ["i"] [0, 4, 5, 8] (cscope (defScope s_turned) N_turned rfl rfl (by decide +kernel)) (ei_range rfl B.range (e_var 2) (by omega) (by omega)) (gp_name 0) (fun C s H fp => pg_cn 0 ["i", "rows", "before", "k", "taken"]) lt_of_eq (fun a t ht C s H fp => ?_) (by rw [seqI_len]; omega)) (fun z => z)) ?_
      · obtain ⟨t1, t2⟩ := seqI_get ht
        have ht' : t = (a : Int) := by omega
        subst ht'
        have hal : a < rows2.length := by omega
        rw [Int.toNat_natCast]
        refine e_if (t_cmp cv_le (e_var 0) (e_var 3)) (fun _ => e_ixL (e_var 1) (e_var 0) (rowI (i := a) hal rfl)) (fun _ => _root_.L2.EP.E.wk (e_call4 c_cleared_row (hr.mono (by decide)) rfl (e_ixL (e_var 1) (e_var 0) (rowI (i := a) hal rfl)) (e_var 4) (e_var 3) (e_var 2) ⟨by omega, by rw [rl2 a (by omega)]; omega, by rw [rl2 k hk']; omega, by rw [rl2 a (by omega)]; omega, sm2 a (by omega), sm2 k hk', bf0, bfs⟩) (fun z => by cases z))
      refine s_append 3 rfl (e_mul (e_var 4) (e_ixL (e_var 1) (e_var 5) (at_nat (d := 0) (by omega))) (bfs.ok bks)) (by rw [ul.dl]; omega) ?_
      refine s_asg 4 sc_turned.nd (e_up (b' := true) (e_ixL (e_var 8) (e_var 5) (at1 (j := k) (by rw [rl2 k hk']; omega)))) ?_
      have est : (seqI 0 1 (n : Int).toNat).map (fun t : Int => if decide (t ≤ (k : Int)) = true then rows2.getD t.toNat [] else crI (rows2.getD t.toNat []) (rows2.getD k []) (k : Int) bf) = slF rows2 k bf := by
        unfold _root_.EP.slF seqI
        rw [List.map_map, Int.toNat_natCast, l2]
        refine List.map_congr_left fun a _ => ?_
        show (if decide ((0 : Int) + (a : Int) * 1 ≤ (k : Int)) = true then _ else _) = _
        have e1 : ((0 : Int) + (a : Int) * 1).toNat = a := by omega
        rw [e1]
        by_cases z : a ≤ k
        · rw [if_pos (by simp; omega), if_pos z]
        · rw [if_neg (by simp; omega), if_neg z]
          unfold crI
          rw [Int.toNat_natCast]
      rw [est]
      have ebf : (rows2.getD k []).getD k 0 = ent2 rows2 k k := rfl
      rw [ebf]
      exact s_nil ⟨by omega, _, _, _, _, S', _, _, _, _, rfl, rfl, ul', usz, bfz⟩
  · rintro Γ' ⟨hkn, rows, bo, dv, bf, S, r5, r6, r7, r8, rfl, htu, ul, uz, hbf⟩
    rw [Int.toNat_natCast, Nat.sub_self] at htu
    rw [← htu]
    refine s_freeze 3 rfl ?_
    exact s_ret (e_tup2 (b1 := false) (b2 := false) (e_var 0) (_root_.L2.EP.E.wk (e_var 3) (fun z => by cases z))) rfl

open _root_.EP (uprF upN upC tuF)
def upA (T : Tb) : Ap Fr := ⟨(uprF T).1, (uprF T).2⟩
structure PUp (T : Tb) : Prop where
  ex : ∃ b, 1 ≤ T.length ∧ T.length ≤ 8 ∧ Bk T.length b T ∧ tov T = T ∧ T.length * b + 16 < 8000 ∧ b < 1900 ∧ 2 ^ b * 2 ^ b * (2 ^ (b + 2) * Zb b T.length) < 2 ^ 8000
theorem up_pre {T : Tb} (h : PUp T) : PBk T ∧ PTu (rows0 T T.length) (bots0 T T.length) ∧ tuI (rows0 T T.length) (bots0 T T.length) = tuF T ∧ ∃ S, _root_.EP.Ud T.length (Tf T) (tuF T).1 (tuF T).2 S ∧ Uz T.length (2 ^ 8000) (tuF T).1 ∧ ∀ i, i < T.length → Sm 8000 ((tuF T).2.getD i 0) := by
  obtain ⟨b, n1, n8, hB, hs, hb, hb2, hz⟩ := h.ex
  have hF : ∀ a, a < T.length → ∀ b, b < T.length → Tf T a b = Tf T b a := fun a ha b hb => by rw [← _root_.EP.Tf_tov hB.sq hb ha, hs]
  have p1 : 1 ≤ 2 ^ b := Nat.two_pow_pos b
  have pp : 1 ≤ 2 ^ b * 2 ^ b := Nat.mul_pos p1 p1
  have z1 : ∀ k, k ≤ T.length → 2 ^ (b + 2) * Zb b k < 2 ^ 8000 := fun k hk => by
    refine Nat.lt_of_le_of_lt (Nat.le_trans (Nat.mul_le_mul_left _ (_root_.EP.Zb_mono b hk)) ?_) hz
    exact Nat.le_mul_of_pos_left _ pp
  have z2 : 2 ^ b * 2 ^ b * Zb b T.length < 2 ^ 8000 := Nat.lt_of_le_of_lt (Nat.mul_le_mul_left _ (Nat.le_mul_of_pos_left _ (Nat.two_pow_pos _))) hz
  have st := _root_.EP.ul_start hB
  have us : Uz T.length (Zb b 0) (rows0 T T.length) := fun a ha c => st.size (Nat.zero_le a) ha c
  have st' : Ul T.length b (T.length - T.length) (rows0 T T.length) (bots0 T T.length) [] 1 (Tf T) _root_.EP.idm := by rw [Nat.sub_self]; exact st
  have one : 1 ≤ Zb b 0 := by
    unfold _root_.EP.Zb _root_.EP.Bu bnd
    exact Nat.mul_pos (by decide) (Nat.pow_pos (Nat.two_pow_pos _))
  obtain ⟨S, ud⟩ := _root_.EP.tu_end hF T.length (rows0 T T.length) (bots0 T T.length) [] 1 _root_.EP.idm (Nat.le_refl _) st'
  obtain ⟨s1, s2⟩ := _root_.EP.tu_size hF T.length (rows0 T T.length) (bots0 T T.length) [] 1 _root_.EP.idm (Nat.le_refl _) st' (by rw [Nat.sub_self]; exact us) (by rw [Nat.sub_self]; exact one) (fun i hi => by omega)
  have e : tuI (rows0 T T.length) (bots0 T T.length) = tuF T := by unfold tuI _root_.EP.tuF; rw [_root_.EP.rows0_len]
  refine ⟨⟨b, n1, n8, hB, hb, hb2⟩, ⟨T.length, b, Tf T, _root_.EP.idm, n1, n8, hF, st, us, z1, by omega⟩, e, S, ud, fun a ha c => ?_, fun i hi => ?_⟩
  · exact Nat.le_of_lt (Nat.lt_of_le_of_lt (s1 a ha c) (Nat.lt_of_le_of_lt (Nat.le_mul_of_pos_left _ (Nat.two_pow_pos _)) (z1 T.length (Nat.le_refl _))))
  · exact Nat.lt_of_le_of_lt (s2 i hi) z2
set_option maxHeartbeats 2000000 in
include B in
theorem b_upright (c_fraction : Cal P w K mg base 2 "fraction" ["top", "bottom"] (sp2 K PFr true fr)) (c_turned_over : Cal P w K mg base 2 "turned_over" ["T"] (sp1 K PTv true tov)) (c_quotients : Cal P w K mg base 3 "quotients" ["tops", "bottom"] (sp2 K PQu true _root_.EP.quF)) (c_opened : Cal P w K mg base 4 "opened" ["F"] (sp1 K PBk true opF)) (c_turned : Cal P w K mg base 3 "turned" ["rows", "bottoms"] (sp2 K PTu false tuI)) (T : Tb) (hp : PUp T) :
    Body P w K mg base N_upright "upright" s_upright f 4 [.val false T] (RT true (upA T)) := by
  intro cdv A outer s H E hr
  obtain ⟨pb, pt, et, S, ud, uz, sd⟩ := up_pre hp
  obtain ⟨b, n1, n8, _, _, _, _, _⟩ := hp.ex
  refine s_asg 1 sc_upright.nd (e_lenL rfl B.len (e_var 0)) ?_
  refine s_asg 2 sc_upright.nd (e_call1 c_opened (hr.mono (by decide)) rfl (e_var 0) pb) ?_
  refine s_asg 3 sc_upright.nd (e_call2 c_turned (hr.mono (by decide)) rfl (e_fst (e_var 2)) (e_snd (e_var 2)) pt) ?_
  have et' : tuI (opF T).1 (opF T).2 = tuF T := et
  rw [et']
  unfold upA _root_.EP.uprF
  generalize tuF T = Kn at *
  have rc := ud.rc
  have lk := rc.len
  have dl := ud.dl
  refine s_own 4 Fr sc_upright.nd ?_
  refine s_own 5 (List Fr) sc_upright.nd ?_
  refine s_for (fun i Γ => ∃ r6 r7, Γ = [some (.val false T), some (.val true (T.length : Int)), some (.val true (opF T)), some (.val false Kn), some (.own true (upN Kn i)), some (.own true ((rng i).map fun a => _root_.EP.quF ((Kn.1.getD a.toNat []).drop T.length) (Kn.2.getD a.toNat 0))), r6, r7]) (g_two 6 7 sc_upright.nd) (ei_enum rfl B.enumerate (e_fst (e_var 3))) ⟨none, none, rfl⟩ ?_ ?_
  · rintro i u Γ' hu ⟨r6, r7, rfl⟩
    obtain ⟨u1, u2⟩ := enI_get hu
    have hal : i < Kn.1.length := (List.getElem?_eq_some_iff.mp u1).1
    have eu : Kn.1.getD i [] = u.2 := by rw [List.getD_eq_getElem?_getD, u1]; rfl
    have lu : u.2.length = T.length + T.length := by rw [← eu]; exact rc.rl i (by omega)
    obtain ⟨d1, _, _⟩ := ud.dd i (by omega)
    have sdi := sd i (by omega)
    have a1 : atI u.2 u.1 = some (_root_.EP.ent2 Kn.1 i i) := by
      rw [u2]
      have := at1 (r := u.2) (j := i) (by omega)
      rw [this, ← eu]
      rfl
    have a2 : atI Kn.2 u.1 = some (Kn.2.getD i 0) := by rw [u2]; exact at_nat (by omega)
    refine s_append 4 rfl (e_call2 c_fraction (hr.mono (by decide)) rfl (e_ixL (e_var 7) (e_var 6) a1) (e_ixL (e_snd (e_var 3)) (e_var 6) a2) ⟨d1, sdi.le (by decide)⟩) (by show (upN Kn i).length ≤ 1000; unfold _root_.EP.upN; rw [List.length_map, _root_.EP.rng_len]; omega) ?_
    refine s_append 5 rfl (e_call2 c_quotients (hr.mono (by decide)) rfl (e_from (e_var 7) (e_var 1) (by omega)) (e_ixL (e_snd (e_var 3)) (e_var 6) a2) ⟨by rw [List.length_drop]; omega, d1, sdi⟩) (by rw [List.length_map, _root_.EP.rng_len]; omega) ?_
    have e1 : upN Kn (i + 1) = upN Kn i ++ [fr (_root_.EP.ent2 Kn.1 i i) (Kn.2.getD i 0)] := by
      unfold _root_.EP.upN
      rw [rng_succ, List.map_append]
      rfl
    have e2 : (rng (i + 1)).map (fun a : Int => _root_.EP.quF ((Kn.1.getD a.toNat []).drop T.length) (Kn.2.getD a.toNat 0)) = (rng i).map (fun a : Int => _root_.EP.quF ((Kn.1.getD a.toNat []).drop T.length) (Kn.2.getD a.toNat 0)) ++ [_root_.EP.quF (u.2.drop ((T.length : Int)).toNat) (Kn.2.getD i 0)] := by
      rw [rng_succ, List.map_append, ← eu, Int.toNat_natCast]
      rfl
    refine s_nil ?_
    show ∃ r6 r7, _ = _
    rw [e1, e2]
    exact ⟨_, _, rfl⟩
  · rintro Γ' ⟨r6, r7, rfl⟩
    rw [enI_len, lk]
    refine s_freeze 4 rfl ?_
    refine s_freeze 5 rfl ?_
    obtain ⟨sq, _⟩ := _root_.EP.upC_sq ud
    have ec : (rng T.length).map (fun a : Int => _root_.EP.quF ((Kn.1.getD a.toNat []).drop T.length) (Kn.2.getD a.toNat 0)) = upC Kn T.length := rfl
    rw [ec]
    exact s_ret (e_tupAp (e_var 4) (en_call1 c_turned_over (hr.mono (by decide)) rfl (e_var 5) ⟨by rw [sq.len]; omega, fun r hr' => by rw [sq.len, sq.row r hr']; exact Nat.le_refl _⟩)) rfl

def bigS (c k j : Int) : Int := ((((c * (48271 + 7919 * j) + (j + 3) * (k + j + 5) * 69621).fmod 2147483647) * 16807)).fmod 2147483629
def bigL (c k : Int) : Nat → Int
  | 0 => 1
  | i + 1 => bigL c k i * 1000000007 + (bigS c k i * ((i : Int) + 2)).fmod 1000000007
def cell (xs : List Int) (k : Int) : Int := if k < (xs.length : Int) then xs.getD k.toNat 0 else 11 + k
def big (xs : List Int) (k : Int) : Int := if cell xs k < 0 ∨ 10 ^ 18 ≤ cell xs k then (if cell xs k < 0 then -cell xs k else cell xs k) else bigL (cell xs k) k 40
theorem at_getD {xs : List Int} {k : Int} (h0 : 0 ≤ k) (h : k < (xs.length : Int)) : atI xs k = some (xs.getD k.toNat 0) := by
  have hk : k.toNat < xs.length := by omega
  have e : k = ((k.toNat : Nat) : Int) := by omega
  have q : atI xs ((k.toNat : Nat) : Int) = some xs[k.toNat] := atI_nat (by rw [List.getElem?_eq_getElem hk])
  rw [← e] at q
  rw [q, List.getD_eq_getElem?_getD, List.getElem?_eq_getElem hk]; rfl
include B in
theorem b_law_big (xs : List Int) (k : Int) (h0 : 0 ≤ k) (h1 : k ≤ 100) : Body P w K mg base N_law_big "_law_big" s_law_big f kk [.val false xs, .val false k] (RT true (big xs k)) := by
  intro cdv A outer s H E hr
  refine s_asg 2 sc_law_big.nd (e_add e_int (e_var 1)) ?_
  have last : ∀ b c, c = cell xs k → S (cx P w K mg base N_law_big "_law_big" s_law_big f cdv A outer s H E) [some (.val false xs), some (.val false k), some (.val b c), none, none, none] ((defBody s_law_big).drop 2) (RT true (big xs k)) := by
    intro b c he
    refine s_if1 (TW.t (tw_or (t_cmp cv_lt (e_var 2) e_int) fun _ => (tw_or1 (t_cmp cv_ge (e_var 2) (e_pow e_int e_int cpK))))) (fun hc => ?_) (fun hc => ?_)
    · refine s_ret (e_abs rfl B.abs (e_var 2)) ?_
      have hc' : c < 0 ∨ 10 ^ 18 ≤ c := by simpa using hc
      show Bd.val _ _ = Bd.val _ _
      congr 1
      unfold big
      rw [← he, if_pos hc']
    · have hc' : ¬ (c < 0 ∨ 10 ^ 18 ≤ c) := by simpa using hc
      refine s_asg 3 sc_law_big.nd e_int ?_
      refine s_forRange (fun i Γ => ∃ r r', Γ = [some (.val false xs), some (.val false k), some (.val b c), some (.val true (bigL c k i)), r, r']) rfl B.range (g_name 4 sc_law_big.nd) e_int (by decide) (by decide) ⟨none, none, rfl⟩ ?_ ?_
      · rintro i Γ' hi ⟨r, r', rfl⟩
        have hi' : i < 40 := hi
        have z1 := fmod_pos (a := c * (48271 + 7919 * (i : Int)) + ((i : Int) + 3) * (k + i + 5) * 69621) (b := 2147483647) (by decide)
        have z2 := fmod_pos (a := ((c * (48271 + 7919 * (i : Int)) + ((i : Int) + 3) * (k + i + 5) * 69621).fmod 2147483647) * 16807) (b := 2147483629) (by decide)
        refine s_asg 5 sc_law_big.nd (e_mod (e_mul (e_mod (e_add (e_mul (e_var 2) (e_add e_int (e_mul e_int (e_var 4) (mulL (by decide) (by decide)))) (mulL (by omega) (by omega))) (e_mul (e_mul (e_add (e_var 4) e_int) (e_add (e_add (e_var 1) (e_var 4)) e_int) (mulL (by omega) (by omega))) e_int (mulR (by decide) (by decide)))) e_int (by decide)) e_int (mulR (by decide) (by decide))) e_int (by decide)) ?_
        refine s_asg 3 sc_law_big.nd (e_add (e_mul (e_var 3) e_int (mulR (by decide) (by decide))) (e_mod (e_mul (e_var 5) (e_add (e_var 4) e_int) (mulR (by omega) (by omega))) e_int (by decide))) ?_
        exact s_nil ⟨_, _, rfl⟩
      · rintro Γ' ⟨r, r', rfl⟩
        refine s_ret (e_var 3) ?_
        show Bd.val _ _ = Bd.val _ _
        congr 1
        unfold big
        rw [← he, if_neg hc']
        rfl
  refine s_if1 (t_cmp cv_lt (e_var 1) (e_lenL rfl B.len (e_var 0))) (fun hc => ?_) (fun hc => ?_)
  · have hc' : k < (xs.length : Int) := by simpa using hc
    refine s_asg 2 sc_law_big.nd (e_ixL (e_var 0) (e_var 1) (at_getD h0 hc')) (s_nil ?_)
    exact last _ _ (by unfold cell; rw [if_pos hc'])
  · have hc' : ¬ k < (xs.length : Int) := by simpa using hc
    exact last _ _ (by unfold cell; rw [if_neg hc'])

include B in
theorem b_law_low (t b : Int) (hb : b ≠ 0) (hs : Sm 9000 b) : Body P w K mg base N_law_low "_law_low" s_law_low f k [.val false t, .val false b] (RT true (fr t b)) := by
  intro cdv A outer s H E hr
  have hn := _root_.EP.fd_ne (t := t) hb
  have hz : Sm 9000 (fd t b) := Sm.of_le (_root_.EP.fd_le hb) hs
  refine s_asg 2 sc_law_low.nd (e_abs rfl B.abs (e_var 0)) ?_
  refine s_asg 3 sc_law_low.nd (e_abs rfl B.abs (e_var 1)) ?_
  have ab : ∀ i : Int, (if i < 0 then -i else i) = (i.natAbs : Int) := fun i => by split <;> omega
  rw [ab, ab]
  refine s_while (ι := Int × Int) (fun i Γ => ∃ r, Γ = [some (.val false t), some (.val false b), some (.val true i.1), some (.val true i.2), r] ∧ Int.gcd i.1 i.2 = Int.gcd t b ∧ 0 ≤ i.1 ∧ 0 ≤ i.2) (fun i => i.2.natAbs) ((t.natAbs : Int), (b.natAbs : Int)) ⟨none, rfl, by show Nat.gcd _ _ = Nat.gcd _ _; simp, by omega, by omega⟩ ?_
  rintro ⟨x, y⟩ Γ' ⟨r, rfl, hg, hx0, hy0⟩
  dsimp only at hg hx0 hy0 ⊢
  refine ⟨_, t_cmp cv_gt (e_var 3) e_int, fun hc => ?_, fun hc => ?_⟩
  · have hy : 0 < y := by simpa using hc
    refine s_asg 4 sc_law_low.nd (e_mod (e_var 2) (e_var 3) (by omega)) ?_
    refine s_asg 2 sc_law_low.nd (e_var 3) ?_
    refine s_asg 3 sc_law_low.nd (e_var 4) ?_
    exact s_nil ⟨(y, x.fmod y), ⟨_, rfl, (_root_.EP.gcd_fmod x y).trans hg, hy0, (fmod_pos hy).1⟩, _root_.EP.fmod_lt x y (by omega)⟩
  · have hy : y = 0 := by
      have : ¬ 0 < y := by simpa using hc
      omega
    rw [hy, Int.gcd_zero_right] at hg
    have hx : x = ((Int.gcd t b : Nat) : Int) := by omega
    have last : ∀ d : Int, d = fd t b → ∀ r r', S (cx P w K mg base N_law_low "_law_low" s_law_low f cdv A outer s H E) [some (.val false t), some (.val false b), some (.val true d), r, r'] [(defBody s_law_low).getD 4 (.Pass ⟨0, 0, 0, 0⟩)] (RT true (fr t b)) := by
      rintro d rfl r r'
      exact s_ret (e_tup2 (e_fdiv (e_var 0) (e_var 2) (hz.div hn)) (e_fdiv (e_var 1) (e_var 2) (hz.div hn))) rfl
    refine s_if1 (t_cmp cv_lt (e_var 1) e_int) (fun hc => ?_) (fun hc => ?_)
    · refine s_asg 2 sc_law_low.nd (e_neg (e_var 2)) (s_nil ?_)
      exact last _ (by unfold fd; rw [if_pos (by simpa using hc), hx]) _ _
    · exact last _ (by unfold fd; rw [if_neg (by simpa using hc), hx]) _ _

theorem b_law_plus (c_law_low : Cal P w K mg base 1 "_law_low" ["_law_top", "_law_bottom"] (sp2 K PFr true fr)) (u v : Fr) (h : LAdd u v) :
    Body P w K mg base N_law_plus "_law_plus" s_law_plus f 1 [.val false u, .val false v] (RT true (fadd u v)) := by
  intro cdv A outer s H E hr
  obtain ⟨⟨h1, h2⟩, z1, z2, z3, z4⟩ := h
  exact s_ret (e_call2 c_law_low (hr.mono (by decide)) rfl (e_add (e_mul (e_fst (e_var 0)) (e_snd (e_var 1)) (z1.ok z4)) (e_mul (e_fst (e_var 1)) (e_snd (e_var 0)) (z3.ok z2))) (e_mul (e_snd (e_var 0)) (e_snd (e_var 1)) (z2.ok z4)) ⟨Int.mul_ne_zero h1 h2, (z2.mul z4).le (by decide)⟩) rfl

def LMu (u v : Fr) : Prop := (u.2 ≠ 0 ∧ v.2 ≠ 0) ∧ Sm 20000 u.1 ∧ Sm 9000 u.2 ∧ Sm 20000 v.1 ∧ Sm 9000 v.2 ∧ Sm 9000 (u.2 * v.2)
theorem lmu_of (u v : Fr) (h : LAdd u v) : LMu u v := by
  obtain ⟨h0, z1, z2, z3, z4⟩ := h
  exact ⟨h0, z1.le (by decide), z2.le (by decide), z3.le (by decide), z4.le (by decide), (z2.mul z4).le (by decide)⟩
theorem b_law_times (c_law_low : Cal P w K mg base 1 "_law_low" ["_law_top", "_law_bottom"] (sp2 K PFr true fr)) (u v : Fr) (h : LMu u v) :
    Body P w K mg base N_law_times "_law_times" s_law_times f 1 [.val false u, .val false v] (RT true (fmul u v)) := by
  intro cdv A outer s H E hr
  obtain ⟨⟨h1, h2⟩, z1, z2, z3, z4, z5⟩ := h
  exact s_ret (e_call2 c_law_low (hr.mono (by decide)) rfl (e_mul (e_fst (e_var 0)) (e_fst (e_var 1)) (z1.ok z3)) (e_mul (e_snd (e_var 0)) (e_snd (e_var 1)) (z2.ok z4)) ⟨Int.mul_ne_zero h1 h2, z5⟩) rfl

def drawn (c : Int) : (Int × Int) × Int :=
  if c.fmod 5 = 0 then ((0, 1), c.fdiv 5) else
  if c.fmod 5 = 4 then (fr ((c.fdiv 5).fmod (2 * 10 ^ 9) - 10 ^ 9) (1 + ((c.fdiv 5).fdiv (2 * 10 ^ 9)).fmod (10 ^ 6)), (c.fdiv 5).fdiv (2 * 10 ^ 15)) else
  (fr ((c.fdiv 5).fmod 19 - 9) (1 + ((c.fdiv 5).fdiv 19).fmod 6), (c.fdiv 5).fdiv 114)
theorem b_law_drawn (c_law_low : Cal P w K mg base 1 "_law_low" ["_law_top", "_law_bottom"] (sp2 K PFr true fr)) (c : Int) :
    Body P w K mg base N_law_drawn "_law_drawn" s_law_drawn f 1 [.val false c] (RT true (drawn c)) := by
  intro cdv A outer s H E hr
  refine s_asg 1 sc_law_drawn.nd (e_mod (e_var 0) e_int (by decide)) ?_
  refine s_asg 0 sc_law_drawn.nd (e_fdiv (e_var 0) e_int cdK) ?_
  refine s_if1 (t_cmp cv_eqI (e_var 1) e_int) (fun hc => ?_) (fun hc => ?_)
  · refine s_ret (e_tup2 (e_tup2 e_int e_int) (e_var 0)) ?_
    show Bd.val _ _ = Bd.val _ _
    congr 1
    unfold drawn
    rw [if_pos (by simpa using hc)]
  have hc' : ¬ c.fmod 5 = 0 := by simpa using hc
  refine s_if1 (t_cmp cv_eqI (e_var 1) e_int) (fun hd => ?_) (fun hd => ?_)
  · have hd' : c.fmod 5 = 4 := by simpa using hd
    have z := fmod_pos (a := (c.fdiv 5).fdiv (2 * 10 ^ Int.toNat 9)) (b := 10 ^ Int.toNat 6) (by decide)
    have e6 : (10 : Int) ^ Int.toNat 6 = 1000000 := by decide
    rw [e6] at z
    refine s_asg 2 sc_law_drawn.nd (e_call2 c_law_low (hr.mono (by decide)) rfl (e_sub (e_mod (e_var 0) (e_mul e_int (e_pow e_int e_int cpK) (mulL (by decide) (by decide))) (by decide)) (e_pow e_int e_int cpK)) (e_add e_int (e_mod (e_fdiv (e_var 0) (e_mul e_int (e_pow e_int e_int cpK) (mulL (by decide) (by decide))) (cdK (by decide) (by decide))) (e_pow e_int e_int cpK) (by decide))) ⟨?_, ?_⟩) ?_
    · rw [e6]; omega
    · rw [e6]; exact (Sm.of64 (by omega) (by omega)).le (by decide)
    refine s_ret (e_tup2 (e_var 2) (e_fdiv (e_var 0) (e_mul e_int (e_pow e_int e_int cpK) (mulL (by decide) (by decide))) (cdK (by decide) (by decide)))) ?_
    show Bd.val _ _ = Bd.val _ _
    congr 1
    unfold drawn
    rw [if_neg hc', if_pos hd']
    rfl
  · have hd' : ¬ c.fmod 5 = 4 := by simpa using hd
    have z := fmod_pos (a := (c.fdiv 5).fdiv 19) (b := 6) (by decide)
    refine s_ret (e_tup2 (e_call2 c_law_low (hr.mono (by decide)) rfl (e_sub (e_mod (e_var 0) e_int (by decide)) e_int) (e_add e_int (e_mod (e_fdiv (e_var 0) e_int cdK) e_int (by decide))) ⟨by omega, (Sm.of64 (by omega) (by omega)).le (by decide)⟩) (e_fdiv (e_var 0) e_int cdK)) ?_
    show Bd.val _ _ = Bd.val _ _
    congr 1
    unfold drawn
    rw [if_neg hc', if_neg hd']
theorem Sm.fr1 {n : Nat} {t b : Int} (hb : b ≠ 0) (h : Sm n t) : Sm n (fr t b).1 := Sm.of_le (_root_.EP.fr_abs1 hb) h
theorem Sm.fr2 {n : Nat} {t b : Int} (hb : b ≠ 0) (h : Sm n b) : Sm n (fr t b).2 := Sm.of_le (_root_.EP.fr_abs2 hb) h
theorem drawn_ok (c : Int) : _root_.EP.Low (drawn c).1 ∧ Sm 64 (drawn c).1.1 ∧ Sm 64 (drawn c).1.2 := by
  unfold drawn
  split
  · show _root_.EP.Low (0, 1) ∧ Sm 64 0 ∧ Sm 64 1
    exact ⟨⟨by decide, by decide⟩, Sm.of64 (by decide) (by decide), Sm.of64 (by decide) (by decide)⟩
  · split
    · have z := fmod_pos (a := (c.fdiv 5).fdiv (2 * 10 ^ 9)) (b := 10 ^ 6) (by decide)
      have z2 := fmod_pos (a := c.fdiv 5) (b := 2 * 10 ^ 9) (by decide)
      have hb : 1 + ((c.fdiv 5).fdiv (2 * 10 ^ 9)).fmod (10 ^ 6) ≠ 0 := by omega
      exact ⟨_root_.EP.fr_lowP hb, Sm.fr1 hb (Sm.of64 (by omega) (by omega)), Sm.fr2 hb (Sm.of64 (by omega) (by omega))⟩
    · have z := fmod_pos (a := (c.fdiv 5).fdiv 19) (b := 6) (by decide)
      have z2 := fmod_pos (a := c.fdiv 5) (b := 19) (by decide)
      have hb : 1 + ((c.fdiv 5).fdiv 19).fmod 6 ≠ 0 := by omega
      exact ⟨_root_.EP.fr_lowP hb, Sm.fr1 hb (Sm.of64 (by omega) (by omega)), Sm.fr2 hb (Sm.of64 (by omega) (by omega))⟩

def narrowed (u : Fr) (w : Int) : Fr := if 0 < w then fr (u.1.fmod (2 * 10 ^ 6) - 10 ^ 6) (1 + u.2.fmod (10 ^ 3)) else fr (u.1.fmod 19 - 9) (1 + u.2.fmod 6)
theorem b_law_narrowed (c_law_low : Cal P w K mg base 1 "_law_low" ["_law_top", "_law_bottom"] (sp2 K PFr true fr)) (u : Fr) (v : Int) :
    Body P w K mg base N_law_narrowed "_law_narrowed" s_law_narrowed f 1 [.val false u, .val false v] (RT true (narrowed u v)) := by
  intro cdv A outer s H E hr
  refine s_if1 (t_cmp cv_gt (e_var 1) e_int) (fun hc => ?_) (fun hc => ?_)
  · have hc' : 0 < v := by simpa using hc
    have e3 : (10 : Int) ^ Int.toNat 3 = 1000 := by decide
    have z := fmod_pos (a := u.2) (b := 10 ^ Int.toNat 3) (by decide)
    rw [e3] at z
    refine s_ret (e_call2 c_law_low (hr.mono (by decide)) rfl (e_sub (e_mod (e_fst (e_var 0)) (e_mul e_int (e_pow e_int e_int cpK) (mulL (by decide) (by decide))) (by decide)) (e_pow e_int e_int cpK)) (e_add e_int (e_mod (e_snd (e_var 0)) (e_pow e_int e_int cpK) (by decide))) ⟨?_, ?_⟩) ?_
    · rw [e3]; omega
    · rw [e3]; exact (Sm.of64 (by omega) (by omega)).le (by decide)
    · show Bd.val _ _ = Bd.val _ _
      congr 1
      unfold narrowed
      rw [if_pos hc']
      rfl
  · have hc' : ¬ 0 < v := by simpa using hc
    have z := fmod_pos (a := u.2) (b := 6) (by decide)
    refine s_ret (e_call2 c_law_low (hr.mono (by decide)) rfl (e_sub (e_mod (e_fst (e_var 0)) e_int (by decide)) e_int) (e_add e_int (e_mod (e_snd (e_var 0)) e_int (by decide))) ⟨by omega, (Sm.of64 (by omega) (by omega)).le (by decide)⟩) ?_
    show Bd.val _ _ = Bd.val _ _
    congr 1
    unfold narrowed
    rw [if_neg hc']

structure S5 (n p : Nat) (T : Tb) : Prop where
  sq : Sq n T
  s1 : ∀ r ∈ T, ∀ u ∈ r, Sm p u.1
  s2 : ∀ r ∈ T, ∀ u ∈ r, Sm p u.2
structure PPr (A C : Tb) : Prop where
  ex : ∃ n p q, S5 n p A ∧ S5 n q C ∧ n ≤ 8 ∧ (n + 1) * (p + q + 2) ≤ 3900
theorem lsum5 {p q : Nat} {r : List Fr} {U : Tb} {j : Int} (hr : ∀ u ∈ r, Low u ∧ Sm p u.1 ∧ Sm p u.2) (hU : ∀ c ∈ U, ∀ u ∈ c, Low u ∧ Sm q u.1 ∧ Sm q u.2) (hl : r.length = U.length) (hj : ∀ c ∈ U, j.toNat < c.length) :
    ∀ k, k ≤ r.length → Low (lsum r U j k) ∧ Sm ((p + q + 1) * (k + 1)) (lsum r U j k).1 ∧ Sm (1 + (p + q) * k) (lsum r U j k).2
  | 0, _ => ⟨_root_.EP.low01, by show (0 : Int).natAbs < _; exact Nat.two_pow_pos _, by show (1 : Int).natAbs < 2 ^ _; exact Nat.one_lt_two_pow (by omega)⟩
  | k + 1, hk => by
    obtain ⟨a, a1, a2⟩ := lsum5 hr hU hl hj k (by omega)
    have hm : r.getD k (0, 1) ∈ r := _root_.EP.getD_mem (by omega)
    have hc : U.getD k [] ∈ U := _root_.EP.getD_mem (by omega)
    obtain ⟨b, b1, b2⟩ := hr _ hm
    obtain ⟨d, d1, d2⟩ := hU _ hc _ (_root_.EP.getD_mem (d := (0, 1)) (hj _ hc))
    show Low (fadd _ (fmul _ _)) ∧ Sm _ (fadd _ (fmul _ _)).1 ∧ Sm _ (fadd _ (fmul _ _)).2
    generalize lsum r U j k = acc at *
    generalize r.getD k (0, 1) = u at *
    generalize (U.getD k []).getD j.toNat (0, 1) = v at *
    have m := _root_.EP.low_mul b d
    have m1 : Sm (p + q) (fmul u v).1 := Sm.fr1 (Int.mul_ne_zero b.ne d.ne) (b1.mul d1)
    have m2 : Sm (p + q) (fmul u v).2 := Sm.fr2 (Int.mul_ne_zero b.ne d.ne) (b2.mul d2)
    refine ⟨_root_.EP.low_add a m, ?_, ?_⟩
    · refine (Sm.fr1 (Int.mul_ne_zero a.ne m.ne) ((a1.mul m2).add (m1.mul a2))).le ?_
      have e1 : (p + q + 1) * (k + 1 + 1) = (p + q + 1) * (k + 1) + (p + q + 1) := by rw [Nat.mul_add (p + q + 1) (k + 1) 1, Nat.mul_one]
      have e2 : (p + q + 1) * (k + 1) = (p + q) * k + (p + q) + k + 1 := by grind
      rw [e1]
      omega
    · refine (Sm.fr2 (Int.mul_ne_zero a.ne m.ne) (a2.mul m2)).le ?_
      have e1 : (p + q) * (k + 1) = (p + q) * k + (p + q) := by rw [Nat.mul_add, Nat.mul_one]
      omega
set_option maxHeartbeats 1000000 in
include B in
theorem b_law_product (c_law_plus : Cal P w K mg base 2 "_law_plus" ["_law_u", "_law_v"] (sp2 K LAdd true fadd)) (c_law_times : Cal P w K mg base 2 "_law_times" ["_law_u", "_law_v"] (sp2 K LAdd true fmul)) (T U : Tb) (hh : PPr T U) :
    Body P w K mg base N_law_product "_law_product" s_law_product f 2 [.val false T, .val false U] (RT true (lprd T U)) := by
  intro cdv A outer s H E hr
  obtain ⟨n, p, q, ha, hb, n8, hpq⟩ := hh.ex
  have lT := ha.sq.len
  have lU := hb.sq.len
  have bd : ∀ k, k < n → (p + q + 1) * (k + 1) ≤ 3900 ∧ 1 + (p + q) * k ≤ 3900 ∧ p + q ≤ 3900 := fun k hk => by
    have h1 : (p + q + 1) * (k + 1) ≤ (p + q + 2) * (n + 1) := Nat.mul_le_mul (by omega) (by omega)
    have h2 : (p + q) * k ≤ (p + q + 1) * k := Nat.mul_le_mul_right k (by omega)
    have h3 : (p + q + 1) * (k + 1) = (p + q + 1) * k + (p + q + 1) := by rw [Nat.mul_add, Nat.mul_one]
    rw [Nat.mul_comm (n + 1)] at hpq
    omega
  refine s_own 2 (List Fr) sc_law_product.nd ?_
  refine s_forL (fun i Γ => ∃ r3 r4 r5 r6 r7, Γ = [some (.val false T), some (.val false U), some (.own true ((T.take i).map fun r => (rng U.length).map fun j => lsum r U j r.length)), r3, r4, r5, r6, r7]) (g_name 3 sc_law_product.nd) (e_var 0) ⟨none, none, none, none, none, rfl⟩ ?_ ?_
  · rintro i r Γ' hr' ⟨r3, r4, r5, r6, r7, rfl⟩
    have hm := mem_at hr'
    have lr := ha.sq.row r hm
    have hi : i < T.length := (List.getElem?_eq_some_iff.mp hr').1
    refine s_own 4 Fr sc_law_product.nd ?_
    refine s_forRange (fun j Γ => ∃ r5 r6 r7, Γ = [some (.val false T), some (.val false U), some (.own true ((T.take i).map fun r => (rng U.length).map fun j => lsum r U j r.length)), some (.val false r), some (.own true ((rng j).map fun j => lsum r U j r.length)), r5, r6, r7]) rfl B.range (g_name 5 sc_law_product.nd) (e_lenL rfl B.len (e_var 1)) (by omega) (by omega) ⟨_, _, _, rfl⟩ ?_ ?_
    · rintro j Γ' hj ⟨r5, r6, r7, rfl⟩
      have hj' : j < U.length := by omega
      have ok := lsum5 (p := p) (q := q) (r := r) (U := U) (j := (j : Int)) (fun u hu => ⟨ha.sq.low r hm u hu, ha.s1 r hm u hu, ha.s2 r hm u hu⟩) (fun c hc u hu => ⟨hb.sq.low c hc u hu, hb.s1 c hc u hu, hb.s2 c hc u hu⟩) (by omega) (fun c hc => by rw [hb.sq.row c hc, Int.toNat_natCast]; omega)
      refine s_asg 6 sc_law_product.nd (e_tup2 e_int e_int) ?_
      refine s_forRange (fun k Γ => ∃ r7, Γ = [some (.val false T), some (.val false U), some (.own true ((T.take i).map fun r => (rng U.length).map fun j => lsum r U j r.length)), some (.val false r), some (.own true ((rng j).map fun j => lsum r U j r.length)), some (.val true (j : Int)), some (.val true (lsum r U (j : Int) k)), r7]) rfl B.range (g_name 7 sc_law_product.nd) (e_lenL rfl B.len (e_var 3)) (by omega) (by omega) ⟨_, rfl⟩ ?_ ?_
      · rintro k Γ' hk ⟨r7, rfl⟩
        have hk' : k < r.length := by omega
        obtain ⟨a, a1, a2⟩ := ok k (by omega)
        obtain ⟨bd1, bd2, bd3⟩ := bd k (by omega)
        have hm2 : r.getD k (0, 1) ∈ r := _root_.EP.getD_mem (by omega)
        have hc : U.getD k [] ∈ U := _root_.EP.getD_mem (by omega)
        have lc := hb.sq.row _ hc
        have hd : (U.getD k []).getD j (0, 1) ∈ U.getD k [] := _root_.EP.getD_mem (by omega)
        have b := ha.sq.low r hm _ hm2
        have b1 := ha.s1 r hm _ hm2
        have b2 := ha.s2 r hm _ hm2
        have d := hb.sq.low _ hc _ hd
        have d1 := hb.s1 _ hc _ hd
        have d2 := hb.s2 _ hc _ hd
        have m := _root_.EP.low_mul b d
        have m1 := Sm.fr1 (Int.mul_ne_zero b.ne d.ne) (b1.mul d1)
        have m2 := Sm.fr2 (t := (r.getD k (0, 1)).1 * ((U.getD k []).getD j (0, 1)).1) (Int.mul_ne_zero b.ne d.ne) (b2.mul d2)
        refine s_asg 6 sc_law_product.nd (e_call2 c_law_plus (hr.mono (by decide)) rfl (e_var 6) (e_call2 c_law_times (hr.mono (by decide)) rfl (e_ixL (e_var 3) (e_var 7) (at_nat (d := (0, 1)) hk')) (e_ixL (e_ixL (e_var 1) (e_var 7) (at_nat (d := []) (by omega))) (e_var 5) (at_nat (d := (0, 1)) (by omega))) ⟨⟨b.ne, d.ne⟩, b1.le (by omega), b2.le (by omega), d1.le (by omega), d2.le (by omega)⟩) ⟨⟨a.ne, m.ne⟩, a1.le (by omega), a2.le (by omega), m1.le (by omega), m2.le (by omega)⟩) ?_
        exact s_nil ⟨_, rfl⟩
      · rintro Γ' ⟨r7, rfl⟩
        refine s_append 4 rfl (e_var 6) (by rw [List.length_map, _root_.EP.rng_len]; omega) (s_nil ?_)
        dsimp only
        rw [rng_succ, List.map_append]
        exact ⟨_, _, _, rfl⟩
    · rintro Γ' ⟨r5, r6, r7, rfl⟩
      refine s_freeze 4 rfl ?_
      refine s_append 2 rfl (e_var 4) (by rw [List.length_map, List.length_take]; omega) (s_nil ?_)
      dsimp only
      rw [take_snoc hr', List.map_append]
      exact ⟨_, _, _, _, _, rfl⟩
  · rintro Γ' ⟨r3, r4, r5, r6, r7, rfl⟩
    refine s_freeze 2 rfl ?_
    rw [List.take_length]
    exact s_ret (e_var 2) rfl

def plTO (n : Int) : TbO Fr := TbO.mk (plTz n)
include B in
theorem b_law_plain (n : Int) (h0 : 0 ≤ n) (h1 : n ≤ 8) : Body P w K mg base N_law_plain "_law_plain" s_law_plain f k [.val false n] (RT true (plTO n)) := by
  intro cdv A outer s H E hr
  refine s_ret (e_compTT (β := Fr) (f := fun i => (seqI 0 1 n.toNat).map fun j => ((if decide (i = j) then (1 : Int) else 0), (1 : Int))) ["_law_i"] [0] (cscope (defScope s_law_plain) N_law_plain rfl rfl (by decide +kernel)) (ei_range rfl B.range (e_var 0) (by omega) (by omega)) (gp_name 0) (fun C s H fp => pg_cn 0 ["_law_i", "_law_n"]) lt_of_eq
    (fun k i hi C s H fp => en_compT (β := Fr) (f := fun j => ((if decide (i = j) then (1 : Int) else 0), (1 : Int))) (b' := true) ["_law_j"] [0] (cscope2 ["_law_i", "_law_n"] rfl (by decide +kernel)) (ei_range rfl B.range (e_var 1) (by omega) (by omega)) (gp_name 0) (fun C s H fp => pg_cn 0 ["_law_j", "_law_i"]) lt_of_eq
      (fun k j hj C s H fp => by refine e_tup2 (b1 := true) (b2 := true) ?_ e_int; exact e_intB rfl B.int (e_cmp cv_eqI (e_var 1) (e_var 0))) (by rw [seqI_len]; omega)) (by rw [seqI_len]; omega)) ?_
  rw [seq_rng]
  show Bd.val _ _ = Bd.val _ _
  congr 1
  unfold plTO
  congr 1
  unfold plTz plT plL
  exact List.map_congr_left fun i _ => List.map_congr_left fun j _ => by by_cases z : i = j <;> simp [z, eq_comm]

def tEnt (n c w : Int) : Fr × Int × Int :=
  if 4 < n then (fr ((drawn c).1.1.fmod 7 - 3) (1 + (drawn c).1.2.fmod 2), (drawn c).2, w)
  else if 9 < (if (drawn c).1.1 < 0 then -(drawn c).1.1 else (drawn c).1.1) ∨ 6 < (drawn c).1.2 then (narrowed (drawn c).1 w, (drawn c).2, if w - 1 > 0 then w - 1 else 0)
  else ((drawn c).1, (drawn c).2, w)
def rowS (n c w : Int) : Nat → List Fr × Int × Int
  | 0 => ([], c, w)
  | j + 1 => ((rowS n c w j).1 ++ [(tEnt n (rowS n c w j).2.1 (rowS n c w j).2.2).1], (tEnt n (rowS n c w j).2.1 (rowS n c w j).2.2).2)
def tabS (n c w : Int) : Nat → Tb × Int × Int
  | 0 => ([], c, w)
  | j + 1 => ((tabS n c w j).1 ++ [(rowS n (tabS n c w j).2.1 (tabS n c w j).2.2 n.toNat).1], (rowS n (tabS n c w j).2.1 (tabS n c w j).2.2 n.toNat).2)
def lawTab (n c w : Int) : Tb := (tabS n c w n.toNat).1
def EOk (u : Fr) : Prop := Low u ∧ Sm 20 u.1 ∧ Sm 10 u.2
theorem sm_of {n : Nat} {i : Int} {a : Nat} (h1 : -(a : Int) ≤ i) (h2 : i ≤ (a : Int)) (ha : a < 2 ^ n) : Sm n i := by
  show i.natAbs < 2 ^ n
  omega
theorem fr_ok {t b : Int} (h1 : -1000000 ≤ t) (h2 : t ≤ 1000000) (h3 : 1 ≤ b) (h4 : b ≤ 1000) : EOk (fr t b) :=
  ⟨_root_.EP.fr_lowP (by omega), Sm.fr1 (by omega) (sm_of (a := 1000000) h1 h2 (by decide)), Sm.fr2 (by omega) (sm_of (a := 1000) (by omega) h4 (by decide))⟩
theorem tEnt_ok (n c w : Int) : EOk (tEnt n c w).1 := by
  unfold tEnt
  split
  · have z := fmod_pos (a := (drawn c).1.1) (b := 7) (by decide)
    have z2 := fmod_pos (a := (drawn c).1.2) (b := 2) (by decide)
    exact fr_ok (by omega) (by omega) (by omega) (by omega)
  · by_cases h : 9 < (if (drawn c).1.1 < 0 then -(drawn c).1.1 else (drawn c).1.1) ∨ 6 < (drawn c).1.2
    · rw [if_pos h]
      show EOk (narrowed _ _)
      unfold narrowed
      split
      · have z := fmod_pos (a := (drawn c).1.1) (b := 2 * 10 ^ 6) (by decide)
        have z2 := fmod_pos (a := (drawn c).1.2) (b := 10 ^ 3) (by decide)
        exact fr_ok (by omega) (by omega) (by omega) (by omega)
      · have z := fmod_pos (a := (drawn c).1.1) (b := 19) (by decide)
        have z2 := fmod_pos (a := (drawn c).1.2) (b := 6) (by decide)
        exact fr_ok (by omega) (by omega) (by omega) (by omega)
    · rw [if_neg h]
      dsimp only
      have d := drawn_ok c
      have d1 := d.1.1
      refine ⟨d.1, sm_of (a := 9) ?_ ?_ (by decide), sm_of (a := 6) (by omega) (by omega) (by decide)⟩
      · show -((9 : Nat) : Int) ≤ (drawn c).1.1
        split at h <;> omega
      · show (drawn c).1.1 ≤ ((9 : Nat) : Int)
        split at h <;> omega

open _root_.EP (atv)

structure SRow (us : List Fr) : Prop where
  len : us.length ≤ 8
  low : ∀ u ∈ us, Low u
  s1 : ∀ u ∈ us, Sm 20 u.1
  s2 : ∀ u ∈ us, Sm 10 u.2
theorem SRow.p {us : List Fr} (h : SRow us) : PRow us := ⟨h.len, h.low, fun u a => (h.s1 u a).le (by decide), fun u a => (h.s2 u a).le (by decide)⟩
theorem STb.row {n : Nat} {T : Tb} (h : STb n T) {r : List Fr} (hr : r ∈ T) : SRow r := ⟨by rw [h.sq.row r hr]; exact h.n8, h.sq.low r hr, h.s1 r hr, h.s2 r hr⟩
theorem lcm_smg {m : Nat} {us : List Fr} (hlow : ∀ u ∈ us, Low u) (hs : ∀ u ∈ us, Sm m u.2) (i : Nat) (hi : i ≤ us.length) : 1 ≤ lcmB (us.take i) ∧ Sm (1 + m * i) (lcmB (us.take i)) := by
  induction i with
  | zero => exact ⟨by show (1 : Int) ≤ 1; decide, by show (1 : Int).natAbs < 2 ^ (1 + m * 0); rw [Nat.mul_zero]; decide⟩
  | succ i ih =>
    obtain ⟨h1, h2⟩ := ih (by omega)
    have hg : us[i]? = some us[i] := List.getElem?_eq_getElem (by omega)
    have hm := mem_at hg
    have e : lcmB (us.take (i + 1)) = (lcmB (us.take i) * us[i].2).fdiv (Int.gcd (lcmB (us.take i)) us[i].2 : Nat) := take_fold hg
    have z := _root_.EP.lcm_step h1 (hlow _ hm).1
    rw [← e] at z
    refine ⟨z.1, ?_⟩
    have s := h2.mul (hs _ hm)
    have l := z.2.2.2
    have : Sm (1 + m * i + m) (lcmB (us.take (i + 1))) := Sm.of_le (by omega) s
    exact this.le (by rw [Nat.mul_add]; omega)
theorem SRow.lcm {us : List Fr} (h : SRow us) : 1 ≤ lcmB us ∧ Sm 81 (lcmB us) := by
  have z := lcm_smg h.low h.s2 us.length (Nat.le_refl _)
  rw [List.take_length] at z
  exact ⟨z.1, z.2.le (by have := h.len; omega)⟩
theorem STb.tov {n : Nat} {T : Tb} (h : STb n T) : STb n (tov T) := by
  have key : ∀ r ∈ _root_.EP.tov T, ∀ u ∈ r, ∃ r' ∈ T, u ∈ r' := fun r hr u hu => by
    obtain ⟨j, hj, rfl⟩ := List.mem_map.mp hr
    obtain ⟨r', hr', rfl⟩ := List.mem_map.mp hu
    have := _root_.EP.mem_rng hj
    rw [h.sq.len] at this
    exact ⟨r', hr', _root_.EP.getD_mem (by rw [h.sq.row r' hr']; omega)⟩
  exact ⟨h.sq.tov, h.n8, fun r hr u hu => by obtain ⟨r', a, b⟩ := key r hr u hu; exact h.s1 r' a u b, fun r hr u hu => by obtain ⟨r', a, b⟩ := key r hr u hu; exact h.s2 r' a u b⟩

open _root_.EP (setIJ zeT AllT Sym)
def fIn (n : Int) (i : Nat) (st : Tb × Int × Int) : Nat → Tb × Int × Int
  | 0 => st
  | m + 1 => (setIJ (setIJ (fIn n i st m).1 i (i + m) (tEnt n (fIn n i st m).2.1 (fIn n i st m).2.2).1) (i + m) i (tEnt n (fIn n i st m).2.1 (fIn n i st m).2.2).1, (tEnt n (fIn n i st m).2.1 (fIn n i st m).2.2).2)
def fOu (n c w : Int) : Nat → Tb × Int × Int
  | 0 => (zeT n.toNat, c, w)
  | i + 1 => fIn n i (fOu n c w i) (n.toNat - i)
def lawForm (n c w : Int) : Tb := (fOu n c w n.toNat).1
theorem eok_low (u : Fr) (h : EOk u) : Low u := h.1
theorem eok01 : EOk (0, 1) := ⟨_root_.EP.low01, by show (0 : Int).natAbs < 2 ^ 20; decide, by show (1 : Int).natAbs < 2 ^ 10; decide⟩
theorem fIn_ok {n : Int} {i : Nat} {st : Tb × Int × Int} (h : AllT n.toNat EOk st.1) (s : Sym n.toNat st.1) : ∀ m, i + m ≤ n.toNat → AllT n.toNat EOk (fIn n i st m).1 ∧ Sym n.toNat (fIn n i st m).1
  | 0, _ => ⟨h, s⟩
  | m + 1, hm => by
    obtain ⟨h1, s1⟩ := fIn_ok (i := i) h s m (by omega)
    have e := tEnt_ok n (fIn n i st m).2.1 (fIn n i st m).2.2
    exact ⟨(h1.set (by omega) e).set (by omega) e, Sym.set h1 eok_low s1 (by omega) (by omega) e⟩
theorem fOu_ok (n c w : Int) : ∀ i, i ≤ n.toNat → AllT n.toNat EOk (fOu n c w i).1 ∧ Sym n.toNat (fOu n c w i).1
  | 0, _ => ⟨_root_.EP.zeT_all eok01, _root_.EP.zeT_sym _⟩
  | i + 1, hi => by
    obtain ⟨h1, s1⟩ := fOu_ok n c w i (by omega)
    exact fIn_ok h1 s1 _ (by omega)
theorem lawForm_ok {n : Int} (c w : Int) (h : n ≤ 8) : STb n.toNat (lawForm n c w) ∧ Sym n.toNat (lawForm n c w) := by
  obtain ⟨h1, s1⟩ := fOu_ok n c w n.toNat (Nat.le_refl _)
  exact ⟨⟨h1.sq eok_low, by omega, fun r hr u hu => (h1.all r hr u hu).2.1, fun r hr u hu => (h1.all r hr u hu).2.2⟩, s1⟩
theorem get_some {α : Type} {l : List α} {i : Nat} {d : α} (h : i < l.length) : l[i]? = some (l.getD i d) := by
  rw [List.getD_eq_getElem?_getD, List.getElem?_eq_getElem h]; rfl
set_option maxHeartbeats 1000000 in
include B in
theorem b_law_form (c_law_low : Cal P w K mg base 1 "_law_low" ["_law_top", "_law_bottom"] (sp2 K PFr true fr)) (c_law_drawn : Cal P w K mg base 2 "_law_drawn" ["_law_rest"] (sp1 K (fun _ => True) true drawn)) (c_law_narrowed : Cal P w K mg base 2 "_law_narrowed" ["_law_number", "_law_wide"] (sp2 K (fun (_ : Fr) (_ : Int) => True) true narrowed))
    (n c v : Int) (h0 : 0 ≤ n) (h1 : n ≤ 8) : Body P w K mg base N_law_form "_law_form" s_law_form f 2 [.val false n, .val false c, .val false v] (RT true (lawForm n c v)) := by
  intro cdv A outer s H E hr
  refine s_compT (β := Fr) (f := fun _ : Int => (_root_.EP.rng n.toNat).map fun _ => ((0 : Int), (1 : Int))) 5 sc_law_form.nd ["_law_i"] [0] (cscope (defScope s_law_form) N_law_form rfl rfl (by decide +kernel)) (ei_range rfl B.range (e_var 0) (by omega) (by omega)) (gp_name 0) (fun C s H fp => pg_cn 0 ["_law_i", "_law_n"]) lt_of_eq (fun i a ha C s H fp => ?_) (by rw [seqI_len]; omega) ?_
  · show EN _ _ _ ((_root_.EP.rng n.toNat).map fun _ => ((0 : Int), (1 : Int)))
    rw [← seq_rng]
    exact en_compT (β := Fr) (f := fun _ : Int => ((0 : Int), (1 : Int))) (b' := true) ["_law_j"] [] (cscope2 ["_law_i", "_law_n"] rfl (by decide +kernel)) (ei_range rfl B.range (e_var 1) (by omega) (by omega)) (gp_name 0) (fun C s H fp => pg_cn 0 ["_law_j"]) lt_of_eq (fun i a ha C s H fp => e_tup2 e_int e_int) (by rw [seqI_len]; omega)
  rw [seq_rng]
  have hz : (_root_.EP.rng n.toNat).map (fun _ : Int => (_root_.EP.rng n.toNat).map fun _ => ((0 : Int), (1 : Int))) = (fOu n c v 0).1 := rfl
  rw [hz]
  refine s_forRange (n := n) (fun i Γ => i ≤ n.toNat ∧ ∃ b1 b2 r3 r4 r6, Γ = [some (.val false n), some (.val b1 (fOu n c v i).2.1), some (.val b2 (fOu n c v i).2.2), r3, r4, some (.dpo (TbO.mk (fOu n c v i).1)), r6]) rfl B.range (g_name 3 sc_law_form.nd) (e_var 0) (by omega) (by omega) ⟨Nat.zero_le _, _, _, none, none, none, rfl⟩ ?_ ?_
  · rintro i Γ' hi ⟨hin, b1, b2, r3, r4, r6, rfl⟩
    obtain ⟨o1, o2⟩ := fOu_ok n c v i hin
    have hs : fOu n c v (i + 1) = fIn n i (fOu n c v i) (n.toNat - i) := rfl
    rw [hs]
    generalize fOu n c v i = st at *
    refine s_forRange2 (lo := (i : Int)) (n := n) (fun m Γ => i + m ≤ n.toNat ∧ ∃ b1 b2 r4 r6, Γ = [some (.val false n), some (.val b1 (fIn n i st m).2.1), some (.val b2 (fIn n i st m).2.2), some (.val true (i : Int)), r4, some (.dpo (TbO.mk (fIn n i st m).1)), r6]) rfl B.range (g_name 4 sc_law_form.nd) (e_var 3) (e_var 0) ⟨by omega, by omega, by omega, by omega⟩ ⟨by omega, _, _, _, _, rfl⟩ ?_ ?_
    · rintro m Γ' hm ⟨him, b1, b2, r4, r6, rfl⟩
      have him' : i + m < n.toNat := by omega
      obtain ⟨q1, q2⟩ := fIn_ok o1 o2 m him
      have hs2 : fIn n i st (m + 1) = (setIJ (setIJ (fIn n i st m).1 i (i + m) (tEnt n (fIn n i st m).2.1 (fIn n i st m).2.2).1) (i + m) i (tEnt n (fIn n i st m).2.1 (fIn n i st m).2.2).1, (tEnt n (fIn n i st m).2.1 (fIn n i st m).2.2).2) := rfl
      rw [hs2]
      have hte := tEnt_ok n (fIn n i st m).2.1 (fIn n i st m).2.2
      generalize fIn n i st m = st2 at *
      obtain ⟨T, c2, v2⟩ := st2
      dsimp only at *
      refine s_asg2 6 1 sc_law_form.nd (e_call1 c_law_drawn (hr.mono (by decide)) rfl (e_var 1) True.intro) ?_
      refine s_ifJ (fun Γ => ∃ b1 b2 b3, Γ = [some (.val false n), some (.val b1 (tEnt n c2 v2).2.1), some (.val b2 (tEnt n c2 v2).2.2), some (.val true (i : Int)), some (.val true ((i : Int) + (m : Int))), some (.dpo (TbO.mk T)), some (.val b3 (tEnt n c2 v2).1)]) (t_cmp cv_gt (e_var 0) e_int) (fun hc => ?_) (fun hc => ?_) ?_
      · have hc' : 4 < n := by simpa using hc
        have z2 := fmod_pos (a := (drawn c2).1.2) (b := 2) (by decide)
        refine s_asg 6 sc_law_form.nd (e_call2 c_law_low (hr.mono (by decide)) rfl (e_sub (e_mod (e_fst (e_var 6)) e_int (by decide)) e_int) (e_add e_int (e_mod (e_snd (e_var 6)) e_int (by decide))) ⟨by omega, (Sm.of64 (by omega) (by omega)).le (by decide)⟩) (s_nil ?_)
        have he : tEnt n c2 v2 = (fr ((drawn c2).1.1.fmod 7 - 3) (1 + (drawn c2).1.2.fmod 2), (drawn c2).2, v2) := by unfold tEnt; rw [if_pos hc']
        rw [he]
        exact ⟨_, _, _, rfl⟩
      · have hc' : ¬ 4 < n := by simpa using hc
        refine s_if1 (TW.t (tw_or (t_cmp cv_gt (e_abs rfl B.abs (e_fst (e_var 6))) e_int) fun _ => tw_or1 (t_cmp cv_gt (e_snd (e_var 6)) e_int))) (fun hd => ?_) (fun hd => ?_)
        · have hd' : 9 < (if (drawn c2).1.1 < 0 then -(drawn c2).1.1 else (drawn c2).1.1) ∨ 6 < (drawn c2).1.2 := by simpa only [Bool.or_eq_true, decide_eq_true_eq] using hd
          refine s_asg 6 sc_law_form.nd (e_call2 c_law_narrowed (hr.mono (by decide)) rfl (e_var 6) (e_var 2) True.intro) ?_
          refine s_asg 2 sc_law_form.nd (e_max rfl rfl B.max e_int (e_sub (e_var 2) e_int)) (s_nil (s_nil ?_))
          have he : tEnt n c2 v2 = (narrowed (drawn c2).1 v2, (drawn c2).2, if v2 - 1 > 0 then v2 - 1 else 0) := by unfold tEnt; rw [if_neg hc', if_pos hd']
          rw [he]
          exact ⟨_, _, _, rfl⟩
        · have hd' : ¬ (9 < (if (drawn c2).1.1 < 0 then -(drawn c2).1.1 else (drawn c2).1.1) ∨ 6 < (drawn c2).1.2) := by simpa only [Bool.or_eq_false_iff, decide_eq_false_iff_not, not_or] using hd
          have he : tEnt n c2 v2 = ((drawn c2).1, (drawn c2).2, v2) := by unfold tEnt; rw [if_neg hc', if_neg hd']
          refine s_nil ?_
          rw [he]
          exact ⟨_, _, _, rfl⟩
      rintro Γ' ⟨b1, b2, b3, rfl⟩
      generalize tEnt n c2 v2 = te at *
      have hl := q1.len
      have hri := q1.row (T.getD i []) (_root_.EP.getD_mem (by omega))
      have t1 : ((i : Int)).toNat = i := Int.toNat_natCast i
      have t2 : ((i : Int) + (m : Int)).toNat = i + m := by omega
      refine s_setkl 5 (rows := T) (r0 := T.getD i []) (k := (i : Int)) (l := (i : Int) + (m : Int)) rfl (by omega) (by rw [t1]; exact get_some (by omega)) (by omega) (by rw [t2, hri]; omega) (e_var 6) (e_var 3) (e_var 4) ?_
      rw [t1, t2, show T.set i ((T.getD i []).set (i + m) te.1) = setIJ T i (i + m) te.1 from rfl]
      have q3 := q1.set (j := i + m) (i := i) (by omega) hte
      generalize setIJ T i (i + m) te.1 = T1 at *
      have hl1 := q3.len
      have hri1 := q3.row (T1.getD (i + m) []) (_root_.EP.getD_mem (by omega))
      refine s_setkl 5 (rows := T1) (r0 := T1.getD (i + m) []) (k := (i : Int) + (m : Int)) (l := (i : Int)) rfl (by omega) (by rw [t2]; exact get_some (by omega)) (by omega) (by rw [t1, hri1]; omega) (e_var 6) (e_var 4) (e_var 3) ?_
      rw [t1, t2, show T1.set (i + m) ((T1.getD (i + m) []).set i te.1) = setIJ T1 (i + m) i te.1 from rfl]
      exact s_nil ⟨by omega, _, _, _, _, rfl⟩
    · rintro Γ' ⟨him, b1, b2, r4, r6, rfl⟩
      refine s_nil ⟨by omega, b1, b2, some (.val true (i : Int)), r4, r6, ?_⟩
      rw [show (n - (i : Int)).toNat = n.toNat - i by omega]
  · rintro Γ' ⟨hin, b1, b2, r3, r4, r6, rfl⟩
    refine s_thawT 5 rfl ?_
    exact s_ret (e_var 5) rfl

def pD (T : Tb) : Nat → Tb
  | 0 => T
  | m + 1 => setIJ (pD T m) m m (0, 1)
def pR (T : Tb) (k : Nat) : Nat → Tb
  | 0 => T
  | m + 1 => setIJ (setIJ (pR T k m) k m (0, 1)) m k (0, 1)
def pB (T : Tb) (c : Int) : Nat → Tb
  | 0 => T
  | m + 1 => if decide (((c.fdiv 4).fdiv (1 * 2 ^ ((m : Int)).toNat)).fmod 2 = 0) = true then setIJ (pB T c m) m m (0, 1) else pB T c m
def po1 (T : Tb) (c : Int) : Tb := if decide (c.fmod 4 = 0) = true then pD T T.length else T
def po2 (T : Tb) (c : Int) : Tb := if decide (c.fmod 4 = 1) = true then pR T ((c.fdiv 4).fmod T.length).toNat T.length else T
def po3 (T : Tb) (c : Int) : Tb := if decide (c.fmod 4 = 2) = true then pB T c T.length else T
def poorF (T : Tb) (c : Int) : Tb := po3 (po2 (po1 T c) c) c
structure Ko (n : Nat) (Q : Fr → Prop) (T : Tb) : Prop where
  all : AllT n Q T
  sy : Sym n T
theorem Ko.dg {n : Nat} {Q : Fr → Prop} {T : Tb} (hq : ∀ u, Q u → Low u) (h0 : Q (0, 1)) (h : Ko n Q T) {m : Nat} (hm : m < n) : Ko n Q (setIJ T m m (0, 1)) := by
  refine ⟨h.all.set hm h0, fun a b ha hb => ?_⟩
  have sq := h.all.sq hq
  rw [_root_.EP.ent_set sq _ hm hm a b ha hb, _root_.EP.ent_set sq _ hm hm b a hb ha]
  by_cases z : a = m ∧ b = m
  · rw [if_pos z, if_pos ⟨z.2, z.1⟩]
  · rw [if_neg z, if_neg (fun y => z ⟨y.2, y.1⟩)]; exact h.sy a b ha hb
theorem pD_ko {n : Nat} {Q : Fr → Prop} {T : Tb} (hq : ∀ u, Q u → Low u) (h0 : Q (0, 1)) (h : Ko n Q T) : ∀ m, m ≤ n → Ko n Q (pD T m)
  | 0, _ => h
  | m + 1, hm => (pD_ko hq h0 h m (by omega)).dg hq h0 (by omega)
theorem pR_ko {n : Nat} {Q : Fr → Prop} {T : Tb} (hq : ∀ u, Q u → Low u) (h0 : Q (0, 1)) (h : Ko n Q T) {k : Nat} (hk : k < n) : ∀ m, m ≤ n → Ko n Q (pR T k m)
  | 0, _ => h
  | m + 1, hm => by
    have ih := pR_ko hq h0 h hk m (by omega)
    exact ⟨(ih.all.set hk h0).set (by omega) h0, Sym.set ih.all hq ih.sy hk (by omega) h0⟩
theorem pB_ko {n : Nat} {Q : Fr → Prop} {T : Tb} (hq : ∀ u, Q u → Low u) (h0 : Q (0, 1)) (h : Ko n Q T) (c : Int) : ∀ m, m ≤ n → Ko n Q (pB T c m)
  | 0, _ => h
  | m + 1, hm => by
    have ih := pB_ko hq h0 h c m (by omega)
    show Ko n Q (if _ then _ else _)
    split
    · exact ih.dg hq h0 (by omega)
    · exact ih
theorem poor_ko {n : Nat} {Q : Fr → Prop} {T : Tb} (hq : ∀ u, Q u → Low u) (h0 : Q (0, 1)) (h : Ko n Q T) (h1 : 1 ≤ n) (c : Int) : Ko n Q (poorF T c) := by
  have k1 : Ko n Q (po1 T c) := by
    unfold po1
    split
    · rw [h.all.len]; exact pD_ko hq h0 h n (Nat.le_refl n)
    · exact h
  have k2 : Ko n Q (po2 (po1 T c) c) := by
    unfold po2
    split
    · rw [k1.all.len]
      have := fmod_pos (a := c.fdiv 4) (b := (n : Int)) (by omega)
      exact pR_ko hq h0 k1 (by omega) n (Nat.le_refl n)
    · exact k1
  show Ko n Q (po3 (po2 (po1 T c) c) c)
  unfold po3
  split
  · rw [k2.all.len]; exact pB_ko hq h0 k2 c n (Nat.le_refl n)
  · exact k2
structure Sh (n : Nat) (T : Tb) : Prop where
  len : T.length = n
  row : ∀ r ∈ T, r.length = n
theorem Sh.set {n : Nat} {T : Tb} (h : Sh n T) {i j : Nat} {v : Fr} (hi : i < n) : Sh n (setIJ T i j v) := by
  have := (show AllT n (fun _ => True) T from ⟨h.len, h.row, fun _ _ _ _ => True.intro⟩).set (j := j) (v := v) hi True.intro
  exact ⟨this.len, this.row⟩
set_option maxHeartbeats 2000000 in
include B in
theorem b_law_poor (T : Tb) (c : Int) (n : Nat) (h : AllT n EOk T) (h1 : 1 ≤ n) (h8 : n ≤ 8) : Body P w K mg base N_law_poor "_law_poor" s_law_poor f kk [.val false T, .val false c] (RT true (poorF T c)) := by
  intro cdv A outer s H E hr
  have hl := h.len
  have sh0 : Sh n T := ⟨h.len, h.row⟩
  have set2 : ∀ {T1 : Tb} {a b : Nat}, Sh n T1 → a < n → b < n → T1[a]? = some (T1.getD a []) ∧ b < (T1.getD a []).length := fun {T1 a b} sh ha hb => by
    have := sh.row _ (_root_.EP.getD_mem (d := []) (show a < T1.length by rw [sh.len]; exact ha))
    exact ⟨get_some (by rw [sh.len]; exact ha), by omega⟩
  refine s_asg 2 sc_law_poor.nd (e_lenL rfl B.len (e_var 0)) ?_
  refine s_compT (β := Fr) (f := fun r : List Fr => r) 3 sc_law_poor.nd ["_law_row"] [] (cscope (defScope s_law_poor) N_law_poor rfl rfl (by decide +kernel)) (ei_list (e_var 0)) (gp_name 0) (fun C s H fp => pg_cn 0 ["_law_row"]) lt_of_eq (fun i r hr' C s H fp => en_listT rfl B.list (e_var 0)) (by omega) ?_
  rw [List.map_id']
  refine s_asg 4 sc_law_poor.nd (e_mod (e_var 1) e_int (by decide)) ?_
  -- way 0
  refine s_ifJ (fun Γ => ∃ r5, Sh n (po1 T c) ∧ Γ = [some (.val false T), some (.val false c), some (.val true (T.length : Int)), some (.dpo (TbO.mk (po1 T c))), some (.val true (c.fmod 4)), r5, none]) (t_cmp cv_eqI (e_var 4) e_int) (fun hc => ?_) (fun hc => ?_) ?_
  · have e : po1 T c = pD T T.length := by unfold po1; rw [if_pos hc]
    rw [e]
    refine s_forRange (n := (T.length : Int)) (fun m Γ => m ≤ n ∧ ∃ r5, Sh n (pD T m) ∧ Γ = [some (.val false T), some (.val false c), some (.val true (T.length : Int)), some (.dpo (TbO.mk (pD T m))), some (.val true (c.fmod 4)), r5, none]) rfl B.range (g_name 5 sc_law_poor.nd) (e_var 2) (by omega) (by omega) ⟨Nat.zero_le _, none, sh0, rfl⟩ ?_ ?_
    · rintro m Γ' hm ⟨hmn, r5, sh, rfl⟩
      have hm' : m < n := by omega
      have hs : pD T (m + 1) = setIJ (pD T m) m m (0, 1) := rfl
      rw [hs]
      generalize pD T m = T1 at *
      obtain ⟨g1, g2⟩ := set2 (a := m) (b := m) sh hm' hm'
      have t1 : ((m : Int)).toNat = m := Int.toNat_natCast m
      refine s_setkl 3 (rows := T1) (r0 := T1.getD m []) (c := ((0 : Int), (1 : Int))) (k := (m : Int)) (l := (m : Int)) rfl (by omega) (by rw [t1]; exact g1) (by omega) (by rw [t1]; exact g2) (e_tup2 (b1 := true) (b2 := true) e_int e_int) (e_var 5) (e_var 5) ?_
      rw [t1]
      exact s_nil ⟨by omega, _, sh.set hm', rfl⟩
    · rintro Γ' ⟨hmn, r5, sh, rfl⟩
      rw [Int.toNat_natCast] at sh ⊢
      exact s_nil ⟨_, sh, rfl⟩
  · have e : po1 T c = T := by unfold po1; rw [if_neg (by rw [hc]; decide)]
    rw [e]
    exact s_nil ⟨_, sh0, rfl⟩
  rintro Γ' ⟨r5, sh1, rfl⟩
  have l1 : (po1 T c).length = T.length := by rw [sh1.len, hl]
  generalize hT1 : po1 T c = T1 at *
  have efin : poorF T c = po3 (po2 T1 c) c := by unfold poorF; rw [hT1]
  rw [efin]
  -- way 1
  refine s_ifJ (fun Γ => ∃ r5 r6, Sh n (po2 T1 c) ∧ Γ = [some (.val false T), some (.val false c), some (.val true (T.length : Int)), some (.dpo (TbO.mk (po2 T1 c))), some (.val true (c.fmod 4)), r5, r6]) (t_cmp cv_eqI (e_var 4) e_int) (fun hc => ?_) (fun hc => ?_) ?_
  · have hk := fmod_pos (a := c.fdiv 4) (b := (T.length : Int)) (by omega)
    have e : po2 T1 c = pR T1 ((c.fdiv 4).fmod T.length).toNat T.length := by unfold po2; rw [if_pos hc, l1]
    rw [e]
    refine s_asg 5 sc_law_poor.nd (e_mod (e_fdiv (e_var 1) e_int cdK) (e_var 2) (by omega)) ?_
    generalize (c.fdiv 4).fmod T.length = q at *
    refine s_forRange (n := (T.length : Int)) (fun m Γ => m ≤ n ∧ ∃ r6, Sh n (pR T1 q.toNat m) ∧ Γ = [some (.val false T), some (.val false c), some (.val true (T.length : Int)), some (.dpo (TbO.mk (pR T1 q.toNat m))), some (.val true (c.fmod 4)), some (.val true q), r6]) rfl B.range (g_name 6 sc_law_poor.nd) (e_var 2) (by omega) (by omega) ⟨Nat.zero_le _, none, sh1, rfl⟩ ?_ ?_
    · rintro m Γ' hm ⟨hmn, r6, sh, rfl⟩
      have hm' : m < n := by omega
      have hq : q.toNat < n := by omega
      have hs : pR T1 q.toNat (m + 1) = setIJ (setIJ (pR T1 q.toNat m) q.toNat m (0, 1)) m q.toNat (0, 1) := rfl
      rw [hs]
      generalize pR T1 q.toNat m = T2 at *
      have t1 : ((m : Int)).toNat = m := Int.toNat_natCast m
      obtain ⟨g1, g2⟩ := set2 (a := q.toNat) (b := m) sh hq hm'
      refine s_setkl 3 (rows := T2) (r0 := T2.getD q.toNat []) (c := ((0 : Int), (1 : Int))) (k := q) (l := (m : Int)) rfl (by omega) g1 (by omega) (by rw [t1]; exact g2) (e_tup2 (b1 := true) (b2 := true) e_int e_int) (e_var 5) (e_var 6) ?_
      rw [t1, show T2.set q.toNat ((T2.getD q.toNat []).set m (0, 1)) = setIJ T2 q.toNat m (0, 1) from rfl]
      have sh2 := sh.set (j := m) (v := ((0 : Int), (1 : Int))) hq
      generalize setIJ T2 q.toNat m (0, 1) = T3 at *
      obtain ⟨g3, g4⟩ := set2 (a := m) (b := q.toNat) sh2 hm' hq
      refine s_setkl 3 (rows := T3) (r0 := T3.getD m []) (c := ((0 : Int), (1 : Int))) (k := (m : Int)) (l := q) rfl (by omega) (by rw [t1]; exact g3) (by omega) g4 (e_tup2 (b1 := true) (b2 := true) e_int e_int) (e_var 6) (e_var 5) ?_
      rw [t1]
      exact s_nil ⟨by omega, _, sh2.set hm', rfl⟩
    · rintro Γ' ⟨hmn, r6, sh, rfl⟩
      rw [Int.toNat_natCast] at sh ⊢
      exact s_nil ⟨_, _, sh, rfl⟩
  · have e : po2 T1 c = T1 := by unfold po2; rw [if_neg (by rw [hc]; decide)]
    rw [e]
    exact s_nil ⟨_, _, sh1, rfl⟩
  rintro Γ' ⟨r5', r6', sh2, rfl⟩
  have l2 : (po2 T1 c).length = T.length := by rw [sh2.len, hl]
  generalize po2 T1 c = T2 at *
  -- way 2
  refine s_ifJ (fun Γ => ∃ r5 r6, Γ = [some (.val false T), some (.val false c), some (.val true (T.length : Int)), some (.dpo (TbO.mk (po3 T2 c))), some (.val true (c.fmod 4)), r5, r6]) (t_cmp cv_eqI (e_var 4) e_int) (fun hc => ?_) (fun hc => ?_) ?_
  · have e : po3 T2 c = pB T2 c T.length := by unfold po3; rw [if_pos hc, l2]
    rw [e]
    refine s_forRange (n := (T.length : Int)) (fun m Γ => m ≤ n ∧ ∃ r5, Sh n (pB T2 c m) ∧ Γ = [some (.val false T), some (.val false c), some (.val true (T.length : Int)), some (.dpo (TbO.mk (pB T2 c m))), some (.val true (c.fmod 4)), r5, r6']) rfl B.range (g_name 5 sc_law_poor.nd) (e_var 2) (by omega) (by omega) ⟨Nat.zero_le _, _, sh2, rfl⟩ ?_ ?_
    · rintro m Γ' hm ⟨hmn, r5, sh, rfl⟩
      have hm' : m < n := by omega
      have pw : (1 : Int) * 2 ^ ((m : Int)).toNat ≠ 0 := by
        rw [Int.one_mul]
        exact Int.ne_of_gt (Int.pow_pos (by decide))
      have sp : Sm 300 ((1 : Int) * 2 ^ ((m : Int)).toNat) := by
        rw [Int.one_mul, Int.toNat_natCast]
        show _ < _
        rw [Int.natAbs_pow]
        exact Nat.pow_lt_pow_right (by decide) (by omega)
      have hs : pB T2 c (m + 1) = if decide (((c.fdiv 4).fdiv (1 * 2 ^ ((m : Int)).toNat)).fmod 2 = 0) = true then setIJ (pB T2 c m) m m (0, 1) else pB T2 c m := rfl
      rw [hs]
      generalize pB T2 c m = T3 at *
      refine s_if1 (t_cmp cv_eqI (e_mod (e_fdiv (e_fdiv (e_var 1) e_int cdK) (e_shl e_int (e_var 5) ⟨by omega, by omega, by decide⟩) (sp.div pw)) e_int (by decide)) e_int) (fun hd => ?_) (fun hd => ?_)
      · rw [if_pos hd]
        obtain ⟨g1, g2⟩ := set2 (a := m) (b := m) sh hm' hm'
        have t1 : ((m : Int)).toNat = m := Int.toNat_natCast m
        refine s_setkl 3 (rows := T3) (r0 := T3.getD m []) (c := ((0 : Int), (1 : Int))) (k := (m : Int)) (l := (m : Int)) rfl (by omega) (by rw [t1]; exact g1) (by omega) (by rw [t1]; exact g2) (e_tup2 (b1 := true) (b2 := true) e_int e_int) (e_var 5) (e_var 5) ?_
        rw [t1]
        exact s_nil (s_nil ⟨by omega, _, sh.set hm', rfl⟩)
      · rw [if_neg (by rw [hd]; decide)]
        exact s_nil ⟨by omega, _, sh, rfl⟩
    · rintro Γ' ⟨hmn, r5, sh, rfl⟩
      rw [Int.toNat_natCast]
      exact s_nil ⟨_, _, rfl⟩
  · have e : po3 T2 c = T2 := by unfold po3; rw [if_neg (by rw [hc]; decide)]
    rw [e]
    exact s_nil ⟨_, _, rfl⟩
  rintro Γ' ⟨r5'', r6'', rfl⟩
  refine s_thawT 3 rfl ?_
  exact s_ret (e_var 3) rfl

open _root_.EP (ent Tf Ov Ot)
def QL (u : Fr) : Prop := Low u ∧ u.2 = 1 ∧ u.1.natAbs ≤ 3
def QU (u : Fr) : Prop := Low u ∧ u.2 ∣ 6 ∧ u.1.natAbs ≤ 3
structure TL (n : Nat) (T : Tb) : Prop where
  all : AllT n QL T
  dg : ∀ a, a < n → (ent T a a).1 ≠ 0
  z : ∀ a b, a < n → b < n → a < b → ent T a b = (0, 1)
structure TU (n : Nat) (T : Tb) : Prop where
  all : AllT n QU T
  dg : ∀ a, a < n → (ent T a a).1 ≠ 0
  z : ∀ a b, a < n → b < n → b < a → ent T a b = (0, 1)
theorem TL.sq {n : Nat} {T : Tb} (h : TL n T) : Sq n T := h.all.sq fun _ z => z.1
theorem TU.sq {n : Nat} {T : Tb} (h : TU n T) : Sq n T := h.all.sq fun _ z => z.1
theorem TL.set {n : Nat} {T : Tb} (h : TL n T) {i j : Nat} {v : Fr} (hi : i < n) (hj : j < i) (hv : QL v) : TL n (setIJ T i j v) := by
  refine ⟨h.all.set hi hv, fun a ha => ?_, fun a b ha hb hab => ?_⟩
  · rw [_root_.EP.ent_set h.sq v hi (by omega) a a ha ha, if_neg (by omega)]; exact h.dg a ha
  · rw [_root_.EP.ent_set h.sq v hi (by omega) a b ha hb, if_neg (by omega)]; exact h.z a b ha hb hab
theorem TU.set {n : Nat} {T : Tb} (h : TU n T) {i j : Nat} {v : Fr} (hj : j < n) (hi : i ≤ j) (hv : QU v) (h0 : i = j → v.1 ≠ 0) : TU n (setIJ T i j v) := by
  refine ⟨h.all.set (by omega) hv, fun a ha => ?_, fun a b ha hb hab => ?_⟩
  · rw [_root_.EP.ent_set h.sq v (by omega) hj a a ha ha]
    split
    · exact h0 (by omega)
    · exact h.dg a ha
  · rw [_root_.EP.ent_set h.sq v (by omega) hj a b ha hb, if_neg (by omega)]; exact h.z a b ha hb hab
theorem pl_ent {n a b : Nat} (ha : a < n) (hb : b < n) : ent (plT n) a b = if a = b then (1, 1) else (0, 1) := by
  unfold ent
  rw [_root_.EP.plT_getD ha, List.getD_eq_getElem?_getD, _root_.EP.plL_get hb]
  by_cases e : a = b
  · rw [if_pos e, if_pos (by omega)]; rfl
  · rw [if_neg e, if_neg (by omega)]; rfl
theorem pl_all {n : Nat} {Q : Fr → Prop} (h1 : Q (1, 1)) (h0 : Q (0, 1)) : AllT n Q (plT n) := by
  have sq := _root_.EP.plT_sq n
  refine ⟨sq.len, sq.row, fun r hr u hu => ?_⟩
  obtain ⟨i, _, e⟩ := List.mem_map.mp hr
  subst e
  rcases _root_.EP.plL_mem hu with e | e <;> rw [e] <;> assumption
theorem pl_TL (n : Nat) : TL n (plT n) := by
  refine ⟨pl_all ⟨_root_.EP.low11, rfl, by decide⟩ ⟨_root_.EP.low01, rfl, by decide⟩, fun a ha => ?_, fun a b ha hb hab => ?_⟩
  · rw [pl_ent ha ha, if_pos rfl]; decide
  · rw [pl_ent ha hb, if_neg (by omega)]
theorem pl_TU (n : Nat) : TU n (plT n) := by
  refine ⟨pl_all ⟨_root_.EP.low11, by decide, by decide⟩ ⟨_root_.EP.low01, by decide, by decide⟩, fun a ha => ?_, fun a b ha hb hab => ?_⟩
  · rw [pl_ent ha ha, if_pos rfl]; decide
  · rw [pl_ent ha hb, if_neg (by omega)]
def loE (c : Int) : Fr := (c.fmod 5 - 2, 1)
def upE (c : Int) : Fr := fr ((c.fdiv 5).fmod 5 - 2) (1 + (c.fdiv 25).fmod 2)
def dgT (c : Int) : Int := ([1, -1, 2, 3] : List Int).getD (c.fmod 4).toNat 0
def dgE (c : Int) : Fr := fr (dgT c) (1 + (c.fdiv 4).fmod 3)
theorem fr_qu {t b : Int} (ht : t.natAbs ≤ 3) (hb : b = 1 ∨ b = 2 ∨ b = 3) : QU (fr t b) := by
  have b0 : b ≠ 0 := by omega
  refine ⟨_root_.EP.fr_lowP b0, ?_, Nat.le_trans (_root_.EP.fr_abs1 b0) ht⟩
  have hd : (fr t b).2 ∣ b := ⟨_, by rw [Int.mul_comm]; exact (_root_.EP.fr_bot t b).symm⟩
  refine Int.dvd_trans hd ?_
  rcases hb with e | e | e <;> rw [e] <;> decide
theorem fr_nz {t b : Int} (ht : t ≠ 0) (hb : b ≠ 0) : (fr t b).1 ≠ 0 := fun z => by
  have h1 := _root_.EP.fr_cross t b
  have h2 := (_root_.EP.fr_lowP (t := t) hb).ne
  rw [z, Int.zero_mul] at h1
  exact (Int.mul_ne_zero ht h2) h1.symm
theorem loE_q (c : Int) : QL (loE c) := by
  have := fmod_pos (a := c) (b := 5) (by decide)
  refine ⟨⟨Int.le_refl 1, by show Int.gcd _ 1 = 1; simp⟩, rfl, ?_⟩
  show (c.fmod 5 - 2).natAbs ≤ 3
  omega
theorem upE_q (c : Int) : QU (upE c) := by
  have z := fmod_pos (a := c.fdiv 5) (b := 5) (by decide)
  have z2 := fmod_pos (a := c.fdiv 25) (b := 2) (by decide)
  exact fr_qu (by omega) (by omega)
theorem dgT_ok (c : Int) : dgT c ≠ 0 ∧ (dgT c).natAbs ≤ 3 := by
  have z := fmod_pos (a := c) (b := 4) (by decide)
  unfold dgT
  generalize c.fmod 4 = x at *
  have : x = 0 ∨ x = 1 ∨ x = 2 ∨ x = 3 := by omega
  rcases this with rfl | rfl | rfl | rfl <;> decide
theorem dgE_q (c : Int) : QU (dgE c) ∧ (dgE c).1 ≠ 0 := by
  have z := fmod_pos (a := c.fdiv 4) (b := 3) (by decide)
  obtain ⟨h1, h2⟩ := dgT_ok c
  exact ⟨fr_qu h2 (by omega), fr_nz h1 (by omega)⟩
def cIn (i : Nat) (st : Tb × Tb × Int) : Nat → Tb × Tb × Int
  | 0 => st
  | m + 1 => (setIJ (cIn i st m).1 i m (loE (cIn i st m).2.2), setIJ (cIn i st m).2.1 m i (upE (cIn i st m).2.2), (cIn i st m).2.2.fdiv 50)
def cSt (i : Nat) (st : Tb × Tb × Int) : Tb × Tb × Int := ((cIn i st i).1, setIJ (cIn i st i).2.1 i i (dgE (cIn i st i).2.2), (cIn i st i).2.2.fdiv 12)
def cOu (n : Nat) (c : Int) : Nat → Tb × Tb × Int
  | 0 => (plT n, plT n, c)
  | i + 1 => cSt i (cOu n c i)
def chF (n c : Int) : Tb := if decide ((cOu n.toNat c n.toNat).2.2.fmod 3 = 0) = true then (lprd (cOu n.toNat c n.toNat).1 (cOu n.toNat c n.toNat).2.1).reverse else lprd (cOu n.toNat c n.toNat).1 (cOu n.toNat c n.toNat).2.1
theorem cIn_ok {n i : Nat} {st : Tb × Tb × Int} (hi : i < n) (h : TL n st.1 ∧ TU n st.2.1) : ∀ m, m ≤ i → TL n (cIn i st m).1 ∧ TU n (cIn i st m).2.1
  | 0, _ => h
  | m + 1, hm => by
    obtain ⟨h1, h2⟩ := cIn_ok hi h m (by omega)
    exact ⟨h1.set hi (by omega) (loE_q _), h2.set hi (by omega) (upE_q _) (fun z => by omega)⟩
theorem cSt_ok {n i : Nat} {st : Tb × Tb × Int} (hi : i < n) (h : TL n st.1 ∧ TU n st.2.1) : TL n (cSt i st).1 ∧ TU n (cSt i st).2.1 := by
  obtain ⟨h1, h2⟩ := cIn_ok hi h i (Nat.le_refl _)
  exact ⟨h1, h2.set hi (Nat.le_refl _) (dgE_q _).1 fun _ => (dgE_q _).2⟩
theorem cOu_ok (n : Nat) (c : Int) : ∀ i, i ≤ n → TL n (cOu n c i).1 ∧ TU n (cOu n c i).2.1
  | 0, _ => ⟨pl_TL n, pl_TU n⟩
  | i + 1, hi => cSt_ok (by omega) (cOu_ok n c i (by omega))
structure Ch (n : Nat) (T : Tb) : Prop where
  sq : Sq n T
  ov : Ot 6 512 T
  ker : ∀ x : Nat → Rat, (∀ i, i < n → _root_.EP.sN (fun j => Tf T i j * x j) n = 0) → ∀ k, k < n → x k = 0
theorem TL.ov {n : Nat} {T : Tb} (h : TL n T) : Ot 1 3 T := fun r hr u hu => by
  obtain ⟨q1, q2, q3⟩ := h.all.all r hr u hu
  have := _root_.EP.ov_of (M := 1) q1 (by rw [q2]; exact ⟨1, rfl⟩) (by decide)
  exact this.mono (by show u.1.natAbs * 1 ≤ 3; omega)
theorem TU.ov {n : Nat} {T : Tb} (h : TU n T) : Ot 6 18 T := fun r hr u hu => by
  obtain ⟨q1, q2, q3⟩ := h.all.all r hr u hu
  have := _root_.EP.ov_of (M := 6) q1 q2 (by decide)
  exact this.mono (by show u.1.natAbs * 6 ≤ 18; omega)
theorem tf_nz {n : Nat} {T : Tb} (h : Sq n T) {a b : Nat} (h0 : (ent T a b).1 ≠ 0) : Tf T a b ≠ 0 := (_root_.EP.val_ne (_root_.EP.ent_low h a b)).mpr h0
theorem tf_z {T : Tb} {a b : Nat} (h0 : ent T a b = (0, 1)) : Tf T a b = 0 := by
  show _root_.EP.val (ent T a b) = 0
  rw [h0]; exact _root_.EP.val01
theorem Ot.mono {M : Int} {B B' : Nat} {T : Tb} (h : Ot M B T) (l : B ≤ B') : Ot M B' T := fun r hr u hu => (h r hr u hu).mono l
theorem lu_ch {n : Nat} {L U : Tb} (hL : TL n L) (hU : TU n U) (n8 : n ≤ 8) : Ch n (prd L U) := by
  refine ⟨hL.sq.prd hU.sq, ?_, fun x hx => ?_⟩
  · have := hL.ov.prd hU.ov hL.sq hU.sq
    exact Ot.mono this (by show n * 54 ≤ 512; omega)
  · exact _root_.EP.lu_ker hL.sq hU.sq (fun i hi => tf_nz hL.sq (hL.dg i hi)) (fun i j hi hj hij => tf_z (hL.z i j hi hj hij)) (fun i hi => tf_nz hU.sq (hU.dg i hi)) (fun i j hi hij => tf_z (hU.z i j hi (by omega) hij)) hx
theorem Ch.rev {n : Nat} {T : Tb} (h : Ch n T) : Ch n T.reverse :=
  ⟨_root_.EP.rev_sq h.sq, fun r hr => h.ov r (List.mem_reverse.mp hr), fun x hx => h.ker x (_root_.EP.rev_ker h.sq hx)⟩
theorem chF_ok {n : Int} (c : Int) (h : n ≤ 8) : Ch n.toNat (chF n c) := by
  obtain ⟨h1, h2⟩ := cOu_ok n.toNat c n.toNat (Nat.le_refl _)
  unfold chF
  rw [_root_.EP.lprd_eq h1.sq h2.sq]
  have := lu_ch h1 h2 (by omega)
  split
  · exact this.rev
  · exact this
theorem TL.s5 {n : Nat} {T : Tb} (h : TL n T) : S5 n 3 T := ⟨h.sq, fun r hr u hu => by
  obtain ⟨q1, q2, q3⟩ := h.all.all r hr u hu
  show _ < 2 ^ 3; omega, fun r hr u hu => by
  obtain ⟨q1, q2, q3⟩ := h.all.all r hr u hu
  show _ < 2 ^ 3; omega⟩
theorem TU.s5 {n : Nat} {T : Tb} (h : TU n T) : S5 n 3 T := ⟨h.sq, fun r hr u hu => by
  obtain ⟨q1, q2, q3⟩ := h.all.all r hr u hu
  show _ < 2 ^ 3; omega, fun r hr u hu => by
  obtain ⟨q1, q2, q3⟩ := h.all.all r hr u hu
  have := Int.le_of_dvd (by decide) q2
  have := q1.1
  show _ < 2 ^ 3; omega⟩
set_option maxHeartbeats 1000000 in
include B in
theorem b_law_change (c_law_low : Cal P w K mg base 1 "_law_low" ["_law_top", "_law_bottom"] (sp2 K PFr true fr)) (c_law_product : Cal P w K mg base 3 "_law_product" ["_law_one", "_law_other"] (sp2 K PPr true lprd)) (c_law_plain : Cal P w K mg base 1 "_law_plain" ["_law_n"] (sp1 K (fun n => (0 : Int) ≤ n ∧ n ≤ 8) true plTO))
    (n c : Int) (h0 : 0 ≤ n) (h6 : n ≤ 6) : Body P w K mg base N_law_change "_law_change" s_law_change f 3 [.val false n, .val false c] (RT true (chF n c)) := by
  intro cdv A outer s H E hr
  refine s_deep 2 sc_law_change.nd (en_call1 c_law_plain (hr.mono (by decide)) rfl (e_var 0) ⟨h0, by omega⟩) ?_
  refine s_deep 3 sc_law_change.nd (en_call1 c_law_plain (hr.mono (by decide)) rfl (e_var 0) ⟨h0, by omega⟩) ?_
  have ez : plTO n = TbO.mk (plT n.toNat) := rfl
  rw [ez]
  refine s_forRange (n := n) (fun i Γ => i ≤ n.toNat ∧ ∃ b1 r4 r5, Γ = [some (.val false n), some (.val b1 (cOu n.toNat c i).2.2), some (.dpo (TbO.mk (cOu n.toNat c i).1)), some (.dpo (TbO.mk (cOu n.toNat c i).2.1)), r4, r5, none]) rfl B.range (g_name 4 sc_law_change.nd) (e_var 0) (by omega) (by omega) ⟨Nat.zero_le _, _, none, none, rfl⟩ ?_ ?_
  · rintro i Γ' hi ⟨hin, b1, r4, r5, rfl⟩
    have hi' : i < n.toNat := by omega
    have ok := cOu_ok n.toNat c i hin
    have hs : cOu n.toNat c (i + 1) = cSt i (cOu n.toNat c i) := rfl
    rw [hs]
    generalize cOu n.toNat c i = st at *
    refine s_forRange (n := (i : Int)) (fun m Γ => m ≤ i ∧ ∃ b1 r5, Γ = [some (.val false n), some (.val b1 (cIn i st m).2.2), some (.dpo (TbO.mk (cIn i st m).1)), some (.dpo (TbO.mk (cIn i st m).2.1)), some (.val true (i : Int)), r5, none]) rfl B.range (g_name 5 sc_law_change.nd) (e_var 4) (by omega) (by omega) ⟨Nat.zero_le _, _, _, rfl⟩ ?_ ?_
    · rintro m Γ' hm ⟨him, b1, r5, rfl⟩
      have hm' : m < i := by omega
      obtain ⟨t1, t2⟩ := cIn_ok hi' ok m him
      have hs2 : cIn i st (m + 1) = (setIJ (cIn i st m).1 i m (loE (cIn i st m).2.2), setIJ (cIn i st m).2.1 m i (upE (cIn i st m).2.2), (cIn i st m).2.2.fdiv 50) := rfl
      rw [hs2]
      generalize cIn i st m = st2 at *
      obtain ⟨L, U, d⟩ := st2
      dsimp only at *
      have lL := t1.sq.len
      have lU := t2.sq.len
      have rL := t1.sq.row (L.getD i []) (_root_.EP.getD_mem (by omega))
      have rU := t2.sq.row (U.getD m []) (_root_.EP.getD_mem (by omega))
      have n1 : ((i : Int)).toNat = i := Int.toNat_natCast i
      have n2 : ((m : Int)).toNat = m := Int.toNat_natCast m
      refine s_setkl 2 (rows := L) (r0 := L.getD i []) (c := loE d) (k := (i : Int)) (l := (m : Int)) rfl (by omega) (by rw [n1]; exact get_some (by omega)) (by omega) (by rw [n2, rL]; omega) (e_tup2 (b1 := true) (b2 := true) (e_sub (e_mod (e_var 1) e_int (by decide)) e_int) e_int) (e_var 4) (e_var 5) ?_
      rw [n1, n2, show L.set i ((L.getD i []).set m (loE d)) = setIJ L i m (loE d) from rfl]
      have z2 := fmod_pos (a := d.fdiv 25) (b := 2) (by decide)
      refine s_setkl 3 (rows := U) (r0 := U.getD m []) (c := upE d) (k := (m : Int)) (l := (i : Int)) rfl (by omega) (by rw [n2]; exact get_some (by omega)) (by omega) (by rw [n1, rU]; omega) (e_call2 c_law_low (hr.mono (by decide)) rfl (e_sub (e_mod (e_fdiv (e_var 1) e_int cdK) e_int (by decide)) e_int) (e_add e_int (e_mod (e_fdiv (e_var 1) e_int cdK) e_int (by decide))) ⟨by omega, (Sm.of64 (by omega) (by omega)).le (by decide)⟩) (e_var 5) (e_var 4) ?_
      rw [n1, n2, show U.set m ((U.getD m []).set i (upE d)) = setIJ U m i (upE d) from rfl]
      exact s_asg 1 sc_law_change.nd (e_fdiv (e_var 1) e_int cdK) (s_nil ⟨by omega, _, _, rfl⟩)
    · rintro Γ' ⟨him, b1, r5, rfl⟩
      rw [Int.toNat_natCast]
      obtain ⟨t1, t2⟩ := cIn_ok hi' ok i (Nat.le_refl _)
      have hs2 : cSt i st = ((cIn i st i).1, setIJ (cIn i st i).2.1 i i (dgE (cIn i st i).2.2), (cIn i st i).2.2.fdiv 12) := rfl
      rw [hs2]
      generalize cIn i st i = st2 at *
      obtain ⟨L, U, d⟩ := st2
      dsimp only at *
      have lU := t2.sq.len
      have rU := t2.sq.row (U.getD i []) (_root_.EP.getD_mem (by omega))
      have n1 : ((i : Int)).toNat = i := Int.toNat_natCast i
      have z4 := fmod_pos (a := d) (b := 4) (by decide)
      have z3 := fmod_pos (a := d.fdiv 4) (b := 3) (by decide)
      refine s_setkl 3 (rows := U) (r0 := U.getD i []) (c := dgE d) (k := (i : Int)) (l := (i : Int)) rfl (by omega) (by rw [n1]; exact get_some (by omega)) (by omega) (by rw [n1, rU]; omega) (e_call2 c_law_low (hr.mono (by decide)) rfl (e_ixL (a := dgT d) (e_lst (ea_cons (b := true) e_int (ea_cons (e_neg e_int) (ea_cons e_int (ea_cons e_int ea_nil)))) (by decide)) (e_mod (e_var 1) e_int (by decide)) (atGetD (d := 0) z4.1 z4.2)) (e_add e_int (e_mod (e_fdiv (e_var 1) e_int cdK) e_int (by decide))) ⟨by omega, (Sm.of64 (by omega) (by omega)).le (by decide)⟩) (e_var 4) (e_var 4) ?_
      rw [n1, show U.set i ((U.getD i []).set i (dgE d)) = setIJ U i i (dgE d) from rfl]
      exact s_asg 1 sc_law_change.nd (e_fdiv (e_var 1) e_int cdK) (s_nil ⟨by omega, _, _, _, rfl⟩)
  · rintro Γ' ⟨hin, b1, r4, r5, rfl⟩
    obtain ⟨t1, t2⟩ := cOu_ok n.toNat c n.toNat (Nat.le_refl _)
    unfold chF
    generalize cOu n.toNat c n.toNat = st at *
    refine s_thawT 2 rfl ?_
    refine s_thawT 3 rfl ?_
    refine s_ownN (β := Fr) 6 sc_law_change.nd (en_call2 c_law_product (hr.mono (by decide)) rfl (e_var 2) (e_var 3) ⟨n.toNat, 3, 3, t1.s5, t2.s5, by omega, by have : (n.toNat + 1) * (3 + 3 + 2) ≤ 7 * 8 := Nat.mul_le_mul (by omega) (by decide); omega⟩) ?_
    refine s_ifJ (fun Γ => Γ = [some (.val false n), some (.val b1 st.2.2), some (.val true st.1), some (.val true st.2.1), r4, r5, some (.own true (if decide (st.2.2.fmod 3 = 0) = true then (lprd st.1 st.2.1).reverse else lprd st.1 st.2.1))]) (t_cmp cv_eqI (e_mod (e_var 1) e_int (by decide)) e_int) (fun hc => ?_) (fun hc => ?_) ?_
    · refine s_reverse 6 rfl (s_nil ?_)
      show _ = _
      rw [if_pos hc]
      rfl
    · refine s_nil ?_
      show _ = _
      rw [if_neg (by rw [hc]; decide)]
      rfl
    rintro Γ' rfl
    refine s_freeze 6 rfl ?_
    exact s_ret (e_var 6) rfl

open _root_.EP (Rv Cv Cf posC negC pdF piN Rb Fb ngT ofR)
structure QF (n : Nat) (u : Fr) : Prop where
  low : Low u
  a : EOk u
  b : 4 < n → u.2 ∣ 2 ∧ u.1.natAbs ≤ 3
theorem tEnt_qf {n : Int} (c w : Int) : QF n.toNat (tEnt n c w).1 := by
  have e0 := tEnt_ok n c w
  refine ⟨e0.1, e0, fun h4 => ?_⟩
  have hn : 4 < n := by omega
  have ee : (tEnt n c w).1 = fr ((drawn c).1.1.fmod 7 - 3) (1 + (drawn c).1.2.fmod 2) := by unfold tEnt; rw [if_pos hn]
  rw [ee]
  have z := fmod_pos (a := (drawn c).1.1) (b := 7) (by decide)
  have z2 := fmod_pos (a := (drawn c).1.2) (b := 2) (by decide)
  generalize (drawn c).1.1.fmod 7 = x at *
  generalize (drawn c).1.2.fmod 2 = y at *
  have hb : (1 + y) ≠ 0 := by omega
  refine ⟨?_, Nat.le_trans (_root_.EP.fr_abs1 hb) (by omega)⟩
  have hd : (fr (x - 3) (1 + y)).2 ∣ 1 + y := ⟨_, by rw [Int.mul_comm]; exact (_root_.EP.fr_bot (x - 3) (1 + y)).symm⟩
  have : (1 + y) ∣ 2 := by
    rcases (show y = 0 ∨ y = 1 by omega) with e | e <;> rw [e] <;> decide
  exact Int.dvd_trans hd this
theorem qf01 (n : Nat) : QF n (0, 1) := ⟨_root_.EP.low01, eok01, fun _ => ⟨by decide, by decide⟩⟩
theorem fIn_qf {n : Int} {i : Nat} {st : Tb × Int × Int} (h : AllT n.toNat (QF n.toNat) st.1) : ∀ m, i + m ≤ n.toNat → AllT n.toNat (QF n.toNat) (fIn n i st m).1
  | 0, _ => h
  | m + 1, hm => by
    have h1 := fIn_qf (i := i) h m (by omega)
    have e := tEnt_qf (n := n) (fIn n i st m).2.1 (fIn n i st m).2.2
    exact (h1.set (by omega) e).set (by omega) e
theorem fOu_qf (n c w : Int) : ∀ i, i ≤ n.toNat → AllT n.toNat (QF n.toNat) (fOu n c w i).1
  | 0, _ => _root_.EP.zeT_all (qf01 _)
  | i + 1, hi => fIn_qf (fOu_qf n c w i (by omega)) _ (by omega)
theorem lawForm_ko {n : Int} (c w : Int) (h : n ≤ 8) : Ko n.toNat (QF n.toNat) (lawForm n c w) := ⟨fOu_qf n c w n.toNat (Nat.le_refl _), (lawForm_ok c w h).2⟩
theorem tab_lcm {n : Nat} {T : Tb} (sq : Sq n T) (n4 : n ≤ 4) (hs : ∀ r ∈ T, ∀ u ∈ r, Sm 10 u.2) : (∀ r ∈ T, 1 ≤ lcmB r ∧ Sm 41 (lcmB r)) ∧ ∃ M : Int, 1 ≤ M ∧ Sm 165 M ∧ ∀ r ∈ T, ∀ u ∈ r, u.2 ∣ M := by
  have one : ∀ r ∈ T, 1 ≤ lcmB r ∧ Sm 41 (lcmB r) := fun r hr => by
    have z := lcm_smg (sq.low r hr) (hs r hr) r.length (Nat.le_refl _)
    rw [List.take_length] at z
    exact ⟨z.1, z.2.le (by rw [sq.row r hr]; omega)⟩
  let us : List Fr := T.map fun r => (1, lcmB r)
  have hl : ∀ u ∈ us, Low u := fun u hu => by
    obtain ⟨r, hr, e⟩ := List.mem_map.mp hu
    rw [← e]
    exact ⟨(one r hr).1, by show Int.gcd 1 _ = 1; simp⟩
  have hm : ∀ u ∈ us, Sm 41 u.2 := fun u hu => by
    obtain ⟨r, hr, e⟩ := List.mem_map.mp hu
    rw [← e]
    exact (one r hr).2
  have z := lcm_smg hl hm us.length (Nat.le_refl _)
  rw [List.take_length] at z
  have lu : us.length = n := by show (T.map _).length = n; rw [List.length_map, sq.len]
  refine ⟨one, lcmB us, z.1, z.2.le (by rw [lu]; omega), fun r hr u hu => ?_⟩
  have h1 := _root_.EP.lcmB_dvd (fun u hu => (sq.low r hr u hu).1) hu
  have h2 : (1, lcmB r) ∈ us := List.mem_map.mpr ⟨r, hr, rfl⟩
  exact Int.dvd_trans h1 (_root_.EP.lcmB_dvd (fun u hu => (hl u hu).1) h2)
structure Fq (n b : Nat) (M : Int) (D : Nat) (F : Tb) : Prop where
  bk : Bk n b F
  tv : tov F = F
  m : 1 ≤ M
  ot : Ot M D F
  c : (n ≤ 4 ∧ b = 61 ∧ D = 2 ^ 185 ∧ M.natAbs < 2 ^ 165) ∨ (n ≤ 8 ∧ b = 3 ∧ D = 6 ∧ M = 2)
theorem ko_fq {n : Nat} {F : Tb} (h : Ko n (QF n) F) (n8 : n ≤ 8) : ∃ b M D, Fq n b M D F := by
  have sq := h.all.sq fun _ z => z.low
  have tv := (_root_.EP.sym_tov sq).mpr h.sy
  by_cases h4 : n ≤ 4
  · obtain ⟨one, M, m1, m2, m3⟩ := tab_lcm sq h4 fun r hr u hu => (h.all.all r hr u hu).a.2.2
    have hM : M.natAbs ≤ 2 ^ 165 := Nat.le_of_lt m2
    refine ⟨61, M, 2 ^ 185, ⟨sq, fun r hr => ⟨lcmB r, (one r hr).1, fun u hu => _root_.EP.lcmB_dvd (fun u hu => (sq.low r hr u hu).1) hu, ?_, fun u hu => ?_⟩⟩, tv, m1, fun r hr u hu => ?_, .inl ⟨h4, rfl, rfl, m2⟩⟩
    · exact Nat.le_of_lt ((one r hr).2.le (show 41 ≤ 61 by decide))
    · have e1 := (h.all.all r hr u hu).a.2.1
      have e2 := Int.ediv_le_self u.2 (show 0 ≤ lcmB r by have := (one r hr).1; omega)
      have e3 := Int.ediv_nonneg (show 0 ≤ lcmB r by have := (one r hr).1; omega) (show 0 ≤ u.2 by have := (sq.low r hr u hu).1; omega)
      have e4 : Sm 41 (lcmB r / u.2) := Sm.of_le (by omega) (one r hr).2
      exact Nat.le_of_lt (e1.mul e4)
    · refine (_root_.EP.ov_of (sq.low r hr u hu) (m3 r hr u hu) m1).mono ?_
      have : u.1.natAbs * M.natAbs ≤ 2 ^ 20 * 2 ^ 165 := Nat.mul_le_mul (Nat.le_of_lt (h.all.all r hr u hu).a.2.1) hM
      rw [← Nat.pow_add] at this
      exact this
  · have ot : Ot 2 6 F := fun r hr u hu => by
      obtain ⟨b1, b2⟩ := (h.all.all r hr u hu).b (by omega)
      exact (_root_.EP.ov_of (sq.low r hr u hu) b1 (by decide)).mono (by show u.1.natAbs * 2 ≤ 6; omega)
    exact ⟨3, 2, 6, _root_.EP.Ot.bk ot sq (by decide) (by decide) (by decide), tv, by decide, ot, .inr ⟨n8, rfl, rfl, rfl⟩⟩
theorem Fq.pu {n b : Nat} {M : Int} {D : Nat} {F : Tb} (h : Fq n b M D F) (n1 : 1 ≤ n) : PUp F ∧ piN (Rb b) n < 2 ^ 2200 ∧ piN (fun i => 2 ^ b * 2 ^ b * Fb b i) n < 2 ^ 1600 := by
  have lF := h.bk.sq.len
  have key : n ≤ 8 ∧ _root_.EP.nb2B b 2200 1600 n = true := by
    rcases h.c with ⟨a, e, _⟩ | ⟨a, e, _⟩
    · subst e; exact ⟨by omega, _root_.EP.nb2_61 n (List.mem_range.mpr (by omega))⟩
    · subst e; exact ⟨a, _root_.EP.nb2_3 n (List.mem_range.mpr (by omega))⟩
  obtain ⟨k1, k2, k3, k4, k5⟩ := _root_.EP.nb2_ok key.2
  exact ⟨⟨b, by omega, by omega, by rw [lF]; exact h.bk, h.tv, by rw [lF]; exact k1, k2, by rw [lF]; exact k3⟩, k4, k5⟩

theorem b_law_root (x : Int) (h0 : 0 ≤ x) (hs : Sm 20000 x) : Body P w K mg base N_law_root "_law_root" s_law_root f k [.val false x] (RT true (_root_.EP.rt x)) := by
  intro cdv A outer s H E hr
  have sm2 : ∀ h : Int, 0 ≤ h → h ≤ 2 * x + 2 → Sm 20002 h := fun h h1 h2 => by
    have hx : x.natAbs < 2 ^ 20000 := hs
    have p1 : 1 ≤ 2 ^ 20000 := Nat.two_pow_pos _
    have e : 2 ^ 20002 = 4 * 2 ^ 20000 := by rw [show (20002 : Nat) = 20000 + 2 from rfl, Nat.pow_add]; omega
    show h.natAbs < 2 ^ 20002
    rw [e]
    omega
  refine s_asg 1 sc_law_root.nd e_int ?_
  refine s_asg 2 sc_law_root.nd e_int ?_
  refine s_while (ι := Int) (fun i Γ => Γ = [some (.val false x), some (.val true (0 : Int)), some (.val true i), none] ∧ 1 ≤ i ∧ i ≤ 2 * x + 2) (fun i => (x + 1 - i).toNat) 1 ⟨rfl, by omega, by omega⟩ ?_
  rintro g Γ' ⟨rfl, g1, g2⟩
  refine ⟨_, t_cmp cv_le (e_mul (e_var 2) (e_var 2) ((sm2 g (by omega) g2).ok (sm2 g (by omega) g2))) (e_var 0), fun hc => ?_, fun hc => ?_⟩
  · have hc' : g * g ≤ x := by simpa using hc
    have hgx : g ≤ x := by
      have : g * 1 ≤ g * g := Int.mul_le_mul_of_nonneg_left g1 (by omega)
      omega
    refine s_asg 2 sc_law_root.nd (e_mul e_int (e_var 2) (mulL (by decide) (by decide))) ?_
    exact s_nil ⟨2 * g, ⟨rfl, by omega, by omega⟩, by omega⟩
  · have hc' : x < g * g := by simpa using hc
    refine s_while (ι := Int × Int) (fun i Γ => ∃ r3, Γ = [some (.val false x), some (.val true i.1), some (.val true i.2), r3] ∧ 0 ≤ i.1 ∧ i.1 < i.2 ∧ i.2 ≤ 2 * x + 2 ∧ i.1 * i.1 ≤ x ∧ x < i.2 * i.2) (fun i => (i.2 - i.1).toNat) (0, g) ⟨none, rfl, Int.le_refl 0, by show (0 : Int) < g; omega, g2, by show (0 : Int) * 0 ≤ x; omega, hc'⟩ ?_
    rintro ⟨lo, hi⟩ Γ' ⟨r3, rfl, l0, l1, l2, l3, l4⟩
    dsimp only at *
    refine ⟨_, t_cmp cv_gt (e_sub (e_var 2) (e_var 1)) e_int, fun hd => ?_, fun hd => ?_⟩
    · have hd' : 1 < hi - lo := by simpa using hd
      refine s_asg 3 sc_law_root.nd (e_fdiv (e_add (e_var 1) (e_var 2)) e_int cdK) ?_
      have hm : (lo + hi).fdiv 2 = (lo + hi) / 2 := Int.fdiv_eq_ediv_of_nonneg _ (by decide)
      rw [hm]
      generalize hq : (lo + hi) / 2 = q
      have q1 : lo < q := by omega
      have q2 : q < hi := by omega
      refine s_if (t_cmp cv_le (e_mul (e_var 3) (e_var 3) ((sm2 q (by omega) (by omega)).ok (sm2 q (by omega) (by omega)))) (e_var 0)) (fun he => ?_) (fun he => ?_)
      · have he' : q * q ≤ x := by simpa using he
        exact s_asg 1 sc_law_root.nd (e_var 3) (s_nil (s_nil ⟨(q, hi), ⟨_, rfl, by show 0 ≤ q; omega, q2, l2, he', l4⟩, by show (hi - q).toNat < _; omega⟩))
      · have he' : x < q * q := by simpa using he
        exact s_asg 2 sc_law_root.nd (e_var 3) (s_nil (s_nil ⟨(lo, q), ⟨_, rfl, l0, q1, by show q ≤ _; omega, l3, he'⟩, by show (q - lo).toNat < _; omega⟩))
    · have hd' : hi - lo ≤ 1 := by simpa using hd
      have e : hi = lo + 1 := by omega
      subst e
      rw [← _root_.EP.rt_unique l0 l3 l4]
      exact s_ret (e_var 1) rfl
def sgF (us : List Fr) : Int × Int := ((posC us : Nat), (negC us : Nat))
include B in
theorem b_law_signs (us : List Fr) (hl : us.length ≤ 8) : Body P w K mg base N_law_signs "_law_signs" s_law_signs f k [.val false us] (RT true (sgF us)) := by
  intro cdv A outer s H E hr
  have e1 : ((((us.filter fun u : Fr => decide (0 < u.1)).map fun u : Fr => u).length : Nat) : Int) = (posC us : Nat) := by rw [List.map_id']; rfl
  have e2 : ((((us.filter fun u : Fr => decide (u.1 < 0)).map fun u : Fr => u).length : Nat) : Int) = (negC us : Nat) := by rw [List.map_id']; rfl
  refine s_asg 1 sc_law_signs.nd (e_eq (e_lenL rfl B.len (e_compF (as := us) (f := fun u : Fr => u) (p := fun u : Fr => decide (0 < u.1)) (b' := true) ["_law_number"] [] (cscope (defScope s_law_signs) N_law_signs rfl rfl (by decide +kernel)) (ei_list (e_var 0)) (gp_name 0) (fun C s H fp => pg_cn 0 ["_law_number"]) lt_of_eq (fun a u hu C s H fp => ft_one (t_cmp cv_gt (e_fst (e_var 0)) e_int)) (fun a u hu _ C s H fp => e_up (b' := true) (e_var 0)) (by omega))) e1) ?_
  exact s_ret (e_tup2 (b1 := true) (b2 := true) (e_var 1) (e_eq (e_lenL rfl B.len (e_compF (as := us) (f := fun u : Fr => u) (p := fun u : Fr => decide (u.1 < 0)) (b' := true) ["_law_number"] [] (cscope (defScope s_law_signs) N_law_signs rfl rfl (by decide +kernel)) (ei_list (e_var 0)) (gp_name 0) (fun C s H fp => pg_cn 0 ["_law_number"]) lt_of_eq (fun a u hu C s H fp => ft_one (t_cmp cv_lt (e_fst (e_var 0)) e_int)) (fun a u hu _ C s H fp => e_up (b' := true) (e_var 0)) (by omega))) e2)) rfl
structure PPd (us : List Fr) : Prop where
  ex : ∃ R D : Nat → Nat, us.length ≤ 8 ∧ (∀ u ∈ us, Low u) ∧ (∀ i, i < us.length → (us.getD i (0, 1)).1.natAbs ≤ R i ∧ (us.getD i (0, 1)).2.natAbs ≤ D i) ∧ (∀ i, 1 ≤ R i) ∧ (∀ i, 1 ≤ D i) ∧ piN R us.length < 2 ^ 20000 ∧ piN D us.length < 2 ^ 9000
theorem b_law_product_of (c_law_times : Cal P w K mg base 2 "_law_times" ["_law_u", "_law_v"] (sp2 K LMu true fmul)) (us : List Fr) (hp : PPd us) : Body P w K mg base N_law_product_of "_law_product_of" s_law_product_of f 2 [.val false us] (RT true (pdF us)) := by
  intro cdv A outer s H E hr
  obtain ⟨R, D, l8, lo, sz, r1, d1, pr, pd⟩ := hp.ex
  refine s_asg 1 sc_law_product_of.nd (e_tup2 (b1 := true) (b2 := true) e_int e_int) ?_
  refine s_forL (fun i Γ => ∃ r2, Γ = [some (.val false us), some (.val true (pdF (us.take i))), r2]) (g_name 2 sc_law_product_of.nd) (e_var 0) ⟨none, rfl⟩ ?_ ?_
  · rintro i u Γ' hu ⟨r2, rfl⟩
    have hi : i < us.length := (List.getElem?_eq_some_iff.mp hu).1
    have eu : us.getD i (0, 1) = u := by rw [List.getD_eq_getElem?_getD, hu]; rfl
    have lu := lo u (mem_at hu)
    obtain ⟨a, b, c⟩ := _root_.EP.pdF_size lo sz r1 d1 i (by omega)
    obtain ⟨s1, s2⟩ := sz i hi
    rw [eu] at s1 s2
    have mR := _root_.EP.piN_mono r1 (show i ≤ us.length by omega)
    have mD := _root_.EP.piN_mono d1 (show i + 1 ≤ us.length by omega)
    have mR2 := _root_.EP.piN_mono r1 (show i + 1 ≤ us.length by omega)
    have eR : piN R (i + 1) = piN R i * R i := rfl
    have eD : piN D (i + 1) = piN D i * D i := rfl
    have pRi : 1 ≤ piN R i := _root_.EP.piN_mono r1 (Nat.zero_le i)
    have pDi : 1 ≤ piN D i := _root_.EP.piN_mono d1 (Nat.zero_le i)
    have hRi : R i ≤ piN R (i + 1) := by rw [eR]; exact Nat.le_mul_of_pos_left _ pRi
    have hDi : D i ≤ piN D (i + 1) := by rw [eD]; exact Nat.le_mul_of_pos_left _ pDi
    have hD2 : piN D i ≤ piN D (i + 1) := by rw [eD]; exact Nat.le_mul_of_pos_right _ (d1 i)
    have lm : LMu (pdF (us.take i)) u := ⟨⟨a.ne, lu.ne⟩, by show _ < _; omega, by show _ < _; omega, by show _ < _; omega, by show _ < _; omega, by
      show _ < _
      rw [Int.natAbs_mul]
      have := Nat.mul_le_mul c s2
      omega⟩
    have en := _root_.EP.pdF_snoc hu
    refine s_if1 (t_cmp (cv_ne (α := Fr) (hu60 hr)) (e_var 2) (e_tup2 (b1 := true) (b2 := true) e_int e_int)) (fun hc => ?_) (fun hc => ?_)
    · have hne : ¬ u = (0, 1) := by simpa using hc
      rw [if_neg hne] at en
      refine s_asg 1 sc_law_product_of.nd (e_eq (e_call2 c_law_times (hr.mono (by decide)) rfl (e_var 1) (e_var 2) lm) en.symm) ?_
      exact s_nil (s_nil ⟨_, rfl⟩)
    · have he : u = (0, 1) := by simpa using hc
      rw [if_pos he] at en
      rw [en]
      exact s_nil ⟨_, rfl⟩
  · rintro Γ' ⟨r2, rfl⟩
    rw [List.take_length]
    exact s_ret (e_var 1) rfl
structure PAl (a b : List Fr) : Prop where
  p1 : PPd a
  p2 : PPd b
  m : LMu (pdF a) (pdF b)
  ex : ∃ x y : Int, fmul (pdF a) (pdF b) = (x * x, y * y) ∧ Sm 20000 (x * x) ∧ Sm 20000 (y * y)
theorem rt_sq (x : Int) : _root_.EP.rt (x * x) ^ ((2 : Int)).toNat = x * x ∧ 0 ≤ x * x := by
  have h0 : 0 ≤ x * x := by
    rcases Int.le_total 0 x with z | z
    · exact Int.mul_nonneg z z
    · have := Int.mul_nonneg (show 0 ≤ -x by omega) (show 0 ≤ -x by omega)
      have e : -x * -x = x * x := by grind
      rw [e] at this; exact this
  refine ⟨?_, h0⟩
  have e : (x.natAbs : Int) = _root_.EP.rt (x * x) := by
    have e1 : ((x.natAbs : Nat) : Int) * ((x.natAbs : Nat) : Int) = x * x := Int.natAbs_mul_self' x
    refine _root_.EP.rt_unique (by omega) (by omega) ?_
    have : ((x.natAbs : Nat) : Int) * ((x.natAbs : Nat) : Int) < (((x.natAbs : Nat) : Int) + 1) * (((x.natAbs : Nat) : Int) + 1) := by grind
    omega
  rw [← e]
  show ((x.natAbs : Nat) : Int) ^ 2 = _
  rw [Int.pow_succ, Int.pow_succ, Int.pow_zero, Int.one_mul]
  exact Int.natAbs_mul_self' x
theorem rt_sm {x : Int} (h0 : 0 ≤ x) (h : Sm 20000 x) : Sm 20000 (_root_.EP.rt x) := by
  have a := _root_.EP.rt_nonneg x
  have b := _root_.EP.rt_le h0
  refine Sm.of_le ?_ h
  by_cases z : _root_.EP.rt x = 0
  · omega
  · have : _root_.EP.rt x * 1 ≤ _root_.EP.rt x * _root_.EP.rt x := Int.mul_le_mul_of_nonneg_left (by omega) a
    omega
theorem pw2 {x : Int} (h : Sm 20000 x) : CPowB x 2 := h.powB (by decide) (by omega)
set_option maxHeartbeats 1000000 in
theorem b_law_alike (c_law_times : Cal P w K mg base 2 "_law_times" ["_law_u", "_law_v"] (sp2 K LMu true fmul)) (c_law_root : Cal P w K mg base 1 "_law_root" ["_law_number"] (sp1 K (fun k => 0 ≤ k ∧ Sm 20000 k) true _root_.EP.rt)) (c_law_product_of : Cal P w K mg base 3 "_law_product_of" ["_law_numbers"] (sp1 K PPd true pdF)) (a b : List Fr) (hp : PAl a b) : Body P w K mg base N_law_alike "_law_alike" s_law_alike f 3 [.val false a, .val false b] (RT true true) := by
  intro cdv A outer s H E hr
  obtain ⟨x, y, e, sx, sy⟩ := hp.ex
  obtain ⟨x1, x2⟩ := rt_sq x
  obtain ⟨y1, y2⟩ := rt_sq y
  refine s_asg 2 sc_law_alike.nd (e_eq (e_call2 c_law_times (hr.mono (by decide)) rfl (e_call1 c_law_product_of (hr.mono (by decide)) rfl (e_var 0) hp.p1) (e_call1 c_law_product_of (hr.mono (by decide)) rfl (e_var 1) hp.p2) hp.m) e) ?_
  refine s_if1 (t_cmp cv_lt (e_fst (e_var 2)) e_int) (fun hc => ?_) (fun _ => ?_)
  · exfalso
    have : x * x < 0 := by simpa using hc
    omega
  refine s_ret (e_and (e_cmp cv_eqI (e_powB (e_call1 c_law_root (hr.mono (by decide)) rfl (e_fst (e_var 2)) ⟨x2, sx⟩) e_int (pw2 (rt_sm x2 sx))) (e_fst (e_var 2))) fun _ => (e_one (e_cmp cv_eqI (e_powB (e_call1 c_law_root (hr.mono (by decide)) rfl (e_snd (e_var 2)) ⟨y2, sy⟩) e_int (pw2 (rt_sm y2 sy))) (e_snd (e_var 2))))) ?_
  show Bd.val _ _ = Bd.val _ _
  congr 1
  show (decide (_root_.EP.rt (x * x) ^ ((2 : Int)).toNat = x * x) && decide (_root_.EP.rt (y * y) ^ ((2 : Int)).toNat = y * y)) = true
  rw [x1, y1]
  simp

theorem rs_3d {n : Int} {i : Nat} {m : Int} (hn : n ≤ m) (h : i < (Builtin.Range.rangeSize 0 n 3).toNat) : (0 : Int) + (i : Int) * 3 < m := by
  unfold Builtin.Range.rangeSize at h
  simp at h
  split at h <;> omega
theorem Ko.imp {n : Nat} {Q Q' : Fr → Prop} {T : Tb} (h : Ko n Q T) (f : ∀ u, Q u → Q' u) : Ko n Q' T := ⟨⟨h.all.len, h.all.row, fun r hr u hu => f u (h.all.all r hr u hu)⟩, h.sy⟩
theorem Ko.ng {n : Nat} {T : Tb} (h : Ko n (QF n) T) : Ko n (QF n) (ngT T) := by
  have sq := h.all.sq fun _ z => z.low
  refine ⟨⟨by unfold _root_.EP.ngT; rw [List.length_map]; exact h.all.len, fun r hr => ?_, fun r hr u hu => ?_⟩, fun a b ha hb => ?_⟩
  · obtain ⟨r0, h0, rfl⟩ := List.mem_map.mp hr
    rw [List.length_map]; exact h.all.row r0 h0
  · obtain ⟨r0, h0, rfl⟩ := List.mem_map.mp hr
    obtain ⟨u0, h1, rfl⟩ := List.mem_map.mp hu
    have q := h.all.all r0 h0 u0 h1
    have lo := (_root_.EP.neg_lw q.low).1
    exact ⟨lo, ⟨lo, q.a.2.1.neg, q.a.2.2⟩, fun h4 => ⟨(q.b h4).1, by show (-u0.1).natAbs ≤ 3; have := (q.b h4).2; omega⟩⟩
  · unfold ent
    rw [_root_.EP.ngT_get sq ha hb, _root_.EP.ngT_get sq hb ha]
    have := h.sy a b ha hb
    unfold ent at this
    rw [this]
theorem ot_s5 {n p : Nat} {M : Int} {D : Nat} {T : Tb} (sq : Sq n T) (m : 1 ≤ M) (h : Ot M D T) (h1 : D < 2 ^ p) (h2 : M.natAbs < 2 ^ p) : S5 n p T :=
  ⟨sq, fun r hr u hu => Nat.lt_of_le_of_lt (_root_.EP.ov_le (h r hr u hu) (sq.low r hr u hu) m).1 h1, fun r hr u hu => Nat.lt_of_le_of_lt (_root_.EP.ov_le (h r hr u hu) (sq.low r hr u hu) m).2.1 h2⟩
theorem S5.p8 {n p : Nat} {T : Tb} (h : S5 n p T) (hp : p ≤ 500) (n8 : n ≤ 8) : PTb n T :=
  ⟨h.sq, n8, fun r hr u hu => (h.s1 r hr u hu).le (by omega), fun r hr u hu => (h.s2 r hr u hu).le hp⟩
theorem Ch.dt {n : Nat} {T : Tb} (h : Ch n T) : _root_.EP.dt n (Tf T) ≠ 0 := fun z => by
  have bk : Bk n 14 T := _root_.EP.Ot.bk h.ov h.sq (by decide) (by decide) (by decide)
  obtain ⟨x, ⟨k, hk, xk⟩, hx⟩ := _root_.EP.back_none bk ((_root_.EP.bak_dt bk).mpr z)
  have := h.ker x hx k hk
  rw [xk] at this
  exact absurd this (by decide)
theorem fq_led {n b : Nat} {M : Int} {D : Nat} {F C : Tb} (h : Fq n b M D F) (hC : Ch n C) (n1 : 1 ≤ n) (n6 : n ≤ 6) : PLd F C ∧ tov (_root_.EP.ledF F C) = _root_.EP.ledF F C ∧ ∃ b', Bk n b' (_root_.EP.ledF F C) ∧ PUp (_root_.EP.ledF F C) ∧ piN (Rb b') n < 2 ^ 7200 ∧ piN (fun i => 2 ^ b' * 2 ^ b' * Fb b' i) n < 2 ^ 5300 := by
  have sq := h.bk.sq
  have n8 : n ≤ 8 := by omega
  have oL := h.ot.led hC.ov sq hC.sq
  have sqL := _root_.EP.led_sq sq hC.sq
  have ltv := _root_.EP.led_tov sq hC.sq h.tv
  have oFC := h.ot.prd hC.ov sq hC.sq
  have hm := h.m
  have key : D ≤ 2 ^ 185 ∧ M.natAbs < 2 ^ 165 ∧ ∃ b', (6 * (M * 6)).natAbs ≤ 2 ^ b' ∧ n * (512 * (n * (D * 512))) ≤ 2 ^ b' ∧ _root_.EP.nb2B b' 7200 5300 n = true := by
    rcases h.c with ⟨a, _, e, m2⟩ | ⟨_, _, e, e2⟩
    · subst e
      refine ⟨Nat.le_refl _, m2, 207, ?_, ?_, _root_.EP.nb2_207 n (List.mem_range.mpr (by omega))⟩
      · have e : (6 * (M * 6)).natAbs = 36 * M.natAbs := by omega
        rw [e]
        exact Nat.le_trans (Nat.mul_le_mul_left 36 (Nat.le_of_lt m2)) (by decide +kernel)
      · have : n * (512 * (n * (2 ^ 185 * 512))) ≤ 4 * (512 * (4 * (2 ^ 185 * 512))) := Nat.mul_le_mul a (Nat.mul_le_mul_left _ (Nat.mul_le_mul_right _ a))
        exact Nat.le_trans this (by decide +kernel)
    · subst e; subst e2
      refine ⟨by decide +kernel, by decide +kernel, 26, by decide, ?_, _root_.EP.nb2_26 n (List.mem_range.mpr (by omega))⟩
      have : n * (512 * (n * (6 * 512))) ≤ 6 * (512 * (6 * (6 * 512))) := Nat.mul_le_mul n6 (Nat.mul_le_mul_left _ (Nat.mul_le_mul_right _ n6))
      exact Nat.le_trans this (by decide +kernel)
  obtain ⟨hD, hM, b', k1, k2, k3⟩ := key
  have bk := _root_.EP.Ot.bk oL sqL (by omega) k1 k2
  obtain ⟨z1, z2, z3, z4, z5⟩ := _root_.EP.nb2_ok k3
  have lL := sqL.len
  have sF : S5 n 200 F := ot_s5 sq hm h.ot (Nat.lt_of_le_of_lt hD (Nat.pow_lt_pow_right (by decide) (by decide))) (Nat.lt_of_lt_of_le hM (Nat.pow_le_pow_right (by decide) (by decide)))
  have sC : S5 n 10 C := ot_s5 hC.sq (by decide) hC.ov (by decide) (by decide)
  have sFC : S5 n 210 (prd F C) := by
    refine ot_s5 (sq.prd hC.sq) (by omega) oFC ?_ ?_
    · have : n * (D * 512) ≤ 6 * (2 ^ 185 * 512) := Nat.mul_le_mul n6 (Nat.mul_le_mul_right _ hD)
      exact Nat.lt_of_le_of_lt this (by decide +kernel)
    · have e : (M * 6).natAbs = 6 * M.natAbs := by omega
      rw [e]
      exact Nat.lt_of_le_of_lt (Nat.mul_le_mul_left 6 (Nat.le_of_lt hM)) (by decide +kernel)
  exact ⟨⟨n, sF.p8 (by decide) n8, sC.p8 (by decide) n8, sFC.p8 (by decide) n8⟩, ltv, b', bk, ⟨b', by omega, by omega, by rw [lL]; exact bk, ltv, by rw [lL]; exact z1, z2, by rw [lL]; exact z3⟩, z4, z5⟩
theorem ppd_of {n b p q : Nat} {T : Tb} (bk : Bk n b T) (tv : tov T = T) (n8 : n ≤ 8) (h1 : piN (Rb b) n < 2 ^ p) (h2 : piN (fun i => 2 ^ b * 2 ^ b * Fb b i) n < 2 ^ q) (hp : p ≤ 20000) (hq : q ≤ 9000) : PPd (_root_.EP.uprF T).1 ∧ (_root_.EP.uprF T).1.length = n ∧ Low (pdF (_root_.EP.uprF T).1) ∧ Sm p (pdF (_root_.EP.uprF T).1).1 ∧ Sm q (pdF (_root_.EP.uprF T).1).2 := by
  obtain ⟨k, _, ln, nm, _, _⟩ := _root_.EP.upr_ok bk tv
  have sz := _root_.EP.upr_top bk tv
  have lo : ∀ u ∈ (_root_.EP.uprF T).1, Low u := fun u hu => by
    obtain ⟨i, hi, e⟩ := List.mem_iff_getElem.mp hu
    have := (nm i (by omega)).1
    rw [List.getD_eq_getElem?_getD, List.getElem?_eq_getElem hi, e] at this
    exact this
  generalize (_root_.EP.uprF T).1 = N at *
  have sz' : ∀ i, i < N.length → (N.getD i (0, 1)).1.natAbs ≤ Rb b i ∧ (N.getD i (0, 1)).2.natAbs ≤ 2 ^ b * 2 ^ b * Fb b i := fun i hi => sz i (by omega)
  obtain ⟨a, c, d⟩ := _root_.EP.pdF_size lo sz' (_root_.EP.Rb_pos b) (_root_.EP.Db_pos b) N.length (Nat.le_refl _)
  rw [List.take_length] at a c d
  rw [ln] at c d
  refine ⟨⟨Rb b, fun i => 2 ^ b * 2 ^ b * Fb b i, by omega, lo, sz', _root_.EP.Rb_pos b, _root_.EP.Db_pos b, by rw [ln]; exact Nat.lt_of_lt_of_le h1 (Nat.pow_le_pow_right (by decide) hp), by rw [ln]; exact Nat.lt_of_lt_of_le h2 (Nat.pow_le_pow_right (by decide) hq)⟩, ln, a, ?_, ?_⟩
  · exact Nat.lt_of_le_of_lt c h1
  · exact Nat.lt_of_le_of_lt d h2
set_option maxHeartbeats 4000000 in
include B in
theorem b_law (c_upright : Cal P w K mg base 5 "upright" ["F"] (sp1 K PUp true upA)) (c_led : Cal P w K mg base 6 "led" ["F", "T"] (sp2 K PLd true _root_.EP.ledF)) (c_law_big : Cal P w K mg base 1 "_law_big" ["_law_script", "_law_k"] (sp2 K (fun _ k => 0 ≤ k ∧ k ≤ 100) true big)) (c_law_form : Cal P w K mg base 3 "_law_form" ["_law_n", "_law_rest", "_law_wide"] (sp3 K (fun (n _ _ : Int) => 0 ≤ n ∧ n ≤ 8) true lawForm)) (c_law_poor : Cal P w K mg base 1 "_law_poor" ["_law_form_here", "_law_rest"] (sp2 K (fun (T : Tb) (_ : Int) => ∃ n, AllT n EOk T ∧ 1 ≤ n ∧ n ≤ 8) true poorF))
    (c_law_change : Cal P w K mg base 4 "_law_change" ["_law_n", "_law_rest"] (sp2 K (fun (n _ : Int) => 0 ≤ n ∧ n ≤ 6) true chF)) (c_law_signs : Cal P w K mg base 1 "_law_signs" ["_law_numbers"] (sp1 K (fun (us : List Fr) => us.length ≤ 8) true sgF)) (c_law_alike : Cal P w K mg base 4 "_law_alike" ["_law_one", "_law_other"] (sp2 K PAl true (fun _ _ => true))) (xs : List Int) (hl : xs.length ≤ 63) : Body P w K mg base N_law "law" s_law f 6 [.val false xs] (RT true true) := by
  intro cdv A outer s H E hr
  have hl' : (if (xs.length : Int) < 6 then (xs.length : Int) else 6) ≤ 6 ∧ 0 ≤ (if (xs.length : Int) < 6 then (xs.length : Int) else 6) := by split <;> omega
  refine s_forRange3 (fun i Γ => ∃ r1 r2 r3 r4 r5 r6 r7 r8 r9, Γ = [some (.val false xs), r1, r2, r3, r4, r5, r6, r7, r8, r9]) rfl B.range (g_name 1 sc_law.nd) e_int (e_add (e_min rfl rfl B.min e_int (e_lenL rfl B.len (e_var 0))) e_int) e_int ⟨by decide, by decide, by omega, by omega⟩ (by decide) ⟨none, none, none, none, none, none, none, none, none, rfl⟩ ?_ ?_
  · rintro i Γ' hi ⟨r1, r2, r3, r4, r5, r6, r7, r8, r9, rfl⟩
    have hi' := rs_3d (m := 7) (by omega) hi
    refine s_asg 2 sc_law.nd (e_call2 c_law_big (hr.mono (by decide)) rfl (e_var 0) (e_var 1) ⟨by omega, by omega⟩) ?_
    generalize big xs ((0 : Int) + (i : Int) * 3) = c
    have q4 := fmod_pos (a := c) (b := 4) (by decide)
    have q6 := fmod_pos (a := c.fdiv 32) (b := 6) (by decide)
    refine s_asg 3 sc_law.nd (e_add e_int (e_mod (e_var 2) e_int (by decide))) ?_
    refine s_ifJ (fun Γ => ∃ n : Int, 1 ≤ n ∧ n ≤ 6 ∧ Γ = [some (.val false xs), some (.val true ((0 : Int) + (i : Int) * 3)), some (.val true c), some (.val true n), r4, r5, r6, r7, r8, r9]) (TW.t (tw_and (t_cmp cv_eqI (e_var 1) e_int) fun _ => (tw_and1 (t_cmp cv_eqI (e_mod (e_fdiv (e_var 2) e_int cdK) e_int (by decide)) e_int)))) (fun hc => ?_) (fun hc => ?_) ?_
    · exact s_asg 3 sc_law.nd (e_add e_int (e_mod (e_fdiv (e_var 2) e_int cdK) e_int (by decide))) (s_nil ⟨_, by omega, by omega, rfl⟩)
    · exact s_nil ⟨_, by omega, by omega, rfl⟩
    rintro Γ' ⟨n, n1, n6, rfl⟩
    refine s_asg 4 sc_law.nd (e_call3 c_law_form (hr.mono (by decide)) rfl (e_var 3) (e_fdiv (e_var 2) e_int cdK) (e_mul e_int (e_intB rfl B.int (e_cmp cv_eqI (e_var 1) e_int)) (mulL (by decide) (by decide))) ⟨by omega, by omega⟩) ?_
    have qF := lawForm_ko (n := n) (c.fdiv 256) (3 * (if decide ((0 : Int) + (i : Int) * 3 = 0) = true then 1 else 0)) (by omega)
    generalize lawForm n (c.fdiv 256) (3 * (if decide ((0 : Int) + (i : Int) * 3 = 0) = true then 1 else 0)) = F0 at *
    have pk := poor_ko (fun u z => z.low) (qf01 n.toNat) qF (by omega) (big xs ((0 : Int) + (i : Int) * 3 + 1))
    refine s_asg 4 sc_law.nd (e_call2 c_law_poor (hr.mono (by decide)) rfl (e_var 4) (e_call2 c_law_big (hr.mono (by decide)) rfl (e_var 0) (e_add (e_var 1) e_int) ⟨by omega, by omega⟩) ⟨n.toNat, (qF.imp fun u z => z.a).all, by omega, by omega⟩) ?_
    generalize poorF F0 (big xs ((0 : Int) + (i : Int) * 3 + 1)) = F at *
    have hC := chF_ok (n := n) (big xs ((0 : Int) + (i : Int) * 3 + 2)) (by omega)
    obtain ⟨m, rfl⟩ : ∃ m : Nat, n = (m : Int) := ⟨n.toNat, by omega⟩
    rw [Int.toNat_natCast] at pk hC
    have m1' : 1 ≤ m := by omega
    have m8 : m ≤ 8 := by omega
    obtain ⟨b, M, D, fq⟩ := ko_fq pk m8
    obtain ⟨pu, pr1, pd1⟩ := fq.pu m1'
    obtain ⟨b2, M2, D2, fq2⟩ := ko_fq pk.ng m8
    obtain ⟨pu2, pr2, pd2⟩ := fq2.pu m1'
    refine s_asg 5 sc_law.nd (e_fst (e_ap (e_call1 c_upright (hr.mono (by decide)) rfl (e_var 4) pu))) ?_
    refine s_asg 6 sc_law.nd (e_fst (e_ap (e_call1 c_upright (hr.mono (by decide)) rfl (e_call2 c_led (hr.mono (by decide)) rfl (e_var 4) (e_call2 c_law_change (hr.mono (by decide)) rfl (e_var 3) (e_call2 c_law_big (hr.mono (by decide)) rfl (e_var 0) (e_add (e_var 1) e_int) ⟨by omega, by omega⟩) ⟨by omega, by omega⟩) (fq_led fq hC m1' (by omega)).1) (by obtain ⟨_, _, b', _, z, _⟩ := fq_led fq hC m1' (by omega); exact z)))) ?_
    generalize chF (m : Int) (big xs ((0 : Int) + (i : Int) * 3 + 2)) = C at *
    obtain ⟨pl, ltv, b', bk', pu', pr', pd'⟩ := fq_led fq hC m1' (by omega)
    obtain ⟨sg1, sg2, u, hu⟩ := _root_.EP.led_signs fq.bk fq.tv hC.sq hC.dt bk' ltv
    have sqF := fq.bk.sq
    obtain ⟨sn1, sn2⟩ := _root_.EP.neg_signs fq.bk fq.tv fq2.bk fq2.tv fun a ha c hc => _root_.EP.ngT_val sqF ha hc
    obtain ⟨d1, ln1, lo1, z1, z2⟩ := ppd_of fq.bk fq.tv m8 pr1 pd1 (by decide) (by decide)
    obtain ⟨d2, ln2, lo2, z3, z4⟩ := ppd_of bk' ltv m8 pr' pd' (by decide) (by decide)
    obtain ⟨_, ln3, _⟩ := ppd_of fq2.bk fq2.tv m8 pr2 pd2 (by decide) (by decide)
    have e5 : (upA F).a = (_root_.EP.uprF F).1 := rfl
    have e6 : (upA (_root_.EP.ledF F C)).a = (_root_.EP.uprF (_root_.EP.ledF F C)).1 := rfl
    have e7 : (upA (ngT F)).a = (_root_.EP.uprF (ngT F)).1 := rfl
    have pal : PAl (_root_.EP.uprF F).1 (_root_.EP.uprF (_root_.EP.ledF F C)).1 := by
      refine ⟨d1, d2, ⟨⟨lo1.ne, lo2.ne⟩, z1.le (by decide), z2.le (by decide), z3.le (by decide), z4.le (by decide), (z2.mul z4).le (by decide)⟩, _, _, hu, ?_, ?_⟩
      · have := Sm.fr1 (Int.mul_ne_zero lo1.ne lo2.ne) (z1.mul z3)
        have e : fr ((pdF (_root_.EP.uprF F).1).1 * (pdF (_root_.EP.uprF (_root_.EP.ledF F C)).1).1) ((pdF (_root_.EP.uprF F).1).2 * (pdF (_root_.EP.uprF (_root_.EP.ledF F C)).1).2) = _ := hu
        rw [e] at this
        exact this.le (by decide)
      · have := Sm.fr2 (t := (pdF (_root_.EP.uprF F).1).1 * (pdF (_root_.EP.uprF (_root_.EP.ledF F C)).1).1) (Int.mul_ne_zero lo1.ne lo2.ne) (z2.mul z4)
        have e : fr ((pdF (_root_.EP.uprF F).1).1 * (pdF (_root_.EP.uprF (_root_.EP.ledF F C)).1).1) ((pdF (_root_.EP.uprF F).1).2 * (pdF (_root_.EP.uprF (_root_.EP.ledF F C)).1).2) = _ := hu
        rw [e] at this
        exact this.le (by decide)
    have esg : sgF (_root_.EP.uprF (_root_.EP.ledF F C)).1 = sgF (_root_.EP.uprF F).1 := by unfold sgF; rw [sg1, sg2]
    have esn : sgF (_root_.EP.uprF (ngT F)).1 = ((sgF (_root_.EP.uprF F).1).2, (sgF (_root_.EP.uprF F).1).1) := by unfold sgF; rw [sn1, sn2]
    dsimp only
    rw [e5, e6]
    generalize hG : _root_.EP.ledF F C = G at *
    generalize (_root_.EP.uprF G).1 = N2 at *
    refine s_if1 (TW.t (tw_or (t_cmp (cv_ne (α := Int × Int) (hu60 hr)) (e_call1 c_law_signs (hr.mono (by decide)) rfl (e_var 5) (by omega)) (e_call1 c_law_signs (hr.mono (by decide)) rfl (e_var 6) (by omega))) fun _ => (tw_or1 (t_not (t_val (e_call2 (f := fun _ _ => true) c_law_alike (hr.mono (by decide)) rfl (e_var 5) (e_var 6) pal)))))) (fun hc => ?_) (fun _ => ?_)
    · exfalso
      rw [esg] at hc
      simp at hc
    have eng : (F.map fun r : List Fr => r.map fun u : Fr => (-u.1, u.2)) = ngT F := rfl
    have lFn : F.length = m := sqF.len
    refine s_comp (b' := true) (f := fun r : List Fr => r.map fun u : Fr => (-u.1, u.2)) 7 sc_law.nd ["_law_row"] [] (cscope (defScope s_law) N_law rfl rfl (by decide +kernel)) (ei_list (e_var 4)) (gp_name 0) (fun C s H fp => pg_cn 0 ["_law_row"]) lt_of_eq (fun k r hr' C s H fp => e_comp (b' := true) (f := fun u : Fr => (-u.1, u.2)) ["_law_number"] [] (cscope2 ["_law_row"] rfl (by decide +kernel)) (ei_list (e_var 0)) (gp_name 0) (fun C s H fp => pg_cn 0 ["_law_number"]) lt_of_eq (fun k u hu C s H fp => e_tup2 (b1 := true) (b2 := true) (e_neg (e_fst (e_var 0))) (e_up (b' := true) (e_snd (e_var 0)))) (by rw [sqF.row r (mem_at hr')]; omega)) (by omega) ?_
    rw [eng]
    refine s_asg2 8 9 sc_law.nd (e_call1 c_law_signs (hr.mono (by decide)) rfl (e_var 5) (by omega)) ?_
    refine s_if1 (t_cmp (cv_ne (α := Int × Int) (hu60 hr)) (e_call1 c_law_signs (hr.mono (by decide)) rfl (e_fst (e_ap (e_call1 c_upright (hr.mono (by decide)) rfl (e_var 7) pu2))) (by show ((upA (ngT F)).a).length ≤ 8; rw [e7]; omega)) (e_tup2 (b1 := true) (b2 := true) (e_var 9) (e_var 8))) (fun hc => ?_) (fun _ => ?_)
    · exfalso
      have : sgF (upA (ngT F)).a = ((sgF (_root_.EP.uprF F).1).2, (sgF (_root_.EP.uprF F).1).1) := by rw [e7]; exact esn
      have hc' : (!decide (sgF (upA (ngT F)).a = ((sgF (_root_.EP.uprF F).1).2, (sgF (_root_.EP.uprF F).1).1))) = true := hc
      rw [this] at hc'
      simp at hc'
    · exact s_nil ⟨_, _, _, _, _, _, _, _, _, rfl⟩
  · rintro Γ' ⟨r1, r2, r3, r4, r5, r6, r7, r8, r9, rfl⟩
    exact s_ret e_bl rfl

end
end L2.EP.K

namespace L2.EP.K
open PySem PySem.Spec PyProof.Rows
open _root_.EP (fr fd)
open _root_.EP (Fr Tb Low Sq rng plL plT colm tov lcmB oob dotI sop dotF prd lsum lprd fadd fmul)
open _root_.EP (Rw ent2 fwN exF crF stF clL clF bnd fct Gd Vc Bk)
open _root_.EP (exL wsF npF uxF rows0 bots0 row0 Rc)
open _root_.EP (adF adB adR Wa)
open _root_.EP (tuL slF Ul Uz Zb r2 b2 Tf)
open _root_.EP (uprF upN upC tuF)
open _root_.EP (atv)
open _root_.EP (setIJ zeT AllT Sym)
open _root_.EP (ent Tf Ov Ot)
open _root_.EP (Rv Cv Cf posC negC pdF piN Rb Fb ngT ofR)
set_option maxHeartbeats 0 in
theorem fin {lp : Program} {w : World} {K : PySem.W.Frag} {h : Heap} {mg : Str → Option Value} {fa : Addr} (X : K.In h) (G : h.Ns mainGlobals mg) (hfa : mg "law" = some (.ref fa)) (B : Bu mg)
     (d_common_divisor : Df K "common_divisor" s_common_divisor) (d_fraction : Df K "fraction" s_fraction) (d_plain_list : Df K "plain_list" s_plain_list) (d_column : Df K "column" s_column) (d_turned_over : Df K "turned_over" s_turned_over) (d_sum_of_products : Df K "sum_of_products" s_sum_of_products) (d_sums_with : Df K "sums_with" s_sums_with) (d_common_bottom : Df K "common_bottom" s_common_bottom) (d_over_one_bottom : Df K "over_one_bottom" s_over_one_bottom) (d_exchanged : Df K "exchanged" s_exchanged) (d_cleared_row : Df K "cleared_row" s_cleared_row) (d_quotients : Df K "quotients" s_quotients) (d_product : Df K "product" s_product) (d_led : Df K "led" s_led) (d_opened : Df K "opened" s_opened) (d_with_sum : Df K "with_sum" s_with_sum) (d_unknowns_exchanged : Df K "unknowns_exchanged" s_unknowns_exchanged) (d_added : Df K "added" s_added) (d_next_places : Df K "next_places" s_next_places) (d_turned : Df K "turned" s_turned) (d_upright : Df K "upright" s_upright) (d_law_big : Df K "_law_big" s_law_big) (d_law_low : Df K "_law_low" s_law_low) (d_law_plus : Df K "_law_plus" s_law_plus) (d_law_times : Df K "_law_times" s_law_times) (d_law_drawn : Df K "_law_drawn" s_law_drawn) (d_law_narrowed : Df K "_law_narrowed" s_law_narrowed) (d_law_product : Df K "_law_product" s_law_product) (d_law_plain : Df K "_law_plain" s_law_plain) (d_law_form : Df K "_law_form" s_law_form) (d_law_poor : Df K "_law_poor" s_law_poor) (d_law_change : Df K "_law_change" s_law_change) (d_law_root : Df K "_law_root" s_law_root) (d_law_signs : Df K "_law_signs" s_law_signs) (d_law_product_of : Df K "_law_product_of" s_law_product_of) (d_law_alike : Df K "_law_alike" s_law_alike) (d_law : Df K "law" s_law) :
    ∃ fd : FuncData, (∀ (s : Shared) (u : Value), BindsTo s fd ⟨[u], []⟩ [("_law_script", u)]) ∧ ∀ base : Heap, K.In base → base.Ns mainGlobals mg → FnOk lp w K mg base CX0 7 fa fd ["_law_script"] (spLaw K) := by
  refine law_end d_law X G hfa (fun _ _ _ _ _ _ s u => .of_eq rfl) fun base _ _ f fd F => ?_
  have c_common_divisor : Cal lp w K mg base 1 "common_divisor" ["a", "b"] (sp2 K (fun _ _ => True) true fun a b => ((Int.gcd a b : Nat) : Int)) := d_common_divisor.cal X G (fun _ _ _ _ _ _ us hl => match us, hl with | [_, _], _ => rfl) fun f fd F => fn2 F sc_common_divisor rfl fun a c _ => b_common_divisor B a c
  have c_fraction : Cal lp w K mg base 2 "fraction" ["top", "bottom"] (sp2 K PFr true fr) := d_fraction.cal X G (fun _ _ _ _ _ _ us hl => match us, hl with | [_, _], _ => rfl) fun f fd F => fn2 F sc_fraction rfl fun a c hp => b_fraction c_common_divisor a c hp.1 hp.2
  have c_plain_list : Cal lp w K mg base 1 "plain_list" ["n", "place"] (sp2 K (fun n (_ : Int) => (0 : Int) ≤ n ∧ n ≤ 8) true plLz) := d_plain_list.cal X G (fun _ _ _ _ _ _ us hl => match us, hl with | [_, _], _ => rfl) fun f fd F => fn2 F sc_plain_list rfl fun n i hp => b_plain_list B n i hp.1 hp.2
  have c_column : Cal lp w K mg base 1 "column" ["T", "j"] (sp2 K (fun (T : Tb) (j : Int) => T.length ≤ 8 ∧ 0 ≤ j ∧ ∀ r ∈ T, j < (r.length : Int)) true colm) := d_column.cal X G (fun _ _ _ _ _ _ us hl => match us, hl with | [_, _], _ => rfl) fun f fd F => fn2 F sc_column rfl fun T j hp => b_column T j hp.1 hp.2.1 hp.2.2
  have c_turned_over : Cal lp w K mg base 2 "turned_over" ["T"] (sp1 K PTv true tov) := d_turned_over.cal X G (fun _ _ _ _ _ _ us hl => match us, hl with | [_], _ => rfl) fun f fd F => fn1 F sc_turned_over rfl fun T hp => b_turned_over B c_column T hp
  have c_sum_of_products : Cal lp w K mg base 3 "sum_of_products" ["one", "other"] (sp2 K (fun a b => POb a ∧ POb b) true sop) := d_sum_of_products.cal X G (fun _ _ _ _ _ _ us hl => match us, hl with | [_, _], _ => rfl) fun f fd F => fn2 F sc_sum_of_products rfl fun a b h => b_sum_of_products B c_fraction a b h.1 h.2
  have c_sums_with : Cal lp w K mg base 4 "sums_with" ["one", "others"] (sp2 K (fun (a : List Int × Int) (bs : List (List Int × Int)) => POb a ∧ bs.length ≤ 8 ∧ ∀ b ∈ bs, POb b) true swi) := d_sums_with.cal X G (fun _ _ _ _ _ _ us hl => match us, hl with | [_, _], _ => rfl) fun f fd F => fn2 F sc_sums_with rfl fun a b h => b_sums_with c_sum_of_products a b h.1 h.2.1 h.2.2
  have c_common_bottom : Cal lp w K mg base 2 "common_bottom" ["numbers"] (sp1 K PRw true lcmB) := d_common_bottom.cal X G (fun _ _ _ _ _ _ us hl => match us, hl with | [_], _ => rfl) fun f fd F => fn1 F sc_common_bottom rfl fun us h => b_common_bottom c_common_divisor us h
  have c_over_one_bottom : Cal lp w K mg base 3 "over_one_bottom" ["numbers"] (sp1 K PRw true oob) := d_over_one_bottom.cal X G (fun _ _ _ _ _ _ us hl => match us, hl with | [_], _ => rfl) fun f fd F => fn1 F sc_over_one_bottom rfl fun us h => b_over_one_bottom c_common_bottom us h
  have c_exchanged : Cal lp w K mg base 1 "exchanged" ["rows", "i", "j"] (sp3 K PEx false exI) := d_exchanged.cal X G (fun _ _ _ _ _ _ us hl => match us, hl with | [_, _, _], _ => rfl) fun f fd F => fn3 F sc_exchanged rfl fun a c d h => b_exchanged B a c d h
  have c_cleared_row : Cal lp w K mg base 1 "cleared_row" ["row", "taken", "k", "before"] (sp4 K PCr true crI) := d_cleared_row.cal X G (fun _ _ _ _ _ _ us hl => match us, hl with | [_, _, _, _], _ => rfl) fun f fd F => fn4 F sc_cleared_row rfl fun a c d e h => b_cleared_row B a c d e h
  have c_quotients : Cal lp w K mg base 3 "quotients" ["tops", "bottom"] (sp2 K PQu true _root_.EP.quF) := d_quotients.cal X G (fun _ _ _ _ _ _ us hl => match us, hl with | [_, _], _ => rfl) fun f fd F => fn2 F sc_quotients rfl fun a c h => b_quotients c_fraction a c h
  have c_product : Cal lp w K mg base 5 "product" ["one", "other"] (sp2 K (fun (A B : Tb) => ∃ n, PTb n A ∧ PTb n B) true prd) := d_product.cal X G (fun _ _ _ _ _ _ us hl => match us, hl with | [_, _], _ => rfl) fun f fd F => fn2 F sc_product rfl fun A B h => h.elim fun n h => b_product c_turned_over c_over_one_bottom c_sums_with n A B h.1 h.2
  have c_led : Cal lp w K mg base 6 "led" ["F", "T"] (sp2 K PLd true _root_.EP.ledF) := d_led.cal X G (fun _ _ _ _ _ _ us hl => match us, hl with | [_, _], _ => rfl) fun f fd F => fn2 F sc_led rfl fun F T hp => b_led c_turned_over c_product F T hp
  have c_exchanged2 : Cal lp w K mg base 1 "exchanged" ["rows", "i", "j"] (sp3 K PEx2 false exLz) := d_exchanged.cal X G (fun _ _ _ _ _ _ us hl => match us, hl with | [_, _, _], _ => rfl) fun f fd F => fn3 F sc_exchanged rfl fun a c d h => b_exchanged2 B a c d h
  have c_opened : Cal lp w K mg base 4 "opened" ["F"] (sp1 K PBk true opF) := d_opened.cal X G (fun _ _ _ _ _ _ us hl => match us, hl with | [_], _ => rfl) fun f fd F => fn1 F sc_opened rfl fun T hp => b_opened B c_plain_list c_over_one_bottom T hp
  have c_with_sum : Cal lp w K mg base 1 "with_sum" ["numbers", "i", "j"] (sp3 K PEx2 true wsI) := d_with_sum.cal X G (fun _ _ _ _ _ _ us hl => match us, hl with | [_, _, _], _ => rfl) fun f fd F => fn3 F sc_with_sum rfl fun a c d h => b_with_sum B a c d h
  have c_unknowns_exchanged : Cal lp w K mg base 2 "unknowns_exchanged" ["rows", "i", "j"] (sp3 K PUx false uxI) := d_unknowns_exchanged.cal X G (fun _ _ _ _ _ _ us hl => match us, hl with | [_, _, _], _ => rfl) fun f fd F => fn3 F sc_unknowns_exchanged rfl fun a c d h => b_unknowns_exchanged c_exchanged c_exchanged2 a c d h
  have c_added : Cal lp w K mg base 2 "added" ["rows", "bottoms", "i", "j"] (sp4 K PAd true adI) := d_added.cal X G (fun _ _ _ _ _ _ us hl => match us, hl with | [_, _, _, _], _ => rfl) fun f fd F => fn4 F sc_added rfl fun a c d e h => b_added B c_with_sum a c d e h
  have c_next_places : Cal lp w K mg base 1 "next_places" ["rows", "k"] (sp2 K PNp true npI) := d_next_places.cal X G (fun _ _ _ _ _ _ us hl => match us, hl with | [_, _], _ => rfl) fun f fd F => fn2 F sc_next_places rfl fun a c hp => b_next_places B a c hp
  have c_turned : Cal lp w K mg base 3 "turned" ["rows", "bottoms"] (sp2 K PTu false tuI) := d_turned.cal X G (fun _ _ _ _ _ _ us hl => match us, hl with | [_, _], _ => rfl) fun f fd F => fn2 F sc_turned rfl fun a c hp => b_turned B c_exchanged2 c_cleared_row c_next_places c_added c_unknowns_exchanged a c hp
  have c_upright : Cal lp w K mg base 5 "upright" ["F"] (sp1 K PUp true upA) := d_upright.cal X G (fun _ _ _ _ _ _ us hl => match us, hl with | [_], _ => rfl) fun f fd F => fn1 F sc_upright rfl fun T hp => b_upright B c_fraction c_turned_over c_quotients c_opened c_turned T hp
  have c_law_big : Cal lp w K mg base 1 "_law_big" ["_law_script", "_law_k"] (sp2 K (fun _ k => 0 ≤ k ∧ k ≤ 100) true big) := d_law_big.cal X G (fun _ _ _ _ _ _ us hl => match us, hl with | [_, _], _ => rfl) fun f fd F => fn2 F sc_law_big rfl fun a c hp => b_law_big B a c hp.1 hp.2
  have c_law_low : Cal lp w K mg base 1 "_law_low" ["_law_top", "_law_bottom"] (sp2 K PFr true fr) := d_law_low.cal X G (fun _ _ _ _ _ _ us hl => match us, hl with | [_, _], _ => rfl) fun f fd F => fn2 F sc_law_low rfl fun a c hp => b_law_low B a c hp.1 hp.2
  have c_law_plus : Cal lp w K mg base 2 "_law_plus" ["_law_u", "_law_v"] (sp2 K LAdd true fadd) := d_law_plus.cal X G (fun _ _ _ _ _ _ us hl => match us, hl with | [_, _], _ => rfl) fun f fd F => fn2 F sc_law_plus rfl fun u v hp => b_law_plus c_law_low u v hp
  have c_law_times : Cal lp w K mg base 2 "_law_times" ["_law_u", "_law_v"] (sp2 K LMu true fmul) := d_law_times.cal X G (fun _ _ _ _ _ _ us hl => match us, hl with | [_, _], _ => rfl) fun f fd F => fn2 F sc_law_times rfl fun u v hp => b_law_times c_law_low u v hp
  have c_law_drawn : Cal lp w K mg base 2 "_law_drawn" ["_law_rest"] (sp1 K (fun _ => True) true drawn) := d_law_drawn.cal X G (fun _ _ _ _ _ _ us hl => match us, hl with | [_], _ => rfl) fun f fd F => fn1 F sc_law_drawn rfl fun c _ => b_law_drawn c_law_low c
  have c_law_narrowed : Cal lp w K mg base 2 "_law_narrowed" ["_law_number", "_law_wide"] (sp2 K (fun (_ : Fr) (_ : Int) => True) true narrowed) := d_law_narrowed.cal X G (fun _ _ _ _ _ _ us hl => match us, hl with | [_, _], _ => rfl) fun f fd F => fn2 F sc_law_narrowed rfl fun u v _ => b_law_narrowed c_law_low u v
  have c_law_product : Cal lp w K mg base 3 "_law_product" ["_law_one", "_law_other"] (sp2 K PPr true lprd) := d_law_product.cal X G (fun _ _ _ _ _ _ us hl => match us, hl with | [_, _], _ => rfl) fun f fd F => fn2 F sc_law_product rfl fun A B' hp => b_law_product B c_law_plus (c_law_times.imp2 lmu_of) A B' hp
  have c_law_plain : Cal lp w K mg base 1 "_law_plain" ["_law_n"] (sp1 K (fun n => (0 : Int) ≤ n ∧ n ≤ 8) true plTO) := d_law_plain.cal X G (fun _ _ _ _ _ _ us hl => match us, hl with | [_], _ => rfl) fun f fd F => fn1 F sc_law_plain rfl fun n hp => b_law_plain B n hp.1 hp.2
  have c_law_form : Cal lp w K mg base 3 "_law_form" ["_law_n", "_law_rest", "_law_wide"] (sp3 K (fun (n _ _ : Int) => 0 ≤ n ∧ n ≤ 8) true lawForm) := d_law_form.cal X G (fun _ _ _ _ _ _ us hl => match us, hl with | [_, _, _], _ => rfl) fun f fd F => fn3 F sc_law_form rfl fun n c v hp => b_law_form B c_law_low c_law_drawn c_law_narrowed n c v hp.1 hp.2
  have c_law_poor : Cal lp w K mg base 1 "_law_poor" ["_law_form_here", "_law_rest"] (sp2 K (fun (T : Tb) (_ : Int) => ∃ n, AllT n EOk T ∧ 1 ≤ n ∧ n ≤ 8) true poorF) := d_law_poor.cal X G (fun _ _ _ _ _ _ us hl => match us, hl with | [_, _], _ => rfl) fun f fd F => fn2 F sc_law_poor rfl fun T c hp => hp.elim fun n h => b_law_poor B T c n h.1 h.2.1 h.2.2
  have c_law_change : Cal lp w K mg base 4 "_law_change" ["_law_n", "_law_rest"] (sp2 K (fun (n _ : Int) => 0 ≤ n ∧ n ≤ 6) true chF) := d_law_change.cal X G (fun _ _ _ _ _ _ us hl => match us, hl with | [_, _], _ => rfl) fun f fd F => fn2 F sc_law_change rfl fun n c hp => b_law_change B c_law_low c_law_product c_law_plain n c hp.1 hp.2
  have c_law_root : Cal lp w K mg base 1 "_law_root" ["_law_number"] (sp1 K (fun k => 0 ≤ k ∧ Sm 20000 k) true _root_.EP.rt) := d_law_root.cal X G (fun _ _ _ _ _ _ us hl => match us, hl with | [_], _ => rfl) fun f fd F => fn1 F sc_law_root rfl fun a hp => b_law_root a hp.1 hp.2
  have c_law_signs : Cal lp w K mg base 1 "_law_signs" ["_law_numbers"] (sp1 K (fun (us : List Fr) => us.length ≤ 8) true sgF) := d_law_signs.cal X G (fun _ _ _ _ _ _ us hl => match us, hl with | [_], _ => rfl) fun f fd F => fn1 F sc_law_signs rfl fun us hp => b_law_signs B us hp
  have c_law_product_of : Cal lp w K mg base 3 "_law_product_of" ["_law_numbers"] (sp1 K PPd true pdF) := d_law_product_of.cal X G (fun _ _ _ _ _ _ us hl => match us, hl with | [_], _ => rfl) fun f fd F => fn1 F sc_law_product_of rfl fun us hp => b_law_product_of c_law_times us hp
  have c_law_alike : Cal lp w K mg base 4 "_law_alike" ["_law_one", "_law_other"] (sp2 K PAl true (fun _ _ => true)) := d_law_alike.cal X G (fun _ _ _ _ _ _ us hl => match us, hl with | [_, _], _ => rfl) fun f fd F => fn2 F sc_law_alike rfl fun a b hp => b_law_alike c_law_times c_law_root c_law_product_of a b hp
  exact fn1 F sc_law rfl fun a hp => b_law B c_upright c_led c_law_big c_law_form c_law_poor c_law_change c_law_signs c_law_alike a hp
end L2.EP.K
open PySem PySem.W PyProof.Rows
set_option maxRecDepth 100000 in
set_option maxHeartbeats 0 in
theorem PySem.Challenge.cw_everyplace_k12_signs_are_kept_holds : PySem.Challenge.rw_everyplace_k12_signs_are_kept.Holds := by
  w_on; o_law; k_head; (case hw => w_witness2)
  k_fill
  refine L2.walk_ofK (l := PySem.Challenge.rw_everyplace_k12_signs_are_kept) (n := 63) (k := 7) (x := "_law_script") (CX := L2.CX0) (sp := L2.EP.spLaw) rfl (by decide) rfl ⟨rfl, by decide, by decide⟩ (fun w h Y => PySem.W.kIn_of Y) ?F ?S ?C
  case F =>
    intro w mg fa h KX G hmg
    have B : L2.EP.Bu mg := by
      refine' L2.EP.bu_mk (K := L2.KOf KX) KX G ?z1 ?z2 ?z3 ?z4 ?z5 ?z6 ?z7 ?z8 ?z9 ?z10 ?z11 ?z12 ?z13 ?z14 ?z15 ?z16 ?z17 ?z18 ?z19
      all_goals (dsimp only [L2.KOf]; k_is)
    have d_common_divisor : L2.EP.Df (L2.KOf KX) "common_divisor" L2.EP.K.s_common_divisor := by
      dsimp only [L2.KOf]
      refine' L2.EP.Df.mk ?a ?l ?c ?k
      (case a => k_is); (case l => k_is); (case c => k_is); (case k => k_is)
    have d_fraction : L2.EP.Df (L2.KOf KX) "fraction" L2.EP.K.s_fraction := by
      dsimp only [L2.KOf]
      refine' L2.EP.Df.mk ?a ?l ?c ?k
      (case a => k_is); (case l => k_is); (case c => k_is); (case k => k_is)
    have d_plain_list : L2.EP.Df (L2.KOf KX) "plain_list" L2.EP.K.s_plain_list := by
      dsimp only [L2.KOf]
      refine' L2.EP.Df.mk ?a ?l ?c ?k
      (case a => k_is); (case l => k_is); (case c => k_is); (case k => k_is)
    have d_column : L2.EP.Df (L2.KOf KX) "column" L2.EP.K.s_column := by
      dsimp only [L2.KOf]
      refine' L2.EP.Df.mk ?a ?l ?c ?k
      (case a => k_is); (case l => k_is); (case c => k_is); (case k => k_is)
    have d_turned_over : L2.EP.Df (L2.KOf KX) "turned_over" L2.EP.K.s_turned_over := by
      dsimp only [L2.KOf]
      refine' L2.EP.Df.mk ?a ?l ?c ?k
      (case a => k_is); (case l => k_is); (case c => k_is); (case k => k_is)
    have d_sum_of_products : L2.EP.Df (L2.KOf KX) "sum_of_products" L2.EP.K.s_sum_of_products := by
      dsimp only [L2.KOf]
      refine' L2.EP.Df.mk ?a ?l ?c ?k
      (case a => k_is); (case l => k_is); (case c => k_is); (case k => k_is)
    have d_sums_with : L2.EP.Df (L2.KOf KX) "sums_with" L2.EP.K.s_sums_with := by
      dsimp only [L2.KOf]
      refine' L2.EP.Df.mk ?a ?l ?c ?k
      (case a => k_is); (case l => k_is); (case c => k_is); (case k => k_is)
    have d_common_bottom : L2.EP.Df (L2.KOf KX) "common_bottom" L2.EP.K.s_common_bottom := by
      dsimp only [L2.KOf]
      refine' L2.EP.Df.mk ?a ?l ?c ?k
      (case a => k_is); (case l => k_is); (case c => k_is); (case k => k_is)
    have d_over_one_bottom : L2.EP.Df (L2.KOf KX) "over_one_bottom" L2.EP.K.s_over_one_bottom := by
      dsimp only [L2.KOf]
      refine' L2.EP.Df.mk ?a ?l ?c ?k
      (case a => k_is); (case l => k_is); (case c => k_is); (case k => k_is)
    have d_exchanged : L2.EP.Df (L2.KOf KX) "exchanged" L2.EP.K.s_exchanged := by
      dsimp only [L2.KOf]
      refine' L2.EP.Df.mk ?a ?l ?c ?k
      (case a => k_is); (case l => k_is); (case c => k_is); (case k => k_is)
    have d_cleared_row : L2.EP.Df (L2.KOf KX) "cleared_row" L2.EP.K.s_cleared_row := by
      dsimp only [L2.KOf]
      refine' L2.EP.Df.mk ?a ?l ?c ?k
      (case a => k_is); (case l => k_is); (case c => k_is); (case k => k_is)
    have d_quotients : L2.EP.Df (L2.KOf KX) "quotients" L2.EP.K.s_quotients := by
      dsimp only [L2.KOf]
      refine' L2.EP.Df.mk ?a ?l ?c ?k
      (case a => k_is); (case l => k_is); (case c => k_is); (case k => k_is)
    have d_product : L2.EP.Df (L2.KOf KX) "product" L2.EP.K.s_product := by
      dsimp only [L2.KOf]
      refine' L2.EP.Df.mk ?a ?l ?c ?k
      (case a => k_is); (case l => k_is); (case c => k_is); (case k => k_is)
    have d_led : L2.EP.Df (L2.KOf KX) "led" L2.EP.K.s_led := by
      dsimp only [L2.KOf]
      refine' L2.EP.Df.mk ?a ?l ?c ?k
      (case a => k_is); (case l => k_is); (case c => k_is); (case k => k_is)
    have d_opened : L2.EP.Df (L2.KOf KX) "opened" L2.EP.K.s_opened := by
      dsimp only [L2.KOf]
      refine' L2.EP.Df.mk ?a ?l ?c ?k
      (case a => k_is); (case l => k_is); (case c => k_is); (case k => k_is)
    have d_with_sum : L2.EP.Df (L2.KOf KX) "with_sum" L2.EP.K.s_with_sum := by
      dsimp only [L2.KOf]
      refine' L2.EP.Df.mk ?a ?l ?c ?k
      (case a => k_is); (case l => k_is); (case c => k_is); (case k => k_is)
    have d_unknowns_exchanged : L2.EP.Df (L2.KOf KX) "unknowns_exchanged" L2.EP.K.s_unknowns_exchanged := by
      dsimp only [L2.KOf]
      refine' L2.EP.Df.mk ?a ?l ?c ?k
      (case a => k_is); (case l => k_is); (case c => k_is); (case k => k_is)
    have d_added : L2.EP.Df (L2.KOf KX) "added" L2.EP.K.s_added := by
      dsimp only [L2.KOf]
      refine' L2.EP.Df.mk ?a ?l ?c ?k
      (case a => k_is); (case l => k_is); (case c => k_is); (case k => k_is)
    have d_next_places : L2.EP.Df (L2.KOf KX) "next_places" L2.EP.K.s_next_places := by
      dsimp only [L2.KOf]
      refine' L2.EP.Df.mk ?a ?l ?c ?k
      (case a => k_is); (case l => k_is); (case c => k_is); (case k => k_is)
    have d_turned : L2.EP.Df (L2.KOf KX) "turned" L2.EP.K.s_turned := by
      dsimp only [L2.KOf]
      refine' L2.EP.Df.mk ?a ?l ?c ?k
      (case a => k_is); (case l => k_is); (case c => k_is); (case k => k_is)
    have d_upright : L2.EP.Df (L2.KOf KX) "upright" L2.EP.K.s_upright := by
      dsimp only [L2.KOf]
      refine' L2.EP.Df.mk ?a ?l ?c ?k
      (case a => k_is); (case l => k_is); (case c => k_is); (case k => k_is)
    have d_law_big : L2.EP.Df (L2.KOf KX) "_law_big" L2.EP.K.s_law_big := by
      dsimp only [L2.KOf]
      refine' L2.EP.Df.mk ?a ?l ?c ?k
      (case a => k_is); (case l => k_is); (case c => k_is); (case k => k_is)
    have d_law_low : L2.EP.Df (L2.KOf KX) "_law_low" L2.EP.K.s_law_low := by
      dsimp only [L2.KOf]
      refine' L2.EP.Df.mk ?a ?l ?c ?k
      (case a => k_is); (case l => k_is); (case c => k_is); (case k => k_is)
    have d_law_plus : L2.EP.Df (L2.KOf KX) "_law_plus" L2.EP.K.s_law_plus := by
      dsimp only [L2.KOf]
      refine' L2.EP.Df.mk ?a ?l ?c ?k
      (case a => k_is); (case l => k_is); (case c => k_is); (case k => k_is)
    have d_law_times : L2.EP.Df (L2.KOf KX) "_law_times" L2.EP.K.s_law_times := by
      dsimp only [L2.KOf]
      refine' L2.EP.Df.mk ?a ?l ?c ?k
      (case a => k_is); (case l => k_is); (case c => k_is); (case k => k_is)
    have d_law_drawn : L2.EP.Df (L2.KOf KX) "_law_drawn" L2.EP.K.s_law_drawn := by
      dsimp only [L2.KOf]
      refine' L2.EP.Df.mk ?a ?l ?c ?k
      (case a => k_is); (case l => k_is); (case c => k_is); (case k => k_is)
    have d_law_narrowed : L2.EP.Df (L2.KOf KX) "_law_narrowed" L2.EP.K.s_law_narrowed := by
      dsimp only [L2.KOf]
      refine' L2.EP.Df.mk ?a ?l ?c ?k
      (case a => k_is); (case l => k_is); (case c => k_is); (case k => k_is)
    have d_law_product : L2.EP.Df (L2.KOf KX) "_law_product" L2.EP.K.s_law_product := by
      dsimp only [L2.KOf]
      refine' L2.EP.Df.mk ?a ?l ?c ?k
      (case a => k_is); (case l => k_is); (case c => k_is); (case k => k_is)
    have d_law_plain : L2.EP.Df (L2.KOf KX) "_law_plain" L2.EP.K.s_law_plain := by
      dsimp only [L2.KOf]
      refine' L2.EP.Df.mk ?a ?l ?c ?k
      (case a => k_is); (case l => k_is); (case c => k_is); (case k => k_is)
    have d_law_form : L2.EP.Df (L2.KOf KX) "_law_form" L2.EP.K.s_law_form := by
      dsimp only [L2.KOf]
      refine' L2.EP.Df.mk ?a ?l ?c ?k
      (case a => k_is); (case l => k_is); (case c => k_is); (case k => k_is)
    have d_law_poor : L2.EP.Df (L2.KOf KX) "_law_poor" L2.EP.K.s_law_poor := by
      dsimp only [L2.KOf]
      refine' L2.EP.Df.mk ?a ?l ?c ?k
      (case a => k_is); (case l => k_is); (case c => k_is); (case k => k_is)
    have d_law_change : L2.EP.Df (L2.KOf KX) "_law_change" L2.EP.K.s_law_change := by
      dsimp only [L2.KOf]
      refine' L2.EP.Df.mk ?a ?l ?c ?k
      (case a => k_is); (case l => k_is); (case c => k_is); (case k => k_is)
    have d_law_root : L2.EP.Df (L2.KOf KX) "_law_root" L2.EP.K.s_law_root := by
      dsimp only [L2.KOf]
      refine' L2.EP.Df.mk ?a ?l ?c ?k
      (case a => k_is); (case l => k_is); (case c => k_is); (case k => k_is)
    have d_law_signs : L2.EP.Df (L2.KOf KX) "_law_signs" L2.EP.K.s_law_signs := by
      dsimp only [L2.KOf]
      refine' L2.EP.Df.mk ?a ?l ?c ?k
      (case a => k_is); (case l => k_is); (case c => k_is); (case k => k_is)
    have d_law_product_of : L2.EP.Df (L2.KOf KX) "_law_product_of" L2.EP.K.s_law_product_of := by
      dsimp only [L2.KOf]
      refine' L2.EP.Df.mk ?a ?l ?c ?k
      (case a => k_is); (case l => k_is); (case c => k_is); (case k => k_is)
    have d_law_alike : L2.EP.Df (L2.KOf KX) "_law_alike" L2.EP.K.s_law_alike := by
      dsimp only [L2.KOf]
      refine' L2.EP.Df.mk ?a ?l ?c ?k
      (case a => k_is); (case l => k_is); (case c => k_is); (case k => k_is)
    have d_law : L2.EP.Df (L2.KOf KX) "law" L2.EP.K.s_law := by
      dsimp only [L2.KOf]
      refine' L2.EP.Df.mk ?a ?l ?c ?k
      (case a => k_is); (case l => k_is); (case c => k_is); (case k => k_is)
    exact L2.EP.K.fin KX G hmg B  d_common_divisor d_fraction d_plain_list d_column d_turned_over d_sum_of_products d_sums_with d_common_bottom d_over_one_bottom d_exchanged d_cleared_row d_quotients d_product d_led d_opened d_with_sum d_unknowns_exchanged d_added d_next_places d_turned d_upright d_law_big d_law_low d_law_plus d_law_times d_law_drawn d_law_narrowed d_law_product d_law_plain d_law_form d_law_poor d_law_change d_law_root d_law_signs d_law_product_of d_law_alike d_law
  case S => exact fun K H a ns hl hO hS => L2.EP.law_start K H a ns hl hS
  case C => exact fun _ _ _ _ z => z

