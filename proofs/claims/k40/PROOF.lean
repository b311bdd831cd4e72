import PyProof.Rows.All
import Wide.All
import OpenK.AllK
import Wide.FinOn
import Lean
import PyProof.EqAt
import PyProof.EqKinds
import PyProof.TupleCall
import PyProof.NeData
import PyProof.P3Eq
import PySem.Challenge.RW_everyplace_k40_lines_and_points
set_option Elab.async false
set_option linter.all false
set_option maxRecDepth 100000
namespace L2
open PySem PySem.Spec PyProof.Rows

abbrev Key := Sum Int Str
def keyIs : Key → Value → Bool
  | .inl k, v => Value.isInt k v
  | .inr x, v => Value.isStrOf x v
def keyH (w : World) : Key → Int
  | .inl k => hashInt k
  | .inr x => hashStr w x
theorem keyIs_shape : ∀ {k : Key} {v : Value}, keyIs k v = true → (∃ i t, k = Sum.inl i ∧ v = Value.int i t) ∨ (∃ x t, k = Sum.inr x ∧ v = Value.str x t)
  | .inl i, v, h => by
    obtain ⟨t, e⟩ := Value.isInt_shape (k := i) (v := v) h
    exact .inl ⟨i, t, rfl, e⟩
  | .inr x, v, h => by
    obtain ⟨t, e⟩ := Value.isStrOf_shape (x := x) (v := v) h
    exact .inr ⟨x, t, rfl, e⟩
theorem keyIs_int (i : Int) (t : Tok) : keyIs (.inl i) (.int i t) = true := by simp [keyIs, Value.isInt]
theorem keyIs_str (x : Str) (t : Tok) : keyIs (.inr x) (.str x t) = true := by simp [keyIs, Value.isStrOf]
theorem key_ll (a b : Int) : decide ((Sum.inl a : Key) = Sum.inl b) = (a == b) := by
  by_cases e : a = b
  · subst e; simp
  · have h : ¬ (Sum.inl a : Key) = Sum.inl b := fun q => e (Sum.inl.inj q)
    rw [decide_eq_false h]
    exact (beq_eq_false_iff_ne.mpr e).symm
theorem key_rr (a b : Str) : decide ((Sum.inr a : Key) = Sum.inr b) = decide (a = b) := by
  by_cases e : a = b
  · subst e; simp
  · have h : ¬ (Sum.inr a : Key) = Sum.inr b := fun q => e (Sum.inr.inj q)
    rw [decide_eq_false h, decide_eq_false e]
theorem key_lr (a : Int) (b : Str) : decide ((Sum.inl a : Key) = Sum.inr b) = false := decide_eq_false (fun q => nomatch q)
theorem key_rl (a : Str) (b : Int) : decide ((Sum.inr a : Key) = Sum.inl b) = false := decide_eq_false (fun q => nomatch q)

def mixKind (prog : Program) (w : World) : PySem.KeyKind prog w Key where
  is := keyIs
  hash := keyH w
  inj := fun v a b ha hb => by
    rcases keyIs_shape ha with ⟨i, t, rfl, rfl⟩ | ⟨x, t, rfl, rfl⟩
    · rcases keyIs_shape hb with ⟨j, u, rfl, e⟩ | ⟨y, u, rfl, e⟩
      · injection e with e1 _; rw [e1]
      · exact nomatch e
    · rcases keyIs_shape hb with ⟨j, u, rfl, e⟩ | ⟨y, u, rfl, e⟩
      · exact nomatch e
      · injection e with e1 _; rw [e1]
  byValue := fun k v h => by
    rcases keyIs_shape h with ⟨i, t, rfl, rfl⟩ | ⟨x, t, rfl, rfl⟩ <;> rfl
  pyHash := fun hv h => by
    rcases keyIs_shape hv with ⟨i, t, rfl, rfl⟩ | ⟨x, t, rfl, rfl⟩
    · exact wpAny_pyHash_int h
    · exact wpAny_pyHash_str h
  eqBool := fun hu hv h => by
    rcases keyIs_shape hu with ⟨i, t, rfl, rfl⟩ | ⟨x, t, rfl, rfl⟩
    · rcases keyIs_shape hv with ⟨j, u, rfl, rfl⟩ | ⟨y, u, rfl, rfl⟩
      · rw [key_ll] at h; exact wpAny_eqBool_int h
      · rw [key_lr] at h; exact SeqAt.EqAt.int_str i t y u _ _ _ _ h
    · rcases keyIs_shape hv with ⟨j, u, rfl, rfl⟩ | ⟨y, u, rfl, rfl⟩
      · rw [key_rl] at h; exact SeqAt.EqAt.str_int x t j u _ _ _ _ h
      · rw [key_rr] at h; exact wpAny_eqBool_str h
  «strs» := fun k x t v h => by
    rcases keyIs_shape h with ⟨i, u, rfl, e⟩ | ⟨y, u, rfl, e⟩
    · exact nomatch e
    · injection e with e1 _
      subst e1
      cases v <;> rfl

theorem mixKind_int (prog : Program) (w : World) (i : Int) (t : Tok) : (mixKind prog w).is (.inl i) (.int i t) = true := keyIs_int i t
theorem mixKind_str (prog : Program) (w : World) (x : Str) (t : Tok) : (mixKind prog w).is (.inr x) (.str x t) = true := keyIs_str x t
end L2

namespace L2
open PySem PySem.Spec PyProof.Rows

inductive V where
  | non | bl (b : Bool) | int (i : Int) | str (x : Str) | byt (b : Array UInt8) | flt (b : UInt64) | ref (a : Addr) | ty (n : String)
  deriving DecidableEq

def RelV : V → Value → Prop
  | .non, u => u = Value.none
  | .bl b, u => u = Value.bool b
  | .int i, u => ∃ t, u = Value.int i t
  | .str x, u => ∃ t, u = Value.str x t
  | .byt b, u => ∃ t, u = Value.bytes b t
  | .flt b, u => ∃ t, u = Value.float b t
  | .ref a, u => u = Value.ref a
  | .ty n, u => u = Value.type n

abbrev Vals : List V → List Value → Prop := Paired RelV
theorem Vals.length {xs : List V} {us : List Value} (r : Vals xs us) : xs.length = us.length := Paired.length r
theorem Vals.get : ∀ {xs : List V} {us : List Value} {i : Nat} {x : V}, Vals xs us → xs[i]? = some x → ∃ u, us[i]? = some u ∧ RelV x u
  | _, _, _, _, .nil, e => by simp at e
  | _, _, 0, _, .cons r _, e => by simp at e; subst e; exact ⟨_, rfl, r⟩
  | _, _, i + 1, x, .cons _ t, e => by
    obtain ⟨u, h1, h2⟩ := Vals.get (i := i) (x := x) t (by simpa using e)
    exact ⟨u, by simpa using h1, h2⟩
theorem Vals.set {x : V} {u : Value} (r : RelV x u) : ∀ {xs : List V} {us : List Value} (i : Nat), Vals xs us → Vals (xs.set i x) (us.set i u)
  | _, _, _, .nil => .nil
  | _, _, 0, .cons _ t => .cons r t
  | _, _, i + 1, .cons q t => .cons q (Vals.set r i t)
theorem Vals.append : ∀ {xs ys : List V} {us ws : List Value}, Vals xs us → Vals ys ws → Vals (xs ++ ys) (us ++ ws)
  | _, _, _, _, .nil, s => s
  | _, _, _, _, .cons r t, s => .cons r (Vals.append t s)
theorem Vals.take : ∀ {xs : List V} {us : List Value} (n : Nat), Vals xs us → Vals (xs.take n) (us.take n)
  | _, _, 0, _ => .nil
  | _, _, _ + 1, .nil => .nil
  | _, _, n + 1, .cons r t => .cons r (Vals.take n t)
theorem Vals.drop : ∀ {xs : List V} {us : List Value} (n : Nat), Vals xs us → Vals (xs.drop n) (us.drop n)
  | _, _, 0, r => r
  | _, _, _ + 1, .nil => .nil
  | _, _, n + 1, .cons _ t => Vals.drop n t

def RelO : Option V → Option Value → Prop
  | some v, some u => RelV v u
  | none, none => True
  | _, _ => False
def KV {κ : Type} : List (κ × V) → List (κ × Value) → Prop := Paired fun (p : κ × V) (q : κ × Value) => p.1 = q.1 ∧ RelV p.2 q.2

def kV : Key → V
  | .inl i => .int i
  | .inr x => .str x

inductive HO where
  | lst (xs : List V)
  | tup (xs : List V)
  | dK (kvs : List (Key × V)) | dT (kvs : List (List Key × V))
  | set (S : Int → Bool) (n : Nat)
  | ins (C dx : Addr) (fs : List (Str × V))
  | own (x : Addr)
  | xd (fs : List (Str × V))
  | met (f x : Addr)
  | rng (lo hi : Int)
  | frz (o : Obj) (u : HO)
  | tbl (ps : Array Value)
  | ext (φ : Heap → Prop)

abbrev Hp := Addr → Option HO
def upd (H : Hp) (a : Addr) (o : HO) : Hp := fun b => if b = a then some o else H b
theorem upd_same {H : Hp} {a : Addr} {o : HO} : upd H a o a = some o := by unfold upd; rw [if_pos rfl]
theorem upd_ne {H : Hp} {a b : Addr} {o : HO} (h : b ≠ a) : upd H a o b = H b := by unfold upd; rw [if_neg h]
theorem ne_of {H : Hp} {a b : Addr} {o u : HO} (h : H a = some o) (h' : H b = some u) (d : o ≠ u) : a ≠ b := by
  intro e; subst e; rw [h] at h'; exact d (Option.some.inj h')
theorem ne_of_none {H : Hp} {a b : Addr} {o : HO} (h : H a = some o) (h' : H b = none) : a ≠ b := by
  intro e; subst e; rw [h] at h'; cases h'

section
variable (P : Program) (w : World)
def ObjOk (H : Hp) (h : Heap) (a : Addr) : HO → Prop
  | .lst xs => xs.length ≤ sizeLine ∧ ∃ (its : List Value) (n : Nat), Vals xs its ∧ h.get? a = some { cls := .type "list", data := .seq its.toArray n }
  | .tup xs => xs.length ≤ sizeLine ∧ ∃ its : List Value, Vals xs its ∧ IsTup h a its.toArray
  | .dK kvs => kvs.length ≤ sizeLine ∧ (a == sysModules) = false ∧ ∃ vs, KV kvs vs ∧ h.DictOf (mixKind P w) a vs
  | .dT kvs => kvs.length ≤ sizeLine ∧ (a == sysModules) = false ∧ ∃ xs : List (List Key × Addr × Value),
      Paired (fun (p : List Key × V) (q : List Key × Addr × Value) => p.1 = q.1 ∧ H q.2.1 = some (.tup (p.1.map kV)) ∧ RelV p.2 q.2.2) kvs xs ∧
      ∃ o es ep, h.get? a = some o ∧ o.ExactDict ∧ o.data = .dict es ep ∧ es.toList = xs.map (entryOfKey (tupleKind (mixKind P w))) ∧ (xs.map (·.1)).Nodup
  | .set S n => h.SetOf (intKind P w) a S n
  | .ins C dx fs => H dx = some (.own a) ∧ fs.length ≤ 1000 ∧ dx ≠ a ∧ h.get? a = some (PySem.W.instObj C dx) ∧
      ∃ mA, h.Ns1 dx mA ∧ (∀ f, RelO (fs.lookup f) (mA f)) ∧ PySem.Within mA (fs.map (·.1))
  | .own _ => ∃ o, h.get? a = some o
  | .xd fs => ∃ mA, h.Ns1 a mA ∧ ∀ f, RelO (fs.lookup f) (mA f)
  | .rng lo hi => ∃ t u v, h.get? a = some { cls := .type "range", data := .fields #[.int lo t, .int hi u, .int 1 v] }
  | .frz o u => h.get? a = some o ∧ ObjOk H h a u
  | .tbl ps => h.get? a = some { cls := .none, data := .fields ps }
  | .met f x => h.get? a = some (PySem.W.methodObj (.ref f) (.ref x))
  | .ext φ => φ h ∧ (∃ o, h.get? a = some o) ∧ ∀ h1 h2 : Heap, φ h1 → (∀ o, h1.get? a = some o → h2.get? a = some o) → φ h2
def HOk (H : Hp) (h : Heap) : Prop := ∀ a o, H a = some o → ObjOk P w H h a o
end

section
variable {P : Program} {w : World} {H H' : Hp} {h h' : Heap} {a : Addr} {o : HO}
theorem ObjOk.lt (x : ObjOk P w H h a o) : a < h.objs.size := by
  cases o with
  | lst xs => obtain ⟨_, _, _, _, e⟩ := x; exact Heap.lt_size e
  | tup xs => obtain ⟨_, _, _, p⟩ := x; exact p.lt
  | dK kvs => obtain ⟨_, _, _, _, o, _, _, e, _⟩ := x; exact Heap.lt_size e
  | dT kvs => obtain ⟨_, _, _, _, o, _, _, e, _⟩ := x; exact Heap.lt_size e
  | set S n => obtain ⟨o, _, _, _, e, _⟩ := x; exact Heap.lt_size e
  | ins C dx fs => obtain ⟨_, _, _, e, _⟩ := x; exact Heap.lt_size e
  | own y => obtain ⟨_, e⟩ := x; exact Heap.lt_size e
  | xd fs => obtain ⟨_, ⟨_, _, _, e, _⟩, _⟩ := x; exact Heap.lt_size e
  | rng lo hi => obtain ⟨_, _, _, e⟩ := x; exact Heap.lt_size e
  | frz ob u => obtain ⟨e, _⟩ := x; exact Heap.lt_size e
  | tbl ps => exact Heap.lt_size (show h.get? a = some _ from x)
  | met f y => exact Heap.lt_size (show h.get? a = some _ from x)
  | ext φ => obtain ⟨_, ⟨_, e⟩, _⟩ := x; exact Heap.lt_size e
theorem Paired.mapP {α β : Type} {F G : α → β → Prop} : ∀ {l₁ : List α} {l₂ : List β}, Paired F l₁ l₂ → (∀ a b, F a b → G a b) → Paired G l₁ l₂
  | _, _, .nil, _ => .nil
  | _, _, .cons r t, f => .cons (f _ _ r) (Paired.mapP t f)
theorem ObjOk.stay (x : ObjOk P w H h a o) (k : ∀ b u, (b = a ∨ H b = some (.own a)) → h.get? b = some u → h'.get? b = some u)
    (ho : ∀ b, H b = some (.own a) → H' b = some (.own a)) (ht : ∀ b xs, H b = some (.tup xs) → H' b = some (.tup xs)) : ObjOk P w H' h' a o := by
  induction o with
  | lst xs => obtain ⟨z, its, n, r, e⟩ := x; exact ⟨z, its, n, r, k _ _ (.inl rfl) e⟩
  | tup xs => obtain ⟨z, its, r, ob, e, c⟩ := x; exact ⟨z, its, r, ob, k _ _ (.inl rfl) e, c⟩
  | dK kvs => obtain ⟨z, y, vs, r, ob, es, ep, e, c⟩ := x; exact ⟨z, y, vs, r, ob, es, ep, k _ _ (.inl rfl) e, c⟩
  | dT kvs =>
    obtain ⟨z, y, xs, r, ob, es, ep, e, c⟩ := x
    exact ⟨z, y, xs, Paired.mapP r fun p q z => ⟨z.1, ht _ _ z.2.1, z.2.2⟩, ob, es, ep, k _ _ (.inl rfl) e, c⟩
  | set S n => obtain ⟨ob, es, ep, t, e, c⟩ := x; exact ⟨ob, es, ep, t, k _ _ (.inl rfl) e, c⟩
  | ins C dx fs =>
    obtain ⟨d, z, ne, e, mA, ⟨od, es, ep, e2, c⟩, r⟩ := x
    exact ⟨ho _ d, z, ne, k _ _ (.inl rfl) e, mA, ⟨od, es, ep, k _ _ (.inr d) e2, c⟩, r⟩
  | own y => obtain ⟨ob, e⟩ := x; exact ⟨ob, k _ _ (.inl rfl) e⟩
  | xd fs => obtain ⟨mA, ⟨od, es, ep, e, c⟩, r⟩ := x; exact ⟨mA, ⟨od, es, ep, k _ _ (.inl rfl) e, c⟩, r⟩
  | rng lo hi => obtain ⟨t, u, v, e⟩ := x; exact ⟨t, u, v, k _ _ (.inl rfl) e⟩
  | frz ob u ih => obtain ⟨e, q⟩ := x; exact ⟨k _ _ (.inl rfl) e, ih q⟩
  | tbl ps =>
    have e : h.get? a = some { cls := .none, data := .fields ps } := x
    show h'.get? a = some { cls := .none, data := .fields ps }
    exact k a _ (.inl rfl) e
  | met f y =>
    have e : h.get? a = some (PySem.W.methodObj (.ref f) (.ref y)) := x
    show h'.get? a = some (PySem.W.methodObj (.ref f) (.ref y))
    exact k a _ (.inl rfl) e
  | ext φ => obtain ⟨p, ⟨o, e⟩, st⟩ := x; exact ⟨st _ _ p fun o q => k _ _ (.inl rfl) q, ⟨o, k _ _ (.inl rfl) e⟩, st⟩
theorem HOk.lt (x : HOk P w H h) (e : H a = some o) : a < h.objs.size := (x a o e).lt
theorem HOk.fresh (x : HOk P w H h) (e : h.objs.size ≤ a) : H a = none := by
  cases q : H a with
  | none => rfl
  | some u => exact absurd (Nat.lt_of_lt_of_le (x.lt q) e) (Nat.lt_irrefl _)
theorem HOk.kept (x : HOk P w H h) (k : ∀ b u, h.get? b = some u → h'.get? b = some u) : HOk P w H h' := fun a o e =>
  (x a o e).stay (fun b u _ q => k b u q) (fun _ q => q) fun _ _ q => q
theorem HOk.laid (x : HOk P w H h) (k : ∀ b u, h.get? b = some u → h'.get? b = some u) (hp : h.objs.size ≤ a) (new : ObjOk P w (upd H a o) h' a o) : HOk P w (upd H a o) h' := fun b u e => by
  have hn := x.fresh hp
  by_cases hb : b = a
  · subst hb; rw [upd_same] at e; cases e; exact new
  · rw [upd_ne hb] at e
    exact (x b u e).stay (fun c v _ q => k c v q) (fun c q => by rw [upd_ne (ne_of_none q hn)]; exact q) fun c xs q => by rw [upd_ne (ne_of_none q hn)]; exact q
end

def Rd (H : Hp) (a : Addr) (u : HO) : Prop := H a = some u ∨ ∃ o, H a = some (.frz o u)
theorem Rd.of {H : Hp} {a : Addr} {u : HO} (h : H a = some u) : Rd H a u := .inl h
theorem Rd.ok {P : Program} {w : World} {H : Hp} {h : Heap} {a : Addr} {u : HO} (r : Rd H a u) (x : HOk P w H h) : ObjOk P w H h a u := by
  rcases r with r | ⟨o, r⟩
  · exact x a u r
  · obtain ⟨_, q⟩ := x a _ r
    exact q
def Mut : Option HO → Prop
  | some (.lst _) => True
  | some (.dK _) => True
  | some (.dT _) => True
  | some (.set _ _) => True
  | some (.ins _ _ _) => True
  | some (.ext _) => True
  | _ => False
section
variable {P : Program} {w : World} {H : Hp} {h h' : Heap} {x e : Addr} {o' : HO}
theorem HOk.write (ok : HOk P w H h) (mu : Mut (H x)) (he : e = x ∨ H e = some (.own x)) (k : ∀ b u, b ≠ e → h.get? b = some u → h'.get? b = some u) (heo : ∃ u, h'.get? e = some u)
    (new : ObjOk P w (upd H x o') h' x o') : HOk P w (upd H x o') h' := fun b u q => by
  have nown : ∀ c y, H c = some (.own y) → c ≠ x := fun c y r z => by subst z; rw [r] at mu; exact mu
  have ntup : ∀ c xs, H c = some (.tup xs) → c ≠ x := fun c xs r z => by subst z; rw [r] at mu; exact mu
  by_cases hb : b = x
  · subst hb; rw [upd_same] at q; cases q; exact new
  · rw [upd_ne hb] at q
    by_cases hbe : b = e
    · have q' : H b = some (.own x) := by
        rcases he with z | z
        · exact absurd (hbe.trans z) hb
        · rw [hbe]; exact z
      rw [q] at q'; cases q'
      obtain ⟨v, hv⟩ := heo
      exact ⟨v, by rw [hbe]; exact hv⟩
    · refine (ok b u q).stay (fun c v hc r => k c v ?_ r) (fun c r => by rw [upd_ne (nown c b r)]; exact r) fun c xs r => by rw [upd_ne (ntup c xs r)]; exact r
      rcases hc with rfl | hc
      · exact hbe
      · rintro rfl
        rcases he with z | z
        · exact nown c b hc z
        · rw [hc] at z; cases z; exact hb rfl
end

structure Un (fs ex : List Addr) (H H' : Hp) (h h' : Heap) : Prop where
  keep : ∀ b o, h.get? b = some o → H b = none → b ∉ fs → b ∉ ex → h'.get? b = some o
  slot : ∀ b o, h.get? b = some o → H b = none → b ∈ fs → b ∉ ex → ∃ sl, h'.get? b = some { o with slots := sl }
  free : ∀ b o, h.get? b = some o → H b = none → b ∉ ex → H' b = none
  there : ∀ b o, h.get? b = some o → b ∉ ex → ∃ o', h'.get? b = some o'
  tups : ∀ b xs, H b = some (.tup xs) → H' b = some (.tup xs)
  frzs : ∀ b o u, H b = some (.frz o u) → H' b = some (.frz o u)
  tbls : ∀ b ps, H b = some (.tbl ps) → ∃ more, H' b = some (.tbl (ps ++ more))
section
variable {fs fs' ex ex' : List Addr} {H H1 H2 : Hp} {h h1 h2 h' : Heap} {a x e : Addr} {o : HO}
theorem Un.any (u : Un fs ex H H1 h h1) {b : Addr} {ob : Obj} (q : h.get? b = some ob) (n : H b = none) (hx : b ∉ ex) : ∃ sl, h1.get? b = some { ob with slots := sl } := by
  by_cases hb : b ∈ fs
  · exact u.slot b ob q n hb hx
  · exact ⟨ob.slots, u.keep b ob q n hb hx⟩
theorem Un.trans (a : Un fs ex H H1 h h1) (b : Un fs ex H1 H2 h1 h2) : Un fs ex H H2 h h2 where
  keep := fun c ob q n hc hx => b.keep c ob (a.keep c ob q n hc hx) (a.free c ob q n hx) hc hx
  slot := fun c ob q n hc hx => by
    obtain ⟨sl, e1⟩ := a.slot c ob q n hc hx
    obtain ⟨sl', e2⟩ := b.slot c _ e1 (a.free c ob q n hx) hc hx
    exact ⟨sl', e2⟩
  free := fun c ob q n hx => by
    obtain ⟨o', e1⟩ := a.there c ob q hx
    exact b.free c o' e1 (a.free c ob q n hx) hx
  there := fun c ob q hx => by
    obtain ⟨o', e1⟩ := a.there c ob q hx
    exact b.there c o' e1 hx
  tups := fun c xs q => b.tups c xs (a.tups c xs q)
  frzs := fun c ob xs q => b.frzs c ob xs (a.frzs c ob xs q)
  tbls := fun c ps q => by
    obtain ⟨m1, e1⟩ := a.tbls c ps q
    obtain ⟨m2, e2⟩ := b.tbls c _ e1
    exact ⟨m1 ++ m2, by rw [e2, Array.append_assoc]⟩
theorem Un.kept (k : ∀ b u, h.get? b = some u → h'.get? b = some u) : Un fs ex H H h h' :=
  ⟨fun b ob q _ _ _ => k b ob q, fun b ob q _ _ _ => ⟨ob.slots, k b ob q⟩, fun _ _ _ n _ => n, fun b ob q _ => ⟨ob, k b ob q⟩, fun _ _ q => q, fun _ _ _ q => q, fun _ ps q => ⟨#[], by rw [q]; simp⟩⟩
theorem Un.refl : Un fs ex H H h h := Un.kept fun _ _ q => q
theorem Un.laid (k : ∀ b u, h.get? b = some u → h'.get? b = some u) (hp : h.objs.size ≤ a) (hn : H a = none) : Un fs ex H (upd H a o) h h' where
  keep := fun b u q _ _ _ => k b u q
  slot := fun b u q _ _ _ => ⟨u.slots, k b u q⟩
  free := fun b u q n _ => by rw [upd_ne (Nat.ne_of_lt (Nat.lt_of_lt_of_le (Heap.lt_size q) hp))]; exact n
  there := fun b u q _ => ⟨u, k b u q⟩
  tups := fun b xs q => by rw [upd_ne (ne_of_none q hn)]; exact q
  frzs := fun b u xs q => by rw [upd_ne (ne_of_none q hn)]; exact q
  tbls := fun b ps q => ⟨#[], by rw [upd_ne (ne_of_none q hn), q]; simp⟩
theorem Un.write (mu : Mut (H x)) (he : e = x ∨ H e = some (.own x)) (k : ∀ b u, b ≠ e → h.get? b = some u → h'.get? b = some u) (heo : ∃ u, h'.get? e = some u) : Un fs ex H (upd H x o) h h' := by
  have hx : ∀ b, H b = none → b ≠ x := fun b n z => by subst z; rw [n] at mu; exact mu
  have hb : ∀ b, H b = none → b ≠ e := fun b n z => by
    subst z
    rcases he with r | r
    · exact hx b n r
    · rw [n] at r; cases r
  have hm : ∀ b u, H b = some u → ¬ Mut (some u) → b ≠ x := fun b u q nm z => by subst z; rw [q] at mu; exact nm mu
  refine ⟨fun b u q n _ _ => k b u (hb b n) q, fun b u q n _ _ => ⟨u.slots, k b u (hb b n) q⟩, fun b u q n _ => by rw [upd_ne (hx b n)]; exact n, fun b u q _ => ?_,
    fun b xs q => by rw [upd_ne (hm b _ q fun z => z)]; exact q, fun b u xs q => by rw [upd_ne (hm b _ q fun z => z)]; exact q, fun b ps q => ⟨#[], by rw [upd_ne (hm b _ q fun z => z), q]; simp⟩⟩
  by_cases hbe : b = e
  · subst hbe; exact heo
  · exact ⟨u, k b u hbe q⟩
theorem Un.mono (u : Un fs ex H H1 h h1) (hs : ∀ b ∈ fs, b ∈ fs') (hx : ∀ b ∈ ex, b ∈ ex') : Un fs' ex' H H1 h h1 :=
  ⟨fun b ob q n hb he => u.keep b ob q n (fun z => hb (hs b z)) fun z => he (hx b z), fun _ _ q n _ he => u.any q n fun z => he (hx _ z), fun b ob q n he => u.free b ob q n fun z => he (hx b z), fun b ob q he => u.there b ob q fun z => he (hx b z), u.tups, u.frzs, u.tbls⟩
end

def trk (h : Heap) (H : Hp) : List Addr := (List.range h.objs.size).filter fun a => (H a).isSome
def hidT (h : Heap) (H : Hp) : Heap := PySem.W.hideAll h (trk h H)
theorem hidT_size (h : Heap) (H : Hp) : (hidT h H).objs.size = h.objs.size := PySem.W.hideAll_size _ _
theorem hidT_get {h : Heap} {H : Hp} {b : Addr} {o : Obj} (e : h.get? b = some o) (n : H b = none) : (hidT h H).get? b = some o :=
  PySem.W.hideAll_get _ e fun hm => by
    have q : (H b).isSome = true := (List.mem_filter.mp hm).2
    rw [n] at q; simp at q
theorem of_hidT {h : Heap} {H : Hp} {b : Addr} {o : Obj} (e : (hidT h H).get? b = some o) : h.get? b = some o ∧ H b = none := by
  have e' : h.get? b = some o := PySem.W.of_hideAll (trk h H) e
  refine ⟨e', ?_⟩
  cases q : H b with
  | none => rfl
  | some x =>
    have hm : b ∈ trk h H := List.mem_filter.mpr ⟨List.mem_range.mpr (Heap.lt_size e'), by simp [q]⟩
    have z : (hidT h H).get? b = none := PySem.W.hideAll_none (trk h H) hm
    rw [z] at e; cases e

def allNews (g h : Heap) (L : Addr) : List (Addr × Obj) := (List.range h.objs.size).filterMap fun a => if a = L ∨ (g.get? a).isSome = true then none else (h.get? a).map fun o => (a, o)
def rest (g h : Heap) (L d : Addr) : List (Addr × Obj) := (allNews g h L).filter fun p => decide (p.1 ≠ d)
end L2

namespace L2
open PySem PySem.Spec PyProof.Rows

structure Mod (K : PySem.W.Frag) (mg : Str → Option Value) (base : Heap) : Prop where
  kin : K.In base
  glob : base.Ns mainGlobals mg
  blt : ∃ mb, base.Ns builtinsNs mb ∧ ∀ x : Str, x ≠ "__name__" → mb x = bootBuiltins x
  nolimit : base.NoLimit

/-- the context: a def's body (or a comprehension's block) running. base: fixed through the whole law; s₀, H₀: the entry; outer: the frames whose slots others may change (a def's callers); stack: all frames that run;
   ex: iterators that were made ahead of the entry and are walked here (a comprehension's); fn: the names whose cells were made at the entry (a def: all; a comprehension's block: its own); calm: not within an except suite; pn: pins that every state bears; xe: what is wanted of an exception that leaves the code -/
structure Cx where
  prog : Program
  w : World
  K : PySem.W.Frag
  mg : Str → Option Value
  base : Heap
  A : Around
  N : List Str
  s₀ : Shared
  H₀ : Hp
  env : Env
  outer : List Env
  stack : List Env
  ex : List Addr
  fn : Str → Bool
  calm : Bool
  pn : List (Addr × Obj)
  xe : Value → Shared → Prop
def frs (l : List Env) : List Addr := l.filterMap (·.frame)
abbrev Cx.fs (X : Cx) : List Addr := frs X.outer

def Vis (sc : Scope) (x : Str) : Prop := sc.names.lookup x = some .local ∨ sc.names.lookup x = some .cell ∨ sc.names.lookup x = some .free
def Loc (sc : Scope) (x : Str) : Prop := sc.names.lookup x = some .local ∨ sc.names.lookup x = some .cell
def Look (env : Env) (h : Heap) (m : Str → Option Value) (x : Str) (u : Value) : Prop :=
  (env.kindOf x = some .local ∧ m x = some u) ∨ ((env.kindOf x = some .cell ∨ env.kindOf x = some .free) ∧ ∃ c, env.cells.lookup x = some c ∧ h.IsCell c (some u))

structure Cx.Ok (X : Cx) : Prop where
  mod : Mod X.K X.mg X.base
  kind : X.env.scope.kind = .function
  glob : X.env.globals = mainGlobals
  blt : X.env.builtins = builtinsNs
  above : X.s₀.heap.objs.size ≤ X.env.locals
  inj : ∀ x y c, X.env.cells.lookup x = some c → X.env.cells.lookup y = some c → x = y
  has : ∀ x, (X.env.kindOf x = some .cell ∨ X.env.kindOf x = some .free) → ∃ c, X.env.cells.lookup x = some c
  cab : ∀ x c, X.fn x = true → X.env.cells.lookup x = some c → X.s₀.heap.objs.size ≤ c
  hd : X.calm = true → X.A.handled = none
  frames : X.A.frames = some X.stack
  stk : X.stack = X.outer ∨ (X.stack = X.env :: X.outer ∧ X.env.frame = some X.env.locals)
  exf : ∀ b ∈ X.ex, b ≠ X.env.locals ∧ ∀ x c, X.env.cells.lookup x = some c → c ≠ b
  bs : ∀ b o, X.base.get? b = some o → X.s₀.heap.get? b = some o ∧ X.H₀ b = none
  bsz : X.base.objs.size ≤ X.s₀.heap.objs.size
  noex : ∀ b o, X.base.get? b = some o → b ∉ X.ex
  exfs : ∀ b ∈ X.ex, b ∉ X.fs
  funs : X.s₀.heap.FunFrames X.base X.outer
  frf : ∀ b ∈ X.fs, X.H₀ b = none

structure Inv (X : Cx) (pins : List (Addr × Obj)) (σ : List (Option V)) (H : Hp) (s : Shared) : Prop where
  ok : X.Ok
  os : s.os = X.s₀.os
  bare : AllBare s.gens
  base : Un X.fs X.ex X.H₀ H X.s₀.heap s.heap
  loc : ∃ m, s.heap.Ns X.env.locals m ∧ ∀ (i : Nat) (x : Str) (v : V), X.N[i]? = some x → σ[i]? = some (some v) → Vis X.env.scope x → ∃ u, RelV v u ∧ Look X.env s.heap m x u
  cell : ∀ x c, X.env.cells.lookup x = some c → ∃ v, s.heap.IsCell c v
  free : H X.env.locals = none
  freeC : ∀ x c, X.env.cells.lookup x = some c → H c = none
  pin : ∀ p ∈ X.pn ++ pins, s.heap.get? p.1 = some p.2 ∧ H p.1 = none ∧ p.1 ≠ X.env.locals ∧ p.1 ∉ X.fs ∧ ∀ v, p.2.data ≠ .cell v
  hok : HOk X.prog X.w H s.heap
  len : σ.length = X.N.length

section
variable {X : Cx} {pins : List (Addr × Obj)} {σ : List (Option V)} {H H' : Hp} {s : Shared} {h' : Heap}

theorem Cx.Ok.nofr (ok : X.Ok) {b : Addr} {o : Obj} (e : X.base.get? b = some o) : b ∉ X.fs := fun hb => by
  have := (ok.funs.mem hb).1
  rw [e] at this; cases this
theorem Inv.bs (I : Inv X pins σ H s) : ∀ b o, X.base.get? b = some o → s.heap.get? b = some o ∧ H b = none := fun b o e =>
  ⟨I.base.keep b o (I.ok.bs b o e).1 (I.ok.bs b o e).2 (I.ok.nofr e) (I.ok.noex b o e), I.base.free b o (I.ok.bs b o e).1 (I.ok.bs b o e).2 (I.ok.noex b o e)⟩
theorem Inv.bk (I : Inv X pins σ H s) : ∀ b o, X.base.get? b = some o → s.heap.get? b = some o := fun b o e => (I.bs b o e).1
theorem Inv.mod (I : Inv X pins σ H s) : Mod X.K X.mg X.base := I.ok.mod
theorem Inv.kIn (I : Inv X pins σ H s) : X.K.In s.heap := I.ok.mod.kin.keeps I.bk
theorem Inv.nolimit (I : Inv X pins σ H s) : s.heap.NoLimit := I.ok.mod.nolimit.keeps I.bk
theorem Inv.lt (I : Inv X pins σ H s) : X.env.locals < s.heap.objs.size := let ⟨_, hn, _⟩ := I.loc; hn.lt
theorem Inv.sz (I : Inv X pins σ H s) : X.s₀.heap.objs.size ≤ s.heap.objs.size := Nat.le_trans I.ok.above (Nat.le_of_lt I.lt)
theorem Inv.nofs (I : Inv X pins σ H s) {a : Addr} (h : s.heap.objs.size ≤ a) : a ∉ X.fs := fun hb => by
  obtain ⟨_, o, ho, _⟩ := I.ok.funs.mem hb
  exact absurd (Nat.lt_of_lt_of_le (Heap.lt_size ho) (Nat.le_trans I.sz h)) (Nat.lt_irrefl _)
theorem Inv.cne (I : Inv X pins σ H s) : ∀ x c, X.env.cells.lookup x = some c → c ≠ X.env.locals := fun x c e z => by
  obtain ⟨v, o, ho, hd⟩ := I.cell x c e
  obtain ⟨m, ⟨o', es, ep, ho', hd', _⟩, _⟩ := I.loc
  rw [z, ho'] at ho; cases ho; rw [hd'] at hd; cases hd
theorem Inv.funs (I : Inv X pins σ H s) : s.heap.FunFrames X.base X.outer := by
  have all : ∀ (l : List Env), (∀ b ∈ frs l, b ∈ X.fs) → X.s₀.heap.FunFrames X.base l → s.heap.FunFrames X.base l := by
    intro l
    induction l with
    | nil => intro _ _; trivial
    | cons env r ih =>
      intro hs hl
      obtain ⟨hk, ⟨L, o, hf, hn, ho, hd⟩, hr⟩ := hl
      have hL : L ∈ X.fs := hs L (by unfold frs; rw [List.filterMap_cons, hf]; exact List.mem_cons_self)
      obtain ⟨sl, e⟩ := I.base.slot L o ho (I.ok.frf L hL) hL fun z => I.ok.exfs L z hL
      exact ⟨hk, ⟨L, _, hf, hn, e, hd⟩, ih (fun b hb => hs b (by unfold frs; rw [List.filterMap_cons, hf]; exact List.mem_cons_of_mem _ hb)) hr⟩
  exact all X.outer (fun _ hb => hb) I.ok.funs

theorem Inv.stack (I : Inv X pins σ H s) : s.heap.FunFrames X.base X.stack := by
  rcases I.ok.stk with e | ⟨e, hf⟩
  · rw [e]; exact I.funs
  · rw [e]
    obtain ⟨m, hn, _⟩ := I.loc
    refine .cons (by rw [I.ok.kind]; decide) hf hn ?_ I.funs
    exact Heap.get?_none_of_le (Nat.le_trans I.ok.bsz I.ok.above)
theorem Inv.stkSub (I : Inv X pins σ H s) : ∀ b ∈ frs X.stack, b ∈ X.env.locals :: X.fs := fun b hb => by
  rcases I.ok.stk with e | ⟨e, hf⟩
  · rw [e] at hb; exact List.mem_cons_of_mem _ hb
  · rw [e] at hb
    unfold frs at hb
    rw [List.filterMap_cons, hf] at hb
    exact hb
theorem Inv.stkFree (I : Inv X pins σ H s) : ∀ b ∈ frs X.stack, H b = none := fun b hb => by
  rcases List.mem_cons.mp (I.stkSub b hb) with e | hb
  · rw [e]; exact I.free
  · obtain ⟨_, o, ho, _⟩ := I.ok.funs.mem hb
    exact I.base.free b o ho (I.ok.frf b hb) fun z => I.ok.exfs b z hb

theorem Inv.step {g' : Array GenState} {t' : Nat} {d' : Drawn} {ch : List Addr} (I : Inv X pins σ H s)
    (hch : ∀ b ∈ ch, (b ∈ X.ex ∨ X.s₀.heap.objs.size ≤ b) ∧ b ≠ X.env.locals ∧ (∀ x c, X.env.cells.lookup x = some c → c ≠ b) ∧ ∀ p ∈ X.pn ++ pins, p.1 ≠ b)
    (keep : ∀ b o, b ≠ X.env.locals → b ∉ X.fs → b ∉ ch → s.heap.get? b = some o → H b = none → h'.get? b = some o)
    (slot : ∀ b o, b ≠ X.env.locals → b ∈ X.fs → b ∉ ch → s.heap.get? b = some o → H b = none → ∃ sl, h'.get? b = some { o with slots := sl }) (free : ∀ b o, b ∉ ch → s.heap.get? b = some o → H b = none → H' b = none)
    (there : ∀ b o, b ∉ ch → s.heap.get? b = some o → ∃ o', h'.get? b = some o')
    (tups : ∀ b xs, H b = some (.tup xs) → H' b = some (.tup xs)) (frzs : ∀ b o u, H b = some (.frz o u) → H' b = some (.frz o u)) (tbls : ∀ b ps, H b = some (.tbl ps) → ∃ more, H' b = some (.tbl (ps ++ more)))
    (ns : ∀ m, s.heap.Ns X.env.locals m → h'.Ns X.env.locals m) (hok : HOk X.prog X.w H' h') (hg : AllBare g') :
    Inv X pins σ H' { s with heap := h', gens := g', drawn := d', toks := t' } := by
  have neL : ∀ b o, X.s₀.heap.get? b = some o → b ≠ X.env.locals := fun b o e => Nat.ne_of_lt (Nat.lt_of_lt_of_le (Heap.lt_size e) I.ok.above)
  have neC : ∀ b o, X.s₀.heap.get? b = some o → b ∉ X.ex → b ∉ ch := fun b o e hx hb => by
    rcases (hch b hb).1 with z | z
    · exact hx z
    · exact absurd (Nat.lt_of_lt_of_le (Heap.lt_size e) z) (Nat.lt_irrefl _)
  have cellK : ∀ x c, X.env.cells.lookup x = some c → ∀ v, s.heap.IsCell c v → h'.IsCell c v := fun x c e v ⟨o, ho, hd⟩ => by
    have nch : c ∉ ch := fun z => (hch c z).2.2.1 x c e rfl
    by_cases hc : c ∈ X.fs
    · obtain ⟨sl, q⟩ := slot c o (I.cne x c e) hc nch ho (I.freeC x c e)
      exact ⟨_, q, hd⟩
    · exact ⟨o, keep c o (I.cne x c e) hc nch ho (I.freeC x c e), hd⟩
  refine ⟨I.ok, I.os, hg, ⟨fun b o e n hb hx => ?_, fun b o e n hb hx => ?_, fun b o e n hx => ?_, fun b o e hx => ?_, fun b xs e => tups b xs (I.base.tups b xs e), fun b o xs e => frzs b o xs (I.base.frzs b o xs e), fun b ps e => ?_⟩, ?_, fun x c e => ?_, ?_, fun x c e => ?_, fun p hp => ?_, hok, I.len⟩
  · exact keep b o (neL b o e) hb (neC b o e hx) (I.base.keep b o e n hb hx) (I.base.free b o e n hx)
  · obtain ⟨sl, e1⟩ := I.base.slot b o e n hb hx
    obtain ⟨sl', e2⟩ := slot b _ (neL b o e) hb (neC b o e hx) e1 (I.base.free b o e n hx)
    exact ⟨sl', e2⟩
  · obtain ⟨o', e1⟩ := I.base.there b o e hx
    exact free b o' (neC b o e hx) e1 (I.base.free b o e n hx)
  · obtain ⟨o', e1⟩ := I.base.there b o e hx
    exact there b o' (neC b o e hx) e1
  · obtain ⟨m1, e1⟩ := I.base.tbls b ps e
    obtain ⟨m2, e2⟩ := tbls b _ e1
    exact ⟨m1 ++ m2, by rw [e2, Array.append_assoc]⟩
  · obtain ⟨m, hn, hl⟩ := I.loc
    refine ⟨m, ns m hn, fun i x v e1 e2 e3 => ?_⟩
    obtain ⟨u, r, l⟩ := hl i x v e1 e2 e3
    refine ⟨u, r, ?_⟩
    rcases l with l | ⟨k, c, e, z⟩
    · exact .inl l
    · exact .inr ⟨k, c, e, cellK x c e _ z⟩
  · obtain ⟨v, z⟩ := I.cell x c e
    exact ⟨v, cellK x c e v z⟩
  · obtain ⟨m, ⟨o, _, _, ho, _⟩, _⟩ := I.loc
    exact free _ o (fun z => (hch _ z).2.1 rfl) ho I.free
  · obtain ⟨v, o, ho, hd⟩ := I.cell x c e
    exact free c o (fun z => (hch c z).2.2.1 x c e rfl) ho (I.freeC x c e)
  · obtain ⟨e, n, ne, nf, d⟩ := I.pin p hp
    have nch : p.1 ∉ ch := fun z => (hch p.1 z).2.2.2 p hp rfl
    exact ⟨keep p.1 p.2 ne nf nch e n, free p.1 p.2 nch e n, ne, nf, d⟩
theorem Inv.un {t' : Nat} (I : Inv X pins σ H s) (u : Un X.fs [] H H' s.heap h') (hok : HOk X.prog X.w H' h') : Inv X pins σ H' { s with heap := h', toks := t' } := by
  obtain ⟨m, ⟨o, es, ep, ho, r⟩, _⟩ := id I.loc
  obtain ⟨sl, hL⟩ := u.any ho I.free (by simp)
  exact I.step (g' := s.gens) (d' := s.drawn) (ch := []) (fun _ z => nomatch z) (fun b o _ hb _ e n => u.keep b o e n hb (by simp)) (fun b o _ hb _ e n => u.slot b o e n hb (by simp)) (fun b o _ e n => u.free b o e n (by simp)) (fun b o _ e => u.there b o e (by simp)) u.tups u.frzs u.tbls (fun m' hm => by
    obtain ⟨o', es', ep', ho', r'⟩ := hm
    rw [ho] at ho'; cases ho'
    exact ⟨_, es', ep', hL, r'⟩) hok I.bare
theorem Inv.call {g' : Array GenState} {t' : Nat} {d' : Drawn} {ch : List Addr} (I : Inv X pins σ H s) (u : Un (frs X.stack) ch H H' s.heap h') (hok : HOk X.prog X.w H' h') (hg : AllBare g')
    (hch : ∀ b ∈ ch, (b ∈ X.ex ∨ X.s₀.heap.objs.size ≤ b) ∧ b ≠ X.env.locals ∧ (∀ x c, X.env.cells.lookup x = some c → c ≠ b) ∧ ∀ p ∈ X.pn ++ pins, p.1 ≠ b) :
    Inv X pins σ H' { s with heap := h', gens := g', drawn := d', toks := t' } := by
  obtain ⟨m, ⟨o, es, ep, ho, r⟩, _⟩ := id I.loc
  obtain ⟨sl, hL⟩ := u.any ho I.free fun z => (hch _ z).2.1 rfl
  exact I.step (ch := ch) hch (fun b o hL hb hc e n => u.keep b o e n (fun z => (List.mem_cons.mp (I.stkSub b z)).elim hL hb) hc) (fun b o _ _ hc e n => u.any e n hc) (fun b o hc e n => u.free b o e n hc) (fun b o hc e => u.there b o e hc) u.tups u.frzs u.tbls (fun m' hm => by
    obtain ⟨o', es', ep', ho', r'⟩ := hm
    rw [ho] at ho'; cases ho'
    exact ⟨_, es', ep', hL, r'⟩) hok hg
theorem Inv.turned {t' : Nat} {it : Addr} (I : Inv X pins σ H s) (k : ∀ b o, b ≠ it → s.heap.get? b = some o → h'.get? b = some o) (hn : H it = none) (hL : it ≠ X.env.locals)
    (h1 : it ∈ X.ex ∨ X.s₀.heap.objs.size ≤ it) (h2 : ∀ x c, X.env.cells.lookup x = some c → c ≠ it) (h3 : ∀ p ∈ X.pn ++ pins, p.1 ≠ it) : Inv X pins σ H { s with heap := h', toks := t' } := by
  have nit : ∀ b u, H b = some u → b ≠ it := fun b u e z => by rw [z, hn] at e; cases e
  refine I.step (g' := s.gens) (d' := s.drawn) (ch := [it]) (fun b hb => ?_) (fun b o _ _ hc e _ => k b o (fun z => hc (by simp [z])) e) (fun b o _ _ hc e _ => ⟨o.slots, k b o (fun z => hc (by simp [z])) e⟩) (fun _ _ _ _ n => n)
    (fun b o hc e => ⟨o, k b o (fun z => hc (by simp [z])) e⟩) (fun _ _ e => e) (fun _ _ _ e => e) (fun b ps e => ⟨#[], by rw [e]; simp⟩) (fun m hm => ?_) (fun b u e => ?_) I.bare
  · have e : b = it := by simpa using hb
    subst e
    exact ⟨h1, hL, h2, h3⟩
  · obtain ⟨o, es, ep, ho, r⟩ := hm
    exact ⟨o, es, ep, k _ o (Ne.symm hL) ho, r⟩
  · refine (I.hok b u e).stay (fun c v hc q => k c v ?_ q) (fun _ q => q) fun _ _ q => q
    rcases hc with z | z
    · rw [z]; exact nit b u e
    · exact nit c _ z
theorem Inv.tok (I : Inv X pins σ H s) (t : Nat) : Inv X pins σ H { s with toks := t } := I.un (h' := s.heap) (t' := t) Un.refl I.hok
theorem Inv.kept {t' : Nat} (I : Inv X pins σ H s) (k : ∀ b u, s.heap.get? b = some u → h'.get? b = some u) : Inv X pins σ H { s with heap := h', toks := t' } := I.un (Un.kept k) (I.hok.kept k)
theorem Inv.laid {a : Addr} {o : HO} {t' : Nat} (I : Inv X pins σ H s) (k : ∀ b u, s.heap.get? b = some u → h'.get? b = some u) (hp : s.heap.objs.size ≤ a) (new : ObjOk X.prog X.w (upd H a o) h' a o) :
    Inv X pins σ (upd H a o) { s with heap := h', toks := t' } := I.un (Un.laid k hp (I.hok.fresh hp)) (I.hok.laid k hp new)
theorem Inv.write {x e : Addr} {o : HO} {t' : Nat} (I : Inv X pins σ H s) (mu : Mut (H x)) (he : e = x ∨ H e = some (.own x)) (k : ∀ b u, b ≠ e → s.heap.get? b = some u → h'.get? b = some u) (heo : ∃ u, h'.get? e = some u)
    (new : ObjOk X.prog X.w (upd H x o) h' x o) : Inv X pins σ (upd H x o) { s with heap := h', toks := t' } := I.un (Un.write mu he k heo) (I.hok.write mu he k heo new)
theorem Inv.weak {σ' : List (Option V)} (I : Inv X pins σ H s) (hl : σ'.length = σ.length) (w : ∀ (i : Nat) v, σ'[i]? = some (some v) → σ[i]? = some (some v)) : Inv X pins σ' H s :=
  ⟨I.ok, I.os, I.bare, I.base, let ⟨m, hn, hl'⟩ := I.loc; ⟨m, hn, fun i x v e1 e2 e3 => hl' i x v e1 (w i v e2) e3⟩, I.cell, I.free, I.freeC, I.pin, I.hok, hl.trans I.len⟩
theorem Inv.pins_of {pins' : List (Addr × Obj)} (I : Inv X pins σ H s) (h : ∀ p ∈ pins', s.heap.get? p.1 = some p.2 ∧ H p.1 = none ∧ p.1 ≠ X.env.locals ∧ p.1 ∉ X.fs ∧ ∀ v, p.2.data ≠ .cell v) : Inv X pins' σ H s :=
  ⟨I.ok, I.os, I.bare, I.base, I.loc, I.cell, I.free, I.freeC, fun p hp => (List.mem_append.mp hp).elim (fun z => I.pin p (List.mem_append_left _ z)) (h p), I.hok, I.len⟩

theorem nodup_ix {N : List Str} (hN : N.Nodup) {i j : Nat} {x : Str} (a : N[i]? = some x) (b : N[j]? = some x) : i = j := by
  obtain ⟨h1, e1⟩ := List.getElem?_eq_some_iff.mp a
  obtain ⟨h2, e2⟩ := List.getElem?_eq_some_iff.mp b
  exact (List.getElem_inj hN).mp (e1.trans e2.symm)

theorem store_ok2 {M : Model} {A : Around} {E : Value → Shared → Prop} {i : Nat} {x : Str} {v : V} {u : Value} {Q : Unit → Shared → Prop} (I : Inv X pins σ H s) (hN : X.N.Nodup) (hi : X.N[i]? = some x) (hx : Loc X.env.scope x) (r : RelV v u)
    (h : ∀ s', Inv X pins (σ.set i (some v)) H s' → (∃ a, Heap.SameBut a s.heap s'.heap ∧ (a = X.env.locals ∨ X.env.cells.lookup x = some a)) → Q () s') (hf : X.fn x = true ∨ X.env.scope.names.lookup x = some .local := by first | exact .inl rfl | exact .inr rfl | assumption) : wpAny M A (storeName X.env x u) Q E s := by
  obtain ⟨m, hn, hl⟩ := id I.loc
  have hcls : (X.env.scope.kind == .class || (X.env.scope.kind == .module && X.env.locals != X.env.globals)) = false := by rw [I.ok.kind]; rfl
  have hiσ : i < σ.length := by rw [I.len]; exact (List.getElem?_eq_some_iff.mp hi).1
  have cne := I.cne
  have tracked : ∀ {a : Addr} {h' : Heap}, (∃ o, s.heap.get? a = some o ∧ H a = none) → Heap.SameBut a s.heap h' → HOk X.prog X.w H h' := fun {a h'} ha hs b ob e => by
    obtain ⟨_, _, hfree⟩ := ha
    refine (I.hok b ob e).stay (fun c w' hc q => (hs.2 c ?_).trans q) (fun _ q => q) fun _ _ q => q
    rintro rfl
    rcases hc with rfl | hc
    · rw [hfree] at e; cases e
    · rw [hfree] at hc; cases hc
  rcases hx with hk | hk
  · refine wpAny_storeName_local hk hn (fun h' hn' hs => ?_) hcls
    obtain ⟨oL, _, _, hoL, _⟩ := id hn
    refine h _ ⟨I.ok, I.os, I.bare, ⟨fun b o e n hb hx => ?_, fun b o e n hb hx => ?_, I.base.free, fun b o e hx => ?_, I.base.tups, I.base.frzs, I.base.tbls⟩, ⟨_, hn', fun j y v' e1 e2 e3 => ?_⟩, fun y c e => ?_, I.free, I.freeC, fun p hp => ?_, tracked ⟨oL, hoL, I.free⟩ hs, by simpa using I.len⟩ ⟨_, hs, .inl rfl⟩
    · exact (hs.2 b (Nat.ne_of_lt (Nat.lt_of_lt_of_le (Heap.lt_size e) I.ok.above))).trans (I.base.keep b o e n hb hx)
    · obtain ⟨sl, e1⟩ := I.base.slot b o e n hb hx
      exact ⟨sl, (hs.2 b (Nat.ne_of_lt (Nat.lt_of_lt_of_le (Heap.lt_size e) I.ok.above))).trans e1⟩
    · obtain ⟨o', e1⟩ := I.base.there b o e hx
      exact ⟨o', (hs.2 b (Nat.ne_of_lt (Nat.lt_of_lt_of_le (Heap.lt_size e) I.ok.above))).trans e1⟩
    · by_cases hj : j = i
      · subst hj
        rw [hi] at e1; cases e1
        rw [List.getElem?_set_self hiσ] at e2
        cases e2
        exact ⟨u, r, .inl ⟨hk, by simp⟩⟩
      · rw [List.getElem?_set_ne (Ne.symm hj)] at e2
        obtain ⟨u', r', q⟩ := hl j y v' e1 e2 e3
        refine ⟨u', r', ?_⟩
        rcases q with ⟨k, e⟩ | ⟨k, c, e, z⟩
        · refine .inl ⟨k, ?_⟩
          have : y ≠ x := fun e => hj (nodup_ix hN e1 (e ▸ hi))
          simp [this, e]
        · exact .inr ⟨k, c, e, z.sameBut hs (cne y c e)⟩
    · obtain ⟨w', z⟩ := I.cell y c e
      exact ⟨w', z.sameBut hs (cne y c e)⟩
    · obtain ⟨e, n, ne, nf, d⟩ := I.pin p hp
      exact ⟨(hs.2 p.1 ne).trans e, n, ne, nf, d⟩
  · have hfn : X.fn x = true := by
      rcases hf with z | z
      · exact z
      · rw [z] at hk; cases hk
    obtain ⟨c, hc⟩ := I.ok.has x (.inl hk)
    obtain ⟨w', z⟩ := I.cell x c hc
    refine wpAny_storeName_cell I.ok.kind hk hc z (fun h' hc' hs => ?_)
    obtain ⟨oc, hoc, hocd⟩ := id z
    refine h { s with heap := h' } ⟨I.ok, I.os, I.bare, ⟨fun b o e n hb hx => ?_, fun b o e n hb hx => ?_, I.base.free, fun b o e hx => ?_, I.base.tups, I.base.frzs, I.base.tbls⟩, ⟨m, hn.sameBut hs (Ne.symm (cne x c hc)), fun j y v' e1 e2 e3 => ?_⟩, fun y c' e => ?_, I.free, I.freeC, fun p hp => ?_, tracked ⟨oc, hoc, I.freeC x c hc⟩ hs, by simpa using I.len⟩ ⟨c, hs, .inr hc⟩
    · exact (hs.2 b (Nat.ne_of_lt (Nat.lt_of_lt_of_le (Heap.lt_size e) (I.ok.cab x c hfn hc)))).trans (I.base.keep b o e n hb hx)
    · obtain ⟨sl, e1⟩ := I.base.slot b o e n hb hx
      exact ⟨sl, (hs.2 b (Nat.ne_of_lt (Nat.lt_of_lt_of_le (Heap.lt_size e) (I.ok.cab x c hfn hc)))).trans e1⟩
    · obtain ⟨o', e1⟩ := I.base.there b o e hx
      exact ⟨o', (hs.2 b (Nat.ne_of_lt (Nat.lt_of_lt_of_le (Heap.lt_size e) (I.ok.cab x c hfn hc)))).trans e1⟩
    · by_cases hj : j = i
      · subst hj
        rw [hi] at e1; cases e1
        rw [List.getElem?_set_self hiσ] at e2
        cases e2
        exact ⟨u, r, .inr ⟨.inl hk, c, hc, hc'⟩⟩
      · rw [List.getElem?_set_ne (Ne.symm hj)] at e2
        obtain ⟨u', r', q⟩ := hl j y v' e1 e2 e3
        refine ⟨u', r', ?_⟩
        rcases q with q | ⟨k, c', e, z'⟩
        · exact .inl q
        · refine .inr ⟨k, c', e, z'.sameBut hs ?_⟩
          rintro rfl
          exact hj (nodup_ix hN e1 (I.ok.inj _ _ _ e hc ▸ hi))
    · by_cases hcc : c' = c
      · subst hcc; exact ⟨_, hc'⟩
      · obtain ⟨w2, z2⟩ := I.cell y c' e
        exact ⟨w2, z2.sameBut hs hcc⟩
    · obtain ⟨e, n, ne, nf, d⟩ := I.pin p hp
      refine ⟨(hs.2 p.1 ?_).trans e, n, ne, nf, d⟩
      intro q
      rw [q, hoc] at e
      have q' : oc = p.2 := Option.some.inj e
      exact d w' (by rw [← q']; exact hocd)
theorem store_ok {M : Model} {A : Around} {E : Value → Shared → Prop} {i : Nat} {x : Str} {v : V} {u : Value} {Q : Unit → Shared → Prop} (I : Inv X pins σ H s) (hN : X.N.Nodup) (hi : X.N[i]? = some x) (hx : Loc X.env.scope x) (r : RelV v u)
    (h : ∀ s', Inv X pins (σ.set i (some v)) H s' → Q () s') (hf : X.fn x = true ∨ X.env.scope.names.lookup x = some .local := by first | exact .inl rfl | exact .inr rfl | assumption) : wpAny M A (storeName X.env x u) Q E s :=
  store_ok2 I hN hi hx r (fun s' I' _ => h s' I') hf
theorem Inv.call' {s' : Shared} {ch : List Addr} (I : Inv X pins σ H s) (ho : s'.os = s.os) (u : Un (frs X.stack) ch H H' s.heap s'.heap) (hok : HOk X.prog X.w H' s'.heap) (hg : AllBare s'.gens)
    (hch : ∀ b ∈ ch, (b ∈ X.ex ∨ X.s₀.heap.objs.size ≤ b) ∧ b ≠ X.env.locals ∧ (∀ x c, X.env.cells.lookup x = some c → c ≠ b) ∧ ∀ p ∈ X.pn ++ pins, p.1 ≠ b) : Inv X pins σ H' s' := by
  obtain ⟨h', g', d', t', o'⟩ := s'
  have e : o' = s.os := ho
  subst e
  exact I.call (g' := g') (t' := t') (d' := d') u hok hg hch
end

abbrev XK := Value → Option Addr → Hp → Prop
abbrev St := List (Option V)
abbrev VK := V → Hp → Prop
abbrev TE := St → Hp → VK → Prop
abbrev TT := St → Hp → (Bool → Hp → Prop) → Prop
abbrev TA := St → Hp → (List V → Hp → Prop) → Prop
structure Ends where
  nx : St → Hp → Prop
  rt : VK
  bk : St → Hp → Prop := fun _ _ => False
  ct : St → Hp → Prop := fun _ _ => False
abbrev TS := Ends → St → Hp → Prop

def EP (X : Cx) (pins : List (Addr × Obj)) (σ : St) (Q : VK) (u : Value) (s' : Shared) : Prop := ∃ v H', Inv X pins σ H' s' ∧ RelV v u ∧ Q v H'
def TP (X : Cx) (pins : List (Addr × Obj)) (σ : St) (Q : Bool → Hp → Prop) (b : Bool) (s' : Shared) : Prop := ∃ H', Inv X pins σ H' s' ∧ Q b H'
def AP (X : Cx) (pins : List (Addr × Obj)) (σ : St) (Q : List V → Hp → Prop) (us : List Value) (s' : Shared) : Prop := ∃ vs H', Inv X pins σ H' s' ∧ Vals vs us ∧ Q vs H'
def SP (X : Cx) (pins : List (Addr × Obj)) (D : Ends) (f : Flow) (s' : Shared) : Prop :=
  match f with
  | .next => ∃ σ' H', Inv X pins σ' H' s' ∧ D.nx σ' H'
  | .brk => ∃ σ' H', Inv X pins σ' H' s' ∧ D.bk σ' H'
  | .cont => ∃ σ' H', Inv X pins σ' H' s' ∧ D.ct σ' H'
  | .ret u => ∃ v σ' H', Inv X pins σ' H' s' ∧ RelV v u ∧ D.rt v H'

def PE (X : Cx) (e : Expr) (t : TE) : Prop :=
  ∀ (pins : List (Addr × Obj)) (s : Shared) (σ : St) (H : Hp) (Q : VK), Inv X pins σ H s → t σ H Q → wpAny (model X.prog X.w) X.A (eval e X.env) (EP X pins σ Q) X.xe s
def PT (X : Cx) (e : Expr) (t : TT) : Prop :=
  ∀ (pins : List (Addr × Obj)) (s : Shared) (σ : St) (H : Hp) (Q : Bool → Hp → Prop), Inv X pins σ H s → t σ H Q → wpAny (model X.prog X.w) X.A (isTrue e X.env (eval e X.env)) (TP X pins σ Q) X.xe s
def PW (X : Cx) (e : Expr) (t : TT) : Prop :=
  ∀ (whole : Sem Value) (pins : List (Addr × Obj)) (s : Shared) (σ : St) (H : Hp) (Q : Bool → Hp → Prop), Inv X pins σ H s → t σ H Q → wpAny (model X.prog X.w) X.A (isTrue e X.env whole) (TP X pins σ Q) X.xe s
theorem PW.pt {X : Cx} {e : Expr} {t : TT} (h : PW X e t) : PT X e t := h _
def PA (X : Cx) (es : List Expr) (t : TA) : Prop :=
  ∀ (pos : Pos) (pins : List (Addr × Obj)) (s : Shared) (σ : St) (H : Hp) (Q : List V → Hp → Prop), Inv X pins σ H s → t σ H Q → wpAny (model X.prog X.w) X.A (spliced (backTo pos (starEach es X.env))) (AP X pins σ Q) X.xe s
def PS (X : Cx) (st : Stmt) (t : TS) : Prop :=
  ∀ (pins : List (Addr × Obj)) (s : Shared) (σ : St) (H : Hp) (D : Ends), Inv X pins σ H s → t D σ H → wpAny (model X.prog X.w) X.A (exec st X.env) (SP X pins D) X.xe s
def PSs (X : Cx) (st : List Stmt) (t : TS) : Prop :=
  ∀ (pins : List (Addr × Obj)) (s : Shared) (σ : St) (H : Hp) (D : Ends), Inv X pins σ H s → t D σ H → wpAny (model X.prog X.w) X.A (execs st X.env) (SP X pins D) X.xe s
theorem thn {α : Type} {t : Sem α} {Q Q' : α → Shared → Prop} {M : Model} {A : Around} {E : Value → Shared → Prop} {s : Shared} (h : wpAny M A t Q E s) (hQ : ∀ a s, Q a s → Q' a s) : wpAny M A t Q' E s := wpAny_mono h hQ fun _ _ x => x
end L2

namespace L2
open PySem PySem.Spec PyProof.Rows
section
variable {X : Cx}


def tVar (i : Nat) : TE := fun σ H Q => ∃ v, σ[i]? = some (some v) ∧ Q v H
def tC (v : V) : TE := fun _ H Q => Q v H
theorem pe_var {i : Nat} {x : Str} {pos : Pos} (hN : X.N[i]? = some x) (hv : Vis X.env.scope x) (hd : (x == ("__debug__" : Str)) = false := by decide) (hcd : (x == ("__classdict__" : Str)) = false := by decide) : PE X (.Name x pos) (tVar i) := by
  intro pins s σ H Q I h
  obtain ⟨v, e, h⟩ := h
  obtain ⟨m, hn, hl⟩ := I.loc
  obtain ⟨u, r, l⟩ := hl i x v hN e hv
  have fin : EP X pins σ Q u s := ⟨v, H, I, r, h⟩
  rcases l with ⟨hk, hm⟩ | ⟨hk, c, hc, hcell⟩
  · exact wpAny_Name (wpAny_loadName_local I.ok.kind hk hn hm fin) hd
  · rcases hk with hk | hk
    · exact wpAny_Name (wpAny_loadName_cell I.ok.kind hk hc hcell fin) hd
    · exact wpAny_Name (wpAny_loadName_free I.ok.kind hk hc hcell fin hcd) hd
theorem pe_int {i j pos} : PE X (.Constant (.int i) j pos) (tC (.int i)) := fun _ _ _ H _ I h => wpAny_Constant_int ⟨.int i, H, I.tok _, ⟨_, rfl⟩, h⟩
theorem pe_bl {b j pos} : PE X (.Constant (.bool b) j pos) (tC (.bl b)) := fun _ _ _ H _ I h => Constant_bool ⟨.bl b, H, I, rfl, h⟩

def Gl (X : Cx) (x : Str) : Prop := X.env.kindOf x = some .globalImplicit
theorem ld_glob {E : Value → Shared → Prop} {pins : List (Addr × Obj)} {s : Shared} {σ : St} {H : Hp} {x : Str} {u : Value} {pos : Pos} {Q : Value → Shared → Prop} (I : Inv X pins σ H s) (hg : Gl X x) (hm : X.mg x = some u) (h : Q u s)
    (hd : (x == ("__debug__" : Str)) = false := by decide) : wpAny (model X.prog X.w) X.A (eval (.Name x pos) X.env) Q E s :=
  Calls.Name_function_global I.ok.kind hg (Calls.loadGlobal_global (by rw [I.ok.glob]; exact I.mod.glob.keeps I.bk) hm h) hd
theorem ld_blt {E : Value → Shared → Prop} {pins : List (Addr × Obj)} {s : Shared} {σ : St} {H : Hp} {x : Str} {u : Value} {pos : Pos} {Q : Value → Shared → Prop} (I : Inv X pins σ H s) (hg : Gl X x) (hm : X.mg x = none) (hv : bootBuiltins x = some u) (h : Q u s)
    (hn : x ≠ "__name__" := by decide) (hd : (x == ("__debug__" : Str)) = false := by decide) : wpAny (model X.prog X.w) X.A (eval (.Name x pos) X.env) Q E s := by
  obtain ⟨mb, h1, h2⟩ := I.mod.blt
  exact Calls.Name_function_global I.ok.kind hg (Calls.loadGlobal_builtin (by rw [I.ok.glob]; exact I.mod.glob.keeps I.bk) hm (by rw [I.ok.blt]; exact h1.keeps I.bk) ((h2 x hn).trans hv) h) hd
theorem pe_glob {x : Str} {v : V} {u : Value} {pos : Pos} (hg : Gl X x) (hm : X.mg x = some u) (r : RelV v u) (hd : (x == ("__debug__" : Str)) = false := by decide) : PE X (.Name x pos) (tC v) :=
  fun _ _ _ H _ I h => ld_glob I hg hm ⟨v, H, I, r, h⟩ hd
theorem pe_bltn {x : Str} {v : V} {u : Value} {pos : Pos} (hg : Gl X x) (hm : X.mg x = none) (hv : bootBuiltins x = some u) (r : RelV v u) (hn : x ≠ "__name__" := by decide) (hd : (x == ("__debug__" : Str)) = false := by decide) : PE X (.Name x pos) (tC v) :=
  fun _ _ _ H _ I h => ld_blt I hg hm hv ⟨v, H, I, r, h⟩ hn hd

def t2I (ta tb : TE) (k : Int → Int → Hp → Prop) : St → Hp → Prop := fun σ H => ta σ H fun x H1 => tb σ H1 fun y H2 => ∃ i j, x = .int i ∧ y = .int j ∧ k i j H2
def tAdd (ta tb : TE) : TE := fun σ H Q => t2I ta tb (fun i j H2 => Q (.int (i + j)) H2) σ H
def tSub (ta tb : TE) : TE := fun σ H Q => t2I ta tb (fun i j H2 => Q (.int (i - j)) H2) σ H
def tMul (ta tb : TE) : TE := fun σ H Q => t2I ta tb (fun i j H2 => (-(2 ^ 64) < i ∧ i < 2 ^ 64) ∧ Q (.int (i * j)) H2) σ H
variable {a b : Expr} {ta tb : TE} {pos : Pos}

def PC (X : Cx) (op : CmpOp) (a b : Expr) (t : TE) : Prop :=
  ∀ (pins : List (Addr × Obj)) (s : Shared) (σ : St) (H : Hp) (Q : VK), Inv X pins σ H s → t σ H Q →
    wpAny (model X.prog X.w) X.A (eval a X.env) (fun v s₁ => wpAny (model X.prog X.w) X.A (eval b X.env) (fun u s₂ => wpAny (model X.prog X.w) X.A (compareOp op v u) (EP X pins σ Q) X.xe s₂) X.xe s₁) X.xe s
theorem nobehind (b : Expr) {op : CmpOp} (h : op ≠ .In) (h2 : op ≠ .NotIn) : behindInMarks op b = false := by
  have e1 : (op == CmpOp.In) = false := by cases op <;> first | rfl | exact absurd rfl h
  have e2 : (op == CmpOp.NotIn) = false := by cases op <;> first | rfl | exact absurd rfl h2
  cases b <;> simp [behindInMarks, e1, e2]
def tCmp (p : Int → Int → Bool) (ta tb : TE) : TE := fun σ H Q => t2I ta tb (fun i j H2 => Q (.bl (p i j)) H2) σ H
abbrev tLt : TE → TE → TE := tCmp fun i j => decide (i < j)
abbrev tLe : TE → TE → TE := tCmp fun i j => decide (i ≤ j)
abbrev tGt : TE → TE → TE := tCmp fun i j => decide (j < i)
abbrev tGe : TE → TE → TE := tCmp fun i j => decide (j ≤ i)
abbrev tEqI : TE → TE → TE := tCmp fun i j => decide (i = j)
abbrev tNeI : TE → TE → TE := tCmp fun i j => !decide (i = j)
def tIsN (ta : TE) : TE := fun σ H Q => ta σ H fun x H1 => Q (.bl (decide (x = .non))) H1
def tNotN (ta : TE) : TE := fun σ H Q => ta σ H fun x H1 => Q (.bl (!decide (x = .non))) H1
theorem RelV.none_iff {x : V} {v : Value} (r : RelV x v) : (v == Value.none) = decide (x = .non) := by
  cases x with
  | non => cases r; rfl
  | bl _ => cases r; rfl
  | int _ => obtain ⟨t, rfl⟩ := r; rfl
  | str _ => obtain ⟨t, rfl⟩ := r; rfl
  | byt _ => obtain ⟨t, rfl⟩ := r; rfl
  | flt _ => obtain ⟨t, rfl⟩ := r; rfl
  | ref _ => cases r; rfl
  | ty _ => cases r; rfl
theorem pc_isN {j pos'} (ha : PE X a ta) : PC X .Is a (.Constant .none j pos') (tIsN ta) := by
  intro pins s σ H Q I h
  refine thn (ha pins s σ H _ I h) fun v s1 ⟨x, H1, I1, r1, q1⟩ => ?_
  exact Constant_none (is_none_gen ⟨.bl _, H1, I1, by rw [r1.none_iff]; rfl, q1⟩)
def tB (t : TE) : TT := fun σ H Q => t σ H fun x H1 => ∃ c, x = .bl c ∧ Q c H1
theorem pt_cmp {op : CmpOp} {t : TE} (h : PC X op a b t) (h1 : behindInMarks op b = false := by first | exact nobehind _ (by decide) (by decide) | rfl) : PT X (.Compare a [op] [b] pos) (tB t) := by
  intro pins s σ H Q I hw
  refine wpAny_isTrue_Compare1 (thn (h pins s σ H _ I hw) fun v s1 h1 => thn h1 fun u s2 h2 => thn h2 fun c s3 ⟨x, H1, I1, r1, q1⟩ => ?_) h1
  obtain ⟨d, rfl, q⟩ := q1
  cases r1
  exact wpAny_truthy_bool ⟨H1, I1, q⟩
theorem pt_val {e : Expr} {t : TE} (h : PE X e t) (he : ∀ whole, isTrue e X.env whole = (do let v ← whole; standAt e.pos; holding [v] (truthy v)) := by intro _; rfl) : PT X e (tB t) := by
  intro pins s σ H Q I hw
  refine isTrue_plain (thn (h pins s σ H _ I hw) fun v s1 ⟨x, H1, I1, r1, q1⟩ => ?_) (he _)
  obtain ⟨d, rfl, q⟩ := q1
  cases r1
  exact wpAny_truthy_bool ⟨H1, I1, q⟩

variable {tA tB' : TT} {rest : List Expr}
def tAnd (t u : TT) : TT := fun σ H Q => t σ H fun c H1 => if c = true then u σ H1 Q else Q false H1
def tOr (t u : TT) : TT := fun σ H Q => t σ H fun c H1 => if c = true then Q true H1 else u σ H1 Q
def tNot (t : TT) : TT := fun σ H Q => t σ H fun c H1 => Q (!c) H1
theorem pw_and1 (ha : PT X a tA) : PW X (.BoolOp .And [a] pos) tA := by
  intro wh pins s σ H Q I h
  refine isTrue_and (thn (ha pins s σ H Q I h) fun c s1 e => ?_)
  cases c with
  | true => exact isTrue_and_nil e
  | false => exact e
theorem pw_or1 (ha : PT X a tA) : PW X (.BoolOp .Or [a] pos) tA := by
  intro wh pins s σ H Q I h
  refine isTrue_or (thn (ha pins s σ H Q I h) fun c s1 e => ?_)
  cases c with
  | false => exact isTrue_or_nil e
  | true => exact e
theorem pw_and (ha : PT X a tA) (hb : PW X (.BoolOp .And (b :: rest) pos) tB') : PW X (.BoolOp .And (a :: b :: rest) pos) (tAnd tA tB') := by
  intro wh pins s σ H Q I h
  refine isTrue_and (thn (ha pins s σ H _ I h) fun c s1 ⟨H1, I1, q1⟩ => ?_)
  cases c with
  | true => exact hb wh pins s1 σ H1 Q I1 q1
  | false => exact ⟨H1, I1, q1⟩
theorem pw_or (ha : PT X a tA) (hb : PW X (.BoolOp .Or (b :: rest) pos) tB') : PW X (.BoolOp .Or (a :: b :: rest) pos) (tOr tA tB') := by
  intro wh pins s σ H Q I h
  refine isTrue_or (thn (ha pins s σ H _ I h) fun c s1 ⟨H1, I1, q1⟩ => ?_)
  cases c with
  | true => exact ⟨H1, I1, q1⟩
  | false => exact hb wh pins s1 σ H1 Q I1 q1
theorem pt_not (ha : PT X a tA) : PT X (.UnaryOp .Not a pos) (tNot tA) := by
  intro pins s σ H Q I h
  exact isTrue_not (ha pins s σ H (fun c H1 => Q (!c) H1) I h)
def tAndV (ta tb : TE) : TE := fun σ H Q => ta σ H fun x H1 => ∃ c, x = .bl c ∧ if c = true then tb σ H1 Q else Q (.bl false) H1
def tOrV (ta tb : TE) : TE := fun σ H Q => ta σ H fun x H1 => ∃ c, x = .bl c ∧ if c = true then Q (.bl true) H1 else tb σ H1 Q
def tNotV (ta : TE) : TE := fun σ H Q => ta σ H fun x H1 => ∃ c, x = .bl c ∧ Q (.bl (!c)) H1
theorem pe_one {op} {t : TE} (h : PE X a t) : PE X (.BoolOp op [a] pos) t := fun pins s σ H Q I hw => BoolOp_one (h pins s σ H Q I hw)
theorem pe_and (ha : PE X a ta) (hb : PE X (.BoolOp .And (b :: rest) pos) tb) : PE X (.BoolOp .And (a :: b :: rest) pos) (tAndV ta tb) := by
  intro pins s σ H Q I h
  refine BoolOp_and (thn (ha pins s σ H _ I h) fun v s1 ⟨x, H1, I1, r1, q1⟩ => ?_)
  obtain ⟨c, rfl, q1⟩ := q1
  cases r1
  refine wpAny_truthy_bool ?_
  cases c with
  | true => exact hb pins s1 σ H1 Q I1 q1
  | false => exact ⟨.bl false, H1, I1, rfl, q1⟩
theorem pe_not (ha : PE X a ta) : PE X (.UnaryOp .Not a pos) (tNotV ta) := by
  intro pins s σ H Q I h
  refine UnaryOp_ (thn (ha pins s σ H _ I h) fun v s1 ⟨x, H1, I1, r1, q1⟩ => ?_)
  obtain ⟨c, rfl, q1⟩ := q1
  cases r1
  exact not_of (wpAny_truthy_bool ⟨.bl (!c), H1, I1, rfl, q1⟩)
def tIf (t : TT) (ta tb : TE) : TE := fun σ H Q => t σ H fun c H1 => if c = true then ta σ H1 Q else tb σ H1 Q
theorem pe_ifExp {c : Expr} (hc : PT X c tA) (ha : PE X a ta) (hb : PE X b tb) : PE X (.IfExp c a b pos) (tIf tA ta tb) := by
  intro pins s σ H Q I h
  refine wpAny_IfExp (thn (hc pins s σ H _ I h) fun d s1 ⟨H1, I1, q1⟩ => ?_)
  cases d with
  | true => exact ha pins s1 σ H1 Q I1 q1
  | false => exact hb pins s1 σ H1 Q I1 q1
end
end L2

namespace L2
open PySem PySem.Spec PyProof.Rows

def SqL (K : PySem.W.Frag) (H : Hp) (a : Addr) (xs : List V) : Prop :=
  Rd H a (.lst xs) ∨
    ∃ (o : Obj) (its : Array Value) (n : Nat), K.lookup a = some o ∧ o.cls = .type "list" ∧ o.dict = none ∧ o.data = .seq its n ∧ its.size ≤ sizeLine ∧ Vals xs its.toList
def SqT (K : PySem.W.Frag) (H : Hp) (a : Addr) (xs : List V) : Prop :=
  Rd H a (.tup xs) ∨
    ∃ (o : Obj) (its : Array Value) (n : Nat), K.lookup a = some o ∧ o.cls = .type "tuple" ∧ o.data = .seq its n ∧ its.size ≤ sizeLine ∧ Vals xs its.toList
def absV : Value → Option V
  | .none => some .non
  | .bool b => some (.bl b)
  | .int i _ => some (.int i)
  | .str x _ => some (.str x)
  | .bytes b _ => some (.byt b)
  | .float b _ => some (.flt b)
  | .ref a => some (.ref a)
  | .type n => some (.ty n)
  | _ => none
theorem RelV.abs {x : V} {u : Value} (r : RelV x u) : absV u = some x := by
  cases x with
  | non => cases r; rfl
  | bl _ => cases r; rfl
  | int _ => obtain ⟨t, rfl⟩ := r; rfl
  | str _ => obtain ⟨t, rfl⟩ := r; rfl
  | byt _ => obtain ⟨t, rfl⟩ := r; rfl
  | flt _ => obtain ⟨t, rfl⟩ := r; rfl
  | ref _ => cases r; rfl
  | ty _ => cases r; rfl
theorem RelV.inj {x y : V} {u : Value} (r : RelV x u) (q : RelV y u) : x = y := Option.some.inj (r.abs.symm.trans q.abs)
theorem Vals.inj : ∀ {xs ys : List V} {us : List Value}, Vals xs us → Vals ys us → xs = ys
  | _, _, _, .nil, .nil => rfl
  | _, _, _, .cons r t, .cons r' t' => by rw [r.inj r', Vals.inj t t']
section
variable {X : Cx} {pins : List (Addr × Obj)} {σ : St} {H : Hp} {s : Shared} {a : Addr} {xs ys : List V}
theorem SqL.of {K : PySem.W.Frag} (h : H a = some (.lst xs)) : SqL K H a xs := .inl (.inl h)
theorem SqT.of {K : PySem.W.Frag} (h : H a = some (.tup xs)) : SqT K H a xs := .inl (.inl h)
theorem Inv.list (I : Inv X pins σ H s) (h : SqL X.K H a xs) : ∃ its : List Value, Vals xs its ∧ PlainL s.heap a its.toArray ∧ xs.length ≤ sizeLine := by
  rcases h with h | ⟨o, its, n, hk, hc, hd, hs, hz, r⟩
  · obtain ⟨z, its, n, r, e⟩ := h.ok I.hok
    exact ⟨its, r, ⟨_, n, e, rfl, rfl, rfl⟩, z⟩
  · refine ⟨its.toList, r, ⟨o, n, I.kIn a o hk, hc, hd, by simpa using hs⟩, ?_⟩
    have e := r.length
    simp only [Array.length_toList] at e
    omega
theorem Inv.tuple (I : Inv X pins σ H s) (h : SqT X.K H a xs) : ∃ its : List Value, Vals xs its ∧ IsTup s.heap a its.toArray ∧ xs.length ≤ sizeLine := by
  rcases h with h | ⟨o, its, n, hk, hc, hs, hz, r⟩
  · obtain ⟨z, its, r, p⟩ := h.ok I.hok
    exact ⟨its, r, p, z⟩
  · refine ⟨its.toList, r, ⟨o, I.kIn a o hk, hc, n, by simpa using hs⟩, ?_⟩
    have e := r.length
    simp only [Array.length_toList] at e
    omega
theorem Inv.list_inj (I : Inv X pins σ H s) (h : SqL X.K H a xs) (h' : SqL X.K H a ys) : xs = ys := by
  obtain ⟨its, r, ⟨o, n, e, _, _, d⟩, _⟩ := I.list h
  obtain ⟨its', r', ⟨o', n', e', _, _, d'⟩, _⟩ := I.list h'
  rw [e] at e'; cases e'
  rw [d] at d'
  injection d' with d1 _
  have : its = its' := by simpa using congrArg Array.toList d1
  subst this
  exact r.inj r'
theorem Inv.tuple_inj (I : Inv X pins σ H s) (h : SqT X.K H a xs) (h' : SqT X.K H a ys) : xs = ys := by
  obtain ⟨its, r, ⟨o, e, _, n, d⟩, _⟩ := I.tuple h
  obtain ⟨its', r', ⟨o', e', _, n', d'⟩, _⟩ := I.tuple h'
  rw [e] at e'; cases e'
  rw [d] at d'
  injection d' with d1 _
  have : its = its' := by simpa using congrArg Array.toList d1
  subst this
  exact r.inj r'
end

abbrev Cx.wish (X : Cx) (E : Value → Shared → Prop) : Cx := { X with xe := E }
abbrev Cx.nox (X : Cx) : Cx := X.wish fun _ _ => False
theorem Cx.Ok.wish {X : Cx} (ok : X.Ok) (E : Value → Shared → Prop) : (X.wish E).Ok :=
  ⟨ok.mod, ok.kind, ok.glob, ok.blt, ok.above, ok.inj, ok.has, ok.cab, ok.hd, ok.frames, ok.stk, ok.exf, ok.bs, ok.bsz, ok.noex, ok.exfs, ok.funs, ok.frf⟩
theorem Cx.Ok.unwish {X : Cx} {E : Value → Shared → Prop} (ok : (X.wish E).Ok) : X.Ok :=
  ⟨ok.mod, ok.kind, ok.glob, ok.blt, ok.above, ok.inj, ok.has, ok.cab, ok.hd, ok.frames, ok.stk, ok.exf, ok.bs, ok.bsz, ok.noex, ok.exfs, ok.funs, ok.frf⟩
section
variable {X : Cx} {pins : List (Addr × Obj)} {σ : St} {H : Hp} {s : Shared} {E : Value → Shared → Prop}
theorem Inv.wish (I : Inv X pins σ H s) (E : Value → Shared → Prop) : Inv (X.wish E) pins σ H s := ⟨I.ok.wish E, I.os, I.bare, I.base, I.loc, I.cell, I.free, I.freeC, I.pin, I.hok, I.len⟩
theorem Inv.unwish (I : Inv (X.wish E) pins σ H s) : Inv X pins σ H s := ⟨I.ok.unwish, I.os, I.bare, I.base, I.loc, I.cell, I.free, I.freeC, I.pin, I.hok, I.len⟩
theorem SP.unwish {D : Ends} {f : Flow} {s' : Shared} (h : SP (X.wish E) pins D f s') : SP X pins D f s' := by
  cases f with
  | next => obtain ⟨σ', H', I, q⟩ := h; exact ⟨σ', H', I.unwish, q⟩
  | brk => obtain ⟨σ', H', I, q⟩ := h; exact ⟨σ', H', I.unwish, q⟩
  | cont => obtain ⟨σ', H', I, q⟩ := h; exact ⟨σ', H', I.unwish, q⟩
  | ret u => obtain ⟨v, σ', H', I, r, q⟩ := h; exact ⟨v, σ', H', I.unwish, r, q⟩
theorem PE.nox {e : Expr} {t : TE} (h : PE X.nox e t) : PE X e t := fun pins s σ H Q I hw =>
  wpAny_mono (h pins s σ H Q (I.wish _) hw) (fun _ _ ⟨v, H', I', r, q⟩ => ⟨v, H', I'.unwish, r, q⟩) fun _ _ z => False.elim z
theorem PT.nox {e : Expr} {t : TT} (h : PT X.nox e t) : PT X e t := fun pins s σ H Q I hw =>
  wpAny_mono (h pins s σ H Q (I.wish _) hw) (fun _ _ ⟨H', I', q⟩ => ⟨H', I'.unwish, q⟩) fun _ _ z => False.elim z
theorem PSs.nox {st : List Stmt} {t : TS} (h : PSs X.nox st t) : PSs X st t := fun pins s σ H D I hw =>
  wpAny_mono (h pins s σ H D (I.wish _) hw) (fun _ _ q => q.unwish) fun _ _ z => False.elim z
end

section
variable {X : Cx} {st : Stmt} {rest : List Stmt} {t u : TS} {e : Expr} {te : TE} {pos : Pos}
def tNext : TS := fun D σ H => D.nx σ H
def tSeq (t u : TS) : TS := fun D σ H => t { D with nx := u D } σ H
theorem pss_nil : PSs X [] tNext := fun _ _ σ H _ I h => wpAny_execs_nil ⟨σ, H, I, h⟩
theorem pss_cons (h1 : PS X st t) (h2 : PSs X rest u) : PSs X (st :: rest) (tSeq t u) := by
  intro pins s σ H D I h
  refine wpAny_execs_cons (thn (h1 pins s σ H { D with nx := u D } I h) fun f s1 q => ?_)
  cases f with
  | next =>
    obtain ⟨σ', H', I', q⟩ := q
    exact h2 pins s1 σ' H' D I' q
  | ret v => exact q
  | brk => exact q
  | cont => exact q
def tBreak : TS := fun D σ H => D.bk σ H
def tCont : TS := fun D σ H => D.ct σ H
theorem Inv.quiet {pins : List (Addr × Obj)} {σ : St} {H : Hp} {s : Shared} (I : Inv X pins σ H s) : interactive X.env = false := by simp [interactive, I.ok.kind]
def tDrop (te : TE) : TS := fun D σ H => te σ H fun _ H1 => D.nx σ H1
theorem ps_expr (he : PE X e te) (hs : swapsWith e none pos.line X.env = pure false := by rfl) : PS X (.Expr e pos) (tDrop te) := by
  intro pins s σ H D I h
  exact wpAny_Expr_any (thn (he pins s σ H _ I h) fun v s1 ⟨x, H1, I1, r1, q1⟩ => ⟨σ, H1, I1, q1⟩) I.quiet hs
def tRet (te : TE) : TS := fun D σ H => te σ H D.rt
theorem ps_ret (he : PE X e te) : PS X (.Return (some e) pos) (tRet te) := by
  intro pins s σ H D I h
  exact wpAny_Return_some (thn (he pins s σ H _ I h) fun v s1 ⟨x, H1, I1, r1, q1⟩ => ⟨x, σ, H1, I1, r1, q1⟩)
def tRetN : TS := fun D _ H => D.rt .non H
def tIfS (c : TT) (t u : TS) : TS := fun D σ H => c σ H fun b H1 => if b = true then t D σ H1 else u D σ H1
theorem ps_if {c : Expr} {a b : List Stmt} {tc : TT} (hc : PT X c tc) (ha : PSs X a t) (hb : PSs X b u) : PS X (.If c a b pos) (tIfS tc t u) := by
  intro pins s σ H D I h
  refine wpAny_If (thn (hc pins s σ H _ I h) fun d s1 ⟨H1, I1, q1⟩ => ?_)
  cases d with
  | true => exact ha pins s1 σ H1 D I1 q1
  | false => exact hb pins s1 σ H1 D I1 q1
def tNever : TS := fun _ _ _ => False
theorem pss_never {sts : List Stmt} : PSs X sts tNever := fun _ _ _ _ _ _ h => h.elim
end

abbrev TG := V → St → Hp → (St → Hp → Prop) → Prop
abbrev TGs := List V → St → Hp → (St → Hp → Prop) → Prop
def PG (X : Cx) (target : Expr) (t : TG) : Prop :=
  ∀ (pins : List (Addr × Obj)) (s : Shared) (σ : St) (H : Hp) (v : V) (u : Value) (Q : St → Hp → Prop), Inv X pins σ H s → RelV v u → t v σ H Q →
    wpAny (model X.prog X.w) X.A (assign target X.env u) (fun _ s' => ∃ σ' H', Inv X pins σ' H' s' ∧ Q σ' H') X.xe s
def PGs (X : Cx) (ts : List Expr) (t : TGs) : Prop :=
  ∀ (pins : List (Addr × Obj)) (s : Shared) (σ : St) (H : Hp) (vs : List V) (us : List Value) (Q : St → Hp → Prop), Inv X pins σ H s → Vals vs us → t vs σ H Q →
    wpAny (model X.prog X.w) X.A (assignInOrder ((assignEach ts X.env).map (·.2)) us) (fun _ s' => ∃ σ' H', Inv X pins σ' H' s' ∧ Q σ' H') X.xe s
abbrev TSet := V → V → V → Hp → (Hp → Prop) → Prop
def PSet (X : Cx) (t : TSet) : Prop :=
  ∀ (pins : List (Addr × Obj)) (s : Shared) (σ : St) (H : Hp) (o i v : V) (ov iv u : Value) (Q : Hp → Prop), Inv X pins σ H s → RelV o ov → RelV i iv → RelV v u → t o i v H Q →
    wpAny (model X.prog X.w) X.A (setItem ov iv u) (fun _ s' => ∃ H', Inv X pins σ H' s' ∧ Q H') X.xe s
abbrev TIp := V → V → Hp → VK → Prop
def PIp (X : Cx) (op : Operator) (t : TIp) : Prop :=
  ∀ (pins : List (Addr × Obj)) (s : Shared) (σ : St) (H : Hp) (x y : V) (v u : Value) (Q : VK), Inv X pins σ H s → RelV x v → RelV y u → t x y H Q →
    wpAny (model X.prog X.w) X.A (inplaceOp op v u) (EP X pins σ Q) X.xe s
section
variable {X : Cx} {pos : Pos}
def gName (i : Nat) : TG := fun v σ H Q => Q (σ.set i (some v)) H
theorem pg_name {i : Nat} {x : Str} (hN : X.N.Nodup) (hi : X.N[i]? = some x) (hx : Loc X.env.scope x) (hf : X.fn x = true ∨ X.env.scope.names.lookup x = some .local := by first | exact .inl rfl | exact .inr rfl | assumption) : PG X (.Name x pos) (gName i) := by
  intro pins s σ H v u Q I r h
  exact wpAny_assign_Name (store_ok I hN hi hx r (fun s' I' => ⟨_, H, I', h⟩) hf)
def gNil : TGs := fun vs σ H Q => vs = [] ∧ Q σ H
def gCons (t : TG) (u : TGs) : TGs := fun vs σ H Q => ∃ v r, vs = v :: r ∧ t v σ H fun σ' H' => u r σ' H' Q
theorem pgs_nil : PGs X [] gNil := by
  intro pins s σ H vs us Q I r h
  obtain ⟨e, h⟩ := h
  subst e
  cases r
  exact assignInOrder_nil ⟨σ, H, I, h⟩
theorem pgs_cons {e : Expr} {es : List Expr} {t : TG} {u : TGs} (h1 : PG X e t) (h2 : PGs X es u)
    (hs : (assignEach (e :: es) X.env).map (·.2) = assign e X.env :: (assignEach es X.env).map (·.2) := by rfl) : PGs X (e :: es) (gCons t u) := by
  intro pins s σ H vs us Q I r h
  obtain ⟨v, vr, e1, h⟩ := h
  subst e1
  cases r with
  | cons r rr =>
    rw [hs]
    refine assignInOrder_cons (thn (h1 pins s σ H _ _ _ I r h) fun _ s1 ⟨σ1, H1, I1, q1⟩ => ?_)
    exact h2 pins s1 σ1 H1 _ _ Q I1 rr q1
def gTup (K : PySem.W.Frag) (n : Nat) (t : TGs) : TG := fun v σ H Q => ∃ a xs, v = .ref a ∧ SqT K H a xs ∧ xs.length = n ∧ t xs σ H Q
theorem pg_tup {es : List Expr} {k : Nat} {t : TGs} {n : Nat} (hc : X.calm = true) (h : PGs X es t)
    (hn : (assignEach es X.env).length = n := by rfl) (hst : (assignEach es X.env).findIdx? (·.1) = none := by rfl) : PG X (.Tuple es k pos) (gTup X.K n t) := by
  intro pins s σ H v u Q I r hw
  obtain ⟨a, xs, e1, hq, hl, hw⟩ := hw
  subst e1
  cases r
  obtain ⟨its, rv, ht, hz⟩ := I.tuple hq
  refine assign_Tuple_tuple (I.ok.hd hc) ht (by simp [hn, ← hl, rv.length]) hst fun h' hx => ?_
  have I1 : Inv X pins σ H { s with heap := h' } := I.kept (t' := s.toks) fun b o e => hx b o (Nat.ne_of_lt (Heap.lt_size e)) e
  exact h pins _ σ H xs _ Q I1 (by simpa using rv) hw
def gSub (to ti : TE) (t : TSet) : TG := fun v σ H Q => to σ H fun o H1 => ti σ H1 fun i H2 => t o i v H2 fun H3 => Q σ H3
theorem pg_sub {o i : Expr} {to ti : TE} {t : TSet} (ho : PE X o to) (hi : PE X i ti) (hs : PSet X t)
    (ha : ∀ v, assign (.Subscript o i pos) X.env v = (do
      let ov ← holding [v] (eval o X.env)
      let iv ← holding [v, ov] (eval i X.env)
      standAt pos
      holding [v, ov, iv] (setItem ov iv v)
      release [v, ov, iv] []) := by intro _; rfl) : PG X (.Subscript o i pos) (gSub to ti t) := by
  intro pins s σ H v u Q I r h
  rw [ha]
  refine wpAny_bind (wpAny_holding (thn (ho pins s σ H _ I h) fun ov s1 ⟨x, H1, I1, r1, q1⟩ => ?_))
  refine wpAny_bind (wpAny_holding (thn (hi pins s1 σ H1 _ I1 q1) fun iv s2 ⟨y, H2, I2, r2, q2⟩ => ?_))
  refine wpAny_bind (wpAny_standAt (wpAny_bind (wpAny_holding (thn (hs pins s2 σ H2 x y v ov iv u _ I2 r1 r2 r q2) fun _ s3 ⟨H3, I3, q3⟩ => ?_))))
  exact wpAny_release ⟨σ, H3, I3, q3⟩
def tAsg (te : TE) (g : TG) : TS := fun D σ H => te σ H fun x H1 => g x σ H1 D.nx
theorem ps_asg {tg e : Expr} {te : TE} {g : TG} (he : PE X e te) (hg : PG X tg g) (hs : swapsWithSole [tg] e pos.line X.env = pure false := by rfl) (hw : swappedStores [tg] e X.env = pure none := by rfl)
    (h1 : (assignEach [tg] X.env).map (·.2) = [assign tg X.env] := by rfl) : PS X (.Assign [tg] e pos) (tAsg te g) := by
  intro pins s σ H D I h
  refine wpAny_Assign_stores (thn (he pins s σ H _ I h) fun v s1 ⟨x, H1, I1, r1, q1⟩ => ?_) hs hw
  rw [h1]
  exact thn (hg pins s1 σ H1 x v _ I1 r1 q1) fun _ s2 q => q
theorem ps_set {i : Nat} {x : Str} {e : Expr} {te : TE} {pos' : Pos} (hN : X.N.Nodup) (hi : X.N[i]? = some x) (hx : Loc X.env.scope x) (he : PE X e te) (hs : swapsWith e (some (.Name x pos')) pos.line X.env = pure false := by rfl) (hf : X.fn x = true ∨ X.env.scope.names.lookup x = some .local := by first | exact .inl rfl | exact .inr rfl | assumption) :
    PS X (.Assign [.Name x pos'] e pos) (tAsg te (gName i)) := by
  intro pins s σ H D I h
  refine wpAny_Assign_Name (thn (he pins s σ H _ I h) fun v s1 ⟨y, H1, I1, r1, q1⟩ => ?_) hs
  exact store_ok I1 hN hi hx r1 (fun s2 I2 => ⟨_, H1, I2, q1⟩) hf
def tPar (i j : Nat) (ta : TA) : TS := fun D σ H => ta σ H fun vs H1 => ∃ v w, vs = [v, w] ∧ D.nx ((σ.set i (some v)).set j (some w)) H1
def tAug (i : Nat) (te : TE) (ti : TIp) : TS := fun D σ H => ∃ x, σ[i]? = some (some x) ∧ te σ H fun y H1 => ti x y H1 fun z H2 => D.nx (σ.set i (some z)) H2
def tAugS (to ti te : TE) (tget : V → V → Hp → VK → Prop) (tip : TIp) (tset : TSet) : TS := fun D σ H => to σ H fun o H1 => ti σ H1 fun i H2 => tget o i H2 fun x H3 => te σ H3 fun y H4 => tip x y H4 fun z H5 => tset o i z H5 fun H6 => D.nx σ H6
def PGet (X : Cx) (t : V → V → Hp → VK → Prop) : Prop :=
  ∀ (pins : List (Addr × Obj)) (s : Shared) (σ : St) (H : Hp) (o i : V) (ov iv : Value) (Q : VK), Inv X pins σ H s → RelV o ov → RelV i iv → t o i H Q →
    wpAny (model X.prog X.w) X.A (getItem ov iv) (EP X pins σ Q) X.xe s
def ipI (f : Int → Int → Int) : TIp := fun x y H Q => ∃ i j, x = .int i ∧ y = .int j ∧ Q (.int (f i j)) H
end

section
variable {X : Cx} {pos : Pos}
def tWhile (c : TT) (tb : TS) : TS := fun D σ H => ∃ W : Nat → St → Hp → Prop, (∃ m, W m σ H) ∧ ∀ m σ H, W m σ H →
  c σ H fun b H1 => if b = true then ∃ N : St → Hp → Prop, (∀ σ' H', N σ' H' → ∃ m', m' < m ∧ W m' σ' H') ∧ tb { D with nx := N, ct := N, bk := D.nx } σ H1 else D.nx σ H1
theorem ps_while {c : Expr} {body : List Stmt} {tc : TT} {tb : TS} (hp : PassesOwn (model X.prog X.w) X.A X.env X.xe) (hc : PT X c tc) (hb : PSs X body tb) : PS X (.While c body [] pos) (tWhile tc tb) := by
  intro pins s σ H D I h
  obtain ⟨W, ⟨m0, w0⟩, turn⟩ := h
  refine wpAny_While (codeAny_whileLoop (fun n s' => ∃ σ' H', Inv X pins σ' H' s' ∧ W n σ' H') ?_ m0 ⟨σ, H, I, w0⟩)
  rintro n s1 ⟨σ1, H1, I1, w1⟩
  refine wpAny_passesOwn hp (thn (hc pins s1 σ1 H1 _ I1 (turn n σ1 H1 w1)) fun b s2 ⟨H2, I2, q2⟩ => ?_)
  cases b with
  | true =>
    obtain ⟨N, hN, q2⟩ := q2
    rw [if_pos rfl]
    refine wpAny_passesOwn hp (thn (hb pins s2 σ1 H2 _ I2 q2) fun f s3 q3 => ?_)
    cases f with
    | next =>
      obtain ⟨σ3, H3, I3, n3⟩ := q3
      obtain ⟨m', hm, w3⟩ := hN σ3 H3 n3
      exact ⟨m', hm, σ3, H3, I3, w3⟩
    | cont =>
      obtain ⟨σ3, H3, I3, n3⟩ := q3
      obtain ⟨m', hm, w3⟩ := hN σ3 H3 n3
      exact ⟨m', hm, σ3, H3, I3, w3⟩
    | brk => exact q3
    | ret v => exact q3
  | false =>
    rw [if_neg Bool.false_ne_true]
    exact wpAny_execs_nil ⟨σ1, H2, I2, q2⟩
end

structure It where
  go : Nat → Hp → Prop
  yld : Nat → Hp → V → Hp → Prop
  stop : Nat → Hp → Prop
def FpOk (X : Cx) (pins : List (Addr × Obj)) (H : Hp) (b : Addr) : Prop :=
  H b = none ∧ b ≠ X.env.locals ∧ b ∉ X.fs ∧ (b ∈ X.ex ∨ X.s₀.heap.objs.size ≤ b) ∧ (∀ x c, X.env.cells.lookup x = some c → c ≠ b) ∧ ∀ p ∈ X.pn ++ pins, p.1 ≠ b
theorem Inv.fpOk {X : Cx} {pins : List (Addr × Obj)} {σ : St} {H H' : Hp} {s : Shared} {b : Addr} (I : Inv X pins σ H s) (hb : s.heap.objs.size ≤ b) (hn : H' b = none) : FpOk X pins H' b := by
  refine ⟨hn, Nat.ne_of_gt (Nat.lt_of_lt_of_le I.lt hb), I.nofs hb, .inr (Nat.le_trans I.sz hb), fun x c e z => ?_, fun p hp z => ?_⟩
  · obtain ⟨v, q⟩ := I.cell x c e
    exact absurd (Nat.lt_of_lt_of_le q.lt (by rw [z]; exact hb)) (Nat.lt_irrefl _)
  · exact absurd (Nat.lt_of_lt_of_le (Heap.lt_size (I.pin p hp).1) (by rw [z]; exact hb)) (Nat.lt_irrefl _)
structure Turn (P : Program) (w : World) (K : PySem.W.Frag) (tg : Expr) (J : It) (fp : List Addr) (it : Addr) (tn : Nat → Heap → Prop) : Prop where
  mem : it ∈ fp
  obj : ∀ i h, tn i h → ∀ b ∈ fp, ∃ o, h.get? b = some o ∧ ∀ v, o.data ≠ .cell v
  keep : ∀ i h h', tn i h → (∀ b ∈ fp, ∀ o, h.get? b = some o → h'.get? b = some o) → tn i h'
  item : ∀ (X : Cx), X.prog = P → X.w = w → X.K = K → X.calm = true → ∀ (i : Nat) (pins : List (Addr × Obj)) (s : Shared) (σ : St) (H : Hp) (E : Value → Shared → Prop), Inv X pins σ H s → (∀ b ∈ fp, FpOk X pins H b) → tn i s.heap → J.go i H →
    wpAny (model P w) X.A (pyNext (.ref it)) (fun r s1 => ∃ u, r = some u ∧
      wpAny (model P w) X.A (letOwnedTupleGo tg (.ref it) u) (fun _ s2 => ∃ x H', Inv X pins σ H' s2 ∧ RelV x u ∧ J.yld i H x H' ∧ tn (i + 1) s2.heap ∧ ∀ b ∈ fp, H' b = none) E s1) E s
  done : ∀ (X : Cx), X.prog = P → X.w = w → X.K = K → X.calm = true → ∀ (i : Nat) (pins : List (Addr × Obj)) (s : Shared) (σ : St) (H : Hp) (E : Value → Shared → Prop), Inv X pins σ H s → (∀ b ∈ fp, FpOk X pins H b) → tn i s.heap → J.stop i H →
    wpAny (model P w) X.A (pyNext (.ref it)) (fun r s1 => r = none ∧ Inv X pins σ H s1) E s
  self : ∀ (A : Around) (i : Nat) (s : Shared) (Q : Value → Shared → Prop) (E : Value → Shared → Prop), tn i s.heap → Q (.ref it) s → wpAny (model P w) A (pyIter (.ref it)) Q E s
abbrev TI := St → Hp → (It → Hp → Prop) → Prop
def PIE (X : Cx) (pins : List (Addr × Obj)) (σ : St) (tg : Expr) (R : It → Hp → Prop) (itv : Value) (s2 : Shared) : Prop :=
  ∃ (it : Addr) (fp : List Addr) (tn : Nat → Heap → Prop) (J : It) (H' : Hp), itv = .ref it ∧ Inv X pins σ H' s2 ∧ Turn X.prog X.w X.K tg J fp it tn ∧ tn 0 s2.heap ∧ (∀ b ∈ fp, FpOk X pins H' b) ∧ R J H'
def PI (X : Cx) (tg iter : Expr) (wi : TI) : Prop :=
  ∀ (pins : List (Addr × Obj)) (s : Shared) (σ : St) (H : Hp) (R : It → Hp → Prop), Inv X pins σ H s → wi σ H R →
    wpAny (model X.prog X.w) X.A (eval iter X.env) (fun v s1 => wpAny (model X.prog X.w) X.A (pyIter v) (PIE X pins σ tg R) X.xe s1) X.xe s

theorem go_of {M : Model} {A : Around} {E : Value → Shared → Prop} {s : Shared} {tg : Expr} {it : Addr} {u : Value} {o : Obj} {n : String} {vs : Array Value} {Q : Unit → Shared → Prop} (ho : s.heap.get? it = some o) (hc : o.cls = .type n) (hd : o.data = .fields vs)
    (hn : ["enumerate", "zip", "dict_itemiterator", "dict_reverseitemiterator", "odict_iterator", "itertools.zip_longest", "itertools.pairwise"].contains n = false) (hQ : Q () s) : wpAny M A (letOwnedTupleGo tg (.ref it) u) Q E s := by
  unfold letOwnedTupleGo
  cases tg <;> first
    | exact wpAny_pure hQ
    | (cases u <;> first
        | exact wpAny_pure hQ
        | (refine wpAny_bind (wpAny_load ho ?_)
           rw [hc, hd]
           show wpAny M A (if (["enumerate", "zip", "dict_itemiterator", "dict_reverseitemiterator", "odict_iterator", "itertools.zip_longest", "itertools.pairwise"].contains n && vs[0]? == some (rawInt _)) = true then _ else _) Q E s
           rw [if_neg (by intro h; rw [hn, Bool.false_and] at h; cases h)]
           exact wpAny_pure hQ))

def Itl (K : PySem.W.Frag) (a : Addr) : It :=
  ⟨fun i H => ∃ xs x, SqL K H a xs ∧ xs[i]? = some x, fun i H x H' => H' = H ∧ ∀ xs, SqL K H a xs → xs[i]? = some x, fun i H => ∃ xs, SqL K H a xs ∧ xs.length ≤ i⟩
def Itt (K : PySem.W.Frag) (a : Addr) : It :=
  ⟨fun i H => ∃ xs x, SqT K H a xs ∧ xs[i]? = some x, fun i H x H' => H' = H ∧ ∀ xs, SqT K H a xs → xs[i]? = some x, fun i H => ∃ xs, SqT K H a xs ∧ xs.length ≤ i⟩
def Itr (lo : Int) (n : Nat) : It := ⟨fun i _ => i < n, fun i H x H' => H' = H ∧ x = .int (lo + i), fun i _ => n ≤ i⟩
theorem turn_list {P : Program} {w : World} {K : PySem.W.Frag} {tg : Expr} (a it : Addr) : Turn P w K tg (Itl K a) [it] it (fun i h => h.IsListIter it a i) where
  mem := by simp
  obj := fun i h st b hb => by
    have e : b = it := by simpa using hb
    subst e
    obtain ⟨o, e, c, d⟩ := st
    exact ⟨o, e, fun v z => by rw [d] at z; cases z⟩
  keep := fun i h h' st k => st.at fun o e => k it (by simp) o e
  item := by
    intro X hP hw hK hc i pins s σ H E I hf st hg
    subst hP hw hK
    obtain ⟨xs, x, hq, hx⟩ := hg
    obtain ⟨its, rv, p, hz⟩ := I.list hq
    obtain ⟨u, hu, ru⟩ := rv.get hx
    obtain ⟨f0, f1, f2, f3, f4, f5⟩ := hf it (by simp)
    refine wpAny_pyNext_list_item st p.isList (x := u) (by simpa using hu) fun h' st' sb => ?_
    have I1 : Inv X pins σ H { s with heap := h' } := I.turned (t' := s.toks) (fun b o hb e => (sb.2 b hb).trans e) f0 f1 f3 f4 f5
    obtain ⟨o, e, c, d⟩ := id st'
    exact ⟨u, rfl, go_of (s := { s with heap := h' }) e c d (by decide) ⟨x, H, I1, ru, ⟨rfl, fun ys hy => by rw [I.list_inj hy hq]; exact hx⟩, st', fun b hb => (hf b hb).1⟩⟩
  done := by
    intro X hP hw hK hc i pins s σ H E I hf st hg
    subst hP hw hK
    obtain ⟨xs, hq, hx⟩ := hg
    obtain ⟨its, rv, p, hz⟩ := I.list hq
    obtain ⟨f0, f1, f2, f3, f4, f5⟩ := hf it (by simp)
    have hl := rv.length
    exact wpAny_pyNext_list_end (I.ok.hd hc) st p.isList (by simp; omega) fun h' eb => ⟨rfl, I.turned (t' := s.toks) (fun b o hb e => eb b o hb e) f0 f1 f3 f4 f5⟩
  self := fun _ _ _ _ _ st h => wpAny_pyIter_listiter st h
theorem turn_range {P : Program} {w : World} {K : PySem.W.Frag} {tg : Expr} (it : Addr) (lo : Int) (n : Nat) : Turn P w K tg (Itr lo n) [it] it (fun i h => IsRangeIter h it (lo + (i : Nat) * 1) ((n : Int) - (i : Nat)) 1) where
  mem := by simp
  obj := fun i h st b hb => by
    have e : b = it := by simpa using hb
    subst e
    exact ⟨_, st, fun v z => by
      have z' : Data.fields _ = Data.cell v := z
      cases z'⟩
  keep := fun i h h' st k => k it (by simp) _ st
  item := by
    intro X hP hw hK hc i pins s σ H E I hf st hg
    subst hP hw hK
    obtain ⟨f0, f1, f2, f3, f4, f5⟩ := hf it (by simp)
    have W := Walks.range (prog := X.prog) (w := X.w) (I.ok.hd hc) it lo 1 n
    refine W.item i s _ _ hg st fun v h' tk hv st' kk => ?_
    obtain ⟨t, rfl⟩ := hv
    have I1 : Inv X pins σ H { s with heap := h', toks := tk } := I.turned (fun b o hb e => kk b o (by simpa using hb) e) f0 f1 f3 f4 f5
    refine ⟨_, rfl, go_of (s := { s with heap := h', toks := tk }) (n := "range_iterator") st' rfl rfl (by decide) ⟨.int (lo + i), H, I1, ⟨t, ?_⟩, ⟨rfl, rfl⟩, st', fun b hb => (hf b hb).1⟩⟩
    rw [Int.mul_one]
  done := by
    intro X hP hw hK hc i pins s σ H E I hf st hg
    subst hP hw hK
    obtain ⟨f0, f1, f2, f3, f4, f5⟩ := hf it (by simp)
    exact wpAny_pyNext_range_end (I.ok.hd hc) st (by have : n ≤ i := hg; omega) fun h' eb => ⟨rfl, I.turned (t' := s.toks) (fun b o hb e => eb b o hb e) f0 f1 f3 f4 f5⟩
  self := fun _ _ _ _ _ st h => wpAny_pyIter_rangeiter st h
end L2

namespace L2
open PySem PySem.Spec PyProof.Rows
section
variable {X : Cx} {tg : Expr}
def iList (K : PySem.W.Frag) (tl : TE) : TI := fun σ H R => tl σ H fun x H1 => ∃ a, x = .ref a ∧ (∃ xs, SqL K H1 a xs) ∧ R (Itl K a) H1
def iTup (K : PySem.W.Frag) (tl : TE) : TI := fun σ H R => tl σ H fun x H1 => ∃ a, x = .ref a ∧ (∃ xs, SqT K H1 a xs) ∧ R (Itt K a) H1
theorem pi_list {l : Expr} {tl : TE} (hl : PE X l tl) : PI X tg l (iList X.K tl) := by
  intro pins s σ H R I h
  refine thn (hl pins s σ H _ I h) fun v s1 ⟨x, H1, I1, r1, q1⟩ => ?_
  obtain ⟨a, e, ⟨xs, hq⟩, q⟩ := q1
  subst e
  cases r1
  obtain ⟨its, rv, p, hz⟩ := I1.list hq
  refine wpAny_pyIter_list p.isList ?_
  refine ⟨s1.heap.objs.size, [s1.heap.objs.size], _, _, H1, rfl, I1.kept (t' := s1.toks) fun b o e => Heap.get?_push_of_some _ e, turn_list a _, ⟨_, Heap.get?_push_size _ rfl, rfl, rfl⟩, fun b hb => ?_, q⟩
  have e : b = s1.heap.objs.size := by simpa using hb
  subst e
  exact I1.fpOk (Nat.le_refl _) (I1.hok.fresh (Nat.le_refl _))
theorem range_it {pins : List (Addr × Obj)} {σ : St} {H : Hp} {s : Shared} {R : It → Hp → Prop} {E : Value → Shared → Prop} {lo hi : Int} {t u v : Tok} {tk : Nat} (I : Inv X pins σ H s) (h1 : -(2 ^ 62) ≤ lo) (h2 : lo < 2 ^ 62) (h3 : -(2 ^ 62) ≤ hi) (h4 : hi < 2 ^ 62)
    (q : R (Itr lo (hi - lo).toNat) H) : wpAny (model X.prog X.w) X.A (pyIter (.ref s.heap.objs.size)) (PIE X pins σ tg R) E { s with heap := s.heap.push { cls := .type "range", data := .fields #[.int lo t, .int hi u, .int 1 v] }, toks := tk } := by
  refine wpAny_pyIter_range (IsRange.new ..) (small_one h1 h2 h3 h4) ?_
  have I1 : Inv X pins σ H { s with heap := s.heap.push { cls := .type "range", data := .fields #[.int lo t, .int hi u, .int 1 v] }, toks := tk } := I.kept fun b o e => Heap.get?_push_of_some _ e
  refine ⟨(s.heap.push { cls := .type "range", data := .fields #[.int lo t, .int hi u, .int 1 v] }).objs.size, [(s.heap.push { cls := .type "range", data := .fields #[.int lo t, .int hi u, .int 1 v] }).objs.size], _, _, H, rfl,
    I1.kept (t' := tk) fun b o e => Heap.get?_push_of_some _ e, turn_range _ lo (hi - lo).toNat, ?_, fun b hb => ?_, q⟩
  · have e1 : lo + ((0 : Nat) : Int) * 1 = lo := by simp
    have e2 : (((hi - lo).toNat : Nat) : Int) - ((0 : Nat) : Int) = Builtin.Range.rangeSize lo hi 1 := by rw [rangeSize_one]; split <;> omega
    show IsRangeIter _ _ (lo + ((0 : Nat) : Int) * 1) ((((hi - lo).toNat : Nat) : Int) - ((0 : Nat) : Int)) 1
    rw [e1, e2]
    exact Heap.get?_push_size _ rfl
  · have e : b = (s.heap.push { cls := .type "range", data := .fields #[.int lo t, .int hi u, .int 1 v] }).objs.size := by simpa using hb
    subst e
    exact I1.fpOk (Nat.le_refl _) (I1.hok.fresh (Nat.le_refl _))
def iRng1 (ta : TA) : TI := fun σ H R => ta σ H fun vs H1 => ∃ j : Int, vs = [.int j] ∧ -(2 ^ 62) ≤ j ∧ j < 2 ^ 62 ∧ R (Itr 0 j.toNat) H1
def iRng2 (ta : TA) : TI := fun σ H R => ta σ H fun vs H1 => ∃ i j : Int, vs = [.int i, .int j] ∧ (-(2 ^ 62) ≤ i ∧ i < 2 ^ 62 ∧ -(2 ^ 62) ≤ j ∧ j < 2 ^ 62) ∧ R (Itr i (j - i).toNat) H1
theorem pi_range1 {a : Expr} {ta : TA} {p pos : Pos} (hg : Gl X "range") (hm : X.mg "range" = none) (ha : PA X [a] ta) (hs : starEach [a] X.env = [(false, eval a X.env)] := by rfl) : PI X tg (.Call (.Name "range" p) [a] [] pos) (iRng1 ta) := by
  intro pins s σ H R I h
  refine Call_ (ld_blt I hg hm boot_range (PyProof.Rows.callWith_type1 (thn (ha pos pins s σ H _ I h) fun us s1 ⟨vs, H1, I1, r1, q1⟩ => ?_) hs rfl))
  obtain ⟨j, e, q1, q2, q⟩ := q1
  subst e
  cases r1 with
  | cons r rr =>
    cases rr
    obtain ⟨t, rfl⟩ := r
    exact call_range_1 (range_it I1 (by omega) (by omega) q1 q2 (by simpa using q))

def tFor (wi : TI) (g : TG) (tb : TS) : TS := fun D σ H => wi σ H fun J H1 => ∃ W : Nat → Nat → St → Hp → Prop, (∃ m, W 0 m σ H1) ∧ ∀ i m σ H, W i m σ H →
  (J.stop i H ∧ D.nx σ H) ∨ (J.go i H ∧ ∃ N : St → Hp → Prop, (∀ σ' H', N σ' H' → ∃ m', m' < m ∧ W (i + 1) m' σ' H') ∧ ∀ x H', J.yld i H x H' → g x σ H' fun σ2 H2 => tb { D with nx := N, ct := N, bk := D.nx } σ2 H2)
def pinsAt (fp : List Addr) (h : Heap) : List (Addr × Obj) := fp.filterMap fun b => (h.get? b).map fun o => (b, o)
theorem mem_pinsAt {fp : List Addr} {h : Heap} {b : Addr} {o : Obj} (hb : b ∈ fp) (e : h.get? b = some o) : (b, o) ∈ pinsAt fp h := List.mem_filterMap.mpr ⟨b, hb, by rw [e]; rfl⟩
theorem of_pinsAt {fp : List Addr} {h : Heap} {p : Addr × Obj} (hp : p ∈ pinsAt fp h) : p.1 ∈ fp ∧ h.get? p.1 = some p.2 := by
  obtain ⟨b, hb, e⟩ := List.mem_filterMap.mp hp
  cases q : h.get? b with
  | none => rw [q] at e; cases e
  | some o =>
    rw [q] at e
    have e' : (b, o) = p := Option.some.inj e
    subst e'
    exact ⟨hb, q⟩
theorem Inv.pinned {pins : List (Addr × Obj)} {σ : St} {H : Hp} {s : Shared} {fp : List Addr} (I : Inv X pins σ H s) (hf : ∀ b ∈ fp, FpOk X pins H b) (ho : ∀ b ∈ fp, ∃ o, s.heap.get? b = some o ∧ ∀ v, o.data ≠ .cell v) : Inv X (pins ++ pinsAt fp s.heap) σ H s :=
  I.pins_of fun p hp => (List.mem_append.mp hp).elim (fun z => I.pin p (List.mem_append_right _ z)) fun z => by
    obtain ⟨hb, e⟩ := of_pinsAt z
    obtain ⟨f0, f1, f2, _⟩ := hf p.1 hb
    obtain ⟨o, e', d⟩ := ho p.1 hb
    rw [e] at e'; cases e'
    exact ⟨e, f0, f1, f2, d⟩
theorem Inv.unpinned {pins pl : List (Addr × Obj)} {σ : St} {H : Hp} {s : Shared} (I : Inv X (pins ++ pl) σ H s) : Inv X pins σ H s := I.pins_of fun p hp => I.pin p (List.mem_append_right _ (List.mem_append_left _ hp))
theorem ps_for {iter : Expr} {body : List Stmt} {wi : TI} {g : TG} {tb : TS} {pos : Pos} (hp : PassesOwn (model X.prog X.w) X.A X.env X.xe) (hc : X.calm = true) (hi : PI X tg iter wi) (hg : PG X tg g) (hb : PSs X body tb)
    (hs : ∀ x, foldedSetIterable iter X.env x = pure x := by intro _; rfl) : PS X (.For tg iter body [] pos) (tFor wi g tb) := by
  intro pins s σ H D I h
  refine wpAny_For (thn (hi pins s σ H _ I h) fun v s1 h1 => thn h1 fun itv s2 h2 => ?_) hs
  obtain ⟨it, fp, tn, J, H2, e, I2, T, st2, f2, W, ⟨m0, w0⟩, turn⟩ := h2
  subst e
  -- what stays true of the iterator's objects through the loop
  have stat : ∀ {H' : Hp}, (∀ b ∈ fp, H' b = none) → ∀ b ∈ fp, FpOk X pins H' b := fun hn b hb => ⟨hn b hb, (f2 b hb).2⟩
  refine codeAny_forLoop_any (fun n s' => ∃ i σ' H', Inv X pins σ' H' s' ∧ tn i s'.heap ∧ (∀ b ∈ fp, H' b = none) ∧ W i n σ' H') ?_ m0 ⟨0, σ, H2, I2, st2, fun b hb => (f2 b hb).1, w0⟩
  rintro n s3 ⟨i, σ3, H3, I3, st3, fr3, w3⟩
  rcases turn i n σ3 H3 w3 with ⟨stop, qn⟩ | ⟨go, N, hN, step⟩
  · refine wpAny_passesOwn hp (thn (T.done X rfl rfl rfl hc i pins s3 σ3 H3 X.xe I3 (stat fr3) st3 stop) fun r s4 ⟨hr, I4⟩ => ?_)
    subst hr
    exact wpAny_execs_nil ⟨σ3, H3, I4, qn⟩
  · refine wpAny_passesOwn hp (thn (T.item X rfl rfl rfl hc i pins s3 σ3 H3 X.xe I3 (stat fr3) st3 go) fun r s4 ⟨u, hr, h4⟩ => ?_)
    subst hr
    refine wpAny_passesOwn hp (thn h4 fun _ s5 ⟨x, H5, I5, r5, y5, st5, fr5⟩ => ?_)
    have I5' := I5.pinned (stat fr5) (T.obj _ _ st5)
    refine wpAny_passesOwn hp (thn (hg _ s5 σ3 H5 x u _ I5' r5 (step x H5 y5)) fun _ s6 ⟨σ6, H6, I6, q6⟩ => ?_)
    refine wpAny_passesOwn hp (thn (hb _ s6 σ6 H6 _ I6 q6) fun f s7 q7 => ?_)
    have again : ∀ {σ7 : St} {H7 : Hp}, Inv X (pins ++ pinsAt fp s5.heap) σ7 H7 s7 → N σ7 H7 → ∃ m, m < n ∧ ∃ i σ' H', Inv X pins σ' H' s7 ∧ tn i s7.heap ∧ (∀ b ∈ fp, H' b = none) ∧ W i m σ' H' := fun {σ7 H7} I7 n7 => by
      obtain ⟨m', hm, w7⟩ := hN σ7 H7 n7
      refine ⟨m', hm, i + 1, σ7, H7, I7.unpinned, T.keep _ _ _ st5 fun b hb o e => (I7.pin (b, o) (List.mem_append_right _ (List.mem_append_right _ (mem_pinsAt hb e)))).1, fun b hb => ?_, w7⟩
      obtain ⟨o, e, d⟩ := T.obj _ _ st5 b hb
      exact (I7.pin (b, o) (List.mem_append_right _ (List.mem_append_right _ (mem_pinsAt hb e)))).2.1
    cases f with
    | next => obtain ⟨σ7, H7, I7, n7⟩ := q7; exact again I7 n7
    | cont => obtain ⟨σ7, H7, I7, n7⟩ := q7; exact again I7 n7
    | brk => obtain ⟨σ7, H7, I7, q7⟩ := q7; exact ⟨σ7, H7, I7.unpinned, q7⟩
    | ret v => obtain ⟨x7, σ7, H7, I7, r7, q7⟩ := q7; exact ⟨x7, σ7, H7, I7.unpinned, r7, q7⟩
end

theorem for_list {K : PySem.W.Frag} {a : Addr} {xs : List V} {g : TG} {tb : TS} {D : Ends} {σ : St} {H : Hp} (Pv : Nat → St → Hp → Prop) (h0 : Pv 0 σ H) (hl : ∀ i σ H, i ≤ xs.length → Pv i σ H → SqL K H a xs)
    (hs : ∀ i x σ H, xs[i]? = some x → Pv i σ H → g x σ H fun σ2 H2 => tb { D with nx := Pv (i + 1), ct := Pv (i + 1), bk := D.nx } σ2 H2) (hd : ∀ σ H, Pv xs.length σ H → D.nx σ H) :
    ∃ W : Nat → Nat → St → Hp → Prop, (∃ m, W 0 m σ H) ∧ ∀ i m σ H, W i m σ H →
      ((Itl K a).stop i H ∧ D.nx σ H) ∨ ((Itl K a).go i H ∧ ∃ N : St → Hp → Prop, (∀ σ' H', N σ' H' → ∃ m', m' < m ∧ W (i + 1) m' σ' H') ∧ ∀ x H', (Itl K a).yld i H x H' → g x σ H' fun σ2 H2 => tb { D with nx := N, ct := N, bk := D.nx } σ2 H2) := by
  refine ⟨fun i m σ H => m = xs.length - i ∧ i ≤ xs.length ∧ Pv i σ H, ⟨xs.length, by simp, Nat.zero_le _, h0⟩, ?_⟩
  rintro i m σ H ⟨rfl, hi, p⟩
  have q := hl i σ H hi p
  by_cases hlt : i < xs.length
  · refine .inr ⟨⟨xs, xs[i], q, by simp [hlt]⟩, Pv (i + 1), fun σ' H' p' => ⟨xs.length - (i + 1), by omega, rfl, hlt, p'⟩, fun x H' y => ?_⟩
    obtain ⟨e, y⟩ := y
    subst e
    exact hs i x σ _ (y xs q) p
  · have e : i = xs.length := by omega
    subst e
    exact .inl ⟨⟨xs, q, Nat.le_refl _⟩, hd σ H p⟩
theorem for_range {lo : Int} {n : Nat} {g : TG} {tb : TS} {D : Ends} {σ : St} {H : Hp} (Pv : Nat → St → Hp → Prop) (h0 : Pv 0 σ H)
    (hs : ∀ i σ H, i < n → Pv i σ H → g (.int (lo + i)) σ H fun σ2 H2 => tb { D with nx := Pv (i + 1), ct := Pv (i + 1), bk := D.nx } σ2 H2) (hd : ∀ σ H, Pv n σ H → D.nx σ H) :
    ∃ W : Nat → Nat → St → Hp → Prop, (∃ m, W 0 m σ H) ∧ ∀ i m σ H, W i m σ H →
      ((Itr lo n).stop i H ∧ D.nx σ H) ∨ ((Itr lo n).go i H ∧ ∃ N : St → Hp → Prop, (∀ σ' H', N σ' H' → ∃ m', m' < m ∧ W (i + 1) m' σ' H') ∧ ∀ x H', (Itr lo n).yld i H x H' → g x σ H' fun σ2 H2 => tb { D with nx := N, ct := N, bk := D.nx } σ2 H2) := by
  refine ⟨fun i m σ H => m = n - i ∧ i ≤ n ∧ Pv i σ H, ⟨n, by simp, Nat.zero_le _, h0⟩, ?_⟩
  rintro i m σ H ⟨rfl, hi, p⟩
  by_cases hlt : i < n
  · refine .inr ⟨hlt, Pv (i + 1), fun σ' H' p' => ⟨n - (i + 1), by omega, rfl, hlt, p'⟩, fun x H' y => ?_⟩
    obtain ⟨e, y⟩ := y
    subst e y
    exact hs i σ _ hlt p
  · have e : i = n := by omega
    subst e
    exact .inl ⟨Nat.le_refl _, hd σ H p⟩
end L2

namespace L2
open PySem PySem.Spec PyProof.Rows

abbrev R2 := V → V → Hp → VK → Prop
def OpR (X : Cx) (f : Value → Value → Sem Value) (r : R2) : Prop :=
  ∀ (pins : List (Addr × Obj)) (s : Shared) (σ : St) (H : Hp) (x y : V) (v u : Value) (Q : VK), Inv X pins σ H s → RelV x v → RelV y u → r x y H Q →
    wpAny (model X.prog X.w) X.A (f v u) (EP X pins σ Q) X.xe s
def UnR (X : Cx) (f : Value → Sem Value) (r : V → Hp → VK → Prop) : Prop :=
  ∀ (pins : List (Addr × Obj)) (s : Shared) (σ : St) (H : Hp) (x : V) (v : Value) (Q : VK), Inv X pins σ H s → RelV x v → r x H Q →
    wpAny (model X.prog X.w) X.A (f v) (EP X pins σ Q) X.xe s
def CallR (X : Cx) (f : Value) (r : List V → Hp → VK → Prop) : Prop :=
  ∀ (pins : List (Addr × Obj)) (s : Shared) (σ : St) (H : Hp) (xs : List V) (us : List Value) (Q : VK), Inv X pins σ H s → Vals xs us → r xs H Q →
    wpAny (model X.prog X.w) X.A (call f us) (EP X pins σ Q) X.xe s
def TruR (X : Cx) (r : V → Hp → (Bool → Hp → Prop) → Prop) : Prop :=
  ∀ (pins : List (Addr × Obj)) (s : Shared) (σ : St) (H : Hp) (x : V) (v : Value) (Q : Bool → Hp → Prop), Inv X pins σ H s → RelV x v → r x H Q →
    wpAny (model X.prog X.w) X.A (truthy v) (TP X pins σ Q) X.xe s

def tOp (r : R2) (ta tb : TE) : TE := fun σ H Q => ta σ H fun x H1 => tb σ H1 fun y H2 => r x y H2 Q
def tUn (r : V → Hp → VK → Prop) (ta : TE) : TE := fun σ H Q => ta σ H fun x H1 => r x H1 Q
def rI (C : Int → Int → Prop) (g : Int → Int → V) : R2 := fun x y H Q => ∃ i j, x = .int i ∧ y = .int j ∧ C i j ∧ Q (g i j) H
def rI0 (g : Int → Int → V) : R2 := fun x y H Q => ∃ i j, x = .int i ∧ y = .int j ∧ Q (g i j) H
def rU (g : Int → V) : V → Hp → VK → Prop := fun x H Q => ∃ i, x = .int i ∧ Q (g i) H

section
variable {X : Cx} {a b c : Expr} {ta tb tc : TE} {pos : Pos}

theorem binT (ha : PE X a ta) (hb : PE X b tb) {pins : List (Addr × Obj)} {s : Shared} {σ : St} {H : Hp} {R : V → V → Hp → Prop} (I : Inv X pins σ H s)
    (h : ta σ H fun x H1 => tb σ H1 fun y H2 => R x y H2) {Q : Value → Shared → Prop} {f : Value → Value → Sem Value}
    (hf : ∀ v u s2 x y H2, Inv X pins σ H2 s2 → RelV x v → RelV y u → R x y H2 → wpAny (model X.prog X.w) X.A (f v u) Q X.xe s2) :
    wpAny (model X.prog X.w) X.A (eval a X.env) (fun v s₁ => wpAny (model X.prog X.w) X.A (eval b X.env) (fun u s₂ => wpAny (model X.prog X.w) X.A (f v u) Q X.xe s₂) X.xe s₁) X.xe s := by
  refine thn (ha pins s σ H _ I h) fun v s1 ⟨x, H1, I1, r1, q1⟩ => ?_
  refine thn (hb pins s1 σ H1 _ I1 q1) fun u s2 ⟨y, H2, I2, r2, q2⟩ => ?_
  exact hf v u s2 x y H2 I2 r1 r2 q2

theorem pe_op {op : Operator} {r : R2} (ho : OpR X (binaryOp op) r) (ha : PE X a ta) (hb : PE X b tb) : PE X (.BinOp a op b pos) (tOp r ta tb) := by
  intro pins s σ H Q I h
  exact wpAny_BinOp (binT ha hb I h fun v u s2 x y H2 I2 rx ry q => ho pins s2 σ H2 x y v u Q I2 rx ry q)
theorem pe_un {op : UnaryOp} {r : V → Hp → VK → Prop} (ho : UnR X (unaryOp op) r) (ha : PE X a ta) : PE X (.UnaryOp op a pos) (tUn r ta) := by
  intro pins s σ H Q I h
  exact UnaryOp_ (thn (ha pins s σ H _ I h) fun v s1 ⟨x, H1, I1, r1, q1⟩ => ho pins s1 σ H1 x v Q I1 r1 q1)

theorem opI {f : Value → Value → Sem Value} {C : Int → Int → Prop} {g : Int → Int → Int}
    (rule : ∀ (i j : Int) (t u : Tok) (s : Shared) (Q : Value → Shared → Prop) (E : Value → Shared → Prop), C i j → Q (.int (g i j) s.toks) { s with toks := s.toks + 1 } → wpAny (model X.prog X.w) X.A (f (.int i t) (.int j u)) Q E s) :
    OpR X f (rI C fun i j => .int (g i j)) := by
  intro pins s σ H x y v u Q I rx ry h
  obtain ⟨i, j, rfl, rfl, hc, q⟩ := h
  obtain ⟨t, rfl⟩ := rx
  obtain ⟨t', rfl⟩ := ry
  exact rule i j t t' s _ _ hc ⟨.int (g i j), H, I.tok _, ⟨_, rfl⟩, q⟩
theorem opI0 {f : Value → Value → Sem Value} {g : Int → Int → Int}
    (rule : ∀ (i j : Int) (t u : Tok) (s : Shared) (Q : Value → Shared → Prop) (E : Value → Shared → Prop), Q (.int (g i j) s.toks) { s with toks := s.toks + 1 } → wpAny (model X.prog X.w) X.A (f (.int i t) (.int j u)) Q E s) :
    OpR X f (rI0 fun i j => .int (g i j)) := by
  intro pins s σ H x y v u Q I rx ry h
  obtain ⟨i, j, rfl, rfl, q⟩ := h
  obtain ⟨t, rfl⟩ := rx
  obtain ⟨t', rfl⟩ := ry
  exact rule i j t t' s _ _ ⟨.int (g i j), H, I.tok _, ⟨_, rfl⟩, q⟩
theorem opB0 {f : Value → Value → Sem Value} {g : Int → Int → Bool}
    (rule : ∀ (i j : Int) (t u : Tok) (s : Shared) (Q : Value → Shared → Prop) (E : Value → Shared → Prop), Q (.bool (g i j)) s → wpAny (model X.prog X.w) X.A (f (.int i t) (.int j u)) Q E s) :
    OpR X f (rI0 fun i j => .bl (g i j)) := by
  intro pins s σ H x y v u Q I rx ry h
  obtain ⟨i, j, rfl, rfl, q⟩ := h
  obtain ⟨t, rfl⟩ := rx
  obtain ⟨t', rfl⟩ := ry
  exact rule i j t t' s _ _ ⟨.bl (g i j), H, I, rfl, q⟩

def CDiv (i j : Int) : Prop := 0 < j ∧ j < 1073741824
def CDivN (i j : Int) : Prop := j ≠ 0 ∧ j.natAbs < 1073741824
def CPow (i j : Int) : Prop := 0 ≤ j ∧ j ≤ 1000000 ∧ i.natAbs < 2 ^ 64
def CMul (i j : Int) : Prop := (-(2 ^ 64) < i ∧ i < 2 ^ 64) ∨ (-(2 ^ 64) < j ∧ j < 2 ^ 64)
theorem CMul.ok {i j : Int} (h : CMul i j) : IntMulOk i j := by
  rcases h with ⟨h1, h2⟩ | ⟨h1, h2⟩
  · exact .of_left (intBits_le_64 h1 h2)
  · exact .of_right (intBits_le_64 h1 h2)

theorem op_add : OpR X (binaryOp .Add) (rI0 fun i j => .int (i + j)) := opI0 fun _ _ _ _ _ _ _ q => add_int q
theorem op_sub : OpR X (binaryOp .Sub) (rI0 fun i j => .int (i - j)) := opI0 fun _ _ _ _ _ _ _ q => sub_int q
theorem op_modN : OpR X (binaryOp .Mod) (rI (fun _ j => j ≠ 0) fun i j => .int (i.fmod j)) := opI fun _ _ _ _ _ _ _ hc q => mod_int' hc q
theorem op_pow : OpR X (binaryOp .Pow) (rI CPow fun i j => .int (i ^ j.toNat)) := opI fun _ _ _ _ _ _ _ hc q => pow_int_small hc.1 hc.2.1 hc.2.2 q


theorem unI {f : Value → Sem Value} {g : Int → Int}
    (rule : ∀ (i : Int) (t : Tok) (s : Shared) (Q : Value → Shared → Prop) (E : Value → Shared → Prop), Q (.int (g i) s.toks) { s with toks := s.toks + 1 } → wpAny (model X.prog X.w) X.A (f (.int i t)) Q E s) :
    UnR X f (rU fun i => .int (g i)) := by
  intro pins s σ H x v Q I rx h
  obtain ⟨i, rfl, q⟩ := h
  obtain ⟨t, rfl⟩ := rx
  exact rule i t s _ _ ⟨.int (g i), H, I.tok _, ⟨_, rfl⟩, q⟩
theorem un_neg : UnR X (unaryOp .USub) (rU fun i => .int (-i)) := unI fun _ _ _ _ _ q => neg_int q

end

def scal : V → V → Bool
  | .non, .non => true | .non, .int _ => true | .int _, .non => true | .non, .bl _ => true | .bl _, .non => true | .non, .str _ => true | .str _, .non => true
  | .int _, .int _ => true | .bl _, .bl _ => true | .str _, .str _ => true | .byt _, .byt _ => true
  | .int _, .str _ => true | .str _, .int _ => true | .bl _, .str _ => true | .str _, .bl _ => true
  | _, _ => false
def rEq : R2 := fun x y H Q => scal x y = true ∧ Q (.bl (decide (x = y))) H
def rNe : R2 := fun x y H Q => scal x y = true ∧ Q (.bl (!decide (x = y))) H

theorem dec_int {i j : Int} : decide (V.int i = V.int j) = (i == j) := by
  rw [Bool.eq_iff_iff]
  simp
theorem dec_bl {i j : Bool} : decide (V.bl i = V.bl j) = (i == j) := by
  rw [Bool.eq_iff_iff]
  simp
theorem dec_str {i j : Str} : decide (V.str i = V.str j) = (i == j) := by
  rw [Bool.eq_iff_iff]
  simp
theorem dec_byt {i j : Array UInt8} : decide (V.byt i = V.byt j) = (i.toList == j.toList) := by
  rw [Bool.eq_iff_iff]
  cases i
  cases j
  simp

section
variable {X : Cx} {a b c : Expr} {ta tb tc : TE} {pos : Pos}
theorem fin_bl {pins : List (Addr × Obj)} {σ : St} {H : Hp} {s : Shared} {Q : VK} {k k' : Bool} (I : Inv X pins σ H s) (q : Q (.bl k) H) (e : k = k') : EP X pins σ Q (.bool k') s := by
  subst e
  exact ⟨.bl k, H, I, rfl, q⟩
theorem op_eq : OpR X (compareOp .Eq) rEq := by
  intro pins s σ H x y v u Q I rx ry h
  obtain ⟨hs, q⟩ := h
  cases x with
  | non =>
    cases rx
    cases y with
    | non => cases ry; exact PySem.EqNone.eq_none_none (fin_bl I q (by simp))
    | bl j => cases ry; exact PySem.EqNone.eq_none_bool (fin_bl I q (by simp))
    | int j => obtain ⟨t', rfl⟩ := ry; exact PySem.EqNone.eq_none_int (fin_bl I q (by simp))
    | str j => obtain ⟨t', rfl⟩ := ry; exact PySem.EqNone.eq_none_str (fin_bl I q (by simp))
    | _ => exact absurd (show false = true from hs) Bool.false_ne_true
  | bl i =>
    cases rx
    cases y with
    | non => cases ry; exact PySem.EqNone.eq_bool_none (fin_bl I q (by simp))
    | bl j => cases ry; exact eq_bool (fin_bl I q dec_bl)
    | str j => obtain ⟨t', rfl⟩ := ry; exact PySem.EqMixed.eq_bool_str (fin_bl I q (by simp))
    | _ => exact absurd (show false = true from hs) Bool.false_ne_true
  | int i =>
    obtain ⟨t, rfl⟩ := rx
    cases y with
    | non => cases ry; exact PySem.EqNone.eq_int_none (fin_bl I q (by simp))
    | int j => obtain ⟨t', rfl⟩ := ry; exact eq_int (fin_bl I q dec_int)
    | str j => obtain ⟨t', rfl⟩ := ry; exact PySem.EqMixed.eq_int_str (fin_bl I q (by simp))
    | _ => exact absurd (show false = true from hs) Bool.false_ne_true
  | str i =>
    obtain ⟨t, rfl⟩ := rx
    cases y with
    | non => cases ry; exact PySem.EqNone.eq_str_none (fin_bl I q (by simp))
    | bl j => cases ry; exact PySem.EqMixed.eq_str_bool (fin_bl I q (by simp))
    | int j => obtain ⟨t', rfl⟩ := ry; exact PySem.EqMixed.eq_str_int (fin_bl I q (by simp))
    | str j => obtain ⟨t', rfl⟩ := ry; exact eq_str (fin_bl I q dec_str)
    | _ => exact absurd (show false = true from hs) Bool.false_ne_true
  | byt i =>
    obtain ⟨t, rfl⟩ := rx
    cases y with
    | byt j => obtain ⟨t', rfl⟩ := ry; exact PySem.W.eq_bytes (fin_bl I q dec_byt)
    | _ => exact absurd (show false = true from hs) Bool.false_ne_true
  | _ => cases y <;> exact absurd (show false = true from hs) Bool.false_ne_true
theorem op_ne : OpR X (compareOp .NotEq) rNe := by
  intro pins s σ H x y v u Q I rx ry h
  obtain ⟨hs, q⟩ := h
  cases x with
  | non =>
    cases rx
    cases y with
    | non => cases ry; exact PySem.EqNone.ne_none_none (fin_bl I q (by simp))
    | bl j => cases ry; exact PySem.EqNone.ne_none_bool (fin_bl I q (by simp))
    | int j => obtain ⟨t', rfl⟩ := ry; exact PySem.EqNone.ne_none_int (fin_bl I q (by simp))
    | str j => obtain ⟨t', rfl⟩ := ry; exact PySem.EqNone.ne_none_str (fin_bl I q (by simp))
    | _ => exact absurd (show false = true from hs) Bool.false_ne_true
  | bl i =>
    cases rx
    cases y with
    | non => cases ry; exact PySem.EqNone.ne_bool_none (fin_bl I q (by simp))
    | bl j => cases ry; exact ne_bool (fin_bl I q (congrArg not dec_bl))
    | str j => obtain ⟨t', rfl⟩ := ry; exact PySem.EqMixed.ne_bool_str (fin_bl I q (by simp))
    | _ => exact absurd (show false = true from hs) Bool.false_ne_true
  | int i =>
    obtain ⟨t, rfl⟩ := rx
    cases y with
    | non => cases ry; exact PySem.EqNone.ne_int_none (fin_bl I q (by simp))
    | int j => obtain ⟨t', rfl⟩ := ry; exact ne_int (fin_bl I q (congrArg not dec_int))
    | str j => obtain ⟨t', rfl⟩ := ry; exact PySem.EqMixed.ne_int_str (fin_bl I q (by simp))
    | _ => exact absurd (show false = true from hs) Bool.false_ne_true
  | str i =>
    obtain ⟨t, rfl⟩ := rx
    cases y with
    | non => cases ry; exact PySem.EqNone.ne_str_none (fin_bl I q (by simp))
    | bl j => cases ry; exact PySem.EqMixed.ne_str_bool (fin_bl I q (by simp))
    | int j => obtain ⟨t', rfl⟩ := ry; exact PySem.EqMixed.ne_str_int (fin_bl I q (by simp))
    | str j => obtain ⟨t', rfl⟩ := ry; exact ne_str (fin_bl I q (congrArg not dec_str))
    | _ => exact absurd (show false = true from hs) Bool.false_ne_true
  | byt i =>
    obtain ⟨t, rfl⟩ := rx
    cases y with
    | byt j => obtain ⟨t', rfl⟩ := ry; exact PySem.W.ne_bytes (fin_bl I q (congrArg not dec_byt))
    | _ => exact absurd (show false = true from hs) Bool.false_ne_true
  | _ => cases y <;> exact absurd (show false = true from hs) Bool.false_ne_true

theorem op_lt : OpR X (compareOp .Lt) (rI0 fun i j => .bl (decide (i < j))) := opB0 fun _ _ _ _ _ _ _ q => lt_int q
theorem op_le : OpR X (compareOp .LtE) (rI0 fun i j => .bl (decide (i ≤ j))) := opB0 fun _ _ _ _ _ _ _ q => le_int q
theorem op_ge : OpR X (compareOp .GtE) (rI0 fun i j => .bl (decide (j ≤ i))) := opB0 fun _ _ _ _ _ _ _ q => ge_int q


def isObj : HO → Bool
  | .lst _ => true
  | .ins _ _ _ => true
  | _ => false


theorem nomark (b : Expr) {op : CmpOp} (h : op ≠ .In := by decide) (h2 : op ≠ .NotIn := by decide) : behindInMarks op b = false := by
  have e1 : (op == CmpOp.In) = false := by cases op <;> first | rfl | exact absurd rfl h
  have e2 : (op == CmpOp.NotIn) = false := by cases op <;> first | rfl | exact absurd rfl h2
  cases b <;> simp [behindInMarks, e1, e2]
theorem pe_cmpR {op : CmpOp} {r : R2} (ho : OpR X (compareOp op) r) (ha : PE X a ta) (hb : PE X b tb) (hm : behindInMarks op b = false) : PE X (.Compare a [op] [b] pos) (tOp r ta tb) := by
  intro pins s σ H Q I h
  exact wpAny_Compare1 (binT ha hb I h fun v u s2 x y H2 I2 rx ry q => ho pins s2 σ H2 x y v u Q I2 rx ry q) hm
def tTest (t : TE) : TT := fun σ H Q => t σ H fun x H' => ∃ k, x = .bl k ∧ Q k H'
theorem pt_cmpR {op : CmpOp} {r : R2} (ho : OpR X (compareOp op) r) (ha : PE X a ta) (hb : PE X b tb) (hm : behindInMarks op b = false) : PT X (.Compare a [op] [b] pos) (tTest (tOp r ta tb)) := by
  intro pins s σ H Q I h
  refine wpAny_isTrue_Compare1 (thn (ha pins s σ H _ I h) fun v s1 ⟨x, H1, I1, r1, q1⟩ => thn (hb pins s1 σ H1 _ I1 q1) fun u s2 ⟨y, H2, I2, r2, q2⟩ =>
    thn (ho pins s2 σ H2 x y v u _ I2 r1 r2 q2) fun c s3 ⟨z, H3, I3, r3, k, e, q3⟩ => ?_) hm
  subst e
  cases r3
  exact wpAny_truthy_bool ⟨H3, I3, q3⟩
def tChain (r r' : R2) (ta tb tc : TE) : TE := fun σ H Q => ta σ H fun x H1 => tb σ H1 fun y H2 => r x y H2 fun z H3 => ∃ k, z = .bl k ∧
  (if k = true then tc σ H3 fun w' H4 => r' y w' H4 Q else Q (.bl false) H3)
theorem pt_chain {op op' : CmpOp} {r r' : R2} (ho : OpR X (compareOp op) r) (ho' : OpR X (compareOp op') r') (ha : PE X a ta) (hb : PE X b tb) (hc : PE X c tc)
    (hm : lastMarks [op, op'] [b, c] = false := by with_unfolding_all rfl) : PT X (.Compare a [op, op'] [b, c] pos) (tTest (tChain r r' ta tb tc)) := by
  intro pins s σ H Q I h
  refine isTrue_chain (thn (ha pins s σ H _ I h) fun v s1 ⟨x, H1, I1, r1, q1⟩ => test_link (thn (hb pins s1 σ H1 _ I1 q1) fun u s2 ⟨y, H2, I2, r2, q2⟩ =>
    thn (ho pins s2 σ H2 x y v u _ I2 r1 r2 q2) fun d s3 ⟨z, H3, I3, r3, k, e, q3⟩ => ?_)) hm
  subst e
  cases r3
  refine wpAny_truthy_bool ?_
  cases k with
  | false =>
    obtain ⟨k', e', q'⟩ := q3
    cases e'
    exact ite_ff ⟨H3, I3, q'⟩
  | true =>
    refine ite_tt (test_last (thn (hc pins s3 σ H3 _ I3 q3) fun w' s4 ⟨z', H4, I4, r4, q4⟩ => thn (ho' pins s4 σ H4 y z' u w' _ I4 r2 r4 q4) fun d' s5 ⟨z2, H5, I5, r5, k2, e2, q5⟩ => ?_))
    subst e2
    cases r5
    exact wpAny_truthy_bool ⟨H5, I5, q5⟩

def TruV (K : PySem.W.Frag) (x : V) (H : Hp) (k : Bool) : Prop :=
  match x with
  | .non => k = false
  | .bl b => k = b
  | .int i => k = (i != 0)
  | .str y => y.length ≤ sizeLine ∧ k = ((y.length : Int) != 0)
  | .byt y => y.size ≤ sizeLine ∧ k = ((y.size : Int) != 0)
  | .ref p => (∃ xs, SqL K H p xs ∧ k = !xs.isEmpty) ∨ (∃ xs, SqT K H p xs ∧ k = !xs.isEmpty) ∨ ∃ kvs, H p = some (.dK kvs) ∧ k = !kvs.isEmpty
  | _ => False
theorem line63 : (sizeLine : Nat) < 2 ^ 63 := by rw [sizeLine_eq]; decide


def PlainIxT (b : Expr) : Prop := ∀ o i, subscripted b false o i = operate [o, i] (getItem o i)

theorem vals1 {x : V} {us : List Value} (r : Vals [x] us) : ∃ u, us = [u] ∧ RelV x u := by
  cases r with
  | cons r1 r2 => cases r2; exact ⟨_, rfl, r1⟩
theorem vals2 {x y : V} {us : List Value} (r : Vals [x, y] us) : ∃ u w', us = [u, w'] ∧ RelV x u ∧ RelV y w' := by
  cases r with
  | cons r1 r2 =>
    cases r2 with
    | cons r3 r4 => cases r4; exact ⟨_, _, rfl, r1, r3⟩
theorem call_abs : CallR X (.builtin "abs") (fun xs H Q => ∃ i, xs = [.int i] ∧ Q (.int (if i < 0 then -i else i)) H) := by
  intro pins s σ H xs us Q I r h
  obtain ⟨i, rfl, q⟩ := h
  obtain ⟨u, rfl, t, rfl⟩ := vals1 r
  exact call_abs_int fun u tk => ⟨.int (if i < 0 then -i else i), H, I.tok _, ⟨_, rfl⟩, q⟩
theorem call_min2 (hc : X.calm = true) : CallR X (.builtin "min") (fun xs H Q => ∃ i j, xs = [.int i, .int j] ∧ Q (.int (if j < i then j else i)) H) := by
  intro pins s σ H xs us Q I r h
  obtain ⟨i, j, rfl, q⟩ := h
  obtain ⟨u, w', rfl, ⟨t, rfl⟩, ⟨t', rfl⟩⟩ := vals2 r
  refine min_two_ints (I.ok.hd hc) fun h' tk k => ⟨_, H, I.kept k, ?_, q⟩
  by_cases hj : j < i
  · rw [if_pos hj, if_pos hj]; exact ⟨_, rfl⟩
  · rw [if_neg hj, if_neg hj]; exact ⟨_, rfl⟩
def LenV (K : PySem.W.Frag) (x : V) (H : Hp) (n : Nat) : Prop :=
  match x with
  | .str y => y.length ≤ sizeLine ∧ n = y.length
  | .byt y => y.size ≤ sizeLine ∧ n = y.size
  | .ref p => (∃ xs, SqL K H p xs ∧ n = xs.length) ∨ ∃ xs, SqT K H p xs ∧ n = xs.length
  | _ => False
end
end L2

namespace L2
open PySem PySem.Spec PyProof.Rows

structure ObjM (h : Heap) (x dx C : Addr) (mA : Str → Option Value) : Prop where
  obj : h.get? x = some (PySem.W.instObj C dx)
  ns : h.Ns1 dx mA
  ne : dx ≠ x



section
variable {prog : Program} {w : World} {A : Around} {E : Value → Shared → Prop} {s : Shared} {K : PySem.W.Frag} {x dx C f : Addr} {mA : Str → Option Value} {name : Str} {v : Value}





end

def putF (f : Str) (v : V) : List (Str × V) → List (Str × V)
  | [] => [(f, v)]
  | (g, x) :: r => if g = f then (g, v) :: r else (g, x) :: putF f v r


section
variable {P : Program} {w : World} {H H' : Hp} {h h' : Heap} {a C dx : Addr} {fs fs' : List (Str × V)}
end

structure Cls (K : PySem.W.Frag) (C : Addr) : Prop where
  pg : PySem.W.plainGet K C Str.empty = true
  hd : PySem.W.hasDictIn K C = true
  po : PySem.W.plainOver K C = true
  sa : PySem.W.findIn K (.ref C) "__setattr__" = some (some (.builtin "object.__setattr__"))
theorem Cls.get {K : PySem.W.Frag} {C : Addr} (c : Cls K C) (f : Str) : PySem.W.plainGet K C f = true := c.pg
def NoAttr (K : PySem.W.Frag) (C : Addr) (f : Str) : Prop := PySem.W.findIn K (.ref C) f = some none
structure Con (K : PySem.W.Frag) (C : Addr) (f : Str) (v : V) (u : Value) : Prop where
  at_ : PySem.W.findIn K (.ref C) f = some (some u)
  rel : RelV v u
  get : PySem.W.specialIn K u "__get__" = some none
  cp : PySem.W.copiedNames.contains f = false
structure Meth (K : PySem.W.Frag) (C : Addr) (m : Str) (f : Addr) : Prop where
  at_ : PySem.W.findIn K (.ref C) m = some (some (.ref f))
  fn : PySem.W.isFn K (.ref f) = true
  kp : PySem.W.keepIn K (.ref f) = true

section
variable {X : Cx} {pins : List (Addr × Obj)} {σ : St} {H : Hp} {s : Shared} {a C dx : Addr} {fs : List (Str × V)} {f : Str} {v : V} {A : Around} {E : Value → Shared → Prop}






end

def tFld (K : PySem.W.Frag) (ta : TE) (f : Str) : TE := fun σ H Q => ta σ H fun x H1 => ∃ a C dx fs v, x = .ref a ∧ H1 a = some (.ins C dx fs) ∧ Cls K C ∧ NoAttr K C f ∧ fs.lookup f = some v ∧ Q v H1
def tCon (K : PySem.W.Frag) (ta : TE) (f : Str) : TE := fun σ H Q => ta σ H fun x H1 => ∃ a C dx fs v u, x = .ref a ∧ H1 a = some (.ins C dx fs) ∧ Cls K C ∧ Con K C f v u ∧ fs.lookup f = none ∧ Q v H1
def sFld (K : PySem.W.Frag) (ta tv : TE) (f : Str) : TS := fun D σ H => tv σ H fun y H1 => ta σ H1 fun x H2 => ∃ a C dx fs, x = .ref a ∧ H2 a = some (.ins C dx fs) ∧ Cls K C ∧ NoAttr K C f ∧ fs.length < 1000 ∧
  D.nx σ (upd H2 a (.ins C dx (putF f y fs)))
def InOp (X : Cx) (op : Operator) (rd : V → V → Hp → VK → Prop) : Prop :=
  ∀ (pins : List (Addr × Obj)) (s : Shared) (σ : St) (H : Hp) (x y : V) (u v : Value) (Q : VK), Inv X pins σ H s → RelV x u → RelV y v → rd x y H Q → wpAny (model X.prog X.w) X.A (inplaceOp op u v) (EP X pins σ Q) X.xe s
def sFldAug (K : PySem.W.Frag) (ta tv : TE) (rd : V → V → Hp → VK → Prop) (f : Str) : TS := fun D σ H => ta σ H fun x H1 => ∃ a C dx fs v, x = .ref a ∧ H1 a = some (.ins C dx fs) ∧ Cls K C ∧ NoAttr K C f ∧ fs.lookup f = some v ∧
  tv σ H1 fun y H2 => rd v y H2 fun z H3 => ∃ dx' fs', H3 a = some (.ins C dx' fs') ∧ fs'.length < 1000 ∧ D.nx σ (upd H3 a (.ins C dx' (putF f z fs')))

section
variable {X : Cx} {o e value : Expr} {f : Str} {pos pos' tpos : Pos} {ta tv : TE}
def rAdd : V → V → Hp → VK → Prop := fun x y H Q => ∃ i j, x = .int i ∧ y = .int j ∧ Q (.int (i + j)) H
def rSub : V → V → Hp → VK → Prop := fun x y H Q => ∃ i j, x = .int i ∧ y = .int j ∧ Q (.int (i - j)) H

end

section
variable {X : Cx} {pins : List (Addr × Obj)} {σ : St} {H : Hp} {s : Shared} {A : Around} {E : Value → Shared → Prop} {Q : Value → Shared → Prop} {c : Value} {b : Bool}
inductive TyOf (K : PySem.W.Frag) (H : Hp) : V → Value → Prop where
  | non : TyOf K H .non (.type "NoneType")
  | bl (x : Bool) : TyOf K H (.bl x) (.type "bool")
  | int (i : Int) : TyOf K H (.int i) (.type "int")
  | str (x : Str) : TyOf K H (.str x) (.type "str")
  | flt (x : UInt64) : TyOf K H (.flt x) (.type "float")
  | lst {a : Addr} {xs : List V} (e : H a = some (.lst xs)) : TyOf K H (.ref a) (.type "list")
  | frz {a : Addr} {o : Obj} {xs : List V} (e : H a = some (.frz o (.lst xs))) : TyOf K H (.ref a) (.type "list")
  | tup {a : Addr} {xs : List V} (e : H a = some (.tup xs)) : TyOf K H (.ref a) (.type "tuple")
  | dK {a : Addr} {kvs : List (Key × V)} (e : H a = some (.dK kvs)) : TyOf K H (.ref a) (.type "dict")
  | dT {a : Addr} {kvs : List (List Key × V)} (e : H a = some (.dT kvs)) : TyOf K H (.ref a) (.type "dict")
  | ins {a C dx : Addr} {fs : List (Str × V)} (e : H a = some (.ins C dx fs)) (cl : Cls K C) (ha : PySem.W.findIn K (.ref C) "__class__" = some (some (.builtin "object.__class__")))
      (hn : PySem.W.specialIn K (.builtin "object.__class__") "__get__" = some (some (.builtin "getset_descriptor.__get__"))) (htk : PySem.W.takesIn K (.builtin "object.__class__") = some true)
      (hm : PySem.W.mroIn K C (.type "object") = some true) : TyOf K H (.ref a) (.ref C)
end
end L2

namespace L2
open PySem PySem.Spec PyProof.Rows

structure Room (k : Nat) (A : Around) : Prop where
  hd : A.handled = none
  dp : A.depth + 3 * k + 5 < recursionLimit
  un : A.units + 16 * k + 200 < cLine
theorem Room.mono {j k : Nat} {A : Around} (r : Room k A) (h : j ≤ k) : Room j A := ⟨r.hd, by have := r.dp; omega, by have := r.un; omega⟩
theorem Room.deeper {k : Nat} {A : Around} (r : Room (k + 1) A) (env : Env) : Room k (A.deeper env) :=
  ⟨r.hd, by have := r.dp; show A.depth + 1 + 3 * k + 5 < _; omega, by have := r.un; show A.units + 3 + 16 * k + 200 < _; omega⟩
theorem Room.in1 {k : Nat} {A : Around} (r : Room (k + 1) A) : Room k A.in1 :=
  ⟨r.hd, by have := r.dp; show A.depth + 3 * k + 5 < _; omega, by have := r.un; show A.units + 1 + 16 * k + 200 < _; omega⟩
theorem Room.depth {k : Nat} {A : Around} (r : Room k A) : A.depth < recursionLimit := by have := r.dp; omega
theorem Room.units {k : Nat} {A : Around} (r : Room k A) : A.units + 64 < cLine := by have := r.un; omega

def tNil : TA := fun _ H Q => Q [] H
def tCons (ta : TE) (tr : TA) : TA := fun σ H Q => ta σ H fun x H1 => tr σ H1 fun xs H2 => Q (x :: xs) H2
section
variable {X : Cx} {e : Expr} {es : List Expr} {te : TE} {t : TA} {pos : Pos}
theorem pa_nil : PA X [] tNil := fun _ _ _ _ H Q I h => Calls.spliced_nil ⟨[], H, I, .nil, h⟩
theorem pa_cons (ha : PE X e te) (hr : PA X es t) (hs : starEach (e :: es) X.env = (false, eval e X.env) :: starEach es X.env := by rfl) : PA X (e :: es) (tCons te t) := by
  intro pos pins s σ H Q I h
  rw [hs]
  show wpAny _ _ (spliced ((false, eval e X.env) :: backTo pos (starEach es X.env))) _ _ s
  refine Calls.spliced_cons (thn (ha pins s σ H _ I h) fun u s1 ⟨x, H1, I1, r1, q1⟩ => ?_)
  exact thn (hr pos pins s1 σ H1 _ I1 q1) fun us s2 ⟨xs, H2, I2, r2, q2⟩ => ⟨x :: xs, H2, I2, .cons r1 r2, q2⟩

def tTup (t : TA) : TE := fun σ H Q => t σ H fun xs H1 => xs.length ≤ sizeLine ∧ ∀ p, H1 p = none → Q (.ref p) (upd H1 p (.tup xs))
def tLst (t : TA) : TE := fun σ H Q => t σ H fun xs H1 => xs.length ≤ sizeLine ∧ ∀ p, H1 p = none → Q (.ref p) (upd H1 p (.lst xs))
theorem pe_tup {x1} (h : PA X es t) : PE X (.Tuple es x1 pos) (tTup t) := by
  intro pins s σ H Q I hq
  refine wpAny_Tuple_spliced (thn (h pos pins s σ H _ I hq) fun us s1 ⟨xs, H1, I1, r, z, q⟩ => ⟨by rw [← r.length]; exact z, ?_⟩)
  have hf : H1 s1.heap.objs.size = none := I1.hok.fresh (Nat.le_refl _)
  refine ⟨.ref s1.heap.objs.size, upd H1 s1.heap.objs.size (.tup xs), I1.laid (t' := s1.toks) (fun b u e => Heap.get?_push_of_some _ e) (Nat.le_refl _) ?_, rfl, q _ hf⟩
  exact ⟨z, us, r, ⟨_, Heap.get?_push_size _ rfl, rfl, _, rfl⟩⟩
theorem pe_lst (h : PA X es t) : PE X (.List es pos) (tLst t) := by
  intro pins s σ H Q I hq
  refine wpAny_List_spliced (thn (h pos pins s σ H _ I hq) fun us s1 ⟨xs, H1, I1, r, z, q⟩ => ⟨by rw [← r.length]; exact z, ?_⟩)
  have hf : H1 s1.heap.objs.size = none := I1.hok.fresh (Nat.le_refl _)
  refine ⟨.ref s1.heap.objs.size, upd H1 s1.heap.objs.size (.lst xs), I1.laid (t' := s1.toks) (fun b u e => Heap.get?_push_of_some _ e) (Nat.le_refl _) ?_, rfl, q _ hf⟩
  exact ⟨z, us, 0, r, Heap.get?_push_size _ rfl⟩
end

abbrev Sp := List V → Hp → VK → XK → Prop
abbrev CXT := List Env → Hp → Shared → XK → Value → Shared → Prop

structure Env0 (P : Program) (w : World) (K : PySem.W.Frag) (mg : Str → Option Value) (base : Heap) (A : Around) (outer : List Env) (s : Shared) (H : Hp) : Prop where
  frames : A.frames = some outer
  mod : Mod K mg base
  bs : ∀ b o, base.get? b = some o → s.heap.get? b = some o ∧ H b = none
  bsz : base.objs.size ≤ s.heap.objs.size
  funs : s.heap.FunFrames base outer
  frf : ∀ b ∈ frs outer, H b = none
  hok : HOk P w H s.heap
  bare : AllBare s.gens
def CE (outer : List Env) (P : Program) (w : World) (H : Hp) (s : Shared) (Q : VK) (u : Value) (s' : Shared) : Prop :=
  ∃ v H', s'.os = s.os ∧ AllBare s'.gens ∧ Un (frs outer) [] H H' s.heap s'.heap ∧ HOk P w H' s'.heap ∧ RelV v u ∧ Q v H'
def CR (CX : CXT) (outer : List Env) (P : Program) (w : World) (H : Hp) (s : Shared) (Q : VK) (E : XK) (r : Result) (s' : Shared) : Prop :=
  match r with
  | .ok (.ret u) => CE outer P w H s Q u s'
  | .ok _ => False
  | .error e => CX outer H s E e s'
structure FnOk (P : Program) (w : World) (K : PySem.W.Frag) (mg : Str → Option Value) (base : Heap) (CX : CXT) (k : Nat) (f : Addr) (fd : FuncData) (ps : List Str) (sp : Sp) : Prop where
  len : ∀ vs H Q E, sp vs H Q E → vs.length = ps.length
  run : ∀ (A : Around) (outer : List Env) (s : Shared) (H : Hp) (args : Args) (us : List Value) (vs : List V) (Q : VK) (E : XK), Room k A → Env0 P w K mg base A outer s H → BindsTo s fd args (ps.zip us) → Vals vs us → sp vs H Q E →
    codeAny (model P w) A (.call (.ref f) args) (CR CX outer P w H s Q E) s
theorem FnOk.mono {P : Program} {w : World} {K : PySem.W.Frag} {mg : Str → Option Value} {base : Heap} {CX : CXT} {j k : Nat} {f : Addr} {fd : FuncData} {ps : List Str} {sp : Sp} (F : FnOk P w K mg base CX j f fd ps sp) (h : j ≤ k) :
    FnOk P w K mg base CX k f fd ps sp := ⟨F.len, fun A outer s H args us vs Q E hr => F.run A outer s H args us vs Q E (hr.mono h)⟩
theorem FnOk.imp {P : Program} {w : World} {K : PySem.W.Frag} {mg : Str → Option Value} {base : Heap} {CX : CXT} {k : Nat} {f : Addr} {fd : FuncData} {ps : List Str} {sp sp' : Sp} (F : FnOk P w K mg base CX k f fd ps sp)
    (h : ∀ vs H Q E, sp' vs H Q E → sp vs H Q E) : FnOk P w K mg base CX k f fd ps sp' :=
  ⟨fun vs H Q E q => F.len vs H Q E (h _ _ _ _ q), fun A outer s H args us vs Q E hr he hb hv hs => F.run A outer s H args us vs Q E hr he hb hv (h _ _ _ _ hs)⟩

theorem Env0.in1 {P : Program} {w : World} {K : PySem.W.Frag} {mg : Str → Option Value} {base : Heap} {A : Around} {outer : List Env} {s : Shared} {H : Hp} (e : Env0 P w K mg base A outer s H) :
    Env0 P w K mg base A.in1 outer s H := ⟨e.frames, e.mod, e.bs, e.bsz, e.funs, e.frf, e.hok, e.bare⟩

section
variable {X : Cx} {pins : List (Addr × Obj)} {σ : St} {H : Hp} {s s' : Shared}
theorem Inv.env0 (I : Inv X pins σ H s) : Env0 X.prog X.w X.K X.mg X.base X.A X.stack s H :=
  ⟨I.ok.frames, I.ok.mod, I.bs, Nat.le_trans I.ok.bsz I.sz, I.stack, I.stkFree, I.hok, I.bare⟩
theorem Inv.after {Q : VK} {u : Value} (I : Inv X pins σ H s) (h : CE X.stack X.prog X.w H s Q u s') : EP X pins σ Q u s' := by
  obtain ⟨v, H', os, bare, un, hok, r, q⟩ := h
  obtain ⟨hh, g, d, t, os'⟩ := s'
  obtain rfl : os' = s.os := os
  exact ⟨v, H', I.call (h' := hh) (g' := g) (d' := d) (t' := t) (ch := []) un hok bare (fun b z => absurd z (by simp)), r, q⟩
end

def tCall (sp : Sp) (dvs : List V) (E : XK) (t : TA) : TE := fun σ H Q => t σ H fun vs H1 => sp (vs ++ dvs) H1 Q E
def tMeth (C : Addr) (m : Str) (sp : Sp) (dvs : List V) (E : XK) (ta : TE) (t : TA) : TE := fun σ H Q => ta σ H fun x H1 => ∃ a dx fs, x = .ref a ∧ H1 a = some (.ins C dx fs) ∧ fs.lookup m = none ∧
  t σ H1 fun vs H2 => sp (x :: (vs ++ dvs)) H2 Q E
def tMake (C : Addr) (sp : Sp) (dvs : List V) (E : XK) (t : TA) : TE := fun σ H Q => t σ H fun vs H1 => ∀ x dx, H1 x = none → H1 dx = none → dx ≠ x →
  sp (.ref x :: (vs ++ dvs)) (upd (upd H1 dx (.own x)) x (.ins C dx [])) (fun v H2 => v = .non ∧ Q (.ref x) H2) E

def Binds (K : PySem.W.Frag) (fd : FuncData) (ps : List Str) (ds : List Value) : Prop :=
  ∀ (s : Shared) (us : List Value), K.In s.heap → (us ++ ds).length = ps.length → BindsTo s fd ⟨us, []⟩ (ps.zip (us ++ ds))
theorem Binds.all {K : PySem.W.Frag} {fd : FuncData} {ps : List Str} (h : ∀ us : List Value, us.length = ps.length → bindArgs fd ⟨us, []⟩ = pure (ps.zip us)) : Binds K fd ps [] := fun s us _ hl => by
  rw [List.append_nil] at hl ⊢
  exact .of_eq (h us hl)

def Passes (CX : CXT) (X : Cx) (E : XK) : Prop := ∀ (pins : List (Addr × Obj)) (σ : St) (H : Hp) (s : Shared) (e : Value) (s' : Shared), Inv X pins σ H s → CX X.stack H s E e s' → X.xe e s'

section
variable {X : Cx} {CX : CXT} {k : Nat} {f C : Addr} {fd : FuncData} {ps : List Str} {sp : Sp} {dvs : List V} {ds : List Value} {E : XK} {x m : Str} {p pos apos : Pos} {e o : Expr} {es : List Expr} {ta : TE} {t : TA}

theorem run_fn {pins : List (Addr × Obj)} {σ : St} {H : Hp} {s : Shared} {Q : VK} {us : List Value} {vs : List V} (F : FnOk X.prog X.w X.K X.mg X.base CX k f fd ps sp) (hr : Room k X.A) (hb : Binds X.K fd ps ds) (hd : Vals dvs ds) (hx : Passes CX X E)
    (I : Inv X pins σ H s) (r : Vals vs us) (h : sp (vs ++ dvs) H Q E) : wpAny (model X.prog X.w) X.A (call (.ref f) us) (EP X pins σ Q) X.xe s := by
  have r2 : Vals (vs ++ dvs) (us ++ ds) := r.append hd
  have hl : (us ++ ds).length = ps.length := by rw [← r2.length]; exact F.len _ _ _ _ h
  refine wpAny_call (codeAny_mono (F.run X.A X.stack s H ⟨us, []⟩ (us ++ ds) (vs ++ dvs) Q E hr I.env0 (hb s us I.kIn hl) r2 h) fun r s' hq => ?_)
  cases r with
  | error e => exact hx pins σ H s e s' I hq
  | ok fl =>
    cases fl with
    | ret u => exact I.after hq
    | next => exact False.elim hq
    | brk => exact False.elim hq
    | cont => exact False.elim hq

theorem pe_call (F : FnOk X.prog X.w X.K X.mg X.base CX k f fd ps sp) (hr : Room k X.A) (hg : Gl X x) (hm : X.mg x = some (.ref f)) (hk : PySem.W.keepIn X.K (.ref f) = true) (hb : Binds X.K fd ps ds) (hd : Vals dvs ds) (hx : Passes CX X E)
    (ha : PA X (e :: es) t) (hdb : (x == ("__debug__" : Str)) = false := by decide) (he : starEach (e :: es) X.env = (false, eval e X.env) :: starEach es X.env := by rfl) (hpl : (backTo pos (starEach es X.env)).any (·.1) = false := by rfl) :
    PE X (.Call (.Name x p) (e :: es) [] pos) (tCall sp dvs E t) := by
  intro pins s σ H Q I h
  refine wpAny_Call_Name_kw (ld_glob I hg hm ?_ hdb)
  refine PySem.W.callWith_K (h₀ := X.base) I.ok.mod.kin hk (thn (ha pos pins s σ H _ I h) fun us s1 ⟨vs, H1, I1, r, q⟩ => ⟨I1.kIn, ?_⟩) he hpl
  exact run_fn F hr hb hd hx I1 r q


structure Mk (K : PySem.W.Frag) (C f : Addr) : Prop where
  makes : PySem.W.makesIn K C = true
  init : PySem.W.findIn K (.ref C) "__init__" = some (some (.ref f))
  fn : PySem.W.isFn K (.ref f) = true
  kp : PySem.W.keepIn K (.ref C) = true

end

def PK (X : Cx) (kws : List Keyword) (t : TA) : Prop :=
  ∀ (pos : Pos) (pins : List (Addr × Obj)) (s : Shared) (σ : St) (H : Hp) (Q : List V → Hp → Prop), Inv X pins σ H s → t σ H Q → wpAny (model X.prog X.w) X.A (evalAll ((backToKw pos (keywordEach kws X.env)).map (·.2))) (AP X pins σ Q) X.xe s
section
variable {X : Cx} {CX : CXT} {k : Nat} {f C : Addr} {fd : FuncData} {ps ks : List Str} {sp : Sp} {E : XK} {x m : Str} {p pos apos kpos : Pos} {e o : Expr} {es : List Expr} {kws : List Keyword} {te ta : TE} {t tk : TA} {nm : Option Str}

structure KBinds (K : PySem.W.Frag) (fd : FuncData) (ps ks : List Str) (g : List Value → List Value → List Value) (gV : List V → List V → List V) : Prop where
  to : ∀ (s : Shared) (us ws : List Value), K.In s.heap → (g us ws).length = ps.length → BindsTo s fd ⟨us, ks.zip ws⟩ (ps.zip (g us ws))
  rel : ∀ {vs : List V} {us : List Value} {zs : List V} {ws : List Value}, Vals vs us → Vals zs ws → Vals (gV vs zs) (g us ws)
def tCallK (sp : Sp) (gV : List V → List V → List V) (E : XK) (t tk : TA) : TE := fun σ H Q => t σ H fun vs H1 => tk σ H1 fun zs H2 => sp (gV vs zs) H2 Q E
variable {g : List Value → List Value → List Value} {gV : List V → List V → List V}
end

structure FnScope (N P : List Str) (sc : Scope) : Prop where
  kind : sc.kind = .function
  co : sc.isCoroutine = false
  gen : sc.isGenerator = false
  nd : N.Nodup
  pre : N.take P.length = P
  par : ∀ x ∈ P, sc.names.lookup x = some .local ∨ sc.names.lookup x = some .cell
  nofree : ∀ y ∈ sc.names, y.2 ≠ .free

theorem bindL_out {kindOf : Str → Option NameKind} {x : Str} : ∀ {binds : List (Str × Value)} {m : Str → Option Value}, (∀ v, (x, v) ∉ binds) → bindL kindOf binds m x = m x
  | [], _, _ => rfl
  | (n, v) :: r, m, h => by
    unfold bindL
    rw [bindL_out fun w hw => h w (List.mem_cons_of_mem _ hw)]
    split
    · have : x ≠ n := by rintro rfl; exact h v List.mem_cons_self
      simp [this]
    · rfl
theorem bindC_out {kindOf : Str → Option NameKind} {x : Str} : ∀ {binds : List (Str × Value)} {m : Str → Option Value}, (∀ v, (x, v) ∉ binds) → bindC kindOf binds m x = m x
  | [], _, _ => rfl
  | (n, v) :: r, m, h => by
    unfold bindC
    rw [bindC_out fun w hw => h w (List.mem_cons_of_mem _ hw)]
    split
    · rfl
    · have : x ≠ n := by rintro rfl; exact h v List.mem_cons_self
      simp [this]
theorem bindL_get {kindOf : Str → Option NameKind} {x : Str} {v : Value} : ∀ {P : List Str} {vs : List Value} {i : Nat} {m : Str → Option Value}, P.Nodup → P[i]? = some x → vs[i]? = some v → kindOf x = some .local →
    bindL kindOf (P.zip vs) m x = some v
  | [], _, _, _, _, h, _, _ => by simp at h
  | _ :: _, [], _, _, _, _, h, _ => by simp at h
  | p :: P, w :: vs, 0, m, nd, h1, h2, hk => by
    simp at h1 h2; subst h1; subst h2
    show bindL kindOf ((p, w) :: P.zip vs) m p = _
    unfold bindL
    rw [bindL_out fun v hv => (List.nodup_cons.mp nd).1 (List.of_mem_zip hv).1, if_pos hk]
    simp
  | p :: P, w :: vs, i + 1, m, nd, h1, h2, hk => by
    show bindL kindOf ((p, w) :: P.zip vs) m x = _
    unfold bindL
    exact bindL_get (i := i) (List.nodup_cons.mp nd).2 (by simpa using h1) (by simpa using h2) hk
theorem bindC_get {kindOf : Str → Option NameKind} {x : Str} {v : Value} : ∀ {P : List Str} {vs : List Value} {i : Nat} {m : Str → Option Value}, P.Nodup → P[i]? = some x → vs[i]? = some v → kindOf x ≠ some .local →
    bindC kindOf (P.zip vs) m x = some v
  | [], _, _, _, _, h, _, _ => by simp at h
  | _ :: _, [], _, _, _, _, h, _ => by simp at h
  | p :: P, w :: vs, 0, m, nd, h1, h2, hk => by
    simp at h1 h2; subst h1; subst h2
    show bindC kindOf ((p, w) :: P.zip vs) m p = _
    unfold bindC
    rw [bindC_out fun v hv => (List.nodup_cons.mp nd).1 (List.of_mem_zip hv).1, if_neg hk]
    simp
  | p :: P, w :: vs, i + 1, m, nd, h1, h2, hk => by
    show bindC kindOf ((p, w) :: P.zip vs) m x = _
    unfold bindC
    exact bindC_get (i := i) (List.nodup_cons.mp nd).2 (by simpa using h1) (by simpa using h2) hk

def start (N : List Str) (vs : List V) : St := vs.map some ++ List.replicate (N.length - vs.length) none

def cxOf (CX : CXT) (P : Program) (w : World) (K : PySem.W.Frag) (mg : Str → Option Value) (base : Heap) (N : List Str) (qual : Str) (scope : Scope) (f : Addr) (cd : Value) (A : Around) (outer : List Env) (s : Shared) (H : Hp) (E : XK) : Cx where
  prog := P
  w := w
  K := K
  mg := mg
  base := base
  A := A.deeper (envOfC qual scope s.heap.objs.size f cd)
  N := N
  s₀ := s
  H₀ := H
  env := envOfC qual scope s.heap.objs.size f cd
  outer := outer
  stack := envOfC qual scope s.heap.objs.size f cd :: outer
  ex := []
  calm := true
  fn := fun _ => true
  pn := []
  xe := fun e s' => wpAny (model P w) (A.deeper (envOfC qual scope s.heap.objs.size f cd)) (leaving (envOfC qual scope s.heap.objs.size f cd) e) (fun _ s'' => CX outer H s E e s'') (fun e' s'' => CX outer H s E e' s'') s'

theorem cell_has {sc : Scope} {n : Nat} {x : Str} (h : sc.names.lookup x = some .cell) : ∃ c, (cellsFrom n sc.names []).lookup x = some c := by
  have q := PySem.W.cellsFrom_some sc.names n [] (.inl h)
  exact Option.isSome_iff_exists.mp q

theorem inv_start {CX : CXT} {P : Program} {w : World} {K : PySem.W.Frag} {mg : Str → Option Value} {base : Heap} {N ps : List Str} {qual : Str} {scope : Scope} {f : Addr} {cd : Value} {A : Around} {outer : List Env} {s s1 : Shared} {H : Hp} {E : XK} {us : List Value} {vs : List V}
    (S : FnScope N ps scope) (hd : A.handled = none) (e0 : Env0 P w K mg base A outer s H) (hl : vs.length = ps.length) (r : Vals vs us)
    (x : InCallC s s.heap.objs.size (bindL (envOfC qual scope s.heap.objs.size f cd).kindOf (ps.zip us) fun _ => none) (cellsFrom (s.heap.objs.size + 1) scope.names []) (bindC (envOfC qual scope s.heap.objs.size f cd).kindOf (ps.zip us) fun _ => none) s1) :
    Inv (cxOf CX P w K mg base N qual scope f cd A outer s H E) [] (start N vs) H s1 := by
  have hpl : ps.length ≤ N.length := by have := congrArg List.length S.pre; rw [List.length_take] at this; omega
  obtain ⟨h1, tk, rfl, hk⟩ := x.done
  have noA : ∀ b : Addr, b ∉ (cxOf CX P w K mg base N qual scope f cd A outer s H E).ex := fun b z => absurd (show b ∈ ([] : List Addr) from z) (by simp)
  refine ⟨⟨e0.mod, S.kind, rfl, rfl, Nat.le_refl _, fun y z c h1 h2 => ?_, fun y hy => ?_, fun y c _ h => ?_, fun _ => hd, Around.frames_deeper e0.frames, .inr ⟨rfl, rfl⟩, fun b z => absurd z (noA b), e0.bs, e0.bsz, fun b _ _ => noA b, fun b z => absurd z (noA b), e0.funs, e0.frf⟩,
    rfl, e0.bare, Un.kept hk, ⟨_, x.toInCall.ns, fun i y v h1 h2 h3 => ?_⟩, fun y c h => ⟨_, x.cell y c h⟩, e0.hok.fresh (Nat.le_refl _), fun y c h => ?_, fun p hp => absurd (show p ∈ ([] : List (Addr × Obj)) from hp) (by simp), e0.hok.kept hk, ?_⟩
  · exact name_of_addr x.apart (PySem.mem_of_lookup h1) (PySem.mem_of_lookup h2)
  · have hy : scope.names.lookup y = some .cell ∨ scope.names.lookup y = some .free := hy
    rcases hy with hy | hy
    · exact cell_has hy
    · exact absurd rfl (S.nofree _ (PySem.mem_of_lookup hy))
  · exact Nat.le_of_lt (x.above y c (PySem.mem_of_lookup h))
  · have hi : i < vs.length := by
      unfold start at h2
      by_cases hi : i < vs.length
      · exact hi
      · rw [List.getElem?_append_right (by simpa using hi)] at h2
        rw [List.getElem?_replicate] at h2
        split at h2 <;> cases h2
    have ha : vs[i]? = some v := by
      unfold start at h2
      rw [List.getElem?_append_left (by simpa using hi), List.getElem?_map] at h2
      cases e : vs[i]? with
      | none => rw [e] at h2; cases h2
      | some a => rw [e] at h2; cases h2; rfl
    obtain ⟨u, hu, rv⟩ := r.get ha
    have hp : ps[i]? = some y := by
      rw [← S.pre, List.getElem?_take_of_lt (by omega)]; exact h1
    have ndP : ps.Nodup := by rw [← S.pre]; exact S.nd.sublist (List.take_sublist _ _)
    refine ⟨u, rv, ?_⟩
    rcases S.par y (List.mem_of_getElem? hp) with k | k
    · exact .inl ⟨k, bindL_get ndP hp hu k⟩
    · obtain ⟨c, e⟩ := cell_has (n := s.heap.objs.size + 1) k
      refine .inr ⟨.inl k, c, e, ?_⟩
      have q := x.cell y c e
      rw [bindC_get ndP hp hu (by show scope.names.lookup y ≠ _; rw [k]; decide)] at q
      exact q
  · exact e0.hok.fresh (Nat.le_of_lt (x.above y c (PySem.mem_of_lookup h)))
  · unfold start
    show _ = N.length
    rw [List.length_append, List.length_map, List.length_replicate]
    omega

theorem fn_of {CX : CXT} {P : Program} {w : World} {K : PySem.W.Frag} {mg : Str → Option Value} {base : Heap} {k : Nat} {f : Addr} {name qual : Str} {params : Arguments} {body : List Stmt} {scope : Scope} {dV kV doc pm cdv ct oc : Value} {an od : Option Addr}
    {osl : Array (Option Value)} {N ps : List Str} {sp : Sp} (lk : K.lookup f = some ⟨oc, od, .func (PySem.W.fnOf name qual params body scope dV kV doc pm an cdv ct), osl⟩) (hcd : PySem.W.codeIn K cdv qual = true) (S : FnScope N ps scope)
    (len : ∀ vs H Q E, sp vs H Q E → vs.length = ps.length)
    (hbody : ∀ (A : Around) (outer : List Env) (s : Shared) (H : Hp) (vs : List V) (Q : VK) (E : XK), Room k (A.deeper (envOfC qual scope s.heap.objs.size f cdv)) → sp vs H Q E →
      ∃ t, PSs (cxOf CX P w K mg base N qual scope f cdv A outer s H E) body t ∧ t { nx := fun _ H' => Q .non H', rt := Q } (start N vs) H) :
    FnOk P w K mg base CX (k + 1) f (PySem.W.fnOf name qual params body scope dV kV doc pm an cdv ct) ps sp := by
  refine ⟨len, fun A outer s H args us vs Q E hr e0 hb r hsp => ?_⟩
  have hl := len _ _ _ _ hsp
  have KX : K.In s.heap := e0.mod.kin.keeps fun b o e => (e0.bs b o e).1
  have lim : s.heap.NoLimit := e0.mod.nolimit.keeps fun b o e => (e0.bs b o e).1
  have hkind : ∀ y ∈ ps.zip us, scope.names.lookup y.1 = some .local ∨ (scope.names.lookup y.1 = some .cell ∧ ((cellsFrom (s.heap.objs.size + 1) scope.names []).lookup y.1).isSome = true) := fun ⟨n, v⟩ hy => by
    rcases S.par n (List.of_mem_zip hy).1 with q | q
    · exact .inl q
    · exact .inr ⟨q, PySem.W.cellsFrom_some _ _ _ (.inl q)⟩
  refine codeAny_call_function hr.depth (KX _ _ lk) rfl S.co S.gen rfl (PySem.W.codeRec_of KX hcd) (hb _ _ _ _ ?_)
  refine wpAny_newFunctionEnv_cells S.kind hkind fun env he s1 x => ?_
  subst he
  refine ⟨lim.keeps x.toInCall.keep, codeAny_func ?_⟩
  obtain ⟨t, ht, hq⟩ := hbody A outer s H vs Q E (hr.deeper _) hsp
  have I : Inv (cxOf CX P w K mg base N qual scope f cdv A outer s H E) [] (start N vs) H s1 := inv_start S hr.hd e0 hl r x
  refine wpAny_mono (ht [] s1 (start N vs) H _ I hq) (fun fl s' hs => ?_) fun e s' hs => hs
  have fin : ∀ {σ' : St} {H' : Hp} {v : V} {u : Value}, Inv (cxOf CX P w K mg base N qual scope f cdv A outer s H E) [] σ' H' s' → RelV v u → Q v H' → CE outer P w H s Q u s' :=
    fun {σ' H' v u} J rv q => ⟨v, H', J.os, J.bare, J.base, J.hok, rv, q⟩
  cases fl with
  | ret u =>
    obtain ⟨v, σ', H', J, rv, q⟩ := hs
    exact fin J rv q
  | next =>
    obtain ⟨σ', H', J, q⟩ := hs
    exact fin (v := V.non) (u := Value.none) J rfl q
  | brk =>
    obtain ⟨_, _, _, q⟩ := hs
    exact False.elim q
  | cont =>
    obtain ⟨_, _, _, q⟩ := hs
    exact False.elim q
end L2

namespace L2
open PySem PySem.Spec PyProof.Rows
section
variable {X : Cx} {x : Str} {p pos : Pos} {e : Expr} {es : List Expr} {t : TA} {id T : String} {r : List V → Hp → VK → Prop}

def tCB (r : List V → Hp → VK → Prop) (t : TA) : TE := fun σ H Q => t σ H fun vs H1 => r vs H1 Q
theorem pe_callB (hc : CallR X (.builtin id) r) (hg : Gl X x) (hm : X.mg x = none) (hv : bootBuiltins x = some (.builtin id)) (ha : PA X (e :: es) t) (hn : x ≠ "__name__" := by decide) (hdb : (x == ("__debug__" : Str)) = false := by decide)
    (he : starEach (e :: es) X.env = (false, eval e X.env) :: starEach es X.env := by rfl) (hpl : (backTo pos (starEach es X.env)).any (·.1) = false := by rfl) : PE X (.Call (.Name x p) (e :: es) [] pos) (tCB r t) := by
  intro pins s σ H Q I h
  refine wpAny_Call_Name_kw (ld_blt I hg hm hv ?_ hn hdb)
  exact PyProof.Rows.callWith_builtin1 (thn (ha pos pins s σ H _ I h) fun us s1 ⟨vs, H1, I1, r1, q1⟩ => hc pins s1 σ H1 vs us Q I1 r1 q1) he hpl
theorem pe_callTy (hc : CallR X (.type T) r) (hg : Gl X x) (hm : X.mg x = none) (hv : bootBuiltins x = some (.type T)) (ha : PA X (e :: es) t) (hn : x ≠ "__name__" := by decide) (hdb : (x == ("__debug__" : Str)) = false := by decide)
    (he : starEach (e :: es) X.env = (false, eval e X.env) :: starEach es X.env := by rfl) (hpl : (backTo pos (starEach es X.env)).any (·.1) = false := by rfl) : PE X (.Call (.Name x p) (e :: es) [] pos) (tCB r t) := by
  intro pins s σ H Q I h
  refine wpAny_Call_Name_kw (ld_blt I hg hm hv ?_ hn hdb)
  exact PyProof.Rows.callWith_type1 (thn (ha pos pins s σ H _ I h) fun us s1 ⟨vs, H1, I1, r1, q1⟩ => hc pins s1 σ H1 vs us Q I1 r1 q1) he hpl
end
end L2

namespace HT
open PySem PyProof.Rows

def lexLt : List Int → List Int → Bool
  | [], [] => false
  | [], _ :: _ => true
  | _ :: _, [] => false
  | x :: xs, y :: ys => if x = y then lexLt xs ys else decide (x < y)


section
open PySem.SeqAt
open PySem.AutoSeq1 (wpAny_loadPart')
open PySem.MeetsSeq PySem.MeetsSeq2 PySem.MeetsSeq3

end

section
variable {prog : Program} {w : World} {A : Around} {E : Value → Shared → Prop} {s : Shared}



def sIx (n d : Nat) : Option Int → Nat
  | none => d
  | some v => if v < 0 then (v + (n : Int)).toNat else min v.toNat n
theorem sIx_none (n d : Nat) : sIx n d none = d := rfl
theorem sIx_nat (n d k : Nat) : sIx n d (some (k : Int)) = min k n := by
  show (if (k : Int) < 0 then ((k : Int) + (n : Int)).toNat else min (k : Int).toNat n) = min k n
  rw [if_neg (by omega), Int.toNat_natCast]

end
end HT

namespace L2
open PySem PySem.Spec PyProof.Rows

abbrev TO := St → Hp → (Option Int → Hp → Prop) → Prop
def PO (X : Cx) (e : Option Expr) (t : TO) : Prop :=
  ∀ (pins : List (Addr × Obj)) (s : Shared) (σ : St) (H : Hp) (Q : Option Int → Hp → Prop), Inv X pins σ H s → t σ H Q →
    wpAny (model X.prog X.w) X.A (evalPart e X.env) (fun u s' => ∃ o H', Inv X pins σ H' s' ∧ IsPart u o ∧ Q o H') X.xe s
def tNoPart : TO := fun _ H Q => Q none H
def tPart (t : TE) : TO := fun σ H Q => t σ H fun x H1 => ∃ i, x = .int i ∧ Q (some i) H1

theorem intsAre_of {ns : List Int} : ∀ {us : List Value}, Vals (ns.map V.int) us → IntsAre us ns := by
  induction ns with
  | nil => intro us r; rw [List.map_nil] at r; cases r; exact .nil
  | cons n ns ih =>
    intro us r
    rw [List.map_cons] at r
    cases r with
    | cons r1 r2 =>
      obtain ⟨t, e⟩ := r1
      subst e
      exact .cons n t (ih r2)

section
variable {X : Cx} {e : Expr} {te : TE} {lo hi : Option Expr} {tl th : TO} {pos p2 : Pos}

theorem po_none : PO X none tNoPart := by
  intro pins s σ H Q I h
  rw [evalPart_none]
  exact wpAny_pure ⟨none, H, I, .none, h⟩
theorem po_some (h : PE X e te) : PO X (some e) (tPart te) := by
  intro pins s σ H Q I hw
  rw [evalPart_some]
  refine thn (h pins s σ H _ I hw) fun u s1 ⟨x, H1, I1, r1, q1⟩ => ?_
  obtain ⟨i, rfl, q⟩ := q1
  obtain ⟨t, rfl⟩ := r1
  exact ⟨some i, H1, I1, .int i t, q⟩

def SlR (X : Cx) (r : V → Option Int → Option Int → Hp → VK → Prop) : Prop :=
  ∀ (pins : List (Addr × Obj)) (s : Shared) (σ : St) (H : Hp) (x : V) (v vl vu : Value) (lo hi : Option Int) (sl : Addr) (Q : VK), Inv X pins σ H s → RelV x v → s.heap.IsSliceOf sl vl vu .none → IsPart vl lo → IsPart vu hi → r x lo hi H Q →
    ∃ T id, typeLookup (.type T) "__getitem__" = pure (some (.builtin id)) ∧ s.TypeIs v T ∧ wpAny (model X.prog X.w) X.A (getItem v (.ref sl)) (EP X pins σ Q) X.xe s
def tSl (r : V → Option Int → Option Int → Hp → VK → Prop) (te : TE) (tl th : TO) : TE := fun σ H Q => te σ H fun x H1 => tl σ H1 fun l H2 => th σ H2 fun u H3 => r x l u H3 Q
theorem pe_slice {r : V → Option Int → Option Int → Hp → VK → Prop} (hr : SlR X r) (he : PE X e te) (hl : PO X lo tl) (hu : PO X hi th) : PE X (.Subscript e (.Slice lo hi none p2) pos) (tSl r te tl th) := by
  intro pins s σ H Q I h
  refine Subscript_ (thn (he pins s σ H _ I h) fun v s1 ⟨x, H1, I1, r1, q1⟩ => ?_)
  refine wpAny_Slice (thn (hl pins s1 σ H1 _ I1 q1) fun vl s2 ⟨l, H2, I2, pl, q2⟩ => thn (hu pins s2 σ H2 _ I2 q2) fun vu s3 ⟨u, H3, I3, pu, q3⟩ => ?_)
  rw [evalPart_none]
  refine wpAny_pure ?_
  have I4 : Inv X pins σ H3 { s3 with heap := s3.heap.push { cls := .type "slice", data := .fields #[vl, vu, .none] } } := I3.kept (t' := s3.toks) fun b ob q => Heap.get?_push_of_some _ q
  obtain ⟨T, id, hT, ht, hg⟩ := hr pins { s3 with heap := s3.heap.push { cls := .type "slice", data := .fields #[vl, vu, .none] } } σ H3 x v vl vu l u s3.heap.objs.size Q I4 r1 (Heap.IsSliceOf.new ..) pl pu q3
  show wpAny (model X.prog X.w) X.A (subscriptTail e (.Slice lo hi none p2) v (.ref s3.heap.objs.size)) (EP X pins σ Q) X.xe { s3 with heap := s3.heap.push { cls := .type "slice", data := .fields #[vl, vu, .none] } }
  exact tail_any (ops := [.ref s3.heap.objs.size, v]) ht hT hg (by with_unfolding_all rfl)

def cutV (xs : List V) (lo hi : Option Int) : List V := (xs.drop (HT.sIx xs.length 0 lo)).take (HT.sIx xs.length xs.length hi - HT.sIx xs.length 0 lo)
theorem cutV_length (xs : List V) (lo hi : Option Int) : (cutV xs lo hi).length ≤ xs.length := by
  unfold cutV
  rw [List.length_take, List.length_drop]
  omega
def rSlT (K : PySem.W.Frag) : V → Option Int → Option Int → Hp → VK → Prop := fun x lo hi H Q => ∃ a xs, x = .ref a ∧ SqT K H a xs ∧
  ¬ (HT.sIx xs.length 0 lo = 0 ∧ HT.sIx xs.length xs.length hi = xs.length) ∧ ∀ p, H p = none → Q (.ref p) (upd H p (.tup (cutV xs lo hi)))

def rLtT (K : PySem.W.Frag) : R2 := fun x y H Q => ∃ a b ns ms, x = .ref a ∧ y = .ref b ∧ SqT K H a (ns.map V.int) ∧ SqT K H b (ms.map V.int) ∧ Q (.bl (HT.lexLt ns ms)) H
def rCatT (K : PySem.W.Frag) : R2 := fun x y H Q => ∃ a b xs ys, x = .ref a ∧ y = .ref b ∧ SqT K H a xs ∧ SqT K H b ys ∧ xs ≠ [] ∧ xs.length + ys.length ≤ sizeLine ∧
  (ys = [] → Q (.ref a) H) ∧ (ys ≠ [] → ∀ p, H p = none → Q (.ref p) (upd H p (.tup (xs ++ ys))))
end
end L2

namespace L2
open PySem PySem.Spec PyProof.Rows

def ixN (n : Nat) (i : Int) : Option Nat := if 0 ≤ i then (if i < n then some i.toNat else none) else if -(n : Int) ≤ i then some (i + n).toNat else none
def atI {α : Type} (xs : List α) (i : Int) : Option α := (ixN xs.length i).bind fun j => xs[j]?
theorem ixN_seq {n : Nat} {i : Int} {j : Nat} (h : ixN n i = some j) : seqIndex? i n = some j ∧ j < n ∧ -(n : Int) ≤ i ∧ i < n := by
  unfold ixN at h
  by_cases h0 : 0 ≤ i
  · rw [if_pos h0] at h
    by_cases h1 : i < n
    · rw [if_pos h1] at h
      have e : i.toNat = j := Option.some.inj h
      exact ⟨by rw [seqIndex_of h0 h1, e], by omega, by omega, h1⟩
    · rw [if_neg h1] at h; cases h
  · rw [if_neg h0] at h
    by_cases h1 : -(n : Int) ≤ i
    · rw [if_pos h1] at h
      have e : (i + n).toNat = j := Option.some.inj h
      exact ⟨by rw [seqIndex_neg (by omega) h1, e], by omega, h1, by omega⟩
    · rw [if_neg h1] at h; cases h
theorem atI_get {α : Type} {xs : List α} {i : Int} {v : α} (h : atI xs i = some v) : ∃ j, seqIndex? i xs.length = some j ∧ xs[j]? = some v ∧ j < xs.length ∧ -(xs.length : Int) ≤ i ∧ i < xs.length := by
  unfold atI at h
  cases e : ixN xs.length i with
  | none => rw [e] at h; cases h
  | some j =>
    rw [e] at h
    obtain ⟨h1, h2, h3, h4⟩ := ixN_seq e
    exact ⟨j, h1, h, h2, h3, h4⟩
theorem atI_nat {α : Type} {xs : List α} {j : Nat} {v : α} (h : xs[j]? = some v) : atI xs (j : Int) = some v := by
  have hj : j < xs.length := (List.getElem?_eq_some_iff.mp h).1
  have e : ixN xs.length (j : Int) = some j := by
    unfold ixN
    rw [if_pos (by omega), if_pos (by omega)]; simp
  unfold atI; rw [e]; exact h

def PlainIx (b : Expr) : Prop := ∀ o i, subscripted b false o i = operate [o, i] (getItem o i)
def IxR (X : Cx) (r : R2) : Prop :=
  ∀ (value slice : Expr) (pins : List (Addr × Obj)) (s : Shared) (σ : St) (H : Hp) (x y : V) (v u : Value) (Q : VK), Inv X pins σ H s → RelV x v → RelV y u → r x y H Q →
    subscripted slice false v u = operate [v, u] (getItem v u) → wpAny (model X.prog X.w) X.A (subscriptTail value slice v u) (EP X pins σ Q) X.xe s
def MtR (X : Cx) (id : String) (r : V → List V → Hp → VK → Prop) : Prop :=
  ∀ (pins : List (Addr × Obj)) (s : Shared) (σ : St) (H : Hp) (x : V) (xs : List V) (v : Value) (us : List Value) (Q : VK), Inv X pins σ H s → RelV x v → Vals xs us → r x xs H Q →
    wpAny (model X.prog X.w) X.A (call (.builtin id) (v :: us)) (EP X pins σ Q) X.xe s
section
variable {X : Cx} {a b : Expr} {ta tb : TE} {pos : Pos}
theorem pe_ix {r : R2} (hr : IxR X r) (ha : PE X a ta) (hb : PE X b tb) (hs : PlainIx b) : PE X (.Subscript a b pos) (tOp r ta tb) := by
  intro pins s σ H Q I h
  exact Subscript_ (binT ha hb I h fun v u s2 x y H2 I2 rx ry q => hr a b pins s2 σ H2 x y v u Q I2 rx ry q (hs _ _))

def rIxL (K : PySem.W.Frag) : R2 := fun x y H Q => ∃ p xs i v, x = .ref p ∧ y = .int i ∧ SqL K H p xs ∧ atI xs i = some v ∧ Q v H
def rIxT (K : PySem.W.Frag) : R2 := fun x y H Q => ∃ p xs i v, x = .ref p ∧ y = .int i ∧ SqT K H p xs ∧ atI xs i = some v ∧ Q v H
def rIxS : R2 := fun x y H Q => ∃ z i c, x = .str z ∧ y = .int i ∧ z.length ≤ sizeLine ∧ atI z.cps.toList i = some c ∧ Q (.str ⟨#[c]⟩) H
theorem ix_list : IxR X (rIxL X.K) := by
  intro value slice pins s σ H x y v u Q I rx ry h hs
  obtain ⟨p, xs, i, z, rfl, rfl, hq, he, q⟩ := h
  cases rx
  obtain ⟨t, rfl⟩ := ry
  obtain ⟨its, r, pl, hz⟩ := I.list hq
  obtain ⟨j, h1, h2, h3, h4, h5⟩ := atI_get he
  obtain ⟨w, ew, rw'⟩ := r.get h2
  have hl := r.length
  have hn := line63
  have fin : EP X pins σ Q w s := ⟨z, H, I, rw', q⟩
  by_cases h0 : 0 ≤ i
  · have hj : i.toNat = j := by
      rw [seqIndex_of h0 h5] at h1
      exact Option.some.inj h1
    exact item_listR pl.isList h0 (by omega) (by rw [hj]; simpa using ew) fin hs
  · have hj : (i + (its.toArray.size : Int)).toNat = j := by
      rw [seqIndex_neg (by omega) h4] at h1
      rw [List.size_toArray, ← hl]
      exact Option.some.inj h1
    exact subscriptTail_builtinR (x := w) pl.isList.typeIs slot_list_getitem.lookup
      (wpAny_getItem_list_neg (Q := fun r s' => r = w ∧ EP X pins σ Q r s') pl.isList (by omega) (by rw [List.size_toArray] <;> omega) (by omega) (by rw [hj]; simpa using ew) ⟨rfl, fin⟩) hs
theorem ix_tup : IxR X (rIxT X.K) := by
  intro value slice pins s σ H x y v u Q I rx ry h hs
  obtain ⟨p, xs, i, z, rfl, rfl, hq, he, q⟩ := h
  cases rx
  obtain ⟨t, rfl⟩ := ry
  obtain ⟨its, r, pl, hz⟩ := I.tuple hq
  obtain ⟨j, h1, h2, h3, h4, h5⟩ := atI_get he
  obtain ⟨w, ew, rw'⟩ := r.get h2
  have hl := r.length
  have hn := line63
  have fin : EP X pins σ Q w s := ⟨z, H, I, rw', q⟩
  exact subscriptTail_builtinR (x := w) pl.typeIs slot_tuple_getitem.lookup
    (getItem_tuple (j := j) (Q := fun r s' => r = w ∧ EP X pins σ Q r s') pl (by omega) (by omega) (by rw [List.size_toArray, ← hl]; exact h1) (by simpa using ew) ⟨rfl, fin⟩) hs
def rIx (K : PySem.W.Frag) : R2 := fun x y H Q => rIxL K x y H Q ∨ rIxT K x y H Q ∨ rIxS x y H Q

theorem mapSeq_set (its : List Value) (n j : Nat) (u : Value) : Obj.mapSeq (·.setIfInBounds j u) { cls := .type "list", data := .seq its.toArray n } = { cls := .type "list", data := .seq (its.set j u).toArray n } := by
  simp [Obj.mapSeq]
theorem Inv.lst {pins : List (Addr × Obj)} {σ : St} {H : Hp} {s : Shared} {p : Addr} {xs : List V} (I : Inv X pins σ H s) (h : H p = some (.lst xs)) :
    ∃ (its : List Value) (n : Nat), Vals xs its ∧ s.heap.get? p = some { cls := .type "list", data := .seq its.toArray n } ∧ xs.length ≤ sizeLine := by
  obtain ⟨z, its, n, r, e⟩ := I.hok p _ h
  exact ⟨its, n, r, e, z⟩
theorem Inv.lstUpd {pins : List (Addr × Obj)} {σ : St} {H : Hp} {s : Shared} {p : Addr} {xs ys : List V} {its its' : List Value} {n n' : Nat} {f : Obj → Obj} (I : Inv X pins σ H s) (h : H p = some (.lst xs))
    (ho : s.heap.get? p = some { cls := .type "list", data := .seq its.toArray n }) (hf : f { cls := .type "list", data := .seq its.toArray n } = { cls := .type "list", data := .seq its'.toArray n' }) (r : Vals ys its') (hz : ys.length ≤ sizeLine) (t : Nat) :
    Inv X pins σ (upd H p (.lst ys)) { s with heap := s.heap.update p f, toks := t } := by
  have e : (s.heap.update p f).get? p = some { cls := .type "list", data := .seq its'.toArray n' } := by
    rw [Heap.get?_update_self f ho (by rw [hf] <;> rfl), hf]
  refine I.write (x := p) (e := p) (by rw [h]; trivial) (.inl rfl) (fun b u hb q => (Heap.get?_update_other _ _ (Ne.symm hb)).trans q) ⟨_, e⟩ ?_
  exact ⟨hz, its', n', r, e⟩
def rSetL : V → V → V → Hp → (Hp → Prop) → Prop := fun o i v H Q => ∃ p xs k j, o = .ref p ∧ i = .int k ∧ H p = some (.lst xs) ∧ ixN xs.length k = some j ∧ Q (upd H p (.lst (xs.set j v)))
theorem set_list : PSet X rSetL := by
  intro pins s σ H o i v ov iv u Q I ro ri rv h
  obtain ⟨p, xs, k, j, rfl, rfl, hp, hj, q⟩ := h
  cases ro
  obtain ⟨t, rfl⟩ := ri
  obtain ⟨its, n, r, ho, hz⟩ := I.lst hp
  obtain ⟨h1, h2, h3, h4⟩ := ixN_seq hj
  have hl := r.length
  have hn := line63
  have I' : Inv X pins σ (upd H p (.lst (xs.set j v))) { s with heap := s.heap.update p (Obj.mapSeq (·.setIfInBounds j u)) } :=
    I.lstUpd hp ho (mapSeq_set its n j u) (r.set rv j) (by rw [List.length_set]; exact hz) s.toks
  by_cases h0 : 0 ≤ k
  · have hk : k.toNat = j := by
      rw [seqIndex_of h0 h4] at h1
      exact Option.some.inj h1
    exact PySem.W.ki_setAt ho h0 (by omega) (by rw [List.size_toArray, ← hl]; exact h4) (by rw [hk]; exact ⟨_, I', q⟩)
  · have hk : (k + (its.toArray.size : Int)).toNat = j := by
      rw [seqIndex_neg (by omega) h3] at h1
      rw [List.size_toArray, ← hl]
      exact Option.some.inj h1
    exact PySem.W.ki_setBack ho (by omega) (by rw [List.size_toArray, ← hl]; exact h3) (by omega) (by rw [hk]; exact ⟨_, I', q⟩)

theorem slice_bounds (lo hi : Option Int) (n : Nat) : (sliceBounds lo hi none n).1 = ((HT.sIx n 0 lo : Nat) : Int) ∧ (sliceBounds lo hi none n).2.1 = ((HT.sIx n n hi : Nat) : Int) ∧ (sliceBounds lo hi none n).2.2 = 1 := by
  refine ⟨?_, ?_, rfl⟩
  · cases lo with
    | none => simp [sliceBounds, HT.sIx]
    | some i =>
      simp only [sliceBounds, HT.sIx, Option.getD_none, show (1 : Int) > 0 by decide, if_true]
      by_cases h : i < 0
      · simp only [h, if_true] <;> omega
      · simp only [h, if_false] <;> omega
  · cases hi with
    | none => simp [sliceBounds, HT.sIx]
    | some i =>
      simp only [sliceBounds, HT.sIx, Option.getD_none, show (1 : Int) > 0 by decide, if_true]
      by_cases h : i < 0
      · simp only [h, if_true] <;> omega
      · simp only [h, if_false] <;> omega
theorem slicePick_cut (its : List Value) (lo hi : Option Int) : slicePick its.toArray lo hi none = ((its.drop (HT.sIx its.length 0 lo)).take (HT.sIx its.length its.length hi - HT.sIx its.length 0 lo)).toArray := by
  obtain ⟨h1, h2, h3⟩ := slice_bounds lo hi its.toArray.size
  unfold slicePick
  rw [h1, h2, h3]
  simp only [sliceRange_one, pick_run, List.size_toArray] <;> rfl
def rSlL (K : PySem.W.Frag) : V → Option Int → Option Int → Hp → VK → Prop := fun x lo hi H Q => ∃ a xs, x = .ref a ∧ SqL K H a xs ∧ ∀ p, H p = none → Q (.ref p) (upd H p (.lst (cutV xs lo hi)))
theorem sl_list : SlR X (rSlL X.K) := by
  intro pins s σ H x v vl vu lo hi sl Q I rx hs pl pu h
  obtain ⟨a, xs, rfl, hx, q⟩ := h
  cases rx
  obtain ⟨its, r, ht, hz⟩ := I.list hx
  have hlen := r.length
  refine ⟨"list", _, slot_list_getitem.lookup, ht.isList.typeIs, ?_⟩
  refine wpAny_getItem_list_slice ht.isList hs pl pu .none (by simp) ?_ (by rw [List.size_toArray] <;> omega)
  rw [slicePick_cut, ← hlen]
  refine ⟨.ref s.heap.objs.size, _, I.laid (t' := s.toks) (o := .lst (cutV xs lo hi)) (fun b ob q => Heap.get?_push_of_some _ q) (Nat.le_refl _) ?_, rfl, q _ (I.hok.fresh (Nat.le_refl _))⟩
  exact ⟨Nat.le_trans (cutV_length xs lo hi) hz, _, 0, (r.drop (HT.sIx xs.length 0 lo)).take (HT.sIx xs.length xs.length hi - HT.sIx xs.length 0 lo), Heap.get?_push_size _ rfl⟩

def flatV : V → Bool
  | .non => true
  | .bl _ => true
  | .int _ => true
  | .str _ => true
  | _ => false
def eqV : V → V → Bool
  | .non, .non => true
  | .bl a, .bl b => a == b
  | .bl a, .int b => (if a then 1 else 0) == b
  | .int a, .bl b => a == (if b then 1 else 0)
  | .int a, .int b => a == b
  | .str a, .str b => a == b
  | _, _ => false
def eqU (x : V) (u : Value) : Bool := match u with
  | .none => eqV .non x
  | .bool b => eqV (.bl b) x
  | .int i _ => eqV (.int i) x
  | .str z _ => eqV (.str z) x
  | _ => false
def inV (x : V) (xs : List V) : Bool := xs.any fun y => eqV y x
def rIn (K : PySem.W.Frag) (neg : Bool) : R2 := fun x y H Q => ∃ p xs, y = .ref p ∧ (SqL K H p xs ∨ SqT K H p xs) ∧ flatV x = true ∧ xs.all flatV = true ∧ Q (.bl (if neg then !inV x xs else inV x xs)) H

theorem call_len_seq : CallR X (.builtin "len") (fun xs H Q => ∃ p ys, xs = [.ref p] ∧ (SqL X.K H p ys ∨ SqT X.K H p ys) ∧ Q (.int ys.length) H) := by
  intro pins s σ H xs us Q I r h
  obtain ⟨p, ys, rfl, hq, q⟩ := h
  obtain ⟨u, rfl, rx⟩ := vals1 r
  cases rx
  have hn := line63
  rcases hq with hq | hq
  · obtain ⟨its, r', pl, hz⟩ := I.list hq
    have hlen := r'.length
    exact Calls.call_len_list pl.isList (by simp only [List.size_toArray] <;> omega) ⟨.int ys.length, H, I.tok _, ⟨s.toks + 1, by rw [List.size_toArray, hlen]⟩, q⟩
  · obtain ⟨its, r', pl, hz⟩ := I.tuple hq
    have hlen := r'.length
    exact len_tuple pl (by simp only [List.size_toArray] <;> omega) ⟨.int ys.length, H, I.tok _, ⟨s.toks + 1, by rw [List.size_toArray, hlen]⟩, q⟩
theorem call_list_of : CallR X (.type "list") (fun xs H Q => ∃ p ys, xs = [.ref p] ∧ (SqL X.K H p ys ∨ SqT X.K H p ys) ∧ ∀ l, H l = none → Q (.ref l) (upd H l (.lst ys))) := by
  intro pins s σ H xs us Q I r h
  obtain ⟨p, ys, rfl, hq, q⟩ := h
  obtain ⟨u, rfl, rx⟩ := vals1 r
  cases rx
  have fin : ∀ (its : List Value), Vals ys its → ys.length ≤ sizeLine → ∀ (h' : Heap) (c' : Nat), (∀ b o', s.heap.get? b = some o' → h'.get? b = some o') →
      h'.get? s.heap.objs.size = some { cls := .type "list", dict := none, data := .seq its.toArray c', slots := #[] } → EP X pins σ Q (.ref s.heap.objs.size) { s with heap := h' } := fun its r' hz h' c' kp e =>
    ⟨.ref s.heap.objs.size, _, I.laid (t' := s.toks) kp (Nat.le_refl _) (show ObjOk X.prog X.w _ h' _ (.lst ys) from ⟨hz, its, c', r', e⟩), rfl, q _ (I.hok.fresh (Nat.le_refl _))⟩
  rcases hq with hq | hq
  · obtain ⟨its, r', pl, hz⟩ := I.list hq
    have hlen := r'.length
    obtain ⟨o, ho, hc, n, hd⟩ := pl.isList
    exact call_list_seq p (.inl rfl) ho hc hd (fun h' c' kp e => fin its r' hz h' c' kp e) (by simp only [List.size_toArray] <;> omega)
  · obtain ⟨its, r', pl, hz⟩ := I.tuple hq
    have hlen := r'.length
    obtain ⟨o, ho, hc, n, hd⟩ := pl
    exact call_list_seq p (.inr rfl) ho hc hd (fun h' c' kp e => fin its r' hz h' c' kp e) (by simp only [List.size_toArray] <;> omega)
theorem call_tuple_of : CallR X (.type "tuple") (fun xs H Q => ∃ p ys, xs = [.ref p] ∧ ((SqL X.K H p ys ∧ ∀ l, H l = none → Q (.ref l) (upd H l (.tup ys))) ∨ (SqT X.K H p ys ∧ Q (.ref p) H))) := by
  intro pins s σ H xs us Q I r h
  obtain ⟨p, ys, rfl, h⟩ := h
  obtain ⟨u, rfl, rx⟩ := vals1 r
  cases rx
  rcases h with ⟨hq, q⟩ | ⟨hq, q⟩
  · obtain ⟨its, r', pl, hz⟩ := I.list hq
    have hlen := r'.length
    refine call_tuple_list pl.isList (fun h' kp => ?_) (by simp only [List.size_toArray] <;> omega)
    have I1 : Inv X pins σ H { s with heap := h' } := I.kept (t' := s.toks) kp
    have I2 : Inv X pins σ (upd H h'.objs.size (.tup ys)) { s with heap := h'.push { cls := .type "tuple", data := .seq its.toArray } } :=
      I1.laid (t' := s.toks) (fun b o e => Heap.get?_push_of_some _ e) (Nat.le_refl _) (show ObjOk X.prog X.w _ _ _ (.tup ys) from ⟨hz, its, r', IsTup.new _ _⟩)
    exact ⟨.ref h'.objs.size, _, I2, rfl, q _ (I1.hok.fresh (Nat.le_refl _))⟩
  · obtain ⟨its, r', pl, hz⟩ := I.tuple hq
    exact call_tuple_same pl ⟨.ref p, H, I, rfl, q⟩

def tyV (K : PySem.W.Frag) (T : String) (x : V) (H : Hp) : Prop := match x with
  | .str _ => T = "str"
  | .int _ => T = "int"
  | .ref p => (T = "list" ∧ ∃ xs, SqL K H p xs) ∨ (T = "tuple" ∧ ∃ o, K.lookup p = some o ∧ o.cls = .type "tuple" ∧ o.dict = none) ∨
      (T = "dict" ∧ ((∃ kvs, H p = some (.dK kvs)) ∨ ∃ kvs, H p = some (.dT kvs))) ∨ (T = "set" ∧ ∃ S n, H p = some (.set S n))
  | _ => False
theorem tyV_is {pins : List (Addr × Obj)} {σ : St} {H : Hp} {s : Shared} {T : String} {x : V} {v : Value} (I : Inv X pins σ H s) (r : RelV x v) (ty : tyV X.K T x H) :
    s.TypeIs v T ∧ ∀ a, v = .ref a → ∃ ob, s.heap.get? a = some ob ∧ ob.dict = none := by
  cases x with
  | str z =>
    obtain ⟨t, rfl⟩ := r
    cases (show T = "str" from ty)
    exact ⟨typeIs_str s z t, fun _ e => nomatch e⟩
  | int i =>
    obtain ⟨t, rfl⟩ := r
    cases (show T = "int" from ty)
    exact ⟨typeIs_int s i t, fun _ e => nomatch e⟩
  | ref p =>
    cases r
    rcases ty with ⟨rfl, xs, hq⟩ | ⟨rfl, o, hk, hc, hd⟩ | ⟨rfl, hk⟩ | ⟨rfl, S, n, hk⟩
    · obtain ⟨its, _, pl, _⟩ := I.list hq
      refine ⟨pl.isList.typeIs, fun a e => ?_⟩
      cases e
      obtain ⟨o, n, e, c, hd, _⟩ := pl
      exact ⟨o, e, hd⟩
    · refine ⟨⟨o, I.kIn p o hk, hc⟩, fun a e => ?_⟩
      cases e
      exact ⟨o, I.kIn _ o hk, hd⟩
    · have z : ∃ o, s.heap.get? p = some o ∧ o.ExactDict := by
        rcases hk with ⟨kvs, hk⟩ | ⟨kvs, hk⟩
        · obtain ⟨_, _, _, _, o, _, _, e, ex, _⟩ := I.hok p _ hk
          exact ⟨o, e, ex⟩
        · obtain ⟨_, _, _, _, o, _, _, e, ex, _⟩ := I.hok p _ hk
          exact ⟨o, e, ex⟩
      obtain ⟨o, e, ex⟩ := z
      refine ⟨⟨o, e, ex.1⟩, fun a e2 => ?_⟩
      cases e2
      exact ⟨o, e, ex.2.1⟩
    · obtain ⟨o, _, _, _, e, ex, _⟩ := I.hok p _ hk
      refine ⟨⟨o, e, ex.1⟩, fun a e2 => ?_⟩
      cases e2
      exact ⟨o, e, ex.2.1⟩
  | _ => exact False.elim ty
def tBM0 (K : PySem.W.Frag) (T : String) (r : V → List V → Hp → VK → Prop) (to : TE) : TE := fun σ H Q => to σ H fun x H1 => tyV K T x H1 ∧ r x [] H1 Q
def tBM (K : PySem.W.Frag) (T : String) (r : V → List V → Hp → VK → Prop) (to : TE) (t : TA) : TE := fun σ H Q => to σ H fun x H1 => tyV K T x H1 ∧ t σ H1 fun xs H2 => r x xs H2 Q
variable {o e : Expr} {es : List Expr} {to : TE} {t : TA} {name : Str} {apos cpos : Pos} {T id : String} {r : V → List V → Hp → VK → Prop}
theorem pe_bm (pa : PlainAttrs T) (slot : Slot T name id) (hty : typeOf (.builtin id) = pure (.type "method_descriptor")) (hm : MtR X id r) (ho : PE X o to) (ha : PA X (e :: es) t)
    (hbase : attributeBase o name X.env (eval o X.env) = eval o X.env := by rfl)
    (hfew : ((backTo cpos (starEach (e :: es) X.env)).all (fun x => !x.1) && (backToKw cpos (keywordEach [] X.env)).all (fun x => x.1.isSome)
      && decide ((e :: es).length + ([] : List Keyword).length + (if ([] : List Keyword).isEmpty then 0 else 1) < 30)) = true := by rfl)
    (hline : (apos.endLine == cpos.line) = true := by rfl) (hs : starEach (e :: es) X.env = (false, eval e X.env) :: starEach es X.env := by rfl) (hplain : (backTo cpos (starEach es X.env)).any (·.1) = false := by rfl) :
    PE X (.Call (.Attribute o name apos) (e :: es) [] cpos) (tBM X.K T r to t) := by
  intro pins s σ H Q I h
  refine wpAny_Call_method_late hbase hfew hline rfl (thn (ho pins s σ H _ I h) fun v s1 ⟨x, H1, I1, r1, ty, q1⟩ => ?_)
  obtain ⟨h1, h2⟩ := tyV_is I1 r1 ty
  refine ⟨T, id, pa, slot, hty, h1, h2, ?_⟩
  have hA := ha cpos pins s1 σ H1 _ I1 q1
  rw [hs] at hA ⊢
  refine Calls.callWith_builtin (by show (false || (backTo cpos (starEach es X.env)).any (·.1)) = false; rw [hplain] <;> rfl) (Calls.evalArgs_plain ?_)
  exact thn hA fun us s2 ⟨vs, H2, I2, r2, q2⟩ => hm pins s2 σ H2 x vs v us Q I2 r1 r2 q2
end
end L2

namespace L2
open PySem PySem.Spec PyProof.Rows

def MtM (X : Cx) (id : String) (r : V → List V → Hp → VK → Prop) : Prop :=
  ∀ (pins : List (Addr × Obj)) (s : Shared) (σ : St) (H : Hp) (x : V) (xs : List V) (v : Value) (us : List Value) (Q : VK), Inv X pins σ H s → RelV x v → Vals xs us → r x xs H Q →
    wpAny (model X.prog X.w) X.A (call (.builtin id) (v :: us)) (EP X pins σ Q) X.xe s

theorem Vals.one : ∀ {x : V} {us : List Value}, Vals [x] us → ∃ u, us = [u] ∧ RelV x u
  | _, _, .cons r .nil => ⟨_, rfl, r⟩
theorem Vals.dropLast {xs : List V} {us : List Value} (h : Vals xs us) : Vals xs.dropLast us.dropLast := by
  induction h with
  | nil => exact .nil
  | cons r t ih =>
    cases t with
    | nil => exact .nil
    | cons q t' => exact .cons r ih
theorem Vals.eraseIdx : ∀ {xs : List V} {us : List Value} (i : Nat), Vals xs us → Vals (xs.eraseIdx i) (us.eraseIdx i)
  | _, _, _, .nil => .nil
  | _, _, 0, .cons _ t => t
  | _, _, i + 1, .cons r t => .cons r (Vals.eraseIdx i t)
theorem Vals.reverse {xs : List V} {us : List Value} (h : Vals xs us) : Vals xs.reverse us.reverse := by
  induction h with
  | nil => exact .nil
  | cons r t ih => rw [List.reverse_cons, List.reverse_cons]; exact Vals.append ih (.cons r .nil)
theorem len_erase {α : Type} : ∀ (l : List α) (i : Nat), (l.eraseIdx i).length ≤ l.length
  | [], _ => Nat.le_refl _
  | _ :: _, 0 => Nat.le_succ _
  | _ :: r, i + 1 => Nat.succ_le_succ (len_erase r i)

section
variable {X : Cx} {pins : List (Addr × Obj)} {σ : St} {H : Hp} {s : Shared} {l b : Addr} {xs ys zs : List V}

theorem Inv.lset {its its' : List Value} {n : Nat} {f : Array Value → Array Value} {t' : Nat} (I : Inv X pins σ H s) (hH : H l = some (.lst xs))
    (e : s.heap.get? l = some { cls := .type "list", data := .seq its.toArray n }) (hf : f its.toArray = its'.toArray) (hv : Vals ys its') (hz : ys.length ≤ sizeLine) :
    Inv X pins σ (upd H l (.lst ys)) { s with heap := s.heap.update l (Obj.mapSeq f), toks := t' } := by
  have q := PySem.IsL.update e f
  rw [hf] at q
  refine I.write (x := l) (e := l) (by rw [hH]; exact trivial) (.inl rfl) (fun b' u hb hu => (Heap.get?_update_other s.heap (Obj.mapSeq f) (Ne.symm hb)).trans hu) ⟨_, q⟩ ?_
  exact ⟨hz, its', _, hv, q⟩
theorem Inv.lnew {its : List Value} {t' : Nat} (I : Inv X pins σ H s) (hv : Vals ys its) (hz : ys.length ≤ sizeLine) :
    Inv X pins σ (upd H s.heap.objs.size (.lst ys)) { s with heap := s.heap.push { cls := .type "list", data := .seq its.toArray }, toks := t' } :=
  I.laid (fun _ _ q => Heap.get?_push_of_some _ q) (Nat.le_refl _) ⟨hz, its, 0, hv, Heap.get?_push_size _ rfl⟩
theorem Inv.fresh (I : Inv X pins σ H s) : H s.heap.objs.size = none := I.hok.fresh (Nat.le_refl _)
theorem Inv.lstM (I : Inv X pins σ H s) (hH : H l = some (.lst xs)) : xs.length ≤ sizeLine ∧ ∃ (its : List Value) (n : Nat), Vals xs its ∧ xs.length = its.length ∧ s.heap.get? l = some { cls := .type "list", data := .seq its.toArray n } := by
  obtain ⟨z, its, n, r, e⟩ := I.hok l _ hH
  exact ⟨z, its, n, r, r.length, e⟩

end

section
variable {X : Cx}

def rAppend : V → List V → Hp → VK → Prop := fun x vs H Q => ∃ l xs y, x = .ref l ∧ vs = [y] ∧ H l = some (.lst xs) ∧ xs.length < sizeLine ∧ Q .non (upd H l (.lst (xs ++ [y])))
theorem mt_append : MtM X "list.append" rAppend := by
  intro pins s σ H x vs v us Q I rx rv h
  obtain ⟨l, xs, y, rfl, rfl, hH, hz, q⟩ := h
  cases rx
  obtain ⟨u, rfl, ru⟩ := rv.one
  obtain ⟨z, its, n, r, hl, e⟩ := I.lstM hH
  refine call_meets F.slot_list_append ⟨_, e, rfl⟩ F.entry_list_append (F.args_list_append_2 _ _) (PySem.list_append l its.toArray n u (by rw [List.size_toArray]; omega)) ⟨e, ?_⟩
  refine ⟨.non, _, I.lset (its' := its ++ [u]) hH e (by simp) (r.append (.cons ru .nil)) ?_, rfl, q⟩
  rw [List.length_append, List.length_singleton]
  omega

def rExtend : V → List V → Hp → VK → Prop := fun x vs H Q => ∃ l b xs zs, x = .ref l ∧ vs = [.ref b] ∧ H l = some (.lst xs) ∧ H b = some (.lst zs) ∧ xs.length + zs.length ≤ sizeLine ∧ Q .non (upd H l (.lst (xs ++ zs)))

def rPop : V → List V → Hp → VK → Prop := fun x vs H Q => ∃ l xs y, x = .ref l ∧ vs = [] ∧ H l = some (.lst xs) ∧ xs[xs.length - 1]? = some y ∧ Q y (upd H l (.lst xs.dropLast))

def rPopAt : V → List V → Hp → VK → Prop := fun x vs H Q => ∃ l xs i k y, x = .ref l ∧ vs = [.int i] ∧ H l = some (.lst xs) ∧ -(2 ^ 63) ≤ i ∧ i < 2 ^ 63 ∧ seqIndex? i xs.length = some k ∧ xs[k]? = some y ∧ Q y (upd H l (.lst (xs.eraseIdx k)))
theorem mt_popAt : MtM X "list.pop" rPopAt := by
  intro pins s σ H x vs v us Q I rx rv h
  obtain ⟨l, xs, i, k, y, rfl, rfl, hH, h1, h2, hk, hy, q⟩ := h
  cases rx
  obtain ⟨u, rfl, ru⟩ := rv.one
  obtain ⟨t, rfl⟩ := ru
  obtain ⟨z, its, n, r, hl, e⟩ := I.lstM hH
  obtain ⟨w, hw, rw'⟩ := r.get hy
  refine call_meets F.slot_list_pop ⟨_, e, rfl⟩ F.entry_list_pop (F.args_list_pop_2 _ _)
    (MeetsSeq.list_pop_at l its.toArray n i t k w (fitsIndex_both h1 h2) (by rw [List.size_toArray, ← hl]; exact hk) (by rw [← Array.getElem?_toList]; exact hw) (by rw [List.size_toArray]; omega)) ⟨e, ?_⟩
  refine ⟨y, _, I.lset (its' := its.eraseIdx k) hH e ?_ (r.eraseIdx k) ?_, rw', q⟩
  · show its.toArray.eraseIdxIfInBounds k = (its.eraseIdx k).toArray
    rw [List.eraseIdxIfInBounds_toArray]
  · have := len_erase xs k
    omega

def rReverse : V → List V → Hp → VK → Prop := fun x vs H Q => ∃ l xs, x = .ref l ∧ vs = [] ∧ H l = some (.lst xs) ∧ Q .non (upd H l (.lst xs.reverse))

def rClear : V → List V → Hp → VK → Prop := fun x vs H Q => ∃ l xs, x = .ref l ∧ vs = [] ∧ H l = some (.lst xs) ∧ Q .non (upd H l (.lst []))

def rCat : R2 := fun x y H Q => ∃ l b xs zs, x = .ref l ∧ y = .ref b ∧ H l = some (.lst xs) ∧ H b = some (.lst zs) ∧ xs.length + zs.length ≤ sizeLine ∧ ∀ p, H p = none → Q (.ref p) (upd H p (.lst (xs ++ zs)))
def rRep : R2 := fun x y H Q => ∃ l k xs, x = .ref l ∧ y = .int k ∧ H l = some (.lst xs) ∧ -(2 ^ 63) ≤ k ∧ k < 2 ^ 63 ∧ xs.length * k.toNat ≤ sizeLine ∧
  ∀ p, H p = none → Q (.ref p) (upd H p (.lst (List.replicate k.toNat xs).flatten))

end

section
variable {prog : Program} {w : World} {A : Around} {E : Value → Shared → Prop} {s : Shared}
end

section
variable {X : Cx}
end
end L2

namespace Att
open PySem PySem.W PySem.Calls PyProof.Rows

theorem ints_of_wellAll {P : Params} {h : Heap} : ∀ (ns : List Int) (vs : List Value), WellAll P h vs (ns.map WData.int) → IntsAre vs ns := by
  intro ns
  induction ns with
  | nil =>
    intro vs w
    rw [List.map_nil] at w
    cases w
    exact .nil
  | cons n ns ih =>
    intro vs w
    rw [List.map_cons] at w
    cases w with
    | cons a b =>
      cases a
      exact .cons _ _ (ih _ b)

theorem script_of {l : OpenLaw} {n : Nat} (hn : l.most = some n) {P : Params} {h : Heap} {args : List WData} {vals : List Value}
    (hpre : l.row.toRowW.claim.pre args = true) (hwl : WellAll P h vals args) :
    ∃ a vs ns, vals = [Value.ref a] ∧ args = [WData.list (ns.map WData.int)] ∧ h.get? a = some { cls := .type "list", data := .seq vs.toArray } ∧ IntsAre vs ns ∧ ns.length ≤ n := by
  have hsh : WShape.hasAll [] args [.list .int] = true := (pre_splitW hpre).1
  have hc : l.pre.holds [] { args := args } = true := (pre_splitW hpre).2
  obtain ⟨d, r, rfl, h1, h2⟩ := hasAllW_cons hsh
  obtain rfl := hasAllW_nil h2
  obtain ⟨xs, rfl, h3⟩ := hasW_list h1
  obtain ⟨ns, rfl⟩ := items_int h3
  have hlen : ns.length ≤ n := by
    unfold OpenLaw.pre at hc
    have h4 : (WTm.not (.lt (.lit (.int (n : Int))) (.len (.arg 0)))).holds [] { args := [.list (ns.map .int)] } = true := by
      have h4 := (holds_andW hc).1
      rw [hn] at h4
      exact h4
    have h5 := condW_of h4 (w_not (w_lt w_lit (w_len_list (w_arg rfl))))
    rw [List.length_map] at h5
    refine Nat.le_of_not_lt fun q => ?_
    have q' : (n : Int) < ((ns.length : Nat) : Int) := by omega
    first
      | (rw [decide_eq_true q'] at h5; exact absurd h5 (by decide))
      | (simp at h5; omega)
  cases hwl with
  | cons w1 w2 =>
    cases w2
    cases w1 with
    | list ho hall => exact ⟨_, _, ns, rfl, rfl, ho, ints_of_wellAll ns _ hall, hlen⟩

theorem post_true (l : OpenLaw) (args : List WData) : l.row.toRowW.claim.post args (.bool true) args = true :=
  postW_of (r := l.row.toRowW) (X := (true == true))
    (show WShape.has [] (.bool true) .bool = true by first | rfl | decide | simp [WShape.has, WShape.arms, WShape.armsAll])
    (show (WTm.eq .res (.lit (.bool true))).value [] { args := args, res := some (.bool true), after := args } = some (.bool (true == true)) from w_eq_bool (w_res rfl) w_lit) rfl


theorem attach_call {l : OpenLaw} {n : Nat} {q : Program} {loose : List Str} {XP : (Str → Option Value) → Heap → Prop} {YP : World → Heap → Prop} {d : DefRec}
    (hn : l.most = some n) (hdf : d.params.defaults = [])
    (call : ∀ (w : World) (s₀ s₁ : Shared) (mg mb : Str → Option Value) (fa : Addr) (o : Obj) (pm cd doc : Value) (a : Addr) (vs : List Value) (ns : List Int),
      Ground q loose [] XP w s₀ mg mb s₁.heap → YP w s₁.heap →
      s₁.heap.get? fa = some o → o.data = .func (docDef d.name d.params d.body d.scope pm cd doc) → s₁.heap.CodeRec cd d.name → mg d.name = some (.ref fa) →
      s₁.heap.get? a = some { cls := .type "list", data := .seq vs.toArray } → IntsAre vs ns → ns.length ≤ n → s₁.gens = #[] →
      codeAny (model l.prog w) callerA (.call (.ref fa) ⟨[.ref a], []⟩) (fun r s' => r = .ok (.ret (.bool true)) ∧ OldK s₁.heap s'.heap ∧ s'.os = s₁.os ∧ AllBare s'.gens) s₁) :
    WalkO q loose XP YP l.row.toRowW d [] (fun f vs => PySem.call f vs) := by
  intro w s₀ s₁ mg mb G Y fa o pm cd doc dV kV ho hd hcd hD hmg hg args vals as hpre hlay hrd hwl hlo
  obtain rfl : dV = .none := Dflts.none hD hdf
  obtain rfl : kV = .none := Dflts.noKw hD
  obtain ⟨a, vs, ns, rfl, rfl, hobj, hints, hlen⟩ := script_of hn hpre hwl
  refine enter_call (codeAny_mono (call w s₀ s₁ mg mb fa o pm cd doc a vs ns G Y ho (fd_plain hd) hcd hmg hobj hints hlen hg) fun r s' hq => ?_)
  obtain ⟨rfl, h2, h3, h4⟩ := hq
  exact ⟨.inl ⟨.bool true, .bool true, [], rfl, fun _ => rfl, .bool true, post_true l _, fun _ => ⟨List.Pairwise.nil, fun _ hm => (nomatch hm)⟩⟩, h2, h3, h4⟩


section
variable {prog : Program} {w : World} {A : Around} {E : Value → Shared → Prop} {s : Shared} {K : Frag}





def noObjs (h : Heap) : Heap := { h with objs := #[] }
def ledger (h : Heap) (L d : Addr) : List (Addr × Obj) := (List.range h.objs.size).filterMap fun a => if a = L ∨ a = d then none else (h.get? a).map fun o => (a, o)

end
end Att

namespace L2
open PySem PySem.Spec PyProof.Rows

theorem vals_ints : ∀ {vs : List Value} {ns : List Int}, IntsAre vs ns → Vals (ns.map V.int) vs
  | _, _, .nil => .nil
  | _, _, .cons n t h => .cons ⟨t, rfl⟩ (vals_ints h)

def Only (H : Hp) : Prop := ∀ b, H b = none ∨ ∃ o xs, H b = some (.frz o (.lst xs))

theorem law_call {P : Program} {w : World} {K : PySem.W.Frag} {mg mb : Str → Option Value} {CX : CXT} {k : Nat} {fa a : Addr} {fd : FuncData} {x : Str} {sp : Sp} {s₁ : Shared} {vs : List Value} {ns : List Int}
    (KX : K.In s₁.heap) (hns : s₁.heap.Ns mainGlobals mg) (hb : s₁.heap.Ns builtinsNs mb) (hbb : ∀ x : Str, x ≠ "__name__" → mb x = bootBuiltins x) (hlim : s₁.heap.NoLimit) (hg : s₁.gens = #[])
    (ha : s₁.heap.get? a = some { cls := .type "list", data := .seq vs.toArray }) (hi : IntsAre vs ns) (hl : ns.length ≤ sizeLine) (hr : Room k callerA)
    (F : ∀ base : Heap, K.In base → base.Ns mainGlobals mg → FnOk P w K mg base CX k fa fd [x] sp) (hbind : ∀ (s : Shared) (u : Value), BindsTo s fd ⟨[u], []⟩ [(x, u)])
    (hsp : ∀ H : Hp, Only H → SqL K H a (ns.map V.int) → sp [.ref a] H (fun v _ => v = .bl true) fun _ _ _ => False)
    (hCX : ∀ H e s', CX [] H s₁ (fun _ _ _ => False) e s' → False) :
    codeAny (model P w) callerA (.call (.ref fa) ⟨[.ref a], []⟩) (fun r s' => r = .ok (.ret (.bool true)) ∧ OldK s₁.heap s'.heap ∧ s'.os = s₁.os ∧ AllBare s'.gens) s₁ := by
  have rv := vals_ints hi
  have lenV := hi.length
  -- from an abstract heap in which nothing but the script may be tracked
  have core : ∀ H : Hp, Only H → SqL K H a (ns.map V.int) → HOk P w H s₁.heap → (∀ b, H b ≠ none → b = a) → (H a ≠ none → K.lookup a = none) →
      codeAny (model P w) callerA (.call (.ref fa) ⟨[.ref a], []⟩) (fun r s' => r = .ok (.ret (.bool true)) ∧ OldK s₁.heap s'.heap ∧ s'.os = s₁.os ∧ AllBare s'.gens) s₁ := by
    intro H hO hS hok hA hK
    have base_of : ∀ {b : Addr} {o : Obj}, s₁.heap.get? b = some o → H b = none → (hidT s₁.heap H).get? b = some o := fun e n => hidT_get e n
    have noA : ∀ {b : Addr} {o : Obj} {es : Array DictEntry} {ep : Nat}, s₁.heap.get? b = some o → o.data = .dict es ep → H b = none := fun {b o es ep} e d => by
      cases q : H b with
      | none => rfl
      | some u =>
        have e' : b = a := hA b (by rw [q]; simp)
        subst e'
        rw [ha] at e; cases e
        have d' : Data.seq vs.toArray _ = Data.dict es ep := d
        cases d'
    have nsK : ∀ {b : Addr} {m : Str → Option Value}, s₁.heap.Ns b m → (hidT s₁.heap H).Ns b m := fun {b m} ⟨o, es, ep, e, d, r⟩ => ⟨o, es, ep, base_of e (noA e d), d, r⟩
    have hKb : K.In (hidT s₁.heap H) := fun b o e => base_of (KX b o e) (by
      cases q : H b with
      | none => rfl
      | some u =>
        have e' : b = a := hA b (by rw [q]; simp)
        subst e'
        rw [hK (by rw [q]; simp)] at e; cases e)
    have hM : Mod K mg (hidT s₁.heap H) := ⟨hKb, nsK hns, ⟨mb, nsK hb, hbb⟩, let ⟨mc, h1, h2⟩ := hlim; ⟨mc, nsK h1, h2⟩⟩
    have e0 : Env0 P w K mg (hidT s₁.heap H) callerA [] s₁ H := ⟨rfl, hM, fun b o e => of_hidT e, Nat.le_of_eq (hidT_size _ _), trivial, fun b hb => absurd (show b ∈ ([] : List Addr) from hb) (by simp), hok, .of_eq hg⟩
    refine codeAny_mono ((F _ hKb (nsK hns)).run callerA [] s₁ H ⟨[.ref a], []⟩ [.ref a] [.ref a] _ _ hr e0 (hbind s₁ (.ref a)) (.cons rfl .nil) (hsp H hO hS)) fun r s' h => ?_
    cases r with
    | error e => exact (hCX H e s' h).elim
    | ok fl =>
      cases fl with
      | next => exact False.elim h
      | brk => exact False.elim h
      | cont => exact False.elim h
      | ret u =>
        obtain ⟨v, H', os, bare, un, hok', r', q⟩ := h
        have q' : v = .bl true := q
        subst q'
        obtain rfl : u = Value.bool true := r'
        refine ⟨rfl, OldK.of_keep fun b o e => ?_, os, bare⟩
        cases q : H b with
        | none => exact un.keep b o e q (by intro z; exact absurd (show b ∈ ([] : List Addr) from z) (by simp)) (by simp)
        | some u =>
          rcases hO b with z | ⟨ob, xs, z⟩
          · rw [q] at z; cases z
          · have z2 := un.frzs b ob _ z
            obtain ⟨e1, _⟩ := hok b _ z
            obtain ⟨e2, _⟩ := hok' b _ z2
            rw [e] at e1; cases e1
            exact e2
  cases hk : K.lookup a with
  | some o =>
    -- the script is one of the module's own objects
    have e := KX a o hk
    rw [ha] at e
    cases e
    refine core (fun _ => none) (fun _ => .inl rfl) (.inr ⟨_, vs.toArray, _, hk, rfl, rfl, rfl, by rw [List.size_toArray, lenV]; exact hl, by simpa using rv⟩) (fun b u z => by have z' : (none : Option HO) = some u := z; cases z') (fun b z => absurd rfl z) fun z => absurd rfl z
  | none =>
    refine core (fun b => if b = a then some (.frz { cls := .type "list", data := .seq vs.toArray } (.lst (ns.map V.int))) else none) (fun b => ?_) (.inl (.inr ⟨{ cls := .type "list", data := .seq vs.toArray }, if_pos rfl⟩)) (fun b u z => ?_) (fun b z => ?_) fun _ => hk
    · by_cases hb : b = a
      · exact .inr ⟨_, _, if_pos hb⟩
      · exact .inl (if_neg hb)
    · by_cases hb : b = a
      · have z' := (if_pos hb).symm.trans z
        cases z'
        subst hb
        exact ⟨ha, by rw [List.length_map]; exact hl, vs, _, rv, ha⟩
      · have z' := (if_neg hb).symm.trans z
        cases z'
    · by_cases hb : b = a
      · exact hb
      · exact absurd (if_neg hb) z
end L2

namespace L2
open PySem PySem.Spec PyProof.Rows

abbrev KOf {K : PySem.W.Frag} {h : Heap} (_ : K.In h) : PySem.W.Frag := K

theorem walk_of {l : PySem.W.OpenLaw} {n k : Nat} {q : Program} {loose : List Str} {XP : (Str → Option Value) → Heap → Prop} {YP : World → Heap → Prop} {d : DefRec} {K : Params → PySem.W.Frag} {CX : World → CXT} {sp : World → Sp} {x : Str}
    (hn : l.most = some n) (hn2 : n ≤ sizeLine) (hdf : d.params.defaults = []) (hr : Room k callerA)
    (hY : ∀ (w : World) (h : Heap), YP w h → (K w.params).In h)
    (F : ∀ (w : World) (mg : Str → Option Value) (fa : Addr) (h : Heap), (K w.params).In h → h.Ns mainGlobals mg → mg d.name = some (.ref fa) →
      ∃ fd : FuncData, (∀ (s : Shared) (u : Value), BindsTo s fd ⟨[u], []⟩ [(x, u)]) ∧
        ∀ base : Heap, (K w.params).In base → base.Ns mainGlobals mg → FnOk l.prog w (K w.params) mg base (CX w) k fa fd [x] (sp w))
    (hsp : ∀ (w : World) (H : Hp) (a : Addr) (ns : List Int), ns.length ≤ n → Only H → SqL (K w.params) H a (ns.map V.int) → sp w [.ref a] H (fun v _ => v = .bl true) fun _ _ _ => False)
    (hCX : ∀ (w : World) (H : Hp) (s : Shared) (e : Value) (s' : Shared), CX w [] H s (fun _ _ _ => False) e s' → False) :
    PySem.W.WalkO q loose XP YP l.row.toRowW d [] (fun f vs => PySem.call f vs) := by
  refine Att.attach_call hn hdf fun w s₀ s₁ mg mb fa o pm cd doc a vs ns G Y ho hd hcd hmg hobj hints hlen hg => ?_
  have KX := hY w _ Y
  obtain ⟨fd, hb, hF⟩ := F w mg fa _ KX G.T.g hmg
  exact law_call KX G.T.g G.T.b G.T.builtins G.T.nolimit hg hobj hints (Nat.le_trans hlen hn2) hr hF hb (fun H hO hS => hsp w H a ns hlen hO hS) fun H e s' => hCX w H s₁ e s'
theorem walk_ofK {l : PySem.W.OpenLaw} {n k : Nat} {q : Program} {loose : List Str} {XP : (Str → Option Value) → Heap → Prop} {YP : World → Heap → Prop} {d : DefRec} {K : Params → PySem.W.Frag} {CX : CXT} {sp : PySem.W.Frag → Sp} {x : Str}
    (hn : l.most = some n) (hn2 : n ≤ sizeLine) (hdf : d.params.defaults = []) (hr : Room k callerA)
    (hY : ∀ (w : World) (h : Heap), YP w h → (K w.params).In h)
    (F : ∀ (w : World) (mg : Str → Option Value) (fa : Addr) (h : Heap), (K w.params).In h → h.Ns mainGlobals mg → mg d.name = some (.ref fa) →
      ∃ fd : FuncData, (∀ (s : Shared) (u : Value), BindsTo s fd ⟨[u], []⟩ [(x, u)]) ∧
        ∀ base : Heap, (K w.params).In base → base.Ns mainGlobals mg → FnOk l.prog w (K w.params) mg base CX k fa fd [x] (sp (K w.params)))
    (hsp : ∀ (K : PySem.W.Frag) (H : Hp) (a : Addr) (ns : List Int), ns.length ≤ n → Only H → SqL K H a (ns.map V.int) → sp K [.ref a] H (fun v _ => v = .bl true) fun _ _ _ => False)
    (hCX : ∀ (H : Hp) (s : Shared) (e : Value) (s' : Shared), CX [] H s (fun _ _ _ => False) e s' → False) :
    PySem.W.WalkO q loose XP YP l.row.toRowW d [] (fun f vs => PySem.call f vs) :=
  walk_of (K := K) (CX := fun _ => CX) (sp := fun w => sp (K w.params)) hn hn2 hdf hr hY F (fun w H a ns h1 h2 h3 => hsp (K w.params) H a ns h1 h2 h3) fun _ H s e s' => hCX H s e s'
end L2

namespace L2
open PySem PySem.Spec PyProof.Rows

def inClass (s : Stmt) (j : Nat) : Stmt := match s with
  | .ClassDef _ _ _ body _ _ _ _ _ _ _ => body.getD j (.Pass ⟨0, 0, 0, 0⟩)
  | _ => .Pass ⟨0, 0, 0, 0⟩
def defArgs (s : Stmt) : Arguments := match s with
  | .FunctionDef _ a _ _ _ _ _ _ _ _ => a
  | _ => { posonlyargs := [], args := [], vararg := none, kwonlyargs := [], kw_defaults := [], kwarg := none, defaults := [] }
def defBody (s : Stmt) : List Stmt := match s with
  | .FunctionDef _ _ b _ _ _ _ _ _ _ => b
  | _ => []
def defScope (s : Stmt) : Scope := match s with
  | .FunctionDef _ _ _ _ _ _ sc _ _ _ => sc
  | _ => { kind := .function, names := [], isGenerator := false, isCoroutine := false }

abbrev CX0 : CXT := fun _ _ _ _ _ _ => False
abbrev E0 : XK := fun _ _ _ => False
theorem pass0 {X : Cx} : Passes CX0 X E0 := fun _ _ _ _ _ _ _ h => h.elim

structure Fun (K : PySem.W.Frag) (x qual : Str) (st : Stmt) (f : Addr) (fd : FuncData) : Prop where
  ex : ∃ (oc : Value) (od : Option Addr) (kV doc pm : Value) (an : Option Addr) (cdv ct : Value) (osl : Array (Option Value)),
    fd = PySem.W.fnOf x qual (defArgs st) (defBody st) (defScope st) .none kV doc pm an cdv ct ∧ K.lookup f = some ⟨oc, od, .func fd, osl⟩ ∧ PySem.W.codeIn K cdv qual = true
  kp : PySem.W.keepIn K (.ref f) = true
section
variable {P : Program} {w : World} {K : PySem.W.Frag} {mg : Str → Option Value} {base : Heap}
theorem Fun.ok {x qual : Str} {st : Stmt} {f : Addr} {fd : FuncData} {N ps : List Str} {k : Nat} {sp : Sp} (F : Fun K x qual st f fd) (S : FnScope N ps (defScope st)) (len : ∀ vs H Q E, sp vs H Q E → vs.length = ps.length)
    (hbody : ∀ (cdv : Value) (A : Around) (outer : List Env) (s : Shared) (H : Hp) (vs : List V) (Q : VK) (E : XK), Room k (A.deeper (envOfC qual (defScope st) s.heap.objs.size f cdv)) → sp vs H Q E →
      ∃ t, PSs (cxOf CX0 P w K mg base N qual (defScope st) f cdv A outer s H E).nox (defBody st) t ∧ t { nx := fun _ H' => Q .non H', rt := Q } (start N vs) H) : FnOk P w K mg base CX0 (k + 1) f fd ps sp := by
  obtain ⟨oc, od, kV, doc, pm, an, cdv, ct, osl, rfl, lk, hcd⟩ := F.ex
  refine fn_of lk hcd S len fun A outer s H vs Q E hr hsp => ?_
  obtain ⟨t, h, q⟩ := hbody cdv A outer s H vs Q E hr hsp
  exact ⟨t, h.nox, q⟩
theorem Fun.binds {x qual : Str} {st : Stmt} {f : Addr} {fd : FuncData} {ps : List Str} (F : Fun K x qual st f fd)
    (h : ∀ (kV doc pm : Value) (an : Option Addr) (cdv ct : Value) (us : List Value), us.length = ps.length → bindArgs (PySem.W.fnOf x qual (defArgs st) (defBody st) (defScope st) .none kV doc pm an cdv ct) ⟨us, []⟩ = pure (ps.zip us)) : Binds K fd ps [] := by
  obtain ⟨oc, od, kV, doc, pm, an, cdv, ct, osl, rfl, lk, hcd⟩ := F.ex
  exact .all (h kV doc pm an cdv ct)
theorem fun_mk {x qual : Str} {st : Stmt} {f : Addr} {oc : Value} {od an : Option Addr} {osl : Array (Option Value)} {kV doc pm cdv ct : Value} (l : K.lookup f = some ⟨oc, od, .func (PySem.W.fnOf x qual (defArgs st) (defBody st) (defScope st) .none kV doc pm an cdv ct), osl⟩)
    (c : PySem.W.codeIn K cdv qual = true) (k : PySem.W.keepIn K (.ref f) = true) : Fun K x qual st f (PySem.W.fnOf x qual (defArgs st) (defBody st) (defScope st) .none kV doc pm an cdv ct) := ⟨⟨oc, od, kV, doc, pm, an, cdv, ct, osl, rfl, l, c⟩, k⟩
end
theorem small1000 {n : Nat} (h : n ≤ 1000) : n < sizeLine := Nat.lt_of_le_of_lt h (by decide)

section
variable {X : Cx}
theorem pv (i : Nat) {x : Str} {pos : Pos} (hN : X.N[i]? = some x := by rfl) (hv : Vis X.env.scope x := by first | exact Or.inl rfl | exact Or.inr (Or.inl rfl) | exact Or.inr (Or.inr rfl)) (hd : (x == ("__debug__" : Str)) = false := by decide)
    (hcd : (x == ("__classdict__" : Str)) = false := by decide) : PE X (.Name x pos) (tVar i) := pe_var hN hv hd hcd
end

theorem iteF {A B : Prop} (h : B) : if false = true then A else B := by
  rw [if_neg Bool.false_ne_true]
  exact h
theorem iteT {A B : Prop} (h : A) : if true = true then A else B := by
  rw [if_pos rfl]
  exact h

def Same (H H' : Hp) : Prop := ∀ b o, H b = some o → H' b = some o
theorem Same.refl (H : Hp) : Same H H := fun _ _ h => h
theorem Same.trans {H H1 H2 : Hp} (a : Same H H1) (b : Same H1 H2) : Same H H2 := fun c o h => b c o (a c o h)
theorem Same.free {H H' : Hp} (e : Same H H') {l : Addr} (h : H' l = Option.none) : H l = Option.none := by
  cases q : H l with
  | none => rfl
  | some o =>
    rw [e l o q] at h
    cases h
theorem Same.seq {K : PySem.W.Frag} {H H' : Hp} {a : Addr} {xs : List V} (e : Same H H') (h : SqL K H a xs) : SqL K H' a xs := by
  rcases h with (h | ⟨o, h⟩) | h
  · exact .inl (.inl (e _ _ h))
  · exact .inl (.inr ⟨o, e _ _ h⟩)
  · exact .inr h

end L2


namespace L2
open PySem PySem.Spec PyProof.Rows
def CInj (acc : List (Str × Addr)) : Prop := ∀ x y c, acc.lookup x = some c → acc.lookup y = some c → x = y
theorem lookup_cons_some {α : Type} {x n : Str} {a c : α} {r : List (Str × α)} (h : List.lookup x ((n, a) :: r) = some c) : (x = n ∧ a = c) ∨ (x ≠ n ∧ r.lookup x = some c) := by
  rw [List.lookup_cons] at h
  cases hb : x == n with
  | true => rw [hb] at h; cases h; exact .inl ⟨beq_iff_eq.mp hb, rfl⟩
  | false => rw [hb] at h; exact .inr ⟨(fun z => by (rw [z, beq_self_eq_true] at hb; cases hb)), h⟩
theorem cf_ok : ∀ (names : List (Str × NameKind)) (n : Nat) (acc : List (Str × Addr)), CInj acc → (∀ x c, acc.lookup x = some c → c < n) →
    CInj (cellsFrom n names acc) ∧ ∀ x c, (cellsFrom n names acc).lookup x = some c → acc.lookup x = some c ∨ n ≤ c
  | [], _, _, hi, _ => ⟨hi, fun _ _ h => .inl h⟩
  | (y, k) :: r, n, acc, hi, hb => by
    unfold cellsFrom
    by_cases hk : (k == NameKind.cell) = true
    · rw [if_pos hk]
      have h1 : CInj ((y, n) :: acc) := fun a b c e1 e2 => by
        rcases lookup_cons_some e1 with ⟨q1, q2⟩ | ⟨q1, q2⟩ <;> rcases lookup_cons_some e2 with ⟨p1, p2⟩ | ⟨p1, p2⟩
        · rw [q1, p1]
        · exact absurd (hb _ _ p2) (by rw [← q2]; exact Nat.lt_irrefl _)
        · exact absurd (hb _ _ q2) (by rw [← p2]; exact Nat.lt_irrefl _)
        · exact hi a b c q2 p2
      have h2 : ∀ x c, List.lookup x ((y, n) :: acc) = some c → c < n + 1 := fun x c e => by
        rcases lookup_cons_some e with ⟨_, q2⟩ | ⟨_, q2⟩
        · rw [← q2]; exact Nat.lt_succ_self _
        · exact Nat.lt_succ_of_lt (hb _ _ q2)
      obtain ⟨i1, i2⟩ := cf_ok r (n + 1) ((y, n) :: acc) h1 h2
      refine ⟨i1, fun x c e => ?_⟩
      rcases i2 x c e with q | q
      · rcases lookup_cons_some q with ⟨_, q2⟩ | ⟨_, q2⟩
        · exact .inr (Nat.le_of_eq q2)
        · exact .inl q2
      · exact .inr (Nat.le_of_succ_le q)
    · rw [if_neg hk]
      exact cf_ok r n acc hi hb
theorem cf_cell : ∀ (names : List (Str × NameKind)) (h : Heap) (acc : List (Str × Addr)) (x : Str) (c : Addr), (cellsFrom h.objs.size names acc).lookup x = some c → acc.lookup x = some c ∨ (pushCells h names).IsCell c none
  | [], _, _, _, _, e => .inl e
  | (y, k) :: r, h, acc, x, c, e => by
    unfold cellsFrom at e
    unfold pushCells
    by_cases hk : (k == NameKind.cell) = true
    · rw [if_pos hk] at e ⊢
      have e' : (cellsFrom (h.push { cls := .type "cell", data := .cell none }).objs.size r ((y, h.objs.size) :: acc)).lookup x = some c := by rw [Heap.size_push]; exact e
      rcases cf_cell r (h.push { cls := .type "cell", data := .cell none }) ((y, h.objs.size) :: acc) x c e' with q | q
      · rcases lookup_cons_some q with ⟨_, q2⟩ | ⟨_, q2⟩
        · refine .inr ?_
          subst q2
          exact ⟨_, pushCells_keeps _ _ _ _ (Heap.get?_push_size _ rfl), rfl⟩
        · exact .inl q2
      · exact .inr q
    · rw [if_neg hk] at e ⊢
      exact cf_cell r h acc x c e
theorem cf_keep : ∀ (names : List (Str × NameKind)) (n : Nat) (acc : List (Str × Addr)) (x : Str), (∀ y ∈ names, y.1 = x → y.2 ≠ .cell) → (cellsFrom n names acc).lookup x = acc.lookup x
  | [], _, _, _, _ => rfl
  | (y, k) :: r, n, acc, x, h => by
    unfold cellsFrom
    by_cases hk : (k == NameKind.cell) = true
    · rw [if_pos hk, cf_keep r (n + 1) _ x fun z hz => h z (List.mem_cons_of_mem _ hz), List.lookup_cons]
      have hx : (x == y) = false := by
        cases hb : x == y with
        | false => rfl
        | true => exact absurd (by simpa using hk) (h (y, k) List.mem_cons_self (beq_iff_eq.mp hb).symm)
      rw [hx]
    · rw [if_neg hk]
      exact cf_keep r n acc x fun z hz => h z (List.mem_cons_of_mem _ hz)
def clOf (env : Env) : List (Str × NameKind) → List (Str × Addr) → List (Str × Addr)
  | [], acc => acc
  | (n, k) :: r, acc => clOf env r (if k == .free then (n, (env.cells.lookup n).getD 0) :: acc else acc)
theorem clos_go {env : Env} : ∀ (names : List (Str × NameKind)) (acc : List (Str × Addr)), (∀ x ∈ names, x.2 = .free → ∃ c, env.cells.lookup x.1 = some c) →
    (forIn names acc fun x cs => (if (x.2 == NameKind.free) = true then (do let a ← cellOf env x.1; pure (ForInStep.yield ((x.1, a) :: cs))) else pure (ForInStep.yield cs) : Sem (ForInStep (List (Str × Addr))))) = pure (clOf env names acc)
  | [], _, _ => rfl
  | (n, k) :: r, acc, h => by
    rw [List.forIn_cons]
    have hr := fun acc => clos_go r acc fun x hx => h x (List.mem_cons_of_mem _ hx)
    unfold clOf
    by_cases hk : (k == NameKind.free) = true
    · obtain ⟨c, hc⟩ := h (n, k) List.mem_cons_self (by simpa using hk)
      have hc' : env.cells.lookup n = some c := hc
      have e : cellOf env n = pure c := by unfold cellOf; rw [hc']
      simp only [hk, if_true, e, hc', Option.getD_some, pure_bind]
      exact hr _
    · simp only [hk, if_false, pure_bind]
      exact hr _
theorem closureFor_clOf {env : Env} {scope : Scope} (h : ∀ x ∈ scope.names, x.2 = .free → ∃ c, env.cells.lookup x.1 = some c) : closureFor scope env = pure (clOf env scope.names []) := by
  have := clos_go (env := env) scope.names [] h
  unfold closureFor
  simp only [bind_pure_comp]
  first | exact this | simpa using this
theorem clOf_lookup {env : Env} {x : Str} : ∀ (names : List (Str × NameKind)) (acc : List (Str × Addr)) (c : Addr), (∀ y ∈ names, y.2 = .free → ∃ c, env.cells.lookup y.1 = some c) → (clOf env names acc).lookup x = some c → acc.lookup x = some c ∨ env.cells.lookup x = some c
  | [], _, _, _, e => .inl e
  | (n, k) :: r, acc, c, h, e => by
    unfold clOf at e
    have hr := fun acc => clOf_lookup (x := x) r acc c fun y hy => h y (List.mem_cons_of_mem _ hy)
    by_cases hk : (k == NameKind.free) = true
    · rw [if_pos hk] at e
      rcases hr _ e with q | q
      · rcases lookup_cons_some q with ⟨q1, q2⟩ | ⟨_, q2⟩
        · obtain ⟨c', hc'⟩ := h (n, k) List.mem_cons_self (by simpa using hk)
          have hc2 : env.cells.lookup n = some c' := hc'
          rw [hc2] at q2
          right
          rw [q1, hc2]
          exact congrArg some q2
        · exact .inl q2
      · exact .inr q
    · rw [if_neg hk] at e
      exact hr _ e
theorem clOf_has {env : Env} {x : Str} : ∀ (names : List (Str × NameKind)) (acc : List (Str × Addr)), ((x, NameKind.free) ∈ names ∨ ∃ c, acc.lookup x = some c) → ∃ c, (clOf env names acc).lookup x = some c
  | [], _, h => h.elim (fun z => nomatch z) id
  | (n, k) :: r, acc, h => by
    unfold clOf
    refine clOf_has r _ ?_
    rcases h with h | ⟨c, h⟩
    · rcases List.mem_cons.mp h with e | h
      · cases e
        right
        rw [if_pos (by decide)]
        exact ⟨_, by rw [List.lookup_cons, beq_self_eq_true]⟩
      · exact .inl h
    · right
      split
      · rw [List.lookup_cons]
        split
        · exact ⟨_, rfl⟩
        · exact ⟨c, h⟩
      · exact ⟨c, h⟩
end L2
namespace L2
open PySem PySem.Spec PyProof.Rows
def blk (X : Cx) (N : List Str) (scope : Scope) (C : Addr) (s : Shared) (H : Hp) (fp : List Addr) : Cx where
  prog := X.prog
  w := X.w
  K := X.K
  mg := X.mg
  base := X.base
  A := X.A
  N := N
  s₀ := s
  H₀ := H
  env := { scope := relabel scope X.env, locals := C, globals := X.env.globals, cells := cellsFrom (C + 1) scope.names (clOf X.env scope.names []), qual := X.env.qual, func := none, code := X.env.code, frame := X.env.frame, builtins := X.env.builtins }
  outer := X.stack
  stack := X.stack
  ex := fp
  fn := fun x => match scope.names.lookup x with | some .cell => true | _ => false
  calm := X.calm
  pn := []
  xe := fun _ _ => False
theorem relabel_lookup {env : Env} : ∀ {names : List (Str × NameKind)} {x : Str} {k : NameKind}, (names.map fun (n, k) => if (k == NameKind.free && env.scope.kind == .function && env.kindOf n == some .cell) then (n, NameKind.cell) else (n, k)).lookup x = some k →
    ∃ k0, names.lookup x = some k0 ∧ (k = k0 ∨ k0 = .free)
  | [], _, _, h => by simp at h
  | (n, q) :: r, x, k, h => by
    rw [List.map_cons] at h
    have h' : List.lookup x ((if (q == NameKind.free && env.scope.kind == .function && env.kindOf n == some .cell) = true then (n, NameKind.cell) else (n, q)) :: _) = some k := h
    have fstn : ∀ b : Bool, (if b = true then (n, NameKind.cell) else (n, q)) = (n, if b = true then NameKind.cell else q) := fun b => by cases b <;> rfl
    rw [fstn] at h'
    rw [List.lookup_cons]
    rcases lookup_cons_some h' with ⟨e1, e2⟩ | ⟨e1, e2⟩
    · rw [e1, beq_self_eq_true]
      refine ⟨q, rfl, ?_⟩
      rw [← e2]
      by_cases hb : (q == NameKind.free && env.scope.kind == .function && env.kindOf n == some .cell) = true
      · right
        have := (Bool.and_eq_true_iff.mp (Bool.and_eq_true_iff.mp hb).1).1
        simpa using this
      · left; rw [if_neg hb]
    · have hx : (x == n) = false := by
        cases hb : x == n with
        | false => rfl
        | true => exact absurd (beq_iff_eq.mp hb) e1
      rw [hx]
      exact relabel_lookup e2
structure CScope (X : Cx) (scope : Scope) (tn : List Str) (js : List Nat) : Prop where
  kind : scope.kind = .function
  loc : ∀ x ∈ scope.names, x.2 = .local → scope.names.lookup x.1 = some .local
  fre : ∀ x ∈ scope.names, x.2 = .free → scope.names.lookup x.1 = some .free ∧ (X.env.kindOf x.1 = some .cell ∨ X.env.kindOf x.1 = some .free)
  one : ∀ x ∈ scope.names, ∀ y ∈ scope.names, x.1 = y.1 → x.2 = y.2
  js : ∀ j ∈ js, ∃ x, X.N[j]? = some x ∧ scope.names.lookup x = some .free
def cN (X : Cx) (tn : List Str) (js : List Nat) : List Str := tn ++ js.map fun j => (X.N[j]?).getD ("" : Str)
def cσ (σ : St) (tn : List Str) (js : List Nat) : St := tn.map (fun _ => none) ++ js.map fun j => (σ[j]?).getD none
theorem mem_of_lookup_kind {names : List (Str × NameKind)} {x : Str} {k : NameKind} (h : names.lookup x = some k) : (x, k) ∈ names := PySem.mem_of_lookup h
section
variable {X : Cx} {pins : List (Addr × Obj)} {σ : St} {H : Hp} {s : Shared} {scope : Scope} {tn : List Str} {js : List Nat} {fp : List Addr}
theorem has_cell (ok : X.Ok) (S : CScope X scope tn js) : ∀ x ∈ scope.names, x.2 = .free → ∃ c, X.env.cells.lookup x.1 = some c := fun x hx hf => ok.has x.1 (S.fre x hx hf).2
theorem blk_cells (ok : X.Ok) (S : CScope X scope tn js) {n : Nat} (hb : ∀ x c, X.env.cells.lookup x = some c → c < n) :
    CInj (cellsFrom n scope.names (clOf X.env scope.names [])) ∧ ∀ x c, (cellsFrom n scope.names (clOf X.env scope.names [])).lookup x = some c → X.env.cells.lookup x = some c ∨ n ≤ c := by
  have hc : ∀ x c, (clOf X.env scope.names []).lookup x = some c → X.env.cells.lookup x = some c := fun x c e => by
    rcases clOf_lookup scope.names [] c (has_cell ok S) e with q | q
    · cases q
    · exact q
  obtain ⟨h1, h2⟩ := cf_ok scope.names n (clOf X.env scope.names []) (fun x y c e1 e2 => ok.inj x y c (hc x c e1) (hc y c e2)) (fun x c e => hb x c (hc x c e))
  exact ⟨h1, fun x c e => (h2 x c e).imp (hc x c) id⟩
theorem inv_block {h4 : Heap} {m : Str → Option Value} {t' : Nat} (I : Inv X pins σ H s) (S : CScope X scope tn js) (hf : ∀ b ∈ fp, FpOk X pins H b ∧ b < s.heap.objs.size) (hns : h4.Ns s.heap.objs.size m)
    (hk : ∀ b o, s.heap.get? b = some o → h4.get? b = some o) (hcell : ∀ x c, (cellsFrom (s.heap.objs.size + 1) scope.names (clOf X.env scope.names [])).lookup x = some c → X.env.cells.lookup x = some c ∨ h4.IsCell c none) :
    Inv (blk X (cN X tn js) scope s.heap.objs.size s H fp) [] (cσ σ tn js) H { s with heap := h4, toks := t' } := by
  have hlt : ∀ x c, X.env.cells.lookup x = some c → c < s.heap.objs.size + 1 := fun x c e => by
    obtain ⟨v, q⟩ := I.cell x c e
    exact Nat.lt_succ_of_lt q.lt
  obtain ⟨hinj, hcs⟩ := blk_cells I.ok S hlt
  have hC : H s.heap.objs.size = none := I.hok.fresh (Nat.le_refl _)
  refine ⟨⟨I.ok.mod, S.kind, I.ok.glob, I.ok.blt, Nat.le_refl _, hinj, fun x hx => ?_, fun x c hx e => ?_, I.ok.hd, I.ok.frames, .inl rfl, fun b hb => ⟨Nat.ne_of_lt (hf b hb).2, fun x c e z => ?_⟩, I.bs, Nat.le_trans I.ok.bsz I.sz, fun b o e hb => ?_, fun b hb z => ?_, I.stack, I.stkFree⟩,
    rfl, I.bare, Un.kept hk, ⟨m, hns, fun i x v h1 h2 h3 => ?_⟩, fun x c e => ?_, hC, fun x c e => ?_, (fun p hp => nomatch hp), I.hok.kept hk, ?_⟩
  · -- has
    have hx' : (relabel scope X.env).names.lookup x = some .cell ∨ (relabel scope X.env).names.lookup x = some .free := hx
    have own : scope.names.lookup x = some .cell → ∃ c, (cellsFrom (s.heap.objs.size + 1) scope.names (clOf X.env scope.names [])).lookup x = some c := fun q =>
      Option.isSome_iff_exists.mp (PySem.W.cellsFrom_some scope.names _ _ (.inl q))
    have fre : scope.names.lookup x = some .free → ∃ c, (cellsFrom (s.heap.objs.size + 1) scope.names (clOf X.env scope.names [])).lookup x = some c := fun q =>
      Option.isSome_iff_exists.mp (PySem.W.cellsFrom_some scope.names _ _ (.inr (Option.isSome_iff_exists.mpr (clOf_has scope.names [] (.inl (mem_of_lookup_kind q))))))
    rcases hx' with q | q
    · obtain ⟨k0, q1, q2⟩ := relabel_lookup q
      rcases q2 with q2 | q2
      · subst q2; exact own q1
      · subst q2; exact fre q1
    · obtain ⟨k0, q1, q2⟩ := relabel_lookup q
      rcases q2 with q2 | q2
      · subst q2; exact fre q1
      · subst q2; exact fre q1
  · -- cab
    rcases hcs x c e with q | q
    · exfalso
      have hx' : (match scope.names.lookup x with | some .cell => true | _ => false) = true := hx
      split at hx'
      · rename_i hl
        -- an own cell is new
        have hb : ∀ y c', (clOf X.env scope.names []).lookup y = some c' → c' < s.heap.objs.size + 1 := fun y c' e' => by
          rcases clOf_lookup scope.names [] c' (has_cell I.ok S) e' with z | z
          · cases z
          · exact hlt y c' z
        have nof : (clOf X.env scope.names []).lookup x = none := by
          cases z : (clOf X.env scope.names []).lookup x with
          | none => rfl
          | some c' =>
            exfalso
            have mem : ∀ (names : List (Str × NameKind)) (acc : List (Str × Addr)), (∃ c', (clOf X.env names acc).lookup x = some c') → (x, NameKind.free) ∈ names ∨ ∃ c', acc.lookup x = some c' := by
              intro names
              induction names with
              | nil => exact fun acc z => .inr z
              | cons p r ih =>
                obtain ⟨n, k⟩ := p
                intro acc z
                unfold clOf at z
                rcases ih _ z with z | ⟨c', z⟩
                · exact .inl (List.mem_cons_of_mem _ z)
                · split at z
                  · rename_i hk
                    rcases lookup_cons_some z with ⟨e1, _⟩ | ⟨_, e2⟩
                    · left
                      have : k = NameKind.free := by simpa using hk
                      rw [e1, this]; exact List.mem_cons_self
                    · exact .inr ⟨c', e2⟩
                  · exact .inr ⟨c', z⟩
            rcases mem scope.names [] ⟨c', z⟩ with z | ⟨_, z⟩
            · have := S.one _ z _ (mem_of_lookup_kind hl) rfl
              cases this
            · cases z
        have hh := cf_ok scope.names (s.heap.objs.size + 1) (clOf X.env scope.names []) (fun a b c' e1 e2 => by
          rcases clOf_lookup scope.names [] c' (has_cell I.ok S) e1 with z | z
          · cases z
          · rcases clOf_lookup scope.names [] c' (has_cell I.ok S) e2 with z' | z'
            · cases z'
            · exact I.ok.inj a b c' z z') hb
        rcases hh.2 x c e with z | z
        · rw [nof] at z; cases z
        · exact absurd (hlt x c q) (Nat.not_lt.mpr z)
      · cases hx'
    · exact Nat.le_of_succ_le q
  · -- exf
    obtain ⟨⟨f0, f1, f2, f3, f4, f5⟩, hbl⟩ := hf b hb
    rcases hcs x c e with q | q
    · exact f4 x c q z
    · rw [z] at q; exact absurd hbl (Nat.not_lt.mpr (Nat.le_of_succ_le q))
  · -- noex
    obtain ⟨⟨f0, f1, f2, f3, f4, f5⟩, hbl⟩ := hf b hb
    rcases f3 with q | q
    · exact I.ok.noex b o e q
    · exact absurd (Nat.lt_of_lt_of_le (Heap.lt_size e) (Nat.le_trans I.ok.bsz q)) (Nat.lt_irrefl _)
  · -- exfs
    obtain ⟨⟨f0, f1, f2, f3, f4, f5⟩, hbl⟩ := hf b hb
    rcases List.mem_cons.mp (I.stkSub b z) with q | q
    · exact f1 q
    · exact f2 q
  · -- the names
    have h2' : (cσ σ tn js)[i]? = some (some v) := h2
    have h1' : (cN X tn js)[i]? = some x := h1
    unfold cσ at h2'
    unfold cN at h1'
    by_cases hi : i < tn.length
    · rw [List.getElem?_append_left (by simpa using hi), List.getElem?_map] at h2'
      cases q : tn[i]? with
      | none => rw [q] at h2'; cases h2'
      | some y => rw [q] at h2'; cases h2'
    · rw [List.getElem?_append_right (by simpa using hi), List.getElem?_map, List.length_map] at h2'
      rw [List.getElem?_append_right (by simpa using hi), List.getElem?_map] at h1'
      cases q : js[i - tn.length]? with
      | none => rw [q] at h2'; cases h2'
      | some j =>
        rw [q] at h2' h1'
        obtain ⟨y, hy1, hy2⟩ := S.js j (List.mem_of_getElem? q)
        have exy : y = x := by
          have : some ((X.N[j]?).getD ("" : Str)) = some x := h1'
          rw [hy1] at this
          exact Option.some.inj this
        subst exy
        have hv : σ[j]? = some (some v) := by
          have : some ((σ[j]?).getD none) = some (some v) := h2'
          cases z : σ[j]? with
          | none => rw [z] at this; cases this
          | some o => rw [z] at this; exact congrArg some (Option.some.inj this)
        have kfr := (S.fre _ (mem_of_lookup_kind hy2) rfl).2
        have vis : Vis X.env.scope y := kfr.elim (fun z => .inr (.inl z)) fun z => .inr (.inr z)
        obtain ⟨m0, hn0, hl0⟩ := I.loc
        obtain ⟨u, ru, lk⟩ := hl0 j y v hy1 hv vis
        refine ⟨u, ru, .inr ⟨?_, ?_⟩⟩
        · have h3' : (relabel scope X.env).names.lookup y = some .local ∨ (relabel scope X.env).names.lookup y = some .cell ∨ (relabel scope X.env).names.lookup y = some .free := h3
          rcases h3' with z | z | z
          · obtain ⟨k0, z1, z2⟩ := relabel_lookup z
            rw [hy2] at z1; cases z1
            rcases z2 with z2 | z2
            · cases z2
            · exfalso
              -- free is relabelled to cell or stays
              have := z
              have nolocal : ∀ {names : List (Str × NameKind)}, (∀ p ∈ names, p.1 = y → p.2 = .free) → (names.map fun (n, k) => if (k == NameKind.free && X.env.scope.kind == .function && X.env.kindOf n == some .cell) then (n, NameKind.cell) else (n, k)).lookup y ≠ some .local := by
                intro names
                induction names with
                | nil => intro _ w; simp at w
                | cons p r ih =>
                  obtain ⟨n, k⟩ := p
                  intro hp w
                  rw [List.map_cons] at w
                  have w' : List.lookup y ((if (k == NameKind.free && X.env.scope.kind == .function && X.env.kindOf n == some .cell) = true then (n, NameKind.cell) else (n, k)) :: _) = some .local := w
                  have fstn : ∀ b : Bool, (if b = true then (n, NameKind.cell) else (n, k)) = (n, if b = true then NameKind.cell else k) := fun b => by cases b <;> rfl
                  rw [fstn] at w'
                  rcases lookup_cons_some w' with ⟨e1, e2⟩ | ⟨e1, e2⟩
                  · have hk : k = .free := hp (n, k) List.mem_cons_self e1.symm
                    subst hk
                    split at e2 <;> cases e2
                  · exact ih (fun p hp' => hp p (List.mem_cons_of_mem _ hp')) e2
              exact nolocal (fun p hp e => S.one p hp _ (mem_of_lookup_kind hy2) e) z
          · exact .inl z
          · exact .inr z
        · have lk' : ∃ c, X.env.cells.lookup y = some c ∧ s.heap.IsCell c (some u) := by
            rcases lk with ⟨z, _⟩ | ⟨_, z⟩
            · exfalso
              rcases kfr with q | q
              · rw [q] at z; cases z
              · rw [q] at z; cases z
            · exact z
          obtain ⟨c, hc1, hc2⟩ := lk'
          refine ⟨c, ?_, hc2.keeps hk⟩
          show (cellsFrom (s.heap.objs.size + 1) scope.names (clOf X.env scope.names [])).lookup y = some c
          rw [cf_keep scope.names _ _ y fun p hp e => by (rw [S.one p hp _ (mem_of_lookup_kind hy2) e]; intro z; cases z)]
          obtain ⟨c', hc'⟩ := clOf_has (env := X.env) scope.names [] (.inl (mem_of_lookup_kind hy2))
          rcases clOf_lookup scope.names [] c' (has_cell I.ok S) hc' with z | z
          · cases z
          · rw [hc1] at z; cases z; exact hc'
  · -- cells are there
    rcases hcell x c e with q | q
    · obtain ⟨v, z⟩ := I.cell x c q
      exact ⟨v, z.keeps hk⟩
    · exact ⟨none, q⟩
  · -- and free
    rcases hcs x c e with q | q
    · exact I.freeC x c q
    · exact I.hok.fresh (Nat.le_of_succ_le q)
  · show (cσ σ tn js).length = (cN X tn js).length
    unfold cσ cN
    simp
end
end L2
namespace L2
open PySem PySem.Spec PyProof.Rows
section
variable {M : Model} {A : Around} {E : Value → Shared → Prop} {s : Shared}
theorem newEnv_comp {scope : Scope} {globals : Addr} {cl : List (Str × Addr)} {qual : Str} {env : Env} {Q : Env → Shared → Prop}
    (hQ : ∀ h', h'.Ns s.heap.objs.size (fun _ => none) → (∀ b o, s.heap.get? b = some o → h'.get? b = some o) → (∀ x c, (cellsFrom (s.heap.objs.size + 1) scope.names cl).lookup x = some c → cl.lookup x = some c ∨ h'.IsCell c none) →
      Q { scope, locals := s.heap.objs.size, globals, cells := cellsFrom (s.heap.objs.size + 1) scope.names cl, qual, func := none, code := env.code, frame := env.frame, builtins := env.builtins } { s with heap := h' }) :
    wpAny M A (newFunctionEnv scope globals cl [] qual none .none (some env)) Q E s := by
  simp only [newFunctionEnv, Option.isSome_some, if_true]
  refine wpAny_bind (wpAny_alloc ?_)
  refine wpAny_bind (wpAny_layCells _ (fun name kind cells => by cases hkc : kind == NameKind.cell <;> simp [hkc]) _ _ _ _ ?_)
  rw [show ({ s with heap := s.heap.push { cls := .type "dict", data := .dict #[] } } : Shared).heap.objs.size = s.heap.objs.size + 1 from Heap.size_push ..]
  refine wpAny_bind ?_
  rw [List.forIn_nil]
  refine wpAny_pure (wpAny_pure ?_)
  refine hQ _ ((Heap.Ns.new s.heap (.type "dict")).keeps (pushCells_keeps _ _)) (fun b o e => pushCells_keeps _ _ b o (Heap.get?_push_of_some _ e)) fun x c e => ?_
  refine cf_cell scope.names _ cl x c ?_
  rw [Heap.size_push]; exact e
end
section
variable {prog : Program} {w : World} {A : Around} {R : Result → Shared → Prop} {s : Shared}
theorem comp_loop {elt target iter : Expr} {ifs : List Expr} {scope : Scope} {pos : Pos} {it acc : Value} {env : Env} (I : Nat → Shared → Prop)
    (turn : ∀ n s, I n s → wpAny (model prog w) A (pyNext it) (fun r s₁ => match r with
      | none => R (.ok .next) s₁
      | some v => wpAny (model prog w) A (letOwnedTupleGo target it v) (fun _ s₂' => wpAny (model prog w) A (assign target env v) (fun _ s₂ =>
          wpAny (model prog w) A (forIn ifs true fun c r => if r = true then do let ok ← isTrue c env (eval c env); pure (ForInStep.yield ok) else pure (ForInStep.yield r)) (fun ok s₃ =>
            if ok = true then wpAny (model prog w) A (eval elt env) (fun x s₄ =>
              wpAny (model prog w) A (call (.builtin "list.append") [acc, x]) (fun _ s₅ => ∃ m, m < n ∧ I m s₅) (fun _ _ => False) s₄) (fun _ _ => False) s₃
            else ∃ m, m < n ∧ I m s₃) (fun _ _ => False) s₂) (fun _ _ => False) s₂') (fun _ _ => False) s₁) (fun _ _ => False) s)
    (n : Nat) (h : I n s) :
    codeAny (model prog w) A (.compLoop (.ListComp elt [⟨target, iter, ifs, 0⟩] scope pos) 0 it acc env) R s := by
  refine codeAny_loop rfl I (fun n s hI => ?_) n h
  show wpAny _ A ((compTurn (.ListComp elt [⟨target, iter, ifs, 0⟩] scope pos) 0 it acc env).onRaise (fun x => do noteFrame x env; theTreesLotGoes x)) _ _ s
  refine wpAny_noted ?_
  rw [compTurn_list]
  refine wpAny_bind (wpAny_standAt (wpAny_bind (wpAny_mono (turn n s hI) (fun r s₁ h₁ => ?_) fun _ _ z => z.elim)))
  cases r with
  | none => exact wpAny_pure h₁
  | some v =>
    refine wpAny_bind (wpAny_mono h₁ (fun _ s₂' h₂' => ?_) fun _ _ z => z.elim)
    refine wpAny_bind (wpAny_mono h₂' (fun _ s₂ h₂ => wpAny_bind (wpAny_mono h₂ (fun ok s₃ h₃ => ?_) fun _ _ z => z.elim)) fun _ _ z => z.elim)
    cases ok with
    | false => exact wpAny_pure ⟨rfl, h₃⟩
    | true =>
      exact wpAny_bind (wpAny_bind (wpAny_mono h₃ (fun x s₄ h₄ => wpAny_bind (wpAny_mono h₄ (fun _ s₅ h₅ => wpAny_pure (wpAny_pure ⟨rfl, h₅⟩)) fun _ _ z => z.elim)) fun _ _ z => z.elim))
end
def PF (X : Cx) (ifs : List Expr) (t : TT) : Prop :=
  ∀ (pins : List (Addr × Obj)) (s : Shared) (σ : St) (H : Hp) (Q : Bool → Hp → Prop), Inv X pins σ H s → t σ H Q →
    wpAny (model X.prog X.w) X.A (forIn ifs true fun c r => if r = true then do let ok ← isTrue c X.env (eval c X.env); pure (ForInStep.yield ok) else pure (ForInStep.yield r)) (TP X pins σ Q) X.xe s
theorem pf_nil {X : Cx} : PF X [] (fun _ H Q => Q true H) := fun pins s σ H Q I q => wpAny_tests_nil ⟨H, I, q⟩
theorem pf_one {X : Cx} {c : Expr} {t : TT} (h : PT X c t) : PF X [c] t := fun pins s σ H Q I q => wpAny_tests_one (h pins s σ H Q I q)
def KeepC (σ : St) (tn : List Str) (js : List Nat) (σ' : St) : Prop := (∀ (j : Nat) (v : V), tn.length ≤ j → (cσ σ tn js)[j]? = some (some v) → σ'[j]? = some (some v)) ∧ σ'.length = (cσ σ tn js).length
def tLC (wi : TI) (tn : List Str) (js : List Nat) (g : TG) (tt : TT) (te : TE) : TE := fun σ H Q => wi σ H fun J H1 => ∀ D, H1 D = none → ∃ W : Nat → Nat → Hp → List V → Prop, (∃ m, W 0 m (upd H1 D (.lst [])) []) ∧
  ∀ i m H xs, W i m H xs → H D = some (.lst xs) ∧ ((J.stop i H ∧ Q (.ref D) H) ∨ (J.go i H ∧ ∀ x H', J.yld i H x H' → g x (cσ σ tn js) H' fun σ2 H2 => KeepC σ tn js σ2 ∧ tt σ2 H2 fun ok H3 =>
    if ok = true then te σ2 H3 fun y H4 => H4 D = some (.lst xs) ∧ xs.length < sizeLine ∧ ∃ m', m' < m ∧ W (i + 1) m' (upd H4 D (.lst (xs ++ [y]))) (xs ++ [y])
    else ∃ m', m' < m ∧ W (i + 1) m' H3 xs))
section
variable {X : Cx} {pins : List (Addr × Obj)} {σ : St} {H : Hp} {s : Shared} {scope : Scope} {tn : List Str} {js : List Nat} {elt target iter : Expr} {ifs : List Expr} {pos : Pos} {wi : TI} {g : TG} {tt : TT} {te : TE}
theorem comp_core {Q : VK} {RR : Value → Addr → Result → Shared → Prop} (S : CScope X scope tn js) (hc : X.calm = true) (hi : PI X target iter wi)
    (hb : ∀ C s H fp, PG (blk X (cN X tn js) scope C s H fp) target g ∧ PF (blk X (cN X tn js) scope C s H fp) ifs tt ∧ PE (blk X (cN X tn js) scope C s H fp) elt te)
    (I : Inv X pins σ H s) (h : tLC wi tn js g tt te σ H Q)
    (hRR : ∀ D C s' H' oC m, Inv X (pins ++ [(C, oC)]) σ H' s' → s'.heap.get? C = some oC → s'.heap.Ns C m → X.s₀.heap.objs.size ≤ C → C ≠ X.env.locals → (∀ x c, X.env.cells.lookup x = some c → c ≠ C) → (∀ p ∈ X.pn ++ pins, p.1 ≠ C) → Q (.ref D) H' → RR (.ref D) C (.ok .next) s') :
    wpAny (model X.prog X.w) X.A (eval iter X.env) (fun x s₁ => wpAny (model X.prog X.w) X.A (pyIter x) (fun it s₂ => wpAny (model X.prog X.w) X.A (newList []) (fun acc s₃ =>
      wpAny (model X.prog X.w) X.A (newFunctionEnv scope X.env.globals (clOf X.env scope.names []) [] X.env.qual none .none (some X.env)) (fun cenv s₄ =>
        codeAny (model X.prog X.w) X.A (.compStart (.ListComp elt [⟨target, iter, ifs, 0⟩] scope pos) 0 it acc { cenv with scope := relabel scope X.env }) (RR acc cenv.locals) s₄) X.xe s₃) X.xe s₂) X.xe s₁) X.xe s := by
  refine thn (hi pins s σ H _ I h) fun v s1 h1 => thn h1 fun itv s2 h2 => ?_
  obtain ⟨it, fp, tnn, J, H2, e, I2, T, st2, f2, hJ⟩ := h2
  subst e
  refine wpAny_newList ?_
  have D0 : H2 s2.heap.objs.size = none := I2.hok.fresh (Nat.le_refl _)
  obtain ⟨W, ⟨m0, w0⟩, turn⟩ := hJ s2.heap.objs.size D0
  have I3 : Inv X pins σ (upd H2 s2.heap.objs.size (.lst [])) { s2 with heap := s2.heap.push { cls := .type "list", data := .seq ([] : List Value).toArray }, toks := s2.toks } := I2.lnew .nil (Nat.zero_le _)
  generalize hs3 : ({ s2 with heap := s2.heap.push { cls := .type "list", data := .seq ([] : List Value).toArray }, toks := s2.toks } : Shared) = s3 at I3
  have s3s : s3.heap.objs.size = s2.heap.objs.size + 1 := by rw [← hs3]; exact Heap.size_push ..
  have k23 : ∀ b o, s2.heap.get? b = some o → s3.heap.get? b = some o := fun b o e => by rw [← hs3]; exact Heap.get?_push_of_some _ e
  have u23 : Un (frs X.stack) fp H2 (upd H2 s2.heap.objs.size (.lst [])) s2.heap s3.heap := Un.laid k23 (Nat.le_refl _) D0
  generalize hH3 : upd H2 s2.heap.objs.size (.lst []) = H3 at I3 u23 w0
  generalize hD : s2.heap.objs.size = D at *
  have fpl : ∀ b ∈ fp, b < D := fun b hb => by
    obtain ⟨o, e, _⟩ := T.obj 0 _ st2 b hb
    rw [← hD]; exact Heap.lt_size e
  have f3 : ∀ b ∈ fp, FpOk X pins H3 b ∧ b < s3.heap.objs.size := fun b hb => by
    obtain ⟨q0, q⟩ := f2 b hb
    refine ⟨⟨?_, q⟩, by have := fpl b hb; rw [s3s]; exact Nat.lt_succ_of_lt this⟩
    rw [← hH3, upd_ne (Nat.ne_of_lt (fpl b hb))]; exact q0
  refine newEnv_comp fun h4 hns hk hcell => ?_
  have cl0 : ∀ x c, (clOf X.env scope.names []).lookup x = some c → X.env.cells.lookup x = some c := fun x c e => by
    rcases clOf_lookup scope.names [] c (has_cell I.ok S) e with q | q
    · cases q
    · exact q
  have I4 : Inv (blk X (cN X tn js) scope s3.heap.objs.size s3 H3 fp) [] (cσ σ tn js) H3 { s3 with heap := h4, toks := s3.toks } := inv_block I3 S f3 hns hk fun x c e => (hcell x c e).imp (cl0 x c) id
  have st4 : tnn 0 h4 := T.keep 0 _ _ st2 fun b hb o e => hk b o (k23 b o e)
  have fpk : ∀ {H' : Hp}, (∀ b ∈ fp, H' b = none) → ∀ b ∈ fp, FpOk (blk X (cN X tn js) scope s3.heap.objs.size s3 H3 fp) [] H' b := fun hn b hb => by
    obtain ⟨⟨q0, q1, q2, q3, q4, q5⟩, ql⟩ := f3 b hb
    refine ⟨hn b hb, Nat.ne_of_lt ql, fun z => ?_, .inl hb, fun x c e z => ?_, fun p hp => nomatch hp⟩
    · rcases List.mem_cons.mp (I3.stkSub b z) with q | q
      · exact q1 q
      · exact q2 q
    · exact (I4.ok.exf b hb).2 x c e z
  have loop : codeAny (model X.prog X.w) X.A (.compLoop (.ListComp elt [⟨target, iter, ifs, 0⟩] scope pos) 0 (.ref it) (.ref D) (blk X (cN X tn js) scope s3.heap.objs.size s3 H3 fp).env) (RR (.ref D) s3.heap.objs.size) { s3 with heap := h4, toks := s3.toks } := by
    refine comp_loop (fun n s' => ∃ i σ' H' xs, Inv (blk X (cN X tn js) scope s3.heap.objs.size s3 H3 fp) [] σ' H' s' ∧ tnn i s'.heap ∧ (∀ b ∈ fp, H' b = none) ∧ W i n H' xs ∧ KeepC σ tn js σ') ?_ m0
      ⟨0, _, H3, [], I4, st4, fun b hb => (f3 b hb).1.1, w0, fun _ _ _ z => z, rfl⟩
    rintro n s5 ⟨i, σ5, H5, xs, I5, st5, fr5, w5, kσ, lσ⟩
    -- the state with the targets forgotten
    have I5' : Inv (blk X (cN X tn js) scope s3.heap.objs.size s3 H3 fp) [] (cσ σ tn js) H5 s5 := I5.weak lσ.symm fun j v e => by
      by_cases hj : tn.length ≤ j
      · exact kσ j v hj e
      · exfalso
        unfold cσ at e
        rw [List.getElem?_append_left (by simpa using Nat.lt_of_not_le hj), List.getElem?_map] at e
        cases q : tn[j]? with
        | none => rw [q] at e; cases e
        | some y => rw [q] at e; cases e
    obtain ⟨hDx, hturn⟩ := turn i n H5 xs w5
    rcases hturn with ⟨stop, q⟩ | ⟨go, step⟩
    · refine thn (T.done (blk X (cN X tn js) scope s3.heap.objs.size s3 H3 fp) rfl rfl rfl hc i [] s5 _ H5 (fun _ _ => False) I5' (fpk fr5) st5 stop) fun r s6 ⟨hr, I6⟩ => ?_
      subst hr
      -- back to the def's own state
      have u36 : Un (frs X.stack) fp H3 H5 s3.heap s6.heap := I6.base
      have u26 : Un (frs X.stack) fp H2 H5 s2.heap s6.heap := u23.trans u36
      have I6X : Inv X pins σ H5 s6 := I2.call' (I6.os.trans (show s3.os = s2.os by rw [← hs3])) u26 I6.hok I6.bare fun b hb => ⟨(f2 b hb).2.2.2.1, (f2 b hb).2.1, (f2 b hb).2.2.2.2.1, (f2 b hb).2.2.2.2.2⟩
      obtain ⟨mm, hnn, _⟩ := I6.loc
      obtain ⟨oC, es, ep, hoC, rC⟩ := id hnn
      have Cge : D ≤ s3.heap.objs.size := by rw [s3s]; exact Nat.le_succ _
      have lt2 : ∀ {b : Addr} {o : Obj}, s2.heap.get? b = some o → b ≠ s3.heap.objs.size := fun e z => absurd (Heap.lt_size e) (Nat.not_lt.mpr (by rw [hD, z]; exact Cge))
      have cC : ∀ x c, X.env.cells.lookup x = some c → c ≠ s3.heap.objs.size := fun x c e z => by
        obtain ⟨v, o, q1, _⟩ := I2.cell x c e
        exact lt2 q1 z
      have pC : ∀ p ∈ X.pn ++ pins, p.1 ≠ s3.heap.objs.size := fun p hp => lt2 (I2.pin p hp).1
      have lC : s3.heap.objs.size ≠ X.env.locals := fun z => by
        have := I2.lt
        rw [hD, ← z] at this
        exact absurd this (Nat.not_lt.mpr Cge)
      refine hRR D s3.heap.objs.size s6 H5 oC mm (I6X.pins_of fun p hp => ?_) hoC hnn (Nat.le_trans I2.sz (by rw [hD]; exact Cge)) lC cC pC q
      rcases List.mem_append.mp hp with hp | hp
      · exact I6X.pin p (List.mem_append_right _ hp)
      · have : p = (s3.heap.objs.size, oC) := by simpa using hp
        subst this
        refine ⟨hoC, I6.free, lC, fun z => ?_, fun v z => ?_⟩
        · have := I2.ok.funs.mem z
          have hz := I2.funs.mem z
          obtain ⟨_, o, hz, _⟩ := hz
          exact lt2 hz rfl
        · have := rC.1
          rw [z] at this; cases this
    · refine thn (T.item (blk X (cN X tn js) scope s3.heap.objs.size s3 H3 fp) rfl rfl rfl hc i [] s5 _ H5 (fun _ _ => False) I5' (fpk fr5) st5 go) fun r s6 ⟨u, hr, h6⟩ => ?_
      subst hr
      refine thn h6 fun _ s7 ⟨x, H7, I7, r7, y7, st7, fr7⟩ => ?_
      have I7' := I7.pinned (fpk fr7) (T.obj _ _ st7)
      refine thn ((hb s3.heap.objs.size s3 H3 fp).1 _ s7 _ H7 x u _ I7' r7 (step x H7 y7)) fun _ s8 ⟨σ8, H8, I8, kc8, q8⟩ => ?_
      -- what the pins say of the iterator, later
      have again : ∀ {σ' : St} {H' : Hp} {s' : Shared} {xs' : List V} {m' : Nat}, Inv (blk X (cN X tn js) scope s3.heap.objs.size s3 H3 fp) ([] ++ pinsAt fp s7.heap) σ' H' s' → m' < n → W (i + 1) m' H' xs' → KeepC σ tn js σ' →
          ∃ m, m < n ∧ ∃ i σ' H' xs, Inv (blk X (cN X tn js) scope s3.heap.objs.size s3 H3 fp) [] σ' H' s' ∧ tnn i s'.heap ∧ (∀ b ∈ fp, H' b = none) ∧ W i m H' xs ∧ KeepC σ tn js σ' := fun {σ' H' s' xs' m'} I' hm w' k' => by
        refine ⟨m', hm, i + 1, σ', H', xs', I'.unpinned, T.keep _ _ _ st7 fun b hb o e => (I'.pin (b, o) (List.mem_append_right _ (List.mem_append_right _ (mem_pinsAt hb e)))).1, fun b hb => ?_, w', k'⟩
        obtain ⟨o, e, d⟩ := T.obj _ _ st7 b hb
        exact (I'.pin (b, o) (List.mem_append_right _ (List.mem_append_right _ (mem_pinsAt hb e)))).2.1
      refine thn ((hb s3.heap.objs.size s3 H3 fp).2.1 _ s8 σ8 H8 _ I8 q8) fun ok s9 ⟨H9, I9, q9⟩ => ?_
      cases ok with
      | false =>
        have q9' : ∃ m', m' < n ∧ W (i + 1) m' H9 xs := by
          have z := q9
          rw [if_neg Bool.false_ne_true] at z
          exact z
        obtain ⟨m', hm, w9⟩ := q9'
        exact again I9 hm w9 kc8
      | true =>
        rw [if_pos rfl] at q9 ⊢
        refine thn ((hb s3.heap.objs.size s3 H3 fp).2.2 _ s9 σ8 H9 _ I9 q9) fun yv s10 ⟨y, H10, I10, r10, hD10, hz, m', hm, w10⟩ => ?_
        exact thn (mt_append _ s10 σ8 H10 (.ref D) [y] (.ref D) [yv] (fun _ H' => H' = upd H10 D (.lst (xs ++ [y]))) I10 rfl (.cons r10 .nil) ⟨D, xs, y, rfl, rfl, hD10, hz, rfl⟩) fun _ s11 ⟨_, H11, I11, _, e11⟩ => by
          subst e11
          exact again I11 hm w10 kc8
  exact codeAny_compStart_list loop (T.self _ 0 _ _ _ st4 loop)
theorem pe_lc (S : CScope X scope tn js) (hc : X.calm = true) (hi : PI X target iter wi)
    (hb : ∀ C s H fp, PG (blk X (cN X tn js) scope C s H fp) target g ∧ PF (blk X (cN X tn js) scope C s H fp) ifs tt ∧ PE (blk X (cN X tn js) scope C s H fp) elt te)
    (hs : ∀ x, foldedSetIterable iter X.env x = pure x := by intro _; rfl) : PE X (.ListComp elt [⟨target, iter, ifs, 0⟩] scope pos) (tLC wi tn js g tt te) := by
  intro pins s σ H Q I h
  rw [eval_ListComp]
  refine wpAny_comprehension_free (use := none) rfl hs (closureFor_clOf (has_cell I.ok S)) S.kind S.loc ?_
  refine comp_core (RR := fun acc C => compPost (model X.prog X.w) X.A X.xe none (EP X pins σ Q) acc C) S hc hi hb I h ?_
  intro D C s' H' oC m I' hoC hn h1 h2 h3 h4 q
  refine ⟨m, hn, fun h' sb => ⟨.ref D, H', ?_, rfl, q⟩⟩
  have I2 : Inv X pins σ H' s' := I'.pins_of fun p hp => I'.pin p (List.mem_append_right _ (List.mem_append_left _ hp))
  exact I2.turned (t' := s'.toks) (fun b o hb e => sb.extBut b o hb e) (I'.pin (C, oC) (List.mem_append_right _ (List.mem_append_right _ (by simp)))).2.1 (Ne.symm (Ne.symm h2)) (.inr h1) h3 h4
theorem ps_setLC {i : Nat} {y : Str} {py spos : Pos} (hN : X.N.Nodup) (hiN : X.N[i]? = some y) (hy : Loc X.env.scope y) (hf : X.fn y = true ∨ X.env.scope.names.lookup y = some .local) (S : CScope X scope tn js) (hc : X.calm = true) (hi : PI X target iter wi)
    (hb : ∀ C s H fp, PG (blk X (cN X tn js) scope C s H fp) target g ∧ PF (blk X (cN X tn js) scope C s H fp) ifs tt ∧ PE (blk X (cN X tn js) scope C s H fp) elt te)
    (hsw : swapsWith (.ListComp elt [⟨target, iter, ifs, 0⟩] scope pos) (some (.Name y py)) spos.line X.env = pure true)
    (hs : ∀ x, foldedSetIterable iter X.env x = pure x := by intro _; rfl) : PS X (.Assign [.Name y py] (.ListComp elt [⟨target, iter, ifs, 0⟩] scope pos) spos) (fun D σ H => tLC wi tn js g tt te σ H fun v H1 => D.nx (σ.set i (some v)) H1) := by
  intro pins s σ H De I h
  rw [exec_Assign_Name_used _ _ _ _ hsw]
  refine wpAny_bind (wpAny_standAt (wpAny_bind ?_))
  show wpAny _ X.A (do let _ ← comprehension (.ListComp elt [⟨target, iter, ifs, 0⟩] scope pos) scope X.env _ (newList []) false (eval iter X.env) (some (assign (.Name y py) X.env))) _ _ s
  refine wpAny_bind (wpAny_mono (wpAny_comprehension_free (use := some (assign (.Name y py) X.env)) (Q := fun _ s' => SP X pins De .next s') rfl hs (closureFor_clOf (has_cell I.ok S)) S.kind S.loc ?_) (fun _ s' hq => wpAny_pure (wpAny_pure hq)) fun _ _ e => e)
  refine comp_core (RR := fun acc C => compPost (model X.prog X.w) X.A X.xe (some (assign (.Name y py) X.env)) (fun _ s' => SP X pins De .next s') acc C) S hc hi hb I h ?_
  intro D C s' H' oC m I' hoC hn h1 h2 h3 h4 q
  show wpAny _ X.A (assign (.Name y py) X.env (.ref D)) _ _ _
  refine thn (pg_name (pos := py) hN hiN hy hf _ s' σ H' (.ref D) (.ref D) (fun σ2 H2 => σ2 = σ.set i (some (.ref D)) ∧ H2 = H') I' rfl ⟨rfl, rfl⟩) fun _ s'' ⟨σ2, H2, I2, e1, e2⟩ => ?_
  subst e1 e2
  obtain ⟨g1, g2, _⟩ := I2.pin (C, oC) (List.mem_append_right _ (List.mem_append_right _ (by simp)))
  refine ⟨m, hn.at' fun o e => ?_, fun h' sb => ?_⟩
  · rw [hoC] at e; cases e; exact g1
  · have I3 : Inv X pins (σ.set i (some (.ref D))) H2 s'' := I2.pins_of fun p hp => I2.pin p (List.mem_append_right _ (List.mem_append_left _ hp))
    exact ⟨_, H2, I3.turned (t' := s''.toks) (fun b o hb e => sb.extBut b o hb e) g2 h2 (.inr h1) h3 h4, q⟩
end
end L2
namespace L2
open PySem PySem.Spec PyProof.Rows
section
variable {X : Cx}
theorem op_mulK : OpR X (binaryOp .Mult) (rI IntMulOk fun i j => .int (i * j)) := opI fun _ _ _ _ _ _ _ hc q => mul_int q hc
def CDivK (_ j : Int) : Prop := j ≠ 0 ∧ j.natAbs.log2 < 9000
theorem op_fdivK : OpR X (binaryOp .FloorDiv) (rI CDivK fun i j => .int (i.fdiv j)) := opI fun _ _ _ _ _ _ _ hc q => floordiv_int hc.1 q (.inl (PyProof.noPylong_of_log2 hc.2))

def Itc (lo c : Int) (n : Nat) : It := ⟨fun i _ => i < n, fun i H x H' => H' = H ∧ x = .int (lo + i * c), fun i _ => n ≤ i⟩
theorem turn_rangeC {P : Program} {w : World} {K : PySem.W.Frag} {tg : Expr} (it : Addr) (lo c : Int) (n : Nat) : Turn P w K tg (Itc lo c n) [it] it (fun i h => IsRangeIter h it (lo + (i : Nat) * c) ((n : Int) - (i : Nat)) c) where
  mem := by simp
  obj := fun i h st b hb => by
    have e : b = it := by simpa using hb
    subst e
    exact ⟨_, st, fun v z => by
      have z' : Data.fields _ = Data.cell v := z
      cases z'⟩
  keep := fun i h h' st k => k it (by simp) _ st
  item := by
    intro X hP hw hK hc i pins s σ H E I hf st hg
    subst hP hw hK
    obtain ⟨f0, f1, f2, f3, f4, f5⟩ := hf it (by simp)
    have W := Walks.range (prog := X.prog) (w := X.w) (I.ok.hd hc) it lo c n
    refine W.item i s _ _ hg st fun v h' tk hv st' kk => ?_
    obtain ⟨t, rfl⟩ := hv
    have I1 : Inv X pins σ H { s with heap := h', toks := tk } := I.turned (fun b o hb e => kk b o (by simpa using hb) e) f0 f1 f3 f4 f5
    exact ⟨_, rfl, go_of (s := { s with heap := h', toks := tk }) (n := "range_iterator") st' rfl rfl (by decide) ⟨.int (lo + i * c), H, I1, ⟨t, rfl⟩, ⟨rfl, rfl⟩, st', fun b hb => (hf b hb).1⟩⟩
  done := by
    intro X hP hw hK hc i pins s σ H E I hf st hg
    subst hP hw hK
    obtain ⟨f0, f1, f2, f3, f4, f5⟩ := hf it (by simp)
    exact wpAny_pyNext_range_end (I.ok.hd hc) st (by have : n ≤ i := hg; omega) fun h' eb => ⟨rfl, I.turned (t' := s.toks) (fun b o hb e => eb b o hb e) f0 f1 f3 f4 f5⟩
  self := fun _ _ _ _ _ st h => wpAny_pyIter_rangeiter st h
theorem small_c {a b c : Int} (ha : -(2 ^ 62) ≤ a) (ha' : a < 2 ^ 62) (hb : -(2 ^ 62) ≤ b) (hb' : b < 2 ^ 62) (hc : c ≠ 0) (hc1 : -1000 ≤ c) (hc2 : c ≤ 1000) : Builtin.Range.small a b c = true := by
  have h1 := rangeSize_toNat a b c
  have h2 := rangeSize_toNat_le a b c
  unfold Builtin.Range.small
  generalize Builtin.Range.rangeSize a b c = r at *
  simp only [Builtin.Range.rangeFitsLong, Bool.and_eq_true, Bool.or_eq_true, decide_eq_true_eq, beq_iff_eq]
  refine ⟨⟨⟨⟨⟨by omega, by omega⟩, by omega, by omega⟩, by omega, by omega⟩, by omega, by omega⟩, ?_⟩
  right
  split <;> simp only [Bool.and_eq_true, decide_eq_true_eq] <;> omega
variable {tg : Expr}
theorem range_itC {pins : List (Addr × Obj)} {σ : St} {H : Hp} {s : Shared} {R : It → Hp → Prop} {E : Value → Shared → Prop} {lo hi c : Int} {t u v : Tok} {tk : Nat} (I : Inv X pins σ H s) (h1 : -(2 ^ 62) ≤ lo) (h2 : lo < 2 ^ 62) (h3 : -(2 ^ 62) ≤ hi) (h4 : hi < 2 ^ 62)
    (c0 : c ≠ 0) (c1 : -1000 ≤ c) (c2 : c ≤ 1000)
    (q : R (Itc lo c (Builtin.Range.rangeSize lo hi c).toNat) H) : wpAny (model X.prog X.w) X.A (pyIter (.ref s.heap.objs.size)) (PIE X pins σ tg R) E { s with heap := s.heap.push { cls := .type "range", data := .fields #[.int lo t, .int hi u, .int c v] }, toks := tk } := by
  refine wpAny_pyIter_range (IsRange.new ..) (small_c h1 h2 h3 h4 c0 c1 c2) ?_
  have I1 : Inv X pins σ H { s with heap := s.heap.push { cls := .type "range", data := .fields #[.int lo t, .int hi u, .int c v] }, toks := tk } := I.kept fun b o e => Heap.get?_push_of_some _ e
  refine ⟨(s.heap.push { cls := .type "range", data := .fields #[.int lo t, .int hi u, .int c v] }).objs.size, [(s.heap.push { cls := .type "range", data := .fields #[.int lo t, .int hi u, .int c v] }).objs.size], _, _, H, rfl,
    I1.kept (t' := tk) fun b o e => Heap.get?_push_of_some _ e, turn_rangeC _ lo c (Builtin.Range.rangeSize lo hi c).toNat, ?_, fun b hb => ?_, q⟩
  · have e1 : lo + ((0 : Nat) : Int) * c = lo := by simp
    have e2 : (((Builtin.Range.rangeSize lo hi c).toNat : Nat) : Int) - ((0 : Nat) : Int) = Builtin.Range.rangeSize lo hi c := by have := rangeSize_toNat lo hi c; omega
    show IsRangeIter _ _ (lo + ((0 : Nat) : Int) * c) ((((Builtin.Range.rangeSize lo hi c).toNat : Nat) : Int) - ((0 : Nat) : Int)) c
    rw [e1, e2]
    exact Heap.get?_push_size _ rfl
  · have e : b = (s.heap.push { cls := .type "range", data := .fields #[.int lo t, .int hi u, .int c v] }).objs.size := by simpa using hb
    subst e
    exact I1.fpOk (Nat.le_refl _) (I1.hok.fresh (Nat.le_refl _))
def iRng3 (ta : TA) : TI := fun σ H R => ta σ H fun vs H1 => ∃ i j c : Int, vs = [.int i, .int j, .int c] ∧ (-(2 ^ 62) ≤ i ∧ i < 2 ^ 62 ∧ -(2 ^ 62) ≤ j ∧ j < 2 ^ 62) ∧ (c ≠ 0 ∧ -1000 ≤ c ∧ c ≤ 1000) ∧ R (Itc i c (Builtin.Range.rangeSize i j c).toNat) H1
theorem pi_range3 {a b c : Expr} {ta : TA} {p pos : Pos} (hg : Gl X "range") (hm : X.mg "range" = none) (ha : PA X [a, b, c] ta) (he : starEach [a, b, c] X.env = (false, eval a X.env) :: starEach [b, c] X.env := by rfl)
    (hpl : (backTo pos (starEach [b, c] X.env)).any (·.1) = false := by rfl) : PI X tg (.Call (.Name "range" p) [a, b, c] [] pos) (iRng3 ta) := by
  intro pins s σ H R I h
  refine Call_ (ld_blt I hg hm boot_range (PyProof.Rows.callWith_type1 (thn (ha pos pins s σ H _ I h) fun us s1 ⟨vs, H1, I1, r1, q1⟩ => ?_) he hpl))
  obtain ⟨i, j, c, e, ⟨q1, q2, q3, q4⟩, ⟨c0, c1, c2⟩, q⟩ := q1
  subst e
  cases r1 with
  | cons r rr =>
    cases rr with
    | cons r' rr =>
      cases rr with
      | cons r'' rr =>
        cases rr
        obtain ⟨t, rfl⟩ := r
        obtain ⟨t', rfl⟩ := r'
        obtain ⟨t'', rfl⟩ := r''
        exact call_range_3 c0 (range_itC I1 q1 q2 q3 q4 c0 c1 c2 q) (.inl (PyProof.noPylong_small (by omega)))
theorem for_rangeC {lo c : Int} {n : Nat} {g : TG} {tb : TS} {D : Ends} {σ : St} {H : Hp} (Pv : Nat → St → Hp → Prop) (h0 : Pv 0 σ H)
    (hs : ∀ i σ H, i < n → Pv i σ H → g (.int (lo + i * c)) σ H fun σ2 H2 => tb { D with nx := Pv (i + 1), ct := Pv (i + 1), bk := D.nx } σ2 H2) (hd : ∀ σ H, Pv n σ H → D.nx σ H) :
    ∃ W : Nat → Nat → St → Hp → Prop, (∃ m, W 0 m σ H) ∧ ∀ i m σ H, W i m σ H →
      ((Itc lo c n).stop i H ∧ D.nx σ H) ∨ ((Itc lo c n).go i H ∧ ∃ N : St → Hp → Prop, (∀ σ' H', N σ' H' → ∃ m', m' < m ∧ W (i + 1) m' σ' H') ∧ ∀ x H', (Itc lo c n).yld i H x H' → g x σ H' fun σ2 H2 => tb { D with nx := N, ct := N, bk := D.nx } σ2 H2) := by
  refine ⟨fun i m σ H => m = n - i ∧ i ≤ n ∧ Pv i σ H, ⟨n, by simp, Nat.zero_le _, h0⟩, ?_⟩
  rintro i m σ H ⟨rfl, hi, p⟩
  by_cases hlt : i < n
  · refine .inr ⟨hlt, Pv (i + 1), fun σ' H' p' => ⟨n - (i + 1), by omega, rfl, hlt, p'⟩, fun x H' y => ?_⟩
    obtain ⟨e, y⟩ := y
    subst e y
    exact hs i σ _ hlt p
  · have e : i = n := by omega
    subst e
    exact .inl ⟨Nat.le_refl _, hd σ H p⟩
end

mutual
inductive DR (K : PySem.W.Frag) (H : Hp) : V → PyData → Prop
  | non : DR K H .non .none
  | bl (b : Bool) : DR K H (.bl b) (.bool b)
  | int (i : Int) : DR K H (.int i) (.int i)
  | str (x : Str) : DR K H (.str x) (.str x)
  | lst {a : Addr} {xs : List V} {ds : List PyData} : SqL K H a xs → DRs K H xs ds → DR K H (.ref a) (.list ds)
  | tup {a : Addr} {xs : List V} {ds : List PyData} : SqT K H a xs → DRs K H xs ds → DR K H (.ref a) (.tuple ds)
inductive DRs (K : PySem.W.Frag) (H : Hp) : List V → List PyData → Prop
  | nil : DRs K H [] []
  | cons {x : V} {xs : List V} {d : PyData} {ds : List PyData} : DR K H x d → DRs K H xs ds → DRs K H (x :: xs) (d :: ds)
end
section
variable {X : Cx} {pins : List (Addr × Obj)} {σ : St} {H : Hp} {s : Shared}
mutual
theorem DR.reads (I : Inv X pins σ H s) : ∀ {x : V} {d : PyData} {u : Value}, DR X.K H x d → RelV x u → ∃ as, Reads s.heap u d as
  | _, _, _, .non, r => by cases r; exact ⟨_, .none⟩
  | _, _, _, .bl b, r => by cases r; exact ⟨_, .bool b⟩
  | _, _, _, .int i, r => by obtain ⟨t, rfl⟩ := r; exact ⟨_, .int i t⟩
  | _, _, _, .str x, r => by obtain ⟨t, rfl⟩ := r; exact ⟨_, .str x t⟩
  | _, _, _, .lst h hs, r => by
    cases r
    obtain ⟨its, rv, p, _⟩ := I.list h
    obtain ⟨as, ra⟩ := DRs.reads I hs rv
    obtain ⟨o, e1, e2, n, e3⟩ := p.isList
    exact ⟨_, .list e1 e2 e3 (by simpa using ra)⟩
  | _, _, _, .tup h hs, r => by
    cases r
    obtain ⟨its, rv, p, _⟩ := I.tuple h
    obtain ⟨as, ra⟩ := DRs.reads I hs rv
    obtain ⟨o, e1, e2, n, e3⟩ := p
    exact ⟨_, .tuple e1 e2 e3 (by simpa using ra)⟩
theorem DRs.reads (I : Inv X pins σ H s) : ∀ {xs : List V} {ds : List PyData} {us : List Value}, DRs X.K H xs ds → Vals xs us → ∃ as, ReadsAll s.heap us ds as
  | _, _, _, .nil, r => by cases r; exact ⟨_, .nil⟩
  | _, _, _, .cons h hs, r => by
    cases r with
    | cons r1 r2 =>
      obtain ⟨as, a⟩ := DR.reads I h r1
      obtain ⟨bs, b⟩ := DRs.reads I hs r2
      exact ⟨_, .cons a b⟩
end
end
section
variable {X : Cx}
def rEqD (K : PySem.W.Frag) : R2 := fun x y H Q => ∃ d e, DR K H x d ∧ DR K H y e ∧ d.canLay0 = true ∧ e.canLay0 = true ∧ d.depth ≤ 60 ∧ Q (.bl (PyData.eqv d e)) H
def rNeD (K : PySem.W.Frag) : R2 := fun x y H Q => ∃ d e, DR K H x d ∧ DR K H y e ∧ d.canLay0 = true ∧ e.canLay0 = true ∧ d.depth ≤ 60 ∧ Q (.bl (!PyData.eqv d e)) H
theorem op_eqD (hu : X.A.units + 60 < cLine) : OpR X (compareOp .Eq) (rEqD X.K) := by
  intro pins s σ H x y v u Q I rx ry h
  obtain ⟨d, e, hd, he, c1, c2, dp, q⟩ := h
  obtain ⟨as, ra⟩ := hd.reads I rx
  obtain ⟨bs, rb⟩ := he.reads I ry
  exact SeqAt.compareEq_reads ra rb c1 c2 (by have := Nat.min_le_left d.depth e.depth; omega) ⟨.bl _, H, I, rfl, q⟩
theorem op_neD (hu : X.A.units + 60 < cLine) : OpR X (compareOp .NotEq) (rNeD X.K) := by
  intro pins s σ H x y v u Q I rx ry h
  obtain ⟨d, e, hd, he, c1, c2, dp, q⟩ := h
  obtain ⟨as, ra⟩ := hd.reads I rx
  obtain ⟨bs, rb⟩ := he.reads I ry
  exact SeqAt.compareNe_reads ra rb c1 c2 (by have := Nat.min_le_left d.depth e.depth; omega) ⟨.bl _, H, I, rfl, q⟩
end
end L2
namespace L2.EP
open PySem PySem.Spec PyProof.Rows
open Classical in
noncomputable def off (H : Hp) (O : Addr → Prop) : Hp := fun b => if O b then none else H b
theorem off_get {H : Hp} {O : Addr → Prop} {b : Addr} (h : ¬ O b) : off H O b = H b := by unfold off; rw [if_neg h]
theorem off_own {H : Hp} {O : Addr → Prop} {b : Addr} (h : O b) : off H O b = none := by unfold off; rw [if_pos h]
theorem off_some {H : Hp} {O : Addr → Prop} {b : Addr} {o : HO} (h : off H O b = some o) : ¬ O b ∧ H b = some o := by
  by_cases hb : O b
  · rw [off_own hb] at h; cases h
  · rw [off_get hb] at h; exact ⟨hb, h⟩
theorem off_same (H : Hp) (O : Addr → Prop) : Same (off H O) H := fun _ _ h => (off_some h).2
theorem off_mono {H H' : Hp} {O : Addr → Prop} (s : Same H H') : Same (off H O) (off H' O) := fun b o h => by
  obtain ⟨h1, h2⟩ := off_some h
  rw [off_get h1]; exact s _ _ h2
theorem off_less {H : Hp} {O O' : Addr → Prop} (l : ∀ b, O' b → O b) : Same (off H O) (off H O') := fun b o h => by
  obtain ⟨h1, h2⟩ := off_some h
  rw [off_get fun z => h1 (l _ z)]; exact h2
theorem off_nil (H : Hp) : off H (fun _ => False) = H := funext fun _ => off_get fun z => z
theorem off_upd {H : Hp} {O : Addr → Prop} {p : Addr} {o : HO} (h : O p) : off (upd H p o) O = off H O := funext fun b => by
  by_cases hb : O b
  · rw [off_own hb, off_own hb]
  · rw [off_get hb, off_get hb, upd_ne]; rintro rfl; exact hb h
theorem same_upd {H : Hp} {p : Addr} (h : H p = none) (o : HO) : Same H (upd H p o) := fun b u q => by rw [upd_ne (ne_of_none q h)]; exact q
theorem Same.rd {H H' : Hp} {a : Addr} {u : HO} (e : Same H H') (h : Rd H a u) : Rd H' a u := by
  rcases h with h | ⟨o, h⟩
  · exact .inl (e _ _ h)
  · exact .inr ⟨o, e _ _ h⟩
def Rt (H : Hp) (p : Addr) (xs : List V) : Prop := H p = some (.tup xs) ∨ ∃ _ : Empty, H p = some (.tup xs)
theorem Rt.pl {H : Hp} {p : Addr} {xs : List V} (h : Rt H p xs) : H p = some (.tup xs) := by
  rcases h with h | ⟨o, h⟩
  · exact h
  · exact h
theorem Rt.rd {H : Hp} {p : Addr} {xs : List V} (h : Rt H p xs) : Rd H p (.tup xs) := .inl h.pl
theorem Same.rt {H H' : Hp} {a : Addr} {u : List V} (e : Same H H') (h : Rt H a u) : Rt H' a u := .inl (e _ _ h.pl)

theorem sqT_rd {K : PySem.W.Frag} {H H' : Hp} {p : Addr} {xs : List V} (e : Same H H') (h : Rt H p xs) : SqT K H' p xs := .inl (Same.rt e h).rd
inductive Nn where
  | any
  | new (H0 : Hp)
  | set (D : Addr → Prop)
inductive Mt where
  | inl (xs : List V)
  | inr (kvs : List (Key × V))
  | inT (kvs : List (List Key × V))
def mo : Mt → HO
  | .inl xs => .lst xs
  | .inr kvs => .dK kvs
  | .inT kvs => .dT kvs
def Mo (K : PySem.W.Frag) (H : Hp) (p : Addr) : Mt → Prop
  | .inl xs => SqL K H p xs
  | .inr kvs => Rd H p (.dK kvs)
  | .inT kvs => Rd H p (.dT kvs)
theorem Mo.mono {K : PySem.W.Frag} {H H' : Hp} {p : Addr} {o : Mt} (s : Same H H') (h : Mo K H p o) : Mo K H' p o := by
  cases o with
  | inl xs => exact s.seq h
  | inr kvs => exact Same.rd s h
  | inT kvs => exact Same.rd s h
theorem Mo.of {K : PySem.W.Frag} {H : Hp} {p : Addr} {o : Mt} (h : H p = some (mo o)) : Mo K H p o := by
  cases o with
  | inl xs => exact SqL.of h
  | inr kvs => exact .inl h
  | inT kvs => exact .inl h
def Nn.has : Nn → Hp → Addr → Mt → Prop
  | .any, _, _, _ => True
  | .new H0, H, p, xs => H0 p = none ∧ H p = some (mo xs)
  | .set D, H, p, xs => D p ∧ H p = some (mo xs)
theorem Nn.mono {N : Nn} {H H' : Hp} {p : Addr} {xs : Mt} (s : Same H H') (h : N.has H p xs) : N.has H' p xs := by
  cases N with
  | any => exact True.intro
  | new H0 => exact ⟨h.1, s _ _ h.2⟩
  | set D => exact ⟨h.1, s _ _ h.2⟩
class Py (α : Type) where
  rp : PySem.W.Frag → Nn → Hp → V → α → Prop
  tr : ∀ {K : PySem.W.Frag} {N N' : Nn} {H H' : Hp} {v : V} {a : α}, (∀ p (o : Mt), Mo K H p o → N.has H p o → Mo K H' p o ∧ N'.has H' p o) → (∀ p xs, Rt H p xs → Rt H' p xs) → rp K N H v a → rp K N' H' v a
theorem rp_mono {α : Type} [Py α] {K : PySem.W.Frag} {N : Nn} {H H' : Hp} {v : V} {a : α} (s : Same H H') (h : Py.rp K N H v a) : Py.rp K N H' v a :=
  Py.tr (fun _ _ q n => ⟨Mo.mono s q, Nn.mono s n⟩) (fun _ _ q => Same.rt s q) h
theorem rp_wid {α : Type} [Py α] {K : PySem.W.Frag} {N N' : Nn} {H : Hp} {v : V} {a : α} (w : ∀ p (o : Mt), N.has H p o → N'.has H p o) (h : Py.rp K N H v a) : Py.rp K N' H v a :=
  Py.tr (fun _ _ q n => ⟨q, w _ _ n⟩) (fun _ _ q => q) h
instance : Py Int where
  rp _ _ _ v a := v = .int a
  tr _ _ h := h
instance : Py Bool where
  rp _ _ _ v a := v = .bl a
  tr _ _ h := h
instance : Py Unit where
  rp _ _ _ v _ := v = .non
  tr _ _ h := h
instance : Py Str where
  rp _ _ _ v a := v = .str a
  tr _ _ h := h
structure Any where
instance : Py Any where
  rp _ _ _ _ _ := True
  tr _ _ h := h
instance {α : Type} [Py α] : Py (Option α) where
  rp K N H v a := match a with | none => v = .non | some b => Py.rp K N H v b
  tr {K N N' H H' v a} l t h := by
    cases a with
    | none => exact h
    | some b => exact Py.tr (α := α) l t h
instance {α β : Type} [Py α] [Py β] : Py (α × β) where
  rp K N H v a := ∃ p x y, v = .ref p ∧ Rt H p [x, y] ∧ Py.rp K N H x a.1 ∧ Py.rp K N H y a.2
  tr l t h := by
    obtain ⟨p, x, y, e, s, h1, h2⟩ := h
    exact ⟨p, x, y, e, t _ _ s, Py.tr l t h1, Py.tr l t h2⟩
structure T3 (α β γ : Type) where
  a : α
  b : β
  c : γ
  deriving DecidableEq
instance {α β γ : Type} [Py α] [Py β] [Py γ] : Py (T3 α β γ) where
  rp K N H v a := ∃ p x y z, v = .ref p ∧ Rt H p [x, y, z] ∧ Py.rp K N H x a.a ∧ Py.rp K N H y a.b ∧ Py.rp K N H z a.c
  tr l t h := by
    obtain ⟨p, x, y, z, e, s, h1, h2, h3⟩ := h
    exact ⟨p, x, y, z, e, t _ _ s, Py.tr l t h1, Py.tr l t h2, Py.tr l t h3⟩
theorem pr_imp {α β : Type} {F G : α → β → Prop} (f : ∀ a b, F a b → G a b) : ∀ {l₁ : List α} {l₂ : List β}, Paired F l₁ l₂ → Paired G l₁ l₂
  | _, _, .nil => .nil
  | _, _, .cons h t => .cons (f _ _ h) (pr_imp f t)
theorem pr_len {α β : Type} {F : α → β → Prop} : ∀ {l₁ : List α} {l₂ : List β}, Paired F l₁ l₂ → l₁.length = l₂.length
  | _, _, .nil => rfl
  | _, _, .cons _ t => congrArg (· + 1) (pr_len t)
theorem pr_get {α β : Type} {F : α → β → Prop} : ∀ {l₁ : List α} {l₂ : List β} {i : Nat} {b : β}, Paired F l₁ l₂ → l₂[i]? = some b → ∃ a, l₁[i]? = some a ∧ F a b
  | _, _, _, _, .nil, e => by simp at e
  | _, _, 0, _, .cons h _, e => by simp at e; subst e; exact ⟨_, rfl, h⟩
  | _, _, i + 1, _, .cons _ t, e => by
    obtain ⟨a, h1, h2⟩ := pr_get (i := i) t (by simpa using e)
    exact ⟨a, by simpa using h1, h2⟩
theorem pr_get' {α β : Type} {F : α → β → Prop} : ∀ {l₁ : List α} {l₂ : List β} {i : Nat} {a : α}, Paired F l₁ l₂ → l₁[i]? = some a → ∃ b, l₂[i]? = some b ∧ F a b
  | _, _, _, _, .nil, e => by simp at e
  | _, _, 0, _, .cons h _, e => by simp at e; subst e; exact ⟨_, rfl, h⟩
  | _, _, i + 1, _, .cons _ t, e => by
    obtain ⟨a, h1, h2⟩ := pr_get' (i := i) t (by simpa using e)
    exact ⟨a, by simpa using h1, h2⟩
theorem pr_app {α β : Type} {F : α → β → Prop} : ∀ {l₁ m₁ : List α} {l₂ m₂ : List β}, Paired F l₁ l₂ → Paired F m₁ m₂ → Paired F (l₁ ++ m₁) (l₂ ++ m₂)
  | _, _, _, _, .nil, h => h
  | _, _, _, _, .cons h t, h' => .cons h (pr_app t h')
theorem pr_set {α β : Type} {F : α → β → Prop} {a : α} {b : β} (f : F a b) : ∀ {l₁ : List α} {l₂ : List β} (i : Nat), Paired F l₁ l₂ → Paired F (l₁.set i a) (l₂.set i b)
  | _, _, _, .nil => .nil
  | _, _, 0, .cons _ t => .cons f t
  | _, _, i + 1, .cons h t => .cons h (pr_set f i t)
theorem pr_drop {α β : Type} {F : α → β → Prop} : ∀ {l₁ : List α} {l₂ : List β} (n : Nat), Paired F l₁ l₂ → Paired F (l₁.drop n) (l₂.drop n)
  | _, _, 0, h => h
  | _, _, _ + 1, .nil => .nil
  | _, _, n + 1, .cons _ t => pr_drop n t
theorem pr_take {α β : Type} {F : α → β → Prop} : ∀ {l₁ : List α} {l₂ : List β} (n : Nat), Paired F l₁ l₂ → Paired F (l₁.take n) (l₂.take n)
  | _, _, 0, _ => .nil
  | _, _, _ + 1, .nil => .nil
  | _, _, n + 1, .cons h t => .cons h (pr_take n t)
instance {α : Type} [Py α] : Py (List α) where
  rp K N H v a := ∃ p xs, v = .ref p ∧ SqL K H p xs ∧ N.has H p (.inl xs) ∧ Paired (fun x b => Py.rp K N H x b) xs a
  tr l t h := by
    obtain ⟨p, xs, e, s, n, r⟩ := h
    obtain ⟨s', n'⟩ := l _ (.inl xs) s n
    exact ⟨p, xs, e, s', n', pr_imp (fun _ _ q => Py.tr l t q) r⟩

class PyD (α : Type) extends Py α where
  dat : α → PyData
  dr : ∀ {K : PySem.W.Frag} {N : Nn} {H : Hp} {v : V} {a : α}, Py.rp K N H v a → DR K H v (dat a)
  lay : ∀ a, (dat a).canLay0 = true
  dep : Nat
  depth : ∀ a, (dat a).depth ≤ dep
  eqv : ∀ a b, PyData.eqv (dat a) (dat b) = true ↔ a = b
instance : PyD Int where
  dat := .int
  dr h := by cases h; exact .int _
  lay _ := rfl
  dep := 0
  depth _ := Nat.le_refl _
  eqv a b := by simp [PyData.eqv]
instance : PyD Bool where
  dat := .bool
  dr h := by cases h; exact .bl _
  lay _ := rfl
  dep := 0
  depth _ := Nat.le_refl _
  eqv a b := by simp [PyData.eqv]
instance {α β : Type} [PyD α] [PyD β] : PyD (α × β) where
  dat a := .tuple [PyD.dat a.1, PyD.dat a.2]
  dr h := by
    obtain ⟨p, x, y, e, s, h1, h2⟩ := h
    subst e
    exact .tup (.inl s.rd) (.cons (PyD.dr h1) (.cons (PyD.dr h2) .nil))
  lay a := by
    show PyData.canLayAll0 [PyD.dat a.1, PyD.dat a.2] = true
    simp [PyData.canLayAll0, PyD.lay]
  dep := max (PyD.dep α) (PyD.dep β) + 1
  depth a := by
    have h1 := PyD.depth a.1
    have h2 := PyD.depth a.2
    show PyData.depthAll [PyD.dat a.1, PyD.dat a.2] + 1 ≤ _
    simp only [PyData.depthAll]
    omega
  eqv a b := by
    rw [PyData.eqv]
    simp only [PyData.eqvAll, Bool.and_true, Bool.and_eq_true, PyD.eqv]
    exact ⟨fun h => Prod.ext h.1 h.2, fun h => by subst h; exact ⟨rfl, rfl⟩⟩
theorem drs_list {α : Type} [PyD α] {K : PySem.W.Frag} {N : Nn} {H : Hp} : ∀ {xs : List V} {as : List α}, Paired (fun x b => Py.rp K N H x b) xs as → DRs K H xs (as.map PyD.dat)
  | _, _, .nil => .nil
  | _, _, .cons h t => .cons (PyD.dr h) (drs_list t)
theorem lay_list {α : Type} [PyD α] : ∀ as : List α, PyData.canLayAll0 (as.map PyD.dat) = true
  | [] => rfl
  | a :: as => by simp [PyData.canLayAll0, PyD.lay, lay_list as]
theorem dep_list {α : Type} [PyD α] : ∀ as : List α, PyData.depthAll (as.map PyD.dat) ≤ PyD.dep α
  | [] => Nat.zero_le _
  | a :: as => by
    have h1 := PyD.depth a
    have h2 := dep_list as
    simp only [List.map_cons, PyData.depthAll]
    omega
theorem eqv_list {α : Type} [PyD α] : ∀ as bs : List α, PyData.eqvAll (as.map PyD.dat) (bs.map PyD.dat) = true ↔ as = bs
  | [], [] => by simp [PyData.eqvAll]
  | [], _ :: _ => by simp [PyData.eqvAll]
  | _ :: _, [] => by simp [PyData.eqvAll]
  | a :: as, b :: bs => by simp [PyData.eqvAll, PyD.eqv, eqv_list as bs]
instance {α : Type} [PyD α] : PyD (List α) where
  dat a := .list (a.map PyD.dat)
  dr h := by
    obtain ⟨p, xs, e, s, n, r⟩ := h
    subst e
    exact .lst s (drs_list r)
  lay a := lay_list a
  dep := PyD.dep α + 1
  depth a := by
    show PyData.depthAll (a.map PyD.dat) + 1 ≤ _
    have := dep_list a
    omega
  eqv a b := by rw [PyData.eqv]; exact eqv_list a b

inductive Bd : Type 1
  | val {α : Type} [Py α] (b : Bool) (a : α) : Bd
  | own {α : Type} [Py α] (b : Bool) (as : List α) : Bd
  | dpo {α : Type} [Py α] (a : α) : Bd
abbrev GEnv := List (Option Bd)
def Nf (H0 : Hp) : Bool → Nn
  | true => .new H0
  | false => .any
theorem Nf.wk {H0 H : Hp} {b : Bool} {p : Addr} {xs : Mt} (h : H0 p = none) (hx : H p = some (mo xs)) : (Nf H0 b).has H p xs := by cases b; exact True.intro; exact ⟨h, hx⟩
theorem Nf.le {H0 H : Hp} {b b' : Bool} {p : Addr} {xs : Mt} (l : b' = true → b = true) (h : (Nf H0 b).has H p xs) : (Nf H0 b').has H p xs := by
  cases b' with
  | false => exact True.intro
  | true => rw [l rfl] at h; exact h
def Bd.ok (K : PySem.W.Frag) (H0 : Hp) (O : Addr → Prop) (H : Hp) (v : V) : Bd → Prop
  | @Bd.val _ _ b a => Py.rp K (Nf H0 b) (off H O) v a
  | @Bd.own _ _ _ _ => False
  | @Bd.dpo _ _ _ => False
def Bd.okD (K : PySem.W.Frag) (H0 : Hp) (O : Addr → Prop) (H : Hp) (D : Addr → Prop) (v : V) : Bd → Prop
  | @Bd.val _ _ _ _ => False
  | @Bd.own _ _ b as => ∃ p xs, v = .ref p ∧ D p ∧ H p = some (.lst xs) ∧ Paired (fun x a => Py.rp K (Nf H0 b) (off H O) x a) xs as
  | @Bd.dpo _ _ a => Py.rp K (.set D) H v a
def Bd.isOwn : Bd → Prop
  | @Bd.val _ _ _ _ => False
  | @Bd.own _ _ _ _ => True
  | @Bd.dpo _ _ _ => True
structure Sta (K : PySem.W.Frag) (H0 : Hp) (F O : Addr → Prop) (Γ : GEnv) (σ : St) (H : Hp) : Prop where
  same : Same H0 H
  fo : ∀ p, F p → O p
  f0 : ∀ p, F p → ∃ xs : Mt, H0 p = some (mo xs)
  own : ∀ p, O p → ∃ xs : Mt, H p = some (mo xs)
  len : σ.length = Γ.length
  at_ : ∀ (i : Nat) (g : Bd), Γ[i]? = some (some g) → ¬ g.isOwn → ∃ v, σ[i]? = some (some v) ∧ g.ok K H0 O H v
  dis : ∃ D : Nat → Addr → Prop, (∀ i j p, D i p → D j p → i = j) ∧ (∀ i p, D i p → O p ∧ H0 p = none) ∧ ∀ (i : Nat) (g : Bd), Γ[i]? = some (some g) → g.isOwn → ∃ v, σ[i]? = some (some v) ∧ g.okD K H0 O H (D i) v
section
variable {K : PySem.W.Frag} {H0 : Hp} {F O : Addr → Prop} {Γ : GEnv} {σ : St} {H H' : Hp}
theorem Bd.go {v : V} {g : Bd} (s : Same H H') (h : g.ok K H0 O H v) : g.ok K H0 O H' v := by
  cases g with
  | val b a => exact rp_mono (off_mono s) h
  | own b as => exact h
  | dpo a => exact h
theorem Bd.goD {v : V} {g : Bd} {D O' : Addr → Prop} (h : g.okD K H0 O H D v) (hD : ∀ p (xs : Mt), D p → H p = some (mo xs) → H' p = some (mo xs)) (so : Same (off H O) (off H' O')) (hO : ∀ p, D p → O p) (hOl : ∀ p, O p → ∃ xs : Mt, H p = some (mo xs)) : g.okD K H0 O' H' D v := by
  cases g with
  | val b a => exact h
  | own b as =>
    obtain ⟨p, xs, e, o, q, r⟩ := h
    exact ⟨p, xs, e, o, hD p (.inl xs) o q, pr_imp (fun _ _ z => rp_mono so z) r⟩
  | dpo a =>
    have h' : Py.rp K (.set D) H v a := h
    refine Py.tr (α := _) (a := a) (fun p xs q n => ?_) (fun p xs q => ?_) h'
    · obtain ⟨n1, n2⟩ := n
      have h2 := hD p xs n1 n2
      exact ⟨Mo.of h2, n1, h2⟩
    · have hp : ∀ u, (H p = some (.tup u) ∨ ∃ o, H p = some (.frz o (.tup u))) → ¬ O p := fun u z hp => by
        obtain ⟨ys, w⟩ := hOl p hp
        rcases z with z | ⟨o, z⟩
        · rw [z] at w; rcases ys with ys | ys | ys <;> cases w
        · rw [z] at w; rcases ys with ys | ys | ys <;> cases w
      have hp' := hp xs q.rd
      rcases q with q | ⟨o, q⟩
      · exact .inl ((off_same _ _) _ _ (so _ _ (by rw [off_get hp']; exact q)))
      · exact .inr ⟨o, (off_same _ _) _ _ (so _ _ (by rw [off_get hp']; exact q))⟩
theorem Sta.go (S : Sta K H0 F O Γ σ H) (s : Same H H') : Sta K H0 F O Γ σ H' where
  same := S.same.trans s
  fo := S.fo
  f0 := S.f0
  own := fun p h => let ⟨xs, q⟩ := S.own p h; ⟨xs, s _ _ q⟩
  len := S.len
  at_ := fun i g e n => let ⟨v, q, r⟩ := S.at_ i g e n; ⟨v, q, Bd.go s r⟩
  dis := by
    obtain ⟨D, d1, d2, d3⟩ := S.dis
    refine ⟨D, d1, d2, fun i g e o => ?_⟩
    obtain ⟨v, q, r⟩ := d3 i g e o
    exact ⟨v, q, Bd.goD r (fun p xs _ z => s _ _ z) (off_mono s) (fun p z => (d2 i p z).1) S.own⟩
theorem Sta.free0 (S : Sta K H0 F O Γ σ H) {p : Addr} (h : H p = none) : H0 p = none := S.same.free h
theorem Sta.notOwn (S : Sta K H0 F O Γ σ H) {p : Addr} (h : H p = none) : ¬ O p := fun o => by
  obtain ⟨xs, q⟩ := S.own p o
  rw [h] at q; cases q
theorem Sta.back {α : Type} [Py α] {b : Bool} {v : V} {a : α} (S : Sta K H0 F O Γ σ H) (h : Py.rp K (Nf H b) (off H' O) v a) : Py.rp K (Nf H0 b) (off H' O) v a :=
  rp_wid (fun p xs n => by cases b with | true => exact ⟨S.free0 n.1, n.2⟩ | false => exact True.intro) h
end
theorem get_set_ne.{u} {α : Type u} {l : List α} {i j : Nat} {a : α} (h : j ≠ i) : (l.set i a)[j]? = l[j]? := by
  rw [List.getElem?_set_ne (Ne.symm h)]
theorem get_set_eq.{u} {α : Type u} {l : List α} {i : Nat} {a : α} (h : i < l.length) : (l.set i a)[i]? = some a := by
  rw [List.getElem?_set_self h]
theorem get_set_some.{u} {α : Type u} {l : List (Option α)} {i : Nat} {a x : α} (h : (l.set i (some a))[i]? = some (some x)) : i < l.length ∧ a = x := by
  by_cases hl : i < l.length
  · rw [get_set_eq hl] at h
    injection h with h; injection h with h
    exact ⟨hl, h⟩
  · rw [List.getElem?_eq_none (by rw [List.length_set]; omega)] at h; cases h
theorem Sta.set {K : PySem.W.Frag} {H0 : Hp} {F O : Addr → Prop} {Γ : GEnv} {σ : St} {H : Hp} {α : Type} [Py α] {b : Bool} {a : α} {v : V} {i : Nat} (S : Sta K H0 F O Γ σ H) (r : Py.rp K (Nf H0 b) (off H O) v a) :
    Sta K H0 F O (Γ.set i (some (.val b a))) (σ.set i (some v)) H where
  same := S.same
  fo := S.fo
  f0 := S.f0
  own := S.own
  len := by rw [List.length_set, List.length_set]; exact S.len
  at_ := fun j g e n => by
    by_cases hj : j = i
    · subst hj
      obtain ⟨hl, e'⟩ := get_set_some e
      subst e'
      exact ⟨v, get_set_eq (by rw [S.len]; exact hl), r⟩
    · rw [get_set_ne hj] at e
      obtain ⟨w, q, z⟩ := S.at_ j g e n
      exact ⟨w, by rw [get_set_ne hj]; exact q, z⟩
  dis := by
    obtain ⟨D, d1, d2, d3⟩ := S.dis
    refine ⟨D, d1, d2, fun j g e o => ?_⟩
    have hj : j ≠ i := by
      rintro rfl
      obtain ⟨_, e'⟩ := get_set_some e
      subst e'; exact o
    rw [get_set_ne hj] at e
    obtain ⟨w, q, z⟩ := d3 j g e o
    exact ⟨w, by rw [get_set_ne hj]; exact q, z⟩
def tV {α : Type} [Py α] (K : PySem.W.Frag) (Γ : GEnv) (b : Bool) (a : α) : TE := fun σ H Q => ∃ H0 F O, Sta K H0 F O Γ σ H ∧ ∀ v H', Same H H' → Py.rp K (Nf H0 b) (off H' O) v a → Q v H'
@[irreducible] def E {α : Type} [Py α] (X : Cx) (Γ : GEnv) (e : Expr) (b : Bool) (a : α) : Prop := PE X e (tV X.K Γ b a)
def tVT (K : PySem.W.Frag) (Γ : GEnv) (c : Bool) : TT := fun σ H Q => ∃ H0 F O, Sta K H0 F O Γ σ H ∧ ∀ H', Same H H' → Q c H'
@[irreducible] def T (X : Cx) (Γ : GEnv) (e : Expr) (c : Bool) : Prop := PT X e (tVT X.K Γ c)
@[irreducible] def TW (X : Cx) (Γ : GEnv) (e : Expr) (c : Bool) : Prop := PW X e (tVT X.K Γ c)
theorem pe_wk {X : Cx} {e : Expr} {t t' : TE} (h : PE X e t) (w : ∀ σ H Q, t' σ H Q → t σ H Q) : PE X e t' := fun pins s σ H Q I q => h pins s σ H Q I (w _ _ _ q)
theorem pt_wk {X : Cx} {e : Expr} {t t' : TT} (h : PT X e t) (w : ∀ σ H Q, t' σ H Q → t σ H Q) : PT X e t' := fun pins s σ H Q I q => h pins s σ H Q I (w _ _ _ q)
theorem pw_wk {X : Cx} {e : Expr} {t t' : TT} (h : PW X e t) (w : ∀ σ H Q, t' σ H Q → t σ H Q) : PW X e t' := fun wh pins s σ H Q I q => h wh pins s σ H Q I (w _ _ _ q)
section
variable {X : Cx} {Γ : GEnv} {α β γ : Type} [Py α] [Py β] [Py γ] {e e1 e2 e3 : Expr} {b b1 b2 b3 : Bool} {pos : Pos}
theorem E.wk {a : α} (h : E X Γ e b a) (l : b' = true → b = true) : E X Γ e b' a := by
  with_unfolding_all
    exact pe_wk h fun σ H Q ⟨H0, F, O, S, q⟩ => ⟨H0, F, O, S, fun v H' s r => q v H' s (rp_wid (fun _ _ n => Nf.le l n) r)⟩
theorem e_var (i : Nat) {a : α} {x : Str} (h : Γ[i]? = some (some (.val b a)) := by rfl) (hN : X.N[i]? = some x := by rfl) (hv : Vis X.env.scope x := by first | exact Or.inl rfl | exact Or.inr (Or.inl rfl) | exact Or.inr (Or.inr rfl))
    (hd : (x == ("__debug__" : Str)) = false := by decide) (hcd : (x == ("__classdict__" : Str)) = false := by decide) : E X Γ (.Name x pos) b a := by
  with_unfolding_all
    exact pe_wk (pv i hN hv hd hcd) fun σ H Q ⟨H0, F, O, S, q⟩ => by
        obtain ⟨v, h1, h2⟩ := S.at_ i _ h (fun z => z)
        exact ⟨v, h1, q v H (Same.refl _) h2⟩
theorem e_int {i : Int} {j : Nat} : E X Γ (.Constant (.int i) j pos) true i := by
  with_unfolding_all
    exact pe_wk pe_int fun σ H Q ⟨H0, F, O, S, q⟩ => q _ H (Same.refl _) rfl
theorem e_bl {i : Bool} {j : Nat} : E X Γ (.Constant (.bool i) j pos) true i := by
  with_unfolding_all
    exact pe_wk pe_bl fun σ H Q ⟨H0, F, O, S, q⟩ => q _ H (Same.refl _) rfl
theorem E.some {a : α} (h : E X Γ e b a) : E X Γ e b (some a) := by
  with_unfolding_all
    exact pe_wk h fun σ H Q ⟨H0, F, O, S, q⟩ => ⟨H0, F, O, S, fun v H' s r => q v H' s r⟩
theorem e_ii {op : Operator} {C : Int → Int → Prop} {g : Int → Int → Int} {i j : Int} (ho : OpR X (binaryOp op) (rI C fun i j => .int (g i j))) (ha : E X Γ e1 b1 i) (hb : E X Γ e2 b2 j) (hc : C i j) : E X Γ (.BinOp e1 op e2 pos) true (g i j) := by
  with_unfolding_all
    exact pe_wk (pe_op ho ha hb) fun σ H Q ⟨H0, F, O, S, q⟩ => ⟨H0, F, O, S, fun v H1 s1 r1 => ⟨H0, F, O, S.go s1, fun w H2 s2 r2 => ⟨i, j, r1, r2, hc, q _ H2 (s1.trans s2) rfl⟩⟩⟩
theorem e_add {i j : Int} (ha : E X Γ e1 b1 i) (hb : E X Γ e2 b2 j) : E X Γ (.BinOp e1 .Add e2 pos) true (i + j) := by
  with_unfolding_all
    exact e_ii (C := fun _ _ => True) (fun pins s σ H x y v u Q I rx ry ⟨i, j, h1, h2, _, q⟩ => op_add pins s σ H x y v u Q I rx ry ⟨i, j, h1, h2, q⟩) ha hb True.intro
theorem e_sub {i j : Int} (ha : E X Γ e1 b1 i) (hb : E X Γ e2 b2 j) : E X Γ (.BinOp e1 .Sub e2 pos) true (i - j) := by
  with_unfolding_all
    exact e_ii (C := fun _ _ => True) (fun pins s σ H x y v u Q I rx ry ⟨i, j, h1, h2, _, q⟩ => op_sub pins s σ H x y v u Q I rx ry ⟨i, j, h1, h2, q⟩) ha hb True.intro
theorem e_mul {i j : Int} (ha : E X Γ e1 b1 i) (hb : E X Γ e2 b2 j) (hc : IntMulOk i j) : E X Γ (.BinOp e1 .Mult e2 pos) true (i * j) := by
  with_unfolding_all
    exact e_ii op_mulK ha hb hc
theorem e_fdiv {i j : Int} (ha : E X Γ e1 b1 i) (hb : E X Γ e2 b2 j) (hc : CDivK i j) : E X Γ (.BinOp e1 .FloorDiv e2 pos) true (i.fdiv j) := by
  with_unfolding_all
    exact e_ii op_fdivK ha hb hc
theorem e_mod {i j : Int} (ha : E X Γ e1 b1 i) (hb : E X Γ e2 b2 j) (hc : j ≠ 0) : E X Γ (.BinOp e1 .Mod e2 pos) true (i.fmod j) := by
  with_unfolding_all
    exact e_ii op_modN ha hb hc
theorem e_pow {i j : Int} (ha : E X Γ e1 b1 i) (hb : E X Γ e2 b2 j) (hc : CPow i j) : E X Γ (.BinOp e1 .Pow e2 pos) true (i ^ j.toNat) := by
  with_unfolding_all
    exact e_ii op_pow ha hb hc
theorem e_neg {i : Int} (ha : E X Γ e1 b1 i) : E X Γ (.UnaryOp .USub e1 pos) true (-i) := by
  with_unfolding_all
    exact pe_wk (pe_un un_neg ha) fun σ H Q ⟨H0, F, O, S, q⟩ => ⟨H0, F, O, S, fun v H1 s1 r1 => ⟨i, r1, q _ H1 s1 rfl⟩⟩
def CV (X : Cx) (op : CmpOp) (x : α) (y : β) (c : Bool) : Prop := ∃ r, OpR X (compareOp op) r ∧ ∀ (N N' : Nn) (H : Hp) (u v : V) (Q : VK), Py.rp X.K N H u x → Py.rp X.K N' H v y → Q (.bl c) H → r u v H Q
theorem cv_ii {op : CmpOp} {g : Int → Int → Bool} (ho : OpR X (compareOp op) (rI0 fun i j => .bl (g i j))) (i j : Int) : CV X op i j (g i j) := ⟨_, ho, fun N N' H u v Q h1 h2 q => ⟨i, j, h1, h2, q⟩⟩
theorem cv_lt {i j : Int} : CV X .Lt i j (decide (i < j)) := cv_ii op_lt i j
theorem cv_le {i j : Int} : CV X .LtE i j (decide (i ≤ j)) := cv_ii op_le i j
theorem cv_ge {i j : Int} : CV X .GtE i j (decide (j ≤ i)) := cv_ii op_ge i j
theorem cv_eqI {i j : Int} : CV X .Eq i j (decide (i = j)) := ⟨_, op_eq, fun N N' H u v Q h1 h2 q => by
  cases h1; cases h2
  refine ⟨rfl, ?_⟩
  rw [dec_int, Bool.beq_eq_decide_eq]; exact q⟩
theorem cv_neI {i j : Int} : CV X .NotEq i j (!decide (i = j)) := ⟨_, op_ne, fun N N' H u v Q h1 h2 q => by
  cases h1; cases h2
  refine ⟨rfl, ?_⟩
  rw [dec_int, Bool.beq_eq_decide_eq]; exact q⟩
theorem cv_eq {α : Type} [PyD α] [DecidableEq α] {x y : α} (hu : X.A.units + 60 < cLine) (hd : PyD.dep α ≤ 60 := by decide) : CV X .Eq x y (decide (x = y)) := ⟨_, op_eqD hu, fun N N' H u v Q h1 h2 q => by
  refine ⟨_, _, PyD.dr h1, PyD.dr h2, PyD.lay _, PyD.lay _, Nat.le_trans (PyD.depth _) hd, ?_⟩
  have e : PyData.eqv (PyD.dat x) (PyD.dat y) = decide (x = y) := by
    by_cases h : x = y
    · rw [decide_eq_true h]; exact (PyD.eqv x y).mpr h
    · rw [decide_eq_false h]; exact Bool.eq_false_iff.mpr fun z => h ((PyD.eqv x y).mp z)
  rw [e]; exact q⟩
theorem cv_ne {α : Type} [PyD α] [DecidableEq α] {x y : α} (hu : X.A.units + 60 < cLine) (hd : PyD.dep α ≤ 60 := by decide) : CV X .NotEq x y (!decide (x = y)) := ⟨_, op_neD hu, fun N N' H u v Q h1 h2 q => by
  refine ⟨_, _, PyD.dr h1, PyD.dr h2, PyD.lay _, PyD.lay _, Nat.le_trans (PyD.depth _) hd, ?_⟩
  have e : PyData.eqv (PyD.dat x) (PyD.dat y) = decide (x = y) := by
    by_cases h : x = y
    · rw [decide_eq_true h]; exact (PyD.eqv x y).mpr h
    · rw [decide_eq_false h]; exact Bool.eq_false_iff.mpr fun z => h ((PyD.eqv x y).mp z)
  rw [e]; exact q⟩
theorem e_cmp {op : CmpOp} {x : α} {y : β} {c : Bool} (hc : CV X op x y c) (ha : E X Γ e1 b1 x) (hb : E X Γ e2 b2 y) (hm : behindInMarks op e2 = false := by first | exact nomark _ | rfl) : E X Γ (.Compare e1 [op] [e2] pos) true c := by
  with_unfolding_all
    obtain ⟨r, ho, hr⟩ := hc
    exact pe_wk (pe_cmpR ho ha hb hm) fun σ H Q ⟨H0, F, O, S, q⟩ => ⟨H0, F, O, S, fun v H1 s1 r1 => ⟨H0, F, O, S.go s1, fun w H2 s2 r2 =>
      hr _ _ H2 v w _ (rp_mono ((off_mono s2).trans (off_same _ _)) r1) (rp_mono (off_same _ _) r2) (q _ H2 (s1.trans s2) rfl)⟩⟩
theorem t_cmp {op : CmpOp} {x : α} {y : β} {c : Bool} (hc : CV X op x y c) (ha : E X Γ e1 b1 x) (hb : E X Γ e2 b2 y) (hm : behindInMarks op e2 = false := by first | exact nomark _ | rfl) : T X Γ (.Compare e1 [op] [e2] pos) c := by
  with_unfolding_all
    obtain ⟨r, ho, hr⟩ := hc
    exact pt_wk (pt_cmpR ho ha hb hm) fun σ H Q ⟨H0, F, O, S, q⟩ => ⟨H0, F, O, S, fun v H1 s1 r1 => ⟨H0, F, O, S.go s1, fun w H2 s2 r2 =>
      hr _ _ H2 v w _ (rp_mono ((off_mono s2).trans (off_same _ _)) r1) (rp_mono (off_same _ _) r2) ⟨c, rfl, q H2 (s1.trans s2)⟩⟩⟩
theorem t_isN {x : Option α} {j : Nat} {p : Pos} (ha : E X Γ e1 b1 x) (hx : ∀ (K : PySem.W.Frag) (N : Nn) (H : Hp) (a : α), ¬ Py.rp K N H .non a) : T X Γ (.Compare e1 [.Is] [.Constant .none j p] pos) x.isNone := by
  with_unfolding_all
    exact pt_wk (pt_cmp (pc_isN ha)) fun σ H Q ⟨H0, F, O, S, q⟩ => ⟨H0, F, O, S, fun v H1 s1 r1 => by
        refine ⟨decide (v = .non), rfl, ?_⟩
        have e : decide (v = .non) = x.isNone := by
          cases x with
          | none => cases r1; rfl
          | some a =>
            have hv : v ≠ .non := by rintro rfl; exact hx _ _ _ a r1
            rw [decide_eq_false hv]; rfl
        rw [e]; exact q H1 s1⟩
theorem t_val {c : Bool} (h : E X Γ e b c) (he : ∀ whole, isTrue e X.env whole = (do let v ← whole; standAt e.pos; holding [v] (truthy v)) := by intro _; rfl) : T X Γ e c := by
  with_unfolding_all
    exact pt_wk (pt_val h he) fun σ H Q ⟨H0, F, O, S, q⟩ => ⟨H0, F, O, S, fun v H1 s1 r1 => ⟨c, r1, q H1 s1⟩⟩
theorem t_not {c : Bool} (h : T X Γ e c) : T X Γ (.UnaryOp .Not e pos) (!c) := by
  with_unfolding_all
    exact pt_wk (pt_not h) fun σ H Q ⟨H0, F, O, S, q⟩ => ⟨H0, F, O, S, fun H1 s1 => q H1 s1⟩
variable {rest : List Expr}
theorem tw_and1 {c : Bool} (h : T X Γ e c) : TW X Γ (.BoolOp .And [e] pos) c := by
  with_unfolding_all
    exact pw_and1 h
theorem tw_or1 {c : Bool} (h : T X Γ e c) : TW X Γ (.BoolOp .Or [e] pos) c := by
  with_unfolding_all
    exact pw_or1 h
theorem pw_no : PW X e (fun _ _ _ => False) := fun _ _ _ _ _ _ _ h => h.elim
theorem pe_no : PE X e (fun _ _ _ => False) := fun _ _ _ _ _ _ h => h.elim
theorem tw_and {c c' : Bool} (h : T X Γ e1 c) (h' : c = true → TW X Γ (.BoolOp .And (e2 :: rest) pos) c') : TW X Γ (.BoolOp .And (e1 :: e2 :: rest) pos) (c && c') := by
  with_unfolding_all
    cases c with
    | true => exact pw_wk (pw_and h (h' rfl)) fun σ H Q ⟨H0, F, O, S, q⟩ => ⟨H0, F, O, S, fun H1 s1 => iteT ⟨H0, F, O, S.go s1, fun H2 s2 => q H2 (s1.trans s2)⟩⟩
    | false => exact pw_wk (pw_and h pw_no) fun σ H Q ⟨H0, F, O, S, q⟩ => ⟨H0, F, O, S, fun H1 s1 => iteF (q H1 s1)⟩
theorem tw_or {c c' : Bool} (h : T X Γ e1 c) (h' : c = false → TW X Γ (.BoolOp .Or (e2 :: rest) pos) c') : TW X Γ (.BoolOp .Or (e1 :: e2 :: rest) pos) (c || c') := by
  with_unfolding_all
    cases c with
    | false => exact pw_wk (pw_or h (h' rfl)) fun σ H Q ⟨H0, F, O, S, q⟩ => ⟨H0, F, O, S, fun H1 s1 => iteF ⟨H0, F, O, S.go s1, fun H2 s2 => q H2 (s1.trans s2)⟩⟩
    | true => exact pw_wk (pw_or h pw_no) fun σ H Q ⟨H0, F, O, S, q⟩ => ⟨H0, F, O, S, fun H1 s1 => iteT (q H1 s1)⟩
theorem TW.t {c : Bool} (h : TW X Γ e c) : T X Γ e c := by
  with_unfolding_all
    exact h.pt
theorem e_one {op : BoolOp} {a : α} (h : E X Γ e b a) : E X Γ (.BoolOp op [e] pos) b a := by
  with_unfolding_all
    exact pe_one h
theorem e_and {c c' : Bool} (h : E X Γ e1 b1 c) (h' : c = true → E X Γ (.BoolOp .And (e2 :: rest) pos) b2 c') : E X Γ (.BoolOp .And (e1 :: e2 :: rest) pos) true (c && c') := by
  with_unfolding_all
    cases c with
    | true => exact pe_wk (pe_and h (h' rfl)) fun σ H Q ⟨H0, F, O, S, q⟩ => ⟨H0, F, O, S, fun v H1 s1 r1 => ⟨true, r1, iteT ⟨H0, F, O, S.go s1, fun w H2 s2 r2 => q w H2 (s1.trans s2) r2⟩⟩⟩
    | false => exact pe_wk (pe_and h pe_no) fun σ H Q ⟨H0, F, O, S, q⟩ => ⟨H0, F, O, S, fun v H1 s1 r1 => ⟨false, r1, iteF (q _ H1 s1 rfl)⟩⟩
theorem e_not {c : Bool} (h : E X Γ e b c) : E X Γ (.UnaryOp .Not e pos) true (!c) := by
  with_unfolding_all
    exact pe_wk (pe_not h) fun σ H Q ⟨H0, F, O, S, q⟩ => ⟨H0, F, O, S, fun v H1 s1 r1 => ⟨c, r1, q _ H1 s1 rfl⟩⟩
theorem e_if {c : Bool} {x y : α} (hc : T X Γ e c) (ha : c = true → E X Γ e1 b x) (hb : c = false → E X Γ e2 b y) : E X Γ (.IfExp e e1 e2 pos) b (if c then x else y) := by
  with_unfolding_all
    cases c with
    | true => exact pe_wk (pe_ifExp hc (ha rfl) pe_no) fun σ H Q ⟨H0, F, O, S, q⟩ => ⟨H0, F, O, S, fun H1 s1 => iteT ⟨H0, F, O, S.go s1, fun w H2 s2 r2 => q w H2 (s1.trans s2) r2⟩⟩
    | false => exact pe_wk (pe_ifExp hc pe_no (hb rfl)) fun σ H Q ⟨H0, F, O, S, q⟩ => ⟨H0, F, O, S, fun H1 s1 => iteF ⟨H0, F, O, S.go s1, fun w H2 s2 r2 => q w H2 (s1.trans s2) r2⟩⟩
theorem nf_and1 {H0 H : Hp} {p : Addr} {xs : Mt} (h : (Nf H0 b1).has H p xs) : (Nf H0 (b1 && b2)).has H p xs := Nf.le (fun z => (Bool.and_eq_true_iff.mp z).1) h
theorem nf_and2 {H0 H : Hp} {p : Addr} {xs : Mt} (h : (Nf H0 b2).has H p xs) : (Nf H0 (b1 && b2)).has H p xs := Nf.le (fun z => (Bool.and_eq_true_iff.mp z).2) h
theorem laid_tup {K : PySem.W.Frag} {H0 H : Hp} {F O : Addr → Prop} {Γ : GEnv} {σ : St} {p : Addr} {xs : List V} (S : Sta K H0 F O Γ σ H) (hp : H p = none) : Same H (upd H p (.tup xs)) ∧ Rt (off (upd H p (.tup xs)) O) p xs := by
  with_unfolding_all
    exact ⟨same_upd hp _, .inl (by rw [off_get (S.notOwn hp)]; exact upd_same)⟩
theorem laid_lst {K : PySem.W.Frag} {H0 H : Hp} {F O : Addr → Prop} {Γ : GEnv} {σ : St} {p : Addr} {xs : List V} (S : Sta K H0 F O Γ σ H) (hp : H p = none) : Same H (upd H p (.lst xs)) ∧ off (upd H p (.lst xs)) O p = some (.lst xs) := by
  with_unfolding_all
    exact ⟨same_upd hp _, by rw [off_get (S.notOwn hp)]; exact upd_same⟩
theorem e_tup2 {x : α} {y : β} {k : Nat} (ha : E X Γ e1 b1 x) (hb : E X Γ e2 b2 y) (hs : starEach [e1, e2] X.env = (false, eval e1 X.env) :: starEach [e2] X.env := by rfl) (hs2 : starEach [e2] X.env = (false, eval e2 X.env) :: starEach [] X.env := by rfl) :
    E X Γ (.Tuple [e1, e2] k pos) (b1 && b2) (x, y) := by
  with_unfolding_all
    exact pe_wk (pe_tup (pa_cons ha (pa_cons hb pa_nil hs2) hs)) fun σ H Q ⟨H0, F, O, S, q⟩ => ⟨H0, F, O, S, fun v H1 s1 r1 => ⟨H0, F, O, S.go s1, fun w H2 s2 r2 => ⟨by show 2 ≤ sizeLine; decide, fun p hp => by
        obtain ⟨z1, z2⟩ := laid_tup (xs := [v, w]) ((S.go s1).go s2) hp
        refine q _ _ (s1.trans (s2.trans z1)) ⟨p, v, w, rfl, z2, ?_, ?_⟩
        · exact rp_wid (fun _ _ n => nf_and1 n) (rp_mono ((off_mono s2).trans (off_mono z1)) r1)
        · exact rp_wid (fun _ _ n => nf_and2 n) (rp_mono (off_mono z1) r2)⟩⟩⟩
@[irreducible] def EA (X : Cx) (Γ : GEnv) (es : List Expr) (b : Bool) (as : List α) : Prop :=
  PA X es fun σ H Q => ∃ H0 F O, Sta X.K H0 F O Γ σ H ∧ ∀ vs H', Same H H' → Paired (fun x a => Py.rp X.K (Nf H0 b) (off H' O) x a) vs as → Q vs H'
theorem pa_wk {X : Cx} {es : List Expr} {t t' : TA} (h : PA X es t) (w : ∀ σ H Q, t' σ H Q → t σ H Q) : PA X es t' := fun p pins s σ H Q I q => h p pins s σ H Q I (w _ _ _ q)
theorem ea_nil : EA X Γ [] b ([] : List α) := by
  with_unfolding_all
    exact pa_wk pa_nil fun σ H Q ⟨H0, F, O, S, q⟩ => q [] H (Same.refl _) .nil
theorem ea_cons {es : List Expr} {a : α} {as : List α} (h : E X Γ e b a) (h' : EA X Γ es b as) (hs : starEach (e :: es) X.env = (false, eval e X.env) :: starEach es X.env := by rfl) : EA X Γ (e :: es) b (a :: as) := by
  with_unfolding_all
    exact pa_wk (pa_cons h h' hs) fun σ H Q ⟨H0, F, O, S, q⟩ => ⟨H0, F, O, S, fun v H1 s1 r1 => ⟨H0, F, O, S.go s1, fun vs H2 s2 r2 => q _ H2 (s1.trans s2) (.cons (rp_mono (off_mono s2) r1) r2)⟩⟩
theorem e_lst {es : List Expr} {as : List α} (h : EA X Γ es b as) (hl : as.length ≤ 1000) : E X Γ (.List es pos) b as := by
  with_unfolding_all
    exact pe_wk (pe_lst h) fun σ H Q ⟨H0, F, O, S, q⟩ => ⟨H0, F, O, S, fun vs H1 s1 r1 => ⟨by rw [pr_len r1]; exact Nat.le_of_lt (small1000 hl), fun p hp => by
        obtain ⟨z1, z2⟩ := laid_lst (xs := vs) (S.go s1) hp
        exact q _ _ (s1.trans z1) ⟨p, vs, rfl, SqL.of z2, Nf.wk ((S.go s1).free0 hp) z2, pr_imp (fun _ _ r => rp_mono (off_mono z1) r) r1⟩⟩⟩
theorem e_ixL {xs : List α} {i : Int} {a : α} (ha : E X Γ e1 b xs) (hb : E X Γ e2 b2 i) (h : atI xs i = some a) (hs : PlainIx e2 := by intro _ _; rfl) : E X Γ (.Subscript e1 e2 pos) b a := by
  with_unfolding_all
    exact pe_wk (pe_ix ix_list ha hb hs) fun σ H Q ⟨H0, F, O, S, q⟩ => ⟨H0, F, O, S, fun v H1 s1 r1 => ⟨H0, F, O, S.go s1, fun w H2 s2 r2 => by
        obtain ⟨p, vs, e, sq, n, r⟩ := r1
        obtain ⟨j, h1, h2, h3, h4, h5⟩ := atI_get h
        obtain ⟨x, g1, g2⟩ := pr_get r h2
        refine ⟨p, vs, i, x, e, r2, (off_same _ _).seq ((off_mono s2).seq sq), ?_, q x H2 (s1.trans s2) (rp_mono (off_mono s2) g2)⟩
        unfold atI at h ⊢
        rw [pr_len r]
        cases hx : ixN xs.length i with
        | none => rw [hx] at h; cases h
        | some k =>
          have hk := (ixN_seq hx).1
          rw [h1] at hk; cases hk
          exact g1⟩⟩
theorem e_fst {u : α × β} {j : Nat} {p' : Pos} (ha : E X Γ e1 b u) : E X Γ (.Subscript e1 (.Constant (.int 0) j p') pos) b u.1 := by
  with_unfolding_all
    exact pe_wk (pe_ix ix_tup ha e_int (fun _ _ => rfl)) fun σ H Q ⟨H0, F, O, S, q⟩ => ⟨H0, F, O, S, fun v H1 s1 r1 => ⟨H0, F, O, S.go s1, fun w H2 s2 r2 => by
        obtain ⟨p, u, w', e, sq, g1, g2⟩ := r1
        exact ⟨p, _, 0, u, e, r2, sqT_rd (off_same _ _) (Same.rt (off_mono s2) sq), rfl, q u H2 (s1.trans s2) (rp_mono (off_mono s2) g1)⟩⟩⟩
theorem e_snd {u : α × β} {j : Nat} {p' : Pos} (ha : E X Γ e1 b u) : E X Γ (.Subscript e1 (.Constant (.int 1) j p') pos) b u.2 := by
  with_unfolding_all
    exact pe_wk (pe_ix ix_tup ha e_int (fun _ _ => rfl)) fun σ H Q ⟨H0, F, O, S, q⟩ => ⟨H0, F, O, S, fun v H1 s1 r1 => ⟨H0, F, O, S.go s1, fun w H2 s2 r2 => by
        obtain ⟨p, u, w', e, sq, g1, g2⟩ := r1
        exact ⟨p, _, 1, w', e, r2, sqT_rd (off_same _ _) (Same.rt (off_mono s2) sq), rfl, q w' H2 (s1.trans s2) (rp_mono (off_mono s2) g2)⟩⟩⟩
theorem e_abs {i : Int} {p : Pos} (hg : Gl X "abs") (hm : X.mg "abs" = none) (ha : E X Γ e b i) (hs : starEach [e] X.env = (false, eval e X.env) :: starEach [] X.env := by rfl) : E X Γ (.Call (.Name "abs" p) [e] [] pos) true (if i < 0 then -i else i) := by
  with_unfolding_all
    exact pe_wk (pe_callB call_abs hg hm boot_abs (pa_cons ha pa_nil hs) (he := hs)) fun σ H Q ⟨H0, F, O, S, q⟩ => ⟨H0, F, O, S, fun v H1 s1 r1 => ⟨i, by cases r1; rfl, q _ H1 s1 rfl⟩⟩
theorem e_min {i j : Int} {p : Pos} (hc : X.calm = true) (hg : Gl X "min") (hm : X.mg "min" = none) (ha : E X Γ e1 b1 i) (hb : E X Γ e2 b2 j) (hs : starEach [e1, e2] X.env = (false, eval e1 X.env) :: starEach [e2] X.env := by rfl) (hs2 : starEach [e2] X.env = (false, eval e2 X.env) :: starEach [] X.env := by rfl) (hpl : (backTo pos (starEach [e2] X.env)).any (·.1) = false := by rfl) :
    E X Γ (.Call (.Name "min" p) [e1, e2] [] pos) true (if j < i then j else i) := by
  with_unfolding_all
    exact pe_wk (pe_callB (call_min2 hc) hg hm boot_min (pa_cons ha (pa_cons hb pa_nil hs2) hs) (he := hs) (hpl := hpl)) fun σ H Q ⟨H0, F, O, S, q⟩ => ⟨H0, F, O, S, fun v H1 s1 r1 => ⟨H0, F, O, S.go s1, fun w H2 s2 r2 => ⟨i, j, by cases r1; cases r2; rfl, q _ H2 (s1.trans s2) rfl⟩⟩⟩
theorem e_lenL {xs : List α} {p : Pos} (hg : Gl X "len") (hm : X.mg "len" = none) (ha : E X Γ e b xs) (hs : starEach [e] X.env = (false, eval e X.env) :: starEach [] X.env := by rfl) : E X Γ (.Call (.Name "len" p) [e] [] pos) true (xs.length : Int) := by
  with_unfolding_all
    exact pe_wk (pe_callB call_len_seq hg hm PySem.boot_len (pa_cons ha pa_nil hs) (he := hs)) fun σ H Q ⟨H0, F, O, S, q⟩ => ⟨H0, F, O, S, fun v H1 s1 r1 => by
        obtain ⟨p, vs, e, sq, n, r⟩ := r1
        refine ⟨p, vs, by rw [e], .inl ((off_same _ _).seq sq), q _ H1 s1 ?_⟩
        show V.int _ = V.int _
        rw [pr_len r]⟩
end
structure GD where
  nx : GEnv → Prop
  rt : Bd → Prop
  bk : GEnv → Prop := fun _ => False
  ct : GEnv → Prop := fun _ => False
def Bd.okR (K : PySem.W.Frag) (H0 : Hp) (F : Addr → Prop) (H : Hp) (v : V) : Bd → Prop
  | @Bd.val _ _ b a => Py.rp K (Nf H0 b) (off H F) v a
  | @Bd.own _ _ _ _ => False
  | @Bd.dpo _ _ _ => False
def tG (K : PySem.W.Frag) (Γ : GEnv) (D : GD) : TS := fun De σ H => ∃ H0 F O, Sta K H0 F O Γ σ H ∧
  (∀ Γ' σ' H' O', Same (off H O) (off H' O') → Sta K H0 F O' Γ' σ' H' → D.nx Γ' → De.nx σ' H') ∧
  (∀ g v H', Same H0 H' → Bd.okR K H0 F H' v g → D.rt g → De.rt v H') ∧
  (∀ Γ' σ' H' O', Same (off H O) (off H' O') → Sta K H0 F O' Γ' σ' H' → D.bk Γ' → De.bk σ' H') ∧
  (∀ Γ' σ' H' O', Same (off H O) (off H' O') → Sta K H0 F O' Γ' σ' H' → D.ct Γ' → De.ct σ' H')
@[irreducible] def S (X : Cx) (Γ : GEnv) (st : List Stmt) (D : GD) : Prop := PSs X st (tG X.K Γ D)
@[irreducible] def S1 (X : Cx) (Γ : GEnv) (st : Stmt) (D : GD) : Prop := PS X st (tG X.K Γ D)
theorem ps_wk {X : Cx} {st : Stmt} {t t' : TS} (h : PS X st t) (w : ∀ D σ H, t' D σ H → t D σ H) : PS X st t' := fun pins s σ H D I q => h pins s σ H D I (w _ _ _ q)
theorem pss_wk {X : Cx} {st : List Stmt} {t t' : TS} (h : PSs X st t) (w : ∀ D σ H, t' D σ H → t D σ H) : PSs X st t' := fun pins s σ H D I q => h pins s σ H D I (w _ _ _ q)
section
variable {X : Cx} {Γ : GEnv} {D : GD} {α β γ : Type} [Py α] [Py β] [Py γ] {e e1 e2 e3 : Expr} {b b1 b2 b3 : Bool} {pos : Pos} {st : Stmt} {rest body orelse : List Stmt}
theorem s_nil (h : D.nx Γ) : S X Γ [] D := by
  with_unfolding_all
    exact pss_wk pss_nil fun De σ H ⟨H0, F, O, Z, n, _⟩ => n Γ σ H O (Same.refl _) Z h
theorem pss_some {X : Cx} {st : List Stmt} {ι : Type 1} {P : ι → Prop} {t : ι → TS} (h : ∀ i, P i → PSs X st (t i)) : PSs X st (fun D σ H => ∃ i, P i ∧ t i D σ H) := fun pins s σ H D I ⟨i, p, q⟩ => h i p pins s σ H D I q
theorem s_seq (h : S1 X Γ st { D with nx := fun Γ' => S X Γ' rest D }) : S X Γ (st :: rest) D := by
  with_unfolding_all
    exact pss_wk (pss_cons h (pss_some (ι := GEnv) (P := fun Γ' => S X Γ' rest D) (t := fun Γ' => tG X.K Γ' D) fun _ q => q)) fun De σ H ⟨H0, F, O, Z, n, r, bk, ct⟩ =>
        ⟨H0, F, O, Z, fun Γ' σ' H' O' sm Z' q => ⟨Γ', q, H0, F, O', Z', fun Γ2 σ2 H2 O2 sm2 Z2 q2 => n Γ2 σ2 H2 O2 (sm.trans sm2) Z2 q2, r, fun Γ2 σ2 H2 O2 sm2 Z2 q2 => bk Γ2 σ2 H2 O2 (sm.trans sm2) Z2 q2,
          fun Γ2 σ2 H2 O2 sm2 Z2 q2 => ct Γ2 σ2 H2 O2 (sm.trans sm2) Z2 q2⟩, r, bk, ct⟩
theorem s_asg (i : Nat) {x : Str} {a : α} {p : Pos} (hN : X.N.Nodup) (he : E X Γ e b a) (h : S X (Γ.set i (some (.val b a))) rest D) (hi : X.N[i]? = some x := by rfl) (hx : Loc X.env.scope x := by first | exact Or.inl rfl | exact Or.inr rfl)
    (hs : swapsWith e (some (.Name x p)) pos.line X.env = pure false := by rfl) (hf : X.fn x = true ∨ X.env.scope.names.lookup x = some .local := by first | exact .inl rfl | exact .inr rfl) : S X Γ (.Assign [.Name x p] e pos :: rest) D := by
  with_unfolding_all
    exact s_seq (ps_wk (ps_set hN hi hx he hs hf) fun De σ H ⟨H0, F, O, Z, n, _⟩ => ⟨H0, F, O, Z, fun v H1 s1 r1 => n _ _ H1 O (off_mono s1) ((Z.go s1).set r1) h⟩)
theorem s_expr {a : α} (he : E X Γ e b a) (h : S X Γ rest D) (hs : swapsWith e none pos.line X.env = pure false := by rfl) : S X Γ (.Expr e pos :: rest) D := by
  with_unfolding_all
    exact s_seq (ps_wk (ps_expr he hs) fun De σ H ⟨H0, F, O, Z, n, _⟩ => ⟨H0, F, O, Z, fun v H1 s1 r1 => n Γ σ H1 O (off_mono s1) (Z.go s1) h⟩)
theorem s_ret {a : α} (he : E X Γ e b a) (h : D.rt (.val b a)) : S X Γ (.Return (some e) pos :: rest) D := by
  with_unfolding_all
    exact s_seq (ps_wk (ps_ret he) fun De σ H ⟨H0, F, O, Z, n, r, _⟩ => ⟨H0, F, O, Z, fun v H1 s1 r1 => r (.val b a) v H1 ((Z.go s1).same) (rp_mono (off_less Z.fo) r1) h⟩)
theorem s_if {c : Bool} (hc : T X Γ e c) (h1 : c = true → S X Γ body { D with nx := fun Γ' => S X Γ' rest D }) (h2 : c = false → S X Γ orelse { D with nx := fun Γ' => S X Γ' rest D }) : S X Γ (.If e body orelse pos :: rest) D := by
  with_unfolding_all
    cases c with
    | true => exact s_seq (ps_wk (ps_if hc (h1 rfl) pss_never) fun De σ H ⟨H0, F, O, Z, n, r, bk, ct⟩ => ⟨H0, F, O, Z, fun H1 s1 => iteT ⟨H0, F, O, Z.go s1, fun Γ2 σ2 H2 O2 sm => n Γ2 σ2 H2 O2 ((off_mono s1).trans sm), r, fun Γ2 σ2 H2 O2 sm => bk Γ2 σ2 H2 O2 ((off_mono s1).trans sm), fun Γ2 σ2 H2 O2 sm => ct Γ2 σ2 H2 O2 ((off_mono s1).trans sm)⟩⟩)
    | false => exact s_seq (ps_wk (ps_if hc pss_never (h2 rfl)) fun De σ H ⟨H0, F, O, Z, n, r, bk, ct⟩ => ⟨H0, F, O, Z, fun H1 s1 => iteF ⟨H0, F, O, Z.go s1, fun Γ2 σ2 H2 O2 sm => n Γ2 σ2 H2 O2 ((off_mono s1).trans sm), r, fun Γ2 σ2 H2 O2 sm => bk Γ2 σ2 H2 O2 ((off_mono s1).trans sm), fun Γ2 σ2 H2 O2 sm => ct Γ2 σ2 H2 O2 ((off_mono s1).trans sm)⟩⟩)
theorem s_if1 {c : Bool} (hc : T X Γ e c) (h1 : c = true → S X Γ body { D with nx := fun Γ' => S X Γ' rest D }) (h2 : c = false → S X Γ rest D) : S X Γ (.If e body [] pos :: rest) D := by
  with_unfolding_all
    exact s_if hc h1 fun z => s_nil (h2 z)

def bodyT (X : Cx) (body : List Stmt) : TS := fun De σ H => ∃ Γ', ∃ D', S X Γ' body D' ∧ tG X.K Γ' D' De σ H
theorem bodyT_ok : PSs X body (bodyT X body) := by
  with_unfolding_all
    exact fun pins s σ H De I ⟨Γ', D', t, q⟩ => (show PSs X body (tG X.K Γ' D') from t) pins s σ H De I q
theorem s_while {ι : Type} (J : ι → GEnv → Prop) (μ : ι → Nat) (i0 : ι) (h0 : J i0 Γ) (ht : ∀ i Γ', J i Γ' → ∃ c, T X Γ' e c ∧ (c = true → S X Γ' body { D with nx := fun Γ2 => ∃ j, J j Γ2 ∧ μ j < μ i, ct := fun Γ2 => ∃ j, J j Γ2 ∧ μ j < μ i, bk := fun Γ2 => S X Γ2 rest D }) ∧ (c = false → S X Γ' rest D))
    (hp : PassesOwn (model X.prog X.w) X.A X.env X.xe := by exact PassesOwn.never) : S X Γ (.While e body [] pos :: rest) D := by
  with_unfolding_all
    refine s_seq (ps_wk (ps_while (tc := fun σ H Q => ∃ Γ', ∃ c, T X Γ' e c ∧ tVT X.K Γ' c σ H Q) (tb := bodyT X body) hp
      (fun pins s σ H Q I ⟨Γ', c, t, q⟩ => (show PT X e (tVT X.K Γ' c) from t) pins s σ H Q I q) bodyT_ok) fun De σ H ⟨H0, F, O, Z, n, r, bk, ct⟩ => ?_)
    refine ⟨fun m σ' H' => ∃ i Γ' O', Same (off H O) (off H' O') ∧ Sta X.K H0 F O' Γ' σ' H' ∧ J i Γ' ∧ m = μ i, ⟨_, i0, Γ, O, Same.refl _, Z, h0, rfl⟩, ?_⟩
    rintro m σ' H' ⟨i, Γ', O', sm, Z', j, rfl⟩
    obtain ⟨c, t, ht1, ht2⟩ := ht i Γ' j
    refine ⟨Γ', c, t, H0, F, O', Z', fun H1 s1 => ?_⟩
    cases c with
    | true =>
      refine iteT ⟨fun σ2 H2 => ∃ i2 Γ2 O2, Same (off H O) (off H2 O2) ∧ Sta X.K H0 F O2 Γ2 σ2 H2 ∧ J i2 Γ2 ∧ μ i2 < μ i, fun σ2 H2 ⟨i2, Γ2, O2, sm2, Z2, j2, l⟩ => ⟨μ i2, l, i2, Γ2, O2, sm2, Z2, j2, rfl⟩, Γ', _, ht1 rfl, H0, F, O', Z'.go s1, ?_, r, ?_, ?_⟩
      · exact fun Γ2 σ2 H2 O2 sm2 Z2 ⟨i2, q1, q2⟩ => ⟨i2, Γ2, O2, sm.trans ((off_mono s1).trans sm2), Z2, q1, q2⟩
      · exact fun Γ2 σ2 H2 O2 sm2 Z2 q => n Γ2 σ2 H2 O2 (sm.trans ((off_mono s1).trans sm2)) Z2 q
      · exact fun Γ2 σ2 H2 O2 sm2 Z2 ⟨i2, q1, q2⟩ => ⟨i2, Γ2, O2, sm.trans ((off_mono s1).trans sm2), Z2, q1, q2⟩
    | false => exact iteF (n Γ' σ' H1 O' (sm.trans (off_mono s1)) (Z'.go s1) (ht2 rfl))
def GP (g : TG) (α : Type) [Py α] (put : Bool → α → GEnv → GEnv) (tc : Nat → Prop) (K : PySem.W.Frag) : Prop :=
  ∀ (b : Bool) (a : α) (H0 : Hp) (F O : Addr → Prop) (Γ : GEnv) (σ : St) (H : Hp) (v : V) (Q : St → Hp → Prop), Sta K H0 F O Γ σ H → Py.rp K (Nf H0 b) (off H O) v a →
    (∀ σ', Sta K H0 F O (put b a Γ) σ' H → σ'.length = σ.length → (∀ j, ¬ tc j → σ'[j]? = σ[j]?) → Q σ' H) → g v σ H Q
def G (X : Cx) (tg : Expr) (g : TG) (α : Type) [Py α] (put : Bool → α → GEnv → GEnv) (tc : Nat → Prop) : Prop := PG X tg g ∧ GP g α put tc X.K
theorem gp_name (i : Nat) {K : PySem.W.Frag} : GP (gName i) α (fun b a Γ => Γ.set i (some (.val b a))) (· = i) K := fun b a H0 F O Γ σ H v Q Z r q => q _ (Z.set r) (List.length_set ..) fun j hj => get_set_ne hj
theorem g_name (i : Nat) {x : Str} (hN : X.N.Nodup) (hi : X.N[i]? = some x := by rfl) (hx : Loc X.env.scope x := by first | exact Or.inl rfl | exact Or.inr rfl) (hf : X.fn x = true ∨ X.env.scope.names.lookup x = some .local := by first | exact .inl rfl | exact .inr rfl) :
    G X (.Name x pos) (gName i) α (fun b a Γ => Γ.set i (some (.val b a))) (· = i) := ⟨pg_name hN hi hx hf, gp_name i⟩
end
section
variable {X : Cx} {Γ : GEnv} {D : GD} {α β γ δ : Type} [Py α] [Py β] [Py γ] [Py δ] {e e1 e2 e3 : Expr} {b b1 b2 b3 : Bool} {pos : Pos} {st : Stmt} {rest body orelse : List Stmt} {tg : Expr} {g : TG} {tc : Nat → Prop}
theorem s_forRange {put : Bool → Int → GEnv → GEnv} {n : Int} {p ps : Pos} (J : Nat → GEnv → Prop) (hg : Gl X "range") (hm : X.mg "range" = none) (hG : G X tg g Int put tc) (he : E X Γ e b n) (h1 : -(2 ^ 62) ≤ n) (h2 : n < 2 ^ 62) (h0 : J 0 Γ)
    (ht : ∀ (i : Nat) Γ', i < n.toNat → J i Γ' → S X (put true (i : Int) Γ') body { D with nx := J (i + 1), ct := J (i + 1), bk := fun Γ2 => S X Γ2 rest D }) (hd : ∀ Γ', J n.toNat Γ' → S X Γ' rest D)
    (hc : X.calm = true := by rfl) (hp : PassesOwn (model X.prog X.w) X.A X.env X.xe := by exact PassesOwn.never) (hs : starEach [e] X.env = [(false, eval e X.env)] := by rfl) (hs1 : starEach [e] X.env = (false, eval e X.env) :: starEach [] X.env := by rfl)
    (hfs : ∀ x, foldedSetIterable (.Call (.Name "range" p) [e] [] ps) X.env x = pure x := by intro _; rfl) : S X Γ (.For tg (.Call (.Name "range" p) [e] [] ps) body [] pos :: rest) D := by
  with_unfolding_all
    refine s_seq (ps_wk (ps_for hp hc (pi_range1 hg hm (pa_cons he pa_nil hs1) hs) hG.1 (tb := bodyT X body) bodyT_ok hfs) fun De σ H ⟨H0, F, O, Z, nx, r, bk, ct⟩ => ?_)
    refine ⟨H0, F, O, Z, fun v H1 s1 r1 => ⟨n, by cases r1; rfl, h1, h2, for_range (lo := 0) (n := n.toNat) (g := g) (tb := bodyT X body) (D := De) (fun i σ' H' => ∃ Γ' O', Same (off H O) (off H' O') ∧ Sta X.K H0 F O' Γ' σ' H' ∧ J i Γ') ⟨Γ, O, off_mono s1, Z.go s1, h0⟩ ?_ ?_⟩⟩
    · rintro i σ' H' hi ⟨Γ', O', sm, Z', j⟩
      refine hG.2 true (i : Int) H0 F O' Γ' σ' H' _ _ Z' (by show V.int _ = V.int _; rw [Int.zero_add]) fun σ2 Z2 _ _ => ?_
      refine ⟨_, _, ht i Γ' hi j, H0, F, O', Z2, ?_, r, ?_, ?_⟩
      · exact fun Γ2 σ2 H2 O2 sm2 Z2 q => ⟨Γ2, O2, sm.trans sm2, Z2, q⟩
      · exact fun Γ2 σ2 H2 O2 sm2 Z2 q => nx Γ2 σ2 H2 O2 (sm.trans sm2) Z2 q
      · exact fun Γ2 σ2 H2 O2 sm2 Z2 q => ⟨Γ2, O2, sm.trans sm2, Z2, q⟩
    · rintro σ' H' ⟨Γ', O', sm, Z', j⟩
      exact nx Γ' σ' H' O' sm Z' (hd Γ' j)
theorem s_forRange3 {put : Bool → Int → GEnv → GEnv} {lo n c : Int} {p ps : Pos} (J : Nat → GEnv → Prop) (hg : Gl X "range") (hm : X.mg "range" = none) (hG : G X tg g Int put tc) (he1 : E X Γ e1 b1 lo) (he2 : E X Γ e2 b2 n) (he3 : E X Γ e3 b3 c) (hb : -(2 ^ 62) ≤ lo ∧ lo < 2 ^ 62 ∧ -(2 ^ 62) ≤ n ∧ n < 2 ^ 62) (hcc : c ≠ 0 ∧ -1000 ≤ c ∧ c ≤ 1000) (h0 : J 0 Γ)
    (ht : ∀ (i : Nat) Γ', i < (Builtin.Range.rangeSize lo n c).toNat → J i Γ' → S X (put true (lo + i * c : Int) Γ') body { D with nx := J (i + 1), ct := J (i + 1), bk := fun Γ2 => S X Γ2 rest D }) (hd : ∀ Γ', J (Builtin.Range.rangeSize lo n c).toNat Γ' → S X Γ' rest D)
    (hc : X.calm = true := by rfl) (hp : PassesOwn (model X.prog X.w) X.A X.env X.xe := by exact PassesOwn.never)
    (hs1 : starEach [e1, e2, e3] X.env = (false, eval e1 X.env) :: starEach [e2, e3] X.env := by rfl) (hs2 : starEach [e2, e3] X.env = (false, eval e2 X.env) :: starEach [e3] X.env := by rfl) (hs3 : starEach [e3] X.env = (false, eval e3 X.env) :: starEach [] X.env := by rfl)
    (hpl : (backTo ps (starEach [e2, e3] X.env)).any (·.1) = false := by rfl) (hfs : ∀ x, foldedSetIterable (.Call (.Name "range" p) [e1, e2, e3] [] ps) X.env x = pure x := by intro _; rfl) : S X Γ (.For tg (.Call (.Name "range" p) [e1, e2, e3] [] ps) body [] pos :: rest) D := by
  with_unfolding_all
    refine s_seq (ps_wk (ps_for hp hc (pi_range3 hg hm (pa_cons he1 (pa_cons he2 (pa_cons he3 pa_nil hs3) hs2) hs1) hs1 hpl) hG.1 (tb := bodyT X body) bodyT_ok hfs) fun De σ H ⟨H0, F, O, Z, nx, r, bk, ct⟩ => ?_)
    refine ⟨H0, F, O, Z, fun v H1 s1 r1 => ⟨H0, F, O, Z.go s1, fun v' H2 s2 r2 => ⟨H0, F, O, Z.go (s1.trans s2), fun v'' H3 s3 r3 => ⟨lo, n, c, by cases r1; cases r2; cases r3; rfl, hb, hcc, for_rangeC (lo := lo) (c := c) (n := (Builtin.Range.rangeSize lo n c).toNat) (g := g) (tb := bodyT X body) (D := De) (fun i σ' H' => ∃ Γ' O', Same (off H O) (off H' O') ∧ Sta X.K H0 F O' Γ' σ' H' ∧ J i Γ') ⟨Γ, O, off_mono (s1.trans (s2.trans s3)), Z.go (s1.trans (s2.trans s3)), h0⟩ ?_ ?_⟩⟩⟩⟩
    · rintro i σ' H' hi ⟨Γ', O', sm, Z', j⟩
      refine hG.2 true (lo + i * c : Int) H0 F O' Γ' σ' H' _ _ Z' rfl fun σ2 Z2 _ _ => ?_
      refine ⟨_, _, ht i Γ' hi j, H0, F, O', Z2, ?_, r, ?_, ?_⟩
      · exact fun Γ2 σ2 H2 O2 sm2 Z2 q => ⟨Γ2, O2, sm.trans sm2, Z2, q⟩
      · exact fun Γ2 σ2 H2 O2 sm2 Z2 q => nx Γ2 σ2 H2 O2 (sm.trans sm2) Z2 q
      · exact fun Γ2 σ2 H2 O2 sm2 Z2 q => ⟨Γ2, O2, sm.trans sm2, Z2, q⟩
    · rintro σ' H' ⟨Γ', O', sm, Z', j⟩
      exact nx Γ' σ' H' O' sm Z' (hd Γ' j)
theorem s_forL {put : Bool → α → GEnv → GEnv} {xs : List α} (J : Nat → GEnv → Prop) (hG : G X tg g α put tc) (he : E X Γ e b xs) (h0 : J 0 Γ)
    (ht : ∀ (i : Nat) (a : α) Γ', xs[i]? = some a → J i Γ' → S X (put b a Γ') body { D with nx := J (i + 1), ct := J (i + 1), bk := fun Γ2 => S X Γ2 rest D }) (hd : ∀ Γ', J xs.length Γ' → S X Γ' rest D)
    (hc : X.calm = true := by rfl) (hp : PassesOwn (model X.prog X.w) X.A X.env X.xe := by exact PassesOwn.never)
    (hfs : ∀ x, foldedSetIterable e X.env x = pure x := by intro _; rfl) : S X Γ (.For tg e body [] pos :: rest) D := by
  with_unfolding_all
    refine s_seq (ps_wk (ps_for hp hc (pi_list he) hG.1 (tb := bodyT X body) bodyT_ok hfs) fun De σ H ⟨H0, F, O, Z, nx, r, bk, ct⟩ => ?_)
    refine ⟨H0, F, O, Z, fun v H1 s1 r1 => ?_⟩
    obtain ⟨p, vs, e, sq, nn, rr⟩ := r1
    refine ⟨p, e, ⟨vs, (off_same _ _).seq sq⟩, for_list (K := X.K) (a := p) (xs := vs) (g := g) (tb := bodyT X body) (D := De) (fun i σ' H' => ∃ Γ' O', Same (off H1 O) (off H' O') ∧ Sta X.K H0 F O' Γ' σ' H' ∧ J i Γ') ⟨Γ, O, Same.refl _, Z.go s1, h0⟩ ?_ ?_ ?_⟩
    · rintro i σ' H' hi ⟨Γ', O', sm, Z', j⟩
      exact (off_same _ _).seq (sm.seq sq)
    · rintro i x σ' H' hi ⟨Γ', O', sm, Z', j⟩
      obtain ⟨a, h1, h2⟩ := pr_get' rr hi
      refine hG.2 b a H0 F O' Γ' σ' H' _ _ Z' (rp_mono sm h2) fun σ2 Z2 _ _ => ?_
      refine ⟨_, _, ht i a Γ' h1 j, H0, F, O', Z2, ?_, r, ?_, ?_⟩
      · exact fun Γ2 σ2 H2 O2 sm2 Z2 q => ⟨Γ2, O2, sm.trans sm2, Z2, q⟩
      · exact fun Γ2 σ2 H2 O2 sm2 Z2 q => nx Γ2 σ2 H2 O2 ((off_mono s1).trans (sm.trans sm2)) Z2 q
      · exact fun Γ2 σ2 H2 O2 sm2 Z2 q => ⟨Γ2, O2, sm.trans sm2, Z2, q⟩
    · rintro σ' H' ⟨Γ', O', sm, Z', j⟩
      rw [pr_len rr] at j
      exact nx Γ' σ' H' O' ((off_mono s1).trans sm) Z' (hd Γ' j)
end

structure Cal (P : Program) (w : World) (K : PySem.W.Frag) (mg : Str → Option Value) (base : Heap) (k : Nat) (name : Str) (ps : List Str) (sp : Sp) : Prop where
  ex : ∃ (f : Addr) (fd : FuncData), FnOk P w K mg base CX0 k f fd ps sp ∧ Binds K fd ps [] ∧ PySem.W.keepIn K (.ref f) = true ∧ mg name = some (.ref f)
def OwnL (H : Hp) (O : Addr → Prop) : Prop := ∀ p, O p → ∃ xs : Mt, H p = some (mo xs)
def sp1 {α β : Type} [Py α] [Py β] (K : PySem.W.Frag) (pre : α → Prop) (b : Bool) (f : α → β) : Sp := fun vs H Q _ => ∃ O v a, OwnL H O ∧ vs = [v] ∧ Py.rp K .any (off H O) v a ∧ pre a ∧ ∀ r H', Same H H' → Py.rp K (Nf H b) (off H' O) r (f a) → Q r H'
def sp2 {α β γ : Type} [Py α] [Py β] [Py γ] (K : PySem.W.Frag) (pre : α → β → Prop) (b : Bool) (f : α → β → γ) : Sp := fun vs H Q _ => ∃ O v w a c, OwnL H O ∧ vs = [v, w] ∧ Py.rp K .any (off H O) v a ∧ Py.rp K .any (off H O) w c ∧ pre a c ∧ ∀ r H', Same H H' → Py.rp K (Nf H b) (off H' O) r (f a c) → Q r H'
def sp3 {α β γ δ : Type} [Py α] [Py β] [Py γ] [Py δ] (K : PySem.W.Frag) (pre : α → β → γ → Prop) (b : Bool) (f : α → β → γ → δ) : Sp := fun vs H Q _ => ∃ O v w x a c d, OwnL H O ∧ vs = [v, w, x] ∧ Py.rp K .any (off H O) v a ∧ Py.rp K .any (off H O) w c ∧ Py.rp K .any (off H O) x d ∧ pre a c d ∧ ∀ r H', Same H H' → Py.rp K (Nf H b) (off H' O) r (f a c d) → Q r H'
def sp4 {α β γ δ ε : Type} [Py α] [Py β] [Py γ] [Py δ] [Py ε] (K : PySem.W.Frag) (pre : α → β → γ → δ → Prop) (b : Bool) (f : α → β → γ → δ → ε) : Sp := fun vs H Q _ => ∃ O v w x y a c d g, OwnL H O ∧ vs = [v, w, x, y] ∧ Py.rp K .any (off H O) v a ∧ Py.rp K .any (off H O) w c ∧ Py.rp K .any (off H O) x d ∧ Py.rp K .any (off H O) y g ∧ pre a c d g ∧ ∀ r H', Same H H' → Py.rp K (Nf H b) (off H' O) r (f a c d g) → Q r H'
theorem nf_true {H0 H : Hp} {b : Bool} : ∀ p xs, (Nf H0 b).has H p xs → Nn.any.has H p xs := fun _ _ _ => True.intro
section
variable {X : Cx} {Γ : GEnv} {D : GD} {α β γ δ ε : Type} [Py α] [Py β] [Py γ] [Py δ] [Py ε] {e e1 e2 e3 e4 : Expr} {b b1 b2 b3 b4 : Bool} {p pos : Pos} {k : Nat} {name : Str} {ps : List Str}
theorem e_call1 {pre : α → Prop} {f : α → β} {a : α} (C : Cal X.prog X.w X.K X.mg X.base k name ps (sp1 X.K pre b f)) (hr : Room k X.A) (hg : Gl X name) (h1 : E X Γ e1 b1 a) (hp : pre a)
    (hs1 : starEach [e1] X.env = (false, eval e1 X.env) :: starEach [] X.env := by rfl) (hdb : (name == ("__debug__" : Str)) = false := by decide) (hpl : (backTo pos (starEach [] X.env)).any (·.1) = false := by rfl) :
    E X Γ (.Call (.Name name p) [e1] [] pos) b (f a) := by
  with_unfolding_all
    obtain ⟨fa, fd, F, B, kp, m⟩ := C.ex
    exact pe_wk (pe_call F hr hg m kp B .nil pass0 (pa_cons h1 pa_nil hs1) hdb hs1 hpl) fun σ H Q ⟨H0, F, O, S, q⟩ => ⟨H0, F, O, S, fun v1 H1 s1 r1 =>
      ⟨O, v1, a, (S.go s1).own, rfl, rp_wid nf_true r1, hp, fun r H' s' z => q r H' (s1.trans s') ((S.go s1).back z)⟩⟩
theorem e_call2 {pre : α → β → Prop} {f : α → β → γ} {a : α} {c : β} (C : Cal X.prog X.w X.K X.mg X.base k name ps (sp2 X.K pre b f)) (hr : Room k X.A) (hg : Gl X name) (h1 : E X Γ e1 b1 a) (h2 : E X Γ e2 b2 c) (hp : pre a c)
    (hs1 : starEach [e1, e2] X.env = (false, eval e1 X.env) :: starEach [e2] X.env := by rfl) (hs2 : starEach [e2] X.env = (false, eval e2 X.env) :: starEach [] X.env := by rfl) (hdb : (name == ("__debug__" : Str)) = false := by decide) (hpl : (backTo pos (starEach [e2] X.env)).any (·.1) = false := by rfl) :
    E X Γ (.Call (.Name name p) [e1, e2] [] pos) b (f a c) := by
  with_unfolding_all
    obtain ⟨fa, fd, F, B, kp, m⟩ := C.ex
    exact pe_wk (pe_call F hr hg m kp B .nil pass0 (pa_cons h1 (pa_cons h2 pa_nil hs2) hs1) hdb hs1 hpl) fun σ H Q ⟨H0, F, O, S, q⟩ => ⟨H0, F, O, S, fun v1 H1 s1 r1 => ⟨H0, F, O, S.go s1, fun v2 H2 s2 r2 =>
      ⟨O, v1, v2, a, c, (S.go (s1.trans s2)).own, rfl, rp_wid nf_true (rp_mono (off_mono s2) r1), rp_wid nf_true r2, hp, fun r H' s' z => q r H' (s1.trans (s2.trans s')) ((S.go (s1.trans s2)).back z)⟩⟩⟩
theorem e_call3 {pre : α → β → γ → Prop} {f : α → β → γ → δ} {a : α} {c : β} {d : γ} (C : Cal X.prog X.w X.K X.mg X.base k name ps (sp3 X.K pre b f)) (hr : Room k X.A) (hg : Gl X name) (h1 : E X Γ e1 b1 a) (h2 : E X Γ e2 b2 c) (h3 : E X Γ e3 b3 d) (hp : pre a c d)
    (hs1 : starEach [e1, e2, e3] X.env = (false, eval e1 X.env) :: starEach [e2, e3] X.env := by rfl) (hs2 : starEach [e2, e3] X.env = (false, eval e2 X.env) :: starEach [e3] X.env := by rfl) (hs3 : starEach [e3] X.env = (false, eval e3 X.env) :: starEach [] X.env := by rfl)
    (hdb : (name == ("__debug__" : Str)) = false := by decide) (hpl : (backTo pos (starEach [e2, e3] X.env)).any (·.1) = false := by rfl) :
    E X Γ (.Call (.Name name p) [e1, e2, e3] [] pos) b (f a c d) := by
  with_unfolding_all
    obtain ⟨fa, fd, F, B, kp, m⟩ := C.ex
    exact pe_wk (pe_call F hr hg m kp B .nil pass0 (pa_cons h1 (pa_cons h2 (pa_cons h3 pa_nil hs3) hs2) hs1) hdb hs1 hpl) fun σ H Q ⟨H0, F, O, S, q⟩ => ⟨H0, F, O, S, fun v1 H1 s1 r1 => ⟨H0, F, O, S.go s1, fun v2 H2 s2 r2 => ⟨H0, F, O, S.go (s1.trans s2), fun v3 H3 s3 r3 =>
      ⟨O, v1, v2, v3, a, c, d, (S.go (s1.trans (s2.trans s3))).own, rfl, rp_wid nf_true (rp_mono ((off_mono s2).trans (off_mono s3)) r1), rp_wid nf_true (rp_mono (off_mono s3) r2), rp_wid nf_true r3, hp, fun r H' s' z => q r H' (s1.trans (s2.trans (s3.trans s'))) ((S.go (s1.trans (s2.trans s3))).back z)⟩⟩⟩⟩
theorem e_call4 {pre : α → β → γ → δ → Prop} {f : α → β → γ → δ → ε} {a : α} {c : β} {d : γ} {g : δ} (C : Cal X.prog X.w X.K X.mg X.base k name ps (sp4 X.K pre b f)) (hr : Room k X.A) (hg : Gl X name) (h1 : E X Γ e1 b1 a) (h2 : E X Γ e2 b2 c) (h3 : E X Γ e3 b3 d) (h4 : E X Γ e4 b4 g) (hp : pre a c d g)
    (hs1 : starEach [e1, e2, e3, e4] X.env = (false, eval e1 X.env) :: starEach [e2, e3, e4] X.env := by rfl) (hs2 : starEach [e2, e3, e4] X.env = (false, eval e2 X.env) :: starEach [e3, e4] X.env := by rfl) (hs3 : starEach [e3, e4] X.env = (false, eval e3 X.env) :: starEach [e4] X.env := by rfl) (hs4 : starEach [e4] X.env = (false, eval e4 X.env) :: starEach [] X.env := by rfl)
    (hdb : (name == ("__debug__" : Str)) = false := by decide) (hpl : (backTo pos (starEach [e2, e3, e4] X.env)).any (·.1) = false := by rfl) :
    E X Γ (.Call (.Name name p) [e1, e2, e3, e4] [] pos) b (f a c d g) := by
  with_unfolding_all
    obtain ⟨fa, fd, F, B, kp, m⟩ := C.ex
    exact pe_wk (pe_call F hr hg m kp B .nil pass0 (pa_cons h1 (pa_cons h2 (pa_cons h3 (pa_cons h4 pa_nil hs4) hs3) hs2) hs1) hdb hs1 hpl) fun σ H Q ⟨H0, F, O, S, q⟩ => ⟨H0, F, O, S, fun v1 H1 s1 r1 => ⟨H0, F, O, S.go s1, fun v2 H2 s2 r2 => ⟨H0, F, O, S.go (s1.trans s2), fun v3 H3 s3 r3 => ⟨H0, F, O, S.go (s1.trans (s2.trans s3)), fun v4 H4 s4 r4 =>
      ⟨O, v1, v2, v3, v4, a, c, d, g, (S.go (s1.trans (s2.trans (s3.trans s4)))).own, rfl, rp_wid nf_true (rp_mono ((off_mono s2).trans ((off_mono s3).trans (off_mono s4))) r1), rp_wid nf_true (rp_mono ((off_mono s3).trans (off_mono s4)) r2), rp_wid nf_true (rp_mono (off_mono s4) r3), rp_wid nf_true r4, hp, fun r H' s' z => q r H' (s1.trans (s2.trans (s3.trans (s4.trans s')))) ((S.go (s1.trans (s2.trans (s3.trans s4)))).back z)⟩⟩⟩⟩⟩
end
def gst (N : List Str) (gs : List Bd) : GEnv := gs.map some ++ List.replicate (N.length - gs.length) none
def RT {α : Type} [Py α] (b : Bool) (a : α) : GD := { nx := fun _ => False, rt := fun g => g = .val b a }
inductive Args (K : PySem.W.Frag) (H : Hp) : List V → List Bd → Prop
  | nil : Args K H [] []
  | cons {α : Type} [Py α] {v : V} {a : α} {vs : List V} {gs : List Bd} : Py.rp K .any H v a → Args K H vs gs → Args K H (v :: vs) (.val false a :: gs)
theorem Args.len {K : PySem.W.Frag} {H : Hp} : ∀ {vs : List V} {gs : List Bd}, Args K H vs gs → vs.length = gs.length
  | _, _, .nil => rfl
  | _, _, @Args.cons _ _ _ _ _ _ _ _ _ t => congrArg (· + 1) t.len
theorem Args.get {K : PySem.W.Frag} {H0 H : Hp} {O : Addr → Prop} : ∀ {vs : List V} {gs : List Bd} {i : Nat} {g : Bd}, Args K (off H O) vs gs → gs[i]? = some g → ∃ v, vs[i]? = some v ∧ g.ok K H0 O H v ∧ ¬ g.isOwn
  | _, _, _, _, .nil, e => by simp at e
  | _, _, 0, _, @Args.cons _ _ _ _ _ _ _ _ h _, e => by simp at e; subst e; exact ⟨_, rfl, h, fun z => z⟩
  | _, _, i + 1, _, @Args.cons _ _ _ _ _ _ _ _ _ t, e => by
    obtain ⟨a, h1, h2⟩ := Args.get (i := i) t (by simpa using e)
    exact ⟨a, by simpa using h1, h2⟩
theorem sta_start {K : PySem.W.Frag} {H : Hp} {O : Addr → Prop} {N : List Str} {vs : List V} {gs : List Bd} (ho : OwnL H O) (h : Args K (off H O) vs gs) : Sta K H O O (gst N gs) (start N vs) H := by
  have hl := h.len
  have hget : ∀ (i : Nat) (g : Bd), (gst N gs)[i]? = some (some g) → gs[i]? = some g := fun i g e => by
    unfold gst at e
    by_cases hi : i < (gs.map some).length
    · rw [List.getElem?_append_left hi, List.getElem?_map] at e
      cases q : gs[i]? with
      | none => rw [q] at e; cases e
      | some g' => rw [q] at e; simpa using e
    · rw [List.getElem?_append_right (by omega)] at e
      have := List.mem_of_getElem? e
      rw [List.mem_replicate] at this
      cases this.2
  refine ⟨Same.refl _, fun _ z => z, ho, ho, by simp [gst, start, hl], fun i g e _ => ?_, ⟨fun _ _ => False, fun _ _ _ z => z.elim, fun _ _ z => z.elim, fun i g e o => ?_⟩⟩
  · obtain ⟨v, h1, h2, _⟩ := Args.get (H0 := H) h (hget i g e)
    refine ⟨v, ?_, h2⟩
    unfold start
    have hi : i < (vs.map some).length := by
      rw [List.length_map]
      exact (List.getElem?_eq_some_iff.mp h1).1
    rw [List.getElem?_append_left hi, List.getElem?_map, h1]; rfl
  · obtain ⟨_, _, _, no⟩ := Args.get (H0 := H) h (hget i g e)
    exact absurd o no
section
variable {P : Program} {w : World} {K : PySem.W.Frag} {mg : Str → Option Value} {base : Heap} {N ps : List Str} {k : Nat} {x qual : Str} {st : Stmt} {f : Addr} {fd : FuncData}
abbrev cx (P : Program) (w : World) (K : PySem.W.Frag) (mg : Str → Option Value) (base : Heap) (N : List Str) (qual : Str) (st : Stmt) (f : Addr) (cdv : Value) (A : Around) (outer : List Env) (s : Shared) (H : Hp) (E : XK) : Cx := (cxOf CX0 P w K mg base N qual (defScope st) f cdv A outer s H E).nox
def Body (P : Program) (w : World) (K : PySem.W.Frag) (mg : Str → Option Value) (base : Heap) (N : List Str) (qual : Str) (st : Stmt) (f : Addr) (k : Nat) (gs : List Bd) (D : GD) : Prop :=
  ∀ (cdv : Value) (A : Around) (outer : List Env) (s : Shared) (H : Hp) (E : XK), Room k (A.deeper (envOfC qual (defScope st) s.heap.objs.size f cdv)) → S (cx P w K mg base N qual st f cdv A outer s H E) (gst N gs) (defBody st) D
theorem body_run {gs : List Bd} {vs : List V} {H : Hp} {O : Addr → Prop} {α : Type} [Py α] {b : Bool} {a : α} {Q : VK} {cdv : Value} {A : Around} {outer : List Env} {s : Shared} {E : XK} (B : Body P w K mg base N qual st f k gs (RT b a)) (hr : Room k (A.deeper (envOfC qual (defScope st) s.heap.objs.size f cdv)))
    (ho : OwnL H O) (h : Args K (off H O) vs gs) (q : ∀ r H', Same H H' → Py.rp K (Nf H b) (off H' O) r a → Q r H') :
    ∃ t, PSs (cxOf CX0 P w K mg base N qual (defScope st) f cdv A outer s H E).nox (defBody st) t ∧ t { nx := fun _ H' => Q .non H', rt := Q } (start N vs) H := by
  with_unfolding_all
    refine ⟨_, B cdv A outer s H E hr, H, O, O, sta_start ho h, fun _ _ _ _ _ _ z => z.elim, fun g v H' sm z e => ?_, fun _ _ _ _ _ _ z => z.elim, fun _ _ _ _ _ _ z => z.elim⟩
    have e' : g = .val b a := e
    subst e'
    exact q v H' sm z
theorem fn1 {α β : Type} [Py α] [Py β] {pre : α → Prop} {b : Bool} {g : α → β} (F : Fun K x qual st f fd) (sc : FnScope N ps (defScope st)) (hl : ps.length = 1) (B : ∀ a, pre a → Body P w K mg base N qual st f k [.val false a] (RT b (g a))) :
    FnOk P w K mg base CX0 (k + 1) f fd ps (sp1 K pre b g) := by
  with_unfolding_all
    refine F.ok sc (fun vs H Q E h => ?_) fun cdv A outer s H vs Q E hr h => ?_
    · obtain ⟨O, v, a, _, rfl, _⟩ := h; rw [hl]; rfl
    · obtain ⟨O, v, a, ho, rfl, r, hp, q⟩ := h
      exact body_run (B a hp) hr ho (.cons r .nil) q
theorem fn2 {α β γ : Type} [Py α] [Py β] [Py γ] {pre : α → β → Prop} {b : Bool} {g : α → β → γ} (F : Fun K x qual st f fd) (sc : FnScope N ps (defScope st)) (hl : ps.length = 2) (B : ∀ a c, pre a c → Body P w K mg base N qual st f k [.val false a, .val false c] (RT b (g a c))) :
    FnOk P w K mg base CX0 (k + 1) f fd ps (sp2 K pre b g) := by
  with_unfolding_all
    refine F.ok sc (fun vs H Q E h => ?_) fun cdv A outer s H vs Q E hr h => ?_
    · obtain ⟨O, v, v2, a, c, _, rfl, _⟩ := h; rw [hl]; rfl
    · obtain ⟨O, v, v2, a, c, ho, rfl, r, r2, hp, q⟩ := h
      exact body_run (B a c hp) hr ho (.cons r (.cons r2 .nil)) q
theorem fn3 {α β γ δ : Type} [Py α] [Py β] [Py γ] [Py δ] {pre : α → β → γ → Prop} {b : Bool} {g : α → β → γ → δ} (F : Fun K x qual st f fd) (sc : FnScope N ps (defScope st)) (hl : ps.length = 3) (B : ∀ a c d, pre a c d → Body P w K mg base N qual st f k [.val false a, .val false c, .val false d] (RT b (g a c d))) :
    FnOk P w K mg base CX0 (k + 1) f fd ps (sp3 K pre b g) := by
  with_unfolding_all
    refine F.ok sc (fun vs H Q E h => ?_) fun cdv A outer s H vs Q E hr h => ?_
    · obtain ⟨O, v, v2, v3, a, c, d, _, rfl, _⟩ := h; rw [hl]; rfl
    · obtain ⟨O, v, v2, v3, a, c, d, ho, rfl, r, r2, r3, hp, q⟩ := h
      exact body_run (B a c d hp) hr ho (.cons r (.cons r2 (.cons r3 .nil))) q
theorem fn4 {α β γ δ ε : Type} [Py α] [Py β] [Py γ] [Py δ] [Py ε] {pre : α → β → γ → δ → Prop} {b : Bool} {g : α → β → γ → δ → ε} (F : Fun K x qual st f fd) (sc : FnScope N ps (defScope st)) (hl : ps.length = 4) (B : ∀ a c d y, pre a c d y → Body P w K mg base N qual st f k [.val false a, .val false c, .val false d, .val false y] (RT b (g a c d y))) :
    FnOk P w K mg base CX0 (k + 1) f fd ps (sp4 K pre b g) := by
  with_unfolding_all
    refine F.ok sc (fun vs H Q E h => ?_) fun cdv A outer s H vs Q E hr h => ?_
    · obtain ⟨O, v, v2, v3, v4, a, c, d, y, _, rfl, _⟩ := h; rw [hl]; rfl
    · obtain ⟨O, v, v2, v3, v4, a, c, d, y, ho, rfl, r, r2, r3, r4, hp, q⟩ := h
      exact body_run (B a c d y hp) hr ho (.cons r (.cons r2 (.cons r3 (.cons r4 .nil)))) q
end
end L2.EP
namespace L2.EP
open PySem PySem.Spec PyProof.Rows
section
variable {X : Cx} {Γ : GEnv} {α β : Type} [Py α] [Py β] {e : Expr} {b : Bool} {p p2 pos : Pos}
theorem e_isi {a : α} {T : Str} {T' : String} {c : Bool} (hg : Gl X "isinstance") (hm : X.mg "isinstance" = none) (hg2 : Gl X T) (hm2 : X.mg T = none) (hv : bootBuiltins T = some (.type T')) (ha : E X Γ e b a)
    (hk : ∀ (pins : List (Addr × Obj)) (s : Shared) (σ : St) (H : Hp) (N : Nn) (v : V) (u : Value) (Q : Value → Shared → Prop), Inv X pins σ H s → Py.rp X.K N H v a → RelV v u → (∀ tk, Q (.bool c) { s with toks := tk }) → wpAny (model X.prog X.w) X.A (call (.builtin "isinstance") [u, .type T']) Q X.xe s)
    (hs : starEach [e, .Name T p2] X.env = (false, eval e X.env) :: starEach [.Name T p2] X.env := by rfl) (hs2 : starEach [.Name T p2] X.env = (false, eval (.Name T p2) X.env) :: starEach [] X.env := by rfl) (hpl : (backTo pos (starEach [.Name T p2] X.env)).any (·.1) = false := by rfl)
    (hn : T ≠ "__name__" := by decide) (hd : (T == ("__debug__" : Str)) = false := by decide) :
    E X Γ (.Call (.Name "isinstance" p) [e, .Name T p2] [] pos) true c := by
  with_unfolding_all
    have hc : CallR X (.builtin "isinstance") (fun xs H Q => ∃ N v, xs = [v, .ty T'] ∧ Py.rp X.K N H v a ∧ Q (.bl c) H) := by
      intro pins s σ H xs us Q I r h
      obtain ⟨N, v, rfl, rv, q⟩ := h
      obtain ⟨u, w', rfl, rx, ry⟩ := vals2 r
      cases ry
      exact hk pins s σ H N v u _ I rv rx fun tk => ⟨.bl c, H, I.tok _, rfl, q⟩
    exact pe_wk (pe_callB hc hg hm boot_isinstance (pa_cons ha (pa_cons (pe_bltn (v := .ty T') hg2 hm2 hv rfl hn hd) pa_nil hs2) hs) (he := hs) (hpl := hpl)) fun σ H Q ⟨H0, F, O, S, q⟩ => ⟨H0, F, O, S, fun v H1 s1 r1 => ⟨_, v, rfl, rp_mono (off_same _ _) r1, q _ H1 s1 rfl⟩⟩
theorem e_isII {i : Int} (hg : Gl X "isinstance") (hm : X.mg "isinstance" = none) (hg2 : Gl X "int") (hm2 : X.mg "int" = none) (ha : E X Γ e b i)
    (hs : starEach [e, .Name "int" p2] X.env = (false, eval e X.env) :: starEach [.Name "int" p2] X.env := by rfl) : E X Γ (.Call (.Name "isinstance" p) [e, .Name "int" p2] [] pos) true true := by
  with_unfolding_all
    exact e_isi hg hm hg2 hm2 PyProof.Rows.boot_int ha (fun pins s σ H N v u Q I rv r q => by
        cases rv; obtain ⟨t, rfl⟩ := r
        exact IsiPair.int_int (q s.toks)) hs
theorem e_isIB {i : Int} (hg : Gl X "isinstance") (hm : X.mg "isinstance" = none) (hg2 : Gl X "bool") (hm2 : X.mg "bool" = none) (ha : E X Γ e b i)
    (hs : starEach [e, .Name "bool" p2] X.env = (false, eval e X.env) :: starEach [.Name "bool" p2] X.env := by rfl) : E X Γ (.Call (.Name "isinstance" p) [e, .Name "bool" p2] [] pos) true false := by
  with_unfolding_all
    exact e_isi hg hm hg2 hm2 PyProof.Rows.boot_bool ha (fun pins s σ H N v u Q I rv r q => by
        cases rv; obtain ⟨t, rfl⟩ := r
        exact IsiPair.int_bool (q (s.toks + 1))) hs
theorem e_is2T {x : α × β} (hg : Gl X "isinstance") (hm : X.mg "isinstance" = none) (hg2 : Gl X "tuple") (hm2 : X.mg "tuple" = none) (ha : E X Γ e b x)
    (hs : starEach [e, .Name "tuple" p2] X.env = (false, eval e X.env) :: starEach [.Name "tuple" p2] X.env := by rfl) : E X Γ (.Call (.Name "isinstance" p) [e, .Name "tuple" p2] [] pos) true true := by
  with_unfolding_all
    exact e_isi hg hm hg2 hm2 PyProof.Rows.boot_tuple ha (fun pins s σ H N v u Q I rv r q => by
        obtain ⟨a, y, z, rfl, sq, _, _⟩ := rv
        cases r
        obtain ⟨its, rr, pl, _⟩ := I.tuple (.inl sq.rd)
        obtain ⟨o, h1, h2, n, h3⟩ := pl
        exact call_isinstance (isinstance_true (Tx := "tuple") F.isi_meta_tuple AutoSeq1.sub_tuple_tuple) ⟨⟨o, h1, h2⟩, q s.toks⟩) hs
theorem e_isLL {xs : List α} (hg : Gl X "isinstance") (hm : X.mg "isinstance" = none) (hg2 : Gl X "list") (hm2 : X.mg "list" = none) (ha : E X Γ e b xs)
    (hs : starEach [e, .Name "list" p2] X.env = (false, eval e X.env) :: starEach [.Name "list" p2] X.env := by rfl) : E X Γ (.Call (.Name "isinstance" p) [e, .Name "list" p2] [] pos) true true := by
  with_unfolding_all
    exact e_isi hg hm hg2 hm2 PyProof.Rows.boot_list ha (fun pins s σ H N v u Q I rv r q => by
        obtain ⟨a, ys, rfl, sq, _, _⟩ := rv
        cases r
        obtain ⟨its, rr, pl, _⟩ := I.list sq
        obtain ⟨o, h1, h2, n, h3⟩ := pl.isList
        exact call_isinstance (isinstance_true (Tx := "list") F.isi_meta_list AutoSeq1.sub_list_list) ⟨⟨o, h1, h2⟩, q s.toks⟩) hs
end
end L2.EP
namespace L2.EP
open PySem PySem.Spec PyProof.Rows
def Sm (n : Nat) (i : Int) : Prop := i.natAbs < 2 ^ n
theorem Sm.bits {n : Nat} {i : Int} (h : Sm n i) : Builtin.Int.intBits i ≤ n := by
  unfold Builtin.Int.intBits
  split
  · exact Nat.zero_le _
  · rename_i hi
    have h0 : i.natAbs ≠ 0 := by
      intro z; apply hi; simp; omega
    have := (Nat.log2_lt h0).mpr h
    omega
theorem Sm.le {m n : Nat} {i : Int} (h : Sm m i) (l : m ≤ n) : Sm n i := Nat.lt_of_lt_of_le h (Nat.pow_le_pow_right (by decide) l)
theorem Sm.ok {m n : Nat} {i j : Int} (h : Sm m i) (h' : Sm n j) (l : m ≤ 1048576 := by decide) (l' : n ≤ 1048576 := by decide) : IntMulOk i j := IntMulOk.of_bits (Nat.le_trans h.bits (Nat.le_trans l (by decide))) (Nat.le_trans h'.bits (Nat.le_trans l' (by decide)))
theorem Sm.mul {m n : Nat} {i j : Int} (h : Sm m i) (h' : Sm n j) : Sm (m + n) (i * j) := by
  unfold Sm at *
  rw [Int.natAbs_mul, Nat.pow_add]
  rcases Nat.eq_zero_or_pos j.natAbs with z | z
  · rw [z, Nat.mul_zero]; exact Nat.mul_pos (Nat.two_pow_pos _) (Nat.two_pow_pos _)
  · exact Nat.mul_lt_mul_of_lt_of_le h (Nat.le_of_lt h') (Nat.two_pow_pos _)
theorem Sm.add {m n : Nat} {i j : Int} (h : Sm m i) (h' : Sm n j) : Sm (max m n + 1) (i + j) := by
  have h1 : i.natAbs < 2 ^ max m n := Nat.lt_of_lt_of_le h (Nat.pow_le_pow_right (by decide) (Nat.le_max_left _ _))
  have h2 : j.natAbs < 2 ^ max m n := Nat.lt_of_lt_of_le h' (Nat.pow_le_pow_right (by decide) (Nat.le_max_right _ _))
  have h3 := Int.natAbs_add_le i j
  unfold Sm
  rw [Nat.pow_succ]
  omega
theorem Sm.neg {m : Nat} {i : Int} (h : Sm m i) : Sm m (-i) := by unfold Sm at *; rw [Int.natAbs_neg]; exact h
theorem Sm.sub {m n : Nat} {i j : Int} (h : Sm m i) (h' : Sm n j) : Sm (max m n + 1) (i - j) := h.add h'.neg
theorem Sm.of_le {n : Nat} {i j : Int} (h : i.natAbs ≤ j.natAbs) (h' : Sm n j) : Sm n i := Nat.lt_of_le_of_lt h h'
theorem Sm.div {n : Nat} {i j : Int} (h : Sm n j) (hj : j ≠ 0) (l : n ≤ 9000 := by decide) : CDivK i j := ⟨hj, (Nat.log2_lt (by omega)).mpr (Nat.lt_of_lt_of_le h (Nat.pow_le_pow_right (by decide) l))⟩
theorem mulL {i j : Int} (h1 : -(2 ^ 64) < i) (h2 : i < 2 ^ 64) : IntMulOk i j := CMul.ok (.inl ⟨h1, h2⟩)
theorem mulR {i j : Int} (h1 : -(2 ^ 64) < j) (h2 : j < 2 ^ 64) : IntMulOk i j := CMul.ok (.inr ⟨h1, h2⟩)
theorem cdK {i j : Int} (h : j ≠ 0 := by decide) (h2 : j.natAbs.log2 < 9000 := by decide) : CDivK i j := ⟨h, h2⟩
theorem cpK {i j : Int} (h : 0 ≤ j := by decide) (h2 : j ≤ 1000000 := by decide) (h3 : i.natAbs < 2 ^ 64 := by decide) : CPow i j := ⟨h, h2, h3⟩
theorem hu60 {k : Nat} {A : Around} (hr : Room k A) : A.units + 60 < cLine := by have := hr.un; omega
structure Bu (mg : Str → Option Value) : Prop where
  abs : mg "abs" = none
  len : mg "len" = none
  min : mg "min" = none
  max : mg "max" = none
  range : mg "range" = none
  isinstance : mg "isinstance" = none
  int : mg "int" = none
  bool : mg "bool" = none
  list : mg "list" = none
  tuple : mg "tuple" = none
  sum : mg "sum" = none
  all : mg "all" = none
  zip : mg "zip" = none
  enumerate : mg "enumerate" = none
  any : mg "any" = none
  sorted : mg "sorted" = none
  set : mg "set" = none
  str : mg "str" = none
  reversed : mg "reversed" = none
theorem fmod_pos {a b : Int} (h : 0 < b) : 0 ≤ a.fmod b ∧ a.fmod b < b := ⟨Int.fmod_nonneg_of_pos a h, Int.fmod_lt_of_pos a h⟩
theorem Sm.fmod {n : Nat} {a b : Int} (h : 0 < b) (hb : Sm n b) : Sm n (a.fmod b) := by
  have := fmod_pos (a := a) h
  exact Sm.of_le (by omega) hb
end L2.EP
namespace L2.EP
open PySem PySem.Spec PyProof.Rows
def Df (K : PySem.W.Frag) (x : Str) (st : Stmt) : Prop := ∃ (f : Addr) (fd : FuncData), PySem.W.nsIn K mainGlobals x = some (some (.ref f)) ∧ Fun K x x st f fd
theorem Df.mk {K : PySem.W.Frag} {x : Str} {st : Stmt} {f : Addr} {oc : Value} {od an : Option Addr} {osl : Array (Option Value)} {kV doc pm cdv ct : Value} (a : PySem.W.nsIn K mainGlobals x = some (some (.ref f)))
    (l : K.lookup f = some ⟨oc, od, .func (PySem.W.fnOf x x (defArgs st) (defBody st) (defScope st) .none kV doc pm an cdv ct), osl⟩) (c : PySem.W.codeIn K cdv x = true) (k : PySem.W.keepIn K (.ref f) = true) : Df K x st := ⟨f, _, a, fun_mk l c k⟩
theorem bu_mk {K : PySem.W.Frag} {h : Heap} {mg : Str → Option Value} (X : K.In h) (G : h.Ns mainGlobals mg) (z1 : PySem.W.nsIn K mainGlobals "abs" = some none) (z2 : PySem.W.nsIn K mainGlobals "len" = some none) (z3 : PySem.W.nsIn K mainGlobals "min" = some none) (z4 : PySem.W.nsIn K mainGlobals "max" = some none)
    (z5 : PySem.W.nsIn K mainGlobals "range" = some none) (z6 : PySem.W.nsIn K mainGlobals "isinstance" = some none) (z7 : PySem.W.nsIn K mainGlobals "int" = some none) (z8 : PySem.W.nsIn K mainGlobals "bool" = some none) (z9 : PySem.W.nsIn K mainGlobals "list" = some none) (z10 : PySem.W.nsIn K mainGlobals "tuple" = some none)
    (z11 : PySem.W.nsIn K mainGlobals "sum" = some none) (z12 : PySem.W.nsIn K mainGlobals "all" = some none) (z13 : PySem.W.nsIn K mainGlobals "zip" = some none) (z14 : PySem.W.nsIn K mainGlobals "enumerate" = some none) (z15 : PySem.W.nsIn K mainGlobals "any" = some none) (z16 : PySem.W.nsIn K mainGlobals "sorted" = some none) (z17 : PySem.W.nsIn K mainGlobals "set" = some none) (z18 : PySem.W.nsIn K mainGlobals "str" = some none) (z19 : PySem.W.nsIn K mainGlobals "reversed" = some none) : Bu mg :=
  ⟨PySem.W.mg_none_of X G z1, PySem.W.mg_none_of X G z2, PySem.W.mg_none_of X G z3, PySem.W.mg_none_of X G z4, PySem.W.mg_none_of X G z5, PySem.W.mg_none_of X G z6, PySem.W.mg_none_of X G z7, PySem.W.mg_none_of X G z8, PySem.W.mg_none_of X G z9, PySem.W.mg_none_of X G z10, PySem.W.mg_none_of X G z11, PySem.W.mg_none_of X G z12, PySem.W.mg_none_of X G z13, PySem.W.mg_none_of X G z14, PySem.W.mg_none_of X G z15, PySem.W.mg_none_of X G z16, PySem.W.mg_none_of X G z17, PySem.W.mg_none_of X G z18, PySem.W.mg_none_of X G z19⟩
section
variable {P : Program} {w : World} {K : PySem.W.Frag} {mg : Str → Option Value} {base h : Heap} {x : Str} {st : Stmt} {N ps : List Str} {k : Nat}
theorem Df.cal {sp : Sp} (D : Df K x st) (X : K.In h) (G : h.Ns mainGlobals mg) (hb : ∀ (kV doc pm : Value) (an : Option Addr) (cdv ct : Value) (us : List Value), us.length = ps.length → bindArgs (PySem.W.fnOf x x (defArgs st) (defBody st) (defScope st) .none kV doc pm an cdv ct) ⟨us, []⟩ = pure (ps.zip us))
    (ok : ∀ f fd, Fun K x x st f fd → FnOk P w K mg base CX0 k f fd ps sp) : Cal P w K mg base k x ps sp := by
  obtain ⟨f, fd, a, F⟩ := D
  exact ⟨f, fd, ok f fd F, F.binds hb, F.kp, PySem.W.mg_of X G a⟩
def spLaw (K : PySem.W.Frag) : Sp := sp1 K (fun (ns : List Int) => ns.length ≤ 63) true (fun _ => true)
theorem pr_ints {K : PySem.W.Frag} {N : Nn} {H : Hp} : ∀ ns : List Int, Paired (fun x (b : Int) => Py.rp K N H x b) (ns.map V.int) ns
  | [] => .nil
  | _ :: r => .cons rfl (pr_ints r)
theorem law_start (K : PySem.W.Frag) (H : Hp) (a : Addr) (ns : List Int) (hl : ns.length ≤ 63) (hS : SqL K H a (ns.map V.int)) : spLaw K [.ref a] H (fun v _ => v = .bl true) fun _ _ _ => False :=
  ⟨fun _ => False, .ref a, ns, fun _ z => z.elim, rfl, by rw [off_nil]; exact ⟨a, _, rfl, hS, True.intro, pr_ints ns⟩, hl, fun r H' _ z => z⟩
theorem law_end {fa : Addr} {lp : Program} (D : Df K "law" st) (X : K.In h) (G : h.Ns mainGlobals mg) (hfa : mg "law" = some (.ref fa)) {y : Str}
    (hb : ∀ (kV doc pm : Value) (an : Option Addr) (cdv ct : Value) (s : Shared) (u : Value), BindsTo s (PySem.W.fnOf "law" "law" (defArgs st) (defBody st) (defScope st) .none kV doc pm an cdv ct) ⟨[u], []⟩ [(y, u)])
    (ok : ∀ base, K.In base → base.Ns mainGlobals mg → ∀ f fd, Fun K "law" "law" st f fd → FnOk lp w K mg base CX0 k f fd [y] (spLaw K)) :
    ∃ fd : FuncData, (∀ (s : Shared) (u : Value), BindsTo s fd ⟨[u], []⟩ [(y, u)]) ∧ ∀ base : Heap, K.In base → base.Ns mainGlobals mg → FnOk lp w K mg base CX0 k fa fd [y] (spLaw K) := by
  obtain ⟨f, fd, a, F⟩ := D
  have e := hfa.symm.trans (PySem.W.mg_of X G a)
  cases e
  refine ⟨fd, ?_, fun base kb nb => ok base kb nb _ fd F⟩
  obtain ⟨oc, od, kV, doc, pm, an, cdv, ct, osl, rfl, lk, hcd⟩ := F.ex
  exact hb kV doc pm an cdv ct
end
end L2.EP

namespace L2.EP
open PySem PySem.Spec PyProof.Rows
def ITS {α : Type} [Py α] (K : PySem.W.Frag) (H0 : Hp) (O : Addr → Prop) (b : Bool) (as : List α) (J : It) (H1 : Hp) : Prop :=
  ∀ (H' : Hp) (O' : Addr → Prop), OwnL H' O' → Same (off H1 O) (off H' O') → (∀ (i : Nat) (a : α), as[i]? = some a → J.go i H' ∧ ∀ x H'', J.yld i H' x H'' → Same H' H'' ∧ Py.rp K (Nf H0 b) (off H'' O') x a) ∧ J.stop as.length H'
def EI {α : Type} [Py α] (X : Cx) (Γ : GEnv) (tg iter : Expr) (b : Bool) (as : List α) : Prop := ∃ wi, PI X tg iter wi ∧
  ∀ (σ : St) (H H0 : Hp) (F O : Addr → Prop) (R : It → Hp → Prop), Sta X.K H0 F O Γ σ H → (∀ J H1, Same H H1 → ITS X.K H0 O b as J H1 → R J H1) → wi σ H R
def seqI (lo c : Int) (n : Nat) : List Int := (List.range n).map fun i : Nat => lo + (i : Int) * c
theorem seqI_get {lo c : Int} {n i : Nat} {a : Int} (h : (seqI lo c n)[i]? = some a) : i < n ∧ a = lo + (i : Int) * c := by
  unfold seqI at h
  rw [List.getElem?_map] at h
  by_cases hi : i < n
  · rw [List.getElem?_range hi] at h
    exact ⟨hi, (Option.some.inj h).symm⟩
  · rw [List.getElem?_eq_none (by rw [List.length_range]; omega)] at h; cases h
theorem seqI_len (lo c : Int) (n : Nat) : (seqI lo c n).length = n := by unfold seqI; rw [List.length_map, List.length_range]
section
variable {X : Cx} {Γ : GEnv} {α β : Type} [Py α] [Py β] {e e1 e2 e3 tg : Expr} {b b1 b2 b3 : Bool}
theorem ei_list {xs : List α} (he : E X Γ e b xs) : EI X Γ tg e b xs := by
  with_unfolding_all
    exact ⟨_, pi_list he, fun σ H H0 F O R Z q => ⟨H0, F, O, Z, fun v H1 s1 r1 => by
      obtain ⟨p, vs, e, sq, nn, rr⟩ := r1
      refine ⟨p, e, ⟨vs, (off_same _ _).seq sq⟩, q _ H1 s1 fun H' O' _ sm => ⟨fun i a ha => ?_, ?_⟩⟩
      · obtain ⟨x, h1, h2⟩ := pr_get rr ha
        refine ⟨⟨vs, x, (off_same _ _).seq (sm.seq sq), h1⟩, fun y H'' hy => ?_⟩
        obtain ⟨e', hy⟩ := hy
        subst e'
        have := hy vs ((off_same _ _).seq (sm.seq sq))
        rw [h1] at this; cases this
        exact ⟨Same.refl _, rp_mono sm h2⟩
      · exact ⟨vs, (off_same _ _).seq (sm.seq sq), by rw [pr_len rr]; exact Nat.le_refl _⟩⟩⟩
theorem its_range {K : PySem.W.Frag} {H0 : Hp} {O : Addr → Prop} {lo : Int} {n : Nat} {H1 : Hp} : ITS K H0 O true (seqI lo 1 n) (Itr lo n) H1 := fun H' O' _ sm => ⟨fun i a ha => by
  obtain ⟨h1, h2⟩ := seqI_get ha
  refine ⟨h1, fun x H'' hy => ?_⟩
  obtain ⟨e1, e2⟩ := hy
  subst e1 e2 h2
  exact ⟨Same.refl _, by show V.int _ = V.int _; rw [Int.mul_one]⟩, by show n ≤ _; rw [seqI_len]; exact Nat.le_refl _⟩
theorem ei_range {n : Int} {p ps : Pos} (hg : Gl X "range") (hm : X.mg "range" = none) (he : E X Γ e b n) (h1 : -(2 ^ 62) ≤ n) (h2 : n < 2 ^ 62)
    (hs : starEach [e] X.env = [(false, eval e X.env)] := by rfl) (hs1 : starEach [e] X.env = (false, eval e X.env) :: starEach [] X.env := by rfl) : EI X Γ tg (.Call (.Name "range" p) [e] [] ps) true (seqI 0 1 n.toNat) := by
  with_unfolding_all
    exact ⟨_, pi_range1 hg hm (pa_cons he pa_nil hs1) hs, fun σ H H0 F O R Z q => ⟨H0, F, O, Z, fun v H1 s1 r1 => ⟨n, by cases r1; rfl, h1, h2, q _ H1 s1 its_range⟩⟩⟩
end

def cB : Option (Option Bd) → Option Bd
  | some (some (@Bd.val _ _ b a)) => some (.val b a)
  | _ => none
def cΓ (Γ : GEnv) (tn : List Str) (js : List Nat) : GEnv := tn.map (fun _ => none) ++ js.map fun j => cB Γ[j]?
theorem cB_val {o : Option (Option Bd)} {g : Bd} (h : cB o = some g) : o = some (some g) ∧ ¬ g.isOwn := by
  unfold cB at h
  split at h
  · cases h; exact ⟨rfl, fun z => z⟩
  · cases h
theorem cΓ_get {Γ : GEnv} {σ : St} {tn : List Str} {js : List Nat} {i : Nat} {g : Bd} (h : (cΓ Γ tn js)[i]? = some (some g)) : ∃ j, js[i - tn.length]? = some j ∧ tn.length ≤ i ∧ Γ[j]? = some (some g) ∧ ¬ g.isOwn ∧ (cσ σ tn js)[i]? = some ((σ[j]?).getD none) := by
  unfold cΓ at h
  unfold cσ
  by_cases hi : i < tn.length
  · rw [List.getElem?_append_left (by simpa using hi), List.getElem?_map] at h
    cases q : tn[i]? with
    | none => rw [q] at h; cases h
    | some y => rw [q] at h; cases h
  · rw [List.getElem?_append_right (by simpa using hi), List.getElem?_map, List.length_map] at h
    rw [List.getElem?_append_right (by simpa using hi), List.getElem?_map, List.length_map]
    cases q : js[i - tn.length]? with
    | none => rw [q] at h; cases h
    | some j =>
      rw [q] at h
      obtain ⟨h1, h2⟩ := cB_val (Option.some.inj h)
      exact ⟨j, rfl, by omega, h1, h2, rfl⟩
section
variable {K : PySem.W.Frag} {H0 : Hp} {F O : Addr → Prop} {Γ : GEnv} {σ : St} {H : Hp}
theorem Sta.blk (Z : Sta K H0 F O Γ σ H) (tn : List Str) (js : List Nat) : Sta K H0 F O (cΓ Γ tn js) (cσ σ tn js) H where
  same := Z.same
  fo := Z.fo
  f0 := Z.f0
  own := Z.own
  len := by unfold cΓ cσ; simp
  at_ := fun i g e n => by
    obtain ⟨j, h1, h2, h3, h4, h5⟩ := cΓ_get (σ := σ) e
    obtain ⟨v, q1, q2⟩ := Z.at_ j g h3 n
    exact ⟨v, by rw [h5, q1]; rfl, q2⟩
  dis := ⟨fun _ _ => False, fun _ _ _ z => z.elim, fun _ _ z => z.elim, fun i g e o => by
    obtain ⟨_, _, _, _, h4, _⟩ := cΓ_get (σ := σ) e
    exact absurd o h4⟩
theorem Sta.ownIn {H' : Hp} {D : Addr} {xs : List V} (Z : Sta K H0 F O Γ σ H) (hD : H D = none) (sm : Same H H') (hx : H' D = some (.lst xs)) : Sta K H0 F (fun p => O p ∨ p = D) Γ σ H' ∧ Same (off H O) (off H' fun p => O p ∨ p = D) := by
  have so : Same (off H O) (off H' fun p => O p ∨ p = D) := fun b o h => by
    obtain ⟨h1, h2⟩ := off_some h
    have hb : b ≠ D := fun z => by rw [z, hD] at h2; cases h2
    rw [off_get (by rintro (z | z); exact h1 z; exact hb z)]; exact sm _ _ h2
  refine ⟨⟨Z.same.trans sm, fun p h => .inl (Z.fo p h), Z.f0, fun p h => ?_, Z.len, fun i g e n => ?_, ?_⟩, so⟩
  · rcases h with h | h
    · obtain ⟨ys, q⟩ := Z.own p h
      exact ⟨ys, sm _ _ q⟩
    · subst h; exact ⟨.inl xs, hx⟩
  · obtain ⟨v, q1, q2⟩ := Z.at_ i g e n
    refine ⟨v, q1, ?_⟩
    cases g with
    | val b a => exact rp_mono so q2
    | own b as => exact q2
    | dpo a => exact q2
  · obtain ⟨D', d1, d2, d3⟩ := Z.dis
    refine ⟨D', d1, fun i p h => ⟨.inl (d2 i p h).1, (d2 i p h).2⟩, fun i g e o => ?_⟩
    obtain ⟨v, q1, q2⟩ := d3 i g e o
    exact ⟨v, q1, Bd.goD q2 (fun p ys _ z => sm _ _ z) so (fun p z => (d2 i p z).1) Z.own⟩
end
section
variable {X : Cx} {Γ : GEnv} {D : GD} {α β : Type} [Py α] [Py β] {elt target iter c : Expr} {b b' : Bool} {pos : Pos} {scope : Scope} {tn : List Str} {js : List Nat} {g : TG} {tc : Nat → Prop} {put : Bool → α → GEnv → GEnv} {as : List α} {f : α → β} {p : α → Bool} {ifs : List Expr}
def teC (X : Cx) (tn : List Str) (js : List Nat) (scope : Scope) (elt : Expr) (β : Type) [Py β] (b : Bool) : TE := fun σ H Q => ∃ Γ', ∃ v : β, (∀ C s H fp, E (blk X (cN X tn js) scope C s H fp) Γ' elt b v) ∧ tV X.K Γ' b v σ H Q
@[irreducible] def FT (X : Cx) (Γ : GEnv) (ifs : List Expr) (c : Bool) : Prop := PF X ifs (tVT X.K Γ c)
def ttC (X : Cx) (tn : List Str) (js : List Nat) (scope : Scope) (ifs : List Expr) : TT := fun σ H Q => ∃ Γ' c, (∀ C s H fp, FT (blk X (cN X tn js) scope C s H fp) Γ' ifs c) ∧ tVT X.K Γ' c σ H Q
theorem ft_nil : FT X Γ [] true := by
  with_unfolding_all
    exact fun pins s σ H Q I ⟨H0, F, O, Z, q⟩ => pf_nil pins s σ H Q I (q H (Same.refl _))
theorem ft_one {k : Bool} (h : T X Γ c k) : FT X Γ [c] k := by
  with_unfolding_all
    exact pf_one h
theorem comp_wk {wi : TI} (hw : ∀ (σ : St) (H H0 : Hp) (F O : Addr → Prop) (R : It → Hp → Prop), Sta X.K H0 F O Γ σ H → (∀ J H1, Same H H1 → ITS X.K H0 O b as J H1 → R J H1) → wi σ H R)
    (hgp : GP g α put tc X.K) (htc : ∀ j, tc j → j < tn.length)
    (ht : ∀ (i : Nat) (a : α), as[i]? = some a → ∀ C s H fp, FT (blk X (cN X tn js) scope C s H fp) (put b a (cΓ Γ tn js)) ifs (p a))
    (hb : ∀ (i : Nat) (a : α), as[i]? = some a → p a = true → ∀ C s H fp, E (blk X (cN X tn js) scope C s H fp) (put b a (cΓ Γ tn js)) elt b' (f a)) (hl : as.length ≤ 1000)
    {σ : St} {H : Hp} {Q : VK} {H0 : Hp} {F O : Addr → Prop} (Z : Sta X.K H0 F O Γ σ H) (q : ∀ v H', Same H H' → Py.rp X.K (Nf H0 b') (off H' O) v ((as.filter p).map f) → Q v H') :
    tLC wi tn js g (ttC X tn js scope ifs) (teC X tn js scope elt β b') σ H Q := by
  with_unfolding_all
    refine hw σ H H0 F O _ Z fun J H1 s1 its D hD => ?_
    have Z1 := Z.go s1
    refine ⟨fun i m H' xs => m = as.length - i ∧ i ≤ as.length ∧ Same H1 H' ∧ H' D = some (.lst xs) ∧ Paired (fun x a => Py.rp X.K (Nf H0 b') (off H' fun p => O p ∨ p = D) x a) xs (((as.take i).filter p).map f),
      ⟨_, rfl, Nat.zero_le _, same_upd hD _, upd_same, .nil⟩, ?_⟩
    rintro i m H' xs ⟨rfl, hi, sm, hx, rr⟩
    refine ⟨hx, ?_⟩
    obtain ⟨Z', so⟩ := Z1.ownIn hD sm hx
    obtain ⟨t1, t2⟩ := its H' _ Z'.own so
    by_cases hlt : i < as.length
    · have ha : as[i]? = some as[i] := List.getElem?_eq_getElem hlt
      have htk : as.take (i + 1) = as.take i ++ [as[i]] := by rw [List.take_succ, ha]; rfl
      obtain ⟨go, yl⟩ := t1 i _ ha
      refine .inr ⟨go, fun x H'' hy => ?_⟩
      obtain ⟨s2, rx⟩ := yl x H'' hy
      refine hgp b as[i] H0 F _ (cΓ Γ tn js) (cσ σ tn js) H'' x _ ((Z'.go s2).blk tn js) rx fun σ2 Z2 l2 k2 => ?_
      refine ⟨⟨fun j v hj e => ?_, l2⟩, _, _, ht i _ ha, H0, F, _, Z2, fun H3 s3 => ?_⟩
      · rw [k2 j fun z => absurd (htc j z) (Nat.not_lt.mpr hj)]; exact e
      cases hp : p as[i] with
      | false =>
        refine iteF ⟨as.length - (i + 1), by omega, rfl, hlt, sm.trans (s2.trans s3), s3 _ _ (s2 _ _ hx), ?_⟩
        rw [htk, List.filter_append, List.filter_cons, hp]
        simp only [Bool.false_eq_true, if_false, List.filter_nil, List.append_nil]
        exact pr_imp (fun _ _ z => rp_mono (off_mono (s2.trans s3)) z) rr
      | true =>
        refine iteT ⟨_, _, hb i _ ha hp, H0, F, _, Z2.go s3, fun y H4 s4 ry => ?_⟩
        have hx4 : H4 D = some (.lst xs) := s4 _ _ (s3 _ _ (s2 _ _ hx))
        have hOD : (fun p => O p ∨ p = D) D := .inr rfl
        refine ⟨hx4, ?_, as.length - (i + 1), by omega, rfl, hlt, ?_, upd_same, ?_⟩
        · have := pr_len rr
          rw [List.length_map] at this
          have h2 := List.length_filter_le p (as.take i)
          have h3 := List.length_take_le i as
          exact Nat.lt_of_le_of_lt (by omega) (small1000 hl)
        · exact fun c o z => by
            have hc : c ≠ D := fun w => by rw [w, hD] at z; cases z
            rw [upd_ne hc]; exact s4 _ _ (s3 _ _ (s2 _ _ (sm _ _ z)))
        · rw [off_upd hOD, htk, List.filter_append, List.filter_cons, hp]
          simp only [if_true, List.filter_nil, List.map_append, List.map_cons, List.map_nil]
          exact pr_app (pr_imp (fun _ _ z => rp_mono (off_mono (s2.trans (s3.trans s4))) z) rr) (.cons ry .nil)
    · have ei : i = as.length := by omega
      subst ei
      rw [List.take_length] at rr
      have hxo : off H' O D = some (.lst xs) := by rw [off_get (Z1.notOwn hD)]; exact hx
      refine .inl ⟨t2, q _ H' (s1.trans sm) ⟨D, xs, rfl, SqL.of hxo, Nf.wk (Z1.free0 hD) hxo, ?_⟩⟩
      · exact pr_imp (fun _ _ z => rp_mono (off_less fun _ w => .inl w) z) rr
theorem teC_ok {C : Addr} {s : Shared} {H : Hp} {fp : List Addr} : PE (blk X (cN X tn js) scope C s H fp) elt (teC X tn js scope elt β b') := by
  with_unfolding_all
    exact fun pins s' σ H' Q I ⟨Γ', v, h, q⟩ => (show PE (blk X (cN X tn js) scope C s H fp) elt (tV X.K Γ' b' v) from h C s H fp) pins s' σ H' Q I q
theorem ttC_ok {C : Addr} {s : Shared} {H : Hp} {fp : List Addr} : PF (blk X (cN X tn js) scope C s H fp) ifs (ttC X tn js scope ifs) := by
  with_unfolding_all
    exact fun pins s' σ H' Q I ⟨Γ', c, h, q⟩ => (show PF (blk X (cN X tn js) scope C s H fp) ifs (tVT X.K Γ' c) from h C s H fp) pins s' σ H' Q I q
theorem e_compF (tn : List Str) (js : List Nat) (S : CScope X scope tn js) (he : EI X Γ target iter b as) (hgp : GP g α put tc X.K) (hg : ∀ C s H fp, PG (blk X (cN X tn js) scope C s H fp) target g) (htc : ∀ j, tc j → j < tn.length)
    (ht : ∀ (i : Nat) (a : α), as[i]? = some a → ∀ C s H fp, FT (blk X (cN X tn js) scope C s H fp) (put b a (cΓ Γ tn js)) ifs (p a))
    (hb : ∀ (i : Nat) (a : α), as[i]? = some a → p a = true → ∀ C s H fp, E (blk X (cN X tn js) scope C s H fp) (put b a (cΓ Γ tn js)) elt b' (f a)) (hl : as.length ≤ 1000) (hc : X.calm = true := by rfl)
    (hs : ∀ x, foldedSetIterable iter X.env x = pure x := by intro _; rfl) : E X Γ (.ListComp elt [⟨target, iter, ifs, 0⟩] scope pos) b' ((as.filter p).map f) := by
  with_unfolding_all
    obtain ⟨wi, hi, hw⟩ := he
    exact pe_wk (pe_lc S hc hi (fun C s H fp => ⟨hg C s H fp, ttC_ok, teC_ok⟩) hs) fun σ H Q ⟨H0, F, O, Z, q⟩ => comp_wk hw hgp htc ht hb hl Z q
theorem e_comp (tn : List Str) (js : List Nat) (S : CScope X scope tn js) (he : EI X Γ target iter b as) (hgp : GP g α put tc X.K) (hg : ∀ C s H fp, PG (blk X (cN X tn js) scope C s H fp) target g) (htc : ∀ j, tc j → j < tn.length)
    (hb : ∀ (i : Nat) (a : α), as[i]? = some a → ∀ C s H fp, E (blk X (cN X tn js) scope C s H fp) (put b a (cΓ Γ tn js)) elt b' (f a)) (hl : as.length ≤ 1000) (hc : X.calm = true := by rfl)
    (hs : ∀ x, foldedSetIterable iter X.env x = pure x := by intro _; rfl) : E X Γ (.ListComp elt [⟨target, iter, [], 0⟩] scope pos) b' (as.map f) := by
  with_unfolding_all
    have h := e_compF (pos := pos) (p := fun _ => true) tn js S he hgp hg htc (fun i a _ C s H fp => ft_nil) (fun i a ha _ => hb i a ha) hl hc hs
    rw [List.filter_eq_self.mpr (fun _ _ => rfl)] at h
    exact h
theorem s_compF (i : Nat) {y : Str} {py spos : Pos} {rest : List Stmt} (hN : X.N.Nodup) (tn : List Str) (js : List Nat) (S' : CScope X scope tn js) (he : EI X Γ target iter b as) (hgp : GP g α put tc X.K) (hg : ∀ C s H fp, PG (blk X (cN X tn js) scope C s H fp) target g) (htc : ∀ j, tc j → j < tn.length)
    (ht : ∀ (i : Nat) (a : α), as[i]? = some a → ∀ C s H fp, FT (blk X (cN X tn js) scope C s H fp) (put b a (cΓ Γ tn js)) ifs (p a))
    (hb : ∀ (i : Nat) (a : α), as[i]? = some a → p a = true → ∀ C s H fp, E (blk X (cN X tn js) scope C s H fp) (put b a (cΓ Γ tn js)) elt b' (f a)) (hl : as.length ≤ 1000)
    (h : S X (Γ.set i (some (.val b' ((as.filter p).map f)))) rest D) (hiN : X.N[i]? = some y := by rfl) (hy : Loc X.env.scope y := by first | exact Or.inl rfl | exact Or.inr rfl)
    (hf : X.fn y = true ∨ X.env.scope.names.lookup y = some .local := by first | exact .inl rfl | exact .inr rfl) (hc : X.calm = true := by rfl)
    (hsw : swapsWith (.ListComp elt [⟨target, iter, ifs, 0⟩] scope pos) (some (.Name y py)) spos.line X.env = pure true := by rfl)
    (hs : ∀ x, foldedSetIterable iter X.env x = pure x := by intro _; rfl) : EP.S X Γ (.Assign [.Name y py] (.ListComp elt [⟨target, iter, ifs, 0⟩] scope pos) spos :: rest) D := by
  with_unfolding_all
    obtain ⟨wi, hi, hw⟩ := he
    exact s_seq (ps_wk (ps_setLC hN hiN hy hf S' hc hi (fun C s H fp => ⟨hg C s H fp, ttC_ok, teC_ok⟩) hsw hs) fun De σ H ⟨H0, F, O, Z, n, _⟩ => comp_wk hw hgp htc ht hb hl Z fun v H1 s1 r1 => n _ _ H1 O (off_mono s1) ((Z.go s1).set r1) h)
theorem s_comp (i : Nat) {y : Str} {py spos : Pos} {rest : List Stmt} (hN : X.N.Nodup) (tn : List Str) (js : List Nat) (S' : CScope X scope tn js) (he : EI X Γ target iter b as) (hgp : GP g α put tc X.K) (hg : ∀ C s H fp, PG (blk X (cN X tn js) scope C s H fp) target g) (htc : ∀ j, tc j → j < tn.length)
    (hb : ∀ (i : Nat) (a : α), as[i]? = some a → ∀ C s H fp, E (blk X (cN X tn js) scope C s H fp) (put b a (cΓ Γ tn js)) elt b' (f a)) (hl : as.length ≤ 1000)
    (h : S X (Γ.set i (some (.val b' (as.map f)))) rest D) (hiN : X.N[i]? = some y := by rfl) (hy : Loc X.env.scope y := by first | exact Or.inl rfl | exact Or.inr rfl)
    (hf : X.fn y = true ∨ X.env.scope.names.lookup y = some .local := by first | exact .inl rfl | exact .inr rfl) (hc : X.calm = true := by rfl)
    (hsw : swapsWith (.ListComp elt [⟨target, iter, [], 0⟩] scope pos) (some (.Name y py)) spos.line X.env = pure true := by rfl)
    (hs : ∀ x, foldedSetIterable iter X.env x = pure x := by intro _; rfl) : EP.S X Γ (.Assign [.Name y py] (.ListComp elt [⟨target, iter, [], 0⟩] scope pos) spos :: rest) D := by
  with_unfolding_all
    refine s_compF (p := fun _ => true) i hN tn js S' he hgp hg htc (fun i a _ C s H fp => ft_nil) (fun i a ha _ => hb i a ha) hl ?_ hiN hy hf hc hsw hs
    rw [List.filter_eq_self.mpr (fun _ _ => rfl)]
    exact h
end
end L2.EP

namespace L2.EP
open PySem PySem.Spec PyProof.Rows
theorem bools_of : ∀ {bs : List Bool} {us : List Value}, Vals (bs.map V.bl) us → LSm.BoolsAre us bs
  | [], _, h => by cases h; exact .nil
  | b :: r, _, h => by
    cases h with
    | cons h1 h2 => cases h1; exact .cons b (bools_of h2)
section
variable {X : Cx}
theorem call_allL (hc : X.calm = true) : CallR X (.builtin "all") (fun xs H Q => ∃ p, ∃ bs : List Bool, xs = [.ref p] ∧ SqL X.K H p (bs.map V.bl) ∧ Q (.bl (bs.all id)) H) := by
  intro pins s σ H xs us Q I r h
  obtain ⟨p, bs, rfl, sq, q⟩ := h
  obtain ⟨u, rfl, rx⟩ := vals1 r
  cases rx
  obtain ⟨its, rr, pl, _⟩ := I.list sq
  have hb := bools_of rr
  have hl := pl.isList
  have hlt : p < s.heap.objs.size := by obtain ⟨_, e, _⟩ := hl; exact Heap.lt_size e
  refine call_all_walk (wpAny_pyIter_list hl ?_)
  refine ⟨s.heap.objs.size, [s.heap.objs.size, p], [s.heap.objs.size], its.toArray.size, _, _, fun i => (bs[i]?).getD true, rfl, Walks.list (A := X.A.in1) (I.ok.hd hc) _ p (Nat.ne_of_lt hlt) its.toArray,
    ⟨⟨_, Heap.get?_push_size _ rfl, rfl, rfl⟩, hl.push _⟩, fun i v s' Q' E' hP hQ => ?_, fun h' tk hk => ?_⟩
  · obtain ⟨b, e, rfl⟩ := hb.get i v (by simpa using hP)
    simp only [e, Option.getD_some] at hQ
    exact wpAny_truthy_bool hQ
  · have e : ((List.range its.toArray.size).all fun i => (bs[i]?).getD true) = bs.all id := by
      rw [List.size_toArray, hb.length]; exact LSm.range_all bs
    rw [e]
    exact ⟨.bl _, H, I.kept (LSm.kept_iter hk), rfl, q⟩
theorem call_sumL (hc : X.calm = true) : CallR X (.builtin "sum") (fun xs H Q => ∃ p, ∃ ns : List Int, xs = [.ref p] ∧ SqL X.K H p (ns.map V.int) ∧ Q (.int ns.sum) H) := by
  intro pins s σ H xs us Q I r h
  obtain ⟨p, ns, rfl, sq, q⟩ := h
  obtain ⟨u, rfl, rx⟩ := vals1 r
  cases rx
  obtain ⟨its, rr, pl, _⟩ := I.list sq
  have hi := intsAre_of rr
  obtain ⟨ys, hx⟩ := hi.allInts.items
  have hl' : s.heap.IsList p (intItems ys) := hx ▸ pl.isList
  refine sum_intListG (I.ok.hd hc) hl' fun h' tk t' hk => ?_
  have e1 : ns = ys.toList.map (·.1) := by
    rw [← nums_intItems, ← hx]
    exact (show numsOf its.toArray.toList = ns from hi.numsOf).symm
  have e2 : preSum (numAt ys) ys.size = ns.sum := by
    rw [preSum_eq, List.take_of_length_le (by simp), e1]
  rw [e2]
  exact ⟨.int _, H, I.kept hk, ⟨_, rfl⟩, q⟩
end
theorem pr_bl {K : PySem.W.Frag} {N : Nn} {H : Hp} : ∀ {xs : List V} {bs : List Bool}, Paired (fun x (b : Bool) => Py.rp K N H x b) xs bs → xs = bs.map V.bl
  | _, _, .nil => rfl
  | _, _, .cons h t => by rw [show _ = V.bl _ from h, pr_bl t]; rfl
theorem pr_int {K : PySem.W.Frag} {N : Nn} {H : Hp} : ∀ {xs : List V} {bs : List Int}, Paired (fun x (b : Int) => Py.rp K N H x b) xs bs → xs = bs.map V.int
  | _, _, .nil => rfl
  | _, _, .cons h t => by rw [show _ = V.int _ from h, pr_int t]; rfl
section
variable {X : Cx} {Γ : GEnv} {α β γ : Type} [Py α] [Py β] [Py γ] {e e1 e2 e3 : Expr} {b b1 b2 b3 : Bool} {pos : Pos}
theorem e_all {bs : List Bool} {p : Pos} (hc : X.calm = true) (hg : Gl X "all") (hm : X.mg "all" = none) (ha : E X Γ e b bs) (hs : starEach [e] X.env = (false, eval e X.env) :: starEach [] X.env := by rfl) : E X Γ (.Call (.Name "all" p) [e] [] pos) true (bs.all id) := by
  with_unfolding_all
    exact pe_wk (pe_callB (call_allL hc) hg hm PyProof.Rows.boot_all (pa_cons ha pa_nil hs) (he := hs)) fun σ H Q ⟨H0, F, O, S, q⟩ => ⟨H0, F, O, S, fun v H1 s1 r1 => by
        obtain ⟨p, vs, e, sq, n, r⟩ := r1
        rw [pr_bl r] at sq
        exact ⟨p, bs, by rw [e], (off_same _ _).seq sq, q _ H1 s1 rfl⟩⟩
theorem e_sum {ns : List Int} {p : Pos} (hc : X.calm = true) (hg : Gl X "sum") (hm : X.mg "sum" = none) (ha : E X Γ e b ns) (hs : starEach [e] X.env = (false, eval e X.env) :: starEach [] X.env := by rfl) : E X Γ (.Call (.Name "sum" p) [e] [] pos) true ns.sum := by
  with_unfolding_all
    exact pe_wk (pe_callB (call_sumL hc) hg hm PyProof.Rows.boot_sum (pa_cons ha pa_nil hs) (he := hs)) fun σ H Q ⟨H0, F, O, S, q⟩ => ⟨H0, F, O, S, fun v H1 s1 r1 => by
        obtain ⟨p, vs, e, sq, n, r⟩ := r1
        rw [pr_int r] at sq
        exact ⟨p, ns, by rw [e], (off_same _ _).seq sq, q _ H1 s1 rfl⟩⟩
theorem e_from {xs : List α} {k : Int} {p2 : Pos} (ha : E X Γ e1 b xs) (hb : E X Γ e2 b2 k) (h0 : 0 ≤ k) : E X Γ (.Subscript e1 (.Slice (some e2) none none p2) pos) b (xs.drop k.toNat) := by
  with_unfolding_all
    exact pe_wk (pe_slice sl_list ha (po_some hb) po_none) fun σ H Q ⟨H0, F, O, S, q⟩ => ⟨H0, F, O, S, fun v H1 s1 r1 => ⟨H0, F, O, S.go s1, fun w H2 s2 r2 => by
        obtain ⟨p, vs, e, sq, n, r⟩ := r1
        refine ⟨k, r2, p, vs, e, (off_same _ _).seq ((off_mono s2).seq sq), fun l hl => ?_⟩
        obtain ⟨z1, z2⟩ := laid_lst (xs := cutV vs (some k) none) ((S.go s1).go s2) hl
        refine q _ _ (s1.trans (s2.trans z1)) ⟨l, _, rfl, SqL.of z2, Nf.wk (((S.go s1).go s2).free0 hl) z2, ?_⟩
        have ec : cutV vs (some k) none = vs.drop k.toNat := by
          unfold cutV
          have hk : k = ((k.toNat : Nat) : Int) := by omega
          rw [hk, HT.sIx_nat, HT.sIx_none]
          simp only [Int.toNat_natCast]
          by_cases hkn : k.toNat ≤ vs.length
          · rw [Nat.min_eq_left hkn, List.take_of_length_le (by rw [List.length_drop]; exact Nat.le_refl _)]
          · rw [Nat.min_eq_right (by omega), List.drop_eq_nil_of_le (Nat.le_refl _), List.drop_eq_nil_of_le (by omega)]; simp
        have rr := pr_imp (fun _ _ z => rp_mono ((off_mono s2).trans (off_mono z1)) z) (pr_drop k.toNat r)
        rw [← ec] at rr
        exact rr⟩⟩
end
end L2.EP

namespace L2.EP
open PySem PySem.Spec PyProof.Rows
def ckS (osc : Scope) (N : List Str) (scope : Scope) (js : List Nat) : Bool :=
  (scope.kind == .function) && scope.names.all (fun x => (!(x.2 == .local) || scope.names.lookup x.1 == some .local) && (!(x.2 == .free) || (scope.names.lookup x.1 == some .free && (osc.names.lookup x.1 == some .cell || osc.names.lookup x.1 == some .free))) && scope.names.all (fun y => !(x.1 == y.1) || x.2 == y.2)) &&
    js.all (fun j => match N[j]? with | some x => scope.names.lookup x == some .free | none => false)
theorem cscope {X : Cx} {scope : Scope} {tn : List Str} {js : List Nat} (osc : Scope) (N : List Str) (h1 : X.env.scope = osc) (h2 : X.N = N) (h : ckS osc N scope js = true) : CScope X scope tn js := by
  subst h1 h2
  unfold ckS at h
  simp only [Bool.and_eq_true, List.all_eq_true] at h
  obtain ⟨⟨hk, ha⟩, hj⟩ := h
  refine ⟨by simpa using hk, fun x hx e => ?_, fun x hx e => ?_, fun x hx y hy e => ?_, fun j hjm => ?_⟩
  · obtain ⟨⟨h1, h2⟩, h3⟩ := ha x hx
    simpa [e] using h1
  · obtain ⟨⟨h1, h2⟩, h3⟩ := ha x hx
    have h2' : (scope.names.lookup x.1 == some .free && (X.env.scope.names.lookup x.1 == some .cell || X.env.scope.names.lookup x.1 == some .free)) = true := by simpa [e] using h2
    obtain ⟨q1, q2⟩ := Bool.and_eq_true_iff.mp h2'
    refine ⟨by simpa using q1, ?_⟩
    rcases Bool.or_eq_true_iff.mp q2 with z | z
    · exact .inl (show X.env.scope.names.lookup x.1 = _ by simpa using z)
    · exact .inr (show X.env.scope.names.lookup x.1 = _ by simpa using z)
  · obtain ⟨⟨h1, h2⟩, h3⟩ := ha x hx
    have := h3 y hy
    simpa [e] using this
  · have := hj j hjm
    split at this
    · rename_i x hx
      exact ⟨x, hx, by simpa using this⟩
    · cases this
theorem rel_at {env : Env} {x : Str} : ∀ (names : List (Str × NameKind)), (names.map fun (n, k) => if (k == NameKind.free && env.scope.kind == .function && env.kindOf n == some .cell) then (n, NameKind.cell) else (n, k)).lookup x =
    (names.lookup x).map fun k => if (k == NameKind.free && env.scope.kind == .function && env.kindOf x == some .cell) then NameKind.cell else k
  | [] => rfl
  | (n, k) :: r => by
    have ih := rel_at (env := env) (x := x) r
    by_cases e : x = n
    · subst e
      cases hc : (k == NameKind.free && env.scope.kind == .function && env.kindOf x == some .cell) <;>
        simp only [hc, List.map_cons, List.lookup_cons, beq_self_eq_true, if_true, Option.map_some, Bool.false_eq_true, if_false]
    · have hn : (x == n) = false := by simpa using e
      cases hc : (k == NameKind.free && env.scope.kind == .function && env.kindOf n == some .cell) <;>
        simp only [hc, hn, List.map_cons, List.lookup_cons, if_true, Bool.false_eq_true, if_false] <;> exact ih
theorem relabel_cell {env : Env} {names : List (Str × NameKind)} {x : Str} (h : names.lookup x = some .cell) : (names.map fun (n, k) => if (k == NameKind.free && env.scope.kind == .function && env.kindOf n == some .cell) then (n, NameKind.cell) else (n, k)).lookup x = some .cell := by
  rw [rel_at, h]; rfl
theorem pg_cn {X : Cx} {scope : Scope} {tn : List Str} {js : List Nat} {C : Addr} {s : Shared} {H : Hp} {fp : List Addr} {x : Str} {pos : Pos} (i : Nat) (N : List Str) (h : cN X tn js = N := by rfl) (hd : N.Nodup := by decide +kernel) (hi : N[i]? = some x := by rfl)
    (hl : scope.names.lookup x = some .local ∨ scope.names.lookup x = some .cell := by first | exact .inl rfl | exact .inr rfl) : PG (blk X (cN X tn js) scope C s H fp) (.Name x pos) (gName i) := by
  refine pg_name (show (cN X tn js).Nodup by rw [h]; exact hd) (show (cN X tn js)[i]? = some x by rw [h]; exact hi) ?_ ?_
  · rcases hl with z | z
    · exact .inl (lookup_relabel_local z)
    · exact .inr (relabel_cell z)
  · rcases hl with z | z
    · exact .inr (lookup_relabel_local z)
    · refine .inl ?_
      show (match scope.names.lookup x with | some .cell => true | _ => false) = true
      rw [z]
theorem lt_of_eq {i n : Nat} (h : i < n := by decide) : ∀ j, j = i → j < n := fun j e => by rw [e]; exact h
end L2.EP

namespace L2.EP
open PySem PySem.Spec PyProof.Rows
section
variable {K : PySem.W.Frag} {H0 : Hp} {F O : Addr → Prop} {Γ : GEnv} {σ : St} {H H' : Hp}
theorem Sta.putOwn {v : V} {i : Nat} (Z : Sta K H0 F O Γ σ H) (sm : Same H H') (N : Addr → Prop) (hN : ∀ q, N q → H q = none ∧ ∃ xs : Mt, H' q = some (mo xs)) (g : Bd) (hg : g.isOwn) (hv : g.okD K H0 (fun p => O p ∨ N p) H' N v) :
    Sta K H0 F (fun p => O p ∨ N p) (Γ.set i (some g)) (σ.set i (some v)) H' ∧ Same (off H O) (off H' fun p => O p ∨ N p) := by
  have so : Same (off H O) (off H' fun p => O p ∨ N p) := fun b o h => by
    obtain ⟨h1, h2⟩ := off_some h
    have hb : ¬ N b := fun z => by rw [(hN b z).1] at h2; cases h2
    rw [off_get (by rintro (z | z); exact h1 z; exact hb z)]; exact sm _ _ h2
  refine ⟨⟨Z.same.trans sm, fun p h => .inl (Z.fo p h), Z.f0, fun p h => ?_, by rw [List.length_set, List.length_set]; exact Z.len, fun j g' e n => ?_, ?_⟩, so⟩
  · rcases h with h | h
    · obtain ⟨ys, q⟩ := Z.own p h
      exact ⟨ys, sm _ _ q⟩
    · exact (hN p h).2
  · by_cases hj : j = i
    · subst hj
      obtain ⟨hl, e'⟩ := get_set_some e
      subst e'; exact absurd hg n
    · rw [get_set_ne hj] at e
      obtain ⟨w, q1, q2⟩ := Z.at_ j g' e n
      refine ⟨w, by rw [get_set_ne hj]; exact q1, ?_⟩
      cases g' with
      | val b a => exact rp_mono so q2
      | own b as => exact q2
      | dpo a => exact q2
  · obtain ⟨D, d1, d2, d3⟩ := Z.dis
    refine ⟨fun j q => (j = i ∧ N q) ∨ (j ≠ i ∧ D j q), fun j k q h1 h2 => ?_, fun j q h => ?_, fun j g' e o => ?_⟩
    · rcases h1 with ⟨e1, n1⟩ | ⟨e1, n1⟩ <;> rcases h2 with ⟨e2, n2⟩ | ⟨e2, n2⟩
      · rw [e1, e2]
      · exact absurd (d2 k q n2).1 (Z.notOwn (hN q n1).1)
      · exact absurd (d2 j q n1).1 (Z.notOwn (hN q n2).1)
      · exact d1 j k q n1 n2
    · rcases h with ⟨_, n⟩ | ⟨_, n⟩
      · exact ⟨.inr n, Z.free0 (hN q n).1⟩
      · exact ⟨.inl (d2 j q n).1, (d2 j q n).2⟩
    · by_cases hj : j = i
      · subst hj
        obtain ⟨hl, e'⟩ := get_set_some e
        subst e'
        refine ⟨v, get_set_eq (by rw [Z.len]; exact hl), ?_⟩
        have : (fun q => (j = j ∧ N q) ∨ (j ≠ j ∧ D j q)) = N := funext fun q => propext ⟨fun z => by rcases z with ⟨_, z⟩ | ⟨z, _⟩; exact z; exact absurd rfl z, fun z => .inl ⟨rfl, z⟩⟩
        show Bd.okD K H0 (fun p => O p ∨ N p) H' (fun q => (j = j ∧ N q) ∨ (j ≠ j ∧ D j q)) v g
        rw [this]; exact hv
      · rw [get_set_ne hj] at e
        obtain ⟨w, q1, q2⟩ := d3 j g' e o
        refine ⟨w, by rw [get_set_ne hj]; exact q1, ?_⟩
        have : (fun q => (j = i ∧ N q) ∨ (j ≠ i ∧ D j q)) = D j := funext fun q => propext ⟨fun z => by rcases z with ⟨z, _⟩ | ⟨_, z⟩; exact absurd z hj; exact z, fun z => .inr ⟨hj, z⟩⟩
        show Bd.okD K H0 (fun p => O p ∨ N p) H' (fun q => (j = i ∧ N q) ∨ (j ≠ i ∧ D j q)) w g'
        rw [this]
        exact Bd.goD q2 (fun p ys _ z => sm _ _ z) so (fun p z => (d2 j p z).1) Z.own
theorem Sta.writeM {i : Nat} {g : Bd} (Z : Sta K H0 F O Γ σ H) (hg : Γ[i]? = some (some g)) (ho : g.isOwn) : ∃ v D, σ[i]? = some (some v) ∧ g.okD K H0 O H D v ∧ (∀ p, D p → O p ∧ H0 p = none) ∧
    ∀ (p : Addr) (ys : Mt) (g' : Option Bd), D p → (∀ g'', g' = some g'' → g''.isOwn ∧ g''.okD K H0 O (upd H p (mo ys)) D v) → Sta K H0 F O (Γ.set i g') σ (upd H p (mo ys)) ∧ off (upd H p (mo ys)) O = off H O := by
  obtain ⟨D, d1, d2, d3⟩ := Z.dis
  obtain ⟨v, q1, q2⟩ := d3 i g hg ho
  refine ⟨v, D i, q1, q2, d2 i, fun p ys g' hp hok => ?_⟩
  have hOp := (d2 i p hp).1
  have eo := off_upd (H := H) (o := mo ys) hOp
  refine ⟨⟨fun b o z => ?_, Z.fo, Z.f0, fun b hb => ?_, by rw [List.length_set]; exact Z.len, fun j g2 e n => ?_, D, d1, d2, fun j g2 e o => ?_⟩, eo⟩
  · have : b ≠ p := fun w => by rw [w, (d2 i p hp).2] at z; cases z
    rw [upd_ne this]; exact Z.same _ _ z
  · by_cases hbp : b = p
    · subst hbp; exact ⟨ys, upd_same⟩
    · rw [upd_ne hbp]; exact Z.own b hb
  · by_cases hj : j = i
    · subst hj
      have hl : j < Γ.length := (List.getElem?_eq_some_iff.mp hg).1
      rw [get_set_eq hl] at e
      have e' : g' = some g2 := Option.some.inj e
      exact absurd (hok g2 e').1 n
    · rw [get_set_ne hj] at e
      obtain ⟨w, q3, q4⟩ := Z.at_ j g2 e n
      refine ⟨w, q3, ?_⟩
      cases g2 with
      | val b a =>
        show Py.rp K _ (off (upd H p _) O) w a
        rw [eo]; exact q4
      | own b as => exact q4
      | dpo a => exact q4
  · by_cases hj : j = i
    · subst hj
      have hl : j < Γ.length := (List.getElem?_eq_some_iff.mp hg).1
      rw [get_set_eq hl] at e
      have e' : g' = some g2 := Option.some.inj e
      exact ⟨v, q1, (hok g2 e').2⟩
    · rw [get_set_ne hj] at e
      obtain ⟨w, q3, q4⟩ := d3 j g2 e o
      refine ⟨w, q3, Bd.goD q4 (fun q xs hq z => ?_) (by rw [eo]; exact Same.refl _) (fun q z => (d2 j q z).1) Z.own⟩
      have : q ≠ p := fun w => hj (d1 j i q hq (w ▸ hp))
      rw [upd_ne this]; exact z
theorem Sta.write {i : Nat} {g : Bd} (Z : Sta K H0 F O Γ σ H) (hg : Γ[i]? = some (some g)) (ho : g.isOwn) : ∃ v D, σ[i]? = some (some v) ∧ g.okD K H0 O H D v ∧ (∀ p, D p → O p ∧ H0 p = none) ∧
    ∀ (p : Addr) (ys : List V) (g' : Option Bd), D p → (∀ g'', g' = some g'' → g''.isOwn ∧ g''.okD K H0 O (upd H p (.lst ys)) D v) → Sta K H0 F O (Γ.set i g') σ (upd H p (.lst ys)) ∧ off (upd H p (.lst ys)) O = off H O := by
  obtain ⟨v, D, a, b, c, f⟩ := Z.writeM hg ho
  exact ⟨v, D, a, b, c, fun p ys => f p (.inl ys)⟩
theorem Sta.freeze {i : Nat} {g g' : Bd} (Z : Sta K H0 F O Γ σ H) (hg : Γ[i]? = some (some g)) (ho : g.isOwn) (hn : ¬ g'.isOwn)
    (hk : ∀ (D O' : Addr → Prop) v, g.okD K H0 O H D v → (∀ p, D p → H0 p = none ∧ ¬ O' p) → Same (off H O) (off H O') → (∀ p xs, Rt H p xs → Rt (off H O') p xs) → g'.ok K H0 O' H v) :
    ∃ O', Sta K H0 F O' (Γ.set i (some g')) σ H ∧ Same (off H O) (off H O') := by
  obtain ⟨D, d1, d2, d3⟩ := Z.dis
  obtain ⟨v, q1, q2⟩ := d3 i g hg ho
  have so : Same (off H O) (off H fun p => O p ∧ ¬ D i p) := off_less fun p h => h.1
  refine ⟨fun p => O p ∧ ¬ D i p, ⟨Z.same, fun p h => ⟨Z.fo p h, fun z => ?_⟩, Z.f0, fun p h => Z.own p h.1, by rw [List.length_set]; exact Z.len, fun j g2 e n => ?_, fun j q => j ≠ i ∧ D j q, fun j k q h1 h2 => d1 j k q h1.2 h2.2, fun j q h => ⟨⟨(d2 j q h.2).1, fun z => h.1 (d1 j i q h.2 z)⟩, (d2 j q h.2).2⟩, fun j g2 e o => ?_⟩, so⟩
  · obtain ⟨xs, w⟩ := Z.f0 p h
    rw [(d2 i p z).2] at w; cases w
  · by_cases hj : j = i
    · subst hj
      obtain ⟨_, e'⟩ := get_set_some e
      subst e'
      refine ⟨v, q1, hk (D j) _ v q2 (fun p z => ⟨(d2 j p z).2, fun w => w.2 z⟩) so fun p xs q => ?_⟩
      have hp : ∀ u, (H p = some (.tup u) ∨ ∃ o, H p = some (.frz o (.tup u))) → ¬ (O p ∧ ¬ D j p) := fun u z w => by
        obtain ⟨ys, w'⟩ := Z.own p w.1
        rcases z with z | ⟨o, z⟩
        · rw [z] at w'; rcases ys with ys | ys | ys <;> cases w'
        · rw [z] at w'; rcases ys with ys | ys | ys <;> cases w'
      have hp' := hp xs q.rd
      rcases q with q | ⟨o, q⟩
      · exact .inl (by rw [off_get hp']; exact q)
      · exact .inr ⟨o, by rw [off_get hp']; exact q⟩
    · rw [get_set_ne hj] at e
      obtain ⟨w, q3, q4⟩ := Z.at_ j g2 e n
      refine ⟨w, q3, ?_⟩
      cases g2 with
      | val b a => exact rp_mono so q4
      | own b as => exact q4
      | dpo a => exact q4
  · have hj : j ≠ i := by
      rintro rfl
      obtain ⟨_, e'⟩ := get_set_some e
      subst e'; exact hn o
    rw [get_set_ne hj] at e
    obtain ⟨w, q3, q4⟩ := d3 j g2 e o
    refine ⟨w, q3, ?_⟩
    have : (fun q => j ≠ i ∧ D j q) = D j := funext fun q => propext ⟨fun z => z.2, fun z => ⟨hj, z⟩⟩
    show Bd.okD K H0 (fun p => O p ∧ ¬ D i p) H (fun q => j ≠ i ∧ D j q) w g2
    rw [this]
    exact Bd.goD q4 (fun p ys _ z => z) so (fun p z => (d2 j p z).1) Z.own
theorem ok_own {α : Type} [Py α] {b : Bool} {as : List α} {D O' : Addr → Prop} {v : V} (h : (Bd.own b as).okD K H0 O H D v) (hD : ∀ p, D p → H0 p = none ∧ ¬ O' p) (so : Same (off H O) (off H O')) : (Bd.val b as).ok K H0 O' H v := by
  obtain ⟨p, xs, e, o, q, r⟩ := h
  have hx : off H O' p = some (.lst xs) := by rw [off_get (hD p o).2]; exact q
  exact ⟨p, xs, e, SqL.of hx, Nf.wk (hD p o).1 hx, pr_imp (fun _ _ z => rp_mono so z) r⟩
theorem ok_dpo {α : Type} [Py α] {a : α} {D O' : Addr → Prop} {v : V} (h : (Bd.dpo a).okD K H0 O H D v) (hD : ∀ p, D p → H0 p = none ∧ ¬ O' p) (ht : ∀ p xs, Rt H p xs → Rt (off H O') p xs) : (Bd.val true a).ok K H0 O' H v := by
  refine Py.tr (fun p xs q n => ?_) ht h
  obtain ⟨n1, n2⟩ := n
  have hx : off H O' p = some (mo xs) := by rw [off_get (hD p n1).2]; exact n2
  exact ⟨Mo.of hx, (hD p n1).1, hx⟩
end
section
variable {X : Cx} {Γ : GEnv} {D : GD} {α β γ : Type} [Py α] [Py β] [Py γ] {e e1 e2 : Expr} {b b1 b2 : Bool} {pos : Pos} {rest st : List Stmt}
theorem s_append (i : Nat) {as : List α} {a : α} {x : Str} {p ap cp : Pos} (hg : Γ[i]? = some (some (.own b as))) (he : E X Γ e b a) (hl : as.length ≤ 1000) (h : S X (Γ.set i (some (.own b (as ++ [a])))) rest D) (hi : X.N[i]? = some x := by rfl)
    (hv : Vis X.env.scope x := by first | exact Or.inl rfl | exact Or.inr (Or.inl rfl) | exact Or.inr (Or.inr rfl)) (hd : (x == ("__debug__" : Str)) = false := by decide) (hcd : (x == ("__classdict__" : Str)) = false := by decide)
    (hbase : attributeBase (.Name x p) "append" X.env (eval (.Name x p) X.env) = eval (.Name x p) X.env := by rfl)
    (hfew : ((backTo cp (starEach [e] X.env)).all (fun x => !x.1) && (backToKw cp (keywordEach [] X.env)).all (fun x => x.1.isSome)
      && decide (([e] : List Expr).length + ([] : List Keyword).length + (if ([] : List Keyword).isEmpty then 0 else 1) < 30)) = true := by rfl)
    (hline : (ap.endLine == cp.line) = true := by rfl) (hs : starEach [e] X.env = (false, eval e X.env) :: starEach [] X.env := by rfl) (hplain : (backTo cp (starEach [] X.env)).any (·.1) = false := by rfl)
    (hsw : swapsWith (.Call (.Attribute (.Name x p) "append" ap) [e] [] cp) none pos.line X.env = pure false := by rfl) :
    S X Γ (.Expr (.Call (.Attribute (.Name x p) "append" ap) [e] [] cp) pos :: rest) D := by
  with_unfolding_all
    exact s_seq (ps_wk (ps_expr (pe_bm PySem.F.plainAttrs_list PySem.F.slot_list_append PySem.F.type_list_append mt_append (pv i hi hv hd hcd) (pa_cons he pa_nil hs) hbase hfew hline hs hplain) hsw) fun De σ H ⟨H0, F, O, Z, n, _⟩ => by
        obtain ⟨v, Di, hv1, ⟨q, xs, hq1, hq2, hq3, hq4⟩, _, _⟩ := Z.write hg True.intro
        subst hq1
        refine ⟨.ref q, hv1, .inl ⟨rfl, xs, SqL.of hq3⟩, H0, F, O, Z, fun y H2 s2 ry => ⟨q, xs, y, rfl, rfl, s2 _ _ hq3, ?_, ?_⟩⟩
        · rw [pr_len hq4]; exact small1000 hl
        · obtain ⟨v', D', hv2, ⟨q', xs', w1, w2, w3, w4⟩, hO', wr⟩ := (Z.go s2).write hg True.intro
          rw [hv1] at hv2
          have ev : V.ref q = v' := by injection hv2 with z; injection z
          subst ev
          cases w1
          have ex : xs' = xs := by
            have := s2 _ _ hq3
            rw [w3] at this; cases this; rfl
          subst ex
          obtain ⟨Z', eo⟩ := wr q (xs' ++ [y]) (some (.own b (as ++ [a]))) w2 fun g'' e' => by
            cases e'
            refine ⟨True.intro, q, _, rfl, w2, upd_same, ?_⟩
            rw [off_upd (hO' q w2).1]
            exact pr_app w4 (.cons ry .nil)
          exact n _ _ _ _ (by rw [eo]; exact off_mono s2) Z' h)
theorem pss_frz {g g' : Bd} (i : Nat) (hg : Γ[i]? = some (some g)) (ho : g.isOwn) (hn : ¬ g'.isOwn)
    (hk : ∀ (H0 H : Hp) (O D O' : Addr → Prop) v, g.okD X.K H0 O H D v → (∀ p, D p → H0 p = none ∧ ¬ O' p) → Same (off H O) (off H O') → (∀ p xs, Rt H p xs → Rt (off H O') p xs) → g'.ok X.K H0 O' H v)
    (h : S X (Γ.set i (some g')) st D) : S X Γ st D := by
  with_unfolding_all
    exact pss_wk h fun De σ H ⟨H0, F, O, Z, n, r, bk, ct⟩ => by
      obtain ⟨O', Z', so⟩ := Z.freeze hg ho hn fun Di O' v => hk H0 H O Di O' v
      exact ⟨H0, F, O', Z', fun Γ2 σ2 H2 O2 sm => n Γ2 σ2 H2 O2 (so.trans sm), r, fun Γ2 σ2 H2 O2 sm => bk Γ2 σ2 H2 O2 (so.trans sm), fun Γ2 σ2 H2 O2 sm => ct Γ2 σ2 H2 O2 (so.trans sm)⟩
theorem s_freeze (i : Nat) {as : List α} (hg : Γ[i]? = some (some (.own b as))) (h : S X (Γ.set i (some (.val b as))) st D) : S X Γ st D := by
  with_unfolding_all
    exact pss_frz (g' := .val b as) i hg True.intro (fun z => z) (fun H0 H O Di O' v z1 z2 z3 _ => ok_own z1 z2 z3) h
theorem s_thaw (i : Nat) {a : α} (hg : Γ[i]? = some (some (.dpo a))) (h : S X (Γ.set i (some (.val true a))) st D) : S X Γ st D := by
  with_unfolding_all
    exact pss_frz (g' := .val true a) i hg True.intro (fun z => z) (fun H0 H O Di O' v z1 z2 _ z4 => ok_dpo z1 z2 z4) h
theorem t_borrow (i : Nat) {a : α} {c : Bool} (hg : Γ[i]? = some (some (.dpo a))) (h : T X (Γ.set i (some (.val true a))) e c) : T X Γ e c := by
  with_unfolding_all
    exact pt_wk h fun σ H Q ⟨H0, F, O, Z, q⟩ => by
      obtain ⟨O', Z', so⟩ := Z.freeze hg True.intro (g' := .val true a) (fun z => z) fun Di O' v z1 z2 _ z4 => ok_dpo z1 z2 z4
      exact ⟨H0, F, O', Z', q⟩
theorem s_asg2 (i j : Nat) {x y : Str} {u : α × β} {p1 p2 p3 : Pos} {k : Nat} (hN : X.N.Nodup) (he : E X Γ e b u) (h : S X ((Γ.set i (some (.val b u.1))).set j (some (.val b u.2))) rest D) (hc : X.calm = true := by rfl) (hi : X.N[i]? = some x := by rfl) (hj : X.N[j]? = some y := by rfl)
    (hx : Loc X.env.scope x := by first | exact Or.inl rfl | exact Or.inr rfl) (hy : Loc X.env.scope y := by first | exact Or.inl rfl | exact Or.inr rfl)
    (hf : X.fn x = true ∨ X.env.scope.names.lookup x = some .local := by first | exact .inl rfl | exact .inr rfl) (hf2 : X.fn y = true ∨ X.env.scope.names.lookup y = some .local := by first | exact .inl rfl | exact .inr rfl)
    (hs : swapsWithSole [.Tuple [.Name x p1, .Name y p2] k p3] e pos.line X.env = pure false := by rfl) (hw : swappedStores [.Tuple [.Name x p1, .Name y p2] k p3] e X.env = pure none := by rfl)
    (h1 : (assignEach [.Tuple [.Name x p1, .Name y p2] k p3] X.env).map (·.2) = [assign (.Tuple [.Name x p1, .Name y p2] k p3) X.env] := by rfl) (hn : (assignEach [.Name x p1, .Name y p2] X.env).length = 2 := by rfl)
    (hst : (assignEach [.Name x p1, .Name y p2] X.env).findIdx? (·.1) = none := by rfl) (ha1 : assignEach [.Name x p1, .Name y p2] X.env = (false, assign (.Name x p1) X.env) :: assignEach [.Name y p2] X.env := by rfl) (ha2 : assignEach [.Name y p2] X.env = (false, assign (.Name y p2) X.env) :: assignEach [] X.env := by rfl) :
    S X Γ (.Assign [.Tuple [.Name x p1, .Name y p2] k p3] e pos :: rest) D := by
  with_unfolding_all
    exact s_seq (ps_wk (ps_asg he (pg_tup hc (pgs_cons (pg_name hN hi hx hf) (pgs_cons (pg_name hN hj hy hf2) pgs_nil))) hs hw h1) fun De σ H ⟨H0, F, O, Z, n, _⟩ => ⟨H0, F, O, Z, fun v H1 s1 r1 => by
        obtain ⟨q, v1, v2, e', sq, g1, g2⟩ := r1
        refine ⟨q, _, e', sqT_rd (off_same _ _) sq, rfl, v1, [v2], rfl, v2, [], rfl, rfl, ?_⟩
        exact n _ _ H1 O (off_mono s1) (((Z.go s1).set g1).set g2) h⟩)
theorem gp_two (i j : Nat) {K : PySem.W.Frag} : GP (gTup K 2 (gCons (gName i) (gCons (gName j) gNil))) (α × β) (fun b u Γ => (Γ.set i (some (.val b u.1))).set j (some (.val b u.2))) (fun k => k = i ∨ k = j) K := fun b u H0 F O Γ σ H v Q Z r q => by
  obtain ⟨p, v1, v2, e', sq, g1, g2⟩ := r
  refine ⟨p, _, e', sqT_rd (off_same _ _) sq, rfl, v1, [v2], rfl, v2, [], rfl, rfl, ?_⟩
  exact q _ ((Z.set g1).set g2) (by rw [List.length_set, List.length_set]) fun k hk => by rw [get_set_ne fun z => hk (.inr z), get_set_ne fun z => hk (.inl z)]
end
end L2.EP

namespace L2
open PySem PySem.Spec PyProof.Rows
def Itz (K : PySem.W.Frag) (a b : Addr) : It :=
  ⟨fun i H => ∃ xs ys x y, SqL K H a xs ∧ SqL K H b ys ∧ xs[i]? = some x ∧ ys[i]? = some y,
   fun i H v H' => ∃ T x y, H T = none ∧ v = .ref T ∧ H' = upd H T (.tup [x, y]) ∧ (∀ xs, SqL K H a xs → xs[i]? = some x) ∧ ∀ ys, SqL K H b ys → ys[i]? = some y,
   fun i H => ∃ xs ys, SqL K H a xs ∧ SqL K H b ys ∧ (xs.length ≤ i ∨ ys.length ≤ i)⟩
theorem cls_ne {h : Heap} {a b : Addr} {o u : Obj} (e1 : h.get? a = some o) (e2 : h.get? b = some u) (d : o.cls ≠ u.cls) : a ≠ b := fun z => by
  subst z; rw [e1] at e2; cases e2; exact d rfl
theorem zip_apart {h : Heap} {z TI TO i1 i2 l1 l2 : Addr} {f0 va vb wa wb : Value} {k1 k2 : Nat} {xs ys : Array Value} (hz : IsZip h z TI TO f0) (hTI : IsPair h TI va vb) (hTO : IsPair h TO wa wb) (h1 : h.IsListIter i1 l1 k1) (h2 : h.IsListIter i2 l2 k2)
    (hl1 : h.IsList l1 xs) (hl2 : h.IsList l2 ys) (n1 : TI ≠ TO) (n2 : i1 ≠ i2) : ZipApart z TI TO i1 i2 l1 l2 := by
  obtain ⟨o1, a1, b1, _⟩ := h1
  obtain ⟨o2, a2, b2, _⟩ := h2
  obtain ⟨p1, c1, d1, _⟩ := hl1
  obtain ⟨p2, c2, d2, _⟩ := hl2
  have X : ∀ {s t : String}, s ≠ t → Value.type s ≠ Value.type t := fun ne e => ne (by injection e)
  exact ⟨cls_ne hTI hz (X (by decide)), cls_ne hTO hz (X (by decide)), cls_ne a1 hz (by rw [b1]; exact X (by decide)), cls_ne a2 hz (by rw [b2]; exact X (by decide)), n1, cls_ne hTI a1 (by rw [b1]; exact X (by decide)), cls_ne hTI a2 (by rw [b2]; exact X (by decide)),
    cls_ne hTO a1 (by rw [b1]; exact X (by decide)), cls_ne hTO a2 (by rw [b2]; exact X (by decide)), n2, cls_ne c1 hz (by rw [d1]; exact X (by decide)), cls_ne c1 hTO (by rw [d1]; exact X (by decide)), cls_ne c1 a1 (by rw [d1, b1]; exact X (by decide)), cls_ne c1 a2 (by rw [d1, b2]; exact X (by decide)),
    cls_ne c2 hz (by rw [d2]; exact X (by decide)), cls_ne c2 hTO (by rw [d2]; exact X (by decide)), cls_ne c2 a1 (by rw [d2, b1]; exact X (by decide)), cls_ne c2 a2 (by rw [d2, b2]; exact X (by decide))⟩
section
variable {X : Cx} {pins : List (Addr × Obj)} {σ : St} {H H' : Hp} {s : Shared}
theorem Inv.turnedT {h' : Heap} {t' : Nat} {ch : List Addr} {T : Addr} {xs : List V} (I : Inv X pins σ H s) (hT : s.heap.objs.size ≤ T) (k : ∀ b o, b ∉ ch → s.heap.get? b = some o → h'.get? b = some o) (th : ∀ b o, s.heap.get? b = some o → ∃ o', h'.get? b = some o') (hf : ∀ b ∈ ch, FpOk X pins H b)
    (new : ObjOk X.prog X.w (upd H T (.tup xs)) h' T (.tup xs)) : Inv X pins σ (upd H T (.tup xs)) { s with heap := h', toks := t' } := by
  with_unfolding_all
    have hn : H T = none := I.hok.fresh hT
    have nch : ∀ b u, H b = some u → b ∉ ch := fun b u e z => by rw [(hf b z).1] at e; cases e
    refine I.step (g' := s.gens) (d' := s.drawn) (ch := ch) (fun b hb => ⟨(hf b hb).2.2.2.1, (hf b hb).2.1, (hf b hb).2.2.2.2.1, (hf b hb).2.2.2.2.2⟩) (fun b o _ _ hc e _ => k b o hc e) (fun b o _ _ hc e _ => ⟨o.slots, k b o hc e⟩)
      (fun b o hc e n => by rw [upd_ne (Nat.ne_of_lt (Nat.lt_of_lt_of_le (Heap.lt_size e) hT))]; exact n) (fun b o hc e => ⟨o, k b o hc e⟩) (fun b ys e => by rw [upd_ne (ne_of_none e hn)]; exact e) (fun b u ys e => by rw [upd_ne (ne_of_none e hn)]; exact e) (fun b ps e => ⟨#[], by rw [upd_ne (ne_of_none e hn), e]; simp⟩) (fun m hm => ?_) (fun b u e => ?_) I.bare
    · obtain ⟨o, es, ep, ho, r⟩ := hm
      exact ⟨o, es, ep, k _ o (fun z => (hf _ z).2.1 rfl) ho, r⟩
    · by_cases hb : b = T
      · subst hb
        rw [upd_same] at e; cases e; exact new
      · rw [upd_ne hb] at e
        refine (I.hok b u e).stay (fun c v hc q => k c v ?_ q) (fun c z => ?_) fun c ys z => ?_
        · rcases hc with z | z
          · rw [z]; exact nch b u e
          · exact nch c _ z
        · rw [upd_ne (ne_of_none z hn)]; exact z
        · rw [upd_ne (ne_of_none z hn)]; exact z
end
theorem turn_zip {P : Program} {w : World} {K : PySem.W.Frag} {elts : List Expr} {kk : Nat} {tp : Pos} (z TI TO i1 i2 a b : Addr) (n1 : TI ≠ TO) (n2 : i1 ≠ i2) : Turn P w K (.Tuple elts kk tp) (Itz K a b) [z, TI, TO, i1, i2] z
    (fun i h => IsZip h z TI TO .none ∧ IsPair h TI (.ref i1) (.ref i2) ∧ (∃ x y, IsPair h TO x y) ∧ h.IsListIter i1 a i ∧ h.IsListIter i2 b i) where
  mem := by simp
  obj := fun i h st c hc => by
    obtain ⟨hz, hTI, ⟨x, y, hTO⟩, h1, h2⟩ := st
    have hc' : c = z ∨ c = TI ∨ c = TO ∨ c = i1 ∨ c = i2 := by simpa using hc
    rcases hc' with e | e | e | e | e
    · subst e; exact ⟨_, hz, fun v q => by cases q⟩
    · subst e; exact ⟨_, hTI, fun v q => by cases q⟩
    · subst e; exact ⟨_, hTO, fun v q => by cases q⟩
    · subst e; obtain ⟨o, q1, q2, q3⟩ := h1; exact ⟨o, q1, fun v q => by rw [q3] at q; cases q⟩
    · subst e; obtain ⟨o, q1, q2, q3⟩ := h2; exact ⟨o, q1, fun v q => by rw [q3] at q; cases q⟩
  keep := fun i h h' st k => by
    obtain ⟨hz, hTI, ⟨x, y, hTO⟩, h1, h2⟩ := st
    exact ⟨k z (by simp) _ hz, k TI (by simp) _ hTI, ⟨x, y, k TO (by simp) _ hTO⟩, h1.at fun o e => k i1 (by simp) o e, h2.at fun o e => k i2 (by simp) o e⟩
  item := by
    intro X hP hw hK hc i pins s σ H E I hf st hg
    subst hP hw hK
    obtain ⟨xs, ys, x, y, sx, sy, gx, gy⟩ := hg
    obtain ⟨hz, hTI, ⟨wa, wb, hTO⟩, h1, h2⟩ := st
    obtain ⟨ix, rx, px, _⟩ := I.list sx
    obtain ⟨iy, ry, py, _⟩ := I.list sy
    have D := zip_apart hz hTI hTO h1 h2 px.isList py.isList n1 n2
    obtain ⟨u, ux, uxr⟩ := rx.get gx
    obtain ⟨v, vy, vyr⟩ := ry.get gy
    refine wpAny_pyNext_zip_item D hz hTI hTO h1 h2 px.isList py.isList (by simpa using ux) (by simpa using vy) fun h' a1 a2 a3 a4 a5 a6 hk => ?_
    have hT0 : H s.heap.objs.size = none := I.hok.fresh (Nat.le_refl _)
    have I1 : Inv X pins σ (upd H s.heap.objs.size (.tup [x, y])) { s with heap := h', toks := s.toks } := by
      refine I.turnedT (ch := [z, TO, i1, i2]) (Nat.le_refl _) (fun c o hc' e => hk c o (fun q => hc' (by simp [q])) (fun q => hc' (by simp [q])) (fun q => hc' (by simp [q])) (fun q => hc' (by simp [q])) e) (fun c o e => ?_) (fun c hc' => hf c (by simp at hc' ⊢; rcases hc' with q | q | q | q <;> simp [q])) ?_
      · have hlt := Heap.lt_size e
        have : c < h'.objs.size := by rw [a6]; exact Nat.lt_succ_of_lt hlt
        by_cases q1 : c = z
        · subst q1; exact ⟨_, a1⟩
        by_cases q2 : c = TO
        · subst q2; exact ⟨_, a2⟩
        by_cases q3 : c = i1
        · subst q3; obtain ⟨o', q, _⟩ := a3; exact ⟨o', q⟩
        by_cases q4 : c = i2
        · subst q4; obtain ⟨o', q, _⟩ := a4; exact ⟨o', q⟩
        exact ⟨o, hk c o q1 q2 q3 q4 e⟩
      · exact ⟨by show 2 ≤ sizeLine; decide, [u, v], .cons uxr (.cons vyr .nil), ⟨_, a5, rfl, _, rfl⟩⟩
    refine ⟨_, rfl, ?_⟩
    have fz := hf z (by simp)
    refine wpAny_letOwnedTupleGo_zip a1 fun h2' hz' hs' => ?_
    have zT : z ≠ s.heap.objs.size := Nat.ne_of_lt (Heap.lt_size hz)
    have I2 : Inv X pins σ (upd H s.heap.objs.size (.tup [x, y])) { ({ s with heap := h', toks := s.toks } : Shared) with heap := h2', toks := s.toks } := I1.turned (fun c o hc' e => hs'.extBut c o hc' e) (by rw [upd_ne zT]; exact fz.1) fz.2.1 fz.2.2.2.1 fz.2.2.2.2.1 fz.2.2.2.2.2
    refine ⟨.ref s.heap.objs.size, upd H s.heap.objs.size (.tup [x, y]), I2, rfl, ⟨s.heap.objs.size, x, y, hT0, rfl, rfl, fun xs' sx' => ?_, fun ys' sy' => ?_⟩, ⟨hz', hs'.extBut _ _ D.TIz (hk _ _ D.TIz D.TITO D.TIi1 D.TIi2 hTI), ⟨_, _, hs'.extBut _ _ D.TOz a2⟩, a3.extBut hs'.extBut D.i1z, a4.extBut hs'.extBut D.i2z⟩, fun c hc' => ?_⟩
    · rw [I.list_inj sx' sx]; exact gx
    · rw [I.list_inj sy' sy]; exact gy
    · have hcl : c < s.heap.objs.size := by
        have hc2 : c = z ∨ c = TI ∨ c = TO ∨ c = i1 ∨ c = i2 := by simpa using hc'
        rcases hc2 with e | e | e | e | e
        · subst e; exact Heap.lt_size hz
        · subst e; exact Heap.lt_size hTI
        · subst e; exact Heap.lt_size hTO
        · subst e; obtain ⟨_, q, _⟩ := h1; exact Heap.lt_size q
        · subst e; obtain ⟨_, q, _⟩ := h2; exact Heap.lt_size q
      rw [upd_ne (Nat.ne_of_lt hcl)]; exact (hf c hc').1
  done := by
    intro X hP hw hK hc i pins s σ H E I hf st hg
    subst hP hw hK
    obtain ⟨xs, ys, sx, sy, hend⟩ := hg
    obtain ⟨hz, hTI, ⟨wa, wb, hTO⟩, h1, h2⟩ := st
    obtain ⟨ix, rx, px, _⟩ := I.list sx
    obtain ⟨iy, ry, py, _⟩ := I.list sy
    have D := zip_apart hz hTI hTO h1 h2 px.isList py.isList n1 n2
    refine wpAny_pyNext_zip_end (I.ok.hd hc) D hz hTI hTO h1 h2 px.isList py.isList ?_ fun h' hk => ⟨rfl, ?_⟩
    · rcases hend with q | q
      · left; simp [← rx.length]; omega
      · right; simp [← ry.length]; omega
    · have fz := hf z (by simp)
      have fo := hf TO (by simp)
      have f1 := hf i1 (by simp)
      have f2 := hf i2 (by simp)
      refine I.step (g' := s.gens) (d' := s.drawn) (t' := s.toks) (ch := [z, TO, i1, i2]) (fun b hb => ?_) (fun b o _ _ hc' e _ => hk b o (fun q => hc' (by simp [q])) (fun q => hc' (by simp [q])) (fun q => hc' (by simp [q])) (fun q => hc' (by simp [q])) e) (fun b o _ _ hc' e _ => ⟨o.slots, hk b o (fun q => hc' (by simp [q])) (fun q => hc' (by simp [q])) (fun q => hc' (by simp [q])) (fun q => hc' (by simp [q])) e⟩) (fun _ _ _ _ n => n)
        (fun b o hc' e => ⟨o, hk b o (fun q => hc' (by simp [q])) (fun q => hc' (by simp [q])) (fun q => hc' (by simp [q])) (fun q => hc' (by simp [q])) e⟩) (fun _ _ e => e) (fun _ _ _ e => e) (fun b ps e => ⟨#[], by rw [e]; simp⟩) (fun m hm => ?_) (fun b u e => ?_) I.bare
      · have q := hf b (by simp at hb ⊢; rcases hb with q | q | q | q <;> simp [q])
        exact ⟨q.2.2.2.1, q.2.1, q.2.2.2.2.1, q.2.2.2.2.2⟩
      · obtain ⟨o, es, ep, ho, r⟩ := hm
        exact ⟨o, es, ep, hk _ o (Ne.symm fz.2.1) (Ne.symm fo.2.1) (Ne.symm f1.2.1) (Ne.symm f2.2.1) ho, r⟩
      · have nn : ∀ c v, H c = some v → c ≠ z ∧ c ≠ TO ∧ c ≠ i1 ∧ c ≠ i2 := fun c v e => ⟨(fun q => by (rw [q, fz.1] at e; cases e)), (fun q => by (rw [q, fo.1] at e; cases e)), (fun q => by (rw [q, f1.1] at e; cases e)), (fun q => by (rw [q, f2.1] at e; cases e))⟩
        refine (I.hok b u e).stay (fun c v hc' q => ?_) (fun _ q => q) fun _ _ q => q
        have := nn c
        rcases hc' with e' | e'
        · subst e'; obtain ⟨w1, w2, w3, w4⟩ := nn c _ e; exact hk c v w1 w2 w3 w4 q
        · obtain ⟨w1, w2, w3, w4⟩ := nn c _ e'; exact hk c v w1 w2 w3 w4 q
  self := fun _ _ _ _ _ st h => wpAny_pyIter_zip st.1 h
section
variable {X : Cx} {elts : List Expr} {kk : Nat} {tp : Pos}
def iZip (K : PySem.W.Frag) (ta : TA) : TI := fun σ H R => ta σ H fun vs H1 => ∃ a b, vs = [.ref a, .ref b] ∧ (∃ xs, SqL K H1 a xs) ∧ (∃ ys, SqL K H1 b ys) ∧ R (Itz K a b) H1
theorem pi_zip {e1 e2 : Expr} {ta : TA} {p pos : Pos} (hg : Gl X "zip") (hm : X.mg "zip" = none) (ha : PA X [e1, e2] ta) (he : starEach [e1, e2] X.env = (false, eval e1 X.env) :: starEach [e2] X.env := by rfl)
    (hpl : (backTo pos (starEach [e2] X.env)).any (·.1) = false := by rfl) : PI X (.Tuple elts kk tp) (.Call (.Name "zip" p) [e1, e2] [] pos) (iZip X.K ta) := by
  intro pins s σ H R I h
  refine Call_ (ld_blt I hg hm PyProof.Rows.boot_zip (PyProof.Rows.callWith_type1 (thn (ha pos pins s σ H _ I h) fun us s1 ⟨vs, H1, I1, r1, q1⟩ => ?_) he hpl))
  obtain ⟨a, b, e, ⟨xs, sx⟩, ⟨ys, sy⟩, q⟩ := q1
  subst e
  obtain ⟨u, w', rfl, ra, rb⟩ := vals2 r1
  cases ra; cases rb
  obtain ⟨ix, rx, px, _⟩ := I1.list sx
  obtain ⟨iy, ry, py, _⟩ := I1.list sy
  refine call_zip_2 px.isList py.isList fun h' z1 z2 z3 z4 z5 z6 hk => ?_
  have I2 : Inv X pins σ H1 { s1 with heap := h', toks := s1.toks } := I1.kept hk
  refine wpAny_pyIter_zip (s := { s1 with heap := h' }) z1 ?_
  refine ⟨s1.heap.objs.size + 4, [s1.heap.objs.size + 4, s1.heap.objs.size + 2, s1.heap.objs.size + 3, s1.heap.objs.size, s1.heap.objs.size + 1], _, Itz X.K a b, H1, rfl, I2, turn_zip (s1.heap.objs.size + 4) (s1.heap.objs.size + 2) (s1.heap.objs.size + 3) s1.heap.objs.size (s1.heap.objs.size + 1) a b (Nat.ne_of_lt (Nat.lt_succ_self _)) (Nat.ne_of_lt (Nat.lt_succ_self _)), ⟨z1, z2, ⟨_, _, z3⟩, z4, z5⟩, fun c hc => ?_, q⟩
  have hge : s1.heap.objs.size ≤ c := by
    simp at hc
    rcases hc with e | e | e | e | e <;> subst e <;> omega
  exact I1.fpOk hge (I1.hok.fresh hge)
end
end L2
namespace L2.EP
open PySem PySem.Spec PyProof.Rows
section
variable {X : Cx} {Γ : GEnv} {α β : Type} [Py α] [Py β] {e1 e2 : Expr} {b1 b2 : Bool} {elts : List Expr} {kk : Nat} {tp p ps : Pos}
theorem ei_zip {xs : List α} {ys : List β} (hg : Gl X "zip") (hm : X.mg "zip" = none) (h1 : E X Γ e1 b1 xs) (h2 : E X Γ e2 b2 ys) (hs1 : starEach [e1, e2] X.env = (false, eval e1 X.env) :: starEach [e2] X.env := by rfl) (hs2 : starEach [e2] X.env = (false, eval e2 X.env) :: starEach [] X.env := by rfl)
    (hpl : (backTo ps (starEach [e2] X.env)).any (·.1) = false := by rfl) : EI X Γ (.Tuple elts kk tp) (.Call (.Name "zip" p) [e1, e2] [] ps) (b1 && b2) (xs.zip ys) := by
  with_unfolding_all
    exact ⟨_, pi_zip hg hm (pa_cons h1 (pa_cons h2 pa_nil hs2) hs1) hs1 hpl, fun σ H H0 F O R Z q => ⟨H0, F, O, Z, fun v H1 s1 r1 => ⟨H0, F, O, Z.go s1, fun w H2 s2 r2 => by
        obtain ⟨a, va, ea, sa, na, ra⟩ := r1
        obtain ⟨c, vc, ec, sc, nc, rc⟩ := r2
        have sa2 := (off_mono (O := O) s2).seq sa
        refine ⟨a, c, by rw [ea, ec], ⟨va, (off_same _ _).seq sa2⟩, ⟨vc, (off_same _ _).seq sc⟩, q _ H2 (s1.trans s2) fun H' O' hO' sm => ⟨fun i u hu => ?_, ?_⟩⟩
        · obtain ⟨hx, hy⟩ := List.getElem?_zip_eq_some.mp hu
          obtain ⟨x, gx, rx⟩ := pr_get ra hx
          obtain ⟨y, gy, ry⟩ := pr_get rc hy
          have sa' := (off_same _ _).seq (sm.seq sa2)
          have sc' := (off_same _ _).seq (sm.seq sc)
          refine ⟨⟨va, vc, x, y, sa', sc', gx, gy⟩, fun v' H'' hv => ?_⟩
          obtain ⟨T, x', y', hT, rfl, rfl, f1, f2⟩ := hv
          have ex := f1 va sa'
          have ey := f2 vc sc'
          rw [gx] at ex; cases ex
          rw [gy] at ey; cases ey
          have hTO : ¬ O' T := fun z => by
            obtain ⟨zs, w⟩ := hO' T z
            rw [hT] at w; cases w
          refine ⟨same_upd hT _, T, x, y, rfl, .inl (by rw [off_get hTO]; exact upd_same), ?_, ?_⟩
          · exact rp_wid (fun _ _ n => nf_and1 n) (rp_mono ((off_mono s2).trans (sm.trans (off_mono (same_upd hT _)))) rx)
          · exact rp_wid (fun _ _ n => nf_and2 n) (rp_mono (sm.trans (off_mono (same_upd hT _))) ry)
        · refine ⟨va, vc, (off_same _ _).seq (sm.seq sa2), (off_same _ _).seq (sm.seq sc), ?_⟩
          rw [pr_len ra, pr_len rc, List.length_zip]
          omega⟩⟩⟩
theorem pg_cn2 {scope : Scope} {tn : List Str} {js : List Nat} {C : Addr} {s : Shared} {H : Hp} {fp : List Addr} {x y : Str} {p1 p2 p3 : Pos} {k : Nat} (i j : Nat) (N : List Str) (hc : X.calm = true := by rfl) (h : cN X tn js = N := by rfl) (hd : N.Nodup := by decide +kernel) (hi : N[i]? = some x := by rfl) (hj : N[j]? = some y := by rfl)
    (hl : scope.names.lookup x = some .local ∨ scope.names.lookup x = some .cell := by first | exact .inl rfl | exact .inr rfl) (hl2 : scope.names.lookup y = some .local ∨ scope.names.lookup y = some .cell := by first | exact .inl rfl | exact .inr rfl) :
    PG (blk X (cN X tn js) scope C s H fp) (.Tuple [.Name x p1, .Name y p2] k p3) (gTup X.K 2 (gCons (gName i) (gCons (gName j) gNil))) :=
  pg_tup (X := blk X (cN X tn js) scope C s H fp) hc (pgs_cons (pg_cn i N h hd hi hl) (pgs_cons (pg_cn j N h hd hj hl2) pgs_nil))
theorem lt_of_eq2 {i j n : Nat} (h : i < n := by decide) (h2 : j < n := by decide) : ∀ k, k = i ∨ k = j → k < n := fun k e => by rcases e with e | e <;> rw [e] <;> assumption
end
end L2.EP

namespace L2.EP
open PySem PySem.Spec PyProof.Rows
class PyT (β : Type) [Py β] : Prop where
  free : ∀ {K : PySem.W.Frag} {N N' : Nn} {H H' : Hp} {v : V} {b : β}, (∀ p xs, Rt H p xs → Rt H' p xs) → Py.rp K N H v b → Py.rp K N' H' v b
  nl : ∀ {K : PySem.W.Frag} {N : Nn} {H : Hp} {q : Addr} {b : β} {xs : List V}, Py.rp K N H (.ref q) b → H q = some (.lst xs) → False
instance : PyT Int where
  free _ h := h
  nl h _ := nomatch h
instance : PyT Bool where
  free _ h := h
  nl h _ := nomatch h
instance {α β : Type} [Py α] [Py β] [PyT α] [PyT β] : PyT (α × β) where
  free t h := by
    obtain ⟨p, x, y, e, s, h1, h2⟩ := h
    exact ⟨p, x, y, e, t _ _ s, PyT.free t h1, PyT.free t h2⟩
  nl h e := by
    obtain ⟨p, x, y, e', s, h1, h2⟩ := h
    cases e'
    rcases s with s | ⟨o, s⟩
    · rw [e] at s; cases s
    · rw [e] at s; cases s
def tN {α : Type} [Py α] (K : PySem.W.Frag) (Γ : GEnv) (a : α) : TE := fun σ H Q => ∃ H0 F O, Sta K H0 F O Γ σ H ∧ ∀ v H', Same H H' → Py.rp K (.new H) (off H' O) v a → Q v H'
@[irreducible] def EN {α : Type} [Py α] (X : Cx) (Γ : GEnv) (e : Expr) (a : α) : Prop := PE X e (tN X.K Γ a)
section
variable {X : Cx} {Γ : GEnv} {D : GD} {α β γ : Type} [Py α] [Py β] [Py γ] {e e1 e2 : Expr} {b b1 b2 : Bool} {pos p : Pos} {rest st : List Stmt} {k : Nat} {name : Str} {ps : List Str}
theorem s_deep (i : Nat) {x : Str} {a : α} {p : Pos} (hN : X.N.Nodup) (he : EN X Γ e a) (h : S X (Γ.set i (some (.dpo a))) rest D) (hi : X.N[i]? = some x := by rfl) (hx : Loc X.env.scope x := by first | exact Or.inl rfl | exact Or.inr rfl)
    (hs : swapsWith e (some (.Name x p)) pos.line X.env = pure false := by rfl) (hf : X.fn x = true ∨ X.env.scope.names.lookup x = some .local := by first | exact .inl rfl | exact .inr rfl) : S X Γ (.Assign [.Name x p] e pos :: rest) D := by
  with_unfolding_all
    exact s_seq (ps_wk (ps_set hN hi hx he hs hf) fun De σ H ⟨H0, F, O, Z, n, _⟩ => ⟨H0, F, O, Z, fun v H1 s1 r1 => by
        obtain ⟨Z', so⟩ := Z.putOwn (i := i) (v := v) s1 (fun q => H q = none ∧ ∃ xs : Mt, H1 q = some (mo xs)) (fun q z => z) (Bd.dpo a) True.intro (by
          refine Py.tr (fun q xs sq nn => ?_) (fun q xs sq => Same.rt (off_same _ _) sq) r1
          have := (off_same _ _) _ _ nn.2
          exact ⟨Mo.of this, ⟨nn.1, xs, this⟩, this⟩)
        exact n _ _ _ _ so Z' h⟩)
end
end L2.EP

namespace L2.EP
open PySem PySem.Spec PyProof.Rows
section
variable {X : Cx} {Γ : GEnv} {α : Type} [Py α] {e : Expr} {b b' : Bool} {pos : Pos}
theorem E.up [PyT α] {a : α} (h : E X Γ e b a) : E X Γ e b' a := by
  with_unfolding_all
    exact pe_wk h fun σ H Q ⟨H0, F, O, S, q⟩ => ⟨H0, F, O, S, fun v H' s r => q v H' s (PyT.free (fun _ _ z => z) r)⟩
theorem e_up [PyT α] {a : α} (h : E X Γ e b a) : E X Γ e b' a := by
  with_unfolding_all
    exact E.up h
theorem e_listT [PyT α] {xs : List α} {p : Pos} (hg : Gl X "list") (hm : X.mg "list" = none) (ha : E X Γ e b xs) (hs : starEach [e] X.env = (false, eval e X.env) :: starEach [] X.env := by rfl) : E X Γ (.Call (.Name "list" p) [e] [] pos) true xs := by
  with_unfolding_all
    exact pe_wk (pe_callTy call_list_of hg hm PyProof.Rows.boot_list (pa_cons ha pa_nil hs) (he := hs)) fun σ H Q ⟨H0, F, O, S, q⟩ => ⟨H0, F, O, S, fun v H1 s1 r1 => by
        obtain ⟨p, vs, e, sq, n, r⟩ := r1
        refine ⟨p, vs, by rw [e], .inl ((off_same _ _).seq sq), fun l hl => ?_⟩
        obtain ⟨z1, z2⟩ := laid_lst (xs := vs) (S.go s1) hl
        exact q _ _ (s1.trans z1) ⟨l, vs, rfl, SqL.of z2, Nf.wk ((S.go s1).free0 hl) z2, pr_imp (fun _ _ z => PyT.free (fun _ _ t => Same.rt (off_mono z1) t) z) r⟩⟩
end
end L2.EP

namespace EP
theorem gcd_fmod (a b : Int) : Int.gcd b (a.fmod b) = Int.gcd a b := by
  rw [Int.fmod_def, Int.gcd_comm a b]
  exact Int.gcd_sub_mul_left_right ..
theorem fmod_lt (a b : Int) (hb : b ≠ 0) : (a.fmod b).natAbs < b.natAbs := by
  rcases Int.lt_or_gt_of_ne hb with h | h
  · have e := Int.neg_fmod_neg a b
    have h' : (0:Int) < -b := by omega
    have h1 := Int.fmod_nonneg_of_pos (-a) h'
    have h2 := Int.fmod_lt_of_pos (-a) h'
    omega
  · have h1 := Int.fmod_nonneg_of_pos a h
    have h2 := Int.fmod_lt_of_pos a h
    omega
def fd (t b : Int) : Int := if b < 0 then -(Int.gcd t b : Int) else (Int.gcd t b : Int)
def fr (t b : Int) : Int × Int := (t.fdiv (fd t b), b.fdiv (fd t b))
end EP

namespace EP
def fadd (u v : Int × Int) : Int × Int := fr (u.1 * v.2 + v.1 * u.2) (u.2 * v.2)
def fsub (u v : Int × Int) : Int × Int := fr (u.1 * v.2 - v.1 * u.2) (u.2 * v.2)
def fmul (u v : Int × Int) : Int × Int := fr (u.1 * v.1) (u.2 * v.2)
def fdv (u v : Int × Int) : Int × Int := fr (u.1 * v.2) (u.2 * v.1)
def Low (u : Int × Int) : Prop := 1 ≤ u.2 ∧ Int.gcd u.1 u.2 = 1
end EP

namespace EP
abbrev Fr := Int × Int
def rng (n : Nat) : List Int := (List.range n).map fun i : Nat => (i : Int)
def lcmB (us : List Fr) : Int := us.foldl (fun b u => (b * u.2).fdiv (Int.gcd b u.2 : Nat)) 1
def oob (us : List Fr) : List Int × Int := (us.map fun u => u.1 * (lcmB us).fdiv u.2, lcmB us)
def dotI (xs ys : List Int) : Int := ((xs.zip ys).map fun p => p.1 * p.2).sum
def sop (a b : List Int × Int) : Fr := fr (dotI a.1 b.1) (a.2 * b.2)
def dotF (us vs : List Fr) : Fr := (us.zip vs).foldl (fun acc p => fadd acc (fmul p.1 p.2)) (0, 1)
theorem mem_zip_l {α β : Type} {xs : List α} {ys : List β} {p : α × β} (h : p ∈ xs.zip ys) : p.1 ∈ xs ∧ p.2 ∈ ys := List.of_mem_zip (a := p.1) (b := p.2) h
abbrev Tb := List (List Fr)
def colm (T : Tb) (j : Int) : List Fr := T.map fun r => r.getD j.toNat (0, 1)
def tov (T : Tb) : Tb := (rng T.length).map (colm T)
def prd (A B : Tb) : Tb := A.map fun r => ((tov B).map oob).map (sop (oob r))
structure Sq (n : Nat) (T : Tb) : Prop where
  len : T.length = n
  row : ∀ r ∈ T, r.length = n
  low : ∀ r ∈ T, ∀ u ∈ r, Low u
theorem getD_mem {α : Type} {l : List α} {i : Nat} {d : α} (h : i < l.length) : l.getD i d ∈ l := by
  rw [List.getD_eq_getElem?_getD, List.getElem?_eq_getElem h]; exact List.getElem_mem h
def lsum (r : List Fr) (B : Tb) (j : Int) : Nat → Fr
  | 0 => (0, 1)
  | k + 1 => fadd (lsum r B j k) (fmul (r.getD k (0, 1)) ((B.getD k []).getD j.toNat (0, 1)))
def lprd (A B : Tb) : Tb := A.map fun r => (rng B.length).map fun j => lsum r B j r.length
def plL (n : Nat) (i : Int) : List Fr := (rng n).map fun j => if j = i then (1, 1) else (0, 1)
def plT (n : Nat) : Tb := (rng n).map fun i => plL n i
end EP

namespace L2.EP
open PySem PySem.Spec PyProof.Rows
section
variable {X : Cx} {Γ : GEnv} {D : GD} {α β : Type} [Py α] [Py β] {e e1 e2 : Expr} {b b1 b2 : Bool} {pos : Pos} {rest : List Stmt}
theorem S.nxW {D : GD} {nx' : GEnv → Prop} {st : List Stmt} (h : S X Γ st D) (w : ∀ Γ', D.nx Γ' → nx' Γ') : S X Γ st { D with nx := nx' } := by
  with_unfolding_all
    exact pss_wk h fun De σ H ⟨H0, F, O, Z, n, r, bk, ct⟩ => ⟨H0, F, O, Z, fun Γ' σ' H' O' sm Z' q => n Γ' σ' H' O' sm Z' (w Γ' q), r, bk, ct⟩
theorem s_ifJ {c : Bool} {body orelse : List Stmt} (J : GEnv → Prop) (hc : T X Γ e c) (h1 : c = true → S X Γ body { D with nx := J }) (h2 : c = false → S X Γ orelse { D with nx := J }) (h : ∀ Γ', J Γ' → S X Γ' rest D) : S X Γ (.If e body orelse pos :: rest) D := by
  with_unfolding_all
    exact s_if hc (fun z => (h1 z).nxW h) (fun z => (h2 z).nxW h)
def MgI (mg : Str → Option Value) (x : Str) (i : Int) : Prop := ∃ t, mg x = some (.int i t)
theorem e_glI {x : Str} {i : Int} (hg : Gl X x) (hm : MgI X.mg x i) (hd : (x == ("__debug__" : Str)) = false := by decide) : E X Γ (.Name x pos) true i := by
  with_unfolding_all
    obtain ⟨t, hm⟩ := hm
    exact pe_wk (pe_glob (v := .int i) hg hm ⟨t, rfl⟩ hd) fun σ H Q ⟨H0, F, O, S, q⟩ => q _ H (Same.refl _) rfl
end
theorem atGetD {α : Type} {xs : List α} {k : Int} {d : α} (h0 : 0 ≤ k) (h : k < (xs.length : Int)) : atI xs k = some (xs.getD k.toNat d) := by
  have hk : k.toNat < xs.length := by omega
  have e : k = ((k.toNat : Nat) : Int) := by omega
  have q : atI xs ((k.toNat : Nat) : Int) = some xs[k.toNat] := atI_nat (by rw [List.getElem?_eq_getElem hk])
  rw [← e] at q
  rw [q, List.getD_eq_getElem?_getD, List.getElem?_eq_getElem hk]; rfl
end L2.EP

namespace L2.EP
open PySem PySem.Spec PyProof.Rows
structure TupL (α : Type) where
  l : List α
def SqU (K : PySem.W.Frag) (H : Hp) (p : Addr) (xs : List V) : Prop := Rt H p xs ∨ ∃ (o : Obj) (its : Array Value) (n : Nat), K.lookup p = some o ∧ o.cls = .type "tuple" ∧ o.data = .seq its n ∧ its.size ≤ sizeLine ∧ Vals xs its.toList
theorem SqU.t {K : PySem.W.Frag} {H : Hp} {p : Addr} {xs : List V} (h : SqU K H p xs) : SqT K H p xs := h.imp Rt.rd id
theorem sqT_tr {K : PySem.W.Frag} {H H' : Hp} {p : Addr} {xs : List V} (t : ∀ p xs, Rt H p xs → Rt H' p xs) (h : SqU K H p xs) : SqU K H' p xs := h.imp (t _ _) id
instance {α : Type} [Py α] : Py (TupL α) where
  rp K N H v a := ∃ p xs, v = .ref p ∧ SqU K H p xs ∧ Paired (fun x b => Py.rp K N H x b) xs a.l
  tr l t h := by
    obtain ⟨p, xs, e, s, r⟩ := h
    exact ⟨p, xs, e, sqT_tr t s, pr_imp (fun _ _ q => Py.tr l t q) r⟩
instance {α β : Type} [Py α] [Py β] : Py (α ⊕ β) where
  rp K N H v a := match a with | .inl x => Py.rp K N H v x | .inr y => Py.rp K N H v y
  tr {K N N' H H' v a} l t h := by
    cases a with
    | inl x => exact Py.tr (α := α) l t h
    | inr y => exact Py.tr (α := β) l t h
theorem notNonL {α : Type} [Py α] (K : PySem.W.Frag) (N : Nn) (H : Hp) (a : List α) : ¬ Py.rp K N H .non a := fun ⟨_, _, e, _⟩ => nomatch e
section
variable {X : Cx} {Γ : GEnv} {D : GD} {α β : Type} [Py α] [Py β] {e e1 e2 tg : Expr} {b b1 b2 : Bool} {pos : Pos} {rest : List Stmt}
def MgT (K : PySem.W.Frag) (mg : Str → Option Value) (x : Str) (xs : List Int) : Prop := ∃ (p : Addr) (o : Obj) (its : Array Value) (n : Nat), mg x = some (.ref p) ∧ K.lookup p = some o ∧ o.cls = .type "tuple" ∧ o.data = .seq its n ∧ its.size ≤ sizeLine ∧ Vals (xs.map V.int) its.toList
theorem MgI.mk {K : PySem.W.Frag} {h : Heap} {mg : Str → Option Value} {x : Str} {i : Int} {t : Tok} (Y : K.In h) (G : h.Ns mainGlobals mg) (a : PySem.W.nsIn K mainGlobals x = some (some (.int i t))) : MgI mg x i := ⟨t, PySem.W.mg_of Y G a⟩
theorem MgT.mk {K : PySem.W.Frag} {h : Heap} {mg : Str → Option Value} {x : Str} {xs : List Int} {p : Addr} {od : Option Addr} {its : Array Value} {n : Nat} {osl : Array (Option Value)} (Y : K.In h) (G : h.Ns mainGlobals mg) (a : PySem.W.nsIn K mainGlobals x = some (some (.ref p)))
    (l : K.lookup p = some ⟨.type "tuple", od, .seq its n, osl⟩) (hz : its.size ≤ 1000) (hv : Vals (xs.map V.int) its.toList) : MgT K mg x xs := ⟨p, _, its, n, PySem.W.mg_of Y G a, l, rfl, rfl, Nat.le_of_lt (small1000 hz), hv⟩
theorem e_get {a : α} (h : E X Γ e b (some a)) : E X Γ e b a := by
  with_unfolding_all
    exact h
theorem e_some {a : α} (h : E X Γ e b a) : E X Γ e b (some a) := by
  with_unfolding_all
    exact h
theorem e_getO {o : Option α} {a : α} (h : E X Γ e b o) (ho : o = some a) : E X Γ e b a := by
  with_unfolding_all
    subst ho; exact h
end
section
variable {X : Cx} {Γ : GEnv} {D : GD} {α β γ : Type} [Py α] [Py β] [Py γ] {e e1 e2 e3 : Expr} {b b1 b2 b3 : Bool} {pos : Pos} {rest : List Stmt}
theorem t_chain {op op' : CmpOp} {x : α} {y : β} {z : γ} {c c' : Bool} (h1 : CV X op x y c) (h2 : CV X op' y z c') (ha : E X Γ e1 b1 x) (hb : E X Γ e2 b2 y) (hc : E X Γ e3 b3 z) (hm : lastMarks [op, op'] [e2, e3] = false := by with_unfolding_all rfl) : T X Γ (.Compare e1 [op, op'] [e2, e3] pos) (c && c') := by
  with_unfolding_all
    obtain ⟨r, ho, hr⟩ := h1
    obtain ⟨r', ho', hr'⟩ := h2
    exact pt_wk (pt_chain ho ho' ha hb hc hm) fun σ H Q ⟨H0, F, O, S, q⟩ => ⟨H0, F, O, S, fun v H1 s1 r1 => ⟨H0, F, O, S.go s1, fun w H2 s2 r2 =>
      hr _ _ H2 v w _ (rp_mono ((off_mono s2).trans (off_same _ _)) r1) (rp_mono (off_same _ _) r2) ⟨c, rfl, by
        cases c with
        | false => exact ⟨false, rfl, q H2 (s1.trans s2)⟩
        | true => exact ⟨H0, F, O, (S.go s1).go s2, fun u H3 s3 r3 => hr' _ _ H3 w u _ (rp_mono ((off_mono s3).trans (off_same _ _)) r2) (rp_mono (off_same _ _) r3) ⟨c', rfl, q H3 (s1.trans (s2.trans s3))⟩⟩⟩⟩⟩
end
def RTU : GD := { nx := fun _ => True, rt := fun _ => False }
section
variable {P : Program} {w : World} {K : PySem.W.Frag} {mg : Str → Option Value} {base : Heap} {N ps : List Str} {x qual : Str} {st : Stmt} {f : Addr} {k : Nat} {fd : FuncData}
theorem body_runU {gs : List Bd} {vs : List V} {H : Hp} {O : Addr → Prop} {b : Bool} {Q : VK} {cdv : Value} {A : Around} {outer : List Env} {s : Shared} {E : XK} (B : Body P w K mg base N qual st f k gs RTU) (hr : Room k (A.deeper (envOfC qual (defScope st) s.heap.objs.size f cdv)))
    (ho : OwnL H O) (h : Args K (off H O) vs gs) (q : ∀ r H', Same H H' → Py.rp K (Nf H b) (off H' O) r () → Q r H') :
    ∃ t, PSs (cxOf CX0 P w K mg base N qual (defScope st) f cdv A outer s H E).nox (defBody st) t ∧ t { nx := fun _ H' => Q .non H', rt := Q } (start N vs) H := by
  with_unfolding_all
    refine ⟨_, B cdv A outer s H E hr, H, O, O, sta_start ho h, fun _ _ H' _ _ Z _ => q .non H' Z.same rfl, fun g v H' sm z e => e.elim, fun _ _ _ _ _ _ z => z.elim, fun _ _ _ _ _ _ z => z.elim⟩
def unit1 {α : Type} (_ : α) : Unit := ()
theorem fn1U {α : Type} [Py α] {pre : α → Prop} {b : Bool} (F : Fun K x qual st f fd) (sc : FnScope N ps (defScope st)) (hl : ps.length = 1) (B : ∀ a, pre a → Body P w K mg base N qual st f k [.val false a] RTU) :
    FnOk P w K mg base CX0 (k + 1) f fd ps (sp1 K pre b (unit1 (α := α))) := by
  with_unfolding_all
    refine F.ok sc (fun vs H Q E h => ?_) fun cdv A outer s H vs Q E hr h => ?_
    · obtain ⟨O, v, a, _, rfl, _⟩ := h; rw [hl]; rfl
    · obtain ⟨O, v, a, ho, rfl, r, hp, q⟩ := h
      exact body_runU (B a hp) hr ho (.cons r .nil) q
end
end L2.EP

namespace L2.EP
open PySem PySem.Spec PyProof.Rows
theorem rd_tup_off {H : Hp} {O : Addr → Prop} (ho : ∀ p, O p → ∃ xs : Mt, H p = some (mo xs)) (p : Addr) (xs : List V) (h : Rt H p xs) : Rt (off H O) p xs := by
  have hn : ¬ O p := fun z => by
    obtain ⟨ys, e⟩ := ho p z
    rcases h with h | ⟨o, h⟩
    · rw [e] at h; rcases ys with ys | ys | ys <;> cases h
    · rw [e] at h; rcases ys with ys | ys | ys <;> cases h
  rcases h with h | ⟨o, h⟩
  · exact .inl (by rw [off_get hn]; exact h)
  · exact .inr ⟨o, by rw [off_get hn]; exact h⟩
theorem pr_cat {α β : Type} {F : α → β → Prop} : ∀ {l₁ l₂ : List α} {m₁ m₂ : List β}, Paired F l₁ m₁ → Paired F l₂ m₂ → Paired F (l₁ ++ l₂) (m₁ ++ m₂)
  | _, _, _, _, .nil, h => h
  | _, _, _, _, .cons h r, h' => .cons h (pr_cat r h')
section
variable {X : Cx} {Γ : GEnv} {D : GD} {α β γ : Type} [Py α] [Py β] [Py γ] {e e1 e2 : Expr} {b b1 b2 : Bool} {pos : Pos} {st rest : List Stmt}
def cInts : List Expr → Option (List Int)
  | [] => some []
  | .Constant (.int i) _ _ :: es => match cInts es with
    | some ns => some (i :: ns)
    | none => none
  | _ => none
theorem e_eq {a a' : α} (h : E X Γ e b a) (ha : a = a') : E X Γ e b a' := by
  with_unfolding_all
    subst ha; exact h
theorem en_lst [PyT α] {es : List Expr} {as : List α} (h : EA X Γ es b as) (hl : as.length ≤ 1000) : EN X Γ (.List es pos) as := by
  with_unfolding_all
    exact pe_wk (pe_lst h) fun σ H Q ⟨H0, F, O, S, q⟩ => ⟨H0, F, O, S, fun vs H1 s1 r1 => ⟨by rw [pr_len r1]; exact Nat.le_of_lt (small1000 hl), fun p hp => by
        obtain ⟨z1, z2⟩ := laid_lst (xs := vs) (S.go s1) hp
        exact q _ _ (s1.trans z1) ⟨p, vs, rfl, SqL.of z2, ⟨s1.free hp, z2⟩, pr_imp (fun _ _ r => PyT.free (fun _ _ w => w) (rp_mono (off_mono z1) r)) r1⟩⟩⟩
theorem s_d2o [PyT α] (i : Nat) (b : Bool) {as : List α} (hg : Γ[i]? = some (some (.dpo as))) (h : S X (Γ.set i (some (.own b as))) st D) : S X Γ st D := by
  with_unfolding_all
    exact pss_wk h fun De σ H ⟨H0, F, O, Z, n, r, bk, ct⟩ => by
      refine ⟨H0, F, O, ⟨Z.same, Z.fo, Z.f0, Z.own, by rw [List.length_set]; exact Z.len, fun j g e no => ?_, ?_⟩, n, r, bk, ct⟩
      · by_cases hj : j = i
        · subst hj
          have hl : j < Γ.length := (List.getElem?_eq_some_iff.mp hg).1
          rw [get_set_eq hl] at e
          have e' : Bd.own b as = g := Option.some.inj (Option.some.inj e)
          exact absurd (e' ▸ (True.intro : (Bd.own b as).isOwn)) no
        · rw [get_set_ne hj] at e
          exact Z.at_ j g e no
      · obtain ⟨D', d1, d2, d3⟩ := Z.dis
        refine ⟨D', d1, d2, fun j g e o => ?_⟩
        by_cases hj : j = i
        · subst hj
          have hl : j < Γ.length := (List.getElem?_eq_some_iff.mp hg).1
          rw [get_set_eq hl] at e
          have e' : Bd.own b as = g := Option.some.inj (Option.some.inj e)
          subst e'
          obtain ⟨v, q1, p, xs, q2, q3, q4, q5⟩ := d3 j _ hg True.intro
          exact ⟨v, q1, p, xs, q2, q4.1, q4.2, pr_imp (fun _ _ z => PyT.free (rd_tup_off Z.own) z) q5⟩
        · rw [get_set_ne hj] at e
          exact d3 j g e o
end
end L2.EP

namespace L2
open PySem PySem.Spec PyProof.Rows
section
variable {X : Cx} {pos : Pos}
def gLst (K : PySem.W.Frag) (n : Nat) (t : TGs) : TG := fun v σ H Q => ∃ a xs, v = .ref a ∧ SqL K H a xs ∧ xs.length = n ∧ t xs σ H Q
theorem pg_lst {es : List Expr} {k : Nat} {t : TGs} {n : Nat} (hc : X.calm = true) (h : PGs X es t)
    (hn : (assignEach es X.env).length = n := by rfl) (hst : (assignEach es X.env).findIdx? (·.1) = none := by rfl) : PG X (.Tuple es k pos) (gLst X.K n t) := by
  intro pins s σ H v u Q I r hw
  obtain ⟨a, xs, e1, hq, hl, hw⟩ := hw
  subst e1
  cases r
  obtain ⟨its, rv, ht, hz⟩ := I.list hq
  have hlen : (assignEach es X.env).length = its.toArray.size := by simp [hn, ← hl, rv.length]
  rw [assign_Tuple]
  refine wpAny_bind (wpAny_standAt ?_)
  unfold unpack
  rw [hlen, hst]
  refine wpAny_bind (wpAny_holding (PySem.W.kun_itemsOf (I.ok.hd hc) ht.isList fun h' hx => ?_))
  have I1 : Inv X pins σ H { s with heap := h' } := I.kept (t' := s.toks) fun b o e => hx b o (Nat.ne_of_lt (Heap.lt_size e)) e
  exact h pins _ σ H xs _ Q I1 (by simpa using rv) hw
end
end L2
namespace L2.EP
open PySem PySem.Spec PyProof.Rows
section
variable {X : Cx} {Γ : GEnv} {D : GD} {α β γ : Type} [Py α] [Py β] [Py γ] {e e1 e2 : Expr} {b b1 b2 : Bool} {pos : Pos} {rest st : List Stmt}
theorem s_asg2L (i j : Nat) {x y : Str} {u v : α} {p1 p2 p3 : Pos} {k : Nat} (hN : X.N.Nodup) (he : E X Γ e b [u, v]) (h : S X ((Γ.set i (some (.val b u))).set j (some (.val b v))) rest D) (hc : X.calm = true := by rfl) (hi : X.N[i]? = some x := by rfl) (hj : X.N[j]? = some y := by rfl)
    (hx : Loc X.env.scope x := by first | exact Or.inl rfl | exact Or.inr rfl) (hy : Loc X.env.scope y := by first | exact Or.inl rfl | exact Or.inr rfl)
    (hf : X.fn x = true ∨ X.env.scope.names.lookup x = some .local := by first | exact .inl rfl | exact .inr rfl) (hf2 : X.fn y = true ∨ X.env.scope.names.lookup y = some .local := by first | exact .inl rfl | exact .inr rfl)
    (hs : swapsWithSole [.Tuple [.Name x p1, .Name y p2] k p3] e pos.line X.env = pure false := by rfl) (hw : swappedStores [.Tuple [.Name x p1, .Name y p2] k p3] e X.env = pure none := by rfl)
    (h1 : (assignEach [.Tuple [.Name x p1, .Name y p2] k p3] X.env).map (·.2) = [assign (.Tuple [.Name x p1, .Name y p2] k p3) X.env] := by rfl) (hn : (assignEach [.Name x p1, .Name y p2] X.env).length = 2 := by rfl)
    (hst : (assignEach [.Name x p1, .Name y p2] X.env).findIdx? (·.1) = none := by rfl) (ha1 : assignEach [.Name x p1, .Name y p2] X.env = (false, assign (.Name x p1) X.env) :: assignEach [.Name y p2] X.env := by rfl) (ha2 : assignEach [.Name y p2] X.env = (false, assign (.Name y p2) X.env) :: assignEach [] X.env := by rfl) :
    S X Γ (.Assign [.Tuple [.Name x p1, .Name y p2] k p3] e pos :: rest) D := by
  with_unfolding_all
    exact s_seq (ps_wk (ps_asg he (pg_lst hc (pgs_cons (pg_name hN hi hx hf) (pgs_cons (pg_name hN hj hy hf2) pgs_nil))) hs hw h1) fun De σ H ⟨H0, F, O, Z, n, _⟩ => ⟨H0, F, O, Z, fun v H1 s1 r1 => by
        obtain ⟨q, vs, e', sq, _, rr⟩ := r1
        cases rr with
        | cons g1 rr =>
          cases rr with
          | cons g2 rr =>
            cases rr
            refine ⟨q, _, e', (off_same _ _).seq sq, rfl, _, [_], rfl, _, [], rfl, rfl, ?_⟩
            exact n _ _ H1 O (off_mono s1) (((Z.go s1).set g1).set g2) h⟩)
theorem e_to {xs : List α} {k : Int} {p2 : Pos} (ha : E X Γ e1 b xs) (hb : E X Γ e2 b2 k) (h0 : 0 ≤ k) : E X Γ (.Subscript e1 (.Slice none (some e2) none p2) pos) b (xs.take k.toNat) := by
  with_unfolding_all
    exact pe_wk (pe_slice sl_list ha po_none (po_some hb)) fun σ H Q ⟨H0, F, O, S, q⟩ => ⟨H0, F, O, S, fun v H1 s1 r1 => ⟨H0, F, O, S.go s1, fun w H2 s2 r2 => by
        obtain ⟨p, vs, e, sq, n, r⟩ := r1
        refine ⟨k, r2, p, vs, e, (off_same _ _).seq ((off_mono s2).seq sq), fun l hl => ?_⟩
        obtain ⟨z1, z2⟩ := laid_lst (xs := cutV vs none (some k)) ((S.go s1).go s2) hl
        refine q _ _ (s1.trans (s2.trans z1)) ⟨l, _, rfl, SqL.of z2, Nf.wk (((S.go s1).go s2).free0 hl) z2, ?_⟩
        have ec : cutV vs none (some k) = vs.take k.toNat := by
          unfold cutV
          have hk : k = ((k.toNat : Nat) : Int) := by omega
          rw [hk, HT.sIx_nat, HT.sIx_none]
          simp only [Int.toNat_natCast, List.drop_zero, Nat.sub_zero]
          by_cases hkn : k.toNat ≤ vs.length
          · rw [Nat.min_eq_left hkn]
          · rw [Nat.min_eq_right (by omega), List.take_of_length_le (Nat.le_refl _), List.take_of_length_le (by omega)]
        have rr := pr_imp (fun _ _ z => rp_mono ((off_mono s2).trans (off_mono z1)) z) (pr_take k.toNat r)
        rw [← ec] at rr
        exact rr⟩⟩
end
end L2.EP
namespace L2.EP
open PySem PySem.Spec PyProof.Rows
theorem op_catS {X : Cx} : OpR X (binaryOp .Add) (fun x y H Q => ∃ l b xs zs, x = .ref l ∧ y = .ref b ∧ SqL X.K H l xs ∧ SqL X.K H b zs ∧ xs.length + zs.length ≤ sizeLine ∧ ∀ p, H p = none → Q (.ref p) (upd H p (.lst (xs ++ zs)))) := by
  intro pins s σ H x y v u Q I rx ry h
  obtain ⟨l, b, xs, zs, rfl, rfl, hH, hB, hz, q⟩ := h
  cases rx
  cases ry
  obtain ⟨its, r, pl, _⟩ := I.list hH
  obtain ⟨its2, r2, pl2, _⟩ := I.list hB
  obtain ⟨⟨cls, dd, data, sl⟩, n, ho, hc, hdd, hd⟩ := pl
  obtain ⟨⟨cls2, dd2, data2, sl2⟩, n2, ho2, hc2, hdd2, hd2⟩ := pl2
  simp only at hc hdd hd hc2 hdd2 hd2
  subst hc hdd hd hc2 hdd2 hd2
  have l1 := r.length
  have l2 := r2.length
  have ea : its.toArray ++ its2.toArray = (its ++ its2).toArray := by simp
  refine concat_meets ⟨_, ho, rfl⟩ ⟨_, ho2, rfl⟩ noFill_list_add seq_list_add PySem.F.slot_list_add PySem.F.entry_list_add (PySem.F.args_list_add_2 _ _) (list_addW l b its.toArray its2.toArray n n2 none none sl sl2 (by rw [List.size_toArray, List.size_toArray]; omega)) ⟨ho, ho2, ?_⟩
  rw [ea]
  exact ⟨.ref _, _, I.lnew (t' := s.toks) (r.append r2) (by rw [List.length_append]; omega), rfl, q _ I.fresh⟩
section
variable {X : Cx} {Γ : GEnv} {D : GD} {α β γ : Type} [Py α] [Py β] [Py γ] {e e1 e2 : Expr} {b b1 b2 : Bool} {pos : Pos} {rest st : List Stmt}
theorem e_catT [PyT α] {xs ys : List α} (ha : E X Γ e1 b1 xs) (hb : E X Γ e2 b2 ys) (hl : xs.length + ys.length ≤ 1000) : E X Γ (.BinOp e1 .Add e2 pos) true (xs ++ ys) := by
  with_unfolding_all
    exact pe_wk (pe_op op_catS ha hb) fun σ H Q ⟨H0, F, O, S, q⟩ => ⟨H0, F, O, S, fun v H1 s1 r1 => ⟨H0, F, O, S.go s1, fun w H2 s2 r2 => by
        obtain ⟨p, vs, e1, sq1, n1, rr1⟩ := r1
        obtain ⟨p', vs', e2, sq2, n2, rr2⟩ := r2
        refine ⟨p, p', vs, vs', e1, e2, (off_same _ _).seq ((off_mono s2).seq sq1), (off_same _ _).seq sq2, by rw [pr_len rr1, pr_len rr2]; exact Nat.le_of_lt (small1000 hl), fun l hl' => ?_⟩
        obtain ⟨z1, z2⟩ := laid_lst (xs := vs ++ vs') ((S.go s1).go s2) hl'
        refine q _ _ (s1.trans (s2.trans z1)) ⟨l, _, rfl, SqL.of z2, Nf.wk (b := true) (((S.go s1).go s2).free0 hl') z2, pr_cat ?_ ?_⟩
        · exact pr_imp (fun _ _ z => PyT.free (fun _ _ t => Same.rt ((off_mono s2).trans (off_mono z1)) t) z) rr1
        · exact pr_imp (fun _ _ z => PyT.free (fun _ _ t => Same.rt (off_mono z1) t) z) rr2⟩⟩
end
end L2.EP
namespace L2.EP
open PySem PySem.Spec PyProof.Rows
def cIntsN : Nat → List Expr → Option (List Int)
  | 0, _ => some []
  | n + 1, .Constant (.int i) _ _ :: es => match cIntsN n es with
    | some ns => some (i :: ns)
    | none => none
  | _, _ => none
end L2.EP
namespace L2
open PySem PySem.Spec PyProof.Rows
def Ite (K : PySem.W.Frag) (a : Addr) : It :=
  ⟨fun i H => ∃ xs x, SqL K H a xs ∧ xs[i]? = some x,
   fun i H v H' => ∃ T x, H T = none ∧ v = .ref T ∧ H' = upd H T (.tup [.int (i : Int), x]) ∧ ∀ xs, SqL K H a xs → xs[i]? = some x,
   fun i H => ∃ xs, SqL K H a xs ∧ xs.length ≤ i⟩
theorem turn_enum {P : Program} {w : World} {K : PySem.W.Frag} {elts : List Expr} {kk : Nat} {tp : Pos} (z it a : Addr) : Turn P w K (.Tuple elts kk tp) (Ite K a) [z, it] z
    (fun i h => (∃ old, IsEnum h z it ((i : Nat) : Int) old) ∧ h.IsListIter it a i) where
  mem := by simp
  obj := fun i h st c hc => by
    obtain ⟨⟨old, hz⟩, h1⟩ := st
    have hc' : c = z ∨ c = it := by simpa using hc
    rcases hc' with e | e
    · subst e; exact ⟨_, hz, fun v q => by cases q⟩
    · subst e; obtain ⟨o, q1, q2, q3⟩ := h1; exact ⟨o, q1, fun v q => by rw [q3] at q; cases q⟩
  keep := fun i h h' st k => by
    obtain ⟨⟨old, hz⟩, h1⟩ := st
    exact ⟨⟨old, k z (by simp) _ hz⟩, h1.at fun o e => k it (by simp) o e⟩
  item := by
    intro X hP hw hK hc i pins s σ H E I hf st hg
    subst hP hw hK
    obtain ⟨xs, x, sx, gx⟩ := hg
    obtain ⟨⟨old, hz⟩, h1⟩ := st
    obtain ⟨ix, rx, px, _⟩ := I.list sx
    have X' : ∀ {s t : String}, s ≠ t → Value.type s ≠ Value.type t := fun ne e => ne (by injection e)
    have hne : z ≠ it := by
      obtain ⟨o1, a1, b1, _⟩ := h1
      exact cls_ne hz a1 (by rw [b1]; exact X' (by decide))
    obtain ⟨u, ux, uxr⟩ := rx.get gx
    refine wpAny_pyNext_enum_item hz h1 px.isList (by simpa using ux) hne fun h' a1 a3 a5 a6 hk => ?_
    have hT0 : H s.heap.objs.size = none := I.hok.fresh (Nat.le_refl _)
    have I1 : Inv X pins σ (upd H s.heap.objs.size (.tup [.int (i : Int), x])) { s with heap := h', toks := s.toks + 1 } := by
      refine I.turnedT (ch := [z, it]) (Nat.le_refl _) (fun c o hc' e => hk c o (fun q => hc' (by simp [q])) (fun q => hc' (by simp [q])) e) (fun c o e => ?_) (fun c hc' => hf c hc') ?_
      · by_cases q1 : c = z
        · subst q1; exact ⟨_, a1⟩
        by_cases q3 : c = it
        · subst q3; obtain ⟨o', q, _⟩ := a3; exact ⟨o', q⟩
        exact ⟨o, hk c o q1 q3 e⟩
      · exact ⟨by show 2 ≤ sizeLine; decide, [.int i s.toks, u], .cons ⟨_, rfl⟩ (.cons uxr .nil), ⟨_, a5, rfl, _, rfl⟩⟩
    refine ⟨_, rfl, ?_⟩
    have fz := hf z (by simp)
    refine wpAny_letOwnedTupleGo_enum a1 fun h2' hz' hs' => ?_
    have zT : z ≠ s.heap.objs.size := Nat.ne_of_lt (Heap.lt_size hz)
    have I2 : Inv X pins σ (upd H s.heap.objs.size (.tup [.int (i : Int), x])) { ({ s with heap := h', toks := s.toks + 1 } : Shared) with heap := h2', toks := s.toks + 1 } := I1.turned (fun c o hc' e => hs'.extBut c o hc' e) (by rw [upd_ne zT]; exact fz.1) fz.2.1 fz.2.2.2.1 fz.2.2.2.2.1 fz.2.2.2.2.2
    refine ⟨.ref s.heap.objs.size, upd H s.heap.objs.size (.tup [.int (i : Int), x]), I2, rfl, ⟨s.heap.objs.size, x, hT0, rfl, rfl, fun xs' sx' => ?_⟩, ⟨⟨_, hz'⟩, a3.extBut hs'.extBut (Ne.symm hne)⟩, fun c hc' => ?_⟩
    · rw [I.list_inj sx' sx]; exact gx
    · have hcl : c < s.heap.objs.size := by
        have hc2 : c = z ∨ c = it := by simpa using hc'
        rcases hc2 with e | e
        · subst e; exact Heap.lt_size hz
        · subst e; obtain ⟨_, q, _⟩ := h1; exact Heap.lt_size q
      rw [upd_ne (Nat.ne_of_lt hcl)]; exact (hf c hc').1
  done := by
    intro X hP hw hK hc i pins s σ H E I hf st hg
    subst hP hw hK
    obtain ⟨xs, sx, hend⟩ := hg
    obtain ⟨⟨old, hz⟩, h1⟩ := st
    obtain ⟨ix, rx, px, _⟩ := I.list sx
    refine wpAny_pyNext_enum_end (I.ok.hd hc) hz h1 px.isList ?_ fun h' hk => ⟨rfl, ?_⟩
    · have := rx.length
      simp; omega
    · have f1 := hf it (by simp)
      refine I.step (g' := s.gens) (d' := s.drawn) (t' := s.toks) (ch := [it]) (fun b hb => ?_) (fun b o _ _ hc' e _ => hk b o (fun q => hc' (by simp [q])) e) (fun b o _ _ hc' e _ => ⟨o.slots, hk b o (fun q => hc' (by simp [q])) e⟩) (fun _ _ _ _ n => n)
        (fun b o hc' e => ⟨o, hk b o (fun q => hc' (by simp [q])) e⟩) (fun _ _ e => e) (fun _ _ _ e => e) (fun b ps e => ⟨#[], by rw [e]; simp⟩) (fun m hm => ?_) (fun b u e => ?_) I.bare
      · have q := hf b (by simp at hb ⊢; simp [hb])
        exact ⟨q.2.2.2.1, q.2.1, q.2.2.2.2.1, q.2.2.2.2.2⟩
      · obtain ⟨o, es, ep, ho, r⟩ := hm
        exact ⟨o, es, ep, hk _ o (Ne.symm f1.2.1) ho, r⟩
      · have nn : ∀ c v, H c = some v → c ≠ it := fun c v e q => by rw [q, f1.1] at e; cases e
        refine (I.hok b u e).stay (fun c v hc' q => ?_) (fun _ q => q) fun _ _ q => q
        rcases hc' with e' | e'
        · subst e'; exact hk c v (nn c _ e) q
        · exact hk c v (nn c _ e') q
  self := fun _ _ _ _ _ st h => by
    obtain ⟨⟨old, hz⟩, _⟩ := st
    exact wpAny_pyIter_enum hz h
section
variable {X : Cx} {elts : List Expr} {kk : Nat} {tp : Pos}
def iEnum (K : PySem.W.Frag) (ta : TA) : TI := fun σ H R => ta σ H fun vs H1 => ∃ a, vs = [.ref a] ∧ (∃ xs, SqL K H1 a xs) ∧ R (Ite K a) H1
theorem pi_enum {e1 : Expr} {ta : TA} {p pos : Pos} (hg : Gl X "enumerate") (hm : X.mg "enumerate" = none) (ha : PA X [e1] ta) (he : starEach [e1] X.env = (false, eval e1 X.env) :: starEach [] X.env := by rfl)
    (hpl : (backTo pos (starEach [] X.env)).any (·.1) = false := by rfl) : PI X (.Tuple elts kk tp) (.Call (.Name "enumerate" p) [e1] [] pos) (iEnum X.K ta) := by
  intro pins s σ H R I h
  refine Call_ (ld_blt I hg hm PyProof.Rows.boot_enumerate (PyProof.Rows.callWith_type1 (thn (ha pos pins s σ H _ I h) fun us s1 ⟨vs, H1, I1, r1, q1⟩ => ?_) he hpl))
  obtain ⟨a, e, ⟨xs, sx⟩, q⟩ := q1
  subst e
  obtain ⟨u, rfl, ra⟩ := vals1 r1
  cases ra
  obtain ⟨ix, rx, px, _⟩ := I1.list sx
  refine call_enumerate_list px.isList fun h' z1 z4 z6 hk => ?_
  have I2 : Inv X pins σ H1 { s1 with heap := h', toks := s1.toks } := I1.kept hk
  refine wpAny_pyIter_enum (s := { s1 with heap := h' }) z1 ?_
  refine ⟨s1.heap.objs.size + 1, [s1.heap.objs.size + 1, s1.heap.objs.size], _, Ite X.K a, H1, rfl, I2, turn_enum (s1.heap.objs.size + 1) s1.heap.objs.size a, ⟨⟨_, z1⟩, z4⟩, fun c hc => ?_, q⟩
  have hge : s1.heap.objs.size ≤ c := by
    simp at hc
    rcases hc with e | e <;> subst e <;> omega
  exact I1.fpOk hge (I1.hok.fresh hge)
end
end L2
namespace L2.EP
open PySem PySem.Spec PyProof.Rows
def enI {α : Type} (xs : List α) : List (Int × α) := xs.mapIdx fun i x => ((i : Int), x)
theorem enI_get {α : Type} {xs : List α} {i : Nat} {u : Int × α} (h : (enI xs)[i]? = some u) : xs[i]? = some u.2 ∧ u.1 = (i : Int) := by
  unfold enI at h
  rw [List.getElem?_mapIdx] at h
  cases e : xs[i]? with
  | none => rw [e] at h; cases h
  | some x => rw [e] at h; cases h; exact ⟨rfl, rfl⟩
theorem enI_len {α : Type} (xs : List α) : (enI xs).length = xs.length := by unfold enI; rw [List.length_mapIdx]
section
variable {X : Cx} {Γ : GEnv} {α β : Type} [Py α] [Py β] {e1 e2 : Expr} {b1 b2 : Bool} {elts : List Expr} {kk : Nat} {tp p ps : Pos}
theorem ei_enum {xs : List α} (hg : Gl X "enumerate") (hm : X.mg "enumerate" = none) (h1 : E X Γ e1 b1 xs) (hs1 : starEach [e1] X.env = (false, eval e1 X.env) :: starEach [] X.env := by rfl)
    (hpl : (backTo ps (starEach [] X.env)).any (·.1) = false := by rfl) : EI X Γ (.Tuple elts kk tp) (.Call (.Name "enumerate" p) [e1] [] ps) b1 (enI xs) := by
  with_unfolding_all
    exact ⟨_, pi_enum hg hm (pa_cons h1 pa_nil hs1) hs1 hpl, fun σ H H0 F O R Z q => ⟨H0, F, O, Z, fun v H1 s1 r1 => by
        obtain ⟨a, va, ea, sa, na, ra⟩ := r1
        refine ⟨a, by rw [ea], ⟨va, (off_same _ _).seq sa⟩, q _ H1 s1 fun H' O' hO' sm => ⟨fun i u hu => ?_, ?_⟩⟩
        · obtain ⟨hx, hi⟩ := enI_get hu
          obtain ⟨x, gx, rx⟩ := pr_get ra hx
          have sa' := (off_same _ _).seq (sm.seq sa)
          refine ⟨⟨va, x, sa', gx⟩, fun v' H'' hv => ?_⟩
          obtain ⟨T, x', hT, rfl, rfl, f1⟩ := hv
          have ex := f1 va sa'
          rw [gx] at ex; cases ex
          have hTO : ¬ O' T := fun z => by
            obtain ⟨zs, w⟩ := hO' T z
            rw [hT] at w; cases w
          refine ⟨same_upd hT _, T, .int (i : Int), x, rfl, .inl (by rw [off_get hTO]; exact upd_same), ?_, ?_⟩
          · show V.int _ = V.int _
            rw [hi]
          · exact rp_mono (sm.trans (off_mono (same_upd hT _))) rx
        · refine ⟨va, (off_same _ _).seq (sm.seq sa), ?_⟩
          rw [pr_len ra, enI_len]
          omega⟩⟩
end
end L2.EP

namespace L2.EP
open PySem PySem.Spec PyProof.Rows
structure TbO (β : Type) where
  rows : List (List β)
instance {β : Type} [Py β] : Py (TbO β) where
  rp K N H v a := ∃ p xs, v = .ref p ∧ SqL K H p xs ∧ N.has H p (.inl xs) ∧ xs.Nodup ∧ Paired (fun x (r : List β) => Py.rp K N H x r) xs a.rows
  tr l t h := by
    obtain ⟨p, xs, e, s, n, nd, r⟩ := h
    obtain ⟨s', n'⟩ := l _ (.inl xs) s n
    exact ⟨p, xs, e, s', n', nd, pr_imp (fun _ _ q => Py.tr l t q) r⟩
section
variable {X : Cx} {Γ : GEnv} {D : GD} {α β : Type} [Py α] [Py β] {elt target iter c : Expr} {b b' : Bool} {pos : Pos} {scope : Scope} {tn : List Str} {js : List Nat} {g : TG} {tc : Nat → Prop} {put : Bool → α → GEnv → GEnv} {as : List α}
def teN (X : Cx) (tn : List Str) (js : List Nat) (scope : Scope) (elt : Expr) (β : Type) [Py β] : TE := fun σ H Q => ∃ Γ', ∃ v : β, (∀ C s H fp, EN (blk X (cN X tn js) scope C s H fp) Γ' elt v) ∧ tN X.K Γ' v σ H Q
theorem comp_wkN [PyT β] {f : α → β} {wi : TI} (hw : ∀ (σ : St) (H H0 : Hp) (F O : Addr → Prop) (R : It → Hp → Prop), Sta X.K H0 F O Γ σ H → (∀ J H1, Same H H1 → ITS X.K H0 O b as J H1 → R J H1) → wi σ H R)
    (hgp : GP g α put tc X.K) (htc : ∀ j, tc j → j < tn.length)
    (hb : ∀ (i : Nat) (a : α), as[i]? = some a → ∀ C s H fp, E (blk X (cN X tn js) scope C s H fp) (put b a (cΓ Γ tn js)) elt b' (f a)) (hl : as.length ≤ 1000)
    {σ : St} {H : Hp} {Q : VK} {H0 : Hp} {F O : Addr → Prop} (Z : Sta X.K H0 F O Γ σ H) (q : ∀ v H', Same H H' → Py.rp X.K (.new H) (off H' O) v (as.map f) → Q v H') :
    tLC wi tn js g (ttC X tn js scope []) (teC X tn js scope elt β b') σ H Q := by
  with_unfolding_all
    refine hw σ H H0 F O _ Z fun J H1 s1 its D hD => ?_
    have Z1 := Z.go s1
    refine ⟨fun i m H' xs => m = as.length - i ∧ i ≤ as.length ∧ Same H1 H' ∧ H' D = some (.lst xs) ∧ Paired (fun x a => Py.rp X.K (.new H) (off H' fun p => O p ∨ p = D) x a) xs ((as.take i).map f),
      ⟨_, rfl, Nat.zero_le _, same_upd hD _, upd_same, .nil⟩, ?_⟩
    rintro i m H' xs ⟨rfl, hi, sm, hx, rr⟩
    refine ⟨hx, ?_⟩
    obtain ⟨Z', so⟩ := Z1.ownIn hD sm hx
    obtain ⟨t1, t2⟩ := its H' _ Z'.own so
    by_cases hlt : i < as.length
    · have ha : as[i]? = some as[i] := List.getElem?_eq_getElem hlt
      have htk : as.take (i + 1) = as.take i ++ [as[i]] := by rw [List.take_succ, ha]; rfl
      obtain ⟨go, yl⟩ := t1 i _ ha
      refine .inr ⟨go, fun x H'' hy => ?_⟩
      obtain ⟨s2, rx⟩ := yl x H'' hy
      refine hgp b as[i] H0 F _ (cΓ Γ tn js) (cσ σ tn js) H'' x _ ((Z'.go s2).blk tn js) rx fun σ2 Z2 l2 k2 => ?_
      refine ⟨⟨fun j v hj e => ?_, l2⟩, _, _, fun C s H fp => ft_nil, H0, F, _, Z2, fun H3 s3 => ?_⟩
      · rw [k2 j fun z => absurd (htc j z) (Nat.not_lt.mpr hj)]; exact e
      refine iteT ⟨_, _, hb i _ ha, H0, F, _, Z2.go s3, fun y H4 s4 ry => ?_⟩
      have hx4 : H4 D = some (.lst xs) := s4 _ _ (s3 _ _ (s2 _ _ hx))
      have hOD : (fun p => O p ∨ p = D) D := .inr rfl
      refine ⟨hx4, ?_, as.length - (i + 1), by omega, rfl, hlt, ?_, upd_same, ?_⟩
      · have := pr_len rr
        rw [List.length_map] at this
        have h3 := List.length_take_le i as
        exact Nat.lt_of_le_of_lt (by omega) (small1000 hl)
      · exact fun c o z => by
          have hc : c ≠ D := fun w => by rw [w, hD] at z; cases z
          rw [upd_ne hc]; exact s4 _ _ (s3 _ _ (s2 _ _ (sm _ _ z)))
      · rw [off_upd hOD, htk]
        simp only [List.map_append, List.map_cons, List.map_nil]
        exact pr_app (pr_imp (fun _ _ z => rp_mono (off_mono (s2.trans (s3.trans s4))) z) rr) (.cons (PyT.free (fun _ _ w => w) ry) .nil)
    · have ei : i = as.length := by omega
      subst ei
      rw [List.take_length] at rr
      have hxo : off H' O D = some (.lst xs) := by rw [off_get (Z1.notOwn hD)]; exact hx
      refine .inl ⟨t2, q _ H' (s1.trans sm) ⟨D, xs, rfl, SqL.of hxo, ⟨s1.free hD, hxo⟩, ?_⟩⟩
      exact pr_imp (fun _ _ z => rp_mono (off_less fun _ w => .inl w) z) rr
end
section
variable {X : Cx} {Γ : GEnv} {D : GD} {α β γ : Type} [Py α] [Py β] [Py γ] {e e1 e2 : Expr} {b b1 b2 : Bool} {pos p : Pos} {rest st : List Stmt}
end
end L2.EP

namespace EP
def gcV (xs : List Int) : Int := xs.foldl (fun g k => ((Int.gcd g k : Nat) : Int)) 0
theorem gc_fold (k : Int) : ∀ (xs : List Int) (g : Int), (xs.map (k * ·)).foldl (fun g k => ((Int.gcd g k : Nat) : Int)) (k.natAbs * g) = k.natAbs * xs.foldl (fun g k => ((Int.gcd g k : Nat) : Int)) g
  | [], g => rfl
  | x :: xs, g => by
    rw [List.map_cons, List.foldl_cons, List.foldl_cons, ← gc_fold k xs]
    congr 1
    have : Int.gcd ((k.natAbs : Int) * g) (k * x) = k.natAbs * Int.gcd g x := by
      show Nat.gcd ((k.natAbs : Int) * g).natAbs (k * x).natAbs = k.natAbs * Nat.gcd g.natAbs x.natAbs
      rw [Int.natAbs_mul, Int.natAbs_mul, Int.natAbs_natCast, Nat.gcd_mul_left]
    rw [this]
    push_cast
    rfl
theorem gc_scale (k : Int) (xs : List Int) : gcV (xs.map (k * ·)) = k.natAbs * gcV xs := by
  have := gc_fold k xs 0
  rw [Int.mul_zero] at this
  exact this
theorem gc_nn (xs : List Int) : 0 ≤ gcV xs := by
  unfold gcV
  have : ∀ (xs : List Int) (g : Int), 0 ≤ g → 0 ≤ xs.foldl (fun g k => ((Int.gcd g k : Nat) : Int)) g := fun xs => by
    induction xs with
    | nil => intro g h; exact h
    | cons x xs ih => intro g _; exact ih _ (Int.natCast_nonneg _)
  exact this xs 0 (Int.le_refl 0)
theorem gc_dvd (xs : List Int) : ∀ x ∈ xs, gcV xs ∣ x := by
  have : ∀ (xs : List Int) (g : Int), xs.foldl (fun g k => ((Int.gcd g k : Nat) : Int)) g ∣ g ∧ ∀ x ∈ xs, xs.foldl (fun g k => ((Int.gcd g k : Nat) : Int)) g ∣ x := fun xs => by
    induction xs with
    | nil => intro g; exact ⟨Int.dvd_refl g, fun x hx => by cases hx⟩
    | cons y xs ih =>
      intro g
      obtain ⟨a, b⟩ := ih ((Int.gcd g y : Nat) : Int)
      refine ⟨Int.dvd_trans a (Int.gcd_dvd_left ..), fun x hx => ?_⟩
      rcases List.mem_cons.mp hx with e | e
      · rw [e]; exact Int.dvd_trans a (Int.gcd_dvd_right ..)
      · exact b x e
  exact (this xs 0).2
theorem gc_zero {xs : List Int} (h : gcV xs = 0) : ∀ x ∈ xs, x = 0 := fun x hx => by
  have := gc_dvd xs x hx
  rw [h] at this
  exact Int.zero_dvd.mp this
def fsV : List Int → Int
  | [] => 0
  | x :: xs => if x = 0 then fsV xs else x
theorem fs_scale {k : Int} (hk : k ≠ 0) : ∀ xs : List Int, fsV (xs.map (k * ·)) = k * fsV xs
  | [] => by show (0 : Int) = k * 0; rw [Int.mul_zero]
  | x :: xs => by
    rw [List.map_cons]
    unfold fsV
    by_cases e : x = 0
    · rw [if_pos (by rw [e, Int.mul_zero]), if_pos e, fs_scale hk xs]
    · rw [if_neg (Int.mul_ne_zero hk e), if_neg e]
structure Nv (xs : List Int) : Prop where
  g : gcV xs = 1
  f : 0 < fsV xs
theorem nv_uniq {xs ys : List Int} {p q : Int} (hx : Nv xs) (hy : Nv ys) (hp : p ≠ 0) (hq : q ≠ 0) (e : xs.map (p * ·) = ys.map (q * ·)) : xs = ys := by
  have h1 : ((p.natAbs : Nat) : Int) = q.natAbs := by
    have := congrArg gcV e
    rw [gc_scale, gc_scale, hx.g, hy.g] at this
    omega
  have h2 : p * fsV xs = q * fsV ys := by
    have := congrArg fsV e
    rw [fs_scale hp, fs_scale hq] at this
    exact this
  have h3 : p = q := by
    rcases (show p = q ∨ p = -q by omega) with z | z
    · exact z
    · exfalso
      rw [z] at h2
      have a := hx.f
      have b := hy.f
      have h4 : q * (fsV xs + fsV ys) = 0 := by grind
      rcases Int.mul_eq_zero.mp h4 with w | w
      · exact hq w
      · omega
  subst h3
  exact (List.map_inj_right (f := fun x => p * x) (fun a b z => Int.eq_of_mul_eq_mul_left hp z)).mp e
def wdV (xs : List Int) : List Int := xs.map fun k => k.fdiv (gcV xs)
def nrV (xs : List Int) : List Int := if fsV (wdV xs) < 0 then (wdV xs).map (fun k => -k) else wdV xs
theorem wd_ok {xs : List Int} (h : gcV xs ≠ 0) : xs = (wdV xs).map (gcV xs * ·) := by
  unfold wdV
  rw [List.map_map]
  conv => lhs; rw [← List.map_id xs]
  refine List.map_congr_left fun x hx => ?_
  obtain ⟨q, e⟩ := gc_dvd xs x hx
  show x = gcV xs * x.fdiv (gcV xs)
  have : x.fdiv (gcV xs) = q := by
    conv => lhs; rw [e]
    exact Int.mul_fdiv_cancel_left _ h
  rw [this]; exact e
theorem fs_zero {xs : List Int} (h : fsV xs = 0) : ∀ x ∈ xs, x = 0 := by
  induction xs with
  | nil => intro x hx; cases hx
  | cons y xs ih =>
    unfold fsV at h
    intro x hx
    by_cases e : y = 0
    · rw [if_pos e] at h
      rcases List.mem_cons.mp hx with z | z
      · rw [z]; exact e
      · exact ih h x z
    · rw [if_neg e] at h; exact absurd h e
theorem nr_ok {xs : List Int} (h : gcV xs ≠ 0) : Nv (nrV xs) ∧ ∃ k : Int, k ≠ 0 ∧ xs = (nrV xs).map (k * ·) := by
  have e := wd_ok h
  have g1 : gcV (wdV xs) = 1 := by
    have := congrArg gcV e
    rw [gc_scale] at this
    have nn := gc_nn xs
    have e2 : ((gcV xs).natAbs : Int) = gcV xs := by omega
    rw [e2] at this
    have h3 : gcV xs * (gcV (wdV xs) - 1) = 0 := by grind
    rcases Int.mul_eq_zero.mp h3 with z | z
    · exact absurd z h
    · omega
  have f0 : fsV (wdV xs) ≠ 0 := fun z => by
    have hz := fs_zero z
    have : gcV (wdV xs) = 0 := by
      have key : ∀ l : List Int, (∀ x ∈ l, x = 0) → gcV l = 0 := fun l hl => by
        have : l = l.map (0 * ·) := by
          conv => lhs; rw [← List.map_id l]
          exact List.map_congr_left fun x hx => by show x = 0 * x; rw [hl x hx]; rfl
        rw [this, gc_scale]
        show (0 : Int) * _ = 0
        rw [Int.zero_mul]
      exact key _ hz
    omega
  unfold nrV
  split
  · rename_i hn
    have em : (wdV xs).map (fun k => -k) = (wdV xs).map ((-1) * ·) := List.map_congr_left fun x _ => by show -x = (-1) * x; omega
    refine ⟨⟨by rw [em, gc_scale, g1]; rfl, by rw [em, fs_scale (by decide)]; omega⟩, -gcV xs, by omega, ?_⟩
    conv => lhs; rw [e]
    rw [em, List.map_map]
    refine List.map_congr_left fun x _ => ?_
    show gcV xs * x = -gcV xs * (-1 * x)
    grind
  · exact ⟨⟨g1, by omega⟩, gcV xs, h, e⟩
theorem nd {ah ai aj zh zi zj s t : Int} (h1 : ah ≠ 0) (h2 : ai ≠ 0) (h3 : aj ≠ 0) (hz : ah * zh * zh + ai * zi * zi + aj * zj * zj = 0) (z0 : zh ≠ 0) (hq : ai * s * s + aj * t * t = 0) (hb : ai * zi * s + aj * zj * t = 0) : s = 0 ∧ t = 0 := by
  have e1 : ai * s * s * (ai * zi * zi + aj * zj * zj) = 0 := by
    have h4 : ai * zi * s = -(aj * zj * t) := by omega
    have h5 : (ai * zi * s) * (ai * zi * s) = (aj * zj * t) * (aj * zj * t) := by rw [h4]; grind
    have h6 : aj * t * t = -(ai * s * s) := by omega
    grind
  have e2 : ai * zi * zi + aj * zj * zj ≠ 0 := fun z => by
    have : ah * zh * zh = 0 := by omega
    rcases Int.mul_eq_zero.mp this with w | w
    · rcases Int.mul_eq_zero.mp w with w | w
      · exact h1 w
      · exact z0 w
    · exact z0 w
  have s0 : s = 0 := by
    rcases Int.mul_eq_zero.mp e1 with w | w
    · rcases Int.mul_eq_zero.mp w with w | w
      · rcases Int.mul_eq_zero.mp w with w | w
        · exact absurd w h2
        · exact w
      · exact w
    · exact absurd w e2
  refine ⟨s0, ?_⟩
  rw [s0] at hq
  have : aj * t * t = 0 := by
    have e : ai * 0 * 0 = 0 := by rw [Int.mul_zero]
    omega
  rcases Int.mul_eq_zero.mp this with w | w
  · rcases Int.mul_eq_zero.mp w with w | w
    · exact absurd w h3
    · exact w
  · exact w
end EP

namespace EP
theorem nv_nz {xs : List Int} (h : Nv xs) : ∃ x ∈ xs, x ≠ 0 := by
  refine Classical.byContradiction fun z => ?_
  have hz : ∀ x ∈ xs, x = 0 := fun x hx => Classical.byContradiction fun w => z ⟨x, hx, w⟩
  have : fsV xs = 0 := by
    have key : ∀ l : List Int, (∀ x ∈ l, x = 0) → fsV l = 0 := fun l => by
      induction l with
      | nil => intro _; rfl
      | cons a l ih =>
        intro hl
        unfold fsV
        rw [if_pos (hl a List.mem_cons_self)]
        exact ih fun x hx => hl x (List.mem_cons_of_mem _ hx)
    exact key xs hz
  have := h.f
  omega
theorem nr_fin {xs ys : List Int} {q m : Int} (hy : Nv ys) (hq : q ≠ 0) (hm : m ≠ 0) (e : xs.map (q * ·) = ys.map (m * ·)) : gcV xs ≠ 0 ∧ nrV xs = ys := by
  have g : gcV xs ≠ 0 := fun z => by
    have h1 := congrArg gcV e
    rw [gc_scale, gc_scale, z, hy.g] at h1
    omega
  refine ⟨g, ?_⟩
  obtain ⟨nv, k, k0, ek⟩ := nr_ok g
  refine nv_uniq (p := q * k) (q := m) nv hy (Int.mul_ne_zero hq k0) hm ?_
  rw [← e]
  conv => rhs; rw [ek]
  rw [List.map_map]
  exact List.map_congr_left fun x _ => by show q * k * x = q * (k * x); rw [Int.mul_assoc]
theorem ln1 {ah ai aj zh zi zj yh yi yj k s t : Int} (h1 : ah ≠ 0) (h2 : ai ≠ 0) (h3 : aj ≠ 0) (hz : ah * zh * zh + ai * zi * zi + aj * zj * zj = 0) (z0 : zh ≠ 0) (hy : ah * yh * yh + ai * yi * yi + aj * yj * yj = 0) (hd : ¬ (zh * yi - yh * zi = 0 ∧ zh * yj - yh * zj = 0)) (es : zh * yi - yh * zi = k * s) (et : zh * yj - yh * zj = k * t) :
    ∃ m : Int, m ≠ 0 ∧ k * k * ((ai * s * s + aj * t * t) * zh) = m * yh ∧ k * k * ((ai * s * s + aj * t * t) * zi - 2 * (ai * zi * s + aj * zj * t) * s) = m * yi ∧ k * k * ((ai * s * s + aj * t * t) * zj - 2 * (ai * zi * s + aj * zj * t) * t) = m * yj := by
  have eB : ∃ B : Int, ah * zh * yh + ai * zi * yi + aj * zj * yj = B := ⟨_, rfl⟩
  obtain ⟨B, eB⟩ := eB
  have q1 : k * k * (ai * s * s + aj * t * t) = -2 * zh * yh * B := by
    have : k * k * (ai * s * s + aj * t * t) = ai * (k * s) * (k * s) + aj * (k * t) * (k * t) := by grind
    rw [this, ← es, ← et, ← eB]
    grind
  have q2 : k * (2 * (ai * zi * s + aj * zj * t)) = 2 * zh * B := by
    have : k * (2 * (ai * zi * s + aj * zj * t)) = 2 * (ai * zi * (k * s) + aj * zj * (k * t)) := by grind
    rw [this, ← es, ← et, ← eB]
    grind
  have B0 : B ≠ 0 := fun z => by
    refine hd (nd h1 h2 h3 hz z0 ?_ ?_)
    · rw [es, et]
      have : ai * (k * s) * (k * s) + aj * (k * t) * (k * t) = k * k * (ai * s * s + aj * t * t) := by grind
      rw [this, q1, z, Int.mul_zero]
    · rw [es, et]
      have : 2 * (ai * zi * (k * s) + aj * zj * (k * t)) = k * (2 * (ai * zi * s + aj * zj * t)) := by grind
      rw [q2, z, Int.mul_zero] at this
      omega
  refine ⟨-2 * zh * zh * B, ?_, ?_, ?_, ?_⟩
  · exact Int.mul_ne_zero (Int.mul_ne_zero (Int.mul_ne_zero (by decide) z0) z0) B0
  · have : k * k * ((ai * s * s + aj * t * t) * zh) = (k * k * (ai * s * s + aj * t * t)) * zh := by grind
    rw [this, q1]; grind
  · have : k * k * ((ai * s * s + aj * t * t) * zi - 2 * (ai * zi * s + aj * zj * t) * s) = (k * k * (ai * s * s + aj * t * t)) * zi - (k * (2 * (ai * zi * s + aj * zj * t))) * (k * s) := by grind
    rw [this, q1, q2, ← es]; grind
  · have : k * k * ((ai * s * s + aj * t * t) * zj - 2 * (ai * zi * s + aj * zj * t) * t) = (k * k * (ai * s * s + aj * t * t)) * zj - (k * (2 * (ai * zi * s + aj * zj * t))) * (k * t) := by grind
    rw [this, q1, q2, ← et]; grind
theorem ln2 {ah ai aj zh zi zj yh yi yj k s t : Int} (h1 : ah ≠ 0) (h2 : ai ≠ 0) (h3 : aj ≠ 0) (hz : ah * zh * zh + ai * zi * zi + aj * zj * zj = 0) (z0 : zh ≠ 0) (y0 : yh ≠ 0) (k0 : k ≠ 0) (e1 : zh * yi - yh * zi = 0) (e2 : zh * yj - yh * zj = 0) (es : aj * zj = k * s) (et : -(ai * zi) = k * t) :
    ∃ q m : Int, q ≠ 0 ∧ m ≠ 0 ∧ q * ((ai * s * s + aj * t * t) * zh) = m * yh ∧ q * ((ai * s * s + aj * t * t) * zi - 2 * (ai * zi * s + aj * zj * t) * s) = m * yi ∧ q * ((ai * s * s + aj * t * t) * zj - 2 * (ai * zi * s + aj * zj * t) * t) = m * yj := by
  have q1 : k * k * (ai * s * s + aj * t * t) = -(ai * aj * (ah * zh * zh)) := by
    have : k * k * (ai * s * s + aj * t * t) = ai * (k * s) * (k * s) + aj * (k * t) * (k * t) := by grind
    rw [this, ← es, ← et]
    grind
  have q2 : ai * zi * s + aj * zj * t = 0 := by
    have h4 : k * (ai * zi * s + aj * zj * t) = 0 := by
      have : k * (ai * zi * s + aj * zj * t) = ai * zi * (k * s) + aj * zj * (k * t) := by grind
      rw [this, ← es, ← et]; grind
    rcases Int.mul_eq_zero.mp h4 with w | w
    · exact absurd w k0
    · exact w
  have e1' : zh * yi = yh * zi := by omega
  have e2' : zh * yj = yh * zj := by omega
  refine ⟨k * k * yh, -(ai * aj * (ah * zh * zh)) * zh, Int.mul_ne_zero (Int.mul_ne_zero k0 k0) y0, ?_, ?_, ?_, ?_⟩
  · refine Int.mul_ne_zero (fun z => ?_) z0
    have : ai * aj * (ah * zh * zh) = 0 := by omega
    rcases Int.mul_eq_zero.mp this with w | w
    · rcases Int.mul_eq_zero.mp w with w | w
      · exact h2 w
      · exact h3 w
    · rcases Int.mul_eq_zero.mp w with w | w
      · rcases Int.mul_eq_zero.mp w with w | w
        · exact h1 w
        · exact z0 w
      · exact z0 w
  · rw [← q1]; grind
  · rw [q2, ← q1]
    have : (ai * s * s + aj * t * t) * zi - 2 * 0 * s = (ai * s * s + aj * t * t) * zi := by grind
    rw [this]
    have : k * k * yh * ((ai * s * s + aj * t * t) * zi) = k * k * (ai * s * s + aj * t * t) * (yh * zi) := by grind
    rw [this, ← e1']; grind
  · rw [q2, ← q1]
    have : (ai * s * s + aj * t * t) * zj - 2 * 0 * t = (ai * s * s + aj * t * t) * zj := by grind
    rw [this]
    have : k * k * yh * ((ai * s * s + aj * t * t) * zj) = k * k * (ai * s * s + aj * t * t) * (yh * zj) := by grind
    rw [this, ← e2']; grind
end EP

namespace EP
def fpV : List Int → Nat
  | [] => 0
  | x :: xs => if x = 0 then fpV xs + 1 else 0
theorem fpV_at : ∀ {xs : List Int}, fsV xs ≠ 0 → fpV xs < xs.length ∧ xs.getD (fpV xs) 0 = fsV xs
  | [], h => absurd rfl h
  | x :: xs, h => by
    unfold fsV at h
    unfold fpV fsV
    by_cases e : x = 0
    · rw [if_pos e] at h
      rw [if_pos e, if_pos e]
      obtain ⟨a, b⟩ := fpV_at h
      exact ⟨by rw [List.length_cons]; omega, by rw [List.getD_cons_succ]; exact b⟩
    · rw [if_neg e, if_neg e]
      exact ⟨by rw [List.length_cons]; omega, rfl⟩
def dirV (h : Nat) (s t : Int) : List Int := [s, t].take h ++ 0 :: [s, t].drop h
def prL (r x y : List Int) : Int := ((r.zip (x.zip y)).map fun u => u.1 * u.2.1 * u.2.2).sum
def ptP (r z : List Int) (s t : Int) : List Int := (z.zip (dirV (fpV z) s t)).map fun u => prL r (dirV (fpV z) s t) (dirV (fpV z) s t) * u.1 - 2 * prL r z (dirV (fpV z) s t) * u.2
def dV (z y : List Int) : List Int := (z.zip y).map fun u => z.getD (fpV z) 0 * u.2 - y.getD (fpV z) 0 * u.1
def slV (r z : List Int) : List Int := ((r.zip z).map fun u => u.1 * u.2).eraseIdx (fpV z)
def d2V (r z y : List Int) : List Int := if dV z y = [0, 0, 0] then [(slV r z).getD 1 0, -(slV r z).getD 0 0] else (dV z y).eraseIdx (fpV z)
structure Rz (r z : List Int) : Prop where
  ex : ∃ a0 a1 a2 z0 z1 z2 : Int, r = [a0, a1, a2] ∧ z = [z0, z1, z2] ∧ a0 ≠ 0 ∧ a1 ≠ 0 ∧ a2 ≠ 0 ∧ a0 * z0 * z0 + a1 * z1 * z1 + a2 * z2 * z2 = 0
  nz : fsV z ≠ 0
theorem map3 (q m p0 p1 p2 y0 y1 y2 : Int) (h0 : q * p0 = m * y0) (h1 : q * p1 = m * y1) (h2 : q * p2 = m * y2) : [p0, p1, p2].map (q * ·) = [y0, y1, y2].map (m * ·) := by
  show [q * p0, q * p1, q * p2] = [m * y0, m * y1, m * y2]
  rw [h0, h1, h2]
theorem two_of {L : List Int} (h2 : L.length = 2) (hg : gcV L ≠ 0) : ∃ s t k : Int, nrV L = [s, t] ∧ k ≠ 0 ∧ L = [k * s, k * t] ∧ Nv [s, t] := by
  obtain ⟨nv, k, k0, e⟩ := nr_ok hg
  have hl : (nrV L).length = 2 := by
    have := congrArg List.length e
    rw [List.length_map] at this
    omega
  match hn : nrV L, hl with
  | [s, t], _ =>
    rw [hn] at e nv
    exact ⟨s, t, k, rfl, k0, e, nv⟩
theorem pt_ln {r z y : List Int} (h : Rz r z) (hy : ∃ y0 y1 y2, y = [y0, y1, y2]) (hq : prL r y y = 0) (nv : Nv y) : ∃ s t : Int, gcV (d2V r z y) ≠ 0 ∧ (d2V r z y).length = 2 ∧ nrV (d2V r z y) = [s, t] ∧ Nv [s, t] ∧ gcV (ptP r z s t) ≠ 0 ∧ nrV (ptP r z s t) = y := by
  obtain ⟨a0, a1, a2, z0, z1, z2, rfl, rfl, h0, h1, h2, hz⟩ := h.ex
  obtain ⟨y0, y1, y2, rfl⟩ := hy
  have hyq : a0 * y0 * y0 + a1 * y1 * y1 + a2 * y2 * y2 = 0 := by
    have : a0 * y0 * y0 + (a1 * y1 * y1 + (a2 * y2 * y2 + 0)) = 0 := hq
    omega
  have nz := h.nz
  have ny : ¬ (y0 = 0 ∧ y1 = 0 ∧ y2 = 0) := fun ⟨e0, e1, e2⟩ => by
    obtain ⟨x, hx, hn⟩ := nv_nz nv
    subst e0; subst e1; subst e2
    simp at hx
    exact hn hx
  by_cases c0 : z0 = 0
  · by_cases c1 : z1 = 0
    · -- the place 2
      have zz : z2 ≠ 0 := fun c2 => nz (by unfold fsV; rw [if_pos c0]; unfold fsV; rw [if_pos c1]; unfold fsV; rw [if_pos c2]; rfl)
      have fp : fpV [z0, z1, z2] = 2 := by unfold fpV; rw [if_pos c0]; unfold fpV; rw [if_pos c1]; unfold fpV; rw [if_neg zz]
      have hz' : a2 * z2 * z2 + a0 * z0 * z0 + a1 * z1 * z1 = 0 := by omega
      have hy' : a2 * y2 * y2 + a0 * y0 * y0 + a1 * y1 * y1 = 0 := by omega
      have edV : dV [z0, z1, z2] [y0, y1, y2] = [z2 * y0 - y2 * z0, z2 * y1 - y2 * z1, z2 * y2 - y2 * z2] := by unfold dV; rw [fp]; rfl
      have eP : ∀ s t, ptP [a0, a1, a2] [z0, z1, z2] s t = [(a0 * s * s + a1 * t * t) * z0 - 2 * (a0 * z0 * s + a1 * z1 * t) * s, (a0 * s * s + a1 * t * t) * z1 - 2 * (a0 * z0 * s + a1 * z1 * t) * t, (a0 * s * s + a1 * t * t) * z2] := fun s t => by
        unfold ptP; rw [fp]
        show [(a0 * s * s + (a1 * t * t + (a2 * 0 * 0 + 0))) * z0 - 2 * (a0 * z0 * s + (a1 * z1 * t + (a2 * z2 * 0 + 0))) * s, (a0 * s * s + (a1 * t * t + (a2 * 0 * 0 + 0))) * z1 - 2 * (a0 * z0 * s + (a1 * z1 * t + (a2 * z2 * 0 + 0))) * t, (a0 * s * s + (a1 * t * t + (a2 * 0 * 0 + 0))) * z2 - 2 * (a0 * z0 * s + (a1 * z1 * t + (a2 * z2 * 0 + 0))) * 0] = _
        simp only [Int.mul_zero, Int.add_zero, Int.sub_zero]
      by_cases cd : z2 * y0 - y2 * z0 = 0 ∧ z2 * y1 - y2 * z1 = 0
      · have yh : y2 ≠ 0 := fun w => by
          subst w
          obtain ⟨d1, d2⟩ := cd
          have e0 : y0 = 0 := by
            have : z2 * y0 = 0 := by omega
            rcases Int.mul_eq_zero.mp this with u | u
            · exact absurd u zz
            · exact u
          have e1 : y1 = 0 := by
            have : z2 * y1 = 0 := by omega
            rcases Int.mul_eq_zero.mp this with u | u
            · exact absurd u zz
            · exact u
          exact ny ⟨e0, e1, rfl⟩
        have ed2 : d2V [a0, a1, a2] [z0, z1, z2] [y0, y1, y2] = [a1 * z1, -(a0 * z0)] := by
          unfold d2V
          rw [edV, if_pos (by rw [cd.1, cd.2, Int.mul_comm z2 y2, Int.sub_self])]
          unfold slV; rw [fp]; rfl
        have g0 : gcV (d2V [a0, a1, a2] [z0, z1, z2] [y0, y1, y2]) ≠ 0 := by
          rw [ed2]
          subst c0; subst c1
          exfalso
          have : a2 * z2 * z2 = 0 := by omega
          rcases Int.mul_eq_zero.mp this with u | u
          · rcases Int.mul_eq_zero.mp u with u | u
            · exact h2 u
            · exact zz u
          · exact zz u
        obtain ⟨s, t, k, en, k0, el, nst⟩ := two_of (by rw [ed2]; rfl) g0
        rw [ed2] at el
        have es : a1 * z1 = k * s := by injection el
        have et : -(a0 * z0) = k * t := by injection el with _ q; injection q
        obtain ⟨q, m, q0, m0, p1, p2, p3⟩ := ln2 h2 h0 h1 hz' zz yh k0 cd.1 cd.2 es et
        obtain ⟨f1, f2⟩ := nr_fin (xs := ptP [a0, a1, a2] [z0, z1, z2] s t) nv q0 m0 (by rw [eP]; exact map3 _ _ _ _ _ _ _ _ p2 p3 p1)
        exact ⟨s, t, g0, by rw [ed2]; rfl, en, nst, f1, f2⟩
      · have ed2 : d2V [a0, a1, a2] [z0, z1, z2] [y0, y1, y2] = [z2 * y0 - y2 * z0, z2 * y1 - y2 * z1] := by
          unfold d2V
          rw [edV, if_neg (fun w => cd (by injection w with w1 w2; injection w2 with w2 w3; exact ⟨w1, w2⟩)), fp]; rfl
        have g0 : gcV (d2V [a0, a1, a2] [z0, z1, z2] [y0, y1, y2]) ≠ 0 := fun w => by
          rw [ed2] at w
          have := gc_zero w
          exact cd ⟨this _ (by simp), this _ (by simp)⟩
        obtain ⟨s, t, k, en, k0, el, nst⟩ := two_of (by rw [ed2]; rfl) g0
        rw [ed2] at el
        have es : z2 * y0 - y2 * z0 = k * s := by injection el
        have et : z2 * y1 - y2 * z1 = k * t := by injection el with _ q; injection q
        obtain ⟨m, m0, p1, p2, p3⟩ := ln1 h2 h0 h1 hz' zz hy' cd es et
        obtain ⟨f1, f2⟩ := nr_fin (xs := ptP [a0, a1, a2] [z0, z1, z2] s t) nv (Int.mul_ne_zero k0 k0) m0 (by rw [eP]; exact map3 _ _ _ _ _ _ _ _ p2 p3 p1)
        exact ⟨s, t, g0, by rw [ed2]; rfl, en, nst, f1, f2⟩
    · -- the place 1
      have fp : fpV [z0, z1, z2] = 1 := by unfold fpV; rw [if_pos c0]; unfold fpV; rw [if_neg c1]
      have hz' : a1 * z1 * z1 + a0 * z0 * z0 + a2 * z2 * z2 = 0 := by omega
      have hy' : a1 * y1 * y1 + a0 * y0 * y0 + a2 * y2 * y2 = 0 := by omega
      have edV : dV [z0, z1, z2] [y0, y1, y2] = [z1 * y0 - y1 * z0, z1 * y1 - y1 * z1, z1 * y2 - y1 * z2] := by unfold dV; rw [fp]; rfl
      have eP : ∀ s t, ptP [a0, a1, a2] [z0, z1, z2] s t = [(a0 * s * s + a2 * t * t) * z0 - 2 * (a0 * z0 * s + a2 * z2 * t) * s, (a0 * s * s + a2 * t * t) * z1, (a0 * s * s + a2 * t * t) * z2 - 2 * (a0 * z0 * s + a2 * z2 * t) * t] := fun s t => by
        unfold ptP; rw [fp]
        show [(a0 * s * s + (a1 * 0 * 0 + (a2 * t * t + 0))) * z0 - 2 * (a0 * z0 * s + (a1 * z1 * 0 + (a2 * z2 * t + 0))) * s, (a0 * s * s + (a1 * 0 * 0 + (a2 * t * t + 0))) * z1 - 2 * (a0 * z0 * s + (a1 * z1 * 0 + (a2 * z2 * t + 0))) * 0, (a0 * s * s + (a1 * 0 * 0 + (a2 * t * t + 0))) * z2 - 2 * (a0 * z0 * s + (a1 * z1 * 0 + (a2 * z2 * t + 0))) * t] = _
        simp only [Int.mul_zero, Int.add_zero, Int.zero_add, Int.sub_zero]
      by_cases cd : z1 * y0 - y1 * z0 = 0 ∧ z1 * y2 - y1 * z2 = 0
      · have yh : y1 ≠ 0 := fun w => by
          subst w
          obtain ⟨d1, d2⟩ := cd
          have e0 : y0 = 0 := by
            have : z1 * y0 = 0 := by omega
            rcases Int.mul_eq_zero.mp this with u | u
            · exact absurd u c1
            · exact u
          have e1 : y2 = 0 := by
            have : z1 * y2 = 0 := by omega
            rcases Int.mul_eq_zero.mp this with u | u
            · exact absurd u c1
            · exact u
          exact ny ⟨e0, rfl, e1⟩
        have ed2 : d2V [a0, a1, a2] [z0, z1, z2] [y0, y1, y2] = [a2 * z2, -(a0 * z0)] := by
          unfold d2V
          rw [edV, if_pos (by rw [cd.1, cd.2, Int.mul_comm z1 y1, Int.sub_self])]
          unfold slV; rw [fp]; rfl
        have g0 : gcV (d2V [a0, a1, a2] [z0, z1, z2] [y0, y1, y2]) ≠ 0 := fun w => by
          rw [ed2] at w
          have := gc_zero w
          have u1 : a2 * z2 = 0 := this _ (by simp)
          have : a1 * z1 * z1 = 0 := by
            rw [c0, u1] at hz'
            omega
          rcases Int.mul_eq_zero.mp this with u | u
          · rcases Int.mul_eq_zero.mp u with u | u
            · exact h1 u
            · exact c1 u
          · exact c1 u
        obtain ⟨s, t, k, en, k0, el, nst⟩ := two_of (by rw [ed2]; rfl) g0
        rw [ed2] at el
        have es : a2 * z2 = k * s := by injection el
        have et : -(a0 * z0) = k * t := by injection el with _ q; injection q
        obtain ⟨q, m, q0, m0, p1, p2, p3⟩ := ln2 h1 h0 h2 hz' c1 yh k0 cd.1 cd.2 es et
        obtain ⟨f1, f2⟩ := nr_fin (xs := ptP [a0, a1, a2] [z0, z1, z2] s t) nv q0 m0 (by rw [eP]; exact map3 _ _ _ _ _ _ _ _ p2 p1 p3)
        exact ⟨s, t, g0, by rw [ed2]; rfl, en, nst, f1, f2⟩
      · have ed2 : d2V [a0, a1, a2] [z0, z1, z2] [y0, y1, y2] = [z1 * y0 - y1 * z0, z1 * y2 - y1 * z2] := by
          unfold d2V
          rw [edV, if_neg (fun w => cd (by injection w with w1 w2; injection w2 with w2 w3; injection w3 with w3 w4; exact ⟨w1, w3⟩)), fp]; rfl
        have g0 : gcV (d2V [a0, a1, a2] [z0, z1, z2] [y0, y1, y2]) ≠ 0 := fun w => by
          rw [ed2] at w
          have := gc_zero w
          exact cd ⟨this _ (by simp), this _ (by simp)⟩
        obtain ⟨s, t, k, en, k0, el, nst⟩ := two_of (by rw [ed2]; rfl) g0
        rw [ed2] at el
        have es : z1 * y0 - y1 * z0 = k * s := by injection el
        have et : z1 * y2 - y1 * z2 = k * t := by injection el with _ q; injection q
        obtain ⟨m, m0, p1, p2, p3⟩ := ln1 h1 h0 h2 hz' c1 hy' cd es et
        obtain ⟨f1, f2⟩ := nr_fin (xs := ptP [a0, a1, a2] [z0, z1, z2] s t) nv (Int.mul_ne_zero k0 k0) m0 (by rw [eP]; exact map3 _ _ _ _ _ _ _ _ p2 p1 p3)
        exact ⟨s, t, g0, by rw [ed2]; rfl, en, nst, f1, f2⟩
  · -- the place 0
    have fp : fpV [z0, z1, z2] = 0 := by unfold fpV; rw [if_neg c0]
    have edV : dV [z0, z1, z2] [y0, y1, y2] = [z0 * y0 - y0 * z0, z0 * y1 - y0 * z1, z0 * y2 - y0 * z2] := by unfold dV; rw [fp]; rfl
    have eP : ∀ s t, ptP [a0, a1, a2] [z0, z1, z2] s t = [(a1 * s * s + a2 * t * t) * z0, (a1 * s * s + a2 * t * t) * z1 - 2 * (a1 * z1 * s + a2 * z2 * t) * s, (a1 * s * s + a2 * t * t) * z2 - 2 * (a1 * z1 * s + a2 * z2 * t) * t] := fun s t => by
      unfold ptP; rw [fp]
      show [(a0 * 0 * 0 + (a1 * s * s + (a2 * t * t + 0))) * z0 - 2 * (a0 * z0 * 0 + (a1 * z1 * s + (a2 * z2 * t + 0))) * 0, (a0 * 0 * 0 + (a1 * s * s + (a2 * t * t + 0))) * z1 - 2 * (a0 * z0 * 0 + (a1 * z1 * s + (a2 * z2 * t + 0))) * s, (a0 * 0 * 0 + (a1 * s * s + (a2 * t * t + 0))) * z2 - 2 * (a0 * z0 * 0 + (a1 * z1 * s + (a2 * z2 * t + 0))) * t] = _
      simp only [Int.mul_zero, Int.add_zero, Int.zero_add, Int.sub_zero]
    by_cases cd : z0 * y1 - y0 * z1 = 0 ∧ z0 * y2 - y0 * z2 = 0
    · have yh : y0 ≠ 0 := fun w => by
        subst w
        obtain ⟨d1, d2⟩ := cd
        have e0 : y1 = 0 := by
          have : z0 * y1 = 0 := by omega
          rcases Int.mul_eq_zero.mp this with u | u
          · exact absurd u c0
          · exact u
        have e1 : y2 = 0 := by
          have : z0 * y2 = 0 := by omega
          rcases Int.mul_eq_zero.mp this with u | u
          · exact absurd u c0
          · exact u
        exact ny ⟨rfl, e0, e1⟩
      have ed2 : d2V [a0, a1, a2] [z0, z1, z2] [y0, y1, y2] = [a2 * z2, -(a1 * z1)] := by
        unfold d2V
        rw [edV, if_pos (by rw [cd.1, cd.2, Int.mul_comm z0 y0, Int.sub_self])]
        unfold slV; rw [fp]; rfl
      have g0 : gcV (d2V [a0, a1, a2] [z0, z1, z2] [y0, y1, y2]) ≠ 0 := fun w => by
        rw [ed2] at w
        have := gc_zero w
        have u1 : a2 * z2 = 0 := this _ (by simp)
        have u2 : a1 * z1 = 0 := by
          have : -(a1 * z1) = 0 := this _ (by simp)
          omega
        have : a0 * z0 * z0 = 0 := by
          rw [u1, u2] at hz
          omega
        rcases Int.mul_eq_zero.mp this with u | u
        · rcases Int.mul_eq_zero.mp u with u | u
          · exact h0 u
          · exact c0 u
        · exact c0 u
      obtain ⟨s, t, k, en, k0, el, nst⟩ := two_of (by rw [ed2]; rfl) g0
      rw [ed2] at el
      have es : a2 * z2 = k * s := by injection el
      have et : -(a1 * z1) = k * t := by injection el with _ q; injection q
      obtain ⟨q, m, q0, m0, p1, p2, p3⟩ := ln2 h0 h1 h2 hz c0 yh k0 cd.1 cd.2 es et
      obtain ⟨f1, f2⟩ := nr_fin (xs := ptP [a0, a1, a2] [z0, z1, z2] s t) nv q0 m0 (by rw [eP]; exact map3 _ _ _ _ _ _ _ _ p1 p2 p3)
      exact ⟨s, t, g0, by rw [ed2]; rfl, en, nst, f1, f2⟩
    · have ed2 : d2V [a0, a1, a2] [z0, z1, z2] [y0, y1, y2] = [z0 * y1 - y0 * z1, z0 * y2 - y0 * z2] := by
        unfold d2V
        rw [edV, if_neg (fun w => cd (by injection w with w1 w2; injection w2 with w2 w3; injection w3 with w3 w4; exact ⟨w2, w3⟩)), fp]; rfl
      have g0 : gcV (d2V [a0, a1, a2] [z0, z1, z2] [y0, y1, y2]) ≠ 0 := fun w => by
        rw [ed2] at w
        have := gc_zero w
        exact cd ⟨this _ (by simp), this _ (by simp)⟩
      obtain ⟨s, t, k, en, k0, el, nst⟩ := two_of (by rw [ed2]; rfl) g0
      rw [ed2] at el
      have es : z0 * y1 - y0 * z1 = k * s := by injection el
      have et : z0 * y2 - y0 * z2 = k * t := by injection el with _ q; injection q
      obtain ⟨m, m0, p1, p2, p3⟩ := ln1 h0 h1 h2 hz c0 hyq cd es et
      obtain ⟨f1, f2⟩ := nr_fin (xs := ptP [a0, a1, a2] [z0, z1, z2] s t) nv (Int.mul_ne_zero k0 k0) m0 (by rw [eP]; exact map3 _ _ _ _ _ _ _ _ p1 p2 p3)
      exact ⟨s, t, g0, by rw [ed2]; rfl, en, nst, f1, f2⟩
end EP

namespace EP
theorem ln3 {ah ai aj zh zi zj s t κ yh yi yj : Int} (hz : ah * zh * zh + ai * zi * zi + aj * zj * zj = 0) (k0 : κ ≠ 0) (eh : (ai * s * s + aj * t * t) * zh = κ * yh) (ei : (ai * s * s + aj * t * t) * zi - 2 * (ai * zi * s + aj * zj * t) * s = κ * yi) (ej : (ai * s * s + aj * t * t) * zj - 2 * (ai * zi * s + aj * zj * t) * t = κ * yj) :
    ah * yh * yh + ai * yi * yi + aj * yj * yj = 0 ∧ κ * (zh * yi - yh * zi) = -(2 * zh * (ai * zi * s + aj * zj * t)) * s ∧ κ * (zh * yj - yh * zj) = -(2 * zh * (ai * zi * s + aj * zj * t)) * t := by
  have hm : ∃ m : Int, ai * s * s + aj * t * t = m := ⟨_, rfl⟩
  obtain ⟨m, em⟩ := hm
  have hw : ∃ w : Int, ai * zi * s + aj * zj * t = w := ⟨_, rfl⟩
  obtain ⟨w, ew⟩ := hw
  rw [em] at eh
  rw [em, ew] at ei ej
  rw [ew]
  refine ⟨?_, ?_, ?_⟩
  · have q : κ * κ * (ah * yh * yh + ai * yi * yi + aj * yj * yj) = 0 := by
      have : κ * κ * (ah * yh * yh + ai * yi * yi + aj * yj * yj) = ah * (κ * yh) * (κ * yh) + ai * (κ * yi) * (κ * yi) + aj * (κ * yj) * (κ * yj) := by grind
      rw [this, ← eh, ← ei, ← ej]
      have e : ah * (m * zh) * (m * zh) + ai * (m * zi - 2 * w * s) * (m * zi - 2 * w * s) + aj * (m * zj - 2 * w * t) * (m * zj - 2 * w * t) = m * m * (ah * zh * zh + ai * zi * zi + aj * zj * zj) - 4 * m * w * (ai * zi * s + aj * zj * t) + 4 * w * w * (ai * s * s + aj * t * t) := by grind
      rw [e, hz, em, ew]
      grind
    rcases Int.mul_eq_zero.mp q with u | u
    · rcases Int.mul_eq_zero.mp u with u | u <;> exact absurd u k0
    · exact u
  · have : κ * (zh * yi - yh * zi) = zh * (κ * yi) - (κ * yh) * zi := by grind
    rw [this, ← ei, ← eh]; grind
  · have : κ * (zh * yj - yh * zj) = zh * (κ * yj) - (κ * yh) * zj := by grind
    rw [this, ← ej, ← eh]; grind
theorem par2 {u v s t : Int} (h : u * s + v * t = 0) (hst : ¬ (s = 0 ∧ t = 0)) (huv : ¬ (v = 0 ∧ u = 0)) : ∃ p q : Int, p ≠ 0 ∧ q ≠ 0 ∧ p * v = q * s ∧ p * -u = q * t := by
  by_cases e : s = 0
  · have t0 : t ≠ 0 := fun z => hst ⟨e, z⟩
    have v0 : v = 0 := by
      rw [e, Int.mul_zero, Int.zero_add] at h
      rcases Int.mul_eq_zero.mp h with z | z
      · exact z
      · exact absurd z t0
    have u0 : u ≠ 0 := fun z => huv ⟨v0, z⟩
    exact ⟨t, -u, t0, by omega, by rw [v0, e]; grind, by grind⟩
  · have v0 : v ≠ 0 := fun z => by
      rw [z, Int.zero_mul, Int.add_zero] at h
      rcases Int.mul_eq_zero.mp h with w | w
      · exact huv ⟨z, w⟩
      · exact e w
    exact ⟨s, v, e, v0, by grind, by
      have : v * t = -(u * s) := by omega
      rw [this]; grind⟩
theorem map2 (q m p0 p1 y0 y1 : Int) (h0 : q * p0 = m * y0) (h1 : q * p1 = m * y1) : [p0, p1].map (q * ·) = [y0, y1].map (m * ·) := by
  show [q * p0, q * p1] = [m * y0, m * y1]
  rw [h0, h1]
theorem nv2 {s t : Int} (h : Nv [s, t]) : ¬ (s = 0 ∧ t = 0) := fun ⟨a, b⟩ => by
  obtain ⟨x, hx, hn⟩ := nv_nz h
  subst a; subst b
  simp at hx
  exact hn hx
theorem ln4 {ah ai aj zh zi zj s t κ yh yi yj : Int} (h1 : ah ≠ 0) (h2 : ai ≠ 0) (h3 : aj ≠ 0) (hz : ah * zh * zh + ai * zi * zi + aj * zj * zj = 0) (z0 : zh ≠ 0) (hst : ¬ (s = 0 ∧ t = 0)) (k0 : κ ≠ 0) (eh : (ai * s * s + aj * t * t) * zh = κ * yh) (ei : (ai * s * s + aj * t * t) * zi - 2 * (ai * zi * s + aj * zj * t) * s = κ * yi) (ej : (ai * s * s + aj * t * t) * zj - 2 * (ai * zi * s + aj * zj * t) * t = κ * yj) :
    ah * yh * yh + ai * yi * yi + aj * yj * yj = 0 ∧ (if zh * yi - yh * zi = 0 ∧ zh * yj - yh * zj = 0 then ai * zi * s + aj * zj * t = 0 ∧ ∃ p q : Int, p ≠ 0 ∧ q ≠ 0 ∧ p * (aj * zj) = q * s ∧ p * -(ai * zi) = q * t else ∃ p q : Int, p ≠ 0 ∧ q ≠ 0 ∧ p * (zh * yi - yh * zi) = q * s ∧ p * (zh * yj - yh * zj) = q * t) := by
  obtain ⟨q0, q1, q2⟩ := ln3 hz k0 eh ei ej
  refine ⟨q0, ?_⟩
  split
  · rename_i hd
    have w0 : ai * zi * s + aj * zj * t = 0 := by
      rw [hd.1, Int.mul_zero] at q1
      rw [hd.2, Int.mul_zero] at q2
      refine Classical.byContradiction fun w => hst ⟨?_, ?_⟩
      · rcases Int.mul_eq_zero.mp q1.symm with u | u
        · have : 2 * zh * (ai * zi * s + aj * zj * t) = 0 := by omega
          rcases Int.mul_eq_zero.mp this with v | v
          · exact absurd (show zh = 0 by omega) z0
          · exact absurd v w
        · exact u
      · rcases Int.mul_eq_zero.mp q2.symm with u | u
        · have : 2 * zh * (ai * zi * s + aj * zj * t) = 0 := by omega
          rcases Int.mul_eq_zero.mp this with v | v
          · exact absurd (show zh = 0 by omega) z0
          · exact absurd v w
        · exact u
    refine ⟨w0, par2 w0 hst fun ⟨e1, e2⟩ => ?_⟩
    have : ah * zh * zh = 0 := by
      rw [e1, e2] at hz
      omega
    rcases Int.mul_eq_zero.mp this with w | w
    · rcases Int.mul_eq_zero.mp w with w | w
      · exact h1 w
      · exact z0 w
    · exact z0 w
  · rename_i hd
    refine ⟨κ, -(2 * zh * (ai * zi * s + aj * zj * t)), k0, fun w => hd ?_, q1, q2⟩
    rw [w, Int.zero_mul] at q1 q2
    refine ⟨?_, ?_⟩
    · rcases Int.mul_eq_zero.mp q1 with u | u
      · exact absurd u k0
      · exact u
    · rcases Int.mul_eq_zero.mp q2 with u | u
      · exact absurd u k0
      · exact u
theorem ln5 {ah ai aj zh zi zj s t : Int} (h1 : ah ≠ 0) (h2 : ai ≠ 0) (h3 : aj ≠ 0) (hz : ah * zh * zh + ai * zi * zi + aj * zj * zj = 0) (z0 : zh ≠ 0) (hst : ¬ (s = 0 ∧ t = 0)) (e0 : (ai * s * s + aj * t * t) * zh = 0) (e1 : (ai * s * s + aj * t * t) * zi - 2 * (ai * zi * s + aj * zj * t) * s = 0) (e2 : (ai * s * s + aj * t * t) * zj - 2 * (ai * zi * s + aj * zj * t) * t = 0) : False := by
  have m0 : ai * s * s + aj * t * t = 0 := by
    rcases Int.mul_eq_zero.mp e0 with u | u
    · exact u
    · exact absurd u z0
  refine hst (nd h1 h2 h3 hz z0 m0 ?_)
  rw [m0, Int.zero_mul] at e1 e2
  refine Classical.byContradiction fun w => hst ⟨?_, ?_⟩
  · have : 2 * (ai * zi * s + aj * zj * t) * s = 0 := by omega
    rcases Int.mul_eq_zero.mp this with u | u
    · exact absurd (show ai * zi * s + aj * zj * t = 0 by omega) w
    · exact u
  · have : 2 * (ai * zi * s + aj * zj * t) * t = 0 := by omega
    rcases Int.mul_eq_zero.mp this with u | u
    · exact absurd (show ai * zi * s + aj * zj * t = 0 by omega) w
    · exact u
def lieV (r z y : List Int) (s t : Int) : Bool := if (dV z y).eraseIdx (fpV z) = [0, 0] then decide ((slV r z).getD 0 0 * s + (slV r z).getD 1 0 * t = 0) else decide (((dV z y).eraseIdx (fpV z)).getD 0 0 * t = ((dV z y).eraseIdx (fpV z)).getD 1 0 * s)
theorem lie_of {ei ej si sj s t : Int} (h : if ei = 0 ∧ ej = 0 then si * s + sj * t = 0 ∧ ∃ p q : Int, p ≠ 0 ∧ q ≠ 0 ∧ p * sj = q * s ∧ p * -si = q * t else ∃ p q : Int, p ≠ 0 ∧ q ≠ 0 ∧ p * ei = q * s ∧ p * ej = q * t) : (if [ei, ej] = [0, 0] then decide (si * s + sj * t = 0) else decide (ei * t = ej * s)) = true := by
  by_cases c : ei = 0 ∧ ej = 0
  · rw [if_pos c] at h
    rw [if_pos (by rw [c.1, c.2])]
    exact decide_eq_true h.1
  · rw [if_neg c] at h
    rw [if_neg (fun w => c (by injection w with w1 w2; injection w2 with w2 _; exact ⟨w1, w2⟩))]
    obtain ⟨p, q, p0, q0, e1, e2⟩ := h
    refine decide_eq_true ?_
    have : p * (ei * t) = p * (ej * s) := by
      have a : p * (ei * t) = (p * ei) * t := by grind
      have b : p * (ej * s) = (p * ej) * s := by grind
      rw [a, b, e1, e2]; grind
    exact Int.eq_of_mul_eq_mul_left p0 this
theorem nrV_of {D : List Int} {ei ej si sj s t : Int} (nst : Nv [s, t]) (hD : D = if ei = 0 ∧ ej = 0 then [sj, -si] else [ei, ej]) (h : if ei = 0 ∧ ej = 0 then si * s + sj * t = 0 ∧ ∃ p q : Int, p ≠ 0 ∧ q ≠ 0 ∧ p * sj = q * s ∧ p * -si = q * t else ∃ p q : Int, p ≠ 0 ∧ q ≠ 0 ∧ p * ei = q * s ∧ p * ej = q * t) : gcV D ≠ 0 ∧ nrV D = [s, t] := by
  rw [hD]
  by_cases c : ei = 0 ∧ ej = 0
  · rw [if_pos c] at h ⊢
    obtain ⟨_, p, q, p0, q0, e1, e2⟩ := h
    exact nr_fin nst p0 q0 (map2 _ _ _ _ _ _ e1 e2)
  · rw [if_neg c] at h ⊢
    obtain ⟨p, q, p0, q0, e1, e2⟩ := h
    exact nr_fin nst p0 q0 (map2 _ _ _ _ _ _ e1 e2)
theorem three_of {L : List Int} {a b c : Int} (e : L = [a, b, c]) (hg : gcV L ≠ 0) : ∃ y0 y1 y2 k : Int, nrV L = [y0, y1, y2] ∧ k ≠ 0 ∧ a = k * y0 ∧ b = k * y1 ∧ c = k * y2 ∧ Nv [y0, y1, y2] := by
  obtain ⟨nv, k, k0, ek⟩ := nr_ok hg
  have hl : (nrV L).length = 3 := by
    have h3 : L.length = 3 := by rw [e]; rfl
    have := congrArg List.length ek
    rw [List.length_map] at this
    omega
  match hn : nrV L, hl with
  | [y0, y1, y2], _ =>
    rw [hn] at ek nv
    rw [e] at ek
    injection ek with e1 ek
    injection ek with e2 ek
    injection ek with e3 _
    exact ⟨y0, y1, y2, k, rfl, k0, e1, e2, e3, nv⟩
theorem ln_pt {r z : List Int} {s t : Int} (h : Rz r z) (nst : Nv [s, t]) : ∃ y0 y1 y2 : Int, gcV (ptP r z s t) ≠ 0 ∧ nrV (ptP r z s t) = [y0, y1, y2] ∧ Nv [y0, y1, y2] ∧ prL r [y0, y1, y2] [y0, y1, y2] = 0 ∧ gcV (d2V r z [y0, y1, y2]) ≠ 0 ∧ nrV (d2V r z [y0, y1, y2]) = [s, t] ∧ lieV r z [y0, y1, y2] s t = true := by
  obtain ⟨a0, a1, a2, z0, z1, z2, rfl, rfl, h0, h1, h2, hz⟩ := h.ex
  have nz := h.nz
  have hst := nv2 nst
  by_cases c0 : z0 = 0
  · by_cases c1 : z1 = 0
    · have zz : z2 ≠ 0 := fun c2 => nz (by unfold fsV; rw [if_pos c0]; unfold fsV; rw [if_pos c1]; unfold fsV; rw [if_pos c2]; rfl)
      have fp : fpV [z0, z1, z2] = 2 := by unfold fpV; rw [if_pos c0]; unfold fpV; rw [if_pos c1]; unfold fpV; rw [if_neg zz]
      have hz' : a2 * z2 * z2 + a0 * z0 * z0 + a1 * z1 * z1 = 0 := by omega
      have eP : ptP [a0, a1, a2] [z0, z1, z2] s t = [(a0 * s * s + a1 * t * t) * z0 - 2 * (a0 * z0 * s + a1 * z1 * t) * s, (a0 * s * s + a1 * t * t) * z1 - 2 * (a0 * z0 * s + a1 * z1 * t) * t, (a0 * s * s + a1 * t * t) * z2] := by
        unfold ptP; rw [fp]
        show [(a0 * s * s + (a1 * t * t + (a2 * 0 * 0 + 0))) * z0 - 2 * (a0 * z0 * s + (a1 * z1 * t + (a2 * z2 * 0 + 0))) * s, (a0 * s * s + (a1 * t * t + (a2 * 0 * 0 + 0))) * z1 - 2 * (a0 * z0 * s + (a1 * z1 * t + (a2 * z2 * 0 + 0))) * t, (a0 * s * s + (a1 * t * t + (a2 * 0 * 0 + 0))) * z2 - 2 * (a0 * z0 * s + (a1 * z1 * t + (a2 * z2 * 0 + 0))) * 0] = _
        simp only [Int.mul_zero, Int.add_zero, Int.sub_zero]
      have g : gcV (ptP [a0, a1, a2] [z0, z1, z2] s t) ≠ 0 := fun w => by
        rw [eP] at w
        have hw := gc_zero w
        exact ln5 h2 h0 h1 hz' zz hst (hw _ (by simp)) (hw _ (by simp)) (hw _ (by simp))
      obtain ⟨y0, y1, y2, k, en, k0, e0, e1, e2, nv⟩ := three_of eP g
      obtain ⟨q, c⟩ := ln4 h2 h0 h1 hz' zz hst k0 e2 e0 e1
      have edV : dV [z0, z1, z2] [y0, y1, y2] = [z2 * y0 - y2 * z0, z2 * y1 - y2 * z1, z2 * y2 - y2 * z2] := by unfold dV; rw [fp]; rfl
      have esl : slV [a0, a1, a2] [z0, z1, z2] = [a0 * z0, a1 * z1] := by unfold slV; rw [fp]; rfl
      have ed2 : d2V [a0, a1, a2] [z0, z1, z2] [y0, y1, y2] = if z2 * y0 - y2 * z0 = 0 ∧ z2 * y1 - y2 * z1 = 0 then [a1 * z1, -(a0 * z0)] else [z2 * y0 - y2 * z0, z2 * y1 - y2 * z1] := by
        unfold d2V
        rw [edV, esl, fp, Int.mul_comm z2 y2, Int.sub_self]
        by_cases cd : z2 * y0 - y2 * z0 = 0 ∧ z2 * y1 - y2 * z1 = 0
        · rw [if_pos cd, if_pos (by rw [cd.1, cd.2])]; rfl
        · rw [if_neg cd, if_neg (fun w => cd (by injection w with w1 w2; injection w2 with w2 _; exact ⟨w1, w2⟩))]; rfl
      obtain ⟨g2, n2⟩ := nrV_of nst ed2 c
      refine ⟨y0, y1, y2, g, en, nv, ?_, g2, n2, ?_⟩
      · show a0 * y0 * y0 + (a1 * y1 * y1 + (a2 * y2 * y2 + 0)) = 0
        omega
      · unfold lieV
        rw [edV, esl, fp]
        exact lie_of c
    · have fp : fpV [z0, z1, z2] = 1 := by unfold fpV; rw [if_pos c0]; unfold fpV; rw [if_neg c1]
      have hz' : a1 * z1 * z1 + a0 * z0 * z0 + a2 * z2 * z2 = 0 := by omega
      have eP : ptP [a0, a1, a2] [z0, z1, z2] s t = [(a0 * s * s + a2 * t * t) * z0 - 2 * (a0 * z0 * s + a2 * z2 * t) * s, (a0 * s * s + a2 * t * t) * z1, (a0 * s * s + a2 * t * t) * z2 - 2 * (a0 * z0 * s + a2 * z2 * t) * t] := by
        unfold ptP; rw [fp]
        show [(a0 * s * s + (a1 * 0 * 0 + (a2 * t * t + 0))) * z0 - 2 * (a0 * z0 * s + (a1 * z1 * 0 + (a2 * z2 * t + 0))) * s, (a0 * s * s + (a1 * 0 * 0 + (a2 * t * t + 0))) * z1 - 2 * (a0 * z0 * s + (a1 * z1 * 0 + (a2 * z2 * t + 0))) * 0, (a0 * s * s + (a1 * 0 * 0 + (a2 * t * t + 0))) * z2 - 2 * (a0 * z0 * s + (a1 * z1 * 0 + (a2 * z2 * t + 0))) * t] = _
        simp only [Int.mul_zero, Int.add_zero, Int.zero_add, Int.sub_zero]
      have g : gcV (ptP [a0, a1, a2] [z0, z1, z2] s t) ≠ 0 := fun w => by
        rw [eP] at w
        have hw := gc_zero w
        exact ln5 h1 h0 h2 hz' c1 hst (hw _ (by simp)) (hw _ (by simp)) (hw _ (by simp))
      obtain ⟨y0, y1, y2, k, en, k0, e0, e1, e2, nv⟩ := three_of eP g
      obtain ⟨q, c⟩ := ln4 h1 h0 h2 hz' c1 hst k0 e1 e0 e2
      have edV : dV [z0, z1, z2] [y0, y1, y2] = [z1 * y0 - y1 * z0, z1 * y1 - y1 * z1, z1 * y2 - y1 * z2] := by unfold dV; rw [fp]; rfl
      have esl : slV [a0, a1, a2] [z0, z1, z2] = [a0 * z0, a2 * z2] := by unfold slV; rw [fp]; rfl
      have ed2 : d2V [a0, a1, a2] [z0, z1, z2] [y0, y1, y2] = if z1 * y0 - y1 * z0 = 0 ∧ z1 * y2 - y1 * z2 = 0 then [a2 * z2, -(a0 * z0)] else [z1 * y0 - y1 * z0, z1 * y2 - y1 * z2] := by
        unfold d2V
        rw [edV, esl, fp, Int.mul_comm z1 y1, Int.sub_self]
        by_cases cd : z1 * y0 - y1 * z0 = 0 ∧ z1 * y2 - y1 * z2 = 0
        · rw [if_pos cd, if_pos (by rw [cd.1, cd.2])]; rfl
        · rw [if_neg cd, if_neg (fun w => cd (by injection w with w1 w2; injection w2 with w2 w3; injection w3 with w3 _; exact ⟨w1, w3⟩))]; rfl
      obtain ⟨g2, n2⟩ := nrV_of nst ed2 c
      refine ⟨y0, y1, y2, g, en, nv, ?_, g2, n2, ?_⟩
      · show a0 * y0 * y0 + (a1 * y1 * y1 + (a2 * y2 * y2 + 0)) = 0
        omega
      · unfold lieV
        rw [edV, esl, fp]
        exact lie_of c
  · have fp : fpV [z0, z1, z2] = 0 := by unfold fpV; rw [if_neg c0]
    have eP : ptP [a0, a1, a2] [z0, z1, z2] s t = [(a1 * s * s + a2 * t * t) * z0, (a1 * s * s + a2 * t * t) * z1 - 2 * (a1 * z1 * s + a2 * z2 * t) * s, (a1 * s * s + a2 * t * t) * z2 - 2 * (a1 * z1 * s + a2 * z2 * t) * t] := by
      unfold ptP; rw [fp]
      show [(a0 * 0 * 0 + (a1 * s * s + (a2 * t * t + 0))) * z0 - 2 * (a0 * z0 * 0 + (a1 * z1 * s + (a2 * z2 * t + 0))) * 0, (a0 * 0 * 0 + (a1 * s * s + (a2 * t * t + 0))) * z1 - 2 * (a0 * z0 * 0 + (a1 * z1 * s + (a2 * z2 * t + 0))) * s, (a0 * 0 * 0 + (a1 * s * s + (a2 * t * t + 0))) * z2 - 2 * (a0 * z0 * 0 + (a1 * z1 * s + (a2 * z2 * t + 0))) * t] = _
      simp only [Int.mul_zero, Int.add_zero, Int.zero_add, Int.sub_zero]
    have g : gcV (ptP [a0, a1, a2] [z0, z1, z2] s t) ≠ 0 := fun w => by
      rw [eP] at w
      have hw := gc_zero w
      exact ln5 h0 h1 h2 hz c0 hst (hw _ (by simp)) (hw _ (by simp)) (hw _ (by simp))
    obtain ⟨y0, y1, y2, k, en, k0, e0, e1, e2, nv⟩ := three_of eP g
    obtain ⟨q, c⟩ := ln4 h0 h1 h2 hz c0 hst k0 e0 e1 e2
    have edV : dV [z0, z1, z2] [y0, y1, y2] = [z0 * y0 - y0 * z0, z0 * y1 - y0 * z1, z0 * y2 - y0 * z2] := by unfold dV; rw [fp]; rfl
    have esl : slV [a0, a1, a2] [z0, z1, z2] = [a1 * z1, a2 * z2] := by unfold slV; rw [fp]; rfl
    have ed2 : d2V [a0, a1, a2] [z0, z1, z2] [y0, y1, y2] = if z0 * y1 - y0 * z1 = 0 ∧ z0 * y2 - y0 * z2 = 0 then [a2 * z2, -(a1 * z1)] else [z0 * y1 - y0 * z1, z0 * y2 - y0 * z2] := by
      unfold d2V
      rw [edV, esl, fp, Int.mul_comm z0 y0, Int.sub_self]
      by_cases cd : z0 * y1 - y0 * z1 = 0 ∧ z0 * y2 - y0 * z2 = 0
      · rw [if_pos cd, if_pos (by rw [cd.1, cd.2])]; rfl
      · rw [if_neg cd, if_neg (fun w => cd (by injection w with w1 w2; injection w2 with w2 w3; injection w3 with w3 _; exact ⟨w2, w3⟩))]; rfl
    obtain ⟨g2, n2⟩ := nrV_of nst ed2 c
    refine ⟨y0, y1, y2, g, en, nv, ?_, g2, n2, ?_⟩
    · show a0 * y0 * y0 + (a1 * y1 * y1 + (a2 * y2 * y2 + 0)) = 0
      omega
    · unfold lieV
      rw [edV, esl, fp]
      exact lie_of c
end EP

namespace L2
open PySem PySem.Spec PyProof.Rows

section
variable {κ : Type} [DecidableEq κ]
def valV (kvs : List (κ × V)) (k : κ) : Option V := (kvs.find? fun kv => decide (kv.1 = k)).map (·.2)
def putK (kvs : List (κ × V)) (k : κ) (v : V) : List (κ × V) :=
  if (kvs.any fun kv => decide (kv.1 = k)) = true then kvs.map (fun kv => if kv.1 = k then (kv.1, v) else kv) else kvs ++ [(k, v)]
def dropK (kvs : List (κ × V)) (k : κ) : List (κ × V) := kvs.filter fun kv => decide (kv.1 ≠ k)

theorem valV_pos {p : κ × V} {r : List (κ × V)} {k : κ} (e : p.1 = k) : valV (p :: r) k = some p.2 := by simp [valV, List.find?_cons, e]
theorem valV_neg {p : κ × V} {r : List (κ × V)} {k : κ} (e : ¬ p.1 = k) : valV (p :: r) k = valV r k := by simp [valV, List.find?_cons, e]
theorem valV_any (k : κ) : ∀ kvs : List (κ × V), (kvs.any fun kv => decide (kv.1 = k)) = (valV kvs k).isSome
  | [] => rfl
  | p :: r => by
    rw [List.any_cons]
    by_cases e : p.1 = k
    · simp only [valV_pos e, decide_eq_true e, Bool.true_or, Option.isSome_some]
    · rw [valV_neg e, decide_eq_false e, Bool.false_or]; exact valV_any k r
theorem length_putK (kvs : List (κ × V)) (k : κ) (v : V) : (putK kvs k v).length ≤ kvs.length + 1 := by
  unfold putK
  split
  · rw [List.length_map]; omega
  · rw [List.length_append, List.length_cons, List.length_nil]; omega

theorem RelO.isSome_eq {o : Option V} {u : Option Value} (r : RelO o u) : o.isSome = u.isSome := by
  cases o with
  | none => cases u with
    | none => rfl
    | some _ => exact (show False from r).elim
  | some _ => cases u with
    | none => exact (show False from r).elim
    | some _ => rfl
theorem RelO.getD {o : Option V} {u : Option Value} {d : V} {d' : Value} (r : RelO o u) (rd : RelV d d') : RelV (o.getD d) (u.getD d') := by
  cases o with
  | none => cases u with
    | none => exact rd
    | some _ => exact (show False from r).elim
  | some _ => cases u with
    | none => exact (show False from r).elim
    | some _ => exact r

theorem KV.val {kvs : List (κ × V)} {vs : List (κ × Value)} (r : KV kvs vs) (k : κ) : RelO (valV kvs k) (valueAt vs k) := by
  unfold KV at r
  induction r with
  | nil => exact True.intro
  | @cons p q ps qs h t ih =>
    obtain ⟨h1, h2⟩ := h
    by_cases e : p.1 = k
    · have e' : q.1 = k := h1.symm.trans e
      have b : valueAt (q :: qs) k = some q.2 := by simp [valueAt, List.find?_cons, e']
      rw [valV_pos e, b]; exact h2
    · have e' : ¬ q.1 = k := fun z => e (h1.trans z)
      have b : valueAt (q :: qs) k = valueAt qs k := by simp [valueAt, List.find?_cons, e']
      rw [valV_neg e, b]; exact ih
theorem KV.any {kvs : List (κ × V)} {vs : List (κ × Value)} (r : KV kvs vs) (k : κ) : (kvs.any fun kv => decide (kv.1 = k)) = vs.any fun kv => decide (kv.1 = k) := by
  unfold KV at r
  induction r with
  | nil => rfl
  | cons h t ih => rw [List.any_cons, List.any_cons, ih, h.1]
theorem KV.repl {kvs : List (κ × V)} {vs : List (κ × Value)} (r : KV kvs vs) (k : κ) {y : V} {u : Value} (ry : RelV y u) :
    KV (kvs.map fun kv => if kv.1 = k then (kv.1, y) else kv) (vs.map fun kv => if kv.1 = k then (kv.1, u) else kv) := by
  unfold KV at r ⊢
  induction r with
  | nil => exact .nil
  | @cons p q ps qs h t ih =>
    rw [List.map_cons, List.map_cons]
    refine .cons ?_ ih
    obtain ⟨h1, h2⟩ := h
    by_cases e : p.1 = k
    · rw [if_pos e, if_pos (h1.symm.trans e)]; exact ⟨h1, ry⟩
    · rw [if_neg e, if_neg (fun z => e (h1.trans z))]; exact ⟨h1, h2⟩
theorem KV.put {kvs : List (κ × V)} {vs : List (κ × Value)} (r : KV kvs vs) (k : κ) {y : V} {u : Value} (ry : RelV y u) : KV (putK kvs k y) (stored vs k u) := by
  unfold putK stored
  rw [r.any k]
  by_cases e : (vs.any fun kv => decide (kv.1 = k)) = true
  · rw [if_pos e, if_pos e]; exact r.repl k ry
  · rw [if_neg e, if_neg e]; exact Paired.snoc r ⟨rfl, ry⟩
theorem KV.drop {kvs : List (κ × V)} {vs : List (κ × Value)} (r : KV kvs vs) (k : κ) : KV (dropK kvs k) (without vs k) := by
  unfold KV at r ⊢
  unfold dropK without
  induction r with
  | nil => exact .nil
  | @cons p q ps qs h t ih =>
    obtain ⟨h1, h2⟩ := h
    rw [List.filter_cons, List.filter_cons]
    by_cases e : p.1 = k
    · have a : ¬ decide (p.1 ≠ k) = true := by simp [e]
      have b : ¬ decide (q.1 ≠ k) = true := by simp [h1.symm.trans e]
      rw [if_neg a, if_neg b]; exact ih
    · have e' : ¬ q.1 = k := fun z => e (h1.trans z)
      have a : decide (p.1 ≠ k) = true := by simp [e]
      have b : decide (q.1 ≠ k) = true := by simp [e']
      rw [if_pos a, if_pos b]; exact .cons ⟨h1, h2⟩ ih
theorem KV.length {kvs : List (κ × V)} {vs : List (κ × Value)} (r : KV kvs vs) : kvs.length = vs.length := Paired.length r
end


theorem kV_is {P : Program} {w : World} {k : Key} {u : Value} (r : RelV (kV k) u) : (mixKind P w).is k u = true := by
  cases k with
  | inl i => obtain ⟨t, e⟩ := (show ∃ t, u = Value.int i t from r); subst e; exact mixKind_int P w i t
  | inr x => obtain ⟨t, e⟩ := (show ∃ t, u = Value.str x t from r); subst e; exact mixKind_str P w x t
theorem items_are {P : Program} {w : World} : ∀ {ks : List Key} {us : List Value}, Vals (ks.map kV) us → ItemsAre (mixKind P w) ks us
  | [], _, r => by rw [List.map_nil] at r; cases r; exact .nil
  | k :: ks, _, r => by
    rw [List.map_cons] at r
    cases r with
    | cons h t => exact .cons (kV_is h) (items_are t)

abbrev KT (H : Hp) : List (List Key × V) → List (List Key × Addr × Value) → Prop := Paired fun p q => p.1 = q.1 ∧ H q.2.1 = some (.tup (p.1.map kV)) ∧ RelV p.2 q.2.2
theorem KT.val {H : Hp} {kvs : List (List Key × V)} {xs : List (List Key × Addr × Value)} (r : KT H kvs xs) (k : List Key) : RelO (valV kvs k) ((atKey xs k).map (·.2)) := by
  induction r with
  | nil => exact True.intro
  | @cons p q ps qs h t ih =>
    obtain ⟨h1, _, h2⟩ := h
    by_cases e : p.1 = k
    · have e' : q.1 = k := h1.symm.trans e
      have b : atKey (q :: qs) k = some q.2 := by simp [atKey, List.find?_cons, e']
      rw [valV_pos e, b]; exact h2
    · have e' : ¬ q.1 = k := fun z => e (h1.trans z)
      have b : atKey (q :: qs) k = atKey qs k := by simp [atKey, List.find?_cons, e']
      rw [valV_neg e, b]; exact ih
theorem KT.repl {H : Hp} {kvs : List (List Key × V)} {xs : List (List Key × Addr × Value)} (r : KT H kvs xs) (k : List Key) {y : V} {u : Value} (ry : RelV y u) :
    KT H (kvs.map fun kv => if kv.1 = k then (kv.1, y) else kv) (xs.map (putAt k u)) := by
  induction r with
  | nil => exact .nil
  | @cons p q ps qs h t ih =>
    rw [List.map_cons, List.map_cons]
    refine .cons ?_ ih
    obtain ⟨h1, h2, h3⟩ := h
    unfold putAt
    by_cases e : p.1 = k
    · rw [if_pos e, if_pos (h1.symm.trans e)]; exact ⟨h1, h2, ry⟩
    · rw [if_neg e, if_neg (fun z => e (h1.trans z))]; exact ⟨h1, h2, h3⟩
theorem KT.put {H : Hp} {kvs : List (List Key × V)} {xs : List (List Key × Addr × Value)} (r : KT H kvs xs) (k : List Key) {b : Addr} {y : V} {u : Value} (hb : H b = some (.tup (k.map kV))) (ry : RelV y u) :
    KT H (putK kvs k y) (storedH xs k b u) := by
  have e : (kvs.any fun kv => decide (kv.1 = k)) = (atKey xs k).isSome := by
    rw [valV_any, (r.val k).isSome_eq, Option.isSome_map]
  unfold putK storedH
  rw [e]
  by_cases q : (atKey xs k).isSome = true
  · rw [if_pos q, if_pos q]; exact r.repl k ry
  · rw [if_neg q, if_neg q]; exact Paired.snoc r ⟨rfl, hb, ry⟩
theorem KT.keeps {H H' : Hp} {kvs : List (List Key × V)} {xs : List (List Key × Addr × Value)} (r : KT H kvs xs) (ht : ∀ b ys, H b = some (.tup ys) → H' b = some (.tup ys)) : KT H' kvs xs :=
  Paired.mapP r fun _ _ z => ⟨z.1, ht _ _ z.2.1, z.2.2⟩

section
variable {P : Program} {w : World} {H : Hp} {h : Heap} {a : Addr}
theorem rd_of {u : HO} (ok : HOk P w H h) (e : Rd H a u) : ObjOk P w H h a u := e.ok ok
theorem dk_rd {kvs : List (Key × V)} (ok : HOk P w H h) (e : Rd H a (.dK kvs)) : kvs.length ≤ sizeLine ∧ (a == sysModules) = false ∧ ∃ vs, KV kvs vs ∧ h.DictOf (mixKind P w) a vs :=
  show ObjOk P w H h a (.dK kvs) from rd_of ok e
theorem dk_of {kvs : List (Key × V)} (ok : HOk P w H h) (e : H a = some (.dK kvs)) : kvs.length ≤ sizeLine ∧ (a == sysModules) = false ∧ ∃ vs, KV kvs vs ∧ h.DictOf (mixKind P w) a vs := dk_rd ok (.inl e)
theorem key_of {ks : List Key} (ok : HOk P w H h) (e : H a = some (.tup (ks.map kV))) : (tupleKind (mixKind P w)).is h ks a := by
  obtain ⟨_, its, r, o, h1, h2, n, h3⟩ := (show ObjOk P w H h a (.tup (ks.map kV)) from ok a _ e)
  exact ⟨o, its.toArray, n, h1, h2, h3, by simpa using items_are r⟩
theorem dt_rd {kvs : List (List Key × V)} (ok : HOk P w H h) (e : Rd H a (.dT kvs)) : kvs.length ≤ sizeLine ∧ (a == sysModules) = false ∧
    ∃ xs, KT H kvs xs ∧ h.DictOfH (tupleKind (mixKind P w)) a xs := by
  obtain ⟨z, y, xs, r, o, es, ep, h1, h2, h3, h4, h5⟩ := (show ObjOk P w H h a (.dT kvs) from rd_of ok e)
  refine ⟨z, y, xs, r, o, es, ep, h1, h2, h3, h4, fun x hx => ?_, h5⟩
  have all : ∀ {l : List (List Key × V)} {m : List (List Key × Addr × Value)}, KT H l m → ∀ x ∈ m, (tupleKind (mixKind P w)).is h x.1 x.2.1 := by
    intro l m q
    induction q with
    | nil => intro x hx; exact nomatch hx
    | @cons p q ps qs hq t ih =>
      intro x hx
      rcases List.mem_cons.mp hx with e | hx
      · subst e
        exact key_of ok (by rw [← hq.1]; exact hq.2.1)
      · exact ih x hx
  exact all r x hx
theorem dt_of {kvs : List (List Key × V)} (ok : HOk P w H h) (e : H a = some (.dT kvs)) : kvs.length ≤ sizeLine ∧ (a == sysModules) = false ∧
    ∃ xs, KT H kvs xs ∧ h.DictOfH (tupleKind (mixKind P w)) a xs := dt_rd ok (.inl e)
end

def DGet (H : Hp) (a : Addr) (y : V) (r : Option V) : Prop :=
  (∃ kvs k, Rd H a (.dK kvs) ∧ y = kV k ∧ r = valV kvs k) ∨ ∃ kvs k b, Rd H a (.dT kvs) ∧ y = .ref b ∧ H b = some (.tup (k.map kV)) ∧ r = valV kvs k
def DPut (H : Hp) (a : Addr) (y v : V) (H' : Hp) : Prop :=
  (∃ kvs k, H a = some (.dK kvs) ∧ y = kV k ∧ kvs.length < sizeLine ∧ H' = upd H a (.dK (putK kvs k v))) ∨
  ∃ kvs k b, H a = some (.dT kvs) ∧ y = .ref b ∧ H b = some (.tup (k.map kV)) ∧ kvs.length < sizeLine ∧ H' = upd H a (.dT (putK kvs k v))
theorem DGet.t {H : Hp} {a b : Addr} {kvs : List (List Key × V)} {k : List Key} (e : H a = some (.dT kvs)) (eb : H b = some (.tup (k.map kV))) : DGet H a (.ref b) (valV kvs k) := .inr ⟨kvs, k, b, .inl e, rfl, eb, rfl⟩
theorem DPut.t {H : Hp} {a b : Addr} {kvs : List (List Key × V)} {k : List Key} {v : V} (e : H a = some (.dT kvs)) (eb : H b = some (.tup (k.map kV))) (hl : kvs.length < sizeLine) :
    DPut H a (.ref b) v (upd H a (.dT (putK kvs k v))) := .inr ⟨kvs, k, b, e, rfl, eb, hl, rfl⟩


section
variable {X : Cx} {pins : List (Addr × Obj)} {σ : St} {H : Hp} {s : Shared} {a : Addr} {y v : V} {u r : Value} {o : Option V} {A : Around} {E : Value → Shared → Prop}

theorem Inv.big (I : Inv X pins σ H s) : sysModules < s.heap.objs.size := by
  have h : mainGlobals < s.heap.objs.size := (I.mod.glob.keeps I.bk).lt
  exact Nat.lt_trans (by decide) h

theorem d_write {h' : Heap} {t' : Nat} {ob : HO} (I : Inv X pins σ H s) (mu : Mut (H a)) (hs : Heap.SameBut a s.heap h') (he : ∃ q, h'.get? a = some q) (new : ObjOk X.prog X.w (upd H a ob) h' a ob) :
    Inv X pins σ (upd H a ob) { s with heap := h', toks := t' } :=
  I.write (x := a) (e := a) mu (.inl rfl) (fun b q hb z => (hs.2 b hb).trans z) he new
theorem dk_new {P : Program} {w : World} {H' : Hp} {h' : Heap} {kvs : List (Key × V)} {vs : List (Key × Value)} (z : kvs.length ≤ sizeLine) (hd : (a == sysModules) = false) (rel : KV kvs vs) (dd : h'.DictOf (mixKind P w) a vs) :
    ObjOk P w H' h' a (.dK kvs) := ⟨z, hd, vs, rel, dd⟩
theorem d_setItem {H' : Hp} {Q : Unit → Shared → Prop} (hu : A.units + 1 < cLine) (I : Inv X pins σ H s) (g : DPut H a y v H') (ry : RelV y u) (rv : RelV v r) (h : ∀ s', Inv X pins σ H' s' → Q () s') :
    wpAny (model X.prog X.w) A (setItem (.ref a) u r) Q E s := by
  rcases g with ⟨kvs, k, e, ey, l, eH⟩ | ⟨kvs, k, b, e, ey, eb, l, eH⟩
  · subst ey eH
    obtain ⟨z, hd, vs, rel, dd⟩ := dk_of I.hok e
    have hz : vs.length ≤ sizeLine := by rw [← rel.length]; exact z
    have hl : (putK kvs k v).length ≤ sizeLine := by have := length_putK kvs k v; omega
    refine wpAny_setItem_pairs (hsz := hz) (kV_is ry) dd fun h' dd' hs => h _ ?_
    have he : ∃ q, h'.get? a = some q := let ⟨q, _, _, hq, _⟩ := dd'; ⟨q, hq⟩
    exact d_write I (by rw [e]; exact True.intro) hs he (dk_new hl hd (rel.put k rv) dd')
  · subst ey eH
    cases (show u = Value.ref b from ry)
    obtain ⟨z, hd, xs, rel, dd⟩ := dt_of I.hok e
    have hz : xs.length ≤ sizeLine := by rw [← Paired.length rel]; exact z
    have hl : (putK kvs k v).length ≤ sizeLine := by have := length_putK kvs k v; omega
    refine wpAny_setItem_heap (hsz := hz) (tupleKind_room_in1 hu) (key_of I.hok eb) dd fun h' dd' hs => h _ ?_
    obtain ⟨q, es, ep, hq, h2, h3, h4, _, h5⟩ := dd'
    refine d_write I (by rw [e]; exact True.intro) hs ⟨q, hq⟩ ⟨hl, hd, _, (rel.put k eb rv).keeps fun c ys ec => ?_, q, es, ep, hq, h2, h3, h4, h5⟩
    rw [upd_ne (ne_of ec e (fun z => nomatch z))]
    exact ec
end

section
variable {X : Cx} {pins : List (Addr × Obj)} {σ : St} {H : Hp} {s : Shared} {a : Addr} {kvs : List (Key × V)} {k : Key} {u : Value} {A : Around} {E : Value → Shared → Prop}
end


def NoSl (i : Expr) : Prop := ∀ ov iv, subscripted i false ov iv = operate [ov, iv] (getItem ov iv)


def tDGet (td ty : TE) : TE := fun σ H Q => td σ H fun x H1 => ty σ H1 fun y H2 => ∃ a v, x = .ref a ∧ DGet H2 a y (some v) ∧ Q v H2
def tDIn (ty td : TE) : TE := fun σ H Q => ty σ H fun y H1 => td σ H1 fun x H2 => ∃ a o, x = .ref a ∧ DGet H2 a y o ∧ Q (.bl o.isSome) H2
def tDNotIn (ty td : TE) : TE := fun σ H Q => ty σ H fun y H1 => td σ H1 fun x H2 => ∃ a o, x = .ref a ∧ DGet H2 a y o ∧ Q (.bl (!o.isSome)) H2
def sDPut (td ty tv : TE) : TS := fun D σ H => tv σ H fun v H1 => td σ H1 fun x H2 => ty σ H2 fun y H3 => ∃ a H4, x = .ref a ∧ DPut H3 a y v H4 ∧ D.nx σ H4
def sDAug (td ty tv : TE) (rd : V → V → Hp → VK → Prop) : TS := fun D σ H => td σ H fun x H1 => ty σ H1 fun y H2 => ∃ a v, x = .ref a ∧ DGet H2 a y (some v) ∧
  tv σ H2 fun y2 H3 => rd v y2 H3 fun z H4 => ∃ H5, DPut H4 a y z H5 ∧ D.nx σ H5
def sDDel (td ty : TE) : TS := fun D σ H => td σ H fun x H1 => ty σ H1 fun y H2 => ∃ a kvs k, x = .ref a ∧ H2 a = some (.dK kvs) ∧ y = kV k ∧ (valV kvs k).isSome = true ∧ D.nx σ (upd H2 a (.dK (dropK kvs k)))

section
variable {X : Cx} {o i e value : Expr} {pos pos' tpos : Pos} {td ty tv : TE}
theorem ps_dput (hu : X.A.units + 1 < cLine) (ho : PE X o td) (hi : PE X i ty) (hv : PE X value tv) (hs : swapsWith value (some (.Subscript o i pos')) pos.line X.env = pure false) :
    PS X (.Assign [.Subscript o i pos'] value pos) (sDPut td ty tv) := by
  intro pins s σ H D I h
  refine wpAny_Assign_Subscript (thn (hv pins s σ H _ I h) fun r s1 ⟨v, H1, I1, rv, q1⟩ => thn (ho pins s1 σ H1 _ I1 q1) fun u s2 ⟨x, H2, I2, rx, q2⟩ => thn (hi pins s2 σ H2 _ I2 q2) fun iv s3 ⟨y, H3, I3, ry, a, H4, ex, g, q3⟩ => ?_) hs
  subst ex
  obtain rfl : u = Value.ref a := rx
  exact d_setItem hu I3 g ry rv fun s4 I4 => ⟨σ, H4, I4, q3⟩
end


theorem dt_empty {P : Program} {w : World} {H : Hp} (h : Heap) (hb : sysModules < h.objs.size) : ObjOk P w H (h.push { cls := .type "dict", data := .dict #[] }) h.objs.size (.dT []) :=
  ⟨Nat.zero_le _, beq_eq_false_iff_ne.mpr (Ne.symm (Nat.ne_of_lt hb)), [], .nil, _, #[], 0, Heap.get?_push_size _ rfl, ⟨rfl, rfl, rfl⟩, rfl, rfl, List.nodup_nil⟩
def tDNewK : TE := fun _ H Q => ∀ p, H p = none → Q (.ref p) (upd H p (.dK []))
def tDNewT : TE := fun _ H Q => ∀ p, H p = none → Q (.ref p) (upd H p (.dT []))
section
variable {X : Cx} {pos : Pos}
theorem pe_dnewT : PE X (.Dict [] [] pos) tDNewT := fun pins s σ H Q I h =>
  wpAny_Dict_empty ⟨.ref s.heap.objs.size, _, I.laid (a := s.heap.objs.size) (o := .dT []) (t' := s.toks) (fun _ _ q => Heap.get?_push_of_some _ q) (Nat.le_refl _) (dt_empty s.heap I.big), rfl, h _ (I.hok.fresh (Nat.le_refl _))⟩
end

def tPairs : List (TE × TE) → St → Hp → (List (V × V) → Hp → Prop) → Prop
  | [], _, H, Q => Q [] H
  | (tk, tv) :: r, σ, H, Q => tk σ H fun x H1 => tv σ H1 fun y H2 => tPairs r σ H2 fun ps H3 => Q ((x, y) :: ps) H3
abbrev VV : List (V × V) → List (Value × Value) → Prop := Paired fun p q => RelV p.1 q.1 ∧ RelV p.2 q.2
def PPs (X : Cx) (pos : Pos) (keys : List (Option Expr)) (values : List Expr) (trs : List (TE × TE)) : Prop :=
  ∀ (pins : List (Addr × Obj)) (s : Shared) (σ : St) (H : Hp) (Q : List (V × V) → Hp → Prop), Inv X pins σ H s → tPairs trs σ H Q →
    wpAny (model X.prog X.w) X.A (evalPairs (pairTrees keys values X.env pos)) (fun vs s' => ∃ ps H', Inv X pins σ H' s' ∧ VV ps vs ∧ Q ps H') X.xe s

def mergeK (kvs more : List (Key × V)) : List (Key × V) := more.foldl (fun acc kv => putK acc kv.1 kv.2) kvs
def tDisp (trs : List (TE × TE)) : TE := fun σ H Q => ∀ p, H p = none → tPairs trs σ (upd H p (.dK [])) fun ps H2 => H2 p = some (.dK []) ∧ ∃ kvs : List (Key × V), ps = kvs.map (fun kv => (kV kv.1, kv.2)) ∧ kvs.length ≤ 15 ∧ Q (.ref p) (upd H2 p (.dK (mergeK [] kvs)))


structure M1 (X : Cx) (o : Expr) (m : Str) (apos : Pos) (e : Expr) (cpos : Pos) : Prop where
  base : attributeBase o m X.env (eval o X.env) = eval o X.env
  few : ((backTo cpos (starEach [e] X.env)).all (fun x => !x.1) && (backToKw cpos (keywordEach [] X.env)).all (fun x => x.1.isSome)
    && decide (([e] : List Expr).length + ([] : List Keyword).length + (if ([] : List Keyword).isEmpty then 0 else 1) < 30)) = true
  line : (apos.endLine == cpos.line) = true
  trees : backTo cpos (starEach [e] X.env) = [(false, eval e X.env)]
structure M2 (X : Cx) (o : Expr) (m : Str) (apos : Pos) (e f : Expr) (cpos : Pos) : Prop where
  base : attributeBase o m X.env (eval o X.env) = eval o X.env
  few : ((backTo cpos (starEach [e, f] X.env)).all (fun x => !x.1) && (backToKw cpos (keywordEach [] X.env)).all (fun x => x.1.isSome)
    && decide (([e, f] : List Expr).length + ([] : List Keyword).length + (if ([] : List Keyword).isEmpty then 0 else 1) < 30)) = true
  line : (apos.endLine == cpos.line) = true
  trees : backTo cpos (starEach [e, f] X.env) = [(false, eval e X.env), (false, eval f X.env)]

def IsD (H : Hp) (a : Addr) : Prop := (∃ kvs, Rd H a (.dK kvs)) ∨ ∃ kvs, Rd H a (.dT kvs)
theorem isD_at {X : Cx} {pins : List (Addr × Obj)} {σ : St} {H : Hp} {s : Shared} {a : Addr} (I : Inv X pins σ H s) (d : IsD H a) :
    s.TypeIs (.ref a) "dict" ∧ (∀ b, Value.ref a = .ref b → ∃ ob, s.heap.get? b = some ob ∧ ob.dict = none) ∧ (a == sysModules) = false := by
  rcases d with ⟨kvs, e⟩ | ⟨kvs, e⟩
  · obtain ⟨_, hd, vs, _, dd⟩ := dk_rd I.hok e
    refine ⟨dd.typeIs, fun b q => ?_, hd⟩
    cases q
    obtain ⟨ob, _, _, h1, h2, _⟩ := dd
    exact ⟨ob, h1, h2.2.1⟩
  · obtain ⟨_, hd, xs, _, dd⟩ := dt_rd I.hok e
    refine ⟨dd.typeIs, fun b q => ?_, hd⟩
    cases q
    obtain ⟨ob, _, _, h1, h2, _⟩ := dd
    exact ⟨ob, h1, h2.2.1⟩

section
variable {X : Cx} {pins : List (Addr × Obj)} {σ : St} {H : Hp} {s : Shared} {a : Addr} {y d : V} {u r : Value} {o : Option V} {A : Around} {E : Value → Shared → Prop}
theorem d_get2 {Q : Value → Shared → Prop} (hu : A.units + 1 < cLine) (I : Inv X pins σ H s) (g : DGet H a y o) (ry : RelV y u) (rd : RelV d r) (h : ∀ w' s', Inv X pins σ H s' → RelV (o.getD d) w' → Q w' s') :
    wpAny (model X.prog X.w) A (call (.builtin "dict.get") [.ref a, u, r]) Q E s := by
  rcases g with ⟨kvs, k, e, ey, l⟩ | ⟨kvs, k, b, e, ey, eb, l⟩
  · subst ey
    obtain ⟨z, hd, vs, rel, dd⟩ := dk_rd I.hok e
    refine call_meetsIn PySem.F.slot_dict_get dd.typeIs PySem.F.entry_dict_get (PySem.F.args_dict_get_3 _ _ _) (meets_dict_get_default (mixKind X.prog X.w) a (kV_is ry) hd r) ⟨_, dd.mapOf, h _ _ (I.tok _) ?_⟩
    rw [l]
    exact (rel.val k).getD rd
  · subst ey
    cases (show u = Value.ref b from ry)
    obtain ⟨z, hd, xs, rel, dd⟩ := dt_rd I.hok e
    refine call_meetsIn PySem.F.slot_dict_get dd.typeIs PySem.F.entry_dict_get (PySem.F.args_dict_get_3 _ _ _) (meetsH_dict_get_default (tupleKind (mixKind X.prog X.w)) a b hd r) ⟨tupleKind_room_in1 hu, k, xs, key_of I.hok eb, dd, h _ _ (I.tok _) ?_⟩
    rw [l]
    exact (rel.val k).getD rd
end

def tDGet1 (td ty : TE) : TE := fun σ H Q => td σ H fun x H1 => ∃ a, x = .ref a ∧ IsD H1 a ∧ ty σ H1 fun y H2 => ∃ o, DGet H2 a y o ∧ Q (o.getD .non) H2
def tDGet2 (td ty tx : TE) : TE := fun σ H Q => td σ H fun x H1 => ∃ a, x = .ref a ∧ IsD H1 a ∧ ty σ H1 fun y H2 => tx σ H2 fun z H3 => ∃ o, DGet H3 a y o ∧ Q (o.getD z) H3
def tDPop1 (td ty : TE) : TE := fun σ H Q => td σ H fun x H1 => ∃ a, x = .ref a ∧ IsD H1 a ∧ ty σ H1 fun y H2 => ∃ kvs k v, H2 a = some (.dK kvs) ∧ y = kV k ∧ valV kvs k = some v ∧ Q v (upd H2 a (.dK (dropK kvs k)))
def tDPop2 (td ty tx : TE) : TE := fun σ H Q => td σ H fun x H1 => ∃ a, x = .ref a ∧ IsD H1 a ∧ ty σ H1 fun y H2 => tx σ H2 fun z H3 => ∃ kvs k, H3 a = some (.dK kvs) ∧ y = kV k ∧
  (∀ v, valV kvs k = some v → Q v (upd H3 a (.dK (dropK kvs k)))) ∧ (valV kvs k = none → Q z H3)
section
variable {X : Cx} {o e f : Expr} {apos cpos : Pos} {td ty tx : TE}
theorem pe_dget2 (hu : X.A.units + 1 < cLine) (ho : PE X o td) (he : PE X e ty) (hf : PE X f tx) (m : M2 X o "get" apos e f cpos) : PE X (.Call (.Attribute o "get" apos) [e, f] [] cpos) (tDGet2 td ty tx) := by
  intro pins s σ H Q I h
  refine wpAny_Call_method m.base m.few m.line PySem.F.plainAttrs_dict PySem.F.slot_dict_get PySem.F.type_dict_get (thn (ho pins s σ H _ I h) fun u s1 ⟨x, H1, I1, rx, a, ex, d, q1⟩ => ?_)
  subst ex
  obtain rfl : u = Value.ref a := rx
  obtain ⟨t1, t2, _⟩ := isD_at I1 d
  refine ⟨t1, t2, ?_⟩
  rw [m.trees]
  refine Calls.callWith_builtin rfl (Calls.evalArgs_plain (Calls.spliced_cons (thn (he pins s1 σ H1 _ I1 q1) fun iv s2 ⟨y, H2, I2, ry, q2⟩ =>
    Calls.spliced_cons (thn (hf pins s2 σ H2 _ I2 q2) fun fv s3 ⟨z, H3, I3, rz, ov, g, q3⟩ => Calls.spliced_nil ?_))))
  exact d_get2 hu I3 g ry rz fun w' s4 I4 rw' => ⟨_, H3, I4, rw', q3⟩
end

section
variable {X : Cx} {pins : List (Addr × Obj)} {σ : St} {H : Hp} {s : Shared} {a : Addr} {kvs : List (Key × V)} {A : Around} {E : Value → Shared → Prop}
end


section
variable {X : Cx} {pins : List (Addr × Obj)} {σ : St} {H : Hp} {s : Shared} {a : Addr} {y : V} {u : Value} {A : Around} {E : Value → Shared → Prop}
end
end L2

namespace L2.EP
open PySem PySem.Spec PyProof.Rows
section
variable {X : Cx} {Γ : GEnv} {D : GD} {α β γ : Type} [Py α] [Py β] [Py γ] {e e1 e2 ek ec : Expr} {b b1 b2 : Bool} {pos : Pos} {rest st : List Stmt}
theorem s_setL [PyT β] (i : Nat) {xs : List β} {k : Int} {c : β} {x : Str} {p p' : Pos} (hg : Γ[i]? = some (some (.dpo xs))) (hk : E X Γ ek b2 k) (he : E X Γ e b c) (h0 : 0 ≤ k) (hl : k < xs.length) (h : S X (Γ.set i (some (.dpo (xs.set k.toNat c)))) rest D) (hi : X.N[i]? = some x := by rfl)
    (hv : Vis X.env.scope x := by first | exact Or.inl rfl | exact Or.inr (Or.inl rfl) | exact Or.inr (Or.inr rfl)) (hd : (x == ("__debug__" : Str)) = false := by decide) (hcd : (x == ("__classdict__" : Str)) = false := by decide)
    (ha : ∀ v, assign (.Subscript (.Name x p) ek p') X.env v = (do
      let ov ← holding [v] (eval (.Name x p) X.env)
      let iv ← holding [v, ov] (eval ek X.env)
      standAt p'
      holding [v, ov, iv] (setItem ov iv v)
      release [v, ov, iv] []) := by intro _; rfl)
    (hs : swapsWithSole [.Subscript (.Name x p) ek p'] e pos.line X.env = pure false := by rfl) (hw : swappedStores [.Subscript (.Name x p) ek p'] e X.env = pure none := by rfl)
    (h1 : (assignEach [.Subscript (.Name x p) ek p'] X.env).map (·.2) = [assign (.Subscript (.Name x p) ek p') X.env] := by rfl) : S X Γ (.Assign [.Subscript (.Name x p) ek p'] e pos :: rest) D := by
  with_unfolding_all
    exact s_seq (ps_wk (ps_asg he (pg_sub (pv i hi hv hd hcd) hk set_list ha) hs hw h1) fun De σ H ⟨H0, F, O, Z, n, _⟩ => ⟨H0, F, O, Z, fun u H1 z1 ru => by
        obtain ⟨v, Di, hv1, _, _, _⟩ := (Z.go z1).write hg True.intro
        refine ⟨v, hv1, H0, F, O, Z.go z1, fun y H3 z3 ry => ?_⟩
        obtain ⟨v', Di, hv2, ⟨q, ys, e1, sq, nn, rr⟩, hO, wr⟩ := (Z.go (z1.trans z3)).write hg True.intro
        rw [hv1] at hv2
        have ev : v = v' := Option.some.inj (Option.some.inj hv2)
        subst ev
        have ey : y = V.int k := ry
        subst ey
        have hq : H3 q = some (.lst ys) := nn.2
        have hly : k < ys.length := by rw [pr_len rr]; exact hl
        have hix : ixN ys.length k = some k.toNat := by
          unfold ixN; rw [if_pos h0, if_pos (by omega)]
        have ht : ∀ p zs, Rt H3 p zs → Rt (upd H3 q (.lst (ys.set k.toNat u))) p zs := fun p zs h => by
          have hp : p ≠ q := fun w => by
            subst w
            rcases h with h | ⟨o, h⟩
            · rw [hq] at h; cases h
            · rw [hq] at h; cases h
          rcases h with h | ⟨o, h⟩
          · exact .inl (by rw [upd_ne hp]; exact h)
          · exact .inr ⟨o, by rw [upd_ne hp]; exact h⟩
        refine ⟨q, ys, k, k.toNat, e1, rfl, hq, hix, ?_⟩
        obtain ⟨Z', eo⟩ := wr q (ys.set k.toNat u) (some (.dpo (xs.set k.toNat c))) nn.1 fun g'' e' => by
          cases e'
          exact ⟨True.intro, q, _, e1, SqL.of upd_same, ⟨nn.1, upd_same⟩, pr_set (PyT.free (fun p xs w => ht p xs (Same.rt ((off_same _ _).trans z3) w)) ru) k.toNat (pr_imp (fun _ _ z => PyT.free ht z) rr)⟩
        exact n _ _ _ _ (by rw [eo]; exact off_mono (z1.trans z3)) Z' h⟩)
end
end L2.EP

namespace L2.EP
open PySem PySem.Spec PyProof.Rows
section
variable {X : Cx} {Γ : GEnv} {D : GD} {α β γ : Type} [Py α] [Py β] [Py γ] {e e1 e2 : Expr} {b b1 b2 : Bool} {pos : Pos} {rest st : List Stmt}
theorem e_borrowT [PyT β] (i : Nat) {a : α} {c : β} (hg : Γ[i]? = some (some (.dpo a))) (h : E X (Γ.set i (some (.val true a))) e b c) : E X Γ e true c := by
  with_unfolding_all
    exact pe_wk h fun σ H Q ⟨H0, F, O, Z, q⟩ => by
      obtain ⟨O', Z', so⟩ := Z.freeze hg True.intro (g' := .val true a) (fun z => z) fun Di O' v z1 z2 _ z4 => ok_dpo z1 z2 z4
      refine ⟨H0, F, O', Z', fun v H' s r => q v H' s ?_⟩
      exact PyT.free (fun p xs w => rd_tup_off (Z.go s).own p xs (Same.rt (off_same _ _) w)) r
end
end L2.EP

namespace L2
open PySem PySem.Spec PyProof.Rows
structure Sr where
  t : Bool
  it : Addr
  l : Addr
  xs : Array Value
def Sr.At (r : Sr) (h : Heap) (k : Nat) : Prop := if r.t = true then h.IsTupleIter r.it r.l k ∧ h.IsTuple r.l r.xs else h.IsListIter r.it r.l k ∧ h.IsList r.l r.xs
theorem Sr.At.go {r : Sr} {h h' : Heap} {k : Nat} (x : r.At h k) (e1 : ∀ o, h.get? r.it = some o → h'.get? r.it = some o) (e2 : ∀ o, h.get? r.l = some o → h'.get? r.l = some o) : r.At h' k := by
  unfold Sr.At at *
  split
  · rename_i ht
    rw [if_pos ht] at x
    obtain ⟨⟨o, a1, a2⟩, ⟨u, b1, b2⟩⟩ := x
    exact ⟨⟨o, e1 o a1, a2⟩, ⟨u, e2 u b1, b2⟩⟩
  · rename_i ht
    rw [if_neg ht] at x
    obtain ⟨⟨o, a1, a2⟩, ⟨u, b1, b2⟩⟩ := x
    exact ⟨⟨o, e1 o a1, a2⟩, ⟨u, e2 u b1, b2⟩⟩
theorem Sr.At.live {r : Sr} {h : Heap} {k : Nat} (x : r.At h k) : ∃ o, h.get? r.it = some o ∧ ∀ v, o.data ≠ .cell v := by
  unfold Sr.At at x
  split at x
  · obtain ⟨⟨o, a1, a2, a3⟩, _⟩ := x
    exact ⟨o, a1, fun v q => by rw [a3] at q; cases q⟩
  · obtain ⟨⟨o, a1, a2, a3⟩, _⟩ := x
    exact ⟨o, a1, fun v q => by rw [a3] at q; cases q⟩
section
variable {prog : Program} {w : World} {A : Around} {E : Value → Shared → Prop} {s : Shared}
theorem nextT_item {it t : Addr} {i : Nat} {xs : Array Value} {x : Value} {Q : Value → Shared → Prop} (hi : s.heap.IsTupleIter it t i) (ht : s.heap.IsTuple t xs) (hx : xs[i]? = some x)
    (hQ : ∀ h', h'.IsTupleIter it t (i + 1) → Heap.SameBut it s.heap h' → Q x { s with heap := h' }) : wpAny (model prog w) A (Builtin.SmallTypes.nextOf (.ref it)) Q E s := by
  obtain ⟨u, hu, cu, du⟩ := id hi
  obtain ⟨v, hv, _, nv, dv⟩ := ht
  unfold Builtin.SmallTypes.nextOf
  refine wpAny_bind (wpAny_callSpecial?_slot (name := Str.ofString "__next__") hi.typeIs F.slot_tuple_iterator_next (wpAny_call_entry F.slot_tuple_iterator_next hi.typeIs F.entry_tuple_iterator_next ?_ (F.args_tuple_iterator_next_1 _)))
  show wpAny _ _ (field (.ref it) 0 >>= _) _ _ s
  refine wpAny_bind (wpAny_field hu du (x := .ref t) rfl ?_)
  show wpAny _ _ (if (Value.ref t == Value.none) = true then _ else _) _ _ s
  rw [if_neg (by intro z; cases z)]
  show wpAny _ _ (field (.ref it) 1 >>= _) _ _ s
  refine wpAny_bind (wpAny_field hu du (x := .int i 0) rfl ?_)
  show wpAny _ _ (seqItems? (.ref t) >>= _) _ _ s
  refine wpAny_bind (wpAny_seqItems hv dv ?_)
  simp only [Int.toNat_natCast, hx]
  refine wpAny_bind (wpAny_setField hu du (by simp) (wpAny_pure ⟨x, rfl, wpAny_pure (hQ _ ⟨_, Heap.get?_update_self _ hu (Obj.isFreed_of_fields (Obj.data_mapFields du _)), (Obj.cls_mapFields ..).trans cu, ?_⟩ (Heap.SameBut.update ..))⟩))
  rw [Obj.data_mapFields du]; simp [rawInt]
theorem nextT_stop {it t : Addr} {i : Nat} {xs : Array Value} {Q : Value → Shared → Prop} (hh : A.handled = none) (hi : s.heap.IsTupleIter it t i) (ht : s.heap.IsTuple t xs) (hx : xs[i]? = none)
    (hE : ∀ h' e, Heap.ExtBut it s.heap h' → (∃ o, h'.get? e = some o ∧ o.cls = .type "StopIteration") → E (.ref e) { s with heap := h' }) : wpAny (model prog w) A (Builtin.SmallTypes.nextOf (.ref it)) Q E s := by
  obtain ⟨u, hu, cu, du⟩ := id hi
  obtain ⟨v, hv, _, nv, dv⟩ := ht
  unfold Builtin.SmallTypes.nextOf
  refine wpAny_bind (wpAny_callSpecial?_slot (name := Str.ofString "__next__") hi.typeIs F.slot_tuple_iterator_next (wpAny_call_entry F.slot_tuple_iterator_next hi.typeIs F.entry_tuple_iterator_next ?_ (F.args_tuple_iterator_next_1 _)))
  show wpAny _ _ (field (.ref it) 0 >>= _) _ _ s
  refine wpAny_bind (wpAny_field hu du (x := .ref t) rfl ?_)
  show wpAny _ _ (if (Value.ref t == Value.none) = true then _ else _) _ _ s
  rw [if_neg (by intro z; cases z)]
  show wpAny _ _ (field (.ref it) 1 >>= _) _ _ s
  refine wpAny_bind (wpAny_field hu du (x := .int i 0) rfl ?_)
  show wpAny _ _ (seqItems? (.ref t) >>= _) _ _ s
  refine wpAny_bind (wpAny_seqItems hv dv ?_)
  simp only [Int.toNat_natCast, hx]
  refine wpAny_bind (wpAny_rule (wpAny_bind (wpAny_setField hu du (by simp) ?_)))
  show wpAny _ _ (newExc (.type "StopIteration") [] >>= _) _ _ _
  refine wpAny_bind ?_
  simp only [newExc, newTuple]
  refine wpAny_bind (wpAny_newObj_type ?_ (by size_fits))
  refine wpAny_bind (m := firstArgMember _ _) (wpAny_of_eq (a := Value.none) (by first | rfl | (simp only [firstArgMember]; rfl)) ?_)
  refine wpAny_newObj_type ?_ (by size_fits)
  simp only [raiseNew]
  refine wpAny_bind (wpAny_handled ?_)
  first | rw [show A.in1.handled = none from hh] | rw [hh]
  refine wpAny_bind (wpAny_pure (wpAny_throw ?_))
  exact hE _ _ (((Heap.SameBut.update ..).extBut.push _).push _) ⟨_, Heap.get?_push_size _ rfl, rfl⟩
theorem Sr.item {r : Sr} {k : Nat} {x : Value} {Q : Value → Shared → Prop} (hr : r.At s.heap k) (hx : r.xs[k]? = some x) (hne : r.l ≠ r.it) (hQ : ∀ h', r.At h' (k + 1) → Heap.SameBut r.it s.heap h' → Q x { s with heap := h' }) :
    wpAny (model prog w) A (Builtin.SmallTypes.nextOf (.ref r.it)) Q E s := by
  unfold Sr.At at hr hQ
  by_cases ht : r.t = true
  · simp only [if_pos ht] at hr hQ
    exact nextT_item hr.1 hr.2 hx fun h' a b => hQ h' ⟨a, by obtain ⟨u, b1, b2⟩ := hr.2; exact ⟨u, (b.2 _ hne).trans b1, b2⟩⟩ b
  · simp only [if_neg ht] at hr hQ
    exact wpAny_nextOf_list_item hr.1 hr.2 hx fun h' a b => hQ h' ⟨a, by obtain ⟨u, b1, b2⟩ := hr.2; exact ⟨u, (b.2 _ hne).trans b1, b2⟩⟩ b
theorem Sr.stop {r : Sr} {k : Nat} {Q : Value → Shared → Prop} (hh : A.handled = none) (hr : r.At s.heap k) (hx : r.xs[k]? = none)
    (hE : ∀ h' e, Heap.ExtBut r.it s.heap h' → (∃ o, h'.get? e = some o ∧ o.cls = .type "StopIteration") → E (.ref e) { s with heap := h' }) : wpAny (model prog w) A (Builtin.SmallTypes.nextOf (.ref r.it)) Q E s := by
  unfold Sr.At at hr
  by_cases ht : r.t = true
  · simp only [if_pos ht] at hr
    exact nextT_stop hh hr.1 hr.2 hx hE
  · simp only [if_neg ht] at hr
    exact wpAny_nextOf_list_end hh hr.1 hr.2 hx hE
theorem forIn_inv {M : Model} {α β : Type} {b0 : β} {f : α → β → Sem (ForInStep β)} {Q : β → Shared → Prop} : ∀ {l : List α} {s : Shared} (J : Nat → Shared → Prop), J 0 s →
    (∀ i x s, l[i]? = some x → J i s → wpAny M A (f x b0) (fun r s' => r = .yield b0 ∧ J (i + 1) s') E s) → (∀ s, J l.length s → Q b0 s) → wpAny M A (forIn l b0 f) Q E s
  | [], s, J, h0, _, hd => by rw [List.forIn_nil]; exact wpAny_pure (hd s h0)
  | x :: l, s, J, h0, hs, hd => by
    rw [List.forIn_cons]
    refine wpAny_bind (thn (hs 0 x s rfl h0) fun r s' ⟨hr, h1⟩ => ?_)
    subst hr
    exact forIn_inv (fun i => J (i + 1)) h1 (fun i y s hy => hs (i + 1) y s (by simpa using hy)) fun s h => hd s h
structure ZA (z TI TO : Addr) (ss : List Sr) : Prop where
  zT : TO ≠ z
  zI : TI ≠ z
  TT : TI ≠ TO
  nd : (ss.map (·.it)).Nodup
  iz : ∀ r ∈ ss, r.it ≠ z ∧ r.it ≠ TO ∧ r.it ≠ TI
  lz : ∀ r ∈ ss, r.l ≠ z ∧ r.l ≠ TO ∧ ∀ r' ∈ ss, r.l ≠ r'.it
abbrev TupA (h : Heap) (T : Addr) (arr : Array Value) : Prop := h.get? T = some { cls := .type "tuple", data := .seq arr }
abbrev itsOf (ss : List Sr) : List Value := ss.map fun r => .ref r.it
theorem it_ne {z TI TO : Addr} {ss : List Sr} (D : ZA z TI TO ss) {i j : Nat} {r r' : Sr} (h : ss[i]? = some r) (h' : ss[j]? = some r') (hn : i ≠ j) : r.it ≠ r'.it := fun e => by
  have nd := D.nd
  have e1 : (ss.map (·.it))[i]? = some r.it := by rw [List.getElem?_map, h]; rfl
  have e2 : (ss.map (·.it))[j]? = some r'.it := by rw [List.getElem?_map, h']; rfl
  obtain ⟨l1, g1⟩ := List.getElem?_eq_some_iff.mp e1
  obtain ⟨l2, g2⟩ := List.getElem?_eq_some_iff.mp e2
  rcases Nat.lt_or_gt_of_ne hn with q | q
  · exact List.pairwise_iff_getElem.mp nd i j l1 l2 q (by rw [g1, g2, e])
  · exact List.pairwise_iff_getElem.mp nd j i l2 l1 q (by rw [g1, g2, e])
structure ZJ (z TI TO : Addr) (ss : List Sr) (vals : List Value) (k : Nat) (h0 : Heap) (i : Nat) (h : Heap) : Prop where
  zz : IsZip h z TI TO .ellipsis
  arr : ∃ a : Array Value, TupA h TO a ∧ a.size = ss.length ∧ ∀ j, j < i → a[j]? = vals[j]?
  src : ∀ (j : Nat) (r : Sr), ss[j]? = some r → r.At h (if j < i then k + 1 else k)
  siz : h.objs.size = h0.objs.size
  kp : ∀ c o, c ≠ z → c ≠ TO → (∀ r ∈ ss, c ≠ r.it) → h0.get? c = some o → h.get? c = some o
theorem zip_idx {ss : List Sr} {i : Nat} {x : Value × Nat} (h : ((itsOf ss).zipIdx)[i]? = some x) : ∃ r, ss[i]? = some r ∧ x = (.ref r.it, i) := by
  rw [List.getElem?_zipIdx, List.getElem?_map] at h
  cases e : ss[i]? with
  | none => rw [e] at h; cases h
  | some r => rw [e] at h; cases h; exact ⟨r, rfl, by simp⟩
theorem zj_start {z TI TO : Addr} {ss : List Sr} {vals : List Value} {k : Nat} {h0 h1 : Heap} {arr : Array Value} (D : ZA z TI TO ss) (hTO : TupA h0 TO arr) (ha : arr.size = ss.length) (hs : ∀ r ∈ ss, r.At h0 k) (hz : IsZip h1 z TI TO .ellipsis) (sb : Heap.SameBut z h0 h1) : ZJ z TI TO ss vals k h0 0 h1 where
  zz := hz
  arr := ⟨arr, (sb.2 _ D.zT).trans hTO, ha, fun j hj => absurd hj (Nat.not_lt_zero j)⟩
  src := fun j r hr => by
    have hm := List.mem_of_getElem? hr
    rw [if_neg (Nat.not_lt_zero j)]
    exact (hs r hm).go (fun o e => (sb.2 _ (D.iz r hm).1).trans e) (fun o e => (sb.2 _ (D.lz r hm).1).trans e)
  siz := sb.1
  kp := fun c o hc _ _ e => (sb.2 _ hc).trans e
theorem zj_step {z TI TO : Addr} {ss : List Sr} {vals : List Value} {k i : Nat} {h0 h h1 h2 : Heap} {r : Sr} {x : Value} {a : Array Value} (D : ZA z TI TO ss) (J : ZJ z TI TO ss vals k h0 i h) (hr : ss[i]? = some r) (hx : vals[i]? = some x) (ra : r.At h1 (k + 1)) (sb : Heap.SameBut r.it h h1)
    (ta : TupA h TO a) (hsz : a.size = ss.length) (hp : ∀ j, j < i → a[j]? = vals[j]?) (t2 : TupA h2 TO (a.setIfInBounds i x)) (sb2 : Heap.SameBut TO h1 h2) : ZJ z TI TO ss vals k h0 (i + 1) h2 where
  zz := (sb2.2 _ D.zT.symm).trans ((sb.2 _ (D.iz r (List.mem_of_getElem? hr)).1.symm).trans J.zz)
  arr := by
    have hi : i < ss.length := (List.getElem?_eq_some_iff.mp hr).1
    refine ⟨_, t2, by rw [Array.size_setIfInBounds]; exact hsz, fun j hj => ?_⟩
    by_cases e : j = i
    · subst e
      rw [Array.getElem?_setIfInBounds_self, if_pos (by omega), hx]
    · rw [Array.getElem?_setIfInBounds_ne (Ne.symm e)]
      exact hp j (by omega)
  src := fun j r' hr' => by
    have hm := List.mem_of_getElem? hr'
    have hm' := List.mem_of_getElem? hr
    by_cases e : j = i
    · subst e
      rw [hr] at hr'; cases hr'
      rw [if_pos (Nat.lt_succ_self j)]
      exact ra.go (fun o e => (sb2.2 _ (D.iz r hm).2.1).trans e) (fun o e => (sb2.2 _ (D.lz r hm).2.1).trans e)
    · have q := J.src j r' hr'
      have e2 : (if j < i + 1 then k + 1 else k) = if j < i then k + 1 else k := by
        by_cases z : j < i
        · rw [if_pos z, if_pos (by omega)]
        · rw [if_neg z, if_neg (by omega)]
      rw [e2]
      exact q.go (fun o e' => (sb2.2 _ (D.iz r' hm).2.1).trans ((sb.2 _ (it_ne D hr' hr e)).trans e')) (fun o e' => (sb2.2 _ (D.lz r' hm).2.1).trans ((sb.2 _ ((D.lz r' hm).2.2 r hm')).trans e'))
  siz := by rw [sb2.1, sb.1, J.siz]
  kp := fun c o c1 c2 c3 e => (sb2.2 _ c2).trans ((sb.2 _ (c3 r (List.mem_of_getElem? hr))).trans (J.kp c o c1 c2 c3 e))
theorem upd_tup {T : Addr} {a : Array Value} {x : Value} {k : Nat} {Q : Unit → Shared → Prop} (hT : TupA s.heap T a) (h : ∀ h', TupA h' T (a.setIfInBounds k x) → Heap.SameBut T s.heap h' → Q () { s with heap := h' }) (hz : a.size ≤ sizeLine) :
    wpAny (model prog w) A (updateSeq T (·.setIfInBounds k x)) Q E s := by
  refine wpAny_updateSeq hT rfl (h _ ?_ (Heap.SameBut.update ..)) (hz := by exact hz)
  show Heap.get? _ T = some _
  rw [Heap.get?_update_self _ hT rfl]
  simp [Obj.mapSeq]
theorem zipN_item {z TI TO : Addr} {ss : List Sr} {vals : List Value} {k : Nat} {arr : Array Value} {Q : Value → Shared → Prop} (D : ZA z TI TO ss) (h0 : ss ≠ []) (hl : ss.length ≤ 10) (hz : IsZip s.heap z TI TO .none) (hTI : TupA s.heap TI (itsOf ss).toArray) (hTO : TupA s.heap TO arr) (ha : arr.size = ss.length)
    (hs : ∀ r ∈ ss, r.At s.heap k) (hv : vals.length = ss.length) (hx : ∀ (j : Nat) (r : Sr), ss[j]? = some r → r.xs[k]? = vals[j]?)
    (hQ : ∀ h', IsZip h' z TI TO (rawInt s.heap.objs.size) → (∃ a : Array Value, TupA h' TO a ∧ a.size = ss.length) → (∀ r ∈ ss, r.At h' (k + 1)) → TupA h' s.heap.objs.size vals.toArray → (∀ c o, c ≠ z → c ≠ TO → (∀ r ∈ ss, c ≠ r.it) → s.heap.get? c = some o → h'.get? c = some o) → Q (.ref s.heap.objs.size) { s with heap := h' }) :
    wpAny (model prog w) A (Builtin.«zip.__next__» ⟨[.ref z], []⟩) (fun fin s' => ∃ v, fin = .done (.ret v) ∧ Q v s') E s := by
  show wpAny _ _ (field (.ref z) 2 >>= _) _ _ _
  refine wpAny_bind (wpAny_field hz rfl (x := .bool false) rfl ?_)
  show wpAny _ _ (field (.ref z) 3 >>= _) _ _ _
  refine wpAny_bind (wpAny_field hz rfl (x := .ref TI) rfl ?_)
  refine wpAny_bind (wpAny_seqItems hTI rfl ?_)
  have he : (itsOf ss).toArray.isEmpty = false := by
    cases ss with
    | nil => exact absurd rfl h0
    | cons r rs => rfl
  simp only [he, Bool.false_eq_true, if_false]
  show wpAny _ _ (Builtin.SmallTypes.ownedTupleIsFree (.ref z) >>= _) _ _ _
  refine wpAny_bind ?_
  unfold Builtin.SmallTypes.ownedTupleIsFree
  refine wpAny_bind (wpAny_field hz rfl (x := .none) rfl (wpAny_pure ?_))
  simp only [if_true]
  refine wpAny_bind (wpAny_rule ?_)
  refine wpAny_bind (wpAny_field hz rfl (x := .ref TO) rfl ?_)
  refine wpAny_bind (wpAny_setField_rec hz (by simp) fun h₁ hz₁ hs₁ => ?_)
  refine wpAny_bind (forIn_inv (fun i s' => ∃ h', ZJ z TI TO ss vals k s.heap i h' ∧ s' = { s with heap := h' }) ⟨h₁, zj_start D hTO ha hs hz₁ hs₁, rfl⟩ ?_ ?_)
  · rintro i x s' hi ⟨h', J, rfl⟩
    obtain ⟨r, hr, rfl⟩ := zip_idx hi
    have hm := List.mem_of_getElem? hr
    have hil : i < ss.length := (List.getElem?_eq_some_iff.mp hr).1
    have hvi : vals[i]? = some (vals[i]'(by omega)) := List.getElem?_eq_getElem (by omega)
    have rA := J.src i r hr
    rw [if_neg (Nat.lt_irrefl i)] at rA
    obtain ⟨a, ta, hsz, hp⟩ := J.arr
    refine wpAny_bind (wpAny_onRaise ?_)
    show wpAny _ _ (Builtin.SmallTypes.nextOf (.ref r.it) >>= _) _ _ _
    refine wpAny_bind (Sr.item (s := { s with heap := h' }) rA ((hx i r hr).trans hvi) ((D.lz r hm).2.2 r hm) fun h₂ r2 sb2 => wpAny_pure ?_)
    have ta2 : TupA h₂ TO a := (sb2.2 _ (D.iz r hm).2.1.symm).trans ta
    refine wpAny_bind (wpAny_seqItems (s := { s with heap := h₂ }) ta2 rfl ?_)
    refine wpAny_bind (upd_tup (s := { s with heap := h₂ }) ta2 (fun h₃ t3 sb3 => ?_) (by rw [hsz]; exact Nat.le_trans hl (by decide)))
    exact wpAny_bind (wpAny_letGo (wpAny_pure ⟨rfl, h₃, zj_step D J hr hvi r2 sb2 ta hsz hp t3 sb3, rfl⟩))
  · rintro s' ⟨h', J, rfl⟩
    rw [List.length_zipIdx, List.length_map] at J
    obtain ⟨a, ta, hsz, hp⟩ := J.arr
    have ea : a = vals.toArray := by
      apply Array.ext_getElem?
      intro j
      by_cases hj : j < ss.length
      · rw [hp j hj]; simp
      · rw [Array.getElem?_eq_none (by omega), Array.getElem?_eq_none (by simp; omega)]
    subst ea
    refine wpAny_bind (wpAny_seqItems (s := { s with heap := h' }) ta rfl ?_)
    refine wpAny_bind (wpAny_newTuple ?_)
    have zlt : z < h'.objs.size := Heap.lt_size J.zz
    have tlt : TO < h'.objs.size := Heap.lt_size ta
    show wpAny _ _ (Builtin.SmallTypes.ownedTupleHandOut (.ref z) (.ref h'.objs.size) >>= _) _ _ _
    refine wpAny_bind ?_
    unfold Builtin.SmallTypes.ownedTupleHandOut
    have z6 : IsZip (h'.push { cls := .type "tuple", data := .seq vals.toArray.toList.toArray }) z TI TO .ellipsis := Heap.get?_push_of_some _ J.zz
    refine wpAny_bind (wpAny_setField_rec z6 (by simp) fun h₇ z7 s7 => ?_)
    replace z7 : IsZip h₇ z TI TO (rawInt h'.objs.size) := z7
    refine wpAny_setField_rec z7 (by simp) fun h₈ z8 s8 => ?_
    replace z8 : IsZip h₈ z TI TO (rawInt h'.objs.size) := z8
    have up : ∀ c o, c ≠ z → h'.get? c = some o → h₈.get? c = some o := fun c o c1 e => (s8.2 _ c1).trans ((s7.2 _ c1).trans (Heap.get?_push_of_some _ e))
    have t8 : TupA h₈ h'.objs.size vals.toArray := (s8.2 _ (Nat.ne_of_gt zlt)).trans ((s7.2 _ (Nat.ne_of_gt zlt)).trans (Heap.get?_push_size _ rfl))
    refine wpAny_pure ⟨_, rfl, ?_⟩
    rw [J.siz] at z8 t8
    show Q (.ref h'.objs.size) _
    rw [J.siz]
    refine hQ h₈ z8 ⟨_, up _ _ D.zT ta, hsz⟩ (fun r hr => ?_) t8 fun c o c1 c2 c3 e => up c o c1 (J.kp c o c1 c2 c3 e)
    obtain ⟨j, hj, ej⟩ := List.mem_iff_getElem.mp hr
    have q := J.src j r (by rw [List.getElem?_eq_getElem hj, ej])
    rw [if_pos hj] at q
    exact q.go (fun o e => up _ o (D.iz r hr).1 e) (fun o e => up _ o (D.lz r hr).1 e)
theorem zipN_stop {z TI TO : Addr} {ss : List Sr} {k : Nat} {arr : Array Value} {Q : Fin → Shared → Prop} (hh : A.handled = none) (D : ZA z TI TO ss) (hl : ss.length ≤ 10) (hz : IsZip s.heap z TI TO .none) (hTI : TupA s.heap TI (itsOf ss).toArray) (hTO : TupA s.heap TO arr) (ha : arr.size = ss.length)
    (hs : ∀ r ∈ ss, r.At s.heap k) (hx : ∃ r ∈ ss, r.xs[k]? = none)
    (hE : ∀ h' e, (∀ c o, c ≠ z → c ≠ TO → (∀ r ∈ ss, c ≠ r.it) → s.heap.get? c = some o → h'.get? c = some o) → (∃ o, h'.get? e = some o ∧ o.cls = .type "StopIteration") → E (.ref e) { s with heap := h' }) :
    wpAny (model prog w) A (Builtin.«zip.__next__» ⟨[.ref z], []⟩) Q E s := by
  show wpAny _ _ (field (.ref z) 2 >>= _) _ _ _
  refine wpAny_bind (wpAny_field hz rfl (x := .bool false) rfl ?_)
  show wpAny _ _ (field (.ref z) 3 >>= _) _ _ _
  refine wpAny_bind (wpAny_field hz rfl (x := .ref TI) rfl ?_)
  refine wpAny_bind (wpAny_seqItems hTI rfl ?_)
  have he : (itsOf ss).toArray.isEmpty = false := by
    cases ss with
    | nil => obtain ⟨r, hr, _⟩ := hx; cases hr
    | cons r rs => rfl
  simp only [he, Bool.false_eq_true, if_false]
  show wpAny _ _ (Builtin.SmallTypes.ownedTupleIsFree (.ref z) >>= _) _ _ _
  refine wpAny_bind ?_
  unfold Builtin.SmallTypes.ownedTupleIsFree
  refine wpAny_bind (wpAny_field hz rfl (x := .none) rfl (wpAny_pure ?_))
  simp only [if_true]
  refine wpAny_bind (wpAny_rule ?_)
  refine wpAny_bind (wpAny_field hz rfl (x := .ref TO) rfl ?_)
  refine wpAny_bind (wpAny_setField_rec hz (by simp) fun h₁ hz₁ hs₁ => ?_)
  refine wpAny_bind (forIn_inv (fun i s' => ∃ h', ZJ z TI TO ss (ss.map fun r => r.xs.getD k .none) k s.heap i h' ∧ (∀ (j : Nat) (r : Sr), j < i → ss[j]? = some r → r.xs[k]? ≠ none) ∧ s' = { s with heap := h' }) ⟨h₁, zj_start D hTO ha hs hz₁ hs₁, fun j r hj => absurd hj (Nat.not_lt_zero j), rfl⟩ ?_ ?_)
  · rintro i x s' hi ⟨h', J, hb, rfl⟩
    obtain ⟨r, hr, rfl⟩ := zip_idx hi
    have hm := List.mem_of_getElem? hr
    have hil : i < ss.length := (List.getElem?_eq_some_iff.mp hr).1
    have rA := J.src i r hr
    rw [if_neg (Nat.lt_irrefl i)] at rA
    obtain ⟨a, ta, hsz, hp⟩ := J.arr
    refine wpAny_bind (wpAny_onRaise ?_)
    show wpAny _ _ (Builtin.SmallTypes.nextOf (.ref r.it) >>= _) _ _ _
    cases hy : r.xs[k]? with
    | none =>
      refine wpAny_bind (Sr.stop (s := { s with heap := h' }) hh rA hy fun h₂ e s2 ⟨oe, hoe, hce⟩ => ?_)
      have z2 : IsZip h₂ z TI TO .ellipsis := s2 _ _ (D.iz r hm).1.symm J.zz
      have hez : e ≠ z := fun q => by subst q; rw [z2] at hoe; cases hoe; simp at hce
      exact wpAny_setField_rec z2 (by simp) fun h₃ _ s3 => hE h₃ e (fun c o c1 c2 c3 q => (s3.2 _ c1).trans (s2 _ _ (c3 r hm) (J.kp c o c1 c2 c3 q))) ⟨oe, (s3.2 _ hez).trans hoe, hce⟩
    | some y =>
      have hvi : (ss.map fun r => r.xs.getD k .none)[i]? = some y := by
        rw [List.getElem?_map, hr]
        show some (r.xs.getD k .none) = some y
        rw [Array.getD_eq_getD_getElem?, hy]; rfl
      refine wpAny_bind (Sr.item (s := { s with heap := h' }) rA hy ((D.lz r hm).2.2 r hm) fun h₂ r2 sb2 => wpAny_pure ?_)
      have ta2 : TupA h₂ TO a := (sb2.2 _ (D.iz r hm).2.1.symm).trans ta
      refine wpAny_bind (wpAny_seqItems (s := { s with heap := h₂ }) ta2 rfl ?_)
      refine wpAny_bind (upd_tup (s := { s with heap := h₂ }) ta2 (fun h₃ t3 sb3 => ?_) (by rw [hsz]; exact Nat.le_trans hl (by decide)))
      refine wpAny_bind (wpAny_letGo (wpAny_pure ⟨rfl, h₃, zj_step D J hr hvi r2 sb2 ta hsz hp t3 sb3, fun j r' hj hr' => ?_, rfl⟩))
      by_cases q : j = i
      · subst q; rw [hr] at hr'; cases hr'; rw [hy]; exact fun z => nomatch z
      · exact hb j r' (by omega) hr'
  · rintro s' ⟨h', J, hb, rfl⟩
    exfalso
    obtain ⟨r, hr, hn⟩ := hx
    obtain ⟨j, hj, ej⟩ := List.mem_iff_getElem.mp hr
    exact hb j r (by rw [List.length_zipIdx, List.length_map]; exact hj) (by rw [List.getElem?_eq_getElem hj, ej]) hn
theorem nextN_item {z TI TO : Addr} {ss : List Sr} {vals : List Value} {k : Nat} {arr : Array Value} {Q : Option Value → Shared → Prop} (D : ZA z TI TO ss) (h0 : ss ≠ []) (hl : ss.length ≤ 10) (hz : IsZip s.heap z TI TO .none) (hTI : TupA s.heap TI (itsOf ss).toArray) (hTO : TupA s.heap TO arr) (ha : arr.size = ss.length)
    (hs : ∀ r ∈ ss, r.At s.heap k) (hv : vals.length = ss.length) (hx : ∀ (j : Nat) (r : Sr), ss[j]? = some r → r.xs[k]? = vals[j]?)
    (hQ : ∀ h', IsZip h' z TI TO (rawInt s.heap.objs.size) → (∃ a : Array Value, TupA h' TO a ∧ a.size = ss.length) → (∀ r ∈ ss, r.At h' (k + 1)) → TupA h' s.heap.objs.size vals.toArray → (∀ c o, c ≠ z → c ≠ TO → (∀ r ∈ ss, c ≠ r.it) → s.heap.get? c = some o → h'.get? c = some o) → Q (some (.ref s.heap.objs.size)) { s with heap := h' }) :
    wpAny (model prog w) A (pyNext (.ref z)) Q E s := by
  have hT : s.TypeIs (.ref z) "zip" := ⟨_, hz, rfl⟩
  unfold pyNext
  exact wpAny_bind (wpAny_attempt (wpAny_callSpecial?_slot (name := Str.ofString "__next__") hT F.slot_zip_next (wpAny_call_entry F.slot_zip_next hT F.entry_zip_next
    (zipN_item D h0 hl hz hTI hTO ha hs hv hx fun h' a1 a2 a3 a4 a5 => wpAny_pure (hQ h' a1 a2 a3 a4 a5)) (F.args_zip_next_1 _))))
theorem nextN_stop {z TI TO : Addr} {ss : List Sr} {k : Nat} {arr : Array Value} {Q : Option Value → Shared → Prop} (hh : A.handled = none) (D : ZA z TI TO ss) (hl : ss.length ≤ 10) (hz : IsZip s.heap z TI TO .none) (hTI : TupA s.heap TI (itsOf ss).toArray) (hTO : TupA s.heap TO arr) (ha : arr.size = ss.length)
    (hs : ∀ r ∈ ss, r.At s.heap k) (hx : ∃ r ∈ ss, r.xs[k]? = none) (hQ : ∀ h', (∀ c o, c ≠ z → c ≠ TO → (∀ r ∈ ss, c ≠ r.it) → s.heap.get? c = some o → h'.get? c = some o) → Q none { s with heap := h' }) : wpAny (model prog w) A (pyNext (.ref z)) Q E s := by
  have hT : s.TypeIs (.ref z) "zip" := ⟨_, hz, rfl⟩
  unfold pyNext
  refine wpAny_bind (wpAny_attempt (wpAny_callSpecial?_slot (name := Str.ofString "__next__") hT F.slot_zip_next (wpAny_call_entry F.slot_zip_next hT F.entry_zip_next
    (zipN_stop hh D hl hz hTI hTO ha hs hx fun h' e hk ⟨o, ho, hc⟩ => ?_) (F.args_zip_next_1 _))))
  exact wpAny_bind (wpAny_isInstance (T := "StopIteration") (b := true) ⟨o, ho, hc⟩ isSubtype_stop (wpAny_pure (hQ _ hk)))
end
end L2

namespace L2
open PySem PySem.Spec PyProof.Rows
abbrev itO (t : Bool) (l : Addr) : Obj := { cls := .type (if t = true then "tuple_iterator" else "list_iterator"), data := .fields #[.ref l, .int 0 0] }
def SeqAt (h : Heap) (t : Bool) (l : Addr) (xs : Array Value) : Prop := if t = true then h.IsTuple l xs else h.IsList l xs
theorem SeqAt.keep {h h' : Heap} {t : Bool} {l : Addr} {xs : Array Value} (x : SeqAt h t l xs) (k : ∀ o, h.get? l = some o → h'.get? l = some o) : SeqAt h' t l xs := by
  unfold SeqAt at *
  cases t
  · obtain ⟨o, a, b⟩ := x; exact ⟨o, k o a, b⟩
  · obtain ⟨o, a, b⟩ := x; exact ⟨o, k o a, b⟩
abbrev zH2 (h : Heap) (t1 t2 : Bool) (l1 l2 : Addr) : Heap := (h.push (itO t1 l1)).push (itO t2 l2)
abbrev zH2e (h : Heap) (t1 t2 : Bool) (l1 l2 : Addr) : Heap := (((zH2 h t1 t2 l1 l2).push { cls := .type "tuple", data := .seq #[.ref h.objs.size, .ref (h.push (itO t1 l1)).objs.size] }).push { cls := .type "tuple", data := .seq #[.none, .none] })
abbrev zH2z (h : Heap) (t1 t2 : Bool) (l1 l2 : Addr) : Heap := (zH2e h t1 t2 l1 l2).push { cls := .type "zip", data := .fields #[.none, .bool false, .bool false, .ref (zH2 h t1 t2 l1 l2).objs.size, .ref ((zH2 h t1 t2 l1 l2).push { cls := .type "tuple", data := .seq #[.ref h.objs.size, .ref (h.push (itO t1 l1)).objs.size] }).objs.size] }
abbrev zH3 (h : Heap) (l1 l2 l3 : Addr) : Heap := ((h.push (itO false l1)).push (itO false l2)).push (itO false l3)
abbrev tI3 (h : Heap) (l1 l2 : Addr) : Obj := { cls := .type "tuple", data := .seq #[.ref h.objs.size, .ref (h.push (itO false l1)).objs.size, .ref ((h.push (itO false l1)).push (itO false l2)).objs.size] }
abbrev zH3e (h : Heap) (l1 l2 l3 : Addr) : Heap := (((zH3 h l1 l2 l3).push (tI3 h l1 l2)).push { cls := .type "tuple", data := .seq #[.none, .none, .none] })
abbrev zH3z (h : Heap) (l1 l2 l3 : Addr) : Heap := (zH3e h l1 l2 l3).push { cls := .type "zip", data := .fields #[.none, .bool false, .bool false, .ref (zH3 h l1 l2 l3).objs.size, .ref ((zH3 h l1 l2 l3).push (tI3 h l1 l2)).objs.size] }
set_option maxHeartbeats 4000000 in
theorem meets_zip3 (l1 l2 l3 : Addr) (xs ys zs : Array Value) :
    Meets (Builtin.«zip.__new__» ⟨[.type "zip", .ref l1, .ref l2, .ref l3], []⟩) (fun _ R s => s.heap.IsList l1 xs ∧ s.heap.IsList l2 ys ∧ s.heap.IsList l3 zs ∧ R (.ok (.ret (.ref (zH3e s.heap l1 l2 l3).objs.size))) { s with heap := zH3z s.heap l1 l2 l3 }) :=
  .of_wp fun prog w A R s h => by
    obtain ⟨hp, g, d, tk, os⟩ := s
    obtain ⟨h1, h2, h3, h⟩ := h
    have hsub := sub_zip
    have q1 : Heap.IsList (Shared.heap ⟨hp, g, d, tk, os⟩) l1 xs := h1
    have q2 : Heap.IsList (Shared.heap ⟨hp.push { cls := .type "list_iterator", data := .fields #[.ref l1, .int 0 0] }, g, d, tk, os⟩) l2 ys := Heap.IsList.push h2 _
    have q3 : Heap.IsList (Shared.heap ⟨(hp.push { cls := .type "list_iterator", data := .fields #[.ref l1, .int 0 0] }).push { cls := .type "list_iterator", data := .fields #[.ref l2, .int 0 0] }, g, d, tk, os⟩) l3 zs := Heap.IsList.push (Heap.IsList.push h3 _) _
    wp_walk using wpAny_pyIter_list q1, wpAny_pyIter_list q2, wpAny_pyIter_list q3
    exact ⟨_, rfl, h⟩
theorem typeCall_zip3 (a b c : Value) : checkTypeCall "zip" ⟨[a, b, c], []⟩ = pure () := by kernel_rfl
theorem newCall_zip3 (a b c : Value) : checkBuiltinCall "zip.__new__" ⟨[.type "zip", a, b, c], []⟩ = pure () := by kernel_rfl
theorem args_object_init4 (a b c d : Value) : argsOk "object.__init__" ⟨[a, b, c, d], []⟩ := by
  unfold argsOk; rw [signature?_of (id := "object.__init__") (n := ['_', '_', 't', 'i', 'n', 'i', '_', '_']) (o := ['t', 'c', 'e', 'j', 'b', 'o']) (by kernel_rfl) F.owner_object]; kernel_rfl
end L2

namespace L2
open PySem PySem.Spec PyProof.Rows
def SqX (K : PySem.W.Frag) (H : Hp) (p : Bool × Addr) (xs : List V) : Prop := if p.1 = true then SqT K H p.2 xs else SqL K H p.2 xs
def itAt (h : Heap) (p : Bool × Addr) (it : Addr) (k : Nat) : Prop := if p.1 = true then h.IsTupleIter it p.2 k else h.IsListIter it p.2 k
theorem Sr.at_iff {r : Sr} {h : Heap} {k : Nat} : r.At h k ↔ itAt h (r.t, r.l) r.it k ∧ SeqAt h r.t r.l r.xs := by
  unfold Sr.At itAt SeqAt
  cases r.t <;> exact Iff.rfl
theorem itAt.keep {h h' : Heap} {p : Bool × Addr} {it : Addr} {k : Nat} (x : itAt h p it k) (e : ∀ o, h.get? it = some o → h'.get? it = some o) : itAt h' p it k := by
  unfold itAt at *
  split
  · rename_i ht; rw [if_pos ht] at x; obtain ⟨o, a, b⟩ := x; exact ⟨o, e o a, b⟩
  · rename_i ht; rw [if_neg ht] at x; obtain ⟨o, a, b⟩ := x; exact ⟨o, e o a, b⟩
theorem itAt.live {h : Heap} {p : Bool × Addr} {it : Addr} {k : Nat} (x : itAt h p it k) : ∃ o, h.get? it = some o ∧ ∀ v, o.data ≠ .cell v := by
  unfold itAt at x
  split at x
  · obtain ⟨o, a1, a2, a3⟩ := x; exact ⟨o, a1, fun v q => by rw [a3] at q; cases q⟩
  · obtain ⟨o, a1, a2, a3⟩ := x; exact ⟨o, a1, fun v q => by rw [a3] at q; cases q⟩
def Itn (K : PySem.W.Frag) (ks : List (Bool × Addr)) : It :=
  ⟨fun i H => ∀ p ∈ ks, ∃ xs x, SqX K H p xs ∧ xs[i]? = some x,
   fun i H v H' => ∃ T ys, H T = none ∧ v = .ref T ∧ H' = upd H T (.tup ys) ∧ ys.length = ks.length ∧ ∀ (j : Nat) p, ks[j]? = some p → ∀ xs, SqX K H p xs → xs[i]? = ys[j]?,
   fun i H => (∀ p ∈ ks, ∃ xs, SqX K H p xs) ∧ ∃ p ∈ ks, ∃ xs, SqX K H p xs ∧ xs.length ≤ i⟩
def srs (ks : List (Bool × Addr)) (its : List Addr) (f : Bool × Addr → Array Value) : List Sr := List.zipWith (fun p it => ⟨p.1, it, p.2, f p⟩) ks its
theorem srs_get {ks : List (Bool × Addr)} {its : List Addr} {f : Bool × Addr → Array Value} {j : Nat} {r : Sr} (h : (srs ks its f)[j]? = some r) : ∃ p it, ks[j]? = some p ∧ its[j]? = some it ∧ r = ⟨p.1, it, p.2, f p⟩ := by
  unfold srs at h
  rw [List.getElem?_zipWith] at h
  cases e1 : ks[j]? with
  | none => rw [e1] at h; cases h
  | some p =>
    cases e2 : its[j]? with
    | none => rw [e1, e2] at h; cases h
    | some it => rw [e1, e2] at h; cases h; exact ⟨p, it, rfl, rfl, rfl⟩
theorem srs_mem {ks : List (Bool × Addr)} {its : List Addr} {f : Bool × Addr → Array Value} {r : Sr} (h : r ∈ srs ks its f) : ∃ (j : Nat) (p : Bool × Addr) (it : Addr), (srs ks its f)[j]? = some r ∧ ks[j]? = some p ∧ its[j]? = some it ∧ r = ⟨p.1, it, p.2, f p⟩ := by
  obtain ⟨j, hj, e⟩ := List.mem_iff_getElem.mp h
  have e' : (srs ks its f)[j]? = some r := by rw [List.getElem?_eq_getElem hj, e]
  obtain ⟨p, it, a, b, c⟩ := srs_get e'
  exact ⟨j, p, it, e', a, b, c⟩
theorem srs_len {ks : List (Bool × Addr)} {its : List Addr} {f : Bool × Addr → Array Value} (h : ks.length = its.length) : (srs ks its f).length = ks.length := by
  unfold srs; rw [List.length_zipWith, h, Nat.min_self]
theorem srs_its {f : Bool × Addr → Array Value} : ∀ {ks : List (Bool × Addr)} {its : List Addr}, ks.length = its.length → (srs ks its f).map (·.it) = its
  | [], [], _ => rfl
  | [], _ :: _, h => nomatch h
  | _ :: _, [], h => nomatch h
  | p :: ks, it :: its, h => by
    show it :: (srs ks its f).map (·.it) = it :: its
    rw [srs_its (ks := ks) (Nat.succ.inj h)]
theorem srs_itsOf {ks : List (Bool × Addr)} {its : List Addr} {f : Bool × Addr → Array Value} (h : ks.length = its.length) : itsOf (srs ks its f) = its.map .ref := by
  have := congrArg (List.map Value.ref) (srs_its (ks := ks) (f := f) h)
  rw [List.map_map] at this
  exact this
theorem srs_ne {ks : List (Bool × Addr)} {its : List Addr} {f : Bool × Addr → Array Value} (h : ks.length = its.length) {c : Addr} (hc : c ∉ its) : ∀ r ∈ srs ks its f, c ≠ r.it := fun r hr e => by
  obtain ⟨j, p, it, _, _, b, rfl⟩ := srs_mem hr
  exact hc (e ▸ List.mem_of_getElem? b)
theorem choose_on {α β : Type} (d : β) {l : List α} {P : α → β → Prop} (h : ∀ a ∈ l, ∃ b, P a b) : ∃ f : α → β, ∀ a ∈ l, P a (f a) := by
  classical
  refine ⟨fun a => if ha : a ∈ l then Classical.choose (h a ha) else d, fun a ha => ?_⟩
  dsimp only
  rw [dif_pos ha]
  exact Classical.choose_spec (h a ha)
section
variable {X : Cx} {pins : List (Addr × Obj)} {σ : St} {H : Hp} {s : Shared} {p : Bool × Addr} {xs ys : List V}
theorem Inv.seqX (I : Inv X pins σ H s) (h : SqX X.K H p xs) : ∃ its : List Value, Vals xs its ∧ SeqAt s.heap p.1 p.2 its.toArray := by
  unfold SqX at h
  unfold SeqAt
  split at h
  · rename_i ht
    obtain ⟨its, r, q, _⟩ := I.tuple h
    exact ⟨its, r, by rw [if_pos ht]; exact q⟩
  · rename_i ht
    obtain ⟨its, r, q, _⟩ := I.list h
    exact ⟨its, r, by rw [if_neg ht]; exact q.isList⟩
theorem Inv.seqX_inj (I : Inv X pins σ H s) (h : SqX X.K H p xs) (h' : SqX X.K H p ys) : xs = ys := by
  unfold SqX at h h'
  split at h
  · rename_i ht; rw [if_pos ht] at h'; exact I.tuple_inj h h'
  · rename_i ht; rw [if_neg ht] at h'; exact I.list_inj h h'
theorem Inv.seqX_ne {b : Addr} (I : Inv X pins σ H s) (h : SqX X.K H p xs) (hf : FpOk X pins H b) : p.2 ≠ b := fun e => by
  have kk : ∀ o, X.K.lookup p.2 = some o → False := fun o hk => by
    have hb := I.mod.kin p.2 o hk
    rcases hf.2.2.2.1 with q | q
    · exact I.ok.noex p.2 o hb (e ▸ q)
    · rw [← e] at q
      exact absurd (Nat.lt_of_lt_of_le (Heap.lt_size hb) (Nat.le_trans I.ok.bsz q)) (Nat.lt_irrefl _)
  have rr : ∀ u, Rd H p.2 u → False := fun u h => by
    have h0 := hf.1
    rw [← e] at h0
    rcases h with h | ⟨o, h⟩
    · rw [h0] at h; cases h
    · rw [h0] at h; cases h
  unfold SqX at h
  split at h
  · rcases h with h | ⟨o, _, _, hk, _⟩
    · exact rr _ h
    · exact kk o hk
  · rcases h with h | ⟨o, _, _, hk, _⟩
    · exact rr _ h
    · exact kk o hk
end
theorem za_of {X : Cx} {pins : List (Addr × Obj)} {σ : St} {H : Hp} {s : Shared} {z TI TO : Addr} {ks : List (Bool × Addr)} {its : List Addr} {f : Bool × Addr → Array Value} (I : Inv X pins σ H s) (hl : ks.length = its.length) (nd : (z :: TI :: TO :: its).Nodup) (hf : ∀ b ∈ z :: TI :: TO :: its, FpOk X pins H b) (hk : ∀ p ∈ ks, ∃ xs, SqX X.K H p xs) : ZA z TI TO (srs ks its f) := by
  obtain ⟨n1, nd⟩ := List.nodup_cons.mp nd
  obtain ⟨n2, nd⟩ := List.nodup_cons.mp nd
  obtain ⟨n3, nd⟩ := List.nodup_cons.mp nd
  have ne : ∀ r ∈ srs ks its f, r.it ∈ its := fun r hr => by
    obtain ⟨j, p, it, _, _, b, rfl⟩ := srs_mem hr
    exact List.mem_of_getElem? b
  refine ⟨fun e => n1 (by simp [e]), fun e => n1 (by simp [e]), fun e => n2 (by simp [e]), by rw [srs_its (ks := ks) hl]; exact nd, fun r hr => ⟨fun e => n1 ?_, fun e => n3 (e ▸ ne r hr), fun e => n2 ?_⟩, fun r hr => ?_⟩
  · rw [← e]; simp [ne r hr]
  · rw [← e]; simp [ne r hr]
  · obtain ⟨j, p, it, _, a, b, e⟩ := srs_mem hr
    have hp := List.mem_of_getElem? a
    obtain ⟨xs, sx⟩ := hk p hp
    have el : r.l = p.2 := by rw [e]
    refine ⟨by rw [el]; exact I.seqX_ne sx (hf z (by simp)), by rw [el]; exact I.seqX_ne sx (hf TO (by simp)), fun r' hr' => by rw [el]; exact I.seqX_ne sx (hf r'.it (by simp [ne r' hr']))⟩
structure ZT (z TI TO : Addr) (ks : List (Bool × Addr)) (its : List Addr) (f0 : Value) (i : Nat) (h : Heap) : Prop where
  zz : IsZip h z TI TO f0
  ti : TupA h TI (its.map Value.ref).toArray
  to : ∃ a : Array Value, TupA h TO a ∧ a.size = ks.length
  at_ : ∀ (j : Nat) (p : Bool × Addr) (it : Addr), ks[j]? = some p → its[j]? = some it → itAt h p it i
theorem turn_zipN {P : Program} {w : World} {K : PySem.W.Frag} {elts : List Expr} {kk : Nat} {tp : Pos} (z TI TO : Addr) (ks : List (Bool × Addr)) (its : List Addr) (hl : ks.length = its.length) (h0 : ks ≠ []) (h10 : ks.length ≤ 10) (nd : (z :: TI :: TO :: its).Nodup) :
    Turn P w K (.Tuple elts kk tp) (Itn K ks) (z :: TI :: TO :: its) z (fun i h => ZT z TI TO ks its .none i h) where
  mem := by simp
  obj := fun i h st c hc => by
    rcases List.mem_cons.mp hc with e | hc
    · subst e; exact ⟨_, st.zz, fun v q => by cases q⟩
    rcases List.mem_cons.mp hc with e | hc
    · subst e; exact ⟨_, st.ti, fun v q => by cases q⟩
    rcases List.mem_cons.mp hc with e | hc
    · subst e; obtain ⟨a, ta, _⟩ := st.to; exact ⟨_, ta, fun v q => by cases q⟩
    obtain ⟨j, hj, e⟩ := List.mem_iff_getElem.mp hc
    exact (st.at_ j (ks[j]'(by omega)) c (List.getElem?_eq_getElem (by omega)) (by rw [List.getElem?_eq_getElem hj, e])).live
  keep := fun i h h' st k => by
    obtain ⟨a, ta, hs⟩ := st.to
    exact ⟨k z (by simp) _ st.zz, k TI (by simp) _ st.ti, ⟨a, k TO (by simp) _ ta, hs⟩, fun j p it hp hi => (st.at_ j p it hp hi).keep fun o e => k it (by simp [List.mem_of_getElem? hi]) o e⟩
  item := by
    intro X hP hw hK hc i pins s σ H E I hf st hg
    subst hP hw hK
    obtain ⟨f, hff⟩ := choose_on (β := Array Value × V × Value) (#[], .non, .none) (l := ks) (P := fun p (b : Array Value × V × Value) => ∃ xs, SqX X.K H p xs ∧ xs[i]? = some b.2.1 ∧ SeqAt s.heap p.1 p.2 b.1 ∧ b.1[i]? = some b.2.2 ∧ RelV b.2.1 b.2.2) fun p hp => by
      obtain ⟨xs, x, sx, gx⟩ := hg p hp
      obtain ⟨ix, rx, px⟩ := I.seqX sx
      obtain ⟨u, ux, ur⟩ := rx.get gx
      exact ⟨(ix.toArray, x, u), xs, sx, gx, px, by simpa using ux, ur⟩
    have D := za_of (f := fun p => (f p).1) I hl nd hf fun p hp => let ⟨xs, sx, _⟩ := hff p hp; ⟨xs, sx⟩
    have hne : srs ks its (fun p => (f p).1) ≠ [] := fun e => h0 (List.eq_nil_of_length_eq_zero (by rw [← srs_len (f := fun p => (f p).1) hl, e]; rfl))
    obtain ⟨arr, ta, ha⟩ := st.to
    refine nextN_item (vals := ks.map fun p => (f p).2.2) (k := i) (arr := arr) D hne (by rw [srs_len hl]; exact h10) st.zz (by rw [srs_itsOf hl]; exact st.ti) ta (by rw [srs_len hl]; exact ha) (fun r hr => ?_) (by rw [srs_len hl, List.length_map]) (fun j r hr => ?_) fun h' a1 a2 a3 a4 hk => ?_
    · obtain ⟨j, p, it, _, a, b, rfl⟩ := srs_mem hr
      obtain ⟨xs, _, _, q, _⟩ := hff p (List.mem_of_getElem? a)
      exact Sr.at_iff.mpr ⟨st.at_ j p it a b, q⟩
    · obtain ⟨p, it, a, b, rfl⟩ := srs_get hr
      obtain ⟨xs, _, _, _, q, _⟩ := hff p (List.mem_of_getElem? a)
      rw [List.getElem?_map, a]; exact q
    have hT0 : H s.heap.objs.size = none := I.hok.fresh (Nat.le_refl _)
    have hk' : ∀ c o, c ∉ z :: TO :: its → s.heap.get? c = some o → h'.get? c = some o := fun c o hc e => by
      simp only [List.mem_cons, not_or] at hc
      exact hk c o hc.1 hc.2.1 (srs_ne hl hc.2.2) e
    have there : ∀ c ∈ z :: TO :: its, ∃ o, h'.get? c = some o := fun c hc => by
      rcases List.mem_cons.mp hc with e | hc
      · subst e; exact ⟨_, a1⟩
      rcases List.mem_cons.mp hc with e | hc
      · subst e; obtain ⟨a, q, _⟩ := a2; exact ⟨_, q⟩
      rw [← srs_its (ks := ks) (f := fun p => (f p).1) hl] at hc
      obtain ⟨r, hr, e⟩ := List.mem_map.mp hc
      obtain ⟨o, q, _⟩ := (a3 r hr).live
      exact ⟨o, e ▸ q⟩
    have I1 : Inv X pins σ (upd H s.heap.objs.size (.tup (ks.map fun p => (f p).2.1))) { s with heap := h', toks := s.toks } := by
      refine I.turnedT (ch := z :: TO :: its) (Nat.le_refl _) (fun c o hc' e => hk' c o hc' e) (fun c o e => ?_) (fun c hc' => hf c ?_) ?_
      · by_cases q : c ∈ z :: TO :: its
        · exact there c q
        · exact ⟨o, hk' c o q e⟩
      · simp only [List.mem_cons] at hc' ⊢
        rcases hc' with q | q | q
        · exact .inl q
        · exact .inr (.inr (.inl q))
        · exact .inr (.inr (.inr q))
      · refine ⟨by rw [List.length_map]; exact Nat.le_trans h10 (by decide), ks.map fun p => (f p).2.2, ?_, ⟨_, a4, rfl, _, rfl⟩⟩
        have key : ∀ l : List (Bool × Addr), (∀ p ∈ l, p ∈ ks) → Vals (l.map fun p => (f p).2.1) (l.map fun p => (f p).2.2) := fun l => by
          induction l with
          | nil => exact fun _ => .nil
          | cons p l ih => exact fun h => .cons (let ⟨_, _, _, _, _, q⟩ := hff p (h p List.mem_cons_self); q) (ih fun q hq => h q (List.mem_cons_of_mem _ hq))
        exact key ks fun p hp => hp
    refine ⟨_, rfl, ?_⟩
    have fz := hf z (by simp)
    refine wpAny_letOwnedTupleGo_zip a1 fun h2' hz' hs' => ?_
    have zT : z ≠ s.heap.objs.size := Nat.ne_of_lt (Heap.lt_size st.zz)
    have I2 : Inv X pins σ (upd H s.heap.objs.size (.tup (ks.map fun p => (f p).2.1))) { ({ s with heap := h', toks := s.toks } : Shared) with heap := h2', toks := s.toks } := I1.turned (fun c o hc' e => hs'.extBut c o hc' e) (by rw [upd_ne zT]; exact fz.1) fz.2.1 fz.2.2.2.1 fz.2.2.2.2.1 fz.2.2.2.2.2
    refine ⟨.ref s.heap.objs.size, _, I2, rfl, ⟨s.heap.objs.size, _, hT0, rfl, rfl, by rw [List.length_map], fun j p hp xs' sx' => ?_⟩, ⟨hz', ?_, ?_, fun j p it hp hi => ?_⟩, fun c hc' => ?_⟩
    · obtain ⟨xs, sx, gx, _⟩ := hff p (List.mem_of_getElem? hp)
      rw [I.seqX_inj sx' sx, gx, List.getElem?_map, hp]; rfl
    · have n1 := List.nodup_cons.mp nd
      have n2 := List.nodup_cons.mp n1.2
      exact (hs'.2 _ D.zI).trans (hk' _ _ (fun q => by
        simp only [List.mem_cons] at q
        rcases q with q | q | q
        · exact D.zI q
        · exact D.TT q
        · exact n2.1 (List.mem_cons_of_mem _ q)) st.ti)
    · obtain ⟨a, q, hq⟩ := a2
      exact ⟨a, (hs'.2 _ D.zT).trans q, by rw [hq, srs_len hl]⟩
    · have hr : (srs ks its fun p => (f p).1)[j]? = some ⟨p.1, it, p.2, (f p).1⟩ := by unfold srs; rw [List.getElem?_zipWith, hp, hi]
      have hm := List.mem_of_getElem? hr
      exact (Sr.at_iff.mp (a3 _ hm)).1.keep fun o e => (hs'.2 _ (D.iz _ hm).1).trans e
    · have hcl : c < s.heap.objs.size := by
        rcases List.mem_cons.mp hc' with e | hc'
        · subst e; exact Heap.lt_size st.zz
        rcases List.mem_cons.mp hc' with e | hc'
        · subst e; exact Heap.lt_size st.ti
        rcases List.mem_cons.mp hc' with e | hc'
        · subst e; exact Heap.lt_size ta
        obtain ⟨j, hj, e⟩ := List.mem_iff_getElem.mp hc'
        obtain ⟨o, q, _⟩ := (st.at_ j (ks[j]'(by omega)) c (List.getElem?_eq_getElem (by omega)) (by rw [List.getElem?_eq_getElem hj, e])).live
        exact Heap.lt_size q
      rw [upd_ne (Nat.ne_of_lt hcl)]; exact (hf c hc').1
  done := by
    intro X hP hw hK hc i pins s σ H E I hf st hg
    subst hP hw hK
    obtain ⟨hall, p0, hp0, xs0, sx0, hx0⟩ := hg
    obtain ⟨f, hff⟩ := choose_on (β := Array Value) #[] (l := ks) (P := fun p b => ∃ xs, SqX X.K H p xs ∧ Vals xs b.toList ∧ SeqAt s.heap p.1 p.2 b) fun p hp => by
      obtain ⟨xs, sx⟩ := hall p hp
      obtain ⟨ix, rx, px⟩ := I.seqX sx
      exact ⟨ix.toArray, xs, sx, rx, px⟩
    have D := za_of (f := f) I hl nd hf hall
    obtain ⟨arr, ta, ha⟩ := st.to
    have st' : ∀ r ∈ srs ks its f, r.At s.heap i := fun r hr => by
      obtain ⟨j, p, it, _, a, b, rfl⟩ := srs_mem hr
      obtain ⟨xs, _, _, q⟩ := hff p (List.mem_of_getElem? a)
      exact Sr.at_iff.mpr ⟨st.at_ j p it a b, q⟩
    refine nextN_stop (k := i) (arr := arr) (I.ok.hd hc) D (by rw [srs_len hl]; exact h10) st.zz (by rw [srs_itsOf hl]; exact st.ti) ta (by rw [srs_len hl]; exact ha) st' ?_ fun h' hk => ⟨rfl, ?_⟩
    · obtain ⟨j, hj, e⟩ := List.mem_iff_getElem.mp hp0
      have hr : (srs ks its f)[j]? = some ⟨p0.1, its[j]'(by omega), p0.2, f p0⟩ := by unfold srs; rw [List.getElem?_zipWith, List.getElem?_eq_getElem hj, e, List.getElem?_eq_getElem (show j < its.length by omega)]
      refine ⟨_, List.mem_of_getElem? hr, ?_⟩
      obtain ⟨xs, sx, rx, _⟩ := hff p0 hp0
      have := rx.length
      rw [I.seqX_inj sx sx0] at this
      exact Array.getElem?_eq_none (by simp at this ⊢; omega)
    · have hk' : ∀ c o, c ∉ z :: TO :: its → s.heap.get? c = some o → h'.get? c = some o := fun c o hc e => by
        simp only [List.mem_cons, not_or] at hc
        exact hk c o hc.1 hc.2.1 (srs_ne hl hc.2.2) e
      have inf : ∀ b ∈ z :: TO :: its, FpOk X pins H b := fun b hb => hf b (by
        simp only [List.mem_cons] at hb ⊢
        rcases hb with q | q | q
        · exact .inl q
        · exact .inr (.inr (.inl q))
        · exact .inr (.inr (.inr q)))
      have nn : ∀ c v, H c = some v → c ∉ z :: TO :: its := fun c v e q => by rw [(inf c q).1] at e; cases e
      refine I.step (g' := s.gens) (d' := s.drawn) (t' := s.toks) (ch := z :: TO :: its) (fun b hb => ?_) (fun b o _ _ hc' e _ => hk' b o hc' e) (fun b o _ _ hc' e _ => ⟨o.slots, hk' b o hc' e⟩) (fun _ _ _ _ n => n)
        (fun b o hc' e => ⟨o, hk' b o hc' e⟩) (fun _ _ e => e) (fun _ _ _ e => e) (fun b ps e => ⟨#[], by rw [e]; simp⟩) (fun m hm => ?_) (fun b u e => ?_) I.bare
      · have q := inf b hb
        exact ⟨q.2.2.2.1, q.2.1, q.2.2.2.2.1, q.2.2.2.2.2⟩
      · obtain ⟨o, es, ep, ho, r⟩ := hm
        exact ⟨o, es, ep, hk' _ o (fun q => (inf _ q).2.1 rfl) ho, r⟩
      · refine (I.hok b u e).stay (fun c v hc' q => ?_) (fun _ q => q) fun _ _ q => q
        rcases hc' with e' | e'
        · subst e'; exact hk' c v (nn c _ e) q
        · exact hk' c v (nn c _ e') q
  self := fun _ _ _ _ _ st h => wpAny_pyIter_zip st.zz h
end L2

namespace L2
open PySem PySem.Spec PyProof.Rows
section
variable {prog : Program} {w : World} {A : Around} {E : Value → Shared → Prop} {s : Shared}
theorem call_zip3 {l1 l2 l3 : Addr} {xs ys zs : Array Value} {Q : Value → Shared → Prop} (h1 : s.heap.IsList l1 xs) (h2 : s.heap.IsList l2 ys) (h3 : s.heap.IsList l3 zs)
    (h : ∀ h', ZT (s.heap.objs.size + 5) (s.heap.objs.size + 3) (s.heap.objs.size + 4) [(false, l1), (false, l2), (false, l3)] [s.heap.objs.size, s.heap.objs.size + 1, s.heap.objs.size + 2] .none 0 h' → (∀ c o, s.heap.get? c = some o → h'.get? c = some o) → Q (.ref (s.heap.objs.size + 5)) { s with heap := h' }) :
    wpAny (model prog w) A (call (.type "zip") [.ref l1, .ref l2, .ref l3]) Q E s := by
  refine callType_new F.called_zip (by decide) (typeCall_zip3 _ _ _) (newCall_zip3 _ _ _) (fun obj => args_object_init4 obj _ _ _) F.entry_zip_new (meets_zip3 l1 l2 l3 xs ys zs) ⟨h1, h2, h3, ?_⟩
  generalize hh : s.heap = hp at *
  have z1 : (hp.push (itO false l1)).objs.size = hp.objs.size + 1 := Heap.size_push ..
  have z2 : ((hp.push (itO false l1)).push (itO false l2)).objs.size = hp.objs.size + 2 := by rw [Heap.size_push, z1]
  have z3 : (zH3 hp l1 l2 l3).objs.size = hp.objs.size + 3 := by rw [Heap.size_push, z2]
  have z4 : ((zH3 hp l1 l2 l3).push (tI3 hp l1 l2)).objs.size = hp.objs.size + 4 := by rw [Heap.size_push, z3]
  have z5 : (zH3e hp l1 l2 l3).objs.size = hp.objs.size + 5 := by rw [Heap.size_push, z4]
  have P : ∀ {h : Heap} {a : Addr} {o u : Obj}, h.get? a = some o → (h.push u).get? a = some o := fun e => Heap.get?_push_of_some _ e
  have g6 : (zH3z hp l1 l2 l3).get? (zH3e hp l1 l2 l3).objs.size = some _ := Heap.get?_push_size _ rfl
  have g5 : (zH3z hp l1 l2 l3).get? ((zH3 hp l1 l2 l3).push (tI3 hp l1 l2)).objs.size = some _ := P (Heap.get?_push_size _ rfl)
  have g4 : (zH3z hp l1 l2 l3).get? (zH3 hp l1 l2 l3).objs.size = some _ := P (P (Heap.get?_push_size _ rfl))
  have g3 : (zH3z hp l1 l2 l3).get? ((hp.push (itO false l1)).push (itO false l2)).objs.size = some _ := P (P (P (Heap.get?_push_size _ rfl)))
  have g2 : (zH3z hp l1 l2 l3).get? (hp.push (itO false l1)).objs.size = some _ := P (P (P (P (Heap.get?_push_size _ rfl))))
  have g1 : (zH3z hp l1 l2 l3).get? hp.objs.size = some _ := P (P (P (P (P (Heap.get?_push_size _ rfl)))))
  show _ ∧ _
  rw [z3, z4, z5] at g6
  rw [show tI3 hp l1 l2 = { cls := .type "tuple", data := .seq #[.ref hp.objs.size, .ref (hp.objs.size + 1), .ref (hp.objs.size + 2)] } by unfold tI3; rw [z1, z2], z3] at g4
  rw [z4] at g5
  rw [z2] at g3
  rw [z1] at g2
  rw [z5]
  refine ⟨⟨_, g6, rfl⟩, h _ ⟨g6, g4, ⟨_, g5, rfl⟩, fun j p it e1 e2 => ?_⟩ fun c o x => P (P (P (P (P (P x)))))⟩
  match j with
  | 0 => cases e1; cases e2; exact ⟨_, g1, rfl, rfl⟩
  | 1 => cases e1; cases e2; exact ⟨_, g2, rfl, rfl⟩
  | 2 => cases e1; cases e2; exact ⟨_, g3, rfl, rfl⟩
  | j + 3 => cases e1
end
section
variable {X : Cx} {elts : List Expr} {kk : Nat} {tp : Pos}
def iZipTL (K : PySem.W.Frag) (ta : TA) : TI := fun σ H R => ta σ H fun vs H1 => ∃ a b, vs = [.ref a, .ref b] ∧ (∃ xs, SqT K H1 a xs) ∧ (∃ ys, SqL K H1 b ys) ∧ R (Itn K [(true, a), (false, b)]) H1
def iZip3 (K : PySem.W.Frag) (ta : TA) : TI := fun σ H R => ta σ H fun vs H1 => ∃ a b c, vs = [.ref a, .ref b, .ref c] ∧ (∃ xs, SqL K H1 a xs) ∧ (∃ ys, SqL K H1 b ys) ∧ (∃ zs, SqL K H1 c zs) ∧ R (Itn K [(false, a), (false, b), (false, c)]) H1
theorem vals3 {x y z : V} {us : List Value} (h : Vals [x, y, z] us) : ∃ a b c, us = [a, b, c] ∧ RelV x a ∧ RelV y b ∧ RelV z c := by
  cases h with
  | cons h1 t => cases t with
    | cons h2 t => cases t with
      | cons h3 t => cases t; exact ⟨_, _, _, rfl, h1, h2, h3⟩
theorem pi_zip3 {e1 e2 e3 : Expr} {ta : TA} {p pos : Pos} (hg : Gl X "zip") (hm : X.mg "zip" = none) (ha : PA X [e1, e2, e3] ta) (he : starEach [e1, e2, e3] X.env = (false, eval e1 X.env) :: starEach [e2, e3] X.env := by rfl)
    (hpl : (backTo pos (starEach [e2, e3] X.env)).any (·.1) = false := by rfl) : PI X (.Tuple elts kk tp) (.Call (.Name "zip" p) [e1, e2, e3] [] pos) (iZip3 X.K ta) := by
  intro pins s σ H R I h
  refine Call_ (ld_blt I hg hm PyProof.Rows.boot_zip (PyProof.Rows.callWith_type1 (thn (ha pos pins s σ H _ I h) fun us s1 ⟨vs, H1, I1, r1, q1⟩ => ?_) he hpl))
  obtain ⟨a, b, c, e, ⟨xs, sx⟩, ⟨ys, sy⟩, ⟨zs, sz⟩, q⟩ := q1
  subst e
  obtain ⟨u, w', v', rfl, ra, rb, rc⟩ := vals3 r1
  cases ra; cases rb; cases rc
  obtain ⟨ix, rx, px, _⟩ := I1.list sx
  obtain ⟨iy, ry, py, _⟩ := I1.list sy
  obtain ⟨iz, rz, pz, _⟩ := I1.list sz
  refine call_zip3 px.isList py.isList pz.isList fun h' zt hk => ?_
  have I2 : Inv X pins σ H1 { s1 with heap := h', toks := s1.toks } := I1.kept hk
  refine wpAny_pyIter_zip (s := { s1 with heap := h' }) zt.zz ?_
  refine ⟨_, _, _, Itn X.K [(false, a), (false, b), (false, c)], H1, rfl, I2, turn_zipN _ _ _ _ _ rfl (fun z => nomatch z) (by simp) (by simp [List.nodup_cons]), zt, fun c hc => ?_, q⟩
  have hge : s1.heap.objs.size ≤ c := by
    simp at hc
    rcases hc with e | e | e | e | e | e <;> subst e <;> omega
  exact I1.fpOk hge (I1.hok.fresh hge)
end
end L2
namespace L2.EP
open PySem PySem.Spec PyProof.Rows
def zip3 {α β γ : Type} : List α → List β → List γ → List (T3 α β γ)
  | a :: as, b :: bs, c :: cs => ⟨a, b, c⟩ :: zip3 as bs cs
  | _, _, _ => []
theorem zip3_get {α β γ : Type} : ∀ {as : List α} {bs : List β} {cs : List γ} {i : Nat} {u : T3 α β γ}, (zip3 as bs cs)[i]? = some u → as[i]? = some u.a ∧ bs[i]? = some u.b ∧ cs[i]? = some u.c
  | a :: as, b :: bs, c :: cs, 0, u, h => by cases h; exact ⟨rfl, rfl, rfl⟩
  | a :: as, b :: bs, c :: cs, i + 1, u, h => by simpa using zip3_get (as := as) (bs := bs) (cs := cs) (i := i) (by simpa [zip3] using h)
  | [], _, _, _, _, h => by simp [zip3] at h
  | _ :: _, [], _, _, _, h => by simp [zip3] at h
  | _ :: _, _ :: _, [], _, _, h => by simp [zip3] at h
theorem zip3_len {α β γ : Type} : ∀ (as : List α) (bs : List β) (cs : List γ), (zip3 as bs cs).length = as.length ∨ (zip3 as bs cs).length = bs.length ∨ (zip3 as bs cs).length = cs.length
  | a :: as, b :: bs, c :: cs => by
    rcases zip3_len as bs cs with h | h | h
    · exact .inl (by simp [zip3, h])
    · exact .inr (.inl (by simp [zip3, h]))
    · exact .inr (.inr (by simp [zip3, h]))
  | [], _, _ => .inl (by simp [zip3])
  | _ :: _, [], _ => .inr (.inl (by simp [zip3]))
  | _ :: _, _ :: _, [] => .inr (.inr (by simp [zip3]))
section
variable {X : Cx} {Γ : GEnv} {α β γ : Type} [Py α] [Py β] [Py γ] {e1 e2 e3 : Expr} {b1 b2 b3 : Bool} {elts : List Expr} {kk : Nat} {tp p ps : Pos}
theorem ei_zip3 {xs : List α} {ys : List β} {zs : List γ} (hg : Gl X "zip") (hm : X.mg "zip" = none) (h1 : E X Γ e1 b1 xs) (h2 : E X Γ e2 b2 ys) (h3 : E X Γ e3 b3 zs) (hs1 : starEach [e1, e2, e3] X.env = (false, eval e1 X.env) :: starEach [e2, e3] X.env := by rfl) (hs2 : starEach [e2, e3] X.env = (false, eval e2 X.env) :: starEach [e3] X.env := by rfl) (hs3 : starEach [e3] X.env = (false, eval e3 X.env) :: starEach [] X.env := by rfl)
    (hpl : (backTo ps (starEach [e2, e3] X.env)).any (·.1) = false := by rfl) : EI X Γ (.Tuple elts kk tp) (.Call (.Name "zip" p) [e1, e2, e3] [] ps) (b1 && b2 && b3) (zip3 xs ys zs) := by
  with_unfolding_all
    exact ⟨_, pi_zip3 hg hm (pa_cons h1 (pa_cons h2 (pa_cons h3 pa_nil hs3) hs2) hs1) hs1 hpl, fun σ H H0 F O R Z q => ⟨H0, F, O, Z, fun v H1 s1 r1 => ⟨H0, F, O, Z.go s1, fun w H2 s2 r2 => ⟨H0, F, O, (Z.go s1).go s2, fun w3 H3 s3 r3 => by
        obtain ⟨a, va, ea, sa, na, ra⟩ := r1
        obtain ⟨c, vc, ec, sc, nc, rc⟩ := r2
        obtain ⟨d, vd, ed, sd, nd, rd⟩ := r3
        have sa2 := (off_mono (O := O) (s2.trans s3)).seq sa
        have sc2 := (off_mono (O := O) s3).seq sc
        refine ⟨a, c, d, by rw [ea, ec, ed], ⟨va, (off_same _ _).seq sa2⟩, ⟨vc, (off_same _ _).seq sc2⟩, ⟨vd, (off_same _ _).seq sd⟩, q _ H3 (s1.trans (s2.trans s3)) fun H' O' hO' sm => ?_⟩
        have sa' : SqX X.K H' (false, a) va := (off_same _ _).seq (sm.seq sa2)
        have sc' : SqX X.K H' (false, c) vc := (off_same _ _).seq (sm.seq sc2)
        have sd' : SqX X.K H' (false, d) vd := (off_same _ _).seq (sm.seq sd)
        refine ⟨fun i u hu => ?_, ?_⟩
        · obtain ⟨hx, hy, hz⟩ := zip3_get hu
          obtain ⟨x, gx, rx⟩ := pr_get ra hx
          obtain ⟨y, gy, ry⟩ := pr_get rc hy
          obtain ⟨t, gt, rt⟩ := pr_get rd hz
          refine ⟨fun p hp => ?_, fun v' H'' hv => ?_⟩
          · simp only [List.mem_cons, List.not_mem_nil, or_false] at hp
            rcases hp with rfl | rfl | rfl
            · exact ⟨va, x, sa', gx⟩
            · exact ⟨vc, y, sc', gy⟩
            · exact ⟨vd, t, sd', gt⟩
          obtain ⟨T, zs, hT, rfl, rfl, hlen, ff⟩ := hv
          have ex := ff 0 _ rfl va sa'
          have ey := ff 1 _ rfl vc sc'
          have et := ff 2 _ rfl vd sd'
          obtain ⟨x', y', t', rfl⟩ : ∃ x' y' t', zs = [x', y', t'] := by
            match zs, hlen with
            | [x', y', t'], _ => exact ⟨x', y', t', rfl⟩
          rw [gx] at ex; cases ex
          rw [gy] at ey; cases ey
          rw [gt] at et; cases et
          have hTO : ¬ O' T := fun z => by
            obtain ⟨zs, w⟩ := hO' T z
            rw [hT] at w; cases w
          refine ⟨same_upd hT _, T, x, y, t, rfl, .inl (by rw [off_get hTO]; exact upd_same), ?_, ?_, ?_⟩
          · exact rp_wid (fun _ _ n => nf_and1 (nf_and1 n)) (rp_mono ((off_mono (s2.trans s3)).trans (sm.trans (off_mono (same_upd hT _)))) rx)
          · exact rp_wid (fun _ _ n => nf_and1 (nf_and2 n)) (rp_mono ((off_mono s3).trans (sm.trans (off_mono (same_upd hT _)))) ry)
          · exact rp_wid (fun _ _ n => nf_and2 n) (rp_mono (sm.trans (off_mono (same_upd hT _))) rt)
        · refine ⟨fun p hp => ?_, ?_⟩
          · simp only [List.mem_cons, List.not_mem_nil, or_false] at hp
            rcases hp with rfl | rfl | rfl
            · exact ⟨va, sa'⟩
            · exact ⟨vc, sc'⟩
            · exact ⟨vd, sd'⟩
          · rcases zip3_len xs ys zs with h | h | h <;> rw [h]
            · exact ⟨_, List.mem_cons_self, va, sa', by rw [pr_len ra]; exact Nat.le_refl _⟩
            · exact ⟨_, List.mem_cons_of_mem _ List.mem_cons_self, vc, sc', by rw [pr_len rc]; exact Nat.le_refl _⟩
            · exact ⟨_, List.mem_cons_of_mem _ (List.mem_cons_of_mem _ List.mem_cons_self), vd, sd', by rw [pr_len rd]; exact Nat.le_refl _⟩⟩⟩⟩⟩
end
end L2.EP

namespace L2
open PySem PySem.Spec PyProof.Rows
section
variable {X : Cx}
def rInsert : V → List V → Hp → VK → Prop := fun x vs H Q => ∃ l xs i y, x = .ref l ∧ vs = [.int i, y] ∧ H l = some (.lst xs) ∧ 0 ≤ i ∧ i ≤ xs.length ∧ xs.length < sizeLine ∧ Q .non (upd H l (.lst (xs.take i.toNat ++ y :: xs.drop i.toNat)))
theorem ins_arr (its : List Value) (k : Nat) (y : Value) : (its.toArray.extract 0 k).push y ++ its.toArray.extract k = (its.take k ++ y :: its.drop k).toArray := by
  apply Array.ext'
  simp
  rw [List.take_of_length_le (by rw [List.length_drop]; omega)]
theorem mt_insert : MtM X "list.insert" rInsert := by
  intro pins s σ H x vs v us Q I rx rv h
  obtain ⟨l, xs, i, y, rfl, rfl, hH, h0, h1, hz, q⟩ := h
  cases rx
  obtain ⟨u, w, rfl, ⟨t, rfl⟩, ru⟩ := vals2 rv
  obtain ⟨z, its, n, r, hl, e⟩ := I.lstM hH
  have hsl : sizeLine = 16777216 := rfl
  have hfit : ¬ (!Builtin.List.listFitsIndex i) = true := by
    have := fitsIndex_both (k := i) (by omega) (by omega)
    rw [this]; decide
  refine call_meets F.slot_list_insert ⟨_, e, rfl⟩ F.entry_list_insert (F.args_list_insert_3 _ _ _) (AutoSeq1.list_insert_list_int_val_1 l its.toArray n i t w hfit (by rw [List.size_toArray]; omega)) ⟨e, ?_⟩
  refine ⟨.non, _, I.lset (its' := its.take i.toNat ++ w :: its.drop i.toNat) hH e ?_ ((Vals.take i.toNat r).append (.cons ru (Vals.drop i.toNat r))) ?_, rfl, q⟩
  · show (have k := if i < 0 then (i + (its.toArray.size : Int)).toNat else min i.toNat its.toArray.size; (its.toArray.extract 0 k).push w ++ its.toArray.extract k) = _
    have ek : (if i < 0 then (i + (its.toArray.size : Int)).toNat else min i.toNat its.toArray.size) = i.toNat := by
      rw [if_neg (by omega), List.size_toArray]
      omega
    rw [ek]
    exact ins_arr its i.toNat w
  · simp
    omega
end
end L2
namespace L2.EP
open PySem PySem.Spec PyProof.Rows
section
variable {X : Cx} {Γ : GEnv} {D : GD} {α β γ : Type} [Py α] [Py β] [Py γ] {e e1 e2 ek : Expr} {b b1 b2 : Bool} {pos : Pos} {rest st : List Stmt}
theorem s_insert (i : Nat) {as : List α} {a : α} {k : Int} {x : Str} {p ap cp : Pos} (hg : Γ[i]? = some (some (.own b as))) (hk : E X Γ ek b2 k) (he : E X Γ e b a) (h0 : 0 ≤ k) (h1 : k ≤ as.length) (hl : as.length ≤ 1000) (h : S X (Γ.set i (some (.own b (as.take k.toNat ++ a :: as.drop k.toNat)))) rest D) (hi : X.N[i]? = some x := by rfl)
    (hv : Vis X.env.scope x := by first | exact Or.inl rfl | exact Or.inr (Or.inl rfl) | exact Or.inr (Or.inr rfl)) (hd : (x == ("__debug__" : Str)) = false := by decide) (hcd : (x == ("__classdict__" : Str)) = false := by decide)
    (hbase : attributeBase (.Name x p) "insert" X.env (eval (.Name x p) X.env) = eval (.Name x p) X.env := by rfl)
    (hfew : ((backTo cp (starEach [ek, e] X.env)).all (fun x => !x.1) && (backToKw cp (keywordEach [] X.env)).all (fun x => x.1.isSome)
      && decide (([ek, e] : List Expr).length + ([] : List Keyword).length + (if ([] : List Keyword).isEmpty then 0 else 1) < 30)) = true := by rfl)
    (hline : (ap.endLine == cp.line) = true := by rfl) (hs : starEach [ek, e] X.env = (false, eval ek X.env) :: starEach [e] X.env := by rfl) (hs2 : starEach [e] X.env = (false, eval e X.env) :: starEach [] X.env := by rfl) (hplain : (backTo cp (starEach [e] X.env)).any (·.1) = false := by rfl)
    (hsw : swapsWith (.Call (.Attribute (.Name x p) "insert" ap) [ek, e] [] cp) none pos.line X.env = pure false := by rfl) :
    S X Γ (.Expr (.Call (.Attribute (.Name x p) "insert" ap) [ek, e] [] cp) pos :: rest) D := by
  with_unfolding_all
    exact s_seq (ps_wk (ps_expr (pe_bm PySem.F.plainAttrs_list PySem.F.slot_list_insert PySem.F.type_list_insert mt_insert (pv i hi hv hd hcd) (pa_cons hk (pa_cons he pa_nil hs2) hs) hbase hfew hline hs hplain) hsw) fun De σ H ⟨H0, F, O, Z, n, _⟩ => by
        obtain ⟨v, Di, hv1, ⟨q, xs, hq1, hq2, hq3, hq4⟩, _, _⟩ := Z.write hg True.intro
        subst hq1
        refine ⟨.ref q, hv1, .inl ⟨rfl, xs, SqL.of hq3⟩, H0, F, O, Z, fun yk H1 s1 rk => ⟨H0, F, O, Z.go s1, fun y H2 s2 ry => ?_⟩⟩
        have ek : yk = V.int k := rk
        subst ek
        have s12 := s1.trans s2
        have hlen : xs.length = as.length := pr_len hq4
        refine ⟨q, xs, k, y, rfl, rfl, s12 _ _ hq3, h0, by rw [hlen]; exact h1, by rw [hlen]; exact small1000 hl, ?_⟩
        obtain ⟨v', D', hv2, ⟨q', xs', w1, w2, w3, w4⟩, hO', wr⟩ := (Z.go s12).write hg True.intro
        rw [hv1] at hv2
        have ev : V.ref q = v' := by injection hv2 with z; injection z
        subst ev
        cases w1
        have ex : xs' = xs := by
          have := s12 _ _ hq3
          rw [w3] at this; cases this; rfl
        subst ex
        obtain ⟨Z', eo⟩ := wr q (xs'.take k.toNat ++ y :: xs'.drop k.toNat) (some (.own b (as.take k.toNat ++ a :: as.drop k.toNat))) w2 fun g'' e' => by
          cases e'
          refine ⟨True.intro, q, _, rfl, w2, upd_same, ?_⟩
          rw [off_upd (hO' q w2).1]
          exact pr_app (pr_take k.toNat w4) (.cons ry (pr_drop k.toNat w4))
        exact n _ _ _ _ (by rw [eo]; exact off_mono s12) Z' h)
theorem pr_erase {α β : Type} {F : α → β → Prop} : ∀ {l₁ : List α} {l₂ : List β} (n : Nat), Paired F l₁ l₂ → Paired F (l₁.eraseIdx n) (l₂.eraseIdx n)
  | _, _, _, .nil => .nil
  | _, _, 0, .cons _ t => t
  | _, _, n + 1, .cons h t => .cons h (pr_erase n t)
theorem s_popAt (i : Nat) {as : List α} {k : Int} {x : Str} {p ap cp : Pos} (hg : Γ[i]? = some (some (.own b as))) (hk : E X Γ ek b2 k) (h0 : 0 ≤ k) (h1 : k < as.length) (hl : as.length ≤ 1000) (h : S X (Γ.set i (some (.own b (as.eraseIdx k.toNat)))) rest D) (hi : X.N[i]? = some x := by rfl)
    (hv : Vis X.env.scope x := by first | exact Or.inl rfl | exact Or.inr (Or.inl rfl) | exact Or.inr (Or.inr rfl)) (hd : (x == ("__debug__" : Str)) = false := by decide) (hcd : (x == ("__classdict__" : Str)) = false := by decide)
    (hbase : attributeBase (.Name x p) "pop" X.env (eval (.Name x p) X.env) = eval (.Name x p) X.env := by rfl)
    (hfew : ((backTo cp (starEach [ek] X.env)).all (fun x => !x.1) && (backToKw cp (keywordEach [] X.env)).all (fun x => x.1.isSome)
      && decide (([ek] : List Expr).length + ([] : List Keyword).length + (if ([] : List Keyword).isEmpty then 0 else 1) < 30)) = true := by rfl)
    (hline : (ap.endLine == cp.line) = true := by rfl) (hs : starEach [ek] X.env = (false, eval ek X.env) :: starEach [] X.env := by rfl) (hplain : (backTo cp (starEach [] X.env)).any (·.1) = false := by rfl)
    (hsw : swapsWith (.Call (.Attribute (.Name x p) "pop" ap) [ek] [] cp) none pos.line X.env = pure false := by rfl) :
    S X Γ (.Expr (.Call (.Attribute (.Name x p) "pop" ap) [ek] [] cp) pos :: rest) D := by
  with_unfolding_all
    exact s_seq (ps_wk (ps_expr (pe_bm PySem.F.plainAttrs_list PySem.F.slot_list_pop PySem.F.type_list_pop mt_popAt (pv i hi hv hd hcd) (pa_cons hk pa_nil hs) hbase hfew hline hs hplain) hsw) fun De σ H ⟨H0, F, O, Z, n, _⟩ => by
        obtain ⟨v, Di, hv1, ⟨q, xs, hq1, hq2, hq3, hq4⟩, _, _⟩ := Z.write hg True.intro
        subst hq1
        refine ⟨.ref q, hv1, .inl ⟨rfl, xs, SqL.of hq3⟩, H0, F, O, Z, fun yk H1 s1 rk => ?_⟩
        have ek : yk = V.int k := rk
        subst ek
        have hlen : xs.length = as.length := pr_len hq4
        have hkl : k.toNat < xs.length := by omega
        have hsi : seqIndex? k xs.length = some k.toNat := by
          unfold seqIndex?
          dsimp only
          rw [if_neg (show ¬ k < 0 by omega), if_pos (by simp only [Bool.and_eq_true, decide_eq_true_eq]; omega)]
        refine ⟨q, xs, k, k.toNat, xs[k.toNat], rfl, rfl, s1 _ _ hq3, by omega, by omega, hsi, List.getElem?_eq_getElem hkl, ?_⟩
        obtain ⟨v', D', hv2, ⟨q', xs', w1, w2, w3, w4⟩, hO', wr⟩ := (Z.go s1).write hg True.intro
        rw [hv1] at hv2
        have ev : V.ref q = v' := by injection hv2 with z; injection z
        subst ev
        cases w1
        have ex : xs' = xs := by
          have := s1 _ _ hq3
          rw [w3] at this; cases this; rfl
        subst ex
        obtain ⟨Z', eo⟩ := wr q (xs'.eraseIdx k.toNat) (some (.own b (as.eraseIdx k.toNat))) w2 fun g'' e' => by
          cases e'
          refine ⟨True.intro, q, _, rfl, w2, upd_same, ?_⟩
          rw [off_upd (hO' q w2).1]
          exact pr_erase k.toNat w4
        exact n _ _ _ _ (by rw [eo]; exact off_mono s1) Z' h)
theorem e_tuple2 [PyT α] {xs : List α} {u v : α} {p : Pos} (hg : Gl X "tuple") (hm : X.mg "tuple" = none) (ha : E X Γ e b xs) (hx : xs = [u, v]) (hs : starEach [e] X.env = (false, eval e X.env) :: starEach [] X.env := by rfl) : E X Γ (.Call (.Name "tuple" p) [e] [] pos) true (u, v) := by
  with_unfolding_all
    subst hx
    exact pe_wk (pe_callTy call_tuple_of hg hm PyProof.Rows.boot_tuple (pa_cons ha pa_nil hs) (he := hs)) fun σ H Q ⟨H0, F, O, S, q⟩ => ⟨H0, F, O, S, fun w H1 s1 r1 => by
        obtain ⟨p, vs, e, sq, n, r⟩ := r1
        obtain ⟨x, y, rfl, rx, ry⟩ : ∃ x y, vs = [x, y] ∧ Py.rp X.K (Nf H0 b) (off H1 O) x u ∧ Py.rp X.K (Nf H0 b) (off H1 O) y v := by
          cases r with
          | cons h1 t => cases t with
            | cons h2 t => cases t; exact ⟨_, _, rfl, h1, h2⟩
        refine ⟨p, _, by rw [e], .inl ⟨(off_same _ _).seq sq, fun l hl => ?_⟩⟩
        obtain ⟨z1, z2⟩ := laid_tup (xs := [x, y]) (S.go s1) hl
        exact q _ _ (s1.trans z1) ⟨l, x, y, rfl, z2, PyT.free (fun _ _ t => Same.rt (off_mono z1) t) rx, PyT.free (fun _ _ t => Same.rt (off_mono z1) t) ry⟩⟩
theorem en_listP [PyT α] {u : α × α} {p : Pos} (hg : Gl X "list") (hm : X.mg "list" = none) (ha : E X Γ e b u) (hs : starEach [e] X.env = (false, eval e X.env) :: starEach [] X.env := by rfl) : EN X Γ (.Call (.Name "list" p) [e] [] pos) [u.1, u.2] := by
  with_unfolding_all
    exact pe_wk (pe_callTy call_list_of hg hm PyProof.Rows.boot_list (pa_cons ha pa_nil hs) (he := hs)) fun σ H Q ⟨H0, F, O, S, q⟩ => ⟨H0, F, O, S, fun w H1 s1 r1 => by
        obtain ⟨p, x, y, e, sq, rx, ry⟩ := r1
        refine ⟨p, [x, y], by rw [e], .inr (.inl (Same.rt (off_same _ _) sq).rd), fun l hl => ?_⟩
        obtain ⟨z1, z2⟩ := laid_lst (xs := [x, y]) (S.go s1) hl
        exact q _ _ (s1.trans z1) ⟨l, _, rfl, SqL.of z2, ⟨s1.free hl, z2⟩, .cons (PyT.free (fun _ _ t => Same.rt (off_mono z1) t) rx) (.cons (PyT.free (fun _ _ t => Same.rt (off_mono z1) t) ry) .nil)⟩⟩
theorem gp_three (i j k : Nat) {K : PySem.W.Frag} : GP (gTup K 3 (gCons (gName i) (gCons (gName j) (gCons (gName k) gNil)))) (T3 α β γ) (fun b u Γ => ((Γ.set i (some (.val b u.a))).set j (some (.val b u.b))).set k (some (.val b u.c))) (fun l => l = i ∨ l = j ∨ l = k) K := fun b u H0 F O Γ σ H v Q Z r q => by
  obtain ⟨p, v1, v2, v3, e', sq, g1, g2, g3⟩ := r
  refine ⟨p, _, e', sqT_rd (off_same _ _) sq, rfl, v1, [v2, v3], rfl, v2, [v3], rfl, v3, [], rfl, rfl, ?_⟩
  exact q _ (((Z.set g1).set g2).set g3) (by rw [List.length_set, List.length_set, List.length_set]) fun l hl => by rw [get_set_ne fun z => hl (.inr (.inr z)), get_set_ne fun z => hl (.inr (.inl z)), get_set_ne fun z => hl (.inl z)]
theorem pg_cn3 {scope : Scope} {tn : List Str} {js : List Nat} {C : Addr} {s : Shared} {H : Hp} {fp : List Addr} {x y z : Str} {p1 p2 p3 p4 : Pos} {kk : Nat} (i j k : Nat) (N : List Str) (hc : X.calm = true := by rfl) (h : cN X tn js = N := by rfl) (hd : N.Nodup := by decide +kernel) (hi : N[i]? = some x := by rfl) (hj : N[j]? = some y := by rfl) (hk : N[k]? = some z := by rfl)
    (hl : scope.names.lookup x = some .local ∨ scope.names.lookup x = some .cell := by first | exact .inl rfl | exact .inr rfl) (hl2 : scope.names.lookup y = some .local ∨ scope.names.lookup y = some .cell := by first | exact .inl rfl | exact .inr rfl) (hl3 : scope.names.lookup z = some .local ∨ scope.names.lookup z = some .cell := by first | exact .inl rfl | exact .inr rfl) :
    PG (blk X (cN X tn js) scope C s H fp) (.Tuple [.Name x p1, .Name y p2, .Name z p3] kk p4) (gTup X.K 3 (gCons (gName i) (gCons (gName j) (gCons (gName k) gNil)))) :=
  pg_tup (X := blk X (cN X tn js) scope C s H fp) hc (pgs_cons (pg_cn i N h hd hi hl) (pgs_cons (pg_cn j N h hd hj hl2) (pgs_cons (pg_cn k N h hd hk hl3) pgs_nil)))
theorem lt_of_eq3 {i j k n : Nat} (h : i < n := by decide) (h2 : j < n := by decide) (h3 : k < n := by decide) : ∀ l, l = i ∨ l = j ∨ l = k → l < n := fun l e => by rcases e with e | e | e <;> rw [e] <;> assumption
end
end L2.EP

namespace L2.EP
open PySem PySem.Spec PyProof.Rows
structure Dq (β : Type) where
  l : List (List Int × β)
def Dq.val {β : Type} (d : Dq β) (k : List Int) : Option β := (d.l.find? fun u => decide (u.1 = k)).map (·.2)
def Dq.put {β : Type} (d : Dq β) (k : List Int) (c : β) : Dq β := ⟨if (d.l.any fun u => decide (u.1 = k)) = true then d.l.map (fun u => if u.1 = k then (u.1, c) else u) else d.l ++ [(k, c)]⟩
def kQ (k : List Int) : List Key := k.map .inl
theorem kQ_inj {a b : List Int} (h : kQ a = kQ b) : a = b := by
  unfold kQ at h
  exact (List.map_inj_right (fun x y z => by injection z)).mp h
def DQ {β : Type} [Py β] (K : PySem.W.Frag) (N : Nn) (H : Hp) (x : List Key × V) (y : List Int × β) : Prop := x.1 = kQ y.1 ∧ Py.rp K N H x.2 y.2
instance {β : Type} [Py β] : Py (Dq β) where
  rp K N H v d := ∃ p kvs, v = .ref p ∧ Rd H p (.dT kvs) ∧ N.has H p (.inT kvs) ∧ Paired (DQ K N H) kvs d.l
  tr l t h := by
    obtain ⟨p, kvs, e, s, n, r⟩ := h
    obtain ⟨s', n'⟩ := l _ (.inT kvs) s n
    exact ⟨p, kvs, e, s', n', pr_imp (fun _ _ q => ⟨q.1, Py.tr l t q.2⟩) r⟩
theorem dq_val {β : Type} [Py β] {K : PySem.W.Frag} {N : Nn} {H : Hp} (k : List Int) : ∀ {kvs : List (List Key × V)} {l : List (List Int × β)}, Paired (DQ K N H) kvs l →
    (∀ c, (Dq.mk l).val k = some c → ∃ v, valV kvs (kQ k) = some v ∧ Py.rp K N H v c) ∧ ((Dq.mk l).val k = none → valV kvs (kQ k) = none)
  | _, _, .nil => ⟨fun c h => (by cases h), fun _ => rfl⟩
  | _, _, .cons (a := x) (b := y) h t => by
    obtain ⟨i1, i2⟩ := dq_val k t
    by_cases e : y.1 = k
    · have e' : x.1 = kQ k := by rw [h.1, e]
      have hv : ∀ r, (Dq.mk (y :: r)).val k = some y.2 := fun r => by unfold Dq.val; rw [List.find?_cons]; simp [e]
      rw [hv, valV_pos e']
      exact ⟨fun c hc => (by cases hc; exact ⟨_, rfl, h.2⟩), fun z => (by cases z)⟩
    · have e' : ¬ x.1 = kQ k := by rw [h.1]; intro z; exact e (kQ_inj z)
      have hv : ∀ r, (Dq.mk (y :: r)).val k = (Dq.mk r).val k := fun r => by unfold Dq.val; rw [List.find?_cons]; simp [e]
      rw [hv, valV_neg e']
      exact ⟨i1, i2⟩
theorem dq_put {β : Type} [Py β] {K : PySem.W.Frag} {N : Nn} {H : Hp} {k : List Int} {v : V} {c : β} {kvs : List (List Key × V)} {l : List (List Int × β)} (r : Paired (DQ K N H) kvs l) (h : Py.rp K N H v c) : Paired (DQ K N H) (putK kvs (kQ k) v) ((Dq.mk l).put k c).l := by
  have ha : ∀ {kvs : List (List Key × V)} {l : List (List Int × β)}, Paired (DQ K N H) kvs l → (kvs.any fun kv => decide (kv.1 = kQ k)) = (l.any fun u => decide (u.1 = k)) := fun r => by
    induction r with
    | nil => rfl
    | cons h t ih =>
      rw [List.any_cons, List.any_cons, ih, h.1]
      congr 1
      exact decide_eq_decide.mpr ⟨fun z => kQ_inj z, fun z => by rw [z]⟩
  have hm : ∀ {kvs : List (List Key × V)} {l : List (List Int × β)}, Paired (DQ K N H) kvs l → Paired (DQ K N H) (kvs.map fun kv => if kv.1 = kQ k then (kv.1, v) else kv) (l.map fun u => if u.1 = k then (u.1, c) else u) := fun r => by
    induction r with
    | nil => exact .nil
    | @cons x y _ _ g t ih =>
      rw [List.map_cons, List.map_cons]
      refine .cons ?_ ih
      by_cases e : y.1 = k
      · rw [if_pos e, if_pos (by rw [g.1, e])]
        exact ⟨g.1, h⟩
      · rw [if_neg e, if_neg (by rw [g.1]; intro z; exact e (kQ_inj z))]
        exact g
  unfold putK Dq.put
  dsimp only
  rw [ha r]
  split
  · exact hm r
  · exact pr_app r (.cons ⟨rfl, h⟩ .nil)
class PyK (κ : Type) [Py κ] where
  ky : κ → List Int
  at_ : ∀ {K : PySem.W.Frag} {N : Nn} {H : Hp} {v : V} {k : κ}, Py.rp K N H v k → ∃ b, v = .ref b ∧ H b = some (.tup ((kQ (ky k)).map kV))
instance : PyK (Int × Int) where
  ky k := [k.1, k.2]
  at_ h := by
    obtain ⟨p, x, y, e, s, h1, h2⟩ := h
    have e1 : x = V.int _ := h1
    have e2 : y = V.int _ := h2
    subst e1; subst e2
    exact ⟨p, e, s.pl⟩
section
variable {X : Cx} {Γ : GEnv} {D : GD} {α β γ κ : Type} [Py α] [Py β] [Py γ] [Py κ] [PyK κ] {e e1 e2 ek ec : Expr} {b b1 b2 : Bool} {pos : Pos} {rest st : List Stmt}
theorem en_dnewQ : EN X Γ (.Dict [] [] pos) (Dq.mk ([] : List (List Int × β))) := by
  with_unfolding_all
    exact pe_wk pe_dnewT fun σ H Q ⟨H0, F, O, Z, q⟩ p hp => by
      have hx : off (upd H p (.dT [])) O p = some (.dT []) := by rw [off_get (Z.notOwn hp)]; exact upd_same
      exact q _ _ (same_upd hp _) ⟨p, [], rfl, .inl hx, ⟨hp, hx⟩, .nil⟩
theorem s_dputQ [PyT β] (i : Nat) {d : Dq β} {k : κ} {c : β} {x : Str} {p p' : Pos} (hu : X.A.units + 60 < cLine) (hg : Γ[i]? = some (some (.dpo d))) (hk : E X Γ ek b2 k) (he : E X Γ e b c) (hl : d.l.length ≤ 1000) (h : S X (Γ.set i (some (.dpo (d.put (PyK.ky k) c)))) rest D) (hi : X.N[i]? = some x := by rfl)
    (hv : Vis X.env.scope x := by first | exact Or.inl rfl | exact Or.inr (Or.inl rfl) | exact Or.inr (Or.inr rfl)) (hd : (x == ("__debug__" : Str)) = false := by decide) (hcd : (x == ("__classdict__" : Str)) = false := by decide)
    (hs : swapsWith e (some (.Subscript (.Name x p) ek p')) pos.line X.env = pure false := by rfl) : S X Γ (.Assign [.Subscript (.Name x p) ek p'] e pos :: rest) D := by
  with_unfolding_all
    exact s_seq (ps_wk (ps_dput (by omega) (pv i hi hv hd hcd) hk he hs) fun De σ H ⟨H0, F, O, Z, n, _⟩ => ⟨H0, F, O, Z, fun u H1 z1 ru => by
        obtain ⟨v, Di, hv1, _, _, _⟩ := (Z.go z1).writeM hg True.intro
        refine ⟨v, hv1, H0, F, O, Z.go z1, fun y H3 z3 ry => ?_⟩
        obtain ⟨v', Di, hv2, ⟨q, kvs, e1, rd, nn, rr⟩, hO, wr⟩ := (Z.go (z1.trans z3)).writeM hg True.intro
        rw [hv1] at hv2
        have ev : v = v' := Option.some.inj (Option.some.inj hv2)
        subst ev
        obtain ⟨a, ey, ha⟩ := PyK.at_ ry
        subst ey
        have ha3 : H3 a = some (.tup ((kQ (PyK.ky k)).map kV)) := off_same _ _ _ _ ha
        have hq : H3 q = some (.dT kvs) := nn.2
        have ht : ∀ p xs, Rt H3 p xs → Rt (upd H3 q (.dT (putK kvs (kQ (PyK.ky k)) u))) p xs := fun p xs h => by
          have hp : p ≠ q := fun w => by
            subst w
            have := h.pl
            rw [hq] at this; cases this
          exact .inl (by rw [upd_ne hp]; exact h.pl)
        refine ⟨q, _, e1, DPut.t (k := kQ (PyK.ky k)) hq ha3 (by rw [pr_len rr]; exact small1000 hl), ?_⟩
        have rr' : Paired (DQ X.K (.set Di) (upd H3 q (.dT (putK kvs (kQ (PyK.ky k)) u)))) kvs d.l := pr_imp (fun _ _ z => ⟨z.1, PyT.free ht z.2⟩) rr
        have ru' : Py.rp X.K (.set Di) (upd H3 q (.dT (putK kvs (kQ (PyK.ky k)) u))) u c := PyT.free (fun p xs w => ht p xs (Same.rt ((off_same _ _).trans z3) w)) ru
        obtain ⟨Z', eo⟩ := wr q (.inT (putK kvs (kQ (PyK.ky k)) u)) (some (.dpo (d.put (PyK.ky k) c))) nn.1 fun g'' e' => by
          cases e'
          exact ⟨True.intro, q, _, e1, .inl upd_same, ⟨nn.1, upd_same⟩, dq_put rr' ru'⟩
        exact n _ _ _ _ (by rw [show upd H3 q (HO.dT (putK kvs (kQ (PyK.ky k)) u)) = upd H3 q (mo (.inT (putK kvs (kQ (PyK.ky k)) u))) from rfl, eo]; exact off_mono (z1.trans z3)) Z' h⟩)
theorem e_dgetQ [PyT β] (i : Nat) {d : Dq β} {k : κ} {c : β} {x : Str} {p ap cp : Pos} (hu : X.A.units + 60 < cLine) (hg : Γ[i]? = some (some (.dpo d))) (hk : E X Γ ek b1 k) (he : E X Γ ec b2 c) (hi : X.N[i]? = some x := by rfl)
    (hv : Vis X.env.scope x := by first | exact Or.inl rfl | exact Or.inr (Or.inl rfl) | exact Or.inr (Or.inr rfl)) (hd : (x == ("__debug__" : Str)) = false := by decide) (hcd : (x == ("__classdict__" : Str)) = false := by decide)
    (hm : M2 X (.Name x p) "get" ap ek ec cp := by exact ⟨rfl, rfl, rfl, rfl⟩) : E X Γ (.Call (.Attribute (.Name x p) "get" ap) [ek, ec] [] cp) true ((d.val (PyK.ky k)).getD c) := by
  with_unfolding_all
    exact pe_wk (pe_dget2 (by omega) (pv i hi hv hd hcd) hk he hm) fun σ H Q ⟨H0, F, O, Z, q⟩ => by
        obtain ⟨v, Di, hv1, ⟨a, kvs0, e1, rd0, _, _⟩, _, _⟩ := Z.writeM hg True.intro
        refine ⟨v, hv1, a, e1, .inr ⟨kvs0, rd0⟩, H0, F, O, Z, fun y H2 z2 ry => ⟨H0, F, O, Z.go z2, fun u H3 z3 ru => ?_⟩⟩
        have Z3 := Z.go (z2.trans z3)
        obtain ⟨v', Di, hv2, ⟨a', kvs, e1', rd, nn, rr⟩, _, _⟩ := Z3.writeM hg True.intro
        rw [hv1] at hv2
        have ev : v = v' := Option.some.inj (Option.some.inj hv2)
        subst ev
        rw [e1] at e1'
        have ea : a = a' := by injection e1'
        subst ea
        obtain ⟨b', ey, hb⟩ := PyK.at_ ry
        subst ey
        have hb3 : H3 b' = some (.tup ((kQ (PyK.ky k)).map kV)) := z3 _ _ (off_same _ _ _ _ hb)
        refine ⟨valV kvs (kQ (PyK.ky k)), .inr ⟨kvs, kQ (PyK.ky k), b', rd, rfl, hb3, rfl⟩, q _ H3 (z2.trans z3) ?_⟩
        obtain ⟨h1, h2⟩ := dq_val (β := β) (l := d.l) (PyK.ky k) rr
        cases ed : d.val (PyK.ky k) with
        | none =>
          rw [h2 ed]
          exact PyT.free (fun _ _ w => w) ru
        | some c' =>
          obtain ⟨w, h3, h4⟩ := h1 c' ed
          rw [h3]
          exact PyT.free (rd_tup_off Z3.own) h4
end
end L2.EP
namespace L2.EP
open PySem PySem.Spec PyProof.Rows
section
variable {X : Cx} {Γ : GEnv} {D : GD} {α β : Type} [Py α] [Py β] {elt target iter c : Expr} {b b' : Bool} {pos : Pos} {scope : Scope} {tn : List Str} {js : List Nat} {g : TG} {tc : Nat → Prop} {put : Bool → α → GEnv → GEnv} {as : List α}
theorem s_compD [PyT β] (i : Nat) {f : α → β} {y : Str} {py spos : Pos} {rest : List Stmt} (hN : X.N.Nodup) (tn : List Str) (js : List Nat) (S' : CScope X scope tn js) (he : EI X Γ target iter b as) (hgp : GP g α put tc X.K) (hg : ∀ C s H fp, PG (blk X (cN X tn js) scope C s H fp) target g) (htc : ∀ j, tc j → j < tn.length)
    (hb : ∀ (i : Nat) (a : α), as[i]? = some a → ∀ C s H fp, E (blk X (cN X tn js) scope C s H fp) (put b a (cΓ Γ tn js)) elt b' (f a)) (hl : as.length ≤ 1000)
    (h : S X (Γ.set i (some (.dpo (as.map f)))) rest D) (hiN : X.N[i]? = some y := by rfl) (hy : Loc X.env.scope y := by first | exact Or.inl rfl | exact Or.inr rfl)
    (hf : X.fn y = true ∨ X.env.scope.names.lookup y = some .local := by first | exact .inl rfl | exact .inr rfl) (hc : X.calm = true := by rfl)
    (hsw : swapsWith (.ListComp elt [⟨target, iter, [], 0⟩] scope pos) (some (.Name y py)) spos.line X.env = pure true := by rfl)
    (hs : ∀ x, foldedSetIterable iter X.env x = pure x := by intro _; rfl) : EP.S X Γ (.Assign [.Name y py] (.ListComp elt [⟨target, iter, [], 0⟩] scope pos) spos :: rest) D := by
  with_unfolding_all
    obtain ⟨wi, hi, hw⟩ := he
    exact s_seq (ps_wk (ps_setLC hN hiN hy hf S' hc hi (fun C s H fp => ⟨hg C s H fp, ttC_ok, teC_ok⟩) hsw hs) fun De σ H ⟨H0, F, O, Z, n, _⟩ => comp_wkN hw hgp htc hb hl Z fun v H1 s1 r1 => by
      obtain ⟨Z', so⟩ := Z.putOwn (i := i) (v := v) s1 (fun q => H q = none ∧ ∃ xs : Mt, H1 q = some (mo xs)) (fun q z => z) (Bd.dpo (as.map f)) True.intro (by
        refine Py.tr (fun q xs sq nn => ?_) (fun q xs sq => Same.rt (off_same _ _) sq) r1
        have := (off_same _ _) _ _ nn.2
        exact ⟨Mo.of this, ⟨nn.1, xs, this⟩, this⟩)
      exact n _ _ _ _ so Z' h)
end
end L2.EP
namespace L2.EP
open PySem PySem.Spec PyProof.Rows
end L2.EP

namespace L2.EP
open PySem PySem.Spec PyProof.Rows
structure TupP where
  l : List Int
instance : Py TupP where
  rp K N H v a := ∃ p xs, v = .ref p ∧ Rt H p xs ∧ Paired (fun x (b : Int) => Py.rp K N H x b) xs a.l
  tr l t h := by
    obtain ⟨p, xs, e, s, r⟩ := h
    exact ⟨p, xs, e, t _ _ s, pr_imp (fun _ _ q => Py.tr l t q) r⟩
theorem pr_intK {K : PySem.W.Frag} {N : Nn} {H : Hp} : ∀ {xs : List V} {l : List Int}, Paired (fun x (b : Int) => Py.rp K N H x b) xs l → xs = (kQ l).map kV
  | _, _, .nil => rfl
  | _, _, .cons h t => by
    have e : _ = V.int _ := h
    rw [pr_intK t, e]
    rfl
instance : PyK TupP where
  ky k := k.l
  at_ h := by
    obtain ⟨p, xs, e, s, r⟩ := h
    exact ⟨p, e, by rw [← pr_intK r]; exact s.pl⟩
section
variable {X : Cx} {Γ : GEnv} {D : GD} {α β γ : Type} [Py α] [Py β] [Py γ] {e e1 e2 : Expr} {b b1 b2 : Bool} {pos p : Pos} {rest st : List Stmt}
theorem e_tupleP {xs : List Int} {p : Pos} (hg : Gl X "tuple") (hm : X.mg "tuple" = none) (ha : E X Γ e b xs) (hs : starEach [e] X.env = (false, eval e X.env) :: starEach [] X.env := by rfl) : E X Γ (.Call (.Name "tuple" p) [e] [] pos) true (TupP.mk xs) := by
  with_unfolding_all
    exact pe_wk (pe_callTy call_tuple_of hg hm PyProof.Rows.boot_tuple (pa_cons ha pa_nil hs) (he := hs)) fun σ H Q ⟨H0, F, O, S, q⟩ => ⟨H0, F, O, S, fun w H1 s1 r1 => by
        obtain ⟨p, vs, e, sq, n, r⟩ := r1
        refine ⟨p, _, by rw [e], .inl ⟨(off_same _ _).seq sq, fun l hl => ?_⟩⟩
        obtain ⟨z1, z2⟩ := laid_tup (xs := vs) (S.go s1) hl
        exact q _ _ (s1.trans z1) ⟨l, vs, rfl, z2, pr_imp (fun _ _ z => PyT.free (fun _ _ t => Same.rt (off_mono z1) t) z) r⟩⟩
end
end L2.EP

namespace L2.EP.K
open PySem PySem.Spec PyProof.Rows
open _root_.EP (fr fd)
def top (i : Nat) : Stmt := PySem.Challenge.pw_everyplace_k40_lines_and_points.main.body.getD i (.Pass ⟨0, 0, 0, 0⟩)
abbrev s_is_whole : Stmt := top 4
abbrev N_is_whole : List Str := ["k"]
theorem sc_is_whole : FnScope N_is_whole ["k"] (defScope s_is_whole) := ⟨rfl, rfl, rfl, by decide +kernel, rfl, by decide +kernel, by decide +kernel⟩
abbrev s_common_divisor : Stmt := top 6
abbrev N_common_divisor : List Str := ["a", "b", "rest"]
theorem sc_common_divisor : FnScope N_common_divisor ["a", "b"] (defScope s_common_divisor) := ⟨rfl, rfl, rfl, by decide +kernel, rfl, by decide +kernel, by decide +kernel⟩
abbrev s_is_row_number : Stmt := top 10
abbrev N_is_row_number : List Str := ["k"]
theorem sc_is_row_number : FnScope N_is_row_number ["k"] (defScope s_is_row_number) := ⟨rfl, rfl, rfl, by decide +kernel, rfl, by decide +kernel, by decide +kernel⟩
abbrev s_is_row : Stmt := top 11
abbrev N_is_row : List Str := ["row"]
theorem sc_is_row : FnScope N_is_row ["row"] (defScope s_is_row) := ⟨rfl, rfl, rfl, by decide +kernel, rfl, by decide +kernel, by decide +kernel⟩
abbrev s_refuse_no_row : Stmt := top 12
abbrev N_refuse_no_row : List Str := ["row"]
theorem sc_refuse_no_row : FnScope N_refuse_no_row ["row"] (defScope s_refuse_no_row) := ⟨rfl, rfl, rfl, by decide +kernel, rfl, by decide +kernel, by decide +kernel⟩
abbrev s_without_divisor : Stmt := top 14
abbrev N_without_divisor : List Str := ["numbers", "divisor", "k"]
theorem sc_without_divisor : FnScope N_without_divisor ["numbers"] (defScope s_without_divisor) := ⟨rfl, rfl, rfl, by decide +kernel, rfl, by decide +kernel, by decide +kernel⟩
abbrev s_first_place : Stmt := top 15
abbrev N_first_place : List Str := ["numbers"]
theorem sc_first_place : FnScope N_first_place ["numbers"] (defScope s_first_place) := ⟨rfl, rfl, rfl, by decide +kernel, rfl, by decide +kernel, by decide +kernel⟩
abbrev s_first_above_nought : Stmt := top 16
abbrev N_first_above_nought : List Str := ["numbers"]
theorem sc_first_above_nought : FnScope N_first_above_nought ["numbers"] (defScope s_first_above_nought) := ⟨rfl, rfl, rfl, by decide +kernel, rfl, by decide +kernel, by decide +kernel⟩
abbrev s_product_of : Stmt := top 17
abbrev N_product_of : List Str := ["row", "x", "y"]
theorem sc_product_of : FnScope N_product_of ["row", "x", "y"] (defScope s_product_of) := ⟨rfl, rfl, rfl, by decide +kernel, rfl, by decide +kernel, by decide +kernel⟩
abbrev s_point_of : Stmt := top 18
abbrev N_point_of : List Str := ["row", "zero", "line", "direction", "made", "twice"]
theorem sc_point_of : FnScope N_point_of ["row", "zero", "line"] (defScope s_point_of) := ⟨rfl, rfl, rfl, by decide +kernel, rfl, by decide +kernel, by decide +kernel⟩
abbrev s_line_of : Stmt := top 19
abbrev N_line_of : List Str := ["row", "zero", "point", "h", "direction", "slopes"]
theorem sc_line_of : FnScope N_line_of ["row", "zero", "point"] (defScope s_line_of) := ⟨rfl, rfl, rfl, by decide +kernel, rfl, by decide +kernel, by decide +kernel⟩
abbrev s_law_cell_at : Stmt := top 21
abbrev N_law_cell_at : List Str := ["_law_script", "_law_k"]
theorem sc_law_cell_at : FnScope N_law_cell_at ["_law_script", "_law_k"] (defScope s_law_cell_at) := ⟨rfl, rfl, rfl, by decide +kernel, rfl, by decide +kernel, by decide +kernel⟩
abbrev s_law_big : Stmt := top 22
abbrev N_law_big : List Str := ["_law_cell", "_law_k", "_law_number", "_law_j", "_law_part"]
theorem sc_law_big : FnScope N_law_big ["_law_cell", "_law_k"] (defScope s_law_big) := ⟨rfl, rfl, rfl, by decide +kernel, rfl, by decide +kernel, by decide +kernel⟩
abbrev s_law_common : Stmt := top 23
abbrev N_law_common : List Str := ["_law_a", "_law_b", "_law_rest"]
theorem sc_law_common : FnScope N_law_common ["_law_a", "_law_b"] (defScope s_law_common) := ⟨rfl, rfl, rfl, by decide +kernel, rfl, by decide +kernel, by decide +kernel⟩
abbrev s_law_is_zero : Stmt := top 24
abbrev N_law_is_zero : List Str := ["_law_row", "_law_zero", "_law_part", "_law_total", "_law_k"]
theorem sc_law_is_zero : FnScope N_law_is_zero ["_law_row", "_law_zero"] (defScope s_law_is_zero) := ⟨rfl, rfl, rfl, by decide +kernel, rfl, by decide +kernel, by decide +kernel⟩
abbrev s_law_drawn : Stmt := top 25
abbrev N_law_drawn : List Str := ["_law_cell", "_law_other", "_law_a", "_law_b", "_law_x", "_law_y", "_law_made", "_law_row", "_law_zero", "_law_turn", "_law_bits", "_law_k"]
theorem sc_law_drawn : FnScope N_law_drawn ["_law_cell", "_law_other"] (defScope s_law_drawn) := ⟨rfl, rfl, rfl, by decide +kernel, rfl, by decide +kernel, by decide +kernel⟩
abbrev s_law_line : Stmt := top 26
abbrev N_law_line : List Str := ["_law_s", "_law_t", "_law_part"]
theorem sc_law_line : FnScope N_law_line ["_law_s", "_law_t"] (defScope s_law_line) := ⟨rfl, rfl, rfl, by decide +kernel, rfl, by decide +kernel, by decide +kernel⟩
abbrev s_law_lines : Stmt := top 27
abbrev N_law_lines : List Str := ["_law_cell", "_law_other", "_law_lines_here", "_law_k", "_law_bound", "_law_s", "_law_t"]
theorem sc_law_lines : FnScope N_law_lines ["_law_cell", "_law_other"] (defScope s_law_lines) := ⟨rfl, rfl, rfl, by decide +kernel, rfl, by decide +kernel, by decide +kernel⟩
abbrev s_law_first : Stmt := top 28
abbrev N_law_first : List Str := ["_law_zero", "_law_k"]
theorem sc_law_first : FnScope N_law_first ["_law_zero"] (defScope s_law_first) := ⟨rfl, rfl, rfl, by decide +kernel, rfl, by decide +kernel, by decide +kernel⟩
abbrev s_law_lies : Stmt := top 29
abbrev N_law_lies : List Str := ["_law_row", "_law_zero", "_law_line_here", "_law_point", "_law_h", "_law_i", "_law_j", "_law_s", "_law_t", "_law_both"]
theorem sc_law_lies : FnScope N_law_lies ["_law_row", "_law_zero", "_law_line_here", "_law_point"] (defScope s_law_lies) := ⟨rfl, rfl, rfl, by decide +kernel, rfl, by decide +kernel, by decide +kernel⟩
abbrev s_law_one : Stmt := top 30
abbrev N_law_one : List Str := ["_law_row", "_law_zero", "_law_line_here", "_law_handed", "_law_point", "_law_said"]
theorem sc_law_one : FnScope N_law_one ["_law_row", "_law_zero", "_law_line_here"] (defScope s_law_one) := ⟨rfl, rfl, rfl, by decide +kernel, rfl, by decide +kernel, by decide +kernel⟩
abbrev s_law : Stmt := top 31
abbrev N_law : List Str := ["_law_script", "_law_k", "_law_cells", "_law_row", "_law_zero", "_law_points", "_law_line_here", "_law_point", "_law_here"]
theorem sc_law : FnScope N_law ["_law_script"] (defScope s_law) := ⟨rfl, rfl, rfl, by decide +kernel, rfl, by decide +kernel, by decide +kernel⟩
section
variable {P : Program} {w : World} {K : PySem.W.Frag} {mg : Str → Option Value} {base : Heap} {f : Addr} {k : Nat} (B : Bu mg)
include B in
theorem b_is_whole (x : Int) : Body P w K mg base N_is_whole "is_whole" s_is_whole f kk [.val false x] (RT true true) := by
  intro cdv A outer s H E hr
  exact s_ret (e_and (e_isII rfl B.isinstance rfl B.int (e_var 0)) fun _ => (e_one (e_not (e_isIB rfl B.isinstance rfl B.bool (e_var 0))))) rfl

include B in
theorem b_common_divisor (a b : Int) : Body P w K mg base N_common_divisor "common_divisor" s_common_divisor f k [.val false a, .val false b] (RT true ((Int.gcd a b : Nat) : Int)) := by
  intro cdv A outer s H E hr
  refine s_while (ι := Bool × Bool × Int × Int) (fun i Γ => ∃ r, Γ = [some (.val i.1 i.2.2.1), some (.val i.2.1 i.2.2.2), r] ∧ Int.gcd i.2.2.1 i.2.2.2 = Int.gcd a b) (fun i => i.2.2.2.natAbs) (false, false, a, b) ⟨none, rfl, rfl⟩ ?_
  rintro ⟨b1, b2, x, y⟩ Γ' ⟨r, rfl, hg⟩
  refine ⟨_, t_cmp cv_neI (e_var 1) e_int, fun hc => ?_, fun hc => ?_⟩
  · have hy : y ≠ 0 := by simpa using hc
    refine s_asg 2 sc_common_divisor.nd (e_mod (e_var 0) (e_var 1) hy) ?_
    refine s_asg 0 sc_common_divisor.nd (e_var 1) ?_
    refine s_asg 1 sc_common_divisor.nd (e_var 2) ?_
    exact s_nil ⟨(b2, true, y, x.fmod y), ⟨_, rfl, (_root_.EP.gcd_fmod x y).trans hg⟩, _root_.EP.fmod_lt x y hy⟩
  · have hy : y = 0 := by simpa using hc
    refine s_ret (e_abs rfl B.abs (e_var 0)) ?_
    dsimp only at hg ⊢
    rw [hy, Int.gcd_zero_right] at hg
    rw [← hg]
    show Bd.val _ _ = Bd.val _ _
    congr 1
    split <;> omega

def irn (k : Int) : Bool := decide (k ≠ 0 ∧ k.natAbs < 1073741824)
include B in
theorem b_is_row_number (g_GREAT_FROM : MgI mg "GREAT_FROM" 1073741824) (c_is_whole : Cal P w K mg base 1 "is_whole" ["k"] (sp1 K (fun (_ : Int) => True) true (fun _ => true))) (x : Int) : Body P w K mg base N_is_row_number "is_row_number" s_is_row_number f 1 [.val false x] (RT true (irn x)) := by
  intro cdv A outer s H E hr
  refine s_ret (e_and (e_call1 c_is_whole (hr.mono (by decide)) rfl (e_var 0) True.intro) fun _ => (e_and (e_cmp cv_neI (e_var 0) e_int) fun _ => (e_one (e_cmp cv_lt (e_abs rfl B.abs (e_var 0)) (e_glI rfl g_GREAT_FROM))))) ?_
  show Bd.val _ _ = Bd.val _ _
  congr 1
  unfold irn
  rw [Bool.eq_iff_iff, decide_eq_true_iff]
  simp
  intro _
  split <;> omega

def isRow (xs : List Int) : Bool := decide (1 ≤ xs.length ∧ xs.length ≤ 8) && xs.all irn
theorem isRow_len {xs : List Int} (h : isRow xs = true) : 1 ≤ xs.length ∧ xs.length ≤ 8 := by
  unfold isRow at h
  have := (Bool.and_eq_true_iff.mp h).1
  simpa using this
theorem isRow_mem {xs : List Int} (h : isRow xs = true) {x : Int} (hx : x ∈ xs) : x ≠ 0 ∧ x.natAbs < 1073741824 := by
  unfold isRow at h
  have := List.all_eq_true.mp (Bool.and_eq_true_iff.mp h).2 x hx
  unfold irn at this
  simpa using this
include B in
theorem b_is_row (g_LONGEST : MgI mg "LONGEST" 8) (c_is_row_number : Cal P w K mg base 2 "is_row_number" ["k"] (sp1 K (fun (_ : Int) => True) true irn)) (xs : List Int) (hl : xs.length ≤ 1000) : Body P w K mg base N_is_row "is_row" s_is_row f 2 [.val false xs] (RT true (isRow xs)) := by
  intro cdv A outer s H E hr
  refine s_if1 (TW.t (tw_or (t_not (t_val (e_isLL rfl B.isinstance rfl B.list (e_var 0)))) fun _ => (tw_or1 (t_not (t_chain cv_le cv_le e_int (e_lenL rfl B.len (e_var 0)) (e_glI rfl g_LONGEST)))))) (fun hc => ?_) (fun hc => ?_)
  · have hc' : ¬ (1 ≤ xs.length ∧ xs.length ≤ 8) := by
      simp at hc
      omega
    have e : isRow xs = false := by unfold isRow; rw [decide_eq_false hc']; rfl
    rw [e]
    exact s_ret e_bl rfl
  · have hc' : 1 ≤ xs.length ∧ xs.length ≤ 8 := by
      simp at hc
      omega
    refine s_ret (e_all rfl rfl B.all (e_comp (f := irn) ["k"] [] (cscope (defScope s_is_row) N_is_row rfl rfl (by decide +kernel)) (ei_list (e_var 0)) (gp_name 0) (fun C s H fp => pg_cn 0 ["k"]) lt_of_eq (fun i u hu C s H fp => e_call1 c_is_row_number (hr.mono (by decide)) rfl (e_var 0) True.intro) hl)) ?_
    show Bd.val _ _ = Bd.val _ _
    congr 1
    unfold isRow
    rw [decide_eq_true hc', Bool.true_and, List.all_map]
    rfl
theorem b_refuse_no_row (c_is_row : Cal P w K mg base 3 "is_row" ["row"] (sp1 K (fun (xs : List Int) => xs.length ≤ 1000) true isRow)) (xs : List Int) (hx : isRow xs = true) : Body P w K mg base N_refuse_no_row "refuse_no_row" s_refuse_no_row f 3 [.val false xs] RTU := by
  intro cdv A outer s H E hr
  have := isRow_len hx
  refine s_if1 (t_not (t_val (e_call1 c_is_row (hr.mono (by decide)) rfl (e_var 0) (by omega)))) (fun hc => ?_) (fun hc => ?_)
  · rw [hx] at hc; cases hc
  · exact s_nil True.intro

def gcL (xs : List Int) : Int := xs.foldl (fun g k => ((Int.gcd g k : Nat) : Int)) 0
def wd (xs : List Int) : List Int := xs.map fun k => k.fdiv (gcL xs)
def PWd (xs : List Int) : Prop := xs.length ≤ 100 ∧ gcL xs ≠ 0 ∧ Sm 8000 (gcL xs)
theorem gcL_take {xs : List Int} {i : Nat} {x : Int} (h : xs[i]? = some x) : gcL (xs.take (i + 1)) = ((Int.gcd (gcL (xs.take i)) x : Nat) : Int) := by
  unfold gcL
  rw [List.take_add_one, h]
  simp [List.foldl_append]
theorem b_without_divisor (c_common_divisor : Cal P w K mg base 1 "common_divisor" ["a", "b"] (sp2 K (fun _ _ => True) true fun a b => ((Int.gcd a b : Nat) : Int))) (xs : List Int) (hp : PWd xs) : Body P w K mg base N_without_divisor "without_divisor" s_without_divisor f 1 [.val false xs] (RT true (wd xs)) := by
  intro cdv A outer s H E hr
  obtain ⟨h1, h2, h3⟩ := hp
  refine s_asg 1 sc_without_divisor.nd e_int ?_
  refine s_forL (fun i Γ => ∃ r, Γ = [some (.val false xs), some (.val true (gcL (xs.take i))), r]) (g_name 2 sc_without_divisor.nd) (e_var 0) ⟨none, rfl⟩ ?_ ?_
  · rintro i a Γ' ha ⟨r, rfl⟩
    refine s_asg 1 sc_without_divisor.nd (e_call2 c_common_divisor (hr.mono (by decide)) rfl (e_var 1) (e_var 2) True.intro) (s_nil ?_)
    dsimp only
    rw [gcL_take ha]
    exact ⟨_, rfl⟩
  · rintro Γ' ⟨r, rfl⟩
    rw [List.take_length]
    exact s_ret (e_comp (f := fun k : Int => k.fdiv (gcL xs)) ["k"] [1] (cscope (defScope s_without_divisor) N_without_divisor rfl rfl (by decide +kernel)) (ei_list (e_var 0)) (gp_name 0) (fun C s H fp => pg_cn 0 ["k", "divisor"]) lt_of_eq (fun i u hu C s H fp => e_fdiv (e_var 0) (e_var 1) (Sm.div (n := 8000) h3 h2)) (by omega)) rfl

open _root_.EP (gcV fsV fpV wdV nrV prL ptP dV slV d2V dirV Rz Nv)
theorem mem_at {α : Type} {xs : List α} {i : Nat} {x : α} (h : xs[i]? = some x) : x ∈ xs := List.mem_of_getElem? h
theorem at_nat {α : Type} {d : α} {xs : List α} {k : Nat} (h : k < xs.length) : atI xs (k : Int) = some (xs.getD k d) := by
  rw [atI_nat (by rw [List.getElem?_eq_getElem h]), List.getD_eq_getElem?_getD, List.getElem?_eq_getElem h]; rfl
def fpI (xs : List Int) : Int := (fpV xs : Nat)
def faV (xs : List Int) : List Int := if fsV xs < 0 then xs.map (fun k => -k) else xs
theorem find_fp : ∀ (xs : List Int) (m : Nat), fsV xs ≠ 0 → (xs.mapIdx fun i x => (((i + m : Nat) : Int), x)).find? (fun u : Int × Int => !decide (u.2 = 0)) = some (((fpV xs + m : Nat) : Int), fsV xs)
  | [], m, h => absurd rfl h
  | x :: xs, m, h => by
    rw [List.mapIdx_cons, List.find?_cons]
    rw [show fsV (x :: xs) = if x = 0 then fsV xs else x from rfl] at h
    by_cases e : x = 0
    · rw [if_pos e] at h
      have e1 : (!decide ((((0 + m : Nat) : Int), x).2 = 0)) = false := by simp [e]
      rw [e1]
      have ih := find_fp xs (m + 1) h
      have e2 : (fun (i : Nat) (x : Int) => (((i + 1 + m : Nat) : Int), x)) = fun (i : Nat) (x : Int) => (((i + (m + 1) : Nat) : Int), x) := funext fun i => funext fun x => by rw [show i + 1 + m = i + (m + 1) by omega]
      show ((xs.mapIdx fun i x => (((i + 1 + m : Nat) : Int), x)).find? _) = _
      rw [e2, ih, show fpV (x :: xs) = if x = 0 then fpV xs + 1 else 0 from rfl, show fsV (x :: xs) = if x = 0 then fsV xs else x from rfl, if_pos e, if_pos e, show fpV xs + (m + 1) = fpV xs + 1 + m by omega]
    · have e1 : (!decide ((((0 + m : Nat) : Int), x).2 = 0)) = true := by simp [e]
      rw [e1, show fpV (x :: xs) = if x = 0 then fpV xs + 1 else 0 from rfl, show fsV (x :: xs) = if x = 0 then fsV xs else x from rfl, if_neg e, if_neg e]
theorem at_fp {xs : List Int} (h : fsV xs ≠ 0) : atI (((enI xs).filter fun u : Int × Int => !decide (u.2 = 0)).map fun u => u.1) 0 = some (fpI xs) := by
  have e := find_fp xs 0 h
  have e2 : (enI xs).find? (fun u : Int × Int => !decide (u.2 = 0)) = some ((fpV xs : Int), fsV xs) := e
  rw [← List.head?_filter, List.head?_eq_getElem?] at e2
  refine atI_nat (j := 0) ?_
  rw [List.getElem?_map, e2]
  rfl
include B in
theorem b_first_place (xs : List Int) (hl : xs.length ≤ 100) (h : fsV xs ≠ 0) : Body P w K mg base N_first_place "first_place" s_first_place f k [.val false xs] (RT true (fpI xs)) := by
  intro cdv A outer s H E hr
  exact s_ret (e_ixL (e_compF (as := enI xs) (f := fun u : Int × Int => u.1) (p := fun u : Int × Int => !decide (u.2 = 0)) (b' := true) ["i", "k"] [] (cscope (defScope s_first_place) N_first_place rfl rfl (by decide +kernel)) (ei_enum rfl B.enumerate (e_var 0)) (gp_two 0 1) (fun C s H fp => pg_cn2 0 1 ["i", "k"]) lt_of_eq2 (fun a u hu C s H fp => ft_one (t_cmp cv_neI (e_var 1) e_int)) (fun a u hu _ C s H fp => e_up (b' := true) (e_var 0)) (by rw [enI_len]; omega)) e_int (at_fp h)) rfl
theorem b_first_above_nought (c_first_place : Cal P w K mg base 1 "first_place" ["numbers"] (sp1 K (fun (xs : List Int) => xs.length ≤ 100 ∧ fsV xs ≠ 0) true fpI)) (xs : List Int) (hl : xs.length ≤ 100) (h : fsV xs ≠ 0) : Body P w K mg base N_first_above_nought "first_above_nought" s_first_above_nought f 1 [.val false xs] (RT false (faV xs)) := by
  intro cdv A outer s H E hr
  obtain ⟨a1, a2⟩ := _root_.EP.fpV_at h
  have at1 : atI xs (fpI xs) = some (fsV xs) := by rw [← a2]; exact at_nat a1
  refine s_ret (e_if (t_cmp cv_lt (e_ixL (e_var 0) (e_call1 c_first_place (hr.mono (by decide)) rfl (e_var 0) ⟨hl, h⟩) at1) e_int) (fun _ => _root_.L2.EP.E.wk (b := true) (b' := false) (e_comp (b' := true) (f := fun k : Int => -k) ["k"] [] (cscope (defScope s_first_above_nought) N_first_above_nought rfl rfl (by decide +kernel)) (ei_list (e_var 0)) (gp_name 0) (fun C s H fp => pg_cn 0 ["k"]) lt_of_eq (fun i u hu C s H fp => e_neg (e_var 0)) (by omega)) (fun z => by cases z)) (fun _ => e_var 0)) ?_
  show Bd.val _ _ = Bd.val _ _
  congr 1
  unfold faV
  by_cases z : fsV xs < 0
  · rw [if_pos z, if_pos (by simpa using z)]
  · rw [if_neg z, if_neg (by simpa using z)]
structure PPo (r x y : List Int) : Prop where
  ex : ∃ a0 a1 a2 x0 x1 x2 y0 y1 y2 : Int, r = [a0, a1, a2] ∧ x = [x0, x1, x2] ∧ y = [y0, y1, y2]
  sr : ∀ a ∈ r, Sm 100 a
  sx : ∀ a ∈ x, Sm 100 a
  sy : ∀ a ∈ y, Sm 100 a
theorem z3_mem {r x y : List Int} {i : Nat} {u : T3 Int Int Int} (h : (zip3 r x y)[i]? = some u) : u.a ∈ r ∧ u.b ∈ x ∧ u.c ∈ y := by
  have key : ∀ (r x y : List Int), u ∈ zip3 r x y → u.a ∈ r ∧ u.b ∈ x ∧ u.c ∈ y := fun r => by
    induction r with
    | nil => intro x y h; unfold zip3 at h; cases h
    | cons a r ih =>
      intro x y h
      cases x with
      | nil => unfold zip3 at h; cases h
      | cons b x =>
        cases y with
        | nil => unfold zip3 at h; cases h
        | cons c y =>
          unfold zip3 at h
          rcases List.mem_cons.mp h with e | e
          · subst e; exact ⟨List.mem_cons_self, List.mem_cons_self, List.mem_cons_self⟩
          · obtain ⟨p, q, s⟩ := ih x y e
            exact ⟨List.mem_cons_of_mem _ p, List.mem_cons_of_mem _ q, List.mem_cons_of_mem _ s⟩
  exact key r x y (List.mem_of_getElem? h)
include B in
theorem b_product_of (r x y : List Int) (hp : PPo r x y) : Body P w K mg base N_product_of "product_of" s_product_of f k [.val false r, .val false x, .val false y] (RT true (prL r x y)) := by
  intro cdv A outer s H E hr
  refine s_ret (e_sum rfl rfl B.sum (e_comp (b' := true) (f := fun u : T3 Int Int Int => u.a * u.b * u.c) ["a", "s", "t"] [] (cscope (defScope s_product_of) N_product_of rfl rfl (by decide +kernel)) (ei_zip3 rfl B.zip (e_var 0) (e_var 1) (e_var 2)) (gp_three 0 1 2) (fun C s H fp => pg_cn3 0 1 2 ["a", "s", "t"]) lt_of_eq3 (fun i u hu C s H fp => e_mul (e_mul (e_var 0) (e_var 1) ((hp.sr _ (z3_mem hu).1).ok (hp.sx _ (z3_mem hu).2.1))) (e_var 2) (((hp.sr _ (z3_mem hu).1).mul (hp.sx _ (z3_mem hu).2.1)).ok (hp.sy _ (z3_mem hu).2.2))) ?_)) ?_
  · obtain ⟨a0, a1, a2, x0, x1, x2, y0, y1, y2, rfl, rfl, rfl⟩ := hp.ex
    show 3 ≤ 1000
    decide
  · obtain ⟨a0, a1, a2, x0, x1, x2, y0, y1, y2, rfl, rfl, rfl⟩ := hp.ex
    rfl
def ptF (r z : List Int) (l : Int × Int) : List Int := nrV (ptP r z l.1 l.2)
structure PPt (r z : List Int) (l : Int × Int) : Prop where
  rz : Rz r z
  row : isRow r = true
  sz : ∀ a ∈ z, Sm 40 a
  s1 : Sm 90 l.1
  s2 : Sm 90 l.2
  g : gcV (ptP r z l.1 l.2) ≠ 0
theorem row_sm {r : List Int} (h : isRow r = true) : ∀ a ∈ r, Sm 100 a := fun a ha => by
  have := (isRow_mem h ha).2
  exact Sm.le (m := 30) (by show _ < 2 ^ 30; omega) (by decide)
theorem dir_mem {h : Nat} {s t a : Int} (ha : a ∈ dirV h s t) : a = 0 ∨ a = s ∨ a = t := by
  unfold _root_.EP.dirV at ha
  rcases List.mem_append.mp ha with z | z
  · have := List.mem_of_mem_take z
    simp at this
    exact .inr this
  · rcases List.mem_cons.mp z with e | e
    · exact .inl e
    · have := List.mem_of_mem_drop e
      simp at this
      exact .inr this
theorem dir3 {h : Nat} (hh : h < 3) (s t : Int) : ∃ d0 d1 d2, dirV h s t = [d0, d1, d2] := by
  match h, hh with
  | 0, _ => exact ⟨0, s, t, rfl⟩
  | 1, _ => exact ⟨s, 0, t, rfl⟩
  | 2, _ => exact ⟨s, t, 0, rfl⟩
theorem prL_sm {r x y : List Int} (hp : PPo r x y) : Sm 302 (prL r x y) := by
  obtain ⟨a0, a1, a2, x0, x1, x2, y0, y1, y2, rfl, rfl, rfl⟩ := hp.ex
  have m : ∀ {a b c : Int}, Sm 100 a → Sm 100 b → Sm 100 c → Sm 300 (a * b * c) := fun h1 h2 h3 => (h1.mul h2).mul h3
  have e0 := m (hp.sr a0 (by simp)) (hp.sx x0 (by simp)) (hp.sy y0 (by simp))
  have e1 := m (hp.sr a1 (by simp)) (hp.sx x1 (by simp)) (hp.sy y1 (by simp))
  have e2 := m (hp.sr a2 (by simp)) (hp.sx x2 (by simp)) (hp.sy y2 (by simp))
  show Sm 302 (a0 * x0 * y0 + (a1 * x1 * y1 + (a2 * x2 * y2 + 0)))
  rw [Int.add_zero]
  exact e0.add (e1.add e2) |>.le (by decide)
theorem gc_sm {xs : List Int} {n : Nat} (h : ∀ x ∈ xs, Sm n x) (g : gcV xs ≠ 0) : Sm n (gcV xs) := by
  obtain ⟨x, hx, x0⟩ : ∃ x ∈ xs, x ≠ 0 := by
    refine Classical.byContradiction fun z => g ?_
    have hz : ∀ x ∈ xs, x = 0 := fun x hx => Classical.byContradiction fun w => z ⟨x, hx, w⟩
    have : xs = xs.map (0 * ·) := by
      conv => lhs; rw [← List.map_id xs]
      exact List.map_congr_left fun x hx => by show x = 0 * x; rw [hz x hx]; rfl
    rw [this, _root_.EP.gc_scale]
    show (0 : Int) * _ = 0
    rw [Int.zero_mul]
  have hd := _root_.EP.gc_dvd xs x hx
  have := Int.natAbs_dvd_natAbs.mpr hd
  have := Nat.le_of_dvd (by omega) this
  exact Sm.of_le this (h x hx)
theorem fa_nr {xs : List Int} (g : gcV xs ≠ 0) : fsV (wdV xs) ≠ 0 ∧ faV (wdV xs) = nrV xs := by
  refine ⟨fun z => ?_, rfl⟩
  obtain ⟨nv, _⟩ := _root_.EP.nr_ok g
  have := nv.f
  unfold _root_.EP.nrV at this
  rw [if_neg (by omega), z] at this
  omega
set_option maxHeartbeats 1000000 in
include B in
theorem b_point_of (c_refuse_no_row : Cal P w K mg base 4 "refuse_no_row" ["row"] (sp1 K (fun (xs : List Int) => isRow xs = true) true unit1)) (c_without_divisor : Cal P w K mg base 2 "without_divisor" ["numbers"] (sp1 K PWd true wd)) (c_first_place : Cal P w K mg base 1 "first_place" ["numbers"] (sp1 K (fun (xs : List Int) => xs.length ≤ 100 ∧ fsV xs ≠ 0) true fpI)) (c_first_above_nought : Cal P w K mg base 2 "first_above_nought" ["numbers"] (sp1 K (fun (xs : List Int) => xs.length ≤ 100 ∧ fsV xs ≠ 0) false faV)) (c_product_of : Cal P w K mg base 1 "product_of" ["row", "x", "y"] (sp3 K PPo true prL))
    (r z : List Int) (l : Int × Int) (hp : PPt r z l) : Body P w K mg base N_point_of "point_of" s_point_of f 4 [.val false r, .val false z, .val false l] (RT false (ptF r z l)) := by
  intro cdv A outer s H E hr
  obtain ⟨s0, t0⟩ := l
  obtain ⟨a0, a1, a2, z0, z1, z2, er, ez, _⟩ := hp.rz.ex
  have nz := hp.rz.nz
  obtain ⟨f1, f2⟩ := _root_.EP.fpV_at nz
  have lz : z.length = 3 := by rw [ez]; rfl
  have hh : fpV z < 3 := by omega
  obtain ⟨d0, d1, d2, ed⟩ := dir3 hh s0 t0
  have sz : ∀ a ∈ z, Sm 100 a := fun a ha => (hp.sz a ha).le (by decide)
  have sd : ∀ a ∈ dirV (fpV z) s0 t0, Sm 100 a := fun a ha => by
    rcases dir_mem ha with e | e | e
    · rw [e]; show (0 : Int).natAbs < _; exact Nat.two_pow_pos _
    · rw [e]; exact hp.s1.le (by decide)
    · rw [e]; exact hp.s2.le (by decide)
  have sr := row_sm hp.row
  have po1 : PPo r (dirV (fpV z) s0 t0) (dirV (fpV z) s0 t0) := ⟨⟨a0, a1, a2, d0, d1, d2, d0, d1, d2, er, ed, ed⟩, sr, sd, sd⟩
  have po2 : PPo r z (dirV (fpV z) s0 t0) := ⟨⟨a0, a1, a2, z0, z1, z2, d0, d1, d2, er, ez, ed⟩, sr, sz, sd⟩
  have m1 := prL_sm po1
  have m2 := prL_sm po2
  refine s_expr (e_call1 c_refuse_no_row (hr.mono (by decide)) rfl (e_var 0) hp.row) ?_
  refine s_deep 3 sc_point_of.nd (en_listP rfl B.list (e_var 2)) ?_
  refine s_d2o 3 true rfl ?_
  refine s_insert 3 rfl (e_call1 c_first_place (hr.mono (by decide)) rfl (e_var 1) ⟨by omega, nz⟩) e_int (by unfold fpI; omega) (by show fpI z ≤ ((2 : Nat) : Int); unfold fpI; omega) (by show 2 ≤ 1000; decide) ?_
  have ei : [s0, t0].take (fpI z).toNat ++ 0 :: [s0, t0].drop (fpI z).toNat = dirV (fpV z) s0 t0 := by unfold fpI; rw [Int.toNat_natCast]; rfl
  refine s_freeze 3 rfl ?_
  dsimp only
  rw [ei]
  refine s_asg 4 sc_point_of.nd (e_call3 c_product_of (hr.mono (by decide)) rfl (e_var 0) (e_var 3) (e_var 3) po1) ?_
  refine s_asg 5 sc_point_of.nd (e_mul e_int (e_call3 c_product_of (hr.mono (by decide)) rfl (e_var 0) (e_var 1) (e_var 3) po2) (mulL (by decide) (by decide))) ?_
  have eP : (z.zip (dirV (fpV z) s0 t0)).map (fun u : Int × Int => prL r (dirV (fpV z) s0 t0) (dirV (fpV z) s0 t0) * u.1 - 2 * prL r z (dirV (fpV z) s0 t0) * u.2) = ptP r z s0 t0 := rfl
  have m2' : Sm 304 (2 * prL r z (dirV (fpV z) s0 t0)) := (Sm.mul (m := 2) (by show (2 : Int).natAbs < _; decide) m2)
  have sP : ∀ x ∈ ptP r z s0 t0, Sm 500 x := fun x hx => by
    rw [← eP] at hx
    obtain ⟨u, hu, rfl⟩ := List.mem_map.mp hx
    obtain ⟨u1, u2⟩ := _root_.EP.mem_zip_l hu
    exact ((m1.mul (sz _ u1)).sub (m2'.mul (sd _ u2))).le (by decide)
  have lP : (ptP r z s0 t0).length = 3 := by
    rw [← eP, List.length_map, List.length_zip, lz, ed]; rfl
  have g := hp.g
  dsimp only at g
  obtain ⟨f3, f4⟩ := fa_nr g
  refine s_ret (e_call1 c_first_above_nought (hr.mono (by decide)) rfl (e_call1 c_without_divisor (hr.mono (by decide)) rfl (e_eq (e_comp (b' := true) (f := fun u : Int × Int => prL r (dirV (fpV z) s0 t0) (dirV (fpV z) s0 t0) * u.1 - 2 * prL r z (dirV (fpV z) s0 t0) * u.2) ["z", "d"] [4, 5] (cscope (defScope s_point_of) N_point_of rfl rfl (by decide +kernel)) (ei_zip rfl B.zip (e_var 1) (e_var 3)) (gp_two 0 1) (fun C s H fp => pg_cn2 0 1 ["z", "d", "made", "twice"]) lt_of_eq2 (fun i u hu C s H fp => e_sub (e_mul (e_var 2) (e_var 0) (m1.ok (sz _ (_root_.EP.mem_zip_l (mem_at hu)).1))) (e_mul (e_var 3) (e_var 1) (m2'.ok (sd _ (_root_.EP.mem_zip_l (mem_at hu)).2)))) (by rw [List.length_zip]; omega)) eP) ⟨by omega, g, (gc_sm sP g).le (by decide)⟩) ⟨by show (wdV _).length ≤ 100; unfold _root_.EP.wdV; rw [List.length_map]; omega, f3⟩) ?_
  show Bd.val _ _ = Bd.val _ _
  congr 1
theorem d2_sm {r z y : List Int} (lr : r.length = 3) (lz : z.length = 3) (ly : y.length = 3) (nz : fsV z ≠ 0) (hr : ∀ a ∈ r, Sm 30 a) (hz : ∀ a ∈ z, Sm 40 a) (hy : ∀ a ∈ y, Sm 40 a) : ∀ x ∈ d2V r z y, Sm 81 x := fun x hx => by
  obtain ⟨f1, _⟩ := _root_.EP.fpV_at nz
  have s1 : Sm 40 (z.getD (fpV z) 0) := hz _ (_root_.EP.getD_mem (by omega))
  have s2 : Sm 40 (y.getD (fpV z) 0) := hy _ (_root_.EP.getD_mem (by omega))
  have ssl : ∀ x ∈ slV r z, Sm 81 x := fun x hx => by
    obtain ⟨u, hu, rfl⟩ := List.mem_map.mp (List.mem_of_mem_eraseIdx hx)
    obtain ⟨u1, u2⟩ := _root_.EP.mem_zip_l hu
    exact ((hr _ u1).mul (hz _ u2)).le (by decide)
  have lsl : (slV r z).length = 2 := by
    unfold _root_.EP.slV
    rw [List.length_eraseIdx_of_lt (by rw [List.length_map, List.length_zip]; omega), List.length_map, List.length_zip]
    omega
  unfold _root_.EP.d2V at hx
  split at hx
  · rcases List.mem_cons.mp hx with e | e
    · rw [e]; exact ssl _ (_root_.EP.getD_mem (by omega))
    · rw [List.mem_singleton.mp e]; exact (ssl _ (_root_.EP.getD_mem (by omega))).neg
  · obtain ⟨u, hu, rfl⟩ := List.mem_map.mp (List.mem_of_mem_eraseIdx hx)
    obtain ⟨u1, u2⟩ := _root_.EP.mem_zip_l hu
    exact ((s1.mul (hy _ u2)).sub (s2.mul (hz _ u1))).le (by decide)
theorem nr_sm {L : List Int} {n : Nat} (h2 : L.length = 2) (g : gcV L ≠ 0) (h : ∀ x ∈ L, Sm n x) {s t : Int} (en : nrV L = [s, t]) : Sm n s ∧ Sm n t := by
  obtain ⟨s', t', k, en', k0, el, _⟩ := _root_.EP.two_of h2 g
  rw [en] at en'
  injection en' with e1 e2
  injection e2 with e2 _
  subst e1; subst e2
  have key : ∀ x : Int, Sm n (k * x) → Sm n x := fun x hx => by
    refine Sm.of_le ?_ hx
    rw [Int.natAbs_mul]
    exact Nat.le_mul_of_pos_left _ (by omega)
  exact ⟨key _ (h _ (by rw [el]; simp)), key _ (h _ (by rw [el]; simp))⟩
def lnF (r z y : List Int) : Int × Int := ((nrV (d2V r z y)).getD 0 0, (nrV (d2V r z y)).getD 1 0)
structure PLn (r z y : List Int) : Prop where
  rz : Rz r z
  row : isRow r = true
  sz : ∀ a ∈ z, Sm 100 a
  sy : ∀ a ∈ y, Sm 500 a
  ly : y.length = 3
  g : gcV (d2V r z y) ≠ 0
set_option maxHeartbeats 1000000 in
include B in
theorem b_line_of (c_refuse_no_row : Cal P w K mg base 4 "refuse_no_row" ["row"] (sp1 K (fun (xs : List Int) => isRow xs = true) true unit1)) (c_without_divisor : Cal P w K mg base 2 "without_divisor" ["numbers"] (sp1 K PWd true wd)) (c_first_place : Cal P w K mg base 1 "first_place" ["numbers"] (sp1 K (fun (xs : List Int) => xs.length ≤ 100 ∧ fsV xs ≠ 0) true fpI)) (c_first_above_nought : Cal P w K mg base 2 "first_above_nought" ["numbers"] (sp1 K (fun (xs : List Int) => xs.length ≤ 100 ∧ fsV xs ≠ 0) false faV))
    (r z y : List Int) (hp : PLn r z y) : Body P w K mg base N_line_of "line_of" s_line_of f 4 [.val false r, .val false z, .val false y] (RT true (lnF r z y)) := by
  intro cdv A outer s H E hr
  obtain ⟨a0, a1, a2, z0, z1, z2, er, ez, _⟩ := hp.rz.ex
  have nz := hp.rz.nz
  obtain ⟨f1, f2⟩ := _root_.EP.fpV_at nz
  have lz : z.length = 3 := by rw [ez]; rfl
  have lr : r.length = 3 := by rw [er]; rfl
  have ly := hp.ly
  have hh : fpV z < 3 := by omega
  have sr := row_sm hp.row
  have ah : atI z (fpI z) = some (z.getD (fpV z) 0) := at_nat (by omega)
  have bh : atI y (fpI z) = some (y.getD (fpV z) 0) := at_nat (by omega)
  have s1 : Sm 100 (z.getD (fpV z) 0) := hp.sz _ (_root_.EP.getD_mem (by omega))
  have s2 : Sm 500 (y.getD (fpV z) 0) := hp.sy _ (_root_.EP.getD_mem (by omega))
  have edv : (z.zip y).map (fun u : Int × Int => z.getD (fpV z) 0 * u.2 - y.getD (fpV z) 0 * u.1) = dV z y := rfl
  have ldv : (dV z y).length = 3 := by rw [← edv, List.length_map, List.length_zip]; omega
  have sdv : ∀ x ∈ dV z y, Sm 601 x := fun x hx => by
    rw [← edv] at hx
    obtain ⟨u, hu, rfl⟩ := List.mem_map.mp hx
    obtain ⟨u1, u2⟩ := _root_.EP.mem_zip_l hu
    exact ((s1.mul (hp.sy _ u2)).sub (s2.mul (hp.sz _ u1))).le (by decide)
  have esl : ((r.zip z).map fun u : Int × Int => u.1 * u.2).eraseIdx (fpV z) = slV r z := rfl
  have lsl0 : ((r.zip z).map fun u : Int × Int => u.1 * u.2).length = 3 := by rw [List.length_map, List.length_zip]; omega
  have lsl : (slV r z).length = 2 := by rw [← esl, List.length_eraseIdx_of_lt (by omega), lsl0]
  have ssl : ∀ x ∈ slV r z, Sm 601 x := fun x hx => by
    rw [← esl] at hx
    obtain ⟨u, hu, rfl⟩ := List.mem_map.mp (List.mem_of_mem_eraseIdx hx)
    obtain ⟨u1, u2⟩ := _root_.EP.mem_zip_l hu
    exact ((sr _ u1).mul (hp.sz _ u2)).le (by decide)
  have g := hp.g
  obtain ⟨f3, f4⟩ := fa_nr g
  have ld2 : (d2V r z y).length = 2 := by
    unfold _root_.EP.d2V
    split
    · rfl
    · rw [List.length_eraseIdx_of_lt (by omega), ldv]
  have sd2 : ∀ x ∈ d2V r z y, Sm 601 x := fun x hx => by
    unfold _root_.EP.d2V at hx
    split at hx
    · rcases List.mem_cons.mp hx with e | e
      · rw [e]; exact ssl _ (_root_.EP.getD_mem (by omega))
      · rw [List.mem_singleton.mp e]; exact (ssl _ (_root_.EP.getD_mem (by omega))).neg
    · exact sdv x (List.mem_of_mem_eraseIdx hx)
  obtain ⟨s0, t0, k0, en, _, _, _⟩ := _root_.EP.two_of ld2 g
  refine s_expr (e_call1 c_refuse_no_row (hr.mono (by decide)) rfl (e_var 0) hp.row) ?_
  refine s_asg 3 sc_line_of.nd (e_call1 c_first_place (hr.mono (by decide)) rfl (e_var 1) ⟨by omega, nz⟩) ?_
  refine s_compD 4 sc_line_of.nd (b' := true) (f := fun u : Int × Int => z.getD (fpV z) 0 * u.2 - y.getD (fpV z) 0 * u.1) ["z", "y"] [1, 2, 3] (cscope (defScope s_line_of) N_line_of rfl rfl (by decide +kernel)) (ei_zip rfl B.zip (e_var 1) (e_var 2)) (gp_two 0 1) (fun C s H fp => pg_cn2 0 1 ["z", "y", "zero", "point", "h"]) lt_of_eq2 (fun i u hu C s H fp => e_sub (e_mul (e_ixL (e_var 2) (e_var 4) ah) (e_var 1) (s1.ok (hp.sy _ (_root_.EP.mem_zip_l (mem_at hu)).2))) (e_mul (e_ixL (e_var 3) (e_var 4) bh) (e_var 0) (s2.ok (hp.sz _ (_root_.EP.mem_zip_l (mem_at hu)).1)))) (by rw [List.length_zip]; omega) ?_
  rw [edv]
  have fin : ∀ (b4 : Bool) r5, S (cx P w K mg base N_line_of "line_of" s_line_of f cdv A outer s H E) [some (.val false r), some (.val false z), some (.val false y), some (.val true (fpI z)), some (.val b4 (d2V r z y)), r5] ((defBody s_line_of).drop 4) (RT true (lnF r z y)) := fun b4 r5 => by
    refine s_ret (e_tuple2 rfl B.tuple (e_call1 c_first_above_nought (hr.mono (by decide)) rfl (e_call1 c_without_divisor (hr.mono (by decide)) rfl (e_var 4) ⟨by omega, g, (gc_sm sd2 g).le (by decide)⟩) ⟨by show (wdV _).length ≤ 100; unfold _root_.EP.wdV; rw [List.length_map]; omega, f3⟩) (show faV (wdV (d2V r z y)) = [s0, t0] by rw [f4, en])) ?_
    show Bd.val _ _ = Bd.val _ _
    congr 1
    unfold lnF
    rw [en]
    rfl
  refine s_if (t_borrow 4 rfl (t_cmp (cv_eq (α := List Int) (hu60 hr)) (e_var 4) (e_lst (b := true) (ea_cons e_int (ea_cons e_int (ea_cons e_int ea_nil))) (by simp)))) (fun hc => ?_) (fun hc => ?_)
  · have hc' : dV z y = [0, 0, 0] := of_decide_eq_true hc
    have e2 : d2V r z y = [(slV r z).getD 1 0, -(slV r z).getD 0 0] := by unfold _root_.EP.d2V; rw [if_pos hc']
    refine s_compD 5 sc_line_of.nd (b' := true) (f := fun u : Int × Int => u.1 * u.2) ["a", "z"] [] (cscope (defScope s_line_of) N_line_of rfl rfl (by decide +kernel)) (ei_zip rfl B.zip (e_var 0) (e_var 1)) (gp_two 0 1) (fun C s H fp => pg_cn2 0 1 ["a", "z"]) lt_of_eq2 (fun i u hu C s H fp => e_mul (e_var 0) (e_var 1) ((sr _ (_root_.EP.mem_zip_l (mem_at hu)).1).ok (hp.sz _ (_root_.EP.mem_zip_l (mem_at hu)).2))) (by rw [List.length_zip]; omega) ?_
    refine s_d2o 5 true rfl ?_
    refine s_popAt 5 rfl (e_var 3) (by unfold fpI; omega) (by unfold fpI; omega) (by omega) ?_
    refine s_freeze 5 rfl ?_
    have e3 : ((r.zip z).map fun u : Int × Int => u.1 * u.2).eraseIdx (fpI z).toNat = slV r z := by unfold fpI; rw [Int.toNat_natCast]; rfl
    rw [e3]
    refine s_asg 4 sc_line_of.nd (e_eq (e_lst (b := true) (ea_cons (e_ixL (e_var 5) e_int (at_nat (k := 1) (d := 0) (by omega))) (ea_cons (e_neg (e_ixL (e_var 5) e_int (at_nat (k := 0) (d := 0) (by omega)))) ea_nil)) (by simp)) e2.symm) ?_
    exact s_nil (fin _ _)
  · have hc' : ¬ dV z y = [0, 0, 0] := of_decide_eq_false hc
    have e2 : d2V r z y = (dV z y).eraseIdx (fpV z) := by unfold _root_.EP.d2V; rw [if_neg hc']
    refine s_d2o 4 true rfl ?_
    refine s_popAt 4 rfl (e_var 3) (by unfold fpI; omega) (by unfold fpI; omega) (by omega) ?_
    refine s_freeze 4 rfl ?_
    have e3 : (dV z y).eraseIdx (fpI z).toNat = d2V r z y := by rw [e2]; unfold fpI; rw [Int.toNat_natCast]
    rw [e3]
    exact s_nil (fin _ _)

def dcell (xs : List Int) (k : Int) : Int := if k < (xs.length : Int) then xs.getD k.toNat 0 else 0
include B in
theorem b_law_cell_at (xs : List Int) (k : Int) (h0 : 0 ≤ k) : Body P w K mg base N_law_cell_at "_law_cell_at" s_law_cell_at f kk [.val false xs, .val false k] (RT true (dcell xs k)) := by
  intro cdv A outer s H E hr
  refine s_if1 (t_cmp cv_lt (e_var 1) (e_lenL rfl B.len (e_var 0))) (fun hc => ?_) (fun hc => ?_)
  · have hc' : k < (xs.length : Int) := by simpa using hc
    have e : dcell xs k = xs.getD k.toNat 0 := if_pos hc'
    rw [e]
    exact s_ret (e_up (e_ixL (e_var 0) (e_var 1) (atGetD (d := 0) h0 hc'))) rfl
  · have hc' : ¬ k < (xs.length : Int) := by simpa using hc
    have e : dcell xs k = 0 := if_neg hc'
    rw [e]
    exact s_ret e_int rfl

def bgP (c k j : Int) : Int := (((c.natAbs : Int).fmod 2147483647 + 97 * k + 131 * j + 13) * (16807 + j * j + k)).fmod 2147483647
def bgL (c k : Int) : Nat → Int
  | 0 => 0
  | i + 1 => bgL c k i * 2147483659 + (bgP c k i * 48271).fmod 2147483647
def bg9 (c k : Int) : Int := if 10 ^ 18 ≤ (c.natAbs : Int) then c else bgL c k 9
include B in
theorem b_law_big (c k : Int) (h0 : 0 ≤ k) (h1 : k ≤ 100) : Body P w K mg base N_law_big "_law_big" s_law_big f kk [.val false c, .val false k] (RT true (bg9 c k)) := by
  intro cdv A outer s H E hr
  have ab : ∀ i : Int, (if i < 0 then -i else i) = (i.natAbs : Int) := fun i => by split <;> omega
  refine s_if1 (t_cmp cv_ge (e_abs rfl B.abs (e_var 0)) (e_pow e_int e_int cpK)) (fun hc => ?_) (fun hc => ?_)
  · rw [ab] at hc
    have e : bg9 c k = c := if_pos (by simpa using hc)
    rw [e]
    exact s_ret (e_up (e_var 0)) rfl
  rw [ab] at hc
  have e : bg9 c k = bgL c k 9 := if_neg (by simpa using hc)
  rw [e]
  refine s_asg 2 sc_law_big.nd e_int ?_
  refine s_forRange (fun i Γ => ∃ r r', Γ = [some (.val false c), some (.val false k), some (.val true (bgL c k i)), r, r']) rfl B.range (g_name 3 sc_law_big.nd) e_int (by decide) (by decide) ⟨none, none, rfl⟩ ?_ ?_
  · rintro i Γ' hi ⟨r, r', rfl⟩
    have hi' : i < 9 := hi
    have z0 := fmod_pos (a := (c.natAbs : Int)) (b := 2147483647) (by decide)
    have hjj : (i : Int) * (i : Int) ≤ 9 * 9 := Int.mul_le_mul (by omega) (by omega) (by omega) (by decide)
    have hj0 : (0 : Int) ≤ (i : Int) * (i : Int) := Int.mul_nonneg (by omega) (by omega)
    refine s_asg 4 sc_law_big.nd (e_add (e_add (e_add (e_mod (e_abs rfl B.abs (e_var 0)) e_int (by decide)) (e_mul e_int (e_var 1) (mulL (by decide) (by decide)))) (e_mul e_int (e_var 3) (mulL (by decide) (by decide)))) e_int) ?_
    rw [ab]
    refine s_asg 4 sc_law_big.nd (e_mod (e_mul (e_var 4) (e_add (e_add e_int (e_mul (e_var 3) (e_var 3) (mulL (by omega) (by omega)))) (e_var 1)) (mulL (by omega) (by omega))) e_int (by decide)) ?_
    have z1 := fmod_pos (a := ((c.natAbs : Int).fmod 2147483647 + 97 * k + 131 * (i : Int) + 13) * (16807 + (i : Int) * (i : Int) + k)) (b := 2147483647) (by decide)
    refine s_asg 2 sc_law_big.nd (e_add (e_mul (e_var 2) e_int (mulR (by decide) (by decide))) (e_mod (e_mul (e_var 4) e_int (mulR (by decide) (by decide))) e_int (by decide))) ?_
    exact s_nil ⟨_, _, rfl⟩
  · rintro Γ' ⟨r, r', rfl⟩
    exact s_ret (e_var 2) rfl

def gcI (a b : Int) : Int := ((Int.gcd a b : Nat) : Int)
include B in
theorem b_law_common (a b : Int) : Body P w K mg base N_law_common "_law_common" s_law_common f k [.val false a, .val false b] (RT true (gcI a b)) := by
  intro cdv A outer s H E hr
  refine s_while (ι := Bool × Bool × Int × Int) (fun i Γ => ∃ r, Γ = [some (.val i.1 i.2.2.1), some (.val i.2.1 i.2.2.2), r] ∧ Int.gcd i.2.2.1 i.2.2.2 = Int.gcd a b) (fun i => i.2.2.2.natAbs) (false, false, a, b) ⟨none, rfl, rfl⟩ ?_
  rintro ⟨b1, b2, x, y⟩ Γ' ⟨r, rfl, hg⟩
  refine ⟨_, t_cmp cv_neI (e_var 1) e_int, fun hc => ?_, fun hc => ?_⟩
  · have hy : y ≠ 0 := by simpa using hc
    refine s_asg 2 sc_law_common.nd (e_mod (e_var 0) (e_var 1) hy) ?_
    refine s_asg 0 sc_law_common.nd (e_var 1) ?_
    refine s_asg 1 sc_law_common.nd (e_var 2) ?_
    exact s_nil ⟨(b2, true, y, x.fmod y), ⟨_, rfl, (_root_.EP.gcd_fmod x y).trans hg⟩, _root_.EP.fmod_lt x y hy⟩
  · have hy : y = 0 := by simpa using hc
    refine s_ret (e_abs rfl B.abs (e_var 0)) ?_
    dsimp only at hg ⊢
    rw [hy, Int.gcd_zero_right] at hg
    unfold gcI
    rw [← hg]
    show Bd.val _ _ = Bd.val _ _
    congr 1
    split <;> omega

def zp (zero : List Int) : Nat → Int
  | 0 => 0
  | i + 1 => gcI (zp zero i) (zero.getD i 0)
def zt (row zero : List Int) : Nat → Int
  | 0 => 0
  | i + 1 => zt row zero i + row.getD i 0 * zero.getD i 0 * zero.getD i 0
def isZ (row zero : List Int) : Bool := decide (zp zero row.length = 1) && decide (zt row zero row.length = 0)
def PIz (row zero : List Int) : Prop := zero.length = row.length ∧ row.length ≤ 100 ∧ (∀ x, x ∈ row → Sm 5000 x) ∧ ∀ x, x ∈ zero → Sm 5000 x
theorem getD_mem {xs : List Int} {i : Nat} (h : i < xs.length) : xs.getD i 0 ∈ xs := by
  rw [List.getD_eq_getElem?_getD, List.getElem?_eq_getElem h]
  exact List.getElem_mem h
theorem atN {xs : List Int} {i : Nat} (h : i < xs.length) : atI xs (i : Int) = some (xs.getD i 0) := atGetD (d := 0) (by omega) (by omega)
include B in
theorem b_law_is_zero (c_law_common : Cal P w K mg base 1 "_law_common" ["_law_a", "_law_b"] (sp2 K (fun _ _ => True) true gcI)) (row zero : List Int) (hp : PIz row zero) : Body P w K mg base N_law_is_zero "_law_is_zero" s_law_is_zero f 1 [.val false row, .val false zero] (RT true (isZ row zero)) := by
  intro cdv A outer s H E hr
  obtain ⟨hl, hl2, hr1, hz1⟩ := hp
  refine s_if1 (TW.t (tw_or (t_not (t_val (e_isLL rfl B.isinstance rfl B.list (e_var 1)))) fun _ => (tw_or1 (t_cmp cv_neI (e_lenL rfl B.len (e_var 1)) (e_lenL rfl B.len (e_var 0)))))) (fun hc => ?_) (fun hc => ?_)
  · exfalso
    simp at hc
    omega
  refine s_asg 2 sc_law_is_zero.nd e_int ?_
  refine s_asg 3 sc_law_is_zero.nd e_int ?_
  refine s_forRange (fun i Γ => ∃ r, Γ = [some (.val false row), some (.val false zero), some (.val true (zp zero i)), some (.val true (zt row zero i)), r]) rfl B.range (g_name 4 sc_law_is_zero.nd) (e_lenL rfl B.len (e_var 0)) (by omega) (by omega) ⟨none, rfl⟩ ?_ ?_
  · rintro i Γ' hi ⟨r, rfl⟩
    have h1 : i < row.length := by omega
    have h2 : i < zero.length := by omega
    have s1 := hr1 _ (getD_mem h1)
    have s2 := hz1 _ (getD_mem h2)
    refine s_if1 (TW.t (tw_or (t_not (t_val (e_isII rfl B.isinstance rfl B.int (e_ixL (e_var 1) (e_var 4) (atN h2))))) fun _ => (tw_or1 (t_val (e_isIB rfl B.isinstance rfl B.bool (e_ixL (e_var 1) (e_var 4) (atN h2))))))) (fun hc => ?_) (fun hc => ?_)
    · cases hc
    refine s_asg 2 sc_law_is_zero.nd (e_call2 c_law_common (hr.mono (by decide)) rfl (e_var 2) (e_ixL (e_var 1) (e_var 4) (atN h2)) True.intro) ?_
    refine s_asg 3 sc_law_is_zero.nd (e_add (e_var 3) (e_mul (e_mul (e_ixL (e_var 0) (e_var 4) (atN h1)) (e_ixL (e_var 1) (e_var 4) (atN h2)) (s1.ok s2)) (e_ixL (e_var 1) (e_var 4) (atN h2)) ((s1.mul s2).ok s2))) ?_
    exact s_nil ⟨_, rfl⟩
  · rintro Γ' ⟨r, rfl⟩
    exact s_ret (e_and (e_cmp cv_eqI (e_var 2) e_int) fun _ => (e_one (e_cmp cv_eqI (e_var 3) e_int))) rfl

def drA (c : Int) : Int := (1 + (c.fdiv 6).fmod 100) * (1 - 2 * (c.fdiv 600).fmod 2)
def drB (o : Int) : Int := (1 + o.fmod 100) * (1 - 2 * (o.fdiv 100).fmod 2)
def drX (o : Int) : Int := (o.fdiv 200).fmod 61
def drY (o : Int) : Int := 1 + (o.fdiv 12200).fmod 60
def drM (c o : Int) : Int := drA c * drX o * drX o + drB o * drY o * drY o
def dr0 (c o : Int) : List Int × List Int := if drM c o = 0 ∨ (c.fdiv 1200).fmod 5 = 0 then ([drA c, 0 - drA c, drB o], [1, 1, 0]) else ([drA c, drB o, 0 - drM c o], [drX o, drY o, 1])
def bS (b : Int) : Nat → Int
  | 0 => b
  | i + 1 => (bS b i).fdiv 2
def zS (z : List Int) (b : Int) : Nat → List Int
  | 0 => z
  | i + 1 => (zS z b i).set i ((zS z b i).getD i 0 * (1 - 2 * (bS b i).fmod 2))
def drF (c o : Int) : List Int × List Int := ((dr0 c o).1.drop (c.fmod 3).toNat ++ (dr0 c o).1.take (c.fmod 3).toNat, (zS (dr0 c o).2 (c.fdiv 6000) 3).drop (c.fmod 3).toNat ++ (zS (dr0 c o).2 (c.fdiv 6000) 3).take (c.fmod 3).toNat)
theorem sg_ok (x : Int) : (1 - 2 * x.fmod 2 = 1) ∨ (1 - 2 * x.fmod 2 = -1) := by
  have := fmod_pos (a := x) (b := 2) (by decide)
  omega
theorem zS_len (z : List Int) (b : Int) : ∀ i, (zS z b i).length = z.length
  | 0 => rfl
  | i + 1 => by
    show ((zS z b i).set i _).length = _
    rw [List.length_set]; exact zS_len z b i
structure D0 (r z : List Int) : Prop where
  ex : ∃ a0 a1 a2 z0 z1 z2 : Int, r = [a0, a1, a2] ∧ z = [z0, z1, z2] ∧ (a0 ≠ 0 ∧ a1 ≠ 0 ∧ a2 ≠ 0) ∧ (a0.natAbs < 1000000 ∧ a1.natAbs < 1000000 ∧ a2.natAbs < 1000000) ∧ (z0.natAbs < 1000000 ∧ z1.natAbs < 1000000 ∧ z2.natAbs < 1000000) ∧ a0 * z0 * z0 + a1 * z1 * z1 + a2 * z2 * z2 = 0 ∧ ¬ (z0 = 0 ∧ z1 = 0 ∧ z2 = 0)
  g : gcV z = 1
theorem gc3 (a b c : Int) : gcV [a, b, c] = ((Nat.gcd (Nat.gcd a.natAbs b.natAbs) c.natAbs : Nat) : Int) := by
  show ((Nat.gcd (((Nat.gcd (((Nat.gcd 0 a.natAbs : Nat) : Int)).natAbs b.natAbs : Nat) : Int)).natAbs c.natAbs : Nat) : Int) = _
  rw [Int.natAbs_natCast, Int.natAbs_natCast, Nat.gcd_zero_left]
theorem drA_ok (c : Int) : drA c ≠ 0 ∧ (drA c).natAbs ≤ 100 := by
  have h := fmod_pos (a := c.fdiv 6) (b := 100) (by decide)
  unfold drA
  rcases sg_ok (c.fdiv 600) with e | e <;> rw [e] <;> omega
theorem drB_ok (c : Int) : drB c ≠ 0 ∧ (drB c).natAbs ≤ 100 := by
  have h := fmod_pos (a := c) (b := 100) (by decide)
  unfold drB
  rcases sg_ok (c.fdiv 100) with e | e <;> rw [e] <;> omega
theorem drM_sm (c o : Int) : (drM c o).natAbs < 1000000 := by
  obtain ⟨_, a⟩ := drA_ok c
  obtain ⟨_, b⟩ := drB_ok o
  have x := fmod_pos (a := o.fdiv 200) (b := 61) (by decide)
  have y := fmod_pos (a := o.fdiv 12200) (b := 60) (by decide)
  unfold drM drX drY
  generalize (o.fdiv 200).fmod 61 = x0 at *
  generalize (o.fdiv 12200).fmod 60 = y0 at *
  have e1 : (drA c * x0 * x0).natAbs ≤ 100 * 60 * 60 := by
    rw [Int.natAbs_mul, Int.natAbs_mul]
    exact Nat.mul_le_mul (Nat.mul_le_mul a (by omega)) (by omega)
  have e2 : (drB o * (1 + y0) * (1 + y0)).natAbs ≤ 100 * 60 * 60 := by
    rw [Int.natAbs_mul, Int.natAbs_mul]
    exact Nat.mul_le_mul (Nat.mul_le_mul b (by omega)) (by omega)
  omega
theorem dr0_ok (c o : Int) : D0 (dr0 c o).1 (dr0 c o).2 := by
  obtain ⟨a1, a2⟩ := drA_ok c
  obtain ⟨b1, b2⟩ := drB_ok o
  have hm := drM_sm c o
  unfold dr0
  split
  · exact ⟨⟨drA c, 0 - drA c, drB o, 1, 1, 0, rfl, rfl, ⟨a1, by omega, b1⟩, ⟨by omega, by omega, by omega⟩, ⟨by decide, by decide, by decide⟩, by omega, fun h => absurd h.1 (by decide)⟩, by show gcV [1, 1, 0] = 1; decide⟩
  · rename_i h
    have x := fmod_pos (a := o.fdiv 200) (b := 61) (by decide)
    have y := fmod_pos (a := o.fdiv 12200) (b := 60) (by decide)
    refine ⟨⟨drA c, drB o, 0 - drM c o, drX o, drY o, 1, rfl, rfl, ⟨a1, b1, by omega⟩, ⟨by omega, by omega, by omega⟩, ⟨by unfold drX; omega, by unfold drY; omega, by decide⟩, ?_, fun h => absurd h.2.2 (by decide)⟩, by rw [gc3]; show ((Nat.gcd _ 1 : Nat) : Int) = 1; rw [Nat.gcd_one_right]; rfl⟩
    unfold drM
    omega
theorem D0.sg {r z : List Int} (h : D0 r z) (b : Int) : D0 r (zS z b 3) := by
  obtain ⟨a0, a1, a2, z0, z1, z2, er, ez, an, as', zs, hq, hn⟩ := h.ex
  subst ez
  have e : zS [z0, z1, z2] b 3 = [z0 * (1 - 2 * (bS b 0).fmod 2), z1 * (1 - 2 * (bS b 1).fmod 2), z2 * (1 - 2 * (bS b 2).fmod 2)] := rfl
  rw [e]
  have sq : ∀ (a z x : Int), a * (z * (1 - 2 * x.fmod 2)) * (z * (1 - 2 * x.fmod 2)) = a * z * z ∧ (z * (1 - 2 * x.fmod 2)).natAbs = z.natAbs := fun a z x => by
    rcases sg_ok x with e | e <;> rw [e]
    · exact ⟨by rw [Int.mul_one], by rw [Int.mul_one]⟩
    · exact ⟨by grind, by omega⟩
  obtain ⟨p0, q0⟩ := sq a0 z0 (bS b 0)
  obtain ⟨p1, q1⟩ := sq a1 z1 (bS b 1)
  obtain ⟨p2, q2⟩ := sq a2 z2 (bS b 2)
  refine ⟨⟨a0, a1, a2, _, _, _, er, rfl, an, as', ⟨by omega, by omega, by omega⟩, by rw [p0, p1, p2]; exact hq, fun ⟨w0, w1, w2⟩ => hn ⟨by omega, by omega, by omega⟩⟩, by rw [gc3, q0, q1, q2, ← gc3]; exact h.g⟩
theorem D0.rot {r z : List Int} (h : D0 r z) {t : Nat} (ht : t < 3) : D0 (r.drop t ++ r.take t) (z.drop t ++ z.take t) := by
  obtain ⟨a0, a1, a2, z0, z1, z2, er, ez, ⟨n0, n1, n2⟩, ⟨s0, s1, s2⟩, ⟨u0, u1, u2⟩, hq, hn⟩ := h.ex
  subst er; subst ez
  match t, ht with
  | 0, _ => exact h
  | 1, _ => exact ⟨⟨a1, a2, a0, z1, z2, z0, rfl, rfl, ⟨n1, n2, n0⟩, ⟨s1, s2, s0⟩, ⟨u1, u2, u0⟩, by omega, fun ⟨w0, w1, w2⟩ => hn ⟨w2, w0, w1⟩⟩, by have := h.g; rw [gc3] at this; show gcV [z1, z2, z0] = 1; rw [gc3, Nat.gcd_comm, ← Nat.gcd_assoc]; exact this⟩
  | 2, _ => exact ⟨⟨a2, a0, a1, z2, z0, z1, rfl, rfl, ⟨n2, n0, n1⟩, ⟨s2, s0, s1⟩, ⟨u2, u0, u1⟩, by omega, fun ⟨w0, w1, w2⟩ => hn ⟨w1, w2, w0⟩⟩, by have := h.g; rw [gc3] at this; show gcV [z2, z0, z1] = 1; rw [gc3, Nat.gcd_assoc, Nat.gcd_comm]; exact this⟩
theorem drF_ok (c o : Int) : D0 (drF c o).1 (drF c o).2 := by
  have := fmod_pos (a := c) (b := 3) (by decide)
  exact ((dr0_ok c o).sg (c.fdiv 6000)).rot (by omega)
theorem D0.rz {r z : List Int} (h : D0 r z) : Rz r z ∧ isRow r = true ∧ (∀ a ∈ z, Sm 40 a) ∧ (∀ a ∈ r, Sm 30 a) ∧ r.length = 3 ∧ z.length = 3 := by
  obtain ⟨a0, a1, a2, z0, z1, z2, rfl, rfl, ⟨n0, n1, n2⟩, ⟨s0, s1, s2⟩, ⟨u0, u1, u2⟩, hq, hn⟩ := h.ex
  have small : ∀ {x : Int} {n : Nat}, x.natAbs < 1000000 → 20 ≤ n → Sm n x := fun h1 h2 => Sm.le (m := 20) (by show _ < 2 ^ 20; omega) h2
  refine ⟨⟨⟨a0, a1, a2, z0, z1, z2, rfl, rfl, n0, n1, n2, hq⟩, fun w => ?_⟩, ?_, fun a ha => ?_, fun a ha => ?_, rfl, rfl⟩
  · have := _root_.EP.fs_zero w
    exact hn ⟨this _ (by simp), this _ (by simp), this _ (by simp)⟩
  · unfold isRow irn
    simp
    omega
  · simp at ha
    rcases ha with e | e | e <;> rw [e] <;> exact small (by assumption) (by decide)
  · simp at ha
    rcases ha with e | e | e <;> rw [e] <;> exact small (by assumption) (by decide)
set_option maxHeartbeats 2000000 in
include B in
theorem b_law_drawn (c o : Int) : Body P w K mg base N_law_drawn "_law_drawn" s_law_drawn f k [.val false c, .val false o] (RT true (drF c o)) := by
  intro cdv A outer s H E hr
  obtain ⟨a1, a2⟩ := drA_ok c
  obtain ⟨b1, b2⟩ := drB_ok o
  have x := fmod_pos (a := o.fdiv 200) (b := 61) (by decide)
  have y := fmod_pos (a := o.fdiv 12200) (b := 60) (by decide)
  have hx : (drX o).natAbs ≤ 60 := by unfold drX; omega
  have hy : (drY o).natAbs ≤ 60 := by unfold drY; omega
  have hax : (drA c * drX o).natAbs ≤ 100 * 60 := by rw [Int.natAbs_mul]; exact Nat.mul_le_mul a2 hx
  have hby : (drB o * drY o).natAbs ≤ 100 * 60 := by rw [Int.natAbs_mul]; exact Nat.mul_le_mul b2 hy
  have mod3 := fmod_pos (a := c) (b := 3) (by decide)
  have f6 := fmod_pos (a := c.fdiv 6) (b := 100) (by decide)
  have o6 := fmod_pos (a := o) (b := 100) (by decide)
  refine s_asg 2 sc_law_drawn.nd (e_mul (e_add e_int (e_mod (e_fdiv (e_var 0) e_int cdK) e_int (by decide))) (e_sub e_int (e_mul e_int (e_mod (e_fdiv (e_var 0) e_int cdK) e_int (by decide)) (mulL (by decide) (by decide)))) (mulL (by omega) (by omega))) ?_
  refine s_asg 3 sc_law_drawn.nd (e_mul (e_add e_int (e_mod (e_var 1) e_int (by decide))) (e_sub e_int (e_mul e_int (e_mod (e_fdiv (e_var 1) e_int cdK) e_int (by decide)) (mulL (by decide) (by decide)))) (mulL (by omega) (by omega))) ?_
  refine s_asg 4 sc_law_drawn.nd (e_mod (e_fdiv (e_var 1) e_int cdK) e_int (by decide)) ?_
  refine s_asg 5 sc_law_drawn.nd (e_add e_int (e_mod (e_fdiv (e_var 1) e_int cdK) e_int (by decide))) ?_
  show S _ [some (.val false c), some (.val false o), some (.val true (drA c)), some (.val true (drB o)), some (.val true (drX o)), some (.val true (drY o)), none, none, none, none, none, none] _ _
  refine s_asg 6 sc_law_drawn.nd (e_add (e_mul (e_mul (e_var 2) (e_var 4) (mulL (by omega) (by omega))) (e_var 4) (mulL (by omega) (by omega))) (e_mul (e_mul (e_var 3) (e_var 5) (mulL (by omega) (by omega))) (e_var 5) (mulL (by omega) (by omega)))) ?_
  show S _ [some (.val false c), some (.val false o), some (.val true (drA c)), some (.val true (drB o)), some (.val true (drX o)), some (.val true (drY o)), some (.val true (drM c o)), none, none, none, none, none] _ _
  refine s_asg 7 sc_law_drawn.nd (e_lst (b := true) (ea_cons (e_var 2) (ea_cons (e_var 3) (ea_cons (e_sub e_int (e_var 6)) ea_nil))) (by simp)) ?_
  refine s_deep 8 sc_law_drawn.nd (en_lst (b := true) (ea_cons (e_var 4) (ea_cons (e_var 5) (ea_cons e_int ea_nil))) (by simp)) ?_
  refine s_ifJ (fun Γ => Γ = [some (.val false c), some (.val false o), some (.val true (drA c)), some (.val true (drB o)), some (.val true (drX o)), some (.val true (drY o)), some (.val true (drM c o)), some (.val true (dr0 c o).1), some (.dpo (dr0 c o).2), none, none, none]) (TW.t (tw_or (t_cmp cv_eqI (e_var 6) e_int) fun _ => (tw_or1 (t_cmp cv_eqI (e_mod (e_fdiv (e_var 0) e_int cdK) e_int (by decide)) e_int)))) (fun hc => ?_) (fun hc => ?_) ?_
  · have hc' : drM c o = 0 ∨ (c.fdiv 1200).fmod 5 = 0 := by simpa using hc
    have e0 : dr0 c o = ([drA c, 0 - drA c, drB o], [1, 1, 0]) := by unfold dr0; rw [if_pos hc']
    rw [e0]
    refine s_asg 7 sc_law_drawn.nd (e_lst (b := true) (ea_cons (e_var 2) (ea_cons (e_sub e_int (e_var 2)) (ea_cons (e_var 3) ea_nil))) (by simp)) ?_
    refine s_deep 8 sc_law_drawn.nd (en_lst (b := true) (ea_cons e_int (ea_cons e_int (ea_cons e_int ea_nil))) (by simp)) ?_
    exact s_nil rfl
  · have hc' : ¬ (drM c o = 0 ∨ (c.fdiv 1200).fmod 5 = 0) := by simpa using hc
    have e0 : dr0 c o = ([drA c, drB o, 0 - drM c o], [drX o, drY o, 1]) := by unfold dr0; rw [if_neg hc']
    rw [e0]
    exact s_nil rfl
  rintro Γ' rfl
  obtain ⟨_, _, _, z0, z1, z2, er, ez, _, _, _⟩ := (dr0_ok c o).ex
  have lz : (dr0 c o).2.length = 3 := by rw [ez]; rfl
  have lr : (dr0 c o).1.length = 3 := by rw [er]; rfl
  refine s_asg 9 sc_law_drawn.nd (e_mod (e_var 0) e_int (by decide)) ?_
  refine s_asg 10 sc_law_drawn.nd (e_fdiv (e_var 0) e_int cdK) ?_
  refine s_forRange (fun i Γ => i ≤ 3 ∧ ∃ r11, Γ = [some (.val false c), some (.val false o), some (.val true (drA c)), some (.val true (drB o)), some (.val true (drX o)), some (.val true (drY o)), some (.val true (drM c o)), some (.val true (dr0 c o).1), some (.dpo (zS (dr0 c o).2 (c.fdiv 6000) i)), some (.val true (c.fmod 3)), some (.val true (bS (c.fdiv 6000) i)), r11]) rfl B.range (g_name 11 sc_law_drawn.nd) e_int (by decide) (by decide) ⟨by decide, none, rfl⟩ ?_ ?_
  · rintro i Γ' hi ⟨hi3, r11, rfl⟩
    have hi' : i < 3 := by omega
    have ll := zS_len (dr0 c o).2 (c.fdiv 6000) i
    have sg := sg_ok (bS (c.fdiv 6000) i)
    refine s_setL 8 rfl (e_var 11) (e_borrowT 8 rfl (e_mul (e_ixL (e_var 8) (e_var 11) (at_nat (d := 0) (by omega))) (e_sub e_int (e_mul e_int (e_mod (e_var 10) e_int (by decide)) (mulL (by decide) (by decide)))) (mulR (by omega) (by omega)))) (by omega) (by rw [ll, lz]; omega) ?_
    rw [Int.toNat_natCast]
    exact s_asg 10 sc_law_drawn.nd (e_fdiv (e_var 10) e_int cdK) (s_nil ⟨by omega, _, rfl⟩)
  · rintro Γ' ⟨_, r11, rfl⟩
    refine s_thaw 8 rfl ?_
    have ll := zS_len (dr0 c o).2 (c.fdiv 6000) 3
    exact s_ret (e_tup2 (b1 := true) (b2 := true) (e_catT (e_from (e_var 7) (e_var 9) (by omega)) (e_to (e_var 7) (e_var 9) (by omega)) (by rw [List.length_drop, List.length_take]; omega)) (e_catT (e_from (e_var 8) (e_var 9) (by omega)) (e_to (e_var 8) (e_var 9) (by omega)) (by rw [List.length_drop, List.length_take]; omega))) rfl
def lnN (s t : Int) : Int × Int := if gcI s t = 0 then (1, 0) else if s < 0 ∨ (s = 0 ∧ t < 0) then (s.fdiv (0 - gcI s t), t.fdiv (0 - gcI s t)) else (s.fdiv (gcI s t), t.fdiv (gcI s t))
theorem gc2 (a b : Int) : gcV [a, b] = gcI a b := by
  show ((Nat.gcd (((Nat.gcd 0 a.natAbs : Nat) : Int)).natAbs b.natAbs : Nat) : Int) = ((Nat.gcd a.natAbs b.natAbs : Nat) : Int)
  rw [Int.natAbs_natCast, Nat.gcd_zero_left]
theorem nv_div {s t p : Int} (hp : (p.natAbs : Int) = gcI s t) (p0 : p ≠ 0) (hf : 0 < p * fsV [s, t]) : Nv [s.fdiv p, t.fdiv p] ∧ (s.fdiv p).natAbs ≤ s.natAbs ∧ (t.fdiv p).natAbs ≤ t.natAbs := by
  have d1 : p ∣ s := Int.natAbs_dvd.mp (by rw [hp]; exact Int.gcd_dvd_left ..)
  have d2 : p ∣ t := Int.natAbs_dvd.mp (by rw [hp]; exact Int.gcd_dvd_right ..)
  obtain ⟨u, eu⟩ := d1
  obtain ⟨v, ev⟩ := d2
  have e1 : s.fdiv p = u := by rw [eu]; exact Int.mul_fdiv_cancel_left _ p0
  have e2 : t.fdiv p = v := by rw [ev]; exact Int.mul_fdiv_cancel_left _ p0
  have em : [s, t] = [u, v].map (p * ·) := by show [s, t] = [p * u, p * v]; rw [← eu, ← ev]
  rw [e1, e2]
  refine ⟨⟨?_, ?_⟩, ?_, ?_⟩
  · have h1 := congrArg gcV em
    rw [_root_.EP.gc_scale, gc2, ← hp] at h1
    have pn : (p.natAbs : Int) ≠ 0 := by omega
    have h2 : (p.natAbs : Int) * (gcV [u, v] - 1) = 0 := by grind
    rcases Int.mul_eq_zero.mp h2 with z | z
    · exact absurd z pn
    · omega
  · rw [em, _root_.EP.fs_scale p0] at hf
    have : p * (p * fsV [u, v]) = (p * p) * fsV [u, v] := by grind
    rw [this] at hf
    have pp : 0 < p * p := by
      rcases Int.lt_or_gt_of_ne p0 with z | z
      · exact Int.mul_pos_of_neg_of_neg z z
      · exact Int.mul_pos z z
    rw [Int.mul_comm] at hf
    exact Int.pos_of_mul_pos_left hf pp
  · rw [eu, Int.natAbs_mul]; exact Nat.le_mul_of_pos_left _ (by omega)
  · rw [ev, Int.natAbs_mul]; exact Nat.le_mul_of_pos_left _ (by omega)
theorem lnN_ok (s t : Int) : Nv [(lnN s t).1, (lnN s t).2] ∧ (∀ n, 2 ≤ n → Sm n s → Sm n t → Sm n (lnN s t).1 ∧ Sm n (lnN s t).2) := by
  unfold lnN
  by_cases g0 : gcI s t = 0
  · rw [if_pos g0]
    exact ⟨⟨by decide, by decide⟩, fun n hn _ _ => ⟨Sm.le (m := 2) (by show (1 : Int).natAbs < _; decide) hn, Sm.le (m := 2) (by show (0 : Int).natAbs < _; decide) hn⟩⟩
  · rw [if_neg g0]
    have gn : 0 ≤ gcI s t := by unfold gcI; omega
    have nn : ¬ (s = 0 ∧ t = 0) := fun ⟨a, b⟩ => g0 (by rw [a, b]; rfl)
    have ef : fsV [s, t] = if s = 0 then (if t = 0 then 0 else t) else s := rfl
    split
    · rename_i hc
      have fneg : fsV [s, t] < 0 := by
        rw [ef]
        split
        · rename_i e
          rw [if_neg (fun w => nn ⟨e, w⟩)]
          omega
        · omega
      obtain ⟨a, b, c⟩ := nv_div (s := s) (t := t) (p := 0 - gcI s t) (by omega) (by omega) (Int.mul_pos_of_neg_of_neg (by omega) fneg)
      exact ⟨a, fun n _ h1 h2 => ⟨Sm.of_le b h1, Sm.of_le c h2⟩⟩
    · rename_i hc
      have fpos : 0 < fsV [s, t] := by
        rw [ef]
        split
        · rename_i e
          rw [if_neg (fun w => nn ⟨e, w⟩)]
          have : t ≠ 0 := fun w => nn ⟨e, w⟩
          omega
        · omega
      obtain ⟨a, b, c⟩ := nv_div (s := s) (t := t) (p := gcI s t) (by omega) g0 (Int.mul_pos (by omega) fpos)
      exact ⟨a, fun n _ h1 h2 => ⟨Sm.of_le b h1, Sm.of_le c h2⟩⟩
theorem b_law_line (c_law_common : Cal P w K mg base 1 "_law_common" ["_law_a", "_law_b"] (sp2 K (fun _ _ => True) true gcI)) (s t : Int) (h1 : Sm 60 s) (h2 : Sm 60 t) : Body P w K mg base N_law_line "_law_line" s_law_line f 1 [.val false s, .val false t] (RT true (lnN s t)) := by
  intro cdv A outer s' H E hr
  have gn : 0 ≤ gcI s t := by unfold gcI; omega
  have gs : gcI s t ≠ 0 → Sm 60 (gcI s t) := fun g0 => by
    by_cases e : s = 0
    · have t0 : t ≠ 0 := fun w => g0 (by rw [e, w]; rfl)
      have := Nat.le_of_dvd (by omega) (Nat.gcd_dvd_right s.natAbs t.natAbs)
      exact Sm.of_le (by unfold gcI; rw [Int.natAbs_natCast]; exact this) h2
    · have := Nat.le_of_dvd (by omega) (Nat.gcd_dvd_left s.natAbs t.natAbs)
      exact Sm.of_le (by unfold gcI; rw [Int.natAbs_natCast]; exact this) h1
  refine s_asg 2 sc_law_line.nd (e_call2 c_law_common (hr.mono (by decide)) rfl (e_var 0) (e_var 1) True.intro) ?_
  unfold lnN
  refine s_if1 (t_cmp cv_eqI (e_var 2) e_int) (fun hc => ?_) (fun hc => ?_)
  · rw [if_pos (of_decide_eq_true hc)]
    exact s_ret (e_tup2 (b1 := true) (b2 := true) e_int e_int) rfl
  have g0 : ¬ gcI s t = 0 := of_decide_eq_false hc
  rw [if_neg g0]
  have gs' := gs g0
  refine s_ifJ (fun Γ => Γ = [some (.val false s), some (.val false t), some (.val true (if s < 0 ∨ (s = 0 ∧ t < 0) then 0 - gcI s t else gcI s t))]) (TW.t (tw_or (t_cmp cv_lt (e_var 0) e_int) fun _ => (tw_or1 (TW.t (tw_and (t_cmp cv_eqI (e_var 0) e_int) fun _ => (tw_and1 (t_cmp cv_lt (e_var 1) e_int))))))) (fun hd => ?_) (fun hd => ?_) ?_
  · have hd' : s < 0 ∨ (s = 0 ∧ t < 0) := by simpa using hd
    refine s_asg 2 sc_law_line.nd (e_sub e_int (e_var 2)) (s_nil ?_)
    show _ = _
    rw [if_pos hd']
    rfl
  · have hd' : ¬ (s < 0 ∨ (s = 0 ∧ t < 0)) := by
      intro w
      have : (decide (s < 0) || (decide (s = 0) && decide (t < 0))) = true := by simpa using w
      have hd2 : (decide (s < 0) || (decide (s = 0) && decide (t < 0))) = false := hd
      rw [this] at hd2
      cases hd2
    refine s_nil ?_
    show _ = _
    rw [if_neg hd']
    rfl
  rintro Γ' rfl
  by_cases hd : s < 0 ∨ (s = 0 ∧ t < 0)
  · rw [if_pos hd, if_pos hd]
    have n0 : Sm 60 (0 - gcI s t) := by rw [Int.zero_sub]; exact gs'.neg
    exact s_ret (e_tup2 (b1 := true) (b2 := true) (e_fdiv (e_var 0) (e_var 2) (n0.div (by omega))) (e_fdiv (e_var 1) (e_var 2) (n0.div (by omega)))) rfl
  · rw [if_neg hd, if_neg hd]
    exact s_ret (e_tup2 (b1 := true) (b2 := true) (e_fdiv (e_var 0) (e_var 2) (gs'.div g0)) (e_fdiv (e_var 1) (e_var 2) (gs'.div g0))) rfl
def bdL (c : Int) : Int := if (c.fdiv 7).fmod 4 = 0 then 1000000000000 else 1000
def lnS (c o : Int) : Nat → List (Int × Int) × Int × Int
  | 0 => ([(1, 0), (0, 1)], c, o)
  | i + 1 => ((lnS c o i).1 ++ [lnN ((lnS c o i).2.1.fmod (2 * bdL (lnS c o i).2.1 - 1) - bdL (lnS c o i).2.1 + 1) ((lnS c o i).2.2.fmod (2 * bdL (lnS c o i).2.1 - 1) - bdL (lnS c o i).2.1 + 1)], (lnS c o i).2.1.fdiv (3 * bdL (lnS c o i).2.1), (lnS c o i).2.2.fdiv (3 * bdL (lnS c o i).2.1))
def lnsF (c o : Int) : List (Int × Int) := (lnS c o 4).1
theorem bdL_ok (c : Int) : bdL c = 1000 ∨ bdL c = 1000000000000 := by
  unfold bdL
  split
  · exact .inr rfl
  · exact .inl rfl
theorem st_sm {x c : Int} : Sm 44 (x.fmod (2 * bdL c - 1) - bdL c + 1) := by
  have h := bdL_ok c
  have hm := fmod_pos (a := x) (b := 2 * bdL c - 1) (by rcases h with e | e <;> rw [e] <;> decide)
  show _ < 2 ^ 44
  rcases h with e | e <;> rw [e] at hm ⊢ <;> omega
theorem lnS_ok (c o : Int) : ∀ i, (lnS c o i).1.length = 2 + i ∧ ∀ l ∈ (lnS c o i).1, Nv [l.1, l.2] ∧ Sm 45 l.1 ∧ Sm 45 l.2
  | 0 => ⟨rfl, fun l hl => by
      have : l = (1, 0) ∨ l = (0, 1) := by simpa [lnS] using hl
      rcases this with e | e <;> rw [e]
      · exact ⟨⟨by decide, by decide⟩, Sm.le (m := 2) (by show (1 : Int).natAbs < _; decide) (by decide), Sm.le (m := 2) (by show (0 : Int).natAbs < _; decide) (by decide)⟩
      · exact ⟨⟨by decide, by decide⟩, Sm.le (m := 2) (by show (0 : Int).natAbs < _; decide) (by decide), Sm.le (m := 2) (by show (1 : Int).natAbs < _; decide) (by decide)⟩⟩
  | i + 1 => by
    obtain ⟨a, b⟩ := lnS_ok c o i
    refine ⟨by show ((lnS c o i).1 ++ _).length = _; rw [List.length_append, a]; rfl, fun l hl => ?_⟩
    rcases List.mem_append.mp (show l ∈ (lnS c o i).1 ++ _ from hl) with z | z
    · exact b l z
    · rw [List.mem_singleton.mp z]
      obtain ⟨n1, n2⟩ := lnN_ok ((lnS c o i).2.1.fmod (2 * bdL (lnS c o i).2.1 - 1) - bdL (lnS c o i).2.1 + 1) ((lnS c o i).2.2.fmod (2 * bdL (lnS c o i).2.1 - 1) - bdL (lnS c o i).2.1 + 1)
      obtain ⟨m1, m2⟩ := n2 45 (by decide) (st_sm.le (by decide)) (st_sm.le (by decide))
      exact ⟨n1, m1, m2⟩
set_option maxHeartbeats 1000000 in
include B in
theorem b_law_lines (c_law_line : Cal P w K mg base 2 "_law_line" ["_law_s", "_law_t"] (sp2 K (fun (s t : Int) => Sm 60 s ∧ Sm 60 t) true lnN)) (c o : Int) : Body P w K mg base N_law_lines "_law_lines" s_law_lines f 2 [.val false c, .val false o] (RT true (lnsF c o)) := by
  intro cdv A outer s H E hr
  refine s_deep 2 sc_law_lines.nd (en_lst (α := Int × Int) (b := true) (ea_cons (e_tup2 (b1 := true) (b2 := true) e_int e_int) (ea_cons (e_tup2 (b1 := true) (b2 := true) e_int e_int) ea_nil)) (by simp)) ?_
  refine s_d2o 2 true rfl ?_
  refine s_forRange (fun i Γ => i ≤ 4 ∧ ∃ b0 b1 r3 r4 r5 r6, Γ = [some (.val b0 (lnS c o i).2.1), some (.val b1 (lnS c o i).2.2), some (.own true (lnS c o i).1), r3, r4, r5, r6]) rfl B.range (g_name 3 sc_law_lines.nd) e_int (by decide) (by decide) ⟨by decide, _, _, none, none, none, none, rfl⟩ ?_ ?_
  · rintro i Γ' hi ⟨hi4, b0, b1, r3, r4, r5, r6, rfl⟩
    obtain ⟨ll, _⟩ := lnS_ok c o i
    have es : lnS c o (i + 1) = ((lnS c o i).1 ++ [lnN ((lnS c o i).2.1.fmod (2 * bdL (lnS c o i).2.1 - 1) - bdL (lnS c o i).2.1 + 1) ((lnS c o i).2.2.fmod (2 * bdL (lnS c o i).2.1 - 1) - bdL (lnS c o i).2.1 + 1)], (lnS c o i).2.1.fdiv (3 * bdL (lnS c o i).2.1), (lnS c o i).2.2.fdiv (3 * bdL (lnS c o i).2.1)) := rfl
    rw [es]
    generalize lnS c o i = st at *
    obtain ⟨G, x, y⟩ := st
    dsimp only at *
    refine s_asg 4 sc_law_lines.nd e_int ?_
    refine s_ifJ (fun Γ => Γ = [some (.val b0 x), some (.val b1 y), some (.own true G), some (.val true (i : Int)), some (.val true (bdL x)), r5, r6]) (t_cmp cv_eqI (e_mod (e_fdiv (e_var 0) e_int cdK) e_int (by decide)) e_int) (fun hc => ?_) (fun hc => ?_) ?_
    · have e1 : bdL x = 1000000000000 := by unfold bdL; rw [if_pos (of_decide_eq_true hc)]
      rw [e1]
      refine s_asg 4 sc_law_lines.nd (e_eq (a' := (1000000000000 : Int)) (e_pow e_int e_int cpK) (by decide)) (s_nil rfl)
    · have e1 : bdL x = 1000 := by unfold bdL; rw [if_neg (of_decide_eq_false hc)]
      rw [e1]
      exact s_nil rfl
    rintro Γ' rfl
    have hb := bdL_ok x
    have bs : Sm 60 (3 * bdL x) := by show _ < 2 ^ 60; rcases hb with e | e <;> rw [e] <;> decide
    have s1 := st_sm (x := x) (c := x)
    have s2 := st_sm (x := y) (c := x)
    refine s_asg 5 sc_law_lines.nd (e_add (e_sub (e_mod (e_var 0) (e_sub (e_mul e_int (e_var 4) (mulL (by decide) (by decide))) e_int) (by rcases hb with e | e <;> rw [e] <;> decide)) (e_var 4)) e_int) ?_
    refine s_asg 6 sc_law_lines.nd (e_add (e_sub (e_mod (e_var 1) (e_sub (e_mul e_int (e_var 4) (mulL (by decide) (by decide))) e_int) (by rcases hb with e | e <;> rw [e] <;> decide)) (e_var 4)) e_int) ?_
    refine s_append 2 rfl (e_call2 c_law_line (hr.mono (by decide)) rfl (e_var 5) (e_var 6) ⟨s1.le (by decide), s2.le (by decide)⟩) (by omega) ?_
    refine s_asg 0 sc_law_lines.nd (e_fdiv (e_var 0) (e_mul e_int (e_var 4) (mulL (by decide) (by decide))) (bs.div (by rcases hb with e | e <;> rw [e] <;> decide))) ?_
    refine s_asg 1 sc_law_lines.nd (e_fdiv (e_var 1) (e_mul e_int (e_var 4) (mulL (by decide) (by decide))) (bs.div (by rcases hb with e | e <;> rw [e] <;> decide))) ?_
    exact s_nil ⟨by omega, _, _, _, _, _, _, rfl⟩
  · rintro Γ' ⟨_, b0, b1, r3, r4, r5, r6, rfl⟩
    refine s_freeze 2 rfl ?_
    exact s_ret (e_var 2) rfl
include B in
theorem b_law_first (z : List Int) (lz : z.length = 3) (nz : fsV z ≠ 0) : Body P w K mg base N_law_first "_law_first" s_law_first f k [.val false z] (RT true (fpI z)) := by
  intro cdv A outer s H E hr
  obtain ⟨a, b, c, rfl⟩ : ∃ a b c, z = [a, b, c] := by
    match z, lz with
    | [a, b, c], _ => exact ⟨a, b, c, rfl⟩
  have ef : fsV [a, b, c] = if a = 0 then (if b = 0 then (if c = 0 then 0 else c) else b) else a := rfl
  have ep : fpV [a, b, c] = if a = 0 then (if b = 0 then (if c = 0 then 0 + 1 else 0) + 1 else 0) + 1 else 0 := rfl
  refine s_forRange (fun i Γ => i ≤ 3 ∧ (∀ j, j < i → [a, b, c].getD j 0 = 0) ∧ ∃ r1, Γ = [some (.val false [a, b, c]), r1]) rfl B.range (g_name 1 sc_law_first.nd) e_int (by decide) (by decide) ⟨by decide, fun j hj => absurd hj (Nat.not_lt_zero j), none, rfl⟩ ?_ ?_
  · rintro i Γ' hi ⟨hi3, hz, r1, rfl⟩
    have hi' : i < 3 := hi
    refine s_if1 (t_cmp cv_neI (e_ixL (e_var 0) (e_var 1) (at_nat (d := 0) (show i < [a, b, c].length from hi'))) e_int) (fun hc => ?_) (fun hc => ?_)
    · have h1 : [a, b, c].getD i 0 ≠ 0 := by simpa using hc
      have : fpI [a, b, c] = (i : Int) := by
        unfold fpI
        rw [ep]
        match i, hi', hz, h1 with
        | 0, _, _, h1 => rw [if_neg (show ¬ a = 0 from h1)]
        | 1, _, hz, h1 => rw [if_pos (show a = 0 from hz 0 (by decide)), if_neg (show ¬ b = 0 from h1)]
        | 2, _, hz, h1 => rw [if_pos (show a = 0 from hz 0 (by decide)), if_pos (show b = 0 from hz 1 (by decide)), if_neg (show ¬ c = 0 from h1)]
      rw [this]
      exact s_ret (e_var 1) rfl
    · have h1 : [a, b, c].getD i 0 = 0 := by simpa using hc
      refine s_nil ⟨by omega, fun j hj => ?_, _, rfl⟩
      by_cases q : j = i
      · rw [q]; exact h1
      · exact hz j (by omega)
  · rintro Γ' ⟨_, hz, r1, rfl⟩
    exfalso
    have h0 : a = 0 := hz 0 (by decide)
    have h1 : b = 0 := hz 1 (by decide)
    have h2 : c = 0 := hz 2 (by decide)
    rw [ef, if_pos h0, if_pos h1, if_pos h2] at nz
    exact nz rfl

open _root_.EP (lieV)
def liQ (r z : List Int) (l : Int × Int) (y : List Int) : Bool := lieV r z y l.1 l.2
structure PLi (r z : List Int) (l : Int × Int) (y : List Int) : Prop where
  lr : r.length = 3
  lz : z.length = 3
  ly : y.length = 3
  nz : fsV z ≠ 0
  sr : ∀ a ∈ r, Sm 100 a
  sz : ∀ a ∈ z, Sm 100 a
  sy : ∀ a ∈ y, Sm 500 a
  s1 : Sm 100 l.1
  s2 : Sm 100 l.2
theorem len3 {z : List Int} (lz : z.length = 3) : ∃ a b c, z = [a, b, c] := by
  match z, lz with
  | [a, b, c], _ => exact ⟨a, b, c, rfl⟩
theorem oth {h : Nat} (hh : h < 3) : ∃ i j : Nat, i < 3 ∧ j < 3 ∧ ((seqI 0 1 3).filter fun k : Int => !decide (k = (h : Int))).map (fun k : Int => k) = [(i : Int), (j : Int)] ∧ (∀ v : List Int, v.length = 3 → v.eraseIdx h = [v.getD i 0, v.getD j 0]) := by
  match h, hh with
  | 0, _ => exact ⟨1, 2, by decide, by decide, by decide, fun v hv => by obtain ⟨a, b, c, rfl⟩ := len3 hv; rfl⟩
  | 1, _ => exact ⟨0, 2, by decide, by decide, by decide, fun v hv => by obtain ⟨a, b, c, rfl⟩ := len3 hv; rfl⟩
  | 2, _ => exact ⟨0, 1, by decide, by decide, by decide, fun v hv => by obtain ⟨a, b, c, rfl⟩ := len3 hv; rfl⟩
set_option maxHeartbeats 1000000 in
include B in
theorem b_law_lies (c_law_first : Cal P w K mg base 1 "_law_first" ["_law_zero"] (sp1 K (fun (z : List Int) => z.length = 3 ∧ fsV z ≠ 0) true fpI)) (r z : List Int) (l : Int × Int) (y : List Int) (hp : PLi r z l y) : Body P w K mg base N_law_lies "_law_lies" s_law_lies f 1 [.val false r, .val false z, .val false l, .val false y] (RT true (liQ r z l y)) := by
  intro cdv A outer s H E hr
  obtain ⟨s0, t0⟩ := l
  have lr := hp.lr
  have lz := hp.lz
  have ly := hp.ly
  obtain ⟨f1, f2⟩ := _root_.EP.fpV_at hp.nz
  have hh : fpV z < 3 := by omega
  obtain ⟨i, j, hi, hj, eo, er⟩ := oth hh
  have a : ∀ {v : List Int} {k : Nat}, v.length = 3 → k < 3 → atI v (k : Int) = some (v.getD k 0) := fun h1 h2 => at_nat (by omega)
  have mz : ∀ k, k < 3 → Sm 100 (z.getD k 0) := fun k hk => hp.sz _ (_root_.EP.getD_mem (by omega))
  have my : ∀ k, k < 3 → Sm 500 (y.getD k 0) := fun k hk => hp.sy _ (_root_.EP.getD_mem (by omega))
  have mr : ∀ k, k < 3 → Sm 100 (r.getD k 0) := fun k hk => hp.sr _ (_root_.EP.getD_mem (by omega))
  have edV : ∀ k, k < 3 → (dV z y).getD k 0 = y.getD k 0 * z.getD (fpV z) 0 - z.getD k 0 * y.getD (fpV z) 0 := fun k hk => by
    obtain ⟨z0, z1, z2, ez⟩ := len3 lz
    obtain ⟨y0, y1, y2, ey⟩ := len3 ly
    unfold _root_.EP.dV
    generalize fpV z = h at *
    subst ez; subst ey
    match k, hk with
    | 0, _ => show _ * y0 - _ * z0 = y0 * _ - z0 * _; rw [Int.mul_comm y0, Int.mul_comm z0]
    | 1, _ => show _ * y1 - _ * z1 = y1 * _ - z1 * _; rw [Int.mul_comm y1, Int.mul_comm z1]
    | 2, _ => show _ * y2 - _ * z2 = y2 * _ - z2 * _; rw [Int.mul_comm y2, Int.mul_comm z2]
  have ldv : (dV z y).length = 3 := by unfold _root_.EP.dV; rw [List.length_map, List.length_zip]; omega
  have e1 : (dV z y).eraseIdx (fpV z) = [y.getD i 0 * z.getD (fpV z) 0 - z.getD i 0 * y.getD (fpV z) 0, y.getD j 0 * z.getD (fpV z) 0 - z.getD j 0 * y.getD (fpV z) 0] := by rw [er _ ldv, edV i hi, edV j hj]
  have e2 : slV r z = [r.getD i 0 * z.getD i 0, r.getD j 0 * z.getD j 0] := by
    unfold _root_.EP.slV
    rw [er _ (by rw [List.length_map, List.length_zip]; omega)]
    obtain ⟨z0, z1, z2, rfl⟩ := len3 lz
    obtain ⟨r0, r1, r2, rfl⟩ := len3 lr
    have key : ∀ k, k < 3 → (([r0, r1, r2].zip [z0, z1, z2]).map fun u : Int × Int => u.1 * u.2).getD k 0 = [r0, r1, r2].getD k 0 * [z0, z1, z2].getD k 0 := fun k hk => by
      match k, hk with
      | 0, _ => rfl
      | 1, _ => rfl
      | 2, _ => rfl
    rw [key i hi, key j hj]
  refine s_asg 4 sc_law_lies.nd (e_call1 c_law_first (hr.mono (by decide)) rfl (e_var 1) ⟨lz, hp.nz⟩) ?_
  refine s_asg2L (u := (i : Int)) (v := (j : Int)) (b := true) 5 6 sc_law_lies.nd (e_eq (a' := [(i : Int), (j : Int)]) (e_compF (as := seqI 0 1 (Int.toNat 3)) (f := fun k : Int => k) (p := fun k : Int => !decide (k = fpI z)) (b' := true) ["_law_k"] [4] (cscope (defScope s_law_lies) N_law_lies rfl rfl (by decide +kernel)) (ei_range rfl B.range e_int (by decide) (by decide)) (gp_name 0) (fun C s H fp => pg_cn 0 ["_law_k", "_law_h"]) lt_of_eq (fun a u hu C s H fp => ft_one (t_cmp cv_neI (e_var 0) (e_var 1))) (fun a u hu _ C s H fp => e_up (b' := true) (e_var 0)) (by rw [seqI_len]; decide)) eo) ?_
  refine s_asg 7 sc_law_lies.nd (e_sub (e_mul (e_ixL (e_var 3) (e_var 5) (a ly hi)) (e_ixL (e_var 1) (e_var 4) (a lz hh)) ((my i hi).ok (mz _ hh))) (e_mul (e_ixL (e_var 1) (e_var 5) (a lz hi)) (e_ixL (e_var 3) (e_var 4) (a ly hh)) ((mz i hi).ok (my _ hh)))) ?_
  refine s_asg 8 sc_law_lies.nd (e_sub (e_mul (e_ixL (e_var 3) (e_var 6) (a ly hj)) (e_ixL (e_var 1) (e_var 4) (a lz hh)) ((my j hj).ok (mz _ hh))) (e_mul (e_ixL (e_var 1) (e_var 6) (a lz hj)) (e_ixL (e_var 3) (e_var 4) (a ly hh)) ((mz j hj).ok (my _ hh)))) ?_
  have sS : ∀ k, k < 3 → Sm 601 (y.getD k 0 * z.getD (fpV z) 0 - z.getD k 0 * y.getD (fpV z) 0) := fun k hk => (((my k hk).mul (mz _ hh)).sub ((mz k hk).mul (my _ hh))).le (by decide)
  have sSi := sS i hi
  have sSj := sS j hj
  unfold liQ _root_.EP.lieV
  rw [e1, e2]
  generalize y.getD i 0 * z.getD (fpV z) 0 - z.getD i 0 * y.getD (fpV z) 0 = U at *
  generalize y.getD j 0 * z.getD (fpV z) 0 - z.getD j 0 * y.getD (fpV z) 0 = W at *
  refine s_if1 (TW.t (tw_and (t_cmp cv_eqI (e_var 7) e_int) fun _ => (tw_and1 (t_cmp cv_eqI (e_var 8) e_int)))) (fun hc => ?_) (fun hc => ?_)
  · have hc' : U = 0 ∧ W = 0 := by
      have : (decide (U = 0) && decide (W = 0)) = true := hc
      simpa using this
    rw [if_pos (by rw [hc'.1, hc'.2])]
    refine s_asg 9 sc_law_lies.nd (e_mul (e_mul (e_ixL (e_var 0) (e_var 5) (a lr hi)) (e_ixL (e_var 1) (e_var 5) (a lz hi)) ((mr i hi).ok (mz i hi))) (e_fst (e_var 2)) (((mr i hi).mul (mz i hi)).ok hp.s1)) ?_
    exact s_ret (e_cmp cv_eqI (e_add (e_var 9) (e_mul (e_mul (e_ixL (e_var 0) (e_var 6) (a lr hj)) (e_ixL (e_var 1) (e_var 6) (a lz hj)) ((mr j hj).ok (mz j hj))) (e_snd (e_var 2)) (((mr j hj).mul (mz j hj)).ok hp.s2))) e_int) rfl
  · have hc' : ¬ [U, W] = [0, 0] := fun w => by
      injection w with w1 w2
      injection w2 with w2 _
      have : (decide (U = 0) && decide (W = 0)) = false := hc
      rw [w1, w2] at this
      cases this
    rw [if_neg hc']
    exact s_ret (e_cmp cv_eqI (e_mul (e_var 7) (e_snd (e_var 2)) (sSi.ok hp.s2)) (e_mul (e_var 8) (e_fst (e_var 2)) (sSj.ok hp.s1))) rfl
structure POn (r z : List Int) (l : Int × Int) : Prop where
  rz : Rz r z
  row : isRow r = true
  sz : ∀ a ∈ z, Sm 40 a
  s1 : Sm 90 l.1
  s2 : Sm 90 l.2
  nv : Nv [l.1, l.2]
def oneF (r z : List Int) (l : Int × Int) : Option (List Int) := some (ptF r z l)
theorem pt_sm {r z : List Int} {l : Int × Int} (hp : PPt r z l) {y0 y1 y2 : Int} (en : nrV (ptP r z l.1 l.2) = [y0, y1, y2]) : ∀ x ∈ [y0, y1, y2], Sm 500 x := by
  obtain ⟨a0, a1, a2, z0, z1, z2, er, ez, _⟩ := hp.rz.ex
  have nz := hp.rz.nz
  obtain ⟨f1, f2⟩ := _root_.EP.fpV_at nz
  have lz : z.length = 3 := by rw [ez]; rfl
  have hh : fpV z < 3 := by omega
  obtain ⟨d0, d1, d2, ed⟩ := dir3 hh l.1 l.2
  have sz : ∀ a ∈ z, Sm 100 a := fun a ha => (hp.sz a ha).le (by decide)
  have sd : ∀ a ∈ dirV (fpV z) l.1 l.2, Sm 100 a := fun a ha => by
    rcases dir_mem ha with e | e | e
    · rw [e]; show (0 : Int).natAbs < _; exact Nat.two_pow_pos _
    · rw [e]; exact hp.s1.le (by decide)
    · rw [e]; exact hp.s2.le (by decide)
  have sr := row_sm hp.row
  have m1 := prL_sm (r := r) (x := dirV (fpV z) l.1 l.2) (y := dirV (fpV z) l.1 l.2) ⟨⟨a0, a1, a2, d0, d1, d2, d0, d1, d2, er, ed, ed⟩, sr, sd, sd⟩
  have m2 := prL_sm (r := r) (x := z) (y := dirV (fpV z) l.1 l.2) ⟨⟨a0, a1, a2, z0, z1, z2, d0, d1, d2, er, ez, ed⟩, sr, sz, sd⟩
  have m2' : Sm 304 (2 * prL r z (dirV (fpV z) l.1 l.2)) := (Sm.mul (m := 2) (by show (2 : Int).natAbs < _; decide) m2)
  have sP : ∀ x ∈ ptP r z l.1 l.2, Sm 500 x := fun x hx => by
    obtain ⟨u, hu, rfl⟩ := List.mem_map.mp hx
    obtain ⟨u1, u2⟩ := _root_.EP.mem_zip_l hu
    exact ((m1.mul (sz _ u1)).sub (m2'.mul (sd _ u2))).le (by decide)
  obtain ⟨nv, k, k0, ek⟩ := _root_.EP.nr_ok hp.g
  intro x hx
  rw [en] at ek
  have hm : k * x ∈ ptP r z l.1 l.2 := by rw [ek]; exact List.mem_map.mpr ⟨x, hx, rfl⟩
  refine Sm.of_le ?_ (sP _ hm)
  rw [Int.natAbs_mul]
  exact Nat.le_mul_of_pos_left _ (by omega)
theorem isZ_ok {a0 a1 a2 y0 y1 y2 : Int} (nv : Nv [y0, y1, y2]) (hq : prL [a0, a1, a2] [y0, y1, y2] [y0, y1, y2] = 0) : isZ [a0, a1, a2] [y0, y1, y2] = true := by
  unfold isZ
  rw [Bool.and_eq_true]
  refine ⟨decide_eq_true ?_, decide_eq_true ?_⟩
  · exact nv.g
  · show 0 + a0 * y0 * y0 + a1 * y1 * y1 + a2 * y2 * y2 = 0
    have : a0 * y0 * y0 + (a1 * y1 * y1 + (a2 * y2 * y2 + 0)) = 0 := hq
    omega
set_option maxHeartbeats 1000000 in
include B in
theorem b_law_one (c_point_of : Cal P w K mg base 5 "point_of" ["row", "zero", "line"] (sp3 K PPt false ptF)) (c_line_of : Cal P w K mg base 5 "line_of" ["row", "zero", "point"] (sp3 K PLn true lnF)) (c_law_is_zero : Cal P w K mg base 2 "_law_is_zero" ["_law_row", "_law_zero"] (sp2 K PIz true isZ)) (c_law_first : Cal P w K mg base 1 "_law_first" ["_law_zero"] (sp1 K (fun (z : List Int) => z.length = 3 ∧ fsV z ≠ 0) true fpI)) (c_law_lies : Cal P w K mg base 2 "_law_lies" ["_law_row", "_law_zero", "_law_line_here", "_law_point"] (sp4 K PLi true liQ))
    (r z : List Int) (l : Int × Int) (hp : POn r z l) : Body P w K mg base N_law_one "_law_one" s_law_one f 5 [.val false r, .val false z, .val false l] (RT false (oneF r z l)) := by
  intro cdv A outer s H E hr
  obtain ⟨s0, t0⟩ := l
  obtain ⟨a0, a1, a2, z0, z1, z2, er, ez, _⟩ := hp.rz.ex
  have lr : r.length = 3 := by rw [er]; rfl
  have lz : z.length = 3 := by rw [ez]; rfl
  obtain ⟨y0, y1, y2, g, en, nv, hq, g2, en2, hlie⟩ := _root_.EP.ln_pt hp.rz hp.nv
  have ppt : PPt r z (s0, t0) := ⟨hp.rz, hp.row, hp.sz, hp.s1, hp.s2, g⟩
  have sy := pt_sm ppt en
  have ey : ptF r z (s0, t0) = [y0, y1, y2] := en
  have sr := row_sm hp.row
  have pln : PLn r z [y0, y1, y2] := ⟨hp.rz, hp.row, fun a ha => (hp.sz a ha).le (by decide), sy, rfl, g2⟩
  have eln : lnF r z [y0, y1, y2] = (s0, t0) := by unfold lnF; rw [en2]; rfl
  have pli : PLi r z (s0, t0) [y0, y1, y2] := ⟨lr, lz, rfl, hp.rz.nz, sr, fun a ha => (hp.sz a ha).le (by decide), sy, hp.s1.le (by decide), hp.s2.le (by decide)⟩
  have eli : liQ r z (s0, t0) [y0, y1, y2] = true := hlie
  have piz : PIz r [y0, y1, y2] := ⟨by rw [lr]; rfl, by omega, fun x hx => (sr x hx).le (by decide), fun x hx => (sy x hx).le (by decide)⟩
  have eiz : isZ r [y0, y1, y2] = true := by subst er; exact isZ_ok nv hq
  have fy : fsV [y0, y1, y2] ≠ 0 := by have := nv.f; omega
  obtain ⟨p1, p2⟩ := _root_.EP.fpV_at fy
  have atf : atI [y0, y1, y2] (fpI [y0, y1, y2]) = some (fsV [y0, y1, y2]) := by rw [← p2]; exact at_nat p1
  have fpos := nv.f
  unfold oneF
  rw [ey]
  refine s_asg 3 sc_law_one.nd (e_lst (b := true) (ea_cons (e_listT rfl B.list (e_var 0)) (ea_cons (e_listT rfl B.list (e_var 1)) ea_nil)) (by simp)) ?_
  refine s_asg 4 sc_law_one.nd (e_eq (e_call3 c_point_of (hr.mono (by decide)) rfl (e_ixL (e_var 3) e_int rfl) (e_ixL (e_var 3) e_int rfl) (e_var 2) ppt) ey) ?_
  refine s_if1 (TW.t (tw_or (t_not (t_val (e_call2 c_law_is_zero (hr.mono (by decide)) rfl (e_var 0) (e_var 4) piz))) fun _ => (tw_or (t_cmp cv_lt (e_ixL (e_var 4) (e_call1 c_law_first (hr.mono (by decide)) rfl (e_var 4) ⟨rfl, fy⟩) atf) e_int) fun _ => (tw_or1 (t_cmp (cv_ne (α := List (List Int)) (hu60 hr)) (e_var 3) (e_lst (b := false) (ea_cons (e_var 0) (ea_cons (e_var 1) ea_nil)) (by simp))))))) (fun hc => ?_) (fun _ => ?_)
  · exfalso
    rw [eiz] at hc
    simp at hc
    omega
  refine s_if1 (t_not (t_val (e_call4 c_law_lies (hr.mono (by decide)) rfl (e_var 0) (e_var 1) (e_var 2) (e_var 4) pli))) (fun hc => ?_) (fun _ => ?_)
  · rw [eli] at hc
    cases hc
  refine s_asg 5 sc_law_one.nd (e_eq (e_call3 c_line_of (hr.mono (by decide)) rfl (e_ixL (e_var 3) e_int rfl) (e_ixL (e_var 3) e_int rfl) (e_listT rfl B.list (e_var 4)) pln) eln) ?_
  refine s_if1 (TW.t (tw_or (t_not (t_val (e_is2T rfl B.isinstance rfl B.tuple (e_var 5)))) fun _ => (tw_or (t_cmp (cv_ne (α := Int × Int) (hu60 hr)) (e_var 5) (e_var 2)) fun _ => (tw_or1 (t_cmp (cv_ne (α := List (List Int)) (hu60 hr)) (e_var 3) (e_lst (b := false) (ea_cons (e_var 0) (ea_cons (e_var 1) ea_nil)) (by simp))))))) (fun hc => ?_) (fun _ => ?_)
  · exfalso
    simp at hc
  refine s_if1 (TW.t (tw_or (t_val (e_isIB rfl B.isinstance rfl B.bool (e_fst (e_var 5)))) fun _ => (tw_or1 (t_val (e_isIB rfl B.isinstance rfl B.bool (e_snd (e_var 5))))))) (fun hc => absurd hc (by decide)) (fun _ => ?_)
  exact s_ret (α := Option (List Int)) (a := some [y0, y1, y2]) (e_some (e_var 4)) rfl
theorem rs_3d {n : Int} {i : Nat} {m : Int} (hn : n ≤ m) (h : i < (Builtin.Range.rangeSize 0 n 3).toNat) : (0 : Int) + (i : Int) * 3 < m := by
  unfold Builtin.Range.rangeSize at h
  simp at h
  split at h <;> omega
set_option maxHeartbeats 2000000 in
include B in
theorem b_law (c_line_of : Cal P w K mg base 5 "line_of" ["row", "zero", "point"] (sp3 K PLn true lnF)) (c_law_cell_at : Cal P w K mg base 1 "_law_cell_at" ["_law_script", "_law_k"] (sp2 K (fun _ k => 0 ≤ k) true dcell)) (c_law_big : Cal P w K mg base 1 "_law_big" ["_law_cell", "_law_k"] (sp2 K (fun _ k => 0 ≤ k ∧ k ≤ 100) true bg9)) (c_law_drawn : Cal P w K mg base 1 "_law_drawn" ["_law_cell", "_law_other"] (sp2 K (fun (_ _ : Int) => True) true drF))
    (c_law_lines : Cal P w K mg base 3 "_law_lines" ["_law_cell", "_law_other"] (sp2 K (fun (_ _ : Int) => True) true lnsF)) (c_law_first : Cal P w K mg base 1 "_law_first" ["_law_zero"] (sp1 K (fun (z : List Int) => z.length = 3 ∧ fsV z ≠ 0) true fpI)) (c_law_one : Cal P w K mg base 6 "_law_one" ["_law_row", "_law_zero", "_law_line_here"] (sp3 K POn false oneF)) (xs : List Int) (hl : xs.length ≤ 63) : Body P w K mg base N_law "law" s_law f 6 [.val false xs] (RT true true) := by
  intro cdv A outer s H E hr
  have hl' : (if (xs.length : Int) < 18 then (xs.length : Int) else 18) ≤ 18 ∧ 0 ≤ (if (xs.length : Int) < 18 then (xs.length : Int) else 18) := by split <;> omega
  refine s_forRange3 (fun i Γ => ∃ r1 r2 r3 r4 r5 r6 r7 r8, Γ = [some (.val false xs), r1, r2, r3, r4, r5, r6, r7, r8]) rfl B.range (g_name 1 sc_law.nd) e_int (e_add (e_min rfl rfl B.min e_int (e_lenL rfl B.len (e_var 0))) e_int) e_int ⟨by decide, by decide, by omega, by omega⟩ (by decide) ⟨none, none, none, none, none, none, none, none, rfl⟩ ?_ ?_
  · rintro i Γ' hi ⟨r1, r2, r3, r4, r5, r6, r7, r8, rfl⟩
    have hi' := rs_3d (m := 19) (by omega) hi
    refine s_comp (b' := true) (f := fun j : Int => bg9 (dcell xs ((0 : Int) + (i : Int) * 3 + j)) ((0 : Int) + (i : Int) * 3 + j)) 2 sc_law.nd ["_law_j"] [0, 1] (cscope (defScope s_law) N_law rfl rfl (by decide +kernel)) (ei_range rfl B.range e_int (by decide) (by decide)) (gp_name 0) (fun C s H fp => pg_cn 0 ["_law_j", "_law_script", "_law_k"]) lt_of_eq (fun a t ht C s H fp => ?_) (by rw [seqI_len]; decide) ?_
    · obtain ⟨t1, t2⟩ := seqI_get ht
      have t3 : a < 3 := t1
      exact e_call2 c_law_big (hr.mono (by decide)) rfl (e_call2 c_law_cell_at (hr.mono (by decide)) rfl (e_var 1) (e_add (e_var 2) (e_var 0)) (by omega)) (e_add (e_var 2) (e_var 0)) ⟨by omega, by omega⟩
    have ec : (seqI 0 1 (Int.toNat 3)).map (fun j : Int => bg9 (dcell xs ((0 : Int) + (i : Int) * 3 + j)) ((0 : Int) + (i : Int) * 3 + j)) = [bg9 (dcell xs ((0 : Int) + (i : Int) * 3 + (0 + 0 * 1))) ((0 : Int) + (i : Int) * 3 + (0 + 0 * 1)), bg9 (dcell xs ((0 : Int) + (i : Int) * 3 + (0 + 1 * 1))) ((0 : Int) + (i : Int) * 3 + (0 + 1 * 1)), bg9 (dcell xs ((0 : Int) + (i : Int) * 3 + (0 + 2 * 1))) ((0 : Int) + (i : Int) * 3 + (0 + 2 * 1))] := rfl
    rw [ec]
    generalize bg9 (dcell xs ((0 : Int) + (i : Int) * 3 + (0 + 0 * 1))) ((0 : Int) + (i : Int) * 3 + (0 + 0 * 1)) = c0
    generalize bg9 (dcell xs ((0 : Int) + (i : Int) * 3 + (0 + 1 * 1))) ((0 : Int) + (i : Int) * 3 + (0 + 1 * 1)) = c1
    generalize bg9 (dcell xs ((0 : Int) + (i : Int) * 3 + (0 + 2 * 1))) ((0 : Int) + (i : Int) * 3 + (0 + 2 * 1)) = c2
    refine s_asg2 3 4 sc_law.nd (e_call2 c_law_drawn (hr.mono (by decide)) rfl (e_ixL (e_var 2) e_int rfl) (e_ixL (e_var 2) e_int rfl) True.intro) ?_
    have hd := drF_ok c0 c1
    have gz := hd.g
    obtain ⟨rz, row, sz, sr, lr, lz⟩ := hd.rz
    generalize (drF c0 c1).1 = R at *
    generalize (drF c0 c1).2 = Z at *
    refine s_deep 5 sc_law.nd (en_dnewQ (β := Int × Int)) ?_
    have key : ∀ l ∈ lnsF c1 c2, POn R Z l ∧ lnF R Z (ptF R Z l) = l := fun l hl => by
      obtain ⟨n1, n2, n3⟩ := (lnS_ok c1 c2 4).2 l hl
      obtain ⟨y0, y1, y2, g, en, nv, hq, g2, en2, hlie⟩ := _root_.EP.ln_pt rz n1
      refine ⟨⟨rz, row, sz, n2.le (by decide), n3.le (by decide), n1⟩, ?_⟩
      have ey : ptF R Z l = [y0, y1, y2] := en
      rw [ey]
      unfold lnF
      rw [en2]
      rfl
    refine s_forL (fun n Γ => ∃ (d : Dq (Int × Int)) (r6 r7 r8 : Option Bd), d.l.length ≤ n ∧ (∀ u ∈ d.l, lnF R Z u.1 = u.2) ∧ Γ = [some (.val false xs), some (.val true ((0 : Int) + (i : Int) * 3)), some (.val true [c0, c1, c2]), some (.val true R), some (.val true Z), some (.dpo d), r6, r7, r8]) (g_name 6 sc_law.nd) (e_call2 c_law_lines (hr.mono (by decide)) rfl (e_ixL (e_var 2) e_int rfl) (e_ixL (e_var 2) e_int rfl) True.intro) ⟨Dq.mk [], _, _, _, Nat.le_refl 0, (fun u hu => by cases hu), rfl⟩ ?_ ?_
    · rintro n l Γ' hl2 ⟨d, r6, r7, r8, dl, di, rfl⟩
      obtain ⟨pon, eln⟩ := key l (mem_at hl2)
      have hn : n < 6 := by
        have h1 := (List.getElem?_eq_some_iff.mp hl2).1
        have h2 := (lnS_ok c1 c2 4).1
        have h3 : (lnsF c1 c2).length = 6 := h2
        omega
      refine s_asg 7 sc_law.nd (e_call3 c_law_one (hr.mono (by decide)) rfl (e_var 3) (e_var 4) (e_var 6) pon) ?_
      have eg : (d.val (ptF R Z l)).getD l = l := by
        cases ev : d.val (ptF R Z l) with
        | none => rfl
        | some c =>
          unfold Dq.val at ev
          obtain ⟨u, hu, hu2⟩ := Option.map_eq_some_iff.mp ev
          have m := List.mem_of_find?_eq_some hu
          have k := List.find?_some hu
          have ku : u.1 = ptF R Z l := of_decide_eq_true k
          have := di u m
          rw [ku, eln] at this
          show c = l
          rw [← hu2, ← this]
      refine s_if1 (TW.t (tw_or (t_isN (α := List Int) (x := some (ptF R Z l)) (e_var 7) notNonL) fun _ => (tw_or1 (t_cmp (cv_ne (α := Int × Int) (hu60 hr)) (e_dgetQ (k := TupP.mk (ptF R Z l)) 5 (hu60 hr) rfl (e_tupleP rfl B.tuple (e_get (a := ptF R Z l) (e_var 7))) (e_var 6)) (e_var 6))))) (fun hc => ?_) (fun _ => ?_)
      · exfalso
        have hc' : ((some (ptF R Z l)).isNone || !decide ((d.val (ptF R Z l)).getD l = l)) = true := hc
        rw [eg] at hc'
        simp at hc'
      refine s_dputQ (k := TupP.mk (ptF R Z l)) 5 (hu60 hr) rfl (e_tupleP rfl B.tuple (e_get (a := ptF R Z l) (e_var 7))) (e_var 6) (by omega) ?_
      refine s_nil ⟨d.put (ptF R Z l) l, _, _, _, ?_, fun u hu => ?_, rfl⟩
      · unfold Dq.put
        dsimp only
        split
        · rw [List.length_map]; omega
        · rw [List.length_append]; show _ + 1 ≤ _; omega
      · unfold Dq.put at hu
        dsimp only at hu
        split at hu
        · obtain ⟨u0, h0, e0⟩ := List.mem_map.mp hu
          split at e0
          · rename_i ek
            rw [← e0]
            show lnF R Z u0.1 = l
            rw [ek]; exact eln
          · rw [← e0]; exact di u0 h0
        · rcases List.mem_append.mp hu with e | e
          · exact di u e
          · rw [List.mem_singleton.mp e]; exact eln
    · rintro Γ' ⟨d, r6, r7, r8, dl, di, rfl⟩
      have hz0 := rz.nz
      obtain ⟨f1, f2⟩ := _root_.EP.fpV_at hz0
      have atz : atI Z (fpI Z) = some (fsV Z) := by rw [← f2]; exact at_nat f1
      obtain ⟨z0, z1, z2, ez⟩ := len3 lz
      have emap : (Z.map fun k : Int => 0 - k) = Z.map ((-1) * ·) := List.map_congr_left fun k _ => by show 0 - k = (-1) * k; omega
      have hY : Nv (if fsV Z < 0 then Z.map (fun k : Int => 0 - k) else Z) ∧ (∃ y0 y1 y2, (if fsV Z < 0 then Z.map (fun k : Int => 0 - k) else Z) = [y0, y1, y2]) ∧ (∀ a ∈ (if fsV Z < 0 then Z.map (fun k : Int => 0 - k) else Z), Sm 40 a) ∧ prL R (if fsV Z < 0 then Z.map (fun k : Int => 0 - k) else Z) (if fsV Z < 0 then Z.map (fun k : Int => 0 - k) else Z) = 0 := by
        obtain ⟨a0, a1, a2, w0, w1, w2, er, ew, _, _, _, hq⟩ := rz.ex
        subst er
        split
        · rename_i hn
          refine ⟨⟨by rw [emap, _root_.EP.gc_scale, gz]; rfl, by rw [emap, _root_.EP.fs_scale (by decide)]; omega⟩, ⟨0 - z0, 0 - z1, 0 - z2, by rw [ez]; rfl⟩, fun a ha => ?_, ?_⟩
          · obtain ⟨k, hk, rfl⟩ := List.mem_map.mp ha
            rw [Int.zero_sub]; exact (sz k hk).neg
          · rw [ew]
            show a0 * (0 - w0) * (0 - w0) + (a1 * (0 - w1) * (0 - w1) + (a2 * (0 - w2) * (0 - w2) + 0)) = 0
            have e : ∀ a w : Int, a * (0 - w) * (0 - w) = a * w * w := fun a w => by grind
            rw [e, e, e]
            omega
        · rename_i hn
          refine ⟨⟨gz, by omega⟩, ⟨z0, z1, z2, ez⟩, sz, ?_⟩
          rw [ew]
          show a0 * w0 * w0 + (a1 * w1 * w1 + (a2 * w2 * w2 + 0)) = 0
          omega
      generalize hYe : (if fsV Z < 0 then Z.map (fun k : Int => 0 - k) else Z) = Y at *
      obtain ⟨nvY, y3, sY, qY⟩ := hY
      obtain ⟨s0, t0, gd, l2, en, nst, g2, ep⟩ := _root_.EP.pt_ln rz y3 qY nvY
      have lY : Y.length = 3 := by obtain ⟨a, b, c, e⟩ := y3; rw [e]; rfl
      have hst := nr_sm l2 gd (d2_sm lr lz lY hz0 sr sz sY) en
      have eln : lnF R Z Y = (s0, t0) := by unfold lnF; rw [en]; rfl
      have pln : PLn R Z Y := ⟨rz, row, fun a ha => (sz a ha).le (by decide), fun a ha => (sY a ha).le (by decide), lY, gd⟩
      have pon : POn R Z (s0, t0) := ⟨rz, row, sz, hst.1.le (by decide), hst.2.le (by decide), nst⟩
      have eone : oneF R Z (s0, t0) = some Y := by unfold oneF; congr 1
      refine s_asg 8 sc_law.nd (e_listT rfl B.list (e_var 4)) ?_
      refine s_ifJ (fun Γ => Γ = [some (.val false xs), some (.val true ((0 : Int) + (i : Int) * 3)), some (.val true [c0, c1, c2]), some (.val true R), some (.val true Z), some (.dpo d), r6, r7, some (.val true Y)]) (t_cmp cv_lt (e_ixL (e_var 8) (e_call1 c_law_first (hr.mono (by decide)) rfl (e_var 8) ⟨lz, hz0⟩) atz) e_int) (fun hc => ?_) (fun hc => ?_) ?_
      · have hc' : fsV Z < 0 := of_decide_eq_true hc
        rw [if_pos hc'] at hYe
        refine s_comp (b' := true) (f := fun k : Int => 0 - k) 8 sc_law.nd ["_law_number"] [] (cscope (defScope s_law) N_law rfl rfl (by decide +kernel)) (ei_list (e_var 4)) (gp_name 0) (fun C s H fp => pg_cn 0 ["_law_number"]) lt_of_eq (fun a t ht C s H fp => e_sub e_int (e_var 0)) (by omega) ?_
        rw [hYe]
        exact s_nil rfl
      · have hc' : ¬ fsV Z < 0 := of_decide_eq_false hc
        rw [if_neg hc'] at hYe
        rw [← hYe]
        exact s_nil rfl
      rintro Γ' rfl
      refine s_if1 (t_cmp (cv_ne (α := List Int) (hu60 hr)) (e_getO (e_call3 c_law_one (hr.mono (by decide)) rfl (e_var 3) (e_var 4) (e_eq (e_call3 c_line_of (hr.mono (by decide)) rfl (e_var 3) (e_var 4) (e_var 8) pln) eln) pon) eone) (e_var 8)) (fun hc => ?_) (fun _ => ?_)
      · exfalso
        simp at hc
      · exact s_nil ⟨_, _, _, _, _, _, _, _, rfl⟩
  · rintro Γ' ⟨r1, r2, r3, r4, r5, r6, r7, r8, rfl⟩
    exact s_ret e_bl rfl

end
end L2.EP.K

namespace L2.EP.K
open PySem PySem.Spec PyProof.Rows
open _root_.EP (fr fd)
open _root_.EP (gcV fsV fpV wdV nrV prL ptP dV slV d2V dirV Rz Nv)
open _root_.EP (lieV)
set_option maxHeartbeats 0 in
theorem fin {lp : Program} {w : World} {K : PySem.W.Frag} {h : Heap} {mg : Str → Option Value} {fa : Addr} (X : K.In h) (G : h.Ns mainGlobals mg) (hfa : mg "law" = some (.ref fa)) (B : Bu mg)
    (g_GREAT_FROM : MgI mg "GREAT_FROM" 1073741824) (g_LONGEST : MgI mg "LONGEST" 8) (d_is_whole : Df K "is_whole" s_is_whole) (d_common_divisor : Df K "common_divisor" s_common_divisor) (d_is_row_number : Df K "is_row_number" s_is_row_number) (d_is_row : Df K "is_row" s_is_row) (d_refuse_no_row : Df K "refuse_no_row" s_refuse_no_row) (d_without_divisor : Df K "without_divisor" s_without_divisor) (d_first_place : Df K "first_place" s_first_place) (d_first_above_nought : Df K "first_above_nought" s_first_above_nought) (d_product_of : Df K "product_of" s_product_of) (d_point_of : Df K "point_of" s_point_of) (d_line_of : Df K "line_of" s_line_of) (d_law_cell_at : Df K "_law_cell_at" s_law_cell_at) (d_law_big : Df K "_law_big" s_law_big) (d_law_common : Df K "_law_common" s_law_common) (d_law_is_zero : Df K "_law_is_zero" s_law_is_zero) (d_law_drawn : Df K "_law_drawn" s_law_drawn) (d_law_line : Df K "_law_line" s_law_line) (d_law_lines : Df K "_law_lines" s_law_lines) (d_law_first : Df K "_law_first" s_law_first) (d_law_lies : Df K "_law_lies" s_law_lies) (d_law_one : Df K "_law_one" s_law_one) (d_law : Df K "law" s_law) :
    ∃ fd : FuncData, (∀ (s : Shared) (u : Value), BindsTo s fd ⟨[u], []⟩ [("_law_script", u)]) ∧ ∀ base : Heap, K.In base → base.Ns mainGlobals mg → FnOk lp w K mg base CX0 7 fa fd ["_law_script"] (spLaw K) := by
  refine law_end d_law X G hfa (fun _ _ _ _ _ _ s u => .of_eq rfl) fun base _ _ f fd F => ?_
  have c_is_whole : Cal lp w K mg base 1 "is_whole" ["k"] (sp1 K (fun (_ : Int) => True) true (fun _ => true)) := d_is_whole.cal X G (fun _ _ _ _ _ _ us hl => match us, hl with | [_], _ => rfl) fun f fd F => fn1 F sc_is_whole rfl fun a _ => b_is_whole B a
  have c_common_divisor : Cal lp w K mg base 1 "common_divisor" ["a", "b"] (sp2 K (fun _ _ => True) true fun a b => ((Int.gcd a b : Nat) : Int)) := d_common_divisor.cal X G (fun _ _ _ _ _ _ us hl => match us, hl with | [_, _], _ => rfl) fun f fd F => fn2 F sc_common_divisor rfl fun a c _ => b_common_divisor B a c
  have c_is_row_number : Cal lp w K mg base 2 "is_row_number" ["k"] (sp1 K (fun (_ : Int) => True) true irn) := d_is_row_number.cal X G (fun _ _ _ _ _ _ us hl => match us, hl with | [_], _ => rfl) fun f fd F => fn1 F sc_is_row_number rfl fun a _ => b_is_row_number B g_GREAT_FROM c_is_whole a
  have c_is_row : Cal lp w K mg base 3 "is_row" ["row"] (sp1 K (fun (xs : List Int) => xs.length ≤ 1000) true isRow) := d_is_row.cal X G (fun _ _ _ _ _ _ us hl => match us, hl with | [_], _ => rfl) fun f fd F => fn1 F sc_is_row rfl fun a hp => b_is_row B g_LONGEST c_is_row_number a hp
  have c_refuse_no_row : Cal lp w K mg base 4 "refuse_no_row" ["row"] (sp1 K (fun (xs : List Int) => isRow xs = true) true unit1) := d_refuse_no_row.cal X G (fun _ _ _ _ _ _ us hl => match us, hl with | [_], _ => rfl) fun f fd F => fn1U F sc_refuse_no_row rfl fun a hp => b_refuse_no_row c_is_row a hp
  have c_without_divisor : Cal lp w K mg base 2 "without_divisor" ["numbers"] (sp1 K PWd true wd) := d_without_divisor.cal X G (fun _ _ _ _ _ _ us hl => match us, hl with | [_], _ => rfl) fun f fd F => fn1 F sc_without_divisor rfl fun a hp => b_without_divisor c_common_divisor a hp
  have c_first_place : Cal lp w K mg base 1 "first_place" ["numbers"] (sp1 K (fun (xs : List Int) => xs.length ≤ 100 ∧ _root_.EP.fsV xs ≠ 0) true fpI) := d_first_place.cal X G (fun _ _ _ _ _ _ us hl => match us, hl with | [_], _ => rfl) fun f fd F => fn1 F sc_first_place rfl fun a hp => b_first_place B a hp.1 hp.2
  have c_first_above_nought : Cal lp w K mg base 2 "first_above_nought" ["numbers"] (sp1 K (fun (xs : List Int) => xs.length ≤ 100 ∧ _root_.EP.fsV xs ≠ 0) false faV) := d_first_above_nought.cal X G (fun _ _ _ _ _ _ us hl => match us, hl with | [_], _ => rfl) fun f fd F => fn1 F sc_first_above_nought rfl fun a hp => b_first_above_nought c_first_place a hp.1 hp.2
  have c_product_of : Cal lp w K mg base 1 "product_of" ["row", "x", "y"] (sp3 K PPo true _root_.EP.prL) := d_product_of.cal X G (fun _ _ _ _ _ _ us hl => match us, hl with | [_, _, _], _ => rfl) fun f fd F => fn3 F sc_product_of rfl fun a b c hp => b_product_of B a b c hp
  have c_point_of : Cal lp w K mg base 5 "point_of" ["row", "zero", "line"] (sp3 K PPt false ptF) := d_point_of.cal X G (fun _ _ _ _ _ _ us hl => match us, hl with | [_, _, _], _ => rfl) fun f fd F => fn3 F sc_point_of rfl fun a b c hp => b_point_of B c_refuse_no_row c_without_divisor c_first_place c_first_above_nought c_product_of a b c hp
  have c_line_of : Cal lp w K mg base 5 "line_of" ["row", "zero", "point"] (sp3 K PLn true lnF) := d_line_of.cal X G (fun _ _ _ _ _ _ us hl => match us, hl with | [_, _, _], _ => rfl) fun f fd F => fn3 F sc_line_of rfl fun a b c hp => b_line_of B c_refuse_no_row c_without_divisor c_first_place c_first_above_nought a b c hp
  have c_law_cell_at : Cal lp w K mg base 1 "_law_cell_at" ["_law_script", "_law_k"] (sp2 K (fun _ k => 0 ≤ k) true dcell) := d_law_cell_at.cal X G (fun _ _ _ _ _ _ us hl => match us, hl with | [_, _], _ => rfl) fun f fd F => fn2 F sc_law_cell_at rfl fun a c hp => b_law_cell_at B a c hp
  have c_law_big : Cal lp w K mg base 1 "_law_big" ["_law_cell", "_law_k"] (sp2 K (fun _ k => 0 ≤ k ∧ k ≤ 100) true bg9) := d_law_big.cal X G (fun _ _ _ _ _ _ us hl => match us, hl with | [_, _], _ => rfl) fun f fd F => fn2 F sc_law_big rfl fun a c hp => b_law_big B a c hp.1 hp.2
  have c_law_common : Cal lp w K mg base 1 "_law_common" ["_law_a", "_law_b"] (sp2 K (fun _ _ => True) true gcI) := d_law_common.cal X G (fun _ _ _ _ _ _ us hl => match us, hl with | [_, _], _ => rfl) fun f fd F => fn2 F sc_law_common rfl fun a c _ => b_law_common B a c
  have c_law_is_zero : Cal lp w K mg base 2 "_law_is_zero" ["_law_row", "_law_zero"] (sp2 K PIz true isZ) := d_law_is_zero.cal X G (fun _ _ _ _ _ _ us hl => match us, hl with | [_, _], _ => rfl) fun f fd F => fn2 F sc_law_is_zero rfl fun a c hp => b_law_is_zero B c_law_common a c hp
  have c_law_drawn : Cal lp w K mg base 1 "_law_drawn" ["_law_cell", "_law_other"] (sp2 K (fun (_ _ : Int) => True) true drF) := d_law_drawn.cal X G (fun _ _ _ _ _ _ us hl => match us, hl with | [_, _], _ => rfl) fun f fd F => fn2 F sc_law_drawn rfl fun a b _ => b_law_drawn B a b
  have c_law_line : Cal lp w K mg base 2 "_law_line" ["_law_s", "_law_t"] (sp2 K (fun (s t : Int) => Sm 60 s ∧ Sm 60 t) true lnN) := d_law_line.cal X G (fun _ _ _ _ _ _ us hl => match us, hl with | [_, _], _ => rfl) fun f fd F => fn2 F sc_law_line rfl fun a b hp => b_law_line c_law_common a b hp.1 hp.2
  have c_law_lines : Cal lp w K mg base 3 "_law_lines" ["_law_cell", "_law_other"] (sp2 K (fun (_ _ : Int) => True) true lnsF) := d_law_lines.cal X G (fun _ _ _ _ _ _ us hl => match us, hl with | [_, _], _ => rfl) fun f fd F => fn2 F sc_law_lines rfl fun a b _ => b_law_lines B c_law_line a b
  have c_law_first : Cal lp w K mg base 1 "_law_first" ["_law_zero"] (sp1 K (fun (z : List Int) => z.length = 3 ∧ fsV z ≠ 0) true fpI) := d_law_first.cal X G (fun _ _ _ _ _ _ us hl => match us, hl with | [_], _ => rfl) fun f fd F => fn1 F sc_law_first rfl fun a hp => b_law_first B a hp.1 hp.2
  have c_law_lies : Cal lp w K mg base 2 "_law_lies" ["_law_row", "_law_zero", "_law_line_here", "_law_point"] (sp4 K PLi true liQ) := d_law_lies.cal X G (fun _ _ _ _ _ _ us hl => match us, hl with | [_, _, _, _], _ => rfl) fun f fd F => fn4 F sc_law_lies rfl fun a b c d hp => b_law_lies B c_law_first a b c d hp
  have c_law_one : Cal lp w K mg base 6 "_law_one" ["_law_row", "_law_zero", "_law_line_here"] (sp3 K POn false oneF) := d_law_one.cal X G (fun _ _ _ _ _ _ us hl => match us, hl with | [_, _, _], _ => rfl) fun f fd F => fn3 F sc_law_one rfl fun a b c hp => b_law_one B c_point_of c_line_of c_law_is_zero c_law_first c_law_lies a b c hp
  exact fn1 F sc_law rfl fun a hp => b_law B c_line_of c_law_cell_at c_law_big c_law_drawn c_law_lines c_law_first c_law_one a hp
end L2.EP.K
open PySem PySem.W PyProof.Rows
set_option maxRecDepth 100000 in
set_option maxHeartbeats 0 in
theorem PySem.Challenge.cw_everyplace_k40_lines_and_points_holds : PySem.Challenge.rw_everyplace_k40_lines_and_points.Holds := by
  w_on; o_law; k_head; (case hw => w_witness2)
  k_fill
  refine L2.walk_ofK (l := PySem.Challenge.rw_everyplace_k40_lines_and_points) (n := 63) (k := 7) (x := "_law_script") (CX := L2.CX0) (sp := L2.EP.spLaw) rfl (by decide) rfl ⟨rfl, by decide, by decide⟩ (fun w h Y => PySem.W.kIn_of Y) ?F ?S ?C
  case F =>
    intro w mg fa h KX G hmg
    have B : L2.EP.Bu mg := by
      refine' L2.EP.bu_mk (K := L2.KOf KX) KX G ?z1 ?z2 ?z3 ?z4 ?z5 ?z6 ?z7 ?z8 ?z9 ?z10 ?z11 ?z12 ?z13 ?z14 ?z15 ?z16 ?z17 ?z18 ?z19
      all_goals (dsimp only [L2.KOf]; k_is)
    have d_is_whole : L2.EP.Df (L2.KOf KX) "is_whole" L2.EP.K.s_is_whole := by
      dsimp only [L2.KOf]
      refine' L2.EP.Df.mk ?a ?l ?c ?k
      (case a => k_is); (case l => k_is); (case c => k_is); (case k => k_is)
    have d_common_divisor : L2.EP.Df (L2.KOf KX) "common_divisor" L2.EP.K.s_common_divisor := by
      dsimp only [L2.KOf]
      refine' L2.EP.Df.mk ?a ?l ?c ?k
      (case a => k_is); (case l => k_is); (case c => k_is); (case k => k_is)
    have d_is_row_number : L2.EP.Df (L2.KOf KX) "is_row_number" L2.EP.K.s_is_row_number := by
      dsimp only [L2.KOf]
      refine' L2.EP.Df.mk ?a ?l ?c ?k
      (case a => k_is); (case l => k_is); (case c => k_is); (case k => k_is)
    have d_is_row : L2.EP.Df (L2.KOf KX) "is_row" L2.EP.K.s_is_row := by
      dsimp only [L2.KOf]
      refine' L2.EP.Df.mk ?a ?l ?c ?k
      (case a => k_is); (case l => k_is); (case c => k_is); (case k => k_is)
    have d_refuse_no_row : L2.EP.Df (L2.KOf KX) "refuse_no_row" L2.EP.K.s_refuse_no_row := by
      dsimp only [L2.KOf]
      refine' L2.EP.Df.mk ?a ?l ?c ?k
      (case a => k_is); (case l => k_is); (case c => k_is); (case k => k_is)
    have d_without_divisor : L2.EP.Df (L2.KOf KX) "without_divisor" L2.EP.K.s_without_divisor := by
      dsimp only [L2.KOf]
      refine' L2.EP.Df.mk ?a ?l ?c ?k
      (case a => k_is); (case l => k_is); (case c => k_is); (case k => k_is)
    have d_first_place : L2.EP.Df (L2.KOf KX) "first_place" L2.EP.K.s_first_place := by
      dsimp only [L2.KOf]
      refine' L2.EP.Df.mk ?a ?l ?c ?k
      (case a => k_is); (case l => k_is); (case c => k_is); (case k => k_is)
    have d_first_above_nought : L2.EP.Df (L2.KOf KX) "first_above_nought" L2.EP.K.s_first_above_nought := by
      dsimp only [L2.KOf]
      refine' L2.EP.Df.mk ?a ?l ?c ?k
      (case a => k_is); (case l => k_is); (case c => k_is); (case k => k_is)
    have d_product_of : L2.EP.Df (L2.KOf KX) "product_of" L2.EP.K.s_product_of := by
      dsimp only [L2.KOf]
      refine' L2.EP.Df.mk ?a ?l ?c ?k
      (case a => k_is); (case l => k_is); (case c => k_is); (case k => k_is)
    have d_point_of : L2.EP.Df (L2.KOf KX) "point_of" L2.EP.K.s_point_of := by
      dsimp only [L2.KOf]
      refine' L2.EP.Df.mk ?a ?l ?c ?k
      (case a => k_is); (case l => k_is); (case c => k_is); (case k => k_is)
    have d_line_of : L2.EP.Df (L2.KOf KX) "line_of" L2.EP.K.s_line_of := by
      dsimp only [L2.KOf]
      refine' L2.EP.Df.mk ?a ?l ?c ?k
      (case a => k_is); (case l => k_is); (case c => k_is); (case k => k_is)
    have d_law_cell_at : L2.EP.Df (L2.KOf KX) "_law_cell_at" L2.EP.K.s_law_cell_at := by
      dsimp only [L2.KOf]
      refine' L2.EP.Df.mk ?a ?l ?c ?k
      (case a => k_is); (case l => k_is); (case c => k_is); (case k => k_is)
    have d_law_big : L2.EP.Df (L2.KOf KX) "_law_big" L2.EP.K.s_law_big := by
      dsimp only [L2.KOf]
      refine' L2.EP.Df.mk ?a ?l ?c ?k
      (case a => k_is); (case l => k_is); (case c => k_is); (case k => k_is)
    have d_law_common : L2.EP.Df (L2.KOf KX) "_law_common" L2.EP.K.s_law_common := by
      dsimp only [L2.KOf]
      refine' L2.EP.Df.mk ?a ?l ?c ?k
      (case a => k_is); (case l => k_is); (case c => k_is); (case k => k_is)
    have d_law_is_zero : L2.EP.Df (L2.KOf KX) "_law_is_zero" L2.EP.K.s_law_is_zero := by
      dsimp only [L2.KOf]
      refine' L2.EP.Df.mk ?a ?l ?c ?k
      (case a => k_is); (case l => k_is); (case c => k_is); (case k => k_is)
    have d_law_drawn : L2.EP.Df (L2.KOf KX) "_law_drawn" L2.EP.K.s_law_drawn := by
      dsimp only [L2.KOf]
      refine' L2.EP.Df.mk ?a ?l ?c ?k
      (case a => k_is); (case l => k_is); (case c => k_is); (case k => k_is)
    have d_law_line : L2.EP.Df (L2.KOf KX) "_law_line" L2.EP.K.s_law_line := by
      dsimp only [L2.KOf]
      refine' L2.EP.Df.mk ?a ?l ?c ?k
      (case a => k_is); (case l => k_is); (case c => k_is); (case k => k_is)
    have d_law_lines : L2.EP.Df (L2.KOf KX) "_law_lines" L2.EP.K.s_law_lines := by
      dsimp only [L2.KOf]
      refine' L2.EP.Df.mk ?a ?l ?c ?k
      (case a => k_is); (case l => k_is); (case c => k_is); (case k => k_is)
    have d_law_first : L2.EP.Df (L2.KOf KX) "_law_first" L2.EP.K.s_law_first := by
      dsimp only [L2.KOf]
      refine' L2.EP.Df.mk ?a ?l ?c ?k
      (case a => k_is); (case l => k_is); (case c => k_is); (case k => k_is)
    have d_law_lies : L2.EP.Df (L2.KOf KX) "_law_lies" L2.EP.K.s_law_lies := by
      dsimp only [L2.KOf]
      refine' L2.EP.Df.mk ?a ?l ?c ?k
      (case a => k_is); (case l => k_is); (case c => k_is); (case k => k_is)
    have d_law_one : L2.EP.Df (L2.KOf KX) "_law_one" L2.EP.K.s_law_one := by
      dsimp only [L2.KOf]
      refine' L2.EP.Df.mk ?a ?l ?c ?k
      (case a => k_is); (case l => k_is); (case c => k_is); (case k => k_is)
    have d_law : L2.EP.Df (L2.KOf KX) "law" L2.EP.K.s_law := by
      dsimp only [L2.KOf]
      refine' L2.EP.Df.mk ?a ?l ?c ?k
      (case a => k_is); (case l => k_is); (case c => k_is); (case k => k_is)
    have g_GREAT_FROM : L2.EP.MgI mg "GREAT_FROM" 1073741824 := by
      refine' L2.EP.MgI.mk (K := L2.KOf KX) KX G ?ga0
      (case ga0 => dsimp only [L2.KOf]; k_is)
    have g_LONGEST : L2.EP.MgI mg "LONGEST" 8 := by
      refine' L2.EP.MgI.mk (K := L2.KOf KX) KX G ?ga1
      (case ga1 => dsimp only [L2.KOf]; k_is)
    exact L2.EP.K.fin KX G hmg B g_GREAT_FROM g_LONGEST d_is_whole d_common_divisor d_is_row_number d_is_row d_refuse_no_row d_without_divisor d_first_place d_first_above_nought d_product_of d_point_of d_line_of d_law_cell_at d_law_big d_law_common d_law_is_zero d_law_drawn d_law_line d_law_lines d_law_first d_law_lies d_law_one d_law
  case S => exact fun K H a ns hl hO hS => L2.EP.law_start K H a ns hl hS
  case C => exact fun _ _ _ _ z => z

